import PyProof.Rows.All
import Wide.All
import OpenK.AllK
import Wide.FinOn
import Lean
import PyProof.EqAt
import PyProof.EqKinds
import PyProof.TupleCall
import KE.KSortTup
import KE.KDictOf
import PyProof.AttrMissHeap
import KE.KSortKey
import KE.KEqDict
import KE.KNestM
import KE.KLam
import KE.KBoundM
import KE.KSuperObj
import PySem.Challenge.RW_pagefolk_k05_no_whole_set
set_option Elab.async false
set_option linter.all false
set_option maxRecDepth 100000
def qa:=@PySem.wpAny_bind
def qb:=@PySem.wpAny_pure
def qs:=@if_neg
def qt:=@if_pos
def q0:=@PySem.Heap.lt_size
def qA:=@PySem.Heap.get?_push_of_some
def qB:=@PySem.Heap.get?_push_size
def qC:=@Option.some.inj
def qD:=@PySem.wpAny_holding
def qE:=@PySem.wpAny_mono
def qF:=@decide_eq_true
def qG:=@of_decide_eq_true
def qH:=@PySem.wpAny_call_entry
def qI:=@PySem.wpAny_load
def Y{α:Sort u}{a:α}:a=a:=rfl
def qc:=@List.length_map
def qd:=@Nat.le_refl
def qf:=@List.getElem?_eq_getElem
def qg:=@Nat.ne_of_lt
def qh:=@Nat.le_trans
def qi:=@List.getElem?_map
def qj:=@List.mem_map
def qk:=@Nat.zero_le
def ql:=@List.mem_cons_self
def qm:=@List.length_append
def qo:=@List.mem_of_getElem?
def qp:=@Array.getElem?_eq_getElem
def qq:=@List.getD_eq_getElem?_getD
def qr:=@Bool.false_ne_true
def qu:=@List.mem_singleton
def qv:=@Nat.lt_of_lt_of_le
def qw:=@List.mem_cons_of_mem
def qx:=@Array.length_toList
def qy:=@List.getElem?_eq_some_iff
def qz:=@List.size_toArray
def za:=@List.mem_cons
def zb:=@List.mem_append
def zc:=@List.length_cons
def zd:=@Bool.and_eq_true
def ze:=@Nat.le_of_lt
def zf:=@Array.getElem?_toList
def zg:=@Nat.ne_of_gt
def zh:=@List.map_cons
def zj:=@List.length_take
def zk:=@List.length_singleton
def zm:=@List.mem_range
def zn:=@List.getElem_of_mem
def zo:=@List.length_drop
def zq:=@Nat.lt_succ_of_lt
def zr:=@Nat.lt_irrefl
def zu:=@List.nodup_cons
def zv:=@Nat.not_lt_zero
def zw:=@Nat.lt_succ_self
def zx:=@List.mem_iff_getElem
def zy:=@List.ext_getElem?
def z0:=@List.map_append
def z7:=@Array.getD_eq_getD_getElem?
def z8:=@List.mem_append_right
def z9:=@Nat.lt_of_le_of_lt
def wa:=@List.map_map
def wb:=@List.take_length
def wc:=@Nat.succ_le_succ
def we:=@Nat.le_succ
def wf:=@List.length_set
def wg:=@List.replicate_succ
def wk:=@Nat.lt_trans
def wl:=@Option.map_eq_some_iff
def wm:=@List.nodup_nil
def wn:=@List.getElem_mem
def wo:=@List.getElem?_eq_none
def wq:=@List.take_add_one
def wu:=@List.length_nil
def wv:=@List.all_eq_true
def ww:=@List.sum_cons
def wx:=@List.getElem?_range
def wy:=@Nat.le_add_right
def wz:=@List.pairwise_iff_getElem
def w5:=@List.find?_cons
def w6:=@List.getElem?_toArray
def va:=@Nat.lt_add_of_pos_right
def vd:=@Nat.add_lt_add_left
def vf:=@List.getElem?_set_ne
def vg:=@Bool.eq_iff_iff
def vh:=@List.flatten_cons
def vi:=@Nat.le_of_not_lt
def vj:=@List.length_range
def vk:=@List.mem_of_mem_take
def vm:=@Nat.zero_add
def vn:=@List.pairwise_map
def vp:=@Nat.mod_lt
def vq:=@Array.getElem?_eq_some_iff
def vt:=@List.mem_filter
def vy:=@List.append_nil
def vz:=@List.getElem?_replicate
def yb:=@List.any_cons
def yc:=@List.append_assoc
def yd:=@List.foldl_cons
def ye:=@Nat.sub_zero
def yf:=@Array.getElem?_eq_none
def yg:=@List.mem_append_left
def yh:=@List.mem_filterMap
def yi:=@List.any_eq_true
def yj:=@List.drop_zero
def yk:=@List.getElem?_append_left
def yl:=@List.getElem?_append_right
def ym:=@List.getElem_map
def yn:=@Nat.min_self
def yo:=@Array.forIn_toList
def yq:=@List.find?_eq_none
def yr:=@Nat.lt_add_right
def yt:=@Nat.succ_pos
def yu:=@Nat.lt_or_eq_of_le
def yv:=@Nat.min_le_left
def yw:=@List.getElem?_set_self
def yx:=@Option.isSome_iff_exists
def yy:=@Nat.mul_comm
def yz:=@Option.map_some
def y7:=@List.not_mem_nil
def y8:=@List.mem_or_eq_of_mem_set
def y9:=@List.map_set
def ja:=@Nat.le_of_ble_eq_true
def jb:=@List.take_of_length_le
def jc:=@Nat.lt_or_ge
def jd:=@List.map_congr_left
def je:=@Nat.add_zero
def jf:=@Nat.lt_of_succ_lt_succ
def jg:=@Nat.succ_ne_self
def jh:=@Nat.lt_trichotomy
def ji:=@List.range_succ
def jj:=@List.getElem?_cons_succ
def jk:=@Option.bind_eq_some_iff
def jl:=@Bool.eq_false_iff
def jm:=@List.filterMap_cons
def jn:=@Array.mem_toList_iff
def jo:=@List.of_mem_zip
def jp:=@List.filterMap_map
def jq:=@Nat.add_comm
def jr:=@List.nil_append
def jt:=@List.lookup_cons
def ju:=@Nat.min_eq_left
def jv:=@List.mem_of_mem_drop
def jw:=@List.map_take
def jx:=@List.map_drop
def jy:=@Array.size_map
def jz:=@List.not_lt
def j4:=@Array.toList_inj
def j6:=@List.range_succ_eq_map
def j8:=@List.length_filter_le
def j9:=@Nat.add_assoc
def gb:=@Option.getD_some
def gc:=@Bool.true_and
def gh:=@List.eq_nil_of_length_eq_zero
def gj:=@Nat.le_of_lt_succ
def gq:=@Array.append_assoc
def gr:=@List.length_replicate
def gs:=@Array.size_append
def gu:=@List.getElem_toArray
def gv:=@List.toList_toArray
def gw:=@List.drop_eq_getElem_cons
def gx:=@List.findIdx?_eq_some_iff_getElem
def gy:=@List.getElem?_inj
def gz:=@List.findIdx?_eq_none_iff
def kg:=@List.range_eq_range'
def kh:=@List.filter_eq_nil_iff
def ki:=@List.mem_range'_1
def kj:=@List.length_eq_zero_iff
def km:=@List.mem_of_find?_eq_some
def kq:=@List.perm_append_singleton
def kr:=@List.getElem?_take
def ku:=@List.getElem?_drop
def kx:=@Nat.lt_of_le_of_ne
def ky:=@Array.getElem?_setIfInBounds
def kz:=@List.filterMap_cons_some
def k8:=@Array.toList_filterMap
def k9:=@List.length_eraseIdx_of_lt
def md:=@Array.getElem_toList
def mf:=@List.getElem?_eq_none_iff
def mh:=@List.set_eq_take_append_cons_drop
def mi:=@List.eq_nil_iff_forall_not_mem
namespace L2
open PySem PySem.Spec PyProof.Rows
abbrev Key:=Sum Int Str
def keyIs:Key->Value->Bool
 |.inl k,v=>Value.isInt k v
 |.inr x,v=>Value.isStrOf x v
def keyH(w:World):Key->Int
 |.inl k=>hashInt k
 |.inr x=>hashStr w x
def xAat:∀{k:Key} {v:Value},keyIs k v=true->(∃i t,k=Sum.inl i/\v=Value.int i t)\/(∃x t,k=Sum.inr x/\v=Value.str x t)
 |.inl i,v,h=>by
  obtain⟨t,e⟩:=Value.isInt_shape (k:=i) (v:=v) h;exact .inl ⟨i,t,Y,e⟩
 |.inr x,v,h=>by
  obtain⟨t,e⟩:=Value.isStrOf_shape (x:=x) (v:=v) h;exact .inr ⟨x,t,Y,e⟩
def xAnp(i:Int)(t:Tok):keyIs (.inl i) (.int i t)=true:=by simp[keyIs,Value.isInt]
def xAnq(x:Str)(t:Tok):keyIs (.inr x) (.str x t)=true:=by simp[keyIs,Value.isStrOf]
def key_ll(a b:Int):decide ((Sum.inl a:Key)=Sum.inl b)=(a==b):=by
 by_cases e:a=b
 ·subst e;simp
 ·have h:¬(Sum.inl a:Key)=Sum.inl b:=λq=>e (Sum.inl.inj q)
  rw[decide_eq_false h];exact(beq_eq_false_iff_ne.mpr e).symm
def key_rr(a b:Str):decide ((Sum.inr a:Key)=Sum.inr b)=decide (a=b):=by
 by_cases e:a=b
 ·subst e;simp
 ·have h:¬(Sum.inr a:Key)=Sum.inr b:=λq=>e (Sum.inr.inj q)
  rw[decide_eq_false h,decide_eq_false e]
def key_lr(a:Int)(b:Str):decide ((Sum.inl a:Key)=Sum.inr b)=false:=decide_eq_false (λq=>nomatch q)
def key_rl(a:Str)(b:Int):decide ((Sum.inr a:Key)=Sum.inl b)=false:=decide_eq_false (λq=>nomatch q)
def mixKind(prog:Program)(w:World):PySem.KeyKind prog w Key where
 is:=keyIs
 hash:=keyH w
 inj:=λv a b f d=>by
  rcases xAat f with⟨i,t,rfl,rfl⟩|⟨x,t,rfl,rfl⟩
  ·rcases xAat d with⟨j,u,rfl,e⟩|⟨y,u,rfl,e⟩
   ·injection e with e1 _;rw[e1]
   ·exact nomatch e
  ·rcases xAat d with⟨j,u,rfl,e⟩|⟨y,u,rfl,e⟩
   ·exact nomatch e
   ·injection e with e1 _;rw[e1]
 byValue:=λk v h=>by
  rcases xAat h with⟨i,t,rfl,rfl⟩|⟨x,t,rfl,rfl⟩ <;> rfl
 pyHash:=λc h=>by
  rcases xAat c with⟨i,t,rfl,rfl⟩|⟨x,t,rfl,rfl⟩
  ·exact wpAny_pyHash_int h
  ·exact wpAny_pyHash_str h
 eqBool:=λg c h=>by
  rcases xAat g with⟨i,t,rfl,rfl⟩|⟨x,t,rfl,rfl⟩
  ·rcases xAat c with⟨j,u,rfl,rfl⟩|⟨y,u,rfl,rfl⟩
   ·rw[key_ll]at h;exact wpAny_eqBool_int h
   ·rw[key_lr]at h;exact SeqAt.EqAt.int_str i t y u _ _ _ _ h
  ·rcases xAat c with⟨j,u,rfl,rfl⟩|⟨y,u,rfl,rfl⟩
   ·rw[key_rl]at h;exact SeqAt.EqAt.str_int x t j u _ _ _ _ h
   ·rw[key_rr]at h;exact wpAny_eqBool_str h
 «strs»:=λk x t v h=>by
  rcases xAat h with⟨i,u,rfl,e⟩|⟨y,u,rfl,e⟩
  ·exact nomatch e
  ·injection e with e1 _
   subst e1;cases v <;> rfl
def xAiq(prog:Program)(w:World)(i:Int)(t:Tok):(mixKind prog w).is (.inl i) (.int i t)=true:=xAnp i t
def xAir(prog:Program)(w:World)(x:Str)(t:Tok):(mixKind prog w).is (.inr x) (.str x t)=true:=xAnq x t
inductive V where
 |non|bl (b:Bool)|int (i:Int)|str (x:Str)|byt (b:Array UInt8)|flt (b:UInt64)|ref (a:Addr)|ty (n:String)
 deriving DecidableEq
def RelV:V->Value->Prop
 |.non,u=>u=Value.none
 |.bl b,u=>u=Value.bool b
 |.int i,u=>∃t,u=Value.int i t
 |.str x,u=>∃t,u=Value.str x t
 |.byt b,u=>∃t,u=Value.bytes b t
 |.flt b,u=>∃t,u=Value.float b t
 |.ref a,u=>u=Value.ref a
 |.ty n,u=>u=Value.type n
abbrev Vals:List V->List Value->Prop:=Paired RelV
def Vals.length(r:Vals xs us):xs.length=us.length:=Paired.length r
def Vals.get:∀{xs:List V} {us:List Value} {i:Nat} {x:V},Vals xs us->xs[i]?=some x->∃u,us[i]?=some u/\RelV x u
 |_,_,_,_,.nil,e=>by simp at e
 |_,_,0,_,.cons r _,e=>by simp at e;subst e;exact⟨_,Y,r⟩
 |_,_,i+1,x,.cons _ t,e=>by
  obtain⟨u,h1,h2⟩:=Vals.get (i:=i) (x:=x) t (by simpa using e);exact⟨u,by simpa using h1,h2⟩
def Vals.set(r:RelV x u):∀{xs:List V} {us:List Value} (i:Nat),Vals xs us->Vals (xs.set i x) (us.set i u)
 |_,_,_,.nil=>.nil
 |_,_,0,.cons _ t=>.cons r t
 |_,_,i+1,.cons q t=>.cons q (Vals.set r i t)
def Vals.append:∀{xs ys:List V} {us ws:List Value},Vals xs us->Vals ys ws->Vals (xs++ys) (us++ws)
 |_,_,_,_,.nil,s=>s
 |_,_,_,_,.cons r t,s=>.cons r (Vals.append t s)
def Vals.take:∀{xs:List V} {us:List Value} (n:Nat),Vals xs us->Vals (xs.take n) (us.take n)
 |_,_,0,_=>.nil
 |_,_,_+1,.nil=>.nil
 |_,_,n+1,.cons r t=>.cons r (Vals.take n t)
def Vals.drop:∀{xs:List V} {us:List Value} (n:Nat),Vals xs us->Vals (xs.drop n) (us.drop n)
 |_,_,0,r=>r
 |_,_,_+1,.nil=>.nil
 |_,_,n+1,.cons _ t=>Vals.drop n t
def RelO:Option V->Option Value->Prop
 |some v,some u=>RelV v u
 |none,none=>True
 |_,_=>False
def KV{κ:Type}:List (κ×V)->List (κ×Value)->Prop:=Paired λ(p:κ×V) (q:κ×Value)=>p.1=q.1/\RelV p.2 q.2
def kV:Key->V
 |.inl i=>.int i
 |.inr x=>.str x
inductive KD where
 |non
 |int (i:Int)
 |tup (ks:List Key)
 |two (ks ls:List Key)
deriving DecidableEq
def gHash(P:Program)(w:World):KD->Int
 |.non=>4238894112
 |.int i=>hashInt i
 |.tup ks=>(tupleKind (mixKind P w)).hash ks
 |.two ks ls=>reduceHash (Builtin.Tuple.tupleHashOf [(tupleKind (mixKind P w)).hash ks,(tupleKind (mixKind P w)).hash ls])
def gEnt(P:Program)(w:World)(x:KD×Value×Value):DictEntry:=⟨gHash P w x.1,x.2.1,x.2.2⟩
inductive HO where
 |lst (xs:List V)
 |tup (xs:List V)
 |dK (kvs:List (Key×V))|dT (kvs:List (List Key×V))
 |dG (kvs:List (KD×V×V))
 |set (S:Int->Bool) (n:Nat)
 |ins (C dx:Addr) (fs:List (Str×V))
 |own (x:Addr)
 |xd (fs:List (Str×V))
 |met (f x:Addr)
 |rng (lo hi:Int)
 |frz (o:Obj) (u:HO)
 |tbl (ps:Array Value)
 |ext (φ:Heap->Prop)
abbrev Hp:=Addr->Option HO
def GK(H:Hp):KD->V->Prop
 |.non,v=>v=.non
 |.int i,v=>v=.int i
 |.tup ks,v=>∃b,v=.ref b/\H b=some (.tup (ks.map kV))
 |.two ks ls,v=>∃b c d,v=.ref b/\H b=some (.tup [.ref c,.ref d])/\H c=some (.tup (ks.map kV))/\H d=some (.tup (ls.map kV))
def upd(H:Hp)(a:Addr)(o:HO):Hp:=λb=>if b=a then some o else H b
def xAac:upd H a o a=some o:=by unfold upd;rw[qt rfl]
def xAaf(h:b≠a):upd H a o b=H b:=by unfold upd;rw[qs h]
def ne_of{H:Hp}{a b:Addr}{o u:HO}(h:H a=some o)(h':H b=some u)(d:o≠u):a≠b:=by
 intro e;subst e;rw[h]at h';exact d (qC h')
def xAai{H:Hp}{a b:Addr}{o:HO}(h:H a=some o)(h':H b=none):a≠b:=by
 intro e;subst e;rw[h]at h';cases h'
section
variable (P:Program)(w:World)
def ObjOk(H:Hp)(h:Heap)(a:Addr):HO->Prop
 |.lst xs=>xs.length≤sizeLine/\∃(b:List Value) (n:Nat),Vals xs b/\h.get? a=some { cls:=.type "list",data:=.seq b.toArray n }
 |.tup xs=>xs.length≤sizeLine/\∃b:List Value,Vals xs b/\IsTup h a b.toArray
 |.dK kvs=>kvs.length≤sizeLine/\(a==sysModules)=false/\∃vs,KV kvs vs/\h.DictOf (mixKind P w) a vs
 |.dT kvs=>kvs.length≤sizeLine/\(a==sysModules)=false/\∃xs:List (List Key×Addr×Value),
   Paired (λ(p:List Key×V) (q:List Key×Addr×Value)=>p.1=q.1/\H q.2.1=some (.tup (p.1.map kV))/\RelV p.2 q.2.2) kvs xs ∧
   ∃o es ep,h.get? a=some o/\o.ExactDict/\o.data=.dict es ep/\es.toList=xs.map (entryOfKey (tupleKind (mixKind P w)))/\(xs.map (·.1)).Nodup
 |.dG kvs=>kvs.length≤sizeLine/\(a==sysModules)=false/\∃xs:List (KD×Value×Value),
   Paired (λ(p:KD×V×V) (q:KD×Value×Value)=>p.1=q.1/\GK H p.1 p.2.1/\RelV p.2.1 q.2.1/\RelV p.2.2 q.2.2) kvs xs ∧
   ∃o es ep,h.get? a=some o/\o.ExactDict/\o.data=.dict es ep/\es.toList=xs.map (gEnt P w)/\(xs.map (·.1)).Nodup
 |.set S n=>h.SetOf (intKind P w) a S n
 |.ins C dx fs=>H dx=some (.own a)/\fs.length≤1000/\dx≠a/\h.get? a=some (PySem.W.instObj C dx) ∧
   ∃mA,h.Ns1 dx mA/\(∀f,RelO (fs.lookup f) (mA f))/\PySem.Within mA (fs.map (·.1))
 |.own _=>∃o,h.get? a=some o
 |.xd fs=>∃mA,h.Ns1 a mA/\∀f,RelO (fs.lookup f) (mA f)
 |.rng lo hi=>∃t u v,h.get? a=some { cls:=.type "range",data:=.fields #[.int lo t,.int hi u,.int 1 v] }
 |.frz o u=>h.get? a=some o/\ObjOk H h a u
 |.tbl ps=>h.get? a=some { cls:=.none,data:=.fields ps }
 |.met f x=>h.get? a=some (PySem.W.methodObj (.ref f) (.ref x))
 |.ext φ=>φ h/\(∃o,h.get? a=some o)/\∀h1 h2:Heap,φ h1->(∀o,h1.get? a=some o->h2.get? a=some o)->φ h2
def HOk(H:Hp)(h:Heap):Prop:=∀a o,H a=some o->ObjOk P w H h a o
end
section
variable {P:Program}{w:World}{H H':Hp}{h h':Heap}{a:Addr}{o:HO}
def ObjOk.lt(x:ObjOk P w H h a o):a<h.objs.size:=by
 cases o with
 |lst xs=>obtain⟨_,_,_,_,e⟩:=x;exact q0 e
 |tup xs=>obtain⟨_,_,_,p⟩:=x;exact p.lt
 |dK kvs=>obtain⟨_,_,_,_,o,_,_,e,_⟩:=x;exact q0 e
 |dT kvs=>obtain⟨_,_,_,_,o,_,_,e,_⟩:=x;exact q0 e
 |dG kvs=>obtain⟨_,_,_,_,o,_,_,e,_⟩:=x;exact q0 e
 |set S n=>obtain⟨o,_,_,_,e,_⟩:=x;exact q0 e
 |ins C dx fs=>obtain⟨_,_,_,e,_⟩:=x;exact q0 e
 |own y=>obtain⟨_,e⟩:=x;exact q0 e
 |xd fs=>obtain⟨_,⟨_,_,_,e,_⟩,_⟩:=x;exact q0 e
 |rng lo hi=>obtain⟨_,_,_,e⟩:=x;exact q0 e
 |frz b u=>obtain⟨e,_⟩:=x;exact q0 e
 |tbl ps=>exact q0 (show h.get? a=some _ from x)
 |met f y=>exact q0 (show h.get? a=some _ from x)
 |ext c=>obtain⟨_,⟨_,e⟩,_⟩:=x;exact q0 e
def Paired.mapP{α β:Type}{F G:α->β->Prop}:∀{l₁:List α} {c:List β},Paired F l₁ c->(∀a b,F a b->G a b)->Paired G l₁ c
 |_,_,.nil,_=>.nil
 |_,_,.cons r t,f=>.cons (f _ _ r) (Paired.mapP t f)
def GK.stay{k:KD}(g:GK H k v)(a:∀b xs,H b=some (.tup xs)->H' b=some (.tup xs)):GK H' k v:=by
 cases k with
 |non=>exact g
 |int i=>exact g
 |tup ks=>obtain⟨b,e,h⟩:=g;exact⟨b,e,a _ _ h⟩
 |two ks j=>obtain⟨b,c,d,e,h1,h2,f⟩:=g;exact⟨b,c,d,e,a _ _ h1,a _ _ h2,a _ _ f⟩
def ObjOk.stay(x:ObjOk P w H h a o)(k:∀b u,(b=a\/H b=some (.own a))->h.get? b=some u->h'.get? b=some u)(A:∀b,H b=some (.own a)->H' b=some (.own a))(j:∀b xs,H b=some (.tup xs)->H' b=some (.tup xs)):ObjOk P w H' h' a o:=by
 induction o with
 |lst xs=>obtain⟨z,i,n,r,e⟩:=x;exact⟨z,i,n,r,k _ _ (.inl rfl) e⟩
 |tup xs=>obtain⟨z,i,r,g,e,c⟩:=x;exact⟨z,i,r,g,k _ _ (.inl rfl) e,c⟩
 |dK kvs=>obtain⟨z,y,vs,r,g,es,ep,e,c⟩:=x;exact⟨z,y,vs,r,g,es,ep,k _ _ (.inl rfl) e,c⟩
 |dT kvs =>
  obtain⟨z,y,xs,r,g,es,ep,e,c⟩:=x;exact⟨z,y,xs,Paired.mapP r λp q z=>⟨z.1,j _ _ z.2.1,z.2.2⟩,g,es,ep,k _ _ (.inl rfl) e,c⟩
 |dG kvs =>
  obtain⟨z,y,xs,r,g,es,ep,e,c⟩:=x;exact⟨z,y,xs,Paired.mapP r λp q z=>⟨z.1,z.2.1.stay j,z.2.2⟩,g,es,ep,k _ _ (.inl rfl) e,c⟩
 |set S n=>obtain⟨g,es,ep,t,e,c⟩:=x;exact⟨g,es,ep,t,k _ _ (.inl rfl) e,c⟩
 |ins C dx fs =>
  obtain⟨d,z,l,e,mA,⟨od,es,ep,m,c⟩,r⟩:=x;exact⟨A _ d,z,l,k _ _ (.inl rfl) e,mA,⟨od,es,ep,k _ _ (.inr d) m,c⟩,r⟩
 |own y=>obtain⟨g,e⟩:=x;exact⟨g,k _ _ (.inl rfl) e⟩
 |xd fs=>obtain⟨mA,⟨od,es,ep,e,c⟩,r⟩:=x;exact⟨mA,⟨od,es,ep,k _ _ (.inl rfl) e,c⟩,r⟩
 |rng lo hi=>obtain⟨t,u,v,e⟩:=x;exact⟨t,u,v,k _ _ (.inl rfl) e⟩
 |frz g u s=>obtain⟨e,q⟩:=x;exact⟨k _ _ (.inl rfl) e,s q⟩
 |tbl ps =>
  have e:h.get? a=some { cls:=.none,data:=.fields ps }:=x;show h'.get? a=some { cls:=.none,data:=.fields ps };exact k a _ (.inl rfl) e
 |met f y =>
  have e:h.get? a=some (PySem.W.methodObj (.ref f) (.ref y)):=x;show h'.get? a=some (PySem.W.methodObj (.ref f) (.ref y));exact k a _ (.inl rfl) e
 |ext B=>obtain⟨p,⟨o,e⟩,st⟩:=x;exact⟨st _ _ p λo q=>k _ _ (.inl rfl) q,⟨o,k _ _ (.inl rfl) e⟩,st⟩
def HOk.lt(x:HOk P w H h)(e:H a=some o):a<h.objs.size:=(x a o e).lt
def HOk.fresh(x:HOk P w H h)(e:h.objs.size≤a):H a=none:=by
 cases q:H a with
 |none=>rfl
 |some u=>exact absurd (qv (x.lt q) e) (zr _)
def HOk.kept(x:HOk P w H h)(k:∀b u,h.get? b=some u->h'.get? b=some u):HOk P w H h':=λa o e =>
 (x a o e).stay (λb u _ q=>k b u q) (λ_ q=>q) λ_ _ q=>q
def HOk.laid(x:HOk P w H h)(k:∀b u,h.get? b=some u->h'.get? b=some u)(f:h.objs.size≤a)(new:ObjOk P w (upd H a o) h' a o):HOk P w (upd H a o) h':=λb u e=>by
 have hn:=x.fresh f
 by_cases d:b=a
 ·subst d;rw[xAac]at e;cases e;exact new
 ·rw[xAaf d]at e
  exact(x b u e).stay (λc v _ q=>k c v q) (λc q=>by rw[xAaf (xAai q hn)];exact q) λc xs q=>by rw[xAaf (xAai q hn)];exact q
end
def Rd(H:Hp)(a:Addr)(u:HO):Prop:=H a=some u\/∃o,H a=some (.frz o u)
def Rd.of(h:H a=some u):Rd H a u:=.inl h
def Rd.ok(r:Rd H a u)(x:HOk P w H h):ObjOk P w H h a u:=by
 rcases r with r|⟨o,r⟩
 ·exact x a u r
 ·obtain⟨_,q⟩:=x a _ r
  exact q
def Mut:Option HO->Prop
 |some (.lst _)=>True
 |some (.dK _)=>True
 |some (.dT _)=>True
 |some (.dG _)=>True
 |some (.set _ _)=>True
 |some (.ins _ _ _)=>True
 |some (.ext _)=>True
 |_=>False
section
variable {P:Program}{w:World}{H:Hp}{h h':Heap}{x e:Addr}{o':HO}
def HOk.write(ok:HOk P w H h)(i:Mut (H x))(m:e=x\/H e=some (.own x))(k:∀b u,b≠e->h.get? b=some u->h'.get? b=some u)(l:∃u,h'.get? e=some u)(new:ObjOk P w (upd H x o') h' x o'):HOk P w (upd H x o') h':=λb u q=>by
 have d:∀c y,H c=some (.own y)->c≠x:=λc y r z=>by subst z;rw[r]at i;exact i
 have f:∀c xs,H c=some (.tup xs)->c≠x:=λc xs r z=>by subst z;rw[r]at i;exact i
 by_cases j:b=x
 ·subst j;rw[xAac]at q;cases q;exact new
 ·rw[xAaf j]at q
  by_cases a:b=e
  ·have q':H b=some (.own x):=by
    rcases m with z|z
    ·exact absurd (a.trans z) j
    ·rw[a];exact z
   rw[q]at q';cases q';obtain⟨v,n⟩:=l;exact⟨v,by rw[a];exact n⟩
  ·refine(ok b u q).stay (λc v g r=>k c v ?_ r) (λc r=>by rw[xAaf (d c b r)];exact r) λc xs r=>by rw[xAaf (f c xs r)];exact r
   rcases g with rfl|g
   ·exact a
   ·rintro rfl
    rcases m with z|z
    ·exact d c b g z
    ·rw[g]at z;cases z;exact j rfl
end
structure Un(fs ex:List Addr)(H H':Hp)(h h':Heap):Prop where
 keep:∀b o,h.get? b=some o->H b=none->b∉fs->b∉ex->h'.get? b=some o
 slot:∀b o,h.get? b=some o->H b=none->b∈fs->b∉ex->∃sl,h'.get? b=some { o with slots:=sl }
 free:∀b o,h.get? b=some o->H b=none->b∉ex->H' b=none
 there:∀b o,h.get? b=some o->b∉ex->∃o',h'.get? b=some o'
 tups:∀b xs,H b=some (.tup xs)->H' b=some (.tup xs)
 frzs:∀b o u,H b=some (.frz o u)->H' b=some (.frz o u)
 tbls:∀b ps,H b=some (.tbl ps)->∃more,H' b=some (.tbl (ps++more))
 tupo:∀b o xs,h.get? b=some o->H b=some (.tup xs)->h'.get? b=some o
section
variable {fs fs' ex ex':List Addr}{H H1 H2:Hp}{h h1 h2 h':Heap}{a x e:Addr}{o:HO}
def Un.any(u:Un fs ex H H1 h h1){b:Addr}{a:Obj}(q:h.get? b=some a)(n:H b=none)(c:b∉ex):∃e,h1.get? b=some { a with slots:=e }:=by
 by_cases d:b∈fs
 ·exact u.slot b a q n d c
 ·exact⟨a.slots,u.keep b a q n d c⟩
def Un.trans(a:Un fs ex H H1 h h1)(b:Un fs ex H1 H2 h1 h2):Un fs ex H H2 h h2 where
 keep:=λc d q n g e=>b.keep c d (a.keep c d q n g e) (a.free c d q n e) g e
 slot:=λc d q n g e=>by
  obtain⟨m,f⟩:=a.slot c d q n g e;obtain⟨j,i⟩:=b.slot c _ f (a.free c d q n e) g e;exact⟨j,i⟩
 free:=λc d q n e=>by
  obtain⟨o',f⟩:=a.there c d q e;exact b.free c o' f (a.free c d q n e) e
 there:=λc d q e=>by
  obtain⟨o',f⟩:=a.there c d q e;exact b.there c o' f e
 tups:=λc xs q=>b.tups c xs (a.tups c xs q)
 frzs:=λc d xs q=>b.frzs c d xs (a.frzs c d xs q)
 tbls:=λc ps q=>by
  obtain⟨k,f⟩:=a.tbls c ps q;obtain⟨l,i⟩:=b.tbls c _ f;exact⟨k++l,by rw[i,gq]⟩
 tupo:=λc d xs q n=>b.tupo c d xs (a.tupo c d xs q n) (a.tups c xs n)
def Un.kept(k:∀b u,h.get? b=some u->h'.get? b=some u):Un fs ex H H h h' :=
 ⟨λb a q _ _ _=>k b a q,λb a q _ _ _=>⟨a.slots,k b a q⟩,λ_ _ _ n _=>n,λb a q _=>⟨a,k b a q⟩,λ_ _ q=>q,λ_ _ _ q=>q,λ_ ps q=>⟨#[],by rw[q];simp⟩,λb a _ q _=>k b a q⟩
def Un.refl:Un fs ex H H h h:=Un.kept λ_ _ q=>q
def Un.laid(k:∀b u,h.get? b=some u->h'.get? b=some u)(c:h.objs.size≤a)(hn:H a=none):Un fs ex H (upd H a o) h h' where
 keep:=λb u q _ _ _=>k b u q
 slot:=λb u q _ _ _=>⟨u.slots,k b u q⟩
 free:=λb u q n _=>by rw[xAaf (qg (qv (q0 q) c))];exact n
 there:=λb u q _=>⟨u,k b u q⟩
 tups:=λb xs q=>by rw[xAaf (xAai q hn)];exact q
 frzs:=λb u xs q=>by rw[xAaf (xAai q hn)];exact q
 tbls:=λb ps q=>⟨#[],by rw[xAaf (xAai q hn),q];simp⟩
 tupo:=λb u _ q _=>k b u q
def Un.write(d:Mut (H x))(g:e=x\/H e=some (.own x))(k:∀b u,b≠e->h.get? b=some u->h'.get? b=some u)(f:∃u,h'.get? e=some u):Un fs ex H (upd H x o) h h':=by
 have i:∀b,H b=none->b≠x:=λb n z=>by subst z;rw[n]at d;exact d
 have j:∀b,H b=none->b≠e:=λb n z=>by
  subst z;rcases g with r|r
  ·exact i b n r
  ·rw[n]at r;cases r
 have c:∀b u,H b=some u->¬Mut (some u)->b≠x:=λb u q nm z=>by subst z;rw[q]at d;exact nm d
 refine⟨λb u q n _ _=>k b u (j b n) q,λb u q n _ _=>⟨u.slots,k b u (j b n) q⟩,λb u q n _=>by rw[xAaf (i b n)];exact n,λb u q _=>?_,
  λb xs q=>by rw[xAaf (c b _ q λz=>z)];exact q,λb u xs q=>by rw[xAaf (c b _ q λz=>z)];exact q,λb ps q=>⟨#[],by rw[xAaf (c b _ q λz=>z),q];simp⟩,λb u xs q n=>k b u (λz=>by
   subst z;rcases g with r|r
   ·exact c b _ n (λz=>z) r
   ·rw[n]at r;cases r) q⟩
 by_cases a:b=e
 ·subst a;exact f
 ·exact⟨u,k b u a q⟩
end
def trk(h:Heap)(H:Hp):List Addr:=(List.range h.objs.size).filter λa=>(H a).isSome
def hidT(h:Heap)(H:Hp):Heap:=PySem.W.hideAll h (trk h H)
def xAnr(h:Heap)(H:Hp):(hidT h H).objs.size=h.objs.size:=PySem.W.hideAll_size _ _
def xArt(e:h.get? b=some o)(n:H b=none):(hidT h H).get? b=some o :=
 PySem.W.hideAll_get _ e λa=>by
  have q:(H b).isSome=true:=(vt.mp a).2;rw[n]at q;simp at q
def xAuk(e:(hidT h H).get? b=some o):h.get? b=some o/\H b=none:=by
 have a:h.get? b=some o:=PySem.W.of_hideAll (trk h H) e;refine⟨a,?_⟩
 cases q:H b with
 |none=>rfl
 |some x =>
  have c:b∈trk h H:=List.mem_filter.mpr ⟨List.mem_range.mpr (q0 a),by simp[q]⟩;have z:(hidT h H).get? b=none:=PySem.W.hideAll_none (trk h H) c;rw[z]at e;cases e
structure Mod(K:PySem.W.Frag)(mg:Str->Option Value)(base:Heap):Prop where
 kin:K.In base
 glob:base.Ns mainGlobals mg
 blt:∃mb,base.Ns builtinsNs mb/\∀x:Str,x≠"__name__"->mb x=bootBuiltins x
 nolimit:base.NoLimit
structure Cx where
 prog:Program
 w:World
 K:PySem.W.Frag
 mg:Str->Option Value
 base:Heap
 A:Around
 N:List Str
 s₀:Shared
 H₀:Hp
 env:Env
 outer:List Env
 stack:List Env
 ex:List Addr
 fn:Str->Bool
 calm:Bool
 pn:List (Addr×Obj)
 xe:Value->Shared->Prop
def frs(l:List Env):List Addr:=l.filterMap (·.frame)
abbrev Cx.fs(X:Cx):List Addr:=frs X.outer
def Vis(a:Scope)(x:Str):Prop:=a.names.lookup x=some .local\/a.names.lookup x=some .cell\/a.names.lookup x=some .free
def Loc(a:Scope)(x:Str):Prop:=a.names.lookup x=some .local\/a.names.lookup x=some .cell
def Look(a:Env)(h:Heap)(m:Str->Option Value)(x:Str)(u:Value):Prop :=
 (a.kindOf x=some .local/\m x=some u)\/((a.kindOf x=some .cell\/a.kindOf x=some .free)/\∃c,a.cells.lookup x=some c/\h.IsCell c (some u))
structure Cx.Ok(X:Cx):Prop where
 mod:Mod X.K X.mg X.base
 kind:X.env.scope.kind=.function
 glob:X.env.globals=mainGlobals
 blt:X.env.builtins=builtinsNs
 above:X.s₀.heap.objs.size≤X.env.locals
 inj:∀x y c,X.env.cells.lookup x=some c->X.env.cells.lookup y=some c->x=y
 has:∀x,(X.env.kindOf x=some .cell\/X.env.kindOf x=some .free)->∃c,X.env.cells.lookup x=some c
 cab:∀x c,X.fn x=true->X.env.cells.lookup x=some c->X.s₀.heap.objs.size≤c
 hd:X.calm=true->X.A.handled=none
 frames:X.A.frames=some X.stack
 stk:X.stack=X.outer\/(X.stack=X.env::X.outer/\X.env.frame=some X.env.locals)
 exf:∀b∈X.ex,b≠X.env.locals/\∀x c,X.env.cells.lookup x=some c->c≠b
 bs:∀b o,X.base.get? b=some o->X.s₀.heap.get? b=some o/\(X.H₀ b=none\/∃xs,X.H₀ b=some (.tup xs))
 bsz:X.base.objs.size≤X.s₀.heap.objs.size
 noex:∀b o,X.base.get? b=some o->b∉X.ex
 exfs:∀b∈X.ex,b∉X.fs
 funs:X.s₀.heap.FunFrames X.base X.outer
 frf:∀b∈X.fs,X.H₀ b=none
structure Inv(X:Cx)(pins:List (Addr×Obj))(σ:List (Option V))(H:Hp)(s:Shared):Prop where
 ok:X.Ok
 os:s.os=X.s₀.os
 bare:AllBare s.gens
 base:Un X.fs X.ex X.H₀ H X.s₀.heap s.heap
 loc:∃m,s.heap.Ns X.env.locals m/\∀(i:Nat) (x:Str) (v:V),X.N[i]?=some x->σ[i]?=some (some v)->Vis X.env.scope x->∃u,RelV v u/\Look X.env s.heap m x u
 cell:∀x c,X.env.cells.lookup x=some c->∃v,s.heap.IsCell c v
 free:H X.env.locals=none
 freeC:∀x c,X.env.cells.lookup x=some c->H c=none
 pin:∀p∈X.pn++pins,s.heap.get? p.1=some p.2/\H p.1=none/\p.1≠X.env.locals/\p.1∉X.fs/\∀v,p.2.data≠.cell v
 hok:HOk X.prog X.w H s.heap
 len:σ.length=X.N.length
section
variable {X:Cx}{pins:List (Addr×Obj)}{σ:List (Option V)}{H H':Hp}{s:Shared}{h':Heap}
def Cx.Ok.nofr(ok:X.Ok)(e:X.base.get? b=some o):b∉X.fs:=λa=>by
 have:=(ok.funs.mem a).1;rw[e]at this;cases this
def Inv.bs(I:Inv X pins σ H s):∀b o,X.base.get? b=some o->s.heap.get? b=some o/\(H b=none\/∃xs,H b=some (.tup xs)):=λb o e =>
 match I.ok.bs b o e with
 |⟨h1,.inl h2⟩=>⟨I.base.keep b o h1 h2 (I.ok.nofr e) (I.ok.noex b o e),.inl (I.base.free b o h1 h2 (I.ok.noex b o e))⟩
 |⟨h1,.inr ⟨xs,h2⟩⟩=>⟨I.base.tupo b o xs h1 h2,.inr ⟨xs,I.base.tups b xs h2⟩⟩
def Inv.bk(I:Inv X pins σ H s):∀b o,X.base.get? b=some o->s.heap.get? b=some o:=λb o e=>(I.bs b o e).1
def Inv.mod(I:Inv X pins σ H s):Mod X.K X.mg X.base:=I.ok.mod
def Inv.kIn(I:Inv X pins σ H s):X.K.In s.heap:=I.ok.mod.kin.keeps I.bk
def Inv.lt(I:Inv X pins σ H s):X.env.locals<s.heap.objs.size:=let⟨_,hn,_⟩:=I.loc;hn.lt
def Inv.sz(I:Inv X pins σ H s):X.s₀.heap.objs.size≤s.heap.objs.size:=qh I.ok.above (ze I.lt)
def Inv.nofs(I:Inv X pins σ H s){a:Addr}(h:s.heap.objs.size≤a):a∉X.fs:=λc=>by
 obtain⟨_,o,b,_⟩:=I.ok.funs.mem c;exact absurd (qv (q0 b) (qh I.sz h)) (zr _)
def Inv.cne(I:Inv X pins σ H s):∀x c,X.env.cells.lookup x=some c->c≠X.env.locals:=λx c e z=>by
 obtain⟨v,o,f,d⟩:=I.cell x c e;obtain⟨m,⟨o',es,ep,b,a,_⟩,_⟩:=I.loc;rw[z,b]at f;cases f;rw[a]at d;cases d
def Inv.funs(I:Inv X pins σ H s):s.heap.FunFrames X.base X.outer:=by
 have all:∀(l:List Env),(∀b∈frs l,b∈X.fs)->X.s₀.heap.FunFrames X.base l->s.heap.FunFrames X.base l:=by
  intro l
  induction l with
  |nil=>intro _ _;trivial
  |cons h r g =>
   intro hs f;obtain⟨d,⟨L,o,hf,hn,k,i⟩,j⟩:=f;have c:L∈X.fs:=hs L (by unfold frs;rw[jm,hf];exact ql);obtain⟨m,e⟩:=I.base.slot L o k (I.ok.frf L c) c λz=>I.ok.exfs L z c;exact⟨d,⟨L,_,hf,hn,e,i⟩,g (λb a=>hs b (by unfold frs;rw[jm,hf];exact qw _ a)) j⟩
 exact all X.outer (λ_ a=>a) I.ok.funs
def Inv.stack(I:Inv X pins σ H s):s.heap.FunFrames X.base X.stack:=by
 rcases I.ok.stk with e|⟨e,hf⟩
 ·rw[e];exact I.funs
 ·rw[e]
  obtain⟨m,hn,_⟩:=I.loc;refine .cons (by rw[I.ok.kind];decide) hf hn ?_ I.funs;exact Heap.get?_none_of_le (qh I.ok.bsz I.ok.above)
def Inv.stkSub(I:Inv X pins σ H s):∀b∈frs X.stack,b∈X.env.locals::X.fs:=λb a=>by
 rcases I.ok.stk with e|⟨e,hf⟩
 ·rw[e]at a;exact qw _ a
 ·rw[e]at a
  unfold frs at a;rw[jm,hf]at a;exact a
def Inv.stkFree(I:Inv X pins σ H s):∀b∈frs X.stack,H b=none:=λb a=>by
 rcases za.mp (I.stkSub b a) with e|a
 ·rw[e];exact I.free
 ·obtain⟨_,o,c,_⟩:=I.ok.funs.mem a
  exact I.base.free b o c (I.ok.frf b a) λz=>I.ok.exfs b z a
def Inv.step{g':Array GenState}{t':Nat}{d':Drawn}{ch:List Addr}(I:Inv X pins σ H s)(j:∀b∈ch,(b∈X.ex\/X.s₀.heap.objs.size≤b)/\b≠X.env.locals/\(∀x c,X.env.cells.lookup x=some c->c≠b)/\∀p∈X.pn++pins,p.1≠b)(f:∀b o,b≠X.env.locals->b∉X.fs->b∉ch->s.heap.get? b=some o->H b=none->h'.get? b=some o)(A:∀b o,b≠X.env.locals->b∈X.fs->b∉ch->s.heap.get? b=some o->H b=none->∃L,h'.get? b=some { o with slots:=L })(free:∀b o,b∉ch->s.heap.get? b=some o->H b=none->H' b=none)(there:∀b o,b∉ch->s.heap.get? b=some o->∃o',h'.get? b=some o')(tups:∀b xs,H b=some (.tup xs)->H' b=some (.tup xs))(F:∀b o u,H b=some (.frz o u)->H' b=some (.frz o u))(D:∀b ps,H b=some (.tbl ps)->∃J,H' b=some (.tbl (ps++J)))(G:∀b o xs,s.heap.get? b=some o->H b=some (.tup xs)->h'.get? b=some o)(T:∀m,s.heap.Ns X.env.locals m->h'.Ns X.env.locals m)(N:HOk X.prog X.w H' h')(U:AllBare g') :
  Inv X pins σ H' { s with heap:=h',gens:=g',drawn:=d',toks:=t' }:=by
 have K:∀b o,X.s₀.heap.get? b=some o->b≠X.env.locals:=λb o e=>qg (qv (q0 e) I.ok.above)
 have y:∀b o,X.s₀.heap.get? b=some o->b∉X.ex->b∉ch:=λb o e a B=>by
  rcases(j b B).1 with z|z
  ·exact a z
  ·exact absurd (qv (q0 e) z) (zr _)
 have g:∀x c,X.env.cells.lookup x=some c->∀v,s.heap.IsCell c v->h'.IsCell c v:=λx c e v ⟨o,C,O⟩=>by
  have h:c∉ch:=λz=>(j c z).2.2.1 x c e rfl
  by_cases Q:c∈X.fs
  ·obtain⟨L,q⟩:=A c o (I.cne x c e) Q h C (I.freeC x c e)
   exact⟨_,q,O⟩
  ·exact⟨o,f c o (I.cne x c e) Q h C (I.freeC x c e),O⟩
 refine⟨I.ok,I.os,U,⟨λb o e n B a=>?_,λb o e n B a=>?_,λb o e n a=>?_,λb o e a=>?_,λb xs e=>tups b xs (I.base.tups b xs e),λb o xs e=>F b o xs (I.base.frzs b o xs e),λb ps e=>?_,λb o xs e n=>G b o xs (I.base.tupo b o xs e n) (I.base.tups b xs n)⟩,?_,λx c e=>?_,?_,λx c e=>?_,λp S=>?_,N,I.len⟩
 ·exact f b o (K b o e) B (y b o e a) (I.base.keep b o e n B a) (I.base.free b o e n a)
 ·obtain⟨L,t⟩:=I.base.slot b o e n B a
  obtain⟨M,E⟩:=A b _ (K b o e) B (y b o e a) t (I.base.free b o e n a);exact⟨M,E⟩
 ·obtain⟨o',t⟩:=I.base.there b o e a
  exact free b o' (y b o e a) t (I.base.free b o e n a)
 ·obtain⟨o',t⟩:=I.base.there b o e a
  exact there b o' (y b o e a) t
 ·obtain⟨V,t⟩:=I.base.tbls b ps e
  obtain⟨Y,E⟩:=D b _ t;exact⟨V++Y,by rw[E,gq]⟩
 ·obtain⟨m,hn,W⟩:=I.loc
  refine⟨m,T m hn,λi x v t E Z=>?_⟩;obtain⟨u,r,l⟩:=W i x v t E Z;refine⟨u,r,?_⟩;rcases l with l|⟨k,c,e,z⟩
  ·exact .inl l
  ·exact .inr ⟨k,c,e,g x c e _ z⟩
 ·obtain⟨v,z⟩:=I.cell x c e
  exact⟨v,g x c e v z⟩
 ·obtain⟨m,⟨o,_,_,C,_⟩,_⟩:=I.loc
  exact free _ o (λz=>(j _ z).2.1 rfl) C I.free
 ·obtain⟨v,o,C,O⟩:=I.cell x c e
  exact free c o (λz=>(j c z).2.2.1 x c e rfl) C (I.freeC x c e)
 ·obtain⟨e,n,P,R,d⟩:=I.pin p S
  have h:p.1∉ch:=λz=>(j p.1 z).2.2.2 p S rfl;exact⟨f p.1 p.2 P R h e n,free p.1 p.2 h e n,P,R,d⟩
def Inv.un(I:Inv X pins σ H s)(u:Un X.fs [] H H' s.heap h')(f:HOk X.prog X.w H' h'):Inv X pins σ H' { s with heap:=h',toks:=t' }:=by
 obtain⟨m,⟨o,es,ep,h,r⟩,_⟩:=id I.loc;obtain⟨p,k⟩:=u.any h I.free (by simp)
 exact I.step (g':=s.gens) (d':=s.drawn) (ch:=[]) (λ_ z=>nomatch z) (λb o _ g _ e n=>u.keep b o e n g (by simp)) (λb o _ g _ e n=>u.slot b o e n g (by simp)) (λb o _ e n=>u.free b o e n (by simp)) (λb o _ e=>u.there b o e (by simp)) u.tups u.frzs u.tbls u.tupo (λl j=>by
  obtain⟨o',d,c,a,i⟩:=j;rw[h]at a;cases a
  exact⟨_,d,c,k,i⟩) f I.bare
def Inv.call(I:Inv X pins σ H s)(u:Un (frs X.stack) ch H H' s.heap h')(i:HOk X.prog X.w H' h')(q:AllBare g')(d:∀b∈ch,(b∈X.ex\/X.s₀.heap.objs.size≤b)/\b≠X.env.locals/\(∀x c,X.env.cells.lookup x=some c->c≠b)/\∀p∈X.pn++pins,p.1≠b) :
  Inv X pins σ H' { s with heap:=h',gens:=g',drawn:=d',toks:=t' }:=by
 obtain⟨m,⟨o,es,ep,k,r⟩,_⟩:=id I.loc;obtain⟨A,j⟩:=u.any k I.free λz=>(d _ z).2.1 rfl
 exact I.step (ch:=ch) d (λb o j v a e n=>u.keep b o e n (λz=>(za.mp (I.stkSub b z)).elim j v) a) (λb o _ _ a e n=>u.any e n a) (λb o a e n=>u.free b o e n a) (λb o a e=>u.there b o e a) u.tups u.frzs u.tbls u.tupo (λy t=>by
  obtain⟨o',h,g,f,l⟩:=t;rw[k]at f;cases f
  exact⟨_,h,g,j,l⟩) i q
def Inv.turned(I:Inv X pins σ H s)(k:∀b o,b≠it->s.heap.get? b=some o->h'.get? b=some o)(hn:H it=none)(f:it≠X.env.locals)(h1:it∈X.ex\/X.s₀.heap.objs.size≤it)(h2:∀x c,X.env.cells.lookup x=some c->c≠it)(h:∀p∈X.pn++pins,p.1≠it):Inv X pins σ H { s with heap:=h',toks:=t' }:=by
 have a:∀b u,H b=some u->b≠it:=λb u e z=>by rw[z,hn]at e;cases e
 refine I.step (g':=s.gens) (d':=s.drawn) (ch:=[it]) (λb j=>?_) (λb o _ _ d e _=>k b o (λz=>d (by simp[z])) e) (λb o _ _ d e _=>⟨o.slots,k b o (λz=>d (by simp[z])) e⟩) (λ_ _ _ _ n=>n)
  (λb o d e=>⟨o,k b o (λz=>d (by simp[z])) e⟩) (λ_ _ e=>e) (λ_ _ _ e=>e) (λb ps e=>⟨#[],by rw[e];simp⟩) (λb o xs e n=>k b o (a b _ n) e) (λm g=>?_) (λb u e=>?_) I.bare
 ·have e:b=it:=by simpa using j
  subst e;exact⟨h1,f,h2,h⟩
 ·obtain⟨o,es,ep,i,r⟩:=g
  exact⟨o,es,ep,k _ o (Ne.symm f) i,r⟩
 ·refine(I.hok b u e).stay (λc v d q=>k c v ?_ q) (λ_ q=>q) λ_ _ q=>q
  rcases d with z|z
  ·rw[z];exact a b u e
  ·exact a c _ z
def Inv.tok(I:Inv X pins σ H s)(t:Nat):Inv X pins σ H { s with toks:=t }:=I.un (h':=s.heap) (t':=t) Un.refl I.hok
def Inv.kept(I:Inv X pins σ H s)(k:∀b u,s.heap.get? b=some u->h'.get? b=some u):Inv X pins σ H { s with heap:=h',toks:=t' }:=I.un (Un.kept k) (I.hok.kept k)
def Inv.laid{a:Addr}{o:HO}{t':Nat}(I:Inv X pins σ H s)(k:∀b u,s.heap.get? b=some u->h'.get? b=some u)(c:s.heap.objs.size≤a)(new:ObjOk X.prog X.w (upd H a o) h' a o) :
  Inv X pins σ (upd H a o) { s with heap:=h',toks:=t' }:=I.un (Un.laid k c (I.hok.fresh c)) (I.hok.laid k c new)
def Inv.write(I:Inv X pins σ H s)(d:Mut (H x))(c:e=x\/H e=some (.own x))(k:∀b u,b≠e->s.heap.get? b=some u->h'.get? b=some u)(a:∃u,h'.get? e=some u)(new:ObjOk X.prog X.w (upd H x o) h' x o):Inv X pins σ (upd H x o) { s with heap:=h',toks:=t' }:=I.un (Un.write d c k a) (I.hok.write d c k a new)
def Inv.weak(I:Inv X pins σ H s)(b:σ'.length=σ.length)(w:∀(i:Nat) v,σ'[i]?=some (some v)->σ[i]?=some (some v)):Inv X pins σ' H s :=
 ⟨I.ok,I.os,I.bare,I.base,let⟨m,hn,a⟩:=I.loc;⟨m,hn,λi x v d c e=>a i x v d (w i v c) e⟩,I.cell,I.free,I.freeC,I.pin,I.hok,b.trans I.len⟩
def Inv.pins_of(I:Inv X pins σ H s)(h:∀p∈pins',s.heap.get? p.1=some p.2/\H p.1=none/\p.1≠X.env.locals/\p.1∉X.fs/\∀v,p.2.data≠.cell v):Inv X pins' σ H s :=
 ⟨I.ok,I.os,I.bare,I.base,I.loc,I.cell,I.free,I.freeC,λp a=>(zb.mp a).elim (λz=>I.pin p (yg _ z)) (h p),I.hok,I.len⟩
def xAft{N:List Str}(d:N.Nodup){i j:Nat}{x:Str}(a:N[i]?=some x)(b:N[j]?=some x):i=j:=by
 obtain⟨h1,e⟩:=qy.mp a;obtain⟨h2,c⟩:=qy.mp b;exact(List.getElem_inj d).mp (e.trans c.symm)
def xAhc(I:Inv X pins σ H s)(hN:X.N.Nodup)(hi:X.N[i]?=some x)(t:Loc X.env.scope x)(r:RelV v u)(h:∀s',Inv X pins (σ.set i (some v)) H s'->(∃a,Heap.SameBut a s.heap s'.heap/\(a=X.env.locals\/X.env.cells.lookup x=some a))->Q () s')(hf:X.fn x=true\/X.env.scope.names.lookup x=some .local:=by first|exact .inl rfl|exact .inr rfl|assumption):wpAny M A (storeName X.env x u) Q E s:=by
 obtain⟨m,hn,hl⟩:=id I.loc
 have P:(X.env.scope.kind==.class||(X.env.scope.kind==.module&&X.env.locals != X.env.globals))=false:=by rw[I.ok.kind];rfl
 have F:i<σ.length:=by rw[I.len];exact(qy.mp hi).1
 have cne:=I.cne
 have g:∀{a:Addr} {h':Heap},(∃o,s.heap.get? a=some o/\H a=none)->Heap.SameBut a s.heap h'->HOk X.prog X.w H h':=λ{a h'} ha hs b ob e=>by
  obtain⟨_,_,B⟩:=ha;refine(I.hok b ob e).stay (λc U l q=>(hs.2 c ?_).trans q) (λ_ q=>q) λ_ _ q=>q;rintro rfl;rcases l with rfl|l
  ·rw[B]at e;cases e
  ·rw[B]at l;cases l
 rcases t with hk|hk
 ·refine wpAny_storeName_local hk hn (λh' Y hs=>?_) P
  obtain⟨oL,_,_,hoL,_⟩:=id hn;refine h _ ⟨I.ok,I.os,I.bare,⟨λb o e n G t=>?_,λb o e n G t=>?_,I.base.free,λb o e t=>?_,I.base.tups,I.base.frzs,I.base.tbls,λb o xs e n=>(hs.2 b (Nat.ne_of_lt (Nat.lt_of_lt_of_le (q0 e) I.ok.above))).trans (I.base.tupo b o xs e n)⟩,⟨_,Y,λj y v' f C e3=>?_⟩,λy c e=>?_,I.free,I.freeC,λp hp=>?_,g ⟨oL,hoL,I.free⟩ hs,by simpa using I.len⟩ ⟨_,hs,.inl rfl⟩
  ·exact(hs.2 b (qg (qv (q0 e) I.ok.above))).trans (I.base.keep b o e n G t)
  ·obtain⟨Z,f⟩:=I.base.slot b o e n G t
   exact⟨Z,(hs.2 b (qg (qv (q0 e) I.ok.above))).trans f⟩
  ·obtain⟨o',f⟩:=I.base.there b o e t
   exact⟨o',(hs.2 b (qg (qv (q0 e) I.ok.above))).trans f⟩
  ·by_cases J:j=i
   ·subst J
    rw[hi]at f;cases f;rw[yw F]at C;cases C;exact⟨u,r,.inl ⟨hk,by simp⟩⟩
   ·rw[vf (Ne.symm J)]at C
    obtain⟨u',W,q⟩:=hl j y v' f C e3;refine⟨u',W,?_⟩;rcases q with⟨k,e⟩|⟨k,c,e,z⟩
    ·refine .inl ⟨k,?_⟩
     have:y≠x:=λe=>J (xAft hN f (e▸hi))
     simp[this,e]
    ·exact .inr ⟨k,c,e,z.sameBut hs (cne y c e)⟩
  ·obtain⟨U,z⟩:=I.cell y c e
   exact⟨U,z.sameBut hs (cne y c e)⟩
  ·obtain⟨e,n,S,nf,d⟩:=I.pin p hp
   exact⟨(hs.2 p.1 S).trans e,n,S,nf,d⟩
 ·have D:X.fn x=true:=by
   rcases hf with z|z
   ·exact z
   ·rw[z]at hk;cases hk
  obtain⟨c,l⟩:=I.ok.has x (.inl hk);obtain⟨U,z⟩:=I.cell x c l;refine wpAny_storeName_cell I.ok.kind hk l z (λh' K hs=>?_);obtain⟨oc,R,O⟩:=id z;refine h { s with heap:=h' } ⟨I.ok,I.os,I.bare,⟨λb o e n G t=>?_,λb o e n G t=>?_,I.base.free,λb o e t=>?_,I.base.tups,I.base.frzs,I.base.tbls,λb o xs e n=>(hs.2 b (Nat.ne_of_lt (Nat.lt_of_lt_of_le (q0 e) (I.ok.cab x c D l)))).trans (I.base.tupo b o xs e n)⟩,⟨m,hn.sameBut hs (Ne.symm (cne x c l)),λj y v' f C e3=>?_⟩,λy T e=>?_,I.free,I.freeC,λp hp=>?_,g ⟨oc,R,I.freeC x c l⟩ hs,by simpa using I.len⟩ ⟨c,hs,.inr l⟩
  ·exact(hs.2 b (qg (qv (q0 e) (I.ok.cab x c D l)))).trans (I.base.keep b o e n G t)
  ·obtain⟨Z,f⟩:=I.base.slot b o e n G t
   exact⟨Z,(hs.2 b (qg (qv (q0 e) (I.ok.cab x c D l)))).trans f⟩
  ·obtain⟨o',f⟩:=I.base.there b o e t
   exact⟨o',(hs.2 b (qg (qv (q0 e) (I.ok.cab x c D l)))).trans f⟩
  ·by_cases J:j=i
   ·subst J
    rw[hi]at f;cases f;rw[yw F]at C;cases C;exact⟨u,r,.inr ⟨.inl hk,c,l,K⟩⟩
   ·rw[vf (Ne.symm J)]at C
    obtain⟨u',W,q⟩:=hl j y v' f C e3;refine⟨u',W,?_⟩;rcases q with q|⟨k,T,e,z'⟩
    ·exact .inl q
    ·refine .inr ⟨k,T,e,z'.sameBut hs ?_⟩
     rintro rfl;exact J (xAft hN f (I.ok.inj _ _ _ e l▸hi))
  ·by_cases L:T=c
   ·subst L;exact⟨_,K⟩
   ·obtain⟨w2,z2⟩:=I.cell y T e
    exact⟨w2,z2.sameBut hs L⟩
  ·obtain⟨e,n,S,nf,d⟩:=I.pin p hp
   refine⟨(hs.2 p.1 ?_).trans e,n,S,nf,d⟩;intro q;rw[q,R]at e;have q':oc=p.2:=qC e;exact d U (by rw[←q'];exact O)
def xAfu(I:Inv X pins σ H s)(b:X.N.Nodup)(hi:X.N[i]?=some x)(c:Loc X.env.scope x)(r:RelV v u)(h:∀s',Inv X pins (σ.set i (some v)) H s'->Q () s')(hf:X.fn x=true\/X.env.scope.names.lookup x=some .local:=by first|exact .inl rfl|exact .inr rfl|assumption):wpAny M A (storeName X.env x u) Q E s :=
 xAhc I b hi c r (λs' a _=>h s' a) hf
def Inv.call'(I:Inv X pins σ H s)(f:s'.os=s.os)(u:Un (frs X.stack) ch H H' s.heap s'.heap)(d:HOk X.prog X.w H' s'.heap)(g:AllBare s'.gens)(a:∀b∈ch,(b∈X.ex\/X.s₀.heap.objs.size≤b)/\b≠X.env.locals/\(∀x c,X.env.cells.lookup x=some c->c≠b)/\∀p∈X.pn++pins,p.1≠b):Inv X pins σ H' s':=by
 obtain⟨h',g',d',t',o'⟩:=s';have e:o'=s.os:=f;subst e;exact I.call (g':=g') (t':=t') (d':=d') u d g a
end
abbrev XK:=Value->Option Addr->Hp->Prop
abbrev St:=List (Option V)
abbrev VK:=V->Hp->Prop
abbrev TE:=St->Hp->VK->Prop
abbrev TT:=St->Hp->(Bool->Hp->Prop)->Prop
abbrev TA:=St->Hp->(List V->Hp->Prop)->Prop
structure Ends where
 nx:St->Hp->Prop
 rt:VK
 bk:St->Hp->Prop:=λ_ _=>False
 ct:St->Hp->Prop:=λ_ _=>False
abbrev TS:=Ends->St->Hp->Prop
def EP(X:Cx)(pins:List (Addr×Obj))(σ:St)(Q:VK)(u:Value)(s':Shared):Prop:=∃v H',Inv X pins σ H' s'/\RelV v u/\Q v H'
def TP(X:Cx)(pins:List (Addr×Obj))(σ:St)(Q:Bool->Hp->Prop)(b:Bool)(s':Shared):Prop:=∃H',Inv X pins σ H' s'/\Q b H'
def AP(X:Cx)(pins:List (Addr×Obj))(σ:St)(Q:List V->Hp->Prop)(us:List Value)(s':Shared):Prop:=∃vs H',Inv X pins σ H' s'/\Vals vs us/\Q vs H'
def SP(X:Cx)(pins:List (Addr×Obj))(D:Ends)(f:Flow)(s':Shared):Prop :=
 match f with
 |.next=>∃σ' H',Inv X pins σ' H' s'/\D.nx σ' H'
 |.brk=>∃σ' H',Inv X pins σ' H' s'/\D.bk σ' H'
 |.cont=>∃σ' H',Inv X pins σ' H' s'/\D.ct σ' H'
 |.ret u=>∃v σ' H',Inv X pins σ' H' s'/\RelV v u/\D.rt v H'
def PE0(X:Cx)(e:Expr)(t:TE):Prop :=
 ∀(pins:List (Addr×Obj)) (s:Shared) (σ:St) (H:Hp) (Q:VK),Inv X pins σ H s->t σ H Q->wpAny (model X.prog X.w) X.A (eval e X.env) (EP X pins σ Q) X.xe s
structure PE(X:Cx)(e:Expr)(t:TE):Prop where run:PE0 X e t
instance PECf{X:Cx}{e:Expr}{t:TE}:CoeFun (PE X e t) λ_=>PE0 X e t:=⟨PE.run⟩
def PT0(X:Cx)(e:Expr)(t:TT):Prop :=
 ∀(pins:List (Addr×Obj)) (s:Shared) (σ:St) (H:Hp) (Q:Bool->Hp->Prop),Inv X pins σ H s->t σ H Q->wpAny (model X.prog X.w) X.A (isTrue e X.env (eval e X.env)) (TP X pins σ Q) X.xe s
structure PT(X:Cx)(e:Expr)(t:TT):Prop where run:PT0 X e t
instance PTCf{X:Cx}{e:Expr}{t:TT}:CoeFun (PT X e t) λ_=>PT0 X e t:=⟨PT.run⟩
def PW0(X:Cx)(e:Expr)(t:TT):Prop :=
 ∀(a:Sem Value) (pins:List (Addr×Obj)) (s:Shared) (σ:St) (H:Hp) (Q:Bool->Hp->Prop),Inv X pins σ H s->t σ H Q->wpAny (model X.prog X.w) X.A (isTrue e X.env a) (TP X pins σ Q) X.xe s
structure PW(X:Cx)(e:Expr)(t:TT):Prop where run:PW0 X e t
instance PWCf{X:Cx}{e:Expr}{t:TT}:CoeFun (PW X e t) λ_=>PW0 X e t:=⟨PW.run⟩
def PW.pt{t:TT}(h:PW X e t):PT X e t:=⟨h _⟩
def PA0(X:Cx)(es:List Expr)(t:TA):Prop :=
 ∀(pos:Pos) (pins:List (Addr×Obj)) (s:Shared) (σ:St) (H:Hp) (Q:List V->Hp->Prop),Inv X pins σ H s->t σ H Q->wpAny (model X.prog X.w) X.A (spliced (backTo pos (starEach es X.env))) (AP X pins σ Q) X.xe s
structure PA(X:Cx)(es:List Expr)(t:TA):Prop where run:PA0 X es t
instance PACf{X:Cx}{es:List Expr}{t:TA}:CoeFun (PA X es t) λ_=>PA0 X es t:=⟨PA.run⟩
def PS0(X:Cx)(st:Stmt)(t:TS):Prop :=
 ∀(pins:List (Addr×Obj)) (s:Shared) (σ:St) (H:Hp) (D:Ends),Inv X pins σ H s->t D σ H->wpAny (model X.prog X.w) X.A (exec st X.env) (SP X pins D) X.xe s
structure PS(X:Cx)(st:Stmt)(t:TS):Prop where run:PS0 X st t
instance PSCf{X:Cx}{st:Stmt}{t:TS}:CoeFun (PS X st t) λ_=>PS0 X st t:=⟨PS.run⟩
def PSs0(X:Cx)(st:List Stmt)(t:TS):Prop :=
 ∀(pins:List (Addr×Obj)) (s:Shared) (σ:St) (H:Hp) (D:Ends),Inv X pins σ H s->t D σ H->wpAny (model X.prog X.w) X.A (execs st X.env) (SP X pins D) X.xe s
structure PSs(X:Cx)(st:List Stmt)(t:TS):Prop where run:PSs0 X st t
instance PSsCf{X:Cx}{st:List Stmt}{t:TS}:CoeFun (PSs X st t) λ_=>PSs0 X st t:=⟨PSs.run⟩
def thn{α:Type}{t:Sem α}{Q b:α->Shared->Prop}{M:Model}{A:Around}{E:Value->Shared->Prop}{s:Shared}(h:wpAny M A t Q E s)(c:∀a s,Q a s->b a s):wpAny M A t b E s:=qE h c λ_ _ x=>x
section
variable {X:Cx}
inductive ItVar(i:Nat)(σ:St)(H:Hp)(Q:VK):Prop
 |mk (v:_) (h0_:σ[i]?=some (some v)) (h1_:Q v H):ItVar i σ H Q
def tVar(i:Nat):TE:=λσ H Q=>ItVar i σ H Q
def tC(v:V):TE:=λ_ H Q=>Q v H
def pe_var(p:X.N[i]?=some x)(o:Vis X.env.scope x)(g:(x==("__debug__":Str))=false:=by decide)(f:(x==("__classdict__":Str))=false:=by decide):PE X (.Name x pos) (tVar i):=by
 refine⟨?_⟩;intro pins s σ H Q I h;obtain⟨v,e,h⟩:=h;obtain⟨m,hn,k⟩:=I.loc;obtain⟨u,r,l⟩:=k i x v p e o;have d:EP X pins σ Q u s:=⟨v,H,I,r,h⟩;rcases l with⟨b,n⟩|⟨b,c,j,a⟩
 ·exact wpAny_Name (wpAny_loadName_local I.ok.kind b hn n d) g
 ·rcases b with b|b
  ·exact wpAny_Name (wpAny_loadName_cell I.ok.kind b j a d) g
  ·exact wpAny_Name (wpAny_loadName_free I.ok.kind b j a d f) g
def xAab{i j pos}:PE X (.Constant (.int i) j pos) (tC (.int i)):=⟨λ_ _ _ H _ I h=>wpAny_Constant_int ⟨.int i,H,I.tok _,⟨_,Y⟩,h⟩⟩
def pe_bl{b j pos}:PE X (.Constant (.bool b) j pos) (tC (.bl b)):=⟨λ_ _ _ H _ I h=>Constant_bool ⟨.bl b,H,I,Y,h⟩⟩
def xAfv{j pos}:PE X (.Constant .none j pos) (tC .non):=⟨λ_ _ _ H _ I h=>Constant_none ⟨.non,H,I,Y,h⟩⟩
def xAau{x j pos}:PE X (.Constant (.str x) j pos) (tC (.str x)):=⟨λ_ _ _ H _ I h=>Calls.Constant_str ⟨.str x,H,I.tok _,⟨_,Y⟩,h⟩⟩
def Gl(X:Cx)(x:Str):Prop:=X.env.kindOf x=some .globalImplicit
def xAcx{E:Value->Shared->Prop}{pins:List (Addr×Obj)}{s:Shared}{σ:St}{H:Hp}{x:Str}{u:Value}{pos:Pos}{Q:Value->Shared->Prop}(I:Inv X pins σ H s)(b:Gl X x)(a:X.mg x=some u)(h:Q u s)(c:(x==("__debug__":Str))=false:=by decide):wpAny (model X.prog X.w) X.A (eval (.Name x pos) X.env) Q E s :=
 Calls.Name_function_global I.ok.kind b (Calls.loadGlobal_global (by rw[I.ok.glob];exact I.mod.glob.keeps I.bk) a h) c
def xAds{E:Value->Shared->Prop}{pins:List (Addr×Obj)}{s:Shared}{σ:St}{H:Hp}{x:Str}{u:Value}{pos:Pos}{Q:Value->Shared->Prop}(I:Inv X pins σ H s)(a:Gl X x)(b:X.mg x=none)(d:bootBuiltins x=some u)(h:Q u s)(hn:x≠"__name__":=by decide)(c:(x==("__debug__":Str))=false:=by decide):wpAny (model X.prog X.w) X.A (eval (.Name x pos) X.env) Q E s:=by
 obtain⟨e,h1,h2⟩:=I.mod.blt;exact Calls.Name_function_global I.ok.kind a (Calls.loadGlobal_builtin (by rw[I.ok.glob];exact I.mod.glob.keeps I.bk) b (by rw[I.ok.blt];exact h1.keeps I.bk) ((h2 x hn).trans d) h) c
def xAcp(b:Gl X x)(a:X.mg x=some u)(r:RelV v u)(c:(x==("__debug__":Str))=false:=by decide):PE X (.Name x pos) (tC v):=⟨λ_ _ _ H _ I h=>xAcx I b a ⟨v,H,I,r,h⟩ c⟩
def xAul(c:Gl X x)(a:X.mg x=none)(b:bootBuiltins x=some u)(r:RelV v u)(hn:x≠"__name__":=by decide)(d:(x==("__debug__":Str))=false:=by decide):PE X (.Name x pos) (tC v):=⟨λ_ _ _ H _ I h=>xAds I c a b ⟨v,H,I,r,h⟩ hn d⟩
variable {a b:Expr}{ta tb:TE}{pos:Pos}
inductive ItB(Q:Bool->Hp->Prop)(x:V)(H1:Hp):Prop
 |mk (c:_) (h0_:x=.bl c) (h1_:Q c H1):ItB Q x H1
def tB(t:TE):TT:=λσ H Q=>t σ H λx H1=>ItB Q x H1
def xAru{t:TE}(h:PE X e t)(c:∀a,isTrue e X.env a=(do let v ←a;standAt e.pos;holding [v] (truthy v)):=by intro _;rfl):PT X e (tB t):=by
 refine⟨?_⟩;intro pins s σ H Q I hw;refine isTrue_plain (thn (h pins s σ H _ I hw) λv i ⟨x,H1,b,f,g⟩=>?_) (c _);obtain⟨d,rfl,q⟩:=g;cases f;exact wpAny_truthy_bool ⟨H1,b,q⟩
variable {tA tB':TT}{rest:List Expr}
def tAnd(t u:TT):TT:=λσ H Q=>t σ H λc H1=>if c=true then u σ H1 Q else Q false H1
def tOr(t u:TT):TT:=λσ H Q=>t σ H λc H1=>if c=true then Q true H1 else u σ H1 Q
def tNot(t:TT):TT:=λσ H Q=>t σ H λc H1=>Q (!c) H1
def xAqd(b:PT X a tA):PW X (.BoolOp .And [a] pos) tA:=by
 refine⟨?_⟩;intro d pins s σ H Q I h;refine isTrue_and (thn (b pins s σ H Q I h) λc f e=>?_)
 cases c with
 |true=>exact isTrue_and_nil e
 |false=>exact e
def pw_or1(b:PT X a tA):PW X (.BoolOp .Or [a] pos) tA:=by
 refine⟨?_⟩;intro d pins s σ H Q I h;refine isTrue_or (thn (b pins s σ H Q I h) λc f e=>?_)
 cases c with
 |false=>exact isTrue_or_nil e
 |true=>exact e
def xAum(f:PT X a tA)(i:PW X (.BoolOp .And (b::rest) pos) tB'):PW X (.BoolOp .And (a::b::rest) pos) (tAnd tA tB'):=by
 refine⟨?_⟩;intro g pins s σ H Q I h;refine isTrue_and (thn (f pins s σ H _ I h) λc j ⟨H1,d,e⟩=>?_)
 cases c with
 |true=>exact i g pins j σ H1 Q d e
 |false=>exact⟨H1,d,e⟩
def pw_or(f:PT X a tA)(i:PW X (.BoolOp .Or (b::rest) pos) tB'):PW X (.BoolOp .Or (a::b::rest) pos) (tOr tA tB'):=by
 refine⟨?_⟩;intro g pins s σ H Q I h;refine isTrue_or (thn (f pins s σ H _ I h) λc j ⟨H1,d,e⟩=>?_)
 cases c with
 |true=>exact⟨H1,d,e⟩
 |false=>exact i g pins j σ H1 Q d e
def xAun(b:PT X a tA):PT X (.UnaryOp .Not a pos) (tNot tA):=by
 refine⟨?_⟩;intro pins s σ H Q I h;exact isTrue_not (b pins s σ H (λc H1=>Q (!c) H1) I h)
inductive ItAndV(tb:TE)(σ:St)(Q:VK)(x:V)(H1:Hp):Prop
 |mk (c:_) (h0_:x=.bl c) (h1_:if c=true then tb σ H1 Q else Q (.bl false) H1):ItAndV tb σ Q x H1
def tAndV(ta tb:TE):TE:=λσ H Q=>ta σ H λx H1=>ItAndV tb σ Q x H1
def xAuo{op}{t:TE}(h:PE X a t):PE X (.BoolOp op [a] pos) t:=⟨λpins s σ H Q I hw=>BoolOp_one (h pins s σ H Q I hw)⟩
def xArv(f:PE X a ta)(i:PE X (.BoolOp .And (b::rest) pos) tb):PE X (.BoolOp .And (a::b::rest) pos) (tAndV ta tb):=by
 refine⟨?_⟩;intro pins s σ H Q I h;refine BoolOp_and (thn (f pins s σ H _ I h) λv j ⟨x,H1,e,g,d⟩=>?_);obtain⟨c,rfl,d⟩:=d;cases g;refine wpAny_truthy_bool ?_
 cases c with
 |true=>exact i pins j σ H1 Q e d
 |false=>exact⟨.bl false,H1,e,Y,d⟩
end
def SqL(H:Hp)(a:Addr)(xs:List V):Prop :=
 Rd H a (.lst xs)
def SqT(H:Hp)(a:Addr)(xs:List V):Prop :=
 Rd H a (.tup xs)
def absV:Value->Option V
 |.none=>some .non
 |.bool b=>some (.bl b)
 |.int i _=>some (.int i)
 |.str x _=>some (.str x)
 |.bytes b _=>some (.byt b)
 |.float b _=>some (.flt b)
 |.ref a=>some (.ref a)
 |.type n=>some (.ty n)
 |_=>none
def RelV.abs(r:RelV x u):absV u=some x:=by
 cases x with
 |non=>cases r;rfl
 |bl _=>cases r;rfl
 |int _=>obtain⟨t,rfl⟩:=r;rfl
 |str _=>obtain⟨t,rfl⟩:=r;rfl
 |byt _=>obtain⟨t,rfl⟩:=r;rfl
 |flt _=>obtain⟨t,rfl⟩:=r;rfl
 |ref _=>cases r;rfl
 |ty _=>cases r;rfl
def RelV.inj(r:RelV x u)(q:RelV y u):x=y:=qC (r.abs.symm.trans q.abs)
def Vals.inj:∀{xs ys:List V} {us:List Value},Vals xs us->Vals ys us->xs=ys
 |_,_,_,.nil,.nil=>rfl
 |_,_,_,.cons r t,.cons r' t'=>by rw[r.inj r',Vals.inj t t']
section
variable {X:Cx}{pins:List (Addr×Obj)}{σ:St}{H:Hp}{s:Shared}{a:Addr}{xs ys:List V}
def SqL.of(h:H a=some (.lst xs)):SqL H a xs:=.inl h
def SqT.of(h:H a=some (.tup xs)):SqT H a xs:=.inl h
def Inv.list(I:Inv X pins σ H s)(h:SqL H a xs):∃b:List Value,Vals xs b/\PlainL s.heap a b.toArray/\xs.length≤sizeLine:=by
 obtain⟨z,b,n,r,e⟩:=Rd.ok h I.hok;exact⟨b,r,⟨_,n,e,Y,Y,Y⟩,z⟩
def Inv.tuple(I:Inv X pins σ H s)(h:SqT H a xs):∃b:List Value,Vals xs b/\IsTup s.heap a b.toArray/\xs.length≤sizeLine:=by
 obtain⟨z,b,r,p⟩:=Rd.ok h I.hok;exact⟨b,r,p,z⟩
def Inv.list_inj(I:Inv X pins σ H s)(h:SqL H a xs)(h':SqL H a ys):xs=ys:=by
 obtain⟨b,r,⟨o,n,e,_,_,d⟩,_⟩:=I.list h;obtain⟨its',f,⟨o',g,c,_,_,d'⟩,_⟩:=I.list h';rw[e]at c;cases c;rw[d]at d';injection d' with d1 _
 have:b=its':=by simpa using congrArg Array.toList d1
 subst this;exact r.inj f
def Inv.tuple_inj(I:Inv X pins σ H s)(h:SqT H a xs)(h':SqT H a ys):xs=ys:=by
 obtain⟨b,r,⟨o,e,_,n,d⟩,_⟩:=I.tuple h;obtain⟨its',f,⟨o',c,_,g,d'⟩,_⟩:=I.tuple h';rw[e]at c;cases c;rw[d]at d';injection d' with d1 _
 have:b=its':=by simpa using congrArg Array.toList d1
 subst this;exact r.inj f
end
abbrev Cx.wish(X:Cx)(E:Value->Shared->Prop):Cx:={ X with xe:=E }
abbrev Cx.nox(X:Cx):Cx:=X.wish λ_ _=>False
def Cx.Ok.wish{X:Cx}(ok:X.Ok)(E:Value->Shared->Prop):(X.wish E).Ok :=
 ⟨ok.mod,ok.kind,ok.glob,ok.blt,ok.above,ok.inj,ok.has,ok.cab,ok.hd,ok.frames,ok.stk,ok.exf,ok.bs,ok.bsz,ok.noex,ok.exfs,ok.funs,ok.frf⟩
def Cx.Ok.unwish{X:Cx}{E:Value->Shared->Prop}(ok:(X.wish E).Ok):X.Ok :=
 ⟨ok.mod,ok.kind,ok.glob,ok.blt,ok.above,ok.inj,ok.has,ok.cab,ok.hd,ok.frames,ok.stk,ok.exf,ok.bs,ok.bsz,ok.noex,ok.exfs,ok.funs,ok.frf⟩
section
variable {X:Cx}{pins:List (Addr×Obj)}{σ:St}{H:Hp}{s:Shared}{E:Value->Shared->Prop}
def Inv.wish(I:Inv X pins σ H s)(E:Value->Shared->Prop):Inv (X.wish E) pins σ H s:=⟨I.ok.wish E,I.os,I.bare,I.base,I.loc,I.cell,I.free,I.freeC,I.pin,I.hok,I.len⟩
def Inv.unwish(I:Inv (X.wish E) pins σ H s):Inv X pins σ H s:=⟨I.ok.unwish,I.os,I.bare,I.base,I.loc,I.cell,I.free,I.freeC,I.pin,I.hok,I.len⟩
def SP.unwish(h:SP (X.wish E) pins D f s'):SP X pins D f s':=by
 cases f with
 |next=>obtain⟨σ',H',I,q⟩:=h;exact⟨σ',H',I.unwish,q⟩
 |brk=>obtain⟨σ',H',I,q⟩:=h;exact⟨σ',H',I.unwish,q⟩
 |cont=>obtain⟨σ',H',I,q⟩:=h;exact⟨σ',H',I.unwish,q⟩
 |ret u=>obtain⟨v,σ',H',I,r,q⟩:=h;exact⟨v,σ',H',I.unwish,r,q⟩
def PSs.nox{st:List Stmt}{t:TS}(h:PSs X.nox st t):PSs X st t:=⟨λpins s σ H D I hw =>
 qE (h pins s σ H D (I.wish _) hw) (λ_ _ q=>q.unwish) λ_ _ z=>False.elim z⟩
end
section
variable {X:Cx}{st:Stmt}{rest:List Stmt}{t u:TS}{e:Expr}{te:TE}{pos:Pos}
def tNext:TS:=λD σ H=>D.nx σ H
def tSeq(t u:TS):TS:=λD σ H=>t { D with nx:=u D } σ H
def xAal:PSs X [] tNext:=⟨λ_ _ σ H _ I h=>wpAny_execs_nil ⟨σ,H,I,h⟩⟩
def xAaa(h1:PS X st t)(h2:PSs X rest u):PSs X (st::rest) (tSeq t u):=by
 refine⟨?_⟩;intro pins s σ H D I h;refine wpAny_execs_cons (thn (h1 pins s σ H { D with nx:=u D } I h) λf b q=>?_)
 cases f with
 |next =>
  obtain⟨σ',H',a,q⟩:=q;exact h2 pins b σ' H' D a q
 |ret v=>exact q
 |brk=>exact q
 |cont=>exact q
def xAad(h1:PS X st t):PSs X [st] t:=by
 refine⟨?_⟩;intro pins s σ H D I h;refine wpAny_execs_cons (thn (h1 pins s σ H D I h) λf a q=>?_)
 cases f with
 |next=>exact wpAny_execs_nil q
 |ret v=>exact q
 |brk=>exact q
 |cont=>exact q
def Inv.quiet{pins:List (Addr×Obj)}{σ:St}{H:Hp}{s:Shared}(I:Inv X pins σ H s):interactive X.env=false:=by simp[interactive,I.ok.kind]
def tDrop(te:TE):TS:=λD σ H=>te σ H λ_ H1=>D.nx σ H1
def xAqe(b:PE X e te)(hs:swapsWith e none pos.line X.env=pure false:=by rfl):PS X (.Expr e pos) (tDrop te):=by
 refine⟨?_⟩;intro pins s σ H D I h;exact wpAny_Expr_any (thn (b pins s σ H _ I h) λv f ⟨x,H1,a,d,c⟩=>⟨σ,H1,a,c⟩) I.quiet hs
def tRet(te:TE):TS:=λD σ H=>te σ H D.rt
def xAak(b:PE X e te):PS X (.Return (some e) pos) (tRet te):=by
 refine⟨?_⟩;intro pins s σ H D I h;exact wpAny_Return_some (thn (b pins s σ H _ I h) λv f ⟨x,H1,a,c,d⟩=>⟨x,σ,H1,a,c,d⟩)
def tIfS(c:TT)(t u:TS):TS:=λD σ H=>c σ H λb H1=>if b=true then t D σ H1 else u D σ H1
def ps_if(j:PT X c tc)(i:PSs X a t)(k:PSs X b u):PS X (.If c a b pos) (tIfS tc t u):=by
 refine⟨?_⟩;intro pins s σ H D I h;refine wpAny_If (thn (j pins s σ H _ I h) λd g ⟨H1,e,f⟩=>?_)
 cases d with
 |true=>exact i pins g σ H1 D e f
 |false=>exact k pins g σ H1 D e f
end
abbrev TG:=V->St->Hp->(St->Hp->Prop)->Prop
abbrev TGs:=List V->St->Hp->(St->Hp->Prop)->Prop
def PG0(X:Cx)(a:Expr)(t:TG):Prop :=
 ∀(pins:List (Addr×Obj)) (s:Shared) (σ:St) (H:Hp) (v:V) (u:Value) (Q:St->Hp->Prop),Inv X pins σ H s->RelV v u->t v σ H Q →
  wpAny (model X.prog X.w) X.A (assign a X.env u) (λ_ s'=>∃σ' H',Inv X pins σ' H' s'/\Q σ' H') X.xe s
structure PG(X:Cx)(target:Expr)(t:TG):Prop where run:PG0 X target t
instance PGCf{X:Cx}{a:Expr}{t:TG}:CoeFun (PG X a t) λ_=>PG0 X a t:=⟨PG.run⟩
def PGs0(X:Cx)(a:List Expr)(t:TGs):Prop :=
 ∀(pins:List (Addr×Obj)) (s:Shared) (σ:St) (H:Hp) (vs:List V) (us:List Value) (Q:St->Hp->Prop),Inv X pins σ H s->Vals vs us->t vs σ H Q →
  wpAny (model X.prog X.w) X.A (assignInOrder ((assignEach a X.env).map (·.2)) us) (λ_ s'=>∃σ' H',Inv X pins σ' H' s'/\Q σ' H') X.xe s
structure PGs(X:Cx)(ts:List Expr)(t:TGs):Prop where run:PGs0 X ts t
instance PGsCf{X:Cx}{a:List Expr}{t:TGs}:CoeFun (PGs X a t) λ_=>PGs0 X a t:=⟨PGs.run⟩
abbrev TSet:=V->V->V->Hp->(Hp->Prop)->Prop
def PSet(X:Cx)(t:TSet):Prop :=
 ∀(pins:List (Addr×Obj)) (s:Shared) (σ:St) (H:Hp) (o i v:V) (a b u:Value) (Q:Hp->Prop),Inv X pins σ H s->RelV o a->RelV i b->RelV v u->t o i v H Q →
  wpAny (model X.prog X.w) X.A (setItem a b u) (λ_ s'=>∃H',Inv X pins σ H' s'/\Q H') X.xe s
section
variable {X:Cx}{pos:Pos}
def gName(i:Nat):TG:=λv σ H Q=>Q (σ.set i (some v)) H
def xAbp(b:X.N.Nodup)(hi:X.N[i]?=some x)(c:Loc X.env.scope x)(hf:X.fn x=true\/X.env.scope.names.lookup x=some .local:=by first|exact .inl rfl|exact .inr rfl|assumption):PG X (.Name x pos) (gName i):=by
 refine⟨?_⟩;intro pins s σ H v u Q I r h;exact wpAny_assign_Name (xAfu I b hi c r (λs' a=>⟨_,H,a,h⟩) hf)
def gNil:TGs:=λvs σ H Q=>vs=[]/\Q σ H
inductive IgCons(t:TG)(u:TGs)(vs:List V)(σ:St)(H:Hp)(Q:St->Hp->Prop):Prop
 |mk (v:_) (r:_) (h0_:vs=v::r) (h1_:t v σ H λσ' H'=>u r σ' H' Q):IgCons t u vs σ H Q
def gCons(t:TG)(u:TGs):TGs:=λvs σ H Q=>IgCons t u vs σ H Q
def xAca:PGs X [] gNil:=by
 refine⟨?_⟩;intro pins s σ H vs us Q I r h;obtain⟨e,h⟩:=h;subst e;cases r;exact assignInOrder_nil ⟨σ,H,I,h⟩
def xAan{t:TG}(h1:PG X e t)(h2:PGs X es u)(hs:(assignEach (e::es) X.env).map (·.2)=assign e X.env::(assignEach es X.env).map (·.2):=by rfl):PGs X (e::es) (gCons t u):=by
 refine⟨?_⟩;intro pins s σ H vs us Q I r h;obtain⟨v,i,c,h⟩:=h;subst c
 cases r with
 |cons r f =>
  rw[hs];refine assignInOrder_cons (thn (h1 pins s σ H _ _ _ I r h) λ_ g ⟨a,H1,b,d⟩=>?_);exact h2 pins g a H1 _ _ Q b f d
inductive IgTup(n:Nat)(t:TGs)(v:V)(σ:St)(H:Hp)(Q:St->Hp->Prop):Prop
 |mk (a:_) (xs:_) (h0_:v=.ref a) (h1_:SqT H a xs) (h2_:xs.length=n) (h3_:t xs σ H Q):IgTup n t v σ H Q
def gTup(n:Nat)(t:TGs):TG:=λv σ H Q=>IgTup n t v σ H Q
def xAns{k:Nat}{t:TGs}(m:X.calm=true)(h:PGs X es t)(hn:(assignEach es X.env).length=n:=by rfl)(c:(assignEach es X.env).findIdx? (·.1)=none:=by rfl):PG X (.Tuple es k pos) (gTup n t):=by
 refine⟨?_⟩;intro pins s σ H v u Q I r hw;obtain⟨a,xs,i,q,f,hw⟩:=hw;subst i;cases r;obtain⟨p,d,l,hz⟩:=I.tuple q;refine assign_Tuple_tuple (I.ok.hd m) l (by simp[hn,←f,d.length]) c λh' g=>?_;have j:Inv X pins σ H { s with heap:=h' }:=I.kept (t':=s.toks) λb o e=>g b o (qg (q0 e)) e;exact h pins _ σ H xs _ Q j (by simpa using d) hw
def gSub(to a:TE)(t:TSet):TG:=λv σ H Q=>to σ H λo H1=>a σ H1 λi H2=>t o i v H2 λb=>Q σ b
def xArw{to c:TE}{t:TSet}(q:PE X o to)(hi:PE X i c)(hs:PSet X t)(n:∀v,assign (.Subscript o i pos) X.env v=(do
   let a ←holding [v] (eval o X.env)
   let b ←holding [v,a] (eval i X.env)
   standAt pos
   holding [v,a,b] (setItem a b v)
   release [v,a,b] []):=by intro _;rfl):PG X (.Subscript o i pos) (gSub to c t):=by
 refine⟨?_⟩;intro pins s σ H v u Q I r h;rw[n];refine qa (qD (thn (q pins s σ H _ I h) λa z ⟨x,H1,f,m,w⟩=>?_));refine qa (qD (thn (hi pins z σ H1 _ f w) λb e ⟨y,H2,l,j,d⟩=>?_));refine qa (wpAny_standAt (qa (qD (thn (hs pins e σ H2 x y v a b u _ l m j r d) λ_ A ⟨p,g,k⟩=>?_))));exact wpAny_release ⟨σ,p,g,k⟩
def tAsg(te:TE)(g:TG):TS:=λD σ H=>te σ H λx H1=>g x σ H1 D.nx
def xAis{g:TG}(c:PE X e te)(b:PG X tg g)(hs:swapsWithSole [tg] e pos.line X.env=pure false:=by rfl)(hw:swappedStores [tg] e X.env=pure none:=by rfl)(h1:(assignEach [tg] X.env).map (·.2)=[assign tg X.env]:=by rfl):PS X (.Assign [tg] e pos) (tAsg te g):=by
 refine⟨?_⟩;intro pins s σ H D I h;refine wpAny_Assign_stores (thn (c pins s σ H _ I h) λv a ⟨x,H1,i,d,f⟩=>?_) hs hw;rw[h1];exact thn (b pins a σ H1 x v _ i d f) λ_ j q=>q
def xAup(j:X.N.Nodup)(hi:X.N[i]?=some x)(b:Loc X.env.scope x)(c:PE X e te)(hs:swapsWith e (some (.Name x pos')) pos.line X.env=pure false:=by rfl)(hf:X.fn x=true\/X.env.scope.names.lookup x=some .local:=by first|exact .inl rfl|exact .inr rfl|assumption) :
  PS X (.Assign [.Name x pos'] e pos) (tAsg te (gName i)):=by
 refine⟨?_⟩;intro pins s σ H D I h;refine wpAny_Assign_Name (thn (c pins s σ H _ I h) λv l ⟨y,H1,a,f,g⟩=>?_) hs;exact xAfu a j hi b f (λk d=>⟨_,H1,d,g⟩) hf
end
structure It where
 go:Nat->Hp->Prop
 yld:Nat->Hp->V->Hp->Prop
 stop:Nat->Hp->Prop
def FpOk(X:Cx)(pins:List (Addr×Obj))(H:Hp)(b:Addr):Prop :=
 H b=none/\b≠X.env.locals/\b∉X.fs/\(b∈X.ex\/X.s₀.heap.objs.size≤b)/\(∀x c,X.env.cells.lookup x=some c->c≠b)/\∀p∈X.pn++pins,p.1≠b
def Inv.fpOk{X:Cx}{pins:List (Addr×Obj)}{σ:St}{H H':Hp}{s:Shared}{b:Addr}(I:Inv X pins σ H s)(a:s.heap.objs.size≤b)(hn:H' b=none):FpOk X pins H' b:=by
 refine⟨hn,zg (qv I.lt a),I.nofs a,.inr (qh I.sz a),λx c e z=>?_,λp d z=>?_⟩
 ·obtain⟨v,q⟩:=I.cell x c e
  exact absurd (qv q.lt (by rw[z];exact a)) (zr _)
 ·exact absurd (qv (q0 (I.pin p d).1) (by rw[z];exact a)) (zr _)
structure Turn(P:Program)(w:World)(K:PySem.W.Frag)(tg:Expr)(J:It)(fp:List Addr)(it:Addr)(tn:Nat->Heap->Prop):Prop where
 mem:it∈fp
 obj:∀i h,tn i h->∀b∈fp,∃o,h.get? b=some o/\∀v,o.data≠.cell v
 keep:∀i h h',tn i h->(∀b∈fp,∀o,h.get? b=some o->h'.get? b=some o)->tn i h'
 item:∀(X:Cx),X.prog=P->X.w=w->X.K=K->X.calm=true->∀(i:Nat) (pins:List (Addr×Obj)) (s:Shared) (σ:St) (H:Hp) (E:Value->Shared->Prop),Inv X pins σ H s->(∀b∈fp,FpOk X pins H b)->tn i s.heap->J.go i H →
  wpAny (model P w) X.A (pyNext (.ref it)) (λr s1=>∃u,r=some u ∧
   wpAny (model P w) X.A (letOwnedTupleGo tg (.ref it) u) (λ_ s2=>∃x H',Inv X pins σ H' s2/\RelV x u/\J.yld i H x H'/\tn (i+1) s2.heap/\∀b∈fp,H' b=none) E s1) E s
 done:∀(X:Cx),X.prog=P->X.w=w->X.K=K->X.calm=true->∀(i:Nat) (pins:List (Addr×Obj)) (s:Shared) (σ:St) (H:Hp) (E:Value->Shared->Prop),Inv X pins σ H s->(∀b∈fp,FpOk X pins H b)->tn i s.heap->J.stop i H →
  wpAny (model P w) X.A (pyNext (.ref it)) (λr s1=>r=none/\Inv X pins σ H s1) E s
 self:∀(A:Around) (i:Nat) (s:Shared) (Q:Value->Shared->Prop) (E:Value->Shared->Prop),tn i s.heap->Q (.ref it) s->wpAny (model P w) A (pyIter (.ref it)) Q E s
abbrev TI:=St->Hp->(It->Hp->Prop)->Prop
def PIE(X:Cx)(pins:List (Addr×Obj))(σ:St)(tg:Expr)(R:It->Hp->Prop)(a:Value)(c:Shared):Prop :=
 ∃(it:Addr) (d:List Addr) (e:Nat->Heap->Prop) (J:It) (H':Hp),a=.ref it/\Inv X pins σ H' c/\Turn X.prog X.w X.K tg J d it e/\e 0 c.heap/\(∀b∈d,FpOk X pins H' b)/\R J H'
def PI0(X:Cx)(tg a:Expr)(b:TI):Prop :=
 ∀(pins:List (Addr×Obj)) (s:Shared) (σ:St) (H:Hp) (R:It->Hp->Prop),Inv X pins σ H s->b σ H R →
  wpAny (model X.prog X.w) X.A (eval a X.env) (λv c=>wpAny (model X.prog X.w) X.A (pyIter v) (PIE X pins σ tg R) X.xe c) X.xe s
structure PI(X:Cx)(tg iter:Expr)(wi:TI):Prop where run:PI0 X tg iter wi
instance PICf{X:Cx}{tg a:Expr}{b:TI}:CoeFun (PI X tg a b) λ_=>PI0 X tg a b:=⟨PI.run⟩
def go_of(b:s.heap.get? it=some o)(c:o.cls=.type n)(d:o.data=.fields vs)(hn:["enumerate","zip","dict_itemiterator","dict_reverseitemiterator","odict_iterator","itertools.zip_longest","itertools.pairwise"].contains n=false)(a:Q () s):wpAny M A (letOwnedTupleGo tg (.ref it) u) Q E s:=by
 unfold letOwnedTupleGo
 cases tg <;> first
  |exact qb a
  | (cases u <;> first
    |exact qb a
    | (refine qa (qI b ?_)
       rw[c,d];show wpAny M A (if(["enumerate","zip","dict_itemiterator","dict_reverseitemiterator","odict_iterator","itertools.zip_longest","itertools.pairwise"].contains n&&vs[0]?==some (rawInt _))=true then _ else _) Q E s;rw[qs (by intro h;rw[hn,Bool.false_and]at h;cases h)]
       exact qb a))
def Itl(a:Addr):It :=
 ⟨λi H=>∃xs x,SqL H a xs/\xs[i]?=some x,λi H x H'=>H'=H/\∀xs,SqL H a xs->xs[i]?=some x,λi H=>∃xs,SqL H a xs/\xs.length≤i⟩
def Itr(lo:Int)(n:Nat):It:=⟨λi _=>i<n,λi H x H'=>H'=H/\x=.int (lo+i),λi _=>n≤i⟩
def xAnt{P:Program}{w:World}{K:PySem.W.Frag}{tg:Expr}(a it:Addr):Turn P w K tg (Itl a) [it] it (λi h=>h.IsListIter it a i) where
 mem:=by simp
 obj:=λi h st b f=>by
  have e:b=it:=by simpa using f
  subst e;obtain⟨o,e,c,d⟩:=st;exact⟨o,e,λv z=>by rw[d]at z;cases z⟩
 keep:=λi h h' st k=>st.at λo e=>k it (by simp) o e
 item:=by
  intro X y hw t D i pins s σ H E I hf st q;subst y hw t;obtain⟨xs,x,j,m⟩:=q;obtain⟨A,l,p,hz⟩:=I.list j;obtain⟨u,F,L⟩:=l.get m;obtain⟨B,f1,f2,C,n,r⟩:=hf it (by simp);refine wpAny_pyNext_list_item st p.isList (x:=u) (by simpa using F) λh' g N=>?_;have J:Inv X pins σ H { s with heap:=h' }:=I.turned (t':=s.toks) (λb o f e=>(N.2 b f).trans e) B f1 C n r;obtain⟨o,e,c,d⟩:=id g;exact⟨u,Y,go_of (s:={ s with heap:=h' }) e c d (by decide) ⟨x,H,J,L,⟨Y,λys M=>by rw[I.list_inj M j];exact m⟩,g,λb f=>(hf b f).1⟩⟩
 done:=by
  intro X y hw t D i pins s σ H E I hf st q;subst y hw t;obtain⟨xs,j,m⟩:=q;obtain⟨A,l,p,hz⟩:=I.list j;obtain⟨B,f1,f2,C,n,r⟩:=hf it (by simp);have O:=l.length;exact wpAny_pyNext_list_end (I.ok.hd D) st p.isList (by simp;omega) λh' G=>⟨Y,I.turned (t':=s.toks) (λb o f e=>G b o f e) B f1 C n r⟩
 self:=λ_ _ _ _ _ st h=>wpAny_pyIter_listiter st h
def xAjj{P:Program}{w:World}{K:PySem.W.Frag}{tg:Expr}(it:Addr)(lo:Int)(n:Nat):Turn P w K tg (Itr lo n) [it] it (λi h=>IsRangeIter h it (lo+(i:Nat) * 1) ((n:Int) - (i:Nat)) 1) where
 mem:=by simp
 obj:=λi h st b a=>by
  have e:b=it:=by simpa using a
  subst e
  exact⟨_,st,λv z=>by
   have u:Data.fields _=Data.cell v:=z
   cases u⟩
 keep:=λi h h' st k=>k it (by simp) _ st
 item:=by
  intro X l hw g p i pins s σ H E I hf st f;subst l hw g;obtain⟨q,f1,f2,j,d,m⟩:=hf it (by simp);have W:=Walks.range (prog:=X.prog) (w:=X.w) (I.ok.hd p) it lo 1 n;refine W.item i s _ _ f st λv h' tk x c kk=>?_;obtain⟨t,rfl⟩:=x;have y:Inv X pins σ H { s with heap:=h',toks:=tk }:=I.turned (λb o a e=>kk b o (by simpa using a) e) q f1 j d m;refine⟨_,Y,go_of (s:={ s with heap:=h',toks:=tk }) (n:="range_iterator") c rfl rfl (by decide) ⟨.int (lo+i),H,y,⟨t,?_⟩,⟨Y,Y⟩,c,λb a=>(hf b a).1⟩⟩;rw[Int.mul_one]
 done:=by
  intro X l hw g p i pins s σ H E I hf st f;subst l hw g;obtain⟨q,f1,f2,j,d,m⟩:=hf it (by simp);exact wpAny_pyNext_range_end (I.ok.hd p) st (by have:n≤i:=f;omega) λh' r=>⟨Y,I.turned (t':=s.toks) (λb o a e=>r b o a e) q f1 j d m⟩
 self:=λ_ _ _ _ _ st h=>wpAny_pyIter_rangeiter st h
section
variable {X:Cx}{tg:Expr}
inductive IiList(R:It->Hp->Prop)(x:V)(H1:Hp):Prop
 |mk (a:_) (h0_:x=.ref a) (h1_:(∃xs,SqL H1 a xs)) (h2_:R (Itl a) H1):IiList R x H1
def iList(tl:TE):TI:=λσ H R=>tl σ H λx H1=>IiList R x H1
def xAuq{tl:TE}(f:PE X l tl):PI X tg l (iList tl):=by
 refine⟨?_⟩;intro pins s σ H R I h;refine thn (f pins s σ H _ I h) λv d ⟨x,H1,c,g,j⟩=>?_;obtain⟨a,e,⟨xs,k⟩,q⟩:=j;subst e;cases g;obtain⟨i,n,p,hz⟩:=c.list k;refine wpAny_pyIter_list p.isList ?_;refine⟨d.heap.objs.size,[d.heap.objs.size],_,_,H1,Y,c.kept (t':=d.toks) λb o e=>qA _ e,xAnt a _,⟨_,qB _ rfl,Y,Y⟩,λb m=>?_,q⟩
 have e:b=d.heap.objs.size:=by simpa using m
 subst e;exact c.fpOk (qd _) (c.hok.fresh (qd _))
def xAjk{pins:List (Addr×Obj)}{σ:St}{H:Hp}{s:Shared}{R:It->Hp->Prop}{E:Value->Shared->Prop}{lo hi:Int}{t u v:Tok}{tk:Nat}(I:Inv X pins σ H s)(h1:-(2 ^ 62)≤lo)(h2:lo<2 ^ 62)(g:-(2 ^ 62)≤hi)(f:hi<2 ^ 62)(q:R (Itr lo (hi - lo).toNat) H):wpAny (model X.prog X.w) X.A (pyIter (.ref s.heap.objs.size)) (PIE X pins σ tg R) E { s with heap:=s.heap.push { cls:=.type "range",data:=.fields #[.int lo t,.int hi u,.int 1 v] },toks:=tk }:=by
 refine wpAny_pyIter_range (IsRange.new ..) (small_one h1 h2 g f) ?_;have a:Inv X pins σ H { s with heap:=s.heap.push { cls:=.type "range",data:=.fields #[.int lo t,.int hi u,.int 1 v] },toks:=tk }:=I.kept λb o e=>qA _ e
 refine⟨(s.heap.push { cls:=.type "range",data:=.fields #[.int lo t,.int hi u,.int 1 v] }).objs.size,[(s.heap.push { cls:=.type "range",data:=.fields #[.int lo t,.int hi u,.int 1 v] }).objs.size],_,_,H,Y,
  a.kept (t':=tk) λb o e=>qA _ e,xAjj _ lo (hi - lo).toNat,?_,λb h=>?_,q⟩
 ·have d:lo+((0:Nat):Int) * 1=lo:=by simp
  have c:(((hi - lo).toNat:Nat):Int) - ((0:Nat):Int)=Builtin.Range.rangeSize lo hi 1:=by rw[rangeSize_one];split <;> omega
  show IsRangeIter _ _ (lo+((0:Nat):Int) * 1) ((((hi - lo).toNat:Nat):Int) - ((0:Nat):Int)) 1;rw[d,c];exact qB _ rfl
 ·have e:b=(s.heap.push { cls:=.type "range",data:=.fields #[.int lo t,.int hi u,.int 1 v] }).objs.size:=by simpa using h
  subst e;exact a.fpOk (qd _) (a.hok.fresh (qd _))
inductive IiRng1(R:It->Hp->Prop)(vs:List V)(H1:Hp):Prop
 |mk (j:Int) (h0_:vs=[.int j]) (h1_:-(2 ^ 62)≤j) (h2_:j<2 ^ 62) (h3_:R (Itr 0 j.toNat) H1):IiRng1 R vs H1
def iRng1(ta:TA):TI:=λσ H R=>ta σ H λvs H1=>IiRng1 R vs H1
inductive IiRng2(R:It->Hp->Prop)(vs:List V)(H1:Hp):Prop
 |mk (i j:Int) (h0_:vs=[.int i,.int j]) (h1_:(-(2 ^ 62)≤i/\i<2 ^ 62/\-(2 ^ 62)≤j/\j<2 ^ 62)) (h2_:R (Itr i (j - i).toNat) H1):IiRng2 R vs H1
def iRng2(ta:TA):TI:=λσ H R=>ta σ H λvs H1=>IiRng2 R vs H1
def xAbu(f:Gl X "range")(g:X.mg "range"=none)(k:PA X [a] ta)(hs:starEach [a] X.env=[(false,eval a X.env)]:=by rfl):PI X tg (.Call (.Name "range" p) [a] [] pos) (iRng1 ta):=by
 refine⟨?_⟩;intro pins s σ H R I h;refine Call_ (xAds I f g boot_range (PyProof.Rows.callWith_type1 (thn (k pos pins s σ H _ I h) λus m ⟨vs,H1,d,i,b⟩=>?_) hs rfl));obtain⟨j,e,b,c,q⟩:=b;subst e
 cases i with
 |cons r l =>
  cases l;obtain⟨t,rfl⟩:=r;exact call_range_1 (xAjk d (by omega) (by omega) b c (by simpa using q))
def xAnu(m:Gl X "range")(n:X.mg "range"=none)(w:PA X [a,b] ta)(hs:starEach [a,b] X.env=[(false,eval a X.env),(false,eval b X.env)]:=by rfl)(c:starEach [b] X.env=[(false,eval b X.env)]:=by rfl) :
  PI X tg (.Call (.Name "range" p) [a,b] [] pos) (iRng2 ta):=by
 refine⟨?_⟩;intro pins s σ H R I h;refine Call_ (xAds I m n boot_range (PyProof.Rows.callWith_type1 (thn (w pos pins s σ H _ I h) λus x ⟨vs,H1,l,v,d⟩=>?_) (by rw[hs,c]) (by rw[c];rfl)));obtain⟨i,j,e,⟨d,k,o,u⟩,q⟩:=d;subst e
 cases v with
 |cons r f =>
  cases f with
  |cons g f =>
   cases f;obtain⟨t,rfl⟩:=r;obtain⟨t',rfl⟩:=g;exact call_range_2 (xAjk l d k o u q)
def tFor(c:TI)(g:TG)(tb:TS):TS:=λD σ H=>c σ H λJ H1=>∃W:Nat->Nat->St->Hp->Prop,(∃m,W 0 m σ H1)/\∀i m σ H,W i m σ H →
 (J.stop i H/\D.nx σ H)\/(J.go i H/\∃N:St->Hp->Prop,(∀σ' H',N σ' H'->∃b,b<m/\W (i+1) b σ' H')/\∀x H',J.yld i H x H'->g x σ H' λa H2=>tb { D with nx:=N,ct:=N,bk:=D.nx } a H2)
def pinsAt(a:List Addr)(h:Heap):List (Addr×Obj):=a.filterMap λb=>(h.get? b).map λo=>(b,o)
def xAcy(c:b∈a)(e:h.get? b=some o):(b,o)∈pinsAt a h:=yh.mpr ⟨b,c,by rw[e];rfl⟩
def xAhd(c:p∈pinsAt a h):p.1∈a/\h.get? p.1=some p.2:=by
 obtain⟨b,f,e⟩:=yh.mp c
 cases q:h.get? b with
 |none=>rw[q]at e;cases e
 |some o =>
  rw[q]at e;have d:(b,o)=p:=qC e;subst d;exact⟨f,q⟩
def Inv.pinned{pins:List (Addr×Obj)}{σ:St}{H:Hp}{s:Shared}{a:List Addr}(I:Inv X pins σ H s)(hf:∀b∈a,FpOk X pins H b)(h:∀b∈a,∃o,s.heap.get? b=some o/\∀v,o.data≠.cell v):Inv X (pins++pinsAt a s.heap) σ H s :=
 I.pins_of λp g=>(zb.mp g).elim (λz=>I.pin p (z8 _ z)) λz=>by
  obtain⟨f,e⟩:=xAhd z;obtain⟨i,f1,f2,_⟩:=hf p.1 f;obtain⟨o,c,d⟩:=h p.1 f;rw[e]at c;cases c;exact⟨e,i,f1,f2,d⟩
def Inv.unpinned{pins pl:List (Addr×Obj)}{σ:St}{H:Hp}{s:Shared}(I:Inv X (pins++pl) σ H s):Inv X pins σ H s:=I.pins_of λp a=>I.pin p (z8 _ (yg _ a))
def xAur{Y:TI}{g:TG}(M:PassesOwn (model X.prog X.w) X.A X.env X.xe)(hc:X.calm=true)(hi:PI X tg p Y)(hg:PG X tg g)(j:PSs X z tb)(hs:∀x,foldedSetIterable p X.env x=pure x:=by intro _;rfl):PS X (.For tg p z [] pos) (tFor Y g tb):=by
 refine⟨?_⟩;intro pins s σ H D I h;refine wpAny_For (thn (hi pins s σ H _ I h) λv s1 h1=>thn h1 λitv s2 h2=>?_) hs;obtain⟨it,C,tn,J,H2,e,I2,T,S,f2,W,⟨m0,w0⟩,K⟩:=h2;subst e;have l:∀{H':Hp},(∀b∈C,H' b=none)->∀b∈C,FpOk X pins H' b:=λhn b j=>⟨hn b j,(f2 b j).2⟩;refine codeAny_forLoop_any (λn s'=>∃i σ' H',Inv X pins σ' H' s'/\tn i s'.heap/\(∀b∈C,H' b=none)/\W i n σ' H') ?_ m0 ⟨0,σ,H2,I2,S,λb j=>(f2 b j).1,w0⟩;rintro n Z ⟨i,t,O,I3,E,F,w3⟩;rcases K i n t O w3 with⟨G,qn⟩|⟨go,N,hN,step⟩
 ·refine wpAny_passesOwn M (thn (T.done X rfl rfl rfl hc i pins Z t O X.xe I3 (l F) E G) λr s4 ⟨V,I4⟩=>?_)
  subst V;exact wpAny_execs_nil ⟨t,O,I4,qn⟩
 ·refine wpAny_passesOwn M (thn (T.item X rfl rfl rfl hc i pins Z t O X.xe I3 (l F) E go) λr s4 ⟨u,V,h4⟩=>?_)
  subst V;refine wpAny_passesOwn M (thn h4 λ_ s5 ⟨x,H5,I5,r5,y5,B,Q⟩=>?_);have U:=I5.pinned (l Q) (T.obj _ _ B);refine wpAny_passesOwn M (thn (hg _ s5 t H5 x u _ U r5 (step x H5 y5)) λ_ s6 ⟨P,H6,I6,q6⟩=>?_);refine wpAny_passesOwn M (thn (j _ s6 P H6 _ I6 q6) λf R y=>?_)
  have q:∀{a:St} {c:Hp},Inv X (pins++pinsAt C s5.heap) a c R->N a c->∃m,m<n/\∃i σ' H',Inv X pins σ' H' R/\tn i R.heap/\(∀b∈C,H' b=none)/\W i m σ' H':=λ{a c} k L=>by
   obtain⟨m',hm,w7⟩:=hN a c L;refine⟨m',hm,i+1,a,c,k.unpinned,T.keep _ _ _ B λb j o e=>(k.pin (b,o) (z8 _ (z8 _ (xAcy j e)))).1,λb j=>?_,w7⟩;obtain⟨o,e,d⟩:=T.obj _ _ B b j;exact(k.pin (b,o) (z8 _ (z8 _ (xAcy j e)))).2.1
  cases f with
  |next=>obtain⟨a,c,k,L⟩:=y;exact q k L
  |cont=>obtain⟨a,c,k,L⟩:=y;exact q k L
  |brk=>obtain⟨a,c,k,y⟩:=y;exact⟨a,c,k.unpinned,y⟩
  |ret v=>obtain⟨x7,a,c,k,r7,y⟩:=y;exact⟨x7,a,c,k.unpinned,r7,y⟩
end
def xAcg{a:Addr}{xs:List V}{g:TG}{tb:TS}{D:Ends}{σ:St}{H:Hp}(b:Nat->St->Hp->Prop)(h0:b 0 σ H)(h:∀i σ H,i≤xs.length->b i σ H->SqL H a xs)(hs:∀i x σ H,xs[i]?=some x->b i σ H->g x σ H λc H2=>tb { D with nx:=b (i+1),ct:=b (i+1),bk:=D.nx } c H2)(k:∀σ H,b xs.length σ H->D.nx σ H) :
  ∃W:Nat->Nat->St->Hp->Prop,(∃m,W 0 m σ H)/\∀i m σ H,W i m σ H →
   ((Itl a).stop i H/\D.nx σ H)\/((Itl a).go i H/\∃N:St->Hp->Prop,(∀σ' H',N σ' H'->∃f,f<m/\W (i+1) f σ' H')/\∀x H',(Itl a).yld i H x H'->g x σ H' λc H2=>tb { D with nx:=N,ct:=N,bk:=D.nx } c H2):=by
 refine⟨λi m σ H=>m=xs.length - i/\i≤xs.length/\b i σ H,⟨xs.length,by simp,Nat.zero_le _,h0⟩,?_⟩;rintro i m σ H ⟨rfl,hi,p⟩;have q:=h i σ H hi p
 by_cases d:i<xs.length
 ·refine .inr ⟨⟨xs,xs[i],q,by simp[d]⟩,b (i+1),λσ' H' j=>⟨xs.length - (i+1),by omega,Y,d,j⟩,λx H' y=>?_⟩
  obtain⟨e,y⟩:=y;subst e;exact hs i x σ _ (y xs q) p
 ·have e:i=xs.length:=by omega
  subst e;exact .inl ⟨⟨xs,q,qd _⟩,k σ H p⟩
def xAcb{lo:Int}{n:Nat}{g:TG}{tb:TS}{D:Ends}{σ:St}{H:Hp}(a:Nat->St->Hp->Prop)(h0:a 0 σ H)(hs:∀i σ H,i<n->a i σ H->g (.int (lo+i)) σ H λc H2=>tb { D with nx:=a (i+1),ct:=a (i+1),bk:=D.nx } c H2)(h:∀σ H,a n σ H->D.nx σ H) :
  ∃W:Nat->Nat->St->Hp->Prop,(∃m,W 0 m σ H)/\∀i m σ H,W i m σ H →
   ((Itr lo n).stop i H/\D.nx σ H)\/((Itr lo n).go i H/\∃N:St->Hp->Prop,(∀σ' H',N σ' H'->∃d,d<m/\W (i+1) d σ' H')/\∀x H',(Itr lo n).yld i H x H'->g x σ H' λc H2=>tb { D with nx:=N,ct:=N,bk:=D.nx } c H2):=by
 refine⟨λi m σ H=>m=n - i/\i≤n/\a i σ H,⟨n,by simp,Nat.zero_le _,h0⟩,?_⟩;rintro i m σ H ⟨rfl,hi,p⟩
 by_cases b:i<n
 ·refine .inr ⟨b,a (i+1),λσ' H' f=>⟨n - (i+1),by omega,Y,b,f⟩,λx H' y=>?_⟩
  obtain⟨e,y⟩:=y;subst e y;exact hs i σ _ b p
 ·have e:i=n:=by omega
  subst e;exact .inl ⟨qd _,h σ H p⟩
abbrev R2:=V->V->Hp->VK->Prop
def OpR(X:Cx)(f:Value->Value->Sem Value)(r:R2):Prop :=
 ∀(pins:List (Addr×Obj)) (s:Shared) (σ:St) (H:Hp) (x y:V) (v u:Value) (Q:VK),Inv X pins σ H s->RelV x v->RelV y u->r x y H Q →
  wpAny (model X.prog X.w) X.A (f v u) (EP X pins σ Q) X.xe s
def UnR(X:Cx)(f:Value->Sem Value)(r:V->Hp->VK->Prop):Prop :=
 ∀(pins:List (Addr×Obj)) (s:Shared) (σ:St) (H:Hp) (x:V) (v:Value) (Q:VK),Inv X pins σ H s->RelV x v->r x H Q →
  wpAny (model X.prog X.w) X.A (f v) (EP X pins σ Q) X.xe s
def CallR(X:Cx)(f:Value)(r:List V->Hp->VK->Prop):Prop :=
 ∀(pins:List (Addr×Obj)) (s:Shared) (σ:St) (H:Hp) (xs:List V) (us:List Value) (Q:VK),Inv X pins σ H s->Vals xs us->r xs H Q →
  wpAny (model X.prog X.w) X.A (call f us) (EP X pins σ Q) X.xe s
def tOp(r:R2)(ta tb:TE):TE:=λσ H Q=>ta σ H λx H1=>tb σ H1 λy H2=>r x y H2 Q
def tUn(r:V->Hp->VK->Prop)(ta:TE):TE:=λσ H Q=>ta σ H λx H1=>r x H1 Q
inductive IrI(C:Int->Int->Prop)(g:Int->Int->V)(x:V)(y:V)(H:Hp)(Q:VK):Prop
 |mk (i:_) (j:_) (h0_:x=.int i) (h1_:y=.int j) (h2_:C i j) (h3_:Q (g i j) H):IrI C g x y H Q
def rI(C:Int->Int->Prop)(g:Int->Int->V):R2:=λx y H Q=>IrI C g x y H Q
inductive IrI0(g:Int->Int->V)(x:V)(y:V)(H:Hp)(Q:VK):Prop
 |mk (i:_) (j:_) (h0_:x=.int i) (h1_:y=.int j) (h2_:Q (g i j) H):IrI0 g x y H Q
def rI0(g:Int->Int->V):R2:=λx y H Q=>IrI0 g x y H Q
inductive IrU(g:Int->V)(x:V)(H:Hp)(Q:VK):Prop
 |mk (i:_) (h0_:x=.int i) (h1_:Q (g i) H):IrU g x H Q
def rU(g:Int->V):V->Hp->VK->Prop:=λx H Q=>IrU g x H Q
section
variable {X:Cx}{a b c:Expr}{ta tb tc:TE}{pos:Pos}
def binT(m:PE X a ta)(o:PE X b tb){pins:List (Addr×Obj)}{s:Shared}{σ:St}{H:Hp}{R:V->V->Hp->Prop}(I:Inv X pins σ H s)(h:ta σ H λx H1=>tb σ H1 λy H2=>R x y H2){Q:Value->Shared->Prop}{f:Value->Value->Sem Value}(hf:∀v u e x y H2,Inv X pins σ H2 e->RelV x v->RelV y u->R x y H2->wpAny (model X.prog X.w) X.A (f v u) Q X.xe e) :
  wpAny (model X.prog X.w) X.A (eval a X.env) (λv d=>wpAny (model X.prog X.w) X.A (eval b X.env) (λu c=>wpAny (model X.prog X.w) X.A (f v u) Q X.xe c) X.xe d) X.xe s:=by
 refine thn (m pins s σ H _ I h) λv i ⟨x,H1,p,l,n⟩=>?_;refine thn (o pins i σ H1 _ p n) λu e ⟨y,H2,k,j,g⟩=>?_;exact hf v u e x y H2 k l j g
def pe_op(i:OpR X (binaryOp op) r)(e:PE X a ta)(j:PE X b tb):PE X (.BinOp a op b pos) (tOp r ta tb):=by
 refine⟨?_⟩;intro pins s σ H Q I h;exact wpAny_BinOp (binT e j I h λv u c x y H2 d f g q=>i pins c σ H2 x y v u Q d f g q)
def pe_un(e:UnR X (unaryOp op) r)(c:PE X a ta):PE X (.UnaryOp op a pos) (tUn r ta):=by
 refine⟨?_⟩;intro pins s σ H Q I h;exact UnaryOp_ (thn (c pins s σ H _ I h) λv g ⟨x,H1,b,d,f⟩=>e pins g σ H1 x v Q b d f)
def opI{g:Int->Int->Int}(a:∀(i j:Int) (t u:Tok) (s:Shared) (Q:Value->Shared->Prop) (E:Value->Shared->Prop),C i j->Q (.int (g i j) s.toks) { s with toks:=s.toks+1 }->wpAny (model X.prog X.w) X.A (f (.int i t) (.int j u)) Q E s) :
  OpR X f (rI C λi j=>.int (g i j)):=by
 intro pins s σ H x y v u Q I c d h;obtain⟨i,j,rfl,rfl,b,q⟩:=h;obtain⟨t,rfl⟩:=c;obtain⟨t',rfl⟩:=d;exact a i j t t' s _ _ b ⟨.int (g i j),H,I.tok _,⟨_,Y⟩,q⟩
def opI0{g:Int->Int->Int}(a:∀(i j:Int) (t u:Tok) (s:Shared) (Q:Value->Shared->Prop) (E:Value->Shared->Prop),Q (.int (g i j) s.toks) { s with toks:=s.toks+1 }->wpAny (model X.prog X.w) X.A (f (.int i t) (.int j u)) Q E s) :
  OpR X f (rI0 λi j=>.int (g i j)):=by
 intro pins s σ H x y v u Q I b c h;obtain⟨i,j,rfl,rfl,q⟩:=h;obtain⟨t,rfl⟩:=b;obtain⟨t',rfl⟩:=c;exact a i j t t' s _ _ ⟨.int (g i j),H,I.tok _,⟨_,Y⟩,q⟩
def opB0{g:Int->Int->Bool}(a:∀(i j:Int) (t u:Tok) (s:Shared) (Q:Value->Shared->Prop) (E:Value->Shared->Prop),Q (.bool (g i j)) s->wpAny (model X.prog X.w) X.A (f (.int i t) (.int j u)) Q E s) :
  OpR X f (rI0 λi j=>.bl (g i j)):=by
 intro pins s σ H x y v u Q I b c h;obtain⟨i,j,rfl,rfl,q⟩:=h;obtain⟨t,rfl⟩:=b;obtain⟨t',rfl⟩:=c;exact a i j t t' s _ _ ⟨.bl (g i j),H,I,Y,q⟩
def CDiv(i j:Int):Prop:=0<j/\j<1073741824
def CPow(i j:Int):Prop:=0≤j/\j≤1000000/\i.natAbs<2 ^ 64
def CMul(i j:Int):Prop:=(-(2 ^ 64)<i/\i<2 ^ 64)\/(-(2 ^ 64)<j/\j<2 ^ 64)
def CMul.ok(h:CMul i j):IntMulOk i j:=by
 rcases h with⟨h1,h2⟩|⟨h1,h2⟩
 ·exact .of_left (intBits_le_64 h1 h2)
 ·exact .of_right (intBits_le_64 h1 h2)
def xAbc:OpR X (binaryOp .Add) (rI0 λi j=>.int (i+j)):=opI0 λ_ _ _ _ _ _ _ q=>add_int q
def xAjl:OpR X (binaryOp .Sub) (rI0 λi j=>.int (i - j)):=opI0 λ_ _ _ _ _ _ _ q=>sub_int q
def xAch:OpR X (binaryOp .Mult) (rI CMul λi j=>.int (i * j)):=opI λ_ _ _ _ _ _ _ a q=>mul_int q a.ok
def xAaq:OpR X (binaryOp .FloorDiv) (rI CDiv λi j=>.int (i / j)):=opI λi j _ _ _ _ _ a q=>by
 have h1:(0:Int)<j:=a.1;have h2:j<1073741824:=a.2;exact floordiv_int (by omega) (by rw[Int.fdiv_eq_ediv_of_nonneg i (by omega)];exact q) (.inl (PyProof.noPylong_small (by omega)))
def xAap:OpR X (binaryOp .Mod) (rI (λ_ j=>0<j) λi j=>.int (i % j)):=opI λi j _ _ _ _ _ a q=>by
 have h1:(0:Int)<j:=a;exact mod_int' (by omega) (by rw[Int.fmod_eq_emod_of_nonneg i (by omega)];exact q)
def xAit:OpR X (binaryOp .Pow) (rI CPow λi j=>.int (i ^ j.toNat)):=opI λ_ _ _ _ _ _ _ a q=>pow_int_small a.1 a.2.1 a.2.2 q
def unI{g:Int->Int}(a:∀(i:Int) (t:Tok) (s:Shared) (Q:Value->Shared->Prop) (E:Value->Shared->Prop),Q (.int (g i) s.toks) { s with toks:=s.toks+1 }->wpAny (model X.prog X.w) X.A (f (.int i t)) Q E s) :
  UnR X f (rU λi=>.int (g i)):=by
 intro pins s σ H x v Q I b h;obtain⟨i,rfl,q⟩:=h;obtain⟨t,rfl⟩:=b;exact a i t s _ _ ⟨.int (g i),H,I.tok _,⟨_,Y⟩,q⟩
def xAus:UnR X (unaryOp .USub) (rU λi=>.int (-i)):=unI λ_ _ _ _ _ q=>neg_int q
end
def scal:V->V->Bool
 |.non,.non=>true|.non,.int _=>true|.int _,.non=>true|.non,.bl _=>true|.bl _,.non=>true|.non,.str _=>true|.str _,.non=>true
 |.int _,.int _=>true|.bl _,.bl _=>true|.str _,.str _=>true|.byt _,.byt _=>true
 |.int _,.str _=>true|.str _,.int _=>true|.bl _,.str _=>true|.str _,.bl _=>true
 |_,_=>false
def rEq:R2:=λx y H Q=>scal x y=true/\Q (.bl (decide (x=y))) H
def xAut:decide (V.int i=V.int j)=(i==j):=by
 rw[vg]
 simp
def dec_bl:decide (V.bl i=V.bl j)=(i==j):=by
 rw[vg]
 simp
def xAuu:decide (V.str i=V.str j)=(i==j):=by
 rw[vg]
 simp
def xAuv:decide (V.byt i=V.byt j)=(i.toList==j.toList):=by
 rw[vg];cases i;cases j
 simp
section
variable {X:Cx}{a b c:Expr}{ta tb tc:TE}{pos:Pos}
def xAby{pins:List (Addr×Obj)}{σ:St}{H:Hp}{s:Shared}{Q:VK}{k a:Bool}(I:Inv X pins σ H s)(q:Q (.bl k) H)(e:k=a):EP X pins σ Q (.bool a) s:=by
 subst e;exact⟨.bl k,H,I,Y,q⟩
def op_eq:OpR X (compareOp .Eq) rEq:=by
 intro pins s σ H x y v u Q I b a h;obtain⟨hs,q⟩:=h
 cases x with
 |non =>
  cases b
  cases y with
  |non=>cases a;exact PySem.EqNone.eq_none_none (xAby I q (by simp))
  |bl j=>cases a;exact PySem.EqNone.eq_none_bool (xAby I q (by simp))
  |int j=>obtain⟨t',rfl⟩:=a;exact PySem.EqNone.eq_none_int (xAby I q (by simp))
  |str j=>obtain⟨t',rfl⟩:=a;exact PySem.EqNone.eq_none_str (xAby I q (by simp))
  |_=>exact absurd (show false=true from hs) qr
 |bl i =>
  cases b
  cases y with
  |non=>cases a;exact PySem.EqNone.eq_bool_none (xAby I q (by simp))
  |bl j=>cases a;exact eq_bool (xAby I q dec_bl)
  |str j=>obtain⟨t',rfl⟩:=a;exact PySem.EqMixed.eq_bool_str (xAby I q (by simp))
  |_=>exact absurd (show false=true from hs) qr
 |int i =>
  obtain⟨t,rfl⟩:=b
  cases y with
  |non=>cases a;exact PySem.EqNone.eq_int_none (xAby I q (by simp))
  |int j=>obtain⟨t',rfl⟩:=a;exact eq_int (xAby I q xAut)
  |str j=>obtain⟨t',rfl⟩:=a;exact PySem.EqMixed.eq_int_str (xAby I q (by simp))
  |_=>exact absurd (show false=true from hs) qr
 |str i =>
  obtain⟨t,rfl⟩:=b
  cases y with
  |non=>cases a;exact PySem.EqNone.eq_str_none (xAby I q (by simp))
  |bl j=>cases a;exact PySem.EqMixed.eq_str_bool (xAby I q (by simp))
  |int j=>obtain⟨t',rfl⟩:=a;exact PySem.EqMixed.eq_str_int (xAby I q (by simp))
  |str j=>obtain⟨t',rfl⟩:=a;exact eq_str (xAby I q xAuu)
  |_=>exact absurd (show false=true from hs) qr
 |byt i =>
  obtain⟨t,rfl⟩:=b
  cases y with
  |byt j=>obtain⟨t',rfl⟩:=a;exact PySem.W.eq_bytes (xAby I q xAuv)
  |_=>exact absurd (show false=true from hs) qr
 |_=>cases y <;> exact absurd (show false=true from hs) qr
def op_lt:OpR X (compareOp .Lt) (rI0 λi j=>.bl (decide (i<j))):=opB0 λ_ _ _ _ _ _ _ q=>lt_int q
def op_gt:OpR X (compareOp .Gt) (rI0 λi j=>.bl (decide (j<i))):=opB0 λ_ _ _ _ _ _ _ q=>gt_int q
def op_ge:OpR X (compareOp .GtE) (rI0 λi j=>.bl (decide (j≤i))):=opB0 λ_ _ _ _ _ _ _ q=>ge_int q
def op_isN:OpR X (compareOp .Is) (λx y H Q=>y=.non/\Q (.bl (decide (x=.non))) H):=by
 intro pins s σ H x y v u Q I a b h;obtain⟨rfl,q⟩:=h;cases b;refine is_none_gen (xAby I q ?_)
 cases x <;> first
  |(cases a;rfl)
  |(obtain⟨t,rfl⟩:=a;rfl)
def xAuw(j:OpR X (compareOp op) r)(f:PE X a ta)(k:PE X b tb)(d:behindInMarks op b=false):PE X (.Compare a [op] [b] pos) (tOp r ta tb):=by
 refine⟨?_⟩;intro pins s σ H Q I h;exact wpAny_Compare1 (binT f k I h λv u c x y H2 e g i q=>j pins c σ H2 x y v u Q e g i q) d
inductive ItTest(Q:Bool->Hp->Prop)(x:V)(H':Hp):Prop
 |mk (k:_) (h0_:x=.bl k) (h1_:Q k H'):ItTest Q x H'
def tTest(t:TE):TT:=λσ H Q=>t σ H λx H'=>ItTest Q x H'
def xAux(w:OpR X (compareOp op) r)(p:PE X a ta)(B:PE X b tb)(i:behindInMarks op b=false):PT X (.Compare a [op] [b] pos) (tTest (tOp r ta tb)):=by
 refine⟨?_⟩;intro pins s σ H Q I h
 refine wpAny_isTrue_Compare1 (thn (p pins s σ H _ I h) λv C ⟨x,H1,g,o,A⟩=>thn (B pins C σ H1 _ g A) λu f ⟨y,H2,n,l,d⟩ =>
  thn (w pins f σ H2 x y v u _ n o l d) λc D ⟨z,q,j,t,k,e,m⟩=>?_) i
 subst e;cases t;exact wpAny_truthy_bool ⟨q,j,m⟩
def xAjm:(sizeLine:Nat)<2 ^ 63:=by rw[sizeLine_eq];decide
inductive IRop_add_str(x:V)(y:V)(H:Hp)(Q:VK):Prop
 |mk (i:_) (j:_) (h0_:x=.str i) (h1_:y=.str j) (h2_:i.length+j.length≤sizeLine) (h3_:Q (.str (i++j)) H):IRop_add_str x y H Q
def Rop_add_str:R2:=λx y H Q=>IRop_add_str x y H Q
def xAex:OpR X (binaryOp .Add) Rop_add_str:=by
 intro pins s σ H x y v u Q I a b h;obtain⟨i,j,rfl,rfl,hz,q⟩:=h;obtain⟨t,rfl⟩:=a;obtain⟨t',rfl⟩:=b;exact add_str (λt' tk=>⟨.str (i++j),H,I.tok _,⟨_,Y⟩,q⟩) hz
def vals1(r:Vals [x] us):∃u,us=[u]/\RelV x u:=by
 cases r with
 |cons a b=>cases b;exact⟨_,Y,a⟩
def vals2(r:Vals [x,y] us):∃u a,us=[u,a]/\RelV x u/\RelV y a:=by
 cases r with
 |cons d b =>
  cases b with
  |cons e c=>cases c;exact⟨_,_,Y,d,e⟩
inductive IRcall_max2(xs:List V)(H:Hp)(Q:VK):Prop
 |mk (i:_) (j:_) (h0_:xs=[.int i,.int j]) (h1_:Q (.int (if j>i then j else i)) H):IRcall_max2 xs H Q
def Rcall_max2:List V->Hp->VK->Prop:=λxs H Q=>IRcall_max2 xs H Q
def xAcs(b:X.calm=true):CallR X (.builtin "max") Rcall_max2:=by
 intro pins s σ H xs us Q I r h;obtain⟨i,j,rfl,q⟩:=h;obtain⟨u,c,rfl,⟨t,rfl⟩,⟨t',rfl⟩⟩:=vals2 r;refine max_two_ints (I.ok.hd b) λh' tk k=>⟨_,H,I.kept k,?_,q⟩
 by_cases a:j>i
 ·rw[qt a,qt a];exact⟨_,Y⟩
 ·rw[qs a,qs a];exact⟨_,Y⟩
def xAbv:CallR X (.type "int") (λxs H Q=>(∃i,xs=[.int i]/\Q (.int i) H)\/∃k,xs=[.bl k]/\Q (.int (if k then 1 else 0)) H):=by
 intro pins s σ H xs us Q I r h;rcases h with⟨i,rfl,q⟩|⟨k,rfl,q⟩
 ·obtain⟨u,rfl,t,rfl⟩:=vals1 r
  exact call_int_int ⟨.int i,H,I,⟨_,Y⟩,q⟩
 ·obtain⟨u,rfl,a⟩:=vals1 r
  cases a;exact call_int_bool ⟨.int (if k then 1 else 0),H,I.tok _,⟨_,Y⟩,q⟩
end
structure ObjM(h:Heap)(x dx C:Addr)(mA:Str->Option Value):Prop where
 obj:h.get? x=some (PySem.W.instObj C dx)
 ns:h.Ns1 dx mA
 ne:dx≠x
def xAnv{h:Heap}{dx:Addr}{mA:Str->Option Value}(n:h.Ns1 dx mA):∃od,h.get? dx=some od/\∀name,PySem.W.lookIn name od=some (mA name):=by
 obtain⟨o,es,ep,j,g,d,_,f⟩:=n;refine⟨o,j,λname=>?_⟩;have e:=f name;unfold nsFind findBy at e;rw[←Array.find?_toList]at e;unfold PySem.W.lookIn;rw[g];dsimp only
 split
 ·rename_i y q
  rw[q]at e;exact congrArg some e
 ·rename_i q
  rw[q]at e
  have a:es.toList.any (·.refKey)=false:=by
   rw[List.any_eq_false];intro y i;obtain⟨z,t,b⟩:=d y (jn.mp i)
   simp[DictEntry.refKey,b]
  have c:¬es.toList.any (·.refKey)=true:=by rw[a];exact qr
  rw[qs c];exact congrArg some e
def ObjM.look(I:ObjM h x dx C mA):∃od,PySem.W.InstAt h x (PySem.W.instObj C dx) C (some od)/\∀name,PySem.W.lookIn name od=some (mA name) :=
 let⟨od,a,b⟩:=xAnv I.ns
 ⟨od,⟨I.obj,Y,Y,a⟩,b⟩
section
variable {prog:Program}{w:World}{A:Around}{E:Value->Shared->Prop}{s:Shared}{K:PySem.W.Frag}{x dx C f:Addr}{mA:Str->Option Value}{name:Str}{v:Value}
def xAuy(X:K.In s.heap)(I:ObjM s.heap x dx C mA)(d:PySem.W.plainGet K C name=true)(e:PySem.W.hasDictIn K C=true)(f:PySem.W.findIn K (.ref C) name=some none)(g:mA name=some v)(b:PySem.W.handedIn v=true)(h:Q v { s with toks:=s.toks+1 }) :
  wpAny (model prog w) A (getAttr (.ref x) name a) Q E s:=by
 obtain⟨od,J,c⟩:=I.look;exact PySem.W.get_value X J (PySem.W.plainGet_of d).1 (PySem.W.findObj_own e f rfl (by rw[c,g])) b h
def xArx(X:K.In s.heap)(I:ObjM s.heap x dx C mA)(a:PySem.W.plainGet K C name=true)(hf:PySem.W.findIn K (.ref C) name=some (some (.ref f)))(c:PySem.W.isFn K (.ref f)=true)(d:mA name=none)(h:Q (.ref f,[.ref x]) s) :
  wpAny (model prog w) A (getMethod (.ref x) name pl) Q E s:=by
 obtain⟨od,J,b⟩:=I.look;exact PySem.W.method_fn X J (PySem.W.plainGet_of a).1 (PySem.W.plainGet_of a).2 hf (beq_iff_eq.mp c) (by show(PySem.W.lookIn name od).map (·.isSome)=some false;rw[b,d];rfl) h
def xAuz(X:K.In s.heap)(I:ObjM s.heap x dx C mA)(hs:PySem.W.findIn K (.ref C) "__setattr__"=some (some (.builtin "object.__setattr__")))(q:PySem.W.plainOver K C=true)(m:PySem.W.takerIn K C name=some none)(n:PySem.W.hasDictIn K C=true)(hw:PySem.Within mA j)(hsz:j.length≤sizeLine)(h:∀h',ObjM h' x dx C (λy=>if y=name then some v else mA y)->Heap.SameBut dx s.heap h'->Q () { s with heap:=h',toks:=s.toks+2 }) :
  wpAny (model prog w) A (setAttr (.ref x) name v) Q E s:=by
 obtain⟨od,J,t⟩:=I.look;refine PySem.W.set_plain X J hs (PySem.W.osa_open (s:={ s with toks:=s.toks+1 }) (r:=none) X J q m λb=>?_);obtain⟨cd,p,f⟩:=PySem.W.any_some n;have k:s.heap.get? x=some ⟨.ref C,some dx,.plain,#[]⟩:=I.obj;refine qa (qb (qa (qa (wpAny_loadPart k (qa (PySem.W.Looks.here (s:={ s with toks:=s.toks+1 }) (PySem.W.looks_clsIn X p) ?_))))));rw[f];refine qb (a:=some dx) (qa (qb (qa ?_)));refine wpAny_nsSet1 (s:={ s with toks:=s.toks+1 }) I.ns λh' d c=>?_;obtain⟨u,o,l,i,g,e⟩:=d.count (PySem.Within.cons name v hw);refine qa (wpAny_lookBehind i (by rw[g];exact pastItsLine_dict (qh e (by rw[zc];omega))) ?_);exact qb (h _ ⟨(c.2 _ (Ne.symm I.ne)).trans I.obj,d,I.ne⟩ c)
def xAjn(X:K.In s.heap)(b:PySem.W.makesIn K C=true)(hi:PySem.W.findIn K (.ref C) "__init__"=some (some (.ref f)))(hf:PySem.W.typeIn K (.ref f)=some (.type "function"))(h:codeAny (model prog w) (A.under (.builtin "type.__call__" ⟨.ref C::vs,a⟩)) (.call (.ref f) ⟨.ref (s.heap.objs.size+1)::vs,a⟩) (PySem.W.InitBack (s.heap.objs.size+1) R)
   { s with heap:=(s.heap.push PySem.W.emptyDict).push (PySem.W.instObj C s.heap.objs.size) }) :
  codeAny (model prog w) A (.call (.ref C) ⟨vs,a⟩) R s:=by
 obtain⟨c,g,d,t,e⟩:=s;exact PySem.W.make_core (PySem.W.makes_of X b) (PySem.W.looks_findIn X hi) (λself=>PySem.W.bind_fn X self hf) (.inl rfl) h
end
def putF(f:Str)(v:V):List (Str×V)->List (Str×V)
 |[]=>[(f,v)]
 |(g,x)::r=>if g=f then(g,v)::r else(g,x)::putF f v r
def xAah(f g:Str)(v:V):∀fs:List (Str×V),(putF f v fs).lookup g=if g=f then some v else fs.lookup g
 |[]=>by
  show List.lookup g [(f,v)]=_
  by_cases h:g=f
  ·have a:(g==f)=true:=beq_iff_eq.mpr h
   simp only[List.lookup,a,if_pos h]
  ·have a:(g==f)=false:=beq_eq_false_iff_ne.mpr h
   simp only[List.lookup,a,if_neg h]
 |(k,x)::r=>by
  have c:=xAah f g v r;rw[show putF f v ((k,x)::r)=(if k=f then(k,v)::r else(k,x)::putF f v r) from rfl]
  by_cases b:k=f
  ·rw[qt b]
   by_cases h:g=k
   ·have a:(g==k)=true:=beq_iff_eq.mpr h
    simp only[List.lookup,a,if_pos (h.trans b)]
   ·have a:(g==k)=false:=beq_eq_false_iff_ne.mpr h
    simp only[List.lookup,a,if_neg (λe:g=f=>h (e.trans b.symm))]
  ·rw[qs b]
   by_cases h:g=k
   ·have a:(g==k)=true:=beq_iff_eq.mpr h
    simp only[List.lookup,a,if_neg (λe:g=f=>b (h.symm.trans e))]
   ·have a:(g==k)=false:=beq_eq_false_iff_ne.mpr h
    simp only[List.lookup,a]
    exact c
def xAef(f:Str)(v:V):∀fs:List (Str×V),f∈(putF f v fs).map (·.1)/\∀g,g∈fs.map (·.1)->g∈(putF f v fs).map (·.1)
 |[]=>⟨by simp[putF],λg h=>by simp at h⟩
 |(k,x)::r=>by
  obtain⟨i1,i2⟩:=xAef f v r;rw[show putF f v ((k,x)::r)=(if k=f then(k,v)::r else(k,x)::putF f v r) from rfl]
  by_cases a:k=f
  ·rw[qt a]
   subst a;exact⟨by simp,λg h=>by simpa using h⟩
  ·rw[qs a]
   refine⟨?_,λg h=>?_⟩
   ·rw[zh]
    exact qw _ i1
   ·rw[zh]at h ⊢
    rcases za.mp h with e|e
    ·exact za.mpr (.inl e)
    ·exact qw _ (i2 g e)
def xAdy(f:Str)(v:V):∀fs:List (Str×V),(putF f v fs).length≤fs.length+1
 |[]=>by simp[putF]
 |(k,x)::r=>by
  have b:=xAdy f v r;rw[show putF f v ((k,x)::r)=(if k=f then(k,v)::r else(k,x)::putF f v r) from rfl]
  by_cases a:k=f
  ·rw[qt a,zc,zc];omega
  ·rw[qs a,zc,zc];omega
def RelO.some_of(r:RelO (some v) o):∃u,o=some u/\RelV v u:=by
 cases o with
 |none=>exact(show False from r).elim
 |some u=>exact⟨u,Y,r⟩
def RelO.none_of(r:RelO none o):o=none:=by
 cases o with
 |none=>rfl
 |some u=>exact(show False from r).elim
def xAnw(r:RelV v u):PySem.W.handedIn u=true:=by
 cases v with
 |non=>cases(show u=Value.none from r);rfl
 |bl b=>cases(show u=Value.bool b from r);rfl
 |int i=>obtain⟨t,e⟩:=(show ∃t,u=Value.int i t from r);cases e;rfl
 |str x=>obtain⟨t,e⟩:=(show ∃t,u=Value.str x t from r);cases e;rfl
 |byt b=>obtain⟨t,e⟩:=(show ∃t,u=Value.bytes b t from r);cases e;rfl
 |flt b=>obtain⟨t,e⟩:=(show ∃t,u=Value.float b t from r);cases e;rfl
 |ref a=>cases(show u=Value.ref a from r);rfl
 |ty n=>cases(show u=Value.type n from r);rfl
section
variable {P:Program}{w:World}{H H':Hp}{h h':Heap}{a C dx:Addr}{fs fs':List (Str×V)}
def xAhe(b:HOk P w H h)(e:H a=some (.ins C dx fs)):∃mA,ObjM h a dx C mA/\(∀f,RelO (fs.lookup f) (mA f))/\PySem.Within mA (fs.map (·.1))/\fs.length≤1000/\H dx=some (.own a):=by
 obtain⟨d,z,c,g,mA,n,r,q⟩:=(show ObjOk P w H h a (.ins C dx fs) from b a _ e);exact⟨mA,⟨g,n,c⟩,r,q,z,d⟩
end
structure Cls(K:PySem.W.Frag)(C:Addr):Prop where
 pg:PySem.W.plainGet K C Str.empty=true
 hd:PySem.W.hasDictIn K C=true
 po:PySem.W.plainOver K C=true
 sa:PySem.W.findIn K (.ref C) "__setattr__"=some (some (.builtin "object.__setattr__"))
def Cls.get{K:PySem.W.Frag}{C:Addr}(c:Cls K C)(f:Str):PySem.W.plainGet K C f=true:=c.pg
def NoAttr(K:PySem.W.Frag)(C:Addr)(f:Str):Prop:=PySem.W.findIn K (.ref C) f=some none
def NoAttr.taker{K:PySem.W.Frag}{C:Addr}{f:Str}(n:NoAttr K C f):PySem.W.takerIn K C f=some none:=by
 unfold PySem.W.takerIn;rw[show PySem.W.findIn K (.ref C) f=some none from n];rfl
structure Meth(K:PySem.W.Frag)(C:Addr)(m:Str)(f:Addr):Prop where
 at_:PySem.W.findIn K (.ref C) m=some (some (.ref f))
 fn:PySem.W.isFn K (.ref f)=true
 kp:PySem.W.keepIn K (.ref f)=true
section
variable {X:Cx}{pins:List (Addr×Obj)}{σ:St}{H:Hp}{s:Shared}{a C dx:Addr}{fs:List (Str×V)}{f:Str}{v:V}{A:Around}{E:Value->Shared->Prop}
def xAjo(I:Inv X pins σ H s)(e:H a=some (.ins C dx fs))(c:Cls X.K C)(n:NoAttr X.K C f)(l:fs.lookup f=some v)(h:∀u s',Inv X pins σ H s'->RelV v u->Q u s'):wpAny (model X.prog X.w) A (getAttr (.ref a) f b) Q E s:=by
 obtain⟨mA,O,r,_,_,_⟩:=xAhe I.hok e;obtain⟨u,g,d⟩:=RelO.some_of (v:=v) (o:=mA f) (by rw[←l];exact r f);exact xAuy I.kIn O (c.get f) c.hd n g (xAnw d) (h u _ (I.tok _) d)
def xAjp{g:Addr}(I:Inv X pins σ H s)(e:H a=some (.ins C dx fs))(c:Cls X.K C)(k:Meth X.K C m g)(l:fs.lookup m=none)(h:Q (.ref g,[.ref a]) s):wpAny (model X.prog X.w) A (getMethod (.ref a) m pl) Q E s:=by
 obtain⟨mA,O,r,_,_,_⟩:=xAhe I.hok e;have hn:mA m=none:=RelO.none_of (by rw[←l];exact r m);exact xArx I.kIn O (c.get m) k.at_ k.fn hn h
def xAjq(I:Inv X pins σ H s)(e:H a=some (.ins C dx fs))(c:Cls X.K C)(n:NoAttr X.K C f)(B:fs.length<1000)(p:RelV y u)(h:∀s',Inv X pins σ (upd H a (.ins C dx (putF f y fs))) s'->Q () s'):wpAny (model X.prog X.w) A (setAttr (.ref a) f u) Q E s:=by
 obtain⟨mA,O,r,i,_,j⟩:=xAhe I.hok e
 have hz:(fs.map (·.1)).length≤sizeLine:=by rw[qc,sizeLine_eq];omega
 refine xAuz I.kIn O c.sa c.po n.taker c.hd i hz λh' d t=>h _ ?_
 have m:∃o,h'.get? dx=some o:=let⟨o,_,_,k,_⟩:=d.ns;⟨o,k⟩
 refine I.write (x:=a) (e:=dx) (by rw[e];exact True.intro) (.inr j) (λb q v z=>(t.2 b v).trans z) m ?_;refine⟨by rw[xAaf O.ne];exact j,?_,O.ne,d.obj,_,d.ns,λg=>?_,λg l=>?_⟩
 ·have:=xAdy f y fs;omega
 ·show RelO ((putF f y fs).lookup g) (if g=f then some u else mA g)
  rw[xAah]
  by_cases q:g=f
  ·rw[qt q,qt q];exact p
  ·rw[qs q,qs q];exact r g
 ·by_cases q:g=f
  ·rw[q];exact(xAef f y fs).1
  ·refine(xAef f y fs).2 g (i g λz=>l ?_)
   show(if g=f then some u else mA g)=none;rw[qs q];exact z
def Inv.made(I:Inv X pins σ H s):Inv X pins σ (upd (upd H s.heap.objs.size (.own (s.heap.objs.size+1))) (s.heap.objs.size+1) (.ins C s.heap.objs.size []))
  { s with heap:=(s.heap.push PySem.W.emptyDict).push (PySem.W.instObj C s.heap.objs.size) }:=by
 have d:(s.heap.push PySem.W.emptyDict).get? s.heap.objs.size=some PySem.W.emptyDict:=qB s.heap rfl
 have g:((s.heap.push PySem.W.emptyDict).push (PySem.W.instObj C s.heap.objs.size)).get? (s.heap.objs.size+1)=some (PySem.W.instObj C s.heap.objs.size):=by
  have:=qB (s.heap.push PySem.W.emptyDict) (o:=PySem.W.instObj C s.heap.objs.size) rfl
  rwa [Heap.size_push]at this
 have i:(s.heap.push PySem.W.emptyDict).Ns s.heap.objs.size (λ_=>none):=⟨PySem.W.emptyDict,#[],_,d,Y,(λe f=>absurd f (by simp)),λ_=>rfl⟩;have j:=I.laid (a:=s.heap.objs.size) (o:=.own (s.heap.objs.size+1)) (h':=s.heap.push PySem.W.emptyDict) (t':=s.toks) (λb u q=>qA _ q) (qd _) ⟨_,d⟩;refine j.laid (a:=s.heap.objs.size+1) (o:=.ins C s.heap.objs.size []) (t':=s.toks) (λb u q=>qA _ q) (Nat.le_of_eq (Heap.size_push _ _)) ?_;have c:s.heap.objs.size≠s.heap.objs.size+1:=qg (zw _);refine⟨by rw[xAaf c,xAac],qk _,c,g,λ_=>none,(Heap.Ns1.of_empty i).at λo q=>qA _ q,λ_=>True.intro,λy h=>absurd rfl h⟩
def xAqf{prog:Program}{w:World}{a:Env}{e:Expr}{f:Str}{pos:Pos}{s:Shared}{Q:Value->Shared->Prop}(c:attributeBase e f a (eval e a)=eval e a)(h:wpAny (model prog w) A (eval e a) (λo b=>wpAny (model prog w) A (getAttr o f true) Q E b) E s):wpAny (model prog w) A (eval (.Attribute e f pos) a) Q E s :=
 Attribute_any_ h (by rw[arm_eval_Attribute,c])
end
structure Room(k:Nat)(A:Around):Prop where
 hd:A.handled=none
 dp:A.depth+3 * k+5<recursionLimit
 un:A.units+16 * k+200<cLine
 gd:A.guards=some []
def Room.mono{j k:Nat}(r:Room k A)(h:j≤k):Room j A:=⟨r.hd,by have:=r.dp;omega,by have:=r.un;omega,r.gd⟩
def Room.deeper{k:Nat}(r:Room (k+1) A)(a:Env):Room k (A.deeper a) :=
 ⟨r.hd,by have:=r.dp;show A.depth+1+3 * k+5<_;omega,by have:=r.un;show A.units+3+16 * k+200<_;omega,r.gd⟩
def xAjr{A:Around}{C:Addr}{us:List Value}{a:List (Str×Value)}:(A.under (.builtin "type.__call__" ⟨.ref C::us,a⟩)).depth=A.depth+1:=by
 first|rfl|simp[Around.under,Code.weight,Code.isCreation,Code.isGuard,Code.isCaller,Code.frames,Code.isFrame,guardIds]
def xAjs{A:Around}{C:Addr}{us:List Value}{a:List (Str×Value)}:(A.under (.builtin "type.__call__" ⟨.ref C::us,a⟩)).units=A.units+1:=by
 first|rfl|simp[Around.under,Code.cUnits,Code.frames,Code.isFrame]
def Room.make{k:Nat}(r:Room (k+1) A)(C:Addr)(us:List Value)(a:List (Str×Value)):Room k (A.under (.builtin "type.__call__" ⟨.ref C::us,a⟩)) :=
 ⟨r.hd,by have:=r.dp;rw[xAjr];omega,by have:=r.un;rw[xAjs];omega,by first|exact r.gd|(have h:=r.gd;simp[Around.under,pushGuards,Code.guards,Code.isGuard,guardIds,h])⟩
def Room.depth{k:Nat}(r:Room k A):A.depth<recursionLimit:=by have:=r.dp;omega
def Room.units{k:Nat}(r:Room k A):A.units+64<cLine:=by have:=r.un;omega
def Room.units0{k:Nat}(r:Room k A):A.units<cLine:=by have:=r.un;omega
def tNil:TA:=λ_ H Q=>Q [] H
def tCons(ta:TE)(a:TA):TA:=λσ H Q=>ta σ H λx H1=>a σ H1 λxs H2=>Q (x::xs) H2
section
variable {X:Cx}{e:Expr}{es:List Expr}{te:TE}{t:TA}{pos:Pos}
def xAdt:PA X [] tNil:=⟨λ_ _ _ _ H Q I h=>Calls.spliced_nil ⟨[],H,I,.nil,h⟩⟩
def xAjt(g:PE X e te)(i:PA X es t)(hs:starEach (e::es) X.env=(false,eval e X.env)::starEach es X.env:=by rfl):PA X (e::es) (tCons te t):=by
 refine⟨?_⟩;intro pos pins s σ H Q I h;rw[hs];show wpAny _ _ (spliced ((false,eval e X.env)::backTo pos (starEach es X.env))) _ _ s;refine Calls.spliced_cons (thn (g pins s σ H _ I h) λu k ⟨x,H1,b,f,j⟩=>?_);exact thn (i pos pins k σ H1 _ b j) λus l ⟨xs,H2,d,c,a⟩=>⟨x::xs,H2,d,.cons f c,a⟩
end
abbrev Sp:=List V->Hp->VK->XK->Prop
abbrev CXT:=List Env->Hp->Shared->XK->Value->Shared->Prop
structure Env0(P:Program)(w:World)(K:PySem.W.Frag)(mg:Str->Option Value)(base:Heap)(A:Around)(outer:List Env)(s:Shared)(H:Hp):Prop where
 frames:A.frames=some outer
 mod:Mod K mg base
 bs:∀b o,base.get? b=some o->s.heap.get? b=some o/\(H b=none\/∃xs,H b=some (.tup xs))
 bsz:base.objs.size≤s.heap.objs.size
 funs:s.heap.FunFrames base outer
 frf:∀b∈frs outer,H b=none
 hok:HOk P w H s.heap
 bare:AllBare s.gens
def CE(outer:List Env)(P:Program)(w:World)(H:Hp)(s:Shared)(Q:VK)(u:Value)(s':Shared):Prop :=
 ∃v H',s'.os=s.os/\AllBare s'.gens/\Un (frs outer) [] H H' s.heap s'.heap/\HOk P w H' s'.heap/\RelV v u/\Q v H'
def CR(CX:CXT)(outer:List Env)(P:Program)(w:World)(H:Hp)(s:Shared)(Q:VK)(E:XK)(r:Result)(s':Shared):Prop :=
 match r with
 |.ok (.ret u)=>CE outer P w H s Q u s'
 |.ok _=>False
 |.error e=>CX outer H s E e s'
structure FnOk(P:Program)(w:World)(K:PySem.W.Frag)(mg:Str->Option Value)(base:Heap)(CX:CXT)(k:Nat)(f:Addr)(fd:FuncData)(ps:List Str)(sp:Sp):Prop where
 len:∀vs H Q E,sp vs H Q E->vs.length=ps.length
 run:∀(A:Around) (outer:List Env) (s:Shared) (H:Hp) (args:Args) (us:List Value) (vs:List V) (Q:VK) (E:XK),Room k A->Env0 P w K mg base A outer s H->BindsTo s fd args (ps.zip us)->Vals vs us->sp vs H Q E →
  codeAny (model P w) A (.call (.ref f) args) (CR CX outer P w H s Q E) s
def Env0.make{P:Program}{w:World}{K:PySem.W.Frag}{mg:Str->Option Value}{base:Heap}{A:Around}{outer:List Env}{s:Shared}{H:Hp}(e:Env0 P w K mg base A outer s H)(C:Addr)(us:List Value)(a:List (Str×Value)) :
  Env0 P w K mg base (A.under (.builtin "type.__call__" ⟨.ref C::us,a⟩)) outer s H:=⟨by first|exact e.frames|(simpa[Around.under,Code.envs,Code.isFrame,pushEnvs] using e.frames),e.mod,e.bs,e.bsz,e.funs,e.frf,e.hok,e.bare⟩
section
variable {X:Cx}{pins:List (Addr×Obj)}{σ:St}{H:Hp}{s s':Shared}
def Inv.env0(I:Inv X pins σ H s):Env0 X.prog X.w X.K X.mg X.base X.A X.stack s H :=
 ⟨I.ok.frames,I.ok.mod,I.bs,qh I.ok.bsz I.sz,I.stack,I.stkFree,I.hok,I.bare⟩
def Inv.after(I:Inv X pins σ H s)(h:CE X.stack X.prog X.w H s Q u s'):EP X pins σ Q u s':=by
 obtain⟨v,H',f,a,un,e,r,q⟩:=h;obtain⟨i,g,d,t,c⟩:=s';obtain rfl:c=s.os:=f;exact⟨v,H',I.call (h':=i) (g':=g) (d':=d) (t':=t) (ch:=[]) un e a (λb z=>absurd z (by simp)),r,q⟩
end
def tCall(sp:Sp)(dvs:List V)(E:XK)(t:TA):TE:=λσ H Q=>t σ H λvs H1=>sp (vs++dvs) H1 Q E
inductive ItMeth(C:Addr)(m:Str)(sp:Sp)(dvs:List V)(E:XK)(t:TA)(σ:St)(Q:VK)(x:V)(H1:Hp):Prop
 |mk (a:_) (dx:_) (fs:_) (h0_:x=.ref a) (h1_:H1 a=some (.ins C dx fs)) (h2_:fs.lookup m=none) (h3_:t σ H1 λvs H2=>sp (x::(vs++dvs)) H2 Q E):ItMeth C m sp dvs E t σ Q x H1
def tMeth(C:Addr)(m:Str)(sp:Sp)(dvs:List V)(E:XK)(ta:TE)(t:TA):TE:=λσ H Q=>ta σ H λx H1=>ItMeth C m sp dvs E t σ Q x H1
def tMake(C:Addr)(sp:Sp)(dvs:List V)(E:XK)(t:TA):TE:=λσ H Q=>t σ H λvs H1=>∀x dx,H1 x=none->H1 dx=none->dx≠x →
 sp (.ref x::(vs++dvs)) (upd (upd H1 dx (.own x)) x (.ins C dx [])) (λv H2=>v=.non/\Q (.ref x) H2) E
def Binds(K:PySem.W.Frag)(fd:FuncData)(ps:List Str)(ds:List Value):Prop :=
 ∀(s:Shared) (us:List Value),K.In s.heap->(us++ds).length=ps.length->BindsTo s fd ⟨us,[]⟩ (ps.zip (us++ds))
def Binds.all{K:PySem.W.Frag}{fd:FuncData}{ps:List Str}(h:∀us:List Value,us.length=ps.length->bindArgs fd ⟨us,[]⟩=pure (ps.zip us)):Binds K fd ps []:=λs us _ a=>by
 rw[vy]at a ⊢;exact .of_eq (h us a)
def Passes(CX:CXT)(X:Cx)(E:XK):Prop:=∀(pins:List (Addr×Obj)) (σ:St) (H:Hp) (s:Shared) (e:Value) (s':Shared),Inv X pins σ H s->CX X.stack H s E e s'->X.xe e s'
section
variable {X:Cx}{CX:CXT}{k:Nat}{f C:Addr}{fd:FuncData}{ps:List Str}{sp:Sp}{dvs:List V}{ds:List Value}{E:XK}{x m:Str}{p pos apos:Pos}{e o:Expr}{es:List Expr}{ta:TE}{t:TA}
def xAva{pins:List (Addr×Obj)}{σ:St}{H:Hp}{s:Shared}{Q:VK}{us:List Value}{vs:List V}(F:FnOk X.prog X.w X.K X.mg X.base CX k f fd ps sp)(i:Room k X.A)(j:Binds X.K fd ps ds)(g:Vals dvs ds)(d:Passes CX X E)(I:Inv X pins σ H s)(r:Vals vs us)(h:sp (vs++dvs) H Q E):wpAny (model X.prog X.w) X.A (call (.ref f) us) (EP X pins σ Q) X.xe s:=by
 have b:Vals (vs++dvs) (us++ds):=r.append g
 have c:(us++ds).length=ps.length:=by rw[←b.length];exact F.len _ _ _ _ h
 refine wpAny_call (codeAny_mono (F.run X.A X.stack s H ⟨us,[]⟩ (us++ds) (vs++dvs) Q E i I.env0 (j s us I.kIn c) b h) λr s' a=>?_)
 cases r with
 |error e=>exact d pins σ H s e s' I a
 |ok l =>
  cases l with
  |ret u=>exact I.after a
  |next=>exact False.elim a
  |brk=>exact False.elim a
  |cont=>exact False.elim a
def xAqg(F:FnOk X.prog X.w X.K X.mg X.base CX k f fd ps sp)(o:Room k X.A)(i:Gl X x)(l:X.mg x=some (.ref f))(d:PySem.W.keepIn X.K (.ref f)=true)(u:Binds X.K fd ps ds)(n:Vals dvs ds)(j:Passes CX X E)(m:PA X (e::es) t)(a:(x==("__debug__":Str))=false:=by decide)(g:starEach (e::es) X.env=(false,eval e X.env)::starEach es X.env:=by rfl)(b:(backTo pos (starEach es X.env)).any (·.1)=false:=by rfl) :
  PE X (.Call (.Name x p) (e::es) [] pos) (tCall sp dvs E t):=by
 refine⟨?_⟩;intro pins s σ H Q I h;refine wpAny_Call_Name_kw (xAcx I i l ?_ a);refine PySem.W.callWith_K (h₀:=X.base) I.ok.mod.kin d (thn (m pos pins s σ H _ I h) λus v ⟨vs,H1,c,r,q⟩=>⟨c.kIn,?_⟩) g b;exact xAva F o u n j c r q
def xAry(e:PE X o ta)(c:Cls X.K C)(d:Meth X.K C m f)(F:FnOk X.prog X.w X.K X.mg X.base CX k f fd ps sp)(p:Room k X.A)(t:Binds X.K fd ps ds)(n:Vals dvs ds)(g:Passes CX X E)(i:eval (.Call (.Attribute o m apos) [] [] pos) X.env=(do
   let ov ←eval o X.env
   standAt apos.atName
   let(f,first) ←holding [ov] (getMethod ov m pl)
   callWith pos f first (backTo pos (starEach [] X.env)) (backToKw pos (keywordEach [] X.env))):=by rfl) :
  PE X (.Call (.Attribute o m apos) [] [] pos) (tMeth C m sp dvs E ta tNil):=by
 refine⟨?_⟩;intro pins s σ H Q I h;refine PySem.W.methodCall_KW (pl:=pl) (thn (e pins s σ H _ I h) λu v ⟨x,H1,b,j,a,dx,fs,ex,r,l,q⟩=>?_) i;subst ex;obtain rfl:u=Value.ref a:=j;refine xAjp b r c d l ?_;exact PySem.W.callWith_K0 (first:=[.ref a]) b.kIn d.kp (xAva (us:=[.ref a]) (vs:=[.ref a]) F p t n g b (.cons rfl .nil) q)
structure Mk(K:PySem.W.Frag)(C f:Addr):Prop where
 makes:PySem.W.makesIn K C=true
 init:PySem.W.findIn K (.ref C) "__init__"=some (some (.ref f))
 fn:PySem.W.isFn K (.ref f)=true
 kp:PySem.W.keepIn K (.ref C)=true
def xArz{pins:List (Addr×Obj)}{σ:St}{H:Hp}{s:Shared}{Q:VK}{us:List Value}{vs:List V}(M:Mk X.K C f)(F:FnOk X.prog X.w X.K X.mg X.base CX k f fd ps sp)(p:Room (k+1) X.A)(q:Binds X.K fd ps ds)(o:Vals dvs ds)(j:Passes CX X E)(I:Inv X pins σ H s)(r:Vals vs us)(h:∀x dx,H x=none->H dx=none->dx≠x->sp (.ref x::(vs++dvs)) (upd (upd H dx (.own x)) x (.ins C dx [])) (λv H2=>v=.non/\Q (.ref x) H2) E) :
  wpAny (model X.prog X.w) X.A (call (.ref C) us) (EP X pins σ Q) X.xe s:=by
 have d:=h (s.heap.objs.size+1) s.heap.objs.size (I.hok.fresh (we _)) (I.hok.fresh (qd _)) (qg (zw _));have b:=Inv.made (C:=C) I;have c:Vals (V.ref (s.heap.objs.size+1)::(vs++dvs)) (Value.ref (s.heap.objs.size+1)::(us++ds)):=.cons rfl (r.append o)
 have i:(Value.ref (s.heap.objs.size+1)::us++ds).length=ps.length:=by
  have e:=c.length;rw[F.len _ _ _ _ d]at e;exact e.symm
 refine wpAny_call (xAjn (f:=f) I.kIn M.makes M.init (beq_iff_eq.mp M.fn) (codeAny_mono (F.run _ X.stack _ _ ⟨Value.ref (s.heap.objs.size+1)::us,[]⟩ (Value.ref (s.heap.objs.size+1)::(us++ds)) _ _ E (p.make C us [])
  (b.env0.make C us []) (q _ (Value.ref (s.heap.objs.size+1)::us) b.kIn i) c d) λr s' a=>?_))
 cases r with
 |error e=>exact j pins σ _ _ e s' b a
 |ok t =>
  cases t with
  |ret u =>
   obtain⟨v,H',l,g,n,m⟩:=b.after a;subst n;exact⟨g,⟨V.ref (s.heap.objs.size+1),H',l,Y,m⟩⟩
  |next=>exact False.elim a
  |brk=>exact False.elim a
  |cont=>exact False.elim a
def xAvb(M:Mk X.K C f)(F:FnOk X.prog X.w X.K X.mg X.base CX k f fd ps sp)(n:Room (k+1) X.A)(i:Gl X x)(j:X.mg x=some (.ref C))(o:Binds X.K fd ps ds)(m:Vals dvs ds)(g:Passes CX X E)(l:PA X (e::es) t)(a:(x==("__debug__":Str))=false:=by decide)(d:starEach (e::es) X.env=(false,eval e X.env)::starEach es X.env:=by rfl)(b:(backTo pos (starEach es X.env)).any (·.1)=false:=by rfl) :
  PE X (.Call (.Name x p) (e::es) [] pos) (tMake C sp dvs E t):=by
 refine⟨?_⟩;intro pins s σ H Q I h;refine wpAny_Call_Name_kw (xAcx I i j ?_ a);refine PySem.W.callWith_K (h₀:=X.base) I.ok.mod.kin M.kp (thn (l pos pins s σ H _ I h) λus u ⟨vs,H1,c,r,q⟩=>⟨c.kIn,?_⟩) d b;exact xArz M F n o m g c r q
end
structure FnScope(N P:List Str)(sc:Scope):Prop where
 kind:sc.kind=.function
 co:sc.isCoroutine=false
 gen:sc.isGenerator=false
 nd:N.Nodup
 pre:N.take P.length=P
 par:∀x∈P,sc.names.lookup x=some .local\/sc.names.lookup x=some .cell
 nofree:∀y∈sc.names,y.2≠.free
def xAhf:∀{binds:List (Str×Value)} {m:Str->Option Value},(∀v,(x,v)∉binds)->bindL a binds m x=m x
 |[],_,_=>rfl
 |(n,v)::r,m,h=>by
  unfold bindL;rw[xAhf λw hw=>h w (qw _ hw)]
  split
  ·have:x≠n:=by rintro rfl;exact h v ql
   simp[this]
  ·rfl
def xAhg:∀{binds:List (Str×Value)} {m:Str->Option Value},(∀v,(x,v)∉binds)->bindC a binds m x=m x
 |[],_,_=>rfl
 |(n,v)::r,m,h=>by
  unfold bindC;rw[xAhg λw hw=>h w (qw _ hw)]
  split
  ·rfl
  ·have:x≠n:=by rintro rfl;exact h v ql
   simp[this]
def xAhh:∀{P:List Str} {vs:List Value} {i:Nat} {m:Str->Option Value},P.Nodup->P[i]?=some x->vs[i]?=some v->a x=some .local →
  bindL a (P.zip vs) m x=some v
 |[],_,_,_,_,h,_,_=>by simp at h
 |_::_,[],_,_,_,_,h,_=>by simp at h
 |p::P,w::vs,0,m,nd,h1,h2,hk=>by
  simp at h1 h2;subst h1;subst h2
  show bindL a ((p,w)::P.zip vs) m p=_;unfold bindL;rw[xAhf λv b=>(zu.mp nd).1 (jo b).1,qt hk]
  simp
 |p::P,w::vs,i+1,m,nd,h1,h2,hk=>by
  show bindL a ((p,w)::P.zip vs) m x=_;unfold bindL;exact xAhh (i:=i) (List.nodup_cons.mp nd).2 (by simpa using h1) (by simpa using h2) hk
def xAhi:∀{P:List Str} {vs:List Value} {i:Nat} {m:Str->Option Value},P.Nodup->P[i]?=some x->vs[i]?=some v->a x≠some .local →
  bindC a (P.zip vs) m x=some v
 |[],_,_,_,_,h,_,_=>by simp at h
 |_::_,[],_,_,_,_,h,_=>by simp at h
 |p::P,w::vs,0,m,nd,h1,h2,hk=>by
  simp at h1 h2;subst h1;subst h2
  show bindC a ((p,w)::P.zip vs) m p=_;unfold bindC;rw[xAhg λv b=>(zu.mp nd).1 (jo b).1,qs hk]
  simp
 |p::P,w::vs,i+1,m,nd,h1,h2,hk=>by
  show bindC a ((p,w)::P.zip vs) m x=_;unfold bindC;exact xAhi (i:=i) (List.nodup_cons.mp nd).2 (by simpa using h1) (by simpa using h2) hk
def start(N:List Str)(vs:List V):St:=vs.map some++List.replicate (N.length - vs.length) none
def cxOf(CX:CXT)(P:Program)(w:World)(K:PySem.W.Frag)(mg:Str->Option Value)(base:Heap)(N:List Str)(qual:Str)(scope:Scope)(f:Addr)(cd:Value)(A:Around)(outer:List Env)(s:Shared)(H:Hp)(E:XK):Cx where
 prog:=P
 w:=w
 K:=K
 mg:=mg
 base:=base
 A:=A.deeper (envOfC qual scope s.heap.objs.size f cd)
 N:=N
 s₀:=s
 H₀:=H
 env:=envOfC qual scope s.heap.objs.size f cd
 outer:=outer
 stack:=envOfC qual scope s.heap.objs.size f cd::outer
 ex:=[]
 calm:=true
 fn:=λ_=>true
 pn:=[]
 xe:=λe s'=>wpAny (model P w) (A.deeper (envOfC qual scope s.heap.objs.size f cd)) (leaving (envOfC qual scope s.heap.objs.size f cd) e) (λ_ a=>CX outer H s E e a) (λb a=>CX outer H s E b a) s'
def xAeg{a:Scope}{n:Nat}{x:Str}(h:a.names.lookup x=some .cell):∃c,(cellsFrom n a.names []).lookup x=some c:=by
 have q:=PySem.W.cellsFrom_some a.names n [] (.inl h);exact yx.mp q
def xAnx{CX:CXT}{P:Program}{w:World}{K:PySem.W.Frag}{mg:Str->Option Value}{base:Heap}{N ps:List Str}{qual:Str}{scope:Scope}{f:Addr}{cd:Value}{A:Around}{outer:List Env}{s B:Shared}{H:Hp}{E:XK}{us:List Value}{vs:List V}(S:FnScope N ps scope)(G:A.handled=none)(d:Env0 P w K mg base A outer s H)(I:vs.length=ps.length)(r:Vals vs us)(x:InCallC s s.heap.objs.size (bindL (envOfC qual scope s.heap.objs.size f cd).kindOf (ps.zip us) λ_=>none) (cellsFrom (s.heap.objs.size+1) scope.names []) (bindC (envOfC qual scope s.heap.objs.size f cd).kindOf (ps.zip us) λ_=>none) B) :
  Inv (cxOf CX P w K mg base N qual scope f cd A outer s H E) [] (start N vs) H B:=by
 have D:ps.length≤N.length:=by have:=congrArg List.length S.pre;rw[zj]at this;omega
 obtain⟨h1,tk,rfl,o⟩:=x.done
 have g:∀b:Addr,b∉(cxOf CX P w K mg base N qual scope f cd A outer s H E).ex:=λb z=>absurd (show b∈([]:List Addr) from z) (by simp)
 refine⟨⟨d.mod,S.kind,Y,Y,qd _,λy z c h1 h2=>?_,λy j=>?_,λy c _ h=>?_,λ_=>G,Around.frames_deeper d.frames,.inr ⟨Y,Y⟩,λb z=>absurd z (g b),d.bs,d.bsz,λb _ _=>g b,λb z=>absurd z (g b),d.funs,d.frf⟩,
  rfl,d.bare,Un.kept o,⟨_,x.toInCall.ns,λi y v h1 h2 J=>?_⟩,λy c h=>⟨_,x.cell y c h⟩,d.hok.fresh (Nat.le_refl _),λy c h=>?_,λp m=>absurd (show p∈([]:List (Addr×Obj)) from m) (by simp),d.hok.kept o,?_⟩
 ·exact name_of_addr x.apart (PySem.mem_of_lookup h1) (PySem.mem_of_lookup h2)
 ·have j:scope.names.lookup y=some .cell\/scope.names.lookup y=some .free:=j
  rcases j with j|j
  ·exact xAeg j
  ·exact absurd rfl (S.nofree _ (PySem.mem_of_lookup j))
 ·exact ze (x.above y c (PySem.mem_of_lookup h))
 ·have hi:i<vs.length:=by
   unfold start at h2
   by_cases hi:i<vs.length
   ·exact hi
   ·rw[List.getElem?_append_right (by simpa using hi)]at h2
    rw[vz]at h2
    split at h2 <;> cases h2
  have F:vs[i]?=some v:=by
   unfold start at h2;rw[List.getElem?_append_left (by simpa using hi),List.getElem?_map]at h2
   cases e:vs[i]? with
   |none=>rw[e]at h2;cases h2
   |some a=>rw[e]at h2;cases h2;rfl
  obtain⟨u,t,C⟩:=r.get F
  have m:ps[i]?=some y:=by
   rw[←S.pre,List.getElem?_take_of_lt (by omega)];exact h1
  have l:ps.Nodup:=by rw[←S.pre];exact S.nd.sublist (List.take_sublist _ _)
  refine⟨u,C,?_⟩;rcases S.par y (qo m) with k|k
  ·exact .inl ⟨k,xAhh l m t k⟩
  ·obtain⟨c,e⟩:=xAeg (n:=s.heap.objs.size+1) k
   refine .inr ⟨.inl k,c,e,?_⟩;have q:=x.cell y c e;rw[xAhi l m t (by show scope.names.lookup y≠_;rw[k];decide)]at q;exact q
 ·exact d.hok.fresh (ze (x.above y c (PySem.mem_of_lookup h)))
 ·unfold start
  show _=N.length;rw[qm,qc,gr];omega
def fn_of{CX:CXT}{P:Program}{w:World}{K:PySem.W.Frag}{mg:Str->Option Value}{base:Heap}{k:Nat}{f:Addr}{name qual:Str}{c:Arguments}{d:List Stmt}{scope:Scope}{O kV m F a M oc:Value}{L od:Option Addr}{B:Array (Option Value)}{N ps:List Str}{sp:Sp}(U:K.lookup f=some ⟨oc,od,.func (PySem.W.fnOf name qual c d scope O kV m F L a M),B⟩)(C:PySem.W.codeIn K a qual=true)(S:FnScope N ps scope)(len:∀vs H Q E,sp vs H Q E->vs.length=ps.length)(g:∀(A:Around) (outer:List Env) (s:Shared) (H:Hp) (vs:List V) (Q:VK) (E:XK),Room k (A.deeper (envOfC qual scope s.heap.objs.size f a))->sp vs H Q E →
   ∃t,PSs (cxOf CX P w K mg base N qual scope f a A outer s H E) d t/\t { nx:=λ_ H'=>Q .non H',rt:=Q } (start N vs) H) :
  FnOk P w K mg base CX (k+1) f (PySem.W.fnOf name qual c d scope O kV m F L a M) ps sp:=by
 refine⟨len,λA outer s H T us vs Q E D l X r i=>?_⟩;have hl:=len _ _ _ _ i;have G:K.In s.heap:=l.mod.kin.keeps λb o e=>(l.bs b o e).1;have z:s.heap.NoLimit:=l.mod.nolimit.keeps λb o e=>(l.bs b o e).1
 have h:∀y∈ps.zip us,scope.names.lookup y.1=some .local\/(scope.names.lookup y.1=some .cell/\((cellsFrom (s.heap.objs.size+1) scope.names []).lookup y.1).isSome=true):=λ⟨n,v⟩ hy=>by
  rcases S.par n (jo hy).1 with q|q
  ·exact .inl q
  ·exact .inr ⟨q,PySem.W.cellsFrom_some _ _ _ (.inl q)⟩
 refine codeAny_call_function D.depth (G _ _ U) rfl S.co S.gen rfl (PySem.W.codeRec_of G C) (X _ _ _ _ ?_);refine wpAny_newFunctionEnv_cells S.kind h λenv he R x=>?_;subst he;refine⟨z.keeps x.toInCall.keep,codeAny_func ?_⟩;obtain⟨t,ht,Z⟩:=g A outer s H vs Q E (D.deeper _) i;have I:Inv (cxOf CX P w K mg base N qual scope f a A outer s H E) [] (start N vs) H R:=xAnx S D.hd l hl r x;refine qE (ht [] R (start N vs) H _ I Z) (λY s' hs=>?_) λe s' hs=>hs
 have j:∀{σ':St} {H':Hp} {v:V} {u:Value},Inv (cxOf CX P w K mg base N qual scope f a A outer s H E) [] σ' H' s'->RelV v u->Q v H'->CE outer P w H s Q u s' :=
  λ{σ' H' v u} J p q=>⟨v,H',J.os,J.bare,J.base,J.hok,p,q⟩
 cases Y with
 |ret u =>
  obtain⟨v,σ',H',J,p,q⟩:=hs;exact j J p q
 |next =>
  obtain⟨σ',H',J,q⟩:=hs;exact j (v:=V.non) (u:=Value.none) J rfl q
 |brk =>
  obtain⟨_,_,_,q⟩:=hs;exact False.elim q
 |cont =>
  obtain⟨_,_,_,q⟩:=hs;exact False.elim q
section
variable {X:Cx}{x:Str}{p pos:Pos}{e:Expr}{es:List Expr}{t:TA}{id T:String}{r:List V->Hp->VK->Prop}
def tCB(r:List V->Hp->VK->Prop)(t:TA):TE:=λσ H Q=>t σ H λvs H1=>r vs H1 Q
def xAsa(j:CallR X (.builtin id) r)(f:Gl X x)(g:X.mg x=none)(l:bootBuiltins x=some (.builtin id))(k:PA X (e::es) t)(hn:x≠"__name__":=by decide)(a:(x==("__debug__":Str))=false:=by decide)(d:starEach (e::es) X.env=(false,eval e X.env)::starEach es X.env:=by rfl)(b:(backTo pos (starEach es X.env)).any (·.1)=false:=by rfl):PE X (.Call (.Name x p) (e::es) [] pos) (tCB r t):=by
 refine⟨?_⟩;intro pins s σ H Q I h;refine wpAny_Call_Name_kw (xAds I f g l ?_ hn a);exact PyProof.Rows.callWith_builtin1 (thn (k pos pins s σ H _ I h) λus n ⟨vs,H1,c,i,m⟩=>j pins n σ H1 vs us Q c i m) d b
def xAny(j:CallR X (.type T) r)(f:Gl X x)(g:X.mg x=none)(l:bootBuiltins x=some (.type T))(k:PA X (e::es) t)(hn:x≠"__name__":=by decide)(a:(x==("__debug__":Str))=false:=by decide)(d:starEach (e::es) X.env=(false,eval e X.env)::starEach es X.env:=by rfl)(b:(backTo pos (starEach es X.env)).any (·.1)=false:=by rfl):PE X (.Call (.Name x p) (e::es) [] pos) (tCB r t):=by
 refine⟨?_⟩;intro pins s σ H Q I h;refine wpAny_Call_Name_kw (xAds I f g l ?_ hn a);exact PyProof.Rows.callWith_type1 (thn (k pos pins s σ H _ I h) λus n ⟨vs,H1,c,i,m⟩=>j pins n σ H1 vs us Q c i m) d b
end
end L2
namespace HT
open PySem PyProof.Rows
section
variable {prog:Program}{w:World}{A:Around}{E:Value->Shared->Prop}{s:Shared}
def cat_tup{t b:Addr}(p:IsTup s.heap t vs.toArray)(q:IsTup s.heap b ws.toArray)(m:vs≠[])(h1:ws=[]->Q (.ref t) s)(h2:ws≠[]->Q (.ref s.heap.objs.size) { s with heap:=s.heap.push { cls:=.type "tuple",data:=.seq (vs++ws).toArray } })(hsz:vs.length+ws.length≤sizeLine):wpAny (model prog w) A (binaryOp .Add (.ref t) (.ref b)) Q E s:=by
 obtain⟨⟨cls,dd,data,o⟩,h,k,n,l⟩:=id p;obtain⟨⟨j,d,i,g⟩,a,f,n2,c⟩:=id q
 simp only at k l f c
 subst k l f c
 have e:vs.toArray++ws.toArray=(vs++ws).toArray:=by simp
 by_cases hw:ws=[]
 ·exact concat_meets ⟨_,h,Y⟩ ⟨_,a,Y⟩ noFill_tuple_add seq_tuple_add PySem.F.slot_tuple_add PySem.F.entry_tuple_add (PySem.F.args_tuple_add_2 _ _)
   (tuple_addW1 t b vs.toArray ws.toArray n n2 dd d o g (by simpa using m) (by simp[hw])) ⟨h,a,h1 hw⟩
 ·refine concat_meets ⟨_,h,Y⟩ ⟨_,a,Y⟩ noFill_tuple_add seq_tuple_add PySem.F.slot_tuple_add PySem.F.entry_tuple_add (PySem.F.args_tuple_add_2 _ _)
   (tuple_addW2 t b vs.toArray ws.toArray n n2 dd d o g (by simpa using m) (by simpa using hw) (by rw[List.size_toArray,List.size_toArray];exact hsz)) ⟨h,a,?_⟩
  rw[e];exact h2 hw
def sIx(n d:Nat):Option Int->Nat
 |none=>d
 |some v=>if v<0 then(v+(n:Int)).toNat else min v.toNat n
def sIx_none(n d:Nat):sIx n d none=d:=rfl
def sIx_nat(n d k:Nat):sIx n d (some (k:Int))=min k n:=by
 show(if(k:Int)<0 then((k:Int)+(n:Int)).toNat else min (k:Int).toNat n)=min k n;rw[qs (by omega),Int.toNat_natCast]
def sIx_le(n d:Nat)(b:d≤n)(o:Option Int):sIx n d o≤n:=by
 cases o with
 |none=>exact b
 |some v =>
  show(if v<0 then(v+(n:Int)).toNat else min v.toNat n)≤n
  by_cases a:v<0
  ·rw[qt a];omega
  ·rw[qs a];exact Nat.min_le_right _ _
def xAqh(v:Int)(n d:Nat):(if v<0 then max (v+(n:Int)) 0 else min v (n:Int))=((sIx n d (some v):Nat):Int):=by
 show(if v<0 then max (v+(n:Int)) 0 else min v (n:Int))=(((if v<0 then(v+(n:Int)).toNat else min v.toNat n):Nat):Int)
 by_cases a:v<0
 ·simp only[if_pos a];omega
 ·simp only[if_neg a];omega
def xAju(lo hi:Option Int)(n:Nat):Builtin.Slice.sliceAdjust lo hi 1 (n:Int)=(((sIx n 0 lo:Nat):Int),((sIx n n hi:Nat):Int)):=by
 have h1:¬((1:Int)<0):=by omega
 unfold Builtin.Slice.sliceAdjust
 simp only[h1,if_false]
 refine Prod.ext ?_ ?_
 ·cases lo with
  |none=>rfl
  |some v=>exact xAqh v n 0
 ·cases hi with
  |none=>rfl
  |some v=>exact xAqh v n n
def xAjv(i j:Nat):Builtin.Slice.slicePlaces (i:Int) (j:Int) 1=j - i:=by
 unfold Builtin.Slice.slicePlaces
 have h1:(1:Int)>0:=by omega
 simp only[h1,if_true,Int.ediv_one]
 split <;> omega
def xAey(p:IsPart v o)(h:Q o s):wpAny (model prog w) A (Builtin.Slice.slicePartIndex v) Q E s:=by
 cases p with
 |none=>exact slicePart_none h
 |int i t=>exact slicePart_int h
def xAcz{e:Addr}{c d:Value}{lo hi:Option Int}{n:Nat}{Q:Int×Int×Nat->Shared->Prop}(hs:s.heap.IsSliceOf e c d .none)(pl:IsPart c lo)(f:IsPart d hi)(h:Q (((sIx n 0 lo:Nat):Int),1,sIx n n hi - sIx n 0 lo) s):wpAny (model prog w) A (Builtin.Slice.sliceApplied (.ref e) (pure (n:Int))) Q E s:=by
 obtain⟨i,a,g,b⟩:=id hs;unfold Builtin.Slice.sliceApplied Builtin.Slice.sliceFields;refine qa (qa (wpAny_field a b (x:=c) rfl (qa (wpAny_field a b (x:=d) rfl (qa (wpAny_field a b (x:=.none) rfl (qb ?_)))))));refine qa (slicePart_none ?_);show wpAny _ _ (if((1:Int)==0)=true then _ else _) _ _ s;rw[qs (by decide)];refine qa (xAey pl (qa (xAey f (qa (qb ?_)))));show wpAny _ _ (match Builtin.Slice.sliceAdjust lo hi 1 (n:Int) with|(lo,hi)=>pure (lo,(1:Int),Builtin.Slice.slicePlaces lo hi 1)) _ _ s;rw[xAju lo hi n];show wpAny _ _ (pure (((sIx n 0 lo:Nat):Int),(1:Int),Builtin.Slice.slicePlaces ((sIx n 0 lo:Nat):Int) ((sIx n n hi:Nat):Int) 1)) _ _ s;rw[xAjv];exact qb h
def xAsb(xs:Array Value)(i k:Nat):((List.range k).filterMap λ(m:Nat)=>xs[((i:Int)+(m:Int) * 1).toNat]?).toArray=((xs.toList.drop i).take k).toArray:=by
 have e:(λ(m:Nat)=>xs[((i:Int)+(m:Int) * 1).toNat]?)=λm=>xs[i+m]?:=by
  funext m
  have:((i:Int)+(m:Int) * 1).toNat=i+m:=by omega
  rw[this]
 rw[e];have:=pick_run xs i k;rw[jp]at this;have a:((λx=>xs[x]?)∘λx=>i+x)=λm=>xs[i+m]?:=rfl;rw[a]at this;rw[this]
def getItem_tuple_cut{t f:Addr}{items:Array Value}{i j:Value}{lo hi:Option Int}{Q:Value->Shared->Prop}(b:IsTup s.heap t items)(hs:s.heap.IsSliceOf f i j .none)(pl:IsPart i lo)(n:IsPart j hi)(hw:¬(sIx items.size 0 lo=0/\sIx items.size items.size hi=items.size))(h:Q (.ref s.heap.objs.size) { s with heap:=s.heap.push { cls:=.type "tuple",data:=.seq ((items.toList.drop (sIx items.size 0 lo)).take (sIx items.size items.size hi - sIx items.size 0 lo)).toArray } })(hsz:items.size≤sizeLine):wpAny (model prog w) A (getItem (.ref t) (.ref f)) Q E s:=by
 have a:sizeOk (.seq ((items.toList.drop (sIx items.size 0 lo)).take (sIx items.size items.size hi - sIx items.size 0 lo)).toArray):=by
  show((items.toList.drop (sIx items.size 0 lo)).take (sIx items.size items.size hi - sIx items.size 0 lo)).toArray.size≤sizeLine;rw[qz,zj,zo,qx];omega
 have r:sIx items.size items.size hi≤items.size:=sIx_le _ _ (qd _) hi;obtain⟨l,c,e,k⟩:=id hs;have d:s.TypeIs (.ref f) "slice":=⟨l,c,e⟩;unfold getItem
 try with_reducible refine qD ?_
 first|refine qa (qb ?_)|skip
 refine qa (wpAny_sequenceKey b.typeIs (by decide) ?_)
 refine qa (wpAny_callSpecial?_slot (name:=Str.ofString "__getitem__") b.typeIs PyProof.Rows.slot_tuple_getitem
  (qH PyProof.Rows.slot_tuple_getitem b.typeIs entry_tuple_getitem ?_ (args_tuple_getitem _ _)))
 show wpAny _ _ (Builtin.Tuple.tupleItemsOf (.ref t) >>= _) _ _ s;refine qa (tupleItemsOf_ b ?_);refine qa (wpAny_typeOf d ?_);rw[qt (by decide)];refine qa (xAcz hs pl n ?_)
 have g:¬((((sIx items.size 0 lo:Nat):Int)==0&&(1:Int)==1&&(sIx items.size items.size hi - sIx items.size 0 lo)==items.size)=true):=by
  intro q;rw[zd,zd]at q;have p:((sIx items.size 0 lo:Nat):Int)=0:=eq_of_beq q.1.1;have o:sIx items.size items.size hi - sIx items.size 0 lo=items.size:=eq_of_beq q.2;exact hw ⟨by omega,by omega⟩
 show wpAny _ _ (if(((sIx items.size 0 lo:Nat):Int)==0&&(1:Int)==1&&(sIx items.size items.size hi - sIx items.size 0 lo)==items.size)=true then _ else _) _ _ s;rw[qs g,xAsb]
 first
  |exact qa (m:=Builtin.Tuple.tupleExact _) (wpAny_newObj_type (qb ⟨_,Y,qb h⟩) a)
  |exact qa (m:=Builtin.Tuple.tupleExact _) (wpAny_newObj_type (qa (qb (qb ⟨_,Y,qb h⟩))) a)
  |exact qa (qa (m:=Builtin.Tuple.tupleExact _) (wpAny_newObj_type (qb (qb ⟨_,Y,qb h⟩)) a))
  |exact qa (qa (m:=Builtin.Tuple.tupleExact _) (wpAny_newObj_type (qb ⟨_,Y,qb h⟩) a))
end
end HT
namespace L2
open PySem PySem.Spec PyProof.Rows
abbrev TO:=St->Hp->(Option Int->Hp->Prop)->Prop
def PO0(X:Cx)(e:Option Expr)(t:TO):Prop :=
 ∀(pins:List (Addr×Obj)) (s:Shared) (σ:St) (H:Hp) (Q:Option Int->Hp->Prop),Inv X pins σ H s->t σ H Q →
  wpAny (model X.prog X.w) X.A (evalPart e X.env) (λu s'=>∃o H',Inv X pins σ H' s'/\IsPart u o/\Q o H') X.xe s
structure PO(X:Cx)(e:Option Expr)(t:TO):Prop where run:PO0 X e t
instance POCf{X:Cx}{e:Option Expr}{t:TO}:CoeFun (PO X e t) λ_=>PO0 X e t:=⟨PO.run⟩
def tNoPart:TO:=λ_ H Q=>Q none H
inductive ItPart(Q:Option Int->Hp->Prop)(x:V)(H1:Hp):Prop
 |mk (i:_) (h0_:x=.int i) (h1_:Q (some i) H1):ItPart Q x H1
def tPart(t:TE):TO:=λσ H Q=>t σ H λx H1=>ItPart Q x H1
section
variable {X:Cx}{e:Expr}{te:TE}{lo hi:Option Expr}{tl th:TO}{pos p2:Pos}
def xAax:PO X none tNoPart:=by
 refine⟨?_⟩;intro pins s σ H Q I h;rw[evalPart_none];exact qb ⟨none,H,I,.none,h⟩
def xAav(h:PE X e te):PO X (some e) (tPart te):=by
 refine⟨?_⟩;intro pins s σ H Q I hw;rw[evalPart_some];refine thn (h pins s σ H _ I hw) λu d ⟨x,H1,a,b,c⟩=>?_;obtain⟨i,rfl,q⟩:=c;obtain⟨t,rfl⟩:=b;exact⟨some i,H1,a,.int i t,q⟩
def SlR(X:Cx)(r:V->Option Int->Option Int->Hp->VK->Prop):Prop :=
 ∀(pins:List (Addr×Obj)) (s:Shared) (σ:St) (H:Hp) (x:V) (v a b:Value) (lo hi:Option Int) (c:Addr) (Q:VK),Inv X pins σ H s->RelV x v->s.heap.IsSliceOf c a b .none->IsPart a lo->IsPart b hi->r x lo hi H Q →
  ∃T id,typeLookup (.type T) "__getitem__"=pure (some (.builtin id))/\s.TypeIs v T/\wpAny (model X.prog X.w) X.A (getItem v (.ref c)) (EP X pins σ Q) X.xe s
def tSl(r:V->Option Int->Option Int->Hp->VK->Prop)(te:TE)(tl th:TO):TE:=λσ H Q=>te σ H λx H1=>tl σ H1 λl H2=>th σ H2 λu a=>r x l u a Q
def xAar(J:SlR X r)(B:PE X e te)(z:PO X lo tl)(t:PO X hi th):PE X (.Subscript e (.Slice lo hi none p2) pos) (tSl r te tl th):=by
 refine⟨?_⟩;intro pins s σ H Q I h;refine Subscript_ (thn (B pins s σ H _ I h) λv F ⟨x,H1,E,y,m⟩=>?_);refine wpAny_Slice (thn (z pins F σ H1 _ E m) λc n ⟨l,H2,i,pl,g⟩=>thn (t pins n σ H2 _ i g) λd a ⟨u,f,p,k,j⟩=>?_);rw[evalPart_none];refine qb ?_;have D:Inv X pins σ f { a with heap:=a.heap.push { cls:=.type "slice",data:=.fields #[c,d,.none] } }:=p.kept (t':=a.toks) λb K q=>qA _ q;obtain⟨T,id,G,C,o⟩:=J pins { a with heap:=a.heap.push { cls:=.type "slice",data:=.fields #[c,d,.none] } } σ f x v c d l u a.heap.objs.size Q D y (Heap.IsSliceOf.new ..) pl k j;show wpAny (model X.prog X.w) X.A (subscriptTail e (.Slice lo hi none p2) v (.ref a.heap.objs.size)) (EP X pins σ Q) X.xe { a with heap:=a.heap.push { cls:=.type "slice",data:=.fields #[c,d,.none] } };exact tail_any (ops:=[.ref a.heap.objs.size,v]) C G o (by with_unfolding_all rfl)
def cutV(xs:List V)(lo hi:Option Int):List V:=(xs.drop (HT.sIx xs.length 0 lo)).take (HT.sIx xs.length xs.length hi - HT.sIx xs.length 0 lo)
def xAci(xs:List V)(lo hi:Option Int):(cutV xs lo hi).length≤xs.length:=by
 unfold cutV;rw[zj,zo];omega
inductive IrSlT(x:V)(lo:Option Int)(hi:Option Int)(H:Hp)(Q:VK):Prop
 |mk (a:_) (xs:_) (h0_:x=.ref a) (h1_:SqT H a xs) (h2_:¬(HT.sIx xs.length 0 lo=0/\HT.sIx xs.length xs.length hi=xs.length)) (h3_:∀p,H p=none->Q (.ref p) (upd H p (.tup (cutV xs lo hi)))):IrSlT x lo hi H Q
def rSlT:V->Option Int->Option Int->Hp->VK->Prop:=λx lo hi H Q=>IrSlT x lo hi H Q
def sl_tup:SlR X (rSlT):=by
 intro pins s σ H x v k l lo hi m Q I i hs pl g h;obtain⟨a,xs,rfl,f,hw,q⟩:=h;cases i;obtain⟨d,r,e,hz⟩:=I.tuple f
 have c:d.toArray.size=xs.length:=by rw[qz];exact r.length.symm
 refine⟨"tuple",_,PyProof.Rows.slot_tuple_getitem.lookup,e.typeIs,?_⟩;refine HT.getItem_tuple_cut e hs pl g (by rw[c];exact hw) ?_ (by rw[c];exact hz);rw[c];refine⟨.ref s.heap.objs.size,_,I.laid (t':=s.toks) (o:=.tup (cutV xs lo hi)) (λb j q=>qA _ q) (qd _) ?_,Y,q _ (I.hok.fresh (qd _))⟩;exact⟨qh (xAci xs lo hi) hz,_,(r.drop (HT.sIx xs.length 0 lo)).take (HT.sIx xs.length xs.length hi - HT.sIx xs.length 0 lo),IsTup.new _ _⟩
inductive IrCatT(x:V)(y:V)(H:Hp)(Q:VK):Prop
 |mk (a:_) (b:_) (xs:_) (ys:_) (h0_:x=.ref a) (h1_:y=.ref b) (h2_:SqT H a xs) (h3_:SqT H b ys) (h4_:xs≠[]) (h5_:xs.length+ys.length≤sizeLine) (h6_:(ys=[]->Q (.ref a) H)) (h7_:(ys≠[]->∀p,H p=none->Q (.ref p) (upd H p (.tup (xs++ys))))):IrCatT x y H Q
def rCatT:R2:=λx y H Q=>IrCatT x y H Q
def Vals.nil_iff(r:Vals xs us):us=[]↔xs=[]:=by
 cases r with
 |nil=>simp
 |cons _ _=>simp
def xAqi:OpR X (binaryOp .Add) (rCatT):=by
 intro pins s σ H x y v u Q I k l h;obtain⟨a,b,xs,ys,rfl,rfl,i,n,g,hz,m,f⟩:=h;cases k;cases l;obtain⟨j,d,p1,_⟩:=I.tuple i;obtain⟨e,c,p2,_⟩:=I.tuple n;refine HT.cat_tup p1 p2 (λz=>g (d.nil_iff.mp z)) (λz=>⟨.ref a,H,I,Y,m (c.nil_iff.mp z)⟩) (λz=>?_) (by rw[←d.length,←c.length];exact hz);refine⟨.ref s.heap.objs.size,_,I.laid (t':=s.toks) (o:=.tup (xs++ys)) (λb p q=>qA _ q) (qd _) ?_,Y,f (λw=>z (c.nil_iff.mpr w)) _ (I.hok.fresh (qd _))⟩;exact⟨by rw[qm];exact hz,_,d.append c,IsTup.new _ _⟩
end
def ixN(n:Nat)(i:Int):Option Nat:=if 0≤i then(if i<n then some i.toNat else none) else if -(n:Int)≤i then some (i+n).toNat else none
def atI{α:Type}(xs:List α)(i:Int):Option α:=(ixN xs.length i).bind λj=>xs[j]?
def xAqj(h:ixN n i=some j):seqIndex? i n=some j/\j<n/\-(n:Int)≤i/\i<n:=by
 unfold ixN at h
 by_cases h0:0≤i
 ·rw[qt h0]at h
  by_cases h1:i<n
  ·rw[qt h1]at h
   have e:i.toNat=j:=qC h;exact⟨by rw[seqIndex_of h0 h1,e],by omega,by omega,h1⟩
  ·rw[qs h1]at h;cases h
 ·rw[qs h0]at h
  by_cases h1:-(n:Int)≤i
  ·rw[qt h1]at h
   have e:(i+n).toNat=j:=qC h;exact⟨by rw[seqIndex_neg (by omega) h1,e],by omega,h1,by omega⟩
  ·rw[qs h1]at h;cases h
def xAjw{α:Type}{xs:List α}{i:Int}{v:α}(h:atI xs i=some v):∃j,seqIndex? i xs.length=some j/\xs[j]?=some v/\j<xs.length/\-(xs.length:Int)≤i/\i<xs.length:=by
 unfold atI at h
 cases e:ixN xs.length i with
 |none=>rw[e]at h;cases h
 |some j =>
  rw[e]at h;obtain⟨h1,h2,a,b⟩:=xAqj e;exact⟨j,h1,h,h2,a,b⟩
def xAbq{α:Type}{xs:List α}{j:Nat}{v:α}(h:xs[j]?=some v):atI xs (j:Int)=some v:=by
 have a:j<xs.length:=(qy.mp h).1
 have e:ixN xs.length (j:Int)=some j:=by
  unfold ixN;rw[qt (by omega),qt (by omega)];simp
 unfold atI;rw[e];exact h
def PlainIx(b:Expr):Prop:=∀o i,subscripted b false o i=operate [o,i] (getItem o i)
def IxR(X:Cx)(r:R2):Prop :=
 ∀(value a:Expr) (pins:List (Addr×Obj)) (s:Shared) (σ:St) (H:Hp) (x y:V) (v u:Value) (Q:VK),Inv X pins σ H s->RelV x v->RelV y u->r x y H Q →
  subscripted a false v u=operate [v,u] (getItem v u)->wpAny (model X.prog X.w) X.A (subscriptTail value a v u) (EP X pins σ Q) X.xe s
def MtR(X:Cx)(id:String)(r:V->List V->Hp->VK->Prop):Prop :=
 ∀(pins:List (Addr×Obj)) (s:Shared) (σ:St) (H:Hp) (x:V) (xs:List V) (v:Value) (us:List Value) (Q:VK),Inv X pins σ H s->RelV x v->Vals xs us->r x xs H Q →
  wpAny (model X.prog X.w) X.A (call (.builtin id) (v::us)) (EP X pins σ Q) X.xe s
section
variable {X:Cx}{a b:Expr}{ta tb:TE}{pos:Pos}
def pe_ix(i:IxR X r)(e:PE X a ta)(j:PE X b tb)(hs:PlainIx b):PE X (.Subscript a b pos) (tOp r ta tb):=by
 refine⟨?_⟩;intro pins s σ H Q I h;exact Subscript_ (binT e j I h λv u c x y H2 d f g q=>i a b pins c σ H2 x y v u Q d f g q (hs _ _))
inductive IrIxL(x:V)(y:V)(H:Hp)(Q:VK):Prop
 |mk (p:_) (xs:_) (i:_) (v:_) (h0_:x=.ref p) (h1_:y=.int i) (h2_:SqL H p xs) (h3_:atI xs i=some v) (h4_:Q v H):IrIxL x y H Q
def rIxL:R2:=λx y H Q=>IrIxL x y H Q
inductive IrIxT(x:V)(y:V)(H:Hp)(Q:VK):Prop
 |mk (p:_) (xs:_) (i:_) (v:_) (h0_:x=.ref p) (h1_:y=.int i) (h2_:SqT H p xs) (h3_:atI xs i=some v) (h4_:Q v H):IrIxT x y H Q
def rIxT:R2:=λx y H Q=>IrIxT x y H Q
inductive IrIxS(x:V)(y:V)(H:Hp)(Q:VK):Prop
 |mk (z:_) (i:_) (c:_) (h0_:x=.str z) (h1_:y=.int i) (h2_:z.length≤sizeLine) (h3_:atI z.cps.toList i=some c) (h4_:Q (.str ⟨#[c]⟩) H):IrIxS x y H Q
def rIxS:R2:=λx y H Q=>IrIxS x y H Q
def xAjx:IxR X (rIxL):=by
 intro value d pins s σ H x y v u Q I n A h hs;obtain⟨p,xs,i,z,rfl,rfl,o,l,q⟩:=h;cases n;obtain⟨t,rfl⟩:=A;obtain⟨c,r,pl,hz⟩:=I.list o;obtain⟨j,h1,h2,B,m,k⟩:=xAjw l;obtain⟨w,f,b⟩:=r.get h2;have g:=r.length;have hn:=xAjm;have a:EP X pins σ Q w s:=⟨z,H,I,b,q⟩
 by_cases h0:0≤i
 ·have e:i.toNat=j:=by
   rw[seqIndex_of h0 k]at h1;exact qC h1
  exact item_listR pl.isList h0 (by omega) (by rw[e];simpa using f) a hs
 ·have e:(i+(c.toArray.size:Int)).toNat=j:=by
   rw[seqIndex_neg (by omega) m]at h1;rw[qz,←g];exact qC h1
  exact subscriptTail_builtinR (x:=w) pl.isList.typeIs slot_list_getitem.lookup
   (wpAny_getItem_list_neg (Q:=λr s'=>r=w/\EP X pins σ Q r s') pl.isList (by omega) (by rw[List.size_toArray] <;> omega) (by omega) (by rw[e];simpa using f) ⟨Y,a⟩) hs
def xAvc:IxR X (rIxT):=by
 intro value b pins s σ H x y v u Q I g m h hs;obtain⟨p,xs,i,z,rfl,rfl,k,e,q⟩:=h;cases g;obtain⟨t,rfl⟩:=m;obtain⟨f,r,pl,hz⟩:=I.tuple k;obtain⟨j,h1,h2,A,o,n⟩:=xAjw e;obtain⟨w,l,a⟩:=r.get h2;have d:=r.length;have hn:=xAjm;have c:EP X pins σ Q w s:=⟨z,H,I,a,q⟩
 exact subscriptTail_builtinR (x:=w) pl.typeIs slot_tuple_getitem.lookup
  (getItem_tuple (j:=j) (Q:=λr s'=>r=w/\EP X pins σ Q r s') pl (by omega) (by omega) (by rw[List.size_toArray,←d];exact h1) (by simpa using l) ⟨Y,c⟩) hs
def xAvd:IxR X rIxS:=by
 intro value a pins s σ H x y v u Q I l m h hs;obtain⟨z,i,c,rfl,rfl,hz,g,q⟩:=h;obtain⟨t,rfl⟩:=l;obtain⟨t',rfl⟩:=m;obtain⟨j,h1,h2,n,k,d⟩:=xAjw g
 have b:z.cps.toList.length=z.length:=by simp[Str.length]
 rw[b]at h1 k d;have hn:=xAjm
 exact tail_any (typeIs_str s z t) slot_str_getitem.lookup (getItem_str (c:=c) (by
  have f:decide (i < -(2 ^ 63:Int))=false:=decide_eq_false (by omega);have e:decide (i≥2 ^ 63)=false:=decide_eq_false (by omega)
  rw[f,e,Bool.or_false]) (by rw[h1];simpa using h2) ⟨.str ⟨#[c]⟩,H,I.tok _,⟨_,Y⟩,q⟩) hs
def xAjy(a:List Value)(n j:Nat)(u:Value):Obj.mapSeq (·.setIfInBounds j u) { cls:=.type "list",data:=.seq a.toArray n }={ cls:=.type "list",data:=.seq (a.set j u).toArray n }:=by
 simp[Obj.mapSeq]
def Inv.lst{pins:List (Addr×Obj)}{σ:St}{H:Hp}{s:Shared}{p:Addr}{xs:List V}(I:Inv X pins σ H s)(h:H p=some (.lst xs)) :
  ∃(a:List Value) (n:Nat),Vals xs a/\s.heap.get? p=some { cls:=.type "list",data:=.seq a.toArray n }/\xs.length≤sizeLine:=by
 obtain⟨z,a,n,r,e⟩:=I.hok p _ h;exact⟨a,n,r,e,z⟩
def Inv.lstUpd{pins:List (Addr×Obj)}{σ:St}{H:Hp}{s:Shared}{p:Addr}{xs ys:List V}{a its':List Value}{n c:Nat}{f:Obj->Obj}(I:Inv X pins σ H s)(h:H p=some (.lst xs))(d:s.heap.get? p=some { cls:=.type "list",data:=.seq a.toArray n })(hf:f { cls:=.type "list",data:=.seq a.toArray n }={ cls:=.type "list",data:=.seq its'.toArray c })(r:Vals ys its')(hz:ys.length≤sizeLine)(t:Nat) :
  Inv X pins σ (upd H p (.lst ys)) { s with heap:=s.heap.update p f,toks:=t }:=by
 have e:(s.heap.update p f).get? p=some { cls:=.type "list",data:=.seq its'.toArray c }:=by
  rw[Heap.get?_update_self f d (by rw[hf] <;> rfl),hf]
 refine I.write (x:=p) (e:=p) (by rw[h];trivial) (.inl rfl) (λb u g q=>(Heap.get?_update_other _ _ (Ne.symm g)).trans q) ⟨_,e⟩ ?_;exact⟨hz,its',c,r,e⟩
inductive IrSetL(o:V)(i:V)(v:V)(H:Hp)(Q:(Hp->Prop)):Prop
 |mk (p:_) (xs:_) (k:_) (j:_) (h0_:o=.ref p) (h1_:i=.int k) (h2_:H p=some (.lst xs)) (h3_:ixN xs.length k=some j) (h4_:Q (upd H p (.lst (xs.set j v)))):IrSetL o i v H Q
def rSetL:V->V->V->Hp->(Hp->Prop)->Prop:=λo i v H Q=>IrSetL o i v H Q
def xAfw:PSet X rSetL:=by
 intro pins s σ H o i v z A u Q I w x m h;obtain⟨p,xs,k,j,rfl,rfl,l,y,q⟩:=h;cases w;obtain⟨t,rfl⟩:=x;obtain⟨a,n,r,d,hz⟩:=I.lst l;obtain⟨h1,h2,g,f⟩:=xAqj y;have c:=r.length;have hn:=xAjm
 have e:Inv X pins σ (upd H p (.lst (xs.set j v))) { s with heap:=s.heap.update p (Obj.mapSeq (·.setIfInBounds j u)) } :=
  I.lstUpd l d (xAjy a n j u) (r.set m j) (by rw[wf];exact hz) s.toks
 by_cases h0:0≤k
 ·have b:k.toNat=j:=by
   rw[seqIndex_of h0 f]at h1;exact qC h1
  exact PySem.W.ki_setAt d h0 (by omega) (by rw[qz,←c];exact f) (by rw[b];exact⟨_,e,q⟩)
 ·have b:(k+(a.toArray.size:Int)).toNat=j:=by
   rw[seqIndex_neg (by omega) g]at h1;rw[qz,←c];exact qC h1
  exact PySem.W.ki_setBack d (by omega) (by rw[qz,←c];exact g) (by omega) (by rw[b];exact⟨_,e,q⟩)
def xAfx(lo hi:Option Int)(n:Nat):(sliceBounds lo hi none n).1=((HT.sIx n 0 lo:Nat):Int)/\(sliceBounds lo hi none n).2.1=((HT.sIx n n hi:Nat):Int)/\(sliceBounds lo hi none n).2.2=1:=by
 refine⟨?_,?_,Y⟩
 ·cases lo with
  |none=>simp[sliceBounds,HT.sIx]
  |some i =>
   simp only[sliceBounds,HT.sIx,Option.getD_none,show(1:Int)>0 by decide,if_true]
   by_cases h:i<0
   ·simp only[h,if_true] <;> omega
   ·simp only[h,if_false] <;> omega
 ·cases hi with
  |none=>simp[sliceBounds,HT.sIx]
  |some i =>
   simp only[sliceBounds,HT.sIx,Option.getD_none,show(1:Int)>0 by decide,if_true]
   by_cases h:i<0
   ·simp only[h,if_true] <;> omega
   ·simp only[h,if_false] <;> omega
def xAez(a:List Value)(lo hi:Option Int):slicePick a.toArray lo hi none=((a.drop (HT.sIx a.length 0 lo)).take (HT.sIx a.length a.length hi - HT.sIx a.length 0 lo)).toArray:=by
 obtain⟨h1,h2,b⟩:=xAfx lo hi a.toArray.size;unfold slicePick;rw[h1,h2,b]
 simp only[sliceRange_one,pick_run,List.size_toArray] <;> rfl
inductive IrSlL(x:V)(lo:Option Int)(hi:Option Int)(H:Hp)(Q:VK):Prop
 |mk (a:_) (xs:_) (h0_:x=.ref a) (h1_:SqL H a xs) (h2_:∀p,H p=none->Q (.ref p) (upd H p (.lst (cutV xs lo hi)))):IrSlL x lo hi H Q
def rSlL:V->Option Int->Option Int->Hp->VK->Prop:=λx lo hi H Q=>IrSlL x lo hi H Q
def xAve:SlR X (rSlL):=by
 intro pins s σ H x v k l lo hi m Q I i hs pl f h;obtain⟨a,xs,rfl,e,q⟩:=h;cases i;obtain⟨g,r,d,hz⟩:=I.list e;have c:=r.length;refine⟨"list",_,slot_list_getitem.lookup,d.isList.typeIs,?_⟩;refine wpAny_getItem_list_slice d.isList hs pl f .none (by simp) ?_ (by rw[List.size_toArray] <;> omega);rw[xAez,←c];refine⟨.ref s.heap.objs.size,_,I.laid (t':=s.toks) (o:=.lst (cutV xs lo hi)) (λb j q=>qA _ q) (qd _) ?_,Y,q _ (I.hok.fresh (qd _))⟩;exact⟨qh (xAci xs lo hi) hz,_,0,(r.drop (HT.sIx xs.length 0 lo)).take (HT.sIx xs.length xs.length hi - HT.sIx xs.length 0 lo),qB _ rfl⟩
def flatV:V->Bool
 |.non=>true
 |.bl _=>true
 |.int _=>true
 |.str _=>true
 |_=>false
def eqV:V->V->Bool
 |.non,.non=>true
 |.bl a,.bl b=>a==b
 |.bl a,.int b=>(if a then 1 else 0)==b
 |.int a,.bl b=>a==(if b then 1 else 0)
 |.int a,.int b=>a==b
 |.str a,.str b=>a==b
 |_,_=>false
def eqAt_V(e:RelV y u)(c:RelV x v)(f:flatV y=true)(d:flatV x=true):SeqAt.EqAt A s u v (eqV y x):=by
 cases y with
 |non =>
  cases e
  cases x with
  |non=>cases c;exact SeqAt.EqAt.same _
  |bl b=>cases c;exact SeqAt.EqAt.none_bool b
  |int b=>obtain⟨t,rfl⟩:=c;exact SeqAt.EqAt.none_int b t
  |str b=>obtain⟨t,rfl⟩:=c;exact SeqAt.EqAt.none_str b t
  |_=>exact absurd (show false=true from d) qr
 |bl a =>
  cases e
  cases x with
  |non=>cases c;exact SeqAt.EqAt.bool_none a
  |bl b=>cases c;exact SeqAt.EqAt.bool_bool a b
  |int b=>obtain⟨t,rfl⟩:=c;exact SeqAt.EqAt.bool_int a b t
  |str b=>obtain⟨t,rfl⟩:=c;exact SeqAt.EqAt.bool_str a b t
  |_=>exact absurd (show false=true from d) qr
 |int a =>
  obtain⟨t',rfl⟩:=e
  cases x with
  |non=>cases c;exact SeqAt.EqAt.int_none a t'
  |bl b=>cases c;exact SeqAt.EqAt.int_bool a t' b
  |int b=>obtain⟨t,rfl⟩:=c;exact SeqAt.EqAt.int_int a t' b t
  |str b=>obtain⟨t,rfl⟩:=c;exact SeqAt.EqAt.int_str a t' b t
  |_=>exact absurd (show false=true from d) qr
 |str a =>
  obtain⟨t',rfl⟩:=e
  cases x with
  |non=>cases c;exact SeqAt.EqAt.str_none a t'
  |bl b=>cases c;exact SeqAt.EqAt.str_bool a t' b
  |int b=>obtain⟨t,rfl⟩:=c;exact SeqAt.EqAt.str_int a t' b t
  |str b=>obtain⟨t,rfl⟩:=c;exact SeqAt.EqAt.str_str a t' b t
  |_=>exact absurd (show false=true from d) qr
 |_=>exact absurd (show false=true from f) qr
def eqU(x:V)(u:Value):Bool:=match u with
 |.none=>eqV .non x
 |.bool b=>eqV (.bl b) x
 |.int i _=>eqV (.int i) x
 |.str z _=>eqV (.str z) x
 |_=>false
def xAvf(r:RelV y u)(f:flatV y=true):eqU x u=eqV y x:=by
 cases y with
 |non=>cases r;rfl
 |bl b=>cases r;rfl
 |int i=>obtain⟨t,rfl⟩:=r;rfl
 |str z=>obtain⟨t,rfl⟩:=r;rfl
 |_=>exact absurd (show false=true from f) qr
def xAfa:∀{xs:List V} {us:List Value},Vals xs us->xs.all flatV=true->us.any (eqU x)=xs.any λy=>eqV y x
 |_,_,.nil,_=>rfl
 |y::xs,u::us,.cons r t,f=>by
  rw[List.all_cons,zd]at f;rw[yb,yb,xAvf r f.1,xAfa t f.2]
def xAda(c:RelV x v)(b:flatV x=true):∀{xs:List V} {us:List Value},Vals xs us->xs.all flatV=true->∀u∈us,SeqAt.EqAt A s u v (eqU x u)
 |_,_,.nil,_=>λu a=>by cases a
 |y::xs,u::us,.cons r t,f=>λd a=>by
  rw[List.all_cons,zd]at f;rcases za.mp a with rfl|a
  ·rw[xAvf r f.1];exact eqAt_V r c f.1 b
  ·exact xAda c b t f.2 d a
def inV(x:V)(xs:List V):Bool:=xs.any λy=>eqV y x
inductive IrIn(neg:Bool)(x:V)(y:V)(H:Hp)(Q:VK):Prop
 |mk (p:_) (xs:_) (h0_:y=.ref p) (h1_:(SqL H p xs\/SqT H p xs)) (h2_:flatV x=true) (h3_:xs.all flatV=true) (h4_:Q (.bl (if neg then !inV x xs else inV x xs)) H):IrIn neg x y H Q
def rIn(a:Bool):R2:=λx y H Q=>IrIn a x y H Q
def xAnz:OpR X (compareOp .In) (rIn false):=by
 intro pins s σ H x y v u Q I d e h;obtain⟨p,xs,rfl,b,c,fs,q⟩:=h;cases e;rcases b with b|b
 ·obtain⟨a,r,pl,hz⟩:=I.list b
  refine SeqAt.in_listAt (eqU x) pl.isList (λw hw=>xAda d c r fs w (by simpa using hw)) ⟨.bl _,H,I,Y,?_⟩;rw[show a.toArray.any (eqU x)=a.any (eqU x) by simp,xAfa r fs];exact q
 ·obtain⟨a,r,pl,hz⟩:=I.tuple b
  refine SeqAt.in_tupleAt (eqU x) pl (λw hw=>xAda d c r fs w (by simpa using hw)) ⟨.bl _,H,I,Y,?_⟩;rw[show a.toArray.any (eqU x)=a.any (eqU x) by simp,xAfa r fs];exact q
def xAfy:OpR X (compareOp .NotIn) (rIn true):=by
 intro pins s σ H x y v u Q I d e h;obtain⟨p,xs,rfl,b,c,fs,q⟩:=h;cases e;rcases b with b|b
 ·obtain⟨a,r,pl,hz⟩:=I.list b
  refine SeqAt.notIn_listAt (eqU x) pl.isList (λw hw=>xAda d c r fs w (by simpa using hw)) ⟨.bl _,H,I,Y,?_⟩;rw[show a.toArray.any (eqU x)=a.any (eqU x) by simp,xAfa r fs];exact q
 ·obtain⟨a,r,pl,hz⟩:=I.tuple b
  refine SeqAt.notIn_tupleAt (eqU x) pl (λw hw=>xAda d c r fs w (by simpa using hw)) ⟨.bl _,H,I,Y,?_⟩;rw[show a.toArray.any (eqU x)=a.any (eqU x) by simp,xAfa r fs];exact q
inductive IRcall_len_seq(xs:List V)(H:Hp)(Q:VK):Prop
 |mk (p:_) (ys:_) (h0_:xs=[.ref p]) (h1_:(SqL H p ys\/SqT H p ys)) (h2_:Q (.int ys.length) H):IRcall_len_seq xs H Q
def Rcall_len_seq:List V->Hp->VK->Prop:=λxs H Q=>IRcall_len_seq xs H Q
def xAam:CallR X (.builtin "len") (Rcall_len_seq):=by
 intro pins s σ H xs us Q I r h;obtain⟨p,ys,rfl,b,q⟩:=h;obtain⟨u,rfl,e⟩:=vals1 r;cases e;have hn:=xAjm;rcases b with b|b
 ·obtain⟨d,c,pl,hz⟩:=I.list b
  have a:=c.length;exact Calls.call_len_list pl.isList (by simp only[List.size_toArray] <;> omega) ⟨.int ys.length,H,I.tok _,⟨s.toks+1,by rw[List.size_toArray,a]⟩,q⟩
 ·obtain⟨d,c,pl,hz⟩:=I.tuple b
  have a:=c.length;exact len_tuple pl (by simp only[List.size_toArray] <;> omega) ⟨.int ys.length,H,I.tok _,⟨s.toks+1,by rw[List.size_toArray,a]⟩,q⟩
inductive IRcall_list_of(xs:List V)(H:Hp)(Q:VK):Prop
 |mk (p:_) (ys:_) (h0_:xs=[.ref p]) (h1_:(SqL H p ys\/SqT H p ys)) (h2_:∀l,H l=none->Q (.ref l) (upd H l (.lst ys))):IRcall_list_of xs H Q
def Rcall_list_of:List V->Hp->VK->Prop:=λxs H Q=>IRcall_list_of xs H Q
def xAfz:CallR X (.type "list") (Rcall_list_of):=by
 intro pins s σ H xs us Q I r h;obtain⟨p,ys,rfl,i,q⟩:=h;obtain⟨u,rfl,m⟩:=vals1 r;cases m
 have g:∀(a:List Value),Vals ys a->ys.length≤sizeLine->∀(h':Heap) (d:Nat),(∀b o',s.heap.get? b=some o'->h'.get? b=some o') →
   h'.get? s.heap.objs.size=some { cls:=.type "list",dict:=none,data:=.seq a.toArray d,slots:=#[] }->EP X pins σ Q (.ref s.heap.objs.size) { s with heap:=h' }:=λa c hz h' d kp e =>
  ⟨.ref s.heap.objs.size,_,I.laid (t':=s.toks) kp (qd _) (show ObjOk X.prog X.w _ h' _ (.lst ys) from⟨hz,a,d,c,e⟩),Y,q _ (I.hok.fresh (qd _))⟩
 rcases i with i|i
 ·obtain⟨a,c,pl,hz⟩:=I.list i
  have f:=c.length;obtain⟨o,k,j,n,l⟩:=pl.isList;exact call_list_seq p (.inl rfl) k j l (λh' d kp e=>g a c hz h' d kp e) (by simp only[List.size_toArray] <;> omega)
 ·obtain⟨a,c,pl,hz⟩:=I.tuple i
  have f:=c.length;obtain⟨o,k,j,n,l⟩:=pl;exact call_list_seq p (.inr rfl) k j l (λh' d kp e=>g a c hz h' d kp e) (by simp only[List.size_toArray] <;> omega)
inductive IRcall_tuple_of(xs:List V)(H:Hp)(Q:VK):Prop
 |mk (p:_) (ys:_) (h0_:xs=[.ref p]) (h1_:((SqL H p ys/\∀l,H l=none->Q (.ref l) (upd H l (.tup ys)))\/(SqT H p ys/\Q (.ref p) H))):IRcall_tuple_of xs H Q
def Rcall_tuple_of:List V->Hp->VK->Prop:=λxs H Q=>IRcall_tuple_of xs H Q
def xAfb:CallR X (.type "tuple") (Rcall_tuple_of):=by
 intro pins s σ H xs us Q I r h;obtain⟨p,ys,rfl,h⟩:=h;obtain⟨u,rfl,j⟩:=vals1 r;cases j;rcases h with⟨d,q⟩|⟨d,q⟩
 ·obtain⟨a,c,pl,hz⟩:=I.list d
  have f:=c.length;refine call_tuple_list pl.isList (λh' kp=>?_) (by simp only[List.size_toArray] <;> omega);have g:Inv X pins σ H { s with heap:=h' }:=I.kept (t':=s.toks) kp
  have i:Inv X pins σ (upd H h'.objs.size (.tup ys)) { s with heap:=h'.push { cls:=.type "tuple",data:=.seq a.toArray } } :=
   g.laid (t':=s.toks) (λb o e=>qA _ e) (qd _) (show ObjOk X.prog X.w _ _ _ (.tup ys) from⟨hz,a,c,IsTup.new _ _⟩)
  exact⟨.ref h'.objs.size,_,i,Y,q _ (g.hok.fresh (qd _))⟩
 ·obtain⟨a,c,pl,hz⟩:=I.tuple d
  exact call_tuple_same pl ⟨.ref p,H,I,Y,q⟩
def tyV(T:String)(x:V)(H:Hp):Prop:=match x with
 |.str _=>T = "str"
 |.int _=>T = "int"
 |.ref p=>(T = "list" /\ ∃xs,SqL H p xs)\/(T = "tuple" /\ False) ∨
   (T = "dict" /\ ((∃kvs,H p=some (.dK kvs))\/(∃kvs,H p=some (.dT kvs))\/∃kvs,H p=some (.dG kvs)))\/(T = "set" /\ ∃S n,H p=some (.set S n))
 |_=>False
def tyV_is{pins:List (Addr×Obj)}{σ:St}{H:Hp}{s:Shared}{T:String}{x:V}{v:Value}(I:Inv X pins σ H s)(r:RelV x v)(ty:tyV T x H) :
  s.TypeIs v T/\∀a,v=.ref a->∃f,s.heap.get? a=some f/\f.dict=none:=by
 cases x with
 |str z =>
  obtain⟨t,rfl⟩:=r;cases(show T = "str" from ty);exact⟨typeIs_str s z t,λ_ e=>nomatch e⟩
 |int i =>
  obtain⟨t,rfl⟩:=r;cases(show T = "int" from ty);exact⟨typeIs_int s i t,λ_ e=>nomatch e⟩
 |ref p =>
  cases r;rcases ty with⟨rfl,xs,j⟩|⟨rfl,hf⟩|⟨rfl,b⟩|⟨rfl,S,n,b⟩
  ·obtain⟨g,_,pl,_⟩:=I.list j
   refine⟨pl.isList.typeIs,λa e=>?_⟩;cases e;obtain⟨o,n,e,c,h,_⟩:=pl;exact⟨o,e,h⟩
  ·exact hf.elim
  ·have z:∃o,s.heap.get? p=some o/\o.ExactDict:=by
    rcases b with⟨kvs,b⟩|⟨kvs,b⟩|⟨kvs,b⟩
    ·obtain⟨_,_,_,_,o,_,_,e,ex,_⟩:=I.hok p _ b
     exact⟨o,e,ex⟩
    ·obtain⟨_,_,_,_,o,_,_,e,ex,_⟩:=I.hok p _ b
     exact⟨o,e,ex⟩
    ·obtain⟨_,_,_,_,o,_,_,e,ex,_⟩:=I.hok p _ b
     exact⟨o,e,ex⟩
   obtain⟨o,e,ex⟩:=z;refine⟨⟨o,e,ex.1⟩,λa d=>?_⟩;cases d;exact⟨o,e,ex.2.1⟩
  ·obtain⟨o,_,_,_,e,ex,_⟩:=I.hok p _ b
   refine⟨⟨o,e,ex.1⟩,λa d=>?_⟩;cases d;exact⟨o,e,ex.2.1⟩
 |_=>exact False.elim ty
def tBM(T:String)(r:V->List V->Hp->VK->Prop)(to:TE)(t:TA):TE:=λσ H Q=>to σ H λx H1=>tyV T x H1/\t σ H1 λxs H2=>r x xs H2 Q
variable {o e:Expr}{es:List Expr}{to:TE}{t:TA}{name:Str}{apos cpos:Pos}{T id:String}{r:V->List V->Hp->VK->Prop}
def pe_bm(w:PlainAttrs T)(f:Slot T name id)(g:typeOf (.builtin id)=pure (.type "method_descriptor"))(z:MtR X id r)(q:PE X o to)(u:PA X (e::es) t)(b:attributeBase o name X.env (eval o X.env)=eval o X.env:=by rfl)(d:((backTo cpos (starEach (e::es) X.env)).all (λx=>!x.1)&&(backToKw cpos (keywordEach [] X.env)).all (λx=>x.1.isSome)
   && decide ((e::es).length+([]:List Keyword).length+(if([]:List Keyword).isEmpty then 0 else 1)<30))=true:=by rfl)(c:(apos.endLine==cpos.line)=true:=by rfl)(hs:starEach (e::es) X.env=(false,eval e X.env)::starEach es X.env:=by rfl)(a:(backTo cpos (starEach es X.env)).any (·.1)=false:=by rfl) :
  PE X (.Call (.Attribute o name apos) (e::es) [] cpos) (tBM T r to t):=by
 refine⟨?_⟩;intro pins s σ H Q I h;refine wpAny_Call_method_late b d c rfl (thn (q pins s σ H _ I h) λv y ⟨x,H1,j,i,ty,n⟩=>?_);obtain⟨h1,h2⟩:=tyV_is j i ty;refine⟨T,id,w,f,g,h1,h2,?_⟩;have k:=u cpos pins y σ H1 _ j n;rw[hs]at k ⊢;refine Calls.callWith_builtin (by show(false||(backTo cpos (starEach es X.env)).any (·.1))=false;rw[a] <;> rfl) (Calls.evalArgs_plain ?_);exact thn k λus p ⟨vs,H2,m,A,l⟩=>z pins p σ H2 x vs v us Q m i A l
end
def MtM(X:Cx)(id:String)(r:V->List V->Hp->VK->Prop):Prop :=
 ∀(pins:List (Addr×Obj)) (s:Shared) (σ:St) (H:Hp) (x:V) (xs:List V) (v:Value) (us:List Value) (Q:VK),Inv X pins σ H s->RelV x v->Vals xs us->r x xs H Q →
  wpAny (model X.prog X.w) X.A (call (.builtin id) (v::us)) (EP X pins σ Q) X.xe s
def Vals.tl(h:Vals (x::xs) us):∃u vs,us=u::vs/\RelV x u/\Vals xs vs:=by
 cases h with
 |cons r t=>exact⟨_,_,Y,r,t⟩
def Vals.one:∀{x:V} {us:List Value},Vals [x] us->∃u,us=[u]/\RelV x u:=by
 intro x us h
 cases h with
 |cons r t=>cases t;exact⟨_,Y,r⟩
def Vals.two:∀{x y:V} {us:List Value},Vals [x,y] us->∃u v,us=[u,v]/\RelV x u/\RelV y v:=by
 intro x y us h;obtain⟨u,vs,rfl,r,t⟩:=Vals.tl h;obtain⟨v,rfl,q⟩:=Vals.one t;exact⟨u,v,Y,r,q⟩
def Vals.rep(h:Vals xs us):∀k:Nat,Vals (List.replicate k xs).flatten (List.replicate k us).flatten
 | 0=>.nil
 |k+1=>by
  rw[wg,wg,vh,vh];exact Vals.append h (Vals.rep h k)
def xAeh(a:List Value):∀(k:Nat) (b:List Value),
  List.foldl (λf d=>f++d) b.toArray (List.replicate k a.toArray)=(b++(List.replicate k a).flatten).toArray
 | 0,b=>by simp
 |k+1,b=>by
  have e:b.toArray++a.toArray=(b++a).toArray:=by simp
  have c:(b++a)++(List.replicate k a).flatten=b++(List.replicate (k+1) a).flatten:=by
   rw[wg,vh,yc]
  rw[←c,←xAeh a k (b++a),←e,wg,yd]
section
variable {X:Cx}{pins:List (Addr×Obj)}{σ:St}{H:Hp}{s:Shared}{l b:Addr}{xs ys zs:List V}
def Inv.lset{a its':List Value}{n:Nat}{f:Array Value->Array Value}{t':Nat}(I:Inv X pins σ H s)(b:H l=some (.lst xs))(e:s.heap.get? l=some { cls:=.type "list",data:=.seq a.toArray n })(hf:f a.toArray=its'.toArray)(d:Vals ys its')(hz:ys.length≤sizeLine) :
  Inv X pins σ (upd H l (.lst ys)) { s with heap:=s.heap.update l (Obj.mapSeq f),toks:=t' }:=by
 have q:=PySem.IsL.update e f;rw[hf]at q;refine I.write (x:=l) (e:=l) (by rw[b];exact trivial) (.inl rfl) (λh u g c=>(Heap.get?_update_other s.heap (Obj.mapSeq f) (Ne.symm g)).trans c) ⟨_,q⟩ ?_;exact⟨hz,its',_,d,q⟩
def Inv.lnew(I:Inv X pins σ H s)(b:Vals ys a)(hz:ys.length≤sizeLine) :
  Inv X pins σ (upd H s.heap.objs.size (.lst ys)) { s with heap:=s.heap.push { cls:=.type "list",data:=.seq a.toArray },toks:=t' } :=
 I.laid (λ_ _ q=>qA _ q) (qd _) ⟨hz,a,0,b,qB _ rfl⟩
def Inv.fresh(I:Inv X pins σ H s):H s.heap.objs.size=none:=I.hok.fresh (qd _)
def Inv.lstM(I:Inv X pins σ H s)(b:H l=some (.lst xs)):xs.length≤sizeLine/\∃(a:List Value) (n:Nat),Vals xs a/\xs.length=a.length/\s.heap.get? l=some { cls:=.type "list",data:=.seq a.toArray n }:=by
 obtain⟨z,a,n,r,e⟩:=I.hok l _ b;exact⟨z,a,n,r,r.length,e⟩
def xAsc(h:n≤sizeLine):Builtin.List.listTooLong n=false:=by
 unfold Builtin.List.listTooLong;exact decide_eq_false (by omega)
end
section
variable {X:Cx}
inductive IrAppend(x:V)(vs:List V)(H:Hp)(Q:VK):Prop
 |mk (l:_) (xs:_) (y:_) (h0_:x=.ref l) (h1_:vs=[y]) (h2_:H l=some (.lst xs)) (h3_:xs.length<sizeLine) (h4_:Q .non (upd H l (.lst (xs++[y])))):IrAppend x vs H Q
def rAppend:V->List V->Hp->VK->Prop:=λx vs H Q=>IrAppend x vs H Q
def xAoa:MtM X "list.append" rAppend:=by
 intro pins s σ H x vs v us Q I f d h;obtain⟨l,xs,y,rfl,rfl,b,hz,q⟩:=h;cases f;obtain⟨u,rfl,c⟩:=d.one;obtain⟨z,a,n,r,g,e⟩:=I.lstM b;refine call_meets F.slot_list_append ⟨_,e,Y⟩ F.entry_list_append (F.args_list_append_2 _ _) (PySem.list_append l a.toArray n u (by rw[qz];omega)) ⟨e,?_⟩;refine⟨.non,_,I.lset (its':=a++[u]) b e (by simp) (r.append (.cons c .nil)) ?_,Y,q⟩;rw[qm,zk];omega
inductive IrCat(x:V)(y:V)(H:Hp)(Q:VK):Prop
 |mk (l:_) (b:_) (xs:_) (zs:_) (h0_:x=.ref l) (h1_:y=.ref b) (h2_:H l=some (.lst xs)) (h3_:H b=some (.lst zs)) (h4_:xs.length+zs.length≤sizeLine) (h5_:∀p,H p=none->Q (.ref p) (upd H p (.lst (xs++zs)))):IrCat x y H Q
def rCat:R2:=λx y H Q=>IrCat x y H Q
def op_cat:OpR X (binaryOp .Add) rCat:=by
 intro pins s σ H x y v u Q I j m h;obtain⟨l,b,xs,zs,rfl,rfl,g,d,hz,q⟩:=h;cases j;cases m;obtain⟨z,c,n,r,p,e⟩:=I.lstM g;obtain⟨t,a,n2,i,k,f⟩:=I.lstM d;refine PySem.P.add_list e f ?_ (by rw[qz,qz];omega)
 have o:c.toArray++a.toArray=(c++a).toArray:=by simp
 rw[o];exact⟨.ref _,_,I.lnew (t':=s.toks) (r.append i) (by rw[qm];omega),Y,q _ I.fresh⟩
inductive IrRep(x:V)(y:V)(H:Hp)(Q:VK):Prop
 |mk (l:_) (k:_) (xs:_) (h0_:x=.ref l) (h1_:y=.int k) (h2_:H l=some (.lst xs)) (h3_:-(2 ^ 63)≤k) (h4_:k<2 ^ 63) (h5_:xs.length * k.toNat≤sizeLine) (h6_:∀p,H p=none->Q (.ref p) (upd H p (.lst (List.replicate k.toNat xs).flatten))):IrRep x y H Q
def rRep:R2:=λx y H Q=>IrRep x y H Q
def xAjz{α:Type}(xs:List α)(k:Nat):(List.replicate k xs).flatten.length=k * xs.length:=by
 induction k with
 |zero=>simp
 |succ k a=>rw[wg,vh,qm,a,Nat.succ_mul,jq]
def op_rep:OpR X (binaryOp .Mult) rRep:=by
 intro pins s σ H x y v u Q I A C h;obtain⟨l,k,xs,rfl,rfl,w,h1,h2,hz,q⟩:=h;cases A;obtain⟨t,rfl⟩:=C;obtain⟨z,b,n,r,p,e⟩:=I.lstM w
 have f:b.toArray.size * k.toNat≤sizeLine:=by rw[qz,←p];exact hz
 have g:¬b.toArray.size * k.toNat>(2 ^ 63 - 1) / 8:=by
  have:(sizeLine:Nat)≤(2 ^ 63 - 1) / 8:=by decide
  omega
 have i:¬(!Builtin.List.listFitsIndex k)=true:=by
  rw[fitsIndex_both h1 h2];exact qr
 have c:¬Builtin.List.listTooLong (b.toArray.size * k.toNat)=true:=by
  rw[xAsc f];exact qr
 have d:List.foldl (λo j=>o++j) #[] (List.replicate (if b.toArray.isEmpty=true then 0 else k.toNat) b.toArray)=(List.replicate k.toNat b).flatten.toArray:=by
  have B:∀m:Nat,List.foldl (λo j=>o++j) #[] (List.replicate m b.toArray)=(List.replicate m b).flatten.toArray:=λm=>by
   have:=xAeh b m [];rw[jr]at this;exact this
  rw[B]
  cases b with
  |nil=>simp
  |cons a D=>rw[qs (by simp)]
 refine wpAny_binaryOp_repeat_ref (T:="list") (U:="int") (by decide) ⟨_,e,Y⟩ (λs'=>typeIs_int s' k t) noFill_list_mul F.fills_int_mul F.slot_int_rmul repeat_list F.slot_int_index.lookup
  (call_meets F.slot_int_rmul (typeIs_int s k t) F.entry_int_rmul (F.args_int_rmul_2 _ _) (int___rmul___int_list k t l b.toArray n)
   ⟨e,Y,⟨_,e,Y⟩,call_meets F.slot_list_mul ⟨_,e,Y⟩ F.entry_list_mul (F.args_list_mul_2 _ _) (AutoListH.list___mul___list_int_3 l b.toArray n k t i g c) ⟨e,?_⟩⟩)
 rw[d];exact⟨.ref _,_,I.lnew (t':=s.toks) (r.rep k.toNat) (by rw[xAjz,yy];exact hz),Y,q _ I.fresh⟩
end
section
variable {κ:Type}[DecidableEq κ]
def valV(kvs:List (κ×V))(k:κ):Option V:=(kvs.find? λa=>decide (a.1=k)).map (·.2)
def putK(kvs:List (κ×V))(k:κ)(v:V):List (κ×V) :=
 if(kvs.any λa=>decide (a.1=k))=true then kvs.map (λa=>if a.1=k then(a.1,v) else a) else kvs++[(k,v)]
def xAbf{k:κ}(e:p.1=k):valV (p::r) k=some p.2:=by simp[valV,List.find?_cons,e]
def xAbg{k:κ}(e:¬p.1=k):valV (p::r) k=valV r k:=by simp[valV,List.find?_cons,e]
def xAei(k:κ):∀kvs:List (κ×V),(kvs.any λa=>decide (a.1=k))=(valV kvs k).isSome
 |[]=>rfl
 |p::r=>by
  rw[yb]
  by_cases e:p.1=k
  ·simp only[xAbf e,decide_eq_true e,Bool.true_or,Option.isSome_some]
  ·rw[xAbg e,decide_eq_false e,Bool.false_or];exact xAei k r
def xAka(k j:κ)(y:V):∀kvs:List (κ×V),valV (kvs.map λa=>if a.1=k then(a.1,y) else a) j=(valV kvs j).map λx=>if j=k then y else x
 |[]=>rfl
 |p::r=>by
  have b:=xAka k j y r;rw[zh]
  by_cases h:p.1=k
  ·rw[qt h]
   by_cases e:p.1=j
   ·rw[xAbf (p:=(p.1,y)) e,xAbf e,yz,qt (e.symm.trans h)]
   ·rw[xAbg (p:=(p.1,y)) e,xAbg e,b]
  ·rw[qs h]
   by_cases e:p.1=j
   ·rw[xAbf (p:=p) e,xAbf e,yz,qs (λz=>h (e.trans z))]
   ·rw[xAbg (p:=p) e,xAbg e,b]
def xAhj(k j:κ)(y:V):∀kvs:List (κ×V),valV kvs k=none->valV (kvs++[(k,y)]) j=if j=k then some y else valV kvs j
 |[],_=>by
  by_cases e:k=j
  ·rw[qt e.symm];exact xAbf (p:=(k,y)) e
  ·rw[qs (λz=>e z.symm)];exact xAbg (p:=(k,y)) e
 |p::r,hn=>by
  rw[List.cons_append]
  have a:¬p.1=k:=λz=>by rw[xAbf z]at hn;cases hn
  rw[xAbg a]at hn;have b:=xAhj k j y r hn
  by_cases e:p.1=j
  ·rw[xAbf e,xAbf e,qs (λz=>a (e.trans z))]
  ·rw[xAbg e,xAbg e,b]
def xAkb(kvs:List (κ×V))(k j:κ)(y:V):valV (putK kvs k y) j=if j=k then some y else valV kvs j:=by
 unfold putK
 by_cases a:(kvs.any λc=>decide (c.1=k))=true
 ·rw[qt a,xAka]
  rw[xAei]at a
  by_cases e:j=k
  ·obtain⟨x,b⟩:=yx.mp a
   rw[qt e,e,b,yz,qt rfl]
  ·rw[qs e]
   cases valV kvs j with
   |none=>rfl
   |some x=>rw[yz,qs e]
 ·rw[qs a]
  refine xAhj k j y kvs ?_;rw[xAei]at a
  cases q:valV kvs k with
  |none=>rfl
  |some x=>rw[q]at a;exact(a rfl).elim
def xAbw(kvs:List (κ×V))(k:κ)(v:V):(putK kvs k v).length≤kvs.length+1:=by
 unfold putK
 split
 ·rw[qc];omega
 ·rw[qm,zc,wu];omega
def RelO.isSome_eq(r:RelO o u):o.isSome=u.isSome:=by
 cases o with
 |none=>cases u with
  |none=>rfl
  |some _=>exact(show False from r).elim
 |some _=>cases u with
  |none=>exact(show False from r).elim
  |some _=>rfl
def KV.val(r:KV kvs vs)(k:κ):RelO (valV kvs k) (valueAt vs k):=by
 unfold KV at r
 induction r with
 |nil=>exact True.intro
 |@cons p q ps a h t d =>
  obtain⟨h1,h2⟩:=h
  by_cases e:p.1=k
  ·have c:q.1=k:=h1.symm.trans e
   have b:valueAt (q::a) k=some q.2:=by simp[valueAt,List.find?_cons,c]
   rw[xAbf e,b];exact h2
  ·have c:¬q.1=k:=λz=>e (h1.trans z)
   have b:valueAt (q::a) k=valueAt a k:=by simp[valueAt,List.find?_cons,c]
   rw[xAbg e,b];exact d
def KV.any(r:KV kvs vs)(k:κ):(kvs.any λa=>decide (a.1=k))=vs.any λa=>decide (a.1=k):=by
 unfold KV at r
 induction r with
 |nil=>rfl
 |cons h t b=>rw[yb,yb,b,h.1]
def KV.repl(r:KV kvs vs)(k:κ)(b:RelV y u) :
  KV (kvs.map λa=>if a.1=k then(a.1,y) else a) (vs.map λa=>if a.1=k then(a.1,u) else a):=by
 unfold KV at r ⊢
 induction r with
 |nil=>exact .nil
 |@cons p q ps d h t c =>
  rw[zh,zh];refine .cons ?_ c;obtain⟨h1,h2⟩:=h
  by_cases e:p.1=k
  ·rw[qt e,qt (h1.symm.trans e)];exact⟨h1,b⟩
  ·rw[qs e,qs (λz=>e (h1.trans z))];exact⟨h1,h2⟩
def KV.put(r:KV kvs vs)(k:κ)(a:RelV y u):KV (putK kvs k y) (stored vs k u):=by
 unfold putK stored;rw[r.any k]
 by_cases e:(vs.any λb=>decide (b.1=k))=true
 ·rw[qt e,qt e];exact r.repl k a
 ·rw[qs e,qs e];exact Paired.snoc r ⟨Y,a⟩
def KV.length{kvs:List (κ×V)}{vs:List (κ×Value)}(r:KV kvs vs):kvs.length=vs.length:=Paired.length r
end
def kV_is{k:Key}(r:RelV (kV k) u):(mixKind P w).is k u=true:=by
 cases k with
 |inl i=>obtain⟨t,e⟩:=(show ∃t,u=Value.int i t from r);subst e;exact xAiq P w i t
 |inr x=>obtain⟨t,e⟩:=(show ∃t,u=Value.str x t from r);subst e;exact xAir P w x t
def xAhk:∀{ks:List Key} {us:List Value},Vals (ks.map kV) us->ItemsAre (mixKind P w) ks us
 |[],_,r=>by rw[List.map_nil]at r;cases r;exact .nil
 |k::ks,_,r=>by
  rw[zh]at r
  cases r with
  |cons h t=>exact .cons (kV_is h) (xAhk t)
abbrev KT(H:Hp):List (List Key×V)->List (List Key×Addr×Value)->Prop:=Paired λp q=>p.1=q.1/\H q.2.1=some (.tup (p.1.map kV))/\RelV p.2 q.2.2
def KT.val(r:KT H kvs xs)(k:List Key):RelO (valV kvs k) ((atKey xs k).map (·.2)):=by
 induction r with
 |nil=>exact True.intro
 |@cons p q ps a h t d =>
  obtain⟨h1,_,h2⟩:=h
  by_cases e:p.1=k
  ·have c:q.1=k:=h1.symm.trans e
   have b:atKey (q::a) k=some q.2:=by simp[atKey,List.find?_cons,c]
   rw[xAbf e,b];exact h2
  ·have c:¬q.1=k:=λz=>e (h1.trans z)
   have b:atKey (q::a) k=atKey a k:=by simp[atKey,List.find?_cons,c]
   rw[xAbg e,b];exact d
def KT.repl(r:KT H kvs xs)(k:List Key)(d:RelV y u) :
  KT H (kvs.map λa=>if a.1=k then(a.1,y) else a) (xs.map (putAt k u)):=by
 induction r with
 |nil=>exact .nil
 |@cons p q ps f h t b =>
  rw[zh,zh];refine .cons ?_ b;obtain⟨h1,h2,c⟩:=h;unfold putAt
  by_cases e:p.1=k
  ·rw[qt e,qt (h1.symm.trans e)];exact⟨h1,h2,d⟩
  ·rw[qs e,qs (λz=>e (h1.trans z))];exact⟨h1,h2,c⟩
def KT.put(r:KT H kvs xs)(k:List Key)(c:H b=some (.tup (k.map kV)))(a:RelV y u) :
  KT H (putK kvs k y) (storedH xs k b u):=by
 have e:(kvs.any λd=>decide (d.1=k))=(atKey xs k).isSome:=by
  rw[xAei,(r.val k).isSome_eq,Option.isSome_map]
 unfold putK storedH;rw[e]
 by_cases q:(atKey xs k).isSome=true
 ·rw[qt q,qt q];exact r.repl k a
 ·rw[qs q,qs q];exact Paired.snoc r ⟨Y,c,a⟩
def KT.keeps(r:KT H kvs xs)(a:∀b ys,H b=some (.tup ys)->H' b=some (.tup ys)):KT H' kvs xs :=
 Paired.mapP r λ_ _ z=>⟨z.1,a _ _ z.2.1,z.2.2⟩
section
variable {P:Program}{w:World}{H:Hp}{h:Heap}{a:Addr}
def rd_of(ok:HOk P w H h)(e:Rd H a u):ObjOk P w H h a u:=e.ok ok
def dk_rd(ok:HOk P w H h)(e:Rd H a (.dK kvs)):kvs.length≤sizeLine/\(a==sysModules)=false/\∃vs,KV kvs vs/\h.DictOf (mixKind P w) a vs :=
 show ObjOk P w H h a (.dK kvs) from rd_of ok e
def dk_of(ok:HOk P w H h)(e:H a=some (.dK kvs)):kvs.length≤sizeLine/\(a==sysModules)=false/\∃vs,KV kvs vs/\h.DictOf (mixKind P w) a vs:=dk_rd ok (.inl e)
def xAiu(ok:HOk P w H h)(e:H a=some (.tup (ks.map kV))):(tupleKind (mixKind P w)).is h ks a:=by
 obtain⟨_,b,r,o,h1,h2,n,c⟩:=(show ObjOk P w H h a (.tup (ks.map kV)) from ok a _ e);exact⟨o,b.toArray,n,h1,h2,c,by simpa using xAhk r⟩
def dt_rd(ok:HOk P w H h)(e:Rd H a (.dT kvs)):kvs.length≤sizeLine/\(a==sysModules)=false ∧
  ∃xs,KT H kvs xs/\h.DictOfH (tupleKind (mixKind P w)) a xs:=by
 obtain⟨z,y,xs,r,o,es,ep,h1,h2,i,g,d⟩:=(show ObjOk P w H h a (.dT kvs) from rd_of ok e);refine⟨z,y,xs,r,o,es,ep,h1,h2,i,g,λx b=>?_,d⟩
 have all:∀{l:List (List Key×V)} {m:List (List Key×Addr×Value)},KT H l m->∀x∈m,(tupleKind (mixKind P w)).is h x.1 x.2.1:=by
  intro l m q
  induction q with
  |nil=>intro x b;exact nomatch b
  |@cons p q ps j c t f =>
   intro x b;rcases za.mp b with e|b
   ·subst e
    exact xAiu ok (by rw[←c.1];exact c.2.1)
   ·exact f x b
 exact all r x b
def dt_of(ok:HOk P w H h)(e:H a=some (.dT kvs)):kvs.length≤sizeLine/\(a==sysModules)=false ∧
  ∃xs,KT H kvs xs/\h.DictOfH (tupleKind (mixKind P w)) a xs:=dt_rd ok (.inl e)
end
def DGet(H:Hp)(a:Addr)(y:V)(r:Option V):Prop :=
 (∃kvs k,Rd H a (.dK kvs)/\y=kV k/\r=valV kvs k)\/∃kvs k b,Rd H a (.dT kvs)/\y=.ref b/\H b=some (.tup (k.map kV))/\r=valV kvs k
def DPut(H:Hp)(a:Addr)(y v:V)(H':Hp):Prop :=
 (∃kvs k,H a=some (.dK kvs)/\y=kV k/\kvs.length<sizeLine/\H'=upd H a (.dK (putK kvs k v))) ∨
 ∃kvs k b,H a=some (.dT kvs)/\y=.ref b/\H b=some (.tup (k.map kV))/\kvs.length<sizeLine/\H'=upd H a (.dT (putK kvs k v))
def DGet.k{k:Key}(e:H a=some (.dK kvs)):DGet H a (kV k) (valV kvs k):=.inl ⟨kvs,k,.inl e,Y,Y⟩
def DGet.t{k:List Key}(e:H a=some (.dT kvs))(c:H b=some (.tup (k.map kV))):DGet H a (.ref b) (valV kvs k):=.inr ⟨kvs,k,b,.inl e,Y,c,Y⟩
def DPut.t{k:List Key}(e:H a=some (.dT kvs))(d:H b=some (.tup (k.map kV)))(c:kvs.length<sizeLine) :
  DPut H a (.ref b) v (upd H a (.dT (putK kvs k v))):=.inr ⟨kvs,k,b,e,Y,d,c,Y⟩
section
variable {X:Cx}{pins:List (Addr×Obj)}{σ:St}{H:Hp}{s:Shared}{a:Addr}{y v:V}{u r:Value}{o:Option V}{A:Around}{E:Value->Shared->Prop}
def Inv.big(I:Inv X pins σ H s):sysModules<s.heap.objs.size:=by
 have h:mainGlobals<s.heap.objs.size:=(I.mod.glob.keeps I.bk).lt;exact wk (by decide) h
def xAob(n:A.units+1<cLine)(I:Inv X pins σ H s)(g:DGet H a y (some v))(m:RelV y u)(h:∀f s',Inv X pins σ H s'->RelV v f->Q f s') :
  wpAny (model X.prog X.w) A (getItem (.ref a) u) Q E s:=by
 rcases g with⟨kvs,k,e,i,l⟩|⟨kvs,k,b,e,i,q,l⟩
 ·subst i
  obtain⟨z,r,vs,d,dd⟩:=dk_rd I.hok e;obtain⟨f,hw,c⟩:=RelO.some_of (v:=v) (o:=valueAt vs k) (by rw[l];exact d.val k);exact wpAny_getItem_of (kV_is m) dd.mapOf hw (h f _ (I.tok _) c)
 ·subst i
  cases(show u=Value.ref b from m);obtain⟨z,r,xs,d,dd⟩:=dt_rd I.hok e;obtain⟨f,hw,c⟩:=RelO.some_of (v:=v) (o:=(atKey xs k).map (·.2)) (by rw[l];exact d.val k);obtain⟨p,t,j⟩:=wl.mp hw;refine wpAny_getItem_heap (tupleKind_room_in1 n) (xAiu I.hok q) dd t ?_;rw[j];exact h f _ (I.tok _) c
def xAkc(I:Inv X pins σ H s)(f:Mut (H a))(hs:Heap.SameBut a s.heap h')(d:∃q,h'.get? a=some q)(new:ObjOk X.prog X.w (upd H a c) h' a c) :
  Inv X pins σ (upd H a c) { s with heap:=h',toks:=t' } :=
 I.write (x:=a) (e:=a) f (.inl rfl) (λb q g z=>(hs.2 b g).trans z) d new
def dk_new(z:kvs.length≤sizeLine)(c:(a==sysModules)=false)(b:KV kvs vs)(dd:h'.DictOf (mixKind P w) a vs) :
  ObjOk P w H' h' a (.dK kvs):=⟨z,c,vs,b,dd⟩
def xAoc(D:A.units+1<cLine)(I:Inv X pins σ H s)(g:DPut H a y v H')(t:RelV y u)(o:RelV v r)(h:∀s',Inv X pins σ H' s'->Q () s') :
  wpAny (model X.prog X.w) A (setItem (.ref a) u r) Q E s:=by
 rcases g with⟨kvs,k,e,m,l,j⟩|⟨kvs,k,b,e,m,p,l,j⟩
 ·subst m j
  obtain⟨z,n,vs,d,dd⟩:=dk_of I.hok e
  have hz:vs.length≤sizeLine:=by rw[←d.length];exact z
  have i:(putK kvs k v).length≤sizeLine:=by have:=xAbw kvs k v;omega
  refine wpAny_setItem_pairs (hsz:=hz) (kV_is t) dd λh' dd' hs=>h _ ?_
  have C:∃q,h'.get? a=some q:=let⟨q,_,_,f,_⟩:=dd';⟨q,f⟩
  exact xAkc I (by rw[e];exact True.intro) hs C (dk_new i n (d.put k o) dd')
 ·subst m j
  cases(show u=Value.ref b from t);obtain⟨z,n,xs,d,dd⟩:=dt_of I.hok e
  have hz:xs.length≤sizeLine:=by rw[←Paired.length d];exact z
  have i:(putK kvs k v).length≤sizeLine:=by have:=xAbw kvs k v;omega
  refine wpAny_setItem_heap (hsz:=hz) (tupleKind_room_in1 D) (xAiu I.hok p) dd λh' dd' hs=>h _ ?_;obtain⟨q,es,ep,f,h2,F,G,_,B⟩:=dd';refine xAkc I (by rw[e];exact True.intro) hs ⟨q,f⟩ ⟨i,n,_,(d.put k p o).keeps λc ys x=>?_,q,es,ep,f,h2,F,G,B⟩;rw[xAaf (ne_of x e (λz=>nomatch z))];exact x
end
def NoSl(i:Expr):Prop:=∀a b,subscripted i false a b=operate [a,b] (getItem a b)
def xAqk{prog:Program}{w:World}{A:Around}{E:Value->Shared->Prop}{s:Shared}{f:Env}{value a:Expr}{pos:Pos}{T id:String}{Q:Value->Shared->Prop}(m:typeLookup (.type T) "__getitem__"=pure (some (.builtin id)))(hs:NoSl a)(h:wpAny (model prog w) A (eval value f) (λo e=>wpAny (model prog w) A (eval a f) (λi b=>b.TypeIs o T/\wpAny (model prog w) A (getItem o i) Q E b) E e) E s) :
  wpAny (model prog w) A (eval (.Subscript value a pos) f) Q E s:=by
 refine Subscript_ (qE h (λo e k=>qE k (λi b c=>?_) λ_ _ x=>x) λ_ _ x=>x);obtain⟨l,c⟩:=c;unfold subscriptTail;refine qa ?_;rw[getitemInPython_of_ne l.not_modules];refine qa (wpAny_specialOf l m ?_)
 have g:wpAny (model prog w) A (subscripted a false o i) (λr d=>wpAny (model prog w) A (letTemporaryGo value o r >>= λ_=>pure r) Q E d) E b:=by
  rw[hs o i];exact wpAny_operating (qE c (λr d j=>qa (wpAny_letTemporaryGo (qb j))) λ_ _ x=>x)
 first
  |exact qb (qa g)
  |exact qa (qb (qa g))
  |exact qa g
def xAiv{X:Cx}{pins:List (Addr×Obj)}{σ:St}{H:Hp}{s:Shared}{a:Addr}{y:V}{o:Option V}(I:Inv X pins σ H s)(g:DGet H a y o):s.TypeIs (.ref a) "dict":=by
 rcases g with⟨kvs,k,e,_,_⟩|⟨kvs,k,b,e,_,_,_⟩
 ·obtain⟨_,_,vs,_,dd⟩:=dk_rd I.hok e
  exact dd.typeIs
 ·obtain⟨_,_,xs,_,dd⟩:=dt_rd I.hok e
  exact dd.typeIs
inductive ItDGet(Q:VK)(x:V)(y:V)(H2:Hp):Prop
 |mk (a:_) (v:_) (h0_:x=.ref a) (h1_:DGet H2 a y (some v)) (h2_:Q v H2):ItDGet Q x y H2
def tDGet(td ty:TE):TE:=λσ H Q=>td σ H λx H1=>ty σ H1 λy H2=>ItDGet Q x y H2
inductive IsDPut(D:Ends)(σ:St)(v:V)(x:V)(y:V)(H3:Hp):Prop
 |mk (a:_) (H4:_) (h0_:x=.ref a) (h1_:DPut H3 a y v H4) (h2_:D.nx σ H4):IsDPut D σ v x y H3
def sDPut(td ty tv:TE):TS:=λD σ H=>tv σ H λv H1=>td σ H1 λx H2=>ty σ H2 λy a=>IsDPut D σ v x y a
section
variable {X:Cx}{o i e value:Expr}{pos pos' tpos:Pos}{td ty tv:TE}
def xAql(j:X.A.units+1<cLine)(m:PE X o td)(hi:PE X i ty)(hs:NoSl i):PE X (.Subscript o i pos) (tDGet td ty):=by
 refine⟨?_⟩;intro pins s σ H Q I h;refine xAqk PySem.F.slot_dict_getitem.lookup hs (thn (m pins s σ H _ I h) λu p ⟨x,H1,e,k,n⟩=>thn (hi pins p σ H1 _ e n) λt q ⟨y,H2,c,l,a,v,ex,g,d⟩=>?_);subst ex;obtain rfl:u=Value.ref a:=k;exact⟨xAiv c g,xAob j c g l λw r f b=>⟨v,H2,f,b,d⟩⟩
def xAvg(m:X.A.units+1<cLine)(n:PE X o td)(hi:PE X i ty)(p:PE X value tv)(hs:swapsWith value (some (.Subscript o i pos')) pos.line X.env=pure false) :
  PS X (.Assign [.Subscript o i pos'] value pos) (sDPut td ty tv):=by
 refine⟨?_⟩;intro pins s σ H D I h;refine wpAny_Assign_Subscript (thn (p pins s σ H _ I h) λr w ⟨v,H1,t,b,j⟩=>thn (n pins w σ H1 _ t j) λu k ⟨x,H2,d,z,c⟩=>thn (hi pins k σ H2 _ d c) λE F ⟨y,G,l,q,a,f,ex,g,e⟩=>?_) hs;subst ex;obtain rfl:u=Value.ref a:=z;exact xAoc m l g q b λC B=>⟨σ,f,B,e⟩
end
def xAsd(h:Heap)(a:sysModules<h.objs.size):ObjOk P w H (h.push { cls:=.type "dict",data:=.dict #[] }) h.objs.size (.dT []) :=
 ⟨qk _,beq_eq_false_iff_ne.mpr (Ne.symm (qg a)),[],.nil,_,#[],0,qB _ rfl,⟨Y,Y,Y⟩,Y,Y,wm⟩
def tDNewT:TE:=λ_ H Q=>∀p,H p=none->Q (.ref p) (upd H p (.dT []))
section
variable {X:Cx}{pos:Pos}
def xAse:PE X (.Dict [] [] pos) tDNewT:=⟨λpins s σ H Q I h =>
 wpAny_Dict_empty ⟨.ref s.heap.objs.size,_,I.laid (a:=s.heap.objs.size) (o:=.dT []) (t':=s.toks) (λ_ _ q=>qA _ q) (qd _) (xAsd s.heap I.big),Y,h _ (I.hok.fresh (qd _))⟩⟩
end
end L2
namespace Att
open PySem PySem.W PySem.Calls PyProof.Rows
def xAdu:∀(c:List Int) (vs:List Value),WellAll P h vs (c.map WData.int)->IntsAre vs c:=by
 intro c
 induction c with
 |nil =>
  intro vs w;rw[List.map_nil]at w;cases w;exact .nil
 |cons n c d =>
  intro vs w;rw[zh]at w
  cases w with
  |cons a b =>
   cases a;exact .cons _ _ (d _ b)
def xAod{l:OpenLaw}{n:Nat}(hn:l.most=some n){P:Params}{h:Heap}{args:List WData}{e:List Value}(c:l.row.toRowW.claim.pre args=true)(m:WellAll P h e args) :
  ∃a vs b,e=[Value.ref a]/\args=[WData.list (b.map WData.int)]/\h.get? a=some { cls:=.type "list",data:=.seq vs.toArray }/\IntsAre vs b/\b.length≤n:=by
 have k:WShape.hasAll [] args [.list .int]=true:=(pre_splitW c).1;have o:l.pre.holds [] { args:=args }=true:=(pre_splitW c).2;obtain⟨d,r,rfl,h1,h2⟩:=hasAllW_cons k;obtain rfl:=hasAllW_nil h2;obtain⟨xs,rfl,t⟩:=hasW_list h1;obtain⟨b,rfl⟩:=items_int t
 have f:b.length≤n:=by
  unfold OpenLaw.pre at o
  have j:(WTm.not (.lt (.lit (.int (n:Int))) (.len (.arg 0)))).holds [] { args:=[.list (b.map .int)] }=true:=by
   have j:=(holds_andW o).1;rw[hn]at j;exact j
  have i:=condW_of j (w_not (w_lt w_lit (w_len_list (w_arg rfl))));rw[qc]at i;refine vi λq=>?_
  have q':(n:Int)<((b.length:Nat):Int):=by omega
  first
   |(rw[qF q']at i;exact absurd i (by decide))
   |(simp at i;omega)
 cases m with
 |cons s p =>
  cases p
  cases s with
  |list u g=>exact⟨_,_,b,Y,Y,u,xAdu b _ g,f⟩
def xAoe(l:OpenLaw)(args:List WData):l.row.toRowW.claim.post args (.bool true) args=true :=
 postW_of (r:=l.row.toRowW) (X:=(true==true))
  (show WShape.has [] (.bool true) .bool=true by first|rfl|decide|simp[WShape.has,WShape.arms,WShape.armsAll])
  (show(WTm.eq .res (.lit (.bool true))).value [] { args:=args,res:=some (.bool true),after:=args }=some (.bool (true==true)) from w_eq_bool (w_res rfl) w_lit) rfl
def attach_call{l:OpenLaw}{n:Nat}{q:Program}{c:List Str}{x:(Str->Option Value)->Heap->Prop}{z:World->Heap->Prop}{d:DefRec}(hn:l.most=some n)(t:d.params.defaults=[])(call:∀(w:World) (s₀ b:Shared) (mg p:Str->Option Value) (fa:Addr) (o:Obj) (m cd g:Value) (a:Addr) (vs:List Value) (k:List Int),
   Ground q c [] x w s₀ mg p b.heap->z w b.heap →
   b.heap.get? fa=some o->o.data=.func (docDef d.name d.params d.body d.scope m cd g)->b.heap.CodeRec cd d.name->mg d.name=some (.ref fa) →
   b.heap.get? a=some { cls:=.type "list",data:=.seq vs.toArray }->IntsAre vs k->k.length≤n->b.gens=#[] →
   codeAny (model l.prog w) callerA (.call (.ref fa) ⟨[.ref a],[]⟩) (λr s'=>r=.ok (.ret (.bool true))/\OldK b.heap s'.heap/\s'.os=b.os/\AllBare s'.gens) b) :
  WalkO q c x z l.row.toRowW d [] (λf vs=>PySem.call f vs):=by
 intro w s₀ b mg p G Y fa o m cd g K kV H N v C u E B y O i A F s J;obtain rfl:K=.none:=Dflts.none C t;obtain rfl:kV=.none:=Dflts.noKw C;obtain⟨a,vs,k,rfl,rfl,h,e,j⟩:=xAod hn i s;refine enter_call (codeAny_mono (call w s₀ b mg p fa o m cd g a vs k G Y H (fd_plain N) v u h e j E) λr s' I=>?_);obtain⟨rfl,h2,D,M⟩:=I;exact⟨.inl ⟨.bool true,.bool true,[],rfl,λ_=>rfl,.bool true,xAoe l _,λ_=>⟨List.Pairwise.nil,λ_ L=>(nomatch L)⟩⟩,h2,D,M⟩
end Att
namespace L2
open PySem PySem.Spec PyProof.Rows
def xAhl:∀{vs:List Value} {a:List Int},IntsAre vs a->Vals (a.map V.int) vs
 |_,_,.nil=>.nil
 |_,_,.cons n t h=>.cons ⟨t,Y⟩ (xAhl h)
def defArgs(s:Stmt):Arguments:=match s with
 |.FunctionDef _ a _ _ _ _ _ _ _ _=>a
 |_=>{ posonlyargs:=[],args:=[],vararg:=none,kwonlyargs:=[],kw_defaults:=[],kwarg:=none,defaults:=[] }
def defBody(s:Stmt):List Stmt:=match s with
 |.FunctionDef _ _ b _ _ _ _ _ _ _=>b
 |_=>[]
def defScope(s:Stmt):Scope:=match s with
 |.FunctionDef _ _ _ _ _ _ sc _ _ _=>sc
 |_=>{ kind:=.function,names:=[],isGenerator:=false,isCoroutine:=false }
abbrev CX0:CXT:=λ_ _ _ _ _ _=>False
abbrev E0:XK:=λ_ _ _=>False
def pass0:Passes CX0 X E0:=λ_ _ _ _ _ _ _ h=>h.elim
structure Fun(K:PySem.W.Frag)(x qual:Str)(st:Stmt)(f:Addr)(fd:FuncData):Prop where
 ex:∃(oc:Value) (od:Option Addr) (kV doc pm:Value) (an:Option Addr) (cdv ct:Value) (osl:Array (Option Value)),
  fd=PySem.W.fnOf x qual (defArgs st) (defBody st) (defScope st) .none kV doc pm an cdv ct/\K.lookup f=some ⟨oc,od,.func fd,osl⟩/\PySem.W.codeIn K cdv qual=true
 kp:PySem.W.keepIn K (.ref f)=true
section
variable {P:Program}{w:World}{K:PySem.W.Frag}{mg:Str->Option Value}{base:Heap}
def Fun.ok{x qual:Str}{st:Stmt}{f:Addr}{fd:FuncData}{N ps:List Str}{k:Nat}{sp:Sp}(F:Fun K x qual st f fd)(S:FnScope N ps (defScope st))(len:∀vs H Q E,sp vs H Q E->vs.length=ps.length)(b:∀(a:Value) (A:Around) (outer:List Env) (s:Shared) (H:Hp) (vs:List V) (Q:VK) (E:XK),Room k (A.deeper (envOfC qual (defScope st) s.heap.objs.size f a))->sp vs H Q E →
   ∃t,PSs (cxOf CX0 P w K mg base N qual (defScope st) f a A outer s H E).nox (defBody st) t/\t { nx:=λ_ H'=>Q .non H',rt:=Q } (start N vs) H):FnOk P w K mg base CX0 (k+1) f fd ps sp:=by
 obtain⟨m,od,kV,g,l,o,a,n,e,rfl,i,d⟩:=F.ex;refine fn_of i d S len λA outer s H vs Q E j c=>?_;obtain⟨t,h,q⟩:=b a A outer s H vs Q E j c;exact⟨t,h.nox,q⟩
def Fun.binds{x qual:Str}{st:Stmt}{f:Addr}{fd:FuncData}{ps:List Str}(F:Fun K x qual st f fd)(h:∀(kV a c:Value) (e:Option Addr) (b d:Value) (us:List Value),us.length=ps.length->bindArgs (PySem.W.fnOf x qual (defArgs st) (defBody st) (defScope st) .none kV a c e b d) ⟨us,[]⟩=pure (ps.zip us)):Binds K fd ps []:=by
 obtain⟨k,od,kV,a,c,e,b,d,g,rfl,j,i⟩:=F.ex;exact .all (h kV a c e b d)
def xAsf{x qual:Str}{st:Stmt}{f:Addr}{i:Value}{od h:Option Addr}{d:Array (Option Value)}{kV b e a g:Value}(l:K.lookup f=some ⟨i,od,.func (PySem.W.fnOf x qual (defArgs st) (defBody st) (defScope st) .none kV b e h a g),d⟩)(c:PySem.W.codeIn K a qual=true)(k:PySem.W.keepIn K (.ref f)=true):Fun K x qual st f (PySem.W.fnOf x qual (defArgs st) (defBody st) (defScope st) .none kV b e h a g):=⟨⟨i,od,kV,b,e,h,a,g,d,Y,l,c⟩,k⟩
end
def hu_of{k:Nat}(a:Room k A):A.units+1<cLine:=z9 (Nat.add_le_add_left (by decide:1≤64) _) a.units
def xAag(h:n≤1000):n<sizeLine:=z9 h (by decide)
section
variable {X:Cx}
def pv(i:Nat)(c:X.N[i]?=some x:=by rfl)(b:Vis X.env.scope x:=by first|exact Or.inl rfl|exact Or.inr (Or.inl rfl)|exact Or.inr (Or.inr rfl))(d:(x==("__debug__":Str))=false:=by decide)(a:(x==("__classdict__":Str))=false:=by decide):PE X (.Name x pos) (tVar i):=pe_var c b d a
end
def iteF{A B:Prop}(h:B):if false=true then A else B:=by
 rw[qs qr];exact h
def iteT{A B:Prop}(h:A):if true=true then A else B:=by
 rw[qt rfl];exact h
def ite2{c A B:Prop}[Decidable c](h1:c->A)(h2:¬c->B):if c then A else B:=by
 by_cases h:c
 ·rw[qt h]
  exact h1 h
 ·rw[qs h]
  exact h2 h
def Same(H H':Hp):Prop:=∀b o,H b=some o->H' b=some o
def Same.refl(H:Hp):Same H H:=λ_ _ h=>h
def Same.trans(a:Same H H1)(b:Same H1 H2):Same H H2:=λc o h=>b c o (a c o h)
def Same.free(e:Same H H')(h:H' l=Option.none):H l=Option.none:=by
 cases q:H l with
 |none=>rfl
 |some o =>
  rw[e l o q]at h;cases h
def Same.seq(e:Same H H')(h:SqL H a xs):SqL H' a xs:=by
 rcases h with h|⟨o,h⟩
 ·exact .inl (e _ _ h)
 ·exact .inr ⟨o,e _ _ h⟩
section
variable {κ:Type}[DecidableEq κ]
def xAhm:∀{l:List κ} {k:κ},l.Nodup->¬k∈l->(l++[k]).Nodup
 |[],k,_,_=>by simp
 |a::r,k,h,hk=>by
  obtain⟨h1,h2⟩:=zu.mp h;show(a::(r++[k])).Nodup;refine zu.mpr ⟨λm=>?_,xAhm h2 λm=>hk (za.mpr (Or.inr m))⟩;rcases zb.mp m with q|q
  ·exact h1 q
  ·exact hk (za.mpr (Or.inl (qu.mp q).symm))
end
section
variable {prog:Program}{w:World}{A:Around}{R:Result->Shared->Prop}{s:Shared}
def xAof{ce:Env}(J:Nat->Shared->Prop)(g:∀n s,J n s->wpAny (model prog w) A (pyNext it) (λr j=>match r with
   |none=>R (.ok .next) j
   |some v=>wpAny (model prog w) A (letOwnedTupleGo tg it v) (λ_ k=>wpAny (model prog w) A (assign tg ce v) (λ_ l =>
     wpAny (model prog w) A (forIn e true λc r=>if r=true then do let ok ←isTrue c ce (eval c ce);pure (ForInStep.yield ok) else pure (ForInStep.yield r)) (λok i =>
      if ok=true then
       wpAny (model prog w) A (eval b ce) (λx p=>wpAny (model prog w) A (call (.builtin "list.append") [d,x]) (λ_ t=>∃m,m<n/\J m t) (λ_ _=>False) p) (λ_ _=>False) i
      else ∃m,m<n/\J m i) (λ_ _=>False) l) (λ_ _=>False) k) (λ_ _=>False) j) (λ_ _=>False) s)(n:Nat)(h:J n s):codeAny (model prog w) A (.compLoop (.ListComp b [⟨tg,a,e,0⟩] o pos) 0 it d ce) R s:=by
 refine codeAny_loop rfl J (λn s z=>?_) n h;show wpAny _ A ((compTurn (.ListComp b [⟨tg,a,e,0⟩] o pos) 0 it d ce).onRaise (λx=>do noteFrame x ce;theTreesLotGoes x)) _ _ s;refine wpAny_noted ?_;rw[compTurn_list];refine qa (wpAny_standAt (qa (qE (g n s z) (λr j h1=>?_) λ_ _ f=>f.elim)))
 cases r with
 |none=>exact qb h1
 |some v =>
  refine qa (qE h1 (λ_ k h2=>?_) λ_ _ f=>f.elim);refine qa (qE h2 (λ_ l B=>?_) λ_ _ f=>f.elim);refine qa (qE B (λok i q=>?_) λ_ _ f=>f.elim)
  cases ok with
  |false=>exact qb ⟨Y,q⟩
  |true =>
   refine qa (qa (qE q (λx p y=>?_) λ_ _ f=>f.elim));exact qa (qE y (λ_ t u=>qb (qb ⟨Y,u⟩)) λ_ _ f=>f.elim)
end
def compCx(X:Cx)(N:List Str)(a:Scope)(cl:List (Str×Addr))(s:Shared)(H:Hp)(b:List Addr):Cx where
 prog:=X.prog
 w:=X.w
 K:=X.K
 mg:=X.mg
 base:=X.base
 A:=X.A
 N:=N
 s₀:=s
 H₀:=H
 env:=compEnvC a cl (s.heap.objs.size+1) X.env
 outer:=X.stack
 stack:=X.stack
 ex:=b
 fn:=λ_=>false
 calm:=X.calm
 pn:=[]
 xe:=λ_ _=>False
def compSt(own:List Str)(fr:List (Str×Nat))(σ:St):St:=own.map (λ_=>none)++fr.map λp=>(σ[p.2]?).join
def KeepS(σ σ':St):Prop:=σ.length=σ'.length/\∀(i:Nat) v,σ[i]?=some (some v)->σ'[i]?=some (some v)
def Fresh(g:TG)(σ:St):Prop:=∀x H (Q:St->Hp->Prop),g x σ H Q->g x σ H λσ' H'=>KeepS σ σ'/\Q σ' H'
def KeepS.set(h:σ[i]?=some none)(v:V):KeepS σ (σ.set i (some v)):=by
 refine⟨by simp,λj u e=>?_⟩
 by_cases a:i=j
 ·subst a;rw[h]at e;cases e
 ·rw[vf a];exact e
def xAdb(h:σ[i]?=some none):Fresh (gName i) σ:=λx H Q q=>⟨KeepS.set h x,q⟩
def xAdc(hi:σ[i]?=some none)(o:σ[j]?=some none)(b:i≠j):Fresh (gTup n (gCons (gName i) (gCons (gName j) gNil))) σ:=by
 intro x H Q q;obtain⟨a,xs,g,d,m,v,r,l,w,c,f,h,q⟩:=q;refine⟨a,xs,g,d,m,v,r,l,w,c,f,h,?_,q⟩;have h1:=KeepS.set hi v;have h2:=KeepS.set (σ:=σ.set i (some v)) (i:=j) (by rw[vf b];exact o) w;exact⟨h1.1.trans h2.1,λk u e=>h2.2 k u (h1.2 k u e)⟩
def PTs0(X:Cx)(a:List Expr)(t:TT):Prop :=
 ∀(pins:List (Addr×Obj)) (s:Shared) (σ:St) (H:Hp) (Q:Bool->Hp->Prop),Inv X pins σ H s->t σ H Q →
  wpAny (model X.prog X.w) X.A (forIn a true λc r=>if r=true then do let ok ←isTrue c X.env (eval c X.env);pure (ForInStep.yield ok) else pure (ForInStep.yield r)) (TP X pins σ Q) X.xe s
structure PTs(X:Cx)(ifs:List Expr)(t:TT):Prop where run:PTs0 X ifs t
instance PTsCf{X:Cx}{a:List Expr}{t:TT}:CoeFun (PTs X a t) λ_=>PTs0 X a t:=⟨PTs.run⟩
def xAbr:PTs X [] (λ_ H Q=>Q true H):=⟨λ_ _ _ H _ I h=>wpAny_tests_nil ⟨H,I,h⟩⟩
def xAqm{t:TT}(h:PT X c t):PTs X [c] t:=⟨λpins s σ H Q I q=>wpAny_tests_one (h pins s σ H Q I q)⟩
def LCb(own:List Str)(fr:List (Str×Nat))(g:TG)(f:TT)(te:TE)(σ:St)(Q:VK)(J:It)(H1:Hp):Prop:=∃W:Nat->Nat->List V->Hp->Prop,(∃m,W 0 m [] H1)/\∀i m ys H,W i m ys H →
 (J.stop i H/\∀p,H p=none->Q (.ref p) (upd H p (.lst ys)))\/(J.go i H/\ys.length<sizeLine/\∀x H',J.yld i H x H'->g x (compSt own fr σ) H' λa H2=>f a H2 λb d =>
  if b=true then te a d λy e=>∃c,c<m/\W (i+1) c (ys++[y]) e else ∃c,c<m/\W (i+1) c ys d)
def tLC(own:List Str)(fr:List (Str×Nat))(a:TI)(g:TG)(b:TT)(te:TE):TE:=λσ H Q=>a σ H λJ H1=>LCb own fr g b te σ Q J H1
abbrev accObj(us:List Value):Obj:={ cls:=.type "list",data:=.seq us.toArray us.length }
def xAsg(us:List Value)(u:Value):({ cls:=.type "list",data:=.seq (us.toArray.push u) (us.length+1) }:Obj)=accObj (us++[u]):=by
 unfold accObj;rw[qm,zk,List.push_toArray]
structure Caps(X:Cx)(sc:Scope)(cl:List (Str×Addr))(fr:List (Str×Nat)):Prop where
 clos:closureFor sc X.env=pure cl
 sub:∀x c,cl.lookup x=some c->X.env.cells.lookup x=some c
 has:∀x,((relabel sc X.env).names.lookup x=some .cell\/(relabel sc X.env).names.lookup x=some .free)->∃c,cl.lookup x=some c
 cap:∀p∈fr,X.N[p.2]?=some p.1/\X.env.kindOf p.1≠some .local/\Vis X.env.scope p.1/\((relabel sc X.env).names.lookup p.1=some .cell\/(relabel sc X.env).names.lookup p.1=some .free)
structure CompSc(sc:Scope):Prop where
 kind:sc.kind=.function
 cell:∀y∈sc.names,y.2≠.cell
 nms:∀y∈sc.names,y.2=.local->sc.names.lookup y.1=some .local
section
variable {X:Cx}
def Inv.stkNot{pins:List (Addr×Obj)}{σ:St}{H:Hp}{s:Shared}(I:Inv X pins σ H s){b:Addr}(h1:b≠X.env.locals)(h2:b∉X.fs):b∉frs X.stack:=λz=>by
 rcases za.mp (I.stkSub b z) with e|e
 ·exact h1 e
 ·exact h2 e
def xAkd{own:List Str}{fr:List (Str×Nat)}{σ:St}{N:List Str}(c:N=own++fr.map (·.1)){i:Nat}{x:Str}{v:V}(h1:N[i]?=some x)(h2:(compSt own fr σ)[i]?=some (some v)) :
  ∃p∈fr,p.1=x/\σ[p.2]?=some (some v):=by
 unfold compSt at h2;subst c
 by_cases hi:i<own.length
 ·rw[List.getElem?_append_left (by simpa using hi),List.getElem?_map]at h2
  rw[qf hi]at h2;cases h2
 ·rw[List.getElem?_append_right (by simpa using hi),List.length_map,List.getElem?_map]at h2
  rw[List.getElem?_append_right (by simpa using hi),List.getElem?_map]at h1
  cases e:fr[i - own.length]? with
  |none=>rw[e]at h1;cases h1
  |some p =>
   rw[e]at h1 h2;refine⟨p,qo e,qC h1,?_⟩;have a:(σ[p.2]?).join=some v:=qC h2
   cases b:σ[p.2]? with
   |none=>rw[b]at a;cases a
   |some o=>rw[b]at a;rw[show o=some v from a]
def Inv.block{pins:List (Addr×Obj)}{σ:St}{H:Hp}{s:Shared}{own:List Str}{fr:List (Str×Nat)}{A:Scope}{cl:List (Str×Addr)}{q:List Addr}{h1:Heap}{m:Str->Option Value}{tk:Nat}(I:Inv X pins σ H s)(hf:∀b∈q,FpOk X pins H b)(D:∀b∈q,b<s.heap.objs.size)(S:CompSc A)(C:Caps X A cl fr)(d:∀b o,s.heap.get? b=some o->h1.get? b=some o)(hn:h1.Ns (s.heap.objs.size+1) m)(R:h1.get? s.heap.objs.size=some (accObj [])) :
  Inv (compCx X (own++fr.map (·.1)) A cl s H q) [(s.heap.objs.size,accObj [])] (compSt own fr σ) H { s with heap:=h1,toks:=tk }:=by
 have h:∀x c,cl.lookup x=some c->c<s.heap.objs.size:=λx c e=>by
  obtain⟨v,z⟩:=I.cell x c (C.sub x c e);exact z.lt
 have a:s.heap.objs.size≤s.heap.objs.size+1:=we _
 refine⟨⟨I.ok.mod,S.kind,I.ok.glob,I.ok.blt,a,λx y c j t=>I.ok.inj x y c (C.sub x c j) (C.sub y c t),λx J=>C.has x J,λ_ _ z=>(by cases z),I.ok.hd,I.ok.frames,.inl rfl,λb f=>⟨?_,λx c e z=>?_⟩,
  I.bs,qh I.ok.bsz I.sz,λb o e f=>?_,λb f z=>?_,I.stack,I.stkFree⟩,Y,I.bare,Un.kept d,⟨m,hn,λi x v j t U=>?_⟩,λx c e=>?_,I.hok.fresh a,λx c e=>I.freeC x c (C.sub x c e),λp F=>?_,I.hok.kept d,?_⟩
 ·exact qg (zq (D b f))
 ·exact(hf b f).2.2.2.2.1 x c (C.sub x c e) z
 ·rcases(hf b f).2.2.2.1 with z|z
  ·exact I.ok.noex b o e z
  ·exact absurd (qv (q0 e) (qh I.ok.bsz z)) (zr _)
 ·exact I.stkNot (hf b f).2.1 (hf b f).2.2.1 z
 ·obtain⟨p,F,rfl,Q⟩:=xAkd rfl j t
  obtain⟨c1,c2,O,G⟩:=C.cap p F;obtain⟨T,K,N⟩:=I.loc;obtain⟨u,r,l⟩:=N p.2 p.1 v c1 Q O;refine⟨u,r,.inr ⟨G,?_⟩⟩;rcases l with⟨k,_⟩|⟨_,c,L,w,E,B⟩
  ·exact absurd k c2
  ·obtain⟨M,g⟩:=C.has p.1 G
   have:=C.sub p.1 M g;rw[L]at this;cases this;exact⟨c,g,w,d _ _ E,B⟩
 ·obtain⟨v,o,w,P⟩:=I.cell x c (C.sub x c e)
  exact⟨v,o,d _ _ w,P⟩
 ·have n:p=(s.heap.objs.size,accObj []):=by simpa[compCx] using F
  subst n;refine⟨R,I.hok.fresh (qd _),?_,?_,λv z=>by cases z⟩
  ·exact qg (zw _)
  ·exact I.stkNot (zg I.lt) (I.nofs (qd _))
 ·show(compSt own fr σ).length=(own++fr.map (·.1)).length
  unfold compSt;rw[qm,qm,qc,qc,qc]
def HOk.track(x:HOk P w H h)(hn:H a=none)(new:ObjOk P w (upd H a o) h a o):HOk P w (upd H a o) h:=λb u e=>by
 by_cases d:b=a
 ·subst d;rw[xAac]at e;cases e;exact new
 ·rw[xAaf d]at e
  exact(x b u e).stay (λc v _ q=>q) (λc q=>by rw[xAaf (xAai q hn)];exact q) λc xs q=>by rw[xAaf (xAai q hn)];exact q
def Inv.unblock{pins:List (Addr×Obj)}{σ:St}{H k:Hp}{s f:Shared}{N:List Str}{x:St}{D:Scope}{cl:List (Str×Addr)}{r:List Addr}{h':Heap}{ys:List V}{us:List Value}(I:Inv X pins σ H s)(hf:∀b∈r,FpOk X pins H b)(l:Inv (compCx X N D cl s H r) [(s.heap.objs.size,accObj us)] x k f)(B:Vals ys us)(hz:ys.length≤sizeLine)(hs:Heap.SameBut (s.heap.objs.size+1) f.heap h'):Inv X pins σ (upd k s.heap.objs.size (.lst ys)) { f with heap:=h' }:=by
 obtain⟨t,j,neD,_,_⟩:=l.pin (s.heap.objs.size,accObj us) (List.mem_append_right _ (by simp));have t:f.heap.get? s.heap.objs.size=some (accObj us):=t;have j:k s.heap.objs.size=none:=j;have d:Un (frs X.stack) r H k s.heap f.heap:=l.base;have y:k (s.heap.objs.size+1)=none:=l.free;have a:∀b o,s.heap.get? b=some o->b≠s.heap.objs.size+1:=λb o e=>qg (zq (q0 e));have m:∀b o,s.heap.get? b=some o->b≠s.heap.objs.size:=λb o e=>qg (q0 e);have h:∀b o,b≠s.heap.objs.size+1->f.heap.get? b=some o->h'.get? b=some o:=λb o g e=>hs.extBut b o g e
 refine I.call' (s':={ f with heap:=h' }) (ch:=r) l.os ⟨λb o e n h1 h2=>h b o (a b o e) (d.keep b o e n h1 h2),λb o e n h1 h2=>?_,λb o e n h2=>?_,λb o e h2=>?_,
  λb xs e=>?_,λb o u e=>?_,λb ps e=>?_,λb o xs e n=>h b o (a b o e) (d.tupo b o xs e n)⟩ ?_ l.bare λb g=>⟨(hf b g).2.2.2.1,(hf b g).2.1,(hf b g).2.2.2.2.1,(hf b g).2.2.2.2.2⟩
 ·obtain⟨C,q⟩:=d.slot b o e n h1 h2
  exact⟨C,h b _ (a b o e) q⟩
 ·rw[xAaf (m b o e)];exact d.free b o e n h2
 ·obtain⟨o',q⟩:=d.there b o e h2
  exact⟨o',h b _ (a b o e) q⟩
 ·have q:=d.tups b xs e
  rw[xAaf (xAai q j)];exact q
 ·have q:=d.frzs b o u e
  rw[xAaf (xAai q j)];exact q
 ·obtain⟨p,q⟩:=d.tbls b ps e
  exact⟨p,by rw[xAaf (xAai q j)];exact q⟩
 ·have A:HOk X.prog X.w k h':=λb u e=>(l.hok b u e).stay (λc v i q=>h c v (λz=>by
   subst z;rcases i with i|i
   ·subst i;rw[y]at e;cases e
   ·rw[y]at i;cases i) q) (λ_ q=>q) λ_ _ q=>q
  refine A.track j ⟨hz,us,us.length,B,h _ _ (qg (zw _)) t⟩
def xAhn{V tg L:Expr}{Y:List Expr}{k:Scope}{pos:Pos}{own:List Str}{fr:List (Str×Nat)}{cl:List (Str×Addr)}{g:TG}{tt:TT}{te:TE}{RR:Value->Addr->Result->Shared->Prop}{E:Value->Shared->Prop}{pins:List (Addr×Obj)}{σ:St}{H2:Hp}{a:Shared}{Q:VK}{it:Addr}{f:List Addr}{tn:Nat->Heap->Prop}{J:It}(hc:X.calm=true)(S:CompSc k)(C:Caps X k cl fr)(hg:∀s H f,PG (compCx X (own++fr.map (·.1)) k cl s H f) tg g)(hfr:∀σ,Fresh g (compSt own fr σ))(ht:∀s H f,PTs (compCx X (own++fr.map (·.1)) k cl s H f) Y tt)(he:∀s H f,PE (compCx X (own++fr.map (·.1)) k cl s H f) V te)(I2:Inv X pins σ H2 a)(T:Turn X.prog X.w X.K tg J f it tn)(U:tn 0 a.heap)(f2:∀b∈f,FpOk X pins H2 b)(hW:LCb own fr g tt te σ Q J H2)(hRR:∀s5 M ys us,Inv (compCx X (own++fr.map (·.1)) k cl a H2 f) [(a.heap.objs.size,accObj us)] (compSt own fr σ) M s5->Vals ys us->ys.length≤sizeLine->(∀p,M p=none->Q (.ref p) (upd M p (.lst ys))) →
   RR (.ref a.heap.objs.size) (a.heap.objs.size+1) (.ok .next) s5) :
  wpAny (model X.prog X.w) X.A (newList []) (λacc s3=>wpAny (model X.prog X.w) X.A (newFunctionEnv k X.env.globals cl [] X.env.qual none .none (some X.env)) (λce s4 =>
   codeAny (model X.prog X.w) X.A (.compStart (.ListComp V [⟨tg,L,Y,0⟩] k pos) 0 (.ref it) acc { ce with scope:=relabel k X.env }) (RR acc ce.locals) s4) E s3) E a:=by
 obtain⟨W,⟨m0,w0⟩,turn⟩:=hW
 have F:∀b∈f,b<a.heap.objs.size:=λb j=>by
  obtain⟨o,e,_⟩:=T.obj _ _ U b j;exact q0 e
 refine wpAny_newObj_type (wpAny_newFunctionEnv S.cell (by intro y hy;simp at hy) (λB h d=>?_) S.kind);dsimp only at h d ⊢;generalize O:a.heap.push { cls:=.type "list",dict:=none,data:=.seq ([]:List Value).toArray }=G at h d ⊢
 have hC:G.objs.size=a.heap.objs.size+1:=by rw[←O,Heap.size_push]
 rw[hC]at h d ⊢
 have R:∀b o,a.heap.get? b=some o->B.get? b=some o:=λb o e=>by
  exact d.extBut b o (qg (zq (q0 e))) (qA _ (O▸qA _ e))
 have hacc:B.get? a.heap.objs.size=some (accObj []):=d.extBut _ _ (qg (zw _)) (qA _ (O▸qB _ rfl));have I3:=I2.block (own:=own) (tk:=a.toks+([]:List (Str×Value)).length) f2 F S C R h hacc
 have t:∀{H':Hp} {us:List Value},(∀b∈f,H' b=none)->∀b∈f,FpOk (compCx X (own++fr.map (·.1)) k cl a H2 f) [(a.heap.objs.size,accObj us)] H' b:=λ{H' us} hn b j=>by
  obtain⟨_,g1,g2,g3,g4,g5⟩:=f2 b j;have hbl:=F b j;refine⟨hn b j,?_,I2.stkNot g1 g2,.inl j,λx c e=>g4 x c (C.sub x c e),λp P=>?_⟩
  ·exact qg (zq hbl)
  ·have l:p=(a.heap.objs.size,accObj us):=by simpa[compCx] using P
   subst l;exact zg hbl
 have N:∀s3:Shared,s3={ a with heap:=B,toks:=a.toks+([]:List (Str×Value)).length } →
   codeAny (model X.prog X.w) X.A (.compLoop (.ListComp V [⟨tg,L,Y,0⟩] k pos) 0 (.ref it) (.ref a.heap.objs.size) (compEnvC k cl (a.heap.objs.size+1) X.env))
    (RR (.ref a.heap.objs.size) (a.heap.objs.size+1)) s3:=by
  rintro s3 rfl
  refine xAof (λn s'=>∃i ys us H',Vals ys us/\Inv (compCx X (own++fr.map (·.1)) k cl a H2 f) [(a.heap.objs.size,accObj us)] (compSt own fr σ) H' s'/\tn i s'.heap/\(∀b∈f,H' b=none)/\ys.length≤sizeLine/\W i n ys H') ?_ m0
   ⟨0,[],[],H2,.nil,I3,T.keep _ _ _ U λb _ o e=>R b o e,λb j=>(f2 b j).1,qk _,w0⟩
  rintro n s4 ⟨i,ys,us,M,hv,I4,st4,fr4,hz,w4⟩;rcases turn i n ys M w4 with⟨stop,fin⟩|⟨go,hlt,step⟩
  ·refine thn (T.done (compCx X (own++fr.map (·.1)) k cl a H2 f) rfl rfl rfl hc i _ s4 _ M _ I4 (t fr4) st4 stop) λr s5 ⟨hr,I5⟩=>?_
   subst hr;exact hRR s5 M ys us I5 hv hz fin
  ·refine thn (T.item (compCx X (own++fr.map (·.1)) k cl a H2 f) rfl rfl rfl hc i _ s4 _ M _ I4 (t fr4) st4 go) λr s5 ⟨u,hr,h5⟩=>?_
   subst hr;refine thn h5 λ_ s6 ⟨x,H6,I6,r6,y6,I,fr6⟩=>?_;have I6':=I6.pinned (t fr6) (T.obj _ _ I);refine thn (hg a H2 f _ s6 _ H6 x u _ I6' r6 (hfr σ x H6 _ (step x H6 y6))) λ_ s7 ⟨m,H7,I7,k7,q7⟩=>?_;refine thn (ht a H2 f _ s7 m H7 _ I7 q7) λok s8 ⟨H8,I8,q8⟩=>?_
   have D:∀{pins':List (Addr×Obj)} {σ':St} {H':Hp} {s':Shared},Inv (compCx X (own++fr.map (·.1)) k cl a H2 f) ([(a.heap.objs.size,accObj us)]++pinsAt f s6.heap) σ' H' s'->∀b∈f,(∀o,s6.heap.get? b=some o->s'.heap.get? b=some o)/\H' b=none:=λ{pins' σ' H' s'} I' b j=>by
    obtain⟨o,e,_⟩:=T.obj _ _ I b j;have z:=I'.pin (b,o) (z8 _ (z8 _ (xAcy j e)));exact⟨λo' e'=>by rw[e]at e';cases e';exact z.1,z.2.1⟩
   cases ok with
   |false =>
    rw[qs qr]at q8;obtain⟨m',hm,w8⟩:=q8;rw[qs qr];exact⟨m',hm,i+1,ys,us,H8,hv,(I8.unpinned).weak k7.1 k7.2,T.keep _ _ _ I λb j o e=>(D (pins':=[]) I8 b j).1 o e,λb j=>(D (pins':=[]) I8 b j).2,hz,w8⟩
   |true =>
    rw[qt rfl]at q8;rw[qt rfl];refine thn (he a H2 f _ s8 m H8 _ I8 q8) λy Z ⟨v,H9,I9,r9,m',hm,w9⟩=>?_;have pD:=I9.pin (a.heap.objs.size,accObj us) (List.mem_append_right _ (List.mem_append_left _ (by simp)));have zD:Z.heap.get? a.heap.objs.size=some (accObj us):=pD.1;have nD:H9 a.heap.objs.size=none:=pD.2.1;refine append_at (hsz:=by show us.toArray.size≤sizeLine;rw[qz,←hv.length];exact hz) zD λh5 hs5 hD5=>?_;have Ia:Inv (compCx X (own++fr.map (·.1)) k cl a H2 f) (pinsAt f s6.heap) m H9 Z:=I9.pins_of λp P=>I9.pin p (z8 _ (z8 _ P));have neD:a.heap.objs.size≠a.heap.objs.size+1:=qg (zw _)
    have Ib:Inv (compCx X (own++fr.map (·.1)) k cl a H2 f) (pinsAt f s6.heap) m H9 { Z with heap:=h5,toks:=Z.toks }:=Ia.turned (it:=a.heap.objs.size) (λb o j e=>hs5.extBut b o j e) nD neD (.inr (qd _)) (λx c e z=>by
      obtain⟨v',q⟩:=I2.cell x c (C.sub x c e);have q':=q.lt;rw[z]at q'
      exact zr _ q') λp P z=>by
      have l:p∈pinsAt f s6.heap:=by simpa[compCx] using P
      have q':=F p.1 (xAhd l).1;rw[z]at q';exact zr _ q'
    have Ic:Inv (compCx X (own++fr.map (·.1)) k cl a H2 f) [(a.heap.objs.size,accObj (us++[y]))] m H9 { Z with heap:=h5,toks:=Z.toks }:=Ib.pins_of λp P=>by
     have l:p=(a.heap.objs.size,accObj (us++[y])):=by simpa using P
     subst l;exact⟨hD5.trans (congrArg some (xAsg us y)),nD,neD,pD.2.2.2.1,λv z=>by cases z⟩
    refine⟨m',hm,i+1,ys++[v],us++[y],H9,hv.append (.cons r9 .nil),Ic.weak k7.1 k7.2,T.keep _ _ _ I λb j o e=>?_,λb j=>(D (pins':=[]) I9 b j).2,?_,w9⟩
    ·exact hs5.extBut b o (qg (F b j)) ((D (pins':=[]) I9 b j).1 o e)
    ·rw[qm];exact hlt
 exact codeAny_compStart_list (N _ rfl) (T.self _ 0 _ _ _ (T.keep _ _ _ U λb _ o e=>R b o e) (N _ rfl))
def xAdd{cl:List (Str×Addr)}{t:TI}{g:TG}(B:X.calm=true)(hi:PI X tg a t)(S:CompSc c)(C:Caps X c cl fr)(v:∀s H b,PG (compCx X (own++fr.map (·.1)) c cl s H b) tg g)(m:∀σ,Fresh g (compSt own fr σ))(F:∀s H b,PTs (compCx X (own++fr.map (·.1)) c cl s H b) f u)(E:∀s H b,PE (compCx X (own++fr.map (·.1)) c cl s H b) d te)(hs:∀x,foldedSetIterable a X.env x=pure x:=by intro _;rfl) :
  PE X (.ListComp d [⟨tg,a,f,0⟩] c pos) (tLC own fr t g u te):=by
 refine⟨?_⟩;intro pins s σ H Q I h;rw[eval_ListComp];refine wpAny_comprehension_free (use:=none) rfl hs C.clos S.kind S.nms (thn (hi pins s σ H _ I h) λO M h1=>thn h1 λy i h2=>?_);obtain⟨it,b,L,J,H2,e,q,T,k,f2,z⟩:=h2;subst e;refine xAhn (RR:=λo A=>compPost (model X.prog X.w) X.A X.xe none (EP X pins σ Q) o A) B S C v m F E q T k f2 z λN r ys us p D hz j=>?_;obtain⟨K,l,_⟩:=id p.loc;have G:r i.heap.objs.size=none:=(p.pin (i.heap.objs.size,accObj us) (List.mem_append_right _ (by simp))).2.1;exact⟨K,l,λh' n=>⟨.ref i.heap.objs.size,upd r i.heap.objs.size (.lst ys),q.unblock f2 p D hz n,Y,j _ G⟩⟩
def xAvh{cl:List (Str×Addr)}{g:TG}(hN:X.N.Nodup)(hy:X.N[i]?=some y)(hx:Loc X.env.scope y)(hc:X.calm=true)(hi:PI X tg d Z)(S:CompSc l)(C:Caps X l cl fr)(hg:∀s H u,PG (compCx X (own++fr.map (·.1)) l cl s H u) tg g)(P:∀σ,Fresh g (compSt own fr σ))(ht:∀s H u,PTs (compCx X (own++fr.map (·.1)) l cl s H u) m tt)(he:∀s H u,PE (compCx X (own++fr.map (·.1)) l cl s H u) n te)(hs:∀x,foldedSetIterable d X.env x=pure x:=by intro _;rfl)(L:swapsWith (.ListComp n [⟨tg,d,m,0⟩] l pos) (some (.Name y B)) r.line X.env=pure true:=by rfl)(hf:X.fn y=true\/X.env.scope.names.lookup y=some .local:=by first|exact .inl rfl|exact .inr rfl|assumption) :
  PS X (.Assign [.Name y B] (.ListComp n [⟨tg,d,m,0⟩] l pos) r) (tAsg (tLC own fr Z g tt te) (gName i)):=by
 refine⟨?_⟩;intro pins s σ H D I h;rw[exec_Assign_Name_used _ _ _ _ L];refine qa (wpAny_standAt (qa ?_));show wpAny _ X.A (do let _ ←comprehension (.ListComp n [⟨tg,d,m,0⟩] l pos) l X.env _ (newList []) false (eval d X.env) (some (assign (.Name y B) X.env))) _ _ s
 refine qa (thn (wpAny_comprehension_free (use:=some (assign (.Name y B) X.env)) (Q:=λ_ s'=>SP X pins D .next s') rfl hs C.clos S.kind S.nms
  (thn (hi pins s σ H _ I h) λxv s1 h1=>thn h1 λitv j h2=>?_)) λ_ s' hq=>qb (qb hq))
 obtain⟨it,u,tn,J,H2,e,t,T,M,f2,hW⟩:=h2;subst e;refine xAhn (RR:=λY A=>compPost (model X.prog X.w) X.A X.xe (some (assign (.Name y B) X.env)) (λ_ s'=>SP X pins D .next s') Y A) hc S C hg P ht he t T M f2 hW λs5 G ys us F hv hz K=>?_;obtain⟨m5,O,_⟩:=id F.loc;have nD:G j.heap.objs.size=none:=(F.pin (j.heap.objs.size,accObj us) (List.mem_append_right _ (by simp))).2.1;have nC:G (j.heap.objs.size+1)=none:=F.free;have I6:Inv X pins σ (upd G j.heap.objs.size (.lst ys)) s5:=t.unblock f2 F hv hz (Heap.SameBut.refl _ _);show wpAny _ X.A (assign (.Name y B) X.env (.ref j.heap.objs.size)) _ _ s5;refine wpAny_assign_Name (xAhc (v:=.ref j.heap.objs.size) I6 hN hy hx rfl (λs7 I7 ⟨a,V,U⟩=>?_) hf);have k:j.heap.objs.size<j.heap.objs.size+1:=zw _;have E:j.heap.objs.size+1≠X.env.locals:=zg (wk t.lt k)
 have f:∀x c,X.env.cells.lookup x=some c->c≠j.heap.objs.size+1:=λx c e=>by
  obtain⟨v',q⟩:=t.cell x c e;exact qg (wk q.lt k)
 have R:j.heap.objs.size+1≠a:=by
  rcases U with rfl|U
  ·exact E
  ·exact Ne.symm (f _ _ U)
 refine⟨m5,O.sameBut V R,λh' W=>⟨_,_,?_,K _ nD⟩⟩
 exact I7.turned (it:=j.heap.objs.size+1) (t':=s7.toks) (λb o hb e=>W.extBut b o hb e) (by rw[xAaf (zg k)];exact nC) E (.inr (qh t.sz (ze k))) f λp hp z=>by
  have q:=q0 (t.pin p hp).1;rw[z]at q;exact absurd (wk k q) (zr _)
end
def Its(z:Str):It:=⟨λi _=>i<z.cps.size,λi H x H'=>H'=H/\∃c,z.cps[i]?=some c/\x=.str ⟨#[c]⟩,λi _=>z.cps.size≤i⟩
def xAdz{h:Heap}{it:Addr}{ty:String}{z:Str}{t:Tok}{i:Nat}(st:h.IsStrIter it ty z t i):∀b∈[it],∃o,h.get? b=some o/\∀v,o.data≠.cell v:=λb a=>by
 have e:b=it:=by simpa using a
 subst e;obtain⟨o,e,c,d⟩:=st;exact⟨o,e,λv z=>by rw[d]at z;cases z⟩
def xAog{P:Program}{w:World}{K:PySem.W.Frag}{tg:Expr}(z:Str)(t:Tok)(it:Addr):Turn P w K tg (Its z) [it] it (λi h=>h.IsStrIter it "str_ascii_iterator" z t i) where
 mem:=by simp
 obj:=λi h st=>xAdz st
 keep:=λi h h' st k=>let⟨o,x,r⟩:=st;⟨o,k it (by simp) o x,r⟩
 item:=by
  intro X n hw l u i pins s σ H E I hf st a;subst n hw l;obtain⟨q,f1,f2,m,j,p⟩:=hf it (by simp);have a:i<z.cps.size:=a;refine wpAny_pyNext_ascii_item st (c:=z.cps[i]) (by simp[a]) λh' f y=>?_;have A:Inv X pins σ H { s with heap:=h',toks:=s.toks+1 }:=I.turned (λb o g e=>(y.2 b g).trans e) q f1 m j p;obtain⟨o,e,c,d⟩:=id f;exact⟨_,Y,go_of (s:={ s with heap:=h',toks:=s.toks+1 }) e c d (by decide) ⟨.str ⟨#[z.cps[i]]⟩,H,A,⟨_,Y⟩,⟨Y,_,by simp[a],Y⟩,f,λb g=>(hf b g).1⟩⟩
 done:=by
  intro X n hw l u i pins s σ H E I hf st a;subst n hw l;obtain⟨q,f1,f2,m,j,p⟩:=hf it (by simp);have a:z.cps.size≤i:=a;exact wpAny_pyNext_ascii_end (I.ok.hd u) st (by simp[a]) λh' v=>⟨Y,I.turned (t':=s.toks) (λb o g e=>v b o g e) q f1 m j p⟩
 self:=λ_ _ _ _ _ st h=>wpAny_pyIter_striter_ascii st h
def xAoh{P:Program}{w:World}{K:PySem.W.Frag}{tg:Expr}(z:Str)(t:Tok)(it:Addr):Turn P w K tg (Its z) [it] it (λi h=>h.IsStrIter it "str_iterator" z t i) where
 mem:=by simp
 obj:=λi h st=>xAdz st
 keep:=λi h h' st k=>let⟨o,x,r⟩:=st;⟨o,k it (by simp) o x,r⟩
 item:=by
  intro X n hw l u i pins s σ H E I hf st a;subst n hw l;obtain⟨q,f1,f2,m,j,p⟩:=hf it (by simp);have a:i<z.cps.size:=a;refine wpAny_pyNext_wide_item st (c:=z.cps[i]) (by simp[a]) λh' f y=>?_;have A:Inv X pins σ H { s with heap:=h',toks:=s.toks+1 }:=I.turned (λb o g e=>(y.2 b g).trans e) q f1 m j p;obtain⟨o,e,c,d⟩:=id f;exact⟨_,Y,go_of (s:={ s with heap:=h',toks:=s.toks+1 }) e c d (by decide) ⟨.str ⟨#[z.cps[i]]⟩,H,A,⟨_,Y⟩,⟨Y,_,by simp[a],Y⟩,f,λb g=>(hf b g).1⟩⟩
 done:=by
  intro X n hw l u i pins s σ H E I hf st a;subst n hw l;obtain⟨q,f1,f2,m,j,p⟩:=hf it (by simp);have a:z.cps.size≤i:=a;exact wpAny_pyNext_wide_end (I.ok.hd u) st (by simp[a]) λh' v=>⟨Y,I.turned (t':=s.toks) (λb o g e=>v b o g e) q f1 m j p⟩
 self:=λ_ _ _ _ _ st h=>wpAny_pyIter_striter_wide st h
section
variable {X:Cx}{tg:Expr}
inductive IiStr(R:It->Hp->Prop)(x:V)(H1:Hp):Prop
 |mk (z:_) (h0_:x=.str z) (h1_:R (Its z) H1):IiStr R x H1
def iStr(tl:TE):TI:=λσ H R=>tl σ H λx H1=>IiStr R x H1
def pi_str{tl:TE}(g:PE X l tl):PI X tg l (iStr tl):=by
 refine⟨?_⟩;intro pins s σ H R I h;refine thn (g pins s σ H _ I h) λv a ⟨x,H1,d,i,j⟩=>?_;obtain⟨z,e,q⟩:=j;subst e;obtain⟨t,rfl⟩:=i
 have c:∀b∈[a.heap.objs.size],FpOk X pins H1 b:=λb k=>by
  have e:b=a.heap.objs.size:=by simpa using k
  subst e;exact d.fpOk (qd _) (d.hok.fresh (qd _))
 cases f:z.cps.all (·<128)
 ·exact wpAny_pyIter_wide f ⟨a.heap.objs.size,[a.heap.objs.size],_,_,H1,Y,d.kept (t':=a.toks) λb o e=>qA _ e,xAoh z t _,⟨_,qB _ rfl,Y,Y⟩,c,q⟩
 ·exact wpAny_pyIter_ascii f ⟨a.heap.objs.size,[a.heap.objs.size],_,_,H1,Y,d.kept (t':=a.toks) λb o e=>qA _ e,xAog z t _,⟨_,qB _ rfl,Y,Y⟩,c,q⟩
end
section
variable {X:Cx}
def xAoi(bs:List Bool):((List.range bs.length).all λi=>bs.getD i false)=bs.all id:=by
 rw[vg,wv,wv];constructor
 ·intro h b a
  obtain⟨i,hi,e⟩:=zx.mp a;have q:=h i (zm.mpr hi);rw[qq,qf hi]at q;rw[←e];exact q
 ·intro h i hi
  have hi:=zm.mp hi;rw[qq,qf hi];exact h _ (wn hi)
inductive IRcall_all(xs:List V)(H:Hp)(Q:VK):Prop
 |mk (a:_) (bs:_) (h0_:xs=[.ref a]) (h1_:SqL H a (List.map V.bl bs)) (h2_:Q (.bl (bs.all id)) H):IRcall_all xs H Q
def Rcall_all:List V->Hp->VK->Prop:=λxs H Q=>IRcall_all xs H Q
def xAsh(t:X.calm=true):CallR X (.builtin "all") (Rcall_all):=by
 intro pins s σ H xs us Q I r h;obtain⟨a,bs,rfl,w,q⟩:=h;obtain⟨u,rfl,f⟩:=vals1 r;cases f;obtain⟨c,k,p,hz⟩:=I.list w
 have d:c.length=bs.length:=by rw[←k.length,qc]
 have j:a<s.heap.objs.size:=by obtain⟨_,e,_⟩:=p.isList;exact q0 e
 refine call_all_walk (wpAny_pyIter_list p.isList ?_);refine⟨s.heap.objs.size,_,_,_,_,_,λi=>bs.getD i false,Y,Walks.list (show X.A.in1.handled=none from I.ok.hd t) s.heap.objs.size a (qg j) c.toArray,⟨⟨_,qB _ rfl,Y,Y⟩,p.isList.push _⟩,?_,λh' tk n=>?_⟩
 ·intro i v s' C B g y
  have g:c.toArray[i]?=some v:=g
  have hi:c[i]?=some v:=by simpa using g
  have m:i<bs.length:=by
   have:=(qy.mp hi).1;omega
  obtain⟨u,l,f⟩:=k.get (i:=i) (x:=V.bl bs[i]) (by rw[qi,qf m];rfl);rw[hi]at l;cases l;cases f;refine wpAny_truthy_bool ?_
  have e:bs.getD i false=bs[i]:=by rw[qq,qf m];rfl
  rw[←e];exact y
 ·have e:((List.range c.toArray.size).all λi=>bs.getD i false)=bs.all id:=by rw[qz,d];exact xAoi bs
  rw[e]
  exact⟨.bl (bs.all id),H,I.kept λb o e=>n b o (by
   have:=q0 e;intro z;rw[qu.mp z]at this
   exact absurd this (zr _)) (qA _ e),Y,q⟩
def xAsi:OpR X (binaryOp .FloorDiv) (rI (λ_ j=>0<j/\j.natAbs.log2<9000) λi j=>.int (i / j)):=opI λi j _ _ _ _ _ a q=>by
 have h1:(0:Int)<j:=a.1;exact floordiv_int (by omega) (by rw[Int.fdiv_eq_ediv_of_nonneg i (by omega)];exact q) (.inl (PyProof.noPylong_of_log2 a.2))
inductive IRop_eqNil(x:V)(y:V)(H:Hp)(Q:VK):Prop
 |mk (a:_) (b:_) (xs:_) (h0_:x=.ref a) (h1_:y=.ref b) (h2_:SqL H a xs) (h3_:SqL H b []) (h4_:Q (.bl (decide (xs=[]))) H):IRop_eqNil x y H Q
def Rop_eqNil:R2:=λx y H Q=>IRop_eqNil x y H Q
def xAsj(f:X.A.units<cLine):OpR X (compareOp .Eq) (Rop_eqNil):=by
 intro pins s σ H x y v u Q I l m h;obtain⟨a,b,xs,rfl,rfl,i,n,q⟩:=h;cases l;cases m;obtain⟨k,g,p,hz⟩:=I.list i;obtain⟨d,c,p2,_⟩:=I.list n;cases c
 cases g with
 |nil=>exact PySem.SeqAt.eq_listAt (e:=λ_=>true) p.isList p2.isList rfl f (λj h1 _=>absurd h1 (by simp)) ⟨.bl true,H,I,Y,by simpa using q⟩
 |cons r o=>exact PySem.SeqAt.eq_list_lengthsAt p.isList p2.isList (by simp) f ⟨.bl false,H,I,Y,by simpa using q⟩
end
section
variable {X:Cx}{pins:List (Addr×Obj)}{σ σ':St}{H H':Hp}{s s':Shared}
def Inv.track{a:Addr}{o:HO}(g:Inv X pins σ H s)(I:Inv X pins σ' H' s')(k:s.heap.objs.size≤a)(hn:H' a=none)(new:ObjOk X.prog X.w (upd H' a o) s'.heap a o):Inv X pins σ' (upd H' a o) s':=by
 have f:∀b,b<s.heap.objs.size->b≠a:=λb l z=>by omega
 refine⟨I.ok,I.os,I.bare,⟨I.base.keep,I.base.slot,λb u e n i=>?_,I.base.there,λb xs e=>?_,λb u xs e=>?_,λb ps e=>?_,I.base.tupo⟩,I.loc,I.cell,?_,λx c e=>?_,λp h=>?_,I.hok.track hn new,I.len⟩
 ·rw[xAaf (f b (qv (q0 e) g.sz))]
  exact I.base.free b u e n i
 ·have q:=I.base.tups b xs e
  rw[xAaf (xAai q hn)];exact q
 ·have q:=I.base.frzs b u xs e
  rw[xAaf (xAai q hn)];exact q
 ·obtain⟨d,q⟩:=I.base.tbls b ps e
  exact⟨d,by rw[xAaf (xAai q hn)];exact q⟩
 ·rw[xAaf (f _ g.lt)];exact I.free
 ·obtain⟨v,q⟩:=g.cell x c e
  rw[xAaf (f _ q.lt)];exact I.freeC x c e
 ·obtain⟨h1,h2,j⟩:=I.pin p h
  refine⟨h1,?_,j⟩;rw[xAaf (f _ (q0 (g.pin p h).1))];exact h2
def Inv.turnedN{t':Nat}{h':Heap}{ch:List Addr}(I:Inv X pins σ H s)(hf:∀b∈ch,FpOk X pins H b)(k:∀b o,b∉ch->s.heap.get? b=some o->h'.get? b=some o):Inv X pins σ H { s with heap:=h',toks:=t' }:=by
 have a:∀b u,H b=some u->b∉ch:=λb u e z=>by rw[(hf b z).1]at e;cases e
 refine I.step (g':=s.gens) (d':=s.drawn) (ch:=ch) (λb f=>⟨(hf b f).2.2.2.1,(hf b f).2.1,(hf b f).2.2.2.2.1,(hf b f).2.2.2.2.2⟩) (λb o _ _ d e _=>k b o d e) (λb o _ _ d e _=>⟨o.slots,k b o d e⟩) (λ_ _ _ _ n=>n)
  (λb o d e=>⟨o,k b o d e⟩) (λ_ _ e=>e) (λ_ _ _ e=>e) (λb ps e=>⟨#[],by rw[e];simp⟩) (λb o xs e n=>k b o (a b _ n) e) (λm g=>?_) (λb u e=>?_) I.bare
 ·obtain⟨o,es,ep,h,r⟩:=g
  exact⟨o,es,ep,k _ o (λz=>(hf _ z).2.1 rfl) h,r⟩
 ·refine(I.hok b u e).stay (λc v d q=>k c v ?_ q) (λ_ q=>q) λ_ _ q=>q
  rcases d with z|z
  ·rw[z];exact a b u e
  ·exact a c _ z
end
def Ite(a:Addr):It :=
 ⟨λi H=>∃xs x,SqL H a xs/\xs[i]?=some x,λi H x H'=>∃p v,H p=none/\(∀xs,SqL H a xs->xs[i]?=some v)/\x=.ref p/\H'=upd H p (.tup [.int i,v]),λi H=>∃xs,SqL H a xs/\xs.length=i⟩
def xAoj{P:Program}{w:World}{K:PySem.W.Frag}{es:List Expr}{k:Nat}{tp:Pos}(a it e:Addr)(M:a≠e)(C:a≠it)(n:e≠it) :
  Turn P w K (.Tuple es k tp) (Ite a) [e,it] e (λi h=>(∃g,IsEnum h e it i g)/\h.IsListIter it a i) where
 mem:=by simp
 obj:=λi h st b j=>by
  rcases za.mp j with rfl|j
  ·obtain⟨⟨g,q⟩,_⟩:=st
   exact⟨_,q,λv z=>by cases z⟩
  ·have q:b=it:=by simpa using j
   subst q;obtain⟨_,o,q,c,d⟩:=st;exact⟨o,q,λv z=>by rw[d]at z;cases z⟩
 keep:=λi h h' st kk=>⟨let⟨g,q⟩:=st.1;⟨g,kk e (by simp) _ q⟩,st.2.at λo q=>kk it (by simp) o q⟩
 item:=by
  intro X R hw Q O i pins s σ H E I hf st N;subst R hw Q;obtain⟨xs,x,F,J⟩:=N;obtain⟨f,G,p,hz⟩:=I.list F;obtain⟨u,Z,ru⟩:=G.get J;obtain⟨⟨g,y⟩,l⟩:=st
  have U:i<f.toArray.size:=by
   have:=(qy.mp Z).1;simpa using this
  refine wpAny_pyNext_enum_itemD (Draws.list (show X.A.in1.handled=none from I.ok.hd O) it a C f.toArray) y ⟨l,p.isList⟩ U n (by simp[n,Ne.symm M]) λD h' tk L ho T hT hsz hk=>?_
  have ex:D=u:=by
   have q:f.toArray[i]?=some D:=L
   have q':f[i]?=some D:=by simpa using q
   rw[Z]at q';exact(qC q').symm
  subst ex;refine⟨_,Y,wpAny_letOwnedTupleGo_enum ho λB t m=>?_⟩
  have I1:Inv X pins σ H { s with heap:=B,toks:=tk+1 }:=I.turnedN hf λb o j q=>m.extBut b o (λz=>j (by simp[z])) (hk b o (λz=>j (by simp[z])) (λz=>j (by simp[z])) q)
  have S:s.heap.objs.size≠e:=zg (q0 y);have eT:B.get? s.heap.objs.size=some { cls:=.type "tuple",data:=.seq #[.int i tk,D] }:=m.extBut _ _ S hT;have V:H s.heap.objs.size=none:=I.hok.fresh (qd _);refine⟨.ref s.heap.objs.size,upd H s.heap.objs.size (.tup [.int i,x]),I.track I1 (Nat.le_refl _) V ⟨?_,[.int i tk,D],.cons ⟨tk,Y⟩ (.cons ru .nil),⟨_,eT,Y,_,Y⟩⟩,Y,⟨_,x,V,λys hy=>by rw[I.list_inj hy F];exact J,Y,Y⟩,⟨⟨_,by simpa using t⟩,?_⟩,λb j=>?_⟩
  ·show 2≤sizeLine
   decide
  ·obtain⟨o,q,r⟩:=T.1
   exact⟨o,m.extBut _ _ (Ne.symm n) q,r⟩
  ·obtain⟨o,q⟩:∃o,s.heap.get? b=some o:=by
    rcases za.mp j with rfl|j
    ·exact⟨_,y⟩
    ·have q:b=it:=by simpa using j
     subst q;obtain⟨o,q,_⟩:=l;exact⟨o,q⟩
   rw[xAaf (qg (q0 q))];exact(hf b j).1
 done:=by
  intro X R hw Q O i pins s σ H E I hf st N;subst R hw Q;obtain⟨xs,F,J⟩:=N;obtain⟨f,G,p,hz⟩:=I.list F;obtain⟨⟨g,y⟩,l⟩:=st;have hl:=G.length
  have hi:i=f.toArray.size:=by rw[qz];omega
  have hD:=Draws.list (prog:=X.prog) (w:=X.w) (show X.A.in1.handled=none from I.ok.hd O) it a C f.toArray;rw[hi]at l
  exact wpAny_pyNext_enum_endD hD y ⟨l,p.isList⟩ λh' eb=>⟨Y,I.turnedN hf λb o j q=>eb b o (λz=>j (by simp[z])) q⟩
 self:=λ_ _ _ _ _ st h=>let⟨g,q⟩:=st.1;wpAny_pyIter_enum q h
section
variable {X:Cx}
inductive IiEnum(R:It->Hp->Prop)(vs:List V)(H1:Hp):Prop
 |mk (a:_) (h0_:vs=[.ref a]) (h1_:(∃xs,SqL H1 a xs)) (h2_:R (Ite a) H1):IiEnum R vs H1
def iEnum(ta:TA):TI:=λσ H R=>ta σ H λvs H1=>IiEnum R vs H1
def xAke{k:Nat}(o:Gl X "enumerate")(t:X.mg "enumerate"=none)(x:PA X [a] ta)(hs:starEach [a] X.env=[(false,eval a X.env)]:=by rfl) :
  PI X (.Tuple es k tp) (.Call (.Name "enumerate" p) [a] [] pos) (iEnum ta):=by
 refine⟨?_⟩;intro pins s σ H R I h;refine Call_ (xAds I o t boot_enumerate (PyProof.Rows.callWith_type1 (thn (x pos pins s σ H _ I h) λus c ⟨vs,H1,g,w,z⟩=>?_) hs rfl));obtain⟨l,e,⟨xs,A⟩,q⟩:=z;subst e;obtain⟨u,rfl,r⟩:=vals1 w;cases r;obtain⟨y,B,pl,hz⟩:=g.list A
 have f:l<c.heap.objs.size:=by obtain⟨_,e,_⟩:=pl.isList;exact q0 e
 refine call_enumerate_list pl.isList λh' m i hsz n=>?_;refine wpAny_pyIter_enum m ?_;have v:Inv X pins σ H1 { c with heap:=h' }:=g.kept (t':=c.toks) n;refine⟨c.heap.objs.size+1,[c.heap.objs.size+1,c.heap.objs.size],_,_,H1,Y,v,xAoj l c.heap.objs.size (c.heap.objs.size+1) (qg (zq f)) (qg f) (zg (zw _)),⟨⟨_,m⟩,i⟩,λb j=>?_,q⟩
 have d:c.heap.objs.size≤b:=by
  rcases za.mp j with rfl|j
  ·exact we _
  ·have e:b=c.heap.objs.size:=by simpa using j
   exact Nat.le_of_eq e.symm
 exact g.fpOk d (g.hok.fresh d)
end
def xAkf{a:Addr}{xs:List V}{g:TG}{tb:TS}{D:Ends}{σ:St}{H:Hp}(c:Nat->St->Hp->Prop)(h0:c 0 σ H)(j:∀i σ H,i≤xs.length->c i σ H->SqL H a xs)(hs:∀i x σ H p,xs[i]?=some x->c i σ H->H p=none->g (.ref p) σ (upd H p (.tup [.int i,x])) λd H2=>tb { D with nx:=c (i+1),ct:=c (i+1),bk:=D.nx } d H2)(l:∀σ H,c xs.length σ H->D.nx σ H) :
  ∃W:Nat->Nat->St->Hp->Prop,(∃m,W 0 m σ H)/\∀i m σ H,W i m σ H →
   ((Ite a).stop i H/\D.nx σ H)\/((Ite a).go i H/\∃N:St->Hp->Prop,(∀σ' H',N σ' H'->∃h,h<m/\W (i+1) h σ' H')/\∀x H',(Ite a).yld i H x H'->g x σ H' λd H2=>tb { D with nx:=N,ct:=N,bk:=D.nx } d H2):=by
 refine⟨λi m σ H=>m=xs.length - i/\i≤xs.length/\c i σ H,⟨xs.length,by simp,Nat.zero_le _,h0⟩,?_⟩;rintro i m σ H ⟨rfl,hi,p⟩;have q:=j i σ H hi p
 by_cases f:i<xs.length
 ·refine .inr ⟨⟨xs,xs[i],q,by simp[f]⟩,c (i+1),λσ' H' k=>⟨xs.length - (i+1),by omega,Y,f,k⟩,λx H' y=>?_⟩
  obtain⟨b,v,o,n,rfl,rfl⟩:=y;exact hs i v σ H b (n xs q) p o
 ·have e:i=xs.length:=by omega
  subst e;exact .inl ⟨⟨xs,q,Y⟩,l σ H p⟩
def xAga{k:NameKind}(h:(relabel b a).names.lookup x=some k):∃y∈b.names,y.2=k\/y.2=.free:=by
 have d:=PySem.mem_of_lookup h;obtain⟨y,f,e⟩:=qj.mp d;refine⟨y,f,?_⟩;obtain⟨n,k0⟩:=y;dsimp only at e
 split at e
 ·rename_i c
  rw[zd,zd]at c;exact .inr (beq_iff_eq.mp c.1.1)
 ·cases e
  exact .inl rfl
def caps0(h:∀y∈b.names,y.2≠.free/\y.2≠.cell):Caps X b [] [] where
 clos:=closureFor_none λy a=>(h y a).1
 sub:=λx c e=>by cases e
 has:=λx e=>by
  exfalso;rcases e with e|e <;> obtain⟨y,a,z⟩:=xAga e <;> rcases z with z|z
  ·exact(h y a).2 z
  ·exact(h y a).1 z
  ·exact(h y a).1 z
  ·exact(h y a).1 z
 cap:=λp d=>nomatch d
def Same.up(e:Same H H')(h:H' p=none):Same H (upd H' p o):=λb u q=>by
 rw[xAaf (xAai (e b u q) h)];exact e b u q
def Same.new(h:H p=none):Same H (upd H p o):=(Same.refl H).up h
def Same.wr(e:Same H H')(h:H p=none):Same H (upd H' p o):=λb u q=>by
 rw[xAaf (xAai q h)];exact e b u q
section
variable {X:Cx}
inductive IrIxA(x:V)(y:V)(H:Hp)(Q:VK):Prop
 |mk (p:_) (xs:_) (i:_) (h0_:x=.ref p) (h1_:y=.int i) (h2_:SqL H p xs) (h3_:0≤i) (h4_:i<(xs.length:Int)) (h5_:∀v∈xs,Q v H):IrIxA x y H Q
def rIxA:R2:=λx y H Q=>IrIxA x y H Q
def ix_any:IxR X (rIxA):=by
 intro value a pins s σ H x y v u Q I d e h hs;obtain⟨p,xs,i,ex,c,f,h0,h1,q⟩:=h;obtain⟨j,rfl⟩:=Int.eq_ofNat_of_zero_le h0
 have b:j<xs.length:=by omega
 exact xAjx value a pins s σ H x y v u Q I d e ⟨p,xs,j,xs[j],ex,c,f,xAbq (qf b),q _ (wn b)⟩ hs
end
def xAvi{α:Type}(xs:List α)(i:Int)(h0:0≤i)(h1:i<(xs.length:Int)):∃v,atI xs i=some v:=by
 obtain⟨j,rfl⟩:=Int.eq_ofNat_of_zero_le h0
 have a:j<xs.length:=by omega
 exact⟨xs[j],xAbq (qf a)⟩
def xAay(x:Int)(h:0<m):0≤x % m:=Int.emod_nonneg _ (by omega)
def xAaz(x:Int)(h:0<m):x % m<m:=Int.emod_lt_of_pos _ h
def cm(h0:0<m)(h1:m≤2 ^ 64):-(2 ^ 64)<x % m/\x % m<2 ^ 64:=by
 have a:=xAay x h0;have b:=xAaz x h0;omega
def xAkg(x y:Str):(x++y).cps.size=x.cps.size+y.cps.size:=gs
section
variable {X:Cx}{es:List Expr}{t:TA}{pos:Pos}
def tTupA(t:TA):TE:=λσ H Q=>t σ H λxs H1=>xs.length≤sizeLine/\∀p H',H1 p=none->Same H1 H'->H' p=some (.tup xs)->Q (.ref p) H'
def tLstA(t:TA):TE:=λσ H Q=>t σ H λxs H1=>xs.length≤sizeLine/\∀p H',H1 p=none->Same H1 H'->H' p=some (.lst xs)->Q (.ref p) H'
def xAaj{x1}(h:PA X es t):PE X (.Tuple es x1 pos) (tTupA t):=by
 refine⟨?_⟩;intro pins s σ H Q I d;refine wpAny_Tuple_spliced (thn (h pos pins s σ H _ I d) λus a ⟨xs,H1,c,r,z,q⟩=>⟨by rw[←r.length];exact z,?_⟩);have hf:H1 a.heap.objs.size=none:=c.hok.fresh (qd _);refine⟨.ref a.heap.objs.size,upd H1 a.heap.objs.size (.tup xs),c.laid (t':=a.toks) (λb u e=>qA _ e) (qd _) ?_,Y,q _ _ hf (Same.new hf) xAac⟩;exact⟨z,us,r,⟨_,qB _ rfl,Y,_,Y⟩⟩
def xAao(h:PA X es t):PE X (.List es pos) (tLstA t):=by
 refine⟨?_⟩;intro pins s σ H Q I d;refine wpAny_List_spliced (thn (h pos pins s σ H _ I d) λus a ⟨xs,H1,c,r,z,q⟩=>⟨by rw[←r.length];exact z,?_⟩);have hf:H1 a.heap.objs.size=none:=c.hok.fresh (qd _);refine⟨.ref a.heap.objs.size,upd H1 a.heap.objs.size (.lst xs),c.laid (t':=a.toks) (λb u e=>qA _ e) (qd _) ?_,Y,q _ _ hf (Same.new hf) xAac⟩;exact⟨z,us,0,r,qB _ rfl⟩
def OpR.imp(h:OpR X f r)(i:∀x y H Q,a x y H Q->r x y H Q):OpR X f a:=λpins s σ H x y v u Q I b c q=>h pins s σ H x y v u Q I b c (i x y H Q q)
def SlR.imp(h:SlR X r)(i:∀x lo hi H Q,a x lo hi H Q->r x lo hi H Q):SlR X a:=λpins s σ H x v b c lo hi f Q I e hs pl d q=>h pins s σ H x v b c lo hi f Q I e hs pl d (i x lo hi H Q q)
inductive IrCatA(x:V)(y:V)(H:Hp)(Q:VK):Prop
 |mk (l:_) (b:_) (xs:_) (zs:_) (h0_:x=.ref l) (h1_:y=.ref b) (h2_:H l=some (.lst xs)) (h3_:H b=some (.lst zs)) (h4_:xs.length+zs.length≤sizeLine) (h5_:∀p H',H p=none->Same H H'->H' p=some (.lst (xs++zs))->Q (.ref p) H'):IrCatA x y H Q
def rCatA:R2:=λx y H Q=>IrCatA x y H Q
def xAcq:OpR X (binaryOp .Add) rCatA:=op_cat.imp λ_ _ _ _ ⟨l,b,xs,zs,h1,h2,c,d,e,q⟩=>⟨l,b,xs,zs,h1,h2,c,d,e,λp a=>q p _ a (Same.new a) xAac⟩
inductive IrSlLA(x:V)(lo:Option Int)(hi:Option Int)(H:Hp)(Q:VK):Prop
 |mk (a:_) (xs:_) (h0_:x=.ref a) (h1_:SqL H a xs) (h2_:∀p H',H p=none->Same H H'->H' p=some (.lst (cutV xs lo hi))->Q (.ref p) H'):IrSlLA x lo hi H Q
def rSlLA:V->Option Int->Option Int->Hp->VK->Prop:=λx lo hi H Q=>IrSlLA x lo hi H Q
def xAaw:SlR X (rSlLA):=xAve.imp λ_ _ _ _ _ ⟨a,xs,h1,h2,q⟩=>⟨a,xs,h1,h2,λp b=>q p _ b (Same.new b) xAac⟩
end
def clo(a:Env):List (Str×NameKind)->List (Str×Addr)->List (Str×Addr)
 |[],acc=>acc
 |(n,k)::r,acc=>clo a r (if k==.free then(n,(a.cells.lookup n).getD 0)::acc else acc)
def xAiw{g:Scope}(h:∀y∈g.names,y.2=.free->∃c,b.cells.lookup y.1=some c):closureFor g b=pure (clo b g.names []):=by
 have all:∀(names:List (Str×NameKind)) (d:List (Str×Addr)),(∀y∈names,y.2=.free->∃c,b.cells.lookup y.1=some c) →
   (forIn names d λx r=>(match x with
    |(name,kind)=>if(kind==NameKind.free)=true then do
      let a ←cellOf b name
      pure (ForInStep.yield ((name,a)::r))
     else pure (ForInStep.yield r):Sem (ForInStep (List (Str×Addr)))))=pure (clo b names d):=by
  intro names
  induction names with
  |nil=>intro d _;rfl
  |cons x r l =>
   intro d i;obtain⟨n,k⟩:=x;rw[List.forIn_cons]
   cases f:(k==NameKind.free) with
   |true =>
    obtain⟨c,m⟩:=i (n,k) ql (beq_iff_eq.mp f)
    have e:cellOf b n=pure c:=by unfold cellOf;rw[m]
    dsimp only;rw[qt f,e];refine Eq.trans (by first|rfl|simp) ((l ((n,c)::d) λy j=>i y (List.mem_cons_of_mem _ j)).trans ?_);show _=pure (clo b r (if(k==NameKind.free)=true then(n,(b.cells.lookup n).getD 0)::d else d));rw[qt f,show b.cells.lookup n=some c from m];rfl
   |false =>
    dsimp only;rw[qs (by rw[f];exact qr)];refine Eq.trans (by first|rfl|simp) ((l d λy j=>i y (List.mem_cons_of_mem _ j)).trans ?_);show _=pure (clo b r (if(k==NameKind.free)=true then(n,(b.cells.lookup n).getD 0)::d else d));rw[qs (by rw[f];exact qr)]
 have e:=all g.names [] h
 show((forIn g.names [] λx r=>(match x with
       |(name,kind)=>if(kind==NameKind.free)=true then do
         let a ←cellOf b name
         pure (ForInStep.yield ((name,a)::r))
        else pure (ForInStep.yield r):Sem (ForInStep (List (Str×Addr))))) >>= λo=>pure o)=_
 rw[e];rfl
def xAqn:∀{names:List (Str×NameKind)} {b:List (Str×Addr)},(∀y∈names,y.2=.free->∃c,a.cells.lookup y.1=some c)->(∀x c,b.lookup x=some c->a.cells.lookup x=some c) →
  ∀x c,(clo a names b).lookup x=some c->a.cells.lookup x=some c
 |[],_,_,h=>h
 |(n,k)::r,b,hx,h=>by
  refine xAqn (names:=r) (λy l=>hx y (qw _ l)) λx c e=>?_
  cases f:(k==NameKind.free) with
  |true =>
   rw[f,qt rfl]at e;obtain⟨m,j⟩:=hx (n,k) ql (beq_iff_eq.mp f);rw[jt]at e
   cases d:(x==n) with
   |true =>
    rw[d]at e;have q:=beq_iff_eq.mp d;subst q;have i:(a.cells.lookup x).getD 0=c:=qC e;have g:a.cells.lookup x=some m:=j;rw[g]at i ⊢;exact congrArg some i
   |false=>rw[d]at e;exact h x c e
  |false=>rw[f,qs qr]at e;exact h x c e
def xAqo:∀{names:List (Str×NameKind)} {a:List (Str×Addr)},((x,NameKind.free)∈names\/∃c,a.lookup x=some c)->∃c,(clo b names a).lookup x=some c
 |[],_,h=>h.elim (λz=>nomatch z) id
 |(n,k)::r,a,h=>by
  refine xAqo (names:=r) ?_
  have put:∀d,∃c,((n,d)::a).lookup x=some c\/(x≠n/\a.lookup x=none):=λd=>by
   rw[jt]
   cases e:(x==n) with
   |true=>exact⟨d,.inl rfl⟩
   |false =>
    cases g:a.lookup x with
    |some c=>exact⟨c,.inl rfl⟩
    |none=>exact⟨0,.inr ⟨λz=>by subst z;simp at e,Y⟩⟩
  rcases h with h|⟨c,h⟩
  ·rcases za.mp h with q|q
   ·cases q
    refine .inr ?_;rw[qt (by rfl),jt]
    simp
   ·exact .inl q
  ·refine .inr ?_
   cases f:(k==NameKind.free) with
   |true =>
    rw[qt (by rfl)];obtain⟨c1,q|q⟩:=put ((b.cells.lookup n).getD 0)
    ·exact⟨c1,q⟩
    ·rw[q.2]at h;cases h
   |false=>rw[qs qr];exact⟨c,h⟩
def xAkh{k:NameKind}(h:(relabel b a).names.lookup x=some k):∃y∈b.names,y.1=x/\(y.2=k\/y.2=.free):=by
 have d:=PySem.mem_of_lookup h;obtain⟨y,f,e⟩:=qj.mp d;refine⟨y,f,?_⟩;obtain⟨n,k0⟩:=y;dsimp only at e
 split at e
 ·rename_i c
  rw[zd,zd]at c;cases e;exact⟨Y,.inr (beq_iff_eq.mp c.1.1)⟩
 ·cases e
  exact⟨Y,.inl rfl⟩
def xAvj(h:∀x,X.env.kindOf x=some .cell->∃c,X.env.cells.lookup x=some c)(d:∀y∈f.names,y.2≠.cell)(a:∀y∈f.names,y.2=.free->X.env.kindOf y.1=some .cell)(g:∀p∈fr,X.N[p.2]?=some p.1/\X.env.kindOf p.1=some .cell/\(relabel f X.env).names.lookup p.1=some .cell):Caps X f (clo X.env f.names []) fr where
 clos:=xAiw λy b e=>h _ (a y b e)
 sub:=xAqn (λy b e=>h _ (a y b e)) λx c e=>by cases e
 has:=λx e=>by
  refine xAqo (.inl ?_);rcases e with e|e <;> obtain⟨y,b,rfl,z⟩:=xAkh e <;> rcases z with z|z
  ·exact absurd z (d y b)
  ·rw[←z];exact b
  ·rw[←z];exact b
  ·rw[←z];exact b
 cap:=λp j=>by
  obtain⟨h1,h2,i⟩:=g p j;exact⟨h1,by rw[h2];decide,.inr (.inl h2),.inl i⟩
def xAki{g:Scope}(d:Scope)(N:List Str)(h1:X.env.scope=d)(h2:X.N=N)(k:∀x,X.env.kindOf x=some .cell->∃c,X.env.cells.lookup x=some c)(f:∀y∈g.names,y.2≠.cell)(h:∀y∈g.names,y.2=.free->d.names.lookup y.1=some .cell)(i:∀p∈fr,N[p.2]?=some p.1/\d.names.lookup p.1=some .cell/\(relabel g { scope:=d,locals:=0,globals:=0,cells:=[] }).names.lookup p.1=some .cell):Caps X g (clo X.env g.names []) fr:=by
 refine xAvj k f (λy j e=>?_) λp l=>?_
 ·show X.env.scope.names.lookup y.1=some .cell
  rw[h1];exact h y j e
 ·obtain⟨a,b,c⟩:=i p l
  refine⟨by rw[h2];exact a,?_,?_⟩
  ·show X.env.scope.names.lookup p.1=some .cell
   rw[h1];exact b
  ·have e:relabel g X.env=relabel g { scope:=d,locals:=0,globals:=0,cells:=[] }:=by
    unfold relabel Env.kindOf;rw[h1]
   rw[e];exact c
section
variable {X:Cx}
def CallR.imp(h:CallR X f r)(i:∀xs H Q,a xs H Q->r xs H Q):CallR X f a:=λpins s σ H xs us Q I b q=>h pins s σ H xs us Q I b (i xs H Q q)
inductive IrTupA(xs:List V)(H:Hp)(Q:VK):Prop
 |mk (p:_) (ys:_) (h0_:xs=[.ref p]) (h1_:SqL H p ys) (h2_:∀l H',H l=none->Same H H'->H' l=some (.tup ys)->Q (.ref l) H'):IrTupA xs H Q
def rTupA:List V->Hp->VK->Prop:=λxs H Q=>IrTupA xs H Q
def xAcc:CallR X (.type "tuple") (rTupA):=xAfb.imp λ_ _ _ ⟨p,ys,h1,h2,q⟩=>⟨p,ys,h1,.inl ⟨h2,λl a=>q l _ a (Same.new a) xAac⟩⟩
inductive IrLstA(xs:List V)(H:Hp)(Q:VK):Prop
 |mk (p:_) (ys:_) (h0_:xs=[.ref p]) (h1_:(SqL H p ys\/SqT H p ys)) (h2_:∀l H',H l=none->Same H H'->H' l=some (.lst ys)->Q (.ref l) H'):IrLstA xs H Q
def rLstA:List V->Hp->VK->Prop:=λxs H Q=>IrLstA xs H Q
def xAej:CallR X (.type "list") (rLstA):=xAfz.imp λ_ _ _ ⟨p,ys,h1,h2,q⟩=>⟨p,ys,h1,h2,λl a=>q l _ a (Same.new a) xAac⟩
inductive IrCatTA(x:V)(y:V)(H:Hp)(Q:VK):Prop
 |mk (a:_) (b:_) (xs:_) (ys:_) (h0_:x=.ref a) (h1_:y=.ref b) (h2_:SqT H a xs) (h3_:SqT H b ys) (h4_:xs≠[]) (h5_:ys≠[]) (h6_:xs.length+ys.length≤sizeLine) (h7_:∀l H',H l=none->Same H H'->H' l=some (.tup (xs++ys))->Q (.ref l) H'):IrCatTA x y H Q
def rCatTA:R2:=λx y H Q=>IrCatTA x y H Q
def xAde:OpR X (binaryOp .Add) (rCatTA):=xAqi.imp λ_ _ _ _ ⟨a,b,xs,ys,h1,h2,i,h,g,c,f,q⟩=>⟨a,b,xs,ys,h1,h2,i,h,g,f,λe=>absurd e c,λ_ p d=>q p _ d (Same.new d) xAac⟩
inductive IrRepA(x:V)(y:V)(H:Hp)(Q:VK):Prop
 |mk (l:_) (k:_) (xs:_) (h0_:x=.ref l) (h1_:y=.int k) (h2_:H l=some (.lst xs)) (h3_:-(2 ^ 63)≤k) (h4_:k<2 ^ 63) (h5_:xs.length * k.toNat≤sizeLine) (h6_:∀p H',H p=none->Same H H'->H' p=some (.lst (List.replicate k.toNat xs).flatten)->Q (.ref p) H'):IrRepA x y H Q
def rRepA:R2:=λx y H Q=>IrRepA x y H Q
def xAvk:OpR X (binaryOp .Mult) rRepA:=op_rep.imp λ_ _ _ _ ⟨l,k,xs,h1,h2,e,d,c,b,q⟩=>⟨l,k,xs,h1,h2,e,d,c,b,λp a=>q p _ a (Same.new a) xAac⟩
end
def xAvl{z:Str}{g:TG}{tb:TS}{D:Ends}{σ:St}{H:Hp}(a:Nat->St->Hp->Prop)(h0:a 0 σ H)(hs:∀i c σ H,z.cps[i]?=some c->a i σ H->g (.str ⟨#[c]⟩) σ H λb H2=>tb { D with nx:=a (i+1),ct:=a (i+1),bk:=D.nx } b H2)(k:∀σ H,a z.cps.size σ H->D.nx σ H) :
  ∃W:Nat->Nat->St->Hp->Prop,(∃m,W 0 m σ H)/\∀i m σ H,W i m σ H →
   ((Its z).stop i H/\D.nx σ H)\/((Its z).go i H/\∃N:St->Hp->Prop,(∀σ' H',N σ' H'->∃f,f<m/\W (i+1) f σ' H')/\∀x H',(Its z).yld i H x H'->g x σ H' λb H2=>tb { D with nx:=N,ct:=N,bk:=D.nx } b H2):=by
 refine⟨λi m σ H=>m=z.cps.size - i/\i≤z.cps.size/\a i σ H,⟨z.cps.size,by simp,Nat.zero_le _,h0⟩,?_⟩;rintro i m σ H ⟨rfl,hi,p⟩
 by_cases d:i<z.cps.size
 ·refine .inr ⟨d,a (i+1),λσ' H' h=>⟨z.cps.size - (i+1),by omega,Y,d,h⟩,λx H' y=>?_⟩
  obtain⟨rfl,c,j,rfl⟩:=y;exact hs i c σ _ j p
 ·have e:i=z.cps.size:=by omega
  subst e;exact .inl ⟨qd _,k σ H p⟩
def xAkj{g:TG}(hz:xs.length≤sizeLine)(c:Nat->List V->Hp->Prop)(h0:c 0 [] H)(j:∀i ys H,c i ys H->SqL H a xs)(hs:∀i x ys H' (n:V->Hp->Prop) (l:Hp->Prop),xs[i]?=some x->c i ys H'->(∀y k,c (i+1) (ys++[y]) k->n y k)->(∀f,c (i+1) ys f->l f) →
   g x (compSt own fr σ) H' λh H2=>o h H2 λb f=>if b=true then te h f n else l f)(t:∀H' p ys,c xs.length ys H'->ys.length≤xs.length->H' p=none->Q (.ref p) (upd H' p (.lst ys))):LCb own fr g o te σ Q (Itl a) H:=by
 refine⟨λi m ys H=>m=xs.length - i/\i≤xs.length/\ys.length≤i/\c i ys H,⟨xs.length,by simp,Nat.zero_le _,Nat.zero_le _,h0⟩,?_⟩;rintro i m ys H ⟨rfl,hi,v,p⟩
 by_cases d:i<xs.length
 ·refine .inr ⟨⟨xs,xs[i],j _ _ H p,by simp[d]⟩,by omega,λx H' y=>?_⟩
  obtain⟨rfl,y⟩:=y;have s:=y xs (j _ _ _ p)
  refine hs i x ys H' _ _ s p (λy k r=>⟨xs.length - (i+1),by omega,Y,d,?_,r⟩) λf u=>⟨xs.length - (i+1),by omega,Y,d,by omega,u⟩
  rw[qm,zk];omega
 ·have e:i=xs.length:=by omega
  subst e;exact .inl ⟨⟨xs,j _ _ H p,qd _⟩,λq w=>t H q ys p v w⟩
def xAkk{lo:Int}{n:Nat}{own:List Str}{fr:List (Str×Nat)}{g:TG}{l:TT}{te:TE}{σ:St}{H:Hp}{Q:VK}(hz:n≤sizeLine)(c:Nat->List V->Hp->Prop)(h0:c 0 [] H)(hs:∀i ys H' (k:V->Hp->Prop) (j:Hp->Prop),i<n->c i ys H'->(∀y h,c (i+1) (ys++[y]) h->k y h)->(∀d,c (i+1) ys d->j d) →
   g (.int (lo+i)) (compSt own fr σ) H' λf H2=>l f H2 λb d=>if b=true then te f d k else j d)(r:∀H' p ys,c n ys H'->ys.length≤n->H' p=none->Q (.ref p) (upd H' p (.lst ys))):LCb own fr g l te σ Q (Itr lo n) H:=by
 refine⟨λi m ys H=>m=n - i/\i≤n/\ys.length≤i/\c i ys H,⟨n,by simp,Nat.zero_le _,Nat.zero_le _,h0⟩,?_⟩;rintro i m ys H ⟨rfl,hi,s,p⟩
 by_cases a:i<n
 ·refine .inr ⟨a,by omega,λx H' y=>?_⟩
  obtain⟨rfl,rfl⟩:=y
  refine hs i ys H' _ _ a p (λy h o=>⟨n - (i+1),by omega,Y,a,?_,o⟩) λd t=>⟨n - (i+1),by omega,Y,a,by omega,t⟩
  rw[qm,zk];omega
 ·have e:i=n:=by omega
  subst e;exact .inl ⟨qd _,λq u=>r H q ys p s u⟩
def nodup_len{α:Type}[DecidableEq α]:∀{S ws:List α},S.Nodup->(∀x∈S,x∈ws)->S.length≤ws.length
 |[],_,_,_=>qk _
 |x::S,ws,nd,h=>by
  have b:=h x ql;have a:=zu.mp nd
  have d:=nodup_len (S:=S) (ws:=ws.erase x) a.2 λy c=>(List.mem_erase_of_ne (λ(e:y=x)=>a.1 (by rw[←e];exact c))).mpr (h y (qw _ c))
  have f:=List.length_erase_of_mem b;have pos:0<ws.length:=List.length_pos_of_mem b;show S.length+1≤ws.length;omega
def tDctTA:TE:=λ_ H Q=>∀p H',H p=none->Same H H'->H' p=some (.dT [])->Q (.ref p) H'
def xAsk:PE X (.Dict [] [] pos) tDctTA:=⟨λpins s σ H Q I h=>xAse pins s σ H Q I λp a=>h p _ a (Same.new a) xAac⟩
def SqL.same(h:SqL H a xs)(s:Same H H'):SqL H' a xs:=by
 rcases h with h|⟨o,h⟩
 ·exact .inl (s _ _ h)
 ·exact .inr ⟨o,s _ _ h⟩
inductive IrCatS(x:V)(y:V)(H:Hp)(Q:VK):Prop
 |mk (l:_) (b:_) (xs:_) (zs:_) (h0_:x=.ref l) (h1_:y=.ref b) (h2_:SqL H l xs) (h3_:H b=some (.lst zs)) (h4_:xs.length+zs.length≤sizeLine) (h5_:∀p H',H p=none->Same H H'->H' p=some (.lst (xs++zs))->Q (.ref p) H'):IrCatS x y H Q
def rCatS:R2:=λx y H Q=>IrCatS x y H Q
def xAvm:OpR X (binaryOp .Add) (rCatS):=by
 intro pins s σ H x y v u Q I p w h;obtain⟨l,b,xs,zs,rfl,rfl,m,j,hz,q⟩:=h;cases p;cases w;obtain⟨c,r,pl,z⟩:=I.list m;obtain⟨⟨k,i,g,A⟩,n,e,c1,c2,f⟩:=pl;dsimp only at c1 c2 f;subst c1 c2 f;obtain⟨D,a,n2,o,t,d⟩:=I.lstM j;have C:=r.length;refine concat_meets ⟨_,e,Y⟩ ⟨_,d,Y⟩ noFill_list_add seq_list_add PySem.F.slot_list_add PySem.F.entry_list_add (PySem.F.args_list_add_2 _ _) (list_addW l b c.toArray a.toArray n n2 none none A #[] (by rw[qz,qz];omega)) ⟨e,d,?_⟩
 have B:c.toArray++a.toArray=(c++a).toArray:=by simp
 rw[B];exact⟨.ref _,_,I.lnew (t':=s.toks) (r.append o) (by rw[qm];omega),Y,q _ _ I.fresh (Same.new I.fresh) xAac⟩
mutual
inductive DV(H:Hp):V->PyData->Prop
 |non:DV H .non .none
 |bl (b:Bool):DV H (.bl b) (.bool b)
 |int (i:Int):DV H (.int i) (.int i)
 |str (z:Str):DV H (.str z) (.str z)
 |lst {p:Addr} {xs:List V} {ds:List PyData}:SqL H p xs->DVs H xs ds->DV H (.ref p) (.list ds)
 |tup {p:Addr} {xs:List V} {ds:List PyData}:SqT H p xs->DVs H xs ds->DV H (.ref p) (.tuple ds)
inductive DVs(H:Hp):List V->List PyData->Prop
 |nil:DVs H [] []
 |cons {x:V} {xs:List V} {d:PyData} {ds:List PyData}:DV H x d->DVs H xs ds->DVs H (x::xs) (d::ds)
end
section
variable {X:Cx}{pins:List (Addr×Obj)}{σ:St}{H H':Hp}{s:Shared}{K:PySem.W.Frag}
def SqT.same(h:SqT H a xs)(s:Same H H'):SqT H' a xs:=by
 rcases h with h|⟨o,h⟩
 ·exact .inl (s _ _ h)
 ·exact .inr ⟨o,s _ _ h⟩
mutual
def DV.same(e:Same H H'):∀{x:V} {d:PyData},DV H x d->DV H' x d
 |_,_,.non=>.non
 |_,_,.bl b=>.bl b
 |_,_,.int i=>.int i
 |_,_,.str z=>.str z
 |_,_,.lst h t=>.lst (h.same e) (DVs.same e t)
 |_,_,.tup h t=>.tup (h.same e) (DVs.same e t)
def DVs.same(e:Same H H'):∀{xs:List V} {ds:List PyData},DVs H xs ds->DVs H' xs ds
 |_,_,.nil=>.nil
 |_,_,.cons h t=>.cons (DV.same e h) (DVs.same e t)
end
mutual
def DV.reads(I:Inv X pins σ H s):∀{x:V} {d:PyData} {v:Value},DV H x d->RelV x v->∃j,Reads s.heap v d j
 |_,_,_,.non,r=>by cases r;exact⟨_,.none⟩
 |_,_,_,.bl b,r=>by cases r;exact⟨_,.bool b⟩
 |_,_,_,.int i,r=>by obtain⟨t,rfl⟩:=r;exact⟨_,.int i t⟩
 |_,_,_,.str z,r=>by obtain⟨t,rfl⟩:=r;exact⟨_,.str z t⟩
 |_,_,_,.lst h t,r=>by
  cases r;obtain⟨f,a,⟨o,n,e,c,_,k⟩,_⟩:=I.list h;obtain⟨j,g⟩:=DVs.reads I t a;exact⟨_,.list e c k (by simpa using g)⟩
 |_,_,_,.tup h t,r=>by
  cases r;obtain⟨f,a,⟨o,e,c,n,k⟩,_⟩:=I.tuple h;obtain⟨j,g⟩:=DVs.reads I t a;exact⟨_,.tuple e c k (by simpa using g)⟩
def DVs.reads(I:Inv X pins σ H s):∀{xs:List V} {ds:List PyData} {vs:List Value},DVs H xs ds->Vals xs vs->∃c,ReadsAll s.heap vs ds c
 |_,_,_,.nil,r=>by cases r;exact⟨_,.nil⟩
 |_,_,_,.cons h t,r=>by
  cases r with
  |cons d e =>
   obtain⟨c,a⟩:=DV.reads I h d;obtain⟨bs,b⟩:=DVs.reads I t e;exact⟨_,.cons a b⟩
end
inductive IrEqD(u:Nat)(neg:Bool)(x:V)(y:V)(H:Hp)(Q:VK):Prop
 |mk (dx:_) (dy:_) (h0_:DV H x dx) (h1_:DV H y dy) (h2_:dx.canLay0=true) (h3_:dy.canLay0=true) (h4_:min dx.depth dy.depth≤u) (h5_:Q (.bl (if neg then !PyData.eqv dx dy else PyData.eqv dx dy)) H):IrEqD u neg x y H Q
def rEqD(u:Nat)(a:Bool):R2:=λx y H Q=>IrEqD u a x y H Q
def op_eqD(i:X.A.units+u<cLine):OpR X (compareOp .Eq) (rEqD u false):=by
 intro pins s σ H x y v w Q I d f h;obtain⟨dx,l,b,g,a,cy,j,q⟩:=h;obtain⟨k,e⟩:=b.reads I d;obtain⟨bs,c⟩:=g.reads I f;exact SeqAt.compareEq_reads e c a cy (by omega) ⟨.bl _,H,I,Y,q⟩
def op_neD(i:X.A.units+u<cLine):OpR X (compareOp .NotEq) (rEqD u true):=by
 intro pins s σ H x y v w Q I d f h;obtain⟨dx,l,b,g,a,cy,j,q⟩:=h;obtain⟨k,e⟩:=b.reads I d;obtain⟨bs,c⟩:=g.reads I f;exact SeqAt.compareNe_reads e c a cy (by omega) ⟨.bl _,H,I,Y,q⟩
def xAbj:∀{vs:List Value} {ds:List PyData} {a:List Addr} {j:Nat} {v:Value},ReadsAll h vs ds a->vs[j]?=some v->∃d bs,ds[j]?=some d/\Reads h v d bs
 |_,_,_,_,_,.nil,e=>by cases e
 |_,_,_,0,_,.cons r t,e=>by cases e;exact⟨_,_,Y,r⟩
 |_,_,_,j+1,_,.cons r t,e=>by
  obtain⟨d,bs,h1,h2⟩:=xAbj (j:=j) t (by simpa using e);exact⟨d,bs,by simpa using h1,h2⟩
def xAdf:∀{ds:List PyData} {j:Nat} {d:PyData},PyData.canLayAll0 ds=true->ds[j]?=some d->d.canLay0=true
 |[],_,_,_,e=>by cases e
 |d::ds,0,_,h,e=>by
  cases e;have h':(d.canLay0&&PyData.canLayAll0 ds)=true:=h;rw[zd]at h';exact h'.1
 |d::ds,j+1,d',h,e=>by
  have h':(d.canLay0&&PyData.canLayAll0 ds)=true:=h;rw[zd]at h';exact xAdf h'.2 (by simpa using e)
open Classical in
noncomputable def alike(vs:List Value)(ds:List PyData)(dx:PyData)(y:Value):Bool:=decide (∃(j:Nat) (d:PyData),vs[j]?=some y/\ds[j]?=some d/\PyData.eqv d dx=true)
open Classical in
def xAbs{h:Heap}{vs:List Value}{ds:List PyData}{m:List Addr}{dx:PyData}(r:ReadsAll h vs ds m)(c:PyData.canLayAll0 ds=true){j:Nat}{y:Value}{d:PyData}(e:vs[j]?=some y)(b:ds[j]?=some d):alike vs ds dx y=PyData.eqv d dx:=by
 unfold alike
 cases q:PyData.eqv d dx with
 |true=>exact qF ⟨j,d,e,b,q⟩
 |false =>
  refine decide_eq_false λ⟨p,d',i,a,q'⟩=>?_;obtain⟨n,s,g,l⟩:=xAbj r e;obtain⟨d2,o,f,k⟩:=xAbj r i;rw[b]at g;cases g;rw[a]at f;cases f;have:=SeqAt.Reads.unique _ _ _ _ _ (xAdf c b) l k;rw[←this,q]at q';cases q'
def xAok{k:List Addr}(r:ReadsAll h vs ds k)(c:PyData.canLayAll0 ds=true):vs.any (alike vs ds dx)=ds.any λd=>PyData.eqv d dx:=by
 have l:=SeqAt.ReadsAll.length _ _ _ r;rw[vg,yi,yi];constructor
 ·rintro⟨y,i,q⟩
  obtain⟨j,b,e⟩:=zx.mp i;obtain⟨d,_,f,_⟩:=xAbj r (j:=j) (by rw[qf b,e]);rw[xAbs r c (by rw[qf b,e]) f]at q;exact⟨d,qo f,q⟩
 ·rintro⟨d,g,q⟩
  obtain⟨j,b,e⟩:=zx.mp g
  have a:j<vs.length:=by omega
  refine⟨vs[j],wn a,?_⟩;rw[xAbs r c (qf a) (by rw[qf b,e])];exact q
inductive IrInD(u:Nat)(neg:Bool)(x:V)(y:V)(H:Hp)(Q:VK):Prop
 |mk (dx:_) (p:_) (ds:_) (xs:_) (h0_:DV H x dx) (h1_:y=.ref p) (h2_:(SqL H p xs\/SqT H p xs)) (h3_:DVs H xs ds) (h4_:dx.canLay0=true) (h5_:PyData.canLayAll0 ds=true) (h6_:dx.depth≤u) (h7_:Q (.bl (if neg then !(ds.any λd=>PyData.eqv d dx) else ds.any λd=>PyData.eqv d dx)) H):IrInD u neg x y H Q
def rInD(u:Nat)(a:Bool):R2:=λx y H Q=>IrInD u a x y H Q
def xAol(E:X.A.units+1+u<cLine):OpR X (compareOp .NotIn) (rInD u true):=by
 intro pins s σ H x y v w Q I C z h;obtain⟨dx,p,ds,xs,m,rfl,b,hs,n,g,G,q⟩:=h;cases z;obtain⟨F,t⟩:=m.reads I C
 have c:∀{a:List Value},Vals xs a->(∀y∈a,SeqAt.EqAt X.A.in1 s y v (alike a ds dx y))/\a.any (alike a ds dx)=ds.any λd=>PyData.eqv d dx:=λ{a} l=>by
  obtain⟨bs,f⟩:=hs.reads I l;refine⟨λy D=>?_,xAok f g⟩;obtain⟨j,B,e⟩:=zx.mp D
  have k:a[j]?=some y:=by rw[qf B,e]
  obtain⟨d,_,i,o⟩:=xAbj f k;rw[xAbs f g k i];exact SeqAt.eqAt_reads d dx _ s y v _ _ o t (xAdf g i) n (by show X.A.units+1+_<cLine;omega)
 rcases b with b|b
 ·obtain⟨a,r,pl,hz⟩:=I.list b
  obtain⟨k1,k2⟩:=c r;refine SeqAt.notIn_listAt (alike a ds dx) pl.isList (λw hw=>k1 w (by simpa using hw)) ⟨.bl _,H,I,Y,?_⟩;rw[List.any_toArray,k2];exact q
 ·obtain⟨a,r,pl,hz⟩:=I.tuple b
  obtain⟨k1,k2⟩:=c r;refine SeqAt.notIn_tupleAt (alike a ds dx) pl (λw hw=>k1 w (by simpa using hw)) ⟨.bl _,H,I,Y,?_⟩;rw[List.any_toArray,k2];exact q
inductive IrIndexD(u:Nat)(o:V)(vs:List V)(H:Hp)(Q:VK):Prop
 |mk (x:_) (dx:_) (p:_) (ds:_) (xs:_) (j:Nat) (h0_:vs=[x]) (h1_:o=.ref p) (h2_:DV H x dx) (h3_:SqL H p xs) (h4_:DVs H xs ds) (h5_:dx.canLay0=true) (h6_:PyData.canLayAll0 ds=true) (h7_:dx.depth≤u) (h8_:(∃d,ds[j]?=some d/\PyData.eqv d dx=true)) (h9_:(∀(m:Nat) d,m<j->ds[m]?=some d->PyData.eqv d dx=false)) (h10_:Q (.int (j:Int)) H):IrIndexD u o vs H Q
def rIndexD(u:Nat):V->List V->Hp->VK->Prop:=λo vs H Q=>IrIndexD u o vs H Q
def xAom(hu:X.A.units+3+u<cLine):MtM X "list.index" (rIndexD u):=by
 intro pins s σ H o vs v us Q I U M h;obtain⟨x,dx,p,ds,xs,j,rfl,rfl,N,R,hs,T,i,hd,⟨d,K,O⟩,t,q⟩:=h;cases U;obtain⟨w,rfl,l⟩:=M.one;obtain⟨as,V⟩:=N.reads I l;obtain⟨a,r,pl,hz⟩:=I.list R;obtain⟨⟨P,L,D,S⟩,n,e,c1,c2,G⟩:=pl;dsimp only at c1 c2 G;subst c1 c2 G;obtain⟨bs,c⟩:=hs.reads I r;have J:=SeqAt.ReadsAll.length _ _ _ c
 have f:j<a.length:=by
  have:=(qy.mp K).1;omega
 have hl:=r.length
 have C:sizeLine<2 ^ 63 - 1:=by decide
 refine call_meets F.slot_list_index ⟨_,e,Y⟩ F.entry_list_index (F.args_list_index_2 _ _) (SeqAt.list_indexAt p a.toArray n none S w (alike a ds dx) j (by simpa using f) (by omega) ?_ ?_) ⟨e,λy B=>?_,?_⟩
 ·rw[gu,xAbs c i (qf f) K]
  exact O
 ·intro m z k
  have g:m<a.length:=by simpa using z
  obtain⟨d',_,b,_⟩:=xAbj c (qf g);rw[gu,xAbs c i (qf g) b];exact t m d' k b
 ·have B:y∈a:=by simpa using B
  obtain⟨m,z,Z⟩:=zx.mp B
  have E:a[m]?=some y:=by rw[qf z,Z]
  obtain⟨d',_,b,W⟩:=xAbj c E;rw[xAbs c i E b];exact SeqAt.eqAt_reads d' dx _ s y w _ _ W V (xAdf i b) T (by show X.A.units+1+_<cLine;omega)
 ·exact⟨.int j,H,I.tok _,⟨_,Y⟩,q⟩
inductive IrCountD(u:Nat)(o:V)(vs:List V)(H:Hp)(Q:VK):Prop
 |mk (x:_) (dx:_) (p:_) (ds:_) (xs:_) (h0_:vs=[x]) (h1_:o=.ref p) (h2_:DV H x dx) (h3_:SqL H p xs) (h4_:DVs H xs ds) (h5_:dx.canLay0=true) (h6_:PyData.canLayAll0 ds=true) (h7_:dx.depth≤u) (h8_:Q (.int ((ds.countP λd=>PyData.eqv d dx:Nat):Int)) H):IrCountD u o vs H Q
def rCountD(u:Nat):V->List V->Hp->VK->Prop:=λo vs H Q=>IrCountD u o vs H Q
def xAgb(f:Value->Bool)(r:ReadsAll h vs ds a):(∀(j:Nat) y d,vs[j]?=some y->ds[j]?=some d->f y=PyData.eqv d dx)->vs.countP f=ds.countP λd=>PyData.eqv d dx:=by
 intro hf
 induction vs generalizing ds a with
 |nil=>cases r;rfl
 |cons v vs e =>
  cases r with
  |cons i g =>
   rw[List.countP_cons,List.countP_cons,hf 0 _ _ rfl rfl,e g λj y d c b=>hf (j+1) y d (by simpa using c) (by simpa using b)]
def xAon(S:X.A.units+3+u<cLine):MtM X "list.count" (rCountD u):=by
 intro pins s σ H o vs v us Q I M B h;obtain⟨x,dx,p,ds,xs,rfl,rfl,C,J,hs,L,g,U,q⟩:=h;cases M;obtain⟨w,rfl,f⟩:=B.one;obtain⟨T,O⟩:=C.reads I f;obtain⟨a,r,pl,hz⟩:=I.list J;obtain⟨⟨G,z,k,K⟩,n,e,c1,c2,t⟩:=pl;dsimp only at c1 c2 t;subst c1 c2 t;obtain⟨bs,c⟩:=hs.reads I r;refine call_meets F.slot_list_count ⟨_,e,Y⟩ F.entry_list_count (F.args_list_count_2 _ _) (SeqAt.list_countAt p a.toArray n none K w (alike a ds dx)) ⟨e,λy i=>?_,?_⟩
 ·have i:y∈a:=by simpa using i
  obtain⟨m,R,P⟩:=zx.mp i
  have l:a[m]?=some y:=by rw[qf R,P]
  obtain⟨d',_,b,N⟩:=xAbj c l;rw[xAbs c g l b];exact SeqAt.eqAt_reads d' dx _ s y w _ _ N O (xAdf g b) L (by show X.A.units+1+_<cLine;omega)
 ·refine⟨.int _,H,I.tok _,⟨_,Y⟩,?_⟩
  rw[gv,xAgb (dx:=dx) _ c λj y d D E=>xAbs c g D E];exact q
end
def xAvn{g:TG}(hz:xs.length≤sizeLine)(c:Nat->List V->Hp->Prop)(h0:c 0 [] H)(s:∀i zs H,c i zs H->SqL H a xs)(hs:∀i x zs H' p (n:V->Hp->Prop) (l:Hp->Prop),xs[i]?=some x->c i zs H'->H' p=none->(∀v j,c (i+1) (zs++[v]) j->n v j)->(∀f,c (i+1) zs f->l f) →
   g (.ref p) (compSt own fr σ) (upd H' p (.tup [.int i,x])) λh H2=>o h H2 λb f=>if b=true then te h f n else l f)(w:∀H' p zs,c xs.length zs H'->zs.length≤xs.length->H' p=none->Q (.ref p) (upd H' p (.lst zs))):LCb own fr g o te σ Q (Ite a) H:=by
 refine⟨λi m zs H=>m=xs.length - i/\i≤xs.length/\zs.length≤i/\c i zs H,⟨xs.length,by simp,Nat.zero_le _,Nat.zero_le _,h0⟩,?_⟩;rintro i m zs H ⟨rfl,hi,z,p⟩;have k:=s _ _ H p
 by_cases d:i<xs.length
 ·refine .inr ⟨⟨xs,xs[i],k,by simp[d]⟩,by omega,λv H' y=>?_⟩
  obtain⟨r,x,hn,t,rfl,rfl⟩:=y
  refine hs i x zs H r _ _ (t xs k) p hn (λv j u=>⟨xs.length - (i+1),by omega,Y,d,?_,u⟩) λf A=>⟨xs.length - (i+1),by omega,Y,d,by omega,A⟩
  rw[qm,zk];omega
 ·have e:i=xs.length:=by omega
  subst e;exact .inl ⟨⟨xs,k,Y⟩,λq B=>w H q zs p z B⟩
def hu64{k:Nat}(a:Room k A):A.units+64<cLine:=a.units
def hu63{k:Nat}(a:Room k A):A.units+1+63<cLine:=by have:=a.units;omega
def hu61{k:Nat}(a:Room k A):A.units+3+61<cLine:=by have:=a.units;omega
def cutS(z:Str)(lo hi:Option Int):Str:=⟨((z.cps.toList.drop (HT.sIx z.length 0 lo)).take (HT.sIx z.length z.length hi - HT.sIx z.length 0 lo)).toArray⟩
def xAek(i:Int)(n:Nat):max 0 (min (if i<0 then i+(n:Int) else i) (n:Int))=((if i<0 then(i+(n:Int)).toNat else min i.toNat n:Nat):Int):=by
 by_cases h:i<0
 ·rw[qt h,qt h];omega
 ·rw[qs h,qs h];omega
def xAqp(lo hi:Option Int)(n:Nat):Builtin.Str.strSliceIndices lo hi 1 n=(List.range (HT.sIx n n hi - HT.sIx n 0 lo)).map (HT.sIx n 0 lo+·):=by
 rw[←sliceRange_one];unfold Builtin.Str.strSliceIndices
 cases lo with
 |none=>cases hi with
  |none=>rfl
  |some j =>
   show sliceRange 0 (max 0 (min (if j<0 then j+(n:Int) else j) (n:Int))) 1=_;rw[xAek];rfl
 |some i=>cases hi with
  |none =>
   show sliceRange (max 0 (min (if i<0 then i+(n:Int) else i) (n:Int))) n 1=_;rw[xAek];rfl
  |some j =>
   show sliceRange (max 0 (min (if i<0 then i+(n:Int) else i) (n:Int))) (max 0 (min (if j<0 then j+(n:Int) else j) (n:Int))) 1=_;rw[xAek,xAek];rfl
section
variable {X:Cx}
inductive IrSlX(x:V)(lo:Option Int)(hi:Option Int)(H:Hp)(Q:VK):Prop
 |mk (z:_) (h0_:x=.str z) (h1_:z.length≤sizeLine) (h2_:Q (.str (cutS z lo hi)) H):IrSlX x lo hi H Q
def rSlX:V->Option Int->Option Int->Hp->VK->Prop:=λx lo hi H Q=>IrSlX x lo hi H Q
def xAkl(z:Str)(l u:Option (Int×Tok)):((slicePicked z l u none).filterMap (z.cps[·]?))=(cutS z (l.map (·.1)) (u.map (·.1))).cps.toList:=by
 unfold slicePicked cutS;rw[show((none:Option (Int×Tok)).map (·.1)).getD 1=(1:Int) from rfl,xAqp,pick_run]
def xAvo:SlR X rSlX:=by
 intro pins s σ H x v p r lo hi k Q I n hs pl m h;obtain⟨z,rfl,hz,q⟩:=h;obtain⟨t,rfl⟩:=n;refine⟨"str",_,F.slot_str_getitem.lookup,typeIs_str _ z t,?_⟩
 have a:∀l u:Option (Int×Tok),l.map (·.1)=lo->u.map (·.1)=hi->s.heap.IsSlice k l u none->wpAny (model X.prog X.w) X.A (getItem (.str z t) (.ref k)) (EP X pins σ Q) X.xe s:=λl u i g d=>by
  refine wpAny_getItem_str_slice (st:=none) d rfl ?_;have j:=xAkl z l u;rw[i,g]at j;unfold sliceMade
  split
  ·rename_i b
   have o:(slicePicked z l u none).length=z.length:=by
    rw[zd]at b;exact beq_iff_eq.mp b.2
   have e:cutS z lo hi=z:=by
    have h1:(slicePicked z l u none).length=HT.sIx z.length z.length hi - HT.sIx z.length 0 lo:=by
     unfold slicePicked;rw[show((none:Option (Int×Tok)).map (·.1)).getD 1=(1:Int) from rfl,xAqp,i,g,qc,vj]
    have y:HT.sIx z.length z.length hi≤z.length:=by unfold HT.sIx;split <;> (try split) <;> omega
    have h2:HT.sIx z.length 0 lo=0\/z.length=0:=by omega
    unfold cutS;rcases h2 with h2|h2
    ·rw[h2]
     rw[h2]at h1
     rw[show HT.sIx z.length z.length hi - 0=z.cps.toList.length from by
      have:z.cps.toList.length=z.length:=by simp;rfl
      omega,yj,wb]
    ·have:z.cps.toList=[]:=by
      have:z.cps.size=0:=h2;simpa using this
     rw[this];obtain⟨c⟩:=z
     simp at this
     simp[this]
   exact⟨.str z,H,I,⟨t,Y⟩,e▸q⟩
  ·have e:(⟨((slicePicked z l u none).filterMap (z.cps[·]?)).toArray⟩:Str)=cutS z lo hi:=by
    rw[j]
   have f:(cutS z lo hi).length≤z.length:=by
    unfold cutS;show(List.toArray _).size≤z.length;rw[qz,zj,zo];show _≤z.cps.size
    have:z.cps.toList.length=z.cps.size:=by simp
    omega
   rw[e];exact⟨qh f hz,.str _,H,I.tok _,⟨_,Y⟩,q⟩
 cases pl <;> cases m
 ·exact a none none rfl rfl hs
 ·exact a none (some (_,_)) rfl rfl hs
 ·exact a (some (_,_)) none rfl rfl hs
 ·exact a (some (_,_)) (some (_,_)) rfl rfl hs
end
def xAcd(B:Nat):∀(a:List Int),(∀n∈a,0≤n/\n≤(B:Int))->∀j,0≤(a.take j).sum/\(a.take j).sum≤(a.length * B:Nat)
 |[],_,j=>by simp
 |n::a,h,0=>by
  simp
  exact Int.mul_nonneg (by omega) (by omega)
 |n::a,h,j+1=>by
  have c:=xAcd B a (λm b=>h m (qw _ b)) j;have hn:=h n ql;rw[List.take_succ_cons,ww,zc,Nat.succ_mul];omega
section
variable {X:Cx}
inductive IrSum(B:Nat)(xs:List V)(H:Hp)(Q:VK):Prop
 |mk (a:_) (ns:_) (h0_:xs=[.ref a]) (h1_:(SqL H a (List.map V.int ns)\/SqT H a (List.map V.int ns))) (h2_:(∀n∈ns,0≤n/\n≤(B:Int))) (h3_:ns.length * B<2 ^ 62) (h4_:Q (.int ns.sum) H):IrSum B xs H Q
def rSum(B:Nat):List V->Hp->VK->Prop:=λxs H Q=>IrSum B xs H Q
def xAkm{B:Nat}{a:List Int}(h:∀n∈a,0≤n/\n≤(B:Int))(d:a.length * B<2 ^ 62):∀j,j<a.length->InLong (a.getD j 0)/\InLong (preSum (λi=>a.getD i 0) (j+1)):=λj b=>by
 have h1:=xAcd B a h (j+1);have h2:=h a[j] (wn b);have c:B≤a.length * B:=Nat.le_mul_of_pos_left B (by omega);rw[preSum_getD]
 have e:a.getD j 0=a[j]:=by rw[qq,qf b];rfl
 rw[e];unfold InLong;omega
def xAoo(B:Nat)(J:X.calm=true):CallR X (.builtin "sum") (rSum B):=by
 intro pins s σ H xs us Q I r h;obtain⟨a,f,rfl,y,C,F,q⟩:=h;obtain⟨u,rfl,D⟩:=vals1 r;cases D
 have m:∀{c:List Value},Vals (List.map V.int f) c->∀(i:Nat) (v:Value),c.toArray[i]?=some v->∃t,v=Value.int (f.getD i 0) t:=λ{c} l i v w=>by
  have hi:c[i]?=some v:=by simpa using w
  have C:i<f.length:=by
   have h1:=(qy.mp hi).1;have h2:=l.length;rw[qc]at h2;omega
  obtain⟨u,G,D⟩:=l.get (i:=i) (x:=V.int f[i]) (by rw[qi,qf C];rfl);rw[hi]at G;cases G;obtain⟨t,rfl⟩:=D;exact⟨t,by rw[qq,qf C];rfl⟩
 have last:preSum (λi=>f.getD i 0) f.length=f.sum:=by rw[preSum_getD,wb]
 have stay:∀{h':Heap} {K:Obj},(∀b o,b∉[s.heap.objs.size]->(s.heap.push K).get? b=some o->h'.get? b=some o)->∀b o,s.heap.get? b=some o->h'.get? b=some o:=λn b o e=>n b o (λz=>by
   have:=q0 e;rw[qu.mp z]at this
   exact absurd this (zr _)) (qA _ e)
 rcases y with y|y
 ·obtain⟨c,l,p,hz⟩:=I.list y
  have d:c.toArray.size=f.length:=by rw[qz,←l.length,qc]
  have k:a<s.heap.objs.size:=by obtain⟨_,e,_⟩:=p.isList;exact q0 e
  refine call_sum_walk (wpAny_pyIter_list p.isList ?_);refine⟨s.heap.objs.size,_,_,_,_,_,λi=>f.getD i 0,Y,Walks.list (show X.A.in1.handled=none from I.ok.hd J) s.heap.objs.size a (qg k) c.toArray,⟨⟨_,qB _ rfl,Y,Y⟩,p.isList.push _⟩,λb g=>?_,λi v w=>m l i v w,λj E=>xAkm C F j (by rw[←d];exact E),λh' tk t' n=>?_⟩
  ·show b<(s.heap.push _).objs.size
   rw[Heap.size_push]
   simp only[List.mem_cons,List.not_mem_nil,or_false]at g
   rcases g with rfl|rfl
   ·exact zw _
   ·exact zq k
  ·rw[d,last]
   exact⟨.int f.sum,H,I.kept (stay n),⟨_,Y⟩,q⟩
 ·obtain⟨c,l,p,hz⟩:=I.tuple y
  have d:c.toArray.size=f.length:=by rw[qz,←l.length,qc]
  have k:a<s.heap.objs.size:=by obtain⟨_,e,_⟩:=p;exact q0 e
  refine call_sum_walk (wpAny_pyIter_tuple p ?_);refine⟨s.heap.objs.size,_,_,_,_,_,λi=>f.getD i 0,Y,Walks.tuple (show X.A.in1.handled=none from I.ok.hd J) s.heap.objs.size a (qg k) c.toArray,⟨⟨_,qB _ rfl,Y,Y⟩,Heap.IsTuple.push p _⟩,λb g=>?_,λi v w=>m l i v w,λj E=>xAkm C F j (by rw[←d];exact E),λh' tk t' n=>?_⟩
  ·show b<(s.heap.push _).objs.size
   rw[Heap.size_push]
   simp only[List.mem_cons,List.not_mem_nil,or_false]at g
   rcases g with rfl|rfl
   ·exact zw _
   ·exact zq k
  ·rw[d,last]
   exact⟨.int f.sum,H,I.kept (stay n),⟨_,Y⟩,q⟩
end
def xAkn:∀{us:List Value},Vals (a.map V.int) us->∃xs:List (Int×Tok),us=xs.map (λp=>Value.int p.1 p.2)/\xs.map (·.1)=a:=by
 induction a with
 |nil=>intro us r;cases r;exact⟨[],Y,Y⟩
 |cons n a d =>
  intro us r
  cases r with
  |cons b c =>
   obtain⟨t,rfl⟩:=b;obtain⟨xs,h1,h2⟩:=d c;exact⟨(n,t)::xs,by rw[h1];rfl,by rw[zh,h2]⟩
mutual
inductive DT(H:Hp):V->PyData->Prop
 |non:DT H .non .none
 |bl (b:Bool):DT H (.bl b) (.bool b)
 |int (i:Int):DT H (.int i) (.int i)
 |str (z:Str):DT H (.str z) (.str z)
 |tup {p:Addr} {xs:List V} {ds:List PyData}:H p=some (.tup xs)->DTs H xs ds->DT H (.ref p) (.tuple ds)
inductive DTs(H:Hp):List V->List PyData->Prop
 |nil:DTs H [] []
 |cons {x:V} {xs:List V} {d:PyData} {ds:List PyData}:DT H x d->DTs H xs ds->DTs H (x::xs) (d::ds)
end
mutual
def DT.same(e:Same H H'):∀{x:V} {d:PyData},DT H x d->DT H' x d
 |_,_,.non=>.non
 |_,_,.bl b=>.bl b
 |_,_,.int i=>.int i
 |_,_,.str z=>.str z
 |_,_,.tup h t=>.tup (e _ _ h) (DTs.same e t)
def DTs.same(e:Same H H'):∀{xs:List V} {ds:List PyData},DTs H xs ds->DTs H' xs ds
 |_,_,.nil=>.nil
 |_,_,.cons h t=>.cons (DT.same e h) (DTs.same e t)
end
mutual
def DT.dv:∀{x:V} {d:PyData},DT H x d->DV H x d
 |_,_,.non=>.non
 |_,_,.bl b=>.bl b
 |_,_,.int i=>.int i
 |_,_,.str z=>.str z
 |_,_,.tup h t=>.tup (SqT.of h) (DTs.dv t)
def DTs.dv:∀{xs:List V} {ds:List PyData},DTs H xs ds->DVs H xs ds
 |_,_,.nil=>.nil
 |_,_,.cons h t=>.cons (DT.dv h) (DTs.dv t)
end
section
variable {H:Hp}
def dv_str(h:DT H v (.str z)):v=.str z:=by cases h;rfl
def dv_int(h:DT H v (.int i)):v=.int i:=by cases h;rfl
def dv_tup(h:DT H v (.tuple ds)):∃p xs,v=.ref p/\H p=some (.tup xs)/\DTs H xs ds:=by
 cases h with
 |tup a b=>exact⟨_,_,Y,a,b⟩
def xAqq:∀{xs:List V} {ds:List PyData},DTs H xs ds->xs.length=ds.length
 |_,_,.nil=>rfl
 |_,_,.cons _ t=>by rw[zc,zc,xAqq t]
end
def xAvp{H:Hp}{a b:Addr}{xs:List V}{o:HO}(f:H a=some (.tup xs))(c:H b=some o)(d:∀ys,o≠.tup ys):a≠b:=λe=>by
 subst e;rw[f]at c;exact d xs (qC c).symm
mutual
def DT.wr{H:Hp}{a:Addr}{o o':HO}(e:H a=some o)(c:∀ys,o≠.tup ys):∀{x:V} {d:PyData},DT H x d->DT (upd H a o') x d
 |_,_,.non=>.non
 |_,_,.bl b=>.bl b
 |_,_,.int i=>.int i
 |_,_,.str z=>.str z
 |_,_,.tup h t=>.tup (by rw[xAaf (xAvp h e c)];exact h) (DTs.wr e c t)
def DTs.wr(e:H a=some o)(b:∀ys,o≠.tup ys):∀{xs:List V} {ds:List PyData},DTs H xs ds->DTs (upd H a o') xs ds
 |_,_,.nil=>.nil
 |_,_,.cons h t=>.cons (DT.wr e b h) (DTs.wr e b t)
end
def DTs.snoc:∀{xs:List V} {ds:List PyData},DTs H xs ds->DT H x d->DTs H (xs++[x]) (ds++[d])
 |_,_,.nil,h=>.cons h .nil
 |_,_,.cons a t,h=>.cons a (DTs.snoc t h)
def IsW(z:Str):Prop:=0<z.cps.size/\z.cps.size≤8/\∀c∈z.cps.toList,97≤c/\c≤122
def NameD(ws:List Str)(ds:List PyData):Prop:=∃w n,ds=[.str w,.int n]/\w∈ws/\1≤n/\n≤1000000
def PartD(ws:List Str)(ds:List PyData):Prop:=ds=[.str "",.int 0]\/NameD ws ds
def SnD(ws:List Str)(ds:List PyData):Prop:=∃w n i,ds=[.str w,.int n,.int i]/\w∈ws/\1≤n/\n≤1000000/\0≤i/\i≤1000000
def SideD(ws:List Str)(d:PyData):Prop:=∃ds z,d=.tuple [.tuple ds,.str z]/\SnD ws ds/\(z = "ahead" \/ z = "behind")
def SignD(ws:List Str)(d:PyData):Prop:=(∃c,d=.str ⟨#[c]⟩/\c∈("abcdefghijklmnopqrstuvwxyz .,":Str).cps.toList)\/(∃z,d=.tuple [.str "picture",.str z]/\IsW z)\/∃ds,d=.tuple [.str "refer",.tuple ds]/\PartD ws ds
def BrD(ws:List Str)(d:PyData):Prop:=d=.none\/∃w z,d=.tuple [.str w,.str z]/\w∈ws/\IsW z
def OrD(P:List PyData->Prop)(d:PyData):Prop:=d=.none\/∃n,d=.tuple n/\P n
def WnD(d:PyData):Prop:=d=.none\/∃z,d=.str z/\IsW z
inductive WhatD(ws:List Str)(num:Int):List PyData->Prop
 |nothing:WhatD ws num [.str "nothing"]
 |part (p:List PyData):PartD ws p->WhatD ws num [.str "part",.tuple p]
 |move (n p:List PyData):NameD ws n->PartD ws p->WhatD ws num [.str "move",.tuple n,.tuple p]
 |cut (n:List PyData):NameD ws n->WhatD ws num [.str "cut",.tuple n]
 |put (p:List PyData) (b:PyData) (sg:List PyData):PartD ws p->OrD (SnD ws) b->1≤sg.length->sg.length≤12->(∀d∈sg,SignD ws d)->WhatD ws num [.str "put",.tuple p,b,.tuple sg]
 |out (p:List PyData) (ns:List (List PyData)):PartD ws p->1≤ns.length->ns.length≤12->(∀n∈ns,SnD ws n)->ns.Nodup->WhatD ws num [.str "out",.tuple p,.tuple (ns.map .tuple)]
 |mark (p:List PyData) (s1 s2:PyData) (z:Str) (v:PyData):PartD ws p->SideD ws s1->SideD ws s2->IsW z->WnD v->WhatD ws num [.str "mark",.tuple p,s1,s2,.str z,v]
 |note (p:List PyData) (s1 s2:PyData) (z:Str):PartD ws p->SideD ws s1->SideD ws s2->IsW z->WhatD ws num [.str "note",.tuple p,s1,s2,.str z]
 |line (p:List PyData) (z:Str) (v:PyData):PartD ws p->z = "row" \/ z = "column"->OrD (NameD ws) v->WhatD ws num [.str "line",.tuple p,.str z,v]
 |strike (p n:List PyData):PartD ws p->NameD ws n->WhatD ws num [.str "strike",.tuple p,.tuple n]
 |cell (p a b:List PyData) (z:Str):PartD ws p->NameD ws a->NameD ws b->z = "" \/ IsW z->WhatD ws num [.str "cell",.tuple p,.tuple a,.tuple b,.str z]
 |leave (p:List PyData) (w t:Str) (y:Bool):PartD ws p->w∈ws->t∈(["read","note","write","give"]:List Str)->WhatD ws num [.str "leave",.tuple p,.str w,.str t,.bool y]
 |back (k:Str) (n:Int):k = "back" \/ k = "again"->1≤n->n<num->WhatD ws num [.str k,.int n]
 |bring (k:Str) (z:Str):k = "bring" \/ k = "drop"->IsW z->WhatD ws num [.str k,.str z]
 |pour (cs:List Int):cs.length=ws.length->(∀c∈cs,0≤c/\c≤1000000)->WhatD ws num [.str "pour",.tuple (cs.map .int)]
def xAvq(h:IsW z):z.length≤8:=h.2.1
def xAbb(h:IsW z):PyData.strOk z=true:=by
 unfold PyData.strOk;rw[←Array.all_toList,wv];intro c a;have:=h.2.2 c a;exact qF (by omega)
mutual
def noB:PyData->Bool
 |.none=>true
 |.bool _=>false
 |.int _=>true
 |.str _=>true
 |.list xs=>noBs xs
 |.tuple xs=>noBs xs
 |.dict _=>false
def noBs:List PyData->Bool
 |[]=>true
 |x::xs=>noB x&&noBs xs
end
mutual
def xAko:∀(a b:PyData),noB a=true->noB b=true->(PyData.eqv a b=true↔a=b)
 |.list xs,b,ha,hb=>by
  cases b with
  |list ys =>
   have:=xAgc xs ys (by simpa[noB] using ha) (by simpa[noB] using hb)
   simp only[PyData.eqv,this,PyData.list.injEq]
  |_=>simp[PyData.eqv]
 |.tuple xs,b,ha,hb=>by
  cases b with
  |tuple ys =>
   have:=xAgc xs ys (by simpa[noB] using ha) (by simpa[noB] using hb)
   simp only[PyData.eqv,this,PyData.tuple.injEq]
  |_=>simp[PyData.eqv]
 |.dict _,_,ha,_=>by simp[noB]at ha
 |.bool _,_,ha,_=>by simp[noB]at ha
 |.none,b,_,hb=>by cases b <;> simp_all [PyData.eqv,noB]
 |.int i,b,_,hb=>by cases b <;> simp_all [PyData.eqv,noB]
 |.str i,b,_,hb=>by cases b <;> simp_all [PyData.eqv,noB]
def xAgc:∀(xs ys:List PyData),noBs xs=true->noBs ys=true->(PyData.eqvAll xs ys=true↔xs=ys)
 |[],ys,_,_=>by cases ys <;> simp[PyData.eqvAll]
 |x::xs,ys,ha,hb=>by
  cases ys with
  |nil=>simp[PyData.eqvAll]
  |cons y ys =>
   rw[noBs,zd]at ha hb;have h1:=xAko x y ha.1 hb.1;have h2:=xAgc xs ys ha.2 hb.2
   simp only[PyData.eqvAll,Bool.and_eq_true,h1,h2,List.cons.injEq]
end
def xAbl:∀{xs:List PyData},(∀x∈xs,x.canLay0=true)->PyData.canLayAll0 xs=true
 |[],_=>rfl
 |x::xs,h=>by
  show(x.canLay0&&PyData.canLayAll0 xs)=true;rw[h x ql,xAbl λy a=>h y (qw _ a)];rfl
def xAvr{ds:List PyData}{d:PyData}(h:∀x∈ds,noB x=true)(a:noB d=true):(ds.any λx=>PyData.eqv x d)=true↔d∈ds:=by
 rw[yi];constructor
 ·rintro⟨x,b,e⟩
  rw[←(xAko x d (h x b) a).mp e];exact b
 ·intro c
  exact⟨d,c,(xAko d d a a).mpr rfl⟩
def SnD.plain(hw:∀w∈ws,IsW w)(h:SnD ws ds):noB (.tuple ds)=true/\(PyData.tuple ds).canLay0=true/\(PyData.tuple ds).depth=1:=by
 obtain⟨w,n,i,rfl,m,_⟩:=h;refine⟨Y,?_,Y⟩;show(PyData.strOk w&&(true&&(true&&true)))=true;rw[xAbb (hw w m)];rfl
def xAqr(h1:1≤b)(h2:b≤12)(a:1≤xs.length):1≤(cutV xs none (some b)).length/\(cutV xs none (some b)).length≤12:=by
 obtain⟨k,rfl⟩:=Int.eq_ofNat_of_zero_le (by omega:0≤b);unfold cutV;rw[HT.sIx_nat,HT.sIx_none,yj,zj];omega
def xAho{k:Nat}(h:k≤xs.length):(cutV xs none (some (k:Int))).length=k:=by
 unfold cutV;rw[HT.sIx_nat,HT.sIx_none,yj,zj];omega
def dts_ints(H:Hp):∀a:List Int,DTs H (a.map V.int) (a.map .int)
 |[]=>.nil
 |c::a=>.cons (.int c) (dts_ints H a)
def xAvs{α:Type}{l:List α}{x:α}(h:l.Nodup)(d:x∉l):(l++[x]).Nodup :=
 List.nodup_append.mpr ⟨h,zu.mpr ⟨λz=>(y7 z).elim,wm⟩,λa c b f e=>d (by rw[qu.mp f]at e;rw[←e];exact c)⟩
end L2
set_option maxHeartbeats 40000000
namespace Hs
open PySem L2 PyProof.Rows
structure Dd where
 who:Nat
 num:Nat
 hd:List Nat
 br:PyData
 wt:List PyData
abbrev at0(l:List Nat)(k:Nat):Nat:=l.getD k 0
abbrev rowOf(kn:List (List Nat))(i:Nat):List Nat:=kn.getD i []
def Cov(m:Nat)(ds:List Dd)(row:List Nat):Prop:=∀j k,j<m->1≤k->k≤at0 row j->∃e∈ds,e.who=j/\e.num=k/\∀i,i<m->at0 e.hd i≤at0 row i
structure Wh(m:Nat)(ds:List Dd):Prop where
 who:∀d∈ds,d.who<m
 len:∀d∈ds,d.hd.length=m
 own:∀d∈ds,at0 d.hd d.who+1=d.num
 uniq:ds.Pairwise λa b=>¬(a.who=b.who/\a.num=b.num)
 past:∀d∈ds,Cov m ds d.hd
structure Kn(m:Nat)(ds:List Dd)(kn:List (List Nat)):Prop where
 len:kn.length=m
 row:∀i,i<m->(rowOf kn i).length=m
 cov:∀i,i<m->Cov m ds (rowOf kn i)
 cnt:∀d∈ds,d.num≤at0 (rowOf kn d.who) d.who
def getD_set_self{α:Type}{l:List α}{i:Nat}{x d:α}(h:i<l.length):(l.set i x).getD i d=x:=by
 rw[qq,yw h];rfl
def xAas{α:Type}{l:List α}{i j:Nat}{x d:α}(h:i≠j):(l.set i x).getD j d=l.getD j d:=by
 rw[qq,vf h,←qq]
def getD_range(f:Nat->Nat)(h:a<m):at0 ((List.range m).map f) a=f a:=by
 unfold at0;rw[qq,qi,wx h];rfl
def Cov.mono{row:List Nat}(c:Cov m ds row)(h:∀d∈ds,d∈a):Cov m a row:=λj k h1 h2 b =>
 let⟨e,f,r⟩:=c j k h1 h2 b
 ⟨e,h e f,r⟩
def merged(m:Nat)(row b:List Nat)(o t:Nat):List Nat:=((List.range m).map λa=>max (at0 row a) (at0 b a)).set o (max (max (at0 row o) (at0 b o)) t)
def xAkp(m:Nat)(row a:List Nat)(o t:Nat):(merged m row a o t).length=m:=by unfold merged;simp
def xAel{row b:List Nat}{o t i:Nat}(hi:i<m)(c:o<m):at0 (merged m row b o t) i=if i=o then max (max (at0 row o) (at0 b o)) t else max (at0 row i) (at0 b i):=by
 unfold merged
 by_cases e:i=o
 ·subst e
  rw[qt rfl];exact getD_set_self (by simpa using hi)
 ·rw[qs e]
  show((((List.range m).map λa=>max (at0 row a) (at0 b a)).set o _).getD i 0)=_;rw[xAas (λz=>e z.symm)];exact getD_range _ hi
def xAkq{row:List Nat}(W:Wh m ds)(c:Cov m ds row)(l:e∈ds):Cov m ds (merged m row e.hd e.who e.num):=by
 have s:=W.who e l
 have up:∀i,i<m->at0 row i≤at0 (merged m row e.hd e.who e.num) i/\at0 e.hd i≤at0 (merged m row e.hd e.who e.num) i:=λi hi=>by
  rw[xAel hi s]
  split
  ·rename_i q
   subst q;omega
  ·omega
 intro j k p h1 h2;rw[xAel p s]at h2
 have g:k≤at0 row j->∃d∈ds,d.who=j/\d.num=k/\∀i,i<m->at0 d.hd i≤at0 (merged m row e.hd e.who e.num) i:=λh=>by
  obtain⟨d,n,a,b,f⟩:=c j k p h1 h;exact⟨d,n,a,b,λi hi=>qh (f i hi) (up i hi).1⟩
 have new:k≤at0 e.hd j->∃d∈ds,d.who=j/\d.num=k/\∀i,i<m->at0 d.hd i≤at0 (merged m row e.hd e.who e.num) i:=λh=>by
  obtain⟨d,n,a,b,f⟩:=W.past e l j k p h1 h;exact⟨d,n,a,b,λi hi=>qh (f i hi) (up i hi).2⟩
 split at h2
 ·rename_i q
  by_cases o:k≤at0 row j
  ·exact g o
  ·by_cases r:k≤at0 e.hd j
   ·exact new r
   ·have u:k≤e.num:=by rw[←q]at h2;omega
    have v:=W.own e l
    have t:k=e.num:=by rw[q]at r;omega
    exact⟨e,l,q.symm,t.symm,λi hi=>(up i hi).2⟩
 ·by_cases o:k≤at0 row j
  ·exact g o
  ·exact new (by omega)
def Kn.le(K:Kn m ds kn){row:List Nat}(c:Cov m ds row)(f:j<m):at0 row j≤at0 (rowOf kn j) j:=by
 by_cases h:1≤at0 row j
 ·obtain⟨e,d,a,b,_⟩:=c j _ f h (qd _)
  have:=K.cnt e d;rw[a,b]at this;exact this
 ·omega
def Kn.has(K:Kn m ds kn){j k:Nat}(c:j<m)(h1:1≤k)(h2:k≤at0 (rowOf kn j) j):∃e∈ds,e.who=j/\e.num=k :=
 let⟨e,d,a,b,_⟩:=K.cov j c j k c h1 h2
 ⟨e,d,a,b⟩
def Kn.merge(W:Wh m ds)(K:Kn m ds kn)(hi:i<m)(a:e∈ds)(k:at0 (rowOf kn i) e.who<e.num):Kn m ds (kn.set i (merged m (rowOf kn i) e.hd e.who e.num)):=by
 have l:=W.who e a
 have b:i<kn.length:=by rw[K.len];exact hi
 have c:=xAkq W (K.cov i hi) a
 have h:i≠e.who:=λz=>by
  have:=K.cnt e a;rw[←z]at this k;omega
 have own:at0 (merged m (rowOf kn i) e.hd e.who e.num) i=at0 (rowOf kn i) i:=by
  rw[xAel hi l,qs h];have:=K.le (W.past e a) hi;omega
 refine⟨by rw[wf];exact K.len,λj f=>?_,λj f=>?_,λd g=>?_⟩
 ·by_cases q:i=j
  ·subst q
   show((kn.set i _).getD i []).length=m;rw[getD_set_self b];exact xAkp _ _ _ _ _
  ·show((kn.set i _).getD j []).length=m
   rw[xAas q];exact K.row j f
 ·by_cases q:i=j
  ·subst q
   show Cov m ds ((kn.set i _).getD i []);rw[getD_set_self b];exact c
  ·show Cov m ds ((kn.set i _).getD j [])
   rw[xAas q];exact K.cov j f
 ·by_cases q:i=d.who
  ·show d.num≤at0 ((kn.set i _).getD d.who []) d.who
   rw[←q,getD_set_self b,own,q];exact K.cnt d g
  ·show d.num≤at0 ((kn.set i _).getD d.who []) d.who
   rw[xAas q];exact K.cnt d g
def nextD(kn:List (List Nat))(i:Nat)(b:PyData)(a:List PyData):Dd:=⟨i,at0 (rowOf kn i) i+1,rowOf kn i,b,a⟩
def Wh.next(W:Wh m ds)(K:Kn m ds kn)(hi:i<m):Wh m (ds++[nextD kn i e c]):=by
 have sub:∀d∈ds,d∈ds++[nextD kn i e c]:=λd f=>yg _ f
 have two:∀{P:Dd->Prop},(∀d∈ds,P d)->P (nextD kn i e c)->∀d∈ds++[nextD kn i e c],P d:=λh1 h2 d f=>by
  rcases zb.mp f with q|q
  ·exact h1 d q
  ·rw[qu.mp q];exact h2
 refine⟨two W.who hi,two W.len (K.row i hi),two W.own rfl,?_,two (λd f=>(W.past d f).mono sub) ((K.cov i hi).mono sub)⟩;refine List.pairwise_append.mpr ⟨W.uniq,List.pairwise_singleton _ _,λa h b j z=>?_⟩;rw[qu.mp j]at z;have:=K.cnt a h;rw[z.1,z.2]at this;show False;have q:(nextD kn i e c).num=at0 (rowOf kn i) i+1:=rfl;have g:(nextD kn i e c).who=i:=rfl;rw[q,g]at this;omega
def Kn.next(W:Wh m ds)(K:Kn m ds kn)(hi:i<m):Kn m (ds++[nextD kn i l h]) (kn.set i ((rowOf kn i).set i (at0 (rowOf kn i) i+1))):=by
 have sub:∀d∈ds,d∈ds++[nextD kn i l h]:=λd n=>yg _ n
 have c:i<kn.length:=by rw[K.len];exact hi
 have o:i<(rowOf kn i).length:=by rw[K.row i hi];exact hi
 have up:∀a,at0 (rowOf kn i) a≤at0 ((rowOf kn i).set i (at0 (rowOf kn i) i+1)) a:=λa=>by
  by_cases q:i=a
  ·subst q
   show _≤((rowOf kn i).set i _).getD i 0;rw[getD_set_self o];omega
  ·show _≤((rowOf kn i).set i _).getD a 0
   rw[xAas q];exact qd _
 refine⟨by rw[wf];exact K.len,λj p=>?_,λj p=>?_,λd n=>?_⟩
 ·by_cases q:i=j
  ·subst q
   show((kn.set i _).getD i []).length=m;rw[getD_set_self c,wf];exact K.row i hi
  ·show((kn.set i _).getD j []).length=m
   rw[xAas q];exact K.row j p
 ·by_cases q:i=j
  ·subst q
   show Cov m _ ((kn.set i _).getD i []);rw[getD_set_self c];intro a k t h1 h2
   by_cases r:k≤at0 (rowOf kn i) a
   ·obtain⟨e,s,x,y,f⟩:=K.cov i hi a k t h1 r
    exact⟨e,sub e s,x,y,λb v=>qh (f b v) (up b)⟩
   ·have u:i=a:=Classical.byContradiction λz=>by
     have g:k≤((rowOf kn i).set i (at0 (rowOf kn i) i+1)).getD a 0:=h2;rw[xAas z]at g;exact r g
    subst u;have g:k≤((rowOf kn i).set i (at0 (rowOf kn i) i+1)).getD i 0:=h2;rw[getD_set_self o]at g;exact⟨nextD kn i l h,z8 _ (qu.mpr rfl),Y,by show at0 (rowOf kn i) i+1=k;omega,λb _=>up b⟩
  ·show Cov m _ ((kn.set i _).getD j [])
   rw[xAas q];exact(K.cov j p).mono sub
 ·rcases zb.mp n with q|q
  ·have:=K.cnt d q
   by_cases r:i=d.who
   ·show d.num≤at0 ((kn.set i _).getD d.who []) d.who
    rw[←r,getD_set_self c];rw[←r]at this;exact qh this (up i)
   ·show d.num≤at0 ((kn.set i _).getD d.who []) d.who
    rw[xAas r];exact this
  ·rw[qu.mp q]
   show at0 (rowOf kn i) i+1≤at0 ((kn.set i _).getD i []) i;rw[getD_set_self c];show _≤((rowOf kn i).set i _).getD i 0;rw[getD_set_self o];exact qd _
def Kn.start(m:Nat):Kn m [] (List.replicate m (List.replicate m 0))/\Wh m []:=by
 have z:∀i j,at0 (rowOf (List.replicate m (List.replicate m 0)) i) j=0:=λi j=>by
  unfold at0 rowOf;rw[qq,qq,vz]
  split
  ·show((List.replicate m 0)[j]?).getD 0=0
   rw[vz]
   split <;> rfl
  ·rfl
 refine⟨⟨by simp,λi hi=>?_,λi hi j k _ h1 h2=>?_,(λd a=>nomatch a)⟩,⟨(λd a=>nomatch a),(λd a=>nomatch a),(λd a=>nomatch a),List.Pairwise.nil,(λd a=>nomatch a)⟩⟩
 ·unfold rowOf
  rw[qq,vz,qt hi]
  simp
 ·rw[z]at h2
  omega
def xAix{α:Type}:∀{l:List α} {i j:Nat} {x:α},l.Nodup->l[i]?=some x->l[j]?=some x->i=j
 |[],_,_,_,_,h,_=>nomatch h
 |a::l,0,0,_,_,_,_=>rfl
 |a::l,0,j+1,x,nd,h1,h2=>by
  cases h1;exact absurd (List.mem_of_getElem? (by simpa using h2)) (List.nodup_cons.mp nd).1
 |a::l,i+1,0,x,nd,h1,h2=>by
  cases h2;exact absurd (List.mem_of_getElem? (by simpa using h1)) (List.nodup_cons.mp nd).1
 |a::l,i+1,j+1,x,nd,h1,h2=>congrArg (·+1) (xAix (List.nodup_cons.mp nd).2 (by simpa using h1) (by simpa using h2))
def xAhp{α:Type}:∀{l:List α} {i:Nat} {x:α},l.Nodup->x∉l->(l.set i x).Nodup
 |[],_,_,nd,_=>nd
 |a::l,0,x,nd,h=>zu.mpr ⟨λm=>h (qw _ m),(zu.mp nd).2⟩
 |a::l,i+1,x,nd,h=>zu.mpr ⟨λm=>by
   rcases y8 m with m|m
   ·exact(zu.mp nd).1 m
   ·exact h (by rw[m];exact ql),xAhp (zu.mp nd).2 λm=>h (qw _ m)⟩
abbrev nV(n:Nat):V:=.int (n:Int)
abbrev rowV(r:List Nat):List V:=r.map nV
def keyD(d:Dd):List Key:=[.inl (d.who:Int),.inl (d.num:Int)]
def DeedAt(H:Hp)(ws:List Str)(v:V)(d:Dd):Prop:=∃q w a b x,v=.ref q/\ws[d.who]?=some w/\H q=some (.tup [.str w,nV d.num,.ref a,b,x])/\H a=some (.tup (rowV d.hd))/\DT H b d.br/\DT H x (.tuple d.wt)
def DeedAt.mono(h:DeedAt H ws v d)(s:Same H H'):DeedAt H' ws v d:=by
 obtain⟨q,w,f,b,x,e,h1,h2,a,g,c⟩:=h;exact⟨q,w,f,b,x,e,h1,s _ _ h2,s _ _ a,g.same s,c.same s⟩
def xAdg{H:Hp}{a b:Addr}{xs:List V}{o:HO}(f:H a=some (.tup xs))(c:H b=some o)(d:∀ys,o≠.tup ys):a≠b:=λe=>by
 subst e;rw[f]at c;exact d xs (qC c).symm
def DeedAt.wr(h:DeedAt H ws v d)(e:H a=some o)(c:∀ys,o≠.tup ys):DeedAt (upd H a o') ws v d:=by
 obtain⟨q,w,k,b,x,i,h1,h2,f,j,g⟩:=h;exact⟨q,w,k,b,x,i,h1,by rw[xAaf (xAdg h2 e c)];exact h2,by rw[xAaf (xAdg f e c)];exact f,j.wr e c,g.wr e c⟩
def Deeds(H:Hp)(ws:List Str)(des:List V)(ds:List Dd):Prop:=des.length=ds.length/\∀(i:Nat) (d:Dd),ds[i]?=some d->∃v,des[i]?=some v/\DeedAt H ws v d
def Deeds.mono(h:Deeds H ws des ds)(s:Same H H'):Deeds H' ws des ds:=⟨h.1,λi d e=>let⟨v,a,b⟩:=h.2 i d e;⟨v,a,b.mono s⟩⟩
def Deeds.wr(h:Deeds H ws des ds)(e:H a=some o)(c:∀ys,o≠.tup ys):Deeds (upd H a o') ws des ds:=⟨h.1,λi d f=>let⟨v,x,b⟩:=h.2 i d f;⟨v,x,b.wr e c⟩⟩
def Deeds.snoc(h:Deeds H ws des ds)(b:DeedAt H ws v d):Deeds H ws (des++[v]) (ds++[d]):=by
 refine⟨by simp[h.1],λi d' e=>?_⟩
 by_cases hi:i<ds.length
 ·rw[yk hi]at e
  obtain⟨x,h1,h2⟩:=h.2 i d' e;exact⟨x,by rw[yk (by rw[h.1];exact hi)];exact h1,h2⟩
 ·rw[yl (by omega)]at e
  have a:i - ds.length=0:=by
   have:=(qy.mp e).1
   simp at this
   omega
  rw[a]at e;cases e;exact⟨v,by rw[yl (by rw[h.1];omega),h.1,a];rfl,b⟩
structure HSt(H0 H:Hp)(kp tp dp:Addr)(ws:List Str)(kn:List (List Nat))(td ds:List Dd)(ks:List Addr)(kvs:List (List Key×V))(des:List V):Prop where
 same:Same H0 H
 kat:H kp=some (.lst (ks.map V.ref))
 klen:ks.length=kn.length
 rows:∀i k,ks[i]?=some k->H k=some (.lst (rowV (rowOf kn i)))
 nd:ks.Nodup
 kk:kp∉ks
 kd:kp≠dp
 dk:dp∉ks
 fk:H0 kp=none
 ft:H0 tp=none
 fd:H0 dp=none
 fr:∀k∈ks,H0 k=none
 tat:H tp=some (.dT kvs)
 tab:∀d∈td,∃q,valV kvs (keyD d)=some (.ref q)/\H q=some (.lst (rowV d.hd))/\q≠kp/\q≠dp/\q∉ks
 tlen:kvs.length≤td.length
 dat:H dp=some (.lst des)
 deeds:Deeds H ws des ds
section
variable {H0 H H':Hp}{kp tp dp:Addr}{ws:List Str}{kn:List (List Nat)}{td ds:List Dd}{ks:List Addr}{kvs:List (List Key×V)}{des:List V}
def HSt.mono(h:HSt H0 H kp tp dp ws kn td ds ks kvs des)(s:Same H H'):HSt H0 H' kp tp dp ws kn td ds ks kvs des where
 same:=h.same.trans s
 kat:=s _ _ h.kat
 klen:=h.klen
 rows:=λi k e=>s _ _ (h.rows i k e)
 nd:=h.nd
 kk:=h.kk
 kd:=h.kd
 dk:=h.dk
 fk:=h.fk
 ft:=h.ft
 fd:=h.fd
 fr:=h.fr
 tat:=s _ _ h.tat
 tab:=λd f=>let⟨q,a,b,c⟩:=h.tab d f;⟨q,a,s _ _ b,c⟩
 tlen:=h.tlen
 dat:=s _ _ h.dat
 deeds:=h.deeds.mono s
def HSt.tk(h:HSt H0 H kp tp dp ws kn td ds ks kvs des){k:Addr}(a:k∈ks):tp≠k:=λe=>by
 obtain⟨i,hi,b⟩:=zx.mp a;have:=h.rows i k (by rw[qf hi,b]);rw[←e,h.tat]at this;cases this
def HSt.tkp(h:HSt H0 H kp tp dp ws kn td ds ks kvs des):tp≠kp:=λe=>by
 have:=h.kat;rw[←e,h.tat]at this;cases this
def HSt.tdp(h:HSt H0 H kp tp dp ws kn td ds ks kvs des):tp≠dp:=λe=>by
 have:=h.dat;rw[←e,h.tat]at this;cases this
def xAkr:∀ys,(HO.lst xs)≠.tup ys:=λys e=>by cases e
def dt_tup:∀ys,(HO.dT xs)≠.tup ys:=λys e=>by cases e
def HSt.row(h:HSt H0 H kp tp dp ws kn td ds ks kvs des){k:Addr}(e:ks[i]?=some k):HSt H0 (upd H k (.lst (rowV r))) kp tp dp ws (kn.set i r) td ds ks kvs des:=by
 have c:k∈ks:=qo e;have hi:i<ks.length:=(qy.mp e).1;refine⟨h.same.wr (h.fr k c),?_,by rw[wf];exact h.klen,λj l f=>?_,h.nd,h.kk,h.kd,h.dk,h.fk,h.ft,h.fd,h.fr,?_,λd n=>?_,h.tlen,?_,h.deeds.wr (h.rows i k e) xAkr⟩
 ·rw[xAaf (λz=>h.kk (by rw[z];exact c))];exact h.kat
 ·by_cases q:i=j
  ·subst q
   have:l=k:=by rw[e]at f;exact(qC f).symm
   subst this;rw[xAac];show _=some (HO.lst (rowV ((kn.set i r).getD i [])));rw[getD_set_self (by rw[←h.klen];exact hi)]
  ·have g:l≠k:=λz=>by
    subst z;exact q (xAix h.nd e f)
   rw[xAaf g];show _=some (HO.lst (rowV ((kn.set i r).getD j [])));rw[xAas q];exact h.rows j l f
 ·rw[xAaf (h.tk c)];exact h.tat
 ·obtain⟨q,a,b,c1,c2,m⟩:=h.tab d n
  exact⟨q,a,by rw[xAaf (λz=>m (by rw[z];exact c))];exact b,c1,c2,m⟩
 ·rw[xAaf (λz=>h.dk (by rw[z];exact c))];exact h.dat
def HSt.swap(h:HSt H0 H kp tp dp ws kn td ds ks kvs des)(hi:i<kn.length)(n:H p=none):HSt H0 (upd (upd H p (.lst (rowV r))) kp (.lst ((ks.set i p).map V.ref))) kp tp dp ws (kn.set i r) td ds (ks.set i p) kvs des:=by
 have g:=h.mono (Same.new (o:=.lst (rowV r)) n)
 have s:i<ks.length:=by rw[h.klen];exact hi
 have f:∀{a o},H a=some o->p≠a:=λe z=>by subst z;rw[n]at e;cases e
 have A:p∉ks:=λm=>by
  obtain⟨j,B,u⟩:=zx.mp m;exact f (h.rows j p (by rw[qf B,u])) rfl
 have c:∀{x},x∈ks.set i p->x∈ks\/x=p:=λm=>y8 m
 have h0:H0 p=none:=by
  cases e:H0 p with
  |none=>rfl
  |some o=>rw[h.same _ _ e]at n;cases n
 refine⟨g.same.wr h.fk,xAac,by rw[wf,wf];exact h.klen,λj t l=>?_,?_,λm=>?_,h.kd,λm=>?_,h.fk,h.ft,h.fd,λk m=>?_,?_,λd y=>?_,h.tlen,?_,g.deeds.wr g.kat xAkr⟩
 ·by_cases q:i=j
  ·subst q
   rw[yw s]at l;cases l;rw[xAaf (f h.kat),xAac];show _=some (HO.lst (rowV ((kn.set i r).getD i [])));rw[getD_set_self hi]
  ·rw[vf q]at l
   have v:t∈ks:=qo l;rw[xAaf (λz=>h.kk (by rw[←z];exact v))];show _=some (HO.lst (rowV ((kn.set i r).getD j [])));rw[xAas q];exact g.rows j t l
 ·exact xAhp h.nd A
 ·rcases c m with m|m
  ·exact h.kk m
  ·exact f h.kat m.symm
 ·rcases c m with m|m
  ·exact h.dk m
  ·exact f h.dat m.symm
 ·rcases c m with m|m
  ·exact h.fr k m
  ·rw[m];exact h0
 ·rw[xAaf h.tkp];exact g.tat
 ·obtain⟨q,a,b,c1,c2,w⟩:=h.tab d y
  refine⟨q,a,?_,c1,c2,λm=>?_⟩
  ·rw[xAaf c1,xAaf (λz=>f b z.symm)];exact b
  ·rcases c m with m|m
   ·exact w m
   ·exact f b m.symm
 ·rw[xAaf (λz=>h.kd z.symm)];exact g.dat
def HSt.put(h:HSt H0 H kp tp dp ws kn td ds ks kvs des)(f:H q=some (.lst (rowV d.hd)))(o:q≠kp)(g:q≠dp)(l:q∉ks)(un:∀e∈td,keyD e≠keyD d) :
  HSt H0 (upd H tp (.dT (putK kvs (keyD d) (.ref q)))) kp tp dp ws kn (td++[d]) ds ks (putK kvs (keyD d) (.ref q)) des:=by
 have n:q≠tp:=λz=>by subst z;rw[h.tat]at f;cases f
 refine⟨h.same.wr h.ft,?_,h.klen,λi k e=>?_,h.nd,h.kk,h.kd,h.dk,h.fk,h.ft,h.fd,h.fr,xAac,λe j=>?_,?_,?_,h.deeds.wr h.tat dt_tup⟩
 ·rw[xAaf (λz=>h.tkp z.symm)];exact h.kat
 ·rw[xAaf (λz=>h.tk (qo e) z.symm)];exact h.rows i k e
 ·rcases zb.mp j with m|m
  ·obtain⟨q',a,b,c⟩:=h.tab e m
   refine⟨q',by rw[xAkb,qs (un e m)];exact a,?_,c⟩;rw[xAaf (λz=>by subst z;rw[h.tat]at b;cases b)];exact b
  ·rw[qu.mp m]
   exact⟨q,by rw[xAkb,qt rfl],by rw[xAaf n];exact f,o,g,l⟩
 ·have:=xAbw kvs (keyD d) (.ref q)
  have:=h.tlen;rw[qm,zk];omega
 ·rw[xAaf (λz=>h.tdp z.symm)];exact h.dat
def HSt.add(h:HSt H0 H kp tp dp ws kn td ds ks kvs des)(g:DeedAt H ws v d):HSt H0 (upd H dp (.lst (des++[v]))) kp tp dp ws kn td (ds++[d]) ks kvs (des++[v]):=by
 refine⟨h.same.wr h.fd,?_,h.klen,λi k e=>?_,h.nd,h.kk,h.kd,h.dk,h.fk,h.ft,h.fd,h.fr,?_,λe f=>?_,h.tlen,xAac,(h.deeds.snoc g).wr h.dat xAkr⟩
 ·rw[xAaf h.kd];exact h.kat
 ·rw[xAaf (λz=>h.dk (by rw[←z];exact qo e))];exact h.rows i k e
 ·rw[xAaf h.tdp];exact h.tat
 ·obtain⟨q,a,b,c1,c2,c⟩:=h.tab e f
  exact⟨q,a,by rw[xAaf c2];exact b,c1,c2,c⟩
def HSt.retab(h:HSt H0 H kp tp dp ws kn (td++[d]) ds ks kvs des)(e:keyD d2=keyD d)(a:d2.hd=d.hd):HSt H0 H kp tp dp ws kn (td++[d2]) ds ks kvs des :=
 ⟨h.same,h.kat,h.klen,h.rows,h.nd,h.kk,h.kd,h.dk,h.fk,h.ft,h.fd,h.fr,h.tat,λx b=>by
  rcases zb.mp b with m|m
  ·exact h.tab x (yg _ m)
  ·rw[qu.mp m,e,a]
   exact h.tab d (z8 _ (qu.mpr rfl)),by have:=h.tlen;rw[qm,zk]at this ⊢;exact this,h.dat,h.deeds⟩
def HSt.guard(h:HSt H0 H kp tp dp ws kn td ds ks kvs des)(l:H p=none)(s:Same H H')(e:H' p=some o):HSt (upd H0 p o) H' kp tp dp ws kn td ds ks kvs des:=by
 have c:∀{a u},H a=some u->a≠p:=λ{a u} f z=>by rw[z,l]at f;cases f
 have g:=h.mono s;refine⟨λb u q=>?_,g.kat,g.klen,g.rows,g.nd,g.kk,g.kd,g.dk,?_,?_,?_,λk d=>?_,g.tat,g.tab,g.tlen,g.dat,g.deeds⟩
 ·by_cases z:b=p
  ·subst z
   rw[xAac]at q;rw[e];exact q
  ·rw[xAaf z]at q
   exact g.same b u q
 ·rw[xAaf (c h.kat)];exact h.fk
 ·rw[xAaf (c h.tat)];exact h.ft
 ·rw[xAaf (c h.dat)];exact h.fd
 ·obtain⟨i,hi,j⟩:=zx.mp d
  rw[xAaf (c (h.rows i k (by rw[qf hi,j])))];exact h.fr k d
def HSt.weak(s:Same H0 H1)(h:HSt H1 H kp tp dp ws kn td ds ks kvs des):HSt H0 H kp tp dp ws kn td ds ks kvs des :=
 ⟨s.trans h.same,h.kat,h.klen,h.rows,h.nd,h.kk,h.kd,h.dk,s.free h.fk,s.free h.ft,s.free h.fd,λk a=>s.free (h.fr k a),h.tat,h.tab,h.tlen,h.dat,h.deeds⟩
def HSt.rowAt(h:HSt H0 H kp tp dp ws kn td ds ks kvs des)(hi:i<kn.length):∃k,ks[i]?=some k/\H k=some (.lst (rowV (rowOf kn i)))/\atI (ks.map V.ref) (i:Int)=some (.ref k):=by
 have a:i<ks.length:=by rw[h.klen];exact hi
 exact⟨ks[i],qf a,h.rows i _ (qf a),xAbq (by rw[qi,qf a];rfl)⟩
end
def atI_row{r:List Nat}{i:Nat}(h:i<r.length):atI (rowV r) (i:Int)=some (nV (at0 r i)):=xAbq (by
 rw[qi,qf h];unfold at0
 rw[qq,qf h];rfl)
def atI_0{α:Type}{xs:List α}{j:Nat}{v:α}(h:atI xs (j:Int)=some v):atI xs (0+(j:Int))=some v:=by rw[Int.zero_add];exact h
def ixN_nat(h:i<n):ixN n (i:Int)=some i:=by
 unfold ixN;rw[qt (by omega),qt (by omega)]
 simp
def rowV_set(r:List Nat)(i x:Nat):(rowV r).set i (nV x)=rowV (r.set i x):=by
 unfold rowV;rw[y9]
def max_nat(a b:Nat):(if(b:Int)>(a:Int) then(b:Int) else(a:Int))=((max a b:Nat):Int):=by
 split <;> omega
def flat_zero(m:Nat):(List.replicate ((m:Int).toNat) [V.int 0]).flatten=rowV (List.replicate m 0):=by
 rw[Int.toNat_natCast]
 induction m with
 |zero=>rfl
 |succ m a =>
  rw[wg,vh,a,wg];rfl
def keyD_ne(h:¬(a.who=b.who/\a.num=b.num)):keyD a≠keyD b:=λe=>by
 unfold keyD at e;injection e with e1 e2;injection e2 with e2 _;injection e1 with e1;injection e2 with e2;exact h ⟨by omega,by omega⟩
def replicate_rows(h:i<m):rowOf (List.replicate m (List.replicate m 0)) i=List.replicate m 0:=by
 unfold rowOf;rw[qq,vz,qt h];rfl
end Hs
namespace My
open PySem L2 PyProof.Rows
def szOk(h:Nat.ble n 1000=true):n≤sizeLine:=ze (xAag (ja h))
def cm3{x m:Int}{j:Nat}(h0:0<m)(h1:m≤2147483647)(c:j<31):-(2 ^ 64)<x % m+(0+(j:Int))+2/\x % m+(0+(j:Int))+2<2 ^ 64:=by
 have a:=xAay x h0;have b:=xAaz x h0;omega
def xAvt:∀c∈("abcdefghijklmnopqrstuvwxyz":Str).cps.toList,97≤c/\c≤122:=by decide +kernel
def xAqs{α:Type}{xs:List α}{i:Int}{v:α}(h:atI xs i=some v):v∈xs:=by
 unfold atI at h
 cases e:ixN xs.length i with
 |none=>rw[e]at h;cases h
 |some j=>rw[e]at h;exact qo h
def xAfc(z:Str)(c:Nat):(z++⟨#[c]⟩:Str).cps.toList=z.cps.toList++[c]:=by
 show(z.cps++#[c]).toList=_
 simp
def cut7(z:Str):(cutS z none (some 7)).cps.toList=z.cps.toList.take 7:=by
 unfold cutS;show(z.cps.toList.drop 0).take (min 7 z.length - 0)=_;rw[yj,ye]
 by_cases h:7≤z.length
 ·rw[ju h]
 ·have a:z.cps.toList.length=z.length:=by simp;rfl
  rw[Nat.min_eq_right (by omega),jb (by omega),jb (by omega)]
def xAsl(h:IsW z)(b:97≤c/\c≤122):IsW (cutS z none (some 7)++⟨#[c]⟩):=by
 have e:(cutS z none (some 7)++⟨#[c]⟩:Str).cps.toList=z.cps.toList.take 7++[c]:=by rw[xAfc,cut7]
 have sz:(cutS z none (some 7)++⟨#[c]⟩:Str).cps.size=(z.cps.toList.take 7).length+1:=by rw[←qx,e,qm,zk]
 refine⟨by omega,?_,λd a=>?_⟩
 ·rw[sz,zj];omega
 ·rw[e]at a
  rcases zb.mp a with q|q
  ·exact h.2.2 d (vk q)
  ·rw[qu.mp q];exact b
structure RL(H:Hp)(p:Addr)(ws:List Str):Prop where
 at':H p=some (.lst (ws.map V.str))
 pos:0<ws.length
 few:ws.length≤6
 wd:∀w∈ws,IsW w
def RL.mono(r:RL H p ws)(s:Same H H'):RL H' p ws:=⟨s _ _ r.at',r.pos,r.few,r.wd⟩
def RL.len(r:RL H p ws):(0:Int)<((ws.map V.str).length:Int)/\((ws.map V.str).length:Int)<1073741824:=by
 have a:=r.pos;have b:=r.few;rw[qc];omega
structure DR(H:Hp)(p:Addr)(ns:List Int)(n:Nat):Prop where
 at':H p=some (.lst (List.map V.int ns))
 len:n≤ns.length
 few:ns.length≤100
def DR.mono(r:DR H p a n)(s:Same H H'):DR H' p a n:=⟨s _ _ r.at',r.len,r.few⟩
def DR.get(r:DR H p a n)(k:Nat)(h:k<n):∃i,atI (List.map V.int a) (k:Int)=some (.int i):=by
 have b:k<a.length:=qv h r.len;exact⟨a[k],xAbq (by rw[qi,qf b];rfl)⟩
inductive Isp_fAt(vs:List V)(H:Hp)(Q:VK):Prop
 |mk (i:_) (n:Nat) (h0_:vs=[.int i,.int n]) (h1_:n≤30) (h2_:∀H' p ns,Same H H'->H p=none->DR H' p ns n->ns.length=n->Q (.ref p) H'):Isp_fAt vs H Q
def sp_fAt:Sp:=λvs H Q _=>Isp_fAt vs H Q
inductive Isp_fAz(vs:List V)(H:Hp)(Q:VK):Prop
 |mk (i:_) (h0_:vs=[.int i]) (h1_:∀z:Str,IsW z->Q (.str z) H):Isp_fAz vs H Q
def sp_fAz:Sp:=λvs H Q _=>Isp_fAz vs H Q
inductive Isp_fAy(vs:List V)(H:Hp)(Q:VK):Prop
 |mk (i:_) (h0_:vs=[.int i]) (h1_:∀H' p ws,Same H H'->H p=none->RL H' p ws->2≤ws.length->ws.Nodup->Q (.ref p) H'):Isp_fAy vs H Q
def sp_fAy:Sp:=λvs H Q _=>Isp_fAy vs H Q
inductive IspD(P:List Str->PyData->Prop)(vs:List V)(H:Hp)(Q:VK):Prop
 |mk (i:_) (p:_) (ws:_) (h0_:vs=[.int i,.ref p]) (h1_:RL H p ws) (h2_:∀H' v d,Same H H'->DT H' v d->P ws d->Q v H'):IspD P vs H Q
def spD(P:List Str->PyData->Prop):Sp:=λvs H Q _=>IspD P vs H Q
def tupP(P:List Str->List PyData->Prop)(ws:List Str)(d:PyData):Prop:=∃ds,d=.tuple ds/\P ws ds
def sp_fBa:Sp:=spD (tupP NameD)
def sp_fBb:Sp:=spD (tupP PartD)
def sp_fAg:Sp:=spD (tupP SnD)
def sp_fAv:Sp:=spD SideD
def sp_fAw:Sp:=spD SignD
def sp_fAm:Sp:=spD BrD
inductive Isp_fAn(vs:List V)(H:Hp)(Q:VK):Prop
 |mk (d:_) (p:_) (ws:_) (ns:_) (h0_:vs=[.ref d,.ref p]) (h1_:RL H p ws) (h2_:DR H d ns 1) (h3_:∀H' v sg,Same H H'->DT H' v (.tuple sg)->1≤sg.length->sg.length≤12->(∀x∈sg,SignD ws x)->Q v H'):Isp_fAn vs H Q
def sp_fAn:Sp:=λvs H Q _=>Isp_fAn vs H Q
inductive Isp_fAe(vs:List V)(H:Hp)(Q:VK):Prop
 |mk (d:_) (p:_) (ws:_) (ns:_) (h0_:vs=[.ref d,.ref p]) (h1_:RL H p ws) (h2_:DR H d ns 1) (h3_:∀H' v (nn:List (List PyData)),Same H H'->DT H' v (.tuple (nn.map .tuple))->1≤nn.length->nn.length≤12->(∀x∈nn,SnD ws x)->nn.Nodup->Q v H'):Isp_fAe vs H Q
def sp_fAe:Sp:=λvs H Q _=>Isp_fAe vs H Q
inductive Isp_fAb(vs:List V)(H:Hp)(Q:VK):Prop
 |mk (i:_) (d:_) (p:_) (ws:_) (ns:_) (h0_:vs=[.int i,.ref d,.ref p]) (h1_:RL H p ws) (h2_:DR H d ns 6) (h3_:∀H' v wt,Same H H'->DT H' v (.tuple wt)->(∀num,WhatD ws num wt)->Q v H'):Isp_fAb vs H Q
def sp_fAb:Sp:=λvs H Q _=>Isp_fAb vs H Q
inductive Isp_fAa(vs:List V)(H:Hp)(Q:VK):Prop
 |mk (i:_) (d:_) (p:_) (ws:_) (ns:_) (h0_:vs=[.int i,.ref d,.ref p]) (h1_:RL H p ws) (h2_:DR H d ns 6) (h3_:∀H' v wt,Same H H'->DT H' v (.tuple wt)->(∀num,WhatD ws num wt)->Q v H'):Isp_fAa vs H Q
def sp_fAa:Sp:=λvs H Q _=>Isp_fAa vs H Q
inductive Isp_fAx(vs:List V)(H:Hp)(Q:VK):Prop
 |mk (d:_) (p:_) (ws:_) (ns:_) (n:_) (h0_:vs=[.ref d,.ref p,.int n]) (h1_:RL H p ws) (h2_:DR H d ns 8) (h3_:∀H' v wt,Same H H'->DT H' v (.tuple wt)->WhatD ws n wt->Q v H'):Isp_fAx vs H Q
def sp_fAx:Sp:=λvs H Q _=>Isp_fAx vs H Q
section
variable {K:PySem.W.Frag}{vs:List V}{H:Hp}{Q:VK}{E:XK}
def xAvu(h:sp_fAt vs H Q E):vs.length=2:=by obtain⟨_,_,rfl,_⟩:=h;rfl
def xAvv(h:sp_fAz vs H Q E):vs.length=1:=by obtain⟨_,rfl,_⟩:=h;rfl
def xAvw(h:sp_fAy vs H Q E):vs.length=1:=by obtain⟨_,rfl,_⟩:=h;rfl
def xAvx(h:sp_fBa vs H Q E):vs.length=2:=by obtain⟨_,_,_,rfl,_⟩:=h;rfl
def xAvy(h:sp_fBb vs H Q E):vs.length=2:=by obtain⟨_,_,_,rfl,_⟩:=h;rfl
def xAvz(h:sp_fAg vs H Q E):vs.length=2:=by obtain⟨_,_,_,rfl,_⟩:=h;rfl
def xAwa(h:sp_fAv vs H Q E):vs.length=2:=by obtain⟨_,_,_,rfl,_⟩:=h;rfl
def xAwb(h:sp_fAw vs H Q E):vs.length=2:=by obtain⟨_,_,_,rfl,_⟩:=h;rfl
def xAwc(h:sp_fAm vs H Q E):vs.length=2:=by obtain⟨_,_,_,rfl,_⟩:=h;rfl
def xAwd(h:sp_fAn vs H Q E):vs.length=2:=by obtain⟨_,_,_,_,rfl,_⟩:=h;rfl
def xAwe(h:sp_fAe vs H Q E):vs.length=2:=by obtain⟨_,_,_,_,rfl,_⟩:=h;rfl
def xAwf(h:sp_fAb vs H Q E):vs.length=3:=by obtain⟨_,_,_,_,_,rfl,_⟩:=h;rfl
def xAwg(h:sp_fAa vs H Q E):vs.length=3:=by obtain⟨_,_,_,_,_,rfl,_⟩:=h;rfl
def xAwh(h:sp_fAx vs H Q E):vs.length=3:=by obtain⟨_,_,_,_,_,rfl,_⟩:=h;rfl
end
inductive Isp_fAu(vs:List V)(H:Hp)(Q:VK):Prop
 |mk (sp:_) (ns:_) (most:_) (h0_:vs=[.ref sp,.int most]) (h1_:SqL H sp (List.map V.int ns)) (h2_:ns.length≤63) (h3_:∀H' p rp dp ws ds des,Same H H'->H p=none->H' p=some (.tup [.ref rp,.ref dp])->RL H' rp ws->2≤ws.length->ws.Nodup->H dp=none->H' dp=some (.lst des)->Hs.Deeds H' ws des ds->Hs.Wh ws.length ds->(∀d∈ds,BrD ws d.br/\WhatD ws d.num d.wt)->ds.length≤ns.length - 1->Q (.ref p) H'):Isp_fAu vs H Q
def sp_fAu:Sp:=λvs H Q _=>Isp_fAu vs H Q
def xAwi(h:sp_fAu vs H Q E):vs.length=2:=by obtain⟨_,_,_,rfl,_⟩:=h;rfl
def xAks(b:Bool):(0:Int)≤(if b=true then 1 else 0):=by cases b <;> decide
def xAfd(b:Bool):(if b=true then 1 else 0:Int)<(([x,y]:List V).length:Int):=by cases b <;> simp
def xAfe{a:List Int}{lo hi:Option Int}{x:V}(h:x∈cutV (List.map V.int a) lo hi):∃m,x=V.int m:=by
 unfold cutV at h;obtain⟨n,_,e⟩:=qj.mp (jv (vk h));exact⟨n,e.symm⟩
def lastC(z:Str):Option Nat:=z.cps.toList.getLast?
def Chain(ws:List Str)(i:Nat)(w:Str):Prop:=w∉ws\/∃S:List Str,S.Nodup/\(∀x∈S,x∈ws)/\i≤S.length+1/\(∀x∈S,∃j,j+1<i/\lastC x=some (97+j))/\(i=0\/lastC w=some (97+(i - 1)))
def xAkt(ws:List Str)(w:Str):Chain ws 0 w:=.inr ⟨[],wm,(λ_ z=>nomatch z),by omega,(λ_ z=>nomatch z),.inl rfl⟩
def xAgd(z:Str)(c:Nat):lastC (z++⟨#[c]⟩)=some c:=by
 unfold lastC;show((z.cps++#[c]).toList).getLast?=some c
 simp
def xAku(h:Chain ws i w)(b:w∈ws):Chain ws (i+1) (z++⟨#[97+i]⟩):=by
 rcases h with h|⟨S,nd,sub,len,lst,lw⟩
 ·exact absurd b h
 ·right
  rcases lw with rfl|lw
  ·exact⟨[],List.nodup_nil,(λ_ z=>nomatch z),by simp,(λ_ z=>nomatch z),.inr (xAgd _ _)⟩
  ·by_cases hi:i=0
   ·subst hi
    exact⟨[],List.nodup_nil,(λ_ z=>nomatch z),by simp,(λ_ z=>nomatch z),.inr (xAgd _ _)⟩
   ·refine⟨w::S,zu.mpr ⟨λm=>?_,nd⟩,λx a=>?_,by rw[zc];omega,λx a=>?_,.inr (xAgd _ _)⟩
    ·obtain⟨j,c,e⟩:=lst w m
     rw[lw]at e;have:=qC e;omega
    ·rcases za.mp a with rfl|a
     ·exact b
     ·exact sub x a
    ·rcases za.mp a with rfl|a
     ·exact⟨i - 1,by omega,lw⟩
     ·obtain⟨j,c,e⟩:=lst x a
      exact⟨j,by omega,e⟩
def xAop(h:Chain ws 8 w)(a:ws.length≤6):w∉ws:=by
 rcases h with h|⟨S,nd,sub,len,_,_⟩
 ·exact h
 ·have:=nodup_len nd sub
  omega
def abc_at(h:c<8)(e:("abcdefgh":Str).cps[c]?=some ch):ch=97+c:=by
 have q:("abcdefgh":Str).cps=#[97,98,99,100,101,102,103,104]:=by decide +kernel
 rw[q]at e
 have a:c=0\/c=1\/c=2\/c=3\/c=4\/c=5\/c=6\/c=7:=by omega
 rcases a with rfl|rfl|rfl|rfl|rfl|rfl|rfl|rfl <;> (simp at e;omega)
def xAoq(ws:List Str):(ws.map V.str).all flatV=true:=by
 rw[List.all_map];exact wv.mpr λ_ _=>rfl
def xAsm(w:Str)(ws:List Str):inV (.str w) (ws.map V.str)=decide (w∈ws):=by
 unfold inV
 induction ws with
 |nil=>rfl
 |cons x ws b =>
  rw[zh,yb,b];show(x==w||decide (w∈ws))=decide (w∈x::ws)
  by_cases e:x=w
  ·subst e;simp
  ·have a:¬w=x:=λz=>e z.symm
   simp[e,a]
def xAkv{ws:List Str}{w:Str}(nd:ws.Nodup)(h:w∉ws):(ws++[w]).Nodup:=xAhm nd h
def xAqt(a:List Int)(lo hi:Option Int):cutV (List.map V.int a) lo hi=List.map V.int ((a.drop (HT.sIx a.length 0 lo)).take (HT.sIx a.length a.length hi - HT.sIx a.length 0 lo)):=by
 unfold cutV;rw[qc,jw,jx]
def DR.from(r:DR H d a n)(k:Nat)(h:k≤n)(e:H' q=some (.lst (cutV (List.map V.int a) (some (k:Int)) none))):DR H' q (a.drop k) (n - k):=by
 have b:=r.len;refine⟨?_,by rw[zo];omega,by have:=r.few;rw[zo];omega⟩;rw[e,xAqt,HT.sIx_nat,HT.sIx_none,ju (by omega),jb (by rw[zo];exact qd _)]
end My
namespace Srt
open PySem PySem.W PyProof.Rows
def Ok{α:Type}(n:Nat)(lt:Nat->Nat->Bool)(P:α->Prop):KasT α->Prop
 |.ret a=>P a
 |.ask i j k=>i<n/\j<n/\Ok n lt P (k (lt i j))
section
variable {α β:Type}{n:Nat}{lt:Nat->Nat->Bool}
def Ok.mono(h:∀a,P a->R a):∀{t:KasT α},Ok n lt P t->Ok n lt R t
 |.ret _,q=>h _ q
 |.ask _ _ _,q=>⟨q.1,q.2.1,Ok.mono h q.2.2⟩
def Ok.bind{R:β->Prop}{f:α->KasT β}:∀{t:KasT α},Ok n lt (λa=>Ok n lt R (f a)) t->Ok n lt R (t.bind f)
 |.ret _,q=>q
 |.ask _ _ k,q=>⟨q.1,q.2.1,Ok.bind (t:=k _) q.2.2⟩
def Ok.wp(c:∀i j C,i<n->j<n->C (lt i j) s->b i j C s)(d:∀a,P a->Q a s) :
  ∀{t:KasT α},Ok n lt P t->t.kasWp b Q s
 |.ret _,q=>d _ q
 |.ask i j k,q=>c i j _ q.1 q.2.1 (Ok.wp c d (t:=k _) q.2.2)
end
structure Swo(lt:Nat->Nat->Bool):Prop where
 irr:∀a,lt a a=false
 tr:∀a b c,lt a b=true->lt b c=true->lt a c=true
 nt:∀a b c,lt a c=true->lt a b=true\/lt b c=true
section
variable {n:Nat}{lt:Nat->Nat->Bool}(W:Swo lt)
include W
theorem Swo.le_of_lt(h:lt a b=true):lt b a=false:=by
 cases e:lt b a with
 |false=>rfl
 |true=>rw[←W.irr a,←W.tr a b a h e]
theorem Swo.le_tr(h1:lt b a=false)(h2:lt c b=false):lt c a=false:=by
 cases e:lt c a with
 |false=>rfl
 |true =>
  rcases W.nt c b a e with q|q
  ·rw[q]at h2;cases h2
  ·rw[q]at h1;cases h1
theorem Swo.lt_le(h1:lt a b=true)(h2:lt c b=false):lt a c=true:=by
 rcases W.nt a c b h1 with q|q
 ·exact q
 ·rw[q]at h2;cases h2
end
abbrev g(p:Array Nat)(i:Nat):Nat:=p.getD i 0
def Up(lt:Nat->Nat->Bool)(p:Array Nat)(n:Nat):Prop:=∀i j,i≤j->j<n->lt (g p j) (g p i)=false
def Dn(lt:Nat->Nat->Bool)(p:Array Nat)(n:Nat):Prop:=∀i j,i≤j->j<n->lt (g p i) (g p j)=false
def Bd(n:Nat)(p:Array Nat):Prop:=p.size=n/\∀i,g p i<n
def g_of(h:p[i]?=q[j]?):g p i=g q j:=by
 unfold g;rw[z7,z7,h]
def xAdh(hn:0<n)(h:q.Perm p)(b:Bd n p):Bd n q:=by
 refine⟨by rw[h.size_eq];exact b.1,λi=>?_⟩;unfold g;rw[z7]
 cases e:q[i]? with
 |none=>exact hn
 |some x =>
  have d:x∈q:=Array.mem_of_getElem? e;have a:x∈p:=(h.mem_iff).mp d;obtain⟨j,c,f⟩:=Array.mem_iff_getElem.mp a;have:=b.2 j;unfold g at this;rw[z7,qp c,f]at this;exact this
section
variable {n:Nat}{lt:Nat->Nat->Bool}(W:Swo lt)(hn:0<n)
theorem xAwj{k:Nat}(W:Swo lt)(h0:1≤k)(h:Up lt p k)(b:lt (g p k) (g p (k - 1))=false):Up lt p (k+1):=by
 intro i j a d
 by_cases e:j=k
 ·subst e
  by_cases c:i=j
  ·subst c;exact W.irr _
  ·exact W.le_tr (h i (j - 1) (by omega) (by omega)) b
 ·exact h i j a (by omega)
theorem xAff{k:Nat}(W:Swo lt)(h0:1≤k)(h:Dn lt p k)(b:lt (g p (k - 1)) (g p k)=false):Dn lt p (k+1):=by
 intro i j a d
 by_cases e:j=k
 ·subst e
  by_cases c:i=j
  ·subst c;exact W.irr _
  ·exact W.le_tr b (h i (j - 1) (by omega) (by omega))
 ·exact h i j a (by omega)
theorem xAsn(W:Swo lt)(b:Bd n p):∀(f k:Nat),1≤k->Up lt p k->Ok n lt (λm=>k≤m/\m≤k+f/\Up lt p m/\(m<k+f->lt (g p m) (g p (m - 1))=true)) (kas_asc p f k)
 | 0,k,_,h=>⟨Nat.le_refl _,Nat.le_refl _,h,λz=>absurd z (by simp)⟩
 |f+1,k,h0,h=>by
  refine⟨b.2 _,b.2 _,?_⟩
  cases e:lt (p.getD k 0) (p.getD (k - 1) 0) with
  |true =>
   show Ok n lt _ (if true=true then _ else _);rw[qt rfl];exact⟨qd _,wy _ _,h,λ_=>e⟩
  |false =>
   show Ok n lt _ (if false=true then _ else _);rw[qs (by decide)]
   exact(xAsn W b f (k+1) (by omega) (xAwj W h0 h e)).mono λm a=>⟨by omega,by omega,a.2.2.1,λz=>a.2.2.2 (by omega)⟩
theorem xAge(W:Swo lt)(f:j≤p.size)(d:∀k,i≤k->k<j->lt (g p k) (g p (j - 1))=false/\lt (g p (j - 1)) (g p k)=false)(k:Nat) :
  lt (g (kas_rev p i j) k) (g p k)=false/\lt (g p k) (g (kas_rev p i j) k)=false:=by
 have e:=getElem?_mirror_all (i:=i) f k
 by_cases h:i≤k/\k<j
 ·rw[qt h]at e
  have b:g (kas_rev p i j) k=g p (i+j - 1 - k):=g_of e;rw[b];have a:=d (i+j - 1 - k) (by omega) (by omega);have c:=d k h.1 h.2;exact⟨W.le_tr c.2 a.1,W.le_tr a.2 c.1⟩
 ·rw[qs h]at e
  have b:g (kas_rev p i j) k=g p k:=g_of e;rw[b];exact⟨W.irr _,W.irr _⟩
theorem xAkw{k:Nat}(W:Swo lt)(b:∀i,lt (g q i) (g p i)=false/\lt (g p i) (g q i)=false)(h:Dn lt p k):Dn lt q k:=λi j a c =>
 W.le_tr (W.le_tr (b j).2 (h i j a c)) (b i).1
theorem rev_up{k:Nat}(c:k≤p.size)(h:Dn lt p k):Up lt (kas_rev p 0 k) k:=by
 intro i j f l;have e:=getElem?_mirror_all (i:=0) c i;have d:=getElem?_mirror_all (i:=0) c j;rw[qt ⟨qk _,by omega⟩]at e d;have a:g (kas_rev p 0 k) i=g p (0+k - 1 - i):=g_of e;have b:g (kas_rev p 0 k) j=g p (0+k - 1 - j):=g_of d;rw[a,b];exact h _ _ (by omega) (by omega)
theorem xAem(p:Array Nat)(i j:Nat):(kas_rev p i j).Perm p:=mirror_perm p i j _
def Like(lt:Nat->Nat->Bool)(p:Array Nat)(k q:Nat):Prop:=q+1≤k/\∀m,k - (q+1)≤m->m<k->lt (g p m) (g p (k - 1))=false/\lt (g p (k - 1)) (g p m)=false
theorem like0{k:Nat}(W:Swo lt)(h:1≤k):Like lt p k 0:=⟨by omega,λm h1 h2=>by
 have:m=k - 1:=by omega
 subst this
 exact⟨W.irr _,W.irr _⟩⟩
theorem xAhq(W:Swo lt)(hn:0<n):∀(f:Nat) (p:Array Nat) (k q:Nat),Bd n p->1≤k->k+f≤n->Dn lt p k->Like lt p k q →
  Ok n lt (λr=>r.1.Perm p/\k≤r.2.1/\r.2.1≤k+f/\Dn lt r.1 r.2.1/\Like lt r.1 r.2.1 r.2.2) (kas_desc f p k q)
 | 0,p,k,q,_,_,_,hd,hl=>⟨.refl _,qd _,qd _,hd,hl⟩
 |f+1,p,k,q,b,h0,hf,hd,hl=>by
  refine⟨b.2 _,b.2 _,?_⟩
  cases e:lt (p.getD k 0) (p.getD (k - 1) 0) with
  |true =>
   show Ok n lt _ (if true=true then _ else _);rw[qt rfl]
   by_cases l:q>0
   ·rw[qt l]
    have c:k≤p.size:=by rw[b.1];omega
    have j:=xAge W c hl.2;have h:=xAem p (k - (q+1)) k
    have t:g (kas_rev p (k - (q+1)) k) k=g p k:=g_of (by
     have:=getElem?_mirror_all (i:=k - (q+1)) c k;rw[qs (by omega)]at this
     exact this)
    have o:Dn lt (kas_rev p (k - (q+1)) k) (k+1):=xAff W h0 (xAkw W j hd) (by
     rw[t]
     exact W.le_tr (W.le_of_lt e) (j (k - 1)).1)
    exact(xAhq W hn f _ (k+1) 0 (xAdh hn h b) (by omega) (by omega) o (like0 W (by omega))).mono λr a=>⟨a.1.trans h,by omega,by omega,a.2.2.2⟩
   ·rw[qs l]
    exact(xAhq W hn f p (k+1) 0 b (by omega) (by omega) (xAff W h0 hd (W.le_of_lt e)) (like0 W (by omega))).mono λr a=>⟨a.1,by omega,by omega,a.2.2.2⟩
  |false =>
   show Ok n lt _ (if false=true then _ else _);rw[qs (by decide)];refine⟨b.2 _,b.2 _,?_⟩
   cases d:lt (p.getD (k - 1) 0) (p.getD k 0) with
   |true =>
    show Ok n lt _ (if true=true then _ else _);rw[qt rfl];exact⟨.refl _,qd _,wy _ _,hd,hl⟩
   |false =>
    show Ok n lt _ (if false=true then _ else _);rw[qs (by decide)]
    refine(xAhq W hn f p (k+1) (q+1) b (by omega) (by omega) (xAff W h0 hd d) ⟨by have:=hl.1;omega,λm h1 h2=>?_⟩).mono λr a=>⟨a.1,by omega,by omega,a.2.2.2⟩
    show lt (g p m) (g p k)=false/\lt (g p k) (g p m)=false
    by_cases s:m=k
    ·subst s;exact⟨W.irr _,W.irr _⟩
    ·have:=hl.2 m (by omega) (by omega)
     exact⟨W.le_tr d this.1,W.le_tr this.2 e⟩
theorem xAkx(W:Swo lt)(hn:0<n){k:Nat}(b:Bd n p)(h1:1≤k)(d:k≤n)(e:Dn lt p k):Ok n lt (λr=>1≤r.1/\r.1≤n/\r.2.Perm p/\Up lt r.2 r.1) (kas_tail3 k n p):=by
 unfold kas_tail3;have a:=xAem p 0 k;refine Ok.bind ((xAsn W (xAdh hn a b) (n - k) k h1 (rev_up (by rw[b.1];exact d) e)).mono λm c=>?_);exact⟨by omega,by omega,a,c.2.2.1⟩
theorem xAea(W:Swo lt)(hn:0<n){k:Nat}(b:Bd n p)(h1:1≤k)(l:k+1≤n)(i:Dn lt p (k+1)):Ok n lt (λr=>1≤r.1/\r.1≤n/\r.2.Perm p/\Up lt r.2 r.1) (kas_descPart k n p):=by
 unfold kas_descPart;refine Ok.bind ((xAhq W hn (n - (k+1)) p (k+1) 0 b (by omega) (by omega) i (like0 W (by omega))).mono λr j=>?_);obtain⟨d,a1,a2,g,h⟩:=j;have e:=xAdh hn d b
 split
 ·have f:r.2.1≤r.1.size:=by rw[e.1];omega
  have c:=xAem r.1 (r.2.1 - (r.2.2+1)) r.2.1;exact(xAkx W hn (xAdh hn c e) (by omega) (by omega) (xAkw W (xAge W f h.2) g)).mono λx a=>⟨a.1,a.2.1,(a.2.2.1.trans c).trans d,a.2.2.2⟩
 ·exact(xAkx W hn e (by omega) (by omega) g).mono λx a=>⟨a.1,a.2.1,a.2.2.1.trans d,a.2.2.2⟩
theorem xAky{k:Nat}(W:Swo lt)(h:Up lt p k)(h0:lt (g p 0) (g p (k - 1))=false):Dn lt p k:=λi j b d=>by
 have a:=h 0 i (by omega) (by omega);have c:=h j (k - 1) (by omega) (by omega);exact W.le_tr (W.le_tr c h0) a
theorem xAso(W:Swo lt)(hn:0<n)(b:Bd n p):Ok n lt (λr=>1≤r.1/\r.1≤n/\r.2.Perm p/\Up lt r.2 r.1) (kas_count n p):=by
 unfold kas_count
 have x:Up lt p 1:=λi j l A=>by
  have:i=j:=by omega
  subst this;exact W.irr _
 refine Ok.bind ((xAsn W b (n - 1) 1 (by omega) x).mono λk t=>?_);obtain⟨h1,h2,up,w⟩:=t
 by_cases e:(k==n)=true
 ·rw[qt e]
  exact⟨h1,by omega,.refl _,up⟩
 ·rw[qs e]
  have v:k≠n:=λz=>e (by rw[z];simp)
  have a:=w (by omega)
  by_cases d:k>1
  ·rw[qt d]
   refine⟨b.2 _,b.2 _,?_⟩
   cases u:lt (p.getD 0 0) (p.getD (k - 1) 0) with
   |true =>
    show Ok n lt _ (if true=true then _ else _);rw[qt rfl];exact⟨h1,by show k≤n;omega,.refl _,up⟩
   |false =>
    show Ok n lt _ (if false=true then _ else _);rw[qs (by decide)]
    have c:k≤p.size:=by rw[b.1];omega
    have s:=xAky W up u;have o:=xAem p 0 k
    have q:=xAge (i:=0) W c λm _ B=>⟨s m (k - 1) (by omega) (by omega)|> λz=>z,up m (k - 1) (by omega) (by omega)⟩
    have y:g (kas_rev p 0 k) k=g p k:=g_of (by
     have:=getElem?_mirror_all (i:=0) c k;rw[qs (by omega)]at this
     exact this)
    have h:Dn lt (kas_rev p 0 k) (k+1):=xAff W h1 (xAkw W q s) (by
     rw[y]
     exact W.le_tr (W.le_of_lt a) (q (k - 1)).1)
    exact(xAea W hn (xAdh hn o b) h1 (by omega) h).mono λr f=>⟨f.1,f.2.1,f.2.2.1.trans o,f.2.2.2⟩
  ·rw[qs d]
   have:k=1:=by omega
   subst this
   have h:Dn lt p 1:=λi j l A=>by
    have:i=j:=by omega
    subst this;exact W.irr _
   exact xAea W hn b h1 (by omega) (xAff W h1 h (W.le_of_lt a))
theorem xAgf(W:Swo lt){k:Nat}(b:Bd n p)(up:Up lt p k):∀(f l r:Nat),l≤r->r≤k->r - l≤f->(∀i,i<l->lt (g p k) (g p i)=false)->(∀i,r≤i->i<k->lt (g p k) (g p i)=true) →
  Ok n lt (λm=>m≤k/\(∀i,i<m->lt (g p k) (g p i)=false)/\∀i,m≤i->i<k->lt (g p k) (g p i)=true) (kas_place p k f l r)
 | 0,l,r,h1,h2,h3,hl,hr=>⟨by omega,hl,λi hi a=>hr i (by omega) a⟩
 |f+1,l,r,h1,h2,h3,hl,hr=>by
  unfold kas_place
  by_cases e:l≥r
  ·rw[qt e]
   exact⟨by omega,hl,λi hi a=>hr i (by omega) a⟩
  ·rw[qs e]
   refine⟨b.2 _,b.2 _,?_⟩
   cases c:lt (p.getD k 0) (p.getD ((l+r) / 2) 0) with
   |true =>
    show Ok n lt _ (if true=true then _ else _);rw[qt rfl];exact xAgf W b up f l ((l+r) / 2) (by omega) (by omega) (by omega) hl λi hi a=>W.lt_le c (up _ i hi a)
   |false =>
    show Ok n lt _ (if false=true then _ else _);rw[qs (by decide)];exact xAgf W b up f ((l+r) / 2+1) r (by omega) h2 (by omega) (λi hi=>W.le_tr (up i ((l+r) / 2) (by omega) (by omega)) c) hr
theorem xAwk(W:Swo lt)(hn:0<n):∀(f:Nat) (p:Array Nat) (k:Nat),Bd n p->k+f=n->Up lt p k->Ok n lt (λq=>q.Perm p/\Up lt q n) (kas_bin f p k)
 | 0,p,k,_,hk,up=>⟨.refl _,by rw[←hk];exact up⟩
 |f+1,p,k,b,hk,up=>by
  unfold kas_bin;refine Ok.bind ((xAgf W b up k 0 k (qk _) (qd _) (by omega) (λi hi=>absurd hi (by omega)) λi h1 h2=>absurd h2 (by omega)).mono λl o=>?_);obtain⟨u,s,t⟩:=o;have d:=bubble_perm p k (k - l)
  have hs:k<p.size:=by rw[b.1];omega
  have at':∀i,g (bubble p k (k - l)) i=if i=l then g p k else if l<i/\i≤k then g p (i - 1) else g p i:=λi=>by
   have e:=getElem?_bubble hs (k - l) (by omega) i;rw[show k - (k - l)=l by omega]at e
   by_cases h1:i=l
   ·rw[qt h1]at e ⊢;exact g_of e
   ·rw[qs h1]at e ⊢
    by_cases h2:l<i/\i≤k
    ·rw[qt h2]at e ⊢;exact g_of e
    ·rw[qs h2]at e ⊢;exact g_of e
  have c:Up lt (bubble p k (k - l)) (k+1):=by
   intro i j r v;rw[at' i,at' j]
   by_cases i1:i=l
   ·rw[qt i1]
    by_cases a:j=l
    ·rw[qt a];exact W.irr _
    ·rw[qs a,qt ⟨by omega,by omega⟩]
     exact W.le_of_lt (t (j - 1) (by omega) (by omega))
   ·rw[qs i1]
    by_cases i2:l<i/\i≤k
    ·rw[qt i2,qs (by omega),qt ⟨by omega,by omega⟩]
     exact up _ _ (by omega) (by omega)
    ·rw[qs i2]
     by_cases a:j=l
     ·rw[qt a];exact s i (by omega)
     ·rw[qs a]
      by_cases m:l<j/\j≤k
      ·rw[qt m];exact up _ _ (by omega) (by omega)
      ·rw[qs m];exact up _ _ (by omega) (by omega)
  exact(xAwk W hn f _ (k+1) (xAdh hn d b) (by omega) c).mono λq h=>⟨h.1.trans d,h.2⟩
theorem sort_ok(W:Swo lt)(hn:0<n):Ok n lt (λq=>q.Perm (List.toArray (List.range n))/\Up lt q n) (kas_sort n):=by
 unfold kas_sort
 have b:Bd n (List.toArray (List.range n)):=by
  refine⟨by simp,λi=>?_⟩;unfold g;rw[z7]
  by_cases h:i<n
  ·simp[h]
  ·simp[h,hn]
 refine Ok.bind ((xAso W hn b).mono λr d=>?_);obtain⟨h1,h2,a,up⟩:=d
 split
 ·rename_i f
  have e:max r.1 1=r.1:=by omega
  rw[e];exact(xAwk W hn _ _ _ (xAdh hn a b) (by omega) up).mono λq c=>⟨c.1.trans a,c.2⟩
 ·have e:r.1=n:=by omega
  exact⟨a,by rw[←e];exact up⟩
end
end Srt
namespace Tim
open PySem PySem.W PyProof.Rows Srt
abbrev S(κ:SortKind)(it:Array Keyed)(p:Array Nat)(pd:Array (Nat×Nat×Nat))(m:Nat):SortSt:=SortSt.mk' κ (p.map (kas_item it)) pd m none
def Ans(prog:Program)(w:World)(A:Around)(s:Shared)(κ:SortKind)(it:Array Keyed)(n:Nat)(lt:Nat->Nat->Bool):Prop :=
 ∀i j (C:Bool->Shared->Prop),i<n->j<n->C (lt i j) s->kas_cmp prog w A κ it i j C s
def In(n:Nat)(p:Array Nat):Prop:=∀i,i<p.size->g p i<n
section
variable {prog:Program}{w:World}{A:Around}{E:Value->Shared->Prop}{s:Shared}{κ:SortKind}{it:Array Keyed}{n:Nat}{lt:Nat->Nat->Bool}{p:Array Nat}{pd:Array (Nat×Nat×Nat)}{mg:Nat}
def lt_ok(f:Ans prog w A s κ it n lt){i j:Nat}{st:SortSt}{Q:Option Bool->SortSt->Prop}(a:kindOf st=κ)(hi:i<n)(g:j<n)(h:Q (some (lt i j)) st):wpS (model prog w) A E s (lt' (kas_item it i) (kas_item it j)) Q st:=by
 rw[lt'_eq];refine wpS_bind (wpS_get ?_);rw[a];refine wpS_bind (wpS_lift (wpAny_attempt (qE (f i j (λb s'=>s'=s/\b=lt i j) hi g ⟨Y,Y⟩) (λc s' e=>?_) λ_ _ d=>d.elim)));obtain⟨rfl,rfl⟩:=e;exact⟨Y,wpS_pure h⟩
def map_at(hi:i<p.size):(p.map (kas_item it))[i]?=some (kas_item it (g p i)):=by
 have e:g p i=p[i]:=by unfold g;simp[Array.getD,hi]
 rw[e]
 simp[hi]
def xAqu{i:Nat}{st:SortSt}{Q:Keyed->SortSt->Prop}(hi:i<p.size)(h:Q (kas_item it (g p i)) st):wpS (model prog w) A E s (elem' (p.map (kas_item it)) i) Q st:=by
 rw[elem'_eq,map_at hi];exact wpS_pure h
def xAwl(c:Ans prog w A s κ it n lt)(a:In n p){i j:Nat}{Q:Option Bool->SortSt->Prop}(hi:i<p.size)(b:j<p.size)(h:Q (some (lt (g p i) (g p j))) (S κ it p pd mg)):wpS (model prog w) A E s (ltAt' i j) Q (S κ it p pd mg):=by
 rw[ltAt'_eq];refine wpS_bind (wpS_get ?_);exact wpS_bind (xAqu hi (wpS_bind (xAqu b (lt_ok c rfl (a i hi) (a j b) h))))
end
def UpL(lt:Nat->Nat->Bool)(lo:Nat)(p:Array Nat)(k:Nat):Prop:=∀i j,lo≤i->i≤j->j<k->lt (g p j) (g p i)=false
section
variable {lt:Nat->Nat->Bool}{lo:Nat}{p:Array Nat}
def up1(W:Swo lt):UpL lt lo p (lo+1):=λi j h1 h2 a=>by
 have:i=j:=by omega
 subst this;exact W.irr _
def xAsp{k:Nat}(W:Swo lt)(h0:lo+1≤k)(h:UpL lt lo p k)(b:lt (g p k) (g p (k - 1))=false):UpL lt lo p (k+1):=by
 intro i j h1 a d
 by_cases e:j=k
 ·subst e
  by_cases c:i=j
  ·subst c;exact W.irr _
  ·exact W.le_tr (h i (j - 1) h1 (by omega) (by omega)) b
 ·exact h i j h1 a (by omega)
end
section
variable {prog:Program}{w:World}{A:Around}{E:Value->Shared->Prop}{s:Shared}{κ:SortKind}{it:Array Keyed}{n:Nat}{lt:Nat->Nat->Bool}{p:Array Nat}{pd:Array (Nat×Nat×Nat)}{mg:Nat}{lo nrem:Nat}
def xAsq(W:Swo lt)(q:Ans prog w A s κ it n lt)(t:In n p){a:Nat}{Q:AscSt->SortSt->Prop}{f:Nat->AscSt->StateT SortSt Sem (ForInStep AscSt)}(hf:∀x (k:Nat),f x (none,k)=(do
      let r ←ltAt' (lo+k) (lo+k - 1)
      match r with
      |some b=>if b=true then pure (ForInStep.done (none,k)) else pure (ForInStep.yield (none,k+1))
      |_=>pure (ForInStep.done (some none,k))))(u:1≤a)(j:a≤nrem)(hz:lo+nrem≤p.size)(m:UpL lt lo p (lo+a))(h:∀k,a≤k->k≤nrem->UpL lt lo p (lo+k)->(k<nrem->lt (g p (lo+k)) (g p (lo+k - 1))=true)->Q (none,k) (S κ it p pd mg)) :
  wpS (model prog w) A E s (forIn [a:nrem] ((none,a):AscSt) f) Q (S κ it p pd mg):=by
 refine wpS_forRange (I:=λx c i=>i=S κ it p pd mg/\c=(none,x)/\UpL lt lo p (lo+x)) ?step ?fin ⟨Y,Y,m⟩
 case fin =>
  rintro c i ⟨rfl,rfl,d⟩;rw[show max a nrem=nrem by omega]at d ⊢;exact h nrem j (qd _) d λz=>absurd z (zr _)
 case step =>
  rintro x c i l o ⟨rfl,rfl,d⟩;rw[hf];refine wpS_bind (xAwl q t (by omega) (by omega) ?_)
  cases e:lt (g p (lo+x)) (g p (lo+x - 1)) with
  |true =>
   dsimp only;rw[qt rfl];exact wpS_pure (h x l (by omega) d λ_=>e)
  |false =>
   dsimp only;rw[qs (by decide)];exact wpS_pure ⟨Y,Y,xAsp (k:=lo+x) W (by omega) d e⟩
def wp_if{α:Type}{c:Prop}[Decidable c]{a b:StateT SortSt Sem α}{Q:α->SortSt->Prop}{st:SortSt}(h1:c->wpS (model prog w) A E s a Q st)(h2:¬c->wpS (model prog w) A E s b Q st):wpS (model prog w) A E s (if c then a else b) Q st:=by
 by_cases h:c
 ·rw[qt h];exact h1 h
 ·rw[qs h];exact h2 h
end
section
variable {prog:Program}{w:World}{A:Around}{E:Value->Shared->Prop}{s:Shared}{κ:SortKind}{it:Array Keyed}{n:Nat}{lt:Nat->Nat->Bool}{p:Array Nat}{pd:Array (Nat×Nat×Nat)}{mg:Nat}
def xAhr:∀(f n r:Nat),r≤1->minRun' f n r≤n+r
 | 0,n,r,_=>qd _
 |f+1,n,r,hr=>by
  rw[minRun'_succ]
  split
  ·exact qd _
  ·have:=xAhr f (n / 2) (max r (n % 2)) (by omega)
   omega
def xAor(W:Swo lt)(d:Ans prog w A s κ it n lt)(f:In n p){nrem:Nat}{Q:Option Nat->SortSt->Prop}(h1:1≤nrem)(hz:0+nrem≤p.size)(c:UpL lt 0 p (0+nrem))(h:Q (some nrem) (S κ it p pd mg)):wpS (model prog w) A E s (countRun' 0 nrem) Q (S κ it p pd mg):=by
 rw[countRun'_eq];refine wpS_bind (xAsq W d f (λx k=>rfl) (qd 1) h1 hz (up1 W) λk k1 k2 up a=>?_);dsimp only
 have b:k=nrem:=by
  by_cases e:k=nrem
  ·exact e
  ·have:=a (by omega)
   rw[c (0+k - 1) (0+k) (by omega) (by omega) (by omega)]at this;cases this
 rw[qt (by simpa using b),b];exact wpS_pure h
def runs_asc(W:Swo lt)(o:Ans prog w A s κ it n lt)(q:In n p)(hz:2≤p.size)(l:UpL lt 0 p (0+p.size)){Q:Unit->SortSt->Prop}(h:∀pd m,Q () (S κ it p pd m)) :
  wpS (model prog w) A E s sortRuns' Q (S κ it p #[] 7):=by
 rw[sortRuns'_eq];refine wpS_bind (wpS_get ?_);have hs:(arrOf (S κ it p #[] 7)).size=p.size:=jy ..;dsimp only;rw[hs]
 refine wpS_bind (wpS_mono (wpS_forRange (I:=λx c a=>(x=0/\c=(none,0)/\a=S κ it p #[] 7)\/(c=(none,p.size)/\a=S κ it p #[(0,p.size,0)] 7))
  (Q:=λc a=>c=(none,p.size)/\a=S κ it p #[(0,p.size,0)] 7) ?s0 ?f0 (.inl ⟨Y,Y,Y⟩)) ?p0)
 case f0 =>
  rintro c a (⟨j,_,_⟩|hh)
  ·omega
  ·exact hh
 case s0 =>
  rintro x c a _ j (⟨rfl,rfl,rfl⟩|⟨rfl,rfl⟩)
  ·dsimp only
   refine wp_if (λd=>absurd d (by omega)) λe=>?_;refine wpS_bind (xAor W o q (by omega) (by omega) (by rw[ye];exact l) ?_);dsimp only;refine wp_if (λb=>absurd b (by have:=xAhr p.size p.size 0 (by decide);omega)) λi=>?_;refine wpS_bind (wpS_get ?_)
   split
   ·rename_i f
    have f:(none:Option (Nat×Nat×Nat))=_:=f;cases f
   ·refine wpS_bind (wpS_modify (wpS_pure (.inr ⟨?_,?_⟩)))
    ·rw[ye,vm]
    ·rw[ye];rfl
  ·dsimp only
   refine wp_if (λd=>wpS_pure ⟨Y,Y⟩) λe=>absurd e (by omega)
 case p0 =>
  rintro c a ⟨rfl,rfl⟩;dsimp only;refine wpS_bind (wpS_mono (wpS_forRange (I:=λx c a=>c=(none,())/\a=S κ it p #[(0,p.size,0)] 7) (Q:=λc a=>c=(none,())/\a=S κ it p #[(0,p.size,0)] 7) ?s1 (λc a z=>z) ⟨Y,Y⟩) ?p1)
  case s1 =>
   rintro y c a _ r ⟨rfl,rfl⟩;refine wpS_bind (wpS_get ?_);refine wp_if (λk=>wpS_pure ⟨Y,Y⟩) λg=>absurd (show(1:Nat)≤1 from qd 1) g
  case p1 =>
   rintro c a ⟨rfl,rfl⟩;exact wpS_pure (h _ _)
end
end Tim
namespace L2
open PySem PySem.Spec PyProof.Rows
mutual
def sk:PyData->PyData->Bool
 |.none,.none=>true
 |.bool _,.bool _=>true
 |.int _,.int _=>true
 |.str _,.str _=>true
 |.tuple xs,.tuple ys=>sks xs ys
 |_,_=>false
def sks:List PyData->List PyData->Bool
 |[],_=>true
 |_::_,[]=>true
 |x::xs,y::ys=>sk x y&&sks xs ys
end
mutual
def ltD:PyData->PyData->Bool
 |.bool a,.bool b=>!a&&b
 |.int i,.int j=>decide (i<j)
 |.str x,.str y=>decide (x.cps.toList<y.cps.toList)
 |.tuple xs,.tuple ys=>ltDs xs ys
 |_,_=>false
def ltDs:List PyData->List PyData->Bool
 |[],[]=>false
 |[],_::_=>true
 |_::_,[]=>false
 |x::xs,y::ys=>if PyData.eqv x y=true then ltDs xs ys else ltD x y
end
mutual
def sk_eq:∀(a b:PyData),sk a b=true->(PyData.eqv a b=true↔a=b)
 |.tuple xs,b,h=>by
  cases b with
  |tuple ys=>simp only[PyData.eqv,PyData.tuple.injEq];exact xAwm xs ys (by simpa[sk] using h)
  |_=>simp[sk]at h
 |.none,b,h=>by cases b <;> simp_all [sk,PyData.eqv]
 |.bool _,b,h=>by cases b <;> simp_all [sk,PyData.eqv]
 |.int _,b,h=>by cases b <;> simp_all [sk,PyData.eqv]
 |.str _,b,h=>by cases b <;> simp_all [sk,PyData.eqv]
 |.list _,b,h=>by cases b <;> simp[sk]at h
 |.dict _,b,h=>by cases b <;> simp[sk]at h
def xAwm:∀(xs ys:List PyData),sks xs ys=true->(PyData.eqvAll xs ys=true↔xs=ys)
 |[],ys,_=>by cases ys <;> simp[PyData.eqvAll]
 |x::xs,[],_=>by simp[PyData.eqvAll]
 |x::xs,y::ys,h=>by
  rw[sks,zd]at h
  simp only[PyData.eqvAll,Bool.and_eq_true,sk_eq x y h.1,xAwm xs ys h.2,List.cons.injEq]
end
def xAwn{x y:Str}(h:x.cps.toList=y.cps.toList):x=y:=by
 obtain⟨a⟩:=x;obtain⟨b⟩:=y;exact congrArg Str.mk (Array.ext' h)
mutual
def xAfg:∀a:PyData,ltD a a=false
 |.tuple xs=>by rw[ltD];exact xAkz xs
 |.none=>rfl
 |.bool b=>by cases b <;> rfl
 |.int i=>by simp[ltD]
 |.str x=>by simp[ltD,List.lt_irrefl]
 |.list _=>rfl
 |.dict _=>rfl
def xAkz:∀xs:List PyData,ltDs xs xs=false
 |[]=>rfl
 |x::xs=>by
  rw[ltDs,xAkz xs,xAfg x]
  split <;> rfl
end
mutual
def xAla:∀(a b:PyData),sk a b=true->ltD a b=false->ltD b a=false->a=b
 |.tuple xs,b,h,h1,h2=>by
  cases b with
  |tuple ys=>exact congrArg PyData.tuple (xAlb xs ys (by simpa[sk] using h) (by simpa[ltD] using h1) (by simpa[ltD] using h2))
  |_=>simp[sk]at h
 |.none,b,h,_,_=>by cases b <;> simp_all [sk]
 |.bool a,b,h,h1,h2=>by
  cases b with
  |bool c=>cases a <;> cases c <;> simp_all [ltD]
  |_=>simp[sk]at h
 |.int i,b,h,h1,h2=>by
  cases b with
  |int j=>simp only[ltD,decide_eq_false_iff_not]at h1 h2;exact congrArg _ (by omega)
  |_=>simp[sk]at h
 |.str x,b,h,h1,h2=>by
  cases b with
  |str y =>
   simp only[ltD,decide_eq_false_iff_not]at h1 h2
   exact congrArg _ (xAwn (List.le_antisymm (jz.mp h2) (jz.mp h1)))
  |_=>simp[sk]at h
 |.list _,b,h,_,_=>by cases b <;> simp[sk]at h
 |.dict _,b,h,_,_=>by cases b <;> simp[sk]at h
def xAlb:∀(xs ys:List PyData),sks xs ys=true->ltDs xs ys=false->ltDs ys xs=false->xs=ys
 |[],[],_,_,_=>rfl
 |[],_::_,_,h,_=>by simp[ltDs]at h
 |_::_,[],_,_,h=>by simp[ltDs]at h
 |x::xs,y::ys,h,h1,h2=>by
  rw[sks,zd]at h
  by_cases e:x=y
  ·subst e
   have ex:PyData.eqv x x=true:=(sk_eq x x h.1).mpr rfl;rw[ltDs,qt ex]at h1 h2;rw[xAlb xs ys h.2 h1 h2]
  ·have b:¬PyData.eqv x y=true:=λz=>e ((sk_eq x y h.1).mp z)
   have hs:sk y x=true:=xAqv x y h.1;have a:¬PyData.eqv y x=true:=λz=>e ((sk_eq y x hs).mp z).symm;rw[ltDs,qs b]at h1;rw[ltDs,qs a]at h2;exact absurd (xAla x y h.1 h1 h2) e
def xAqv:∀(a b:PyData),sk a b=true->sk b a=true
 |.tuple xs,b,h=>by
  cases b with
  |tuple ys=>rw[sk];exact xAlc xs ys (by simpa[sk] using h)
  |_=>simp[sk]at h
 |.none,b,h=>by cases b <;> simp_all [sk]
 |.bool _,b,h=>by cases b <;> simp_all [sk]
 |.int _,b,h=>by cases b <;> simp_all [sk]
 |.str _,b,h=>by cases b <;> simp_all [sk]
 |.list _,b,h=>by cases b <;> simp[sk]at h
 |.dict _,b,h=>by cases b <;> simp[sk]at h
def xAlc:∀(xs ys:List PyData),sks xs ys=true->sks ys xs=true
 |[],[],_=>rfl
 |[],_::_,_=>rfl
 |_::_,[],_=>rfl
 |x::xs,y::ys,h=>by
  rw[sks,zd]at h ⊢;exact⟨xAqv x y h.1,xAlc xs ys h.2⟩
end
mutual
def xAwo:∀(a b c:PyData),sk a b=true->sk b c=true->sk a c=true->ltD a b=true->ltD b c=true->ltD a c=true
 |.tuple xs,b,c,h1,h2,h3,l1,l2=>by
  cases b with
  |tuple ys =>
   cases c with
   |tuple zs=>rw[ltD];exact xAqw xs ys zs (by simpa[sk] using h1) (by simpa[sk] using h2) (by simpa[sk] using h3) (by simpa[ltD] using l1) (by simpa[ltD] using l2)
   |_=>simp[sk]at h3
  |_=>simp[sk]at h1
 |.none,b,c,_,_,_,l1,_=>by cases b <;> simp[ltD]at l1
 |.bool a,b,c,h1,h2,h3,l1,l2=>by
  cases b with
  |bool y =>
   cases c with
   |bool z=>cases a <;> cases y <;> cases z <;> simp_all [ltD]
   |_=>simp[sk]at h3
  |_=>simp[sk]at h1
 |.int i,b,c,h1,h2,h3,l1,l2=>by
  cases b with
  |int y =>
   cases c with
   |int z=>simp only[ltD,decide_eq_true_eq]at *;omega
   |_=>simp[sk]at h3
  |_=>simp[sk]at h1
 |.str i,b,c,h1,h2,h3,l1,l2=>by
  cases b with
  |str y =>
   cases c with
   |str z=>simp only[ltD,decide_eq_true_eq]at *;exact List.lt_trans l1 l2
   |_=>simp[sk]at h3
  |_=>simp[sk]at h1
 |.list _,b,c,_,_,_,l1,_=>by cases b <;> simp[ltD]at l1
 |.dict _,b,c,_,_,_,l1,_=>by cases b <;> simp[ltD]at l1
def xAqw:∀(xs ys zs:List PyData),sks xs ys=true->sks ys zs=true->sks xs zs=true->ltDs xs ys=true->ltDs ys zs=true->ltDs xs zs=true
 |_,_,[],_,_,_,_,l2=>by
  rename_i ys _ _ _ _
  cases ys <;> simp[ltDs]at l2
 |[],_,_::_,_,_,_,_,_=>rfl
 |x::xs,[],_::_,_,_,_,l1,_=>by simp[ltDs]at l1
 |x::xs,y::ys,z::zs,h1,h2,h3,l1,l2=>by
  rw[sks,zd]at h1 h2 h3
  by_cases e:x=y
  ·subst e
   have b:PyData.eqv x x=true:=(sk_eq x x h1.1).mpr rfl;rw[ltDs,qt b]at l1
   by_cases a:x=z
   ·subst a
    rw[ltDs,qt b]at l2 ⊢;exact xAqw xs ys zs h1.2 h2.2 h3.2 l1 l2
   ·have c:¬PyData.eqv x z=true:=λw=>a ((sk_eq x z h3.1).mp w)
    rw[ltDs,qs c]at l2 ⊢;exact l2
  ·have b:¬PyData.eqv x y=true:=λw=>e ((sk_eq x y h1.1).mp w)
   rw[ltDs,qs b]at l1
   by_cases a:y=z
   ·subst a
    rw[ltDs,qs b];exact l1
   ·have c:¬PyData.eqv y z=true:=λw=>a ((sk_eq y z h2.1).mp w)
    rw[ltDs,qs c]at l2;have d:=xAwo x y z h1.1 h2.1 h3.1 l1 l2
    have f:¬PyData.eqv x z=true:=λw=>by
     have:=(sk_eq x z h3.1).mp w;subst this;rw[xAfg]at d;cases d
    rw[ltDs,qs f];exact d
end
mutual
def xAwp:∀(a b c:PyData),sk a b=true->sk b c=true->sk a c=true->ltD a c=true->ltD a b=true\/ltD b c=true
 |.tuple xs,b,c,h1,h2,h3,l=>by
  cases b with
  |tuple ys =>
   cases c with
   |tuple zs=>rw[ltD,ltD];exact xAqx xs ys zs (by simpa[sk] using h1) (by simpa[sk] using h2) (by simpa[sk] using h3) (by simpa[ltD] using l)
   |_=>simp[sk]at h3
  |_=>simp[sk]at h1
 |.none,b,c,_,_,_,l=>by cases c <;> simp[ltD]at l
 |.bool a,b,c,h1,h2,h3,l=>by
  cases b with
  |bool y =>
   cases c with
   |bool z=>cases a <;> cases y <;> cases z <;> simp_all [ltD]
   |_=>simp[sk]at h3
  |_=>simp[sk]at h1
 |.int i,b,c,h1,h2,h3,l=>by
  cases b with
  |int y =>
   cases c with
   |int z=>simp only[ltD,decide_eq_true_eq]at *;omega
   |_=>simp[sk]at h3
  |_=>simp[sk]at h1
 |.str i,b,c,h1,h2,h3,l=>by
  cases b with
  |str y =>
   cases c with
   |str z =>
    simp only[ltD,decide_eq_true_eq]at *
    by_cases d:i.cps.toList<y.cps.toList
    ·exact .inl d
    ·exact .inr (List.lt_of_le_of_lt (jz.mp d) l)
   |_=>simp[sk]at h3
  |_=>simp[sk]at h1
 |.list _,b,c,_,_,_,l=>by cases c <;> simp[ltD]at l
 |.dict _,b,c,_,_,_,l=>by cases c <;> simp[ltD]at l
def xAqx:∀(xs ys zs:List PyData),sks xs ys=true->sks ys zs=true->sks xs zs=true->ltDs xs zs=true->ltDs xs ys=true\/ltDs ys zs=true
 |xs,_,[],_,_,_,l=>by cases xs <;> simp[ltDs]at l
 |[],[],_::_,_,_,_,_=>.inr rfl
 |[],_::_,_::_,_,_,_,_=>.inl rfl
 |x::xs,[],_::_,_,_,_,_=>.inr rfl
 |x::xs,y::ys,z::zs,h1,h2,h3,l=>by
  rw[sks,zd]at h1 h2 h3
  by_cases e:x=z
  ·subst e
   have a:PyData.eqv x x=true:=(sk_eq x x h3.1).mpr rfl;rw[ltDs,qt a]at l
   by_cases b:x=y
   ·subst b
    rw[ltDs,qt a,ltDs,qt a];exact xAqx xs ys zs h1.2 h2.2 h3.2 l
   ·have d:¬PyData.eqv x y=true:=λw=>b ((sk_eq x y h1.1).mp w)
    have c:¬PyData.eqv y x=true:=λw=>b ((sk_eq y x h2.1).mp w).symm;rw[ltDs,qs d,ltDs,qs c]
    cases p1:ltD x y with
    |true=>exact .inl rfl
    |false =>
     cases p2:ltD y x with
     |true=>exact .inr rfl
     |false=>exact absurd (xAla x y h1.1 p1 p2) b
  ·have a:¬PyData.eqv x z=true:=λw=>e ((sk_eq x z h3.1).mp w)
   rw[ltDs,qs a]at l;rcases xAwp x y z h1.1 h2.1 h3.1 l with p|p
   ·left
    have d:¬PyData.eqv x y=true:=λw=>by
     have:=(sk_eq x y h1.1).mp w;subst this;rw[xAfg]at p;cases p
    rw[ltDs,qs d];exact p
   ·right
    have c:¬PyData.eqv y z=true:=λw=>by
     have:=(sk_eq y z h2.1).mp w;subst this;rw[xAfg]at p;cases p
    rw[ltDs,qs c];exact p
end
def LtAt(A:Around)(s:Shared)(x y:Value)(b:Bool):Prop:=∀(prog:Program) (w:World) (E:Value->Shared->Prop) (Q:Value->Shared->Prop),Q (.bool b) s->wpAny (model prog w) A (richCompare .Lt x y) Q E s
open SeqAt in
def xAld(l b:Addr)(us vs:Array Value)(n n2:Nat)(dd o:Option Addr)(D p:Array (Option Value))(e:Nat->Bool)(c:Bool) :
  Meets (Builtin.«tuple.__lt__» ⟨[.ref l,.ref b],[]⟩)
   (λA R s=>s.heap.get? l=some { cls:=.type "tuple",dict:=dd,data:=.seq us n,slots:=D }/\s.heap.get? b=some { cls:=.type "tuple",dict:=o,data:=.seq vs n2,slots:=p } ∧
    (∀j (h1:j<us.size) (h2:j<vs.size),EqAt A.in1 s us[j] vs[j] (e j)) ∧
    (∀i (h1:i<us.size) (h2:i<vs.size),(∀j,j<i->e j=true)->e i=false->LtAt A.in1 s us[i] vs[i] c) ∧
    ((∀j,j<min us.size vs.size->e j=true)->c=decide (us.size<vs.size))/\R (.ok (.ret (.bool c))) s) :=
 .of_wp λprog w A R s h=>by
  obtain⟨G,g,d,tk,v⟩:=s;obtain⟨E,C,F,r,f,h⟩:=h;have f2:=AutoSeq1.sub_tuple_tuple
  have J:(us.toList.zip vs.toList).length=min us.size vs.size:=by simp
  wp_walk using wpAny_loadPart' E,wpAny_loadPart' C,wpAny_forIn_list _ (λrest b s'=>b.1=none/\s'=⟨G,g,d,tk,v⟩/\∃i,rest=(us.toList.zip vs.toList).drop i/\∀j,j<i->e j=true) _
  case turn =>
   rintro⟨y,x⟩ rest b s' ⟨a,rfl,i,hz,hi⟩
   have k:i<(us.toList.zip vs.toList).length:=by
    rcases jc i (us.toList.zip vs.toList).length with h' |h'
    ·exact h'
    ·rw[List.drop_of_length_le h']at hz;cases hz
   have h1:i<us.size:=by omega
   have h2:i<vs.size:=by omega
   rw[gw k]at hz;injection hz with hyx hrest
   have m:y=us[i]:=by have:=congrArg Prod.fst hyx;simpa using this
   have u:x=vs[i]:=by have:=congrArg Prod.snd hyx;simpa using this
   subst m u;refine qa (F i h1 h2 prog w _ _ ?_)
   cases m:e i with
   |true =>
    wp_walk
    exact⟨Y,Y,i+1,hrest,λj t=>by
     by_cases z:j=i
     ·rw[z];exact m
     ·exact hi j (by omega)⟩
   |false =>
    have q:=r i h1 h2 hi m;dsimp only;rw[qt (by rfl)];refine qa (wpAny_rule (qa (q prog w _ _ ?_)));exact qa (qb (qb (qb ⟨_,Y,h⟩)))
  case fin =>
   rintro⟨I,H⟩ s' ⟨a,rfl,i,hz,hi⟩
   simp only at a
   subst a
   have B:min us.size vs.size≤i:=by
    rcases jc i (us.toList.zip vs.toList).length with h' |h'
    ·rw[gw h']at hz;cases hz
    ·omega
   have:=f λj t=>hi j (by omega)
   wp_walk
   exact⟨_,Y,by rw[this]at h;simpa[Builtin.Tuple.tupleCompareSizes] using h⟩
  case h =>
   exact⟨Y,Y,0,Y,λj t=>absurd t (zv _)⟩
def LtAt.tuples{A:Around}{s:Shared}{l b:Addr}{us vs:Array Value}{e:Nat->Bool}{c:Bool}(D:s.heap.IsTuple l us)(y:s.heap.IsTuple b vs)(B:A.units<cLine)(G:∀j (h1:j<us.size) (h2:j<vs.size),SeqAt.EqAt A.in1 s us[j] vs[j] (e j))(p:∀i (h1:i<us.size) (h2:i<vs.size),(∀j,j<i->e j=true)->e i=false->LtAt A.in1 s us[i] vs[i] c)(g:(∀j,j<min us.size vs.size->e j=true)->c=decide (us.size<vs.size)):LtAt A s (.ref l) (.ref b) c:=λprog w E Q h=>by
 obtain⟨⟨z,dd,q,C⟩,t,r,n,v⟩:=id D;obtain⟨⟨u,m,k,o⟩,f,d,n2,a⟩:=id y
 simp only at r v d a
 subst r v d a
 exact richCompare_meets_room (op:=.Lt) ⟨_,t,Y⟩ ⟨_,f,Y⟩ F.slot_tuple_lt F.entry_tuple_lt (F.args_tuple_lt_2 _ _) (xAld l b us vs n n2 dd m C o e c)
  ⟨t,f,G,p,g,show Value.bool c≠Value.notImplemented/\Q (.bool c) s from⟨(λx=>nomatch x),h⟩⟩ B
def LtAt.ints(i j:Int)(t u:Tok):LtAt A s (.int i t) (.int j u) (decide (i<j)):=λprog w E Q h=>PyProof.Rows.lt_int h
def LtAt.strs(i j:Str)(t u:Tok):LtAt A s (.str i t) (.str j u) (decide (i.cps.toList<j.cps.toList)):=λprog w E Q h=>PyProof.Rows.lt_str h
def LtAt.bools(i j:Bool):LtAt A s (.bool i) (.bool j) (!i&&j):=λprog w E Q h=>by
 refine PyProof.Rows.lt_bool ?_;cases i <;> cases j <;> exact h
open SeqAt in
def xAqy:∀(xs ys:List PyData) (i:Nat),i<xs.length->i<ys.length->(∀j,j<i->pairEq xs ys j=true)->pairEq xs ys i=false->ltDs xs ys=ltD (xs.getD i .none) (ys.getD i .none)
 |x::xs,y::ys,0,_,_,_,h=>by
  have h':PyData.eqv x y=false:=h;rw[ltDs,qs (by rw[h'];decide)];rfl
 |x::xs,y::ys,i+1,h1,h2,hj,h=>by
  have h':PyData.eqv x y=true:=hj 0 (by omega);rw[ltDs,qt h'];exact xAqy xs ys i (by simpa using h1) (by simpa using h2) (λj a=>hj (j+1) (by omega)) h
 |[],_,_,h1,_,_,_=>absurd h1 (zv _)
 |_::_,[],_,_,h2,_,_=>absurd h2 (zv _)
open SeqAt in
def xAle:∀(xs ys:List PyData),(∀j,j<min xs.length ys.length->pairEq xs ys j=true)->ltDs xs ys=decide (xs.length<ys.length)
 |[],[],_=>rfl
 |[],_::_,_=>by simp[ltDs]
 |_::_,[],_=>by simp[ltDs]
 |x::xs,y::ys,h=>by
  have h':PyData.eqv x y=true:=h 0 (by simp);rw[ltDs,qt h',xAle xs ys λj a=>h (j+1) (by simp only[List.length_cons];omega)]
  simp
def xAwq:∀(xs ys:List PyData) (i:Nat),i<xs.length->i<ys.length->sks xs ys=true->sk (xs.getD i .none) (ys.getD i .none)=true
 |x::xs,y::ys,0,_,_,h=>by rw[sks,zd]at h;exact h.1
 |x::xs,y::ys,i+1,h1,h2,h=>by
  rw[sks,zd]at h;exact xAwq xs ys i (by simpa using h1) (by simpa using h2) h.2
 |[],_,_,h1,_,_=>absurd h1 (zv _)
 |_::_,[],_,_,h2,_=>absurd h2 (zv _)
def xAgg:∀(xs:List PyData) (i:Nat),i<xs.length->(xs.getD i .none).depth≤PyData.depthAll xs
 |x::xs,0,_=>by show x.depth≤max x.depth _;omega
 |x::xs,i+1,h=>by
  have:=xAgg xs i (by simpa using h);show(xs.getD i .none).depth≤max x.depth (PyData.depthAll xs);omega
 |[],_,h=>absurd h (zv _)
def xAcj:∀{vs:List Value} {ds:List PyData} {a:List Addr} {i:Nat} (hi:i<vs.length),ReadsAll h vs ds a->∃bs,Reads h vs[i] (ds.getD i .none) bs
 |_,_,_,0,_,.cons r _=>⟨_,r⟩
 |_,_,_,i+1,hi,.cons _ t=>xAcj (i:=i) (by simpa using hi) t
def xAhs(h:PyData.canLayAll0 ds=true)(hi:i<ds.length):(ds.getD i .none).canLay0=true :=
 xAdf (j:=i) h (by rw[qq,qf hi];rfl)
open SeqAt in
def xAlf:∀(n:Nat) (k c:PyData) (A:Around) (s:Shared) (a b:Value) (d bs:List Addr),k.depth≤n->Reads s.heap a k d->Reads s.heap b c bs->k.canLay0=true->c.canLay0=true->sk k c=true->k≠.none →
  A.units+n<cLine->LtAt A s a b (ltD k c)
 |n,.int i,c,A,s,a,b,d,bs,_,ra,rb,_,_,hk,_,_=>by
  cases c <;> simp[sk]at hk;cases ra;cases rb;exact LtAt.ints _ _ _ _
 |n,.str i,c,A,s,a,b,d,bs,_,ra,rb,_,_,hk,_,_=>by
  cases c <;> simp[sk]at hk;cases ra;cases rb;exact LtAt.strs _ _ _ _
 |n,.bool i,c,A,s,a,b,d,bs,_,ra,rb,_,_,hk,_,_=>by
  cases c <;> simp[sk]at hk;cases ra;cases rb;exact LtAt.bools _ _
 |n,.none,c,A,s,a,b,d,bs,_,_,_,_,_,_,hn,_=>absurd rfl hn
 |n,.list _,c,A,s,a,b,d,bs,_,_,_,_,_,hk,_,_=>by cases c <;> simp[sk]at hk
 |n,.dict _,c,A,s,a,b,d,bs,_,_,_,_,_,hk,_,_=>by cases c <;> simp[sk]at hk
 | 0,.tuple xs,c,A,s,a,b,d,bs,hd,_,_,_,_,_,_,_=>by
  have:PyData.depthAll xs+1≤0:=hd;omega
 |n+1,.tuple xs,c,A,s,a,b,d,bs,hd,ra,rb,ca,cb,hk,_,hu=>by
  cases c with
  |tuple ys =>
   have v:sks xs ys=true:=by simpa[sk] using hk
   have r:PyData.depthAll xs≤n:=by
    have:PyData.depthAll xs+1≤n+1:=hd;omega
   cases ra with
   |tuple h1 h2 E y =>
    cases rb with
    |tuple k1 k2 k3 t =>
     rename_i l o us m I o' vs G
     have D:=ReadsAll.length _ _ _ y;have C:=ReadsAll.length _ _ _ t;rw[qx]at D C
     have e:ltD (.tuple xs) (.tuple ys)=ltDs xs ys:=by rw[ltD]
     rw[e]
     have B:∀j (p:j<us.size) (q:j<vs.size),EqAt A.in1 s us[j] vs[j] (pairEq xs ys j):=λj p q=>by
      obtain⟨p1,u⟩:=xAcj (i:=j) (by rw[qx];exact p) y;obtain⟨p2,x⟩:=xAcj (i:=j) (by rw[qx];exact q) t;have H:=xAgg xs j (by omega);have:=eqAt_reads (xs.getD j .none) (ys.getD j .none) A.in1 s _ _ _ _ u x (xAhs ca (by omega)) (xAhs cb (by omega)) (by show A.units+1+_<cLine;omega)
      simp only[Array.getElem_toList]at this
      exact this
     refine LtAt.tuples ⟨_,h1,h2,_,E⟩ ⟨_,k1,k2,_,k3⟩ (by omega) B (λi p q w hf=>?_) λw=>?_
     ·obtain⟨p1,u⟩:=xAcj (i:=i) (by rw[qx];exact p) y
      obtain⟨p2,x⟩:=xAcj (i:=i) (by rw[qx];exact q) t;rw[xAqy xs ys i (by omega) (by omega) w hf];have f:=xAwq xs ys i (by omega) (by omega) v
      have:=xAlf n (xs.getD i .none) (ys.getD i .none) A.in1 s _ _ _ _ (qh (xAgg xs i (by omega)) r) u x (xAhs ca (by omega)) (xAhs cb (by omega)) f (λz=>by
       have g:PyData.eqv (xs.getD i .none) (ys.getD i .none)=false:=hf;rw[z]at f g
       cases F:ys.getD i .none <;> rw[F]at f g <;> simp[sk,PyData.eqv]at f g) (by show A.units+1+_<cLine;omega)
      simpa using this
     ·rw[xAle xs ys λj h=>w j (by omega),D,C]
  |_=>simp[sk]at hk
end L2
namespace L2
open PySem PySem.Spec PySem.W PyProof.Rows
section
variable {prog:Program}{w:World}{A:Around}{E:Value->Shared->Prop}{s:Shared}
def Ext(h h':Heap):Prop:=∀b o,h.get? b=some o->h'.get? b=some o
def Ext.trans(a:Ext h h')(b:Ext h' d):Ext h d:=λc o e=>b c o (a c o e)
def Ext.push(h:Heap)(o:Obj):Ext h (h.push o):=λ_ _ e=>qA _ e
def Ext.upd{h h':Heap}{a:Addr}{f:Obj->Obj}(x:Ext h h')(c:h.objs.size≤a):Ext h (h'.update a f):=λb o e=>by
 rw[Heap.get?_update_ne _ _ _ _ (qg (qv (q0 e) c))];exact x b o e
def Answers(prog:Program)(w:World)(A:Around)(s:Shared)(ks:List Value)(lt:Nat->Nat->Bool):Prop :=
 ∃κ,(∀(Q:SortKind->Shared->Prop),Q κ s->wpAny (model prog w) A (keyKind' ks.toArray) Q (λ_ _=>False) s)/\∀i j C,i<ks.length->j<ks.length->C (lt i j) s->kas_ask prog w A κ ks i j C s
def Arr(n:Nat)(lt:Nat->Nat->Bool)(p:Array Nat):Prop:=p.Perm (List.toArray (List.range n))/\Srt.Up lt p n
def xAht{lt:Nat->Nat->Bool}(W:Srt.Swo lt)(h:n<2):Arr n lt (List.toArray (List.range n)):=by
 refine⟨.refl _,λi j a b=>?_⟩
 have:i=j:=by omega
 subst this;exact W.irr _
def Few(lt:Nat->Nat->Bool)(n:Nat):Prop:=n<64\/∀i j,i≤j->j<n->lt j i=false
def xAlg{vs ks:List Value}{lt:Nat->Nat->Bool}(W:Srt.Swo lt)(d:ks.length=vs.length)(b:Few lt vs.length)(h2:¬vs.length<2){κ:SortKind}(t:∀i j C,i<ks.length->j<ks.length->C (lt i j) s->kas_ask prog w A κ ks i j C s){R:SortSt->Shared->Prop}(u:∀st p,Arr vs.length lt p->(arrOf st).map (·.2)=List.toArray (p.toList.map λi=>vs.getD i Value.none)->failedOf st=none->R st s) :
  wpAny (model prog w) A ((sortRuns').run (SortSt.mk' κ (ks.toArray.zip vs.toArray) #[] 7 none)) (λr s'=>R r.2 s') E s:=by
 rcases b with b|up
 ·refine kat_run (G:=λp s'=>s'=s/\Arr vs.length lt p) d (by omega) b (λp st s' _ a2 v x=>?_) ?_
  ·obtain⟨rfl,z⟩:=x
   exact u st p z (kat_snds d a2) v
  ·exact(Srt.sort_ok W (by omega)).wp (λi j C h1 y c=>t i j C (by omega) (by omega) c) λp B=>⟨Y,B⟩
 have hz:(List.toArray (List.range vs.length)).size=vs.length:=by simp
 have l:Tim.Ans prog w A s κ (ks.toArray.zip vs.toArray) vs.length lt:=λi j C h1 h2 c=>by
  have:=t i j C (by omega) (by omega) c;rw[kat_ask_eq d]at this;exact this
 have f:∀i,i<vs.length->Srt.g (List.toArray (List.range vs.length)) i=i:=λi hi=>by
  unfold Srt.g;rw[z7]
  simp[hi]
 have o:Tim.In vs.length (List.toArray (List.range vs.length)):=λi hi=>by
  rw[hz]at hi;rw[f i hi];exact hi
 have q:=Tim.runs_asc (E:=E) (Q:=λ_ st=>R st s) W l o (by rw[hz];omega) (λi j _ a k=>by rw[hz]at k;rw[f i (by omega),f j (by omega)];exact up i j a (by omega)) λpd m=>?_
 ·have n:SortSt.mk' κ (ks.toArray.zip vs.toArray) #[] 7 none=Tim.S κ (ks.toArray.zip vs.toArray) (List.toArray (List.range vs.length)) #[] 7:=by
   have e:=kas_range (ks.toArray.zip vs.toArray);rw[show(ks.toArray.zip vs.toArray).size=vs.length by simp[d]]at e;rw[Tim.S,e]
  rw[n];refine qE q (λr s' h=>?_) λ_ _ e=>e;rw[h.1];exact h.2
 ·exact u _ _ ⟨.refl _,λi j a k=>by rw[f i (by omega),f j k];exact up i j a k⟩ (kat_snds d rfl) rfl
def xAdi{lt:Nat->Nat->Bool}(W:Srt.Swo lt)(o:s.heap.get? a=some (seqObj "list" vs.toArray n))(x:vs.length≤2000)(m:Few lt vs.length)(d:h0.objs.size≤a)(y:Ext h0 s.heap)(f:∀h',Ext h0 h'->2≤vs.length->Answers prog w A { s with heap:=h' } vs lt)(h:∀h' p c,Ext h0 h'->Arr vs.length lt p->h'.get? a=some (seqObj "list" (List.toArray (p.toList.map λi=>vs.getD i Value.none)) c)->P (.done (.ret .none)) { s with heap:=h' }) :
  wpAny (model prog w) A (Builtin.«list.sort» ⟨[.ref a],[]⟩) P E s:=by
 obtain⟨c1,o1⟩:∃c1,(s.heap.update a (Obj.mapSeq λ_=>#[])).get? a=some (seqObj "list" #[] c1):=⟨_,get?_update_seq o (λ_=>#[])⟩;have r:Ext h0 (((s.heap.update a (Obj.mapSeq λ_=>#[])).push (seqObj "tuple" vs.toArray 0)).push (seqObj "list" #[] 0)):=(((y.upd d).trans (.push _ _)).trans (.push _ _));have e:(((s.heap.update a (Obj.mapSeq λ_=>#[])).push (seqObj "tuple" vs.toArray 0)).push (seqObj "list" #[] 0)).get? a=some (seqObj "list" #[] c1):=qA _ (qA _ o1)
 have q:vs.length≤sizeLine:=by rw[sizeLine_eq];omega
 have last:∀p,Arr vs.length lt p->∀(out:Array Value),out=List.toArray (p.toList.map λi=>vs.getD i Value.none)->out.size≤sizeLine+1/\P (.done (.ret .none)) { s with heap:=(((s.heap.update a (Obj.mapSeq λ_=>#[])).push (seqObj "tuple" vs.toArray 0)).push (seqObj "list" #[] 0)).update a (Obj.mapSeq λ_=>out) }:=λp g out j=>by
  obtain⟨c2,o2⟩:∃c2,((((s.heap.update a (Obj.mapSeq λ_=>#[])).push (seqObj "tuple" vs.toArray 0)).push (seqObj "list" #[] 0)).update a (Obj.mapSeq λ_=>out)).get? a=some (seqObj "list" out c2):=⟨_,get?_update_seq e (λ_=>out)⟩;refine⟨?_,h _ p c2 (r.upd d) g (by rw[←j];exact o2)⟩;rw[j,qz,qc,qx,g.1.size_eq]
  simp
  omega
 rw[list_sort_plain];refine qa (listItems_at o rfl (qa (listUpdate_at o rfl (qa (seqEpoch_at o1 rfl (qa (wpAny_newTuple (qa (wpAny_newList (qD ?_) (qk _))) q)))) (by rw[qz];exact q) (qk _))));show wpAny (model prog w) A _ P E { s with heap:=((s.heap.update a (Obj.mapSeq λ_=>#[])).push (seqObj "tuple" vs.toArray 0)).push (seqObj "list" #[] 0) };dsimp only
 by_cases h2:vs.toArray.size<2
 ·rw[qt h2,qt h2]
  have b:vs.length<2:=by simpa using h2
  have l:=last _ (xAht W b) (vs.toArray) (by
   apply j4.mp
   simp only[List.toList_toArray]
   apply zy;intro i
   by_cases hi:i<vs.length
   ·simp[hi]
   ·simp[hi])
  refine qa (qb ?_);rw[StateT.run_pure];refine qa (qb ?_);dsimp only
  have v:(arrOf (SortSt.mk' general' (vs.toArray.zip vs.toArray) #[] 7 none)).map (·.2)=vs.toArray:=by
   apply j4.mp;show((vs.toArray.zip vs.toArray).map (·.2)).toList=vs;rw[Array.toList_map,Array.toList_zip];exact List.map_snd_zip (qd _)
  rw[v];refine qa (seqEpoch_at e rfl (qa (listUpdate_at e rfl ?_ (qk _) l.1)))
  simp only[bne_self_eq_false,Bool.false_eq_true,if_false]
  exact qb l.2
 ·rw[qs h2,qs h2]
  have b:¬vs.length<2:=by simpa using h2
  obtain⟨κ,u,B⟩:=f _ r (by omega);refine qa (qE (u (λk s'=>k=κ/\s'={ s with heap:=((s.heap.update a (Obj.mapSeq λ_=>#[])).push (seqObj "tuple" vs.toArray 0)).push (seqObj "list" #[] 0) }) ⟨Y,Y⟩) ?_ λ_ _ z=>z.elim);rintro k s' ⟨rfl,rfl⟩;refine qa (qE (xAlg (E:=E) (R:=λst s'=>s'={ s with heap:=((s.heap.update a (Obj.mapSeq λ_=>#[])).push (seqObj "tuple" vs.toArray 0)).push (seqObj "list" #[] 0) }/\∃p,Arr vs.length lt p/\(arrOf st).map (·.2)=List.toArray (p.toList.map λi=>vs.getD i Value.none)/\failedOf st=none) W rfl m b B λst p a1 a2 t=>⟨Y,p,a1,a2,t⟩) ?_ λ_ _ z=>z);rintro⟨⟨⟩,st⟩ s' ⟨rfl,p,g,j,hf⟩;have l:=last p g _ j;dsimp only;refine qa (seqEpoch_at e rfl (qa (listUpdate_at e rfl ?_ (qk _) l.1)));rw[hf]
  simp only[bne_self_eq_false,Bool.false_eq_true,if_false]
  exact qb l.2
def xAos{lt:Nat->Nat->Bool}(W:Srt.Swo lt)(j:s.heap.IsList l vs.toArray)(d:vs.length≤2000)(f:Few lt vs.length)(b:∀h',Ext s.heap h'->2≤vs.length->Answers prog w A.in1.in1 { s with heap:=h' } vs lt)(h:∀h' a p c,Ext s.heap h'->s.heap.objs.size≤a->Arr vs.length lt p->h'.get? a=some (seqObj "list" (List.toArray (p.toList.map λi=>vs.getD i Value.none)) c)->Q (.ref a) { s with heap:=h' }) :
  wpAny (model prog w) A (call (.builtin "sorted") [.ref l]) Q E s:=by
 have g:vs.length≤sizeLine:=by rw[sizeLine_eq];omega
 refine Calls.call_function_entry kind_sorted plain_sorted entry_sorted (args_sorted1 _) ?_;unfold Builtin.«sorted»;refine qa (m:=checkCount "sorted" 1 1 _) (qb (qa (collect_list j (qa (wpAny_newList ?_ g)) g)));have hsz:((s.heap.push (seqObj "list" #[] 0)).update s.heap.objs.size (Obj.mapSeq (·++vs.toArray))).objs.size=s.heap.objs.size+1:=(Heap.size_update _ _ _).trans (size_push' _ _);have n:Ext s.heap (((s.heap.push (seqObj "list" #[] 0)).update s.heap.objs.size (Obj.mapSeq (·++vs.toArray))).push (seqObj "list" vs.toArray 0)):=((Ext.push _ _).upd (qd _)).trans (.push _ _);have o1:(((s.heap.push (seqObj "list" #[] 0)).update s.heap.objs.size (Obj.mapSeq (·++vs.toArray))).push (seqObj "list" vs.toArray 0)).get? (s.heap.objs.size+1)=some (seqObj "list" vs.toArray 0):=hsz▸qB _ rfl;show wpAny (model prog w) _ _ _ _ { s with heap:=((s.heap.push (seqObj "list" #[] 0)).update s.heap.objs.size (Obj.mapSeq (·++vs.toArray))).push (seqObj "list" vs.toArray 0) };rw[hsz];refine qa (qD (qH slot_list_sort ⟨_,o1,Y⟩ entry_list_sort (xAdi W o1 d f (h0:=s.heap) (we _) n b λh' p c x k e=>?_) (args_list_sort _)));exact⟨_,Y,qb ⟨_,Y,h h' _ p c x (we _) k e⟩⟩
end
def xAhu(h:n≤2000):n<sizeLine:=z9 h (by decide)
def isK:Nat->PyData->Prop
 | 0,.int _=>True
 | 1,.str _=>True
 | 2,.tuple (.int _::_)=>True
 | 3,.tuple (.str _::_)=>True
 | 4,.tuple (.tuple _::_)=>True
 |_,_=>False
def xAwr(t:Nat)(d:PyData):¬isK (t+5) d:=by
 intro h
 cases d with
 |tuple xs =>
  cases xs with
  |nil=>exact h
  |cons x xs=>cases x <;> exact h
 |_=>exact h
section
variable {prog:Program}{w:World}{A:Around}{s:Shared}
def xAsr(h:LtAt A s x y c)(q:Q c s):wpAny (model prog w) A (oneLt' false x y) Q E s :=
 kat_one x y (h prog w E _ q)
def katlex:∀(us vs:List Value) (xs ys:List PyData) (C bs:List Addr) (i:Nat),ReadsAll s.heap us xs C->ReadsAll s.heap vs ys bs->PyData.canLayAll0 xs=true->PyData.canLayAll0 ys=true->sks xs ys=true →
  PyData.depthAll xs≤60->A.units+60<cLine->(i=0->b=true->(∃p q r g,xs=.int p::r/\ys=.int q::g)\/∃p q r g,xs=.str p::r/\ys=.str q::g)->a=decide (us.length<vs.length)->Q (ltDs xs ys) s->KatLex prog w A b a Q (us.zip vs) i s:=by
 intro us
 induction us with
 |nil =>
  intro vs xs ys C bs i m j _ _ _ _ _ _ hf q;cases m;have t:=SeqAt.ReadsAll.length _ _ _ j;show Q a s;rw[hf]
  cases ys with
  |nil=>rw[wu]at t ⊢;rw[t];exact q
  |cons y ys=>rw[t];exact q
 |cons u us H =>
  intro vs xs ys C bs i m j G cb k I E h0 hf q
  cases vs with
  |nil =>
   cases j;cases m;show Q a s;rw[hf];exact q
  |cons v vs =>
   cases m with
   |@cons _ _ x xs _ _ l t1 =>
    cases j with
    |@cons _ _ y ys _ _ n t2 =>
     have c:(x.canLay0&&PyData.canLayAll0 xs)=true:=G;have d:(y.canLay0&&PyData.canLayAll0 ys)=true:=cb;rw[zd]at c d;rw[sks,zd]at k
     have h:x.depth≤60/\PyData.depthAll xs≤60:=by
      have:max x.depth (PyData.depthAll xs)≤60:=I;omega
     have D:=SeqAt.eqAt_reads x y A s u v _ _ l n c.1 d.1 (by omega);refine kat_cons (D prog w _ _ ?_)
     cases e:PyData.eqv x y with
     |true =>
      rw[ltDs,qt e]at q;refine kat_yes (H vs xs ys _ _ (i+1) t1 t2 c.2 d.2 k.2 h.2 E (λz=>by omega) ?_ q);rw[hf]
      simp
     |false =>
      rw[ltDs,qs (by rw[e];decide)]at q;refine kat_no ?_
      by_cases f:(b&&i==0)=true
      ·rw[f]
       rw[zd]at f;rcases h0 (by simpa using f.2) f.1 with⟨p,F,r,g,o,B⟩|⟨p,F,r,g,o,B⟩
       ·cases o;cases B
        cases l;cases n;exact oneLt_int q
       ·cases o;cases B
        cases l;cases n;exact oneLt_str q
      ·rw[Bool.not_eq_true]at f
       rw[f]
       exact xAsr (xAlf 60 x y A s u v _ _ h.1 l n c.1 d.1 k.1 (λz=>by
        subst z;have:=k.1
        cases y <;> simp[sk,PyData.eqv]at this e) E) q
def xAhv:∀{vs:List Value} {ds:List PyData} {w:List Addr},ReadsAll s.heap vs ds w->(∀d∈ds,∃f r,d=.tuple (f::r))->∃fs,KatTups s.heap vs fs/\fs.length=vs.length/\∀v∈fs,∃f r bs,PyData.tuple (f::r)∈ds/\Reads s.heap v f bs
 |[],_,_,.nil,_=>⟨[],trivial,Y,λ_ z=>nomatch z⟩
 |v::vs,_,_,.cons (d:=d) (ds:=ds) r t,h=>by
  obtain⟨fs,k1,k2,k3⟩:=xAhv t λx j=>h x (qw _ j);obtain⟨f,i,e⟩:=h d ql;subst e
  cases r with
  |tuple h1 h2 l b =>
   rename_i a o us n
   cases e:us.toList with
   |nil=>rw[e]at b;cases b
   |cons u A =>
    rw[e]at b
    cases b with
    |cons p y =>
     refine⟨u::fs,KatTups.cons h1 h2 l (by rw[←zf,e];rfl) k1,by rw[zc,zc,k2],λv c=>?_⟩;rcases za.mp c with rfl|c
     ·exact⟨f,i,_,ql,p⟩
     ·obtain⟨k,g,bs,m,q⟩:=k3 v c
      exact⟨k,g,bs,qw _ m,q⟩
def keyAt(ds:List PyData)(i:Nat):PyData:=ds.getD i (ds.headD .none)
def xAhw(h:ds≠[])(i:Nat):keyAt ds i∈ds:=by
 unfold keyAt;rw[qq]
 cases e:ds[i]? with
 |some x=>exact qo e
 |none =>
  cases ds with
  |nil=>exact absurd rfl h
  |cons a b=>exact ql
def ltK(ds:List PyData)(i j:Nat):Bool:=ltD (keyAt ds i) (keyAt ds j)
def xAss(h:∀a∈ds,∀b∈ds,sk a b=true):Srt.Swo (ltK ds):=by
 by_cases e:ds=[]
 ·subst e
  exact⟨λ_=>rfl,λ_ _ _ z=>(by cases z),λ_ _ _ z=>(by cases z)⟩
 ·have m:=xAhw e
  exact⟨λ_=>xAfg _,λa b c=>xAwo _ _ _ (h _ (m a) _ (m b)) (h _ (m b) _ (m c)) (h _ (m a) _ (m c)),λa b c=>xAwp _ _ _ (h _ (m a) _ (m b)) (h _ (m b) _ (m c)) (h _ (m a) _ (m c))⟩
structure KeysAre(ds:List PyData)(t:Nat):Prop where
 lay:PyData.canLayAll0 ds=true
 kind:∀d∈ds,isK t d
 one:∀a∈ds,∀b∈ds,sk a b=true
 deep:∀d∈ds,d.depth≤60
def xAst(r:Reads h v (.int i) a):∃t,v=.int i t:=by cases r;exact⟨_,Y⟩
def xAsu(r:Reads h v (.str i) a):∃t,v=.str i t:=by cases r;exact⟨_,Y⟩
def xAws(r:Reads h v (.tuple xs) b):∃a o vs n,v=.ref a/\h.get? a=some o/\o.cls=.type "tuple" /\ o.data=.seq vs n/\ReadsAll h vs.toList xs b:=by
 cases r with
 |tuple f e d c=>exact⟨_,_,_,_,Y,f,e,d,c⟩
def isK_0(h:isK 0 d):∃i,d=.int i:=by cases d <;> first|exact⟨_,Y⟩|exact h.elim
def isK_1(h:isK 1 d):∃i,d=.str i:=by cases d <;> first|exact⟨_,Y⟩|exact h.elim
def isK_t{t:Nat}(h:isK t d)(a:2≤t):∃f r,d=.tuple (f::r):=by
 unfold isK at h
 split at h <;> first|exact⟨_,_,Y⟩|omega|exact h.elim
def isK_2(h:isK 2 d):∃p r,d=.tuple (.int p::r):=by
 obtain⟨f,r,rfl⟩:=isK_t h (by decide)
 cases f <;> first|exact⟨_,_,Y⟩|exact h.elim
def isK_3(h:isK 3 d):∃p r,d=.tuple (.str p::r):=by
 obtain⟨f,r,rfl⟩:=isK_t h (by decide)
 cases f <;> first|exact⟨_,_,Y⟩|exact h.elim
def isK_4(h:isK 4 d):∃p r,d=.tuple (.tuple p::r):=by
 obtain⟨f,r,rfl⟩:=isK_t h (by decide)
 cases f <;> first|exact⟨_,_,Y⟩|exact h.elim
def xAdj{t:Nat}(r:ReadsAll s.heap ks ds as)(K:KeysAre ds t)(h2:2≤ks.length)(hu:A.units+60<cLine):Answers prog w A s ks (ltK ds):=by
 have hl:=SeqAt.ReadsAll.length _ _ _ r
 have look:∀i,i<ks.length->∃bs,Reads s.heap (ks.getD i Value.none) (keyAt ds i) bs/\keyAt ds i∈ds:=λi hi=>by
  obtain⟨bs,q⟩:=xAcj hi r
  have h:ks.getD i Value.none=ks[i]:=by simp[hi]
  have l:keyAt ds i=ds.getD i .none:=by
   have S:i<ds.length:=by omega
   unfold keyAt;rw[qq,qq,qf S];rfl
  refine⟨bs,by rw[h,l];exact q,xAhw (λz=>?_) i⟩;rw[z,wu]at hl;omega
 have E:∀v∈ks,∃d bs,d∈ds/\Reads s.heap v d bs:=λv H=>by
  obtain⟨i,hi,e⟩:=zx.mp H;obtain⟨bs,q,m⟩:=look i hi;exact⟨_,bs,m,by rw[←e];simpa[hi] using q⟩
 have x:∀d∈ds,d.canLay0=true:=λd a=>by
  obtain⟨i,hi,e⟩:=zx.mp a;exact xAdf (j:=i) K.lay (by rw[qf hi,e])
 have tups:(∀d∈ds,∃f r,d=.tuple (f::r))->(T:Value)->(∀v f bs r,Reads s.heap v f bs->PyData.tuple (f::r)∈ds->Looks (model prog w) s.heap (typeOf v) T)->(T==T)=true →
   ((T != Value.type "tuple")=true->∀d∈ds,∀d'∈ds,(∃p q r b,d=.tuple (.int p::r)/\d'=.tuple (.int q::b))\/∃p q r b,d=.tuple (.str p::r)/\d'=.tuple (.str q::b))->Answers prog w A s ks (ltK ds):=λh1 T P U Y=>by
  obtain⟨fs,k1,k2,k3⟩:=xAhv r h1;refine⟨tuples' (T != Value.type "tuple"),λQ q=>kat_kind k1 (by omega) (λv H=>?_) U q,λi j C hi L c=>?_⟩
  ·obtain⟨f,b,bs,m,q⟩:=k3 v H
   exact P v f bs b q m
  ·obtain⟨X,y,o⟩:=look i hi
   obtain⟨W,u,F⟩:=look j L;unfold ltK at c;obtain⟨f1,J,h⟩:=h1 _ o;obtain⟨f2,I,l⟩:=h1 _ F;have V:=K.deep _ o;have kk:=K.one _ o _ F;have D:=x _ o;have B:=x _ F;have N:=λz=>Y z _ o _ F;rw[h]at y V kk D N c;rw[l]at u kk B N c;unfold kas_ask;obtain⟨a1,o1,v1,n1,k,Z,x2,x3,x4⟩:=xAws y;obtain⟨a2,o2,v2,n2,n,y1,y2,y3,y4⟩:=xAws u;rw[k,n];refine kat_lt Z x3 y1 y3 (katlex _ _ _ _ _ _ 0 x4 y4 D B (by simpa[sk] using kk) ?_ hu (λ_ z=>?_) (by simp) (by rw[ltD]at c;exact c))
   ·have:PyData.depthAll (f1::J)+1≤60:=V
    omega
   ·rcases N z with⟨p,q,r,b,O,R⟩|⟨p,q,r,b,O,R⟩
    ·exact .inl ⟨p,q,r,b,PyData.tuple.inj O,PyData.tuple.inj R⟩
    ·exact .inr ⟨p,q,r,b,PyData.tuple.inj O,PyData.tuple.inj R⟩
 match t,K.kind with
 | 0,hk =>
  refine⟨oneType',λQ q=>kas_kind (T:=Value.type "int") h2 (λv H=>?_) rfl rfl q,λi j C hi L c=>?_⟩
  ·obtain⟨d,bs,m,q⟩:=E v H
   obtain⟨_,rfl⟩:=isK_0 (hk d m);obtain⟨_,rfl⟩:=xAst q;exact Looks.of_pure rfl
  ·obtain⟨X,y,o⟩:=look i hi
   obtain⟨W,u,F⟩:=look j L;unfold ltK at c;unfold kas_ask;obtain⟨_,h⟩:=isK_0 (hk _ o);obtain⟨_,l⟩:=isK_0 (hk _ F);rw[h]at y c;rw[l]at u c;obtain⟨_,k⟩:=xAst y;obtain⟨_,n⟩:=xAst u;rw[k,n,keyLt'_oneType];exact oneLt_int c
 | 1,hk =>
  refine⟨oneType',λQ q=>kas_kind (T:=Value.type "str") h2 (λv H=>?_) rfl rfl q,λi j C hi L c=>?_⟩
  ·obtain⟨d,bs,m,q⟩:=E v H
   obtain⟨_,rfl⟩:=isK_1 (hk d m);obtain⟨_,rfl⟩:=xAsu q;exact Looks.of_pure rfl
  ·obtain⟨X,y,o⟩:=look i hi
   obtain⟨W,u,F⟩:=look j L;unfold ltK at c;unfold kas_ask;obtain⟨_,h⟩:=isK_1 (hk _ o);obtain⟨_,l⟩:=isK_1 (hk _ F);rw[h]at y c;rw[l]at u c;obtain⟨_,k⟩:=xAsu y;obtain⟨_,n⟩:=xAsu u;rw[k,n,keyLt'_oneType];exact oneLt_str c
 | 2,hk =>
  have g:∀d∈ds,∃p r,d=.tuple (.int p::r):=λd a=>isK_2 (hk d a);refine tups (λd a=>let⟨p,r,e⟩:=g d a;⟨_,r,e⟩) (Value.type "int") (λv f bs b q m=>?_) rfl λ_ d a d' G=>?_
  ·obtain⟨p,I,e⟩:=g _ m
   cases e;cases q;exact Looks.of_pure rfl
  ·obtain⟨p,J,h⟩:=g d a
   obtain⟨q,I,l⟩:=g d' G;exact .inl ⟨p,q,J,I,h,l⟩
 | 3,hk =>
  have g:∀d∈ds,∃p r,d=.tuple (.str p::r):=λd a=>isK_3 (hk d a);refine tups (λd a=>let⟨p,r,e⟩:=g d a;⟨_,r,e⟩) (Value.type "str") (λv f bs b q m=>?_) rfl λ_ d a d' G=>?_
  ·obtain⟨p,I,e⟩:=g _ m
   cases e;cases q;exact Looks.of_pure rfl
  ·obtain⟨p,J,h⟩:=g d a
   obtain⟨q,I,l⟩:=g d' G;exact .inr ⟨p,q,J,I,h,l⟩
 | 4,hk =>
  have g:∀d∈ds,∃p r,d=.tuple (.tuple p::r):=λd a=>isK_4 (hk d a)
  refine tups (λd a=>let⟨p,r,e⟩:=g d a;⟨_,r,e⟩) (Value.type "tuple") (λv f bs b q m=>?_) rfl λz=>absurd z (by decide)
  obtain⟨p,I,e⟩:=g _ m;cases e
  cases q with
  |tuple h1 h2 U Y =>
   have:=(Looks.ld (M:=model prog w) (part:=none) h1);rw[←h2];exact(Looks.ld h1).andThen .now
 |t+5,hk =>
  exfalso;obtain⟨bs,q,m⟩:=look 0 (by omega);exact xAwr t _ (hk _ m)
end
def SortIx(ds:List PyData)(ix:List Nat):Prop:=ix.Perm (List.range ds.length)/\(ix.map (keyAt ds)).Pairwise λa b=>ltD b a=false
def xAen(h:Arr ds.length (ltK ds) p):SortIx ds p.toList:=by
 have hs:p.size=ds.length:=by rw[h.1.size_eq];simp
 refine⟨by simpa using h.1.toList,?_⟩;rw[wz];intro i j hi a b;rw[qc,qx]at hi a;have:=h.2 i j (by omega) (by omega);unfold ltK Srt.g at this;rw[ym,ym];simpa[Array.getD,hi,a] using this
def xAeo(r:Vals ys us)(ix:List Nat)(h:∀i∈ix,i<ys.length):Vals (ix.map λi=>ys.getD i .non) (ix.map λi=>us.getD i Value.none):=by
 induction ix with
 |nil=>exact .nil
 |cons i ix c =>
  have hi:=h i ql;obtain⟨u,d,a⟩:=r.get (i:=i) (x:=ys[i]) (qf hi);refine .cons ?_ (c λj b=>h j (qw _ b));show RelV (ys.getD i .non) (us.getD i Value.none);rw[qq,qq,d,qf hi];exact a
inductive IrSortD(xs:List V)(H:Hp)(Q:VK):Prop
 |mk (p:_) (ys:_) (ds:_) (t:_) (h0_:xs=[.ref p]) (h1_:SqL H p ys) (h2_:DVs H ys ds) (h3_:KeysAre ds t) (h4_:ys.length<64) (h5_:∀q H' ix,H q=none->Same H H'->SortIx ds ix->H' q=some (.lst (ix.map λi=>ys.getD i .non))->Q (.ref q) H'):IrSortD xs H Q
def rSortD:List V->Hp->VK->Prop:=λxs H Q=>IrSortD xs H Q
def xAce:∀{xs:List V} {ds:List PyData},DVs H xs ds->xs.length=ds.length
 |_,_,.nil=>rfl
 |_,_,.cons _ t=>by rw[zc,zc,xAce t]
mutual
def xAot(x:Ext h h'):∀{v:Value} {d:PyData} {a:List Addr},Reads h v d a->Reads h' v d a
 |_,_,_,.none=>.none
 |_,_,_,.bool b=>.bool b
 |_,_,_,.int i t=>.int i t
 |_,_,_,.str z t=>.str z t
 |_,_,_,.list h1 h2 h3 h4=>.list (x _ _ h1) h2 h3 (xAbh x h4)
 |_,_,_,.tuple h1 h2 h3 h4=>.tuple (x _ _ h1) h2 h3 (xAbh x h4)
 |_,_,_,.dict h1 h2 h3 h4 h5=>.dict (x _ _ h1) h2 h3 (xAbh x h4) (xAbh x h5)
def xAbh(x:Ext h h'):∀{v:List Value} {d:List PyData} {c:List Addr},ReadsAll h v d c->ReadsAll h' v d c
 |_,_,_,.nil=>.nil
 |_,_,_,.cons a b=>.cons (xAot x a) (xAbh x b)
end
section
variable {X:Cx}
def xAgh(B:X.A.units+3+61<cLine):CallR X (.builtin "sorted") (rSortD):=by
 intro pins s σ H xs us Q I r h;obtain⟨p,ys,ds,t,rfl,z,n,m,y,q⟩:=h;obtain⟨u,rfl,o⟩:=vals1 r;cases o;obtain⟨k,b,pl,hz⟩:=I.list z;have v:=b.length;have f:=xAce n;obtain⟨C,w⟩:=n.reads I b;refine xAos (vs:=k) (lt:=ltK ds) (xAss m.one) pl.isList (by omega) (.inl (by omega)) (λh' x h2=>?_) λh' a d c x j g e=>?_
 ·exact xAdj (xAbh x w) m h2 (by show X.A.units+1+1+60<cLine;omega)
 ·have l:∀i∈d.toList,i<ys.length:=λi hi=>by
   have:=(g.1.toList.mem_iff).mp hi
   simp at this
   omega
  refine⟨.ref a,upd H a (.lst (d.toList.map λi=>ys.getD i .non)),I.laid x j ⟨?_,_,c,xAeo b _ l,e⟩,Y,q a _ d.toList (I.hok.fresh j) (Same.new (I.hok.fresh j)) (xAen (by rw[←f,v];exact g)) xAac⟩;rw[qc,qx,g.1.size_eq]
  simp
  omega
end
section
variable {P:Program}{w:World}{A:Around}{E:Value->Shared->Prop}{s:Shared}
def IsTwo(P:Program)(w:World)(h:Heap)(ks b:List Key)(a:Addr):Prop:=∃o c d n,h.get? a=some o/\o.cls=.type "tuple" /\ o.data=.seq #[.ref c,.ref d] n/\(tupleKind (mixKind P w)).is h ks c/\(tupleKind (mixKind P w)).is h b d
def GIs(P:Program)(w:World)(h:Heap):KD->Value->Prop
 |.non,v=>v=.none
 |.int i,v=>∃t,v=.int i t
 |.tup ks,v=>∃a,v=.ref a/\(tupleKind (mixKind P w)).is h ks a
 |.two ks ls,v=>∃a,v=.ref a/\IsTwo P w h ks ls a
def gDraws(P:Program)(w:World):KD->Nat
 |.non=>1
 |.int _=>1
 |.tup ks=>(tupleKind (mixKind P w)).draws ks
 |.two ks ls=>(tupleKind (mixKind P w)).draws ks+(tupleKind (mixKind P w)).draws ls+1
def xAqz{ks g b f:List Key}(x:IsTwo P w h ks g a)(y:IsTwo P w h b f a):ks=b/\g=f:=by
 obtain⟨o,c,d,n,h1,h2,p,m,j⟩:=x;obtain⟨o',q,d',r,k1,k2,k3,l,k5⟩:=y;rw[h1]at k1;cases k1;rw[p]at k3;injection k3 with e _
 have k:c=q:=by have:=congrArg (λz:Array Value=>z[0]?) e;simpa using this
 have i:d=d':=by have:=congrArg (λz:Array Value=>z[1]?) e;simpa using this
 subst k i;exact⟨(tupleKind (mixKind P w)).inj m l,(tupleKind (mixKind P w)).inj j k5⟩
def xAhx{ks g js:List Key}(x:IsTwo P w h ks g a)(y:(tupleKind (mixKind P w)).is h js a):False:=by
 obtain⟨o,c,d,n,h1,h2,f,k,j⟩:=x;obtain⟨o',i,l,k1,k2,k3,b⟩:=y;rw[h1]at k1;cases k1;rw[f]at k3;injection k3 with e _;subst e;have:=b.byValue (.ref c) (by simp);cases this
def xAlh(x:ItemsAre (mixKind P w) ks vs):ItemsAre (mixKind a b) ks vs:=by
 induction x with
 |nil=>exact .nil
 |cons h _ c=>exact .cons h c
def xAhy(x:(tupleKind (mixKind P w)).is h ks a):(tupleKind (mixKind e f)).is h ks a:=by
 obtain⟨o,b,n,h1,h2,d,c⟩:=x;exact⟨o,b,n,h1,h2,d,xAlh c⟩
def xAep(d:A.units<cLine)(x:(tupleKind (mixKind P w)).is s.heap ks a)(y:(tupleKind (mixKind P w)).is s.heap c b):SeqAt.EqAt A s (.ref a) (.ref b) (decide (ks=c)):=λe f E Q q=>(tupleKind (mixKind e f)).eqBool d (xAhy x) (xAhy y) q
def IsTwo.tuple(x:IsTwo P w h ks b a):∃c d,h.IsTuple a #[.ref c,.ref d]/\(tupleKind (mixKind P w)).is h ks c/\(tupleKind (mixKind P w)).is h b d:=by
 obtain⟨o,c,d,n,h1,h2,e,g,f⟩:=x;exact⟨c,d,⟨o,h1,h2,n,e⟩,g,f⟩
def xAbm(x:(tupleKind (mixKind P w)).is h ks a):∃b,h.IsTuple a b/\ItemsAre (mixKind P w) ks b.toList:=by
 obtain⟨o,b,n,h1,h2,c,d⟩:=x;exact⟨b,⟨o,h1,h2,n,c⟩,d⟩
def xAsv{ks h f g:List Key}(k:A.units+1<cLine)(x:IsTwo P w s.heap ks h a)(y:IsTwo P w s.heap f g b):SeqAt.EqAt A s (.ref a) (.ref b) (decide (KD.two ks h=KD.two f g)):=by
 by_cases i:a=b
 ·subst i
  obtain⟨rfl,rfl⟩:=xAqz x y;rw[qF rfl];exact SeqAt.EqAt.same _
 ·obtain⟨c,d,t1,h1,h2⟩:=x.tuple
  obtain⟨l,d',t2,k1,k2⟩:=y.tuple
  have e:decide (KD.two ks h=KD.two f g)=((List.range (min (#[Value.ref c,.ref d]:Array Value).size (#[Value.ref l,.ref d']:Array Value).size)).all (λj=>if j=0 then decide (ks=f) else decide (h=g))&&(#[Value.ref c,.ref d]:Array Value).size==(#[Value.ref l,.ref d']:Array Value).size):=by
   show _=((if 0=0 then decide (ks=f) else decide (h=g))&&((if 1=0 then decide (ks=f) else decide (h=g))&&true)&&true);rw[qt rfl,qs (by decide),Bool.and_true,Bool.and_true,vg]
   simp
  rw[e];refine SeqAt.EqAt.of_refs i (SeqAt.RcAt.tuples t1 t2 (by omega) λj n m=>?_)
  match j,n,m with
  | 0,_,_=>exact xAep (show A.in1.units<cLine from k) h1 k1
  | 1,_,_=>exact xAep (show A.in1.units<cLine from k) h2 k2
def all_no(h:0<m):((List.range (min m n)).all (λ_=>false)&&m==n)=false:=by
 by_cases e:m=n
 ·subst e
  rw[yn]
  cases m with
  |zero=>omega
  |succ m=>rw[j6];rfl
 ·rw[show(m==n)=false from beq_eq_false_iff_ne.mpr e,Bool.and_false]
def xAwt(h:0<m):((List.range (min n m)).all (λ_=>false)&&n==m)=false:=by
 by_cases e:n=m
 ·subst e
  rw[yn]
  cases n with
  |zero=>omega
  |succ m=>rw[j6];rfl
 ·rw[show(n==m)=false from beq_eq_false_iff_ne.mpr e,Bool.and_false]
def xAfh(x:ItemsAre (mixKind P w) ks vs):∀(j:Nat) v,vs[j]?=some v->(∃i t,v=.int i t)\/∃z t,v=.str z t:=by
 induction x with
 |nil=>intro j v e;cases e
 |cons h _ a =>
  intro j v e
  cases j with
  |zero =>
   cases e;rcases xAat (show keyIs _ _=true from h) with⟨i,t,_,e⟩|⟨z,t,_,e⟩
   ·exact .inl ⟨i,t,e⟩
   ·exact .inr ⟨z,t,e⟩
  |succ j=>exact a j v (by simpa using e)
def xAiy(p:A.units+1<cLine)(x:IsTwo P w s.heap ks q a)(y:(tupleKind (mixKind P w)).is s.heap js b):SeqAt.EqAt A s (.ref a) (.ref b) false:=by
 have k:a≠b:=λz=>by subst z;exact xAhx x y
 obtain⟨c,d,t1,h1,h2⟩:=x.tuple;obtain⟨g,t2,k1⟩:=xAbm y;have e:false=((List.range (min (#[Value.ref c,.ref d]:Array Value).size g.size)).all (λ_=>false)&&(#[Value.ref c,.ref d]:Array Value).size==g.size):=(all_no (m:=2) (by decide)).symm;rw[e];refine SeqAt.EqAt.of_refs k (SeqAt.RcAt.tuples t1 t2 (by omega) λj r n=>?_);obtain⟨i1,o,_⟩:=xAbm h1;obtain⟨i2,l,_⟩:=xAbm h2;have h:=xAfh k1 j g[j] (by rw[zf,qp n]);have f:A.in1.units<cLine:=p
 match j,r,n,h with
 | 0,_,_,h =>
  rcases h with⟨i,t,e⟩|⟨z,t,e⟩
  ·rw[e];exact SeqAt.EqAt.tuple_int i t o f
  ·rw[e];exact SeqAt.EqAt.tuple_str z t o f
 | 1,_,_,h =>
  rcases h with⟨i,t,e⟩|⟨z,t,e⟩
  ·rw[e];exact SeqAt.EqAt.tuple_int i t l f
  ·rw[e];exact SeqAt.EqAt.tuple_str z t l f
def xAiz(p:A.units+1<cLine)(y:(tupleKind (mixKind P w)).is s.heap js a)(x:IsTwo P w s.heap ks q b):SeqAt.EqAt A s (.ref a) (.ref b) false:=by
 have k:a≠b:=λz=>by subst z;exact xAhx x y
 obtain⟨c,d,t1,h1,h2⟩:=x.tuple;obtain⟨g,t2,k1⟩:=xAbm y;have e:false=((List.range (min g.size (#[Value.ref c,.ref d]:Array Value).size)).all (λ_=>false)&&g.size==(#[Value.ref c,.ref d]:Array Value).size):=(xAwt (m:=2) (by decide)).symm;rw[e];refine SeqAt.EqAt.of_refs k (SeqAt.RcAt.tuples t2 t1 (by omega) λj n r=>?_);obtain⟨i1,o,_⟩:=xAbm h1;obtain⟨i2,l,_⟩:=xAbm h2;have h:=xAfh k1 j g[j] (by rw[zf,qp n]);have f:A.in1.units<cLine:=p
 match j,r,n,h with
 | 0,_,_,h =>
  rcases h with⟨i,t,e⟩|⟨z,t,e⟩
  ·rw[e];exact SeqAt.EqAt.int_tuple i t o f
  ·rw[e];exact SeqAt.EqAt.str_tuple z t o f
 | 1,_,_,h =>
  rcases h with⟨i,t,e⟩|⟨z,t,e⟩
  ·rw[e];exact SeqAt.EqAt.int_tuple i t l f
  ·rw[e];exact SeqAt.EqAt.str_tuple z t l f
def xAsw(i:A.units+1<cLine)(l:IsTwo P w s.heap ks f a)(h:Q (gHash P w (.two ks f)) { s with toks:=s.toks+((tupleKind (mixKind P w)).draws ks+(tupleKind (mixKind P w)).draws f+1) }):wpAny (model P w) A (pyHash (.ref a)) Q E s:=by
 obtain⟨o,c,d,n,k,m,p,h1,h2⟩:=l;have g:s.TypeIs (.ref a) "tuple":=⟨o,k,m⟩;unfold pyHash;unfold pyHashByItsType;refine qa (wpAny_cRoomFor_or (.inr (by omega)) ?_);refine qa (wpAny_specialOf g F.slot_tuple_hash.lookup ?_);show wpAny _ _ (if(some (Value.builtin "tuple.__hash__")==some Value.none)=true then _ else _) Q E s;rw[qs (by rw[beq_builtin_none];exact qr)];refine qa (wpAny_specialOf g F.slot_tuple_hash.lookup ?_);show wpAny _ _ (callSpecialIfBoundUnlessNone? (.ref a) "__hash__" _ >>= _) Q E s;refine qa (wpAny_callSpecialIfBoundUnlessNone?_slot g F.slot_tuple_hash (qH F.slot_tuple_hash g F.entry_tuple_hash ?_ (F.args_tuple_hash_1 _)));show wpAny _ _ (Builtin.Tuple.tupleItemsOf (.ref a) >>= _) _ _ s;refine qa (wpAny_tupleItemsOf k p ?_);refine qa ?_;rw[←yo]
 refine wpAny_forIn_list _
  (λrest (b:Array Int) s'=>(rest=[.ref c,.ref d]/\b.toList=[]/\s'=s)\/(rest=[.ref d]/\b.toList=[(tupleKind (mixKind P w)).hash ks]/\s'={ s with toks:=s.toks+(tupleKind (mixKind P w)).draws ks })\/(rest=[]/\b.toList=[(tupleKind (mixKind P w)).hash ks,(tupleKind (mixKind P w)).hash f]/\s'={ s with toks:=s.toks+(tupleKind (mixKind P w)).draws ks+(tupleKind (mixKind P w)).draws f }))
  _ ?_ ?_ _ _ (.inl ⟨Y,Y,Y⟩)
 ·rintro x rest b s' (⟨e,hb,rfl⟩|⟨e,hb,rfl⟩|⟨e,hb,rfl⟩)
  ·cases e
   refine qa ((tupleKind (mixKind P w)).pyHash (show _<cLine by first|exact i|(show A.units+1<cLine;exact i)) h1 ?_)
   first
    |exact qb (.inr (.inl ⟨Y,by simp[hb],Y⟩))
    |exact qa (qb (qb (.inr (.inl ⟨Y,by simp[hb],Y⟩))))
  ·cases e
   refine qa ((tupleKind (mixKind P w)).pyHash (s:={ s with toks:=s.toks+(tupleKind (mixKind P w)).draws ks }) (show _<cLine by first|exact i|(show A.units+1<cLine;exact i)) h2 ?_)
   first
    |exact qb (.inr (.inr ⟨Y,by simp[hb],Y⟩))
    |exact qa (qb (qb (.inr (.inr ⟨Y,by simp[hb],Y⟩))))
  ·cases e
 ·rintro b s' (⟨e,hb,rfl⟩|⟨e,hb,rfl⟩|⟨e,hb,rfl⟩)
  ·cases e
  ·cases e
  ·show wpAny _ _ (retInt (Builtin.Tuple.tupleHashOf b.toList)) _ _ _
   rw[hb];refine wpAny_ret_mkInt ?_;show wpAny _ _ (if(decide (-(2:Int) ^ 63≤Builtin.Tuple.tupleHashOf [(tupleKind (mixKind P w)).hash ks,(tupleKind (mixKind P w)).hash f])&&decide (Builtin.Tuple.tupleHashOf [(tupleKind (mixKind P w)).hash ks,(tupleKind (mixKind P w)).hash f]<2 ^ 63))=true then _ else _) Q E _;have h:Q (reduceHash (Builtin.Tuple.tupleHashOf [(tupleKind (mixKind P w)).hash ks,(tupleKind (mixKind P w)).hash f])) { s with toks:=s.toks+((tupleKind (mixKind P w)).draws ks+(tupleKind (mixKind P w)).draws f+1) }:=h;unfold reduceHash at h
   by_cases j:(decide (-(2:Int) ^ 63≤Builtin.Tuple.tupleHashOf [(tupleKind (mixKind P w)).hash ks,(tupleKind (mixKind P w)).hash f])&&decide (Builtin.Tuple.tupleHashOf [(tupleKind (mixKind P w)).hash ks,(tupleKind (mixKind P w)).hash f]<2 ^ 63))=true
   ·rw[qt j]
    rw[qt j]at h;exact qb (by simpa[Nat.add_assoc] using h)
   ·rw[qs j]
    rw[qs j]at h;exact qa (wpAny_rule (qb (by simpa[Nat.add_assoc] using h)))
def xAcf(g:(tupleKind (mixKind P w)).is s.heap ks a)(h:Q true s):wpAny (model P w) A (eqIsQuiet (m+1) (.ref a)) Q E s:=by
 obtain⟨o,items,n,f,i,j,hi⟩:=g;have e:s.TypeIs (.ref a) "tuple":=⟨o,f,i⟩;unfold eqIsQuiet;refine qa (wpAny_specialOf e F.slot_tuple_eq.lookup ?_);show wpAny _ _ (isInstance (.ref a) (.type "tuple") >>= _) _ _ s;refine qa (wpAny_isInstance e isSubtype_tuple_tuple ?_)
 simp only[Bool.not_true,Bool.false_eq_true,if_false]
 refine qa (wpAny_seqItems f j ?_);refine qa ?_;show wpAny _ _ (forIn items _ _) _ _ s;rw[←yo];refine wpAny_forIn_list _ (λrest r s'=>r.1=none/\s'=s/\∀v∈rest,carriedByValue v=true) _ ?_ ?_ _ _ ⟨Y,Y,hi.byValue⟩
 ·rintro v rest r s' ⟨d,rfl,b⟩
  rw[eqIsQuiet_byValue _ (b v ql)];refine qa (qb ?_)
  simp only[Bool.not_true,Bool.false_eq_true,if_false]
  exact qb ⟨Y,Y,λu c=>b u (qw _ c)⟩
 ·rintro⟨l,k⟩ s' ⟨d,rfl,_⟩
  simp only at d
  subst d;exact qb h
def xAou(k:IsTwo P w s.heap ks l a)(h:Q true s):wpAny (model P w) A (eqIsQuiet 8 (.ref a)) Q E s:=by
 obtain⟨o,c,d,n,j,p,x,h1,h2⟩:=k;have g:s.TypeIs (.ref a) "tuple":=⟨o,j,p⟩;unfold eqIsQuiet;refine qa (wpAny_specialOf g F.slot_tuple_eq.lookup ?_);show wpAny _ _ (isInstance (.ref a) (.type "tuple") >>= _) _ _ s;refine qa (wpAny_isInstance g isSubtype_tuple_tuple ?_)
 simp only[Bool.not_true,Bool.false_eq_true,if_false]
 refine qa (wpAny_seqItems j x ?_);refine qa ?_;show wpAny _ _ (forIn (#[.ref c,.ref d]:Array Value) _ _) _ _ s;rw[←yo];refine wpAny_forIn_list _ (λrest r s'=>r.1=none/\s'=s/\∀v∈rest,v=.ref c\/v=.ref d) _ ?_ ?_ _ _ ⟨Y,Y,λv t=>by simpa using t⟩
 ·rintro v rest r s' ⟨f,rfl,b⟩
  have y:∀{i:Bool->Shared->Prop},i true s'->wpAny (model P w) A (eqIsQuiet 7 v) i E s':=λq=>by
   rcases b v ql with rfl|rfl
   ·exact xAcf (m:=6) h1 q
   ·exact xAcf (m:=6) h2 q
  refine qa (y ?_)
  simp only[Bool.not_true,Bool.false_eq_true,if_false]
  exact qb ⟨Y,Y,λu e=>b u (qw _ e)⟩
 ·rintro⟨B,z⟩ s' ⟨f,rfl,_⟩
  simp only at f
  subst f;exact qb h
def GIs.inj(a:GIs P w h x v)(b:GIs P w h y v):x=y:=by
 cases x with
 |non =>
  cases a
  cases y with
  |non=>rfl
  |int j=>obtain⟨_,e⟩:=b;cases e
  |tup ks=>obtain⟨_,e,_⟩:=b;cases e
  |two ks f=>obtain⟨_,e,_⟩:=b;cases e
 |int i =>
  obtain⟨t,rfl⟩:=a
  cases y with
  |non=>cases b
  |int j=>obtain⟨_,e⟩:=b;cases e;rfl
  |tup ks=>obtain⟨_,e,_⟩:=b;cases e
  |two ks f=>obtain⟨_,e,_⟩:=b;cases e
 |tup ks =>
  obtain⟨p,rfl,q⟩:=a
  cases y with
  |non=>cases b
  |int j=>obtain⟨_,e⟩:=b;cases e
  |tup c =>
   obtain⟨_,e,q'⟩:=b;cases e;exact congrArg KD.tup ((tupleKind (mixKind P w)).inj q q')
  |two c d =>
   obtain⟨_,e,q'⟩:=b;cases e;exact(xAhx q' q).elim
 |two ks f =>
  obtain⟨p,rfl,q⟩:=a
  cases y with
  |non=>cases b
  |int j=>obtain⟨_,e⟩:=b;cases e
  |tup c =>
   obtain⟨_,e,q'⟩:=b;cases e;exact(xAhx q q').elim
  |two c d =>
   obtain⟨_,e,q'⟩:=b;cases e;obtain⟨rfl,rfl⟩:=xAqz q q';rfl
def GIs.ext{k:KD}(a:GIs P w h k v)(x:∀b o,h.get? b=some o->o.cls=.type "tuple"->h'.get? b=some o):GIs P w h' k v:=by
 cases k with
 |non=>exact a
 |int i=>exact a
 |tup ks =>
  obtain⟨p,e,o,g,n,h1,h2,f,m⟩:=a;exact⟨p,e,o,g,n,x _ _ h1 h2,h2,f,m⟩
 |two ks r =>
  obtain⟨p,e,o,c,d,n,h1,h2,f,⟨o1,i1,n1,k1,k2,k3⟩,⟨o2,i2,n2,l,j,q⟩⟩:=a;exact⟨p,e,o,c,d,n,x _ _ h1 h2,h2,f,⟨o1,i1,n1,x _ _ k1 k2,k2,k3⟩,⟨o2,i2,n2,x _ _ l j,j,q⟩⟩
def xAov(h:Q 4238894112 { s with toks:=s.toks+1 }):wpAny (model P w) A (pyHash .none) Q E s:=by
 unfold pyHash;have a:s.TypeIs Value.none "NoneType":=rfl;have b:[Value.none].any Value.onHeap=false:=rfl;unfold pyHashByItsType;refine qa ?_;rw[cRoomFor,qs (by rw[b];exact qr)];refine qb (qa (wpAny_specialOf a F.slot_NoneType_hash.lookup ?_));show wpAny _ _ (if(some (Value.builtin "NoneType.__hash__")==some Value.none)=true then _ else _) Q E s;rw[qs (by rw[beq_builtin_none];exact qr)];refine qa (wpAny_specialOf a F.slot_NoneType_hash.lookup ?_);show wpAny _ _ (callSpecialIfBoundUnlessNone? .none "__hash__" _ >>= _) Q E s;refine qa (wpAny_callSpecialIfBoundUnlessNone?_slot a F.slot_NoneType_hash (qH F.slot_NoneType_hash a F.entry_NoneType_hash (show wpAny _ _ (do ret (←mkInt 4238894112)) _ _ s from wpAny_ret_mkInt ?_) (F.args_NoneType_hash_1 _)));show wpAny _ _ (if(decide (-(2:Int) ^ 63≤4238894112)&&decide ((4238894112:Int)<2 ^ 63))=true then _ else _) Q E _;rw[qt (by decide)];exact qb h
def GIs.hash{k:KD}(b:A.units+1<cLine)(a:GIs P w s.heap k v)(h:Q (gHash P w k) { s with toks:=s.toks+gDraws P w k }):wpAny (model P w) A (pyHash v) Q E s:=by
 cases k with
 |non=>cases a;exact xAov h
 |int i=>obtain⟨t,rfl⟩:=a;exact wpAny_pyHash_int h
 |tup ks=>obtain⟨p,rfl,q⟩:=a;exact(tupleKind (mixKind P w)).pyHash (show A.units<cLine by omega) q h
 |two ks c=>obtain⟨p,rfl,q⟩:=a;exact xAsw b q h
def GIs.tuple(a:GIs P w h (.tup ks) v):∃p b,v=.ref p/\h.IsTuple p b:=by
 obtain⟨p,e,o,b,n,h1,h2,c,_⟩:=a;exact⟨p,b,e,o,h1,h2,n,c⟩
def GIs.tuple2(a:GIs P w h (.two ks f) v):∃p b,v=.ref p/\h.IsTuple p b:=by
 obtain⟨p,e,q⟩:=a;obtain⟨c,d,t,_⟩:=q.tuple;exact⟨p,_,e,t⟩
def GIs.eq(g:A.units+1<cLine)(a:GIs P w s.heap x u)(b:GIs P w s.heap y v)(h:Q (decide (x=y)) s):wpAny (model P w) A (eqBool u v) Q E s:=by
 have e:∀{z n:KD},z≠n->decide (z=n)=false:=λq=>decide_eq_false q
 have f:A.units<cLine:=by omega
 cases x with
 |non =>
  cases a
  cases y with
  |non=>cases b;exact SeqAt.EqAt.same _ _ _ _ _ h
  |int j =>
   obtain⟨t,rfl⟩:=b;rw[e (by intro z;cases z)]at h;exact SeqAt.EqAt.none_int _ _ _ _ _ _ h
  |tup ks =>
   obtain⟨p,c,rfl,q⟩:=b.tuple;rw[e (by intro z;cases z)]at h;exact SeqAt.EqAt.none_tuple q f _ _ _ _ h
  |two ks m =>
   obtain⟨p,c,rfl,q⟩:=b.tuple2;rw[e (by intro z;cases z)]at h;exact SeqAt.EqAt.none_tuple q f _ _ _ _ h
 |int i =>
  obtain⟨t,rfl⟩:=a
  cases y with
  |non =>
   cases b;rw[e (by intro z;cases z)]at h;exact SeqAt.EqAt.int_none _ _ _ _ _ _ h
  |int j =>
   obtain⟨t,rfl⟩:=b;refine SeqAt.EqAt.int_int _ _ _ _ _ _ _ _ ?_;rw[show(i==j)=decide (KD.int i=KD.int j) from by by_cases z:i=j <;> simp[z]];exact h
  |tup ks =>
   obtain⟨p,c,rfl,q⟩:=b.tuple;rw[e (by intro z;cases z)]at h;exact SeqAt.EqAt.int_tuple _ _ q f _ _ _ _ h
  |two ks m =>
   obtain⟨p,c,rfl,q⟩:=b.tuple2;rw[e (by intro z;cases z)]at h;exact SeqAt.EqAt.int_tuple _ _ q f _ _ _ _ h
 |tup ks =>
  cases y with
  |non =>
   cases b;obtain⟨p,c,rfl,q⟩:=a.tuple;rw[e (by intro z;cases z)]at h;exact SeqAt.EqAt.tuple_none q f _ _ _ _ h
  |int j =>
   obtain⟨t,rfl⟩:=b;obtain⟨p,c,rfl,q⟩:=a.tuple;rw[e (by intro z;cases z)]at h;exact SeqAt.EqAt.tuple_int _ _ q f _ _ _ _ h
  |tup d =>
   obtain⟨p,rfl,q⟩:=a;obtain⟨k,rfl,q'⟩:=b;refine(tupleKind (mixKind P w)).eqBool f q q' ?_;rw[show decide (ks=d)=decide (KD.tup ks=KD.tup d) from by by_cases z:ks=d <;> simp[z]];exact h
  |two d l =>
   obtain⟨p,rfl,q⟩:=a;obtain⟨k,rfl,q'⟩:=b;rw[e (by intro z;cases z)]at h;exact xAiz g q q' _ _ _ _ h
 |two ks m =>
  cases y with
  |non =>
   cases b;obtain⟨p,c,rfl,q⟩:=a.tuple2;rw[e (by intro z;cases z)]at h;exact SeqAt.EqAt.tuple_none q f _ _ _ _ h
  |int j =>
   obtain⟨t,rfl⟩:=b;obtain⟨p,c,rfl,q⟩:=a.tuple2;rw[e (by intro z;cases z)]at h;exact SeqAt.EqAt.tuple_int _ _ q f _ _ _ _ h
  |tup d =>
   obtain⟨p,rfl,q⟩:=a;obtain⟨k,rfl,q'⟩:=b;rw[e (by intro z;cases z)]at h;exact xAiy g q q' _ _ _ _ h
  |two d l =>
   obtain⟨p,rfl,q⟩:=a;obtain⟨k,rfl,q'⟩:=b;exact xAsv g q q' _ _ _ _ h
def GIs.quiet{k:KD}(a:GIs P w s.heap k v)(h:Q true s):wpAny (model P w) A (eqIsQuiet 8 v) Q E s:=by
 cases k with
 |non=>cases a;exact qb h
 |int i=>obtain⟨t,rfl⟩:=a;exact qb h
 |tup ks=>obtain⟨p,rfl,q⟩:=a;exact(tupleKind (mixKind P w)).quiet q h
 |two ks b=>obtain⟨p,rfl,q⟩:=a;exact xAou q h
def g_tell{k:KD}(a:GIs P w s.heap k v)(f:∀u∈l,∃c,GIs P w s.heap c u)(h:Q false s):wpAny (model P w) A (tableMayTell v l) Q E s:=by
 unfold tableMayTell
 split
 ·exact qb h
 ·refine qa (a.quiet ?_)
  rw[qs (by decide)];refine qa (wpAny_forIn_list _ (λr b s'=>s'=s/\b=(none,())/\∀u∈r,∃c,GIs P w s.heap c u) _ ?_ ?_ _ _ ⟨Y,Y,f⟩)
  ·rintro u r b s' ⟨rfl,rfl,d⟩
   obtain⟨c,e⟩:=d u ql;refine qa (e.quiet ?_);rw[qs (by decide)];exact qb ⟨Y,Y,λx g=>d x (qw _ g)⟩
  ·rintro b s' ⟨rfl,rfl,_⟩
   exact qb h
def gIdx(xs:List (KD×Value×Value))(k:KD):Option Nat:=xs.findIdx? λx=>decide (x.1=k)
def xAhz{k:KD}(hn:(xs.map (·.1)).Nodup)(h:xs[j]?=some x)(e:x.1=k):gIdx xs k=some j:=by
 unfold gIdx;rw[gx];obtain⟨d,c⟩:=qy.mp h;refine⟨d,by rw[c,e];simp,λi hi=>?_⟩
 have:¬xs[i].1=k:=λz=>by
  have b:(xs.map (·.1))[i]?=some k:=by rw[List.getElem?_map,List.getElem?_eq_getElem (by omega)];simp[z]
  have a:(xs.map (·.1))[j]?=some k:=by rw[List.getElem?_map,h];simp[e]
  have:=(gy (by rw[qc];omega) hn).mp (b.trans a.symm);omega
 simpa using this
def xAia{k:KD}(h:∀(j:Nat) x,xs[j]?=some x->x.1≠k):gIdx xs k=none:=by
 unfold gIdx;rw[gz];intro x a;obtain⟨j,b,e⟩:=zx.mp a;exact decide_eq_false (h j x (by rw[qf b,e]))
def g_loop{xs:List (KD×Value×Value)}{k:KD}{es:Array DictEntry}(at':∀j:Nat,es[j]?=(xs[j]?).map (gEnt P w))(sz:es.size=xs.length)(hn:(xs.map (·.1)).Nodup){g:Nat->Option (Option Nat)×Option Nat->Sem (ForInStep (Option (Option Nat)×Option Nat))}{R:Option (Option Nat)×Option Nat->Shared->Prop}(B:∀(i:Nat) b a (R':ForInStep (Option (Option Nat)×Option Nat)->Shared->Prop),xs[i]?=some b->(b.1=k->a=none/\R' (.done (some (some i),a)) s/\R' (.yield (none,some i)) s)->(b.1≠k->R' (.yield (none,a)) s)->wpAny (model P w) A (g i (none,a)) R' E s)(G:(∀(j:Nat) x,xs[j]?=some x->x.1≠k)->R (none,none) s)(R1:∀(j:Nat) x,xs[j]?=some x->x.1=k->R (some (some j),none) s/\R (none,some j) s) :
  wpAny (model P w) A (forIn (placesWithHash es.size (λi=>es[i]?.map (·.hash)) (gHash P w k)) (none,none) g) R E s:=by
 have has:∀(j:Nat) x,xs[j]?=some x->x.1=k->((es[j]?.map (·.hash))==some (gHash P w k))=true:=λj x c e=>by
  rw[at' j,c];show(some (gHash P w x.1)==some (gHash P w k))=true;rw[e]
  simp
 have one:∀{i j:Nat} {x y:KD×Value×Value},xs[i]?=some x->xs[j]?=some y->x.1=k->y.1=k->i=j:=λ{i j x y} h1 h2 z F=>by
  have u:(xs.map (·.1))[i]?=some k:=by rw[qi,h1];exact congrArg some z
  have v:(xs.map (·.1))[j]?=some k:=by rw[qi,h2];exact congrArg some F
  exact(gy (qy.mp u).1 hn).mp (u.trans v.symm)
 refine wpAny_forIn_list _ (λrest b s'=>s'=s/\∃i a,b=(none,a)/\rest=(List.range' i (es.size - i)).filter (λi=>(es[i]?.map (·.hash))==some (gHash P w k))/\i≤es.size ∧
   ((a=none/\∀(j:Nat) x,j<i->xs[j]?=some x->x.1≠k)\/∃j x,a=some j/\j<i/\xs[j]?=some x/\x.1=k)) _ ?_ ?_ _ _
  ⟨Y,0,none,Y,by rw[placesWithHash,kg,ye],qk _,.inl ⟨Y,λj x c=>absurd c (zv _)⟩⟩
 ·rintro x rest b s' ⟨rfl,i,a,rfl,t,hi,q⟩
  obtain⟨D,H,C,h,l⟩:=filter_range'_cons _ _ _ _ _ t.symm
  have n:x<es.size:=by omega
  have d:rest=(List.range' (x+1) (es.size - (x+1))).filter (λi=>(es[i]?.map (·.hash))==some (gHash P w k)):=by
   rw[l]
   congr 2
   omega
  have m:xs[x]?=some (xs[x]'(by omega)):=qf _;generalize xs[x]'(by omega)=b at m
  have r:∀(j:Nat) y,i≤j->j<x->xs[j]?=some y->y.1≠k:=λj y h1 h2 c e=>by
   have:=h j h1 h2;rw[has j y c e]at this;exact absurd this (by decide)
  refine B x b a _ m (λe=>?_) λe=>?_
  ·rcases q with⟨rfl,f⟩|⟨j,y,_,c,p,o⟩
   ·exact⟨Y,(R1 x b m e).1,Y,x+1,some x,Y,d,n,.inr ⟨x,b,Y,zw x,m,e⟩⟩
   ·have:=one p m o e
    omega
  ·refine⟨Y,x+1,a,Y,d,n,?_⟩
   rcases q with⟨h0,f⟩|⟨j,y,h1,c,p,o⟩
   ·refine .inl ⟨h0,λj y J c=>?_⟩
    by_cases c1:j<i
    ·exact f j y c1 c
    ·by_cases c2:j<x
     ·exact r j y (by omega) c2 c
     ·have:j=x:=by omega
      subst this;rw[m]at c;cases c;exact e
   ·exact .inr ⟨j,y,h1,by omega,p,o⟩
 ·rintro b s' ⟨rfl,i,a,rfl,t,hi,q⟩
  rcases q with⟨rfl,f⟩|⟨j,y,rfl,c,p,o⟩
  ·refine G λj x c e=>?_
   by_cases c1:j<i
   ·exact f j x c1 c e
   ·have I:j<es.size:=by rw[sz];exact(qy.mp c).1
    have:=kh.mp t.symm j (ki.mpr ⟨by omega,by omega⟩);exact this (has j x c e)
  ·exact(R1 j y p o).2
def xAra{k:KD}(F:A.units+1<cLine)(a:GIs P w s.heap k v)(B:s.heap.get? d=some o)(C:o.data=.dict es ep)(at':∀j:Nat,es[j]?=(xs[j]?).map (gEnt P w))(sz:es.size=xs.length)(r:∀x∈xs,GIs P w s.heap x.1 x.2.1)(hn:(xs.map (·.1)).Nodup)(u:Q (gIdx xs k) s):wpAny (model P w) A (dictWalkPlain d v (gHash P w k) es (placesWithHash es.size (λi=>es[i]?.map (·.hash)) (gHash P w k))) Q E s:=by
 unfold dictWalkPlain
 have has:∀(j:Nat) x,xs[j]?=some x->x.1=k->((es[j]?.map (·.hash))==some (gHash P w k))=true:=λj x c e=>by
  rw[at' j,c];show(some (gHash P w x.1)==some (gHash P w k))=true;rw[e]
  simp
 refine qa (wpAny_forIn_list _ (λrest b s'=>s'=s/\b=(none,())/\∃i,rest=(List.range' i (es.size - i)).filter (λi=>(es[i]?.map (·.hash))==some (gHash P w k))/\i≤es.size/\∀(j:Nat) x,j<i->xs[j]?=some x->x.1≠k) _ ?_ ?_ _ _
  ⟨Y,Y,0,by rw[placesWithHash,kg,ye],qk _,λj x c=>absurd c (zv _)⟩)
 ·rintro x rest b s' ⟨rfl,rfl,i,t,hi,g⟩
  obtain⟨D,H,q,f,h⟩:=filter_range'_cons _ _ _ _ _ t.symm
  have p:x<es.size:=by omega
  have l:xs[x]?=some (xs[x]'(by omega)):=qf _;generalize xs[x]'(by omega)=b at l
  have m:es[x]?=some (gEnt P w b):=by rw[at' x,l];rfl
  have n:b.1≠k->∃i,rest=(List.range' i (es.size - i)).filter (λi=>(es[i]?.map (·.hash))==some (gHash P w k))/\i≤es.size/\∀(j:Nat) x,j<i->xs[j]?=some x->x.1≠k:=λe=>⟨x+1,by rw[h];congr 2;omega,p,λj y J c=>by
   by_cases c1:j<i
   ·exact g j y c1 c
   ·by_cases c2:j<x
    ·intro z
     have:=f j (by omega) c2;rw[has j y c z]at this;exact absurd this (by decide)
    ·have:j=x:=by omega
     subst this;rw[l]at c;cases c
     exact e⟩
  rw[m]
  try dsimp only
  have G:((gEnt P w b).hash==gHash P w k)=true:=by
   have:=q;rw[m]at this;simpa using this
  rw[qt G];refine qa (wpAny_dictEpoch B C (qa ((r b (qo l)).eq F a (qa (wpAny_dictEpoch B C ?_)))))
  try dsimp only
  rw[qs (by simp)]
  by_cases e:b.1=k
  ·rw[qF e,qt rfl]
   refine qa (wpAny_rule (qb (qb ?_)));rw[←xAhz hn l e];exact u
  ·rw[decide_eq_false e,qs (by decide)]
   exact qa (wpAny_rule (qb ⟨Y,Y,n e⟩))
 ·rintro b s' ⟨rfl,rfl,i,t,hi,g⟩
  refine qb ?_;rw[←xAia (xs:=xs) (k:=k) λj x c e=>?_]
  ·exact u
  ·by_cases c1:j<i
   ·exact g j x c1 c e
   ·have I:j<es.size:=by rw[sz];exact(qy.mp c).1
    exact kh.mp t.symm j (ki.mpr ⟨by omega,by omega⟩) (has j x c e)
def xAwu{k:KD}(L:A.units+1<cLine)(a:GIs P w s.heap k v)(C:s.heap.get? d=some o)(F:o.data=.dict es ep)(O:es.toList=xs.map (gEnt P w))(f:∀x∈xs,GIs P w s.heap x.1 x.2.1)(hn:(xs.map (·.1)).Nodup)(G:Q (gIdx xs k) s):wpAny (model P w) A (dictFind d v (gHash P w k)) Q E s:=by
 have at':∀j:Nat,es[j]?=(xs[j]?).map (gEnt P w):=λj=>by rw[←zf,O,qi]
 have sz:es.size=xs.length:=by rw[←qx,O,qc]
 have Z:∀(j:Nat) x,xs[j]?=some x->x.1=k->((es[j]?.map (·.hash))==some (gHash P w k))=true:=λj x B e=>by
  rw[at' j,B];show(some (gHash P w x.1)==some (gHash P w k))=true;rw[e]
  simp
 have K:∀e∈es,∃x∈xs,e=gEnt P w x:=λe m=>by
  obtain⟨x,g,z⟩:=qj.mp (show e∈xs.map (gEnt P w) from O▸jn.mpr m);exact⟨x,g,z.symm⟩
 have N:∀z t,v≠.str z t:=λz t e=>by
  rw[e]at a
  cases k with
  |non=>cases a
  |int i=>obtain⟨_,q⟩:=a;cases q
  |tup ks=>obtain⟨_,q,_⟩:=a;cases q
  |two ks X=>obtain⟨_,q,_⟩:=a;cases q
 have D:¬(es.any λe=>e.key==v&&e.hash != gHash P w k)=true:=by
  rw[←Array.any_toList,yi];rintro⟨e,m,M⟩;obtain⟨x,g,rfl⟩:=K e (jn.mp m);rw[zd]at M;have V:x.2.1=v:=eq_of_beq M.1;have H:=f x g;rw[V]at H;have e3:=H.inj a;have U:(gHash P w x.1 != gHash P w k)=true:=M.2;rw[e3]at U
  simp at U
 have st:∀u∈(placesWithHash es.size (λi=>es[i]?.map (·.hash)) (gHash P w k)).filterMap (λi=>es[i]?.map (·.key)),∃k',GIs P w s.heap k' u:=λu T=>by
  obtain⟨i,_,hi⟩:=yh.mp T;rw[at' i]at hi
  cases e:xs[i]? with
  |none=>rw[e]at hi;cases hi
  |some x =>
   rw[e]at hi
   have H:x.2.1=u:=by simpa[gEnt] using hi
   exact⟨x.1,H▸f x (qo e)⟩
 have look:∀(x:Nat) (b:KD×Value×Value) {R:Bool->Shared->Prop},xs[x]?=some b->R (decide (b.1=k)) s->wpAny (model P w) A (eqBool b.2.1 v) R E s:=λx b R g r=>(f b (qo g)).eq L a r
 have l:(∀(j:Nat) x,xs[j]?=some x->x.1≠k)->Q none s:=λh=>by rw[←xAia h];exact G
 have c:∀(j:Nat) x,xs[j]?=some x->x.1=k->Q (some j) s:=λj x B e=>by rw[←xAhz hn B e];exact G
 unfold dictFind
 try with_reducible refine qD ?_
 refine qa (wpAny_dictEntries C F ?_)
 have vc:v=.none\/(∃i t,v=.int i t)\/∃p,v=.ref p:=by
  cases k with
  |non=>exact .inl a
  |int i=>exact .inr (.inl ⟨i,a⟩)
  |tup ks=>exact .inr (.inr ⟨a.choose,a.choose_spec.1⟩)
  |two ks X=>exact .inr (.inr ⟨a.choose,a.choose_spec.1⟩)
 by_cases I:(v::(placesWithHash es.size (λi=>es[i]?.map (·.hash)) (gHash P w k)).filterMap (λi=>es[i]?.map (·.key))).all carriedByValue=true
 ·rcases vc with rfl|⟨i,t,rfl⟩|⟨p,rfl⟩
  ·dsimp only
   rw[qt I];exact xAra L a C F at' sz f hn G
  ·dsimp only
   rw[qt I];exact xAra L a C F at' sz f hn G
  ·exact absurd I (by simp[carriedByValue])
 ·rcases vc with rfl|⟨i,t,rfl⟩|⟨p,rfl⟩ <;> dsimp only <;> rw[qs I] <;> (try rw[qs D]) <;> refine wpAny_ite_split (λ_=>?_) (λ_=>?_) <;> (first|refine qa (qb ?_)|refine qa (g_tell a st ?_)) <;> (
   rw[qs (by simp)];refine qa (g_loop at' sz hn (λi b Y R' g y n=>?_) (λh=>qb (l h)) λj x B e=>⟨qb (c j x B e),qb (c j x B e)⟩)
   have J:es[i]?=some (gEnt P w b):=by rw[at' i,g];rfl
   rw[J];dsimp only
   by_cases S:((gEnt P w b).hash==gHash P w k)=true
   ·rw[qt S]
    refine qa (wpAny_dictEpoch C F (qa (look i b g (qa (wpAny_dictEpoch C F ?_)))));rw[qs (by simp)]
    by_cases e:b.1=k
    ·obtain⟨rfl,W,y2⟩:=y e
     rw[qF e,qt rfl,qs (by decide)];refine qa (wpAny_rule ?_)
     split
     ·exact qb W
     ·exact qb y2
    ·rw[decide_eq_false e,qs (by decide)]
     refine qa (wpAny_rule ?_);rw[qs (by simp)];exact qb (n e)
   ·rw[qs S]
    exact qb (n λe=>S (by
     show(gHash P w b.1==gHash P w k)=true;rw[e]
     simp)))
end
section
variable {α β:Type}
def vG(kvs:List (KD×α×β))(k:KD):Option β:=(kvs.find? λe=>decide (e.1=k)).map (·.2.2)
def pG(kvs:List (KD×α×β))(k:KD)(a:α)(v:β):List (KD×α×β):=if(vG kvs k).isSome=true then kvs.map (λe=>if e.1=k then(e.1,e.2.1,v) else e) else kvs++[(k,a,v)]
def xAli{kvs:List (KD×α×β)}{k:KD}{i:Nat}{e:KD×α×β}(hn:(kvs.map (·.1)).Nodup)(h:kvs[i]?=some e)(a:e.1=k):vG kvs k=some e.2.2:=by
 unfold vG
 induction kvs generalizing i with
 |nil=>cases h
 |cons x r c =>
  rw[zh,zu]at hn;rw[w5]
  cases i with
  |zero=>cases h;rw[qF a];rfl
  |succ i =>
   have h':r[i]?=some e:=by simpa using h
   have b:¬x.1=k:=λz=>hn.1 (by rw[z,←a];exact qj.mpr ⟨e,qo h',Y⟩)
   rw[decide_eq_false b];exact c hn.2 h'
def xAlj{kvs:List (KD×α×β)}{k:KD}(h:∀e∈kvs,e.1≠k):vG kvs k=none:=by
 unfold vG;rw[yq.mpr λe a=>by rw[decide_eq_true_eq];exact h e a];rfl
def vG_no{kvs:List (KD×α×β)}{k:KD}(h:vG kvs k=none):∀e∈kvs,e.1≠k:=λe a z=>by
 unfold vG at h;rw[Option.map_eq_none_iff,yq]at h;exact h e a (qF z)
def vG_put(kvs:List (KD×α×β))(k a:KD)(l:α)(v:β):vG (pG kvs k l v) a=if a=k then some v else vG kvs a:=by
 unfold pG
 by_cases hs:(vG kvs k).isSome=true
 ·rw[qt hs]
  obtain⟨u,g⟩:=yx.mp hs;clear hs;unfold vG at *
  induction kvs with
  |nil=>simp at g
  |cons x r m =>
   rw[zh,w5];rw[w5]at g ⊢
   by_cases f:x.1=k
   ·rw[qt f]
    by_cases c:a=k
    ·subst c
     rw[qt rfl]
     simp[f]
    ·rw[qs c]
     have:¬x.1=a:=λz=>c (z.symm.trans f)
     simp only[this,decide_false]
     clear g m
     induction r with
     |nil=>rfl
     |cons y r h =>
      rw[zh,w5,w5]
      by_cases i:y.1=k
      ·have b:¬y.1=a:=λz=>c (z.symm.trans i)
       rw[qt i]
       simp only[b,decide_false]
       exact h
      ·rw[qs i]
       by_cases b:y.1=a
       ·simp[b]
       ·simp only[b,decide_false]
        exact h
   ·rw[qs f]
    simp only[f,decide_false]at g
    by_cases d:x.1=a
    ·have:¬a=k:=λz=>f (d.trans z)
     rw[qs this]
     simp[d]
    ·simp only[d,decide_false]
     exact m g
 ·rw[qs hs]
  have j:=vG_no (kvs:=kvs) (k:=k) (by cases e:vG kvs k with
   |none=>rfl
   |some u=>rw[e]at hs;exact absurd rfl hs)
  unfold vG;rw[List.find?_append]
  by_cases c:a=k
  ·subst c
   rw[qt rfl,yq.mpr λe n=>by rw[decide_eq_true_eq];exact j e n]
   simp
  ·rw[qs c]
   cases e:List.find? (λe=>decide (e.1=a)) kvs with
   |some x=>rfl
   |none =>
    have:¬k=a:=λz=>c z.symm
    simp[this]
def xAwv(kvs:List (KD×α×β))(k:KD)(a:α)(v:β):(pG kvs k a v).map (·.1)=if(vG kvs k).isSome=true then kvs.map (·.1) else kvs.map (·.1)++[k]:=by
 unfold pG
 split
 ·rw[wa]
  refine jd λe _=>?_;show(if e.1=k then(e.1,e.2.1,v) else e).1=e.1
  split <;> rfl
 ·rw[z0]
  rfl
def xAow(kvs:List (KD×α×β))(k:KD)(a:α)(v:β):(pG kvs k a v).length≤kvs.length+1:=by
 unfold pG
 split
 ·rw[qc];omega
 ·rw[qm,zk];exact qd _
def xAlk{kvs:List (KD×α×β)}{k:KD}{a:α}{v:β}(h:(kvs.map (·.1)).Nodup):((pG kvs k a v).map (·.1)).Nodup:=by
 rw[xAwv]
 split
 ·exact h
 ·rename_i hs
  refine xAvs h λb=>?_;obtain⟨e,c,rfl⟩:=qj.mp b
  exact vG_no (kvs:=kvs) (k:=e.1) (by cases d:vG kvs e.1 with
   |none=>rfl
   |some u=>rw[d]at hs;exact absurd rfl hs) e c rfl
end
section
variable {P:Program}{w:World}{A:Around}{E:Value->Shared->Prop}{s:Shared}
def GDict(P:Program)(w:World)(h:Heap)(d:Addr)(xs:List (KD×Value×Value)):Prop :=
 ∃o es ep,h.get? d=some o/\o.ExactDict/\o.data=.dict es ep/\es.toList=xs.map (gEnt P w)/\(∀x∈xs,GIs P w h x.1 x.2.1)/\(xs.map (·.1)).Nodup
def GDict.typeIs(g:GDict P w s.heap d xs):s.TypeIs (.ref d) "dict":=let⟨o,_,_,a,b,_⟩:=g;⟨o,a,b.1⟩
def xAll{k:KD}(h:gIdx xs k=some j):∃x,xs[j]?=some x/\x.1=k:=by
 unfold gIdx at h;rw[gx]at h;obtain⟨a,h1,_⟩:=h;exact⟨xs[j],List.getElem?_eq_getElem a,by simpa using h1⟩
def xArb{k:KD}(h:gIdx xs k=none):∀e∈xs,e.1≠k:=λe a=>by
 unfold gIdx at h;rw[gz]at h;simpa using h e a
def xAlm{k:KD}(i:A.units+1<cLine)(a:GIs P w s.heap k v)(g:GDict P w s.heap d xs)(h:Q (vG xs k) { s with toks:=s.toks+gDraws P w k }):wpAny (model P w) A (dictGet d v) Q E s:=by
 obtain⟨o,es,ep,m,_,l,c,b,hn⟩:=g;unfold dictGet
 try with_reducible refine qD ?_
 refine qa (a.hash i (qa (xAwu (s:={ s with toks:=s.toks+gDraws P w k }) i a m l c b hn ?_)))
 cases e:gIdx xs k with
 |none =>
  rw[xAlj (xArb e)]at h;exact qb h
 |some j =>
  obtain⟨x,f,ex⟩:=xAll e;rw[xAli hn f ex]at h;refine qa (wpAny_dictEntries (s:={ s with toks:=s.toks+gDraws P w k }) m l ?_);rw[←zf,c,qi,f];exact qb h
def xAox{xs:List (KD×Value×Value)}{k:KD}{v:Value}{j:Nat}{x:KD×Value×Value}(hn:(xs.map (·.1)).Nodup)(a:xs[j]?=some x)(ex:x.1=k) :
  (xs.map (gEnt P w)).modify j (λe=>{ e with val:=v })=(xs.map λe=>if e.1=k then(e.1,e.2.1,v) else e).map (gEnt P w):=by
 apply zy;intro i;rw[List.getElem?_modify,qi,qi,qi]
 cases hi:xs[i]? with
 |none=>simp
 |some y =>
  by_cases e:j=i
  ·subst e
   rw[a]at hi;cases hi
   simp[ex,gEnt]
  ·have b:¬y.1=k:=λz=>e ((List.getElem?_inj (by rw[List.length_map];exact(List.getElem?_eq_some_iff.mp a).1) hn).mp (by rw[List.getElem?_map,List.getElem?_map,a,hi];simp[ex,z]))
   simp[e,b]
def xAgi{es:Array DictEntry}{ep:Nat}(f:h.get? d=some o)(g:o.ExactDict)(hs:Heap.SameBut d h h'){k:KD}(a:GIs P w h k v):GIs P w h' k v:=a.ext λb o' e c=>(hs.2 b (λz=>by
 rw[z,f]at e;cases e;rw[g.1]at c
 exact absurd c (by decide))).trans e
def xAww{k:KD}{v val:Value}(q:A.units+1<cLine)(a:GIs P w s.heap k v)(g:GDict P w s.heap d xs)(hsz:xs.length≤sizeLine)(r:∀h',GDict P w h' d (pG xs k v val)->Heap.SameBut d s.heap h'->Q () { s with heap:=h',toks:=s.toks+gDraws P w k }):wpAny (model P w) A (dictSet d v val) Q E s:=by
 obtain⟨o,es,ep,c,m,i,n,h,hn⟩:=g
 have sz:es.size=xs.length:=by rw[←qx,n,qc]
 have f:∀h',Heap.SameBut d s.heap h'->∀x∈pG xs k v val,GIs P w h' x.1 x.2.1:=λh' hs x b=>by
  unfold pG at b
  split at b
  ·obtain⟨y,t,rfl⟩:=qj.mp b
   have:=xAgi (es:=es) (ep:=ep) c m hs (h y t)
   split <;> exact this
  ·rcases zb.mp b with b|b
   ·exact xAgi (es:=es) (ep:=ep) c m hs (h x b)
   ·rw[qu.mp b]
    exact xAgi (es:=es) (ep:=ep) c m hs a
 unfold dictSet
 try with_reducible refine qD ?_
 refine qa (a.hash q ?_);unfold dictSetHashed
 try with_reducible refine qD ?_
 refine qa (xAwu (s:={ s with toks:=s.toks+gDraws P w k }) q a c i n h hn ?_)
 cases e:gIdx xs k with
 |none =>
  have p:=xAlj (xArb e);refine qa (wpAny_rule (wpAny_updateDictKeys (hz:=by omega) (s:={ s with toks:=s.toks+gDraws P w k }) c i (r _ ⟨_,_,ep+1,Heap.get?_update_self _ c (Obj.isFreed_of_dict (Obj.data_mapDictKeys i _)),m.mapDictKeys _,Obj.data_mapDictKeys i _,?_,f _ (Heap.SameBut.update ..),xAlk hn⟩ (Heap.SameBut.update ..))));unfold pG;rw[p,qs (by decide)]
  simp[n,gEnt]
 |some j =>
  obtain⟨x,b,ex⟩:=xAll e;have p:=xAli hn b ex;refine qa (wpAny_rule (qa (wpAny_updateDict (s:={ s with toks:=s.toks+gDraws P w k }) c i (wpAny_point (r _ ⟨_,_,ep,Heap.get?_update_self _ c (Obj.isFreed_of_dict (Obj.data_mapDict i _)),m.mapDict _,Obj.data_mapDict i _,?_,f _ (Heap.SameBut.update ..),xAlk hn⟩ (Heap.SameBut.update ..))))));unfold pG;rw[p,qt (show(some x.2.2).isSome=true from rfl)];have:=xAox (P:=P) (w:=w) (v:=val) hn b ex;rw[←n]at this;obtain⟨l⟩:=es;simpa using this
end
abbrev GP(H:Hp):KD×V×V->KD×Value×Value->Prop:=λp q=>p.1=q.1/\GK H p.1 p.2.1/\RelV p.2.1 q.2.1/\RelV p.2.2 q.2.2
section
variable {X:Cx}{pins:List (Addr×Obj)}{σ:St}{H:Hp}{s:Shared}{a:Addr}{y v:V}{u r:Value}{k:KD}{kvs:List (KD×V×V)}{A:Around}{E:Value->Shared->Prop}
def GK.is(I:Inv X pins σ H s)(g:GK H k y)(a:RelV y u):GIs X.prog X.w s.heap k u:=by
 cases k with
 |non=>cases g;exact a
 |int i=>cases g;exact a
 |tup ks =>
  obtain⟨b,rfl,e⟩:=g;exact⟨b,a,xAiu I.hok e⟩
 |two ks x =>
  obtain⟨b,c,d,rfl,e,p,r⟩:=g;obtain⟨q,f,⟨o,j,h,n,t⟩,_⟩:=I.tuple (SqT.of e);obtain⟨z,v,rfl,m,l⟩:=f.two;cases m;cases l;exact⟨b,a,o,c,d,n,j,h,t,xAiu I.hok p,xAiu I.hok r⟩
def xAwx{F:KD×V×V->KD×Value×Value->Prop}:∀{l:List (KD×V×V)} {m:List (KD×Value×Value)},Paired F l m->∀x∈m,∃p∈l,F p x
 |_,_,.nil,x,h=>nomatch h
 |_,_,.cons f t,x,h=>by
  rcases za.mp h with rfl|h
  ·exact⟨_,ql,f⟩
  ·obtain⟨p,a,q⟩:=xAwx t x h
   exact⟨p,qw _ a,q⟩
def xAln:∀{l:List (KD×V×V)} {m:List (KD×Value×Value)},Paired (GP H) l m->RelO (vG l k) (vG m k)
 |_,_,.nil=>trivial
 |_,_,.cons (a:=p) (b:=q) f t=>by
  have c:=xAln t;unfold vG at c ⊢;rw[w5,w5,←f.1]
  by_cases e:p.1=k
  ·rw[qF e];exact f.2.2.2
  ·rw[decide_eq_false e];exact c
def xAwy(c:RelV v r):∀{l:List (KD×V×V)} {m:List (KD×Value×Value)},Paired (GP H) l m->Paired (GP H) (l.map λe=>if e.1=k then(e.1,e.2.1,v) else e) (m.map λe=>if e.1=k then(e.1,e.2.1,r) else e)
 |_,_,.nil=>.nil
 |_,_,.cons (a:=p) (b:=q) f t=>by
  refine .cons ?_ (xAwy c t);show GP H (if p.1=k then(p.1,p.2.1,v) else p) (if q.1=k then(q.1,q.2.1,r) else q);rw[←f.1]
  split
  ·exact⟨Y,f.2.1,f.2.2.1,c⟩
  ·exact f
def gp_put(t:Paired (GP H) l m)(g:GK H k y)(b:RelV y u)(a:RelV v r):Paired (GP H) (pG l k y v) (pG m k u r):=by
 have e:(vG l k).isSome=(vG m k).isSome:=(xAln t).isSome_eq;unfold pG;rw[e]
 split
 ·exact xAwy a t
 ·exact Paired.snoc t ⟨Y,g,b,a⟩
def xAwz:∀{l:List (KD×V×V)} {m:List (KD×Value×Value)},Paired (GP H) l m->l.length=m.length
 |_,_,.nil=>rfl
 |_,_,.cons _ t=>by rw[zc,zc,xAwz t]
def gd_rd(I:Inv X pins σ H s)(e:Rd H a (.dG kvs)):kvs.length≤sizeLine/\(a==sysModules)=false/\∃xs,Paired (GP H) kvs xs/\GDict X.prog X.w s.heap a xs:=by
 obtain⟨z,y,xs,r,o,es,ep,h1,h2,g,d,b⟩:=(show ObjOk X.prog X.w H s.heap a (.dG kvs) from e.ok I.hok);refine⟨z,y,xs,r,o,es,ep,h1,h2,g,d,λx c=>?_,b⟩;obtain⟨p,h,f⟩:=xAwx r x c;rw[←f.1];exact f.2.1.is I f.2.2.1
def xAlo(i:A.units+2<cLine)(I:Inv X pins σ H s)(e:Rd H a (.dG kvs))(g:GK H k y)(l:vG kvs k=some v)(f:RelV y u)(h:∀b s',Inv X pins σ H s'->RelV v b->Q b s') :
  wpAny (model X.prog X.w) A (getItem (.ref a) u) Q E s:=by
 obtain⟨z,j,xs,d,dd⟩:=gd_rd I e;obtain⟨b,hw,c⟩:=RelO.some_of (v:=v) (o:=vG xs k) (by rw[←l];exact xAln d);unfold getItem
 try with_reducible refine qD ?_
 refine qa (wpAny_sequenceKey dd.typeIs (by decide) (qa (wpAny_callSpecial?_slot (name:=Str.ofString "__getitem__") dd.typeIs F.slot_dict_getitem (qH F.slot_dict_getitem dd.typeIs F.entry_dict_getitem ?_ (F.args_dict_getitem_2 _ _)))));show wpAny (model X.prog X.w) _ (dictGet a u >>= _) _ _ s;refine qa (xAlm (show A.in1.units+1<cLine from(by show A.units+1+1<cLine;omega)) (g.is I f) dd ?_);rw[hw];exact qb ⟨b,Y,qb (h b _ (I.tok _) c)⟩
def xAeb(i:A.units+2<cLine)(I:Inv X pins σ H s)(e:Rd H a (.dG kvs))(g:GK H k y)(f:RelV y u)(h:∀s',Inv X pins σ H s'->Q (vG kvs k).isSome s') :
  wpAny (model X.prog X.w) A (contains (.ref a) u) Q E s:=by
 obtain⟨z,d,xs,c,dd⟩:=gd_rd I e;have b:(vG kvs k).isSome=(vG xs k).isSome:=(xAln c).isSome_eq;unfold contains
 try with_reducible refine qD ?_
 refine qa (wpAny_specialOf dd.typeIs F.slot_dict_contains.lookup ?_);show wpAny (model X.prog X.w) A (if(some (Value.builtin "dict.__contains__")==some Value.none)=true then _ else _) _ E s;rw[qs (by rw[beq_builtin_none];decide)];refine qa (wpAny_callSpecialUnlessNone?_slot (name:=Str.ofString "__contains__") dd.typeIs F.slot_dict_contains (qH F.slot_dict_contains dd.typeIs F.entry_dict_contains ?_ (F.args_dict_contains_2 _ _)));show wpAny (model X.prog X.w) _ (dictGet a u >>= _) _ _ s;refine qa (xAlm (show A.in1.units+1<cLine from(by show A.units+1+1<cLine;omega)) (g.is I f) dd ?_)
 cases hf:vG xs k with
 |some p =>
  rw[hf]at b;refine qb ⟨Value.bool true,Y,wpAny_truthy_bool ?_⟩;have:=h _ (I.tok (s.toks+gDraws X.prog X.w k));rw[b]at this;exact this
 |none =>
  rw[hf]at b;show wpAny (model X.prog X.w) _ (Builtin.Dict.pendingKey? a u >>= _) _ _ _;refine qa (wpAny_pendingKey_other d (qb ⟨Value.bool false,Y,wpAny_truthy_bool ?_⟩));have:=h _ (I.tok (s.toks+gDraws X.prog X.w k));rw[b]at this;exact this
def xAlp(C:A.units+2<cLine)(I:Inv X pins σ H s)(e:H a=some (.dG kvs))(g:GK H k y)(B:kvs.length<sizeLine)(i:RelV y u)(m:RelV v r)(h:∀s',Inv X pins σ (upd H a (.dG (pG kvs k y v))) s'->Q () s') :
  wpAny (model X.prog X.w) A (setItem (.ref a) u r) Q E s:=by
 obtain⟨z,x,xs,c,dd⟩:=gd_rd I (.inl e);unfold setItem
 try with_reducible refine qD ?_
 refine qa (wpAny_sequenceKey dd.typeIs (by decide) (qa (wpAny_callSpecial?_slot (name:=Str.ofString "__setitem__") dd.typeIs F.slot_dict_setitem (qH F.slot_dict_setitem dd.typeIs F.entry_dict_setitem ?_ (F.args_dict_setitem_3 _ _ _)))));show wpAny (model X.prog X.w) _ (Builtin.Dict.notOrdered "__setitem__" ⟨[.ref a,u,r],[]⟩ >>= _) _ _ s;refine qa (wpAny_notOrdered_dict dd.typeIs ?_);show wpAny (model X.prog X.w) _ (dictSet a u r >>= _) _ _ s;refine qa (xAww (show A.in1.units+1<cLine from(by show A.units+1+1<cLine;omega)) (g.is I i) dd (by rw[←xAwz c];exact z) λh' dd' d=>qb ⟨Value.none,Y,qb (h _ ?_)⟩);obtain⟨q,es,ep,j,h2,o,t,_,n⟩:=dd';have f:=xAow kvs k y v;refine xAkc I (by rw[e];exact True.intro) d ⟨q,j⟩ ⟨by omega,x,_,Paired.mapP (gp_put c g i m) λp q z=>⟨z.1,z.2.1.stay λb xs l=>?_,z.2.2⟩,q,es,ep,j,h2,o,t,n⟩;rw[xAaf (ne_of l e (λz=>nomatch z))];exact l
end
inductive ItDGetG(Q:VK)(x:V)(y:V)(H2:Hp):Prop
 |mk (a:_) (kvs:_) (k:_) (v:_) (h0_:x=.ref a) (h1_:Rd H2 a (.dG kvs)) (h2_:GK H2 k y) (h3_:vG kvs k=some v) (h4_:Q v H2):ItDGetG Q x y H2
def tDGetG(td ty:TE):TE:=λσ H Q=>td σ H λx H1=>ty σ H1 λy H2=>ItDGetG Q x y H2
inductive IrInG(neg:Bool)(y:V)(x:V)(H:Hp)(Q:VK):Prop
 |mk (a:_) (kvs:_) (k:_) (h0_:x=.ref a) (h1_:Rd H a (.dG kvs)) (h2_:GK H k y) (h3_:Q (.bl (if neg then !(vG kvs k).isSome else(vG kvs k).isSome)) H):IrInG neg y x H Q
def rInG(a:Bool):R2:=λy x H Q=>IrInG a y x H Q
inductive IsDPutG(D:Ends)(σ:St)(v:V)(x:V)(y:V)(H3:Hp):Prop
 |mk (a:_) (kvs:_) (k:_) (h0_:x=.ref a) (h1_:H3 a=some (.dG kvs)) (h2_:GK H3 k y) (h3_:kvs.length<sizeLine) (h4_:D.nx σ (upd H3 a (.dG (pG kvs k y v)))):IsDPutG D σ v x y H3
def sDPutG(td ty tv:TE):TS:=λD σ H=>tv σ H λv H1=>td σ H1 λx H2=>ty σ H2 λy a=>IsDPutG D σ v x y a
section
variable {X:Cx}{o i e value:Expr}{pos pos' tpos:Pos}{td ty tv:TE}
def xAck(m:X.A.units+2<cLine)(q:PE X o td)(hi:PE X i ty)(hs:NoSl i):PE X (.Subscript o i pos) (tDGetG td ty):=by
 refine⟨?_⟩;intro pins s σ H Q I h;refine xAqk PySem.F.slot_dict_getitem.lookup hs (thn (q pins s σ H _ I h) λu t ⟨x,H1,f,n,r⟩=>thn (hi pins t σ H1 _ f r) λB w ⟨y,H2,c,p,a,kvs,k,v,ex,d,g,l,e⟩=>?_);subst ex;obtain rfl:u=Value.ref a:=n;obtain⟨_,_,xs,_,dd⟩:=gd_rd c d;exact⟨dd.typeIs,xAlo m c d g l p λC z j b=>⟨v,H2,j,b,e⟩⟩
def op_inG(c:X.A.units+2<cLine):OpR X (compareOp .In) (rInG false):=by
 intro pins s σ H x y v u Q I e f h;obtain⟨a,kvs,k,rfl,d,g,q⟩:=h;cases f;show wpAny (model X.prog X.w) X.A (do return Value.bool (←contains (.ref a) v)) _ _ s;exact qa (xAeb c I d g e λs' b=>qb ⟨.bl _,H,b,Y,q⟩)
def xAib(c:X.A.units+2<cLine):OpR X (compareOp .NotIn) (rInG true):=by
 intro pins s σ H x y v u Q I e f h;obtain⟨a,kvs,k,rfl,d,g,q⟩:=h;cases f;show wpAny (model X.prog X.w) X.A (do return Value.bool (!(←contains (.ref a) v))) _ _ s;exact qa (xAeb c I d g e λs' b=>qb ⟨.bl _,H,b,Y,q⟩)
def xAgj(n:X.A.units+2<cLine)(p:PE X o td)(hi:PE X i ty)(q:PE X value tv)(hs:swapsWith value (some (.Subscript o i pos')) pos.line X.env=pure false) :
  PS X (.Assign [.Subscript o i pos'] value pos) (sDPutG td ty tv):=by
 refine⟨?_⟩;intro pins s σ H D I h;refine wpAny_Assign_Subscript (thn (q pins s σ H _ I h) λr B ⟨v,H1,z,b,j⟩=>thn (p pins B σ H1 _ z j) λu l ⟨x,H2,d,C,c⟩=>thn (hi pins l σ H2 _ d c) λG J ⟨y,K,m,w,a,kvs,k,ex,e,g,t,f⟩=>?_) hs;subst ex;obtain rfl:u=Value.ref a:=C;exact xAlp n m e g t w b λF E=>⟨σ,_,E,f⟩
def tDctG:TE:=λ_ H Q=>∀p H',H p=none->Same H H'->H' p=some (.dG [])->Q (.ref p) H'
def xAsx(h:Heap)(a:sysModules<h.objs.size):ObjOk P w H (h.push { cls:=.type "dict",data:=.dict #[] }) h.objs.size (.dG []) :=
 ⟨qk _,beq_eq_false_iff_ne.mpr (Ne.symm (qg a)),[],.nil,_,#[],0,qB _ rfl,⟨Y,Y,Y⟩,Y,Y,wm⟩
def xAlq:PE X (.Dict [] [] pos) tDctG:=⟨λpins s σ H Q I h =>
 wpAny_Dict_empty ⟨.ref s.heap.objs.size,_,I.laid (a:=s.heap.objs.size) (o:=.dG []) (t':=s.toks) (λ_ _ q=>qA _ q) (qd _) (xAsx s.heap I.big),Y,h _ _ (I.hok.fresh (qd _)) (Same.new (I.hok.fresh (qd _))) xAac⟩⟩
end
def xAgk:typeLookup (.type "list") "keys"=pure none:=by rw[typeLookup_type,builtinLookup_eq_fast];kernel_rfl
section
variable {prog:Program}{w:World}{A:Around}{E:Value->Shared->Prop}
def xAxa{k:Nat}(f:s.heap.get? a=some { cls:=.type "list",dict:=none,data:=.seq xs k,slots:=j })(m:A.handled=none)(h:∀h' tk,Ext s.heap h'->Q none { s with heap:=h',toks:=tk }):wpAny (model prog w) A (getAttr? (.ref a) "keys") Q E s:=by
 obtain⟨o,g,d,tk,l⟩:=s;have i:∀c,(⟨o,g,d,c,l⟩:Shared).TypeIs (.ref a) "list":=λ_=>⟨_,f,Y⟩;have f1:=sub_AttributeError;have t:=F.slot_list_getattribute.lookup;have p:=F.slot_list_getattribute.bind (.ref a);have u:=am_list_getattr_none
 have z:(Str.ofString "keys").length+100≤sizeLine:=by
  have:=xAag (n:=1000) (qd _);have e:(Str.ofString "keys").length=4:=rfl;omega
 unfold getAttr? getAttrBy? getAttrBy
 repeat (any_goals (first|assumption|exact i _|((with_reducible show wpAny _ _ (call (Value.builtin "list.__getattribute__") _ _) _ _ _);refine call_meets F.slot_list_getattribute (i _) am_entry_list_getattribute (F.args_list_getattribute_2 _ _) (meets_getattribute_miss_list a xs k j "keys" _ xAgk (by decide +kernel) z) ⟨f,m,λh' c e b=>?_⟩)|wp_step))
 obtain⟨t',r,q⟩:=b.there;show wpAny (model prog w) A (getattributeRaised _ _ _ _ _ _ _) _ _ _;unfold getattributeRaised
 repeat (any_goals (first|assumption|wp_step))
 exact h _ _ b.keeps
end
def xAic:entryFor table "dict.update.loop"=some Builtin.«dict.update.loop»:=entryFor_of_tree (by kernel_rfl)
def xAct:plainId "dict.update.loop"=true:=by decide +kernel
def Tst(h h':Heap):Prop:=∀b o,h.get? b=some o->o.cls=.type "tuple"->h'.get? b=some o
section
variable {P:Program}{w:World}{A:Around}
def xAja(a:s.heap.get? b=some o)(c:o.data=.seq xs n)(q:Q (some xs) s):wpAny M A (seqItems? (.ref b)) Q E s:=by
 unfold seqItems?;refine qa (qI a ?_);rw[c];exact qb q
def xAsy(a:h.IsListIter I l i)(k:∀b o,b≠I->h.get? b=some o->h'.get? b=some o):Tst h h':=λb o e c=>k b o (λz=>by
 obtain⟨o',d,f,_⟩:=a;rw[z,d]at e;cases e;rw[f]at c
 exact absurd c (by decide)) e
end
section
variable {P:Program}{w:World}{A:Around}{E:Value->Shared->Prop}{s:Shared}
def xAxb(c:(d==sysModules)=false):MeetsIn P w (Builtin.«dict.get» ⟨[.ref d,v,b],[]⟩) (λA R s=>A.in1.units+1<cLine/\∃k xs,GIs P w s.heap k v/\GDict P w s.heap d xs/\R (.ok (.ret ((vG xs k).getD b))) { s with toks:=s.toks+gDraws P w k }) :=
 .of_wp λA R s ⟨f,k,xs,a,g,h⟩=>by
  show wpAny (model P w) _ (dictGet d v >>= _) _ _ s;refine qa (xAlm f a g ?_)
  cases e:vG xs k with
  |some u=>rw[e]at h;exact qb ⟨u,Y,h⟩
  |none =>
   rw[e]at h;show wpAny (model P w) _ (Builtin.Dict.missed d v >>= _) _ _ _;exact qa (wpAny_missed_other c (qb ⟨b,Y,h⟩))
end
def xAsz(h:RelO a b)(r:RelV x u):RelV (a.getD x) (b.getD u):=by
 cases a <;> cases b <;> first|exact h|exact r|exact h.elim
section
variable {X:Cx}
inductive IrGet2(x:V)(vs:List V)(H:Hp)(Q:VK):Prop
 |mk (a:_) (kvs:_) (k:_) (y:_) (d:_) (h0_:x=.ref a) (h1_:vs=[y,d]) (h2_:H a=some (.dG kvs)) (h3_:GK H k y) (h4_:Q ((vG kvs k).getD d) H):IrGet2 x vs H Q
def rGet2:V->List V->Hp->VK->Prop:=λx vs H Q=>IrGet2 x vs H Q
def xAta(i:X.A.units+2<cLine):MtM X "dict.get" rGet2:=by
 intro pins s σ H x xs v us Q I l f h;obtain⟨a,kvs,k,y,d,rfl,rfl,j,g,q⟩:=h;obtain⟨u,n,rfl,e,c⟩:=f.two;cases l;obtain⟨z,m,ys,b,dd⟩:=gd_rd I (.inl j);exact call_meetsIn F.slot_dict_get dd.typeIs F.entry_dict_get (F.args_dict_get_3 _ _ _) (xAxb m) ⟨i,k,ys,g.is I e,dd,⟨_,H,I.tok _,xAsz (xAln b) c,q⟩⟩
end
def hu4{k:Nat}(a:Room k A):A.units+4<cLine:=by have:=a.units;omega
def hu2{k:Nat}(a:Room k A):A.units+2<cLine:=by have:=a.units;omega
def hu3{k:Nat}(a:Room k A):A.units+3<cLine:=by have:=a.units;omega
section
variable {P:Program}{w:World}{fs:List Addr}{H H1:Hp}{h h1 h2:Heap}
def Un.later(u:Un fs [] H H1 h h1)(k:∀b o,b<h.objs.size->h1.get? b=some o->h2.get? b=some o):Un fs [] H H1 h h2 where
 keep:=λb o q n c a=>k b o (q0 q) (u.keep b o q n c a)
 slot:=λb o q n c a=>let⟨d,e⟩:=u.slot b o q n c a;⟨d,k b _ (q0 q) e⟩
 free:=u.free
 there:=λb o q a=>let⟨o',e⟩:=u.there b o q a;⟨o',k b o' (q0 q) e⟩
 tups:=u.tups
 frzs:=u.frzs
 tbls:=u.tbls
 tupo:=λb o xs q n=>k b o (q0 q) (u.tupo b o xs q n)
def HOk.other(x:HOk P w H h)(k:∀b u,b≠a->h.get? b=some u->h2.get? b=some u)(hn:H a=none):HOk P w H h2:=λb o e=>by
 have f:∀{c u},H c=some u->c≠a:=λq z=>by rw[z,hn]at q;cases q
 refine(x b o e).stay (λc u d q=>k c u ?_ q) (λ_ q=>q) λ_ _ q=>q;rcases d with rfl|d
 ·exact f e
 ·exact f d
def HOk.adopt(x:HOk P w H h)(hn:H a=none)(new:ObjOk P w (upd H a o) h a o):HOk P w (upd H a o) h:=λb u e=>by
 by_cases d:b=a
 ·subst d;rw[xAac]at e;cases e;exact new
 ·rw[xAaf d]at e
  refine(x b u e).stay (λ_ _ _ q=>q) (λc q=>?_) λc xs q=>?_
  ·rw[xAaf (λz=>by rw[z,hn]at q;cases q)];exact q
  ·rw[xAaf (λz=>by rw[z,hn]at q;cases q)];exact q
def Un.adopt{a:Addr}{o:HO}(u:Un fs [] H H1 h h1)(e:h.objs.size≤a)(hn:H1 a=none):Un fs [] H (upd H1 a o) h h1 where
 keep:=u.keep
 slot:=u.slot
 free:=λb c q n d=>by
  rw[xAaf (qg (qv (q0 q) e))];exact u.free b c q n d
 there:=u.there
 tups:=λb xs q=>by
  have:=u.tups b xs q;rw[xAaf (λz=>by rw[z,hn]at this;cases this)];exact this
 frzs:=λb c v q=>by
  have:=u.frzs b c v q;rw[xAaf (λz=>by rw[z,hn]at this;cases this)];exact this
 tbls:=λb ps q=>by
  obtain⟨m,this⟩:=u.tbls b ps q;exact⟨m,by rw[xAaf (λz=>by rw[z,hn]at this;cases this)];exact this⟩
 tupo:=u.tupo
end
def SrtOk(n:Nat)(ds:List PyData):Prop:=n≤2000/\(n<64\/ds.Pairwise λa b=>ltD a b=true)
def SrtOk.few(h:SrtOk n ds)(b:ds.length=n)(W:Srt.Swo (ltK ds)):Few (ltK ds) n:=by
 rcases h.2 with h|h
 ·exact .inl h
 ·refine .inr λi j a c=>?_
  by_cases e:i=j
  ·subst e;exact W.irr _
  ·refine W.le_of_lt ?_
   have:=wz.mp h i j (by omega) (by omega) (by omega);unfold ltK keyAt;rw[qq,qq,qf (by omega),qf (by omega)];exact this
inductive IrSortK(sp:Sp)(xs:List V)(H:Hp)(Q:VK):Prop
 |mk (p:_) (ys:_) (ds:_) (t:_) (h0_:xs=[.ref p]) (h1_:SqL H p ys) (h2_:ds.length=ys.length) (h3_:KeysAre ds t) (h4_:SrtOk ys.length ds) (h5_:(∀(m:Nat) y d H' (Q':VK),ys[m]?=some y->ds[m]?=some d->Same H H'->(∀H'' kv,Same H' H''->DV H'' kv d->Q' kv H'')->sp [y] H' Q' E0)) (h6_:∀q H' ix,H q=none->Same H H'->SortIx ds ix->H' q=some (.lst (ix.map λi=>ys.getD i .non))->Q (.ref q) H'):IrSortK sp xs H Q
def rSortK(sp:Sp):List V->Hp->VK->Prop:=λxs H Q=>IrSortK sp xs H Q
section
variable {X:Cx}{pins:List (Addr×Obj)}{σ:St}{H:Hp}{s:Shared}{k:Nat}{fa:Addr}{fd:FuncData}{ps:List Str}{sp:Sp}
structure KSt(X:Cx)(H:Hp)(s:Shared)(a kS:Addr)(e1:Nat)(Hm:Hp)(s':Shared)(ks:List Value)(kvs:List V)(ds:List PyData):Prop where
 un:Un (frs X.stack) [] H Hm s.heap s'.heap
 hok:HOk X.prog X.w Hm s'.heap
 os:s'.os=s.os
 bare:AllBare s'.gens
 same:Same H Hm
 fa':Hm a=none
 fk:Hm kS=none
 ga:s'.heap.get? a=some (seqObj "list" #[] e1)
 gk:∃e,s'.heap.get? kS=some (seqObj "list" ks.toArray e)
 vals:Vals kvs ks
 dv:DVs Hm kvs ds
def xAlr(h:DV H x d):∀{xs:List V} {ds:List PyData},DVs H xs ds->DVs H (xs++[x]) (ds++[d])
 |_,_,.nil=>.cons h .nil
 |_,_,.cons a t=>.cons a (xAlr h t)
def xAls{D:Around}{a k:Addr}{e1:Nat}{E:Value->Shared->Prop}{R:Shared->Prop}(j:∀(s':Shared) (c:Hp) (x:Value) (y:V) (Q:VK),Env0 X.prog X.w X.K X.mg X.base D X.stack s' c->Un (frs X.stack) [] H c s.heap s'.heap->Same H c->RelV y x->sp [y] c Q E0->codeAny (model X.prog X.w) D (.call (.ref fa) ⟨[x],[]⟩) (CR CX0 X.stack X.prog X.w c s' Q E0) s')(O:D.frames=X.A.frames)(I:Inv X pins σ H s)(ha:s.heap.objs.size≤a)(hk:s.heap.objs.size≤k)(M:a≠k)(S:a∉frs X.stack)(L:k∉frs X.stack){q:Value->PUnit->Sem (ForInStep PUnit)}(g:∀x (s':Shared) (R':ForInStep PUnit->Shared->Prop),wpAny (model X.prog X.w) D (call (.ref fa) [x]) (λC Y=>wpAny (model X.prog X.w) D (Builtin.List.listUpdate (.ref k) (·.push C)) (λ_ s3=>R' (.yield ⟨⟩) s3) E Y) (λ_ _=>False) s'->wpAny (model X.prog X.w) D (q x ⟨⟩) R' E s') :
  ∀(r:List Value) (J:List V) (G:List PyData) (ks:List Value) (kvs:List V) (dd:List PyData) (c:Hp) (s':Shared),Vals J r->G.length=J.length →
   (∀(m:Nat) y d H' (Z:VK),J[m]?=some y->G[m]?=some d->Same H H'->(∀F C,Same H' F->DV F C d->Z C F)->sp [y] H' Z E0) →
   ks.length+r.length≤2000->KSt X H s a k e1 c s' ks kvs dd →
   (∀Hn f n l,KSt X H s a k e1 Hn f n l (dd++G)->n.length=ks.length+r.length->R f)->wpAny (model X.prog X.w) D (forIn r PUnit.unit q) (λ_ f=>R f) E s'
 |[],J,G,ks,kvs,dd,c,s',rv,hl,hsp,hz,st,fin=>by
  cases rv;rw[wu]at hl;rw[kj.mp hl]at fin;rw[List.forIn_nil];refine qb (fin c s' ks kvs ?_ rfl);rw[vy];exact st
 |x::r,_,[],ks,kvs,dd,c,s',.cons _ _,hl,hsp,hz,st,fin=>absurd hl (by simp)
 |x::r,_,d::G,ks,kvs,dd,c,s',.cons (a:=y) (l₁:=J) r1 rv,hl,hsp,hz,st,fin=>by
  rw[List.forIn_cons];have I':Inv X pins σ c s':=I.call' st.os st.un st.hok st.bare (λb z=>absurd z (by simp));have p:=I'.env0;obtain⟨ek,gk⟩:=st.gk;refine qa (g x s' _ ?_);refine wpAny_call (codeAny_mono (j s' c x y (λC H2=>Same c H2/\DV H2 C d) ⟨O.trans p.frames,p.mod,p.bs,p.bsz,p.funs,p.frf,p.hok,p.bare⟩ st.un st.same r1 (hsp 0 y d c _ rfl rfl st.same λH2 C a1 a2=>⟨a1,a2⟩)) λres Y P=>?_)
  cases res with
  |error e=>exact P.elim
  |ok fl =>
   cases fl with
   |next=>exact P.elim
   |brk=>exact P.elim
   |cont=>exact P.elim
   |ret u =>
    obtain⟨v,H2,os2,t,i,W,rel,h,dv2⟩:=P;have N:=i.keep k _ gk st.fk L (by simp);have ga2:=i.keep a _ st.ga st.fa' S (by simp);have T:=i.free k _ gk st.fk (by simp);have fa2:=i.free a _ st.ga st.fa' (by simp);have hz':ks.length+(r.length+1)≤2000:=hz;have z64:2000≤sizeLine:=ze (xAhu (by decide));refine listUpdate_at N rfl ?_ (by rw[qz];omega) (by rw[Array.size_push,qz];omega)
    obtain⟨c2,g2⟩:∃c2,(Y.heap.update k (Obj.mapSeq (·.push u))).get? k=some (seqObj "list" ((ks++[u]).toArray) c2):=by
     have ea:ks.toArray.push u=(ks++[u]).toArray:=by simp
     exact⟨_,by rw[←ea];exact get?_update_seq N (·.push u)⟩
    have sb:=Heap.SameBut.update Y.heap k (Obj.mapSeq (·.push u));refine xAls j O I ha hk M S L g r J G (ks++[u]) (kvs++[v]) (dd++[d]) H2 _ rv (by simpa using hl) (λm y' d' H' Z h1 h2 h3 h4=>hsp (m+1) y' d' H' Z (by simpa using h1) (by simpa using h2) h3 h4) (by rw[List.length_append,List.length_singleton];omega) ⟨?_,?_,os2.trans st.os,t,st.same.trans h,fa2,T,(sb.2 a M).trans ga2,⟨c2,g2⟩,?_,?_⟩ λHn f n l U hl'=>fin Hn f n l ?_ ?_
    ·exact(st.un.trans i).later λb o B e=>(sb.2 b (qg (qv B hk))).trans e
    ·exact W.other (λb u' B e=>(sb.2 b B).trans e) T
    ·exact st.vals.append (.cons rel .nil)
    ·exact xAlr dv2 (st.dv.same h)
    ·rw[yc]at U
     exact U
    ·rw[hl',qm,zk,zc]
     omega
def xAtb{v:Around}{a c:Addr}{p:Nat}{E:Value->Shared->Prop}{P:PySem.Fin->Shared->Prop}{r:Hp}{s':Shared}{ks:List Value}{kvs:List V}{ds:List PyData}{st:SortSt}{out:List Value}{m:List V}(t:s.heap.objs.size≤c)(q:s.heap.objs.size≤a)(l:a≠c)(S:KSt X H s a c p r s' ks kvs ds)(hz:ks.length≤2000)(A:out.length≤2000)(i:(arrOf st).map (·.2)=out.toArray)(hf:failedOf st=none)(j:Vals m out)(k:∀h H2,Un (frs X.stack) [] H H2 s.heap h.heap->HOk X.prog X.w H2 h.heap->h.os=s.os->AllBare h.gens->Same H H2->H2 a=some (.lst m)->P (.done (.ret .none)) h):wpAny (model X.prog X.w) v (ksk_tail a false p (.ref c) st) P E s':=by
 obtain⟨B,y⟩:=S.gk;have x:2000≤sizeLine:=ze (xAhu (by decide));unfold ksk_tail
 try dsimp only
 rw[i];have n:=Heap.SameBut.update s'.heap c (Obj.mapSeq λ_=>(#[]:Array Value));have d:=(n.2 a l).trans S.ga;refine qa (listUpdate_at y rfl (qa (wpAny_letGo (qa (seqEpoch_at d rfl (qa (listUpdate_at d rfl ?_ (qk _) (by show out.toArray.size≤_;rw[qz];omega))))))) (by rw[qz];omega) (qk _));rw[hf]
 simp only[bne_self_eq_false,Bool.false_eq_true,if_false]
 have g:=Heap.SameBut.update (s'.heap.update c (Obj.mapSeq λ_=>(#[]:Array Value))) a (Obj.mapSeq λ_=>out.toArray);obtain⟨c2,z⟩:∃c2,((s'.heap.update c (Obj.mapSeq λ_=>(#[]:Array Value))).update a (Obj.mapSeq λ_=>out.toArray)).get? a=some (seqObj "list" out.toArray c2):=⟨_,get?_update_seq d λ_=>out.toArray⟩;refine qb (k _ (upd r a (.lst m)) ?_ ?_ S.os S.bare (S.same.trans (Same.new S.fa')) xAac)
 ·refine(S.un.later λb o f e=>?_).adopt q S.fa'
  have h1:b≠c:=qg (qv f t);have h2:b≠a:=qg (qv f q);exact(g.2 b h2).trans ((n.2 b h1).trans e)
 ·refine HOk.adopt ((S.hok.other (λb u f e=>(n.2 b f).trans e) S.fk).other (λb u f e=>(g.2 b f).trans e) S.fa') S.fa' ⟨?_,out,c2,j,z⟩
  rw[j.length];omega
def xAid{Q:VK}{vs:List Value}{ys:List V}{ds:List PyData}{t:Nat}{h1:Heap}{a:Nat}(o:∀(s':Shared) (D:Hp) (x:Value) (y:V) (Q:VK),Env0 X.prog X.w X.K X.mg X.base X.A.in1.in1 X.stack s' D->Un (frs X.stack) [] H D s.heap s'.heap->Same H D->RelV y x->sp [y] D Q E0->codeAny (model X.prog X.w) X.A.in1.in1 (.call (.ref fa) ⟨[x],[]⟩) (CR CX0 X.stack X.prog X.w D s' Q E0) s')(hu:X.A.units+3+61<cLine)(I:Inv X pins σ H s)(M:Vals ys vs)(r:ds.length=ys.length)(hk:KeysAre ds t)(L:SrtOk ys.length ds)(N:∀(m:Nat) y d H' (Q':VK),ys[m]?=some y->ds[m]?=some d->Same H H'->(∀u T,Same H' u->DV u T d->Q' T u)->sp [y] H' Q' E0)(q:∀q H' ix,H q=none->Same H H'->SortIx ds ix->H' q=some (.lst (ix.map λi=>ys.getD i .non))->Q (.ref q) H')(x1:Ext s.heap h1)(o1:h1.get? a=some (seqObj "list" vs.toArray 0))(B:s.heap.objs.size≤a) :
  wpAny (model X.prog X.w) X.A.in1 (holding [Value.ref a] (call (.builtin "list.sort") [.ref a] [(Str.ofString "key",.ref fa)]) >>= λ_=>ret (.ref a)) (λc s'=>∃v,c=.done (.ret v)/\EP X pins σ Q v s') X.xe { s with heap:=h1 }:=by
 have h64:=L.1;have hl:=M.length
 have hz:ys.length≤sizeLine:=by rw[sizeLine_eq];omega
 have zl:vs.length≤sizeLine:=by omega
 refine qa (qD (wpAny_call_entry_kw slot_list_sort ⟨_,o1,Y⟩ entry_list_sort ?_ (ksk_l1 _ _)));show wpAny (model X.prog X.w) X.A.in1.in1 (Builtin.«list.sort» ⟨[.ref a],[(Str.ofString "key",.ref fa)]⟩) _ _ _;rw[ksk_t1];unfold ksk_tree;obtain⟨h,o2⟩:∃h,(h1.update a (Obj.mapSeq λ_=>(#[]:Array Value))).get? a=some (seqObj "list" #[] h):=⟨_,get?_update_seq o1 λ_=>#[]⟩;have x2:Ext s.heap (h1.update a (Obj.mapSeq λ_=>(#[]:Array Value))):=x1.upd B;refine qa (listItems_at o1 rfl (qa (listUpdate_at o1 rfl (qa (seqEpoch_at o2 rfl (qa (wpAny_newTuple (qa (wpAny_newList (qD ?_) (qk _))) zl)))) (by rw[qz];exact zl) (qk _))))
 have g:s.heap.objs.size≤((h1.update a (Obj.mapSeq λ_=>(#[]:Array Value))).push (seqObj "tuple" vs.toArray 0)).objs.size:=by
  rw[size_push',Heap.size_update];have:a<h1.objs.size:=q0 o1;omega
 have l:a≠((h1.update a (Obj.mapSeq λ_=>(#[]:Array Value))).push (seqObj "tuple" vs.toArray 0)).objs.size:=by
  rw[size_push',Heap.size_update];have:a<h1.objs.size:=q0 o1;omega
 have o3:(((h1.update a (Obj.mapSeq λ_=>(#[]:Array Value))).push (seqObj "tuple" vs.toArray 0)).push (seqObj "list" #[] 0)).get? a=some (seqObj "list" #[] h):=qA _ (qA _ o2);have n:(((h1.update a (Obj.mapSeq λ_=>(#[]:Array Value))).push (seqObj "tuple" vs.toArray 0)).push (seqObj "list" #[] 0)).get? ((h1.update a (Obj.mapSeq λ_=>(#[]:Array Value))).push (seqObj "tuple" vs.toArray 0)).objs.size=some (seqObj "list" #[] 0):=qB _ rfl;have x3:Ext s.heap (((h1.update a (Obj.mapSeq λ_=>(#[]:Array Value))).push (seqObj "tuple" vs.toArray 0)).push (seqObj "list" #[] 0)):=(x2.trans (.push _ _)).trans (.push _ _);show wpAny (model X.prog X.w) X.A.in1.in1 (ksk_rest a (.ref fa) false vs.toArray h (.ref ((h1.update a (Obj.mapSeq λ_=>(#[]:Array Value))).push (seqObj "tuple" vs.toArray 0)).objs.size)) _ _ { s with heap:=((h1.update a (Obj.mapSeq λ_=>(#[]:Array Value))).push (seqObj "tuple" vs.toArray 0)).push (seqObj "list" #[] 0) };generalize ((h1.update a (Obj.mapSeq λ_=>(#[]:Array Value))).push (seqObj "tuple" vs.toArray 0)).objs.size=kS at g l n ⊢;generalize ((h1.update a (Obj.mapSeq λ_=>(#[]:Array Value))).push (seqObj "tuple" vs.toArray 0)).push (seqObj "list" #[] 0)=O at o3 n x3 ⊢
 have J:∀b,s.heap.objs.size≤b->b∉frs X.stack:=λb C hm=>by
  rcases za.mp (I.stkSub b hm) with z|z
  ·exact absurd (qv I.lt C) (by rw[z];exact zr _)
  ·exact I.nofs C z
 have S0:KSt X H s a kS h H { s with heap:=O } [] [] []:=⟨Un.kept x3,I.hok.kept x3,Y,I.bare,Same.refl H,I.hok.fresh B,I.hok.fresh g,o3,⟨0,n⟩,.nil,.nil⟩;unfold ksk_rest;refine qa (wpAny_rule ?_)
 first
  |rw[List.forIn_toArray]
  |(rw[←Array.forIn_toList];simp only[List.toList_toArray])
 refine qa (xAls (R:=λf=>wpAny (model X.prog X.w) X.A.in1.in1 (do let keys ←Builtin.List.listItems (.ref kS);ksk_end a false vs.toArray h (.ref kS) keys) _ _ f) o rfl I B g l (J a B) (J kS g) (λx s' R' hx=>?_) vs ys ds [] [] [] H _ M r N (by rw[wu];omega) S0 λHn f ks kvs S j=>?_)
 ·refine qa (wpAny_attempt (qE hx (λT s2 h2=>?_) λ_ _ z=>z.elim))
  exact qa (qE h2 (λ_ s3 O=>qb O) λ_ _ z=>z)
 ·rw[jr]at S
  rw[wu,vm]at j;obtain⟨ek,gk⟩:=S.gk
  have hkl:ks.length=ds.length:=by rw[j,r,hl]
  have I':Inv X pins σ Hn f:=I.call' S.os S.un S.hok S.bare (λb z=>absurd z (by simp));obtain⟨as,ra⟩:=S.dv.reads I' S.vals;have W:=xAss hk.one;refine qa (listItems_at gk rfl ?_)
  have c:∀(e:Array Nat),Arr vs.length (ltK ds) e->∀st:SortSt,(arrOf st).map (·.2)=List.toArray (e.toList.map λi=>vs.getD i Value.none)->failedOf st=none->wpAny (model X.prog X.w) X.A.in1.in1 (ksk_tail a false h (.ref kS) st) (λc s'=>∃v,c=PySem.Fin.done (.ret v)/\wpAny (model X.prog X.w) X.A.in1 (ret (Value.ref a)) (λc s'=>∃v,c=.done (.ret v)/\EP X pins σ Q v s') X.xe s') X.xe f:=λe G st ho hf=>by
   have U:∀i∈e.toList,i<ys.length:=λi hi=>by
    have:=(G.1.toList.mem_iff).mp hi
    simp at this
    omega
   have P:e.size=vs.length:=by rw[G.1.size_eq];simp
   refine xAtb g B l S (by omega) (by rw[qc,qx,P];omega) ho hf (xAeo M _ U) λs2 H2 un hok os F same Z=>?_;refine⟨_,Y,qb ⟨_,Y,.ref a,H2,I.call' os un hok F (λb z=>absurd z (by simp)),Y,q a H2 e.toList (I.hok.fresh B) same (xAen (by rw[←hkl,j];exact G)) Z⟩⟩
  unfold ksk_end
  try dsimp only
  rw[qs (by decide)]
  by_cases h2:vs.toArray.size<2
  ·rw[qt h2,qt h2]
   have p:vs.length<2:=by simpa using h2
   refine qa (qb ?_);rw[StateT.run_pure];refine qa (qb ?_);refine c _ (xAht W p) _ ?_ rfl;show((ks.toArray.zip vs.toArray).map (·.2))=_;apply j4.mp;rw[Array.toList_map,Array.toList_zip];have h:List.map (·.2) (ks.zip vs)=vs:=List.map_snd_zip (by omega)
   have Z:(List.toArray (List.range vs.length)).toList.map (λi=>vs.getD i Value.none)=vs:=by
    apply zy;intro i
    by_cases hi:i<vs.length
    ·simp[hi]
    ·simp[hi]
   show List.map (·.2) (ks.zip vs)=(List.toArray (List.range vs.length)).toList.map (λi=>vs.getD i Value.none);rw[h,Z]
  ·rw[qs h2,qs h2]
   have p:¬vs.length<2:=by simpa using h2
   obtain⟨κ,hkk,hqq⟩:=xAdj (prog:=X.prog) (w:=X.w) (A:=X.A.in1.in1) ra hk (by omega) (by show X.A.units+1+1+60<cLine;omega);refine qa (qE (hkk (λk s'=>k=κ/\s'=f) ⟨Y,Y⟩) ?_ λ_ _ z=>z.elim);rintro k' s' ⟨rfl,rfl⟩;rw[qs (by decide)];refine qa (qE (xAlg (E:=X.xe) (R:=λst s3=>s3=s'/\∃e,Arr vs.length (ltK ds) e/\(arrOf st).map (·.2)=List.toArray (e.toList.map λi=>vs.getD i Value.none)/\failedOf st=none) W j (by have:=L.few r W;rw[hl]at this;exact this) p hqq λst e a1 a2 a3=>⟨Y,e,a1,a2,a3⟩) ?_ λ_ _ z=>z);rintro⟨⟨⟩,st⟩ s3 ⟨rfl,e,G,eo,hf⟩;exact c e G st eo hf
def xAjb{Q:VK}{us:List Value}{xs:List V}(b:∀(s':Shared) (c:Hp) (x:Value) (y:V) (Q:VK),Env0 X.prog X.w X.K X.mg X.base X.A.in1.in1 X.stack s' c->Un (frs X.stack) [] H c s.heap s'.heap->Same H c->RelV y x->sp [y] c Q E0->codeAny (model X.prog X.w) X.A.in1.in1 (.call (.ref fa) ⟨[x],[]⟩) (CR CX0 X.stack X.prog X.w c s' Q E0) s')(o:X.A.units+3+61<cLine)(I:Inv X pins σ H s)(r:Vals xs us)(n:rSortK sp xs H Q) :
  wpAny (model X.prog X.w) X.A (call (.builtin "sorted") us [(Str.ofString "key",.ref fa)]) (EP X pins σ Q) X.xe s:=by
 obtain⟨p,ys,ds,t,rfl,z,e,k,d,f,q⟩:=n;have v:=d.1;obtain⟨u,rfl,l⟩:=vals1 r;cases l;obtain⟨vs,g,pl,hz⟩:=I.list z;have B:=g.length
 have h:vs.length≤sizeLine:=by omega
 refine call_function_entry_kw kind_sorted plain_sorted entry_sorted (ksk_s1 _ _) ?_;unfold Builtin.«sorted»;refine qa (m:=checkCount "sorted" 1 1 _) (qb (qa (collect_list pl.isList (qa (wpAny_newList ?_ h)) h)));have hsz:((s.heap.push (seqObj "list" #[] 0)).update s.heap.objs.size (Obj.mapSeq (·++vs.toArray))).objs.size=s.heap.objs.size+1:=(Heap.size_update _ _ _).trans (size_push' _ _);have j:Ext s.heap (((s.heap.push (seqObj "list" #[] 0)).update s.heap.objs.size (Obj.mapSeq (·++vs.toArray))).push (seqObj "list" vs.toArray 0)):=((Ext.push _ _).upd (qd _)).trans (.push _ _);have o1:(((s.heap.push (seqObj "list" #[] 0)).update s.heap.objs.size (Obj.mapSeq (·++vs.toArray))).push (seqObj "list" vs.toArray 0)).get? (s.heap.objs.size+1)=some (seqObj "list" vs.toArray 0):=hsz▸qB _ rfl;show wpAny (model X.prog X.w) _ _ _ _ { s with heap:=((s.heap.push (seqObj "list" #[] 0)).update s.heap.objs.size (Obj.mapSeq (·++vs.toArray))).push (seqObj "list" vs.toArray 0) };rw[hsz];generalize ((s.heap.push (seqObj "list" #[] 0)).update s.heap.objs.size (Obj.mapSeq (·++vs.toArray))).push (seqObj "list" vs.toArray 0)=h1 at j o1 ⊢;have i:s.heap.objs.size≤s.heap.objs.size+1:=we _;generalize s.heap.objs.size+1=a at i o1 ⊢;exact xAid b o I g e k d f q j o1 i
def Room.in2{k:Nat}(r:Room (k+1) A):Room k A.in1.in1 :=
 ⟨r.hd,by have:=r.dp;show A.depth+3 * k+5<_;omega,by have:=r.un;show A.units+1+1+16 * k+200<_;omega,r.gd⟩
end
section
variable {X:Cx}{K:PySem.W.Frag}
inductive IrSlTA(x:V)(lo:Option Int)(hi:Option Int)(H:Hp)(Q:VK):Prop
 |mk (a:_) (xs:_) (h0_:x=.ref a) (h1_:SqT H a xs) (h2_:¬(HT.sIx xs.length 0 lo=0/\HT.sIx xs.length xs.length hi=xs.length)) (h3_:∀p H',H p=none->Same H H'->H' p=some (.tup (cutV xs lo hi))->Q (.ref p) H'):IrSlTA x lo hi H Q
def rSlTA:V->Option Int->Option Int->Hp->VK->Prop:=λx lo hi H Q=>IrSlTA x lo hi H Q
def xAie:SlR X (rSlTA):=sl_tup.imp λ_ _ _ _ _ ⟨a,xs,h1,h2,c,q⟩=>⟨a,xs,h1,h2,c,λp b=>q p _ b (Same.new b) xAac⟩
end
def Tups(H H':Hp):Prop:=∀b xs,H b=some (.tup xs)->H' b=some (.tup xs)
section
variable {H H1 H':Hp}
mutual
def DT.tups(t:Tups H H'):∀{x:V} {d:PyData},DT H x d->DT H' x d
 |_,_,.non=>.non
 |_,_,.bl b=>.bl b
 |_,_,.int i=>.int i
 |_,_,.str z=>.str z
 |_,_,.tup e h=>.tup (t _ _ e) (DTs.tups t h)
def DTs.tups(t:Tups H H'):∀{x:List V} {d:List PyData},DTs H x d->DTs H' x d
 |_,_,.nil=>.nil
 |_,_,.cons a b=>.cons (DT.tups t a) (DTs.tups t b)
end
end
def del(H:Hp)(p:Addr):Hp:=λb=>if b=p then none else H b
def xAeq:del H p p=none:=qt rfl
def xAgl(h:b≠p):del H p b=H b:=qs h
def xAer(h:H b=none):del H p b=none:=by
 by_cases e:b=p
 ·subst e;exact xAeq
 ·rw[xAgl e];exact h
def Same.cuts(s:Same H0 H):Same (del H0 p) (del H p):=λb u q=>by
 by_cases e:b=p
 ·subst e;rw[xAeq]at q;cases q
 ·rw[xAgl e]at q ⊢;exact s b u q
def putAllK(xs:List (Key×V)):List (Key×V)->List (Key×V)
 |[]=>xs
 |e::r=>putAllK (putK xs e.1 e.2) r
def putAllS(xs:List (Key×Value)):List (Key×Value)->List (Key×Value)
 |[]=>xs
 |e::r=>putAllS (stored xs e.1 e.2) r
def xAjc(ps:List (Key×V)):∀xs,(putAllK xs ps).length≤xs.length+ps.length:=by
 induction ps with
 |nil=>intro xs;exact qd _
 |cons e r a =>
  intro xs;have h1:=a (putK xs e.1 e.2);have h2:=xAbw xs e.1 e.2;show(putAllK (putK xs e.1 e.2) r).length≤_;rw[zc];omega
def xAlt(xs:List (Key×Value))(k:Key)(v:Value):(stored xs k v).length≤xs.length+1:=by
 unfold stored
 split <;> simp
def xAif:∀{l:List (Key×V)} {m:List (Key×Value)},KV l m->∀{a:List (Key×V)} {b:List (Key×Value)},KV a b->KV (putAllK a l) (putAllS b m)
 |_,_,.nil,_,_,t=>t
 |_,_,.cons (a:=p) (b:=q) f t,a,b,t2=>by
  show KV (putAllK (putK a p.1 p.2) _) (putAllS (stored b q.1 q.2) _);rw[←f.1];exact xAif t (t2.put p.1 f.2)
def xAec:∀(ps xs:List (Key×V)),(ps.map (·.1)).Nodup->(∀e∈ps,∀x∈xs,x.1≠e.1)->putAllK xs ps=xs++ps
 |[],xs,_,_=>by rw[vy];rfl
 |e::r,xs,nd,h=>by
  rw[zh,zu]at nd
  have c:putK xs e.1 e.2=xs++[e]:=by
   unfold putK
   have:¬(xs.any λd=>decide (d.1=e.1))=true:=by
    rw[yi];rintro⟨x,a,z⟩;exact h e ql x a (qG z)
   rw[qs this]
  show putAllK (putK xs e.1 e.2) r=_;rw[c,xAec r (xs++[e]) nd.2 λy b x a=>?_,yc]
  ·rfl
  ·rcases zb.mp a with q|q
   ·exact h y (qw _ b) x q
   ·rw[qu.mp q]
    exact λz=>nd.1 (qj.mpr ⟨y,b,z.symm⟩)
section
variable {P:Program}{w:World}{A:Around}
def PairAtK(P:Program)(w:World)(h:Heap)(v:Value)(e:Key×Value):Prop:=∃b a,v=.ref b/\h.IsTuple b #[a,e.2]/\(mixKind P w).is e.1 a=true
def PairAtK.stay(p:PairAtK P w h v e)(t:Tst h h'):PairAtK P w h' v e:=by
 obtain⟨b,a,rfl,⟨o,h1,h2,c⟩,g⟩:=p;exact⟨b,a,Y,⟨o,t _ _ h1 h2,h2,c⟩,g⟩
def xAoy(hh:A.handled=none)(hu:A.units+1<cLine)(X:l≠I)(h:D≠I)(U:D≠l) :
  ∀(ps:List (Key×Value)) (i:Nat) (xs:List (Key×Value)) (s:Shared) (j:Int) (u:Tok),i+ps.length=items.size->s.heap.IsListIter I l i->s.heap.IsList l items->s.heap.DictOf (mixKind P w) D xs->xs.length+ps.length≤sizeLine →
   (∀(m:Nat) e,ps[m]?=some e->∃v,items[i+m]?=some v/\PairAtK P w s.heap v e) →
   (∀s':Shared,(∀b o,b≠I->b≠D->s.heap.get? b=some o->s'.heap.get? b=some o)->s'.heap.DictOf (mixKind P w) D (putAllS xs ps)->(∃tk,s'={ s with heap:=s'.heap,toks:=tk })->R (.ok (.ret .none)) s') →
   codeAny (model P w) A (.builtin "dict.update.loop" ⟨[.ref D,.ref I,.int j u,.none],[]⟩) R s:=by
 have W:=Walks.list (prog:=P) (w:=w) (A:=A.in1) (by simpa using hh) I l X items;intro ps
 induction ps with
 |nil =>
  intro i xs s j u hi f O hd hz hp M
  have hi':i=items.size:=by simpa using hi
  subst hi';refine codeAny_builtin xAic ?_;rw[Around.under_plainId xAct _];show wpAny (model P w) A.in1 (pyNext (.ref I) >>= _) _ _ s;refine qa (W.done s _ _ ⟨f,O⟩ λh' tk H=>?_)
  have p:∀b o,b≠I->s.heap.get? b=some o->h'.get? b=some o:=λb o k e=>H b o (by simpa using k) e
  exact qa (qb (qb (M ⟨h',s.gens,s.drawn,tk,s.os⟩ (λb o h1 _ e=>p b o h1 e) (hd.at λo e=>p D o h e) ⟨tk,Y⟩)))
 |cons e ps ih =>
  intro i xs s j u hi f O hd hz hp M;refine codeAny_builtin xAic ?_;rw[Around.under_plainId xAct _];show wpAny (model P w) A.in1 (pyNext (.ref I) >>= _) _ _ s;refine qa (W.item i s _ _ (by rw[zc]at hi;omega) ⟨f,O⟩ λv h' tk hv st H=>?_)
  have p:∀b o,b≠I->s.heap.get? b=some o->h'.get? b=some o:=λb o k e=>H b o (by simpa using k) e
  have ts:=xAsy f p;obtain⟨v',g,pv⟩:=hp 0 e rfl
  have ev:v'=v:=by
   rw[je]at g;rw[hv]at g;exact(qC g).symm
  subst ev;have r:h'.DictOf (mixKind P w) D xs:=hd.at λo e=>p D o h e;have N:=pv.stay ts;obtain⟨b,Z,rfl,k,ge⟩:=id N
  have hT:Shared.TypeIs ⟨h',s.gens,s.drawn,tk,s.os⟩ (.ref b) "tuple":=by
   obtain⟨o,h1,h2,_⟩:=k;exact⟨o,h1,h2⟩
  obtain⟨ob,T,hb2,nb,G⟩:=id k
  have pr:∀{Q:List Value->Shared->Prop} {E:Value->Shared->Prop},Q [Z,e.2] ⟨h',s.gens,s.drawn,tk,s.os⟩->wpAny (model P w) A.in1 (Builtin.Dict.pairItems (.ref b)) Q E ⟨h',s.gens,s.drawn,tk,s.os⟩:=λ{Q E} q=>by
   unfold Builtin.Dict.pairItems;refine qa (wpAny_typeOf hT ?_);rw[qt (by decide)];exact qa (xAja T G (qb q))
  refine qa (qD (qa (wpAny_tryCatch (pr ?_))));refine qD (wpAny_dictSet_pairs (hsz:=by rw[zc]at hz;omega) ge r λh2 x d=>?_)
  have tD:Tst h' h2:=λb o B c=>(d.2 b (λz=>by
   obtain⟨o',_,_,J,t,_⟩:=r;rw[z,J]at B;cases B;rw[t.1]at c
   exact absurd c (by decide))).trans B
  refine qb ⟨plainId_quiet xAct _,ih (i+1) _ _ _ _ (by rw[zc]at hi;omega) ?_ ?_ x ?_ (λm J K=>?_) λs' hk' C S=>?_⟩
  ·obtain⟨o,h1,a,F⟩:=st.1
   exact⟨o,(d.2 I (λz=>h z.symm)).trans h1,a,F⟩
  ·obtain⟨o,h1,a,n,F⟩:=st.2
   exact⟨o,(d.2 l (λz=>U z.symm)).trans h1,a,n,F⟩
  ·have:=xAlt xs e.1 e.2
   rw[zc]at hz;omega
  ·obtain⟨v2,L,y⟩:=hp (m+1) J (by simpa using K)
   exact⟨v2,by rw[←L];congr 1;omega,(y.stay ts).stay tD⟩
  ·refine M s' (λb o h1 a t=>hk' b o h1 a ((d.2 b a).trans (p b o h1 t))) C ?_
   obtain⟨V,t⟩:=S;exact⟨V,by rw[t]⟩
def xAjd{s:Shared}{l:Addr}{items:Array Value}{n:Nat}{j:Array (Option Value)}{E:Value->Shared->Prop}{Q:Value->Shared->Prop}{ps:List (Key×Value)}(p:A.handled=none)(G:A.units+3<cLine)(k:s.heap.get? l=some { cls:=.type "list",dict:=none,data:=.seq items n,slots:=j })(hn:ps.length=items.size)(hz:ps.length≤sizeLine)(D:∀(m:Nat) e,ps[m]?=some e->∃v,items[m]?=some v/\PairAtK P w s.heap v e)(h:∀h' tk d,Ext s.heap h'->s.heap.objs.size≤d->h'.DictOf (mixKind P w) d (putAllS [] ps)->Q (.ref d) { s with heap:=h',toks:=tk }):wpAny (model P w) A (call (.type "dict") [.ref l]) Q E s:=by
 refine callType_codes (Q₁:=λobj c=>obj=.ref s.heap.objs.size/\c={ s with heap:=s.heap.push { cls:=.type "dict",data:=.dict #[] } }) F.kt_called_dict (F.kt_typeCall_dict_1 _) F.entry_dict_init (kt_code_dict_new _ ⟨Y,Y⟩) ?_;rintro obj c ⟨rfl,rfl⟩;have new:(s.heap.push { cls:=.type "dict",data:=.dict #[] }).DictOf (mixKind P w) s.heap.objs.size []:=Heap.DictOf.new _;have a:(s.heap.push { cls:=.type "dict",data:=.dict #[] }).get? l=some { cls:=.type "list",dict:=none,data:=.seq items n,slots:=j }:=qA _ k;have t:Shared.TypeIs { s with heap:=s.heap.push { cls:=.type "dict",data:=.dict #[] } } (.ref s.heap.objs.size) "dict":=Heap.DictOf.typeIs (s:={ s with heap:=s.heap.push { cls:=.type "dict",data:=.dict #[] } }) new;refine⟨t,F.args_dict_init_2 _ _,?_⟩;unfold Builtin.«dict.__init__»;refine qa ?_;unfold Builtin.Dict.selfAndRest;refine qa (wpAny_notOrdered_dict t (qb ?_));show wpAny (model P w) _ (Builtin.Dict.updateFrom "dict.__init__" s.heap.objs.size (.ref l) [] .none) _ _ _;unfold Builtin.Dict.updateFrom;refine qa (wpAny_typeOf (show Shared.TypeIs { s with heap:=s.heap.push { cls:=.type "dict",data:=.dict #[] } } (.ref l) "list" from⟨_,a,Y⟩) ?_);rw[qt (by decide)];refine qa (xAxa a (by simpa using p) λh1 t1 f=>?_);rw[qt (by rfl)];have g:h1.IsList l items:=⟨_,f _ _ a,Y,n,Y⟩;refine qa (wpAny_rule (qa (wpAny_pyIter_list g ?_)))
 have q:s.heap.objs.size<h1.objs.size:=by
  obtain⟨o,_,_,e,_⟩:=new;exact q0 (f _ _ e)
 have C:l<h1.objs.size:=q0 (f _ _ a);have x:l<s.heap.objs.size:=q0 k
 have r:∀b o,s.heap.get? b=some o->b≠h1.objs.size/\b≠s.heap.objs.size:=λb o e=>by
  have:=q0 e;exact⟨qg (wk this q),qg this⟩
 have i:Tst (s.heap.push { cls:=.type "dict",data:=.dict #[] }) (h1.push { cls:=.type "list_iterator",data:=.fields #[.ref l,.int 0 0] }):=λb o e _=>qA _ (f _ _ e);refine qb ⟨plainId_quiet xAct _,xAoy (A:=A.in1) (l:=l) (items:=items) (by simpa using p) (show A.units+1+1<cLine by omega) (Nat.ne_of_lt C) (Nat.ne_of_lt q) (Nat.ne_of_gt x) ps 0 [] _ _ _ (by rw[Nat.zero_add];exact hn) ⟨_,qB _ rfl,Y,Y⟩ (g.push _) (new.at λo e=>qA _ (f _ _ e)) (by simpa using hz) (λm e B=>?_) λs' y u hs=>?_⟩
 ·obtain⟨v,z,pv⟩:=D m e B
  exact⟨v,by rw[vm];exact z,(pv.stay (λb o e _=>qA _ e)).stay i⟩
 ·obtain⟨tk,es⟩:=hs
  rw[es]at u ⊢;exact⟨Y,h _ tk _ (λb o e=>y b o (r b o e).1 (r b o e).2 (qA _ (f _ _ (qA _ e)))) (qd _) u⟩
end
def PrsK(H:Hp):List V->List (Key×V)->Prop
 |[],[]=>True
 |y::ys,e::es=>(∃b,y=.ref b/\H b=some (.tup [kV e.1,e.2]))/\PrsK H ys es
 |_,_=>False
section
variable {X:Cx}{pins:List (Addr×Obj)}{σ:St}{H:Hp}{s:Shared}
def xArc(I:Inv X pins σ H s):∀{ys:List V} {us:List Value} {kvs:List (Key×V)},Vals ys us->PrsK H ys kvs->∃ps,KV kvs ps/\ps.length=us.length/\∀(m:Nat) e,ps[m]?=some e->∃v,us[m]?=some v/\PairAtK X.prog X.w s.heap v e
 |[],_,[],.nil,_=>⟨[],.nil,Y,λm e z=>by cases z⟩
 |[],_,_::_,.nil,h=>h.elim
 |_::_,_,[],.cons _ _,h=>h.elim
 |y::ys,_,e::es,.cons r t,h=>by
  obtain⟨⟨b,rfl,x⟩,h2⟩:=h;obtain⟨ps,p1,p2,q⟩:=xArc I t h2;cases r;obtain⟨l,c,⟨o,g,d,n,u⟩,_⟩:=I.tuple (SqT.of x);obtain⟨p,i,rfl,k,j⟩:=c.two;refine⟨(e.1,i)::ps,.cons ⟨Y,j⟩ p1,by rw[zc,zc,p2],λm f a=>?_⟩
  cases m with
  |zero =>
   cases a;exact⟨_,Y,b,p,Y,⟨o,g,d,n,u⟩,kV_is k⟩
  |succ m =>
   obtain⟨v,h1,h2⟩:=q m f (by simpa using a);exact⟨v,by simpa using h1,h2⟩
inductive IrDictK(xs:List V)(H:Hp)(Q:VK):Prop
 |mk (p:_) (ys:_) (kvs:_) (h0_:xs=[.ref p]) (h1_:SqL H p ys) (h2_:PrsK H ys kvs) (h3_:ys.length≤2000) (h4_:∀q H',H q=none->Same H H'->H' q=some (.dK (putAllK [] kvs))->Q (.ref q) H'):IrDictK xs H Q
def rDictK:List V->Hp->VK->Prop:=λxs H Q=>IrDictK xs H Q
def xAlu(B:X.A.handled=none)(w:X.A.units+3<cLine):CallR X (.type "dict") (rDictK):=by
 intro pins s σ H xs us Q I r h;obtain⟨p,ys,kvs,rfl,y,E,hz,q⟩:=h;obtain⟨u,rfl,D⟩:=vals1 r;cases D;obtain⟨C,c,⟨o,n,e,c1,c2,i⟩,_⟩:=I.list y;obtain⟨t,j,f,G⟩:=o;dsimp only at c1 c2 i;subst c1 c2 i;obtain⟨ps,p1,p2,k⟩:=xArc I c E;have J:=c.length
 have K:2000≤sizeLine:=by decide
 refine xAjd B w e (by rw[qz];exact p2) (by omega) (λm l a=>?_) λh' tk d x b g=>?_
 ·obtain⟨v,h1,h2⟩:=k m l a
  exact⟨v,by simpa using h1,h2⟩
 ·have fr:H d=none:=I.hok.fresh b
  have z:=xAjc kvs [];have F:=KV.length p1;refine⟨.ref d,upd H d (.dK (putAllK [] kvs)),I.laid x b ⟨?_,?_,_,xAif p1 .nil,g⟩,Y,q d _ fr (Same.new fr) xAac⟩
  ·rw[wu]at z
   omega
  ·exact beq_eq_false_iff_ne.mpr (Ne.symm (qg (qv I.big b)))
end
def tabP(K:PySem.W.Frag)(x:Str):Addr:=match tabIn K x with
 |some (_,P)=>P
 |none=>0
def tabC(K:PySem.W.Frag)(x:Str):Addr:=match tabIn K x with
 |some (c,_)=>c
 |none=>0
section
variable {X:Cx}{pins:List (Addr×Obj)}{σ:St}{H:Hp}{s:Shared}
def Inv.nstk(I:Inv X pins σ H s){b:Addr}(a:s.heap.objs.size≤b):b∉frs X.stack:=λc=>by
 rcases za.mp (I.stkSub b c) with z|z
 ·exact absurd (qv I.lt a) (by rw[z];exact zr _)
 ·exact I.nofs a z
end
def xAxc:∀{ds:List PyData},PyData.canLayAll0 ds=true->d∈ds->d.canLay0=true
 |e::ds,h,hm=>by
  have a:(e.canLay0&&PyData.canLayAll0 ds)=true:=h;rw[zd]at a;rcases za.mp hm with rfl|hm
  ·exact a.1
  ·exact xAxc a.2 hm
def KeysAre.sub{t:Nat}(h:KeysAre ds t)(p:∀x∈es,x∈ds):KeysAre es t :=
 ⟨xAbl λx f=>xAxc h.lay (p x f),λd c=>h.kind d (p d c),λa e b g=>h.one a (p a e) b (p b g),λd c=>h.deep d (p d c)⟩
section
variable {X:Cx}{tg:Expr}
def xAdk:fillsNumberSlot (.type "tuple") "mul"=pure false :=
 PySem.fillsNumberSlot_seq (id:="tuple.__mul__") (r:=some (.builtin "tuple.__rmul__")) F.slot_tuple_mul.lookup (by decide +kernel) F.slot_tuple_rmul.lookup (by decide +kernel)
def xAgm:seqRepeat? (.type "tuple")=pure (some (.builtin "tuple.__mul__")):=by
 unfold seqRepeat?;rw[PySem.seqSlot_of (name:="__mul__") F.slot_tuple_mul.lookup (by decide +kernel),PySem.seqSlot_of (T:="tuple") (name:="__rmul__") F.slot_tuple_rmul.lookup (by decide +kernel)];rfl
def xAtc(a:Int)(t:Tok)(l:Addr)(us:Array Value)(n:Nat)(dd:Option Addr)(b:Array (Option Value)) :
  Meets (Builtin.«int.__rmul__» ⟨[.int a t,.ref l],[]⟩) (λ_ R s=>s.heap.get? l=some { cls:=.type "tuple",dict:=dd,data:=.seq us n,slots:=b }/\R (.ok (.ret Value.notImplemented)) s) :=
 .of_wp λprog w A R s h=>by obtain⟨e,g,d,tk,f⟩:=s;obtain⟨c,h⟩:=h;wp_walk;exact⟨_,Y,h⟩
inductive IrCatU(x:V)(y:V)(H:Hp)(Q:VK):Prop
 |mk (a:_) (b:_) (xs:_) (ys:_) (h0_:x=.ref a) (h1_:y=.ref b) (h2_:H a=some (.tup xs)) (h3_:H b=some (.tup ys)) (h4_:xs≠[]) (h5_:xs.length+ys.length≤sizeLine) (h6_:∀p H',Same H H'->H' p=some (.tup (xs++ys))->Q (.ref p) H'):IrCatU x y H Q
def rCatU:R2:=λx y H Q=>IrCatU x y H Q
def xAxd:OpR X (binaryOp .Add) rCatU:=xAqi.imp λ_ _ H _ ⟨a,b,xs,ys,h1,h2,c,f,e,d,q⟩=>⟨a,b,xs,ys,h1,h2,SqT.of c,SqT.of f,e,d,λz=>q a H (Same.refl _) (by rw[z,vy];exact c),λ_ p g=>q p _ (Same.new g) xAac⟩
end
end L2
namespace My
open PySem L2 PyProof.Rows
def itT{A B:Prop}(h:c=true)(a:A):if c=true then A else B:=by rw[qt h];exact a
def itF{A B:Prop}(h:c=false)(b:B):if c=true then A else B:=by rw[qs (by rw[h];decide)];exact b
def xAcl{pv:List V}(h:r≤pv.length):cutV pv none (some (r:Int))=pv.take r:=by
 unfold cutV;rw[HT.sIx_nat,HT.sIx_none,yj]
 congr 1
 omega
def xAdl{pv:List V}(h:r≤pv.length):cutV pv (some (r:Int)) none=pv.drop r:=by
 unfold cutV;rw[HT.sIx_nat,HT.sIx_none,ju h];exact jb (by rw[zo];exact qd _)
def Rd.same(r:Rd H a u)(s:Same H H'):Rd H' a u:=by
 rcases r with r|⟨o,r⟩
 ·exact .inl (s _ _ r)
 ·exact .inr ⟨o,s _ _ r⟩
end My
namespace L2
open PySem PySem.Spec PySem.W PyProof.Rows
section
variable {prog:Program}{w:World}{A:Around}{E:Value->Shared->Prop}{s:Shared}
def xAtd(hs:(d==sysModules)=false)(e:s.heap.get? d=some od)(f:od.ExactDict)(b:od.data=.dict es ep)(g:Q (.ref s.heap.objs.size) { s with heap:=s.heap.push { cls:=.type "dict_keyiterator",data:=.fields #[.ref d,.int 0 0,.int es.size 0,.int ep 0] } }):wpAny (model prog w) A (pyIter (.ref d)) Q E s:=by
 have c:s.TypeIs (.ref d) "dict":=⟨od,e,f.1⟩;refine wpAny_pyIter_slot c F.slot_dict_iter (qH F.slot_dict_iter c F.entry_dict_iter ?_ (F.args_dict_iter_1 _));unfold Builtin.«dict.__iter__» Builtin.Dict.dictSlotNone;refine qa (qa (wpAny_notOrdered_dict c ?_));refine qb (a:=Value.ref d) ?_;show wpAny _ _ (Builtin.Dict.showsAll d >>= _) _ _ s;unfold Builtin.Dict.showsAll;rw[qs (by rw[hs];decide)];refine qa (qb (qa (wpAny_dictEntries e b (qa (wpAny_dictEpoch e b ?_)))));exact qa (wpAny_newObj_type (qb ⟨_,Y,"dict_keyiterator",_,⟨_,qB _ rfl,Y⟩,F.slot_dict_keyiterator_next.lookup,by simpa[rawInt] using g⟩))
def xAlv(l:A.handled=none)(c:s.heap.IsKeyIter it d i n ep)(g:s.heap.get? d=some od)(f:od.data=.dict es ep)(hn:es.size=n)(h1:∀(hi:i<es.size) h',h'.IsKeyIter it d (i+1) n ep->Heap.SameBut it s.heap h'->Q (some es[i].key) { s with heap:=h' })(h2:es.size≤i->∀h',Heap.ExtBut it s.heap h'->Q none { s with heap:=h' }):wpAny (model prog w) A (pyNext (.ref it)) Q E s:=by
 obtain⟨o,k,p,j⟩:=id c;subst hn;unfold pyNext
 refine qa (wpAny_attempt (wpAny_callSpecial?_slot (name:=Str.ofString "__next__") c.typeIs F.slot_dict_keyiterator_next
  (qH F.slot_dict_keyiterator_next c.typeIs F.entry_dict_keyiterator_next ?_ (F.args_dict_keyiterator_next_1 _))))
 refine qa (qb (qa (qa ?_)))
 first|refine qa (wpAny_typeNameOfWhole_keyiter c.typeIs (qb ?_))|refine qa (wpAny_typeNameOf_keyiter c.typeIs (qb ?_))
 refine qa (wpAny_fieldsOf k j ?_)
 simp only[show Builtin.Dict_items.ownsTuple "dict_keyiterator"=false by decide,Bool.false_eq_true,if_false]
 show wpAny _ _ (if(Value.ref d==Value.none)=true then _ else _) _ _ s;rw[qs (show ¬((Value.ref d==Value.none)=true) from qr)];refine qa (qb (qa (wpAny_dictEntries g f ?_)));rw[qs (by simp)];refine qa (qb (qa (wpAny_dictEpoch g f ?_)));rw[qs (by simp)];refine qb ?_
 by_cases hi:i<es.size
 ·simp only[show ¬((i:Int)<0) from by omega,if_false,Int.toNat_natCast,Array.getElem?_eq_getElem hi]
  refine qa ?_
  first|refine qa (wpAny_typeNameOfWhole_keyiter c.typeIs (qb ?_))|refine qa (wpAny_typeNameOf_keyiter c.typeIs (qb ?_))
  refine qa (wpAny_isOneOf_keyiter c.typeIs ?_);show wpAny _ _ (setField (.ref it) 1 (rawInt ((i:Int)+1)) >>= _) _ _ s;refine qa (wpAny_setField k j (by simp) ?_)
  have e:(s.heap.update it (Obj.mapFields (·.setIfInBounds 1 (rawInt ((i:Int)+1))))).IsKeyIter it d (i+1) es.size ep :=
   ⟨_,Heap.get?_update_self _ k (Obj.isFreed_of_fields (Obj.data_mapFields j _)),(Obj.cls_mapFields ..).trans p,by rw[Obj.data_mapFields j];simp[rawInt]⟩
  refine qa (qD (qa (wpAny_isOneOf_keyiter (s:={ s with heap:=s.heap.update it (Obj.mapFields (·.setIfInBounds 1 (rawInt ((i:Int)+1)))) }) e.typeIs ?_)));show wpAny _ _ (pure es[i].key) _ _ _;exact qb (qb ⟨_,Y,qb (h1 hi _ e (Heap.SameBut.update ..))⟩)
 ·have h:es.size≤i:=by omega
  simp only[show ¬((i:Int)<0) from by omega,if_false,Int.toNat_natCast,Array.getElem?_eq_none h]
  refine qa ?_
  first|refine qa (wpAny_typeNameOfWhole_keyiter c.typeIs (qb ?_))|refine qa (wpAny_typeNameOf_keyiter c.typeIs (qb ?_))
  show wpAny _ _ (setField (.ref it) 0 .none >>= _) _ _ s;refine qa (wpAny_setField k j (by simp) ?_);show wpAny _ _ (newExc (.type "StopIteration") [] >>= _) _ _ _;refine qa ?_
  simp only[newExc,newTuple]
  refine qa (wpAny_newObj_type ?_ (by size_fits));refine qa (m:=firstArgMember _ _) (wpAny_of_eq (a:=Value.none) (by first|rfl|(simp only[firstArgMember];rfl)) ?_);refine wpAny_newObj_type ?_ (by size_fits)
  simp only[raiseNew]
  refine qa (wpAny_handled ?_);rw[show A.in1.handled=none from l];refine qa (qb (wpAny_throw ?_));refine qa (wpAny_isInstance (T:="StopIteration") (b:=true) ⟨_,qB _ rfl,Y⟩ isSubtype_stop ?_);exact qb (h2 h _ (((Heap.SameBut.update ..).extBut.push _).push _))
end
def xAig{α β:Type}{F:α->β->Prop}:∀{l₁:List α} {a:List β},Paired F l₁ a->∀(i:Nat) (h1:i<l₁.length) (h2:i<a.length),F l₁[i] a[i]
 |_,_,.cons r _,0,_,_=>r
 |_,_,.cons _ t,i+1,h1,h2=>xAig t i (jf h1) (jf h2)
section
variable {X:Cx}{pins:List (Addr×Obj)}{σ:St}{H:Hp}{s:Shared}
def Inv.freezeG(I:Inv X pins σ H s)(e:H a=some (.dG kvs))(j:s.heap.get? a=some o):Inv X pins σ (upd H a (.frz o (.dG kvs))) s:=by
 refine I.un (t':=s.toks) (h':=s.heap) ⟨λb f q _ _ _=>q,λb f q _ _ _=>⟨f.slots,q⟩,λb f q n _=>?_,λb f q _=>⟨f,q⟩,λb xs q=>?_,λb f u q=>?_,λb ps q=>?_,λb f xs q n=>q⟩ λb u q=>?_
 ·rw[xAaf (λz=>by rw[z,e]at n;cases n)];exact n
 ·rw[xAaf (λz=>by rw[z,e]at q;cases q)];exact q
 ·rw[xAaf (λz=>by rw[z,e]at q;cases q)];exact q
 ·exact⟨#[],by rw[xAaf (λz=>by rw[z,e]at q;cases q),q];simp⟩
 ·have g:∀c {d:Addr},H c=some (.own d)->(upd H a (.frz o (.dG kvs))) c=some (.own d):=λc d q=>by rw[xAaf (λz=>by rw[z,e]at q;cases q)];exact q
  have h:∀c xs,H c=some (.tup xs)->(upd H a (.frz o (.dG kvs))) c=some (.tup xs):=λc xs q=>by rw[xAaf (λz=>by rw[z,e]at q;cases q)];exact q
  by_cases i:b=a
  ·subst i
   rw[xAac]at q;cases q;exact⟨j,(show ObjOk X.prog X.w H s.heap b (.dG kvs) from I.hok b _ e).stay (λ_ _ _ q=>q) (λc q=>g c q) h⟩
  ·rw[xAaf i]at q
   exact(I.hok b u q).stay (λ_ _ _ q=>q) (λc q=>g c q) h
end
def xAxe{xa:List (KD×Value×Value)}(h:Paired (GP H) b xa):Vals (b.map (·.2.2)) (xa.map (·.2.2))/\xa.map (·.1)=b.map (·.1):=by
 induction h with
 |nil=>exact⟨.nil,Y⟩
 |cons a _ c=>exact⟨.cons a.2.2.2 c.1,by rw[zh,zh,c.2,a.1]⟩
section
variable {prog:Program}{w:World}{A:Around}{E:Value->Shared->Prop}{s:Shared}
def xAoz(p:A.handled=none)(m:it≠d)(a:od.data=.dict es ep) :
  WalksS prog w A it [it,d] [it] Eq es.size (λj v=>(es[j]?).map (·.key)=some v) (λi s=>s.heap.IsKeyIter it d i es.size ep/\s.heap.get? d=some od) where
 sub:=λb l=>by rw[qu.mp l];exact ql
 grefl:=λ_=>rfl
 gtrans:=λ_ _ _ h1 h2=>h1.trans h2
 frame:=λi s h' tk ⟨⟨o,e,c,dd⟩,g⟩ _ k=>⟨⟨o,k it ql o e,c,dd⟩,k d (qw _ ql) od g⟩
 item:=λi s Q E hi ⟨st,g⟩ k=>xAlv p st g a rfl (λf h' n q=>k _ _ (by rw[qp f];rfl) ⟨n,(q.2 d m.symm).trans g⟩ ⟨λb o l e=>(q.2 b (λz=>l (by rw[z];exact ql))).trans e,Y,Y,Y,qd _⟩) λz=>absurd hi (by omega)
 done:=λs Q E ⟨st,g⟩ k=>xAlv p st g a rfl (λf=>absurd f (by omega)) λ_ h' r=>k _ ⟨λb o l e=>r b o (λz=>l (by rw[z];exact ql)) e,Y,Y,Y,qd _⟩
 self:=λi s Q E ⟨st,_⟩ h=>wpAny_pyIter_keyiter st h
def xAlw{es:Array DictEntry}{a:Array Value}(h:ItemsOf (λj v=>(es[j]?).map (·.key)=some v) a es.size):a.toList=es.toList.map (·.key):=by
 apply zy;intro j
 by_cases b:j<a.size
 ·have c:j<es.size:=by rw[←h.1];exact b
  have:=h.2 j a[j] (qp b);rw[zf,qp b,qi,zf];exact this.symm
 ·have c:¬j<es.size:=by rw[←h.1];exact b
  rw[wo (by rw[qx];omega),wo (by rw[qc,qx];omega)]
end
def Inv.moved{X:Cx}{pins:List (Addr×Obj)}{σ:St}{H:Hp}{s s':Shared}(I:Inv X pins σ H s)(m:Moved [] Eq s s'):Inv X pins σ H s':=by
 have e:s'={ s with heap:=s'.heap,toks:=s'.toks }:=by
  obtain⟨h1,h2,a,c,d⟩:=m;cases s;cases s';cases h2;cases a;cases c;rfl
 rw[e]
 exact I.kept (t':=s'.toks) λb o q=>m.heap b o (by simp) q
section
variable {X:Cx}
def xAxf{xa:List (KD×Value×Value)}(h:Paired (GP H) b xa):Vals (b.map (·.2.1)) (xa.map (·.2.1)):=by
 induction h with
 |nil=>exact .nil
 |cons a _ c=>exact .cons a.2.2.1 c
end
section
variable {prog:Program}{w:World}{A:Around}{E:Value->Shared->Prop}{s:Shared}
def xAfi(hs:(d==sysModules)=false)(b:s.heap.get? d=some od)(c:od.ExactDict)(e:Q (.ref s.heap.objs.size) { s with heap:=s.heap.push { cls:=.type "dict_values",data:=.fields #[.ref d] } }):wpAny (model prog w) A (call (.builtin "dict.values") [.ref d]) Q E s:=by
 have a:s.TypeIs (.ref d) "dict":=⟨od,b,c.1⟩;refine qH F.slot_dict_values a F.entry_dict_values ?_ (F.args_dict_values_1 _);unfold Builtin.«dict.values»;refine qa ?_;unfold Builtin.Dict.noArgs;refine qa (wpAny_notOrdered_dict a ?_);show wpAny _ _ (pure d) _ _ s;refine qb ?_;show wpAny _ _ (Builtin.Dict.showsAll d >>= _) _ _ s;unfold Builtin.Dict.showsAll;rw[qs (by rw[hs];exact qr)];refine qa (qb ?_);exact qa (wpAny_newObj_type (qb ⟨_,Y,e⟩))
def xAed(f:s.heap.IsValuesView v d)(g:s.heap.get? d=some od)(a:od.data=.dict es ep)(i:Q (.ref s.heap.objs.size) { s with heap:=s.heap.push { cls:=.type "dict_valueiterator",data:=.fields #[.ref d,.int 0 0,.int es.size 0,.int ep 0] } }) :
  wpAny (model prog w) A (pyIter (.ref v)) Q E s:=by
 obtain⟨j,c,h,e⟩:=id f;refine wpAny_pyIter_slot f.typeIs F.slot_dict_values_iter (qH F.slot_dict_values_iter f.typeIs F.entry_dict_values_iter ?_ (F.args_dict_values_iter_1 _));unfold Builtin.«dict_values.__iter__»;refine qa (qb ?_);refine qa ?_;unfold Builtin.Dict_items.dictOf;refine qa (wpAny_field c e (x:=.ref d) rfl (qb ?_));refine qa ?_;unfold Builtin.Dict_items.newIterator;refine qa (wpAny_dictEntries g a ?_);refine qa (wpAny_dictEpoch g a ?_)
 have b:Builtin.Dict_items.ownsTuple "dict_valueiterator"=false:=by decide
 simp only[b,Bool.false_eq_true,if_false]
 refine wpAny_newObj_type (qb ⟨_,Y,"dict_valueiterator",_,⟨_,qB _ rfl,Y⟩,F.slot_dict_valueiterator_next.lookup,?_⟩);simpa[rawInt] using i
def xAbx(l:A.handled=none)(c:s.heap.IsValIter it d i n ep)(g:s.heap.get? d=some od)(f:od.data=.dict es ep)(hn:es.size=n)(h1:∀(hi:i<es.size) h',h'.IsValIter it d (i+1) n ep->Heap.SameBut it s.heap h'->Q (some es[i].val) { s with heap:=h' })(h2:es.size≤i->∀h',Heap.ExtBut it s.heap h'->Q none { s with heap:=h' }):wpAny (model prog w) A (pyNext (.ref it)) Q E s:=by
 obtain⟨o,k,p,j⟩:=id c;subst hn;unfold pyNext
 refine qa (wpAny_attempt (wpAny_callSpecial?_slot (name:=Str.ofString "__next__") c.typeIs F.slot_dict_valueiterator_next
  (qH F.slot_dict_valueiterator_next c.typeIs F.entry_dict_valueiterator_next ?_ (F.args_dict_valueiterator_next_1 _))))
 refine qa (qb (qa (qa ?_)))
 first|refine qa (wpAny_typeNameOfWhole_valiter c.typeIs (qb ?_))|refine qa (wpAny_typeNameOf_valiter c.typeIs (qb ?_))
 refine qa (wpAny_fieldsOf k j ?_)
 simp only[show Builtin.Dict_items.ownsTuple "dict_valueiterator"=false by decide,Bool.false_eq_true,if_false]
 show wpAny _ _ (if(Value.ref d==Value.none)=true then _ else _) _ _ s;rw[qs (show ¬((Value.ref d==Value.none)=true) from qr)];refine qa (qb (qa (wpAny_dictEntries g f ?_)));rw[qs (by simp)];refine qa (qb (qa (wpAny_dictEpoch g f ?_)));rw[qs (by simp)];refine qb ?_
 by_cases hi:i<es.size
 ·simp only[show ¬((i:Int)<0) from by omega,if_false,Int.toNat_natCast,Array.getElem?_eq_getElem hi]
  refine qa ?_
  first|refine qa (wpAny_typeNameOfWhole_valiter c.typeIs (qb ?_))|refine qa (wpAny_typeNameOf_valiter c.typeIs (qb ?_))
  refine qa (wpAny_isOneOf_valiter c.typeIs ?_);show wpAny _ _ (setField (.ref it) 1 (rawInt ((i:Int)+1)) >>= _) _ _ s;refine qa (wpAny_setField k j (by simp) ?_)
  have e:(s.heap.update it (Obj.mapFields (·.setIfInBounds 1 (rawInt ((i:Int)+1))))).IsValIter it d (i+1) es.size ep :=
   ⟨_,Heap.get?_update_self _ k (Obj.isFreed_of_fields (Obj.data_mapFields j _)),(Obj.cls_mapFields ..).trans p,by rw[Obj.data_mapFields j];simp[rawInt]⟩
  refine qa (qD ?_);refine qa (wpAny_isOneOf_valiter (s:={ s with heap:=s.heap.update it (Obj.mapFields (·.setIfInBounds 1 (rawInt ((i:Int)+1)))) }) e.typeIs ?_);refine qa (wpAny_isOneOf_valiter (s:={ s with heap:=s.heap.update it (Obj.mapFields (·.setIfInBounds 1 (rawInt ((i:Int)+1)))) }) e.typeIs ?_);show wpAny _ _ (pure es[i].val) _ _ _;exact qb (qb ⟨_,Y,qb (h1 hi _ e (Heap.SameBut.update ..))⟩)
 ·have h:es.size≤i:=by omega
  simp only[show ¬((i:Int)<0) from by omega,if_false,Int.toNat_natCast,Array.getElem?_eq_none h]
  refine qa ?_
  first|refine qa (wpAny_typeNameOfWhole_valiter c.typeIs (qb ?_))|refine qa (wpAny_typeNameOf_valiter c.typeIs (qb ?_))
  show wpAny _ _ (setField (.ref it) 0 .none >>= _) _ _ s;refine qa (wpAny_setField k j (by simp) ?_);show wpAny _ _ (newExc (.type "StopIteration") [] >>= _) _ _ _;refine qa ?_
  simp only[newExc,newTuple]
  refine qa (wpAny_newObj_type ?_ (by size_fits));refine qa (m:=firstArgMember _ _) (wpAny_of_eq (a:=Value.none) (by first|rfl|(simp only[firstArgMember];rfl)) ?_);refine wpAny_newObj_type ?_ (by size_fits)
  simp only[raiseNew]
  refine qa (wpAny_handled ?_);rw[show A.in1.handled=none from l];refine qa (qb (wpAny_throw ?_));refine qa (wpAny_isInstance (T:="StopIteration") (b:=true) ⟨_,qB _ rfl,Y⟩ isSubtype_stop ?_);exact qb (h2 h _ (((Heap.SameBut.update ..).extBut.push _).push _))
def xAte:isSubtype (.type "dict_values") (.type "dict_values")=pure true:=by rw[isSubtype_type];kernel_rfl
def xAbt:entryFor table "dict_valueiterator.__iter__"=some Builtin.«dict_keyiterator.__iter__»:=entryFor_alias (id':="dict_keyiterator.__iter__") (by kernel_rfl) rfl (by decide +kernel) (by kernel_rfl)
def xApa(p:A.handled=none)(m:it≠d)(a:od.data=.dict es ep) :
  WalksS prog w A it [it,d] [it] Eq es.size (λj v=>(es[j]?).map (·.val)=some v) (λi s=>s.heap.IsValIter it d i es.size ep/\s.heap.get? d=some od) where
 sub:=λb l=>by rw[qu.mp l];exact ql
 grefl:=λ_=>rfl
 gtrans:=λ_ _ _ h1 h2=>h1.trans h2
 frame:=λi s h' tk ⟨⟨o,e,c,dd⟩,g⟩ _ k=>⟨⟨o,k it ql o e,c,dd⟩,k d (qw _ ql) od g⟩
 item:=λi s Q E hi ⟨st,g⟩ k=>xAbx p st g a rfl (λf h' n q=>k _ _ (by rw[qp f];rfl) ⟨n,(q.2 d m.symm).trans g⟩ ⟨λb o l e=>(q.2 b (λz=>l (by rw[z];exact ql))).trans e,Y,Y,Y,qd _⟩) λz=>absurd hi (by omega)
 done:=λs Q E ⟨st,g⟩ k=>xAbx p st g a rfl (λf=>absurd f (by omega)) λ_ h' r=>k _ ⟨λb o l e=>r b o (λz=>l (by rw[z];exact ql)) e,Y,Y,Y,qd _⟩
 self:=λi s Q E ⟨st,_⟩ h=>by
  refine wpAny_pyIter_slot st.typeIs F.slot_dict_valueiterator_iter (qH F.slot_dict_valueiterator_iter st.typeIs xAbt ?_ (F.args_dict_valueiterator_iter_1 _));show wpAny _ _ (ret (.ref _)) _ _ s;exact qb ⟨_,Y,"dict_valueiterator",_,st.typeIs,F.slot_dict_valueiterator_next.lookup,h⟩
def xAlx{es:Array DictEntry}{a:Array Value}(h:ItemsOf (λj v=>(es[j]?).map (·.val)=some v) a es.size):a.toList=es.toList.map (·.val):=by
 apply zy;intro j
 by_cases b:j<a.size
 ·have c:j<es.size:=by rw[←h.1];exact b
  have:=h.2 j a[j] (qp b);rw[zf,qp b,qi,zf];exact this.symm
 ·have c:¬j<es.size:=by rw[←h.1];exact b
  rw[wo (by rw[qx];omega),wo (by rw[qc,qx];omega)]
end
section
variable {prog:Program}{w:World}{A:Around}{E:Value->Shared->Prop}{s:Shared}
def nx_tup{it t:Addr}(a:s.heap.IsTupleIter it t i)(g:s.heap.IsTuple t items)(f:items[i]?=some x)(j:∀h',h'.IsTupleIter it t (i+1)->Heap.SameBut it s.heap h'->Q x { s with heap:=h' }):wpAny (model prog w) A (Builtin.SmallTypes.nextOf (.ref it)) Q E s:=by
 obtain⟨⟨o,c,h,b⟩,⟨l,e,_,k,d⟩⟩:=And.intro (id a) g;unfold Builtin.SmallTypes.nextOf;refine qa (wpAny_callSpecial?_slot a.typeIs F.slot_tuple_iterator_next (qH F.slot_tuple_iterator_next a.typeIs F.entry_tuple_iterator_next ?_ (F.args_tuple_iterator_next_1 _)));show wpAny _ _ (field (.ref it) 0 >>= _) _ _ s;refine qa (wpAny_field c b (x:=.ref t) rfl ?_);show wpAny _ _ (if(Value.ref t==Value.none)=true then _ else _) _ _ s;rw[qs (λz:(Value.ref t==Value.none)=true=>qr z)];show wpAny _ _ (field (.ref it) 1 >>= _) _ _ s;refine qa (wpAny_field c b (x:=.int i 0) rfl ?_);show wpAny _ _ (seqItems? (.ref t) >>= _) _ _ s;refine qa (wpAny_seqItems e d ?_)
 simp only[Int.toNat_natCast,f]
 refine qa (wpAny_setField c b (by simp) (qb ⟨x,Y,qb (j _ ⟨_,Heap.get?_update_self _ c (Obj.isFreed_of_fields (Obj.data_mapFields b _)),(Obj.cls_mapFields ..).trans h,?_⟩ (Heap.SameBut.update ..))⟩));rw[Obj.data_mapFields b]
 simp[rawInt]
def xAxg{it t:Addr}(k:A.handled=none)(b:s.heap.IsTupleIter it t i)(j:s.heap.IsTuple t items)(h:items[i]?=none)(l:∀h' e,Heap.ExtBut it s.heap h'->(∃o,h'.get? e=some o/\o.cls=.type "StopIteration")->E (.ref e) { s with heap:=h' }):wpAny (model prog w) A (Builtin.SmallTypes.nextOf (.ref it)) Q E s:=by
 obtain⟨⟨o,g,p,f⟩,⟨q,d,_,n,c⟩⟩:=And.intro (id b) j;unfold Builtin.SmallTypes.nextOf;refine qa (wpAny_callSpecial?_slot b.typeIs F.slot_tuple_iterator_next (qH F.slot_tuple_iterator_next b.typeIs F.entry_tuple_iterator_next ?_ (F.args_tuple_iterator_next_1 _)));show wpAny _ _ (field (.ref it) 0 >>= _) _ _ s;refine qa (wpAny_field g f (x:=.ref t) rfl ?_);show wpAny _ _ (if(Value.ref t==Value.none)=true then _ else _) _ _ s;rw[qs (λz:(Value.ref t==Value.none)=true=>qr z)];show wpAny _ _ (field (.ref it) 1 >>= _) _ _ s;refine qa (wpAny_field g f (x:=.int i 0) rfl ?_);show wpAny _ _ (seqItems? (.ref t) >>= _) _ _ s;refine qa (wpAny_seqItems d c ?_)
 simp only[Int.toNat_natCast,h]
 refine qa (wpAny_rule (qa (wpAny_setField g f (by simp) ?_)));show wpAny _ _ (newExc (.type "StopIteration") [] >>= _) _ _ _;refine qa ?_
 simp only[newExc,newTuple]
 refine qa (wpAny_newObj_type (qa (m:=firstArgMember _ _) (wpAny_of_eq (a:=Value.none) (by first|rfl|(simp only[firstArgMember];rfl)) (wpAny_newObj_type ?_ (by size_fits)))) (by size_fits))
 simp only[raiseNew]
 refine qa (wpAny_handled ?_);rw[show A.in1.handled=none from k];refine qa (qb (wpAny_throw (l _ _ (((Heap.SameBut.update ..).extBut.push _).push _) ⟨_,qB _ rfl,Y⟩)))
def dr_tup(g:A.handled=none)(it t:Addr)(c:t≠it)(items:Array Value):Draws prog w A it [it,t] items.size (λi v=>items[i]?=some v) (λi h=>h.IsTupleIter it t i/\h.IsTuple t items) where
 live:=λ_ _ ⟨⟨o,e,_⟩,_⟩=>⟨o,e⟩
 frame:=λ_ _ _ ⟨⟨o,e,r⟩,⟨o2,d,f⟩⟩ k=>⟨⟨o,k it ql o e,r⟩,⟨o2,k t (qw _ ql) o2 d,f⟩⟩
 item:=λi s Q E hi st l=>nx_tup st.1 st.2 (x:=items[i]) (qp hi) λh' a b=>l _ h' s.toks (qp hi) ⟨a,st.2.extBut b.extBut c⟩ b
 done:=λs Q E st j=>xAxg g st.1 st.2 (by simp) j
structure Zap(z TI TO i1 i2:Addr)(f1 f2:List Addr):Prop where
 t1:TI≠z
 t2:TI≠TO
 t3:TI≠i1
 t4:TI≠i2
 o1:TO≠z
 o2:TO≠i1
 o3:TO≠i2
 a1:i1≠z
 a2:i2≠z
 a3:i1≠i2
 g1:∀b∈f1,b≠z/\b≠TO/\b≠i2
 g2:∀b∈f2,b≠z/\b≠TO/\b≠i1
variable {z TI TO i1 i2:Addr}{f1 f2:List Addr}{n1 n2 k1 k2:Nat}{P1 P2:Nat->Value->Prop}{S1 S2:Nat->Heap->Prop}{a b:Value}
def xApb{Q:Value->Shared->Prop}(F:Draws prog w A i1 f1 n1 P1 S1)(D:Draws prog w A i2 f2 n2 P2 S2)(Z:Zap z TI TO i1 i2 f1 f2)(hz:IsZip s.heap z TI TO .none)(G:IsPair s.heap TI (.ref i1) (.ref i2))(M:IsPair s.heap TO a b)(h1:k1<n1)(h2:k2<n2)(T:S1 k1 s.heap)(L:S2 k2 s.heap)(hQ:∀x y h' tk,P1 k1 x->P2 k2 y->IsZip h' z TI TO (rawInt s.heap.objs.size)->IsPair h' TO x y->S1 (k1+1) h'->S2 (k2+1) h'->IsPair h' s.heap.objs.size x y->(∀c o,c≠z->c≠TO->c≠i1->c≠i2->s.heap.get? c=some o->h'.get? c=some o)->Q (.ref s.heap.objs.size) { s with heap:=h',toks:=tk }) :
  wpAny (model prog w) A (Builtin.«zip.__next__» ⟨[.ref z],[]⟩) (λI s'=>∃v,I=.done (.ret v)/\Q v s') E s:=by
 show wpAny _ _ (field (.ref z) 2 >>= _) _ _ _;refine qa (wpAny_field hz rfl (x:=.bool false) rfl ?_);show wpAny _ _ (field (.ref z) 3 >>= _) _ _ _;refine qa (wpAny_field hz rfl (x:=.ref TI) rfl (qa (wpAny_seqItems G rfl ?_)));show wpAny _ _ (Builtin.SmallTypes.ownedTupleIsFree (.ref z) >>= _) _ _ _;refine qa ?_;unfold Builtin.SmallTypes.ownedTupleIsFree;refine qa (wpAny_field hz rfl (x:=.none) rfl (qb ?_))
 simp only[if_true]
 refine qa (wpAny_rule (qa (wpAny_field hz rfl (x:=.ref TO) rfl (qa (wpAny_setField_rec hz (by simp) λH1 k u=>qa ?_)))));have k:IsZip H1 z TI TO .ellipsis:=k
 simp only[List.zipIdx_cons,List.zipIdx_nil,List.forIn_cons,List.forIn_nil]
 refine qa (qa (wpAny_onRaise ?_));show wpAny _ _ (Builtin.SmallTypes.nextOf (.ref i1) >>= _) _ _ _;refine qa (F.item k1 _ _ _ h1 (F.frame _ _ _ T λc d o e=>u.extBut c o (Z.g1 c d).1 e) λx H2 tk px N p=>qb ?_);have n:IsPair H2 TO a b:=p.extBut _ _ Z.o2 (u.extBut _ _ Z.o1 M);refine qa (wpAny_seqItems n rfl (qa (wpAny_updateSeq_pair n λX j l=>qa (wpAny_letGo (qb ?_)))));have j:IsPair X TO x b:=j;refine qa (qa (wpAny_onRaise ?_));show wpAny _ _ (Builtin.SmallTypes.nextOf (.ref i2) >>= _) _ _ _;have K:S2 k2 X:=D.frame _ _ _ L λc d o e=>l.extBut c o (Z.g2 c d).2.1 (p.extBut c o (Z.g2 c d).2.2 (u.extBut c o (Z.g2 c d).1 e));refine qa (D.item k2 _ _ _ h2 K λy H4 tk2 py H B=>qb ?_);have q:IsPair H4 TO x b:=B.extBut _ _ Z.o3 j;refine qa (wpAny_seqItems q rfl (qa (wpAny_updateSeq_pair q λf h m=>qa (wpAny_letGo (qb (qb ?_))))));have h:IsPair f TO x y:=h;refine qa (wpAny_seqItems h rfl (qa (wpAny_newTuple ?_)))
 have sz:f.objs.size=s.heap.objs.size:=by rw[m.1,B.1,l.1,p.1,u.1]
 have t:IsZip f z TI TO .ellipsis:=m.extBut _ _ Z.o1.symm (B.extBut _ _ Z.a2.symm (l.extBut _ _ Z.o1.symm (p.extBut _ _ Z.a1.symm k)));have k5:∀c o,c≠z->c≠TO->c≠i1->c≠i2->s.heap.get? c=some o->f.get? c=some o:=λc o c1 c2 O P e=>m.extBut _ _ c2 (B.extBut _ _ P (l.extBut _ _ c2 (p.extBut _ _ O (u.extBut _ _ c1 e))));have R:S1 (k1+1) f:=F.frame _ _ _ N λc d o e=>m.extBut c o (Z.g1 c d).2.1 (B.extBut c o (Z.g1 c d).2.2 (l.extBut c o (Z.g1 c d).2.1 e));have J:S2 (k2+1) f:=D.frame _ _ _ H λc d o e=>m.extBut c o (Z.g2 c d).2.1 e;have U:z<f.objs.size:=q0 t;show wpAny _ _ (Builtin.SmallTypes.ownedTupleHandOut (.ref z) (.ref f.objs.size) >>= _) _ _ _;refine qa ?_;unfold Builtin.SmallTypes.ownedTupleHandOut;have S:IsZip (f.push { cls:=.type "tuple",data:=.seq #[x,y] }) z TI TO .ellipsis:=qA _ t;refine qa (wpAny_setField_rec S (by simp) λH7 i V=>?_);have i:IsZip H7 z TI TO (rawInt f.objs.size):=i;refine wpAny_setField_rec i (by simp) λC g W=>?_;have g:IsZip C z TI TO (rawInt f.objs.size):=g;have up:∀c o,c≠z->f.get? c=some o->C.get? c=some o:=λc o c1 e=>W.extBut _ _ c1 (V.extBut _ _ c1 (qA _ e));have r:IsPair C f.objs.size x y:=W.extBut _ _ (zg U) (V.extBut _ _ (zg U) (qB _ rfl));rw[sz]at g r;refine qb ⟨_,Y,?_⟩;show Q (.ref f.objs.size) _;rw[sz];exact hQ x y C _ px py g (up _ _ Z.o1 h) (F.frame _ _ _ R λc d o e=>up c o (Z.g1 c d).1 e) (D.frame _ _ _ J λc d o e=>up c o (Z.g2 c d).1 e) r λc o c1 c2 O P e=>up c o c1 (k5 c o c1 c2 O P e)
def xAtf(G:Draws prog w A i1 f1 n1 P1 S1)(K:Draws prog w A i2 f2 n2 P2 S2)(Z:Zap z TI TO i1 i2 f1 f2)(hz:IsZip s.heap z TI TO .none)(t:IsPair s.heap TI (.ref i1) (.ref i2))(B:IsPair s.heap TO a b)(k:k1=n1\/(k1<n1/\k2=n2))(H:S1 k1 s.heap)(y:S2 k2 s.heap)(L:∀h' tk e,(∀c o,c≠z->c≠TO->c≠i1->c≠i2->s.heap.get? c=some o->h'.get? c=some o)->(∃o,h'.get? e=some o/\o.cls=.type "StopIteration")->E (.ref e) { s with heap:=h',toks:=tk }) :
  wpAny (model prog w) A (Builtin.«zip.__next__» ⟨[.ref z],[]⟩) Q E s:=by
 show wpAny _ _ (field (.ref z) 2 >>= _) _ _ _;refine qa (wpAny_field hz rfl (x:=.bool false) rfl ?_);show wpAny _ _ (field (.ref z) 3 >>= _) _ _ _;refine qa (wpAny_field hz rfl (x:=.ref TI) rfl (qa (wpAny_seqItems t rfl ?_)));show wpAny _ _ (Builtin.SmallTypes.ownedTupleIsFree (.ref z) >>= _) _ _ _;refine qa ?_;unfold Builtin.SmallTypes.ownedTupleIsFree;refine qa (wpAny_field hz rfl (x:=.none) rfl (qb ?_))
 simp only[if_true]
 refine qa (wpAny_rule (qa (wpAny_field hz rfl (x:=.ref TO) rfl (qa (wpAny_setField_rec hz (by simp) λH1 g n=>qa ?_)))));have g:IsZip H1 z TI TO .ellipsis:=g
 simp only[List.zipIdx_cons,List.zipIdx_nil,List.forIn_cons,List.forIn_nil]
 refine qa (qa (wpAny_onRaise ?_));show wpAny _ _ (Builtin.SmallTypes.nextOf (.ref i1) >>= _) _ _ _;have m:S1 k1 H1:=G.frame _ _ _ H λc j o e=>n.extBut c o (Z.g1 c j).1 e;rcases k with e1|⟨h1,e2⟩
 ·subst e1
  refine qa (G.done _ _ _ m λH2 e M k=>?_);obtain⟨C,d,f⟩:=k;have l:IsZip H2 z TI TO .ellipsis:=M _ _ Z.a1.symm g
  have u:e≠z:=λx=>by subst x;rw[l]at d;cases d;simp at f
  exact wpAny_setField_rec l (by simp) λF _ h=>L F _ e (λc o c1 _ D _ q=>h.extBut _ _ c1 (M _ _ D (n.extBut _ _ c1 q))) ⟨C,h.extBut _ _ u d,f⟩
 ·subst e2
  refine qa (G.item k1 _ _ _ h1 m λx H2 tk T O r=>qb ?_);have i:IsPair H2 TO a b:=r.extBut _ _ Z.o2 (n.extBut _ _ Z.o1 B);refine qa (wpAny_seqItems i rfl (qa (wpAny_updateSeq_pair i λF R h=>qa (wpAny_letGo (qb ?_)))));refine qa (qa (wpAny_onRaise ?_));show wpAny _ _ (Builtin.SmallTypes.nextOf (.ref i2) >>= _) _ _ _;have v:S2 k2 F:=K.frame _ _ _ y λc j o e=>h.extBut c o (Z.g2 c j).2.1 (r.extBut c o (Z.g2 c j).2.2 (n.extBut c o (Z.g2 c j).1 e));refine qa (K.done _ _ _ v λN e J k=>?_);obtain⟨C,d,f⟩:=k;have p:IsZip N z TI TO .ellipsis:=J _ _ Z.a2.symm (h.extBut _ _ Z.o1.symm (r.extBut _ _ Z.a1.symm g))
  have u:e≠z:=λx=>by subst x;rw[p]at d;cases d;simp at f
  exact wpAny_setField_rec p (by simp) λP _ I=>L P _ e (λc o c1 c2 D S q=>I.extBut _ _ c1 (J _ _ S (h.extBut _ _ c2 (r.extBut _ _ D (n.extBut _ _ c1 q))))) ⟨C,I.extBut _ _ u d,f⟩
def xApc(n:Draws prog w A.in1 i1 f1 n1 P1 S1)(q:Draws prog w A.in1 i2 f2 n2 P2 S2)(Z:Zap z TI TO i1 i2 f1 f2)(hz:IsZip s.heap z TI TO .none)(d:IsPair s.heap TI (.ref i1) (.ref i2))(f:IsPair s.heap TO a b)(h1:k1<n1)(h2:k2<n2)(g:S1 k1 s.heap)(e:S2 k2 s.heap)(r:∀x y h' tk,P1 k1 x->P2 k2 y->IsZip h' z TI TO (rawInt s.heap.objs.size)->IsPair h' TO x y->S1 (k1+1) h'->S2 (k2+1) h'->IsPair h' s.heap.objs.size x y->(∀c o,c≠z->c≠TO->c≠i1->c≠i2->s.heap.get? c=some o->h'.get? c=some o)->Q (some (.ref s.heap.objs.size)) { s with heap:=h',toks:=tk }) :
  wpAny (model prog w) A (pyNext (.ref z)) Q E s:=by
 have h:s.TypeIs (.ref z) "zip":=⟨_,hz,Y⟩;unfold pyNext;exact qa (wpAny_attempt (wpAny_callSpecial?_slot h F.slot_zip_next (qH F.slot_zip_next h F.entry_zip_next (xApb n q Z hz d f h1 h2 g e λx y h' tk p1 p2 p i k l m j=>qb (r x y h' tk p1 p2 p i k l m j)) (F.args_zip_next_1 _))))
def xApd(m:Draws prog w A.in1 i1 f1 n1 P1 S1)(p:Draws prog w A.in1 i2 f2 n2 P2 S2)(Z:Zap z TI TO i1 i2 f1 f2)(hz:IsZip s.heap z TI TO .none)(d:IsPair s.heap TI (.ref i1) (.ref i2))(g:IsPair s.heap TO a b)(j:k1=n1\/(k1<n1/\k2=n2))(h:S1 k1 s.heap)(f:S2 k2 s.heap)(q:∀h' tk,(∀c o,c≠z->c≠TO->c≠i1->c≠i2->s.heap.get? c=some o->h'.get? c=some o)->Q none { s with heap:=h',toks:=tk }) :
  wpAny (model prog w) A (pyNext (.ref z)) Q E s:=by
 have i:s.TypeIs (.ref z) "zip":=⟨_,hz,Y⟩;unfold pyNext;refine qa (wpAny_attempt (wpAny_callSpecial?_slot i F.slot_zip_next (qH F.slot_zip_next i F.entry_zip_next (xAtf m p Z hz d g j h f λh' tk e k ⟨o,n,l⟩=>?_) (F.args_zip_next_1 _))));exact qa (wpAny_isInstance (T:="StopIteration") (b:=true) ⟨o,n,l⟩ isSubtype_stop (qb (q h' tk k)))
end
abbrev itO(c:String)(l:Addr):Obj:={ cls:=.type c,data:=.fields #[.ref l,.int 0 0] }
abbrev zS1(c1:String)(h:Heap)(a:Addr):Heap:=h.push (itO c1 a)
abbrev zS2(c1 c2:String)(h:Heap)(b a:Addr):Heap:=(zS1 c1 h b).push (itO c2 a)
abbrev zS3(c1 c2:String)(h:Heap)(a b:Addr):Heap:=(zS2 c1 c2 h a b).push { cls:=.type "tuple",data:=.seq #[.ref h.objs.size,.ref (zS1 c1 h a).objs.size] }
abbrev zS4(c1 c2:String)(h:Heap)(b a:Addr):Heap:=(zS3 c1 c2 h b a).push { cls:=.type "tuple",data:=.seq #[.none,.none] }
abbrev zS5(c1 c2:String)(h:Heap)(b a:Addr):Heap:=(zS4 c1 c2 h b a).push { cls:=.type "zip",data:=.fields #[.none,.bool false,.bool false,.ref (zS2 c1 c2 h b a).objs.size,.ref (zS3 c1 c2 h b a).objs.size] }
def xApe(a b:Addr)(xs ys:Array Value):Meets (Builtin.«zip.__new__» ⟨[.type "zip",.ref a,.ref b],[]⟩) (λ_ R s=>s.heap.IsList a xs/\s.heap.IsTuple b ys ∧
      R (.ok (.ret (.ref (zS4 "list_iterator" "tuple_iterator" s.heap a b).objs.size))) { s with heap:=zS5 "list_iterator" "tuple_iterator" s.heap a b }) :=
 .of_wp λprog w A R s h=>by
  obtain⟨e,g,d,tk,c⟩:=s;obtain⟨a1,a2,h⟩:=h;have f:=sub_zip;have j:Heap.IsList (Shared.heap ⟨e,g,d,tk,c⟩) a xs:=a1;have i:Heap.IsTuple (Shared.heap ⟨e.push (itO "list_iterator" a),g,d,tk,c⟩) b ys:=Heap.IsTuple.push a2 _
  wp_walk using wpAny_pyIter_list j,wpAny_pyIter_tuple i
  exact⟨_,Y,h⟩
def xApf(a b:Addr)(xs ys:Array Value):Meets (Builtin.«zip.__new__» ⟨[.type "zip",.ref a,.ref b],[]⟩) (λ_ R s=>s.heap.IsTuple a xs/\s.heap.IsTuple b ys ∧
      R (.ok (.ret (.ref (zS4 "tuple_iterator" "tuple_iterator" s.heap a b).objs.size))) { s with heap:=zS5 "tuple_iterator" "tuple_iterator" s.heap a b }) :=
 .of_wp λprog w A R s h=>by
  obtain⟨e,g,d,tk,c⟩:=s;obtain⟨a1,a2,h⟩:=h;have f:=sub_zip;have j:Heap.IsTuple (Shared.heap ⟨e,g,d,tk,c⟩) a xs:=a1;have i:Heap.IsTuple (Shared.heap ⟨e.push (itO "tuple_iterator" a),g,d,tk,c⟩) b ys:=Heap.IsTuple.push a2 _
  wp_walk using wpAny_pyIter_tuple j,wpAny_pyIter_tuple i
  exact⟨_,Y,h⟩
section
variable {prog:Program}{w:World}{A:Around}{E:Value->Shared->Prop}{s:Shared}
def xApg{R1 R2:Heap->Prop}(M:Meets (Builtin.«zip.__new__» ⟨[.type "zip",.ref a,.ref b],[]⟩) (λ_ R s=>R1 s.heap/\R2 s.heap/\R (.ok (.ret (.ref (zS4 c1 c2 s.heap a b).objs.size))) { s with heap:=zS5 c1 c2 s.heap a b }))(r:R1 s.heap)(q:R2 s.heap)(h:∀h',IsZip h' (s.heap.objs.size+4) (s.heap.objs.size+2) (s.heap.objs.size+3) .none->IsPair h' (s.heap.objs.size+2) (.ref s.heap.objs.size) (.ref (s.heap.objs.size+1))->IsPair h' (s.heap.objs.size+3) .none .none →
   h'.get? s.heap.objs.size=some (itO c1 a)->h'.get? (s.heap.objs.size+1)=some (itO c2 b)->(∀c o,s.heap.get? c=some o->h'.get? c=some o)->Q (.ref (s.heap.objs.size+4)) { s with heap:=h' }) :
  wpAny (model prog w) A (call (.type "zip") [.ref a,.ref b]) Q E s:=by
 refine callType_new F.called_zip (by decide) (F.typeCall_zip_2 _ _) (F.newCall_zip_2 _ _) (λobj=>F.args_object_init_3 obj _ _) F.entry_zip_new M ⟨r,q,?_⟩;have i:(zS1 c1 s.heap a).objs.size=s.heap.objs.size+1:=Heap.size_push ..
 have g:(zS2 c1 c2 s.heap a b).objs.size=s.heap.objs.size+2:=by rw[Heap.size_push,i]
 have f:(zS3 c1 c2 s.heap a b).objs.size=s.heap.objs.size+3:=by rw[Heap.size_push,g]
 have m:(zS4 c1 c2 s.heap a b).objs.size=s.heap.objs.size+4:=by rw[Heap.size_push,f]
 have p:∀{h:Heap} {c:Addr} {o o':Obj},h.get? c=some o->(h.push o').get? c=some o:=λe=>qA _ e;have d:(zS5 c1 c2 s.heap a b).get? (zS4 c1 c2 s.heap a b).objs.size=some _:=qB _ rfl;have k:(zS5 c1 c2 s.heap a b).get? (zS3 c1 c2 s.heap a b).objs.size=some _:=p (qB _ rfl);have j:(zS5 c1 c2 s.heap a b).get? (zS2 c1 c2 s.heap a b).objs.size=some _:=p (p (qB _ rfl));have l:(zS5 c1 c2 s.heap a b).get? (zS1 c1 s.heap a).objs.size=some _:=p (p (p (qB _ rfl)));have n:(zS5 c1 c2 s.heap a b).get? s.heap.objs.size=some _:=p (p (p (p (qB _ rfl))));show _/\_;rw[g,f,m]at d;rw[i,g]at j;rw[f]at k;rw[i]at l;rw[m];exact⟨⟨_,d,Y⟩,h _ d j k n l λc o x=>p (p (p (p (p x))))⟩
end
def SqS(H:Hp)(t:Bool)(a:Addr)(xs:List V):Prop:=match t with|true=>SqT H a xs|false=>SqL H a xs
def oS(t:Bool)(h:Heap)(a:Addr)(xs:Array Value):Prop:=match t with|true=>h.IsTuple a xs|false=>h.IsList a xs
def iS(t:Bool)(h:Heap)(i a:Addr)(k:Nat):Prop:=match t with|true=>h.IsTupleIter i a k|false=>h.IsListIter i a k
def cS(t:Bool):String:=match t with|true=>"tuple_iterator" |false=>"list_iterator"
section
variable {X:Cx}{pins:List (Addr×Obj)}{σ:St}{H:Hp}{s:Shared}
def Inv.seqS{t:Bool}(I:Inv X pins σ H s)(h:SqS H t a xs):∃b:List Value,Vals xs b/\oS t s.heap a b.toArray/\a<s.heap.objs.size:=by
 cases t with
 |false =>
  obtain⟨b,r,p,_⟩:=I.list h;exact⟨b,r,p.isList,by obtain⟨_,e,_⟩:=p.isList;exact q0 e⟩
 |true =>
  obtain⟨b,r,p,_⟩:=I.tuple h;exact⟨b,r,p,by obtain⟨_,e,_⟩:=p;exact q0 e⟩
def Inv.seqS_inj{t:Bool}(I:Inv X pins σ H s)(h:SqS H t a xs)(h':SqS H t a ys):xs=ys:=by
 cases t with
 |false=>exact I.list_inj h h'
 |true=>exact I.tuple_inj h h'
end
def iS.obj{t:Bool}{k:Nat}(e:iS t h i a k):∃o,h.get? i=some o/\∀v,o.data≠.cell v:=by
 cases t <;> (obtain⟨o,e,_,d⟩:=e;exact⟨o,e,λv z=>by rw[d]at z;cases z⟩)
def iS.to{t:Bool}{k:Nat}(e:iS t h i a k)(kk:∀o,h.get? i=some o->h'.get? i=some o):iS t h' i a k:=by
 cases t <;> (obtain⟨o,e,r⟩:=e;exact⟨o,kk o e,r⟩)
def drS(b:A.handled=none)(t:Bool)(it l:Addr)(a:l≠it)(items:Array Value):Draws prog w A it [it,l] items.size (λi v=>items[i]?=some v) (λi h=>iS t h it l i/\oS t h l items):=by
 cases t with
 |false=>exact Draws.list b it l a items
 |true=>exact dr_tup b it l a items
def ItzS(t1 t2:Bool)(a b:Addr):It :=
 ⟨λi H=>∃xs ys x y,SqS H t1 a xs/\SqS H t2 b ys/\xs[i]?=some x/\ys[i]?=some y,
  λi H v H'=>∃p x y,H p=none/\(∀xs,SqS H t1 a xs->xs[i]?=some x)/\(∀ys,SqS H t2 b ys->ys[i]?=some y)/\v=.ref p/\H'=upd H p (.tup [x,y]),
  λi H=>∃xs ys,SqS H t1 a xs/\SqS H t2 b ys/\i=min xs.length ys.length⟩
def xAph{P:Program}{w:World}{K:PySem.W.Frag}{es:List Expr}{k:Nat}{tp:Pos}(t1 t2:Bool)(z TI TO i1 i2 a b:Addr)(n1:a≠i1)(n2:b≠i2)(Z:Zap z TI TO i1 i2 [i1,a] [i2,b]) :
  Turn P w K (.Tuple es k tp) (ItzS t1 t2 a b) [z,TI,TO,i1,i2] z (λi h=>IsZip h z TI TO .none/\IsPair h TI (.ref i1) (.ref i2)/\(∃u v,IsPair h TO u v)/\iS t1 h i1 a i/\iS t2 h i2 b i) where
 mem:=by simp
 obj:=λi h st c d=>by
  obtain⟨h1,h2,⟨u,v,r⟩,t,p⟩:=st
  simp only[List.mem_cons,List.not_mem_nil,or_false]at d
  rcases d with rfl|rfl|rfl|rfl|rfl
  ·exact⟨_,h1,λv z=>by cases z⟩
  ·exact⟨_,h2,λv z=>by cases z⟩
  ·exact⟨_,r,λv z=>by cases z⟩
  ·exact t.obj
  ·exact p.obj
 keep:=λi h h' st kk=>by
  obtain⟨h1,h2,⟨u,v,r⟩,t,p⟩:=st;exact⟨kk z (by simp) _ h1,kk TI (by simp) _ h2,⟨u,v,kk TO (by simp) _ r⟩,t.to λo q=>kk i1 (by simp) o q,p.to λo q=>kk i2 (by simp) o q⟩
 item:=by
  intro X Q hw O d i pins s σ H E I hf st M;subst Q hw O;obtain⟨xs,ys,x,y,n,m,hx,hy⟩:=M;obtain⟨f,N,p1,z1⟩:=I.seqS n;obtain⟨g,S,p2,z2⟩:=I.seqS m;obtain⟨u1,C,ru1⟩:=N.get hx;obtain⟨u2,hu2,U⟩:=S.get hy;obtain⟨h1,h2,⟨u,v,r⟩,t,p⟩:=st;have F:=I.ok.hd d;have V:=drS (prog:=X.prog) (w:=X.w) (A:=X.A.in1) F t1 i1 a n1 f.toArray;have R:=drS (prog:=X.prog) (w:=X.w) (A:=X.A.in1) F t2 i2 b n2 g.toArray
  have l1:i<f.toArray.size:=by have:=(List.getElem?_eq_some_iff.mp C).1;simpa using this
  have l2:i<g.toArray.size:=by have:=(List.getElem?_eq_some_iff.mp hu2).1;simpa using this
  refine xApc V R Z h1 h2 r l1 l2 ⟨t,p1⟩ ⟨p,p2⟩ λD B h' tk J G a1 a2 a3 a4 a5 a7=>?_
  have e1:D=u1:=by
   have J:f.toArray[i]?=some D:=J;rw[w6,C]at J;exact(qC J).symm
  have e2:B=u2:=by
   have G:g.toArray[i]?=some B:=G;rw[w6,hu2]at G;exact(qC G).symm
  subst e1 e2;refine⟨_,Y,wpAny_letOwnedTupleGo_zip (s:={ s with heap:=h',toks:=tk }) a1 λj b1 bs=>?_⟩
  have I1:Inv X pins σ H { s with heap:=j,toks:=tk }:=I.turnedN (t':=tk) hf λc o d q=>bs.extBut c o (λe=>d (by simp[e])) (a7 c o (λe=>d (by simp[e])) (λe=>d (by simp[e])) (λe=>d (by simp[e])) (λe=>d (by simp[e])) q)
  have T:z<s.heap.objs.size:=q0 h1;have eT:j.get? s.heap.objs.size=some { cls:=.type "tuple",data:=.seq #[D,B] }:=bs.extBut _ _ (zg T) a5;have nT:H s.heap.objs.size=none:=I.hok.fresh (qd _);have u4:∀o,h'.get? i1=some o->j.get? i1=some o:=λo q=>bs.extBut _ _ Z.a1 q;have u5:∀o,h'.get? i2=some o->j.get? i2=some o:=λo q=>bs.extBut _ _ Z.a2 q;refine⟨.ref s.heap.objs.size,upd H s.heap.objs.size (.tup [x,y]),I.track I1 (qd _) nT ⟨?_,[D,B],.cons ru1 (.cons U .nil),⟨_,eT,Y,_,Y⟩⟩,Y,⟨_,x,y,nT,λl L=>by rw[I.seqS_inj L n];exact hx,λl L=>by rw[I.seqS_inj L m];exact hy,Y,Y⟩,⟨b1,?_,⟨D,B,bs.extBut _ _ Z.o1 a2⟩,a3.1.to u4,a4.1.to u5⟩,λc d=>?_⟩
  ·show 2≤sizeLine
   decide
  ·exact bs.extBut _ _ Z.t1 (a7 _ _ Z.t1 Z.t2 Z.t3 Z.t4 h2)
  ·obtain⟨o,q⟩:∃o,s.heap.get? c=some o:=by
    simp only[List.mem_cons,List.not_mem_nil,or_false]at d
    rcases d with rfl|rfl|rfl|rfl|rfl
    ·exact⟨_,h1⟩
    ·exact⟨_,h2⟩
    ·exact⟨_,r⟩
    ·obtain⟨o,q,_⟩:=t.obj;exact⟨o,q⟩
    ·obtain⟨o,q,_⟩:=p.obj;exact⟨o,q⟩
   rw[xAaf (qg (q0 q))];exact(hf c d).1
 done:=by
  intro X Q hw O d i pins s σ H E I hf st M;subst Q hw O;obtain⟨xs,ys,n,m,L⟩:=M;obtain⟨f,N,p1,z1⟩:=I.seqS n;obtain⟨g,S,p2,z2⟩:=I.seqS m;obtain⟨h1,h2,⟨u,v,r⟩,t,p⟩:=st;have F:=I.ok.hd d;have V:=drS (prog:=X.prog) (w:=X.w) (A:=X.A.in1) F t1 i1 a n1 f.toArray;have R:=drS (prog:=X.prog) (w:=X.w) (A:=X.A.in1) F t2 i2 b n2 g.toArray;have e1:=N.length;have e2:=S.length
  refine xApd (k1:=i) (k2:=i) V R Z h1 h2 r ?_ ⟨t,p1⟩ ⟨p,p2⟩ λh' tk kk=>⟨Y,I.turnedN (t':=tk) hf λc o d q=>kk c o (λe=>d (by simp[e])) (λe=>d (by simp[e])) (λe=>d (by simp[e])) (λe=>d (by simp[e])) q⟩
  rw[qz,qz];omega
 self:=λ_ _ _ _ _ st h=>wpAny_pyIter_zip st.1 h
def xAxh(h1:a<n)(h2:b<n):Zap (n+4) (n+2) (n+3) n (n+1) [n,a] [n+1,b]:=by
 have f:a<n:=h1;have e:b<n:=h2;refine⟨?_,?_,?_,?_,?_,?_,?_,?_,?_,?_,λc d=>?_,λc d=>?_⟩
 case refine_11 =>
  simp only[List.mem_cons,List.not_mem_nil,or_false]at d
  rcases d with rfl|rfl
  ·exact⟨qg (va (by decide)),qg (va (by decide)),qg (va (by decide))⟩
  ·exact⟨qg (yr _ f),qg (yr _ f),qg (yr _ f)⟩
 case refine_12 =>
  simp only[List.mem_cons,List.not_mem_nil,or_false]at d
  rcases d with rfl|rfl
  ·exact⟨qg (vd (by decide) n),qg (vd (by decide) n),zg (va (by decide))⟩
  ·exact⟨qg (yr _ e),qg (yr _ e),qg e⟩
 ·exact qg (vd (by decide) n)
 ·exact qg (vd (by decide) n)
 ·exact zg (va (by decide))
 ·exact zg (vd (by decide) n)
 ·exact qg (vd (by decide) n)
 ·exact zg (va (by decide))
 ·exact zg (vd (by decide) n)
 ·exact qg (va (by decide))
 ·exact qg (vd (by decide) n)
 ·exact qg (va (by decide))
section
variable {X:Cx}
inductive IiZipS(t1:Bool)(t2:Bool)(R:It->Hp->Prop)(vs:List V)(H1:Hp):Prop
 |mk (a:_) (b:_) (h0_:vs=[.ref a,.ref b]) (h1_:(∃xs,SqS H1 t1 a xs)) (h2_:(∃ys,SqS H1 t2 b ys)) (h3_:R (ItzS t1 t2 a b) H1):IiZipS t1 t2 R vs H1
def iZipS(t1 t2:Bool)(ta:TA):TI:=λσ H R=>ta σ H λvs H1=>IiZipS t1 t2 R vs H1
def xArd{k:Nat}(M:∀m g xs ys,Meets (Builtin.«zip.__new__» ⟨[.type "zip",.ref m,.ref g],[]⟩) (λ_ R s=>oS t1 s.heap m xs/\oS t2 s.heap g ys/\R (.ok (.ret (.ref (zS4 (cS t1) (cS t2) s.heap m g).objs.size))) { s with heap:=zS5 (cS t1) (cS t2) s.heap m g }))(E:Gl X "zip")(P:X.mg "zip"=none)(L:PA X [a,b] ta)(hs:starEach [a,b] X.env=(false,eval a X.env)::starEach [b] X.env:=by rfl)(v:(backTo pos (starEach [b] X.env)).any (·.1)=false:=by rfl):PI X (.Tuple es k tp) (.Call (.Name "zip" p) [a,b] [] pos) (iZipS t1 t2 ta):=by
 refine⟨?_⟩;intro pins s σ H R I h;refine Call_ (xAds I E P boot_zip (PyProof.Rows.callWith_type1 (thn (L pos pins s σ H _ I h) λus i ⟨vs,H1,r,G,D⟩=>?_) hs v));obtain⟨m,g,e,⟨xs,x⟩,⟨ys,w⟩,q⟩:=D;subst e;obtain⟨S,Q,rfl,z,y⟩:=G.two;cases z;cases y;obtain⟨d,B,p1,u⟩:=r.seqS x;obtain⟨f,K,p2,o⟩:=r.seqS w;refine xApg (c1:=cS t1) (c2:=cS t2) (R1:=λh=>oS t1 h m d.toArray) (R2:=λh=>oS t2 h g f.toArray) (M m g d.toArray f.toArray) p1 p2 λh' a1 a2 O J N F=>wpAny_pyIter_zip a1 ?_;have C:Inv X pins σ H1 { i with heap:=h' }:=r.kept (t':=i.toks) F
 have j:∀(t:Bool) (c l:Addr),h'.get? c=some (itO (cS t) l)->iS t h' c l 0:=λt c l e=>by cases t <;> exact⟨_,e,Y,Y⟩
 refine⟨_,[i.heap.objs.size+4,i.heap.objs.size+2,i.heap.objs.size+3,i.heap.objs.size,i.heap.objs.size+1],_,_,H1,Y,C,xAph t1 t2 _ _ _ _ _ m g (qg u) (qg (zq o)) (xAxh u o),⟨a1,a2,⟨_,_,O⟩,j t1 _ _ J,j t2 _ _ N⟩,λc A=>?_,q⟩
 have n:i.heap.objs.size≤c:=by
  simp only[List.mem_cons,List.not_mem_nil,or_false]at A
  rcases A with rfl|rfl|rfl|rfl|rfl
  ·exact wy _ _
  ·exact wy _ _
  ·exact wy _ _
  ·exact qd _
  ·exact wy _ _
 exact r.fpOk n (r.hok.fresh n)
def xAly{k:Nat}(f:Gl X "zip")(d:X.mg "zip"=none)(e:PA X [a,b] ta)(hs:starEach [a,b] X.env=(false,eval a X.env)::starEach [b] X.env:=by rfl)(c:(backTo pos (starEach [b] X.env)).any (·.1)=false:=by rfl):PI X (.Tuple es k tp) (.Call (.Name "zip" p) [a,b] [] pos) (iZipS false true ta):=xArd (t1:=false) (t2:=true) xApe f d e hs c
def xAtg{k:Nat}(f:Gl X "zip")(d:X.mg "zip"=none)(e:PA X [a,b] ta)(hs:starEach [a,b] X.env=(false,eval a X.env)::starEach [b] X.env:=by rfl)(c:(backTo pos (starEach [b] X.env)).any (·.1)=false:=by rfl):PI X (.Tuple es k tp) (.Call (.Name "zip" p) [a,b] [] pos) (iZipS true true ta):=xArd (t1:=true) (t2:=true) xApf f d e hs c
end
def xAre{g:TG}(c:Nat->List V->Hp->Prop)(h0:c 0 [] H)(w:∀i zs H,c i zs H->SqS H t1 a xs/\SqS H t2 b ys)(hz:xs.length≤sizeLine)(hs:∀i x y zs H' p (o:V->Hp->Prop) (n:Hp->Prop),xs[i]?=some x->ys[i]?=some y->c i zs H'->H' p=none->(∀v k,c (i+1) (zs++[v]) k->o v k)->(∀d,c (i+1) zs d->n d) →
   g (.ref p) (compSt own fr σ) (upd H' p (.tup [x,y])) λh H2=>s h H2 λb d=>if b=true then te h d o else n d)(B:∀H' p zs,c (min xs.length ys.length) zs H'->zs.length≤xs.length->H' p=none->Q (.ref p) (upd H' p (.lst zs))):LCb own fr g s te σ Q (ItzS t1 t2 a b) H:=by
 refine⟨λi m zs H=>m=min xs.length ys.length - i/\i≤min xs.length ys.length/\zs.length≤i/\c i zs H,⟨min xs.length ys.length,Y,qk _,qk _,h0⟩,?_⟩;rintro i m zs H ⟨rfl,hi,E,p⟩;obtain⟨l,j⟩:=w _ _ H p
 by_cases f:i<min xs.length ys.length
 ·have h1:i<xs.length:=by omega
  have h2:i<ys.length:=by omega
  refine .inr ⟨⟨xs,ys,xs[i],ys[i],l,j,qf h1,qf h2⟩,by omega,λv H' y=>?_⟩;obtain⟨r,x,z,hn,u,t,rfl,rfl⟩:=y
  refine hs i x z zs H r _ _ (u xs l) (t ys j) p hn (λv k A=>⟨min xs.length ys.length - (i+1),by omega,Y,f,?_,A⟩) λd C=>⟨min xs.length ys.length - (i+1),by omega,Y,f,by omega,C⟩
  rw[qm,zk];omega
 ·have e:i=min xs.length ys.length:=by omega
  exact .inl ⟨⟨xs,ys,l,j,e⟩,λq D=>B H q zs (by rw[←e];exact p) (by omega) D⟩
end L2
namespace L2
open PySem PySem.Spec PyProof.Rows
def xAth{t1 t2:Bool}{a b:Addr}{xs ys:List V}{g:TG}{tb:TS}{D:Ends}{σ:L2.St}{H:Hp}(c:Nat->L2.St->Hp->Prop)(h0:c 0 σ H)(n:∀i σ H,c i σ H->SqS H t1 a xs/\SqS H t2 b ys)(hs:∀i x y σ H p,xs[i]?=some x->ys[i]?=some y->c i σ H->H p=none->g (.ref p) σ (upd H p (.tup [x,y])) λd H2=>tb { D with nx:=c (i+1),ct:=c (i+1),bk:=D.nx } d H2)(s:∀σ H,c (min xs.length ys.length) σ H->D.nx σ H) :
  ∃W:Nat->Nat->L2.St->Hp->Prop,(∃m,W 0 m σ H)/\∀i m σ H,W i m σ H →
   ((ItzS t1 t2 a b).stop i H/\D.nx σ H)\/((ItzS t1 t2 a b).go i H/\∃N:L2.St->Hp->Prop,(∀σ' H',N σ' H'->∃k,k<m/\W (i+1) k σ' H')/\∀x H',(ItzS t1 t2 a b).yld i H x H'->g x σ H' λd H2=>tb { D with nx:=N,ct:=N,bk:=D.nx } d H2):=by
 refine⟨λi m σ H=>m=min xs.length ys.length - i/\i≤min xs.length ys.length/\c i σ H,⟨min xs.length ys.length,Y,qk _,h0⟩,?_⟩;rintro i m σ H ⟨rfl,hi,p⟩;obtain⟨j,f⟩:=n _ _ H p
 by_cases h:i<min xs.length ys.length
 ·have h1:i<xs.length:=by omega
  have h2:i<ys.length:=by omega
  refine .inr ⟨⟨xs,ys,xs[i],ys[i],j,f,qf h1,qf h2⟩,c (i+1),λσ' H' q=>⟨min xs.length ys.length - (i+1),by omega,Y,h,q⟩,λv H' y=>?_⟩;obtain⟨r,x,z,hn,o,l,rfl,rfl⟩:=y;exact hs i x z σ H r (o xs j) (l ys f) p hn
 ·have e:i=min xs.length ys.length:=by omega
  exact .inl ⟨⟨xs,ys,j,f,e⟩,s σ H (by rw[←e];exact p)⟩
end L2
namespace L2
open PySem PySem.Spec PySem.W PyProof.Rows
section
variable {prog:Program}{w:World}{A:Around}{E:Value->Shared->Prop}
abbrev lsO(xs:Array Value)(c:Nat):Obj:={ cls:=.type "list",dict:=none,data:=.seq xs c,slots:=#[] }
def xApi{I S:Addr}{T wr:List Addr}{St:Nat->Heap->Prop}(W:Walks prog w A.in1 I T wr n P St)(x:Nat->Nat->Bool)(E:CmpOf prog w A.in1 .Gt P x)(r:S∉T)(d:Value) :
  ∀(k i:Nat) (s:Shared) (bs:Array Value) (c:Nat),n - i=k->i≤n->St i s.heap->s.heap.get? S=some (lsO bs c)->((i=0/\bs=#[])\/∃j v,i=j+1/\bs=#[v,v]/\P (argBest x j) v) →
   (∀v h' tk,(n=0/\v=d)\/(0<n/\P (argBest x (n - 1)) v)->(∀b o,b∉S::wr->s.heap.get? b=some o->h'.get? b=some o)->R (.ok (.ret v)) { s with heap:=h',toks:=tk }) →
   codeAny (model prog w) A (.builtin "max.loop" ⟨[.ref I,.none,.ref S],[(Str.ofString "default",d)]⟩) R s:=by
 have B:S∉wr:=λh=>r (W.sub _ h)
 have f:(toString "max"++toString ".loop":String) = "max.loop":=by decide
 have O:∀{b:Addr},b∉S::wr->S≠b:=λa h=>a (by rw[h];exact ql)
 have J:∀{b:Addr},b∉S::wr->b∉wr:=λa h=>a (qw _ h);intro k
 induction k with
 |zero =>
  intro i s bs c U hi u K a y
  have C:i=n:=by omega
  refine codeAny_builtin F.entry_max_loop ?_;rw[Around.under_plainId F.plain_max_loop _];show wpAny _ A.in1 (seqItems? (.ref S) >>= _) _ _ s;refine qa (wpAny_seqItems K rfl ?_);show wpAny _ A.in1 (tryCatch (pyNext (.ref I)) _ >>= _) _ _ s;refine qa (wpAny_tryCatch (W.done s _ _ (C▸u) λh' tk q=>?_));rcases a with⟨h0,rfl⟩|⟨j,v,M,rfl,z⟩
  ·show wpAny _ A.in1 (rule _ >>= _) _ _ _
   refine qa (wpAny_rule (qb ?_));exact y d h' tk (.inl ⟨by omega,Y⟩) λb o a e=>q b o (J a) e
  ·have g:=q S _ B K
   show wpAny _ A.in1 (updateSeq S (λ_=>#[]) >>= _) _ _ _;refine qa (wpAny_updateSeq (s:={ s with heap:=h',toks:=tk }) g rfl (qa (wpAny_letGo (qb ?_))));exact y v _ tk (.inr ⟨by omega,by rw[←C,M];exact z⟩) λb o a e=>(Heap.get?_update_other _ _ (O a)).trans (q b o (J a) e)
 |succ k Q =>
  intro i s bs c U hi u K a y
  have N:i<n:=by omega
  refine codeAny_builtin F.entry_max_loop ?_;rw[Around.under_plainId F.plain_max_loop _];show wpAny _ A.in1 (seqItems? (.ref S) >>= _) _ _ s;refine qa (wpAny_seqItems K rfl ?_);show wpAny _ A.in1 (tryCatch (pyNext (.ref I)) _ >>= _) _ _ s;refine qa (wpAny_tryCatch (W.item i s _ _ N u λv h' tk z m q=>?_));have g:=q S _ B K;rcases a with⟨h0,rfl⟩|⟨j,H,M,rfl,L⟩
  ·show wpAny _ A.in1 (updateSeq S (λ_=>#[v,v]) >>= _) _ _ _
   refine qa (wpAny_updateSeq (s:={ s with heap:=h',toks:=tk }) g rfl ?_);rw[f];refine qb ⟨plainId_quiet F.plain_max_loop _,Q (i+1) _ #[v,v] _ (by omega) (by omega) (W.frame _ _ _ m λb t o e=>?_) (Heap.get?_update_self _ g rfl) (.inr ⟨0,v,by omega,Y,by rw[h0]at z;exact z⟩) λG h2 p D l=>?_⟩
   ·exact(Heap.get?_update_other _ _ (λh:S=b=>r (by rw[h];exact t))).trans e
   ·exact y G h2 p D λb o a e=>l b o a ((Heap.get?_update_other _ _ (O a)).trans (q b o (J a) e))
  ·show wpAny _ A.in1 (tryCatch (holding [v,v] (richCompare .Gt v H >>= _)) _ >>= _) _ _ _
   refine qa (wpAny_tryCatch (qD (qa (E i (argBest x j) v H _ _ _ z L ?_))));refine qa (qD (wpAny_truthy_bool (qa (wpAny_letGo (qb ?_)))))
   cases a:x i (argBest x j) with
   |true =>
    simp only[if_true]
    refine qa (wpAny_updateSeq (s:={ s with heap:=h',toks:=tk }) g rfl (qa (wpAny_letGo ?_)));rw[f];refine qb ⟨plainId_quiet F.plain_max_loop _,Q (i+1) _ #[v,v] _ (by omega) (by omega) (W.frame _ _ _ m λb t o e=>?_) (Heap.get?_update_self _ g rfl) (.inr ⟨i,v,Y,Y,?_⟩) λG h2 p D l=>?_⟩
    ·exact(Heap.get?_update_other _ _ (λh:S=b=>r (by rw[h];exact t))).trans e
    ·subst M
     simp only[argBest,a,if_true]
     exact z
    ·exact y G h2 p D λb o a e=>l b o a ((Heap.get?_update_other _ _ (O a)).trans (q b o (J a) e))
   |false =>
    simp only[Bool.false_eq_true,if_false]
    refine qa (wpAny_letGo ?_);rw[f];refine qb ⟨plainId_quiet F.plain_max_loop _,Q (i+1) { s with heap:=h',toks:=tk } #[H,H] c (by omega) (by omega) m g (.inr ⟨i,H,Y,Y,?_⟩) λG h2 p D l=>?_⟩
    ·subst M
     simp only[argBest,a,Bool.false_eq_true,if_false]
     exact L
    ·exact y G h2 p D λb o a e=>l b o a (q b o (J a) e)
end
def xAlz(a v:Value):argsOk "max" ⟨[a],[(Str.ofString "default",v)]⟩:=by unfold argsOk;kernel_rfl
def xAma{prog:Program}{w:World}{A:Around}{E:Value->Shared->Prop}{s:Shared}{id:String}{b:Builtin}{a:List Value}{d:List (Str×Value)}{Q:Value->Shared->Prop}(k:builtinKind id=none)(m:plainId id=true)(n:entryFor table id=some b)(l:argsOk id ⟨a,d⟩)(j:wpAny (model prog w) A.in1 (b ⟨a,d⟩) (λi s'=>match i with
   |.done f=>(match(Except.ok f:Result) with|.ok (.ret v)=>Q v s' |.ok _=>False|.error e=>E e s')
   |.again c'=>c'.quiet=true/\codeAny (model prog w) A c' (λr s'=>match r with|.ok (.ret v)=>Q v s' |.ok _=>False|.error e=>E e s') s') E s) :
  wpAny (model prog w) A (call (.builtin id) a d) Q E s:=by
 refine wpAny_call (codeAny_call_builtin m n ?_)
 simp only[checkBuiltinCall,k]
 cases c:Manifest.signature? id with
 |none=>exact qb j
 |some g =>
  have h:Bind.checkArgs id g ⟨a,d⟩=pure ():=by simpa only[argsOk,c] using l
  simp only[h]
  exact qb j
section
variable {X:Cx}
inductive ItMaxD(Q:VK)(vs:List V)(d:V)(H2:Hp):Prop
 |mk (p:_) (ns:_) (h0_:vs=[.ref p]) (h1_:SqL H2 p (List.map V.int ns)) (h2_:(ns=[]->Q d H2)) (h3_:∀m,m∈ns->(∀k∈ns,k≤m)->Q (.int m) H2):ItMaxD Q vs d H2
def tMaxD(t:TA)(td:TE):TE:=λσ H Q=>t σ H λvs H1=>td σ H1 λd H2=>ItMaxD Q vs d H2
def xAxi{t:TA}(B:X.calm=true)(hg:Gl X x)(hm:X.mg x=none)(C:bootBuiltins x=some (.builtin "max"))(ha:PA X [e] t)(M:PE X U td)(hn:x≠"__name__":=by decide)(r:(x==("__debug__":Str))=false:=by decide)(R:starEach [e] X.env=(false,eval e X.env)::starEach [] X.env:=by rfl) :
  PE X (.Call (.Name x p) [e] [⟨some "default",U,kp⟩] pos) (tMaxD t td):=by
 refine⟨?_⟩;intro pins s σ H Q I h;refine wpAny_Call_Name_kw (xAds I hg hm C ?_ hn r);refine callWith_kw (thn (ha pos pins s σ H _ I h) λus s1 ⟨vs,H1,I1,r1,q1⟩=>kws_cons (thn (M pins s1 σ H1 _ I1 q1) λdv a ⟨d,H2,k,rd,V⟩=>kws_nil ?_)) (by rw[R];rfl) (by rw[R];rfl);obtain⟨l,m,rfl,hq,W,q⟩:=V;obtain⟨u,rfl,ru⟩:=vals1 r1;cases ru;obtain⟨E,Z,pl,hz⟩:=k.list hq;obtain⟨ps,e1,O⟩:=xAkn Z
 have hsz:ps.length=m.length:=by rw[←O,qc]
 have J:a.heap.IsList l (intItems ps.toArray):=by
  have:intItems ps.toArray=E.toArray:=by unfold intItems;rw[e1];simp
  rw[this];exact pl.isList
 have g:l<a.heap.objs.size:=by obtain⟨_,e,_⟩:=J;exact q0 e
 have f:(toString "max"++toString ".loop":String) = "max.loop":=by decide
 refine xAma F.kind_max F.plain_max F.entry_max (xAlz _ _) ?_;show wpAny _ X.A.in1 (Builtin.Builtins.bindParams "max" ["key","default"] 0 ⟨[],[(Str.ofString "default",dv)]⟩ >>= _) _ _ a;refine qa (wpAny_of_eq (show Builtin.Builtins.bindParams "max" ["key","default"] 0 ⟨[],[(Str.ofString "default",dv)]⟩=pure [none,some dv] from rfl) ?_);refine qa (qb ?_);refine qa (wpAny_pyIter_list J (qa (wpAny_newObj_type ?_)));rw[f];have D:(a.heap.push (itO "list_iterator" l)).objs.size=a.heap.objs.size+1:=Heap.size_push ..;have K:∀b o,a.heap.get? b=some o->((a.heap.push (itO "list_iterator" l)).push (lsO #[] 0)).get? b=some o:=λb o e=>qA _ (qA _ e);have P:((a.heap.push (itO "list_iterator" l)).push (lsO #[] 0)).IsListIter a.heap.objs.size l 0:=⟨_,qA _ (qB _ rfl),Y,Y⟩;have n:((a.heap.push (itO "list_iterator" l)).push (lsO #[] 0)).get? (a.heap.push (itO "list_iterator" l)).objs.size=some (lsO #[] 0):=qB _ rfl;refine qb ⟨plainId_quiet F.plain_max_loop _,?_⟩;show codeAny _ X.A (.builtin "max.loop" ⟨[.ref a.heap.objs.size,.none,.ref (a.heap.push (itO "list_iterator" l)).objs.size],[(Str.ofString "default",dv)]⟩) _ { a with heap:=(a.heap.push (itO "list_iterator" l)).push (lsO #[] 0) };rw[D]at n ⊢;generalize (a.heap.push (itO "list_iterator" l)).push (lsO #[] 0)=h2 at K P n ⊢;have M:=k.ok.hd B;have Wk:=Walks.list (prog:=X.prog) (w:=X.w) (A:=X.A.in1) M a.heap.objs.size l (qg g) (intItems ps.toArray)
 have T:∀j,numAt ps.toArray j=m.getD j 0:=λj=>by rw[numAt_eq];simp only[List.toList_toArray];rw[O]
 have sz:(intItems ps.toArray).size=m.length:=by rw[←hsz];simp[intItems]
 refine xApi Wk (λi j=>decide (numAt ps.toArray i>numAt ps.toArray j)) (CmpOf.ints_gt (numAt ps.toArray) (λ_ _=>intItems_at)) (S:=a.heap.objs.size+1) (λz=>?_) dv _ 0 { a with heap:=h2 } #[] 0 rfl (qk _) ⟨P,J.at λo e=>K l o e⟩ n (.inl ⟨Y,Y⟩) λv h' tk C y=>?_
 ·simp only[List.mem_cons,List.not_mem_nil,or_false]at z
  rcases z with z|z
  ·exact absurd z (zg (zw _))
  ·exact absurd z (zg (zq g))
 have kk:∀b o,a.heap.get? b=some o->h'.get? b=some o:=λb o e=>y b o (λz=>by
  have N:=q0 e
  simp only[List.mem_cons,List.not_mem_nil,or_false]at z
  rcases z with z|z
  ·exact absurd z (qg (zq N))
  ·exact absurd z (qg N)) (K b o e)
 rcases C with⟨h0,rfl⟩|⟨h0,hP⟩
 ·exact⟨d,H2,k.kept kk,rd,W (kj.mp (by omega))⟩
 ·obtain⟨G,rfl⟩:=intItems_at hP
  obtain⟨g1,g2⟩:=argBest_gt (numAt ps.toArray) ((intItems ps.toArray).size - 1)
  have c:argBest (λi j=>decide (numAt ps.toArray i>numAt ps.toArray j)) ((intItems ps.toArray).size - 1)<m.length:=by omega
  refine⟨.int _,H2,k.kept kk,⟨G,Y⟩,q _ ?_ λk' L=>?_⟩
  ·rw[T,qq,qf c]
   exact wn c
  ·obtain⟨j,hj,rfl⟩:=zx.mp L
   have:=g2 j (by omega);rw[T j,qq,qf hj]at this;exact this
end
section
variable {X:Cx}{pins:List (Addr×Obj)}{σ:St}{H:Hp}{s:Shared}
def xAmb(m:o.data=.dict es ep)(I:Inv X pins σ H s)(e:H a=some (.frz o (.dG kvs))):s.heap.get? a=some o/\es.size=kvs.length/\∀i (hi:i<es.size) (d:i<kvs.length),RelV kvs[i].2.2 es[i].val:=by
 obtain⟨j,_,_,xs,f,o',l,p,c,_,b,g,_⟩:s.heap.get? a=some o/\ObjOk X.prog X.w H s.heap a (.dG kvs):=I.hok a _ e;rw[j]at c;cases c;rw[m]at b;injection b with b _;subst b
 have k:es.toList.length=kvs.length:=by rw[g,qc,f.length]
 refine⟨j,by simpa using k,λi hi d=>?_⟩
 have h:i<xs.length:=by rw[←f.length];exact d
 have n:es[i].val=xs[i].2.2:=by
  have h1:es.toList[i]?=some es[i]:=by simp[hi]
  rw[g,qi,qf h]at h1;rw[←qC h1];rfl
 rw[n];exact(xAig f i d h).2.2.2
end
def ItVl(a:Addr)(o:Obj)(kvs:List (KD×V×V)):It :=
 ⟨λi H=>H a=some (.frz o (.dG kvs))/\i<kvs.length,λi H x H'=>H'=H/\∃e,kvs[i]?=some e/\x=e.2.2,λi H=>H a=some (.frz o (.dG kvs))/\kvs.length≤i⟩
def xAmc{P:Program}{w:World}{K:PySem.W.Frag}{tg:Expr}(a it:Addr){o:Obj}{es:Array DictEntry}{ep:Nat}{kvs:List (KD×V×V)}(m:o.data=.dict es ep):Turn P w K tg (ItVl a o kvs) [it] it (λi h=>h.IsValIter it a i kvs.length ep) where
 mem:=by simp
 obj:=λi h st b f=>by
  have e:b=it:=by simpa using f
  subst e;obtain⟨o,e,c,d⟩:=st;exact⟨o,e,λv z=>by rw[d]at z;cases z⟩
 keep:=λi h h' ⟨o,e,r⟩ k=>⟨o,k it (by simp) o e,r⟩
 item:=by
  intro X C hw B q i pins s σ H E I hf st p;subst C hw B;obtain⟨y,hi⟩:=p;obtain⟨t,x,j⟩:=xAmb m I y;obtain⟨D,f1,f2,G,n,u⟩:=hf it (by simp)
  refine xAbx (I.ok.hd q) st t m x (λg h' l M=>?_) λz=>absurd hi (by omega)
  have L:Inv X pins σ H { s with heap:=h' }:=I.turned (t':=s.toks) (λb o f e=>(M.2 b f).trans e) D f1 G n u;obtain⟨N,e,c,d⟩:=id l;exact⟨es[i].val,Y,go_of (s:={ s with heap:=h' }) e c d (by decide) ⟨kvs[i].2.2,H,L,j i g hi,⟨Y,kvs[i],qf hi,Y⟩,l,λb f=>(hf b f).1⟩⟩
 done:=by
  intro X C hw B q i pins s σ H E I hf st p;subst C hw B;obtain⟨y,hi⟩:=p;obtain⟨t,x,j⟩:=xAmb m I y;obtain⟨D,f1,f2,G,n,u⟩:=hf it (by simp);exact xAbx (I.ok.hd q) st t m x (λg=>absurd g (by omega)) λ_ h' J=>⟨Y,I.turned (t':=s.toks) (λb o f e=>J b o f e) D f1 G n u⟩
 self:=λA i s Q E st h=>by
  refine wpAny_pyIter_slot st.typeIs F.slot_dict_valueiterator_iter (qH F.slot_dict_valueiterator_iter st.typeIs xAbt ?_ (F.args_dict_valueiterator_iter_1 _));show wpAny _ _ (ret (.ref it)) _ _ s;exact qb ⟨_,Y,"dict_valueiterator",_,st.typeIs,F.slot_dict_valueiterator_next.lookup,h⟩
inductive IiValsG(R:It->Hp->Prop)(x:V)(H1:Hp):Prop
 |mk (a:_) (kvs:_) (h0_:x=.ref a) (h1_:((H1 a=some (.dG kvs)/\∀o,R (ItVl a o kvs) (upd H1 a (.frz o (.dG kvs))))\/∃o,H1 a=some (.frz o (.dG kvs))/\R (ItVl a o kvs) H1)):IiValsG R x H1
def iValsG(tl:TE):TI:=λσ H R=>tl σ H λx H1=>IiValsG R x H1
section
variable {X:Cx}
def xAti{tl:TE}(G:PE X l tl)(d:attributeBase l "values" X.env (eval l X.env)=eval l X.env:=by rfl)(g:(apos.endLine==cpos.line)=true:=by rfl):PI X tg (.Call (.Attribute l "values" apos) [] [] cpos) (iValsG tl):=by
 refine⟨?_⟩;intro pins s σ H R I h;refine wpAny_Call_method0_late d g (thn (G pins s σ H _ I h) λv c ⟨x,H1,u,E,C⟩=>?_);obtain⟨a,kvs,e,q⟩:=C;subst e;cases E
 obtain⟨H2,o,m,A,B⟩:∃(H2:Hp) (o:Obj),Inv X pins σ H2 c/\H2 a=some (.frz o (.dG kvs))/\R (ItVl a o kvs) H2:=by
  rcases q with⟨k,q⟩|⟨o,k,q⟩
  ·obtain⟨_,_,xs,_,o,es,ep,f,_⟩:=(show ObjOk X.prog X.w H1 c.heap a (.dG kvs) from u.hok a _ k)
   exact⟨_,o,u.freezeG k f,xAac,q o⟩
  ·exact⟨_,o,u,k,q⟩
 obtain⟨f,_,n,xs,_,o',es,ep,i,r,y,_,_⟩:c.heap.get? a=some o/\ObjOk X.prog X.w H2 c.heap a (.dG kvs):=m.hok a _ A;rw[f]at i;cases i;obtain⟨_,j,_⟩:=xAmb y m A;refine⟨"dict","dict.values",PySem.F.plainAttrs_dict,PySem.F.slot_dict_values,PySem.F.type_dict_values,⟨o,f,r.1⟩,λb z=>?_,Calls.callWith_builtin rfl (PySem.evalArgs_none (xAfi n f r ?_))⟩
 ·cases z
  exact⟨o,f,r.2.1⟩
 have t:(c.heap.push { cls:=.type "dict_values",data:=.fields #[.ref a] }).get? a=some o:=qA _ f;refine xAed (s:={ c with heap:=c.heap.push { cls:=.type "dict_values",data:=.fields #[.ref a] } }) (v:=c.heap.objs.size) ⟨_,qB _ rfl,Y,Y⟩ t y ?_;have p:Inv X pins σ H2 { c with heap:=c.heap.push { cls:=.type "dict_values",data:=.fields #[.ref a] } }:=m.kept (t':=c.toks) λb o e=>qA _ e;refine⟨(c.heap.push { cls:=.type "dict_values",data:=.fields #[.ref a] }).objs.size,[(c.heap.push { cls:=.type "dict_values",data:=.fields #[.ref a] }).objs.size],_,_,H2,Y,p.kept (t':=c.toks) λb o e=>qA _ e,xAmc a _ y,⟨_,qB _ rfl,Y,by rw[j];rfl⟩,λb D=>?_,B⟩
 have e:b=(c.heap.push { cls:=.type "dict_values",data:=.fields #[.ref a] }).objs.size:=by simpa using D
 subst e;exact p.fpOk (qd _) (p.hok.fresh (qd _))
end
def xApj{a:Addr}{o:Obj}{kvs:List (KD×V×V)}{g:TG}{tb:TS}{D:Ends}{σ:St}{H:Hp}(b:Nat->St->Hp->Prop)(h0:b 0 σ H)(f:∀i σ H,b i σ H->H a=some (.frz o (.dG kvs)))(hs:∀i e σ H,kvs[i]?=some e->b i σ H->g e.2.2 σ H λc H2=>tb { D with nx:=b (i+1),ct:=b (i+1),bk:=D.nx } c H2)(l:∀σ H,b kvs.length σ H->D.nx σ H) :
  ∃W:Nat->Nat->St->Hp->Prop,(∃m,W 0 m σ H)/\∀i m σ H,W i m σ H →
   ((ItVl a o kvs).stop i H/\D.nx σ H)\/((ItVl a o kvs).go i H/\∃N:St->Hp->Prop,(∀σ' H',N σ' H'->∃h,h<m/\W (i+1) h σ' H')/\∀x H',(ItVl a o kvs).yld i H x H'->g x σ H' λc H2=>tb { D with nx:=N,ct:=N,bk:=D.nx } c H2):=by
 refine⟨λi m σ H=>m=kvs.length - i/\i≤kvs.length/\b i σ H,⟨kvs.length,Y,qk _,h0⟩,?_⟩;rintro i m σ H ⟨rfl,hi,p⟩
 by_cases d:i<kvs.length
 ·refine .inr ⟨⟨f i σ H p,d⟩,b (i+1),λσ' H' k=>⟨kvs.length - (i+1),by omega,Y,d,k⟩,?_⟩
  rintro x H' ⟨rfl,e,j,rfl⟩;exact hs i e σ H' j p
 ·have e:i=kvs.length:=by omega
  exact .inl ⟨⟨f i σ H p,by omega⟩,l σ H (by rw[←e];exact p)⟩
section
variable {prog:Program}{w:World}{A:Around}{E:Value->Shared->Prop}{s:Shared}
def xAgn(O:A.handled=none)(N:s.heap.IsValuesView v d)(H:s.heap.get? d=some od)(j:od.data=.dict es ep)(hz:es.size≤sizeLine)(M:∀s',Moved [] Eq s s'->Q (es.toList.map (·.val)) s'):wpAny (model prog w) A (collect (.ref v)) Q E s:=by
 unfold collect;refine qa (wpAny_runValue (codeAny_builtin F.entry_proto_collect ?_));rw[Around.under_plainId F.plain_proto_collect _];show wpAny _ A.in1 (newList [] >>= λl=>again (.builtin "list.__iadd__" ⟨[l,.ref v],[]⟩)) _ _ s;refine qa (wpAny_newObj_type ?_);refine qb ⟨plainId_quiet F.plain_list_iadd _,codeAny_builtin F.entry_list_iadd ?_⟩;rw[Around.under_plainId F.plain_list_iadd _];have B:(s.heap.push { cls:=.type "list",data:=.seq ([]:List Value).toArray }).get? d=some od:=qA _ H;obtain⟨G,g,p,L⟩:=id N;have J:v<s.heap.objs.size:=q0 g;have P:Shared.TypeIs { s with heap:=s.heap.push { cls:=.type "list",data:=.seq ([]:List Value).toArray } } (.ref v) "dict_values":=⟨G,qA _ g,p⟩
 have k:d<s.heap.objs.size:=by
  rcases jc d s.heap.objs.size with h|h
  ·exact h
  ·exfalso
   have:s.heap.get? d=none:=by
    unfold Heap.get?;rw[yf h]
   rw[this]at H;cases H
 have h1:Builtin.List.listSameRef (.ref s.heap.objs.size) (.ref v)=false:=by
  show(s.heap.objs.size==v)=false;exact beq_eq_false_iff_ne.mpr (zg J)
 show wpAny _ A.in1 (Builtin.List.listExtendWith (.ref s.heap.objs.size) (.ref v) (.ref s.heap.objs.size)) _ _ _;unfold Builtin.List.listExtendWith;refine qa (wpAny_typeOf P ?_);rw[qs (by rw[h1];decide)];refine qa (xAed (v:=v) ⟨G,qA _ g,p,L⟩ B j ?_);refine qa (qD ?_);generalize c:(s.heap.push { cls:=.type "list",data:=.seq ([]:List Value).toArray }).push { cls:=.type "dict_valueiterator",data:=.fields #[.ref d,.int 0 0,.int es.size 0,.int ep 0] }=h2
 have K:h2.get? d=some od:=by rw[←c];exact qA _ B
 have r:h2.get? v=some G:=by rw[←c];exact qA _ (qA _ g)
 have n:Shared.TypeIs { s with heap:=h2 } (.ref v) "dict_values":=⟨G,r,p⟩;unfold Builtin.List.listLengthHint;refine qa (wpAny_specialOf (name:=Str.ofString "__len__") n F.slot_dict_values_len.lookup ?_);generalize x:("dict_values.__len__":String)=id0
 wp_delta
 rw[show splitId id0=some ("dict_values","__len__") from by subst x;decide +kernel];subst x;refine qa (wpAny_isInstance (T:="dict_values") (b:=true) n xAte ?_);rw[qs (by decide)]
 wp_delta
 rw[qt (by decide +kernel)];refine qa (wpAny_typeOf n (qb ?_));rw[qt (by decide +kernel)]
 have D:h2.get? s.heap.objs.size=some { cls:=.type "list",data:=.seq ([]:List Value).toArray }:=by rw[←c];exact qA _ (qB _ rfl)
 refine qa (wpAny_rule (qa ?_));unfold Builtin.List.listTouch;refine qa (listUpdate_at D rfl ?_);obtain⟨c1,m⟩:∃c1,(h2.update s.heap.objs.size (Obj.mapSeq (·.push Value.none))).get? s.heap.objs.size=some (seqObj "list" #[Value.none] c1):=⟨_,get?_update_seq D _⟩;have f:∀b o,b≠s.heap.objs.size->h2.get? b=some o->(h2.update s.heap.objs.size (Obj.mapSeq (·.push Value.none))).get? b=some o:=λb o i e=>(Heap.get?_update_other _ _ (λz=>i z.symm)).trans e;generalize h2.update s.heap.objs.size (Obj.mapSeq (·.push Value.none))=h3 at m f;refine listUpdate_at (s:={ s with heap:=h3 }) m rfl ?_;obtain⟨c2,u⟩:∃c2,(h3.update s.heap.objs.size (Obj.mapSeq (·.pop))).get? s.heap.objs.size=some (seqObj "list" #[] c2):=⟨_,get?_update_seq m _⟩;have a:∀b o,b≠s.heap.objs.size->h2.get? b=some o->(h3.update s.heap.objs.size (Obj.mapSeq (·.pop))).get? b=some o:=λb o i e=>(Heap.get?_update_other _ _ (λz=>i z.symm)).trans (f b o i e);show wpAny _ _ _ _ _ { s with heap:=h3.update s.heap.objs.size (Obj.mapSeq (·.pop)) };generalize h3.update s.heap.objs.size (Obj.mapSeq (·.pop))=h4 at u a;have hsz:(s.heap.push { cls:=.type "list",data:=.seq ([]:List Value).toArray }).objs.size=s.heap.objs.size+1:=size_push' _ _
 have q:h2.get? (s.heap.objs.size+1)=some { cls:=.type "dict_valueiterator",data:=.fields #[.ref d,.int 0 0,.int es.size 0,.int ep 0] }:=by rw[←c,←hsz];exact qB _ rfl
 show wpAny _ _ (again (Code.builtin "list.extend.loop" ⟨[Value.ref s.heap.objs.size,Value.ref (s.heap.push { cls:=.type "list",data:=.seq ([]:List Value).toArray }).objs.size,Value.ref s.heap.objs.size],[]⟩)) _ _ _;rw[hsz];have W:=xApa (prog:=prog) (w:=w) (A:=A.in1) (it:=s.heap.objs.size+1) (d:=d) (od:=od) (es:=es) (ep:=ep) O (zg (zq k)) j;refine qb ⟨plainId_quiet F.plain_extend_loop _,codeAny_extend_loopS W hz s.heap.objs.size (λz=>?_) _ es.size 0 { s with heap:=h4 } #[] c2 rfl (qk _) ⟨⟨_,a _ _ (jg _) q,Y,Y⟩,a _ _ (qg k) K⟩ u (ItemsOf.nil _) λs' t R C I y=>?_⟩
 ·simp only[List.mem_cons,List.not_mem_nil,or_false]at z
  rcases z with z|z
  ·exact jg _ z.symm
  ·exact zg k z
 ·show wpAny _ A (load s.heap.objs.size >>= _) _ _ s'
  refine qa (qI I ?_);show wpAny _ _ (pure t.toList) Q E s';rw[xAlx y];refine qb (M s' ⟨λb o _ e=>?_,C.gens,C.drawn,C.os,C.toks⟩)
  have i:b<s.heap.objs.size:=by
   rcases jc b s.heap.objs.size with h|h
   ·exact h
   ·exfalso
    have:s.heap.get? b=none:=by
     unfold Heap.get?;rw[yf h]
    rw[this]at e;cases e
  refine C.heap b o (λz=>?_) (a b o (qg i) ?_)
  ·simp only[List.mem_cons,List.not_mem_nil,or_false]at z
   rcases z with z|z
   ·exact qg i z
   ·exact qg (zq i) z
  ·rw[←c]
   exact qA _ (qA _ e)
end
inductive ItSortV(sp:Sp)(Q:VK)(x:V)(H1:Hp):Prop
 |mk (a:_) (kvs:_) (ds:_) (t:_) (h0_:x=.ref a) (h1_:Rd H1 a (.dG kvs)) (h2_:ds.length=kvs.length) (h3_:KeysAre ds t) (h4_:SrtOk kvs.length ds) (h5_:(∀(m:Nat) y d H' (Q':VK),(kvs.map (·.2.2))[m]?=some y->ds[m]?=some d->Same H1 H'->(∀H'' kv,Same H' H''->DV H'' kv d->Q' kv H'')->sp [y] H' Q' E0)) (h6_:∀q H' ix,H1 q=none->Same H1 H'->SortIx ds ix->H' q=some (.lst (ix.map λi=>(kvs.map (·.2.2)).getD i .non))->Q (.ref q) H'):ItSortV sp Q x H1
def tSortV(sp:Sp)(tl:TE):TE:=λσ H Q=>tl σ H λx H1=>ItSortV sp Q x H1
section
variable {X:Cx}{k:Nat}{fa:Addr}{fd:FuncData}{ps:List Str}{sp:Sp}
def xAtj{tl:TE}(F:FnOk X.prog X.w X.K X.mg X.base CX0 k fa fd ps sp)(W:Room (k+1) X.A)(D:X.calm=true)(hg:Gl X x)(hm:X.mg x=none)(hv:bootBuiltins x=some (.builtin "sorted"))(M:Gl X y)(C:X.mg y=some (.ref fa))(hb:Binds X.K fd ps [])(S:ps.length=1)(hl:PE X l tl)(hn:x≠"__name__":=by decide)(B:(x==("__debug__":Str))=false:=by decide)(G:(y==("__debug__":Str))=false:=by decide)(i:attributeBase l "values" X.env (eval l X.env)=eval l X.env:=by rfl)(n:(apos.endLine==cpos.line)=true:=by rfl)(g:starEach [.Call (.Attribute l "values" apos) [] [] cpos] X.env=[(false,eval (.Call (.Attribute l "values" apos) [] [] cpos) X.env)]:=by rfl) :
  PE X (.Call (.Name x p) [.Call (.Attribute l "values" apos) [] [] cpos] [⟨some "key",.Name y yp,kp⟩] pos) (tSortV sp tl):=by
 refine⟨?_⟩;intro pins s σ H Q I h;refine wpAny_Call_Name_kw (xAds I hg hm hv ?_ hn B);refine callWith_kw ?_ (by rw[g];rfl) (by rw[g];rfl);rw[g];refine Calls.spliced_cons ?_;refine wpAny_Call_method0_late i n (thn (hl pins s σ H _ I h) λv d ⟨x,H1,P,J,q1⟩=>?_);obtain⟨a,kvs,ds,t,e,rd,R,hk,r,j,q⟩:=q1;subst e;cases J;obtain⟨_,E,xs,U,o,es,ep,u,f,hd,V,_⟩:ObjOk X.prog X.w H1 d.heap a (.dG kvs):=rd.ok P.hok
 have c:es.size=kvs.length:=by
  have:es.toList.length=kvs.length:=by rw[V,qc,U.length]
  simpa using this
 refine⟨"dict","dict.values",PySem.F.plainAttrs_dict,PySem.F.slot_dict_values,PySem.F.type_dict_values,⟨o,u,f.1⟩,λb z=>?_,Calls.callWith_builtin rfl (PySem.evalArgs_none (xAfi E u f ?_))⟩
 ·cases z
  exact⟨o,u,f.2.1⟩
 have O:(d.heap.push { cls:=.type "dict_values",data:=.fields #[.ref a] }).get? a=some o:=qA _ u;have T:Inv X pins σ H1 { d with heap:=d.heap.push { cls:=.type "dict_values",data:=.fields #[.ref a] } }:=P.kept (t':=d.toks) λb o e=>qA _ e;refine Calls.spliced_nil (kws_cons (xAcx T M C (kws_nil ?_) G));have N:=r.1
 have Z:(es.toList.map (·.val)).length≤sizeLine:=by rw[qc,qx,c,sizeLine_eq];omega
 refine call_function_entry_kw kind_sorted plain_sorted entry_sorted (ksk_s1 _ _) ?_;unfold Builtin.«sorted»;refine qa (m:=checkCount "sorted" 1 1 _) (qb (qa (xAgn (s:={ d with heap:=d.heap.push { cls:=.type "dict_values",data:=.fields #[.ref a] } }) (P.ok.hd D) (v:=d.heap.objs.size) ⟨_,qB _ rfl,Y,Y⟩ O hd (by rw[c,sizeLine_eq];omega) λs' m=>qa (wpAny_newList ?_ Z))));have I3:=T.moved m
 have rv:Vals (kvs.map (·.2.2)) (es.toList.map (·.val)):=by
  rw[V,wa];exact(xAxe U).1
 refine xAid (λs' Hm x y Q L _ _ J j=>F.run X.A.in1.in1 X.stack s' Hm ⟨[x],[]⟩ [x] [y] Q E0 W.in2 L (by
  have:=hb s' [x] (L.mod.kin.keeps λb o e=>(L.bs b o e).1) (by rw[S];rfl)
  simpa using this) (.cons J .nil) j) (by have:=W.un;omega) I3 rv (by rw[R,List.length_map]) hk (by rw[List.length_map];exact r) j q (.push _ _) (qB _ rfl) (Nat.le_refl _)
end
structure Bnd(K:PySem.W.Frag)(C:Addr)(m:Str)(f:Addr):Prop where
 me:Meth K C m f
 gf:specialIn K (.ref f) "__get__"=some (some (.builtin "function.__get__"))
 tk:takesIn K (.ref f)=some false
 cp:copiedNames.contains m=false
section
variable {X:Cx}{pins:List (Addr×Obj)}{σ:St}{H:Hp}{s:Shared}{a C dx g:Addr}{fs:List (Str×V)}{m:Str}{A:Around}{E:Value->Shared->Prop}
def xApk(I:Inv X pins σ H s)(e:H a=some (.ins C dx fs))(c:Cls X.K C)(k:Bnd X.K C m g)(l:fs.lookup m=none)(h:∀s',Inv X pins σ H s'->s'.heap.get? s.heap.objs.size=some (methodObj (.ref g) (.ref a))->Q (.ref s.heap.objs.size) s'):wpAny (model X.prog X.w) A (getAttr (.ref a) m b) Q E s:=by
 obtain⟨mA,O,r,_,_,_⟩:=xAhe I.hok e;have hn:mA m=none:=RelO.none_of (by rw[←l];exact r m);obtain⟨od,J,d⟩:=O.look;refine get_bind I.kIn J (plainGet_of (c.get m)).1 (findObj_fn c.hd k.me.at_ k.gf k.tk k.cp (by rw[d,hn])) (plainGet_of (c.get m)).2 ?_;refine wpAny_call (fn_get (s:={ s with toks:=s.toks+1 }) I.kIn (beq_iff_eq.mp k.me.fn) (handed_on rfl (h _ ?_ (qB _ rfl))));exact I.kept (t':=s.toks+1) λb o e=>qA _ e
end
inductive ItSortB(C:Addr)(m:Str)(sp:Sp)(H:Hp)(Q:VK)(vs:List V)(x:V)(H2:Hp):Prop
 |mk (a:_) (dx:_) (fs:_) (h0_:x=.ref a) (h1_:H2 a=some (.ins C dx fs)) (h2_:fs.lookup m=none) (h3_:rSortK (λws H Q E=>sp (.ref a::ws) H Q E) vs H2 Q):ItSortB C m sp H Q vs x H2
def tSortB(C:Addr)(m:Str)(sp:Sp)(t:TA)(ta:TE):TE:=λσ H Q=>t σ H λvs H1=>ta σ H1 λx H2=>ItSortB C m sp H Q vs x H2
section
variable {X:Cx}{k:Nat}{g C:Addr}{fd:FuncData}{ps:List Str}{sp:Sp}
def xAtk{t:TA}(F:FnOk X.prog X.w X.K X.mg X.base CX0 k g fd ps sp)(D:Room (k+1) X.A)(N:Gl X x)(Y:X.mg x=none)(R:bootBuiltins x=some (.builtin "sorted"))(c:Cls X.K C)(J:Bnd X.K C m g)(M:Binds X.K fd ps [])(u:ps.length=2)(T:PA X [e] t)(P:PE X o ta)(hn:x≠"__name__":=by decide)(d:(x==("__debug__":Str))=false:=by decide)(f:attributeBase o m X.env (eval o X.env)=eval o X.env:=by rfl)(B:starEach [e] X.env=(false,eval e X.env)::starEach [] X.env:=by rfl):PE X (.Call (.Name x p) [e] [⟨some "key",.Attribute o m apos,kp⟩] pos) (tSortB C m sp t ta):=by
 refine⟨?_⟩;intro pins s σ H Q I h;refine wpAny_Call_Name_kw (xAds I N Y R ?_ hn d);refine callWith_kw (thn (T pos pins s σ H _ I h) λus V ⟨vs,H1,W,q,L⟩=>kws_cons (xAqf f (thn (P pins V σ H1 _ W L) λv z ⟨x,H2,i,Z,a,dx,fs,ex,S,l,E⟩=>?_))) (by rw[B];rfl) (by rw[B];rfl);subst ex;obtain rfl:v=Value.ref a:=Z;refine xApk i S c J l λs3 O n=>kws_nil ?_;have hf:H2 z.heap.objs.size=none:=i.hok.fresh (qd _);have U:=i.nstk (qd z.heap.objs.size);refine xAjb (λs' G x y Q r un same q j=>?_) (by have:=D.un;omega) O q E;refine ks_codeAny_call_bound (un.keep _ _ n hf U (by simp)) (F.run X.A.in1.in1 X.stack s' G ⟨[.ref a,x],[]⟩ [.ref a,x] [.ref a,y] Q E0 D.in2 r ?_ (.cons rfl (.cons q .nil)) j);have:=M s' [.ref a,x] (r.mod.kin.keeps λb o e=>(r.bs b o e).1) (by rw[u];rfl);simpa using this
end
section
variable {prog:Program}{w:World}{A:Around}{E:Value->Shared->Prop}{s:Shared}
def xAmd(P:A.handled=none)(hs:(d==sysModules)=false)(q:s.heap.get? d=some od)(D:od.ExactDict)(h:od.data=.dict es ep)(hz:es.size≤sizeLine)(K:∀s' B c,Moved [] Eq s s'->s'.heap.get? s.heap.objs.size=some { cls:=.type "list",dict:=none,data:=.seq B c,slots:=#[] }->B.toList=es.toList.map (·.key)->Q (.ref s.heap.objs.size) s') :
  wpAny (model prog w) A (call (.type "list") [.ref d]) Q E s:=by
 refine callType_codes (Q₁:=λobj f=>obj=.ref s.heap.objs.size/\f={ s with heap:=s.heap.push { cls:=.type "list",data:=.seq #[] } }) F.called_list (F.typeCall_list_1 _) F.entry_list_init
  (code_list_new _ ⟨Y,Y⟩) λobj f v=>?_
 obtain⟨rfl,rfl⟩:=v;have C:(s.heap.push { cls:=.type "list",data:=.seq #[] }).get? s.heap.objs.size=some { cls:=.type "list",data:=.seq #[] }:=qB _ rfl;refine⟨⟨_,C,Y⟩,F.args_list_init_2 _ _,?_⟩;have a:d<s.heap.objs.size:=q0 q;generalize p:s.heap.push { cls:=.type "list",data:=.seq #[] }=h1 at C
 have k1:∀b o,s.heap.get? b=some o->h1.get? b=some o:=λb o e=>by rw[←p];exact qA _ e
 show wpAny _ A.in1.in1 (do let old ←Builtin.List.listItems (.ref s.heap.objs.size);Builtin.List.listUpdate (.ref s.heap.objs.size) (λ_=>#[]);letGo old.toList.reverse;Builtin.List.listExtendWith (.ref s.heap.objs.size) (.ref d) .none) _ _ { s with heap:=h1 };refine qa ?_;unfold Builtin.List.listItems;refine qa (wpAny_seqItems (s:={ s with heap:=h1 }) C rfl (qb ?_));show wpAny _ A.in1.in1 (updateSeq s.heap.objs.size (λ_=>#[]) >>= λ_=>letGo (#[]:Array Value).toList.reverse >>= λ_=>Builtin.List.listExtendWith (.ref s.heap.objs.size) (.ref d) .none) _ _ { s with heap:=h1 };refine qa (wpAny_updateSeq (s:={ s with heap:=h1 }) C rfl ?_);have y:=Heap.get?_update_self (Obj.mapSeq (λ_=>(#[]:Array Value))) C rfl
 have k2:∀b o,s.heap.get? b=some o->(h1.update s.heap.objs.size (Obj.mapSeq (λ_=>(#[]:Array Value)))).get? b=some o :=
  λb o e=>(Heap.get?_update_other _ _ (zg (q0 e))).trans (k1 b o e)
 have u:(h1.update s.heap.objs.size (Obj.mapSeq (λ_=>(#[]:Array Value)))).objs.size=s.heap.objs.size+1:=by rw[Heap.size_update,←p,Heap.size_push]
 show wpAny _ _ _ _ _ { s with heap:=h1.update s.heap.objs.size (Obj.mapSeq (λ_=>(#[]:Array Value))) };generalize h1.update s.heap.objs.size (Obj.mapSeq (λ_=>(#[]:Array Value)))=h2 at y k2 u;refine qa (wpAny_letGo ?_);have G:Shared.TypeIs { s with heap:=h2 } (.ref d) "dict":=⟨od,k2 _ _ q,D.1⟩
 have J:Builtin.List.listSameRef (.ref s.heap.objs.size) (.ref d)=false:=by
  show(s.heap.objs.size==d)=false;exact beq_eq_false_iff_ne.mpr (zg a)
 unfold Builtin.List.listExtendWith;refine qa (wpAny_typeOf G ?_);rw[qs (by rw[J];decide)];refine qa (xAtd (s:={ s with heap:=h2 }) hs (k2 _ _ q) D h ?_);refine qa (qD ?_);show wpAny _ _ _ _ _ { s with heap:=h2.push { cls:=.type "dict_keyiterator",data:=.fields #[.ref d,.int 0 0,.int es.size 0,.int ep 0] } };have i:(h2.push { cls:=.type "dict_keyiterator",data:=.fields #[.ref d,.int 0 0,.int es.size 0,.int ep 0] }).IsKeyIter h2.objs.size d 0 es.size ep:=⟨_,qB _ rfl,Y,Y⟩;have k3:∀b o,h2.get? b=some o->(h2.push { cls:=.type "dict_keyiterator",data:=.fields #[.ref d,.int 0 0,.int es.size 0,.int ep 0] }).get? b=some o:=λb o e=>qA _ e;generalize h2.push { cls:=.type "dict_keyiterator",data:=.fields #[.ref d,.int 0 0,.int es.size 0,.int ep 0] }=h3 at i k3;have k:Shared.TypeIs { s with heap:=h3 } (.ref d) "dict":=⟨od,k3 _ _ (k2 _ _ q),D.1⟩;unfold Builtin.List.listLengthHint;refine qa (wpAny_specialOf (name:=Str.ofString "__len__") k F.slot_dict_len.lookup ?_);generalize n:("dict.__len__":String)=id0
 wp_delta
 rw[show splitId id0=some ("dict","__len__") from by subst n;decide +kernel];subst n;refine qa (wpAny_isInstance (T:="dict") k PySem.F.sub_dict_dict ?_);rw[qs (by decide)]
 wp_delta
 rw[qt (by decide +kernel)];refine qa (wpAny_typeOf k (qb ?_));rw[qt (by decide +kernel)];have m:=k3 _ _ y;refine qa (wpAny_rule (qa ?_));unfold Builtin.List.listTouch;refine qa (listUpdate_at (s:={ s with heap:=h3 }) m rfl ?_);obtain⟨c1,j⟩:∃c1,(h3.update s.heap.objs.size (Obj.mapSeq (·.push Value.none))).get? s.heap.objs.size=some (seqObj "list" #[Value.none] c1):=⟨_,get?_update_seq m _⟩;have I:∀b o,b≠s.heap.objs.size->h3.get? b=some o->(h3.update s.heap.objs.size (Obj.mapSeq (·.push Value.none))).get? b=some o:=λb o g e=>(Heap.get?_update_other _ _ (λz=>g z.symm)).trans e;show wpAny _ _ _ _ _ { s with heap:=h3.update s.heap.objs.size (Obj.mapSeq (·.push Value.none)) };generalize h3.update s.heap.objs.size (Obj.mapSeq (·.push Value.none))=h4 at j I;refine listUpdate_at (s:={ s with heap:=h4 }) j rfl ?_;obtain⟨c2,t⟩:∃c2,(h4.update s.heap.objs.size (Obj.mapSeq (·.pop))).get? s.heap.objs.size=some (seqObj "list" #[] c2):=⟨_,get?_update_seq j _⟩;have k5:∀b o,b≠s.heap.objs.size->h3.get? b=some o->(h4.update s.heap.objs.size (Obj.mapSeq (·.pop))).get? b=some o:=λb o g e=>(Heap.get?_update_other _ _ (λz=>g z.symm)).trans (I b o g e);show wpAny _ _ _ _ _ { s with heap:=h4.update s.heap.objs.size (Obj.mapSeq (·.pop)) };generalize h4.update s.heap.objs.size (Obj.mapSeq (·.pop))=h5 at t k5;show wpAny _ _ (again (Code.builtin "list.extend.loop" ⟨[Value.ref s.heap.objs.size,Value.ref h2.objs.size,Value.none],[]⟩)) _ _ _;rw[u]at i ⊢;have W:=xAoz (prog:=prog) (w:=w) (A:=A.in1.in1) (it:=s.heap.objs.size+1) (d:=d) (od:=od) (es:=es) (ep:=ep) P (zg (zq a)) h;obtain⟨L,O,R,N⟩:=i;refine qb ⟨plainId_quiet F.plain_extend_loop _,codeAny_extend_loopS W hz s.heap.objs.size (λz=>?_) _ es.size 0 { s with heap:=h5 } #[] c2 rfl (qk _) ⟨⟨L,k5 _ _ (jg _) O,R,N⟩,k5 _ _ (qg a) (k3 _ _ (k2 _ _ q))⟩ t (ItemsOf.nil _) λs' l M x H r=>?_⟩
 ·simp only[List.mem_cons,List.not_mem_nil,or_false]at z
  rcases z with z|z
  ·exact jg _ z.symm
  ·exact zg a z
 ·refine⟨Y,K s' l M ⟨λb o _ e=>?_,x.gens,x.drawn,x.os,x.toks⟩ H (xAlw r)⟩
  have g:b<s.heap.objs.size:=q0 e;refine x.heap b o (λz=>?_) (k5 b o (qg g) (k3 _ _ (k2 _ _ e)))
  simp only[List.mem_cons,List.not_mem_nil,or_false]at z
  rcases z with z|z
  ·exact qg g z
  ·exact qg (zq g) z
end
inductive ItLKeys(xs:List V)(H1:Hp)(Q:VK):Prop
 |mk (a:_) (kvs:_) (h0_:xs=[.ref a]) (h1_:Rd H1 a (.dG kvs)) (h2_:kvs.length≤1000) (h3_:∀p H',H1 p=none->Same H1 H'->H' p=some (.lst (kvs.map (·.2.1)))->Q (.ref p) H'):ItLKeys xs H1 Q
def tLKeys:List V->Hp->VK->Prop:=λxs H1 Q=>ItLKeys xs H1 Q
section
variable {X:Cx}
def xAme(y:X.A.handled=none):CallR X (.type "list") tLKeys:=by
 intro pins s σ H xs us Q I r h;obtain⟨a,kvs,rfl,z,hz,q⟩:=h;obtain⟨u,rfl,B⟩:=vals1 r;cases B;obtain⟨_,g,J,j,o,es,ep,w,v,f,k,C,hn⟩:=gd_rd I z
 have d:es.size=kvs.length:=by
  have:es.toList.length=kvs.length:=by rw[k,qc,j.length]
  simpa using this
 refine xAmd y g w v f (by rw[d,sizeLine_eq];omega) λs' i c m E x=>?_
 have n:s'={ s with heap:=s'.heap,toks:=s'.toks }:=by
  obtain⟨G,D,l,p,F⟩:=m;cases s';cases D;cases l;cases p;rfl
 have hf:=I.hok.fresh (a:=s.heap.objs.size) (qd _)
 have t:Inv X pins σ (upd H s.heap.objs.size (.lst (kvs.map (·.2.1)))) s':=by
  rw[n];refine I.laid (t':=s'.toks) (h':=s'.heap) (λb u e=>m.heap b u (by simp) e) (Nat.le_refl _) ⟨?_,i.toList,c,?_,by simpa using E⟩
  ·show(kvs.map (·.2.1)).length≤sizeLine
   rw[qc,sizeLine_eq];omega
  ·rw[x,k,wa]
   exact xAxf j
 exact⟨.ref _,_,t,Y,q _ _ hf (Same.new hf) xAac⟩
end
def xAtl(k:Int)(t:Tok)(l:Addr)(us:Array Value)(n:Nat)(dd:Option Addr)(b:Array (Option Value))(h1:¬((decide (k < -(2 ^ 63))||decide (k≥2 ^ 63))=true))(h2:¬((us.isEmpty||k==1)=true))(j:¬((decide (k≤0)||us.isEmpty)=true))(a:¬((us.size:Int) * k>(2 ^ 63 - 1) / 8))(f:¬(Builtin.Tuple.tupleTooMany ((us.size:Int) * k)=true))(c:((List.replicate k.toNat us).foldl (·++·) #[]).size≤sizeLine) :
  Meets (Builtin.«tuple.__mul__» ⟨[.ref l,.int k t],[]⟩) (λ_ R s=>s.heap.get? l=some { cls:=.type "tuple",dict:=dd,data:=.seq us n,slots:=b }/\R (.ok (.ret (.ref s.heap.objs.size))) { s with heap:=s.heap.push { cls:=.type "tuple",data:=.seq ((List.replicate k.toNat us).foldl (·++·) #[]) } }) :=
 .of_wp λprog w A R s h=>by obtain⟨m,g,d,tk,i⟩:=s;obtain⟨e,h⟩:=h;wp_walk;rw[qs h1];wp_walk;rw[qs a];wp_walk;exact⟨_,Y,h⟩
section
variable {X:Cx}
inductive IrRepN(x:V)(y:V)(H:Hp)(Q:VK):Prop
 |mk (a:_) (xs:_) (k:_) (h0_:x=.ref a) (h1_:y=.int k) (h2_:H a=some (.tup xs)) (h3_:xs≠[]) (h4_:2≤k) (h5_:k≤1000) (h6_:xs.length * k.toNat≤1000) (h7_:∀p H',H p=none->Same H H'->H' p=some (.tup (List.replicate k.toNat xs).flatten)->Q (.ref p) H'):IrRepN x y H Q
def rRepN:R2:=λx y H Q=>IrRepN x y H Q
def xAxj:OpR X (binaryOp .Mult) rRepN:=by
 intro pins s σ H x y v u Q I M J h;obtain⟨a,xs,k,rfl,rfl,E,g,h2,f,hz,q⟩:=h;cases M;obtain⟨t,rfl⟩:=J;obtain⟨c,r,G,_⟩:=I.tuple (SqT.of E);obtain⟨⟨D,dd,i,p⟩,d,l,n,A⟩:=id G
 simp only at l A
 subst l A;have w:=r.length
 have j:c.toArray.isEmpty=false:=by
  cases c with
  |nil=>exact absurd (r.nil_iff.mp rfl) g
  |cons _ _=>rfl
 have z:List.foldl (λC L=>C++L) #[] (List.replicate k.toNat c.toArray)=(List.replicate k.toNat c).flatten.toArray:=by
  have:=xAeh c k.toNat [];rw[jr]at this;exact this
 have hsz:c.toArray.size * k.toNat≤1000:=by rw[qz,←w];exact hz
 have B:(c.toArray.size:Int) * k≤1000:=by
  obtain⟨m,rfl⟩:=Int.eq_ofNat_of_zero_le (by omega:0≤k);have:c.toArray.size * m≤1000:=hsz
  exact_mod_cast this
 have e:(List.replicate k.toNat c).flatten.length≤1000:=by rw[xAjz,yy,←w];exact hz
 refine wpAny_binaryOp_repeat_ref (T:="tuple") (U:="int") (by decide) ⟨_,d,Y⟩ (λs'=>typeIs_int s' k t) xAdk F.fills_int_mul F.slot_int_rmul xAgm F.slot_int_index.lookup
  (call_meets F.slot_int_rmul (typeIs_int s k t) F.entry_int_rmul (F.args_int_rmul_2 _ _) (xAtc k t a c.toArray n dd p) ⟨d,Y,⟨_,d,Y⟩,?_⟩)
 have hf:=I.hok.fresh (qd _);refine call_meets F.slot_tuple_mul ⟨_,d,Y⟩ F.entry_tuple_mul (F.args_tuple_mul_2 _ _) (xAtl k t a c.toArray n dd p ?_ ?_ ?_ ?_ ?_ ?_) ⟨d,?_⟩
 ·simp only[Bool.or_eq_true,decide_eq_true_eq,not_or]
  omega
 ·simp only[j,Bool.false_or,beq_iff_eq]
  omega
 ·simp only[j,Bool.or_false,decide_eq_true_eq]
  omega
 ·have:(1000:Int)≤(2 ^ 63 - 1) / 8:=by decide
  omega
 ·unfold Builtin.Tuple.tupleTooMany
  have:(1000:Int)≤(sizeLine:Int):=by decide
  simp only[decide_eq_true_eq]
  omega
 ·rw[z,qz]
  exact ze (xAag e)
 ·rw[z]
  refine⟨.ref s.heap.objs.size,_,I.laid (t':=s.toks) (o:=.tup (List.replicate k.toNat xs).flatten) (λb N q=>qA _ q) (qd _) ⟨?_,_,?_,IsTup.new _ _⟩,Y,q _ _ hf (Same.new hf) xAac⟩
  ·rw[xAjz,yy]
   exact ze (xAag hz)
  ·have:∀m,Vals (List.replicate m xs).flatten (List.replicate m c).flatten:=λm=>by
    induction m with
    |zero=>exact .nil
    |succ m K=>rw[wg,wg,vh,vh];exact r.append K
   exact this _
inductive IrCatV(x:V)(y:V)(H:Hp)(Q:VK):Prop
 |mk (a:_) (b:_) (xs:_) (ys:_) (h0_:x=.ref a) (h1_:y=.ref b) (h2_:H a=some (.tup xs)) (h3_:H b=some (.tup ys)) (h4_:xs.length+ys.length≤sizeLine) (h5_:∀p H',Same H H'->H' p=some (.tup (xs++ys))->Q (.ref p) H'):IrCatV x y H Q
def rCatV:R2:=λx y H Q=>IrCatV x y H Q
def xAih:OpR X (binaryOp .Add) rCatV:=by
 intro pins s σ H x y v u Q I A z h;obtain⟨a,b,xs,ys,rfl,rfl,w,l,hz,q⟩:=h
 by_cases m:xs=[]
 ·subst m
  cases A;cases z;obtain⟨f,D,p1,_⟩:=I.tuple (SqT.of w);obtain⟨e,J,p2,_⟩:=I.tuple (SqT.of l);obtain⟨⟨C,dd,o,G⟩,r,p,n,B⟩:=id p1;obtain⟨⟨t,j,i,k⟩,g,d,n2,c⟩:=id p2
  simp only at p B d c
  subst p B d c;have E:f=[]:=D.nil_iff.mpr rfl
  exact concat_meets ⟨_,r,Y⟩ ⟨_,g,Y⟩ noFill_tuple_add seq_tuple_add PySem.F.slot_tuple_add PySem.F.entry_tuple_add (PySem.F.args_tuple_add_2 _ _)
   (tuple_addW0 a b f.toArray e.toArray n n2 dd j G k (by simp[E])) ⟨r,g,⟨.ref b,H,I,Y,q b H (Same.refl _) l⟩⟩
 ·exact xAxd pins s σ H _ _ v u Q I A z ⟨a,b,xs,ys,Y,Y,w,l,m,hz,q⟩
end
end L2
namespace Hs
open PySem L2 PyProof.Rows
abbrev maxL(xs:List Nat):Nat:=xs.foldl max 0
def foldl_max_le{xs:List Nat}{a c:Nat}:xs.foldl max a≤c↔a≤c/\∀x∈xs,x≤c:=by
 induction xs generalizing a with
 |nil=>simp
 |cons y ys d =>
  rw[yd,d]
  simp only[List.mem_cons,forall_eq_or_imp]
  constructor
  ·rintro⟨h1,h2⟩;exact⟨by omega,by omega,h2⟩
  ·rintro⟨h1,h2,b⟩;exact⟨by omega,b⟩
def le_maxL(h:x∈xs):x≤maxL xs:=(foldl_max_le.mp (qd _)).2 x h
def pastOf(row:List Nat)(m:Nat):List (Nat×Nat):=((List.range m).filter λj=>decide (0<at0 row j)).map λj=>(j,at0 row j)
def mem_pastOf{row:List Nat}:p∈pastOf row m↔p.1<m/\0<at0 row p.1/\p.2=at0 row p.1:=by
 unfold pastOf;rw[qj];constructor
 ·rintro⟨j,a,rfl⟩
  rw[vt,zm]at a;exact⟨a.1,qG a.2,Y⟩
 ·rintro⟨h1,h2,b⟩
  exact⟨p.1,vt.mpr ⟨zm.mpr h1,qF h2⟩,by rw[←b]⟩
def HG(m:Nat)(es:List Dd)(hn:Nat->Nat->Nat):Prop:=∀d∈es,hn d.who d.num=1+maxL ((pastOf d.hd m).map λp=>hn p.1 p.2)
def HG.sub(h:HG m ds hn)(s:∀d∈es,d∈ds):HG m es hn:=λd a=>h d (s d a)
def xAxk:∀{a b:List Nat},a.length=b.length->(∀i,i<a.length->at0 a i≤at0 b i)->a.sum≤b.sum
 |[],_,_,_=>qk _
 |x::a,[],hl,_=>by cases hl
 |x::a,y::b,hl,hle=>by
  rw[ww,ww];have h0:x≤y:=hle 0 (Nat.zero_lt_succ _)
  have:=xAxk (a:=a) (b:=b) (Nat.succ.inj hl) λi hi=>by simpa[at0] using hle (i+1) (Nat.succ_lt_succ hi)
  omega
def xAxl:∀{a b:List Nat} {j:Nat},a.length=b.length->(∀i,i<a.length->at0 a i≤at0 b i)->j<a.length->at0 a j<at0 b j->a.sum<b.sum
 |[],_,_,_,_,h,_=>absurd h (zv _)
 |x::a,[],_,hl,_,_,_=>by cases hl
 |x::a,y::b,j,hl,hle,hj,hlt=>by
  rw[ww,ww];have h0:x≤y:=hle 0 (Nat.zero_lt_succ _);have d:a.length=b.length:=Nat.succ.inj hl
  have c:∀i,i<a.length->at0 a i≤at0 b i:=λi hi=>by simpa[at0] using hle (i+1) (Nat.succ_lt_succ hi)
  cases j with
  |zero =>
   have h1:x<y:=hlt;have:=xAxk d c;omega
  |succ j =>
   have:=xAxl (j:=j) d c (Nat.lt_of_succ_lt_succ hj) (by simpa[at0] using hlt);omega
def Wh.one(W:Wh m ds)(d:a∈ds)(e:b∈ds)(h1:a.who=b.who)(h2:a.num=b.num):a=b:=by
 obtain⟨i,hi,rfl⟩:=zn d;obtain⟨j,c,rfl⟩:=zn e;rcases jh i j with q|q|q
 ·exact absurd ⟨h1,h2⟩ (wz.mp W.uniq i j hi c q)
 ·subst q;rfl
 ·exact absurd ⟨h1.symm,h2.symm⟩ (wz.mp W.uniq j i c hi q)
def Wh.last(W:Wh m ds){row:List Nat}(k:row.length=m)(c:Cov m ds row)(h:p∈pastOf row m):∃e∈ds,e.who=p.1/\e.num=p.2/\(∀i,i<m->at0 e.hd i≤at0 row i)/\e.hd.sum<row.sum:=by
 obtain⟨h1,h2,l⟩:=mem_pastOf.mp h;obtain⟨e,d,a,b,f⟩:=c p.1 p.2 h1 (by omega) (by omega);refine⟨e,d,a,b,f,?_⟩;have g:=W.len e d;refine xAxl (j:=p.1) (by omega) (λi hi=>f i (by omega)) (by omega) ?_;have:=W.own e d;rw[a]at this;omega
def hf(m:Nat)(ds:List Dd):Nat->Nat->Nat->Nat
 | 0,_,_=>0
 |n+1,j,k=>match ds.find? λd=>decide (d.who=j/\d.num=k) with
  |none=>0
  |some d=>1+maxL ((pastOf d.hd m).map λp=>hf m ds n p.1 p.2)
def Wh.find(W:Wh m ds)(b:d∈ds):(ds.find? λe=>decide (e.who=d.who/\e.num=d.num))=some d:=by
 cases e:ds.find? λe=>decide (e.who=d.who/\e.num=d.num) with
 |none=>exact absurd (List.find?_eq_none.mp e d b) (by simp)
 |some x =>
  have h1:=List.find?_some e;have h2:=km e;have a:=qG h1;rw[W.one h2 b a.1 a.2]
def hf_at(W:Wh m ds)(a:d∈ds)(n:Nat):hf m ds (n+1) d.who d.num=1+maxL ((pastOf d.hd m).map λp=>hf m ds n p.1 p.2):=by
 rw[hf,W.find a]
def xAii(W:Wh m ds):∀(n:Nat) (d:Dd),d∈ds->d.hd.sum<n->hf m ds n d.who d.num=hf m ds (n+1) d.who d.num
 | 0,_,_,h=>absurd h (zv _)
 |n+1,d,hd,h=>by
  rw[hf_at W hd,hf_at W hd]
  congr 2
  refine jd λp g=>?_;obtain⟨e,f,a,b,_,c⟩:=W.last (W.len d hd) (W.past d hd) g;rw[←a,←b];exact xAii W n e f (by omega)
def Wh.heights(W:Wh m ds):∃hn,HG m ds hn:=by
 refine⟨hf m ds ((ds.map (·.hd.sum)).sum+1),λd a=>?_⟩
 have h1:∀(l:List Nat) x,x∈l->x≤l.sum:=λl=>by
  induction l with
  |nil=>intro x h;cases h
  |cons y ys b =>
   intro x h;rw[ww];rcases za.mp h with rfl|h
   ·omega
   ·have:=b x h;omega
 have h2:d.hd.sum<(ds.map (·.hd.sum)).sum+1:=Nat.lt_succ_of_le (h1 _ _ (qj.mpr ⟨d,a,Y⟩));rw[xAii W _ d a h2,hf_at W a]
def HG.up(W:Wh m ds)(h:HG m ds hn):∀(n:Nat) (a b:Dd),b.num≤n->a∈ds->b∈ds->a.who=b.who->a.num<b.num->hn a.who a.num<hn b.who b.num
 | 0,a,b,hb,_,_,_,hlt=>absurd hlt (by omega)
 |n+1,a,b,hbn,ha,hb,hw,hlt=>by
  have l:=W.own b hb;have o:=W.own a ha;have k:=W.who b hb;have f:(b.who,at0 b.hd b.who)∈pastOf b.hd m:=mem_pastOf.mpr ⟨k,by show 0<at0 b.hd b.who;omega,Y⟩
  have h1:hn b.who (at0 b.hd b.who)<hn b.who b.num:=by
   rw[h b hb];have:=le_maxL (qj.mpr ⟨_,f,Y⟩:hn b.who (at0 b.hd b.who)∈(pastOf b.hd m).map λp=>hn p.1 p.2);omega
  obtain⟨e,i,j,g,_⟩:=W.last (W.len b hb) (W.past b hb) f;have d:e.who=b.who:=j;have c:e.num=at0 b.hd b.who:=g
  by_cases q:a.num=e.num
  ·rw[hw,q,c];exact h1
  ·have:=HG.up W h n a e (by omega) ha i (by omega) (by omega)
   rw[d,c]at this;omega
def klt(hn:Nat->Nat->Nat)(a b:Dd):Prop:=hn a.who a.num<hn b.who b.num\/hn a.who a.num=hn b.who b.num/\a.who<b.who
def klt.tot(W:Wh m ds)(h:HG m ds hn)(c:a∈ds)(d:b∈ds)(e:a≠b)(g:¬klt hn b a):klt hn a b:=by
 unfold klt at g ⊢
 by_cases q:a.who=b.who
 ·rcases jh a.num b.num with r|r|r
  ·exact .inl (h.up W _ a b (qd _) c d q r)
  ·exact absurd (W.one c d q r) e
  ·exact absurd (.inl (h.up W _ b a (qd _) d c q.symm r)) g
 ·omega
def kyD(hn:Nat->Nat->Nat)(d:Dd):PyData:=.tuple [.int (hn d.who d.num),.int d.who]
def xAxm:ltD (kyD hn a) (kyD hn b)=true↔klt hn a b:=by
 unfold kyD klt;rw[ltD,ltDs,ltDs,ltDs]
 simp only[PyData.eqv,ltD]
 by_cases q:hn a.who a.num=hn b.who b.num
 ·rw[q]
  by_cases r:a.who=b.who
  ·simp[r]
  ·have c:¬((a.who:Int)=b.who):=by omega
   simp[c]
 ·have q':¬((hn a.who a.num:Int)=hn b.who b.num):=by omega
  simp[q',q]
def sorted_of{m:Nat}{es:List Dd}{hn:Nat->Nat->Nat}{ix:List Nat}(W:Wh m es)(h:HG m es hn)(g:SortIx (es.map (kyD hn)) ix)(d:Dd):(ix.map λi=>es.getD i d).Perm es/\(ix.map λi=>es.getD i d).Pairwise (klt hn):=by
 obtain⟨p1,p2⟩:=g;rw[qc]at p1
 have f:(ix.map λi=>es.getD i d).Perm es:=by
  refine(p1.map _).trans (.of_eq ?_);apply zy;intro i;rw[qi]
  by_cases hi:i<es.length
  ·rw[wx hi,qf hi]
   show some (es.getD i d)=_;rw[qq,qf hi];rfl
  ·rw[List.getElem?_eq_none (by simpa using hi),List.getElem?_eq_none (by simpa using hi)];rfl
 refine⟨f,?_⟩;have nd:(ix.map λi=>es.getD i d).Nodup:=f.symm.nodup (W.uniq.imp λ{a b} c e=>c (by subst e;exact⟨Y,Y⟩));rw[vn]at p2
 have n:(ix.map λi=>es.getD i d).Pairwise λa b=>ltD (kyD hn b) (kyD hn a)=false:=by
  rw[vn];refine p2.imp_of_mem λ{a b} j k c=>?_
  have l:∀i,i∈ix->keyAt (es.map (kyD hn)) i=kyD hn (es.getD i d):=λi hi=>by
   have:i<es.length:=zm.mp (p1.mem_iff.mp hi);unfold keyAt;rw[qq,qi,qq,qf this];rfl
  rw[l a j,l b k]at c;exact c
 refine(List.Pairwise.and nd n).imp_of_mem λ{a b} j k c=>?_;refine klt.tot W h (f.mem_iff.mp j) (f.mem_iff.mp k) c.1 λz=>?_;rw[xAxm.mpr z]at c;cases c.2
def inC(row:List Nat)(d:Dd):Bool:=decide (d.num≤at0 row d.who)
def Wh.perm(W:Wh m ds)(p:es.Perm ds):Wh m es :=
 ⟨λd c=>W.who d (p.mem_iff.mp c),λd c=>W.len d (p.mem_iff.mp c),λd c=>W.own d (p.mem_iff.mp c),(p.pairwise_iff λ{a b} h z=>h ⟨z.1.symm,z.2.symm⟩).mpr W.uniq,λd c=>(W.past d (p.mem_iff.mp c)).mono λe f=>p.mem_iff.mpr f⟩
def xAgo{row:List Nat}(W:Wh m ds)(c:Cov m ds row)(q:j<m):((ds.filter (inC row)).filter λd=>decide (d.who=j)).length=at0 row j:=by
 have nd:(((ds.filter (inC row)).filter λd=>decide (d.who=j)).map (·.num)).Nodup:=by
  rw[List.Nodup,vn];refine((W.uniq.filter _).filter _).imp_of_mem λ{a b} l o f e=>f ⟨?_,e⟩;have h1:=qG (vt.mp l).2;have h2:=qG (vt.mp o).2;omega
 have p:(((ds.filter (inC row)).filter λd=>decide (d.who=j)).map (·.num)).Perm ((List.range (at0 row j)).map (·+1)):=by
  refine(List.perm_ext_iff_of_nodup nd (List.Pairwise.map (·+1) (λa b h e=>h (by simpa using e)) List.nodup_range)).mpr λk=>?_
  simp only[List.mem_map,List.mem_filter,List.mem_range]
  constructor
  ·rintro⟨d,⟨⟨n,h1⟩,h2⟩,rfl⟩
   have h1:=qG h1;have h2:=qG h2;have:=W.own d n;exact⟨d.num - 1,by rw[h2]at h1;omega,by omega⟩
  ·rintro⟨i,hi,rfl⟩
   obtain⟨e,g,a,b,_⟩:=c j (i+1) q (by omega) (by omega);exact⟨e,⟨⟨g,qF (by rw[a,b];omega)⟩,qF a⟩,b⟩
 have:=p.length_eq;simpa using this
end Hs
namespace My
open PySem L2 PyProof.Rows Hs
def A2{α β:Type}(R:α->β->Prop)(xs:List α)(ys:List β):Prop:=xs.length=ys.length/\∀(i:Nat) x y,xs[i]?=some x->ys[i]?=some y->R x y
section
variable {α β γ:Type}{R R':α->β->Prop}{xs:List α}{ys:List β}
def A2.nil:A2 R [] []:=⟨Y,λ_ _ _ z=>by cases z⟩
def A2.imp(h:A2 R xs ys)(f:∀x y,y∈ys->R x y->R' x y):A2 R' xs ys:=⟨h.1,λi x y b a=>f _ _ (qo a) (h.2 i x y b a)⟩
def A2.at{i:Nat}{x:α}(h:A2 R xs ys)(e:xs[i]?=some x):∃y,ys[i]?=some y/\R x y:=by
 have hi:=(qy.mp e).1;have a:ys[i]?=some (ys[i]'(by rw[←h.1];exact hi)):=qf _;exact⟨_,a,h.2 i _ _ e a⟩
def A2.to{i:Nat}{y:β}(h:A2 R xs ys)(e:ys[i]?=some y):∃x,xs[i]?=some x/\R x y:=by
 have hi:=(qy.mp e).1;have a:xs[i]?=some (xs[i]'(by rw[h.1];exact hi)):=qf _;exact⟨_,a,h.2 i _ _ a e⟩
def A2.snoc(h:A2 R xs ys)(r:R x y):A2 R (xs++[x]) (ys++[y]):=by
 refine⟨by rw[qm,qm,h.1];rfl,λi a b c d=>?_⟩
 by_cases hi:i<xs.length
 ·rw[yk hi]at c
  rw[yk (by rw[←h.1];exact hi)]at d;exact h.2 i a b c d
 ·rw[yl (by omega)]at c
  rw[yl (by have:=h.1;omega)]at d
  have h0:i - xs.length=0:=by
   have:=(qy.mp c).1
   simp at this
   omega
  rw[h0]at c;rw[←h.1,h0]at d;cases c;cases d;exact r
def A2.tail(h:A2 R (x::xs) (y::ys)):A2 R xs ys:=⟨Nat.succ.inj h.1,λi a b d c=>h.2 (i+1) a b (by simpa using d) (by simpa using c)⟩
def A2.ix(h:A2 R xs ys)(ix:List Nat)(hi:∀i∈ix,i<ys.length):A2 R (ix.map λi=>xs.getD i a) (ix.map λi=>ys.getD i b):=by
 refine⟨by simp,λi x y d g=>?_⟩;rw[qi]at d g
 cases e:ix[i]? with
 |none=>rw[e]at d;cases d
 |some k =>
  rw[e]at d g;have j:=hi k (qo e);have h1:xs[k]?=some (xs[k]'(by rw[h.1];exact j)):=qf _;have h2:ys[k]?=some (ys[k]'j):=qf _;have c:xs.getD k a=x:=qC d;have f:ys.getD k b=y:=qC g;rw[qq,h1]at c;rw[qq,h2]at f;rw[←c,←f];exact h.2 k _ _ h1 h2
def A2.mapr{f:γ->β}{zs:List γ}(h:A2 (λx z=>R x (f z)) xs zs):A2 R xs (zs.map f):=by
 refine⟨by rw[qc,h.1],λi x y b a=>?_⟩;rw[qi]at a
 cases e:zs[i]? with
 |none=>rw[e]at a;cases a
 |some z=>rw[e]at a;cases a;exact h.2 i x z b e
end
def A2.dvs:∀{xs:List V} {ds:List PyData},A2 (DV H) xs ds->DVs H xs ds
 |[],[],_=>.nil
 |[],_::_,h=>by cases h.1
 |_::_,[],h=>by cases h.1
 |x::xs,d::ds,h=>.cons (h.2 0 x d rfl rfl) (A2.dvs h.tail)
def xAtm(h:Deeds H ws des ds):A2 (DeedAt H ws) des ds:=⟨h.1,λi x y d c=>by
 obtain⟨v,a,b⟩:=h.2 i y c;rw[d]at a;cases a
 exact b⟩
def lc_A2{α β:Type}{a:Addr}{xs:List V}{js:List α}{own:List Str}{fr:List (Str×Nat)}{g:TG}{t:TT}{te:TE}{σ:L2.St}{H:Hp}{Q:VK}(R:Hp->V->α->Prop)(S:Hp->V->β->Prop)(f:α->Option β)(D:∀H H' v j,Same H H'->R H v j->R H' v j)(q:∀H H' v j,Same H H'->S H v j->S H' v j)(B:SqL H a xs)(hz:xs.length≤1000)(u:A2 (R H) xs js)(hs:∀x j H' (n:V->Hp->Prop) (m:Hp->Prop),j∈js->Same H H'->R H' x j->(∀b y k,f j=some b->Same H' k->S k y b->n y k)->(∀d,f j=none->Same H' d->m d) →
   g x (compSt own fr σ) H' λl H2=>t l H2 λb d=>if b=true then te l d n else m d)(E:∀H' p zs,Same H H'->H p=none->H' p=some (.lst zs)->A2 (S H') zs (js.filterMap f)->Q (.ref p) H'):LCb own fr g t te σ Q (Itl a) H:=by
 refine xAkj (xs:=xs) (ze (xAag hz)) (λi ys H'=>Same H H'/\A2 (S H') ys ((js.take i).filterMap f)) ⟨Same.refl H,.nil⟩ (λi ys H' h=>h.1.seq B) ?_ ?_
 ·rintro i x ys H' n m o ⟨s,c⟩ k1 k0
  obtain⟨j,z,C⟩:=u.at o
  have A:js.take (i+1)=js.take i++[j]:=by rw[wq,z];rfl
  refine hs x j H' n m (qo z) s (D _ _ _ _ s C) (λb y k e r F=>k1 y k ⟨s.trans r,?_⟩) λd e w=>k0 d ⟨s.trans w,?_⟩
  ·rw[A,List.filterMap_append,show List.filterMap f [j]=[b] from by simp[e]]
   exact(c.imp λ_ _ _ h=>q _ _ _ _ r h).snoc F
  ·rw[A,List.filterMap_append,show List.filterMap f [j]=[] from by simp[e],List.append_nil]
   exact c.imp λ_ _ _ h=>q _ _ _ _ w h
 ·rintro H' p ys ⟨s,c⟩ _ g
  rw[u.1,wb]at c;exact E _ p ys (s.up g) (s.free g) xAac (c.imp λ_ _ _ h=>q _ _ _ _ (Same.new g) h)
def lc_A3{α:Type}{a:Addr}{xs:List V}{js:List α}{own:List Str}{fr:List (Str×Nat)}{g:TG}{te:TE}{σ:L2.St}{H:Hp}{Q:VK}(R S:Hp->V->α->Prop)(m:∀H H' v j,Same H H'->R H v j->R H' v j)(n:∀H H' v j,Same H H'->S H v j->S H' v j)(i:SqL H a xs)(hz:xs.length≤1000)(q:A2 (R H) xs js)(hs:∀x j H' (c:V->Hp->Prop),j∈js->Same H H'->R H' x j->(∀y d,Same H' d->S d y j->c y d)->g x (compSt own fr σ) H' λb H2=>te b H2 c)(o:∀H' p zs,Same H H'->H p=none->H' p=some (.lst zs)->A2 (S H') zs js->Q (.ref p) H'):LCb own fr g (λ_ H Q=>Q true H) te σ Q (Itl a) H:=by
 refine lc_A2 R S some m n i hz q (λx j H' c h t s r k1 k0=>?_) λH' p zs s g e f=>o H' p zs s g e (by rw[List.filterMap_some]at f;exact f)
 have e:(λb H2=>if true=true then te b H2 c else h H2)=λb H2=>te b H2 c:=by
  funext b H2
  rw[qt rfl]
 show g x (compSt own fr σ) H' λb H2=>if true=true then te b H2 c else h H2
 rw[e];exact hs x j H' c t s r λy d k l=>k1 j y d rfl k l
structure GC(k:Nat)(d:PyData):Prop where
 lay:d.canLay0=true
 dep:d.depth≤k
def xAes{k:Nat}:∀{ds:List PyData},(∀d∈ds,d.depth≤k)->PyData.depthAll ds≤k
 |[],_=>qk _
 |d::ds,h=>by
  rw[PyData.depthAll];exact Nat.max_le.mpr ⟨h d ql,xAes λx a=>h x (qw _ a)⟩
def GC.lst{k:Nat}(h:∀d∈ds,GC k d):GC (k+1) (.list ds) :=
 ⟨by rw[PyData.canLay0];exact xAbl λd a=>(h d a).lay,by rw[PyData.depth];exact wc (xAes λd a=>(h d a).dep)⟩
def GC.tup{k:Nat}(h:∀d∈ds,GC k d):GC (k+1) (.tuple ds) :=
 ⟨by rw[PyData.canLay0];exact xAbl λd a=>(h d a).lay,by rw[PyData.depth];exact wc (xAes λd a=>(h d a).dep)⟩
def GC.up{k m:Nat}(h:GC k d)(e:k≤m):GC m d:=⟨h.lay,qh h.dep e⟩
def xAcr{k:Nat}(i:Int):GC k (.int i):=⟨Y,qk _⟩
def gc_bl{k:Nat}(b:Bool):GC k (.bool b):=⟨Y,qk _⟩
def xAtn{k:Nat}:GC k .none:=⟨Y,qk _⟩
def xAba{k:Nat}(h:PyData.strOk z=true):GC k (.str z):=⟨h,qk _⟩
def xAbd{k:Nat}:∀d∈([]:List PyData),GC k d:=λ_ h=>nomatch h
def xAae{k:Nat}(h:GC k d)(t:∀d∈ds,GC k d):∀x∈d::ds,GC k x:=List.forall_mem_cons.mpr ⟨h,t⟩
def GC.self{k:Nat}(h:GC k d):PyData.eqv d d=true:=PySem.SeqAt.eqv_refl d h.lay
abbrev wA(ws:List Str)(j:Nat):Str:=ws.getD j ""
def kOf(ws:List Str)(j k:Nat):KD:=.tup [.inr (wA ws j),.inl (k:Int)]
abbrev kD(ws:List Str)(d:Dd):KD:=kOf ws d.who d.num
def nmD(ws:List Str)(d:Dd):PyData:=.tuple [.str (wA ws d.who),.int d.num]
def ddD(ws:List Str)(d:Dd):PyData:=.tuple [.str (wA ws d.who),.int d.num,.tuple (d.hd.map λ(n:Nat)=>.int (n:Int)),d.br,.tuple d.wt]
def wA_of(h:ws[j]?=some w):wA ws j=w:=by
 rw[wA,qq,h];rfl
def w_at(h:j<ws.length):ws[j]?=some (wA ws j):=by
 rw[wA,qq,qf h];rfl
def w_mem(h:j<ws.length):wA ws j∈ws:=qo (w_at h)
def xAij(nd:ws.Nodup){i j k l:Nat}(hi:i<ws.length)(a:j<ws.length)(h:kOf ws i k=kOf ws j l):i=j/\k=l:=by
 unfold kOf at h;injection h with h;injection h with h1 h2;injection h1 with h1;injection h2 with h2;injection h2 with h2;refine⟨xAix nd (w_at hi) ?_,by omega⟩;rw[h1];exact w_at a
abbrev NmV(H:Hp)(ws:List Str)(v:V)(p:Nat×Nat):Prop:=GK H (kOf ws p.1 p.2) v
def xAbe{k:KD}(s:Same H H')(h:GK H k v):GK H' k v:=by
 cases k with
 |non=>exact h
 |int i=>exact h
 |tup ks=>obtain⟨b,e,h⟩:=h;exact⟨b,e,s _ _ h⟩
 |two ks f=>obtain⟨b,c,d,e,h1,h2,a⟩:=h;exact⟨b,c,d,e,s _ _ h1,s _ _ h2,s _ _ a⟩
abbrev nm(d:Dd):Nat×Nat:=(d.who,d.num)
def NmV.dt(h:NmV H ws v (nm d)):DT H v (nmD ws d):=by
 obtain⟨b,rfl,e⟩:=h;exact .tup e (.cons (.str _) (.cons (.int _) .nil))
def DeedAt.dt(h:DeedAt H ws v d):DT H v (ddD ws d):=by
 obtain⟨q,w,e,b,x,rfl,hw,c,a,h1,h2⟩:=h;unfold ddD;rw[wA_of hw];refine .tup c (.cons (.str _) (.cons (.int _) (.cons (.tup a ?_) (.cons h1 (.cons h2 .nil)))));have:=L2.dts_ints H (d.hd.map λ(n:Nat)=>(n:Int));rw[wa,wa]at this;exact this
def Gd(ws:List Str)(d:Dd):Prop:=GC 10 (ddD ws d)
section
variable {ws:List Str}(hw:∀w∈ws,IsW w)
include hw
theorem gc_w{k:Nat}(h:w∈ws):GC k (.str w):=xAba (xAbb (hw w h))
theorem xAmf(h:NameD ws ds):GC 1 (.tuple ds):=by
 obtain⟨w,n,rfl,a,_⟩:=h;exact .tup (xAae (gc_w hw a) (xAae (xAcr _) xAbd))
theorem xArf(h:PartD ws ds):GC 1 (.tuple ds):=by
 rcases h with rfl|h
 ·exact .tup (xAae (xAba (by decide +kernel)) (xAae (xAcr _) xAbd))
 ·exact xAmf hw h
theorem gc_sn(h:SnD ws ds):GC 1 (.tuple ds):=by
 obtain⟨w,n,i,rfl,a,_⟩:=h;exact .tup (xAae (gc_w hw a) (xAae (xAcr _) (xAae (xAcr _) xAbd)))
theorem xAxn(h:SideD ws d):GC 2 d:=by
 obtain⟨ds,z,rfl,h1,h2⟩:=h;refine .tup (xAae (gc_sn hw h1) (xAae (xAba ?_) xAbd));rcases h2 with rfl|rfl <;> decide +kernel
theorem gc_abc:∀c∈("abcdefghijklmnopqrstuvwxyz .,":Str).cps.toList,PyData.strOk ⟨#[c]⟩=true:=by decide +kernel
theorem xAxo(h:SignD ws d):GC 2 d:=by
 rcases h with⟨c,rfl,a⟩|⟨z,rfl,hz⟩|⟨ds,rfl,b⟩
 ·exact xAba (gc_abc hw c a)
 ·exact .tup (xAae (xAba (by decide +kernel)) (xAae (xAba (xAbb hz)) xAbd))
 ·exact .tup (xAae (xAba (by decide +kernel)) (xAae (xArf hw b) xAbd))
theorem gc_or(a:∀n,P n->GC 1 (.tuple n))(h:OrD P d):GC 2 d:=by
 rcases h with rfl|⟨n,rfl,hn⟩
 ·exact xAtn
 ·exact(a n hn).up (by decide)
theorem gc_br(h:BrD ws d):GC 2 d:=by
 rcases h with rfl|⟨w,z,rfl,hm,hz⟩
 ·exact xAtn
 ·exact .tup (xAae (gc_w hw hm) (xAae (xAba (xAbb hz)) xAbd))
theorem xAxp(h:WhatD ws i j):GC 4 (.tuple j):=by
 have P:∀{p},PartD ws p->GC 3 (.tuple p):=λh=>(xArf hw h).up (by decide)
 have N:∀{p},NameD ws p->GC 3 (.tuple p):=λh=>(xAmf hw h).up (by decide)
 have S:∀{p},SideD ws p->GC 3 p:=λh=>(xAxn hw h).up (by decide)
 have W:∀{z:Str},IsW z->GC 3 (.str z):=λh=>xAba (xAbb h)
 cases h with
 |nothing=>exact .tup (xAae (xAba (by decide +kernel)) xAbd)
 |part p h1=>exact .tup (xAae (xAba (by decide +kernel)) (xAae (P h1) xAbd))
 |move n p h1 h2=>exact .tup (xAae (xAba (by decide +kernel)) (xAae (N h1) (xAae (P h2) xAbd)))
 |cut n h1=>exact .tup (xAae (xAba (by decide +kernel)) (xAae (N h1) xAbd))
 |put p b q h1 h2 c e g=>exact .tup (xAae (xAba (by decide +kernel)) (xAae (P h1) (xAae ((gc_or (ws:=ws) hw (λ_=>gc_sn hw) h2).up (by decide)) (xAae (.tup λd f=>xAxo hw (g d f)) xAbd))))
 |out p o h1 h2 c e g =>
  refine .tup (xAae (xAba (by decide +kernel)) (xAae (P h1) (xAae (.tup λd f=>?_) xAbd)));obtain⟨n,hn,rfl⟩:=qj.mp f;exact(gc_sn hw (e n hn)).up (by decide)
 |mark p m l z v h1 h2 c e g =>
  refine .tup (xAae (xAba (by decide +kernel)) (xAae (P h1) (xAae (S h2) (xAae (S c) (xAae (W e) (xAae ?_ xAbd))))));rcases g with rfl|⟨z',rfl,hz⟩
  ·exact xAtn
  ·exact W hz
 |note p m l z h1 h2 c e=>exact .tup (xAae (xAba (by decide +kernel)) (xAae (P h1) (xAae (S h2) (xAae (S c) (xAae (W e) xAbd)))))
 |line p z v h1 h2 c=>exact .tup (xAae (xAba (by decide +kernel)) (xAae (P h1) (xAae (xAba (by rcases h2 with rfl|rfl <;> decide +kernel)) (xAae ((gc_or (ws:=ws) hw (λ_=>xAmf hw) c).up (by decide)) xAbd))))
 |strike p n h1 h2=>exact .tup (xAae (xAba (by decide +kernel)) (xAae (P h1) (xAae (N h2) xAbd)))
 |cell p a b z h1 h2 c e =>
  refine .tup (xAae (xAba (by decide +kernel)) (xAae (P h1) (xAae (N h2) (xAae (N c) (xAae ?_ xAbd)))));rcases e with rfl|e
  ·exact xAba (by decide +kernel)
  ·exact W e
 |leave p w t y h1 h2 c=>exact .tup (xAae (xAba (by decide +kernel)) (xAae (P h1) (xAae (gc_w hw h2) (xAae (xAba (by revert t;decide +kernel)) (xAae (gc_bl _) xAbd)))))
 |back k n h1 h2 c=>exact .tup (xAae (xAba (by rcases h1 with rfl|rfl <;> decide +kernel)) (xAae (xAcr _) xAbd))
 |bring k z h1 h2=>exact .tup (xAae (xAba (by rcases h1 with rfl|rfl <;> decide +kernel)) (xAae (W h2) xAbd))
 |pour r h1 h2 =>
  refine .tup (xAae (xAba (by decide +kernel)) (xAae (.tup λd f=>?_) xAbd));obtain⟨n,hn,rfl⟩:=qj.mp f;exact xAcr _
theorem gd_of(b:d.who<ws.length)(h1:BrD ws d.br)(h2:WhatD ws d.num d.wt):Gd ws d:=by
 refine .tup (xAae (gc_w hw (w_mem b)) (xAae (xAcr _) (xAae (.tup λx a=>?_) (xAae ((gc_br hw h1).up (by decide)) (xAae ((xAxp hw h2).up (by decide)) xAbd)))));obtain⟨n,hn,rfl⟩:=qj.mp a;exact xAcr _
theorem gc_nm(a:d.who<ws.length):GC 1 (nmD ws d):=.tup (xAae (gc_w hw (w_mem a)) (xAae (xAcr _) xAbd))
end
def TD(H:Hp)(ws:List Str)(kvs:List (KD×V×V))(es:List Dd):Prop:=A2 (λe d=>e.1=kD ws d/\NmV H ws e.2.1 (nm d)/\DeedAt H ws e.2.2 d) kvs es
def TD.same(h:TD H ws kvs es)(s:Same H H'):TD H' ws kvs es:=h.imp λ_ _ _ ⟨a,b,c⟩=>⟨a,xAbe s b,c.mono s⟩
section
variable {H:Hp}{ws:List Str}{kvs:List (KD×V×V)}{es:List Dd}(nd:ws.Nodup)(hw:∀d∈es,d.who<ws.length)
include nd hw
theorem TD.keys(h:TD H ws kvs es)(u:es.Pairwise λa b=>¬(a.who=b.who/\a.num=b.num)):(kvs.map (·.1)).Nodup:=by
 rw[List.Nodup,vn,wz];intro i j hi l f e;obtain⟨a,k,h1,_⟩:=h.at (qf hi);obtain⟨b,g,h2,_⟩:=h.at (qf l);rw[h1,h2]at e
 have d:i<es.length:=by rw[←h.1];exact hi
 have c:j<es.length:=by rw[←h.1];exact l
 rw[qf d]at k;rw[qf c]at g;cases k;cases g;exact wz.mp u i j d c f (xAij nd (hw _ (wn d)) (hw _ (wn c)) e)
theorem TD.get(h:TD H ws kvs es)(u:es.Pairwise λa b=>¬(a.who=b.who/\a.num=b.num))(g:d∈es):∃v,vG kvs (kD ws d)=some v/\DeedAt H ws v d:=by
 obtain⟨i,hi,rfl⟩:=zn g;obtain⟨e,f,h1,h2,c⟩:=h.to (qf hi);exact⟨e.2.2,xAli (h.keys nd hw u) f h1,c⟩
theorem TD.no(h:TD H ws kvs es){j k:Nat}(f:j<ws.length)(hn:∀d∈es,¬(d.who=j/\d.num=k)):vG kvs (kOf ws j k)=none:=xAlj λe b z=>by
 obtain⟨i,hi,rfl⟩:=zn b;obtain⟨d,c,h1,_⟩:=h.at (qf hi);have a:=qo c;rw[h1]at z;exact hn d a (xAij nd (hw d a) f z)
end
def seatL(ws:List Str):List (Key×V):=ws.zipIdx.map λp=>(.inr p.1,.int (p.2:Int))
def xArg(h:j<ws.length):(seatL ws)[j]?=some (.inr (wA ws j),.int (j:Int)):=by
 unfold seatL;rw[qi,List.getElem?_zipIdx,w_at h]
 simp
def xAfj(nd:ws.Nodup):((seatL ws).map (·.1)).Nodup:=by
 unfold seatL;rw[wa,show((λ(p:Key×V)=>p.1)∘λ(p:Str×Nat)=>((Sum.inr p.1:Key),V.int (p.2:Int)))=(λz:Str=>(Sum.inr z:Key))∘Prod.fst from rfl,←wa];rw[show(ws.zipIdx.map Prod.fst)=ws from by simp];exact List.Pairwise.map _ (λa b h e=>h (by injection e)) nd
def xAto(nd:ws.Nodup)(h:j<ws.length):valV (seatL ws) (.inr (wA ws j))=some (.int (j:Int)):=by
 have a:((Sum.inr (wA ws j):Key),V.int (j:Int))∈seatL ws:=qo (xArg h);have hn:=xAfj nd;generalize seatL ws=l at a hn;unfold valV
 induction l with
 |nil=>cases a
 |cons x r c =>
  rw[zh,zu]at hn;rcases za.mp a with e|e
  ·subst e;simp
  ·have b:¬(x.1=(Sum.inr (wA ws j):Key)):=λz=>hn.1 (qj.mpr ⟨_,e,z.symm⟩)
   rw[List.find?_cons_of_neg (by simpa using b)];exact c e hn.2
def xAmg(ws:List Str):(seatL ws).length=ws.length:=by unfold seatL;simp
def F1(a:V):List (Str×V):=putF "hands" a []
def F2(a b:V):List (Str×V):=putF "seats" b (F1 a)
def F3(a b c:V):List (Str×V):=putF "told" c (F2 a b)
def F4(a b c d:V):List (Str×V):=putF "heights" d (F3 a b c)
def F5(a b c d e:V):List (Str×V):=putF "sorted_names" e (F4 a b c d)
def F6(a b c d e:V):List (Str×V):=putF "kept_book" .non (F5 a b c d e)
def xAcm(f:Str)(v:V):∀fs:List (Str×V),(putF f v fs).length≤fs.length+1
 |[]=>qd _
 |(k,x)::r=>by
  rw[putF]
  split
  ·exact we _
  ·exact wc (xAcm f v r)
section
variable {a b c d e:V}
def xAxq:(F1 a).length≤1:=xAcm _ _ _
def xAxr:(F2 a b).length≤2:=qh (xAcm _ _ _) (wc xAxq)
def xAxs:(F3 a b c).length≤3:=qh (xAcm _ _ _) (wc xAxr)
def xAxt:(F4 a b c d).length≤4:=qh (xAcm _ _ _) (wc xAxs)
def f5_len:(F5 a b c d e).length≤5:=qh (xAcm _ _ _) (wc xAxt)
def xAik:(F3 a b c).lookup ("told":Str)=some c:=by unfold F3;rw[xAah,qt rfl]
def xAgp:(F3 a b c).lookup ("hands":Str)=some a:=by unfold F3 F2 F1;rw[xAah,qs (by decide +kernel),xAah,qs (by decide +kernel),xAah,qt rfl]
def xArh:(F4 a b c d).lookup ("told":Str)=some c:=by unfold F4;rw[xAah,qs (by decide +kernel),xAik]
def xAtp:(F4 a b c d).lookup ("seats":Str)=some b:=by unfold F4 F3 F2;rw[xAah,qs (by decide +kernel),xAah,qs (by decide +kernel),xAah,qt rfl]
def xAmh:(F4 a b c d).lookup ("heights":Str)=some d:=by unfold F4;rw[xAah,qt rfl]
def f4_no(h:m∉(["hands","seats","told","heights"]:List Str)):(F4 a b c d).lookup m=none:=by
 simp only[List.mem_cons,List.not_mem_nil,or_false,not_or]at h
 unfold F4 F3 F2 F1;rw[xAah,qs h.2.2.2,xAah,qs h.2.2.1,xAah,qs h.2.1,xAah,qs h.1];rfl
def xAtq:(F6 a b c d e).lookup ("hands":Str)=some a:=by
 unfold F6 F5 F4;rw[xAah,qs (by decide +kernel),xAah,qs (by decide +kernel),xAah,qs (by decide +kernel),xAgp]
def xAxu:(F6 a b c d e).lookup ("told":Str)=some c:=by
 unfold F6 F5;rw[xAah,qs (by decide +kernel),xAah,qs (by decide +kernel),xArh]
def xAgq:(F6 a b c d e).lookup ("sorted_names":Str)=some e:=by
 unfold F6 F5;rw[xAah,qs (by decide +kernel),xAah,qt rfl]
def f6_no(h:m∉(["hands","seats","told","heights","sorted_names","kept_book"]:List Str)):(F6 a b c d e).lookup m=none:=by
 simp only[List.mem_cons,List.not_mem_nil,or_false,not_or]at h
 unfold F6 F5;rw[xAah,qs h.2.2.2.2.2,xAah,qs h.2.2.2.2.1];exact f4_no (by simp[h.1,h.2.1,h.2.2.1,h.2.2.2.1])
end
structure Sw(ws:List Str)(hn:Nat->Nat->Nat)(es:List Dd):Prop where
 nd:ws.Nodup
 wh:Wh ws.length es
 hg:HG ws.length es hn
 gd:∀d∈es,Gd ws d
 few:es.length≤63
def Sw.perm{es fs:List Dd}(h:Sw ws hn es)(p:fs.Perm es):Sw ws hn fs :=
 ⟨h.nd,h.wh.perm p,h.hg.sub λd a=>p.mem_iff.mp a,λd a=>h.gd d (p.mem_iff.mp a),by rw[p.length_eq];exact h.few⟩
def HD(ws:List Str)(hn:Nat->Nat->Nat)(es:List Dd)(kvs:List (KD×V×V)):Prop:=∀d∈es,vG kvs (kD ws d)=some (.int (hn d.who d.num))
def KO(C:Addr)(H:Hp)(x:Addr)(ws:List Str)(hn:Nat->Nat->Nat)(es:List Dd):Prop:=∃dx fs a sp kvs,H x=some (.ins C dx fs)/\fs.lookup ("heights":Str)=some (.ref a)/\fs.lookup ("seats":Str)=some (.ref sp)/\H a=some (.dG kvs)/\HD ws hn es kvs/\H sp=some (.dK (seatL ws))
inductive FK(C:Addr)(H:Hp)(x:Addr)(ws:List Str)(hn:Nat->Nat->Nat)(ss:List Dd):Prop
 |mk (dx hp sp tp gp np:Addr) (kvs hvs:List (KD×V×V)) (ns:List V) (es:List Dd) (ob:H x=some (.ins C dx (F6 (.ref hp) (.ref sp) (.ref tp) (.ref gp) (.ref np)))) (rl:RL H hp ws) (se:H sp=some (.dK (seatL ws))) (to:Rd H tp (.dG kvs)) (td:TD H ws kvs es) (pe:es.Perm ss) (he:H gp=some (.dG hvs)) (hd:HD ws hn ss hvs) (nl:H np=some (.lst ns)) (na:A2 (NmV H ws) ns (ss.map nm)) (sw:Sw ws hn ss) (up:ss.Pairwise (klt hn)):FK C H x ws hn ss
def FK.same(h:FK C H x ws hn b)(s:Same H H'):FK C H' x ws hn b:=by
 obtain⟨dx,m,sp,tp,f,np,kvs,a,c,es,j,i,n,to,td,o,d,l,k,na,e,up⟩:=h;exact⟨dx,m,sp,tp,f,np,kvs,a,c,es,s _ _ j,i.mono s,s _ _ n,Rd.same to s,td.same s,o,s _ _ d,l,s _ _ k,na.imp λ_ _ _ g=>xAbe s g,e,up⟩
def KO.same(h:KO C H x ws hn es)(s:Same H H'):KO C H' x ws hn es:=by
 obtain⟨dx,fs,c,sp,kvs,h1,h2,e,d,b,a⟩:=h;exact⟨dx,fs,c,sp,kvs,s _ _ h1,h2,e,s _ _ d,b,s _ _ a⟩
def xAxv{row:List Nat}(W:Wh m ds)(c:Cov m ds row)(a:j<m):at0 row j≤ds.length:=by
 rw[←xAgo W c a];exact qh (j8 _ _) (j8 _ _)
def xAcn(W:Wh m ds)(a:d∈ds)(h:n∈d.hd):n≤ds.length:=by
 obtain⟨i,hi,rfl⟩:=zn h;have:=xAxv W (W.past d a) (j:=i) (by rw[←W.len d a];exact hi);unfold at0 at this;rw[qq,qf hi]at this;exact this
def cnts(m:Nat)(a:List Dd):List Nat:=(List.range m).map λj=>(a.filter λd=>decide (d.who=j)).length
def xApl{ws:List Str}{i:Nat}{x:V}(h:(ws.map V.str)[i]?=some x):i<ws.length/\x=.str (wA ws i):=by
 have hi:=(qy.mp h).1;rw[qc]at hi;rw[qi,w_at hi]at h;exact⟨hi,(qC h).symm⟩
def xApm(h:(rowV r)[i]?=some x):i<r.length/\x=.int (at0 r i:Nat):=by
 have hi:=(qy.mp h).1;rw[qc]at hi;refine⟨hi,?_⟩;rw[qi,qf hi]at h;rw[←qC h];unfold at0;rw[qq,qf hi];rfl
def xAtr(h:i<r.length):(rowV r)[i]?=some (.int (at0 r i:Nat)):=by
 unfold at0;rw[qi,qq,qf h];rfl
def xAil(row:List Nat)(i:Nat):pastOf row (i+1)=pastOf row i++if 0<at0 row i then[(i,at0 row i)] else[]:=by
 unfold pastOf;rw[ji,List.filter_append,z0]
 by_cases h:0<at0 row i
 ·rw[qt h,show List.filter (λj=>decide (0<at0 row j)) [i]=[i] from List.filter_cons_of_pos (p:=λj=>decide (0<at0 row j)) (qF h)];rfl
 ·rw[qs h,show List.filter (λj=>decide (0<at0 row j)) [i]=[] from List.filter_cons_of_neg (p:=λj=>decide (0<at0 row j)) (by simpa using h)];rfl
def xAdv{j k:Nat}(h:H p=some (.tup [.str (wA ws j),.int (k:Int)])):NmV H ws (.ref p) (j,k):=⟨p,Y,h⟩
def DeedAt.who(h:DeedAt H ws v d):d.who<ws.length:=by
 obtain⟨_,_,_,_,_,_,hw,_⟩:=h;exact(qy.mp hw).1
def DeedAt.out(h:DeedAt H ws v d):∃q a b x,v=.ref q/\H q=some (.tup [.str (wA ws d.who),.int (d.num:Int),.ref a,b,x])/\H a=some (.tup (rowV d.hd)):=by
 obtain⟨q,w,a,b,x,e,hw,f,c,_⟩:=h;exact⟨q,a,b,x,e,by rw[wA_of hw];exact f,c⟩
def xAxw:∀{ys:List V} {kvs:List (Key×V)},A2 (λy e=>∃b,y=.ref b/\H b=some (.tup [kV e.1,e.2])) ys kvs->PrsK H ys kvs
 |[],[],_=>trivial
 |[],_::_,h=>by cases h.1
 |_::_,[],h=>by cases h.1
 |y::ys,e::es,h=>⟨h.2 0 y e rfl rfl,xAxw h.tail⟩
def td_wr(h:TD H ws kvs es)(e:H a=some o)(c:∀ys,o≠.tup ys):TD (upd H a o') ws kvs es:=h.imp λ_ _ _ ⟨x,⟨b,d,y⟩,z⟩=>⟨x,⟨b,d,by rw[xAaf (xAdg y e c)];exact y⟩,z.wr e c⟩
def dG_no:∀ys,(HO.dG kvs)≠.tup ys:=λ_ z=>by cases z
def TD.put(nd:ws.Nodup)(h:TD H ws kvs es)(hn:NmV H ws C (nm d))(n:DeedAt H ws v d)(u:es.Pairwise λa b=>¬(a.who=b.who/\a.num=b.num))(one:∀a∈es,a.who=d.who->a.num=d.num->a=d) :
  ∃f,TD H ws (pG kvs (kD ws d) C v) f/\(f.Pairwise λa b=>¬(a.who=b.who/\a.num=b.num))/\∀e,e∈f↔e∈es\/e=d:=by
 have hw:∀e∈es,e.who<ws.length:=λe k=>by
  obtain⟨i,hi,rfl⟩:=zn k;obtain⟨_,_,_,_,x⟩:=h.to (qf hi);exact DeedAt.who x
 have A:=DeedAt.who n;unfold pG
 by_cases q:d∈es
 ·obtain⟨D,m,_⟩:=h.get nd hw u q
  rw[m,qt (show(some D).isSome=true from rfl)];refine⟨es,⟨by rw[qc,h.1],λi x y g t=>?_⟩,u,λe=>⟨.inl,λz=>z.elim id λz=>by rw[z];exact q⟩⟩;rw[qi]at g
  cases p:kvs[i]? with
  |none=>rw[p]at g;cases g
  |some c =>
   rw[p]at g;have l:=h.2 i c y p t;have j:x=(if c.1=kD ws d then(c.1,c.2.1,v) else c):=(qC g).symm
   by_cases r:c.1=kD ws d
   ·have o:(if c.1=kD ws d then(c.1,c.2.1,v) else c)=(c.1,c.2.1,v):=qt r
    have B:=qo t
    have s:y=d:=by
     have:=xAij nd (hw y B) A (l.1.symm.trans r);exact one y B this.1 this.2
    subst s;rw[j,o];exact⟨l.1,l.2.1,n⟩
   ·have o:(if c.1=kD ws d then(c.1,c.2.1,v) else c)=c:=qs r
    rw[j,o];exact l
 ·have m:vG kvs (kD ws d)=none:=h.no nd hw A λe k z=>q (by rw[←one e k z.1 z.2];exact k)
  rw[m,qs (by decide)];refine⟨es++[d],h.snoc ⟨Y,hn,n⟩,List.pairwise_append.mpr ⟨u,List.pairwise_singleton _ _,λa w b E z=>?_⟩,λe=>by simp⟩;rw[qu.mp E]at z;exact q (by rw[←one a w z.1 z.2];exact w)
def xApn{ws:List Str}(nd:ws.Nodup){a:List Dd}(hw:∀d∈a,d.who<ws.length){j:Nat}(c:j<ws.length):((a.map λe=>PyData.str (wA ws e.who)).countP λd=>PyData.eqv d (.str (wA ws j)))=(a.filter λd=>decide (d.who=j)).length:=by
 rw[List.countP_map,←List.countP_eq_length_filter];refine List.countP_congr λd b=>?_;show PyData.eqv (.str (wA ws d.who)) (.str (wA ws j))=true↔_;rw[PyData.eqv,beq_iff_eq,decide_eq_true_iff];constructor
 ·intro h
  exact xAix nd (w_at (hw d b)) (by rw[h];exact w_at c)
 ·rintro rfl
  rfl
def xAee(H:Hp)(x:Addr)(o:HO):del (upd H x o) x=del H x:=by
 funext b
 by_cases e:b=x
 ·subst e;rw[xAeq,xAeq]
 ·rw[xAgl e,xAgl e,xAaf e]
def xAbz(H:Hp)(x:Addr):Same (del H x) H:=λb o h=>by
 by_cases e:b=x
 ·subst e;rw[xAeq]at h;cases h
 ·rwa [xAgl e]at h
def xAts(h:H b=some o)(e:b≠x):(del H x) b=some o:=by rw[xAgl e];exact h
def xAxx(h:DeedAt H ws v d)(s:Tups H H'):DeedAt H' ws v d:=by
 obtain⟨q,w,f,b,x,e,h1,h2,a,g,c⟩:=h;exact⟨q,w,f,b,x,e,h1,s _ _ h2,s _ _ a,g.tups s,c.tups s⟩
def xAri(h:NmV H ws v p)(s:Tups H H'):NmV H' ws v p:=by
 obtain⟨b,e,h⟩:=h;exact⟨b,e,s _ _ h⟩
def TD.tups(h:TD H ws kvs es)(s:Tups H H'):TD H' ws kvs es:=h.imp λ_ _ _ ⟨a,b,c⟩=>⟨a,xAri b s,xAxx c s⟩
def xAgr(e:H x=some o)(a:∀ys,o≠.tup ys):Tups H (upd H x o'):=λb xs h=>by
 rw[xAaf (xAvp h e a)];exact h
def xAxy{fs:List (Str×V)}:∀ys,(HO.ins C dx fs)≠.tup ys:=λ_ z=>by cases z
def A2.ofmap{α β γ:Type}{R:α->β->Prop}{f:γ->β}{xs:List α}{zs:List γ}(h:A2 R xs (zs.map f)):A2 (λx z=>R x (f z)) xs zs:=⟨by rw[h.1,qc],λi x z b a=>h.2 i x (f z) b (by rw[qi,a];rfl)⟩
def xAcu(h1:H y=none)(h2:H a=none):Same H (del (upd (upd H a o1) y o2) y):=λb o h=>by
 have n1:b≠y:=xAai h h1;rw[xAgl n1,xAaf n1,xAaf (xAai h h2)];exact h
def FK.sww(h:FK C H x ws hn a):Sw ws hn a:=by
 obtain⟨_,_,_,_,_,_,_,_,_,_,_,_,_,_,_,_,_,_,_,_,b,_⟩:=h;exact b
def FK.obj(h:FK C H x ws hn c):∃dx fs,H x=some (.ins C dx fs)/\∀m:Str,m∉(["hands","seats","told","heights","sorted_names","kept_book"]:List Str)->fs.lookup m=none:=by
 obtain⟨dx,_,_,_,_,_,_,_,_,_,b,_⟩:=h;exact⟨dx,_,b,λm a=>f6_no a⟩
def xArj(nd:ws.Nodup)(a:j<ws.length):(∃d,(ws.map PyData.str)[j]?=some d/\PyData.eqv d (.str (wA ws j))=true)/\∀(m:Nat) d,m<j->(ws.map PyData.str)[m]?=some d->PyData.eqv d (.str (wA ws j))=false:=by
 constructor
 ·exact⟨_,by rw[List.getElem?_map,w_at a];rfl,by simp[PyData.eqv]⟩
 ·intro m d b e
  rw[qi,w_at (wk b a)]at e;cases e
  have:wA ws m≠wA ws j:=λz=>by
   have:=xAix nd (w_at (wk b a)) (by rw[z];exact w_at a);omega
  rw[PyData.eqv];exact beq_eq_false_iff_ne.mpr this
def rl_dvs(ws:List Str):DVs H (ws.map V.str) (ws.map PyData.str):=by
 induction ws with
 |nil=>exact .nil
 |cons w ws a=>exact .cons (.str _) a
def rl_lay{ws:List Str}(h:∀w∈ws,IsW w):PyData.canLayAll0 (ws.map PyData.str)=true:=xAbl λd a=>by
 obtain⟨w,hw,rfl⟩:=qj.mp a;exact xAbb (h w hw)
def xAmi:∀r:List Nat,DVs H (rowV r) (r.map λ(n:Nat)=>PyData.int (n:Int))
 |[]=>.nil
 |_::r=>.cons (.int _) (xAmi r)
def xAxz(r:List Nat):GC 1 (.tuple (r.map λ(n:Nat)=>PyData.int (n:Int))):=.tup λd a=>by
 obtain⟨n,_,rfl⟩:=qj.mp a;exact xAcr _
def xApo(e:List Nat):KeysAre (e.map λ(n:Nat)=>.int (n:Int)) 0:=by
 have all:∀d∈e.map (λ(n:Nat)=>PyData.int (n:Int)),∃i,d=.int i:=λd c=>by
  obtain⟨n,_,rfl⟩:=qj.mp c;exact⟨_,Y⟩
 refine⟨xAbl λd c=>?_,λd c=>?_,λa f b g=>?_,λd c=>?_⟩
 ·obtain⟨i,rfl⟩:=all d c;rfl
 ·obtain⟨i,rfl⟩:=all d c;exact trivial
 ·obtain⟨i,rfl⟩:=all a f;obtain⟨j,rfl⟩:=all b g;rfl
 ·obtain⟨i,rfl⟩:=all d c;exact qk _
def xAya(hn:Nat->Nat->Nat)(es:List Dd):KeysAre (es.map (kyD hn)) 2:=by
 have all:∀d∈es.map (kyD hn),∃i j,d=.tuple [.int i,.int j]:=λd c=>by
  obtain⟨n,_,rfl⟩:=qj.mp c;exact⟨_,_,Y⟩
 refine⟨xAbl λd c=>?_,λd c=>?_,λa e b f=>?_,λd c=>?_⟩
 ·obtain⟨i,j,rfl⟩:=all d c;rfl
 ·obtain⟨i,j,rfl⟩:=all d c;exact trivial
 ·obtain⟨i,j,rfl⟩:=all a e;obtain⟨k,l,rfl⟩:=all b f;rfl
 ·obtain⟨i,j,rfl⟩:=all d c;exact ja rfl
def xAyb{ix:List Nat}(p1:ix.Perm (List.range es.length))(a:Dd):(ix.map λi=>es.getD i a).Perm es:=by
 refine(p1.map _).trans (.of_eq ?_);apply zy;intro i;rw[qi]
 by_cases hi:i<es.length
 ·rw[wx hi,qf hi]
  show some (es.getD i a)=_;rw[qq,qf hi];rfl
 ·rw[List.getElem?_eq_none (by simpa using hi),List.getElem?_eq_none (by simpa using hi)];rfl
def xAmj{es:List Dd}{ix:List Nat}(f:SortIx (es.map λd=>PyData.int (d.hd.sum:Nat)) ix)(e:Dd):(ix.map λi=>es.getD i e).Perm es/\(ix.map λi=>es.getD i e).Pairwise λa b=>a.hd.sum≤b.hd.sum:=by
 obtain⟨p1,p2⟩:=f;rw[qc]at p1;refine⟨xAyb p1 e,?_⟩;rw[vn]at p2 ⊢;refine p2.imp_of_mem λ{a b} h j c=>?_
 have g:∀i,i∈ix->keyAt (es.map λd=>PyData.int (d.hd.sum:Nat)) i=.int ((es.getD i e).hd.sum:Nat):=λi hi=>by
  have:i<es.length:=zm.mp (p1.mem_iff.mp hi);unfold keyAt;rw[qq,qi,qq,qf this];rfl
 rw[g a h,g b j,ltD]at c;have:=of_decide_eq_false c;omega
open Classical in
noncomputable def delS(H:Hp)(S:Addr->Prop):Hp:=λb=>if S b then none else H b
def xAdm{S:Addr->Prop}(h:H b=some o)(n:¬S b):delS H S b=some o:=by
 unfold delS;rw[qs n];exact h
def xApp{S:Addr->Prop}:Same (delS H S) H:=λb o h=>by
 unfold delS at h
 by_cases e:S b
 ·rw[qt e]at h;cases h
 ·rw[qs e]at h;exact h
def FK.all(h:∀S:Addr->Prop,(∀b,S b->False)->FK C (delS H S) x ws hn a):FK C H x ws hn a:=(h (λ_=>False) λ_ z=>z).same xApp
inductive Isp_fBf(vs:List V)(H:Hp)(Q:VK):Prop
 |mk (v:_) (ws:_) (d:_) (h0_:vs=[v]) (h1_:DeedAt H ws v d) (h2_:∀H' nv,Same H H'->NmV H' ws nv (nm d)->Q nv H'):Isp_fBf vs H Q
def sp_fBf:Sp:=λvs H Q _=>Isp_fBf vs H Q
inductive Isp_fAs(vs:List V)(H:Hp)(Q:VK):Prop
 |mk (rp:_) (v:_) (ws:_) (d:_) (h0_:vs=[.ref rp,v]) (h1_:RL H rp ws) (h2_:DeedAt H ws v d) (h3_:d.hd.length=ws.length) (h4_:∀H' p ns,Same H H'->H p=none->H' p=some (.lst ns)->A2 (NmV H' ws) ns (pastOf d.hd ws.length)->Q (.ref p) H'):Isp_fAs vs H Q
def sp_fAs:Sp:=λvs H Q _=>Isp_fAs vs H Q
inductive Isp_fAd(vs:List V)(H:Hp)(Q:VK):Prop
 |mk (v:_) (u:_) (ws:_) (d:_) (e:_) (h0_:vs=[v,u]) (h1_:DeedAt H ws v d) (h2_:DeedAt H ws u e) (h3_:d.hd.length≤1000) (h4_:e.hd.length=d.hd.length) (h5_:∀H' b,Same H H'->(b=true↔∀i,i<d.hd.length->at0 e.hd i≤at0 d.hd i)->Q (.bl b) H'):Isp_fAd vs H Q
def sp_fAd:Sp:=λvs H Q _=>Isp_fAd vs H Q
inductive Isp_fAf(vs:List V)(H:Hp)(Q:VK):Prop
 |mk (v:_) (ws:_) (d:_) (h0_:vs=[v]) (h1_:DeedAt H ws v d) (h2_:d.hd.length≤6) (h3_:(∀n∈d.hd,n≤1000)) (h4_:Q (.int (d.hd.sum:Nat)) H):Isp_fAf vs H Q
def sp_fAf:Sp:=λvs H Q _=>Isp_fAf vs H Q
inductive Isp_fAo(vs:List V)(H:Hp)(Q:VK):Prop
 |mk (rp:_) (tp:_) (ws:_) (hn:_) (es:_) (kvs:_) (h0_:vs=[.ref rp,.ref tp]) (h1_:RL H rp ws) (h2_:Rd H tp (.dG kvs)) (h3_:TD H ws kvs es) (h4_:Sw ws hn es) (h5_:∀H' g hvs,Same H H'->H g=none->H' g=some (.dG hvs)->HD ws hn es hvs->Q (.ref g) H'):Isp_fAo vs H Q
def sp_fAo:Sp:=λvs H Q _=>Isp_fAo vs H Q
inductive Isp_fBe(vs:List V)(H:Hp)(Q:VK):Prop
 |mk (rp:_) (ws:_) (h0_:vs=[.ref rp]) (h1_:RL H rp ws) (h2_:ws.Nodup) (h3_:∀H' s,Same H H'->H s=none->H' s=some (.dK (seatL ws))->Q (.ref s) H'):Isp_fBe vs H Q
def sp_fBe:Sp:=λvs H Q _=>Isp_fBe vs H Q
inductive Isp_fAp(cF:Addr)(vs:List V)(H:Hp)(Q:VK):Prop
 |mk (x:_) (ws:_) (hn:_) (ss:_) (h0_:vs=[.ref x]) (h1_:FK cF H x ws hn ss) (h2_:∀H' p des,Same H H'->H p=none->H' p=some (.lst des)->A2 (DeedAt H' ws) des ss->Q (.ref p) H'):Isp_fAp cF vs H Q
def sp_fAp(cF:Addr):Sp:=λvs H Q _=>Isp_fAp cF vs H Q
inductive Isp_fAr(cF:Addr)(vs:List V)(H:Hp)(Q:VK):Prop
 |mk (x:_) (ws:_) (hn:_) (ss:_) (h0_:vs=[.ref x]) (h1_:FK cF H x ws hn ss) (h2_:∀H' p ns,Same H H'->H p=none->H' p=some (.lst ns)->A2 (NmV H' ws) ns (ss.map nm)->Q (.ref p) H'):Isp_fAr cF vs H Q
def sp_fAr(cF:Addr):Sp:=λvs H Q _=>Isp_fAr cF vs H Q
inductive Isp_fAl(cF:Addr)(vs:List V)(H:Hp)(Q:VK):Prop
 |mk (x:_) (ws:_) (hn:_) (ss:_) (h0_:vs=[.ref x]) (h1_:FK cF H x ws hn ss) (h2_:∀H' p,Same H H'->H p=none->H' p=some (.tup (rowV (cnts ws.length ss)))->Q (.ref p) H'):Isp_fAl cF vs H Q
def sp_fAl(cF:Addr):Sp:=λvs H Q _=>Isp_fAl cF vs H Q
inductive Isp_fBc(cF:Addr)(vs:List V)(H:Hp)(Q:VK):Prop
 |mk (x:_) (v:_) (ws:_) (hn:_) (es:_) (d:_) (h0_:vs=[.ref x,v]) (h1_:KO cF H x ws hn es) (h2_:NmV H ws v (nm d)) (h3_:d∈es) (h4_:d.who<ws.length) (h5_:ws.Nodup) (h6_:∀H' kv,Same H H'->DT H' kv (kyD hn d)->Q kv H'):Isp_fBc cF vs H Q
def sp_fBc(cF:Addr):Sp:=λvs H Q _=>Isp_fBc cF vs H Q
section
variable {K:PySem.W.Frag}{cF:Addr}{vs:List V}{H:Hp}{Q:VK}{E:XK}
def xAyc(h:sp_fBf vs H Q E):vs.length=1:=by obtain⟨_,_,_,rfl,_⟩:=h;rfl
def xAyd(h:sp_fAs vs H Q E):vs.length=2:=by obtain⟨_,_,_,_,rfl,_⟩:=h;rfl
def xAye(h:sp_fAd vs H Q E):vs.length=2:=by obtain⟨_,_,_,_,_,rfl,_⟩:=h;rfl
def xAyf(h:sp_fAf vs H Q E):vs.length=1:=by obtain⟨_,_,_,rfl,_⟩:=h;rfl
def xAyg(h:sp_fAo vs H Q E):vs.length=2:=by obtain⟨_,_,_,_,_,_,rfl,_⟩:=h;rfl
def xAyh(h:sp_fBe vs H Q E):vs.length=1:=by obtain⟨_,_,rfl,_⟩:=h;rfl
def xAyi(h:sp_fAp cF vs H Q E):vs.length=1:=by obtain⟨_,_,_,_,rfl,_⟩:=h;rfl
def xAyj(h:sp_fAr cF vs H Q E):vs.length=1:=by obtain⟨_,_,_,_,rfl,_⟩:=h;rfl
def xAyk(h:sp_fAl cF vs H Q E):vs.length=1:=by obtain⟨_,_,_,_,rfl,_⟩:=h;rfl
def xAyl(h:sp_fBc cF vs H Q E):vs.length=2:=by obtain⟨_,_,_,_,_,_,rfl,_⟩:=h;rfl
end
end My
namespace L2
open PySem PySem.Spec PySem.W PyProof.Rows
def OnlyM(Ps:List Addr)(M:Addr->Option (List V))(H:Hp):Prop:=∀b,(b∈Ps/\H b=some (.tbl #[]))\/(b∉Ps/\∃xs,M b=some xs/\H b=some (.tup xs))\/(b∉Ps/\M b=none/\(H b=none\/∃o xs,H b=some (.frz o (.lst xs))))
def noLst(K:PySem.W.Frag):Bool:=K.all λp=>match p.2.cls,p.2.data with
 |.type t,.seq ..=>!(t=="list")
 |_,_=>true
def xApq{K:PySem.W.Frag}{a:Addr}{us:Array Value}{n:Nat}(h:noLst K=true)(e:K.lookup a=some { cls:=.type "list",data:=.seq us n }):False:=by
 have:=wv.mp h _ (PySem.W.mem_of_lookupK e);have h2:(!(("list":String)=="list"))=true:=this;exact absurd h2 (by decide)
end L2
namespace Stb
open PySem SetTable
def Mk(m:Nat):Prop:=m=7\/m=31\/m=127
def F(M:Nat):Nat->Nat
 | 0=>0
 |n+1=>(F M n * 5+1) % M
def F_all7:∀j,j<8->∃a,a<8/\F 8 a=j:=by decide +kernel
def xAym:∀j,j<32->∃a,a<32/\F 32 a=j:=by decide +kernel
def xAtt:∀j,j<128->∃a,a<128/\F 128 a=j:=by decide +kernel
def F_all(h:Mk m):∀j,j<m+1->∃a,a<m+1/\F (m+1) a=j:=by
 rcases h with rfl|rfl|rfl
 ·exact F_all7
 ·exact xAym
 ·exact xAtt
def F_back(h:Mk m):F (m+1) (m+1)=0:=by
 rcases h with rfl|rfl|rfl <;> decide +kernel
def lp(m:Nat):Nat->Nat×Nat->Nat×Nat
 | 0,x=>x
 |r+1,x=>lp m r (leap m x.1 x.2)
def xAyn(m r a:Nat)(x:Nat×Nat):lp m (r+a) x=lp m a (lp m r x):=by
 induction r generalizing x with
 |zero=>rw[vm];rfl
 |succ r b=>rw[Nat.succ_add];exact b _
def lp_lt:∀(r:Nat) (x:Nat×Nat),x.1<m+1->(lp m r x).1<m+1
 | 0,_,h=>h
 |r+1,x,_=>lp_lt r _ (vp _ (yt _))
def xAyo(m:Nat):∀(r:Nat) (x:Nat×Nat),(lp m r x).2=x.2 / 32 ^ r
 | 0,x=>by rw[Nat.pow_zero,Nat.div_one];rfl
 |r+1,x=>by
  show(lp m r (leap m x.1 x.2)).2=_;rw[xAyo m r,show(leap m x.1 x.2).2=x.2 / 32 from rfl,Nat.div_div_eq_div_mul,Nat.pow_succ,yy]
def xAmk(m:Nat):∀(r a:Nat),lp m r (F (m+1) a,0)=(F (m+1) (a+r),0)
 | 0,_=>rfl
 |r+1,a=>by
  show lp m r (leap m (F (m+1) a) 0)=_
  have:leap m (F (m+1) a) 0=(F (m+1) (a+1),0):=by
   show((F (m+1) a * 5+1+0 / 32) % (m+1),0 / 32)=_;rw[Nat.zero_div,je];rfl
  rw[this,xAmk m r (a+1),Nat.add_right_comm,j9]
def F_per(h:Mk m)(n:Nat):F (m+1) (m+1+n)=F (m+1) n:=by
 induction n with
 |zero=>exact F_back h
 |succ n a =>
  show(F (m+1) (m+1+n) * 5+1) % (m+1)=_;rw[a];rfl
def reach(h:Mk m)(hi:i<m+1)(e:q<2 ^ 64)(g:j<m+1):∃r,r≤m+13/\(lp m r (i,q)).1=j:=by
 have h1:=lp_lt 13 (i,q) hi
 have h2:(lp m 13 (i,q)).2=0:=by
  rw[xAyo];exact Nat.div_eq_of_lt (qv e (by decide))
 obtain⟨a,k,f⟩:=F_all h _ h1;obtain⟨b,l,c⟩:=F_all h _ g;have d:lp m 13 (i,q)=(F (m+1) a,0):=Prod.ext f.symm h2
 by_cases q:a≤b
 ·refine⟨13+(b - a),by omega,?_⟩
  rw[xAyn,d,xAmk];show F (m+1) (a+(b - a))=j;rw[Nat.add_sub_cancel' q,c]
 ·refine⟨13+(m+1 - a+b),by omega,?_⟩
  rw[xAyn,d,xAmk];show F (m+1) (a+(m+1 - a+b))=j;rw[show a+(m+1 - a+b)=m+1+b from by omega,F_per h,c]
def adv(t:SetTable):Nat->Probe->Probe
 | 0,p=>p
 |n+1,p=>adv t n (t.advance p)
def xAfk(t:SetTable)(n a:Nat)(p:Probe):adv t (n+a) p=adv t a (adv t n p):=by
 induction n generalizing p with
 |zero=>rw[vm];rfl
 |succ n b=>rw[Nat.succ_add];exact b _
def at'(m i q:Nat):Probe:={ j:=i,more:=runEnd m i - i,i,perturb:=q,dummy:=none }
def xAml(t:SetTable):∀(c k:Nat) (p:Probe),p.more=c+k->adv t c p={ p with j:=p.j+c,more:=k }
 | 0,k,p,h=>by
  have:p.more=k:=by omega
  show p={ p with j:=p.j+0,more:=k };rw[←this];rfl
 |c+1,k,p,h=>by
  show adv t c (t.advance p)=_
  have e:t.advance p={ p with j:=p.j+1,more:=p.more - 1 }:=by
   unfold advance;rw[qt (by omega)]
  rw[e,xAml t c k _ (by show p.more - 1=c+k;omega)];show({ p with j:=p.j+1+c,more:=k }:Probe)={ p with j:=p.j+(c+1),more:=k };rw[show p.j+1+c=p.j+(c+1) from by omega]
def run_le(m i:Nat):runEnd m i - i≤9:=by
 unfold runEnd
 split <;> omega
def xAim(t:SetTable)(i q:Nat):adv t (runEnd t.mask i - i+1) (at' t.mask i q)=at' t.mask (leap t.mask i q).1 (leap t.mask i q).2:=by
 rw[xAfk,xAml t (runEnd t.mask i - i) 0 (at' t.mask i q) (by rw[je];rfl)];show t.advance { at' t.mask i q with j:=_,more:=0 }=_;unfold advance;rw[qs (by show ¬(0>0);omega)];rfl
def xAfl(t:SetTable):∀(r i q:Nat),∃n,n≤10 * r/\adv t n (at' t.mask i q)=at' t.mask (lp t.mask r (i,q)).1 (lp t.mask r (i,q)).2
 | 0,i,q=>⟨0,qd _,Y⟩
 |r+1,i,q=>by
  obtain⟨n,hn,e⟩:=xAfl t r (leap t.mask i q).1 (leap t.mask i q).2;have:=run_le t.mask i;refine⟨runEnd t.mask i - i+1+n,by omega,?_⟩;rw[xAfk,xAim,e];rfl
def xArk(h:Int):bits h<2 ^ 64:=by
 unfold bits;have h1:(0:Int)≤h % (2 ^ 64:Int):=Int.emod_nonneg _ (by decide);have h2:h % (2 ^ 64:Int)<2 ^ 64:=Int.emod_lt_of_pos _ (by decide);omega
def comes{t:SetTable}(a:Mk t.mask)(h:Int)(c:j<t.mask+1):∃n,n<10 * turns t.mask/\(adv t n (t.probeStart h)).j=j:=by
 have hi:bits h % (t.mask+1)<t.mask+1:=vp _ (yt _);obtain⟨r,d,b⟩:=reach a hi (xArk h) c;obtain⟨n,hn,e⟩:=xAfl t r (bits h % (t.mask+1)) (bits h);refine⟨n,by unfold turns;omega,?_⟩;show(adv t n (at' t.mask (bits h % (t.mask+1)) (bits h))).j=j;rw[e];exact b
def xAin(t:SetTable):∀(n:Nat) (p:Probe),(adv t n p).dummy=p.dummy
 | 0,_=>rfl
 |n+1,p=>by
  show(adv t n (t.advance p)).dummy=_;rw[xAin t n];unfold advance
  split <;> rfl
def xAmm{t:SetTable}(a:t.dummies=#[])(h:j∉t.place.toList):t.slot j=.empty:=by
 unfold slot
 have h1:¬(t.place[below t.place j]?==some j)=true:=λz=>by
  have z:=beq_iff_eq.mp z;exact h (qo (by rw[zf];exact z))
 have h2:¬(has t.dummies j)=true:=by rw[a];unfold has;simp
 simp only[h1,h2]
 rfl
def slot_live{t:SetTable}(h:t.slot j=.live i):i<t.place.size:=by
 unfold slot at h;dsimp only at h
 split at h
 ·rename_i h1
  injection h with h;rw[←h];exact(vq.mp (beq_iff_eq.mp h1)).1
 ·split at h <;> cases h
def slot_nodum{t:SetTable}(a:t.dummies=#[]):t.slot j≠.dummy:=by
 unfold slot;dsimp only
 split
 ·simp
 ·rw[qs (by rw[a];unfold has;simp)]
  simp
def xApr{l:List Nat}{M:Nat}(h:l.length<M):∃j,j<M/\j∉l:=by
 refine Classical.byContradiction λz=>?_;have:(List.range M).length≤l.length:=L2.nodup_len List.nodup_range λx a=>Classical.byContradiction λy=>z ⟨x,zm.mp a,y⟩;rw[vj]at this;omega
structure Way(t:SetTable)(h:Int)(N:Nat):Prop where
 few:N<10 * turns t.mask
 last:t.slot (adv t N (t.probeStart h)).j=.empty
 first:∀n,n<N->t.slot (adv t n (t.probeStart h)).j≠.empty
def way_of{t:SetTable}(f:Mk t.mask)(g:t.dummies=#[])(hf:t.place.size<t.mask+1)(h:Int):∃N,Way t h N:=by
 obtain⟨j,i,hn⟩:=xApr (l:=t.place.toList) (M:=t.mask+1) (by simpa using hf);obtain⟨n,a,e⟩:=comes f h i;have c:∃n,n<10 * turns t.mask/\t.slot (adv t n (t.probeStart h)).j=.empty:=⟨n,a,by rw[e];exact xAmm g hn⟩;clear a e n;obtain⟨n,h1,h2⟩:=c
 induction n using Nat.strongRecOn with
 |_ n d =>
  by_cases q:∃k,k<n/\t.slot (adv t k (t.probeStart h)).j=.empty
  ·obtain⟨k,b,e⟩:=q
   exact d k b (by omega) e
  ·exact⟨n,h1,h2,λk b e=>q ⟨k,b,e⟩⟩
def xAio:∀(r f i q:Nat),r<f->owner.getD (lp m r (i,q)).1 (some 0)=none->∃j,layClean.free m owner f i q=some j/\owner.getD j (some 0)=none
 |_,0,_,_,h,_=>absurd h (zv _)
 |r,f+1,i,q,h,a=>by
  unfold layClean.free
  cases e:(List.range (runEnd m i+1 - i)).find? λk=>(owner.getD (i+k) (some 0)).isNone with
  |some k =>
   have:=List.find?_some e;exact⟨i+k,Y,Option.isNone_iff_eq_none.mp this⟩
  |none =>
   cases r with
   |zero =>
    have h0:(0:Nat)∈List.range (runEnd m i+1 - i):=zm.mpr (by unfold runEnd;split <;> omega);have:=yq.mp e 0 h0;have a:owner.getD i (some 0)=none:=a;rw[je,a]at this;exact absurd rfl this
   |succ r =>
    dsimp only;exact xAio r f (leap m i q).1 (leap m i q).2 (by omega) a
def xAmn:∀{l:List (Option Nat)} {j:Nat},l[j]?=some none->((l.set j (some v)).filterMap id).Perm (v::l.filterMap id)
 |[],_,h=>by cases h
 |x::l,0,h=>by
  cases h;exact .refl _
 |x::l,j+1,h=>by
  have a:=xAmn (v:=v) (l:=l) (j:=j) (by simpa using h);rw[List.set_cons_succ]
  cases x with
  |none=>exact a
  |some y=>exact(a.cons y).trans (.swap _ _ _)
structure Lay(m k:Nat)(owner:Array (Option Nat)):Prop where
 size:owner.size=m+1
 perm:(owner.toList.filterMap id).Perm (List.range k)
def xAtu{m k:Nat}(f:Mk m)(L:Lay m k owner)(v:k<m+1)(h:Int):∃j,layClean.free m owner (turns m) (bits h % (m+1)) (bits h)=some j/\Lay m (k+1) (owner.setIfInBounds j (some k)):=by
 have d:∃j,j<m+1/\owner.getD j (some 0)=none:=by
  refine Classical.byContradiction λz=>?_
  have h1:owner.toList.length≤(owner.toList.filterMap id).length:=by
   have:∀l:List (Option Nat),(∀x∈l,x≠none)->l.length≤(l.filterMap id).length:=λl=>by
    induction l with
    |nil=>intro _;exact qd _
    |cons x l q =>
     intro b
     cases x with
     |none=>exact absurd rfl (b none ql)
     |some y=>exact wc (q λx f=>b x (qw _ f))
   refine this _ λx b e=>?_;obtain⟨i,hi,p⟩:=zn b
   have a:i<owner.size:=by simpa using hi
   refine z ⟨i,by rw[←L.size];exact a,?_⟩;rw[z7,qp a]
   have:owner[i]=none:=by
    have:=p.trans e;simpa using this
   rw[this];rfl
  have h2:=L.perm.length_eq;have A:=L.size
  simp at h1 h2
  omega
 obtain⟨w,g,t⟩:=d;obtain⟨r,B,u⟩:=reach f (vp (bits h) (yt m)) (xArk h) g;obtain⟨j,s,c⟩:=xAio (m:=m) (owner:=owner) r (turns m) (bits h % (m+1)) (bits h) (by unfold turns;omega) (by rw[u];exact t)
 have n:j<owner.size:=by
  refine Classical.byContradiction λz=>?_;rw[z7,yf (by omega)]at c;cases c
 have o:owner.toList[j]?=some none:=by
  rw[z7,qp n]at c;rw[zf,qp n];exact congrArg some c
 refine⟨j,s,by rw[Array.size_setIfInBounds];exact L.size,?_⟩;rw[Array.toList_setIfInBounds];refine(xAmn o).trans ?_;rw[ji];exact(L.perm.cons k).trans (kq k _).symm
def tm(m:Nat):SetTable:={ mask:=m,place:=#[],dummies:=#[],finger:=0,led:=false,moves:=0,plain:=true }
def wj(m:Nat)(h:Int)(n:Nat):Nat:=(adv (tm m) n (at' m (bits h % (m+1)) (bits h))).j
def xAyp(t:SetTable):∀(n:Nat) (p:Probe),adv t n p=adv (tm t.mask) n p
 | 0,_=>rfl
 |n+1,p=>xAyp t n (t.advance p)
def wj_eq(t:SetTable)(h:Int)(n:Nat):(adv t n (t.probeStart h)).j=wj t.mask h n:=by rw[xAyp];rfl
def Asc(xs:Array Nat):Prop:=∀(a b x y:Nat),xs[a]?=some x->xs[b]?=some y->a<b->x<y
def xAgs(hs:Asc xs):∀(f lo hi:Nat),lo≤hi->hi≤xs.size->hi - lo≤f->(∀a x,a<lo->xs[a]?=some x->x<j)->(∀a x,hi≤a->xs[a]?=some x->j≤x) →
  (∀a x,a<below.go xs j f lo hi->xs[a]?=some x->x<j)/\(∀a x,below.go xs j f lo hi≤a->xs[a]?=some x->j≤x)/\below.go xs j f lo hi≤xs.size
 | 0,lo,hi,h1,h2,h3,h4,h5=>by
  have:lo=hi:=by omega
  subst this;exact⟨h4,h5,h2⟩
 |f+1,lo,hi,h1,h2,h3,h4,h5=>by
  unfold below.go
  by_cases q:lo<hi
  ·rw[qt q]
   dsimp only
   have d:(lo+hi) / 2<xs.size:=by omega
   have b:xs[(lo+hi) / 2]?=some xs[(lo+hi) / 2]:=qp d;rw[z7,b,gb]
   by_cases c:xs[(lo+hi) / 2]<j
   ·rw[qt c]
    refine xAgs hs f _ _ (by omega) h2 (by omega) (λa x g ex=>?_) h5
    by_cases e:a=(lo+hi) / 2
    ·subst e;rw[b]at ex;cases ex;exact c
    ·exact wk (hs a _ x _ ex b (by omega)) c
   ·rw[qs c]
    refine xAgs hs f _ _ (by omega) (by omega) (by omega) h4 λa x g ex=>?_
    by_cases e:a=(lo+hi) / 2
    ·subst e;rw[b]at ex;cases ex;exact vi c
    ·exact qh (vi c) (ze (hs _ a _ x b ex (by omega)))
  ·rw[qs q]
   have:lo=hi:=by omega
   subst this;exact⟨h4,h5,h2⟩
def below_ok(hs:Asc xs)(j:Nat):(∀a x,a<below xs j->xs[a]?=some x->x<j)/\(∀a x,below xs j≤a->xs[a]?=some x->j≤x)/\below xs j≤xs.size :=
 xAgs hs xs.size 0 xs.size (qk _) (qd _) (by omega) (λa x h=>absurd h (zv _)) λa x h e=>by
  rw[yf h]at e;cases e
def xAtv(hs:Asc xs)(h:xs[i]?=some j):below xs j=i:=by
 obtain⟨h1,h2,b⟩:=below_ok hs j;rcases jh (below xs j) i with q|q|q
 ·have a:below xs j<xs.size:=wk q (vq.mp h).1
  have e:=qp a;have a1:=h2 _ _ (qd _) e;have a2:=hs _ _ _ _ e h q;omega
 ·exact q
 ·have:=h1 _ _ q h
  omega
def slot_at{t:SetTable}(hs:Asc t.place)(h:t.place[i]?=some j):t.slot j=.live i:=by
 unfold slot;dsimp only;rw[xAtv hs h,qt (by rw[h];exact beq_self_eq_true _)]
def slot_of{t:SetTable}(h:t.slot j=.live i):t.place[i]?=some j:=by
 unfold slot at h;dsimp only at h
 split at h
 ·rename_i h1
  injection h with h;rw[←h];exact beq_iff_eq.mp h1
 ·split at h <;> cases h
def get_insertAt{α:Type}(xs:Array α)(p:Nat)(x:α)(c:p≤xs.size)(i:Nat):(insertAt xs p x)[i]?=if i<p then xs[i]? else if i=p then some x else xs[i - 1]?:=by
 have e:(insertAt xs p x).toList=xs.toList.take p++x::xs.toList.drop p:=by
  unfold insertAt
  simp[Array.toList_extract,List.extract_eq_drop_take]
  rw[List.take_of_length_le (by simp)]
 rw[←zf,e,←zf,←zf]
 have b:(xs.toList.take p).length=p:=by rw[zj,qx];omega
 by_cases h1:i<p
 ·rw[qt h1,yk (by omega),kr,qt h1]
 ·rw[qs h1,yl (by omega),b]
  by_cases h2:i=p
  ·subst h2;rw[qt rfl,Nat.sub_self];rfl
  ·rw[qs h2]
   obtain⟨k,a⟩:∃k,i - p=k+1:=⟨i - p - 1,by omega⟩;rw[a,jj,ku,show p+k=i - 1 from by omega]
def Cn(m:Nat)(G:Nat->Prop)(j:Nat)(h:Int):Prop:=∃n,wj m h n=j/\∀k,k<n->G (wj m h k)
def Cn.mono(x:Cn m G j h)(g:∀k,G k->a k):Cn m a j h:=by
 obtain⟨n,e,q⟩:=x;exact⟨n,e,λk b=>g _ (q k b)⟩
structure Iv{α:Type}(m:Nat)(place:Array Nat)(es:Array (Int×α)):Prop where
 asc:Asc place
 size:place.size=es.size
 ch:∀(i j:Nat) (e:Int×α),place[i]?=some j->es[i]?=some e->Cn m (λk=>∃u:Nat,place[u]?=some k) j e.1
def Iv.put{α:Type}{m:Nat}{d:Array Nat}{es:Array (Int×α)}(I:Iv m d es){j:Nat}{e:Int×α}(A:∀u:Nat,d[u]?≠some j)(c:Cn m (λk=>∃u:Nat,d[u]?=some k) j e.1):Iv m (insertAt d (below d j) j) (insertAt es (below d j) e):=by
 obtain⟨h1,h2,r⟩:=below_ok I.asc j;have o:=r;rw[I.size]at o
 have up:∀k,(∃u:Nat,d[u]?=some k)->∃u:Nat,(insertAt d (below d j) j)[u]?=some k:=λk ⟨u,v⟩=>by
  by_cases q:u<below d j
  ·exact⟨u,by rw[get_insertAt _ _ _ r,qt q];exact v⟩
  ·exact⟨u+1,by rw[get_insertAt _ _ _ r,qs (by omega),qs (by omega)];exact v⟩
 refine⟨λa b x y l g t=>?_,?_,λi k f n h=>?_⟩
 ·rw[get_insertAt _ _ _ r]at l g
  split at l
  ·rename_i w
   split at g
   ·exact I.asc _ _ _ _ l g t
   ·rename_i B
    split at g
    ·cases g;exact h1 _ _ w l
    ·exact I.asc _ _ _ _ l g (by omega)
  ·rename_i w
   rw[qs (by omega),qs (by omega)]at g
   split at l
   ·rename_i q
    cases l;have:=h2 _ _ (by omega) g
    exact kx this λz=>A _ (by rw[z];exact g)
   ·exact I.asc _ _ _ _ l g (by omega)
 ·have:∀{β:Type} (xs:Array β) (p:Nat) (x:β),(insertAt xs p x).size=xs.size+1:=λxs p x=>by
   unfold insertAt
   simp only[Array.size_append,Array.size_push,Array.size_extract]
   omega
  rw[this,this,I.size]
 ·rw[get_insertAt _ _ _ r]at n
  rw[get_insertAt _ _ _ o]at h
  split at n
  ·rename_i q
   rw[qt q]at h;exact(I.ch _ _ _ n h).mono up
  ·rename_i q
   rw[qs q]at h
   split at n
   ·rename_i s
    rw[qt s]at h;cases n;cases h;exact c.mono up
   ·rename_i s
    rw[qs s]at h;exact(I.ch _ _ _ n h).mono up
def run_in(h:i<m+1):runEnd m i<m+1:=by unfold runEnd;split <;> omega
def i_run(m i:Nat):i≤runEnd m i:=by unfold runEnd;split <;> omega
def xAfm:∀(f i q j:Nat),i<m+1->layClean.free m owner f i q=some j->∃n,(adv (tm m) n (at' m i q)).j=j/\∀k,k<n->(adv (tm m) k (at' m i q)).j<m+1/\owner.getD (adv (tm m) k (at' m i q)).j (some 0)≠none
 | 0,_,_,_,_,h=>nomatch h
 |f+1,i,q,j,hi,h=>by
  have t:=run_in hi;have p:=i_run m i
  have b:∀k,k≤runEnd m i - i->(adv (tm m) k (at' m i q)).j=i+k:=λk d=>by
   rw[xAml (tm m) k (runEnd m i - i - k) (at' m i q) (by show runEnd m i - i=_;omega)];rfl
  unfold layClean.free at h
  cases e:(List.range (runEnd m i+1 - i)).find? λk=>(owner.getD (i+k) (some 0)).isNone with
  |some k =>
   rw[e]at h;cases h;obtain⟨g,c,s⟩:=List.find?_range_eq_some.mp e;have d:=zm.mp c;refine⟨k,b k (by omega),λl a=>?_⟩;rw[b l (by omega)];refine⟨by omega,λz=>?_⟩;have:=s l a;rw[z]at this;exact absurd this (by decide)
  |none =>
   rw[e]at h;dsimp only at h;have r:=yq.mp e;obtain⟨n,g,c⟩:=xAfm f _ _ j (vp _ (yt m)) h;have o:adv (tm m) (runEnd m i - i+1) (at' m i q)=at' m (leap m i q).1 (leap m i q).2:=xAim (tm m) i q;refine⟨runEnd m i - i+1+n,by rw[xAfk,o];exact g,λk d=>?_⟩
   by_cases a:k≤runEnd m i - i
   ·rw[b k a]
    refine⟨by omega,λz=>?_⟩;exact r k (zm.mpr (by omega)) (by rw[z];rfl)
   ·have:k=runEnd m i - i+1+(k - (runEnd m i - i+1)):=by omega
    rw[this,xAfk,o];exact c _ (by omega)
def Ow(m:Nat)(hs:List Int)(owner:Array (Option Nat)):Prop:=∀(j v:Nat),owner[j]?=some (some v)->∃h,hs[v]?=some h/\Cn m (λ(k:Nat)=>∃u,owner[k]?=some (some u)) j h
def xAmo(p:Mk m):∀(hs:List Int) (k:Nat) (owner:Array (Option Nat)),hs0.drop k=hs->Lay m k owner->Ow m hs0 owner->k+hs.length≤m->∃a ,(hs.foldl (λg h=>do
  let(owner,k) ←g
  let j ←layClean.free m owner (turns m) (bits h % (m+1)) (bits h)
  pure (owner.setIfInBounds j (some k),k+1)) (some (owner,k)))=some (a,k+hs.length)/\Lay m (k+hs.length) a/\Ow m hs0 a
 |[],k,owner,_,L,O,_=>⟨owner,Y,L,O⟩
 |h::hs,k,owner,hd,L,O,hk=>by
  rw[zc]at hk;obtain⟨j,o,z⟩:=xAtu p L (by omega) h
  have e:hs0[k]?=some h:=by
   have:=congrArg (·[0]?) hd
   simp only[List.getElem?_drop,Nat.add_zero]at this
   exact this
  have f:hs0.drop (k+1)=hs:=by
   have:=congrArg (List.drop 1) hd;rw[List.drop_drop]at this;exact this
  obtain⟨n,t,i⟩:=xAfm (turns m) _ _ j (vp _ (yt m)) o
  have tk:∀x:Nat,x<m+1->owner.getD x (some 0)≠none->∃u,owner[x]?=some (some u):=λx s hn=>by
   have c:x<owner.size:=by rw[L.size];exact s
   rw[z7,qp c,gb]at hn;rw[qp c]
   cases q:owner[x] with
   |none=>exact absurd q hn
   |some u=>exact⟨u,Y⟩
  have up:∀x:Nat,(∃u,owner[x]?=some (some u))->∃u,(owner.setIfInBounds j (some k))[x]?=some (some u):=λx ⟨u,l⟩=>by
   rw[ky]
   by_cases q:j=x
   ·subst q
    rw[qt rfl,qt (vq.mp l).1];exact⟨k,Y⟩
   ·rw[qs q];exact⟨u,l⟩
  have A:Ow m hs0 (owner.setIfInBounds j (some k)):=λx v b=>by
   rw[ky]at b
   by_cases q:j=x
   ·subst q
    rw[qt rfl]at b
    split at b
    ·cases b
     exact⟨h,e,n,t,λr d=>up _ (tk _ (i r d).1 (i r d).2)⟩
    ·cases b
   ·rw[qs q]at b
    obtain⟨h',a1,a2⟩:=O x v b;exact⟨h',a1,a2.mono up⟩
  obtain⟨o',w,B,y⟩:=xAmo p hs (k+1) _ f z A (by omega);refine⟨o',?_,by rw[zc,jq hs.length 1,←j9];exact B,y⟩;rw[yd,zc,jq hs.length 1,←j9,←w]
  congr 1
  show(do
   let j ←layClean.free m owner (turns m) (bits h % (m+1)) (bits h)
   pure (owner.setIfInBounds j (some k),k+1))=_
  rw[o];rfl
def laid_iv{m finger moves:Nat}{led plain:Bool}{hs:Array Int}(V:Mk m)(K:hs.size≤m):∃t d,laid m finger moves led plain hs=some (t,d)/\t.mask=m/\t.dummies=#[]/\t.place.size=hs.size/\d.toList.Perm (List.range hs.size)/\Asc t.place/\d.size=t.place.size/\∀(i j v:Nat),t.place[i]?=some j->d[i]?=some v->∃h,hs[v]?=some h/\Cn m (λk=>∃u:Nat,t.place[u]?=some k) j h:=by
 have T:Lay m 0 (Array.replicate (m+1) none):=⟨by simp,by
  have:∀n:Nat,(List.replicate n (none:Option Nat)).filterMap id=[]:=λn=>by
   induction n with
   |zero=>rfl
   |succ n X=>rw[wg];exact X
  rw[Array.toList_replicate,this]
  exact .nil⟩
 have Z:Ow m hs.toList (Array.replicate (m+1) none):=λj v h=>by
  rw[Array.getElem?_replicate]at h
  split at h <;> cases h
 obtain⟨o',H,L,O⟩:=xAmo V (hs0:=hs.toList) hs.toList 0 _ rfl T Z (by simpa using K);rw[vm]at H L
 have U:layClean m hs=some o':=by
  unfold layClean;rw[←Array.foldl_toList,H];rfl
 obtain⟨c,w⟩:∃c,c=(List.range (m+1)).filterMap λj=>(o'.getD j none).map (j,·):=⟨_,Y⟩
 have own:∀j v,j<m+1->(o'.getD j none=some v↔o'[j]?=some (some v)):=λj v D=>by
  have A:j<o'.size:=by rw[L.size];exact D
  rw[z7,qp A,gb];exact⟨λe=>congrArg some e,λe=>qC e⟩
 have s:∀x,x∈c↔o'[x.1]?=some (some x.2):=λx=>by
  rw[w,yh];constructor
  ·rintro⟨j,D,e⟩
   cases q:o'.getD j none with
   |none=>rw[q]at e;cases e
   |some v =>
    rw[q]at e;cases e;exact(own j v (zm.mp D)).mp q
  ·intro e
   have r:x.1<m+1:=by rw[←L.size];exact(vq.mp e).1
   exact⟨x.1,zm.mpr r,by rw[(own _ _ r).mpr e];rfl⟩
 have B:c.Pairwise λa b=>a.1<b.1:=by
  rw[w];refine List.pairwise_filterMap.mpr (List.Pairwise.imp (λ{a b} h x r y hy=>?_) List.pairwise_lt_range);obtain⟨u,_,rfl⟩:=wl.mp r;obtain⟨u',_,rfl⟩:=wl.mp hy;exact h
 have F:c.map (·.2)=o'.toList.filterMap id:=by
  rw[w,List.map_filterMap]
  have:o'.toList=(List.range (m+1)).map λj=>o'.getD j none:=by
   apply zy;intro i;rw[qi,zf]
   by_cases hi:i<m+1
   ·rw[wx hi,qp (by rw[L.size];exact hi)]
    show _=some (o'.getD i none);rw[z7,qp (by rw[L.size];exact hi)];rfl
   ·rw[Array.getElem?_eq_none (by rw[L.size];omega),List.getElem?_eq_none (by simpa using hi)]
    rfl
  rw[this,jp]
  congr 1
  funext j
  show((o'.getD j none).map (j,·)).map (·.2)=id (o'.getD j none);cases o'.getD j none <;> rfl
 have f:hs.toList.length=hs.size:=by simp
 have o:laid m finger moves led plain hs=some ({ mask:=m,place:=(c.map (·.1)).toArray,dummies:=#[],finger,led,moves,plain },(c.map (·.2)).toArray):=by
  unfold laid;rw[U,w];rfl
 have l:∀i j,(c.map (·.1)).toArray[i]?=some j->∃v,c[i]?=some (j,v):=λi j h=>by
  rw[w6,qi]at h;obtain⟨x,r,rfl⟩:=wl.mp h;exact⟨x.2,r⟩
 refine⟨_,_,o,Y,Y,?_,?_,?_,by simp,?_⟩
 ·have h1:=congrArg List.length F
  have h2:=L.perm.length_eq;rw[f,vj]at h2
  simp only[List.length_map]at h1
  simp only[List.size_toArray,List.length_map]
  rw[h1,h2]
 ·rw[gv,F,←f]
  exact L.perm
 ·intro a b x y R S z
  obtain⟨v1,M⟩:=l _ _ R;obtain⟨v2,W⟩:=l _ _ S;obtain⟨N,E⟩:=qy.mp M;obtain⟨Q,C⟩:=qy.mp W;have:=(wz.mp B) a b N Q z;rw[E,C]at this;exact this
 ·intro i j v J G
  obtain⟨I,g⟩:=l _ _ J;rw[w6,qi,g]at G;cases G;obtain⟨h,a1,a2⟩:=O j I ((s (j,I)).mp (qo g));refine⟨h,by rw[←zf];exact a1,a2.mono λk ⟨u,P⟩=>?_⟩;obtain⟨p,hp,ep⟩:=zn ((s (k,u)).mpr P);exact⟨p,by show(c.map (·.1)).toArray[p]?=_;rw[w6,qi,qf hp,ep];rfl⟩
end Stb
namespace L2
open PySem PySem.Spec PySem.W PyProof.Rows
section
variable {P:Program}{w:World}{A:Around}{E:Value->Shared->Prop}{s:Shared}
abbrev fh(P:Program)(w:World)(ks:List Key):Int:=(tupleKind (mixKind P w)).hash ks
abbrev FI(P:Program)(w:World)(h:Heap)(ks:List Key)(v:Value):Prop:=∃a,v=.ref a/\(tupleKind (mixKind P w)).is h ks a
def xAyq:∀{v:Value} (n:Nat) {s':Shared} {Q:Bool->Shared->Prop},carriedByValue v=true->(∀b,Q b s')->wpAny (model P w) A (hashByValue n v) Q E s':=by
 intro v n s' Q a h
 cases v <;> first|(cases n <;> exact qb (h _))|(exact absurd a (by simp[carriedByValue]))
def xAtw(g:(tupleKind (mixKind P w)).is s.heap ks a)(h:∀b,Q b s):wpAny (model P w) A (hashByValue 8 (.ref a)) Q E s:=by
 obtain⟨o,items,n,f,j,k,hi⟩:=g;have i:s.TypeIs (.ref a) "tuple":=⟨o,f,j⟩;unfold hashByValue;refine qa (wpAny_specialOf i F.slot_tuple_hash.lookup ?_);show wpAny _ _ (seqItems? (.ref a) >>= _) _ _ s;refine qa (wpAny_seqItems f k ?_);refine qa ?_;show wpAny _ _ (forIn items _ _) _ _ s;rw[←yo];refine wpAny_forIn_list _ (λrest r s'=>(r.1=none\/r.1=some false)/\s'=s/\∀v∈rest,carriedByValue v=true) _ ?_ ?_ _ _ ⟨.inl rfl,Y,hi.byValue⟩
 ·rintro v rest r s' ⟨e,rfl,c⟩
  refine qa (xAyq _ (c v ql) λb=>?_)
  cases b with
  |true =>
   simp only[Bool.not_true,Bool.false_eq_true,if_false]
   exact qb ⟨.inl rfl,Y,λu d=>c u (qw _ d)⟩
  |false =>
   simp only[Bool.not_false,if_true]
   exact qb (qb (h _))
 ·rintro⟨m,l⟩ s' ⟨e,rfl,_⟩
  simp only at e
  rcases e with rfl|rfl
  ·exact qb (h _)
  ·exact qb (h _)
def xAyr:∀{v:Value} (n:Nat) {s':Shared} {Q:Bool->Shared->Prop},carriedByValue v=true->Q false s'->wpAny (model P w) A (ofAClassStatement n v) Q E s':=by
 intro v n s' Q a h
 cases v <;> first|(cases n <;> exact qb h)|(exact absurd a (by simp[carriedByValue]))
def xAmp(f:(tupleKind (mixKind P w)).is s.heap ks a)(h:Q false s):wpAny (model P w) A (ofAClassStatement 8 (.ref a)) Q E s:=by
 obtain⟨o,items,n,e,i,j,hi⟩:=f;have g:s.TypeIs (.ref a) "tuple":=⟨o,e,i⟩;unfold ofAClassStatement;refine qa (wpAny_typeOf g ?_);dsimp only;rw[qt (by decide)];refine qa (qb ?_)
 simp only[Bool.not_true,Bool.false_eq_true,if_false]
 refine qa (wpAny_seqItems e j ?_);dsimp only;refine qa ?_;show wpAny _ _ (forIn items _ _) _ _ s;rw[←yo];refine wpAny_forIn_list _ (λrest r s'=>r.1=none/\s'=s/\∀v∈rest,carriedByValue v=true) _ ?_ ?_ _ _ ⟨Y,Y,hi.byValue⟩
 ·rintro v rest r s' ⟨d,rfl,b⟩
  refine qa (xAyr _ (b v ql) ?_)
  simp only[Bool.false_eq_true,if_false]
  exact qb ⟨Y,Y,λu c=>b u (qw _ c)⟩
 ·rintro⟨l,k⟩ s' ⟨d,rfl,_⟩
  simp only at d
  subst d;exact qb h
def xAtx(i:(tupleKind (mixKind P w)).is s.heap ks a)(l:∀y∈ys,∃f,FI P w s.heap f y)(h:Q false s):wpAny (model P w) A (searchCouldBeSeen (.ref a) ys) Q E s:=by
 unfold searchCouldBeSeen;refine qa ?_;refine wpAny_forIn_list _ (λrest r s'=>r.1=none/\s'=s/\∀y∈rest,∃f,FI P w s.heap f y) _ ?_ ?_ _ _ ⟨Y,Y,l⟩
 ·rintro v rest r s' ⟨g,rfl,c⟩
  obtain⟨f,b,rfl,j⟩:=c v ql;dsimp only
  by_cases e:(a==b)=true
  ·rw[e]
   simp only[Bool.true_or,if_true]
   exact qb ⟨Y,Y,λu d=>c u (qw _ d)⟩
  ·have k:(a==b||carriedByValue (.ref a)&&carriedByValue (.ref b))=false:=by simp[Bool.eq_false_iff.mpr e,carriedByValue]
   rw[k]
   simp only[Bool.false_eq_true,if_false]
   refine qa (xAcf (m:=7) i ?_)
   simp only[Bool.not_true,Bool.false_eq_true,if_false]
   refine qa (xAcf (m:=7) j ?_)
   simp only[Bool.not_true,Bool.false_eq_true,if_false]
   refine qa (xAmp i ?_)
   simp only[Bool.false_eq_true,if_false]
   refine qa (xAmp j ?_)
   simp only[Bool.false_eq_true,if_false]
   exact qb ⟨Y,Y,λu d=>c u (qw _ d)⟩
 ·rintro⟨o,n⟩ s' ⟨g,rfl,_⟩
  simp only at g
  subst g;exact qb h
end
def Tk(t:SetTable)(n:Nat):Prop:=t.dummies=#[]/\t.place.size=n/\(t.mask=7/\n≤4\/t.mask=31/\n≤18\/t.mask=127/\n≤76)
def Tk.mk{t:SetTable}(h:Tk t n):Stb.Mk t.mask:=by
 rcases h.2.2 with h|h|h
 ·exact .inl h.1
 ·exact .inr (.inl h.1)
 ·exact .inr (.inr h.1)
def Tk.fits{t:SetTable}(h:Tk t n):t.fits n=true:=by
 unfold SetTable.fits SetTable.fill;rw[h.1,h.2.1,beq_self_eq_true,gc];refine qF ?_;show n+0≤t.mask;have:=h.2.2;omega
def Tk.odd{t:SetTable}(h:Tk t n):t.gaveWay=false:=by
 unfold SetTable.gaveWay;rcases h.2.2 with h|h|h <;> rw[h.1] <;> rfl
section
variable {P:Program}{w:World}{A:Around}{E:Value->Shared->Prop}{s:Shared}
def xAbk{α:Type}(xs:Array α)(p:Nat)(x:α):(SetTable.insertAt xs p x).size=xs.size+1:=by
 unfold SetTable.insertAt
 simp only[Array.size_append,Array.size_push,Array.size_extract]
 omega
def FI.ext(x:FI P w h ks v)(k:∀b o,h.get? b=some o->o.cls=.type "tuple"->h'.get? b=some o):FI P w h' ks v:=by
 obtain⟨a,e,o,c,n,h1,h2,d,f⟩:=x;exact⟨a,e,o,c,n,k _ _ h1 h2,h2,d,f⟩
def xAmq{a:Addr}{o:Obj}{es es1:Array (Int×Value)}{ep:Nat}{t t1:SetTable}{h:Heap}(c:h.get? a=some o)(b:o.data=.set es ep t):(h.update a (Obj.putSet es1 t1)).get? a=some { o with data:=.set es1 (ep+1) t1 }:=by
 have:=Heap.get?_update_self (Obj.putSet es1 t1) c (by rw[putSet_of es1 t1 b];rfl);rw[putSet_of es1 t1 b]at this;exact this
def xAfn{α:Type}:∀l:List α,(List.range l.length).filterMap (λi=>l[i]?)=l
 |[]=>rfl
 |x::l=>by
  rw[zc,j6,kz (f:=λi=>(x::l)[i]?) (a:=0) (b:=x) rfl,jp]
  congr 1
  have:((λ(i:Nat)=>(x::l)[i]?)∘Nat.succ)=λ(i:Nat)=>l[i]?:=by
   funext i
   exact jj
  rw[this];exact xAfn l
def xAmr{α:Type}(es:Array α):(List.range es.size).filterMap (λi=>es[i]?)=es.toList:=by
 have h:=xAfn es.toList;rw[qx]at h
 have e:(λ(i:Nat)=>es.toList[i]?)=λ(i:Nat)=>es[i]?:=by
  funext i
  rw[zf]
 rw[e]at h;exact h
end
section
variable {P:Program}{w:World}{A:Around}{R:Result->Shared->Prop}{s:Shared}{E:Value->Shared->Prop}
def LI(P:Program)(w:World)(h:Heap)(items:Array Value)(kk:List (List Key)):Prop:=items.size=kk.length/\∀(i:Nat) v ks,items[i]?=some v->kk[i]?=some ks->FI P w h ks v
def xAty{h:Heap}{a b:Addr}{o o':Obj}{T U:String}(e:h.get? a=some o)(c:o.cls=.type T)(f:h.get? b=some o')(d:o'.cls=.type U)(n:T≠U):a≠b:=λz=>by
 rw[z,f]at e;cases e;rw[c]at d;injection d with d;exact n d
def LI.ext(x:LI P w h items kk)(k:∀b o,h.get? b=some o->o.cls=.type "tuple"->h'.get? b=some o):LI P w h' items kk:=⟨x.1,λi v ks c a=>FI.ext (x.2 i v ks c a) k⟩
end
section
variable {X:Cx}{a b e:Expr}{ta tb te:TE}{es:List Expr}{t:TA}{pos p:Pos}
def NmK(X:Cx)(i:Nat)(x:Str)(k:NameKind):Prop:=(X.N[i]?,X.env.scope.names.lookup x,(x==("__debug__":Str)),(x==("__classdict__":Str)))=(some x,some k,false,false)
def vv(i:Nat)(h:NmK X i x .local:=by exact rfl):PE X (.Name x pos) (tVar i):=pv i (congrArg (·.1) h) (.inl (congrArg (·.2.1) h)) (congrArg (·.2.2.1) h) (congrArg (·.2.2.2) h)
def vc(i:Nat)(h:NmK X i x .cell:=by exact rfl):PE X (.Name x pos) (tVar i):=pv i (congrArg (·.1) h) (.inr (.inl (congrArg (·.2.1) h))) (congrArg (·.2.2.1) h) (congrArg (·.2.2.2) h)
def St1(X:Cx)(e:Expr):Prop:=∀es,starEach (e::es) X.env=(false,eval e X.env)::starEach es X.env
def a1(b:PE X a ta)(h:St1 X a:=by exact λ_=>rfl):PA X [a] (tCons ta tNil):=xAjt b xAdt (h _)
def a2(c:PE X a ta)(d:PE X b tb)(h:St1 X a:=by exact λ_=>rfl)(h2:St1 X b:=by exact λ_=>rfl):PA X [a,b] (tCons ta (tCons tb tNil)):=xAjt c (a1 d h2) (h _)
def ac{t:TA}(c:PE X a ta)(b:PA X es t)(h:St1 X a:=by exact λ_=>rfl):PA X (a::es) (tCons ta t):=xAjt c b (h _)
def xt(b:PE X a ta):PE X (.Subscript a (.Constant (.int i) j p) pos) (tOp (rIxT) ta (tC (.int i))):=pe_ix xAvc b xAab (λ_ _=>rfl)
def xl(b:PE X a ta):PE X (.Subscript a (.Constant (.int i) j p) pos) (tOp (rIxL) ta (tC (.int i))):=pe_ix xAjx b xAab (λ_ _=>rfl)
def xa(c:PE X a ta)(d:PE X b tb)(hs:PlainIx b:=by exact λ_ _=>rfl):PE X (.Subscript a b pos) (tOp (rIxA) ta tb):=pe_ix ix_any c d hs
def xi(c:PE X a ta)(d:PE X b tb)(hs:PlainIx b:=by exact λ_ _=>rfl):PE X (.Subscript a b pos) (tOp (rIxL) ta tb):=pe_ix xAjx c d hs
def xu(c:PE X a ta)(d:PE X b tb)(hs:PlainIx b:=by exact λ_ _=>rfl):PE X (.Subscript a b pos) (tOp (rIxT) ta tb):=pe_ix xAvc c d hs
def ce(f:OpR X (compareOp op) r)(d:PE X a ta)(e:PE X b tb)(c:behindInMarks op b=false:=by exact rfl):PE X (.Compare a [op] [b] pos) (tOp r ta tb):=xAuw f d e c
def ck(f:OpR X (compareOp op) r)(d:PE X a ta)(e:PE X b tb)(c:behindInMarks op b=false:=by exact rfl):PT X (.Compare a [op] [b] pos) (tTest (tOp r ta tb)):=xAux f d e c
structure FnB(P:Program)(w:World)(K:PySem.W.Frag)(mg:Str->Option Value)(base:Heap)(k:Nat)(x:Str)(ps:List Str)(sp:Sp):Prop where
 out:∃f fd,FnOk P w K mg base CX0 k f fd ps sp/\mg x=some (.ref f)/\PySem.W.keepIn K (.ref f)=true/\Binds K fd ps []
variable {k n:Nat}{x:Str}{ps:List Str}{sp:Sp}
def cl(F:FnB X.prog X.w X.K X.mg X.base k x ps sp)(l:Room n X.A)(j:PA X (e::es) t)(d:k≤n:=by decide)(h:Gl X x:=by exact rfl)(a:(x==("__debug__":Str))=false:=by exact rfl)(g:St1 X e:=by exact λ_=>rfl)(b:(backTo pos (starEach es X.env)).any (·.1)=false:=by exact rfl) :
  PE X (.Call (.Name x p) (e::es) [] pos) (tCall sp [] E0 t):=by
 obtain⟨f,fd,F,i,c,m⟩:=F.out;exact xAqg F (l.mono d) h i c m .nil pass0 j a (g _) b
def cb{id:String}{r:List V->Hp->VK->Prop}(h:CallR X (.builtin id) r)(f:X.mg x=none)(i:bootBuiltins x=some (.builtin id))(g:PA X (e::es) t)(d:Gl X x:=by exact rfl)(hn:x≠"__name__":=by decide)(a:(x==("__debug__":Str))=false:=by exact rfl)(c:St1 X e:=by exact λ_=>rfl)(b:(backTo pos (starEach es X.env)).any (·.1)=false:=by exact rfl):PE X (.Call (.Name x p) (e::es) [] pos) (tCB r t):=xAsa h d f i g hn a (c _) b
def cy(h:CallR X (.type T) r)(f:X.mg x=none)(i:bootBuiltins x=some (.type T))(g:PA X (e::es) t)(d:Gl X x:=by exact rfl)(hn:x≠"__name__":=by decide)(a:(x==("__debug__":Str))=false:=by exact rfl)(c:St1 X e:=by exact λ_=>rfl)(b:(backTo pos (starEach es X.env)).any (·.1)=false:=by exact rfl):PE X (.Call (.Name x p) (e::es) [] pos) (tCB r t):=xAny h d f i g hn a (c _) b
def sn(b:X.N.Nodup)(i:Nat)(c:PE X e te)(hi:X.N[i]?=some x:=by exact rfl)(a:X.env.scope.names.lookup x=some .local:=by exact rfl)(hs:swapsWith e (some (.Name x pos')) pos.line X.env=pure false:=by exact rfl):PS X (.Assign [.Name x pos'] e pos) (tAsg te (gName i)):=xAup b hi (.inl a) c hs (.inr a)
def sm(a:X.N.Nodup)(i:Nat)(c:PE X e te)(hi:X.N[i]?=some x:=by exact rfl)(b:X.env.scope.names.lookup x=some .cell:=by exact rfl)(hs:swapsWith e (some (.Name x pos')) pos.line X.env=pure false:=by exact rfl)(hf:X.fn x=true:=by exact rfl):PS X (.Assign [.Name x pos'] e pos) (tAsg te (gName i)):=xAup a hi (.inr b) c hs (.inl hf)
def gn(b:X.N.Nodup)(i:Nat)(hi:X.N[i]?=some x:=by exact rfl)(a:X.env.scope.names.lookup x=some .local:=by exact rfl):PG X (.Name x pos) (gName i):=xAbp b hi (.inl a) (.inr a)
def gm(a:X.N.Nodup)(i:Nat)(hi:X.N[i]?=some x:=by exact rfl)(b:X.env.scope.names.lookup x=some .cell:=by exact rfl)(hf:X.fn x=true:=by exact rfl):PG X (.Name x pos) (gName i):=xAbp a hi (.inr b) (.inl hf)
def gt{k:Nat}(h:PGs X es u)(b:X.calm=true:=by exact rfl)(hn:(assignEach es X.env).length=n:=by exact rfl)(a:(assignEach es X.env).findIdx? (·.1)=none:=by exact rfl):PG X (.Tuple es k pos) (gTup n u):=xAns b h hn a
def fo{tg a:Expr}{b:List Stmt}{c:TI}{g:TG}{tb:TS}(hi:PI X tg a c)(d:PG X tg g)(h:PSs X b tb)(f:PassesOwn (model X.prog X.w) X.A X.env X.xe:=by exact PassesOwn.never)(e:X.calm=true:=by exact rfl)(hs:∀x,foldedSetIterable a X.env x=pure x:=by exact λ_=>rfl):PS X (.For tg a b [] pos) (tFor c g tb):=xAur f e hi d h hs
def il{tl:TE}(a:PE X l tl):PI X tg l (iList tl):=xAuq a
def bm{o:Expr}{to:TE}{name:Str}{T id:String}{apos:Pos}{r:V->List V->Hp->VK->Prop}(j:PlainAttrs T)(f:Slot T name id)(g:typeOf (.builtin id)=pure (.type "method_descriptor"))(h:MtR X id r)(k:PE X o to)(i:PA X (e::es) t)(b:attributeBase o name X.env (eval o X.env)=eval o X.env:=by exact rfl)(d:((backTo pos (starEach (e::es) X.env)).all (λx=>!x.1)&&(backToKw pos (keywordEach [] X.env)).all (λx=>x.1.isSome)&&decide ((e::es).length+([]:List Keyword).length+(if([]:List Keyword).isEmpty then 0 else 1)<30))=true:=by exact rfl)(c:(apos.endLine==pos.line)=true:=by exact rfl)(hs:St1 X e:=by exact λ_=>rfl)(a:(backTo pos (starEach es X.env)).any (·.1)=false:=by exact rfl) :
  PE X (.Call (.Attribute o name apos) (e::es) [] pos) (tBM T r to t):=pe_bm j f g h k i b d c (hs _) a
def ap{to:TE}(f:PE X o to)(d:PA X [e] t)(a:attributeBase o "append" X.env (eval o X.env)=eval o X.env:=by exact rfl)(hs:St1 X e:=by exact λ_=>rfl)(c:((backTo pos (starEach [e] X.env)).all (λx=>!x.1)&&(backToKw pos (keywordEach [] X.env)).all (λx=>x.1.isSome)&&decide (([e]:List Expr).length+([]:List Keyword).length+(if([]:List Keyword).isEmpty then 0 else 1)<30))=true:=by exact rfl)(b:(apos.endLine==pos.line)=true:=by exact rfl):PS X (.Expr (.Call (.Attribute o "append" apos) [e] [] pos) p2) (tDrop (tBM "list" rAppend to t)) :=
 xAqe (bm PySem.F.plainAttrs_list PySem.F.slot_list_append PySem.F.type_list_append xAoa f d a c b hs rfl)
def nd1{y:Str}:[y].Nodup:=zu.mpr ⟨y7,wm⟩
def eqD(a:Room n X.A):OpR X (compareOp .Eq) (rEqD 64 false):=op_eqD (hu64 a)
def neD(a:Room n X.A):OpR X (compareOp .NotEq) (rEqD 64 true):=op_neD (hu64 a)
def niD(a:Room n X.A):OpR X (compareOp .NotIn) (rInD 63 true):=xAol (hu63 a)
def isq:OpR X (compareOp .In) (rIn false):=xAnz
def nsq:OpR X (compareOp .NotIn) (rIn true):=xAfy
def enl(a:Room n X.A):OpR X (compareOp .Eq) (Rop_eqNil):=xAsj a.units0
def smI(a:X.calm=true:=by exact rfl):CallR X (.builtin "sum") (rSum 1000000):=xAoo 1000000 a
def ixD(a:Room n X.A):MtR X "list.index" (rIndexD 61):=xAom (hu61 a)
def cnD(a:Room n X.A):MtR X "list.count" (rCountD 61):=xAon (hu61 a)
def soV{tl:TE}(F:FnB X.prog X.w X.K X.mg X.base k y ps sp)(t:Room n X.A)(q:X.mg x=none)(u:bootBuiltins x=some (.builtin "sorted"))(m:PE X l tl)(j:k+1≤n:=by decide)(i:X.calm=true:=by exact rfl)(o:Gl X x:=by exact rfl)(c:Gl X y:=by exact rfl)(e:ps.length=1:=by exact rfl)(hn:x≠"__name__":=by decide)(d:(x==("__debug__":Str))=false:=by exact rfl)(g:(y==("__debug__":Str))=false:=by exact rfl)(a:attributeBase l "values" X.env (eval l X.env)=eval l X.env:=by exact rfl)(b:(apos.endLine==cpos.line)=true:=by exact rfl) :
  PE X (.Call (.Name x p) [.Call (.Attribute l "values" apos) [] [] cpos] [⟨some "key",.Name y v,kp⟩] pos) (tSortV sp tl):=by
 obtain⟨f,fd,F,h,s,r⟩:=F.out;exact xAtj F (t.mono j) i o q u c h r e m hn d g a b rfl
def lc0{y:Str}{f:Pos}{a c:Expr}{e:List Expr}{b:Scope}{g:TI}{h:TT}{te:TE}(hi:PI X (.Name y f) a g)(k:∀s H d,PTs (compCx X [y] b [] s H d) e h)(i:∀s H d,PE (compCx X [y] b [] s H d) c te)(l:X.calm=true:=by exact rfl)(S:CompSc b:=by exact⟨Y,by decide +kernel,by decide +kernel⟩)(C:Caps X b [] []:=by exact caps0 (by decide +kernel))(j:∀s H d,PG (compCx X [y] b [] s H d) (.Name y f) (gName 0):=by exact λ_ _ _=>xAbp (nd1) rfl (.inl rfl) (.inr rfl))(hs:∀x,foldedSetIterable a X.env x=pure x:=by exact λ_=>rfl) :
  PE X (.ListComp c [⟨.Name y f,a,e,0⟩] b pos) (tLC [y] [] g (gName 0) h te):=xAdd (own:=[y]) (fr:=[]) l hi S C j (λ_=>xAdb rfl) k i hs
def lcd(a:Scope)(N:List Str)(fr:List (Str×Nat)){y:Str}{r:Pos}{d j:Expr}{l:List Expr}{b:Scope}{o:TI}{q:TT}{te:TE}(hi:PI X (.Name y r) d o)(w:∀s H n,PTs (compCx X (y::fr.map (·.1)) b (clo X.env b.names []) s H n) l q)(v:∀s H n,PE (compCx X (y::fr.map (·.1)) b (clo X.env b.names []) s H n) j te)(t:X.calm=true:=by exact rfl)(S:CompSc b:=by exact⟨Y,by decide +kernel,by decide +kernel⟩)(h1:X.env.scope=a:=by exact rfl)(h2:X.N=N:=by exact rfl)(u:∀x,X.env.kindOf x=some .cell->∃c,X.env.cells.lookup x=some c:=by exact λ_ h=>xAeg h)(g:∀y∈b.names,y.2≠.cell:=by decide +kernel)(f:∀y∈b.names,y.2=.free->a.names.lookup y.1=some .cell:=by decide +kernel)(i:∀p∈fr,N[p.2]?=some p.1/\a.names.lookup p.1=some .cell/\(relabel b { scope:=a,locals:=0,globals:=0,cells:=[] }).names.lookup p.1=some .cell:=by decide +kernel)(m:(y::fr.map (·.1)).Nodup:=by decide +kernel)(z:(relabel b { scope:=a,locals:=0,globals:=0,cells:=[] }).names.lookup y=some .local:=by decide +kernel)(hs:∀x,foldedSetIterable d X.env x=pure x:=by exact λ_=>rfl) :
  PE X (.ListComp j [⟨.Name y r,d,l,0⟩] b pos) (tLC [y] fr o (gName 0) q te):=by
 have k:(relabel b X.env).names.lookup y=some .local:=by
  have e:relabel b X.env=relabel b { scope:=a,locals:=0,globals:=0,cells:=[] }:=by
   unfold relabel Env.kindOf;rw[h1]
  rw[e];exact z
 exact xAdd (own:=[y]) (fr:=fr) t hi S (xAki a N h1 h2 u g f i) (λ_ _ _=>xAbp m rfl (.inl k) (.inr k)) (λ_=>xAdb rfl) w v hs
end
section
variable {X:Cx}{a b e o:Expr}{ta tb te to:TE}{es:List Expr}{t:TA}{pos p apos:Pos}{k n:Nat}{x m f:Str}{ps:List Str}{sp:Sp}{C:Addr}{bb:Bool}
inductive ItFldC(C:Addr)(f:Str)(Q:VK)(x:V)(H:Hp):Prop
 |mk (a dx:Addr) (fs:List (Str×V)) (v:V) (h0:x=.ref a) (h1:H a=some (.ins C dx fs)) (h2:fs.lookup f=some v) (h3:Q v H):ItFldC C f Q x H
def tFldC(C:Addr)(f:Str)(ta:TE):TE:=λσ H Q=>ta σ H λx H1=>ItFldC C f Q x H1
def fd(c:Cls X.K C)(i:NoAttr X.K C f)(g:PE X a ta)(m:attributeBase a f X.env (eval a X.env)=eval a X.env:=by exact rfl):PE X (.Attribute a f pos) (tFldC C f ta):=by
 refine⟨?_⟩;intro pins s σ H Q I h;refine xAqf m (thn (g pins s σ H _ I h) λu p ⟨x,H1,d,j,a,dx,fs,v,ex,k,l,q⟩=>?_);subst ex;obtain rfl:u=Value.ref a:=j;exact xAjo d k c i l λo n e b=>⟨v,H1,e,b,q⟩
end
section
variable {X:Cx}{a b e o:Expr}{ta tb te to tv:TE}{es:List Expr}{t:TA}{pos p apos:Pos}{k n:Nat}{x m f:Str}{ps:List Str}{sp:Sp}{C:Addr}{bb:Bool}
inductive IsFldC(C:Addr)(f:Str)(D:Ends)(σ:St)(y x:V)(H:Hp):Prop
 |mk (a dx:Addr) (fs:List (Str×V)) (h0:x=.ref a) (h1:H a=some (.ins C dx fs)) (h2:fs.length<1000) (h3:D.nx σ (upd H a (.ins C dx (putF f y fs)))):IsFldC C f D σ y x H
def sFldC(C:Addr)(f:Str)(ta tv:TE):TS:=λD σ H=>tv σ H λy H1=>ta σ H1 λx H2=>IsFldC C f D σ y x H2
def sf(c:Cls X.K C)(m:NoAttr X.K C f)(k:PE X o ta)(r:PE X e tv)(hs:swapsWith e (some (.Attribute o f pos')) pos.line X.env=pure false:=by exact rfl):PS X (.Assign [.Attribute o f pos'] e pos) (sFldC C f ta tv):=by
 refine⟨?_⟩;intro pins s σ H D I h;refine plainObj_wpAny_Assign_Attribute (thn (r pins s σ H _ I h) λu v ⟨y,H1,d,p,q⟩=>thn (k pins v σ H1 _ d q) λg w ⟨x,H2,j,n,a,dx,fs,ex,t,l,b⟩=>?_) hs;subst ex;obtain rfl:g=Value.ref a:=n;exact xAjq j t c m l p λz i=>⟨σ,_,i,b⟩
structure FnM(P:Program)(w:World)(K:PySem.W.Frag)(mg:Str->Option Value)(base:Heap)(k:Nat)(C:Addr)(m:Str)(ps:List Str)(sp:Sp)(bb:Bool):Prop where
 out:∃f fd,FnOk P w K mg base CX0 k f fd ps sp/\Meth K C m f/\Binds K fd ps []/\(bb=true->Bnd K C m f)
def me0(c:Cls X.K C)(F:FnM X.prog X.w X.K X.mg X.base k C m ps sp bb)(e:Room n X.A)(h:PE X o to)(a:k≤n:=by decide)(d:eval (.Call (.Attribute o m apos) [] [] pos) X.env=(do
   let ov ←eval o X.env
   standAt apos.atName
   let(f,first) ←holding [ov] (getMethod ov m pl)
   callWith pos f first (backTo pos (starEach [] X.env)) (backToKw pos (keywordEach [] X.env))):=by exact rfl):PE X (.Call (.Attribute o m apos) [] [] pos) (tMeth C m sp [] E0 to tNil):=by
 obtain⟨f,fd,F,b,g,_⟩:=F.out;exact xAry h c b F (e.mono a) g .nil pass0 d
def soB(c:Cls X.K C)(F:FnM X.prog X.w X.K X.mg X.base k C m ps sp true)(s:Room n X.A)(l:X.mg x=none)(u:bootBuiltins x=some (.builtin "sorted"))(r:PA X [e] t)(y:PE X o to)(h:k+1≤n:=by decide)(j:Gl X x:=by exact rfl)(d:ps.length=2:=by exact rfl)(hn:x≠"__name__":=by decide)(a:(x==("__debug__":Str))=false:=by exact rfl)(b:attributeBase o m X.env (eval o X.env)=eval o X.env:=by exact rfl)(i:St1 X e:=by exact λ_=>rfl) :
  PE X (.Call (.Name x p) [e] [⟨some "key",.Attribute o m apos,kp⟩] pos) (tSortB C m sp t to):=by
 obtain⟨f,fd,F,q,v,g⟩:=F.out;exact xAtk F (s.mono h) j l u c (g rfl) v d r y hn a b (i _)
end
structure MO(K:PySem.W.Frag)(C:Addr)(m q:Str)(bb:Bool)(st:Stmt):Prop where
 out:∃f fd,Fun K m q st f fd/\Meth K C m f/\(bb=true->Bnd K C m f)
section
variable {P:Program}{w:World}{K:PySem.W.Frag}{mg:Str->Option Value}{base:Heap}{m q:Str}{st:Stmt}{N ps:List Str}{k:Nat}{sp:Sp}{C:Addr}{bb:Bool}
def xAps(F:MO K C m q bb st)(S:FnScope N ps (defScope st))(i:∀(kV c e:Value) (j:Option Addr) (a h:Value) (us:List Value),us.length=ps.length->bindArgs (PySem.W.fnOf m q (defArgs st) (defBody st) (defScope st) .none kV c e j a h) ⟨us,[]⟩=pure (ps.zip us))(len:∀vs H Q E,sp vs H Q E->vs.length=ps.length)(b:∀(f:Addr) (a:Value) (A:Around) (outer:List Env) (s:Shared) (H:Hp) (vs:List V) (Q:VK) (E:XK),Room k (A.deeper (envOfC q (defScope st) s.heap.objs.size f a))->sp vs H Q E →
   ∃t,PSs (cxOf CX0 P w K mg base N q (defScope st) f a A outer s H E).nox (defBody st) t/\t { nx:=λ_ H'=>Q .non H',rt:=Q } (start N vs) H):FnM P w K mg base (k+1) C m ps sp bb:=by
 obtain⟨f,fd,F,g,d⟩:=F.out;exact⟨f,fd,F.ok S len (b f),g,F.binds i,d⟩
end
inductive CX(K:PySem.W.Frag)(C:Addr):Prop
 |mk (z1:PySem.W.plainGet K C Str.empty=true) (z2:PySem.W.hasDictIn K C=true) (z3:PySem.W.plainOver K C=true) (z4:PySem.W.findIn K (.ref C) "__setattr__"=some (some (.builtin "object.__setattr__"))) (z5:PySem.W.makesIn K C=true) (z6:PySem.W.keepIn K (.ref C)=true):CX K C
def CX.out{K:PySem.W.Frag}{C:Addr}(h:CX K C):Cls K C/\PySem.W.makesIn K C=true/\PySem.W.keepIn K (.ref C)=true:=by
 obtain⟨d,b,a,e,f,c⟩:=h;exact⟨⟨d,b,a,e⟩,f,c⟩
inductive MX(K:PySem.W.Frag)(C:Addr)(n q:Str)(b:Bool)(s:Stmt):Prop
 |mk {a:Addr} {od an:Option Addr} {sl:Array (Option Value)} {oc kV dc pm cd ct:Value} (z1:PySem.W.findIn K (.ref C) n=some (some (.ref a))) (z2:K.lookup a=some ⟨oc,od,.func (PySem.W.fnOf n q (defArgs s) (defBody s) (defScope s) .none kV dc pm an cd ct),sl⟩) (z3:PySem.W.codeIn K cd q=true) (z4:PySem.W.keepIn K (.ref a)=true) (z5:PySem.W.isFn K (.ref a)=true) (z6:b=true->PySem.W.specialIn K (.ref a) "__get__"=some (some (.builtin "function.__get__"))/\PySem.W.takesIn K (.ref a)=some false):MX K C n q b s
def MX.mo{K:PySem.W.Frag}{C:Addr}{n q:Str}{b:Bool}{s:Stmt}(h:MX K C n q b s)(f:b=true->copiedNames.contains n=false):MO K C n q b s:=by
 obtain⟨d,i,g,a,e,c⟩:=h;exact⟨_,_,xAsf (st:=s) i g a,⟨d,e,a⟩,λh=>⟨⟨d,e,a⟩,(c h).1,(c h).2,f h⟩⟩
structure FO(K:PySem.W.Frag)(mg:Str->Option Value)(x:Str)(st:Stmt):Prop where
 out:∃f fd,Fun K x x st f fd/\mg x=some (.ref f)
def mk_ok{P:Program}{w:World}{K:PySem.W.Frag}{mg:Str->Option Value}{base:Heap}{x:Str}{st:Stmt}{N ps:List Str}{k:Nat}{sp:Sp}(F:FO K mg x st)(S:FnScope N ps (defScope st))(h:∀(kV c d:Value) (i:Option Addr) (a g:Value) (us:List Value),us.length=ps.length->bindArgs (PySem.W.fnOf x x (defArgs st) (defBody st) (defScope st) .none kV c d i a g) ⟨us,[]⟩=pure (ps.zip us))(len:∀vs H Q E,sp vs H Q E->vs.length=ps.length)(b:∀(f:Addr) (a:Value) (A:Around) (outer:List Env) (s:Shared) (H:Hp) (vs:List V) (Q:VK) (E:XK),Room k (A.deeper (envOfC x (defScope st) s.heap.objs.size f a))->sp vs H Q E →
   ∃t,PSs (cxOf CX0 P w K mg base N x (defScope st) f a A outer s H E).nox (defBody st) t/\t { nx:=λ_ H'=>Q .non H',rt:=Q } (start N vs) H):FnB P w K mg base (k+1) x ps sp:=by
 obtain⟨f,fd,F,e⟩:=F.out;exact⟨f,fd,F.ok S len (b f),e,F.kp,F.binds h⟩
inductive FX(K:PySem.W.Frag)(n:Str)(s:Stmt):Prop
 |mk {a:Addr} {od an:Option Addr} {sl:Array (Option Value)} {oc kV dc pm cd ct:Value} (z1:PySem.W.nsIn K mainGlobals n=some (some (.ref a))) (z2:K.lookup a=some ⟨oc,od,.func (PySem.W.fnOf n n (defArgs s) (defBody s) (defScope s) .none kV dc pm an cd ct),sl⟩) (z3:PySem.W.codeIn K cd n=true) (z4:PySem.W.keepIn K (.ref a)=true):FX K n s
def FX.fo{K:PySem.W.Frag}{n:Str}{s:Stmt}{h:Heap}{mg:Str->Option Value}(f:FX K n s)(X:K.In h)(G:h.Ns mainGlobals mg):FO K mg n s:=by
 obtain⟨a,d,c,b⟩:=f;exact⟨_,_,xAsf (st:=s) d c b,PySem.W.mg_of X G a⟩
def tVa(i:Nat):TE:=λσ H Q=>match σ[i]? with
 |some (some v)=>Q v H
 |_=>False
def xAys(h:tVa i σ H Q):tVar i σ H Q:=by
 unfold tVa at h
 split at h
 ·exact⟨_,by assumption,h⟩
 ·exact h.elim
def PE.imp{t u:TE}(h:PE X e t)(i:∀σ H Q,u σ H Q->t σ H Q):PE X e u:=⟨λpins s σ H Q I q=>h pins s σ H Q I (i σ H Q q)⟩
def na(i:Nat)(h:NmK X i x .local:=by exact rfl):PE X (.Name x pos) (tVa i):=(vv i h).imp λ_ _ _=>xAys
def nc(i:Nat)(h:NmK X i x .cell:=by exact rfl):PE X (.Name x pos) (tVa i):=(vc i h).imp λ_ _ _=>xAys
def tupIsV(o:Obj)(xs:List V):Bool:=match o with
 |⟨.type t,none,.seq its _,_⟩=>t=="tuple"&&decide (its.toList.map absV=xs.map some)
 |_=>false
def mstOk(K:PySem.W.Frag)(c:Addr×List V):Bool:=match K.lookup c.1 with
 |some o=>tupIsV o c.2&&Nat.ble c.2.length 1000
 |none=>false
def xAyt(h:absV u=some x):RelV x u:=by
 cases u <;> simp only[absV,Option.some.injEq,reduceCtorEq]at h <;> subst h <;> first|rfl|exact⟨_,Y⟩
def xAms:∀{us:List Value} {xs:List V},us.map absV=xs.map some->Vals xs us
 |[],[],_=>.nil
 |u::us,x::xs,h=>by
  rw[zh,zh]at h;injection h with h1 h2;exact .cons (xAyt h1) (xAms h2)
def xApt(e:h.get? b=some o)(t:tupIsV o xs=true)(f:xs.length≤sizeLine):ObjOk P w H h b (.tup xs):=by
 obtain⟨c,d,dt,i⟩:=o;unfold tupIsV at t
 cases c <;> cases d <;> cases dt <;> first|exact absurd t qr|skip
 rename_i ty a n
 have t:(ty=="tuple"&&decide (a.toList.map absV=xs.map some))=true:=t;rw[zd]at t
 have g:ty = "tuple":=by simpa using t.1
 subst g;exact⟨f,a.toList,xAms (qG t.2),_,e,Y,n,by simp⟩
def xApu{P:Program}{w:World}{K:PySem.W.Frag}{mg mb:Str->Option Value}{CX:CXT}{k:Nat}{fa a:Addr}{fd:FuncData}{x:Str}{sp:Sp}{c:Shared}{vs:List Value}{ns:List Int}{Ps:List Addr}{M:Addr->Option (List V)}(KX:K.In c.heap)(hns:c.heap.Ns mainGlobals mg)(i:c.heap.Ns builtinsNs mb)(hbb:∀x:Str,x≠"__name__"->mb x=bootBuiltins x)(Z:c.heap.NoLimit)(hg:c.gens=#[])(hnt:noTabs K=true)(hnl:noLst K=true)(A:∀Q∈Ps,c.heap.get? Q=some (tabObj #[])/\isCodeTable c.heap Q)(hbm:∀Q∈Ps,c.heap.BuiltinsAt mg Q)(L:∀b xs,M b=some xs->∃o,K.lookup b=some o/\tupIsV o xs=true/\xs.length≤sizeLine)(U:c.heap.get? a=some { cls:=.type "list",data:=.seq vs.toArray })(hi:IntsAre vs ns)(hl:ns.length≤sizeLine)(hr:Room k callerA)(F:∀base:Heap,K.In base->base.Ns mainGlobals mg->(∀Q∈Ps,base.BuiltinsAt mg Q)->FnOk P w K mg base CX k fa fd [x] sp)(R:∀(s:Shared) (u:Value),BindsTo s fd ⟨[u],[]⟩ [(x,u)])(hsp:∀H:Hp,OnlyM Ps M H->SqL H a (ns.map V.int)->sp [.ref a] H (λv _=>v=.bl true) λ_ _ _=>False)(hCX:∀H e s',CX [] H c (λ_ _ _=>False) e s'->False) :
  codeAny (model P w) callerA (.call (.ref fa) ⟨[.ref a],[]⟩) (λr s'=>r=.ok (.ret (.bool true))/\OldK c.heap s'.heap/\s'.os=c.os/\AllBare s'.gens) c:=by
 have rv:=xAhl hi;have lenV:=hi.length
 have naP:a∉Ps:=λz=>by
  have:=(A a z).1;rw[U]at this;cases this
 have kP:∀Q∈Ps,K.lookup Q=none:=λQ hQ=>by
  cases q:K.lookup Q with
  |none=>rfl
  |some o =>
   have e:=KX Q o q;rw[(A Q hQ).1]at e;cases e;have h2:=wv.mp hnt (Q,_) (mem_of_lookupK q);exact absurd (show false=true from h2) qr
 have mP:∀b xs,M b=some xs->b∉Ps:=λb xs e z=>by
  obtain⟨o,h1,_⟩:=L b xs e;rw[kP b z]at h1;cases h1
 have ma:M a=none:=by
  cases q:M a with
  |none=>rfl
  |some xs =>
   obtain⟨o,h1,h2,_⟩:=L a xs q;have e:=KX a o h1;rw[U]at e;cases e;have h2:(("list"=="tuple")&&decide (vs.toArray.toList.map absV=xs.map some))=true:=h2;rw[zd]at h2;exact absurd h2.1 (by decide)
 have core:∀H:Hp,OnlyM Ps M H->SqL H a (ns.map V.int)->HOk P w H c.heap->(∀b,H b≠none->b=a\/b∈Ps\/∃xs,M b=some xs)->(H a≠none->K.lookup a=none) →
   codeAny (model P w) callerA (.call (.ref fa) ⟨[.ref a],[]⟩) (λr s'=>r=.ok (.ret (.bool true))/\OldK c.heap s'.heap/\s'.os=c.os/\AllBare s'.gens) c:=by
  intro H hO hS S hA hK
  let H0:Hp:=λb=>if(M b).isSome=true then none else H b
  have T:∀b,H b=none->H0 b=none:=λb e=>by
   show(if(M b).isSome=true then none else H b)=none
   split
   ·rfl
   ·exact e
  have H0m:∀b xs,M b=some xs->H0 b=none:=λb xs e=>by
   show(if(M b).isSome=true then none else H b)=none;rw[e];rfl
  have f:∀{b:Addr} {o:Obj},c.heap.get? b=some o->H0 b=none->(hidT c.heap H0).get? b=some o:=λe n=>xArt e n
  have none_of:∀{b:Addr} {o:Obj},c.heap.get? b=some o->(∀xs y,o.data≠.seq xs y)->o.data≠.fields #[]->H b=none:=λ{b o} e d1 d2=>by
   cases q:H b with
   |none=>rfl
   |some u =>
    rcases hA b (by rw[q];simp) with e' |e' |⟨xs,e'⟩
    ·subst e'
     rw[U]at e;cases e;exact absurd rfl (d1 _ _)
    ·rw[(A b e').1]at e;cases e
     exact absurd rfl d2
    ·rcases hO b with⟨_,z⟩|⟨_,ys,_,z⟩|⟨_,z,_⟩
     ·exact absurd (by assumption) (mP b xs e')
     ·obtain⟨_,its,_,o',ho',_,n,hd'⟩:=(show ObjOk P w H c.heap b (.tup ys) from S b _ z)
      rw[e]at ho';cases ho';exact absurd hd' (d1 _ _)
     ·rw[e']at z;cases z
  have G:∀{b:Addr} {m:Str->Option Value},c.heap.Ns b m->(hidT c.heap H0).Ns b m:=λ{b m} ⟨o,es,ep,e,d,r⟩=>⟨o,es,ep,f e (T _ (none_of e (λxs y z=>by rw[d]at z;cases z) (λz=>by rw[d]at z;cases z))),d,r⟩
  have X:K.In (hidT c.heap H0):=λb o e=>f (KX b o e) (by
   cases q:H b with
   |none=>exact T b q
   |some u =>
    rcases hA b (by rw[q];simp) with e' |e' |⟨xs,e'⟩
    ·subst e'
     rw[hK (by rw[q];simp)]at e;cases e
    ·rw[kP b e']at e;cases e
    ·exact H0m b xs e')
  have hBb:∀Q∈Ps,(hidT c.heap H0).BuiltinsAt mg Q:=λQ hQ=>by
   obtain⟨bm,ob,b1,b2,b3,b4,b5,b6,b7,b8⟩:=hbm Q hQ;exact⟨bm,ob,b1,b2,b3,b4,f b5 (T _ (none_of b5 (λxs y z=>by rw[b8]at z;cases z) (λz=>by rw[b8]at z;cases z))),b6,b7,b8⟩
  have hM:Mod K mg (hidT c.heap H0):=⟨X,G hns,⟨mb,G i,hbb⟩,let⟨mc,h1,h2⟩:=Z;⟨mc,G h1,h2⟩⟩
  have hbs:∀b o,(hidT c.heap H0).get? b=some o->c.heap.get? b=some o/\(H b=none\/∃xs,H b=some (.tup xs)):=λb o e=>by
   obtain⟨h1,h2⟩:=xAuk e;refine⟨h1,?_⟩;rcases hO b with⟨D,z⟩|⟨_,xs,_,z⟩|⟨_,z,_⟩
   ·have B:(if(M b).isSome=true then none else H b)=none:=h2
    have mb:M b=none:=by
     cases q:M b with
     |none=>rfl
     |some xs=>exact absurd D (mP b xs q)
    rw[mb,qs (by decide),z]at B;cases B
   ·exact .inr ⟨xs,z⟩
   ·have B:(if(M b).isSome=true then none else H b)=none:=h2
    rw[z,qs (by decide)]at B;exact .inl B
  have e0:Env0 P w K mg (hidT c.heap H0) callerA [] c H:=⟨Y,hM,hbs,Nat.le_of_eq (xAnr _ _),trivial,λb i=>absurd (show b∈([]:List Addr) from i) (by simp),S,.of_eq hg⟩;refine codeAny_mono ((F _ X (G hns) hBb).run callerA [] c H ⟨[.ref a],[]⟩ [.ref a] [.ref a] _ _ hr e0 (R c (.ref a)) (.cons rfl .nil) (hsp H hO hS)) λr s' h=>?_
  cases r with
  |error e=>exact(hCX H e s' h).elim
  |ok fl =>
   cases fl with
   |next=>exact False.elim h
   |brk=>exact False.elim h
   |cont=>exact False.elim h
   |ret u =>
    obtain⟨v,H',os,bare,un,I,r',q⟩:=h;have q':v=.bl true:=q;subst q';obtain rfl:u=Value.bool true:=r';refine⟨Y,⟨λb o e=>?_,λb o e=>un.there b o e (by simp)⟩,os,bare⟩;rcases hO b with⟨D,z⟩|⟨_,xs,_,z⟩|⟨_,_,z|⟨ob,xs,z⟩⟩
    ·obtain⟨J,z2⟩:=un.tbls b _ z
     have e2:s'.heap.get? b=some { cls:=.none,data:=.fields (#[]++J) }:=I b _ z2;rw[(A b D).1]at e;cases e;exact .inr (.inl ⟨(A b D).2,Y,#[],J,Y,e2⟩)
    ·exact .inl (un.tupo b o xs e z)
    ·exact .inl (un.keep b o e z (by intro y;exact absurd (show b∈([]:List Addr) from y) (by simp)) (by simp))
    ·have z2:=un.frzs b ob _ z
     obtain⟨e1,_⟩:=S b _ z;obtain⟨e2,_⟩:=I b _ z2;rw[e]at e1;cases e1;exact .inl e2
 have t:∀j:Option HO,(∀u,j=some u->ObjOk P w (λb=>if b∈Ps then some (.tbl #[]) else match M b with|some xs=>some (.tup xs)|none=>if b=a then j else none) c.heap a u) →
   HOk P w (λb=>if b∈Ps then some (.tbl #[]) else match M b with|some xs=>some (.tup xs)|none=>if b=a then j else none) c.heap:=λj O b u z=>by
  by_cases i:b∈Ps
  ·have z':=(qt i).symm.trans z
   cases z';exact(A b i).1
  ·have N:=(qs i).symm.trans z
   cases E:M b with
   |some xs =>
    simp only[E]at N
    cases N;obtain⟨o,h1,h2,h3⟩:=L b xs E;exact xApt (KX b o h1) h2 h3
   |none =>
    simp only[E]at N
    by_cases g:b=a
    ·rw[qt g]at N
     subst g;exact O u N
    ·rw[qs g]at N;cases N
 have l:∀j:Option HO,(j=none\/∃o xs,j=some (.frz o (.lst xs)))->OnlyM Ps M (λb=>if b∈Ps then some (.tbl #[]) else match M b with|some xs=>some (.tup xs)|none=>if b=a then j else none):=λj O b=>by
  by_cases i:b∈Ps
  ·exact .inl ⟨i,qt i⟩
  ·cases E:M b with
   |some xs=>exact .inr (.inl ⟨i,xs,Y,(qs i).trans (by simp only[E])⟩)
   |none =>
    refine .inr (.inr ⟨i,Y,?_⟩)
    by_cases g:b=a
    ·have:(if b∈Ps then some (.tbl #[]) else match M b with|some xs=>some (.tup xs)|none=>if b=a then j else none)=j:=(qs i).trans (by simp only[E];rw[qt g])
     rcases O with z|⟨o,xs,z⟩
     ·exact .inl (this.trans z)
     ·exact .inr ⟨o,xs,this.trans z⟩
    ·exact .inl ((qs i).trans (by simp only[E];rw[qs g]))
 have p:∀j:Option HO,∀b,(if b∈Ps then some (.tbl #[]) else match M b with|some xs=>some (.tup xs)|none=>if b=a then j else none)≠none->b=a\/b∈Ps\/∃xs,M b=some xs:=λj b z=>by
  by_cases i:b∈Ps
  ·exact .inr (.inl i)
  ·cases E:M b with
   |some xs=>exact .inr (.inr ⟨xs,Y⟩)
   |none =>
    by_cases g:b=a
    ·exact .inl g
    ·exact absurd ((qs i).trans (by simp only[E];rw[qs g])) z
 have C:∀j:Option HO,(if a∈Ps then some (.tbl #[]) else match M a with|some xs=>some (.tup xs)|none=>if a=a then j else none)=j:=λj=>(qs naP).trans (by simp only[ma];exact qt trivial)
 cases hk:K.lookup a with
 |some o =>
  have e:=KX a o hk;rw[U]at e;cases e;exact(xApq hnl hk).elim
 |none =>
  exact core _ (l (some (.frz { cls:=.type "list",data:=.seq vs.toArray } (.lst (ns.map V.int)))) (.inr ⟨_,_,Y⟩)) (.inr ⟨{ cls:=.type "list",data:=.seq vs.toArray },C _⟩) (t _ λu z=>by
   cases z
   exact⟨U,by rw[qc];exact hl,vs,_,rv,U⟩) (p _) λ_=>hk
def walk_ofQ{l:PySem.W.OpenLaw}{n k:Nat}{q:Program}{A:List Str}{XP:(Str->Option Value)->Heap->Prop}{YP:World->Heap->Prop}{d:DefRec}{K:Params->PySem.W.Frag}{CX:CXT}{sp:Sp}{x:Str}{Ps:List Addr}(J:List Str)(m:List (Addr×List V))(tb:Str->Addr)(hn:l.most=some n)(hn2:n≤sizeLine)(Z:d.params.defaults=[])(hr:Room k callerA)(hY:∀(w:World) (h:Heap),YP w h->(K w.params).In h)(P:∀(w:World) (h:Heap),YP w h->∀Q∈Ps,h.get? Q=some (tabObj #[]))(hC:∀w:World,∀Q∈Ps,∃t∈J,codeHdIn (K w.params) (tabC (K w.params) t) Q=true)(hnt:∀w:World,noTabs (K w.params)=true)(hnl:∀w:World,noLst (K w.params)=true)(S:∀w:World,∀t∈J,tabP (K w.params) t=tb t)(y:∀w:World,∀t∈J,tabP (K w.params) t∈Ps)(hms:∀w:World,(m.all λc=>mstOk (K w.params) c)=true)(U:(m.map (·.1)).Nodup)(F:∀(w:World) (mg:Str->Option Value) (fa:Addr) (h:Heap),(K w.params).In h->h.Ns mainGlobals mg->mg d.name=some (.ref fa) →
   ∃fd:FuncData,(∀(s:Shared) (u:Value),BindsTo s fd ⟨[u],[]⟩ [(x,u)]) ∧
    ∀base:Heap,(K w.params).In base->base.Ns mainGlobals mg->(∀t∈J,base.BuiltinsAt mg (tabP (K w.params) t))->FnOk l.prog w (K w.params) mg base CX k fa fd [x] sp)(R:∀(H:Hp) (a:Addr) (N:List Int),N.length≤n->(∀t∈J,H (tb t)=some (.tbl #[]))->(∀c∈m,H c.1=some (.tup c.2))->SqL H a (N.map V.int)->sp [.ref a] H (λv _=>v=.bl true) λ_ _ _=>False)(hCX:∀(H:Hp) (s:Shared) (e:Value) (s':Shared),CX [] H s (λ_ _ _=>False) e s'->False) :
  PySem.W.WalkO q A XP YP l.row.toRowW d [] (λf vs=>PySem.call f vs):=by
 refine Att.attach_call hn Z λw s₀ j mg mb fa o pm cd doc a vs N G Y ho hd hcd hmg C r p hg=>?_;have L:=hY w _ Y;obtain⟨fd,hb,hF⟩:=F w mg fa _ L G.T.g hmg;have O:=P w _ Y
 have hbm:∀Q∈Ps,j.heap.BuiltinsAt mg Q:=λQ D=>by
  obtain⟨bm,ob,b1,b2,B,b4,b5,X⟩:=G.T.bmain;refine⟨bm,ob,b1,b2,λq=>?_,λq=>?_,B,b4,b5,X⟩
  ·obtain⟨o,es,ep,e,hd,_⟩:=G.T.g
   rw[q,e]at B;cases B;rw[hd]at X;cases X
  ·rw[q,O Q D]at B;cases B;cases b4
 let M:Addr->Option (List V):=λb=>(m.find? λc=>decide (c.1=b)).map (·.2)
 have hMc:∀b xs,M b=some xs->(b,xs)∈m:=λb xs e=>by
  obtain⟨c,i,rfl⟩:=wl.mp e
  have h1:c.1=b:=by simpa using List.find?_some i
  rw[←h1];exact km i
 have E:∀c∈m,M c.1=some c.2:=λc i=>by
  have go:∀(l:List (Addr×List V)),(l.map (·.1)).Nodup->c∈l->(l.find? λd=>decide (d.1=c.1)).map (·.2)=some c.2:=λl=>by
   induction l with
   |nil=>intro _ z;cases z
   |cons d l ih =>
    intro nd hm;rw[zh,zu]at nd;rw[w5]
    by_cases h:d.1=c.1
    ·rw[qF h]
     rcases za.mp hm with z|z
     ·rw[z];rfl
     ·exact absurd (h▸qj.mpr ⟨c,z,rfl⟩:d.1∈l.map (·.1)) nd.1
    ·rw[decide_eq_false h]
     rcases za.mp hm with z|z
     ·exact absurd (by rw[z]) h
     ·exact ih nd.2 z
  exact go m U i
 have look:∀c∈m,∃o,(K w.params).lookup c.1=some o/\tupIsV o c.2=true/\c.2.length≤sizeLine:=λc i=>by
  have h:=wv.mp (hms w) c i;unfold mstOk at h
  cases q:(K w.params).lookup c.1 with
  |none=>rw[q]at h;exact absurd h qr
  |some o =>
   rw[q]at h;have h:(tupIsV o c.2&&Nat.ble c.2.length 1000)=true:=h;rw[zd]at h;exact⟨o,rfl,h.1,ze (xAag (ja h.2))⟩
 refine xApu (M:=M) L G.T.g G.T.b G.T.builtins G.T.nolimit hg (hnt w) (hnl w) (λQ D=>⟨O Q D,(((codeHd_of_K L (hC w Q D).choose_spec.2)).tab (O Q D)).isCodeTable⟩) hbm (λb xs e=>look _ (hMc b xs e)) C r (qh p hn2) hr (λbase h1 h2 h3=>hF base h1 h2 λt I=>h3 _ (y w t I)) hb (λH hO hS=>R H a N p (λt I=>S w t I▸?_) (λc i=>?_) hS) λH e s'=>hCX H j e s'
 ·rcases hO (tabP (K w.params) t) with z|z|z
  ·exact z.2
  ·exact absurd (y w t I) z.1
  ·exact absurd (y w t I) z.1
 ·rcases hO c.1 with z|⟨_,ys,hy,z⟩|⟨_,z,_⟩
  ·obtain⟨o,h1,h2,_⟩:=look c i
   have e:=L _ _ h1;rw[O _ z.1]at e;cases e;exact absurd h2 qr
  ·rw[E c i]at hy
   cases hy;exact z
  ·rw[E c i]at z;cases z
end L2
namespace Stb
open PySem SetTable
def probe_from'{t:SetTable}(w:Way t h N)(s:t.dummies=#[]):∀(f k:Nat),k≤N->N - k<f →
  (SetTable.probe.go t hashAt h f (adv t k (t.probeStart h))=some (.empty (adv t N (t.probeStart h)).j none)/\∀n i,k≤n->n<N->t.slot (adv t n (t.probeStart h)).j=.live i->hashAt i≠h) ∨
  ∃n i,k≤n/\n<N/\t.slot (adv t n (t.probeStart h)).j=.live i/\(∀g d,k≤g->g<n->t.slot (adv t g (t.probeStart h)).j=.live d->hashAt d≠h)/\SetTable.probe.go t hashAt h f (adv t k (t.probeStart h))=some (.candidate (adv t n (t.probeStart h)).j i (adv t (n+1) (t.probeStart h)))
 | 0,k,_,h2=>absurd h2 (zv _)
 |f+1,k,h1,h2=>by
  have l:(adv t k (t.probeStart h)).dummy=none:=xAin t k _;unfold SetTable.probe.go
  cases hs:t.slot (adv t k (t.probeStart h)).j with
  |empty =>
   have:k=N:=by
    refine Classical.byContradiction λz=>?_;exact w.first k (by omega) hs
   subst this;left
   simp only[l]
   exact⟨trivial,λn i a b=>absurd b (by omega)⟩
  |dummy=>exact absurd hs (slot_nodum s)
  |live i =>
   have x:k<N:=by
    refine kx h1 λz=>?_;rw[z,w.last]at hs;cases hs
   have u:t.advance (adv t k (t.probeStart h))=adv t (k+1) (t.probeStart h):=by rw[xAfk];rfl
   dsimp only
   by_cases p:(hashAt i==h)=true
   ·right
    exact⟨k,i,qd _,x,hs,λg d a b=>absurd b (by omega),by rw[qt p,u]⟩
   ·rw[qs p,u]
    have o:hashAt i≠h:=λz=>p (beq_iff_eq.mpr z)
    have ext:∀g d,k≤g->(∀d,k+1≤g->t.slot (adv t g (t.probeStart h)).j=.live d->hashAt d≠h)->t.slot (adv t g (t.probeStart h)).j=.live d->hashAt d≠h:=λg d a b c=>by
     by_cases q:k=g
     ·subst q;rw[hs]at c;cases c;exact o
     ·exact b d (by omega) c
    rcases probe_from' w s f (k+1) (by omega) (by omega) with⟨e,y⟩|⟨n,i2,a1,a2,v,A,B⟩
    ·exact .inl ⟨e,λn d a b c=>ext n d a (λd m r=>y n d m b r) c⟩
    ·exact .inr ⟨n,i2,by omega,a2,v,λg d a b c=>ext g d a (λd m r=>A g d m b r) c,B⟩
def fm_get{α β:Type}{f:α->Option β}:∀(l:List α) (i:Nat),(∀x∈l,∃y,f x=some y)->(l.filterMap f)[i]?=l[i]?.bind f
 |[],i,_=>by simp
 |x::l,i,h=>by
  obtain⟨y,a⟩:=h x ql;rw[kz a]
  cases i with
  |zero=>simp[a]
  |succ i =>
   rw[jj,jj];exact fm_get l i λx b=>h x (qw _ b)
end Stb
namespace L2
open PySem PySem.Spec PySem.W PyProof.Rows
section
variable {P:Program}{w:World}{A:Around}{R:Result->Shared->Prop}{E:Value->Shared->Prop}{s:Shared}
structure Et(P:Program)(w:World)(U:List Key->Value->Prop)(h:Heap)(es:Array (Int×Value))(kl:Array (List Key)):Prop where
 size:kl.size=es.size
 it:∀(i:Nat) e ls,es[i]?=some e->kl[i]?=some ls->e.1=fh P w ls/\FI P w h ls e.2
 us:∀(i:Nat) e ls,es[i]?=some e->kl[i]?=some ls->U ls e.2
variable {U:List Key->Value->Prop}{ld:Bool}
def Et.all(x:Et P w U h es b):∀e∈es.toList,∃c,FI P w h c e.2:=λe d=>by
 obtain⟨i,hi,q⟩:=zn d
 have a:i<es.size:=by simpa using hi
 have h2:i<b.size:=by rw[x.size];exact a
 exact⟨_,(x.it i e _ (by rw[←zf,qf hi,q]) (qp h2)).2⟩
def xAmt{t:SetTable}(V:A.units+1<cLine)(C:s.heap.get? a=some o)(D:o.data=.set es ep t)(r:Tk t es.size)(I:(tupleKind (mixKind P w)).is s.heap ks b)(v:Et P w U s.heap es u)(W:Stb.Way t (fh P w ks) N)(O:(∃i:Nat,u[i]?=some ks)->Q (.there none) s) :
  ∀(f k:Nat) (c:Option SetTable.Probe),(Q (.free (Stb.adv t N (t.probeStart (fh P w ks))).j false) s\/∃h m,k≤h/\h<N/\t.slot (Stb.adv t h (t.probeStart (fh P w ks))).j=.live m/\u[m]?=some ks)->k≤N->N - k<f->c.getD (t.probeStart (fh P w ks))=Stb.adv t k (t.probeStart (fh P w ks))->wpAny (model P w) A (setSearchFrom a (.ref b) (fh P w ks) true f c) Q E s
 | 0,_,_,_,_,h2,_=>absurd h2 (zv _)
 |f+1,k,c,h0,h1,h2,h3=>by
  have hash:∀{i:Nat} {d:List Key},u[i]?=some d->((es[i]?.map (·.1)).getD 0)=fh P w d:=λ{i d} e=>by
   have hi:i<es.size:=by rw[←v.size];exact(vq.mp e).1
   have B:=qp hi;rw[B];exact(v.it i _ _ B e).1
  unfold setSearchFrom;refine qa (wpAny_setState_of C D r.fits ?_);dsimp only;rw[r.odd]
  simp only[Bool.false_eq_true,if_false]
  rw[h3];have Z:=Stb.probe_from' (hashAt:=λi=>(es[i]?.map (·.1)).getD 0) W r.1 (10 * SetTable.turns t.mask) k h1 (by have:=W.few;omega);rcases Z with⟨e,B⟩|⟨n,i,a1,a2,L,T,X⟩
  ·have K:t.probe (λi=>(es[i]?.map (·.1)).getD 0) (fh P w ks) (Stb.adv t k (t.probeStart (fh P w ks)))=some (.empty (Stb.adv t N (t.probeStart (fh P w ks))).j none):=e
   show wpAny _ _ (match t.probe (λi=>(es[i]?.map (·.1)).getD 0) (fh P w ks) (Stb.adv t k (t.probeStart (fh P w ks))) with
    |some H=>_
    |_=>_) _ _ _
   rw[K];rcases h0 with h0|⟨h,m,c1,c2,c3,c4⟩
   ·exact qb h0
   ·exact absurd (hash c4) (B h m c1 c2 c3)
  ·have K:t.probe (λi=>(es[i]?.map (·.1)).getD 0) (fh P w ks) (Stb.adv t k (t.probeStart (fh P w ks)))=some (.candidate (Stb.adv t n (t.probeStart (fh P w ks))).j i (Stb.adv t (n+1) (t.probeStart (fh P w ks)))):=X
   show wpAny _ _ (match t.probe (λi=>(es[i]?.map (·.1)).getD 0) (fh P w ks) (Stb.adv t k (t.probeStart (fh P w ks))) with
    |some H=>_
    |_=>_) _ _ _
   rw[K];dsimp only
   have hi:i<es.size:=by rw[←r.2.1];exact Stb.slot_live L
   have g:es[i]?=some es[i]:=qp hi
   have G:i<u.size:=by rw[v.size];exact hi
   obtain⟨d,p⟩:∃d,u[i]?=some d:=⟨_,qp G⟩;obtain⟨_,y,S,Y⟩:=v.it i _ _ g p
   have z:∀y∈(Array.filter (λx=>x.1==fh P w ks) es).toList.map (·.2),∃d,FI P w s.heap d y:=λy M=>by
    obtain⟨e,R,rfl⟩:=qj.mp M;rw[Array.toList_filter]at R;exact v.all e (vt.mp R).1
   have J:t.sameMemory t.moves t.mask=some true:=by unfold SetTable.sameMemory;rw[qt (beq_self_eq_true _)]
   have step:wpAny (model P w) A (do
     let equal ←holding [es[i].2] (eqBool es[i].2 (.ref b))
     let(es',_,t') ←setState a
     if true&&equal then return .there none
     let some sm0:=t'.sameMemory t.moves t.mask|unsupported "set.changed-during-lookup:is-the-new-block-at-the-old-address"
     let still ←match(if sm0 then t'.slot (Stb.adv t n (t.probeStart (fh P w ks))).j else .empty) with
      |.live F=>match es'[F]? with
       |some (_,y')=>do pure (if ←isSame y' es[i].2 then some F else none)
       |none=>pure none
      |_=>pure none
     match still with
     |none=>rule "set.search.anew";setSearchFrom a (.ref b) (fh P w ks) true f none
     |some F=>if equal then return .there (some F) else setSearchFrom a (.ref b) (fh P w ks) true f (some (Stb.adv t (n+1) (t.probeStart (fh P w ks))))) Q E s:=by
    rw[S];refine qa (qD (xAep (by omega) Y I P w E _ ?_))
    by_cases l:d=ks
    ·rw[qF l]
     refine qa (wpAny_setState_of C D r.fits ?_);exact qb (O ⟨i,l▸p⟩)
    ·rw[decide_eq_false l]
     refine qa (wpAny_setState_of C D r.fits ?_);dsimp only
     simp only[Bool.and_false,Bool.false_eq_true,if_false]
     rw[J];dsimp only;rw[qt rfl,L];dsimp only;rw[g];dsimp only;rw[S];refine qa (show wpAny _ _ (isSame (.ref y) (.ref y)) _ _ _ from ?_);unfold isSame;dsimp only;rw[beq_self_eq_true]
     simp only[if_true]
     refine qb (qa (qb ?_));refine xAmt V C D r I v W O f (n+1) _ ?_ (by omega) (by omega) rfl;rcases h0 with h0|⟨h,m,c1,c2,c3,c4⟩
     ·exact .inl h0
     ·refine .inr ⟨h,m,?_,c2,c3,c4⟩
      rcases jh h n with q|q|q
      ·exact absurd (hash c4) (T h m c1 q c3)
      ·subst q
       rw[L]at c3;cases c3;rw[p]at c4;exact absurd (qC c4) l
      ·exact q
   cases hl:t.led with
   |true =>
    simp only[Bool.not_true,Bool.false_eq_true,if_false]
    rw[g];exact step
   |false =>
    simp only[Bool.not_false,if_true]
    refine qa (xAtx I z ?_)
    simp only[Bool.false_eq_true,if_false]
    rw[g];exact step
def SD(P:Program)(w:World)(U:List Key->Value->Prop)(ld:Bool)(h:Heap)(a:Addr)(b:List (List Key)):Prop:=∃o es ep t c,h.get? a=some o/\o.ExactSet/\o.data=.set es ep t/\Et P w U h es c/\c.toList.Perm b/\Tk t b.length/\Stb.Iv t.mask t.place es/\t.led=ld
def Et.move(x:Et P w U h es d)(k:∀b o,h.get? b=some o->o.cls=.type "tuple"->h'.get? b=some o):Et P w U h' es d:=⟨x.size,λi e c f a=>⟨(x.it i e c f a).1,FI.ext (x.it i e c f a).2 k⟩,x.us⟩
def led_of{led plain:Bool}{t:SetTable}(e:SetTable.laid b finger moves led plain hs=some (t,a)):t.led=led:=by
 unfold SetTable.laid at e;obtain⟨o,_,e⟩:=jk.mp e;cases e;rfl
def SD.move(x:SD P w U ld h a kk)(f:∀o,h.get? a=some o->h'.get? a=some o)(k:∀b o,h.get? b=some o->o.cls=.type "tuple"->h'.get? b=some o):SD P w U ld h' a kk:=by
 obtain⟨o,es,ep,t,g,h1,h2,e,d,c⟩:=x;exact⟨o,es,ep,t,g,f _ h1,h2,e,d.move k,c⟩
def tail_d{t t1:SetTable}(ho:s.heap.get? a=some o)(J:o.ExactSet)(hd:o.data=.set es ep t)(hT:Tk t n)(h1:es1.size=n+1)(hk:kk.length=n+1)(hn:n<63)(N:Et P w U s.heap es1 r)(hP:r.toList.Perm kk)(hI:Stb.Iv t1.mask t1.place es1)(L:t1.led=ld)(e1:t1.dummies=#[])(W:t1.place.size=n+1)(S:t1.mask=t.mask)(hQ:∀h',Heap.SameBut a s.heap h'->SD P w U ld h' a kk->Q true { s with heap:=h' }) :
  wpAny (model P w) A (do
    storeSet a es1 t1
    if(!false&&t1.tooFull)=true then do
      setRelay a (SetTable.grown (n+1))
      pure true
     else pure true) Q E s:=by
 have hsl:n+1≤sizeLine:=ze (xAag (by omega));refine qa (wpAny_storeSet_of ho hd ?_ (by omega));have B:=xAmq (es1:=es1) (t1:=t1) ho hd;have u:=Heap.SameBut.update s.heap a (Obj.putSet es1 t1);have hm:=hT.2.2
 have H:t1.fill=n+1:=by unfold SetTable.fill;rw[e1,W];rfl
 have tup:∀{h':Heap},Heap.SameBut a s.heap h'->∀b o',s.heap.get? b=some o'->o'.cls=.type "tuple"->h'.get? b=some o':=λsb b o' e c=>by
  rw[sb.2 b (λz=>by
   rw[z,ho]at e;cases e;rw[J.1]at c;injection c with c
   exact absurd c (by decide))]
  exact e
 have mk:∀{h':Heap} {f:Array (Int×Value)} {C:Array (List Key)} {I:Nat} {t2:SetTable},Heap.SameBut a s.heap h'->h'.get? a=some { o with data:=.set f I t2 }->Et P w U s.heap f C->C.toList.Perm kk->Tk t2 (n+1)->Stb.Iv t2.mask t2.place f->t2.led=ld->SD P w U ld h' a kk:=λ{h' f C I t2} sb g p q k v l =>
  ⟨_,f,I,t2,C,g,J,Y,p.move (tup sb),q,by rw[hk];exact k,v,l⟩
 by_cases hf:t1.tooFull=true
 ·rw[qt (by rw[hf];rfl)]
  unfold SetTable.tooFull at hf;have hf:=qG hf;rw[H,S]at hf
  have M:t1.fits es1.size=true:=by
   unfold SetTable.fits;rw[H,W,h1,beq_self_eq_true,gc];exact qF (by rw[S];omega)
  have big:∃m,Stb.Mk m/\SetTable.sizeAbove (SetTable.grown (n+1)) - 1=m/\¬SetTable.sizeAbove (SetTable.grown (n+1))>sizeLine/\n+1≤m/\(m=7/\n+1≤4\/m=31/\n+1≤18\/m=127/\n+1≤76):=by
   rcases hm with⟨q,_⟩|⟨q,_⟩|⟨q,_⟩
   ·have:n=4:=by omega
    subst this;exact⟨31,.inr (.inl rfl),by decide,by rw[sizeLine_eq];decide,by omega,by omega⟩
   ·have:n=18:=by omega
    subst this;exact⟨127,.inr (.inr rfl),by decide,by rw[sizeLine_eq];decide,by omega,by omega⟩
   ·omega
  obtain⟨m,hM,em,K,hle,G⟩:=big;unfold setRelay;refine qa (qa (wpAny_setState_of B rfl M ?_));dsimp only;rw[qs K];unfold SetTable.relaid;rw[em];obtain⟨t2,d,el,f1,f2,f3,X,f5,f7,f6⟩:=Stb.laid_iv (finger:=t1.finger) (moves:=t1.movedTo m) (led:=t1.led) (plain:=t1.plain) (hs:=es1.map (·.1)) hM (by rw[jy,h1];exact hle);rw[el];rw[jy,h1]at f3 X
  have pk:∀{α:Type} (xs:Array α),xs.size=n+1->(d.filterMap (xs[·]?)).toList.Perm xs.toList/\∀i:Nat,(d.filterMap (xs[·]?))[i]?=d[i]?.bind (xs[·]?):=λxs hx=>by
   constructor
   ·rw[k8]
    refine(X.filterMap _).trans (.of_eq ?_);rw[←hx];exact xAmr xs
   ·intro i
    rw[←zf,k8,←zf];refine Stb.fm_get _ _ λx Z=>?_;have:=zm.mp (X.mem_iff.mp Z);exact⟨_,qp (by rw[hx];exact this)⟩
  have R:=pk es1 h1;have V:r.size=n+1:=N.size.trans h1;have O:=pk r V
  have hsz:(d.filterMap (es1[·]?)).size=es1.size:=by rw[←qx,R.1.length_eq,qx]
  refine qa ?_;show wpAny _ _ (if((d.filterMap (es1[·]?)).size != es1.size)=true then _ else _) _ _ _;rw[qs (by rw[hsz];simp)];refine qb ?_;have ho2:=xAmq (es1:=d.filterMap (es1[·]?)) (t1:=t2) B rfl;have D:=u.trans (Heap.SameBut.update (s.heap.update a (Obj.putSet es1 t1)) a (Obj.putSet (d.filterMap (es1[·]?)) t2))
  have T:Et P w U s.heap (d.filterMap (es1[·]?)) (d.filterMap (r[·]?)):=by
   refine⟨?_,λi e ls F y=>?_,λi e ls F y=>?_⟩
   ·rw[←qx,O.1.length_eq,qx,hsz];exact N.size
   ·rw[R.2]at F
    rw[O.2]at y;obtain⟨k,c1,c2⟩:=jk.mp F;rw[c1]at y;exact N.it k e ls c2 y
   ·rw[R.2]at F
    rw[O.2]at y;obtain⟨k,c1,c2⟩:=jk.mp F;rw[c1]at y;exact N.us k e ls c2 y
  refine wpAny_storeSet_of B rfl (qb (hQ _ D (mk D ho2 T (O.1.trans hP) ⟨f2,f3,?_⟩ ⟨f5,?_,λi j e F y=>?_⟩ ((led_of el).trans L)))) (by rw[hsz];omega)
  ·rw[f1]
   exact G
  ·rw[f3,hsz,h1]
  ·rw[R.2]at y
   obtain⟨k,c1,c2⟩:=jk.mp y;obtain⟨h,d1,d2⟩:=f6 i j k F c1;rw[Array.getElem?_map,c2]at d1;cases d1;rw[f1];exact d2
 ·rw[qs (by rw[jl.mpr hf];decide)]
  unfold SetTable.tooFull at hf;have hf:¬(t1.fill * 5≥t1.mask * 3):=λz=>hf (qF z);rw[H,S]at hf;exact qb (hQ _ u (mk u B N hP ⟨e1,W,by rw[S];omega⟩ hI L))
noncomputable def insK(a:List (List Key))(ks:List Key):List (List Key):=@ite _ (ks∈a) (Classical.propDecidable _) a (a++[ks])
def add_d(J:A.units+1<cLine)(hS:SD P w U ld s.heap a kk)(I:(tupleKind (mixKind P w)).is s.heap ks b)(hub:U ks (.ref b))(hl:kk.length<63)(hQ:∀r h',Heap.SameBut a s.heap h'->SD P w U ld h' a (insK kk ks)->Q r { s with heap:=h' }) :
  wpAny (model P w) A (setAddHashed a (.ref b) (fh P w ks)) Q E s:=by
 have hS0:=hS;obtain⟨o,es,ep,t,C,R,T,S,g,hP,f,p,hL⟩:=hS
 have hz:es.size=kk.length:=by rw[←g.size,←qx,hP.length_eq]
 rw[←hz]at f;unfold setAddHashed setAddHashedIn;refine qD (qa (wpAny_setState_of R S f.fits ?_));dsimp only
 have hbs:byScan (.ref b) es=false:=by unfold byScan Value.scannable;rfl
 rw[hbs]
 simp only[Bool.false_eq_true,if_false]
 have hm:=f.2.2;obtain⟨N,W⟩:=Stb.way_of f.mk f.1 (by rw[f.2.1];omega) (fh P w ks)
 have v:∀{K:List Key},(∃i:Nat,C[i]?=some K)↔K∈kk:=λ{K}=>by
  rw[←hP.mem_iff];constructor
  ·rintro⟨i,hi⟩;rw[←zf]at hi;exact qo hi
  ·intro h;obtain⟨i,hi,e⟩:=zn h;exact⟨i,by rw[←zf,qf hi,e]⟩
 have B:∀n,t.slot (Stb.adv t n (t.probeStart (fh P w ks))).j≠.empty->∃u:Nat,t.place[u]?=some (Stb.wj t.mask (fh P w ks) n):=λn hn=>by
  rw[Stb.wj_eq]at hn
  cases hs:t.slot (Stb.wj t.mask (fh P w ks) n) with
  |empty=>exact absurd hs hn
  |dummy=>exact absurd hs (Stb.slot_nodum f.1)
  |live i=>exact⟨i,Stb.slot_of hs⟩
 unfold setSearch;refine qa (xAmt J R S f I g W (λl=>?_) 100000 0 none ?_ (qk _) ?_ rfl)
 ·have:=hQ false s.heap (Heap.SameBut.refl _ _) (by unfold insK;rw[qt (v.mp l)];exact hS0)
  exact qb this
 ·by_cases l:ks∈kk
  ·right
   obtain⟨m,D⟩:=v.mpr l
   have hs0:m<es.size:=by rw[←g.size];exact(vq.mp D).1
   have Z:m<t.place.size:=by rw[p.size];exact hs0
   have hj:t.place[m]?=some t.place[m]:=qp Z;obtain⟨n,c1,c2⟩:=p.ch m _ _ hj (qp hs0);rw[(g.it m _ _ (qp hs0) D).1]at c1 c2
   have y:t.slot (Stb.adv t n (t.probeStart (fh P w ks))).j=.live m:=by
    rw[Stb.wj_eq,c1];exact Stb.slot_at p.asc hj
   refine⟨n,m,qk _,?_,y,D⟩;refine Nat.lt_of_not_le λq=>?_;rcases yu q with q|q
   ·obtain⟨u,J⟩:=c2 N q
    have:=Stb.slot_at p.asc J;rw[←Stb.wj_eq,W.last]at this;cases this
   ·rw[←q,W.last]at y
    cases y
  ·left
   have L:insK kk ks=kk++[ks]:=by unfold insK;rw[qs l]
   dsimp only;refine qa (wpAny_setState_of R S f.fits ?_);dsimp only
   have M:∀u:Nat,t.place[u]?≠some (Stb.adv t N (t.probeStart (fh P w ks))).j:=λu J=>by
    have:=Stb.slot_at p.asc J;rw[W.last]at this;cases this
   have H:Stb.Cn t.mask (λk=>∃u:Nat,t.place[u]?=some k) (Stb.adv t N (t.probeStart (fh P w ks))).j (fh P w ks):=⟨N,(Stb.wj_eq _ _ _).symm,λk I=>B k (W.first k I)⟩;generalize (Stb.adv t N (t.probeStart (fh P w ks))).j=j at M H;have hb:=(Stb.below_ok p.asc j).2.2
   have F:SetTable.below t.place j≤es.size:=by rw[←p.size];exact hb
   have O:SetTable.below t.place j≤C.size:=by rw[g.size];exact F
   have hE1:Et P w U s.heap (SetTable.insertAt es (SetTable.below t.place j) (fh P w ks,.ref b)) (SetTable.insertAt C (SetTable.below t.place j) ks):=by
    refine⟨by rw[xAbk,xAbk,g.size],λi e K d c=>?_,λi e K d c=>?_⟩
    ·rw[Stb.get_insertAt _ _ _ F]at d
     rw[Stb.get_insertAt _ _ _ O]at c
     split at d
     ·rename_i q;rw[qt q]at c;exact g.it _ _ _ d c
     ·rename_i q
      rw[qs q]at c
      split at d
      ·rename_i x;rw[qt x]at c;cases d;cases c;exact⟨Y,b,Y,I⟩
      ·rename_i x;rw[qs x]at c;exact g.it _ _ _ d c
    ·rw[Stb.get_insertAt _ _ _ F]at d
     rw[Stb.get_insertAt _ _ _ O]at c
     split at d
     ·rename_i q;rw[qt q]at c;exact g.us _ _ _ d c
     ·rename_i q
      rw[qs q]at c
      split at d
      ·rename_i x;rw[qt x]at c;cases d;cases c;exact hub
      ·rename_i x;rw[qs x]at c;exact g.us _ _ _ d c
   have X:(SetTable.insertAt C (SetTable.below t.place j) ks).toList.Perm (kk++[ks]):=by
    have e:(SetTable.insertAt C (SetTable.below t.place j) ks).toList=C.toList.take (SetTable.below t.place j)++ks::C.toList.drop (SetTable.below t.place j):=by
     unfold SetTable.insertAt
     simp[Array.toList_extract,List.extract_eq_drop_take]
     rw[List.take_of_length_le (by simp)]
    rw[e];refine List.perm_middle.trans ?_;rw[List.take_append_drop];exact(hP.cons ks).trans (kq ks kk).symm
   have G:∀t1:SetTable,t1.dummies=#[]->t1.place=SetTable.insertAt t.place (SetTable.below t.place j) j->t1.mask=t.mask->t1.led=t.led->wpAny (model P w) A (do
     storeSet a (SetTable.insertAt es (t.put j).2 (fh P w ks,.ref b)) t1
     if(!false&&t1.tooFull)=true then do
       setRelay a (SetTable.grown (es.size+1))
       pure true
      else pure true) Q E s:=λt1 e1 e2 e3 e4=>by
    refine tail_d R T S f (xAbk _ _ _) (kk:=kk++[ks]) (by rw[qm,←hz];rfl) (by omega) hE1 X ?_ (e4.trans hL) e1 (by rw[e2,xAbk,f.2.1]) e3 λh' sb q=>hQ true h' sb (by rw[L];exact q)
    rw[e2,e3];exact p.put M H
   have V:(t.put j).1.dummies=#[]:=by
    show(if SetTable.has t.dummies j then _ else t.dummies)=#[];rw[f.1]
    split
    ·rename_i z
     unfold SetTable.has at z
     simp at z
    ·rfl
   split
   ·refine qa (xAtw I λbv=>?_)
    cases bv with
    |true=>exact G _ V rfl rfl rfl
    |false=>exact G { (t.put j).1 with plain:=false } V rfl rfl rfl
   ·refine qa (qb ?_)
    exact G _ V rfl rfl rfl
 ·have:=W.few
  unfold SetTable.turns at this;omega
noncomputable def ddk(kk:List (List Key)):List (List Key):=kk.foldl insK []
def xAyu(a:List (List Key))(ks:List Key):(insK a ks).length≤a.length+1:=by
 unfold insK;split
 ·omega
 ·rw[qm];exact qd _
def xAtz{kk:List (List Key)}{i:Nat}{ks:List Key}(h:kk[i]?=some ks):ddk (kk.take (i+1))=insK (ddk (kk.take i)) ks:=by
 unfold ddk;rw[wq,h,List.foldl_append];rfl
def xArl:∀(kk:List (List Key)),(ddk kk).length≤kk.length:=λkk=>by
 have:∀(l a:List (List Key)),(l.foldl insK a).length≤a.length+l.length:=λl=>by
  induction l with
  |nil=>intro a;exact qd _
  |cons x l b=>intro a;have:=b (insK a x);have:=xAyu a x;rw[yd,zc];omega
 have:=this kk [];rw[wu,vm]at this;exact this
end
def xAet:entryFor table "set.__iter__"=some Builtin.«frozenset.__iter__» :=
 entryFor_alias (id':="frozenset.__iter__") (by kernel_rfl) rfl (by decide +kernel) (by kernel_rfl)
def xAbi:Slot "set_iterator" "__next__" "set_iterator.__next__" :=
 .of (owner:="set_iterator") (n:="__next__") (by rw[typeLookup_type,builtinLookup_eq_fast];kernel_rfl) (by decide +kernel) (by decide +kernel) (by decide +kernel)
  (by first|exact .inl (by decide +kernel)|exact .inr (by decide +kernel)) (by rw[isSubtype_type];kernel_rfl)
def xAfo:entryFor table "set_iterator.__next__"=some Builtin.«set_iterator.__next__»:=entryFor_of_tree (by kernel_rfl)
def xAmu:Manifest.owners.lookup (String.ofList ['r','o','t','a','r','e','t','i','_','t','e','s'].reverse)=some Manifest.sig_set_iterator:=by kernel_rfl
def xAgt(a:Value):argsOk "set_iterator.__next__" ⟨[a],[]⟩:=by
 unfold argsOk;rw[signature?_of (id:="set_iterator.__next__") (n:=['_','_','t','x','e','n','_','_']) (o:=['r','o','t','a','r','e','t','i','_','t','e','s']) (by kernel_rfl) xAmu];kernel_rfl
def xAdn{α:Type}:∀(l:List α) (i:Nat) (h:i<l.length),(l[i]::l.eraseIdx i).Perm l
 |x::l,0,_=>.refl _
 |x::l,i+1,h=>by
  have:=xAdn l i (jf h);show((l[i]'(jf h))::x::l.eraseIdx i).Perm (x::l);exact(List.Perm.swap _ _ _).trans (this.cons x)
def byT(w:World):Bool:=w.params.followText "set-order"
section
variable {prog:Program}{w:World}{A:Around}{E:Value->Shared->Prop}{s:Shared}
def xAcv(h:Q (byT w) s):wpAny (model prog w) A setsByText Q E s:=by
 unfold setsByText;exact qa (wpAny_askSetting (qb h))
def wp_choose(hn:n≠0)(h:∀i d,i<n->Q i { s with drawn:=d }):wpAny (model prog w) A (choose a n) Q E s:=λc p b=>by
 unfold choose;rw[Sem.wp_choose];exact⟨hn,h _ _ (vp _ (Nat.pos_of_ne_zero hn))⟩
def xAdo{α:Type}{Q:List α->Shared->Prop}:∀(n:Nat) (xs:List α) (s:Shared),xs.length=n->(∀ys d,ys.Perm xs->Q ys { s with drawn:=d })->wpAny (model prog w) A (drawOrder n xs) Q E s
 | 0,xs,s,hl,h=>by
  have:xs=[]:=gh hl;subst this;exact qb (h [] s.drawn .nil)
 |n+1,[],s,hl,h=>nomatch hl
 |n+1,x::xs,s,hl,h=>by
  show wpAny _ _ (choose .order (x::xs).length >>= _) _ _ _;refine qa (wp_choose (by simp) λi d hi=>?_);have e:(x::xs)[i]?=some (x::xs)[i]:=qf hi;rw[e];refine qa (xAdo n _ _ (by rw[k9 hi,hl];rfl) λys d' p=>qb ?_);exact h _ d' ((p.cons _).trans (xAdn _ _ hi))
end
def xArm{α:Type}(next:Nat->Nat):∀(n k:Nat) (a:List α) (out:Array α),a.length=n->(pickOrder.go next n k a out).toList.Perm (out.toList++a)
 | 0,k,a,out,hl=>by
  have:a=[]:=gh hl;subst this;rw[vy];exact .refl _
 |n+1,k,a,out,hl=>by
  unfold pickOrder.go;have hi:next k % a.length<a.length:=vp _ (by omega);rw[qf hi];refine(xArm next n (k+1) _ _ (by rw[k9 hi,hl];rfl)).trans ?_;rw[Array.toList_push,yc];exact(xAdn _ _ hi).append_left _
def xAip{α:Type}(next:Nat->Nat)(xs:Array α):(pickOrder next xs).toList.Perm xs.toList:=by
 have:=xArm next xs.size 0 xs.toList #[] (by simp);exact this
inductive SM(w:World)(h:Heap)(a:Addr)(es:Array (Int×Value))(ep:Nat)(t:SetTable)(vs:List Value)(tp:Addr)(i:Nat):Value->Prop
 |txt (k:Int) (hb:byT w=true) (hv:vs=(pickOrder (w.params.setOrder a ep) es).toList.map (·.2)):SM w h a es ep t vs tp i (.int k 0)
 |drw (ps:List Nat) (hb:byT w=false) (ht:h.IsTuple tp (ps.map λ(p:Nat)=>rawInt p).toArray) (hp:∀p∈ps,p<es.size) (hv:vs=ps.map λp=>(es[p]?.map (·.2)).getD .none):SM w h a es ep t vs tp i (.ref tp)
 |slt (k:Nat) (hb:byT w=false) (hd:(!t.plain&&decide (es.size>1))=false) (hl:t.led=true) (hk:SetTable.below t.place k=i) (hs:Stb.Asc t.place) (hz:t.place.size=es.size) (hv:vs=es.toList.map (·.2)):SM w h a es ep t vs tp i (.int k 0)
def SI(w:World)(h:Heap)(it a:Addr)(es:Array (Int×Value))(ep:Nat)(t:SetTable)(vs:List Value)(tp:Addr)(i:Nat):Prop:=∃o first,h.get? it=some o/\o.cls=.type "set_iterator" /\ o.data=.fields #[first,.int i 0,.ref a,.int es.size 0,.int ep 0]/\SM w h a es ep t vs tp i first
section
variable {prog:Program}{w:World}{A:Around}{E:Value->Shared->Prop}{s:Shared}
def xAua{t:SetTable}(c:s.heap.get? a=some o)(j:o.ExactSet)(g:o.data=.set es ep t)(hf:t.fits es.size=true)(hz:es.size≤1000)(J:byT w=false->t.led=true)(hs:Stb.Asc t.place)(y:t.place.size=es.size)(B:∀it vs tp h' G,s.heap.objs.size≤it->s.heap.objs.size≤tp->(∀b u,s.heap.get? b=some u->h'.get? b=some u)->vs.Perm (es.toList.map (·.2))->SI w h' it a es ep t vs tp 0->Q (.ref it) { s with heap:=h',drawn:=G }):wpAny (model prog w) A (pyIter (.ref a)) Q E s:=by
 have D:s.TypeIs (.ref a) "set":=⟨o,c,j.1⟩;refine wpAny_pyIter_slot D F.slot_set_iter (qH F.slot_set_iter D xAet ?_ (F.args_set_iter_1 _));unfold Builtin.«frozenset.__iter__» Builtin.Frozenset.slot0 slotArgs
 simp only[List.isEmpty_nil,Bool.not_true,Bool.false_eq_true,↓reduceIte,bind_assoc,List.length_nil,bne_self_eq_false]
 unfold Builtin.Frozenset.addrOf Builtin.Frozenset.sizeOf;refine qa (qb ?_)
 try dsimp only
 refine qa (qb ?_)
 try dsimp only
 refine qa (qa (wpAny_setEntries_of c g hf (qb ?_)));refine qa ?_;unfold setDrawn;refine qa (wpAny_setState_of c g hf ?_);dsimp only;refine qa (xAcv (qb ?_));show wpAny _ _ (if(!byT w&&(!t.plain&&decide (es.size>1)))=true then _ else _) _ _ _
 have C:∀vs tp,s.heap.objs.size≤tp->vs.Perm (es.toList.map (·.2))->SM w (s.heap.push { cls:=.type "set_iterator",data:=.fields #[rawInt 0,rawInt 0,.ref a,rawInt (es.size:Int),rawInt (ep:Int)] }) a es ep t vs tp 0 (.int 0 0)->wpAny (model prog w) A.in1 (do
   let first ←pure (rawInt 0)
   let e ←setEpoch a
   let r ←newFields "set_iterator" [first,rawInt 0,Value.ref a,rawInt (es.size:Int),rawInt (e:Int)]
   ret r) (λn s'=>∃v,n=Fin.done (Flow.ret v)/\∃z r,s'.TypeIs v z/\typeLookup (Value.type z) (Str.ofString "__next__")=pure (some r)/\Q v s') E s:=λvs tp hz h K=>by
  refine qa (qb (qa (wpAny_setEpoch_of c g hf ?_)));refine qa (wpAny_newObj_type (qb ⟨_,Y,"set_iterator",_,⟨_,qB _ rfl,Y⟩,xAbi.lookup,?_⟩));exact B _ vs tp _ s.drawn (qd _) hz (λb u e=>qA _ e) h ⟨_,_,qB _ rfl,Y,Y,K⟩
 cases f:byT w with
 |true =>
  rw[Bool.not_true,Bool.false_and,qs qr];exact C _ _ (qd _) ((xAip _ _).map _) (.txt 0 f rfl)
 |false =>
  rw[Bool.not_false,gc]
  cases m:(!t.plain&&decide (es.size>1)) with
  |false =>
   rw[qs qr];refine C _ _ (qd _) (.refl _) (.slt 0 f m (J f) ?_ hs y rfl);have:=(Stb.below_ok hs 0).1;refine Nat.eq_zero_of_not_pos λh=>?_;have l:0<t.place.size:=qv h (Stb.below_ok hs 0).2.2;exact zv _ (this 0 _ h (qp l))
  |true =>
   rw[qt rfl];refine qa (xAdo es.size (List.range es.size) s (by simp) λps d p=>?_)
   have k:ps.length=es.size:=by rw[p.length_eq,vj]
   refine qa (wpAny_newTuple ?_ (by rw[qc,k];exact ze (xAag hz)));have x:(s.heap.push { cls:=.type "tuple",data:=.seq (ps.map λ(i:Nat)=>rawInt i).toArray }).get? a=some o:=qA _ c;have hsz:(s.heap.push { cls:=.type "tuple",data:=.seq (ps.map λ(i:Nat)=>rawInt i).toArray }).objs.size=s.heap.objs.size+1:=size_push' _ _;refine qa (wpAny_setEpoch_of x g hf ?_);refine qa (wpAny_newObj_type (qb ⟨_,Y,"set_iterator",_,⟨_,qB _ rfl,Y⟩,xAbi.lookup,?_⟩));refine B _ (ps.map λp=>(es[p]?.map (·.2)).getD .none) s.heap.objs.size _ d (by show s.heap.objs.size≤Array.size _;rw[hsz];exact we _) (qd _) (λb u e=>qA _ (qA _ e)) ?_ ⟨_,_,qB _ rfl,Y,Y,.drw ps f ⟨_,qA _ (qB _ rfl),Y,_,Y⟩ (λq I=>zm.mp (p.mem_iff.mp I)) rfl⟩;refine(p.map _).trans (.of_eq (zy λi=>?_));have H:es.toList[i]?=es[i]?:=zf ..;rw[qi,qi,H]
   by_cases hi:i<es.size
   ·rw[wx hi,qp hi]
    show some ((es[i]?.map (·.2)).getD .none)=_;rw[qp hi];rfl
   ·rw[List.getElem?_eq_none (by simpa using hi),Array.getElem?_eq_none (by omega)];rfl
def xAub{ep i k:Nat}{t:SetTable}(b:s.heap.get? a=some o)(c:o.data=.set es ep t)(hf:t.fits es.size=true)(d:byT w=true)(h:Q (((pickOrder (w.params.setOrder a ep) es)[i]?).map λe=>(e.2,k)) s):wpAny (model prog w) A (setNext a k i ep) Q E s:=by
 unfold setNext;refine qa (wpAny_setState_of b c hf ?_);dsimp only;refine qa (xAcv ?_);rw[d,qt rfl,qs (by simp)];unfold setWalk;refine qa (qa (wpAny_setState_of b c hf ?_));dsimp only;refine qa (xAcv ?_);rw[d,qt rfl];exact qa (wpAny_askSetting (qb (qb h)))
def xAuc{ep i k:Nat}{t:SetTable}(f:s.heap.get? a=some o)(e:o.data=.set es ep t)(hf:t.fits es.size=true)(g:byT w=false)(b:(!t.plain&&decide (es.size>1))=false)(d:t.led=true)(hz:t.place.size=es.size)(h1:∀(hi:SetTable.below t.place k<es.size) (c:SetTable.below t.place k<t.place.size),Q (some (es[SetTable.below t.place k].2,t.place[SetTable.below t.place k]+1)) s)(h2:es.size≤SetTable.below t.place k->Q none s):wpAny (model prog w) A (setNext a k i ep) Q E s:=by
 unfold setNext;refine qa (wpAny_setState_of f e hf ?_);dsimp only;refine qa (xAcv ?_);rw[g,qs qr];show wpAny _ _ (if(!t.plain&&decide (es.size>1))=true then _ else _) _ _ _;rw[b,qs qr];refine qa (show wpAny _ _ (if(!t.led&&!es.isEmpty)=true then _ else _) _ _ _ from ?_);rw[d]
 simp only[Bool.not_true,Bool.false_and,Bool.false_eq_true,if_false]
 refine qb ?_
 by_cases hi:SetTable.below t.place k<es.size
 ·have c:SetTable.below t.place k<t.place.size:=by rw[hz];exact hi
  rw[qp hi,qp c];exact qb (h1 hi c)
 ·rw[yf (by omega)]
  exact qb (h2 (by omega))
def xAmv{f:Fin->Shared->Prop}{c:Value->Shared->Prop}{h1:Heap}(d:A.handled=none)(k:∀h' x,(∀b u,h1.get? b=some u->h'.get? b=some u)->Shared.TypeIs { s with heap:=h' } x "StopIteration"->c x { s with heap:=h' }) :
  wpAny (model prog w) A.in1 (newExc (.type "StopIteration") [] >>= λe=>raiseNew e) f c { s with heap:=h1 }:=by
 refine qa ?_
 simp only[newExc,newTuple]
 refine qa (wpAny_newObj_type ?_ (by size_fits));refine qa (m:=firstArgMember _ _) (wpAny_of_eq (a:=Value.none) (by first|rfl|(simp only[firstArgMember];rfl)) ?_);refine wpAny_newObj_type ?_ (by size_fits)
 simp only[raiseNew]
 refine qa (wpAny_handled ?_);rw[show A.in1.handled=none from d];refine qa (qb (wpAny_throw ?_));exact k _ _ (λb u e=>qA _ (qA _ e)) ⟨_,qB _ rfl,Y⟩
def xAmw(hs:Stb.Asc xs){k i:Nat}(a:SetTable.below xs k<xs.size)(c:SetTable.below xs k=i):SetTable.below xs (xs[SetTable.below xs k]+1)=i+1:=by
 subst c;generalize hi:SetTable.below xs k=i at a;obtain⟨a1,a2,d⟩:=Stb.below_ok hs (xs[i]+1)
 have e:¬SetTable.below xs (xs[i]+1)≤i:=λh=>absurd (a2 i _ h (qp a)) (by omega)
 refine Nat.le_antisymm (vi λh=>?_) (by omega)
 have b:i+1<xs.size:=by omega
 have:=a1 (i+1) _ h (qp b);have:=hs i (i+1) _ _ (qp a) (qp b) (zw _);omega
def xAmx{t:SetTable}(hh:A.handled=none)(hit:SI w s.heap it a es ep t vs tp i)(hne:it≠a)(W:s.heap.get? a=some o)(hex:o.ExactSet)(X:o.data=.set es ep t)(hf:t.fits es.size=true)(hp:vs.length=es.size)(h1:∀(hi:i<vs.length) h',Heap.SameBut it s.heap h'->SI w h' it a es ep t vs tp (i+1)->Q (some vs[i]) { s with heap:=h' })(h2:es.size≤i->∀h',Heap.ExtBut it s.heap h'->Q none { s with heap:=h' }):wpAny (model prog w) A (pyNext (.ref it)) Q E s:=by
 obtain⟨oi,first,f,h,g,hm⟩:=hit;have hT:s.TypeIs (.ref it) "set_iterator":=⟨oi,f,h⟩;unfold pyNext
 refine qa (wpAny_attempt (wpAny_callSpecial?_slot (name:=Str.ofString "__next__") hT xAbi
  (qH xAbi hT xAfo ?_ (xAgt _))))
 unfold Builtin.«set_iterator.__next__» slotArgs
 simp only[List.isEmpty_nil,Bool.not_true,Bool.false_eq_true,↓reduceIte,bind_assoc,List.length_nil,bne_self_eq_false]
 refine qa (qb ?_)
 try dsimp only
 refine qa (wpAny_fieldsOf f g ?_);dsimp only;refine qa (wpAny_setEntries_of W X hf ?_);rw[qs (by simp)]
 have l:∀(L S P O K:Value),0<#[L,S,P,O,K].size:=λ_ _ _ _ _=>by show 0<5;decide
 have U:∀(L S P O K:Value),1<#[L,S,P,O,K].size:=λ_ _ _ _ _=>by show 1<5;decide
 have lt2:∀(L S P O K:Value),2<#[L,S,P,O,K].size:=λ_ _ _ _ _=>by show 2<5;decide
 have j:∀{h1:Heap} {fs:Array Value} {o1:Obj} (n:Nat) (v:Value),h1.get? it=some o1->o1.cls=.type "set_iterator"->o1.data=.fields fs->n<fs.size->(h1.update it (Obj.mapFields (·.setIfInBounds n v))).get? it=some (Obj.mapFields (·.setIfInBounds n v) o1)/\(Obj.mapFields (·.setIfInBounds n v) o1).cls=.type "set_iterator" /\ (Obj.mapFields (·.setIfInBounds n v) o1).data=.fields (fs.setIfInBounds n v):=λn v e c d _ =>
  ⟨Heap.get?_update_self _ e (Obj.isFreed_of_fields (Obj.data_mapFields d _)),(Obj.cls_mapFields ..).trans c,Obj.data_mapFields d _⟩
 have N:es.size≤i->∀h1,Heap.SameBut it s.heap h1->wpAny (model prog w) A.in1 (newExc (.type "StopIteration") [] >>= λe=>raiseNew e) (λq s'=>∃v,q=Fin.done (Flow.ret v)/\wpAny (model prog w) A (pure (some v)) Q E s') (λe s'=>wpAny (model prog w) A (do
       let b ←isInstance e (.type "StopIteration")
       if b=true then pure none else throw e) Q E s') { s with heap:=h1 }:=λm h1 I=>by
  refine xAmv hh λh' x k Z=>?_;refine qa (wpAny_isInstance (T:="StopIteration") (b:=true) Z isSubtype_stop ?_);rw[qt rfl];exact qb (h2 m h' λb u C e=>k b u ((I.2 b C).trans e))
 have y:∀{f1:Value} {h1:Heap} {o1:Obj},es.size≤i->Heap.SameBut it s.heap h1->h1.get? it=some o1->o1.cls=.type "set_iterator"->o1.data=.fields #[f1,.int i 0,.ref a,.int es.size 0,.int ep 0]->wpAny (model prog w) A.in1 (setField (.ref it) 2 .none >>= λ_=>newExc (.type "StopIteration") [] >>= λe=>raiseNew e) (λq s'=>∃v,q=Fin.done (Flow.ret v)/\wpAny (model prog w) A (pure (some v)) Q E s') (λe s'=>wpAny (model prog w) A (do
       let b ←isInstance e (.type "StopIteration")
       if b=true then pure none else throw e) Q E s') { s with heap:=h1 }:=λm I e c d =>
  qa (wpAny_setField (s:={ s with heap:=_ }) e d (lt2 ..) (N m _ (I.trans (.update _ _ _))))
 have r:∀{f1:Value} {h1:Heap} {o1:Obj} {x:Value} (hi:i<vs.length),x=vs[i]->Heap.SameBut it s.heap h1->h1.get? it=some o1->o1.cls=.type "set_iterator"->o1.data=.fields #[f1,.int i 0,.ref a,.int es.size 0,.int ep 0]->(∀h',Heap.SameBut it s.heap h'->SM w h' a es ep t vs tp (i+1) f1)->wpAny (model prog w) A.in1 (setField (.ref it) 1 (rawInt (i+1)) >>= λ_=>ret x) (λq s'=>∃v,q=Fin.done (Flow.ret v)/\wpAny (model prog w) A (pure (some v)) Q E s') (λe s'=>wpAny (model prog w) A (do
       let b ←isInstance e (.type "StopIteration")
       if b=true then pure none else throw e) Q E s') { s with heap:=h1 }:=λhi hx I e c d hm'=>by
  refine qa (wpAny_setField (s:={ s with heap:=_ }) e d (U ..) (qb ⟨_,Y,qb ?_⟩));rw[hx];have M:=I.trans (.update _ it (Obj.mapFields (·.setIfInBounds 1 (rawInt (i+1)))));have u:=j 1 (rawInt (i+1)) e c d (U ..);exact h1 hi _ M ⟨_,_,u.1,u.2.1,u.2.2,hm' _ M⟩
 have ls:vs.length=es.size:=hp
 cases hm with
 |txt k C D =>
  dsimp only;refine qa (xAub (ep:=ep) (i:=i) W X hf C ?_)
  have V:(pickOrder (w.params.setOrder a ep) es).size=es.size:=by
   have:=(xAip (w.params.setOrder a ep) es).length_eq
   rwa [qx,qx]at this
  by_cases hi:i<es.size
  ·have hi2:i<(pickOrder (w.params.setOrder a ep) es).size:=by rw[V];exact hi
   have H:(pickOrder (w.params.setOrder a ep) es)[i]?=some (pickOrder (w.params.setOrder a ep) es)[i]:=qp hi2;rw[H];refine qa (wpAny_setField f g (l ..) ?_);have u:=j 0 (rawInt (k.toNat:Int)) f h g (l ..);refine r (f1:=.int (k.toNat:Int) 0) (by omega) ?_ (.update _ _ _) u.1 u.2.1 u.2.2 λh' _=>.txt _ C D;subst D;rw[ym,md]
  ·have H:(pickOrder (w.params.setOrder a ep) es)[i]?=none:=yf (by rw[V];exact vi hi)
   rw[H];exact y (vi hi) (.refl _ _) f h g
 |drw ps C ht R D =>
  dsimp only;obtain⟨ot,F,hct,n,B⟩:=ht;refine qa (wpAny_seqItems F B ?_);dsimp only
  have pl:ps.length=es.size:=by rw[←ls,D,qc]
  have hnt:tp≠it:=λz=>by
   rw[z,f]at F;cases F;rw[g]at B;cases B
  by_cases hi:i<ps.length
  ·have H:(ps.map λ(p:Nat)=>rawInt p).toArray[(i:Int).toNat]?=some (rawInt (ps[i]:Nat)):=by
    show(ps.map λ(p:Nat)=>rawInt p).toArray[i]?=_;rw[w6,qi,qf hi];rfl
   rw[H];show wpAny _ _ (setNextDrawn a ps[i] ep >>= _) _ _ _;have hz:=R ps[i] (wn hi);refine qa ?_;unfold setNextDrawn;refine qa (wpAny_setState_of W X hf ?_);dsimp only;rw[qs (by simp),Array.getElem?_eq_getElem hz];refine qb ?_;refine r (by omega) ?_ (.refl _ _) f h g λh' I=>.drw ps C ⟨ot,(I.2 tp hnt).trans F,hct,n,B⟩ R D;subst D;rw[ym,qp hz];rfl
  ·have H:(ps.map λ(p:Nat)=>rawInt p).toArray[(i:Int).toNat]?=none:=by
    show(ps.map λ(p:Nat)=>rawInt p).toArray[i]?=_;rw[w6,qi,wo (vi hi)];rfl
   rw[H];refine qa (wpAny_setField f g (l ..) ?_);have u:=j 0 (rawInt 0) f h g (l ..);exact y (by omega) (.update _ _ _) u.1 u.2.1 u.2.2
 |slt k C J hl hk hs hz D =>
  dsimp only;refine qa (xAuc W X hf C J hl hz (λhi hj=>?_) λm=>?_)
  ·refine qa (wpAny_setField f g (l ..) ?_)
   have u:=j 0 (rawInt ((t.place[SetTable.below t.place k]+1:Nat):Int)) f h g (l ..);have G:SetTable.below t.place (k:Int).toNat=i:=hk;refine r (f1:=.int ((t.place[SetTable.below t.place k]+1:Nat):Int) 0) (by rw[ls,←G];exact hi) ?_ (.update _ _ _) u.1 u.2.1 u.2.2 λh' _=>.slt _ C J hl ?_ hs hz D
   ·subst D
    rw[ym,md]
    simp only[←G]
   ·exact xAmw hs hj hk
  ·exact y (by have G:SetTable.below t.place (k:Int).toNat=i:=hk;rw[←G];exact m) (.refl _ _) f h g
end
section
variable {prog:Program}{w:World}{A:Around}{E:Value->Shared->Prop}{s:Shared}
def xAje(a:Value)(h:Q₁ (.ref s.heap.objs.size) { s with heap:=s.heap.push { cls:=.type "set",dict:=none,data:=.set #[] 0 (.fresh 0 0 (!byT w)) } }) :
  codeAny (model prog w) A (.call (.builtin "set.__new__") ⟨[.type "set",a],[]⟩) (wants Q₁ E) s:=by
 refine codeAny_of_tree ?_;show wpAny _ A.in1 (do checkBuiltinCall "set.__new__" ⟨[.type "set",a],[]⟩;again (.builtin "set.__new__" ⟨[.type "set",a],[]⟩)) _ _ s;refine qa (wpAny_of_eq (F.newCall_set_1 a) (qb ⟨plainId_quiet F.plain_set_new _,codeAny_builtin F.entry_set_new ?_⟩));rw[Around.under_plainId F.plain_set_new _];unfold Builtin.«set.__new__» Builtin.Frozenset.newClass;have b:=sub_set_self;obtain⟨c,g,d,tk,e⟩:=s;dsimp only
 wp_walk
 refine wpAny_askSetting (qb ?_);dsimp only
 simp only[newObj]
 refine qa (wpAny_alloc (qb ?_));exact qb h
def xAmy{l:Addr}{items:Array Value}{Z:Heap->Prop}{Q:Value->Shared->Prop}(hh:A.handled=none)(hu:A.units+4<cLine)(P:s.heap.IsList l items)(u:∀(s':Shared) (R:Result->Shared->Prop),s'.heap=(s.heap.push { cls:=.type "set",dict:=none,data:=.set #[] 0 (.fresh 0 0 (!byT w)) }).push { cls:=.type "list_iterator",data:=.fields #[.ref l,.int 0 0] }->(∀h' tk,(∀b o,b≠s.heap.objs.size->b≠s.heap.objs.size+1->s'.heap.get? b=some o->h'.get? b=some o)->Z h'->R (.ok (.ret .none)) { s' with heap:=h',toks:=tk })->codeAny (model prog w) A.in1.in1 (.builtin "set.update.loop" ⟨[.ref s.heap.objs.size,.ref (s.heap.objs.size+1)],[]⟩) R s')(h:∀(h':Heap) (tk:Nat),Z h'->(∀b o,b<s.heap.objs.size->s.heap.get? b=some o->h'.get? b=some o)->Q (.ref s.heap.objs.size) { s with heap:=h',toks:=tk }) :
  wpAny (model prog w) A (call (.type "set") [.ref l]) Q E s:=by
 obtain⟨c,tl,L⟩:=F.called_set.mro;have z:=F.called_set.made;have J:=F.called_set.sub;refine wpAny_call (codeAny_of_tree ?_);show wpAny _ _ (callAny (.type "set") _) _ _ _;refine qb ⟨Code.quiet_builtin _ (by decide +kernel),codeAny_builtin F.entry_type_call ?_⟩;rw[Around.under_plain (weight_type_call_type "set" [.ref l] []) rfl];have h1:=F.called_set.notType;have h2:=F.called_set.canCreate;have M:=F.typeCall_set_1 (.ref l)
 repeat (any_goals (first|assumption|wp_step))
 refine codeAny_mono (xAje (.ref l) (E:=E) (Q₁:=λobj f=>obj=.ref s.heap.objs.size/\f={ s with heap:=s.heap.push { cls:=.type "set",dict:=none,data:=.set #[] 0 (.fresh 0 0 (!byT w)) } }) ⟨Y,Y⟩) λr f C=>?_
 cases r with
 |error e=>exact C
 |ok O =>
  cases O with
  |ret obj =>
   obtain⟨rfl,rfl⟩:=C;have W:(s.heap.push { cls:=.type "set",dict:=none,data:=.set #[] 0 (.fresh 0 0 (!byT w)) }).get? s.heap.objs.size=some { cls:=.type "set",dict:=none,data:=.set #[] 0 (.fresh 0 0 (!byT w)) }:=qB _ rfl;have V:Shared.TypeIs { s with heap:=s.heap.push { cls:=.type "set",dict:=none,data:=.set #[] 0 (.fresh 0 0 (!byT w)) } } (.ref s.heap.objs.size) "set":=⟨_,W,Y⟩;have S:=F.called_set.init.lookup;have T:=F.called_set.init.bind (.ref s.heap.objs.size)
   repeat (any_goals (first|assumption|wp_step))
   refine codeAny_mono (codeAny_call_builtin (R:=wants (λr g=>r=.none/\∃h' tk,g={ s with heap:=h',toks:=tk }/\Z h'/\(∀b o,b<s.heap.objs.size->s.heap.get? b=some o->h'.get? b=some o)) E) F.called_set.init.plain F.entry_set_init (check_set_init_1 V ?_)) λq g a=>?_
   ·obtain⟨N,n,m,D,t⟩:=P
    obtain⟨H,k,y,d⟩:=N
    simp only at m t
    subst m;subst t;have p:(s.heap.push { cls:=.type "set",dict:=none,data:=.set #[] 0 (.fresh 0 0 (!byT w)) }).get? l=some { cls:=.type "list",dict:=k,data:=.seq items D,slots:=d }:=qA _ n;have I:=F.sub_list_set;have K:=F.sub_list_frozenset
    have U:(Value.type "list"==Value.type "dict")=false:=by decide
    have x:(s.heap.push { cls:=.type "set",dict:=none,data:=.set #[] 0 (.fresh 0 0 (!byT w)) }).IsList l items:=⟨_,p,Y,D,Y⟩;unfold Builtin.«set.__init__» noKeywords Builtin.Frozenset.updateFrom;generalize v:pyIter=PI
    wp_walk
    subst v;refine wpAny_pyIter_list x ?_;refine qa (wpAny_runValue ?_);have X:l<s.heap.objs.size:=q0 n;have hsz:(s.heap.push { cls:=.type "set",dict:=none,data:=.set #[] 0 (.fresh 0 0 (!byT w)) }).objs.size=s.heap.objs.size+1:=Heap.size_push ..;rw[hsz];have k0:∀b o,s.heap.get? b=some o->((s.heap.push { cls:=.type "set",dict:=none,data:=.set #[] 0 (.fresh 0 0 (!byT w)) }).push { cls:=.type "list_iterator",data:=.fields #[.ref l,.int 0 0] }).get? b=some o:=λb o e=>qA _ (qA _ e);refine u _ _ rfl ?_
    ·intro h' tk kp i
     refine qb ?_;show wpAny _ _ (ret Value.none) _ _ _;refine qb ⟨Y,h',tk,Y,i,λb o G e=>?_⟩;exact kp b o (qg G) (qg (zq G)) (k0 b o e)
   ·cases q with
    |error e=>exact a
    |ok j =>
     cases j with
     |ret r =>
      obtain⟨rfl,h',tk,rfl,i,B⟩:=a
      repeat (any_goals (first|assumption|wp_step))
      exact h _ _ i B
     |_=>exact a.elim
  |_=>exact C.elim
end
section
variable {P:Program}{w:World}{A:Around}{R:Result->Shared->Prop}{E:Value->Shared->Prop}{s:Shared}{U:List Key->Value->Prop}{ld:Bool}
def xApv{I S l:Addr}(hh:A.in1.handled=none)(L:l≠I)(O:S≠l)(m:S≠I)(hu:A.in1.units+1<cLine)(hn:kk.length≤63)(hU:∀(i:Nat) v ks,items[i]?=some v->kk[i]?=some ks->U ks v) :
  ∀(k i:Nat) (s:Shared),kk.length - i=k->i≤kk.length->s.heap.IsListIter I l i->s.heap.IsList l items->LI P w s.heap items kk->SD P w U ld s.heap S (ddk (kk.take i)) →
   (∀h' tk,(∀b o,b≠S->b≠I->s.heap.get? b=some o->h'.get? b=some o)->SD P w U ld h' S (ddk kk)->R (.ok (.ret .none)) { s with heap:=h',toks:=tk }) →
   codeAny (model P w) A (.builtin "set.update.loop" ⟨[.ref S,.ref I],[]⟩) R s:=by
 have W:=Walks.list (prog:=P) (w:=w) (A:=A.in1) hh I l L items;intro k
 induction k with
 |zero =>
  intro i s hk hi d H f u G
  have X:i=kk.length:=by omega
  subst X;refine codeAny_builtin F.entry_set_update_loop ?_;rw[Around.under_plainId F.plain_set_update_loop _];show wpAny _ A.in1 (pyNext (.ref I) >>= _) _ _ s;refine qa (W.done s _ _ ⟨by rw[f.1];exact d,H⟩ λh' tk a=>?_);show wpAny _ A.in1 (ret Value.none) _ _ _;rw[wb]at u;obtain⟨oi,J,T,di⟩:=id d;refine qb (G h' tk (λb o _ nI e=>a b o (by simpa using nI) e) (u.move (λo e=>a S o (by simpa using m) e) λb o e c=>a b o (by simpa using xAty e c J T (by decide)) e))
 |succ k ih =>
  intro i s hk hi d H f u G
  have j:i<kk.length:=by omega
  refine codeAny_builtin F.entry_set_update_loop ?_;rw[Around.under_plainId F.plain_set_update_loop _];show wpAny _ A.in1 (pyNext (.ref I) >>= _) _ _ s;refine qa (W.item i s _ _ (by rw[f.1];exact j) ⟨d,H⟩ λv h' tk hP h a=>?_);have n:kk[i]?=some kk[i]:=qf j;obtain⟨oi,J,T,di⟩:=id d
  have Z:∀b o,s.heap.get? b=some o->o.cls=.type "tuple"->h'.get? b=some o:=λb o e c=>a b o (by simpa using xAty e c J T (by decide)) e
  have g:=f.ext Z;have p:=u.move (λo e=>a S o (by simpa using m) e) Z;obtain⟨b,rfl,Y⟩:=g.2 i v _ hP n;show wpAny _ A.in1 (holding [Value.ref b] (setAdd S (.ref b)) >>= _) _ _ _;refine qa (qD ?_);unfold setAdd;refine qD ?_;refine qa ((tupleKind (mixKind P w)).pyHash (show A.in1.units<cLine by omega) Y ?_);have q:=xArl (kk.take i);rw[zj]at q;refine add_d (s:={ s with heap:=h',toks:=_ }) hu p Y (hU i _ _ hP n) (by omega) λr h2 sb t=>?_;rw[←xAtz n]at t;obtain⟨oS,_,_,_,_,eS,xS,_⟩:=id p;have k2:∀c o,c≠S->h'.get? c=some o->h2.get? c=some o:=λc o nc e=>(sb.2 c nc).trans e
  have N:∀c o,h'.get? c=some o->o.cls=.type "tuple"->h2.get? c=some o:=λc o e cc=>k2 c o (xAty e cc eS xS.1 (by decide)) e
  obtain⟨x,V,D,Q⟩:=h.1;obtain⟨M,z,E,y,B⟩:=h.2;refine qb ⟨plainId_quiet F.plain_set_update_loop _,ih (i+1) _ (by omega) j ⟨x,k2 _ _ (Ne.symm m) V,D,Q⟩ ⟨M,k2 _ _ (Ne.symm O) z,E,y,B⟩ (g.ext N) t λh3 K kp C=>?_⟩;exact G h3 K (λc o n1 n2 e=>kp c o n1 n2 (k2 c o n1 (a c o (by simpa using n2) e))) C
end
def SE(w:World)(h:Heap)(q:Addr)(a:List Addr):Prop:=∃o es ep t,h.get? q=some o/\o.ExactSet/\o.data=.set es ep t/\es.toList.map (·.2)=a.map Value.ref/\t.fits es.size=true/\(byT w=false->t.led=true)/\Stb.Asc t.place/\t.place.size=es.size
def setE(w:World)(q:Addr)(a:List Addr):HO:=.ext λh=>SE w h q a
inductive IrSetE(w:World)(xs:List V)(H:Hp)(Q:VK):Prop
 |mk (p:Addr) (ys:List V) (kk:List (List Key)) (h0:xs=[.ref p]) (h1:SqL H p ys) (h2:ys.length=kk.length) (h3:∀(i:Nat) y ks,ys[i]?=some y->kk[i]?=some ks->GK H (.tup ks) y) (h5:kk.length≤63) (h6:∀q H' (as:List Addr) (kl:List (List Key)),H q=none->Same H H'->H' q=some (setE w q as)->as.length=kl.length->kl.Perm (ddk kk)->(∀(j:Nat) a ls,as[j]?=some a->kl[j]?=some ls->∃i:Nat,ys[i]?=some (.ref a)/\kk[i]?=some ls)->Q (.ref q) H'):IrSetE w xs H Q
def rSetE(w:World):List V->Hp->VK->Prop:=λxs H Q=>IrSetE w xs H Q
def rOf:Value->Addr
 |.ref a=>a
 |_=>0
section
variable {X:Cx}
def xApw(hc:X.calm=true)(hu:X.A.units+4<cLine):CallR X (.type "set") (rSetE X.w):=by
 intro pins s σ H xs us Q I r h;obtain⟨p,ys,kk,h0,hq,hl,W,hn,q⟩:=h;subst h0;obtain⟨u,rfl,ru⟩:=vals1 r;cases ru;obtain⟨d,rv,pl,hz⟩:=I.list hq;have U:=rv.length
 have D:p<s.heap.objs.size:=by obtain⟨o,e,_⟩:=pl.isList;exact q0 e
 have get:∀(i:Nat) v ks,d.toArray[i]?=some v->kk[i]?=some ks->∃y,ys[i]?=some y/\RelV y v/\GK H (.tup ks) y:=λi v ks n f=>by
  rw[w6]at n
  have hi:i<ys.length:=by
   have:=(qy.mp f).1;omega
  obtain⟨u',B,c⟩:=rv.get (qf hi);rw[n]at B;cases B;exact⟨_,qf hi,c,W i _ ks (qf hi) f⟩
 have J:LI X.prog X.w s.heap d.toArray kk:=⟨by rw[qz,←U,hl],λi v ks n f=>by
  obtain⟨y,_,c,g⟩:=get i v ks n f
  exact GK.is I g c⟩
 have hU:∀(i:Nat) v ks,d.toArray[i]?=some v->kk[i]?=some ks->∃(i:Nat) (a:Addr),v=.ref a/\ys[i]?=some (.ref a)/\kk[i]?=some ks:=λi v ks n f=>by
  obtain⟨y,ey,c,b,O,_⟩:=get i v ks n f;subst O;cases c;exact⟨i,b,Y,ey,f⟩
 refine xAmy (Z:=λh'=>SD X.prog X.w (λz v=>∃(i:Nat) (a:Addr),v=.ref a/\ys[i]?=some (.ref a)/\kk[i]?=some z) (!byT X.w) h' s.heap.objs.size (ddk kk)) (I.ok.hd hc) hu pl.isList (λs' R m hR=>?_) λh' tk V kp=>?_
 ·have hsz:(s.heap.push { cls:=.type "set",dict:=none,data:=.set #[] 0 (.fresh 0 0 (!byT X.w)) }).objs.size=s.heap.objs.size+1:=Heap.size_push ..
  have hG:s'.heap.get? s.heap.objs.size=some { cls:=.type "set",dict:=none,data:=.set #[] 0 (.fresh 0 0 (!byT X.w)) }:=by rw[m];exact qA _ (qB _ rfl)
  have k0:∀b o,s.heap.get? b=some o->s'.heap.get? b=some o:=λb o e=>by rw[m];exact qA _ (qA _ e)
  have hI:s'.heap.IsListIter (s.heap.objs.size+1) p 0:=⟨_,by rw[m,←hsz];exact qB _ rfl,Y,Y⟩;exact xApv (P:=X.prog) (w:=X.w) (A:=X.A.in1.in1) (I:=s.heap.objs.size+1) (S:=s.heap.objs.size) (l:=p) (items:=d.toArray) (kk:=kk) (by simp[I.ok.hd hc]) (Nat.ne_of_lt (Nat.lt_succ_of_lt D)) (Nat.ne_of_gt D) (Nat.ne_of_lt (Nat.lt_succ_self _)) (by show X.A.units+3+1<cLine;omega) hn hU (kk.length - 0) 0 _ rfl (Nat.zero_le _) hI (by obtain⟨o,e,r⟩:=pl.isList;exact⟨o,k0 _ _ e,r⟩) (J.ext λb o e _=>k0 b o e) ⟨_,#[],0,_,#[],hG,⟨Y,Y,Y⟩,Y,⟨Y,λi e z g=>by simp at g,λi e z g=>by simp at g⟩,.nil,⟨Y,Y,.inl ⟨Y,Nat.zero_le _⟩⟩,⟨λa b x y g=>by simp[SetTable.fresh]at g,Y,λi j e g=>by simp[SetTable.fresh]at g⟩,Y⟩ λh' tk kp V=>hR h' tk kp V
 ·obtain⟨o,es,ep,t,M,h1,h2,h3,G,h5,h6,h7,h8⟩:=V
  have hf:=I.hok.fresh (a:=s.heap.objs.size) (qd _)
  have C:M.toList.length=es.toList.length:=by rw[qx,qx,G.size]
  have e0:es.size=(ddk kk).length:=by rw[←G.size,←qx,h5.length_eq]
  have T:es.toList.map (·.2)=(es.toList.map λe=>rOf e.2).map Value.ref:=by
   rw[wa];refine jd λe he=>?_;obtain⟨i,hi,q⟩:=zn he
   have hk:i<M.toList.length:=by rw[C];exact hi
   obtain⟨_,a,ea,_⟩:=G.us i e _ (by rw[←zf,qf hi,q]) (by rw[←zf,qf hk]);show e.2=Value.ref (rOf e.2);rw[ea];rfl
  have L:SE X.w h' s.heap.objs.size (es.toList.map λe=>rOf e.2):=⟨o,es,ep,t,h1,h2,h3,T,by rw[e0];exact h6.fits,λhb=>by rw[h8,hb];rfl,h7.asc,h7.size⟩;refine⟨.ref s.heap.objs.size,upd H s.heap.objs.size (setE X.w s.heap.objs.size (es.toList.map λe=>rOf e.2)),?_,Y,q _ _ _ M.toList hf (Same.new hf) xAac (by rw[qc];exact C.symm) h5 λj a z E F=>?_⟩
  ·refine I.laid (t':=tk) (h':=h') (o:=setE X.w s.heap.objs.size _) (λb u e=>kp b u (q0 e) e) (qd _) ⟨L,⟨o,h1⟩,λha hb x k=>?_⟩
   obtain⟨o',N,K,t',E,F⟩:=x;exact⟨o',N,K,t',k _ E,F⟩
  ·rw[qi,zf]at E
   rw[zf]at F;obtain⟨e,ee,er⟩:=wl.mp E;obtain⟨i,b,O,c1,c2⟩:=G.us j e z ee F;rw[O]at er;cases er;exact⟨i,c1,c2⟩
end
def xAdp:Slot "set_iterator" "__iter__" "set_iterator.__iter__" :=
 .of (owner:="set_iterator") (n:="__iter__") (by rw[typeLookup_type,builtinLookup_eq_fast];kernel_rfl) (by decide +kernel) (by decide +kernel) (by decide +kernel)
  (by first|exact .inl (by decide +kernel)|exact .inr (by decide +kernel)) (by rw[isSubtype_type];kernel_rfl)
def xAfp:entryFor table "set_iterator.__iter__"=some Builtin.«dict_keyiterator.__iter__» :=
 entryFor_alias (id':="dict_keyiterator.__iter__") (by kernel_rfl) rfl (by decide +kernel) (by kernel_rfl)
def xAgu(a:Value):argsOk "set_iterator.__iter__" ⟨[a],[]⟩:=by
 unfold argsOk;rw[signature?_of (id:="set_iterator.__iter__") (n:=['_','_','r','e','t','i','_','_']) (o:=['r','o','t','a','r','e','t','i','_','t','e','s']) (by kernel_rfl) xAmu];kernel_rfl
section
variable {prog:Program}{w:World}{A:Around}{E:Value->Shared->Prop}{s:Shared}
def xAud{t:SetTable}(B:A.handled=none)(g:it≠a)(p:o.ExactSet)(r:o.data=.set es ep t)(hf:t.fits es.size=true)(C:vs.length=es.size) :
  WalksS prog w A it [it,a,tp] [it] Eq es.size (λj v=>vs[j]?=some v) (λi s=>SI w s.heap it a es ep t vs tp i/\s.heap.get? a=some o) where
 sub:=λb d=>by rw[qu.mp d];exact ql
 grefl:=λ_=>rfl
 gtrans:=λ_ _ _ h1 h2=>h1.trans h2
 frame:=λi s h' tk ⟨⟨o1,f,e,c,dd,m⟩,n⟩ _ k=>⟨⟨o1,f,k it ql o1 e,c,dd,by
  cases m with
  |txt k d q=>exact .txt k d q
  |drw ps d I hz q =>
   obtain⟨y,G,K⟩:=I;exact .drw ps d ⟨y,k tp (by simp) y G,K⟩ hz q
  |slt k d r H F hs hz q=>exact .slt k d r H F hs hz q⟩,k a (qw _ ql) o n⟩
 item:=λi s Q E hi ⟨st,n⟩ k=>xAmx B st g n p r hf C (λl h' D x=>k _ _ (qf l) ⟨x,(D.2 a g.symm).trans n⟩ ⟨λb o d e=>(D.2 b (λz=>d (by rw[z];exact ql))).trans e,Y,Y,Y,qd _⟩) λz=>absurd hi (by omega)
 done:=λs Q E ⟨st,n⟩ k=>xAmx B st g n p r hf C (λl=>absurd l (by omega)) λ_ h' J=>k _ ⟨λb o d e=>J b o (λz=>d (by rw[z];exact ql)) e,Y,Y,Y,qd _⟩
 self:=λi s Q E ⟨⟨o1,f,e,c,_⟩,_⟩ h=>by
  have u:s.TypeIs (.ref it) "set_iterator":=⟨o1,e,c⟩;refine wpAny_pyIter_slot u xAdp (qH xAdp u xAfp ?_ (xAgu _));show wpAny _ _ (ret (.ref it)) _ _ s;exact qb ⟨_,Y,"set_iterator",_,u,xAbi.lookup,h⟩
def xAmz(h:ItemsOf (λj v=>vs[j]?=some v) a vs.length):a.toList=vs:=by
 apply zy;intro j
 by_cases b:j<a.size
 ·rw[zf,qp b]
  exact(h.2 j a[j] (qp b)).symm
 ·have c:¬j<vs.length:=by rw[←h.1];exact b
  rw[wo (by rw[qx];omega),wo (by omega)]
end
def xAgv(h:vs.Perm (b.map Value.ref)):∃bs:List Addr,vs=bs.map Value.ref/\bs.Perm b:=by
 have e:vs=(vs.map rOf).map Value.ref:=by
  rw[wa]
  conv=>lhs;rw[←List.map_id vs]
  refine jd λv c=>?_;obtain⟨a,_,q⟩:=qj.mp (h.mem_iff.mp c);subst q;rfl
 refine⟨vs.map rOf,e,?_⟩;have:=h.map rOf;rw[wa]at this
 have z:(b.map (rOf∘Value.ref))=b:=by
  conv=>rhs;rw[←List.map_id b]
  rfl
 rwa [z]at this
section
variable {prog:Program}{w:World}{A:Around}{E:Value->Shared->Prop}{s:Shared}
def xAjf(hh:A.handled=none)(hS:SE w s.heap d P)(hz:P.length≤1000)(hQ:∀s' (bs:List Addr) i,bs.Perm P->Moved [] Eq { s with drawn:=i } s'->Q (bs.map Value.ref) s'):wpAny (model prog w) A (collect (.ref d)) Q E s:=by
 obtain⟨od,es,ep,t,Z,O,n,M,k,I,H,X⟩:=hS
 have hes:es.size=P.length:=by
  have:=congrArg List.length M
  rwa [qc,qc,qx]at this
 unfold collect;refine qa (wpAny_runValue (codeAny_builtin F.entry_proto_collect ?_));rw[Around.under_plainId F.plain_proto_collect _];show wpAny _ A.in1 (newList [] >>= λl=>again (.builtin "list.__iadd__" ⟨[l,.ref d],[]⟩)) _ _ s;refine qa (wpAny_newObj_type ?_);refine qb ⟨plainId_quiet F.plain_list_iadd _,codeAny_builtin F.entry_list_iadd ?_⟩;rw[Around.under_plainId F.plain_list_iadd _];have u:(s.heap.push { cls:=.type "list",data:=.seq ([]:List Value).toArray }).get? d=some od:=qA _ Z;have hT:Shared.TypeIs { s with heap:=s.heap.push { cls:=.type "list",data:=.seq ([]:List Value).toArray } } (.ref d) "set":=⟨od,u,O.1⟩;have p:d<s.heap.objs.size:=q0 Z
 have h1:Builtin.List.listSameRef (.ref s.heap.objs.size) (.ref d)=false:=by
  show(s.heap.objs.size==d)=false;exact beq_eq_false_iff_ne.mpr (zg p)
 show wpAny _ A.in1 (Builtin.List.listExtendWith (.ref s.heap.objs.size) (.ref d) (.ref s.heap.objs.size)) _ _ _;unfold Builtin.List.listExtendWith;refine qa (wpAny_typeOf hT ?_);rw[qs (by rw[h1];decide)];have hsz:(s.heap.push { cls:=.type "list",data:=.seq ([]:List Value).toArray }).objs.size=s.heap.objs.size+1:=size_push' _ _;refine qa (xAua (w:=w) u O n k (by omega) I H X λit vs tp h2 i N S k2 v R=>?_)
 have N:s.heap.objs.size+1≤it:=by rw[←hsz];exact N
 have S:s.heap.objs.size+1≤tp:=by rw[←hsz];exact S
 refine qa (qD ?_);have K:h2.get? d=some od:=k2 _ _ u;have r:Shared.TypeIs { s with heap:=h2,drawn:=i } (.ref d) "set":=⟨od,K,O.1⟩;unfold Builtin.List.listLengthHint;refine qa (wpAny_specialOf (name:=Str.ofString "__len__") r F.slot_set_len.lookup ?_);generalize G:("set.__len__":String)=id0
 wp_delta
 rw[show splitId id0=some ("set","__len__") from by subst G;decide +kernel];subst G;refine qa (wpAny_isInstance (T:="set") r sub_set_self ?_);rw[qs (by decide)]
 wp_delta
 rw[qt (by decide +kernel)];refine qa (wpAny_typeOf r (qb ?_))
 have C:vs.length=es.size:=by rw[v.length_eq,qc,qx]
 rw[qt (by decide +kernel)];show wpAny _ _ _ _ _ { s with heap:=h2,drawn:=i };have L:h2.get? s.heap.objs.size=some { cls:=.type "list",data:=.seq ([]:List Value).toArray }:=k2 _ _ (qB _ rfl);refine qa (wpAny_rule (qa ?_));unfold Builtin.List.listTouch;refine qa (listUpdate_at L rfl ?_);obtain⟨c1,q⟩:∃c1,(h2.update s.heap.objs.size (Obj.mapSeq (·.push Value.none))).get? s.heap.objs.size=some (seqObj "list" #[Value.none] c1):=⟨_,get?_update_seq L _⟩;have f:∀b o,b≠s.heap.objs.size->h2.get? b=some o->(h2.update s.heap.objs.size (Obj.mapSeq (·.push Value.none))).get? b=some o:=λb o g e=>(Heap.get?_update_other _ _ (λz=>g z.symm)).trans e;generalize h2.update s.heap.objs.size (Obj.mapSeq (·.push Value.none))=h3 at q f;refine listUpdate_at (s:={ s with heap:=h3,drawn:=i }) q rfl ?_;obtain⟨c2,D⟩:∃c2,(h3.update s.heap.objs.size (Obj.mapSeq (·.pop))).get? s.heap.objs.size=some (seqObj "list" #[] c2):=⟨_,get?_update_seq q _⟩;have c:∀b o,b≠s.heap.objs.size->h2.get? b=some o->(h3.update s.heap.objs.size (Obj.mapSeq (·.pop))).get? b=some o:=λb o g e=>(Heap.get?_update_other _ _ (λz=>g z.symm)).trans (f b o g e);show wpAny _ _ _ _ _ { s with heap:=h3.update s.heap.objs.size (Obj.mapSeq (·.pop)),drawn:=i };generalize h3.update s.heap.objs.size (Obj.mapSeq (·.pop))=h4 at D c;have j:∀{x:Addr},s.heap.objs.size+1≤x->∀y,y<s.heap.objs.size+1->y≠x:=λh y h2 z=>zr _ (qv h2 (z▸h));have Y:it≠d:=(j N d (zq p)).symm;have W:=xAud (prog:=prog) (w:=w) (A:=A.in1) (it:=it) (a:=d) (tp:=tp) (o:=od) (es:=es) (ep:=ep) (t:=t) (vs:=vs) hh Y O n k C
 have nS:s.heap.objs.size∉[it,d,tp]:=λz=>by
  simp only[List.mem_cons,List.not_mem_nil,or_false]at z
  rcases z with z|z|z
  ·exact j N _ (zw _) z
  ·exact zg p z
  ·exact j S _ (zw _) z
 have U:=W.frame 0 { s with heap:=h2,drawn:=i } h4 s.toks ⟨R,K⟩ (qd _) λb g o e=>c b o (λz=>nS (z▸g)) e;refine qb ⟨plainId_quiet F.plain_extend_loop _,codeAny_extend_loopS W (ze (xAag (by omega))) s.heap.objs.size nS _ es.size 0 { s with heap:=h4,drawn:=i } #[] c2 rfl (qk _) U D (ItemsOf.nil _) λs' B c' J V m=>?_⟩;show wpAny _ A (load s.heap.objs.size >>= _) _ _ s';refine qa (qI V ?_);show wpAny _ _ (pure B.toList) Q E s';rw[←C]at m;rw[xAmz m];rw[M]at v;obtain⟨bs,eb,pb⟩:=xAgv v;rw[eb];refine qb (hQ s' bs i pb ⟨λb o _ e=>?_,J.gens,J.drawn,J.os,J.toks⟩);have g:b<s.heap.objs.size:=q0 e;refine J.heap b o (λz=>?_) (c b o (qg g) (k2 _ _ (qA _ e)))
 simp only[List.mem_cons,List.not_mem_nil,or_false]at z
 rcases z with z|z
 ·exact qg g z
 ·exact j N _ (zq g) z
def xAna{g:List Addr}(t:A.handled=none)(u:SE w s.heap d g)(q:g.length=n)(hz:n≤1000)(lt:List Addr->Nat->Nat->Bool)(W:∀bs,bs.Perm g->Srt.Swo (lt bs))(k:∀bs,Few (lt bs) n)(f:∀bs b,bs.Perm g->∀s',Moved [] Eq { s with drawn:=b } s'->∀h',Ext s'.heap h'->2≤n->Answers prog w A.in1.in1 { s' with heap:=h' } (bs.map Value.ref) (lt bs))(h:∀bs b,bs.Perm g->∀s' h' a p c,Moved [] Eq { s with drawn:=b } s'->Ext s'.heap h'->s'.heap.objs.size≤a->Arr n (lt bs) p->h'.get? a=some (seqObj "list" (List.toArray (p.toList.map λi=>(bs.map Value.ref).getD i Value.none)) c)->Q (.ref a) { s' with heap:=h' }) :
  wpAny (model prog w) A (call (.builtin "sorted") [.ref d]) Q E s:=by
 refine Calls.call_function_entry kind_sorted plain_sorted entry_sorted (args_sorted1 _) ?_;unfold Builtin.«sorted»;refine qa (m:=checkCount "sorted" 1 1 _) (qb (qa (xAjf t u (by omega) λs' bs b j l=>?_)))
 have hn:(bs.map Value.ref).length=n:=by rw[qc,j.length_eq,q]
 have o:(bs.map Value.ref).length≤sizeLine:=by rw[sizeLine_eq,hn];omega
 refine qa (wpAny_newList ?_ o);have v:Ext s'.heap (s'.heap.push (seqObj "list" (bs.map Value.ref).toArray 0)):=.push _ _;have o1:(s'.heap.push (seqObj "list" (bs.map Value.ref).toArray 0)).get? s'.heap.objs.size=some (seqObj "list" (bs.map Value.ref).toArray 0):=qB _ rfl;show wpAny (model prog w) _ _ _ _ { s' with heap:=s'.heap.push (seqObj "list" (bs.map Value.ref).toArray 0) };refine qa (qD (qH slot_list_sort ⟨_,o1,Y⟩ entry_list_sort (xAdi (W bs j) o1 (by omega) (by rw[hn];exact k bs) (h0:=s'.heap) (qd _) v (λh' x z=>f bs b j s' l h' x (by rw[←hn];exact z)) λh' p c x r e=>?_) (args_list_sort _)));exact⟨_,Y,qb ⟨_,Y,h bs b j s' h' _ p c l x (qd _) (by rw[←hn];exact r) e⟩⟩
end
def Inv.drawnTo{X:Cx}{pins:List (Addr×Obj)}{σ:St}{H:Hp}{s:Shared}(I:Inv X pins σ H s)(a:Drawn):Inv X pins σ H { s with drawn:=a } :=
 I.step (h':=s.heap) (t':=s.toks) (g':=s.gens) (d':=a) (ch:=[]) (λ_ z=>nomatch z) (λb o _ _ _ e _=>e) (λb o _ _ _ e _=>⟨o.slots,e⟩) (λ_ _ _ _ n=>n) (λb o _ e=>⟨o,e⟩) (λ_ _ e=>e) (λ_ _ _ e=>e) (λb ps e=>⟨#[],by rw[e];simp⟩) (λb o xs e n=>e) (λm c=>c) I.hok I.bare
def DVs.perm{d bs:List V}(p:bs.Perm d):∀{ds:List PyData},DVs H d ds->∃c,DVs H bs c/\c.Perm ds:=by
 induction p with
 |nil=>intro ds h;exact⟨ds,h,.refl _⟩
 |cons x _ g =>
  intro ds h
  cases h with
  |cons a t =>
   obtain⟨c,c1,c2⟩:=g t;exact⟨_::c,.cons a c1,c2.cons _⟩
 |swap x y l =>
  intro ds h
  cases h with
  |cons a t =>
   cases t with
   |cons b t=>exact⟨_,.cons b (.cons a t),.swap _ _ _⟩
 |trans _ _ i1 i2 =>
  intro ds h;obtain⟨c,c1,c2⟩:=i2 h;obtain⟨es,f,e⟩:=i1 c1;exact⟨es,f,e.trans c2⟩
inductive IrSortE(w:World)(xs:List V)(H:Hp)(Q:VK):Prop
 |mk (q:Addr) (as:List Addr) (ds:List PyData) (t:Nat) (h0:xs=[.ref q]) (h1:H q=some (setE w q as)) (h2:DVs H (as.map V.ref) ds) (h3:KeysAre ds t) (h4:as.length<64) (h5:∀r H' (bs:List Addr) cs ix,H r=none->Same H H'->bs.Perm as->DVs H (bs.map V.ref) cs->cs.Perm ds->SortIx cs ix->H' r=some (.lst (ix.map λi=>(bs.map V.ref).getD i .non))->Q (.ref r) H'):IrSortE w xs H Q
def rSortE(w:World):List V->Hp->VK->Prop:=λxs H Q=>IrSortE w xs H Q
def xAnb:∀(bs:List Addr),Vals (bs.map V.ref) (bs.map Value.ref)
 |[]=>.nil
 |_::bs=>.cons rfl (xAnb bs)
open Classical in
noncomputable def csOf(H:Hp)(ds:List PyData)(bs:List Addr):List PyData:=if h:∃a,DVs H (bs.map V.ref) a/\a.Perm ds then h.choose else[]
section
variable {X:Cx}
def xAgw(O:X.A.units+3+61<cLine)(F:X.A.handled=none):CallR X (.builtin "sorted") (rSortE X.w):=by
 intro pins s σ H xs us Q I r h;obtain⟨p,g,ds,t,h0,N,L,E,C,q⟩:=h;subst h0;obtain⟨u,rfl,J⟩:=vals1 r;cases J;obtain⟨M,_⟩:=I.hok p _ N
 have b:∀bs:List Addr,bs.Perm g->DVs H (bs.map V.ref) (csOf H ds bs)/\(csOf H ds bs).Perm ds:=λbs f=>by
  have e:=L.perm (f.map V.ref);unfold csOf;rw[dif_pos e];exact e.choose_spec
 have D:∀bs:List Addr,bs.Perm g->KeysAre (csOf H ds bs) t:=λbs f=>E.sub λd h=>(b bs f).2.mem_iff.mp h;refine xAna (n:=g.length) F M rfl (by omega) (λbs=>ltK (csOf H ds bs)) (λbs f=>xAss (D bs f).one) (λbs=>.inl C) (λbs v f s' m h' x h2=>?_) λbs v f s' h' a j c m x z y e=>?_
 ·obtain⟨K,G⟩:=(b bs f).1.reads ((I.drawnTo v).moved m) (xAnb bs)
  exact xAdj (s:={ s' with heap:=h' }) (xAbh x G) (D bs f) (by rw[qc,f.length_eq];exact h2) (by show X.A.units+1+1+60<cLine;omega)
 ·have k:=(I.drawnTo v).moved m
  have l:bs.length=g.length:=f.length_eq;have B:(bs.map V.ref).length=(csOf H ds bs).length:=xAce (b bs f).1
  have o:∀i∈j.toList,i<(bs.map V.ref).length:=λi hi=>by
   have:=(y.1.toList.mem_iff).mp hi
   simp at this
   rw[qc];omega
  refine⟨.ref a,upd H a (.lst (j.toList.map λi=>(bs.map V.ref).getD i .non)),k.laid x z ⟨?_,_,c,xAeo (xAnb bs) _ o,e⟩,Y,q a _ bs _ j.toList (k.hok.fresh z) (Same.new (k.hok.fresh z)) f (b bs f).1 (b bs f).2 (xAen (by rw[←B,qc,l];exact y)) xAac⟩;rw[qc,qx,y.1.size_eq]
  simp
  exact ze (xAag (by omega))
end
end L2
namespace L2
open PySem PySem.Spec PyProof.Rows
def ObjOk.there(x:ObjOk P w H h a o):∃u,h.get? a=some u:=by
 cases o with
 |lst xs=>obtain⟨_,_,_,_,e⟩:=x;exact⟨_,e⟩
 |tup xs=>obtain⟨_,_,_,b,e,_⟩:=x;exact⟨_,e⟩
 |dK kvs=>obtain⟨_,_,_,_,o,_,_,e,_⟩:=x;exact⟨_,e⟩
 |dT kvs=>obtain⟨_,_,_,_,o,_,_,e,_⟩:=x;exact⟨_,e⟩
 |dG kvs=>obtain⟨_,_,_,_,o,_,_,e,_⟩:=x;exact⟨_,e⟩
 |set S n=>obtain⟨o,_,_,_,e,_⟩:=x;exact⟨_,e⟩
 |ins C dx fs=>obtain⟨_,_,_,e,_⟩:=x;exact⟨_,e⟩
 |own y=>exact x
 |xd fs=>obtain⟨mA,⟨od,es,ep,e,c⟩,r⟩:=x;exact⟨_,e⟩
 |rng lo hi=>obtain⟨_,_,_,e⟩:=x;exact⟨_,e⟩
 |frz b u=>exact⟨_,x.1⟩
 |tbl ps=>exact⟨_,x⟩
 |met f y=>exact⟨_,x⟩
 |ext d=>exact x.2.1
def Safe(fs:List Addr)(H:Hp)(D:Addr->Prop)(h1 h2:Heap):Prop:=∀b o,h1.get? b=some o->b∉fs->((∃x,H b=some x)\/D b)->h2.get? b=some o
def Up(fs:List Addr)(h h':Heap):Prop:=∀b∈fs,∀o,h.get? b=some o->(∀vs,o.data≠.fields vs)->∃a,h'.get? b=some { o with slots:=a }
def Up.of{fs:List Addr}(u:h.UpToSlots h'):Up fs h h':=λb _ o e n=>u b o e n
abbrev In(h:Heap):Addr->Prop:=λb=>∃o,h.get? b=some o
section
variable {P:Program}{w:World}{fs ex:List Addr}{H H':Hp}{h h1 h2:Heap}{D:Addr->Prop}
def Un.over(u:Un fs ex H H' h h1)(k:Safe fs H' D h1 h2)(d:∀b o,h.get? b=some o->b∉ex->D b)(hf:∀b∈fs,H b=none)(up:∀b∈fs,∀o,h1.get? b=some o->∃f,h2.get? b=some { o with slots:=f }):Un fs ex H H' h h2 where
 keep b o e n a hx:=k b o (u.keep b o e n a hx) a (.inr (d b o e hx))
 slot b o e n a hx:=by
  obtain⟨f,q⟩:=u.slot b o e n a hx;obtain⟨c,q'⟩:=up b a _ q;exact⟨c,q'⟩
 free:=u.free
 there b o e hx:=by
  obtain⟨o',q⟩:=u.there b o e hx
  by_cases a:b∈fs
  ·obtain⟨c,q'⟩:=up b a _ q
   exact⟨_,q'⟩
  ·exact⟨o',k b o' q a (.inr (d b o e hx))⟩
 tups:=u.tups
 frzs:=u.frzs
 tbls:=u.tbls
 tupo b o xs e n:=k b o (u.tupo b o xs e n) (λa=>by rw[hf b a]at n;cases n) (.inl ⟨_,u.tups b xs n⟩)
def HOk.over(x:HOk P w H' h1)(k:Safe fs H' D h1 h2)(hf:∀b∈fs,H' b=none):HOk P w H' h2:=λa o e =>
 (x a o e).stay (λb u c q=>by
  have d:∃y,H' b=some y:=by
   rcases c with rfl|c
   ·exact⟨_,e⟩
   ·exact⟨_,c⟩
  refine k b u q (λz=>?_) (.inl d);obtain⟨y,f⟩:=d
  rw[hf b z]at f;cases f) (λ_ q=>q) λ_ _ q=>q
end
inductive Fly(l:List Env)(H:Hp)(h0:Heap)(a:Addr)(cls:Value)(h:Heap):Prop
 |mk (B:Heap) (a0:Value) (f:Heap.FlyingW B l a cls a0 h) (k:Safe (frs l) H (In h0) h B):Fly l H h0 a cls h
inductive Flew(P:Program)(w:World)(outer:List Env)(H:Hp)(s:Shared)(E:XK)(e:Value)(s':Shared):Prop
 |mk (a:Addr) (cls:Value) (H':Hp) (he:e=.ref a) (os:s'.os=s.os) (bare:AllBare s'.gens) (un:Un (frs outer) [] H H' s.heap s'.heap) (hok:HOk P w H' s'.heap) (fl:Fly outer H' s.heap a cls s'.heap) (q:E cls none H'):Flew P w outer H s E e s'
abbrev CXd(P:Program)(w:World):CXT:=λouter H s E e s'=>Flew P w outer H s E e s'
section
variable {X:Cx}{pins:List (Addr×Obj)}{σ:St}{H H':Hp}{s s':Shared}{h' B:Heap}{D:Addr->Prop}{ch:List Addr}
def Inv.overB(I:Inv X pins σ H s)(h:s'.os=s.os)(a:AllBare s'.gens)(un:Un (frs X.stack) ch H H' s.heap s'.heap)(g:HOk X.prog X.w H' s'.heap)(k:Safe (frs X.stack) H' D s'.heap B)(l:∀b o,s.heap.get? b=some o->b∉ch->D b)(st:B.StaysIn h')(up:Up (frs X.stack) s'.heap h')(d:∀b∈ch,(b∈X.ex\/X.s₀.heap.objs.size≤b)/\b≠X.env.locals/\(∀x c,X.env.cells.lookup x=some c->c≠b)/\∀p∈X.pn++pins,p.1≠b):Inv X pins σ H' { s' with heap:=h' }:=by
 have J:Inv X pins σ H' s':=I.call' h un g a d;have k2:Safe (frs X.stack) H' D s'.heap h':=λb o e n x=>st b o (k b o e n x);refine I.call' (s':={ s' with heap:=h' }) h (un.over k2 l I.stkFree λb i o e=>?_) (g.over k2 J.stkFree) a d;obtain⟨_,o',f,j⟩:=J.stack.mem i;rw[e]at f;cases f;exact up b i o e j
def Safe.on(k:Safe (frs l) H' D h1 B)(st:B.StaysIn h')(c:HOk P w H' h1)(m:∀b,b∉frs l'->((∃x,H' b=some x)\/D0 b)->b∉frs l)(d:∀b,D0 b->D b/\∃o',h1.get? b=some o'):Safe (frs l') H' D0 h' B:=λb o e n x=>by
 have j:=m b n x
 have:∃o',h1.get? b=some o'/\B.get? b=some o':=by
  rcases x with⟨y,a⟩|a
  ·obtain⟨u,h⟩:=(c b y a).there
   exact⟨u,h,k b u h j (.inl ⟨y,a⟩)⟩
  ·obtain⟨p,o2,f⟩:=d b a
   exact⟨o2,f,k b o2 f j (.inr p)⟩
 obtain⟨o',q,g⟩:=this;have i:=st b o' g;rw[e]at i;cases i;exact g
end
section
variable {P:Program}{w:World}{K:PySem.W.Frag}{mg:Str->Option Value}{base:Heap}{N:List Str}{qual:Str}{scope:Scope}{f:Addr}{cd:Value}{A:Around}{outer:List Env}{s₀:Shared}{H₀:Hp}{E:XK}
abbrev cxD(P:Program)(w:World)(K:PySem.W.Frag)(mg:Str->Option Value)(base:Heap)(N:List Str)(qual:Str)(scope:Scope)(f:Addr)(cd:Value)(A:Around)(outer:List Env)(s:Shared)(H:Hp)(E:XK):Cx:=cxOf (CXd P w) P w K mg base N qual scope f cd A outer s H E
def Inv.notL{X:Cx}{pins:List (Addr×Obj)}{σ:St}{H:Hp}{s:Shared}(I:Inv X pins σ H s)(hs:X.stack=X.env::X.outer)(hf:X.env.frame=some X.env.locals){b:Addr}(n:b∉X.fs)(x:(∃y,H b=some y)\/∃o',X.s₀.heap.get? b=some o'):b∉frs X.stack:=λz=>by
 rcases za.mp (I.stkSub b z) with e|e
 ·subst e
  rcases x with⟨y,a⟩|⟨o',a⟩
  ·rw[I.free]at a;cases a
  ·exact absurd (qv (q0 a) I.ok.above) (zr _)
 ·exact n e
def xArn{pins:List (Addr×Obj)}{σ:St}{H H':Hp}{s s':Shared}{B h':Heap}{a:Addr}{g r:Value}{D:Addr->Prop}{ch:List Addr}(I:Inv (cxD P w K mg base N qual scope f cd A outer s₀ H₀ E) pins σ H s)(v:s'.os=s.os)(i:AllBare s'.gens)(un:Un (frs (envOfC qual scope s₀.heap.objs.size f cd::outer)) ch H H' s.heap s'.heap)(h:HOk P w H' s'.heap)(k:Safe (frs (envOfC qual scope s₀.heap.objs.size f cd::outer)) H' D s'.heap B)(t:∀b o,s.heap.get? b=some o->b∉ch->D b)(l:Heap.FlyingW B outer a g r h')(y:Up (frs (envOfC qual scope s₀.heap.objs.size f cd::outer)) s'.heap h')(q:E g none H')(d:∀b∈ch,s₀.heap.objs.size≤b/\b≠s₀.heap.objs.size/\(∀x c,(envOfC qual scope s₀.heap.objs.size f cd).cells.lookup x=some c->c≠b)/\∀p∈pins,p.1≠b) :
  Flew P w outer H₀ s₀ E (.ref a) { s' with heap:=h' }:=by
 have J:=I.overB v i un h k t l.1 y λb j=>⟨.inr (d b j).1,(d b j).2.1,(d b j).2.2.1,λp C=>(d b j).2.2.2 p (by simpa[cxOf] using C)⟩
 refine⟨a,g,H',Y,J.os,J.bare,J.base,J.hok,⟨B,r,l,?_⟩,q⟩;refine k.on (D0:=In s₀.heap) (l':=outer) l.1 h (λb n x=>J.notL rfl rfl n x) λb ⟨o,e⟩=>?_;obtain⟨o1,m⟩:=I.base.there b o e (by simp[cxOf]);have u:b∉ch:=λz=>absurd (qv (q0 e) (d b z).1) (zr _);exact⟨t b o1 m u,un.there b o1 m u⟩
def passD:Passes (CXd P w) (cxD P w K mg base N qual scope f cd A outer s₀ H₀ E) E:=by
 intro pins σ H s e s' I l;obtain⟨a,h,H',rfl,g,c,un,d,⟨B,n,m,k⟩,q⟩:=l
 exact wpAny_leaves_onW (show(cxD P w K mg base N qual scope f cd A outer s₀ H₀ E).A.frames=some _ from I.ok.frames) rfl m λh' j i=>xArn I g c un d k (λb o e _=>⟨o,e⟩) j (.of i) q (λb z=>absurd z (by simp))
abbrev bmV:List Value:=[.type "ValueError",.type "Exception",.type "BaseException",.type "object"]
structure XC(K:PySem.W.Frag)(C:Addr):Prop where
 ok:PySem.W.excIn K C bmV "ValueError.__new__"=true
def XC.obj(x:XC K C)(X:K.In h):∃tl g nm q bs hdct sn sub ab col dd k0 k1 k2 k3 k5 mN,
  h.get? C=some (excClassObj nm q C g bs tl hdct sn sub ab col dd k0 k1 k2 k3 k5 "ValueError.__new__")/\h.Ns g mN/\mN "__init__"=none/\OwnTail h bmV tl:=by
 have q:=x.ok;unfold PySem.W.excIn at q
 split at q
 ·rename_i dd cd f p
  split at q
  ·rename_i C' bm k0 k1 k2 k3 n k5 e hs
   simp only[Bool.and_eq_true,beq_iff_eq,Bool.not_eq_true']at q
   obtain⟨⟨⟨⟨⟨rfl,rfl⟩,a⟩,m⟩,b⟩,c⟩:=q;obtain⟨nm,bs,j,i,k,o,sn,sub,ab,col,del⟩:=cd;dsimp only at e a b c;subst e a
   have d:f=#[k0,k1,k2,k3,some (.builtin "ValueError.__new__"),k5]:=by
    obtain⟨l⟩:=f
    simp only at hs
    rw[hs]
   subst d;exact⟨bm,i,nm,k,bs,o,sn,sub,ab,col,dd,k0,k1,k2,k3,k5,_,X _ _ p,.of_isNs (PySem.W.isNs_of_in X b),PySem.W.nsMap_none_of_in X b c,PySem.W.tail_of_in X m⟩
  ·cases q
 ·cases q
inductive ItRaise(C:Addr)(E:XK)(vs:List V)(H1:Hp):Prop
 |mk (h0_:vs.length≤sizeLine) (h1_:E (.ref C) none H1):ItRaise C E vs H1
def tRaise(C:Addr)(E:XK)(t:TA):TS:=λ_ σ H=>t σ H λvs H1=>ItRaise C E vs H1
def xAgx{t:TA}(xc:XC K C)(hm:mg x=some (.ref C))(U:PA (cxD P w K mg base N qual scope f cd A outer s₀ H₀ E) (e::es) t)(Q:Gl (cxD P w K mg base N qual scope f cd A outer s₀ H₀ E) x:=by exact rfl)(hd:(x==("__debug__":Str))=false:=by decide)(m:starEach (e::es) (envOfC qual scope s₀.heap.objs.size f cd)=(false,eval e (envOfC qual scope s₀.heap.objs.size f cd))::starEach es (envOfC qual scope s₀.heap.objs.size f cd):=by rfl)(p:(backTo cpos (starEach es (envOfC qual scope s₀.heap.objs.size f cd))).any (·.1)=false:=by rfl) :
  PS (cxD P w K mg base N qual scope f cd A outer s₀ H₀ E) (.Raise (some (.Call (.Name x np) (e::es) [] cpos)) none pos) (tRaise C E t):=by
 refine⟨?_⟩;intro pins s σ H D I h;obtain⟨tl,Z,nm,q,bs,hdct,sn,sub,ab,col,dd,k0,k1,k2,k3,k5,mN,L,X,v,T⟩:=xc.obj I.mod.kin;have l:=PySem.F.excBase_ValueError
 refine wpAny_Raise_call_subU (C:=C) (nm:=nm) (q:=q) (N:=Z) (bs:=bs) (bm:=tl) (hdct:=hdct) (sn:=sn) (sub:=sub) (ab:=ab) (col:=col) (dd:=dd) (k0:=k0) (k1:=k1) (k2:=k2) (k3:=k3) (k5:=k5)
  l l.hasB l (mN:=mN) (T.hasType l.hasBase) (I.ok.hd rfl) (by show(backTo cpos (starEach (e::es) (envOfC qual scope s₀.heap.objs.size f cd))).any (·.1)=false;rw[m];show(false||(backTo cpos (starEach es (envOfC qual scope s₀.heap.objs.size f cd))).any (·.1))=false;rw[p];rfl) v (xAcx I Q hm ⟨Y,?_⟩ hd)
 have u:=U cpos pins s σ H _ I h;show wpAny _ _ (evalArgs (.ref C) true (backTo cpos (starEach (e::es) (envOfC qual scope s₀.heap.objs.size f cd))) []) _ _ _;have d:wpAny (model P w) (A.deeper (envOfC qual scope s₀.heap.objs.size f cd)) (spliced (backTo cpos (starEach (e::es) (envOfC qual scope s₀.heap.objs.size f cd)))) _ _ s:=u;rw[m]at d ⊢;refine Calls.evalArgs_plain (thn d λus i ⟨vs,H2,c,r,R,q⟩=>⟨Y,by rw[←r.length];exact R,c.bk _ _ L,X.keeps c.bk,T.keeps c.bk,λh' a k=>?_⟩);have B:∀g∈(envOfC qual scope s₀.heap.objs.size f cd::outer),∀b,g.frame=some b->b∈frs (envOfC qual scope s₀.heap.objs.size f cd::outer):=λg m b M=>yh.mpr ⟨g,m,M⟩
 have J:Safe (frs (envOfC qual scope s₀.heap.objs.size f cd::outer)) H2 (In i.heap) h' (PySem.W.hideAll i.heap (frs (envOfC qual scope s₀.heap.objs.size f cd::outer))):=λb o e n z=>by
  have:∃o',i.heap.get? b=some o':=by
   rcases z with⟨y,hy⟩|z
   ·exact(c.hok b y hy).there
   ·exact z
  obtain⟨o',j⟩:=this;have G:=k.keeps b o' j;rw[e]at G;cases G;exact PySem.W.hideAll_get _ j n
 exact wpAny_leaves_madeW (base:=PySem.W.hideAll i.heap (frs (envOfC qual scope s₀.heap.objs.size f cd::outer))) (show(cxD P w K mg base N qual scope f cd A outer s₀ H₀ E).A.frames=some _ from I.ok.frames) rfl (λb o q=>PySem.W.of_hideAll _ q) (PySem.W.funFrames_hide c.stack B) k λV t O _ _ S =>
  xArn (s':={ i with heap:=h' }) c rfl c.bare (Un.kept k.keeps) (c.hok.kept k.keeps) J (λb o e _=>⟨o,e⟩) (ch:=[]) O (.of S) q (λb z=>absurd z (by simp))
end
section
variable {X:Cx}{k n:Nat}{x:Str}{ps:List Str}{sp:Sp}{p pos:Pos}{e:Expr}{es:List Expr}{t:TA}{E:XK}
structure FnX(P:Program)(w:World)(K:PySem.W.Frag)(mg:Str->Option Value)(base:Heap)(k:Nat)(x:Str)(ps:List Str)(sp:Sp):Prop where
 out:∃f fd,FnOk P w K mg base (CXd P w) k f fd ps sp/\mg x=some (.ref f)/\PySem.W.keepIn K (.ref f)=true/\Binds K fd ps []
def clX(F:FnX X.prog X.w X.K X.mg X.base k x ps sp)(h:Passes (CXd X.prog X.w) X E)(m:Room n X.A)(l:PA X (e::es) t)(d:k≤n:=by decide)(i:Gl X x:=by exact rfl)(a:(x==("__debug__":Str))=false:=by exact rfl)(g:St1 X e:=by exact λ_=>rfl)(b:(backTo pos (starEach es X.env)).any (·.1)=false:=by exact rfl) :
  PE X (.Call (.Name x p) (e::es) [] pos) (tCall sp [] E t):=by
 obtain⟨f,fd,F,j,c,o⟩:=F.out;exact xAqg F (m.mono d) i j c o .nil h l a (g _) b
end
def Fun.okX{P:Program}{w:World}{K:PySem.W.Frag}{mg:Str->Option Value}{base:Heap}{x qual:Str}{st:Stmt}{f:Addr}{fd:FuncData}{N ps:List Str}{k:Nat}{sp:Sp}(F:Fun K x qual st f fd)(S:FnScope N ps (defScope st))(len:∀vs H Q E,sp vs H Q E->vs.length=ps.length)(b:∀(a:Value) (A:Around) (outer:List Env) (s:Shared) (H:Hp) (vs:List V) (Q:VK) (E:XK),Room k (A.deeper (envOfC qual (defScope st) s.heap.objs.size f a))->sp vs H Q E →
   ∃t,PSs (cxD P w K mg base N qual (defScope st) f a A outer s H E) (defBody st) t/\t { nx:=λ_ H'=>Q .non H',rt:=Q } (start N vs) H):FnOk P w K mg base (CXd P w) (k+1) f fd ps sp:=by
 obtain⟨l,od,kV,g,j,n,a,m,e,rfl,h,d⟩:=F.ex;exact fn_of h d S len λA outer s H vs Q E i c=>b a A outer s H vs Q E i c
def xAyv{P:Program}{w:World}{K:PySem.W.Frag}{mg:Str->Option Value}{base:Heap}{x:Str}{st:Stmt}{N ps:List Str}{k:Nat}{sp:Sp}(F:FO K mg x st)(S:FnScope N ps (defScope st))(h:∀(kV c d:Value) (i:Option Addr) (a g:Value) (us:List Value),us.length=ps.length->bindArgs (PySem.W.fnOf x x (defArgs st) (defBody st) (defScope st) .none kV c d i a g) ⟨us,[]⟩=pure (ps.zip us))(len:∀vs H Q E,sp vs H Q E->vs.length=ps.length)(b:∀(f:Addr) (a:Value) (A:Around) (outer:List Env) (s:Shared) (H:Hp) (vs:List V) (Q:VK) (E:XK),Room k (A.deeper (envOfC x (defScope st) s.heap.objs.size f a))->sp vs H Q E →
   ∃t,PSs (cxD P w K mg base N x (defScope st) f a A outer s H E) (defBody st) t/\t { nx:=λ_ H'=>Q .non H',rt:=Q } (start N vs) H):FnX P w K mg base (k+1) x ps sp:=by
 obtain⟨f,fd,F,e⟩:=F.out;exact⟨f,fd,F.okX S len (b f),e,F.kp,F.binds h⟩
section
variable {M:Model}{A:Around}{E:Value->Shared->Prop}
variable {nm q nm' q':Str}{C C' N N':Addr}{bs bm bs' bm':List Value}{hdct hdct':Bool}{sn sn':List Str}{sub sub':List Value}{ab ab':Bool}{col col':Option Bool}{dd dd':Option Addr}{k0 k1 k2 k3 k5 k0' k1' k2' k3' k5':Option Value}{newId newId':String}
def xAeu{g:Array GenState}{t:Nat}{k:OsState}(o:h.get? C=some (excClassObj nm q C N bs bm hdct sn sub ab col dd k0 k1 k2 k3 k5 newId))(c:h.get? C'=some (excClassObj nm' q' C' N' bs' bm' hdct' sn' sub' ab' col' dd' k0' k1' k2' k3' k5' newId'))(m:h.get? e=some l)(i:l.cls=.ref C)(a:bm'.contains (.type "BaseException")=true)(p:(Value.ref C::bm).contains (.ref C')=b)(n:Q b ⟨h,g,d,t,k⟩):wpAny M A (excMatches (.ref e) (.ref C')) Q E ⟨h,g,d,t,k⟩:=by
 have j:(Value.ref C'::bm').contains (.type "BaseException")=true:=by rw[List.contains_cons,a,Bool.or_true]
 have f:=tc_notTuple;unfold excMatches
 repeat (first|(with_reducible refine wpAny_loadPart_at m ?_;rw[i])|with_reducible refine wpAny_loadPart_at c ?_|(with_reducible refine wpAny_isSubtype_exc c ?_;rw[j])|(with_reducible refine wpAny_isSubtype_exc o ?_;rw[p])|wp_step)
 cases b <;> (wp_walk;exact n)
end
def XeP(X:Cx)(pins:List (Addr×Obj))(σ:St)(E:XK)(e:Value)(s':Shared):Prop:=∃H1 a,Inv X pins σ H1 a/\Flew X.prog X.w X.stack H1 a E e s'
abbrev Cx.mrk(X:Cx)(a:Addr):Cx:={ X with A:=X.A.mark (some (.ref a)),calm:=false,xe:=λ_ _=>False }
def Inv.mrk{X:Cx}{pins:List (Addr×Obj)}{σ:St}{H:Hp}{s:Shared}(I:Inv X pins σ H s)(a:Addr):Inv (X.mrk a) pins σ H s:=by
 obtain⟨ok,g,e,j,f,h,c,d,k,i,b⟩:=I;exact⟨⟨ok.mod,ok.kind,ok.glob,ok.blt,ok.above,ok.inj,ok.has,ok.cab,λz=>(by cases z),ok.frames,ok.stk,ok.exf,ok.bs,ok.bsz,ok.noex,ok.exfs,ok.funs,ok.frf⟩,g,e,j,f,h,c,d,k,i,b⟩
def Inv.unmrk{X:Cx}{pins:List (Addr×Obj)}{σ:St}{H:Hp}{s:Shared}{a:Addr}(ok:X.Ok)(I:Inv (X.mrk a) pins σ H s):Inv X pins σ H s:=by
 obtain⟨_,g,e,j,f,h,c,d,k,i,b⟩:=I;exact⟨ok,g,e,j,f,h,c,d,k,i,b⟩
def SP.unmrk(ok:X.Ok)(h:SP (X.mrk a) pins D f s'):SP X pins D f s':=by
 cases f with
 |next=>obtain⟨σ',H',I,q⟩:=h;exact⟨σ',H',I.unmrk ok,q⟩
 |brk=>obtain⟨σ',H',I,q⟩:=h;exact⟨σ',H',I.unmrk ok,q⟩
 |cont=>obtain⟨σ',H',I,q⟩:=h;exact⟨σ',H',I.unmrk ok,q⟩
 |ret u=>obtain⟨v,σ',H',I,r,q⟩:=h;exact⟨v,σ',H',I.unmrk ok,r,q⟩
def Un.track{fs ex:List Addr}(u:Un fs ex H H' h h')(hn:h.get? a=none)(c:H' a=none):Un fs ex H (upd H' a o) h h' where
 keep:=u.keep
 slot:=u.slot
 free b ob e n hx:=by rw[xAaf (λz=>by subst z;rw[hn]at e;cases e)];exact u.free b ob e n hx
 there:=u.there
 tups b xs e:=by have q:=u.tups b xs e;rw[xAaf (xAai q c)];exact q
 frzs b ob v e:=by have q:=u.frzs b ob v e;rw[xAaf (xAai q c)];exact q
 tbls b ps e:=by obtain⟨d,q⟩:=u.tbls b ps e;exact⟨d,by rw[xAaf (xAai q c)];exact q⟩
 tupo:=u.tupo
def Abv(K:PySem.W.Frag)(C0 C:Addr):Prop:=∃a od cd b,K.lookup C0=some ⟨a,od,.cls cd,b⟩/\cd.mro.contains (.ref C)=true
def excO(a C0:Addr):HO:=.ext λh=>∃o,h.get? a=some o/\o.cls=.ref C0
def Ends.less(D:Ends)(i:Nat):Ends:={ nx:=λσ H=>D.nx (σ.set i none) H,rt:=D.rt,bk:=λσ H=>D.bk (σ.set i none) H,ct:=λσ H=>D.ct (σ.set i none) H }
section
variable {X:Cx}{pins:List (Addr×Obj)}{σ:St}{H:Hp}{s:Shared}
def xAcw(I:Inv X pins σ H s)(R:X.N.Nodup)(hi:X.N[i]?=some x)(G:X.env.scope.names.lookup x=some .local)(h:∀s',Inv X pins (σ.set i none) H s'->Q () s'):wpAny M A (do bindName X.env x .none;unbindBehindTheSuite X.env x pos) Q E s:=by
 obtain⟨m,hn,K⟩:=id I.loc
 have l:(X.env.scope.kind==.class||(X.env.scope.kind==.module&&X.env.locals != X.env.globals))=false:=by rw[I.ok.kind];rfl
 have cne:=I.cne;refine wpAny_nameGoes_keeps G hn l λh' v w hs=>?_;have t:∀b o,X.s₀.heap.get? b=some o->b≠X.env.locals:=λb o e=>qg (qv (q0 e) I.ok.above);refine h _ ⟨I.ok,I.os,I.bare,⟨λb o e n u g=>(hs.2 b (t b o e)).trans (I.base.keep b o e n u g),λb o e n u g=>?_,I.base.free,λb o e g=>?_,I.base.tups,I.base.frzs,I.base.tbls,λb o xs e n=>(hs.2 b (t b o e)).trans (I.base.tupo b o xs e n)⟩,⟨_,w,λj y O a f U=>?_⟩,λy c e=>?_,I.free,I.freeC,λp T=>?_,λb S e=>?_,by simpa using I.len⟩
 ·obtain⟨J,a⟩:=I.base.slot b o e n u g
  exact⟨J,(hs.2 b (t b o e)).trans a⟩
 ·obtain⟨o',a⟩:=I.base.there b o e g
  exact⟨o',(hs.2 b (t b o e)).trans a⟩
 ·by_cases B:j=i
  ·subst B
   rw[List.getElem?_set]at f
   split at f
   ·split at f <;> cases f
   ·exact absurd rfl ‹_›
  ·rw[vf (Ne.symm B)]at f
   obtain⟨L,F,q⟩:=K j y O a f U;refine⟨L,F,?_⟩;rcases q with⟨k,e⟩|⟨k,c,e,z⟩
   ·refine .inl ⟨k,?_⟩
    have:y≠x:=λe=>B (xAft R a (e▸hi))
    simp[this,e]
   ·exact .inr ⟨k,c,e,z.sameBut hs (cne y c e)⟩
 ·obtain⟨D,z⟩:=I.cell y c e
  exact⟨D,z.sameBut hs (cne y c e)⟩
 ·obtain⟨e,n,C,P,d⟩:=I.pin p T
  exact⟨(hs.2 p.1 C).trans e,n,C,P,d⟩
 ·refine(I.hok b S e).stay (λc D r q=>(hs.2 c ?_).trans q) (λ_ q=>q) λ_ _ q=>q
  rintro rfl;rcases r with rfl|r
  ·rw[I.free]at e;cases e
  ·rw[I.free]at r;cases r
def xAyw(c:X.N.Nodup)(hi:X.N[i]?=some x)(b:X.env.scope.names.lookup x=some .local)(ok:X.Ok)(h:SP X pins (D.less i) f s) :
  wpAny M A (do bindName X.env x .none;unbindBehindTheSuite X.env x pos) (λ_ s'=>SP X pins D f s') E s:=by
 cases f with
 |next=>obtain⟨σ',H',I,q⟩:=h;exact xAcw I c hi b λs' a=>⟨_,H',a,q⟩
 |brk=>obtain⟨σ',H',I,q⟩:=h;exact xAcw I c hi b λs' a=>⟨_,H',a,q⟩
 |cont=>obtain⟨σ',H',I,q⟩:=h;exact xAcw I c hi b λs' a=>⟨_,H',a,q⟩
 |ret u=>obtain⟨v,σ',H',I,r,q⟩:=h;exact xAcw I c hi b λs' a=>⟨v,_,H',a,r,q⟩
end
section
variable {X:Cx}{pins:List (Addr×Obj)}{σ:St}{s':Shared}{D:Ends}{e:Value}{C0 C:Addr}{W:Hp->Prop}{y:Str}{np hpos:Pos}{b₀:Stmt}{suite:List Stmt}{th:TS}
def xAue(hN:X.N.Nodup)(hi:X.N[i]?=some n)(hl:X.env.scope.names.lookup n=some .local)(hs:X.stack=X.env::X.outer)(hf:X.env.frame=some X.env.locals)(Z:XC X.K C0)(xc:XC X.K C)(ab:Abv X.K C0 C)(hm:X.mg y=some (.ref C))(hg:Gl X y)(hd:(y==("__debug__":Str))=false)(hth:∀a,PSs (X.mrk a) (b₀::suite) th)(hq:XeP X pins σ (λM _ H'=>M=.ref C0/\W H') e s')(hW:∀H' a,W H'->H' a=none->th (D.less i) (σ.set i (some (.ref a))) (upd H' a (excO a C0))) :
  wpAny (model X.prog X.w) X.A (noteFrame e X.env) (λ_ S=>wpAny (model X.prog X.w) X.A (setFlight e none) (λ_ I =>
   wpAny (model X.prog X.w) X.A (handleBy e X.env [.ExceptHandler (some (.Name y np)) (some n) (b₀::suite) hpos]) (SP X pins D) X.xe I) X.xe S) X.xe s':=by
 obtain⟨H1,G,r,a,M,H',rfl,L,d,un,j,⟨B,a0,E,k⟩,rfl,q⟩:=hq;have hX:X.A.frames=some (X.env::X.outer):=r.ok.frames.trans (by rw[hs]);rw[hs]at E;have kD:∀b o,G.heap.get? b=some o->b∉([]:List Addr)->In G.heap b:=λb o e _=>⟨o,e⟩
 have na:G.heap.get? a=none/\H' a=none:=by
  have nf:a∉frs X.stack:=λz=>by
   obtain⟨oe,vs,T,oT,ts,he,_,hdd,_⟩:=E.2.2.2
   have J:Inv X pins σ H' s':=r.call' L un j d λb z=>absurd z (by simp)
   obtain⟨_,o',g,hn⟩:=J.stack.mem z;rw[he]at g;cases g;exact hn vs hdd
  obtain⟨ob,h,_⟩:=E.there;constructor
  ·cases z:G.heap.get? a with
   |none=>rfl
   |some o=>have:=k a ob h nf (.inr ⟨o,z⟩);rw[E.2.1]at this;cases this
  ·cases z:H' a with
   |none=>rfl
   |some o=>have:=k a ob h nf (.inl ⟨o,z⟩);rw[E.2.1]at this;cases this
 refine wpAny_looks_onW hX hf E λh4 R s=>?_;refine wpAny_landsW R λh5 p m=>?_;have V:Inv X pins σ H' { s' with heap:=h5 }:=r.overB L d un j k kD p.1 (.of (s.trans m)) (λb z=>absurd z (by simp));obtain⟨ob,h,P⟩:=p.there;refine wpAny_handleBy_cons (codeAny_handlers_test (xAcx (X:=X.mrk a) (V.mrk a) hg hm ?_ hd)) (by intro q;cases q);obtain⟨tl,Na,nm,qn,bs,hdct,sn,sub,ab',col,dd,k0,k1,k2,k3,k5,mN,hC,_,_,T⟩:=Z.obj V.kIn;obtain⟨tl',Na',nm',qn',bs',hdct',sn',sub',ab'',col',dd',k0',k1',k2',k3',k5',mN',hC',_,_,T'⟩:=xc.obj V.kIn
 have U:(Value.ref C0::tl).contains (.ref C)=true:=by
  obtain⟨oc,od,cd,sl,l1,l2⟩:=ab;have:=V.kIn _ _ l1;rw[hC]at this;unfold excClassObj at this;cases this;exact l2
 refine xAeu hC hC' h P (T'.hasType PySem.F.excBase_ValueError.hasBase) U (codeAny_handlers_suite_as ?_);refine lands_againW p λH t O=>?_;have Y:Inv X pins σ H' { s' with heap:=H }:=r.overB L d un j k kD t.1 (.of ((s.trans m).trans O)) (λb z=>absurd z (by simp));obtain⟨Q,l,u⟩:=t.there
 have J:Inv X pins σ H' s':=r.call' L un j d λb z=>absurd z (by simp)
 have k2:Safe (frs X.stack) H' (In G.heap) s'.heap H:=λb o e n x=>t.1 b o (k b o e n x)
 have u6:Un (frs X.stack) [] H1 H' G.heap H:=un.over k2 kD r.stkFree λb hb o e=>by
  obtain⟨_,o',g,hd⟩:=J.stack.mem hb;rw[e]at g;cases g;exact((s.trans m).trans O) b o e hd
 have J7:Inv X pins σ (upd H' a (excO a C0)) { s' with heap:=H }:=r.call' (s':={ s' with heap:=H }) L (u6.track na.1 na.2)
  (Y.hok.track na.2 ⟨⟨Q,l,u⟩,⟨Q,l⟩,λh1 h2 ⟨o,e,c⟩ kk=>⟨o,kk o e,c⟩⟩) d λb z=>absurd z (by simp)
 refine xAfu (v:=.ref a) J7 hN hi (.inl hl) rfl (λs8 J8=>?_) (.inr hl);exact qE (hth a pins _ _ _ (D.less i) (J8.mrk a) (hW H' a q na.2)) (λf s2 h2=>xAyw hN hi hl Y.ok (h2.unmrk Y.ok)) λ_ _ z=>False.elim z
end
section
variable {X:Cx}{e:Expr}{te:TE}{p1 p2 pos:Pos}{c:Str}{j:Nat}
def xAro{a b:Str}:(a++b).length=a.length+b.length:=by
 show(a.cps++b.cps).size=a.cps.size+b.cps.size;exact gs
end
end L2
namespace L2
open PySem PySem.Spec PySem.W PyProof.Rows PySem.Calls Builtin Builtin.ObjectAttr Builtin.Getset_descriptor
section
variable {prog:Program}{w:World}{A:Around}{E:Value->Shared->Prop}{s:Shared}{K:Frag}{x C:Addr}{R:Result->Shared->Prop}
def xAnc(X:K.In s.heap)(f:Looks (model prog w) s.heap (typeOf (.ref x)) (.ref C))(a:mroIn K C (.type "object")=some true)(h:R (.ok (.ret (.ref C))) s):codeAny (model prog w) A (.call (.builtin "getset_descriptor.__get__") ⟨[.builtin "object.__class__",.ref x,tp],[]⟩) R s:=by
 obtain⟨e,g,b,t,c⟩:=s;have d:=looks_mroIn (M:=model prog w) X a;refine codeAny_call_builtin KF.slot_gs.plain KF.entry_gs (KF.slot_gs.check _ _ _ _ _ _ _ _ KF.type_class (KF.args_gs _ _ _) ?_);unfold Builtin.«getset_descriptor.__get__» descrGet;rw[dga_obj];refine qa (qb ?_);unfold descrGetter descrCheckInstance descrNameAndClass isInstance
 simp only[KF.owner_class]
 repeat lk
 refine⟨Code.quiet_builtin _ (by decide +kernel),codeAny_builtin KF.entry_class ?_⟩;unfold Builtin.«object.__class__» shownTypeOf
 repeat lk
 exact h
structure XI(K:Frag)(C:Addr):Prop where
 ga:findIn K (.ref C) "__getattribute__"=some (some (.builtin "BaseException.__getattribute__"))
 gt:findIn K (.ref C) "__getattr__"=some none
 cl:findIn K (.ref C) "__class__"=some (some (.builtin "object.__class__"))
 ob:mroIn K C (.type "object")=some true
 be:mroIn K C (.type "BaseException")=some true
def xAyx{tk:Tok}(F:XI K C)(X:K.In s.heap)(a:s.heap.get? x=some o)(c:o.cls=.ref C)(h:Q (.done (.ret (.ref C))) s) :
  wpAny (model prog w) A (Builtin.«object.__getattribute__» ⟨[.ref x,.str "__class__" tk],[]⟩) Q E s:=by
 obtain⟨b,g,d,t,e⟩:=s;have i:Looks (model prog w) b (typeOf (.ref x)) (.ref C):=c▸(Looks.ld a).andThen .now;have f:=looks_findIn (M:=model prog w) X F.cl;have j:(⟨b,g,d,t,e⟩:Shared).TypeIs (.builtin "object.__class__") "getset_descriptor":=PySem.F.typeOf_object_class;have l:=PySem.F.typeOf_object_class;have k:=PySem.F.slot_gs_get.lookup;have m:=PySem.F.slot_gs_set.lookup
 repeat (any_goals (first|assumption|(with_reducible refine wpAny_loadPart_at a ?_;rw[c])|with_reducible refine Looks.at f ?_|wp_step))
 refine xAnc X i F.ob ?_
 repeat (any_goals (first|assumption|wp_step))
def xAyy(F:XI K C)(X:K.In s.heap)(d:s.heap.get? x=some o)(f:o.cls=.ref C)(h:Q () s):wpAny (model prog w) A (checkBuiltinCall "BaseException.__getattribute__" ⟨[.ref x,a],[]⟩) Q E s:=by
 obtain⟨k,g,i,t,j⟩:=s
 have c:builtinKind "BaseException.__getattribute__"=some .slot:=by decide +kernel
 have b:splitId "BaseException.__getattribute__"=some ("BaseException","__getattribute__"):=by decide +kernel
 have l:=PySem.F.args_bexc_ga (.ref x) a;have e:=looks_mroIn (M:=model prog w) X F.be
 simp only[checkBuiltinCall,c,b]
 refine qa ?_
 ·unfold isInstance
  repeat (first|(with_reducible refine wpAny_loadPart_at d ?_;rw[f])|with_reducible refine Looks.at e ?_|wp_step)
  exact h
def exc_by{tk:Tok}(F:XI K C)(X:K.In s.heap)(a:s.heap.get? x=some o)(b:o.cls=.ref C)(h:Q (.ref C) s):wpAny (model prog w) A (getAttrBy (.ref x) (.str "__class__" tk) false) Q E s:=by
 obtain⟨l,g,i,t,j⟩:=s;have d:=looks_findIn (M:=model prog w) X F.ga;have f:=looks_findIn (M:=model prog w) X F.gt;have G:=PySem.F.excAttr_ValueError.ga
 have c:(Value.builtin "BaseException.__getattribute__"==Value.builtin "object.__getattribute__")=false:=by decide +kernel
 have e:(onTheHeap (Value.ref C)&&Value.builtin "BaseException.__getattribute__"==Value.builtin "object.__getattribute__")=false:=by rw[c];rfl
 have k:=G.bind (.ref x)
 repeat (any_goals (first|assumption|(with_reducible refine wpAny_loadPart_at a ?_;rw[b])|with_reducible refine Looks.at d ?_|with_reducible refine Looks.at f ?_|wp_step))
 refine codeAny_call_builtin G.plain PySem.F.entry_bexc_ga (xAyy F X a b (xAyx F X a b ?_))
 repeat (any_goals (first|assumption|wp_step))
def xAyz(F:XI K C)(X:K.In s.heap)(b:s.heap.get? x=some o)(e:o.cls=.ref C)(h:Q (some (.ref C)) { s with toks:=s.toks+1 }):wpAny (model prog w) A (getAttr? (.ref x) "__class__") Q E s:=by
 obtain⟨d,g,a,t,c⟩:=s;unfold getAttr? getAttrBy?;refine qa (wpAny_mkText (qa (wpAny_attempt (exc_by (s:=⟨d,g,a,t+1,c⟩) F X b e ?_))));exact qb h
def xAuf(F:XI K C)(b:∃cd,clsIn K C=some cd):KitX K (.ref x) (.ref C) (λh=>∃o,h.get? x=some o/\o.cls=.ref C) where
 ty:=λ_ _ _ ⟨o,c,i⟩=>i▸(Looks.ld c).andThen .now
 it:=λ_ _ X _=>by
  obtain⟨l,a⟩:=b;unfold clsIn at a
  split at a
  ·rename_i m d' g d j
   intro s t r s' k q;unfold isType loadHead;exact qa (wpAny_loadPart (k _ _ (X _ _ j)) (qb q))
  ·cases a
 ne:=λh tp dd p n u X f=>by
  obtain⟨l,a⟩:=b;refine jl.mpr λq=>?_;have e:C=tp:=Value.ref.inj (beq_iff_eq.mp q);subst e;unfold clsIn at a
  split at a
  ·rename_i m d' g d j
   have z:=(X _ _ j).symm.trans f;cases z
  ·cases a
 ca:=λX ⟨o,c,i⟩ k=>xAyz F X c i k
end
structure IsX(K:Frag)(C0:Addr)(M:V->Option Bool):Prop where
 xi:XI K C0
 cl:∃cd,clsIn K C0=some cd
 one:∀v u b,RelV v u->M v=some b->kitOne K (.ref C0) u=some b
inductive IrIsX(C0:Addr)(M:V->Option Bool)(xs:List V)(H:Hp)(Q:VK):Prop
 |mk (a:Addr) (v:V) (b:Bool) (h0:xs=[.ref a,v]) (h1:H a=some (excO a C0)) (h2:M v=some b) (h3:Q (.bl b) H):IrIsX C0 M xs H Q
def rIsX(C0:Addr)(M:V->Option Bool):List V->Hp->VK->Prop:=λxs H Q=>IrIsX C0 M xs H Q
def xAbn(F:IsX X.K C0 M):CallR X (.builtin "isinstance") (rIsX C0 M):=by
 intro pins s σ H xs us Q I d h;obtain⟨a,v,b,rfl,h1,h2,q⟩:=h;obtain⟨j,i,rfl,g,f⟩:=vals2 d;cases g;obtain⟨o,e,c⟩:=(I.hok a _ h1).1;exact kia_one (xAuf F.xi F.cl) I.kIn ⟨o,e,c⟩ (F.one v _ b f h2) (by intro z;cases z) λtk=>⟨.bl b,H,I.tok _,Y,q⟩
def abvIn(K:Frag)(C0 C:Addr):Bool:=match K.lookup C0 with
 |some ⟨_,_,.cls cd,_⟩=>cd.mro.contains (.ref C)
 |_=>false
def abv_of{K:Frag}{C0 C:Addr}(h:abvIn K C0 C=true):Abv K C0 C:=by
 unfold abvIn at h
 split at h
 ·exact⟨_,_,_,_,by assumption,h⟩
 ·cases h
def xAdw:bootBuiltins "ValueError"=some (.type "ValueError"):=by first|decide +kernel|kernel_rfl
end L2
namespace L2
open PySem PySem.Spec PyProof.Rows
def xAfq:∀{parts:List (Sem Value)} {a:Str} {s:Shared},Joins M A E parts a Q s->(∀out s',Q out s'->b out s')->Joins M A E parts a b s
 |[],_,_,h,k=>k _ _ h
 |_::_,_,_,h,k=>qE h (λ_ _ ⟨y,t,e,c,q⟩=>⟨y,t,e,c,xAfq q k⟩) λ_ _ e=>e
structure ShD(d:PyData):Prop where
 ok:d.showable=true
 nd:d.hasDict=false
 dp:d.depth≤8
 sz:d.shown.length≤1000
structure PJ(X:Cx)(parts:List Expr)(tj:L2.St->Hp->(Hp->Prop)->Prop)(n:Nat):Prop where
 run:∀(pins:List (Addr×Obj)) (s:Shared) (σ:L2.St) (H:Hp) (R:Hp->Prop) (acc:Str),Inv X pins σ H s->acc.length+n≤100000->tj σ H R →
  Joins (model X.prog X.w) X.A X.xe (evalEach parts X.env) acc (λout s'=>out.length≤sizeLine/\∃H',Inv X pins σ H' s'/\R H') s
section
variable {X:Cx}{parts:List Expr}{tj:L2.St->Hp->(Hp->Prop)->Prop}{n m k:Nat}{e:Expr}{te:TE}{p1 p2 pos:Pos}{c:Str}{j:Nat}
def xAnd(h:n≤100000):n≤sizeLine:=by rw[sizeLine_eq];omega
def xAug:PJ X [] (λ_ H R=>R H) 0:=⟨λpins s σ H R a I b h=>⟨xAnd (by omega),H,I,h⟩⟩
def xAev(h:PJ X parts tj n)(d:c.length+n≤m:=by decide):PJ X (.Constant (.str c) j p2::parts) tj m:=⟨λpins s σ H R a I b q=>by
 refine Calls.Constant_str ?_;have hz:(a++c).length=a.length+c.length:=xAro
 exact⟨_,_,Y,xAnd (by omega),h.run pins _ σ H R _ (I.tok _) (by omega) q⟩⟩
inductive ItRep(tj:L2.St->Hp->(Hp->Prop)->Prop)(σ:L2.St)(R:Hp->Prop)(x:V)(H:Hp):Prop
 |mk (d:PyData) (p:Addr) (h0:x=.ref p) (h1:DV H x d) (h2:ShD d) (h3:tj σ H R):ItRep tj σ R x H
def tRep(te:TE)(tj:L2.St->Hp->(Hp->Prop)->Prop):L2.St->Hp->(Hp->Prop)->Prop:=λσ H R=>te σ H λx H1=>ItRep tj σ R x H1
def xAne(j:Room k X.A)(l:PE X e te)(h:PJ X parts tj n)(G:1000+n≤m:=by decide):PJ X (.FormattedValue e 114 none p1::parts) (tRep te tj) m:=⟨λpins s σ H R c I F q=>by
 refine wpAny_FormattedValue_repr (qE (l pins s σ H _ I q) (λv E ⟨x,H1,g,i,d,p,r,C,hs,D⟩=>?_) λ_ _ e=>e);subst r;obtain⟨J,B⟩:=C.reads g i;cases i;have hsz:=hs.sz;refine pyReprObj_of_reads B hs.ok (λz=>by rw[hs.nd]at z;exact nomatch z) j.gd (by have:=j.un;have:=hs.dp;omega) (λb o e=>e) (λh' u tk kp=>?_) (xAnd (by omega));have hz:(c++d.shown).length=c.length+d.shown.length:=xAro
 have f:∀(a b:Nat),∃y t,Value.str d.shown a=Value.str y t/\(c++y).length≤sizeLine/\Joins (model X.prog X.w) X.A X.xe (evalEach parts X.env) (c++y) (λout s'=>out.length≤sizeLine/\∃H',Inv X pins σ H' s'/\R H') { E with heap:=h',toks:=b }:=λa b=>by
  refine⟨_,_,Y,xAnd (by omega),h.run pins _ σ H1 R _ (g.kept (t':=b) (h':=h') kp) (by omega) D⟩
 exact wpAny_formatField_str (f _ _) (f _ _) (xAnd (by omega))⟩
def tMsgJ(tj:L2.St->Hp->(Hp->Prop)->Prop):TE:=λσ H Q=>tj σ H λH'=>∀v,Q v H'
def xAnf(h:PJ X (b::a::rest) tj n)(hn:n≤100000:=by decide):PE X (.JoinedStr (b::a::rest) pos) (tMsgJ tj):=by
 refine⟨?_⟩;intro pins s σ H Q I q;refine wpAny_JoinedStr ?_;have e:=h.run pins s σ H (λH'=>∀v,Q v H') Str.empty I (by show 0+n≤_;omega) q;exact xAfq e λout s' ⟨d,H',c,q'⟩=>⟨d,.str out,H',c.tok _,⟨_,Y⟩,q' _⟩
end
def passF:Passes (CXd P w) X (λ_ _ _=>False):=λpins σ H s e s' I f=>by
 obtain⟨a,c,H',rfl,g,b,un,d,_,q⟩:=f;exact q.elim
structure FnIX(P:Program)(w:World)(K:PySem.W.Frag)(mg:Str->Option Value)(base:Heap)(k:Nat)(C:Addr)(ps:List Str)(sp:Sp):Prop where
 out:∃f fd,FnOk P w K mg base (CXd P w) k f fd ps sp/\Mk K C f/\Binds K fd ps []
section
variable {P:Program}{w:World}{K:PySem.W.Frag}{mg:Str->Option Value}{base:Heap}{q:Str}{st:Stmt}{N ps:List Str}{k:Nat}{sp:Sp}{C:Addr}{bb:Bool}
def xAza(F:MO K C "__init__" q bb st)(S:FnScope N ps (defScope st))(h1:PySem.W.makesIn K C=true)(h2:PySem.W.keepIn K (.ref C)=true)(h:∀(kV c e:Value) (i:Option Addr) (a g:Value) (us:List Value),us.length=ps.length->bindArgs (PySem.W.fnOf "__init__" q (defArgs st) (defBody st) (defScope st) .none kV c e i a g) ⟨us,[]⟩=pure (ps.zip us))(len:∀vs H Q E,sp vs H Q E->vs.length=ps.length)(b:∀(f:Addr) (a:Value) (A:Around) (outer:List Env) (s:Shared) (H:Hp) (vs:List V) (Q:VK) (E:XK),Room k (A.deeper (envOfC q (defScope st) s.heap.objs.size f a))->sp vs H Q E →
   ∃t,PSs (cxD P w K mg base N q (defScope st) f a A outer s H E) (defBody st) t/\t { nx:=λ_ H'=>Q .non H',rt:=Q } (start N vs) H):FnIX P w K mg base (k+1) C ps sp:=by
 obtain⟨f,fd,F,d,j⟩:=F.out;exact⟨f,fd,F.okX S len (b f),⟨h1,d.at_,d.fn,h2⟩,F.binds h⟩
end
section
variable {X:Cx}{k n i:Nat}{x y z:Str}{ps:List Str}{sp:Sp}{p pos np hpos apos zp tpos:Pos}{e:Expr}{es:List Expr}{t:TA}{E:XK}{C C0 C1:Addr}{pins:List (Addr×Obj)}{σ:L2.St}{H:Hp}{s:Shared}{Q:VK}{b₀:Stmt}{suite:List Stmt}{th:TS}
def mcX(F:FnIX X.prog X.w X.K X.mg X.base k C ps sp)(g:Passes (CXd X.prog X.w) X E)(l:Room n X.A)(i:X.mg x=some (.ref C))(j:PA X (e::es) t)(c:k+1≤n:=by decide)(h:Gl X x:=by exact rfl)(a:(x==("__debug__":Str))=false:=by exact rfl)(d:St1 X e:=by exact λ_=>rfl)(b:(backTo pos (starEach es X.env)).any (·.1)=false:=by exact rfl) :
  PE X (.Call (.Name x p) (e::es) [] pos) (tMake C sp [] E t):=by
 obtain⟨f,fd,F,M,m⟩:=F.out;exact xAvb M F (l.mono c) h i m .nil g j a (d _) b
def xAzb(F:FnIX X.prog X.w X.K X.mg X.base k C ps sp)(S:Room n X.A)(R:X.mg x=some (.ref C))(P:PA X.nox (e::es) t)(I:Inv X pins σ H s)(h:tMake C sp [] E t σ H Q)(D:k+1≤n)(G:Gl X x)(g:(x==("__debug__":Str))=false)(O:St1 X e)(i:(backTo pos (starEach es X.env)).any (·.1)=false) :
  wpAny (model X.prog X.w) X.A (eval (.Call (.Name x p) (e::es) [] pos) X.env) (EP X pins σ Q) (XeP X pins σ E) s:=by
 obtain⟨f,fd,F,M,y⟩:=F.out;refine wpAny_Call_Name_kw (xAcx I G R ?_ g);refine PySem.W.callWith_K (h₀:=X.base) I.ok.mod.kin M.kp (qE (P pos pins s σ H _ (I.wish _) h) (λus b ⟨vs,H1,c,r,q⟩=>⟨c.kIn,?_⟩) λ_ _ z=>False.elim z) (O _) i;have c:=c.unwish;have j:=q (b.heap.objs.size+1) b.heap.objs.size (c.hok.fresh (we _)) (c.hok.fresh (qd _)) (qg (zw _));have d:=Inv.made (C:=C) c;have l:Vals (V.ref (b.heap.objs.size+1)::(vs++[])) (Value.ref (b.heap.objs.size+1)::(us++[])):=.cons rfl (r.append .nil)
 have N:(Value.ref (b.heap.objs.size+1)::us++[]).length=ps.length:=by
  have e:=l.length;rw[F.len _ _ _ _ j]at e;exact e.symm
 refine wpAny_call (xAjn (f:=f) c.kIn M.makes M.init (beq_iff_eq.mp M.fn) (codeAny_mono (F.run _ X.stack _ _ ⟨Value.ref (b.heap.objs.size+1)::us,[]⟩ (Value.ref (b.heap.objs.size+1)::(us++[])) _ _ E ((S.mono D).make C us [])
  (d.env0.make C us []) (show BindsTo _ fd _ (ps.zip (Value.ref (b.heap.objs.size+1)::(us++[]))) from y _ (Value.ref (b.heap.objs.size+1)::us) d.kIn N) l j) λr s' a=>?_))
 cases r with
 |error e=>exact⟨_,_,d,a⟩
 |ok B =>
  cases B with
  |ret u =>
   obtain⟨v,H',J,m,L,o⟩:=d.after a;subst L;exact⟨m,⟨V.ref (b.heap.objs.size+1),H',J,Y,o⟩⟩
  |next=>exact False.elim a
  |brk=>exact False.elim a
  |cont=>exact False.elim a
def tTryM(C C0:Addr)(sp:Sp)(i:Nat)(t:TA)(th:TS):TS:=λD σ H=>tMake C sp [] (λb _ H'=>b=.ref C0/\∀a,H' a=none->th (D.less i) (σ.set i (some (.ref a))) (upd H' a (excO a C0))) t σ H λ_ H1=>D.nx σ H1
def xAzc(F:FnIX X.prog X.w X.K X.mg X.base k C ps sp)(R:Room n X.A)(l:X.mg x=some (.ref C))(g:XC X.K C0)(O:XC X.K C1)(ab:Abv X.K C0 C1)(P:X.mg y=some (.ref C1))(J:X.N.Nodup)(i:Nat)(G:PA X.nox (e::es) t)(j:∀a,PSs (X.mrk a) (b₀::suite) th)(o:k+1≤n:=by decide)(hi:X.N[i]?=some z:=by exact rfl)(hz:X.env.scope.names.lookup z=some .local:=by exact rfl)(hs:X.stack=X.env::X.outer:=by exact rfl)(hf:X.env.frame=some X.env.locals:=by exact rfl)(q:Gl X x:=by exact rfl)(c:Gl X y:=by exact rfl)(Q:(x==("__debug__":Str))=false:=by exact rfl)(b:(y==("__debug__":Str))=false:=by exact rfl)(E:St1 X e:=by exact λ_=>rfl)(d:(backTo pos (starEach es X.env)).any (·.1)=false:=by exact rfl)(f:swapsWith (.Call (.Name x p) (e::es) [] pos) none apos.line X.env=pure false:=by exact rfl) :
  PS X (.Try [.Expr (.Call (.Name x p) (e::es) [] pos) apos] [.ExceptHandler (some (.Name y np)) (some z) (b₀::suite) hpos] [] [] tpos) (tTryM C C0 sp i t th):=by
 refine⟨?_⟩;intro pins s σ H D I h;refine wpAny_Try_except (wpAny_execs_cons (wpAny_Expr_any (qE (xAzb F R l G I h o q Q E d) (λv L ⟨u,H1,M,T,m⟩=>?_) λS L B=>?_) I.quiet f))
 ·exact wpAny_execs_nil (wpAny_execs_nil ⟨_,H1,M,m⟩)
 ·exact xAue J hi hz hs hf g O ab P c b j B λH' a r hn=>r a hn
end
section
variable {P:Program}{w:World}{K:PySem.W.Frag}{mg:Str->Option Value}{base:Heap}{N:List Str}{qual:Str}{scope:Scope}{f:Addr}{cd:Value}{A:Around}{outer:List Env}{s₀:Shared}{H₀:Hp}{E:XK}{pos:Pos}
def foX{g:TG}(hi:PI (cxD P w K mg base N qual scope f cd A outer s₀ H₀ E) tg a c)(d:PG (cxD P w K mg base N qual scope f cd A outer s₀ H₀ E) tg g)(e:PSs (cxD P w K mg base N qual scope f cd A outer s₀ H₀ E) b tb)(hs:∀x,foldedSetIterable a (cxD P w K mg base N qual scope f cd A outer s₀ H₀ E).env x=pure x:=by exact λ_=>rfl):PS (cxD P w K mg base N qual scope f cd A outer s₀ H₀ E) (.For tg a b [] pos) (tFor c g tb):=xAur PassesOwn.leaving rfl hi d e hs
end
end L2
namespace My
open PySem L2 PyProof.Rows
def top(i:Nat):Stmt:=PySem.Challenge.pw_pagefolk_k05_no_whole_set.main.body.getD i (.Pass ⟨0,0,0,0⟩)
def clsAt(s:Stmt)(j:Nat):Stmt:=match s with|.ClassDef _ _ _ b _ _ _ _ _ _ _=>b.getD j (.Pass ⟨0,0,0,0⟩)|_=>.Pass ⟨0,0,0,0⟩
abbrev s_fBf:Stmt:=top 2
abbrev s_fBd:Stmt:=top 14
abbrev s_fAs:Stmt:=top 15
abbrev s_fAd:Stmt:=top 16
abbrev s_fAq:Stmt:=top 17
abbrev s_fAf:Stmt:=top 18
abbrev s_fAo:Stmt:=top 19
abbrev s_fBe:Stmt:=top 20
abbrev s_fAt:Stmt:=top 23
abbrev s_fAz:Stmt:=top 24
abbrev s_fAy:Stmt:=top 25
abbrev s_fBa:Stmt:=top 26
abbrev s_fBb:Stmt:=top 27
abbrev s_fAg:Stmt:=top 28
abbrev s_fAv:Stmt:=top 29
abbrev s_fAw:Stmt:=top 30
abbrev s_fAn:Stmt:=top 31
abbrev s_fAe:Stmt:=top 32
abbrev s_fAb:Stmt:=top 33
abbrev s_fAa:Stmt:=top 34
abbrev s_fAx:Stmt:=top 35
abbrev s_fAm:Stmt:=top 36
abbrev s_fAu:Stmt:=top 37
abbrev s_fAc:Stmt:=top 38
abbrev s_fAj:Stmt:=top 39
abbrev s_fAi:Stmt:=top 40
abbrev s_fAk:Stmt:=top 41
abbrev s_fBg:Stmt:=top 42
abbrev s_fAh:Stmt:=clsAt (top 21) 0
abbrev s_fAp:Stmt:=clsAt (top 21) 2
abbrev s_fAr:Stmt:=clsAt (top 21) 3
abbrev s_fAl:Stmt:=clsAt (top 21) 4
abbrev s_fBc:Stmt:=clsAt (top 21) 7
abbrev N_fBf:List Str:=["deed"]
abbrev N_fBd:List Str:=["deeds","told","deed","name"]
abbrev N_fAs:List Str:=["roll","deed"]
abbrev N_fAd:List Str:=["deed","other"]
abbrev N_fAq:List Str:=["roll","told","deed","name","other"]
abbrev N_fAf:List Str:=["deed"]
abbrev N_fAo:List Str:=["roll","told","heights","deed","below"]
abbrev N_fBe:List Str:=["roll"]
abbrev N_fAt:List Str:=["_law_cell","_law_many","_law_found","_law_digits","_law_k","_law_number","_law_mixed"]
abbrev N_fAz:List Str:=["_law_number","_law_word_here","_law_many","_law_k"]
abbrev N_fAy:List Str:=["_law_cell","_law_draws_here","_law_roll_here","_law_k","_law_word_here","_law_letter"]
abbrev N_fBa:List Str:=["_law_number","_law_roll_here","_law_more"]
abbrev N_fBb:List Str:=["_law_number","_law_roll_here"]
abbrev N_fAg:List Str:=["_law_number","_law_roll_here"]
abbrev N_fAv:List Str:=["_law_number","_law_roll_here"]
abbrev N_fAw:List Str:=["_law_number","_law_roll_here","_law_kind"]
abbrev N_fAn:List Str:=["_law_draws_here","_law_roll_here"]
abbrev N_fAe:List Str:=["_law_draws_here","_law_roll_here","_law_found","_law_number","_law_name_here"]
abbrev N_fAb:List Str:=["_law_kind","_law_more","_law_roll_here","_law_part_here","_law_name_here","_law_behind"]
abbrev N_fAa:List Str:=["_law_kind","_law_more","_law_roll_here","_law_part_here","_law_name_here","_law_sides","_law_value","_law_word_here"]
abbrev N_fAx:List Str:=["_law_draws_here","_law_roll_here","_law_number","_law_kind","_law_more","_law_to"]
abbrev N_fAm:List Str:=["_law_number","_law_roll_here"]
abbrev N_fAu:List Str:=["_law_script","_law_most","_law_cells","_law_roll_here","_law_many","_law_known","_law_table","_law_deeds","_law_k","_law_cell","_law_draws_here","_law_who","_law_turn","_law_other","_law_to","_law_theirs","_law_number","_law_heard","_law_what_here"]
abbrev N_fAc:List Str:=["_law_deed","_law_roll_here","_law_number","_law_deeds","_law_hand","_law_count","_law_heard","_law_branch_here","_law_what_here","_law_at","_law_more"]
abbrev N_fAj:List Str:=["_law_deeds","_law_roll_here","_law_number","_law_kind","_law_at","_law_more","_law_hand","_law_count","_law_heard","_law_branch_here","_law_what_here","_law_other","_law_some"]
abbrev N_fAi:List Str:=["_law_deeds","_law_roll_here","_law_table","_law_deed","_law_hand","_law_many","_law_number","_law_past"]
abbrev N_fAk:List Str:=["_law_roll_here","_law_deeds","e","_law_some"]
abbrev N_fBg:List Str:=["_law_script","_law_roll_here","_law_deeds","_law_k","_law_cell","_law_number","_law_some"]
abbrev N_fAh:List Str:=["self","roll","deeds","deed"]
abbrev N_fAp:List Str:=["self"]
abbrev N_fAr:List Str:=["self"]
abbrev N_fAl:List Str:=["self","made_by"]
abbrev N_fBc:List Str:=["self","name"]
abbrev c_Folk:Addr:=266
abbrev c_FolkError:Addr:=38
abbrev c_NoDeed:Addr:=51
abbrev c_NoLeave:Addr:=111
abbrev c_NoPast:Addr:=75
abbrev c_NoRow:Addr:=123
abbrev c_NoSet:Addr:=63
abbrev c_NoThing:Addr:=99
abbrev c_Poured:Addr:=87
abbrev c_Unlike:Addr:=142
abbrev MS:List (Addr×List V):=[]
structure Txt(K:PySem.W.Frag)(mg:Str->Option Value)(tk:Str->Tok):Prop where
 b_ValueError:mg "ValueError"=none
 b_all:mg "all"=none
 b_dict:mg "dict"=none
 b_enumerate:mg "enumerate"=none
 b_int:mg "int"=none
 b_isinstance:mg "isinstance"=none
 b_len:mg "len"=none
 b_list:mg "list"=none
 b_max:mg "max"=none
 b_range:mg "range"=none
 b_set:mg "set"=none
 b_sorted:mg "sorted"=none
 b_sum:mg "sum"=none
 b_tuple:mg "tuple"=none
 b_zip:mg "zip"=none
 g_Folk:mg "Folk"=some (.ref c_Folk)
 C_Folk:Cls K c_Folk
 j_Folk:PySem.W.makesIn K c_Folk=true/\PySem.W.keepIn K (.ref c_Folk)=true
 g_FolkError:mg "FolkError"=some (.ref c_FolkError)
 X_FolkError:XC K c_FolkError
 g_NoDeed:mg "NoDeed"=some (.ref c_NoDeed)
 g_NoLeave:mg "NoLeave"=some (.ref c_NoLeave)
 g_NoPast:mg "NoPast"=some (.ref c_NoPast)
 g_NoRow:mg "NoRow"=some (.ref c_NoRow)
 g_NoSet:mg "NoSet"=some (.ref c_NoSet)
 X_NoSet:XC K c_NoSet
 g_NoThing:mg "NoThing"=some (.ref c_NoThing)
 g_Poured:mg "Poured"=some (.ref c_Poured)
 g_Unlike:mg "Unlike"=some (.ref c_Unlike)
 A_NoSet_FolkError:Abv K c_NoSet c_FolkError
 N_Folk_hands:NoAttr K c_Folk "hands"
 N_Folk_heights:NoAttr K c_Folk "heights"
 N_Folk_kept_book:NoAttr K c_Folk "kept_book"
 N_Folk_seats:NoAttr K c_Folk "seats"
 N_Folk_sorted_names:NoAttr K c_Folk "sorted_names"
 N_Folk_told:NoAttr K c_Folk "told"
open Hs
structure D5(ws:List Str)(fs:List Dd):Prop where
 nd:ws.Nodup
 len:∀d∈fs,d.hd.length=ws.length
 own:∀d∈fs,at0 d.hd d.who+1=d.num
 gd:∀d∈fs,Gd ws d
 one:∀a∈fs,∀b∈fs,a.who=b.who->a.num=b.num->PyData.eqv (ddD ws a) (ddD ws b)=true->a=b
 few:fs.length≤63
 sm:∀d∈fs,∀n∈d.hd,n≤100
def Un5(fs:List Dd):Prop:=∀a∈fs,∀b∈fs,a.who=b.who->a.num=b.num->a=b
def Good5(m:Nat)(fs:List Dd):Prop:=Un5 fs/\∀d∈fs,Cov m fs d.hd
def xAjg:∀{l:List Dd} {a b:Dd},l.Pairwise R->a∈l->b∈l->a≠b->R a b\/R b a
 |x::l,a,b,h,ha,hb,n=>by
  cases h with
  |cons h1 h2 =>
   rcases za.mp ha with rfl|ha'
   ·rcases za.mp hb with rfl|hb'
    ·exact absurd rfl n
    ·exact .inl (h1 _ hb')
   ·rcases za.mp hb with rfl|hb'
    ·exact .inr (h1 _ ha')
    ·exact xAjg h2 ha' hb' n
def xAng(h:∀n∈l,n≤c):at0 l j≤c:=by
 show l.getD j 0≤c;rw[qq]
 cases e:l[j]? with
 |none=>exact qk _
 |some n=>exact h n (qo e)
def xArp{fs:List Dd}(D:D5 ws fs)(h:d∈fs):d.num≤101:=by
 have:=D.own d h;have:=xAng (j:=d.who) (D.sm d h);omega
def xAzd:∀n:Fin 102,(decide (((n.val:Nat):Int).natAbs.log2<1920)&&decide ((PyData.shown (.int (n.val:Nat))).length≤13)&&decide (PyData.weight (.int (n.val:Nat))≤8))=true:=by decide +kernel
def xArq{w:Str}(hw:IsW w){n:Nat}(hn:n≤101):ShD (.tuple [.str w,.int (n:Int)]):=by
 have h:=xAzd ⟨n,by omega⟩;rw[zd,zd]at h;obtain⟨⟨h1,h2⟩,c⟩:=h;have h2:(PyData.shown (.int (n:Int))).length≤13:=qG h2;have c:PyData.weight (.int (n:Int))≤8:=qG c;have d:w.cps.size≤8:=xAvq hw;obtain⟨a,b⟩:GC 1 (.tuple [.str w,.int (n:Int)]):=GC.tup (k:=0) (xAae (xAba (xAbb hw)) (xAae (xAcr _) xAbd));refine⟨by simp only[PyData.showable,PyData.showableAll,Bool.and_true,Bool.true_and];exact h1,by simp only[PyData.hasDict,PyData.hasDictAll,Bool.or_false],Nat.le_trans b (by decide),?_⟩
 have hi:PyData.intsShort 13 (.tuple [.str w,.int (n:Int)])=true:=by simp only[PyData.intsShort,PyData.intsShortAll,Bool.and_true,Bool.true_and];exact qF h2
 have:=PyData.shown_le 13 (by decide) _ (PyData.leavesShort_of_canLay0 13 _ a hi)
 have e:PyData.weight (.tuple [.str w,.int (n:Int)])=w.cps.size+1+(PyData.weight (.int (n:Int))+1+0):=by simp only[PyData.weight,PyData.weightAll]
 rw[e]at this;omega
def xAze(hw:∀w∈ws,IsW w)(a:d.who<ws.length)(hn:d.num≤101):ShD (nmD ws d):=xArq (hw _ (w_mem a)) hn
def xAnh:∀a:List Int,DVs H (a.map V.int) (a.map PyData.int)
 |[]=>.nil
 |_::a=>.cons (.int _) (xAnh a)
def Lst5(m:Nat)(es:List Dd)(d:Dd):Prop:=∀p∈pastOf d.hd m,∃e∈es,e.who=p.1/\e.num=p.2/\∀i,i<m->at0 e.hd i≤at0 d.hd i
def xAzf(own:∀d∈es,at0 d.hd d.who+1=d.num)(h:∀d∈es,Lst5 m es d):∀(n:Nat) (d:Dd),d∈es->∀j k,j<m->1≤k->k≤at0 d.hd j->at0 d.hd j - k≤n->∃e∈es,e.who=j/\e.num=k/\∀i,i<m->at0 e.hd i≤at0 d.hd i:=by
 intro n
 induction n with
 |zero =>
  intro d l j k c h1 h2 s;exact h d l (j,k) (mem_pastOf.mpr ⟨c,by show 0<at0 d.hd j;omega,by show k=at0 d.hd j;omega⟩)
 |succ n p =>
  intro d l j k c h1 h2 s;obtain⟨e,g,b,a,o⟩:=h d l (j,at0 d.hd j) (mem_pastOf.mpr ⟨c,by show 0<at0 d.hd j;omega,Y⟩);have b:e.who=j:=b;have a:e.num=at0 d.hd j:=a
  by_cases q:k=at0 d.hd j
  ·exact⟨e,g,b,a.trans q.symm,o⟩
  ·have t:=own e g
   rw[b,a]at t;obtain⟨f,hf,f1,f2,r⟩:=p e g j k c h1 (by omega) (by omega);exact⟨f,hf,f1,f2,λi hi=>qh (r i hi) (o i hi)⟩
def xAzg(c:Cov m es d.hd):Lst5 m es d:=λp f=>by
 obtain⟨a,b,e⟩:=mem_pastOf.mp f;exact c p.1 p.2 a (by omega) (by omega)
inductive Isp_fby5(vs:List V)(H:Hp)(Q:VK)(E:XK):Prop
 |mk (dp:_) (des:_) (ws:_) (fs:_) (h0_:vs=[.ref dp]) (h1_:H dp=some (.lst des)) (h2_:A2 (DeedAt H ws) des fs) (hw_:∀w∈ws,IsW w) (h3_:D5 ws fs) (h6_:Un5 fs->∀H' t kvs es,Same H H'->H t=none->H' t=some (.dG kvs)->TD H' ws kvs es->(es.Pairwise λa b=>¬(a.who=b.who/\a.num=b.num))->(∀d,d∈es↔d∈fs)->es.length≤fs.length->Q (.ref t) H') (h7_:¬Un5 fs->∀H',Same H H'->E (.ref c_NoSet) none H'):Isp_fby5 vs H Q E
def sp5_by_names:Sp:=λvs H Q E=>Isp_fby5 vs H Q E
inductive Isp_fch5(vs:List V)(H:Hp)(Q:VK)(E:XK):Prop
 |mk (rp:_) (tp:_) (v:_) (ws:_) (d:_) (es:_) (kvs:_) (h0_:vs=[.ref rp,.ref tp,v]) (h1_:RL H rp ws) (h2_:Rd H tp (.dG kvs)) (h3_:TD H ws kvs es) (h4_:ws.Nodup) (h5_:es.Pairwise λa b=>¬(a.who=b.who/\a.num=b.num)) (hl_:∀e∈es,e.hd.length=ws.length) (hs_:∀e∈es,∀n∈e.hd,n≤100) (hn_:∀e∈es,e.num≤101) (h6_:DeedAt H ws v d) (h7_:d∈es) (h8_:Lst5 ws.length es d->∀H',Same H H'->Q .non H') (h9_:¬Lst5 ws.length es d->∀H',Same H H'->E (.ref c_NoSet) none H'):Isp_fch5 vs H Q E
def sp5_check_past:Sp:=λvs H Q E=>Isp_fch5 vs H Q E
inductive Isp_fin5(vs:List V)(H:Hp)(Q:VK)(E:XK):Prop
 |mk (x:_) (dx:_) (rp:_) (dp:_) (ws:_) (des:_) (fs:_) (h0_:vs=[.ref x,.ref rp,.ref dp]) (h1_:H x=some (.ins c_Folk dx [])) (h2_:RL (del H x) rp ws) (h3_:(del H x) dp=some (.lst des)) (h4_:A2 (DeedAt (del H x) ws) des fs) (h5_:D5 ws fs) (h8_:Good5 ws.length fs->∀H' hn ss,Same (del H x) H'->(∀d,d∈ss↔d∈fs)->(∀S:Addr->Prop,(∀b,S b->∃o,(del H x) b=some o/\∀ys,o≠.tup ys)->FK c_Folk (delS H' S) x ws hn ss)->Q .non H') (h9_:¬Good5 ws.length fs->∀H',Same (del H x) H'->E (.ref c_NoSet) none H'):Isp_fin5 vs H Q E
def sp5_Folk___init__:Sp:=λvs H Q E=>Isp_fin5 vs H Q E
inductive Isp_frf5(vs:List V)(H:Hp)(Q:VK):Prop
 |mk (rp:_) (dp:_) (ws:_) (des:_) (fs:_) (h0_:vs=[.ref rp,.ref dp]) (h2_:RL H rp ws) (h3_:H dp=some (.lst des)) (h4_:A2 (DeedAt H ws) des fs) (h5_:D5 ws fs) (h8_:¬Good5 ws.length fs) (h9_:∀H',Same H H'->Q (.bl true) H'):Isp_frf5 vs H Q
def sp_fAk:Sp:=λvs H Q _=>Isp_frf5 vs H Q
inductive Isp_fiw5(vs:List V)(H:Hp)(Q:VK):Prop
 |mk (rp:_) (dp:_) (ws:_) (des:_) (fs:_) (h0_:vs=[.ref dp,.ref rp]) (h2_:RL H rp ws) (h3_:H dp=some (.lst des)) (h4_:A2 (DeedAt H ws) des fs) (h5_:D5 ws fs) (h9_:∀H' b,Same H H'->(b=true↔Good5 ws.length fs)->Q (.bl b) H'):Isp_fiw5 vs H Q
def sp_fAi:Sp:=λvs H Q _=>Isp_fiw5 vs H Q
inductive Isp_fch6(vs:List V)(H:Hp)(Q:VK):Prop
 |mk (v:_) (rp:_) (n:Int) (dp:_) (ws:_) (d:_) (des:_) (fs:List Dd) (h0_:vs=[v,.ref rp,.int n,.ref dp]) (h1_:DeedAt H ws v d) (h2_:RL H rp ws) (nd_:ws.Nodup) (h3_:H dp=some (.lst des)) (h4_:A2 (DeedAt H ws) des fs) (h5_:0<fs.length) (h6_:fs.length≤63) (hl_:d.hd.length=ws.length) (h7_:∀e∈fs,e.hd.length=ws.length) (h8_:1≤d.num) (h9_:∀H' u hd',Same H H'->DeedAt H' ws u { d with hd:=hd' }->hd'.length=ws.length->at0 hd' d.who+1=d.num->(∀k,(∀e∈fs,∀n∈e.hd,n≤k)->(∀n∈d.hd,n≤k)->d.num≤k+3->∀n∈hd',n≤k+3)->Q u H'):Isp_fch6 vs H Q
def sp_fAc:Sp:=λvs H Q _=>Isp_fch6 vs H Q
inductive Isp_fsp5(vs:List V)(H:Hp)(Q:VK):Prop
 |mk (dp:_) (rp:_) (n:Int) (ws:_) (des:_) (fs:List Dd) (h0_:vs=[.ref dp,.ref rp,.int n]) (h2_:RL H rp ws) (nd_:ws.Nodup) (h3_:H dp=some (.lst des)) (h4_:A2 (DeedAt H ws) des fs) (h5_:0<fs.length) (h6_:fs.length≤62) (h7_:Wh ws.length fs) (h8_:∀d∈fs,BrD ws d.br/\WhatD ws d.num d.wt) (h9_:∀H' p des' fs',Same H H'->H p=none->H' p=some (.lst des')->A2 (DeedAt H' ws) des' fs'->D5 ws fs'->Q (.ref p) H'):Isp_fsp5 vs H Q
def sp_fAj:Sp:=λvs H Q _=>Isp_fsp5 vs H Q
inductive Isp_flaw5(vs:List V)(H:Hp)(Q:VK):Prop
 |mk (sp:_) (ns:_) (h0_:vs=[.ref sp]) (h1_:SqL H sp (List.map V.int ns)) (h2_:ns.length≤63) (h3_:∀H',Same H H'->Q (.bl true) H'):Isp_flaw5 vs H Q
def sp_fBg:Sp:=λvs H Q _=>Isp_flaw5 vs H Q
section
variable {vs:List V}{H:Hp}{Q:VK}{E:XK}
def xAfr(h:sp5_by_names vs H Q E):vs.length=1:=by obtain⟨_,_,_,_,rfl,_⟩:=h;rfl
def xAdx(h:sp5_check_past vs H Q E):vs.length=3:=by obtain⟨_,_,_,_,_,_,_,rfl,_⟩:=h;rfl
def xAco(h:sp5_Folk___init__ vs H Q E):vs.length=3:=by obtain⟨_,_,_,_,_,_,_,rfl,_⟩:=h;rfl
def xAzh(h:sp_fAk vs H Q E):vs.length=2:=by obtain⟨_,_,_,_,_,rfl,_⟩:=h;rfl
def xAzi(h:sp_fAi vs H Q E):vs.length=2:=by obtain⟨_,_,_,_,_,rfl,_⟩:=h;rfl
def xAzj(h:sp_fAc vs H Q E):vs.length=4:=by obtain⟨_,_,_,_,_,_,_,_,rfl,_⟩:=h;rfl
def xAzk(h:sp_fAj vs H Q E):vs.length=3:=by obtain⟨_,_,_,_,_,_,rfl,_⟩:=h;rfl
def xAzl(h:sp_fBg vs H Q E):vs.length=1:=by obtain⟨_,_,rfl,_⟩:=h;rfl
end
def M__law_refused:V->Option Bool
 |.ref a=>if a=c_NoSet then some true else if a=c_NoDeed\/a=c_NoLeave\/a=c_NoPast\/a=c_NoRow\/a=c_NoThing\/a=c_Poured\/a=c_Unlike then some false else none
 |.ty t=>if t = "ValueError" then some true else none
 |_=>none
def isx_of{K:PySem.W.Frag}(xi:XI K c_NoSet)(cl:∃cd,PySem.W.clsIn K c_NoSet=some cd)(k_NoSet:PySem.W.kitOne K (.ref c_NoSet) (.ref c_NoSet)=some true)(k_NoDeed:PySem.W.kitOne K (.ref c_NoSet) (.ref c_NoDeed)=some false)(k_NoLeave:PySem.W.kitOne K (.ref c_NoSet) (.ref c_NoLeave)=some false)(k_NoPast:PySem.W.kitOne K (.ref c_NoSet) (.ref c_NoPast)=some false)(k_NoRow:PySem.W.kitOne K (.ref c_NoSet) (.ref c_NoRow)=some false)(k_NoThing:PySem.W.kitOne K (.ref c_NoSet) (.ref c_NoThing)=some false)(k_Poured:PySem.W.kitOne K (.ref c_NoSet) (.ref c_Poured)=some false)(k_Unlike:PySem.W.kitOne K (.ref c_NoSet) (.ref c_Unlike)=some false)(k_ValueError:PySem.W.kitOne K (.ref c_NoSet) (.type "ValueError")=some true):IsX K c_NoSet M__law_refused:=by
 refine⟨xi,cl,λv u b r h=>?_⟩
 cases v with
 |ref a =>
  cases r;have h:(if a=c_NoSet then some true else if a=c_NoDeed\/a=c_NoLeave\/a=c_NoPast\/a=c_NoRow\/a=c_NoThing\/a=c_Poured\/a=c_Unlike then some false else none)=some b:=h
  split at h
  ·rename_i e;cases h;rw[e];exact k_NoSet
  ·split at h
   ·rename_i e
    cases h;rcases e with rfl|rfl|rfl|rfl|rfl|rfl|rfl <;> assumption
   ·cases h
 |ty t =>
  cases r;have h:(if t = "ValueError" then some true else none)=some b:=h
  split at h
  ·rename_i e;cases h;rw[e];exact k_ValueError
  ·cases h
 |_=>exact nomatch h
def xAni(h:PyData.eqv (.str z) y=true):y=.str z:=by
 cases y <;> simp[PyData.eqv]at h;rw[h]
def xAnj(h:PyData.eqv y (.str z)=true):y=.str z:=by
 cases y <;> simp[PyData.eqv]at h;rw[h]
def xAnk:∀{xs ys:List Nat},PyData.eqvAll (xs.map λ(n:Nat)=>PyData.int (n:Int)) (ys.map λ(n:Nat)=>PyData.int (n:Int))=true->xs=ys
 |[],[],_=>rfl
 |[],_::_,h=>by simp[PyData.eqvAll]at h
 |_::_,[],h=>by simp[PyData.eqvAll]at h
 |x::xs,y::ys,h=>by
  simp only[List.map_cons,PyData.eqvAll,PyData.eqv,Bool.and_eq_true,beq_iff_eq]at h
  rw[Int.ofNat_inj.mp h.1,xAnk h.2]
def xAjh(h:PyData.eqv (ddD ws a) (ddD ws b)=true):a.hd=b.hd/\PyData.eqv a.br b.br=true/\PyData.eqvAll a.wt b.wt=true:=by
 unfold ddD at h
 simp only[PyData.eqv,PyData.eqvAll,Bool.and_eq_true,Bool.and_true]at h
 exact⟨xAnk h.2.2.1,h.2.2.2.1,h.2.2.2.2⟩
def xArr(h:PyData.eqvAll [.str u,.str v] a=true\/PyData.eqvAll a [.str u,.str v]=true):a=[.str u,.str v]:=by
 match a with
 |[]=>simp[PyData.eqvAll]at h
 |[_]=>simp[PyData.eqvAll]at h
 |[x,y] =>
  simp only[PyData.eqvAll,Bool.and_eq_true,Bool.and_true]at h
  rcases h with h|h
  ·rw[xAni h.1,xAni h.2]
  ·rw[xAnj h.1,xAnj h.2]
 |_::_::_::_=>simp[PyData.eqvAll]at h
structure Alt(ws:List Str)(d d':Dd):Prop where
 who:d'.who=d.who
 num:d'.num=d.num
 one:PyData.eqv (ddD ws d') (ddD ws d)=true\/PyData.eqv (ddD ws d) (ddD ws d')=true->d'=d
 len:d'.hd.length=ws.length
 own:at0 d'.hd d'.who+1=d'.num
 gd:Gd ws d'
 sm:∀n∈d'.hd,n≤100
def alt_wt(len:d.hd.length=ws.length)(own:at0 d.hd d.who+1=d.num)(sm:∀n∈d.hd,n≤100)(a:Gd ws { d with wt:=[.str u,.str v] }):Alt ws d { d with wt:=[.str u,.str v] } :=
 ⟨Y,Y,λh=>by
  have:d.wt=[.str u,.str v]:=xArr (h.elim (λh=>.inl (xAjh h).2.2) λh=>.inr (xAjh h).2.2)
  rw[←this],len,own,a,sm⟩
def alt_br(len:d.hd.length=ws.length)(own:at0 d.hd d.who+1=d.num)(sm:∀n∈d.hd,n≤100)(b:Gd ws { d with br:=a })(e:PyData.eqv a d.br=true\/PyData.eqv d.br a=true->a=d.br):Alt ws d { d with br:=a } :=
 ⟨Y,Y,λh=>by
  have:a=d.br:=e (h.elim (λh=>.inl (xAjh h).2.1) λh=>.inr (xAjh h).2.1)
  rw[this],len,own,b,sm⟩
def xAzm(h:PyData.eqv .none y=true\/PyData.eqv y .none=true):PyData.none=y:=by
 cases y <;> simp[PyData.eqv]at h;rfl
def xAuh(h:PyData.eqv (.tuple [.str u,.str v]) y=true\/PyData.eqv y (.tuple [.str u,.str v])=true):PyData.tuple [.str u,.str v]=y:=by
 cases y with
 |tuple l =>
  have h:PyData.eqvAll [.str u,.str v] l=true\/PyData.eqvAll l [.str u,.str v]=true:=by simpa only[PyData.eqv] using h
  rw[xArr h]
 |_=>simp[PyData.eqv]at h
def A2.app{α β:Type}{R:α->β->Prop}{xs b:List α}{ys c:List β}(h:A2 R xs ys)(g:A2 R b c):A2 R (xs++b) (ys++c):=by
 refine⟨by rw[qm,qm,h.1,g.1],λi x y d a=>?_⟩;rw[List.getElem?_append]at d a;rw[h.1]at d
 split at d
 ·rename_i q;rw[qt q]at a;exact h.2 i x y d a
 ·rename_i q;rw[qs q]at a;exact g.2 _ x y d a
def A2.take{α β:Type}{R:α->β->Prop}{xs:List α}{ys:List β}(h:A2 R xs ys)(n:Nat):A2 R (xs.take n) (ys.take n):=by
 refine⟨by rw[zj,zj,h.1],λi x y a b=>?_⟩;rw[kr]at a b
 split at a
 ·rename_i q;rw[qt q]at b;exact h.2 i x y a b
 ·cases a
def A2.drop{α β:Type}{R:α->β->Prop}{xs:List α}{ys:List β}(h:A2 R xs ys)(n:Nat):A2 R (xs.drop n) (ys.drop n):=by
 refine⟨by rw[zo,zo,h.1],λi x y b a=>?_⟩;rw[ku]at b a;exact h.2 _ x y b a
def A2.one{α β:Type}{R:α->β->Prop}{x:α}{y:β}(r:R x y):A2 R [x] [y]:=A2.nil.snoc r
def alt_hd(len:a.length=ws.length)(own:at0 a d.who+1=d.num)(sm:∀n∈a,n≤100)(b:Gd ws { d with hd:=a }):Alt ws d { d with hd:=a } :=
 ⟨Y,Y,λh=>by
  have:a=d.hd:=h.elim (λh=>(xAjh h).1) λh=>(xAjh h).1.symm
  rw[this],len,own,b,sm⟩
def xAnl(len:d.hd.length=ws.length)(own:at0 d.hd d.who+1=d.num)(sm:∀n∈d.hd,n≤100)(a:Gd ws d):Alt ws d d:=⟨Y,Y,λ_=>rfl,len,own,a,sm⟩
def d5_of{ds fs:List Dd}(nd:ws.Nodup)(hw:∀w∈ws,IsW w)(W:Wh ws.length ds)(j:∀d∈ds,BrD ws d.br/\WhatD ws d.num d.wt)(few:ds.length≤62)(i:d∈ds)(A:Alt ws d d')(sub:∀a∈fs,a∈ds\/a=d')(l:fs.length≤63):D5 ws fs:=by
 refine⟨nd,λa c=>?_,λa c=>?_,λa c=>?_,λa c b k h1 h2 f=>?_,l,λa c n hn=>?_⟩
 ·rcases sub a c with h|rfl
  ·exact W.len a h
  ·exact A.len
 ·rcases sub a c with h|rfl
  ·exact W.own a h
  ·exact A.own
 ·rcases sub a c with h|rfl
  ·exact gd_of hw (W.who a h) (j a h).1 (j a h).2
  ·exact A.gd
 ·rcases sub a c with h|rfl
  ·rcases sub b k with g|rfl
   ·exact W.one h g h1 h2
   ·have e:=W.one h i (h1.trans A.who) (h2.trans A.num)
    subst e;exact(A.one (.inr f)).symm
  ·rcases sub b k with g|rfl
   ·have e:=W.one g i (h1.symm.trans A.who) (h2.symm.trans A.num)
    subst e;exact A.one (.inl f)
   ·rfl
 ·rcases sub a c with h|rfl
  ·exact qh (xAcn W h hn) (by omega)
  ·exact A.sm n hn
def isW_a:IsW "a":=⟨by decide,by decide,by decide +kernel⟩
def xArs:x∈ddk kk↔x∈kk:=by
 have:∀(l a:List (List Key)),x∈l.foldl insK a↔x∈a\/x∈l:=λl=>by
  induction l with
  |nil=>intro a;simp
  |cons y l b =>
   intro a;rw[yd,b];unfold insK
   split
   ·rename_i h
    constructor
    ·rintro(g|g)
     ·exact .inl g
     ·exact .inr (qw _ g)
    ·rintro(g|g)
     ·exact .inl g
     ·rcases za.mp g with rfl|g
      ·exact .inl h
      ·exact .inr g
   ·rw[zb,qu,za]
    constructor
    ·rintro((g|g)|g)
     ·exact .inl g
     ·exact .inr (.inl g)
     ·exact .inr (.inr g)
    ·rintro(g|g|g)
     ·exact .inl (.inl g)
     ·exact .inl (.inr g)
     ·exact .inr g
 have:=this kk [];unfold ddk;rw[this]
 simp
def ddk_nd(kk:List (List Key)):(ddk kk).Nodup:=by
 have:∀(l a:List (List Key)),a.Nodup->(l.foldl insK a).Nodup:=λl=>by
  induction l with
  |nil=>intro a h;exact h
  |cons y l b =>
   intro a h;rw[yd];refine b _ ?_;unfold insK
   split
   ·exact h
   ·rename_i g
    exact xAhm h g
 exact this kk [] wm
def dkk:Key->PyData
 |.inl i=>.int i
 |.inr s=>.str s
def dk5(a:List Key):PyData:=.tuple (a.map dkk)
def nk5(ws:List Str)(d:Dd):List Key:=[.inr (wA ws d.who),.inl (d.num:Int)]
def dk_inj(h:dk5 a=dk5 b):a=b:=by
 unfold dk5 at h;injection h with h;refine(List.map_inj_right (λx y e=>?_)).mp h;cases x <;> cases y <;> simp[dkk]at e <;> rw[e]
def xAnm{ws:List Str}(nd:ws.Nodup){f fs:List Dd}(W:Wh ws.length f)(c:∀d,d∈f↔d∈fs){j:List (List Key)}(i:j.Perm (ddk (fs.map (nk5 ws)))):(f.map (nmD ws)).Perm (j.map dk5):=by
 refine(List.perm_ext_iff_of_nodup ?_ ?_).mpr λx=>?_
 ·unfold List.Nodup
  rw[vn];refine W.uniq.imp_of_mem λ{a b} l m h e=>h ?_;unfold nmD at e;injection e with e;injection e with e1 e2;injection e1 with e1;injection e2 with e2;injection e2 with e2;exact⟨xAix nd (w_at (W.who a l)) (by rw[e1];exact w_at (W.who b m)),Int.ofNat_inj.mp e2⟩
 ·unfold List.Nodup
  rw[vn];exact(i.nodup_iff.mpr (ddk_nd _)).imp λh e=>h (dk_inj e)
 ·rw[qj,qj]
  constructor
  ·rintro⟨d,g,rfl⟩
   exact⟨nk5 ws d,i.mem_iff.mpr (xArs.mpr (qj.mpr ⟨d,(c d).mp g,Y⟩)),Y⟩
  ·rintro⟨n,k,rfl⟩
   obtain⟨d,g,rfl⟩:=qj.mp (xArs.mp (i.mem_iff.mp k));exact⟨d,(c d).mpr g,Y⟩
def xAzn{ws:List Str}(hw:∀w∈ws,IsW w){es:List Dd}(e:∀d∈es,d.who<ws.length):KeysAre (es.map (nmD ws)) 3:=by
 have all:∀d∈es.map (nmD ws),∃s n,d=.tuple [.str s,.int n]:=λd c=>by
  obtain⟨n,_,rfl⟩:=qj.mp c;exact⟨_,_,Y⟩
 refine⟨xAbl λd c=>?_,λd c=>?_,λa g b h=>?_,λd c=>?_⟩
 ·obtain⟨n,f,rfl⟩:=qj.mp c
  exact(gc_nm hw (e n f)).lay
 ·obtain⟨s,n,rfl⟩:=all d c;exact trivial
 ·obtain⟨s,n,rfl⟩:=all a g;obtain⟨t,m,rfl⟩:=all b h;rfl
 ·obtain⟨s,n,rfl⟩:=all d c;exact ja rfl
def xAgy{ds:List PyData}{ix:List Nat}(a:SortIx ds ix):(ix.map (keyAt ds)).Perm ds:=by
 refine(a.1.map _).trans (.of_eq ?_);apply zy;intro i;rw[qi]
 by_cases hi:i<ds.length
 ·rw[wx hi,qf hi]
  show some (ds.getD i _)=_;rw[qq,qf hi];rfl
 ·rw[List.getElem?_eq_none (by simpa using hi),List.getElem?_eq_none (by simpa using hi)];rfl
def xAui{ds c:List PyData}{t:Nat}{ix d:List Nat}(k:KeysAre ds t)(p:c.Perm ds)(h1:SortIx ds ix)(h2:SortIx c d):ix.map (keyAt ds)=d.map (keyAt c):=by
 have p1:=xAgy h1;have p2:=xAgy h2;refine List.Perm.eq_of_pairwise (λa b i j h g=>?_) h1.2 h2.2 (p1.trans (p.symm.trans p2.symm));have e:=p1.mem_iff.mp i;have f:=p.mem_iff.mp (p2.mem_iff.mp j);exact xAla a b (k.one a e b f) g h
def xAnn:∀{ys:List V} {ds:List PyData},DVs H ys ds->∀(i:Nat) y d,ys[i]?=some y->ds[i]?=some d->DV H y d
 |[],_,_,i,y,d,h1,_=>by simp at h1
 |y0::ys,ds,h,i,y,d,h1,h2=>by
  cases h with
  |cons a t =>
   cases i with
   |zero=>cases h1;cases h2;exact a
   |succ i=>exact xAnn t i y d (by simpa using h1) (by simpa using h2)
def xAno{H:Hp}{ys:List V}{ds:List PyData}{ix:List Nat}(h:DVs H ys ds)(a:SortIx ds ix):DVs H (ix.map λi=>ys.getD i .non) (ix.map (keyAt ds)):=by
 have hi:∀i∈ix,i<ds.length:=λi hi=>zm.mp (a.1.mem_iff.mp hi);have d:=xAce h;clear a
 induction ix with
 |nil=>exact .nil
 |cons i ix b =>
  refine .cons ?_ (b λj c=>hi j (qw _ c));have i1:=hi i ql
  have i2:i<ys.length:=by omega
  refine xAnn h i _ _ ?_ ?_
  ·show ys[i]?=some (ys.getD i .non)
   rw[qq,qf i2];rfl
  ·unfold keyAt
   rw[qq,qf i1];rfl
def sc_fBf:FnScope N_fBf ["deed"] (defScope s_fBf):=⟨Y,Y,Y,by decide +kernel,Y,by decide +kernel,by decide +kernel⟩
def sc_fAs:FnScope N_fAs ["roll","deed"] (defScope s_fAs):=⟨Y,Y,Y,by decide +kernel,Y,by decide +kernel,by decide +kernel⟩
def sc_fAd:FnScope N_fAd ["deed","other"] (defScope s_fAd):=⟨Y,Y,Y,by decide +kernel,Y,by decide +kernel,by decide +kernel⟩
def sc_fAf:FnScope N_fAf ["deed"] (defScope s_fAf):=⟨Y,Y,Y,by decide +kernel,Y,by decide +kernel,by decide +kernel⟩
def sc_fBe:FnScope N_fBe ["roll"] (defScope s_fBe):=⟨Y,Y,Y,by decide +kernel,Y,by decide +kernel,by decide +kernel⟩
def sc_fAp:FnScope N_fAp ["self"] (defScope s_fAp):=⟨Y,Y,Y,by decide +kernel,Y,by decide +kernel,by decide +kernel⟩
def sc_fAr:FnScope N_fAr ["self"] (defScope s_fAr):=⟨Y,Y,Y,by decide +kernel,Y,by decide +kernel,by decide +kernel⟩
def xAzo:FnScope N_fAl ["self"] (defScope s_fAl):=⟨Y,Y,Y,by decide +kernel,Y,by decide +kernel,by decide +kernel⟩
def sc_fBc:FnScope N_fBc ["self","name"] (defScope s_fBc):=⟨Y,Y,Y,by decide +kernel,Y,by decide +kernel,by decide +kernel⟩
def xAew:FnScope N_fAt ["_law_cell","_law_many"] (defScope s_fAt):=⟨Y,Y,Y,by decide +kernel,Y,by decide +kernel,by decide +kernel⟩
def xAgz:FnScope N_fAz ["_law_number"] (defScope s_fAz):=⟨Y,Y,Y,by decide +kernel,Y,by decide +kernel,by decide +kernel⟩
def xAzp:FnScope N_fBa ["_law_number","_law_roll_here"] (defScope s_fBa):=⟨Y,Y,Y,by decide +kernel,Y,by decide +kernel,by decide +kernel⟩
def xAdq:FnScope N_fAc ["_law_deed","_law_roll_here","_law_number","_law_deeds"] (defScope s_fAc):=⟨Y,Y,Y,by decide +kernel,Y,by decide +kernel,by decide +kernel⟩
def xAfs:FnScope N_fAi ["_law_deeds","_law_roll_here"] (defScope s_fAi):=⟨Y,Y,Y,by decide +kernel,Y,by decide +kernel,by decide +kernel⟩
def xApx:FnScope N_fBd ["deeds"] (defScope s_fBd):=⟨Y,Y,Y,by decide +kernel,Y,by decide +kernel,by decide +kernel⟩
def xAuj:FnScope N_fAq ["roll","told","deed"] (defScope s_fAq):=⟨Y,Y,Y,by decide +kernel,Y,by decide +kernel,by decide +kernel⟩
def xAha:FnScope N_fAy ["_law_cell"] (defScope s_fAy):=⟨Y,Y,Y,by decide +kernel,Y,by decide +kernel,by decide +kernel⟩
def sc_fBb:FnScope N_fBb ["_law_number","_law_roll_here"] (defScope s_fBb):=⟨Y,Y,Y,by decide +kernel,Y,by decide +kernel,by decide +kernel⟩
def sc_fAg:FnScope N_fAg ["_law_number","_law_roll_here"] (defScope s_fAg):=⟨Y,Y,Y,by decide +kernel,Y,by decide +kernel,by decide +kernel⟩
def sc_fAm:FnScope N_fAm ["_law_number","_law_roll_here"] (defScope s_fAm):=⟨Y,Y,Y,by decide +kernel,Y,by decide +kernel,by decide +kernel⟩
def xAdr:FnScope N_fAj ["_law_deeds","_law_roll_here","_law_number"] (defScope s_fAj):=⟨Y,Y,Y,by decide +kernel,Y,by decide +kernel,by decide +kernel⟩
def xApy:FnScope N_fAo ["roll","told"] (defScope s_fAo):=⟨Y,Y,Y,by decide +kernel,Y,by decide +kernel,by decide +kernel⟩
def sc_fAv:FnScope N_fAv ["_law_number","_law_roll_here"] (defScope s_fAv):=⟨Y,Y,Y,by decide +kernel,Y,by decide +kernel,by decide +kernel⟩
def xAzq:FnScope N_fAw ["_law_number","_law_roll_here"] (defScope s_fAw):=⟨Y,Y,Y,by decide +kernel,Y,by decide +kernel,by decide +kernel⟩
def xApz:FnScope N_fAe ["_law_draws_here","_law_roll_here"] (defScope s_fAe):=⟨Y,Y,Y,by decide +kernel,Y,by decide +kernel,by decide +kernel⟩
def xAzr:FnScope N_fAh ["self","roll","deeds"] (defScope s_fAh):=⟨Y,Y,Y,by decide +kernel,Y,by decide +kernel,by decide +kernel⟩
def sc_fAn:FnScope N_fAn ["_law_draws_here","_law_roll_here"] (defScope s_fAn):=⟨Y,Y,Y,by decide +kernel,Y,by decide +kernel,by decide +kernel⟩
def xAji:FnScope N_fAa ["_law_kind","_law_more","_law_roll_here"] (defScope s_fAa):=⟨Y,Y,Y,by decide +kernel,Y,by decide +kernel,by decide +kernel⟩
def xAqa:FnScope N_fAb ["_law_kind","_law_more","_law_roll_here"] (defScope s_fAb):=⟨Y,Y,Y,by decide +kernel,Y,by decide +kernel,by decide +kernel⟩
def xAqb:FnScope N_fAk ["_law_roll_here","_law_deeds"] (defScope s_fAk):=⟨Y,Y,Y,by decide +kernel,Y,by decide +kernel,by decide +kernel⟩
def xAqc:FnScope N_fAx ["_law_draws_here","_law_roll_here","_law_number"] (defScope s_fAx):=⟨Y,Y,Y,by decide +kernel,Y,by decide +kernel,by decide +kernel⟩
def xAbo:FnScope N_fAu ["_law_script","_law_most"] (defScope s_fAu):=⟨Y,Y,Y,by decide +kernel,Y,by decide +kernel,by decide +kernel⟩
def xAhb:FnScope N_fBg ["_law_script"] (defScope s_fBg):=⟨Y,Y,Y,by decide +kernel,Y,by decide +kernel,by decide +kernel⟩
section
variable (P:Program)(w:World)(K:PySem.W.Frag)(mg:Str->Option Value)(base:Heap)
abbrev O_fBf:Prop:=FnB P w K mg base 1 "name_of" ["deed"] sp_fBf
abbrev O_fAs:Prop:=FnB P w K mg base 1 "last_heard" ["roll","deed"] sp_fAs
abbrev O_fAd:Prop:=FnB P w K mg base 1 "had_heard_as_much" ["deed","other"] sp_fAd
abbrev O_fAf:Prop:=FnB P w K mg base 1 "how_many_heard" ["deed"] sp_fAf
abbrev O_fBe:Prop:=FnB P w K mg base 1 "seats_of" ["roll"] sp_fBe
abbrev O_fAp:Prop:=FnM P w K mg base 1 c_Folk "deeds" ["self"] (sp_fAp c_Folk) false
abbrev O_fAr:Prop:=FnM P w K mg base 1 c_Folk "names" ["self"] (sp_fAr c_Folk) false
abbrev O_fAl:Prop:=FnM P w K mg base 1 c_Folk "counts" ["self"] (sp_fAl c_Folk) false
abbrev O_fBc:Prop:=FnM P w K mg base 1 c_Folk "key" ["self","name"] (sp_fBc c_Folk) true
abbrev O_fAt:Prop:=FnB P w K mg base 1 "_law_draws" ["_law_cell","_law_many"] sp_fAt
abbrev O_fAz:Prop:=FnB P w K mg base 1 "_law_word" ["_law_number"] sp_fAz
abbrev O_fBa:Prop:=FnB P w K mg base 1 "_law_name" ["_law_number","_law_roll_here"] sp_fBa
abbrev O_fAc:Prop:=FnB P w K mg base 1 "_law_changed_heard" ["_law_deed","_law_roll_here","_law_number","_law_deeds"] sp_fAc
abbrev O_fAi:Prop:=FnB P w K mg base 1 "_law_is_whole" ["_law_deeds","_law_roll_here"] sp_fAi
abbrev O_fBd:Prop:=FnX P w K mg base 2 "by_names" ["deeds"] sp5_by_names
abbrev O_fAq:Prop:=FnX P w K mg base 2 "check_past" ["roll","told","deed"] sp5_check_past
abbrev O_fAy:Prop:=FnB P w K mg base 2 "_law_roll" ["_law_cell"] sp_fAy
abbrev O_fBb:Prop:=FnB P w K mg base 2 "_law_part" ["_law_number","_law_roll_here"] sp_fBb
abbrev O_fAg:Prop:=FnB P w K mg base 2 "_law_sign_name" ["_law_number","_law_roll_here"] sp_fAg
abbrev O_fAm:Prop:=FnB P w K mg base 2 "_law_branch" ["_law_number","_law_roll_here"] sp_fAm
abbrev O_fAj:Prop:=FnB P w K mg base 2 "_law_spoiled" ["_law_deeds","_law_roll_here","_law_number"] sp_fAj
abbrev O_fAo:Prop:=FnB P w K mg base 3 "heights_of" ["roll","told"] sp_fAo
abbrev O_fAv:Prop:=FnB P w K mg base 3 "_law_side" ["_law_number","_law_roll_here"] sp_fAv
abbrev O_fAw:Prop:=FnB P w K mg base 3 "_law_sign" ["_law_number","_law_roll_here"] sp_fAw
abbrev O_fAe:Prop:=FnB P w K mg base 3 "_law_sign_names" ["_law_draws_here","_law_roll_here"] sp_fAe
abbrev O_fAh:Prop:=FnIX P w K mg base 4 c_Folk ["self","roll","deeds"] (sp5_Folk___init__)
abbrev O_fAn:Prop:=FnB P w K mg base 4 "_law_signs" ["_law_draws_here","_law_roll_here"] sp_fAn
abbrev O_fAa:Prop:=FnB P w K mg base 4 "_law_what_of_marks" ["_law_kind","_law_more","_law_roll_here"] sp_fAa
abbrev O_fAb:Prop:=FnB P w K mg base 5 "_law_what_of_signs" ["_law_kind","_law_more","_law_roll_here"] sp_fAb
abbrev O_fAk:Prop:=FnB P w K mg base 6 "_law_refused" ["_law_roll_here","_law_deeds"] sp_fAk
abbrev O_fAx:Prop:=FnB P w K mg base 6 "_law_what" ["_law_draws_here","_law_roll_here","_law_number"] sp_fAx
abbrev O_fAu:Prop:=FnB P w K mg base 7 "_law_house" ["_law_script","_law_most"] sp_fAu
end
section
variable {P:Program}{w:World}{K:PySem.W.Frag}{mg:Str->Option Value}{base:Heap}{tk:Str->Tok}
def ok_fBf(T:Txt K mg tk)(F:FO K mg "name_of" s_fBf):O_fBf P w K mg base:=by
 refine mk_ok F sc_fBf (λ_ _ _ _ _ _ u l=>match u,l with|[_],_=>rfl) (λ_ _ _ _ h=>xAyc h) λfa c A outer s H vs Q E i h=>?_;refine⟨_,(xAad (xAak (xAaj (a2 (xt (vv 0)) (xt (vv 0)))))),?_⟩;obtain⟨v,ws,dd,rfl,d,kk⟩:=h;obtain⟨q,j,b,x,rfl,a,f⟩:=DeedAt.out d;exact⟨_,Y,q,_,0,_,Y,Y,SqT.of a,Y,_,Y,q,_,1,_,Y,Y,SqT.of a,Y,szOk rfl,λp H' g s e=>kk H' _ s (xAdv e)⟩
def ok_fAs(T:Txt K mg tk)(F:FO K mg "last_heard" s_fAs):O_fAs P w K mg base:=by
 refine mk_ok F sc_fAs (λ_ _ _ _ _ _ u l=>match u,l with|[_,_],_=>rfl) (λ_ _ _ _ h=>xAyd h) λfa r A outer s H vs Q E R h=>?_;refine⟨_,(xAad (xAak (xAdd (own:=["hand","count"]) (fr:=[]) rfl (xAly (by rfl) T.b_zip (a2 (vv 0) (xt (vv 1)))) ⟨Y,by decide +kernel,by decide +kernel⟩ (caps0 (by decide +kernel)) (λ_ _ _=>(xAns (n:=2) rfl (xAan (xAbp (i:=0) (by show List.Nodup (["hand","count"]:List Str);decide +kernel) rfl (Or.inl rfl)) (xAan (xAbp (i:=1) (by show List.Nodup (["hand","count"]:List Str);decide +kernel) rfl (Or.inl rfl)) xAca)))) (λ_=>xAdc rfl rfl (by decide)) (λ_ _ _=>(xAqm (ck op_gt (vv 1) xAab))) (λ_ _ _=>(xAaj (a2 (vv 0) (vv 1))))))),?_⟩;obtain⟨o,v,ws,dd,rfl,e,D,B,kk⟩:=h;obtain⟨q,t,b,x,rfl,m,f⟩:=DeedAt.out D;have few:=e.few;refine⟨_,Y,_,Y,q,_,2,_,Y,Y,SqT.of m,Y,o,t,Y,⟨_,SqL.of e.at'⟩,⟨_,SqT.of f⟩,xAre (xs:=ws.map V.str) (ys:=Hs.rowV dd.hd) (λi zs H'=>Same H H'/\A2 (NmV H' ws) zs (Hs.pastOf dd.hd i)) ⟨Same.refl _,.nil⟩ (λi zs H' ⟨s,_⟩=>⟨SqL.of (s _ _ e.at'),SqT.of (s _ _ f)⟩) (by rw[qc];exact ze (xAag (by omega))) ?_ ?_⟩
 ·rintro i x y zs H' p N M k G ⟨s,a⟩ c k1 k0
  obtain⟨hi,rfl⟩:=xApl k;obtain⟨C,rfl⟩:=xApm G;have d:Same H' (upd H' p (.tup [.str (wA ws i),.int (Hs.at0 dd.hd i:Nat)])):=Same.new c;refine⟨p,_,Y,SqT.of xAac,Y,_,_,Y,_,_,Y,Y,?_⟩;refine⟨_,Y,_,_,Y,Y,_,Y,ite2 (λh0=>?_) (λh0=>?_)⟩
  ·have h0:=qG h0
   refine⟨_,Y,_,Y,szOk rfl,λJ O L j I=>k1 _ _ ⟨(s.trans d).trans j,?_⟩⟩;rw[xAil,qt (by omega)];exact(a.imp λ_ _ _ g=>xAbe (d.trans j) g).snoc (xAdv I)
  ·have h0:¬((0:Int)<(Hs.at0 dd.hd i:Nat)):=λz=>h0 (qF z)
   refine k0 _ ⟨s.trans d,?_⟩;rw[xAil,qs (by omega),vy];exact a.imp λ_ _ _ g=>xAbe d g
 ·rintro H' p zs ⟨s,a⟩ _ c
  rw[qc,qc,B,yn]at a;exact kk _ p zs (s.up c) (s.free c) xAac (a.imp λ_ _ _ g=>xAbe (Same.new c) g)
def ok_fAd(T:Txt K mg tk)(F:FO K mg "had_heard_as_much" s_fAd):O_fAd P w K mg base:=by
 refine mk_ok F sc_fAd (λ_ _ _ _ _ _ u l=>match u,l with|[_,_],_=>rfl) (λ_ _ _ _ h=>xAye h) λfa t A outer s H vs Q E O h=>?_;refine⟨_,(xAad (xAak (cb (xAsh rfl) T.b_all boot_all (a1 (xAdd (own:=["mine","its"]) (fr:=[]) rfl (xAtg (by rfl) T.b_zip (a2 (xt (vv 0)) (xt (vv 1)))) ⟨Y,by decide +kernel,by decide +kernel⟩ (caps0 (by decide +kernel)) (λ_ _ _=>(xAns (n:=2) rfl (xAan (xAbp (i:=0) (by show List.Nodup (["mine","its"]:List Str);decide +kernel) rfl (Or.inl rfl)) (xAan (xAbp (i:=1) (by show List.Nodup (["mine","its"]:List Str);decide +kernel) rfl (Or.inl rfl)) xAca)))) (λ_=>xAdc rfl rfl (by decide)) (λ_ _ _=>xAbr) (λ_ _ _=>(ce op_ge (vv 0) (vv 1)))))))),?_⟩;obtain⟨v,u,ws,dd,f,rfl,G,B,C,e,kk⟩:=h;obtain⟨q,z,b,x,rfl,o,k⟩:=DeedAt.out G;obtain⟨q',c,L,N,rfl,d,a⟩:=DeedAt.out B;refine⟨_,Y,q,_,2,_,Y,Y,SqT.of o,Y,_,Y,q',_,2,_,Y,Y,SqT.of d,Y,z,c,Y,⟨_,SqT.of k⟩,⟨_,SqT.of a⟩,xAre (xs:=Hs.rowV dd.hd) (ys:=Hs.rowV f.hd) (λi zs H'=>Same H H'/\zs=((List.range i).map λj=>decide (Hs.at0 f.hd j≤Hs.at0 dd.hd j)).map V.bl) ⟨Same.refl _,Y⟩ (λi zs H' ⟨s,_⟩=>⟨SqT.of (s _ _ k),SqT.of (s _ _ a)⟩) (by rw[qc];exact ze (xAag C)) ?_ ?_⟩
 ·rintro i x y zs H' p M J m I ⟨s,rfl⟩ g k1 k0
  obtain⟨hi,rfl⟩:=xApm m;obtain⟨D,rfl⟩:=xApm I;refine⟨p,_,Y,SqT.of xAac,Y,_,_,Y,_,_,Y,Y,?_⟩;refine iteT ?_;refine⟨_,Y,_,Y,_,_,Y,Y,k1 _ _ ⟨s.trans (Same.new g),?_⟩⟩;rw[ji,z0,z0];exact congrArg (λb=>List.map V.bl ((List.range i).map λj=>decide (Hs.at0 f.hd j≤Hs.at0 dd.hd j))++[V.bl b]) (decide_eq_decide.mpr Int.ofNat_le)
 ·rintro H' p zs ⟨s,rfl⟩ _ g
  refine⟨p,_,Y,SqL.of xAac,kk _ _ (s.up g) ?_⟩;rw[wv];rw[qc,qc,e,yn];constructor
  ·intro h i hi
   exact qG (h _ (qj.mpr ⟨i,zm.mpr hi,Y⟩))
  ·intro h b r
   obtain⟨i,hi,rfl⟩:=qj.mp r;exact qF (h i (zm.mp hi))
def ok_fAf(T:Txt K mg tk)(F:FO K mg "how_many_heard" s_fAf):O_fAf P w K mg base:=by
 refine mk_ok F sc_fAf (λ_ _ _ _ _ _ u l=>match u,l with|[_],_=>rfl) (λ_ _ _ _ h=>xAyf h) λfa g A outer s H vs Q E o h=>?_;refine⟨_,(xAad (xAak (cb smI T.b_sum boot_sum (a1 (xt (vv 0)))))),?_⟩;obtain⟨v,ws,dd,rfl,i,m,hs,kk⟩:=h;obtain⟨q,j,b,x,rfl,e,d⟩:=DeedAt.out i;refine⟨_,Y,q,_,2,_,Y,Y,SqT.of e,Y,j,dd.hd.map λ(n:Nat)=>(n:Int),Y,.inr (SqT.of (by rw[wa];exact d)),λn hn=>?_,?_,?_⟩
 ·obtain⟨k,c,rfl⟩:=qj.mp hn
  have:=hs k c;omega
 ·rw[qc]
  omega
 ·rw[show(dd.hd.map λ(n:Nat)=>(n:Int)).sum=((dd.hd.sum:Nat):Int) from ?_]
  ·exact kk
  ·have:∀l:List Nat,(l.map λ(n:Nat)=>(n:Int)).sum=((l.sum:Nat):Int):=λl=>by
    induction l with
    |nil=>rfl
    |cons a l f=>rw[zh,ww,ww,f];omega
   exact this _
def ok_fBe(T:Txt K mg tk)(F:FO K mg "seats_of" s_fBe):O_fBe P w K mg base:=by
 refine mk_ok F sc_fBe (λ_ _ _ _ _ _ u l=>match u,l with|[_],_=>rfl) (λ_ _ _ _ h=>xAyh h) λfa t A outer s H vs Q E m h=>?_;refine⟨_,(xAad (xAak (cy (xAlu m.hd (hu3 m)) T.b_dict boot_dict (a1 (xAdd (own:=["seat","hand"]) (fr:=[]) rfl (xAke (by rfl) T.b_enumerate (a1 (vv 0))) ⟨Y,by decide +kernel,by decide +kernel⟩ (caps0 (by decide +kernel)) (λ_ _ _=>(xAns (n:=2) rfl (xAan (xAbp (i:=0) (by show List.Nodup (["seat","hand"]:List Str);decide +kernel) rfl (Or.inl rfl)) (xAan (xAbp (i:=1) (by show List.Nodup (["seat","hand"]:List Str);decide +kernel) rfl (Or.inl rfl)) xAca)))) (λ_=>xAdc rfl rfl (by decide)) (λ_ _ _=>xAbr) (λ_ _ _=>(xAaj (a2 (vv 1) (vv 0))))))))),?_⟩;obtain⟨B,ws,rfl,j,nd,kk⟩:=h;have few:=j.few;refine⟨_,Y,B,Y,⟨_,SqL.of j.at'⟩,xAvn (xs:=ws.map V.str) (by rw[qc];exact ze (xAag (by omega))) (λi zs H'=>Same H H'/\A2 (λy e=>∃b,y=.ref b/\H' b=some (.tup [kV e.1,e.2])) zs ((seatL ws).take i)) ⟨Same.refl _,.nil⟩ (λi zs H' ⟨s,_⟩=>SqL.of (s _ _ j.at')) ?_ ?_⟩
 ·rintro i x zs H' p G D f ⟨s,a⟩ c k1 k0
  obtain⟨hi,rfl⟩:=xApl f;have d:Same H' (upd H' p (.tup [.int (i:Int),.str (wA ws i)])):=Same.new c;refine⟨p,_,Y,SqT.of xAac,Y,_,_,Y,_,_,Y,Y,?_⟩;refine iteT ?_;refine⟨_,Y,_,Y,szOk rfl,λv I C k z=>k1 _ _ ⟨(s.trans d).trans k,?_⟩⟩;rw[wq,xArg hi];exact(a.imp λ_ _ _ ⟨b,e,g⟩=>⟨b,e,k _ _ (d _ _ g)⟩).snoc ⟨v,Y,z⟩
 ·rintro H' p zs ⟨s,a⟩ hz c
  rw[qc,←xAmg ws,wb]at a;refine⟨p,zs,seatL ws,Y,SqL.of xAac,xAxw (a.imp λ_ _ _ ⟨b,e,g⟩=>⟨b,e,Same.new c _ _ g⟩),?_,λq H2 r d o=>kk _ _ ((s.up c).trans d) ((s.up c).free r) ?_⟩
  ·rw[a.1,xAmg];omega
  ·rw[o,xAec _ _ (xAfj nd) (λe _ x f=>absurd f y7)]
   rfl
def ok_fAp(T:Txt K mg tk)(F:MO K c_Folk "deeds" "Folk.deeds" false s_fAp):O_fAp P w K mg base:=by
 refine xAps F sc_fAp (λ_ _ _ _ _ _ u l=>match u,l with|[_],_=>rfl) (λ_ _ _ _ h=>xAyi h) λfa t A outer s H vs Q E O h=>?_;refine⟨_,(xAad (xAak (lcd (defScope s_fAp) N_fAp [("self",0)] (il (fd T.C_Folk T.N_Folk_sorted_names (vc 0))) (λ_ _ _=>xAbr) (λ_ _ _=>(xAck (hu2 O) (fd T.C_Folk T.N_Folk_told (vc 1)) (vv 0) (λ_ _=>rfl)))))),?_⟩;obtain⟨x,ws,hn,L,rfl,p,kk⟩:=h;obtain⟨dx,hp,sp,tp,U,np,kvs,J,q,es,m,Z,se,to,td,j,V,hd,f,na,D,up⟩:=p;obtain⟨nd,W,R,S,few⟩:=id D
 have C:q.length≤63:=by rw[na.1,qc];exact few
 have d:=W.perm j;refine⟨_,Y,x,dx,_,_,Y,m,xAgq,np,Y,⟨_,SqL.of f⟩,lc_A3 (α:=Hs.Dd) (js:=L) (λH v e=>NmV H ws v (nm e)) (λH v e=>Hs.DeedAt H ws v e) (λ_ _ _ _ s g=>xAbe s g) (λ_ _ _ _ s g=>g.mono s) (SqL.of f) (by omega) ?_ ?_ ?_⟩
 ·refine⟨by rw[na.1,qc],λi y e o r=>na.2 i y (nm e) o (by rw[qi,r];rfl)⟩
 ·intro y e k X I a N k1
  obtain⟨z,B,h0⟩:=(td.same a).get nd d.who d.uniq (j.mem_iff.mpr I);exact⟨_,Y,x,dx,_,_,Y,a _ _ m,xAxu,_,Y,tp,kvs,_,z,Y,Rd.same to a,N,B,k1 _ _ (Same.refl _) h0⟩
 ·intro k M c a n G b
  exact kk k M c a n G b
def ok_fAr(T:Txt K mg tk)(F:MO K c_Folk "names" "Folk.names" false s_fAr):O_fAr P w K mg base:=by
 refine xAps F sc_fAr (λ_ _ _ _ _ _ u l=>match u,l with|[_],_=>rfl) (λ_ _ _ _ h=>xAyj h) λfa b A outer s H vs Q E q h=>?_;refine⟨_,(xAad (xAak (cy xAej T.b_list boot_list (a1 (fd T.C_Folk T.N_Folk_sorted_names (vv 0)))))),?_⟩;obtain⟨x,ws,hn,o,rfl,i,kk⟩:=h;obtain⟨dx,r,sp,tp,m,np,kvs,c,a,es,d,n,t,to,td,v,j,p,f,na,k,up⟩:=i;exact⟨_,Y,x,dx,_,_,Y,d,xAgq,np,_,Y,.inl (SqL.of f),λl H' g s e=>kk H' l a s g e (na.imp λ_ _ _ g=>xAbe s g)⟩
def ok_fAl(T:Txt K mg tk)(F:MO K c_Folk "counts" "Folk.counts" false s_fAl):O_fAl P w K mg base:=by
 refine xAps F xAzo (λ_ _ _ _ _ _ u l=>match u,l with|[_],_=>rfl) (λ_ _ _ _ h=>xAyk h) λfa V A outer s H vs Q E hr h=>?_
 refine⟨_,(xAaa (sm xAzo.nd 1 (lc0 (il (fd T.C_Folk T.N_Folk_sorted_names (vv 0))) (λ_ _ _=>xAbr) (λ_ _ _=>(xt (vv 0)))))
   (xAad (xAak (cy xAcc T.b_tuple boot_tuple (a1 (lcd (defScope s_fAl) N_fAl [("made_by",1)] (il (fd T.C_Folk T.N_Folk_hands (vv 0))) (λ_ _ _=>xAbr) (λ_ _ _=>(bm PySem.F.plainAttrs_list PySem.F.slot_list_count PySem.F.type_list_count (cnD hr) (vc 1) (a1 (vv 0)))))))))),?_⟩
 obtain⟨x,ws,hn,m,rfl,R,kk⟩:=h;obtain⟨dx,hp,sp,tp,gp,np,kvs,hvs,S,es,M,r,se,to,td,pe,J,N,G,na,sw,up⟩:=R;obtain⟨nd,W,hg,gd,few⟩:=id sw
 have hns:S.length≤63:=by rw[na.1,qc];exact few
 have D:=r.few;refine⟨_,Y,x,dx,_,_,Y,M,xAgq,np,Y,⟨_,SqL.of G⟩,lc_A3 (α:=Hs.Dd) (js:=m) (λH v e=>NmV H ws v (nm e)) (λH v e=>v=.str (wA ws e.who)) (λ_ _ _ _ s g=>xAbe s g) (λ_ _ _ _ s g=>g) (SqL.of G) (by omega) ?_ ?_ ?_⟩
 ·refine⟨by rw[na.1,qc],λi y e t o=>na.2 i y (nm e) t (by rw[qi,o];rfl)⟩
 ·intro y e I K1 hm k C k1
  obtain⟨b,rfl,eb⟩:=id C;exact⟨_,Y,b,_,0,_,Y,Y,SqT.of eb,Y,k1 _ _ (Same.refl _) rfl⟩
 ·intro I bp B k g5 L z
  have dvs:A2 (DV I) B (m.map λe=>PyData.str (wA ws e.who)):=A2.mapr (z.imp λv e _ g=>by rw[g];exact .str _)
  have dl:PyData.canLayAll0 (m.map λe=>PyData.str (wA ws e.who))=true:=xAbl λd N=>by
   obtain⟨e,J,rfl⟩:=qj.mp N;exact xAbb (r.wd _ (w_mem (W.who e J)))
  have c:=r.mono k;refine⟨_,Y,x,dx,_,_,Y,k _ _ M,xAtq,hp,Y,⟨_,SqL.of c.at'⟩,lc_A3 (α:=Nat) (js:=List.range ws.length) (λH v j=>v=.str (wA ws j)/\j<ws.length) (λH v j=>v=.int ((m.filter λd=>decide (d.who=j)).length:Nat)) (λ_ _ _ _ s g=>g) (λ_ _ _ _ s g=>g) (SqL.of c.at') (by rw[qc];omega) ?_ ?_ ?_⟩
  ·refine⟨by rw[qc,vj],λi y j t o=>?_⟩
   obtain⟨hi,rfl⟩:=xApl t;rw[wx hi]at o;cases o;exact⟨Y,hi⟩
  ·rintro y j H6 K1 hj a ⟨rfl,n⟩ k1
   refine⟨_,Y,.inl ⟨Y,_,SqL.of (a _ _ L)⟩,_,Y,_,_,bp,_,_,Y,Y,.str _,SqL.of (a _ _ L),A2.dvs (dvs.imp λ_ _ _ g=>g.same a),xAbb (r.wd _ (w_mem n)),dl,qk _,k1 _ _ (Same.refl _) (by rw[xApn nd W.who n])⟩
  ·intro H6 cp zs a g6 Z f
   refine⟨cp,_,Y,SqL.of Z,λl O X U e7=>kk O l ((k.trans a).trans U) (k.free (a.free X)) ?_⟩;rw[e7,show zs=Hs.rowV (cnts ws.length m) from ?_];apply zy;intro i;unfold cnts;rw[qi,qi]
   cases q:(List.range ws.length)[i]? with
   |none=>rw[wo (by rw[f.1];exact mf.mp q)];rfl
   |some p=>obtain⟨y,ey,C⟩:=f.to q;rw[ey,C];rfl
def ok_fBc(T:Txt K mg tk)(F:MO K c_Folk "key" "Folk.key" true s_fBc):O_fBc P w K mg base:=by
 refine xAps F sc_fBc (λ_ _ _ _ _ _ u l=>match u,l with|[_,_],_=>rfl) (λ_ _ _ _ h=>xAyl h) λfa a A outer s H vs Q E f h=>?_;have c:(A.deeper (envOfC "Folk.key" (defScope s_fBc) s.heap.objs.size fa a)).units+1<cLine:=hu_of f;refine⟨_,(xAad (xAak (xAaj (a2 (xAck (hu2 f) (fd T.C_Folk T.N_Folk_heights (vv 0)) (vv 1) (λ_ _=>rfl)) (xAql c (fd T.C_Folk T.N_Folk_seats (vv 0)) (xt (vv 1)) (λ_ _=>rfl)))))),?_⟩;obtain⟨x,v,ws,hn,es,dd,rfl,t,i,m,hw,nd,kk⟩:=h;obtain⟨dx,fs,n,sp,kvs,d,f1,f2,j,q,hs⟩:=t;have r:=q dd m;obtain⟨b,rfl,o⟩:=id i;refine⟨_,Y,x,dx,_,_,Y,d,f1,_,Y,n,kvs,_,_,Y,.of j,i,r,?_⟩;refine⟨_,Y,x,dx,_,_,Y,d,f2,_,Y,b,_,0,_,Y,Y,SqT.of o,Y,sp,_,Y,(xAto nd hw▸DGet.k (k:=Sum.inr (wA ws dd.who)) hs),szOk rfl,λp H' g s e=>kk H' _ s ?_⟩;exact .tup e (.cons (.int _) (.cons (.int _) .nil))
def ok_fAt(T:Txt K mg tk)(F:FO K mg "_law_draws" s_fAt):O_fAt P w K mg base:=by
 refine mk_ok F xAew (λ_ _ _ _ _ _ u l=>match u,l with|[_,_],_=>rfl) (λ_ _ _ _ h=>xAvu h) λfa v A outer s H vs Q E x h=>?_
 refine⟨_,(xAaa (sn xAew.nd 2 (xAao xAdt))
   (xAaa (sn xAew.nd 3 (cb (xAcs rfl) T.b_max boot_max (a2 xAab (pe_op xAjl (vv 0) (pe_op xAit xAab xAab)))))
   (xAaa (fo (xAbu (by rfl) T.b_range (a1 (vv 1))) (gn xAew.nd 4)
   (xAaa (sn xAew.nd 5 (pe_op xAap (pe_op xAch (pe_op xAbc (pe_op xAbc (pe_op xAap (vv 0) xAab) (pe_op xAch (pe_op xAch xAab (vv 4)) (vv 4))) xAab) xAab) xAab))
   (xAaa (sn xAew.nd 5 (pe_op xAap (pe_op xAch (vv 5) (vv 5)) xAab))
   (xAaa (sn xAew.nd 6 (pe_op xAaq (pe_op xAch (pe_op xAch (pe_op xAch (vv 5) (pe_op xAbc (vv 5) xAab)) xAab) (pe_op xAbc (pe_op xAbc (vv 5) (vv 4)) xAab)) xAab))
   (xAaa (ps_if (ck op_gt (vv 3) xAab) (xAad (sn xAew.nd 6 (vv 3))) xAal)
   (xAaa (ap (vv 2) (a1 (pe_op xAap (vv 6) (pe_op xAit xAab xAab))))
   (xAad (sn xAew.nd 3 (pe_op xAsi (vv 3) (pe_op xAit xAab xAab))))))))))
   (xAad (xAak (vv 2)))))),?_⟩
 obtain⟨i,n,rfl,hn,k⟩:=h;refine⟨by decide,λp H1 q t r=>?_⟩;refine⟨_,Y,_,_,Y,Y,⟨by decide,by decide,by decide⟩,_,_,Y,Y,_,_,Y,?_⟩
 refine⟨_,Y,n,Y,by omega,by omega,xAcb (n:=(n:Int).toNat) (λj σ H2=>∃(b:Int) (a:List Int) (f g d:Option V),σ=[some (.int i),some (.int n),some (.ref p),some (.int b),f,g,d]/\Same H H2/\H2 p=some (.lst (a.map V.int))/\a.length=j)
  ⟨_,[],none,none,none,Y,t,r,Y⟩ ?_ ?_⟩
 ·rintro j σ H2 y ⟨b,a,f,g,d,rfl,c,h2,o⟩
  have m:j<31:=by omega
  refine⟨_,Y,_,_,Y,Y,(by show(0:Int)<1000000007;decide),_,Y,_,_,Y,Y,.inl ⟨by decide,by decide⟩,_,Y,_,_,Y,Y,.inr ⟨by omega,by omega⟩,_,_,Y,Y,_,_,Y,Y,_,_,Y,Y,.inr ⟨by decide,by decide⟩,_,_,Y,Y,(by show(0:Int)<2147483629;decide),?_⟩;refine⟨_,Y,_,Y,_,_,Y,Y,.inl (cm (by decide) (by decide)),_,_,Y,Y,(by show(0:Int)<2147483587;decide),?_⟩;refine⟨_,Y,_,Y,_,_,Y,Y,_,_,Y,Y,.inl (cm (by decide) (by decide)),_,_,Y,Y,.inr ⟨by decide,by decide⟩,_,Y,_,Y,_,_,Y,Y,_,_,Y,Y,_,_,Y,Y,.inr (cm3 (by decide) (by decide) m),_,_,Y,Y,⟨by decide,by decide⟩,?_⟩;refine⟨_,Y,_,_,Y,Y,_,Y,?_⟩;refine ite2 (λ_=>⟨_,Y,?_⟩) λ_=>?_
  all_goals
   refine⟨_,Y,.inl ⟨Y,_,SqL.of h2⟩,_,Y,_,_,Y,Y,⟨by decide,by decide,by decide⟩,_,_,Y,Y,(by decide:(0:Int)<10 ^ (34:Int).toNat),p,_,_,Y,Y,h2,(by rw[qc];exact xAag (by omega)),?_⟩;refine⟨_,Y,_,_,Y,Y,⟨by decide,by decide,by decide⟩,_,_,Y,Y,⟨(by decide:(0:Int)<10 ^ (34:Int).toNat),by decide +kernel⟩,?_⟩;exact⟨_,a++[_],_,_,_,Y,c.wr q,by rw[xAac,z0];rfl,by rw[qm,zk,o]⟩
 ·rintro σ H2 ⟨b,a,f,g,d,rfl,c,h2,o⟩
  have e:a.length=n:=by omega
  exact⟨_,Y,k H2 p a c q ⟨h2,by omega,by omega⟩ e⟩
def ok_fAz(T:Txt K mg tk)(F:FO K mg "_law_word" s_fAz):O_fAz P w K mg base:=by
 refine mk_ok F xAgz (λ_ _ _ _ _ _ u l=>match u,l with|[_],_=>rfl) (λ_ _ _ _ h=>xAvv h) λfa d A outer s H vs Q E g h=>?_
 refine⟨_,(xAaa (sn xAgz.nd 1 xAau)
   (xAaa (sn xAgz.nd 2 (pe_op xAbc xAab (pe_op xAap (vv 0) xAab)))
   (xAaa (sn xAgz.nd 0 (pe_op xAaq (vv 0) xAab))
   (xAaa (fo (xAbu (by rfl) T.b_range (a1 (vv 2))) (gn xAgz.nd 3)
   (xAaa (sn xAgz.nd 1 (pe_op xAex (vv 1) (pe_ix xAvd xAau (pe_op xAap (vv 0) xAab) (λ_ _=>rfl))))
   (xAad (sn xAgz.nd 0 (pe_op xAaq (vv 0) xAab)))))
   (xAad (xAak (vv 1))))))),?_⟩
 obtain⟨i,rfl,k⟩:=h;refine⟨_,Y,_,_,Y,Y,(by show(0:Int)<8;decide),_,_,Y,Y,?_⟩;refine⟨_,Y,_,_,Y,Y,⟨by decide,by decide⟩,?_⟩;have f:0≤i % 8/\i % 8<8:=⟨Int.emod_nonneg _ (by decide),Int.emod_lt_of_pos _ (by decide)⟩
 refine⟨_,Y,_,Y,by omega,by omega,xAcb (n:=(1+i % 8).toNat) (λj σ H2=>∃(n:Int) (z:Str) (q:Option V),σ=[some (.int n),some (.str z),some (.int (1+i % 8)),q]/\H2=H/\z.cps.size=j/\∀c∈z.cps.toList,97≤c/\c≤122)
  ⟨i / 8,_,none,Y,Y,Y,λ_ z=>nomatch z⟩ ?_ ?_⟩
 ·rintro j σ H2 m ⟨n,z,q,rfl,rfl,hz,hw⟩
  have hn:0≤n % 26/\n % 26<26:=⟨Int.emod_nonneg _ (by decide),Int.emod_lt_of_pos _ (by decide)⟩;obtain⟨c,b⟩:=xAvi ("abcdefghijklmnopqrstuvwxyz":Str).cps.toList (n % 26) hn.1 (by rw[show("abcdefghijklmnopqrstuvwxyz":Str).cps.toList.length=26 from by decide +kernel];omega);refine⟨_,Y,_,Y,_,_,Y,Y,(by show(0:Int)<26;decide),_,_,_,Y,Y,(by decide +kernel),b,_,_,Y,Y,?_,?_⟩
  ·have:z.length=z.cps.size:=rfl
   have h1:(⟨#[c]⟩:Str).length=1:=rfl;have:=xAag (n:=z.length+1) (by omega);omega
  ·refine⟨_,Y,_,_,Y,Y,⟨by decide,by decide⟩,?_⟩
   refine⟨n / 26,_,_,Y,Y,by rw[xAkg];show _+1=_;omega,λe a=>?_⟩;rw[xAfc]at a;rcases zb.mp a with y|y
   ·exact hw e y
   ·rw[qu.mp y]
    exact xAvt c (xAqs b)
 ·rintro σ H2 ⟨n,z,q,rfl,rfl,hz,hw⟩
  exact⟨_,Y,k z ⟨by omega,by omega,hw⟩⟩
def ok_fBa(T:Txt K mg tk)(F:FO K mg "_law_name" s_fBa):O_fBa P w K mg base:=by
 refine mk_ok F xAzp (λ_ _ _ _ _ _ u l=>match u,l with|[_,_],_=>rfl) (λ_ _ _ _ h=>xAvx h) λfa g A outer s H vs Q E y h=>?_
 refine⟨_,(xAaa (sn xAzp.nd 2 (pe_op xAaq (vv 0) (cb xAam T.b_len boot_len (a1 (vv 1)))))
   (xAad (xAak (xAaj (a2 (xa (vv 1) (pe_op xAap (vv 0) (cb xAam T.b_len boot_len (a1 (vv 1))))) (pe_op xAbc xAab (pe_op xAap (pe_op xAaq (vv 2) xAab) (xa (xAao (a2 xAab (pe_op xAit xAab xAab))) (pe_op xAap (vv 2) xAab))))))))),?_⟩
 obtain⟨i,p,ws,rfl,a,k⟩:=h;refine⟨_,Y,_,Y,p,_,Y,.inl (SqL.of a.at'),_,_,Y,Y,a.len,?_⟩;refine⟨_,Y,_,Y,_,Y,p,_,Y,.inl (SqL.of a.at'),_,_,Y,Y,a.len.1,p,_,_,Y,Y,SqL.of a.at',xAay _ a.len.1,xAaz _ a.len.1,λv j=>?_⟩;obtain⟨w,hw,rfl⟩:=qj.mp j;refine⟨_,Y,_,_,Y,Y,⟨by decide,by decide⟩,_,_,Y,Y,⟨by decide,by decide,by decide⟩,szOk rfl,λq H1 x r f=>?_⟩;refine⟨_,Y,_,_,Y,Y,(by show(0:Int)<2;decide),q,_,_,Y,Y,SqL.of f,xAay _ (by decide),xAaz _ (by decide),λm b=>?_⟩
 obtain⟨n,rfl,hn,o⟩:∃n,m=V.int n/\0<n/\n≤1000000:=by
  simp only[List.mem_cons,List.not_mem_nil,or_false]at b
  rcases b with rfl|rfl
  ·exact⟨9,Y,by decide,by decide⟩
  ·exact⟨_,Y,by decide,by decide⟩
 refine⟨_,_,Y,Y,hn,_,_,Y,Y,szOk rfl,λc H2 t d e=>?_⟩;refine k H2 (.ref c) _ (r.trans d) (.tup e (.cons (.str w) (.cons (.int _) .nil))) ⟨_,Y,w,_,Y,hw,?_,?_⟩
 ·have:=xAay (i / ((ws.map V.str).length:Int) / 2) hn
  omega
 ·have:=xAaz (i / ((ws.map V.str).length:Int) / 2) hn
  omega
def ok_fAc(T:Txt K mg tk)(F:FO K mg "_law_changed_heard" s_fAc):O_fAc P w K mg base:=by
 refine mk_ok F xAdq (λ_ _ _ _ _ _ u l=>match u,l with|[_,_,_,_],_=>rfl) (λ_ _ _ _ h=>xAzj h) λfa cdv A outer s H vs Q E hr h=>?_
 refine⟨_,(xAaa (xAis (na 0) (gt (xAan (gn xAdq.nd 4) (xAan (gn xAdq.nd 5) (xAan (gn xAdq.nd 6) (xAan (gn xAdq.nd 7) (xAan (gn xAdq.nd 8) xAca)))))))
   (xAaa (sn xAdq.nd 9 (pe_op xAap (na 2) (cb xAam T.b_len boot_len (a1 (na 1)))))
   (xAaa (sn xAdq.nd 10 (xa (xAao (ac xAab (ac (pe_un xAus xAab) (ac xAab (a2 (pe_un xAus xAab) xAab))))) (pe_op xAap (pe_op xAaq (na 2) xAab) xAab)))
   (xAaa (ps_if (ck op_eq (pe_op xAap (pe_op xAaq (na 2) xAab) xAab) xAab) (xAad (sn xAdq.nd 6 (xt (xa (na 3) (pe_op xAap (pe_op xAaq (na 2) xAab) (cb xAam T.b_len boot_len (a1 (na 3)))))))) (xAad (sn xAdq.nd 6 (pe_op xAih (pe_op xAih (xAar xAie (na 6) xAax (xAav (na 9))) (xAaj (a1 (cb (xAcs rfl) T.b_max boot_max (a2 xAab (pe_op xAbc (xu (na 6) (na 9)) (na 10))))))) (xAar xAie (na 6) (xAav (pe_op xAbc (na 9) xAab)) xAax)))))
   (xAaa (sn xAdq.nd 9 (bm PySem.F.plainAttrs_list PySem.F.slot_list_index PySem.F.type_list_index (ixD hr) (na 1) (a1 (na 4))))
   (xAad (xAak (xAaj (ac (na 4) (ac (na 5) (ac (pe_op xAih (pe_op xAih (xAar xAie (na 6) xAax (xAav (na 9))) (xAaj (a1 (pe_op xAjl (na 5) xAab)))) (xAar xAie (na 6) (xAav (pe_op xAbc (na 9) xAab)) xAax)) (a2 (na 7) (na 8))))))))))))),?_⟩
 obtain⟨v,rp,n,dp,ws,d,des,fs,rfl,da,p,nd,J,an,hpos,hfew,j,t,hnum,kk⟩:=h;obtain⟨q,w0,hq,b,x,rfl,C,o1,o2,dtb,W⟩:=id da;have few6:=p.few;have g:=DeedAt.who da;have hdl:des.length=fs.length:=an.1;have hne:0<ws.length:=z9 (qk _) g;refine⟨q,_,Y,SqT.of o1,Y,_,_,Y,_,_,Y,_,_,Y,_,_,Y,_,_,Y,Y,?_⟩;refine⟨rp,_,Y,.inl (SqL.of p.at'),_,_,Y,Y,p.len.1,?_⟩;refine⟨_,Y,_,Y,szOk rfl,λp1 H1 g1 B e1=>?_⟩;refine⟨_,_,Y,Y,⟨by decide,by decide⟩,_,_,Y,Y,(by show(0:Int)<5;decide),p1,_,_,Y,Y,SqL.of e1,xAay _ (by decide),xAaz _ (by decide),λm hm=>?_⟩
 obtain⟨c,rfl,hc⟩:∃c:Int,m=V.int c/\c≤3:=by
  simp only[List.mem_cons,List.not_mem_nil,or_false]at hm
  rcases hm with rfl|rfl|rfl|rfl|rfl
  ·exact⟨1,Y,by decide⟩
  ·exact⟨_,Y,by decide⟩
  ·exact⟨2,Y,by decide⟩
  ·exact⟨_,Y,by decide⟩
  ·exact⟨3,Y,by decide⟩
 refine⟨_,_,Y,Y,⟨by decide,by decide⟩,_,_,Y,Y,(by show(0:Int)<3;decide),Y,_,Y,ite2 (λ_=>?a) (λ_=>?b)⟩
 case' a =>
  refine⟨_,_,Y,Y,⟨by decide,by decide⟩,dp,_,Y,.inl (SqL.of (B _ _ J)),_,_,Y,Y,(by omega),dp,_,_,Y,Y,SqL.of (B _ _ J),xAay _ (by omega),xAaz _ (by omega),λv2 hv2=>?_⟩;obtain⟨j2,X,ej2⟩:=zn hv2;obtain⟨d2,ed2,D⟩:=an.at (qf X);rw[ej2]at D;have L:=qo ed2;obtain⟨q2,S,_,_,rfl,c1,c2⟩:=DeedAt.out (D.mono B);refine⟨q2,_,2,_,Y,Y,SqT.of c1,Y,?_⟩;have O:=c2;have U:=B;have y:=t d2 L;have R:∀k,(∀e∈fs,∀n∈e.hd,n≤k)->(∀n∈d.hd,n≤k)->∀n∈d2.hd,n≤k+3:=λk h1 _ n hn=>qh (h1 d2 L n hn) (wy _ _);generalize d2.hd=hd1 at O y R
 case' b =>
  have i:(Hs.rowV d.hd).length=ws.length:=by rw[qc,j]
  obtain⟨o,G⟩:=Int.eq_ofNat_of_zero_le (xAay n p.len.1)
  have M:o<ws.length:=by
   have:=xAaz n p.len.1;rw[G,qc]at this;exact Int.ofNat_lt.mp this
  rw[G];refine⟨_,Y,hq,_,Y,SqT.of (B _ _ o2),(by rw[HT.sIx_nat,i];rintro⟨_,z⟩;omega),λt1 H2 g2 s2 e2=>?_⟩;refine⟨hq,_,(o:Int),_,Y,Y,SqT.of (s2 _ _ (B _ _ o2)),xAbq (xAtr (by rw[j];exact M)),_,_,Y,Y,_,_,Y,szOk rfl,λt2 H3 g3 s3 e3=>?_⟩
  obtain⟨r,em1,hm1⟩:∃r:Nat,(if(Hs.at0 d.hd o:Nat)+c>(0:Int) then((Hs.at0 d.hd o:Nat)+c:Int) else 0)=(r:Int)/\r≤Hs.at0 d.hd o+3:=by
   split
   ·exact⟨((Hs.at0 d.hd o:Nat)+c:Int).toNat,by omega,by omega⟩
   ·exact⟨0,Y,qk _⟩
  rw[em1]at e3;have lz:=xAag (qd 1000);refine⟨t1,t2,_,_,Y,Y,s3 _ _ e2,e3,(by rw[xAcl (by rw[i];omega),zj,i];show _+1≤_;omega),λt3 H4 s4 e4=>?_⟩;have N:=((B.trans s2).trans s3).trans s4;refine⟨_,_,Y,Y,_,Y,hq,_,Y,SqT.of (N _ _ o2),(by rintro⟨z,_⟩;rw[show((o:Int)+1)=((o+1:Nat):Int) from rfl,HT.sIx_nat,i]at z;omega),λt4 H5 g5 s5 e5=>?_⟩;rw[show((o:Int)+1)=((o+1:Nat):Int) from rfl,xAdl (by rw[i];omega)]at e5;rw[xAcl (by rw[i];omega)]at e4;refine⟨t3,t4,_,_,Y,Y,s5 _ _ e4,e5,(by rw[qm,zj,zo,i];show _+1+_≤_;omega),λS Hc s6 e6=>?_⟩;have U:=(N.trans s5).trans s6
  have O:Hc S=some (.tup (Hs.rowV (d.hd.set o r))):=by
   rw[e6,mh,qt (by rw[j];exact M)];unfold Hs.rowV;rw[z0,zh,jw,jx,yc];rfl
  have y:(d.hd.set o r).length=ws.length:=by rw[wf,j]
  have R:∀k,(∀e∈fs,∀n∈e.hd,n≤k)->(∀n∈d.hd,n≤k)->∀n∈d.hd.set o r,n≤k+3:=λk _ h2 n hn=>by
   rcases y8 hn with h|rfl
   ·exact qh (h2 n h) (wy _ _)
   ·exact qh hm1 (Nat.add_le_add_right (xAng h2) 3)
  generalize d.hd.set o r=hd1 at O y R
 all_goals
  have f:(Hs.rowV hd1).length=ws.length:=by rw[qc,y]
  have ew:w0=wA ws d.who:=(wA_of C).symm;refine⟨.inl ⟨Y,_,SqL.of (U _ _ p.at')⟩,_,.str w0,rp,ws.map PyData.str,_,d.who,Y,Y,.str _,SqL.of (U _ _ p.at'),rl_dvs ws,xAbb (p.wd _ (qo C)),rl_lay p.wd,qk _,(by rw[ew];exact(xArj nd g).1),(by rw[ew];exact(xArj nd g).2),?_⟩;refine⟨_,Y,S,_,Y,SqT.of O,(by rw[HT.sIx_nat,f];rintro⟨_,z⟩;omega),λu1 J2 j2 k2 f2=>?_⟩;refine⟨_,_,Y,Y,szOk rfl,λu2 J3 j3 k3 f3=>?_⟩
  have en:((d.num:Int) - 1)=((d.num - 1:Nat):Int):=by omega
  have lz:=xAag (qd 1000);refine⟨u1,u2,_,_,Y,Y,k3 _ _ f2,f3,(by rw[xAcl (by rw[f];omega),zj,f];show _+1≤_;omega),λu3 J4 k4 f4=>?_⟩;have I:=(k2.trans k3).trans k4;refine⟨_,_,Y,Y,_,Y,S,_,Y,SqT.of (I _ _ O),(by rintro⟨z,_⟩;rw[show((d.who:Int)+1)=((d.who+1:Nat):Int) from rfl,HT.sIx_nat,f]at z;omega),λu4 J5 j5 k5 f5=>?_⟩;rw[show((d.who:Int)+1)=((d.who+1:Nat):Int) from rfl,xAdl (by rw[f];omega)]at f5;rw[xAcl (by rw[f];omega)]at f4;refine⟨u3,u4,_,_,Y,Y,k5 _ _ f4,f5,(by rw[qm,zj,zo,f];show _+1+_≤_;omega),λu5 J6 k6 f6=>?_⟩;have k16:=(I.trans k5).trans k6
  have f6':J6 u5=some (.tup (Hs.rowV (hd1.set d.who (d.num - 1)))):=by
   rw[f6,mh,qt (by rw[y];exact g)];unfold Hs.rowV;rw[z0,zh,jw,jx,yc,en];rfl
  refine⟨szOk rfl,λu7 J7 j7 k7 f7=>?_⟩;have Z:=(U.trans k16).trans k7;refine kk J7 (.ref u7) (hd1.set d.who (d.num - 1)) Z ⟨u7,w0,u5,b,x,Y,C,f7,k7 _ _ f6',dtb.same Z,W.same Z⟩ (by rw[wf,y]) ?_ λk h1 h2 h3 n hn=>?_
  ·show Hs.at0 (hd1.set d.who (d.num - 1)) d.who+1=d.num
   rw[show Hs.at0 (hd1.set d.who (d.num - 1)) d.who=d.num - 1 from Hs.getD_set_self (by rw[y];exact g)];omega
  ·rcases y8 hn with h|rfl
   ·exact R k h1 h2 n h
   ·omega
def ok_fAi(T:Txt K mg tk)(F:FO K mg "_law_is_whole" s_fAi):O_fAi P w K mg base:=by
 refine mk_ok F xAfs (λ_ _ _ _ _ _ u l=>match u,l with|[_,_],_=>rfl) (λ_ _ _ _ h=>xAzi h) λfa cdv A outer s H vs Q E hr h=>?_
 refine⟨_,(xAaa (sn xAfs.nd 2 xAlq)
   (xAaa (fo (il (na 0)) (gm xAfs.nd 3)
   (xAaa (ps_if (ck (neD hr) (bm PySem.F.plainAttrs_dict PySem.F.slot_dict_get PySem.F.type_dict_get (xAta (hu2 hr)) (na 2) (a2 (xAaj (a2 (xt (nc 3)) (xt (nc 3)))) (nc 3))) (nc 3)) (xAad (xAak pe_bl)) xAal)
   (xAad (xAgj (hu2 hr) (na 2) (xAaj (a2 (xt (nc 3)) (xt (nc 3)))) (nc 3) rfl))))
   (xAaa (fo (il (na 0)) (gm xAfs.nd 3)
   (xAad (fo (xAly (by rfl) T.b_zip (a2 (na 1) (xt (nc 3)))) (gt (xAan (gn xAfs.nd 4) (xAan (gn xAfs.nd 5) xAca)))
   (xAad (fo (xAnu (by rfl) T.b_range (a2 xAab (pe_op xAbc (na 5) xAab))) (gn xAfs.nd 6)
   (xAaa (ps_if (ck (xAib (hu2 hr)) (xAaj (a2 (na 4) (na 6))) (na 2)) (xAad (xAak pe_bl)) xAal)
   (xAaa (sm xAfs.nd 7 (xt (xAck (hu2 hr) (na 2) (xAaj (a2 (na 4) (na 6))) (λ_ _=>rfl))))
   (xAad (ps_if (ck (neD hr) (lcd (defScope s_fAi) N_fAi [("_law_deed",3),("_law_past",7)] (xAbu (by rfl) T.b_range (a1 (cb xAam T.b_len boot_len (a1 (na 1))))) (λ_ _ _=>(xAqm (ck op_lt (xu (xt (nc 1)) (na 0)) (xu (nc 2) (na 0))))) (λ_ _ _=>(na 0))) (xAao xAdt)) (xAad (xAak pe_bl)) xAal)))))))))
   (xAad (xAak pe_bl))))),?_⟩
 obtain⟨rp,dp,ws,des,fs,rfl,rl,hdp,an,D,kk⟩:=h;intro t H1 g1 s1 e1;have nd:=D.nd;have hdl:des.length=fs.length:=an.1;have hfl:=D.few;have few6:=rl.few;refine⟨dp,Y,⟨_,SqL.of (s1 _ _ hdp)⟩,xAcg (xs:=des) (λj σ H2=>∃kvs es u3,σ=[some (.ref dp),some (.ref rp),some (.ref t),u3,none,none,none,none]/\Same H H2/\H2 t=some (.dG kvs)/\TD H2 ws kvs es/\(es.Pairwise λa b=>¬(a.who=b.who/\a.num=b.num))/\(∀d,d∈es↔d∈fs.take j)/\kvs.length≤j) ⟨[],[],_,Y,s1,e1,.nil,.nil,λd=>by simp,Nat.le_refl _⟩ (λj σ H2 _ ⟨_,_,_,_,X,_⟩=>SqL.of (X _ _ hdp)) ?_ ?_⟩
 ·rintro j v σ H2 hx ⟨kvs,es,u3,rfl,X,e2,td,up,f,hkl⟩
  obtain⟨dd,ed,da0⟩:=an.at hx;have hm:dd∈fs:=qo ed;have hj:j<fs.length:=(qy.mp ed).1
  have htk:fs.take (j+1)=fs.take j++[dd]:=by rw[wq,ed];rfl
  have da:=da0.mono X;have sub:∀a∈es,a∈fs:=λa m=>vk ((f a).mp m);obtain⟨q,hq,b,x,rfl,o1,o2⟩:=DeedAt.out da;refine⟨.inr (.inr (.inl ⟨Y,.inr (.inr ⟨kvs,e2⟩)⟩)),q,_,0,_,Y,Y,SqT.of o1,Y,?_⟩;refine⟨q,_,1,_,Y,Y,SqT.of o1,Y,szOk rfl,λnp L g3 y e3=>?_⟩;have s23:=X.trans y;have td3:=td.same y
  have hw:∀e∈es,e.who<ws.length:=λe G=>by
   obtain⟨i,hi,rfl⟩:=zn G;obtain⟨_,_,_,_,x⟩:=td.to (qf hi);exact DeedAt.who x
  have hks:kvs.length<sizeLine:=xAag (by omega);refine⟨t,kvs,kD ws dd,_,_,Y,Y,y _ _ e2,xAdv e3,?_⟩;have I:=D.gd dd hm;have S:DV L (.ref q) (ddD ws dd):=(DeedAt.dt (da.mono y)).dv
  have put:(∀a∈es,a.who=dd.who->a.num=dd.num->a=dd)->∀nv B,Same L B->NmV B ws nv (nm dd)->∃W es2 u3,([some (.ref dp),some (.ref rp),some (.ref t),some (.ref q),none,none,none,none]:L2.St)=[some (.ref dp),some (.ref rp),some (.ref t),u3,none,none,none,none]/\Same H (upd B t (.dG (pG kvs (kD ws dd) nv (.ref q))))/\(upd B t (.dG (pG kvs (kD ws dd) nv (.ref q)))) t=some (.dG W)/\TD (upd B t (.dG (pG kvs (kD ws dd) nv (.ref q)))) ws W es2/\(es2.Pairwise λa b=>¬(a.who=b.who/\a.num=b.num))/\(∀d,d∈es2↔d∈fs.take (j+1))/\W.length≤j+1:=λone nv B r hn=>by
   obtain⟨es',td',up',mem'⟩:=TD.put nd (td3.same r) hn ((da.mono y).mono r) up one;refine⟨_,es',_,Y,(s23.trans r).wr g1,xAac,td_wr td' (r _ _ (y _ _ e2)) dG_no,up',λd=>?_,qh (xAow kvs _ _ _) (wc hkl)⟩;rw[mem',f,htk,zb,qu]
  have o3:=y _ _ o1
  by_cases ex:∃a∈es,a.who=dd.who/\a.num=dd.num
  ·obtain⟨a,m,a1,a2⟩:=ex
   have ek:kD ws a=kD ws dd:=by show kOf ws a.who a.num=kOf ws dd.who dd.num;rw[a1,a2]
   obtain⟨v0,e0,h0⟩:=td3.get nd hw up m;rw[ek]at e0;have gda:=D.gd a (sub a m)
   have M:DV L ((vG kvs (kD ws dd)).getD (.ref q)) (ddD ws a):=by rw[e0];exact(DeedAt.dt h0).dv
   refine⟨_,_,M,S,gda.lay,I.lay,qh (yv _ _) (qh gda.dep (by decide)),_,Y,?_⟩
   by_cases eq:a=dd
   ·subst eq
    refine itF (by show(!PyData.eqv (ddD ws a) (ddD ws a))=false;rw[I.self];rfl) ?_;refine⟨q,_,0,_,Y,Y,SqT.of o3,Y,q,_,1,_,Y,Y,SqT.of o3,Y,szOk rfl,λnp4 B g4 r e4=>⟨t,kvs,_,Y,r _ _ (y _ _ e2),xAdv e4,hks,put (λb hb h1 h2=>?_) _ B r (xAdv e4)⟩⟩;refine Classical.byContradiction λz=>?_;rcases xAjg up hb m z with w|w
    ·exact w ⟨h1,h2⟩
    ·exact w ⟨h1.symm,h2.symm⟩
   ·have ne:PyData.eqv (ddD ws a) (ddD ws dd)=false:=jl.mpr λz=>eq (D.one a (sub a m) dd hm a1 a2 z)
    refine itT (by show(!PyData.eqv (ddD ws a) (ddD ws dd))=true;rw[ne];rfl) ?_;exact kk L false s23 ⟨(λz=>by cases z),λg=>absurd (g.1 a (sub a m) dd hm a1 a2) eq⟩
  ·have e0:vG kvs (kD ws dd)=none:=td3.no nd hw (DeedAt.who da) λe G z=>ex ⟨e,G,z⟩
   have M:DV L ((vG kvs (kD ws dd)).getD (.ref q)) (ddD ws dd):=by rw[e0];exact S
   refine⟨_,_,M,S,I.lay,I.lay,qh (yv _ _) (qh I.dep (by decide)),_,Y,itF (by show(!PyData.eqv (ddD ws dd) (ddD ws dd))=false;rw[I.self];rfl) ?_⟩;exact⟨q,_,0,_,Y,Y,SqT.of o3,Y,q,_,1,_,Y,Y,SqT.of o3,Y,szOk rfl,λnp4 B g4 r e4=>⟨t,kvs,_,Y,r _ _ (y _ _ e2),xAdv e4,hks,put (λa m h1 h2=>absurd ⟨a,m,h1,h2⟩ ex) _ B r (xAdv e4)⟩⟩
 rintro σ H2 ⟨kvs,es,u3,rfl,X,e2,td,up,f,hkl⟩;rw[hdl,wb]at f
 have hun:Un5 fs:=λa m b hb h1 h2=>Classical.byContradiction λz=>by
  rcases xAjg up ((f a).mpr m) ((f b).mpr hb) z with w|w
  ·exact w ⟨h1,h2⟩
  ·exact w ⟨h1.symm,h2.symm⟩
 have hw:∀e∈es,e.who<ws.length:=λe G=>by
  obtain⟨i,hi,rfl⟩:=zn G;obtain⟨_,_,_,_,x⟩:=td.to (qf hi);exact DeedAt.who x
 refine⟨dp,Y,⟨_,SqL.of (X _ _ hdp)⟩,xAcg (xs:=des) (λj σ L=>∃u3 u4 u5 R O,σ=[some (.ref dp),some (.ref rp),some (.ref t),u3,u4,u5,R,O]/\Same H2 L/\∀d∈fs.take j,Hs.Cov ws.length fs d.hd) ⟨_,_,_,_,_,Y,Same.refl _,λd h=>by simp at h⟩ (λj σ L _ ⟨_,_,_,_,_,_,y,_⟩=>SqL.of ((X.trans y) _ _ hdp)) ?_ ?_⟩
 rotate_left
 ·rintro σ L ⟨u3,u4,u5,R,O,rfl,y,C⟩
  rw[hdl,wb]at C;exact kk L true (X.trans y) ⟨λ_=>⟨hun,C⟩,λ_=>rfl⟩
 rintro j v σ L hx ⟨u3,u4,u5,R,O,rfl,y,C⟩;obtain⟨dd,ed,da0⟩:=an.at hx;have hm:dd∈fs:=qo ed
 have htk:fs.take (j+1)=fs.take j++[dd]:=by rw[wq,ed];rfl
 have U:=X.trans y;have da:=da0.mono U;have hlen:=D.len dd hm;obtain⟨q,hq,b,x,rfl,o1,o2⟩:=DeedAt.out da;refine⟨q,_,2,_,Y,Y,SqT.of o1,Y,rp,hq,Y,⟨_,SqL.of (U _ _ rl.at')⟩,⟨_,SqT.of o2⟩,xAth (xs:=ws.map V.str) (ys:=Hs.rowV dd.hd) (λi σ B=>∃u4 u5 R O,σ=[some (.ref dp),some (.ref rp),some (.ref t),some (.ref q),u4,u5,R,O]/\Same L B/\∀a k,a<i->1≤k->k≤Hs.at0 dd.hd a->∃e∈fs,e.who=a/\e.num=k/\∀i,i<ws.length->Hs.at0 e.hd i≤Hs.at0 dd.hd i) ⟨_,_,_,_,Y,Same.refl _,λa k h=>absurd h (zv _)⟩ (λi σ B ⟨_,_,_,_,_,r,_⟩=>⟨SqL.of ((U.trans r) _ _ rl.at'),SqT.of (r _ _ o2)⟩) ?_ ?_⟩
 rotate_left
 ·rintro σ B ⟨u4,u5,R,O,rfl,r,gd4⟩
  refine⟨_,_,_,_,_,Y,y.trans r,λd hd=>?_⟩;rw[htk,zb,qu]at hd;rcases hd with hd|rfl
  ·exact C d hd
  ·intro a k m h1 h2
   exact gd4 a k (by rw[qc,qc,hlen,yn];exact m) h1 h2
 rintro i x1 y1 σ B p hx1 hy1 ⟨u4,u5,R,O,rfl,r,gd4⟩ hp;obtain⟨hi,rfl⟩:=xApl hx1;obtain⟨hi2,rfl⟩:=xApm hy1;have s4':=r.trans (Same.new (o:=.tup [.str (wA ws i),.int (Hs.at0 dd.hd i:Nat)]) hp);refine⟨p,_,Y,SqT.of xAac,Y,_,_,Y,_,_,Y,Y,?_⟩;have hsml:Hs.at0 dd.hd i≤100:=xAng (D.sm dd hm);generalize upd B p (HO.tup [V.str (wA ws i),V.int (Hs.at0 dd.hd i:Nat)])=H5 at s4';refine⟨_,_,Y,Y,1,_,Y,⟨by decide,by decide,by omega,by omega⟩,?_⟩;rw[show((Hs.at0 dd.hd i:Nat)+1 - 1:Int).toNat=Hs.at0 dd.hd i from by omega];refine xAcb (λn σ H6=>∃R O,σ=[some (.ref dp),some (.ref rp),some (.ref t),some (.ref q),some (.str (wA ws i)),some (.int (Hs.at0 dd.hd i:Nat)),R,O]/\Same H5 H6/\∀k,1≤k->k≤n->∃e∈fs,e.who=i/\e.num=k/\∀i,i<ws.length->Hs.at0 e.hd i≤Hs.at0 dd.hd i) ⟨_,_,Y,Same.refl _,λk h1 h2=>absurd h2 (by omega)⟩ ?_ ?_
 rotate_left
 ·rintro σ H6 ⟨R,O,rfl,s6,g6⟩
  refine⟨_,_,_,_,Y,s4'.trans s6,λa k m h1 h2=>?_⟩;rcases yu (gj m) with m|rfl
  ·exact gd4 a k m h1 h2
  ·exact g6 k h1 h2
 rintro n σ H6 hn ⟨R,O,rfl,s6,g6⟩;have s36:=s4'.trans s6;have s26:=y.trans s36
 have cst:(1+(n:Int))=((n+1:Nat):Int):=by omega
 refine⟨szOk rfl,λnp H7 g7 s7 e7=>?_⟩;rw[cst]at e7;have N:=s26.trans s7;refine⟨t,kvs,kOf ws i (n+1),Y,.of (N _ _ e2),xAdv e7,_,Y,?_⟩
 by_cases ex:∃e∈es,e.who=i/\e.num=n+1
 rotate_left
 ·refine itT (by show(!(vG kvs (kOf ws i (n+1))).isSome)=true;rw[(td.same N).no nd hw hi λe G z=>ex ⟨e,G,z⟩];rfl) ?_
  refine kk H7 false (X.trans N) ⟨(λz=>by cases z),λg=>?_⟩;obtain⟨e,G,a1,a2,_⟩:=g.2 dd hm i (n+1) hi (by omega) (by omega);exact absurd ⟨e,(f e).mpr G,a1,a2⟩ ex
 obtain⟨e,G,a1,a2⟩:=ex
 have ek:kD ws e=kOf ws i (n+1):=by show kOf ws e.who e.num=_;rw[a1,a2]
 obtain⟨v0,e0,h0⟩:=(td.same N).get nd hw up G;rw[ek]at e0;have hle:=D.len e ((f e).mp G);refine itF (by show(!(vG kvs (kOf ws i (n+1))).isSome)=false;rw[e0];rfl) ?_;refine⟨szOk rfl,λnp8 H8 g8 s8 e8=>?_⟩;rw[cst]at e8;have s28:=N.trans s8;obtain⟨q',hq',b',x',rfl,o1',o2'⟩:=DeedAt.out (h0.mono s8);refine⟨t,kvs,kOf ws i (n+1),_,Y,.of (s28 _ _ e2),xAdv e8,e0,q',_,2,_,Y,Y,SqT.of o1',Y,?_⟩;have s38:=s36.trans (s7.trans s8);refine⟨rp,_,Y,.inl (SqL.of ((U.trans s38) _ _ rl.at')),_,Y,by omega,by rw[qc];omega,?_⟩;rw[show(((ws.map V.str).length:Nat):Int).toNat=ws.length from by rw[qc];exact Int.toNat_natCast _];have o18:=s38 _ _ o1;have o28:=s38 _ _ o2;refine xAkk (ze (xAag (by omega))) (λc ys H9=>Same H8 H9/\(∃J:List Int,ys=J.map V.int)/\(ys=[]↔∀a,a<c->Hs.at0 e.hd a≤Hs.at0 dd.hd a)) ⟨Same.refl _,⟨[],Y⟩,⟨λ_ a h=>absurd h (zv _),λ_=>rfl⟩⟩ ?_ ?_
 ·rintro c ys H9 K1 K0 hc ⟨s9,⟨J,rfl⟩,Z⟩ k1 k0
  rw[Int.zero_add];refine⟨q,_,2,_,Y,Y,SqT.of (s9 _ _ o18),Y,hq,_,(c:Int),_,Y,Y,SqT.of (s9 _ _ o28),xAbq (xAtr (by rw[hlen];exact hc)),hq',_,(c:Int),_,Y,Y,SqT.of (s9 _ _ o2'),xAbq (xAtr (by rw[hle];exact hc)),_,_,Y,Y,_,Y,?_⟩
  by_cases lt:Hs.at0 dd.hd c<Hs.at0 e.hd c
  ·refine ite2 (λ_=>?_) λh=>absurd (qF (Int.ofNat_lt.mpr lt)) h
   refine k1 _ _ ⟨s9,⟨J++[(c:Int)],by rw[List.map_append];rfl⟩,⟨λz=>by simp at z,λz=>absurd (z c (Nat.lt_succ_self _)) (by omega)⟩⟩
  ·refine ite2 (λh=>absurd (Int.ofNat_lt.mp (qG h)) lt) λ_=>?_
   refine k0 _ ⟨s9,⟨J,Y⟩,Z.trans ⟨λz a m=>?_,λz a m=>z a (zq m)⟩⟩;rcases yu (gj m) with h|rfl
   ·exact z a h
   ·omega
 rintro H9 p9 ys ⟨s9,⟨J,rfl⟩,Z⟩ _ hp9;have e9:(upd H9 p9 (.lst (J.map V.int))) p9=some (.lst (J.map V.int)):=xAac;have s9':=s9.trans (Same.new (o:=.lst (J.map V.int)) hp9);generalize upd H9 p9 (.lst (J.map V.int))=H10 at e9 s9';refine⟨szOk rfl,λp11 H11 g11 s11 e11=>?_⟩;have s811:=s9'.trans s11;have M:DV H11 (.ref p9) (.list (J.map PyData.int)):=.lst (SqL.of (s11 _ _ e9)) (xAnh J);have S:DV H11 (.ref p11) (.list []):=.lst (SqL.of e11) .nil;refine⟨_,_,M,S,(GC.lst (k:=0) λd hd=>by obtain⟨z,_,rfl⟩:=qj.mp hd;exact xAcr _).lay,Y,qh (Nat.min_le_right _ _) (by decide),_,Y,?_⟩;have s311:=s38.trans s811
 cases J with
 |nil =>
  refine itF (by rfl) ?_;refine⟨_,_,Y,s6.trans ((s7.trans s8).trans s811),λk h1 h2=>?_⟩;rcases yu h2 with h|rfl
  ·exact g6 k h1 (gj h)
  ·exact⟨e,(f e).mp G,a1,a2,Z.mp rfl⟩
 |cons z J =>
  refine itT (by rfl) ?_;refine kk H11 false (U.trans s311) ⟨(λz=>by cases z),λg=>?_⟩;obtain⟨e',he',b1,b2,b3⟩:=g.2 dd hm i (n+1) hi (by omega) (by omega);have:e'=e:=hun e' he' e ((f e).mp G) (b1.trans a1.symm) (b2.trans a2.symm);subst this;exact absurd (Z.mpr b3) (by simp)
def ok_fBd(T:Txt K mg tk)(F:FO K mg "by_names" s_fBd)(G:O_fBf P w K mg base):O_fBd P w K mg base:=by
 refine xAyv F xApx (λ_ _ _ _ _ _ u l=>match u,l with|[_],_=>rfl) (λ_ _ _ _ h=>xAfr h) λfa cdv A outer s H vs Q E y h=>?_
 refine⟨_,(xAaa (sn xApx.nd 1 xAlq)
   (xAaa (foX (il (vv 0)) (gn xApx.nd 2)
   (xAaa (sn xApx.nd 3 (cl G y (a1 (vv 2))))
   (xAaa (ps_if (PW.pt (xAum (ck (op_inG (hu2 y)) (vv 3) (vv 1)) (xAqd (ck (neD y) (xAck (hu2 y) (vv 1) (vv 3) (λ_ _=>rfl)) (vv 2))))) (xAad (xAgx T.X_NoSet T.g_NoSet (a1 (xAnf (xAev (m:=1031) (xAne (m:=1000) y (vv 3) xAug)))))) xAal)
   (xAad (xAgj (hu2 y) (vv 1) (vv 3) (vv 2) rfl)))))
   (xAad (xAak (vv 1))))),?_⟩
 obtain⟨dp,des,ws,fs,rfl,L,an,hwd,D,kk,ke⟩:=h;intro t H1 g1 s1 e1;have nd:=D.nd;have N:des.length=fs.length:=an.1;have hfl:=D.few;refine⟨_,Y,dp,Y,⟨_,SqL.of (s1 _ _ L)⟩,xAcg (xs:=des) (λj σ H2=>∃kvs es J C,σ=[some (.ref dp),some (.ref t),J,C]/\Same H H2/\H2 t=some (.dG kvs)/\TD H2 ws kvs es/\(es.Pairwise λa b=>¬(a.who=b.who/\a.num=b.num))/\(∀d,d∈es↔d∈fs.take j)/\kvs.length≤j) ⟨[],[],_,_,Y,s1,e1,.nil,.nil,λd=>by simp,Nat.le_refl _⟩ (λj σ H2 _ ⟨_,_,_,_,_,n,_⟩=>SqL.of (n _ _ L)) ?_ ?_⟩
 ·rintro j v σ H2 hx ⟨kvs,es,J,C,rfl,n,e2,td,up,c,o⟩
  obtain⟨dd,ed,da0⟩:=an.at hx;have W:dd∈fs:=qo ed;have hj:j<fs.length:=(qy.mp ed).1
  have htk:fs.take (j+1)=fs.take j++[dd]:=by rw[wq,ed];rfl
  have R:=da0.mono n;have sub:∀a∈es,a∈fs:=λa f=>vk ((c a).mp f);refine⟨_,Y,v,ws,dd,Y,R,λX U r hn=>?_⟩;have p:=td.same r
  have hw:∀e∈es,e.who<ws.length:=λe he=>by
   obtain⟨i,hi,rfl⟩:=zn he;obtain⟨_,_,_,_,x⟩:=td.to (qf hi);exact DeedAt.who x
  have S:=r _ _ e2;refine⟨_,Y,_,Y,t,kvs,_,Y,.of S,hn,_,Y,?_⟩;have M:kvs.length<sizeLine:=xAag (by omega)
  have put:(∀a∈es,a.who=dd.who->a.num=dd.num->a=dd)->∃g k J C,([some (.ref dp),some (.ref t),some v,some U]:L2.St)=[some (.ref dp),some (.ref t),J,C]/\Same H (upd X t (.dG (pG kvs (kD ws dd) U v)))/\(upd X t (.dG (pG kvs (kD ws dd) U v))) t=some (.dG g)/\TD (upd X t (.dG (pG kvs (kD ws dd) U v))) ws g k/\(k.Pairwise λa b=>¬(a.who=b.who/\a.num=b.num))/\(∀d,d∈k↔d∈fs.take (j+1))/\g.length≤j+1:=λone=>by
   obtain⟨es',Z,up',I⟩:=TD.put nd p hn (R.mono r) up one;refine⟨_,es',_,_,Y,(n.trans r).wr g1,xAac,td_wr Z S dG_no,up',λd=>?_,qh (xAow kvs _ _ _) (wc o)⟩;rw[I,c,htk,zb,qu]
  by_cases q:∃a∈es,a.who=dd.who/\a.num=dd.num
  ·obtain⟨a,f,a1,a2⟩:=q
   have ek:kD ws a=kD ws dd:=by show kOf ws a.who a.num=kOf ws dd.who dd.num;rw[a1,a2]
   obtain⟨v0,e0,h0⟩:=p.get nd hw up f;rw[ek]at e0;have O:=D.gd a (sub a f);have B:=D.gd dd W;refine itT (by show(vG kvs (kD ws dd)).isSome=true;rw[e0];rfl) ?_;refine⟨_,Y,_,Y,t,kvs,_,v0,Y,.of S,hn,e0,_,Y,_,_,(DeedAt.dt h0).dv,(DeedAt.dt (R.mono r)).dv,O.lay,B.lay,qh (yv _ _) (qh O.dep (by decide)),_,Y,?_⟩
   by_cases eq:a=dd
   ·subst eq
    refine itF (by show(!PyData.eqv (ddD ws a) (ddD ws a))=false;rw[B.self];rfl) ?_
    exact⟨_,Y,_,Y,_,Y,t,kvs,_,Y,S,hn,M,put λb V h1 h2=>by
     refine Classical.byContradiction λz=>?_;rcases xAjg up V f z with w|w
     ·exact w ⟨h1,h2⟩
     ·exact w ⟨h1.symm,h2.symm⟩⟩
   ·have ne:PyData.eqv (ddD ws a) (ddD ws dd)=false:=jl.mpr λz=>eq (D.one a (sub a f) dd W a1 a2 z)
    refine itT (by show(!PyData.eqv (ddD ws a) (ddD ws dd))=true;rw[ne];rfl) ?_;obtain⟨b,eb,V⟩:=id hn;subst eb;refine⟨_,Y,_,b,Y,(NmV.dt hn).dv,xAze hwd (DeedAt.who R) (xArp D W),λv1=>⟨by show 1≤_;rw[sizeLine_eq];decide,ke (λu=>eq (u a (sub a f) dd W a1 a2)) X (n.trans r)⟩⟩
  ·refine itF (by show(vG kvs (kD ws dd)).isSome=false;rw[p.no nd hw (DeedAt.who R) λe he z=>q ⟨e,he,z⟩];rfl) ?_
   exact itF rfl ⟨_,Y,_,Y,_,Y,t,kvs,_,Y,S,hn,M,put λa f h1 h2=>absurd ⟨a,f,h1,h2⟩ q⟩
 ·rintro σ H2 ⟨kvs,es,J,C,rfl,n,e2,td,up,c,o⟩
  rw[N,wb]at c;refine⟨_,Y,kk (λa f b V h1 h2=>Classical.byContradiction λz=>?_) H2 t kvs es n g1 e2 td up c (by rw[←td.1,←N];exact o)⟩;rcases xAjg up ((c a).mpr f) ((c b).mpr V) z with w|w
  ·exact w ⟨h1,h2⟩
  ·exact w ⟨h1.symm,h2.symm⟩
def ok_fAq(T:Txt K mg tk)(F:FO K mg "check_past" s_fAq)(J:O_fAd P w K mg base)(R:O_fAs P w K mg base)(N:O_fBf P w K mg base):O_fAq P w K mg base:=by
 refine xAyv F xAuj (λ_ _ _ _ _ _ u l=>match u,l with|[_,_,_],_=>rfl) (λ_ _ _ _ h=>xAdx h) λfa cdv A outer s H vs Q E t h=>?_
 refine⟨_,(xAaa (sn xAuj.nd 3 (cl N t (a1 (vv 2))))
   (xAad (foX (il (cl R t (a2 (vv 0) (vv 2)))) (gn xAuj.nd 4)
   (xAaa (ps_if (ck (xAib (hu2 t)) (vv 4) (vv 1)) (xAad (xAgx T.X_NoSet T.g_NoSet (a1 (xAnf (xAev (m:=2019) (xAne (m:=2007) t (vv 3) (xAev (m:=1007) (xAne (m:=1000) t (vv 4) xAug)))))))) xAal)
   (xAad (ps_if (xAun (xAru (cl J t (a2 (vv 2) (xAck (hu2 t) (vv 1) (vv 4) (λ_ _=>rfl)))))) (xAad (xAgx T.X_NoSet T.g_NoSet (a1 (xAnf (xAne (m:=2021) t (vv 3) (xAev (m:=1021) (xAne (m:=1000) t (vv 4) xAug))))))) xAal)))))),?_⟩
 obtain⟨rp,tp,v,ws,dd,es,kvs,rfl,W,rd,td,nd,up,a,Z,hnm,da,G,kk,ke⟩:=h;refine⟨_,Y,v,ws,dd,Y,da,λH1 nv s1 hn=>?_⟩;refine⟨_,Y,_,Y,rp,v,ws,dd,Y,W.mono s1,da.mono s1,a dd G,λH2 lp ns s2 g2 e2 an=>?_⟩
 have hw:∀e∈es,e.who<ws.length:=λe B=>by
  obtain⟨i,hi,rfl⟩:=zn B;obtain⟨_,_,_,_,x⟩:=td.to (qf hi);exact DeedAt.who x
 have S:=s1.trans s2;refine⟨lp,Y,⟨_,SqL.of e2⟩,xAcg (xs:=ns) (λj σ r=>∃u4,σ=[some (.ref rp),some (.ref tp),some v,some nv,u4]/\Same H2 r/\∀p∈(Hs.pastOf dd.hd ws.length).take j,∃e∈es,e.who=p.1/\e.num=p.2/\∀i,i<ws.length->Hs.at0 e.hd i≤Hs.at0 dd.hd i) ⟨_,Y,Same.refl _,λp h=>by simp at h⟩ (λj σ r _ ⟨_,_,y,_⟩=>SqL.of (y _ _ e2)) ?_ ?_⟩
 ·rintro j x σ r hx ⟨u4,rfl,y,c⟩
  obtain⟨p,ep,hp⟩:=an.at hx;have o:=xAbe y hp;have f:=S.trans y;have C:=qo ep;obtain⟨M,hp2,hp5⟩:=Hs.mem_pastOf.mp C;have I:=Rd.same rd f;have L:=xAbe (s2.trans y) hn;obtain⟨b1,eb1,hb1⟩:=id L;obtain⟨b2,X,hb2⟩:=id o;have d1:DV r nv (nmD ws dd):=(NmV.dt L).dv;have d2:DV r x (.tuple [.str (wA ws p.1),.int (p.2:Int)]):=(NmV.dt (d:=⟨p.1,p.2,[],.none,[]⟩) o).dv;have q1:=xAze W.wd (hw dd G) (hnm dd G);have q2:ShD (.tuple [.str (wA ws p.1),.int (p.2:Int)]):=xArq (W.wd _ (w_mem M)) (by have:=xAng (j:=p.1) (Z dd G);omega)
  have htk:(Hs.pastOf dd.hd ws.length).take (j+1)=(Hs.pastOf dd.hd ws.length).take j++[p]:=by rw[wq,ep];rfl
  subst eb1;subst X
  by_cases q:∃e∈es,e.who=p.1/\e.num=p.2
  ·obtain⟨e,B,U,n⟩:=q
   have O:NmV r ws (.ref b2) (nm e):=by rw[show nm e=p from Prod.ext U n];exact o
   obtain⟨v0,e0,h0⟩:=(td.same f).get nd hw up B;refine⟨_,Y,_,Y,tp,kvs,_,Y,I,O,_,Y,itF (by show(!(vG kvs (kD ws e)).isSome)=false;rw[e0];rfl) ?_⟩;refine⟨_,Y,_,Y,_,Y,tp,kvs,_,v0,Y,I,O,e0,v,v0,ws,dd,e,Y,da.mono f,h0,(by rw[a dd G];have:=W.few;omega),(by rw[a dd G,a e B]),λH4 b V hb=>?_⟩;rw[a dd G]at hb
   cases b with
   |true =>
    refine⟨_,Y,itF rfl ?_⟩;refine⟨_,Y,y.trans V,λp' k=>?_⟩;rw[htk,zb,qu]at k;rcases k with k |rfl
    ·exact c p' k
    ·exact⟨e,B,U,n,hb.mp rfl⟩
   |false =>
    refine⟨_,Y,itT rfl ?_⟩;refine⟨_,Y,_,b1,Y,d1.same V,q1,_,Y,_,b2,Y,d2.same V,q2,λv1=>⟨by show 1≤_;rw[sizeLine_eq];decide,ke (λg=>?_) H4 (f.trans V)⟩⟩;obtain⟨e',D,a1,a2,a3⟩:=g p C
    have:e'=e:=Classical.byContradiction λz=>by
     rcases xAjg up D B z with w|w
     ·exact w ⟨a1.trans U.symm,a2.trans n.symm⟩
     ·exact w ⟨U.trans a1.symm,n.trans a2.symm⟩
    subst this;exact absurd (hb.mpr a3) (by decide)
  ·refine⟨_,Y,_,Y,tp,kvs,_,Y,I,o,_,Y,itT (by show(!(vG kvs (kOf ws p.1 p.2)).isSome)=true;rw[(td.same f).no nd hw M λe B z=>q ⟨e,B,z⟩];rfl) ?_⟩
   refine⟨_,Y,_,b1,Y,d1,q1,_,Y,_,b2,Y,d2,q2,λv1=>⟨by show 1≤_;rw[sizeLine_eq];decide,ke (λg=>?_) r f⟩⟩;obtain⟨e',D,a1,a2,_⟩:=g p C;exact q ⟨e',D,a1,a2⟩
 ·rintro σ r ⟨u4,rfl,y,c⟩
  rw[an.1,wb]at c;exact kk c r (S.trans y)
def ok_fAy(T:Txt K mg tk)(F:FO K mg "_law_roll" s_fAy)(r:O_fAt P w K mg base)(p:O_fAz P w K mg base):O_fAy P w K mg base:=by
 refine mk_ok F xAha (λ_ _ _ _ _ _ u l=>match u,l with|[_],_=>rfl) (λ_ _ _ _ h=>xAvw h) λfa cdv A outer s H vs Q E hr h=>?_
 refine⟨_,(xAaa (sn xAha.nd 1 (cl r hr (a2 (vv 0) xAab)))
   (xAaa (sn xAha.nd 2 (xAao xAdt))
   (xAaa (fo (xAbu (by rfl) T.b_range (a1 (pe_op xAbc xAab (pe_op xAap (xl (vv 1)) xAab)))) (gn xAha.nd 3)
   (xAaa (sn xAha.nd 4 (cl p hr (a1 (xa (vv 1) (pe_op xAbc xAab (vv 3))))))
   (xAaa (fo (pi_str xAau) (gn xAha.nd 5)
   (xAad (ps_if (ck isq (vv 4) (vv 2)) (xAad (sn xAha.nd 4 (pe_op xAex (xAar xAvo (vv 4) xAax (xAav xAab)) (vv 5)))) xAal)))
   (xAad (ap (vv 2) (a1 (vv 4)))))))
   (xAad (xAak (vv 2)))))),?_⟩
 obtain⟨i,rfl,k⟩:=h;refine⟨_,Y,_,7,Y,by decide,λH1 p1 ns W g1 O hl=>?_⟩;refine⟨szOk rfl,λp2 H2 X R e2=>?_⟩;have d2:=O.mono R;obtain⟨B,h0⟩:=d2.get 0 (by decide);have N:H p2=none:=W.free X;have np:p1≠p2:=xAai O.at' X;have hm:0≤B % 5/\B % 5<5:=⟨Int.emod_nonneg _ (by decide),Int.emod_lt_of_pos _ (by decide)⟩
 refine⟨_,Y,p1,_,0,.int B,Y,Y,SqL.of d2.at',h0,_,_,Y,Y,(by show(0:Int)<5;decide),_,_,Y,Y,_,Y,by omega,by omega,xAcb (n:=(2+B % 5).toNat) (λj σ g=>∃(ws:List Str) (C L e:Option V),σ=[some (.int i),some (.ref p1),some (.ref p2),C,L,e]/\Same H g/\DR g p1 ns 7 ∧
  g p2=some (.lst (ws.map V.str))/\ws.length=j/\ws.Nodup/\∀w∈ws,IsW w) ⟨[],none,none,none,Y,W.trans R,d2,e2,Y,wm,λ_ z=>nomatch z⟩ ?_ ?_⟩
 ·rintro j σ g hj ⟨ws,C,L,e,rfl,I,q,t,hw,nd,f⟩
  have hj6:j<6:=by omega
  refine⟨_,Y,_,Y,_,_,Y,Y,p1,_,_,Y,Y,SqL.of q.at',by omega,by rw[qc,hl];omega,λv hv=>?_⟩;obtain⟨m,_,rfl⟩:=qj.mp hv;refine⟨m,Y,λz hz=>?_⟩
  refine⟨_,Y,xAvl (z:="abcdefgh") (λc σ D=>∃(w:Str) (e:Option V),σ=[some (.int i),some (.ref p1),some (.ref p2),some (.int (0+(j:Int))),some (.str w),e]/\D=g/\IsW w/\Chain ws c w)
   ⟨z,_,Y,Y,hz,xAkt ws z⟩ ?_ ?_⟩
  ·rintro c ch σ D U ⟨w,e,rfl,rfl,a,d⟩
   have M:c<8:=by
    have:=(vq.mp U).1
    have Z:("abcdefgh":Str).cps.size=8:=by decide +kernel
    omega
   have G:ch=97+c:=abc_at M U;have J:w.length≤sizeLine:=ze (xAag (show w.cps.size≤1000 from qh a.2.1 (by decide)));refine⟨_,Y,_,Y,p2,_,Y,.inl (SqL.of t),Y,xAoq ws,_,Y,?_⟩
   show if inV (.str w) (ws.map V.str)=true then _ else _
   rw[xAsm];refine ite2 (λb=>?_) λb=>?_
   ·have b:w∈ws:=qG b
    refine⟨_,Y,_,Y,w,Y,J,?_⟩;have S:=xAsl a (c:=ch) (by omega);refine⟨_,Y,_,_,Y,Y,?_,?_⟩
    ·have h1:(⟨#[ch]⟩:Str).length=1:=rfl
     have h2:(cutS w none (some 7)++⟨#[ch]⟩:Str).cps.size=(cutS w none (some 7)).cps.size+1:=xAkg _ _;have h3:(cutS w none (some 7)).length=(cutS w none (some 7)).cps.size:=rfl;have:=xAag (n:=(cutS w none (some 7)).length+1) (by have:=S.2.1;omega);omega
    ·refine⟨_,_,Y,Y,S,?_⟩
     rw[G];exact xAku d b
   ·exact⟨w,_,Y,Y,a,.inl (λz=>b (qF z))⟩
  ·rintro σ D ⟨w,e,rfl,rfl,a,d⟩
   have o:w∉ws:=by
    have Z:("abcdefgh":Str).cps.size=8:=by decide +kernel
    rw[Z]at d;exact xAop d (by omega)
   refine⟨_,Y,.inl ⟨Y,_,SqL.of t⟩,_,Y,p2,_,_,Y,Y,t,(by rw[qc];exact xAag (by omega)),?_⟩
   refine⟨ws++[w],_,_,_,Y,I.wr N,⟨by rw[xAaf np];exact q.at',q.len,q.few⟩,by rw[xAac,z0];rfl,by rw[qm,zk,hw],xAkv nd o,λx hx=>by
    rcases zb.mp hx with y|y
    ·exact f x y
    ·rw[qu.mp y];exact a⟩
 ·rintro σ g ⟨ws,C,L,e,rfl,I,q,t,hw,nd,f⟩
  exact⟨_,Y,k g p2 ws I N ⟨t,by omega,by omega,f⟩ (by omega) nd⟩
def ok_fBb(T:Txt K mg tk)(F:FO K mg "_law_part" s_fBb)(a:O_fBa P w K mg base):O_fBb P w K mg base:=by
 refine mk_ok F sc_fBb (λ_ _ _ _ _ _ u l=>match u,l with|[_,_],_=>rfl) (λ_ _ _ _ h=>xAvy h) λfa b A outer s H vs Q E f h=>?_
 refine⟨_,(xAaa (ps_if (ck op_eq (pe_op xAap (vv 0) xAab) xAab) (xAad (xAak (xAaj (a2 xAau xAab)))) xAal)
   (xAad (xAak (cl a f (a2 (pe_op xAaq (vv 0) xAab) (vv 1)))))),?_⟩
 obtain⟨i,p,ws,rfl,j,k⟩:=h;refine⟨_,Y,_,_,Y,Y,(by show(0:Int)<3;decide),Y,_,Y,?_⟩;refine ite2 (λ_=>?_) λ_=>?_
 ·exact⟨szOk rfl,λq H1 g s e=>k H1 (.ref q) _ s (.tup e (.cons (.str _) (.cons (.int _) .nil))) ⟨_,Y,.inl rfl⟩⟩
 ·exact⟨_,Y,_,_,Y,Y,⟨by decide,by decide⟩,_,Y,_,p,ws,Y,j,λH1 v d m dv c=>k H1 v d m dv (let⟨ds,e,hn⟩:=c;⟨ds,e,.inr hn⟩)⟩
def ok_fAg(T:Txt K mg tk)(F:FO K mg "_law_sign_name" s_fAg)(a:O_fBa P w K mg base):O_fAg P w K mg base:=by
 refine mk_ok F sc_fAg (λ_ _ _ _ _ _ u l=>match u,l with|[_,_],_=>rfl) (λ_ _ _ _ h=>xAvz h) λfa z A outer s H vs Q E M h=>?_;refine⟨_,(xAad (xAak (pe_op xAde (cl a M (a2 (pe_op xAaq (vv 0) xAab) (vv 1))) (xAaj (a1 (xa (xAao (a2 (pe_op xAap (pe_op xAaq (vv 0) xAab) xAab) (pe_op xAit xAab xAab))) (cy xAbv T.b_int boot_int (a1 (ce op_eq (pe_op xAap (vv 0) xAab) xAab))))))))),?_⟩;obtain⟨i,p,ws,rfl,N,k⟩:=h;refine⟨_,Y,_,_,Y,Y,⟨by decide,by decide⟩,_,Y,_,p,ws,Y,N,λH1 v d G dv L=>?_⟩;obtain⟨ds,rfl,w,n,rfl,hw,n1,n2⟩:=L;obtain⟨q,xs,rfl,C,f⟩:=dv_tup dv
 cases f with
 |cons x t =>
 cases t with
 |cons I t =>
 cases t;cases dv_str x;cases dv_int I;refine⟨_,Y,_,_,Y,Y,⟨by decide,by decide⟩,_,_,Y,Y,(by show(0:Int)<12;decide),_,_,Y,Y,⟨by decide,by decide,by decide⟩,szOk rfl,λr H2 W b y=>?_⟩;refine⟨_,Y,_,_,Y,Y,(by show(0:Int)<24;decide),Y,.inr ⟨_,Y,?_⟩⟩;refine⟨r,_,_,Y,Y,SqL.of y,xAks _,xAfd _,λv e=>?_⟩
 obtain⟨m,rfl,J,B⟩:∃m,v=V.int m/\0≤m/\m≤1000000:=by
  simp only[List.mem_cons,List.not_mem_nil,or_false]at e
  rcases e with rfl|rfl
  ·exact⟨_,Y,xAay _ (by decide),by have:=xAaz (i / 2) (m:=12) (by decide);omega⟩
  ·exact⟨_,Y,by decide,by decide⟩
 refine⟨szOk rfl,λj X S c R=>?_⟩;refine⟨q,j,_,_,Y,Y,SqT.of ((b.trans c) _ _ C),SqT.of R,by simp,by simp,szOk rfl,λD o U g O=>?_⟩;exact k o (.ref D) _ (((G.trans b).trans c).trans g) (.tup O (.cons (.str w) (.cons (.int n) (.cons (.int m) .nil)))) ⟨_,Y,w,n,m,Y,hw,n1,n2,J,B⟩
def ok_fAm(T:Txt K mg tk)(F:FO K mg "_law_branch" s_fAm)(a:O_fAz P w K mg base):O_fAm P w K mg base:=by
 refine mk_ok F sc_fAm (λ_ _ _ _ _ _ u l=>match u,l with|[_,_],_=>rfl) (λ_ _ _ _ h=>xAwc h) λfa c A outer s H vs Q E d h=>?_
 refine⟨_,(xAaa (ps_if (ck op_eq (pe_op xAap (vv 0) xAab) xAab) (xAad (xAak xAfv)) xAal)
   (xAad (xAak (xAaj (a2 (xa (vv 1) (pe_op xAap (pe_op xAaq (vv 0) xAab) (cb xAam T.b_len boot_len (a1 (vv 1))))) (cl a d (a1 (pe_op xAaq (vv 0) xAab)))))))),?_⟩
 obtain⟨i,p,ws,rfl,b,k⟩:=h;refine⟨_,Y,_,_,Y,Y,(by show(0:Int)<2;decide),Y,_,Y,?_⟩;refine ite2 (λ_=>?_) λ_=>?_
 ·exact k H .non _ (Same.refl H) .non (.inl rfl)
 ·refine⟨_,Y,_,Y,_,_,Y,Y,⟨by decide,by decide⟩,_,Y,p,_,Y,.inl (SqL.of b.at'),_,_,Y,Y,b.len.1,p,_,_,Y,Y,SqL.of b.at',xAay _ b.len.1,xAaz _ b.len.1,λv f=>?_⟩
  obtain⟨w,hw,rfl⟩:=qj.mp f;refine⟨_,Y,_,_,Y,Y,⟨by decide,by decide⟩,_,Y,λz hz=>?_⟩;exact⟨szOk rfl,λq H1 g s e=>k H1 (.ref q) _ s (.tup e (.cons (.str w) (.cons (.str z) .nil))) (.inr ⟨w,z,Y,hw,hz⟩)⟩
def ok_fAj(T:Txt K mg tk)(F:FO K mg "_law_spoiled" s_fAj)(N:O_fAc P w K mg base):O_fAj P w K mg base:=by
 refine mk_ok F xAdr (λ_ _ _ _ _ _ u l=>match u,l with|[_,_,_],_=>rfl) (λ_ _ _ _ h=>xAzk h) λfa cdv A outer s H vs Q E hr h=>?_
 refine⟨_,(xAaa (sn xAdr.nd 3 (pe_op xAap (na 2) xAab))
   (xAaa (sn xAdr.nd 4 (pe_op xAap (pe_op xAaq (na 2) xAab) (cb xAam T.b_len boot_len (a1 (na 0)))))
   (xAaa (sn xAdr.nd 5 (pe_op xAaq (na 2) xAab))
   (xAaa (ps_if (ck op_eq (na 3) xAab) (xAad (xAak (pe_op xAcq (xAar xAaw (na 0) xAax (xAav (na 4))) (xAar xAaw (na 0) (xAav (pe_op xAbc (na 4) xAab)) xAax)))) xAal)
   (xAaa (ps_if (ck op_eq (na 3) xAab) (xAaa (xAis (xa (na 0) (na 4)) (gt (xAan (gn xAdr.nd 6) (xAan (gn xAdr.nd 7) (xAan (gn xAdr.nd 8) (xAan (gn xAdr.nd 9) (xAan (gn xAdr.nd 10) xAca)))))))
   (xAaa (sn xAdr.nd 11 (xa (xAao (a2 xAfv (xAaj (a2 (xl (na 1)) xAau)))) (cy xAbv T.b_int boot_int (a1 (ce op_isN (na 9) xAfv)))))
   (xAaa (sn xAdr.nd 12 (xAao (ac (xAaj (ac (na 6) (ac (na 7) (ac (na 8) (a2 (na 9) (xAaj (a2 xAau xAau))))))) (a2 (xa (na 0) (na 4)) (xAaj (ac (na 6) (ac (na 7) (ac (na 8) (a2 (na 11) (na 10))))))))))
   (xAad (xAak (pe_op xAcq (na 0) (xAao (a1 (xa (na 12) (pe_op xAap (na 5) xAab)))))))))) xAal)
   (xAaa (ps_if (ck op_eq (na 3) xAab) (xAad (xAak (pe_op xAcq (pe_op xAcq (xAar xAaw (na 0) xAax (xAav (na 4))) (xAao (a1 (cl N hr (ac (xa (na 0) (na 4)) (ac (na 1) (a2 (na 5) (na 0)))))))) (xAar xAaw (na 0) (xAav (pe_op xAbc (na 4) xAab)) xAax)))) xAal)
   (xAad (xAak (pe_op xAcq (pe_op xAcq (xAar xAaw (na 0) xAax (xAav (na 4))) (xAao (a1 (cl N hr (ac (xa (na 0) (na 4)) (ac (na 1) (a2 (na 5) (na 0)))))))) (xAar xAaw (na 0) (xAav (na 4)) xAax)))))))))),?_⟩
 obtain⟨dp,rp,n,ws,des,fs,rfl,rl,nd,c,M,hpos,y,W,X,kk⟩:=h;have few6:=rl.few;have hdl:des.length=fs.length:=M.1;have lz:=xAag (qd 1000);have G:=rl.wd
 have num1:∀d∈fs,1≤d.num:=λd hd=>by have:=W.own d hd;omega
 have sm:∀d∈fs,∀n∈d.hd,n≤100:=λd hd n hn=>qh (xAcn W hd hn) (by omega)
 have gd:∀d∈fs,Gd ws d:=λd hd=>gd_of G (W.who d hd) (X d hd).1 (X d hd).2
 have I:∀v∈des,∃d∈fs,Hs.DeedAt H ws v d:=λv hv=>by
  obtain⟨i,hi,e⟩:=zn hv;obtain⟨d,ed,da⟩:=M.at (qf hi);rw[e]at da;exact⟨d,qo ed,da⟩
 have fin:∀H' p t fs' d d',Same H H'->H p=none->H' p=some (.lst t)->A2 (Hs.DeedAt H' ws) t fs'->d∈fs->Alt ws d d'->(∀a∈fs',a∈fs\/a=d')->fs'.length≤63->Q (.ref p) H':=λH' p t fs' d d' s g e a hd al sub hl=>kk H' p t fs' s g e a (d5_of nd G W X y hd al sub hl);refine⟨_,_,Y,Y,(by show(0:Int)<4;decide),?_⟩;refine⟨_,_,Y,Y,⟨by decide,by decide⟩,dp,_,Y,.inl (SqL.of c),_,_,Y,Y,(by show(0:Int)<(des.length:Int);omega),?_⟩;refine⟨_,_,Y,Y,⟨by decide,by decide⟩,?_⟩
 have hdz:(0:Int)<(des.length:Int):=by omega
 obtain⟨m,cat⟩:=Int.eq_ofNat_of_zero_le (xAay (n / 4) hdz)
 have hi0:m<des.length:=by
  have:=xAaz (n / 4) hdz;rw[cat]at this;exact Int.ofNat_lt.mp this
 rw[cat];have c1:((m:Int)+1)=((m+1:Nat):Int):=rfl;obtain⟨d0,D,_⟩:=I des[m] (wn hi0);refine⟨Y,_,Y,ite2 (λ_=>?_) (λ_=>?_)⟩
 ·refine⟨_,Y,dp,_,Y,SqL.of c,λp1 H1 g1 B e1=>?_⟩
  refine⟨_,_,Y,Y,_,Y,dp,_,Y,SqL.of (B _ _ c),λp2 H2 g2 R e2=>?_⟩;rw[c1,xAdl (by omega)]at e2;rw[xAcl (by omega)]at e1;refine⟨p1,p2,_,_,Y,Y,R _ _ e1,e2,(by rw[zj,zo];omega),λp3 H3 g3 U e3=>?_⟩;have s03:=(B.trans R).trans U;refine fin H3 p3 _ (fs.take m++fs.drop (m+1)) d0 d0 s03 ((B.trans R).free g3) e3 ((M.take m).app (M.drop (m+1))|>.imp λ_ _ _ g=>g.mono s03) D (xAnl (W.len d0 D) (W.own d0 D) (sm d0 D) (gd d0 D)) (λa ha=>.inl ?_) (by rw[qm,zj,zo];omega);rcases zb.mp ha with h|h
  ·exact vk h
  ·exact jv h
 refine⟨Y,_,Y,ite2 (λ_=>?_) (λ_=>?_)⟩
 ·refine⟨dp,_,_,Y,Y,SqL.of c,Int.natCast_nonneg _,(by omega),λv hv=>?_⟩
  obtain⟨d,hd,da⟩:=I v hv;obtain⟨q,w0,hq,b,x,rfl,hw0,o1,o2,dtb,dtx⟩:=id da;refine⟨q,_,Y,SqT.of o1,Y,_,_,Y,_,_,Y,_,_,Y,_,_,Y,_,_,Y,Y,?_⟩;refine⟨rp,_,0,.str (wA ws 0),Y,Y,SqL.of rl.at',?_,szOk rfl,λt1 H1 g1 B e1=>⟨szOk rfl,λt2 H2 g2 R e2=>?_⟩⟩
  ·show atI (ws.map V.str) ((0:Nat):Int)=_
   exact xAbq (by rw[qi,w_at (z9 (qk _) (W.who d hd))];rfl)
  refine⟨Y,.inr ⟨_,Y,t2,_,_,Y,Y,SqL.of e2,(by split <;> decide),(by show _<(2:Int);split <;> decide),λov hov=>?_⟩⟩;have s02:=B.trans R
  obtain⟨r,dtv,hbr,hbe⟩:∃r,DT H2 ov r/\BrD ws r/\(PyData.eqv r d.br=true\/PyData.eqv d.br r=true->r=d.br):=by
   simp only[List.mem_cons,List.not_mem_nil,or_false]at hov
   rcases hov with rfl|rfl
   ·exact⟨.none,.non,.inl rfl,xAzm⟩
   ·exact⟨_,.tup (R _ _ e1) (.cons (.str _) (.cons (.str _) .nil)),.inr ⟨_,_,Y,w_mem (z9 (qk _) (W.who d hd)),isW_a⟩,xAuh⟩
  refine⟨szOk rfl,λa1 H3 g3 U e3=>⟨szOk rfl,λa2 H4 g4 s4 e4=>⟨dp,_,_,Y,Y,SqL.of (((s02.trans U).trans s4) _ _ c),Int.natCast_nonneg _,(by omega),λv2 hv2=>⟨szOk rfl,λa3 H5 g5 L O=>⟨szOk rfl,λa4 H6 g6 s6 e6=>?_⟩⟩⟩⟩⟩;have s26:=((U.trans s4).trans L).trans s6;have z:=s02.trans s26;refine⟨_,_,Y,Y,(by show(0:Int)<3;decide),a4,_,_,Y,Y,SqL.of e6,xAay _ (by decide),xAaz _ (by decide),λv3 hv3=>⟨szOk rfl,λa5 H7 g7 s7 e7=>⟨dp,a5,_,_,Y,Y,(z.trans s7) _ _ c,e7,(by show des.length+1≤_;omega),λp8 H8 g8 s8 e8=>?_⟩⟩⟩;have s07:=z.trans s7;have o:=s07.trans s8;have Z:=s7.trans s8
  have mk:∀d1 d',d1∈fs->Alt ws d1 d'->Hs.DeedAt H8 ws v3 d'->Q (.ref p8) H8:=λd1 d' h1 al da'=>fin H8 p8 _ (fs++[d']) d1 d' o (s07.free g8) e8 ((M.imp λ_ _ _ g=>g.mono o).app (A2.one da')) h1 al (λa ha=>(zb.mp ha).imp id λh=>qu.mp h) (by rw[qm];show fs.length+1≤63;omega)
  have hm:=hv3
  simp only[List.mem_cons,List.not_mem_nil,or_false]at hm
  have who:=W.who d hd;rcases hm with rfl|rfl|rfl
  ·have k48:=(L.trans s6).trans Z
   exact mk d { d with wt:=[.str "bring",.str "a"] } hd (alt_wt (W.len d hd) (W.own d hd) (sm d hd) (gd_of G who (X d hd).1 (.bring _ _ (.inl rfl) isW_a))) ⟨a2,w0,hq,b,.ref a1,Y,hw0,k48 _ _ e4,o _ _ o2,dtb.same o,.tup ((s4.trans k48) _ _ e3) (.cons (.str _) (.cons (.str _) .nil))⟩
  ·obtain⟨d2,C,da2⟩:=I v3 hv2
   exact mk d2 d2 C (xAnl (W.len d2 C) (W.own d2 C) (sm d2 C) (gd d2 C)) (da2.mono o)
  ·exact mk d { d with br:=r } hd (alt_br (W.len d hd) (W.own d hd) (sm d hd) (gd_of G who hbr (X d hd).2) hbe) ⟨a3,w0,hq,ov,x,Y,hw0,(s6.trans Z) _ _ O,o _ _ o2,dtv.same (s26.trans Z),dtx.same o⟩
 have chg:∀d f ,d∈fs->f.length=ws.length->Hs.at0 f d.who+1=d.num->(∀k,(∀e∈fs,∀n∈e.hd,n≤k)->(∀n∈d.hd,n≤k)->d.num≤k+3->∀n∈f,n≤k+3)->Alt ws d { d with hd:=f }:=λd f hd l ow S=>alt_hd l ow (λn hn=>qh (S 62 (λe he n hn=>qh (xAcn W he hn) y) (λn hn=>qh (xAcn W hd hn) y) (by have:=W.own d hd;have:=xAng (j:=d.who) (λn hn=>qh (xAcn W hd hn) y);omega) n hn) (by decide)) (gd_of (d:={ d with hd:=f }) G (W.who d hd) (X d hd).1 (X d hd).2)
 refine⟨Y,_,Y,ite2 (λ_=>?a) (λ_=>?b)⟩
 all_goals
  refine⟨_,Y,dp,_,Y,SqL.of c,λp1 H1 g1 B e1=>?_⟩;refine⟨dp,_,_,Y,Y,SqL.of (B _ _ c),Int.natCast_nonneg _,(by omega),λv hv=>?_⟩;obtain⟨d,hd,da⟩:=I v hv;refine⟨v,rp,n / 100,dp,ws,d,des,fs,Y,da.mono B,rl.mono B,nd,B _ _ c,M.imp λ_ _ _ g=>g.mono B,hpos,by omega,W.len d hd,W.len,num1 d hd,λH2 u f R du l2 ow S=>⟨szOk rfl,λa2 H3 g3 U e3=>?_⟩⟩;have s13:=R.trans U;rw[xAcl (by omega)]at e1;refine⟨p1,a2,_,_,Y,Y,s13 _ _ e1,e3,(by rw[zj];show _+1≤_;omega),λp4 H4 g4 s4 e4=>?_⟩;have J:=(B.trans s13).trans s4
 case' a =>
  refine⟨_,_,Y,Y,_,Y,dp,_,Y,SqL.of (J _ _ c),λp5 H5 g5 L O=>?_⟩;rw[c1,xAdl (by omega)]at O;have hk:m+1≤m+1:=qd _;generalize hk0:m+1=k0 at O hk
 case' b =>
  refine⟨_,Y,dp,_,Y,SqL.of (J _ _ c),λp5 H5 g5 L O=>?_⟩;rw[xAdl (by omega)]at O;have hk:m≤m+1:=we _;generalize hk0:m=k0 at O
 all_goals
  refine⟨p4,p5,_,_,Y,Y,L _ _ e4,O,(by rw[qm,zj,zo];show _+1+_≤_;omega),λp6 H6 g6 s6 e6=>?_⟩;have z:=(J.trans L).trans s6;refine fin H6 p6 _ (fs.take m++[{ d with hd:=f }]++fs.drop k0) d _ z ((J.trans L).free g6) (by rw[e6]) (((M.take m).imp λ_ _ _ g=>g.mono z).app (A2.one (du.mono (((U.trans s4).trans L).trans s6)))|>.app ((M.drop k0).imp λ_ _ _ g=>g.mono z)) hd (chg d f hd l2 ow S) (λa ha=>?_) (by rw[qm,qm,zj,zo];show _+1+_≤_;omega);rcases zb.mp ha with h|h
  ·rcases zb.mp h with h|h
   ·exact .inl (vk h)
   ·exact .inr (qu.mp h)
  ·exact .inl (jv h)
def ok_fAo(T:Txt K mg tk)(F:FO K mg "heights_of" s_fAo)(gfAf:O_fAf P w K mg base)(gfAs:O_fAs P w K mg base)(gfBf:O_fBf P w K mg base):O_fAo P w K mg base:=by
 refine mk_ok F xApy (λ_ _ _ _ _ _ u l=>match u,l with|[_,_],_=>rfl) (λ_ _ _ _ h=>xAyg h) λfa cdv A outer s H vs Q E hr h=>?_
 refine⟨_,(xAaa (sm xApy.nd 2 xAlq)
   (xAaa (fo (il (soV gfAf hr T.b_sorted boot_sorted (vv 1))) (gn xApy.nd 3)
   (xAaa (xAvh (i:=4) xApy.nd rfl (Or.inl rfl) (own:=["name"]) (fr:=[("heights",2)]) rfl (il (cl gfAs hr (a2 (vv 0) (vv 3)))) ⟨Y,by decide +kernel,by decide +kernel⟩ (xAki (defScope s_fAo) ["roll","told","heights","deed","below"] rfl rfl (λ_ h=>xAeg h) (by decide +kernel) (by decide +kernel) (by decide +kernel)) (λ_ _ _=>(xAbp (i:=0) (by show List.Nodup (["name","heights"]:List Str);decide +kernel) rfl (Or.inl rfl))) (λ_=>xAdb rfl) (λ_ _ _=>xAbr) (λ_ _ _=>(xAck (hu2 hr) (vc 1) (vv 0) (λ_ _=>rfl))))
   (xAad (xAgj (hu2 hr) (vc 2) (cl gfBf hr (a1 (vv 3))) (pe_op xAbc xAab (xAxi rfl (by rfl) T.b_max boot_max (a1 (vv 4)) xAab)) rfl))))
   (xAad (xAak (vc 2))))),?_⟩
 obtain⟨rp,tp,ws,hn,es,kvs,rfl,rl,rd,td,sw,kk⟩:=h;obtain⟨nd,W,hg,gd,few⟩:=id sw;intro f H1 g1 s1 R;have td1:=td.same s1;have hkl:kvs.length=es.length:=td.1;refine⟨_,Y,tp,kvs,es.map λd=>PyData.int (d.hd.sum:Nat),0,Y,Rd.same rd s1,by rw[qc,hkl],?_,⟨by omega,.inl (by omega)⟩,?_,?_⟩
 ·have:=xApo (es.map λd=>d.hd.sum)
  rw[wa]at this;exact this
 ·intro m y dd H' Q' D J s q
  rw[qi]at D J
  cases o:kvs[m]? with
  |none=>rw[o]at D;cases D
  |some x0 =>
   rw[o]at D;cases D;obtain⟨e,ee,_,_,da⟩:=td1.at o;rw[ee]at J;cases J;have I:=qo ee;exact⟨_,ws,e,Y,da.mono s,by rw[W.len e I];exact rl.few,λn h=>qh (xAcn W I h) (by omega),q H' _ (Same.refl _) (.int _)⟩
 intro sq H2 ix g2 s2 six Z;obtain⟨U,so⟩:=xAmj six ⟨0,0,[],.none,[]⟩
 have hix:∀i∈ix,i<es.length:=λi hi=>by
  have:=(six.1.mem_iff).mp hi
  rwa [zm,qc]at this
 have vo:A2 (Hs.DeedAt H2 ws) (kvs.map (·.2.2)) es:=⟨by rw[qc,hkl],λi x y R Z=>by
  rw[qi]at R
  cases o:kvs[i]? with
  |none=>rw[o]at R;cases R
  |some x0=>rw[o]at R;cases R;exact(td1.2 i x0 y o Z).2.2.mono s2⟩
 have ao:=vo.ix (a:=V.non) (b:=(⟨0,0,[],.none,[]⟩:Hs.Dd)) ix hix;generalize (ix.map λi=>es.getD i (⟨0,0,[],.none,[]⟩:Hs.Dd))=os at U so ao;generalize (ix.map λi=>(kvs.map (·.2.2)).getD i V.non)=zs at Z ao;have hol:os.length=es.length:=U.length_eq;refine⟨sq,Y,⟨_,SqL.of Z⟩,xAcg (xs:=zs) (λj σ M=>∃c u3 u4,σ=[some (.ref rp),some (.ref tp),some (.ref f),u3,u4]/\Same H M/\M sq=some (.lst zs)/\A2 (Hs.DeedAt M ws) zs os/\M f=some (.dG c)/\HD ws hn (os.take j) c/\c.length≤j) ⟨[],_,_,Y,s1.trans s2,Z,ao,s2 _ _ R,(λ_ h=>absurd h y7),qd _⟩ (λj σ M _ ⟨_,_,_,_,_,e,_⟩=>SqL.of e) ?_ ?_⟩
 ·rintro j x σ M hx ⟨c,u3,u4,rfl,s3,o,S,N,J,hvl⟩
  obtain⟨dd,X,da⟩:=S.at hx;have hj:j<os.length:=(qy.mp X).1;have I:dd∈es:=U.mem_iff.mp (qo X)
  have htk:os.take (j+1)=os.take j++[dd]:=by rw[wq,X];rfl
  have few6:=rl.few;refine⟨_,Y,_,Y,rp,x,ws,dd,Y,rl.mono s3,da,W.len dd I,λH4 lp ns s4 g4 e4 an=>?_⟩
  have npl:ns.length≤6:=by
   rw[an.1];unfold Hs.pastOf;rw[qc];exact qh (j8 _ _) (by rw[vj];exact few6)
  have back:∀p∈Hs.pastOf dd.hd ws.length,vG c (kOf ws p.1 p.2)=some (.int (hn p.1 p.2:Nat)):=λp hp=>by
   obtain⟨e,he,a1,a2,_,hlt⟩:=W.last (W.len dd I) (W.past dd I) hp;rw[←a1,←a2];refine J e ?_;obtain⟨i,hi,ei⟩:=zn (U.mem_iff.mpr he)
   have hij:i<j:=by
    refine Nat.lt_of_not_le λz=>?_;rcases yu z with z|z
    ·have:=wz.mp so j i hj hi z
     rw[ei,(qy.mp X).2]at this;omega
    ·subst z
     rw[(qy.mp X).2]at ei;rw[ei]at hlt;omega
   rw[←ei];exact List.mem_take_iff_getElem.mpr ⟨i,by omega,Y⟩
  refine⟨lp,Y,⟨_,SqL.of e4⟩,lc_A3 (α:=Nat×Nat) (λH v p=>NmV H ws v p) (λ_ v p=>v=.int (hn p.1 p.2:Nat)) (λ_ _ _ _ s g=>xAbe s g) (λ_ _ _ _ _ g=>g) (SqL.of e4) (by omega) an ?_ ?_⟩
  ·intro y p H5 K1 hp s5 D k1
   exact⟨_,Y,_,Y,f,c,_,_,Y,.of (s5 _ _ (s4 _ _ N)),D,back p hp,k1 _ _ (Same.refl _) rfl⟩
  ·intro H5 bp zs' s5 g5 e5 an5
   have ezs:zs'=((Hs.pastOf dd.hd ws.length).map λp=>((hn p.1 p.2:Nat):Int)).map V.int:=by
    apply zy;intro i;rw[qi,qi]
    cases q:(Hs.pastOf dd.hd ws.length)[i]? with
    |none=>rw[wo (by rw[an5.1];exact mf.mp q)];rfl
    |some p=>obtain⟨y,ey,D⟩:=an5.to q;rw[ey,D];rfl
   have t:=s4.trans s5;have hks:c.length<sizeLine:=xAag (by omega)
   have put:∀C G,Same H5 C->NmV C ws G (nm dd)->∃B u3 u4,([some (.ref rp),some (.ref tp),some (.ref f),some x,some (.ref bp)]:L2.St)=[some (.ref rp),some (.ref tp),some (.ref f),u3,u4]/\Same H (upd C f (.dG (pG c (kD ws dd) G (.int (hn dd.who dd.num:Nat)))))/\(upd C f (.dG (pG c (kD ws dd) G (.int (hn dd.who dd.num:Nat))))) sq=some (.lst zs)/\A2 (Hs.DeedAt (upd C f (.dG (pG c (kD ws dd) G (.int (hn dd.who dd.num:Nat))))) ws) zs os/\(upd C f (.dG (pG c (kD ws dd) G (.int (hn dd.who dd.num:Nat))))) f=some (.dG B)/\HD ws hn (os.take (j+1)) B/\B.length≤j+1:=λC G O k=>by
    have L:=t.trans O;have eg6:=L _ _ N;refine⟨_,_,_,Y,(s3.trans L).wr g1,?_,S.imp λ_ _ _ g=>(g.mono L).wr eg6 dG_no,xAac,λe he=>?_,qh (xAow c _ _ _) (wc hvl)⟩
    ·rw[xAaf (λz=>by rw[z,N]at o;cases o)]
     exact L _ _ o
    ·rw[vG_put]
     rw[htk,zb,qu]at he
     by_cases q:kD ws e=kD ws dd
     ·rw[qt q]
      have hme:e∈es:=he.elim (λz=>U.mem_iff.mp (vk z)) λz=>by rw[z];exact I
      have:=xAij nd (W.who e hme) (W.who dd I) q;rw[this.1,this.2]
     ·rw[qs q]
      exact he.elim (λz=>J e z) λz=>absurd (by rw[z]) q
   have hH:=hg dd I;refine⟨_,Y,bp,_,Y,SqL.of (by rw[e5,ezs]),λhnil=>?_,λm hmm hmx=>?_⟩
   ·refine⟨_,_,Y,Y,_,Y,_,Y,x,ws,dd,Y,da.mono t,λC G O k=>⟨f,c,_,Y,O _ _ (t _ _ N),k,hks,?_⟩⟩
    have e0:Hs.pastOf dd.hd ws.length=[]:=List.map_eq_nil_iff.mp hnil;rw[e0]at hH;have:=put C G O k;rw[hH]at this;exact this
   ·refine⟨_,_,Y,Y,_,Y,_,Y,x,ws,dd,Y,da.mono t,λC G O k=>⟨f,c,_,Y,O _ _ (t _ _ N),k,hks,?_⟩⟩
    have em:(hn dd.who dd.num:Nat)=1+m:=by
     obtain⟨p,hp,rfl⟩:=qj.mp hmm;have h1:=Hs.le_maxL (qj.mpr ⟨p,hp,Y⟩:hn p.1 p.2∈(Hs.pastOf dd.hd ws.length).map λp=>hn p.1 p.2)
     have h2:Hs.maxL ((Hs.pastOf dd.hd ws.length).map λp=>hn p.1 p.2)≤hn p.1 p.2:=Hs.foldl_max_le.mpr ⟨qk _,λy D=>by
      obtain⟨r,hr',rfl⟩:=qj.mp D
      exact Int.ofNat_le.mp (hmx _ (qj.mpr ⟨r,hr',Y⟩))⟩
     omega
    have:=put C G O k;rw[em]at this;exact this
 ·rintro σ M ⟨c,u3,u4,rfl,s3,o,S,N,J,hvl⟩
  rw[show zs.length=os.length from ao.1,wb]at J;exact⟨_,Y,kk M f c s3 g1 N λd hd'=>J d (U.mem_iff.mpr hd')⟩
def ok_fAv(T:Txt K mg tk)(F:FO K mg "_law_side" s_fAv)(a:O_fAg P w K mg base):O_fAv P w K mg base:=by
 refine mk_ok F sc_fAv (λ_ _ _ _ _ _ u l=>match u,l with|[_,_],_=>rfl) (λ_ _ _ _ h=>xAwa h) λfa g A outer s H vs Q E q h=>?_;refine⟨_,(xAad (xAak (xAaj (a2 (cl a q (a2 (pe_op xAaq (vv 0) xAab) (vv 1))) (xa (xAao (a2 xAau xAau)) (pe_op xAap (vv 0) xAab)))))),?_⟩;obtain⟨i,p,ws,rfl,t,k⟩:=h;refine⟨_,Y,_,_,Y,Y,⟨by decide,by decide⟩,_,Y,_,p,ws,Y,t,λH1 v d y dv o=>?_⟩;obtain⟨ds,rfl,hn⟩:=o;refine⟨szOk rfl,λr H2 C b f=>?_⟩;refine⟨_,Y,_,_,Y,Y,(by show(0:Int)<2;decide),r,_,_,Y,Y,SqL.of f,xAay _ (by decide),xAaz _ (by decide),λm e=>?_⟩
 obtain⟨z,rfl,hz⟩:∃z:Str,m=.str z/\(z = "ahead" \/ z = "behind"):=by
  simp only[List.mem_cons,List.not_mem_nil,or_false]at e
  rcases e with rfl|rfl
  ·exact⟨_,Y,.inl rfl⟩
  ·exact⟨_,Y,.inr rfl⟩
 exact⟨szOk rfl,λj n B c x=>k n (.ref j) _ ((y.trans b).trans c) (.tup x (.cons (dv.same (b.trans c)) (.cons (.str z) .nil))) ⟨ds,z,Y,hn,hz⟩⟩
def ok_fAw(T:Txt K mg tk)(F:FO K mg "_law_sign" s_fAw)(a:O_fBb P w K mg base)(b:O_fAz P w K mg base):O_fAw P w K mg base:=by
 refine mk_ok F xAzq (λ_ _ _ _ _ _ u l=>match u,l with|[_,_],_=>rfl) (λ_ _ _ _ h=>xAwb h) λfa n A outer s H vs Q E j h=>?_
 refine⟨_,(xAaa (sn xAzq.nd 2 (pe_op xAap (vv 0) xAab))
   (xAaa (ps_if (ck op_lt (vv 2) xAab) (xAad (xAak (pe_ix xAvd xAau (vv 2) (λ_ _=>rfl)))) xAal)
   (xAaa (ps_if (ck op_eq (vv 2) xAab) (xAad (xAak (xAaj (a2 xAau (cl b j (a1 (pe_op xAaq (vv 0) xAab))))))) xAal)
   (xAad (xAak (xAaj (a2 xAau (cl a j (a2 (pe_op xAaq (vv 0) xAab) (vv 1)))))))))),?_⟩
 obtain⟨i,p,ws,rfl,r,k⟩:=h;refine⟨_,Y,_,_,Y,Y,(by show(0:Int)<31;decide),?_⟩;refine⟨_,Y,_,_,Y,Y,_,Y,?_⟩;refine ite2 (λh1=>?_) λ_=>?_
 ·have h1:i % 31<29:=qG h1
  obtain⟨c,f⟩:=xAvi ("abcdefghijklmnopqrstuvwxyz .,":Str).cps.toList (i % 31) (xAay _ (by decide)) (by rw[show("abcdefghijklmnopqrstuvwxyz .,":Str).cps.toList.length=29 from by decide +kernel];omega);exact⟨_,Y,_,_,_,Y,Y,(by decide +kernel),f,k H (.str ⟨#[c]⟩) _ (Same.refl H) (.str _) (.inl ⟨c,Y,xAqs f⟩)⟩
 ·refine⟨_,Y,Y,_,Y,?_⟩
  refine ite2 (λ_=>?_) λ_=>?_
  ·refine⟨_,Y,_,_,Y,Y,⟨by decide,by decide⟩,_,Y,λz hz=>?_⟩
   exact⟨szOk rfl,λq H1 g s e=>k H1 (.ref q) _ s (.tup e (.cons (.str _) (.cons (.str z) .nil))) (.inr (.inl ⟨z,Y,hz⟩))⟩
  ·refine⟨_,Y,_,_,Y,Y,⟨by decide,by decide⟩,_,Y,_,p,ws,Y,r,λH1 v d t dv o=>?_⟩
   obtain⟨ds,rfl,hn⟩:=o;exact⟨szOk rfl,λm H2 g s e=>k H2 (.ref m) _ (t.trans s) (.tup e (.cons (.str _) (.cons (dv.same s) .nil))) (.inr (.inr ⟨ds,Y,hn⟩))⟩
def ok_fAe(T:Txt K mg tk)(F:FO K mg "_law_sign_names" s_fAe)(G:O_fAg P w K mg base):O_fAe P w K mg base:=by
 refine mk_ok F xApz (λ_ _ _ _ _ _ u l=>match u,l with|[_,_],_=>rfl) (λ_ _ _ _ h=>xAwe h) λfa cdv A outer s H vs Q E hr h=>?_
 refine⟨_,(xAaa (sn xApz.nd 2 (xAao xAdt))
   (xAaa (fo (il (xAar xAaw (vv 0) xAax (xAav (pe_op xAbc xAab (pe_op xAap (xl (vv 0)) xAab))))) (gn xApz.nd 3)
   (xAaa (sn xApz.nd 4 (cl G hr (a2 (pe_op xAaq (vv 3) xAab) (vv 1))))
   (xAad (ps_if (ck (niD hr) (vv 4) (vv 2)) (xAad (ap (vv 2) (a1 (vv 4)))) xAal))))
   (xAad (xAak (cy xAcc T.b_tuple boot_tuple (a1 (vv 2))))))),?_⟩
 obtain⟨dd,p,ws,N,rfl,J,hd,k⟩:=h;refine⟨szOk rfl,λp2 H0 g0 s0 e0=>?_⟩;have i:=hd.mono s0;obtain⟨r,h0⟩:=i.get 0 (by decide);refine⟨_,Y,_,Y,dd,_,0,.int r,Y,Y,SqL.of i.at',h0,_,_,Y,Y,(by show(0:Int)<12;decide),_,_,Y,Y,_,Y,dd,_,Y,SqL.of i.at',λM H1 R s1 e1=>?_⟩;have D:=xAqr (xs:=List.map V.int N) (b:=1+r % 12) (by have:=xAay r (m:=12) (by decide);omega) (by have:=xAaz r (m:=12) (by decide);omega) (by rw[qc];exact hd.len)
 have O:M≠p2:=λz=>by rw[z]at R;rw[e0]at R;cases R
 refine⟨M,Y,⟨_,SqL.of e1⟩,xAcg (xs:=cutV (List.map V.int N) none (some (1+r % 12))) (λj σ H2=>∃(xs:List V) (c:List (List PyData)) (Z S:Option V),σ=[some (.ref dd),some (.ref p),some (.ref p2),Z,S]/\Same H H2/\H2 M=some (.lst (cutV (List.map V.int N) none (some (1+r % 12)))) ∧
  H2 p2=some (.lst xs)/\DTs H2 xs (c.map .tuple)/\c.length≤j/\(1≤j->1≤c.length)/\c.Nodup/\∀b∈c,SnD ws b)
  ⟨[],[],none,none,Y,s0.trans s1,e1,s1 _ _ e0,.nil,qd _,by omega,wm,λ_ z=>nomatch z⟩ (λj σ H2 _ ⟨_,_,_,_,_,_,e,_⟩=>SqL.of e) ?_ ?_⟩
 ·rintro j x σ H2 q ⟨xs,c,Z,S,rfl,B,eq,n,L,X,C,nd,hf⟩
  obtain⟨m,rfl⟩:=xAfe (qo q);have hj:j<12:=qv (qy.mp q).1 D.2;refine⟨_,Y,_,_,Y,Y,⟨by decide,by decide⟩,_,Y,_,p,ws,Y,J.mono B,λH3 v d f dv U=>?_⟩;obtain⟨nm,rfl,hn⟩:=U;have o:=DTs.same f L;obtain⟨b1,b2,b3⟩:=hn.plain J.wd
  have xl:xs.length=c.length:=by rw[xAqq L,qc]
  refine⟨_,Y,_,Y,.tuple nm,p2,c.map .tuple,xs,dv.dv,Y,.inl (SqL.of (f _ _ n)),o.dv,b2,xAbl λx q=>?_,by rw[b3];decide,_,Y,?_⟩
  ·obtain⟨y,hy,rfl⟩:=qj.mp q
   exact((hf y hy).plain J.wd).2.1
  have W:=xAvr (ds:=c.map .tuple) (d:=.tuple nm) (λx q=>by
   obtain⟨y,hy,rfl⟩:=qj.mp q
   exact((hf y hy).plain J.wd).1) b1
  refine ite2 (λg=>?_) λhin=>?_
  ·have I:nm∉c:=λhm=>by
    have:=W.mpr (qj.mpr ⟨nm,hm,Y⟩);rw[this]at g;exact absurd g (by decide)
   refine⟨_,Y,.inl ⟨Y,_,SqL.of (f _ _ n)⟩,_,Y,p2,_,_,Y,Y,f _ _ n,xAag (by omega),?_⟩;have fp:H p2=none:=g0;refine⟨xs++[v],c++[nm],_,_,Y,(B.trans f).wr fp,by rw[xAaf O];exact f _ _ eq,xAac,?_,by rw[qm,zk];omega,λ_=>by rw[qm,zk];omega,xAvs nd I,λb t=>?_⟩
   ·rw[z0]
    exact DTs.wr (f _ _ n) (λys z=>by cases z) (o.snoc dv)
   ·rcases zb.mp t with t|t
    ·exact hf b t
    ·rw[qu.mp t];exact hn
  ·refine⟨xs,c,_,_,Y,B.trans f,f _ _ eq,f _ _ n,o,by omega,λ_=>?_,nd,hf⟩
   cases c with
   |nil=>exact absurd rfl hin
   |cons a b=>rw[zc];omega
 ·rintro σ H2 ⟨xs,c,Z,S,rfl,B,eq,n,L,X,C,nd,hf⟩
  exact⟨_,Y,p2,_,Y,SqL.of n,λl H3 g3 f e3=>k H3 (.ref l) c (B.trans f) (.tup e3 (DTs.same f L)) (C (by omega)) (by omega) hf nd⟩
def ok_fAh(T:Txt K mg tk)(F:MO K c_Folk "__init__" "Folk.__init__" false s_fAh)(gfBc:O_fBc P w K mg base)(gfBd:O_fBd P w K mg base)(gfAq:O_fAq P w K mg base)(gfAo:O_fAo P w K mg base)(gfBe:O_fBe P w K mg base):O_fAh P w K mg base:=by
 refine xAza F xAzr T.j_Folk.1 T.j_Folk.2 (λ_ _ _ _ _ _ u l=>match u,l with|[_,_,_],_=>rfl) (λ_ _ _ _ h=>xAco h) λfa cdv A outer s H vs Q E hr h=>?_
 refine⟨_,(xAaa (sf T.C_Folk T.N_Folk_hands (vv 0) (cy xAej T.b_list boot_list (a1 (vv 1))))
   (xAaa (sf T.C_Folk T.N_Folk_seats (vv 0) (cl gfBe hr (a1 (vv 1))))
   (xAaa (sf T.C_Folk T.N_Folk_told (vv 0) (clX gfBd passD hr (a1 (vv 2))))
   (xAaa (foX (xAti (fd T.C_Folk T.N_Folk_told (vv 0))) (gn xAzr.nd 3)
   (xAad (xAqe (clX gfAq passD hr (ac (fd T.C_Folk T.N_Folk_hands (vv 0)) (a2 (fd T.C_Folk T.N_Folk_told (vv 0)) (vv 3)))))))
   (xAaa (sf T.C_Folk T.N_Folk_heights (vv 0) (cl gfAo hr (a2 (fd T.C_Folk T.N_Folk_hands (vv 0)) (fd T.C_Folk T.N_Folk_told (vv 0)))))
   (xAaa (sf T.C_Folk T.N_Folk_sorted_names (vv 0) (soB T.C_Folk gfBc hr T.b_sorted boot_sorted (a1 (cy (xAme hr.hd) T.b_list boot_list (a1 (fd T.C_Folk T.N_Folk_told (vv 0))))) (vv 0)))
   (xAad (sf T.C_Folk T.N_Folk_kept_book (vv 0) xAfv)))))))),?_⟩
 obtain⟨x,dx,rp,dp,ws,des,fs,rfl,hx,N,hdp,an,D,kk,ke⟩:=h;have nd:=D.nd;have few6:=N.few;have up0:=xAbz H x;have nf:∀{H':Hp} {b:Addr},H' x≠none->H' b=none->b≠x:=λh1 h2 z=>h1 (z▸h2);refine⟨_,Y,rp,_,Y,.inl (SqL.of (up0 _ _ N.at')),λp H1 g1 s1 e1=>?_⟩;have nhp:p≠x:=nf (by rw[hx];simp) g1;have c1:Same (del H x) (del H1 x):=s1.cuts;refine⟨_,Y,x,dx,_,Y,s1 _ _ hx,by show 0<1000;decide,?_⟩
 have c2:Same (del H x) (del (upd H1 x (.ins c_Folk dx (F1 (.ref p)))) x):=by rw[xAee];exact c1
 have rh:RL (del (upd H1 x (.ins c_Folk dx (F1 (.ref p)))) x) p ws:=⟨by rw[xAee];exact xAts e1 nhp,N.pos,N.few,N.wd⟩;have ob2:(upd H1 x (.ins c_Folk dx (F1 (.ref p)))) x=some (.ins c_Folk dx (F1 (.ref p))):=xAac;show tSeq _ _ _ _ (upd H1 x (.ins c_Folk dx (F1 (.ref p))));generalize upd H1 x (.ins c_Folk dx (F1 (.ref p)))=H2 at c2 rh ob2;have t2:=c2.trans (xAbz H2 x);refine⟨_,Y,rp,ws,Y,N.mono t2,nd,λH3 sp s3 g3 e3=>?_⟩;have nsp:sp≠x:=nf (by rw[ob2];simp) g3;refine⟨_,Y,x,dx,_,Y,s3 _ _ ob2,z9 xAxq (by decide),?_⟩
 have c4:Same (del H2 x) (del (upd H3 x (.ins c_Folk dx (F2 (.ref p) (.ref sp)))) x):=by rw[xAee];exact s3.cuts
 have se:(del (upd H3 x (.ins c_Folk dx (F2 (.ref p) (.ref sp)))) x) sp=some (.dK (seatL ws)):=by rw[xAee];exact xAts e3 nsp
 have ob4:(upd H3 x (.ins c_Folk dx (F2 (.ref p) (.ref sp)))) x=some (.ins c_Folk dx (F2 (.ref p) (.ref sp))):=xAac;show tSeq _ _ _ _ (upd H3 x (.ins c_Folk dx (F2 (.ref p) (.ref sp))));generalize upd H3 x (.ins c_Folk dx (F2 (.ref p) (.ref sp)))=H4 at c4 se ob4;have c04:=c2.trans c4;have t4:=c04.trans (xAbz H4 x);refine⟨_,Y,dp,des,ws,fs,Y,t4 _ _ hdp,an.imp λ_ _ _ g=>g.mono t4,N.wd,D,λun H5 tp kvs f s5 g5 e5 td5 up5 t len5=>?_,λnu H5 s5=>ke (λg=>nu g.1) H5 (t4.trans s5)⟩;have ntp:tp≠x:=nf (by rw[ob4];simp) g5
 have hwho:∀e∈f,e.who<ws.length:=λe he=>by
  obtain⟨i,hi,rfl⟩:=zn he;obtain⟨_,_,_,_,x⟩:=td5.to (qf hi);exact DeedAt.who x
 refine⟨_,Y,x,dx,_,Y,s5 _ _ ob4,z9 xAxr (by decide),?_⟩
 have c6:Same (del H4 x) (del (upd H5 x (.ins c_Folk dx (F3 (.ref p) (.ref sp) (.ref tp)))) x):=by rw[xAee];exact s5.cuts
 have e6:(del (upd H5 x (.ins c_Folk dx (F3 (.ref p) (.ref sp) (.ref tp)))) x) tp=some (.dG kvs):=by rw[xAee];exact xAts e5 ntp
 have ob6:(upd H5 x (.ins c_Folk dx (F3 (.ref p) (.ref sp) (.ref tp)))) x=some (.ins c_Folk dx (F3 (.ref p) (.ref sp) (.ref tp))):=xAac;have td6:TD (upd H5 x (.ins c_Folk dx (F3 (.ref p) (.ref sp) (.ref tp)))) ws kvs f:=td5.tups (xAgr (s5 _ _ ob4) xAxy);show tSeq _ _ _ _ (upd H5 x (.ins c_Folk dx (F3 (.ref p) (.ref sp) (.ref tp))));generalize upd H5 x (.ins c_Folk dx (F3 (.ref p) (.ref sp) (.ref tp)))=H6 at c6 e6 ob6 td6;refine⟨_,Y,x,dx,_,_,Y,ob6,xAik,tp,kvs,Y,.inl ⟨xAbz _ _ _ _ e6,λo=>?_⟩⟩
 have O:(upd H6 tp (.frz o (.dG kvs))) x=some (.ins c_Folk dx (F3 (.ref p) (.ref sp) (.ref tp))):=by rw[xAaf ntp.symm];exact ob6
 have td7:TD (upd H6 tp (.frz o (.dG kvs))) ws kvs f:=td6.tups (xAgr (xAbz _ _ _ _ e6) dG_no);have e7:(upd H6 tp (.frz o (.dG kvs))) tp=some (.frz o (.dG kvs)):=xAac
 have keep:∀{b u},(del H6 x) b=some u->b≠tp->(upd H6 tp (.frz o (.dG kvs))) b=some u:=λh z=>by rw[xAaf z];exact xAbz _ _ _ _ h
 have rh7:RL (upd H6 tp (.frz o (.dG kvs))) p ws:=⟨keep ((c4.trans c6) _ _ rh.at') (λz=>by
  have h1:=(c4.trans c6) _ _ rh.at';rw[z,e6]at h1
  cases h1),N.pos,N.few,N.wd⟩
 have se7:(upd H6 tp (.frz o (.dG kvs))) sp=some (.dK (seatL ws)):=keep (c6 _ _ se) (λz=>by
  have h1:=c6 _ _ se;rw[z,e6]at h1
  cases h1)
 have s07:Same (del H x) (upd H6 tp (.frz o (.dG kvs))):=((c04.trans c6).trans (xAbz _ _)).wr (c04.free (xAer g5));generalize upd H6 tp (.frz o (.dG kvs))=H7 at O td7 e7 rh7 se7 s07;refine xApj (λj σ H8=>∃u3,σ=[some (.ref x),some (.ref rp),some (.ref dp),u3]/\Same H7 H8/\∀d∈f.take j,Lst5 ws.length f d) ⟨_,Y,Same.refl _,λd h=>by simp at h⟩ (λj σ H8 ⟨_,_,I,_⟩=>I _ _ e7) ?_ ?_
 ·rintro j e σ H8 he ⟨u3,rfl,I,X⟩
  obtain⟨dd,ed,_,_,da⟩:=td7.at he;have hm:=qo ed;refine⟨_,Y,x,dx,_,_,Y,I _ _ O,xAgp,_,Y,x,dx,_,_,Y,I _ _ O,xAik,_,Y,p,tp,_,ws,dd,f,kvs,Y,rh7.mono I,.inr ⟨o,I _ _ e7⟩,td7.same I,nd,up5,(λe he=>D.len e ((t e).mp he)),(λe he=>D.sm e ((t e).mp he)),(λe he=>xArp D ((t e).mp he)),da.mono I,hm,λg H9 s9=>?_,λng H9 s9=>?_⟩
  ·refine⟨_,Y,I.trans s9,λd B=>?_⟩
   rw[wq,ed]at B;rcases zb.mp B with B|B
   ·exact X d B
   ·rw[qu.mp B];exact g
  ·exact ke (λgg=>ng (xAzg λj k h1 h2 h3=>by
    obtain⟨e,he,r⟩:=gg.2 dd ((t dd).mp hm) j k h1 h2 h3
    exact⟨e,(t e).mpr he,r⟩)) H9 ((s07.trans I).trans s9)
 rintro σ H8 ⟨u3,rfl,I,X⟩;rw[td7.1,wb]at X;have hown:∀d∈f,Hs.at0 d.hd d.who+1=d.num:=λd B=>D.own d ((t d).mp B);have hcov:∀d∈f,Hs.Cov ws.length f d.hd:=λd B j k h1 h2 h3=>xAzf hown X _ d B j k h1 h2 h3 (qd _);have W':Hs.Wh ws.length f:=⟨hwho,λd B=>D.len d ((t d).mp B),hown,up5,hcov⟩;obtain⟨hn,hg⟩:=W'.heights;have sw':Sw ws hn f:=⟨nd,W',hg,λd B=>D.gd d ((t d).mp B),qh len5 D.few⟩
 have GG:Good5 ws.length fs:=⟨un,λd B j k h1 h2 h3=>by
  obtain⟨e,he,r⟩:=hcov d ((t d).mpr B) j k h1 h2 h3
  exact⟨e,(t e).mp he,r⟩⟩
 have rd8:Rd H8 tp (.dG kvs):=.inr ⟨o,I _ _ e7⟩;refine⟨_,Y,x,dx,_,_,Y,I _ _ O,xAgp,_,Y,x,dx,_,_,Y,I _ _ O,xAik,p,tp,ws,hn,f,kvs,Y,rh7.mono I,rd8,td7.same I,sw',λH9 gp hvs s9 g9 e9 hd9=>?_⟩;have J:=I.trans s9;have ob9:=J _ _ O;have ngp:gp≠x:=nf (by rw[I _ _ O];simp) g9;refine⟨_,Y,x,dx,_,Y,ob9,z9 xAxs (by decide),?_⟩
 have nx:∀{b u},H9 b=some u->(∀C dx fs,u≠.ins C dx fs)->b≠x:=λh1 h2 z=>by
  rw[z,ob9]at h1;exact h2 _ _ _ (qC h1).symm
 have k10:∀{b u},H9 b=some u->b≠x->(upd H9 x (.ins c_Folk dx (F4 (.ref p) (.ref sp) (.ref tp) (.ref gp)))) b=some u:=λh z=>by rw[xAaf z];exact h
 have G:(upd H9 x (.ins c_Folk dx (F4 (.ref p) (.ref sp) (.ref tp) (.ref gp)))) x=some (.ins c_Folk dx (F4 (.ref p) (.ref sp) (.ref tp) (.ref gp))):=xAac;have rh10:RL (upd H9 x (.ins c_Folk dx (F4 (.ref p) (.ref sp) (.ref tp) (.ref gp)))) p ws:=⟨k10 (J _ _ rh7.at') (nx (J _ _ rh7.at') λ_ _ _ z=>by cases z),N.pos,N.few,N.wd⟩;have U:=k10 (J _ _ se7) (nx (J _ _ se7) λ_ _ _ z=>by cases z);have e10:=k10 (J _ _ e7) (nx (J _ _ e7) λ_ _ _ z=>by cases z);have R:=k10 e9 ngp;have W:TD (upd H9 x (.ins c_Folk dx (F4 (.ref p) (.ref sp) (.ref tp) (.ref gp)))) ws kvs f:=(td7.same J).tups (xAgr ob9 xAxy);have L:Same (del H x) (upd H9 x (.ins c_Folk dx (F4 (.ref p) (.ref sp) (.ref tp) (.ref gp)))):=(s07.trans J).wr xAeq;show tSeq _ _ _ _ (upd H9 x (.ins c_Folk dx (F4 (.ref p) (.ref sp) (.ref tp) (.ref gp))));generalize upd H9 x (.ins c_Folk dx (F4 (.ref p) (.ref sp) (.ref tp) (.ref gp)))=H10 at G rh10 U e10 R W L;have hkl:kvs.length=f.length:=W.1;have few':=sw'.few;refine⟨_,Y,x,dx,_,_,Y,G,xArh,tp,kvs,Y,.inr ⟨o,e10⟩,by omega,λlp H11 g11 s11 e11=>?_⟩
 have ny:A2 (NmV H11 ws) (kvs.map (·.2.1)) (f.map nm):=A2.mapr ⟨by rw[qc,hkl],λi y z e1 e2=>by
  rw[qi]at e1
  cases e3:kvs[i]? with
  |none=>rw[e3]at e1;cases e1
  |some x0=>rw[e3]at e1;cases e1;exact xAbe s11 (W.2 i x0 z e3 e2).2.1⟩
 have ko:KO c_Folk H10 x ws hn f:=⟨dx,_,gp,sp,hvs,G,xAmh,xAtp,R,hd9,U⟩;refine⟨_,Y,x,dx,_,Y,s11 _ _ G,f4_no (by decide +kernel),lp,_,f.map (Hs.kyD hn),2,Y,SqL.of e11,by rw[qc,qc,hkl],xAya hn f,⟨by rw[qc];omega,.inl (by rw[qc];omega)⟩,?_,?_⟩
 ·intro m y dd H' Q' hy B s q
  rw[qi]at B
  cases e3:f[m]? with
  |none=>rw[e3]at B;cases B
  |some z =>
   rw[e3]at B;cases B;have hm:=qo e3;exact⟨x,y,ws,hn,f,z,Y,(ko.same s11).same s,xAbe s (ny.2 m y (nm z) hy (by rw[qi,e3];rfl)),hm,W'.who z hm,nd,λH'' kv s'' hkv=>q H'' kv s'' hkv.dv⟩
 intro np M ix g12 s12 six e12;obtain⟨po,so⟩:=Hs.sorted_of W' sw'.hg six ⟨0,0,[],.none,[]⟩
 have hix:∀i∈ix,i<f.length:=λi hi=>by
  have:=(six.1.mem_iff).mp hi
  rwa [zm,qc]at this
 have na:=(A2.imp (R':=λv e=>NmV M ws v (nm e)) (ys:=f) ⟨by rw[qc,hkl],λi y z e1 e2=>ny.2 i y (nm z) e1 (by rw[qi,e2];rfl)⟩ λ_ _ _ g=>xAbe s12 g).ix (a:=V.non) (b:=(⟨0,0,[],.none,[]⟩:Hs.Dd)) ix hix;generalize (ix.map λi=>f.getD i (⟨0,0,[],.none,[]⟩:Hs.Dd))=ss at po so na;generalize (ix.map λi=>(kvs.map (·.2.1)).getD i V.non)=ns at e12 na;have c:=s11.trans s12;have ob12:=c _ _ G;have nnp:np≠x:=nf (by rw[s11 _ _ G];simp) g12;refine⟨_,Y,x,dx,_,Y,ob12,z9 xAxt (by decide),?_⟩;refine⟨_,Y,x,dx,_,Y,xAac,z9 f5_len (by decide),?_⟩
 have Z:∀{b u} (w1 w2:HO),M b=some u->b≠x->(upd (upd M x w1) x w2) b=some u:=λw1 w2 h z=>by rw[xAaf z,xAaf z];exact h
 have nx2:∀{b u},M b=some u->(∀C dx fs,u≠.ins C dx fs)->b≠x:=λh1 h2 z=>by
  rw[z,ob12]at h1;exact h2 _ _ _ (qC h1).symm
 have tu:∀w1 w2:HO,Tups M (upd (upd M x w1) x w2):=λw1 w2 b xs h=>Z w1 w2 h (nx2 h λ_ _ _ z=>by cases z)
 refine kk GG _ hn ss (((L.trans c).wr xAeq).wr xAeq) (λd=>po.mem_iff.trans (t d)) λS hS=>?_
 have fr:∀{b},(del H x) b=none->¬S b:=λh z=>by
  obtain⟨o,e,_⟩:=hS _ z;rw[h]at e;cases e
 have t10:=L
 have tv:∀w1 w2:HO,Tups M (delS (upd (upd M x w1) x w2) S):=λw1 w2 b xs h=>xAdm (tu w1 w2 b xs h) λz=>by
  obtain⟨o',e,n⟩:=hS _ z;have h2:=(L.trans c) _ _ e;rw[h]at h2;exact n xs (qC h2).symm
 refine⟨dx,p,sp,tp,gp,np,kvs,hvs,ns,f,xAdm xAac (fr xAeq),⟨xAdm (Z _ _ (c _ _ rh10.at') (nx2 (c _ _ rh10.at') λ_ _ _ z=>by cases z)) (fr (xAer g1)),N.pos,N.few,N.wd⟩,xAdm (Z _ _ (c _ _ U) (nx2 (c _ _ U) λ_ _ _ z=>by cases z)) (fr (c2.free (xAer g3))),.inr ⟨o,xAdm (Z _ _ (c _ _ e10) (nx2 (c _ _ e10) λ_ _ _ z=>by cases z)) (fr (c04.free (xAer g5)))⟩,(W.same c).tups (tv _ _),po.symm,xAdm (Z _ _ (c _ _ R) (nx2 (c _ _ R) λ_ _ _ z=>by cases z)) (fr ((s07.trans I).free g9)),λd B=>hd9 d (po.mem_iff.mp B),xAdm (Z _ _ e12 nnp) (fr ((L.trans s11).free g12)),A2.mapr (na.imp λ_ _ _ g=>xAri g (tv _ _)),sw'.perm po,so⟩
def ok_fAn(T:Txt K mg tk)(F:FO K mg "_law_signs" s_fAn)(n:O_fAw P w K mg base):O_fAn P w K mg base:=by
 refine mk_ok F sc_fAn (λ_ _ _ _ _ _ u l=>match u,l with|[_,_],_=>rfl) (λ_ _ _ _ h=>xAwd h) λfa N A outer s H vs Q E R h=>?_;refine⟨_,(xAad (xAak (cy xAcc T.b_tuple boot_tuple (a1 (lcd (defScope s_fAn) N_fAn [("_law_roll_here",1)] (il (xAar xAaw (vv 0) xAax (xAav (pe_op xAbc xAab (pe_op xAap (xl (vv 0)) xAab))))) (λ_ _ _=>xAbr) (λ_ _ _=>(cl n R (a2 (pe_op xAaq (vv 0) xAab) (vc 1))))))))),?_⟩;obtain⟨dd,p,ws,C,rfl,S,r,k⟩:=h;obtain⟨o,h0⟩:=r.get 0 (by decide);refine⟨_,Y,_,Y,dd,_,0,.int o,Y,Y,SqL.of r.at',h0,_,_,Y,Y,(by show(0:Int)<12;decide),_,_,Y,Y,_,Y,dd,_,Y,SqL.of r.at',λJ H1 U I y=>?_⟩;have D:=xAqr (xs:=List.map V.int C) (b:=1+o % 12) (by have:=xAay o (m:=12) (by decide);omega) (by have:=xAaz o (m:=12) (by decide);omega) (by rw[qc];exact r.len);refine⟨J,Y,⟨_,SqL.of y⟩,xAkj (xs:=cutV (List.map V.int C) none (some (1+o % 12))) (ze (xAag (by omega))) (λj ys H'=>Same H1 H'/\∃f,DTs H' ys f/\f.length=j/\∀x∈f,SignD ws x) ⟨Same.refl _,[],.nil,Y,λ_ z=>nomatch z⟩ (λ_ _ H' s=>SqL.of (s.1 _ _ y)) (λj x ys H' W M a s' k1 k0=>?_) λH' q ys s' X G=>?_⟩
 ·obtain⟨m,rfl⟩:=xAfe (qo a)
  obtain⟨s',f,e,g,c⟩:=s';refine iteT (B:=M H') ?_;refine⟨_,Y,_,_,Y,Y,⟨by decide,by decide⟩,_,Y,_,p,ws,Y,S.mono (I.trans s'),λH2 v d i dv t=>?_⟩;refine k1 v H2 ⟨s'.trans i,f++[d],(DTs.same i e).snoc dv,by rw[qm,zk,g],λx a=>?_⟩;rcases zb.mp a with a|a
  ·exact c x a
  ·rw[qu.mp a];exact t
 ·obtain⟨s',f,e,g,c⟩:=s'
  refine⟨q,ys,Y,SqL.of xAac,λl H2 O i L=>?_⟩;exact k H2 (.ref l) f (((I.trans s').up G).trans i) (.tup L (DTs.same ((Same.new G).trans i) e)) (by omega) (by omega) c
def ok_fAa(T:Txt K mg tk)(F:FO K mg "_law_what_of_marks" s_fAa)(I:O_fBa P w K mg base)(U:O_fBb P w K mg base)(C:O_fAv P w K mg base)(o:O_fAz P w K mg base):O_fAa P w K mg base:=by
 refine mk_ok F xAji (λ_ _ _ _ _ _ u l=>match u,l with|[_,_,_],_=>rfl) (λ_ _ _ _ h=>xAwg h) λfa cdv A outer s H vs Q E B h=>?_
 refine⟨_,(xAaa (sn xAji.nd 3 (cl U B (a2 (xl (vv 1)) (vv 2))))
   (xAaa (sn xAji.nd 4 (cl I B (a2 (xl (vv 1)) (vv 2))))
   (xAaa (sn xAji.nd 5 (xAaj (a2 (cl C B (a2 (xl (vv 1)) (vv 2))) (cl C B (a2 (xl (vv 1)) (vv 2))))))
   (xAaa (ps_if (ck op_eq (vv 0) xAab) (xAaa (sn xAji.nd 6 (xa (xAao (a2 xAfv (cl o B (a1 (pe_op xAaq (xl (vv 1)) xAab))))) (cy xAbv T.b_int boot_int (a1 (ce op_gt (pe_op xAap (xl (vv 1)) xAab) xAab)))))
   (xAad (xAak (pe_op xAde (pe_op xAde (xAaj (a2 xAau (vv 3))) (vv 5)) (xAaj (a2 (cl o B (a1 (xl (vv 1)))) (vv 6))))))) xAal)
   (xAaa (ps_if (ck op_eq (vv 0) xAab) (xAad (xAak (pe_op xAde (pe_op xAde (xAaj (a2 xAau (vv 3))) (vv 5)) (xAaj (a1 (cl o B (a1 (xl (vv 1))))))))) xAal)
   (xAaa (ps_if (ck op_eq (vv 0) xAab) (xAad (xAak (xAaj (ac xAau (ac (vv 3) (a2 (xa (xAao (a2 xAau xAau)) (pe_op xAap (xl (vv 1)) xAab)) (xa (xAao (a2 xAfv (vv 4))) (cy xAbv T.b_int boot_int (a1 (ce op_gt (pe_op xAap (pe_op xAaq (xl (vv 1)) xAab) xAab) xAab)))))))))) xAal)
   (xAaa (ps_if (ck op_eq (vv 0) xAab) (xAad (xAak (xAaj (ac xAau (a2 (vv 3) (vv 4)))))) xAal)
   (xAaa (sn xAji.nd 7 (xa (xAao (a2 xAau (cl o B (a1 (pe_op xAaq (xl (vv 1)) xAab))))) (cy xAbv T.b_int boot_int (a1 (ce op_gt (pe_op xAap (xl (vv 1)) xAab) xAab)))))
   (xAad (xAak (xAaj (ac xAau (ac (vv 3) (ac (vv 4) (a2 (cl I B (a2 (xl (vv 1)) (vv 2))) (vv 7)))))))))))))))),?_⟩
 obtain⟨i,dd,p,ws,ns,rfl,c,a,k⟩:=h;obtain⟨a0,h0⟩:=a.get 0 (by decide);obtain⟨a1,h1⟩:=a.get 1 (by decide);obtain⟨a2,h2⟩:=a.get 2 (by decide);obtain⟨a3,h3⟩:=a.get 3 (by decide);obtain⟨a4,h4⟩:=a.get 4 (by decide);have s:=Same.refl H;refine⟨_,Y,dd,_,0,.int a0,Y,Y,SqL.of a.at',h0,_,Y,_,p,ws,Y,c,λH1 v1 d1 s1 n1 t1=>?_⟩;obtain⟨pd,rfl,q⟩:=t1;replace c:=c.mono s1;replace a:=a.mono s1;replace s:=s.trans s1;refine⟨_,Y,dd,_,1,.int a1,Y,Y,SqL.of a.at',h1,_,Y,_,p,ws,Y,c,λH2 v2 d2 s2 n2 t2=>?_⟩;obtain⟨nd,rfl,O⟩:=t2;replace c:=c.mono s2;replace a:=a.mono s2;replace n1:=n1.same s2;replace s:=s.trans s2;refine⟨_,Y,dd,_,1,.int a1,Y,Y,SqL.of a.at',h1,_,Y,_,p,ws,Y,c,λH3 v3 d3 V f t3=>?_⟩;replace c:=c.mono V;replace a:=a.mono V;replace n1:=n1.same V;replace n2:=n2.same V;replace s:=s.trans V;refine⟨_,Y,dd,_,2,.int a2,Y,Y,SqL.of a.at',h2,_,Y,_,p,ws,Y,c,λH4 v4 d4 S g t4=>?_⟩;replace c:=c.mono S;replace a:=a.mono S;replace n1:=n1.same S;replace n2:=n2.same S;replace f:=f.same S;replace s:=s.trans S;refine⟨szOk rfl,λq5 H5 g5 J G=>?_⟩;replace c:=c.mono J;replace a:=a.mono J;replace n1:=n1.same J;replace n2:=n2.same J;replace f:=f.same J;replace g:=g.same J;replace s:=s.trans J;refine⟨_,Y,Y,_,Y,?_⟩;refine ite2 (λ_=>?_) λ_=>?_
 ·refine⟨_,Y,dd,_,4,.int a4,Y,Y,SqL.of a.at',h4,_,_,Y,Y,⟨by decide,by decide⟩,_,Y,λz hz=>?_⟩
  refine⟨szOk rfl,λq6 H6 g6 n e6=>?_⟩;replace c:=c.mono n;replace a:=a.mono n;replace n1:=n1.same n;replace n2:=n2.same n;replace f:=f.same n;replace g:=g.same n;replace s:=s.trans n;replace G:=n _ _ G;refine⟨_,Y,dd,_,4,.int a4,Y,Y,SqL.of a.at',h4,_,_,Y,Y,(by show(0:Int)<3;decide),_,_,Y,Y,.inr ⟨_,Y,?_⟩⟩;refine⟨q6,_,_,Y,Y,SqL.of e6,xAks _,xAfd _,λv D=>?_⟩
  have L:∃b,(∀H',DT H' v b)/\WnD b:=by
   simp only[List.mem_cons,List.not_mem_nil,or_false]at D
   rcases D with rfl|rfl
   ·exact⟨_,λ_=>.non,.inl rfl⟩
   ·exact⟨_,λ_=>.str z,.inr ⟨_,Y,hz⟩⟩
  obtain⟨b,db,L⟩:=L;refine⟨_,Y,szOk rfl,λZ H7 g7 e W=>?_⟩;replace c:=c.mono e;replace a:=a.mono e;replace n1:=n1.same e;replace n2:=n2.same e;replace f:=f.same e;replace g:=g.same e;replace s:=s.trans e;replace G:=e _ _ G;refine⟨_,Y,Z,q5,_,_,Y,Y,SqT.of W,SqT.of G,by simp,by simp,szOk rfl,λq8 H8 g8 j y=>?_⟩;replace c:=c.mono j;replace a:=a.mono j;replace n1:=n1.same j;replace n2:=n2.same j;replace f:=f.same j;replace g:=g.same j;replace s:=s.trans j;refine⟨_,Y,dd,_,3,.int a3,Y,Y,SqL.of a.at',h3,_,Y,λz2 N=>?_⟩;refine⟨_,Y,szOk rfl,λM H10 g10 d R=>?_⟩;replace c:=c.mono d;replace a:=a.mono d;replace n1:=n1.same d;replace n2:=n2.same d;replace f:=f.same d;replace g:=g.same d;replace s:=s.trans d;replace y:=d _ _ y;refine⟨q8,M,_,_,Y,Y,SqT.of y,SqT.of R,by simp,by simp,szOk rfl,λq9 t g9 m r=>?_⟩;exact k t _ _ (s.trans m) (.tup (xs:=[.str "mark",v1,v3,v4,.str z2,v]) r (.cons (.str _) (.cons (n1.same m) (.cons (f.same m) (.cons (g.same m) (.cons (.str z2) (.cons (db _) .nil))))))) λx=>.mark _ _ _ _ _ q t3 t4 N L
 refine⟨_,Y,Y,_,Y,?_⟩;refine ite2 (λ_=>?_) λ_=>?_
 ·refine⟨_,Y,szOk rfl,λZ H7 g7 e W=>?_⟩
  replace c:=c.mono e;replace a:=a.mono e;replace n1:=n1.same e;replace n2:=n2.same e;replace f:=f.same e;replace g:=g.same e;replace s:=s.trans e;replace G:=e _ _ G;refine⟨_,Y,Z,q5,_,_,Y,Y,SqT.of W,SqT.of G,by simp,by simp,szOk rfl,λq8 H8 g8 j y=>?_⟩;replace c:=c.mono j;replace a:=a.mono j;replace n1:=n1.same j;replace n2:=n2.same j;replace f:=f.same j;replace g:=g.same j;replace s:=s.trans j;refine⟨_,Y,dd,_,3,.int a3,Y,Y,SqL.of a.at',h3,_,Y,λz2 N=>?_⟩;refine⟨szOk rfl,λM H10 g10 d R=>?_⟩;replace c:=c.mono d;replace a:=a.mono d;replace n1:=n1.same d;replace n2:=n2.same d;replace f:=f.same d;replace g:=g.same d;replace s:=s.trans d;replace y:=d _ _ y;refine⟨q8,M,_,_,Y,Y,SqT.of y,SqT.of R,by simp,by simp,szOk rfl,λq9 t g9 m r=>?_⟩;exact k t _ _ (s.trans m) (.tup (xs:=[.str "note",v1,v3,v4,.str z2]) r (.cons (.str _) (.cons (n1.same m) (.cons (f.same m) (.cons (g.same m) (.cons (.str z2) .nil)))))) λx=>.note _ _ _ _ q t3 t4 N
 refine⟨_,Y,Y,_,Y,?_⟩;refine ite2 (λ_=>?_) λ_=>?_
 ·refine⟨_,Y,szOk rfl,λZ H7 g7 e W=>?_⟩
  replace c:=c.mono e;replace a:=a.mono e;replace n1:=n1.same e;replace n2:=n2.same e;replace f:=f.same e;replace g:=g.same e;replace s:=s.trans e;refine⟨_,Y,dd,_,2,.int a2,Y,Y,SqL.of a.at',h2,_,_,Y,Y,(by show(0:Int)<2;decide),Z,_,_,Y,Y,SqL.of W,xAay _ (by decide),xAaz _ (by decide),λv D=>?_⟩
  obtain⟨z,rfl,hz⟩:∃z:Str,v=.str z/\(z = "row" \/ z = "column"):=by
   simp only[List.mem_cons,List.not_mem_nil,or_false]at D
   rcases D with rfl|rfl
   ·exact⟨_,Y,.inl rfl⟩
   ·exact⟨_,Y,.inr rfl⟩
  refine⟨_,Y,szOk rfl,λq8 H8 g8 j y=>?_⟩;replace c:=c.mono j;replace a:=a.mono j;replace n1:=n1.same j;replace n2:=n2.same j;replace f:=f.same j;replace g:=g.same j;replace s:=s.trans j;refine⟨_,Y,dd,_,2,.int a2,Y,Y,SqL.of a.at',h2,_,_,Y,Y,⟨by decide,by decide⟩,_,_,Y,Y,(by show(0:Int)<3;decide),_,_,Y,Y,.inr ⟨_,Y,?_⟩⟩;refine⟨q8,_,_,Y,Y,SqL.of y,xAks _,xAfd _,λv2' hv2=>?_⟩
  have L:∃b,DT H8 v2' b/\OrD (NameD ws) b:=by
   simp only[List.mem_cons,List.not_mem_nil,or_false]at hv2
   rcases hv2 with rfl|rfl
   ·exact⟨_,.non,.inl rfl⟩
   ·exact⟨_,n2,.inr ⟨_,Y,O⟩⟩
  obtain⟨b,db,L⟩:=L;exact⟨szOk rfl,λq9 t g9 m r=>k t _ _ (s.trans m) (.tup r (.cons (.str _) (.cons (n1.same m) (.cons (.str z) (.cons (db.same m) .nil))))) λx=>.line _ _ _ q hz L⟩
 refine⟨_,Y,Y,_,Y,?_⟩;refine ite2 (λ_=>⟨_,Y,_,Y,szOk rfl,λq9 t g9 m r=>k t _ _ (s.trans m) (.tup r (.cons (.str _) (.cons (n1.same m) (.cons (n2.same m) .nil)))) λx=>.strike _ _ q O⟩) λ_=>?_;refine⟨_,Y,dd,_,3,.int a3,Y,Y,SqL.of a.at',h3,_,_,Y,Y,⟨by decide,by decide⟩,_,Y,λz hz=>?_⟩;refine⟨szOk rfl,λq6 H6 g6 n e6=>?_⟩;replace c:=c.mono n;replace a:=a.mono n;replace n1:=n1.same n;replace n2:=n2.same n;replace f:=f.same n;replace g:=g.same n;replace s:=s.trans n;refine⟨_,Y,dd,_,3,.int a3,Y,Y,SqL.of a.at',h3,_,_,Y,Y,(by show(0:Int)<3;decide),_,_,Y,Y,.inr ⟨_,Y,?_⟩⟩;refine⟨q6,_,_,Y,Y,SqL.of e6,xAks _,xAfd _,λv D=>?_⟩
 obtain⟨X,rfl,hz'⟩:∃X:Str,v=.str X/\(X = "" \/ IsW X):=by
  simp only[List.mem_cons,List.not_mem_nil,or_false]at D
  rcases D with rfl|rfl
  ·exact⟨_,Y,.inl rfl⟩
  ·exact⟨_,Y,.inr hz⟩
 refine⟨_,Y,_,Y,_,Y,dd,_,2,.int a2,Y,Y,SqL.of a.at',h2,_,Y,_,p,ws,Y,c,λH7 v7 d7 e n7 t7=>?_⟩;obtain⟨nd2,rfl,hnd2⟩:=t7;replace c:=c.mono e;replace a:=a.mono e;replace n1:=n1.same e;replace n2:=n2.same e;replace f:=f.same e;replace g:=g.same e;replace s:=s.trans e;exact⟨_,Y,szOk rfl,λq9 t g9 m r=>k t _ _ (s.trans m) (.tup r (.cons (.str _) (.cons (n1.same m) (.cons (n2.same m) (.cons (n7.same m) (.cons (.str X) .nil)))))) λx=>.cell _ _ _ _ q O hnd2 hz'⟩
def ok_fAb(T:Txt K mg tk)(F:FO K mg "_law_what_of_signs" s_fAb)(B:O_fBa P w K mg base)(I:O_fBb P w K mg base)(z:O_fAg P w K mg base)(x:O_fAe P w K mg base)(C:O_fAn P w K mg base):O_fAb P w K mg base:=by
 refine mk_ok F xAqa (λ_ _ _ _ _ _ u l=>match u,l with|[_,_,_],_=>rfl) (λ_ _ _ _ h=>xAwf h) λfa cdv A outer s H vs Q E J h=>?_
 refine⟨_,(xAaa (sn xAqa.nd 3 (cl I J (a2 (xl (vv 1)) (vv 2))))
   (xAaa (sn xAqa.nd 4 (cl B J (a2 (xl (vv 1)) (vv 2))))
   (xAaa (sn xAqa.nd 5 (xa (xAao (a2 xAfv (cl z J (a2 (pe_op xAaq (xl (vv 1)) xAab) (vv 2))))) (cy xAbv T.b_int boot_int (a1 (ce op_gt (pe_op xAap (xl (vv 1)) xAab) xAab)))))
   (xAaa (ps_if (ck op_eq (vv 0) xAab) (xAad (xAak (xAaj (a2 xAau (vv 3))))) xAal)
   (xAaa (ps_if (ck op_eq (vv 0) xAab) (xAad (xAak (xAaj (ac xAau (a2 (vv 4) (vv 3)))))) xAal)
   (xAaa (ps_if (ck op_eq (vv 0) xAab) (xAad (xAak (xAaj (a2 xAau (vv 4))))) xAal)
   (xAaa (ps_if (ck op_eq (vv 0) xAab) (xAad (xAak (xAaj (ac xAau (ac (vv 3) (a2 (vv 5) (cl C J (a2 (xAar xAaw (vv 1) (xAav xAab) xAax) (vv 2))))))))) xAal)
   (xAaa (ps_if (ck op_eq (vv 0) xAab) (xAad (xAak (xAaj (ac xAau (a2 (vv 3) (cl x J (a2 (xAar xAaw (vv 1) (xAav xAab) xAax) (vv 2)))))))) xAal)
   (xAad (xAak (xAaj (a1 xAau)))))))))))),?_⟩
 obtain⟨i,dd,p,ws,ns,rfl,d,a,k⟩:=h;obtain⟨a0,h0⟩:=a.get 0 (by decide);obtain⟨a1,h1⟩:=a.get 1 (by decide);have s:=Same.refl H;refine⟨_,Y,dd,_,0,.int a0,Y,Y,SqL.of a.at',h0,_,Y,_,p,ws,Y,d,λH1 v1 d1 X n1 t1=>?_⟩;obtain⟨pd,rfl,j⟩:=t1;replace d:=d.mono X;replace a:=a.mono X;replace s:=s.trans X;refine⟨_,Y,dd,_,1,.int a1,Y,Y,SqL.of a.at',h1,_,Y,_,p,ws,Y,d,λH2 v2 d2 L n2 t2=>?_⟩;obtain⟨nd,rfl,r⟩:=t2;replace d:=d.mono L;replace a:=a.mono L;replace n1:=n1.same L;replace s:=s.trans L;refine⟨_,Y,dd,_,1,.int a1,Y,Y,SqL.of a.at',h1,_,_,Y,Y,⟨by decide,by decide⟩,_,Y,_,p,ws,Y,d,λH3 v3 d3 y M t3=>?_⟩;obtain⟨sd,rfl,W⟩:=t3;replace d:=d.mono y;replace a:=a.mono y;replace n1:=n1.same y;replace n2:=n2.same y;replace s:=s.trans y;refine⟨szOk rfl,λq4 H4 g4 n e4=>?_⟩;replace d:=d.mono n;replace a:=a.mono n;replace n1:=n1.same n;replace n2:=n2.same n;replace M:=M.same n;replace s:=s.trans n;refine⟨_,Y,dd,_,1,.int a1,Y,Y,SqL.of a.at',h1,_,_,Y,Y,(by show(0:Int)<3;decide),_,_,Y,Y,.inr ⟨_,Y,?_⟩⟩;refine⟨q4,_,_,Y,Y,SqL.of e4,xAks _,xAfd _,λv hv=>?_⟩
 have S:∃b,DT H4 v b/\OrD (SnD ws) b:=by
  simp only[List.mem_cons,List.not_mem_nil,or_false]at hv
  rcases hv with rfl|rfl
  ·exact⟨_,.non,.inl rfl⟩
  ·exact⟨_,M,.inr ⟨_,Y,W⟩⟩
 obtain⟨b,db,S⟩:=S;refine⟨_,Y,Y,_,Y,?_⟩;refine ite2 (λ_=>⟨_,Y,szOk rfl,λq f t c e=>k f _ _ (s.trans c) (.tup e (.cons (.str _) (.cons (n1.same c) .nil))) λg=>.part _ j⟩) λ_=>?_;refine⟨_,Y,Y,_,Y,?_⟩;refine ite2 (λ_=>⟨_,Y,_,Y,szOk rfl,λq f t c e=>k f _ _ (s.trans c) (.tup e (.cons (.str _) (.cons (n2.same c) (.cons (n1.same c) .nil)))) λg=>.move _ _ r j⟩) λ_=>?_;refine⟨_,Y,Y,_,Y,?_⟩;refine ite2 (λ_=>⟨_,Y,szOk rfl,λq f t c e=>k f _ _ (s.trans c) (.tup e (.cons (.str _) (.cons (n2.same c) .nil))) λg=>.cut _ r⟩) λ_=>?_;refine⟨_,Y,Y,_,Y,?_⟩;refine ite2 (λ_=>?_) λ_=>?_
 ·refine⟨_,Y,_,Y,_,Y,_,Y,dd,_,Y,SqL.of a.at',λN H5 g5 G m=>?_⟩
  refine⟨_,Y,N,p,ws,_,Y,d.mono G,⟨(a.from 2 (by decide) m).at',by have:=(a.from 2 (by decide) m).len;omega,(a.from 2 (by decide) m).few⟩,λH6 v6 sg U O Z V R=>?_⟩;refine⟨szOk rfl,λq f t c e=>?_⟩;have o:=(G.trans U).trans c;exact k f _ _ (s.trans o) (.tup e (.cons (.str _) (.cons (n1.same o) (.cons (db.same o) (.cons (O.same c) .nil))))) λg=>.put _ _ _ j S Z V R
 refine⟨_,Y,Y,_,Y,?_⟩;refine ite2 (λ_=>?_) λ_=>?_
 ·refine⟨_,Y,_,Y,_,Y,dd,_,Y,SqL.of a.at',λN H5 g5 G m=>?_⟩
  refine⟨_,Y,N,p,ws,_,Y,d.mono G,⟨(a.from 1 (by decide) m).at',by have:=(a.from 1 (by decide) m).len;omega,(a.from 1 (by decide) m).few⟩,λH6 v6 nn U O Z V hnn D=>?_⟩;refine⟨szOk rfl,λq f t c e=>?_⟩;have o:=(G.trans U).trans c;exact k f _ _ (s.trans o) (.tup e (.cons (.str _) (.cons (n1.same o) (.cons (O.same c) .nil)))) λg=>.out _ _ j Z V hnn D
 ·exact⟨szOk rfl,λq f t c e=>k f _ _ (s.trans c) (.tup e (.cons (.str _) .nil)) λg=>.nothing⟩
def ok_fAk(T:Txt K mg tk)(F:FO K mg "_law_refused" s_fAk)(f:O_fAh P w K mg base)(b:IsX K c_NoSet M__law_refused):O_fAk P w K mg base:=by
 refine mk_ok F xAqb (λ_ _ _ _ _ _ u l=>match u,l with|[_,_],_=>rfl) (λ_ _ _ _ h=>xAzh h) λfa y A outer s H vs Q E M h=>?_
 refine⟨_,(xAaa (xAzc f M T.g_Folk T.X_NoSet T.X_FolkError T.A_NoSet_FolkError T.g_FolkError xAqb.nd 2 (a2 (na 0) (na 1)) (λ_=>(xAaa (sn xAqb.nd 3 (xAao (ac (cb (xAbn b) T.b_isinstance boot_isinstance (a2 (na 2) (xAcp (v:=.ref c_NoDeed) rfl T.g_NoDeed rfl))) (ac (cb (xAbn b) T.b_isinstance boot_isinstance (a2 (na 2) (xAcp (v:=.ref c_NoLeave) rfl T.g_NoLeave rfl))) (a2 (cb (xAbn b) T.b_isinstance boot_isinstance (a2 (na 2) (xAcp (v:=.ref c_NoPast) rfl T.g_NoPast rfl))) (cb (xAbn b) T.b_isinstance boot_isinstance (a2 (na 2) (xAcp (v:=.ref c_NoRow) rfl T.g_NoRow rfl))))))))
   (xAaa (sn xAqb.nd 3 (pe_op xAcq (na 3) (xAao (ac (cb (xAbn b) T.b_isinstance boot_isinstance (a2 (na 2) (xAcp (v:=.ref c_NoThing) rfl T.g_NoThing rfl))) (a2 (cb (xAbn b) T.b_isinstance boot_isinstance (a2 (na 2) (xAcp (v:=.ref c_Poured) rfl T.g_Poured rfl))) (cb (xAbn b) T.b_isinstance boot_isinstance (a2 (na 2) (xAcp (v:=.ref c_Unlike) rfl T.g_Unlike rfl))))))))
   (xAad (xAak (xArv (cb (xAbn b) T.b_isinstance boot_isinstance (a2 (na 2) (xAcp (v:=.ref c_NoSet) rfl T.g_NoSet rfl))) (xArv (cb (xAbn b) T.b_isinstance boot_isinstance (a2 (na 2) (xAul (v:=.ty "ValueError") (by rfl) T.b_ValueError xAdw rfl))) (xAuo (ce nsq pe_bl (na 3)))))))))))
   (xAad (xAak pe_bl))),?_⟩
 obtain⟨q,dp,ws,des,fs,rfl,C,k,r,D,B,kk⟩:=h;intro x dx L j V;have sm:=xAcu (o1:=.own x) (o2:=.ins c_Folk dx []) L j;refine⟨x,dx,q,dp,ws,des,fs,Y,xAac,C.mono sm,sm _ _ k,r.imp λ_ _ _ g=>g.mono sm,D,λg=>absurd g B,λ_ H1 m=>⟨Y,λa I=>?_⟩⟩;have m:=sm.trans m;have t:Same H1 (upd H1 a (excO a c_NoSet)):=Same.new I;have c:upd H1 a (excO a c_NoSet) a=some (excO a c_NoSet):=xAac;refine⟨a,_,false,Y,c,Y,?_⟩;refine⟨a,_,false,Y,c,Y,?_⟩;refine⟨a,_,false,Y,c,Y,?_⟩;refine⟨a,_,false,Y,c,Y,szOk rfl,λo X U d O=>?_⟩;refine⟨a,_,false,Y,d _ _ c,Y,?_⟩;refine⟨a,_,false,Y,d _ _ c,Y,?_⟩;refine⟨a,_,false,Y,d _ _ c,Y,szOk rfl,λG S W i N=>?_⟩;refine⟨o,G,_,_,Y,Y,i _ _ O,N,szOk rfl,λp z R n J=>?_⟩;have e:=n _ _ (i _ _ (d _ _ c));refine⟨a,_,true,Y,e,Y,_,Y,iteT ?_⟩;refine⟨a,_,true,Y,e,Y,_,Y,iteT ?_⟩;refine⟨p,_,Y,.inl (SqL.of J),Y,Y,?_⟩;exact kk z (m.trans (t.trans (d.trans (i.trans n))))
def ok_fAx(T:Txt K mg tk)(F:FO K mg "_law_what" s_fAx)(gfBb:O_fBb P w K mg base)(gfAa:O_fAa P w K mg base)(Z:O_fAb P w K mg base)(gfAz:O_fAz P w K mg base):O_fAx P w K mg base:=by
 refine mk_ok F xAqc (λ_ _ _ _ _ _ u l=>match u,l with|[_,_,_],_=>rfl) (λ_ _ _ _ h=>xAwh h) λfa cdv A outer s H vs Q E hr h=>?_
 refine⟨_,(xAaa (sn xAqc.nd 3 (pe_op xAap (xl (vv 0)) xAab))
   (xAaa (sn xAqc.nd 4 (xAar xAaw (vv 0) (xAav xAab) xAax))
   (xAaa (ps_if (ck op_lt (vv 3) xAab) (xAad (xAak (cl Z hr (ac (vv 3) (a2 (vv 4) (vv 1)))))) xAal)
   (xAaa (ps_if (ck op_lt (vv 3) xAab) (xAad (xAak (cl gfAa hr (ac (vv 3) (a2 (vv 4) (vv 1)))))) xAal)
   (xAaa (ps_if (ck op_eq (vv 3) xAab) (xAaa (sn xAqc.nd 5 (xa (xAao (ac xAau (ac xAau (a2 xAau xAau)))) (pe_op xAap (xl (vv 4)) xAab)))
   (xAad (xAak (xAaj (ac xAau (ac (cl gfBb hr (a2 (xl (vv 4)) (vv 1))) (ac (xa (vv 1) (pe_op xAap (xl (vv 4)) (cb xAam T.b_len boot_len (a1 (vv 1))))) (a2 (vv 5) (ce op_eq (pe_op xAap (xl (vv 4)) xAab) xAab))))))))) xAal)
   (xAaa (ps_if (PW.pt (xAum (ck op_lt (vv 3) xAab) (xAqd (ck op_gt (vv 2) xAab)))) (xAad (xAak (xAaj (a2 (xa (xAao (a2 xAau xAau)) (pe_op xAjl (vv 3) xAab)) (pe_op xAbc xAab (pe_op xAap (xl (vv 4)) (pe_op xAjl (vv 2) xAab))))))) xAal)
   (xAaa (ps_if (PW.pt (pw_or (ck op_eq (vv 3) xAab) (pw_or1 (ck op_eq (vv 3) xAab)))) (xAad (xAak (xAaj (a2 (xa (xAao (a2 xAau xAau)) (pe_op xAjl (vv 3) xAab)) (cl gfAz hr (a1 (xl (vv 4)))))))) xAal)
   (xAaa (ps_if (ck op_eq (vv 3) xAab) (xAad (xAak (xAaj (a2 xAau (cy xAcc T.b_tuple boot_tuple (a1 (lc0 (il (xAar xAaw (vv 4) xAax (xAav (cb xAam T.b_len boot_len (a1 (vv 1)))))) (λ_ _ _=>xAbr) (λ_ _ _=>(pe_op xAap (vv 0) (xa (xAao (a2 xAab (pe_op xAbc (pe_op xAit xAab xAab) xAab))) (pe_op xAap (pe_op xAaq (vv 0) xAab) xAab))))))))))) xAal)
   (xAad (xAak (xAaj (a1 xAau)))))))))))),?_⟩
 obtain⟨d0,p,ws,U,C,rfl,b,R,k⟩:=h;obtain⟨g,g0⟩:=R.get 0 (by decide);refine⟨_,Y,d0,_,0,.int g,Y,Y,SqL.of R.at',g0,_,_,Y,Y,(by show(0:Int)<17;decide),?_⟩;refine⟨_,Y,_,Y,d0,_,Y,SqL.of R.at',λdd H1 g1 s e1=>?_⟩;replace b:=b.mono s;have a:=R.from 1 (by decide) e1;have hd6:DR H1 dd (U.drop 1) 6:=⟨a.at',by have:=a.len;omega,a.few⟩;obtain⟨M,h0⟩:=a.get 0 (by decide);obtain⟨a1,h1⟩:=a.get 1 (by decide);obtain⟨a2,h2⟩:=a.get 2 (by decide);obtain⟨a3,h3⟩:=a.get 3 (by decide);refine⟨_,Y,_,_,Y,Y,_,Y,?_⟩;refine ite2 (λ_=>?_) λc1=>?_
 ·exact⟨_,Y,_,Y,_,Y,_,dd,p,ws,_,Y,b,hd6,λf v9 w9 d d9 h9=>k f _ _ (s.trans d) d9 (h9 _)⟩
 refine⟨_,Y,_,_,Y,Y,_,Y,?_⟩;refine ite2 (λ_=>?_) λc2=>?_
 ·exact⟨_,Y,_,Y,_,Y,_,dd,p,ws,_,Y,b,hd6,λf v9 w9 d d9 h9=>k f _ _ (s.trans d) d9 (h9 _)⟩
 refine⟨_,Y,Y,_,Y,?_⟩;refine ite2 (λ_=>?_) λc3=>?_
 ·refine⟨szOk rfl,λD H2 g2 e J=>?_⟩
  replace b:=b.mono e;replace a:=a.mono e;replace s:=s.trans e;refine⟨_,Y,dd,_,2,.int a2,Y,Y,SqL.of a.at',h2,_,_,Y,Y,(by show(0:Int)<4;decide),D,_,_,Y,Y,SqL.of J,xAay _ (by decide),xAaz _ (by decide),λv t=>?_⟩
  obtain⟨z,rfl,hz⟩:∃z:Str,v=.str z/\z∈(["read","note","write","give"]:List Str):=by
   obtain⟨z,hz,rfl⟩:=qj.mp (show v∈(["read","note","write","give"]:List Str).map V.str from t);exact⟨z,Y,hz⟩
  refine⟨_,Y,dd,_,0,.int M,Y,Y,SqL.of a.at',h0,_,Y,_,p,ws,Y,b,λH3 v3 d3 S n3 t3=>?_⟩;obtain⟨pd,rfl,hpd⟩:=t3;replace b:=b.mono S;replace a:=a.mono S;replace s:=s.trans S;refine⟨_,Y,_,Y,dd,_,1,.int a1,Y,Y,SqL.of a.at',h1,_,Y,p,_,Y,.inl (SqL.of b.at'),_,_,Y,Y,b.len.1,p,_,_,Y,Y,SqL.of b.at',xAay _ b.len.1,xAaz _ b.len.1,λv2 hv2=>?_⟩;obtain⟨w,hw,rfl⟩:=qj.mp hv2;exact⟨_,Y,_,Y,dd,_,3,.int a3,Y,Y,SqL.of a.at',h3,_,_,Y,Y,(by show(0:Int)<2;decide),Y,szOk rfl,λN f O d i=>k f _ _ (s.trans d) (.tup i (.cons (.str _) (.cons (n3.same d) (.cons (.str w) (.cons (.str z) (.cons (.bl _) .nil)))))) (.leave _ _ _ _ hpd hw hz)⟩
 have hk:(0:Int)≤g % 17/\g % 17<17:=⟨xAay _ (by decide),xAaz _ (by decide)⟩;have c2:¬g % 17<11:=λz=>c2 (qF z)
 have c3:¬g % 17=11:=λz=>c3 (by rw[decide_eq_true_eq];exact congrArg V.int z)
 refine⟨_,Y,_,_,Y,Y,_,Y,?_⟩;refine ite2 (λc4=>?_) λc4=>iteF ?_
 ·have c4:g % 17<14:=qG c4
  refine⟨_,Y,_,_,Y,Y,_,Y,?_⟩;refine ite2 (λc5=>?_) λc5=>?_
  ·have c5:1<C:=qG c5
   refine⟨szOk rfl,λD H2 g2 e J=>?_⟩;replace b:=b.mono e;replace a:=a.mono e;replace s:=s.trans e;refine⟨_,Y,_,_,Y,Y,D,_,_,Y,Y,SqL.of J,(by show 0≤g % 17 - 12;omega),(by show g % 17 - 12<2;omega),λv t=>?_⟩
   obtain⟨kk,rfl,o⟩:∃z:Str,v=.str z/\(z = "back" \/ z = "again"):=by
    simp only[List.mem_cons,List.not_mem_nil,or_false]at t
    rcases t with rfl|rfl
    ·exact⟨_,Y,.inl rfl⟩
    ·exact⟨_,Y,.inr rfl⟩
   have lo:=xAay M (m:=C - 1) (by omega);have hi:=xAaz M (m:=C - 1) (by omega);exact⟨_,Y,dd,_,0,.int M,Y,Y,SqL.of a.at',h0,_,Y,_,_,Y,Y,_,_,Y,Y,(by show 0<C - 1;omega),_,_,Y,Y,szOk rfl,λN f O d i=>k f _ _ (s.trans d) (.tup i (.cons (.str _) (.cons (.int _) .nil))) (.back _ _ o (by show 1≤1+M % (C - 1);omega) (by show 1+M % (C - 1)<C;omega))⟩
  ·refine⟨_,Y,Y,_,Y,?_⟩
   refine ite2 (λW=>?_) λW=>?_
   ·have W:g % 17=14:=V.int.inj (qG W)
    refine iteT ?_;refine⟨szOk rfl,λD H2 g2 e J=>?_⟩;replace b:=b.mono e;replace a:=a.mono e;replace s:=s.trans e;refine⟨_,Y,_,_,Y,Y,D,_,_,Y,Y,SqL.of J,(by show 0≤g % 17 - 14;omega),(by show g % 17 - 14<2;omega),λv t=>?_⟩
    obtain⟨kk,rfl,o⟩:∃z:Str,v=.str z/\(z = "bring" \/ z = "drop"):=by
     simp only[List.mem_cons,List.not_mem_nil,or_false]at t
     rcases t with rfl|rfl
     ·exact⟨_,Y,.inl rfl⟩
     ·exact⟨_,Y,.inr rfl⟩
    exact⟨_,Y,dd,_,0,.int M,Y,Y,SqL.of a.at',h0,_,Y,λz hz=>⟨szOk rfl,λN f O d i=>k f _ _ (s.trans d) (.tup i (.cons (.str _) (.cons (.str z) .nil))) (.bring _ _ o hz)⟩⟩
   ·refine⟨_,Y,Y,_,Y,?_⟩
    refine ite2 (λX=>?_) λX=>?_
    ·have X:g % 17=15:=V.int.inj (qG X)
     refine⟨szOk rfl,λD H2 g2 e J=>?_⟩;replace b:=b.mono e;replace a:=a.mono e;replace s:=s.trans e;refine⟨_,Y,_,_,Y,Y,D,_,_,Y,Y,SqL.of J,(by show 0≤g % 17 - 14;omega),(by show g % 17 - 14<2;omega),λv t=>?_⟩
     obtain⟨kk,rfl,o⟩:∃z:Str,v=.str z/\(z = "bring" \/ z = "drop"):=by
      simp only[List.mem_cons,List.not_mem_nil,or_false]at t
      rcases t with rfl|rfl
      ·exact⟨_,Y,.inl rfl⟩
      ·exact⟨_,Y,.inr rfl⟩
     exact⟨_,Y,dd,_,0,.int M,Y,Y,SqL.of a.at',h0,_,Y,λz hz=>⟨szOk rfl,λN f O d i=>k f _ _ (s.trans d) (.tup i (.cons (.str _) (.cons (.str z) .nil))) (.bring _ _ o hz)⟩⟩
    ·refine⟨_,Y,Y,_,Y,?_⟩
     refine ite2 (λ_=>?_) λ_=>?_
     ·refine⟨_,Y,_,Y,p,_,Y,.inl (SqL.of b.at'),_,Y,dd,_,Y,SqL.of a.at',λq3 H3 g3 S e3=>?_⟩
      have hcut:(cutV (List.map V.int (U.drop 1)) none (some ((ws.map V.str).length:Int))).length=ws.length:=by
       rw[xAho (by have:=a.len;have:=b.few;rw[qc,qc];omega),qc]
      have h6:=b.few;refine⟨q3,Y,⟨_,SqL.of e3⟩,xAkj (ze (xAag (by omega))) (λj ys H'=>Same H3 H'/\∃r:List Int,ys=r.map V.int/\r.length=j/\∀c∈r,0≤c/\c≤1000000) ⟨Same.refl _,[],Y,Y,λ_ z=>nomatch z⟩ (λ_ _ H' s'=>SqL.of (s'.1 _ _ e3)) (λj x ys H' K1 K0 hx s' k1 k0=>?_) λH' q ys s' hy hq=>?_⟩
      ·obtain⟨m,rfl⟩:=xAfe (qo hx)
       obtain⟨s',r,rfl,G,y⟩:=s';refine iteT (B:=K0 H') ?_;refine⟨_,Y,_,_,Y,Y,⟨by decide,by decide,by decide⟩,_,_,Y,Y,szOk rfl,λq4 H4 g4 s4 e4=>?_⟩;refine⟨_,Y,_,_,Y,Y,⟨by decide,by decide⟩,_,_,Y,Y,(by show(0:Int)<2;decide),q4,_,_,Y,Y,SqL.of e4,xAay _ (by decide),xAaz _ (by decide),λm2 I=>?_⟩
       obtain⟨n,rfl,hn,hn2⟩:∃n,m2=V.int n/\0<n/\n≤1000001:=by
        simp only[List.mem_cons,List.not_mem_nil,or_false]at I
        rcases I with rfl|rfl
        ·exact⟨9,Y,by decide,by decide⟩
        ·exact⟨_,Y,by decide,by decide⟩
       refine⟨_,_,Y,Y,hn,k1 _ H4 ⟨s'.trans s4,r++[m % n],by rw[z0];rfl,by rw[qm,zk,G],λc L=>?_⟩⟩;rcases zb.mp L with L|L
       ·exact y c L
       ·rw[qu.mp L]
        exact⟨xAay _ hn,by have:=xAaz m hn;omega⟩
      ·obtain⟨s',r,rfl,G,y⟩:=s'
       exact⟨q,_,Y,SqL.of xAac,λl H5 g5 s5 e5=>⟨szOk rfl,λN f O d i=>k f _ _ ((s.trans (((S.trans s').up hq).trans s5)).trans d) (.tup i (.cons (.str _) (.cons (.tup (d _ _ e5) (L2.dts_ints _ r)) .nil))) (.pour r (by omega) y)⟩⟩
     ·exact⟨szOk rfl,λN f O d i=>k f _ _ (s.trans d) (.tup i (.cons (.str _) .nil)) .nothing⟩
 ·refine⟨_,Y,Y,_,Y,?_⟩
  refine ite2 (λW=>?_) λW=>?_
  ·have W:g % 17=14:=V.int.inj (qG W)
   refine iteT ?_;refine⟨szOk rfl,λD H2 g2 e J=>?_⟩;replace b:=b.mono e;replace a:=a.mono e;replace s:=s.trans e;refine⟨_,Y,_,_,Y,Y,D,_,_,Y,Y,SqL.of J,(by show 0≤g % 17 - 14;omega),(by show g % 17 - 14<2;omega),λv t=>?_⟩
   obtain⟨kk,rfl,o⟩:∃z:Str,v=.str z/\(z = "bring" \/ z = "drop"):=by
    simp only[List.mem_cons,List.not_mem_nil,or_false]at t
    rcases t with rfl|rfl
    ·exact⟨_,Y,.inl rfl⟩
    ·exact⟨_,Y,.inr rfl⟩
   exact⟨_,Y,dd,_,0,.int M,Y,Y,SqL.of a.at',h0,_,Y,λz hz=>⟨szOk rfl,λN f O d i=>k f _ _ (s.trans d) (.tup i (.cons (.str _) (.cons (.str z) .nil))) (.bring _ _ o hz)⟩⟩
  ·refine⟨_,Y,Y,_,Y,?_⟩
   refine ite2 (λX=>?_) λX=>?_
   ·have X:g % 17=15:=V.int.inj (qG X)
    refine⟨szOk rfl,λD H2 g2 e J=>?_⟩;replace b:=b.mono e;replace a:=a.mono e;replace s:=s.trans e;refine⟨_,Y,_,_,Y,Y,D,_,_,Y,Y,SqL.of J,(by show 0≤g % 17 - 14;omega),(by show g % 17 - 14<2;omega),λv t=>?_⟩
    obtain⟨kk,rfl,o⟩:∃z:Str,v=.str z/\(z = "bring" \/ z = "drop"):=by
     simp only[List.mem_cons,List.not_mem_nil,or_false]at t
     rcases t with rfl|rfl
     ·exact⟨_,Y,.inl rfl⟩
     ·exact⟨_,Y,.inr rfl⟩
    exact⟨_,Y,dd,_,0,.int M,Y,Y,SqL.of a.at',h0,_,Y,λz hz=>⟨szOk rfl,λN f O d i=>k f _ _ (s.trans d) (.tup i (.cons (.str _) (.cons (.str z) .nil))) (.bring _ _ o hz)⟩⟩
   ·refine⟨_,Y,Y,_,Y,?_⟩
    refine ite2 (λ_=>?_) λ_=>?_
    ·refine⟨_,Y,_,Y,p,_,Y,.inl (SqL.of b.at'),_,Y,dd,_,Y,SqL.of a.at',λq3 H3 g3 S e3=>?_⟩
     have hcut:(cutV (List.map V.int (U.drop 1)) none (some ((ws.map V.str).length:Int))).length=ws.length:=by
      rw[xAho (by have:=a.len;have:=b.few;rw[qc,qc];omega),qc]
     have h6:=b.few;refine⟨q3,Y,⟨_,SqL.of e3⟩,xAkj (ze (xAag (by omega))) (λj ys H'=>Same H3 H'/\∃r:List Int,ys=r.map V.int/\r.length=j/\∀c∈r,0≤c/\c≤1000000) ⟨Same.refl _,[],Y,Y,λ_ z=>nomatch z⟩ (λ_ _ H' s'=>SqL.of (s'.1 _ _ e3)) (λj x ys H' K1 K0 hx s' k1 k0=>?_) λH' q ys s' hy hq=>?_⟩
     ·obtain⟨m,rfl⟩:=xAfe (qo hx)
      obtain⟨s',r,rfl,G,y⟩:=s';refine iteT (B:=K0 H') ?_;refine⟨_,Y,_,_,Y,Y,⟨by decide,by decide,by decide⟩,_,_,Y,Y,szOk rfl,λq4 H4 g4 s4 e4=>?_⟩;refine⟨_,Y,_,_,Y,Y,⟨by decide,by decide⟩,_,_,Y,Y,(by show(0:Int)<2;decide),q4,_,_,Y,Y,SqL.of e4,xAay _ (by decide),xAaz _ (by decide),λm2 I=>?_⟩
      obtain⟨n,rfl,hn,hn2⟩:∃n,m2=V.int n/\0<n/\n≤1000001:=by
       simp only[List.mem_cons,List.not_mem_nil,or_false]at I
       rcases I with rfl|rfl
       ·exact⟨9,Y,by decide,by decide⟩
       ·exact⟨_,Y,by decide,by decide⟩
      refine⟨_,_,Y,Y,hn,k1 _ H4 ⟨s'.trans s4,r++[m % n],by rw[z0];rfl,by rw[qm,zk,G],λc L=>?_⟩⟩;rcases zb.mp L with L|L
      ·exact y c L
      ·rw[qu.mp L]
       exact⟨xAay _ hn,by have:=xAaz m hn;omega⟩
     ·obtain⟨s',r,rfl,G,y⟩:=s'
      exact⟨q,_,Y,SqL.of xAac,λl H5 g5 s5 e5=>⟨szOk rfl,λN f O d i=>k f _ _ ((s.trans (((S.trans s').up hq).trans s5)).trans d) (.tup i (.cons (.str _) (.cons (.tup (d _ _ e5) (L2.dts_ints _ r)) .nil))) (.pour r (by omega) y)⟩⟩
    ·exact⟨szOk rfl,λN f O d i=>k f _ _ (s.trans d) (.tup i (.cons (.str _) .nil)) .nothing⟩
def ok_fAu(T:Txt K mg tk)(F:FO K mg "_law_house" s_fAu)(gfAm:O_fAm P w K mg base)(gfAt:O_fAt P w K mg base)(gfAy:O_fAy P w K mg base)(gfAx:O_fAx P w K mg base):O_fAu P w K mg base:=by
 refine mk_ok F xAbo (λ_ _ _ _ _ _ u l=>match u,l with|[_,_],_=>rfl) (λ_ _ _ _ h=>xAwi h) λfa cdv A outer s H vs Q E hr h=>?_;have hu1:(A.deeper (envOfC "_law_house" (defScope s_fAu) s.heap.objs.size fa cdv)).units+1<cLine:=hu_of hr
 refine⟨_,(xAaa (sn xAbo.nd 2 (pe_op xAvm (vv 0) (xAao (a1 xAab))))
   (xAaa (sn xAbo.nd 3 (cl gfAy hr (a1 (xl (vv 2)))))
   (xAaa (sm xAbo.nd 4 (cb xAam T.b_len boot_len (a1 (vv 3))))
   (xAaa (sm xAbo.nd 5 (lcd (defScope s_fAu) N_fAu [("_law_many",4)] (il (vv 3)) (λ_ _ _=>xAbr) (λ_ _ _=>(pe_op xAvk (xAao (a1 xAab)) (vc 1)))))
   (xAaa (sn xAbo.nd 6 xAsk)
   (xAaa (sn xAbo.nd 7 (xAao xAdt))
   (xAaa (fo (xAke (by rfl) T.b_enumerate (a1 (xAar xAaw (vv 0) (xAav xAab) (xAav (vv 1))))) (gt (xAan (gn xAbo.nd 8) (xAan (gn xAbo.nd 9) xAca)))
   (xAaa (sn xAbo.nd 10 (cl gfAt hr (a2 (pe_op xAbc (vv 9) (pe_op xAch (pe_op xAch (pe_op xAch xAab xAab) (vv 8)) (vv 8))) xAab)))
   (xAaa (sm xAbo.nd 11 (pe_op xAap (xl (vv 10)) (vc 4)))
   (xAaa (fo (xAbu (by rfl) T.b_range (a1 (pe_op xAap (pe_op xAaq (xl (vv 10)) (vc 4)) xAab))) (gn xAbo.nd 12)
   (xAaa (sn xAbo.nd 13 (pe_op xAap (xa (vv 10) (pe_op xAbc xAab (vv 12))) (vc 4)))
   (xAaa (sn xAbo.nd 14 (pe_op xAap (pe_op xAaq (xa (vv 10) (pe_op xAbc xAab (vv 12))) (vc 4)) (pe_op xAbc (xi (xi (vc 5) (vv 13)) (vv 13)) xAab)))
   (xAad (ps_if (ck op_gt (vv 14) (xi (xi (vc 5) (vc 11)) (vv 13))) (xAaa (sm xAbo.nd 15 (xAql hu1 (vv 6) (xAaj (a2 (vv 13) (vv 14))) (λ_ _=>rfl)))
   (xAaa (xAis (lcd (defScope s_fAu) N_fAu [("_law_known",5),("_law_who",11),("_law_theirs",15)] (xAbu (by rfl) T.b_range (a1 (vc 4))) (λ_ _ _=>xAbr) (λ_ _ _=>(cb (xAcs rfl) T.b_max boot_max (a2 (xi (xi (vc 1) (vc 2)) (vv 0)) (xi (vc 3) (vv 0)))))) (xArw (vc 5) (vc 11) xAfw))
   (xAad (xAis (cb (xAcs rfl) T.b_max boot_max (a2 (xi (xi (vc 5) (vc 11)) (vv 13)) (vv 14))) (xArw (xi (vc 5) (vc 11)) (vv 13) xAfw))))) xAal)))))
   (xAaa (sn xAbo.nd 16 (pe_op xAbc (xi (xi (vc 5) (vc 11)) (vc 11)) xAab))
   (xAaa (sn xAbo.nd 17 (cy xAcc T.b_tuple boot_tuple (a1 (xi (vc 5) (vc 11)))))
   (xAaa (xAvg hu1 (vv 6) (xAaj (a2 (vc 11) (vv 16))) (cy xAej T.b_list boot_list (a1 (vv 17))) rfl)
   (xAaa (xAis (vv 16) (xArw (xi (vc 5) (vc 11)) (vc 11) xAfw))
   (xAaa (sn xAbo.nd 18 (cl gfAx hr (ac (xAar xAaw (vv 10) (xAav xAab) xAax) (a2 (vv 3) (vv 16)))))
   (xAad (ap (vv 7) (a1 (xAaj (ac (xi (vv 3) (vc 11)) (ac (vv 16) (ac (vv 17) (a2 (cl gfAm hr (a2 (xl (vv 10)) (vv 3))) (vv 18))))))))))))))))))
   (xAad (xAak (xAaj (a2 (vv 3) (vv 7)))))))))))),?_⟩
 obtain⟨sp,U,b,rfl,hs,hl,k⟩:=h;refine⟨_,Y,szOk rfl,λp1 H1 g1 s1 e1=>?_⟩;refine⟨sp,p1,_,_,Y,Y,hs.same s1,e1,by rw[qc];exact ze (xAag (by show U.length+1≤1000;omega)),λp2 H2 g2 s2 e2=>?_⟩
 obtain⟨i0,h0⟩:∃i0,atI (List.map V.int U++[V.int 0]) (0:Int)=some (.int i0):=by
  cases U with
  |nil=>exact⟨0,Y⟩
  |cons n U=>exact⟨n,xAbq (j:=0) rfl⟩
 refine⟨_,Y,p2,_,_,_,Y,Y,SqL.of e2,h0,_,Y,λH3 rp ws s3 g3 rl h2 nd=>?_⟩;refine⟨_,Y,rp,_,Y,.inl (SqL.of rl.at'),?_⟩;generalize hM:(ws.map V.str).length=M
 have hM':ws.length=M:=by rw[←hM,qc]
 have hM0:0<M/\M≤6:=⟨by have:=rl.pos;omega,by have:=rl.few;omega⟩
 refine⟨_,Y,rp,Y,⟨_,SqL.of rl.at'⟩,xAkj (xs:=ws.map V.str) (ze (xAag (by omega)))
  (λi ys H'=>Same H3 H'/\∃ks:List Addr,ys=ks.map V.ref/\ks.length=i/\ks.Nodup/\∀kk∈ks,H3 kk=none/\H' kk=some (.lst (Hs.rowV (List.replicate M 0))))
  ⟨Same.refl _,[],Y,Y,wm,λ_ z=>nomatch z⟩ (λ_ _ H' s'=>SqL.of (s'.1 _ _ rl.at')) (λj x ys H' K1 K0 hx s' k1 k0=>?_) λH' kp ys s' hy hq=>?_⟩
 ·obtain⟨s',ks,rfl,hk,nd',I⟩:=s'
  refine iteT (B:=K0 H') ?_;refine⟨szOk rfl,λq1 H4 g4 s4 e4=>?_⟩;refine⟨_,Y,q1,_,_,Y,Y,e4,by omega,by omega,(by show 1 * (M:Int).toNat≤sizeLine;rw[Nat.one_mul,Int.toNat_natCast];exact ze (xAag (by omega))),λq2 H5 g5 s5 e5=>?_⟩;rw[Hs.flat_zero]at e5;refine k1 _ _ ⟨(s'.trans s4).trans s5,ks++[q2],by rw[z0];rfl,by rw[qm,zk,hk],?_,λkk hkk=>?_⟩
  ·refine xAhm nd' λz=>?_
   have:=s4 _ _ (I q2 z).2;rw[g5]at this;cases this
  ·rcases zb.mp hkk with z|z
   ·exact⟨(I kk z).1,s5 _ _ (s4 _ _ (I kk z).2)⟩
   ·rw[qu.mp z]
    exact⟨(s'.trans s4).free g5,e5⟩
 ·obtain⟨s',ks,rfl,hk,nd',I⟩:=s'
  rw[hM]at hk;refine λtp H4 g4 s4 e4=>?_;refine⟨szOk rfl,λdp H5 g5 s5 e5=>?_⟩;have gk:∀{a o},H' a=some o->(upd H' kp (.lst (ks.map V.ref))) a=some o:=λ{a o} e=>Same.new hq a o e
  have st:Hs.HSt H3 H5 kp tp dp ws (List.replicate M (List.replicate M 0)) [] [] ks [] []:=by
   have kd:kp≠dp:=xAai (s4 _ _ xAac) g5;refine⟨((s'.up hq).trans s4).trans s5,s5 _ _ (s4 _ _ xAac),by rw[hk,gr],λi kk e=>?_,nd',λz=>?_,kd,λz=>?_,s'.free hq,(s'.up hq).free g4,((s'.up hq).trans s4).free g5,λkk z=>(I kk z).1,s5 _ _ e4,(λd z=>nomatch z),qd _,e5,⟨Y,λi d z=>by cases z⟩⟩
   ·have hi:=(qy.mp e).1
    rw[Hs.replicate_rows (by omega)];exact s5 _ _ (s4 _ _ (gk (I kk (qo e)).2))
   ·have:=(I kp z).2
    rw[hq]at this;cases this
   ·have:=s4 _ _ (gk (I dp z).2)
    rw[g5]at this;cases this
  refine⟨_,Y,_,Y,_,Y,_,Y,sp,_,Y,((hs.same s1).same s2).same (s3.trans st.same),λq6 H6 g6 s6 e6=>?_⟩;have st6:=st.guard g6 s6 e6
  have W:∀{n:Nat},n≤(cutV (List.map V.int U) (some 1) (some b)).length->n≤U.length - 1:=λh=>by
   refine qh h ?_;unfold cutV;rw[zj,zo,qc];have:HT.sIx U.length 0 (some 1)=min 1 U.length:=HT.sIx_nat _ _ 1;rw[this];omega
  have hcut:(cutV (List.map V.int U) (some 1) (some b)).length≤63:=qh (xAci _ _ _) (by rw[qc];exact hl);have N:=Hs.Kn.start M
  refine⟨q6,Y,⟨_,SqL.of e6⟩,xAkf (xs:=cutV (List.map V.int U) (some 1) (some b)) (λi σ H7=>∃(kn:List (List Nat)) (ds:List Hs.Dd) (ks:List Addr) (kvs:List (List Key×V)) (des:List V) (v8 v9 v10 v11 G y D g v16 Z v18:Option V),
    σ=[some (.ref sp),some (.int b),some (.ref p2),some (.ref rp),some (.int M),some (.ref kp),some (.ref tp),some (.ref dp),v8,v9,v10,v11,G,y,D,g,v16,Z,v18] ∧
    Hs.HSt (upd H3 q6 (.lst (cutV (List.map V.int U) (some 1) (some b)))) H7 kp tp dp ws kn ds ds ks kvs des/\Hs.Kn M ds kn/\Hs.Wh M ds/\ds.length≤i/\∀d∈ds,BrD ws d.br/\WhatD ws d.num d.wt)
   ⟨_,[],ks,[],[],none,none,none,none,none,none,none,none,none,none,none,Y,st6,N.1,N.2,qd _,λ_ z=>nomatch z⟩ ?_ ?_ ?_⟩
  ·rintro i σ H7 _ ⟨kn,ds,ks,kvs,des,v8,v9,v10,v11,G,y,D,g,v16,Z,v18,rfl,h7,_⟩
   exact SqL.of (h7.same _ _ xAac)
  ·rintro i x σ H7 pe hx ⟨kn,ds,ks,kvs,des,v8,v9,v10,v11,G,y,D,g,v16,Z,v18,rfl,h7,K7,W7,hlen,hbw⟩ hpe
   obtain⟨c,rfl⟩:=xAfe (qo hx);have hi:i<63:=qv (qy.mp hx).1 hcut;refine⟨pe,_,Y,SqT.of xAac,Y,?_⟩;have h7:=h7.mono (Same.new (o:=.tup [.int i,.int c]) hpe);refine⟨_,_,Y,_,_,Y,Y,?_⟩;refine⟨_,Y,_,_,Y,Y,.inl ⟨by decide,by decide⟩,_,Y,_,_,Y,Y,.inl ⟨by decide,by decide⟩,_,Y,_,_,Y,Y,.inr ⟨by omega,by omega⟩,_,_,Y,Y,_,22,Y,by decide,λH8 p1 ms s8 g8 d8 hl8=>?_⟩;have h8:=h7.guard g8 s8 d8.at';obtain⟨a0,h0⟩:=d8.get 0 (by decide);refine⟨_,Y,p1,_,0,.int a0,Y,Y,SqL.of d8.at',h0,_,Y,_,_,Y,Y,(by omega:(0:Int)<M),?_⟩;obtain⟨w,hw⟩:=Int.eq_ofNat_of_zero_le (xAay a0 (by omega:(0:Int)<M))
   have C:w<M:=by have:=xAaz a0 (by omega:(0:Int)<M);omega
   show gName 11 (V.int (a0 % (M:Int))) _ _ _;rw[hw];have hr3:0≤a0 / (M:Int) % 3/\a0 / (M:Int) % 3<3:=⟨xAay _ (by decide),xAaz _ (by decide)⟩
   refine⟨_,Y,p1,_,0,.int a0,Y,Y,SqL.of d8.at',h0,_,Y,_,_,Y,Y,⟨by omega,by omega⟩,_,_,Y,Y,(by show(0:Int)<3;decide),_,Y,by omega,by omega,xAcb (n:=(a0 / (M:Int) % 3).toNat)
    (λj σ H9=>∃(kn:List (List Nat)) (ks:List Addr) (G y D g:Option V),
     σ=[some (.ref sp),some (.int b),some (.ref p2),some (.ref rp),some (.int M),some (.ref kp),some (.ref tp),some (.ref dp),some (.int i),some (.int c),some (.ref p1),some (.int w),G,y,D,g,v16,Z,v18] ∧
     Hs.HSt (upd (upd H3 q6 (.lst (cutV (List.map V.int U) (some 1) (some b)))) p1 (.lst (List.map V.int ms))) H9 kp tp dp ws kn ds ds ks kvs des/\Hs.Kn M ds kn)
    ⟨kn,ks,G,y,D,g,Y,h8,K7⟩ ?_ ?_⟩
   ·rintro j σ H9 hj ⟨kn,ks,G,y,D,g,rfl,O,J⟩
    have hj3:j<3:=by omega
    have d9:DR H9 p1 ms 22:=⟨O.same _ _ xAac,d8.len,d8.few⟩
    have hpos:(0:Int)≤1+(0+(j:Int))/\1+(0+(j:Int))<((List.map V.int ms).length:Int):=by rw[qc];omega
    refine⟨_,Y,_,Y,_,_,Y,Y,p1,_,_,Y,Y,SqL.of d9.at',hpos.1,hpos.2,λv hv=>?_⟩;obtain⟨b1,_,rfl⟩:=qj.mp hv;refine⟨_,Y,_,_,Y,Y,(by omega:(0:Int)<M),?_⟩;obtain⟨o,ho⟩:=Int.eq_ofNat_of_zero_le (xAay b1 (by omega:(0:Int)<M))
    have hoM:o<M:=by have:=xAaz b1 (by omega:(0:Int)<M);omega
    show gName 13 (V.int (b1 % (M:Int))) _ _ _;rw[ho];obtain⟨ko,hko,eko,ako⟩:=O.rowAt (i:=o) (by rw[J.len];exact hoM);obtain⟨kw,hkw,S,R⟩:=O.rowAt (i:=w) (by rw[J.len];exact C);have lo:(Hs.rowOf kn o).length=M:=J.row o hoM;have lw:(Hs.rowOf kn w).length=M:=J.row w C;refine⟨_,Y,_,Y,_,_,Y,Y,p1,_,_,Y,Y,SqL.of d9.at',hpos.1,hpos.2,λv hv=>?_⟩;obtain⟨b2,_,rfl⟩:=qj.mp hv;refine⟨_,Y,_,_,Y,Y,⟨by omega,by omega⟩,_,Y,_,Y,kp,_,_,_,Y,Y,SqL.of O.kat,ako,_,Y,ko,_,_,_,Y,Y,SqL.of eko,Hs.atI_row (by omega),_,_,Y,Y,_,_,Y,Y,(by omega),?_⟩;have hto:=xAay (b2 / (M:Int)) (m:=((Hs.at0 (Hs.rowOf kn o) o:Nat):Int)+1) (by omega);have hto2:=xAaz (b2 / (M:Int)) (m:=((Hs.at0 (Hs.rowOf kn o) o:Nat):Int)+1) (by omega);obtain⟨t,ht⟩:=Int.eq_ofNat_of_zero_le hto;rw[ht]at hto2;show gName 14 (V.int (b2 / (M:Int) % (((Hs.at0 (Hs.rowOf kn o) o:Nat):Int)+1))) _ _ _;rw[ht];refine⟨_,Y,_,Y,_,Y,kp,_,_,_,Y,Y,SqL.of O.kat,R,_,Y,kw,_,_,_,Y,Y,SqL.of S,Hs.atI_row (by omega),_,_,Y,Y,_,Y,?_⟩;refine ite2 (λhgt=>?_) λ_=>?_
    ·have hgt:Hs.at0 (Hs.rowOf kn w) o<t:=by
      have:=qG hgt;omega
     obtain⟨e,he,ew,en⟩:=J.has (j:=o) (k:=t) hoM (by omega) (by omega);subst ew en;obtain⟨qe,ve,ee,_⟩:=O.tab e he;refine⟨_,Y,_,Y,_,Y,szOk rfl,λpt Ht gt st' et=>?_⟩;have hT:=O.mono st';refine⟨tp,.ref qe,Y,ve▸DGet.t (k:=Hs.keyD e) hT.tat et,?_⟩;have le:e.hd.length=M:=W7.len e he;have hn:((M:Int)).toNat=M:=Int.toNat_natCast M
     refine⟨_,Y,_,Y,by omega,by omega,xAkk (n:=(M:Int).toNat) (by rw[hn];exact ze (xAag (by omega)))
      (λa ys H'=>Same Ht H'/\ys=Hs.rowV ((List.range a).map λa=>max (Hs.at0 (Hs.rowOf kn w) a) (Hs.at0 e.hd a))) ⟨Same.refl _,Y⟩ (λa ys H' K1 K0 ha s' k1 k0=>?_) λH' pn ys s' hy hq=>?_⟩
     ·obtain⟨s',rfl⟩:=s'
      rw[hn]at ha;refine iteT (B:=K0 H') ?_;refine⟨_,Y,_,Y,kp,_,_,_,Y,Y,SqL.of (s' _ _ hT.kat),R,_,Y,kw,_,_,_,Y,Y,SqL.of (s' _ _ (st' _ _ S)),Hs.atI_0 (Hs.atI_row (by omega)),_,Y,_,Y,qe,_,_,_,Y,Y,SqL.of (s' _ _ (st' _ _ ee)),Hs.atI_0 (Hs.atI_row (by omega)),_,_,Y,?_⟩;show K1 (V.int (if((Hs.at0 e.hd a:Nat):Int)>((Hs.at0 (Hs.rowOf kn w) a:Nat):Int) then((Hs.at0 e.hd a:Nat):Int) else((Hs.at0 (Hs.rowOf kn w) a:Nat):Int))) H';rw[Hs.max_nat];refine k1 _ _ ⟨s',?_⟩;rw[ji,z0];unfold Hs.rowV;rw[z0];rfl
     ·obtain⟨s',rfl⟩:=s'
      have hT':=hT.mono s';have f:=hT'.swap (i:=w) (p:=pn) (r:=(List.range (M:Int).toNat).map λa=>max (Hs.at0 (Hs.rowOf kn w) a) (Hs.at0 e.hd a)) (by rw[J.len];exact C) hq;rw[y9]at f
      have hwl:w<kn.length:=by rw[J.len];exact C
      obtain⟨kw2,hkw2,ekw2,akw2⟩:=f.rowAt (i:=w) (by rw[wf];exact hwl);rw[show Hs.rowOf (kn.set w ((List.range (M:Int).toNat).map λa=>max (Hs.at0 (Hs.rowOf kn w) a) (Hs.at0 e.hd a))) w=(List.range (M:Int).toNat).map (λa=>max (Hs.at0 (Hs.rowOf kn w) a) (Hs.at0 e.hd a)) from Hs.getD_set_self hwl]at ekw2;rw[y9]at akw2;have L:=f.kat;rw[y9]at L;refine⟨_,Y,_,Y,kp,_,_,w,Y,Y,(by rw[xAaf (xAai hT'.kat hq)];exact hT'.kat),Hs.ixN_nat (by rw[qc,hT'.klen];exact hwl),?_⟩
      have hlen2:e.who<((List.range (M:Int).toNat).map λa=>max (Hs.at0 (Hs.rowOf kn w) a) (Hs.at0 e.hd a)).length:=by rw[qc,vj,hn];exact hoM
      refine⟨_,Y,_,Y,kp,_,_,_,Y,Y,SqL.of L,akw2,_,Y,kw2,_,_,_,Y,Y,SqL.of ekw2,Hs.atI_row hlen2,_,Y,_,_,Y,_,Y,_,Y,kp,_,_,_,Y,Y,SqL.of L,akw2,_,Y,kw2,_,_,e.who,Y,Y,ekw2,Hs.ixN_nat (by rw[qc];exact hlen2),?_⟩;have h11:=f.row (i:=w) (k:=kw2) (r:=((List.range (M:Int).toNat).map λa=>max (Hs.at0 (Hs.rowOf kn w) a) (Hs.at0 e.hd a)).set e.who (max (Hs.at0 ((List.range (M:Int).toNat).map λa=>max (Hs.at0 (Hs.rowOf kn w) a) (Hs.at0 e.hd a)) e.who) e.num)) hkw2;rw[←Hs.rowV_set]at h11
      have ex:(kn.set w ((List.range (M:Int).toNat).map λa=>max (Hs.at0 (Hs.rowOf kn w) a) (Hs.at0 e.hd a))).set w (((List.range (M:Int).toNat).map λa=>max (Hs.at0 (Hs.rowOf kn w) a) (Hs.at0 e.hd a)).set e.who (max (Hs.at0 ((List.range (M:Int).toNat).map λa=>max (Hs.at0 (Hs.rowOf kn w) a) (Hs.at0 e.hd a)) e.who) e.num))=kn.set w (Hs.merged M (Hs.rowOf kn w) e.hd e.who e.num):=by
       rw[List.set_set,hn];unfold Hs.merged;rw[Hs.getD_range _ hoM]
      rw[ex]at h11;have vx:V.int (if((e.num:Nat):Int)>((Hs.at0 ((List.range (M:Int).toNat).map λa=>max (Hs.at0 (Hs.rowOf kn w) a) (Hs.at0 e.hd a)) e.who:Nat):Int) then((e.num:Nat):Int) else((Hs.at0 ((List.range (M:Int).toNat).map λa=>max (Hs.at0 (Hs.rowOf kn w) a) (Hs.at0 e.hd a)) e.who:Nat):Int))=Hs.nV (max (Hs.at0 ((List.range (M:Int).toNat).map λa=>max (Hs.at0 (Hs.rowOf kn w) a) (Hs.at0 e.hd a)) e.who) e.num):=congrArg V.int (Hs.max_nat _ _);rw[←vx]at h11;exact⟨_,ks.set w pn,_,_,_,_,Y,h11,J.merge W7 C he hgt⟩
    ·exact⟨kn,ks,_,_,_,_,Y,O,J⟩
   ·rintro σ H9 ⟨kn,ks,G,y,D,g,rfl,O,J⟩
    have hwl:w<kn.length:=by rw[J.len];exact C
    obtain⟨kw,hkw,S,R⟩:=O.rowAt (i:=w) hwl;have lw:(Hs.rowOf kn w).length=M:=J.row w C;refine⟨_,Y,_,Y,kp,_,_,_,Y,Y,SqL.of O.kat,R,_,Y,kw,_,_,_,Y,Y,SqL.of S,Hs.atI_row (by omega),_,_,Y,Y,?_⟩;show gName 16 (Hs.nV (Hs.at0 (Hs.rowOf kn w) w+1)) _ _ _;refine⟨_,Y,_,Y,kp,_,_,_,Y,Y,SqL.of O.kat,R,kw,_,Y,SqL.of S,λph H10 g10 s10 e10=>?_⟩;have f:=O.mono s10;refine⟨_,Y,ph,_,Y,.inr (SqT.of e10),λpl H11 g11 s11 e11=>?_⟩;refine⟨_,Y,_,Y,_,Y,szOk rfl,λpt H12 g12 s12 e12=>?_⟩;have h12:=(f.mono s11).mono s12;refine⟨tp,_,Y,DPut.t (k:=Hs.keyD (Hs.nextD kn w .none [])) h12.tat e12 (z9 h12.tlen (xAag (by omega))),?_⟩
    have h13:=h12.put (d:=Hs.nextD kn w .none []) (q:=pl) (s12 _ _ e11) (λz=>xAai f.kat g11 z.symm) (λz=>xAai f.dat g11 z.symm) (λz=>by
      obtain⟨a,ha,e2⟩:=zx.mp z
      exact xAai (f.rows a pl (by rw[qf ha,e2])) g11 rfl)
     (λe he=>Hs.keyD_ne λz=>by
      have q1:=J.cnt e he;rw[z.1,z.2]at q1;have q2:(Hs.nextD kn w .none []).num=Hs.at0 (Hs.rowOf kn w) w+1:=rfl;have q3:(Hs.nextD kn w .none []).who=w:=rfl;rw[q2,q3]at q1
      omega)
    refine⟨_,Y,_,Y,_,Y,kp,_,_,_,Y,Y,SqL.of h13.kat,R,_,Y,kw,_,_,w,Y,Y,h13.rows w kw hkw,Hs.ixN_nat (by rw[qc];omega),?_⟩;have h14:=h13.row (i:=w) (k:=kw) (r:=(Hs.rowOf kn w).set w (Hs.at0 (Hs.rowOf kn w) w+1)) hkw;rw[←Hs.rowV_set]at h14;have d14:DR _ p1 ms 22:=⟨h14.same _ _ xAac,d8.len,d8.few⟩;have sG:Same H3 (upd (upd H3 q6 (.lst (cutV (List.map V.int U) (some 1) (some b)))) p1 (.lst (List.map V.int ms))):=(Same.new (st.same.free g6)).up (h7.same.free g8);have r14:=rl.mono (sG.trans h14.same);refine⟨_,Y,_,Y,p1,_,Y,SqL.of d14.at',λq15 H15 g15 s15 e15=>?_⟩;have d15:=d14.from 4 (by decide) e15;refine⟨_,Y,_,Y,q15,rp,ws,_,_,Y,r14.mono s15,⟨d15.at',qh (by decide) d15.len,d15.few⟩,λH16 vw wt s16 dw hww2=>?_⟩;have h16:=(h14.mono s15).mono s16;have r16:=(r14.mono s15).mono s16;have d16:=(d14.mono s15).mono s16;obtain⟨a3,h3⟩:=d16.get 3 (by decide)
    have hww:w<ws.length:=by omega
    have hwd:atI (ws.map V.str) (w:Int)=some (.str ws[w]):=xAbq (by rw[qi,qf hww];rfl);refine⟨_,Y,.inl ⟨Y,_,SqL.of h16.dat⟩,_,Y,_,Y,rp,_,_,_,Y,Y,SqL.of r16.at',hwd,_,Y,_,Y,_,Y,p1,_,3,.int a3,Y,Y,SqL.of d16.at',h3,_,Y,_,rp,ws,Y,r16,λH17 vb br s17 dbr hbr=>?_⟩;refine⟨_,Y,szOk rfl,λpd H18 g18 s18 e18=>?_⟩;have h18:=(h16.mono s17).mono s18;refine⟨dp,_,_,Y,Y,h18.dat,(by rw[h18.deeds.1];exact xAag (by omega)),?_⟩;have pt1:ph≠tp:=λz=>xAai O.tat g10 z.symm;have pt2:ph≠kw:=λz=>xAai S g10 z.symm
    have eph:H18 ph=some (.tup (Hs.rowV (Hs.rowOf kn w))):=by
     refine s18 _ _ (s17 _ _ (s16 _ _ (s15 _ _ ?_)));rw[xAaf pt2,xAaf pt1];exact s12 _ _ (s11 _ _ e10)
    refine⟨_,ds++[Hs.nextD kn w br wt],ks,_,_,_,_,_,_,_,_,_,_,_,_,_,Y,((h18.retab (d2:=Hs.nextD kn w br wt) rfl rfl).add (d:=Hs.nextD kn w br wt) (v:=.ref pd) ⟨pd,ws[w],ph,vb,vw,Y,qf hww,e18,eph,dbr.same s18,dw.same (s17.trans s18)⟩).weak (Same.new (h7.same.free g8)),J.next W7 C,W7.next J C,?_,λd hd=>?_⟩
    ·rw[qm,zk]
     omega
    ·rcases zb.mp hd with hd|hd
     ·exact hbw d hd
     ·rw[qu.mp hd]
      exact⟨hbr,hww2⟩
  ·rintro σ H7 ⟨kn,ds,ks,kvs,des,v8,v9,v10,v11,G,y,D,g,v16,Z,v18,rfl,h7,K7,W7,hlen,hbw⟩
   have X:Hs.HSt H3 H7 kp tp dp ws kn ds ds ks kvs des:=h7.weak (Same.new (st.same.free g6));have s03:Same H H3:=(s1.trans s2).trans s3;refine⟨_,Y,_,Y,szOk rfl,λq8 H8 g8 s8 e8=>?_⟩;exact k H8 q8 rp dp ws ds des ((s03.trans X.same).trans s8) ((s03.trans X.same).free g8) e8 (rl.mono (X.same.trans s8)) h2 nd (s03.free X.fd) (s8 _ _ X.dat) (X.deeds.mono s8) (hM'▸W7) hbw (W hlen)
def ok_fBg(T:Txt K mg tk){fd:FuncData}(F:Fun K "law" "law" s_fBg fa fd)(L:O_fAh P w K mg base)(gfAl:O_fAl P w K mg base)(gfAp:O_fAp P w K mg base)(gfAr:O_fAr P w K mg base)(gfAt:O_fAt P w K mg base)(gfAu:O_fAu P w K mg base)(gfAi:O_fAi P w K mg base)(gfAk:O_fAk P w K mg base)(gfAj:O_fAj P w K mg base):FnOk P w K mg base CX0 8 fa fd ["_law_script"] sp_fBg:=by
 refine F.ok xAhb (λ_ _ _ _ h=>xAzl h) λcdv A outer s H vs Q E n h=>?_
 refine⟨_,(xAaa (xAis (cl gfAu n (a2 (na 0) xAab)) (gt (xAan (gn xAhb.nd 1) (xAan (gn xAhb.nd 2) xAca))))
   (xAaa (ps_if (ck (enl n) (na 2) (xAao xAdt)) (xAad (xAak (xArv (ce (enl n) (me0 T.C_Folk gfAp n (mcX L passF n T.g_Folk (a2 (na 1) (xAao xAdt)))) (xAao xAdt)) (xAuo (ce (eqD n) (me0 T.C_Folk gfAl n (mcX L passF n T.g_Folk (a2 (na 1) (xAao xAdt)))) (pe_op xAxj (xAaj (a1 xAab)) (cb xAam T.b_len boot_len (a1 (na 1))))))))) xAal)
   (xAaa (fo (xAke (by rfl) T.b_enumerate (a1 (pe_op xAcq (xAar xAaw (na 0) xAax (xAav xAab)) (xAao (a1 (cb xAam T.b_len boot_len (a1 (na 0)))))))) (gt (xAan (gn xAhb.nd 3) (xAan (gn xAhb.nd 4) xAca)))
   (xAaa (sn xAhb.nd 5 (xl (cl gfAt n (a2 (pe_op xAbc (na 4) (pe_op xAch (pe_op xAch (pe_op xAch xAab xAab) (na 3)) (na 3))) xAab))))
   (xAaa (sn xAhb.nd 6 (cl gfAj n (ac (na 2) (a2 (na 1) (na 5)))))
   (xAad (ps_if (xAru (cl gfAi n (a2 (na 6) (na 1)))) (xAad (ps_if (ck (neD n) (cb (xAgh (hu61 n)) T.b_sorted boot_sorted (a1 (me0 T.C_Folk gfAr n (mcX L passF n T.g_Folk (a2 (na 1) (na 6)))))) (cb (xAgw (hu61 n) n.hd) T.b_sorted boot_sorted (a1 (cy (xApw rfl (hu4 n)) T.b_set boot_set (a1 (lc0 (il (na 6)) (λ_ _ _=>xAbr) (λ_ _ _=>(xAaj (a2 (xt (na 0)) (xt (na 0))))))))))) (xAad (xAak pe_bl)) xAal)) (xAad (ps_if (xAun (xAru (cl gfAk n (a2 (na 1) (na 6))))) (xAad (xAak pe_bl)) xAal)))))))
   (xAad (xAak pe_bl))))),?_⟩
 obtain⟨sp,l,rfl,hs,hl,kk⟩:=h;refine⟨sp,l,17,Y,hs,hl,λH1 p M dp ws ds des s1 g1 e1 rl h2 nd gd e2 dds W bw hdl=>?_⟩;refine⟨p,_,Y,SqT.of e1,Y,_,_,Y,_,_,Y,Y,?_⟩;have an:=xAtm dds;have hdes:des.length=ds.length:=an.1;have few6:=rl.few
 have hm1:0<ws.length:=by omega
 refine⟨szOk rfl,λp0 H2 g2 s2 e0=>⟨dp,p0,des,Y,Y,SqL.of (s2 _ _ e2),SqL.of e0,_,Y,ite2 (λhnil=>?_) (λhnn=>?_)⟩⟩
 ·have hd0:des=[]:=qG hnil
  have D0:D5 ws []:=⟨nd,λd h=>(by cases h),λd h=>(by cases h),λd h=>(by cases h),λd h=>(by cases h),qk _,λd h=>(by cases h)⟩;have G0:Good5 ws.length []:=⟨λd h=>(by cases h),λd h=>(by cases h)⟩;refine⟨szOk rfl,λp3 H3 g3 s3 e3=>?_⟩;intro x dx nx ndx ne;have sm:=xAcu (o1:=.own x) (o2:=.ins c_Folk dx []) nx ndx;have R:=s2.trans s3;refine⟨x,dx,M,p3,ws,[],[],Y,xAac,(rl.mono R).mono sm,sm _ _ e3,.nil,D0,λ_ H4 hn ss s4 mem B=>⟨Y,?_⟩,λng=>absurd G0 ng⟩;have B:=FK.all λS h=>B S λb z=>(h b z).elim
  have hss:ss=[]:=mi.mpr λd hd=>by have:=(mem d).mp hd;cases this
  subst hss;obtain⟨dz,fs,ob,no⟩:=B.obj;have U:=R.trans (sm.trans s4);refine⟨x,dz,fs,Y,ob,no _ (by decide +kernel),x,ws,hn,[],Y,B,λH5 p5 des5 s5 g5 e5 a5=>?_⟩;have h5:des5=[]:=gh a5.1;subst h5;refine⟨szOk rfl,λp6 H6 g6 s6 e6=>⟨p5,p6,[],Y,Y,SqL.of (s6 _ _ e5),SqL.of e6,_,Y,iteT ?_⟩⟩;have u:=(U.trans s5).trans s6;refine⟨szOk rfl,λp7 H7 g7 s7 e7=>?_⟩;intro y dy ny ndy ney;have sm2:=xAcu (o1:=.own y) (o2:=.ins c_Folk dy []) ny ndy;have C:=u.trans s7;refine⟨y,dy,M,p7,ws,[],[],Y,xAac,(rl.mono C).mono sm2,sm2 _ _ e7,.nil,D0,λ_ H8 hn2 ss2 s8 mem2 N=>⟨Y,?_⟩,λng=>absurd G0 ng⟩;have N:=FK.all λS h=>N S λb z=>(h b z).elim
  have hss2:ss2=[]:=mi.mpr λd hd=>by have:=(mem2 d).mp hd;cases this
  subst hss2;obtain⟨dz2,fs2,ob2,no2⟩:=N.obj;have t:=C.trans (sm2.trans s8);refine⟨y,dz2,fs2,Y,ob2,no2 _ (by decide +kernel),y,ws,hn2,[],Y,N,λH9 p9 s9 g9 e9=>?_⟩;refine⟨szOk rfl,λt1 H10 g10 f I=>?_⟩;have s19:=(t.trans s9).trans f;refine⟨M,_,Y,.inl (SqL.of (s19 _ _ rl.at')),?_⟩;refine⟨t1,_,_,Y,Y,I,by simp,(by rw[List.length_map];omega),(by rw[List.length_map];omega),(by rw[List.length_map,Int.toNat_natCast];show 1 * ws.length≤1000;omega),λp11 Z g11 X e11=>?_⟩;rw[qc,Hs.flat_zero]at e11
  have ec:cnts ws.length []=List.replicate ws.length 0:=by
   unfold cnts;apply zy;intro i;rw[qi]
   by_cases hi:i<ws.length
   ·rw[wx hi,vz,qt hi];rfl
   ·rw[List.getElem?_eq_none (by simpa using hi),List.getElem?_replicate,qs hi];rfl
  rw[ec]at e9;have g:=xAxz (List.replicate ws.length 0);refine⟨_,_,.tup (SqT.of ((f.trans X) _ _ e9)) (xAmi _),.tup (SqT.of e11) (xAmi _),g.lay,g.lay,qh (yv _ _) (qh g.dep (by decide)),?_⟩;show Q (.bl (PyData.eqv _ _)) Z;rw[g.self];exact kk Z (s1.trans (s19.trans X))
 have hne:des≠[]:=λz=>hnn (qF z)
 have hpos:0<ds.length:=by rw[←hdes];exact List.length_pos_iff.mpr hne
 have s0s:=s1.trans s2;refine⟨_,Y,sp,_,Y,s0s.seq hs,λq3 H3 g3 s3 e3=>?_⟩;refine⟨sp,_,Y,.inl ((s0s.trans s3).seq hs),szOk rfl,λq4 H4 g4 s4 e4=>?_⟩;rw[xAqt]at e3;refine⟨q3,q4,_,_,Y,Y,s4 _ _ e3,e4,?_,λq5 H5 g5 s5 e5=>?_⟩
 ·rw[qc,zj,zo]
  show _+1≤_;have lz:=xAag (qd 1000);omega
 have s25:=(s3.trans s4).trans s5;have G:=s2.trans s25
 have hxs:∀v∈(List.map V.int (List.take (HT.sIx l.length l.length (some 10) - HT.sIx l.length 0 none) (List.drop (HT.sIx l.length 0 none) l))++[V.int (List.map V.int l).length]),∃c,v=V.int c:=λv hv=>by
  rcases zb.mp hv with h|h
  ·obtain⟨c,_,rfl⟩:=qj.mp h;exact⟨c,Y⟩
  ·exact⟨_,qu.mp h⟩
 have hxl:(List.map V.int (List.take (HT.sIx l.length l.length (some 10) - HT.sIx l.length 0 none) (List.drop (HT.sIx l.length 0 none) l))++[V.int (List.map V.int l).length]).length≤64:=by
  rw[qm,qc,zj,zo];show _+1≤64;omega
 generalize (List.map V.int (List.take (HT.sIx l.length l.length (some 10) - HT.sIx l.length 0 none) (List.drop (HT.sIx l.length 0 none) l))++[V.int (List.map V.int l).length])=xs at e5 hxs hxl;refine⟨q5,Y,⟨_,SqL.of e5⟩,xAkf (xs:=xs) (λi σ H'=>∃v3 v4 v5 v6,σ=[some (.ref sp),some (.ref M),some (.ref dp),v3,v4,v5,v6]/\Same H5 H') ⟨none,none,none,none,Y,Same.refl _⟩ (λi σ H' _ ⟨_,_,_,_,_,s⟩=>SqL.of (s _ _ e5)) ?_ ?_⟩
 rotate_left
 ·rintro σ H6 ⟨v3,v4,v5,v6,rfl,s6⟩
  exact kk H6 (s1.trans (G.trans s6))
 rintro i x σ H6 pe hx ⟨v3,v4,v5,v6,rfl,s6⟩ hpe;obtain⟨c,rfl⟩:=hxs x (qo hx);have hi:i<64:=qv (qy.mp hx).1 hxl;refine⟨pe,_,Y,SqT.of xAac,Y,_,_,Y,_,_,Y,Y,?_⟩;have s6':=s6.trans (Same.new (o:=.tup [.int i,.int c]) hpe);generalize upd H6 pe (.tup [.int i,.int c])=H7 at s6';refine⟨_,_,Y,Y,.inl ⟨by decide,by decide⟩,_,_,Y,Y,.inl ⟨by decide,by decide⟩,_,_,Y,Y,.inr ⟨by omega,by omega⟩,_,_,Y,Y,_,1,Y,by decide,λH8 p8 ms s8 g8 d8 hl8=>?_⟩;obtain⟨a0,h0⟩:=d8.get 0 (by decide);refine⟨p8,_,0,.int a0,Y,Y,SqL.of d8.at',h0,?_⟩;have t:=G.trans (s6'.trans s8);have rl8:=rl.mono t;have an8:A2 (Hs.DeedAt H8 ws) des ds:=an.imp λ_ _ _ g=>g.mono t;refine⟨dp,M,a0,ws,des,ds,Y,rl8,nd,t _ _ e2,an8,hpos,by omega,W,bw,λH9 p9 k fs' s9 g9 e9 O D=>?_⟩;have rl9:=rl8.mono s9;refine⟨M,p9,ws,k,fs',Y,rl9,e9,O,D,λH10 b f hb=>?_⟩;have s110:=(t.trans s9).trans f;have fin:∀H',Same H10 H'->∀v3 v4 v5 v6,(∃u3 u4 u5 u6,([some (.ref sp),some (.ref M),some (.ref dp),v3,v4,v5,v6]:L2.St)=[some (.ref sp),some (.ref M),some (.ref dp),u3,u4,u5,u6]/\Same H5 H'):=λH' s v3 v4 v5 v6=>⟨v3,v4,v5,v6,Y,(s6'.trans s8).trans ((s9.trans f).trans s)⟩
 cases b with
 |false =>
  have ng:¬Good5 ws.length fs':=λg=>by have:=hb.mpr g;cases this
  refine⟨_,Y,itF rfl ?_⟩;refine⟨M,p9,ws,k,fs',Y,rl9.mono f,f _ _ e9,O.imp λ_ _ _ g=>g.mono f,D,ng,λZ X=>?_⟩;exact⟨_,Y,itF rfl (fin Z X _ _ _ _)⟩
 |true =>
  have good:Good5 ws.length fs':=hb.mp rfl;refine⟨_,Y,itT rfl ?_⟩;intro x dx nx ndx ne;have sm:=xAcu (o1:=.own x) (o2:=.ins c_Folk dx []) nx ndx;have I:=f _ _ e9;have an10:A2 (Hs.DeedAt H10 ws) k fs':=O.imp λ_ _ _ g=>g.mono f;refine⟨x,dx,M,p9,ws,k,fs',Y,xAac,(rl9.mono f).mono sm,sm _ _ I,an10.imp λ_ _ _ g=>g.mono sm,D,λ_ H12 hn ss s12 mem B=>⟨Y,?_⟩,λng=>absurd good ng⟩;have B:=FK.all λS h=>B S λb z=>(h b z).elim;obtain⟨dz,fs,ob,no⟩:=B.obj;have W':=B.sww.wh;have few':=B.sww.few;have hwd:=rl.wd;have s1012:=sm.trans s12;refine⟨x,dz,fs,Y,ob,no _ (by decide +kernel),x,ws,hn,ss,Y,B,λH13 p13 nvs R g13 e13 a13=>?_⟩;have dn:DVs H13 nvs (ss.map (nmD ws)):=A2.dvs (A2.mapr ((A2.ofmap a13).imp λ_ d _ g=>(NmV.dt (d:=d) g).dv))
  have hnl:nvs.length=ss.length:=by rw[a13.1,qc]
  have k3:=xAzn hwd W'.who;refine⟨p13,nvs,ss.map (nmD ws),3,Y,SqL.of e13,dn,k3,by omega,λq14 H14 ix g14 U six e14=>?_⟩;have m:=(s1012.trans R).trans U;have an14:A2 (Hs.DeedAt H14 ws) k fs':=an10.imp λ_ _ _ g=>g.mono m;have hdl':k.length=fs'.length:=O.1;have hfew:=D.few;refine⟨p9,Y,⟨_,SqL.of (m _ _ I)⟩,lc_A3 (α:=Hs.Dd) (js:=fs') (λH v e=>Hs.DeedAt H ws v e) (λH v e=>NmV H ws v (nm e)) (λ_ _ _ _ s g=>g.mono s) (λ_ _ _ _ s g=>xAbe s g) (SqL.of (m _ _ I)) (by omega) an14 ?_ ?_⟩
  ·intro y e H15 K1 hm G hy k1
   obtain⟨q,hq,b,z,rfl,o1,o2⟩:=DeedAt.out hy;exact⟨q,_,0,_,Y,Y,SqT.of o1,Y,q,_,1,_,Y,Y,SqT.of o1,Y,szOk rfl,λp16 H16 g16 u e16=>k1 _ _ u (xAdv e16)⟩
  intro H15 bp zs G g15 e15 J;refine⟨bp,zs,fs'.map (nk5 ws),Y,SqL.of e15,by rw[J.1,qc],?_,by rw[qc];exact hfew,λq16 H16 as kl g16 u e16 hl16 pk hk=>?_⟩
  ·intro i y ks h1 h2
   rw[qi]at h2
   cases e3:fs'[i]? with
   |none=>rw[e3]at h2;cases h2
   |some d=>rw[e3]at h2;cases h2;exact J.2 i y d h1 e3
  have hal:as.length≤63:=by
   rw[hl16,pk.length_eq];exact qh (xArl _) (by rw[qc];exact hfew)
  have da:DVs H16 (as.map V.ref) (kl.map dk5):=A2.dvs ⟨by rw[qc,qc,hl16],λi v d h1 h2=>by
   rw[qi]at h1 h2;obtain⟨a,ea,rfl⟩:=wl.mp h1;obtain⟨ls,el,rfl⟩:=wl.mp h2;obtain⟨j,j1,j2⟩:=hk i a ls ea el;rw[qi]at j2;obtain⟨d,ed,rfl⟩:=wl.mp j2
   exact(NmV.dt (d:=d) (xAbe u (J.2 j _ d j1 ed))).dv⟩
  have pp:=xAnm nd W' mem pk;refine⟨q16,as,kl.map dk5,3,Y,e16,da,k3.sub λd hd=>pp.mem_iff.mpr hd,by omega,λr17 H17 bs cs iy g17 C pb dcs pcs siy e17=>?_⟩;have r:=(G.trans u).trans C;have eq:=xAui k3 (pcs.trans pp.symm) six siy;have dv1:=xAno (dn.same ((U.trans r))) six;have dv2:=xAno (dcs.same C) siy;rw[←eq]at dv2
  have gl:GC 2 (.list (ix.map (keyAt (ss.map (nmD ws))))):=GC.lst λd hd=>by
   obtain⟨e,he,rfl⟩:=qj.mp ((xAgy six).mem_iff.mp hd);exact gc_nm hwd (W'.who e he)
  refine⟨_,_,.lst (SqL.of (r _ _ e14)) dv1,.lst (SqL.of e17) dv2,gl.lay,gl.lay,qh (yv _ _) (qh gl.dep (by decide)),_,Y,itF (by show(!PyData.eqv _ _)=false;rw[gl.self];rfl) ?_⟩;exact fin H17 (m.trans r) _ _ _ _
end
def all_mk{l:PySem.W.OpenLaw}{w:World}{K:PySem.W.Frag}{h:Heap}{mg:Str->Option Value}{fa:Addr}(X:K.In h)(G:h.Ns mainGlobals mg)(hfa:mg "law"=some (.ref fa))(E:PySem.W.nsIn K mainGlobals "ValueError"=some none)(zb_all:PySem.W.nsIn K mainGlobals "all"=some none)(zb_dict:PySem.W.nsIn K mainGlobals "dict"=some none)(L:PySem.W.nsIn K mainGlobals "enumerate"=some none)(zb_int:PySem.W.nsIn K mainGlobals "int"=some none)(C:PySem.W.nsIn K mainGlobals "isinstance"=some none)(zb_len:PySem.W.nsIn K mainGlobals "len"=some none)(zb_list:PySem.W.nsIn K mainGlobals "list"=some none)(zb_max:PySem.W.nsIn K mainGlobals "max"=some none)(zb_range:PySem.W.nsIn K mainGlobals "range"=some none)(zb_set:PySem.W.nsIn K mainGlobals "set"=some none)(zb_sorted:PySem.W.nsIn K mainGlobals "sorted"=some none)(zb_sum:PySem.W.nsIn K mainGlobals "sum"=some none)(zb_tuple:PySem.W.nsIn K mainGlobals "tuple"=some none)(zb_zip:PySem.W.nsIn K mainGlobals "zip"=some none)(zg_Folk:PySem.W.nsIn K mainGlobals "Folk"=some (some (.ref c_Folk)))(R:CX K c_Folk)(H:PySem.W.nsIn K mainGlobals "FolkError"=some (some (.ref c_FolkError)))(J:PySem.W.excIn K c_FolkError bmV "ValueError.__new__"=true)(U:PySem.W.nsIn K mainGlobals "NoDeed"=some (some (.ref c_NoDeed)))(O:PySem.W.nsIn K mainGlobals "NoLeave"=some (some (.ref c_NoLeave)))(Y:PySem.W.nsIn K mainGlobals "NoPast"=some (some (.ref c_NoPast)))(zg_NoRow:PySem.W.nsIn K mainGlobals "NoRow"=some (some (.ref c_NoRow)))(zg_NoSet:PySem.W.nsIn K mainGlobals "NoSet"=some (some (.ref c_NoSet)))(zx_NoSet:PySem.W.excIn K c_NoSet bmV "ValueError.__new__"=true)(Q:PySem.W.nsIn K mainGlobals "NoThing"=some (some (.ref c_NoThing)))(Z:PySem.W.nsIn K mainGlobals "Poured"=some (some (.ref c_Poured)))(zg_Unlike:PySem.W.nsIn K mainGlobals "Unlike"=some (some (.ref c_Unlike)))(o:PySem.W.findIn K (.ref c_NoSet) "__getattribute__"=some (some (.builtin "BaseException.__getattribute__")))(r:PySem.W.findIn K (.ref c_NoSet) "__getattr__"=some none)(n:PySem.W.findIn K (.ref c_NoSet) "__class__"=some (some (.builtin "object.__class__")))(p:PySem.W.mroIn K c_NoSet (.type "object")=some true)(q:PySem.W.mroIn K c_NoSet (.type "BaseException")=some true)(y:(PySem.W.clsIn K c_NoSet).isSome=true)(k:PySem.W.kitOne K (.ref c_NoSet) (.ref c_NoSet)=some true)(a:PySem.W.kitOne K (.ref c_NoSet) (.type "ValueError")=some true)(i:PySem.W.kitOne K (.ref c_NoSet) (.ref c_Poured)=some false)(f:PySem.W.kitOne K (.ref c_NoSet) (.ref c_Unlike)=some false)(b:PySem.W.kitOne K (.ref c_NoSet) (.ref c_NoThing)=some false)(g:PySem.W.kitOne K (.ref c_NoSet) (.ref c_NoPast)=some false)(j:PySem.W.kitOne K (.ref c_NoSet) (.ref c_NoRow)=some false)(c:PySem.W.kitOne K (.ref c_NoSet) (.ref c_NoLeave)=some false)(d:PySem.W.kitOne K (.ref c_NoSet) (.ref c_NoDeed)=some false)(u:abvIn K c_NoSet c_FolkError=true)(B:PySem.W.findIn K (.ref c_Folk) "hands"=some none)(A:PySem.W.findIn K (.ref c_Folk) "heights"=some none)(z:PySem.W.findIn K (.ref c_Folk) "kept_book"=some none)(F:PySem.W.findIn K (.ref c_Folk) "seats"=some none)(m:PySem.W.findIn K (.ref c_Folk) "sorted_names"=some none)(I:PySem.W.findIn K (.ref c_Folk) "told"=some none)(z_fBf:FX K "name_of" s_fBf)(z_fBd:FX K "by_names" s_fBd)(z_fAs:FX K "last_heard" s_fAs)(z_fAd:FX K "had_heard_as_much" s_fAd)(z_fAq:FX K "check_past" s_fAq)(z_fAf:FX K "how_many_heard" s_fAf)(z_fAo:FX K "heights_of" s_fAo)(z_fBe:FX K "seats_of" s_fBe)(z_fAt:FX K "_law_draws" s_fAt)(z_fAz:FX K "_law_word" s_fAz)(z_fAy:FX K "_law_roll" s_fAy)(z_fBa:FX K "_law_name" s_fBa)(z_fBb:FX K "_law_part" s_fBb)(z_fAg:FX K "_law_sign_name" s_fAg)(z_fAv:FX K "_law_side" s_fAv)(z_fAw:FX K "_law_sign" s_fAw)(z_fAn:FX K "_law_signs" s_fAn)(z_fAe:FX K "_law_sign_names" s_fAe)(z_fAb:FX K "_law_what_of_signs" s_fAb)(z_fAa:FX K "_law_what_of_marks" s_fAa)(z_fAx:FX K "_law_what" s_fAx)(z_fAm:FX K "_law_branch" s_fAm)(z_fAu:FX K "_law_house" s_fAu)(z_fAc:FX K "_law_changed_heard" s_fAc)(z_fAj:FX K "_law_spoiled" s_fAj)(z_fAi:FX K "_law_is_whole" s_fAi)(z_fAk:FX K "_law_refused" s_fAk)(z_fBg:FX K "law" s_fBg)(z_fAh:MX K c_Folk "__init__" "Folk.__init__" false s_fAh)(z_fAp:MX K c_Folk "deeds" "Folk.deeds" false s_fAp)(z_fAr:MX K c_Folk "names" "Folk.names" false s_fAr)(z_fAl:MX K c_Folk "counts" "Folk.counts" false s_fAl)(z_fBc:MX K c_Folk "key" "Folk.key" true s_fBc) :
  ∃fd:FuncData,(∀(s:Shared) (v:Value),BindsTo s fd ⟨[v],[]⟩ [("_law_script",v)])/\∀base:Heap,K.In base->base.Ns mainGlobals mg->(∀t∈([]:List Str),base.BuiltinsAt mg (tabP K t))->FnOk l.prog w K mg base CX0 8 fa fd ["_law_script"] sp_fBg:=by
 have T:Txt K mg (λx=>0):=⟨PySem.W.mg_none_of X G E,PySem.W.mg_none_of X G zb_all,PySem.W.mg_none_of X G zb_dict,PySem.W.mg_none_of X G L,PySem.W.mg_none_of X G zb_int,PySem.W.mg_none_of X G C,PySem.W.mg_none_of X G zb_len,PySem.W.mg_none_of X G zb_list,PySem.W.mg_none_of X G zb_max,PySem.W.mg_none_of X G zb_range,PySem.W.mg_none_of X G zb_set,PySem.W.mg_none_of X G zb_sorted,PySem.W.mg_none_of X G zb_sum,PySem.W.mg_none_of X G zb_tuple,PySem.W.mg_none_of X G zb_zip,PySem.W.mg_of X G zg_Folk,R.out.1,R.out.2,PySem.W.mg_of X G H,⟨J⟩,PySem.W.mg_of X G U,PySem.W.mg_of X G O,PySem.W.mg_of X G Y,PySem.W.mg_of X G zg_NoRow,PySem.W.mg_of X G zg_NoSet,⟨zx_NoSet⟩,PySem.W.mg_of X G Q,PySem.W.mg_of X G Z,PySem.W.mg_of X G zg_Unlike,abv_of u,B,A,z,F,m,I⟩;obtain @⟨_,_,an,_,_,kV,dc,pm,cd,ct,z1,z2,z3,z4⟩:=z_fBg;have e:=hfa.symm.trans (PySem.W.mg_of X G z1);cases e;refine⟨PySem.W.fnOf "law" "law" (defArgs s_fBg) (defBody s_fBg) (defScope s_fBg) .none kV dc pm an cd ct,λs v=>.of_eq rfl,λbase _ _ _=>?_⟩;have r_fBf:=ok_fBf (P:=l.prog) (w:=w) (base:=base) T (z_fBf.fo X G);have r_fAs:=ok_fAs (P:=l.prog) (w:=w) (base:=base) T (z_fAs.fo X G);have r_fAd:=ok_fAd (P:=l.prog) (w:=w) (base:=base) T (z_fAd.fo X G);have r_fAf:=ok_fAf (P:=l.prog) (w:=w) (base:=base) T (z_fAf.fo X G);have r_fBe:=ok_fBe (P:=l.prog) (w:=w) (base:=base) T (z_fBe.fo X G);have r_fAp:=ok_fAp (P:=l.prog) (w:=w) (base:=base) T (z_fAp.mo (by decide +kernel));have r_fAr:=ok_fAr (P:=l.prog) (w:=w) (base:=base) T (z_fAr.mo (by decide +kernel));have r_fAl:=ok_fAl (P:=l.prog) (w:=w) (base:=base) T (z_fAl.mo (by decide +kernel));have r_fBc:=ok_fBc (P:=l.prog) (w:=w) (base:=base) T (z_fBc.mo (by decide +kernel));have S:=ok_fAt (P:=l.prog) (w:=w) (base:=base) T (z_fAt.fo X G);have D:=ok_fAz (P:=l.prog) (w:=w) (base:=base) T (z_fAz.fo X G);have N:=ok_fBa (P:=l.prog) (w:=w) (base:=base) T (z_fBa.fo X G);have r_fAc:=ok_fAc (P:=l.prog) (w:=w) (base:=base) T (z_fAc.fo X G);have r_fAi:=ok_fAi (P:=l.prog) (w:=w) (base:=base) T (z_fAi.fo X G);have r_fBd:=ok_fBd (P:=l.prog) (w:=w) (base:=base) T (z_fBd.fo X G) r_fBf;have r_fAq:=ok_fAq (P:=l.prog) (w:=w) (base:=base) T (z_fAq.fo X G) r_fAd r_fAs r_fBf;have r_fAy:=ok_fAy (P:=l.prog) (w:=w) (base:=base) T (z_fAy.fo X G) S D;have M:=ok_fBb (P:=l.prog) (w:=w) (base:=base) T (z_fBb.fo X G) N;have V:=ok_fAg (P:=l.prog) (w:=w) (base:=base) T (z_fAg.fo X G) N;have r_fAm:=ok_fAm (P:=l.prog) (w:=w) (base:=base) T (z_fAm.fo X G) D;have r_fAj:=ok_fAj (P:=l.prog) (w:=w) (base:=base) T (z_fAj.fo X G) r_fAc;have r_fAo:=ok_fAo (P:=l.prog) (w:=w) (base:=base) T (z_fAo.fo X G) r_fAf r_fAs r_fBf;have r_fAv:=ok_fAv (P:=l.prog) (w:=w) (base:=base) T (z_fAv.fo X G) V;have r_fAw:=ok_fAw (P:=l.prog) (w:=w) (base:=base) T (z_fAw.fo X G) M D;have r_fAe:=ok_fAe (P:=l.prog) (w:=w) (base:=base) T (z_fAe.fo X G) V;have r_fAh:=ok_fAh (P:=l.prog) (w:=w) (base:=base) T (z_fAh.mo (by decide +kernel)) r_fBc r_fBd r_fAq r_fAo r_fBe;have r_fAn:=ok_fAn (P:=l.prog) (w:=w) (base:=base) T (z_fAn.fo X G) r_fAw;have r_fAa:=ok_fAa (P:=l.prog) (w:=w) (base:=base) T (z_fAa.fo X G) N M r_fAv D;have r_fAb:=ok_fAb (P:=l.prog) (w:=w) (base:=base) T (z_fAb.fo X G) N M V r_fAe r_fAn;have r_fAk:=ok_fAk (P:=l.prog) (w:=w) (base:=base) T (z_fAk.fo X G) r_fAh (isx_of ⟨o,r,n,p,q⟩ (yx.mp y) (k_NoSet:=k) (k_ValueError:=a) (k_Poured:=i) (k_Unlike:=f) (k_NoThing:=b) (k_NoPast:=g) (k_NoRow:=j) (k_NoLeave:=c) (k_NoDeed:=d));have r_fAx:=ok_fAx (P:=l.prog) (w:=w) (base:=base) T (z_fAx.fo X G) M r_fAa r_fAb D;have r_fAu:=ok_fAu (P:=l.prog) (w:=w) (base:=base) T (z_fAu.fo X G) r_fAm S r_fAy r_fAx;exact ok_fBg T (xAsf (st:=s_fBg) z2 z3 z4) r_fAh r_fAl r_fAp r_fAr S r_fAu r_fAi r_fAk r_fAj
def law_specq:∀(H:Hp) (a:Addr) (b:List Int),b.length≤63->(∀t∈([]:List Str),H 0=some (.tbl #[]))->(∀c∈MS,H c.1=some (.tup c.2))->SqL H a (b.map V.int)->sp_fBg [.ref a] H (λv _=>v=.bl true) λ_ _ _=>False:=λH a b h1 _ _ d=>⟨a,b,Y,d,h1,by intros;rfl⟩
end My
namespace PySem.W.Fast
def tw795676347496184896:=()
def tw14603988616224243872:=()
def tw10631034969067944480:=()
def tw4383950264261474912:=()
def tw18199872116504739488:=()
def tw7334106372411948800:=()
def tw5206845798664796992:=()
def tw13729230619795890080:=()
def tw12969942996708981761:=()
def tw6854481346975967265:=()
def tw2856592614457721985:=()
def tw13095577495075627201:=()
def tw17454841142489751873:=()
def tw2963565169572158817:=()
def tw3073916582427287009:=()
def tw3674149637034307073:=()
def tw5839901059161006593:=()
def tw16896137368703404577:=()
def tw3235637604527419073:=()
def tw8124579426494525249:=()
def tw12467725969254170433:=()
def tw14491785328798112641:=()
def tw10403165834014561185:=()
def tw11763269707774370818:=()
def tw12135329776152743010:=()
def tw8325627717916234850:=()
def tw3787929619394709954:=()
def tw10515853563018110466:=()
def tw6459627787633519266:=()
def tw1168791717883206338:=()
def tw5229501996512300802:=()
def tw14944306074615227202:=()
def tw528519438003160930:=()
def tw13904686090601176002:=()
def tw6952829373687331107:=()
def tw14324678490555614595:=()
def tw17662546785708020163:=()
def tw7133531033545334371:=()
def tw1468343651106610883:=()
def tw6888028611213081411:=()
def tw1118577059438795619:=()
def tw924152012134434884:=()
def tw14005073883662829732:=()
def tw733586855198238916:=()
def tw17229592442545888484:=()
def tw17099823083656665444:=()
def tw8313958092693233220:=()
def tw5417745465685597060:=()
def tw9719498004385847204:=()
def tw14846208032961328036:=()
def tw16189703213337528325:=()
def tw7147949442933671013:=()
def tw15232357284268829957:=()
def tw16362689601931003205:=()
def tw14078637927557067141:=()
def tw5440620075589045733:=()
def tw8482510781939496485:=()
def tw812068356363282149:=()
def tw10050067691773145893:=()
def tw1623574382128064389:=()
def tw3482521463245371269:=()
def tw18415889804433507237:=()
def tw16849228761632258086:=()
def tw8257941525868444870:=()
def tw12779545416284793126:=()
def tw10513317474429769030:=()
def tw7563385021589972326:=()
def tw13165529585876022662:=()
def tw15184616071048526278:=()
def tw1821823379332967910:=()
def tw3551214715059621382:=()
def tw17323865733973503590:=()
def tw1223078968428023398:=()
def tw16923117711646317254:=()
def tw14956769651390825190:=()
def tw706067118722466566:=()
def tw9400742299431159654:=()
def tw13561940603783776198:=()
def tw11474284104466088967:=()
def tw10555886138401832999:=()
def tw5358937284153828423:=()
def tw4690274180727199879:=()
def tw11323490125096236391:=()
def tw11958945443806498151:=()
def tw17095245238164277671:=()
def tw10768458795543437767:=()
def tw10385846119597181543:=()
def tw15082373954309603975:=()
def tw11265756988654734055:=()
def tw13093236035976911655:=()
def tw9390567278042906439:=()
def tw17285689297568991336:=()
def tw7911180067926231208:=()
def tw1046862105438081320:=()
def tw14945161417636402472:=()
def tw4862002783470606888:=()
def tw7412599346821439016:=()
def tw14006386298217920168:=()
def tw12893628827664689832:=()
def tw4701887843386607336:=()
def tw17429265300197057320:=()
def tw358721969904081704:=()
def tw12652568009448226760:=()
def tw4621716505600807880:=()
def tw2395995399838374953:=()
def tw11732565472542734409:=()
def tw11136414150566362281:=()
def tw7738403051577801993:=()
def tw2904991374192321129:=()
def tw11327039300327358153:=()
def tw9336357434197319433:=()
def tw14831907498447343465:=()
def tw14398200756267630473:=()
def tw5603494304919813033:=()
def tw15735713576457787305:=()
def tw7439939935215989705:=()
def tw13450766053274088458:=()
def tw2424864000640986218:=()
def tw4238725807985014922:=()
def tw17520912958029380778:=()
def tw3239491021109250218:=()
def tw5734881538568639754:=()
def tw12284448893692336458:=()
def tw17170497476031593962:=()
def tw8892047794069807594:=()
def tw16394413668105443850:=()
def tw3899251928096588426:=()
def tw34538103028793098:=()
def tw12471433553073693482:=()
def tw4416119225839272810:=()
def tw1145679143474925514:=()
def tw17721051602670117866:=()
def tw10798592649034484267:=()
def tw11396257349487481451:=()
def tw2990511380275602027:=()
def tw560629320711799467:=()
def tw12695554214882040491:=()
def tw9818387153536161483:=()
def tw2348101693715560427:=()
def tw15450460247647976524:=()
def tw2575728336650127628:=()
def tw16668685965297732940:=()
def tw11929091841059203500:=()
def tw15180667385747354124:=()
def tw14092271631007390252:=()
def tw3203537992352063180:=()
def tw4446582386510650252:=()
def tw10689098171136003277:=()
def tw7705802709996879117:=()
def tw4522200780530573613:=()
def tw1014809790268483981:=()
def tw12513962153249412493:=()
def tw5261802989732949421:=()
def tw6261565374595918381:=()
def tw13706797961282446925:=()
def tw12522866500277266093:=()
def tw12171053073404327597:=()
def tw10975314183864830733:=()
def tw7754160518028777293:=()
def tw17426587322519031629:=()
def tw14685252082290608013:=()
def tw13400815882035481549:=()
def tw913796627866875853:=()
def tw7913122467388144718:=()
def tw10177875157712175214:=()
def tw5301634127073916078:=()
def tw7212239208386883854:=()
def tw7584308005797713198:=()
def tw18131587414744294734:=()
def tw16028751071992870446:=()
def tw7885088700368254638:=()
def tw10732906115284862702:=()
def tw18054470065237314318:=()
def tw1380847399364812686:=()
def tw7772010670899737518:=()
def tw7891572429670203310:=()
def tw17479155114782955631:=()
def tw9266127550054501551:=()
def tw930004233012325551:=()
def tw730497216574591247:=()
def tw11351948601884807599:=()
def tw12735340685227218383:=()
def tw12547343780768995791:=()
def tw3523971244753699535:=()
def tw17984413301385390959:=()
def tw16286675805566224303:=()
def tw6345445505992128431:=()
def tw10395752040571942863:=()
def tw5351403041937110096:=()
def tw17068344704153796848:=()
def tw17648051908994131472:=()
def tw10580721127570082352:=()
def tw9384641213979606672:=()
def tw327389082124283536:=()
def tw7787978540325503664:=()
def tw15737997433965986608:=()
def tw3959871843123573584:=()
def tw3553635270101629808:=()
def tw850562439036887185:=()
def tw1981211955607554321:=()
def tw2315810790220029361:=()
def tw7548807525016409553:=()
def tw3548812865914945201:=()
def tw16579743607446495953:=()
def tw1999884282165123889:=()
def tw737001188845834225:=()
def tw9297139863182280818:=()
def tw12992393144061725810:=()
def tw16908924922079336594:=()
def tw13743376597457727730:=()
def tw17494594220053249298:=()
def tw10905336013352334802:=()
def tw18277901866689676850:=()
def tw8160226999513162322:=()
def tw17907247979449812626:=()
def tw15783683265854280434:=()
def tw10078629854402050067:=()
def tw5412200589464272947:=()
def tw2821215021222857779:=()
def tw10683577344662001715:=()
def tw3036181042139473107:=()
def tw11900026734816037139:=()
def tw10110099381280774579:=()
def tw1353446138460187059:=()
def tw1336403394555669939:=()
def tw16935678573657562675:=()
def tw11756489335395204659:=()
def tw756179648777250515:=()
def tw13178079285833423571:=()
def tw1210362553769379699:=()
def tw456642171511734131:=()
def tw10844332806307553332:=()
def tw6478597862569894964:=()
def tw8781812493060152404:=()
def tw270086840641195124:=()
def tw18001472471010483348:=()
def tw13601014224305189076:=()
def tw10280227662828369204:=()
def tw16933063319437514068:=()
def tw8978550682603412820:=()
def tw6978609105016927604:=()
def tw355015092473379220:=()
def tw14657645076913039796:=()
def tw12535489424599709172:=()
def tw1228731899332898292:=()
def tw301566107282024980:=()
def tw14216435842552793684:=()
def tw8355477964261083764:=()
def tw732662163530464980:=()
def tw2234476428302153652:=()
def tw18352331978452988916:=()
def tw6440702693533141013:=()
def tw14839342621926518069:=()
def tw6690200297817341365:=()
def tw2248101064445322773:=()
def tw6822766291802554901:=()
def tw17462218309129586389:=()
def tw156020491003717493:=()
def tw12029309427450199957:=()
def tw13951381479270809622:=()
def tw8322285181050761270:=()
def tw7607448249500482646:=()
def tw15439670223205670038:=()
def tw10478241190492518550:=()
def tw8254272348731854006:=()
def tw8866971900497346870:=()
def tw13224656900793632086:=()
def tw1143894920823180726:=()
def tw7992363651597030838:=()
def tw12480105104000203478:=()
def tw1824021646301052726:=()
def tw11155124420331608950:=()
def tw2365592576219294646:=()
def tw6319936112583069622:=()
def tw18205322029725404086:=()
def tw9497229376039390231:=()
def tw5006055098581381207:=()
def tw17723021428312126647:=()
def tw16993677993073243319:=()
def tw12018660143449688279:=()
def tw8389407317808771287:=()
def tw10204962116479255831:=()
def tw13665289611478244727:=()
def tw14617507971797110167:=()
def tw15138421079840970391:=()
def tw12283221659210803895:=()
def tw17767726691240862519:=()
def tw5002137335314761591:=()
def tw2603177366145078263:=()
def tw3585405475330664472:=()
def tw18084150723669016824:=()
def tw15271804577332064536:=()
def tw1135251003872660792:=()
def tw10561345019655767480:=()
def tw7403253713942923704:=()
def tw14499129528467517880:=()
def tw1103973981484493272:=()
def tw3181322677891475096:=()
def tw14624168337113752248:=()
def tw2053860678551601912:=()
def tw15329061346809349880:=()
def tw10322386332298037048:=()
def tw15494098808919481272:=()
def tw810360294941106201:=()
def tw618097156138397785:=()
def tw11395504509399858361:=()
def tw7936910633425436889:=()
def tw5374259872426083609:=()
def tw825233339733100825:=()
def tw8750993834397986137:=()
def tw15228993466271359385:=()
def tw9671839258034711961:=()
def tw18436367780387250649:=()
def tw17695572223380109849:=()
def tw17084311497294435897:=()
def tw14367856902814858905:=()
def tw12304135193681664665:=()
def tw4762881493659822809:=()
def tw11478393227276558233:=()
def tw826630879993957305:=()
def tw8242030790727027673:=()
def tw9908264463434607866:=()
def tw392696716529310266:=()
def tw10735616683036180058:=()
def tw995611682483762810:=()
def tw1836294555442853530:=()
def tw4161515196362707642:=()
def tw2155638370020846298:=()
def tw13174912028204241754:=()
def tw16546835809008940954:=()
def tw11543159932686538779:=()
def tw861388760286589147:=()
def tw7612748857629221371:=()
def tw3525397481630436891:=()
def tw14309096037682739771:=()
def tw16515839461294292635:=()
def tw8513827488082915163:=()
def tw12082181577843034107:=()
def tw6520464251463354620:=()
def tw16736726410886134044:=()
def tw13480773347575979356:=()
def tw15373278138185813372:=()
def tw16295902331941130716:=()
def tw2045702566887306780:=()
def tw112626193031071260:=()
def tw16786433506302363324:=()
def tw14361830360965524156:=()
def tw198974173560852284:=()
def tw16814363067077703516:=()
def tw9600823367248223261:=()
def tw12066086064552318045:=()
def tw4586064062333385917:=()
def tw5293813769581914781:=()
def tw5774358764178337437:=()
def tw6006370358958979741:=()
def tw4303421780448467645:=()
def tw13350718390545566525:=()
def tw10033132725166904221:=()
def tw12709319272953687134:=()
def tw7438584369756639326:=()
def tw1150006764867029214:=()
def tw12602103234925987070:=()
def tw333680076916627742:=()
def tw5231092536867256670:=()
def tw5100240253060868478:=()
def tw16483633335453084286:=()
def tw8705439521840869054:=()
def tw12519496834795600606:=()
def tw9821135920067721086:=()
def tw13585629461344020350:=()
def tw9334825470217076670:=()
def tw6015127799318881278:=()
def tw17939814136978946079:=()
def tw1998830040482079775:=()
def tw10265211752390270015:=()
def tw3805768749094532159:=()
def tw8648135084569987135:=()
def tw15424253868514209023:=()
def tw3280810551010031903:=()
def tw6338022694077395231:=()
def tw18397333787239799135:=()
def tw11396538983816400223:=()
def tw10773256927223580031:=()
def tw14600658412793243007:=()
def tw2874171042607695263:=()
def tw1742007912075488735:=()
def tw2734039435740191487:=()
def tw12166994762962370303:=()
def tw17084105638012178207:=()
def tw2608379398335243071:=()
def tw17822972107755469727:=()
def tw12213332161986076197:=()
end PySem.W.Fast
open PySem PySem.W PyProof.Rows
set_option maxRecDepth 100000 in
set_option maxHeartbeats 0 in
theorem PySem.Challenge.cw_pagefolk_k05_no_whole_set_holds : PySem.Challenge.rw_pagefolk_k05_no_whole_set.Holds := by
 w_on;o_law;k_head;(case hw=>w_witness2)
 k_fill
 refine L2.walk_ofQ (l:=PySem.Challenge.rw_pagefolk_k05_no_whole_set) (n:=63) (k:=8) (x:="_law_script") (CX:=L2.CX0) (sp:=My.sp_fBg) (Ps:=[]) [] My.MS (fun _=>0) rfl (by decide) rfl ⟨rfl,by decide,by decide,rfl⟩ (fun w h Y=>PySem.W.kIn_of Y) (fun w h Y Q z=>nomatch z) (fun w Q z=>nomatch z) ?hnt ?hnl (fun w t z=>nomatch z) (fun w t z=>nomatch z) ?hms (by decide) ?F My.law_specq (fun _ _ _ _ z=>z)
 case hms=>(intro w;kernel_rfl)
 case hnt=>(intro w;kernel_rfl)
 case hnl=>(intro w;kernel_rfl)
 case F =>
  intro w mg fa h KX G hmg;refine' My.all_mk KX G hmg ?_ ?_ ?_ ?_ ?_ ?_ ?_ ?_ ?_ ?_ ?_ ?_ ?_ ?_ ?_ ?zg_Folk ?_ ?zg_FolkError ?_ ?zg_NoDeed ?zg_NoLeave ?zg_NoPast ?zg_NoRow ?zg_NoSet ?_ ?zg_NoThing ?zg_Poured ?zg_Unlike ?_ ?_ ?_ ?_ ?_ ?_ ?_ ?_ ?_ ?_ ?_ ?_ ?_ ?_ ?_ ?_ ?_ ?_ ?_ ?_ ?_ ?_ ?_ ?_ ?_ ?_ ?_ ?_ ?_ ?_ ?_ ?_ ?_ ?_ ?_ ?_ ?_ ?_ ?_ ?_ ?_ ?_ ?_ ?_ ?_ ?_ ?_ ?_ ?_ ?_ ?_ ?_ ?_ ?_ ?_
  (case zg_Folk=>k_is)
  (case zg_FolkError=>k_is)
  (case zg_NoDeed=>k_is)
  (case zg_NoLeave=>k_is)
  (case zg_NoPast=>k_is)
  (case zg_NoRow=>k_is)
  (case zg_NoSet=>k_is)
  (case zg_NoThing=>k_is)
  (case zg_Poured=>k_is)
  (case zg_Unlike=>k_is)
  all_goals try first|k_is|(refine' L2.FX.mk ?z1 ?z2 ?z3 ?z4;(case z1=>k_is);(case z2=>k_is);(case z3=>k_is);(case z4=>k_is))|(refine' L2.MD.mk ?z1 ?z2;(case z1=>k_is);(case z2=>kernel_rfl))|kernel_rfl|(refine' L2.CX.mk ?z1 ?z2 ?z3 ?z4 ?z5 ?z6;(case z1=>k_is);(case z2=>k_is);(case z3=>k_is);(case z4=>k_is);(case z5=>k_is);(case z6=>k_is))|(refine' L2.MX.mk ?z1 ?z2 ?z3 ?z4 ?z5 ?z6;(case z1=>k_is);(case z2=>k_is);(case z3=>k_is);(case z4=>k_is);(case z5=>k_is);(case z6=>first|exact(fun h=>absurd h qr)|exact(fun _=>⟨by kernel_rfl,by kernel_rfl⟩)))