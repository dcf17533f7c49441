import PyProof.Rows.All
import Wide.All
import OpenK.AllK
import Wide.FinOn
import Lean
import PyProof.EqAt
import PyProof.EqKinds
import PyProof.TupleCall
import KE.KSortTup
import KE.KDictOf
import PyProof.AttrMissHeap
import KE.KSortKey
import KE.KNestM
import KE.KLam
import KE.KEqDict
import KE.KBoundM
import KE.KSuperObj
import PySem.Challenge.RW_pagefolk_k45_texts_of_signs
set_option Elab.async false
set_option linter.all false
set_option maxRecDepth 100000
def qA:=@PySem.wpAny_bind
def qB:=@if_neg
def qE:=@PySem.wpAny_pure
def qF:=@if_pos
def qG:=@PySem.Heap.lt_size
def qH:=@PySem.Heap.get?_push_of_some
def qI:=@decide_eq_true
def qJ:=@PySem.wpAny_holding
def qK:=@Option.some.inj
def qL:=@PySem.Heap.get?_push_size
def qM:=@PySem.wpAny_mono
def qN:=@PySem.wpAny_call_entry
def qO:=@of_decide_eq_true
def O{α:Sort u}{a:α}:a=a:=rfl
def qb:=@Nat.le_refl
def qc:=@Nat.le_trans
def qe:=@List.length_append
def qf:=@List.length_map
def qg:=@List.getElem?_eq_getElem
def qh:=@List.mem_of_getElem?
def qi:=@Nat.ne_of_lt
def qj:=@List.mem_map
def qk:=@Bool.false_ne_true
def qm:=@List.getElem?_eq_some_iff
def qo:=@List.length_singleton
def qp:=@List.mem_cons_self
def qq:=@Nat.lt_of_lt_of_le
def qr:=@List.size_toArray
def qt:=@List.mem_singleton
def qu:=@List.mem_cons_of_mem
def qv:=@List.getElem?_map
def qw:=@List.mem_range
def qx:=@List.length_cons
def qy:=@Nat.zero_le
def qz:=@List.mem_cons
def q0:=@Nat.ne_of_gt
def zb:=@Bool.and_eq_true
def zd:=@List.mem_append
def ze:=@Array.length_toList
def zf:=@List.getD_eq_getElem?_getD
def zg:=@List.map_cons
def zh:=@List.take_add_one
def zk:=@List.length_range
def zm:=@List.take_length
def zn:=@Nat.lt_irrefl
def zo:=@List.mem_filter
def zt:=@Nat.le_of_lt
def zu:=@List.mem_append_right
def zv:=@Option.isSome_iff_exists
def zw:=@Nat.not_lt_zero
def zx:=@List.nodup_cons
def zy:=@List.length_nil
def z6:=@List.mem_iff_getElem
def z7:=@List.map_append
def z8:=@List.mem_append_left
def z9:=@Option.map_eq_some_iff
def wb:=@List.length_reverse
def wc:=@List.getElem?_append_left
def we:=@Array.getElem?_toList
def wg:=@Nat.le_succ
def wj:=@Nat.lt_succ_of_lt
def wk:=@Nat.lt_succ_self
def wm:=@List.length_drop
def wn:=@List.length_take
def wo:=@Array.getElem?_eq_getElem
def wt:=@List.find?_cons
def wu:=@List.mem_reverse
def wv:=@List.length_filter_le
def ww:=@List.getElem?_set_ne
def wx:=@List.map_map
def wz:=@List.length_eq_zero_iff
def vd:=@List.append_nil
def vi:=@List.replicate_succ
def vj:=@List.append_assoc
def vy:=@Array.getD_eq_getD_getElem?
def v9:=@List.nodup_append
def yb:=@List.nodup_nil
def yc:=@Nat.lt_or_ge
def yd:=@List.ext_getElem?
def ye:=@Nat.min_le_left
def yf:=@Bool.eq_iff_iff
def yg:=@Nat.min_le_right
def yh:=@List.flatten_cons
def yi:=@Nat.lt_trans
def yj:=@Nat.lt_of_le_of_lt
def yk:=@List.getElem_mem
def ym:=@Nat.sub_zero
def yn:=@List.getElem?_append_right
def yo:=@List.eq_nil_or_concat
def yq:=@List.filter_append
def yr:=@List.take_of_length_le
def yt:=@Nat.le_of_ble_eq_true
def yu:=@Array.mem_toList_iff
def yv:=@List.length_replicate
def yw:=@Option.map_some
def yx:=@List.any_eq_true
def yy:=@List.lookup_cons
def yz:=@List.drop_eq_getElem_cons
def y0:=@Nat.zero_add
def ja:=@List.find?_eq_none
def jb:=@List.pairwise_cons
def jc:=@List.concat_eq_append
def jd:=@List.range_succ
def je:=@Nat.succ_ne_self
def jf:=@List.forall_mem_cons
def jg:=@List.filterMap_cons
def jh:=@List.mem_filterMap
def ji:=@List.of_mem_zip
def jj:=@List.map_nil
def jk:=@Bool.and_false
def jl:=@List.nil_append
def jm:=@List.any_cons
def jn:=@List.forIn_cons
def jo:=@List.reverse_cons
def jp:=@List.not_lt
def jq:=@Array.toList_inj
def jr:=@List.pairwise_iff_getElem
def jt:=@Array.forIn_toList
def ju:=@List.findIdx?_eq_some_iff_getElem
def jv:=@List.map_congr_left
def jw:=@List.getElem?_range
def jx:=@List.pairwise_map
def jy:=@List.reverse_append
def jz:=@List.getElem?_eq_none
def j0:=@List.filter_cons_of_pos
def j3:=@List.filter_cons_of_neg
def j4:=@List.filter_nil
def j5:=@List.all_eq_true
def j6:=@Nat.sub_self
def j7:=@Nat.succ_le_succ
def j8:=@List.length_pos_iff
def j9:=@List.mem_of_mem_drop
def h8:=@Array.append_assoc
def h9:=@List.getElem?_set_self
def gc:=@List.take_sublist
def gf:=@List.zip_cons_cons
def gg:=@List.getElem_toArray
def gh:=@List.drop_of_length_le
def gj:=@List.range_succ_eq_map
def gr:=@List.getElem?_inj
def gs:=@List.findIdx?_eq_none_iff
def gw:=@List.range_eq_range'
def gy:=@List.filter_eq_nil_iff
def g0:=@List.mem_range'_1
def kg:=@List.mem_of_find?_eq_some
def kh:=@List.filter_reverse
def ki:=@Nat.lt_of_succ_lt_succ
def kj:=@Array.getElem?_eq_none
def km:=@List.countP_pos_iff
def kx:=@List.eq_of_mem_replicate
def kz:=@List.dropLast_concat
def k8:=@List.getElem?_reverse
def me:=@List.mem_of_elem_eq_true
namespace L2
open PySem PySem.Spec PyProof.Rows
abbrev Key:=Sum Int Str
def keyIs:Key->Value->Bool
 |.inl k,v=>Value.isInt k v
 |.inr x,v=>Value.isStrOf x v
def keyH(w:World):Key->Int
 |.inl k=>hashInt k
 |.inr x=>hashStr w x
def xAao:∀{k:Key} {v:Value},keyIs k v=true->(∃i t,k=Sum.inl i/\v=Value.int i t)\/(∃x t,k=Sum.inr x/\v=Value.str x t)
 |.inl i,v,h=>by
  obtain⟨t,e⟩:=Value.isInt_shape (k:=i) (v:=v) h;exact .inl ⟨i,t,O,e⟩
 |.inr x,v,h=>by
  obtain⟨t,e⟩:=Value.isStrOf_shape (x:=x) (v:=v) h;exact .inr ⟨x,t,O,e⟩
def xAnc(i:Int)(t:Tok):keyIs (.inl i) (.int i t)=true:=by simp[keyIs,Value.isInt]
def xAnd(x:Str)(t:Tok):keyIs (.inr x) (.str x t)=true:=by simp[keyIs,Value.isStrOf]
def key_ll(a b:Int):decide ((Sum.inl a:Key)=Sum.inl b)=(a==b):=by
 by_cases e:a=b
 ·subst e;simp
 ·have h:¬(Sum.inl a:Key)=Sum.inl b:=λq=>e (Sum.inl.inj q)
  rw[decide_eq_false h];exact(beq_eq_false_iff_ne.mpr e).symm
def key_rr(a b:Str):decide ((Sum.inr a:Key)=Sum.inr b)=decide (a=b):=by
 by_cases e:a=b
 ·subst e;simp
 ·have h:¬(Sum.inr a:Key)=Sum.inr b:=λq=>e (Sum.inr.inj q)
  rw[decide_eq_false h,decide_eq_false e]
def key_lr(a:Int)(b:Str):decide ((Sum.inl a:Key)=Sum.inr b)=false:=decide_eq_false (λq=>nomatch q)
def key_rl(a:Str)(b:Int):decide ((Sum.inr a:Key)=Sum.inl b)=false:=decide_eq_false (λq=>nomatch q)
def mixKind(prog:Program)(w:World):PySem.KeyKind prog w Key where
 is:=keyIs
 hash:=keyH w
 inj:=λv a b f d=>by
  rcases xAao f with⟨i,t,rfl,rfl⟩|⟨x,t,rfl,rfl⟩
  ·rcases xAao d with⟨j,u,rfl,e⟩|⟨y,u,rfl,e⟩
   ·injection e with e1 _;rw[e1]
   ·exact nomatch e
  ·rcases xAao d with⟨j,u,rfl,e⟩|⟨y,u,rfl,e⟩
   ·exact nomatch e
   ·injection e with e1 _;rw[e1]
 byValue:=λk v h=>by
  rcases xAao h with⟨i,t,rfl,rfl⟩|⟨x,t,rfl,rfl⟩ <;> rfl
 pyHash:=λc h=>by
  rcases xAao c with⟨i,t,rfl,rfl⟩|⟨x,t,rfl,rfl⟩
  ·exact wpAny_pyHash_int h
  ·exact wpAny_pyHash_str h
 eqBool:=λg c h=>by
  rcases xAao g with⟨i,t,rfl,rfl⟩|⟨x,t,rfl,rfl⟩
  ·rcases xAao c with⟨j,u,rfl,rfl⟩|⟨y,u,rfl,rfl⟩
   ·rw[key_ll]at h;exact wpAny_eqBool_int h
   ·rw[key_lr]at h;exact SeqAt.EqAt.int_str i t y u _ _ _ _ h
  ·rcases xAao c with⟨j,u,rfl,rfl⟩|⟨y,u,rfl,rfl⟩
   ·rw[key_rl]at h;exact SeqAt.EqAt.str_int x t j u _ _ _ _ h
   ·rw[key_rr]at h;exact wpAny_eqBool_str h
 «strs»:=λk x t v h=>by
  rcases xAao h with⟨i,u,rfl,e⟩|⟨y,u,rfl,e⟩
  ·exact nomatch e
  ·injection e with e1 _
   subst e1;cases v <;> rfl
def xAjd(prog:Program)(w:World)(i:Int)(t:Tok):(mixKind prog w).is (.inl i) (.int i t)=true:=xAnc i t
def xAje(prog:Program)(w:World)(x:Str)(t:Tok):(mixKind prog w).is (.inr x) (.str x t)=true:=xAnd x t
inductive V where
 |non|bl (b:Bool)|int (i:Int)|str (x:Str)|byt (b:Array UInt8)|flt (b:UInt64)|ref (a:Addr)|ty (n:String)
 deriving DecidableEq
def RelV:V->Value->Prop
 |.non,u=>u=Value.none
 |.bl b,u=>u=Value.bool b
 |.int i,u=>∃t,u=Value.int i t
 |.str x,u=>∃t,u=Value.str x t
 |.byt b,u=>∃t,u=Value.bytes b t
 |.flt b,u=>∃t,u=Value.float b t
 |.ref a,u=>u=Value.ref a
 |.ty n,u=>u=Value.type n
abbrev Vals:List V->List Value->Prop:=Paired RelV
def Vals.length(r:Vals xs us):xs.length=us.length:=Paired.length r
def Vals.get:∀{xs:List V} {us:List Value} {i:Nat} {x:V},Vals xs us->xs[i]?=some x->∃u,us[i]?=some u/\RelV x u
 |_,_,_,_,.nil,e=>by simp at e
 |_,_,0,_,.cons r _,e=>by simp at e;subst e;exact⟨_,O,r⟩
 |_,_,i+1,x,.cons _ t,e=>by
  obtain⟨u,h1,h2⟩:=Vals.get (i:=i) (x:=x) t (by simpa using e);exact⟨u,by simpa using h1,h2⟩
def Vals.set(r:RelV x u):∀{xs:List V} {us:List Value} (i:Nat),Vals xs us->Vals (xs.set i x) (us.set i u)
 |_,_,_,.nil=>.nil
 |_,_,0,.cons _ t=>.cons r t
 |_,_,i+1,.cons q t=>.cons q (Vals.set r i t)
def Vals.append:∀{xs ys:List V} {us ws:List Value},Vals xs us->Vals ys ws->Vals (xs++ys) (us++ws)
 |_,_,_,_,.nil,s=>s
 |_,_,_,_,.cons r t,s=>.cons r (Vals.append t s)
def Vals.take:∀{xs:List V} {us:List Value} (n:Nat),Vals xs us->Vals (xs.take n) (us.take n)
 |_,_,0,_=>.nil
 |_,_,_+1,.nil=>.nil
 |_,_,n+1,.cons r t=>.cons r (Vals.take n t)
def Vals.drop:∀{xs:List V} {us:List Value} (n:Nat),Vals xs us->Vals (xs.drop n) (us.drop n)
 |_,_,0,r=>r
 |_,_,_+1,.nil=>.nil
 |_,_,n+1,.cons _ t=>Vals.drop n t
def RelO:Option V->Option Value->Prop
 |some v,some u=>RelV v u
 |none,none=>True
 |_,_=>False
def KV{κ:Type}:List (κ×V)->List (κ×Value)->Prop:=Paired λ(p:κ×V) (q:κ×Value)=>p.1=q.1/\RelV p.2 q.2
def kV:Key->V
 |.inl i=>.int i
 |.inr x=>.str x
inductive KD where
 |non
 |int (i:Int)
 |tup (ks:List Key)
 |two (ks ls:List Key)
deriving DecidableEq
def gHash(P:Program)(w:World):KD->Int
 |.non=>4238894112
 |.int i=>hashInt i
 |.tup ks=>(tupleKind (mixKind P w)).hash ks
 |.two ks ls=>reduceHash (Builtin.Tuple.tupleHashOf [(tupleKind (mixKind P w)).hash ks,(tupleKind (mixKind P w)).hash ls])
def gEnt(P:Program)(w:World)(x:KD×Value×Value):DictEntry:=⟨gHash P w x.1,x.2.1,x.2.2⟩
inductive HO where
 |lst (xs:List V)
 |tup (xs:List V)
 |dK (kvs:List (Key×V))|dT (kvs:List (List Key×V))
 |dG (kvs:List (KD×V×V))
 |set (S:Int->Bool) (n:Nat)
 |ins (C dx:Addr) (fs:List (Str×V))
 |own (x:Addr)
 |xd (fs:List (Str×V))
 |met (f x:Addr)
 |rng (lo hi:Int)
 |frz (o:Obj) (u:HO)
 |tbl (ps:Array Value)
 |ext (φ:Heap->Prop)
abbrev Hp:=Addr->Option HO
def GK(H:Hp):KD->V->Prop
 |.non,v=>v=.non
 |.int i,v=>v=.int i
 |.tup ks,v=>∃b,v=.ref b/\H b=some (.tup (ks.map kV))
 |.two ks ls,v=>∃b c d,v=.ref b/\H b=some (.tup [.ref c,.ref d])/\H c=some (.tup (ks.map kV))/\H d=some (.tup (ls.map kV))
def upd(H:Hp)(a:Addr)(o:HO):Hp:=λb=>if b=a then some o else H b
def xAab:upd H a o a=some o:=by unfold upd;rw[qF rfl]
def xAae(h:b≠a):upd H a o b=H b:=by unfold upd;rw[qB h]
def ne_of{H:Hp}{a b:Addr}{o u:HO}(h:H a=some o)(h':H b=some u)(d:o≠u):a≠b:=by
 intro e;subst e;rw[h]at h';exact d (qK h')
def xAad{H:Hp}{a b:Addr}{o:HO}(h:H a=some o)(h':H b=none):a≠b:=by
 intro e;subst e;rw[h]at h';cases h'
section
variable (P:Program)(w:World)
def ObjOk(H:Hp)(h:Heap)(a:Addr):HO->Prop
 |.lst xs=>xs.length≤sizeLine/\∃(its:List Value) (n:Nat),Vals xs its/\h.get? a=some { cls:=.type "list",data:=.seq its.toArray n }
 |.tup xs=>xs.length≤sizeLine/\∃its:List Value,Vals xs its/\IsTup h a its.toArray
 |.dK kvs=>kvs.length≤sizeLine/\(a==sysModules)=false/\∃vs,KV kvs vs/\h.DictOf (mixKind P w) a vs
 |.dT kvs=>kvs.length≤sizeLine/\(a==sysModules)=false/\∃xs:List (List Key×Addr×Value),
   Paired (λ(p:List Key×V) (q:List Key×Addr×Value)=>p.1=q.1/\H q.2.1=some (.tup (p.1.map kV))/\RelV p.2 q.2.2) kvs xs ∧
   ∃o es ep,h.get? a=some o/\o.ExactDict/\o.data=.dict es ep/\es.toList=xs.map (entryOfKey (tupleKind (mixKind P w)))/\(xs.map (·.1)).Nodup
 |.dG kvs=>kvs.length≤sizeLine/\(a==sysModules)=false/\∃xs:List (KD×Value×Value),
   Paired (λ(p:KD×V×V) (q:KD×Value×Value)=>p.1=q.1/\GK H p.1 p.2.1/\RelV p.2.1 q.2.1/\RelV p.2.2 q.2.2) kvs xs ∧
   ∃o es ep,h.get? a=some o/\o.ExactDict/\o.data=.dict es ep/\es.toList=xs.map (gEnt P w)/\(xs.map (·.1)).Nodup
 |.set S n=>h.SetOf (intKind P w) a S n
 |.ins C dx fs=>H dx=some (.own a)/\fs.length≤1000/\dx≠a/\h.get? a=some (PySem.W.instObj C dx) ∧
   ∃b,h.Ns1 dx b/\(∀f,RelO (fs.lookup f) (b f))/\PySem.Within b (fs.map (·.1))
 |.own _=>∃o,h.get? a=some o
 |.xd fs=>∃b,h.Ns1 a b/\∀f,RelO (fs.lookup f) (b f)
 |.rng lo hi=>∃t u v,h.get? a=some { cls:=.type "range",data:=.fields #[.int lo t,.int hi u,.int 1 v] }
 |.frz o u=>h.get? a=some o/\ObjOk H h a u
 |.tbl ps=>h.get? a=some { cls:=.none,data:=.fields ps }
 |.met f x=>h.get? a=some (PySem.W.methodObj (.ref f) (.ref x))
 |.ext φ=>φ h/\(∃o,h.get? a=some o)/\∀h1 h2:Heap,φ h1->(∀o,h1.get? a=some o->h2.get? a=some o)->φ h2
def HOk(H:Hp)(h:Heap):Prop:=∀a o,H a=some o->ObjOk P w H h a o
end
section
variable {P:Program}{w:World}{H H':Hp}{h h':Heap}{a:Addr}{o:HO}
def ObjOk.lt(x:ObjOk P w H h a o):a<h.objs.size:=by
 cases o with
 |lst xs=>obtain⟨_,_,_,_,e⟩:=x;exact qG e
 |tup xs=>obtain⟨_,_,_,p⟩:=x;exact p.lt
 |dK kvs=>obtain⟨_,_,_,_,o,_,_,e,_⟩:=x;exact qG e
 |dT kvs=>obtain⟨_,_,_,_,o,_,_,e,_⟩:=x;exact qG e
 |dG kvs=>obtain⟨_,_,_,_,o,_,_,e,_⟩:=x;exact qG e
 |set S n=>obtain⟨o,_,_,_,e,_⟩:=x;exact qG e
 |ins C dx fs=>obtain⟨_,_,_,e,_⟩:=x;exact qG e
 |own y=>obtain⟨_,e⟩:=x;exact qG e
 |xd fs=>obtain⟨_,⟨_,_,_,e,_⟩,_⟩:=x;exact qG e
 |rng lo hi=>obtain⟨_,_,_,e⟩:=x;exact qG e
 |frz ob u=>obtain⟨e,_⟩:=x;exact qG e
 |tbl ps=>exact qG (show h.get? a=some _ from x)
 |met f y=>exact qG (show h.get? a=some _ from x)
 |ext b=>obtain⟨_,⟨_,e⟩,_⟩:=x;exact qG e
def Paired.mapP{α β:Type}{F G:α->β->Prop}:∀{l₁:List α} {c:List β},Paired F l₁ c->(∀a b,F a b->G a b)->Paired G l₁ c
 |_,_,.nil,_=>.nil
 |_,_,.cons r t,f=>.cons (f _ _ r) (Paired.mapP t f)
def GK.stay(g:GK H k v)(a:∀b xs,H b=some (.tup xs)->H' b=some (.tup xs)):GK H' k v:=by
 cases k with
 |non=>exact g
 |int i=>exact g
 |tup ks=>obtain⟨b,e,h⟩:=g;exact⟨b,e,a _ _ h⟩
 |two ks ls=>obtain⟨b,c,d,e,h1,h2,f⟩:=g;exact⟨b,c,d,e,a _ _ h1,a _ _ h2,a _ _ f⟩
def ObjOk.stay(x:ObjOk P w H h a o)(k:∀b u,(b=a\/H b=some (.own a))->h.get? b=some u->h'.get? b=some u)(m:∀b,H b=some (.own a)->H' b=some (.own a))(i:∀b xs,H b=some (.tup xs)->H' b=some (.tup xs)):ObjOk P w H' h' a o:=by
 induction o with
 |lst xs=>obtain⟨z,its,n,r,e⟩:=x;exact⟨z,its,n,r,k _ _ (.inl rfl) e⟩
 |tup xs=>obtain⟨z,its,r,ob,e,c⟩:=x;exact⟨z,its,r,ob,k _ _ (.inl rfl) e,c⟩
 |dK kvs=>obtain⟨z,y,vs,r,ob,es,ep,e,c⟩:=x;exact⟨z,y,vs,r,ob,es,ep,k _ _ (.inl rfl) e,c⟩
 |dT kvs =>
  obtain⟨z,y,xs,r,ob,es,ep,e,c⟩:=x;exact⟨z,y,xs,Paired.mapP r λp q z=>⟨z.1,i _ _ z.2.1,z.2.2⟩,ob,es,ep,k _ _ (.inl rfl) e,c⟩
 |dG kvs =>
  obtain⟨z,y,xs,r,ob,es,ep,e,c⟩:=x;exact⟨z,y,xs,Paired.mapP r λp q z=>⟨z.1,z.2.1.stay i,z.2.2⟩,ob,es,ep,k _ _ (.inl rfl) e,c⟩
 |set S n=>obtain⟨ob,es,ep,t,e,c⟩:=x;exact⟨ob,es,ep,t,k _ _ (.inl rfl) e,c⟩
 |ins C dx fs =>
  obtain⟨d,z,ne,e,g,⟨od,es,ep,j,c⟩,r⟩:=x;exact⟨m _ d,z,ne,k _ _ (.inl rfl) e,g,⟨od,es,ep,k _ _ (.inr d) j,c⟩,r⟩
 |own y=>obtain⟨ob,e⟩:=x;exact⟨ob,k _ _ (.inl rfl) e⟩
 |xd fs=>obtain⟨g,⟨od,es,ep,e,c⟩,r⟩:=x;exact⟨g,⟨od,es,ep,k _ _ (.inl rfl) e,c⟩,r⟩
 |rng lo hi=>obtain⟨t,u,v,e⟩:=x;exact⟨t,u,v,k _ _ (.inl rfl) e⟩
 |frz ob u l=>obtain⟨e,q⟩:=x;exact⟨k _ _ (.inl rfl) e,l q⟩
 |tbl ps =>
  have e:h.get? a=some { cls:=.none,data:=.fields ps }:=x;show h'.get? a=some { cls:=.none,data:=.fields ps };exact k a _ (.inl rfl) e
 |met f y =>
  have e:h.get? a=some (PySem.W.methodObj (.ref f) (.ref y)):=x;show h'.get? a=some (PySem.W.methodObj (.ref f) (.ref y));exact k a _ (.inl rfl) e
 |ext s=>obtain⟨p,⟨o,e⟩,st⟩:=x;exact⟨st _ _ p λo q=>k _ _ (.inl rfl) q,⟨o,k _ _ (.inl rfl) e⟩,st⟩
def HOk.lt(x:HOk P w H h)(e:H a=some o):a<h.objs.size:=(x a o e).lt
def HOk.fresh(x:HOk P w H h)(e:h.objs.size≤a):H a=none:=by
 cases q:H a with
 |none=>rfl
 |some u=>exact absurd (qq (x.lt q) e) (zn _)
def HOk.kept(x:HOk P w H h)(k:∀b u,h.get? b=some u->h'.get? b=some u):HOk P w H h':=λa o e =>
 (x a o e).stay (λb u _ q=>k b u q) (λ_ q=>q) λ_ _ q=>q
def HOk.laid(x:HOk P w H h)(k:∀b u,h.get? b=some u->h'.get? b=some u)(f:h.objs.size≤a)(new:ObjOk P w (upd H a o) h' a o):HOk P w (upd H a o) h':=λb u e=>by
 have hn:=x.fresh f
 by_cases d:b=a
 ·subst d;rw[xAab]at e;cases e;exact new
 ·rw[xAae d]at e
  exact(x b u e).stay (λc v _ q=>k c v q) (λc q=>by rw[xAae (xAad q hn)];exact q) λc xs q=>by rw[xAae (xAad q hn)];exact q
end
def Rd(H:Hp)(a:Addr)(u:HO):Prop:=H a=some u\/∃o,H a=some (.frz o u)
def Rd.of(h:H a=some u):Rd H a u:=.inl h
def Rd.ok(r:Rd H a u)(x:HOk P w H h):ObjOk P w H h a u:=by
 rcases r with r|⟨o,r⟩
 ·exact x a u r
 ·obtain⟨_,q⟩:=x a _ r
  exact q
def Mut:Option HO->Prop
 |some (.lst _)=>True
 |some (.dK _)=>True
 |some (.dT _)=>True
 |some (.dG _)=>True
 |some (.set _ _)=>True
 |some (.ins _ _ _)=>True
 |some (.ext _)=>True
 |_=>False
section
variable {P:Program}{w:World}{H:Hp}{h h':Heap}{x e:Addr}{o':HO}
def HOk.write(ok:HOk P w H h)(g:Mut (H x))(m:e=x\/H e=some (.own x))(k:∀b u,b≠e->h.get? b=some u->h'.get? b=some u)(l:∃u,h'.get? e=some u)(new:ObjOk P w (upd H x o') h' x o'):HOk P w (upd H x o') h':=λb u q=>by
 have d:∀c y,H c=some (.own y)->c≠x:=λc y r z=>by subst z;rw[r]at g;exact g
 have f:∀c xs,H c=some (.tup xs)->c≠x:=λc xs r z=>by subst z;rw[r]at g;exact g
 by_cases j:b=x
 ·subst j;rw[xAab]at q;cases q;exact new
 ·rw[xAae j]at q
  by_cases a:b=e
  ·have n:H b=some (.own x):=by
    rcases m with z|z
    ·exact absurd (a.trans z) j
    ·rw[a];exact z
   rw[q]at n;cases n;obtain⟨v,o⟩:=l;exact⟨v,by rw[a];exact o⟩
  ·refine(ok b u q).stay (λc v i r=>k c v ?_ r) (λc r=>by rw[xAae (d c b r)];exact r) λc xs r=>by rw[xAae (f c xs r)];exact r
   rcases i with rfl|i
   ·exact a
   ·rintro rfl
    rcases m with z|z
    ·exact d c b i z
    ·rw[i]at z;cases z;exact j rfl
end
structure Un(fs ex:List Addr)(H H':Hp)(h h':Heap):Prop where
 keep:∀b o,h.get? b=some o->H b=none->b∉fs->b∉ex->h'.get? b=some o
 slot:∀b o,h.get? b=some o->H b=none->b∈fs->b∉ex->∃sl,h'.get? b=some { o with slots:=sl }
 free:∀b o,h.get? b=some o->H b=none->b∉ex->H' b=none
 there:∀b o,h.get? b=some o->b∉ex->∃o',h'.get? b=some o'
 tups:∀b xs,H b=some (.tup xs)->H' b=some (.tup xs)
 frzs:∀b o u,H b=some (.frz o u)->H' b=some (.frz o u)
 tbls:∀b ps,H b=some (.tbl ps)->∃more,H' b=some (.tbl (ps++more))
 tupo:∀b o xs,h.get? b=some o->H b=some (.tup xs)->h'.get? b=some o
section
variable {fs fs' ex ex':List Addr}{H H1 H2:Hp}{h h1 h2 h':Heap}{a x e:Addr}{o:HO}
def Un.any(u:Un fs ex H H1 h h1)(q:h.get? b=some ob)(n:H b=none)(c:b∉ex):∃d,h1.get? b=some { ob with slots:=d }:=by
 by_cases a:b∈fs
 ·exact u.slot b ob q n a c
 ·exact⟨ob.slots,u.keep b ob q n a c⟩
def Un.trans(a:Un fs ex H H1 h h1)(b:Un fs ex H1 H2 h1 h2):Un fs ex H H2 h h2 where
 keep:=λc ob q n f d=>b.keep c ob (a.keep c ob q n f d) (a.free c ob q n d) f d
 slot:=λc ob q n f d=>by
  obtain⟨l,e⟩:=a.slot c ob q n f d;obtain⟨i,g⟩:=b.slot c _ e (a.free c ob q n d) f d;exact⟨i,g⟩
 free:=λc ob q n d=>by
  obtain⟨o',e⟩:=a.there c ob q d;exact b.free c o' e (a.free c ob q n d) d
 there:=λc ob q d=>by
  obtain⟨o',e⟩:=a.there c ob q d;exact b.there c o' e d
 tups:=λc xs q=>b.tups c xs (a.tups c xs q)
 frzs:=λc ob xs q=>b.frzs c ob xs (a.frzs c ob xs q)
 tbls:=λc ps q=>by
  obtain⟨j,e⟩:=a.tbls c ps q;obtain⟨k,g⟩:=b.tbls c _ e;exact⟨j++k,by rw[g,h8]⟩
 tupo:=λc ob xs q n=>b.tupo c ob xs (a.tupo c ob xs q n) (a.tups c xs n)
def Un.kept(k:∀b u,h.get? b=some u->h'.get? b=some u):Un fs ex H H h h' :=
 ⟨λb ob q _ _ _=>k b ob q,λb ob q _ _ _=>⟨ob.slots,k b ob q⟩,λ_ _ _ n _=>n,λb ob q _=>⟨ob,k b ob q⟩,λ_ _ q=>q,λ_ _ _ q=>q,λ_ ps q=>⟨#[],by rw[q];simp⟩,λb ob _ q _=>k b ob q⟩
def Un.refl:Un fs ex H H h h:=Un.kept λ_ _ q=>q
def Un.laid(k:∀b u,h.get? b=some u->h'.get? b=some u)(c:h.objs.size≤a)(hn:H a=none):Un fs ex H (upd H a o) h h' where
 keep:=λb u q _ _ _=>k b u q
 slot:=λb u q _ _ _=>⟨u.slots,k b u q⟩
 free:=λb u q n _=>by rw[xAae (qi (qq (qG q) c))];exact n
 there:=λb u q _=>⟨u,k b u q⟩
 tups:=λb xs q=>by rw[xAae (xAad q hn)];exact q
 frzs:=λb u xs q=>by rw[xAae (xAad q hn)];exact q
 tbls:=λb ps q=>⟨#[],by rw[xAae (xAad q hn),q];simp⟩
 tupo:=λb u _ q _=>k b u q
def Un.write(c:Mut (H x))(g:e=x\/H e=some (.own x))(k:∀b u,b≠e->h.get? b=some u->h'.get? b=some u)(f:∃u,h'.get? e=some u):Un fs ex H (upd H x o) h h':=by
 have i:∀b,H b=none->b≠x:=λb n z=>by subst z;rw[n]at c;exact c
 have j:∀b,H b=none->b≠e:=λb n z=>by
  subst z;rcases g with r|r
  ·exact i b n r
  ·rw[n]at r;cases r
 have d:∀b u,H b=some u->¬Mut (some u)->b≠x:=λb u q l z=>by subst z;rw[q]at c;exact l c
 refine⟨λb u q n _ _=>k b u (j b n) q,λb u q n _ _=>⟨u.slots,k b u (j b n) q⟩,λb u q n _=>by rw[xAae (i b n)];exact n,λb u q _=>?_,
  λb xs q=>by rw[xAae (d b _ q λz=>z)];exact q,λb u xs q=>by rw[xAae (d b _ q λz=>z)];exact q,λb ps q=>⟨#[],by rw[xAae (d b _ q λz=>z),q];simp⟩,λb u xs q n=>k b u (λz=>by
   subst z;rcases g with r|r
   ·exact d b _ n (λz=>z) r
   ·rw[n]at r;cases r) q⟩
 by_cases a:b=e
 ·subst a;exact f
 ·exact⟨u,k b u a q⟩
end
def trk(h:Heap)(H:Hp):List Addr:=(List.range h.objs.size).filter λa=>(H a).isSome
def hidT(h:Heap)(H:Hp):Heap:=PySem.W.hideAll h (trk h H)
def xAne(h:Heap)(H:Hp):(hidT h H).objs.size=h.objs.size:=PySem.W.hideAll_size _ _
def xAqc(e:h.get? b=some o)(n:H b=none):(hidT h H).get? b=some o :=
 PySem.W.hideAll_get _ e λa=>by
  have q:(H b).isSome=true:=(zo.mp a).2;rw[n]at q;simp at q
def xAsh(e:(hidT h H).get? b=some o):h.get? b=some o/\H b=none:=by
 have a:h.get? b=some o:=PySem.W.of_hideAll (trk h H) e;refine⟨a,?_⟩
 cases q:H b with
 |none=>rfl
 |some x =>
  have c:b∈trk h H:=List.mem_filter.mpr ⟨List.mem_range.mpr (qG a),by simp[q]⟩;have z:(hidT h H).get? b=none:=PySem.W.hideAll_none (trk h H) c;rw[z]at e;cases e
structure Mod(K:PySem.W.Frag)(mg:Str->Option Value)(base:Heap):Prop where
 kin:K.In base
 glob:base.Ns mainGlobals mg
 blt:∃mb,base.Ns builtinsNs mb/\∀x:Str,x≠"__name__"->mb x=bootBuiltins x
 nolimit:base.NoLimit
structure Cx where
 prog:Program
 w:World
 K:PySem.W.Frag
 mg:Str->Option Value
 base:Heap
 A:Around
 N:List Str
 s₀:Shared
 H₀:Hp
 env:Env
 outer:List Env
 stack:List Env
 ex:List Addr
 fn:Str->Bool
 calm:Bool
 pn:List (Addr×Obj)
 xe:Value->Shared->Prop
def frs(l:List Env):List Addr:=l.filterMap (·.frame)
abbrev Cx.fs(X:Cx):List Addr:=frs X.outer
def Vis(a:Scope)(x:Str):Prop:=a.names.lookup x=some .local\/a.names.lookup x=some .cell\/a.names.lookup x=some .free
def Loc(a:Scope)(x:Str):Prop:=a.names.lookup x=some .local\/a.names.lookup x=some .cell
def Look(env:Env)(h:Heap)(m:Str->Option Value)(x:Str)(u:Value):Prop :=
 (env.kindOf x=some .local/\m x=some u)\/((env.kindOf x=some .cell\/env.kindOf x=some .free)/\∃c,env.cells.lookup x=some c/\h.IsCell c (some u))
structure Cx.Ok(X:Cx):Prop where
 mod:Mod X.K X.mg X.base
 kind:X.env.scope.kind=.function
 glob:X.env.globals=mainGlobals
 blt:X.env.builtins=builtinsNs
 above:X.s₀.heap.objs.size≤X.env.locals
 inj:∀x y c,X.env.cells.lookup x=some c->X.env.cells.lookup y=some c->x=y
 has:∀x,(X.env.kindOf x=some .cell\/X.env.kindOf x=some .free)->∃c,X.env.cells.lookup x=some c
 cab:∀x c,X.fn x=true->X.env.cells.lookup x=some c->X.s₀.heap.objs.size≤c
 hd:X.calm=true->X.A.handled=none
 frames:X.A.frames=some X.stack
 stk:X.stack=X.outer\/(X.stack=X.env::X.outer/\X.env.frame=some X.env.locals)
 exf:∀b∈X.ex,b≠X.env.locals/\∀x c,X.env.cells.lookup x=some c->c≠b
 bs:∀b o,X.base.get? b=some o->X.s₀.heap.get? b=some o/\(X.H₀ b=none\/∃xs,X.H₀ b=some (.tup xs))
 bsz:X.base.objs.size≤X.s₀.heap.objs.size
 noex:∀b o,X.base.get? b=some o->b∉X.ex
 exfs:∀b∈X.ex,b∉X.fs
 funs:X.s₀.heap.FunFrames X.base X.outer
 frf:∀b∈X.fs,X.H₀ b=none
structure Inv(X:Cx)(pins:List (Addr×Obj))(σ:List (Option V))(H:Hp)(s:Shared):Prop where
 ok:X.Ok
 os:s.os=X.s₀.os
 bare:AllBare s.gens
 base:Un X.fs X.ex X.H₀ H X.s₀.heap s.heap
 loc:∃m,s.heap.Ns X.env.locals m/\∀(i:Nat) (x:Str) (v:V),X.N[i]?=some x->σ[i]?=some (some v)->Vis X.env.scope x->∃u,RelV v u/\Look X.env s.heap m x u
 cell:∀x c,X.env.cells.lookup x=some c->∃v,s.heap.IsCell c v
 free:H X.env.locals=none
 freeC:∀x c,X.env.cells.lookup x=some c->H c=none
 pin:∀p∈X.pn++pins,s.heap.get? p.1=some p.2/\H p.1=none/\p.1≠X.env.locals/\p.1∉X.fs/\∀v,p.2.data≠.cell v
 hok:HOk X.prog X.w H s.heap
 len:σ.length=X.N.length
section
variable {X:Cx}{pins:List (Addr×Obj)}{σ:List (Option V)}{H H':Hp}{s:Shared}{h':Heap}
def Cx.Ok.nofr(ok:X.Ok)(e:X.base.get? b=some o):b∉X.fs:=λa=>by
 have:=(ok.funs.mem a).1;rw[e]at this;cases this
def Inv.bs(I:Inv X pins σ H s):∀b o,X.base.get? b=some o->s.heap.get? b=some o/\(H b=none\/∃xs,H b=some (.tup xs)):=λb o e =>
 match I.ok.bs b o e with
 |⟨h1,.inl h2⟩=>⟨I.base.keep b o h1 h2 (I.ok.nofr e) (I.ok.noex b o e),.inl (I.base.free b o h1 h2 (I.ok.noex b o e))⟩
 |⟨h1,.inr ⟨xs,h2⟩⟩=>⟨I.base.tupo b o xs h1 h2,.inr ⟨xs,I.base.tups b xs h2⟩⟩
def Inv.bk(I:Inv X pins σ H s):∀b o,X.base.get? b=some o->s.heap.get? b=some o:=λb o e=>(I.bs b o e).1
def Inv.mod(I:Inv X pins σ H s):Mod X.K X.mg X.base:=I.ok.mod
def Inv.kIn(I:Inv X pins σ H s):X.K.In s.heap:=I.ok.mod.kin.keeps I.bk
def Inv.lt(I:Inv X pins σ H s):X.env.locals<s.heap.objs.size:=let⟨_,hn,_⟩:=I.loc;hn.lt
def Inv.sz(I:Inv X pins σ H s):X.s₀.heap.objs.size≤s.heap.objs.size:=qc I.ok.above (zt I.lt)
def Inv.nofs(I:Inv X pins σ H s){a:Addr}(h:s.heap.objs.size≤a):a∉X.fs:=λb=>by
 obtain⟨_,o,c,_⟩:=I.ok.funs.mem b;exact absurd (qq (qG c) (qc I.sz h)) (zn _)
def Inv.cne(I:Inv X pins σ H s):∀x c,X.env.cells.lookup x=some c->c≠X.env.locals:=λx c e z=>by
 obtain⟨v,o,d,f⟩:=I.cell x c e;obtain⟨m,⟨o',es,ep,b,a,_⟩,_⟩:=I.loc;rw[z,b]at d;cases d;rw[a]at f;cases f
def Inv.funs(I:Inv X pins σ H s):s.heap.FunFrames X.base X.outer:=by
 have all:∀(l:List Env),(∀b∈frs l,b∈X.fs)->X.s₀.heap.FunFrames X.base l->s.heap.FunFrames X.base l:=by
  intro l
  induction l with
  |nil=>intro _ _;trivial
  |cons env r h =>
   intro f k;obtain⟨i,⟨L,o,d,hn,j,m⟩,g⟩:=k;have a:L∈X.fs:=f L (by unfold frs;rw[jg,d];exact qp);obtain⟨n,e⟩:=I.base.slot L o j (I.ok.frf L a) a λz=>I.ok.exfs L z a;exact⟨i,⟨L,_,d,hn,e,m⟩,h (λb c=>f b (by unfold frs;rw[jg,d];exact qu _ c)) g⟩
 exact all X.outer (λ_ c=>c) I.ok.funs
def Inv.stack(I:Inv X pins σ H s):s.heap.FunFrames X.base X.stack:=by
 rcases I.ok.stk with e|⟨e,hf⟩
 ·rw[e];exact I.funs
 ·rw[e]
  obtain⟨m,hn,_⟩:=I.loc;refine .cons (by rw[I.ok.kind];decide) hf hn ?_ I.funs;exact Heap.get?_none_of_le (qc I.ok.bsz I.ok.above)
def Inv.stkSub(I:Inv X pins σ H s):∀b∈frs X.stack,b∈X.env.locals::X.fs:=λb a=>by
 rcases I.ok.stk with e|⟨e,hf⟩
 ·rw[e]at a;exact qu _ a
 ·rw[e]at a
  unfold frs at a;rw[jg,hf]at a;exact a
def Inv.stkFree(I:Inv X pins σ H s):∀b∈frs X.stack,H b=none:=λb a=>by
 rcases qz.mp (I.stkSub b a) with e|a
 ·rw[e];exact I.free
 ·obtain⟨_,o,c,_⟩:=I.ok.funs.mem a
  exact I.base.free b o c (I.ok.frf b a) λz=>I.ok.exfs b z a
def Inv.step{g':Array GenState}{t':Nat}{d':Drawn}{ch:List Addr}(I:Inv X pins σ H s)(h:∀b∈ch,(b∈X.ex\/X.s₀.heap.objs.size≤b)/\b≠X.env.locals/\(∀x c,X.env.cells.lookup x=some c->c≠b)/\∀p∈X.pn++pins,p.1≠b)(keep:∀b o,b≠X.env.locals->b∉X.fs->b∉ch->s.heap.get? b=some o->H b=none->h'.get? b=some o)(slot:∀b o,b≠X.env.locals->b∈X.fs->b∉ch->s.heap.get? b=some o->H b=none->∃G,h'.get? b=some { o with slots:=G })(free:∀b o,b∉ch->s.heap.get? b=some o->H b=none->H' b=none)(there:∀b o,b∉ch->s.heap.get? b=some o->∃o',h'.get? b=some o')(tups:∀b xs,H b=some (.tup xs)->H' b=some (.tup xs))(frzs:∀b o u,H b=some (.frz o u)->H' b=some (.frz o u))(tbls:∀b ps,H b=some (.tbl ps)->∃more,H' b=some (.tbl (ps++more)))(tupo:∀b o xs,s.heap.get? b=some o->H b=some (.tup xs)->h'.get? b=some o)(ns:∀m,s.heap.Ns X.env.locals m->h'.Ns X.env.locals m)(E:HOk X.prog X.w H' h')(M:AllBare g') :
  Inv X pins σ H' { s with heap:=h',gens:=g',drawn:=d',toks:=t' }:=by
 have B:∀b o,X.s₀.heap.get? b=some o->b≠X.env.locals:=λb o e=>qi (qq (qG e) I.ok.above)
 have t:∀b o,X.s₀.heap.get? b=some o->b∉X.ex->b∉ch:=λb o e a y=>by
  rcases(h b y).1 with z|z
  ·exact a z
  ·exact absurd (qq (qG e) z) (zn _)
 have f:∀x c,X.env.cells.lookup x=some c->∀v,s.heap.IsCell c v->h'.IsCell c v:=λx c e v ⟨o,A,D⟩=>by
  have g:c∉ch:=λz=>(h c z).2.2.1 x c e rfl
  by_cases L:c∈X.fs
  ·obtain⟨G,q⟩:=slot c o (I.cne x c e) L g A (I.freeC x c e)
   exact⟨_,q,D⟩
  ·exact⟨o,keep c o (I.cne x c e) L g A (I.freeC x c e),D⟩
 refine⟨I.ok,I.os,M,⟨λb o e n y a=>?_,λb o e n y a=>?_,λb o e n a=>?_,λb o e a=>?_,λb xs e=>tups b xs (I.base.tups b xs e),λb o xs e=>frzs b o xs (I.base.frzs b o xs e),λb ps e=>?_,λb o xs e n=>tupo b o xs (I.base.tupo b o xs e n) (I.base.tups b xs n)⟩,?_,λx c e=>?_,?_,λx c e=>?_,λp K=>?_,E,I.len⟩
 ·exact keep b o (B b o e) y (t b o e a) (I.base.keep b o e n y a) (I.base.free b o e n a)
 ·obtain⟨G,j⟩:=I.base.slot b o e n y a
  obtain⟨F,C⟩:=slot b _ (B b o e) y (t b o e a) j (I.base.free b o e n a);exact⟨F,C⟩
 ·obtain⟨o',j⟩:=I.base.there b o e a
  exact free b o' (t b o e a) j (I.base.free b o e n a)
 ·obtain⟨o',j⟩:=I.base.there b o e a
  exact there b o' (t b o e a) j
 ·obtain⟨O,j⟩:=I.base.tbls b ps e
  obtain⟨Q,C⟩:=tbls b _ j;exact⟨O++Q,by rw[C,h8]⟩
 ·obtain⟨m,hn,N⟩:=I.loc
  refine⟨m,ns m hn,λi x v j C P=>?_⟩;obtain⟨u,r,l⟩:=N i x v j C P;refine⟨u,r,?_⟩;rcases l with l|⟨k,c,e,z⟩
  ·exact .inl l
  ·exact .inr ⟨k,c,e,f x c e _ z⟩
 ·obtain⟨v,z⟩:=I.cell x c e
  exact⟨v,f x c e v z⟩
 ·obtain⟨m,⟨o,_,_,A,_⟩,_⟩:=I.loc
  exact free _ o (λz=>(h _ z).2.1 rfl) A I.free
 ·obtain⟨v,o,A,D⟩:=I.cell x c e
  exact free c o (λz=>(h c z).2.2.1 x c e rfl) A (I.freeC x c e)
 ·obtain⟨e,n,ne,J,d⟩:=I.pin p K
  have g:p.1∉ch:=λz=>(h p.1 z).2.2.2 p K rfl;exact⟨keep p.1 p.2 ne J g e n,free p.1 p.2 g e n,ne,J,d⟩
def Inv.un(I:Inv X pins σ H s)(u:Un X.fs [] H H' s.heap h')(d:HOk X.prog X.w H' h'):Inv X pins σ H' { s with heap:=h',toks:=t' }:=by
 obtain⟨m,⟨o,es,ep,h,r⟩,_⟩:=id I.loc;obtain⟨p,j⟩:=u.any h I.free (by simp)
 exact I.step (g':=s.gens) (d':=s.drawn) (ch:=[]) (λ_ z=>nomatch z) (λb o _ g _ e n=>u.keep b o e n g (by simp)) (λb o _ g _ e n=>u.slot b o e n g (by simp)) (λb o _ e n=>u.free b o e n (by simp)) (λb o _ e=>u.there b o e (by simp)) u.tups u.frzs u.tbls u.tupo (λl i=>by
  obtain⟨o',f,c,a,k⟩:=i;rw[h]at a;cases a
  exact⟨_,f,c,j,k⟩) d I.bare
def Inv.call(I:Inv X pins σ H s)(u:Un (frs X.stack) ch H H' s.heap h')(h:HOk X.prog X.w H' h')(l:AllBare g')(f:∀b∈ch,(b∈X.ex\/X.s₀.heap.objs.size≤b)/\b≠X.env.locals/\(∀x c,X.env.cells.lookup x=some c->c≠b)/\∀p∈X.pn++pins,p.1≠b) :
  Inv X pins σ H' { s with heap:=h',gens:=g',drawn:=d',toks:=t' }:=by
 obtain⟨m,⟨o,es,ep,k,r⟩,_⟩:=id I.loc;obtain⟨A,j⟩:=u.any k I.free λz=>(f _ z).2.1 rfl
 exact I.step (ch:=ch) f (λb o j t a e n=>u.keep b o e n (λz=>(qz.mp (I.stkSub b z)).elim j t) a) (λb o _ _ a e n=>u.any e n a) (λb o a e n=>u.free b o e n a) (λb o a e=>u.there b o e a) u.tups u.frzs u.tbls u.tupo (λy q=>by
  obtain⟨o',i,g,d,v⟩:=q;rw[k]at d;cases d
  exact⟨_,i,g,j,v⟩) h l
def Inv.turned(I:Inv X pins σ H s)(k:∀b o,b≠it->s.heap.get? b=some o->h'.get? b=some o)(hn:H it=none)(f:it≠X.env.locals)(h1:it∈X.ex\/X.s₀.heap.objs.size≤it)(h2:∀x c,X.env.cells.lookup x=some c->c≠it)(j:∀p∈X.pn++pins,p.1≠it):Inv X pins σ H { s with heap:=h',toks:=t' }:=by
 have a:∀b u,H b=some u->b≠it:=λb u e z=>by rw[z,hn]at e;cases e
 refine I.step (g':=s.gens) (d':=s.drawn) (ch:=[it]) (λb i=>?_) (λb o _ _ d e _=>k b o (λz=>d (by simp[z])) e) (λb o _ _ d e _=>⟨o.slots,k b o (λz=>d (by simp[z])) e⟩) (λ_ _ _ _ n=>n)
  (λb o d e=>⟨o,k b o (λz=>d (by simp[z])) e⟩) (λ_ _ e=>e) (λ_ _ _ e=>e) (λb ps e=>⟨#[],by rw[e];simp⟩) (λb o xs e n=>k b o (a b _ n) e) (λm h=>?_) (λb u e=>?_) I.bare
 ·have e:b=it:=by simpa using i
  subst e;exact⟨h1,f,h2,j⟩
 ·obtain⟨o,es,ep,g,r⟩:=h
  exact⟨o,es,ep,k _ o (Ne.symm f) g,r⟩
 ·refine(I.hok b u e).stay (λc v d q=>k c v ?_ q) (λ_ q=>q) λ_ _ q=>q
  rcases d with z|z
  ·rw[z];exact a b u e
  ·exact a c _ z
def Inv.tok(I:Inv X pins σ H s)(t:Nat):Inv X pins σ H { s with toks:=t }:=I.un (h':=s.heap) (t':=t) Un.refl I.hok
def Inv.kept(I:Inv X pins σ H s)(k:∀b u,s.heap.get? b=some u->h'.get? b=some u):Inv X pins σ H { s with heap:=h',toks:=t' }:=I.un (Un.kept k) (I.hok.kept k)
def Inv.laid{a:Addr}{o:HO}{t':Nat}(I:Inv X pins σ H s)(k:∀b u,s.heap.get? b=some u->h'.get? b=some u)(c:s.heap.objs.size≤a)(new:ObjOk X.prog X.w (upd H a o) h' a o) :
  Inv X pins σ (upd H a o) { s with heap:=h',toks:=t' }:=I.un (Un.laid k c (I.hok.fresh c)) (I.hok.laid k c new)
def Inv.write(I:Inv X pins σ H s)(d:Mut (H x))(c:e=x\/H e=some (.own x))(k:∀b u,b≠e->s.heap.get? b=some u->h'.get? b=some u)(a:∃u,h'.get? e=some u)(new:ObjOk X.prog X.w (upd H x o) h' x o):Inv X pins σ (upd H x o) { s with heap:=h',toks:=t' }:=I.un (Un.write d c k a) (I.hok.write d c k a new)
def Inv.weak(I:Inv X pins σ H s)(e:σ'.length=σ.length)(w:∀(i:Nat) v,σ'[i]?=some (some v)->σ[i]?=some (some v)):Inv X pins σ' H s :=
 ⟨I.ok,I.os,I.bare,I.base,let⟨m,hn,a⟩:=I.loc;⟨m,hn,λi x v b c d=>a i x v b (w i v c) d⟩,I.cell,I.free,I.freeC,I.pin,I.hok,e.trans I.len⟩
def Inv.pins_of(I:Inv X pins σ H s)(h:∀p∈pins',s.heap.get? p.1=some p.2/\H p.1=none/\p.1≠X.env.locals/\p.1∉X.fs/\∀v,p.2.data≠.cell v):Inv X pins' σ H s :=
 ⟨I.ok,I.os,I.bare,I.base,I.loc,I.cell,I.free,I.freeC,λp a=>(zd.mp a).elim (λz=>I.pin p (z8 _ z)) (h p),I.hok,I.len⟩
def xAjz{N:List Str}(e:N.Nodup){i j:Nat}{x:Str}(a:N[i]?=some x)(b:N[j]?=some x):i=j:=by
 obtain⟨h1,c⟩:=qm.mp a;obtain⟨h2,d⟩:=qm.mp b;exact(List.getElem_inj e).mp (c.trans d.symm)
def xAhm(I:Inv X pins σ H s)(hN:X.N.Nodup)(hi:X.N[i]?=some x)(B:Loc X.env.scope x)(r:RelV v u)(h:∀s',Inv X pins (σ.set i (some v)) H s'->(∃a,Heap.SameBut a s.heap s'.heap/\(a=X.env.locals\/X.env.cells.lookup x=some a))->Q () s')(hf:X.fn x=true\/X.env.scope.names.lookup x=some .local:=by first|exact .inl rfl|exact .inr rfl|assumption):wpAny M A (storeName X.env x u) Q E s:=by
 obtain⟨m,hn,hl⟩:=id I.loc
 have L:(X.env.scope.kind==.class||(X.env.scope.kind==.module&&X.env.locals != X.env.globals))=false:=by rw[I.ok.kind];rfl
 have G:i<σ.length:=by rw[I.len];exact(qm.mp hi).1
 have cne:=I.cne
 have l:∀{a:Addr} {h':Heap},(∃o,s.heap.get? a=some o/\H a=none)->Heap.SameBut a s.heap h'->HOk X.prog X.w H h':=λ{a h'} ha f b ob e=>by
  obtain⟨_,_,C⟩:=ha;refine(I.hok b ob e).stay (λc U t q=>(f.2 c ?_).trans q) (λ_ q=>q) λ_ _ q=>q;rintro rfl;rcases t with rfl|t
  ·rw[C]at e;cases e
  ·rw[C]at t;cases t
 rcases B with hk|hk
 ·refine wpAny_storeName_local hk hn (λh' hn' f=>?_) L
  obtain⟨oL,_,_,W,_⟩:=id hn;refine h _ ⟨I.ok,I.os,I.bare,⟨λb o e n K B=>?_,λb o e n K B=>?_,I.base.free,λb o e B=>?_,I.base.tups,I.base.frzs,I.base.tbls,λb o xs e n=>(f.2 b (Nat.ne_of_lt (Nat.lt_of_lt_of_le (qG e) I.ok.above))).trans (I.base.tupo b o xs e n)⟩,⟨_,hn',λj y Y g F e3=>?_⟩,λy c e=>?_,I.free,I.freeC,λp hp=>?_,l ⟨oL,W,I.free⟩ f,by simpa using I.len⟩ ⟨_,f,.inl rfl⟩
  ·exact(f.2 b (qi (qq (qG e) I.ok.above))).trans (I.base.keep b o e n K B)
  ·obtain⟨sl,g⟩:=I.base.slot b o e n K B
   exact⟨sl,(f.2 b (qi (qq (qG e) I.ok.above))).trans g⟩
  ·obtain⟨o',g⟩:=I.base.there b o e B
   exact⟨o',(f.2 b (qi (qq (qG e) I.ok.above))).trans g⟩
  ·by_cases J:j=i
   ·subst J
    rw[hi]at g;cases g;rw[h9 G]at F;cases F;exact⟨u,r,.inl ⟨hk,by simp⟩⟩
   ·rw[ww (Ne.symm J)]at F
    obtain⟨u',Z,q⟩:=hl j y Y g F e3;refine⟨u',Z,?_⟩;rcases q with⟨k,e⟩|⟨k,c,e,z⟩
    ·refine .inl ⟨k,?_⟩
     have:y≠x:=λe=>J (xAjz hN g (e▸hi))
     simp[this,e]
    ·exact .inr ⟨k,c,e,z.sameBut f (cne y c e)⟩
  ·obtain⟨U,z⟩:=I.cell y c e
   exact⟨U,z.sameBut f (cne y c e)⟩
  ·obtain⟨e,n,ne,nf,d⟩:=I.pin p hp
   exact⟨(f.2 p.1 ne).trans e,n,ne,nf,d⟩
 ·have D:X.fn x=true:=by
   rcases hf with z|z
   ·exact z
   ·rw[z]at hk;cases hk
  obtain⟨c,t⟩:=I.ok.has x (.inl hk);obtain⟨U,z⟩:=I.cell x c t;refine wpAny_storeName_cell I.ok.kind hk t z (λh' O f=>?_);obtain⟨oc,P,S⟩:=id z;refine h { s with heap:=h' } ⟨I.ok,I.os,I.bare,⟨λb o e n K B=>?_,λb o e n K B=>?_,I.base.free,λb o e B=>?_,I.base.tups,I.base.frzs,I.base.tbls,λb o xs e n=>(f.2 b (Nat.ne_of_lt (Nat.lt_of_lt_of_le (qG e) (I.ok.cab x c D t)))).trans (I.base.tupo b o xs e n)⟩,⟨m,hn.sameBut f (Ne.symm (cne x c t)),λj y Y g F e3=>?_⟩,λy T e=>?_,I.free,I.freeC,λp hp=>?_,l ⟨oc,P,I.freeC x c t⟩ f,by simpa using I.len⟩ ⟨c,f,.inr t⟩
  ·exact(f.2 b (qi (qq (qG e) (I.ok.cab x c D t)))).trans (I.base.keep b o e n K B)
  ·obtain⟨sl,g⟩:=I.base.slot b o e n K B
   exact⟨sl,(f.2 b (qi (qq (qG e) (I.ok.cab x c D t)))).trans g⟩
  ·obtain⟨o',g⟩:=I.base.there b o e B
   exact⟨o',(f.2 b (qi (qq (qG e) (I.ok.cab x c D t)))).trans g⟩
  ·by_cases J:j=i
   ·subst J
    rw[hi]at g;cases g;rw[h9 G]at F;cases F;exact⟨u,r,.inr ⟨.inl hk,c,t,O⟩⟩
   ·rw[ww (Ne.symm J)]at F
    obtain⟨u',Z,q⟩:=hl j y Y g F e3;refine⟨u',Z,?_⟩;rcases q with q|⟨k,T,e,z'⟩
    ·exact .inl q
    ·refine .inr ⟨k,T,e,z'.sameBut f ?_⟩
     rintro rfl;exact J (xAjz hN g (I.ok.inj _ _ _ e t▸hi))
  ·by_cases R:T=c
   ·subst R;exact⟨_,O⟩
   ·obtain⟨w2,z2⟩:=I.cell y T e
    exact⟨w2,z2.sameBut f R⟩
  ·obtain⟨e,n,ne,nf,d⟩:=I.pin p hp
   refine⟨(f.2 p.1 ?_).trans e,n,ne,nf,d⟩;intro q;rw[q,P]at e;have q':oc=p.2:=qK e;exact d U (by rw[←q'];exact S)
def xAka(I:Inv X pins σ H s)(c:X.N.Nodup)(hi:X.N[i]?=some x)(a:Loc X.env.scope x)(r:RelV v u)(h:∀s',Inv X pins (σ.set i (some v)) H s'->Q () s')(d:X.fn x=true\/X.env.scope.names.lookup x=some .local:=by first|exact .inl rfl|exact .inr rfl|assumption):wpAny M A (storeName X.env x u) Q E s :=
 xAhm I c hi a r (λs' b _=>h s' b) d
def Inv.call'(I:Inv X pins σ H s)(f:s'.os=s.os)(u:Un (frs X.stack) ch H H' s.heap s'.heap)(d:HOk X.prog X.w H' s'.heap)(g:AllBare s'.gens)(a:∀b∈ch,(b∈X.ex\/X.s₀.heap.objs.size≤b)/\b≠X.env.locals/\(∀x c,X.env.cells.lookup x=some c->c≠b)/\∀p∈X.pn++pins,p.1≠b):Inv X pins σ H' s':=by
 obtain⟨h',g',d',t',o'⟩:=s';have e:o'=s.os:=f;subst e;exact I.call (g':=g') (t':=t') (d':=d') u d g a
end
abbrev XK:=Value->Option Addr->Hp->Prop
abbrev St:=List (Option V)
abbrev VK:=V->Hp->Prop
abbrev TE:=St->Hp->VK->Prop
abbrev TT:=St->Hp->(Bool->Hp->Prop)->Prop
abbrev TA:=St->Hp->(List V->Hp->Prop)->Prop
structure Ends where
 nx:St->Hp->Prop
 rt:VK
 bk:St->Hp->Prop:=λ_ _=>False
 ct:St->Hp->Prop:=λ_ _=>False
abbrev TS:=Ends->St->Hp->Prop
def EP(X:Cx)(pins:List (Addr×Obj))(σ:St)(Q:VK)(u:Value)(s':Shared):Prop:=∃v H',Inv X pins σ H' s'/\RelV v u/\Q v H'
def TP(X:Cx)(pins:List (Addr×Obj))(σ:St)(Q:Bool->Hp->Prop)(b:Bool)(s':Shared):Prop:=∃H',Inv X pins σ H' s'/\Q b H'
def AP(X:Cx)(pins:List (Addr×Obj))(σ:St)(Q:List V->Hp->Prop)(us:List Value)(s':Shared):Prop:=∃vs H',Inv X pins σ H' s'/\Vals vs us/\Q vs H'
def SP(X:Cx)(pins:List (Addr×Obj))(D:Ends)(f:Flow)(s':Shared):Prop :=
 match f with
 |.next=>∃σ' H',Inv X pins σ' H' s'/\D.nx σ' H'
 |.brk=>∃σ' H',Inv X pins σ' H' s'/\D.bk σ' H'
 |.cont=>∃σ' H',Inv X pins σ' H' s'/\D.ct σ' H'
 |.ret u=>∃v σ' H',Inv X pins σ' H' s'/\RelV v u/\D.rt v H'
def PE0(X:Cx)(e:Expr)(t:TE):Prop :=
 ∀(pins:List (Addr×Obj)) (s:Shared) (σ:St) (H:Hp) (Q:VK),Inv X pins σ H s->t σ H Q->wpAny (model X.prog X.w) X.A (eval e X.env) (EP X pins σ Q) X.xe s
structure PE(X:Cx)(e:Expr)(t:TE):Prop where run:PE0 X e t
instance PECf{X:Cx}{e:Expr}{t:TE}:CoeFun (PE X e t) λ_=>PE0 X e t:=⟨PE.run⟩
def PT0(X:Cx)(e:Expr)(t:TT):Prop :=
 ∀(pins:List (Addr×Obj)) (s:Shared) (σ:St) (H:Hp) (Q:Bool->Hp->Prop),Inv X pins σ H s->t σ H Q->wpAny (model X.prog X.w) X.A (isTrue e X.env (eval e X.env)) (TP X pins σ Q) X.xe s
structure PT(X:Cx)(e:Expr)(t:TT):Prop where run:PT0 X e t
instance PTCf{X:Cx}{e:Expr}{t:TT}:CoeFun (PT X e t) λ_=>PT0 X e t:=⟨PT.run⟩
def PW0(X:Cx)(e:Expr)(t:TT):Prop :=
 ∀(a:Sem Value) (pins:List (Addr×Obj)) (s:Shared) (σ:St) (H:Hp) (Q:Bool->Hp->Prop),Inv X pins σ H s->t σ H Q->wpAny (model X.prog X.w) X.A (isTrue e X.env a) (TP X pins σ Q) X.xe s
structure PW(X:Cx)(e:Expr)(t:TT):Prop where run:PW0 X e t
instance PWCf{X:Cx}{e:Expr}{t:TT}:CoeFun (PW X e t) λ_=>PW0 X e t:=⟨PW.run⟩
def PW.pt(h:PW X e t):PT X e t:=⟨h _⟩
def PA0(X:Cx)(es:List Expr)(t:TA):Prop :=
 ∀(pos:Pos) (pins:List (Addr×Obj)) (s:Shared) (σ:St) (H:Hp) (Q:List V->Hp->Prop),Inv X pins σ H s->t σ H Q->wpAny (model X.prog X.w) X.A (spliced (backTo pos (starEach es X.env))) (AP X pins σ Q) X.xe s
structure PA(X:Cx)(es:List Expr)(t:TA):Prop where run:PA0 X es t
instance PACf{X:Cx}{es:List Expr}{t:TA}:CoeFun (PA X es t) λ_=>PA0 X es t:=⟨PA.run⟩
def PS0(X:Cx)(st:Stmt)(t:TS):Prop :=
 ∀(pins:List (Addr×Obj)) (s:Shared) (σ:St) (H:Hp) (D:Ends),Inv X pins σ H s->t D σ H->wpAny (model X.prog X.w) X.A (exec st X.env) (SP X pins D) X.xe s
structure PS(X:Cx)(st:Stmt)(t:TS):Prop where run:PS0 X st t
instance PSCf{X:Cx}{st:Stmt}{t:TS}:CoeFun (PS X st t) λ_=>PS0 X st t:=⟨PS.run⟩
def PSs0(X:Cx)(st:List Stmt)(t:TS):Prop :=
 ∀(pins:List (Addr×Obj)) (s:Shared) (σ:St) (H:Hp) (D:Ends),Inv X pins σ H s->t D σ H->wpAny (model X.prog X.w) X.A (execs st X.env) (SP X pins D) X.xe s
structure PSs(X:Cx)(st:List Stmt)(t:TS):Prop where run:PSs0 X st t
instance PSsCf{X:Cx}{st:List Stmt}{t:TS}:CoeFun (PSs X st t) λ_=>PSs0 X st t:=⟨PSs.run⟩
def thn{α:Type}{t:Sem α}{Q b:α->Shared->Prop}{M:Model}{A:Around}{E:Value->Shared->Prop}{s:Shared}(h:wpAny M A t Q E s)(c:∀a s,Q a s->b a s):wpAny M A t b E s:=qM h c λ_ _ x=>x
section
variable {X:Cx}
inductive ItVar(i:Nat)(σ:St)(H:Hp)(Q:VK):Prop
 |mk (v:_) (h0_:σ[i]?=some (some v)) (h1_:Q v H):ItVar i σ H Q
def tVar(i:Nat):TE:=λσ H Q=>ItVar i σ H Q
def tC(v:V):TE:=λ_ H Q=>Q v H
def pe_var(p:X.N[i]?=some x)(k:Vis X.env.scope x)(g:(x==("__debug__":Str))=false:=by decide)(f:(x==("__classdict__":Str))=false:=by decide):PE X (.Name x pos) (tVar i):=by
 refine⟨?_⟩;intro pins s σ H Q I h;obtain⟨v,e,h⟩:=h;obtain⟨m,hn,n⟩:=I.loc;obtain⟨u,r,l⟩:=n i x v p e k;have d:EP X pins σ Q u s:=⟨v,H,I,r,h⟩;rcases l with⟨b,o⟩|⟨b,c,j,a⟩
 ·exact wpAny_Name (wpAny_loadName_local I.ok.kind b hn o d) g
 ·rcases b with b|b
  ·exact wpAny_Name (wpAny_loadName_cell I.ok.kind b j a d) g
  ·exact wpAny_Name (wpAny_loadName_free I.ok.kind b j a d f) g
def xAaf{i j pos}:PE X (.Constant (.int i) j pos) (tC (.int i)):=⟨λ_ _ _ H _ I h=>wpAny_Constant_int ⟨.int i,H,I.tok _,⟨_,O⟩,h⟩⟩
def pe_bl{b j pos}:PE X (.Constant (.bool b) j pos) (tC (.bl b)):=⟨λ_ _ _ H _ I h=>Constant_bool ⟨.bl b,H,I,O,h⟩⟩
def xAcf{j pos}:PE X (.Constant .none j pos) (tC .non):=⟨λ_ _ _ H _ I h=>Constant_none ⟨.non,H,I,O,h⟩⟩
def xAai{x j pos}:PE X (.Constant (.str x) j pos) (tC (.str x)):=⟨λ_ _ _ H _ I h=>Calls.Constant_str ⟨.str x,H,I.tok _,⟨_,O⟩,h⟩⟩
def Gl(X:Cx)(x:Str):Prop:=X.env.kindOf x=some .globalImplicit
def xAkb{E:Value->Shared->Prop}{pins:List (Addr×Obj)}{s:Shared}{σ:St}{H:Hp}{x:Str}{u:Value}{pos:Pos}{Q:Value->Shared->Prop}(I:Inv X pins σ H s)(b:Gl X x)(a:X.mg x=some u)(h:Q u s)(c:(x==("__debug__":Str))=false:=by decide):wpAny (model X.prog X.w) X.A (eval (.Name x pos) X.env) Q E s :=
 Calls.Name_function_global I.ok.kind b (Calls.loadGlobal_global (by rw[I.ok.glob];exact I.mod.glob.keeps I.bk) a h) c
def xAdw{E:Value->Shared->Prop}{pins:List (Addr×Obj)}{s:Shared}{σ:St}{H:Hp}{x:Str}{u:Value}{pos:Pos}{Q:Value->Shared->Prop}(I:Inv X pins σ H s)(b:Gl X x)(c:X.mg x=none)(a:bootBuiltins x=some u)(h:Q u s)(hn:x≠"__name__":=by decide)(d:(x==("__debug__":Str))=false:=by decide):wpAny (model X.prog X.w) X.A (eval (.Name x pos) X.env) Q E s:=by
 obtain⟨e,h1,h2⟩:=I.mod.blt;exact Calls.Name_function_global I.ok.kind b (Calls.loadGlobal_builtin (by rw[I.ok.glob];exact I.mod.glob.keeps I.bk) c (by rw[I.ok.blt];exact h1.keeps I.bk) ((h2 x hn).trans a) h) d
def xAkc(b:Gl X x)(a:X.mg x=some u)(r:RelV v u)(c:(x==("__debug__":Str))=false:=by decide):PE X (.Name x pos) (tC v):=⟨λ_ _ _ H _ I h=>xAkb I b a ⟨v,H,I,r,h⟩ c⟩
def xAkd(b:Gl X x)(c:X.mg x=none)(a:bootBuiltins x=some u)(r:RelV v u)(hn:x≠"__name__":=by decide)(d:(x==("__debug__":Str))=false:=by decide):PE X (.Name x pos) (tC v):=⟨λ_ _ _ H _ I h=>xAdw I b c a ⟨v,H,I,r,h⟩ hn d⟩
variable {a b:Expr}{ta tb:TE}{pos:Pos}
inductive ItB(Q:Bool->Hp->Prop)(x:V)(H1:Hp):Prop
 |mk (c:_) (h0_:x=.bl c) (h1_:Q c H1):ItB Q x H1
def tB(t:TE):TT:=λσ H Q=>t σ H λx H1=>ItB Q x H1
def xAck(h:PE X e t)(b:∀a,isTrue e X.env a=(do let v ←a;standAt e.pos;holding [v] (truthy v)):=by intro _;rfl):PT X e (tB t):=by
 refine⟨?_⟩;intro pins s σ H Q I c;refine isTrue_plain (thn (h pins s σ H _ I c) λv j ⟨x,H1,i,g,f⟩=>?_) (b _);obtain⟨d,rfl,q⟩:=f;cases g;exact wpAny_truthy_bool ⟨H1,i,q⟩
variable {tA tB':TT}{rest:List Expr}
def tAnd(t u:TT):TT:=λσ H Q=>t σ H λc H1=>if c=true then u σ H1 Q else Q false H1
def tOr(t u:TT):TT:=λσ H Q=>t σ H λc H1=>if c=true then Q true H1 else u σ H1 Q
def tNot(t:TT):TT:=λσ H Q=>t σ H λc H1=>Q (!c) H1
def xAcp(b:PT X a tA):PW X (.BoolOp .And [a] pos) tA:=by
 refine⟨?_⟩;intro d pins s σ H Q I h;refine isTrue_and (thn (b pins s σ H Q I h) λc f e=>?_)
 cases c with
 |true=>exact isTrue_and_nil e
 |false=>exact e
def xAqd(b:PT X a tA):PW X (.BoolOp .Or [a] pos) tA:=by
 refine⟨?_⟩;intro d pins s σ H Q I h;refine isTrue_or (thn (b pins s σ H Q I h) λc f e=>?_)
 cases c with
 |false=>exact isTrue_or_nil e
 |true=>exact e
def xAem(i:PT X a tA)(j:PW X (.BoolOp .And (b::rest) pos) tB'):PW X (.BoolOp .And (a::b::rest) pos) (tAnd tA tB'):=by
 refine⟨?_⟩;intro f pins s σ H Q I h;refine isTrue_and (thn (i pins s σ H _ I h) λc g ⟨H1,e,d⟩=>?_)
 cases c with
 |true=>exact j f pins g σ H1 Q e d
 |false=>exact⟨H1,e,d⟩
def pw_or(i:PT X a tA)(j:PW X (.BoolOp .Or (b::rest) pos) tB'):PW X (.BoolOp .Or (a::b::rest) pos) (tOr tA tB'):=by
 refine⟨?_⟩;intro f pins s σ H Q I h;refine isTrue_or (thn (i pins s σ H _ I h) λc g ⟨H1,e,d⟩=>?_)
 cases c with
 |true=>exact⟨H1,e,d⟩
 |false=>exact j f pins g σ H1 Q e d
def xAqe(b:PT X a tA):PT X (.UnaryOp .Not a pos) (tNot tA):=by
 refine⟨?_⟩;intro pins s σ H Q I h;exact isTrue_not (b pins s σ H (λc H1=>Q (!c) H1) I h)
inductive ItAndV(tb:TE)(σ:St)(Q:VK)(x:V)(H1:Hp):Prop
 |mk (c:_) (h0_:x=.bl c) (h1_:if c=true then tb σ H1 Q else Q (.bl false) H1):ItAndV tb σ Q x H1
def tAndV(ta tb:TE):TE:=λσ H Q=>ta σ H λx H1=>ItAndV tb σ Q x H1
inductive ItOrV(tb:TE)(σ:St)(Q:VK)(x:V)(H1:Hp):Prop
 |mk (c:_) (h0_:x=.bl c) (h1_:if c=true then Q (.bl true) H1 else tb σ H1 Q):ItOrV tb σ Q x H1
def tOrV(ta tb:TE):TE:=λσ H Q=>ta σ H λx H1=>ItOrV tb σ Q x H1
def xAsi{op}(h:PE X a t):PE X (.BoolOp op [a] pos) t:=⟨λpins s σ H Q I b=>BoolOp_one (h pins s σ H Q I b)⟩
def pe_and(i:PE X a ta)(j:PE X (.BoolOp .And (b::rest) pos) tb):PE X (.BoolOp .And (a::b::rest) pos) (tAndV ta tb):=by
 refine⟨?_⟩;intro pins s σ H Q I h;refine BoolOp_and (thn (i pins s σ H _ I h) λv g ⟨x,H1,e,f,d⟩=>?_);obtain⟨c,rfl,d⟩:=d;cases f;refine wpAny_truthy_bool ?_
 cases c with
 |true=>exact j pins g σ H1 Q e d
 |false=>exact⟨.bl false,H1,e,O,d⟩
def pe_or(i:PE X a ta)(j:PE X (.BoolOp .Or (b::rest) pos) tb):PE X (.BoolOp .Or (a::b::rest) pos) (tOrV ta tb):=by
 refine⟨?_⟩;intro pins s σ H Q I h;refine BoolOp_or (thn (i pins s σ H _ I h) λv g ⟨x,H1,e,f,d⟩=>?_);obtain⟨c,rfl,d⟩:=d;cases f;refine wpAny_truthy_bool ?_
 cases c with
 |false=>exact j pins g σ H1 Q e d
 |true=>exact⟨.bl true,H1,e,O,d⟩
def tIf(t:TT)(ta tb:TE):TE:=λσ H Q=>t σ H λc H1=>if c=true then ta σ H1 Q else tb σ H1 Q
def xAdj(i:PT X c tA)(j:PE X a ta)(k:PE X b tb):PE X (.IfExp c a b pos) (tIf tA ta tb):=by
 refine⟨?_⟩;intro pins s σ H Q I h;refine wpAny_IfExp (thn (i pins s σ H _ I h) λd f ⟨H1,g,e⟩=>?_)
 cases d with
 |true=>exact j pins f σ H1 Q g e
 |false=>exact k pins f σ H1 Q g e
end
def SqL(H:Hp)(a:Addr)(xs:List V):Prop :=
 Rd H a (.lst xs)
def SqT(H:Hp)(a:Addr)(xs:List V):Prop :=
 Rd H a (.tup xs)
def absV:Value->Option V
 |.none=>some .non
 |.bool b=>some (.bl b)
 |.int i _=>some (.int i)
 |.str x _=>some (.str x)
 |.bytes b _=>some (.byt b)
 |.float b _=>some (.flt b)
 |.ref a=>some (.ref a)
 |.type n=>some (.ty n)
 |_=>none
def RelV.abs(r:RelV x u):absV u=some x:=by
 cases x with
 |non=>cases r;rfl
 |bl _=>cases r;rfl
 |int _=>obtain⟨t,rfl⟩:=r;rfl
 |str _=>obtain⟨t,rfl⟩:=r;rfl
 |byt _=>obtain⟨t,rfl⟩:=r;rfl
 |flt _=>obtain⟨t,rfl⟩:=r;rfl
 |ref _=>cases r;rfl
 |ty _=>cases r;rfl
def RelV.inj(r:RelV x u)(q:RelV y u):x=y:=qK (r.abs.symm.trans q.abs)
def Vals.inj:∀{xs ys:List V} {us:List Value},Vals xs us->Vals ys us->xs=ys
 |_,_,_,.nil,.nil=>rfl
 |_,_,_,.cons r t,.cons r' t'=>by rw[r.inj r',Vals.inj t t']
section
variable {X:Cx}{pins:List (Addr×Obj)}{σ:St}{H:Hp}{s:Shared}{a:Addr}{xs ys:List V}
def SqL.of(h:H a=some (.lst xs)):SqL H a xs:=.inl h
def SqT.of(h:H a=some (.tup xs)):SqT H a xs:=.inl h
def Inv.list(I:Inv X pins σ H s)(h:SqL H a xs):∃its:List Value,Vals xs its/\PlainL s.heap a its.toArray/\xs.length≤sizeLine:=by
 obtain⟨z,its,n,r,e⟩:=Rd.ok h I.hok;exact⟨its,r,⟨_,n,e,O,O,O⟩,z⟩
def Inv.tuple(I:Inv X pins σ H s)(h:SqT H a xs):∃its:List Value,Vals xs its/\IsTup s.heap a its.toArray/\xs.length≤sizeLine:=by
 obtain⟨z,its,r,p⟩:=Rd.ok h I.hok;exact⟨its,r,p,z⟩
def Inv.list_inj(I:Inv X pins σ H s)(h:SqL H a xs)(h':SqL H a ys):xs=ys:=by
 obtain⟨its,r,⟨o,n,e,_,_,d⟩,_⟩:=I.list h;obtain⟨its',c,⟨o',f,b,_,_,d'⟩,_⟩:=I.list h';rw[e]at b;cases b;rw[d]at d';injection d' with d1 _
 have:its=its':=by simpa using congrArg Array.toList d1
 subst this;exact r.inj c
end
abbrev Cx.wish(X:Cx)(E:Value->Shared->Prop):Cx:={ X with xe:=E }
abbrev Cx.nox(X:Cx):Cx:=X.wish λ_ _=>False
def Cx.Ok.wish{X:Cx}(ok:X.Ok)(E:Value->Shared->Prop):(X.wish E).Ok :=
 ⟨ok.mod,ok.kind,ok.glob,ok.blt,ok.above,ok.inj,ok.has,ok.cab,ok.hd,ok.frames,ok.stk,ok.exf,ok.bs,ok.bsz,ok.noex,ok.exfs,ok.funs,ok.frf⟩
def Cx.Ok.unwish{X:Cx}{E:Value->Shared->Prop}(ok:(X.wish E).Ok):X.Ok :=
 ⟨ok.mod,ok.kind,ok.glob,ok.blt,ok.above,ok.inj,ok.has,ok.cab,ok.hd,ok.frames,ok.stk,ok.exf,ok.bs,ok.bsz,ok.noex,ok.exfs,ok.funs,ok.frf⟩
section
variable {X:Cx}{pins:List (Addr×Obj)}{σ:St}{H:Hp}{s:Shared}{E:Value->Shared->Prop}
def Inv.wish(I:Inv X pins σ H s)(E:Value->Shared->Prop):Inv (X.wish E) pins σ H s:=⟨I.ok.wish E,I.os,I.bare,I.base,I.loc,I.cell,I.free,I.freeC,I.pin,I.hok,I.len⟩
def Inv.unwish(I:Inv (X.wish E) pins σ H s):Inv X pins σ H s:=⟨I.ok.unwish,I.os,I.bare,I.base,I.loc,I.cell,I.free,I.freeC,I.pin,I.hok,I.len⟩
def SP.unwish(h:SP (X.wish E) pins D f s'):SP X pins D f s':=by
 cases f with
 |next=>obtain⟨σ',H',I,q⟩:=h;exact⟨σ',H',I.unwish,q⟩
 |brk=>obtain⟨σ',H',I,q⟩:=h;exact⟨σ',H',I.unwish,q⟩
 |cont=>obtain⟨σ',H',I,q⟩:=h;exact⟨σ',H',I.unwish,q⟩
 |ret u=>obtain⟨v,σ',H',I,r,q⟩:=h;exact⟨v,σ',H',I.unwish,r,q⟩
def PSs.nox{st:List Stmt}{t:TS}(h:PSs X.nox st t):PSs X st t:=⟨λpins s σ H D I a =>
 qM (h pins s σ H D (I.wish _) a) (λ_ _ q=>q.unwish) λ_ _ z=>False.elim z⟩
end
section
variable {X:Cx}{st:Stmt}{rest:List Stmt}{t u:TS}{e:Expr}{te:TE}{pos:Pos}
def tNext:TS:=λD σ H=>D.nx σ H
def tSeq(t u:TS):TS:=λD σ H=>t { D with nx:=u D } σ H
def xAan:PSs X [] tNext:=⟨λ_ _ σ H _ I h=>wpAny_execs_nil ⟨σ,H,I,h⟩⟩
def xAaa(h1:PS X st t)(h2:PSs X rest u):PSs X (st::rest) (tSeq t u):=by
 refine⟨?_⟩;intro pins s σ H D I h;refine wpAny_execs_cons (thn (h1 pins s σ H { D with nx:=u D } I h) λf a q=>?_)
 cases f with
 |next =>
  obtain⟨σ',H',b,q⟩:=q;exact h2 pins a σ' H' D b q
 |ret v=>exact q
 |brk=>exact q
 |cont=>exact q
def xAac(h1:PS X st t):PSs X [st] t:=by
 refine⟨?_⟩;intro pins s σ H D I h;refine wpAny_execs_cons (thn (h1 pins s σ H D I h) λf a q=>?_)
 cases f with
 |next=>exact wpAny_execs_nil q
 |ret v=>exact q
 |brk=>exact q
 |cont=>exact q
def Inv.quiet{pins:List (Addr×Obj)}{σ:St}{H:Hp}{s:Shared}(I:Inv X pins σ H s):interactive X.env=false:=by simp[interactive,I.ok.kind]
def tDrop(te:TE):TS:=λD σ H=>te σ H λ_ H1=>D.nx σ H1
def xAeb(a:PE X e te)(c:swapsWith e none pos.line X.env=pure false:=by rfl):PS X (.Expr e pos) (tDrop te):=by
 refine⟨?_⟩;intro pins s σ H D I h;exact wpAny_Expr_any (thn (a pins s σ H _ I h) λv g ⟨x,H1,d,f,b⟩=>⟨σ,H1,d,b⟩) I.quiet c
def tRet(te:TE):TS:=λD σ H=>te σ H D.rt
def xAak(a:PE X e te):PS X (.Return (some e) pos) (tRet te):=by
 refine⟨?_⟩;intro pins s σ H D I h;exact wpAny_Return_some (thn (a pins s σ H _ I h) λv f ⟨x,H1,d,c,b⟩=>⟨x,σ,H1,d,c,b⟩)
def tIfS(c:TT)(t u:TS):TS:=λD σ H=>c σ H λb H1=>if b=true then t D σ H1 else u D σ H1
def ps_if(i:PT X c tc)(j:PSs X a t)(k:PSs X b u):PS X (.If c a b pos) (tIfS tc t u):=by
 refine⟨?_⟩;intro pins s σ H D I h;refine wpAny_If (thn (i pins s σ H _ I h) λd f ⟨H1,g,e⟩=>?_)
 cases d with
 |true=>exact j pins f σ H1 D g e
 |false=>exact k pins f σ H1 D g e
end
abbrev TG:=V->St->Hp->(St->Hp->Prop)->Prop
abbrev TGs:=List V->St->Hp->(St->Hp->Prop)->Prop
def PG0(X:Cx)(a:Expr)(t:TG):Prop :=
 ∀(pins:List (Addr×Obj)) (s:Shared) (σ:St) (H:Hp) (v:V) (u:Value) (Q:St->Hp->Prop),Inv X pins σ H s->RelV v u->t v σ H Q →
  wpAny (model X.prog X.w) X.A (assign a X.env u) (λ_ s'=>∃σ' H',Inv X pins σ' H' s'/\Q σ' H') X.xe s
structure PG(X:Cx)(target:Expr)(t:TG):Prop where run:PG0 X target t
instance PGCf{X:Cx}{a:Expr}{t:TG}:CoeFun (PG X a t) λ_=>PG0 X a t:=⟨PG.run⟩
def PGs0(X:Cx)(ts:List Expr)(t:TGs):Prop :=
 ∀(pins:List (Addr×Obj)) (s:Shared) (σ:St) (H:Hp) (vs:List V) (us:List Value) (Q:St->Hp->Prop),Inv X pins σ H s->Vals vs us->t vs σ H Q →
  wpAny (model X.prog X.w) X.A (assignInOrder ((assignEach ts X.env).map (·.2)) us) (λ_ s'=>∃σ' H',Inv X pins σ' H' s'/\Q σ' H') X.xe s
structure PGs(X:Cx)(ts:List Expr)(t:TGs):Prop where run:PGs0 X ts t
instance PGsCf{X:Cx}{ts:List Expr}{t:TGs}:CoeFun (PGs X ts t) λ_=>PGs0 X ts t:=⟨PGs.run⟩
abbrev TSet:=V->V->V->Hp->(Hp->Prop)->Prop
def PSet(X:Cx)(t:TSet):Prop :=
 ∀(pins:List (Addr×Obj)) (s:Shared) (σ:St) (H:Hp) (o i v:V) (a b u:Value) (Q:Hp->Prop),Inv X pins σ H s->RelV o a->RelV i b->RelV v u->t o i v H Q →
  wpAny (model X.prog X.w) X.A (setItem a b u) (λ_ s'=>∃H',Inv X pins σ H' s'/\Q H') X.xe s
section
variable {X:Cx}{pos:Pos}
def gName(i:Nat):TG:=λv σ H Q=>Q (σ.set i (some v)) H
def xAaq(c:X.N.Nodup)(hi:X.N[i]?=some x)(a:Loc X.env.scope x)(d:X.fn x=true\/X.env.scope.names.lookup x=some .local:=by first|exact .inl rfl|exact .inr rfl|assumption):PG X (.Name x pos) (gName i):=by
 refine⟨?_⟩;intro pins s σ H v u Q I r h;exact wpAny_assign_Name (xAka I c hi a r (λs' b=>⟨_,H,b,h⟩) d)
def gNil:TGs:=λvs σ H Q=>vs=[]/\Q σ H
inductive IgCons(t:TG)(u:TGs)(vs:List V)(σ:St)(H:Hp)(Q:St->Hp->Prop):Prop
 |mk (v:_) (r:_) (h0_:vs=v::r) (h1_:t v σ H λσ' H'=>u r σ' H' Q):IgCons t u vs σ H Q
def gCons(t:TG)(u:TGs):TGs:=λvs σ H Q=>IgCons t u vs σ H Q
def xAch:PGs X [] gNil:=by
 refine⟨?_⟩;intro pins s σ H vs us Q I r h;obtain⟨e,h⟩:=h;subst e;cases r;exact assignInOrder_nil ⟨σ,H,I,h⟩
def xAam(h1:PG X e t)(h2:PGs X es u)(d:(assignEach (e::es) X.env).map (·.2)=assign e X.env::(assignEach es X.env).map (·.2):=by rfl):PGs X (e::es) (gCons t u):=by
 refine⟨?_⟩;intro pins s σ H vs us Q I r h;obtain⟨v,j,b,h⟩:=h;subst b
 cases r with
 |cons r g =>
  rw[d];refine assignInOrder_cons (thn (h1 pins s σ H _ _ _ I r h) λ_ f ⟨a,H1,i,c⟩=>?_);exact h2 pins f a H1 _ _ Q i g c
inductive IgTup(n:Nat)(t:TGs)(v:V)(σ:St)(H:Hp)(Q:St->Hp->Prop):Prop
 |mk (a:_) (xs:_) (h0_:v=.ref a) (h1_:SqT H a xs) (h2_:xs.length=n) (h3_:t xs σ H Q):IgTup n t v σ H Q
def gTup(n:Nat)(t:TGs):TG:=λv σ H Q=>IgTup n t v σ H Q
def xAen(j:X.calm=true)(h:PGs X es t)(hn:(assignEach es X.env).length=n:=by rfl)(d:(assignEach es X.env).findIdx? (·.1)=none:=by rfl):PG X (.Tuple es k pos) (gTup n t):=by
 refine⟨?_⟩;intro pins s σ H v u Q I r c;obtain⟨a,xs,g,p,m,c⟩:=c;subst g;cases r;obtain⟨its,f,i,hz⟩:=I.tuple p;refine assign_Tuple_tuple (I.ok.hd j) i (by simp[hn,←m,f.length]) d λh' l=>?_;have q:Inv X pins σ H { s with heap:=h' }:=I.kept (t':=s.toks) λb o e=>l b o (qi (qG e)) e;exact h pins _ σ H xs _ Q q (by simpa using f) c
def gSub(to a:TE)(t:TSet):TG:=λv σ H Q=>to σ H λo H1=>a σ H1 λi H2=>t o i v H2 λb=>Q σ b
def xAsj{to c:TE}(n:PE X o to)(hi:PE X i c)(k:PSet X t)(d:∀v,assign (.Subscript o i pos) X.env v=(do
   let a ←holding [v] (eval o X.env)
   let b ←holding [v,a] (eval i X.env)
   standAt pos
   holding [v,a,b] (setItem a b v)
   release [v,a,b] []):=by intro _;rfl):PG X (.Subscript o i pos) (gSub to c t):=by
 refine⟨?_⟩;intro pins s σ H v u Q I r h;rw[d];refine qA (qJ (thn (n pins s σ H _ I h) λa p ⟨x,H1,q,m,g⟩=>?_));refine qA (qJ (thn (hi pins p σ H1 _ q g) λb s2 ⟨y,H2,l,e,w⟩=>?_));refine qA (wpAny_standAt (qA (qJ (thn (k pins s2 σ H2 x y v a b u _ l m e r w) λ_ A ⟨j,z,f⟩=>?_))));exact wpAny_release ⟨σ,j,z,f⟩
def tAsg(te:TE)(g:TG):TS:=λD σ H=>te σ H λx H1=>g x σ H1 D.nx
def xAsk{g:TG}(a:PE X e te)(f:PG X tg g)(d:swapsWithSole [tg] e pos.line X.env=pure false:=by rfl)(b:swappedStores [tg] e X.env=pure none:=by rfl)(h1:(assignEach [tg] X.env).map (·.2)=[assign tg X.env]:=by rfl):PS X (.Assign [tg] e pos) (tAsg te g):=by
 refine⟨?_⟩;intro pins s σ H D I h;refine wpAny_Assign_stores (thn (a pins s σ H _ I h) λv j ⟨x,H1,k,i,c⟩=>?_) d b;rw[h1];exact thn (f pins j σ H1 x v _ k i c) λ_ s2 q=>q
def xAsl(k:X.N.Nodup)(hi:X.N[i]?=some x)(d:Loc X.env.scope x)(a:PE X e te)(c:swapsWith e (some (.Name x pos')) pos.line X.env=pure false:=by rfl)(l:X.fn x=true\/X.env.scope.names.lookup x=some .local:=by first|exact .inl rfl|exact .inr rfl|assumption) :
  PS X (.Assign [.Name x pos'] e pos) (tAsg te (gName i)):=by
 refine⟨?_⟩;intro pins s σ H D I h;refine wpAny_Assign_Name (thn (a pins s σ H _ I h) λv m ⟨y,H1,j,g,b⟩=>?_) c;exact xAka j k hi d g (λs2 f=>⟨_,H1,f,b⟩) l
end
section
variable {X:Cx}{pos:Pos}
def tWhile(c:TT)(tb:TS):TS:=λD σ H=>∃W:Nat->St->Hp->Prop,(∃m,W m σ H)/\∀m σ H,W m σ H →
 c σ H λb H1=>if b=true then ∃N:St->Hp->Prop,(∀σ' H',N σ' H'->∃a,a<m/\W a σ' H')/\tb { D with nx:=N,ct:=N,bk:=D.nx } σ H1 else D.nx σ H1
def xAeo(t:PassesOwn (model X.prog X.w) X.A X.env X.xe)(C:PT X c tc)(x:PSs X e tb):PS X (.While c e [] pos) (tWhile tc tb):=by
 refine⟨?_⟩;intro pins s σ H D I h;obtain⟨W,⟨E,u⟩,turn⟩:=h;refine wpAny_While (codeAny_whileLoop (λn s'=>∃σ' H',Inv X pins σ' H' s'/\W n σ' H') ?_ E ⟨σ,H,I,u⟩);rintro n y ⟨d,H1,z,B⟩;refine wpAny_passesOwn t (thn (C pins y d H1 _ z (turn n d H1 B)) λb s2 ⟨H2,q,j⟩=>?_)
 cases b with
 |true =>
  obtain⟨N,r,j⟩:=j;rw[qF rfl];refine wpAny_passesOwn t (thn (x pins s2 d H2 _ q j) λf F i=>?_)
  cases f with
  |next =>
   obtain⟨a,g,p,k⟩:=i;obtain⟨o,l,m⟩:=r a g k;exact⟨o,l,a,g,p,m⟩
  |cont =>
   obtain⟨a,g,p,k⟩:=i;obtain⟨o,l,m⟩:=r a g k;exact⟨o,l,a,g,p,m⟩
  |brk=>exact i
  |ret v=>exact i
 |false =>
  rw[qB qk];exact wpAny_execs_nil ⟨d,H2,q,j⟩
end
structure It where
 go:Nat->Hp->Prop
 yld:Nat->Hp->V->Hp->Prop
 stop:Nat->Hp->Prop
def FpOk(X:Cx)(pins:List (Addr×Obj))(H:Hp)(b:Addr):Prop :=
 H b=none/\b≠X.env.locals/\b∉X.fs/\(b∈X.ex\/X.s₀.heap.objs.size≤b)/\(∀x c,X.env.cells.lookup x=some c->c≠b)/\∀p∈X.pn++pins,p.1≠b
def Inv.fpOk{X:Cx}{pins:List (Addr×Obj)}{σ:St}{H H':Hp}{s:Shared}{b:Addr}(I:Inv X pins σ H s)(a:s.heap.objs.size≤b)(hn:H' b=none):FpOk X pins H' b:=by
 refine⟨hn,q0 (qq I.lt a),I.nofs a,.inr (qc I.sz a),λx c e z=>?_,λp d z=>?_⟩
 ·obtain⟨v,q⟩:=I.cell x c e
  exact absurd (qq q.lt (by rw[z];exact a)) (zn _)
 ·exact absurd (qq (qG (I.pin p d).1) (by rw[z];exact a)) (zn _)
structure Turn(P:Program)(w:World)(K:PySem.W.Frag)(tg:Expr)(J:It)(fp:List Addr)(it:Addr)(tn:Nat->Heap->Prop):Prop where
 mem:it∈fp
 obj:∀i h,tn i h->∀b∈fp,∃o,h.get? b=some o/\∀v,o.data≠.cell v
 keep:∀i h h',tn i h->(∀b∈fp,∀o,h.get? b=some o->h'.get? b=some o)->tn i h'
 item:∀(X:Cx),X.prog=P->X.w=w->X.K=K->X.calm=true->∀(i:Nat) (pins:List (Addr×Obj)) (s:Shared) (σ:St) (H:Hp) (E:Value->Shared->Prop),Inv X pins σ H s->(∀b∈fp,FpOk X pins H b)->tn i s.heap->J.go i H →
  wpAny (model P w) X.A (pyNext (.ref it)) (λr s1=>∃u,r=some u ∧
   wpAny (model P w) X.A (letOwnedTupleGo tg (.ref it) u) (λ_ s2=>∃x H',Inv X pins σ H' s2/\RelV x u/\J.yld i H x H'/\tn (i+1) s2.heap/\∀b∈fp,H' b=none) E s1) E s
 done:∀(X:Cx),X.prog=P->X.w=w->X.K=K->X.calm=true->∀(i:Nat) (pins:List (Addr×Obj)) (s:Shared) (σ:St) (H:Hp) (E:Value->Shared->Prop),Inv X pins σ H s->(∀b∈fp,FpOk X pins H b)->tn i s.heap->J.stop i H →
  wpAny (model P w) X.A (pyNext (.ref it)) (λr s1=>r=none/\Inv X pins σ H s1) E s
 self:∀(A:Around) (i:Nat) (s:Shared) (Q:Value->Shared->Prop) (E:Value->Shared->Prop),tn i s.heap->Q (.ref it) s->wpAny (model P w) A (pyIter (.ref it)) Q E s
abbrev TI:=St->Hp->(It->Hp->Prop)->Prop
def PIE(X:Cx)(pins:List (Addr×Obj))(σ:St)(tg:Expr)(R:It->Hp->Prop)(a:Value)(s2:Shared):Prop :=
 ∃(it:Addr) (c:List Addr) (d:Nat->Heap->Prop) (J:It) (H':Hp),a=.ref it/\Inv X pins σ H' s2/\Turn X.prog X.w X.K tg J c it d/\d 0 s2.heap/\(∀b∈c,FpOk X pins H' b)/\R J H'
def PI0(X:Cx)(tg a:Expr)(b:TI):Prop :=
 ∀(pins:List (Addr×Obj)) (s:Shared) (σ:St) (H:Hp) (R:It->Hp->Prop),Inv X pins σ H s->b σ H R →
  wpAny (model X.prog X.w) X.A (eval a X.env) (λv c=>wpAny (model X.prog X.w) X.A (pyIter v) (PIE X pins σ tg R) X.xe c) X.xe s
structure PI(X:Cx)(tg iter:Expr)(wi:TI):Prop where run:PI0 X tg iter wi
instance PICf{X:Cx}{tg a:Expr}{b:TI}:CoeFun (PI X tg a b) λ_=>PI0 X tg a b:=⟨PI.run⟩
def go_of(c:s.heap.get? it=some o)(b:o.cls=.type n)(d:o.data=.fields vs)(hn:["enumerate","zip","dict_itemiterator","dict_reverseitemiterator","odict_iterator","itertools.zip_longest","itertools.pairwise"].contains n=false)(a:Q () s):wpAny M A (letOwnedTupleGo tg (.ref it) u) Q E s:=by
 unfold letOwnedTupleGo
 cases tg <;> first
  |exact qE a
  | (cases u <;> first
    |exact qE a
    | (refine qA (wpAny_load c ?_)
       rw[b,d];show wpAny M A (if(["enumerate","zip","dict_itemiterator","dict_reverseitemiterator","odict_iterator","itertools.zip_longest","itertools.pairwise"].contains n&&vs[0]?==some (rawInt _))=true then _ else _) Q E s;rw[qB (by intro h;rw[hn,Bool.false_and]at h;cases h)]
       exact qE a))
def Itl(a:Addr):It :=
 ⟨λi H=>∃xs x,SqL H a xs/\xs[i]?=some x,λi H x H'=>H'=H/\∀xs,SqL H a xs->xs[i]?=some x,λi H=>∃xs,SqL H a xs/\xs.length≤i⟩
def Itr(lo:Int)(n:Nat):It:=⟨λi _=>i<n,λi H x H'=>H'=H/\x=.int (lo+i),λi _=>n≤i⟩
def xAnf{P:Program}{w:World}{K:PySem.W.Frag}{tg:Expr}(a it:Addr):Turn P w K tg (Itl a) [it] it (λi h=>h.IsListIter it a i) where
 mem:=by simp
 obj:=λi h st b f=>by
  have e:b=it:=by simpa using f
  subst e;obtain⟨o,e,c,d⟩:=st;exact⟨o,e,λv z=>by rw[d]at z;cases z⟩
 keep:=λi h h' st k=>st.at λo e=>k it (by simp) o e
 item:=by
  intro X t m C G i pins s σ H E I j st n;subst t m C;obtain⟨xs,x,l,r⟩:=n;obtain⟨its,y,p,hz⟩:=I.list l;obtain⟨u,R,L⟩:=y.get r;obtain⟨A,q,J,D,B,F⟩:=j it (by simp);refine wpAny_pyNext_list_item st p.isList (x:=u) (by simpa using R) λh' g M=>?_;have S:Inv X pins σ H { s with heap:=h' }:=I.turned (t':=s.toks) (λb o f e=>(M.2 b f).trans e) A q D B F;obtain⟨o,e,c,d⟩:=id g;exact⟨u,O,go_of (s:={ s with heap:=h' }) e c d (by decide) ⟨x,H,S,L,⟨O,λys N=>by rw[I.list_inj N l];exact r⟩,g,λb f=>(j b f).1⟩⟩
 done:=by
  intro X t m C G i pins s σ H E I j st n;subst t m C;obtain⟨xs,l,r⟩:=n;obtain⟨its,y,p,hz⟩:=I.list l;obtain⟨A,q,J,D,B,F⟩:=j it (by simp);have T:=y.length;exact wpAny_pyNext_list_end (I.ok.hd G) st p.isList (by simp;omega) λh' Q=>⟨O,I.turned (t':=s.toks) (λb o f e=>Q b o f e) A q D B F⟩
 self:=λ_ _ _ _ _ st h=>wpAny_pyIter_listiter st h
def xAke{P:Program}{w:World}{K:PySem.W.Frag}{tg:Expr}(it:Addr)(lo:Int)(n:Nat):Turn P w K tg (Itr lo n) [it] it (λi h=>IsRangeIter h it (lo+(i:Nat) * 1) ((n:Int) - (i:Nat)) 1) where
 mem:=by simp
 obj:=λi h st b a=>by
  have e:b=it:=by simpa using a
  subst e
  exact⟨_,st,λv z=>by
   have D:Data.fields _=Data.cell v:=z
   cases D⟩
 keep:=λi h h' st k=>k it (by simp) _ st
 item:=by
  intro X l f q x i pins s σ H E I d st g;subst l f q;obtain⟨m,j,A,r,p,u⟩:=d it (by simp);have W:=Walks.range (prog:=X.prog) (w:=X.w) (I.ok.hd x) it lo 1 n;refine W.item i s _ _ g st λv h' tk y c F=>?_;obtain⟨t,rfl⟩:=y;have C:Inv X pins σ H { s with heap:=h',toks:=tk }:=I.turned (λb o a e=>F b o (by simpa using a) e) m j r p u;refine⟨_,O,go_of (s:={ s with heap:=h',toks:=tk }) (n:="range_iterator") c rfl rfl (by decide) ⟨.int (lo+i),H,C,⟨t,?_⟩,⟨O,O⟩,c,λb a=>(d b a).1⟩⟩;rw[Int.mul_one]
 done:=by
  intro X l f q x i pins s σ H E I d st g;subst l f q;obtain⟨m,j,A,r,p,u⟩:=d it (by simp);exact wpAny_pyNext_range_end (I.ok.hd x) st (by have:n≤i:=g;omega) λh' B=>⟨O,I.turned (t':=s.toks) (λb o a e=>B b o a e) m j r p u⟩
 self:=λ_ _ _ _ _ st h=>wpAny_pyIter_rangeiter st h
section
variable {X:Cx}{tg:Expr}
inductive IiList(R:It->Hp->Prop)(x:V)(H1:Hp):Prop
 |mk (a:_) (h0_:x=.ref a) (h1_:(∃xs,SqL H1 a xs)) (h2_:R (Itl a) H1):IiList R x H1
def iList(tl:TE):TI:=λσ H R=>tl σ H λx H1=>IiList R x H1
def xAsm{tl:TE}(j:PE X l tl):PI X tg l (iList tl):=by
 refine⟨?_⟩;intro pins s σ H R I h;refine thn (j pins s σ H _ I h) λv c ⟨x,H1,d,i,g⟩=>?_;obtain⟨a,e,⟨xs,k⟩,q⟩:=g;subst e;cases i;obtain⟨its,m,p,hz⟩:=d.list k;refine wpAny_pyIter_list p.isList ?_;refine⟨c.heap.objs.size,[c.heap.objs.size],_,_,H1,O,d.kept (t':=c.toks) λb o e=>qH _ e,xAnf a _,⟨_,qL _ rfl,O,O⟩,λb f=>?_,q⟩
 have e:b=c.heap.objs.size:=by simpa using f
 subst e;exact d.fpOk (qb _) (d.hok.fresh (qb _))
def xAqf{pins:List (Addr×Obj)}{σ:St}{H:Hp}{s:Shared}{R:It->Hp->Prop}{E:Value->Shared->Prop}{lo hi:Int}{t u v:Tok}{tk:Nat}(I:Inv X pins σ H s)(h1:-(2 ^ 62)≤lo)(h2:lo<2 ^ 62)(h:-(2 ^ 62)≤hi)(f:hi<2 ^ 62)(q:R (Itr lo (hi - lo).toNat) H):wpAny (model X.prog X.w) X.A (pyIter (.ref s.heap.objs.size)) (PIE X pins σ tg R) E { s with heap:=s.heap.push { cls:=.type "range",data:=.fields #[.int lo t,.int hi u,.int 1 v] },toks:=tk }:=by
 refine wpAny_pyIter_range (IsRange.new ..) (small_one h1 h2 h f) ?_;have a:Inv X pins σ H { s with heap:=s.heap.push { cls:=.type "range",data:=.fields #[.int lo t,.int hi u,.int 1 v] },toks:=tk }:=I.kept λb o e=>qH _ e
 refine⟨(s.heap.push { cls:=.type "range",data:=.fields #[.int lo t,.int hi u,.int 1 v] }).objs.size,[(s.heap.push { cls:=.type "range",data:=.fields #[.int lo t,.int hi u,.int 1 v] }).objs.size],_,_,H,O,
  a.kept (t':=tk) λb o e=>qH _ e,xAke _ lo (hi - lo).toNat,?_,λb g=>?_,q⟩
 ·have c:lo+((0:Nat):Int) * 1=lo:=by simp
  have d:(((hi - lo).toNat:Nat):Int) - ((0:Nat):Int)=Builtin.Range.rangeSize lo hi 1:=by rw[rangeSize_one];split <;> omega
  show IsRangeIter _ _ (lo+((0:Nat):Int) * 1) ((((hi - lo).toNat:Nat):Int) - ((0:Nat):Int)) 1;rw[c,d];exact qL _ rfl
 ·have e:b=(s.heap.push { cls:=.type "range",data:=.fields #[.int lo t,.int hi u,.int 1 v] }).objs.size:=by simpa using g
  subst e;exact a.fpOk (qb _) (a.hok.fresh (qb _))
inductive IiRng1(R:It->Hp->Prop)(vs:List V)(H1:Hp):Prop
 |mk (j:Int) (h0_:vs=[.int j]) (h1_:-(2 ^ 62)≤j) (h2_:j<2 ^ 62) (h3_:R (Itr 0 j.toNat) H1):IiRng1 R vs H1
def iRng1(ta:TA):TI:=λσ H R=>ta σ H λvs H1=>IiRng1 R vs H1
def xAbs(f:Gl X "range")(k:X.mg "range"=none)(c:PA X [a] ta)(d:starEach [a] X.env=[(false,eval a X.env)]:=by rfl):PI X tg (.Call (.Name "range" p) [a] [] pos) (iRng1 ta):=by
 refine⟨?_⟩;intro pins s σ H R I h;refine Call_ (xAdw I f k boot_range (PyProof.Rows.callWith_type1 (thn (c pos pins s σ H _ I h) λus n ⟨vs,H1,m,g,b⟩=>?_) d rfl));obtain⟨j,e,b,l,q⟩:=b;subst e
 cases g with
 |cons r i =>
  cases i;obtain⟨t,rfl⟩:=r;exact call_range_1 (xAqf m (by omega) (by omega) b l (by simpa using q))
def tFor(c:TI)(g:TG)(tb:TS):TS:=λD σ H=>c σ H λJ H1=>∃W:Nat->Nat->St->Hp->Prop,(∃m,W 0 m σ H1)/\∀i m σ H,W i m σ H →
 (J.stop i H/\D.nx σ H)\/(J.go i H/\∃N:St->Hp->Prop,(∀σ' H',N σ' H'->∃b,b<m/\W (i+1) b σ' H')/\∀x H',J.yld i H x H'->g x σ H' λa H2=>tb { D with nx:=N,ct:=N,bk:=D.nx } a H2)
def pinsAt(a:List Addr)(h:Heap):List (Addr×Obj):=a.filterMap λb=>(h.get? b).map λo=>(b,o)
def xAdk(c:b∈a)(e:h.get? b=some o):(b,o)∈pinsAt a h:=jh.mpr ⟨b,c,by rw[e];rfl⟩
def xAhn(c:p∈pinsAt a h):p.1∈a/\h.get? p.1=some p.2:=by
 obtain⟨b,d,e⟩:=jh.mp c
 cases q:h.get? b with
 |none=>rw[q]at e;cases e
 |some o =>
  rw[q]at e;have f:(b,o)=p:=qK e;subst f;exact⟨d,q⟩
def Inv.pinned{pins:List (Addr×Obj)}{σ:St}{H:Hp}{s:Shared}{a:List Addr}(I:Inv X pins σ H s)(l:∀b∈a,FpOk X pins H b)(i:∀b∈a,∃o,s.heap.get? b=some o/\∀v,o.data≠.cell v):Inv X (pins++pinsAt a s.heap) σ H s :=
 I.pins_of λp j=>(zd.mp j).elim (λz=>I.pin p (zu _ z)) λz=>by
  obtain⟨f,e⟩:=xAhn z;obtain⟨k,h,g,_⟩:=l p.1 f;obtain⟨o,c,d⟩:=i p.1 f;rw[e]at c;cases c;exact⟨e,k,h,g,d⟩
def Inv.unpinned{pins b:List (Addr×Obj)}{σ:St}{H:Hp}{s:Shared}(I:Inv X (pins++b) σ H s):Inv X pins σ H s:=I.pins_of λp a=>I.pin p (zu _ (z8 _ a))
def ps_for{V:TI}{g:TG}(F:PassesOwn (model X.prog X.w) X.A X.env X.xe)(hc:X.calm=true)(hi:PI X tg c V)(hg:PG X tg g)(p:PSs X z tb)(hs:∀x,foldedSetIterable c X.env x=pure x:=by intro _;rfl):PS X (.For tg c z [] pos) (tFor V g tb):=by
 refine⟨?_⟩;intro pins s σ H D I h;refine wpAny_For (thn (hi pins s σ H _ I h) λv s1 h1=>thn h1 λitv s2 h2=>?_) hs;obtain⟨it,L,tn,J,H2,e,I2,T,U,Y,W,⟨m0,w0⟩,turn⟩:=h2;subst e;have k:∀{H':Hp},(∀b∈L,H' b=none)->∀b∈L,FpOk X pins H' b:=λhn b p=>⟨hn b p,(Y b p).2⟩;refine codeAny_forLoop_any (λn s'=>∃i σ' H',Inv X pins σ' H' s'/\tn i s'.heap/\(∀b∈L,H' b=none)/\W i n σ' H') ?_ m0 ⟨0,σ,H2,I2,U,λb p=>(Y b p).1,w0⟩;rintro n s3 ⟨i,t,M,I3,C,G,w3⟩;rcases turn i n t M w3 with⟨E,qn⟩|⟨go,N,hN,step⟩
 ·refine wpAny_passesOwn F (thn (T.done X rfl rfl rfl hc i pins s3 t M X.xe I3 (k G) C E) λr s4 ⟨R,I4⟩=>?_)
  subst R;exact wpAny_execs_nil ⟨t,M,I4,qn⟩
 ·refine wpAny_passesOwn F (thn (T.item X rfl rfl rfl hc i pins s3 t M X.xe I3 (k G) C go) λr s4 ⟨u,R,h4⟩=>?_)
  subst R;refine wpAny_passesOwn F (thn h4 λ_ Z ⟨x,H5,I5,r5,y5,B,O⟩=>?_);have S:=I5.pinned (k O) (T.obj _ _ B);refine wpAny_passesOwn F (thn (hg _ Z t H5 x u _ S r5 (step x H5 y5)) λ_ s6 ⟨P,H6,I6,q6⟩=>?_);refine wpAny_passesOwn F (thn (p _ s6 P H6 _ I6 q6) λf Q y=>?_)
  have l:∀{a:St} {j:Hp},Inv X (pins++pinsAt L Z.heap) a j Q->N a j->∃m,m<n/\∃i σ' H',Inv X pins σ' H' Q/\tn i Q.heap/\(∀b∈L,H' b=none)/\W i m σ' H':=λ{a j} q K=>by
   obtain⟨m',hm,w7⟩:=hN a j K;refine⟨m',hm,i+1,a,j,q.unpinned,T.keep _ _ _ B λb p o e=>(q.pin (b,o) (zu _ (zu _ (xAdk p e)))).1,λb p=>?_,w7⟩;obtain⟨o,e,d⟩:=T.obj _ _ B b p;exact(q.pin (b,o) (zu _ (zu _ (xAdk p e)))).2.1
  cases f with
  |next=>obtain⟨a,j,q,K⟩:=y;exact l q K
  |cont=>obtain⟨a,j,q,K⟩:=y;exact l q K
  |brk=>obtain⟨a,j,q,y⟩:=y;exact⟨a,j,q.unpinned,y⟩
  |ret v=>obtain⟨x7,a,j,q,r7,y⟩:=y;exact⟨x7,a,j,q.unpinned,r7,y⟩
end
def xAas{a:Addr}{xs:List V}{g:TG}{tb:TS}{D:Ends}{σ:St}{H:Hp}(b:Nat->St->Hp->Prop)(h0:b 0 σ H)(k:∀i σ H,i≤xs.length->b i σ H->SqL H a xs)(j:∀i x σ H,xs[i]?=some x->b i σ H->g x σ H λc H2=>tb { D with nx:=b (i+1),ct:=b (i+1),bk:=D.nx } c H2)(l:∀σ H,b xs.length σ H->D.nx σ H) :
  ∃W:Nat->Nat->St->Hp->Prop,(∃m,W 0 m σ H)/\∀i m σ H,W i m σ H →
   ((Itl a).stop i H/\D.nx σ H)\/((Itl a).go i H/\∃N:St->Hp->Prop,(∀σ' H',N σ' H'->∃f,f<m/\W (i+1) f σ' H')/\∀x H',(Itl a).yld i H x H'->g x σ H' λc H2=>tb { D with nx:=N,ct:=N,bk:=D.nx } c H2):=by
 refine⟨λi m σ H=>m=xs.length - i/\i≤xs.length/\b i σ H,⟨xs.length,by simp,Nat.zero_le _,h0⟩,?_⟩;rintro i m σ H ⟨rfl,hi,p⟩;have q:=k i σ H hi p
 by_cases d:i<xs.length
 ·refine .inr ⟨⟨xs,xs[i],q,by simp[d]⟩,b (i+1),λσ' H' h=>⟨xs.length - (i+1),by omega,O,d,h⟩,λx H' y=>?_⟩
  obtain⟨e,y⟩:=y;subst e;exact j i x σ _ (y xs q) p
 ·have e:i=xs.length:=by omega
  subst e;exact .inl ⟨⟨xs,q,qb _⟩,l σ H p⟩
def xAbt{lo:Int}{n:Nat}{g:TG}{tb:TS}{D:Ends}{σ:St}{H:Hp}(a:Nat->St->Hp->Prop)(h0:a 0 σ H)(h:∀i σ H,i<n->a i σ H->g (.int (lo+i)) σ H λb H2=>tb { D with nx:=a (i+1),ct:=a (i+1),bk:=D.nx } b H2)(j:∀σ H,a n σ H->D.nx σ H) :
  ∃W:Nat->Nat->St->Hp->Prop,(∃m,W 0 m σ H)/\∀i m σ H,W i m σ H →
   ((Itr lo n).stop i H/\D.nx σ H)\/((Itr lo n).go i H/\∃N:St->Hp->Prop,(∀σ' H',N σ' H'->∃d,d<m/\W (i+1) d σ' H')/\∀x H',(Itr lo n).yld i H x H'->g x σ H' λb H2=>tb { D with nx:=N,ct:=N,bk:=D.nx } b H2):=by
 refine⟨λi m σ H=>m=n - i/\i≤n/\a i σ H,⟨n,by simp,Nat.zero_le _,h0⟩,?_⟩;rintro i m σ H ⟨rfl,hi,p⟩
 by_cases c:i<n
 ·refine .inr ⟨c,a (i+1),λσ' H' f=>⟨n - (i+1),by omega,O,c,f⟩,λx H' y=>?_⟩
  obtain⟨e,y⟩:=y;subst e y;exact h i σ _ c p
 ·have e:i=n:=by omega
  subst e;exact .inl ⟨qb _,j σ H p⟩
abbrev R2:=V->V->Hp->VK->Prop
def OpR(X:Cx)(f:Value->Value->Sem Value)(r:R2):Prop :=
 ∀(pins:List (Addr×Obj)) (s:Shared) (σ:St) (H:Hp) (x y:V) (v u:Value) (Q:VK),Inv X pins σ H s->RelV x v->RelV y u->r x y H Q →
  wpAny (model X.prog X.w) X.A (f v u) (EP X pins σ Q) X.xe s
def UnR(X:Cx)(f:Value->Sem Value)(r:V->Hp->VK->Prop):Prop :=
 ∀(pins:List (Addr×Obj)) (s:Shared) (σ:St) (H:Hp) (x:V) (v:Value) (Q:VK),Inv X pins σ H s->RelV x v->r x H Q →
  wpAny (model X.prog X.w) X.A (f v) (EP X pins σ Q) X.xe s
def CallR(X:Cx)(f:Value)(r:List V->Hp->VK->Prop):Prop :=
 ∀(pins:List (Addr×Obj)) (s:Shared) (σ:St) (H:Hp) (xs:List V) (us:List Value) (Q:VK),Inv X pins σ H s->Vals xs us->r xs H Q →
  wpAny (model X.prog X.w) X.A (call f us) (EP X pins σ Q) X.xe s
def tOp(r:R2)(ta tb:TE):TE:=λσ H Q=>ta σ H λx H1=>tb σ H1 λy H2=>r x y H2 Q
def tUn(r:V->Hp->VK->Prop)(ta:TE):TE:=λσ H Q=>ta σ H λx H1=>r x H1 Q
inductive IrI(C:Int->Int->Prop)(g:Int->Int->V)(x:V)(y:V)(H:Hp)(Q:VK):Prop
 |mk (i:_) (j:_) (h0_:x=.int i) (h1_:y=.int j) (h2_:C i j) (h3_:Q (g i j) H):IrI C g x y H Q
def rI(C:Int->Int->Prop)(g:Int->Int->V):R2:=λx y H Q=>IrI C g x y H Q
inductive IrI0(g:Int->Int->V)(x:V)(y:V)(H:Hp)(Q:VK):Prop
 |mk (i:_) (j:_) (h0_:x=.int i) (h1_:y=.int j) (h2_:Q (g i j) H):IrI0 g x y H Q
def rI0(g:Int->Int->V):R2:=λx y H Q=>IrI0 g x y H Q
inductive IrU(g:Int->V)(x:V)(H:Hp)(Q:VK):Prop
 |mk (i:_) (h0_:x=.int i) (h1_:Q (g i) H):IrU g x H Q
def rU(g:Int->V):V->Hp->VK->Prop:=λx H Q=>IrU g x H Q
section
variable {X:Cx}{a b c:Expr}{ta tb tc:TE}{pos:Pos}
def binT(e:PE X a ta)(o:PE X b tb){pins:List (Addr×Obj)}{s:Shared}{σ:St}{H:Hp}{R:V->V->Hp->Prop}(I:Inv X pins σ H s)(h:ta σ H λx H1=>tb σ H1 λy H2=>R x y H2){Q:Value->Shared->Prop}{f:Value->Value->Sem Value}(p:∀v u s2 x y H2,Inv X pins σ H2 s2->RelV x v->RelV y u->R x y H2->wpAny (model X.prog X.w) X.A (f v u) Q X.xe s2) :
  wpAny (model X.prog X.w) X.A (eval a X.env) (λv c=>wpAny (model X.prog X.w) X.A (eval b X.env) (λu d=>wpAny (model X.prog X.w) X.A (f v u) Q X.xe d) X.xe c) X.xe s:=by
 refine thn (e pins s σ H _ I h) λv l ⟨x,H1,m,k,i⟩=>?_;refine thn (o pins l σ H1 _ m i) λu s2 ⟨y,H2,j,g,n⟩=>?_;exact p v u s2 x y H2 j k g n
def pe_op(f:OpR X (binaryOp op) r)(g:PE X a ta)(i:PE X b tb):PE X (.BinOp a op b pos) (tOp r ta tb):=by
 refine⟨?_⟩;intro pins s σ H Q I h;exact wpAny_BinOp (binT g i I h λv u s2 x y H2 e c d q=>f pins s2 σ H2 x y v u Q e c d q)
def pe_un(d:UnR X (unaryOp op) r)(f:PE X a ta):PE X (.UnaryOp op a pos) (tUn r ta):=by
 refine⟨?_⟩;intro pins s σ H Q I h;exact UnaryOp_ (thn (f pins s σ H _ I h) λv e ⟨x,H1,g,c,b⟩=>d pins e σ H1 x v Q g c b)
def opI{g:Int->Int->Int}(a:∀(i j:Int) (t u:Tok) (s:Shared) (Q:Value->Shared->Prop) (E:Value->Shared->Prop),C i j->Q (.int (g i j) s.toks) { s with toks:=s.toks+1 }->wpAny (model X.prog X.w) X.A (f (.int i t) (.int j u)) Q E s) :
  OpR X f (rI C λi j=>.int (g i j)):=by
 intro pins s σ H x y v u Q I c b h;obtain⟨i,j,rfl,rfl,d,q⟩:=h;obtain⟨t,rfl⟩:=c;obtain⟨t',rfl⟩:=b;exact a i j t t' s _ _ d ⟨.int (g i j),H,I.tok _,⟨_,O⟩,q⟩
def opI0{g:Int->Int->Int}(a:∀(i j:Int) (t u:Tok) (s:Shared) (Q:Value->Shared->Prop) (E:Value->Shared->Prop),Q (.int (g i j) s.toks) { s with toks:=s.toks+1 }->wpAny (model X.prog X.w) X.A (f (.int i t) (.int j u)) Q E s) :
  OpR X f (rI0 λi j=>.int (g i j)):=by
 intro pins s σ H x y v u Q I c b h;obtain⟨i,j,rfl,rfl,q⟩:=h;obtain⟨t,rfl⟩:=c;obtain⟨t',rfl⟩:=b;exact a i j t t' s _ _ ⟨.int (g i j),H,I.tok _,⟨_,O⟩,q⟩
def opB0{g:Int->Int->Bool}(a:∀(i j:Int) (t u:Tok) (s:Shared) (Q:Value->Shared->Prop) (E:Value->Shared->Prop),Q (.bool (g i j)) s->wpAny (model X.prog X.w) X.A (f (.int i t) (.int j u)) Q E s) :
  OpR X f (rI0 λi j=>.bl (g i j)):=by
 intro pins s σ H x y v u Q I c b h;obtain⟨i,j,rfl,rfl,q⟩:=h;obtain⟨t,rfl⟩:=c;obtain⟨t',rfl⟩:=b;exact a i j t t' s _ _ ⟨.bl (g i j),H,I,O,q⟩
def CDiv(i j:Int):Prop:=0<j/\j<1073741824
def CPow(i j:Int):Prop:=0≤j/\j≤1000000/\i.natAbs<2 ^ 64
def CMul(i j:Int):Prop:=(-(2 ^ 64)<i/\i<2 ^ 64)\/(-(2 ^ 64)<j/\j<2 ^ 64)
def CMul.ok(h:CMul i j):IntMulOk i j:=by
 rcases h with⟨h1,h2⟩|⟨h1,h2⟩
 ·exact .of_left (intBits_le_64 h1 h2)
 ·exact .of_right (intBits_le_64 h1 h2)
def xAbc:OpR X (binaryOp .Add) (rI0 λi j=>.int (i+j)):=opI0 λ_ _ _ _ _ _ _ q=>add_int q
def op_sub:OpR X (binaryOp .Sub) (rI0 λi j=>.int (i - j)):=opI0 λ_ _ _ _ _ _ _ q=>sub_int q
def xAkf:OpR X (binaryOp .Mult) (rI CMul λi j=>.int (i * j)):=opI λ_ _ _ _ _ _ _ a q=>mul_int q a.ok
def xAcq:OpR X (binaryOp .FloorDiv) (rI CDiv λi j=>.int (i / j)):=opI λi j _ _ _ _ _ a q=>by
 have h1:(0:Int)<j:=a.1;have h2:j<1073741824:=a.2;exact floordiv_int (by omega) (by rw[Int.fdiv_eq_ediv_of_nonneg i (by omega)];exact q) (.inl (PyProof.noPylong_small (by omega)))
def xAcl:OpR X (binaryOp .Mod) (rI (λ_ j=>0<j) λi j=>.int (i % j)):=opI λi j _ _ _ _ _ a q=>by
 have h1:(0:Int)<j:=a;exact mod_int' (by omega) (by rw[Int.fmod_eq_emod_of_nonneg i (by omega)];exact q)
def op_pow:OpR X (binaryOp .Pow) (rI CPow λi j=>.int (i ^ j.toNat)):=opI λ_ _ _ _ _ _ _ a q=>pow_int_small a.1 a.2.1 a.2.2 q
def unI{g:Int->Int}(a:∀(i:Int) (t:Tok) (s:Shared) (Q:Value->Shared->Prop) (E:Value->Shared->Prop),Q (.int (g i) s.toks) { s with toks:=s.toks+1 }->wpAny (model X.prog X.w) X.A (f (.int i t)) Q E s) :
  UnR X f (rU λi=>.int (g i)):=by
 intro pins s σ H x v Q I b h;obtain⟨i,rfl,q⟩:=h;obtain⟨t,rfl⟩:=b;exact a i t s _ _ ⟨.int (g i),H,I.tok _,⟨_,O⟩,q⟩
def xAdx:UnR X (unaryOp .USub) (rU λi=>.int (-i)):=unI λ_ _ _ _ _ q=>neg_int q
end
def scal:V->V->Bool
 |.non,.non=>true|.non,.int _=>true|.int _,.non=>true|.non,.bl _=>true|.bl _,.non=>true|.non,.str _=>true|.str _,.non=>true
 |.int _,.int _=>true|.bl _,.bl _=>true|.str _,.str _=>true|.byt _,.byt _=>true
 |.int _,.str _=>true|.str _,.int _=>true|.bl _,.str _=>true|.str _,.bl _=>true
 |_,_=>false
def rEq:R2:=λx y H Q=>scal x y=true/\Q (.bl (decide (x=y))) H
def rNe:R2:=λx y H Q=>scal x y=true/\Q (.bl (!decide (x=y))) H
def xApa:decide (V.int i=V.int j)=(i==j):=by
 rw[yf]
 simp
def xAsn:decide (V.bl i=V.bl j)=(i==j):=by
 rw[yf]
 simp
def xApb:decide (V.str i=V.str j)=(i==j):=by
 rw[yf]
 simp
def xApc:decide (V.byt i=V.byt j)=(i.toList==j.toList):=by
 rw[yf];cases i;cases j
 simp
section
variable {X:Cx}{a b c:Expr}{ta tb tc:TE}{pos:Pos}
def xAav{pins:List (Addr×Obj)}{σ:St}{H:Hp}{s:Shared}{Q:VK}{k a:Bool}(I:Inv X pins σ H s)(q:Q (.bl k) H)(e:k=a):EP X pins σ Q (.bool a) s:=by
 subst e;exact⟨.bl k,H,I,O,q⟩
def op_eq:OpR X (compareOp .Eq) rEq:=by
 intro pins s σ H x y v u Q I c a h;obtain⟨b,q⟩:=h
 cases x with
 |non =>
  cases c
  cases y with
  |non=>cases a;exact PySem.EqNone.eq_none_none (xAav I q (by simp))
  |bl j=>cases a;exact PySem.EqNone.eq_none_bool (xAav I q (by simp))
  |int j=>obtain⟨t',rfl⟩:=a;exact PySem.EqNone.eq_none_int (xAav I q (by simp))
  |str j=>obtain⟨t',rfl⟩:=a;exact PySem.EqNone.eq_none_str (xAav I q (by simp))
  |_=>exact absurd (show false=true from b) qk
 |bl i =>
  cases c
  cases y with
  |non=>cases a;exact PySem.EqNone.eq_bool_none (xAav I q (by simp))
  |bl j=>cases a;exact eq_bool (xAav I q xAsn)
  |str j=>obtain⟨t',rfl⟩:=a;exact PySem.EqMixed.eq_bool_str (xAav I q (by simp))
  |_=>exact absurd (show false=true from b) qk
 |int i =>
  obtain⟨t,rfl⟩:=c
  cases y with
  |non=>cases a;exact PySem.EqNone.eq_int_none (xAav I q (by simp))
  |int j=>obtain⟨t',rfl⟩:=a;exact eq_int (xAav I q xApa)
  |str j=>obtain⟨t',rfl⟩:=a;exact PySem.EqMixed.eq_int_str (xAav I q (by simp))
  |_=>exact absurd (show false=true from b) qk
 |str i =>
  obtain⟨t,rfl⟩:=c
  cases y with
  |non=>cases a;exact PySem.EqNone.eq_str_none (xAav I q (by simp))
  |bl j=>cases a;exact PySem.EqMixed.eq_str_bool (xAav I q (by simp))
  |int j=>obtain⟨t',rfl⟩:=a;exact PySem.EqMixed.eq_str_int (xAav I q (by simp))
  |str j=>obtain⟨t',rfl⟩:=a;exact eq_str (xAav I q xApb)
  |_=>exact absurd (show false=true from b) qk
 |byt i =>
  obtain⟨t,rfl⟩:=c
  cases y with
  |byt j=>obtain⟨t',rfl⟩:=a;exact PySem.W.eq_bytes (xAav I q xApc)
  |_=>exact absurd (show false=true from b) qk
 |_=>cases y <;> exact absurd (show false=true from b) qk
def op_ne:OpR X (compareOp .NotEq) rNe:=by
 intro pins s σ H x y v u Q I c a h;obtain⟨b,q⟩:=h
 cases x with
 |non =>
  cases c
  cases y with
  |non=>cases a;exact PySem.EqNone.ne_none_none (xAav I q (by simp))
  |bl j=>cases a;exact PySem.EqNone.ne_none_bool (xAav I q (by simp))
  |int j=>obtain⟨t',rfl⟩:=a;exact PySem.EqNone.ne_none_int (xAav I q (by simp))
  |str j=>obtain⟨t',rfl⟩:=a;exact PySem.EqNone.ne_none_str (xAav I q (by simp))
  |_=>exact absurd (show false=true from b) qk
 |bl i =>
  cases c
  cases y with
  |non=>cases a;exact PySem.EqNone.ne_bool_none (xAav I q (by simp))
  |bl j=>cases a;exact ne_bool (xAav I q (congrArg not xAsn))
  |str j=>obtain⟨t',rfl⟩:=a;exact PySem.EqMixed.ne_bool_str (xAav I q (by simp))
  |_=>exact absurd (show false=true from b) qk
 |int i =>
  obtain⟨t,rfl⟩:=c
  cases y with
  |non=>cases a;exact PySem.EqNone.ne_int_none (xAav I q (by simp))
  |int j=>obtain⟨t',rfl⟩:=a;exact ne_int (xAav I q (congrArg not xApa))
  |str j=>obtain⟨t',rfl⟩:=a;exact PySem.EqMixed.ne_int_str (xAav I q (by simp))
  |_=>exact absurd (show false=true from b) qk
 |str i =>
  obtain⟨t,rfl⟩:=c
  cases y with
  |non=>cases a;exact PySem.EqNone.ne_str_none (xAav I q (by simp))
  |bl j=>cases a;exact PySem.EqMixed.ne_str_bool (xAav I q (by simp))
  |int j=>obtain⟨t',rfl⟩:=a;exact PySem.EqMixed.ne_str_int (xAav I q (by simp))
  |str j=>obtain⟨t',rfl⟩:=a;exact ne_str (xAav I q (congrArg not xApb))
  |_=>exact absurd (show false=true from b) qk
 |byt i =>
  obtain⟨t,rfl⟩:=c
  cases y with
  |byt j=>obtain⟨t',rfl⟩:=a;exact PySem.W.ne_bytes (xAav I q (congrArg not xApc))
  |_=>exact absurd (show false=true from b) qk
 |_=>cases y <;> exact absurd (show false=true from b) qk
def op_lt:OpR X (compareOp .Lt) (rI0 λi j=>.bl (decide (i<j))):=opB0 λ_ _ _ _ _ _ _ q=>lt_int q
def op_le:OpR X (compareOp .LtE) (rI0 λi j=>.bl (decide (i≤j))):=opB0 λ_ _ _ _ _ _ _ q=>le_int q
def op_gt:OpR X (compareOp .Gt) (rI0 λi j=>.bl (decide (j<i))):=opB0 λ_ _ _ _ _ _ _ q=>gt_int q
def op_ge:OpR X (compareOp .GtE) (rI0 λi j=>.bl (decide (j≤i))):=opB0 λ_ _ _ _ _ _ _ q=>ge_int q
def xAso:OpR X (compareOp .Is) (λx y H Q=>y=.non/\Q (.bl (decide (x=.non))) H):=by
 intro pins s σ H x y v u Q I a b h;obtain⟨rfl,q⟩:=h;cases b;refine is_none_gen (xAav I q ?_)
 cases x <;> first
  |(cases a;rfl)
  |(obtain⟨t,rfl⟩:=a;rfl)
def xAkg:OpR X (compareOp .IsNot) (λx y H Q=>y=.non/\Q (.bl (!decide (x=.non))) H):=by
 intro pins s σ H x y v u Q I a b h;obtain⟨rfl,q⟩:=h;cases b;refine isnot_none_gen (xAav I q ?_)
 cases x <;> first
  |(cases a;rfl)
  |(obtain⟨t,rfl⟩:=a;rfl)
def xAsp(f:OpR X (compareOp op) r)(i:PE X a ta)(j:PE X b tb)(g:behindInMarks op b=false):PE X (.Compare a [op] [b] pos) (tOp r ta tb):=by
 refine⟨?_⟩;intro pins s σ H Q I h;exact wpAny_Compare1 (binT i j I h λv u s2 x y H2 e c d q=>f pins s2 σ H2 x y v u Q e c d q) g
inductive ItTest(Q:Bool->Hp->Prop)(x:V)(H':Hp):Prop
 |mk (k:_) (h0_:x=.bl k) (h1_:Q k H'):ItTest Q x H'
def tTest(t:TE):TT:=λσ H Q=>t σ H λx H'=>ItTest Q x H'
def xAsq(p:OpR X (compareOp op) r)(f:PE X a ta)(B:PE X b tb)(w:behindInMarks op b=false):PT X (.Compare a [op] [b] pos) (tTest (tOp r ta tb)):=by
 refine⟨?_⟩;intro pins s σ H Q I h
 refine wpAny_isTrue_Compare1 (thn (f pins s σ H _ I h) λv q ⟨x,H1,t,o,j⟩=>thn (B pins q σ H1 _ t j) λu s2 ⟨y,H2,n,g,A⟩ =>
  thn (p pins s2 σ H2 x y v u _ n o g A) λc C ⟨z,m,l,d,k,e,i⟩=>?_) w
 subst e;cases d;exact wpAny_truthy_bool ⟨m,l,i⟩
inductive ItChain(r':R2)(tc:TE)(σ:St)(Q:VK)(y:V)(z:V)(H3:Hp):Prop
 |mk (k:_) (h0_:z=.bl k) (h1_:(if k=true then tc σ H3 λw' H4=>r' y w' H4 Q else Q (.bl false) H3)):ItChain r' tc σ Q y z H3
def tChain(r a:R2)(ta tb tc:TE):TE:=λσ H Q=>ta σ H λx H1=>tb σ H1 λy H2=>r x y H2 λz b=>ItChain a tc σ Q y z b
def xAqg(q:OpR X (compareOp op) r)(g:OpR X (compareOp f) j)(J:PE X a ta)(A:PE X b tb)(S:PE X c tc)(w:lastMarks [op,f] [b,c]=false:=by with_unfolding_all rfl):PT X (.Compare a [op,f] [b,c] pos) (tTest (tChain r j ta tb tc)):=by
 refine⟨?_⟩;intro pins s σ H Q I h
 refine isTrue_chain (thn (J pins s σ H _ I h) λv F ⟨x,H1,K,V,D⟩=>test_link (thn (A pins F σ H1 _ K D) λu s2 ⟨y,H2,p,l,L⟩ =>
  thn (q pins s2 σ H2 x y v u _ p V l L) λd T ⟨z,m,n,C,k,e,i⟩=>?_)) w
 subst e;cases C;refine wpAny_truthy_bool ?_
 cases k with
 |false =>
  obtain⟨k',o,W⟩:=i;cases o;exact ite_ff ⟨m,n,W⟩
 |true =>
  refine ite_tt (test_last (thn (S pins T σ m _ n i) λZ Y ⟨R,N,U,B,E⟩=>thn (g pins Y σ N y R u Z _ U l B E) λd' s5 ⟨z2,G,M,t,k2,O,P⟩=>?_));subst O;cases t;exact wpAny_truthy_bool ⟨G,M,P⟩
def xAjf:(sizeLine:Nat)<2 ^ 63:=by rw[sizeLine_eq];decide
inductive IRop_add_str(x:V)(y:V)(H:Hp)(Q:VK):Prop
 |mk (i:_) (j:_) (h0_:x=.str i) (h1_:y=.str j) (h2_:i.length+j.length≤sizeLine) (h3_:Q (.str (i++j)) H):IRop_add_str x y H Q
def Rop_add_str:R2:=λx y H Q=>IRop_add_str x y H Q
def xAcr:OpR X (binaryOp .Add) Rop_add_str:=by
 intro pins s σ H x y v u Q I a b h;obtain⟨i,j,rfl,rfl,hz,q⟩:=h;obtain⟨t,rfl⟩:=a;obtain⟨t',rfl⟩:=b;exact add_str (λt' tk=>⟨.str (i++j),H,I.tok _,⟨_,O⟩,q⟩) hz
def vals1(r:Vals [x] us):∃u,us=[u]/\RelV x u:=by
 cases r with
 |cons a b=>cases b;exact⟨_,O,a⟩
def vals2(r:Vals [x,y] us):∃u a,us=[u,a]/\RelV x u/\RelV y a:=by
 cases r with
 |cons c d =>
  cases d with
  |cons b e=>cases e;exact⟨_,_,O,c,b⟩
inductive IRcall_max2(xs:List V)(H:Hp)(Q:VK):Prop
 |mk (i:_) (j:_) (h0_:xs=[.int i,.int j]) (h1_:Q (.int (if j>i then j else i)) H):IRcall_max2 xs H Q
def Rcall_max2:List V->Hp->VK->Prop:=λxs H Q=>IRcall_max2 xs H Q
def xAng(b:X.calm=true):CallR X (.builtin "max") Rcall_max2:=by
 intro pins s σ H xs us Q I r h;obtain⟨i,j,rfl,q⟩:=h;obtain⟨u,c,rfl,⟨t,rfl⟩,⟨t',rfl⟩⟩:=vals2 r;refine max_two_ints (I.ok.hd b) λh' tk k=>⟨_,H,I.kept k,?_,q⟩
 by_cases a:j>i
 ·rw[qF a,qF a];exact⟨_,O⟩
 ·rw[qB a,qB a];exact⟨_,O⟩
def xAho:CallR X (.type "int") (λxs H Q=>(∃i,xs=[.int i]/\Q (.int i) H)\/∃k,xs=[.bl k]/\Q (.int (if k then 1 else 0)) H):=by
 intro pins s σ H xs us Q I r h;rcases h with⟨i,rfl,q⟩|⟨k,rfl,q⟩
 ·obtain⟨u,rfl,t,rfl⟩:=vals1 r
  exact call_int_int ⟨.int i,H,I,⟨_,O⟩,q⟩
 ·obtain⟨u,rfl,a⟩:=vals1 r
  cases a;exact call_int_bool ⟨.int (if k then 1 else 0),H,I.tok _,⟨_,O⟩,q⟩
def LenV(x:V)(H:Hp)(n:Nat):Prop :=
 match x with
 |.str y=>y.length≤sizeLine/\n=y.length
 |.byt y=>y.size≤sizeLine/\n=y.size
 |.ref p=>(∃xs,SqL H p xs/\n=xs.length)\/∃xs,SqT H p xs/\n=xs.length
 |_=>False
inductive IRcall_len(xs:List V)(H:Hp)(Q:VK):Prop
 |mk (x:_) (n:_) (h0_:xs=[x]) (h1_:LenV x H n) (h2_:Q (.int n) H):IRcall_len xs H Q
def Rcall_len:List V->Hp->VK->Prop:=λxs H Q=>IRcall_len xs H Q
def xAqh:CallR X (.builtin "len") (Rcall_len):=by
 intro pins s σ H xs us Q I r h;obtain⟨x,n,rfl,e,q⟩:=h;obtain⟨u,rfl,c⟩:=vals1 r;have k:=xAjf;have j:sizeLine=16777216:=sizeLine_eq
 cases x with
 |str y =>
  obtain⟨t,rfl⟩:=c;obtain⟨i,b⟩:y.length≤sizeLine/\n=y.length:=e;subst b;exact len_str (by omega) ⟨.int _,H,I.tok _,⟨_,O⟩,q⟩
 |byt y =>
  obtain⟨t,rfl⟩:=c;obtain⟨i,b⟩:y.size≤sizeLine/\n=y.size:=e;subst b;exact PySem.W.len_bytes (by omega) ⟨.int _,H,I.tok _,⟨_,O⟩,q⟩
 |ref p =>
  cases c;have b:(∃xs,SqL H p xs/\n=xs.length)\/∃xs,SqT H p xs/\n=xs.length:=e;rcases b with⟨xs,d,b⟩|⟨xs,d,b⟩
  ·subst b
   obtain⟨its,g,f,hz⟩:=I.list d;have a:=g.length;exact Calls.call_len_list f.isList (by simp only[List.size_toArray];omega) ⟨.int xs.length,H,I.tok _,⟨_,by simp only[List.size_toArray];rw[a]⟩,q⟩
  ·subst b
   obtain⟨its,g,f,hz⟩:=I.tuple d;have a:=g.length;exact len_tuple f (by simp only[List.size_toArray];omega) ⟨.int xs.length,H,I.tok _,⟨_,by simp only[List.size_toArray];rw[a]⟩,q⟩
 |_=>exact(show False from e).elim
end
structure ObjM(h:Heap)(x dx C:Addr)(mA:Str->Option Value):Prop where
 obj:h.get? x=some (PySem.W.instObj C dx)
 ns:h.Ns1 dx mA
 ne:dx≠x
def xAnh{h:Heap}{dx:Addr}{c:Str->Option Value}(n:h.Ns1 dx c):∃od,h.get? dx=some od/\∀name,PySem.W.lookIn name od=some (c name):=by
 obtain⟨o,es,ep,g,k,f,_,d⟩:=n;refine⟨o,g,λname=>?_⟩;have e:=d name;unfold nsFind findBy at e;rw[←Array.find?_toList]at e;unfold PySem.W.lookIn;rw[k];dsimp only
 split
 ·rename_i y q
  rw[q]at e;exact congrArg some e
 ·rename_i q
  rw[q]at e
  have a:es.toList.any (·.refKey)=false:=by
   rw[List.any_eq_false];intro y j;obtain⟨z,t,b⟩:=f y (yu.mp j)
   simp[DictEntry.refKey,b]
  have i:¬es.toList.any (·.refKey)=true:=by rw[a];exact qk
  rw[qB i];exact congrArg some e
def ObjM.look(I:ObjM h x dx C a):∃od,PySem.W.InstAt h x (PySem.W.instObj C dx) C (some od)/\∀name,PySem.W.lookIn name od=some (a name) :=
 let⟨od,b,c⟩:=xAnh I.ns
 ⟨od,⟨I.obj,O,O,b⟩,c⟩
def RelO.some_of(r:RelO (some v) o):∃u,o=some u/\RelV v u:=by
 cases o with
 |none=>exact(show False from r).elim
 |some u=>exact⟨u,O,r⟩
section
variable {P:Program}{w:World}{H H':Hp}{h h':Heap}{a C dx:Addr}{fs fs':List (Str×V)}
def xAsr(c:HOk P w H h)(e:H a=some (.ins C dx fs)):∃b,ObjM h a dx C b/\(∀f,RelO (fs.lookup f) (b f))/\PySem.Within b (fs.map (·.1))/\fs.length≤1000/\H dx=some (.own a):=by
 obtain⟨d,z,ne,ob,b,n,r,q⟩:=(show ObjOk P w H h a (.ins C dx fs) from c a _ e);exact⟨b,⟨ob,n,ne⟩,r,q,z,d⟩
end
structure Cls(K:PySem.W.Frag)(C:Addr):Prop where
 pg:PySem.W.plainGet K C Str.empty=true
 hd:PySem.W.hasDictIn K C=true
 po:PySem.W.plainOver K C=true
 sa:PySem.W.findIn K (.ref C) "__setattr__"=some (some (.builtin "object.__setattr__"))
def Cls.get{K:PySem.W.Frag}{C:Addr}(c:Cls K C)(f:Str):PySem.W.plainGet K C f=true:=c.pg
section
variable {X:Cx}{pins:List (Addr×Obj)}{σ:St}{H:Hp}{s:Shared}{A:Around}{E:Value->Shared->Prop}{Q:Value->Shared->Prop}{c:Value}{b:Bool}
inductive TyOf(K:PySem.W.Frag)(H:Hp):V->Value->Prop where
 |non:TyOf K H .non (.type "NoneType")
 |bl (x:Bool):TyOf K H (.bl x) (.type "bool")
 |int (i:Int):TyOf K H (.int i) (.type "int")
 |str (x:Str):TyOf K H (.str x) (.type "str")
 |flt (x:UInt64):TyOf K H (.flt x) (.type "float")
 |lst {a:Addr} {xs:List V} (e:H a=some (.lst xs)):TyOf K H (.ref a) (.type "list")
 |frz {a:Addr} {o:Obj} {xs:List V} (e:H a=some (.frz o (.lst xs))):TyOf K H (.ref a) (.type "list")
 |tup {a:Addr} {xs:List V} (e:H a=some (.tup xs)):TyOf K H (.ref a) (.type "tuple")
 |dK {a:Addr} {kvs:List (Key×V)} (e:H a=some (.dK kvs)):TyOf K H (.ref a) (.type "dict")
 |dT {a:Addr} {kvs:List (List Key×V)} (e:H a=some (.dT kvs)):TyOf K H (.ref a) (.type "dict")
 |dG {a:Addr} {kvs:List (KD×V×V)} (e:H a=some (.dG kvs)):TyOf K H (.ref a) (.type "dict")
 |ins {a C dx:Addr} {fs:List (Str×V)} (e:H a=some (.ins C dx fs)) (cl:Cls K C) (ha:PySem.W.findIn K (.ref C) "__class__"=some (some (.builtin "object.__class__")))
   (hn:PySem.W.specialIn K (.builtin "object.__class__") "__get__"=some (some (.builtin "getset_descriptor.__get__"))) (htk:PySem.W.takesIn K (.builtin "object.__class__")=some true)
   (hm:PySem.W.mroIn K C (.type "object")=some true):TyOf K H (.ref a) (.ref C)
def xAni(I:Inv X pins σ H s)(f:RelV x u)(ty:TyOf X.K H x t)(e:PySem.W.kitOne X.K t c=some b)(h:∀tk,Q (.bool b) { s with toks:=tk }) :
  wpAny (model X.prog X.w) A (call (.builtin "isinstance") [u,c]) Q E s:=by
 cases ty with
 |non=>cases(show u=Value.none from f);exact PySem.W.kia_one PySem.W.kitx_none I.kIn True.intro e (λz=>nomatch z) h
 |bl y=>cases(show u=Value.bool y from f);exact PySem.W.kia_one PySem.W.kitx_bool I.kIn True.intro e (λz=>nomatch z) h
 |int i=>obtain⟨t,q⟩:=(show ∃t,u=Value.int i t from f);cases q;exact PySem.W.kia_one PySem.W.kitx_int I.kIn True.intro e (λz=>nomatch z) h
 |str y=>obtain⟨t,q⟩:=(show ∃t,u=Value.str y t from f);cases q;exact PySem.W.kia_one PySem.W.kitx_str I.kIn True.intro e (λz=>nomatch z) h
 |flt y=>obtain⟨t,q⟩:=(show ∃t,u=Value.float y t from f);cases q;exact PySem.W.kia_one PySem.W.kitx_float I.kIn True.intro e (λz=>nomatch z) h
 |@lst a xs d =>
  cases(show u=Value.ref a from f);obtain⟨_,_,n,_,h1⟩:=(show ObjOk X.prog X.w H s.heap a (.lst xs) from I.hok a _ d);exact PySem.W.kia_one PySem.W.kitx_list I.kIn ⟨_,h1,rfl⟩ e (λz=>nomatch z) h
 |@frz a ob xs d =>
  cases(show u=Value.ref a from f);obtain⟨_,_,_,n,_,h1⟩:=(show ObjOk X.prog X.w H s.heap a (.frz ob (.lst xs)) from I.hok a _ d);exact PySem.W.kia_one PySem.W.kitx_list I.kIn ⟨_,h1,rfl⟩ e (λz=>nomatch z) h
 |@tup a xs d =>
  cases(show u=Value.ref a from f);obtain⟨_,_,_,p⟩:=(show ObjOk X.prog X.w H s.heap a (.tup xs) from I.hok a _ d);obtain⟨o,h1,h2,_⟩:=p;exact PySem.W.kia_one PySem.W.kitx_tuple I.kIn ⟨o,h1,h2⟩ e (λz=>nomatch z) h
 |@dK a kvs d =>
  cases(show u=Value.ref a from f);obtain⟨_,_,vs,_,p⟩:=(show ObjOk X.prog X.w H s.heap a (.dK kvs) from I.hok a _ d);obtain⟨o,es,ep,h1,h2,_⟩:=p;exact PySem.W.kia_one PySem.W.kitx_dict I.kIn ⟨o,h1,h2.1⟩ e (λz=>nomatch z) h
 |@dT a kvs d =>
  cases(show u=Value.ref a from f);obtain⟨_,_,xs,_,o,es,ep,h1,h2,_⟩:=(show ObjOk X.prog X.w H s.heap a (.dT kvs) from I.hok a _ d);exact PySem.W.kia_one PySem.W.kitx_dict I.kIn ⟨o,h1,h2.1⟩ e (λz=>nomatch z) h
 |@dG a kvs d =>
  cases(show u=Value.ref a from f);obtain⟨_,_,xs,_,o,es,ep,h1,h2,_⟩:=(show ObjOk X.prog X.w H s.heap a (.dG kvs) from I.hok a _ d);exact PySem.W.kia_one PySem.W.kitx_dict I.kIn ⟨o,h1,h2.1⟩ e (λz=>nomatch z) h
 |@ins a C dx fs d cl k hn g j =>
  cases(show u=Value.ref a from f);obtain⟨l,O,_⟩:=xAsr I.hok d;obtain⟨od,J,_⟩:=O.look;exact PySem.W.kia_one (PySem.W.kitx_own (cl.get _) cl.hd k hn g j) I.kIn J e (λz=>nomatch z) h
end
structure Room(k:Nat)(A:Around):Prop where
 hd:A.handled=none
 dp:A.depth+3 * k+5<recursionLimit
 un:A.units+16 * k+200<cLine
 gd:A.guards=some []
def Room.mono(r:Room k A)(h:j≤k):Room j A:=⟨r.hd,by have:=r.dp;omega,by have:=r.un;omega,r.gd⟩
def Room.deeper(r:Room (k+1) A)(env:Env):Room k (A.deeper env) :=
 ⟨r.hd,by have:=r.dp;show A.depth+1+3 * k+5<_;omega,by have:=r.un;show A.units+3+16 * k+200<_;omega,r.gd⟩
def Room.in1(r:Room (k+1) A):Room k A.in1 :=
 ⟨r.hd,by have:=r.dp;show A.depth+3 * k+5<_;omega,by have:=r.un;show A.units+1+16 * k+200<_;omega,r.gd⟩
def Room.depth(r:Room k A):A.depth<recursionLimit:=by have:=r.dp;omega
def Room.units(r:Room k A):A.units+64<cLine:=by have:=r.un;omega
def Room.units0(r:Room k A):A.units<cLine:=by have:=r.un;omega
def tNil:TA:=λ_ H Q=>Q [] H
def tCons(ta:TE)(a:TA):TA:=λσ H Q=>ta σ H λx H1=>a σ H1 λxs H2=>Q (x::xs) H2
section
variable {X:Cx}{e:Expr}{es:List Expr}{te:TE}{t:TA}{pos:Pos}
def xAbm:PA X [] tNil:=⟨λ_ _ _ _ H Q I h=>Calls.spliced_nil ⟨[],H,I,.nil,h⟩⟩
def xAkh(k:PE X e te)(d:PA X es t)(f:starEach (e::es) X.env=(false,eval e X.env)::starEach es X.env:=by rfl):PA X (e::es) (tCons te t):=by
 refine⟨?_⟩;intro pos pins s σ H Q I h;rw[f];show wpAny _ _ (spliced ((false,eval e X.env)::backTo pos (starEach es X.env))) _ _ s;refine Calls.spliced_cons (thn (k pins s σ H _ I h) λu j ⟨x,H1,l,i,c⟩=>?_);exact thn (d pos pins j σ H1 _ l c) λus s2 ⟨xs,H2,g,b,a⟩=>⟨x::xs,H2,g,.cons i b,a⟩
end
abbrev Sp:=List V->Hp->VK->XK->Prop
abbrev CXT:=List Env->Hp->Shared->XK->Value->Shared->Prop
structure Env0(P:Program)(w:World)(K:PySem.W.Frag)(mg:Str->Option Value)(base:Heap)(A:Around)(outer:List Env)(s:Shared)(H:Hp):Prop where
 frames:A.frames=some outer
 mod:Mod K mg base
 bs:∀b o,base.get? b=some o->s.heap.get? b=some o/\(H b=none\/∃xs,H b=some (.tup xs))
 bsz:base.objs.size≤s.heap.objs.size
 funs:s.heap.FunFrames base outer
 frf:∀b∈frs outer,H b=none
 hok:HOk P w H s.heap
 bare:AllBare s.gens
def CE(outer:List Env)(P:Program)(w:World)(H:Hp)(s:Shared)(Q:VK)(u:Value)(s':Shared):Prop :=
 ∃v H',s'.os=s.os/\AllBare s'.gens/\Un (frs outer) [] H H' s.heap s'.heap/\HOk P w H' s'.heap/\RelV v u/\Q v H'
def CR(CX:CXT)(outer:List Env)(P:Program)(w:World)(H:Hp)(s:Shared)(Q:VK)(E:XK)(r:Result)(s':Shared):Prop :=
 match r with
 |.ok (.ret u)=>CE outer P w H s Q u s'
 |.ok _=>False
 |.error e=>CX outer H s E e s'
structure FnOk(P:Program)(w:World)(K:PySem.W.Frag)(mg:Str->Option Value)(base:Heap)(CX:CXT)(k:Nat)(f:Addr)(fd:FuncData)(ps:List Str)(sp:Sp):Prop where
 len:∀vs H Q E,sp vs H Q E->vs.length=ps.length
 run:∀(A:Around) (outer:List Env) (s:Shared) (H:Hp) (args:Args) (us:List Value) (vs:List V) (Q:VK) (E:XK),Room k A->Env0 P w K mg base A outer s H->BindsTo s fd args (ps.zip us)->Vals vs us->sp vs H Q E →
  codeAny (model P w) A (.call (.ref f) args) (CR CX outer P w H s Q E) s
section
variable {X:Cx}{pins:List (Addr×Obj)}{σ:St}{H:Hp}{s s':Shared}
def Inv.env0(I:Inv X pins σ H s):Env0 X.prog X.w X.K X.mg X.base X.A X.stack s H :=
 ⟨I.ok.frames,I.ok.mod,I.bs,qc I.ok.bsz I.sz,I.stack,I.stkFree,I.hok,I.bare⟩
def Inv.after(I:Inv X pins σ H s)(h:CE X.stack X.prog X.w H s Q u s'):EP X pins σ Q u s':=by
 obtain⟨v,H',i,a,un,c,r,q⟩:=h;obtain⟨f,g,d,t,e⟩:=s';obtain rfl:e=s.os:=i;exact⟨v,H',I.call (h':=f) (g':=g) (d':=d) (t':=t) (ch:=[]) un c a (λb z=>absurd z (by simp)),r,q⟩
end
def tCall(sp:Sp)(dvs:List V)(E:XK)(t:TA):TE:=λσ H Q=>t σ H λvs H1=>sp (vs++dvs) H1 Q E
def Binds(K:PySem.W.Frag)(fd:FuncData)(ps:List Str)(ds:List Value):Prop :=
 ∀(s:Shared) (us:List Value),K.In s.heap->(us++ds).length=ps.length->BindsTo s fd ⟨us,[]⟩ (ps.zip (us++ds))
def Binds.all{K:PySem.W.Frag}{fd:FuncData}{ps:List Str}(h:∀us:List Value,us.length=ps.length->bindArgs fd ⟨us,[]⟩=pure (ps.zip us)):Binds K fd ps []:=λs us _ a=>by
 rw[vd]at a ⊢;exact .of_eq (h us a)
def Passes(CX:CXT)(X:Cx)(E:XK):Prop:=∀(pins:List (Addr×Obj)) (σ:St) (H:Hp) (s:Shared) (e:Value) (s':Shared),Inv X pins σ H s->CX X.stack H s E e s'->X.xe e s'
section
variable {X:Cx}{CX:CXT}{k:Nat}{f C:Addr}{fd:FuncData}{ps:List Str}{sp:Sp}{dvs:List V}{ds:List Value}{E:XK}{x m:Str}{p pos apos:Pos}{e o:Expr}{es:List Expr}{ta:TE}{t:TA}
def run_fn{pins:List (Addr×Obj)}{σ:St}{H:Hp}{s:Shared}{Q:VK}{us:List Value}{vs:List V}(F:FnOk X.prog X.w X.K X.mg X.base CX k f fd ps sp)(c:Room k X.A)(j:Binds X.K fd ps ds)(l:Vals dvs ds)(d:Passes CX X E)(I:Inv X pins σ H s)(r:Vals vs us)(h:sp (vs++dvs) H Q E):wpAny (model X.prog X.w) X.A (call (.ref f) us) (EP X pins σ Q) X.xe s:=by
 have b:Vals (vs++dvs) (us++ds):=r.append l
 have g:(us++ds).length=ps.length:=by rw[←b.length];exact F.len _ _ _ _ h
 refine wpAny_call (codeAny_mono (F.run X.A X.stack s H ⟨us,[]⟩ (us++ds) (vs++dvs) Q E c I.env0 (j s us I.kIn g) b h) λr s' a=>?_)
 cases r with
 |error e=>exact d pins σ H s e s' I a
 |ok i =>
  cases i with
  |ret u=>exact I.after a
  |next=>exact False.elim a
  |brk=>exact False.elim a
  |cont=>exact False.elim a
def xAss(F:FnOk X.prog X.w X.K X.mg X.base CX k f fd ps sp)(i:Room k X.A)(j:Gl X x)(m:X.mg x=some (.ref f))(n:PySem.W.keepIn X.K (.ref f)=true)(g:Binds X.K fd ps ds)(u:Vals dvs ds)(l:Passes CX X E)(o:PA X (e::es) t)(a:(x==("__debug__":Str))=false:=by decide)(d:starEach (e::es) X.env=(false,eval e X.env)::starEach es X.env:=by rfl)(b:(backTo pos (starEach es X.env)).any (·.1)=false:=by rfl) :
  PE X (.Call (.Name x p) (e::es) [] pos) (tCall sp dvs E t):=by
 refine⟨?_⟩;intro pins s σ H Q I h;refine wpAny_Call_Name_kw (xAkb I j m ?_ a);refine PySem.W.callWith_K (h₀:=X.base) I.ok.mod.kin n (thn (o pos pins s σ H _ I h) λus v ⟨vs,H1,c,r,q⟩=>⟨c.kIn,?_⟩) d b;exact run_fn F i g u l c r q
end
structure FnScope(N P:List Str)(sc:Scope):Prop where
 kind:sc.kind=.function
 co:sc.isCoroutine=false
 gen:sc.isGenerator=false
 nd:N.Nodup
 pre:N.take P.length=P
 par:∀x∈P,sc.names.lookup x=some .local\/sc.names.lookup x=some .cell
 nofree:∀y∈sc.names,y.2≠.free
def xAhp:∀{binds:List (Str×Value)} {m:Str->Option Value},(∀v,(x,v)∉binds)->bindL a binds m x=m x
 |[],_,_=>rfl
 |(n,v)::r,m,h=>by
  unfold bindL;rw[xAhp λw b=>h w (qu _ b)]
  split
  ·have:x≠n:=by rintro rfl;exact h v qp
   simp[this]
  ·rfl
def xAhq:∀{binds:List (Str×Value)} {m:Str->Option Value},(∀v,(x,v)∉binds)->bindC a binds m x=m x
 |[],_,_=>rfl
 |(n,v)::r,m,h=>by
  unfold bindC;rw[xAhq λw b=>h w (qu _ b)]
  split
  ·rfl
  ·have:x≠n:=by rintro rfl;exact h v qp
   simp[this]
def xAhr:∀{P:List Str} {vs:List Value} {i:Nat} {m:Str->Option Value},P.Nodup->P[i]?=some x->vs[i]?=some v->a x=some .local →
  bindL a (P.zip vs) m x=some v
 |[],_,_,_,_,h,_,_=>by simp at h
 |_::_,[],_,_,_,_,h,_=>by simp at h
 |p::P,w::vs,0,m,nd,h1,h2,hk=>by
  simp at h1 h2;subst h1;subst h2
  show bindL a ((p,w)::P.zip vs) m p=_;unfold bindL;rw[xAhp λv b=>(zx.mp nd).1 (ji b).1,qF hk]
  simp
 |p::P,w::vs,i+1,m,nd,h1,h2,hk=>by
  show bindL a ((p,w)::P.zip vs) m x=_;unfold bindL;exact xAhr (i:=i) (List.nodup_cons.mp nd).2 (by simpa using h1) (by simpa using h2) hk
def xAhs:∀{P:List Str} {vs:List Value} {i:Nat} {m:Str->Option Value},P.Nodup->P[i]?=some x->vs[i]?=some v->a x≠some .local →
  bindC a (P.zip vs) m x=some v
 |[],_,_,_,_,h,_,_=>by simp at h
 |_::_,[],_,_,_,_,h,_=>by simp at h
 |p::P,w::vs,0,m,nd,h1,h2,hk=>by
  simp at h1 h2;subst h1;subst h2
  show bindC a ((p,w)::P.zip vs) m p=_;unfold bindC;rw[xAhq λv b=>(zx.mp nd).1 (ji b).1,qB hk]
  simp
 |p::P,w::vs,i+1,m,nd,h1,h2,hk=>by
  show bindC a ((p,w)::P.zip vs) m x=_;unfold bindC;exact xAhs (i:=i) (List.nodup_cons.mp nd).2 (by simpa using h1) (by simpa using h2) hk
def start(N:List Str)(vs:List V):St:=vs.map some++List.replicate (N.length - vs.length) none
def cxOf(CX:CXT)(P:Program)(w:World)(K:PySem.W.Frag)(mg:Str->Option Value)(base:Heap)(N:List Str)(qual:Str)(a:Scope)(f:Addr)(cd:Value)(A:Around)(outer:List Env)(s:Shared)(H:Hp)(E:XK):Cx where
 prog:=P
 w:=w
 K:=K
 mg:=mg
 base:=base
 A:=A.deeper (envOfC qual a s.heap.objs.size f cd)
 N:=N
 s₀:=s
 H₀:=H
 env:=envOfC qual a s.heap.objs.size f cd
 outer:=outer
 stack:=envOfC qual a s.heap.objs.size f cd::outer
 ex:=[]
 calm:=true
 fn:=λ_=>true
 pn:=[]
 xe:=λe s'=>wpAny (model P w) (A.deeper (envOfC qual a s.heap.objs.size f cd)) (leaving (envOfC qual a s.heap.objs.size f cd) e) (λ_ b=>CX outer H s E e b) (λc b=>CX outer H s E c b) s'
def xAay{a:Scope}{n:Nat}{x:Str}(h:a.names.lookup x=some .cell):∃c,(cellsFrom n a.names []).lookup x=some c:=by
 have q:=PySem.W.cellsFrom_some a.names n [] (.inl h);exact zv.mp q
def xAnj{CX:CXT}{P:Program}{w:World}{K:PySem.W.Frag}{mg:Str->Option Value}{base:Heap}{N ps:List Str}{qual:Str}{d:Scope}{f:Addr}{cd:Value}{A:Around}{outer:List Env}{s C:Shared}{H:Hp}{E:XK}{us:List Value}{vs:List V}(S:FnScope N ps d)(G:A.handled=none)(g:Env0 P w K mg base A outer s H)(J:vs.length=ps.length)(r:Vals vs us)(x:InCallC s s.heap.objs.size (bindL (envOfC qual d s.heap.objs.size f cd).kindOf (ps.zip us) λ_=>none) (cellsFrom (s.heap.objs.size+1) d.names []) (bindC (envOfC qual d s.heap.objs.size f cd).kindOf (ps.zip us) λ_=>none) C) :
  Inv (cxOf CX P w K mg base N qual d f cd A outer s H E) [] (start N vs) H C:=by
 have I:ps.length≤N.length:=by have:=congrArg List.length S.pre;rw[wn]at this;omega
 obtain⟨h1,tk,rfl,B⟩:=x.done
 have j:∀b:Addr,b∉(cxOf CX P w K mg base N qual d f cd A outer s H E).ex:=λb z=>absurd (show b∈([]:List Addr) from z) (by simp)
 refine⟨⟨g.mod,S.kind,O,O,qb _,λy z c h1 h2=>?_,λy l=>?_,λy c _ h=>?_,λ_=>G,Around.frames_deeper g.frames,.inr ⟨O,O⟩,λb z=>absurd z (j b),g.bs,g.bsz,λb _ _=>j b,λb z=>absurd z (j b),g.funs,g.frf⟩,
  rfl,g.bare,Un.kept B,⟨_,x.toInCall.ns,λi y v h1 h2 L=>?_⟩,λy c h=>⟨_,x.cell y c h⟩,g.hok.fresh (Nat.le_refl _),λy c h=>?_,λp o=>absurd (show p∈([]:List (Addr×Obj)) from o) (by simp),g.hok.kept B,?_⟩
 ·exact name_of_addr x.apart (PySem.mem_of_lookup h1) (PySem.mem_of_lookup h2)
 ·have l:d.names.lookup y=some .cell\/d.names.lookup y=some .free:=l
  rcases l with l|l
  ·exact xAay l
  ·exact absurd rfl (S.nofree _ (PySem.mem_of_lookup l))
 ·exact zt (x.above y c (PySem.mem_of_lookup h))
 ·have hi:i<vs.length:=by
   unfold start at h2
   by_cases hi:i<vs.length
   ·exact hi
   ·rw[List.getElem?_append_right (by simpa using hi)]at h2
    rw[List.getElem?_replicate]at h2
    split at h2 <;> cases h2
  have D:vs[i]?=some v:=by
   unfold start at h2;rw[List.getElem?_append_left (by simpa using hi),List.getElem?_map]at h2
   cases e:vs[i]? with
   |none=>rw[e]at h2;cases h2
   |some a=>rw[e]at h2;cases h2;rfl
  obtain⟨u,t,F⟩:=r.get D
  have o:ps[i]?=some y:=by
   rw[←S.pre,List.getElem?_take_of_lt (by omega)];exact h1
  have m:ps.Nodup:=by rw[←S.pre];exact S.nd.sublist (gc _ _)
  refine⟨u,F,?_⟩;rcases S.par y (qh o) with k|k
  ·exact .inl ⟨k,xAhr m o t k⟩
  ·obtain⟨c,e⟩:=xAay (n:=s.heap.objs.size+1) k
   refine .inr ⟨.inl k,c,e,?_⟩;have q:=x.cell y c e;rw[xAhs m o t (by show d.names.lookup y≠_;rw[k];decide)]at q;exact q
 ·exact g.hok.fresh (zt (x.above y c (PySem.mem_of_lookup h)))
 ·unfold start
  show _=N.length;rw[qe,qf,yv];omega
def fn_of{CX:CXT}{P:Program}{w:World}{K:PySem.W.Frag}{mg:Str->Option Value}{base:Heap}{k:Nat}{f:Addr}{name qual:Str}{d:Arguments}{g:List Stmt}{a:Scope}{L kV p U c X Y:Value}{T od:Option Addr}{B:Array (Option Value)}{N ps:List Str}{sp:Sp}(lk:K.lookup f=some ⟨Y,od,.func (PySem.W.fnOf name qual d g a L kV p U T c X),B⟩)(G:PySem.W.codeIn K c qual=true)(S:FnScope N ps a)(len:∀vs H Q E,sp vs H Q E->vs.length=ps.length)(h:∀(A:Around) (outer:List Env) (s:Shared) (H:Hp) (vs:List V) (Q:VK) (E:XK),Room k (A.deeper (envOfC qual a s.heap.objs.size f c))->sp vs H Q E →
   ∃t,PSs (cxOf CX P w K mg base N qual a f c A outer s H E) g t/\t { nx:=λ_ H'=>Q .non H',rt:=Q } (start N vs) H) :
  FnOk P w K mg base CX (k+1) f (PySem.W.fnOf name qual d g a L kV p U T c X) ps sp:=by
 refine⟨len,λA outer s H O us vs Q E F z hb r m=>?_⟩;have hl:=len _ _ _ _ m;have M:K.In s.heap:=z.mod.kin.keeps λb o e=>(z.bs b o e).1;have D:s.heap.NoLimit:=z.mod.nolimit.keeps λb o e=>(z.bs b o e).1
 have i:∀y∈ps.zip us,a.names.lookup y.1=some .local\/(a.names.lookup y.1=some .cell/\((cellsFrom (s.heap.objs.size+1) a.names []).lookup y.1).isSome=true):=λ⟨n,v⟩ hy=>by
  rcases S.par n (ji hy).1 with q|q
  ·exact .inl q
  ·exact .inr ⟨q,PySem.W.cellsFrom_some _ _ _ (.inl q)⟩
 refine codeAny_call_function F.depth (M _ _ lk) rfl S.co S.gen rfl (PySem.W.codeRec_of M G) (hb _ _ _ _ ?_);refine wpAny_newFunctionEnv_cells S.kind i λenv he R x=>?_;subst he;refine⟨D.keeps x.toInCall.keep,codeAny_func ?_⟩;obtain⟨t,ht,hq⟩:=h A outer s H vs Q E (F.deeper _) m;have I:Inv (cxOf CX P w K mg base N qual a f c A outer s H E) [] (start N vs) H R:=xAnj S F.hd z hl r x;refine qM (ht [] R (start N vs) H _ I hq) (λZ s' j=>?_) λe s' j=>j
 have l:∀{σ':St} {H':Hp} {v:V} {u:Value},Inv (cxOf CX P w K mg base N qual a f c A outer s H E) [] σ' H' s'->RelV v u->Q v H'->CE outer P w H s Q u s' :=
  λ{σ' H' v u} J C q=>⟨v,H',J.os,J.bare,J.base,J.hok,C,q⟩
 cases Z with
 |ret u =>
  obtain⟨v,σ',H',J,C,q⟩:=j;exact l J C q
 |next =>
  obtain⟨σ',H',J,q⟩:=j;exact l (v:=V.non) (u:=Value.none) J rfl q
 |brk =>
  obtain⟨_,_,_,q⟩:=j;exact False.elim q
 |cont =>
  obtain⟨_,_,_,q⟩:=j;exact False.elim q
section
variable {X:Cx}{x:Str}{p pos:Pos}{e:Expr}{es:List Expr}{t:TA}{id T:String}{r:List V->Hp->VK->Prop}
def tCB(r:List V->Hp->VK->Prop)(t:TA):TE:=λσ H Q=>t σ H λvs H1=>r vs H1 Q
def xAqi(i:CallR X (.builtin id) r)(g:Gl X x)(j:X.mg x=none)(f:bootBuiltins x=some (.builtin id))(m:PA X (e::es) t)(hn:x≠"__name__":=by decide)(a:(x==("__debug__":Str))=false:=by decide)(c:starEach (e::es) X.env=(false,eval e X.env)::starEach es X.env:=by rfl)(b:(backTo pos (starEach es X.env)).any (·.1)=false:=by rfl):PE X (.Call (.Name x p) (e::es) [] pos) (tCB r t):=by
 refine⟨?_⟩;intro pins s σ H Q I h;refine wpAny_Call_Name_kw (xAdw I g j f ?_ hn a);exact PyProof.Rows.callWith_builtin1 (thn (m pos pins s σ H _ I h) λus l ⟨vs,H1,n,k,d⟩=>i pins l σ H1 vs us Q n k d) c b
def xAnk(i:CallR X (.type T) r)(g:Gl X x)(j:X.mg x=none)(f:bootBuiltins x=some (.type T))(m:PA X (e::es) t)(hn:x≠"__name__":=by decide)(a:(x==("__debug__":Str))=false:=by decide)(c:starEach (e::es) X.env=(false,eval e X.env)::starEach es X.env:=by rfl)(b:(backTo pos (starEach es X.env)).any (·.1)=false:=by rfl):PE X (.Call (.Name x p) (e::es) [] pos) (tCB r t):=by
 refine⟨?_⟩;intro pins s σ H Q I h;refine wpAny_Call_Name_kw (xAdw I g j f ?_ hn a);exact PyProof.Rows.callWith_type1 (thn (m pos pins s σ H _ I h) λus l ⟨vs,H1,n,k,d⟩=>i pins l σ H1 vs us Q n k d) c b
end
end L2
namespace HT
open PySem PyProof.Rows
def lexLt:List Int->List Int->Bool
 |[],[]=>false
 |[],_::_=>true
 |_::_,[]=>false
 |x::xs,y::ys=>if x=y then lexLt xs ys else decide (x<y)
def xAki(x y:Int)(xs ys:List Int):lexLt (x::xs) (y::ys)=if x=y then lexLt xs ys else decide (x<y):=rfl
def xAfi:lexLt [] []=false:=rfl
def xAep(y:Int)(ys:List Int):lexLt [] (y::ys)=true:=rfl
def xAeq(x:Int)(xs:List Int):lexLt (x::xs) []=false:=rfl
def xAqj(A:Around)(s:Shared)(a:Int)(t:Tok)(c:Int)(u:Tok):∃e,SeqAt.EqAt A s (.int a t) (.int c u) e/\(e=true↔a=c) :=
 ⟨(a==c),SeqAt.EqAt.int_int a t c u,by simp⟩
def xAqk(A:Around)(s:Shared)(a:Int)(t:Tok)(c:Int)(u:Tok)(prog:Program)(w:World)(E:Value->Shared->Prop)(Q:Value->Shared->Prop)(h:Q (.bool (decide (a<c))) s) :
  wpAny (model prog w) A (richCompare .Lt (.int a t) (.int c u)) Q E s :=
 (PyProof.Rows.lt_int h:wpAny (model prog w) A (compareOp .Lt (.int a t) (.int c u)) Q E s)
section
open PySem.SeqAt
open PySem.AutoSeq1 (wpAny_loadPart')
open PySem.MeetsSeq PySem.MeetsSeq2 PySem.MeetsSeq3
def xAfj(l b:Addr)(items f:Array Value)(n J:Nat)(K D:Option Addr)(P F:Array (Option Value))(ns ms:List Int)(hi:IntsAre items.toList ns)(H:IntsAre f.toList ms) :
  Meets (Builtin.«tuple.__lt__» ⟨[.ref l,.ref b],[]⟩)
   (λ_ R s=>s.heap.get? l=some { cls:=.type "tuple",dict:=K,data:=.seq items n,slots:=P }/\s.heap.get? b=some { cls:=.type "tuple",dict:=D,data:=.seq f J,slots:=F } ∧
    R (.ok (.ret (.bool (lexLt ns ms)))) s) :=
 .of_wp λprog w A R s h=>by
  obtain⟨B,g,d,tk,C⟩:=s;obtain⟨L,M,h⟩:=h;have S:=AutoSeq1.sub_tuple_tuple
  have U:items.size=ns.length:=by rw[←hi.length];simp
  have T:f.size=ms.length:=by rw[←H.length];simp
  wp_walk using wpAny_loadPart' L,wpAny_loadPart' M,wpAny_forIn_list _ (λrest b s'=>b.1=none/\s'=⟨B,g,d,tk,C⟩/\∃(vs ws:List Value) (j ms':List Int),rest=vs.zip ws ∧
   IntsAre vs j/\IntsAre ws ms'/\j.length+f.size=ms'.length+items.size/\R (.ok (.ret (.bool (lexLt j ms')))) ⟨B,g,d,tk,C⟩) _
  case turn =>
   rintro⟨y,x⟩ rest b s' ⟨r,rfl,vs,ws,j,ms',hz,p,k,i,o⟩
   cases p with
   |nil=>rw[List.zip_nil_left]at hz;cases hz
   |cons a t v =>
    cases k with
    |nil=>rw[List.zip_nil_right]at hz;cases hz
    |cons c u z =>
     rw[gf]at hz;injection hz with hyx hrest;injection hyx with hy hx;subst hy hx;rw[xAki]at o
     simp only[List.length_cons]at i
     obtain⟨e,N,m⟩:=xAqj A.in1 ⟨B,g,d,tk,C⟩ a t c u;refine qA (N prog w _ _ ?_)
     cases e with
     |true =>
      rw[qF (m.mp rfl)]at o
      wp_walk
      exact⟨O,O,_,_,_,_,hrest,v,z,by omega,o⟩
     |false =>
      rw[qB (λq=>absurd (m.mpr q) qk)]at o;have E:=xAqk A.in1 ⟨B,g,d,tk,C⟩ a t c u prog w
      wp_walk using E
      exact⟨_,O,by simpa using o⟩
  case fin =>
   rintro⟨V,Q⟩ s' ⟨r,rfl,vs,ws,j,ms',hz,p,k,i,o⟩
   simp only at r
   subst r
   have G:lexLt j ms'=decide (items.size<f.size):=by
    cases p with
    |nil =>
     cases k with
     |nil =>
      simp only[List.length_nil]at i
      rw[xAfi];exact(decide_eq_false (by omega)).symm
     |cons c u I =>
      simp only[List.length_nil,List.length_cons]at i
      rw[xAep];exact(qI (by omega)).symm
    |cons a t G =>
     cases k with
     |nil =>
      simp only[List.length_nil,List.length_cons]at i
      rw[xAeq];exact(decide_eq_false (by omega)).symm
     |cons c u I =>
      rw[gf]at hz;cases hz
   rw[G]at o
   wp_walk
   exact⟨_,O,by simpa[Builtin.Tuple.tupleCompareSizes] using o⟩
  case h =>
   exact⟨O,O,items.toList,f.toList,ns,ms,O,hi,H,by omega,h⟩
end
section
variable {prog:Program}{w:World}{A:Around}{E:Value->Shared->Prop}{s:Shared}
def lt_tupInts(r:IsTup s.heap l items)(u:IsTup s.heap b a)(hi:IntsAre items.toList ns)(t:IntsAre a.toList ms)(v:A.units<cLine)(h:Q (.bool (lexLt ns ms)) s):wpAny (model prog w) A (compareOp .Lt (.ref l) (.ref b)) Q E s:=by
 obtain⟨⟨y,q,data,z⟩,j,o,n,k⟩:=id r;obtain⟨⟨m,f,i,g⟩,e,c,p,d⟩:=id u
 simp only at o k c d
 subst o k c d
 exact richCompare_meets_room (op:=.Lt) ⟨_,j,O⟩ ⟨_,e,O⟩ PySem.F.slot_tuple_lt PySem.F.entry_tuple_lt (PySem.F.args_tuple_lt_2 _ _) (xAfj l b items a n p q f z g ns ms hi t)
  ⟨j,e,show Value.bool (lexLt ns ms)≠Value.notImplemented/\Q (.bool (lexLt ns ms)) s from⟨(λx=>nomatch x),h⟩⟩ v
def cat_tup(u:IsTup s.heap t vs.toArray)(v:IsTup s.heap b ws.toArray)(l:vs≠[])(h1:ws=[]->Q (.ref t) s)(h2:ws≠[]->Q (.ref s.heap.objs.size) { s with heap:=s.heap.push { cls:=.type "tuple",data:=.seq (vs++ws).toArray } })(hsz:vs.length+ws.length≤sizeLine):wpAny (model prog w) A (binaryOp .Add (.ref t) (.ref b)) Q E s:=by
 obtain⟨⟨cls,m,data,q⟩,i,o,n,r⟩:=id u;obtain⟨⟨k,f,j,g⟩,a,c,p,d⟩:=id v
 simp only at o r c d
 subst o r c d
 have e:vs.toArray++ws.toArray=(vs++ws).toArray:=by simp
 by_cases h:ws=[]
 ·exact concat_meets ⟨_,i,O⟩ ⟨_,a,O⟩ noFill_tuple_add seq_tuple_add PySem.F.slot_tuple_add PySem.F.entry_tuple_add (PySem.F.args_tuple_add_2 _ _)
   (tuple_addW1 t b vs.toArray ws.toArray n p m f q g (by simpa using l) (by simp[h])) ⟨i,a,h1 h⟩
 ·refine concat_meets ⟨_,i,O⟩ ⟨_,a,O⟩ noFill_tuple_add seq_tuple_add PySem.F.slot_tuple_add PySem.F.entry_tuple_add (PySem.F.args_tuple_add_2 _ _)
   (tuple_addW2 t b vs.toArray ws.toArray n p m f q g (by simpa using l) (by simpa using h) (by rw[List.size_toArray,List.size_toArray];exact hsz)) ⟨i,a,?_⟩
  rw[e];exact h2 h
def sIx(n d:Nat):Option Int->Nat
 |none=>d
 |some v=>if v<0 then(v+(n:Int)).toNat else min v.toNat n
def sIx_nat(n d k:Nat):sIx n d (some (k:Int))=min k n:=by
 show(if(k:Int)<0 then((k:Int)+(n:Int)).toNat else min (k:Int).toNat n)=min k n;rw[qB (by omega),Int.toNat_natCast]
def sIx_le(n d:Nat)(b:d≤n)(o:Option Int):sIx n d o≤n:=by
 cases o with
 |none=>exact b
 |some v =>
  show(if v<0 then(v+(n:Int)).toNat else min v.toNat n)≤n
  by_cases a:v<0
  ·rw[qF a];omega
  ·rw[qB a];exact yg _ _
def xApd(v:Int)(n d:Nat):(if v<0 then max (v+(n:Int)) 0 else min v (n:Int))=((sIx n d (some v):Nat):Int):=by
 show(if v<0 then max (v+(n:Int)) 0 else min v (n:Int))=(((if v<0 then(v+(n:Int)).toNat else min v.toNat n):Nat):Int)
 by_cases a:v<0
 ·simp only[if_pos a];omega
 ·simp only[if_neg a];omega
def xAkj(lo hi:Option Int)(n:Nat):Builtin.Slice.sliceAdjust lo hi 1 (n:Int)=(((sIx n 0 lo:Nat):Int),((sIx n n hi:Nat):Int)):=by
 have h1:¬((1:Int)<0):=by omega
 unfold Builtin.Slice.sliceAdjust
 simp only[h1,if_false]
 refine Prod.ext ?_ ?_
 ·cases lo with
  |none=>rfl
  |some v=>exact xApd v n 0
 ·cases hi with
  |none=>rfl
  |some v=>exact xApd v n n
def xAkk(i j:Nat):Builtin.Slice.slicePlaces (i:Int) (j:Int) 1=j - i:=by
 unfold Builtin.Slice.slicePlaces
 have h1:(1:Int)>0:=by omega
 simp only[h1,if_true,Int.ediv_one]
 split <;> omega
def xAfk(p:IsPart v o)(h:Q o s):wpAny (model prog w) A (Builtin.Slice.slicePartIndex v) Q E s:=by
 cases p with
 |none=>exact slicePart_none h
 |int i t=>exact slicePart_int h
def xAdl{e:Addr}{d c:Value}{lo hi:Option Int}{n:Nat}{Q:Int×Int×Nat->Shared->Prop}(f:s.heap.IsSliceOf e d c .none)(j:IsPart d lo)(i:IsPart c hi)(h:Q (((sIx n 0 lo:Nat):Int),1,sIx n n hi - sIx n 0 lo) s):wpAny (model prog w) A (Builtin.Slice.sliceApplied (.ref e) (pure (n:Int))) Q E s:=by
 obtain⟨k,b,g,a⟩:=id f;unfold Builtin.Slice.sliceApplied Builtin.Slice.sliceFields;refine qA (qA (wpAny_field b a (x:=d) rfl (qA (wpAny_field b a (x:=c) rfl (qA (wpAny_field b a (x:=.none) rfl (qE ?_)))))));refine qA (slicePart_none ?_);show wpAny _ _ (if((1:Int)==0)=true then _ else _) _ _ s;rw[qB (by decide)];refine qA (xAfk j (qA (xAfk i (qA (qE ?_)))));show wpAny _ _ (match Builtin.Slice.sliceAdjust lo hi 1 (n:Int) with|(lo,hi)=>pure (lo,(1:Int),Builtin.Slice.slicePlaces lo hi 1)) _ _ s;rw[xAkj lo hi n];show wpAny _ _ (pure (((sIx n 0 lo:Nat):Int),(1:Int),Builtin.Slice.slicePlaces ((sIx n 0 lo:Nat):Int) ((sIx n n hi:Nat):Int) 1)) _ _ s;rw[xAkk];exact qE h
def xAql(xs:Array Value)(i k:Nat):((List.range k).filterMap λ(m:Nat)=>xs[((i:Int)+(m:Int) * 1).toNat]?).toArray=((xs.toList.drop i).take k).toArray:=by
 have e:(λ(m:Nat)=>xs[((i:Int)+(m:Int) * 1).toNat]?)=λm=>xs[i+m]?:=by
  funext m
  have:((i:Int)+(m:Int) * 1).toNat=i+m:=by omega
  rw[this]
 rw[e];have:=pick_run xs i k;rw[List.filterMap_map]at this;have a:((λx=>xs[x]?)∘λx=>i+x)=λm=>xs[i+m]?:=rfl;rw[a]at this;rw[this]
def getItem_tuple_cut{t g:Addr}{items:Array Value}{k j:Value}{lo hi:Option Int}{Q:Value->Shared->Prop}(b:IsTup s.heap t items)(i:s.heap.IsSliceOf g k j .none)(r:IsPart k lo)(p:IsPart j hi)(l:¬(sIx items.size 0 lo=0/\sIx items.size items.size hi=items.size))(h:Q (.ref s.heap.objs.size) { s with heap:=s.heap.push { cls:=.type "tuple",data:=.seq ((items.toList.drop (sIx items.size 0 lo)).take (sIx items.size items.size hi - sIx items.size 0 lo)).toArray } })(hsz:items.size≤sizeLine):wpAny (model prog w) A (getItem (.ref t) (.ref g)) Q E s:=by
 have a:sizeOk (.seq ((items.toList.drop (sIx items.size 0 lo)).take (sIx items.size items.size hi - sIx items.size 0 lo)).toArray):=by
  show((items.toList.drop (sIx items.size 0 lo)).take (sIx items.size items.size hi - sIx items.size 0 lo)).toArray.size≤sizeLine;rw[qr,wn,wm,ze];omega
 have u:sIx items.size items.size hi≤items.size:=sIx_le _ _ (qb _) hi;obtain⟨n,e,d,o⟩:=id i;have f:s.TypeIs (.ref g) "slice":=⟨n,e,d⟩;unfold getItem
 try with_reducible refine qJ ?_
 first|refine qA (qE ?_)|skip
 refine qA (wpAny_sequenceKey b.typeIs (by decide) ?_)
 refine qA (wpAny_callSpecial?_slot (name:=Str.ofString "__getitem__") b.typeIs PyProof.Rows.slot_tuple_getitem
  (qN PyProof.Rows.slot_tuple_getitem b.typeIs entry_tuple_getitem ?_ (args_tuple_getitem _ _)))
 show wpAny _ _ (Builtin.Tuple.tupleItemsOf (.ref t) >>= _) _ _ s;refine qA (tupleItemsOf_ b ?_);refine qA (wpAny_typeOf f ?_);rw[qF (by decide)];refine qA (xAdl i r p ?_)
 have c:¬((((sIx items.size 0 lo:Nat):Int)==0&&(1:Int)==1&&(sIx items.size items.size hi - sIx items.size 0 lo)==items.size)=true):=by
  intro q;rw[zb,zb]at q;have v:((sIx items.size 0 lo:Nat):Int)=0:=eq_of_beq q.1.1;have x:sIx items.size items.size hi - sIx items.size 0 lo=items.size:=eq_of_beq q.2;exact l ⟨by omega,by omega⟩
 show wpAny _ _ (if(((sIx items.size 0 lo:Nat):Int)==0&&(1:Int)==1&&(sIx items.size items.size hi - sIx items.size 0 lo)==items.size)=true then _ else _) _ _ s;rw[qB c,xAql]
 first
  |exact qA (m:=Builtin.Tuple.tupleExact _) (wpAny_newObj_type (qE ⟨_,O,qE h⟩) a)
  |exact qA (m:=Builtin.Tuple.tupleExact _) (wpAny_newObj_type (qA (qE (qE ⟨_,O,qE h⟩))) a)
  |exact qA (qA (m:=Builtin.Tuple.tupleExact _) (wpAny_newObj_type (qE (qE ⟨_,O,qE h⟩)) a))
  |exact qA (qA (m:=Builtin.Tuple.tupleExact _) (wpAny_newObj_type (qE ⟨_,O,qE h⟩) a))
end
end HT
namespace L2
open PySem PySem.Spec PyProof.Rows
abbrev TO:=St->Hp->(Option Int->Hp->Prop)->Prop
def PO0(X:Cx)(e:Option Expr)(t:TO):Prop :=
 ∀(pins:List (Addr×Obj)) (s:Shared) (σ:St) (H:Hp) (Q:Option Int->Hp->Prop),Inv X pins σ H s->t σ H Q →
  wpAny (model X.prog X.w) X.A (evalPart e X.env) (λu s'=>∃o H',Inv X pins σ H' s'/\IsPart u o/\Q o H') X.xe s
structure PO(X:Cx)(e:Option Expr)(t:TO):Prop where run:PO0 X e t
instance POCf{X:Cx}{e:Option Expr}{t:TO}:CoeFun (PO X e t) λ_=>PO0 X e t:=⟨PO.run⟩
def tNoPart:TO:=λ_ H Q=>Q none H
inductive ItPart(Q:Option Int->Hp->Prop)(x:V)(H1:Hp):Prop
 |mk (i:_) (h0_:x=.int i) (h1_:Q (some i) H1):ItPart Q x H1
def tPart(t:TE):TO:=λσ H Q=>t σ H λx H1=>ItPart Q x H1
def xAfl:∀{us:List Value},Vals (ns.map V.int) us->IntsAre us ns:=by
 induction ns with
 |nil=>intro us r;rw[jj]at r;cases r;exact .nil
 |cons n ns a =>
  intro us r;rw[zg]at r
  cases r with
  |cons b c =>
   obtain⟨t,e⟩:=b;subst e;exact .cons n t (a c)
section
variable {X:Cx}{e:Expr}{te:TE}{lo hi:Option Expr}{tl th:TO}{pos p2:Pos}
def xApe:PO X none tNoPart:=by
 refine⟨?_⟩;intro pins s σ H Q I h;rw[evalPart_none];exact qE ⟨none,H,I,.none,h⟩
def xAby(h:PE X e te):PO X (some e) (tPart te):=by
 refine⟨?_⟩;intro pins s σ H Q I a;rw[evalPart_some];refine thn (h pins s σ H _ I a) λu f ⟨x,H1,d,c,b⟩=>?_;obtain⟨i,rfl,q⟩:=b;obtain⟨t,rfl⟩:=c;exact⟨some i,H1,d,.int i t,q⟩
def SlR(X:Cx)(r:V->Option Int->Option Int->Hp->VK->Prop):Prop :=
 ∀(pins:List (Addr×Obj)) (s:Shared) (σ:St) (H:Hp) (x:V) (v a b:Value) (lo hi:Option Int) (c:Addr) (Q:VK),Inv X pins σ H s->RelV x v->s.heap.IsSliceOf c a b .none->IsPart a lo->IsPart b hi->r x lo hi H Q →
  ∃T id,typeLookup (.type T) "__getitem__"=pure (some (.builtin id))/\s.TypeIs v T/\wpAny (model X.prog X.w) X.A (getItem v (.ref c)) (EP X pins σ Q) X.xe s
def tSl(r:V->Option Int->Option Int->Hp->VK->Prop)(te:TE)(tl th:TO):TE:=λσ H Q=>te σ H λx H1=>tl σ H1 λl H2=>th σ H2 λu a=>r x l u a Q
def xAdm(y:SlR X r)(o:PE X e te)(n:PO X lo tl)(z:PO X hi th):PE X (.Subscript e (.Slice lo hi none p2) pos) (tSl r te tl th):=by
 refine⟨?_⟩;intro pins s σ H Q I h;refine Subscript_ (thn (o pins s σ H _ I h) λv B ⟨x,H1,D,F,p⟩=>?_);refine wpAny_Slice (thn (n pins B σ H1 _ D p) λd s2 ⟨l,H2,k,J,C⟩=>thn (z pins s2 σ H2 _ k C) λc a ⟨u,f,G,m,g⟩=>?_);rw[evalPart_none];refine qE ?_;have E:Inv X pins σ f { a with heap:=a.heap.push { cls:=.type "slice",data:=.fields #[d,c,.none] } }:=G.kept (t':=a.toks) λb ob q=>qH _ q;obtain⟨T,id,i,t,j⟩:=y pins { a with heap:=a.heap.push { cls:=.type "slice",data:=.fields #[d,c,.none] } } σ f x v d c l u a.heap.objs.size Q E F (Heap.IsSliceOf.new ..) J m g;show wpAny (model X.prog X.w) X.A (subscriptTail e (.Slice lo hi none p2) v (.ref a.heap.objs.size)) (EP X pins σ Q) X.xe { a with heap:=a.heap.push { cls:=.type "slice",data:=.fields #[d,c,.none] } };exact tail_any (ops:=[.ref a.heap.objs.size,v]) t i j (by with_unfolding_all rfl)
def cutV(xs:List V)(lo hi:Option Int):List V:=(xs.drop (HT.sIx xs.length 0 lo)).take (HT.sIx xs.length xs.length hi - HT.sIx xs.length 0 lo)
def xAct(xs:List V)(lo hi:Option Int):(cutV xs lo hi).length≤xs.length:=by
 unfold cutV;rw[wn,wm];omega
inductive IrSlT(x:V)(lo:Option Int)(hi:Option Int)(H:Hp)(Q:VK):Prop
 |mk (a:_) (xs:_) (h0_:x=.ref a) (h1_:SqT H a xs) (h2_:¬(HT.sIx xs.length 0 lo=0/\HT.sIx xs.length xs.length hi=xs.length)) (h3_:∀p,H p=none->Q (.ref p) (upd H p (.tup (cutV xs lo hi)))):IrSlT x lo hi H Q
def rSlT:V->Option Int->Option Int->Hp->VK->Prop:=λx lo hi H Q=>IrSlT x lo hi H Q
def sl_tup:SlR X (rSlT):=by
 intro pins s σ H x v m l lo hi n Q I e g k j h;obtain⟨a,xs,rfl,i,f,q⟩:=h;cases e;obtain⟨its,r,d,hz⟩:=I.tuple i
 have c:its.toArray.size=xs.length:=by rw[qr];exact r.length.symm
 refine⟨"tuple",_,PyProof.Rows.slot_tuple_getitem.lookup,d.typeIs,?_⟩;refine HT.getItem_tuple_cut d g k j (by rw[c];exact f) ?_ (by rw[c];exact hz);rw[c];refine⟨.ref s.heap.objs.size,_,I.laid (t':=s.toks) (o:=.tup (cutV xs lo hi)) (λb ob q=>qH _ q) (qb _) ?_,O,q _ (I.hok.fresh (qb _))⟩;exact⟨qc (xAct xs lo hi) hz,_,(r.drop (HT.sIx xs.length 0 lo)).take (HT.sIx xs.length xs.length hi - HT.sIx xs.length 0 lo),IsTup.new _ _⟩
inductive IrLtT(x:V)(y:V)(H:Hp)(Q:VK):Prop
 |mk (a:_) (b:_) (ns:_) (ms:_) (h0_:x=.ref a) (h1_:y=.ref b) (h2_:SqT H a (ns.map V.int)) (h3_:SqT H b (ms.map V.int)) (h4_:Q (.bl (HT.lexLt ns ms)) H):IrLtT x y H Q
def rLtT:R2:=λx y H Q=>IrLtT x y H Q
def op_ltT(j:X.A.units<cLine):OpR X (compareOp .Lt) (rLtT):=by
 intro pins s σ H x y v u Q I d i h;obtain⟨a,b,ns,ms,rfl,rfl,m,n,q⟩:=h;cases d;cases i;obtain⟨its,k,f,_⟩:=I.tuple m;obtain⟨c,e,p2,_⟩:=I.tuple n;have l:IntsAre its.toArray.toList ns:=xAfl k;have g:IntsAre c.toArray.toList ms:=xAfl e;exact HT.lt_tupInts f p2 l g j ⟨.bl (HT.lexLt ns ms),H,I,O,q⟩
inductive IrCatT(x:V)(y:V)(H:Hp)(Q:VK):Prop
 |mk (a:_) (b:_) (xs:_) (ys:_) (h0_:x=.ref a) (h1_:y=.ref b) (h2_:SqT H a xs) (h3_:SqT H b ys) (h4_:xs≠[]) (h5_:xs.length+ys.length≤sizeLine) (h6_:(ys=[]->Q (.ref a) H)) (h7_:(ys≠[]->∀p,H p=none->Q (.ref p) (upd H p (.tup (xs++ys))))):IrCatT x y H Q
def rCatT:R2:=λx y H Q=>IrCatT x y H Q
def Vals.nil_iff(r:Vals xs us):us=[]↔xs=[]:=by
 cases r with
 |nil=>simp
 |cons _ _=>simp
def xAst:OpR X (binaryOp .Add) (rCatT):=by
 intro pins s σ H x y v u Q I f k h;obtain⟨a,b,xs,ys,rfl,rfl,g,n,l,hz,i,m⟩:=h;cases f;cases k;obtain⟨its,d,j,_⟩:=I.tuple g;obtain⟨e,c,p2,_⟩:=I.tuple n;refine HT.cat_tup j p2 (λz=>l (d.nil_iff.mp z)) (λz=>⟨.ref a,H,I,O,i (c.nil_iff.mp z)⟩) (λz=>?_) (by rw[←d.length,←c.length];exact hz);refine⟨.ref s.heap.objs.size,_,I.laid (t':=s.toks) (o:=.tup (xs++ys)) (λb ob q=>qH _ q) (qb _) ?_,O,m (λw=>z (c.nil_iff.mpr w)) _ (I.hok.fresh (qb _))⟩;exact⟨by rw[qe];exact hz,_,d.append c,IsTup.new _ _⟩
end
def ixN(n:Nat)(i:Int):Option Nat:=if 0≤i then(if i<n then some i.toNat else none) else if -(n:Int)≤i then some (i+n).toNat else none
def atI{α:Type}(xs:List α)(i:Int):Option α:=(ixN xs.length i).bind λj=>xs[j]?
def xApf(h:ixN n i=some j):seqIndex? i n=some j/\j<n/\-(n:Int)≤i/\i<n:=by
 unfold ixN at h
 by_cases h0:0≤i
 ·rw[qF h0]at h
  by_cases h1:i<n
  ·rw[qF h1]at h
   have e:i.toNat=j:=qK h;exact⟨by rw[seqIndex_of h0 h1,e],by omega,by omega,h1⟩
  ·rw[qB h1]at h;cases h
 ·rw[qB h0]at h
  by_cases h1:-(n:Int)≤i
  ·rw[qF h1]at h
   have e:(i+n).toNat=j:=qK h;exact⟨by rw[seqIndex_neg (by omega) h1,e],by omega,h1,by omega⟩
  ·rw[qB h1]at h;cases h
def xAkl{α:Type}{xs:List α}{i:Int}{v:α}(h:atI xs i=some v):∃j,seqIndex? i xs.length=some j/\xs[j]?=some v/\j<xs.length/\-(xs.length:Int)≤i/\i<xs.length:=by
 unfold atI at h
 cases e:ixN xs.length i with
 |none=>rw[e]at h;cases h
 |some j =>
  rw[e]at h;obtain⟨h1,h2,a,b⟩:=xApf e;exact⟨j,h1,h,h2,a,b⟩
def xAkm{α:Type}{xs:List α}{j:Nat}{v:α}(h:xs[j]?=some v):atI xs (j:Int)=some v:=by
 have a:j<xs.length:=(qm.mp h).1
 have e:ixN xs.length (j:Int)=some j:=by
  unfold ixN;rw[qF (by omega),qF (by omega)];simp
 unfold atI;rw[e];exact h
def PlainIx(b:Expr):Prop:=∀o i,subscripted b false o i=operate [o,i] (getItem o i)
def IxR(X:Cx)(r:R2):Prop :=
 ∀(value a:Expr) (pins:List (Addr×Obj)) (s:Shared) (σ:St) (H:Hp) (x y:V) (v u:Value) (Q:VK),Inv X pins σ H s->RelV x v->RelV y u->r x y H Q →
  subscripted a false v u=operate [v,u] (getItem v u)->wpAny (model X.prog X.w) X.A (subscriptTail value a v u) (EP X pins σ Q) X.xe s
def MtR(X:Cx)(id:String)(r:V->List V->Hp->VK->Prop):Prop :=
 ∀(pins:List (Addr×Obj)) (s:Shared) (σ:St) (H:Hp) (x:V) (xs:List V) (v:Value) (us:List Value) (Q:VK),Inv X pins σ H s->RelV x v->Vals xs us->r x xs H Q →
  wpAny (model X.prog X.w) X.A (call (.builtin id) (v::us)) (EP X pins σ Q) X.xe s
section
variable {X:Cx}{a b:Expr}{ta tb:TE}{pos:Pos}
def pe_ix(d:IxR X r)(i:PE X a ta)(j:PE X b tb)(f:PlainIx b):PE X (.Subscript a b pos) (tOp r ta tb):=by
 refine⟨?_⟩;intro pins s σ H Q I h;exact Subscript_ (binT i j I h λv u s2 x y H2 g c e q=>d a b pins s2 σ H2 x y v u Q g c e q (f _ _))
inductive IrIxL(x:V)(y:V)(H:Hp)(Q:VK):Prop
 |mk (p:_) (xs:_) (i:_) (v:_) (h0_:x=.ref p) (h1_:y=.int i) (h2_:SqL H p xs) (h3_:atI xs i=some v) (h4_:Q v H):IrIxL x y H Q
def rIxL:R2:=λx y H Q=>IrIxL x y H Q
inductive IrIxT(x:V)(y:V)(H:Hp)(Q:VK):Prop
 |mk (p:_) (xs:_) (i:_) (v:_) (h0_:x=.ref p) (h1_:y=.int i) (h2_:SqT H p xs) (h3_:atI xs i=some v) (h4_:Q v H):IrIxT x y H Q
def rIxT:R2:=λx y H Q=>IrIxT x y H Q
inductive IrIxS(x:V)(y:V)(H:Hp)(Q:VK):Prop
 |mk (z:_) (i:_) (c:_) (h0_:x=.str z) (h1_:y=.int i) (h2_:z.length≤sizeLine) (h3_:atI z.cps.toList i=some c) (h4_:Q (.str ⟨#[c]⟩) H):IrIxS x y H Q
def rIxS:R2:=λx y H Q=>IrIxS x y H Q
def xAkn:IxR X (rIxL):=by
 intro value b pins s σ H x y v u Q I l m h f;obtain⟨p,xs,i,z,rfl,rfl,B,k,q⟩:=h;cases l;obtain⟨t,rfl⟩:=m;obtain⟨its,r,e,hz⟩:=I.list B;obtain⟨j,h1,h2,C,o,A⟩:=xAkl k;obtain⟨w,g,c⟩:=r.get h2;have n:=r.length;have hn:=xAjf;have a:EP X pins σ Q w s:=⟨z,H,I,c,q⟩
 by_cases h0:0≤i
 ·have d:i.toNat=j:=by
   rw[seqIndex_of h0 A]at h1;exact qK h1
  exact item_listR e.isList h0 (by omega) (by rw[d];simpa using g) a f
 ·have d:(i+(its.toArray.size:Int)).toNat=j:=by
   rw[seqIndex_neg (by omega) o]at h1;rw[qr,←n];exact qK h1
  exact subscriptTail_builtinR (x:=w) e.isList.typeIs slot_list_getitem.lookup
   (wpAny_getItem_list_neg (Q:=λr s'=>r=w/\EP X pins σ Q r s') e.isList (by omega) (by rw[List.size_toArray] <;> omega) (by omega) (by rw[d];simpa using g) ⟨O,a⟩) f
def xAsu:IxR X (rIxT):=by
 intro value a pins s σ H x y v u Q I f g h k;obtain⟨p,xs,i,z,rfl,rfl,n,e,q⟩:=h;cases f;obtain⟨t,rfl⟩:=g;obtain⟨its,r,d,hz⟩:=I.tuple n;obtain⟨j,h1,h2,o,A,B⟩:=xAkl e;obtain⟨w,m,b⟩:=r.get h2;have l:=r.length;have hn:=xAjf;have c:EP X pins σ Q w s:=⟨z,H,I,b,q⟩
 exact subscriptTail_builtinR (x:=w) d.typeIs slot_tuple_getitem.lookup
  (getItem_tuple (j:=j) (Q:=λr s'=>r=w/\EP X pins σ Q r s') d (by omega) (by omega) (by rw[List.size_toArray,←l];exact h1) (by simpa using m) ⟨O,c⟩) k
def ix_str:IxR X rIxS:=by
 intro value a pins s σ H x y v u Q I e g h k;obtain⟨z,i,c,rfl,rfl,hz,b,q⟩:=h;obtain⟨t,rfl⟩:=e;obtain⟨t',rfl⟩:=g;obtain⟨j,h1,h2,o,n,m⟩:=xAkl b
 have l:z.cps.toList.length=z.length:=by simp[Str.length]
 rw[l]at h1 n m;have hn:=xAjf
 exact tail_any (typeIs_str s z t) slot_str_getitem.lookup (getItem_str (c:=c) (by
  have d:decide (i < -(2 ^ 63:Int))=false:=decide_eq_false (by omega);have f:decide (i≥2 ^ 63)=false:=decide_eq_false (by omega)
  rw[d,f,Bool.or_false]) (by rw[h1];simpa using h2) ⟨.str ⟨#[c]⟩,H,I.tok _,⟨_,O⟩,q⟩) k
def xAko(its:List Value)(n j:Nat)(u:Value):Obj.mapSeq (·.setIfInBounds j u) { cls:=.type "list",data:=.seq its.toArray n }={ cls:=.type "list",data:=.seq (its.set j u).toArray n }:=by
 simp[Obj.mapSeq]
def Inv.lst{pins:List (Addr×Obj)}{σ:St}{H:Hp}{s:Shared}{p:Addr}{xs:List V}(I:Inv X pins σ H s)(h:H p=some (.lst xs)) :
  ∃(its:List Value) (n:Nat),Vals xs its/\s.heap.get? p=some { cls:=.type "list",data:=.seq its.toArray n }/\xs.length≤sizeLine:=by
 obtain⟨z,its,n,r,e⟩:=I.hok p _ h;exact⟨its,n,r,e,z⟩
def Inv.lstUpd{pins:List (Addr×Obj)}{σ:St}{H:Hp}{s:Shared}{p:Addr}{xs ys:List V}{its its':List Value}{n a:Nat}{f:Obj->Obj}(I:Inv X pins σ H s)(h:H p=some (.lst xs))(g:s.heap.get? p=some { cls:=.type "list",data:=.seq its.toArray n })(c:f { cls:=.type "list",data:=.seq its.toArray n }={ cls:=.type "list",data:=.seq its'.toArray a })(r:Vals ys its')(hz:ys.length≤sizeLine)(t:Nat) :
  Inv X pins σ (upd H p (.lst ys)) { s with heap:=s.heap.update p f,toks:=t }:=by
 have e:(s.heap.update p f).get? p=some { cls:=.type "list",data:=.seq its'.toArray a }:=by
  rw[Heap.get?_update_self f g (by rw[c] <;> rfl),c]
 refine I.write (x:=p) (e:=p) (by rw[h];trivial) (.inl rfl) (λb u d q=>(Heap.get?_update_other _ _ (Ne.symm d)).trans q) ⟨_,e⟩ ?_;exact⟨hz,its',a,r,e⟩
inductive IrSetL(o:V)(i:V)(v:V)(H:Hp)(Q:(Hp->Prop)):Prop
 |mk (p:_) (xs:_) (k:_) (j:_) (h0_:o=.ref p) (h1_:i=.int k) (h2_:H p=some (.lst xs)) (h3_:ixN xs.length k=some j) (h4_:Q (upd H p (.lst (xs.set j v)))):IrSetL o i v H Q
def rSetL:V->V->V->Hp->(Hp->Prop)->Prop:=λo i v H Q=>IrSetL o i v H Q
def xAkp:PSet X rSetL:=by
 intro pins s σ H o i v y z u Q I l m x h;obtain⟨p,xs,k,j,rfl,rfl,e,w,q⟩:=h;cases l;obtain⟨t,rfl⟩:=m;obtain⟨its,n,r,b,hz⟩:=I.lst e;obtain⟨h1,h2,f,d⟩:=xApf w;have c:=r.length;have hn:=xAjf
 have g:Inv X pins σ (upd H p (.lst (xs.set j v))) { s with heap:=s.heap.update p (Obj.mapSeq (·.setIfInBounds j u)) } :=
  I.lstUpd e b (xAko its n j u) (r.set x j) (by rw[List.length_set];exact hz) s.toks
 by_cases h0:0≤k
 ·have a:k.toNat=j:=by
   rw[seqIndex_of h0 d]at h1;exact qK h1
  exact PySem.W.ki_setAt b h0 (by omega) (by rw[qr,←c];exact d) (by rw[a];exact⟨_,g,q⟩)
 ·have a:(k+(its.toArray.size:Int)).toNat=j:=by
   rw[seqIndex_neg (by omega) f]at h1;rw[qr,←c];exact qK h1
  exact PySem.W.ki_setBack b (by omega) (by rw[qr,←c];exact f) (by omega) (by rw[a];exact⟨_,g,q⟩)
def xAgk(lo hi:Option Int)(n:Nat):(sliceBounds lo hi none n).1=((HT.sIx n 0 lo:Nat):Int)/\(sliceBounds lo hi none n).2.1=((HT.sIx n n hi:Nat):Int)/\(sliceBounds lo hi none n).2.2=1:=by
 refine⟨?_,?_,O⟩
 ·cases lo with
  |none=>simp[sliceBounds,HT.sIx]
  |some i =>
   simp only[sliceBounds,HT.sIx,Option.getD_none,show(1:Int)>0 by decide,if_true]
   by_cases h:i<0
   ·simp only[h,if_true] <;> omega
   ·simp only[h,if_false] <;> omega
 ·cases hi with
  |none=>simp[sliceBounds,HT.sIx]
  |some i =>
   simp only[sliceBounds,HT.sIx,Option.getD_none,show(1:Int)>0 by decide,if_true]
   by_cases h:i<0
   ·simp only[h,if_true] <;> omega
   ·simp only[h,if_false] <;> omega
def xAfm(its:List Value)(lo hi:Option Int):slicePick its.toArray lo hi none=((its.drop (HT.sIx its.length 0 lo)).take (HT.sIx its.length its.length hi - HT.sIx its.length 0 lo)).toArray:=by
 obtain⟨h1,h2,a⟩:=xAgk lo hi its.toArray.size;unfold slicePick;rw[h1,h2,a]
 simp only[sliceRange_one,pick_run,List.size_toArray] <;> rfl
inductive IrSlL(x:V)(lo:Option Int)(hi:Option Int)(H:Hp)(Q:VK):Prop
 |mk (a:_) (xs:_) (h0_:x=.ref a) (h1_:SqL H a xs) (h2_:∀p,H p=none->Q (.ref p) (upd H p (.lst (cutV xs lo hi)))):IrSlL x lo hi H Q
def rSlL:V->Option Int->Option Int->Hp->VK->Prop:=λx lo hi H Q=>IrSlL x lo hi H Q
def xAsv:SlR X (rSlL):=by
 intro pins s σ H x v l k lo hi m Q I e f j i h;obtain⟨a,xs,rfl,g,q⟩:=h;cases e;obtain⟨its,r,d,hz⟩:=I.list g;have c:=r.length;refine⟨"list",_,slot_list_getitem.lookup,d.isList.typeIs,?_⟩;refine wpAny_getItem_list_slice d.isList f j i .none (by simp) ?_ (by rw[List.size_toArray] <;> omega);rw[xAfm,←c];refine⟨.ref s.heap.objs.size,_,I.laid (t':=s.toks) (o:=.lst (cutV xs lo hi)) (λb ob q=>qH _ q) (qb _) ?_,O,q _ (I.hok.fresh (qb _))⟩;exact⟨qc (xAct xs lo hi) hz,_,0,(r.drop (HT.sIx xs.length 0 lo)).take (HT.sIx xs.length xs.length hi - HT.sIx xs.length 0 lo),qL _ rfl⟩
inductive IRcall_len_seq(xs:List V)(H:Hp)(Q:VK):Prop
 |mk (p:_) (ys:_) (h0_:xs=[.ref p]) (h1_:(SqL H p ys\/SqT H p ys)) (h2_:Q (.int ys.length) H):IRcall_len_seq xs H Q
def Rcall_len_seq:List V->Hp->VK->Prop:=λxs H Q=>IRcall_len_seq xs H Q
def xAag:CallR X (.builtin "len") (Rcall_len_seq):=by
 intro pins s σ H xs us Q I r h;obtain⟨p,ys,rfl,b,q⟩:=h;obtain⟨u,rfl,e⟩:=vals1 r;cases e;have hn:=xAjf;rcases b with b|b
 ·obtain⟨its,d,c,hz⟩:=I.list b
  have a:=d.length;exact Calls.call_len_list c.isList (by simp only[List.size_toArray] <;> omega) ⟨.int ys.length,H,I.tok _,⟨s.toks+1,by rw[List.size_toArray,a]⟩,q⟩
 ·obtain⟨its,d,c,hz⟩:=I.tuple b
  have a:=d.length;exact len_tuple c (by simp only[List.size_toArray] <;> omega) ⟨.int ys.length,H,I.tok _,⟨s.toks+1,by rw[List.size_toArray,a]⟩,q⟩
inductive IRcall_list_of(xs:List V)(H:Hp)(Q:VK):Prop
 |mk (p:_) (ys:_) (h0_:xs=[.ref p]) (h1_:(SqL H p ys\/SqT H p ys)) (h2_:∀l,H l=none->Q (.ref l) (upd H l (.lst ys))):IRcall_list_of xs H Q
def Rcall_list_of:List V->Hp->VK->Prop:=λxs H Q=>IRcall_list_of xs H Q
def xAgl:CallR X (.type "list") (Rcall_list_of):=by
 intro pins s σ H xs us Q I r h;obtain⟨p,ys,rfl,f,q⟩:=h;obtain⟨u,rfl,m⟩:=vals1 r;cases m
 have d:∀(its:List Value),Vals ys its->ys.length≤sizeLine->∀(h':Heap) (a:Nat),(∀b o',s.heap.get? b=some o'->h'.get? b=some o') →
   h'.get? s.heap.objs.size=some { cls:=.type "list",dict:=none,data:=.seq its.toArray a,slots:=#[] }->EP X pins σ Q (.ref s.heap.objs.size) { s with heap:=h' }:=λits c hz h' a kp e =>
  ⟨.ref s.heap.objs.size,_,I.laid (t':=s.toks) kp (qb _) (show ObjOk X.prog X.w _ h' _ (.lst ys) from⟨hz,its,a,c,e⟩),O,q _ (I.hok.fresh (qb _))⟩
 rcases f with f|f
 ·obtain⟨its,c,k,hz⟩:=I.list f
  have g:=c.length;obtain⟨o,j,i,n,l⟩:=k.isList;exact call_list_seq p (.inl rfl) j i l (λh' a kp e=>d its c hz h' a kp e) (by simp only[List.size_toArray] <;> omega)
 ·obtain⟨its,c,k,hz⟩:=I.tuple f
  have g:=c.length;obtain⟨o,j,i,n,l⟩:=k;exact call_list_seq p (.inr rfl) j i l (λh' a kp e=>d its c hz h' a kp e) (by simp only[List.size_toArray] <;> omega)
def tyV(T:String)(x:V)(H:Hp):Prop:=match x with
 |.str _=>T = "str"
 |.int _=>T = "int"
 |.ref p=>(T = "list" /\ ∃xs,SqL H p xs)\/(T = "tuple" /\ False) ∨
   (T = "dict" /\ ((∃kvs,H p=some (.dK kvs))\/(∃kvs,H p=some (.dT kvs))\/∃kvs,H p=some (.dG kvs)))\/(T = "set" /\ ∃S n,H p=some (.set S n))
 |_=>False
def xAsw{pins:List (Addr×Obj)}{σ:St}{H:Hp}{s:Shared}{T:String}{x:V}{v:Value}(I:Inv X pins σ H s)(r:RelV x v)(ty:tyV T x H) :
  s.TypeIs v T/\∀a,v=.ref a->∃ob,s.heap.get? a=some ob/\ob.dict=none:=by
 cases x with
 |str z =>
  obtain⟨t,rfl⟩:=r;cases(show T = "str" from ty);exact⟨typeIs_str s z t,λ_ e=>nomatch e⟩
 |int i =>
  obtain⟨t,rfl⟩:=r;cases(show T = "int" from ty);exact⟨typeIs_int s i t,λ_ e=>nomatch e⟩
 |ref p =>
  cases r;rcases ty with⟨rfl,xs,g⟩|⟨rfl,j⟩|⟨rfl,b⟩|⟨rfl,S,n,b⟩
  ·obtain⟨its,_,f,_⟩:=I.list g
   refine⟨f.isList.typeIs,λa e=>?_⟩;cases e;obtain⟨o,n,e,c,h,_⟩:=f;exact⟨o,e,h⟩
  ·exact j.elim
  ·have z:∃o,s.heap.get? p=some o/\o.ExactDict:=by
    rcases b with⟨kvs,b⟩|⟨kvs,b⟩|⟨kvs,b⟩
    ·obtain⟨_,_,_,_,o,_,_,e,ex,_⟩:=I.hok p _ b
     exact⟨o,e,ex⟩
    ·obtain⟨_,_,_,_,o,_,_,e,ex,_⟩:=I.hok p _ b
     exact⟨o,e,ex⟩
    ·obtain⟨_,_,_,_,o,_,_,e,ex,_⟩:=I.hok p _ b
     exact⟨o,e,ex⟩
   obtain⟨o,e,ex⟩:=z;refine⟨⟨o,e,ex.1⟩,λa d=>?_⟩;cases d;exact⟨o,e,ex.2.1⟩
  ·obtain⟨o,_,_,_,e,ex,_⟩:=I.hok p _ b
   refine⟨⟨o,e,ex.1⟩,λa d=>?_⟩;cases d;exact⟨o,e,ex.2.1⟩
 |_=>exact False.elim ty
def tBM0(T:String)(r:V->List V->Hp->VK->Prop)(to:TE):TE:=λσ H Q=>to σ H λx H1=>tyV T x H1/\r x [] H1 Q
def tBM(T:String)(r:V->List V->Hp->VK->Prop)(to:TE)(t:TA):TE:=λσ H Q=>to σ H λx H1=>tyV T x H1/\t σ H1 λxs H2=>r x xs H2 Q
variable {o e:Expr}{es:List Expr}{to:TE}{t:TA}{name:Str}{apos cpos:Pos}{T id:String}{r:V->List V->Hp->VK->Prop}
def xAsx(f:PlainAttrs T)(slot:Slot T name id)(c:typeOf (.builtin id)=pure (.type "method_descriptor"))(k:MtR X id r)(i:PE X o to)(b:attributeBase o name X.env (eval o X.env)=eval o X.env:=by rfl)(a:(apos.endLine==cpos.line)=true:=by rfl):PE X (.Call (.Attribute o name apos) [] [] cpos) (tBM0 T r to):=by
 refine⟨?_⟩;intro pins s σ H Q I h;refine wpAny_Call_method0_late b a (thn (i pins s σ H _ I h) λv j ⟨x,H1,e,d,ty,g⟩=>?_);obtain⟨h1,h2⟩:=xAsw e d ty;exact⟨T,id,f,slot,c,h1,h2,Calls.callWith_builtin rfl (PySem.evalArgs_none (k pins j σ H1 x [] v [] Q e d .nil g))⟩
def pe_bm(k:PlainAttrs T)(slot:Slot T name id)(f:typeOf (.builtin id)=pure (.type "method_descriptor"))(y:MtR X id r)(u:PE X o to)(l:PA X (e::es) t)(c:attributeBase o name X.env (eval o X.env)=eval o X.env:=by rfl)(d:((backTo cpos (starEach (e::es) X.env)).all (λx=>!x.1)&&(backToKw cpos (keywordEach [] X.env)).all (λx=>x.1.isSome)
   && decide ((e::es).length+([]:List Keyword).length+(if([]:List Keyword).isEmpty then 0 else 1)<30))=true:=by rfl)(b:(apos.endLine==cpos.line)=true:=by rfl)(p:starEach (e::es) X.env=(false,eval e X.env)::starEach es X.env:=by rfl)(a:(backTo cpos (starEach es X.env)).any (·.1)=false:=by rfl) :
  PE X (.Call (.Attribute o name apos) (e::es) [] cpos) (tBM T r to t):=by
 refine⟨?_⟩;intro pins s σ H Q I h;refine wpAny_Call_method_late c d b rfl (thn (u pins s σ H _ I h) λv w ⟨x,H1,j,i,ty,n⟩=>?_);obtain⟨h1,h2⟩:=xAsw j i ty;refine⟨T,id,k,slot,f,h1,h2,?_⟩;have g:=l cpos pins w σ H1 _ j n;rw[p]at g ⊢;refine Calls.callWith_builtin (by show(false||(backTo cpos (starEach es X.env)).any (·.1))=false;rw[a] <;> rfl) (Calls.evalArgs_plain ?_);exact thn g λus s2 ⟨vs,H2,q,m,z⟩=>y pins s2 σ H2 x vs v us Q q i m z
end
def MtM(X:Cx)(id:String)(r:V->List V->Hp->VK->Prop):Prop :=
 ∀(pins:List (Addr×Obj)) (s:Shared) (σ:St) (H:Hp) (x:V) (xs:List V) (v:Value) (us:List Value) (Q:VK),Inv X pins σ H s->RelV x v->Vals xs us->r x xs H Q →
  wpAny (model X.prog X.w) X.A (call (.builtin id) (v::us)) (EP X pins σ Q) X.xe s
def Vals.tl(h:Vals (x::xs) us):∃u vs,us=u::vs/\RelV x u/\Vals xs vs:=by
 cases h with
 |cons r t=>exact⟨_,_,O,r,t⟩
def Vals.one:∀{x:V} {us:List Value},Vals [x] us->∃u,us=[u]/\RelV x u:=by
 intro x us h
 cases h with
 |cons r t=>cases t;exact⟨_,O,r⟩
def Vals.two:∀{x y:V} {us:List Value},Vals [x,y] us->∃u v,us=[u,v]/\RelV x u/\RelV y v:=by
 intro x y us h;obtain⟨u,vs,rfl,r,t⟩:=Vals.tl h;obtain⟨v,rfl,q⟩:=Vals.one t;exact⟨u,v,O,r,q⟩
def Vals.zero:∀{us:List Value},Vals [] us->us=[]
 |_,.nil=>rfl
def Vals.dropLast(h:Vals xs us):Vals xs.dropLast us.dropLast:=by
 induction h with
 |nil=>exact .nil
 |cons r t a =>
  cases t with
  |nil=>exact .nil
  |cons q t'=>exact .cons r a
def Vals.rep(h:Vals xs us):∀k:Nat,Vals (List.replicate k xs).flatten (List.replicate k us).flatten
 | 0=>.nil
 |k+1=>by
  rw[vi,vi,yh,yh];exact Vals.append h (Vals.rep h k)
def xAkq{α:Type}(l:List α):l.eraseIdx (l.length - 1)=l.dropLast:=by
 induction l with
 |nil=>rfl
 |cons a r c =>
  cases r with
  |nil=>rfl
  |cons b r =>
   have e:(a::b::r).length - 1=((b::r).length - 1)+1:=by
    have h1:(a::b::r).length=r.length+2:=rfl;have h2:(b::r).length=r.length+1:=rfl;omega
   rw[e,List.eraseIdx_cons_succ,c]
   all_goals rfl
def xAht(its:List Value):∀(k:Nat) (acc:List Value),
  List.foldl (λa c=>a++c) acc.toArray (List.replicate k its.toArray)=(acc++(List.replicate k its).flatten).toArray
 | 0,acc=>by simp
 |k+1,acc=>by
  have e:acc.toArray++its.toArray=(acc++its).toArray:=by simp
  have b:(acc++its)++(List.replicate k its).flatten=acc++(List.replicate (k+1) its).flatten:=by
   rw[vi,yh,vj]
  rw[←b,←xAht its k (acc++its),←e,vi,List.foldl_cons]
section
variable {X:Cx}{pins:List (Addr×Obj)}{σ:St}{H:Hp}{s:Shared}{l b:Addr}{xs ys zs:List V}
def Inv.lset{its its':List Value}{n:Nat}{f:Array Value->Array Value}{t':Nat}(I:Inv X pins σ H s)(d:H l=some (.lst xs))(e:s.heap.get? l=some { cls:=.type "list",data:=.seq its.toArray n })(g:f its.toArray=its'.toArray)(a:Vals ys its')(hz:ys.length≤sizeLine) :
  Inv X pins σ (upd H l (.lst ys)) { s with heap:=s.heap.update l (Obj.mapSeq f),toks:=t' }:=by
 have q:=PySem.IsL.update e f;rw[g]at q;refine I.write (x:=l) (e:=l) (by rw[d];exact trivial) (.inl rfl) (λh u c b=>(Heap.get?_update_other s.heap (Obj.mapSeq f) (Ne.symm c)).trans b) ⟨_,q⟩ ?_;exact⟨hz,its',_,a,q⟩
def Inv.lnew(I:Inv X pins σ H s)(a:Vals ys its)(hz:ys.length≤sizeLine) :
  Inv X pins σ (upd H s.heap.objs.size (.lst ys)) { s with heap:=s.heap.push { cls:=.type "list",data:=.seq its.toArray },toks:=t' } :=
 I.laid (λ_ _ q=>qH _ q) (qb _) ⟨hz,its,0,a,qL _ rfl⟩
def Inv.fresh(I:Inv X pins σ H s):H s.heap.objs.size=none:=I.hok.fresh (qb _)
def Inv.lstM(I:Inv X pins σ H s)(a:H l=some (.lst xs)):xs.length≤sizeLine/\∃(its:List Value) (n:Nat),Vals xs its/\xs.length=its.length/\s.heap.get? l=some { cls:=.type "list",data:=.seq its.toArray n }:=by
 obtain⟨z,its,n,r,e⟩:=I.hok l _ a;exact⟨z,its,n,r,r.length,e⟩
def xAkr(h:n≤sizeLine):Builtin.List.listTooLong n=false:=by
 unfold Builtin.List.listTooLong;exact decide_eq_false (by omega)
end
section
variable {X:Cx}
inductive IrAppend(x:V)(vs:List V)(H:Hp)(Q:VK):Prop
 |mk (l:_) (xs:_) (y:_) (h0_:x=.ref l) (h1_:vs=[y]) (h2_:H l=some (.lst xs)) (h3_:xs.length<sizeLine) (h4_:Q .non (upd H l (.lst (xs++[y])))):IrAppend x vs H Q
def rAppend:V->List V->Hp->VK->Prop:=λx vs H Q=>IrAppend x vs H Q
def xAnl:MtM X "list.append" rAppend:=by
 intro pins s σ H x vs v us Q I b d h;obtain⟨l,xs,y,rfl,rfl,a,hz,q⟩:=h;cases b;obtain⟨u,rfl,c⟩:=d.one;obtain⟨z,its,n,r,f,e⟩:=I.lstM a;refine call_meets F.slot_list_append ⟨_,e,O⟩ F.entry_list_append (F.args_list_append_2 _ _) (PySem.list_append l its.toArray n u (by rw[qr];omega)) ⟨e,?_⟩;refine⟨.non,_,I.lset (its':=its++[u]) a e (by simp) (r.append (.cons c .nil)) ?_,O,q⟩;rw[qe,qo];omega
inductive IrExtend(x:V)(vs:List V)(H:Hp)(Q:VK):Prop
 |mk (l:_) (b:_) (xs:_) (zs:_) (h0_:x=.ref l) (h1_:vs=[.ref b]) (h2_:H l=some (.lst xs)) (h3_:H b=some (.lst zs)) (h4_:xs.length+zs.length≤sizeLine) (h5_:Q .non (upd H l (.lst (xs++zs)))):IrExtend x vs H Q
def rExtend:V->List V->Hp->VK->Prop:=λx vs H Q=>IrExtend x vs H Q
def xAhu:MtM X "list.extend" rExtend:=by
 intro pins s σ H x vs v us Q I g p h;obtain⟨l,b,xs,zs,rfl,rfl,d,m,hz,q⟩:=h;cases g;obtain⟨u,rfl,k⟩:=p.one;cases k;obtain⟨z,its,n,r,t,e⟩:=I.lstM d;obtain⟨w,a,j,o,f,i⟩:=I.lstM m
 have hsz:its.toArray.size+a.toArray.size≤sizeLine:=by rw[qr,qr];omega
 have c:¬(!its.toArray.isEmpty&&Builtin.List.listTooLong (its.toArray.size+a.toArray.size))=true:=by
  rw[xAkr hsz,jk];exact qk
 refine call_meets F.slot_list_extend ⟨_,e,O⟩ F.entry_list_extend (F.args_list_extend_2 _ _)
  (AutoSeq1.list_extend_list_list_0 l its.toArray n b a.toArray j c (by rw[qr];omega) (by omega)) ⟨e,i,?_⟩
 refine⟨.non,_,I.lset (its':=its++a) d e (by simp) (r.append o) ?_,O,q⟩;rw[qe];omega
inductive IrPop(x:V)(vs:List V)(H:Hp)(Q:VK):Prop
 |mk (l:_) (xs:_) (y:_) (h0_:x=.ref l) (h1_:vs=[]) (h2_:H l=some (.lst xs)) (h3_:xs[xs.length - 1]?=some y) (h4_:Q y (upd H l (.lst xs.dropLast))):IrPop x vs H Q
def rPop:V->List V->Hp->VK->Prop:=λx vs H Q=>IrPop x vs H Q
def xAsy:MtM X "list.pop" rPop:=by
 intro pins s σ H x vs v us Q I d k h;obtain⟨l,xs,y,rfl,rfl,c,j,q⟩:=h;cases d;have b:=k.zero;subst b;obtain⟨z,its,n,r,i,e⟩:=I.lstM c;obtain⟨u,f,g⟩:=r.get j
 have a:its.toArray[its.toArray.size - 1]?=some u:=by
  show its.toArray[its.length - 1]?=some u;rw[←we,←i];exact f
 refine call_meets F.slot_list_pop ⟨_,e,O⟩ F.entry_list_pop (F.args_list_pop_1 _) (MeetsSeq.list_pop_last l its.toArray n u a (by rw[qr];omega)) ⟨e,?_⟩;refine⟨y,_,I.lset (its':=its.dropLast) c e ?_ r.dropLast ?_,g,q⟩
 ·show its.toArray.eraseIdxIfInBounds (its.toArray.size - 1)=its.dropLast.toArray
  rw[qr,List.eraseIdxIfInBounds_toArray,xAkq]
 ·rw[List.length_dropLast]
  omega
inductive IrCat(x:V)(y:V)(H:Hp)(Q:VK):Prop
 |mk (l:_) (b:_) (xs:_) (zs:_) (h0_:x=.ref l) (h1_:y=.ref b) (h2_:H l=some (.lst xs)) (h3_:H b=some (.lst zs)) (h4_:xs.length+zs.length≤sizeLine) (h5_:∀p,H p=none->Q (.ref p) (upd H p (.lst (xs++zs)))):IrCat x y H Q
def rCat:R2:=λx y H Q=>IrCat x y H Q
def op_cat:OpR X (binaryOp .Add) rCat:=by
 intro pins s σ H x y v u Q I d g h;obtain⟨l,b,xs,zs,rfl,rfl,m,j,hz,q⟩:=h;cases d;cases g;obtain⟨z,its,n,r,p,e⟩:=I.lstM m;obtain⟨t,a,o,k,c,f⟩:=I.lstM j;refine PySem.P.add_list e f ?_ (by rw[qr,qr];omega)
 have i:its.toArray++a.toArray=(its++a).toArray:=by simp
 rw[i];exact⟨.ref _,_,I.lnew (t':=s.toks) (r.append k) (by rw[qe];omega),O,q _ I.fresh⟩
inductive IrRep(x:V)(y:V)(H:Hp)(Q:VK):Prop
 |mk (l:_) (k:_) (xs:_) (h0_:x=.ref l) (h1_:y=.int k) (h2_:H l=some (.lst xs)) (h3_:-(2 ^ 63)≤k) (h4_:k<2 ^ 63) (h5_:xs.length * k.toNat≤sizeLine) (h6_:∀p,H p=none->Q (.ref p) (upd H p (.lst (List.replicate k.toNat xs).flatten))):IrRep x y H Q
def rRep:R2:=λx y H Q=>IrRep x y H Q
def xAsz{α:Type}(xs:List α)(k:Nat):(List.replicate k xs).flatten.length=k * xs.length:=by
 induction k with
 |zero=>simp
 |succ k a=>rw[vi,yh,qe,a,Nat.succ_mul,Nat.add_comm]
def op_rep:OpR X (binaryOp .Mult) rRep:=by
 intro pins s σ H x y v u Q I o p h;obtain⟨l,k,xs,rfl,rfl,A,h1,h2,hz,q⟩:=h;cases o;obtain⟨t,rfl⟩:=p;obtain⟨z,its,n,r,w,e⟩:=I.lstM A
 have g:its.toArray.size * k.toNat≤sizeLine:=by rw[qr,←w];exact hz
 have d:¬its.toArray.size * k.toNat>(2 ^ 63 - 1) / 8:=by
  have:(sizeLine:Nat)≤(2 ^ 63 - 1) / 8:=by decide
  omega
 have c:¬(!Builtin.List.listFitsIndex k)=true:=by
  rw[fitsIndex_both h1 h2];exact qk
 have b:¬Builtin.List.listTooLong (its.toArray.size * k.toNat)=true:=by
  rw[xAkr g];exact qk
 have f:List.foldl (λi j=>i++j) #[] (List.replicate (if its.toArray.isEmpty=true then 0 else k.toNat) its.toArray)=(List.replicate k.toNat its).flatten.toArray:=by
  have B:∀m:Nat,List.foldl (λi j=>i++j) #[] (List.replicate m its.toArray)=(List.replicate m its).flatten.toArray:=λm=>by
   have:=xAht its m [];rw[jl]at this;exact this
  rw[B]
  cases its with
  |nil=>simp
  |cons a C=>rw[qB (by simp)]
 refine wpAny_binaryOp_repeat_ref (T:="list") (U:="int") (by decide) ⟨_,e,O⟩ (λs'=>typeIs_int s' k t) noFill_list_mul F.fills_int_mul F.slot_int_rmul repeat_list F.slot_int_index.lookup
  (call_meets F.slot_int_rmul (typeIs_int s k t) F.entry_int_rmul (F.args_int_rmul_2 _ _) (int___rmul___int_list k t l its.toArray n)
   ⟨e,O,⟨_,e,O⟩,call_meets F.slot_list_mul ⟨_,e,O⟩ F.entry_list_mul (F.args_list_mul_2 _ _) (AutoListH.list___mul___list_int_3 l its.toArray n k t c d b) ⟨e,?_⟩⟩)
 rw[f];exact⟨.ref _,_,I.lnew (t':=s.toks) (r.rep k.toNat) (by rw[xAsz,Nat.mul_comm];exact hz),O,q _ I.fresh⟩
end
section
variable {κ:Type}[DecidableEq κ]
def valV(kvs:List (κ×V))(k:κ):Option V:=(kvs.find? λa=>decide (a.1=k)).map (·.2)
def putK(kvs:List (κ×V))(k:κ)(v:V):List (κ×V) :=
 if(kvs.any λa=>decide (a.1=k))=true then kvs.map (λa=>if a.1=k then(a.1,v) else a) else kvs++[(k,v)]
def xAaz{p:κ×V}{r:List (κ×V)}{k:κ}(e:p.1=k):valV (p::r) k=some p.2:=by simp[valV,List.find?_cons,e]
def xAba{p:κ×V}{r:List (κ×V)}{k:κ}(e:¬p.1=k):valV (p::r) k=valV r k:=by simp[valV,List.find?_cons,e]
def xAcm(k:κ):∀kvs:List (κ×V),(kvs.any λa=>decide (a.1=k))=(valV kvs k).isSome
 |[]=>rfl
 |p::r=>by
  rw[jm]
  by_cases e:p.1=k
  ·simp only[xAaz e,decide_eq_true e,Bool.true_or,Option.isSome_some]
  ·rw[xAba e,decide_eq_false e,Bool.false_or];exact xAcm k r
def xAks(k j:κ)(y:V):∀kvs:List (κ×V),valV (kvs.map λa=>if a.1=k then(a.1,y) else a) j=(valV kvs j).map λx=>if j=k then y else x
 |[]=>rfl
 |p::r=>by
  have b:=xAks k j y r;rw[zg]
  by_cases h:p.1=k
  ·rw[qF h]
   by_cases e:p.1=j
   ·rw[xAaz (p:=(p.1,y)) e,xAaz e,yw,qF (e.symm.trans h)]
   ·rw[xAba (p:=(p.1,y)) e,xAba e,b]
  ·rw[qB h]
   by_cases e:p.1=j
   ·rw[xAaz (p:=p) e,xAaz e,yw,qB (λz=>h (e.trans z))]
   ·rw[xAba (p:=p) e,xAba e,b]
def xAhv(k j:κ)(y:V):∀kvs:List (κ×V),valV kvs k=none->valV (kvs++[(k,y)]) j=if j=k then some y else valV kvs j
 |[],_=>by
  by_cases e:k=j
  ·rw[qF e.symm];exact xAaz (p:=(k,y)) e
  ·rw[qB (λz=>e z.symm)];exact xAba (p:=(k,y)) e
 |p::r,hn=>by
  rw[List.cons_append]
  have a:¬p.1=k:=λz=>by rw[xAaz z]at hn;cases hn
  rw[xAba a]at hn;have b:=xAhv k j y r hn
  by_cases e:p.1=j
  ·rw[xAaz e,xAaz e,qB (λz=>a (e.trans z))]
  ·rw[xAba e,xAba e,b]
def xAqm(kvs:List (κ×V))(k j:κ)(y:V):valV (putK kvs k y) j=if j=k then some y else valV kvs j:=by
 unfold putK
 by_cases a:(kvs.any λb=>decide (b.1=k))=true
 ·rw[qF a,xAks]
  rw[xAcm]at a
  by_cases e:j=k
  ·obtain⟨x,c⟩:=zv.mp a
   rw[qF e,e,c,yw,qF rfl]
  ·rw[qB e]
   cases valV kvs j with
   |none=>rfl
   |some x=>rw[yw,qB e]
 ·rw[qB a]
  refine xAhv k j y kvs ?_;rw[xAcm]at a
  cases q:valV kvs k with
  |none=>rfl
  |some x=>rw[q]at a;exact(a rfl).elim
def xAcu(kvs:List (κ×V))(k:κ)(v:V):(putK kvs k v).length≤kvs.length+1:=by
 unfold putK
 split
 ·rw[qf];omega
 ·rw[qe,qx,zy];omega
def xAgm{kvs:List (κ×V)}{k:κ}(v:V)(h:valV kvs k=none):putK kvs k v=kvs++[(k,v)]:=by
 unfold putK;rw[xAcm,h];exact qB (by decide)
def RelO.isSome_eq(r:RelO o u):o.isSome=u.isSome:=by
 cases o with
 |none=>cases u with
  |none=>rfl
  |some _=>exact(show False from r).elim
 |some _=>cases u with
  |none=>exact(show False from r).elim
  |some _=>rfl
def KV.val(r:KV kvs vs)(k:κ):RelO (valV kvs k) (valueAt vs k):=by
 unfold KV at r
 induction r with
 |nil=>exact True.intro
 |@cons p q ps c h t d =>
  obtain⟨h1,h2⟩:=h
  by_cases e:p.1=k
  ·have a:q.1=k:=h1.symm.trans e
   have b:valueAt (q::c) k=some q.2:=by simp[valueAt,List.find?_cons,a]
   rw[xAaz e,b];exact h2
  ·have a:¬q.1=k:=λz=>e (h1.trans z)
   have b:valueAt (q::c) k=valueAt c k:=by simp[valueAt,List.find?_cons,a]
   rw[xAba e,b];exact d
def KV.any(r:KV kvs vs)(k:κ):(kvs.any λa=>decide (a.1=k))=vs.any λa=>decide (a.1=k):=by
 unfold KV at r
 induction r with
 |nil=>rfl
 |cons h t b=>rw[jm,jm,b,h.1]
def KV.repl(r:KV kvs vs)(k:κ)(c:RelV y u) :
  KV (kvs.map λa=>if a.1=k then(a.1,y) else a) (vs.map λa=>if a.1=k then(a.1,u) else a):=by
 unfold KV at r ⊢
 induction r with
 |nil=>exact .nil
 |@cons p q ps d h t b =>
  rw[zg,zg];refine .cons ?_ b;obtain⟨h1,h2⟩:=h
  by_cases e:p.1=k
  ·rw[qF e,qF (h1.symm.trans e)];exact⟨h1,c⟩
  ·rw[qB e,qB (λz=>e (h1.trans z))];exact⟨h1,h2⟩
def KV.put(r:KV kvs vs)(k:κ)(a:RelV y u):KV (putK kvs k y) (stored vs k u):=by
 unfold putK stored;rw[r.any k]
 by_cases e:(vs.any λb=>decide (b.1=k))=true
 ·rw[qF e,qF e];exact r.repl k a
 ·rw[qB e,qB e];exact Paired.snoc r ⟨O,a⟩
def KV.length{kvs:List (κ×V)}{vs:List (κ×Value)}(r:KV kvs vs):kvs.length=vs.length:=Paired.length r
end
def kV_is(r:RelV (kV k) u):(mixKind P w).is k u=true:=by
 cases k with
 |inl i=>obtain⟨t,e⟩:=(show ∃t,u=Value.int i t from r);subst e;exact xAjd P w i t
 |inr x=>obtain⟨t,e⟩:=(show ∃t,u=Value.str x t from r);subst e;exact xAje P w x t
def xAhw:∀{ks:List Key} {us:List Value},Vals (ks.map kV) us->ItemsAre (mixKind P w) ks us
 |[],_,r=>by rw[jj]at r;cases r;exact .nil
 |k::ks,_,r=>by
  rw[zg]at r
  cases r with
  |cons h t=>exact .cons (kV_is h) (xAhw t)
abbrev KT(H:Hp):List (List Key×V)->List (List Key×Addr×Value)->Prop:=Paired λp q=>p.1=q.1/\H q.2.1=some (.tup (p.1.map kV))/\RelV p.2 q.2.2
def KT.val(r:KT H kvs xs)(k:List Key):RelO (valV kvs k) ((atKey xs k).map (·.2)):=by
 induction r with
 |nil=>exact True.intro
 |@cons p q ps c h t d =>
  obtain⟨h1,_,h2⟩:=h
  by_cases e:p.1=k
  ·have a:q.1=k:=h1.symm.trans e
   have b:atKey (q::c) k=some q.2:=by simp[atKey,List.find?_cons,a]
   rw[xAaz e,b];exact h2
  ·have a:¬q.1=k:=λz=>e (h1.trans z)
   have b:atKey (q::c) k=atKey c k:=by simp[atKey,List.find?_cons,a]
   rw[xAba e,b];exact d
def KT.repl(r:KT H kvs xs)(k:List Key)(c:RelV y u) :
  KT H (kvs.map λa=>if a.1=k then(a.1,y) else a) (xs.map (putAt k u)):=by
 induction r with
 |nil=>exact .nil
 |@cons p q ps f h t b =>
  rw[zg,zg];refine .cons ?_ b;obtain⟨h1,h2,d⟩:=h;unfold putAt
  by_cases e:p.1=k
  ·rw[qF e,qF (h1.symm.trans e)];exact⟨h1,h2,c⟩
  ·rw[qB e,qB (λz=>e (h1.trans z))];exact⟨h1,h2,d⟩
def KT.put(r:KT H kvs xs)(k:List Key)(c:H b=some (.tup (k.map kV)))(a:RelV y u) :
  KT H (putK kvs k y) (storedH xs k b u):=by
 have e:(kvs.any λd=>decide (d.1=k))=(atKey xs k).isSome:=by
  rw[xAcm,(r.val k).isSome_eq,Option.isSome_map]
 unfold putK storedH;rw[e]
 by_cases q:(atKey xs k).isSome=true
 ·rw[qF q,qF q];exact r.repl k a
 ·rw[qB q,qB q];exact Paired.snoc r ⟨O,c,a⟩
def KT.keeps(r:KT H kvs xs)(a:∀b ys,H b=some (.tup ys)->H' b=some (.tup ys)):KT H' kvs xs :=
 Paired.mapP r λ_ _ z=>⟨z.1,a _ _ z.2.1,z.2.2⟩
section
variable {P:Program}{w:World}{H:Hp}{h:Heap}{a:Addr}
def rd_of(ok:HOk P w H h)(e:Rd H a u):ObjOk P w H h a u:=e.ok ok
def dk_rd(ok:HOk P w H h)(e:Rd H a (.dK kvs)):kvs.length≤sizeLine/\(a==sysModules)=false/\∃vs,KV kvs vs/\h.DictOf (mixKind P w) a vs :=
 show ObjOk P w H h a (.dK kvs) from rd_of ok e
def dk_of(ok:HOk P w H h)(e:H a=some (.dK kvs)):kvs.length≤sizeLine/\(a==sysModules)=false/\∃vs,KV kvs vs/\h.DictOf (mixKind P w) a vs:=dk_rd ok (.inl e)
def xAjg(ok:HOk P w H h)(e:H a=some (.tup (ks.map kV))):(tupleKind (mixKind P w)).is h ks a:=by
 obtain⟨_,its,r,o,h1,h2,n,b⟩:=(show ObjOk P w H h a (.tup (ks.map kV)) from ok a _ e);exact⟨o,its.toArray,n,h1,h2,b,by simpa using xAhw r⟩
def dt_rd(ok:HOk P w H h)(e:Rd H a (.dT kvs)):kvs.length≤sizeLine/\(a==sysModules)=false ∧
  ∃xs,KT H kvs xs/\h.DictOfH (tupleKind (mixKind P w)) a xs:=by
 obtain⟨z,y,xs,r,o,es,ep,h1,h2,i,g,f⟩:=(show ObjOk P w H h a (.dT kvs) from rd_of ok e);refine⟨z,y,xs,r,o,es,ep,h1,h2,i,g,λx b=>?_,f⟩
 have all:∀{l:List (List Key×V)} {m:List (List Key×Addr×Value)},KT H l m->∀x∈m,(tupleKind (mixKind P w)).is h x.1 x.2.1:=by
  intro l m q
  induction q with
  |nil=>intro x b;exact nomatch b
  |@cons p q ps j c t d =>
   intro x b;rcases qz.mp b with e|b
   ·subst e
    exact xAjg ok (by rw[←c.1];exact c.2.1)
   ·exact d x b
 exact all r x b
def dt_of(ok:HOk P w H h)(e:H a=some (.dT kvs)):kvs.length≤sizeLine/\(a==sysModules)=false ∧
  ∃xs,KT H kvs xs/\h.DictOfH (tupleKind (mixKind P w)) a xs:=dt_rd ok (.inl e)
end
def DGet(H:Hp)(a:Addr)(y:V)(r:Option V):Prop :=
 (∃kvs k,Rd H a (.dK kvs)/\y=kV k/\r=valV kvs k)\/∃kvs k b,Rd H a (.dT kvs)/\y=.ref b/\H b=some (.tup (k.map kV))/\r=valV kvs k
def DPut(H:Hp)(a:Addr)(y v:V)(H':Hp):Prop :=
 (∃kvs k,H a=some (.dK kvs)/\y=kV k/\kvs.length<sizeLine/\H'=upd H a (.dK (putK kvs k v))) ∨
 ∃kvs k b,H a=some (.dT kvs)/\y=.ref b/\H b=some (.tup (k.map kV))/\kvs.length<sizeLine/\H'=upd H a (.dT (putK kvs k v))
section
variable {X:Cx}{pins:List (Addr×Obj)}{σ:St}{H:Hp}{s:Shared}{a:Addr}{y v:V}{u r:Value}{o:Option V}{A:Around}{E:Value->Shared->Prop}
def Inv.big(I:Inv X pins σ H s):sysModules<s.heap.objs.size:=by
 have h:mainGlobals<s.heap.objs.size:=(I.mod.glob.keeps I.bk).lt;exact yi (by decide) h
def xAnm(t:A.units+1<cLine)(I:Inv X pins σ H s)(g:DGet H a y (some v))(q:RelV y u)(h:∀f s',Inv X pins σ H s'->RelV v f->Q f s') :
  wpAny (model X.prog X.w) A (getItem (.ref a) u) Q E s:=by
 rcases g with⟨kvs,k,e,m,l⟩|⟨kvs,k,b,e,m,r,l⟩
 ·subst m
  obtain⟨z,B,vs,c,j⟩:=dk_rd I.hok e;obtain⟨f,i,d⟩:=RelO.some_of (v:=v) (o:=valueAt vs k) (by rw[l];exact c.val k);exact wpAny_getItem_of (kV_is q) j.mapOf i (h f _ (I.tok _) d)
 ·subst m
  cases(show u=Value.ref b from q);obtain⟨z,B,xs,c,j⟩:=dt_rd I.hok e;obtain⟨f,i,d⟩:=RelO.some_of (v:=v) (o:=(atKey xs k).map (·.2)) (by rw[l];exact c.val k);obtain⟨p,x,n⟩:=z9.mp i;refine wpAny_getItem_heap (tupleKind_room_in1 t) (xAjg I.hok r) j x ?_;rw[n];exact h f _ (I.tok _) d
def xAec(I:Inv X pins σ H s)(g:Mut (H a))(d:Heap.SameBut a s.heap h')(c:∃q,h'.get? a=some q)(new:ObjOk X.prog X.w (upd H a ob) h' a ob) :
  Inv X pins σ (upd H a ob) { s with heap:=h',toks:=t' } :=
 I.write (x:=a) (e:=a) g (.inl rfl) (λb q f z=>(d.2 b f).trans z) c new
def xAta(z:kvs.length≤sizeLine)(d:(a==sysModules)=false)(b:KV kvs vs)(c:h'.DictOf (mixKind P w) a vs) :
  ObjOk P w H' h' a (.dK kvs):=⟨z,d,vs,b,c⟩
def xAnn(G:A.units+1<cLine)(I:Inv X pins σ H s)(g:DPut H a y v H')(x:RelV y u)(D:RelV v r)(h:∀s',Inv X pins σ H' s'->Q () s') :
  wpAny (model X.prog X.w) A (setItem (.ref a) u r) Q E s:=by
 rcases g with⟨kvs,k,e,n,l,t⟩|⟨kvs,k,b,e,n,B,l,t⟩
 ·subst n t
  obtain⟨z,p,vs,d,j⟩:=dk_of I.hok e
  have hz:vs.length≤sizeLine:=by rw[←d.length];exact z
  have o:(putK kvs k v).length≤sizeLine:=by have:=xAcu kvs k v;omega
  refine wpAny_setItem_pairs (hsz:=hz) (kV_is x) j λh' f m=>h _ ?_
  have F:∃q,h'.get? a=some q:=let⟨q,_,_,i,_⟩:=f;⟨q,i⟩
  exact xAec I (by rw[e];exact True.intro) m F (xAta o p (d.put k D) f)
 ·subst n t
  cases(show u=Value.ref b from x);obtain⟨z,p,xs,d,j⟩:=dt_of I.hok e
  have hz:xs.length≤sizeLine:=by rw[←Paired.length d];exact z
  have o:(putK kvs k v).length≤sizeLine:=by have:=xAcu kvs k v;omega
  refine wpAny_setItem_heap (hsz:=hz) (tupleKind_room_in1 G) (xAjg I.hok B) j λh' f m=>h _ ?_;obtain⟨q,es,ep,i,h2,L,K,_,J⟩:=f;refine xAec I (by rw[e];exact True.intro) m ⟨q,i⟩ ⟨o,p,_,(d.put k B D).keeps λc ys C=>?_,q,es,ep,i,h2,L,K,J⟩;rw[xAae (ne_of C e (λz=>nomatch z))];exact C
end
def NoSl(i:Expr):Prop:=∀a b,subscripted i false a b=operate [a,b] (getItem a b)
def xApg{prog:Program}{w:World}{A:Around}{E:Value->Shared->Prop}{s:Shared}{env:Env}{value a:Expr}{pos:Pos}{T id:String}{Q:Value->Shared->Prop}(m:typeLookup (.type T) "__getitem__"=pure (some (.builtin id)))(l:NoSl a)(h:wpAny (model prog w) A (eval value env) (λo d=>wpAny (model prog w) A (eval a env) (λi b=>b.TypeIs o T/\wpAny (model prog w) A (getItem o i) Q E b) E d) E s) :
  wpAny (model prog w) A (eval (.Subscript value a pos) env) Q E s:=by
 refine Subscript_ (qM h (λo d j=>qM j (λi b c=>?_) λ_ _ x=>x) λ_ _ x=>x);obtain⟨k,c⟩:=c;unfold subscriptTail;refine qA ?_;rw[getitemInPython_of_ne k.not_modules];refine qA (wpAny_specialOf k m ?_)
 have f:wpAny (model prog w) A (subscripted a false o i) (λr e=>wpAny (model prog w) A (letTemporaryGo value o r >>= λ_=>pure r) Q E e) E b:=by
  rw[l o i];exact wpAny_operating (qM c (λr e g=>qA (wpAny_letTemporaryGo (qE g))) λ_ _ x=>x)
 first
  |exact qE (qA f)
  |exact qA (qE (qA f))
  |exact qA f
def xAjh{X:Cx}{pins:List (Addr×Obj)}{σ:St}{H:Hp}{s:Shared}{a:Addr}{y:V}{o:Option V}(I:Inv X pins σ H s)(g:DGet H a y o):s.TypeIs (.ref a) "dict":=by
 rcases g with⟨kvs,k,e,_,_⟩|⟨kvs,k,b,e,_,_,_⟩
 ·obtain⟨_,_,vs,_,c⟩:=dk_rd I.hok e
  exact c.typeIs
 ·obtain⟨_,_,xs,_,c⟩:=dt_rd I.hok e
  exact c.typeIs
inductive ItDGet(Q:VK)(x:V)(y:V)(H2:Hp):Prop
 |mk (a:_) (v:_) (h0_:x=.ref a) (h1_:DGet H2 a y (some v)) (h2_:Q v H2):ItDGet Q x y H2
def tDGet(td ty:TE):TE:=λσ H Q=>td σ H λx H1=>ty σ H1 λy H2=>ItDGet Q x y H2
inductive IsDPut(D:Ends)(σ:St)(v:V)(x:V)(y:V)(H3:Hp):Prop
 |mk (a:_) (H4:_) (h0_:x=.ref a) (h1_:DPut H3 a y v H4) (h2_:D.nx σ H4):IsDPut D σ v x y H3
def sDPut(td ty tv:TE):TS:=λD σ H=>tv σ H λv H1=>td σ H1 λx H2=>ty σ H2 λy a=>IsDPut D σ v x y a
section
variable {X:Cx}{o i e value:Expr}{pos pos' tpos:Pos}{td ty tv:TE}
def xAat(k:X.A.units+1<cLine)(l:PE X o td)(hi:PE X i ty)(j:NoSl i):PE X (.Subscript o i pos) (tDGet td ty):=by
 refine⟨?_⟩;intro pins s σ H Q I h;refine xApg PySem.F.slot_dict_getitem.lookup j (thn (l pins s σ H _ I h) λu m ⟨x,H1,n,d,e⟩=>thn (hi pins m σ H1 _ n e) λr s2 ⟨y,H2,c,f,a,v,ex,g,p⟩=>?_);subst ex;obtain rfl:u=Value.ref a:=d;exact⟨xAjh c g,xAnm k c g f λw t q b=>⟨v,H2,q,b,p⟩⟩
def xAtb(m:X.A.units+1<cLine)(f:PE X o td)(hi:PE X i ty)(c:PE X value tv)(d:swapsWith value (some (.Subscript o i pos')) pos.line X.env=pure false) :
  PS X (.Assign [.Subscript o i pos'] value pos) (sDPut td ty tv):=by
 refine⟨?_⟩;intro pins s σ H D I h;refine wpAny_Assign_Subscript (thn (c pins s σ H _ I h) λr n ⟨v,H1,q,j,k⟩=>thn (f pins n σ H1 _ q k) λu s2 ⟨x,H2,e,t,p⟩=>thn (hi pins s2 σ H2 _ e p) λC F ⟨y,E,B,l,a,w,ex,g,b⟩=>?_) d;subst ex;obtain rfl:u=Value.ref a:=t;exact xAnn m B g l j λG z=>⟨σ,w,z,b⟩
end
def xAqn(h:Heap)(a:sysModules<h.objs.size):ObjOk P w H (h.push { cls:=.type "dict",data:=.dict #[] }) h.objs.size (.dK []) :=
 ⟨qy _,beq_eq_false_iff_ne.mpr (Ne.symm (qi a)),[],.nil,Heap.DictOf.new h⟩
def tDNewK:TE:=λ_ H Q=>∀p,H p=none->Q (.ref p) (upd H p (.dK []))
section
variable {X:Cx}{pos:Pos}
def xAqo:PE X (.Dict [] [] pos) tDNewK:=⟨λpins s σ H Q I h =>
 wpAny_Dict_empty ⟨.ref s.heap.objs.size,_,I.laid (a:=s.heap.objs.size) (o:=.dK []) (t':=s.toks) (λ_ _ q=>qH _ q) (qb _) (xAqn s.heap I.big),O,h _ (I.hok.fresh (qb _))⟩⟩
end
end L2
namespace Att
open PySem PySem.W PySem.Calls PyProof.Rows
def xAdy:∀(ns:List Int) (vs:List Value),WellAll P h vs (ns.map WData.int)->IntsAre vs ns:=by
 intro ns
 induction ns with
 |nil =>
  intro vs w;rw[jj]at w;cases w;exact .nil
 |cons n ns c =>
  intro vs w;rw[zg]at w
  cases w with
  |cons a b =>
   cases a;exact .cons _ _ (c _ b)
def xAno{l:OpenLaw}{n:Nat}(hn:l.most=some n){P:Params}{h:Heap}{args:List WData}{b:List Value}(c:l.row.toRowW.claim.pre args=true)(k:WellAll P h b args) :
  ∃a vs ns,b=[Value.ref a]/\args=[WData.list (ns.map WData.int)]/\h.get? a=some { cls:=.type "list",data:=.seq vs.toArray }/\IntsAre vs ns/\ns.length≤n:=by
 have j:WShape.hasAll [] args [.list .int]=true:=(pre_splitW c).1;have m:l.pre.holds [] { args:=args }=true:=(pre_splitW c).2;obtain⟨d,r,rfl,h1,h2⟩:=hasAllW_cons j;obtain rfl:=hasAllW_nil h2;obtain⟨xs,rfl,u⟩:=hasW_list h1;obtain⟨ns,rfl⟩:=items_int u
 have e:ns.length≤n:=by
  unfold OpenLaw.pre at m
  have i:(WTm.not (.lt (.lit (.int (n:Int))) (.len (.arg 0)))).holds [] { args:=[.list (ns.map .int)] }=true:=by
   have i:=(holds_andW m).1;rw[hn]at i;exact i
  have g:=condW_of i (w_not (w_lt w_lit (w_len_list (w_arg rfl))));rw[qf]at g;refine Nat.le_of_not_lt λq=>?_
  have s:(n:Int)<((ns.length:Nat):Int):=by omega
  first
   |(rw[qI s]at g;exact absurd g (by decide))
   |(simp at g;omega)
 cases k with
 |cons o p =>
  cases p
  cases o with
  |list t f=>exact⟨_,_,ns,O,O,t,xAdy ns _ f,e⟩
def xAnp(l:OpenLaw)(args:List WData):l.row.toRowW.claim.post args (.bool true) args=true :=
 postW_of (r:=l.row.toRowW) (X:=(true==true))
  (show WShape.has [] (.bool true) .bool=true by first|rfl|decide|simp[WShape.has,WShape.arms,WShape.armsAll])
  (show(WTm.eq .res (.lit (.bool true))).value [] { args:=args,res:=some (.bool true),after:=args }=some (.bool (true==true)) from w_eq_bool (w_res rfl) w_lit) rfl
def attach_call{l:OpenLaw}{n:Nat}{q:Program}{c:List Str}{A:(Str->Option Value)->Heap->Prop}{B:World->Heap->Prop}{d:DefRec}(hn:l.most=some n)(k:d.params.defaults=[])(call:∀(w:World) (s₀ b:Shared) (mg m:Str->Option Value) (fa:Addr) (o:Obj) (p cd g:Value) (a:Addr) (vs:List Value) (ns:List Int),
   Ground q c [] A w s₀ mg m b.heap->B w b.heap →
   b.heap.get? fa=some o->o.data=.func (docDef d.name d.params d.body d.scope p cd g)->b.heap.CodeRec cd d.name->mg d.name=some (.ref fa) →
   b.heap.get? a=some { cls:=.type "list",data:=.seq vs.toArray }->IntsAre vs ns->ns.length≤n->b.gens=#[] →
   codeAny (model l.prog w) callerA (.call (.ref fa) ⟨[.ref a],[]⟩) (λr s'=>r=.ok (.ret (.bool true))/\OldK b.heap s'.heap/\s'.os=b.os/\AllBare s'.gens) b) :
  WalkO q c A B l.row.toRowW d [] (λf vs=>PySem.call f vs):=by
 intro w s₀ b mg m G Y fa o p cd g H kV D F s x u C y z as j v K t L;obtain rfl:H=.none:=Dflts.none x k;obtain rfl:kV=.none:=Dflts.noKw x;obtain⟨a,vs,ns,rfl,rfl,i,e,h⟩:=xAno hn j t;refine enter_call (codeAny_mono (call w s₀ b mg m fa o p cd g a vs ns G Y D (fd_plain F) s u i e h C) λr s' M=>?_);obtain⟨rfl,h2,E,J⟩:=M;exact⟨.inl ⟨.bool true,.bool true,[],O,λ_=>rfl,.bool true,xAnp l _,λ_=>⟨List.Pairwise.nil,λ_ I=>(nomatch I)⟩⟩,h2,E,J⟩
end Att
namespace L2
open PySem PySem.Spec PyProof.Rows
def xAhx:∀{vs:List Value} {ns:List Int},IntsAre vs ns->Vals (ns.map V.int) vs
 |_,_,.nil=>.nil
 |_,_,.cons n t h=>.cons ⟨t,O⟩ (xAhx h)
def defArgs(s:Stmt):Arguments:=match s with
 |.FunctionDef _ a _ _ _ _ _ _ _ _=>a
 |_=>{ posonlyargs:=[],args:=[],vararg:=none,kwonlyargs:=[],kw_defaults:=[],kwarg:=none,defaults:=[] }
def defBody(s:Stmt):List Stmt:=match s with
 |.FunctionDef _ _ b _ _ _ _ _ _ _=>b
 |_=>[]
def defScope(s:Stmt):Scope:=match s with
 |.FunctionDef _ _ _ _ _ _ sc _ _ _=>sc
 |_=>{ kind:=.function,names:=[],isGenerator:=false,isCoroutine:=false }
abbrev CX0:CXT:=λ_ _ _ _ _ _=>False
abbrev E0:XK:=λ_ _ _=>False
def pass0:Passes CX0 X E0:=λ_ _ _ _ _ _ _ h=>h.elim
structure Fun(K:PySem.W.Frag)(x qual:Str)(st:Stmt)(f:Addr)(fd:FuncData):Prop where
 ex:∃(oc:Value) (od:Option Addr) (kV doc pm:Value) (an:Option Addr) (cdv ct:Value) (osl:Array (Option Value)),
  fd=PySem.W.fnOf x qual (defArgs st) (defBody st) (defScope st) .none kV doc pm an cdv ct/\K.lookup f=some ⟨oc,od,.func fd,osl⟩/\PySem.W.codeIn K cdv qual=true
 kp:PySem.W.keepIn K (.ref f)=true
section
variable {P:Program}{w:World}{K:PySem.W.Frag}{mg:Str->Option Value}{base:Heap}
def Fun.ok{x qual:Str}{st:Stmt}{f:Addr}{fd:FuncData}{N ps:List Str}{k:Nat}{sp:Sp}(F:Fun K x qual st f fd)(S:FnScope N ps (defScope st))(len:∀vs H Q E,sp vs H Q E->vs.length=ps.length)(b:∀(a:Value) (A:Around) (outer:List Env) (s:Shared) (H:Hp) (vs:List V) (Q:VK) (E:XK),Room k (A.deeper (envOfC qual (defScope st) s.heap.objs.size f a))->sp vs H Q E →
   ∃t,PSs (cxOf CX0 P w K mg base N qual (defScope st) f a A outer s H E).nox (defBody st) t/\t { nx:=λ_ H'=>Q .non H',rt:=Q } (start N vs) H):FnOk P w K mg base CX0 (k+1) f fd ps sp:=by
 obtain⟨m,od,kV,e,l,n,a,o,j,rfl,i,c⟩:=F.ex;refine fn_of i c S len λA outer s H vs Q E g d=>?_;obtain⟨t,h,q⟩:=b a A outer s H vs Q E g d;exact⟨t,h.nox,q⟩
def Fun.binds{x qual:Str}{st:Stmt}{f:Addr}{fd:FuncData}{ps:List Str}(F:Fun K x qual st f fd)(h:∀(kV a c:Value) (d:Option Addr) (b e:Value) (us:List Value),us.length=ps.length->bindArgs (PySem.W.fnOf x qual (defArgs st) (defBody st) (defScope st) .none kV a c d b e) ⟨us,[]⟩=pure (ps.zip us)):Binds K fd ps []:=by
 obtain⟨k,od,kV,a,c,d,b,e,i,rfl,j,g⟩:=F.ex;exact .all (h kV a c d b e)
def xAtc{x qual:Str}{st:Stmt}{f:Addr}{i:Value}{od g:Option Addr}{d:Array (Option Value)}{kV b e a h:Value}(l:K.lookup f=some ⟨i,od,.func (PySem.W.fnOf x qual (defArgs st) (defBody st) (defScope st) .none kV b e g a h),d⟩)(c:PySem.W.codeIn K a qual=true)(k:PySem.W.keepIn K (.ref f)=true):Fun K x qual st f (PySem.W.fnOf x qual (defArgs st) (defBody st) (defScope st) .none kV b e g a h):=⟨⟨i,od,kV,b,e,g,a,h,d,O,l,c⟩,k⟩
end
def hu_of(a:Room k A):A.units+1<cLine:=yj (Nat.add_le_add_left (by decide:1≤64) _) a.units
def xAaj(h:n≤1000):n<sizeLine:=yj h (by decide)
section
variable {X:Cx}
def pv(i:Nat)(d:X.N[i]?=some x:=by rfl)(b:Vis X.env.scope x:=by first|exact Or.inl rfl|exact Or.inr (Or.inl rfl)|exact Or.inr (Or.inr rfl))(c:(x==("__debug__":Str))=false:=by decide)(a:(x==("__classdict__":Str))=false:=by decide):PE X (.Name x pos) (tVar i):=pe_var d b c a
end
def iteT{A B:Prop}(h:A):if true=true then A else B:=by
 rw[qF rfl];exact h
def Same(H H':Hp):Prop:=∀b o,H b=some o->H' b=some o
def Same.refl(H:Hp):Same H H:=λ_ _ h=>h
def Same.trans(a:Same H H1)(b:Same H1 H2):Same H H2:=λc o h=>b c o (a c o h)
def Same.free(e:Same H H')(h:H' l=Option.none):H l=Option.none:=by
 cases q:H l with
 |none=>rfl
 |some o =>
  rw[e l o q]at h;cases h
section
variable {κ:Type}[DecidableEq κ]
def xAtd{kvs:List (κ×V)}{k:κ}{v:V}(h:valV kvs k=some v):k∈kvs.map (·.1):=by
 have q:(kvs.any λa=>decide (a.1=k))=true:=by
  rw[xAcm,h]
  all_goals rfl
 obtain⟨p,b,e⟩:=yx.mp q;exact qj.mpr ⟨p,b,qO e⟩
end
section
variable {prog:Program}{w:World}{A:Around}{R:Result->Shared->Prop}{s:Shared}
def xAnq{ce:Env}(J:Nat->Shared->Prop)(turn:∀n s,J n s->wpAny (model prog w) A (pyNext it) (λr g=>match r with
   |none=>R (.ok .next) g
   |some v=>wpAny (model prog w) A (letOwnedTupleGo tg it v) (λ_ s2=>wpAny (model prog w) A (assign tg ce v) (λ_ k =>
     wpAny (model prog w) A (forIn d true λc r=>if r=true then do let ok ←isTrue c ce (eval c ce);pure (ForInStep.yield ok) else pure (ForInStep.yield r)) (λok e =>
      if ok=true then
       wpAny (model prog w) A (eval b ce) (λx i=>wpAny (model prog w) A (call (.builtin "list.append") [acc,x]) (λ_ l=>∃m,m<n/\J m l) (λ_ _=>False) i) (λ_ _=>False) e
      else ∃m,m<n/\J m e) (λ_ _=>False) k) (λ_ _=>False) s2) (λ_ _=>False) g) (λ_ _=>False) s)(n:Nat)(h:J n s):codeAny (model prog w) A (.compLoop (.ListComp b [⟨tg,a,d,0⟩] j pos) 0 it acc ce) R s:=by
 refine codeAny_loop rfl J (λn s p=>?_) n h;show wpAny _ A ((compTurn (.ListComp b [⟨tg,a,d,0⟩] j pos) 0 it acc ce).onRaise (λx=>do noteFrame x ce;theTreesLotGoes x)) _ _ s;refine wpAny_noted ?_;rw[compTurn_list];refine qA (wpAny_standAt (qA (qM (turn n s p) (λr g h1=>?_) λ_ _ f=>f.elim)))
 cases r with
 |none=>exact qE h1
 |some v =>
  refine qA (qM h1 (λ_ s2 h2=>?_) λ_ _ f=>f.elim);refine qA (qM h2 (λ_ k u=>?_) λ_ _ f=>f.elim);refine qA (qM u (λok e o=>?_) λ_ _ f=>f.elim)
  cases ok with
  |false=>exact qE ⟨O,o⟩
  |true =>
   refine qA (qA (qM o (λx i t=>?_) λ_ _ f=>f.elim));exact qA (qM t (λ_ l q=>qE (qE ⟨O,q⟩)) λ_ _ f=>f.elim)
end
def compCx(X:Cx)(N:List Str)(b:Scope)(cl:List (Str×Addr))(s:Shared)(H:Hp)(a:List Addr):Cx where
 prog:=X.prog
 w:=X.w
 K:=X.K
 mg:=X.mg
 base:=X.base
 A:=X.A
 N:=N
 s₀:=s
 H₀:=H
 env:=compEnvC b cl (s.heap.objs.size+1) X.env
 outer:=X.stack
 stack:=X.stack
 ex:=a
 fn:=λ_=>false
 calm:=X.calm
 pn:=[]
 xe:=λ_ _=>False
def compSt(own:List Str)(fr:List (Str×Nat))(σ:St):St:=own.map (λ_=>none)++fr.map λp=>(σ[p.2]?).join
def KeepS(σ σ':St):Prop:=σ.length=σ'.length/\∀(i:Nat) v,σ[i]?=some (some v)->σ'[i]?=some (some v)
def Fresh(g:TG)(σ:St):Prop:=∀x H (Q:St->Hp->Prop),g x σ H Q->g x σ H λσ' H'=>KeepS σ σ'/\Q σ' H'
def KeepS.set(h:σ[i]?=some none)(v:V):KeepS σ (σ.set i (some v)):=by
 refine⟨by simp,λj u e=>?_⟩
 by_cases a:i=j
 ·subst a;rw[h]at e;cases e
 ·rw[ww a];exact e
def xAbn(h:σ[i]?=some none):Fresh (gName i) σ:=λx H Q q=>⟨KeepS.set h x,q⟩
def xAbo(hi:σ[i]?=some none)(l:σ[j]?=some none)(b:i≠j):Fresh (gTup n (gCons (gName i) (gCons (gName j) gNil))) σ:=by
 intro x H Q q;obtain⟨a,xs,d,f,g,v,r,c,w,m,o,h,q⟩:=q;refine⟨a,xs,d,f,g,v,r,c,w,m,o,h,?_,q⟩;have h1:=KeepS.set hi v;have h2:=KeepS.set (σ:=σ.set i (some v)) (i:=j) (by rw[ww b];exact l) w;exact⟨h1.1.trans h2.1,λk u e=>h2.2 k u (h1.2 k u e)⟩
def PTs0(X:Cx)(a:List Expr)(t:TT):Prop :=
 ∀(pins:List (Addr×Obj)) (s:Shared) (σ:St) (H:Hp) (Q:Bool->Hp->Prop),Inv X pins σ H s->t σ H Q →
  wpAny (model X.prog X.w) X.A (forIn a true λc r=>if r=true then do let ok ←isTrue c X.env (eval c X.env);pure (ForInStep.yield ok) else pure (ForInStep.yield r)) (TP X pins σ Q) X.xe s
structure PTs(X:Cx)(ifs:List Expr)(t:TT):Prop where run:PTs0 X ifs t
instance PTsCf{X:Cx}{a:List Expr}{t:TT}:CoeFun (PTs X a t) λ_=>PTs0 X a t:=⟨PTs.run⟩
def xAbb:PTs X [] (λ_ H Q=>Q true H):=⟨λ_ _ _ H _ I h=>wpAny_tests_nil ⟨H,I,h⟩⟩
def xAbv(h:PT X c t):PTs X [c] t:=⟨λpins s σ H Q I q=>wpAny_tests_one (h pins s σ H Q I q)⟩
def LCb(own:List Str)(fr:List (Str×Nat))(g:TG)(f:TT)(te:TE)(σ:St)(Q:VK)(J:It)(H1:Hp):Prop:=∃W:Nat->Nat->List V->Hp->Prop,(∃m,W 0 m [] H1)/\∀i m ys H,W i m ys H →
 (J.stop i H/\∀p,H p=none->Q (.ref p) (upd H p (.lst ys)))\/(J.go i H/\ys.length<sizeLine/\∀x H',J.yld i H x H'->g x (compSt own fr σ) H' λc H2=>f c H2 λb d =>
  if b=true then te c d λy e=>∃a,a<m/\W (i+1) a (ys++[y]) e else ∃a,a<m/\W (i+1) a ys d)
def tLC(own:List Str)(fr:List (Str×Nat))(a:TI)(g:TG)(b:TT)(te:TE):TE:=λσ H Q=>a σ H λJ H1=>LCb own fr g b te σ Q J H1
abbrev accObj(us:List Value):Obj:={ cls:=.type "list",data:=.seq us.toArray us.length }
def xAqp(us:List Value)(u:Value):({ cls:=.type "list",data:=.seq (us.toArray.push u) (us.length+1) }:Obj)=accObj (us++[u]):=by
 unfold accObj;rw[qe,qo,List.push_toArray]
structure Caps(X:Cx)(sc:Scope)(cl:List (Str×Addr))(fr:List (Str×Nat)):Prop where
 clos:closureFor sc X.env=pure cl
 sub:∀x c,cl.lookup x=some c->X.env.cells.lookup x=some c
 has:∀x,((relabel sc X.env).names.lookup x=some .cell\/(relabel sc X.env).names.lookup x=some .free)->∃c,cl.lookup x=some c
 cap:∀p∈fr,X.N[p.2]?=some p.1/\X.env.kindOf p.1≠some .local/\Vis X.env.scope p.1/\((relabel sc X.env).names.lookup p.1=some .cell\/(relabel sc X.env).names.lookup p.1=some .free)
structure CompSc(sc:Scope):Prop where
 kind:sc.kind=.function
 cell:∀y∈sc.names,y.2≠.cell
 nms:∀y∈sc.names,y.2=.local->sc.names.lookup y.1=some .local
section
variable {X:Cx}
def Inv.stkNot{pins:List (Addr×Obj)}{σ:St}{H:Hp}{s:Shared}(I:Inv X pins σ H s){b:Addr}(h1:b≠X.env.locals)(h2:b∉X.fs):b∉frs X.stack:=λz=>by
 rcases qz.mp (I.stkSub b z) with e|e
 ·exact h1 e
 ·exact h2 e
def xAkt{own:List Str}{fr:List (Str×Nat)}{σ:St}{N:List Str}(c:N=own++fr.map (·.1)){i:Nat}{x:Str}{v:V}(h1:N[i]?=some x)(h2:(compSt own fr σ)[i]?=some (some v)) :
  ∃p∈fr,p.1=x/\σ[p.2]?=some (some v):=by
 unfold compSt at h2;subst c
 by_cases hi:i<own.length
 ·rw[List.getElem?_append_left (by simpa using hi),List.getElem?_map]at h2
  rw[qg hi]at h2;cases h2
 ·rw[List.getElem?_append_right (by simpa using hi),List.length_map,List.getElem?_map]at h2
  rw[List.getElem?_append_right (by simpa using hi),List.getElem?_map]at h1
  cases e:fr[i - own.length]? with
  |none=>rw[e]at h1;cases h1
  |some p =>
   rw[e]at h1 h2;refine⟨p,qh e,qK h1,?_⟩;have a:(σ[p.2]?).join=some v:=qK h2
   cases b:σ[p.2]? with
   |none=>rw[b]at a;cases a
   |some o=>rw[b]at a;rw[show o=some v from a]
def Inv.block{pins:List (Addr×Obj)}{σ:St}{H:Hp}{s:Shared}{own:List Str}{fr:List (Str×Nat)}{t:Scope}{cl:List (Str×Addr)}{B:List Addr}{h1:Heap}{m:Str->Option Value}{tk:Nat}(I:Inv X pins σ H s)(g:∀b∈B,FpOk X pins H b)(A:∀b∈B,b<s.heap.objs.size)(S:CompSc t)(C:Caps X t cl fr)(old:∀b o,s.heap.get? b=some o->h1.get? b=some o)(hn:h1.Ns (s.heap.objs.size+1) m)(M:h1.get? s.heap.objs.size=some (accObj [])) :
  Inv (compCx X (own++fr.map (·.1)) t cl s H B) [(s.heap.objs.size,accObj [])] (compSt own fr σ) H { s with heap:=h1,toks:=tk }:=by
 have h:∀x c,cl.lookup x=some c->c<s.heap.objs.size:=λx c e=>by
  obtain⟨v,z⟩:=I.cell x c (C.sub x c e);exact z.lt
 have a:s.heap.objs.size≤s.heap.objs.size+1:=wg _
 refine⟨⟨I.ok.mod,S.kind,I.ok.glob,I.ok.blt,a,λx y c j D=>I.ok.inj x y c (C.sub x c j) (C.sub y c D),λx N=>C.has x N,λ_ _ z=>(by cases z),I.ok.hd,I.ok.frames,.inl rfl,λb d=>⟨?_,λx c e z=>?_⟩,
  I.bs,qc I.ok.bsz I.sz,λb o e d=>?_,λb d z=>?_,I.stack,I.stkFree⟩,O,I.bare,Un.kept old,⟨m,hn,λi x v j D W=>?_⟩,λx c e=>?_,I.hok.fresh a,λx c e=>I.freeC x c (C.sub x c e),λp q=>?_,I.hok.kept old,?_⟩
 ·exact qi (wj (A b d))
 ·exact(g b d).2.2.2.2.1 x c (C.sub x c e) z
 ·rcases(g b d).2.2.2.1 with z|z
  ·exact I.ok.noex b o e z
  ·exact absurd (qq (qG e) (qc I.ok.bsz z)) (zn _)
 ·exact I.stkNot (g b d).2.1 (g b d).2.2.1 z
 ·obtain⟨p,q,rfl,R⟩:=xAkt rfl j D
  obtain⟨U,Q,J,G⟩:=C.cap p q;obtain⟨Y,T,P⟩:=I.loc;obtain⟨u,r,l⟩:=P p.2 p.1 v U R J;refine⟨u,r,.inr ⟨G,?_⟩⟩;rcases l with⟨k,_⟩|⟨_,c,V,n,w,E⟩
  ·exact absurd k Q
  ·obtain⟨L,f⟩:=C.has p.1 G
   have:=C.sub p.1 L f;rw[V]at this;cases this;exact⟨c,f,n,old _ _ w,E⟩
 ·obtain⟨v,o,n,K⟩:=I.cell x c (C.sub x c e)
  exact⟨v,o,old _ _ n,K⟩
 ·have F:p=(s.heap.objs.size,accObj []):=by simpa[compCx] using q
  subst F;refine⟨M,I.hok.fresh (qb _),?_,?_,λv z=>by cases z⟩
  ·exact qi (wk _)
  ·exact I.stkNot (q0 I.lt) (I.nofs (qb _))
 ·show(compSt own fr σ).length=(own++fr.map (·.1)).length
  unfold compSt;rw[qe,qe,qf,qf,qf]
def HOk.track(x:HOk P w H h)(hn:H a=none)(new:ObjOk P w (upd H a o) h a o):HOk P w (upd H a o) h:=λb u e=>by
 by_cases d:b=a
 ·subst d;rw[xAab]at e;cases e;exact new
 ·rw[xAae d]at e
  exact(x b u e).stay (λc v _ q=>q) (λc q=>by rw[xAae (xAad q hn)];exact q) λc xs q=>by rw[xAae (xAad q hn)];exact q
def Inv.unblock{pins:List (Addr×Obj)}{σ:St}{H j:Hp}{s f:Shared}{N:List Str}{x:St}{D:Scope}{cl:List (Str×Addr)}{r:List Addr}{h':Heap}{ys:List V}{us:List Value}(I:Inv X pins σ H s)(p:∀b∈r,FpOk X pins H b)(l:Inv (compCx X N D cl s H r) [(s.heap.objs.size,accObj us)] x j f)(A:Vals ys us)(hz:ys.length≤sizeLine)(B:Heap.SameBut (s.heap.objs.size+1) f.heap h'):Inv X pins σ (upd j s.heap.objs.size (.lst ys)) { f with heap:=h' }:=by
 obtain⟨t,i,neD,_,_⟩:=l.pin (s.heap.objs.size,accObj us) (List.mem_append_right _ (by simp));have t:f.heap.get? s.heap.objs.size=some (accObj us):=t;have i:j s.heap.objs.size=none:=i;have d:Un (frs X.stack) r H j s.heap f.heap:=l.base;have y:j (s.heap.objs.size+1)=none:=l.free;have a:∀b o,s.heap.get? b=some o->b≠s.heap.objs.size+1:=λb o e=>qi (wj (qG e));have m:∀b o,s.heap.get? b=some o->b≠s.heap.objs.size:=λb o e=>qi (qG e);have g:∀b o,b≠s.heap.objs.size+1->f.heap.get? b=some o->h'.get? b=some o:=λb o h e=>B.extBut b o h e
 refine I.call' (s':={ f with heap:=h' }) (ch:=r) l.os ⟨λb o e n h1 h2=>g b o (a b o e) (d.keep b o e n h1 h2),λb o e n h1 h2=>?_,λb o e n h2=>?_,λb o e h2=>?_,
  λb xs e=>?_,λb o u e=>?_,λb ps e=>?_,λb o xs e n=>g b o (a b o e) (d.tupo b o xs e n)⟩ ?_ l.bare λb h=>⟨(p b h).2.2.2.1,(p b h).2.1,(p b h).2.2.2.2.1,(p b h).2.2.2.2.2⟩
 ·obtain⟨E,q⟩:=d.slot b o e n h1 h2
  exact⟨E,g b _ (a b o e) q⟩
 ·rw[xAae (m b o e)];exact d.free b o e n h2
 ·obtain⟨o',q⟩:=d.there b o e h2
  exact⟨o',g b _ (a b o e) q⟩
 ·have q:=d.tups b xs e
  rw[xAae (xAad q i)];exact q
 ·have q:=d.frzs b o u e
  rw[xAae (xAad q i)];exact q
 ·obtain⟨more,q⟩:=d.tbls b ps e
  exact⟨more,by rw[xAae (xAad q i)];exact q⟩
 ·have C:HOk X.prog X.w j h':=λb u e=>(l.hok b u e).stay (λc v k q=>g c v (λz=>by
   subst z;rcases k with k|k
   ·subst k;rw[y]at e;cases e
   ·rw[y]at k;cases k) q) (λ_ q=>q) λ_ _ q=>q
  refine C.track i ⟨hz,us,us.length,A,g _ _ (qi (wk _)) t⟩
def xAhy{R tg M:Expr}{N:List Expr}{j:Scope}{pos:Pos}{own:List Str}{fr:List (Str×Nat)}{cl:List (Str×Addr)}{g:TG}{tt:TT}{te:TE}{RR:Value->Addr->Result->Shared->Prop}{E:Value->Shared->Prop}{pins:List (Addr×Obj)}{σ:St}{H2:Hp}{s2:Shared}{Q:VK}{it:Addr}{d:List Addr}{tn:Nat->Heap->Prop}{J:It}(hc:X.calm=true)(S:CompSc j)(C:Caps X j cl fr)(hg:∀s H d,PG (compCx X (own++fr.map (·.1)) j cl s H d) tg g)(hfr:∀σ,Fresh g (compSt own fr σ))(ht:∀s H d,PTs (compCx X (own++fr.map (·.1)) j cl s H d) N tt)(he:∀s H d,PE (compCx X (own++fr.map (·.1)) j cl s H d) R te)(I2:Inv X pins σ H2 s2)(T:Turn X.prog X.w X.K tg J d it tn)(P:tn 0 s2.heap)(f2:∀b∈d,FpOk X pins H2 b)(hW:LCb own fr g tt te σ Q J H2)(hRR:∀s5 L ys us,Inv (compCx X (own++fr.map (·.1)) j cl s2 H2 d) [(s2.heap.objs.size,accObj us)] (compSt own fr σ) L s5->Vals ys us->ys.length≤sizeLine->(∀p,L p=none->Q (.ref p) (upd L p (.lst ys))) →
   RR (.ref s2.heap.objs.size) (s2.heap.objs.size+1) (.ok .next) s5) :
  wpAny (model X.prog X.w) X.A (newList []) (λacc s3=>wpAny (model X.prog X.w) X.A (newFunctionEnv j X.env.globals cl [] X.env.qual none .none (some X.env)) (λce s4 =>
   codeAny (model X.prog X.w) X.A (.compStart (.ListComp R [⟨tg,M,N,0⟩] j pos) 0 (.ref it) acc { ce with scope:=relabel j X.env }) (RR acc ce.locals) s4) E s3) E s2:=by
 obtain⟨W,⟨m0,w0⟩,turn⟩:=hW
 have B:∀b∈d,b<s2.heap.objs.size:=λb h=>by
  obtain⟨o,e,_⟩:=T.obj _ _ P b h;exact qG e
 refine wpAny_newObj_type (wpAny_newFunctionEnv S.cell (by intro y hy;simp at hy) (λk f a=>?_) S.kind);dsimp only at f a ⊢;generalize U:s2.heap.push { cls:=.type "list",dict:=none,data:=.seq ([]:List Value).toArray }=G at f a ⊢
 have hC:G.objs.size=s2.heap.objs.size+1:=by rw[←U,Heap.size_push]
 rw[hC]at f a ⊢
 have old:∀b o,s2.heap.get? b=some o->k.get? b=some o:=λb o e=>by
  exact a.extBut b o (qi (wj (qG e))) (qH _ (U▸qH _ e))
 have hacc:k.get? s2.heap.objs.size=some (accObj []):=a.extBut _ _ (qi (wk _)) (qH _ (U▸qL _ rfl));have I3:=I2.block (own:=own) (tk:=s2.toks+([]:List (Str×Value)).length) f2 B S C old f hacc
 have m:∀{H':Hp} {us:List Value},(∀b∈d,H' b=none)->∀b∈d,FpOk (compCx X (own++fr.map (·.1)) j cl s2 H2 d) [(s2.heap.objs.size,accObj us)] H' b:=λ{H' us} hn b h=>by
  obtain⟨_,g1,g2,g3,g4,g5⟩:=f2 b h;have hbl:=B b h;refine⟨hn b h,?_,I2.stkNot g1 g2,.inl h,λx c e=>g4 x c (C.sub x c e),λp O=>?_⟩
  ·exact qi (wj hbl)
  ·have l:p=(s2.heap.objs.size,accObj us):=by simpa[compCx] using O
   subst l;exact q0 hbl
 have I:∀s3:Shared,s3={ s2 with heap:=k,toks:=s2.toks+([]:List (Str×Value)).length } →
   codeAny (model X.prog X.w) X.A (.compLoop (.ListComp R [⟨tg,M,N,0⟩] j pos) 0 (.ref it) (.ref s2.heap.objs.size) (compEnvC j cl (s2.heap.objs.size+1) X.env))
    (RR (.ref s2.heap.objs.size) (s2.heap.objs.size+1)) s3:=by
  rintro s3 rfl
  refine xAnq (λn s'=>∃i ys us H',Vals ys us/\Inv (compCx X (own++fr.map (·.1)) j cl s2 H2 d) [(s2.heap.objs.size,accObj us)] (compSt own fr σ) H' s'/\tn i s'.heap/\(∀b∈d,H' b=none)/\ys.length≤sizeLine/\W i n ys H') ?_ m0
   ⟨0,[],[],H2,.nil,I3,T.keep _ _ _ P λb _ o e=>old b o e,λb h=>(f2 b h).1,qy _,w0⟩
  rintro n s4 ⟨i,ys,us,L,hv,I4,st4,fr4,hz,w4⟩;rcases turn i n ys L w4 with⟨stop,fin⟩|⟨go,hlt,step⟩
  ·refine thn (T.done (compCx X (own++fr.map (·.1)) j cl s2 H2 d) rfl rfl rfl hc i _ s4 _ L _ I4 (m fr4) st4 stop) λr s5 ⟨hr,I5⟩=>?_
   subst hr;exact hRR s5 L ys us I5 hv hz fin
  ·refine thn (T.item (compCx X (own++fr.map (·.1)) j cl s2 H2 d) rfl rfl rfl hc i _ s4 _ L _ I4 (m fr4) st4 go) λr s5 ⟨u,hr,h5⟩=>?_
   subst hr;refine thn h5 λ_ V ⟨x,H6,I6,r6,y6,F,fr6⟩=>?_;have I6':=I6.pinned (m fr6) (T.obj _ _ F);refine thn (hg s2 H2 d _ V _ H6 x u _ I6' r6 (hfr σ x H6 _ (step x H6 y6))) λ_ s7 ⟨t,H7,I7,k7,q7⟩=>?_;refine thn (ht s2 H2 d _ s7 t H7 _ I7 q7) λok s8 ⟨H8,I8,q8⟩=>?_
   have D:∀{pins':List (Addr×Obj)} {σ':St} {H':Hp} {s':Shared},Inv (compCx X (own++fr.map (·.1)) j cl s2 H2 d) ([(s2.heap.objs.size,accObj us)]++pinsAt d V.heap) σ' H' s'->∀b∈d,(∀o,V.heap.get? b=some o->s'.heap.get? b=some o)/\H' b=none:=λ{pins' σ' H' s'} I' b h=>by
    obtain⟨o,e,_⟩:=T.obj _ _ F b h;have z:=I'.pin (b,o) (zu _ (zu _ (xAdk h e)));exact⟨λo' e'=>by rw[e]at e';cases e';exact z.1,z.2.1⟩
   cases ok with
   |false =>
    rw[qB qk]at q8;obtain⟨m',hm,w8⟩:=q8;rw[qB qk];exact⟨m',hm,i+1,ys,us,H8,hv,(I8.unpinned).weak k7.1 k7.2,T.keep _ _ _ F λb h o e=>(D (pins':=[]) I8 b h).1 o e,λb h=>(D (pins':=[]) I8 b h).2,hz,w8⟩
   |true =>
    rw[qF rfl]at q8;rw[qF rfl];refine thn (he s2 H2 d _ s8 t H8 _ I8 q8) λy Y ⟨v,H9,Z,r9,m',hm,w9⟩=>?_;have pD:=Z.pin (s2.heap.objs.size,accObj us) (List.mem_append_right _ (List.mem_append_left _ (by simp)));have zD:Y.heap.get? s2.heap.objs.size=some (accObj us):=pD.1;have nD:H9 s2.heap.objs.size=none:=pD.2.1;refine append_at (hsz:=by show us.toArray.size≤sizeLine;rw[qr,←hv.length];exact hz) zD λh5 hs5 hD5=>?_;have Ia:Inv (compCx X (own++fr.map (·.1)) j cl s2 H2 d) (pinsAt d V.heap) t H9 Y:=Z.pins_of λp O=>Z.pin p (zu _ (zu _ O));have neD:s2.heap.objs.size≠s2.heap.objs.size+1:=qi (wk _)
    have Ib:Inv (compCx X (own++fr.map (·.1)) j cl s2 H2 d) (pinsAt d V.heap) t H9 { Y with heap:=h5,toks:=Y.toks }:=Ia.turned (it:=s2.heap.objs.size) (λb o h e=>hs5.extBut b o h e) nD neD (.inr (qb _)) (λx c e z=>by
      obtain⟨v',q⟩:=I2.cell x c (C.sub x c e);have q':=q.lt;rw[z]at q'
      exact zn _ q') λp O z=>by
      have l:p∈pinsAt d V.heap:=by simpa[compCx] using O
      have q':=B p.1 (xAhn l).1;rw[z]at q';exact zn _ q'
    have Ic:Inv (compCx X (own++fr.map (·.1)) j cl s2 H2 d) [(s2.heap.objs.size,accObj (us++[y]))] t H9 { Y with heap:=h5,toks:=Y.toks }:=Ib.pins_of λp O=>by
     have l:p=(s2.heap.objs.size,accObj (us++[y])):=by simpa using O
     subst l;exact⟨hD5.trans (congrArg some (xAqp us y)),nD,neD,pD.2.2.2.1,λv z=>by cases z⟩
    refine⟨m',hm,i+1,ys++[v],us++[y],H9,hv.append (.cons r9 .nil),Ic.weak k7.1 k7.2,T.keep _ _ _ F λb h o e=>?_,λb h=>(D (pins':=[]) Z b h).2,?_,w9⟩
    ·exact hs5.extBut b o (qi (B b h)) ((D (pins':=[]) Z b h).1 o e)
    ·rw[qe];exact hlt
 exact codeAny_compStart_list (I _ rfl) (T.self _ 0 _ _ _ (T.keep _ _ _ P λb _ o e=>old b o e) (I _ rfl))
def xAbi{own:List Str}{cl:List (Str×Addr)}{g:TG}(K:X.calm=true)(hi:PI X tg a o)(S:CompSc b)(C:Caps X b cl fr)(y:∀s H c,PG (compCx X (own++fr.map (·.1)) b cl s H c) tg g)(i:∀σ,Fresh g (compSt own fr σ))(D:∀s H c,PTs (compCx X (own++fr.map (·.1)) b cl s H c) f r)(B:∀s H c,PE (compCx X (own++fr.map (·.1)) b cl s H c) d te)(v:∀x,foldedSetIterable a X.env x=pure x:=by intro _;rfl) :
  PE X (.ListComp d [⟨tg,a,f,0⟩] b pos) (tLC own fr o g r te):=by
 refine⟨?_⟩;intro pins s σ H Q I h;rw[eval_ListComp];refine wpAny_comprehension_free (use:=none) rfl v C.clos S.kind S.nms (thn (hi pins s σ H _ I h) λL N h1=>thn h1 λG s2 h2=>?_);obtain⟨it,c,P,J,H2,e,q,T,n,p,z⟩:=h2;subst e;refine xAhy (RR:=λacc A=>compPost (model X.prog X.w) X.A X.xe none (EP X pins σ Q) acc A) K S C y i D B q T n p z λM t ys us k u hz j=>?_;obtain⟨E,m,_⟩:=id k.loc;have F:t s2.heap.objs.size=none:=(k.pin (s2.heap.objs.size,accObj us) (List.mem_append_right _ (by simp))).2.1;exact⟨E,m,λh' l=>⟨.ref s2.heap.objs.size,upd t s2.heap.objs.size (.lst ys),q.unblock p k u hz l,O,j _ F⟩⟩
def xAhz{own:List Str}{cl:List (Str×Addr)}{g:TG}(hN:X.N.Nodup)(hy:X.N[i]?=some y)(hx:Loc X.env.scope y)(hc:X.calm=true)(hi:PI X tg d W)(S:CompSc m)(C:Caps X m cl fr)(hg:∀s H u,PG (compCx X (own++fr.map (·.1)) m cl s H u) tg g)(G:∀σ,Fresh g (compSt own fr σ))(ht:∀s H u,PTs (compCx X (own++fr.map (·.1)) m cl s H u) l Z)(he:∀s H u,PE (compCx X (own++fr.map (·.1)) m cl s H u) k te)(hs:∀x,foldedSetIterable d X.env x=pure x:=by intro _;rfl)(F:swapsWith (.ListComp k [⟨tg,d,l,0⟩] m pos) (some (.Name y r)) n.line X.env=pure true:=by rfl)(hf:X.fn y=true\/X.env.scope.names.lookup y=some .local:=by first|exact .inl rfl|exact .inr rfl|assumption) :
  PS X (.Assign [.Name y r] (.ListComp k [⟨tg,d,l,0⟩] m pos) n) (tAsg (tLC own fr W g Z te) (gName i)):=by
 refine⟨?_⟩;intro pins s σ H D I h;rw[exec_Assign_Name_used _ _ _ _ F];refine qA (wpAny_standAt (qA ?_));show wpAny _ X.A (do let _ ←comprehension (.ListComp k [⟨tg,d,l,0⟩] m pos) m X.env _ (newList []) false (eval d X.env) (some (assign (.Name y r) X.env))) _ _ s
 refine qA (thn (wpAny_comprehension_free (use:=some (assign (.Name y r) X.env)) (Q:=λ_ s'=>SP X pins D .next s') rfl hs C.clos S.kind S.nms
  (thn (hi pins s σ H _ I h) λxv s1 h1=>thn h1 λitv s2 h2=>?_)) λ_ s' hq=>qE (qE hq))
 obtain⟨it,u,tn,J,H2,e,t,T,V,Y,hW⟩:=h2;subst e;refine xAhy (RR:=λacc A=>compPost (model X.prog X.w) X.A X.xe (some (assign (.Name y r) X.env)) (λ_ s'=>SP X pins D .next s') acc A) hc S C hg G ht he t T V Y hW λs5 O ys us E hv hz K=>?_;obtain⟨m5,U,_⟩:=id E.loc;have nD:O s2.heap.objs.size=none:=(E.pin (s2.heap.objs.size,accObj us) (List.mem_append_right _ (by simp))).2.1;have nC:O (s2.heap.objs.size+1)=none:=E.free;have I6:Inv X pins σ (upd O s2.heap.objs.size (.lst ys)) s5:=t.unblock Y E hv hz (Heap.SameBut.refl _ _);show wpAny _ X.A (assign (.Name y r) X.env (.ref s2.heap.objs.size)) _ _ s5;refine wpAny_assign_Name (xAhm (v:=.ref s2.heap.objs.size) I6 hN hy hx rfl (λs7 I7 ⟨a,P,M⟩=>?_) hf);have j:s2.heap.objs.size<s2.heap.objs.size+1:=wk _;have B:s2.heap.objs.size+1≠X.env.locals:=q0 (yi t.lt j)
 have f:∀x c,X.env.cells.lookup x=some c->c≠s2.heap.objs.size+1:=λx c e=>by
  obtain⟨v',q⟩:=t.cell x c e;exact qi (yi q.lt j)
 have L:s2.heap.objs.size+1≠a:=by
  rcases M with rfl|M
  ·exact B
  ·exact Ne.symm (f _ _ M)
 refine⟨m5,U.sameBut P L,λh' R=>⟨_,_,?_,K _ nD⟩⟩
 exact I7.turned (it:=s2.heap.objs.size+1) (t':=s7.toks) (λb o hb e=>R.extBut b o hb e) (by rw[xAae (q0 j)];exact nC) B (.inr (qc t.sz (zt j))) f λp hp z=>by
  have q:=qG (t.pin p hp).1;rw[z]at q;exact absurd (yi j q) (zn _)
end
section
variable {X:Cx}
inductive IRcall_isinst(K:PySem.W.Frag)(xs:List V)(H:Hp)(Q:VK):Prop
 |mk (x:_) (T:_) (t:_) (b:_) (h0_:xs=[x,.ty T]) (h1_:TyOf K H x t) (h2_:PySem.W.kitOne K t (.type T)=some b) (h3_:Q (.bl b) H):IRcall_isinst K xs H Q
def Rcall_isinst(K:PySem.W.Frag):List V->Hp->VK->Prop:=λxs H Q=>IRcall_isinst K xs H Q
def xAji:CallR X (.builtin "isinstance") (Rcall_isinst X.K):=by
 intro pins s σ H xs us Q I r h;obtain⟨x,T,t,b,rfl,ty,e,q⟩:=h;obtain⟨u,v,rfl,a,c⟩:=vals2 r;cases(show v=Value.type T from c);exact xAni I a ty e λtk=>⟨.bl b,H,I.tok tk,O,q⟩
end
section
variable {X:Cx}{pins:List (Addr×Obj)}{σ σ':St}{H H':Hp}{s s':Shared}
def Inv.track{a:Addr}{o:HO}(d:Inv X pins σ H s)(I:Inv X pins σ' H' s')(i:s.heap.objs.size≤a)(hn:H' a=none)(new:ObjOk X.prog X.w (upd H' a o) s'.heap a o):Inv X pins σ' (upd H' a o) s':=by
 have ne:∀b,b<s.heap.objs.size->b≠a:=λb j z=>by omega
 refine⟨I.ok,I.os,I.bare,⟨I.base.keep,I.base.slot,λb u e n g=>?_,I.base.there,λb xs e=>?_,λb u xs e=>?_,λb ps e=>?_,I.base.tupo⟩,I.loc,I.cell,?_,λx c e=>?_,λp f=>?_,I.hok.track hn new,I.len⟩
 ·rw[xAae (ne b (qq (qG e) d.sz))]
  exact I.base.free b u e n g
 ·have q:=I.base.tups b xs e
  rw[xAae (xAad q hn)];exact q
 ·have q:=I.base.frzs b u xs e
  rw[xAae (xAad q hn)];exact q
 ·obtain⟨more,q⟩:=I.base.tbls b ps e
  exact⟨more,by rw[xAae (xAad q hn)];exact q⟩
 ·rw[xAae (ne _ d.lt)];exact I.free
 ·obtain⟨v,q⟩:=d.cell x c e
  rw[xAae (ne _ q.lt)];exact I.freeC x c e
 ·obtain⟨h1,h2,h⟩:=I.pin p f
  refine⟨h1,?_,h⟩;rw[xAae (ne _ (qG (d.pin p f).1))];exact h2
def Inv.turnedN{t':Nat}{h':Heap}{ch:List Addr}(I:Inv X pins σ H s)(f:∀b∈ch,FpOk X pins H b)(k:∀b o,b∉ch->s.heap.get? b=some o->h'.get? b=some o):Inv X pins σ H { s with heap:=h',toks:=t' }:=by
 have d:∀b u,H b=some u->b∉ch:=λb u e z=>by rw[(f b z).1]at e;cases e
 refine I.step (g':=s.gens) (d':=s.drawn) (ch:=ch) (λb g=>⟨(f b g).2.2.2.1,(f b g).2.1,(f b g).2.2.2.2.1,(f b g).2.2.2.2.2⟩) (λb o _ _ a e _=>k b o a e) (λb o _ _ a e _=>⟨o.slots,k b o a e⟩) (λ_ _ _ _ n=>n)
  (λb o a e=>⟨o,k b o a e⟩) (λ_ _ e=>e) (λ_ _ _ e=>e) (λb ps e=>⟨#[],by rw[e];simp⟩) (λb o xs e n=>k b o (d b _ n) e) (λm i=>?_) (λb u e=>?_) I.bare
 ·obtain⟨o,es,ep,h,r⟩:=i
  exact⟨o,es,ep,k _ o (λz=>(f _ z).2.1 rfl) h,r⟩
 ·refine(I.hok b u e).stay (λc v a q=>k c v ?_ q) (λ_ q=>q) λ_ _ q=>q
  rcases a with z|z
  ·rw[z];exact d b u e
  ·exact d c _ z
end
def Ite(a:Addr):It :=
 ⟨λi H=>∃xs x,SqL H a xs/\xs[i]?=some x,λi H x H'=>∃p v,H p=none/\(∀xs,SqL H a xs->xs[i]?=some v)/\x=.ref p/\H'=upd H p (.tup [.int i,v]),λi H=>∃xs,SqL H a xs/\xs.length=i⟩
def xAnr{P:Program}{w:World}{K:PySem.W.Frag}{es:List Expr}{k:Nat}{tp:Pos}(a it e:Addr)(Q:a≠e)(m:a≠it)(l:e≠it) :
  Turn P w K (.Tuple es k tp) (Ite a) [e,it] e (λi h=>(∃old,IsEnum h e it i old)/\h.IsListIter it a i) where
 mem:=by simp
 obj:=λi h st b f=>by
  rcases qz.mp f with rfl|f
  ·obtain⟨⟨old,q⟩,_⟩:=st
   exact⟨_,q,λv z=>by cases z⟩
  ·have q:b=it:=by simpa using f
   subst q;obtain⟨_,o,q,c,d⟩:=st;exact⟨o,q,λv z=>by rw[d]at z;cases z⟩
 keep:=λi h h' st kk=>⟨let⟨old,q⟩:=st.1;⟨old,kk e (by simp) _ q⟩,st.2.at λo q=>kk it (by simp) o q⟩
 item:=by
  intro X M F R T i pins s σ H E I C st G;subst M F R;obtain⟨xs,x,D,L⟩:=G;obtain⟨its,N,p,hz⟩:=I.list D;obtain⟨u,Z,ru⟩:=N.get L;obtain⟨⟨old,t⟩,g⟩:=st
  have V:i<its.toArray.size:=by
   have:=(qm.mp Z).1;simpa using this
  refine wpAny_pyNext_enum_itemD (Draws.list (show X.A.in1.handled=none from I.ok.hd T) it a m its.toArray) t ⟨g,p.isList⟩ V l (by simp[l,Ne.symm Q]) λy h' tk J ho U hT hsz hk=>?_
  have ex:y=u:=by
   have q:its.toArray[i]?=some y:=J
   have q':its[i]?=some y:=by simpa using q
   rw[Z]at q';exact(qK q').symm
  subst ex;refine⟨_,O,wpAny_letOwnedTupleGo_enum ho λn B j=>?_⟩
  have I1:Inv X pins σ H { s with heap:=n,toks:=tk+1 }:=I.turnedN C λb o f q=>j.extBut b o (λz=>f (by simp[z])) (hk b o (λz=>f (by simp[z])) (λz=>f (by simp[z])) q)
  have S:s.heap.objs.size≠e:=q0 (qG t);have eT:n.get? s.heap.objs.size=some { cls:=.type "tuple",data:=.seq #[.int i tk,y] }:=j.extBut _ _ S hT;have Y:H s.heap.objs.size=none:=I.hok.fresh (qb _);refine⟨.ref s.heap.objs.size,upd H s.heap.objs.size (.tup [.int i,x]),I.track I1 (Nat.le_refl _) Y ⟨?_,[.int i tk,y],.cons ⟨tk,O⟩ (.cons ru .nil),⟨_,eT,O,_,O⟩⟩,O,⟨_,x,Y,λys hy=>by rw[I.list_inj hy D];exact L,O,O⟩,⟨⟨_,by simpa using B⟩,?_⟩,λb f=>?_⟩
  ·show 2≤sizeLine
   decide
  ·obtain⟨o,q,r⟩:=U.1
   exact⟨o,j.extBut _ _ (Ne.symm l) q,r⟩
  ·obtain⟨o,q⟩:∃o,s.heap.get? b=some o:=by
    rcases qz.mp f with rfl|f
    ·exact⟨_,t⟩
    ·have q:b=it:=by simpa using f
     subst q;obtain⟨o,q,_⟩:=g;exact⟨o,q⟩
   rw[xAae (qi (qG q))];exact(C b f).1
 done:=by
  intro X M F R T i pins s σ H E I C st G;subst M F R;obtain⟨xs,D,L⟩:=G;obtain⟨its,N,p,hz⟩:=I.list D;obtain⟨⟨old,t⟩,g⟩:=st;have hl:=N.length
  have hi:i=its.toArray.size:=by rw[qr];omega
  have hD:=Draws.list (prog:=X.prog) (w:=X.w) (show X.A.in1.handled=none from I.ok.hd T) it a m its.toArray;rw[hi]at g
  exact wpAny_pyNext_enum_endD hD t ⟨g,p.isList⟩ λh' eb=>⟨O,I.turnedN C λb o f q=>eb b o (λz=>f (by simp[z])) q⟩
 self:=λ_ _ _ _ _ st h=>let⟨old,q⟩:=st.1;wpAny_pyIter_enum q h
section
variable {X:Cx}
inductive IiEnum(R:It->Hp->Prop)(vs:List V)(H1:Hp):Prop
 |mk (a:_) (h0_:vs=[.ref a]) (h1_:(∃xs,SqL H1 a xs)) (h2_:R (Ite a) H1):IiEnum R vs H1
def iEnum(ta:TA):TI:=λσ H R=>ta σ H λvs H1=>IiEnum R vs H1
def xAte(r:Gl X "enumerate")(y:X.mg "enumerate"=none)(A:PA X [a] ta)(o:starEach [a] X.env=[(false,eval a X.env)]:=by rfl) :
  PI X (.Tuple es k x) (.Call (.Name "enumerate" p) [a] [] pos) (iEnum ta):=by
 refine⟨?_⟩;intro pins s σ H R I h;refine Call_ (xAdw I r y boot_enumerate (PyProof.Rows.callWith_type1 (thn (A pos pins s σ H _ I h) λus c ⟨vs,H1,g,B,z⟩=>?_) o rfl));obtain⟨l,e,⟨xs,C⟩,q⟩:=z;subst e;obtain⟨u,rfl,w⟩:=vals1 B;cases w;obtain⟨its,D,n,hz⟩:=g.list C
 have f:l<c.heap.objs.size:=by obtain⟨_,e,_⟩:=n.isList;exact qG e
 refine call_enumerate_list n.isList λh' m j hsz t=>?_;refine wpAny_pyIter_enum m ?_;have v:Inv X pins σ H1 { c with heap:=h' }:=g.kept (t':=c.toks) t;refine⟨c.heap.objs.size+1,[c.heap.objs.size+1,c.heap.objs.size],_,_,H1,O,v,xAnr l c.heap.objs.size (c.heap.objs.size+1) (qi (wj f)) (qi f) (q0 (wk _)),⟨⟨_,m⟩,j⟩,λb i=>?_,q⟩
 have d:c.heap.objs.size≤b:=by
  rcases qz.mp i with rfl|i
  ·exact wg _
  ·have e:b=c.heap.objs.size:=by simpa using i
   exact Nat.le_of_eq e.symm
 exact g.fpOk d (g.hok.fresh d)
end
def xAgn(h:(relabel a env).names.lookup x=some k):∃y∈a.names,y.2=k\/y.2=.free:=by
 have c:=PySem.mem_of_lookup h;obtain⟨y,d,e⟩:=qj.mp c;refine⟨y,d,?_⟩;obtain⟨n,k0⟩:=y;dsimp only at e
 split at e
 ·rename_i b
  rw[zb,zb]at b;exact .inr (beq_iff_eq.mp b.1.1)
 ·cases e
  exact .inl rfl
def caps0(h:∀y∈b.names,y.2≠.free/\y.2≠.cell):Caps X b [] [] where
 clos:=closureFor_none λy a=>(h y a).1
 sub:=λx c e=>by cases e
 has:=λx e=>by
  exfalso;rcases e with e|e <;> obtain⟨y,a,z⟩:=xAgn e <;> rcases z with z|z
  ·exact(h y a).2 z
  ·exact(h y a).1 z
  ·exact(h y a).1 z
  ·exact(h y a).1 z
 cap:=λp d=>nomatch d
def Same.up(e:Same H H')(h:H' p=none):Same H (upd H' p o):=λb u q=>by
 rw[xAae (xAad (e b u q) h)];exact e b u q
def Same.new(h:H p=none):Same H (upd H p o):=(Same.refl H).up h
def Same.wr(e:Same H H')(h:H p=none):Same H (upd H' p o):=λb u q=>by
 rw[xAae (xAad q h)];exact e b u q
section
variable {X:Cx}
inductive IrIxA(x:V)(y:V)(H:Hp)(Q:VK):Prop
 |mk (p:_) (xs:_) (i:_) (h0_:x=.ref p) (h1_:y=.int i) (h2_:SqL H p xs) (h3_:0≤i) (h4_:i<(xs.length:Int)) (h5_:∀v∈xs,Q v H):IrIxA x y H Q
def rIxA:R2:=λx y H Q=>IrIxA x y H Q
def ix_any:IxR X (rIxA):=by
 intro value a pins s σ H x y v u Q I c d h e;obtain⟨p,xs,i,ex,f,g,h0,h1,q⟩:=h;obtain⟨j,rfl⟩:=Int.eq_ofNat_of_zero_le h0
 have b:j<xs.length:=by omega
 exact xAkn value a pins s σ H x y v u Q I c d ⟨p,xs,j,xs[j],ex,f,g,xAkm (qg b),q _ (yk b)⟩ e
end
section
variable {X:Cx}{es:List Expr}{t:TA}{pos:Pos}
def tTupA(t:TA):TE:=λσ H Q=>t σ H λxs H1=>xs.length≤sizeLine/\∀p H',H1 p=none->Same H1 H'->H' p=some (.tup xs)->Q (.ref p) H'
def tLstA(t:TA):TE:=λσ H Q=>t σ H λxs H1=>xs.length≤sizeLine/\∀p H',H1 p=none->Same H1 H'->H' p=some (.lst xs)->Q (.ref p) H'
def tDctA:TE:=λ_ H Q=>∀p H',H p=none->Same H H'->H' p=some (.dK [])->Q (.ref p) H'
def xAah{x1}(h:PA X es t):PE X (.Tuple es x1 pos) (tTupA t):=by
 refine⟨?_⟩;intro pins s σ H Q I f;refine wpAny_Tuple_spliced (thn (h pos pins s σ H _ I f) λus a ⟨xs,H1,d,r,z,q⟩=>⟨by rw[←r.length];exact z,?_⟩);have c:H1 a.heap.objs.size=none:=d.hok.fresh (qb _);refine⟨.ref a.heap.objs.size,upd H1 a.heap.objs.size (.tup xs),d.laid (t':=a.toks) (λb u e=>qH _ e) (qb _) ?_,O,q _ _ c (Same.new c) xAab⟩;exact⟨z,us,r,⟨_,qL _ rfl,O,_,O⟩⟩
def xAal(h:PA X es t):PE X (.List es pos) (tLstA t):=by
 refine⟨?_⟩;intro pins s σ H Q I f;refine wpAny_List_spliced (thn (h pos pins s σ H _ I f) λus a ⟨xs,H1,d,r,z,q⟩=>⟨by rw[←r.length];exact z,?_⟩);have c:H1 a.heap.objs.size=none:=d.hok.fresh (qb _);refine⟨.ref a.heap.objs.size,upd H1 a.heap.objs.size (.lst xs),d.laid (t':=a.toks) (λb u e=>qH _ e) (qb _) ?_,O,q _ _ c (Same.new c) xAab⟩;exact⟨z,us,0,r,qL _ rfl⟩
def xAph:PE X (.Dict [] [] pos) tDctA:=⟨λpins s σ H Q I h=>xAqo pins s σ H Q I λp a=>h p _ a (Same.new a) xAab⟩
def OpR.imp(h:OpR X f r)(i:∀x y H Q,a x y H Q->r x y H Q):OpR X f a:=λpins s σ H x y v u Q I b c q=>h pins s σ H x y v u Q I b c (i x y H Q q)
def SlR.imp(h:SlR X r)(i:∀x lo hi H Q,a x lo hi H Q->r x lo hi H Q):SlR X a:=λpins s σ H x v e c lo hi g Q I b d j f q=>h pins s σ H x v e c lo hi g Q I b d j f (i x lo hi H Q q)
inductive IrCatA(x:V)(y:V)(H:Hp)(Q:VK):Prop
 |mk (l:_) (b:_) (xs:_) (zs:_) (h0_:x=.ref l) (h1_:y=.ref b) (h2_:H l=some (.lst xs)) (h3_:H b=some (.lst zs)) (h4_:xs.length+zs.length≤sizeLine) (h5_:∀p H',H p=none->Same H H'->H' p=some (.lst (xs++zs))->Q (.ref p) H'):IrCatA x y H Q
def rCatA:R2:=λx y H Q=>IrCatA x y H Q
def xApi:OpR X (binaryOp .Add) rCatA:=op_cat.imp λ_ _ _ _ ⟨l,b,xs,zs,h1,h2,c,e,d,q⟩=>⟨l,b,xs,zs,h1,h2,c,e,d,λp a=>q p _ a (Same.new a) xAab⟩
inductive IrSlLA(x:V)(lo:Option Int)(hi:Option Int)(H:Hp)(Q:VK):Prop
 |mk (a:_) (xs:_) (h0_:x=.ref a) (h1_:SqL H a xs) (h2_:∀p H',H p=none->Same H H'->H' p=some (.lst (cutV xs lo hi))->Q (.ref p) H'):IrSlLA x lo hi H Q
def rSlLA:V->Option Int->Option Int->Hp->VK->Prop:=λx lo hi H Q=>IrSlLA x lo hi H Q
def xAku:SlR X (rSlLA):=xAsv.imp λ_ _ _ _ _ ⟨a,xs,h1,h2,q⟩=>⟨a,xs,h1,h2,λp b=>q p _ b (Same.new b) xAab⟩
end
def clo(env:Env):List (Str×NameKind)->List (Str×Addr)->List (Str×Addr)
 |[],acc=>acc
 |(n,k)::r,acc=>clo env r (if k==.free then(n,(env.cells.lookup n).getD 0)::acc else acc)
def xAcv(h:∀y∈b.names,y.2=.free->∃c,env.cells.lookup y.1=some c):closureFor b env=pure (clo env b.names []):=by
 have all:∀(names:List (Str×NameKind)) (acc:List (Str×Addr)),(∀y∈names,y.2=.free->∃c,env.cells.lookup y.1=some c) →
   (forIn names acc λx r=>(match x with
    |(name,kind)=>if(kind==NameKind.free)=true then do
      let a ←cellOf env name
      pure (ForInStep.yield ((name,a)::r))
     else pure (ForInStep.yield r):Sem (ForInStep (List (Str×Addr)))))=pure (clo env names acc):=by
  intro names
  induction names with
  |nil=>intro acc _;rfl
  |cons x r i =>
   intro acc f;obtain⟨n,k⟩:=x;rw[jn]
   cases d:(k==NameKind.free) with
   |true =>
    obtain⟨c,j⟩:=f (n,k) qp (beq_iff_eq.mp d)
    have e:cellOf env n=pure c:=by unfold cellOf;rw[j]
    dsimp only;rw[qF d,e];refine Eq.trans (by first|rfl|simp) ((i ((n,c)::acc) λy g=>f y (List.mem_cons_of_mem _ g)).trans ?_);show _=pure (clo env r (if(k==NameKind.free)=true then(n,(env.cells.lookup n).getD 0)::acc else acc));rw[qF d,show env.cells.lookup n=some c from j];rfl
   |false =>
    dsimp only;rw[qB (by rw[d];exact qk)];refine Eq.trans (by first|rfl|simp) ((i acc λy g=>f y (List.mem_cons_of_mem _ g)).trans ?_);show _=pure (clo env r (if(k==NameKind.free)=true then(n,(env.cells.lookup n).getD 0)::acc else acc));rw[qB (by rw[d];exact qk)]
 have e:=all b.names [] h
 show((forIn b.names [] λx r=>(match x with
       |(name,kind)=>if(kind==NameKind.free)=true then do
         let a ←cellOf env name
         pure (ForInStep.yield ((name,a)::r))
        else pure (ForInStep.yield r):Sem (ForInStep (List (Str×Addr))))) >>= λcs=>pure cs)=_
 rw[e];rfl
def xAia:∀{names:List (Str×NameKind)} {acc:List (Str×Addr)},(∀y∈names,y.2=.free->∃c,env.cells.lookup y.1=some c)->(∀x c,acc.lookup x=some c->env.cells.lookup x=some c) →
  ∀x c,(clo env names acc).lookup x=some c->env.cells.lookup x=some c
 |[],_,_,h=>h
 |(n,k)::r,acc,hx,h=>by
  refine xAia (names:=r) (λy j=>hx y (qu _ j)) λx c e=>?_
  cases d:(k==NameKind.free) with
  |true =>
   rw[d,qF rfl]at e;obtain⟨g,i⟩:=hx (n,k) qp (beq_iff_eq.mp d);rw[yy]at e
   cases a:(x==n) with
   |true =>
    rw[a]at e;have q:=beq_iff_eq.mp a;subst q;have f:(env.cells.lookup x).getD 0=c:=qK e;have b:env.cells.lookup x=some g:=i;rw[b]at f ⊢;exact congrArg some f
   |false=>rw[a]at e;exact h x c e
  |false=>rw[d,qB qk]at e;exact h x c e
def xAib:∀{names:List (Str×NameKind)} {acc:List (Str×Addr)},((x,NameKind.free)∈names\/∃c,acc.lookup x=some c)->∃c,(clo env names acc).lookup x=some c
 |[],_,h=>h.elim (λz=>nomatch z) id
 |(n,k)::r,acc,h=>by
  refine xAib (names:=r) ?_
  have put:∀a,∃c,((n,a)::acc).lookup x=some c\/(x≠n/\acc.lookup x=none):=λa=>by
   rw[yy]
   cases b:(x==n) with
   |true=>exact⟨a,.inl rfl⟩
   |false =>
    cases f:acc.lookup x with
    |some c=>exact⟨c,.inl rfl⟩
    |none=>exact⟨0,.inr ⟨λz=>by subst z;simp at b,O⟩⟩
  rcases h with h|⟨c,h⟩
  ·rcases qz.mp h with q|q
   ·cases q
    refine .inr ?_;rw[qF (by rfl),yy]
    simp
   ·exact .inl q
  ·refine .inr ?_
   cases e:(k==NameKind.free) with
   |true =>
    rw[qF (by rfl)];obtain⟨d,q|q⟩:=put ((env.cells.lookup n).getD 0)
    ·exact⟨d,q⟩
    ·rw[q.2]at h;cases h
   |false=>rw[qB qk];exact⟨c,h⟩
def xAkv(h:(relabel a env).names.lookup x=some k):∃y∈a.names,y.1=x/\(y.2=k\/y.2=.free):=by
 have c:=PySem.mem_of_lookup h;obtain⟨y,d,e⟩:=qj.mp c;refine⟨y,d,?_⟩;obtain⟨n,k0⟩:=y;dsimp only at e
 split at e
 ·rename_i b
  rw[zb,zb]at b;cases e;exact⟨O,.inr (beq_iff_eq.mp b.1.1)⟩
 ·cases e
  exact⟨O,.inl rfl⟩
def xAtf{g:Scope}(h:∀x,X.env.kindOf x=some .cell->∃c,X.env.cells.lookup x=some c)(d:∀y∈g.names,y.2≠.cell)(a:∀y∈g.names,y.2=.free->X.env.kindOf y.1=some .cell)(f:∀p∈fr,X.N[p.2]?=some p.1/\X.env.kindOf p.1=some .cell/\(relabel g X.env).names.lookup p.1=some .cell):Caps X g (clo X.env g.names []) fr where
 clos:=xAcv λy b e=>h _ (a y b e)
 sub:=xAia (λy b e=>h _ (a y b e)) λx c e=>by cases e
 has:=λx e=>by
  refine xAib (.inl ?_);rcases e with e|e <;> obtain⟨y,b,rfl,z⟩:=xAkv e <;> rcases z with z|z
  ·exact absurd z (d y b)
  ·rw[←z];exact b
  ·rw[←z];exact b
  ·rw[←z];exact b
 cap:=λp i=>by
  obtain⟨h1,h2,j⟩:=f p i;exact⟨h1,by rw[h2];decide,.inr (.inl h2),.inl j⟩
def xAbz{g:Scope}(d:Scope)(N:List Str)(h1:X.env.scope=d)(h2:X.N=N)(j:∀x,X.env.kindOf x=some .cell->∃c,X.env.cells.lookup x=some c)(f:∀y∈g.names,y.2≠.cell)(h:∀y∈g.names,y.2=.free->d.names.lookup y.1=some .cell)(i:∀p∈fr,N[p.2]?=some p.1/\d.names.lookup p.1=some .cell/\(relabel g { scope:=d,locals:=0,globals:=0,cells:=[] }).names.lookup p.1=some .cell):Caps X g (clo X.env g.names []) fr:=by
 refine xAtf j f (λy l e=>?_) λp k=>?_
 ·show X.env.scope.names.lookup y.1=some .cell
  rw[h1];exact h y l e
 ·obtain⟨a,b,c⟩:=i p k
  refine⟨by rw[h2];exact a,?_,?_⟩
  ·show X.env.scope.names.lookup p.1=some .cell
   rw[h1];exact b
  ·have e:relabel g X.env=relabel g { scope:=d,locals:=0,globals:=0,cells:=[] }:=by
    unfold relabel Env.kindOf;rw[h1]
   rw[e];exact c
section
variable {X:Cx}
def CallR.imp(h:CallR X f r)(i:∀xs H Q,a xs H Q->r xs H Q):CallR X f a:=λpins s σ H xs us Q I b q=>h pins s σ H xs us Q I b (i xs H Q q)
inductive IrLstA(xs:List V)(H:Hp)(Q:VK):Prop
 |mk (p:_) (ys:_) (h0_:xs=[.ref p]) (h1_:(SqL H p ys\/SqT H p ys)) (h2_:∀l H',H l=none->Same H H'->H' l=some (.lst ys)->Q (.ref l) H'):IrLstA xs H Q
def rLstA:List V->Hp->VK->Prop:=λxs H Q=>IrLstA xs H Q
def xAns:CallR X (.type "list") (rLstA):=xAgl.imp λ_ _ _ ⟨p,ys,h1,h2,q⟩=>⟨p,ys,h1,h2,λl a=>q l _ a (Same.new a) xAab⟩
inductive IrCatTA(x:V)(y:V)(H:Hp)(Q:VK):Prop
 |mk (a:_) (b:_) (xs:_) (ys:_) (h0_:x=.ref a) (h1_:y=.ref b) (h2_:SqT H a xs) (h3_:SqT H b ys) (h4_:xs≠[]) (h5_:ys≠[]) (h6_:xs.length+ys.length≤sizeLine) (h7_:∀l H',H l=none->Same H H'->H' l=some (.tup (xs++ys))->Q (.ref l) H'):IrCatTA x y H Q
def rCatTA:R2:=λx y H Q=>IrCatTA x y H Q
def xAqq:OpR X (binaryOp .Add) (rCatTA):=xAst.imp λ_ _ _ _ ⟨a,b,xs,ys,h1,h2,i,h,g,c,f,q⟩=>⟨a,b,xs,ys,h1,h2,i,h,g,f,λe=>absurd e c,λ_ p d=>q p _ d (Same.new d) xAab⟩
inductive IrRepA(x:V)(y:V)(H:Hp)(Q:VK):Prop
 |mk (l:_) (k:_) (xs:_) (h0_:x=.ref l) (h1_:y=.int k) (h2_:H l=some (.lst xs)) (h3_:-(2 ^ 63)≤k) (h4_:k<2 ^ 63) (h5_:xs.length * k.toNat≤sizeLine) (h6_:∀p H',H p=none->Same H H'->H' p=some (.lst (List.replicate k.toNat xs).flatten)->Q (.ref p) H'):IrRepA x y H Q
def rRepA:R2:=λx y H Q=>IrRepA x y H Q
def xApj:OpR X (binaryOp .Mult) rRepA:=op_rep.imp λ_ _ _ _ ⟨l,k,xs,h1,h2,e,d,c,b,q⟩=>⟨l,k,xs,h1,h2,e,d,c,b,λp a=>q p _ a (Same.new a) xAab⟩
end
def xAbd{own:List Str}{g:TG}(hz:xs.length≤sizeLine)(c:Nat->List V->Hp->Prop)(h0:c 0 [] H)(k:∀i ys H,c i ys H->SqL H a xs)(r:∀i x ys H' (l:V->Hp->Prop) (n:Hp->Prop),xs[i]?=some x->c i ys H'->(∀y j,c (i+1) (ys++[y]) j->l y j)->(∀f,c (i+1) ys f->n f) →
   g x (compSt own fr σ) H' λh H2=>o h H2 λb f=>if b=true then te h f l else n f)(z:∀H' p ys,c xs.length ys H'->ys.length≤xs.length->H' p=none->Q (.ref p) (upd H' p (.lst ys))):LCb own fr g o te σ Q (Itl a) H:=by
 refine⟨λi m ys H=>m=xs.length - i/\i≤xs.length/\ys.length≤i/\c i ys H,⟨xs.length,by simp,Nat.zero_le _,Nat.zero_le _,h0⟩,?_⟩;rintro i m ys H ⟨rfl,hi,w,p⟩
 by_cases d:i<xs.length
 ·refine .inr ⟨⟨xs,xs[i],k _ _ H p,by simp[d]⟩,by omega,λx H' y=>?_⟩
  obtain⟨rfl,y⟩:=y;have s:=y xs (k _ _ _ p)
  refine r i x ys H' _ _ s p (λy j t=>⟨xs.length - (i+1),by omega,O,d,?_,t⟩) λf v=>⟨xs.length - (i+1),by omega,O,d,by omega,v⟩
  rw[qe,qo];omega
 ·have e:i=xs.length:=by omega
  subst e;exact .inl ⟨⟨xs,k _ _ H p,qb _⟩,λq u=>z H q ys p w u⟩
def xAdf{α:Type}[DecidableEq α]:∀{S ws:List α},S.Nodup->(∀x∈S,x∈ws)->S.length≤ws.length
 |[],_,_,_=>qy _
 |x::S,ws,nd,h=>by
  have b:=h x qp;have a:=zx.mp nd
  have f:=xAdf (S:=S) (ws:=ws.erase x) a.2 λy c=>(List.mem_erase_of_ne (λ(e:y=x)=>a.1 (by rw[←e];exact c))).mpr (h y (qu _ c))
  have d:=List.length_erase_of_mem b;have pos:0<ws.length:=List.length_pos_of_mem b;show S.length+1≤ws.length;omega
def SqL.same(h:SqL H a xs)(s:Same H H'):SqL H' a xs:=by
 rcases h with h|⟨o,h⟩
 ·exact .inl (s _ _ h)
 ·exact .inr ⟨o,s _ _ h⟩
mutual
inductive DV(H:Hp):V->PyData->Prop
 |non:DV H .non .none
 |bl (b:Bool):DV H (.bl b) (.bool b)
 |int (i:Int):DV H (.int i) (.int i)
 |str (z:Str):DV H (.str z) (.str z)
 |lst {p:Addr} {xs:List V} {ds:List PyData}:SqL H p xs->DVs H xs ds->DV H (.ref p) (.list ds)
 |tup {p:Addr} {xs:List V} {ds:List PyData}:SqT H p xs->DVs H xs ds->DV H (.ref p) (.tuple ds)
inductive DVs(H:Hp):List V->List PyData->Prop
 |nil:DVs H [] []
 |cons {x:V} {xs:List V} {d:PyData} {ds:List PyData}:DV H x d->DVs H xs ds->DVs H (x::xs) (d::ds)
end
section
variable {X:Cx}{pins:List (Addr×Obj)}{σ:St}{H H':Hp}{s:Shared}{K:PySem.W.Frag}
def SqT.same(h:SqT H a xs)(s:Same H H'):SqT H' a xs:=by
 rcases h with h|⟨o,h⟩
 ·exact .inl (s _ _ h)
 ·exact .inr ⟨o,s _ _ h⟩
mutual
def DV.same(e:Same H H'):∀{x:V} {d:PyData},DV H x d->DV H' x d
 |_,_,.non=>.non
 |_,_,.bl b=>.bl b
 |_,_,.int i=>.int i
 |_,_,.str z=>.str z
 |_,_,.lst h t=>.lst (h.same e) (DVs.same e t)
 |_,_,.tup h t=>.tup (h.same e) (DVs.same e t)
def DVs.same(e:Same H H'):∀{xs:List V} {ds:List PyData},DVs H xs ds->DVs H' xs ds
 |_,_,.nil=>.nil
 |_,_,.cons h t=>.cons (DV.same e h) (DVs.same e t)
end
mutual
def DV.reads(I:Inv X pins σ H s):∀{x:V} {d:PyData} {v:Value},DV H x d->RelV x v->∃as,Reads s.heap v d as
 |_,_,_,.non,r=>by cases r;exact⟨_,.none⟩
 |_,_,_,.bl b,r=>by cases r;exact⟨_,.bool b⟩
 |_,_,_,.int i,r=>by obtain⟨t,rfl⟩:=r;exact⟨_,.int i t⟩
 |_,_,_,.str z,r=>by obtain⟨t,rfl⟩:=r;exact⟨_,.str z t⟩
 |_,_,_,.lst h t,r=>by
  cases r;obtain⟨its,g,⟨o,n,a,c,_,f⟩,_⟩:=I.list h;obtain⟨as,e⟩:=DVs.reads I t g;exact⟨_,.list a c f (by simpa using e)⟩
 |_,_,_,.tup h t,r=>by
  cases r;obtain⟨its,g,⟨o,a,c,n,f⟩,_⟩:=I.tuple h;obtain⟨as,e⟩:=DVs.reads I t g;exact⟨_,.tuple a c f (by simpa using e)⟩
def DVs.reads(I:Inv X pins σ H s):∀{xs:List V} {ds:List PyData} {vs:List Value},DVs H xs ds->Vals xs vs->∃as,ReadsAll s.heap vs ds as
 |_,_,_,.nil,r=>by cases r;exact⟨_,.nil⟩
 |_,_,_,.cons h t,r=>by
  cases r with
  |cons c d =>
   obtain⟨as,a⟩:=DV.reads I h c;obtain⟨bs,b⟩:=DVs.reads I t d;exact⟨_,.cons a b⟩
end
inductive IrEqD(u:Nat)(neg:Bool)(x:V)(y:V)(H:Hp)(Q:VK):Prop
 |mk (dx:_) (dy:_) (h0_:DV H x dx) (h1_:DV H y dy) (h2_:dx.canLay0=true) (h3_:dy.canLay0=true) (h4_:min dx.depth dy.depth≤u) (h5_:Q (.bl (if neg then !PyData.eqv dx dy else PyData.eqv dx dy)) H):IrEqD u neg x y H Q
def rEqD(u:Nat)(a:Bool):R2:=λx y H Q=>IrEqD u a x y H Q
def op_eqD(j:X.A.units+u<cLine):OpR X (compareOp .Eq) (rEqD u false):=by
 intro pins s σ H x y v w Q I a c h;obtain⟨dx,i,d,g,e,cy,k,q⟩:=h;obtain⟨as,b⟩:=d.reads I a;obtain⟨bs,f⟩:=g.reads I c;exact SeqAt.compareEq_reads b f e cy (by omega) ⟨.bl _,H,I,O,q⟩
def op_neD(j:X.A.units+u<cLine):OpR X (compareOp .NotEq) (rEqD u true):=by
 intro pins s σ H x y v w Q I a c h;obtain⟨dx,i,d,g,e,cy,k,q⟩:=h;obtain⟨as,b⟩:=d.reads I a;obtain⟨bs,f⟩:=g.reads I c;exact SeqAt.compareNe_reads b f e cy (by omega) ⟨.bl _,H,I,O,q⟩
def xAce:∀{vs:List Value} {ds:List PyData} {as:List Addr} {j:Nat} {v:Value},ReadsAll h vs ds as->vs[j]?=some v->∃d bs,ds[j]?=some d/\Reads h v d bs
 |_,_,_,_,_,.nil,e=>by cases e
 |_,_,_,0,_,.cons r t,e=>by cases e;exact⟨_,_,O,r⟩
 |_,_,_,j+1,_,.cons r t,e=>by
  obtain⟨d,bs,h1,h2⟩:=xAce (j:=j) t (by simpa using e);exact⟨d,bs,by simpa using h1,h2⟩
def xAed:∀{ds:List PyData} {j:Nat} {d:PyData},PyData.canLayAll0 ds=true->ds[j]?=some d->d.canLay0=true
 |[],_,_,_,e=>by cases e
 |d::ds,0,_,h,e=>by
  cases e;have h':(d.canLay0&&PyData.canLayAll0 ds)=true:=h;rw[zb]at h';exact h'.1
 |d::ds,j+1,d',h,e=>by
  have h':(d.canLay0&&PyData.canLayAll0 ds)=true:=h;rw[zb]at h';exact xAed h'.2 (by simpa using e)
open Classical in
noncomputable def alike(vs:List Value)(ds:List PyData)(dx:PyData)(y:Value):Bool:=decide (∃(j:Nat) (d:PyData),vs[j]?=some y/\ds[j]?=some d/\PyData.eqv d dx=true)
open Classical in
def xAdn{h:Heap}{vs:List Value}{ds:List PyData}{as:List Addr}{dx:PyData}(r:ReadsAll h vs ds as)(c:PyData.canLayAll0 ds=true){j:Nat}{y:Value}{d:PyData}(e:vs[j]?=some y)(b:ds[j]?=some d):alike vs ds dx y=PyData.eqv d dx:=by
 unfold alike
 cases q:PyData.eqv d dx with
 |true=>exact qI ⟨j,d,e,b,q⟩
 |false =>
  refine decide_eq_false λ⟨s,d',k,a,i⟩=>?_;obtain⟨n,t,f,l⟩:=xAce r e;obtain⟨p,o,g,m⟩:=xAce r k;rw[b]at f;cases f;rw[a]at g;cases g;have:=SeqAt.Reads.unique _ _ _ _ _ (xAed c b) l m;rw[←this,q]at i;cases i
inductive IrIndexD(u:Nat)(o:V)(vs:List V)(H:Hp)(Q:VK):Prop
 |mk (x:_) (dx:_) (p:_) (ds:_) (xs:_) (j:Nat) (h0_:vs=[x]) (h1_:o=.ref p) (h2_:DV H x dx) (h3_:SqL H p xs) (h4_:DVs H xs ds) (h5_:dx.canLay0=true) (h6_:PyData.canLayAll0 ds=true) (h7_:dx.depth≤u) (h8_:(∃d,ds[j]?=some d/\PyData.eqv d dx=true)) (h9_:(∀(m:Nat) d,m<j->ds[m]?=some d->PyData.eqv d dx=false)) (h10_:Q (.int (j:Int)) H):IrIndexD u o vs H Q
def rIndexD(u:Nat):V->List V->Hp->VK->Prop:=λo vs H Q=>IrIndexD u o vs H Q
def xAnt(hu:X.A.units+3+u<cLine):MtM X "list.index" (rIndexD u):=by
 intro pins s σ H o vs v us Q I S P h;obtain⟨x,dx,p,ds,xs,j,rfl,rfl,N,Y,L,V,cs,hd,⟨d,G,R⟩,k,q⟩:=h;cases S;obtain⟨w,rfl,l⟩:=P.one;obtain⟨as,T⟩:=N.reads I l;obtain⟨its,r,Z,hz⟩:=I.list Y;obtain⟨⟨U,D,data,W⟩,n,e,K,J,B⟩:=Z;dsimp only at K J B;subst K J B;obtain⟨bs,b⟩:=L.reads I r;have C:=SeqAt.ReadsAll.length _ _ _ b
 have c:j<its.length:=by
  have:=(qm.mp G).1;omega
 have hl:=r.length
 have E:sizeLine<2 ^ 63 - 1:=by decide
 refine call_meets F.slot_list_index ⟨_,e,O⟩ F.entry_list_index (F.args_list_index_2 _ _) (SeqAt.list_indexAt p its.toArray n none W w (alike its ds dx) j (by simpa using c) (by omega) ?_ ?_) ⟨e,λy g=>?_,?_⟩
 ·rw[gg,xAdn b cs (qg c) G]
  exact R
 ·intro m i t
  have f:m<its.length:=by simpa using i
  obtain⟨d',_,a,_⟩:=xAce b (qg f);rw[gg,xAdn b cs (qg f) a];exact k m d' t a
 ·have g:y∈its:=by simpa using g
  obtain⟨m,i,M⟩:=z6.mp g
  have z:its[m]?=some y:=by rw[qg i,M]
  obtain⟨d',_,a,rd⟩:=xAce b z;rw[xAdn b cs z a];exact SeqAt.eqAt_reads d' dx _ s y w _ _ rd T (xAed cs a) V (by show X.A.units+1+_<cLine;omega)
 ·exact⟨.int j,H,I.tok _,⟨_,O⟩,q⟩
inductive IrCountD(u:Nat)(o:V)(vs:List V)(H:Hp)(Q:VK):Prop
 |mk (x:_) (dx:_) (p:_) (ds:_) (xs:_) (h0_:vs=[x]) (h1_:o=.ref p) (h2_:DV H x dx) (h3_:SqL H p xs) (h4_:DVs H xs ds) (h5_:dx.canLay0=true) (h6_:PyData.canLayAll0 ds=true) (h7_:dx.depth≤u) (h8_:Q (.int ((ds.countP λd=>PyData.eqv d dx:Nat):Int)) H):IrCountD u o vs H Q
def rCountD(u:Nat):V->List V->Hp->VK->Prop:=λo vs H Q=>IrCountD u o vs H Q
def xAgo(f:Value->Bool)(r:ReadsAll h vs ds as):(∀(j:Nat) y d,vs[j]?=some y->ds[j]?=some d->f y=PyData.eqv d dx)->vs.countP f=ds.countP λd=>PyData.eqv d dx:=by
 intro a
 induction vs generalizing ds as with
 |nil=>cases r;rfl
 |cons v vs e =>
  cases r with
  |cons i g =>
   rw[List.countP_cons,List.countP_cons,a 0 _ _ rfl rfl,e g λj y d b c=>a (j+1) y d (by simpa using b) (by simpa using c)]
def xAnu(U:X.A.units+3+u<cLine):MtM X "list.count" (rCountD u):=by
 intro pins s σ H o vs v us Q I J G h;obtain⟨x,dx,p,ds,xs,rfl,rfl,D,R,B,M,cs,T,q⟩:=h;cases J;obtain⟨w,rfl,f⟩:=G.one;obtain⟨as,K⟩:=D.reads I f;obtain⟨its,r,S,hz⟩:=I.list R;obtain⟨⟨L,k,data,P⟩,n,e,t,l,i⟩:=S;dsimp only at t l i;subst t l i;obtain⟨bs,b⟩:=B.reads I r;refine call_meets F.slot_list_count ⟨_,e,O⟩ F.entry_list_count (F.args_list_count_2 _ _) (SeqAt.list_countAt p its.toArray n none P w (alike its ds dx)) ⟨e,λy c=>?_,?_⟩
 ·have c:y∈its:=by simpa using c
  obtain⟨m,E,C⟩:=z6.mp c
  have g:its[m]?=some y:=by rw[qg E,C]
  obtain⟨d',_,a,rd⟩:=xAce b g;rw[xAdn b cs g a];exact SeqAt.eqAt_reads d' dx _ s y w _ _ rd K (xAed cs a) M (by show X.A.units+1+_<cLine;omega)
 ·refine⟨.int _,H,I.tok _,⟨_,O⟩,?_⟩
  rw[List.toList_toArray,xAgo (dx:=dx) _ b λj y d z N=>xAdn b cs z N];exact q
end
def xAtg{own:List Str}{g:TG}(hz:xs.length≤sizeLine)(c:Nat->List V->Hp->Prop)(h0:c 0 [] H)(u:∀i zs H,c i zs H->SqL H a xs)(t:∀i x zs H' p (l:V->Hp->Prop) (n:Hp->Prop),xs[i]?=some x->c i zs H'->H' p=none->(∀v j,c (i+1) (zs++[v]) j->l v j)->(∀f,c (i+1) zs f->n f) →
   g (.ref p) (compSt own fr σ) (upd H' p (.tup [.int i,x])) λh H2=>o h H2 λb f=>if b=true then te h f l else n f)(C:∀H' p zs,c xs.length zs H'->zs.length≤xs.length->H' p=none->Q (.ref p) (upd H' p (.lst zs))):LCb own fr g o te σ Q (Ite a) H:=by
 refine⟨λi m zs H=>m=xs.length - i/\i≤xs.length/\zs.length≤i/\c i zs H,⟨xs.length,by simp,Nat.zero_le _,Nat.zero_le _,h0⟩,?_⟩;rintro i m zs H ⟨rfl,hi,B,p⟩;have k:=u _ _ H p
 by_cases d:i<xs.length
 ·refine .inr ⟨⟨xs,xs[i],k,by simp[d]⟩,by omega,λv H' y=>?_⟩
  obtain⟨r,x,hn,s,rfl,rfl⟩:=y
  refine t i x zs H r _ _ (s xs k) p hn (λv j w=>⟨xs.length - (i+1),by omega,O,d,?_,w⟩) λf A=>⟨xs.length - (i+1),by omega,O,d,by omega,A⟩
  rw[qe,qo];omega
 ·have e:i=xs.length:=by omega
  subst e;exact .inl ⟨⟨xs,k,O⟩,λq z=>C H q zs p B z⟩
def hu64(a:Room k A):A.units+64<cLine:=a.units
def hu61(a:Room k A):A.units+3+61<cLine:=by have:=a.units;omega
def cutS(z:Str)(lo hi:Option Int):Str:=⟨((z.cps.toList.drop (HT.sIx z.length 0 lo)).take (HT.sIx z.length z.length hi - HT.sIx z.length 0 lo)).toArray⟩
def xAer(i:Int)(n:Nat):max 0 (min (if i<0 then i+(n:Int) else i) (n:Int))=((if i<0 then(i+(n:Int)).toNat else min i.toNat n:Nat):Int):=by
 by_cases h:i<0
 ·rw[qF h,qF h];omega
 ·rw[qB h,qB h];omega
def xApk(lo hi:Option Int)(n:Nat):Builtin.Str.strSliceIndices lo hi 1 n=(List.range (HT.sIx n n hi - HT.sIx n 0 lo)).map (HT.sIx n 0 lo+·):=by
 rw[←sliceRange_one];unfold Builtin.Str.strSliceIndices
 cases lo with
 |none=>cases hi with
  |none=>rfl
  |some j =>
   show sliceRange 0 (max 0 (min (if j<0 then j+(n:Int) else j) (n:Int))) 1=_;rw[xAer];rfl
 |some i=>cases hi with
  |none =>
   show sliceRange (max 0 (min (if i<0 then i+(n:Int) else i) (n:Int))) n 1=_;rw[xAer];rfl
  |some j =>
   show sliceRange (max 0 (min (if i<0 then i+(n:Int) else i) (n:Int))) (max 0 (min (if j<0 then j+(n:Int) else j) (n:Int))) 1=_;rw[xAer,xAer];rfl
section
variable {X:Cx}
inductive IrSlX(x:V)(lo:Option Int)(hi:Option Int)(H:Hp)(Q:VK):Prop
 |mk (z:_) (h0_:x=.str z) (h1_:z.length≤sizeLine) (h2_:Q (.str (cutS z lo hi)) H):IrSlX x lo hi H Q
def rSlX:V->Option Int->Option Int->Hp->VK->Prop:=λx lo hi H Q=>IrSlX x lo hi H Q
def xAkw(z:Str)(l u:Option (Int×Tok)):((slicePicked z l u none).filterMap (z.cps[·]?))=(cutS z (l.map (·.1)) (u.map (·.1))).cps.toList:=by
 unfold slicePicked cutS;rw[show((none:Option (Int×Tok)).map (·.1)).getD 1=(1:Int) from rfl,xApk,pick_run]
def xAth:SlR X rSlX:=by
 intro pins s σ H x v B y lo hi k Q I n d p o h;obtain⟨z,rfl,hz,q⟩:=h;obtain⟨t,rfl⟩:=n;refine⟨"str",_,F.slot_str_getitem.lookup,typeIs_str _ z t,?_⟩
 have a:∀l u:Option (Int×Tok),l.map (·.1)=lo->u.map (·.1)=hi->s.heap.IsSlice k l u none->wpAny (model X.prog X.w) X.A (getItem (.str z t) (.ref k)) (EP X pins σ Q) X.xe s:=λl u i j g=>by
  refine wpAny_getItem_str_slice (st:=none) g rfl ?_;have m:=xAkw z l u;rw[i,j]at m;unfold sliceMade
  split
  ·rename_i b
   have C:(slicePicked z l u none).length=z.length:=by
    rw[zb]at b;exact beq_iff_eq.mp b.2
   have e:cutS z lo hi=z:=by
    have h1:(slicePicked z l u none).length=HT.sIx z.length z.length hi - HT.sIx z.length 0 lo:=by
     unfold slicePicked;rw[show((none:Option (Int×Tok)).map (·.1)).getD 1=(1:Int) from rfl,xApk,i,j,qf,zk]
    have r:HT.sIx z.length z.length hi≤z.length:=by unfold HT.sIx;split <;> (try split) <;> omega
    have h2:HT.sIx z.length 0 lo=0\/z.length=0:=by omega
    unfold cutS;rcases h2 with h2|h2
    ·rw[h2]
     rw[h2]at h1
     rw[show HT.sIx z.length z.length hi - 0=z.cps.toList.length from by
      have:z.cps.toList.length=z.length:=by simp;rfl
      omega,List.drop_zero,zm]
    ·have:z.cps.toList=[]:=by
      have:z.cps.size=0:=h2;simpa using this
     rw[this];obtain⟨c⟩:=z
     simp at this
     simp[this]
   exact⟨.str z,H,I,⟨t,O⟩,e▸q⟩
  ·have e:(⟨((slicePicked z l u none).filterMap (z.cps[·]?)).toArray⟩:Str)=cutS z lo hi:=by
    rw[m]
   have f:(cutS z lo hi).length≤z.length:=by
    unfold cutS;show(List.toArray _).size≤z.length;rw[qr,wn,wm];show _≤z.cps.size
    have:z.cps.toList.length=z.cps.size:=by simp
    omega
   rw[e];exact⟨qc f hz,.str _,H,I.tok _,⟨_,O⟩,q⟩
 cases p <;> cases o
 ·exact a none none rfl rfl d
 ·exact a none (some (_,_)) rfl rfl d
 ·exact a (some (_,_)) none rfl rfl d
 ·exact a (some (_,_)) (some (_,_)) rfl rfl d
end
section
variable {X:Cx}{tg:Expr}
def xAkx:∀{xs:List V} {us:List Value},Vals xs us->Vals xs.reverse us.reverse
 |[],_,h=>by cases h;exact .nil
 |x::xs,_,h=>by
  cases h with
  |cons r t =>
   rw[jo,jo];exact(xAkx t).append (.cons r .nil)
def tRevL(te:TE)(ts:TO):TE:=λσ H Q=>te σ H λx H1=>ts σ H1 λo H2=>o=some (-1)/\∃a xs,x=.ref a/\SqL H2 a xs/\∀p H',H2 p=none->Same H2 H'->H' p=some (.lst xs.reverse)->Q (.ref p) H'
def xAti{e:Expr}{st:Expr}{te:TE}{ts:TO}{pos p2:Pos}(k:PE X e te)(d:PO X (some st) ts):PE X (.Subscript e (.Slice none none (some st) p2) pos) (tRevL te ts):=by
 refine⟨?_⟩;intro pins s σ H Q I h;refine Subscript_ (thn (k pins s σ H _ I h) λv u ⟨x,H1,y,t,m⟩=>?_);refine wpAny_Slice ?_;rw[evalPart_none];refine qE ?_;refine qE ?_;refine thn (d pins u σ H1 _ y m) λvs c ⟨o,n,B,ps,l,z⟩=>?_;subst l;obtain⟨a,xs,rfl,p,q⟩:=z;have f:Inv X pins σ n { c with heap:=c.heap.push { cls:=.type "slice",data:=.fields #[.none,.none,vs] } }:=B.kept (t':=c.toks) λb ob q=>qH _ q;cases t;obtain⟨its,r,g,hz⟩:=f.list p;have i:=r.length;show wpAny (model X.prog X.w) X.A (subscriptTail e (.Slice none none (some st) p2) (.ref a) (.ref c.heap.objs.size)) (EP X pins σ Q) X.xe { c with heap:=c.heap.push { cls:=.type "slice",data:=.fields #[.none,.none,vs] } };refine tail_any (ops:=[.ref a,.ref c.heap.objs.size]) g.isList.typeIs slot_list_getitem.lookup ?_ (by with_unfolding_all rfl);refine wpAny_getItem_list_slice g.isList (Heap.IsSliceOf.new ..) .none .none ps (by simp) ?_ (by rw[List.size_toArray] <;> omega);rw[PySem.W.krv_pick];have j:=f.hok.fresh (qb _);refine⟨.ref _,_,f.laid (t':=c.toks) (o:=.lst xs.reverse) (λb ob q=>qH _ q) (qb _) ?_,O,q _ _ j (Same.new j) xAab⟩;refine⟨by rw[wb];exact hz,its.reverse,0,?_,?_⟩
 ·exact xAkx r
 ·exact qL _ rfl
end
end L2
set_option maxHeartbeats 40000000
namespace Srt
open PySem PySem.W PyProof.Rows
def Ok{α:Type}(n:Nat)(lt:Nat->Nat->Bool)(P:α->Prop):KasT α->Prop
 |.ret a=>P a
 |.ask i j k=>i<n/\j<n/\Ok n lt P (k (lt i j))
section
variable {α β:Type}{n:Nat}{lt:Nat->Nat->Bool}
def Ok.mono(h:∀a,P a->R a):∀{t:KasT α},Ok n lt P t->Ok n lt R t
 |.ret _,q=>h _ q
 |.ask _ _ _,q=>⟨q.1,q.2.1,Ok.mono h q.2.2⟩
def Ok.bind{R:β->Prop}{f:α->KasT β}:∀{t:KasT α},Ok n lt (λa=>Ok n lt R (f a)) t->Ok n lt R (t.bind f)
 |.ret _,q=>q
 |.ask _ _ k,q=>⟨q.1,q.2.1,Ok.bind (t:=k _) q.2.2⟩
def Ok.wp(c:∀i j C,i<n->j<n->C (lt i j) s->b i j C s)(d:∀a,P a->Q a s) :
  ∀{t:KasT α},Ok n lt P t->t.kasWp b Q s
 |.ret _,q=>d _ q
 |.ask i j k,q=>c i j _ q.1 q.2.1 (Ok.wp c d (t:=k _) q.2.2)
end
structure Swo(lt:Nat->Nat->Bool):Prop where
 irr:∀a,lt a a=false
 tr:∀a b c,lt a b=true->lt b c=true->lt a c=true
 nt:∀a b c,lt a c=true->lt a b=true\/lt b c=true
section
variable {n:Nat}{lt:Nat->Nat->Bool}(W:Swo lt)
include W
theorem Swo.le_of_lt(h:lt a b=true):lt b a=false:=by
 cases e:lt b a with
 |false=>rfl
 |true=>rw[←W.irr a,←W.tr a b a h e]
theorem Swo.le_tr(h1:lt b a=false)(h2:lt c b=false):lt c a=false:=by
 cases e:lt c a with
 |false=>rfl
 |true =>
  rcases W.nt c b a e with q|q
  ·rw[q]at h2;cases h2
  ·rw[q]at h1;cases h1
theorem Swo.lt_le(h1:lt a b=true)(h2:lt c b=false):lt a c=true:=by
 rcases W.nt a c b h1 with q|q
 ·exact q
 ·rw[q]at h2;cases h2
end
abbrev g(p:Array Nat)(i:Nat):Nat:=p.getD i 0
def Up(lt:Nat->Nat->Bool)(p:Array Nat)(n:Nat):Prop:=∀i j,i≤j->j<n->lt (g p j) (g p i)=false
def Dn(lt:Nat->Nat->Bool)(p:Array Nat)(n:Nat):Prop:=∀i j,i≤j->j<n->lt (g p i) (g p j)=false
def Bd(n:Nat)(p:Array Nat):Prop:=p.size=n/\∀i,g p i<n
def g_of(h:p[i]?=q[j]?):g p i=g q j:=by
 unfold g;rw[vy,vy,h]
def xAdo(hn:0<n)(h:q.Perm p)(b:Bd n p):Bd n q:=by
 refine⟨by rw[h.size_eq];exact b.1,λi=>?_⟩;unfold g;rw[vy]
 cases e:q[i]? with
 |none=>exact hn
 |some x =>
  have f:x∈q:=Array.mem_of_getElem? e;have a:x∈p:=(h.mem_iff).mp f;obtain⟨j,c,d⟩:=Array.mem_iff_getElem.mp a;have:=b.2 j;unfold g at this;rw[vy,wo c,d]at this;exact this
section
variable {n:Nat}{lt:Nat->Nat->Bool}(W:Swo lt)(hn:0<n)
theorem xAtj(W:Swo lt)(h0:1≤k)(h:Up lt p k)(c:lt (g p k) (g p (k - 1))=false):Up lt p (k+1):=by
 intro i j a d
 by_cases e:j=k
 ·subst e
  by_cases b:i=j
  ·subst b;exact W.irr _
  ·exact W.le_tr (h i (j - 1) (by omega) (by omega)) c
 ·exact h i j a (by omega)
theorem xAfn(W:Swo lt)(h0:1≤k)(h:Dn lt p k)(c:lt (g p (k - 1)) (g p k)=false):Dn lt p (k+1):=by
 intro i j a d
 by_cases e:j=k
 ·subst e
  by_cases b:i=j
  ·subst b;exact W.irr _
  ·exact W.le_tr c (h i (j - 1) (by omega) (by omega))
 ·exact h i j a (by omega)
theorem xAqr(W:Swo lt)(b:Bd n p):∀(f k:Nat),1≤k->Up lt p k->Ok n lt (λm=>k≤m/\m≤k+f/\Up lt p m/\(m<k+f->lt (g p m) (g p (m - 1))=true)) (kas_asc p f k)
 | 0,k,_,h=>⟨Nat.le_refl _,Nat.le_refl _,h,λz=>absurd z (by simp)⟩
 |f+1,k,h0,h=>by
  refine⟨b.2 _,b.2 _,?_⟩
  cases e:lt (p.getD k 0) (p.getD (k - 1) 0) with
  |true =>
   show Ok n lt _ (if true=true then _ else _);rw[qF rfl];exact⟨qb _,Nat.le_add_right _ _,h,λ_=>e⟩
  |false =>
   show Ok n lt _ (if false=true then _ else _);rw[qB (by decide)]
   exact(xAqr W b f (k+1) (by omega) (xAtj W h0 h e)).mono λm a=>⟨by omega,by omega,a.2.2.1,λz=>a.2.2.2 (by omega)⟩
theorem xAgp(W:Swo lt)(f:j≤p.size)(d:∀k,i≤k->k<j->lt (g p k) (g p (j - 1))=false/\lt (g p (j - 1)) (g p k)=false)(k:Nat) :
  lt (g (kas_rev p i j) k) (g p k)=false/\lt (g p k) (g (kas_rev p i j) k)=false:=by
 have e:=getElem?_mirror_all (i:=i) f k
 by_cases h:i≤k/\k<j
 ·rw[qF h]at e
  have b:g (kas_rev p i j) k=g p (i+j - 1 - k):=g_of e;rw[b];have a:=d (i+j - 1 - k) (by omega) (by omega);have c:=d k h.1 h.2;exact⟨W.le_tr c.2 a.1,W.le_tr a.2 c.1⟩
 ·rw[qB h]at e
  have b:g (kas_rev p i j) k=g p k:=g_of e;rw[b];exact⟨W.irr _,W.irr _⟩
theorem xAky(W:Swo lt)(b:∀i,lt (g q i) (g p i)=false/\lt (g p i) (g q i)=false)(h:Dn lt p k):Dn lt q k:=λi j a c =>
 W.le_tr (W.le_tr (b j).2 (h i j a c)) (b i).1
theorem rev_up(e:k≤p.size)(h:Dn lt p k):Up lt (kas_rev p 0 k) k:=by
 intro i j f l;have c:=getElem?_mirror_all (i:=0) e i;have d:=getElem?_mirror_all (i:=0) e j;rw[qF ⟨qy _,by omega⟩]at c d;have a:g (kas_rev p 0 k) i=g p (0+k - 1 - i):=g_of c;have b:g (kas_rev p 0 k) j=g p (0+k - 1 - j):=g_of d;rw[a,b];exact h _ _ (by omega) (by omega)
theorem xAes(p:Array Nat)(i j:Nat):(kas_rev p i j).Perm p:=mirror_perm p i j _
def Like(lt:Nat->Nat->Bool)(p:Array Nat)(k q:Nat):Prop:=q+1≤k/\∀m,k - (q+1)≤m->m<k->lt (g p m) (g p (k - 1))=false/\lt (g p (k - 1)) (g p m)=false
theorem like0(W:Swo lt)(h:1≤k):Like lt p k 0:=⟨by omega,λm h1 h2=>by
 have:m=k - 1:=by omega
 subst this
 exact⟨W.irr _,W.irr _⟩⟩
theorem xAic(W:Swo lt)(hn:0<n):∀(f:Nat) (p:Array Nat) (k q:Nat),Bd n p->1≤k->k+f≤n->Dn lt p k->Like lt p k q →
  Ok n lt (λr=>r.1.Perm p/\k≤r.2.1/\r.2.1≤k+f/\Dn lt r.1 r.2.1/\Like lt r.1 r.2.1 r.2.2) (kas_desc f p k q)
 | 0,p,k,q,_,_,_,hd,hl=>⟨.refl _,qb _,qb _,hd,hl⟩
 |f+1,p,k,q,b,h0,hf,hd,hl=>by
  refine⟨b.2 _,b.2 _,?_⟩
  cases e:lt (p.getD k 0) (p.getD (k - 1) 0) with
  |true =>
   show Ok n lt _ (if true=true then _ else _);rw[qF rfl]
   by_cases l:q>0
   ·rw[qF l]
    have j:k≤p.size:=by rw[b.1];omega
    have h:=xAgp W j hl.2;have c:=xAes p (k - (q+1)) k
    have s:g (kas_rev p (k - (q+1)) k) k=g p k:=g_of (by
     have:=getElem?_mirror_all (i:=k - (q+1)) j k;rw[qB (by omega)]at this
     exact this)
    have o:Dn lt (kas_rev p (k - (q+1)) k) (k+1):=xAfn W h0 (xAky W h hd) (by
     rw[s]
     exact W.le_tr (W.le_of_lt e) (h (k - 1)).1)
    exact(xAic W hn f _ (k+1) 0 (xAdo hn c b) (by omega) (by omega) o (like0 W (by omega))).mono λr a=>⟨a.1.trans c,by omega,by omega,a.2.2.2⟩
   ·rw[qB l]
    exact(xAic W hn f p (k+1) 0 b (by omega) (by omega) (xAfn W h0 hd (W.le_of_lt e)) (like0 W (by omega))).mono λr a=>⟨a.1,by omega,by omega,a.2.2.2⟩
  |false =>
   show Ok n lt _ (if false=true then _ else _);rw[qB (by decide)];refine⟨b.2 _,b.2 _,?_⟩
   cases d:lt (p.getD (k - 1) 0) (p.getD k 0) with
   |true =>
    show Ok n lt _ (if true=true then _ else _);rw[qF rfl];exact⟨.refl _,qb _,Nat.le_add_right _ _,hd,hl⟩
   |false =>
    show Ok n lt _ (if false=true then _ else _);rw[qB (by decide)]
    refine(xAic W hn f p (k+1) (q+1) b (by omega) (by omega) (xAfn W h0 hd d) ⟨by have:=hl.1;omega,λm h1 h2=>?_⟩).mono λr a=>⟨a.1,by omega,by omega,a.2.2.2⟩
    show lt (g p m) (g p k)=false/\lt (g p k) (g p m)=false
    by_cases t:m=k
    ·subst t;exact⟨W.irr _,W.irr _⟩
    ·have:=hl.2 m (by omega) (by omega)
     exact⟨W.le_tr d this.1,W.le_tr this.2 e⟩
theorem xAkz(W:Swo lt)(hn:0<n)(b:Bd n p)(h1:1≤k)(c:k≤n)(e:Dn lt p k):Ok n lt (λr=>1≤r.1/\r.1≤n/\r.2.Perm p/\Up lt r.2 r.1) (kas_tail3 k n p):=by
 unfold kas_tail3;have a:=xAes p 0 k;refine Ok.bind ((xAqr W (xAdo hn a b) (n - k) k h1 (rev_up (by rw[b.1];exact c) e)).mono λm d=>?_);exact⟨by omega,by omega,a,d.2.2.1⟩
theorem xAee(W:Swo lt)(hn:0<n)(b:Bd n p)(h1:1≤k)(l:k+1≤n)(j:Dn lt p (k+1)):Ok n lt (λr=>1≤r.1/\r.1≤n/\r.2.Perm p/\Up lt r.2 r.1) (kas_descPart k n p):=by
 unfold kas_descPart;refine Ok.bind ((xAic W hn (n - (k+1)) p (k+1) 0 b (by omega) (by omega) j (like0 W (by omega))).mono λr i=>?_);obtain⟨d,a1,a2,g,h⟩:=i;have e:=xAdo hn d b
 split
 ·have f:r.2.1≤r.1.size:=by rw[e.1];omega
  have c:=xAes r.1 (r.2.1 - (r.2.2+1)) r.2.1;exact(xAkz W hn (xAdo hn c e) (by omega) (by omega) (xAky W (xAgp W f h.2) g)).mono λx a=>⟨a.1,a.2.1,(a.2.2.1.trans c).trans d,a.2.2.2⟩
 ·exact(xAkz W hn e (by omega) (by omega) g).mono λx a=>⟨a.1,a.2.1,a.2.2.1.trans d,a.2.2.2⟩
theorem xAla(W:Swo lt)(h:Up lt p k)(h0:lt (g p 0) (g p (k - 1))=false):Dn lt p k:=λi j b d=>by
 have a:=h 0 i (by omega) (by omega);have c:=h j (k - 1) (by omega) (by omega);exact W.le_tr (W.le_tr c h0) a
theorem xAqs(W:Swo lt)(hn:0<n)(b:Bd n p):Ok n lt (λr=>1≤r.1/\r.1≤n/\r.2.Perm p/\Up lt r.2 r.1) (kas_count n p):=by
 unfold kas_count
 have x:Up lt p 1:=λi j h t=>by
  have:i=j:=by omega
  subst this;exact W.irr _
 refine Ok.bind ((xAqr W b (n - 1) 1 (by omega) x).mono λk w=>?_);obtain⟨h1,h2,up,A⟩:=w
 by_cases e:(k==n)=true
 ·rw[qF e]
  exact⟨h1,by omega,.refl _,up⟩
 ·rw[qB e]
  have y:k≠n:=λz=>e (by rw[z];simp)
  have c:=A (by omega)
  by_cases a:k>1
  ·rw[qF a]
   refine⟨b.2 _,b.2 _,?_⟩
   cases u:lt (p.getD 0 0) (p.getD (k - 1) 0) with
   |true =>
    show Ok n lt _ (if true=true then _ else _);rw[qF rfl];exact⟨h1,by show k≤n;omega,.refl _,up⟩
   |false =>
    show Ok n lt _ (if false=true then _ else _);rw[qB (by decide)]
    have d:k≤p.size:=by rw[b.1];omega
    have s:=xAla W up u;have o:=xAes p 0 k
    have q:=xAgp (i:=0) W d λm _ B=>⟨s m (k - 1) (by omega) (by omega)|> λz=>z,up m (k - 1) (by omega) (by omega)⟩
    have v:g (kas_rev p 0 k) k=g p k:=g_of (by
     have:=getElem?_mirror_all (i:=0) d k;rw[qB (by omega)]at this
     exact this)
    have l:Dn lt (kas_rev p 0 k) (k+1):=xAfn W h1 (xAky W q s) (by
     rw[v]
     exact W.le_tr (W.le_of_lt c) (q (k - 1)).1)
    exact(xAee W hn (xAdo hn o b) h1 (by omega) l).mono λr f=>⟨f.1,f.2.1,f.2.2.1.trans o,f.2.2.2⟩
  ·rw[qB a]
   have:k=1:=by omega
   subst this
   have l:Dn lt p 1:=λi j h t=>by
    have:i=j:=by omega
    subst this;exact W.irr _
   exact xAee W hn b h1 (by omega) (xAfn W h1 l (W.le_of_lt c))
theorem xAgq(W:Swo lt)(b:Bd n p)(up:Up lt p k):∀(f l r:Nat),l≤r->r≤k->r - l≤f->(∀i,i<l->lt (g p k) (g p i)=false)->(∀i,r≤i->i<k->lt (g p k) (g p i)=true) →
  Ok n lt (λm=>m≤k/\(∀i,i<m->lt (g p k) (g p i)=false)/\∀i,m≤i->i<k->lt (g p k) (g p i)=true) (kas_place p k f l r)
 | 0,l,r,h1,h2,h3,hl,hr=>⟨by omega,hl,λi hi a=>hr i (by omega) a⟩
 |f+1,l,r,h1,h2,h3,hl,hr=>by
  unfold kas_place
  by_cases e:l≥r
  ·rw[qF e]
   exact⟨by omega,hl,λi hi a=>hr i (by omega) a⟩
  ·rw[qB e]
   refine⟨b.2 _,b.2 _,?_⟩
   cases c:lt (p.getD k 0) (p.getD ((l+r) / 2) 0) with
   |true =>
    show Ok n lt _ (if true=true then _ else _);rw[qF rfl];exact xAgq W b up f l ((l+r) / 2) (by omega) (by omega) (by omega) hl λi hi a=>W.lt_le c (up _ i hi a)
   |false =>
    show Ok n lt _ (if false=true then _ else _);rw[qB (by decide)];exact xAgq W b up f ((l+r) / 2+1) r (by omega) h2 (by omega) (λi hi=>W.le_tr (up i ((l+r) / 2) (by omega) (by omega)) c) hr
theorem xAtk(W:Swo lt)(hn:0<n):∀(f:Nat) (p:Array Nat) (k:Nat),Bd n p->k+f=n->Up lt p k->Ok n lt (λq=>q.Perm p/\Up lt q n) (kas_bin f p k)
 | 0,p,k,_,hk,up=>⟨.refl _,by rw[←hk];exact up⟩
 |f+1,p,k,b,hk,up=>by
  unfold kas_bin;refine Ok.bind ((xAgq W b up k 0 k (qy _) (qb _) (by omega) (λi hi=>absurd hi (by omega)) λi h1 h2=>absurd h2 (by omega)).mono λl w=>?_);obtain⟨x,t,v⟩:=w;have d:=bubble_perm p k (k - l)
  have u:k<p.size:=by rw[b.1];omega
  have at':∀i,g (bubble p k (k - l)) i=if i=l then g p k else if l<i/\i≤k then g p (i - 1) else g p i:=λi=>by
   have e:=getElem?_bubble u (k - l) (by omega) i;rw[show k - (k - l)=l by omega]at e
   by_cases h1:i=l
   ·rw[qF h1]at e ⊢;exact g_of e
   ·rw[qB h1]at e ⊢
    by_cases h2:l<i/\i≤k
    ·rw[qF h2]at e ⊢;exact g_of e
    ·rw[qB h2]at e ⊢;exact g_of e
  have c:Up lt (bubble p k (k - l)) (k+1):=by
   intro i j s y;rw[at' i,at' j]
   by_cases o:i=l
   ·rw[qF o]
    by_cases a:j=l
    ·rw[qF a];exact W.irr _
    ·rw[qB a,qF ⟨by omega,by omega⟩]
     exact W.le_of_lt (v (j - 1) (by omega) (by omega))
   ·rw[qB o]
    by_cases h:l<i/\i≤k
    ·rw[qF h,qB (by omega),qF ⟨by omega,by omega⟩]
     exact up _ _ (by omega) (by omega)
    ·rw[qB h]
     by_cases a:j=l
     ·rw[qF a];exact t i (by omega)
     ·rw[qB a]
      by_cases m:l<j/\j≤k
      ·rw[qF m];exact up _ _ (by omega) (by omega)
      ·rw[qB m];exact up _ _ (by omega) (by omega)
  exact(xAtk W hn f _ (k+1) (xAdo hn d b) (by omega) c).mono λq r=>⟨r.1.trans d,r.2⟩
theorem sort_ok(W:Swo lt)(hn:0<n):Ok n lt (λq=>q.Perm (List.toArray (List.range n))/\Up lt q n) (kas_sort n):=by
 unfold kas_sort
 have b:Bd n (List.toArray (List.range n)):=by
  refine⟨by simp,λi=>?_⟩;unfold g;rw[vy]
  by_cases h:i<n
  ·simp[h]
  ·simp[h,hn]
 refine Ok.bind ((xAqs W hn b).mono λr d=>?_);obtain⟨h1,h2,a,up⟩:=d
 split
 ·rename_i f
  have e:max r.1 1=r.1:=by omega
  rw[e];exact(xAtk W hn _ _ _ (xAdo hn a b) (by omega) up).mono λq c=>⟨c.1.trans a,c.2⟩
 ·have e:r.1=n:=by omega
  exact⟨a,by rw[←e];exact up⟩
end
end Srt
namespace L2
open PySem PySem.Spec PyProof.Rows
mutual
inductive DT(H:Hp):V->PyData->Prop
 |non:DT H .non .none
 |bl (b:Bool):DT H (.bl b) (.bool b)
 |int (i:Int):DT H (.int i) (.int i)
 |str (z:Str):DT H (.str z) (.str z)
 |tup {p:Addr} {xs:List V} {ds:List PyData}:H p=some (.tup xs)->DTs H xs ds->DT H (.ref p) (.tuple ds)
inductive DTs(H:Hp):List V->List PyData->Prop
 |nil:DTs H [] []
 |cons {x:V} {xs:List V} {d:PyData} {ds:List PyData}:DT H x d->DTs H xs ds->DTs H (x::xs) (d::ds)
end
mutual
def DT.same(e:Same H H'):∀{x:V} {d:PyData},DT H x d->DT H' x d
 |_,_,.non=>.non
 |_,_,.bl b=>.bl b
 |_,_,.int i=>.int i
 |_,_,.str z=>.str z
 |_,_,.tup h t=>.tup (e _ _ h) (DTs.same e t)
def DTs.same(e:Same H H'):∀{xs:List V} {ds:List PyData},DTs H xs ds->DTs H' xs ds
 |_,_,.nil=>.nil
 |_,_,.cons h t=>.cons (DT.same e h) (DTs.same e t)
end
mutual
def DT.dv:∀{x:V} {d:PyData},DT H x d->DV H x d
 |_,_,.non=>.non
 |_,_,.bl b=>.bl b
 |_,_,.int i=>.int i
 |_,_,.str z=>.str z
 |_,_,.tup h t=>.tup (SqT.of h) (DTs.dv t)
def DTs.dv:∀{xs:List V} {ds:List PyData},DTs H xs ds->DVs H xs ds
 |_,_,.nil=>.nil
 |_,_,.cons h t=>.cons (DT.dv h) (DTs.dv t)
end
def xAtl{H:Hp}{a b:Addr}{xs:List V}{o:HO}(d:H a=some (.tup xs))(c:H b=some o)(f:∀ys,o≠.tup ys):a≠b:=λe=>by
 subst e;rw[d]at c;exact f xs (qK c).symm
mutual
def noB:PyData->Bool
 |.none=>true
 |.bool _=>false
 |.int _=>true
 |.str _=>true
 |.list xs=>noBs xs
 |.tuple xs=>noBs xs
 |.dict _=>false
def noBs:List PyData->Bool
 |[]=>true
 |x::xs=>noB x&&noBs xs
end
mutual
def xAlb:∀(a b:PyData),noB a=true->noB b=true->(PyData.eqv a b=true↔a=b)
 |.list xs,b,ha,hb=>by
  cases b with
  |list ys =>
   have:=xAgr xs ys (by simpa[noB] using ha) (by simpa[noB] using hb)
   simp only[PyData.eqv,this,PyData.list.injEq]
  |_=>simp[PyData.eqv]
 |.tuple xs,b,ha,hb=>by
  cases b with
  |tuple ys =>
   have:=xAgr xs ys (by simpa[noB] using ha) (by simpa[noB] using hb)
   simp only[PyData.eqv,this,PyData.tuple.injEq]
  |_=>simp[PyData.eqv]
 |.dict _,_,ha,_=>by simp[noB]at ha
 |.bool _,_,ha,_=>by simp[noB]at ha
 |.none,b,_,hb=>by cases b <;> simp_all [PyData.eqv,noB]
 |.int i,b,_,hb=>by cases b <;> simp_all [PyData.eqv,noB]
 |.str i,b,_,hb=>by cases b <;> simp_all [PyData.eqv,noB]
def xAgr:∀(xs ys:List PyData),noBs xs=true->noBs ys=true->(PyData.eqvAll xs ys=true↔xs=ys)
 |[],ys,_,_=>by cases ys <;> simp[PyData.eqvAll]
 |x::xs,ys,ha,hb=>by
  cases ys with
  |nil=>simp[PyData.eqvAll]
  |cons y ys =>
   rw[noBs,zb]at ha hb;have h1:=xAlb x y ha.1 hb.1;have h2:=xAgr xs ys ha.2 hb.2
   simp only[PyData.eqvAll,Bool.and_eq_true,h1,h2,List.cons.injEq]
end
def xAlc:∀{xs:List PyData},(∀x∈xs,noB x=true)->noBs xs=true
 |[],_=>rfl
 |x::xs,h=>by
  rw[noBs,h x qp,xAlc λy a=>h y (qu _ a)];rfl
def xAcn:∀{xs:List PyData},(∀x∈xs,x.canLay0=true)->PyData.canLayAll0 xs=true
 |[],_=>rfl
 |x::xs,h=>by
  show(x.canLay0&&PyData.canLayAll0 xs)=true;rw[h x qp,xAcn λy a=>h y (qu _ a)];rfl
def nd_add{α:Type}{l:List α}{x:α}(h:l.Nodup)(f:x∉l):(l++[x]).Nodup :=
 v9.mpr ⟨h,zx.mpr ⟨λz=>(List.not_mem_nil z).elim,yb⟩,λa c b d e=>f (by rw[qt.mp d]at e;rw[←e];exact c)⟩
mutual
def sk:PyData->PyData->Bool
 |.none,.none=>true
 |.bool _,.bool _=>true
 |.int _,.int _=>true
 |.str _,.str _=>true
 |.tuple xs,.tuple ys=>sks xs ys
 |_,_=>false
def sks:List PyData->List PyData->Bool
 |[],_=>true
 |_::_,[]=>true
 |x::xs,y::ys=>sk x y&&sks xs ys
end
mutual
def ltD:PyData->PyData->Bool
 |.bool a,.bool b=>!a&&b
 |.int i,.int j=>decide (i<j)
 |.str x,.str y=>decide (x.cps.toList<y.cps.toList)
 |.tuple xs,.tuple ys=>ltDs xs ys
 |_,_=>false
def ltDs:List PyData->List PyData->Bool
 |[],[]=>false
 |[],_::_=>true
 |_::_,[]=>false
 |x::xs,y::ys=>if PyData.eqv x y=true then ltDs xs ys else ltD x y
end
mutual
def sk_eq:∀(a b:PyData),sk a b=true->(PyData.eqv a b=true↔a=b)
 |.tuple xs,b,h=>by
  cases b with
  |tuple ys=>simp only[PyData.eqv,PyData.tuple.injEq];exact xAtm xs ys (by simpa[sk] using h)
  |_=>simp[sk]at h
 |.none,b,h=>by cases b <;> simp_all [sk,PyData.eqv]
 |.bool _,b,h=>by cases b <;> simp_all [sk,PyData.eqv]
 |.int _,b,h=>by cases b <;> simp_all [sk,PyData.eqv]
 |.str _,b,h=>by cases b <;> simp_all [sk,PyData.eqv]
 |.list _,b,h=>by cases b <;> simp[sk]at h
 |.dict _,b,h=>by cases b <;> simp[sk]at h
def xAtm:∀(xs ys:List PyData),sks xs ys=true->(PyData.eqvAll xs ys=true↔xs=ys)
 |[],ys,_=>by cases ys <;> simp[PyData.eqvAll]
 |x::xs,[],_=>by simp[PyData.eqvAll]
 |x::xs,y::ys,h=>by
  rw[sks,zb]at h
  simp only[PyData.eqvAll,Bool.and_eq_true,sk_eq x y h.1,xAtm xs ys h.2,List.cons.injEq]
end
def xAtn{x y:Str}(h:x.cps.toList=y.cps.toList):x=y:=by
 obtain⟨a⟩:=x;obtain⟨b⟩:=y;exact congrArg Str.mk (Array.ext' h)
mutual
def xAdp:∀a:PyData,ltD a a=false
 |.tuple xs=>by rw[ltD];exact xAld xs
 |.none=>rfl
 |.bool b=>by cases b <;> rfl
 |.int i=>by simp[ltD]
 |.str x=>by simp[ltD,List.lt_irrefl]
 |.list _=>rfl
 |.dict _=>rfl
def xAld:∀xs:List PyData,ltDs xs xs=false
 |[]=>rfl
 |x::xs=>by
  rw[ltDs,xAld xs,xAdp x]
  split <;> rfl
end
mutual
def xApl:∀(a b:PyData),sk a b=true->ltD a b=false->ltD b a=false->a=b
 |.tuple xs,b,h,h1,h2=>by
  cases b with
  |tuple ys=>exact congrArg PyData.tuple (xAle xs ys (by simpa[sk] using h) (by simpa[ltD] using h1) (by simpa[ltD] using h2))
  |_=>simp[sk]at h
 |.none,b,h,_,_=>by cases b <;> simp_all [sk]
 |.bool a,b,h,h1,h2=>by
  cases b with
  |bool c=>cases a <;> cases c <;> simp_all [ltD]
  |_=>simp[sk]at h
 |.int i,b,h,h1,h2=>by
  cases b with
  |int j=>simp only[ltD,decide_eq_false_iff_not]at h1 h2;exact congrArg _ (by omega)
  |_=>simp[sk]at h
 |.str x,b,h,h1,h2=>by
  cases b with
  |str y =>
   simp only[ltD,decide_eq_false_iff_not]at h1 h2
   exact congrArg _ (xAtn (List.le_antisymm (jp.mp h2) (jp.mp h1)))
  |_=>simp[sk]at h
 |.list _,b,h,_,_=>by cases b <;> simp[sk]at h
 |.dict _,b,h,_,_=>by cases b <;> simp[sk]at h
def xAle:∀(xs ys:List PyData),sks xs ys=true->ltDs xs ys=false->ltDs ys xs=false->xs=ys
 |[],[],_,_,_=>rfl
 |[],_::_,_,h,_=>by simp[ltDs]at h
 |_::_,[],_,_,h=>by simp[ltDs]at h
 |x::xs,y::ys,h,h1,h2=>by
  rw[sks,zb]at h
  by_cases e:x=y
  ·subst e
   have ex:PyData.eqv x x=true:=(sk_eq x x h.1).mpr rfl;rw[ltDs,qF ex]at h1 h2;rw[xAle xs ys h.2 h1 h2]
  ·have a:¬PyData.eqv x y=true:=λz=>e ((sk_eq x y h.1).mp z)
   have b:sk y x=true:=xApm x y h.1;have c:¬PyData.eqv y x=true:=λz=>e ((sk_eq y x b).mp z).symm;rw[ltDs,qB a]at h1;rw[ltDs,qB c]at h2;exact absurd (xApl x y h.1 h1 h2) e
def xApm:∀(a b:PyData),sk a b=true->sk b a=true
 |.tuple xs,b,h=>by
  cases b with
  |tuple ys=>rw[sk];exact xAlf xs ys (by simpa[sk] using h)
  |_=>simp[sk]at h
 |.none,b,h=>by cases b <;> simp_all [sk]
 |.bool _,b,h=>by cases b <;> simp_all [sk]
 |.int _,b,h=>by cases b <;> simp_all [sk]
 |.str _,b,h=>by cases b <;> simp_all [sk]
 |.list _,b,h=>by cases b <;> simp[sk]at h
 |.dict _,b,h=>by cases b <;> simp[sk]at h
def xAlf:∀(xs ys:List PyData),sks xs ys=true->sks ys xs=true
 |[],[],_=>rfl
 |[],_::_,_=>rfl
 |_::_,[],_=>rfl
 |x::xs,y::ys,h=>by
  rw[sks,zb]at h ⊢;exact⟨xApm x y h.1,xAlf xs ys h.2⟩
end
mutual
def xAqt:∀(a b c:PyData),sk a b=true->sk b c=true->sk a c=true->ltD a b=true->ltD b c=true->ltD a c=true
 |.tuple xs,b,c,h1,h2,h3,l1,l2=>by
  cases b with
  |tuple ys =>
   cases c with
   |tuple zs=>rw[ltD];exact xApn xs ys zs (by simpa[sk] using h1) (by simpa[sk] using h2) (by simpa[sk] using h3) (by simpa[ltD] using l1) (by simpa[ltD] using l2)
   |_=>simp[sk]at h3
  |_=>simp[sk]at h1
 |.none,b,c,_,_,_,l1,_=>by cases b <;> simp[ltD]at l1
 |.bool a,b,c,h1,h2,h3,l1,l2=>by
  cases b with
  |bool y =>
   cases c with
   |bool z=>cases a <;> cases y <;> cases z <;> simp_all [ltD]
   |_=>simp[sk]at h3
  |_=>simp[sk]at h1
 |.int i,b,c,h1,h2,h3,l1,l2=>by
  cases b with
  |int y =>
   cases c with
   |int z=>simp only[ltD,decide_eq_true_eq]at *;omega
   |_=>simp[sk]at h3
  |_=>simp[sk]at h1
 |.str i,b,c,h1,h2,h3,l1,l2=>by
  cases b with
  |str y =>
   cases c with
   |str z=>simp only[ltD,decide_eq_true_eq]at *;exact List.lt_trans l1 l2
   |_=>simp[sk]at h3
  |_=>simp[sk]at h1
 |.list _,b,c,_,_,_,l1,_=>by cases b <;> simp[ltD]at l1
 |.dict _,b,c,_,_,_,l1,_=>by cases b <;> simp[ltD]at l1
def xApn:∀(xs ys zs:List PyData),sks xs ys=true->sks ys zs=true->sks xs zs=true->ltDs xs ys=true->ltDs ys zs=true->ltDs xs zs=true
 |_,_,[],_,_,_,_,l2=>by
  rename_i ys _ _ _ _
  cases ys <;> simp[ltDs]at l2
 |[],_,_::_,_,_,_,_,_=>rfl
 |x::xs,[],_::_,_,_,_,l1,_=>by simp[ltDs]at l1
 |x::xs,y::ys,z::zs,h1,h2,h3,l1,l2=>by
  rw[sks,zb]at h1 h2 h3
  by_cases e:x=y
  ·subst e
   have a:PyData.eqv x x=true:=(sk_eq x x h1.1).mpr rfl;rw[ltDs,qF a]at l1
   by_cases b:x=z
   ·subst b
    rw[ltDs,qF a]at l2 ⊢;exact xApn xs ys zs h1.2 h2.2 h3.2 l1 l2
   ·have d:¬PyData.eqv x z=true:=λw=>b ((sk_eq x z h3.1).mp w)
    rw[ltDs,qB d]at l2 ⊢;exact l2
  ·have a:¬PyData.eqv x y=true:=λw=>e ((sk_eq x y h1.1).mp w)
   rw[ltDs,qB a]at l1
   by_cases b:y=z
   ·subst b
    rw[ltDs,qB a];exact l1
   ·have d:¬PyData.eqv y z=true:=λw=>b ((sk_eq y z h2.1).mp w)
    rw[ltDs,qB d]at l2;have c:=xAqt x y z h1.1 h2.1 h3.1 l1 l2
    have f:¬PyData.eqv x z=true:=λw=>by
     have:=(sk_eq x z h3.1).mp w;subst this;rw[xAdp]at c;cases c
    rw[ltDs,qB f];exact c
end
mutual
def xAto:∀(a b c:PyData),sk a b=true->sk b c=true->sk a c=true->ltD a c=true->ltD a b=true\/ltD b c=true
 |.tuple xs,b,c,h1,h2,h3,l=>by
  cases b with
  |tuple ys =>
   cases c with
   |tuple zs=>rw[ltD,ltD];exact xApo xs ys zs (by simpa[sk] using h1) (by simpa[sk] using h2) (by simpa[sk] using h3) (by simpa[ltD] using l)
   |_=>simp[sk]at h3
  |_=>simp[sk]at h1
 |.none,b,c,_,_,_,l=>by cases c <;> simp[ltD]at l
 |.bool a,b,c,h1,h2,h3,l=>by
  cases b with
  |bool y =>
   cases c with
   |bool z=>cases a <;> cases y <;> cases z <;> simp_all [ltD]
   |_=>simp[sk]at h3
  |_=>simp[sk]at h1
 |.int i,b,c,h1,h2,h3,l=>by
  cases b with
  |int y =>
   cases c with
   |int z=>simp only[ltD,decide_eq_true_eq]at *;omega
   |_=>simp[sk]at h3
  |_=>simp[sk]at h1
 |.str i,b,c,h1,h2,h3,l=>by
  cases b with
  |str y =>
   cases c with
   |str z =>
    simp only[ltD,decide_eq_true_eq]at *
    by_cases d:i.cps.toList<y.cps.toList
    ·exact .inl d
    ·exact .inr (List.lt_of_le_of_lt (jp.mp d) l)
   |_=>simp[sk]at h3
  |_=>simp[sk]at h1
 |.list _,b,c,_,_,_,l=>by cases c <;> simp[ltD]at l
 |.dict _,b,c,_,_,_,l=>by cases c <;> simp[ltD]at l
def xApo:∀(xs ys zs:List PyData),sks xs ys=true->sks ys zs=true->sks xs zs=true->ltDs xs zs=true->ltDs xs ys=true\/ltDs ys zs=true
 |xs,_,[],_,_,_,l=>by cases xs <;> simp[ltDs]at l
 |[],[],_::_,_,_,_,_=>.inr rfl
 |[],_::_,_::_,_,_,_,_=>.inl rfl
 |x::xs,[],_::_,_,_,_,_=>.inr rfl
 |x::xs,y::ys,z::zs,h1,h2,h3,l=>by
  rw[sks,zb]at h1 h2 h3
  by_cases e:x=z
  ·subst e
   have a:PyData.eqv x x=true:=(sk_eq x x h3.1).mpr rfl;rw[ltDs,qF a]at l
   by_cases b:x=y
   ·subst b
    rw[ltDs,qF a,ltDs,qF a];exact xApo xs ys zs h1.2 h2.2 h3.2 l
   ·have c:¬PyData.eqv x y=true:=λw=>b ((sk_eq x y h1.1).mp w)
    have d:¬PyData.eqv y x=true:=λw=>b ((sk_eq y x h2.1).mp w).symm;rw[ltDs,qB c,ltDs,qB d]
    cases f:ltD x y with
    |true=>exact .inl rfl
    |false =>
     cases p2:ltD y x with
     |true=>exact .inr rfl
     |false=>exact absurd (xApl x y h1.1 f p2) b
  ·have a:¬PyData.eqv x z=true:=λw=>e ((sk_eq x z h3.1).mp w)
   rw[ltDs,qB a]at l;rcases xAto x y z h1.1 h2.1 h3.1 l with p|p
   ·left
    have c:¬PyData.eqv x y=true:=λw=>by
     have:=(sk_eq x y h1.1).mp w;subst this;rw[xAdp]at p;cases p
    rw[ltDs,qB c];exact p
   ·right
    have d:¬PyData.eqv y z=true:=λw=>by
     have:=(sk_eq y z h2.1).mp w;subst this;rw[xAdp]at p;cases p
    rw[ltDs,qB d];exact p
end
def LtAt(A:Around)(s:Shared)(x y:Value)(b:Bool):Prop:=∀(prog:Program) (w:World) (E:Value->Shared->Prop) (Q:Value->Shared->Prop),Q (.bool b) s->wpAny (model prog w) A (richCompare .Lt x y) Q E s
open SeqAt in
def xAlg(l b:Addr)(us vs:Array Value)(n u:Nat)(B o:Option Addr)(I r:Array (Option Value))(e:Nat->Bool)(c:Bool) :
  Meets (Builtin.«tuple.__lt__» ⟨[.ref l,.ref b],[]⟩)
   (λA R s=>s.heap.get? l=some { cls:=.type "tuple",dict:=B,data:=.seq us n,slots:=I }/\s.heap.get? b=some { cls:=.type "tuple",dict:=o,data:=.seq vs u,slots:=r } ∧
    (∀j (h1:j<us.size) (h2:j<vs.size),EqAt A.in1 s us[j] vs[j] (e j)) ∧
    (∀i (h1:i<us.size) (h2:i<vs.size),(∀j,j<i->e j=true)->e i=false->LtAt A.in1 s us[i] vs[i] c) ∧
    ((∀j,j<min us.size vs.size->e j=true)->c=decide (us.size<vs.size))/\R (.ok (.ret (.bool c))) s) :=
 .of_wp λprog w A R s h=>by
  obtain⟨F,g,d,tk,H⟩:=s;obtain⟨D,E,G,t,f,h⟩:=h;have K:=AutoSeq1.sub_tuple_tuple
  have L:(us.toList.zip vs.toList).length=min us.size vs.size:=by simp
  wp_walk using wpAny_loadPart' D,wpAny_loadPart' E,wpAny_forIn_list _ (λrest b s'=>b.1=none/\s'=⟨F,g,d,tk,H⟩/\∃i,rest=(us.toList.zip vs.toList).drop i/\∀j,j<i->e j=true) _
  case turn =>
   rintro⟨y,x⟩ rest b s' ⟨a,rfl,i,hz,hi⟩
   have k:i<(us.toList.zip vs.toList).length:=by
    rcases yc i (us.toList.zip vs.toList).length with h' |h'
    ·exact h'
    ·rw[gh h']at hz;cases hz
   have h1:i<us.size:=by omega
   have h2:i<vs.size:=by omega
   rw[yz k]at hz;injection hz with hyx hrest
   have m:y=us[i]:=by have:=congrArg Prod.fst hyx;simpa using this
   have C:x=vs[i]:=by have:=congrArg Prod.snd hyx;simpa using this
   subst m C;refine qA (G i h1 h2 prog w _ _ ?_)
   cases m:e i with
   |true =>
    wp_walk
    exact⟨O,O,i+1,hrest,λj p=>by
     by_cases z:j=i
     ·rw[z];exact m
     ·exact hi j (by omega)⟩
   |false =>
    have q:=t i h1 h2 hi m;dsimp only;rw[qF (by rfl)];refine qA (wpAny_rule (qA (q prog w _ _ ?_)));exact qA (qE (qE (qE ⟨_,O,h⟩)))
  case fin =>
   rintro⟨M,J⟩ s' ⟨a,rfl,i,hz,hi⟩
   simp only at a
   subst a
   have v:min us.size vs.size≤i:=by
    rcases yc i (us.toList.zip vs.toList).length with h' |h'
    ·rw[yz h']at hz;cases hz
    ·omega
   have:=f λj p=>hi j (by omega)
   wp_walk
   exact⟨_,O,by rw[this]at h;simpa[Builtin.Tuple.tupleCompareSizes] using h⟩
  case h =>
   exact⟨O,O,0,O,λj p=>absurd p (zw _)⟩
def LtAt.tuples{A:Around}{s:Shared}{l b:Addr}{us vs:Array Value}{e:Nat->Bool}{c:Bool}(z:s.heap.IsTuple l us)(B:s.heap.IsTuple b vs)(D:A.units<cLine)(C:∀j (h1:j<us.size) (h2:j<vs.size),SeqAt.EqAt A.in1 s us[j] vs[j] (e j))(p:∀i (h1:i<us.size) (h2:i<vs.size),(∀j,j<i->e j=true)->e i=false->LtAt A.in1 s us[i] vs[i] c)(f:(∀j,j<min us.size vs.size->e j=true)->c=decide (us.size<vs.size)):LtAt A s (.ref l) (.ref b) c:=λprog w E Q h=>by
 obtain⟨⟨G,y,data,H⟩,q,u,n,r⟩:=id z;obtain⟨⟨t,k,o,m⟩,g,a,v,d⟩:=id B
 simp only at u r a d
 subst u r a d
 exact richCompare_meets_room (op:=.Lt) ⟨_,q,O⟩ ⟨_,g,O⟩ F.slot_tuple_lt F.entry_tuple_lt (F.args_tuple_lt_2 _ _) (xAlg l b us vs n v y k H m e c)
  ⟨q,g,C,p,f,show Value.bool c≠Value.notImplemented/\Q (.bool c) s from⟨(λx=>nomatch x),h⟩⟩ D
def LtAt.ints(i j:Int)(t u:Tok):LtAt A s (.int i t) (.int j u) (decide (i<j)):=λprog w E Q h=>PyProof.Rows.lt_int h
def LtAt.strs(i j:Str)(t u:Tok):LtAt A s (.str i t) (.str j u) (decide (i.cps.toList<j.cps.toList)):=λprog w E Q h=>PyProof.Rows.lt_str h
def LtAt.bools(i j:Bool):LtAt A s (.bool i) (.bool j) (!i&&j):=λprog w E Q h=>by
 refine PyProof.Rows.lt_bool ?_;cases i <;> cases j <;> exact h
open SeqAt in
def xAlh:∀(xs ys:List PyData) (i:Nat),i<xs.length->i<ys.length->(∀j,j<i->pairEq xs ys j=true)->pairEq xs ys i=false->ltDs xs ys=ltD (xs.getD i .none) (ys.getD i .none)
 |x::xs,y::ys,0,_,_,_,h=>by
  have h':PyData.eqv x y=false:=h;rw[ltDs,qB (by rw[h'];decide)];rfl
 |x::xs,y::ys,i+1,h1,h2,hj,h=>by
  have h':PyData.eqv x y=true:=hj 0 (by omega);rw[ltDs,qF h'];exact xAlh xs ys i (by simpa using h1) (by simpa using h2) (λj a=>hj (j+1) (by omega)) h
 |[],_,_,h1,_,_,_=>absurd h1 (zw _)
 |_::_,[],_,_,h2,_,_=>absurd h2 (zw _)
open SeqAt in
def xAgs:∀(xs ys:List PyData),(∀j,j<min xs.length ys.length->pairEq xs ys j=true)->ltDs xs ys=decide (xs.length<ys.length)
 |[],[],_=>rfl
 |[],_::_,_=>by simp[ltDs]
 |_::_,[],_=>by simp[ltDs]
 |x::xs,y::ys,h=>by
  have h':PyData.eqv x y=true:=h 0 (by simp);rw[ltDs,qF h',xAgs xs ys λj a=>h (j+1) (by simp only[List.length_cons];omega)]
  simp
def xAtp:∀(xs ys:List PyData) (i:Nat),i<xs.length->i<ys.length->sks xs ys=true->sk (xs.getD i .none) (ys.getD i .none)=true
 |x::xs,y::ys,0,_,_,h=>by rw[sks,zb]at h;exact h.1
 |x::xs,y::ys,i+1,h1,h2,h=>by
  rw[sks,zb]at h;exact xAtp xs ys i (by simpa using h1) (by simpa using h2) h.2
 |[],_,_,h1,_,_=>absurd h1 (zw _)
 |_::_,[],_,_,h2,_=>absurd h2 (zw _)
def xAet:∀(xs:List PyData) (i:Nat),i<xs.length->(xs.getD i .none).depth≤PyData.depthAll xs
 |x::xs,0,_=>by show x.depth≤max x.depth _;omega
 |x::xs,i+1,h=>by
  have:=xAet xs i (by simpa using h);show(xs.getD i .none).depth≤max x.depth (PyData.depthAll xs);omega
 |[],_,h=>absurd h (zw _)
def xAbj:∀{vs:List Value} {ds:List PyData} {as:List Addr} {i:Nat} (hi:i<vs.length),ReadsAll h vs ds as->∃bs,Reads h vs[i] (ds.getD i .none) bs
 |_,_,_,0,_,.cons r _=>⟨_,r⟩
 |_,_,_,i+1,hi,.cons _ t=>xAbj (i:=i) (by simpa using hi) t
def xAef(h:PyData.canLayAll0 ds=true)(hi:i<ds.length):(ds.getD i .none).canLay0=true :=
 xAed (j:=i) h (by rw[zf,qg hi];rfl)
open SeqAt in
def xAli:∀(n:Nat) (g c:PyData) (A:Around) (s:Shared) (a b:Value) (as bs:List Addr),g.depth≤n->Reads s.heap a g as->Reads s.heap b c bs->g.canLay0=true->c.canLay0=true->sk g c=true->g≠.none →
  A.units+n<cLine->LtAt A s a b (ltD g c)
 |n,.int i,c,A,s,a,b,as,bs,_,ra,rb,_,_,hk,_,_=>by
  cases c <;> simp[sk]at hk;cases ra;cases rb;exact LtAt.ints _ _ _ _
 |n,.str i,c,A,s,a,b,as,bs,_,ra,rb,_,_,hk,_,_=>by
  cases c <;> simp[sk]at hk;cases ra;cases rb;exact LtAt.strs _ _ _ _
 |n,.bool i,c,A,s,a,b,as,bs,_,ra,rb,_,_,hk,_,_=>by
  cases c <;> simp[sk]at hk;cases ra;cases rb;exact LtAt.bools _ _
 |n,.none,c,A,s,a,b,as,bs,_,_,_,_,_,_,hn,_=>absurd rfl hn
 |n,.list _,c,A,s,a,b,as,bs,_,_,_,_,_,hk,_,_=>by cases c <;> simp[sk]at hk
 |n,.dict _,c,A,s,a,b,as,bs,_,_,_,_,_,hk,_,_=>by cases c <;> simp[sk]at hk
 | 0,.tuple xs,c,A,s,a,b,as,bs,hd,_,_,_,_,_,_,_=>by
  have:PyData.depthAll xs+1≤0:=hd;omega
 |n+1,.tuple xs,c,A,s,a,b,as,bs,hd,ra,rb,ca,cb,hk,_,hu=>by
  cases c with
  |tuple ys =>
   have y:sks xs ys=true:=by simpa[sk] using hk
   have r:PyData.depthAll xs≤n:=by
    have:PyData.depthAll xs+1≤n+1:=hd;omega
   cases ra with
   |tuple h1 h2 F x =>
    cases rb with
    |tuple E J I t =>
     rename_i l o us m K o' vs L
     have D:=ReadsAll.length _ _ _ x;have C:=ReadsAll.length _ _ _ t;rw[ze]at D C
     have e:ltD (.tuple xs) (.tuple ys)=ltDs xs ys:=by rw[ltD]
     rw[e]
     have q:∀j (p:j<us.size) (k:j<vs.size),EqAt A.in1 s us[j] vs[j] (pairEq xs ys j):=λj p k=>by
      obtain⟨G,w⟩:=xAbj (i:=j) (by rw[ze];exact p) x;obtain⟨p2,v⟩:=xAbj (i:=j) (by rw[ze];exact k) t;have M:=xAet xs j (by omega);have:=eqAt_reads (xs.getD j .none) (ys.getD j .none) A.in1 s _ _ _ _ w v (xAef ca (by omega)) (xAef cb (by omega)) (by show A.units+1+_<cLine;omega)
      simp only[Array.getElem_toList]at this
      exact this
     refine LtAt.tuples ⟨_,h1,h2,_,F⟩ ⟨_,E,J,_,I⟩ (by omega) q (λi p k u B=>?_) λu=>?_
     ·obtain⟨G,w⟩:=xAbj (i:=i) (by rw[ze];exact p) x
      obtain⟨p2,v⟩:=xAbj (i:=i) (by rw[ze];exact k) t;rw[xAlh xs ys i (by omega) (by omega) u B];have d:=xAtp xs ys i (by omega) (by omega) y
      have:=xAli n (xs.getD i .none) (ys.getD i .none) A.in1 s _ _ _ _ (qc (xAet xs i (by omega)) r) w v (xAef ca (by omega)) (xAef cb (by omega)) d (λz=>by
       have f:PyData.eqv (xs.getD i .none) (ys.getD i .none)=false:=B;rw[z]at d f
       cases H:ys.getD i .none <;> rw[H]at d f <;> simp[sk,PyData.eqv]at d f) (by show A.units+1+_<cLine;omega)
      simpa using this
     ·rw[xAgs xs ys λj h=>u j (by omega),D,C]
  |_=>simp[sk]at hk
end L2
namespace Tim
open PySem PySem.W PyProof.Rows Srt
abbrev S(κ:SortKind)(it:Array Keyed)(p:Array Nat)(pd:Array (Nat×Nat×Nat))(m:Nat):SortSt:=SortSt.mk' κ (p.map (kas_item it)) pd m none
def Ans(prog:Program)(w:World)(A:Around)(s:Shared)(κ:SortKind)(it:Array Keyed)(n:Nat)(lt:Nat->Nat->Bool):Prop :=
 ∀i j (C:Bool->Shared->Prop),i<n->j<n->C (lt i j) s->kas_cmp prog w A κ it i j C s
def In(n:Nat)(p:Array Nat):Prop:=∀i,i<p.size->g p i<n
section
variable {prog:Program}{w:World}{A:Around}{E:Value->Shared->Prop}{s:Shared}{κ:SortKind}{it:Array Keyed}{n:Nat}{lt:Nat->Nat->Bool}{p:Array Nat}{pd:Array (Nat×Nat×Nat)}{mg:Nat}
def lt_ok(f:Ans prog w A s κ it n lt){i j:Nat}{st:SortSt}{Q:Option Bool->SortSt->Prop}(e:kindOf st=κ)(hi:i<n)(g:j<n)(h:Q (some (lt i j)) st):wpS (model prog w) A E s (lt' (kas_item it i) (kas_item it j)) Q st:=by
 rw[lt'_eq];refine wpS_bind (wpS_get ?_);rw[e];refine wpS_bind (wpS_lift (wpAny_attempt (qM (f i j (λb s'=>s'=s/\b=lt i j) hi g ⟨O,O⟩) (λc s' d=>?_) λ_ _ a=>a.elim)));obtain⟨rfl,rfl⟩:=d;exact⟨O,wpS_pure h⟩
def map_at(hi:i<p.size):(p.map (kas_item it))[i]?=some (kas_item it (g p i)):=by
 have e:g p i=p[i]:=by unfold g;simp[Array.getD,hi]
 rw[e]
 simp[hi]
def xApp{i:Nat}{st:SortSt}{Q:Keyed->SortSt->Prop}(hi:i<p.size)(h:Q (kas_item it (g p i)) st):wpS (model prog w) A E s (elem' (p.map (kas_item it)) i) Q st:=by
 rw[elem'_eq,map_at hi];exact wpS_pure h
def xAtq(c:Ans prog w A s κ it n lt)(b:In n p){i j:Nat}{Q:Option Bool->SortSt->Prop}(hi:i<p.size)(a:j<p.size)(h:Q (some (lt (g p i) (g p j))) (S κ it p pd mg)):wpS (model prog w) A E s (ltAt' i j) Q (S κ it p pd mg):=by
 rw[ltAt'_eq];refine wpS_bind (wpS_get ?_);exact wpS_bind (xApp hi (wpS_bind (xApp a (lt_ok c rfl (b i hi) (b j a) h))))
end
def UpL(lt:Nat->Nat->Bool)(lo:Nat)(p:Array Nat)(k:Nat):Prop:=∀i j,lo≤i->i≤j->j<k->lt (g p j) (g p i)=false
section
variable {lt:Nat->Nat->Bool}{lo:Nat}{p:Array Nat}
def up1(W:Swo lt):UpL lt lo p (lo+1):=λi j h1 h2 a=>by
 have:i=j:=by omega
 subst this;exact W.irr _
def xAqu(W:Swo lt)(h0:lo+1≤k)(h:UpL lt lo p k)(c:lt (g p k) (g p (k - 1))=false):UpL lt lo p (k+1):=by
 intro i j h1 a d
 by_cases e:j=k
 ·subst e
  by_cases b:i=j
  ·subst b;exact W.irr _
  ·exact W.le_tr (h i (j - 1) h1 (by omega) (by omega)) c
 ·exact h i j h1 a (by omega)
end
section
variable {prog:Program}{w:World}{A:Around}{E:Value->Shared->Prop}{s:Shared}{κ:SortKind}{it:Array Keyed}{n:Nat}{lt:Nat->Nat->Bool}{p:Array Nat}{pd:Array (Nat×Nat×Nat)}{mg:Nat}{lo nrem:Nat}
def xAqv(W:Swo lt)(o:Ans prog w A s κ it n lt)(t:In n p){a:Nat}{Q:AscSt->SortSt->Prop}{f:Nat->AscSt->StateT SortSt Sem (ForInStep AscSt)}(u:∀x (k:Nat),f x (none,k)=(do
      let r ←ltAt' (lo+k) (lo+k - 1)
      match r with
      |some b=>if b=true then pure (ForInStep.done (none,k)) else pure (ForInStep.yield (none,k+1))
      |_=>pure (ForInStep.done (some none,k))))(v:1≤a)(l:a≤nrem)(hz:lo+nrem≤p.size)(m:UpL lt lo p (lo+a))(h:∀k,a≤k->k≤nrem->UpL lt lo p (lo+k)->(k<nrem->lt (g p (lo+k)) (g p (lo+k - 1))=true)->Q (none,k) (S κ it p pd mg)) :
  wpS (model prog w) A E s (forIn [a:nrem] ((none,a):AscSt) f) Q (S κ it p pd mg):=by
 refine wpS_forRange (I:=λx c i=>i=S κ it p pd mg/\c=(none,x)/\UpL lt lo p (lo+x)) ?step ?fin ⟨O,O,m⟩
 case fin =>
  rintro c i ⟨rfl,rfl,d⟩;rw[show max a nrem=nrem by omega]at d ⊢;exact h nrem l (qb _) d λz=>absurd z (zn _)
 case step =>
  rintro x c i j q ⟨rfl,rfl,d⟩;rw[u];refine wpS_bind (xAtq o t (by omega) (by omega) ?_)
  cases e:lt (g p (lo+x)) (g p (lo+x - 1)) with
  |true =>
   dsimp only;rw[qF rfl];exact wpS_pure (h x j (by omega) d λ_=>e)
  |false =>
   dsimp only;rw[qB (by decide)];exact wpS_pure ⟨O,O,xAqu (k:=lo+x) W (by omega) d e⟩
def wp_if{α:Type}{c:Prop}[Decidable c]{b a:StateT SortSt Sem α}{Q:α->SortSt->Prop}{st:SortSt}(h1:c->wpS (model prog w) A E s b Q st)(h2:¬c->wpS (model prog w) A E s a Q st):wpS (model prog w) A E s (if c then b else a) Q st:=by
 by_cases h:c
 ·rw[qF h];exact h1 h
 ·rw[qB h];exact h2 h
end
section
variable {prog:Program}{w:World}{A:Around}{E:Value->Shared->Prop}{s:Shared}{κ:SortKind}{it:Array Keyed}{n:Nat}{lt:Nat->Nat->Bool}{p:Array Nat}{pd:Array (Nat×Nat×Nat)}{mg:Nat}
def xAid:∀(f n r:Nat),r≤1->minRun' f n r≤n+r
 | 0,n,r,_=>qb _
 |f+1,n,r,hr=>by
  rw[minRun'_succ]
  split
  ·exact qb _
  ·have:=xAid f (n / 2) (max r (n % 2)) (by omega)
   omega
def xAnv(W:Swo lt)(d:Ans prog w A s κ it n lt)(f:In n p){nrem:Nat}{Q:Option Nat->SortSt->Prop}(h1:1≤nrem)(hz:0+nrem≤p.size)(c:UpL lt 0 p (0+nrem))(h:Q (some nrem) (S κ it p pd mg)):wpS (model prog w) A E s (countRun' 0 nrem) Q (S κ it p pd mg):=by
 rw[countRun'_eq];refine wpS_bind (xAqv W d f (λx k=>rfl) (qb 1) h1 hz (up1 W) λk i g up a=>?_);dsimp only
 have b:k=nrem:=by
  by_cases e:k=nrem
  ·exact e
  ·have:=a (by omega)
   rw[c (0+k - 1) (0+k) (by omega) (by omega) (by omega)]at this;cases this
 rw[qF (by simpa using b),b];exact wpS_pure h
def runs_asc(W:Swo lt)(q:Ans prog w A s κ it n lt)(r:In n p)(hz:2≤p.size)(k:UpL lt 0 p (0+p.size)){Q:Unit->SortSt->Prop}(h:∀pd m,Q () (S κ it p pd m)) :
  wpS (model prog w) A E s sortRuns' Q (S κ it p #[] 7):=by
 rw[sortRuns'_eq];refine wpS_bind (wpS_get ?_);have j:(arrOf (S κ it p #[] 7)).size=p.size:=Array.size_map ..;dsimp only;rw[j]
 refine wpS_bind (wpS_mono (wpS_forRange (I:=λx c a=>(x=0/\c=(none,0)/\a=S κ it p #[] 7)\/(c=(none,p.size)/\a=S κ it p #[(0,p.size,0)] 7))
  (Q:=λc a=>c=(none,p.size)/\a=S κ it p #[(0,p.size,0)] 7) ?s0 ?f0 (.inl ⟨O,O,O⟩)) ?p0)
 case f0 =>
  rintro c a (⟨l,_,_⟩|hh)
  ·omega
  ·exact hh
 case s0 =>
  rintro x c a _ l (⟨rfl,rfl,rfl⟩|⟨rfl,rfl⟩)
  ·dsimp only
   refine wp_if (λd=>absurd d (by omega)) λb=>?_;refine wpS_bind (xAnv W q r (by omega) (by omega) (by rw[ym];exact k) ?_);dsimp only;refine wp_if (λe=>absurd e (by have:=xAid p.size p.size 0 (by decide);omega)) λi=>?_;refine wpS_bind (wpS_get ?_)
   split
   ·rename_i g
    have g:(none:Option (Nat×Nat×Nat))=_:=g;cases g
   ·refine wpS_bind (wpS_modify (wpS_pure (.inr ⟨?_,?_⟩)))
    ·rw[ym,y0]
    ·rw[ym];rfl
  ·dsimp only
   refine wp_if (λd=>wpS_pure ⟨O,O⟩) λb=>absurd b (by omega)
 case p0 =>
  rintro c a ⟨rfl,rfl⟩;dsimp only;refine wpS_bind (wpS_mono (wpS_forRange (I:=λx c a=>c=(none,())/\a=S κ it p #[(0,p.size,0)] 7) (Q:=λc a=>c=(none,())/\a=S κ it p #[(0,p.size,0)] 7) ?s1 (λc a z=>z) ⟨O,O⟩) ?p1)
  case s1 =>
   rintro y c a _ t ⟨rfl,rfl⟩;refine wpS_bind (wpS_get ?_);refine wp_if (λo=>wpS_pure ⟨O,O⟩) λf=>absurd (show(1:Nat)≤1 from qb 1) f
  case p1 =>
   rintro c a ⟨rfl,rfl⟩;exact wpS_pure (h _ _)
end
end Tim
namespace L2
open PySem PySem.Spec PySem.W PyProof.Rows
section
variable {prog:Program}{w:World}{A:Around}{E:Value->Shared->Prop}{s:Shared}
def Ext(h h':Heap):Prop:=∀b o,h.get? b=some o->h'.get? b=some o
def Ext.trans(a:Ext h h')(b:Ext h' d):Ext h d:=λc o e=>b c o (a c o e)
def Ext.push(h:Heap)(o:Obj):Ext h (h.push o):=λ_ _ e=>qH _ e
def Ext.upd{h h':Heap}{a:Addr}{f:Obj->Obj}(x:Ext h h')(c:h.objs.size≤a):Ext h (h'.update a f):=λb o e=>by
 rw[Heap.get?_update_ne _ _ _ _ (qi (qq (qG e) c))];exact x b o e
def Answers(prog:Program)(w:World)(A:Around)(s:Shared)(ks:List Value)(lt:Nat->Nat->Bool):Prop :=
 ∃κ,(∀(Q:SortKind->Shared->Prop),Q κ s->wpAny (model prog w) A (keyKind' ks.toArray) Q (λ_ _=>False) s)/\∀i j C,i<ks.length->j<ks.length->C (lt i j) s->kas_ask prog w A κ ks i j C s
def Arr(n:Nat)(lt:Nat->Nat->Bool)(p:Array Nat):Prop:=p.Perm (List.toArray (List.range n))/\Srt.Up lt p n
def xAie{lt:Nat->Nat->Bool}(W:Srt.Swo lt)(h:n<2):Arr n lt (List.toArray (List.range n)):=by
 refine⟨.refl _,λi j a b=>?_⟩
 have:i=j:=by omega
 subst this;exact W.irr _
def Few(lt:Nat->Nat->Bool)(n:Nat):Prop:=n<64\/∀i j,i≤j->j<n->lt j i=false
def xAlj{vs ks:List Value}{lt:Nat->Nat->Bool}(W:Srt.Swo lt)(f:ks.length=vs.length)(b:Few lt vs.length)(h2:¬vs.length<2){κ:SortKind}(u:∀i j C,i<ks.length->j<ks.length->C (lt i j) s->kas_ask prog w A κ ks i j C s){R:SortSt->Shared->Prop}(t:∀st p,Arr vs.length lt p->(arrOf st).map (·.2)=List.toArray (p.toList.map λi=>vs.getD i Value.none)->failedOf st=none->R st s) :
  wpAny (model prog w) A ((sortRuns').run (SortSt.mk' κ (ks.toArray.zip vs.toArray) #[] 7 none)) (λr s'=>R r.2 s') E s:=by
 rcases b with b|up
 ·refine kat_run (G:=λp s'=>s'=s/\Arr vs.length lt p) f (by omega) b (λp st s' _ a2 v y=>?_) ?_
  ·obtain⟨rfl,x⟩:=y
   exact t st p x (kat_snds f a2) v
  ·exact(Srt.sort_ok W (by omega)).wp (λi j C h1 B c=>u i j C (by omega) (by omega) c) λp z=>⟨O,z⟩
 have hz:(List.toArray (List.range vs.length)).size=vs.length:=by simp
 have o:Tim.Ans prog w A s κ (ks.toArray.zip vs.toArray) vs.length lt:=λi j C h1 h2 c=>by
  have:=u i j C (by omega) (by omega) c;rw[kat_ask_eq f]at this;exact this
 have d:∀i,i<vs.length->Srt.g (List.toArray (List.range vs.length)) i=i:=λi hi=>by
  unfold Srt.g;rw[vy]
  simp[hi]
 have l:Tim.In vs.length (List.toArray (List.range vs.length)):=λi hi=>by
  rw[hz]at hi;rw[d i hi];exact hi
 have n:=Tim.runs_asc (E:=E) (Q:=λ_ st=>R st s) W o l (by rw[hz];omega) (λi j _ a k=>by rw[hz]at k;rw[d i (by omega),d j (by omega)];exact up i j a (by omega)) λpd m=>?_
 ·have q:SortSt.mk' κ (ks.toArray.zip vs.toArray) #[] 7 none=Tim.S κ (ks.toArray.zip vs.toArray) (List.toArray (List.range vs.length)) #[] 7:=by
   have e:=kas_range (ks.toArray.zip vs.toArray);rw[show(ks.toArray.zip vs.toArray).size=vs.length by simp[f]]at e;rw[Tim.S,e]
  rw[q];refine qM n (λr s' h=>?_) λ_ _ e=>e;rw[h.1];exact h.2
 ·exact t _ _ ⟨.refl _,λi j a k=>by rw[d i (by omega),d j k];exact up i j a k⟩ (kat_snds f rfl) rfl
def xAgt{lt:Nat->Nat->Bool}(W:Srt.Swo lt)(m:s.heap.get? a=some (seqObj "list" vs.toArray n))(D:vs.length≤2000)(o:Few lt vs.length)(e:h0.objs.size≤a)(F:Ext h0 s.heap)(f:∀h',Ext h0 h'->2≤vs.length->Answers prog w A { s with heap:=h' } vs lt)(h:∀h' p c,Ext h0 h'->Arr vs.length lt p->h'.get? a=some (seqObj "list" (List.toArray (p.toList.map λi=>vs.getD i Value.none)) c)->P (.done (.ret .none)) { s with heap:=h' }) :
  wpAny (model prog w) A (Builtin.«list.sort» ⟨[.ref a],[]⟩) P E s:=by
 obtain⟨r,t⟩:∃r,(s.heap.update a (Obj.mapSeq λ_=>#[])).get? a=some (seqObj "list" #[] r):=⟨_,get?_update_seq m (λ_=>#[])⟩;have u:Ext h0 (((s.heap.update a (Obj.mapSeq λ_=>#[])).push (seqObj "tuple" vs.toArray 0)).push (seqObj "list" #[] 0)):=(((F.upd e).trans (.push _ _)).trans (.push _ _));have d:(((s.heap.update a (Obj.mapSeq λ_=>#[])).push (seqObj "tuple" vs.toArray 0)).push (seqObj "list" #[] 0)).get? a=some (seqObj "list" #[] r):=qH _ (qH _ t)
 have v:vs.length≤sizeLine:=by rw[sizeLine_eq];omega
 have last:∀p,Arr vs.length lt p->∀(out:Array Value),out=List.toArray (p.toList.map λi=>vs.getD i Value.none)->out.size≤sizeLine+1/\P (.done (.ret .none)) { s with heap:=(((s.heap.update a (Obj.mapSeq λ_=>#[])).push (seqObj "tuple" vs.toArray 0)).push (seqObj "list" #[] 0)).update a (Obj.mapSeq λ_=>out) }:=λp g out j=>by
  obtain⟨q,G⟩:∃q,((((s.heap.update a (Obj.mapSeq λ_=>#[])).push (seqObj "tuple" vs.toArray 0)).push (seqObj "list" #[] 0)).update a (Obj.mapSeq λ_=>out)).get? a=some (seqObj "list" out q):=⟨_,get?_update_seq d (λ_=>out)⟩;refine⟨?_,h _ p q (u.upd e) g (by rw[←j];exact G)⟩;rw[j,qr,qf,ze,g.1.size_eq]
  simp
  omega
 rw[list_sort_plain];refine qA (listItems_at m rfl (qA (listUpdate_at m rfl (qA (seqEpoch_at t rfl (qA (wpAny_newTuple (qA (wpAny_newList (qJ ?_) (qy _))) v)))) (by rw[qr];exact v) (qy _))));show wpAny (model prog w) A _ P E { s with heap:=((s.heap.update a (Obj.mapSeq λ_=>#[])).push (seqObj "tuple" vs.toArray 0)).push (seqObj "list" #[] 0) };dsimp only
 by_cases h2:vs.toArray.size<2
 ·rw[qF h2,qF h2]
  have b:vs.length<2:=by simpa using h2
  have l:=last _ (xAie W b) (vs.toArray) (by
   apply jq.mp
   simp only[List.toList_toArray]
   apply yd;intro i
   by_cases hi:i<vs.length
   ·simp[hi]
   ·simp[hi])
  refine qA (qE ?_);rw[StateT.run_pure];refine qA (qE ?_);dsimp only
  have x:(arrOf (SortSt.mk' general' (vs.toArray.zip vs.toArray) #[] 7 none)).map (·.2)=vs.toArray:=by
   apply jq.mp;show((vs.toArray.zip vs.toArray).map (·.2)).toList=vs;rw[Array.toList_map,Array.toList_zip];exact List.map_snd_zip (qb _)
  rw[x];refine qA (seqEpoch_at d rfl (qA (listUpdate_at d rfl ?_ (qy _) l.1)))
  simp only[bne_self_eq_false,Bool.false_eq_true,if_false]
  exact qE l.2
 ·rw[qB h2,qB h2]
  have b:¬vs.length<2:=by simpa using h2
  obtain⟨κ,y,H⟩:=f _ u (by omega);refine qA (qM (y (λk s'=>k=κ/\s'={ s with heap:=((s.heap.update a (Obj.mapSeq λ_=>#[])).push (seqObj "tuple" vs.toArray 0)).push (seqObj "list" #[] 0) }) ⟨O,O⟩) ?_ λ_ _ z=>z.elim);rintro k s' ⟨rfl,rfl⟩;refine qA (qM (xAlj (E:=E) (R:=λst s'=>s'={ s with heap:=((s.heap.update a (Obj.mapSeq λ_=>#[])).push (seqObj "tuple" vs.toArray 0)).push (seqObj "list" #[] 0) }/\∃p,Arr vs.length lt p/\(arrOf st).map (·.2)=List.toArray (p.toList.map λi=>vs.getD i Value.none)/\failedOf st=none) W rfl o b H λst p a1 a2 C=>⟨O,p,a1,a2,C⟩) ?_ λ_ _ z=>z);rintro⟨⟨⟩,st⟩ s' ⟨rfl,p,g,j,B⟩;have l:=last p g _ j;dsimp only;refine qA (seqEpoch_at d rfl (qA (listUpdate_at d rfl ?_ (qy _) l.1)));rw[B]
  simp only[bne_self_eq_false,Bool.false_eq_true,if_false]
  exact qE l.2
end
def xAaw(h:n≤2000):n<sizeLine:=yj h (by decide)
def isK:Nat->PyData->Prop
 | 0,.int _=>True
 | 1,.str _=>True
 | 2,.tuple (.int _::_)=>True
 | 3,.tuple (.str _::_)=>True
 | 4,.tuple (.tuple _::_)=>True
 |_,_=>False
def xAtr(t:Nat)(d:PyData):¬isK (t+5) d:=by
 intro h
 cases d with
 |tuple xs =>
  cases xs with
  |nil=>exact h
  |cons x xs=>cases x <;> exact h
 |_=>exact h
section
variable {prog:Program}{w:World}{A:Around}{s:Shared}
def xAqw(h:LtAt A s x y c)(q:Q c s):wpAny (model prog w) A (oneLt' false x y) Q E s :=
 kat_one x y (h prog w E _ q)
def katlex:∀(us vs:List Value) (xs ys:List PyData) (as bs:List Addr) (i:Nat),ReadsAll s.heap us xs as->ReadsAll s.heap vs ys bs->PyData.canLayAll0 xs=true->PyData.canLayAll0 ys=true->sks xs ys=true →
  PyData.depthAll xs≤60->A.units+60<cLine->(i=0->b=true->(∃p q r h,xs=.int p::r/\ys=.int q::h)\/∃p q r h,xs=.str p::r/\ys=.str q::h)->c=decide (us.length<vs.length)->Q (ltDs xs ys) s->KatLex prog w A b c Q (us.zip vs) i s:=by
 intro us
 induction us with
 |nil =>
  intro vs xs ys as bs i n l _ _ _ _ _ _ k q;cases n;have C:=SeqAt.ReadsAll.length _ _ _ l;show Q c s;rw[k]
  cases ys with
  |nil=>rw[zy]at C ⊢;rw[C];exact q
  |cons y ys=>rw[C];exact q
 |cons u us J =>
  intro vs xs ys as bs i n l G cb j F E h0 k q
  cases vs with
  |nil =>
   cases l;cases n;show Q c s;rw[k];exact q
  |cons v vs =>
   cases n with
   |@cons _ _ x xs _ _ o K =>
    cases l with
    |@cons _ _ y ys _ _ m I =>
     have d:(x.canLay0&&PyData.canLayAll0 xs)=true:=G;have a:(y.canLay0&&PyData.canLayAll0 ys)=true:=cb;rw[zb]at d a;rw[sks,zb]at j
     have g:x.depth≤60/\PyData.depthAll xs≤60:=by
      have:max x.depth (PyData.depthAll xs)≤60:=F;omega
     have B:=SeqAt.eqAt_reads x y A s u v _ _ o m d.1 a.1 (by omega);refine kat_cons (B prog w _ _ ?_)
     cases e:PyData.eqv x y with
     |true =>
      rw[ltDs,qF e]at q;refine kat_yes (J vs xs ys _ _ (i+1) K I d.2 a.2 j.2 g.2 E (λz=>by omega) ?_ q);rw[k]
      simp
     |false =>
      rw[ltDs,qB (by rw[e];decide)]at q;refine kat_no ?_
      by_cases f:(b&&i==0)=true
      ·rw[f]
       rw[zb]at f;rcases h0 (by simpa using f.2) f.1 with⟨p,H,r,h,t,D⟩|⟨p,H,r,h,t,D⟩
       ·cases t;cases D
        cases o;cases m;exact oneLt_int q
       ·cases t;cases D
        cases o;cases m;exact oneLt_str q
      ·rw[Bool.not_eq_true]at f
       rw[f]
       exact xAqw (xAli 60 x y A s u v _ _ g.1 o m d.1 a.1 j.1 (λz=>by
        subst z;have:=j.1
        cases y <;> simp[sk,PyData.eqv]at this e) E) q
def xAif:∀{vs:List Value} {ds:List PyData} {as:List Addr},ReadsAll s.heap vs ds as->(∀d∈ds,∃f r,d=.tuple (f::r))->∃fs,KatTups s.heap vs fs/\fs.length=vs.length/\∀v∈fs,∃f r bs,PyData.tuple (f::r)∈ds/\Reads s.heap v f bs
 |[],_,_,.nil,_=>⟨[],trivial,O,λ_ z=>nomatch z⟩
 |v::vs,_,_,.cons (d:=d) (ds:=ds) r t,h=>by
  obtain⟨fs,y,k,j⟩:=xAif t λx l=>h x (qu _ l);obtain⟨f,A,e⟩:=h d qp;subst e
  cases r with
  |tuple h1 h2 w b =>
   rename_i a o us n
   cases e:us.toList with
   |nil=>rw[e]at b;cases b
   |cons u B =>
    rw[e]at b
    cases b with
    |cons i C =>
     refine⟨u::fs,KatTups.cons h1 h2 w (by rw[←we,e];rfl) y,by rw[qx,qx,k],λv c=>?_⟩;rcases qz.mp c with rfl|c
     ·exact⟨f,A,_,qp,i⟩
     ·obtain⟨p,g,bs,m,q⟩:=j v c
      exact⟨p,g,bs,qu _ m,q⟩
def keyAt(ds:List PyData)(i:Nat):PyData:=ds.getD i (ds.headD .none)
def xAig(h:ds≠[])(i:Nat):keyAt ds i∈ds:=by
 unfold keyAt;rw[zf]
 cases e:ds[i]? with
 |some x=>exact qh e
 |none =>
  cases ds with
  |nil=>exact absurd rfl h
  |cons a b=>exact qp
def ltK(ds:List PyData)(i j:Nat):Bool:=ltD (keyAt ds i) (keyAt ds j)
def xAts(h:∀a∈ds,∀b∈ds,sk a b=true):Srt.Swo (ltK ds):=by
 by_cases e:ds=[]
 ·subst e
  exact⟨λ_=>rfl,λ_ _ _ z=>(by cases z),λ_ _ _ z=>(by cases z)⟩
 ·have m:=xAig e
  exact⟨λ_=>xAdp _,λa b c=>xAqt _ _ _ (h _ (m a) _ (m b)) (h _ (m b) _ (m c)) (h _ (m a) _ (m c)),λa b c=>xAto _ _ _ (h _ (m a) _ (m b)) (h _ (m b) _ (m c)) (h _ (m a) _ (m c))⟩
structure KeysAre(ds:List PyData)(t:Nat):Prop where
 lay:PyData.canLayAll0 ds=true
 kind:∀d∈ds,isK t d
 one:∀a∈ds,∀b∈ds,sk a b=true
 deep:∀d∈ds,d.depth≤60
def xAqx(r:Reads h v (.int i) as):∃t,v=.int i t:=by cases r;exact⟨_,O⟩
def xAqy(r:Reads h v (.str i) as):∃t,v=.str i t:=by cases r;exact⟨_,O⟩
def xAtt(r:Reads h v (.tuple xs) as):∃a o vs n,v=.ref a/\h.get? a=some o/\o.cls=.type "tuple" /\ o.data=.seq vs n/\ReadsAll h vs.toList xs as:=by
 cases r with
 |tuple c e d b=>exact⟨_,_,_,_,O,c,e,d,b⟩
def isK_0(h:isK 0 d):∃i,d=.int i:=by cases d <;> first|exact⟨_,O⟩|exact h.elim
def isK_1(h:isK 1 d):∃i,d=.str i:=by cases d <;> first|exact⟨_,O⟩|exact h.elim
def isK_t(h:isK t d)(a:2≤t):∃f r,d=.tuple (f::r):=by
 unfold isK at h
 split at h <;> first|exact⟨_,_,O⟩|omega|exact h.elim
def isK_2(h:isK 2 d):∃p r,d=.tuple (.int p::r):=by
 obtain⟨f,r,rfl⟩:=isK_t h (by decide)
 cases f <;> first|exact⟨_,_,O⟩|exact h.elim
def isK_3(h:isK 3 d):∃p r,d=.tuple (.str p::r):=by
 obtain⟨f,r,rfl⟩:=isK_t h (by decide)
 cases f <;> first|exact⟨_,_,O⟩|exact h.elim
def isK_4(h:isK 4 d):∃p r,d=.tuple (.tuple p::r):=by
 obtain⟨f,r,rfl⟩:=isK_t h (by decide)
 cases f <;> first|exact⟨_,_,O⟩|exact h.elim
def xAfo(r:ReadsAll s.heap ks ds as)(K:KeysAre ds t)(h2:2≤ks.length)(hu:A.units+60<cLine):Answers prog w A s ks (ltK ds):=by
 have hl:=SeqAt.ReadsAll.length _ _ _ r
 have look:∀i,i<ks.length->∃bs,Reads s.heap (ks.getD i Value.none) (keyAt ds i) bs/\keyAt ds i∈ds:=λi hi=>by
  obtain⟨bs,q⟩:=xAbj hi r
  have h:ks.getD i Value.none=ks[i]:=by simp[hi]
  have n:keyAt ds i=ds.getD i .none:=by
   have O:i<ds.length:=by omega
   unfold keyAt;rw[zf,zf,qg O];rfl
  refine⟨bs,by rw[h,n];exact q,xAig (λz=>?_) i⟩;rw[z,zy]at hl;omega
 have D:∀v∈ks,∃d bs,d∈ds/\Reads s.heap v d bs:=λv G=>by
  obtain⟨i,hi,e⟩:=z6.mp G;obtain⟨bs,q,m⟩:=look i hi;exact⟨_,bs,m,by rw[←e];simpa[hi] using q⟩
 have F:∀d∈ds,d.canLay0=true:=λd a=>by
  obtain⟨i,hi,e⟩:=z6.mp a;exact xAed (j:=i) K.lay (by rw[qg hi,e])
 have tups:(∀d∈ds,∃f r,d=.tuple (f::r))->(T:Value)->(∀v f bs r,Reads s.heap v f bs->PyData.tuple (f::r)∈ds->Looks (model prog w) s.heap (typeOf v) T)->(T==T)=true →
   ((T != Value.type "tuple")=true->∀d∈ds,∀d'∈ds,(∃p q r b,d=.tuple (.int p::r)/\d'=.tuple (.int q::b))\/∃p q r b,d=.tuple (.str p::r)/\d'=.tuple (.str q::b))->Answers prog w A s ks (ltK ds):=λh1 T P W Z=>by
  obtain⟨fs,k1,k2,k3⟩:=xAif r h1;refine⟨tuples' (T != Value.type "tuple"),λQ q=>kat_kind k1 (by omega) (λv G=>?_) W q,λi j C hi J c=>?_⟩
  ·obtain⟨f,b,bs,m,q⟩:=k3 v G
   exact P v f bs b q m
  ·obtain⟨Y,x,o⟩:=look i hi
   obtain⟨V,y,E⟩:=look j J;unfold ltK at c;obtain⟨f1,L,h⟩:=h1 _ o;obtain⟨f2,I,n⟩:=h1 _ E;have X:=K.deep _ o;have U:=K.one _ o _ E;have u:=F _ o;have B:=F _ E;have S:=λz=>Z z _ o _ E;rw[h]at x X U u S c;rw[n]at y U B S c;unfold kas_ask;obtain⟨a1,o1,v1,n1,k,x1,x2,x3,x4⟩:=xAtt x;obtain⟨a2,o2,v2,n2,l,y1,y2,y3,y4⟩:=xAtt y;rw[k,l];refine kat_lt x1 x3 y1 y3 (katlex _ _ _ _ _ _ 0 x4 y4 u B (by simpa[sk] using U) ?_ hu (λ_ z=>?_) (by simp) (by rw[ltD]at c;exact c))
   ·have:PyData.depthAll (f1::L)+1≤60:=X
    omega
   ·rcases S z with⟨p,q,r,b,R,N⟩|⟨p,q,r,b,R,N⟩
    ·exact .inl ⟨p,q,r,b,PyData.tuple.inj R,PyData.tuple.inj N⟩
    ·exact .inr ⟨p,q,r,b,PyData.tuple.inj R,PyData.tuple.inj N⟩
 match t,K.kind with
 | 0,hk =>
  refine⟨oneType',λQ q=>kas_kind (T:=Value.type "int") h2 (λv G=>?_) rfl rfl q,λi j C hi J c=>?_⟩
  ·obtain⟨d,bs,m,q⟩:=D v G
   obtain⟨_,rfl⟩:=isK_0 (hk d m);obtain⟨_,rfl⟩:=xAqx q;exact Looks.of_pure rfl
  ·obtain⟨Y,x,o⟩:=look i hi
   obtain⟨V,y,E⟩:=look j J;unfold ltK at c;unfold kas_ask;obtain⟨_,h⟩:=isK_0 (hk _ o);obtain⟨_,n⟩:=isK_0 (hk _ E);rw[h]at x c;rw[n]at y c;obtain⟨_,k⟩:=xAqx x;obtain⟨_,l⟩:=xAqx y;rw[k,l,keyLt'_oneType];exact oneLt_int c
 | 1,hk =>
  refine⟨oneType',λQ q=>kas_kind (T:=Value.type "str") h2 (λv G=>?_) rfl rfl q,λi j C hi J c=>?_⟩
  ·obtain⟨d,bs,m,q⟩:=D v G
   obtain⟨_,rfl⟩:=isK_1 (hk d m);obtain⟨_,rfl⟩:=xAqy q;exact Looks.of_pure rfl
  ·obtain⟨Y,x,o⟩:=look i hi
   obtain⟨V,y,E⟩:=look j J;unfold ltK at c;unfold kas_ask;obtain⟨_,h⟩:=isK_1 (hk _ o);obtain⟨_,n⟩:=isK_1 (hk _ E);rw[h]at x c;rw[n]at y c;obtain⟨_,k⟩:=xAqy x;obtain⟨_,l⟩:=xAqy y;rw[k,l,keyLt'_oneType];exact oneLt_str c
 | 2,hk =>
  have g:∀d∈ds,∃p r,d=.tuple (.int p::r):=λd a=>isK_2 (hk d a);refine tups (λd a=>let⟨p,r,e⟩:=g d a;⟨_,r,e⟩) (Value.type "int") (λv f bs b q m=>?_) rfl λ_ d a d' H=>?_
  ·obtain⟨p,I,e⟩:=g _ m
   cases e;cases q;exact Looks.of_pure rfl
  ·obtain⟨p,L,h⟩:=g d a
   obtain⟨q,I,n⟩:=g d' H;exact .inl ⟨p,q,L,I,h,n⟩
 | 3,hk =>
  have g:∀d∈ds,∃p r,d=.tuple (.str p::r):=λd a=>isK_3 (hk d a);refine tups (λd a=>let⟨p,r,e⟩:=g d a;⟨_,r,e⟩) (Value.type "str") (λv f bs b q m=>?_) rfl λ_ d a d' H=>?_
  ·obtain⟨p,I,e⟩:=g _ m
   cases e;cases q;exact Looks.of_pure rfl
  ·obtain⟨p,L,h⟩:=g d a
   obtain⟨q,I,n⟩:=g d' H;exact .inr ⟨p,q,L,I,h,n⟩
 | 4,hk =>
  have g:∀d∈ds,∃p r,d=.tuple (.tuple p::r):=λd a=>isK_4 (hk d a)
  refine tups (λd a=>let⟨p,r,e⟩:=g d a;⟨_,r,e⟩) (Value.type "tuple") (λv f bs b q m=>?_) rfl λz=>absurd z (by decide)
  obtain⟨p,I,e⟩:=g _ m;cases e
  cases q with
  |tuple h1 h2 W Z =>
   have:=(Looks.ld (M:=model prog w) (part:=none) h1);rw[←h2];exact(Looks.ld h1).andThen .now
 |t+5,hk =>
  exfalso;obtain⟨bs,q,m⟩:=look 0 (by omega);exact xAtr t _ (hk _ m)
end
def SortIx(ds:List PyData)(ix:List Nat):Prop:=ix.Perm (List.range ds.length)/\(ix.map (keyAt ds)).Pairwise λa b=>ltD b a=false
def xAih(h:Arr ds.length (ltK ds) p):SortIx ds p.toList:=by
 have c:p.size=ds.length:=by rw[h.1.size_eq];simp
 refine⟨by simpa using h.1.toList,?_⟩;rw[jr];intro i j hi a b;rw[qf,ze]at hi a;have:=h.2 i j (by omega) (by omega);unfold ltK Srt.g at this;rw[List.getElem_map,List.getElem_map];simpa[Array.getD,hi,a] using this
def xAii(r:Vals ys us)(ix:List Nat)(h:∀i∈ix,i<ys.length):Vals (ix.map λi=>ys.getD i .non) (ix.map λi=>us.getD i Value.none):=by
 induction ix with
 |nil=>exact .nil
 |cons i ix a =>
  have hi:=h i qp;obtain⟨u,d,c⟩:=r.get (i:=i) (x:=ys[i]) (qg hi);refine .cons ?_ (a λj b=>h j (qu _ b));show RelV (ys.getD i .non) (us.getD i Value.none);rw[zf,zf,d,qg hi];exact c
def xAfp:∀{xs:List V} {ds:List PyData},DVs H xs ds->xs.length=ds.length
 |_,_,.nil=>rfl
 |_,_,.cons _ t=>by rw[qx,qx,xAfp t]
mutual
def xAnw(x:Ext h h'):∀{v:Value} {d:PyData} {as:List Addr},Reads h v d as->Reads h' v d as
 |_,_,_,.none=>.none
 |_,_,_,.bool b=>.bool b
 |_,_,_,.int i t=>.int i t
 |_,_,_,.str z t=>.str z t
 |_,_,_,.list h1 h2 h3 h4=>.list (x _ _ h1) h2 h3 (xAbp x h4)
 |_,_,_,.tuple h1 h2 h3 h4=>.tuple (x _ _ h1) h2 h3 (xAbp x h4)
 |_,_,_,.dict h1 h2 h3 h4 h5=>.dict (x _ _ h1) h2 h3 (xAbp x h4) (xAbp x h5)
def xAbp(x:Ext h h'):∀{v:List Value} {d:List PyData} {as:List Addr},ReadsAll h v d as->ReadsAll h' v d as
 |_,_,_,.nil=>.nil
 |_,_,_,.cons a b=>.cons (xAnw x a) (xAbp x b)
end
section
variable {P:Program}{w:World}{A:Around}{E:Value->Shared->Prop}{s:Shared}
def IsTwo(P:Program)(w:World)(h:Heap)(ks ls:List Key)(a:Addr):Prop:=∃o c d n,h.get? a=some o/\o.cls=.type "tuple" /\ o.data=.seq #[.ref c,.ref d] n/\(tupleKind (mixKind P w)).is h ks c/\(tupleKind (mixKind P w)).is h ls d
def GIs(P:Program)(w:World)(h:Heap):KD->Value->Prop
 |.non,v=>v=.none
 |.int i,v=>∃t,v=.int i t
 |.tup ks,v=>∃a,v=.ref a/\(tupleKind (mixKind P w)).is h ks a
 |.two ks ls,v=>∃a,v=.ref a/\IsTwo P w h ks ls a
def gDraws(P:Program)(w:World):KD->Nat
 |.non=>1
 |.int _=>1
 |.tup ks=>(tupleKind (mixKind P w)).draws ks
 |.two ks ls=>(tupleKind (mixKind P w)).draws ks+(tupleKind (mixKind P w)).draws ls+1
def xApq(x:IsTwo P w h ks ls a)(y:IsTwo P w h b f a):ks=b/\ls=f:=by
 obtain⟨o,c,d,n,h1,h2,s,r,q⟩:=x;obtain⟨o',k,d',u,i,t,g,p,j⟩:=y;rw[h1]at i;cases i;rw[s]at g;injection g with e _
 have l:c=k:=by have:=congrArg (λz:Array Value=>z[0]?) e;simpa using this
 have m:d=d':=by have:=congrArg (λz:Array Value=>z[1]?) e;simpa using this
 subst l m;exact⟨(tupleKind (mixKind P w)).inj r p,(tupleKind (mixKind P w)).inj q j⟩
def xAij(x:IsTwo P w h ks ls a)(y:(tupleKind (mixKind P w)).is h js a):False:=by
 obtain⟨o,c,d,n,h1,h2,i,m,l⟩:=x;obtain⟨o',its,k,f,j,b,g⟩:=y;rw[h1]at f;cases f;rw[i]at b;injection b with e _;subst e;have:=g.byValue (.ref c) (by simp);cases this
def xAlk(x:ItemsAre (mixKind P w) ks vs):ItemsAre (mixKind P' b) ks vs:=by
 induction x with
 |nil=>exact .nil
 |cons h _ a=>exact .cons h a
def xAik(x:(tupleKind (mixKind P w)).is h ks a):(tupleKind (mixKind P' d)).is h ks a:=by
 obtain⟨o,its,n,h1,h2,c,b⟩:=x;exact⟨o,its,n,h1,h2,c,xAlk b⟩
def xAil(c:A.units<cLine)(x:(tupleKind (mixKind P w)).is s.heap ks a)(y:(tupleKind (mixKind P w)).is s.heap ls b):SeqAt.EqAt A s (.ref a) (.ref b) (decide (ks=ls)):=λP' d E Q q=>(tupleKind (mixKind P' d)).eqBool c (xAik x) (xAik y) q
def IsTwo.tuple(x:IsTwo P w h ks ls a):∃c d,h.IsTuple a #[.ref c,.ref d]/\(tupleKind (mixKind P w)).is h ks c/\(tupleKind (mixKind P w)).is h ls d:=by
 obtain⟨o,c,d,n,h1,h2,b,f,e⟩:=x;exact⟨c,d,⟨o,h1,h2,n,b⟩,f,e⟩
def xAbq(x:(tupleKind (mixKind P w)).is h ks a):∃its,h.IsTuple a its/\ItemsAre (mixKind P w) ks its.toList:=by
 obtain⟨o,its,n,h1,h2,b,c⟩:=x;exact⟨its,⟨o,h1,h2,n,b⟩,c⟩
def xAqz{ks ls f g:List Key}(k:A.units+1<cLine)(x:IsTwo P w s.heap ks ls a)(y:IsTwo P w s.heap f g b):SeqAt.EqAt A s (.ref a) (.ref b) (decide (KD.two ks ls=KD.two f g)):=by
 by_cases h:a=b
 ·subst h
  obtain⟨rfl,rfl⟩:=xApq x y;rw[qI rfl];exact SeqAt.EqAt.same _
 ·obtain⟨c,d,o,h1,h2⟩:=x.tuple
  obtain⟨i,d',l,p,n⟩:=y.tuple
  have e:decide (KD.two ks ls=KD.two f g)=((List.range (min (#[Value.ref c,.ref d]:Array Value).size (#[Value.ref i,.ref d']:Array Value).size)).all (λj=>if j=0 then decide (ks=f) else decide (ls=g))&&(#[Value.ref c,.ref d]:Array Value).size==(#[Value.ref i,.ref d']:Array Value).size):=by
   show _=((if 0=0 then decide (ks=f) else decide (ls=g))&&((if 1=0 then decide (ks=f) else decide (ls=g))&&true)&&true);rw[qF rfl,qB (by decide),Bool.and_true,Bool.and_true,yf]
   simp
  rw[e];refine SeqAt.EqAt.of_refs h (SeqAt.RcAt.tuples o l (by omega) λj q m=>?_)
  match j,q,m with
  | 0,_,_=>exact xAil (show A.in1.units<cLine from k) h1 p
  | 1,_,_=>exact xAil (show A.in1.units<cLine from k) h2 n
def all_no(h:0<m):((List.range (min m n)).all (λ_=>false)&&m==n)=false:=by
 by_cases e:m=n
 ·subst e
  rw[Nat.min_self]
  cases m with
  |zero=>omega
  |succ m=>rw[gj];rfl
 ·rw[show(m==n)=false from beq_eq_false_iff_ne.mpr e,jk]
def xAtu(h:0<m):((List.range (min n m)).all (λ_=>false)&&n==m)=false:=by
 by_cases e:n=m
 ·subst e
  rw[Nat.min_self]
  cases n with
  |zero=>omega
  |succ m=>rw[gj];rfl
 ·rw[show(n==m)=false from beq_eq_false_iff_ne.mpr e,jk]
def xAfq(x:ItemsAre (mixKind P w) ks vs):∀(j:Nat) v,vs[j]?=some v->(∃i t,v=.int i t)\/∃z t,v=.str z t:=by
 induction x with
 |nil=>intro j v e;cases e
 |cons h _ a =>
  intro j v e
  cases j with
  |zero =>
   cases e;rcases xAao (show keyIs _ _=true from h) with⟨i,t,_,e⟩|⟨z,t,_,e⟩
   ·exact .inl ⟨i,t,e⟩
   ·exact .inr ⟨z,t,e⟩
  |succ j=>exact a j v (by simpa using e)
def xAjj(p:A.units+1<cLine)(x:IsTwo P w s.heap ks ls a)(y:(tupleKind (mixKind P w)).is s.heap js b):SeqAt.EqAt A s (.ref a) (.ref b) false:=by
 have h:a≠b:=λz=>by subst z;exact xAij x y
 obtain⟨c,d,q,h1,h2⟩:=x.tuple;obtain⟨its,o,r⟩:=xAbq y;have e:false=((List.range (min (#[Value.ref c,.ref d]:Array Value).size its.size)).all (λ_=>false)&&(#[Value.ref c,.ref d]:Array Value).size==its.size):=(all_no (m:=2) (by decide)).symm;rw[e];refine SeqAt.EqAt.of_refs h (SeqAt.RcAt.tuples q o (by omega) λj u l=>?_);obtain⟨B,k,_⟩:=xAbq h1;obtain⟨v,n,_⟩:=xAbq h2;have g:=xAfq r j its[j] (by rw[we,wo l]);have f:A.in1.units<cLine:=p
 match j,u,l,g with
 | 0,_,_,g =>
  rcases g with⟨i,t,e⟩|⟨z,t,e⟩
  ·rw[e];exact SeqAt.EqAt.tuple_int i t k f
  ·rw[e];exact SeqAt.EqAt.tuple_str z t k f
 | 1,_,_,g =>
  rcases g with⟨i,t,e⟩|⟨z,t,e⟩
  ·rw[e];exact SeqAt.EqAt.tuple_int i t n f
  ·rw[e];exact SeqAt.EqAt.tuple_str z t n f
def xAjk(p:A.units+1<cLine)(y:(tupleKind (mixKind P w)).is s.heap js a)(x:IsTwo P w s.heap ks ls b):SeqAt.EqAt A s (.ref a) (.ref b) false:=by
 have h:a≠b:=λz=>by subst z;exact xAij x y
 obtain⟨c,d,q,h1,h2⟩:=x.tuple;obtain⟨its,o,r⟩:=xAbq y;have e:false=((List.range (min its.size (#[Value.ref c,.ref d]:Array Value).size)).all (λ_=>false)&&its.size==(#[Value.ref c,.ref d]:Array Value).size):=(xAtu (m:=2) (by decide)).symm;rw[e];refine SeqAt.EqAt.of_refs h (SeqAt.RcAt.tuples o q (by omega) λj l u=>?_);obtain⟨B,k,_⟩:=xAbq h1;obtain⟨v,n,_⟩:=xAbq h2;have g:=xAfq r j its[j] (by rw[we,wo l]);have f:A.in1.units<cLine:=p
 match j,u,l,g with
 | 0,_,_,g =>
  rcases g with⟨i,t,e⟩|⟨z,t,e⟩
  ·rw[e];exact SeqAt.EqAt.int_tuple i t k f
  ·rw[e];exact SeqAt.EqAt.str_tuple z t k f
 | 1,_,_,g =>
  rcases g with⟨i,t,e⟩|⟨z,t,e⟩
  ·rw[e];exact SeqAt.EqAt.int_tuple i t n f
  ·rw[e];exact SeqAt.EqAt.str_tuple z t n f
def xAra(i:A.units+1<cLine)(l:IsTwo P w s.heap ks ls a)(h:Q (gHash P w (.two ks ls)) { s with toks:=s.toks+((tupleKind (mixKind P w)).draws ks+(tupleKind (mixKind P w)).draws ls+1) }):wpAny (model P w) A (pyHash (.ref a)) Q E s:=by
 obtain⟨o,c,d,n,j,k,m,h1,h2⟩:=l;have g:s.TypeIs (.ref a) "tuple":=⟨o,j,k⟩;unfold pyHash;unfold pyHashByItsType;refine qA (wpAny_cRoomFor_or (.inr (by omega)) ?_);refine qA (wpAny_specialOf g F.slot_tuple_hash.lookup ?_);show wpAny _ _ (if(some (Value.builtin "tuple.__hash__")==some Value.none)=true then _ else _) Q E s;rw[qB (by rw[beq_builtin_none];exact qk)];refine qA (wpAny_specialOf g F.slot_tuple_hash.lookup ?_);show wpAny _ _ (callSpecialIfBoundUnlessNone? (.ref a) "__hash__" _ >>= _) Q E s;refine qA (wpAny_callSpecialIfBoundUnlessNone?_slot g F.slot_tuple_hash (qN F.slot_tuple_hash g F.entry_tuple_hash ?_ (F.args_tuple_hash_1 _)));show wpAny _ _ (Builtin.Tuple.tupleItemsOf (.ref a) >>= _) _ _ s;refine qA (wpAny_tupleItemsOf j m ?_);refine qA ?_;rw[←jt]
 refine wpAny_forIn_list _
  (λrest (b:Array Int) s'=>(rest=[.ref c,.ref d]/\b.toList=[]/\s'=s)\/(rest=[.ref d]/\b.toList=[(tupleKind (mixKind P w)).hash ks]/\s'={ s with toks:=s.toks+(tupleKind (mixKind P w)).draws ks })\/(rest=[]/\b.toList=[(tupleKind (mixKind P w)).hash ks,(tupleKind (mixKind P w)).hash ls]/\s'={ s with toks:=s.toks+(tupleKind (mixKind P w)).draws ks+(tupleKind (mixKind P w)).draws ls }))
  _ ?_ ?_ _ _ (.inl ⟨O,O,O⟩)
 ·rintro x rest b s' (⟨e,hb,rfl⟩|⟨e,hb,rfl⟩|⟨e,hb,rfl⟩)
  ·cases e
   refine qA ((tupleKind (mixKind P w)).pyHash (show _<cLine by first|exact i|(show A.units+1<cLine;exact i)) h1 ?_)
   first
    |exact qE (.inr (.inl ⟨O,by simp[hb],O⟩))
    |exact qA (qE (qE (.inr (.inl ⟨O,by simp[hb],O⟩))))
  ·cases e
   refine qA ((tupleKind (mixKind P w)).pyHash (s:={ s with toks:=s.toks+(tupleKind (mixKind P w)).draws ks }) (show _<cLine by first|exact i|(show A.units+1<cLine;exact i)) h2 ?_)
   first
    |exact qE (.inr (.inr ⟨O,by simp[hb],O⟩))
    |exact qA (qE (qE (.inr (.inr ⟨O,by simp[hb],O⟩))))
  ·cases e
 ·rintro b s' (⟨e,hb,rfl⟩|⟨e,hb,rfl⟩|⟨e,hb,rfl⟩)
  ·cases e
  ·cases e
  ·show wpAny _ _ (retInt (Builtin.Tuple.tupleHashOf b.toList)) _ _ _
   rw[hb];refine wpAny_ret_mkInt ?_;show wpAny _ _ (if(decide (-(2:Int) ^ 63≤Builtin.Tuple.tupleHashOf [(tupleKind (mixKind P w)).hash ks,(tupleKind (mixKind P w)).hash ls])&&decide (Builtin.Tuple.tupleHashOf [(tupleKind (mixKind P w)).hash ks,(tupleKind (mixKind P w)).hash ls]<2 ^ 63))=true then _ else _) Q E _;have h:Q (reduceHash (Builtin.Tuple.tupleHashOf [(tupleKind (mixKind P w)).hash ks,(tupleKind (mixKind P w)).hash ls])) { s with toks:=s.toks+((tupleKind (mixKind P w)).draws ks+(tupleKind (mixKind P w)).draws ls+1) }:=h;unfold reduceHash at h
   by_cases f:(decide (-(2:Int) ^ 63≤Builtin.Tuple.tupleHashOf [(tupleKind (mixKind P w)).hash ks,(tupleKind (mixKind P w)).hash ls])&&decide (Builtin.Tuple.tupleHashOf [(tupleKind (mixKind P w)).hash ks,(tupleKind (mixKind P w)).hash ls]<2 ^ 63))=true
   ·rw[qF f]
    rw[qF f]at h;exact qE (by simpa[Nat.add_assoc] using h)
   ·rw[qB f]
    rw[qB f]at h;exact qA (wpAny_rule (qE (by simpa[Nat.add_assoc] using h)))
def xAfr(i:(tupleKind (mixKind P w)).is s.heap ks a)(h:Q true s):wpAny (model P w) A (eqIsQuiet (m+1) (.ref a)) Q E s:=by
 obtain⟨o,items,n,f,g,j,hi⟩:=i;have e:s.TypeIs (.ref a) "tuple":=⟨o,f,g⟩;unfold eqIsQuiet;refine qA (wpAny_specialOf e F.slot_tuple_eq.lookup ?_);show wpAny _ _ (isInstance (.ref a) (.type "tuple") >>= _) _ _ s;refine qA (wpAny_isInstance e isSubtype_tuple_tuple ?_)
 simp only[Bool.not_true,Bool.false_eq_true,if_false]
 refine qA (wpAny_seqItems f j ?_);refine qA ?_;show wpAny _ _ (forIn items _ _) _ _ s;rw[←jt];refine wpAny_forIn_list _ (λrest r s'=>r.1=none/\s'=s/\∀v∈rest,carriedByValue v=true) _ ?_ ?_ _ _ ⟨O,O,hi.byValue⟩
 ·rintro v rest r s' ⟨d,rfl,b⟩
  rw[eqIsQuiet_byValue _ (b v qp)];refine qA (qE ?_)
  simp only[Bool.not_true,Bool.false_eq_true,if_false]
  exact qE ⟨O,O,λu c=>b u (qu _ c)⟩
 ·rintro⟨k,l⟩ s' ⟨d,rfl,_⟩
  simp only at d
  subst d;exact qE h
def xAnx(p:IsTwo P w s.heap ks ls a)(h:Q true s):wpAny (model P w) A (eqIsQuiet 8 (.ref a)) Q E s:=by
 obtain⟨o,c,d,n,j,l,x,h1,h2⟩:=p;have g:s.TypeIs (.ref a) "tuple":=⟨o,j,l⟩;unfold eqIsQuiet;refine qA (wpAny_specialOf g F.slot_tuple_eq.lookup ?_);show wpAny _ _ (isInstance (.ref a) (.type "tuple") >>= _) _ _ s;refine qA (wpAny_isInstance g isSubtype_tuple_tuple ?_)
 simp only[Bool.not_true,Bool.false_eq_true,if_false]
 refine qA (wpAny_seqItems j x ?_);refine qA ?_;show wpAny _ _ (forIn (#[.ref c,.ref d]:Array Value) _ _) _ _ s;rw[←jt];refine wpAny_forIn_list _ (λrest r s'=>r.1=none/\s'=s/\∀v∈rest,v=.ref c\/v=.ref d) _ ?_ ?_ _ _ ⟨O,O,λv k=>by simpa using k⟩
 ·rintro v rest r s' ⟨f,rfl,b⟩
  have t:∀{i:Bool->Shared->Prop},i true s'->wpAny (model P w) A (eqIsQuiet 7 v) i E s':=λq=>by
   rcases b v qp with rfl|rfl
   ·exact xAfr (m:=6) h1 q
   ·exact xAfr (m:=6) h2 q
  refine qA (t ?_)
  simp only[Bool.not_true,Bool.false_eq_true,if_false]
  exact qE ⟨O,O,λu e=>b u (qu _ e)⟩
 ·rintro⟨y,z⟩ s' ⟨f,rfl,_⟩
  simp only at f
  subst f;exact qE h
def GIs.inj(a:GIs P w h x v)(b:GIs P w h y v):x=y:=by
 cases x with
 |non =>
  cases a
  cases y with
  |non=>rfl
  |int j=>obtain⟨_,e⟩:=b;cases e
  |tup ks=>obtain⟨_,e,_⟩:=b;cases e
  |two ks ls=>obtain⟨_,e,_⟩:=b;cases e
 |int i =>
  obtain⟨t,rfl⟩:=a
  cases y with
  |non=>cases b
  |int j=>obtain⟨_,e⟩:=b;cases e;rfl
  |tup ks=>obtain⟨_,e,_⟩:=b;cases e
  |two ks ls=>obtain⟨_,e,_⟩:=b;cases e
 |tup ks =>
  obtain⟨p,rfl,q⟩:=a
  cases y with
  |non=>cases b
  |int j=>obtain⟨_,e⟩:=b;cases e
  |tup c =>
   obtain⟨_,e,d⟩:=b;cases e;exact congrArg KD.tup ((tupleKind (mixKind P w)).inj q d)
  |two c f =>
   obtain⟨_,e,d⟩:=b;cases e;exact(xAij d q).elim
 |two ks ls =>
  obtain⟨p,rfl,q⟩:=a
  cases y with
  |non=>cases b
  |int j=>obtain⟨_,e⟩:=b;cases e
  |tup c =>
   obtain⟨_,e,d⟩:=b;cases e;exact(xAij q d).elim
  |two c f =>
   obtain⟨_,e,d⟩:=b;cases e;obtain⟨rfl,rfl⟩:=xApq q d;rfl
def GIs.ext(a:GIs P w h k v)(x:∀b o,h.get? b=some o->o.cls=.type "tuple"->h'.get? b=some o):GIs P w h' k v:=by
 cases k with
 |non=>exact a
 |int i=>exact a
 |tup ks =>
  obtain⟨p,e,o,its,n,h1,h2,f,B⟩:=a;exact⟨p,e,o,its,n,x _ _ h1 h2,h2,f,B⟩
 |two ks ls =>
  obtain⟨p,e,o,c,d,n,h1,h2,f,⟨l,u,A,z,j,q⟩,⟨t,r,s,m,g,y⟩⟩:=a;exact⟨p,e,o,c,d,n,x _ _ h1 h2,h2,f,⟨l,u,A,x _ _ z j,j,q⟩,⟨t,r,s,x _ _ m g,g,y⟩⟩
def xAny(h:Q 4238894112 { s with toks:=s.toks+1 }):wpAny (model P w) A (pyHash .none) Q E s:=by
 unfold pyHash;have a:s.TypeIs Value.none "NoneType":=rfl;have b:[Value.none].any Value.onHeap=false:=rfl;unfold pyHashByItsType;refine qA ?_;rw[cRoomFor,qB (by rw[b];exact qk)];refine qE (qA (wpAny_specialOf a F.slot_NoneType_hash.lookup ?_));show wpAny _ _ (if(some (Value.builtin "NoneType.__hash__")==some Value.none)=true then _ else _) Q E s;rw[qB (by rw[beq_builtin_none];exact qk)];refine qA (wpAny_specialOf a F.slot_NoneType_hash.lookup ?_);show wpAny _ _ (callSpecialIfBoundUnlessNone? .none "__hash__" _ >>= _) Q E s;refine qA (wpAny_callSpecialIfBoundUnlessNone?_slot a F.slot_NoneType_hash (qN F.slot_NoneType_hash a F.entry_NoneType_hash (show wpAny _ _ (do ret (←mkInt 4238894112)) _ _ s from wpAny_ret_mkInt ?_) (F.args_NoneType_hash_1 _)));show wpAny _ _ (if(decide (-(2:Int) ^ 63≤4238894112)&&decide ((4238894112:Int)<2 ^ 63))=true then _ else _) Q E _;rw[qF (by decide)];exact qE h
def GIs.hash(b:A.units+1<cLine)(a:GIs P w s.heap k v)(h:Q (gHash P w k) { s with toks:=s.toks+gDraws P w k }):wpAny (model P w) A (pyHash v) Q E s:=by
 cases k with
 |non=>cases a;exact xAny h
 |int i=>obtain⟨t,rfl⟩:=a;exact wpAny_pyHash_int h
 |tup ks=>obtain⟨p,rfl,q⟩:=a;exact(tupleKind (mixKind P w)).pyHash (show A.units<cLine by omega) q h
 |two ks ls=>obtain⟨p,rfl,q⟩:=a;exact xAra b q h
def GIs.tuple(a:GIs P w h (.tup ks) v):∃p its,v=.ref p/\h.IsTuple p its:=by
 obtain⟨p,e,o,its,n,h1,h2,b,_⟩:=a;exact⟨p,its,e,o,h1,h2,n,b⟩
def GIs.tuple2(a:GIs P w h (.two ks ls) v):∃p its,v=.ref p/\h.IsTuple p its:=by
 obtain⟨p,e,q⟩:=a;obtain⟨c,d,t,_⟩:=q.tuple;exact⟨p,_,e,t⟩
def GIs.eq(e:A.units+1<cLine)(a:GIs P w s.heap x u)(b:GIs P w s.heap y v)(h:Q (decide (x=y)) s):wpAny (model P w) A (eqBool u v) Q E s:=by
 have ne:∀{z l:KD},z≠l->decide (z=l)=false:=λq=>decide_eq_false q
 have d:A.units<cLine:=by omega
 cases x with
 |non =>
  cases a
  cases y with
  |non=>cases b;exact SeqAt.EqAt.same _ _ _ _ _ h
  |int j =>
   obtain⟨t,rfl⟩:=b;rw[ne (by intro z;cases z)]at h;exact SeqAt.EqAt.none_int _ _ _ _ _ _ h
  |tup ks =>
   obtain⟨p,its,rfl,q⟩:=b.tuple;rw[ne (by intro z;cases z)]at h;exact SeqAt.EqAt.none_tuple q d _ _ _ _ h
  |two ks ls =>
   obtain⟨p,its,rfl,q⟩:=b.tuple2;rw[ne (by intro z;cases z)]at h;exact SeqAt.EqAt.none_tuple q d _ _ _ _ h
 |int i =>
  obtain⟨t,rfl⟩:=a
  cases y with
  |non =>
   cases b;rw[ne (by intro z;cases z)]at h;exact SeqAt.EqAt.int_none _ _ _ _ _ _ h
  |int j =>
   obtain⟨t,rfl⟩:=b;refine SeqAt.EqAt.int_int _ _ _ _ _ _ _ _ ?_;rw[show(i==j)=decide (KD.int i=KD.int j) from by by_cases z:i=j <;> simp[z]];exact h
  |tup ks =>
   obtain⟨p,its,rfl,q⟩:=b.tuple;rw[ne (by intro z;cases z)]at h;exact SeqAt.EqAt.int_tuple _ _ q d _ _ _ _ h
  |two ks ls =>
   obtain⟨p,its,rfl,q⟩:=b.tuple2;rw[ne (by intro z;cases z)]at h;exact SeqAt.EqAt.int_tuple _ _ q d _ _ _ _ h
 |tup ks =>
  cases y with
  |non =>
   cases b;obtain⟨p,its,rfl,q⟩:=a.tuple;rw[ne (by intro z;cases z)]at h;exact SeqAt.EqAt.tuple_none q d _ _ _ _ h
  |int j =>
   obtain⟨t,rfl⟩:=b;obtain⟨p,its,rfl,q⟩:=a.tuple;rw[ne (by intro z;cases z)]at h;exact SeqAt.EqAt.tuple_int _ _ q d _ _ _ _ h
  |tup c =>
   obtain⟨p,rfl,q⟩:=a;obtain⟨k,rfl,f⟩:=b;refine(tupleKind (mixKind P w)).eqBool d q f ?_;rw[show decide (ks=c)=decide (KD.tup ks=KD.tup c) from by by_cases z:ks=c <;> simp[z]];exact h
  |two c g =>
   obtain⟨p,rfl,q⟩:=a;obtain⟨k,rfl,f⟩:=b;rw[ne (by intro z;cases z)]at h;exact xAjk e q f _ _ _ _ h
 |two ks ls =>
  cases y with
  |non =>
   cases b;obtain⟨p,its,rfl,q⟩:=a.tuple2;rw[ne (by intro z;cases z)]at h;exact SeqAt.EqAt.tuple_none q d _ _ _ _ h
  |int j =>
   obtain⟨t,rfl⟩:=b;obtain⟨p,its,rfl,q⟩:=a.tuple2;rw[ne (by intro z;cases z)]at h;exact SeqAt.EqAt.tuple_int _ _ q d _ _ _ _ h
  |tup c =>
   obtain⟨p,rfl,q⟩:=a;obtain⟨k,rfl,f⟩:=b;rw[ne (by intro z;cases z)]at h;exact xAjj e q f _ _ _ _ h
  |two c g =>
   obtain⟨p,rfl,q⟩:=a;obtain⟨k,rfl,f⟩:=b;exact xAqz e q f _ _ _ _ h
def GIs.quiet(a:GIs P w s.heap k v)(h:Q true s):wpAny (model P w) A (eqIsQuiet 8 v) Q E s:=by
 cases k with
 |non=>cases a;exact qE h
 |int i=>obtain⟨t,rfl⟩:=a;exact qE h
 |tup ks=>obtain⟨p,rfl,q⟩:=a;exact(tupleKind (mixKind P w)).quiet q h
 |two ks ls=>obtain⟨p,rfl,q⟩:=a;exact xAnx q h
def g_tell(a:GIs P w s.heap k v)(g:∀u∈l,∃c,GIs P w s.heap c u)(h:Q false s):wpAny (model P w) A (tableMayTell v l) Q E s:=by
 unfold tableMayTell
 split
 ·exact qE h
 ·refine qA (a.quiet ?_)
  rw[qB (by decide)];refine qA (wpAny_forIn_list _ (λr b s'=>s'=s/\b=(none,())/\∀u∈r,∃c,GIs P w s.heap c u) _ ?_ ?_ _ _ ⟨O,O,g⟩)
  ·rintro u r b s' ⟨rfl,rfl,d⟩
   obtain⟨c,f⟩:=d u qp;refine qA (f.quiet ?_);rw[qB (by decide)];exact qE ⟨O,O,λx e=>d x (qu _ e)⟩
  ·rintro b s' ⟨rfl,rfl,_⟩
   exact qE h
def gIdx(xs:List (KD×Value×Value))(k:KD):Option Nat:=xs.findIdx? λx=>decide (x.1=k)
def xAim(hn:(xs.map (·.1)).Nodup)(h:xs[j]?=some x)(e:x.1=k):gIdx xs k=some j:=by
 unfold gIdx;rw[ju];obtain⟨a,b⟩:=qm.mp h;refine⟨a,by rw[b,e];simp,λi hi=>?_⟩
 have:¬xs[i].1=k:=λz=>by
  have d:(xs.map (·.1))[i]?=some k:=by rw[List.getElem?_map,List.getElem?_eq_getElem (by omega)];simp[z]
  have c:(xs.map (·.1))[j]?=some k:=by rw[List.getElem?_map,h];simp[e]
  have:=(gr (by rw[qf];omega) hn).mp (d.trans c.symm);omega
 simpa using this
def xAin(h:∀(j:Nat) x,xs[j]?=some x->x.1≠k):gIdx xs k=none:=by
 unfold gIdx;rw[gs];intro x b;obtain⟨j,a,e⟩:=z6.mp b;exact decide_eq_false (h j x (by rw[qg a,e]))
def g_loop{xs:List (KD×Value×Value)}{k:KD}{es:Array DictEntry}(at':∀j:Nat,es[j]?=(xs[j]?).map (gEnt P w))(sz:es.size=xs.length)(hn:(xs.map (·.1)).Nodup){g:Nat->Option (Option Nat)×Option Nat->Sem (ForInStep (Option (Option Nat)×Option Nat))}{R:Option (Option Nat)×Option Nat->Shared->Prop}(B:∀(i:Nat) b a (q:ForInStep (Option (Option Nat)×Option Nat)->Shared->Prop),xs[i]?=some b->(b.1=k->a=none/\q (.done (some (some i),a)) s/\q (.yield (none,some i)) s)->(b.1≠k->q (.yield (none,a)) s)->wpAny (model P w) A (g i (none,a)) q E s)(H:(∀(j:Nat) x,xs[j]?=some x->x.1≠k)->R (none,none) s)(z:∀(j:Nat) x,xs[j]?=some x->x.1=k->R (some (some j),none) s/\R (none,some j) s) :
  wpAny (model P w) A (forIn (placesWithHash es.size (λi=>es[i]?.map (·.hash)) (gHash P w k)) (none,none) g) R E s:=by
 have has:∀(j:Nat) x,xs[j]?=some x->x.1=k->((es[j]?.map (·.hash))==some (gHash P w k))=true:=λj x c e=>by
  rw[at' j,c];show(some (gHash P w x.1)==some (gHash P w k))=true;rw[e]
  simp
 have one:∀{i j:Nat} {x y:KD×Value×Value},xs[i]?=some x->xs[j]?=some y->x.1=k->y.1=k->i=j:=λ{i j x y} h1 h2 D L=>by
  have C:(xs.map (·.1))[i]?=some k:=by rw[qv,h1];exact congrArg some D
  have K:(xs.map (·.1))[j]?=some k:=by rw[qv,h2];exact congrArg some L
  exact(gr (qm.mp C).1 hn).mp (C.trans K.symm)
 refine wpAny_forIn_list _ (λrest b s'=>s'=s/\∃i a,b=(none,a)/\rest=(List.range' i (es.size - i)).filter (λi=>(es[i]?.map (·.hash))==some (gHash P w k))/\i≤es.size ∧
   ((a=none/\∀(j:Nat) x,j<i->xs[j]?=some x->x.1≠k)\/∃j x,a=some j/\j<i/\xs[j]?=some x/\x.1=k)) _ ?_ ?_ _ _
  ⟨O,0,none,O,by rw[placesWithHash,gw,ym],qy _,.inl ⟨O,λj x c=>absurd c (zw _)⟩⟩
 ·rintro x rest b s' ⟨rfl,i,a,rfl,u,hi,r⟩
  obtain⟨F,N,M,l,h⟩:=filter_range'_cons _ _ _ _ _ u.symm
  have p:x<es.size:=by omega
  have d:rest=(List.range' (x+1) (es.size - (x+1))).filter (λi=>(es[i]?.map (·.hash))==some (gHash P w k)):=by
   rw[h]
   congr 2
   omega
  have m:xs[x]?=some (xs[x]'(by omega)):=qg _;generalize xs[x]'(by omega)=b at m
  have t:∀(j:Nat) y,i≤j->j<x->xs[j]?=some y->y.1≠k:=λj y h1 h2 c e=>by
   have:=l j h1 h2;rw[has j y c e]at this;exact absurd this (by decide)
  refine B x b a _ m (λe=>?_) λe=>?_
  ·rcases r with⟨rfl,f⟩|⟨j,y,_,c,n,o⟩
   ·exact⟨O,(z x b m e).1,O,x+1,some x,O,d,p,.inr ⟨x,b,O,wk x,m,e⟩⟩
   ·have:=one n m o e
    omega
  ·refine⟨O,x+1,a,O,d,p,?_⟩
   rcases r with⟨h0,f⟩|⟨j,y,h1,c,n,o⟩
   ·refine .inl ⟨h0,λj y G c=>?_⟩
    by_cases v:j<i
    ·exact f j y v c
    ·by_cases J:j<x
     ·exact t j y (by omega) J c
     ·have:j=x:=by omega
      subst this;rw[m]at c;cases c;exact e
   ·exact .inr ⟨j,y,h1,by omega,n,o⟩
 ·rintro b s' ⟨rfl,i,a,rfl,u,hi,r⟩
  rcases r with⟨rfl,f⟩|⟨j,y,rfl,c,n,o⟩
  ·refine H λj x c e=>?_
   by_cases v:j<i
   ·exact f j x v c e
   ·have I:j<es.size:=by rw[sz];exact(qm.mp c).1
    have:=gy.mp u.symm j (g0.mpr ⟨by omega,by omega⟩);exact this (has j x c e)
  ·exact(z j y n o).2
def xApr(G:A.units+1<cLine)(a:GIs P w s.heap k v)(u:s.heap.get? d=some o)(B:o.data=.dict es ep)(at':∀j:Nat,es[j]?=(xs[j]?).map (gEnt P w))(sz:es.size=xs.length)(p:∀x∈xs,GIs P w s.heap x.1 x.2.1)(hn:(xs.map (·.1)).Nodup)(C:Q (gIdx xs k) s):wpAny (model P w) A (dictWalkPlain d v (gHash P w k) es (placesWithHash es.size (λi=>es[i]?.map (·.hash)) (gHash P w k))) Q E s:=by
 unfold dictWalkPlain
 have has:∀(j:Nat) x,xs[j]?=some x->x.1=k->((es[j]?.map (·.hash))==some (gHash P w k))=true:=λj x c e=>by
  rw[at' j,c];show(some (gHash P w x.1)==some (gHash P w k))=true;rw[e]
  simp
 refine qA (wpAny_forIn_list _ (λrest b s'=>s'=s/\b=(none,())/\∃i,rest=(List.range' i (es.size - i)).filter (λi=>(es[i]?.map (·.hash))==some (gHash P w k))/\i≤es.size/\∀(j:Nat) x,j<i->xs[j]?=some x->x.1≠k) _ ?_ ?_ _ _
  ⟨O,O,0,by rw[placesWithHash,gw,ym],qy _,λj x c=>absurd c (zw _)⟩)
 ·rintro x rest b s' ⟨rfl,rfl,i,n,hi,g⟩
  obtain⟨D,K,r,h,f⟩:=filter_range'_cons _ _ _ _ _ n.symm
  have t:x<es.size:=by omega
  have l:xs[x]?=some (xs[x]'(by omega)):=qg _;generalize xs[x]'(by omega)=b at l
  have m:es[x]?=some (gEnt P w b):=by rw[at' x,l];rfl
  have more:b.1≠k->∃i,rest=(List.range' i (es.size - i)).filter (λi=>(es[i]?.map (·.hash))==some (gHash P w k))/\i≤es.size/\∀(j:Nat) x,j<i->xs[j]?=some x->x.1≠k:=λe=>⟨x+1,by rw[f];congr 2;omega,t,λj y F c=>by
   by_cases q:j<i
   ·exact g j y q c
   ·by_cases I:j<x
    ·intro z
     have:=h j (by omega) I;rw[has j y c z]at this;exact absurd this (by decide)
    ·have:j=x:=by omega
     subst this;rw[l]at c;cases c
     exact e⟩
  rw[m]
  try dsimp only
  have J:((gEnt P w b).hash==gHash P w k)=true:=by
   have:=r;rw[m]at this;simpa using this
  rw[qF J];refine qA (wpAny_dictEpoch u B (qA ((p b (qh l)).eq G a (qA (wpAny_dictEpoch u B ?_)))))
  try dsimp only
  rw[qB (by simp)]
  by_cases e:b.1=k
  ·rw[qI e,qF rfl]
   refine qA (wpAny_rule (qE (qE ?_)));rw[←xAim hn l e];exact C
  ·rw[decide_eq_false e,qB (by decide)]
   exact qA (wpAny_rule (qE ⟨O,O,more e⟩))
 ·rintro b s' ⟨rfl,rfl,i,n,hi,g⟩
  refine qE ?_;rw[←xAin (xs:=xs) (k:=k) λj x c e=>?_]
  ·exact C
  ·by_cases q:j<i
   ·exact g j x q c e
   ·have H:j<es.size:=by rw[sz];exact(qm.mp c).1
    exact gy.mp n.symm j (g0.mpr ⟨by omega,by omega⟩) (has j x c e)
def xArb(N:A.units+1<cLine)(a:GIs P w s.heap k v)(C:s.heap.get? d=some o)(D:o.data=.dict es ep)(L:es.toList=xs.map (gEnt P w))(f:∀x∈xs,GIs P w s.heap x.1 x.2.1)(hn:(xs.map (·.1)).Nodup)(I:Q (gIdx xs k) s):wpAny (model P w) A (dictFind d v (gHash P w k)) Q E s:=by
 have at':∀j:Nat,es[j]?=(xs[j]?).map (gEnt P w):=λj=>by rw[←we,L,qv]
 have sz:es.size=xs.length:=by rw[←ze,L,qf]
 have Y:∀(j:Nat) x,xs[j]?=some x->x.1=k->((es[j]?.map (·.hash))==some (gHash P w k))=true:=λj x B e=>by
  rw[at' j,B];show(some (gHash P w x.1)==some (gHash P w k))=true;rw[e]
  simp
 have mem:∀e∈es,∃x∈xs,e=gEnt P w x:=λe l=>by
  obtain⟨x,g,z⟩:=qj.mp (show e∈xs.map (gEnt P w) from L▸yu.mpr l);exact⟨x,g,z.symm⟩
 have K:∀z t,v≠.str z t:=λz t e=>by
  rw[e]at a
  cases k with
  |non=>cases a
  |int i=>obtain⟨_,q⟩:=a;cases q
  |tup ks=>obtain⟨_,q,_⟩:=a;cases q
  |two ks ls=>obtain⟨_,q,_⟩:=a;cases q
 have F:¬(es.any λe=>e.key==v&&e.hash != gHash P w k)=true:=by
  rw[←Array.any_toList,yx];rintro⟨e,l,S⟩;obtain⟨x,g,rfl⟩:=mem e (yu.mp l);rw[zb]at S;have U:x.2.1=v:=eq_of_beq S.1;have H:=f x g;rw[U]at H;have e3:=H.inj a;have T:(gHash P w x.1 != gHash P w k)=true:=S.2;rw[e3]at T
  simp at T
 have st:∀u∈(placesWithHash es.size (λi=>es[i]?.map (·.hash)) (gHash P w k)).filterMap (λi=>es[i]?.map (·.key)),∃W,GIs P w s.heap W u:=λu J=>by
  obtain⟨i,_,hi⟩:=jh.mp J;rw[at' i]at hi
  cases e:xs[i]? with
  |none=>rw[e]at hi;cases hi
  |some x =>
   rw[e]at hi
   have H:x.2.1=u:=by simpa[gEnt] using hi
   exact⟨x.1,H▸f x (qh e)⟩
 have look:∀(x:Nat) (b:KD×Value×Value) {R:Bool->Shared->Prop},xs[x]?=some b->R (decide (b.1=k)) s->wpAny (model P w) A (eqBool b.2.1 v) R E s:=λx b R g r=>(f b (qh g)).eq N a r
 have m:(∀(j:Nat) x,xs[j]?=some x->x.1≠k)->Q none s:=λh=>by rw[←xAin h];exact I
 have c:∀(j:Nat) x,xs[j]?=some x->x.1=k->Q (some j) s:=λj x B e=>by rw[←xAim hn B e];exact I
 unfold dictFind
 try with_reducible refine qJ ?_
 refine qA (wpAny_dictEntries C D ?_)
 have vc:v=.none\/(∃i t,v=.int i t)\/∃p,v=.ref p:=by
  cases k with
  |non=>exact .inl a
  |int i=>exact .inr (.inl ⟨i,a⟩)
  |tup ks=>exact .inr (.inr ⟨a.choose,a.choose_spec.1⟩)
  |two ks ls=>exact .inr (.inr ⟨a.choose,a.choose_spec.1⟩)
 by_cases G:(v::(placesWithHash es.size (λi=>es[i]?.map (·.hash)) (gHash P w k)).filterMap (λi=>es[i]?.map (·.key))).all carriedByValue=true
 ·rcases vc with rfl|⟨i,t,rfl⟩|⟨p,rfl⟩
  ·dsimp only
   rw[qF G];exact xApr N a C D at' sz f hn I
  ·dsimp only
   rw[qF G];exact xApr N a C D at' sz f hn I
  ·exact absurd G (by simp[carriedByValue])
 ·rcases vc with rfl|⟨i,t,rfl⟩|⟨p,rfl⟩ <;> dsimp only <;> rw[qB G] <;> (try rw[qB F]) <;> refine wpAny_ite_split (λ_=>?_) (λ_=>?_) <;> (first|refine qA (qE ?_)|refine qA (g_tell a st ?_)) <;> (
   rw[qB (by simp)];refine qA (g_loop at' sz hn (λi b Z R' g y n=>?_) (λh=>qE (m h)) λj x B e=>⟨qE (c j x B e),qE (c j x B e)⟩)
   have M:es[i]?=some (gEnt P w b):=by rw[at' i,g];rfl
   rw[M];dsimp only
   by_cases O:((gEnt P w b).hash==gHash P w k)=true
   ·rw[qF O]
    refine qA (wpAny_dictEpoch C D (qA (look i b g (qA (wpAny_dictEpoch C D ?_)))));rw[qB (by simp)]
    by_cases e:b.1=k
    ·obtain⟨rfl,X,V⟩:=y e
     rw[qI e,qF rfl,qB (by decide)];refine qA (wpAny_rule ?_)
     split
     ·exact qE X
     ·exact qE V
    ·rw[decide_eq_false e,qB (by decide)]
     refine qA (wpAny_rule ?_);rw[qB (by simp)];exact qE (n e)
   ·rw[qB O]
    exact qE (n λe=>O (by
     show(gHash P w b.1==gHash P w k)=true;rw[e]
     simp)))
end
section
variable {α β:Type}
def vG(kvs:List (KD×α×β))(k:KD):Option β:=(kvs.find? λe=>decide (e.1=k)).map (·.2.2)
def pG(kvs:List (KD×α×β))(k:KD)(a:α)(v:β):List (KD×α×β):=if(vG kvs k).isSome=true then kvs.map (λe=>if e.1=k then(e.1,e.2.1,v) else e) else kvs++[(k,a,v)]
def xAio{kvs:List (KD×α×β)}{k:KD}{i:Nat}{e:KD×α×β}(hn:(kvs.map (·.1)).Nodup)(h:kvs[i]?=some e)(a:e.1=k):vG kvs k=some e.2.2:=by
 unfold vG
 induction kvs generalizing i with
 |nil=>cases h
 |cons x r c =>
  rw[zg,zx]at hn;rw[wt]
  cases i with
  |zero=>cases h;rw[qI a];rfl
  |succ i =>
   have h':r[i]?=some e:=by simpa using h
   have b:¬x.1=k:=λz=>hn.1 (by rw[z,←a];exact qj.mpr ⟨e,qh h',O⟩)
   rw[decide_eq_false b];exact c hn.2 h'
def xAll{kvs:List (KD×α×β)}{k:KD}(h:∀e∈kvs,e.1≠k):vG kvs k=none:=by
 unfold vG;rw[ja.mpr λe a=>by rw[decide_eq_true_eq];exact h e a];rfl
def vG_get(h:vG kvs k=some v):∃(i:Nat) (e:KD×α×β),kvs[i]?=some e/\e.1=k/\e.2.2=v:=by
 unfold vG at h;obtain⟨e,a,rfl⟩:=z9.mp h;obtain⟨i,hi,b⟩:=z6.mp (kg a);exact⟨i,e,by rw[List.getElem?_eq_getElem hi,b],by simpa using List.find?_some a,O⟩
def vG_no{kvs:List (KD×α×β)}{k:KD}(h:vG kvs k=none):∀e∈kvs,e.1≠k:=λe a z=>by
 unfold vG at h;rw[Option.map_eq_none_iff,ja]at h;exact h e a (qI z)
def xAbx(kvs:List (KD×α×β))(k a:KD)(l:α)(v:β):vG (pG kvs k l v) a=if a=k then some v else vG kvs a:=by
 unfold pG
 by_cases f:(vG kvs k).isSome=true
 ·rw[qF f]
  obtain⟨u,i⟩:=zv.mp f;clear f;unfold vG at *
  induction kvs with
  |nil=>simp at i
  |cons x r n =>
   rw[zg,wt];rw[wt]at i ⊢
   by_cases g:x.1=k
   ·rw[qF g]
    by_cases c:a=k
    ·subst c
     rw[qF rfl]
     simp[g]
    ·rw[qB c]
     have:¬x.1=a:=λz=>c (z.symm.trans g)
     simp only[this,decide_false]
     clear i n
     induction r with
     |nil=>rfl
     |cons y r h =>
      rw[zg,wt,wt]
      by_cases m:y.1=k
      ·have b:¬y.1=a:=λz=>c (z.symm.trans m)
       rw[qF m]
       simp only[b,decide_false]
       exact h
      ·rw[qB m]
       by_cases b:y.1=a
       ·simp[b]
       ·simp only[b,decide_false]
        exact h
   ·rw[qB g]
    simp only[g,decide_false]at i
    by_cases d:x.1=a
    ·have:¬a=k:=λz=>g (d.trans z)
     rw[qB this]
     simp[d]
    ·simp only[d,decide_false]
     exact n i
 ·rw[qB f]
  have j:=vG_no (kvs:=kvs) (k:=k) (by cases e:vG kvs k with
   |none=>rfl
   |some u=>rw[e]at f;exact absurd rfl f)
  unfold vG;rw[List.find?_append]
  by_cases c:a=k
  ·subst c
   rw[qF rfl,ja.mpr λe o=>by rw[decide_eq_true_eq];exact j e o]
   simp
  ·rw[qB c]
   cases e:List.find? (λe=>decide (e.1=a)) kvs with
   |some x=>rfl
   |none =>
    have:¬k=a:=λz=>c z.symm
    simp[this]
def xAtv(kvs:List (KD×α×β))(k:KD)(a:α)(v:β):(pG kvs k a v).map (·.1)=if(vG kvs k).isSome=true then kvs.map (·.1) else kvs.map (·.1)++[k]:=by
 unfold pG
 split
 ·rw[wx]
  refine jv λe _=>?_;show(if e.1=k then(e.1,e.2.1,v) else e).1=e.1
  split <;> rfl
 ·rw[z7]
  rfl
def xAca(kvs:List (KD×α×β))(k:KD)(a:α)(v:β):(pG kvs k a v).length≤kvs.length+1:=by
 unfold pG
 split
 ·rw[qf];omega
 ·rw[qe,qo];exact qb _
def xAgu{kvs:List (KD×α×β)}{k:KD}{a:α}{v:β}(h:(kvs.map (·.1)).Nodup):((pG kvs k a v).map (·.1)).Nodup:=by
 rw[xAtv]
 split
 ·exact h
 ·rename_i b
  refine nd_add h λf=>?_;obtain⟨e,c,rfl⟩:=qj.mp f
  exact vG_no (kvs:=kvs) (k:=e.1) (by cases d:vG kvs e.1 with
   |none=>rfl
   |some u=>rw[d]at b;exact absurd rfl b) e c rfl
end
section
variable {P:Program}{w:World}{A:Around}{E:Value->Shared->Prop}{s:Shared}
def GDict(P:Program)(w:World)(h:Heap)(d:Addr)(xs:List (KD×Value×Value)):Prop :=
 ∃o es ep,h.get? d=some o/\o.ExactDict/\o.data=.dict es ep/\es.toList=xs.map (gEnt P w)/\(∀x∈xs,GIs P w h x.1 x.2.1)/\(xs.map (·.1)).Nodup
def GDict.typeIs(g:GDict P w s.heap d xs):s.TypeIs (.ref d) "dict":=let⟨o,_,_,a,b,_⟩:=g;⟨o,a,b.1⟩
def xAgv(h:gIdx xs k=some j):∃x,xs[j]?=some x/\x.1=k:=by
 unfold gIdx at h;rw[ju]at h;obtain⟨a,h1,_⟩:=h;exact⟨xs[j],List.getElem?_eq_getElem a,by simpa using h1⟩
def xAlm(h:gIdx xs k=none):∀e∈xs,e.1≠k:=λe a=>by
 unfold gIdx at h;rw[gs]at h;simpa using h e a
def xAln(f:A.units+1<cLine)(a:GIs P w s.heap k v)(g:GDict P w s.heap d xs)(h:Q (vG xs k) { s with toks:=s.toks+gDraws P w k }):wpAny (model P w) A (dictGet d v) Q E s:=by
 obtain⟨o,es,ep,l,_,m,c,b,hn⟩:=g;unfold dictGet
 try with_reducible refine qJ ?_
 refine qA (a.hash f (qA (xArb (s:={ s with toks:=s.toks+gDraws P w k }) f a l m c b hn ?_)))
 cases e:gIdx xs k with
 |none =>
  rw[xAll (xAlm e)]at h;exact qE h
 |some j =>
  obtain⟨x,i,ex⟩:=xAgv e;rw[xAio hn i ex]at h;refine qA (wpAny_dictEntries (s:={ s with toks:=s.toks+gDraws P w k }) l m ?_);rw[←we,c,qv,i];exact qE h
def xAnz{xs:List (KD×Value×Value)}{k:KD}{v:Value}{j:Nat}{x:KD×Value×Value}(hn:(xs.map (·.1)).Nodup)(a:xs[j]?=some x)(ex:x.1=k) :
  (xs.map (gEnt P w)).modify j (λe=>{ e with val:=v })=(xs.map λe=>if e.1=k then(e.1,e.2.1,v) else e).map (gEnt P w):=by
 apply yd;intro i;rw[List.getElem?_modify,qv,qv,qv]
 cases hi:xs[i]? with
 |none=>simp
 |some y =>
  by_cases e:j=i
  ·subst e
   rw[a]at hi;cases hi
   simp[ex,gEnt]
  ·have b:¬y.1=k:=λz=>e ((List.getElem?_inj (by rw[List.length_map];exact(List.getElem?_eq_some_iff.mp a).1) hn).mp (by rw[List.getElem?_map,List.getElem?_map,a,hi];simp[ex,z]))
   simp[e,b]
def xAdq{es:Array DictEntry}{ep:Nat}(i:h.get? d=some o)(g:o.ExactDict)(f:Heap.SameBut d h h')(a:GIs P w h k v):GIs P w h' k v:=a.ext λb o' e c=>(f.2 b (λz=>by
 rw[z,i]at e;cases e;rw[g.1]at c
 exact absurd c (by decide))).trans e
def xAlo{v val:Value}(q:A.units+1<cLine)(a:GIs P w s.heap k v)(g:GDict P w s.heap d xs)(hsz:xs.length≤sizeLine)(r:∀h',GDict P w h' d (pG xs k v val)->Heap.SameBut d s.heap h'->Q () { s with heap:=h',toks:=s.toks+gDraws P w k }):wpAny (model P w) A (dictSet d v val) Q E s:=by
 obtain⟨o,es,ep,c,i,h,m,f,hn⟩:=g
 have sz:es.size=xs.length:=by rw[←ze,m,qf]
 have keep:∀h',Heap.SameBut d s.heap h'->∀x∈pG xs k v val,GIs P w h' x.1 x.2.1:=λh' p x b=>by
  unfold pG at b
  split at b
  ·obtain⟨y,t,rfl⟩:=qj.mp b
   have:=xAdq (es:=es) (ep:=ep) c i p (f y t)
   split <;> exact this
  ·rcases zd.mp b with b|b
   ·exact xAdq (es:=es) (ep:=ep) c i p (f x b)
   ·rw[qt.mp b]
    exact xAdq (es:=es) (ep:=ep) c i p a
 unfold dictSet
 try with_reducible refine qJ ?_
 refine qA (a.hash q ?_);unfold dictSetHashed
 try with_reducible refine qJ ?_
 refine qA (xArb (s:={ s with toks:=s.toks+gDraws P w k }) q a c h m f hn ?_)
 cases e:gIdx xs k with
 |none =>
  have n:=xAll (xAlm e);refine qA (wpAny_rule (wpAny_updateDictKeys (hz:=by omega) (s:={ s with toks:=s.toks+gDraws P w k }) c h (r _ ⟨_,_,ep+1,Heap.get?_update_self _ c (Obj.isFreed_of_dict (Obj.data_mapDictKeys h _)),i.mapDictKeys _,Obj.data_mapDictKeys h _,?_,keep _ (Heap.SameBut.update ..),xAgu hn⟩ (Heap.SameBut.update ..))));unfold pG;rw[n,qB (by decide)]
  simp[m,gEnt]
 |some j =>
  obtain⟨x,b,ex⟩:=xAgv e;have n:=xAio hn b ex;refine qA (wpAny_rule (qA (wpAny_updateDict (s:={ s with toks:=s.toks+gDraws P w k }) c h (wpAny_point (r _ ⟨_,_,ep,Heap.get?_update_self _ c (Obj.isFreed_of_dict (Obj.data_mapDict h _)),i.mapDict _,Obj.data_mapDict h _,?_,keep _ (Heap.SameBut.update ..),xAgu hn⟩ (Heap.SameBut.update ..))))));unfold pG;rw[n,qF (show(some x.2.2).isSome=true from rfl)];have:=xAnz (P:=P) (w:=w) (v:=val) hn b ex;rw[←m]at this;obtain⟨l⟩:=es;simpa using this
end
abbrev GP(H:Hp):KD×V×V->KD×Value×Value->Prop:=λp q=>p.1=q.1/\GK H p.1 p.2.1/\RelV p.2.1 q.2.1/\RelV p.2.2 q.2.2
section
variable {X:Cx}{pins:List (Addr×Obj)}{σ:St}{H:Hp}{s:Shared}{a:Addr}{y v:V}{u r:Value}{k:KD}{kvs:List (KD×V×V)}{A:Around}{E:Value->Shared->Prop}
def GK.is(I:Inv X pins σ H s)(g:GK H k y)(a:RelV y u):GIs X.prog X.w s.heap k u:=by
 cases k with
 |non=>cases g;exact a
 |int i=>cases g;exact a
 |tup ks =>
  obtain⟨b,rfl,e⟩:=g;exact⟨b,a,xAjg I.hok e⟩
 |two ks ls =>
  obtain⟨b,c,d,rfl,e,l,r⟩:=g;obtain⟨its,q,⟨o,f,h,n,j⟩,_⟩:=I.tuple (SqT.of e);obtain⟨v,t,rfl,m,p⟩:=q.two;cases m;cases p;exact⟨b,a,o,c,d,n,f,h,j,xAjg I.hok l,xAjg I.hok r⟩
def xAtw:∀{l:List (KD×V×V)} {m:List (KD×Value×Value)},Paired F l m->∀x∈m,∃p∈l,F p x
 |_,_,.nil,x,h=>nomatch h
 |_,_,.cons f t,x,h=>by
  rcases qz.mp h with rfl|h
  ·exact⟨_,qp,f⟩
  ·obtain⟨p,a,q⟩:=xAtw t x h
   exact⟨p,qu _ a,q⟩
def xAjl:∀{l:List (KD×V×V)} {m:List (KD×Value×Value)},Paired (GP H) l m->RelO (vG l k) (vG m k)
 |_,_,.nil=>trivial
 |_,_,.cons (a:=p) (b:=q) f t=>by
  have c:=xAjl t;unfold vG at c ⊢;rw[wt,wt,←f.1]
  by_cases e:p.1=k
  ·rw[qI e];exact f.2.2.2
  ·rw[decide_eq_false e];exact c
def xAtx(c:RelV v r):∀{l:List (KD×V×V)} {m:List (KD×Value×Value)},Paired (GP H) l m->Paired (GP H) (l.map λe=>if e.1=k then(e.1,e.2.1,v) else e) (m.map λe=>if e.1=k then(e.1,e.2.1,r) else e)
 |_,_,.nil=>.nil
 |_,_,.cons (a:=p) (b:=q) f t=>by
  refine .cons ?_ (xAtx c t);show GP H (if p.1=k then(p.1,p.2.1,v) else p) (if q.1=k then(q.1,q.2.1,r) else q);rw[←f.1]
  split
  ·exact⟨O,f.2.1,f.2.2.1,c⟩
  ·exact f
def xAoa(t:Paired (GP H) l m)(g:GK H k y)(b:RelV y u)(a:RelV v r):Paired (GP H) (pG l k y v) (pG m k u r):=by
 have e:(vG l k).isSome=(vG m k).isSome:=(xAjl t).isSome_eq;unfold pG;rw[e]
 split
 ·exact xAtx a t
 ·exact Paired.snoc t ⟨O,g,b,a⟩
def xAlp:∀{l:List (KD×V×V)} {m:List (KD×Value×Value)},Paired (GP H) l m->l.length=m.length
 |_,_,.nil=>rfl
 |_,_,.cons _ t=>by rw[qx,qx,xAlp t]
def gd_rd(I:Inv X pins σ H s)(e:Rd H a (.dG kvs)):kvs.length≤sizeLine/\(a==sysModules)=false/\∃xs,Paired (GP H) kvs xs/\GDict X.prog X.w s.heap a xs:=by
 obtain⟨z,y,xs,r,o,es,ep,h1,h2,g,d,c⟩:=(show ObjOk X.prog X.w H s.heap a (.dG kvs) from e.ok I.hok);refine⟨z,y,xs,r,o,es,ep,h1,h2,g,d,λx b=>?_,c⟩;obtain⟨p,h,f⟩:=xAtw r x b;rw[←f.1];exact f.2.1.is I f.2.2.1
def xAlq(m:A.units+2<cLine)(I:Inv X pins σ H s)(e:Rd H a (.dG kvs))(g:GK H k y)(l:vG kvs k=some v)(j:RelV y u)(h:∀b s',Inv X pins σ H s'->RelV v b->Q b s') :
  wpAny (model X.prog X.w) A (getItem (.ref a) u) Q E s:=by
 obtain⟨z,n,xs,d,c⟩:=gd_rd I e;obtain⟨b,i,f⟩:=RelO.some_of (v:=v) (o:=vG xs k) (by rw[←l];exact xAjl d);unfold getItem
 try with_reducible refine qJ ?_
 refine qA (wpAny_sequenceKey c.typeIs (by decide) (qA (wpAny_callSpecial?_slot (name:=Str.ofString "__getitem__") c.typeIs F.slot_dict_getitem (qN F.slot_dict_getitem c.typeIs F.entry_dict_getitem ?_ (F.args_dict_getitem_2 _ _)))));show wpAny (model X.prog X.w) _ (dictGet a u >>= _) _ _ s;refine qA (xAln (show A.in1.units+1<cLine from(by show A.units+1+1<cLine;omega)) (g.is I j) c ?_);rw[i];exact qE ⟨b,O,qE (h b _ (I.tok _) f)⟩
def xAeg(l:A.units+2<cLine)(I:Inv X pins σ H s)(e:Rd H a (.dG kvs))(g:GK H k y)(i:RelV y u)(h:∀s',Inv X pins σ H s'->Q (vG kvs k).isSome s') :
  wpAny (model X.prog X.w) A (contains (.ref a) u) Q E s:=by
 obtain⟨z,j,xs,d,b⟩:=gd_rd I e;have c:(vG kvs k).isSome=(vG xs k).isSome:=(xAjl d).isSome_eq;unfold contains
 try with_reducible refine qJ ?_
 refine qA (wpAny_specialOf b.typeIs F.slot_dict_contains.lookup ?_);show wpAny (model X.prog X.w) A (if(some (Value.builtin "dict.__contains__")==some Value.none)=true then _ else _) _ E s;rw[qB (by rw[beq_builtin_none];decide)];refine qA (wpAny_callSpecialUnlessNone?_slot (name:=Str.ofString "__contains__") b.typeIs F.slot_dict_contains (qN F.slot_dict_contains b.typeIs F.entry_dict_contains ?_ (F.args_dict_contains_2 _ _)));show wpAny (model X.prog X.w) _ (dictGet a u >>= _) _ _ s;refine qA (xAln (show A.in1.units+1<cLine from(by show A.units+1+1<cLine;omega)) (g.is I i) b ?_)
 cases f:vG xs k with
 |some p =>
  rw[f]at c;refine qE ⟨Value.bool true,O,wpAny_truthy_bool ?_⟩;have:=h _ (I.tok (s.toks+gDraws X.prog X.w k));rw[c]at this;exact this
 |none =>
  rw[f]at c;show wpAny (model X.prog X.w) _ (Builtin.Dict.pendingKey? a u >>= _) _ _ _;refine qA (wpAny_pendingKey_other j (qE ⟨Value.bool false,O,wpAny_truthy_bool ?_⟩));have:=h _ (I.tok (s.toks+gDraws X.prog X.w k));rw[c]at this;exact this
def xAlr(D:A.units+2<cLine)(I:Inv X pins σ H s)(e:H a=some (.dG kvs))(g:GK H k y)(G:kvs.length<sizeLine)(j:RelV y u)(x:RelV v r)(h:∀s',Inv X pins σ (upd H a (.dG (pG kvs k y v))) s'->Q () s') :
  wpAny (model X.prog X.w) A (setItem (.ref a) u r) Q E s:=by
 obtain⟨z,C,xs,d,c⟩:=gd_rd I (.inl e);unfold setItem
 try with_reducible refine qJ ?_
 refine qA (wpAny_sequenceKey c.typeIs (by decide) (qA (wpAny_callSpecial?_slot (name:=Str.ofString "__setitem__") c.typeIs F.slot_dict_setitem (qN F.slot_dict_setitem c.typeIs F.entry_dict_setitem ?_ (F.args_dict_setitem_3 _ _ _)))));show wpAny (model X.prog X.w) _ (Builtin.Dict.notOrdered "__setitem__" ⟨[.ref a,u,r],[]⟩ >>= _) _ _ s;refine qA (wpAny_notOrdered_dict c.typeIs ?_);show wpAny (model X.prog X.w) _ (dictSet a u r >>= _) _ _ s;refine qA (xAlo (show A.in1.units+1<cLine from(by show A.units+1+1<cLine;omega)) (g.is I j) c (by rw[←xAlp d];exact z) λh' f i=>qE ⟨Value.none,O,qE (h _ ?_)⟩);obtain⟨q,es,ep,n,h2,B,t,_,o⟩:=f;have l:=xAca kvs k y v;refine xAec I (by rw[e];exact True.intro) i ⟨q,n⟩ ⟨by omega,C,_,Paired.mapP (xAoa d g j x) λp q z=>⟨z.1,z.2.1.stay λb xs m=>?_,z.2.2⟩,q,es,ep,n,h2,B,t,o⟩;rw[xAae (ne_of m e (λz=>nomatch z))];exact m
end
inductive ItDGetG(Q:VK)(x:V)(y:V)(H2:Hp):Prop
 |mk (a:_) (kvs:_) (k:_) (v:_) (h0_:x=.ref a) (h1_:Rd H2 a (.dG kvs)) (h2_:GK H2 k y) (h3_:vG kvs k=some v) (h4_:Q v H2):ItDGetG Q x y H2
def tDGetG(td ty:TE):TE:=λσ H Q=>td σ H λx H1=>ty σ H1 λy H2=>ItDGetG Q x y H2
inductive IrInG(neg:Bool)(y:V)(x:V)(H:Hp)(Q:VK):Prop
 |mk (a:_) (kvs:_) (k:_) (h0_:x=.ref a) (h1_:Rd H a (.dG kvs)) (h2_:GK H k y) (h3_:Q (.bl (if neg then !(vG kvs k).isSome else(vG kvs k).isSome)) H):IrInG neg y x H Q
def rInG(a:Bool):R2:=λy x H Q=>IrInG a y x H Q
inductive IsDPutG(D:Ends)(σ:St)(v:V)(x:V)(y:V)(H3:Hp):Prop
 |mk (a:_) (kvs:_) (k:_) (h0_:x=.ref a) (h1_:H3 a=some (.dG kvs)) (h2_:GK H3 k y) (h3_:kvs.length<sizeLine) (h4_:D.nx σ (upd H3 a (.dG (pG kvs k y v)))):IsDPutG D σ v x y H3
def sDPutG(td ty tv:TE):TS:=λD σ H=>tv σ H λv H1=>td σ H1 λx H2=>ty σ H2 λy a=>IsDPutG D σ v x y a
section
variable {X:Cx}{o i e value:Expr}{pos pos' tpos:Pos}{td ty tv:TE}
def xAap(n:X.A.units+2<cLine)(p:PE X o td)(hi:PE X i ty)(m:NoSl i):PE X (.Subscript o i pos) (tDGetG td ty):=by
 refine⟨?_⟩;intro pins s σ H Q I h;refine xApg PySem.F.slot_dict_getitem.lookup m (thn (p pins s σ H _ I h) λu q ⟨x,H1,r,d,e⟩=>thn (hi pins q σ H1 _ r e) λz s2 ⟨y,H2,c,j,a,kvs,k,v,ex,rd,g,l,t⟩=>?_);subst ex;obtain rfl:u=Value.ref a:=d;obtain⟨_,_,xs,_,f⟩:=gd_rd c rd;exact⟨f.typeIs,xAlq n c rd g l j λC B w b=>⟨v,H2,w,b,t⟩⟩
def xAjm(d:X.A.units+2<cLine):OpR X (compareOp .In) (rInG false):=by
 intro pins s σ H x y v u Q I b c h;obtain⟨a,kvs,k,rfl,rd,g,q⟩:=h;cases c;show wpAny (model X.prog X.w) X.A (do return Value.bool (←contains (.ref a) v)) _ _ s;exact qA (xAeg d I rd g b λs' e=>qE ⟨.bl _,H,e,O,q⟩)
def xAdg(d:X.A.units+2<cLine):OpR X (compareOp .NotIn) (rInG true):=by
 intro pins s σ H x y v u Q I b c h;obtain⟨a,kvs,k,rfl,rd,g,q⟩:=h;cases c;show wpAny (model X.prog X.w) X.A (do return Value.bool (!(←contains (.ref a) v))) _ _ s;exact qA (xAeg d I rd g b λs' e=>qE ⟨.bl _,H,e,O,q⟩)
def xAbe(q:X.A.units+2<cLine)(j:PE X o td)(hi:PE X i ty)(c:PE X value tv)(d:swapsWith value (some (.Subscript o i pos')) pos.line X.env=pure false) :
  PS X (.Assign [.Subscript o i pos'] value pos) (sDPutG td ty tv):=by
 refine⟨?_⟩;intro pins s σ H D I h;refine wpAny_Assign_Subscript (thn (c pins s σ H _ I h) λr t ⟨v,H1,z,m,n⟩=>thn (j pins t σ H1 _ z n) λu s2 ⟨x,H2,f,B,w⟩=>thn (hi pins s2 σ H2 _ f w) λF J ⟨y,G,E,p,a,kvs,k,ex,e,g,l,b⟩=>?_) d;subst ex;obtain rfl:u=Value.ref a:=B;exact xAlr q E e g l p m λK C=>⟨σ,_,C,b⟩
def tDctG:TE:=λ_ H Q=>∀p H',H p=none->Same H H'->H' p=some (.dG [])->Q (.ref p) H'
def xAls(h:Heap)(a:sysModules<h.objs.size):ObjOk P w H (h.push { cls:=.type "dict",data:=.dict #[] }) h.objs.size (.dG []) :=
 ⟨qy _,beq_eq_false_iff_ne.mpr (Ne.symm (qi a)),[],.nil,_,#[],0,qL _ rfl,⟨O,O,O⟩,O,O,yb⟩
def xAcb:PE X (.Dict [] [] pos) tDctG:=⟨λpins s σ H Q I h =>
 wpAny_Dict_empty ⟨.ref s.heap.objs.size,_,I.laid (a:=s.heap.objs.size) (o:=.dG []) (t':=s.toks) (λ_ _ q=>qH _ q) (qb _) (xAls s.heap I.big),O,h _ _ (I.hok.fresh (qb _)) (Same.new (I.hok.fresh (qb _))) xAab⟩⟩
end
def xAgw:typeLookup (.type "list") "keys"=pure none:=by rw[typeLookup_type,builtinLookup_eq_fast];kernel_rfl
section
variable {prog:Program}{w:World}{A:Around}{E:Value->Shared->Prop}
def xAty(i:s.heap.get? a=some { cls:=.type "list",dict:=none,data:=.seq xs k,slots:=j })(l:A.handled=none)(h:∀h' tk,Ext s.heap h'->Q none { s with heap:=h',toks:=tk }):wpAny (model prog w) A (getAttr? (.ref a) "keys") Q E s:=by
 obtain⟨o,g,d,tk,m⟩:=s;have f:∀b,(⟨o,g,d,b,m⟩:Shared).TypeIs (.ref a) "list":=λ_=>⟨_,i,O⟩;have r:=sub_AttributeError;have u:=F.slot_list_getattribute.lookup;have q:=F.slot_list_getattribute.bind (.ref a);have v:=am_list_getattr_none
 have z:(Str.ofString "keys").length+100≤sizeLine:=by
  have:=xAaj (n:=1000) (qb _);have e:(Str.ofString "keys").length=4:=rfl;omega
 unfold getAttr? getAttrBy? getAttrBy
 repeat (any_goals (first|assumption|exact f _|((with_reducible show wpAny _ _ (call (Value.builtin "list.__getattribute__") _ _) _ _ _);refine call_meets F.slot_list_getattribute (f _) am_entry_list_getattribute (F.args_list_getattribute_2 _ _) (meets_getattribute_miss_list a xs k j "keys" _ xAgw (by decide +kernel) z) ⟨i,l,λh' b e c=>?_⟩)|wp_step))
 obtain⟨t',t,p⟩:=c.there;show wpAny (model prog w) A (getattributeRaised _ _ _ _ _ _ _) _ _ _;unfold getattributeRaised
 repeat (any_goals (first|assumption|wp_step))
 exact h _ _ c.keeps
end
def xAip:entryFor table "dict.update.loop"=some Builtin.«dict.update.loop»:=entryFor_of_tree (by kernel_rfl)
def xAdh:plainId "dict.update.loop"=true:=by decide +kernel
def Tst(h h':Heap):Prop:=∀b o,h.get? b=some o->o.cls=.type "tuple"->h'.get? b=some o
section
variable {P:Program}{w:World}{A:Around}
def xAjn(a:s.heap.get? b=some o)(c:o.data=.seq xs n)(q:Q (some xs) s):wpAny M A (seqItems? (.ref b)) Q E s:=by
 unfold seqItems?;refine qA (wpAny_load a ?_);rw[c];exact qE q
def putAll{α β:Type}(xs:List (KD×α×β)):List (KD×α×β)->List (KD×α×β)
 |[]=>xs
 |e::r=>putAll (pG xs e.1 e.2.1 e.2.2) r
def xAbr{α β:Type}(ps:List (KD×α×β)):∀xs,(putAll xs ps).length≤xs.length+ps.length:=by
 induction ps with
 |nil=>intro xs;exact qb _
 |cons e r a =>
  intro xs;have h1:=a (pG xs e.1 e.2.1 e.2.2);have h2:=xAca xs e.1 e.2.1 e.2.2;show(putAll (pG xs e.1 e.2.1 e.2.2) r).length≤_;rw[qx];omega
def PairAt(P:Program)(w:World)(h:Heap)(v:Value)(e:KD×Value×Value):Prop:=∃b,v=.ref b/\h.IsTuple b #[e.2.1,e.2.2]/\GIs P w h e.1 e.2.1
def PairAt.stay(p:PairAt P w h v e)(t:Tst h h'):PairAt P w h' v e:=by
 obtain⟨b,rfl,⟨o,h1,h2,a⟩,g⟩:=p;exact⟨b,O,⟨o,t _ _ h1 h2,h2,a⟩,g.ext t⟩
def GDict.keep(g:GDict P w h d xs)(k:∀o,h.get? d=some o->h'.get? d=some o)(t:Tst h h'):GDict P w h' d xs:=by
 obtain⟨o,es,ep,h1,h2,f,e,c,a⟩:=g;exact⟨o,es,ep,k o h1,h2,f,e,λx b=>(c x b).ext t,a⟩
def xAlt(a:h.IsListIter I l i)(k:∀b o,b≠I->h.get? b=some o->h'.get? b=some o):Tst h h':=λb o e c=>k b o (λz=>by
 obtain⟨o',f,d,_⟩:=a;rw[z,f]at e;cases e;rw[d]at c
 exact absurd c (by decide)) e
def xArc(hh:A.handled=none)(hu:A.units+2<cLine)(K:l≠I)(h:D≠I)(N:D≠l) :
  ∀(ps:List (KD×Value×Value)) (i:Nat) (xs:List (KD×Value×Value)) (s:Shared) (j:Int) (u:Tok),i+ps.length=items.size->s.heap.IsListIter I l i->s.heap.IsList l items->GDict P w s.heap D xs->xs.length+ps.length≤sizeLine →
   (∀(m:Nat) e,ps[m]?=some e->∃v,items[i+m]?=some v/\PairAt P w s.heap v e) →
   (∀s':Shared,(∀b o,b≠I->b≠D->s.heap.get? b=some o->s'.heap.get? b=some o)->GDict P w s'.heap D (putAll xs ps)->(∃tk,s'={ s with heap:=s'.heap,toks:=tk })->R (.ok (.ret .none)) s') →
   codeAny (model P w) A (.builtin "dict.update.loop" ⟨[.ref D,.ref I,.int j u,.none],[]⟩) R s:=by
 have W:=Walks.list (prog:=P) (w:=w) (A:=A.in1) (by simpa using hh) I l K items;intro ps
 induction ps with
 |nil =>
  intro i xs s j u hi d S H hz T Z
  have F:i=items.size:=by simpa using hi
  subst F;refine codeAny_builtin xAip ?_;rw[Around.under_plainId xAdh _];show wpAny (model P w) A.in1 (pyNext (.ref I) >>= _) _ _ s;refine qA (W.done s _ _ ⟨d,S⟩ λh' tk C=>?_)
  have k:∀b o,b≠I->s.heap.get? b=some o->h'.get? b=some o:=λb o p e=>C b o (by simpa using p) e
  exact qA (qE (qE (Z ⟨h',s.gens,s.drawn,tk,s.os⟩ (λb o h1 _ e=>k b o h1 e) (H.keep (λo e=>k D o h e) (xAlt d k)) ⟨tk,O⟩)))
 |cons e ps ih =>
  intro i xs s j u hi d S H hz T Z;refine codeAny_builtin xAip ?_;rw[Around.under_plainId xAdh _];show wpAny (model P w) A.in1 (pyNext (.ref I) >>= _) _ _ s;refine qA (W.item i s _ _ (by rw[qx]at hi;omega) ⟨d,S⟩ λv h' tk hv st C=>?_)
  have k:∀b o,b≠I->s.heap.get? b=some o->h'.get? b=some o:=λb o p e=>C b o (by simpa using p) e
  have ts:=xAlt d k;obtain⟨v',g,pv⟩:=T 0 e rfl
  have ev:v'=v:=by
   rw[Nat.add_zero]at g;rw[hv]at g;exact(qK g).symm
  subst ev;have r:=H.keep (h':=h') (λo e=>k D o h e) ts;have L:=pv.stay ts;obtain⟨b,rfl,p,ge⟩:=id L
  have hT:Shared.TypeIs ⟨h',s.gens,s.drawn,tk,s.os⟩ (.ref b) "tuple":=by
   obtain⟨o,h1,h2,_⟩:=p;exact⟨o,h1,h2⟩
  obtain⟨ob,J,hb2,nb,X⟩:=id p
  have pr:∀{Q:List Value->Shared->Prop} {E:Value->Shared->Prop},Q [e.2.1,e.2.2] ⟨h',s.gens,s.drawn,tk,s.os⟩->wpAny (model P w) A.in1 (Builtin.Dict.pairItems (.ref b)) Q E ⟨h',s.gens,s.drawn,tk,s.os⟩:=λ{Q E} q=>by
   unfold Builtin.Dict.pairItems;refine qA (wpAny_typeOf hT ?_);rw[qF (by decide)];exact qA (xAjn J X (qE q))
  refine qA (qJ (qA (wpAny_tryCatch (pr ?_))));refine qJ (xAlo (show A.in1.units+1<cLine from(by show A.units+1+1<cLine;omega)) ge r (by rw[qx]at hz;omega) λh2 y f=>?_)
  have tD:Tst h' h2:=λb o x c=>(f.2 b (λz=>by
   obtain⟨o',_,_,e2,t,_⟩:=r;rw[z,e2]at x;cases x;rw[t.1]at c
   exact absurd c (by decide))).trans x
  refine qE ⟨plainId_quiet xAdh _,ih (i+1) _ _ _ _ (by rw[qx]at hi;omega) ?_ ?_ y ?_ (λm e2 M=>?_) λs' U B V=>?_⟩
  ·obtain⟨o,h1,a,G⟩:=st.1
   exact⟨o,(f.2 I (λz=>h z.symm)).trans h1,a,G⟩
  ·obtain⟨o,h1,a,n,G⟩:=st.2
   exact⟨o,(f.2 l (λz=>N z.symm)).trans h1,a,n,G⟩
  ·have:=xAca xs e.1 e.2.1 e.2.2
   rw[qx]at hz;omega
  ·obtain⟨v2,hv2,Y⟩:=T (m+1) e2 (by simpa using M)
   exact⟨v2,by rw[←hv2];congr 1;omega,(Y.stay ts).stay tD⟩
  ·refine Z s' (λb o h1 a t=>U b o h1 a ((f.2 b a).trans (k b o h1 t))) B ?_
   obtain⟨tk',t⟩:=V;exact⟨tk',by rw[t]⟩
def xAlu{s:Shared}{l:Addr}{items:Array Value}{n:Nat}{t:Array (Option Value)}{E:Value->Shared->Prop}{Q:Value->Shared->Prop}{ps:List (KD×Value×Value)}(q:A.handled=none)(J:A.units+4<cLine)(p:s.heap.get? l=some { cls:=.type "list",dict:=none,data:=.seq items n,slots:=t })(hn:ps.length=items.size)(hz:ps.length≤sizeLine)(G:∀(m:Nat) e,ps[m]?=some e->∃v,items[m]?=some v/\PairAt P w s.heap v e)(h:∀h' tk d,Ext s.heap h'->s.heap.objs.size≤d->GDict P w h' d (putAll [] ps)->Q (.ref d) { s with heap:=h',toks:=tk }):wpAny (model P w) A (call (.type "dict") [.ref l]) Q E s:=by
 refine callType_codes (Q₁:=λobj c=>obj=.ref s.heap.objs.size/\c={ s with heap:=s.heap.push { cls:=.type "dict",data:=.dict #[] } }) F.kt_called_dict (F.kt_typeCall_dict_1 _) F.entry_dict_init (kt_code_dict_new _ ⟨O,O⟩) ?_;rintro obj c ⟨rfl,rfl⟩;have new:GDict P w (s.heap.push { cls:=.type "dict",data:=.dict #[] }) s.heap.objs.size []:=⟨_,#[],0,qL _ rfl,⟨O,O,O⟩,O,O,λx D=>(nomatch D),yb⟩;have a:(s.heap.push { cls:=.type "dict",data:=.dict #[] }).get? l=some { cls:=.type "list",dict:=none,data:=.seq items n,slots:=t }:=qH _ p;have j:Shared.TypeIs { s with heap:=s.heap.push { cls:=.type "dict",data:=.dict #[] } } (.ref s.heap.objs.size) "dict":=GDict.typeIs (P:=P) (w:=w) (s:={ s with heap:=s.heap.push { cls:=.type "dict",data:=.dict #[] } }) new;refine⟨j,F.args_dict_init_2 _ _,?_⟩;unfold Builtin.«dict.__init__»;refine qA ?_;unfold Builtin.Dict.selfAndRest;refine qA (wpAny_notOrdered_dict j (qE ?_));show wpAny (model P w) _ (Builtin.Dict.updateFrom "dict.__init__" s.heap.objs.size (.ref l) [] .none) _ _ _;unfold Builtin.Dict.updateFrom;refine qA (wpAny_typeOf (show Shared.TypeIs { s with heap:=s.heap.push { cls:=.type "dict",data:=.dict #[] } } (.ref l) "list" from⟨_,a,O⟩) ?_);rw[qF (by decide)];refine qA (xAty a (by simpa using q) λh1 K f=>?_);rw[qF (by rfl)];have g:h1.IsList l items:=⟨_,f _ _ a,O,n,O⟩;refine qA (wpAny_rule (qA (wpAny_pyIter_list g ?_)))
 have r:s.heap.objs.size<h1.objs.size:=by
  obtain⟨o,_,_,e,_⟩:=new;exact qG (f _ _ e)
 have C:l<h1.objs.size:=qG (f _ _ a);have I:l<s.heap.objs.size:=qG p
 have u:∀b o,s.heap.get? b=some o->b≠h1.objs.size/\b≠s.heap.objs.size:=λb o e=>by
  have:=qG e;exact⟨qi (yi this r),qi this⟩
 have i:Tst (s.heap.push { cls:=.type "dict",data:=.dict #[] }) (h1.push { cls:=.type "list_iterator",data:=.fields #[.ref l,.int 0 0] }):=λb o e _=>qH _ (f _ _ e);refine qE ⟨plainId_quiet xAdh _,xArc (A:=A.in1) (l:=l) (items:=items) (by simpa using q) (show A.units+1+2<cLine by omega) (Nat.ne_of_lt C) (Nat.ne_of_lt r) (Nat.ne_of_gt I) ps 0 [] _ _ _ (by rw[Nat.zero_add];exact hn) ⟨_,qL _ rfl,O,O⟩ (g.push _) (new.keep (λo e=>qH _ (f _ _ e)) i) (by simpa using hz) (λm e H=>?_) λs' B k z=>?_⟩
 ·obtain⟨v,y,pv⟩:=G m e H
  exact⟨v,by rw[y0];exact y,(pv.stay (λb o e _=>qH _ e)).stay i⟩
 ·obtain⟨tk,es⟩:=z
  rw[es]at k ⊢;exact⟨O,h _ tk _ (λb o e=>B b o (u b o e).1 (u b o e).2 (qH _ (f _ _ (qH _ e)))) (qb _) k⟩
end
def PrsV(H:Hp):List V->List (KD×V×V)->Prop
 |[],[]=>True
 |y::ys,e::es=>(∃b,y=.ref b/\H b=some (.tup [e.2.1,e.2.2])/\GK H e.1 e.2.1)/\PrsV H ys es
 |_,_=>False
section
variable {X:Cx}{pins:List (Addr×Obj)}{σ:St}{H:Hp}{s:Shared}
def xAtz(I:Inv X pins σ H s):∀{ys:List V} {us:List Value} {kvs:List (KD×V×V)},Vals ys us->PrsV H ys kvs->∃ps,Paired (GP H) kvs ps/\ps.length=us.length/\∀(m:Nat) e,ps[m]?=some e->∃v,us[m]?=some v/\PairAt X.prog X.w s.heap v e
 |[],_,[],.nil,_=>⟨[],.nil,O,λm e z=>by cases z⟩
 |[],_,_::_,.nil,h=>h.elim
 |_::_,_,[],.cons _ _,h=>h.elim
 |y::ys,_,e::es,.cons r t,h=>by
  obtain⟨⟨b,rfl,d,g⟩,h2⟩:=h;obtain⟨ps,i,p2,u⟩:=xAtz I t h2;cases r;obtain⟨its,A,⟨o,f,j,n,k⟩,_⟩:=I.tuple (SqT.of d);obtain⟨q,l,rfl,c,x⟩:=A.two;refine⟨(e.1,q,l)::ps,.cons ⟨O,g,c,x⟩ i,by rw[qx,qx,p2],λm p a=>?_⟩
  cases m with
  |zero =>
   cases a;exact⟨_,O,b,O,⟨o,f,j,n,k⟩,g.is I c⟩
  |succ m =>
   obtain⟨v,h1,h2⟩:=u m p (by simpa using a);exact⟨v,by simpa using h1,h2⟩
def xAiq:∀{l:List (KD×V×V)} {m:List (KD×Value×Value)},Paired (GP H) l m->∀{a:List (KD×V×V)} {b:List (KD×Value×Value)},Paired (GP H) a b->Paired (GP H) (putAll a l) (putAll b m)
 |_,_,.nil,_,_,t=>t
 |_,_,.cons (a:=p) (b:=q) f t,a,b,t2=>by
  show Paired (GP H) (putAll (pG a p.1 p.2.1 p.2.2) _) (putAll (pG b q.1 q.2.1 q.2.2) _);rw[←f.1];exact xAiq t (xAoa t2 f.2.1 f.2.2.1 f.2.2.2)
inductive IrDictG(xs:List V)(H:Hp)(Q:VK):Prop
 |mk (p:_) (ys:_) (kvs:_) (h0_:xs=[.ref p]) (h1_:SqL H p ys) (h2_:PrsV H ys kvs) (h3_:ys.length≤2000) (h4_:∀q H',H q=none->Same H H'->H' q=some (.dG (putAll [] kvs))->Q (.ref q) H'):IrDictG xs H Q
def rDictG:List V->Hp->VK->Prop:=λxs H Q=>IrDictG xs H Q
def xAar(N:X.A.handled=none)(J:X.A.units+4<cLine):CallR X (.type "dict") (rDictG):=by
 intro pins s σ H xs us Q I r h;obtain⟨p,ys,kvs,rfl,R,F,hz,q⟩:=h;obtain⟨u,rfl,D⟩:=vals1 r;cases D;obtain⟨its,l,⟨o,n,e,y,t,i⟩,_⟩:=I.list R;obtain⟨K,j,data,W⟩:=o;dsimp only at y t i;subst y t i;obtain⟨ps,w,p2,G⟩:=xAtz I l F;have U:=l.length
 have T:2000≤sizeLine:=by decide
 refine xAlu N J e (by rw[qr];exact p2) (by omega) (λm B c=>?_) λh' tk d x f g=>?_
 ·obtain⟨v,h1,h2⟩:=G m B c
  exact⟨v,by simpa using h1,h2⟩
 ·obtain⟨o',es,ep,E,C,L,S,_,P⟩:=g
  have fr:H d=none:=I.hok.fresh f;have M:=xAbr kvs [];have V:=xAlp w;refine⟨.ref d,upd H d (.dG (putAll [] kvs)),I.laid x f ⟨?_,?_,_,Paired.mapP (xAiq w .nil) λa b z=>⟨z.1,z.2.1.stay λb xs k=>?_,z.2.2⟩,o',es,ep,E,C,L,S,P⟩,O,q d _ fr (Same.new fr) xAab⟩
  ·rw[zy]at M
   omega
  ·exact beq_eq_false_iff_ne.mpr (Ne.symm (qi (qq I.big f)))
  ·rw[xAae (xAad k fr)]
   exact k
end
section
variable {P:Program}{w:World}{A:Around}{E:Value->Shared->Prop}{s:Shared}
def gm_len(f:(d==sysModules)=false):MeetsIn P w (Builtin.«dict.__len__» ⟨[.ref d],[]⟩) (λ_ R s=>∃xs,GDict P w s.heap d xs/\R (.ok (.ret (.int xs.length s.toks))) { s with toks:=s.toks+1 }) :=
 .of_wp λA R s ⟨xs,g,h⟩=>by
  obtain⟨o,es,ep,c,i,a,b,_,_⟩:=g;show wpAny (model P w) _ (dictSize d >>= _) _ _ s;unfold dictSize;refine qA (qA (wpAny_dictEntries c a (qE ?_)));refine qA (wpAny_pendingCount_other f (wpAny_ret_mkInt ?_))
  have e:es.size=xs.length:=by rw[←ze,b,qf]
  rw[Nat.add_zero,e];exact h
def gd_len(a:(d==sysModules)=false)(g:GDict P w s.heap d xs)(hz:xs.length≤sizeLine)(h:Q (.int xs.length (s.toks+1)) { s with toks:=s.toks+1+1 }):wpAny (model P w) A (call (.builtin "len") [.ref d]) Q E s:=by
 refine Calls.call_function_entry kind_len plain_len entry_len (args_len1 _) ?_;unfold Builtin.«len»;refine qA (m:=oneArg "len" _) (qE (qA (m:=callSpecial? (.ref d) (Str.ofString "__len__")) (wpAny_callSpecial?_slot (name:=Str.ofString "__len__") g.typeIs F.slot_dict_len (call_meetsIn F.slot_dict_len g.typeIs F.entry_dict_len (F.args_dict_len_1 _) (gm_len a) ⟨xs,g,?_⟩))));show wpAny (model P w) _ _ _ _ { s with toks:=s.toks+1 };refine qA (qJ (qE (qA (wpAny_letGo ?_))));rw[sizeLine_eq]at hz;show wpAny (model P w) _ (if((xs.length:Nat):Int)<0 then _ else _) _ _ _;rw[qB (by omega)];show wpAny (model P w) _ (if((xs.length:Nat):Int)≥2 ^ 63 then _ else _) _ _ _;rw[qB (by omega)];exact qA (wpAny_mkInt (qE ⟨_,O,h⟩))
def xAua(f:(d==sysModules)=false):MeetsIn P w (Builtin.«dict.get» ⟨[.ref d,v,b],[]⟩) (λA R s=>A.in1.units+1<cLine/\∃k xs,GIs P w s.heap k v/\GDict P w s.heap d xs/\R (.ok (.ret ((vG xs k).getD b))) { s with toks:=s.toks+gDraws P w k }) :=
 .of_wp λA R s ⟨c,k,xs,a,g,h⟩=>by
  show wpAny (model P w) _ (dictGet d v >>= _) _ _ s;refine qA (xAln c a g ?_)
  cases e:vG xs k with
  |some u=>rw[e]at h;exact qE ⟨u,O,h⟩
  |none =>
   rw[e]at h;show wpAny (model P w) _ (Builtin.Dict.missed d v >>= _) _ _ _;exact qA (wpAny_missed_other f (qE ⟨b,O,h⟩))
def xAlv{v val:Value}(n:A.units+1<cLine)(a:GIs P w s.heap k v)(g:GDict P w s.heap d xs)(hsz:xs.length≤sizeLine)(h1:∀u,vG xs k=some u->Q u { s with toks:=s.toks+gDraws P w k })(h2:vG xs k=none->∀h',GDict P w h' d (pG xs k v val)->Heap.SameBut d s.heap h'->Q val { s with heap:=h',toks:=s.toks+gDraws P w k }):wpAny (model P w) A (dictSetDefault d v val) Q E s:=by
 obtain⟨o,es,ep,c,m,i,l,h,hn⟩:=g
 have sz:es.size=xs.length:=by rw[←ze,l,qf]
 unfold dictSetDefault
 try with_reducible refine qJ ?_
 refine qA (a.hash n (qA (xArb (s:={ s with toks:=s.toks+gDraws P w k }) n a c i l h hn ?_)))
 cases e:gIdx xs k with
 |none =>
  have f:=xAll (xAlm e);refine qA (wpAny_rule (qA (wpAny_updateDictKeys (hz:=by omega) (s:={ s with toks:=s.toks+gDraws P w k }) c i (qE (h2 f _ ⟨_,_,ep+1,Heap.get?_update_self _ c (Obj.isFreed_of_dict (Obj.data_mapDictKeys i _)),m.mapDictKeys _,Obj.data_mapDictKeys i _,?_,λx b=>?_,xAgu hn⟩ (Heap.SameBut.update ..))))))
  ·unfold pG
   rw[f,qB (by decide)]
   simp[l,gEnt]
  ·unfold pG at b
   rw[f,qB (by decide)]at b;rcases zd.mp b with b|b
   ·exact xAdq (es:=es) (ep:=ep) c m (Heap.SameBut.update ..) (h x b)
   ·rw[qt.mp b]
    exact xAdq (es:=es) (ep:=ep) c m (Heap.SameBut.update ..) a
 |some j =>
  obtain⟨x,b,ex⟩:=xAgv e;have f:=xAio hn b ex;refine qA (wpAny_dictEntries (s:={ s with toks:=s.toks+gDraws P w k }) c i ?_);rw[←we,l,qv,b];exact qA (wpAny_rule (qE (h1 _ f)))
def xAob(h:(d==sysModules)=false):MeetsIn P w (Builtin.«dict.setdefault» ⟨[.ref d,v,b],[]⟩) (λA R s=>A.in1.units+1<cLine/\∃k xs,GIs P w s.heap k v/\GDict P w s.heap d xs/\xs.length≤sizeLine ∧
      (∀u,vG xs k=some u->R (.ok (.ret u)) { s with toks:=s.toks+gDraws P w k })/\(vG xs k=none->∀h',GDict P w h' d (pG xs k v b)->Heap.SameBut d s.heap h'->R (.ok (.ret b)) { s with heap:=h',toks:=s.toks+gDraws P w k })) :=
 .of_wp λA R s ⟨f,k,xs,a,g,hz,h1,h2⟩=>by
  unfold Builtin.«dict.setdefault»;refine qA ?_;unfold Builtin.Dict.keyAndDefault;refine qA (wpAny_notOrdered_dict g.typeIs (qE ?_));show wpAny (model P w) _ (if(d==sysModules)=true then _ else(dictSetDefault d v b >>= _)) _ _ s;rw[qB (by rw[h];decide)];exact qA (xAlv f a g hz (λu c=>qE ⟨u,O,h1 u c⟩) λc h' g' e=>qE ⟨b,O,h2 c h' g' e⟩)
end
def xArd(h:RelO a b)(r:RelV x u):RelV (a.getD x) (b.getD u):=by
 cases a <;> cases b <;> first|exact h|exact r|exact h.elim
section
variable {X:Cx}
inductive IRcall_lenG(xs:List V)(H:Hp)(Q:VK):Prop
 |mk (a:_) (kvs:_) (h0_:xs=[V.ref a]) (h1_:H a=some (.dG kvs)) (h2_:Q (.int kvs.length) H):IRcall_lenG xs H Q
def Rcall_lenG:List V->Hp->VK->Prop:=λxs H Q=>IRcall_lenG xs H Q
def xAir:CallR X (.builtin "len") Rcall_lenG:=by
 intro pins s σ H xs us Q I r h;obtain⟨a,kvs,rfl,f,q⟩:=h;obtain⟨u,rfl,d⟩:=vals1 r;cases d;obtain⟨z,g,ys,b,c⟩:=gd_rd I (.inl f);have e:=xAlp b;refine gd_len g c (by omega) ⟨.int kvs.length,H,I.tok _,⟨_,by rw[e]⟩,q⟩
inductive IrGet2(x:V)(vs:List V)(H:Hp)(Q:VK):Prop
 |mk (a:_) (kvs:_) (k:_) (y:_) (d:_) (h0_:x=.ref a) (h1_:vs=[y,d]) (h2_:H a=some (.dG kvs)) (h3_:GK H k y) (h4_:Q ((vG kvs k).getD d) H):IrGet2 x vs H Q
def rGet2:V->List V->Hp->VK->Prop:=λx vs H Q=>IrGet2 x vs H Q
inductive IrSetDef(x:V)(vs:List V)(H:Hp)(Q:VK):Prop
 |mk (a:_) (kvs:_) (k:_) (y:_) (d:_) (h0_:x=.ref a) (h1_:vs=[y,d]) (h2_:H a=some (.dG kvs)) (h3_:GK H k y) (h4_:kvs.length<sizeLine) (h5_:(∀u,vG kvs k=some u->Q u H)) (h6_:(vG kvs k=none->Q d (upd H a (.dG (pG kvs k y d))))):IrSetDef x vs H Q
def rSetDef:V->List V->Hp->VK->Prop:=λx vs H Q=>IrSetDef x vs H Q
def xAbk(i:X.A.units+2<cLine):MtM X "dict.get" rGet2:=by
 intro pins s σ H x xs v us Q I f m h;obtain⟨a,kvs,k,y,d,rfl,rfl,l,g,q⟩:=h;obtain⟨u,o,rfl,j,b⟩:=m.two;cases f;obtain⟨z,n,ys,c,e⟩:=gd_rd I (.inl l);exact call_meetsIn F.slot_dict_get e.typeIs F.entry_dict_get (F.args_dict_get_3 _ _ _) (xAua n) ⟨i,k,ys,g.is I j,e,⟨_,H,I.tok _,xArd (xAjl c) b,q⟩⟩
def xAfs(J:X.A.units+2<cLine):MtM X "dict.setdefault" rSetDef:=by
 intro pins s σ H x xs v us Q I N E h;obtain⟨a,kvs,k,y,d,rfl,rfl,m,g,P,G,M⟩:=h;obtain⟨u,O,rfl,o,i⟩:=E.two;cases N;obtain⟨z,t,ys,f,w⟩:=gd_rd I (.inl m);have c:=xAjl (k:=k) f;refine call_meetsIn F.slot_dict_setdefault w.typeIs F.entry_dict_setdefault (F.args_dict_setdefault_3 _ _ _) (xAob t) ⟨J,k,ys,g.is I o,w,by rw[←xAlp f];exact z,λR j=>?_,λj h' l n=>?_⟩
 ·rw[j]at c
  cases e:vG kvs k with
  |none=>rw[e]at c;exact c.elim
  |some v=>rw[e]at c;exact⟨v,H,I.tok _,c,G v e⟩
 ·rw[j]at c
  cases e:vG kvs k with
  |some v=>rw[e]at c;exact c.elim
  |none =>
   obtain⟨q,es,ep,C,h2,D,K,_,L⟩:=l;have r:=xAca kvs k y d;refine⟨d,upd H a (.dG (pG kvs k y d)),xAec I (by rw[m];exact True.intro) n ⟨q,C⟩ ⟨by omega,t,_,Paired.mapP (xAoa f g o i) λp q z=>⟨z.1,z.2.1.stay λb xs B=>?_,z.2.2⟩,q,es,ep,C,h2,D,K,L⟩,i,M e⟩;rw[xAae (ne_of B m (λz=>nomatch z))];exact B
end
def hu4(a:Room k A):A.units+4<cLine:=by have:=a.units;omega
def hu2(a:Room k A):A.units+2<cLine:=by have:=a.units;omega
section
variable {P:Program}{w:World}{fs:List Addr}{H H1:Hp}{h h1 h2:Heap}
def Un.later(u:Un fs [] H H1 h h1)(k:∀b o,b<h.objs.size->h1.get? b=some o->h2.get? b=some o):Un fs [] H H1 h h2 where
 keep:=λb o q n c a=>k b o (qG q) (u.keep b o q n c a)
 slot:=λb o q n c a=>let⟨d,e⟩:=u.slot b o q n c a;⟨d,k b _ (qG q) e⟩
 free:=u.free
 there:=λb o q a=>let⟨o',e⟩:=u.there b o q a;⟨o',k b o' (qG q) e⟩
 tups:=u.tups
 frzs:=u.frzs
 tbls:=u.tbls
 tupo:=λb o xs q n=>k b o (qG q) (u.tupo b o xs q n)
def HOk.other(x:HOk P w H h)(k:∀b u,b≠a->h.get? b=some u->h2.get? b=some u)(hn:H a=none):HOk P w H h2:=λb o e=>by
 have ne:∀{c u},H c=some u->c≠a:=λq z=>by rw[z,hn]at q;cases q
 refine(x b o e).stay (λc u d q=>k c u ?_ q) (λ_ q=>q) λ_ _ q=>q;rcases d with rfl|d
 ·exact ne e
 ·exact ne d
def HOk.adopt(x:HOk P w H h)(hn:H a=none)(new:ObjOk P w (upd H a o) h a o):HOk P w (upd H a o) h:=λb u e=>by
 by_cases d:b=a
 ·subst d;rw[xAab]at e;cases e;exact new
 ·rw[xAae d]at e
  refine(x b u e).stay (λ_ _ _ q=>q) (λc q=>?_) λc xs q=>?_
  ·rw[xAae (λz=>by rw[z,hn]at q;cases q)];exact q
  ·rw[xAae (λz=>by rw[z,hn]at q;cases q)];exact q
def Un.adopt{a:Addr}{o:HO}(u:Un fs [] H H1 h h1)(c:h.objs.size≤a)(hn:H1 a=none):Un fs [] H (upd H1 a o) h h1 where
 keep:=u.keep
 slot:=u.slot
 free:=λb ob q n d=>by
  rw[xAae (qi (qq (qG q) c))];exact u.free b ob q n d
 there:=u.there
 tups:=λb xs q=>by
  have:=u.tups b xs q;rw[xAae (λz=>by rw[z,hn]at this;cases this)];exact this
 frzs:=λb ob v q=>by
  have:=u.frzs b ob v q;rw[xAae (λz=>by rw[z,hn]at this;cases this)];exact this
 tbls:=λb ps q=>by
  obtain⟨m,this⟩:=u.tbls b ps q;exact⟨m,by rw[xAae (λz=>by rw[z,hn]at this;cases this)];exact this⟩
 tupo:=u.tupo
end
def SrtOk(n:Nat)(ds:List PyData):Prop:=n≤2000/\(n<64\/ds.Pairwise λa b=>ltD a b=true)
def SrtOk.few(h:SrtOk n ds)(c:ds.length=n)(W:Srt.Swo (ltK ds)):Few (ltK ds) n:=by
 rcases h.2 with h|h
 ·exact .inl h
 ·refine .inr λi j a b=>?_
  by_cases e:i=j
  ·subst e;exact W.irr _
  ·refine W.le_of_lt ?_
   have:=jr.mp h i j (by omega) (by omega) (by omega);unfold ltK keyAt;rw[zf,zf,qg (by omega),qg (by omega)];exact this
inductive IrSortK(sp:Sp)(xs:List V)(H:Hp)(Q:VK):Prop
 |mk (p:_) (ys:_) (ds:_) (t:_) (h0_:xs=[.ref p]) (h1_:SqL H p ys) (h2_:ds.length=ys.length) (h3_:KeysAre ds t) (h4_:SrtOk ys.length ds) (h5_:(∀(m:Nat) y d H' (Q':VK),ys[m]?=some y->ds[m]?=some d->Same H H'->(∀H'' kv,Same H' H''->DV H'' kv d->Q' kv H'')->sp [y] H' Q' E0)) (h6_:∀q H' ix,H q=none->Same H H'->SortIx ds ix->H' q=some (.lst (ix.map λi=>ys.getD i .non))->Q (.ref q) H'):IrSortK sp xs H Q
def rSortK(sp:Sp):List V->Hp->VK->Prop:=λxs H Q=>IrSortK sp xs H Q
section
variable {X:Cx}{pins:List (Addr×Obj)}{σ:St}{H:Hp}{s:Shared}{k:Nat}{fa:Addr}{fd:FuncData}{ps:List Str}{sp:Sp}
structure KSt(X:Cx)(H:Hp)(s:Shared)(a kS:Addr)(e1:Nat)(Hm:Hp)(s':Shared)(ks:List Value)(kvs:List V)(ds:List PyData):Prop where
 un:Un (frs X.stack) [] H Hm s.heap s'.heap
 hok:HOk X.prog X.w Hm s'.heap
 os:s'.os=s.os
 bare:AllBare s'.gens
 same:Same H Hm
 fa':Hm a=none
 fk:Hm kS=none
 ga:s'.heap.get? a=some (seqObj "list" #[] e1)
 gk:∃e,s'.heap.get? kS=some (seqObj "list" ks.toArray e)
 vals:Vals kvs ks
 dv:DVs Hm kvs ds
def xAlw(h:DV H x d):∀{xs:List V} {ds:List PyData},DVs H xs ds->DVs H (xs++[x]) (ds++[d])
 |_,_,.nil=>.cons h .nil
 |_,_,.cons a t=>.cons a (xAlw h t)
def xAlx{A':Around}{a k:Addr}{e1:Nat}{E:Value->Shared->Prop}{R:Shared->Prop}(j:∀(s':Shared) (c:Hp) (x:Value) (y:V) (Q:VK),Env0 X.prog X.w X.K X.mg X.base A' X.stack s' c->Un (frs X.stack) [] H c s.heap s'.heap->Same H c->RelV y x->sp [y] c Q E0->codeAny (model X.prog X.w) A' (.call (.ref fa) ⟨[x],[]⟩) (CR CX0 X.stack X.prog X.w c s' Q E0) s')(N:A'.frames=X.A.frames)(I:Inv X pins σ H s)(ha:s.heap.objs.size≤a)(hk:s.heap.objs.size≤k)(S:a≠k)(J:a∉frs X.stack)(T:k∉frs X.stack){p:Value->PUnit->Sem (ForInStep PUnit)}(i:∀x (s':Shared) (R':ForInStep PUnit->Shared->Prop),wpAny (model X.prog X.w) A' (call (.ref fa) [x]) (λD s2=>wpAny (model X.prog X.w) A' (Builtin.List.listUpdate (.ref k) (·.push D)) (λ_ s3=>R' (.yield ⟨⟩) s3) E s2) (λ_ _=>False) s'->wpAny (model X.prog X.w) A' (p x ⟨⟩) R' E s') :
  ∀(r:List Value) (G:List V) (rd:List PyData) (ks:List Value) (kvs:List V) (F:List PyData) (c:Hp) (s':Shared),Vals G r->rd.length=G.length →
   (∀(m:Nat) y d H' (W:VK),G[m]?=some y->rd[m]?=some d->Same H H'->(∀C D,Same H' C->DV C D d->W D C)->sp [y] H' W E0) →
   ks.length+r.length≤2000->KSt X H s a k e1 c s' ks kvs F →
   (∀Hn f n g,KSt X H s a k e1 Hn f n g (F++rd)->n.length=ks.length+r.length->R f)->wpAny (model X.prog X.w) A' (forIn r PUnit.unit p) (λ_ f=>R f) E s'
 |[],G,rd,ks,kvs,F,c,s',rv,hl,hsp,hz,st,fin=>by
  cases rv;rw[zy]at hl;rw[wz.mp hl]at fin;rw[List.forIn_nil];refine qE (fin c s' ks kvs ?_ rfl);rw[vd];exact st
 |x::r,_,[],ks,kvs,F,c,s',.cons _ _,hl,hsp,hz,st,fin=>absurd hl (by simp)
 |x::r,_,d::rd,ks,kvs,F,c,s',.cons (a:=y) (l₁:=G) r1 rv,hl,hsp,hz,st,fin=>by
  rw[jn];have I':Inv X pins σ c s':=I.call' st.os st.un st.hok st.bare (λb z=>absurd z (by simp));have q:=I'.env0;obtain⟨ek,gk⟩:=st.gk;refine qA (i x s' _ ?_);refine wpAny_call (codeAny_mono (j s' c x y (λD H2=>Same c H2/\DV H2 D d) ⟨N.trans q.frames,q.mod,q.bs,q.bsz,q.funs,q.frf,q.hok,q.bare⟩ st.un st.same r1 (hsp 0 y d c _ rfl rfl st.same λH2 D a1 a2=>⟨a1,a2⟩)) λres s2 M=>?_)
  cases res with
  |error e=>exact M.elim
  |ok fl =>
   cases fl with
   |next=>exact M.elim
   |brk=>exact M.elim
   |cont=>exact M.elim
   |ret u =>
    obtain⟨v,H2,os2,t,h,O,rel,l,Y⟩:=M;have P:=h.keep k _ gk st.fk T (by simp);have ga2:=h.keep a _ st.ga st.fa' J (by simp);have L:=h.free k _ gk st.fk (by simp);have fa2:=h.free a _ st.ga st.fa' (by simp);have hz':ks.length+(r.length+1)≤2000:=hz;have z64:2000≤sizeLine:=zt (xAaw (by decide));refine listUpdate_at P rfl ?_ (by rw[qr];omega) (by rw[Array.size_push,qr];omega)
    obtain⟨c2,g2⟩:∃c2,(s2.heap.update k (Obj.mapSeq (·.push u))).get? k=some (seqObj "list" ((ks++[u]).toArray) c2):=by
     have ea:ks.toArray.push u=(ks++[u]).toArray:=by simp
     exact⟨_,by rw[←ea];exact get?_update_seq P (·.push u)⟩
    have Z:=Heap.SameBut.update s2.heap k (Obj.mapSeq (·.push u));refine xAlx j N I ha hk S J T i r G rd (ks++[u]) (kvs++[v]) (F++[d]) H2 _ rv (by simpa using hl) (λm y' d' H' W h1 h2 h3 h4=>hsp (m+1) y' d' H' W (by simpa using h1) (by simpa using h2) h3 h4) (by rw[List.length_append,List.length_singleton];omega) ⟨?_,?_,os2.trans st.os,t,st.same.trans l,fa2,L,(Z.2 a S).trans ga2,⟨c2,g2⟩,?_,?_⟩ λHn f n g U hl'=>fin Hn f n g ?_ ?_
    ·exact(st.un.trans h).later λb o B e=>(Z.2 b (qi (qq B hk))).trans e
    ·exact O.other (λb u' B e=>(Z.2 b B).trans e) L
    ·exact st.vals.append (.cons rel .nil)
    ·exact xAlw Y (st.dv.same l)
    ·rw[vj]at U
     exact U
    ·rw[hl',qe,qo,qx]
     omega
def xAre{A':Around}{a c:Addr}{p:Nat}{E:Value->Shared->Prop}{P:PySem.Fin->Shared->Prop}{r:Hp}{s':Shared}{ks:List Value}{kvs:List V}{ds:List PyData}{st:SortSt}{out:List Value}{n:List V}(v:s.heap.objs.size≤c)(q:s.heap.objs.size≤a)(m:a≠c)(S:KSt X H s a c p r s' ks kvs ds)(hz:ks.length≤2000)(B:out.length≤2000)(g:(arrOf st).map (·.2)=out.toArray)(y:failedOf st=none)(h:Vals n out)(k:∀s2 H2,Un (frs X.stack) [] H H2 s.heap s2.heap->HOk X.prog X.w H2 s2.heap->s2.os=s.os->AllBare s2.gens->Same H H2->H2 a=some (.lst n)->P (.done (.ret .none)) s2):wpAny (model X.prog X.w) A' (ksk_tail a false p (.ref c) st) P E s':=by
 obtain⟨A,t⟩:=S.gk;have z:2000≤sizeLine:=zt (xAaw (by decide));unfold ksk_tail
 try dsimp only
 rw[g];have j:=Heap.SameBut.update s'.heap c (Obj.mapSeq λ_=>(#[]:Array Value));have d:=(j.2 a m).trans S.ga;refine qA (listUpdate_at t rfl (qA (wpAny_letGo (qA (seqEpoch_at d rfl (qA (listUpdate_at d rfl ?_ (qy _) (by show out.toArray.size≤_;rw[qr];omega))))))) (by rw[qr];omega) (qy _));rw[y]
 simp only[bne_self_eq_false,Bool.false_eq_true,if_false]
 have i:=Heap.SameBut.update (s'.heap.update c (Obj.mapSeq λ_=>(#[]:Array Value))) a (Obj.mapSeq λ_=>out.toArray);obtain⟨l,x⟩:∃l,((s'.heap.update c (Obj.mapSeq λ_=>(#[]:Array Value))).update a (Obj.mapSeq λ_=>out.toArray)).get? a=some (seqObj "list" out.toArray l):=⟨_,get?_update_seq d λ_=>out.toArray⟩;refine qE (k _ (upd r a (.lst n)) ?_ ?_ S.os S.bare (S.same.trans (Same.new S.fa')) xAab)
 ·refine(S.un.later λb o f e=>?_).adopt q S.fa'
  have h1:b≠c:=qi (qq f v);have h2:b≠a:=qi (qq f q);exact(i.2 b h2).trans ((j.2 b h1).trans e)
 ·refine HOk.adopt ((S.hok.other (λb u f e=>(j.2 b f).trans e) S.fk).other (λb u f e=>(i.2 b f).trans e) S.fa') S.fa' ⟨?_,out,l,h,x⟩
  rw[h.length];omega
def xAoc{Q:VK}{vs:List Value}{ys:List V}{ds:List PyData}{t:Nat}{h1:Heap}{a:Nat}(o:∀(s':Shared) (M:Hp) (x:Value) (y:V) (Q:VK),Env0 X.prog X.w X.K X.mg X.base X.A.in1.in1 X.stack s' M->Un (frs X.stack) [] H M s.heap s'.heap->Same H M->RelV y x->sp [y] M Q E0->codeAny (model X.prog X.w) X.A.in1.in1 (.call (.ref fa) ⟨[x],[]⟩) (CR CX0 X.stack X.prog X.w M s' Q E0) s')(hu:X.A.units+3+61<cLine)(I:Inv X pins σ H s)(rv:Vals ys vs)(l:ds.length=ys.length)(hk:KeysAre ds t)(G:SrtOk ys.length ds)(hsp:∀(m:Nat) y d H' (Q':VK),ys[m]?=some y->ds[m]?=some d->Same H H'->(∀u kv,Same H' u->DV u kv d->Q' kv u)->sp [y] H' Q' E0)(q:∀q H' ix,H q=none->Same H H'->SortIx ds ix->H' q=some (.lst (ix.map λi=>ys.getD i .non))->Q (.ref q) H')(x1:Ext s.heap h1)(B:h1.get? a=some (seqObj "list" vs.toArray 0))(C:s.heap.objs.size≤a) :
  wpAny (model X.prog X.w) X.A.in1 (holding [Value.ref a] (call (.builtin "list.sort") [.ref a] [(Str.ofString "key",.ref fa)]) >>= λ_=>ret (.ref a)) (λc s'=>∃v,c=.done (.ret v)/\EP X pins σ Q v s') X.xe { s with heap:=h1 }:=by
 have h64:=G.1;have hl:=rv.length
 have hz:ys.length≤sizeLine:=by rw[sizeLine_eq];omega
 have zl:vs.length≤sizeLine:=by omega
 refine qA (qJ (wpAny_call_entry_kw slot_list_sort ⟨_,B,O⟩ entry_list_sort ?_ (ksk_l1 _ _)));show wpAny (model X.prog X.w) X.A.in1.in1 (Builtin.«list.sort» ⟨[.ref a],[(Str.ofString "key",.ref fa)]⟩) _ _ _;rw[ksk_t1];unfold ksk_tree;obtain⟨h,o2⟩:∃h,(h1.update a (Obj.mapSeq λ_=>(#[]:Array Value))).get? a=some (seqObj "list" #[] h):=⟨_,get?_update_seq B λ_=>#[]⟩;have x2:Ext s.heap (h1.update a (Obj.mapSeq λ_=>(#[]:Array Value))):=x1.upd C;refine qA (listItems_at B rfl (qA (listUpdate_at B rfl (qA (seqEpoch_at o2 rfl (qA (wpAny_newTuple (qA (wpAny_newList (qJ ?_) (qy _))) zl)))) (by rw[qr];exact zl) (qy _))))
 have g:s.heap.objs.size≤((h1.update a (Obj.mapSeq λ_=>(#[]:Array Value))).push (seqObj "tuple" vs.toArray 0)).objs.size:=by
  rw[size_push',Heap.size_update];have:a<h1.objs.size:=qG B;omega
 have r:a≠((h1.update a (Obj.mapSeq λ_=>(#[]:Array Value))).push (seqObj "tuple" vs.toArray 0)).objs.size:=by
  rw[size_push',Heap.size_update];have:a<h1.objs.size:=qG B;omega
 have o3:(((h1.update a (Obj.mapSeq λ_=>(#[]:Array Value))).push (seqObj "tuple" vs.toArray 0)).push (seqObj "list" #[] 0)).get? a=some (seqObj "list" #[] h):=qH _ (qH _ o2);have p:(((h1.update a (Obj.mapSeq λ_=>(#[]:Array Value))).push (seqObj "tuple" vs.toArray 0)).push (seqObj "list" #[] 0)).get? ((h1.update a (Obj.mapSeq λ_=>(#[]:Array Value))).push (seqObj "tuple" vs.toArray 0)).objs.size=some (seqObj "list" #[] 0):=qL _ rfl;have x3:Ext s.heap (((h1.update a (Obj.mapSeq λ_=>(#[]:Array Value))).push (seqObj "tuple" vs.toArray 0)).push (seqObj "list" #[] 0)):=(x2.trans (.push _ _)).trans (.push _ _);show wpAny (model X.prog X.w) X.A.in1.in1 (ksk_rest a (.ref fa) false vs.toArray h (.ref ((h1.update a (Obj.mapSeq λ_=>(#[]:Array Value))).push (seqObj "tuple" vs.toArray 0)).objs.size)) _ _ { s with heap:=((h1.update a (Obj.mapSeq λ_=>(#[]:Array Value))).push (seqObj "tuple" vs.toArray 0)).push (seqObj "list" #[] 0) };generalize ((h1.update a (Obj.mapSeq λ_=>(#[]:Array Value))).push (seqObj "tuple" vs.toArray 0)).objs.size=kS at g r p ⊢;generalize ((h1.update a (Obj.mapSeq λ_=>(#[]:Array Value))).push (seqObj "tuple" vs.toArray 0)).push (seqObj "list" #[] 0)=P at o3 p x3 ⊢
 have D:∀b,s.heap.objs.size≤b->b∉frs X.stack:=λb J hm=>by
  rcases qz.mp (I.stkSub b hm) with z|z
  ·exact absurd (qq I.lt J) (by rw[z];exact zn _)
  ·exact I.nofs J z
 have S0:KSt X H s a kS h H { s with heap:=P } [] [] []:=⟨Un.kept x3,I.hok.kept x3,O,I.bare,Same.refl H,I.hok.fresh C,I.hok.fresh g,o3,⟨0,p⟩,.nil,.nil⟩;unfold ksk_rest;refine qA (wpAny_rule ?_)
 first
  |rw[List.forIn_toArray]
  |(rw[←Array.forIn_toList];simp only[List.toList_toArray])
 refine qA (xAlx (R:=λf=>wpAny (model X.prog X.w) X.A.in1.in1 (do let keys ←Builtin.List.listItems (.ref kS);ksk_end a false vs.toArray h (.ref kS) keys) _ _ f) o rfl I C g r (D a C) (D kS g) (λx s' R' hx=>?_) vs ys ds [] [] [] H _ rv l hsp (by rw[zy];omega) S0 λHn f ks kvs S j=>?_)
 ·refine qA (wpAny_attempt (qM hx (λkv s2 h2=>?_) λ_ _ z=>z.elim))
  exact qA (qM h2 (λ_ s3 P=>qE P) λ_ _ z=>z)
 ·rw[jl]at S
  rw[zy,y0]at j;obtain⟨ek,gk⟩:=S.gk
  have hkl:ks.length=ds.length:=by rw[j,l,hl]
  have I':Inv X pins σ Hn f:=I.call' S.os S.un S.hok S.bare (λb z=>absurd z (by simp));obtain⟨as,ra⟩:=S.dv.reads I' S.vals;have W:=xAts hk.one;refine qA (listItems_at gk rfl ?_)
  have c:∀(e:Array Nat),Arr vs.length (ltK ds) e->∀st:SortSt,(arrOf st).map (·.2)=List.toArray (e.toList.map λi=>vs.getD i Value.none)->failedOf st=none->wpAny (model X.prog X.w) X.A.in1.in1 (ksk_tail a false h (.ref kS) st) (λc s'=>∃v,c=PySem.Fin.done (.ret v)/\wpAny (model X.prog X.w) X.A.in1 (ret (Value.ref a)) (λc s'=>∃v,c=.done (.ret v)/\EP X pins σ Q v s') X.xe s') X.xe f:=λe F st ho T=>by
   have Y:∀i∈e.toList,i<ys.length:=λi hi=>by
    have:=(F.1.toList.mem_iff).mp hi
    simp at this
    omega
   have hpl:e.size=vs.length:=by rw[F.1.size_eq];simp
   refine xAre g C r S (by omega) (by rw[qf,ze,hpl];omega) ho T (xAii rv _ Y) λs2 H2 un U os L same e2=>?_;refine⟨_,O,qE ⟨_,O,.ref a,H2,I.call' os un U L (λb z=>absurd z (by simp)),O,q a H2 e.toList (I.hok.fresh C) same (xAih (by rw[←hkl,j];exact F)) e2⟩⟩
  unfold ksk_end
  try dsimp only
  rw[qB (by decide)]
  by_cases h2:vs.toArray.size<2
  ·rw[qF h2,qF h2]
   have n:vs.length<2:=by simpa using h2
   refine qA (qE ?_);rw[StateT.run_pure];refine qA (qE ?_);refine c _ (xAie W n) _ ?_ rfl;show((ks.toArray.zip vs.toArray).map (·.2))=_;apply jq.mp;rw[Array.toList_map,Array.toList_zip];have h:List.map (·.2) (ks.zip vs)=vs:=List.map_snd_zip (by omega)
   have e2:(List.toArray (List.range vs.length)).toList.map (λi=>vs.getD i Value.none)=vs:=by
    apply yd;intro i
    by_cases hi:i<vs.length
    ·simp[hi]
    ·simp[hi]
   show List.map (·.2) (ks.zip vs)=(List.toArray (List.range vs.length)).toList.map (λi=>vs.getD i Value.none);rw[h,e2]
  ·rw[qB h2,qB h2]
   have n:¬vs.length<2:=by simpa using h2
   obtain⟨κ,N,Z⟩:=xAfo (prog:=X.prog) (w:=X.w) (A:=X.A.in1.in1) ra hk (by omega) (by show X.A.units+1+1+60<cLine;omega);refine qA (qM (N (λk s'=>k=κ/\s'=f) ⟨O,O⟩) ?_ λ_ _ z=>z.elim);rintro k' s' ⟨rfl,rfl⟩;rw[qB (by decide)];refine qA (qM (xAlj (E:=X.xe) (R:=λst s3=>s3=s'/\∃e,Arr vs.length (ltK ds) e/\(arrOf st).map (·.2)=List.toArray (e.toList.map λi=>vs.getD i Value.none)/\failedOf st=none) W j (by have:=G.few l W;rw[hl]at this;exact this) n Z λst e a1 a2 a3=>⟨O,e,a1,a2,a3⟩) ?_ λ_ _ z=>z);rintro⟨⟨⟩,st⟩ s3 ⟨rfl,e,F,eo,T⟩;exact c e F st eo T
def xAeh{Q:VK}{us:List Value}{xs:List V}(b:∀(s':Shared) (d:Hp) (x:Value) (y:V) (Q:VK),Env0 X.prog X.w X.K X.mg X.base X.A.in1.in1 X.stack s' d->Un (frs X.stack) [] H d s.heap s'.heap->Same H d->RelV y x->sp [y] d Q E0->codeAny (model X.prog X.w) X.A.in1.in1 (.call (.ref fa) ⟨[x],[]⟩) (CR CX0 X.stack X.prog X.w d s' Q E0) s')(r:X.A.units+3+61<cLine)(I:Inv X pins σ H s)(v:Vals xs us)(z:rSortK sp xs H Q) :
  wpAny (model X.prog X.w) X.A (call (.builtin "sorted") us [(Str.ofString "key",.ref fa)]) (EP X pins σ Q) X.xe s:=by
 obtain⟨p,ys,ds,t,rfl,B,e,l,c,f,q⟩:=z;have o:=c.1;obtain⟨u,rfl,n⟩:=vals1 v;cases n;obtain⟨vs,h,C,hz⟩:=I.list B;have D:=h.length
 have j:vs.length≤sizeLine:=by omega
 refine call_function_entry_kw kind_sorted plain_sorted entry_sorted (ksk_s1 _ _) ?_;unfold Builtin.«sorted»;refine qA (m:=checkCount "sorted" 1 1 _) (qE (qA (collect_list C.isList (qA (wpAny_newList ?_ j)) j)));have hsz:((s.heap.push (seqObj "list" #[] 0)).update s.heap.objs.size (Obj.mapSeq (·++vs.toArray))).objs.size=s.heap.objs.size+1:=(Heap.size_update _ _ _).trans (size_push' _ _);have i:Ext s.heap (((s.heap.push (seqObj "list" #[] 0)).update s.heap.objs.size (Obj.mapSeq (·++vs.toArray))).push (seqObj "list" vs.toArray 0)):=((Ext.push _ _).upd (qb _)).trans (.push _ _);have g:(((s.heap.push (seqObj "list" #[] 0)).update s.heap.objs.size (Obj.mapSeq (·++vs.toArray))).push (seqObj "list" vs.toArray 0)).get? (s.heap.objs.size+1)=some (seqObj "list" vs.toArray 0):=hsz▸qL _ rfl;show wpAny (model X.prog X.w) _ _ _ _ { s with heap:=((s.heap.push (seqObj "list" #[] 0)).update s.heap.objs.size (Obj.mapSeq (·++vs.toArray))).push (seqObj "list" vs.toArray 0) };rw[hsz];generalize ((s.heap.push (seqObj "list" #[] 0)).update s.heap.objs.size (Obj.mapSeq (·++vs.toArray))).push (seqObj "list" vs.toArray 0)=h1 at i g ⊢;have k:s.heap.objs.size≤s.heap.objs.size+1:=wg _;generalize s.heap.objs.size+1=a at k g ⊢;exact xAoc b r I h e l c f q i g k
def xAly{Q:VK}{us:List Value}{xs:List V}(F:FnOk X.prog X.w X.K X.mg X.base CX0 k fa fd ps sp)(h:Room k X.A.in1.in1)(m:Binds X.K fd ps [])(d:ps.length=1)(i:X.A.units+3+61<cLine)(I:Inv X pins σ H s)(f:Vals xs us)(g:rSortK sp xs H Q) :
  wpAny (model X.prog X.w) X.A (call (.builtin "sorted") us [(Str.ofString "key",.ref fa)]) (EP X pins σ Q) X.xe s :=
 xAeh (λs' j x y Q a _ _ l c=>F.run X.A.in1.in1 X.stack s' j ⟨[x],[]⟩ [x] [y] Q E0 h a (by
  have:=m s' [x] (a.mod.kin.keeps λb o e=>(a.bs b o e).1) (by rw[d];rfl)
  simpa using this) (.cons l .nil) c) i I f g
def Room.in2(r:Room (k+1) A):Room k A.in1.in1 :=
 ⟨r.hd,by have:=r.dp;show A.depth+3 * k+5<_;omega,by have:=r.un;show A.units+1+1+16 * k+200<_;omega,r.gd⟩
def xArf{p m kp pos:Pos}(F:FnOk X.prog X.w X.K X.mg X.base CX0 k fa fd ps sp)(i:Room (k+1) X.A)(q:Gl X x)(u:X.mg x=none)(o:bootBuiltins x=some (.builtin "sorted"))(d:Gl X y)(b:X.mg y=some (.ref fa))(l:Binds X.K fd ps [])(c:ps.length=1)(v:PA X [e] t)(hn:x≠"__name__":=by decide)(a:(x==("__debug__":Str))=false:=by decide)(f:(y==("__debug__":Str))=false:=by decide)(g:starEach [e] X.env=(false,eval e X.env)::starEach [] X.env:=by rfl):PE X (.Call (.Name x p) [e] [⟨some "key",.Name y m,kp⟩] pos) (tCB (rSortK sp) t):=by
 refine⟨?_⟩;intro pins s σ H Q I h;refine wpAny_Call_Name_kw (xAdw I q u o ?_ hn a);refine callWith_kw (thn (v pos pins s σ H _ I h) λus z ⟨vs,H1,j,r,n⟩=>kws_cons (xAkb j d b (kws_nil ?_) f)) (by rw[g];rfl) (by rw[g];rfl);exact xAly F i.in2 l c (by have:=i.un;omega) j r n
end
def xAub{ix:List Nat}(h:ix.Perm (List.range js.length)):(ix.map λi=>js.getD i 0).Perm js:=by
 have:=h.map λi=>js.getD i 0;refine this.trans (.of_eq ?_);apply yd;intro i;rw[qv]
 by_cases hi:i<js.length
 ·rw[jw hi,qg hi]
  show some (js.getD i 0)=_;rw[zf,qg hi];rfl
 ·rw[List.getElem?_eq_none (by simpa using hi),List.getElem?_eq_none (by omega)];rfl
def xAdc{α:Type}(xs:List α)(x:α):atI (xs++[x]) (-1)=some x:=by
 unfold atI
 have e:ixN (xs++[x]).length (-1)=some xs.length:=by
  unfold ixN;rw[qe,qo,qB (by omega),qF (by omega)]
  congr 1
  omega
 rw[e]
 simp
def xAeu:∀{ds:List PyData} {k:Nat},(∀d∈ds,d.depth≤k)->PyData.depthAll ds≤k
 |[],_,_=>qy _
 |d::ds,k,h=>by
  have a:=h d qp;have b:=xAeu (ds:=ds) λx c=>h x (qu _ c);show max d.depth (PyData.depthAll ds)≤k;omega
section
variable {X:Cx}{K:PySem.W.Frag}
inductive IrSlTA(x:V)(lo:Option Int)(hi:Option Int)(H:Hp)(Q:VK):Prop
 |mk (a:_) (xs:_) (h0_:x=.ref a) (h1_:SqT H a xs) (h2_:¬(HT.sIx xs.length 0 lo=0/\HT.sIx xs.length xs.length hi=xs.length)) (h3_:∀p H',H p=none->Same H H'->H' p=some (.tup (cutV xs lo hi))->Q (.ref p) H'):IrSlTA x lo hi H Q
def rSlTA:V->Option Int->Option Int->Hp->VK->Prop:=λx lo hi H Q=>IrSlTA x lo hi H Q
def xAps:SlR X (rSlTA):=sl_tup.imp λ_ _ _ _ _ ⟨a,xs,h1,h2,c,q⟩=>⟨a,xs,h1,h2,c,λp b=>q p _ b (Same.new b) xAab⟩
end
end L2
namespace Rga
def after(b a:Nat):List Nat->List Nat
 |[]=>[]
 |x::xs=>if x=b then x::a::xs else x::after b a xs
abbrev Pl:=Nat×Option Nat
def ins(p:Pl)(row:List Nat):List Nat:=match p.2 with
 |none=>p.1::row
 |some b=>after b p.1 row
def rowR:List Pl->List Nat
 |[]=>[]
 |p::qs=>ins p (rowR qs)
def nms(a:List Pl):List Nat:=a.map (·.1)
def WF:List Pl->Prop
 |[]=>True
 |p::qs=>p.1∉nms qs/\(∀b,p.2=some b->b∈nms qs)/\WF qs
def rk(a:List Pl)(k:Option Nat):List Nat:=(a.filter λp=>decide (p.2=k)).map (·.1)
inductive Dfs(f:Option Nat->List Nat):List Nat->List Nat->Prop
 |nil:Dfs f [] []
 |cons {x:Nat} {st out:List Nat}:Dfs f (f (some x)++st) out->Dfs f (x::st) (x::out)
def xAft:∀{row:List Nat},b∈row->(after b a row).Perm (a::row)
 |x::xs,h=>by
  unfold after
  by_cases e:x=b
  ·rw[qF e];exact .swap _ _ _
  ·rw[qB e]
   rcases qz.mp h with z|z
   ·exact absurd z.symm e
   ·exact((xAft z).cons x).trans (.swap _ _ _)
def row_perm:∀{c:List Pl},WF c->(rowR c).Perm (nms c)
 |[],_=>.refl _
 |(a,none)::c,h=>(row_perm h.2.2).cons a
 |(a,some b)::c,h=>(xAft ((row_perm h.2.2).mem_iff.mpr (h.2.1 b rfl))).trans ((row_perm h.2.2).cons a)
def xAlz:∀{a:List Pl},WF a->(nms a).Nodup
 |[],_=>yb
 |_::_,h=>zx.mpr ⟨h.1,xAlz h.2.2⟩
def xAod(h:WF a):(rowR a).Nodup:=(row_perm h).nodup_iff.mpr (xAlz h)
def xAdr(p:Pl)(a:List Pl)(k:Option Nat):rk (p::a) k=if p.2=k then p.1::rk a k else rk a k:=by
 unfold rk
 by_cases e:p.2=k
 ·rw[qF e,List.filter_cons_of_pos (by simpa using e)];rfl
 ·rw[qB e,List.filter_cons_of_neg (by simpa using e)]
def xApt(h:WF b)(f:a∉nms b):rk b (some a)=[]:=by
 induction b with
 |nil=>rfl
 |cons p b d =>
  have c:a∉nms b:=λz=>f (qu _ z);rw[xAdr,qB (λe=>c (h.2.1 a e)),d h.2.2 c]
def xAev{f g:Option Nat->List Nat}:∀{st out:List Nat},Dfs f st out->(∀x∈out,g (some x)=f (some x))->Dfs g st out
 |_,_,.nil,_=>.nil
 |_,_,.cons (x:=x) d,h=>.cons (by
  rw[h x qp]
  exact xAev d λy a=>h y (qu _ a))
def xAis{f g:Option Nat->List Nat}(c:∀x,x≠b->g (some x)=f (some x))(j:g (some b)=a::f (some b))(i:g (some a)=[]) :
  ∀{st out:List Nat},Dfs f st out->out.Nodup->Dfs g st (after b a out)
 |_,_,.nil,_=>.nil
 |_,_,.cons (x:=x) (st:=st) (out:=out) d,hn=>by
  have h:=zx.mp hn;unfold after
  by_cases e:x=b
  ·rw[qF e]
   subst e;refine .cons ?_;rw[j];refine .cons ?_;rw[i];exact xAev d λy k=>c y λz=>h.1 (z▸k)
  ·rw[qB e]
   refine .cons ?_;rw[c x e];exact xAis c j i d h.2
def dfs_row:∀{c:List Pl},WF c->Dfs (rk c) (rk c none) (rowR c)
 |[],_=>.nil
 |(a,none)::c,h=>by
  have d:=dfs_row h.2.2
  have i:∀x,rk ((a,none)::c) (some x)=rk c (some x):=λx=>by rw[xAdr,qB (λz=>by cases z)]
  rw[xAdr,qF rfl];refine .cons ?_;rw[i a,xApt h.2.2 h.1];exact xAev d λx _=>i x
 |(a,some b)::c,h=>by
  have d:=dfs_row h.2.2;have e:a≠b:=λz=>h.1 (z▸h.2.1 b rfl);rw[xAdr,qB (λz=>by cases z)];refine xAis (f:=rk c) (g:=rk ((a,some b)::c)) ?_ ?_ ?_ d (xAod h.2.2)
  ·intro x j
   rw[xAdr,qB (λz=>j (qK z).symm)]
  ·rw[xAdr,qF rfl]
  ·rw[xAdr,qB (λz=>e (qK z).symm),xApt h.2.2 h.1]
def Dfs.nil_inv{out:List Nat}(d:Dfs f [] out):out=[]:=by cases d;rfl
def Dfs.cons_inv{st out:List Nat}(d:Dfs f (x::st) out):∃a,out=x::a/\Dfs f (f (some x)++st) a:=by
 cases d with
 |cons d=>exact⟨_,O,d⟩
def eq_by{R:Nat->Nat->Bool}:∀{xs ys:List Nat},xs.Perm ys->(xs.Pairwise λa b=>R b a=false)->(ys.Pairwise λa b=>R a b=true)->xs=ys
 |[],ys,p,_,_=>(List.nil_perm.mp p).symm
 |x::xs,[],p,_,_=>absurd p.length_eq (by simp)
 |x::xs,y::ys,p,hx,hy=>by
  by_cases e:x=y
  ·subst e
   rw[eq_by ((List.perm_cons x).mp p) (jb.mp hx).2 (jb.mp hy).2]
  ·have h1:y∈xs:=by
    rcases qz.mp (p.mem_iff.mpr qp) with z|z
    ·exact absurd z.symm e
    ·exact z
   have h2:x∈ys:=by
    rcases qz.mp (p.mem_iff.mp qp) with z|z
    ·exact absurd z e
    ·exact z
   have a1:=(jb.mp hx).1 y h1;have a2:=(jb.mp hy).1 x h2;rw[a2]at a1;cases a1
end Rga
namespace L2
open PySem PySem.Spec PySem.W PyProof.Rows
def xAuc{D:Nat->PyData}{js ms ix:List Nat}(g:js.Perm ms)(f:ms.Pairwise λa b=>ltD (D a) (D b)=true)(h:SortIx (js.map D) ix):(ix.map λi=>js.getD i 0)=ms:=by
 have d:ix.Perm (List.range js.length):=by have:=h.1;rwa [qf]at this
 refine Rga.eq_by (R:=λa b=>ltD (D a) (D b)) ((xAub d).trans g) ?_ f;have h2:=h.2;rw[jx]at h2 ⊢;refine h2.imp_of_mem λ{a b} j k c=>?_
 have e:∀i,i∈ix->keyAt (js.map D) i=D (js.getD i 0):=λi hi=>by
  have:i<js.length:=qw.mp (d.mem_iff.mp hi);unfold keyAt;rw[zf,qv,zf,qg this];rfl
 rw[e a j,e b k]at c;exact c
def Tups(H H':Hp):Prop:=∀b xs,H b=some (.tup xs)->H' b=some (.tup xs)
section
variable {H H1 H':Hp}
def Same.tups(s:Same H H'):Tups H H':=λb xs e=>s b _ e
def Tups.trans(a:Tups H H1)(b:Tups H1 H'):Tups H H':=λc xs e=>b c xs (a c xs e)
def Tups.refl(H:Hp):Tups H H:=λ_ _ e=>e
def Tups.wr(e:H a=some o)(c:∀ys,o≠.tup ys):Tups H (upd H a o'):=λb xs q=>by rw[xAae (xAtl q e c)];exact q
def Tups.wl(e:H a=some (.lst xs)):Tups H (upd H a o'):=Tups.wr e λys z=>by cases z
def Tups.wd(e:H a=some (.dG kvs)):Tups H (upd H a o'):=Tups.wr e λys z=>by cases z
mutual
def DT.tups(t:Tups H H'):∀{x:V} {d:PyData},DT H x d->DT H' x d
 |_,_,.non=>.non
 |_,_,.bl b=>.bl b
 |_,_,.int i=>.int i
 |_,_,.str z=>.str z
 |_,_,.tup e h=>.tup (t _ _ e) (DTs.tups t h)
def DTs.tups(t:Tups H H'):∀{x:List V} {d:List PyData},DTs H x d->DTs H' x d
 |_,_,.nil=>.nil
 |_,_,.cons a b=>.cons (DT.tups t a) (DTs.tups t b)
end
def GK.tups(g:GK H k v)(t:Tups H H'):GK H' k v:=g.stay t
end
def AN(P:V->Nat->Prop)(vs:List V)(js:List Nat):Prop:=vs.length=js.length/\∀(m:Nat) v i,vs[m]?=some v->js[m]?=some i->P v i
section
variable {P P':V->Nat->Prop}{vs us:List V}{js ks:List Nat}
def AN.imp(h:AN P vs js)(f:∀v i,P v i->P' v i):AN P' vs js:=⟨h.1,λm v i a b=>f _ _ (h.2 m v i a b)⟩
def AN.nil:AN P [] []:=⟨O,λm v i z=>by cases z⟩
def AN.app(h:AN P vs js)(g:AN P us ks):AN P (vs++us) (js++ks):=by
 refine⟨by rw[qe,qe,h.1,g.1],λm v i a b=>?_⟩
 by_cases c:m<vs.length
 ·rw[wc c]at a
  rw[wc (by rw[←h.1];exact c)]at b;exact h.2 m v i a b
 ·rw[yn (by omega)]at a
  rw[yn (by rw[←h.1];omega),←h.1]at b;exact g.2 _ v i a b
def AN.one(h:P v i):AN P [v] [i]:=⟨O,λm d c a b=>by
 cases m with
 |zero=>cases a;cases b;exact h
 |succ m=>cases a⟩
def AN.snoc(h:AN P vs js)(a:P v i):AN P (vs++[v]) (js++[i]):=h.app (.one a)
def AN.ix(h:AN P vs js)(ix:List Nat)(d:∀i∈ix,i<vs.length):AN P (ix.map λi=>vs.getD i .non) (ix.map λi=>js.getD i 0):=by
 refine⟨by rw[qf,qf],λm v i a c=>?_⟩;rw[qv]at a c
 cases e:ix[m]? with
 |none=>rw[e]at a;cases a
 |some k =>
  rw[e]at a c;have f:=d k (qh e)
  have b:k<js.length:=by rw[←h.1];exact f
  refine h.2 k v i ?_ ?_
  ·rw[←qK a,qg f]
   show some vs[k]=some (vs.getD k .non);rw[zf,qg f];rfl
  ·rw[←qK c,qg b]
   show some js[k]=some (js.getD k 0);rw[zf,qg b];rfl
def AN.at{m:Nat}{v:V}(h:AN P vs js)(e:vs[m]?=some v):∃i,js[m]?=some i/\P v i:=by
 have a:m<js.length:=by rw[←h.1];exact(qm.mp e).1
 exact⟨js[m],qg a,h.2 m v _ e (qg a)⟩
def AN.last(h:AN P vs (js++[i])):∃us x,vs=us++[x]/\AN P us js/\P x i:=by
 have a:=h.1;rw[qe,qo]at a;rcases yo vs with z|⟨us,x,z⟩
 ·rw[z]at a;exact absurd a (by simp)
 ·rw[jc]at z
  subst z
  have d:us.length=js.length:=by rw[qe,qo]at a;omega
  refine⟨us,x,O,⟨d,λm v i c b=>h.2 m v i ?_ ?_⟩,h.2 us.length x i (by simp) (by rw[d];simp)⟩
  ·rw[wc (qm.mp c).1];exact c
  ·rw[wc (qm.mp b).1];exact b
end
def kd(nk:Nat->List Key):Option Nat->KD
 |none=>.non
 |some i=>.tup (nk i)
def NM(nk:Nat->List Key)(H:Hp)(v:V)(i:Nat):Prop:=GK H (.tup (nk i)) v
def PL(nk:Nat->List Key)(bh:Nat->Option Nat)(D:Nat->PyData)(H:Hp)(v:V)(k:Nat):Prop:=∃b vn a vk,v=.ref b/\H b=some (.tup [vn,a,vk])/\NM nk H vn k/\GK H (kd nk (bh k)) a/\DT H vk (D k)
section
variable {nk:Nat->List Key}{bh:Nat->Option Nat}{D:Nat->PyData}{H H' H0:Hp}{v:V}{k:Nat}
def NM.tups(h:NM nk H v k)(t:Tups H H'):NM nk H' v k:=GK.tups h t
def PL.tups(h:PL nk bh D H v k)(t:Tups H H'):PL nk bh D H' v k:=by
 obtain⟨b,vn,a,vk,e,h1,h2,c,d⟩:=h;exact⟨b,vn,a,vk,e,t _ _ h1,h2.tups t,c.tups t,d.tups t⟩
structure PLW(nk:Nat->List Key)(bh:Nat->Option Nat)(D:Nat->PyData)(ms:List Nat)(t:Nat):Prop where
 few:ms.length≤2000
 up:ms.Pairwise λa b=>ltD (D a) (D b)=true
 inj:∀i∈ms,∀j∈ms,nk i=nk j->i=j
 wf:Rga.WF (ms.reverse.map λk=>(k,bh k))
 keys:KeysAre (ms.map D) t
def kids(bh:Nat->Option Nat)(ms:List Nat)(k:Option Nat):List Nat:=ms.filter λm=>decide (bh m=k)
def xAit(bh:Nat->Option Nat)(ms:List Nat)(m:Nat)(k:Option Nat):kids bh (ms++[m]) k=if bh m=k then kids bh ms k++[m] else kids bh ms k:=by
 unfold kids;rw[yq]
 by_cases e:bh m=k
 ·rw[qF e,List.filter_cons_of_pos (by simpa using e)];rfl
 ·rw[qB e,List.filter_cons_of_neg (by simpa using e),List.filter_nil,List.append_nil]
def xApu(bh:Nat->Option Nat)(ms:List Nat)(k:Option Nat):Rga.rk (ms.reverse.map λm=>(m,bh m)) k=(kids bh ms k).reverse:=by
 unfold Rga.rk kids;rw[List.filter_map,wx,←kh];show List.map (λx=>x) _=_;rw[List.map_id'];rfl
structure FD(nk:Nat->List Key)(bh:Nat->Option Nat)(all ms:List Nat)(H0 H:Hp)(dq:Addr)(kvs:List (KD×V×V)):Prop where
 has:H dq=some (.dG kvs)
 new:H0 dq=none
 each:∀k:Option Nat,(∀i,k=some i->i∈all)->(vG kvs (kd nk k)=none/\kids bh ms k=[])\/∃q vs,vG kvs (kd nk k)=some (.ref q)/\H q=some (.lst vs)/\AN (NM nk H) vs (kids bh ms k)/\H0 q=none
 inj:∀k k' q,vG kvs k=some (.ref q)->vG kvs k'=some (.ref q)->k=k'
 live:∀k q,vG kvs k=some (.ref q)->∃xs,H q=some (.lst xs)
def FD.same{all ms:List Nat}(h:FD nk bh all ms H0 H dq kvs)(s:Same H H'):FD nk bh all ms H0 H' dq kvs where
 has:=s _ _ h.has
 new:=h.new
 each:=λk a=>by
  rcases h.each k a with z|⟨q,vs,h1,h2,h3,h4⟩
  ·exact .inl z
  ·exact .inr ⟨q,vs,h1,s _ _ h2,h3.imp λv i g=>g.tups s.tups,h4⟩
 inj:=h.inj
 live:=λk q e=>let⟨xs,z⟩:=h.live k q e;⟨xs,s _ _ z⟩
def xAud{all:List Nat}(hi:∀i∈all,∀j∈all,nk i=nk j->i=j){k a:Option Nat}(h1:∀i,k=some i->i∈all)(h2:∀i,a=some i->i∈all)(e:kd nk k=kd nk a):k=a:=by
 cases k with
 |none=>cases a with
  |none=>rfl
  |some j=>cases e
 |some i=>cases a with
  |none=>cases e
  |some j=>rw[hi i (h1 i rfl) j (h2 j rfl) (KD.tup.inj e)]
def FD.old{all ms:List Nat}{dq q:Addr}{kvs:List (KD×V×V)}{m:Nat}{vn:V}{vs:List V}(h:FD nk bh all ms H0 H dq kvs)(hi:∀i∈all,∀j∈all,nk i=nk j->i=j)(r:∀i,bh m=some i->i∈all)(e:vG kvs (kd nk (bh m))=some (.ref q))(eq:H q=some (.lst vs))(o:NM nk H vn m):FD nk bh all (ms++[m]) H0 (upd H q (.lst (vs++[vn]))) dq kvs where
 has:=by rw[xAae (λz=>by rw[←z,h.has]at eq;cases eq)];exact h.has
 new:=h.new
 inj:=h.inj
 live:=λk a p=>by
  by_cases z:a=q
  ·subst z;exact⟨_,xAab⟩
  ·obtain⟨xs,y⟩:=h.live k a p
   exact⟨xs,by rw[xAae z];exact y⟩
 each:=λk d=>by
  have n:Tups H (upd H q (.lst (vs++[vn]))):=Tups.wl eq;rw[xAit]
  by_cases c:bh m=k
  ·subst c
   rw[qF rfl];rcases h.each _ d with⟨z,_⟩|⟨a,b,h1,h2,l,f⟩
   ·rw[z]at e;cases e
   ·rw[e]at h1
    cases h1;rw[eq]at h2;cases h2;exact .inr ⟨q,_,e,xAab,(l.snoc o).imp λv i g=>g.tups n,f⟩
  ·rw[qB c]
   rcases h.each k d with z|⟨a,b,h1,h2,l,f⟩
   ·exact .inl z
   ·refine .inr ⟨a,b,h1,?_,l.imp λv i g=>g.tups n,f⟩
    have nq:a≠q:=λz=>c (xAud hi r d (h.inj _ _ q e (by rw[←z];exact h1)))
    rw[xAae nq];exact h2
def FD.first{all ms:List Nat}{dq q:Addr}{kvs:List (KD×V×V)}{m:Nat}{vn vk:V}(h:FD nk bh all ms H0 H dq kvs)(hi:∀i∈all,∀j∈all,nk i=nk j->i=j)(B:∀i,bh m=some i->i∈all)(e:vG kvs (kd nk (bh m))=none)(t:H0 q=none)(eq:H q=some (.lst []))(b:∀k,vG kvs k≠some (.ref q))(w:NM nk H vn m):FD nk bh all (ms++[m]) H0 (upd (upd H dq (.dG (pG kvs (kd nk (bh m)) vk (.ref q)))) q (.lst [vn])) dq (pG kvs (kd nk (bh m)) vk (.ref q)) where
 has:=by rw[xAae (λz=>by rw[←z,h.has]at eq;cases eq),xAab]
 new:=h.new
 inj:=λk o a h1 h2=>by
  rw[xAbx]at h1 h2
  by_cases n:k=kd nk (bh m)
  ·by_cases f:o=kd nk (bh m)
   ·rw[n,f]
   ·rw[qF n]at h1
    rw[qB f]at h2;cases h1;exact absurd h2 (b o)
  ·rw[qB n]at h1
   by_cases f:o=kd nk (bh m)
   ·rw[qF f]at h2
    cases h2;exact absurd h1 (b k)
   ·rw[qB f]at h2
    exact h.inj _ _ _ h1 h2
 live:=λk a l=>by
  by_cases z:a=q
  ·subst z;exact⟨_,xAab⟩
  ·rw[xAbx]at l
   by_cases c:k=kd nk (bh m)
   ·rw[qF c]at l
    cases l;exact absurd rfl z
   ·rw[qB c]at l
    obtain⟨xs,y⟩:=h.live k a l
    have s:a≠dq:=λz=>by rw[z,h.has]at y;cases y
    exact⟨xs,by rw[xAae z,xAae s];exact y⟩
 each:=λk r=>by
  have nq:q≠dq:=λz=>by rw[z,h.has]at eq;cases eq
  have x:Tups H (upd H dq (.dG (pG kvs (kd nk (bh m)) vk (.ref q)))):=Tups.wd h.has
  have p:(upd H dq (.dG (pG kvs (kd nk (bh m)) vk (.ref q)))) q=some (.lst []):=by rw[xAae nq];exact eq
  have u:=x.trans (Tups.wl (o':=.lst [vn]) p);rw[xAit,xAbx]
  by_cases c:bh m=k
  ·subst c
   rw[qF rfl,qF rfl];rcases h.each _ r with⟨_,z⟩|⟨a,d,h1,_⟩
   ·rw[z]
    exact .inr ⟨q,[vn],O,xAab,.one (w.tups u),t⟩
   ·rw[e]at h1;cases h1
  ·rw[qB c,qB (λz=>c (xAud hi B r z.symm))]
   rcases h.each k r with z|⟨a,d,h1,h2,h3,h4⟩
   ·exact .inl z
   ·refine .inr ⟨a,d,h1,?_,h3.imp λv i g=>g.tups u,h4⟩
    have A:a≠q:=λz=>b _ (z▸h1)
    have s:a≠dq:=λz=>by rw[z,h.has]at h2;cases h2
    rw[xAae A,xAae s];exact h2
def FD.get{all ms:List Nat}(h:FD nk bh all ms H0 H dq kvs)(c:H z=some (.lst []))(k:Option Nat)(b:∀i,k=some i->i∈all):∃a vs,(vG kvs (kd nk k)).getD (.ref z)=.ref a/\H a=some (.lst vs)/\AN (NM nk H) vs (kids bh ms k):=by
 rcases h.each k b with⟨h1,h2⟩|⟨q,vs,h1,h2,d,_⟩
 ·exact⟨z,[],by rw[h1];rfl,c,by rw[h2];exact .nil⟩
 ·exact⟨q,vs,by rw[h1];rfl,h2,d⟩
end
end L2
namespace Rga
def wf_in:∀{a:List Pl},WF a->∀{k b:Nat},(k,some b)∈a->b∈nms a
 |p::a,h,k,b,hm=>by
  rcases qz.mp hm with z|z
  ·exact qu _ (h.2.1 b (by rw[←z]))
  ·exact qu _ (wf_in h.2.2 z)
def dfs_len:∀{st out:List Nat},Dfs f st out->st.length≤out.length
 |_,_,.nil=>qb _
 |_,_,.cons (x:=x) d=>by
  have:=dfs_len d;rw[qe]at this;rw[qx,qx];omega
def qsOf(bh:Nat->Option Nat)(ms:List Nat):List Pl:=ms.reverse.map λk=>(k,bh k)
def nms_qs(bh:Nat->Option Nat)(ms:List Nat):nms (qsOf bh ms)=ms.reverse:=by
 unfold nms qsOf;rw[wx];show List.map (λx=>x) _=_;rw[List.map_id']
def qs_mem(h:m∈ms):(m,bh m)∈qsOf bh ms:=qj.mpr ⟨m,wu.mpr h,O⟩
def bh_in(w:WF (qsOf bh ms))(a:m∈ms)(e:bh m=some i):i∈ms:=by
 have:=wf_in w (k:=m) (b:=i) (by rw[←e];exact qs_mem a);rw[nms_qs]at this;exact wu.mp this
def row_mem(w:WF (qsOf bh ms))(h:x∈rowR (qsOf bh ms)):x∈ms:=by
 have:=(row_perm w).mem_iff.mp h;rw[nms_qs]at this;exact wu.mp this
def row_len(w:WF (qsOf bh ms)):(rowR (qsOf bh ms)).length=ms.length:=by
 rw[(row_perm w).length_eq,nms_qs,wb]
end Rga
namespace L2
open PySem PySem.Spec PySem.W PyProof.Rows
def del(H:Hp)(p:Addr):Hp:=λb=>if b=p then none else H b
def xAcg:del H p p=none:=qF rfl
def xAau(h:b≠p):del H p b=H b:=qB h
def xArg(h:H b=none):del H p b=none:=by
 by_cases e:b=p
 ·subst e;exact xAcg
 ·rw[xAau e];exact h
def xAco:Same (del H p) H:=λb u q=>by
 by_cases e:b=p
 ·subst e;rw[xAcg]at q;cases q
 ·rw[xAau e]at q;exact q
def Tups.cut(e:H p=some (.lst xs))(s:Same (del H p) H'):Tups H H':=λb ys q=>s _ _ (by rw[xAau (xAtl q e λzs z=>by cases z)];exact q)
end L2
namespace Rga
def wf_range:∀{n:Nat},(∀i,i<n->∀b,bh i=some b->b<i)->WF (qsOf bh (List.range n))
 | 0,_=>trivial
 |n+1,h=>by
  have e:qsOf bh (List.range (n+1))=(n,bh n)::qsOf bh (List.range n):=by
   unfold qsOf;rw[jd,jy];rfl
  rw[e];refine⟨?_,λb a=>?_,wf_range λi hi=>h i (by omega)⟩
  ·rw[nms_qs,wu,qw]
   exact zn n
  ·rw[nms_qs,wu,qw]
   exact h n (by omega) b a
end Rga
namespace L2
open PySem PySem.Spec PySem.W PyProof.Rows Rga
def xAds(h:x<y):ltDs (.int x::r) (.int y::a)=true:=by
 rw[ltDs,qB (λz=>by
  have:=(sk_eq _ _ rfl).mp z;injection this with this
  omega)]
 exact qI h
def xAew(h:ltDs r a=true):ltDs (.int x::r) (.int x::a)=true:=by
 rw[ltDs,qF ((sk_eq _ _ rfl).mpr rfl)];exact h
def RkD(d:PyData):Prop:=(∃a b:Int,d=.tuple [.int a,.int b])\/∃a b c:Int,d=.tuple [.int a,.int b,.int c]
def xAfu(h:∀d∈ds,RkD d):KeysAre ds 2:=by
 refine⟨xAcn λd a=>?_,λd a=>?_,λx b y c=>?_,λd a=>?_⟩
 ·rcases h d a with⟨_,_,rfl⟩|⟨_,_,_,rfl⟩ <;> rfl
 ·rcases h d a with⟨_,_,rfl⟩|⟨_,_,_,rfl⟩ <;> trivial
 ·rcases h x b with⟨_,_,rfl⟩|⟨_,_,_,rfl⟩ <;> rcases h y c with⟨_,_,rfl⟩|⟨_,_,_,rfl⟩ <;> rfl
 ·rcases h d a with⟨_,_,rfl⟩|⟨_,_,_,rfl⟩ <;> exact(by decide:1≤60)
end L2
namespace L2
open PySem PySem.Spec PySem.W PyProof.Rows
def GtAt(A:Around)(s:Shared)(x y:Value)(b:Bool):Prop:=∀(prog:Program) (w:World) (E:Value->Shared->Prop) (Q:Value->Shared->Prop),Q (.bool b) s->wpAny (model prog w) A (richCompare .Gt x y) Q E s
open SeqAt in
def xAma(l b:Addr)(us vs:Array Value)(n u:Nat)(B o:Option Addr)(I r:Array (Option Value))(e:Nat->Bool)(c:Bool) :
  Meets (Builtin.«tuple.__gt__» ⟨[.ref l,.ref b],[]⟩)
   (λA R s=>s.heap.get? l=some { cls:=.type "tuple",dict:=B,data:=.seq us n,slots:=I }/\s.heap.get? b=some { cls:=.type "tuple",dict:=o,data:=.seq vs u,slots:=r } ∧
    (∀j (h1:j<us.size) (h2:j<vs.size),EqAt A.in1 s us[j] vs[j] (e j)) ∧
    (∀i (h1:i<us.size) (h2:i<vs.size),(∀j,j<i->e j=true)->e i=false->GtAt A.in1 s us[i] vs[i] c) ∧
    ((∀j,j<min us.size vs.size->e j=true)->c=decide (vs.size<us.size))/\R (.ok (.ret (.bool c))) s) :=
 .of_wp λprog w A R s h=>by
  obtain⟨F,g,d,tk,H⟩:=s;obtain⟨D,E,G,t,f,h⟩:=h;have K:=AutoSeq1.sub_tuple_tuple
  have L:(us.toList.zip vs.toList).length=min us.size vs.size:=by simp
  wp_walk using wpAny_loadPart' D,wpAny_loadPart' E,wpAny_forIn_list _ (λrest b s'=>b.1=none/\s'=⟨F,g,d,tk,H⟩/\∃i,rest=(us.toList.zip vs.toList).drop i/\∀j,j<i->e j=true) _
  case turn =>
   rintro⟨y,x⟩ rest b s' ⟨a,rfl,i,hz,hi⟩
   have k:i<(us.toList.zip vs.toList).length:=by
    rcases yc i (us.toList.zip vs.toList).length with h' |h'
    ·exact h'
    ·rw[gh h']at hz;cases hz
   have h1:i<us.size:=by omega
   have h2:i<vs.size:=by omega
   rw[yz k]at hz;injection hz with hyx hrest
   have m:y=us[i]:=by have:=congrArg Prod.fst hyx;simpa using this
   have C:x=vs[i]:=by have:=congrArg Prod.snd hyx;simpa using this
   subst m C;refine qA (G i h1 h2 prog w _ _ ?_)
   cases m:e i with
   |true =>
    wp_walk
    exact⟨O,O,i+1,hrest,λj p=>by
     by_cases z:j=i
     ·rw[z];exact m
     ·exact hi j (by omega)⟩
   |false =>
    have q:=t i h1 h2 hi m;dsimp only;rw[qF (by rfl)];refine qA (wpAny_rule (qA (q prog w _ _ ?_)));exact qA (qE (qE (qE ⟨_,O,h⟩)))
  case fin =>
   rintro⟨M,J⟩ s' ⟨a,rfl,i,hz,hi⟩
   simp only at a
   subst a
   have v:min us.size vs.size≤i:=by
    rcases yc i (us.toList.zip vs.toList).length with h' |h'
    ·rw[yz h']at hz;cases hz
    ·omega
   have:=f λj p=>hi j (by omega)
   wp_walk
   exact⟨_,O,by rw[this]at h;simpa[Builtin.Tuple.tupleCompareSizes] using h⟩
  case h =>
   exact⟨O,O,0,O,λj p=>absurd p (zw _)⟩
def GtAt.tuples{A:Around}{s:Shared}{l b:Addr}{us vs:Array Value}{e:Nat->Bool}{c:Bool}(z:s.heap.IsTuple l us)(B:s.heap.IsTuple b vs)(D:A.units<cLine)(C:∀j (h1:j<us.size) (h2:j<vs.size),SeqAt.EqAt A.in1 s us[j] vs[j] (e j))(p:∀i (h1:i<us.size) (h2:i<vs.size),(∀j,j<i->e j=true)->e i=false->GtAt A.in1 s us[i] vs[i] c)(f:(∀j,j<min us.size vs.size->e j=true)->c=decide (vs.size<us.size)):GtAt A s (.ref l) (.ref b) c:=λprog w E Q h=>by
 obtain⟨⟨G,y,data,H⟩,q,u,n,r⟩:=id z;obtain⟨⟨t,k,o,m⟩,g,a,v,d⟩:=id B
 simp only at u r a d
 subst u r a d
 exact richCompare_meets_room (op:=.Gt) ⟨_,q,O⟩ ⟨_,g,O⟩ F.slot_tuple_gt F.entry_tuple_gt (F.args_tuple_gt_2 _ _) (xAma l b us vs n v y k H m e c)
  ⟨q,g,C,p,f,show Value.bool c≠Value.notImplemented/\Q (.bool c) s from⟨(λx=>nomatch x),h⟩⟩ D
def GtAt.ints(i j:Int)(t u:Tok):GtAt A s (.int i t) (.int j u) (decide (j<i)):=λprog w E Q h =>
 richCompare_gives (op:=.Gt) (typeIs_int s _ t) (typeIs_int s _ u) F.slot_int_gt F.entry_int_gt (F.args_int_gt_2 _ _) (gives_int_gt _ _ t u) (λx=>nomatch x) h
def xAmb{ns:List Int}{i:Nat}(h:i<(ns.map PyData.int).length):∃k,(ns.map PyData.int).getD i .none=.int k:=by
 rw[qf]at h;exact⟨ns[i],by rw[zf,qv,qg h];rfl⟩
def xAgx:∀ns:List Int,PyData.canLayAll0 (ns.map PyData.int)=true
 |[]=>rfl
 |n::ns=>by
  show(true&&PyData.canLayAll0 (ns.map PyData.int))=true;rw[xAgx ns];rfl
def xAiu:∀ns:List Int,PyData.depthAll (ns.map PyData.int)=0
 |[]=>rfl
 |n::ns=>by
  show max 0 (PyData.depthAll (ns.map PyData.int))=0;rw[xAiu ns];rfl
def xAiv:∀ns ms:List Int,sks (ns.map PyData.int) (ms.map PyData.int)=true
 |[],_=>rfl
 |_::_,[]=>rfl
 |n::ns,m::ms=>by
  show(true&&sks (ns.map PyData.int) (ms.map PyData.int))=true;rw[xAiv ns ms];rfl
open SeqAt in
def xAjo:∀(ns ms:List Int) (j:Nat),pairEq (ns.map PyData.int) (ms.map PyData.int) j=pairEq (ms.map PyData.int) (ns.map PyData.int) j:=λns ms j=>by
 unfold pairEq
 have sd:∀a b:PyData,(∃x,a=.int x)\/a=.none->(∃x,b=.int x)\/b=.none->PyData.eqv a b=PyData.eqv b a:=λa b d f=>by
  rcases d with⟨x,rfl⟩|rfl <;> rcases f with⟨y,rfl⟩|rfl
  ·by_cases e:x=y
   ·rw[e]
   ·have h1:PyData.eqv (.int x) (.int y)=false:=by
     cases q:PyData.eqv (.int x) (.int y) with
     |false=>rfl
     |true=>have:=(sk_eq _ _ rfl).mp q;injection this with this;exact absurd this e
    have h2:PyData.eqv (.int y) (.int x)=false:=by
     cases q:PyData.eqv (.int y) (.int x) with
     |false=>rfl
     |true=>have:=(sk_eq _ _ rfl).mp q;injection this with this;exact absurd this.symm e
    rw[h1,h2]
  ·rfl
  ·rfl
  ·rfl
 have c:∀l:List Int,(∃x,(l.map PyData.int).getD j .none=.int x)\/(l.map PyData.int).getD j .none=.none:=λl=>by
  by_cases h:j<(l.map PyData.int).length
  ·exact .inl (xAmb h)
  ·exact .inr (by rw[zf,jz (by omega)];rfl)
 exact sd _ _ (c ns) (c ms)
open SeqAt in
def xArh{A:Around}{s:Shared}{a b:Value}{as bs:List Addr}{ns ms:List Int}(B:Reads s.heap a (.tuple (ns.map PyData.int)) as)(z:Reads s.heap b (.tuple (ms.map PyData.int)) bs)(G:A.units+2<cLine) :
  GtAt A s a b (ltD (.tuple (ms.map PyData.int)) (.tuple (ns.map PyData.int))):=by
 cases B with
 |tuple h1 h2 u p =>
  cases z with
  |tuple t E D k =>
   rename_i l o us m H o' vs I
   have r:=ReadsAll.length _ _ _ p;have q:=ReadsAll.length _ _ _ k;rw[ze]at r q;rw[ltD]
   have g:∀j (f:j<us.size) (e:j<vs.size),EqAt A.in1 s us[j] vs[j] (pairEq (ms.map PyData.int) (ns.map PyData.int) j):=λj f e=>by
    obtain⟨C,d⟩:=xAbj (i:=j) (by rw[ze];exact f) p;obtain⟨p2,c⟩:=xAbj (i:=j) (by rw[ze];exact e) k;have F:=xAet (ns.map PyData.int) j (by omega);rw[xAiu]at F;have:=eqAt_reads ((ns.map PyData.int).getD j .none) ((ms.map PyData.int).getD j .none) A.in1 s _ _ _ _ d c (xAef (xAgx ns) (by omega)) (xAef (xAgx ms) (by omega)) (by show A.units+1+_<cLine;omega)
    simp only[Array.getElem_toList]at this
    rw[←xAjo];exact this
   refine GtAt.tuples ⟨_,h1,h2,_,u⟩ ⟨_,t,E,_,D⟩ (by omega) g (λi f e n v=>?_) λn=>?_
   ·obtain⟨C,d⟩:=xAbj (i:=i) (by rw[ze];exact f) p
    obtain⟨p2,c⟩:=xAbj (i:=i) (by rw[ze];exact e) k;rw[xAlh _ _ i (by omega) (by omega) n v];obtain⟨x,ex⟩:=xAmb (ns:=ns) (i:=i) (by omega);obtain⟨y,w⟩:=xAmb (ns:=ms) (i:=i) (by omega);rw[ex]at d ⊢;rw[w]at c ⊢
    simp only[Array.getElem_toList]at d c
    generalize us[i]=u0 at d ⊢;generalize vs[i]=v0 at c ⊢;cases d;cases c;exact GtAt.ints _ _ _ _
   ·rw[xAgs _ _ λj h=>n j (by omega),r,q]
def codO(c:Addr)(q:Str):HO:=.ext λh=>h.CodeRec (.ref c) q
def Tb(a cl:Nat)(q:Str)(P:Addr)(H:Hp):Prop:=H P=some (.tbl #[])\/∃c,H P=some (.tbl #[rawInt a,rawInt cl,.ref c])/\H c=some (codO c q)
def Tb.same{a cl:Nat}(t:Tb a cl q P H)(s:Same H H'):Tb a cl q P H':=by
 rcases t with t|⟨c,t,u⟩
 ·exact .inl (s _ _ t)
 ·exact .inr ⟨c,s _ _ t,s _ _ u⟩
def Tb.tbl{a cl:Nat}(t:Tb a cl q P H):∃ps,H P=some (.tbl ps):=by
 rcases t with t|⟨c,t,u⟩
 ·exact⟨_,t⟩
 ·exact⟨_,t⟩
def Tb.keep{a cl:Nat}(t:Tb a cl q P H)(k:∀b u,H b=some u->((∃ps,u=.tbl ps)\/∃d,u=.ext d)->H' b=some u):Tb a cl q P H':=by
 rcases t with t|⟨c,t,u⟩
 ·exact .inl (k _ _ t (.inl ⟨_,O⟩))
 ·exact .inr ⟨c,k _ _ t (.inl ⟨_,O⟩),k _ _ u (.inr ⟨_,O⟩)⟩
def Tb.cut{f cl:Nat}(t:Tb f cl q P H)(e:H a=some o)(h1:∀ps,o≠.tbl ps)(h2:∀d,o≠.ext d)(s:Same (del H a) H'):Tb f cl q P H' :=
 t.keep λb u c g=>s _ _ (by
  rw[xAau (λz=>?_)]
  ·exact c
  ·subst z
   rw[e]at c;cases c;rcases g with⟨ps,z⟩|⟨d,z⟩
   ·exact h1 _ z
   ·exact h2 _ z)
def Tb.wr{c cl:Nat}(t:Tb c cl q P H)(e:H a=some o)(h1:∀ps,o≠.tbl ps)(h2:∀d,o≠.ext d):Tb c cl q P (upd H a o') :=
 t.cut e h1 h2 λb u q=>by
  by_cases z:b=a
  ·subst z;rw[xAcg]at q;cases q
  ·rw[xAau z]at q
   rw[xAae z];exact q
def xAue(r:h.CodeRec (.ref c) q):ObjOk P w H h c (codO c q):=by
 have st:∀h1 h2:Heap,h1.CodeRec (.ref c) q->(∀o,h1.get? c=some o->h2.get? c=some o)->h2.CodeRec (.ref c) q:=by
  rintro h1 h2 ⟨d,f,vs,b,e,a,r⟩ k;cases e;exact⟨_,_,_,_,O,k _ a,r⟩
 obtain⟨d,f,vs,b,e,a,g⟩:=id r;cases e;exact⟨r,⟨_,a⟩,st⟩
def tabP(K:PySem.W.Frag)(x:Str):Addr:=match tabIn K x with
 |some (_,P)=>P
 |none=>0
def tabC(K:PySem.W.Frag)(x:Str):Addr:=match tabIn K x with
 |some (c,_)=>c
 |none=>0
section
variable {X:Cx}{pins:List (Addr×Obj)}{σ:St}{H:Hp}{s:Shared}
def Inv.nstk(I:Inv X pins σ H s){b:Addr}(a:s.heap.objs.size≤b):b∉frs X.stack:=λc=>by
 rcases qz.mp (I.stkSub b c) with z|z
 ·exact absurd (qq I.lt a) (by rw[z];exact zn _)
 ·exact I.nofs a z
def Inv.tabbed{P c:Addr}{q:Str}{h':Heap}{tk:Nat}{more:Array Value}(I:Inv X pins σ H s)(f:H P=some (.tbl #[]))(k:∀b o,b≠P->s.heap.get? b=some o->h'.get? b=some o)(m:s.heap.objs.size≤c)(x:h'.CodeRec (.ref c) q)(t:h'.get? P=some (tabObj more)) :
  Inv X pins σ (upd (upd H P (.tbl more)) c (codO c q)) { s with heap:=h',toks:=tk }:=by
 have p:H c=none:=I.hok.fresh m;have B:P<s.heap.objs.size:=I.hok.lt f;have r:P≠c:=qi (qq B m)
 have a:∀b,b≠P->b≠c->(upd (upd H P (.tbl more)) c (codO c q)) b=H b:=λb h1 h2=>by rw[xAae h2,xAae h1]
 have j:∀{b u},H b=some u->(∀ps,u≠.tbl ps)->b≠P/\b≠c:=λ{b u} e A=>⟨λz=>by
  subst z;rw[e]at f
  exact A _ (qK f),λz=>by
  subst z;rw[e]at p
  cases p⟩
 refine I.un ⟨λb o e n _ _=>k b o (λz=>by subst z;rw[n]at f;cases f) e,λb o e n _ _=>⟨o.slots,k b o (λz=>by subst z;rw[n]at f;cases f) e⟩,λb o e n _=>?_,λb o e _=>?_,λb xs e=>?_,λb o u e=>?_,λb ps e=>?_,λb o xs e n=>k b o (j n λps z=>by cases z).1 e⟩ λb u e=>?_
 ·rw[a b (λz=>by subst z;rw[n]at f;cases f) (qi (qq (qG e) m))];exact n
 ·by_cases z:b=P
  ·subst z;exact⟨_,t⟩
  ·exact⟨o,k b o z e⟩
 ·obtain⟨i,h⟩:=j e λps z=>by cases z
  rw[a b i h];exact e
 ·obtain⟨i,h⟩:=j e λps z=>by cases z
  rw[a b i h];exact e
 ·by_cases z:b=P
  ·subst z
   rw[f]at e;cases e;exact⟨more,by rw[xAae r,xAab];simp⟩
  ·refine⟨#[],?_⟩
   rw[a b z (λy=>by subst y;rw[p]at e;cases e),e]
   simp
 ·by_cases w:b=c
  ·subst w
   rw[xAab]at e;cases e;exact xAue x
  ·rw[xAae w]at e
   by_cases z:b=P
   ·subst z
    rw[xAab]at e;cases e;exact t
   ·rw[xAae z]at e
    refine(I.hok b u e).stay (λd v l g=>k d v ?_ g) (λd g=>?_) λd xs g=>?_
    ·rcases l with l|l
     ·rw[l];exact z
     ·exact(j l λps y=>by cases y).1
    ·obtain⟨i,h⟩:=j g λps y=>by cases y
     rw[a d i h];exact g
    ·obtain⟨i,h⟩:=j g λps y=>by cases y
     rw[a d i h];exact g
end
end L2
namespace Rga
def fpos{P:Nat->Bool}{p:Pl}{a:List Pl}(h:P p.1=true):(p::a).filter (λp=>P p.1)=p::a.filter λp=>P p.1:=j0 (p:=λp:Pl=>P p.1) h
def fneg{P:Nat->Bool}{p:Pl}{a:List Pl}(h:¬P p.1=true):(p::a).filter (λp=>P p.1)=a.filter λp=>P p.1:=j3 (p:=λp:Pl=>P p.1) h
def Clo(P:Nat->Bool)(a:List Pl):Prop:=∀k b,(k,some b)∈a->P k=true->P b=true
def Clo.tail(h:Clo P (p::a)):Clo P a:=λk b c=>h k b (qu _ c)
def xAfv{P:Nat->Bool}{b:List Pl}{x:Nat}:x∈nms (b.filter λp=>P p.1)↔x∈nms b/\P x=true:=by
 unfold nms;constructor
 ·intro h
  obtain⟨p,a,rfl⟩:=qj.mp h;have:=zo.mp a;exact⟨qj.mpr ⟨p,this.1,O⟩,this.2⟩
 ·rintro⟨h,c⟩
  obtain⟨p,a,rfl⟩:=qj.mp h;exact qj.mpr ⟨p,zo.mpr ⟨a,c⟩,O⟩
def wf_filter:∀{d:List Pl},WF d->Clo P d->WF (d.filter λp=>P p.1)
 |[],_,_=>trivial
 |(a,o)::d,h,c=>by
  have g:=wf_filter h.2.2 c.tail
  by_cases f:P a=true
  ·rw[fpos (p:=(a,o)) f]
   refine⟨λz=>h.1 (xAfv.mp z).1,λb i=>xAfv.mpr ⟨h.2.1 b i,?_⟩,g⟩;have e:o=some b:=i;subst e;exact c a b qp f
  ·rw[fneg (p:=(a,o)) f];exact g
def qs_filter(P:Nat->Bool)(bh:Nat->Option Nat)(ms:List Nat):qsOf bh (ms.filter P)=(qsOf bh ms).filter λp=>P p.1:=by
 unfold qsOf;rw[List.filter_map,←kh];rfl
def clo_qs(h:∀k∈ms,P k=true->∀b,bh k=some b->P b=true):Clo P (qsOf bh ms):=λk b f d=>by
 obtain⟨j,g,e⟩:=qj.mp f;have a:j=k:=congrArg Prod.fst e;have c:bh j=some b:=congrArg Prod.snd e;subst a;exact h _ (wu.mp g) d b c
end Rga
namespace L2
open PySem PySem.Spec PySem.W PyProof.Rows
def xAuf:∀{ds:List PyData},PyData.canLayAll0 ds=true->d∈ds->d.canLay0=true
 |e::ds,h,hm=>by
  have a:(e.canLay0&&PyData.canLayAll0 ds)=true:=h;rw[zb]at a;rcases qz.mp hm with rfl|hm
  ·exact a.1
  ·exact xAuf a.2 hm
def KeysAre.sub(h:KeysAre ds t)(p:∀x∈es,x∈ds):KeysAre es t :=
 ⟨xAcn λx e=>xAuf h.lay (p x e),λd c=>h.kind d (p d c),λa f b g=>h.one a (p a f) b (p b g),λd c=>h.deep d (p d c)⟩
def PLW.filter(W:PLW nk bh D ms t)(c:∀k∈ms,P k=true->∀b,bh k=some b->P b=true):PLW nk bh D (ms.filter P) t where
 few:=qc (wv _ _) W.few
 up:=W.up.filter _
 inj:=λi hi j a e=>W.inj i (zo.mp hi).1 j (zo.mp a).1 e
 wf:=by
  have:=Rga.wf_filter W.wf (Rga.clo_qs c);show Rga.WF (Rga.qsOf bh (ms.filter P));rw[Rga.qs_filter];exact this
 keys:=W.keys.sub λx d=>by
  obtain⟨i,hi,rfl⟩:=qj.mp d;exact qj.mpr ⟨i,(zo.mp hi).1,O⟩
def AN.pick:∀{vs:List V} {js:List Nat} {us:List V},AN P us (js.filter f)->∀{v:V} {i:Nat},P v i->f i=true->AN P (us++[v]) ((js++[i]).filter f):=λ{vs js us} h {v i} a hi=>by
 rw[yq,j0 hi];exact h.snoc a
def AN.skip(h:AN P us (js.filter f))(hi:¬f i=true):AN P us ((js++[i]).filter f):=by
 rw[yq,j3 hi,j4,vd];exact h
def PKs(nk:Nat->List Key)(G:V->Nat->Prop):List (KD×V×V)->List Nat->Prop
 |[],[]=>True
 |e::es,i::is=>(e.1=.tup (nk i)/\G e.2.2 i)/\PKs nk G es is
 |_,_=>False
def PKs.snoc(h1:e.1=.tup (nk i))(h2:G e.2.2 i):∀{kvs:List (KD×V×V)} {js:List Nat},PKs nk G kvs js->PKs nk G (kvs++[e]) (js++[i])
 |[],[],_=>⟨⟨h1,h2⟩,trivial⟩
 |[],_::_,h=>h.elim
 |_::_,[],h=>h.elim
 |_::_,_::_,h=>⟨h.1,PKs.snoc h1 h2 h.2⟩
def PKs.get{all:List Nat}(inj:∀i∈all,∀j∈all,nk i=nk j->i=j):∀{kvs:List (KD×V×V)} {js done:List Nat} {acc:List (KD×V×V)},PKs nk G kvs js->(∀i∈done,i∈all)->(∀i∈js,i∈all) →
  (∀i∈done,∃v,vG acc (.tup (nk i))=some v/\G v i)->∀i,i∈done\/i∈js->∃v,vG (putAll acc kvs) (.tup (nk i))=some v/\G v i
 |[],[],done,acc,_,_,_,h,i,hi=>by
  rcases hi with hi|hi
  ·exact h i hi
  ·cases hi
 |[],_::_,_,_,h,_,_,_,_,_=>h.elim
 |_::_,[],_,_,h,_,_,_,_,_=>h.elim
 |e::es,j::js,done,acc,h,hd,hj,ha,i,hi=>by
  have a:=hj j qp;refine PKs.get inj (done:=done++[j]) (acc:=pG acc e.1 e.2.1 e.2.2) h.2 (λk b=>?_) (λk b=>hj k (qu _ b)) (λk b=>?_) i ?_
  ·rcases zd.mp b with z|z
   ·exact hd k z
   ·rw[qt.mp z];exact a
  ·rw[xAbx,h.1.1]
   by_cases c:nk k=nk j
   ·rw[qF (by rw[c])]
    have d:k∈all:=by
     rcases zd.mp b with z|z
     ·exact hd k z
     ·rw[qt.mp z];exact a
    rw[inj k d j a c];exact⟨_,O,h.1.2⟩
   ·rw[qB (λz=>c (KD.tup.inj z))]
    rcases zd.mp b with z|z
    ·exact ha k z
    ·exact absurd (by rw[qt.mp z]) c
  ·rcases hi with z|z
   ·exact .inl (z8 _ z)
   ·rcases qz.mp z with rfl|z
    ·exact .inl (zu _ (qt.mpr rfl))
    ·exact .inr z
def PrsV.tups(t:Tups H H'):∀{ys:List V} {es:List (KD×V×V)},PrsV H ys es->PrsV H' ys es
 |[],[],_=>trivial
 |[],_::_,h=>h.elim
 |_::_,[],h=>h.elim
 |_::_,_::_,h=>⟨let⟨b,e,h1,h2⟩:=h.1;⟨b,e,t _ _ h1,h2.tups t⟩,PrsV.tups t h.2⟩
def PrsV.snoc(a:∃b,y=.ref b/\H b=some (.tup [e.2.1,e.2.2])/\GK H e.1 e.2.1):∀{ys:List V} {es:List (KD×V×V)},PrsV H ys es->PrsV H (ys++[y]) (es++[e])
 |[],[],_=>⟨a,trivial⟩
 |[],_::_,h=>h.elim
 |_::_,[],h=>h.elim
 |_::_,_::_,h=>⟨h.1,PrsV.snoc a h.2⟩
def tCut(t u:TS):TS:=λD σ H=>∃P:St->Hp->Prop,t { D with nx:=P } σ H/\∀σ' H',P σ' H'->u D σ' H'
def tPost(t:TT):TT:=λσ H Q=>∃P:Bool->Hp->Prop,t σ H P/\∀b H',P b H'->Q b H'
section
variable {X:Cx}{st:Stmt}{rest:List Stmt}{t u:TS}
def xAei(h1:PS X st t)(h2:PSs X rest u):PSs X (st::rest) (tCut t u):=by
 refine⟨?_⟩;intro pins s σ H D I h;obtain⟨P,h,k⟩:=h;refine wpAny_execs_cons (thn (h1 pins s σ H { D with nx:=P } I h) λf a q=>?_)
 cases f with
 |next =>
  obtain⟨σ',H',b,q⟩:=q;exact h2 pins a σ' H' D b (k σ' H' q)
 |ret v=>exact q
 |brk=>exact q
 |cont=>exact q
def xAfw{e:Expr}{t:TT}(h:PT X e t):PT X e (tPost t):=by
 refine⟨?_⟩;intro pins s σ H Q I q;obtain⟨P,h1,h2⟩:=q;exact thn (h pins s σ H P I h1) λb c ⟨H',a,q⟩=>⟨H',a,h2 _ _ q⟩
end
section
variable {prog:Program}{w:World}{A:Around}{E:Value->Shared->Prop}{s:Shared}
def xAgy(f:(d==sysModules)=false)(e:s.heap.get? d=some od)(g:od.ExactDict)(b:od.data=.dict es ep)(h:Q (.ref s.heap.objs.size) { s with heap:=s.heap.push { cls:=.type "dict_keyiterator",data:=.fields #[.ref d,.int 0 0,.int es.size 0,.int ep 0] } }):wpAny (model prog w) A (pyIter (.ref d)) Q E s:=by
 have c:s.TypeIs (.ref d) "dict":=⟨od,e,g.1⟩;refine wpAny_pyIter_slot c F.slot_dict_iter (qN F.slot_dict_iter c F.entry_dict_iter ?_ (F.args_dict_iter_1 _));unfold Builtin.«dict.__iter__» Builtin.Dict.dictSlotNone;refine qA (qA (wpAny_notOrdered_dict c ?_));refine qE (a:=Value.ref d) ?_;show wpAny _ _ (Builtin.Dict.showsAll d >>= _) _ _ s;unfold Builtin.Dict.showsAll;rw[qB (by rw[f];decide)];refine qA (qE (qA (wpAny_dictEntries e b (qA (wpAny_dictEpoch e b ?_)))));exact qA (wpAny_newObj_type (qE ⟨_,O,"dict_keyiterator",_,⟨_,qL _ rfl,O⟩,F.slot_dict_keyiterator_next.lookup,by simpa[rawInt] using h⟩))
def xAex(l:A.handled=none)(c:s.heap.IsKeyIter it d i n ep)(f:s.heap.get? d=some od)(g:od.data=.dict es ep)(hn:es.size=n)(h1:∀(hi:i<es.size) h',h'.IsKeyIter it d (i+1) n ep->Heap.SameBut it s.heap h'->Q (some es[i].key) { s with heap:=h' })(h2:es.size≤i->∀h',Heap.ExtBut it s.heap h'->Q none { s with heap:=h' }):wpAny (model prog w) A (pyNext (.ref it)) Q E s:=by
 obtain⟨o,k,p,j⟩:=id c;subst hn;unfold pyNext
 refine qA (wpAny_attempt (wpAny_callSpecial?_slot (name:=Str.ofString "__next__") c.typeIs F.slot_dict_keyiterator_next
  (qN F.slot_dict_keyiterator_next c.typeIs F.entry_dict_keyiterator_next ?_ (F.args_dict_keyiterator_next_1 _))))
 refine qA (qE (qA (qA ?_)))
 first|refine qA (wpAny_typeNameOfWhole_keyiter c.typeIs (qE ?_))|refine qA (wpAny_typeNameOf_keyiter c.typeIs (qE ?_))
 refine qA (wpAny_fieldsOf k j ?_)
 simp only[show Builtin.Dict_items.ownsTuple "dict_keyiterator"=false by decide,Bool.false_eq_true,if_false]
 show wpAny _ _ (if(Value.ref d==Value.none)=true then _ else _) _ _ s;rw[qB (show ¬((Value.ref d==Value.none)=true) from qk)];refine qA (qE (qA (wpAny_dictEntries f g ?_)));rw[qB (by simp)];refine qA (qE (qA (wpAny_dictEpoch f g ?_)));rw[qB (by simp)];refine qE ?_
 by_cases hi:i<es.size
 ·simp only[show ¬((i:Int)<0) from by omega,if_false,Int.toNat_natCast,Array.getElem?_eq_getElem hi]
  refine qA ?_
  first|refine qA (wpAny_typeNameOfWhole_keyiter c.typeIs (qE ?_))|refine qA (wpAny_typeNameOf_keyiter c.typeIs (qE ?_))
  refine qA (wpAny_isOneOf_keyiter c.typeIs ?_);show wpAny _ _ (setField (.ref it) 1 (rawInt ((i:Int)+1)) >>= _) _ _ s;refine qA (wpAny_setField k j (by simp) ?_)
  have e:(s.heap.update it (Obj.mapFields (·.setIfInBounds 1 (rawInt ((i:Int)+1))))).IsKeyIter it d (i+1) es.size ep :=
   ⟨_,Heap.get?_update_self _ k (Obj.isFreed_of_fields (Obj.data_mapFields j _)),(Obj.cls_mapFields ..).trans p,by rw[Obj.data_mapFields j];simp[rawInt]⟩
  refine qA (qJ (qA (wpAny_isOneOf_keyiter (s:={ s with heap:=s.heap.update it (Obj.mapFields (·.setIfInBounds 1 (rawInt ((i:Int)+1)))) }) e.typeIs ?_)));show wpAny _ _ (pure es[i].key) _ _ _;exact qE (qE ⟨_,O,qE (h1 hi _ e (Heap.SameBut.update ..))⟩)
 ·have h:es.size≤i:=by omega
  simp only[show ¬((i:Int)<0) from by omega,if_false,Int.toNat_natCast,Array.getElem?_eq_none h]
  refine qA ?_
  first|refine qA (wpAny_typeNameOfWhole_keyiter c.typeIs (qE ?_))|refine qA (wpAny_typeNameOf_keyiter c.typeIs (qE ?_))
  show wpAny _ _ (setField (.ref it) 0 .none >>= _) _ _ s;refine qA (wpAny_setField k j (by simp) ?_);show wpAny _ _ (newExc (.type "StopIteration") [] >>= _) _ _ _;refine qA ?_
  simp only[newExc,newTuple]
  refine qA (wpAny_newObj_type ?_ (by size_fits));refine qA (m:=firstArgMember _ _) (wpAny_of_eq (a:=Value.none) (by first|rfl|(simp only[firstArgMember];rfl)) ?_);refine wpAny_newObj_type ?_ (by size_fits)
  simp only[raiseNew]
  refine qA (wpAny_handled ?_);rw[show A.in1.handled=none from l];refine qA (qE (wpAny_throw ?_));refine qA (wpAny_isInstance (T:="StopIteration") (b:=true) ⟨_,qL _ rfl,O⟩ isSubtype_stop ?_);exact qE (h2 h _ (((Heap.SameBut.update ..).extBut.push _).push _))
end
def xAey{α β:Type}{F:α->β->Prop}:∀{l₁:List α} {a:List β},Paired F l₁ a->∀(i:Nat) (h1:i<l₁.length) (h2:i<a.length),F l₁[i] a[i]
 |_,_,.cons r _,0,_,_=>r
 |_,_,.cons _ t,i+1,h1,h2=>xAey t i (ki h1) (ki h2)
section
variable {X:Cx}{pins:List (Addr×Obj)}{σ:St}{H:Hp}{s:Shared}
def Inv.freezeG(I:Inv X pins σ H s)(e:H a=some (.dG kvs))(i:s.heap.get? a=some o):Inv X pins σ (upd H a (.frz o (.dG kvs))) s:=by
 refine I.un (t':=s.toks) (h':=s.heap) ⟨λb ob q _ _ _=>q,λb ob q _ _ _=>⟨ob.slots,q⟩,λb ob q n _=>?_,λb ob q _=>⟨ob,q⟩,λb xs q=>?_,λb ob u q=>?_,λb ps q=>?_,λb ob xs q n=>q⟩ λb u q=>?_
 ·rw[xAae (λz=>by rw[z,e]at n;cases n)];exact n
 ·rw[xAae (λz=>by rw[z,e]at q;cases q)];exact q
 ·rw[xAae (λz=>by rw[z,e]at q;cases q)];exact q
 ·exact⟨#[],by rw[xAae (λz=>by rw[z,e]at q;cases q),q];simp⟩
 ·have f:∀c {d:Addr},H c=some (.own d)->(upd H a (.frz o (.dG kvs))) c=some (.own d):=λc d q=>by rw[xAae (λz=>by rw[z,e]at q;cases q)];exact q
  have h:∀c xs,H c=some (.tup xs)->(upd H a (.frz o (.dG kvs))) c=some (.tup xs):=λc xs q=>by rw[xAae (λz=>by rw[z,e]at q;cases q)];exact q
  by_cases g:b=a
  ·subst g
   rw[xAab]at q;cases q;exact⟨i,(show ObjOk X.prog X.w H s.heap b (.dG kvs) from I.hok b _ e).stay (λ_ _ _ q=>q) (λc q=>f c q) h⟩
  ·rw[xAae g]at q
   exact(I.hok b u q).stay (λ_ _ _ q=>q) (λc q=>f c q) h
def xAej(q:o.data=.dict es ep)(I:Inv X pins σ H s)(e:H a=some (.frz o (.dG kvs))):s.heap.get? a=some o/\es.size=kvs.length/\∀i (hi:i<es.size) (g:i<kvs.length),RelV kvs[i].2.1 es[i].key:=by
 obtain⟨k,_,_,xs,d,o',n,l,c,_,b,h,_⟩:s.heap.get? a=some o/\ObjOk X.prog X.w H s.heap a (.dG kvs):=I.hok a _ e;rw[k]at c;cases c;rw[q]at b;injection b with b _;subst b
 have p:es.toList.length=kvs.length:=by rw[h,qf,d.length]
 refine⟨k,by simpa using p,λi hi g=>?_⟩
 have j:i<xs.length:=by rw[←d.length];exact g
 have f:=xAey d i g j
 have m:es[i].key=xs[i].2.1:=by
  have h1:es.toList[i]?=some es[i]:=by simp[hi]
  rw[h,qv,qg j]at h1;rw[←qK h1];rfl
 rw[m];exact f.2.2.1
end
def ItG(a:Addr)(o:Obj)(kvs:List (KD×V×V)):It :=
 ⟨λi H=>H a=some (.frz o (.dG kvs))/\i<kvs.length,λi H x H'=>H'=H/\∃e,kvs[i]?=some e/\x=e.2.1,λi H=>H a=some (.frz o (.dG kvs))/\kvs.length≤i⟩
def xAmc{P:Program}{w:World}{K:PySem.W.Frag}{tg:Expr}(a it:Addr){o:Obj}{es:Array DictEntry}{ep:Nat}{kvs:List (KD×V×V)}(m:o.data=.dict es ep):Turn P w K tg (ItG a o kvs) [it] it (λi h=>h.IsKeyIter it a i kvs.length ep) where
 mem:=by simp
 obj:=λi h st b g=>by
  have e:b=it:=by simpa using g
  subst e;obtain⟨o,e,c,d⟩:=st;exact⟨o,e,λv z=>by rw[d]at z;cases z⟩
 keep:=λi h h' st k=>st.at λo e=>k it (by simp) o e
 item:=by
  intro X u p C G i pins s σ H E I n st q;subst u p C;obtain⟨A,hi⟩:=q;obtain⟨r,x,j⟩:=xAej m I A;obtain⟨y,t,J,D,B,F⟩:=n it (by simp)
  refine xAex (I.ok.hd G) st r m x (λf h' l L=>?_) λz=>absurd hi (by omega)
  have N:Inv X pins σ H { s with heap:=h' }:=I.turned (t':=s.toks) (λb o g e=>(L.2 b g).trans e) y t D B F;obtain⟨ob,e,c,d⟩:=id l;exact⟨es[i].key,O,go_of (s:={ s with heap:=h' }) e c d (by decide) ⟨kvs[i].2.1,H,N,j i f hi,⟨O,kvs[i],qg hi,O⟩,l,λb g=>(n b g).1⟩⟩
 done:=by
  intro X u p C G i pins s σ H E I n st q;subst u p C;obtain⟨A,hi⟩:=q;obtain⟨r,x,j⟩:=xAej m I A;obtain⟨y,t,J,D,B,F⟩:=n it (by simp);exact xAex (I.ok.hd G) st r m x (λf=>absurd f (by omega)) λ_ h' M=>⟨O,I.turned (t':=s.toks) (λb o g e=>M b o g e) y t D B F⟩
 self:=λ_ _ _ _ _ st h=>wpAny_pyIter_keyiter st h
inductive IiKeysG(R:It->Hp->Prop)(x:V)(H1:Hp):Prop
 |mk (a:_) (kvs:_) (h0_:x=.ref a) (h1_:((H1 a=some (.dG kvs)/\∀o,R (ItG a o kvs) (upd H1 a (.frz o (.dG kvs))))\/∃o,H1 a=some (.frz o (.dG kvs))/\R (ItG a o kvs) H1)):IiKeysG R x H1
def iKeysG(tl:TE):TI:=λσ H R=>tl σ H λx H1=>IiKeysG R x H1
section
variable {X:Cx}{tg:Expr}
def xAmd{tl:TE}(z:PE X l tl):PI X tg l (iKeysG tl):=by
 refine⟨?_⟩;intro pins s σ H R I h;refine thn (z pins s σ H _ I h) λv c ⟨x,H1,m,y,t⟩=>?_;obtain⟨a,kvs,e,q⟩:=t;subst e;cases y
 have main:∀(H2:Hp) (o:Obj),Inv X pins σ H2 c->H2 a=some (.frz o (.dG kvs))->R (ItG a o kvs) H2->wpAny (model X.prog X.w) X.A (pyIter (.ref a)) (PIE X pins σ tg R) X.xe c:=λH2 o f p B=>by
  obtain⟨j,_,k,xs,_,o',es,ep,d,u,n,_,_⟩:c.heap.get? a=some o/\ObjOk X.prog X.w H2 c.heap a (.dG kvs):=f.hok a _ p;rw[j]at d;cases d;obtain⟨_,g,_⟩:=xAej n f p;refine xAgy k j u n ?_;refine⟨c.heap.objs.size,[c.heap.objs.size],_,_,H2,O,f.kept (t':=c.toks) λb o e=>qH _ e,xAmc a _ n,⟨_,qL _ rfl,O,by rw[g];rfl⟩,λb r=>?_,B⟩
  have e:b=c.heap.objs.size:=by simpa using r
  subst e;exact f.fpOk (qb _) (f.hok.fresh (qb _))
 rcases q with⟨i,q⟩|⟨o,i,q⟩
 ·obtain⟨_,_,xs,_,o,es,ep,j,_⟩:=(show ObjOk X.prog X.w H1 c.heap a (.dG kvs) from m.hok a _ i)
  exact main _ o (m.freezeG i j) xAab (q o)
 ·exact main _ o m i q
end
def xAiw{a:Addr}{o:Obj}{kvs:List (KD×V×V)}{g:TG}{tb:TS}{D:Ends}{σ:St}{H:Hp}(b:Nat->St->Hp->Prop)(h0:b 0 σ H)(h:∀i σ H,b i σ H->H a=some (.frz o (.dG kvs)))(j:∀i e σ H,kvs[i]?=some e->b i σ H->g e.2.1 σ H λc H2=>tb { D with nx:=b (i+1),ct:=b (i+1),bk:=D.nx } c H2)(n:∀σ H,b kvs.length σ H->D.nx σ H) :
  ∃W:Nat->Nat->St->Hp->Prop,(∃m,W 0 m σ H)/\∀i m σ H,W i m σ H →
   ((ItG a o kvs).stop i H/\D.nx σ H)\/((ItG a o kvs).go i H/\∃N:St->Hp->Prop,(∀σ' H',N σ' H'->∃f,f<m/\W (i+1) f σ' H')/\∀x H',(ItG a o kvs).yld i H x H'->g x σ H' λc H2=>tb { D with nx:=N,ct:=N,bk:=D.nx } c H2):=by
 refine⟨λi m σ H=>m=kvs.length - i/\i≤kvs.length/\b i σ H,⟨kvs.length,by simp,Nat.zero_le _,h0⟩,?_⟩;rintro i m σ H ⟨rfl,hi,p⟩
 by_cases d:i<kvs.length
 ·refine .inr ⟨⟨h i σ H p,d⟩,b (i+1),λσ' H' q=>⟨kvs.length - (i+1),by omega,O,d,q⟩,λx H' y=>?_⟩
  obtain⟨e,k,l,rfl⟩:=y;subst e;exact j i k σ _ l p
 ·have e:i=kvs.length:=by omega
  subst e;exact .inl ⟨⟨h _ σ H p,qb _⟩,n σ H p⟩
section
variable {P:Program}{w:World}{A:Around}{E:Value->Shared->Prop}{s:Shared}
def xAme{v val:Value}(a:(mixKind P w).is k v=true)(g:s.heap.DictOf (mixKind P w) d vs)(hsz:vs.length≤sizeLine)(h1:∀u,valueAt vs k=some u->Q u { s with toks:=s.toks+1 })(h2:valueAt vs k=none->∀h',h'.DictOf (mixKind P w) d (stored vs k val)->Heap.SameBut d s.heap h'->Q val { s with heap:=h',toks:=s.toks+1 }):wpAny (model P w) A (dictSetDefault d v val) Q E s:=by
 obtain⟨o,es,ep,q,N,n,H,p,hn⟩:=g
 have C:es.size≤sizeLine:=by have J:=p.length;rw[ze]at J;omega
 have I:(es.findIdx? λe=>(mixKind P w).is k e.key)=vs.findIdx? λj=>decide (j.1=k):=by
  rw[←p.findIdx k];obtain⟨l⟩:=es;simp
 unfold dictSetDefault
 try with_reducible refine qJ ?_
 refine qA ((mixKind P w).pyHash a (qA (wpAny_dictFind_of (s:={ s with toks:=s.toks+1 }) a q n H ?_)))
 cases hi:es.findIdx? λe=>(mixKind P w).is k e.key with
 |none =>
  have b:k∉vs.map (·.1):=not_mem_of_findIdx_none (I▸hi)
  have c:¬(vs.any λj=>decide (j.1=k))=true:=λz=>by
   obtain⟨j,t,B⟩:=yx.mp z;exact b (qj.mpr ⟨j,t,qO B⟩)
  have K:valueAt vs k=none:=by
   rw[←p.find k]
   have:es.toList.find? (λe=>(mixKind P w).is k e.key)=none:=by
    rw[ja];intro e B z;have M:=Array.findIdx?_eq_none_iff.mp hi e (yu.mp B);rw[M]at z;cases z
   rw[this];rfl
  refine qA (wpAny_rule (qA (wpAny_updateDictKeys (hz:=C) (s:={ s with toks:=s.toks+1 }) q n (qE (h2 K _ ⟨_,_,ep+1,Heap.get?_update_self _ q (Obj.isFreed_of_dict (Obj.data_mapDictKeys n _)),N.mapDictKeys _,Obj.data_mapDictKeys n _,H.push a _,?_,?_⟩ (Heap.SameBut.update ..))))))
  ·rw[stored,qB c]
   have:=p.append a ((mixKind P w).hash k) val;obtain⟨l⟩:=es;simpa using this
  ·rw[stored,qB c,z7,v9]
   refine⟨hn,by simp,λx r y L z=>?_⟩;rw[z]at r;rw[qt.mp L]at r;exact b r
 |some i =>
  obtain⟨f,_,_⟩:=Array.findIdx?_eq_some_iff_getElem.mp hi;have D:vs.findIdx? (λj=>decide (j.1=k))=some i:=I▸hi;obtain⟨F,h,_⟩:=ju.mp D;have h:vs[i].1=k:=qO h
  have G:vs[i]?=some (k,vs[i].2):=by rw[qg F,←h]
  obtain⟨_,m⟩:=p.get? (i:=i) (e:=es[i]) (k:=k) (v:=vs[i].2) (by rw[we];exact wo f) G;refine qA (wpAny_dictEntries (s:={ s with toks:=s.toks+1 }) q n ?_);rw[wo f];refine qA (wpAny_rule (qE ?_));rw[m];exact h1 _ (valueAt_of_get hn G)
def xAoe(f:(d==sysModules)=false):MeetsIn P w (Builtin.«dict.setdefault» ⟨[.ref d,v,b],[]⟩) (λA R s=>∃k vs,(mixKind P w).is k v=true/\s.heap.DictOf (mixKind P w) d vs/\vs.length≤sizeLine ∧
      (∀u,valueAt vs k=some u->R (.ok (.ret u)) { s with toks:=s.toks+1 })/\(valueAt vs k=none->∀h',h'.DictOf (mixKind P w) d (stored vs k b)->Heap.SameBut d s.heap h'->R (.ok (.ret b)) { s with heap:=h',toks:=s.toks+1 })) :=
 .of_wp λA R s ⟨k,vs,a,g,hz,h1,h2⟩=>by
  unfold Builtin.«dict.setdefault»;refine qA ?_;unfold Builtin.Dict.keyAndDefault;refine qA (wpAny_notOrdered_dict g.typeIs (qE ?_));show wpAny (model P w) _ (if(d==sysModules)=true then _ else(dictSetDefault d v b >>= _)) _ _ s;rw[qB (by rw[f];decide)];exact qA (xAme a g hz (λu c=>qE ⟨u,O,h1 u c⟩) λc h' g' e=>qE ⟨b,O,h2 c h' g' e⟩)
end
inductive IrSetDefK(x:V)(vs:List V)(H:Hp)(Q:VK):Prop
 |mk (a:_) (kvs:_) (k:_) (d:_) (h0_:x=.ref a) (h1_:vs=[kV k,d]) (h2_:H a=some (.dK kvs)) (h3_:kvs.length<sizeLine) (h4_:(∀u,valV kvs k=some u->Q u H)) (h5_:(valV kvs k=none->Q d (upd H a (.dK (putK kvs k d))))):IrSetDefK x vs H Q
def rSetDefK:V->List V->Hp->VK->Prop:=λx vs H Q=>IrSetDefK x vs H Q
section
variable {X:Cx}
def xAmf:MtM X "dict.setdefault" rSetDefK:=by
 intro pins s σ H x xs v us Q I A r h;obtain⟨a,kvs,k,d,rfl,rfl,o,D,w,y⟩:=h;obtain⟨u,C,rfl,p,f⟩:=r.two;cases A;obtain⟨z,m,ys,c,n⟩:=dk_of I.hok o;have b:=c.val k;refine call_meetsIn F.slot_dict_setdefault n.typeIs F.entry_dict_setdefault (F.args_dict_setdefault_3 _ _ _) (xAoe m) ⟨k,ys,kV_is p,n,by rw[←c.length];exact z,λE i=>?_,λi h' g l=>?_⟩
 ·rw[i]at b
  cases e:valV kvs k with
  |none=>rw[e]at b;exact b.elim
  |some v=>rw[e]at b;exact⟨v,H,I.tok _,b,w v e⟩
 ·rw[i]at b
  cases e:valV kvs k with
  |some v=>rw[e]at b;exact b.elim
  |none =>
   have j:(putK kvs k d).length≤sizeLine:=by have:=xAcu kvs k d;omega
   have t:∃q,h'.get? a=some q:=let⟨q,_,_,B,_⟩:=g;⟨q,B⟩
   exact⟨d,upd H a (.dK (putK kvs k d)),xAec I (by rw[o];exact True.intro) l t (xAta j m (c.put k f) g),f,y e⟩
end
section
variable {prog:Program}{w:World}{A:Around}{E:Value->Shared->Prop}{s:Shared}
def xAix(p:A.handled=none)(n:it≠d)(a:od.data=.dict es ep) :
  WalksS prog w A it [it,d] [it] Eq es.size (λj v=>(es[j]?).map (·.key)=some v) (λi s=>s.heap.IsKeyIter it d i es.size ep/\s.heap.get? d=some od) where
 sub:=λb l=>by rw[qt.mp l];exact qp
 grefl:=λ_=>rfl
 gtrans:=λ_ _ _ h1 h2=>h1.trans h2
 frame:=λi s h' tk ⟨⟨o,e,c,r⟩,g⟩ _ k=>⟨⟨o,k it qp o e,c,r⟩,k d (qu _ qp) od g⟩
 item:=λi s Q E hi ⟨st,g⟩ k=>xAex p st g a rfl (λf h' m q=>k _ _ (by rw[wo f];rfl) ⟨m,(q.2 d n.symm).trans g⟩ ⟨λb o l e=>(q.2 b (λz=>l (by rw[z];exact qp))).trans e,O,O,O,qb _⟩) λz=>absurd hi (by omega)
 done:=λs Q E ⟨st,g⟩ k=>xAex p st g a rfl (λf=>absurd f (by omega)) λ_ h' t=>k _ ⟨λb o l e=>t b o (λz=>l (by rw[z];exact qp)) e,O,O,O,qb _⟩
 self:=λi s Q E ⟨st,_⟩ h=>wpAny_pyIter_keyiter st h
def xAfx{es:Array DictEntry}{acc:Array Value}(h:ItemsOf (λj v=>(es[j]?).map (·.key)=some v) acc es.size):acc.toList=es.toList.map (·.key):=by
 apply yd;intro j
 by_cases a:j<acc.size
 ·have b:j<es.size:=by rw[←h.1];exact a
  have:=h.2 j acc[j] (wo a);rw[we,wo a,qv,we];exact this.symm
 ·have b:¬j<es.size:=by rw[←h.1];exact a
  rw[jz (by rw[ze];omega),jz (by rw[qf,ze];omega)]
def xAgz(K:A.handled=none)(J:(d==sysModules)=false)(B:s.heap.get? d=some od)(G:od.ExactDict)(i:od.data=.dict es ep)(hz:es.size≤sizeLine)(L:∀s',Moved [] Eq s s'->Q (es.toList.map (·.key)) s'):wpAny (model prog w) A (collect (.ref d)) Q E s:=by
 unfold collect;refine qA (wpAny_runValue (codeAny_builtin F.entry_proto_collect ?_));rw[Around.under_plainId F.plain_proto_collect _];show wpAny _ A.in1 (newList [] >>= λl=>again (.builtin "list.__iadd__" ⟨[l,.ref d],[]⟩)) _ _ s;refine qA (wpAny_newObj_type ?_);refine qE ⟨plainId_quiet F.plain_list_iadd _,codeAny_builtin F.entry_list_iadd ?_⟩;rw[Around.under_plainId F.plain_list_iadd _];have k:(s.heap.push { cls:=.type "list",data:=.seq ([]:List Value).toArray }).get? d=some od:=qH _ B;have I:Shared.TypeIs { s with heap:=s.heap.push { cls:=.type "list",data:=.seq ([]:List Value).toArray } } (.ref d) "dict":=⟨od,k,G.1⟩
 have g:d<s.heap.objs.size:=by
  rcases yc d s.heap.objs.size with h|h
  ·exact h
  ·exfalso
   have:s.heap.get? d=none:=by
    unfold Heap.get?;rw[kj h]
   rw[this]at B;cases B
 have h1:Builtin.List.listSameRef (.ref s.heap.objs.size) (.ref d)=false:=by
  show(s.heap.objs.size==d)=false;exact beq_eq_false_iff_ne.mpr (q0 g)
 show wpAny _ A.in1 (Builtin.List.listExtendWith (.ref s.heap.objs.size) (.ref d) (.ref s.heap.objs.size)) _ _ _;unfold Builtin.List.listExtendWith;refine qA (wpAny_typeOf I ?_);rw[qB (by rw[h1];decide)];refine qA (xAgy J k G i ?_);refine qA (qJ ?_);generalize f:(s.heap.push { cls:=.type "list",data:=.seq ([]:List Value).toArray }).push { cls:=.type "dict_keyiterator",data:=.fields #[.ref d,.int 0 0,.int es.size 0,.int ep 0] }=h2
 have u:h2.get? d=some od:=by rw[←f];exact qH _ k
 have n:Shared.TypeIs { s with heap:=h2 } (.ref d) "dict":=⟨od,u,G.1⟩;unfold Builtin.List.listLengthHint;refine qA (wpAny_specialOf (name:=Str.ofString "__len__") n F.slot_dict_len.lookup ?_);generalize p:("dict.__len__":String)=id0
 wp_delta
 rw[show splitId id0=some ("dict","__len__") from by subst p;decide +kernel];subst p;refine qA (wpAny_isInstance (T:="dict") n PySem.F.sub_dict_dict ?_);rw[qB (by decide)]
 wp_delta
 rw[qF (by decide +kernel)];refine qA (wpAny_typeOf n (qE ?_));rw[qF (by decide +kernel)]
 have q:h2.get? s.heap.objs.size=some { cls:=.type "list",data:=.seq ([]:List Value).toArray }:=by rw[←f];exact qH _ (qL _ rfl)
 refine qA (wpAny_rule (qA ?_));unfold Builtin.List.listTouch;refine qA (listUpdate_at q rfl ?_);obtain⟨H,m⟩:∃H,(h2.update s.heap.objs.size (Obj.mapSeq (·.push Value.none))).get? s.heap.objs.size=some (seqObj "list" #[Value.none] H):=⟨_,get?_update_seq q _⟩;have c:∀b o,b≠s.heap.objs.size->h2.get? b=some o->(h2.update s.heap.objs.size (Obj.mapSeq (·.push Value.none))).get? b=some o:=λb o j e=>(Heap.get?_update_other _ _ (λz=>j z.symm)).trans e;generalize h2.update s.heap.objs.size (Obj.mapSeq (·.push Value.none))=h3 at m c;refine listUpdate_at (s:={ s with heap:=h3 }) m rfl ?_;obtain⟨C,r⟩:∃C,(h3.update s.heap.objs.size (Obj.mapSeq (·.pop))).get? s.heap.objs.size=some (seqObj "list" #[] C):=⟨_,get?_update_seq m _⟩;have a:∀b o,b≠s.heap.objs.size->h2.get? b=some o->(h3.update s.heap.objs.size (Obj.mapSeq (·.pop))).get? b=some o:=λb o j e=>(Heap.get?_update_other _ _ (λz=>j z.symm)).trans (c b o j e);show wpAny _ _ _ _ _ { s with heap:=h3.update s.heap.objs.size (Obj.mapSeq (·.pop)) };generalize h3.update s.heap.objs.size (Obj.mapSeq (·.pop))=h4 at r a;have hsz:(s.heap.push { cls:=.type "list",data:=.seq ([]:List Value).toArray }).objs.size=s.heap.objs.size+1:=size_push' _ _
 have y:h2.get? (s.heap.objs.size+1)=some { cls:=.type "dict_keyiterator",data:=.fields #[.ref d,.int 0 0,.int es.size 0,.int ep 0] }:=by rw[←f,←hsz];exact qL _ rfl
 show wpAny _ _ (again (Code.builtin "list.extend.loop" ⟨[Value.ref s.heap.objs.size,Value.ref (s.heap.push { cls:=.type "list",data:=.seq ([]:List Value).toArray }).objs.size,Value.ref s.heap.objs.size],[]⟩)) _ _ _;rw[hsz];have W:=xAix (prog:=prog) (w:=w) (A:=A.in1) (it:=s.heap.objs.size+1) (d:=d) (od:=od) (es:=es) (ep:=ep) K (q0 (wj g)) i;refine qE ⟨plainId_quiet F.plain_extend_loop _,codeAny_extend_loopS W hz s.heap.objs.size (λz=>?_) _ es.size 0 { s with heap:=h4 } #[] C rfl (qy _) ⟨⟨_,a _ _ (je _) y,O,O⟩,a _ _ (qi g) u⟩ r (ItemsOf.nil _) λs' x M t D v=>?_⟩
 ·simp only[List.mem_cons,List.not_mem_nil,or_false]at z
  rcases z with z|z
  ·exact je _ z.symm
  ·exact q0 g z
 ·show wpAny _ A (load s.heap.objs.size >>= _) _ _ s'
  refine qA (wpAny_load D ?_);show wpAny _ _ (pure x.toList) Q E s';rw[xAfx v];refine qE (L s' ⟨λb o _ e=>?_,t.gens,t.drawn,t.os,t.toks⟩)
  have j:b<s.heap.objs.size:=by
   rcases yc b s.heap.objs.size with h|h
   ·exact h
   ·exfalso
    have:s.heap.get? b=none:=by
     unfold Heap.get?;rw[kj h]
    rw[this]at e;cases e
  refine t.heap b o (λz=>?_) (a b o (qi j) ?_)
  ·simp only[List.mem_cons,List.not_mem_nil,or_false]at z
   rcases z with z|z
   ·exact qi j z
   ·exact qi (wj j) z
  ·rw[←f]
   exact qH _ (qH _ e)
def xAjp{lt:Nat->Nat->Bool}(W:Srt.Swo lt)(o:A.handled=none)(q:(d==sysModules)=false)(v:s.heap.get? d=some od)(u:od.ExactDict)(f:od.data=.dict es ep)(l:es.toList.map (·.key)=vs)(g:vs.length≤2000)(j:Few lt vs.length)(b:∀s',Moved [] Eq s s'->∀h',Ext s'.heap h'->2≤vs.length->Answers prog w A.in1.in1 { s' with heap:=h' } vs lt)(h:∀s' h' a p c,Moved [] Eq s s'->Ext s'.heap h'->s'.heap.objs.size≤a->Arr vs.length lt p->h'.get? a=some (seqObj "list" (List.toArray (p.toList.map λi=>vs.getD i Value.none)) c)->Q (.ref a) { s' with heap:=h' }) :
  wpAny (model prog w) A (call (.builtin "sorted") [.ref d]) Q E s:=by
 have z:es.size=vs.length:=by rw[←l,qf,ze]
 have y:vs.length≤sizeLine:=by rw[sizeLine_eq];omega
 refine Calls.call_function_entry kind_sorted plain_sorted entry_sorted (args_sorted1 _) ?_;unfold Builtin.«sorted»;refine qA (m:=checkCount "sorted" 1 1 _) (qE (qA (xAgz o q v u f (by omega) λs' n=>?_)));rw[l];refine qA (wpAny_newList ?_ y);have t:Ext s'.heap (s'.heap.push (seqObj "list" vs.toArray 0)):=.push _ _;have k:(s'.heap.push (seqObj "list" vs.toArray 0)).get? s'.heap.objs.size=some (seqObj "list" vs.toArray 0):=qL _ rfl;show wpAny (model prog w) _ _ _ _ { s' with heap:=s'.heap.push (seqObj "list" vs.toArray 0) };refine qA (qJ (qN slot_list_sort ⟨_,k,O⟩ entry_list_sort (xAgt W k g j (h0:=s'.heap) (qb _) t (b s' n) λh' p c x r e=>?_) (args_list_sort _)));exact⟨_,O,qE ⟨_,O,h s' h' _ p c n x (qb _) r e⟩⟩
end
def Inv.moved{X:Cx}{pins:List (Addr×Obj)}{σ:St}{H:Hp}{s s':Shared}(I:Inv X pins σ H s)(m:Moved [] Eq s s'):Inv X pins σ H s':=by
 have e:s'={ s with heap:=s'.heap,toks:=s'.toks }:=by
  obtain⟨h1,h2,a,c,d⟩:=m;cases s;cases s';cases h2;cases a;cases c;rfl
 rw[e]
 exact I.kept (t':=s'.toks) λb o q=>m.heap b o (by simp) q
inductive IrSortG(xs:List V)(H:Hp)(Q:VK):Prop
 |mk (p:_) (kvs:_) (ds:_) (t:_) (h0_:xs=[.ref p]) (h1_:Rd H p (.dG kvs)) (h2_:DVs H (kvs.map (·.2.1)) ds) (h3_:KeysAre ds t) (h4_:kvs.length<64) (h5_:∀q H' ix,H q=none->Same H H'->SortIx ds ix->H' q=some (.lst (ix.map λi=>(kvs.map (·.2.1)).getD i .non))->Q (.ref q) H'):IrSortG xs H Q
def rSortG:List V->Hp->VK->Prop:=λxs H Q=>IrSortG xs H Q
inductive IrSortKd(xs:List V)(H:Hp)(Q:VK):Prop
 |mk (p:_) (kvs:_) (ds:_) (t:_) (h0_:xs=[.ref p]) (h1_:Rd H p (.dK kvs)) (h2_:DVs H (kvs.map λe=>kV e.1) ds) (h3_:KeysAre ds t) (h4_:kvs.length<64) (h5_:∀q H' ix,H q=none->Same H H'->SortIx ds ix->H' q=some (.lst (ix.map λi=>(kvs.map λe=>kV e.1).getD i .non))->Q (.ref q) H'):IrSortKd xs H Q
def rSortKd:List V->Hp->VK->Prop:=λxs H Q=>IrSortKd xs H Q
section
variable {X:Cx}
def xAek{pins:List (Addr×Obj)}{σ:St}{H:Hp}{s:Shared}{p:Addr}{od:Obj}{es:Array DictEntry}{ep:Nat}{ys:List V}{its:List Value}{ds:List PyData}{t:_}{Q:VK}(F:X.A.units+3+61<cLine)(D:X.A.handled=none)(I:Inv X pins σ H s)(u:(p==sysModules)=false)(y:s.heap.get? p=some od)(E:od.ExactDict)(b:od.data=.dict es ep)(r:es.toList.map (·.key)=its)(h:Vals ys its)(o:DVs H ys ds)(n:KeysAre ds t)(B:ys.length<64)(q:∀q H' ix,H q=none->Same H H'->SortIx ds ix->H' q=some (.lst (ix.map λi=>ys.getD i .non))->Q (.ref q) H') :
  wpAny (model X.prog X.w) X.A (call (.builtin "sorted") [.ref p]) (λv s'=>∃x H',Inv X pins σ H' s'/\RelV x v/\Q x H') X.xe s:=by
 have z:=h.length;have f:=xAfp o;refine xAjp (lt:=ltK ds) (xAts n.one) D u y E b r (by omega) (.inl (by omega)) (λs' m h' x h2=>?_) λs' h' a l c m x j d e=>?_
 ·obtain⟨as,C⟩:=o.reads (I.moved m) h
  exact xAfo (s:={ s' with heap:=h' }) (xAbp x C) n h2 (by show X.A.units+1+1+60<cLine;omega)
 ·have k:=I.moved m
  have g:∀i∈l.toList,i<ys.length:=λi hi=>by
   have:=(d.1.toList.mem_iff).mp hi
   simp at this
   omega
  refine⟨.ref a,upd H a (.lst (l.toList.map λi=>ys.getD i .non)),k.laid x j ⟨?_,_,c,xAii h _ g,e⟩,O,q a _ l.toList (k.hok.fresh j) (Same.new (k.hok.fresh j)) (xAih (by rw[←f,z];exact d)) xAab⟩;have hz:its.length≤sizeLine:=zt (xAaj (by omega));rw[qf,ze,d.1.size_eq]
  simp
  omega
def xApv{xa:List (KD×Value×Value)}(h:Paired (GP H) b xa):Vals (b.map (·.2.1)) (xa.map (·.2.1)):=by
 induction h with
 |nil=>exact .nil
 |cons a _ c=>exact .cons a.2.2.1 c
def xAmg(h:Pairs (mixKind P w) es vs):∀{kvs:List (Key×V)},KV kvs vs->Vals (kvs.map λe=>kV e.1) (es.map (·.key)):=by
 induction h with
 |nil=>intro kvs r;cases r;exact .nil
 |@cons g _ _ _ f _ _ d =>
  intro kvs r
  cases r with
  |@cons i _ _ _ a t =>
   refine .cons ?_ (d t);show RelV (kV i.1) g.key;rw[a.1];rcases xAao f with⟨j,u,b,c⟩|⟨x,u,b,c⟩
   ·rw[b,c];exact⟨u,O⟩
   ·rw[b,c];exact⟨u,O⟩
def xAha(i:X.A.units+3+61<cLine)(e:X.A.handled=none):CallR X (.builtin "sorted") (rSortG):=by
 intro pins s σ H xs us Q I r h;obtain⟨p,kvs,ds,t,rfl,rd,v,k,b,q⟩:=h;obtain⟨u,rfl,l⟩:=vals1 r;cases l;obtain⟨_,c,g,f,o,es,ep,m,j,a,d,n,hn⟩:=gd_rd I rd;exact xAek i e I c m j a (its:=g.map (·.2.1)) (by rw[d,wx];rfl) (xApv f) v k (by rw[qf];exact b) q
def xAfy(f:X.A.units+3+61<cLine)(e:X.A.handled=none):CallR X (.builtin "sorted") (rSortKd):=by
 intro pins s σ H xs us Q I r h;obtain⟨p,kvs,ds,t,rfl,rd,m,i,d,q⟩:=h;obtain⟨u,rfl,j⟩:=vals1 r;cases j;obtain⟨_,c,vs,b,o,es,ep,k,g,a,_,l,_⟩:=dk_rd I.hok rd;exact xAek f e I c k g a rfl (xAmg l b) m i (by rw[qf];exact d) q
end
section
variable {prog:Program}{w:World}{A:Around}{E:Value->Shared->Prop}{s:Shared}
def xAjq{l m g:Addr}{xs ys:Array Value}{k j:Value}{lo hi:Nat}{Q:Unit->Shared->Prop}(h:s.heap.IsList l xs)(u:s.heap.IsList m ys)(n:l≠m)(v:s.heap.IsSliceOf g k j .none)(D:IsPart k (some (lo:Int)))(y:IsPart j (some (hi:Int)))(h1:lo≤hi)(h2:hi≤xs.size)(hz:xs.size+ys.size≤sizeLine)(F:Q () { s with heap:=s.heap.update l (Obj.mapSeq λxs=>xs.extract 0 lo++ys++xs.extract hi) }) :
  wpAny (model prog w) A (setItem (.ref l) (.ref g) (.ref m)) Q E s:=by
 obtain⟨o,r,I,ne,t⟩:=id h;obtain⟨G,i,B,H,p⟩:=id u;obtain⟨C,a,q,b⟩:=id v;have e:s.TypeIs (.ref g) "slice":=⟨C,a,q⟩;unfold setItem
 try with_reducible refine qJ ?_
 first|refine qA (qE ?_)|skip
 refine qA (wpAny_sequenceKey h.typeIs (by decide) ?_)
 refine qA (wpAny_callSpecial?_slot (name:=Str.ofString "__setitem__") h.typeIs slot_list_setitem
  (qN slot_list_setitem h.typeIs entry_list_setitem ?_ (args_list_setitem _ _ _)))
 show wpAny _ _ (Builtin.List.listSubscript? (.ref g) >>= _) _ _ s;unfold Builtin.List.listSubscript?;refine qA (qA (wpAny_specialOf e slice_no_index ?_))
 simp only[Option.isNone_none,if_true]
 refine qE ?_;show wpAny _ _ (typeOf (.ref g) >>= _) _ _ s;refine qA (wpAny_typeOf e ?_);rw[qB (by decide)];rw[listSliceParts_eq];refine qA (qA (wpAny_field a b (x:=.none) rfl (qA (wpAny_listPart .none ?_))));rw[qB (by decide)];refine qA (wpAny_field a b (x:=k) rfl (qA (wpAny_listPart D ?_)));refine qA (wpAny_field a b (x:=j) rfl (qA (wpAny_listPart y (qE ?_))));have c:Builtin.List.listSameRef (.ref l) (.ref m)=false:=beq_eq_false_iff_ne.mpr n;rw[qB (by rw[c];decide)];unfold Builtin.List.listAllItems;refine qA (qA (wpAny_typeOf u.typeIs ?_));rw[qF (by decide)];refine listItems_at i p ?_;refine qA (listItems_at r t ?_);refine qA (wpAny_of_eq (sliceIndices_raw (some (lo:Int)) (some (hi:Int)) none xs.size (by simp)) ?_)
 have z:sliceBounds (some (lo:Int)) (some (hi:Int)) none xs.size=((lo:Int),(hi:Int),1):=by
  unfold sliceBounds
  simp only[Option.getD_none]
  have a1:¬((lo:Int)<0):=by omega
  have a2:¬((hi:Int)<0):=by omega
  rw[qB a1,qB a2,qF (by decide),qF (by decide)]
  congr 1
  ·omega
  ·congr 1
   omega
 rw[z]
 have f:(max (lo:Int) (hi:Int)).toNat=hi:=by omega
 have d:((lo:Int)).toNat=lo:=Int.toNat_natCast lo
 simp only[f,d]
 rw[qF (by decide)];refine qA (wpAny_rule ?_);rw[qB (by show ¬(decide (xs.size+ys.size>sizeLine))=true;simp;omega)];refine qA (listUpdate_at r t ?_ (by omega) (by simp;omega));exact qA (wpAny_letGo (qE ⟨.none,O,qE F⟩))
end
def xAmh(its:List Value)(n lo hi:Nat)(ys:List Value):∃a,Obj.mapSeq (λxs=>xs.extract 0 lo++ys.toArray++xs.extract hi) { cls:=.type "list",data:=.seq its.toArray n }={ cls:=.type "list",data:=.seq (its.take lo++ys++its.drop hi).toArray a }:=by
 have e:its.toArray.extract 0 lo++ys.toArray++its.toArray.extract hi=(its.take lo++ys++its.drop hi).toArray:=by
  simp
  exact yr (by rw[wm];exact qb _)
 unfold Obj.mapSeq
 simp only[e]
 exact⟨_,O⟩
inductive IsSlPut(D:Ends)(σ:St)(v:V)(x:V)(lo:Option Int)(hi:Option Int)(H4:Hp):Prop
 |mk (a:_) (b:_) (xs:_) (ys:_) (i j:Nat) (h0_:x=.ref a) (h1_:v=.ref b) (h2_:a≠b) (h3_:H4 a=some (.lst xs)) (h4_:SqL H4 b ys) (h5_:lo=some (i:Int)) (h6_:hi=some (j:Int)) (h7_:i≤j) (h8_:j≤xs.length) (h9_:xs.length+ys.length≤sizeLine) (h10_:D.nx σ (upd H4 a (.lst (xs.take i++ys++xs.drop j)))):IsSlPut D σ v x lo hi H4
def sSlPut(to:TE)(tl th:TO)(tv:TE):TS:=λD σ H=>tv σ H λv H1=>to σ H1 λx H2=>tl σ H2 λlo b=>th σ b λhi a=>IsSlPut D σ v x lo hi a
section
variable {X:Cx}{o value:Expr}{lo hi:Option Expr}{pos pos' p2:Pos}{to tv:TE}{tl th:TO}
def xAri(z:PE X o to)(F:PO X lo tl)(L:PO X hi th)(p:PE X value tv)(t:swapsWith value (some (.Subscript o (.Slice lo hi none p2) pos')) pos.line X.env=pure false):PS X (.Assign [.Subscript o (.Slice lo hi none p2) pos'] value pos) (sSlPut to tl th tv):=by
 refine⟨?_⟩;intro pins s σ H D I h;refine wpAny_Assign_Subscript (thn (p pins s σ H _ I h) λr P ⟨v,H1,R,J,K⟩=>thn (z pins P σ H1 _ R K) λu s2 ⟨x,H2,w,S,Q⟩=>?_) t;refine wpAny_Slice (thn (F pins s2 σ H2 _ w Q) λE W ⟨l,U,I3,pl,m⟩=>thn (L pins W σ U _ I3 m) λC d ⟨u',T,Z,y,M⟩=>?_);rw[evalPart_none];refine qE ?_;obtain⟨a,b,xs,ys,i,j,rfl,rfl,e,g,G,rfl,rfl,h1,h2,hz,q⟩:=M;cases S;cases J;have f:Inv X pins σ T { d with heap:=d.heap.push { cls:=.type "slice",data:=.fields #[E,C,.none] } }:=Z.kept (t':=d.toks) λb ob q=>qH _ q;obtain⟨its,n,r,c,N⟩:=f.lst g;obtain⟨its',k,V,A⟩:=f.list G;have la:=r.length;have lb:=k.length;obtain⟨n',B⟩:=xAmh its n i j its';have Y:=f.lstUpd g c B ((r.take i).append k |>.append (r.drop j)) (by rw[qe,qe,wn,wm];omega) d.toks;refine xAjq (xs:=its.toArray) (ys:=its'.toArray) ⟨_,c,O,n,O⟩ V.isList e (Heap.IsSliceOf.new ..) pl y h1 (by rw[qr];omega) (by rw[qr,qr];omega) ⟨_,_,Y,q⟩
end
def xAde:entryFor table "dict_itemiterator.__iter__"=some Builtin.«dict_keyiterator.__iter__»:=entryFor_alias (id':="dict_keyiterator.__iter__") (by kernel_rfl) rfl (by decide +kernel) (by kernel_rfl)
section
variable {prog:Program}{w:World}{A:Around}{E:Value->Shared->Prop}{s:Shared}
def xAof(b:(d==sysModules)=false)(e:s.heap.get? d=some od)(c:od.ExactDict)(f:Q (.ref s.heap.objs.size) { s with heap:=s.heap.push { cls:=.type "dict_items",data:=.fields #[.ref d] } }):wpAny (model prog w) A (call (.builtin "dict.items") [.ref d]) Q E s:=by
 have a:s.TypeIs (.ref d) "dict":=⟨od,e,c.1⟩;refine qN F.slot_dict_items a F.entry_dict_items ?_ (F.args_dict_items_1 _);unfold Builtin.«dict.items»;refine qA ?_;unfold Builtin.Dict.noArgs;refine qA (wpAny_notOrdered_dict a ?_);show wpAny _ _ (pure d) _ _ s;refine qE ?_;show wpAny _ _ (Builtin.Dict.showsAll d >>= _) _ _ s;unfold Builtin.Dict.showsAll;rw[qB (by rw[b];exact qk)];refine qA (qE ?_);exact qA (wpAny_newObj_type (qE ⟨_,O,f⟩))
def xAhb(e:s.heap.IsItemsView v d)(g:s.heap.get? d=some od)(a:od.data=.dict es ep)(h:Q (.ref s.heap.objs.size) { s with heap:=s.heap.push { cls:=.type "dict_itemiterator",data:=.fields #[.none,.bool false,.ref d,.int 0 0,.int es.size 0,.int ep 0,.none,.none] } }) :
  wpAny (model prog w) A (pyIter (.ref v)) Q E s:=by
 obtain⟨j,c,i,f⟩:=id e;refine wpAny_pyIter_slot e.typeIs F.slot_dict_items_iter (qN F.slot_dict_items_iter e.typeIs F.entry_dict_items_iter ?_ (F.args_dict_items_iter_1 _));unfold Builtin.«dict_items.__iter__»;refine qA (qE ?_);refine qA ?_;unfold Builtin.Dict_items.dictOf;refine qA (wpAny_field c f (x:=.ref d) rfl (qE ?_));refine qA ?_;unfold Builtin.Dict_items.newIterator;refine qA (wpAny_dictEntries g a ?_);refine qA (wpAny_dictEpoch g a ?_)
 have b:Builtin.Dict_items.ownsTuple "dict_itemiterator"=true:=by decide
 simp only[b,if_true]
 refine wpAny_newObj_type (qE ⟨_,O,"dict_itemiterator",_,⟨_,qL _ rfl,O⟩,F.slot_dict_itemiterator_next.lookup,?_⟩)
  (by simp only[sizeOk,Builtin.Dict_items.ownedTupleFields,List.size_toArray,List.length_append,List.length_cons,List.length_nil,sizeLine_eq];omega)
 simpa[rawInt,Builtin.Dict_items.ownedTupleFields] using h
def xAhc{ok T:Value}(H:IsItemIter s.heap it d i n ep ok T)(V:s.heap.get? d=some od)(W:od.data=.dict es ep)(hn:es.size=n)(P:i<es.size)(X:∀h',IsItemIterOut h' it d (i+1) n ep es[i].key es[i].val s.heap.objs.size →
   h'.get? s.heap.objs.size=some { cls:=.type "tuple",data:=.seq #[es[i].key,es[i].val] }->h'.objs.size=s.heap.objs.size+1 →
   (∀b o,b≠it->s.heap.get? b=some o->h'.get? b=some o)->Q (some (.ref s.heap.objs.size)) { s with heap:=h' }) :
  wpAny (model prog w) A (pyNext (.ref it)) Q E s:=by
 obtain⟨C,g,S,tk,U⟩:=s;subst hn;have J:Shared.TypeIs ⟨C,g,S,tk,U⟩ (.ref it) "dict_itemiterator":=⟨_,H,O⟩;unfold pyNext
 refine qA (wpAny_attempt (wpAny_callSpecial?_slot (name:=Str.ofString "__next__") J F.slot_dict_itemiterator_next
  (qN F.slot_dict_itemiterator_next J F.entry_dict_itemiterator_next ?_ (F.args_dict_itemiterator_next_1 _))))
 refine qA (qE ?_);refine qA ?_;refine qA ?_
 first|refine qA (wpAny_typeNameOfWhole_itemiter J (qE ?_))|refine qA (wpAny_typeNameOf_itemiter J (qE ?_))
 refine qA (wpAny_fieldsOf H rfl ?_)
 have R:Builtin.Dict_items.ownsTuple "dict_itemiterator"=true:=by decide
 simp only[R,if_true]
 show wpAny _ _ (if(Value.ref d==Value.none)=true then _ else _) _ _ _;rw[qB (show ¬((Value.ref d==Value.none)=true) from qk)];refine qA (qE ?_);refine qA (wpAny_dictEntries V W ?_);rw[qB (by simp)];refine qA (qE ?_);refine qA (wpAny_dictEpoch V W ?_);rw[qB (by simp)];refine qE ?_
 simp only[show ¬((i:Int)<0) from by omega,if_false,Int.toNat_natCast,Array.getElem?_eq_getElem P]
 refine qA ?_
 first|refine qA (wpAny_typeNameOfWhole_itemiter J (qE ?_))|refine qA (wpAny_typeNameOf_itemiter J (qE ?_))
 refine qA (wpAny_isOneOf_itemiter J ?_);show wpAny _ _ (setField (.ref it) 3 (rawInt ((i:Int)+1)) >>= _) _ _ ⟨C,g,S,tk,U⟩;refine qA (wpAny_setField_rec H (by simp) λa j k=>?_);replace k:Heap.SameBut it C a:=k
 replace j:IsItemIter a it d (i+1) es.size ep ok T:=by
  have e:((i+1:Nat):Int)=(i:Int)+1:=by omega
  unfold IsItemIter;rw[e];simpa[rawInt] using j
 have v:Shared.TypeIs ⟨a,g,S,tk,U⟩ (.ref it) "dict_itemiterator":=⟨_,j,O⟩;refine qA (qJ ?_);refine qA (wpAny_isOneOf_itemiter v ?_);refine qA (wpAny_isOneOf_itemiter v ?_);show wpAny _ _ (Builtin.Dict_items.pairFromOwner (.ref it) 6 es[i].key es[i].val) _ _ ⟨a,g,S,tk,U⟩;unfold Builtin.Dict_items.pairFromOwner;refine qA (wpAny_newTuple ?_);have h:IsItemIter (a.push { cls:=.type "tuple",data:=.seq #[es[i].key,es[i].val] }) it d (i+1) es.size ep ok T:=qH _ j;generalize p:a.push { cls:=.type "tuple",data:=.seq #[es[i].key,es[i].val] }=h₂ at h;have q:a.objs.size=C.objs.size:=k.1;have I:it<C.objs.size:=qG H
 have N:h₂.get? C.objs.size=some { cls:=.type "tuple",data:=.seq #[es[i].key,es[i].val] }:=by rw[←p,←q];exact qL _ rfl
 have L:h₂.objs.size=C.objs.size+1:=by rw[←p,Heap.size_push,q]
 have K:∀b o,b≠it->C.get? b=some o->h₂.get? b=some o:=λb o M e=>by rw[←p];exact qH _ (k.extBut b o M e)
 show wpAny _ _ (Builtin.Dict_items.ownedTupleIsFree (.ref it) >>= _) _ _ ⟨h₂,g,S,tk,U⟩;rw[q];clear p j k v q a;refine qA ?_;unfold Builtin.Dict_items.ownedTupleIsFree;refine qA (wpAny_field h rfl (x:=.none) rfl (qE ?_))
 simp only[if_true]
 refine qA (wpAny_field h rfl (x:=ok) rfl ?_);refine qA (wpAny_field h rfl (x:=T) rfl ?_);refine qA (wpAny_setField_rec h (by simp) λB y c=>?_);replace c:Heap.SameBut it h₂ B:=c;replace y:IsItemIter B it d (i+1) es.size ep es[i].key T:=y;refine qA (wpAny_setField_rec y (by simp) λD r f=>?_);replace f:Heap.SameBut it B D:=f;replace r:IsItemIter D it d (i+1) es.size ep es[i].key es[i].val:=r;refine qA (wpAny_setField_rec r (by simp) λG t m=>?_);replace m:Heap.SameBut it D G:=m;replace t:IsItemIterOut G it d (i+1) es.size ep es[i].key es[i].val C.objs.size:=t;refine qA (wpAny_setField_rec t (by simp) λz u l=>?_);replace l:Heap.SameBut it G z:=l;replace u:IsItemIterOut z it d (i+1) es.size ep es[i].key es[i].val C.objs.size:=u;refine qA (wpAny_letGo (qE (qE ⟨_,O,qE (X z u ?_ ?_ ?_)⟩)))
 ·exact l.extBut _ _ (q0 I) (m.extBut _ _ (q0 I) (f.extBut _ _ (q0 I) (c.extBut _ _ (q0 I) N)))
 ·show z.objs.size=C.objs.size+1
  rw[l.1,m.1,f.1,c.1,L]
 ·exact λb o M e=>l.extBut b o M (m.extBut b o M (f.extBut b o M (c.extBut b o M (K b o M e))))
def xAjr{ok l:Value}(k:A.handled=none)(c:IsItemIter s.heap it d i n ep ok l)(f:s.heap.get? d=some od)(h:od.data=.dict es ep)(hn:es.size=n)(j:es.size≤i)(o:∀h',Heap.ExtBut it s.heap h'->Q none { s with heap:=h' }):wpAny (model prog w) A (pyNext (.ref it)) Q E s:=by
 subst hn;have e:s.TypeIs (.ref it) "dict_itemiterator":=⟨_,c,O⟩;unfold pyNext
 refine qA (wpAny_attempt (wpAny_callSpecial?_slot (name:=Str.ofString "__next__") e F.slot_dict_itemiterator_next
  (qN F.slot_dict_itemiterator_next e F.entry_dict_itemiterator_next ?_ (F.args_dict_itemiterator_next_1 _))))
 refine qA (qE ?_);refine qA ?_;refine qA ?_
 first|refine qA (wpAny_typeNameOfWhole_itemiter e (qE ?_))|refine qA (wpAny_typeNameOf_itemiter e (qE ?_))
 refine qA (wpAny_fieldsOf c rfl ?_)
 have g:Builtin.Dict_items.ownsTuple "dict_itemiterator"=true:=by decide
 simp only[g,if_true]
 show wpAny _ _ (if(Value.ref d==Value.none)=true then _ else _) _ _ s;rw[qB (show ¬((Value.ref d==Value.none)=true) from qk)];refine qA (qE ?_);refine qA (wpAny_dictEntries f h ?_);rw[qB (by simp)];refine qA (qE ?_);refine qA (wpAny_dictEpoch f h ?_);rw[qB (by simp)];refine qE ?_
 simp only[show ¬((i:Int)<0) from by omega,if_false,Int.toNat_natCast,Array.getElem?_eq_none j]
 refine qA ?_
 first|refine qA (wpAny_typeNameOfWhole_itemiter e (qE ?_))|refine qA (wpAny_typeNameOf_itemiter e (qE ?_))
 show wpAny _ _ (setField (.ref it) 2 .none >>= _) _ _ s;refine qA (wpAny_setField c rfl (by simp) ?_);show wpAny _ _ (newExc (.type "StopIteration") [] >>= _) _ _ _;refine qA ?_
 simp only[newExc,newTuple]
 refine qA (wpAny_newObj_type ?_ (by size_fits));refine qA (m:=firstArgMember _ _) (wpAny_of_eq (a:=Value.none) (by first|rfl|(simp only[firstArgMember];rfl)) ?_);refine wpAny_newObj_type ?_ (by size_fits)
 simp only[raiseNew]
 refine qA (wpAny_handled ?_);rw[show A.in1.handled=none from k];refine qA (qE (wpAny_throw ?_));refine qA (wpAny_isInstance (T:="StopIteration") (b:=true) ⟨_,qL _ rfl,O⟩ isSubtype_stop ?_);exact qE (o _ (((Heap.SameBut.update ..).extBut.push _).push _))
end
section
variable {X:Cx}{pins:List (Addr×Obj)}{σ:St}{H:Hp}{s:Shared}
def xArj(p:o.data=.dict es ep)(I:Inv X pins σ H s)(e:H a=some (.frz o (.dG kvs))):∀i (hi:i<es.size) (f:i<kvs.length),RelV kvs[i].2.2 es[i].val:=by
 obtain⟨n,_,_,xs,g,o',m,k,c,_,b,j,_⟩:s.heap.get? a=some o/\ObjOk X.prog X.w H s.heap a (.dG kvs):=I.hok a _ e;rw[n]at c;cases c;rw[p]at b;injection b with b _;subst b;intro i hi f
 have h:i<xs.length:=by rw[←g.length];exact f
 have d:=xAey g i f h
 have l:es[i].val=xs[i].2.2:=by
  have h1:es.toList[i]?=some es[i]:=by simp[hi]
  rw[j,qv,qg h]at h1;rw[←qK h1];rfl
 rw[l];exact d.2.2.2
end
def ItI(a:Addr)(o:Obj)(kvs:List (KD×V×V)):It :=
 ⟨λi H=>H a=some (.frz o (.dG kvs))/\i<kvs.length,λi H x H'=>∃p e,H p=none/\kvs[i]?=some e/\x=.ref p/\H'=upd H p (.tup [e.2.1,e.2.2]),λi H=>H a=some (.frz o (.dG kvs))/\kvs.length≤i⟩
def xAjs{P:Program}{w:World}{K:PySem.W.Frag}{G:List Expr}{k:Nat}{N:Pos}(a it:Addr){o:Obj}{es:Array DictEntry}{ep:Nat}{kvs:List (KD×V×V)}(l:o.data=.dict es ep) :
  Turn P w K (.Tuple G k N) (ItI a o kvs) [it] it (λi h=>∃ok g,IsItemIter h it a i kvs.length ep ok g) where
 mem:=by simp
 obj:=λi h st b T=>by
  have e:b=it:=by simpa using T
  subst e;obtain⟨ok,g,e⟩:=st;exact⟨_,e,λv z=>by cases z⟩
 keep:=λi h h' st k=>by
  obtain⟨ok,g,e⟩:=st;exact⟨ok,g,k it (by simp) _ e⟩
 item:=by
  intro X C u J d i pins s σ H E I r st y;subst C u J;obtain⟨t,hi⟩:=y;obtain⟨ok,g,st⟩:=st;obtain⟨B,D,p⟩:=xAej l I t;have m:=xArj l I t
  have f:i<es.size:=by omega
  have n:it<s.heap.objs.size:=qG st;refine xAhc st B l D f λh' a1 a2 Z S=>⟨_,O,wpAny_letOwnedTupleGo_items a1 λj Y bs=>?_⟩
  have U:Inv X pins σ H { s with heap:=j }:=I.turnedN (t':=s.toks) r λc o d q=>bs.extBut c o (λe=>d (by simp[e])) (S c o (λe=>d (by simp[e])) q)
  have M:j.get? s.heap.objs.size=some { cls:=.type "tuple",data:=.seq #[es[i].key,es[i].val] }:=bs.extBut _ _ (q0 n) a2;have L:H s.heap.objs.size=none:=I.hok.fresh (qb _);refine⟨.ref s.heap.objs.size,upd H s.heap.objs.size (.tup [kvs[i].2.1,kvs[i].2.2]),I.track U (qb _) L ⟨?_,[es[i].key,es[i].val],.cons (p i f hi) (.cons (m i f hi) .nil),⟨_,M,O,_,O⟩⟩,O,⟨_,kvs[i],L,qg hi,O,O⟩,⟨_,_,Y⟩,λc d=>?_⟩
  ·show 2≤sizeLine
   decide
  ·have e:c=it:=by simpa using d
   subst e;rw[xAae (qi n)];exact(r c (by simp)).1
 done:=by
  intro X C u J d i pins s σ H E I r st y;subst C u J;obtain⟨t,hi⟩:=y;obtain⟨ok,g,st⟩:=st;obtain⟨B,D,p⟩:=xAej l I t
  exact xAjr (I.ok.hd d) st B l D (by omega) λh' R=>⟨O,I.turnedN (t':=s.toks) r λc o d q=>R c o (λe=>d (by simp[e])) q⟩
 self:=λA i s Q E st h=>by
  obtain⟨ok,g,st⟩:=st;have x:s.TypeIs (.ref it) "dict_itemiterator":=⟨_,st,O⟩;refine wpAny_pyIter_slot x F.slot_dict_itemiterator_iter (qN F.slot_dict_itemiterator_iter x xAde ?_ (F.args_dict_itemiterator_iter_1 _));show wpAny _ _ (ret (.ref it)) _ _ s;exact qE ⟨_,O,"dict_itemiterator",_,x,F.slot_dict_itemiterator_next.lookup,h⟩
inductive IiItemsG(R:It->Hp->Prop)(x:V)(H1:Hp):Prop
 |mk (a:_) (kvs:_) (h0_:x=.ref a) (h1_:((H1 a=some (.dG kvs)/\∀o,R (ItI a o kvs) (upd H1 a (.frz o (.dG kvs))))\/∃o,H1 a=some (.frz o (.dG kvs))/\R (ItI a o kvs) H1)):IiItemsG R x H1
def iItemsG(tl:TE):TI:=λσ H R=>tl σ H λx H1=>IiItemsG R x H1
section
variable {X:Cx}
def xAcs{tl:TE}(E:PE X l tl)(f:attributeBase l "items" X.env (eval l X.env)=eval l X.env:=by rfl)(g:(apos.endLine==cpos.line)=true:=by rfl):PI X (.Tuple u k D) (.Call (.Attribute l "items" apos) [] [] cpos) (iItemsG tl):=by
 refine⟨?_⟩;intro pins s σ H R I h;refine wpAny_Call_method0_late f g (thn (E pins s σ H _ I h) λv c ⟨x,H1,y,L,J⟩=>?_);obtain⟨a,kvs,e,q⟩:=J;subst e;cases L
 obtain⟨H2,o,p,C,K⟩:∃(H2:Hp) (o:Obj),Inv X pins σ H2 c/\H2 a=some (.frz o (.dG kvs))/\R (ItI a o kvs) H2:=by
  rcases q with⟨m,q⟩|⟨o,m,q⟩
  ·obtain⟨_,_,xs,_,o,es,ep,d,_⟩:=(show ObjOk X.prog X.w H1 c.heap a (.dG kvs) from y.hok a _ m)
   exact⟨_,o,y.freezeG m d,xAab,q o⟩
  ·exact⟨_,o,y,m,q⟩
 ·obtain⟨d,_,t,xs,_,o',es,ep,j,A,r,_,_⟩:c.heap.get? a=some o/\ObjOk X.prog X.w H2 c.heap a (.dG kvs):=p.hok a _ C
  rw[d]at j;cases j;obtain⟨_,i,_⟩:=xAej r p C;refine⟨"dict","dict.items",PySem.F.plainAttrs_dict,PySem.F.slot_dict_items,PySem.F.type_dict_items,⟨o,d,A.1⟩,λb z=>?_,Calls.callWith_builtin rfl (PySem.evalArgs_none (xAof t d A ?_))⟩
  ·cases z
   exact⟨o,d,A.2.1⟩
  have n:(c.heap.push { cls:=.type "dict_items",data:=.fields #[.ref a] }).get? a=some o:=qH _ d;refine xAhb (s:={ c with heap:=c.heap.push { cls:=.type "dict_items",data:=.fields #[.ref a] } }) (v:=c.heap.objs.size) ⟨_,qL _ rfl,O,O⟩ n r ?_;have B:Inv X pins σ H2 { c with heap:=c.heap.push { cls:=.type "dict_items",data:=.fields #[.ref a] } }:=p.kept (t':=c.toks) λb o e=>qH _ e;refine⟨(c.heap.push { cls:=.type "dict_items",data:=.fields #[.ref a] }).objs.size,[(c.heap.push { cls:=.type "dict_items",data:=.fields #[.ref a] }).objs.size],_,_,H2,O,B.kept (t':=c.toks) λb o e=>qH _ e,xAjs a _ r,⟨_,_,by rw[←i];exact qL _ rfl⟩,λb G=>?_,K⟩
  have e:b=(c.heap.push { cls:=.type "dict_items",data:=.fields #[.ref a] }).objs.size:=by simpa using G
  subst e;exact B.fpOk (qb _) (B.hok.fresh (qb _))
end
def xAmi{a:Addr}{o:Obj}{kvs:List (KD×V×V)}{g:TG}{tb:TS}{D:Ends}{σ:St}{H:Hp}(b:Nat->St->Hp->Prop)(h0:b 0 σ H)(h:∀i σ H,b i σ H->H a=some (.frz o (.dG kvs)))(j:∀i e σ H p,kvs[i]?=some e->b i σ H->H p=none->g (.ref p) σ (upd H p (.tup [e.2.1,e.2.2])) λc H2=>tb { D with nx:=b (i+1),ct:=b (i+1),bk:=D.nx } c H2)(l:∀σ H,b kvs.length σ H->D.nx σ H) :
  ∃W:Nat->Nat->St->Hp->Prop,(∃m,W 0 m σ H)/\∀i m σ H,W i m σ H →
   ((ItI a o kvs).stop i H/\D.nx σ H)\/((ItI a o kvs).go i H/\∃N:St->Hp->Prop,(∀σ' H',N σ' H'->∃f,f<m/\W (i+1) f σ' H')/\∀x H',(ItI a o kvs).yld i H x H'->g x σ H' λc H2=>tb { D with nx:=N,ct:=N,bk:=D.nx } c H2):=by
 refine⟨λi m σ H=>m=kvs.length - i/\i≤kvs.length/\b i σ H,⟨kvs.length,by simp,Nat.zero_le _,h0⟩,?_⟩;rintro i m σ H ⟨rfl,hi,p⟩
 by_cases d:i<kvs.length
 ·refine .inr ⟨⟨h i σ H p,d⟩,b (i+1),λσ' H' n=>⟨kvs.length - (i+1),by omega,O,d,n⟩,λx H' y=>?_⟩
  obtain⟨q,e,hn,k,rfl,rfl⟩:=y;exact j i e σ _ q k p hn
 ·have e:i=kvs.length:=by omega
  subst e;exact .inl ⟨⟨h _ σ H p,qb _⟩,l σ H p⟩
def xAdi{own:List Str}{g:TG}(hz:kvs.length≤sizeLine)(c:Nat->List V->Hp->Prop)(h0:c 0 [] H)(r:∀i ys H,c i ys H->H a=some (.frz o (.dG kvs)))(s:∀i e ys H' p (k:V->Hp->Prop) (l:Hp->Prop),kvs[i]?=some e->c i ys H'->H' p=none->(∀y j,c (i+1) (ys++[y]) j->k y j)->(∀f,c (i+1) ys f->l f) →
   g (.ref p) (compSt own fr σ) (upd H' p (.tup [e.2.1,e.2.2])) λh H2=>n h H2 λb f=>if b=true then te h f k else l f)(A:∀H' p ys,c kvs.length ys H'->ys.length≤kvs.length->H' p=none->Q (.ref p) (upd H' p (.lst ys))):LCb own fr g n te σ Q (ItI a o kvs) H:=by
 refine⟨λi m ys H=>m=kvs.length - i/\i≤kvs.length/\ys.length≤i/\c i ys H,⟨kvs.length,by simp,Nat.zero_le _,Nat.zero_le _,h0⟩,?_⟩;rintro i m ys H ⟨rfl,hi,z,p⟩
 by_cases d:i<kvs.length
 ·refine .inr ⟨⟨r _ _ H p,d⟩,by omega,λx H' y=>?_⟩
  obtain⟨q,e,hn,t,rfl,rfl⟩:=y
  refine s i e ys _ q _ _ t p hn (λy j u=>⟨kvs.length - (i+1),by omega,O,d,?_,u⟩) λf w=>⟨kvs.length - (i+1),by omega,O,d,by omega,w⟩
  rw[qe,qo];omega
 ·have e:i=kvs.length:=by omega
  subst e;exact .inl ⟨⟨r _ _ H p,qb _⟩,λq v=>A H q ys p z v⟩
def xAmj(a v:Value):argsOk "max" ⟨[a],[(Str.ofString "key",v)]⟩:=by unfold argsOk;kernel_rfl
def xAhd{prog:Program}{w:World}{A:Around}{E:Value->Shared->Prop}{s:Shared}{id:String}{b:Builtin}{a:List Value}{d:List (Str×Value)}{Q:Value->Shared->Prop}(k:builtinKind id=none)(l:plainId id=true)(n:entryFor table id=some b)(m:argsOk id ⟨a,d⟩)(j:wpAny (model prog w) A.in1 (b ⟨a,d⟩) (λh s'=>match h with
   |.done f=>(match(Except.ok f:Result) with|.ok (.ret v)=>Q v s' |.ok _=>False|.error e=>E e s')
   |.again c'=>c'.quiet=true/\codeAny (model prog w) A c' (λr s'=>match r with|.ok (.ret v)=>Q v s' |.ok _=>False|.error e=>E e s') s') E s) :
  wpAny (model prog w) A (call (.builtin id) a d) Q E s:=by
 refine wpAny_call (codeAny_call_builtin l n ?_)
 simp only[checkBuiltinCall,k]
 cases c:Manifest.signature? id with
 |none=>exact qE j
 |some g =>
  have i:Bind.checkArgs id g ⟨a,d⟩=pure ():=by simpa only[argsOk,c] using m
  simp only[i]
  exact qE j
def xAhe:∀{names:List (Str×NameKind)} {acc:List (Str×Addr)},(clo env names acc).lookup x=some c->(x,NameKind.free)∈names\/acc.lookup x=some c
 |[],_,h=>.inr h
 |(n,k)::r,acc,h=>by
  rcases xAhe (names:=r) h with q|q
  ·exact .inl (qu _ q)
  ·cases b:(k==NameKind.free) with
   |false=>rw[b,qB qk]at q;exact .inr q
   |true =>
    rw[b,qF rfl,yy]at q
    cases a:(x==n) with
    |true =>
     have:=beq_iff_eq.mp a;subst this;have:=beq_iff_eq.mp b;subst this;exact .inl qp
    |false=>rw[a]at q;exact .inr q
structure LamSc(y z:Str)(sc:Scope):Prop where
 kind:sc.kind=.function
 co:sc.isCoroutine=false
 gen:sc.isGenerator=false
 cell:∀p∈sc.names,p.2≠.cell
 ly:sc.names.lookup y=some .local
 lz:sc.names.lookup z=some .free
 fr:∀p∈sc.names,p.2=.free->p.1=z
def lamEnv(qual:Str)(a:Scope)(cl:List (Str×Addr))(L f:Addr)(cd:Value):Env :=
 { scope:=a,locals:=L,globals:=mainGlobals,cells:=cl,qual:=qual++".<locals>.",func:=some f,code:=cd,frame:=some L,builtins:=builtinsNs }
def cxLam(P:Program)(w:World)(K:PySem.W.Frag)(mg:Str->Option Value)(base:Heap)(y z qual:Str)(a:Scope)(cl:List (Str×Addr))(f:Addr)(cd:Value)(A:Around)(outer:List Env)(s:Shared)(H:Hp):Cx where
 prog:=P
 w:=w
 K:=K
 mg:=mg
 base:=base
 A:=A.deeper (lamEnv qual a cl s.heap.objs.size f cd)
 N:=[y,z]
 s₀:=s
 H₀:=H
 env:=lamEnv qual a cl s.heap.objs.size f cd
 outer:=outer
 stack:=lamEnv qual a cl s.heap.objs.size f cd::outer
 ex:=[]
 calm:=true
 fn:=λ_=>false
 pn:=[]
 xe:=λ_ _=>False
def xAug{P:Program}{w:World}{K:PySem.W.Frag}{mg:Str->Option Value}{base:Heap}{y z qual:Str}{q:Scope}{cl:List (Str×Addr)}{f c:Addr}{cd x u:Value}{A:Around}{outer:List Env}{s:Shared}{H:Hp}{v t:V}{h':Heap}{tk:Nat}(S:LamSc y z q)(F:A.handled=none)(g:Env0 P w K mg base A outer s H)(B:RelV v x)(j:∀n a,cl.lookup n=some a->n=z/\a=c)(hz:cl.lookup z=some c)(C:s.heap.IsCell c (some u))(r:H c=none)(D:RelV t u)(hn:h'.Ns s.heap.objs.size (λn=>[(y,x)].reverse.lookup n))(old:∀b o,s.heap.get? b=some o->h'.get? b=some o):Inv (cxLam P w K mg base y z qual q cl f cd A outer s H) [] [some v,some t] H { s with heap:=h',toks:=tk }:=by
 have k:∀b:Addr,b∉(cxLam P w K mg base y z qual q cl f cd A outer s H).ex:=λb z=>absurd (show b∈([]:List Addr) from z) (by simp)
 have l:h'.IsCell c (some u):=let⟨o,e,d⟩:=C;⟨o,old _ _ e,d⟩
 refine⟨⟨g.mod,S.kind,O,O,qb _,λn m a h1 h2=>(j n a h1).1.trans (j m a h2).1.symm,λn hn=>?_,λn a z=>(by cases z),λ_=>F,Around.frames_deeper g.frames,.inr ⟨O,O⟩,λb z=>absurd z (k b),g.bs,g.bsz,λb _ _=>k b,λb z=>absurd z (k b),g.funs,g.frf⟩,
  rfl,g.bare,Un.kept old,⟨_,hn,λi n G h1 h2 I=>?_⟩,λn a h=>?_,g.hok.fresh (Nat.le_refl _),λn a h=>?_,λp E=>absurd (show p∈([]:List (Addr×Obj)) from E) (by simp),g.hok.kept old,O⟩
 ·have hn:q.names.lookup n=some .cell\/q.names.lookup n=some .free:=hn
  rcases hn with hn|hn
  ·exact absurd rfl (S.cell _ (PySem.mem_of_lookup hn))
  ·have:=S.fr _ (PySem.mem_of_lookup hn) rfl
   have this:n=z:=this;rw[this];exact⟨c,hz⟩
 ·match i,h1,h2 with
  | 0,h1,h2 =>
   cases h1;cases h2;exact⟨x,B,.inl ⟨S.ly,by simp⟩⟩
  | 1,h1,h2 =>
   cases h1;cases h2;exact⟨u,D,.inr ⟨.inr S.lz,c,hz,l⟩⟩
  |i+2,h1,h2=>cases h1
 ·obtain⟨_,e⟩:=j n a h
  rw[e];exact⟨_,l⟩
 ·obtain⟨_,e⟩:=j n a h
  rw[e];exact r
def xAiy{P:Program}{w:World}{K:PySem.W.Frag}{mg:Str->Option Value}{base:Heap}{A:Around}{outer:List Env}{s:Shared}{H:Hp}{k:Nat}{f l c:Addr}{q:Str}{g:Arguments}{h:Expr}{d:Scope}{cl:List (Str×Addr)}{L j x u:Value}{y z:Str}{v p:V}{Q:VK}{tb:TE}(G:Room k A)(F:Env0 P w K mg base A outer s H)(N:s.heap.get? f=some (kla_obj "<lambda>" q g h d cl L l j))(D:s.heap.CodeRec (.ref l) q)(S:LamSc y z d)(i:bindArgs (kla_fn "<lambda>" q g h d cl L (.ref l) j) ⟨[x],[]⟩=pure [(y,x)])(U:RelV v x)(B:∀n a,cl.lookup n=some a->n=z/\a=c)(hz:cl.lookup z=some c)(X:s.heap.IsCell c (some u))(C:H c=none)(O:RelV p u)(R:PE (cxLam P w K mg base y z q d cl f (.ref l) A outer s H) h tb)(Z:tb [some v,some p] H Q) :
  codeAny (model P w) A (.call (.ref f) ⟨[x],[]⟩) (CR CX0 outer P w H s Q E0) s:=by
 have r:s.heap.NoLimit:=F.mod.nolimit.keeps λb o e=>(F.bs b o e).1;refine kla_callFunE G.depth N rfl S.co S.gen rfl D ?_;rw[i];refine qE ?_;refine wpAny_newFunctionEnv S.cell (λn hn=>by rw[qt.mp hn];exact S.ly) (λh' t E=>?_) S.kind;have old:∀b o,s.heap.get? b=some o->h'.get? b=some o:=λb o e=>E.extBut b o (qi (qG e)) (qH _ e);refine⟨r.keeps old,kla_codeExpr ?_⟩;have I:=xAug (f:=f) (cd:=.ref l) (qual:=q) (tk:=s.toks+[(y,x)].length) S G.hd F U B hz X C O t old;refine qM (R [] _ [some v,some p] H Q I Z) (λu s' m=>?_) λe s' m=>False.elim m;obtain⟨M,H',J,T,Y⟩:=m;exact⟨M,H',J.os,J.bare,J.base,J.hok,T,Y⟩
section
variable {X:Cx}{pins:List (Addr×Obj)}{σ:St}{H:Hp}{s:Shared}
def xApw{cl:List (Str×Addr)}(I:Inv X pins σ H s)(k:X.env.code=.ref c)(Y:codeHdIn X.K c P=true)(Z:X.base.BuiltinsAt X.mg P)(l:Tb a.line a.col (X.env.qual++"<lambda>") P H)(D:defaultsOf d X.env=([],[]))(E:closureFor i X.env=pure cl)(h:∀f g j pm s' H',Inv X pins σ H' s'->Tb a.line a.col (X.env.qual++"<lambda>") P H'->H' g=some (codO g (X.env.qual++"<lambda>"))->Same (del H P) (del H' P)->H' f=none->f∉frs X.stack->s'.heap.get? f=some (kla_obj "<lambda>" (X.env.qual++"<lambda>") d n i cl pm g j)->Q (.ref f) s') :
  wpAny (model X.prog X.w) X.A (eval (.Lambda d n i a) X.env) Q X.xe s:=by
 have B:s.heap.Ns mainGlobals X.mg:=I.mod.glob.keeps I.bk;have C:CodeHd s.heap c P:=codeHd_of_K I.kIn Y;have S:s.heap.BuiltinsAt X.mg P:=Z.keeps I.bk
 have G:mainGlobals≠P:=λz=>by
  obtain⟨o,es,ep,e,_⟩:=I.mod.glob;obtain⟨ps,t⟩:=l.tbl;rw[←z]at t;rcases(I.bs _ _ e).2 with y|⟨xs,y⟩ <;> rw[y]at t <;> cases t
 refine kla_eval D ?_;rcases l with l|⟨g,l,hc'⟩
 ·have J:s.heap.get? P=some (tabObj #[]):=I.hok P _ l
  refine kla_makeFunction E I.ok.glob B k C J trivial rfl G S λg j h' tk W m F v x=>?_;have R:P<s.heap.objs.size:=I.hok.lt l;have N:P≠g:=qi (qq R m);have p:s.heap.objs.size≤h'.objs.size:=zt (yj m F)
  have e0:(#[]:Array Value)++#[rawInt a.line,rawInt a.col,.ref g]=#[rawInt a.line,rawInt a.col,.ref g]:=by simp
  rw[e0]at x;have M:h'.objs.size≠g:=q0 F;have L:h'.objs.size≠P:=q0 (qq R p);refine h _ g j _ _ _ (Inv.tabbed (q:=X.env.qual++"<lambda>") (more:=#[rawInt a.line,rawInt a.col,.ref g]) I l (λb o V e=>qH _ (W b o V e)) m ?_ (qH _ x)) (.inr ⟨g,by rw[xAae N,xAab],xAab⟩) xAab (λb u e=>?_) ?_ (I.nstk p) (qL _ rfl)
  ·obtain⟨c2,U,vs,tq,e,T,r⟩:=v
   exact⟨c2,U,vs,tq,e,qH _ T,r⟩
  ·by_cases z:b=P
   ·subst z;rw[xAcg]at e;cases e
   ·rw[xAau z]at e ⊢
    rw[xAae (λy=>by subst y;rw[I.hok.fresh m]at e;cases e),xAae z];exact e
  ·rw[xAae M,xAae L]
   exact I.hok.fresh p
 ·have J:s.heap.get? P=some (tabObj #[rawInt a.line,rawInt a.col,.ref g]):=I.hok P _ l
  refine kla_makeFunctionHit (cv:=.ref g) E I.ok.glob B k C J (by simp[TriplesOk,rawInt]) (by simp[codeAmong,rawInt]) S λj h' tk O hsz=>?_;refine h _ g j _ _ H ?_ (.inr ⟨g,l,hc'⟩) hc' (Same.refl _) (I.hok.fresh hsz) (I.nstk hsz) (qL _ rfl);exact I.un (Un.kept λb o e=>qH _ (O b o e)) (I.hok.kept λb o e=>qH _ (O b o e))
abbrev bstObj(xs:Array Value)(c:Nat):Obj:={ cls:=.type "list",dict:=none,data:=.seq xs c,slots:=#[] }
structure MSt(X:Cx)(H:Hp)(s:Shared)(it S p:Addr)(Hm:Hp)(s':Shared)(j:Nat)(bst:Array Value):Prop where
 un:Un (frs X.stack) [] H Hm s.heap s'.heap
 hok:HOk X.prog X.w Hm s'.heap
 os:s'.os=s.os
 bare:AllBare s'.gens
 same:Same H Hm
 fI:Hm it=none
 fS:Hm S=none
 gI:s'.heap.IsListIter it p j
 gS:∃c,s'.heap.get? S=some (bstObj bst c)
def MSt.inv{it S p:Addr}(M:MSt X H s it S p c s' j a)(I:Inv X pins σ H s):Inv X pins σ c s':=I.call' M.os M.un M.hok M.bare (λb z=>absurd z (by simp))
def xAiz{fa it S p:Addr}{ys:List V}{D:Nat->List Int}{C:Hp->V->VK->Prop}{a:Hp}{s':Shared}{j:Nat}{P:Array Value}{E:Value->Shared->Prop}(i:∀(s':Shared) (a:Hp) (x:Value) (y:V) (Q:VK),Env0 X.prog X.w X.K X.mg X.base X.A.in1 X.stack s' a->Un (frs X.stack) [] H a s.heap s'.heap->Same H a->RelV y x->C a y Q->codeAny (model X.prog X.w) X.A.in1 (.call (.ref fa) ⟨[x],[]⟩) (CR CX0 X.stack X.prog X.w a s' Q E0) s')(hsp:∀(m:Nat) y H' (Q':VK),ys[m]?=some y->Same H H'->(∀q g,Same H' q->DV q g (.tuple ((D m).map PyData.int))->Q' g q)->C H' y Q')(hh:X.A.handled=none)(I:Inv X pins σ H s)(hp:SqL H p ys)(hi:s.heap.objs.size≤it)(hS:s.heap.objs.size≤S)(U:it≠S)(nI:it∉frs X.stack)(nS:S∉frs X.stack)(hj:j<ys.length)(M:MSt X H s it S p a s' j P) :
  wpAny (model X.prog X.w) X.A.in1 (pyNext (.ref it)) (λr s1=>∃item,r=some item/\∀E',wpAny (model X.prog X.w) X.A.in1 (call (.ref fa) [item]) (λval s2=>∃y g H2,ys[j]?=some y/\RelV y item/\RelV g val/\DV H2 g (.tuple ((D j).map PyData.int))/\Same a H2/\MSt X H s it S p H2 s2 (j+1) P) E' s1) E s':=by
 have I':=M.inv I;have t:=hp.same M.same;obtain⟨its,rv,pl,hz⟩:=I'.list t;have hl:=rv.length
 have hlt:p<s'.heap.objs.size:=by obtain⟨_,e,_⟩:=pl.isList;exact qG e
 have hip:p≠it:=λz=>by
  obtain⟨o1,e1,c1,d1⟩:=pl.isList;obtain⟨o2,e2,c2,d2⟩:=M.gI;rw[z,e2]at e1;cases e1;rw[c1]at c2;injection c2 with z;exact absurd z (by decide)
 have hpS:p≠S:=λz=>by
  rcases hp with e|⟨o,e⟩
  ·have:=I.hok.lt e
   exact absurd this (by rw[z];exact Nat.not_lt.mpr hS)
  ·have:=I.hok.lt e
   exact absurd this (by rw[z];exact Nat.not_lt.mpr hS)
 have W:=Walks.list (prog:=X.prog) (w:=X.w) (A:=X.A.in1) hh it p hip its.toArray;refine W.item j s' _ _ (by rw[qr];omega) ⟨M.gI,pl.isList⟩ λv h' tk R L hk'=>⟨v,O,λE'=>?_⟩;have R:its.toArray[j]?=some v:=R;rw[List.getElem?_toArray]at R;have n:ys[j]?=some ys[j]:=qg hj;obtain⟨u',B,G⟩:=rv.get n;rw[R]at B;cases B
 have wr:∀b o,b≠it->s'.heap.get? b=some o->h'.get? b=some o:=λb o hb e=>hk' b o (by simpa using hb) e
 have l:Un (frs X.stack) [] H a s.heap h':=M.un.later λb o hb e=>wr b o (qi (qq hb hi)) e;have J:HOk X.prog X.w a h':=M.hok.other wr M.fI;have I1:Inv X pins σ a { s' with heap:=h',toks:=tk }:=I.call' (s':={ s' with heap:=h',toks:=tk }) M.os l J M.bare (λb z=>absurd z (by simp));have h:=I1.env0;refine wpAny_call (codeAny_mono (i { s' with heap:=h',toks:=tk } a v ys[j] (λg H2=>Same a H2/\DV H2 g (.tuple ((D j).map PyData.int))) ⟨h.frames,h.mod,h.bs,h.bsz,h.funs,h.frf,h.hok,h.bare⟩ l M.same G (hsp j ys[j] a _ n M.same λH2 g a1 a2=>⟨a1,a2⟩)) λZ s2 t=>?_)
 cases Z with
 |error e=>exact t.elim
 |ok fl =>
  cases fl with
  |next=>exact t.elim
  |brk=>exact t.elim
  |cont=>exact t.elim
  |ret u =>
   obtain⟨g,H2,Y,k,d,N,rel,f,T⟩:=t;obtain⟨c,gS⟩:=M.gS;obtain⟨oi,gi,ci,di⟩:=L.1;have F:=wr S _ U.symm gS;refine⟨ys[j],g,H2,n,G,rel,T,f,l.trans d,N,Y.trans M.os,k,M.same.trans f,d.free it _ gi M.fI (by simp),d.free S _ F M.fS (by simp),⟨oi,d.keep it _ gi M.fI nI (by simp),ci,di⟩,c,d.keep S _ F M.fS nS (by simp)⟩
def xAmk{fa it S p:Addr}{ys:List V}{D:Nat->List Int}{C:Hp->V->VK->Prop}{R:Result->Shared->Prop}(G:∀(s':Shared) (l:Hp) (x:Value) (y:V) (Q:VK),Env0 X.prog X.w X.K X.mg X.base X.A.in1 X.stack s' l->Un (frs X.stack) [] H l s.heap s'.heap->Same H l->RelV y x->C l y Q->codeAny (model X.prog X.w) X.A.in1 (.call (.ref fa) ⟨[x],[]⟩) (CR CX0 X.stack X.prog X.w l s' Q E0) s')(hsp:∀(m:Nat) y H' (Q':VK),ys[m]?=some y->Same H H'->(∀J B,Same H' J->DV J B (.tuple ((D m).map PyData.int))->Q' B J)->C H' y Q')(hu:X.A.units+3+61<cLine)(hh:X.A.handled=none)(I:Inv X pins σ H s)(hp:SqL H p ys)(hi:s.heap.objs.size≤it)(Y:s.heap.objs.size≤S)(E:it≠S)(nI:it∉frs X.stack)(nS:S∉frs X.stack)(fin:∀(m:Nat) (y:V) (u:Value) Hn O,ys[m]?=some y->RelV y u->(∀i,i<ys.length->ltD (.tuple ((D m).map PyData.int)) (.tuple ((D i).map PyData.int))=false)->Inv X pins σ Hn O->Same H Hn->R (.ok (.ret u)) O) :
  ∀(k j:Nat) (l:Hp) (s':Shared) (b:Nat) (y:V) (item val:Value) (B:V),ys.length - j=k->1≤j->j≤ys.length->MSt X H s it S p l s' j #[item,val]->b<j->ys[b]?=some y->RelV y item->RelV B val->DV l B (.tuple ((D b).map PyData.int)) →
   (∀i,i<j->ltD (.tuple ((D b).map PyData.int)) (.tuple ((D i).map PyData.int))=false)->codeAny (model X.prog X.w) X.A (.builtin "max.loop" ⟨[.ref it,.ref fa,.ref S],[]⟩) R s':=by
 have n:(toString "max"++toString ".loop":String) = "max.loop":=by decide
 intro k
 induction k with
 |zero =>
  intro j l s' b y item val B hk h1 hj M g hy ry rk dk v
  have hjl:j=ys.length:=by omega
  obtain⟨c,U⟩:=id M.gS;have I':=M.inv I;obtain⟨its,rv,pl,hz⟩:=I'.list (hp.same M.same);have hl:=rv.length
  have hip:p≠it:=λz=>by
   obtain⟨o1,e1,c1,d1⟩:=pl.isList;obtain⟨o2,e2,c2,d2⟩:=M.gI;rw[z,e2]at e1;cases e1;rw[c1]at c2;injection c2 with z;exact absurd z (by decide)
  have W:=Walks.list (prog:=X.prog) (w:=X.w) (A:=X.A.in1) hh it p hip its.toArray;refine codeAny_builtin F.entry_max_loop ?_;rw[Around.under_plainId F.plain_max_loop _];show wpAny _ X.A.in1 (seqItems? (.ref S) >>= _) _ _ s';refine qA (wpAny_seqItems U rfl ?_);show wpAny _ X.A.in1 (tryCatch (pyNext (.ref it)) _ >>= _) _ _ s';refine qA (wpAny_tryCatch (W.done s' _ _ ⟨by rw[qr,←hl,←hjl];exact M.gI,pl.isList⟩ λh' tk hk'=>?_))
  have wr:∀b o,b≠it->s'.heap.get? b=some o->h'.get? b=some o:=λb o g e=>hk' b o (by simpa using g) e
  have Z:=wr S _ E.symm U;show wpAny _ X.A.in1 (updateSeq S (λ_=>#[]) >>= _) _ _ _;refine qA ?_;refine wpAny_updateSeq Z rfl (qA (wpAny_letGo (qE ?_)));have wr2:∀b o,b≠it->b≠S->s'.heap.get? b=some o->(h'.update S (Obj.mapSeq λ_=>(#[]:Array Value))).get? b=some o:=λb o h1 h2 e=>(Heap.get?_update_other _ _ (Ne.symm h2)).trans (wr b o h1 e);refine fin b y item l _ hy ry (λi L=>v i (by omega)) ?_ M.same;refine I.call' (s':={ s' with heap:=h'.update S (Obj.mapSeq λ_=>(#[]:Array Value)),toks:=tk }) M.os (M.un.later λb o g e=>wr2 b o (Nat.ne_of_lt (Nat.lt_of_lt_of_le g hi)) (Nat.ne_of_lt (Nat.lt_of_lt_of_le g Y)) e) ?_ M.bare (λb z=>absurd z (by simp));exact(M.hok.other wr M.fI).other (λb u g e=>(Heap.get?_update_other _ _ (Ne.symm g)).trans e) M.fS
 |succ k ih =>
  intro j l s' b y item val B hk h1 hj M g hy ry rk dk v
  have hlt:j<ys.length:=by omega
  obtain⟨c,U⟩:=id M.gS;refine codeAny_builtin F.entry_max_loop ?_;rw[Around.under_plainId F.plain_max_loop _];show wpAny _ X.A.in1 (seqItems? (.ref S) >>= _) _ _ s';refine qA (wpAny_seqItems U rfl ?_);show wpAny _ X.A.in1 (tryCatch (pyNext (.ref it)) _ >>= _) _ _ s';refine qA (wpAny_tryCatch (qM (xAiz G hsp hh I hp hi Y E nI nS hlt M) (λr s1 hr=>?_) (λ_ _ z=>z)));obtain⟨d,rfl,hr⟩:=hr;show wpAny _ X.A.in1 (tryCatch (holding [d] (call (.ref fa) [d])) _ >>= _) _ _ s1;refine qA (wpAny_tryCatch (qJ (qM (hr (λ_ _=>False)) (λf s2 hR=>?_) (λ_ _ z=>z.elim))));obtain⟨y2,kv2,H2,hy2,ry2,rk2,N,t,h⟩:=hR;have I2:=h.inv I;obtain⟨as1,r1⟩:=N.reads I2 rk2;obtain⟨as2,r2⟩:=(dk.same t).reads I2 rk;obtain⟨c2,T⟩:=id h.gS;have irr:∀i,ltD (.tuple ((D i).map PyData.int)) (.tuple ((D i).map PyData.int))=false:=λi=>xAdp _
  have tr:∀a b c:Nat,ltD (.tuple ((D a).map PyData.int)) (.tuple ((D b).map PyData.int))=true->ltD (.tuple ((D b).map PyData.int)) (.tuple ((D c).map PyData.int))=true->ltD (.tuple ((D a).map PyData.int)) (.tuple ((D c).map PyData.int))=true:=λa b c h1 h2=>xAqt _ _ _ (by rw[sk];exact xAiv _ _) (by rw[sk];exact xAiv _ _) (by rw[sk];exact xAiv _ _) h1 h2
  show wpAny _ X.A.in1 (tryCatch (holding [d,f] (richCompare .Gt f val >>= _)) _ >>= _) _ _ s2;refine qA (wpAny_tryCatch (qJ (qA (xArh r1 r2 (by show X.A.units+1+2<cLine;omega) X.prog X.w _ _ ?_))));refine qA (qJ (wpAny_truthy_bool ?_));refine qA (wpAny_letGo (qE ?_))
  cases P:ltD (.tuple ((D b).map PyData.int)) (.tuple ((D j).map PyData.int)) with
  |true =>
   simp only[if_true]
   refine qA ?_;refine wpAny_updateSeq T rfl (qA (wpAny_letGo ?_));rw[n];have ot:∀b o,b≠S->s2.heap.get? b=some o->(s2.heap.update S (Obj.mapSeq λ_=>#[d,f])).get? b=some o:=λb o h2 e=>(Heap.get?_update_other _ _ (Ne.symm h2)).trans e;obtain⟨oi,gi,ci,di⟩:=id h.gI;refine qE ⟨plainId_quiet F.plain_max_loop _,ih (j+1) H2 _ j y2 d f kv2 (by omega) (by omega) (by omega) ⟨h.un.later λb o g e=>ot b o (qi (qq g Y)) e,h.hok.other (λb u g e=>ot b u g e) h.fS,h.os,h.bare,h.same,h.fI,h.fS,⟨oi,ot _ _ E gi,ci,di⟩,_,Heap.get?_update_self _ T rfl⟩ (by omega) hy2 ry2 rk2 N λi L=>?_⟩
   by_cases z:i=j
   ·rw[z];exact irr j
   ·have:=v i (by omega)
    cases q:ltD (.tuple ((D j).map PyData.int)) (.tuple ((D i).map PyData.int)) with
    |false=>rfl
    |true=>rw[tr _ _ _ P q]at this;cases this
  |false =>
   simp only[Bool.false_eq_true,if_false]
   refine qA (wpAny_letGo ?_);rw[n];refine qE ⟨plainId_quiet F.plain_max_loop _,ih (j+1) H2 _ b y item val B (by omega) (by omega) (by omega) h (by omega) hy ry rk (dk.same t) λi L=>?_⟩
   by_cases z:i=j
   ·rw[z];exact P
   ·exact v i (by omega)
def xAog{fa p:Addr}{ys:List V}{D:Nat->List Int}{C:Hp->V->VK->Prop}{Q:VK}(c:∀(s':Shared) (B:Hp) (x:Value) (y:V) (Q:VK),Env0 X.prog X.w X.K X.mg X.base X.A.in1 X.stack s' B->Un (frs X.stack) [] H B s.heap s'.heap->Same H B->RelV y x->C B y Q->codeAny (model X.prog X.w) X.A.in1 (.call (.ref fa) ⟨[x],[]⟩) (CR CX0 X.stack X.prog X.w B s' Q E0) s')(t:∀(m:Nat) y H' (Q':VK),ys[m]?=some y->Same H H'->(∀l kv,Same H' l->DV l kv (.tuple ((D m).map PyData.int))->Q' kv l)->C H' y Q')(hu:X.A.units+3+61<cLine)(hh:X.A.handled=none)(I:Inv X pins σ H s)(P:SqL H p ys)(hn:0<ys.length)(M:∀(m:Nat) (y:V) j,ys[m]?=some y->(∀i,i<ys.length->ltD (.tuple ((D m).map PyData.int)) (.tuple ((D i).map PyData.int))=false)->Same H j->Q y j) :
  wpAny (model X.prog X.w) X.A (call (.builtin "max") [.ref p] [(Str.ofString "key",.ref fa)]) (EP X pins σ Q) X.xe s:=by
 have f:(toString "max"++toString ".loop":String) = "max.loop":=by decide
 obtain⟨its,rv,pl,hz⟩:=I.list P;have J:=pl.isList
 have hlt:p<s.heap.objs.size:=by obtain⟨_,e,_⟩:=J;exact qG e
 refine xAhd F.kind_max F.plain_max F.entry_max (xAmj _ _) ?_;show wpAny _ X.A.in1 (Builtin.Builtins.bindParams "max" ["key","default"] 0 ⟨[],[(Str.ofString "key",.ref fa)]⟩ >>= _) _ _ s;refine qA (wpAny_of_eq (show Builtin.Builtins.bindParams "max" ["key","default"] 0 ⟨[],[(Str.ofString "key",.ref fa)]⟩=pure [some (.ref fa),none] from rfl) ?_);refine qA (qE ?_);refine qA (wpAny_pyIter_list J (qA (wpAny_newObj_type ?_)));rw[f];have T:(s.heap.push { cls:=.type "list_iterator",data:=.fields #[.ref p,.int 0 0] }).objs.size=s.heap.objs.size+1:=Heap.size_push ..;have L:∀b o,s.heap.get? b=some o->((s.heap.push { cls:=.type "list_iterator",data:=.fields #[.ref p,.int 0 0] }).push (bstObj #[] 0)).get? b=some o:=λb o e=>qH _ (qH _ e);have gI:((s.heap.push { cls:=.type "list_iterator",data:=.fields #[.ref p,.int 0 0] }).push (bstObj #[] 0)).IsListIter s.heap.objs.size p 0:=⟨_,qH _ (qL _ rfl),O,O⟩;have q:((s.heap.push { cls:=.type "list_iterator",data:=.fields #[.ref p,.int 0 0] }).push (bstObj #[] 0)).get? (s.heap.push { cls:=.type "list_iterator",data:=.fields #[.ref p,.int 0 0] }).objs.size=some (bstObj #[] 0):=qL _ rfl;refine qE ⟨plainId_quiet F.plain_max_loop _,?_⟩;show codeAny _ X.A (.builtin "max.loop" ⟨[.ref s.heap.objs.size,.ref fa,.ref (s.heap.push { cls:=.type "list_iterator",data:=.fields #[.ref p,.int 0 0] }).objs.size],[]⟩) _ { s with heap:=(s.heap.push { cls:=.type "list_iterator",data:=.fields #[.ref p,.int 0 0] }).push (bstObj #[] 0) };rw[T]at q ⊢;generalize (s.heap.push { cls:=.type "list_iterator",data:=.fields #[.ref p,.int 0 0] }).push (bstObj #[] 0)=h2 at L gI q ⊢;have hi:s.heap.objs.size≤s.heap.objs.size:=qb _;have n:s.heap.objs.size≤s.heap.objs.size+1:=wg _;have h:s.heap.objs.size≠s.heap.objs.size+1:=qi (wk _);have nI:=I.nstk hi;have nS:=I.nstk n;have fI:=I.hok.fresh hi;have fS:=I.hok.fresh n;generalize s.heap.objs.size+1=S at q n h nS fS ⊢;have M0:MSt X H s s.heap.objs.size S p H { s with heap:=h2 } 0 #[]:=⟨Un.kept L,I.hok.kept L,O,I.bare,Same.refl _,fI,fS,gI,0,q⟩;have E:∀(m:Nat) (y:V) (u:Value) j k,ys[m]?=some y->RelV y u->(∀i,i<ys.length->ltD (.tuple ((D m).map PyData.int)) (.tuple ((D i).map PyData.int))=false)->Inv X pins σ j k->Same H j->(λ(r:Result) s'=>match r with|.ok (.ret v)=>EP X pins σ Q v s' |.ok _=>False|.error e=>X.xe e s') (.ok (.ret u)) k:=λm y u j k h1 h2 h3 h4 h5=>⟨y,j,h4,h2,M m y j h1 h3 h5⟩;refine codeAny_builtin F.entry_max_loop ?_;rw[Around.under_plainId F.plain_max_loop _];show wpAny _ X.A.in1 (seqItems? (.ref S) >>= _) _ _ { s with heap:=h2 };refine qA (wpAny_seqItems q rfl ?_);show wpAny _ X.A.in1 (tryCatch (pyNext (.ref s.heap.objs.size)) _ >>= _) _ _ { s with heap:=h2 };refine qA (wpAny_tryCatch (qM (xAiz c t hh I P hi n h nI nS hn M0) (λr s1 U=>?_) (λ_ _ z=>z)));obtain⟨a,rfl,U⟩:=U;show wpAny _ X.A.in1 (tryCatch (holding [a] (call (.ref fa) [a])) _ >>= _) _ _ s1;refine qA (wpAny_tryCatch (qJ (qM (U (λ_ _=>False)) (λd s2 hR=>?_) (λ_ _ z=>z.elim))));obtain⟨y2,Z,H2,W,ry2,rk2,N,same2,g⟩:=hR;obtain⟨c2,G⟩:=id g.gS;show wpAny _ X.A.in1 (updateSeq S (λ_=>#[a,d]) >>= _) _ _ s2;refine qA ?_;refine wpAny_updateSeq G rfl ?_;rw[f];have Y:∀b o,b≠S->s2.heap.get? b=some o->(s2.heap.update S (Obj.mapSeq λ_=>#[a,d])).get? b=some o:=λb o h2 e=>(Heap.get?_update_other _ _ (Ne.symm h2)).trans e;obtain⟨oi,gi,ci,di⟩:=id g.gI;refine qE ⟨plainId_quiet F.plain_max_loop _,xAmk c t hu hh I P hi n h nI nS E _ 1 H2 _ 0 y2 a d Z rfl (by omega) (by omega) ⟨g.un.later λb o R e=>Y b o (qi (qq R n)) e,g.hok.other (λb u R e=>Y b u R e) g.fS,g.os,g.bare,g.same,g.fI,g.fS,⟨oi,Y _ _ h gi,ci,di⟩,_,Heap.get?_update_self _ G rfl⟩ (by omega) W ry2 rk2 N λi hi'=>?_⟩
 have:i=0:=by omega
 rw[this];exact xAdp _
def tMaxL(b cl:Nat)(q:Str)(P:Addr)(i:Nat)(tb:TE)(t:TA):TE:=λσ H Q=>t σ H λvs H1=>Tb b cl q P H1/\∀H2,Tb b cl q P H2->Same (del H1 P) (del H2 P)->∃p ys e,∃D:Nat->List Int,vs=[.ref p]/\SqL H2 p ys/\0<ys.length/\σ[i]?=some (some e) ∧
 (∀(m:Nat) y H' (c:VK),ys[m]?=some y->Same H2 H'->(∀a d,Same H' a->DV a d (.tuple ((D m).map PyData.int))->c d a)->tb [some y,some e] H' c) ∧
 ∀(m:Nat) y f,ys[m]?=some y->(∀j,j<ys.length->ltD (.tuple ((D m).map PyData.int)) (.tuple ((D j).map PyData.int))=false)->Same H2 f->Q y f
end
section
variable {X:Cx}{k:Nat}
def xAuh{p r kp pos:Pos}(J:X.env.code=.ref c)(hC:codeHdIn X.K c P=true)(hB:X.base.BuiltinsAt X.mg P)(hr:Room (k+2) X.A)(hg:Gl X x)(hm:X.mg x=none)(hv:bootBuiltins x=some (.builtin "max"))(S:LamSc y z b)(hN:X.N[i]?=some z)(hk:X.env.kindOf z=some .cell)(hX:∀x,X.env.kindOf x=some .cell->∃c,X.env.cells.lookup x=some c)(hcm:X.calm=true)(hfn:X.fn z=true)(G:∀cl pm cd O x,bindArgs (kla_fn "<lambda>" (X.env.qual++"<lambda>") d u b cl pm cd O) ⟨[x],[]⟩=pure [(y,x)])(hb:∀cl f cd A outer s H,Room k (cxLam X.prog X.w X.K X.mg X.base y z (X.env.qual++"<lambda>") b cl f cd A outer s H).A->PE (cxLam X.prog X.w X.K X.mg X.base y z (X.env.qual++"<lambda>") b cl f cd A outer s H) u tb)(ha:PA X [e] t)(T:defaultsOf d X.env=([],[]):=by rfl)(hn:x≠"__name__":=by decide)(hdb:(x==("__debug__":Str))=false:=by decide)(he:starEach [e] X.env=(false,eval e X.env)::starEach [] X.env:=by rfl):PE X (.Call (.Name x p) [e] [⟨some "key",.Lambda d u b r,kp⟩] pos) (tMaxL r.line r.col (X.env.qual++"<lambda>") P i tb t):=by
 refine⟨?_⟩;intro pins s σ H Q I h;obtain⟨v,j⟩:=hX z hk
 have m:∀y∈b.names,y.2=.free->∃c,X.env.cells.lookup y.1=some c:=λn hn e=>by rw[S.fr n hn e];exact⟨v,j⟩
 have hcl:=xAcv m;have U:=xAia m (acc:=[]) (λx c e=>by cases e)
 have l:∀n a,(clo X.env b.names []).lookup n=some a->n=z/\a=v:=λn a e=>by
  rcases xAhe e with q|q
  ·have M:n=z:=S.fr _ q rfl
   have:=U n a e;rw[M,j]at this;exact⟨M,(qK this).symm⟩
  ·cases q
 have Z:(clo X.env b.names []).lookup z=some v:=by
  obtain⟨V,R⟩:=xAib (env:=X.env) (acc:=[]) (.inl (PySem.mem_of_lookup S.lz));rw[R,(l z V R).2]
 refine wpAny_Call_Name_kw (xAdw I hg hm hv ?_ hn hdb);refine callWith_kw (thn (ha pos pins s σ H _ I h) λus s1 ⟨vs,H1,I1,r1,hT,q1⟩=>kws_cons (xApw I1 J hC hB hT T hcl λf V O pm s2 H2 B hT2 Y sm hf nf of=>kws_nil ?_)) (by rw[he];rfl) (by rw[he];rfl);obtain⟨p,ys,vz,D,rfl,hq,hn0,hσ,L,fin⟩:=q1 H2 hT2 sm;obtain⟨u0,rfl,ru0⟩:=vals1 r1;cases ru0;obtain⟨m0,hn1,hl⟩:=B.loc;obtain⟨uz,ruz,look⟩:=hl i z vz hN hσ (.inr (.inl hk))
 have g:s2.heap.IsCell v (some uz):=by
  rcases look with⟨kk,_⟩|⟨_,c2,E,g⟩
  ·rw[hk]at kk;cases kk
  ·rw[j]at E;cases E;exact g
 have F:=B.freeC z v j
 have nstk:v∉frs X.stack:=B.stkNot (B.cne z v j) (λhm=>by
  obtain⟨_,o,ho,_⟩:=B.ok.funs.mem hm
  exact absurd (qq (qG ho) (B.ok.cab z v hfn j)) (zn _))
 refine xAog (C:=λHm y Q=>tb [some y,some vz] Hm Q) (λs' Hm x y Q e0 un same r1 L=>?_) L (by have:=hr.un;omega) (B.ok.hd hcm) B hq hn0 fin;have W:s'.heap.CodeRec (.ref V) (X.env.qual++"<lambda>"):=(e0.hok V _ (same _ _ Y)).1;obtain⟨oc,ec,dc⟩:=g;exact xAiy hr.in1 e0 (un.keep f _ of hf nf (by simp)) W S (G _ _ _ _ _) r1 l Z ⟨oc,un.keep v _ ec F nstk (by simp),dc⟩ (un.free v _ ec F (by simp)) ruz (hb _ _ _ _ _ _ _ (hr.in1.deeper _)) L
end
def tDisp1G(tk tv:TE):TE:=λσ H Q=>∀p H0,H p=none->Same H H0->H0 p=some (.dG [])->tk σ H0 λx H1=>tv σ H1 λy H2=>H2 p=some (.dG [])/\∃k,GK H2 k x/\Q (.ref p) (upd H2 p (.dG [(k,x,y)]))
section
variable {X:Cx}
def xAja(P:X.A.units+2<cLine)(w:PE X k tk)(r:PE X v tv):PE X (.Dict [some k] [v] pos) (tDisp1G tk tv):=by
 refine⟨?_⟩;intro pins s σ H Q I q;have hn:=I.hok.fresh (qb s.heap.objs.size);have M:=I.laid (a:=s.heap.objs.size) (o:=.dG []) (h':=s.heap.push { cls:=.type "dict",data:=.dict #[] }) (t':=s.toks) (λ_ _ q=>qH _ q) (qb _) (xAls s.heap I.big);rw[arm_eval_Dict,zip_pairTrees [some k] [v] X.env pos rfl rfl,dictDisplay_pairs (pairTrees [some k] [v] X.env pos) (by simp[pairTrees]) (by rw[pairTrees_length [some k] [v] X.env pos rfl rfl];exact Nat.le_of_ble_eq_true rfl)];refine qA (wpAny_standAt (qA ?_));unfold subDict;refine qA (wpAny_alloc ?_);refine qA (qJ ?_);rw[qF (by rw[pairTrees_length [some k] [v] X.env pos rfl rfl];exact yt rfl)];refine qA (pairTrees_cons_walk (thn (w pins _ σ _ _ M (q _ _ hn (Same.new hn) xAab)) λu J ⟨x,H1,t,j,E⟩=>thn (r pins J σ H1 _ t E) λN s2 ⟨y,H2,g,F,e,kd,h,L⟩=>pairTrees_nil_walk ?_));obtain⟨z,C,xs,d,D⟩:=gd_rd g (.inl e);cases d;refine qJ ?_;refine qA ?_;rw[jn];refine qA (qA (xAlo (by omega) (h.is g j) D (qy _) λh' c f=>qE ?_));show wpAny _ _ (forIn [] _ _) _ _ _;rw[List.forIn_nil];refine qE (qE (qE (qE ?_)));obtain⟨o,es,ep,n,h2,B,G,_,K⟩:=c;refine⟨.ref s.heap.objs.size,_,xAec (ob:=.dG [(kd,x,y)]) g (by rw[e];exact True.intro) f ⟨o,n⟩ ⟨by show 1≤sizeLine;decide,C,_,Paired.mapP (xAoa (l:=[]) (m:=[]) .nil h j F) λp q z=>⟨z.1,z.2.1.stay λb xs i=>?_,z.2.2⟩,o,es,ep,n,h2,B,G,K⟩,O,L⟩;rw[xAae (ne_of i e (λz=>nomatch z))];exact i
end
def OnlyM(Ps:List Addr)(M:Addr->Option (List V))(H:Hp):Prop:=∀b,(b∈Ps/\H b=some (.tbl #[]))\/(b∉Ps/\∃xs,M b=some xs/\H b=some (.tup xs))\/(b∉Ps/\M b=none/\(H b=none\/∃o xs,H b=some (.frz o (.lst xs))))
def noLst(K:PySem.W.Frag):Bool:=K.all λp=>match p.2.cls,p.2.data with
 |.type t,.seq ..=>!(t=="list")
 |_,_=>true
def xAoh{K:PySem.W.Frag}{a:Addr}{us:Array Value}{n:Nat}(h:noLst K=true)(e:K.lookup a=some { cls:=.type "list",data:=.seq us n }):False:=by
 have:=j5.mp h _ (PySem.W.mem_of_lookupK e);have h2:(!(("list":String)=="list"))=true:=this;exact absurd h2 (by decide)
section
variable {prog:Program}{w:World}{A:Around}{E:Value->Shared->Prop}{s:Shared}
def xAml(Z:A.handled=none)(R:(d==sysModules)=false)(n:s.heap.get? d=some od)(J:od.ExactDict)(f:od.data=.dict es ep)(hz:es.size≤sizeLine)(hQ:∀s' acc c,Moved [] Eq s s'->s'.heap.get? s.heap.objs.size=some { cls:=.type "list",dict:=none,data:=.seq acc c,slots:=#[] }->acc.toList=es.toList.map (·.key)->Q (.ref s.heap.objs.size) s') :
  wpAny (model prog w) A (call (.type "list") [.ref d]) Q E s:=by
 refine callType_codes (Q₁:=λobj h=>obj=.ref s.heap.objs.size/\h={ s with heap:=s.heap.push { cls:=.type "list",data:=.seq #[] } }) F.called_list (F.typeCall_list_1 _) F.entry_list_init
  (code_list_new _ ⟨O,O⟩) λobj h r=>?_
 obtain⟨rfl,rfl⟩:=r;have m:(s.heap.push { cls:=.type "list",data:=.seq #[] }).get? s.heap.objs.size=some { cls:=.type "list",data:=.seq #[] }:=qL _ rfl;refine⟨⟨_,m,O⟩,F.args_list_init_2 _ _,?_⟩;have a:d<s.heap.objs.size:=qG n;generalize y:s.heap.push { cls:=.type "list",data:=.seq #[] }=h1 at m
 have S:∀b o,s.heap.get? b=some o->h1.get? b=some o:=λb o e=>by rw[←y];exact qH _ e
 show wpAny _ A.in1.in1 (do let old ←Builtin.List.listItems (.ref s.heap.objs.size);Builtin.List.listUpdate (.ref s.heap.objs.size) (λ_=>#[]);letGo old.toList.reverse;Builtin.List.listExtendWith (.ref s.heap.objs.size) (.ref d) .none) _ _ { s with heap:=h1 };refine qA ?_;unfold Builtin.List.listItems;refine qA (wpAny_seqItems (s:={ s with heap:=h1 }) m rfl (qE ?_));show wpAny _ A.in1.in1 (updateSeq s.heap.objs.size (λ_=>#[]) >>= λ_=>letGo (#[]:Array Value).toList.reverse >>= λ_=>Builtin.List.listExtendWith (.ref s.heap.objs.size) (.ref d) .none) _ _ { s with heap:=h1 };refine qA (wpAny_updateSeq (s:={ s with heap:=h1 }) m rfl ?_);have p:=Heap.get?_update_self (Obj.mapSeq (λ_=>(#[]:Array Value))) m rfl
 have l:∀b o,s.heap.get? b=some o->(h1.update s.heap.objs.size (Obj.mapSeq (λ_=>(#[]:Array Value)))).get? b=some o :=
  λb o e=>(Heap.get?_update_other _ _ (q0 (qG e))).trans (S b o e)
 have u:(h1.update s.heap.objs.size (Obj.mapSeq (λ_=>(#[]:Array Value)))).objs.size=s.heap.objs.size+1:=by rw[Heap.size_update,←y,Heap.size_push]
 show wpAny _ _ _ _ _ { s with heap:=h1.update s.heap.objs.size (Obj.mapSeq (λ_=>(#[]:Array Value))) };generalize h1.update s.heap.objs.size (Obj.mapSeq (λ_=>(#[]:Array Value)))=h2 at p l u;refine qA (wpAny_letGo ?_);have K:Shared.TypeIs { s with heap:=h2 } (.ref d) "dict":=⟨od,l _ _ n,J.1⟩
 have P:Builtin.List.listSameRef (.ref s.heap.objs.size) (.ref d)=false:=by
  show(s.heap.objs.size==d)=false;exact beq_eq_false_iff_ne.mpr (q0 a)
 unfold Builtin.List.listExtendWith;refine qA (wpAny_typeOf K ?_);rw[qB (by rw[P];decide)];refine qA (xAgy (s:={ s with heap:=h2 }) R (l _ _ n) J f ?_);refine qA (qJ ?_);show wpAny _ _ _ _ _ { s with heap:=h2.push { cls:=.type "dict_keyiterator",data:=.fields #[.ref d,.int 0 0,.int es.size 0,.int ep 0] } };have k:(h2.push { cls:=.type "dict_keyiterator",data:=.fields #[.ref d,.int 0 0,.int es.size 0,.int ep 0] }).IsKeyIter h2.objs.size d 0 es.size ep:=⟨_,qL _ rfl,O,O⟩;have C:∀b o,h2.get? b=some o->(h2.push { cls:=.type "dict_keyiterator",data:=.fields #[.ref d,.int 0 0,.int es.size 0,.int ep 0] }).get? b=some o:=λb o e=>qH _ e;generalize h2.push { cls:=.type "dict_keyiterator",data:=.fields #[.ref d,.int 0 0,.int es.size 0,.int ep 0] }=h3 at k C;have i:Shared.TypeIs { s with heap:=h3 } (.ref d) "dict":=⟨od,C _ _ (l _ _ n),J.1⟩;unfold Builtin.List.listLengthHint;refine qA (wpAny_specialOf (name:=Str.ofString "__len__") i F.slot_dict_len.lookup ?_);generalize q:("dict.__len__":String)=id0
 wp_delta
 rw[show splitId id0=some ("dict","__len__") from by subst q;decide +kernel];subst q;refine qA (wpAny_isInstance (T:="dict") i PySem.F.sub_dict_dict ?_);rw[qB (by decide)]
 wp_delta
 rw[qF (by decide +kernel)];refine qA (wpAny_typeOf i (qE ?_));rw[qF (by decide +kernel)];have B:=C _ _ p;refine qA (wpAny_rule (qA ?_));unfold Builtin.List.listTouch;refine qA (listUpdate_at (s:={ s with heap:=h3 }) B rfl ?_);obtain⟨M,j⟩:∃M,(h3.update s.heap.objs.size (Obj.mapSeq (·.push Value.none))).get? s.heap.objs.size=some (seqObj "list" #[Value.none] M):=⟨_,get?_update_seq B _⟩;have L:∀b o,b≠s.heap.objs.size->h3.get? b=some o->(h3.update s.heap.objs.size (Obj.mapSeq (·.push Value.none))).get? b=some o:=λb o g e=>(Heap.get?_update_other _ _ (λz=>g z.symm)).trans e;show wpAny _ _ _ _ _ { s with heap:=h3.update s.heap.objs.size (Obj.mapSeq (·.push Value.none)) };generalize h3.update s.heap.objs.size (Obj.mapSeq (·.push Value.none))=h4 at j L;refine listUpdate_at (s:={ s with heap:=h4 }) j rfl ?_;obtain⟨H,t⟩:∃H,(h4.update s.heap.objs.size (Obj.mapSeq (·.pop))).get? s.heap.objs.size=some (seqObj "list" #[] H):=⟨_,get?_update_seq j _⟩;have G:∀b o,b≠s.heap.objs.size->h3.get? b=some o->(h4.update s.heap.objs.size (Obj.mapSeq (·.pop))).get? b=some o:=λb o g e=>(Heap.get?_update_other _ _ (λz=>g z.symm)).trans (L b o g e);show wpAny _ _ _ _ _ { s with heap:=h4.update s.heap.objs.size (Obj.mapSeq (·.pop)) };generalize h4.update s.heap.objs.size (Obj.mapSeq (·.pop))=h5 at t G;show wpAny _ _ (again (Code.builtin "list.extend.loop" ⟨[Value.ref s.heap.objs.size,Value.ref h2.objs.size,Value.none],[]⟩)) _ _ _;rw[u]at k ⊢;have W:=xAix (prog:=prog) (w:=w) (A:=A.in1.in1) (it:=s.heap.objs.size+1) (d:=d) (od:=od) (es:=es) (ep:=ep) Z (q0 (wj a)) f;obtain⟨U,Y,N,X⟩:=k;refine qE ⟨plainId_quiet F.plain_extend_loop _,codeAny_extend_loopS W hz s.heap.objs.size (λz=>?_) _ es.size 0 { s with heap:=h5 } #[] H rfl (qy _) ⟨⟨U,G _ _ (je _) Y,N,X⟩,G _ _ (qi a) (C _ _ (l _ _ n))⟩ t (ItemsOf.nil _) λs' D V v I x=>?_⟩
 ·simp only[List.mem_cons,List.not_mem_nil,or_false]at z
  rcases z with z|z
  ·exact je _ z.symm
  ·exact q0 a z
 ·refine⟨O,hQ s' D V ⟨λb o _ e=>?_,v.gens,v.drawn,v.os,v.toks⟩ I (xAfx x)⟩
  have g:b<s.heap.objs.size:=qG e;refine v.heap b o (λz=>?_) (G b o (qi g) (C _ _ (l _ _ e)))
  simp only[List.mem_cons,List.not_mem_nil,or_false]at z
  rcases z with z|z
  ·exact qi g z
  ·exact qi (wj g) z
end
inductive ItLKeys(xs:List V)(H1:Hp)(Q:VK):Prop
 |mk (a:_) (kvs:_) (h0_:xs=[.ref a]) (h1_:Rd H1 a (.dG kvs)) (h2_:kvs.length≤1000) (h3_:∀p H',H1 p=none->Same H1 H'->H' p=some (.lst (kvs.map (·.2.1)))->Q (.ref p) H'):ItLKeys xs H1 Q
def tLKeys:List V->Hp->VK->Prop:=λxs H1 Q=>ItLKeys xs H1 Q
section
variable {X:Cx}
def xAmm(y:X.A.handled=none):CallR X (.type "list") tLKeys:=by
 intro pins s σ H xs us Q I r h;obtain⟨a,kvs,rfl,rd,hz,q⟩:=h;obtain⟨u,rfl,t⟩:=vals1 r;cases t;obtain⟨_,g,G,j,o,es,ep,v,z,d,k,w,hn⟩:=gd_rd I rd
 have f:es.size=kvs.length:=by
  have:es.toList.length=kvs.length:=by rw[k,qf,j.length]
  simpa using this
 refine xAml y g v z d (by rw[f,sizeLine_eq];omega) λs' acc c m C l=>?_
 have n:s'={ s with heap:=s'.heap,toks:=s'.toks }:=by
  obtain⟨E,p,x,B,F⟩:=m;cases s';cases p;cases x;cases B;rfl
 have i:=I.hok.fresh (a:=s.heap.objs.size) (qb _)
 have D:Inv X pins σ (upd H s.heap.objs.size (.lst (kvs.map (·.2.1)))) s':=by
  rw[n];refine I.laid (t':=s'.toks) (h':=s'.heap) (λb u e=>m.heap b u (by simp) e) (Nat.le_refl _) ⟨?_,acc.toList,c,?_,by simpa using C⟩
  ·show(kvs.map (·.2.1)).length≤sizeLine
   rw[qf,sizeLine_eq];omega
  ·rw[l,k,wx]
   exact xApv j
 exact⟨.ref _,_,D,O,q _ _ i (Same.new i) xAab⟩
end
section
variable {X:Cx}{a b e:Expr}{ta tb te:TE}{es:List Expr}{t:TA}{pos p:Pos}
def NmK(X:Cx)(i:Nat)(x:Str)(k:NameKind):Prop:=(X.N[i]?,X.env.scope.names.lookup x,(x==("__debug__":Str)),(x==("__classdict__":Str)))=(some x,some k,false,false)
def vv(i:Nat)(h:NmK X i x .local:=by exact rfl):PE X (.Name x pos) (tVar i):=pv i (congrArg (·.1) h) (.inl (congrArg (·.2.1) h)) (congrArg (·.2.2.1) h) (congrArg (·.2.2.2) h)
def vc(i:Nat)(h:NmK X i x .cell:=by exact rfl):PE X (.Name x pos) (tVar i):=pv i (congrArg (·.1) h) (.inr (.inl (congrArg (·.2.1) h))) (congrArg (·.2.2.1) h) (congrArg (·.2.2.2) h)
def vf(i:Nat)(h:NmK X i x .free:=by exact rfl):PE X (.Name x pos) (tVar i):=pv i (congrArg (·.1) h) (.inr (.inr (congrArg (·.2.1) h))) (congrArg (·.2.2.1) h) (congrArg (·.2.2.2) h)
def St1(X:Cx)(e:Expr):Prop:=∀es,starEach (e::es) X.env=(false,eval e X.env)::starEach es X.env
def a1(b:PE X a ta)(h:St1 X a:=by exact λ_=>rfl):PA X [a] (tCons ta tNil):=xAkh b xAbm (h _)
def a2(c:PE X a ta)(d:PE X b tb)(h:St1 X a:=by exact λ_=>rfl)(h2:St1 X b:=by exact λ_=>rfl):PA X [a,b] (tCons ta (tCons tb tNil)):=xAkh c (a1 d h2) (h _)
def ac(c:PE X a ta)(b:PA X es t)(h:St1 X a:=by exact λ_=>rfl):PA X (a::es) (tCons ta t):=xAkh c b (h _)
def xt(b:PE X a ta):PE X (.Subscript a (.Constant (.int i) j p) pos) (tOp (rIxT) ta (tC (.int i))):=pe_ix xAsu b xAaf (λ_ _=>rfl)
def xl(b:PE X a ta):PE X (.Subscript a (.Constant (.int i) j p) pos) (tOp (rIxL) ta (tC (.int i))):=pe_ix xAkn b xAaf (λ_ _=>rfl)
def xa(c:PE X a ta)(d:PE X b tb)(e:PlainIx b:=by exact λ_ _=>rfl):PE X (.Subscript a b pos) (tOp (rIxA) ta tb):=pe_ix ix_any c d e
def xi(c:PE X a ta)(d:PE X b tb)(e:PlainIx b:=by exact λ_ _=>rfl):PE X (.Subscript a b pos) (tOp (rIxL) ta tb):=pe_ix xAkn c d e
def xu(c:PE X a ta)(d:PE X b tb)(e:PlainIx b:=by exact λ_ _=>rfl):PE X (.Subscript a b pos) (tOp (rIxT) ta tb):=pe_ix xAsu c d e
def ce(f:OpR X (compareOp op) r)(d:PE X a ta)(e:PE X b tb)(c:behindInMarks op b=false:=by exact rfl):PE X (.Compare a [op] [b] pos) (tOp r ta tb):=xAsp f d e c
def ck(f:OpR X (compareOp op) r)(d:PE X a ta)(e:PE X b tb)(c:behindInMarks op b=false:=by exact rfl):PT X (.Compare a [op] [b] pos) (tTest (tOp r ta tb)):=xAsq f d e c
structure FnB(P:Program)(w:World)(K:PySem.W.Frag)(mg:Str->Option Value)(base:Heap)(k:Nat)(x:Str)(ps:List Str)(sp:Sp):Prop where
 out:∃f fd,FnOk P w K mg base CX0 k f fd ps sp/\mg x=some (.ref f)/\PySem.W.keepIn K (.ref f)=true/\Binds K fd ps []
variable {k n:Nat}{x:Str}{ps:List Str}{sp:Sp}
def cl(F:FnB X.prog X.w X.K X.mg X.base k x ps sp)(g:Room n X.A)(l:PA X (e::es) t)(j:k≤n:=by decide)(h:Gl X x:=by exact rfl)(a:(x==("__debug__":Str))=false:=by exact rfl)(d:St1 X e:=by exact λ_=>rfl)(c:(backTo pos (starEach es X.env)).any (·.1)=false:=by exact rfl) :
  PE X (.Call (.Name x p) (e::es) [] pos) (tCall sp [] E0 t):=by
 obtain⟨f,fd,F,i,b,m⟩:=F.out;exact xAss F (g.mono j) h i b m .nil pass0 l a (d _) c
def cb{id:String}{r:List V->Hp->VK->Prop}(g:CallR X (.builtin id) r)(h:X.mg x=none)(d:bootBuiltins x=some (.builtin id))(i:PA X (e::es) t)(f:Gl X x:=by exact rfl)(hn:x≠"__name__":=by decide)(a:(x==("__debug__":Str))=false:=by exact rfl)(c:St1 X e:=by exact λ_=>rfl)(b:(backTo pos (starEach es X.env)).any (·.1)=false:=by exact rfl):PE X (.Call (.Name x p) (e::es) [] pos) (tCB r t):=xAqi g f h d i hn a (c _) b
def cy(g:CallR X (.type T) r)(h:X.mg x=none)(d:bootBuiltins x=some (.type T))(i:PA X (e::es) t)(f:Gl X x:=by exact rfl)(hn:x≠"__name__":=by decide)(a:(x==("__debug__":Str))=false:=by exact rfl)(c:St1 X e:=by exact λ_=>rfl)(b:(backTo pos (starEach es X.env)).any (·.1)=false:=by exact rfl):PE X (.Call (.Name x p) (e::es) [] pos) (tCB r t):=xAnk g f h d i hn a (c _) b
def sn(d:X.N.Nodup)(i:Nat)(b:PE X e te)(hi:X.N[i]?=some x:=by exact rfl)(a:X.env.scope.names.lookup x=some .local:=by exact rfl)(c:swapsWith e (some (.Name x pos')) pos.line X.env=pure false:=by exact rfl):PS X (.Assign [.Name x pos'] e pos) (tAsg te (gName i)):=xAsl d hi (.inl a) b c (.inr a)
def sm(d:X.N.Nodup)(i:Nat)(a:PE X e te)(hi:X.N[i]?=some x:=by exact rfl)(c:X.env.scope.names.lookup x=some .cell:=by exact rfl)(b:swapsWith e (some (.Name x pos')) pos.line X.env=pure false:=by exact rfl)(f:X.fn x=true:=by exact rfl):PS X (.Assign [.Name x pos'] e pos) (tAsg te (gName i)):=xAsl d hi (.inr c) a b (.inl f)
def gn(b:X.N.Nodup)(i:Nat)(hi:X.N[i]?=some x:=by exact rfl)(a:X.env.scope.names.lookup x=some .local:=by exact rfl):PG X (.Name x pos) (gName i):=xAaq b hi (.inl a) (.inr a)
def gm(b:X.N.Nodup)(i:Nat)(hi:X.N[i]?=some x:=by exact rfl)(a:X.env.scope.names.lookup x=some .cell:=by exact rfl)(c:X.fn x=true:=by exact rfl):PG X (.Name x pos) (gName i):=xAaq b hi (.inr a) (.inl c)
def gt(h:PGs X es u)(b:X.calm=true:=by exact rfl)(hn:(assignEach es X.env).length=n:=by exact rfl)(a:(assignEach es X.env).findIdx? (·.1)=none:=by exact rfl):PG X (.Tuple es k pos) (gTup n u):=xAen b h hn a
def fo{tg a:Expr}{b:List Stmt}{c:TI}{g:TG}{tb:TS}(hi:PI X tg a c)(e:PG X tg g)(i:PSs X b tb)(h:PassesOwn (model X.prog X.w) X.A X.env X.xe:=by exact PassesOwn.never)(f:X.calm=true:=by exact rfl)(d:∀x,foldedSetIterable a X.env x=pure x:=by exact λ_=>rfl):PS X (.For tg a b [] pos) (tFor c g tb):=ps_for h f hi e i d
def il{tl:TE}(a:PE X l tl):PI X tg l (iList tl):=xAsm a
def bm{o:Expr}{to:TE}{name:Str}{T id:String}{apos:Pos}{r:V->List V->Hp->VK->Prop}(g:PlainAttrs T)(slot:Slot T name id)(f:typeOf (.builtin id)=pure (.type "method_descriptor"))(j:MtR X id r)(i:PE X o to)(k:PA X (e::es) t)(c:attributeBase o name X.env (eval o X.env)=eval o X.env:=by exact rfl)(d:((backTo pos (starEach (e::es) X.env)).all (λx=>!x.1)&&(backToKw pos (keywordEach [] X.env)).all (λx=>x.1.isSome)&&decide ((e::es).length+([]:List Keyword).length+(if([]:List Keyword).isEmpty then 0 else 1)<30))=true:=by exact rfl)(b:(apos.endLine==pos.line)=true:=by exact rfl)(h:St1 X e:=by exact λ_=>rfl)(a:(backTo pos (starEach es X.env)).any (·.1)=false:=by exact rfl) :
  PE X (.Call (.Attribute o name apos) (e::es) [] pos) (tBM T r to t):=pe_bm g slot f j i k c d b (h _) a
def ap{to:TE}(f:PE X o to)(g:PA X [e] t)(b:attributeBase o "append" X.env (eval o X.env)=eval o X.env:=by exact rfl)(d:St1 X e:=by exact λ_=>rfl)(c:((backTo pos (starEach [e] X.env)).all (λx=>!x.1)&&(backToKw pos (keywordEach [] X.env)).all (λx=>x.1.isSome)&&decide (([e]:List Expr).length+([]:List Keyword).length+(if([]:List Keyword).isEmpty then 0 else 1)<30))=true:=by exact rfl)(a:(apos.endLine==pos.line)=true:=by exact rfl):PS X (.Expr (.Call (.Attribute o "append" apos) [e] [] pos) p2) (tDrop (tBM "list" rAppend to t)) :=
 xAeb (bm PySem.F.plainAttrs_list PySem.F.slot_list_append PySem.F.type_list_append xAnl f g b c a d rfl)
def nd1{y:Str}:[y].Nodup:=zx.mpr ⟨List.not_mem_nil,yb⟩
def eqD(a:Room n X.A):OpR X (compareOp .Eq) (rEqD 64 false):=op_eqD (hu64 a)
def neD(a:Room n X.A):OpR X (compareOp .NotEq) (rEqD 64 true):=op_neD (hu64 a)
def ixD(a:Room n X.A):MtR X "list.index" (rIndexD 61):=xAnt (hu61 a)
def cnD(a:Room n X.A):MtR X "list.count" (rCountD 61):=xAnu (hu61 a)
def soK{i kp:Pos}(F:FnB X.prog X.w X.K X.mg X.base k y ps sp)(l:Room n X.A)(o:X.mg x=none)(j:bootBuiltins x=some (.builtin "sorted"))(r:PA X [e] t)(q:k+1≤n:=by decide)(m:Gl X x:=by exact rfl)(c:Gl X y:=by exact rfl)(b:ps.length=1:=by exact rfl)(hn:x≠"__name__":=by decide)(g:(x==("__debug__":Str))=false:=by exact rfl)(d:(y==("__debug__":Str))=false:=by exact rfl)(h:St1 X e:=by exact λ_=>rfl):PE X (.Call (.Name x p) [e] [⟨some "key",.Name y i,kp⟩] pos) (tCB (rSortK sp) t):=by
 obtain⟨f,fd,F,a,u,s⟩:=F.out;exact xArf F (l.mono q) m o j c a s b r hn g d (h _)
def lc0{y:Str}{f:Pos}{a d:Expr}{e:List Expr}{b:Scope}{g:TI}{h:TT}{te:TE}(hi:PI X (.Name y f) a g)(j:∀s H c,PTs (compCx X [y] b [] s H c) e h)(i:∀s H c,PE (compCx X [y] b [] s H c) d te)(m:X.calm=true:=by exact rfl)(S:CompSc b:=by exact⟨O,by decide +kernel,by decide +kernel⟩)(C:Caps X b [] []:=by exact caps0 (by decide +kernel))(l:∀s H c,PG (compCx X [y] b [] s H c) (.Name y f) (gName 0):=by exact λ_ _ _=>xAaq (nd1) rfl (.inl rfl) (.inr rfl))(k:∀x,foldedSetIterable a X.env x=pure x:=by exact λ_=>rfl) :
  PE X (.ListComp d [⟨.Name y f,a,e,0⟩] b pos) (tLC [y] [] g (gName 0) h te):=xAbi (own:=[y]) (fr:=[]) m hi S C l (λ_=>xAbn rfl) j i k
def lcd(a:Scope)(N:List Str)(fr:List (Str×Nat)){y:Str}{r:Pos}{d j:Expr}{k:List Expr}{b:Scope}{o:TI}{q:TT}{te:TE}(hi:PI X (.Name y r) d o)(w:∀s H m,PTs (compCx X (y::fr.map (·.1)) b (clo X.env b.names []) s H m) k q)(v:∀s H m,PE (compCx X (y::fr.map (·.1)) b (clo X.env b.names []) s H m) j te)(A:X.calm=true:=by exact rfl)(S:CompSc b:=by exact⟨O,by decide +kernel,by decide +kernel⟩)(h1:X.env.scope=a:=by exact rfl)(h2:X.N=N:=by exact rfl)(z:∀x,X.env.kindOf x=some .cell->∃c,X.env.cells.lookup x=some c:=by exact λ_ h=>xAay h)(g:∀y∈b.names,y.2≠.cell:=by decide +kernel)(f:∀y∈b.names,y.2=.free->a.names.lookup y.1=some .cell:=by decide +kernel)(i:∀p∈fr,N[p.2]?=some p.1/\a.names.lookup p.1=some .cell/\(relabel b { scope:=a,locals:=0,globals:=0,cells:=[] }).names.lookup p.1=some .cell:=by decide +kernel)(n:(y::fr.map (·.1)).Nodup:=by decide +kernel)(u:(relabel b { scope:=a,locals:=0,globals:=0,cells:=[] }).names.lookup y=some .local:=by decide +kernel)(t:∀x,foldedSetIterable d X.env x=pure x:=by exact λ_=>rfl) :
  PE X (.ListComp j [⟨.Name y r,d,k,0⟩] b pos) (tLC [y] fr o (gName 0) q te):=by
 have l:(relabel b X.env).names.lookup y=some .local:=by
  have e:relabel b X.env=relabel b { scope:=a,locals:=0,globals:=0,cells:=[] }:=by
   unfold relabel Env.kindOf;rw[h1]
  rw[e];exact u
 exact xAbi (own:=[y]) (fr:=fr) A hi S (xAbz a N h1 h2 z g f i) (λ_ _ _=>xAaq n rfl (.inl l) (.inr l)) (λ_=>xAbn rfl) w v t
end
structure FO(K:PySem.W.Frag)(mg:Str->Option Value)(x:Str)(st:Stmt):Prop where
 out:∃f fd,Fun K x x st f fd/\mg x=some (.ref f)
def mk_ok{P:Program}{w:World}{K:PySem.W.Frag}{mg:Str->Option Value}{base:Heap}{x:Str}{st:Stmt}{N ps:List Str}{k:Nat}{sp:Sp}(F:FO K mg x st)(S:FnScope N ps (defScope st))(h:∀(kV c d:Value) (e:Option Addr) (a i:Value) (us:List Value),us.length=ps.length->bindArgs (PySem.W.fnOf x x (defArgs st) (defBody st) (defScope st) .none kV c d e a i) ⟨us,[]⟩=pure (ps.zip us))(len:∀vs H Q E,sp vs H Q E->vs.length=ps.length)(b:∀(f:Addr) (a:Value) (A:Around) (outer:List Env) (s:Shared) (H:Hp) (vs:List V) (Q:VK) (E:XK),Room k (A.deeper (envOfC x (defScope st) s.heap.objs.size f a))->sp vs H Q E →
   ∃t,PSs (cxOf CX0 P w K mg base N x (defScope st) f a A outer s H E).nox (defBody st) t/\t { nx:=λ_ H'=>Q .non H',rt:=Q } (start N vs) H):FnB P w K mg base (k+1) x ps sp:=by
 obtain⟨f,fd,F,g⟩:=F.out;exact⟨f,fd,F.ok S len (b f),g,F.kp,F.binds h⟩
inductive FX(K:PySem.W.Frag)(n:Str)(s:Stmt):Prop
 |mk {a:Addr} {od an:Option Addr} {sl:Array (Option Value)} {oc kV dc pm cd ct:Value} (z1:PySem.W.nsIn K mainGlobals n=some (some (.ref a))) (z2:K.lookup a=some ⟨oc,od,.func (PySem.W.fnOf n n (defArgs s) (defBody s) (defScope s) .none kV dc pm an cd ct),sl⟩) (z3:PySem.W.codeIn K cd n=true) (z4:PySem.W.keepIn K (.ref a)=true):FX K n s
def FX.fo{K:PySem.W.Frag}{n:Str}{s:Stmt}{h:Heap}{mg:Str->Option Value}(f:FX K n s)(X:K.In h)(G:h.Ns mainGlobals mg):FO K mg n s:=by
 obtain⟨c,b,a,d⟩:=f;exact⟨_,_,xAtc (st:=s) b a d,PySem.W.mg_of X G c⟩
def tupIsV(o:Obj)(xs:List V):Bool:=match o with
 |⟨.type t,none,.seq its _,_⟩=>t=="tuple"&&decide (its.toList.map absV=xs.map some)
 |_=>false
def mstOk(K:PySem.W.Frag)(c:Addr×List V):Bool:=match K.lookup c.1 with
 |some o=>tupIsV o c.2&&Nat.ble c.2.length 1000
 |none=>false
def xAui(h:absV u=some x):RelV x u:=by
 cases u <;> simp only[absV,Option.some.injEq,reduceCtorEq]at h <;> subst h <;> first|rfl|exact⟨_,O⟩
def xAmn:∀{us:List Value} {xs:List V},us.map absV=xs.map some->Vals xs us
 |[],[],_=>.nil
 |u::us,x::xs,h=>by
  rw[zg,zg]at h;injection h with h1 h2;exact .cons (xAui h1) (xAmn h2)
def xAoi(e:h.get? b=some o)(t:tupIsV o xs=true)(f:xs.length≤sizeLine):ObjOk P w H h b (.tup xs):=by
 obtain⟨c,d,a,i⟩:=o;unfold tupIsV at t
 cases c <;> cases d <;> cases a <;> first|exact absurd t qk|skip
 rename_i ty its n
 have t:(ty=="tuple"&&decide (its.toList.map absV=xs.map some))=true:=t;rw[zb]at t
 have g:ty = "tuple":=by simpa using t.1
 subst g;exact⟨f,its.toList,xAmn (qO t.2),_,e,O,n,by simp⟩
def xAoj{P:Program}{w:World}{K:PySem.W.Frag}{mg mb:Str->Option Value}{CX:CXT}{k:Nat}{fa a:Addr}{fd:FuncData}{x:Str}{sp:Sp}{c:Shared}{vs:List Value}{ns:List Int}{Ps:List Addr}{M:Addr->Option (List V)}(KX:K.In c.heap)(hns:c.heap.Ns mainGlobals mg)(i:c.heap.Ns builtinsNs mb)(hbb:∀x:Str,x≠"__name__"->mb x=bootBuiltins x)(hlim:c.heap.NoLimit)(hg:c.gens=#[])(hnt:noTabs K=true)(hnl:noLst K=true)(B:∀Q∈Ps,c.heap.get? Q=some (tabObj #[])/\isCodeTable c.heap Q)(hbm:∀Q∈Ps,c.heap.BuiltinsAt mg Q)(U:∀b xs,M b=some xs->∃o,K.lookup b=some o/\tupIsV o xs=true/\xs.length≤sizeLine)(X:c.heap.get? a=some { cls:=.type "list",data:=.seq vs.toArray })(hi:IntsAre vs ns)(hl:ns.length≤sizeLine)(hr:Room k callerA)(F:∀base:Heap,K.In base->base.Ns mainGlobals mg->(∀Q∈Ps,base.BuiltinsAt mg Q)->FnOk P w K mg base CX k fa fd [x] sp)(S:∀(s:Shared) (u:Value),BindsTo s fd ⟨[u],[]⟩ [(x,u)])(hsp:∀H:Hp,OnlyM Ps M H->SqL H a (ns.map V.int)->sp [.ref a] H (λv _=>v=.bl true) λ_ _ _=>False)(hCX:∀H e s',CX [] H c (λ_ _ _=>False) e s'->False) :
  codeAny (model P w) callerA (.call (.ref fa) ⟨[.ref a],[]⟩) (λr s'=>r=.ok (.ret (.bool true))/\OldK c.heap s'.heap/\s'.os=c.os/\AllBare s'.gens) c:=by
 have rv:=xAhx hi;have lenV:=hi.length
 have naP:a∉Ps:=λz=>by
  have:=(B a z).1;rw[X]at this;cases this
 have kP:∀Q∈Ps,K.lookup Q=none:=λQ hQ=>by
  cases q:K.lookup Q with
  |none=>rfl
  |some o =>
   have e:=KX Q o q;rw[(B Q hQ).1]at e;cases e;have h2:=j5.mp hnt (Q,_) (mem_of_lookupK q);exact absurd (show false=true from h2) qk
 have mP:∀b xs,M b=some xs->b∉Ps:=λb xs e z=>by
  obtain⟨o,h1,_⟩:=U b xs e;rw[kP b z]at h1;cases h1
 have ma:M a=none:=by
  cases q:M a with
  |none=>rfl
  |some xs =>
   obtain⟨o,h1,h2,_⟩:=U a xs q;have e:=KX a o h1;rw[X]at e;cases e;have h2:(("list"=="tuple")&&decide (vs.toArray.toList.map absV=xs.map some))=true:=h2;rw[zb]at h2;exact absurd h2.1 (by decide)
 have core:∀H:Hp,OnlyM Ps M H->SqL H a (ns.map V.int)->HOk P w H c.heap->(∀b,H b≠none->b=a\/b∈Ps\/∃xs,M b=some xs)->(H a≠none->K.lookup a=none) →
   codeAny (model P w) callerA (.call (.ref fa) ⟨[.ref a],[]⟩) (λr s'=>r=.ok (.ret (.bool true))/\OldK c.heap s'.heap/\s'.os=c.os/\AllBare s'.gens) c:=by
  intro H hO hS T hA hK
  let H0:Hp:=λb=>if(M b).isSome=true then none else H b
  have L:∀b,H b=none->H0 b=none:=λb e=>by
   show(if(M b).isSome=true then none else H b)=none
   split
   ·rfl
   ·exact e
  have H0m:∀b xs,M b=some xs->H0 b=none:=λb xs e=>by
   show(if(M b).isSome=true then none else H b)=none;rw[e];rfl
  have f:∀{b:Addr} {o:Obj},c.heap.get? b=some o->H0 b=none->(hidT c.heap H0).get? b=some o:=λe n=>xAqc e n
  have l:∀{b:Addr} {o:Obj},c.heap.get? b=some o->(∀xs y,o.data≠.seq xs y)->o.data≠.fields #[]->H b=none:=λ{b o} e d1 d2=>by
   cases q:H b with
   |none=>rfl
   |some u =>
    rcases hA b (by rw[q];simp) with e' |e' |⟨xs,e'⟩
    ·subst e'
     rw[X]at e;cases e;exact absurd rfl (d1 _ _)
    ·rw[(B b e').1]at e;cases e
     exact absurd rfl d2
    ·rcases hO b with⟨_,z⟩|⟨_,ys,_,z⟩|⟨_,z,_⟩
     ·exact absurd (by assumption) (mP b xs e')
     ·obtain⟨_,its,_,o',ho',_,n,hd'⟩:=(show ObjOk P w H c.heap b (.tup ys) from T b _ z)
      rw[e]at ho';cases ho';exact absurd hd' (d1 _ _)
     ·rw[e']at z;cases z
  have G:∀{b:Addr} {m:Str->Option Value},c.heap.Ns b m->(hidT c.heap H0).Ns b m:=λ{b m} ⟨o,es,ep,e,d,r⟩=>⟨o,es,ep,f e (L _ (l e (λxs y z=>by rw[d]at z;cases z) (λz=>by rw[d]at z;cases z))),d,r⟩
  have Y:K.In (hidT c.heap H0):=λb o e=>f (KX b o e) (by
   cases q:H b with
   |none=>exact L b q
   |some u =>
    rcases hA b (by rw[q];simp) with e' |e' |⟨xs,e'⟩
    ·subst e'
     rw[hK (by rw[q];simp)]at e;cases e
    ·rw[kP b e']at e;cases e
    ·exact H0m b xs e')
  have hBb:∀Q∈Ps,(hidT c.heap H0).BuiltinsAt mg Q:=λQ hQ=>by
   obtain⟨bm,ob,b1,b2,b3,b4,b5,b6,b7,b8⟩:=hbm Q hQ;exact⟨bm,ob,b1,b2,b3,b4,f b5 (L _ (l b5 (λxs y z=>by rw[b8]at z;cases z) (λz=>by rw[b8]at z;cases z))),b6,b7,b8⟩
  have hM:Mod K mg (hidT c.heap H0):=⟨Y,G hns,⟨mb,G i,hbb⟩,let⟨mc,h1,h2⟩:=hlim;⟨mc,G h1,h2⟩⟩
  have hbs:∀b o,(hidT c.heap H0).get? b=some o->c.heap.get? b=some o/\(H b=none\/∃xs,H b=some (.tup xs)):=λb o e=>by
   obtain⟨h1,h2⟩:=xAsh e;refine⟨h1,?_⟩;rcases hO b with⟨E,z⟩|⟨_,xs,_,z⟩|⟨_,z,_⟩
   ·have D:(if(M b).isSome=true then none else H b)=none:=h2
    have mb:M b=none:=by
     cases q:M b with
     |none=>rfl
     |some xs=>exact absurd E (mP b xs q)
    rw[mb,qB (by decide),z]at D;cases D
   ·exact .inr ⟨xs,z⟩
   ·have D:(if(M b).isSome=true then none else H b)=none:=h2
    rw[z,qB (by decide)]at D;exact .inl D
  have e0:Env0 P w K mg (hidT c.heap H0) callerA [] c H:=⟨O,hM,hbs,Nat.le_of_eq (xAne _ _),trivial,λb i=>absurd (show b∈([]:List Addr) from i) (by simp),T,.of_eq hg⟩;refine codeAny_mono ((F _ Y (G hns) hBb).run callerA [] c H ⟨[.ref a],[]⟩ [.ref a] [.ref a] _ _ hr e0 (S c (.ref a)) (.cons rfl .nil) (hsp H hO hS)) λr s' h=>?_
  cases r with
  |error e=>exact(hCX H e s' h).elim
  |ok fl =>
   cases fl with
   |next=>exact False.elim h
   |brk=>exact False.elim h
   |cont=>exact False.elim h
   |ret u =>
    obtain⟨v,H',os,Z,un,J,r',q⟩:=h;have q':v=.bl true:=q;subst q';obtain rfl:u=Value.bool true:=r';refine⟨O,⟨λb o e=>?_,λb o e=>un.there b o e (by simp)⟩,os,Z⟩;rcases hO b with⟨E,z⟩|⟨_,xs,_,z⟩|⟨_,_,z|⟨ob,xs,z⟩⟩
    ·obtain⟨more,z2⟩:=un.tbls b _ z
     have e2:s'.heap.get? b=some { cls:=.none,data:=.fields (#[]++more) }:=J b _ z2;rw[(B b E).1]at e;cases e;exact .inr (.inl ⟨(B b E).2,O,#[],more,O,e2⟩)
    ·exact .inl (un.tupo b o xs e z)
    ·exact .inl (un.keep b o e z (by intro y;exact absurd (show b∈([]:List Addr) from y) (by simp)) (by simp))
    ·have z2:=un.frzs b ob _ z
     obtain⟨e1,_⟩:=T b _ z;obtain⟨e2,_⟩:=J b _ z2;rw[e]at e1;cases e1;exact .inl e2
 have t:∀j:Option HO,(∀u,j=some u->ObjOk P w (λb=>if b∈Ps then some (.tbl #[]) else match M b with|some xs=>some (.tup xs)|none=>if b=a then j else none) c.heap a u) →
   HOk P w (λb=>if b∈Ps then some (.tbl #[]) else match M b with|some xs=>some (.tup xs)|none=>if b=a then j else none) c.heap:=λj N b u z=>by
  by_cases i:b∈Ps
  ·have z':=(qF i).symm.trans z
   cases z';exact(B b i).1
  ·have R:=(qB i).symm.trans z
   cases I:M b with
   |some xs =>
    simp only[I]at R
    cases R;obtain⟨o,h1,h2,h3⟩:=U b xs I;exact xAoi (KX b o h1) h2 h3
   |none =>
    simp only[I]at R
    by_cases g:b=a
    ·rw[qF g]at R
     subst g;exact N u R
    ·rw[qB g]at R;cases R
 have p:∀j:Option HO,(j=none\/∃o xs,j=some (.frz o (.lst xs)))->OnlyM Ps M (λb=>if b∈Ps then some (.tbl #[]) else match M b with|some xs=>some (.tup xs)|none=>if b=a then j else none):=λj N b=>by
  by_cases i:b∈Ps
  ·exact .inl ⟨i,qF i⟩
  ·cases I:M b with
   |some xs=>exact .inr (.inl ⟨i,xs,O,(qB i).trans (by simp only[I])⟩)
   |none =>
    refine .inr (.inr ⟨i,O,?_⟩)
    by_cases g:b=a
    ·have:(if b∈Ps then some (.tbl #[]) else match M b with|some xs=>some (.tup xs)|none=>if b=a then j else none)=j:=(qB i).trans (by simp only[I];rw[qF g])
     rcases N with z|⟨o,xs,z⟩
     ·exact .inl (this.trans z)
     ·exact .inr ⟨o,xs,this.trans z⟩
    ·exact .inl ((qB i).trans (by simp only[I];rw[qB g]))
 have A:∀j:Option HO,∀b,(if b∈Ps then some (.tbl #[]) else match M b with|some xs=>some (.tup xs)|none=>if b=a then j else none)≠none->b=a\/b∈Ps\/∃xs,M b=some xs:=λj b z=>by
  by_cases i:b∈Ps
  ·exact .inr (.inl i)
  ·cases I:M b with
   |some xs=>exact .inr (.inr ⟨xs,O⟩)
   |none =>
    by_cases g:b=a
    ·exact .inl g
    ·exact absurd ((qB i).trans (by simp only[I];rw[qB g])) z
 have C:∀j:Option HO,(if a∈Ps then some (.tbl #[]) else match M a with|some xs=>some (.tup xs)|none=>if a=a then j else none)=j:=λj=>(qB naP).trans (by simp only[ma];exact qF trivial)
 cases hk:K.lookup a with
 |some o =>
  have e:=KX a o hk;rw[X]at e;cases e;exact(xAoh hnl hk).elim
 |none =>
  exact core _ (p (some (.frz { cls:=.type "list",data:=.seq vs.toArray } (.lst (ns.map V.int)))) (.inr ⟨_,_,O⟩)) (.inr ⟨{ cls:=.type "list",data:=.seq vs.toArray },C _⟩) (t _ λu z=>by
   cases z
   exact⟨X,by rw[qf];exact hl,vs,_,rv,X⟩) (A _) λ_=>hk
def walk_ofQ{l:PySem.W.OpenLaw}{n k:Nat}{q:Program}{y:List Str}{XP:(Str->Option Value)->Heap->Prop}{YP:World->Heap->Prop}{d:DefRec}{K:Params->PySem.W.Frag}{CX:CXT}{sp:Sp}{x:Str}{Ps:List Addr}(ts:List Str)(ms:List (Addr×List V))(tb:Str->Addr)(hn:l.most=some n)(hn2:n≤sizeLine)(X:d.params.defaults=[])(hr:Room k callerA)(hY:∀(w:World) (h:Heap),YP w h->(K w.params).In h)(P:∀(w:World) (h:Heap),YP w h->∀Q∈Ps,h.get? Q=some (tabObj #[]))(hC:∀w:World,∀Q∈Ps,∃t∈ts,codeHdIn (K w.params) (tabC (K w.params) t) Q=true)(L:∀w:World,noTabs (K w.params)=true)(N:∀w:World,noLst (K w.params)=true)(S:∀w:World,∀t∈ts,tabP (K w.params) t=tb t)(p:∀w:World,∀t∈ts,tabP (K w.params) t∈Ps)(hms:∀w:World,(ms.all λc=>mstOk (K w.params) c)=true)(hmd:(ms.map (·.1)).Nodup)(F:∀(w:World) (mg:Str->Option Value) (fa:Addr) (h:Heap),(K w.params).In h->h.Ns mainGlobals mg->mg d.name=some (.ref fa) →
   ∃fd:FuncData,(∀(s:Shared) (u:Value),BindsTo s fd ⟨[u],[]⟩ [(x,u)]) ∧
    ∀base:Heap,(K w.params).In base->base.Ns mainGlobals mg->(∀t∈ts,base.BuiltinsAt mg (tabP (K w.params) t))->FnOk l.prog w (K w.params) mg base CX k fa fd [x] sp)(U:∀(H:Hp) (a:Addr) (ns:List Int),ns.length≤n->(∀t∈ts,H (tb t)=some (.tbl #[]))->(∀c∈ms,H c.1=some (.tup c.2))->SqL H a (ns.map V.int)->sp [.ref a] H (λv _=>v=.bl true) λ_ _ _=>False)(hCX:∀(H:Hp) (s:Shared) (e:Value) (s':Shared),CX [] H s (λ_ _ _=>False) e s'->False) :
  PySem.W.WalkO q y XP YP l.row.toRowW d [] (λf vs=>PySem.call f vs):=by
 refine Att.attach_call hn X λw s₀ m mg mb fa o pm cd doc a vs ns G Y ho hd hcd hmg C r j hg=>?_;have J:=hY w _ Y;obtain⟨fd,hb,hF⟩:=F w mg fa _ J G.T.g hmg;have I:=P w _ Y
 have R:∀Q∈Ps,m.heap.BuiltinsAt mg Q:=λQ D=>by
  obtain⟨bm,ob,b1,b2,E,b4,b5,b6⟩:=G.T.bmain;refine⟨bm,ob,b1,b2,λq=>?_,λq=>?_,E,b4,b5,b6⟩
  ·obtain⟨o,es,ep,e,hd,_⟩:=G.T.g
   rw[q,e]at E;cases E;rw[hd]at b6;cases b6
  ·rw[q,I Q D]at E;cases E;cases b4
 let M:Addr->Option (List V):=λb=>(ms.find? λc=>decide (c.1=b)).map (·.2)
 have Z:∀b xs,M b=some xs->(b,xs)∈ms:=λb xs e=>by
  obtain⟨c,i,rfl⟩:=z9.mp e
  have h1:c.1=b:=by simpa using List.find?_some i
  rw[←h1];exact kg i
 have A:∀c∈ms,M c.1=some c.2:=λc i=>by
  have go:∀(l:List (Addr×List V)),(l.map (·.1)).Nodup->c∈l->(l.find? λd=>decide (d.1=c.1)).map (·.2)=some c.2:=λl=>by
   induction l with
   |nil=>intro _ z;cases z
   |cons d l ih =>
    intro nd hm;rw[zg,zx]at nd;rw[wt]
    by_cases h:d.1=c.1
    ·rw[qI h]
     rcases qz.mp hm with z|z
     ·rw[z];rfl
     ·exact absurd (h▸qj.mpr ⟨c,z,O⟩:d.1∈l.map (·.1)) nd.1
    ·rw[decide_eq_false h]
     rcases qz.mp hm with z|z
     ·exact absurd (by rw[z]) h
     ·exact ih nd.2 z
  exact go ms hmd i
 have look:∀c∈ms,∃o,(K w.params).lookup c.1=some o/\tupIsV o c.2=true/\c.2.length≤sizeLine:=λc i=>by
  have h:=j5.mp (hms w) c i;unfold mstOk at h
  cases q:(K w.params).lookup c.1 with
  |none=>rw[q]at h;exact absurd h qk
  |some o =>
   rw[q]at h;have h:(tupIsV o c.2&&Nat.ble c.2.length 1000)=true:=h;rw[zb]at h;exact⟨o,O,h.1,zt (xAaj (yt h.2))⟩
 refine xAoj (M:=M) J G.T.g G.T.b G.T.builtins G.T.nolimit hg (L w) (N w) (λQ D=>⟨I Q D,(((codeHd_of_K J (hC w Q D).choose_spec.2)).tab (I Q D)).isCodeTable⟩) R (λb xs e=>look _ (Z b xs e)) C r (qc j hn2) hr (λbase h1 h2 h3=>hF base h1 h2 λt B=>h3 _ (p w t B)) hb (λH hO hS=>U H a ns j (λt B=>S w t B▸?_) (λc i=>?_) hS) λH e s'=>hCX H m e s'
 ·rcases hO (tabP (K w.params) t) with z|z|z
  ·exact z.2
  ·exact absurd (p w t B) z.1
  ·exact absurd (p w t B) z.1
 ·rcases hO c.1 with z|⟨_,ys,hy,z⟩|⟨_,z,_⟩
  ·obtain⟨o,h1,h2,_⟩:=look c i
   have e:=J _ _ h1;rw[I _ z.1]at e;cases e;exact absurd h2 qk
  ·rw[A c i]at hy
   cases hy;exact z
  ·rw[A c i]at z;cases z
def tSortF(a cl:Nat)(q:Str)(P:Addr)(i:Nat)(tb:TE)(t:TA):TE:=λσ H Q=>t σ H λvs H1=>Tb a cl q P H1/\∀H2,Tb a cl q P H2->Same (del H1 P) (del H2 P)->∃b,σ[i]?=some (some b)/\rSortK (λvs H Q _=>∃y,vs=[y]/\tb [some y,some b] H Q) vs H2 Q
section
variable {X:Cx}{k:Nat}
def xArk{p r kp pos:Pos}(F:X.env.code=.ref c)(hC:codeHdIn X.K c P=true)(hB:X.base.BuiltinsAt X.mg P)(hr:Room (k+2) X.A)(hg:Gl X x)(hm:X.mg x=none)(hv:bootBuiltins x=some (.builtin "sorted"))(S:LamSc y z b)(hN:X.N[i]?=some z)(Y:X.env.kindOf z=some .cell)(hX:∀x,X.env.kindOf x=some .cell->∃c,X.env.cells.lookup x=some c)(hcm:X.calm=true)(hfn:X.fn z=true)(E:∀cl pm cd L x,bindArgs (kla_fn "<lambda>" (X.env.qual++"<lambda>") d u b cl pm cd L) ⟨[x],[]⟩=pure [(y,x)])(hb:∀cl f cd A outer s H,Room k (cxLam X.prog X.w X.K X.mg X.base y z (X.env.qual++"<lambda>") b cl f cd A outer s H).A->PE (cxLam X.prog X.w X.K X.mg X.base y z (X.env.qual++"<lambda>") b cl f cd A outer s H) u tb)(ha:PA X [e] t)(O:defaultsOf d X.env=([],[]):=by rfl)(hn:x≠"__name__":=by decide)(hdb:(x==("__debug__":Str))=false:=by decide)(he:starEach [e] X.env=(false,eval e X.env)::starEach [] X.env:=by rfl):PE X (.Call (.Name x p) [e] [⟨some "key",.Lambda d u b r,kp⟩] pos) (tSortF r.line r.col (X.env.qual++"<lambda>") P i tb t):=by
 refine⟨?_⟩;intro pins s σ H Q I h;obtain⟨v,j⟩:=hX z Y
 have m:∀y∈b.names,y.2=.free->∃c,X.env.cells.lookup y.1=some c:=λn hn e=>by rw[S.fr n hn e];exact⟨v,j⟩
 have hcl:=xAcv m;have R:=xAia m (acc:=[]) (λx c e=>by cases e)
 have l:∀n a,(clo X.env b.names []).lookup n=some a->n=z/\a=v:=λn a e=>by
  rcases xAhe e with q|q
  ·have J:n=z:=S.fr _ q rfl
   have:=R n a e;rw[J,j]at this;exact⟨J,(qK this).symm⟩
  ·cases q
 have W:(clo X.env b.names []).lookup z=some v:=by
  obtain⟨T,M⟩:=xAib (env:=X.env) (acc:=[]) (.inl (PySem.mem_of_lookup S.lz));rw[M,(l z T M).2]
 refine wpAny_Call_Name_kw (xAdw I hg hm hv ?_ hn hdb);refine callWith_kw (thn (ha pos pins s σ H _ I h) λus s1 ⟨vs,H1,I1,r1,hT,q1⟩=>kws_cons (xApw I1 F hC hB hT O hcl λf T L pm s2 H2 D hT2 V sm hf nf of=>kws_nil ?_)) (by rw[he];rfl) (by rw[he];rfl);obtain⟨vz,Z,q2⟩:=q1 H2 hT2 sm;obtain⟨m0,hn1,hl⟩:=D.loc;obtain⟨uz,ruz,look⟩:=hl i z vz hN Z (.inr (.inl Y))
 have g:s2.heap.IsCell v (some uz):=by
  rcases look with⟨kk,_⟩|⟨_,c2,B,g⟩
  ·rw[Y]at kk;cases kk
  ·rw[j]at B;cases B;exact g
 have C:=D.freeC z v j
 have nstk:v∉frs X.stack:=D.stkNot (D.cne z v j) (λhm=>by
  obtain⟨_,o,ho,_⟩:=D.ok.funs.mem hm
  exact absurd (qq (qG ho) (D.ok.cab z v hfn j)) (zn _))
 refine xAeh (λs' Hm x y Q e0 un same r1 G=>?_) (by have:=hr.un;omega) D r1 q2;obtain⟨y',hy,G⟩:=G;cases hy;have U:s'.heap.CodeRec (.ref T) (X.env.qual++"<lambda>"):=(e0.hok T _ (same _ _ V)).1;obtain⟨oc,ec,dc⟩:=g;exact xAiy hr.in2 e0 (un.keep f _ of hf nf (by simp)) U S (E _ _ _ _ _) r1 l W ⟨oc,un.keep v _ ec C nstk (by simp),dc⟩ (un.free v _ ec C (by simp)) ruz (hb _ _ _ _ _ _ _ (hr.in2.deeper _)) G
end
abbrev TJ:=St->Hp->Str->(Str->Hp->Prop)->Prop
def PJ(X:Cx)(es:List Expr)(a:TJ):Prop:=∀pins s σ H acc R,Inv X pins σ H s->a σ H acc R →
 Joins (model X.prog X.w) X.A X.xe (evalEach es X.env) acc (λout b=>∃H1,Inv X pins σ H1 b/\R out H1) s
def tjNil:TJ:=λ_ H acc R=>R acc H
def tjCons(te:TE)(a:TJ):TJ:=λσ H acc R=>te σ H λx H1=>∃z,x=.str z/\(acc++z).length≤16777216/\a σ H1 (acc++z) R
inductive ItFv(Q:VK)(x:V)(H1:Hp):Prop
 |mk (z:_) (h0_:x=.str z) (h1_:z.length≤16777216) (h2_:Q (.str z) H1):ItFv Q x H1
def tFv(te:TE):TE:=λσ H Q=>te σ H λx H1=>ItFv Q x H1
def tFst(a:TJ):TE:=λσ H Q=>a σ H Str.empty λout H1=>out.length≤16777216/\Q (.str out) H1
section
variable {X:Cx}
def pj_nil:PJ X [] tjNil:=λpins s σ H acc R I h=>⟨H,I,h⟩
def xAmo(b:PE X e te)(g:PJ X es a):PJ X (e::es) (tjCons te a):=by
 intro pins s σ H acc R I h;refine qM (b pins s σ H _ I h) (λv f ⟨x,H1,i,d,c⟩=>?_) λ_ _ e=>e;obtain⟨z,rfl,hz,q⟩:=c;obtain⟨t,rfl⟩:=d;exact⟨z,t,O,by rw[sizeLine_eq];exact hz,g pins f σ H1 _ R i q⟩
def pe_fv(b:PE X e te):PE X (.FormattedValue e (-1) none pos) (tFv te):=by
 refine⟨?_⟩;intro pins s σ H Q I h;refine wpAny_FormattedValue_plain (qM (b pins s σ H _ I h) (λv f ⟨x,H1,a,d,c⟩=>?_) λ_ _ e=>e);obtain⟨z,rfl,hz,q⟩:=c;obtain⟨t,rfl⟩:=d;exact wpAny_formatField_str ⟨.str z,H1,a,⟨_,O⟩,q⟩ ⟨.str z,H1,a.tok _,⟨_,O⟩,q⟩ (by rw[sizeLine_eq];exact hz)
def pe_fst(g:PJ X (b::c::es) a):PE X (.JoinedStr (b::c::es) pos) (tFst a):=by
 refine⟨?_⟩;intro pins s σ H Q I h;refine wpAny_JoinedStr ?_;have:=g pins s σ H _ _ I h;refine(?_:∀(ps:List (Sem Value)) acc s,Joins (model X.prog X.w) X.A X.xe ps acc _ s->Joins (model X.prog X.w) X.A X.xe ps acc _ s) _ _ _ this;intro ps
 induction ps with
 |nil =>
  rintro acc s ⟨H1,i,hz,q⟩;exact⟨by rw[sizeLine_eq];exact hz,.str acc,H1,i.tok _,⟨_,O⟩,q⟩
 |cons p ps f =>
  intro acc s h;refine qM h (λv j h1=>?_) λ_ _ e=>e;obtain⟨y,t,rfl,hz,d⟩:=h1;exact⟨y,t,O,hz,f _ _ d⟩
end
section
variable {prog:Program}{w:World}{A:Around}{E:Value->Shared->Prop}{s:Shared}
def xAfz(a v:Value):checkTypeCall "enumerate" { pos:=[a],kw:=[("start",v)] }=pure ():=by
 first
 |rfl
 |kernel_rfl
def xAhf(a v:Value):checkBuiltinCall "enumerate.__new__" { pos:=[.type "enumerate",a],kw:=[("start",v)] }=pure ():=by
 first
 |rfl
 |kernel_rfl
def wp_ite{α:Type}{M:Model}{c:Bool}{a b:Sem α}{Q:α->Shared->Prop}(h1:wpAny M A a Q E s)(h2:wpAny M A b Q E s):wpAny M A (if c=true then a else b) Q E s:=by
 cases c
 ·exact h2
 ·exact h1
def xAuj(a x v:Value):argsOk "object.__init__" { pos:=[a,x],kw:=[("start",v)] }:=by
 unfold argsOk;rw[signature?_of (id:="object.__init__") (n:=['_','_','t','i','n','i','_','_']) (o:=['t','c','e','j','b','o']) (by kernel_rfl) F.owner_object]
 kernel_rfl
def xArl(c:s.TypeIs (.ref a) "enumerate")(h:Q () s):wpAny (model prog w) A (checkBuiltinCall "object.__init__" { pos:=[.ref a,x],kw:=[("start",v)] }) Q E s:=by
 unfold checkBuiltinCall;rw[show builtinKind "object.__init__"=some .slot from by kernel_rfl,show splitId "object.__init__"=some ("object","__init__") from by decide +kernel];dsimp only;refine qA (wpAny_isInstance (T:="enumerate") (b:=true) c (by rw[isSubtype_type];kernel_rfl) ?_);rw[qB (by decide)];exact wpAny_of_eq (xAuj _ _ _) h
def xAga(a:Value)(kw:List (Str×Value)):Builtin.SmallTypes.newClass "enumerate" { pos:=[.type "enumerate",a],kw:=kw }=pure (.type "enumerate",[a]):=by
 first
 |rfl
 |kernel_rfl
def xAmp(n:s.heap.IsList l items)(p:∀h',IsEnum h' (s.heap.objs.size+1) s.heap.objs.size 1 .none->h'.IsListIter s.heap.objs.size l 0->h'.objs.size=s.heap.objs.size+2->(∀b o,s.heap.get? b=some o->h'.get? b=some o)->Q (.ref (s.heap.objs.size+1)) { s with heap:=h' }) :
  wpAny (model prog w) A (call (.type "enumerate") [.ref l] [("start",.int 1 tk)]) Q E s:=by
 have d:=F.called_enumerate;obtain⟨c,tl,f⟩:=d.mro;refine wpAny_call (codeAny_of_tree ?_);show wpAny _ _ (pure _) _ _ s;refine qE ⟨Code.quiet_builtin _ (by decide +kernel),codeAny_builtin F.entry_type_call ?_⟩;rw[Around.under_plain (weight_type_call_type _ _ _) rfl];unfold Builtin.«type.__call__»;dsimp only;rw[qB (by rw[d.notType];exact qk)];rw[qB (by rw[d.canCreate];exact qk)];refine qA (wpAny_of_eq (xAfz _ _) ?_);refine qA (wpAny_of_eq f ?_);rw[qB (by exact qk)];refine qA (wpAny_of_eq d.made ?_);refine qA (qE (qA (qJ (wpAny_call ?_))));refine codeAny_call_builtin d.plain F.entry_enumerate_new (wpAny_of_eq (xAhf _ _) ?_);show wpAny _ A.in1.in1 (Builtin.«enumerate.__new__» { pos:=[Value.type "enumerate",Value.ref l],kw:=[("start",Value.int 1 tk)] }) _ _ s;unfold Builtin.«enumerate.__new__»;refine qA (wpAny_of_eq (xAga _ _) ?_);dsimp only;rw[qF (by decide)];refine qA ?_;unfold Builtin.SmallTypes.calledThroughType;refine qA (wpAny_stack λst _ _ _=>qE ?_);have m:∀b o,s.heap.get? b=some o->((s.heap.push { cls:=.type "list_iterator",data:=.fields #[.ref l,.int 0 0] }).push { cls:=.type "enumerate",data:=.fields #[.none,.bool false,.ref s.heap.objs.size,rawInt 1,.none,.none] }).get? b=some o:=λb o e=>qH _ (qH _ e);have j:(s.heap.push { cls:=.type "list_iterator",data:=.fields #[.ref l,.int 0 0] }).objs.size=s.heap.objs.size+1:=size_push' _ _
 have i:((s.heap.push { cls:=.type "list_iterator",data:=.fields #[.ref l,.int 0 0] }).push { cls:=.type "enumerate",data:=.fields #[.none,.bool false,.ref s.heap.objs.size,rawInt 1,.none,.none] }).get? (s.heap.objs.size+1)=some { cls:=.type "enumerate",data:=.fields #[.none,.bool false,.ref s.heap.objs.size,rawInt 1,.none,.none] }:=by
  rw[←j];exact qL _ rfl
 have k:((s.heap.push { cls:=.type "list_iterator",data:=.fields #[.ref l,.int 0 0] }).push { cls:=.type "enumerate",data:=.fields #[.none,.bool false,.ref s.heap.objs.size,rawInt 1,.none,.none] }).IsListIter s.heap.objs.size l 0:=⟨_,qH _ (qL _ rfl),O,O⟩
 have q:((s.heap.push { cls:=.type "list_iterator",data:=.fields #[.ref l,.int 0 0] }).push { cls:=.type "enumerate",data:=.fields #[.none,.bool false,.ref s.heap.objs.size,rawInt 1,.none,.none] }).objs.size=s.heap.objs.size+2:=by rw[size_push',j]
 have g:=p _ i k q m;refine wp_ite ?_ ?_
 all_goals
  refine qA (wpAny_of_eq (a:=(Value.ref l,some (Value.int 1 tk))) (by first|rfl|kernel_rfl) ?_);dsimp only;refine qA (wpAny_of_eq (a:=Value.int 1 tk) (by rfl) ?_);refine qA (wpAny_of_eq (a:=some 1) (by rfl) ?_);dsimp only;rw[qB (by decide)];refine qA (wpAny_pyIter_list n ?_);refine qA ?_;show wpAny _ _ (newObj (Value.type "enumerate") (Data.fields #[.none,.bool false,.ref s.heap.objs.size,rawInt 1,.none,.none])) _ _ _;refine wpAny_newObj_type (qE ?_);show wpAny _ A.in1 _ _ _ { s with heap:=(s.heap.push { cls:=.type "list_iterator",data:=.fields #[.ref l,.int 0 0] }).push { cls:=.type "enumerate",data:=.fields #[.none,.bool false,.ref s.heap.objs.size,rawInt 1,.none,.none] } };rw[j];generalize (s.heap.push { cls:=.type "list_iterator",data:=.fields #[.ref l,.int 0 0] }).push { cls:=.type "enumerate",data:=.fields #[.none,.bool false,.ref s.heap.objs.size,rawInt 1,.none,.none] }=h2 at i g;have h:Shared.TypeIs { s with heap:=h2 } (.ref (s.heap.objs.size+1)) "enumerate":=⟨_,i,O⟩;refine qA (wpAny_isInstance h sub_enumerate ?_);rw[qB (by decide)];refine qA (qJ (wpAny_callSpecial?_slot h d.init ?_));refine wpAny_call (codeAny_call_builtin (by decide +kernel) F.entry_object_init (xArl h ?_));refine qA (wpAny_typeOf h ?_);refine qA (wpAny_of_eq d.init.lookup ?_);refine qA (wpAny_of_eq d.made ?_);rw[qB (by decide +kernel),qB (by decide +kernel)];exact qE (qE g)
def set_f(a:s.heap.get? e=some { cls:=c,data:=.fields vs })(d:k<vs.size)(g:∀h',h'.get? e=some { cls:=c,data:=.fields (vs.setIfInBounds k x) }->(∀b,b≠e->h'.get? b=s.heap.get? b)->h'.objs.size=s.heap.objs.size->Q () { s with heap:=h' }):wpAny M A (setField (.ref e) k x) Q E s:=by
 refine wpAny_setField a rfl d (g _ ?_ (λb f=>Heap.get?_update_other _ _ f.symm) (Heap.size_update ..));exact Heap.get?_update_self _ a rfl
def EnD(h:Heap)(e it:Addr)(i:Nat):Prop:=∃b c old,h.get? e=some { cls:=.type "enumerate",data:=.fields #[b,.bool c,.ref it,rawInt ((i:Int)+1),.none,old] }/\(b=.none\/∃(a:Nat) (o:Obj),b=rawInt (a:Int)/\h.get? a=some o)
def xAjb(hh:A.handled=none)(U:s.heap.IsList l items)(t:s.heap.IsListIter it l i)(he:EnD s.heap e it i)(I:e≠it)(n2:l≠e)(n3:l≠it)(hi:i≤items.size)(h1:∀x h' tk,items[i]?=some x->EnD h' e it (i+1)->h'.IsListIter it l (i+1)->h'.get? s.heap.objs.size=some { cls:=.type "tuple",data:=.seq #[.int ((i:Int)+1) tk,x] }->(∀b o,b≠e->b≠it->s.heap.get? b=some o->h'.get? b=some o)->Q (some (.ref s.heap.objs.size)) { s with heap:=h',toks:=tk+1 })(h2:i=items.size->∀h',Heap.ExtBut it s.heap h'->Q none { s with heap:=h' }):wpAny (model prog w) A (pyNext (.ref e)) Q E s:=by
 obtain⟨W,L,old,y,hf⟩:=he;have R:s.TypeIs (.ref e) "enumerate":=⟨_,y,O⟩;have D:=Draws.list (prog:=prog) (w:=w) (A:=A.in1) hh it l n3 items;unfold pyNext;refine qA (wpAny_attempt (wpAny_callSpecial?_slot (name:=Str.ofString "__next__") R F.slot_enumerate_next (qN F.slot_enumerate_next R F.entry_enumerate_next ?_ (F.args_enumerate_next_1 _))));unfold Builtin.«enumerate.__next__»;refine qA (wpAny_of_eq (a:=(Value.ref e,[])) rfl ?_);refine qA (wpAny_field y rfl (x:=.ref it) rfl ?_)
 by_cases J:i<items.size
 ·refine qA (D.item i s _ _ J ⟨t,U⟩ λx d tk N st z=>?_)
  have h:d.get? e=some { cls:=.type "enumerate",data:=.fields #[W,.bool L,.ref it,rawInt ((i:Int)+1),.none,old] }:=(z.2 e I).trans y;refine qA (wpAny_field (s:={ s with heap:=d,toks:=tk }) h rfl (x:=rawInt ((i:Int)+1)) rfl ?_);refine qA (wpAny_field (s:={ s with heap:=d,toks:=tk }) h rfl (x:=.none) rfl ?_);dsimp only;rw[qF (by decide)];refine qA (wpAny_mkInt ?_);refine qA (set_f (s:={ s with heap:=d,toks:=tk+1 }) h (by simp) λg1 o1 k1 z1=>?_);refine qA (set_f (s:={ s with heap:=g1,toks:=tk+1 }) o1 (by simp) λj o2 k2 z2=>?_);refine qA (wpAny_newTuple (s:={ s with heap:=j,toks:=tk+1 }) ?_);have hz:j.objs.size=s.heap.objs.size:=z2.trans (z1.trans z.1)
  have r:(j.push { cls:=.type "tuple",data:=.seq #[.int ((i:Int)+1) tk,x] }).get? s.heap.objs.size=some { cls:=.type "tuple",data:=.seq #[.int ((i:Int)+1) tk,x] }:=by rw[←hz];exact qL _ rfl
  have f:=qH { cls:=.type "tuple",data:=.seq #[.int ((i:Int)+1) tk,x] } o2;have v:∀b u,b≠e->d.get? b=some u->(j.push { cls:=.type "tuple",data:=.seq #[.int ((i:Int)+1) tk,x] }).get? b=some u:=λb u V q=>qH _ (((k2 b V).trans (k1 b V)).trans q);show wpAny _ _ _ _ _ { s with heap:=j.push { cls:=.type "tuple",data:=.seq #[.int ((i:Int)+1) tk,x] },toks:=tk+1 };rw[show Value.ref j.objs.size=Value.ref s.heap.objs.size by rw[hz]];generalize j.push { cls:=.type "tuple",data:=.seq #[.int ((i:Int)+1) tk,x] }=g3 at r f v;have n:s.heap.objs.size≠e:=q0 (qG y)
  have k:∀c:Heap,(∀b u,b≠e->g3.get? b=some u->c.get? b=some u)->c.IsListIter it l (i+1):=λc q=>by
   obtain⟨S,K,Y,di⟩:=st.1;exact⟨S,q _ _ (Ne.symm I) (v _ _ (Ne.symm I) K),Y,di⟩
  have ks:∀c:Heap,(∀b u,b≠e->g3.get? b=some u->c.get? b=some u)->∀b o,b≠e->b≠it->s.heap.get? b=some o->c.get? b=some o:=λc q b o g H P=>q b o g (v b o g ((z.2 b H).trans P));refine qA ?_;unfold Builtin.SmallTypes.ownedTupleIsFree;refine qA (wpAny_field (s:={ s with heap:=g3,toks:=tk+1 }) f rfl (x:=W) rfl ?_);rcases hf with rfl|⟨a,o,rfl,ea⟩
  ·refine qE ?_
   rw[qF rfl];refine qA (wpAny_rule (qA (wpAny_field (s:={ s with heap:=g3,toks:=tk+1 }) f rfl (x:=old) rfl ?_)));refine qA (set_f (s:={ s with heap:=g3,toks:=tk+1 }) f (by simp) λc G M _=>?_);refine qA (qA (set_f (s:={ s with heap:=c,toks:=tk+1 }) G (by simp) λg5 o5 k5 _=>?_));refine set_f (s:={ s with heap:=g5,toks:=tk+1 }) o5 (by simp) λX o6 k6 _=>?_;refine qA (wpAny_letGo (qE ⟨_,O,qE ?_⟩));have C:∀b u,b≠e->g3.get? b=some u->X.get? b=some u:=λb u p q=>((k6 b p).trans ((k5 b p).trans (M b p))).trans q;exact h1 x X tk N ⟨_,_,_,o6,.inr ⟨_,_,O,C _ _ n r⟩⟩ (k _ C) (C _ _ n r) (ks _ C)
  ·obtain⟨o',m⟩:∃o',g3.get? a=some o':=by
    by_cases g:a=e
    ·rw[g];exact⟨_,f⟩
    ·by_cases H:a=it
     ·obtain⟨S,K,_⟩:=st.1
      rw[H];exact⟨_,v _ _ (Ne.symm I) K⟩
     ·exact⟨_,v _ _ g ((z.2 _ H).trans ea)⟩
   refine qA (kdx_alive (s:={ s with heap:=g3,toks:=tk+1 }) (a:=((a:Int)).toNat) m ?_);rw[qB (by simp)];refine qA (wpAny_field (s:={ s with heap:=g3,toks:=tk+1 }) f rfl (x:=.bool L) rfl ?_);dsimp only;cases L
   ·rw[qF (by decide)]
    refine qA (set_f (s:={ s with heap:=g3,toks:=tk+1 }) f (by simp) λc G M _=>qE ?_);rw[qB (by decide)];have B:∀b u,b≠e->g3.get? b=some u->c.get? b=some u:=λb u p q=>(M b p).trans q;refine qE ⟨_,O,qE (h1 x c tk N ⟨_,_,_,G,.inr ⟨a,?_⟩⟩ (k _ B) (B _ _ n r) (ks _ B))⟩
    by_cases g:a=e
    ·rw[g];exact⟨_,O,G⟩
    ·exact⟨_,O,B _ _ g m⟩
   ·rw[qB (by decide)]
    refine qE ?_;rw[qB (by decide)];exact qE ⟨_,O,qE (h1 x g3 tk N ⟨_,_,_,f,.inr ⟨a,_,O,m⟩⟩ (k _ λ_ _ _ q=>q) r (ks _ λ_ _ _ q=>q))⟩
 ·have hn:i=items.size:=by omega
  subst hn;refine qA (D.done s _ _ ⟨t,U⟩ λh' x eb ⟨o,P,Z⟩=>?_);dsimp only;refine qA (wpAny_isInstance (T:="StopIteration") (b:=true) ⟨o,P,Z⟩ isSubtype_stop ?_);exact qE (h2 rfl h' eb)
end
section
variable {X:Cx}{pins:List (Addr×Obj)}{σ:St}
def Prs1(H:Hp)(xs zs:List V):Prop:=∀(j:Nat) z,zs[j]?=some z->∃T x,xs[j]?=some x/\z=.ref T/\H T=some (.tup [.int ((j:Int)+1),x])
def Prs1.mono(h:Prs1 H xs zs)(s:Same H H'):Prs1 H' xs zs:=λj z e=>let⟨T,x,h1,h2,a⟩:=h j z e;⟨T,x,h1,h2,s _ _ a⟩
def xAok{e it S l:Addr}(hh:A.in1.handled=none)(n1:e≠it)(n2:l≠e)(n3:l≠it)(n4:S≠e)(n5:S≠it)(n6:l≠S) :
  ∀(k i:Nat) (s:Shared) (H:Hp) (zs:List V) (acc:Array Value) (c:Nat),xs.length - i=k->i≤xs.length->Inv X pins σ H s->SqL H l xs->EnD s.heap e it i->s.heap.IsListIter it l i->(∀b∈[e,it,S],FpOk X pins H b) →
   s.heap.get? S=some (seqObj "list" acc c)->Vals zs acc.toList->zs.length=i->Prs1 H xs zs →
   (∀s' H' g f U,Inv X pins σ H' s'->Same H H'->H' S=none->s'.heap.get? S=some (seqObj "list" f U)->Vals g f.toList->g.length=xs.length->Prs1 H' xs g->R (.ok (.ret B)) s') →
   codeAny (model X.prog X.w) A (.builtin "list.extend.loop" ⟨[.ref S,.ref e,B],[]⟩) R s:=by
 intro k
 induction k with
 |zero =>
  intro i s H zs acc c hk hi I P M m t K L hz Y hR;obtain⟨its,N,pl,_⟩:=I.list P;have hl:=N.length;refine codeAny_builtin F.entry_extend_loop ?_;rw[Around.under_plainId F.plain_extend_loop _];show wpAny _ A.in1 (pyNext (.ref e) >>= _) _ _ s;refine qA (xAjb hh pl.isList m M n1 n2 n3 (by rw[qr];omega) (λx _ _ W=>?_) λ_ h' eb=>?_)
  ·have:=(Array.getElem?_eq_some_iff.mp W).1
   rw[qr]at this;omega
  ·refine qE (hR { s with heap:=h' } H zs acc c (I.turnedN (t':=s.toks) (ch:=[it]) (λb d=>t b (by rw[List.mem_singleton.mp d];simp)) λb o d r=>eb b o (λz=>d (by simp[z])) r) (Same.refl _) (t S (by simp)).1 (eb _ _ n5 K) L (by omega) Y)
 |succ k ih =>
  intro i s H zs acc c hk hi I P M m t K L hz Y hR;obtain⟨its,N,pl,zl⟩:=I.list P;have hl:=N.length
  have za:acc.size=i:=by have e1:=Vals.length L;have e2:acc.toList.length=acc.size:=ze;omega
  refine codeAny_builtin F.entry_extend_loop ?_;rw[Around.under_plainId F.plain_extend_loop _];show wpAny _ A.in1 (pyNext (.ref e) >>= _) _ _ s;refine qA (xAjb hh pl.isList m M n1 n2 n3 (by rw[qr];omega) (λu h' tk W T C hT kp=>?_) λhn=>?_)
  ·have hu:its[i]?=some u:=by simpa using W
   obtain⟨x,ex,ru⟩:∃x,xs[i]?=some x/\RelV x u:=by
    have y:i<xs.length:=by omega
    obtain⟨u',e',r'⟩:=N.get (qg y);rw[hu]at e';cases e';exact⟨_,qg y,r'⟩
   have G:=I.hok.fresh (a:=s.heap.objs.size) (qb _)
   have ob:∀b∈[e,it,S],b<s.heap.objs.size:=λb d=>by
    simp only[List.mem_cons,List.not_mem_nil,or_false]at d
    rcases d with rfl|rfl|rfl
    ·obtain⟨_,_,_,q,_⟩:=M;exact qG q
    ·obtain⟨_,q,_⟩:=m;exact qG q
    ·exact qG K
   have I1:Inv X pins σ H { s with heap:=h',toks:=tk+1 }:=I.turnedN (t':=tk+1) (ch:=[e,it]) (λb d=>t b (by simp only[List.mem_cons,List.not_mem_nil,or_false]at d ⊢;rcases d with h|h <;> simp[h])) λb o d r=>kp b o (λz=>d (by simp[z])) (λz=>d (by simp[z])) r
   have I2:=I.track I1 (qb _) G (o:=.tup [.int ((i:Int)+1),x]) ⟨by show 2≤sizeLine;decide,[.int ((i:Int)+1) tk,u],.cons ⟨tk,O⟩ (.cons ru .nil),⟨_,hT,O,_,O⟩⟩;have s2:Same H (upd H s.heap.objs.size (.tup [.int ((i:Int)+1),x])):=Same.new G
   have n:∀b∈[e,it,S],FpOk X pins (upd H s.heap.objs.size (.tup [.int ((i:Int)+1),x])) b:=λb d=>⟨by rw[xAae (qi (ob b d))];exact(t b d).1,(t b d).2⟩
   have eT:(upd H s.heap.objs.size (.tup [.int ((i:Int)+1),x])) s.heap.objs.size=some (.tup [.int ((i:Int)+1),x]):=xAab;have v:h'.get? S=some (seqObj "list" acc c):=kp _ _ n4 n5 K;generalize upd H s.heap.objs.size (.tup [.int ((i:Int)+1),x])=H2 at I2 s2 n eT;show wpAny _ A.in1 (Builtin.List.listUpdate (.ref S) (λa=>a.push (.ref s.heap.objs.size)) >>= _) _ _ _;refine qA (listUpdate_at (s:={ s with heap:=h',toks:=tk+1 }) v rfl ?_ (by omega) (by rw[Array.size_push];omega));obtain⟨c1,p⟩:∃c1,(h'.update S (Obj.mapSeq (·.push (Value.ref s.heap.objs.size)))).get? S=some (seqObj "list" (acc.push (.ref s.heap.objs.size)) c1):=⟨_,get?_update_seq v _⟩;have J:∀b o,b≠S->h'.get? b=some o->(h'.update S (Obj.mapSeq (·.push (Value.ref s.heap.objs.size)))).get? b=some o:=λb o d r=>(Heap.get?_update_other _ _ (λz=>d z.symm)).trans r;show wpAny _ _ _ _ _ { s with heap:=h'.update S (Obj.mapSeq (·.push (Value.ref s.heap.objs.size))),toks:=tk+1 };generalize h'.update S (Obj.mapSeq (·.push (Value.ref s.heap.objs.size)))=h2 at p J
   have I3:Inv X pins σ H2 { s with heap:=h2,toks:=tk+1 }:=I2.turnedN (s:={ s with heap:=h',toks:=tk+1 }) (t':=tk+1) (ch:=[S]) (λb d=>n b (by rw[List.mem_singleton.mp d];simp)) λb o d r=>J b o (λz=>d (by simp[z])) r
   refine qE ⟨plainId_quiet F.plain_extend_loop _,ih (i+1) _ H2 (zs++[.ref s.heap.objs.size]) _ c1 (by omega) (by omega) I3 (P.same s2) ?_ ?_ n p ?_ (by rw[qe,hz];rfl) ?_ λs' H' g f U a1 a2 a3 a4 a5 a6 a7=>hR s' H' g f U a1 (s2.trans a2) a3 a4 a5 a6 a7⟩
   ·obtain⟨f0,f1,old,Z,E⟩:=T
    refine⟨f0,f1,old,J _ _ (Ne.symm n4) Z,?_⟩;rcases E with E|⟨a,o,q3,q4⟩
    ·exact .inl E
    ·by_cases z:a=S
     ·rw[z]at q3;exact .inr ⟨S,_,q3,p⟩
     ·exact .inr ⟨a,o,q3,J _ _ z q4⟩
   ·obtain⟨o,Z,E⟩:=C
    exact⟨o,J _ _ (Ne.symm n5) Z,E⟩
   ·rw[Array.toList_push]
    exact Vals.append L (.cons rfl .nil)
   ·intro j z D
    by_cases hj:j<zs.length
    ·rw[wc hj]at D
     exact Y.mono s2 j z D
    ·have Q:j=zs.length:=by
      have:=(qm.mp D).1;rw[qe,qo]at this;omega
     subst Q;rw[yn (qb _),j6]at D;cases D;exact⟨_,x,by rw[hz];exact ex,O,by rw[hz];exact eT⟩
  ·rw[qr]at hn
   omega
def xAol(hh:A.handled=none)(I:Inv X pins σ H s)(J:SqL H l xs)(n1:e≠it)(W:l≠e)(n3:l≠it)(he:EnD s.heap e it 0)(D:s.heap.IsListIter it l 0)(L:∀b∈[e,it],FpOk X pins H b)(hQ:∀s' H' zs p,Inv X pins σ H' s'->H p=none->Same H H'->H' p=some (.lst zs)->zs.length=xs.length->Prs1 H' xs zs->Q (.ref p) s') :
  wpAny (model X.prog X.w) A (call (.type "list") [.ref e]) Q E s:=by
 obtain⟨f0,f1,old,x,C⟩:=id he
 refine callType_codes (Q₁:=λobj f=>obj=.ref s.heap.objs.size/\f={ s with heap:=s.heap.push { cls:=.type "list",data:=.seq #[] } }) F.called_list (F.typeCall_list_1 _) F.entry_list_init
  (code_list_new _ ⟨O,O⟩) λobj f n=>?_
 obtain⟨rfl,rfl⟩:=n;have k:(s.heap.push { cls:=.type "list",data:=.seq #[] }).get? s.heap.objs.size=some { cls:=.type "list",data:=.seq #[] }:=qL _ rfl;refine⟨⟨_,k,O⟩,F.args_list_init_2 _ _,?_⟩;have m:e<s.heap.objs.size:=qG x;generalize y:s.heap.push { cls:=.type "list",data:=.seq #[] }=h1 at k
 have Y:∀b o,s.heap.get? b=some o->h1.get? b=some o:=λb o e=>by rw[←y];exact qH _ e
 show wpAny _ A.in1.in1 (do let old ←Builtin.List.listItems (.ref s.heap.objs.size);Builtin.List.listUpdate (.ref s.heap.objs.size) (λ_=>#[]);letGo old.toList.reverse;Builtin.List.listExtendWith (.ref s.heap.objs.size) (.ref e) .none) _ _ { s with heap:=h1 };refine qA ?_;unfold Builtin.List.listItems;refine qA (wpAny_seqItems (s:={ s with heap:=h1 }) k rfl (qE ?_));show wpAny _ A.in1.in1 (updateSeq s.heap.objs.size (λ_=>#[]) >>= λ_=>letGo (#[]:Array Value).toList.reverse >>= λ_=>Builtin.List.listExtendWith (.ref s.heap.objs.size) (.ref e) .none) _ _ { s with heap:=h1 };refine qA (wpAny_updateSeq (s:={ s with heap:=h1 }) k rfl ?_);have g:=Heap.get?_update_self (Obj.mapSeq (λ_=>(#[]:Array Value))) k rfl
 have G:∀b o,s.heap.get? b=some o->(h1.update s.heap.objs.size (Obj.mapSeq (λ_=>(#[]:Array Value)))).get? b=some o :=
  λb o e=>(Heap.get?_update_other _ _ (q0 (qG e))).trans (Y b o e)
 show wpAny _ _ _ _ _ { s with heap:=h1.update s.heap.objs.size (Obj.mapSeq (λ_=>(#[]:Array Value))) };generalize h1.update s.heap.objs.size (Obj.mapSeq (λ_=>(#[]:Array Value)))=h2 at g G;refine qA (wpAny_letGo ?_);have d:Shared.TypeIs { s with heap:=h2 } (.ref e) "enumerate":=⟨_,G _ _ x,O⟩
 have U:Builtin.List.listSameRef (.ref s.heap.objs.size) (.ref e)=false:=by
  show(s.heap.objs.size==e)=false;exact beq_eq_false_iff_ne.mpr (q0 m)
 unfold Builtin.List.listExtendWith;refine qA (wpAny_typeOf d ?_);rw[qB (by rw[U];decide)];refine qA (wpAny_pyIter_slot d F.slot_enumerate_iter (qN F.slot_enumerate_iter d F.entry_enumerate_iter ?_ (F.args_enumerate_iter_1 _)));show wpAny _ _ (ret (.ref _)) _ _ { s with heap:=h2 };refine qE ⟨_,O,"enumerate",_,d,F.slot_enumerate_next.lookup,?_⟩;refine qA (qJ ?_);unfold Builtin.List.listLengthHint;refine qA (wpAny_specialOf (name:=Str.ofString "__len__") d (r:=none) (by rw[typeLookup_type,builtinLookup_eq_fast];kernel_rfl) ?_);dsimp only;rw[qB (by decide),qB (by decide)];refine qA (wpAny_specialOf (name:=Str.ofString "__length_hint__") d (r:=none) (by rw[typeLookup_type,builtinLookup_eq_fast];kernel_rfl) (qE ?_));rw[qF (by rfl)];refine qA (wpAny_rule (qA ?_));unfold Builtin.List.listTouch;refine qA (listUpdate_at (s:={ s with heap:=h2 }) g rfl ?_);obtain⟨S,i⟩:∃S,(h2.update s.heap.objs.size (Obj.mapSeq (·.push Value.none))).get? s.heap.objs.size=some (seqObj "list" #[Value.none] S):=⟨_,get?_update_seq g _⟩;have P:∀b o,b≠s.heap.objs.size->h2.get? b=some o->(h2.update s.heap.objs.size (Obj.mapSeq (·.push Value.none))).get? b=some o:=λb o v e=>(Heap.get?_update_other _ _ (λz=>v z.symm)).trans e;show wpAny _ _ _ _ _ { s with heap:=h2.update s.heap.objs.size (Obj.mapSeq (·.push Value.none)) };generalize h2.update s.heap.objs.size (Obj.mapSeq (·.push Value.none))=h4 at i P;refine listUpdate_at (s:={ s with heap:=h4 }) i rfl ?_;obtain⟨B,t⟩:∃B,(h4.update s.heap.objs.size (Obj.mapSeq (·.pop))).get? s.heap.objs.size=some (seqObj "list" #[] B):=⟨_,get?_update_seq i _⟩;have u:∀b o,s.heap.get? b=some o->(h4.update s.heap.objs.size (Obj.mapSeq (·.pop))).get? b=some o:=λb o e=>(Heap.get?_update_other _ _ (q0 (qG e))).trans (P b o (qi (qG e)) (G b o e));show wpAny _ _ _ _ _ { s with heap:=h4.update s.heap.objs.size (Obj.mapSeq (·.pop)) };generalize h4.update s.heap.objs.size (Obj.mapSeq (·.pop))=h5 at t u;show wpAny _ _ (again (Code.builtin "list.extend.loop" ⟨[Value.ref s.heap.objs.size,Value.ref e,Value.none],[]⟩)) _ _ _;have hn:=I.hok.fresh (a:=s.heap.objs.size) (qb _);have I5:Inv X pins σ H { s with heap:=h5 }:=I.kept (t':=s.toks) u;obtain⟨oi,N,T,di⟩:=id D
 have K:l<s.heap.objs.size:=by obtain⟨_,_,pl,_⟩:=I.list J;obtain⟨_,q,_⟩:=pl.isList;exact qG q
 refine qE ⟨plainId_quiet F.plain_extend_loop _,xAok (A:=A.in1) (X:=X) (pins:=pins) (σ:=σ) hh n1 W n3 (Nat.ne_of_gt m) (Nat.ne_of_gt (qG N)) (Nat.ne_of_lt K) xs.length 0 { s with heap:=h5 } H [] #[] B (Nat.sub_zero _) (Nat.zero_le _) I5 J ⟨f0,f1,old,u _ _ x,?_⟩ ⟨oi,u _ _ N,T,di⟩ (λb v=>?_) t .nil rfl (λj z ez=>by simp at ez) λs' H' zs acc c a1 a2 M a4 a5 Z a7=>⟨O,?_⟩⟩
 ·rcases C with h|⟨a,o,h,q⟩
  ·exact .inl h
  ·exact .inr ⟨a,o,h,u _ _ q⟩
 ·simp only[List.mem_cons,List.not_mem_nil,or_false]at v
  rcases v with rfl|rfl|rfl
  ·exact L _ (by simp)
  ·exact L _ (by simp)
  ·exact I.fpOk (qb _) hn
 ·have zl:xs.length≤sizeLine:=by obtain⟨_,_,_,z⟩:=I.list J;exact z
  have R:Same H' (upd H' s.heap.objs.size (.lst zs)):=Same.new M;refine hQ s' (upd H' s.heap.objs.size (.lst zs)) zs _ (I.track a1 (Nat.le_refl _) M ⟨by show zs.length≤sizeLine;omega,acc.toList,c,a5,by simpa using a4⟩) hn (a2.trans R) xAab Z (a7.mono R)
end
def xAez(h1:(b.any λx=>x.fst)=false)(h2:(d.any λx=>x.fst.isNone)=false)(h:wpAny M A (evalArgs (.type T) true b d) (λa c=>wpAny M A (call (.type T) a.pos a.kw) Q E c) E s):wpAny M A (callWith pos (.type T) [] b d) Q E s:=by
 unfold callWith;refine qA (qJ (qM h (λa c f=>?_) λ_ _ e=>e));refine qA (wpAny_standAt ?_)
 simp only[h1,h2,Bool.or_false]
 refine qA (wpAny_of_eq (a:=Keeper.machine) (by first|rfl|kernel_rfl) ?_);dsimp only;refine qA (qM f (λv s2 q=>?_) λ_ _ e=>e);exact qA (qJ (wpAny_point (qE q)))
inductive ItLEnum(Q:VK)(x:V)(H1:Hp):Prop
 |mk (a:_) (xs:_) (h0_:x=.ref a) (h1_:SqL H1 a xs) (h2_:∀p H' zs,H1 p=none->Same H1 H'->H' p=some (.lst zs)->zs.length=xs.length->Prs1 H' xs zs->Q (.ref p) H'):ItLEnum Q x H1
def tLEnum(tl:TE):TE:=λσ H Q=>tl σ H λx H1=>ItLEnum Q x H1
section
variable {X:Cx}
def xAjt{tl:TE}{p t p2 kp cpos pos:Pos}(L:X.calm=true)(r:Gl X "list")(k:X.mg "list"=none)(n:Gl X "enumerate")(m:X.mg "enumerate"=none)(E:PE X l tl)(w:starEach [l] X.env=[(false,eval l X.env)]:=by rfl)(g:starEach [.Call (.Name "enumerate" t) [l] [⟨some "start",.Constant (.int 1) j p2,kp⟩] cpos] X.env=[(false,eval (.Call (.Name "enumerate" t) [l] [⟨some "start",.Constant (.int 1) j p2,kp⟩] cpos) X.env)]:=by rfl) :
  PE X (.Call (.Name "list" p) [.Call (.Name "enumerate" t) [l] [⟨some "start",.Constant (.int 1) j p2,kp⟩] cpos] [] pos) (tLEnum tl):=by
 refine⟨?_⟩;intro pins s σ H Q I h;refine wpAny_Call_Name_kw (xAdw I r k boot_list ?_ (by decide) (by decide));refine PyProof.Rows.callWith_type1 ?_ g rfl;rw[g];refine Calls.spliced_cons ?_;refine wpAny_Call_Name_kw (xAdw I n m boot_enumerate ?_ (by decide) (by decide));refine xAez (by rw[w];rfl) rfl ?_;rw[w];refine evalArgs_kwB rfl (Calls.spliced_cons (thn (E pins s σ H _ I h) λv c ⟨x,H1,f,M,J⟩=>Calls.spliced_nil (kws_cons (wpAny_Constant_int (kws_nil ?_)))));obtain⟨a,xs,e,y,q⟩:=J;subst e;cases M;obtain⟨its,R,z,P⟩:=f.list y;have o:=f.tok (c.toks+1)
 have i:a<c.heap.objs.size:=by obtain⟨_,q,_⟩:=z.isList;exact qG q
 refine xAmp (s:={ c with toks:=c.toks+1 }) z.isList λh' K hi hz B=>?_;have A:Inv X pins σ H1 { c with heap:=h',toks:=c.toks+1 }:=o.kept (t':=c.toks+1) B;refine Calls.spliced_nil (xAol (s:={ c with heap:=h',toks:=c.toks+1 }) (f.ok.hd L) A y (q0 (wk _)) (qi (wj i)) (qi i) ⟨_,_,_,K,.inl rfl⟩ hi (λb u=>?_) λs' H' zs N a1 a2 D F G C=>⟨.ref _,_,a1,O,q _ _ _ a2 D F G C⟩)
 have d:c.heap.objs.size≤b:=by
  simp only[List.mem_cons,List.not_mem_nil,or_false]at u
  rcases u with rfl|rfl
  ·exact wg _
  ·exact qb _
 exact f.fpOk d (f.hok.fresh d)
end
structure FOL(K:PySem.W.Frag)(mg:Str->Option Value)(x:Str)(st:Stmt)(T:Addr):Prop where
 out:∃(f c:Addr) (oc:Value) (od an:Option Addr) (kV doc pm ct:Value) (osl:Array (Option Value)),K.lookup f=some ⟨oc,od,.func (PySem.W.fnOf x x (defArgs st) (defBody st) (defScope st) .none kV doc pm an (.ref c) ct),osl⟩/\PySem.W.codeIn K (.ref c) x=true/\PySem.W.keepIn K (.ref f)=true/\codeHdIn K c T=true/\mg x=some (.ref f)
def xAuk{P:Program}{w:World}{K:PySem.W.Frag}{mg:Str->Option Value}{base:Heap}{x:Str}{st:Stmt}{T:Addr}{N ps:List Str}{k:Nat}{sp:Sp}(F:FOL K mg x st T)(S:FnScope N ps (defScope st))(u:∀(kV a d:Value) (j:Option Addr) (e l:Value) (us:List Value),us.length=ps.length->bindArgs (PySem.W.fnOf x x (defArgs st) (defBody st) (defScope st) .none kV a d j e l) ⟨us,[]⟩=pure (ps.zip us))(len:∀vs H Q E,sp vs H Q E->vs.length=ps.length)(b:∀(f c:Addr) (A:Around) (outer:List Env) (s:Shared) (H:Hp) (vs:List V) (Q:VK) (E:XK),codeHdIn K c T=true->Room k (A.deeper (envOfC x (defScope st) s.heap.objs.size f (.ref c)))->sp vs H Q E →
   ∃t,PSs (cxOf CX0 P w K mg base N x (defScope st) f (.ref c) A outer s H E).nox (defBody st) t/\t { nx:=λ_ H'=>Q .non H',rt:=Q } (start N vs) H):FnB P w K mg base (k+1) x ps sp:=by
 obtain⟨f,c,y,od,j,kV,a,d,l,o,n,g,p,v,r⟩:=F.out;refine⟨f,_,fn_of n g S len λA outer s H vs Q E m i=>?_,r,p,.all (u kV a d j (.ref c) l)⟩;obtain⟨t,h,q⟩:=b f c A outer s H vs Q E v m i;exact⟨t,h.nox,q⟩
inductive FL(K:PySem.W.Frag)(n:Str)(s:Stmt)(T:Addr):Prop
 |mk {a c:Addr} {od an:Option Addr} {sl:Array (Option Value)} {oc kV dc pm ct:Value} (z1:PySem.W.nsIn K mainGlobals n=some (some (.ref a))) (z2:K.lookup a=some ⟨oc,od,.func (PySem.W.fnOf n n (defArgs s) (defBody s) (defScope s) .none kV dc pm an (.ref c) ct),sl⟩) (z3:PySem.W.codeIn K (.ref c) n=true) (z4:PySem.W.keepIn K (.ref a)=true) (z5:codeHdIn K c T=true):FL K n s T
def FL.fo{K:PySem.W.Frag}{n:Str}{s:Stmt}{T:Addr}{h:Heap}{mg:Str->Option Value}(f:FL K n s T)(X:K.In h)(G:h.Ns mainGlobals mg):FOL K mg n s T:=by
 obtain⟨d,e,c,b,a⟩:=f;exact⟨_,_,_,_,_,_,_,_,_,_,e,c,b,a,PySem.W.mg_of X G d⟩
def xAgb(hi:σ[i]?=some none)(z:σ[j]?=some none)(y:σ[l]?=some none)(b:i≠j)(f:i≠l)(d:j≠l):Fresh (gTup n (gCons (gName i) (gCons (gName j) (gCons (gName l) gNil)))) σ:=by
 intro x H Q q;obtain⟨a,xs,m,o,s,v,r,h,w,A,B,u,c,p,t,q⟩:=q;refine⟨a,xs,m,o,s,v,r,h,w,A,B,u,c,p,t,?_,q⟩;have h1:=KeepS.set hi v;have h2:=KeepS.set (σ:=σ.set i (some v)) (i:=j) (by rw[ww b];exact z) w;have g:=KeepS.set (σ:=(σ.set i (some v)).set j (some w)) (i:=l) (by rw[ww d,ww f];exact y) u;exact⟨(h1.1.trans h2.1).trans g.1,λk u e=>g.2 k u (h2.2 k u (h1.2 k u e))⟩
inductive IRop_rep4(x:V)(y:V)(H:Hp)(Q:VK):Prop
 |mk (n:Int) (h0_:x=.str "hm") (h1_:y=.int n) (h2_:1≤n) (h3_:n≤4) (h4_:∀z:Str,PyData.strOk z=true->Q (.str z) H):IRop_rep4 x y H Q
def Rop_rep4:R2:=λx y H Q=>IRop_rep4 x y H Q
def xAul:OpR X (binaryOp .Mult) Rop_rep4:=by
 intro pins s σ H x y v u Q I a b h;obtain⟨n,rfl,rfl,h1,h2,q⟩:=h;obtain⟨t,rfl⟩:=a;obtain⟨t',rfl⟩:=b
 have:n=1\/n=2\/n=3\/n=4:=by omega
 rcases this with rfl|rfl|rfl|rfl
 ·exact P.mul_str (by decide) (λ_ h=>absurd h (by simp)) (λ_ h=>absurd h (by simp)) ⟨.str "hm",H,I,⟨t,O⟩,q _ (by decide +kernel)⟩
 ·refine P.mul_str (by decide) (λ_ _=>by decide +kernel) (λ_ _=>by decide +kernel) ?_
  rw[qB (by decide),qB (by decide +kernel)];exact⟨by decide +kernel,.str _,H,I.tok _,⟨_,O⟩,q _ (by decide +kernel)⟩
 ·refine P.mul_str (by decide) (λ_ _=>by decide +kernel) (λ_ _=>by decide +kernel) ?_
  rw[qB (by decide),qB (by decide +kernel)];exact⟨by decide +kernel,.str _,H,I.tok _,⟨_,O⟩,q _ (by decide +kernel)⟩
 ·refine P.mul_str (by decide) (λ_ _=>by decide +kernel) (λ_ _=>by decide +kernel) ?_
  rw[qB (by decide),qB (by decide +kernel)];exact⟨by decide +kernel,.str _,H,I.tok _,⟨_,O⟩,q _ (by decide +kernel)⟩
inductive ItFvI(Q:VK)(x:V)(H1:Hp):Prop
 |mk (i:Nat) (h0_:x=.int i) (h1_:i≤1000) (h2_:Q (.str (Str.ofString (toString (i:Int)))) H1):ItFvI Q x H1
def tFvI(te:TE):TE:=λσ H Q=>te σ H λx H1=>ItFvI Q x H1
def xAum(a:PE X e te):PE X (.FormattedValue e (-1) none pos) (tFvI te):=by
 refine⟨?_⟩;intro pins s σ H Q I h;refine wpAny_FormattedValue_plain (qM (a pins s σ H _ I h) (λv f ⟨x,H1,d,c,b⟩=>?_) λ_ _ e=>e);obtain⟨i,rfl,hz,q⟩:=b;obtain⟨t,rfl⟩:=c;refine wpAny_formatField_int ?_ ⟨.str _,H1,d.tok _,⟨_,O⟩,q⟩;rw[Int.natAbs_natCast]
 by_cases h:i=0
 ·rw[h];decide
 ·exact(Nat.log2_lt h).mpr (yj hz (qq (by decide:1000<2 ^ 10) (Nat.pow_le_pow_right (by decide) (by decide))))
def pe_f1(a:PE X e te):PE X (.JoinedStr [e] pos) te:=⟨λpins s σ H Q I h=>by
 rw[arm_eval_JoinedStr]
 exact a pins s σ H Q I h⟩
structure FOD(K:PySem.W.Frag)(mg:Str->Option Value)(x:Str)(st:Stmt):Prop where
 out:∃(f t:Addr) (oc oc' d0:Value) (od od' an:Option Addr) (kV doc pm cdv ct:Value) (osl osl':Array (Option Value)) (n:Nat),K.lookup f=some ⟨oc,od,.func (PySem.W.fnOf x x (defArgs st) (defBody st) (defScope st) (.ref t) kV doc pm an cdv ct),osl⟩/\PySem.W.codeIn K cdv x=true/\PySem.W.keepIn K (.ref f)=true/\K.lookup t=some ⟨oc',od',.seq #[d0] n,osl'⟩/\mg x=some (.ref f)
def mk_okD{P:Program}{w:World}{K:PySem.W.Frag}{mg:Str->Option Value}{base:Heap}{x:Str}{st:Stmt}{N ps:List Str}{k:Nat}{sp:Sp}(F:FOD K mg x st)(S:FnScope N ps (defScope st))(y:∀(t:Addr) (e kV c i:Value) (g:Option Addr) (a l:Value) (us:List Value),us.length=ps.length->∃q,bindArgs (PySem.W.fnOf x x (defArgs st) (defBody st) (defScope st) (.ref t) kV c i g a l) ⟨us,[]⟩=seqItems? (.ref t) >>= q/\q (some #[e])=pure (ps.zip us))(len:∀vs H Q E,sp vs H Q E->vs.length=ps.length)(b:∀(f:Addr) (a:Value) (A:Around) (outer:List Env) (s:Shared) (H:Hp) (vs:List V) (Q:VK) (E:XK),Room k (A.deeper (envOfC x (defScope st) s.heap.objs.size f a))->sp vs H Q E →
   ∃t,PSs (cxOf CX0 P w K mg base N x (defScope st) f a A outer s H E).nox (defBody st) t/\t { nx:=λ_ H'=>Q .non H',rt:=Q } (start N vs) H):FnB P w K mg base (k+1) x ps sp:=by
 obtain⟨f,t,G,D,e,od,r,g,kV,c,i,a,l,p,o,n,C,j,u,z,v⟩:=F.out;refine⟨f,_,fn_of C j S len λA outer s H vs Q E B d=>?_,v,u,λs us X m=>?_⟩
 ·obtain⟨t,h,q⟩:=b f a A outer s H vs Q E B d
  exact⟨t,h.nox,q⟩
 ·rw[vd]at m ⊢
  obtain⟨q,h1,h2⟩:=y t e kV c i g a l us m;exact .of_defaults rfl (X _ _ z) rfl h1 h2
inductive FXD(K:PySem.W.Frag)(n:Str)(s:Stmt):Prop
 |mk {a t:Addr} {od an od':Option Addr} {sl sl':Array (Option Value)} {oc oc' d0 kV dc pm cd ct:Value} {m:Nat} (z1:PySem.W.nsIn K mainGlobals n=some (some (.ref a))) (z2:K.lookup a=some ⟨oc,od,.func (PySem.W.fnOf n n (defArgs s) (defBody s) (defScope s) (.ref t) kV dc pm an cd ct),sl⟩) (z3:PySem.W.codeIn K cd n=true) (z4:PySem.W.keepIn K (.ref a)=true) (z5:K.lookup t=some ⟨oc',od',.seq #[d0] m,sl'⟩):FXD K n s
def FXD.fo{K:PySem.W.Frag}{n:Str}{s:Stmt}{h:Heap}{mg:Str->Option Value}(f:FXD K n s)(X:K.In h)(G:h.Ns mainGlobals mg):FOD K mg n s:=by
 obtain⟨d,e,c,b,a⟩:=f;exact⟨_,_,_,_,_,_,_,_,_,_,_,_,_,_,_,_,e,c,b,a,PySem.W.mg_of X G d⟩
end L2
namespace My
open PySem L2 PyProof.Rows
def szOk(h:Nat.ble n 1000=true):n≤sizeLine:=zt (xAaj (yt h))
def big(h:n≤1000):n≤sizeLine:=zt (xAaj h)
def itT{A B:Prop}(h:c=true)(a:A):if c=true then A else B:=by rw[qF h];exact a
def itF{A B:Prop}(h:c=false)(b:B):if c=true then A else B:=by rw[qB (by rw[h];decide)];exact b
def kP:Key->PyData
 |.inl i=>.int i
 |.inr s=>.str s
def xArm:∀ks:List Key,DTs H (ks.map kV) (ks.map kP)
 |[]=>.nil
 |.inl i::ks=>.cons (.int i) (xArm ks)
 |.inr s::ks=>.cons (.str s) (xArm ks)
inductive Isp_fAn(vs:List V)(H:Hp)(Q:VK):Prop
 |mk (v:_) (nk:_) (bh:_) (D:_) (k:_) (h0_:vs=[v]) (h1_:PL nk bh D H v k) (h2_:∀kv,DT H kv (D k)->Q kv H):Isp_fAn vs H Q
def sp_fAn:Sp:=λvs H Q _=>Isp_fAn vs H Q
def xAun(h:sp_fAn vs H Q E):vs.length=1:=by obtain⟨_,_,_,_,_,rfl,_⟩:=h;rfl
inductive Isp_fAm(vs:List V)(H:Hp)(Q:VK):Prop
 |mk (p:_) (ys:_) (nk:_) (bh:_) (D:_) (ms:_) (js:_) (t:_) (h0_:vs=[.ref p]) (h1_:SqL H p ys) (h2_:AN (PL nk bh D H) ys js) (h3_:ms=js) (h4_:PLW nk bh D ms t) (h5_:∀H' dq kvs,Same H H'->FD nk bh ms ms H H' dq kvs->Q (.ref dq) H'):Isp_fAm vs H Q
def sp_fAm:Sp:=λvs H Q _=>Isp_fAm vs H Q
def xAuo(h:sp_fAm vs H Q E):vs.length=1:=by obtain⟨_,_,_,_,_,_,_,_,rfl,_⟩:=h;rfl
inductive Isp_fBv(vs:List V)(H:Hp)(Q:VK):Prop
 |mk (p:_) (ys:_) (nk:_) (bh:_) (D:_) (ms:_) (js:_) (t:_) (h0_:vs=[.ref p]) (h1_:SqL H p ys) (h2_:AN (PL nk bh D H) ys js) (h3_:ms=js) (h4_:PLW nk bh D ms t) (h5_:∀H' q zs,Same H H'->H q=none->H' q=some (.lst zs)->AN (NM nk H') zs (Rga.rowR (Rga.qsOf bh ms))->Q (.ref q) H'):Isp_fBv vs H Q
def sp_fBv:Sp:=λvs H Q _=>Isp_fBv vs H Q
def xAup(h:sp_fBv vs H Q E):vs.length=1:=by obtain⟨_,_,_,_,_,_,_,_,rfl,_⟩:=h;rfl
def big2(h:n≤2000):n≤sizeLine:=zt (xAaw h)
def xApx(h:AN P vs js)(f:∀v i,i∈js->P v i->P' v i):AN P' vs js:=⟨h.1,λm v i b a=>f _ _ (qh a) (h.2 m v i b a)⟩
def tD(ks:List Key):PyData:=.tuple (ks.map kP)
def noB_kP:∀k:Key,noB (kP k)=true
 |.inl _=>rfl
 |.inr _=>rfl
def xAom(ks:List Key):noB (tD ks)=true:=by
 show noB (.tuple (ks.map kP))=true;rw[noB]
 exact xAlc λd a=>by obtain⟨k,_,rfl⟩:=qj.mp a;exact noB_kP k
def xAci(ks:List Key):(tD ks).depth≤1:=by
 have:PyData.depthAll (ks.map kP)≤0:=xAeu λd a=>by
  obtain⟨k,_,rfl⟩:=qj.mp a;cases k <;> exact qb 0
 show PyData.depthAll (ks.map kP)+1≤1;omega
def kP_inj:∀{a b:Key},kP a=kP b->a=b
 |.inl _,.inl _,h=>by injection h with h;rw[h]
 |.inl _,.inr _,h=>by cases h
 |.inr _,.inl _,h=>by cases h
 |.inr _,.inr _,h=>by injection h with h;rw[h]
def xApy:∀{a b:List Key},a.map kP=b.map kP->a=b
 |[],[],_=>rfl
 |[],_::_,h=>by cases h
 |_::_,[],h=>by cases h
 |x::a,y::b,h=>by
  rw[zg,zg]at h;injection h with h1 h2;rw[kP_inj h1,xApy h2]
def xAuq(h:tD a=tD b):a=b:=xApy (PyData.tuple.inj h)
def xAgc(a b:List Key):PyData.eqv (tD a) (tD b)=decide (a=b):=by
 by_cases h:a=b
 ·rw[qI h,h]
  exact(xAlb _ _ (xAom b) (xAom b)).mpr rfl
 ·rw[decide_eq_false h]
  cases q:PyData.eqv (tD a) (tD b) with
  |false=>rfl
  |true=>exact absurd (xAuq ((xAlb _ _ (xAom a) (xAom b)).mp q)) h
def gk_td(h:GK H (.tup ks) v):DT H v (tD ks):=by
 obtain⟨b,rfl,h⟩:=h;exact .tup h (xArm _)
def skk_kP:∀k:Key,sk (kP k) (kP k)=true
 |.inl _=>rfl
 |.inr _=>rfl
def xAmq:∀ks:List Key,sks (ks.map kP) (ks.map kP)=true
 |[]=>rfl
 |k::ks=>by
  show(sk (kP k) (kP k)&&sks (ks.map kP) (ks.map kP))=true;rw[skk_kP,xAmq ks];rfl
def sk_tD(ks:List Key):sk (tD ks) (tD ks)=true:=xAmq ks
def Lay(ks:List Key):Prop:=(tD ks).canLay0=true
def Lt2(a b c d:Int):Prop:=a<c\/(a=c/\b<d)
def lt2_D(h:Lt2 a b c d):ltD (.tuple [.int a,.int b]) (.tuple [.int c,.int d])=true:=by
 rw[ltD];rcases h with h|⟨rfl,h⟩
 ·exact xAds h
 ·exact xAew (xAds h)
def xAmr(n:Nat):(List.range n).Pairwise λa b=>a<b:=List.pairwise_lt_range
def Rd.same(r:Rd H a u)(s:Same H H'):Rd H' a u:=by
 rcases r with r|⟨o,r⟩
 ·exact .inl (s _ _ r)
 ·exact .inr ⟨o,s _ _ r⟩
def kN(i:Nat):Key:=.inr ((["births","places","cuts","signs","marks","notes","lines","cells","leaves"]:List Str).getD i "")
def fkv(F:Nat->Addr)(n:Nat):List (Key×V):=(List.range n).map λi=>(kN i,.ref (F i))
def xAur:∀i,i<9->∀j,j<9->kN i=kN j->i=j:=by decide +kernel
def xAbl(F:Nat->Addr)(i:Nat)(h:i<9):valV (fkv F 9) (kN i)=some (.ref (F i)):=by
 have d:∀(l:List Nat),(∀j∈l,j<9)->i∈l->valV (l.map λi=>(kN i,V.ref (F i))) (kN i)=some (.ref (F i)):=λl=>by
  induction l with
  |nil=>intro _ z;cases z
  |cons j l c =>
   intro b hi;rw[zg]
   by_cases e:j=i
   ·subst e;exact xAaz rfl
   ·rw[xAba (λz=>e (xAur j (b j qp) i h z))]
    rcases qz.mp hi with z|z
    ·exact absurd z.symm e
    ·exact c (λj a=>b j (qu _ a)) z
 exact d _ (λj a=>qw.mp a) (qw.mpr h)
def xAus(h:PyData.strOk z=true)(x:Int):Lay [.inr z,.inl x]:=by
 show(PyData.strOk z&&(true&&true))=true;rw[h];rfl
def xAut:∀{ds:List PyData},(∀d∈ds,sk d d=true)->sks ds ds=true
 |[],_=>rfl
 |d::ds,h=>by
  show(sk d d&&sks ds ds)=true;rw[h d qp,xAut λx a=>h x (qu _ a)];rfl
def ok_tD(h:Lay ks):(tD ks).canLay0=true/\sk (tD ks) (tD ks)=true/\(tD ks).depth≤1:=⟨h,sk_tD ks,xAci ks⟩
def ok_str(h:PyData.strOk z=true):(PyData.str z).canLay0=true/\sk (.str z) (.str z)=true/\(PyData.str z).depth≤1:=⟨h,O,qy 1⟩
def Rest(H H':Hp)(S:Addr->Prop):Prop:=∀b o,H b=some o->¬S b->H' b=some o
def AL{β α:Type}(P:β->α->Prop)(vs:List β)(rs:List α):Prop:=vs.length=rs.length/\∀(m:Nat) v r,vs[m]?=some v->rs[m]?=some r->P v r
section
variable {β α:Type}{P P':β->α->Prop}{vs us:List β}{rs ts:List α}
def AL.imp(h:AL P vs rs)(f:∀v r,P v r->P' v r):AL P' vs rs:=⟨h.1,λm v r a b=>f _ _ (h.2 m v r a b)⟩
def AL.impM(h:AL P vs rs)(f:∀v r,v∈vs->r∈rs->P v r->P' v r):AL P' vs rs:=⟨h.1,λm v r a b=>f _ _ (qh a) (qh b) (h.2 m v r a b)⟩
def AL.nil:AL P [] []:=⟨O,λm v r z=>nomatch z⟩
def AL.cons{v:β}{r:α}(h:P v r)(g:AL P vs rs):AL P (v::vs) (r::rs):=by
 refine⟨by rw[qx,qx,g.1],λm d c b a=>?_⟩
 cases m with
 |zero=>cases b;cases a;exact h
 |succ m=>exact g.2 m _ _ b a
def AL.head(g:AL P (v::vs) (r::rs)):P v r:=g.2 0 _ _ rfl rfl
def AL.tail(g:AL P (v::vs) (r::rs)):AL P vs rs:=⟨by have:=g.1;simpa using this,λm d c b a=>g.2 (m+1) _ _ b a⟩
def AL.none(g:AL P [] (r::rs)):False:=by have:=g.1;simp at this
def AL.nothing(g:AL P (v::vs) []):False:=by have:=g.1;simp at this
def AL.app(h:AL P vs rs)(g:AL P us ts):AL P (vs++us) (rs++ts):=by
 induction vs generalizing rs with
 |nil=>cases rs with
  |nil=>exact g
  |cons r rs=>exact h.none.elim
 |cons v vs a=>cases rs with
  |nil=>exact h.nothing.elim
  |cons r rs=>exact .cons h.head (a h.tail)
def AL.snoc(h:AL P vs rs)(a:P v r):AL P (vs++[v]) (rs++[r]):=h.app (.cons a .nil)
def AL.at{m:Nat}{v:β}(h:AL P vs rs)(e:vs[m]?=some v):∃r,rs[m]?=some r/\P v r:=by
 have a:m<rs.length:=by rw[←h.1];exact(qm.mp e).1
 exact⟨rs[m],qg a,h.2 m v _ e (qg a)⟩
def AL.at'{m:Nat}{r:α}(h:AL P vs rs)(e:rs[m]?=some r):∃v,vs[m]?=some v/\P v r:=by
 have a:m<vs.length:=by rw[h.1];exact(qm.mp e).1
 exact⟨vs[m],qg a,h.2 m _ r (qg a) e⟩
def AL.mem(h:AL P vs rs)(e:v∈vs):∃r,r∈rs/\P v r:=by
 obtain⟨m,b,rfl⟩:=z6.mp e;obtain⟨r,a,p⟩:=h.at (qg b);exact⟨r,qh a,p⟩
def AL.mem'(h:AL P vs rs)(e:r∈rs):∃v,v∈vs/\P v r:=by
 obtain⟨m,b,rfl⟩:=z6.mp e;obtain⟨v,a,p⟩:=h.at' (qg b);exact⟨v,qh a,p⟩
def AL.map(h:AL P vs rs){a:Type}{f:β->a}{P2:a->α->Prop}(k:∀v r,v∈vs->r∈rs->P v r->P2 (f v) r):AL P2 (vs.map f) rs:=by
 refine⟨by rw[qf,h.1],λm v r b d=>?_⟩;rw[qv]at b;obtain⟨u,c,rfl⟩:=z9.mp b;exact k _ _ (qh c) (qh d) (h.2 m u r c d)
end
def AL.dts{α:Type}{P:V->α->Prop}{H:Hp}{D:α->PyData}(a:∀v r,P v r->DT H v (D r)):∀{vs:List V} {rs:List α},AL P vs rs->DTs H vs (rs.map D)
 |[],[],_=>.nil
 |[],_::_,h=>h.none.elim
 |_::_,[],h=>h.nothing.elim
 |_::_,_::_,h=>.cons (a _ _ h.head) (AL.dts a h.tail)
def mainK:List Key:=[.inr "",.inl 0]
def Nm(ks:List Key):Prop:=∃w x,ks=[.inr w,.inl x]/\(w = "ann" \/ w = "bo" \/ w = "cyan")
def Pn(ks:List Key):Prop:=ks=mainK\/Nm ks
def Nm.lay(h:Nm ks):Lay ks:=by
 obtain⟨w,x,rfl,h⟩:=h;refine xAus ?_ x;rcases h with rfl|rfl|rfl <;> decide +kernel
def xArn:Lay mainK:=by unfold Lay mainK;decide +kernel
def Pn.lay(h:Pn ks):Lay ks:=by
 rcases h with rfl|h
 ·exact xArn
 ·exact h.lay
def Nm.main(h:Nm ks):ks≠mainK:=by
 obtain⟨w,x,rfl,h⟩:=h;intro z;unfold mainK at z;injection z with z _;injection z with z;subst z;revert h
 decide +kernel
def Pn.two(h:Pn ks):∃w x,ks=[.inr w,.inl x]:=by
 rcases h with rfl|⟨w,x,rfl,_⟩
 ·exact⟨_,_,O⟩
 ·exact⟨_,_,O⟩
def BT(H:Hp)(v:V):Prop:=∃b vn a x y,v=.ref b/\H b=some (.tup [vn,a])/\GK H (.tup x) vn/\Nm x/\GK H (.tup y) a/\Pn y
def BT.tups(h:BT H v)(t:Tups H H'):BT H' v:=by
 obtain⟨b,vn,a,x,y,e,h1,h2,c,f,d⟩:=h;exact⟨b,vn,a,x,y,e,t _ _ h1,h2.tups t,c,f.tups t,d⟩
def CT(H:Hp)(v:V)(k:List Key):Prop:=∃b a vn y,v=.ref b/\H b=some (.tup [a,vn])/\GK H (.tup k) a/\Pn k/\GK H (.tup y) vn/\Nm y
def CT.tups(h:CT H v k)(t:Tups H H'):CT H' v k:=by
 obtain⟨b,a,vn,y,e,h1,h2,c,f,d⟩:=h;exact⟨b,a,vn,y,e,t _ _ h1,h2.tups t,c,f.tups t,d⟩
open Classical in
noncomputable def dels(H:Hp)(S:Addr->Prop):Hp:=λb=>if S b then none else H b
section
open Classical
variable {H H':Hp}{S:Addr->Prop}
def xAcc(h:S b):dels H S b=none:=qF h
def xAcj(h:¬S b):dels H S b=H b:=qB h
def xAon:Same (dels H S) H:=λb o e=>by
 by_cases h:S b
 ·rw[xAcc h]at e;cases e
 ·rw[xAcj h]at e;exact e
def xAdt(s:Same (dels H S) H')(e:H b=some o)(h:¬S b):H' b=some o:=s _ _ (by rw[xAcj h];exact e)
def xAoo(s:Same (dels H S) H')(h:∀b,S b->∀xs,H b≠some (.tup xs)):Tups H H':=λb xs e=>xAdt s e λz=>h b z xs e
def xAop(h:H b=none):dels H S b=none:=by
 by_cases z:S b
 ·exact xAcc z
 ·rw[xAcj z];exact h
end
end My
namespace My
open PySem L2 PyProof.Rows
def lt2_tr(h:Lt2 a b c d)(g:Lt2 c d e f):Lt2 a b e f:=by unfold Lt2 at *;omega
def NmKP(H:Hp)(v:V)(k:List Key):Prop:=GK H (.tup k) v
def NmKP.tups(h:NmKP H v k)(t:Tups H H'):NmKP H' v k:=GK.tups h t
def huge(h:n≤100000):n<sizeLine:=by rw[sizeLine_eq];omega
def xAjc{β α:Type}{P:β->α->Prop}{ws:List β}{ini:List α}{las:α}(h:AL P ws (ini++[las])):∃us v,ws=us++[v]/\AL P us ini/\P v las:=by
 have a:=h.1;rw[qe,qo]at a;rcases yo ws with z|⟨us,v,z⟩
 ·rw[z]at a;exact absurd a (by simp)
 ·rw[jc]at z
  subst z
  have d:us.length=ini.length:=by rw[qe,qo]at a;omega
  refine⟨us,v,O,⟨d,λm v r c b=>h.2 m v r ?_ ?_⟩,h.2 us.length v las (by simp) (by rw[d];simp)⟩
  ·rw[wc (qm.mp c).1];exact c
  ·rw[wc (qm.mp b).1];exact b
def xAoq{a:Addr}{kvs:List (KD×V×V)}{H:Hp}{R:It->Hp->Prop}(r:Rd H a (.dG kvs))(k:∀(o:Obj) (Y:Hp),(∀b u,b≠a->H b=some u->Y b=some u)->(∀b,Y b=none->H b=none)->Y a=some (.frz o (.dG kvs))->R (ItG a o kvs) Y) :
  (H a=some (.dG kvs)/\∀o,R (ItG a o kvs) (upd H a (.frz o (.dG kvs))))\/∃o,H a=some (.frz o (.dG kvs))/\R (ItG a o kvs) H:=by
 rcases r with e|⟨o,e⟩
 ·refine .inl ⟨e,λo=>k o _ (λb u n e=>by rw[xAae n];exact e) (λb q=>?_) xAab⟩
  by_cases z:b=a
  ·subst z;rw[xAab]at q;cases q
  ·rw[xAae z]at q;exact q
 ·exact .inr ⟨o,e,k o H (λ_ _ _ e=>e) (λ_ e=>e) e⟩
def xAcd{a:Addr}{kvs:List (KD×V×V)}{H:Hp}{R:It->Hp->Prop}(r:Rd H a (.dG kvs))(k:∀(o:Obj) (Y:Hp),(∀b u,b≠a->H b=some u->Y b=some u)->(∀b,Y b=none->H b=none)->Y a=some (.frz o (.dG kvs))->R (ItI a o kvs) Y) :
  (H a=some (.dG kvs)/\∀o,R (ItI a o kvs) (upd H a (.frz o (.dG kvs))))\/∃o,H a=some (.frz o (.dG kvs))/\R (ItI a o kvs) H:=by
 rcases r with e|⟨o,e⟩
 ·refine .inl ⟨e,λo=>k o _ (λb u n e=>by rw[xAae n];exact e) (λb q=>?_) xAab⟩
  by_cases z:b=a
  ·subst z;rw[xAab]at q;cases q
  ·rw[xAae z]at q;exact q
 ·exact .inr ⟨o,e,k o H (λ_ _ _ e=>e) (λ_ e=>e) e⟩
def xAro{us:List V}{v:V}{r:Nat}(h:r≤us.length):cutV (us++[v]) (some (r:Int)) (some (-1))=us.drop r:=by
 unfold cutV;rw[HT.sIx_nat]
 have e:HT.sIx (us++[v]).length (us++[v]).length (some (-1))=us.length:=by
  unfold HT.sIx;rw[qe,qo]
  simp only[show((-1:Int)<0) from by decide,if_true]
  omega
 rw[e,qe,qo,Nat.min_eq_left (by omega),List.drop_append_of_le_length h];rw[List.take_append_of_le_length (by rw[wm];exact qb _),yr (by rw[wm];exact qb _)]
def xAuu(h:AL (NmKP H) ws ls):DTs H ws (ls.map tD):=AL.dts (λ_ _ z=>gk_td z) h
def xArp(ls:List (List Key))(k:List Key):((ls.map tD).countP λd=>PyData.eqv d (tD k))=ls.countP λa=>decide (a=k):=by
 rw[List.countP_map]
 exact List.countP_congr λa _=>by
  show PyData.eqv (tD a) (tD k)=true↔_;rw[xAgc]
def xAor(hn:ini.Nodup):((((ini++[las]).map tD).countP λd=>PyData.eqv d (tD las))>1)↔las∈ini:=by
 rw[xArp,List.countP_append]
 have h1:List.countP (λa=>decide (a=las)) [las]=1:=by simp
 rw[h1];constructor
 ·intro h
  have:0<List.countP (λa=>decide (a=las)) ini:=by omega
  obtain⟨a,b,e⟩:=km.mp this;rw[←qO e];exact b
 ·intro h
  have:0<List.countP (λa=>decide (a=las)) ini:=km.mpr ⟨las,h,qI rfl⟩;omega
def FRbP(g:TG)(tb:TS)(D:Ends)(σ:L2.St)(J:It)(H1:Hp):Prop:=∃W:Nat->Nat->L2.St->Hp->Prop,(∃m,W 0 m σ H1)/\∀i m σ H,W i m σ H →
 (J.stop i H/\D.nx σ H)\/(J.go i H/\∃N:L2.St->Hp->Prop,(∀σ' H',N σ' H'->∃b,b<m/\W (i+1) b σ' H')/\∀x H',J.yld i H x H'->g x σ H' λa H2=>tb { D with nx:=N,ct:=N,bk:=D.nx } a H2)
def xAms{g:TG}(h:a σ H (FRbP g tb D σ)):tFor a g tb D σ H:=h
def xAdu(e:H a=some o)(c:∀ys,o≠.tup ys)(s:Same (del H a) H'):Tups H H':=λb xs q=>s _ _ (by rw[xAau (λz=>by rw[z,e]at q;exact c xs (qK q))];exact q)
def nd:List Key->KD
 |[]=>.non
 |a::r=>.tup (a::r)
def xAmt(h:k≠[]):nd k=.tup k:=by
 cases k with
 |nil=>exact absurd rfl h
 |cons a r=>rfl
def xApz(h:nd a=nd b):a=b:=by
 cases a with
 |nil=>cases b with
  |nil=>rfl
  |cons b r=>cases h
 |cons a r=>cases b with
  |nil=>cases h
  |cons b q=>injection h
def Nm.ne(h:Nm k):k≠[]:=by obtain⟨w,x,rfl,_⟩:=h;exact λz=>nomatch z
def Pn.ne(h:Pn k):k≠[]:=by obtain⟨w,x,rfl⟩:=h.two;exact λz=>nomatch z
def NmN(H:Hp)(v:V)(k:List Key):Prop:=GK H (nd k) v
def NmN.tups(h:NmN H v k)(t:Tups H H'):NmN H' v k:=GK.tups h t
def gk_nd(h:k≠[])(g:GK H (.tup k) v):GK H (nd k) v:=by rw[xAmt h];exact g
def gk_dn(h:k≠[])(g:GK H (nd k) v):GK H (.tup k) v:=by rw[xAmt h]at g;exact g
def AL.mapR{β α a:Type}{P:β->α->Prop}{P2:β->a->Prop}{f:α->a}{vs:List β}{rs:List α}(h:AL P vs rs)(k:∀v r,v∈vs->r∈rs->P v r->P2 v (f r)):AL P2 vs (rs.map f):=by
 refine⟨by rw[qf,h.1],λm v r b d=>?_⟩;rw[qv]at d;obtain⟨u,c,rfl⟩:=z9.mp d;exact k _ _ (qh b) (qh c) (h.2 m v u b c)
section
variable {H H':Hp}{ys:List Pc}{f:List Key->Option Bool}{kr:List (KD×V×V)}
def xArq{α β:Type}(kvs:List (KD×α×β))(k:KD)(y:α)(v:β):(pG kvs k y v).map (·.1)=if(vG kvs k).isSome=true then kvs.map (·.1) else kvs.map (·.1)++[k]:=by
 unfold pG
 by_cases h:(vG kvs k).isSome=true
 ·rw[qF h,qF h,wx]
  refine jv λe _=>?_;show(if e.1=k then(e.1,e.2.1,v) else e).1=e.1
  split <;> rfl
 ·rw[qB h,qB h,z7];rfl
def xAos{α β:Type}{kvs:List (KD×α×β)}(h:(kvs.map (·.1)).Nodup)(k:KD)(y:α)(v:β):((pG kvs k y v).map (·.1)).Nodup:=by
 rw[xArq]
 by_cases q:(vG kvs k).isSome=true
 ·rw[qF q];exact h
 ·rw[qB q,v9]
  have hn:vG kvs k=none:=by
   cases z:vG kvs k with
   |none=>rfl
   |some u=>rw[z]at q;exact absurd rfl q
  refine⟨h,zx.mpr ⟨(λz=>nomatch z),yb⟩,λa c b d e=>?_⟩;obtain⟨x,f,rfl⟩:=qj.mp c;exact vG_no hn x f (e.trans (qt.mp d))
def pG_mem{α β:Type}{kvs:List (KD×α×β)}{k:KD}{y:α}{v:β}{e:KD×α×β}(h:e∈pG kvs k y v):(e=(k,y,v))\/∃a∈kvs,a.1=e.1/\a.2.1=e.2.1:=by
 unfold pG at h
 by_cases q:(vG kvs k).isSome=true
 ·rw[qF q]at h
  obtain⟨a,b,rfl⟩:=qj.mp h;refine .inr ⟨a,b,?_⟩
  by_cases z:a.1=k
  ·rw[qF z];exact⟨O,O⟩
  ·rw[qB z];exact⟨O,O⟩
 ·rw[qB q]at h
  rcases zd.mp h with z|z
  ·exact .inr ⟨e,z,O,O⟩
  ·exact .inl (qt.mp z)
end
def xAfa{β α a:Type}{P:β->α->Prop}{f:β->a}{g:α->a}:∀{vs:List β} {rs:List α},AL P vs rs->(∀v r,P v r->f v=g r)->vs.map f=rs.map g
 |[],[],_,_=>rfl
 |[],_::_,h,_=>h.none.elim
 |_::_,[],h,_=>h.nothing.elim
 |_::_,_::_,h,k=>by rw[zg,zg,k _ _ h.head,xAfa h.tail k]
def vG_ex{kvs:List (KD×V×V)}{k:KD}{v:V}(h:vG kvs k=some v):∃e∈kvs,e.1=k:=by
 obtain⟨e,a,_⟩:=z9.mp h;exact⟨e,List.mem_of_find?_eq_some a,by simpa using List.find?_some a⟩
structure Sg where
 pt:List Key
 nk:List Key
 bh:Option Nat
 ka:Int
 kb:Int
 kc:Int
 sg:PyData
 lv:Bool
def nkS(S:Nat->Sg)(i:Nat):List Key:=(S i).nk
def bhS(S:Nat->Sg)(i:Nat):Option Nat:=(S i).bh
def DS(S:Nat->Sg)(i:Nat):PyData:=.tuple [.int (S i).ka,.int (S i).kb,.int (S i).kc]
inductive SN(S:Nat->Sg)(H:Hp)(v:V)(i:Nat):Prop
 |mk (b:Addr) (vp vn vb:V) (kq:Addr) (vs:V) (h0:v=.ref b) (h1:H b=some (.tup [vp,vn,vb,.ref kq,vs,.bl (S i).lv])) (h2:GK H (.tup (S i).pt) vp) (h3:NM (nkS S) H vn i) (h4:GK H (kd (nkS S) (bhS S i)) vb) (h5:H kq=some (.tup [.int (S i).ka,.int (S i).kb,.int (S i).kc])) (h6:DT H vs (S i).sg):SN S H v i
def SN.tups{S:Nat->Sg}(h:SN S H v i)(t:Tups H H'):SN S H' v i:=by
 obtain⟨b,c,vn,g,kq,vs,e,h1,h2,j,f,d,a⟩:=h;exact⟨b,c,vn,g,kq,vs,e,t _ _ h1,h2.tups t,j.tups t,f.tups t,t _ _ d,a.tups t⟩
def Lt3(x y:Sg):Prop:=x.ka<y.ka\/(x.ka=y.ka/\(x.kb<y.kb\/(x.kb=y.kb/\x.kc<y.kc)))
def lt3_D{S:Nat->Sg}(h:Lt3 (S i) (S j)):ltD (DS S i) (DS S j)=true:=by
 unfold DS;rw[ltD];rcases h with h|⟨e,h|⟨e',h⟩⟩
 ·exact xAds h
 ·rw[e];exact xAew (xAds h)
 ·rw[e,e'];exact xAew (xAew (xAds h))
def OkS(d:PyData):Prop:=d.canLay0=true/\sk d d=true/\d.depth≤3
structure WS(S:Nat->Sg)(n:Nat):Prop where
 few:n≤1400
 up:∀i j,i<j->j<n->Lt3 (S i) (S j)
 inj:∀i,i<n->∀j,j<n->(S i).nk=(S j).nk->i=j
 back:∀i,i<n->∀j,(S i).bh=some j->j<i/\(S j).pt=(S i).pt
 lay:∀i,i<n->Lay (S i).nk/\Lay (S i).pt
 sgn:∀i,i<n->OkS (S i).sg
def mineS(S:Nat->Sg)(pt:List Key)(i:Nat):Bool:=decide ((S i).pt=pt)
def xAax{S:Nat->Sg}{pt:List Key}:mineS S pt i=true↔(S i).pt=pt:=decide_eq_true_iff
def minesS(S:Nat->Sg)(n:Nat)(pt:List Key):List Nat:=(List.range n).filter (mineS S pt)
def rowS(S:Nat->Sg)(n:Nat)(pt:List Key):List Nat:=Rga.rowR (Rga.qsOf (bhS S) (minesS S n pt))
def aliveS(S:Nat->Sg)(n:Nat)(pt:List Key):List Nat:=(rowS S n pt).filter λi=>(S i).lv
def WS.plw{S:Nat->Sg}(W:WS S n)(pt:List Key):PLW (nkS S) (bhS S) (DS S) (minesS S n pt) 2:=by
 have l:PLW (nkS S) (bhS S) (DS S) (List.range n) 2:=by
  refine⟨by rw[zk];have:=W.few;omega,?_,λi hi j c e=>W.inj i (qw.mp hi) j (qw.mp c) e,Rga.wf_range λi hi b e=>(W.back i hi b e).1,xAfu λd o=>?_⟩
  ·exact(xAmr n).imp_of_mem λ{a b} p m h=>lt3_D (W.up a b h (qw.mp m))
  ·obtain⟨i,_,rfl⟩:=qj.mp o
   exact .inr ⟨_,_,_,O⟩
 refine l.filter λk f g b e=>?_;obtain⟨h1,h2⟩:=W.back k (qw.mp f) b e;exact xAax.mpr (h2.trans (xAax.mp g))
def xAot{S:Nat->Sg}{pt:List Key}(h:i∈minesS S n pt):i<n/\(S i).pt=pt:=⟨qw.mp (zo.mp h).1,xAax.mp (zo.mp h).2⟩
def xAmu{S:Nat->Sg}{pt:List Key}(W:WS S n):i∈rowS S n pt↔i<n/\(S i).pt=pt:=by
 have e:=Rga.nms_qs (bhS S) (minesS S n pt);have h:i∈rowS S n pt↔i∈Rga.nms (Rga.qsOf (bhS S) (minesS S n pt)):=(Rga.row_perm (W.plw pt).wf).mem_iff;rw[h,e,wu];exact⟨xAot,λz=>zo.mpr ⟨qw.mpr z.1,xAax.mpr z.2⟩⟩
def xAcw{S:Nat->Sg}{pt:List Key}(W:WS S n):(rowS S n pt).length≤n:=by
 unfold rowS;rw[Rga.row_len (W.plw pt).wf];exact qc (wv _ _) (by rw[zk];exact qb _)
def FG(H:Hp)(fa:Addr)(S:Nat->Sg)(n:Nat):Prop:=∃kvs a vs,Rd H fa (.dK kvs)/\valV kvs (.inr "signs")=some (.ref a)/\H a=some (.lst vs)/\AN (SN S H) vs (List.range n)/\WS S n
def FG.same{S:Nat->Sg}(h:FG H fa S n)(s:Same H H'):FG H' fa S n:=by
 obtain⟨kvs,a,vs,h1,h2,b,d,c⟩:=h;exact⟨kvs,a,vs,Rd.same h1 s,h2,s _ _ b,d.imp λv i g=>g.tups s.tups,c⟩
def extS(S:Nat->Sg)(n:Nat)(r:Sg):Nat->Sg:=λi=>if i=n then r else S i
def xAbf{S:Nat->Sg}(h:i<n):extS S n r i=S i:=qB (by omega)
def xAbw{S:Nat->Sg}:extS S n r n=r:=qF rfl
def Agr(S a:Nat->Sg)(n:Nat):Prop:=∀i,i<n->a i=S i
def Agr.ext(S:Nat->Sg)(n:Nat)(r:Sg):Agr S (extS S n r) n:=λi hi=>xAbf hi
def NM.agr{S b:Nat->Sg}(a:Agr S b n)(hi:i<n)(h:NM (nkS S) H v i):NM (nkS b) H v i:=by
 unfold NM nkS at h ⊢;rw[a i hi];exact h
def SN.agr{S f:Nat->Sg}(a:Agr S f n)(hi:i<n)(m:∀j,(S i).bh=some j->j<n)(h:SN S H v i):SN f H v i:=by
 obtain⟨b,k,vn,o,kq,vs,e,h1,h2,p,d,l,g⟩:=h;have c:f i=S i:=a i hi;refine⟨b,k,vn,o,kq,vs,e,by rw[c];exact h1,by rw[c];exact h2,NM.agr a hi p,?_,by rw[c];exact l,by rw[c];exact g⟩;unfold bhS at d ⊢;rw[c]
 cases z:(S i).bh with
 |none=>rw[z]at d;exact d
 |some j =>
  rw[z]at d;exact NM.agr a (m j z) d
def WS.ext{S:Nat->Sg}(W:WS S n)(hn:n<1400)(up:∀i,i<n->Lt3 (S i) r)(ne:∀i,i<n->(S i).nk≠r.nk)(bk:∀j,r.bh=some j->j<n/\(S j).pt=r.pt)(d:Lay r.nk)(b:Lay r.pt)(f:OkS r.sg):WS (extS S n r) (n+1) where
 few:=hn
 up:=λi j h1 h2=>by
  by_cases z:j=n
  ·subst z
   rw[xAbw,xAbf h1];exact up i h1
  ·rw[xAbf (show j<n by omega),xAbf (show i<n by omega)]
   exact W.up i j h1 (by omega)
 inj:=λi hi j g e=>by
  by_cases c:i=n
  ·by_cases a:j=n
   ·omega
   ·rw[c,xAbw,xAbf (show j<n by omega)]at e
    exact absurd e.symm (ne j (by omega))
  ·by_cases a:j=n
   ·rw[a,xAbw,xAbf (show i<n by omega)]at e
    exact absurd e (ne i (by omega))
   ·rw[xAbf (show i<n by omega),xAbf (show j<n by omega)]at e
    exact W.inj i (by omega) j (by omega) e
 back:=λi hi j e=>by
  by_cases z:i=n
  ·subst z
   rw[xAbw]at e ⊢;obtain⟨h1,h2⟩:=bk j e;rw[xAbf h1];exact⟨h1,h2⟩
  ·rw[xAbf (show i<n by omega)]at e ⊢
   obtain⟨h1,h2⟩:=W.back i (by omega) j e;rw[xAbf (show j<n by omega)];exact⟨h1,h2⟩
 lay:=λi hi=>by
  by_cases z:i=n
  ·subst z;rw[xAbw];exact⟨d,b⟩
  ·rw[xAbf (show i<n by omega)];exact W.lay i (by omega)
 sgn:=λi hi=>by
  by_cases z:i=n
  ·subst z;rw[xAbw];exact f
  ·rw[xAbf (show i<n by omega)];exact W.sgn i (by omega)
def sdW(b:Bool):Str:=if b then "behind" else "ahead"
end My
namespace L2
open PySem PySem.Spec PySem.W PyProof.Rows
inductive IsK(H:Hp)(T:String):V->Bool->Prop
 |str (z:Str):IsK H T (.str z) (T=="str")
 |int (i:Int):IsK H T (.int i) (T=="int")
 |bl (b:Bool):IsK H T (.bl b) (T=="bool"||T=="int")
 |non:IsK H T .non false
 |tup {p:Addr} {xs:List V} (h:H p=some (.tup xs)):IsK H T (.ref p) (T=="tuple")
 |lst {p:Addr} {xs:List V} (h:H p=some (.lst xs)):IsK H T (.ref p) (T=="list")
 |dct {p:Addr} {xs:List (Key×V)} (h:H p=some (.dK xs)):IsK H T (.ref p) (T=="dict")
inductive IrIs(xs:List V)(H:Hp)(Q:VK):Prop
 |mk (x:V) (T:String) (b:Bool) (h0:xs=[x,.ty T]) (hT:(["str","int","bool","tuple","list"]:List String).contains T=true) (h1:IsK H T x b) (h2:Q (.bl b) H):IrIs xs H Q
def rIs:List V->Hp->VK->Prop:=λxs H Q=>IrIs xs H Q
def xAmv:CallR X (.builtin "isinstance") rIs:=by
 intro pins s σ H xs us Q I c h;obtain⟨x,T,b,rfl,a,h1,q⟩:=h
 have a:T = "str" \/ T = "int" \/ T = "bool" \/ T = "tuple" \/ T = "list":=by simpa using a
 refine xAji pins s σ H _ us Q I c ?_
 cases h1 with
 |str z=>exact⟨_,T,.type "str",_,O,.str _,by rcases a with rfl|rfl|rfl|rfl|rfl <;> rfl,q⟩
 |int i=>exact⟨_,T,.type "int",_,O,.int _,by rcases a with rfl|rfl|rfl|rfl|rfl <;> rfl,q⟩
 |bl i=>exact⟨_,T,.type "bool",_,O,.bl _,by rcases a with rfl|rfl|rfl|rfl|rfl <;> rfl,q⟩
 |non=>exact⟨_,T,.type "NoneType",_,O,.non,by rcases a with rfl|rfl|rfl|rfl|rfl <;> rfl,q⟩
 |tup h=>exact⟨_,T,.type "tuple",_,O,.tup h,by rcases a with rfl|rfl|rfl|rfl|rfl <;> rfl,q⟩
 |lst h=>exact⟨_,T,.type "list",_,O,.lst h,by rcases a with rfl|rfl|rfl|rfl|rfl <;> rfl,q⟩
 |dct h=>exact⟨_,T,.type "dict",_,O,.dK h,by rcases a with rfl|rfl|rfl|rfl|rfl <;> rfl,q⟩
end L2
namespace My
open PySem L2 PyProof.Rows
def top(i:Nat):Stmt:=PySem.Challenge.pw_pagefolk_k45_texts_of_signs.main.body.getD i (.Pass ⟨0,0,0,0⟩)
abbrev s_fAs:Stmt:=top 2
abbrev s_fAr:Stmt:=top 3
abbrev s_fAl:Stmt:=top 4
abbrev s_fBx:Stmt:=top 5
abbrev s_fBf:Stmt:=top 6
abbrev s_fAn:Stmt:=top 8
abbrev s_fAm:Stmt:=top 9
abbrev s_fBv:Stmt:=top 10
abbrev s_fBl:Stmt:=top 12
abbrev s_fBz:Stmt:=top 13
abbrev s_fBy:Stmt:=top 14
abbrev s_fAh:Stmt:=top 16
abbrev s_fBw:Stmt:=top 17
abbrev s_fBr:Stmt:=top 18
abbrev s_fAv:Stmt:=top 19
abbrev s_fAd:Stmt:=top 20
abbrev s_fAi:Stmt:=top 21
abbrev s_fBo:Stmt:=top 22
abbrev s_fAu:Stmt:=top 23
abbrev s_fBs:Stmt:=top 24
abbrev s_fAb:Stmt:=top 26
abbrev s_fBu:Stmt:=top 27
abbrev s_fAf:Stmt:=top 28
abbrev s_fBg:Stmt:=top 29
abbrev s_fBq:Stmt:=top 30
abbrev s_fAg:Stmt:=top 31
abbrev s_fBd:Stmt:=top 32
abbrev s_fAw:Stmt:=top 33
abbrev s_fAa:Stmt:=top 34
abbrev s_fBn:Stmt:=top 36
abbrev s_fAt:Stmt:=top 37
abbrev s_fAx:Stmt:=top 38
abbrev s_fBm:Stmt:=top 39
abbrev s_fBt:Stmt:=top 41
abbrev s_fAj:Stmt:=top 42
abbrev s_fAc:Stmt:=top 43
abbrev s_fAo:Stmt:=top 44
abbrev s_fBi:Stmt:=top 45
abbrev s_fCa:Stmt:=top 46
abbrev s_fBp:Stmt:=top 47
abbrev s_fAk:Stmt:=top 49
abbrev s_fBa:Stmt:=top 50
abbrev s_fBj:Stmt:=top 51
abbrev s_fAz:Stmt:=top 52
abbrev s_fBk:Stmt:=top 53
abbrev s_fAy:Stmt:=top 54
abbrev s_fBe:Stmt:=top 55
abbrev s_fAe:Stmt:=top 56
abbrev s_fAp:Stmt:=top 57
abbrev s_fAq:Stmt:=top 58
abbrev s_fBb:Stmt:=top 59
abbrev s_fBh:Stmt:=top 60
abbrev s_fBc:Stmt:=top 61
abbrev s_fCb:Stmt:=top 62
abbrev N_fAs:List Str:=["births","part","outer_of","chain"]
abbrev N_fAr:List Str:=["leaves","hand","to","told","leave"]
abbrev N_fAl:List Str:=["leave"]
abbrev N_fBx:List Str:=["leaves","chain","hand","to","told","part"]
abbrev N_fBf:List Str:=["roll","births","leaves","hand","part","to","chain"]
abbrev N_fAn:List Str:=["place"]
abbrev N_fAm:List Str:=["places","followers","place"]
abbrev N_fBv:List Str:=["places","followers","row","to_come","name"]
abbrev N_fBl:List Str:=["facts","part"]
abbrev N_fBz:List Str:=["facts","part"]
abbrev N_fBy:List Str:=["facts","part","lives"]
abbrev N_fAh:List Str:=["seats","side"]
abbrev N_fBw:List Str:=["seats","begin","end","first"]
abbrev N_fBr:List Str:=["row"]
abbrev N_fAv:List Str:=["mark"]
abbrev N_fAd:List Str:=["facts","part","row","seats","telling","mark","over","between"]
abbrev N_fAi:List Str:=["facts","part","place","row","seats","telling","told","name","marks"]
abbrev N_fBo:List Str:=["facts","part"]
abbrev N_fAu:List Str:=["note"]
abbrev N_fBs:List Str:=["facts","part","seats","alive","told","note","between","under"]
abbrev N_fAb:List Str:=["facts","telling","place","part"]
abbrev N_fBu:List Str:=["outer_of","part","ended","way","on_way","outer"]
abbrev N_fAf:List Str:=["telling","parts"]
abbrev N_fBg:List Str:=["telling","outer_of","turned","ended","part","way","one"]
abbrev N_fBq:List Str:=["telling","turned","stands","part","place"]
abbrev N_fAg:List Str:=["outer_of","reaching","part","way","comes","one"]
abbrev N_fBd:List Str:=["facts","outer_of","reaching"]
abbrev N_fAw:List Str:=["facts","stands","cut","left","reaching"]
abbrev N_fAa:List Str:=["facts","telling","stands","shown","inner","part"]
abbrev N_fBn:List Str:=["facts","part","way","lines","lives"]
abbrev N_fAt:List Str:=["cell"]
abbrev N_fAx:List Str:=["facts","part","cells"]
abbrev N_fBm:List Str:=["facts","part","rows","columns","told","words","row"]
abbrev N_fBt:List Str:=["facts","roll","hand","part"]
abbrev N_fAj:List Str:=["number","place"]
abbrev N_fAc:List Str:=["facts","roll","hand","inner","told","to_come","coming","is_open","within"]
abbrev N_fAo:List Str:=["numbers","sign"]
abbrev N_fBi:List Str:=["facts","part","numbers","signs","marks"]
abbrev N_fCa:List Str:=["facts","numbers","part","is_open"]
abbrev N_fBp:List Str:=["facts","roll","hand","told","numbers"]
abbrev N_fAk:List Str:=["_law_script","_law_k"]
abbrev N_fBa:List Str:=["_law_cell","_law_digits"]
abbrev N_fBj:List Str:=["_law_drawn_here","_law_many","_law_number"]
abbrev N_fAz:List Str:=["_law_drawn_here","_law_facts_here","_law_roll","_law_known","_law_wide","_law_k","_law_part","_law_outer","_law_counts","_law_placed"]
abbrev N_fBk:List Str:=["_law_drawn_here","_law_known","_law_way"]
abbrev N_fAy:List Str:=["_law_drawn_here","_law_facts_here","_law_roll","_law_known","_law_names","_law_k","_law_part","_law_behind","_law_name","_law_lives","_law_key"]
abbrev N_fBe:List Str:=["_law_drawn_here","_law_names"]
abbrev N_fAe:List Str:=["_law_drawn_here","_law_facts_here","_law_roll","_law_names","_law_k","_law_parts_here","_law_part","_law_begin","_law_end","_law_name","_law_value","_law_kind"]
abbrev N_fAp:List Str:=["_law_drawn_here","_law_facts_here","_law_roll","_law_known","_law_part","_law_rows","_law_columns","_law_k","_law_way","_law_line_name","_law_key","_law_row","_law_column","_law_word"]
abbrev N_fAq:List Str:=["_law_drawn_here","_law_facts_here","_law_roll","_law_known","_law_k","_law_part","_law_hand","_law_to"]
abbrev N_fBb:List Str:=["_law_script","_law_roll","_law_digits","_law_facts_here","_law_key","_law_known","_law_names"]
abbrev N_fBh:List Str:=["_law_sign_here","_law_numbers"]
abbrev N_fBc:List Str:=["_law_facts_here","_law_found","_law_signs_here","_law_row","_law_numbers","_law_entry","_law_name","_law_text_here","_law_marks"]
abbrev N_fCb:List Str:=["_law_script","_law_roll","_law_facts_here","_law_hand"]
abbrev c_MAIN:Addr:=15
abbrev t_greatest_place:Addr:=157
abbrev t_all_inner_parts:Addr:=193
abbrev TSL:List Str:=["greatest_place","all_inner_parts"]
def tbA(t:Str):Addr:=if t = "greatest_place" then t_greatest_place else if t = "all_inner_parts" then t_all_inner_parts else 0
abbrev MS:List (Addr×List V):=[(c_MAIN,[.str "",.int 0])]
structure Txt(K:PySem.W.Frag)(mg:Str->Option Value)(tk:Str->Tok):Prop where
 b_dict:mg "dict"=none
 b_enumerate:mg "enumerate"=none
 b_int:mg "int"=none
 b_isinstance:mg "isinstance"=none
 b_len:mg "len"=none
 b_list:mg "list"=none
 b_max:mg "max"=none
 b_range:mg "range"=none
 b_sorted:mg "sorted"=none
 b_str:mg "str"=none
 c_MAIN:mg "MAIN"=some (.ref c_MAIN)
def Rest.refl{S:Addr->Prop}:Rest H H S:=λ_ _ e _=>e
def Rest.same{S:Addr->Prop}(h:Rest H Z S)(s:Same Z Z'):Rest H Z' S:=λb o e n=>s _ _ (h b o e n)
def Rest.del{S:Addr->Prop}(h:Rest H Z S)(a:S p)(s:Same (del Z p) Z'):Rest H Z' S:=λb o e n=>s _ _ (by rw[xAau (λz=>n (by rw[z];exact a))];exact h b o e n)
def Rest.wr{S:Addr->Prop}(h:Rest H Z S)(a:S p):Rest H (upd Z p o) S:=λb u e n=>by
 rw[xAae (λz=>n (by rw[z];exact a))];exact h b u e n
def Rest.tups{S:Addr->Prop}(h:Rest H Z S)(c:∀b,S b->∃xs,H b=some (.lst xs)):Tups H Z:=λb ys e=>h b _ e λz=>by
 obtain⟨xs,a⟩:=c b z;rw[e]at a;cases a
def DP(H:Hp)(p:Addr):Prop:=∃ds:List Int,H p=some (.lst (ds.map V.int))/\∀d∈ds,0≤d/\d<60
def DP.to(s:Same (del H p) H')(h:H b=some o)(n:b≠p):H' b=some o:=s _ _ (by rw[xAau n];exact h)
def xAmw:Same (del H p) (upd H p o):=λb u e=>by
 by_cases z:b=p
 ·subst z;rw[xAcg]at e;cases e
 ·rw[xAau z]at e;rw[xAae z];exact e
def Same.dtrans(a:Same (del H p) H')(b:Same (del H' p) d):Same (del H p) d:=λc o e=>by
 by_cases z:c=p
 ·subst z;rw[xAcg]at e;cases e
 ·exact b _ _ (by rw[xAau z];exact a _ _ e)
def Same.sd(a:Same H H')(b:Same (del H' p) d):Same (del H p) d:=λc o e=>by
 by_cases z:c=p
 ·subst z;rw[xAcg]at e;cases e
 ·exact b _ _ (by rw[xAau z]at e ⊢;exact a _ _ e)
def xAcx(x y:Str):(x++y).length=x.length+y.length:=by
 show(x.cps++y.cps).size=_;rw[Array.size_append];rfl
inductive Isp_fBl(vs:List V)(H:Hp)(Q:VK):Prop
 |mk (fa:_) (vp:_) (pt:_) (S:_) (n:_) (h0_:vs=[.ref fa,vp]) (h1_:FG H fa S n) (h2_:GK H (.tup pt) vp) (h3_:Lay pt) (h4_:∀H' q zs,Same H H'->H q=none->H' q=some (.lst zs)->AN (SN S H') zs (minesS S n pt)->Q (.ref q) H'):Isp_fBl vs H Q
def sp_fBl:Sp:=λvs H Q _=>Isp_fBl vs H Q
inductive Isp_fBz(vs:List V)(H:Hp)(Q:VK):Prop
 |mk (fa:_) (vp:_) (pt:_) (S:_) (n:_) (h0_:vs=[.ref fa,vp]) (h1_:FG H fa S n) (h2_:GK H (.tup pt) vp) (h3_:Lay pt) (h4_:∀H' q zs,Same H H'->H q=none->H' q=some (.lst zs)->AN (NM (nkS S) H') zs (rowS S n pt)->Q (.ref q) H'):Isp_fBz vs H Q
def sp_fBz:Sp:=λvs H Q _=>Isp_fBz vs H Q
section
variable {K:PySem.W.Frag}{vs:List V}{H:Hp}{Q:VK}{E:XK}
def xAuv(h:sp_fBl vs H Q E):vs.length=2:=by obtain⟨_,_,_,_,_,rfl,_⟩:=h;rfl
def xAuw(h:sp_fBz vs H Q E):vs.length=2:=by obtain⟨_,_,_,_,_,rfl,_⟩:=h;rfl
end
inductive Isp_fBy(vs:List V)(H:Hp)(Q:VK):Prop
 |mk (fa:_) (vp:_) (pt:_) (S:_) (n:_) (h0_:vs=[.ref fa,vp]) (h1_:FG H fa S n) (h2_:GK H (.tup pt) vp) (h3_:Lay pt) (h4_:∀H' q zs,Same H H'->H q=none->H' q=some (.lst zs)->AN (NM (nkS S) H') zs (aliveS S n pt)->Q (.ref q) H'):Isp_fBy vs H Q
def sp_fBy:Sp:=λvs H Q _=>Isp_fBy vs H Q
section
variable {K:PySem.W.Frag}{vs:List V}{H:Hp}{Q:VK}{E:XK}
def xAux(h:sp_fBy vs H Q E):vs.length=2:=by obtain⟨_,_,_,_,_,rfl,_⟩:=h;rfl
end
def xAhg{x:V}:∀n:Nat,(List.replicate n [x]).flatten=List.replicate n x
 | 0=>rfl
 |n+1=>by rw[vi,yh,xAhg n];rfl
def xAmx:∀l:List Str,DTs H (l.map V.str) (l.map .str)
 |[]=>.nil
 |x::l=>.cons (.str x) (xAmx l)
abbrev PTa:Addr:=t_greatest_place
abbrev PTb:Addr:=t_all_inner_parts
abbrev MA(H:Hp):Prop:=H c_MAIN=some (.tup [.str "",.int 0])
abbrev lamQ:Str:=(("greatest_place":Str)++".<locals>.")++"<lambda>"
abbrev TBL(H:Hp):Prop:=Tb 116 26 lamQ PTa H
def keepT(t:TBL H)(s:Same (del H PTa) H')(e:H b=some o)(h:∀ps,o≠.tbl ps):H' b=some o:=s _ _ (by
 rw[xAau (λz=>?_)]
 ·exact e
 ·obtain⟨ps,t⟩:=t.tbl
  rw[z,t]at e
  exact h ps (qK e).symm)
def tupsT(t:TBL H)(s:Same (del H PTa) H'):Tups H H':=λb xs e=>keepT t s e (λps z=>nomatch z)
def rdT(t:TBL H)(s:Same (del H PTa) H')(r:Rd H a u)(h:∀ps,u≠.tbl ps):Rd H' a u:=by
 rcases r with e|⟨o,e⟩
 ·exact .inl (keepT t s e h)
 ·exact .inr ⟨o,keepT t s e (λps z=>nomatch z)⟩
def sS(a:Addr):Addr->Prop:=λb=>b=a\/b=PTa
abbrev lamR:Str:=(("all_inner_parts":Str)++".<locals>.")++"<lambda>"
structure TTP(H:Hp):Prop where
 ne:PTa≠PTb
 a:TBL H
 b:Tb 156 41 lamR PTb H
def s2 :Addr->Prop:=λb=>b=PTa\/b=PTb
section
variable {H H':Hp}
def TTP.same(t:TTP H)(s:Same H H'):TTP H':=⟨t.ne,t.a.same s,t.b.same s⟩
def TTP.cut{a:Addr}{o:HO}(t:TTP H)(e:H a=some o)(h1:∀ps,o≠.tbl ps)(h2:∀c,o≠.ext c)(s:Same (del H a) H'):TTP H':=⟨t.ne,t.a.cut e h1 h2 s,t.b.cut e h1 h2 s⟩
def TTP.no(t:TTP H){b:Addr}(h:s2 b):∃ps,H b=some (.tbl ps):=by
 rcases h with rfl|rfl
 ·exact t.a.tbl
 ·exact t.b.tbl
def xAgd(t:TTP H)(s:Same (dels H (s2)) H')(e:H b=some o)(h:∀ps,o≠.tbl ps):H' b=some o:=xAdt s e λz=>by
 obtain⟨ps,q⟩:=t.no z;rw[q]at e;exact h ps (qK e).symm
def rdTT(t:TTP H)(s:Same (dels H (s2)) H')(r:Rd H a u)(h:∀ps,u≠.tbl ps):Rd H' a u:=by
 rcases r with e|⟨o,e⟩
 ·exact .inl (xAgd t s e h)
 ·exact .inr ⟨o,xAgd t s e (λps z=>nomatch z)⟩
def TTP.free(t:TTP H)(s:Same (dels H (s2)) H')(t':TTP H'){b:Addr}(h:H' b=none):H b=none:=by
 have:=s.free h
 by_cases z:s2 b
 ·obtain⟨ps,q⟩:=t'.no z
  rw[q]at h;cases h
 ·rw[xAcj z]at this;exact this
def TTP.ofA(t:TTP H)(s:Same (del H PTa) H')(a:TBL H'):TTP H'/\Same (dels H (s2)) H':=by
 refine⟨⟨t.ne,a,?_⟩,λb u e=>?_⟩
 ·have to:∀{b u},b≠PTa->H b=some u->H' b=some u:=λn e=>s _ _ (by rw[xAau n];exact e)
  rcases t.b with e|⟨c,e1,e2⟩
  ·exact .inl (to t.ne.symm e)
  ·refine .inr ⟨c,to t.ne.symm e1,to (λz=>?_) e2⟩
   obtain⟨ps,q⟩:=t.a.tbl;rw[←z,e2]at q;cases q
 ·have d:¬s2 b:=λz=>by rw[xAcc z]at e;cases e
  rw[xAcj d]at e;exact s _ _ (by rw[xAau λz=>d (.inl z)];exact e)
def TTP.ofB(t:TTP H)(s:Same (del H PTb) (del H' PTb))(f:Tb 156 41 lamR PTb H'):TTP H'/\Same (dels H (s2)) H':=by
 have to:∀{b u},b≠PTb->H b=some u->H' b=some u:=λ{b u} n e=>by
  have:=s b u (by rw[xAau n];exact e);rw[xAau n]at this;exact this
 refine⟨⟨t.ne,?_,f⟩,λb u e=>?_⟩
 ·rcases t.a with e|⟨c,e1,e2⟩
  ·exact .inl (to t.ne e)
  ·refine .inr ⟨c,to t.ne e1,to (λz=>?_) e2⟩
   obtain⟨ps,q⟩:=t.b.tbl;rw[←z,e2]at q;cases q
 ·have d:¬s2 b:=λz=>by rw[xAcc z]at e;cases e
  rw[xAcj d]at e;exact to (λz=>d (.inr z)) e
end
def xArr{α:Type}(js:List α)(d:α):(List.range js.length).map (λi=>js.getD i d)=js:=by
 apply yd;intro i;rw[qv]
 by_cases hi:i<js.length
 ·rw[jw hi,qg hi]
  show some (js.getD i d)=_;rw[zf,qg hi];rfl
 ·rw[List.getElem?_eq_none (by simpa using hi),List.getElem?_eq_none (by omega)];rfl
def xAge{ls:List (List Key)}(h:∀k∈ls,Pn k):PyData.canLayAll0 (ls.map tD)=true/\PyData.depthAll (ls.map tD)≤1 :=
 ⟨xAcn λd a=>by obtain⟨k,b,rfl⟩:=qj.mp a;exact(h k b).lay,xAeu λd a=>by obtain⟨k,b,rfl⟩:=qj.mp a;exact xAci k⟩
structure Ln where
 pt:List Key
 wy:Str
 nk:List Key
 bh:Option Nat
 ka:Int
 kb:Int
 lv:Bool
def nkL(L:Nat->Ln)(i:Nat):List Key:=(L i).nk
def bhL(L:Nat->Ln)(i:Nat):Option Nat:=(L i).bh
def DLT(L:Nat->Ln)(i:Nat):PyData:=.tuple [.int (L i).ka,.int (L i).kb]
def LNT(L:Nat->Ln)(H:Hp)(v:V)(i:Nat):Prop:=∃b c vn a kq,v=.ref b/\H b=some (.tup [c,.str (L i).wy,vn,a,.ref kq,.bl (L i).lv])/\GK H (.tup (L i).pt) c/\NM (nkL L) H vn i/\GK H (kd (nkL L) (bhL L i)) a/\H kq=some (.tup [.int (L i).ka,.int (L i).kb])
def LNT.tups(h:LNT L H v i)(t:Tups H H'):LNT L H' v i:=by
 obtain⟨b,a,vn,f,kq,e,h1,h2,g,d,c⟩:=h;exact⟨b,a,vn,f,kq,e,t _ _ h1,h2.tups t,g.tups t,d.tups t,t _ _ c⟩
structure WL(L:Nat->Ln)(n:Nat):Prop where
 few:n≤1300
 up:∀i j,i<j->j<n->Lt2 (L i).ka (L i).kb (L j).ka (L j).kb
 inj:∀i,i<n->∀j,j<n->(L i).nk=(L j).nk->i=j
 back:∀i,i<n->∀j,(L i).bh=some j->j<i/\(L j).pt=(L i).pt/\(L j).wy=(L i).wy
 lay:∀i,i<n->Lay (L i).nk/\Lay (L i).pt
def mine(L:Nat->Ln)(pt:List Key)(a:Str)(i:Nat):Bool:=decide ((L i).pt=pt)&&decide ((L i).wy=a)
def mines(L:Nat->Ln)(n:Nat)(pt:List Key)(a:Str):List Nat:=(List.range n).filter (mine L pt a)
def WL.plw(W:WL L n)(pt:List Key)(g:Str):PLW (nkL L) (bhL L) (DLT L) (mines L n pt g) 2:=by
 have m:PLW (nkL L) (bhL L) (DLT L) (List.range n) 2:=by
  refine⟨by rw[zk];have:=W.few;omega,?_,λi hi j f e=>W.inj i (qw.mp hi) j (qw.mp f) e,Rga.wf_range λi hi b e=>(W.back i hi b e).1,xAfu λd q=>?_⟩
  ·exact(xAmr n).imp_of_mem λ{a b} r o h=>lt2_D (W.up a b h (qw.mp o))
  ·obtain⟨i,_,rfl⟩:=qj.mp q
   exact .inl ⟨_,_,O⟩
 refine m.filter λk l c b e=>?_;obtain⟨h1,h2,p⟩:=W.back k (qw.mp l) b e;unfold mine at c ⊢;rw[h2,p];exact c
def xAhh{pt:List Key}:mine L pt a i=true↔(L i).pt=pt/\(L i).wy=a:=by
 unfold mine;rw[zb,decide_eq_true_iff,decide_eq_true_iff]
def FLT(H:Hp)(fa:Addr)(L:Nat->Ln)(n:Nat):Prop:=∃kvs a vs,Rd H fa (.dK kvs)/\valV kvs (.inr "lines")=some (.ref a)/\H a=some (.lst vs)/\AN (LNT L H) vs (List.range n)/\WL L n
def FLT.same(h:FLT H fa L n)(s:Same H H'):FLT H' fa L n:=by
 obtain⟨kvs,a,vs,h1,h2,b,d,c⟩:=h;exact⟨kvs,a,vs,Rd.same h1 s,h2,s _ _ b,d.imp λv i g=>g.tups s.tups,c⟩
def xAbh(a b:Str):decide (V.str a=V.str b)=decide (a=b):=by
 by_cases h:a=b
 ·rw[h,qI rfl,qI rfl]
 ·rw[decide_eq_false h,decide_eq_false λz=>h (by injection z)]
def xArs{α:Type}(x:α)(xs:List α):atI (x::xs) 0=some x:=by
 unfold atI
 have e:ixN (x::xs).length 0=some 0:=by
  unfold ixN;rw[qx,qF (by omega),qF (by omega)];rfl
 rw[e];rfl
def NPn(H:Hp)(v:V):Prop:=∃p,GK H (.tup p) v/\Pn p
def NPn.tups(h:NPn H v)(t:Tups H H'):NPn H' v:=let⟨p,g,q⟩:=h;⟨p,g.tups t,q⟩
def pa_in{α β:Type}{k:KD}{v:β}:∀(es xs:List (KD×α×β)),vG (putAll xs es) k=some v->vG xs k=some v\/∃e∈es,e.1=k/\e.2.2=v
 |[],_,h=>.inl h
 |e::es,xs,h=>by
  rcases pa_in es _ h with h|⟨e',he,q⟩
  ·rw[xAbx]at h
   by_cases z:k=e.1
   ·rw[qF z]at h
    exact .inr ⟨e,qp,z.symm,qK h⟩
   ·rw[qB z]at h;exact .inl h
  ·exact .inr ⟨e',qu _ he,q⟩
def xArt{α β:Type}:∀(es xs:List (KD×α×β)),((vG xs k).isSome=true\/∃e∈es,e.1=k)->(vG (putAll xs es) k).isSome=true
 |[],_,h=>by
  rcases h with h|⟨e,he,_⟩
  ·exact h
  ·cases he
 |e::es,xs,h=>by
  refine xArt es _ ?_;rw[xAbx]
  by_cases z:k=e.1
  ·rw[qF z];exact .inl rfl
  ·rw[qB z]
   rcases h with h|⟨e',he,q⟩
   ·exact .inl h
   ·rcases qz.mp he with rfl|he
    ·exact absurd q.symm z
    ·exact .inr ⟨e',he,q⟩
def PR(P:KD->V->Prop)(H:Hp)(y:V):Prop:=∃b k vk v,y=.ref b/\H b=some (.tup [vk,v])/\GK H k vk/\P k v
def xAdd:∀{ys:List V},(∀y∈ys,PR P H y)->∃kvs,PrsV H ys kvs/\kvs.length=ys.length/\∀e∈kvs,P e.1 e.2.2
 |[],_=>⟨[],trivial,O,λe z=>nomatch z⟩
 |y::ys,h=>by
  obtain⟨b,k,vk,v,e,h1,h2,d⟩:=h y qp;obtain⟨kvs,a1,a2,c⟩:=xAdd λz hz=>h z (qu _ hz)
  exact⟨(k,vk,v)::kvs,⟨⟨b,e,h1,h2⟩,a1⟩,by rw[qx,qx,a2],λx a=>by
   rcases qz.mp a with rfl|a
   ·exact d
   ·exact c x a⟩
def xAcy{α β:Type}{P:β->α->Prop}:∀{ys:List β},(∀y∈ys,∃k,P y k)->∃ks:List α,ks.length=ys.length/\∀(m:Nat) y k,ys[m]?=some y->ks[m]?=some k->P y k
 |[],_=>⟨[],O,λm y k z=>by simp at z⟩
 |y::ys,h=>by
  obtain⟨k,c⟩:=h y qp;obtain⟨ks,a1,a2⟩:=xAcy λz hz=>h z (qu _ hz);refine⟨k::ks,by rw[qx,qx,a1],λm z j a b=>?_⟩
  cases m with
  |zero=>cases a;cases b;exact c
  |succ m=>exact a2 m z j (by simpa using a) (by simpa using b)
def LRk(H:Hp)(v:V)(a:Int×Int):Prop:=∃b d p h t y c,v=.ref b/\H b=some (.tup [d,.str h,.str t,.bl y,.ref c])/\GK H (.tup p) d/\Pn p/\H c=some (.tup [.int a.1,.int a.2])
def LR(H:Hp)(v:V):Prop:=∃a,LRk H v a
def LRk.tups(h:LRk H v a)(s:Tups H H'):LRk H' v a:=by
 obtain⟨b,d,p,x,t,y,c,e,h1,h2,f,g⟩:=h;exact⟨b,d,p,x,t,y,c,e,s _ _ h1,h2.tups s,f,s _ _ g⟩
def LR.tups(h:LR H v)(s:Tups H H'):LR H' v:=let⟨a,g⟩:=h;⟨a,g.tups s⟩
inductive Isp_fAs(vs:List V)(H:Hp)(Q:VK):Prop
 |mk (p:_) (v:_) (ys:_) (h0_:vs=[.ref p,v]) (h1_:SqL H p ys) (h2_:(∀y∈ys,BT H y)) (h3_:ys.length≤100) (h4_:NPn H v) (h5_:∀H' q cv,Same H H'->H q=none->H' q=some (.lst cv)->(∀x∈cv,NPn H' x)->Q (.ref q) H'):Isp_fAs vs H Q
def sp_fAs:Sp:=λvs H Q _=>Isp_fAs vs H Q
inductive Isp_fAl(vs:List V)(H:Hp)(Q:VK):Prop
 |mk (v:_) (a:_) (h0_:vs=[v]) (h1_:LRk H v a) (h2_:∀kv,DT H kv (.tuple [.int a.1,.int a.2])->Q kv H):Isp_fAl vs H Q
def sp_fAl:Sp:=λvs H Q _=>Isp_fAl vs H Q
inductive Isp_fAr(vs:List V)(H:Hp)(Q:VK):Prop
 |mk (p:_) (ys:_) (hd:_) (tt:_) (h0_:vs=[.ref p,.str hd,.str tt]) (h1_:SqL H p ys) (h2_:(∀y∈ys,LR H y)) (h3_:ys.length≤45) (h4_:∀H' q kvs,Same H H'->H q=none->H' q=some (.dG kvs)->(∀k u,vG kvs k=some u->∃y,u=.bl y)->Q (.ref q) H'):Isp_fAr vs H Q
def sp_fAr:Sp:=λvs H Q _=>Isp_fAr vs H Q
inductive Isp_fBx(vs:List V)(H:Hp)(Q:VK):Prop
 |mk (p:_) (c:_) (ys:_) (hd:_) (tt:_) (cv:_) (h0_:vs=[.ref p,.ref c,.str hd,.str tt]) (h1_:SqL H p ys) (h2_:(∀y∈ys,LR H y)) (h3_:ys.length≤45) (h4_:SqL H c cv) (h5_:(∀x∈cv,NPn H x)) (h6_:∀H' b,Same H H'->Q (.bl b) H'):Isp_fBx vs H Q
def sp_fBx:Sp:=λvs H Q _=>Isp_fBx vs H Q
inductive Isp_fBf(vs:List V)(H:Hp)(Q:VK):Prop
 |mk (r:_) (b:_) (p:_) (hd:_) (v:_) (tt:_) (r0:_) (rs:_) (bs:_) (ys:_) (h0_:vs=[.ref r,.ref b,.ref p,.str hd,v,.str tt]) (h1_:SqL H r (.str r0::rs)) (h2_:SqL H b bs) (h3_:(∀y∈bs,BT H y)) (h4_:bs.length≤100) (h5_:SqL H p ys) (h6_:(∀y∈ys,LR H y)) (h7_:ys.length≤45) (h8_:NPn H v) (h9_:∀H' b,Same H H'->Q (.bl b) H'):Isp_fBf vs H Q
def sp_fBf:Sp:=λvs H Q _=>Isp_fBf vs H Q
section
variable {vs:List V}{H:Hp}{Q:VK}{E:XK}
def xAuy(h:sp_fAs vs H Q E):vs.length=2:=by obtain⟨_,_,_,rfl,_⟩:=h;rfl
def xAuz(h:sp_fAl vs H Q E):vs.length=1:=by obtain⟨_,_,rfl,_⟩:=h;rfl
def xAva(h:sp_fAr vs H Q E):vs.length=3:=by obtain⟨_,_,_,_,rfl,_⟩:=h;rfl
def xAvb(h:sp_fBx vs H Q E):vs.length=4:=by obtain⟨_,_,_,_,_,_,rfl,_⟩:=h;rfl
def xAvc(h:sp_fBf vs H Q E):vs.length=6:=by obtain⟨_,_,_,_,_,_,_,_,_,_,rfl,_⟩:=h;rfl
end
def xAou{ys:List V}{ds:List PyData}{ix:List Nat}(b:ds.length=ys.length)(a:SortIx ds ix):(∀z∈ix.map (λi=>ys.getD i .non),z∈ys)/\(ix.map λi=>ys.getD i .non).length=ys.length:=by
 refine⟨λz hz=>?_,by rw[qf,a.1.length_eq,zk,b]⟩;obtain⟨i,hi,rfl⟩:=qj.mp hz;have hi:=a.1.mem_iff.mp hi;rw[qw,b]at hi;rw[zf,qg hi];exact yk hi
def KpT(H H':Hp):Prop:=∀b o,H b=some o->(∀ps,o≠.tbl ps)->H' b=some o
section
variable {H H':Hp}{a:Addr}{kvs:List (KD×V×V)}{k:KD}{y v:V}
def KpT.tups(h:KpT H H'):Tups H H':=λb xs e=>h b _ e λ_ z=>nomatch z
def KpT.rd(h:KpT H H')(r:Rd H a (.dK b)):Rd H' a (.dK b):=by
 rcases r with e|⟨o,e⟩
 ·exact .inl (h _ _ e λ_ z=>nomatch z)
 ·exact .inr ⟨o,h _ _ e λ_ z=>nomatch z⟩
def KpT.rdG(h:KpT H H')(r:Rd H a (.dG kvs)):Rd H' a (.dG kvs):=by
 rcases r with e|⟨o,e⟩
 ·exact .inl (h _ _ e λ_ z=>nomatch z)
 ·exact .inr ⟨o,h _ _ e λ_ z=>nomatch z⟩
def kpS(s:Same H H'):KpT H H':=λb o e _=>s b o e
def DG(P:KD->V->Prop)(H:Hp)(kvs:List (KD×V×V)):Prop:=∀e∈kvs,GK H e.1 e.2.1/\P e.1 e.2.2
variable {P P':KD->V->Prop}
def DG.nil:DG P H []:=λe z=>nomatch z
def DG.imp(h:DG P H kvs)(t:Tups H H')(f:∀k v,P k v->P' k v):DG P' H' kvs:=λe a=>⟨(h e a).1.tups t,f _ _ (h e a).2⟩
def DG.put(h:DG P H kvs)(g:GK H k y)(r:P k v):DG P H (pG kvs k y v):=λe a=>by
 unfold pG at a
 by_cases q:(vG kvs k).isSome=true
 ·rw[qF q]at a
  obtain⟨b,h1,rfl⟩:=qj.mp a
  by_cases z:b.1=k
  ·rw[qF z];exact⟨(h b h1).1,z▸r⟩
  ·rw[qB z];exact h b h1
 ·rw[qB q]at a
  rcases zd.mp a with z|z
  ·exact h e z
  ·rw[qt.mp z];exact⟨g,r⟩
def DG.putAll:∀{ys:List V} {es xs:List (KD×V×V)},PrsV H ys es->(∀e∈es,P e.1 e.2.2)->DG P H xs->DG P H (putAll xs es)
 |[],[],_,_,_,h=>h
 |[],_::_,_,p,_,_=>p.elim
 |_::_,[],_,p,_,_=>p.elim
 |_::_,e::es,_,p,q,h=>let⟨⟨_,_,_,g⟩,p2⟩:=p;DG.putAll (es:=es) p2 (λe a=>q e (qu _ a)) (h.put g (q e qp))
def DG.val(h:DG P H kvs)(e:vG kvs k=some v):P k v:=by
 obtain⟨i,x,a,rfl,rfl⟩:=vG_get e;exact(h x (qh a)).2
def vG_in(h:e∈kvs):(vG kvs e.1).isSome=true:=by
 cases q:vG kvs e.1 with
 |none=>exact absurd rfl (vG_no q e h)
 |some _=>rfl
def vG_up{a:KD}(h:(vG kvs a).isSome=true):(vG (pG kvs k y v) a).isSome=true:=by
 rw[xAbx]
 by_cases z:a=k
 ·rw[qF z];rfl
 ·rw[qB z];exact h
def xAov:(vG (pG kvs k y v) k).isSome=true:=by rw[xAbx,qF rfl];rfl
def pa_nd:∀(es xs:List (KD×V×V)),(xs.map (·.1)).Nodup->((putAll xs es).map (·.1)).Nodup
 |[],_,h=>h
 |_::es,_,h=>pa_nd es _ (xAos h _ _ _)
def NV(H:Hp)(v:V):Prop:=∃k,GK H (nd k) v
def NV.tups(h:NV H v)(t:Tups H H'):NV H' v:=let⟨k,g⟩:=h;⟨k,g.tups t⟩
def NPn.nv(h:NPn H v):NV H v:=let⟨_,g,n⟩:=h;⟨_,gk_nd n.ne g⟩
def NDV(H:Hp)(k:KD)(v:V):Prop:=(∃p,k=nd p)/\NV H v
def NDV.tups(h:NDV H k v)(t:Tups H H'):NDV H' k v:=⟨h.1,h.2.tups t⟩
def PR.imp(h:PR P H y)(t:Tups H H')(f:∀k v,P k v->P' k v):PR P' H' y:=let⟨b,k,vk,v,e,h1,h2,a⟩:=h;⟨b,k,vk,v,e,t _ _ h1,h2.tups t,f _ _ a⟩
def itB{A B:Prop}(a:c=true->A)(b:c=false->B):if c=true then A else B:=by
 cases c
 ·exact itF rfl (b rfl)
 ·exact itT rfl (a rfl)
def xAbg{α:Type}{P:α->Prop}{us:List α}{y:α}(h:∀u∈us,P u)(a:P y):∀u∈us++[y],P u:=λu b=>by
 rcases zd.mp b with z|z
 ·exact h u z
 ·rw[qt.mp z];exact a
variable {Y:Hp}(r:Rd H a (.dG kvs))(hY:∀b u,b≠a->H b=some u->Y b=some u)
include r hY
theorem xAel:Tups H Y:=λb us e=>hY b _ (λz=>by
 subst z
 rcases r with q|⟨o',q⟩ <;> rw[q]at e <;> cases e) e
theorem xAru(tb:TBL H):TBL Y:=tb.keep λb u e a=>hY b u (λz=>by
 subst z
 rcases r with q|⟨o',q⟩ <;> rw[q]at e <;> cases e <;> rcases a with⟨ps,y⟩|⟨c,y⟩ <;> cases y) e
omit r hY
def PCF(H:Hp)(v:V)(p:List Key):Prop:=∃b c a vn kq x y,v=.ref b/\H b=some (.tup [c,a,vn,.ref kq])/\GK H (.tup p) c/\NPn H a/\H kq=some (.tup [.int x,.int y])
theorem PCF.tups(h:PCF H v p)(t:Tups H H'):PCF H' v p:=by
 obtain⟨b,c,a,vn,kq,x,y,e,h1,h2,d,f⟩:=h;exact⟨b,c,a,vn,kq,x,y,e,t _ _ h1,h2.tups t,d.tups t,t _ _ f⟩
def TM(ps:List (List Key))(k:KD):Prop:=∃p∈ps,k=.tup p/\Nm p
theorem TM.nd(h:TM ps k):∃p,k=nd p:=let⟨p,_,e,n⟩:=h;⟨p,by rw[e,xAmt n.ne]⟩
def TPl(ps:List (List Key))(H:Hp)(k:KD)(v:V):Prop:=TM ps k/\∃p,PCF H v p
theorem TPl.tups(h:TPl ps H k v)(t:Tups H H'):TPl ps H' k v:=let⟨a,p,g⟩:=h;⟨a,p,g.tups t⟩
def VN(a:List (KD×V×V))(H:Hp)(k:KD)(v:V):Prop:=(vG a k).isSome=true/\NPn H v
theorem VN.tups{a:List (KD×V×V)}(h:VN a H k v)(t:Tups H H'):VN a H' k v:=⟨h.1,h.2.tups t⟩
def TN1(ps:List (List Key))(H:Hp)(k:KD)(v:V):Prop:=TM ps k/\NPn H v
theorem TN1.tups(h:TN1 ps H k v)(t:Tups H H'):TN1 ps H' k v:=⟨h.1,h.2.tups t⟩
def KY(H:Hp)(c:List (KD×V×V))(w:V)(a:Int×Int):Prop:=∃k b e d vn kq,GK H k w/\vG c k=some (.ref b)/\H b=some (.tup [e,d,vn,.ref kq])/\H kq=some (.tup [.int a.1,.int a.2])
theorem KY.tups{a:Int×Int}(h:KY H kvs v a)(t:Tups H H'):KY H' kvs v a:=by
 obtain⟨k,b,d,c,vn,kq,g,e,h1,h2⟩:=h;exact⟨k,b,d,c,vn,kq,g.tups t,e,t _ _ h1,t _ _ h2⟩
theorem ky_of(h:DG (TPl ps H) H kvs)(g:GK H k y)(s:(vG kvs k).isSome=true):∃a,KY H kvs y a:=by
 obtain⟨v,c⟩:=zv.mp s;obtain⟨_,p,b,d,f,vn,kq,x,z,rfl,h1,h2,i,e⟩:=h.val c;exact⟨(x,z),k,b,d,f,vn,kq,g,c,h1,e⟩
end
structure FP(H:Hp)(fa:Addr)(F:Nat->Addr)(es cs:List V)(ps:List (List Key)):Prop where
 dk:Rd H fa (.dK (fkv F 9))
 ev:H (F 1)=some (.lst es)
 pc:AL (PCF H) es ps
 nm:∀p∈ps,Nm p
 vl:es.length≤31
 ec:H (F 2)=some (.lst cs)
 ct:∀v∈cs,∃k,CT H v k
 cl:cs.length≤31
def FP.kp(h:FP H fa F es cs ps)(s:KpT H H'):FP H' fa F es cs ps :=
 ⟨s.rd h.dk,s _ _ h.ev λ_ z=>(nomatch z),h.pc.imp λ_ _ g=>g.tups s.tups,h.nm,h.vl,s _ _ h.ec λ_ z=>(nomatch z),λv a=>let⟨k,g⟩:=h.ct v a;⟨k,g.tups s.tups⟩,h.cl⟩
structure WY(ko:List (KD×V×V))(C:List Key->Prop)(k0:List Key)(ini:List (List Key))(las:List Key):Prop where
 nd:ini.Nodup
 dm:∀k∈ini,(vG ko (My.nd k)).isSome=true
 cc:∀k∈ini++[las],C k
 hd:k0∈ini++[las]
section
variable {ko:List (KD×V×V)}{C:List Key->Prop}{k0 las o:List Key}{ini:List (List Key)}
def WY.few(h:WY ko C k0 ini las):ini.length≤ko.length:=by
 have:=xAdf (S:=ini.map My.nd) (ws:=ko.map (·.1)) (List.Pairwise.map _ (λa b d z=>d (xApz z)) h.nd) λk j=>by
  obtain⟨c,i,rfl⟩:=qj.mp j;obtain⟨v,g⟩:=zv.mp (h.dm c i);obtain⟨e,f,q⟩:=vG_ex g;exact qj.mpr ⟨e,f,q⟩
 rwa [qf,qf]at this
def WY.on(h:WY ko C k0 ini las)(n:las∉ini)(g:(vG ko (My.nd las)).isSome=true)(c:C o):WY ko C k0 (ini++[las]) o:=by
 refine⟨v9.mpr ⟨h.nd,zx.mpr ⟨(λz=>nomatch z),.nil⟩,λa e b f z=>n ?_⟩,λk d=>?_,λk d=>?_,z8 _ h.hd⟩
 ·rw[qt.mp f]at z;exact z▸e
 ·rcases zd.mp d with z|z
  ·exact h.dm k z
  ·rw[qt.mp z];exact g
 ·rcases zd.mp d with z|z
  ·exact h.cc k z
  ·rw[qt.mp z];exact c
end
inductive Isp_fAb(vs:List V)(H:Hp)(Q:VK):Prop
 |mk (fa:_) (F:_) (es:_) (cs:_) (ps:_) (h0_:vs=[.ref fa]) (h1_:FP H fa F es cs ps) (h2_:∀H' dq kvs,Same H H'->H dq=none->H' dq=some (.dG kvs)->kvs.length≤31->DG (TPl ps H') H' kvs->(∀p∈ps,(vG kvs (.tup p)).isSome=true)->Q (.ref dq) H'):Isp_fAb vs H Q
def sp_fAb:Sp:=λvs H Q _=>Isp_fAb vs H Q
inductive Isp_fBu(vs:List V)(H:Hp)(Q:VK):Prop
 |mk (oa:_) (vp:_) (ea:_) (ko:_) (ke:_) (k0:_) (C:List Key->Prop) (h0_:vs=[.ref oa,vp,.ref ea]) (h1_:Rd H oa (.dG ko)) (h2_:ko.length≤31) (h3_:(∀k v,vG ko (nd k)=some v->∃k',GK H (nd k') v/\C k')) (h4_:Rd H ea (.dG ke)) (h5_:GK H (nd k0) vp) (h6_:C k0) (h7_:∀H' wa ws ini las,Same H H'->H wa=none->H' wa=some (.lst ws)->AL (NmN H') ws (ini++[las])->WY ko C k0 ini las->Q (.ref wa) H'):Isp_fBu vs H Q
def sp_fBu:Sp:=λvs H Q _=>Isp_fBu vs H Q
inductive Isp_fAf(vs:List V)(H:Hp)(Q:VK):Prop
 |mk (tq:_) (la:_) (kt:_) (ws:_) (h0_:vs=[.ref tq,.ref la]) (h1_:Rd H tq (.dG kt)) (h2_:H la=some (.lst ws)) (h3_:ws≠[]) (h4_:(∀w∈ws,∃a,KY H kt w a)) (h5_:TBL H) (h6_:∀H' v,Same (del H PTa) H'->TBL H'->v∈ws->Q v H'):Isp_fAf vs H Q
def sp_fAf:Sp:=λvs H Q _=>Isp_fAf vs H Q
inductive Isp_fBg(vs:List V)(H:Hp)(Q:VK):Prop
 |mk (tq:_) (kt:_) (ps:_) (h0_:vs=[.ref tq]) (h1_:Rd H tq (.dG kt)) (h2_:kt.length≤31) (h3_:DG (TPl ps H) H kt) (h4_:TBL H) (h5_:∀H' ta ku,Same (dels H (sS tq)) H'->Rd H' tq (.dG kt)->TBL H'->H ta=none->H' ta=some (.dG ku)->Q (.ref ta) H'):Isp_fBg vs H Q
def sp_fBg:Sp:=λvs H Q _=>Isp_fBg vs H Q
inductive Isp_fBq(vs:List V)(H:Hp)(Q:VK):Prop
 |mk (tq:_) (kt:_) (ps:_) (h0_:vs=[.ref tq]) (h1_:Rd H tq (.dG kt)) (h2_:kt.length≤31) (h3_:DG (TPl ps H) H kt) (h4_:TBL H) (h5_:MA H) (h6_:∀H' sa ks,Same (dels H (sS tq)) H'->TBL H'->H sa=none->H' sa=some (.dG ks)->ks.length≤31->DG (TN1 ps H') H' ks->Q (.ref sa) H'):Isp_fBq vs H Q
def sp_fBq:Sp:=λvs H Q _=>Isp_fBq vs H Q
def BLs(H:Hp)(kr:List (KD×V×V)):Prop:=DG (λ_ v=>∃b,v=.bl b) H kr
inductive Isp_fAg(vs:List V)(H:Hp)(Q:VK):Prop
 |mk (oa:_) (ko:_) (h0_:vs=[.ref oa]) (h1_:Rd H oa (.dG ko)) (h2_:ko.length≤31) (h3_:DG (NDV H) H ko) (h4_:MA H) (h5_:∀H' ra kr,Same (del H oa) H'->Rd H' oa (.dG ko)->H ra=none->H' ra=some (.dG kr)->kr.length≤2000->BLs H' kr->(∀e∈ko,(vG kr e.1).isSome=true)->Q (.ref ra) H'):Isp_fAg vs H Q
def sp_fAg:Sp:=λvs H Q _=>Isp_fAg vs H Q
def OV(H:Hp)(v:V):Prop:=v=.non\/NPn H v
def OV.tups(h:OV H v)(t:Tups H H'):OV H' v:=h.imp id λg=>g.tups t
def TO1(ps:List (List Key))(H:Hp)(k:KD)(v:V):Prop:=TM ps k/\OV H v
def TO1.tups(h:TO1 ps H k v)(t:Tups H H'):TO1 ps H' k v:=⟨h.1,h.2.tups t⟩
inductive Isp_fBd(vs:List V)(H:Hp)(Q:VK):Prop
 |mk (fa:_) (F:_) (es:_) (cs:_) (ps:_) (h0_:vs=[.ref fa]) (h1_:FP H fa F es cs ps) (h2_:TBL H) (h3_:MA H) (h4_:∀H' da kd,Same (del H PTa) H'->TBL H'->H da=none->H' da=some (.dG kd)->kd.length≤31->(kd.map (·.1)).Nodup->DG (TO1 ps H') H' kd->Q (.ref da) H'):Isp_fBd vs H Q
def sp_fBd:Sp:=λvs H Q _=>Isp_fBd vs H Q
inductive Isp_fAw(vs:List V)(H:Hp)(Q:VK):Prop
 |mk (fa:_) (F:_) (es:_) (cs:_) (ps:_) (da:_) (kd:_) (h0_:vs=[.ref fa,.ref da]) (h1_:FP H fa F es cs ps) (h2_:Rd H da (.dG kd)) (h3_:kd.length≤31) (h4_:DG (NDV H) H kd) (h5_:MA H) (h6_:∀H' qa kq,Same (del H da) H'->Rd H' da (.dG kd)->H qa=none->H' qa=some (.dG kq)->Q (.ref qa) H'):Isp_fAw vs H Q
def sp_fAw:Sp:=λvs H Q _=>Isp_fAw vs H Q
def vG_mem{kvs:List (KD×V×V)}{e:KD×V×V}(hn:(kvs.map (·.1)).Nodup)(a:e∈kvs):vG kvs e.1=some e.2.2:=by
 obtain⟨i,hi,rfl⟩:=z6.mp a;exact xAio hn (qg hi) rfl
def sort_p{α:Type}{P:V->α->Prop}(d:α){vs:List V}{ls:List α}{ds:List PyData}{ix:List Nat}(h:AL P vs ls)(j:ds.length=ls.length)(f:SortIx ds ix):∃ms,AL P (ix.map λi=>vs.getD i .non) ms/\ms.Perm ls:=by
 have b:=f.1;rw[j]at b;refine⟨ix.map λi=>ls.getD i d,⟨by rw[qf,qf],λm v r g c=>?_⟩,(b.map _).trans (.of_eq (xArr ls d))⟩;rw[qv]at g c;obtain⟨i,hi,rfl⟩:=z9.mp g;rw[hi]at c;cases c;have a:=qw.mp (b.mem_iff.mp (qh hi))
 have e:i<vs.length:=by rw[h.1];exact a
 refine h.2 i _ _ ?_ ?_
 ·rw[zf,qg e];rfl
 ·show ls[i]?=some (ls.getD i d)
  rw[zf,qg a];rfl
def EA(b:List (KD×V×V))(H:Hp)(e:KD×V×V)(x:List Key×List Key):Prop:=e.1=.tup x.1/\Nm x.1/\GK H (.tup x.1) e.2.1/\GK H (nd x.2) e.2.2/\∃a,KY H b e.2.1 a
def EA.tups(h:EA a H e x)(t:Tups H H'):EA a H' e x:=⟨h.1,h.2.1,h.2.2.1.tups t,h.2.2.2.1.tups t,h.2.2.2.2.imp λ_ g=>g.tups t⟩
structure IW(ms:List (List Key×List Key))(H0 H:Hp)(dq:Addr)(kvs:List (KD×V×V)):Prop where
 has:H dq=some (.dG kvs)
 each:∀k v,vG kvs k=some v->∃q vs l,v=.ref q/\H q=some (.lst vs)/\AL (NmKP H) vs l/\(∀c∈l,∃o,(c,o)∈ms/\nd o=k)/\l.Nodup/\H0 q=none
 inj:∀k k' q,vG kvs k=some (.ref q)->vG kvs k'=some (.ref q)->k=k'
section
variable {ms ms':List (List Key×List Key)}{H0 H H':Hp}{dq q:Addr}{kvs:List (KD×V×V)}{k:KD}{vn vk:V}{vs:List V}{c o:List Key}
def IW.imp(h:IW ms H0 H dq kvs)(s:H' dq=some (.dG kvs))(t:Tups H H')(p:∀m xs,H m=some (.lst xs)->H' m=some (.lst xs))(r:∀x∈ms,x∈ms'):IW ms' H0 H' dq kvs :=
 ⟨s,λk v e=>let⟨q,vs,l,a,b,c,d,f⟩:=h.each k v e;⟨q,vs,l,a,p _ _ b,c.imp λ_ _ g=>NmKP.tups g t,λx n=>let⟨o,i,j⟩:=d x n;⟨o,r _ i,j⟩,f⟩,h.inj⟩
def IW.new(h:IW ms H0 H dq kvs)(m:H0 q=none)(eq:H q=some (.lst []))(f:∀k,vG kvs k≠some (.ref q)):IW ms H0 (upd H dq (.dG (pG kvs k vk (.ref q)))) dq (pG kvs k vk (.ref q)):=by
 have t:Tups H (upd H dq (.dG (pG kvs k vk (.ref q)))):=Tups.wd h.has
 have ne:∀{b xs},H b=some (.lst xs)->(upd H dq (.dG (pG kvs k vk (.ref q)))) b=some (.lst xs):=λe=>by
  rw[xAae (λz=>by rw[z,h.has]at e;cases e)];exact e
 refine⟨xAab,λn v e=>?_,λr p o h1 h2=>?_⟩
 ·rw[xAbx]at e
  by_cases z:n=k
  ·rw[qF z]at e
   exact⟨q,[],[],(qK e).symm,ne eq,.nil,(λc z=>nomatch z),.nil,m⟩
  ·rw[qB z]at e
   obtain⟨o,vs,l,a,b,c,d⟩:=h.each n v e;exact⟨o,vs,l,a,ne b,c.imp λ_ _ g=>NmKP.tups g t,d⟩
 ·rw[xAbx]at h1 h2
  by_cases i:r=k <;> by_cases j:p=k
  ·rw[i,j]
  ·rw[qF i]at h1;rw[qB j]at h2;cases h1;exact absurd h2 (f _)
  ·rw[qB i]at h1;rw[qF j]at h2;cases h2;exact absurd h1 (f _)
  ·rw[qB i]at h1;rw[qB j]at h2;exact h.inj _ _ _ h1 h2
def IW.add(h:IW ms H0 H dq kvs)(e:vG kvs (nd o)=some (.ref q))(eq:H q=some (.lst vs))(u:GK H (.tup c) vn)(w:c∉ms.map (·.1)):IW (ms++[(c,o)]) H0 (upd H q (.lst (vs++[vn]))) dq kvs:=by
 have t:Tups H (upd H q (.lst (vs++[vn]))):=Tups.wl eq;refine⟨by rw[xAae (λz=>by rw[←z,h.has]at eq;cases eq)];exact h.has,λs v p=>?_,h.inj⟩;obtain⟨n,k,l,rfl,b,r,d,f,g⟩:=h.each s v p
 by_cases z:n=q
 ·subst z
  rw[eq]at b;cases b;have y:=h.inj _ _ _ e p;refine⟨n,_,l++[c],O,xAab,AL.snoc (r.imp λ_ _ g=>NmKP.tups g t) (GK.tups u t),xAbg (λx m=>let⟨o,i,j⟩:=d x m;⟨o,List.mem_append_left _ i,j⟩) ⟨o,by simp,y⟩,List.nodup_append.mpr ⟨f,List.nodup_cons.mpr ⟨(λz=>nomatch z),.nil⟩,λa A b B z=>w ?_⟩,g⟩;obtain⟨o',i,_⟩:=d a A;rw[←qt.mp B,←z];exact qj.mpr ⟨_,i,O⟩
 ·exact⟨n,k,l,O,by rw[xAae z];exact b,r.imp λ_ _ g=>NmKP.tups g t,λx m=>let⟨o,i,j⟩:=d x m;⟨o,z8 _ i,j⟩,f,g⟩
end
structure INP(H:Hp)(kd:List (KD×V×V))(A:List (List Key×List Key)):Prop where
 nd:(A.map (·.1)).Nodup
 nm:∀x∈A,Nm x.1
 few:A.length≤31
 each:∀p,Pn p->∀v,vG kd (.tup p)=some v->∃q ws l,v=.ref q/\H q=some (.lst ws)/\AL (NmKP H) ws l/\(∀c∈l,(c,p)∈A)/\l.Nodup
inductive Isp_fAa(vs:List V)(H:Hp)(Q:VK):Prop
 |mk (fa:_) (F:_) (es:_) (cs:_) (ps:_) (h0_:vs=[.ref fa]) (h1_:FP H fa F es cs ps) (h2_:TTP H) (h3_:MA H) (h4_:∀H' da kd A,Same (dels H s2) H'->TTP H'->H da=none->H' da=some (.dG kd)->INP H' kd A->Q (.ref da) H'):Isp_fAa vs H Q
def sp_fAa:Sp:=λvs H Q _=>Isp_fAa vs H Q
section
variable {vs:List V}{H:Hp}{Q:VK}{E:XK}
def xAvd(h:sp_fAb vs H Q E):vs.length=1:=by obtain⟨_,_,_,_,_,rfl,_⟩:=h;rfl
def xAve(h:sp_fBu vs H Q E):vs.length=3:=by obtain⟨_,_,_,_,_,_,_,rfl,_⟩:=h;rfl
def xAvf(h:sp_fAf vs H Q E):vs.length=2:=by obtain⟨_,_,_,_,rfl,_⟩:=h;rfl
def xAvg(h:sp_fBg vs H Q E):vs.length=1:=by obtain⟨_,_,_,rfl,_⟩:=h;rfl
def xAvh(h:sp_fBq vs H Q E):vs.length=1:=by obtain⟨_,_,_,rfl,_⟩:=h;rfl
def xAvi(h:sp_fAg vs H Q E):vs.length=1:=by obtain⟨_,_,rfl,_⟩:=h;rfl
def xAvj(h:sp_fBd vs H Q E):vs.length=1:=by obtain⟨_,_,_,_,_,rfl,_⟩:=h;rfl
def xAvk(h:sp_fAw vs H Q E):vs.length=2:=by obtain⟨_,_,_,_,_,_,_,rfl,_⟩:=h;rfl
def xAvl(h:sp_fAa vs H Q E):vs.length=1:=by obtain⟨_,_,_,_,_,rfl,_⟩:=h;rfl
end
def FLs(P:Hp->V->Prop)(H:Hp)(a:Addr)(k:Nat):Prop:=∃xs,H a=some (.lst xs)/\(∀x∈xs,P H x)/\xs.length≤k
def FLs.mv(h:FLs P Z a k)(e:∀xs,Z a=some (.lst xs)->Z' a=some (.lst xs))(p:∀v,P Z v->P Z' v):FLs P Z' a k:=let⟨xs,h1,h2,b⟩:=h;⟨xs,e xs h1,λx c=>p x (h2 x c),b⟩
def FLs.le(h:FLs P Z a k)(l:k≤m):FLs P Z a m:=let⟨xs,h1,h2,b⟩:=h;⟨xs,h1,h2,qc b l⟩
def CEk(H:Hp)(v:V)(a:Int×Int):Prop:=∃b e p d r vc c z kq,v=.ref b/\H b=some (.tup [e,d,vc,.str z,.ref kq])/\GK H (.tup p) e/\Pn p/\GK H (.tup r) d/\GK H (.tup c) vc/\H kq=some (.tup [.int a.1,.int a.2])
def CEW(H:Hp)(v:V):Prop:=∃a,CEk H v a
def CEk.tups(h:CEk H v a)(t:Tups H H'):CEk H' v a:=by
 obtain⟨b,g,p,d,r,vc,c,z,kq,e,h1,h2,k,j,i,f⟩:=h;exact⟨b,g,p,d,r,vc,c,z,kq,e,t _ _ h1,h2.tups t,k,j.tups t,i.tups t,t _ _ f⟩
def CEW.tups(h:CEW H v)(t:Tups H H'):CEW H' v:=h.imp λ_ g=>g.tups t
def SdW(H:Hp)(v:V):Prop:=∃a vn w k,v=.ref a/\H a=some (.tup [vn,.str w])/\GK H k vn
def MKk(H:Hp)(v:V)(a:Int×Int):Prop:=∃b e p d c kd f vn kq,v=.ref b/\H b=some (.tup [e,d,c,.str kd,f,vn,.ref kq])/\GK H (.tup p) e/\Pn p/\SdW H d/\SdW H c/\PyData.strOk kd=true/\H kq=some (.tup [.int a.1,.int a.2])
def NTk(H:Hp)(v:V)(a:Int×Int):Prop:=∃b e p d c f vn kq,v=.ref b/\H b=some (.tup [e,d,c,f,vn,.ref kq])/\GK H (.tup p) e/\Pn p/\SdW H d/\SdW H c/\H kq=some (.tup [.int a.1,.int a.2])
def MKW(H:Hp)(v:V):Prop:=∃a,MKk H v a
def NTW(H:Hp)(v:V):Prop:=∃a,NTk H v a
section
variable {H H':Hp}{v:V}{a:Int×Int}
def SdW.tups(h:SdW H v)(t:Tups H H'):SdW H' v:=let⟨a,vn,w,k,e,h1,h2⟩:=h;⟨a,vn,w,k,e,t _ _ h1,h2.tups t⟩
def MKk.tups(h:MKk H v a)(t:Tups H H'):MKk H' v a:=by
 obtain⟨b,d,p,l,g,kd,f,vn,kq,e,h1,h2,m,k,j,c,i⟩:=h;exact⟨b,d,p,l,g,kd,f,vn,kq,e,t _ _ h1,h2.tups t,m,k.tups t,j.tups t,c,t _ _ i⟩
def NTk.tups(h:NTk H v a)(t:Tups H H'):NTk H' v a:=by
 obtain⟨b,d,p,k,f,l,vn,kq,e,h1,h2,g,j,i,c⟩:=h;exact⟨b,d,p,k,f,l,vn,kq,e,t _ _ h1,h2.tups t,g,j.tups t,i.tups t,t _ _ c⟩
def MKW.tups(h:MKW H v)(t:Tups H H'):MKW H' v:=h.imp λ_ g=>g.tups t
def NTW.tups(h:NTW H v)(t:Tups H H'):NTW H' v:=h.imp λ_ g=>g.tups t
end
structure FZ(H:Hp)(fa:Addr)(F:Nat->Addr)(S:Nat->Sg)(n:Nat):Prop where
 dk:Rd H fa (.dK (fkv F 9))
 sg:∃vs,H (F 3)=some (.lst vs)/\AN (SN S H) vs (List.range n)
 ws:WS S n
 fb:∃es cs ps,FP H fa F es cs ps
 bs:FLs BT H (F 0) 31
 mks:FLs MKW H (F 4) 9
 nt:FLs NTW H (F 5) 9
 lv:FLs LR H (F 8) 45
 ln:∃L a,FLT H fa L a
 ce:FLs CEW H (F 7) 63
section
variable {H H':Hp}{fa:Addr}{F:Nat->Addr}{S:Nat->Sg}{n:Nat}
def FZ.fg(h:FZ H fa F S n):FG H fa S n:=let⟨vs,e,a⟩:=h.sg;⟨fkv F 9,F 3,vs,h.dk,xAbl F 3 (by decide),e,a,h.ws⟩
def FZ.kp(h:FZ H fa F S n)(k:KpT H H'):FZ H' fa F S n:=by
 have t:=k.tups;have c:∀{b xs},H b=some (.lst xs)->H' b=some (.lst xs):=λe=>k _ _ e λ_ z=>nomatch z;obtain⟨L,a,kvs,d,vs,h1,h2,m,l,j⟩:=h.ln;exact⟨k.rd h.dk,let⟨vs,e,a⟩:=h.sg;⟨vs,c e,a.imp λv i g=>SN.tups g t⟩,h.ws,let⟨es,cs,ps,f⟩:=h.fb;⟨es,cs,ps,f.kp k⟩,h.bs.mv (λ_=>c) λ_ g=>g.tups t,h.mks.mv (λ_=>c) λ_ g=>g.tups t,h.nt.mv (λ_=>c) λ_ g=>g.tups t,h.lv.mv (λ_=>c) λ_ g=>g.tups t,⟨L,a,kvs,d,vs,k.rd h1,h2,c m,l.imp λv i g=>LNT.tups g t,j⟩,h.ce.mv (λ_=>c) λ_ g=>g.tups t⟩
def FZ.same(h:FZ H fa F S n)(s:Same H H'):FZ H' fa F S n:=h.kp (kpS s)
end
structure SE(m:Nat)(kvs:List (KD×V×V)):Prop where
 few:kvs.length≤m
 val:∀k v,vG kvs k=some v->∃i:Nat,v=.int i/\i<m
inductive Isp_fBr(vs:List V)(H:Hp)(Q:VK):Prop
 |mk (p:_) (zs:_) (ks:_) (h0_:vs=[.ref p]) (h1_:H p=some (.lst zs)) (h2_:AL (NmKP H) zs ks) (h3_:zs.length≤1400) (h4_:∀H' dq kvs,Same H H'->H dq=none->H' dq=some (.dG kvs)->SE zs.length kvs->(∀k∈ks,(vG kvs (.tup k)).isSome=true)->Q (.ref dq) H'):Isp_fBr vs H Q
def sp_fBr:Sp:=λvs H Q _=>Isp_fBr vs H Q
inductive Isp_fAh(vs:List V)(H:Hp)(Q:VK):Prop
 |mk (dq:_) (kvs:_) (v:_) (m:_) (h0_:vs=[.ref dq,v]) (h1_:H dq=some (.dG kvs)) (h2_:SE m kvs) (h3_:SdW H v) (h4_:∀b:Nat,b≤m->Q (.int b) H):Isp_fAh vs H Q
def sp_fAh:Sp:=λvs H Q _=>Isp_fAh vs H Q
inductive Isp_fBw(vs:List V)(H:Hp)(Q:VK):Prop
 |mk (dq:_) (kvs:_) (vb:_) (ve:_) (m:_) (h0_:vs=[.ref dq,vb,ve]) (h1_:H dq=some (.dG kvs)) (h2_:SE m kvs) (h3_:SdW H vb) (h4_:SdW H ve) (h5_:∀H' q,∀b e:Nat,Same H H'->H' q=some (.tup [.int b,.int e])->b≤e->e≤m->Q (.ref q) H'):Isp_fBw vs H Q
def sp_fBw:Sp:=λvs H Q _=>Isp_fBw vs H Q
inductive Isp_fAv(vs:List V)(H:Hp)(Q:VK):Prop
 |mk (v:_) (a:_) (h0_:vs=[v]) (h1_:MKk H v a) (h2_:∀kv,DT H kv (.tuple [.int a.1,.int a.2])->Q kv H):Isp_fAv vs H Q
def sp_fAv:Sp:=λvs H Q _=>Isp_fAv vs H Q
inductive Isp_fAu(vs:List V)(H:Hp)(Q:VK):Prop
 |mk (v:_) (a:_) (h0_:vs=[v]) (h1_:NTk H v a) (h2_:∀kv,DT H kv (.tuple [.int a.1,.int a.2])->Q kv H):Isp_fAu vs H Q
def sp_fAu:Sp:=λvs H Q _=>Isp_fAu vs H Q
def NOM(H:Hp)(m:Nat)(us:List V):Prop:=us.length=m/\∀u∈us,u=.non\/MKW H u
def NOM.tups(h:NOM H m us)(t:Tups H H'):NOM H' m us:=⟨h.1,λu a=>(h.2 u a).imp id λg=>g.tups t⟩
structure TKW(m:Nat)(X:Addr->Prop)(H:Hp)(tv:List (Key×V)):Prop where
 ks:∀e∈tv,∃z,e.1=.inr z/\PyData.strOk z=true
 val:∀k v,valV tv k=some v->∃a us,v=.ref a/\X a/\H a=some (.lst us)/\NOM H m us
def TKW.to(h:TKW m X H tv)(t:Tups H H')(k:∀a us,X a->H a=some (.lst us)->X' a/\∃b,H' a=some (.lst b)/\(b=us\/NOM H' m b)):TKW m X' H' tv :=
 ⟨h.ks,λkd v e=>by
  obtain⟨a,us,c,x,d,no⟩:=h.val kd v e;obtain⟨g,b,f,z⟩:=k a us x d;refine⟨a,b,c,g,f,?_⟩;rcases z with rfl|z
  ·exact no.tups t
  ·exact z⟩
inductive Isp_fAd(vs:List V)(H:Hp)(Q:VK):Prop
 |mk (fa:_) (F:_) (S:_) (n:_) (vp:_) (pt:_) (rp:_) (rv:_) (ks:_) (h0_:vs=[.ref fa,vp,.ref rp]) (h1_:FZ H fa F S n) (h2_:GK H (.tup pt) vp) (h3_:Lay pt) (h4_:H rp=some (.lst rv)) (h5_:AL (NmKP H) rv ks) (h6_:rv.length≤1400) (h7_:∀H' tq tv,Same H H'->H tq=none->H' tq=some (.dK tv)->tv.length≤9->TKW rv.length (λa=>a≠tq) H' tv->Q (.ref tq) H'):Isp_fAd vs H Q
def sp_fAd:Sp:=λvs H Q _=>Isp_fAd vs H Q
def TDW(S:Nat->Sg)(n:Nat)(pt:List Key)(kvs:List (KD×V×V)):Prop:=∀i∈aliveS S n pt,(vG kvs (.tup (nkS S i))).isSome=true
inductive Isp_fAi(vs:List V)(H:Hp)(Q:VK):Prop
 |mk (fa:_) (F:_) (S:_) (n:_) (vp:_) (pt:_) (h0_:vs=[.ref fa,vp,.int 4]) (h1_:FZ H fa F S n) (h2_:GK H (.tup pt) vp) (h3_:Lay pt) (h4_:∀H' tq kvs,Same H H'->H tq=none->H' tq=some (.dG kvs)->TDW S n pt kvs->Q (.ref tq) H'):Isp_fAi vs H Q
def sp_fAi:Sp:=λvs H Q _=>Isp_fAi vs H Q
inductive Isp_fBo(vs:List V)(H:Hp)(Q:VK):Prop
 |mk (fa:_) (F:_) (S:_) (n:_) (vp:_) (pt:_) (h0_:vs=[.ref fa,vp]) (h1_:FZ H fa F S n) (h2_:GK H (.tup pt) vp) (h3_:Lay pt) (h4_:∀H' tq kvs,Same H H'->H tq=none->H' tq=some (.dG kvs)->TDW S n pt kvs->Q (.ref tq) H'):Isp_fBo vs H Q
def sp_fBo:Sp:=λvs H Q _=>Isp_fBo vs H Q
inductive Isp_fBs(vs:List V)(H:Hp)(Q:VK):Prop
 |mk (fa:_) (F:_) (S:_) (n:_) (vp:_) (pt:_) (h0_:vs=[.ref fa,vp]) (h1_:FZ H fa F S n) (h2_:GK H (.tup pt) vp) (h3_:Lay pt) (h4_:∀H' v,Same H H'->Q v H'):Isp_fBs vs H Q
def sp_fBs:Sp:=λvs H Q _=>Isp_fBs vs H Q
inductive Isp_fBn(vs:List V)(H:Hp)(Q:VK):Prop
 |mk (fa:_) (vp:_) (pt:_) (wy:_) (L:_) (n:_) (h0_:vs=[.ref fa,vp,.str wy]) (h1_:FLT H fa L n) (h2_:GK H (.tup pt) vp) (h3_:Lay pt) (h4_:∀H' q zs,Same H H'->H q=none->H' q=some (.lst zs)->(∀z∈zs,∃k,GK H' (.tup k) z)->zs.length≤1300->Q (.ref q) H'):Isp_fBn vs H Q
def sp_fBn:Sp:=λvs H Q _=>Isp_fBn vs H Q
inductive Isp_fAt(vs:List V)(H:Hp)(Q:VK):Prop
 |mk (v:_) (a:_) (h0_:vs=[v]) (h1_:CEk H v a) (h2_:∀kv,DT H kv (.tuple [.int a.1,.int a.2])->Q kv H):Isp_fAt vs H Q
def sp_fAt:Sp:=λvs H Q _=>Isp_fAt vs H Q
inductive Isp_fAx(vs:List V)(H:Hp)(Q:VK):Prop
 |mk (fa:_) (F:_) (S:_) (n:_) (vp:_) (pt:_) (h0_:vs=[.ref fa,vp]) (h1_:FZ H fa F S n) (h2_:GK H (.tup pt) vp) (h3_:Lay pt) (h4_:∀H' dq kvs,Same H H'->H' dq=some (.dG kvs)->Q (.ref dq) H'):Isp_fAx vs H Q
def sp_fAx:Sp:=λvs H Q _=>Isp_fAx vs H Q
inductive Isp_fBm(vs:List V)(H:Hp)(Q:VK):Prop
 |mk (fa:_) (F:_) (S:_) (n:_) (vp:_) (pt:_) (h0_:vs=[.ref fa,vp]) (h1_:FZ H fa F S n) (h2_:GK H (.tup pt) vp) (h3_:Lay pt) (h4_:∀H' v,Same H H'->Q v H'):Isp_fBm vs H Q
def sp_fBm:Sp:=λvs H Q _=>Isp_fBm vs H Q
section
variable {vs:List V}{H:Hp}{Q:VK}{E:XK}
def xAvm(h:sp_fBn vs H Q E):vs.length=3:=by obtain⟨_,_,_,_,_,_,rfl,_⟩:=h;rfl
def xAvn(h:sp_fAt vs H Q E):vs.length=1:=by obtain⟨_,_,rfl,_⟩:=h;rfl
def xAvo(h:sp_fAx vs H Q E):vs.length=2:=by obtain⟨_,_,_,_,_,_,rfl,_⟩:=h;rfl
def xAvp(h:sp_fBm vs H Q E):vs.length=2:=by obtain⟨_,_,_,_,_,_,rfl,_⟩:=h;rfl
def xAvq(h:sp_fBr vs H Q E):vs.length=1:=by obtain⟨_,_,_,rfl,_⟩:=h;rfl
def xAvr(h:sp_fAh vs H Q E):vs.length=2:=by obtain⟨_,_,_,_,rfl,_⟩:=h;rfl
def xAvs(h:sp_fBw vs H Q E):vs.length=3:=by obtain⟨_,_,_,_,_,rfl,_⟩:=h;rfl
def xAvt(h:sp_fAv vs H Q E):vs.length=1:=by obtain⟨_,_,rfl,_⟩:=h;rfl
def xAvu(h:sp_fAu vs H Q E):vs.length=1:=by obtain⟨_,_,rfl,_⟩:=h;rfl
def xAvv(h:sp_fAd vs H Q E):vs.length=3:=by obtain⟨_,_,_,_,_,_,_,_,_,rfl,_⟩:=h;rfl
def xAvw(h:sp_fAi vs H Q E):vs.length=3:=by obtain⟨_,_,_,_,_,_,rfl,_⟩:=h;rfl
def xAvx(h:sp_fBo vs H Q E):vs.length=2:=by obtain⟨_,_,_,_,_,_,rfl,_⟩:=h;rfl
def xAvy(h:sp_fBs vs H Q E):vs.length=2:=by obtain⟨_,_,_,_,_,_,rfl,_⟩:=h;rfl
end
def xArv(h:rSetDefK x vs H P)(k:∀v H',P v H'->Q v H'):rSetDefK x vs H Q:=by
 obtain⟨a,kvs,c,d,h0,h1,h2,g,f,e⟩:=h;exact⟨a,kvs,c,d,h0,h1,h2,g,λu b=>k _ _ (f u b),λhn=>k _ _ (e hn)⟩
def rk2(as:List (Int×Int)):KeysAre (as.map λa=>.tuple [.int a.1,.int a.2]) 2:=xAfu λd b=>by
 obtain⟨i,_,rfl⟩:=qj.mp b;exact .inl ⟨_,_,O⟩
def xArw{tv:List (Key×V)}{e:Key×V}(h:e∈tv):(valV tv e.1).isSome=true:=by
 rw[←xAcm];exact yx.mpr ⟨e,h,qI rfl⟩
def HV(v:V):Prop:=v=.non\/∃z,v=.str z
def TN(H:Hp)(v:V)(e:List Key×Str×Bool):Prop:=∃b a,v=.ref b/\H b=some (.tup [a,.str e.2.1,.bl e.2.2])/\GK H (.tup e.1) a/\Pn e.1/\e.2.1.length≤1000
def TN.tups(h:TN H v e)(t:Tups H H'):TN H' v e:=by
 obtain⟨b,d,a,h1,h2,c⟩:=h;exact⟨b,d,a,t _ _ h1,h2.tups t,c⟩
def SgOk(d:PyData):Prop:=(∃z:Str,d=.str z/\z.length≤10)\/(∃w:Str,d=.tuple [.str "picture",.str w]/\w.length≤10)\/∃p,d=.tuple [.str "refer",tD p]/\Pn p
def NumD(H:Hp)(nq:Addr)(a:List Key->Option Str):Prop:=∃kvs,H nq=some (.dG kvs)/\∀p,Pn p->vG kvs (.tup p)=(a p).map V.str/\∀z,a p=some z->z.length≤1000
def NumD.same(h:NumD H nq a)(s:Same H H'):NumD H' nq a:=let⟨kvs,r,k⟩:=h;⟨kvs,s _ _ r,k⟩
def txt(a:List Key->Option Str)(d:PyData)(t:Str):Prop:=d=.str t\/(∃w:Str,d=.tuple [.str "picture",.str w]/\t = "*"++w)\/∃p,d=.tuple [.str "refer",tD p]/\t = "#"++(a p).getD "?"
def txt_eq(h:txt a d t)(g:txt a d u):t=u:=by
 rcases h with h|⟨w,h,e⟩|⟨p,h,e⟩ <;> rcases g with g|⟨w',g,e'⟩|⟨p',g,e'⟩ <;> rw[h]at g
 ·injection g
 ·cases g
 ·cases g
 ·cases g
 ·injection g with g;injection g with _ g;injection g with g _;injection g with g
  rw[e,e',g]
 ·injection g with g;injection g with g _;injection g with g
  exact absurd g (by decide +kernel)
 ·cases g
 ·injection g with g;injection g with g _;injection g with g
  exact absurd g (by decide +kernel)
 ·injection g with g;injection g with _ g;injection g with g _
  rw[e,e',xAuq g]
def RW(S:Nat->Sg)(n:Nat)(a:List Key->Option Str)(H:Hp)(v:V):Prop:=∃b vn c i t,v=.ref b/\H b=some (.tup [vn,.str t,c])/\NM (nkS S) H vn i/\i<n/\txt a (S i).sg t
def RW.tups{S:Nat->Sg}(h:RW S n a H v)(t:Tups H H'):RW S n a H' v:=by
 obtain⟨b,vn,c,i,z,e,h1,h2,d⟩:=h;exact⟨b,vn,c,i,z,e,t _ _ h1,h2.tups t,d⟩
def RWs(S:Nat->Sg)(n:Nat)(a:List Key->Option Str)(H:Hp)(v:V):Prop:=v=.non\/∃q zs,v=.ref q/\H q=some (.lst zs)/\∀z∈zs,RW S n a H z
def EY(S:Nat->Sg)(n:Nat)(a:List Key->Option Str)(H:Hp)(v:V)(p:List Key):Prop:=∃b z c d f e,v=.ref b/\H b=some (.tup [.str z,c,d,f,e])/\GK H (.tup p) c/\Pn p/\a p=some z/\RWs S n a H d
def EY.same{S:Nat->Sg}(h:EY S n a H v p)(s:Same H H'):EY S n a H' v p:=by
 obtain⟨b,z,g,j,f,d,e,h1,h2,k,i,c⟩:=h;refine⟨b,z,g,j,f,d,e,s _ _ h1,h2.tups s.tups,k,i,?_⟩;rcases c with c|⟨q,zs,e,h6,h7⟩
 ·exact .inl c
 ·exact .inr ⟨q,zs,e,s _ _ h6,λz hz=>(h7 z hz).tups s.tups⟩
def xArx:∀{p:List Key} {xs:List V},DTs H xs (p.map kP)->xs=p.map kV
 |[],_,.nil=>rfl
 |.inl i::p,_,.cons (.int _) t=>by rw[xArx t];rfl
 |.inr z::p,_,.cons (.str _) t=>by rw[xArx t];rfl
def td_gk(h:DT H v (tD p)):GK H (.tup p) v:=by
 cases h with
 |tup e t=>rw[xArx t]at e;exact⟨_,O,e⟩
def xAvz:∀i:Nat,i≤63->(Str.ofString (toString (i:Int))).length≤3:=by
 have:∀i:Nat,i<64->(Str.ofString (toString (i:Int))).length≤3:=by decide +kernel
 exact λi h=>this i (by omega)
def xAqa(z:Str):(Str.empty++z).length=z.length:=by rw[xAcx];exact y0 _
inductive Isp_fBt(vs:List V)(H:Hp)(Q:VK):Prop
 |mk (fa:_) (F:_) (S:_) (n:_) (r:_) (r0:_) (rs:_) (hv:_) (v:_) (h0_:vs=[.ref fa,.ref r,hv,v]) (h1_:FZ H fa F S n) (h2_:SqL H r (.str r0::rs)) (h3_:HV hv) (h4_:NPn H v) (h5_:∀H' b,Same H H'->Q (.bl b) H'):Isp_fBt vs H Q
def sp_fBt:Sp:=λvs H Q _=>Isp_fBt vs H Q
inductive Isp_fAj(vs:List V)(H:Hp)(Q:VK):Prop
 |mk (z:_) (i:Nat) (h0_:vs=[.str z,.int i]) (h1_:i≤63) (h2_:z.length≤900) (h3_:∀z':Str,z'.length≤z.length+4->Q (.str z') H):Isp_fAj vs H Q
def sp_fAj:Sp:=λvs H Q _=>Isp_fAj vs H Q
inductive Isp_fAc(vs:List V)(H:Hp)(Q:VK):Prop
 |mk (fa:_) (F:_) (S:_) (n:_) (r:_) (r0:_) (rs:_) (hv:_) (h0_:vs=[.ref fa,.ref r,hv]) (h1_:FZ H fa F S n) (h2_:SqL H r (.str r0::rs)) (h3_:HV hv) (h4_:TTP H) (h5_:MA H) (h6_:∀H' q ts es,Same (dels H s2) H'->TTP H'->H q=none->H' q=some (.lst ts)->ts.length≤100->AL (TN H') ts es->Q (.ref q) H'):Isp_fAc vs H Q
def sp_fAc:Sp:=λvs H Q _=>Isp_fAc vs H Q
inductive Isp_fAo(vs:List V)(H:Hp)(Q:VK):Prop
 |mk (nq:_) (num:_) (v:_) (d:_) (h0_:vs=[.ref nq,v]) (h1_:NumD H nq num) (h2_:DT H v d) (h3_:SgOk d) (h4_:∀t,txt num d t->Q (.str t) H):Isp_fAo vs H Q
def sp_fAo:Sp:=λvs H Q _=>Isp_fAo vs H Q
inductive Isp_fBi(vs:List V)(H:Hp)(Q:VK):Prop
 |mk (fa:_) (F:_) (S:_) (n:_) (vp:_) (p:_) (nq:_) (num:_) (h0_:vs=[.ref fa,vp,.ref nq]) (h1_:FZ H fa F S n) (h2_:(∀i,i<n->SgOk (S i).sg)) (h3_:GK H (.tup p) vp) (h4_:Pn p) (h5_:NumD H nq num) (h6_:∀H' q zs,Same H H'->H q=none->H' q=some (.lst zs)->(∀z∈zs,RW S n num H' z)->Q (.ref q) H'):Isp_fBi vs H Q
def sp_fBi:Sp:=λvs H Q _=>Isp_fBi vs H Q
inductive Isp_fCa(vs:List V)(H:Hp)(Q:VK):Prop
 |mk (fa:_) (F:_) (S:_) (n:_) (nq:_) (num:_) (vp:_) (p:_) (b:_) (h0_:vs=[.ref fa,.ref nq,vp,.bl b]) (h1_:FZ H fa F S n) (h2_:(∀i,i<n->SgOk (S i).sg)) (h3_:GK H (.tup p) vp) (h4_:Pn p) (h5_:NumD H nq num) (h6_:num p≠none) (h7_:∀H' v,Same H H'->EY S n num H' v p->Q v H'):Isp_fCa vs H Q
def sp_fCa:Sp:=λvs H Q _=>Isp_fCa vs H Q
inductive Isp_fBp(vs:List V)(H:Hp)(Q:VK):Prop
 |mk (fa:_) (F:_) (S:_) (n:_) (r:_) (r0:_) (rs:_) (hv:_) (h0_:vs=[.ref fa,.ref r,hv]) (h1_:FZ H fa F S n) (h2_:(∀i,i<n->SgOk (S i).sg)) (h3_:SqL H r (.str r0::rs)) (h4_:HV hv) (h5_:TTP H) (h6_:MA H) (h7_:∀H' q es ps num,Same (dels H s2) H'->TTP H'->H q=none->H' q=some (.lst es)->es.length≤100->AL (EY S n num H') es ps->(∀p,Pn p->(num p).isSome=true->p∈ps)->(∀p z,num p=some z->z.length≤1000)->Q (.ref q) H'):Isp_fBp vs H Q
def sp_fBp:Sp:=λvs H Q _=>Isp_fBp vs H Q
section
variable {vs:List V}{H:Hp}{Q:VK}{E:XK}
def xAwa(h:sp_fBt vs H Q E):vs.length=4:=by obtain⟨_,_,_,_,_,_,_,_,_,rfl,_⟩:=h;rfl
def xAwb(h:sp_fAj vs H Q E):vs.length=2:=by obtain⟨_,_,rfl,_⟩:=h;rfl
def xAwc(h:sp_fAc vs H Q E):vs.length=3:=by obtain⟨_,_,_,_,_,_,_,_,rfl,_⟩:=h;rfl
def xAwd(h:sp_fAo vs H Q E):vs.length=2:=by obtain⟨_,_,_,_,rfl,_⟩:=h;rfl
def xAwe(h:sp_fBi vs H Q E):vs.length=3:=by obtain⟨_,_,_,_,_,_,_,_,rfl,_⟩:=h;rfl
def xAwf(h:sp_fCa vs H Q E):vs.length=4:=by obtain⟨_,_,_,_,_,_,_,_,_,rfl,_⟩:=h;rfl
def xAwg(h:sp_fBp vs H Q E):vs.length=3:=by obtain⟨_,_,_,_,_,_,_,_,rfl,_⟩:=h;rfl
end
structure Jz(A:List (List Key×List Key))(D U:List (List Key)):Prop where
 nd:(D++U).Nodup
 up:∀c∈D++U,c=mainK\/∃o,(c,o)∈A/\o∈D
section
variable {A:List (List Key×List Key)}{D U l:List (List Key)}{u c o o':List Key}
def Jz.pn(h:Jz A D U)(b:∀x∈A,Nm x.1)(a:c∈D++U):Pn c:=by
 rcases h.up c a with z|⟨o,hx,_⟩
 ·exact .inl z
 ·exact .inr (b _ hx)
def Jz.len(h:Jz A D U):D.length+U.length≤A.length+1:=by
 have:=xAdf (ws:=mainK::A.map (·.1)) h.nd λc a=>by
  rcases h.up c a with z|⟨o,hx,_⟩
  ·rw[z];exact qp
  ·exact qu _ (qj.mpr ⟨_,hx,O⟩)
 rw[qe,qx,qf]at this;exact this
def xAwh:∀{A:List (List Key×List Key)},(A.map (·.1)).Nodup->(c,o)∈A->(c,o')∈A->o=o'
 |a::A,h,hx,hy=>by
  rw[zg,zx]at h;rcases qz.mp hx with h1|h1 <;> rcases qz.mp hy with h2|h2
  ·rw[←h1]at h2;injection h2 with _ h2;exact h2.symm
  ·exact(h.1 (qj.mpr ⟨_,h2,by rw[←h1]⟩)).elim
  ·exact(h.1 (qj.mpr ⟨_,h1,by rw[←h2]⟩)).elim
  ·exact xAwh h.2 h1 h2
def Jz.step(p:(A.map (·.1)).Nodup)(r:∀x∈A,Nm x.1)(h:Jz A D (U++[u]))(j:∀c∈l,(c,u)∈A)(m:l.Nodup):Jz A (D++[u]) (U++l):=by
 have f:(D++[u]++U).Perm (D++(U++[u])):=by
  rw[vj];exact List.Perm.append_left D List.perm_append_comm
 have n:u∉D:=λz=>(List.nodup_append.mp h.nd).2.2 u z u (by simp) rfl
 refine⟨?_,λc d=>?_⟩
 ·rw[←vj]
  refine v9.mpr ⟨f.nodup_iff.mpr h.nd,m,λa q b k e=>?_⟩;subst e;rcases h.up _ (f.mem_iff.mp q) with z|⟨o,g,i⟩
  ·exact(r _ (j a k)).main z
  ·exact n (xAwh p g (j a k)▸i)
 ·rw[←vj]at d
  rcases zd.mp d with d|d
  ·exact(h.up c (f.mem_iff.mp d)).imp id λ⟨o,g,i⟩=>⟨o,g,z8 _ i⟩
  ·exact .inr ⟨u,j c d,by simp⟩
end
def UN(H:Hp)(v:V)(e:List Key×Str):Prop:=∃b a,v=.ref b/\H b=some (.tup [a,.str e.2])/\GK H (.tup e.1) a
def UN.tups(h:UN H v e)(t:Tups H H'):UN H' v e:=by
 obtain⟨b,c,a,h1,h2⟩:=h;exact⟨b,c,a,t _ _ h1,h2.tups t⟩
def DW(H:Hp)(p:Addr):Prop:=∃a b:Int,H p=some (.lst [.int a,.int b])
def DW.same(h:DW H p)(s:Same H H'):DW H' p:=let⟨a,b,e⟩:=h;⟨a,b,s _ _ e⟩
def DW.tups(h:DW H p)(s:Same (del H p) H'):Tups H H':=let⟨_,_,e⟩:=h;Tups.cut e s
def DW.ne(h:DW H p)(g:H q=none):q≠p:=let⟨_,_,e⟩:=h;λz=>by rw[z,e]at g;cases g
def cut_ok:∀r:Nat,r<8->PyData.strOk (cutS "abcdefgh" none (some (1+(r:Int))))=true/\(cutS "abcdefgh" none (some (1+(r:Int)))).length≤10:=by decide +kernel
def abc_ok:∀r:Nat,r<29->∃c,atI ("abcdefghijklmnopqrstuvwxyz .,":Str).cps.toList (r:Int)=some c/\PyData.strOk ⟨#[c]⟩=true:=by
 have:∀r:Nat,r<29->(match atI ("abcdefghijklmnopqrstuvwxyz .,":Str).cps.toList (r:Int) with|some c=>PyData.strOk ⟨#[c]⟩|none=>false)=true:=by decide +kernel
 intro r h;have:=this r h
 cases e:atI ("abcdefghijklmnopqrstuvwxyz .,":Str).cps.toList (r:Int) with
 |none=>rw[e]at this;cases this
 |some c=>rw[e]at this;exact⟨c,O,this⟩
def xAqb(h1:PyData.strOk z=true)(h2:d.canLay0=true/\sk d d=true/\d.depth≤1):OkS (.tuple [.str z,d]):=by
 have b:∀x∈[PyData.str z,d],x.canLay0=true/\sk x x=true/\x.depth≤1:=λx a=>by
  simp only[List.mem_cons,List.not_mem_nil,or_false]at a
  rcases a with rfl|rfl
  ·exact ok_str h1
  ·exact h2
 refine⟨xAcn λx a=>(b x a).1,xAut λx a=>(b x a).2.1,?_⟩;have:=xAeu λx a=>(b x a).2.2;show PyData.depthAll _+1≤3;omega
inductive Isp5_law_side(vs:List V)(H:Hp)(Q:VK):Prop
 |mk (d:_) (l:_) (us:_) (h0_:vs=[.ref d,.ref l]) (h1_:DW H d) (h2_:H l=some (.lst us)) (h3_:l≠d) (h4_:0<us.length) (h5_:us.length<1000) (h6_:∀H' q v bb,Same (del H d) H'->DW H' d->H' q=some (.tup [v,.str (sdW bb)])->v∈us->Q (.ref q) H'):Isp5_law_side vs H Q
def sp5_law_side:Sp:=λvs H Q _=>Isp5_law_side vs H Q
inductive Isp5_law_sign(vs:List V)(H:Hp)(Q:VK):Prop
 |mk (d:_) (l:_) (us:_) (h0_:vs=[.ref d,.ref l]) (h1_:DW H d) (h2_:H l=some (.lst us)) (h3_:l≠d) (h4_:0<us.length) (h5_:us.length<1000) (h6_:(∀v∈us,NPn H v)) (h7_:∀H' v dd,Same (del H d) H'->DW H' d->DT H' v dd->SgOk dd->OkS dd->Q v H'):Isp5_law_sign vs H Q
def sp5_law_sign:Sp:=λvs H Q _=>Isp5_law_sign vs H Q
inductive Isp5_law_cell_at(vs:List V)(H:Hp)(Q:VK):Prop
 |mk (sp:_) (ns:_) (k:_) (h0_:vs=[.ref sp,.int k]) (h1_:SqL H sp (List.map V.int ns)) (h2_:0≤k) (h3_:∀c,Q (.int c) H):Isp5_law_cell_at vs H Q
def sp5_law_cell_at:Sp:=λvs H Q _=>Isp5_law_cell_at vs H Q
inductive Isp5_law_drawn(vs:List V)(H:Hp)(Q:VK):Prop
 |mk (c:_) (b:_) (h0_:vs=[.int c,.bl b]) (h1_:∀H' p,Same H H'->H p=none->DW H' p->Q (.ref p) H'):Isp5_law_drawn vs H Q
def sp5_law_drawn:Sp:=λvs H Q _=>Isp5_law_drawn vs H Q
inductive Isp5_law_draw(vs:List V)(H:Hp)(Q:VK):Prop
 |mk (p:_) (q:_) (h0_:vs=[.ref p,.int q]) (h1_:DW H p) (h2_:0<q) (h3_:q<1000) (h4_:∀r H',Same (del H p) H'->DW H' p->0≤r->r<q->Q (.int r) H'):Isp5_law_draw vs H Q
def sp5_law_draw:Sp:=λvs H Q _=>Isp5_law_draw vs H Q
inductive Isp5_law_text(vs:List V)(H:Hp)(Q:VK):Prop
 |mk (nq:_) (num:_) (v:_) (d:_) (h0_:vs=[v,.ref nq]) (h1_:NumD H nq num) (h2_:DT H v d) (h3_:SgOk d) (h4_:∀t,txt num d t->Q (.str t) H):Isp5_law_text vs H Q
def sp5_law_text:Sp:=λvs H Q _=>Isp5_law_text vs H Q
inductive Isp5_law_right(vs:List V)(H:Hp)(Q:VK):Prop
 |mk (fa:_) (F:_) (S:_) (n:_) (fq:_) (es:_) (ps:_) (num:_) (h0_:vs=[.ref fa,.ref fq]) (h1_:FZ H fa F S n) (h2_:(∀i,i<n->SgOk (S i).sg)) (h3_:H fq=some (.lst es)) (h4_:es.length≤100) (h5_:AL (EY S n num H) es ps) (h6_:(∀p,Pn p->(num p).isSome=true->p∈ps)) (h7_:(∀p z,num p=some z->z.length≤1000)) (h8_:∀H',Same H H'->Q (.bl true) H'):Isp5_law_right vs H Q
def sp5_law_right:Sp:=λvs H Q _=>Isp5_law_right vs H Q
inductive Isp5_law_facts(vs:List V)(H:Hp)(Q:VK):Prop
 |mk (sp:_) (ns:_) (r:_) (h0_:vs=[.ref sp,.ref r]) (h1_:SqL H sp (List.map V.int ns)) (h2_:ns.length≤63) (h3_:H r=some (.lst [.str "ann",.str "bo"])) (h4_:∀H' fa F S n,Same H H'->FZ H' fa F S n->(∀i,i<n->SgOk (S i).sg)->Q (.ref fa) H'):Isp5_law_facts vs H Q
def sp5_law_facts:Sp:=λvs H Q _=>Isp5_law_facts vs H Q
inductive Isp5_law(vs:List V)(H:Hp)(Q:VK):Prop
 |mk (sp:_) (ns:_) (h0_:vs=[.ref sp]) (h1_:SqL H sp (List.map V.int ns)) (h2_:ns.length≤63) (h3_:TTP H) (h4_:MA H) (h5_:∀H',Q (.bl true) H'):Isp5_law vs H Q
def sp5_law:Sp:=λvs H Q _=>Isp5_law vs H Q
def law_specq:∀(H:Hp) (a:Addr) (ns:List Int),ns.length≤63->(∀t∈TSL,H (tbA t)=some (.tbl #[]))->(∀c∈MS,H c.1=some (.tup c.2))->SqL H a (ns.map V.int)->sp5_law [.ref a] H (λv _=>v=.bl true) λ_ _ _=>False:=λH a ns h1 h2 b d =>
 ⟨a,ns,O,d,h1,⟨by decide,.inl (h2 "greatest_place" (by decide +kernel)),.inl (h2 "all_inner_parts" (by decide +kernel))⟩,b _ qp,λ_=>rfl⟩
section
variable {vs:List V}{H:Hp}{Q:VK}{E:XK}
def xAgf(h:sp5_law_side vs H Q E):vs.length=2:=by obtain⟨_,_,_,rfl,_⟩:=h;rfl
def xAgg(h:sp5_law_sign vs H Q E):vs.length=2:=by obtain⟨_,_,_,rfl,_⟩:=h;rfl
def xAdv(h:sp5_law_cell_at vs H Q E):vs.length=2:=by obtain⟨_,_,_,rfl,_⟩:=h;rfl
def xAfb(h:sp5_law_drawn vs H Q E):vs.length=2:=by obtain⟨_,_,rfl,_⟩:=h;rfl
def xAgh(h:sp5_law_draw vs H Q E):vs.length=2:=by obtain⟨_,_,rfl,_⟩:=h;rfl
def xAgi(h:sp5_law_text vs H Q E):vs.length=2:=by obtain⟨_,_,_,_,rfl,_⟩:=h;rfl
def xAfc(h:sp5_law_right vs H Q E):vs.length=2:=by obtain⟨_,_,_,_,_,_,_,_,rfl,_⟩:=h;rfl
def xAfd(h:sp5_law_facts vs H Q E):vs.length=2:=by obtain⟨_,_,_,rfl,_⟩:=h;rfl
def xAry(h:sp5_law vs H Q E):vs.length=1:=by obtain⟨_,_,rfl,_⟩:=h;rfl
end
structure LV(H0 H:Hp)(d f:Addr)(ys:List V):Prop where
 rs:Rest H0 H (λb=>b=d\/b=f)
 dw:DW H d
 ey:H f=some (.lst ys)
 lr:∀y∈ys,LR H y
def LV.draw(h:LV H0 H d f ys)(n:f≠d)(s:Same (del H d) H')(w:DW H' d):LV H0 H' d f ys :=
 ⟨h.rs.del (.inl rfl) s,w,DP.to s h.ey n,λy a=>(h.lr y a).tups (h.dw.tups s)⟩
def LV.same(h:LV H0 H d f ys)(s:Same H H'):LV H0 H' d f ys :=
 ⟨h.rs.same s,h.dw.same s,s _ _ h.ey,λy a=>(h.lr y a).tups s.tups⟩
inductive Isp5_law_leaves(vs:List V)(H:Hp)(Q:VK):Prop
 |mk (d:_) (fa:_) (r:_) (kq:_) (F:_) (kn:_) (h0_:vs=[.ref d,.ref fa,.ref r,.ref kq]) (h1_:DW H d) (h2_:H fa=some (.dK (fkv F 9))) (h3_:H (F 8)=some (.lst [])) (h4_:H r=some (.lst [.str "ann",.str "bo"])) (h5_:H kq=some (.lst kn)) (h6_:0<kn.length) (h7_:kn.length<1000) (h8_:(∀v∈kn,NPn H v)) (h9_:r≠d) (h10_:kq≠d) (h11_:F 8≠d) (h12_:r≠F 8) (h13_:kq≠F 8) (h14_:∀H' ys,Rest H H' (λb=>b=d\/b=F 8)->H' (F 8)=some (.lst ys)->(∀y∈ys,LR H' y)->ys.length≤45->Q .non H'):Isp5_law_leaves vs H Q
def sp5_law_leaves:Sp:=λvs H Q _=>Isp5_law_leaves vs H Q
section
variable {vs:List V}{H:Hp}{Q:VK}{E:XK}
def xAdz(h:sp5_law_leaves vs H Q E):vs.length=4:=by obtain⟨_,_,_,_,_,_,rfl,_⟩:=h;rfl
end
def KN(H:Hp)(kn:List V):Prop:=∀(j:Nat) v,kn[j]?=some v->∃w:Str,GK H (.tup [.inr w,.inl (j:Int)]) v/\Pn [.inr w,.inl (j:Int)]
def KN.tups(h:KN H kn)(t:Tups H H'):KN H' kn:=λj v e=>let⟨w,g,p⟩:=h j v e;⟨w,g.tups t,p⟩
def KN.np(h:KN H kn)(a:v∈kn):NPn H v:=by
 obtain⟨j,b,e⟩:=z6.mp a;obtain⟨w,g,p⟩:=h j v (by rw[qg b,e]);exact⟨_,g,p⟩
def xAbu(h:Rest H Z X)(a:∀b,X b->∀xs,H b≠some (.tup xs)):Tups H Z:=λb ys e=>h b _ e λz=>a b z ys e
abbrev roll5:HO:=.lst [.str "ann",.str "bo"]
structure FIW(H:Hp)(bs es cs:List V):Prop where
 bt:∀v∈bs,BT H v
 pc:∀v∈es,∃p,PCF H v p/\Nm p
 ct:∀v∈cs,∃k,CT H v k
def FIW.tups{bs es cs:List V}(h:FIW H bs es cs)(t:Tups H H'):FIW H' bs es cs:=⟨λv a=>(h.bt v a).tups t,λv a=>let⟨p,g,n⟩:=h.pc v a;⟨p,g.tups t,n⟩,λv a=>(h.ct v a).imp λ_ g=>g.tups t⟩
inductive Isp5_law_parts(vs:List V)(H:Hp)(Q:VK):Prop
 |mk (d:_) (fa:_) (r:_) (F:_) (h0_:vs=[.ref d,.ref fa,.ref r]) (h1_:DW H d) (h2_:H fa=some (.dK (fkv F 9))) (h3_:H (F 0)=some (.lst [])) (h4_:H (F 1)=some (.lst [])) (h5_:H (F 2)=some (.lst [])) (h6_:H r=some roll5) (h7_:r≠d) (h8_:(∀i,i<9->F i≠d/\r≠F i)) (h9_:(∀i,i<9->∀j,j<9->F i=F j->i=j)) (h10_:∀H' kq kn bs es cs,Rest H H' (λb=>b=d\/b=F 0\/b=F 1\/b=F 2)->H kq=none->H' kq=some (.lst kn)->KN H' kn->0<kn.length->kn.length≤15->H' (F 0)=some (.lst bs)->H' (F 1)=some (.lst es)->H' (F 2)=some (.lst cs)->FIW H' bs es cs->bs.length≤31->es.length≤31->cs.length≤31->Q (.ref kq) H'):Isp5_law_parts vs H Q
def sp5_law_parts:Sp:=λvs H Q _=>Isp5_law_parts vs H Q
def KSP(H:Hp)(kvs:List (KD×V×V)):Prop:=∀e∈kvs,∃p,Pn p/\e.1=.tup p/\GK H (.tup p) e.2.1
def KSP.tups(h:KSP H kvs)(t:Tups H H'):KSP H' kvs:=λe d=>let⟨p,a,b,c⟩:=h e d;⟨p,a,b,c.tups t⟩
def NMD(S:Nat->Sg)(n:Nat)(H:Hp)(kvs:List (KD×V×V)):Prop:=KSP H kvs/\∀k u,vG kvs k=some u->∃p a us,k=.tup p/\Pn p/\u=.ref a/\H a=some (.lst us)/\0<us.length/\us.length≤n/\∀v∈us,∃i,i<n/\(S i).pt=p/\NM (nkS S) H v i
def NMD.same{S:Nat->Sg}(h:NMD S n H kvs)(s:Same H H'):NMD S n H' kvs:=⟨h.1.tups s.tups,λk u e=>by
 obtain⟨p,g,us,h1,h2,o,m,l,f,j⟩:=h.2 k u e
 exact⟨p,g,us,h1,h2,o,s _ _ m,l,f,λv d=>let⟨i,a,b,c⟩:=j v d;⟨i,a,b,NM.tups c s.tups⟩⟩⟩
inductive Isp5_law_signs(vs:List V)(H:Hp)(Q:VK):Prop
 |mk (d:_) (fa:_) (r:_) (kq:_) (F:_) (kn:_) (h0_:vs=[.ref d,.ref fa,.ref r,.ref kq]) (h1_:DW H d) (h2_:H fa=some (.dK (fkv F 9))) (h3_:H (F 3)=some (.lst [])) (h4_:H r=some roll5) (h5_:H kq=some (.lst kn)) (h6_:KN H kn) (h7_:0<kn.length) (h8_:kn.length≤15) (h9_:r≠d) (h10_:kq≠d) (h11_:F 3≠d) (h12_:r≠F 3) (h13_:kq≠F 3) (h14_:∀H' S n xs nq kvs,Rest H H' (λb=>b=d\/b=F 3)->H' (F 3)=some (.lst xs)->AN (SN S H') xs (List.range n)->WS S n->n≤24->(∀i,i<n->SgOk (S i).sg)->H nq=none->H' nq=some (.dG kvs)->kvs.length≤24->NMD S n H' kvs->(∀k lq,vG kvs k=some (.ref lq)->H lq=none)->Q (.ref nq) H'):Isp5_law_signs vs H Q
def sp5_law_signs:Sp:=λvs H Q _=>Isp5_law_signs vs H Q
inductive Isp5_law_stretches(vs:List V)(H:Hp)(Q:VK):Prop
 |mk (d:_) (fa:_) (r:_) (nq:_) (F:_) (S:_) (n:_) (kvs:_) (h0_:vs=[.ref d,.ref fa,.ref r,.ref nq]) (h1_:DW H d) (h2_:H fa=some (.dK (fkv F 9))) (h3_:n≤24) (h4_:H (F 4)=some (.lst [])) (h5_:H (F 5)=some (.lst [])) (h6_:H r=some roll5) (h7_:H nq=some (.dG kvs)) (h8_:kvs.length≤24) (h9_:NMD S n H kvs) (h10_:r≠d) (h11_:(∀i,i<9->F i≠d/\r≠F i)) (h12_:F 4≠F 5) (h13_:(∀k lq,vG kvs k=some (.ref lq)->lq≠d/\lq≠F 4/\lq≠F 5)) (h14_:∀H',Rest H H' (λb=>b=d\/b=F 4\/b=F 5)->FLs MKW H' (F 4) 9->FLs NTW H' (F 5) 9->Q .non H'):Isp5_law_stretches vs H Q
def sp5_law_stretches:Sp:=λvs H Q _=>Isp5_law_stretches vs H Q
inductive Isp5_law_tables(vs:List V)(H:Hp)(Q:VK):Prop
 |mk (d:_) (fa:_) (r:_) (kq:_) (F:_) (kn:_) (h0_:vs=[.ref d,.ref fa,.ref r,.ref kq]) (h1_:DW H d) (h2_:H fa=some (.dK (fkv F 9))) (h3_:H (F 6)=some (.lst [])) (h4_:H (F 7)=some (.lst [])) (h5_:H r=some roll5) (h6_:H kq=some (.lst kn)) (h7_:KN H kn) (h8_:0<kn.length) (h9_:kn.length≤15) (h10_:r≠d) (h11_:kq≠d) (h12_:(∀i,i<9->F i≠d/\r≠F i/\kq≠F i)) (h13_:F 6≠F 7) (h14_:∀H' L a ls,Rest H H' (λb=>b=d\/b=F 6\/b=F 7)->H' (F 6)=some (.lst ls)->AN (LNT L H') ls (List.range a)->WL L a->FLs CEW H' (F 7) 63->Q .non H'):Isp5_law_tables vs H Q
def sp5_law_tables:Sp:=λvs H Q _=>Isp5_law_tables vs H Q
section
variable {vs:List V}{H:Hp}{Q:VK}{E:XK}
def xAfe(h:sp5_law_parts vs H Q E):vs.length=3:=by obtain⟨_,_,_,_,rfl,_⟩:=h;rfl
def xAff(h:sp5_law_signs vs H Q E):vs.length=4:=by obtain⟨_,_,_,_,_,_,rfl,_⟩:=h;rfl
def xAcz(h:sp5_law_stretches vs H Q E):vs.length=4:=by obtain⟨_,_,_,_,_,_,_,_,rfl,_⟩:=h;rfl
def xAea(h:sp5_law_tables vs H Q E):vs.length=4:=by obtain⟨_,_,_,_,_,_,rfl,_⟩:=h;rfl
end
structure PA5(d:Addr)(F:Nat->Addr)(kq:Addr):Prop where
 kd:kq≠d
 kf:∀i,i<3->kq≠F i
 fd:∀i,i<3->F i≠d
 ff:∀i,i<3->∀j,j<3->i≠j->F i≠F j
structure PB(H0 H:Hp)(d:Addr)(F:Nat->Addr)(kq:Addr)(kn bs es cs:List V):Prop where
 ro:Rest H0 H (λb=>b=d\/b=F 0\/b=F 1\/b=F 2)
 dw:DW H d
 ek:H kq=some (.lst kn)
 kn':KN H kn
 eb:H (F 0)=some (.lst bs)
 ev:H (F 1)=some (.lst es)
 ec:H (F 2)=some (.lst cs)
 fi:FIW H bs es cs
section
variable {H0 H H':Hp}{d kq:Addr}{F:Nat->Addr}{kn bs es cs:List V}{v:V}
def PB.draw(h:PB H0 H d F kq kn bs es cs)(a:PA5 d F kq)(s:Same (del H d) H')(w:DW H' d):PB H0 H' d F kq kn bs es cs :=
 have t:=h.dw.tups s
 ⟨h.ro.del (.inl rfl) s,w,DP.to s h.ek a.kd,h.kn'.tups t,DP.to s h.eb (a.fd 0 (by decide)),DP.to s h.ev (a.fd 1 (by decide)),DP.to s h.ec (a.fd 2 (by decide)),h.fi.tups t⟩
def PB.same(h:PB H0 H d F kq kn bs es cs)(s:Same H H'):PB H0 H' d F kq kn bs es cs :=
 ⟨h.ro.same s,h.dw.same s,s _ _ h.ek,h.kn'.tups s.tups,s _ _ h.eb,s _ _ h.ev,s _ _ h.ec,h.fi.tups s.tups⟩
def DW.wr(h:DW H d)(n:d≠p):DW (upd H p o) d:=let⟨a,b,e⟩:=h;⟨a,b,by rw[xAae n];exact e⟩
def PB.birth(h:PB H0 H d F kq kn bs es cs)(a:PA5 d F kq)(b:BT H v):PB H0 (upd H (F 0) (.lst (bs++[v]))) d F kq kn (bs++[v]) es cs:=by
 have t:Tups H (upd H (F 0) (.lst (bs++[v]))):=Tups.wl h.eb;have g:=h.fi.tups t;exact⟨h.ro.wr (.inr (.inl rfl)),h.dw.wr (a.fd 0 (by decide)).symm,by rw[xAae (a.kf 0 (by decide))];exact h.ek,h.kn'.tups t,xAab,by rw[xAae (a.ff 1 (by decide) 0 (by decide) (by decide))];exact h.ev,by rw[xAae (a.ff 2 (by decide) 0 (by decide) (by decide))];exact h.ec,xAbg g.bt (b.tups t),g.pc,g.ct⟩
def PB.place(h:PB H0 H d F kq kn bs es cs)(a:PA5 d F kq)(b:PCF H v p)(c:Nm p):PB H0 (upd H (F 1) (.lst (es++[v]))) d F kq kn bs (es++[v]) cs:=by
 have t:Tups H (upd H (F 1) (.lst (es++[v]))):=Tups.wl h.ev;have g:=h.fi.tups t;exact⟨h.ro.wr (.inr (.inr (.inl rfl))),h.dw.wr (a.fd 1 (by decide)).symm,by rw[xAae (a.kf 1 (by decide))];exact h.ek,h.kn'.tups t,by rw[xAae (a.ff 0 (by decide) 1 (by decide) (by decide))];exact h.eb,xAab,by rw[xAae (a.ff 2 (by decide) 1 (by decide) (by decide))];exact h.ec,g.bt,xAbg g.pc ⟨p,b.tups t,c⟩,g.ct⟩
def PB.cut(h:PB H0 H d F kq kn bs es cs)(a:PA5 d F kq)(b:CT H v k):PB H0 (upd H (F 2) (.lst (cs++[v]))) d F kq kn bs es (cs++[v]):=by
 have t:Tups H (upd H (F 2) (.lst (cs++[v]))):=Tups.wl h.ec;have g:=h.fi.tups t;exact⟨h.ro.wr (.inr (.inr (.inr rfl))),h.dw.wr (a.fd 2 (by decide)).symm,by rw[xAae (a.kf 2 (by decide))];exact h.ek,h.kn'.tups t,by rw[xAae (a.ff 0 (by decide) 2 (by decide) (by decide))];exact h.eb,by rw[xAae (a.ff 1 (by decide) 2 (by decide) (by decide))];exact h.ev,xAab,g.bt,g.pc,xAbg g.ct ⟨k,b.tups t⟩⟩
def PB.know(h:PB H0 H d F kq kn bs es cs)(a:PA5 d F kq)(f:H0 kq=none)(g:GK H (.tup [.inr w,.inl (kn.length:Int)]) v)(i:Pn [.inr w,.inl (kn.length:Int)]):PB H0 (upd H kq (.lst (kn++[v]))) d F kq (kn++[v]) bs es cs:=by
 have t:Tups H (upd H kq (.lst (kn++[v]))):=Tups.wl h.ek;refine⟨λb o e n=>by rw[xAae (λz=>by rw[z,f]at e;cases e)];exact h.ro b o e n,h.dw.wr a.kd.symm,xAab,λj u e=>?_,by rw[xAae (a.kf 0 (by decide)).symm];exact h.eb,by rw[xAae (a.kf 1 (by decide)).symm];exact h.ev,by rw[xAae (a.kf 2 (by decide)).symm];exact h.ec,h.fi.tups t⟩
 by_cases k:j<kn.length
 ·rw[wc k]at e
  exact h.kn'.tups t j u e
 ·have c:j=kn.length:=by
   have:=(qm.mp e).1;rw[qe,qo]at this;omega
  subst c;rw[yn (qb _),j6]at e;cases e;exact⟨w,g.tups t,i⟩
def PB.out(h:PB H0 H d F kq kn bs es cs)(e:H0 b=some o)(n:b≠d)(m:∀i,i<3->b≠F i):H b=some o:=h.ro b o e λz=>by
 rcases z with z|z|z|z
 ·exact n z
 ·exact m 0 (by decide) z
 ·exact m 1 (by decide) z
 ·exact m 2 (by decide) z
end
def nm5(h:V.str w∈[V.str "ann",V.str "bo"]):Nm [.inr w,.inl x]:=by
 simp only[List.mem_cons,List.not_mem_nil,or_false]at h
 rcases h with h|h <;> injection h with h
 ·exact⟨w,x,O,.inl h⟩
 ·exact⟨w,x,O,.inr (.inl h)⟩
def tyG(e:H p=some (.dG kvs)):tyV "dict" (.ref p) H:=.inr (.inr (.inl ⟨O,.inr (.inr ⟨_,e⟩)⟩))
structure SB(H0 Z:Hp)(d f nq:Addr)(S:Nat->Sg)(j:Nat)(xs:List V)(kvs:List (KD×V×V)):Prop where
 ro:Rest H0 Z (λb=>b=d\/b=f)
 dw:DW Z d
 ex:Z f=some (.lst xs)
 an:AN (SN S Z) xs (List.range j)
 ws:WS S j
 nm:∀i,i<j->∃w:Str,(S i).nk=[.inr w,.inl (40+(i:Int)),.inl 0]
 ky:∀i,i<j->(S i).ka=50+(i:Int) / 2/\(S i).kb=(i:Int) % 2/\(S i).kc=0
 ok:∀i,i<j->SgOk (S i).sg
 en:Z nq=some (.dG kvs)
 nd:NMD S j Z kvs
 fr:∀k lq,vG kvs k=some (.ref lq)->H0 lq=none
section
variable {H0 Z Z':Hp}{d f nq:Addr}{S:Nat->Sg}{j:Nat}{xs:List V}{kvs:List (KD×V×V)}
def NMD.mv(h:NMD S j Z kvs)(t:Tups Z Z')(k:∀c d us,vG kvs c=some (.ref d)->Z d=some (.lst us)->Z' d=some (.lst us)):NMD S j Z' kvs:=⟨h.1.tups t,λc u e=>by
 obtain⟨p,d,us,h1,h2,rfl,o,n,l,m⟩:=h.2 c u e
 exact⟨p,d,us,h1,h2,O,k c d us e o,n,l,λv f=>let⟨i,a,b,g⟩:=m v f;⟨i,a,b,NM.tups g t⟩⟩⟩
def SB.draw(h:SB H0 Z d f nq S j xs kvs)(m:H0 d≠none)(l:f≠d)(b:nq≠d)(s:Same (del Z d) Z')(w:DW Z' d):SB H0 Z' d f nq S j xs kvs :=
 have t:=h.dw.tups s
 ⟨h.ro.del (.inl rfl) s,w,DP.to s h.ex l,h.an.imp λv i g=>g.tups t,h.ws,h.nm,h.ky,h.ok,DP.to s h.en b,h.nd.mv t λc k us e a=>DP.to s a λz=>m (z▸h.fr c k e),h.fr⟩
def SB.same(h:SB H0 Z d f nq S j xs kvs)(s:Same Z Z'):SB H0 Z' d f nq S j xs kvs :=
 ⟨h.ro.same s,h.dw.same s,s _ _ h.ex,h.an.imp λv i g=>g.tups s.tups,h.ws,h.nm,h.ky,h.ok,s _ _ h.en,h.nd.same s,h.fr⟩
def SB.sign(h:SB H0 Z d f nq S j xs kvs)(F:H0 f≠none)(U:f≠d)(D:nq≠f)(hj:j<24)(e:Z p=some (.tup [o,vn,k,.ref kq,l,.bl r.lv]))(H:GK Z (.tup r.pt) o)(E:GK Z (.tup r.nk) vn)(b:GK Z (kd (nkS S) r.bh) k)(X:Z kq=some (.tup [.int r.ka,.int r.kb,.int r.kc]))(N:DT Z l r.sg)(hn:r.nk=[.inr w,.inl (40+(j:Int)),.inl 0])(y:PyData.strOk w=true)(J:Pn r.pt)(q:r.ka=50+(j:Int) / 2/\r.kb=(j:Int) % 2/\r.kc=0)(x:∀i,r.bh=some i->i<j/\(S i).pt=r.pt)(Q:SgOk r.sg)(R:OkS r.sg) :
  SB H0 (upd Z f (.lst (xs++[.ref p]))) d f nq (extS S j r) (j+1) (xs++[.ref p]) kvs:=by
 have t:Tups Z (upd Z f (.lst (xs++[.ref p]))):=Tups.wl h.ex;have a:=Agr.ext S j r
 have G:Lay r.nk:=by
  rw[hn];show(PyData.strOk w&&(true&&(true&&true)))=true;rw[y];rfl
 have W:WS (extS S j r) (j+1):=h.ws.ext (by omega) (λi hi=>by
  obtain⟨a1,a2,s⟩:=h.ky i hi;obtain⟨T,A,b3⟩:=q;unfold Lt3;rw[a1,a2,T,A]
  omega) (λi hi z=>by
  obtain⟨w',C⟩:=h.nm i hi;rw[C,hn]at z;injection z with _ z;injection z with z _;injection z with z
  omega) x G J.lay R
 have lt:∀i,i<j->extS S j r i=S i:=λi hi=>xAbf hi
 have cs:∀{P:Nat->Prop},(∀i,i<j->P i)->P j->∀i,i<j+1->P i:=λh1 h2 i hi=>by
  by_cases z:i=j
  ·rw[z];exact h2
  ·exact h1 i (by omega)
 refine⟨h.ro.wr (.inr rfl),h.dw.wr U.symm,xAab,?_,W,cs (λi hi=>by rw[lt i hi];exact h.nm i hi) ⟨w,by rw[xAbw];exact hn⟩,cs (λi hi=>by rw[lt i hi];exact h.ky i hi) (by rw[xAbw];exact q),cs (λi hi=>by rw[lt i hi];exact h.ok i hi) (by rw[xAbw];exact Q),by rw[xAae D];exact h.en,?_,h.fr⟩
 ·rw[jd]
  refine AN.snoc (xApx h.an λv i hi g=>(g.tups t).agr a (qw.mp hi) λm z=>?_) ?_
  ·have hi:=qw.mp hi
   have:=(h.ws.back i hi m z).1;omega
  ·have ex:extS S j r j=r:=xAbw
   refine⟨p,o,vn,k,kq,l,O,by rw[ex];exact t _ _ e,by rw[ex];exact H.tups t,by unfold NM nkS;rw[ex];exact E.tups t,?_,by rw[ex];exact t _ _ X,by rw[ex];exact N.tups t⟩;unfold bhS;rw[ex]
   cases z:r.bh with
   |none=>rw[z]at b;exact b
   |some m =>
    rw[z]at b;exact NM.tups (NM.agr a (x m z).1 b) t
 ·refine⟨h.nd.1.tups t,λc u e=>?_⟩
  obtain⟨K,n,us,h1,h2,rfl,L,M,Y,I⟩:=h.nd.2 c u e;refine⟨K,n,us,h1,h2,O,(xAae λ(z:n=f)=>F (z▸h.fr c n e)).trans L,M,by omega,λv B=>?_⟩;obtain⟨i,a1,a2,s⟩:=I v B;exact⟨i,by omega,by rw[lt i a1];exact a2,NM.tups (NM.agr a a1 s) t⟩
def SB.out(h:SB H0 Z d f nq S j xs kvs)(e:H0 b=some o)(c:b≠d)(a:b≠f):Z b=some o:=h.ro b o e λz=>z.elim c a
def SB.free(h:SB H0 Z d f nq S j xs kvs)(e:Z b=none):H0 b=none:=by
 cases z:H0 b with
 |none=>rfl
 |some o =>
  have a1:b≠d:=h.dw.ne e
  have a2:b≠f:=λy=>by rw[y,h.ex]at e;cases e
  rw[h.out z a1 a2]at e;cases e
def SB.get(h:SB H0 Z d f nq S j xs kvs)(p:List Key):∃us:List V,us.length≤j/\(∀v∈us,∃i,i<j/\(S i).pt=p/\NM (nkS S) Z v i)/\∀(Z':Hp) (e:Addr),(∀b o,H0 b=none->Z b=some o->Z' b=some o)->Z' e=some (.lst [])->∃a,(vG kvs (.tup p)).getD (.ref e)=.ref a/\Z' a=some (.lst us):=by
 cases z:vG kvs (.tup p) with
 |none=>exact⟨[],qy _,(λv z=>nomatch z),λZ' e s c=>⟨e,O,c⟩⟩
 |some u =>
  obtain⟨n,a,us,h1,h2,rfl,l,m,g,k⟩:=h.nd.2 _ _ z;injection h1 with h1;subst h1;exact⟨us,g,k,λZ' e s c=>⟨a,O,s _ _ (h.fr _ _ z) l⟩⟩
def SB.put(h:SB H0 Z d f nq S j xs kvs)(hn:H0 nq=none)(L:nq≠d)(N:nq≠f)(pn:Pn p)(G:GK Z (.tup p) m)(e:Z l=some (.lst us))(K:H0 l=none)(F:0<us.length)(J:us.length≤j)(s:∀v∈us,∃i,i<j/\(S i).pt=p/\NM (nkS S) Z v i) :
  SB H0 (upd Z nq (.dG (pG kvs (.tup p) m (.ref l)))) d f nq S j xs (pG kvs (.tup p) m (.ref l)):=by
 have t:Tups Z (upd Z nq (.dG (pG kvs (.tup p) m (.ref l)))):=Tups.wd h.en
 have ne:∀{b:Addr} {ys:List V},Z b=some (.lst ys)->upd Z nq (.dG (pG kvs (.tup p) m (.ref l))) b=some (.lst ys):=λ{b} {ys} e=>by rw[xAae λz=>by rw[z,h.en]at e;cases e];exact e
 refine⟨λb o e n=>by rw[xAae (λz=>by rw[z,hn]at e;cases e)];exact h.ro b o e n,h.dw.wr L.symm,ne h.ex,h.an.imp λv i g=>g.tups t,h.ws,h.nm,h.ky,h.ok,xAab,⟨λe D=>?_,λk u z=>?_⟩,λk u z=>?_⟩
 ·rcases pG_mem D with rfl|⟨e',he',h1,h2⟩
  ·exact⟨p,pn,O,G.tups t⟩
  ·obtain⟨w,E,I,A⟩:=h.nd.1 e' he'
   exact⟨w,E,h1.symm.trans I,by rw[←h2];exact A.tups t⟩
 ·rw[xAbx]at z
  by_cases y:k=.tup p
  ·rw[qF y]at z
   injection z with z;exact⟨p,l,us,y,pn,z.symm,ne e,F,J,λv q=>let⟨i,a,b,c⟩:=s v q;⟨i,a,b,NM.tups c t⟩⟩
  ·rw[qB y]at z
   obtain⟨w,x,r,h1,h2,C,M,H,B,s⟩:=h.nd.2 k u z;exact⟨w,x,r,h1,h2,C,ne M,H,B,λv q=>let⟨i,a,b,c⟩:=s v q;⟨i,a,b,NM.tups c t⟩⟩
 ·rw[xAbx]at z
  by_cases y:k=.tup p
  ·rw[qF y]at z
   injection z with z;injection z with z;rw[←z];exact K
  ·rw[qB y]at z
   exact h.fr k u z
end
def kD5:KD->PyData
 |.tup p=>tD p
 |_=>.none
def KSP.dvs:∀{kvs:List (KD×V×V)},KSP H kvs->DVs H (kvs.map (·.2.1)) (kvs.map λe=>kD5 e.1)
 |[],_=>.nil
 |e::r,h=>by
  obtain⟨p,pn,b,g⟩:=h e qp;refine .cons ?_ (KSP.dvs λe a=>h e (qu _ a));show DV H e.2.1 (kD5 e.1);rw[b];exact(gk_td g).dv
def KSP.keys(h:KSP H kvs):KeysAre (kvs.map λe=>kD5 e.1) 3:=by
 have all:∀d∈kvs.map (λe=>kD5 e.1),∃s n,d=.tuple [.str s,.int n]/\d.canLay0=true:=λd c=>by
  obtain⟨e,f,rfl⟩:=qj.mp c;obtain⟨p,pn,i,g⟩:=h e f;obtain⟨w,x,rfl⟩:=pn.two;rw[i];exact⟨w,x,O,pn.lay⟩
 refine⟨xAcn λd c=>?_,λd c=>?_,λa j b k=>?_,λd c=>?_⟩
 ·obtain⟨s,n,rfl,l⟩:=all d c;exact l
 ·obtain⟨s,n,rfl,l⟩:=all d c;exact trivial
 ·obtain⟨s,n,rfl,_⟩:=all a j;obtain⟨t,m,rfl,_⟩:=all b k;rfl
 ·obtain⟨s,n,rfl,_⟩:=all d c;exact yt rfl
def xAwi{α:Type}{ds:List PyData}{ix:List Nat}{ys:List α}{c:α}(a:SortIx ds ix)(d:ds.length=ys.length):∀v∈ix.map (λi=>ys.getD i c),v∈ys:=λv b=>by
 obtain⟨i,hi,rfl⟩:=qj.mp b;have:=qw.mp (a.1.mem_iff.mp hi);rw[zf,qg (by omega)];exact yk _
def xAwj{ds:List PyData}{ix:List Nat}(a:SortIx ds ix):ix.length=ds.length:=by
 rw[a.1.length_eq,zk]
structure TB(H0 Z:Hp)(d:Addr)(F:Nat->Addr)(k:Nat):Prop where
 ro:Rest H0 Z (λb=>b=d\/b=F 4\/b=F 5)
 dw:DW Z d
 e4:FLs MKW Z (F 4) k
 e5:FLs NTW Z (F 5) k
section
variable {H0 Z Z':Hp}{d:Addr}{F:Nat->Addr}{k:Nat}{v:V}
def TB.draw(h:TB H0 Z d F k)(a:F 4≠d)(b:F 5≠d)(s:Same (del Z d) Z')(w:DW Z' d):TB H0 Z' d F k :=
 have t:=h.dw.tups s
 ⟨h.ro.del (.inl rfl) s,w,h.e4.mv (λ_ e=>DP.to s e a) λ_ g=>g.tups t,h.e5.mv (λ_ e=>DP.to s e b) λ_ g=>g.tups t⟩
def TB.same(h:TB H0 Z d F k)(s:Same Z Z'):TB H0 Z' d F k :=
 ⟨h.ro.same s,h.dw.same s,h.e4.mv (λ_ e=>s _ _ e) λ_ g=>g.tups s.tups,h.e5.mv (λ_ e=>s _ _ e) λ_ g=>g.tups s.tups⟩
def TB.next(h:TB H0 Z d F k):TB H0 Z d F (k+1):=⟨h.ro,h.dw,h.e4.le (wg _),h.e5.le (wg _)⟩
def TB.out(h:TB H0 Z d F k)(e:H0 b=some o)(c:b≠d)(a:b≠F 4)(f:b≠F 5):Z b=some o:=h.ro b o e λz=>by
 rcases z with z|z|z
 ·exact c z
 ·exact a z
 ·exact f z
def FLs.ap(h:∀x∈xs,P Z x)(l:xs.length≤k)(b:P Z v)(p:∀x,P Z x->P (upd Z a (.lst (xs++[v]))) x):FLs P (upd Z a (.lst (xs++[v]))) a (k+1):=⟨_,xAab,xAbg (λx c=>p x (h x c)) (p v b),by rw[qe];exact j7 l⟩
end
def ext5{α:Type}(f:Nat->α)(n:Nat)(r:α):Nat->α:=λi=>if i=n then r else f i
def xAwk{α:Type}{f:Nat->α}{n:Nat}{r:α}{i:Nat}(h:i<n):ext5 f n r i=f i:=qB (by omega)
def xAwl{α:Type}{f:Nat->α}{n:Nat}{r:α}:ext5 f n r n=r:=qF rfl
structure UB(H0 Z:Hp)(d:Addr)(F:Nat->Addr)(X A B:Int)(L:Nat->Ln)(l c:Nat)(ls:List V):Prop where
 ro:Rest H0 Z (λb=>b=d\/b=F 6\/b=F 7)
 dw:DW Z d
 e6:Z (F 6)=some (.lst ls)
 al:AN (LNT L Z) ls (List.range l)
 wl:WL L l
 nb:∀i,i<l->(L i).bh=none
 nk:∀i,i<l->∃z,(L i).nk=[.inr "bo",.inl z]/\z<X
 lk:∀i,i<l->Lt2 (L i).ka (L i).kb A B
 e7:FLs CEW Z (F 7) c
section
variable {H0 Z Z':Hp}{d:Addr}{F:Nat->Addr}{X A B X' A' B':Int}{L:Nat->Ln}{l c:Nat}{ls:List V}
def UB.to(h:UB H0 Z d F X A B L l c ls)(r:Rest H0 Z' (λb=>b=d\/b=F 6\/b=F 7))(t:Tups Z Z')(w:DW Z' d)(a:Z' (F 6)=some (.lst ls))(b:∀xs,Z (F 7)=some (.lst xs)->Z' (F 7)=some (.lst xs)):UB H0 Z' d F X A B L l c ls :=
 ⟨r,w,a,h.al.imp λv i g=>g.tups t,h.wl,h.nb,h.nk,h.lk,h.e7.mv b λ_ g=>g.tups t⟩
def UB.draw(h:UB H0 Z d F X A B L l c ls)(a:F 6≠d)(b:F 7≠d)(s:Same (del Z d) Z')(w:DW Z' d):UB H0 Z' d F X A B L l c ls :=
 h.to (h.ro.del (.inl rfl) s) (h.dw.tups s) w (DP.to s h.e6 a) λ_ e=>DP.to s e b
def UB.same(h:UB H0 Z d F X A B L l c ls)(s:Same Z Z'):UB H0 Z' d F X A B L l c ls :=
 h.to (h.ro.same s) s.tups (h.dw.same s) (s _ _ h.e6) λ_ e=>s _ _ e
def UB.own(h:UB H0 Z d F X A B L l c ls)(e:Z q=some (.lst us))(f:H0 q=none)(i:q≠d)(a:q≠F 6)(g:q≠F 7):UB H0 (upd Z q o) d F X A B L l c ls :=
 h.to (λb o e n=>by rw[xAae (λz=>by rw[z,f]at e;cases e)];exact h.ro b o e n) (Tups.wl e) (h.dw.wr i.symm) (by rw[xAae a.symm];exact h.e6) λ_ e=>by rw[xAae g.symm];exact e
def UB.up(h:UB H0 Z d F X A B L l c ls)(j:X≤X')(g:∀a b,Lt2 a b A B->Lt2 a b A' B')(f:c≤e):UB H0 Z d F X' A' B' L l e ls :=
 ⟨h.ro,h.dw,h.e6,h.al,h.wl,h.nb,λi hi=>let⟨z,a,b⟩:=h.nk i hi;⟨z,a,by omega⟩,λi hi=>g _ _ (h.lk i hi),h.e7.le f⟩
def UB.out(h:UB H0 Z d F X A B L l c ls)(e:H0 b=some o)(g:b≠d)(a:b≠F 6)(f:b≠F 7):Z b=some o:=h.ro b o e λz=>by
 rcases z with z|z|z
 ·exact g z
 ·exact a z
 ·exact f z
def UB.free(h:UB H0 Z d F X A B L l c ls)(e:Z b=none):H0 b=none/\b≠d/\b≠F 6/\b≠F 7:=by
 have a1:b≠d:=h.dw.ne e
 have a2:b≠F 6:=λy=>by rw[y,h.e6]at e;cases e
 have a:b≠F 7:=λy=>by obtain⟨_,q,_⟩:=h.e7;rw[y,q]at e;cases e
 refine⟨?_,a1,a2,a⟩
 cases z:H0 b with
 |none=>rfl
 |some o=>rw[h.out z a1 a2 a]at e;cases e
def UB.line(h:UB H0 Z d F X A B L l c ls)(H:F 6≠d)(s:F 6≠F 7)(I:l<1000)(E:LNT (λ_=>r) Z v l)(nk:r.nk=[.inr "bo",.inl X])(bh:r.bh=none)(C:r.ka=A)(x:r.kb=B)(G:Lay r.pt)(D:X<X')(w:Lt2 A B A' B') :
  UB H0 (upd Z (F 6) (.lst (ls++[v]))) d F X' A' B' (ext5 L l r) (l+1) c (ls++[v]):=by
 have t:Tups Z (upd Z (F 6) (.lst (ls++[v]))):=Tups.wl h.e6;have lt:∀i,i<l->ext5 L l r i=L i:=λi hi=>xAwk hi;have f:ext5 L l r l=r:=xAwl
 have k:∀{P:Nat->Prop},(∀i,i<l->P i)->P l->∀i,i<l+1->P i:=λh1 h2 i hi=>by
  by_cases z:i=l
  ·rw[z];exact h2
  ·exact h1 i (by omega)
 have u:∀i,i<l->(L i).nk≠r.nk:=λi hi z=>by
  obtain⟨y,e,g⟩:=h.nk i hi;rw[e,nk]at z;injection z with _ z;injection z with z _;injection z with z;omega
 refine⟨h.ro.wr (.inr (.inl rfl)),h.dw.wr H.symm,xAab,?_,⟨by omega,λi j a b=>?_,λi hi j J e=>?_,λi hi j e=>?_,?_⟩,?_,?_,?_,h.e7.mv (λ_ e=>by rw[xAae s.symm];exact e) λ_ g=>g.tups t⟩
 ·rw[jd]
  refine AN.snoc (xApx h.al λv i hi g=>?_) ?_
  ·have hi:=qw.mp hi
   obtain⟨b,o,vn,q,kq,e,h1,h2,n,m,p⟩:=LNT.tups g t;refine⟨b,o,vn,q,kq,e,by rw[lt i hi];exact h1,by rw[lt i hi];exact h2,by unfold NM nkL at n ⊢;rw[lt i hi];exact n,?_,by rw[lt i hi];exact p⟩;unfold bhL at m ⊢;rw[h.nb i hi]at m;rw[lt i hi,h.nb i hi];exact m
  ·obtain⟨b,o,vn,q,kq,e,h1,h2,n,m,p⟩:=LNT.tups E t
   refine⟨b,o,vn,q,kq,e,by rw[f];exact h1,by rw[f];exact h2,by unfold NM nkL at n ⊢;rw[f];exact n,?_,by rw[f];exact p⟩;unfold bhL at m ⊢;rw[bh]at m;rw[f,bh];exact m
 ·by_cases z:j=l
  ·rw[z,f,lt i (by omega),C,x];exact h.lk i (by omega)
  ·rw[lt i (by omega),lt j (by omega)];exact h.wl.up i j a (by omega)
 ·by_cases z:i=l
  ·by_cases y:j=l
   ·rw[z,y]
   ·rw[z,f,lt j (by omega)]at e;exact absurd e.symm (u j (by omega))
  ·by_cases y:j=l
   ·rw[y,f,lt i (by omega)]at e;exact absurd e (u i (by omega))
   ·rw[lt i (by omega),lt j (by omega)]at e;exact h.wl.inj i (by omega) j (by omega) e
 ·by_cases z:i=l
  ·rw[z,f,bh]at e;cases e
  ·rw[lt i (by omega),h.nb i (by omega)]at e;cases e
 ·refine k (λi hi=>by rw[lt i hi];exact h.wl.lay i hi) ?_
  rw[f,nk];exact⟨by show(PyData.strOk "bo"&&(true&&true))=true;decide +kernel,G⟩
 ·exact k (λi hi=>by rw[lt i hi];exact h.nb i hi) (by rw[f];exact bh)
 ·exact k (λi hi=>by rw[lt i hi];exact let⟨z,a,b⟩:=h.nk i hi;⟨z,a,by omega⟩) (by rw[f];exact⟨X,nk,D⟩)
 ·exact k (λi hi=>by rw[lt i hi];exact lt2_tr (h.lk i hi) w) (by rw[f,C,x];exact w)
def UB.cell(h:UB H0 Z d F X A B L l c ls)(k:F 7≠d)(a:F 6≠F 7)(e:Z (F 7)=some (.lst cs))(f:∀x∈cs,CEW Z x)(j:cs.length≤c)(b:CEW Z v):UB H0 (upd Z (F 7) (.lst (cs++[v]))) d F X A B L l (c+1) ls:=by
 have t:Tups Z (upd Z (F 7) (.lst (cs++[v]))):=Tups.wl e;exact⟨h.ro.wr (.inr (.inr rfl)),h.dw.wr k.symm,by rw[xAae a];exact h.e6,h.al.imp λv i g=>g.tups t,h.wl,h.nb,h.nk,h.lk,FLs.ap f j b λ_ g=>g.tups t⟩
end
structure RC(Z:Hp)(rq cq:Addr)(us vs:List V)(k:Nat):Prop where
 er:Z rq=some (.lst us)
 ec:Z cq=some (.lst vs)
 ru:∀u∈us,∃p,GK Z (.tup p) u/\Pn p
 cu:∀u∈vs,∃p,GK Z (.tup p) u/\Pn p
 lu:us.length≤k
 lv:vs.length≤k
section
variable {Z Z':Hp}{rq cq:Addr}{us vs:List V}{k:Nat}
def RC.to(h:RC Z rq cq us vs k)(t:Tups Z Z')(a:Z' rq=some (.lst us))(b:Z' cq=some (.lst vs)):RC Z' rq cq us vs k :=
 ⟨a,b,λu c=>let⟨p,g,n⟩:=h.ru u c;⟨p,g.tups t,n⟩,λu c=>let⟨p,g,n⟩:=h.cu u c;⟨p,g.tups t,n⟩,h.lu,h.lv⟩
def RC.same(h:RC Z rq cq us vs k)(s:Same Z Z'):RC Z' rq cq us vs k:=h.to s.tups (s _ _ h.er) (s _ _ h.ec)
def RC.draw(h:RC Z rq cq us vs k)(w:DW Z d)(b:rq≠d)(a:cq≠d)(s:Same (del Z d) Z'):RC Z' rq cq us vs k:=h.to (w.tups s) (DP.to s h.er b) (DP.to s h.ec a)
def RC.wr(h:RC Z rq cq us vs k)(e:Z q=some (.lst xs))(b:rq≠q)(a:cq≠q):RC (upd Z q o) rq cq us vs k:=h.to (Tups.wl e) (by rw[xAae b];exact h.er) (by rw[xAae a];exact h.ec)
def RC.le(h:RC Z rq cq us vs k)(a:k≤b):RC Z rq cq us vs b:=⟨h.er,h.ec,h.ru,h.cu,qc h.lu a,qc h.lv a⟩
def RC.row(h:RC Z rq cq us vs k)(n:rq≠cq)(g:GK Z (.tup p) v)(pn:Pn p):RC (upd Z rq (.lst (us++[v]))) rq cq (us++[v]) vs (k+1):=by
 have t:Tups Z (upd Z rq (.lst (us++[v]))):=Tups.wl h.er;have b:=h.lu;refine⟨xAab,by rw[xAae n.symm];exact h.ec,λu a=>?_,λu a=>let⟨p,g,n⟩:=h.cu u a;⟨p,g.tups t,n⟩,by rw[qe,qo];omega,Nat.le_succ_of_le h.lv⟩;rcases zd.mp a with z|z
 ·obtain⟨p,g,n⟩:=h.ru u z
  exact⟨p,g.tups t,n⟩
 ·rw[qt.mp z];exact⟨p,g.tups t,pn⟩
def RC.turn(h:RC Z rq cq us vs k):RC Z cq rq vs us k:=⟨h.ec,h.er,h.cu,h.ru,h.lv,h.lu⟩
def xAmy(h:∀u∈us,∃p,GK Z (.tup p) u/\Pn p):∃ps:List (List Key),us.length=ps.length/\DTs Z us (ps.map tD)/\PyData.canLayAll0 (ps.map tD)=true:=by
 obtain⟨ps,h1,h2⟩:=xAcy (P:=λu p=>GK Z (.tup p) u/\Pn p) h;have a:AL (λu p=>GK Z (.tup p) u/\Pn p) us ps:=⟨h1.symm,h2⟩;exact⟨ps,h1.symm,AL.dts (λv p g=>gk_td g.1) a,(xAge λk b=>by obtain⟨_,_,_,h⟩:=a.mem' b;exact h).1⟩
end
def KN.data(h:KN H kn):∀n,n≤kn.length->∃ps:List (List Key),ps.length=n/\∀(i:Nat) p,ps[i]?=some p->∃v w,kn[i]?=some v/\p=[.inr w,.inl (i:Int)]/\GK H (.tup p) v/\Pn p
 | 0,_=>⟨[],O,(λi p z=>nomatch z)⟩
 |n+1,hn=>by
  obtain⟨ps,a,b⟩:=KN.data h n (by omega);have e:=qg (show n<kn.length by omega);obtain⟨w,g,pn⟩:=h n _ e;refine⟨ps++[[.inr w,.inl (n:Int)]],by rw[qe,a];rfl,λi p z=>?_⟩
  by_cases hi:i<n
  ·rw[wc (by omega)]at z
   exact b i p z
  ·have:i=n:=by
    have:=(qm.mp z).1;rw[qe,a]at this;have:i<n+1:=this;omega
   subst this;rw[yn (by omega),a,j6]at z;cases z;exact⟨_,w,e,O,g,pn⟩
def KN.idx(h:KN H kn)(e:kn[j]?=some v):∃p ds,GK H (.tup p) v/\Pn p/\DV H v (tD p)/\DVs H kn ds/\(tD p).canLay0=true/\PyData.canLayAll0 ds=true/\(tD p).depth≤61/\(∃d,ds[j]?=some d/\PyData.eqv d (tD p)=true)/\∀(m:Nat) d,m<j->ds[m]?=some d->PyData.eqv d (tD p)=false:=by
 obtain⟨ps,r,c⟩:=h.data kn.length (qb _);have A:=(qm.mp e).1;have b:ps[j]?=some (ps[j]'(by omega)):=qg (by omega);obtain⟨t,w,l,ep,g,pn⟩:=c j _ b;rw[e]at l;cases l;generalize ps[j]'(by omega)=p at b ep g pn;subst ep
 have f:AL (λu p=>GK H (.tup p) u/\Pn p) kn ps:=⟨r.symm,λm u q a n=>by
  obtain⟨s,_,i,_,g,pn⟩:=c m q n;rw[a]at i;cases i
  exact⟨g,pn⟩⟩
 refine⟨_,ps.map tD,g,pn,(gk_td g).dv,(AL.dts (λv p g=>gk_td g.1) f).dv,pn.lay,(xAge λk o=>by obtain⟨_,_,_,h⟩:=f.mem' o;exact h).1,yt rfl,⟨_,by rw[qv,b];rfl,by rw[xAgc];exact qI rfl⟩,λm d x a=>?_⟩;rw[qv]at a
 cases z:ps[m]? with
 |none=>rw[z]at a;cases a
 |some q =>
  rw[z]at a;cases a;obtain⟨_,B,_,eq,_,_⟩:=c m q z;rw[xAgc,eq];refine decide_eq_false λy=>?_;injection y with _ y;injection y with y _;injection y with y;omega
def cut3{xs:List V}{j:Nat}{v:V}(e:(cutV xs none (some 3))[j]?=some v):xs[j]?=some v:=by
 unfold cutV at e;rw[show HT.sIx xs.length 0 none=0 from rfl,List.drop_zero]at e;rw[List.getElem?_take]at e
 split at e
 ·exact e
 ·cases e
def xArz:FnScope N_fAs ["births","part"] (defScope s_fAs):=⟨O,O,O,by decide +kernel,O,by decide +kernel,by decide +kernel⟩
def sc_fAl:FnScope N_fAl ["leave"] (defScope s_fAl):=⟨O,O,O,by decide +kernel,O,by decide +kernel,by decide +kernel⟩
def sc_fAn:FnScope N_fAn ["place"] (defScope s_fAn):=⟨O,O,O,by decide +kernel,O,by decide +kernel,by decide +kernel⟩
def sc_fBl:FnScope N_fBl ["facts","part"] (defScope s_fBl):=⟨O,O,O,by decide +kernel,O,by decide +kernel,by decide +kernel⟩
def sc_fAh:FnScope N_fAh ["seats","side"] (defScope s_fAh):=⟨O,O,O,by decide +kernel,O,by decide +kernel,by decide +kernel⟩
def sc_fBr:FnScope N_fBr ["row"] (defScope s_fBr):=⟨O,O,O,by decide +kernel,O,by decide +kernel,by decide +kernel⟩
def sc_fAv:FnScope N_fAv ["mark"] (defScope s_fAv):=⟨O,O,O,by decide +kernel,O,by decide +kernel,by decide +kernel⟩
def sc_fAu:FnScope N_fAu ["note"] (defScope s_fAu):=⟨O,O,O,by decide +kernel,O,by decide +kernel,by decide +kernel⟩
def xAow:FnScope N_fAb ["facts"] (defScope s_fAb):=⟨O,O,O,by decide +kernel,O,by decide +kernel,by decide +kernel⟩
def xAox:FnScope N_fBu ["outer_of","part","ended"] (defScope s_fBu):=⟨O,O,O,by decide +kernel,O,by decide +kernel,by decide +kernel⟩
def sc_fAt:FnScope N_fAt ["cell"] (defScope s_fAt):=⟨O,O,O,by decide +kernel,O,by decide +kernel,by decide +kernel⟩
def sc_fAj:FnScope N_fAj ["number","place"] (defScope s_fAj):=⟨O,O,O,by decide +kernel,O,by decide +kernel,by decide +kernel⟩
def sc_fAo:FnScope N_fAo ["numbers","sign"] (defScope s_fAo):=⟨O,O,O,by decide +kernel,O,by decide +kernel,by decide +kernel⟩
def sc_fAk:FnScope N_fAk ["_law_script","_law_k"] (defScope s_fAk):=⟨O,O,O,by decide +kernel,O,by decide +kernel,by decide +kernel⟩
def sc_fBa:FnScope N_fBa ["_law_cell","_law_digits"] (defScope s_fBa):=⟨O,O,O,by decide +kernel,O,by decide +kernel,by decide +kernel⟩
def xAwm:FnScope N_fBj ["_law_drawn_here","_law_many"] (defScope s_fBj):=⟨O,O,O,by decide +kernel,O,by decide +kernel,by decide +kernel⟩
def sc_fBh:FnScope N_fBh ["_law_sign_here","_law_numbers"] (defScope s_fBh):=⟨O,O,O,by decide +kernel,O,by decide +kernel,by decide +kernel⟩
def xAwn:FnScope N_fBw ["seats","begin","end"] (defScope s_fBw):=⟨O,O,O,by decide +kernel,O,by decide +kernel,by decide +kernel⟩
def xAju:FnScope N_fAg ["outer_of"] (defScope s_fAg):=⟨O,O,O,by decide +kernel,O,by decide +kernel,by decide +kernel⟩
def xAda:FnScope N_fAz ["_law_drawn_here","_law_facts_here","_law_roll"] (defScope s_fAz):=⟨O,O,O,by decide +kernel,O,by decide +kernel,by decide +kernel⟩
def xAwo:FnScope N_fBk ["_law_drawn_here","_law_known"] (defScope s_fBk):=⟨O,O,O,by decide +kernel,O,by decide +kernel,by decide +kernel⟩
def sc_fBe:FnScope N_fBe ["_law_drawn_here","_law_names"] (defScope s_fBe):=⟨O,O,O,by decide +kernel,O,by decide +kernel,by decide +kernel⟩
def xAdb:FnScope N_fAp ["_law_drawn_here","_law_facts_here","_law_roll","_law_known"] (defScope s_fAp):=⟨O,O,O,by decide +kernel,O,by decide +kernel,by decide +kernel⟩
def xAmz:FnScope N_fAq ["_law_drawn_here","_law_facts_here","_law_roll","_law_known"] (defScope s_fAq):=⟨O,O,O,by decide +kernel,O,by decide +kernel,by decide +kernel⟩
def xAfg:FnScope N_fBc ["_law_facts_here","_law_found"] (defScope s_fBc):=⟨O,O,O,by decide +kernel,O,by decide +kernel,by decide +kernel⟩
def xAsa:FnScope N_fAr ["leaves","hand","to"] (defScope s_fAr):=⟨O,O,O,by decide +kernel,O,by decide +kernel,by decide +kernel⟩
def xAsb:FnScope N_fAm ["places"] (defScope s_fAm):=⟨O,O,O,by decide +kernel,O,by decide +kernel,by decide +kernel⟩
def xAjv:FnScope N_fAd ["facts","part","row"] (defScope s_fAd):=⟨O,O,O,by decide +kernel,O,by decide +kernel,by decide +kernel⟩
def sc_fAf:FnScope N_fAf ["telling","parts"] (defScope s_fAf):=⟨O,O,O,by decide +kernel,O,by decide +kernel,by decide +kernel⟩
def xAoy:FnScope N_fAw ["facts","stands"] (defScope s_fAw):=⟨O,O,O,by decide +kernel,O,by decide +kernel,by decide +kernel⟩
def xAwp:FnScope N_fAx ["facts","part"] (defScope s_fAx):=⟨O,O,O,by decide +kernel,O,by decide +kernel,by decide +kernel⟩
def xAgj:FnScope N_fAy ["_law_drawn_here","_law_facts_here","_law_roll","_law_known"] (defScope s_fAy):=⟨O,O,O,by decide +kernel,O,by decide +kernel,by decide +kernel⟩
def xAfh:FnScope N_fAe ["_law_drawn_here","_law_facts_here","_law_roll","_law_names"] (defScope s_fAe):=⟨O,O,O,by decide +kernel,O,by decide +kernel,by decide +kernel⟩
def xAsc:FnScope N_fBx ["leaves","chain","hand","to"] (defScope s_fBx):=⟨O,O,O,by decide +kernel,O,by decide +kernel,by decide +kernel⟩
def xAna:FnScope N_fBv ["places"] (defScope s_fBv):=⟨O,O,O,by decide +kernel,O,by decide +kernel,by decide +kernel⟩
def xAhi:FnScope N_fBg ["telling"] (defScope s_fBg):=⟨O,O,O,by decide +kernel,O,by decide +kernel,by decide +kernel⟩
def xAjw:FnScope N_fBb ["_law_script","_law_roll"] (defScope s_fBb):=⟨O,O,O,by decide +kernel,O,by decide +kernel,by decide +kernel⟩
def xAwq:FnScope N_fBf ["roll","births","leaves","hand","part","to"] (defScope s_fBf):=⟨O,O,O,by decide +kernel,O,by decide +kernel,by decide +kernel⟩
def sc_fBz:FnScope N_fBz ["facts","part"] (defScope s_fBz):=⟨O,O,O,by decide +kernel,O,by decide +kernel,by decide +kernel⟩
def xAnb:FnScope N_fBq ["telling"] (defScope s_fBq):=⟨O,O,O,by decide +kernel,O,by decide +kernel,by decide +kernel⟩
def xAsd:FnScope N_fBn ["facts","part","way"] (defScope s_fBn):=⟨O,O,O,by decide +kernel,O,by decide +kernel,by decide +kernel⟩
def xAwr:FnScope N_fBy ["facts","part"] (defScope s_fBy):=⟨O,O,O,by decide +kernel,O,by decide +kernel,by decide +kernel⟩
def xAse:FnScope N_fBd ["facts"] (defScope s_fBd):=⟨O,O,O,by decide +kernel,O,by decide +kernel,by decide +kernel⟩
def xAjx:FnScope N_fBm ["facts","part"] (defScope s_fBm):=⟨O,O,O,by decide +kernel,O,by decide +kernel,by decide +kernel⟩
def sc_fBt:FnScope N_fBt ["facts","roll","hand","part"] (defScope s_fBt):=⟨O,O,O,by decide +kernel,O,by decide +kernel,by decide +kernel⟩
def xAhj:FnScope N_fAi ["facts","part","place"] (defScope s_fAi):=⟨O,O,O,by decide +kernel,O,by decide +kernel,by decide +kernel⟩
def xAhk:FnScope N_fBs ["facts","part"] (defScope s_fBs):=⟨O,O,O,by decide +kernel,O,by decide +kernel,by decide +kernel⟩
def xAjy:FnScope N_fAa ["facts"] (defScope s_fAa):=⟨O,O,O,by decide +kernel,O,by decide +kernel,by decide +kernel⟩
def sc_fBo:FnScope N_fBo ["facts","part"] (defScope s_fBo):=⟨O,O,O,by decide +kernel,O,by decide +kernel,by decide +kernel⟩
def xAhl:FnScope N_fAc ["facts","roll","hand"] (defScope s_fAc):=⟨O,O,O,by decide +kernel,O,by decide +kernel,by decide +kernel⟩
def xAsf:FnScope N_fBi ["facts","part","numbers"] (defScope s_fBi):=⟨O,O,O,by decide +kernel,O,by decide +kernel,by decide +kernel⟩
def sc_fCa:FnScope N_fCa ["facts","numbers","part","is_open"] (defScope s_fCa):=⟨O,O,O,by decide +kernel,O,by decide +kernel,by decide +kernel⟩
def xAsg:FnScope N_fBp ["facts","roll","hand"] (defScope s_fBp):=⟨O,O,O,by decide +kernel,O,by decide +kernel,by decide +kernel⟩
def xAoz:FnScope N_fCb ["_law_script"] (defScope s_fCb):=⟨O,O,O,by decide +kernel,O,by decide +kernel,by decide +kernel⟩
section
variable (P:Program)(w:World)(K:PySem.W.Frag)(mg:Str->Option Value)(base:Heap)
abbrev O_fAs:Prop:=FnB P w K mg base 1 "birth_chain" ["births","part"] sp_fAs
abbrev O_fAl:Prop:=FnB P w K mg base 1 "key_of_leave" ["leave"] sp_fAl
abbrev O_fAn:Prop:=FnB P w K mg base 1 "key_of_place" ["place"] sp_fAn
abbrev O_fBl:Prop:=FnB P w K mg base 1 "signs_in" ["facts","part"] sp_fBl
abbrev O_fAh:Prop:=FnB P w K mg base 1 "place_of_side" ["seats","side"] sp_fAh
abbrev O_fBr:Prop:=FnB P w K mg base 1 "seats_in" ["row"] sp_fBr
abbrev O_fAv:Prop:=FnB P w K mg base 1 "key_of_mark" ["mark"] sp_fAv
abbrev O_fAu:Prop:=FnB P w K mg base 1 "key_of_note" ["note"] sp_fAu
abbrev O_fAb:Prop:=FnB P w K mg base 1 "telling_places" ["facts"] sp_fAb
abbrev O_fBu:Prop:=FnB P w K mg base 1 "way_out" ["outer_of","part","ended"] sp_fBu
abbrev O_fAt:Prop:=FnB P w K mg base 1 "key_of_cell" ["cell"] sp_fAt
abbrev O_fAj:Prop:=FnB P w K mg base 1 "inner_number" ["number","place"] sp_fAj
abbrev O_fAo:Prop:=FnB P w K mg base 1 "text_of_sign" ["numbers","sign"] sp_fAo
abbrev O_fAk:Prop:=FnB P w K mg base 1 "_law_cell_at" ["_law_script","_law_k"] sp5_law_cell_at
abbrev O_fBa:Prop:=FnB P w K mg base 1 "_law_drawn" ["_law_cell","_law_digits"] sp5_law_drawn
abbrev O_fBj:Prop:=FnB P w K mg base 1 "_law_draw" ["_law_drawn_here","_law_many"] sp5_law_draw
abbrev O_fBh:Prop:=FnB P w K mg base 1 "_law_text" ["_law_sign_here","_law_numbers"] sp5_law_text
abbrev O_fBw:Prop:=FnB P w K mg base 2 "stretch" ["seats","begin","end"] sp_fBw
abbrev O_fAg:Prop:=FnB P w K mg base 2 "reaching_main" ["outer_of"] sp_fAg
abbrev O_fAz:Prop:=FnB P w K mg base 2 "_law_parts" ["_law_drawn_here","_law_facts_here","_law_roll"] sp5_law_parts
abbrev O_fBk:Prop:=FnB P w K mg base 2 "_law_sign" ["_law_drawn_here","_law_known"] sp5_law_sign
abbrev O_fBe:Prop:=FnB P w K mg base 2 "_law_side" ["_law_drawn_here","_law_names"] sp5_law_side
abbrev O_fAp:Prop:=FnB P w K mg base 2 "_law_tables" ["_law_drawn_here","_law_facts_here","_law_roll","_law_known"] sp5_law_tables
abbrev O_fAq:Prop:=FnB P w K mg base 2 "_law_leaves" ["_law_drawn_here","_law_facts_here","_law_roll","_law_known"] sp5_law_leaves
abbrev O_fBc:Prop:=FnB P w K mg base 2 "_law_right" ["_law_facts_here","_law_found"] sp5_law_right
abbrev O_fAr:Prop:=FnB P w K mg base 3 "told_leaves" ["leaves","hand","to"] sp_fAr
abbrev O_fAm:Prop:=FnB P w K mg base 3 "followers_of" ["places"] sp_fAm
abbrev O_fAd:Prop:=FnB P w K mg base 3 "telling_in_row" ["facts","part","row"] sp_fAd
abbrev O_fAf:Prop:=FnB P w K mg base 3 "greatest_place" ["telling","parts"] sp_fAf
abbrev O_fAw:Prop:=FnB P w K mg base 3 "shown_among" ["facts","stands"] sp_fAw
abbrev O_fAx:Prop:=FnB P w K mg base 3 "words_told" ["facts","part"] sp_fAx
abbrev O_fAy:Prop:=FnB P w K mg base 3 "_law_signs" ["_law_drawn_here","_law_facts_here","_law_roll","_law_known"] sp5_law_signs
abbrev O_fAe:Prop:=FnB P w K mg base 3 "_law_stretches" ["_law_drawn_here","_law_facts_here","_law_roll","_law_names"] sp5_law_stretches
abbrev O_fBx:Prop:=FnB P w K mg base 4 "is_let" ["leaves","chain","hand","to"] sp_fBx
abbrev O_fBv:Prop:=FnB P w K mg base 4 "ordered" ["places"] sp_fBv
abbrev O_fBg:Prop:=FnB P w K mg base 4 "turned_in" ["telling"] sp_fBg
abbrev O_fBb:Prop:=FnB P w K mg base 4 "_law_facts" ["_law_script","_law_roll"] sp5_law_facts
abbrev O_fBf:Prop:=FnB P w K mg base 5 "has_leave" ["roll","births","leaves","hand","part","to"] sp_fBf
abbrev O_fBz:Prop:=FnB P w K mg base 5 "row_of" ["facts","part"] sp_fBz
abbrev O_fBq:Prop:=FnB P w K mg base 5 "stood_in" ["telling"] sp_fBq
abbrev O_fBn:Prop:=FnB P w K mg base 5 "lines_of" ["facts","part","way"] sp_fBn
abbrev O_fBy:Prop:=FnB P w K mg base 6 "living" ["facts","part"] sp_fBy
abbrev O_fBd:Prop:=FnB P w K mg base 6 "stands_in" ["facts"] sp_fBd
abbrev O_fBm:Prop:=FnB P w K mg base 6 "table_of" ["facts","part"] sp_fBm
abbrev O_fBt:Prop:=FnB P w K mg base 6 "may_read" ["facts","roll","hand","part"] sp_fBt
abbrev O_fAi:Prop:=FnB P w K mg base 7 "told_of_signs" ["facts","part","place"] sp_fAi
abbrev O_fBs:Prop:=FnB P w K mg base 7 "notes_of" ["facts","part"] sp_fBs
abbrev O_fAa:Prop:=FnB P w K mg base 7 "all_inner_parts" ["facts"] sp_fAa
abbrev O_fBo:Prop:=FnB P w K mg base 8 "marks_of" ["facts","part"] sp_fBo
abbrev O_fAc:Prop:=FnB P w K mg base 8 "numbered_parts" ["facts","roll","hand"] sp_fAc
abbrev O_fBi:Prop:=FnB P w K mg base 9 "shown_row" ["facts","part","numbers"] sp_fBi
abbrev O_fCa:Prop:=FnB P w K mg base 10 "entry" ["facts","numbers","part","is_open"] sp_fCa
abbrev O_fBp:Prop:=FnB P w K mg base 11 "document" ["facts","roll","hand"] sp_fBp
end
section
variable {P:Program}{w:World}{K:PySem.W.Frag}{mg:Str->Option Value}{base:Heap}{tk:Str->Tok}
def ok_fAs(T:Txt K mg tk)(F:FO K mg "birth_chain" s_fAs):O_fAs P w K mg base:=by
 refine mk_ok F xArz (λ_ _ _ _ _ _ u l=>match u,l with|[_,_],_=>rfl) (λ_ _ _ _ h=>xAuy h) λfa cdv A outer s H vs Q E i h=>?_
 refine⟨_,(xAaa (sn xArz.nd 2 (cy (xAar i.hd (hu4 i)) T.b_dict boot_dict (a1 (vv 0))))
   (xAaa (sn xArz.nd 3 (xAal (a1 (vv 1))))
   (xAaa (xAeo PassesOwn.never (PW.pt (xAem (ck (xAjm (hu2 i)) (xi (vv 3) (pe_un xAdx xAaf)) (vv 2)) (xAcp (ck op_le (cb xAag T.b_len boot_len (a1 (vv 3))) (cb xAir T.b_len boot_len (a1 (vv 2))))))) (xAac (ap (vv 3) (a1 (xAap (hu2 i) (vv 2) (xi (vv 3) (pe_un xAdx xAaf)) (λ_ _=>rfl))))))
   (xAac (xAak (vv 3)))))),?_⟩
 obtain⟨p,v,ys,rfl,Y,Z,few,M,L⟩:=h
 obtain⟨es,N,k2,k3⟩:=xAdd (H:=H) (P:=λ_ v=>NPn H v) (ys:=ys) λy R=>by
  obtain⟨b,vn,t,x,U,e,h1,h2,_,h4,h5⟩:=Z y R;exact⟨b,_,vn,t,e,h1,h2,U,h4,h5⟩
 refine⟨_,O,p,ys,es,O,Y,N,by omega,λdq H1 g1 I o=>?_⟩
 have dv:∀k u,vG (putAll [] es) k=some u->NPn H u:=λk u e=>by
  rcases pa_in es [] e with z|⟨e',he,_,rfl⟩
  ·cases z
  ·exact k3 e' he
 have dl:(putAll [] es).length≤100:=by
  have:=xAbr es [];rw[k2]at this
  simp at this
  omega
 generalize putAll [] es=kvs at o dv dl;refine⟨_,O,szOk rfl,λc H2 D s2 e2=>?_⟩;have g:=I.trans s2;have C:dq≠c:=xAad o D;have r:H c=none:=I.free D;refine⟨λm σ f=>∃cv,σ=[some (.ref p),some v,some (.ref dq),some (.ref c)]/\Same H f/\f dq=some (.dG kvs)/\f c=some (.lst cv)/\(∀x∈cv,NPn f x)/\0<cv.length/\cv.length+m=kvs.length+1,⟨kvs.length,[v],O,g,s2 _ _ o,e2,λx W=>by rw[qt.mp W];exact M.tups g.tups,Nat.zero_lt_one,Nat.add_comm _ _⟩,?_⟩;rintro m σ f ⟨cv,rfl,n,j,d,pn,h0,hm⟩
 obtain⟨us,x,rfl⟩:∃us x,cv=us++[x]:=by
  rcases yo cv with z|⟨us,x,z⟩
  ·rw[z]at h0;cases h0
  ·exact⟨us,x,by simpa using z⟩
 have q:(us++[x]).length=us.length+1:=by rw[qe];rfl
 obtain⟨B,G,nx⟩:=pn x (by simp);refine⟨_,O,1,O,c,_,-1,x,O,O,SqL.of d,xAdc us x,_,O,dq,kvs,.tup B,O,.inl j,G,_,O,?_⟩
 cases J:vG kvs (.tup B) with
 |none =>
  refine itF (by rw[show(if false=true then !(none:Option V).isSome else(none:Option V).isSome)=false from rfl]) (itF rfl ?_);exact⟨_,O,L f c _ n r d pn⟩
 |some t =>
  refine itT (by rfl) ?_;refine⟨_,O,c,_,O,.inl (SqL.of d),_,O,dq,kvs,O,j,_,_,O,O,_,O,?_⟩
  by_cases hl:(us++[x]).length≤kvs.length
  ·refine itT (qI (by omega)) ?_
   refine⟨λσ' H'=>∃a,σ'=[some (.ref p),some v,some (.ref dq),some (.ref c)]/\Same H H'/\H' dq=some (.dG kvs)/\H' c=some (.lst a)/\(∀x∈a,NPn H' x)/\a.length=us.length+2,λσ' H' ⟨a,a1,a2,S,X,a5,a6⟩=>⟨m - 1,by omega,a,a1,a2,S,X,a5,by omega,by omega⟩,?_⟩;refine⟨_,O,.inl ⟨O,_,SqL.of d⟩,_,O,_,O,1,O,c,_,-1,x,O,O,SqL.of d,xAdc us x,dq,kvs,.tup B,t,O,.inl j,G,J,c,_,_,O,O,d,xAaj (by omega),?_⟩;refine⟨_,O,n.wr r,by rw[xAae C];exact j,xAab,λz hz=>?_,by rw[qe,q];rfl⟩;rcases zd.mp hz with hz|hz
   ·exact(pn z hz).tups (Tups.wl d)
   ·rw[qt.mp hz]
    exact((dv _ _ J).tups n.tups).tups (Tups.wl d)
  ·refine itF (decide_eq_false (by omega)) ?_
   exact⟨_,O,L f c _ n r d pn⟩
def ok_fAl(T:Txt K mg tk)(F:FO K mg "key_of_leave" s_fAl):O_fAl P w K mg base:=by
 refine mk_ok F sc_fAl (λ_ _ _ _ _ _ u l=>match u,l with|[_],_=>rfl) (λ_ _ _ _ h=>xAuz h) λfa d A outer s H vs Q E g h=>?_;refine⟨_,(xAac (xAak (xt (vv 0)))),?_⟩;obtain⟨v,a,rfl,⟨b,i,p,h,t,y,c,rfl,h1,_,_,f⟩,e⟩:=h;exact⟨_,O,b,_,4,_,O,O,SqT.of h1,O,e _ (.tup f (.cons (.int _) (.cons (.int _) .nil)))⟩
def ok_fAn(T:Txt K mg tk)(F:FO K mg "key_of_place" s_fAn):O_fAn P w K mg base:=by
 refine mk_ok F sc_fAn (λ_ _ _ _ _ _ u l=>match u,l with|[_],_=>rfl) (λ_ _ _ _ h=>xAun h) λfa d A outer s H vs Q E i h=>?_;refine⟨_,(xAac (xAak (xt (vv 0)))),?_⟩;obtain⟨v,nk,bh,D,k,rfl,f,e⟩:=h;obtain⟨b,vn,m,vk,rfl,c,g,j,a⟩:=f;exact⟨_,O,b,_,2,_,O,O,SqT.of c,O,e vk a⟩
def ok_fBl(T:Txt K mg tk)(F:FO K mg "signs_in" s_fBl):O_fBl P w K mg base:=by
 refine mk_ok F sc_fBl (λ_ _ _ _ _ _ u l=>match u,l with|[_,_],_=>rfl) (λ_ _ _ _ h=>xAuv h) λfa r A outer s H vs Q E G h=>?_;have q:(A.deeper (envOfC "signs_in" (defScope s_fBl) s.heap.objs.size fa r)).units+1<cLine:=hu_of G;refine⟨_,(xAac (xAak (lcd (defScope s_fBl) N_fBl [("part",1)] (il (xAat q (vv 0) xAai (λ_ _=>rfl))) (λ_ _ _=>(xAbv (ck (eqD G) (xt (vv 0)) (vc 1)))) (λ_ _ _=>(vv 0))))),?_⟩;obtain⟨fa,vp,pt,S,n,rfl,⟨f,B,vs,rd,d,e,I,W⟩,p,c,R⟩:=h
 have t:vs.length=n:=by rw[I.1,zk]
 have few:=W.few;refine⟨_,O,fa,.ref B,O,.inl ⟨f,.inr "signs",rd,O,d.symm⟩,B,O,⟨_,SqL.of e⟩,xAbd (xs:=vs) (big2 (by omega)) (λj ys H'=>H'=H/\AN (SN S H) ys (((List.range n).take j).filter (mineS S pt))) ⟨O,.nil⟩ (λ_ _ H' s'=>by rw[s'.1];exact SqL.of e) (λj x ys H' K1 U N s' M k0=>?_) λH1 D ys s' Y L=>?_⟩
 ·obtain⟨rfl,k⟩:=s'
  obtain⟨i,C,sn⟩:=I.at N;have o:i<n:=qw.mp (qh C);have y:=sn;obtain⟨b,X,vn,Z,kq,vg,rfl,h1,h2,h3,h4,h5,V⟩:=sn
  have tk:(List.range n).take (j+1)=(List.range n).take j++[i]:=by rw[zh,C];rfl
  refine⟨_,O,b,_,0,_,O,O,SqT.of h1,O,_,O,tD (S i).pt,tD pt,(gk_td h2).dv,(gk_td p).dv,(W.lay i o).2,c,qc (ye _ _) (qc (xAci _) (by decide)),_,O,?_⟩;have a:(if false=true then !PyData.eqv (tD (S i).pt) (tD pt) else PyData.eqv (tD (S i).pt) (tD pt))=decide ((S i).pt=pt):=xAgc _ _
  by_cases m:(S i).pt=pt
  ·refine itT (by rw[a];exact qI m) ?_
   refine⟨_,O,M _ _ ⟨O,?_⟩⟩;rw[tk];exact AN.pick (vs:=vs) k y (xAax.mpr m)
  ·refine itF (by rw[a];exact decide_eq_false m) ?_
   refine k0 _ ⟨O,?_⟩;rw[tk];exact k.skip λz=>m (xAax.mp z)
 obtain⟨rfl,k⟩:=s';rw[t,yr (by rw[zk];exact qb _)]at k;have J:Same H1 (upd H1 D (.lst ys)):=Same.new L;exact R _ D ys J L xAab (k.imp λv i g=>SN.tups g J.tups)
def ok_fAh(T:Txt K mg tk)(F:FO K mg "place_of_side" s_fAh):O_fAh P w K mg base:=by
 refine mk_ok F sc_fAh (λ_ _ _ _ _ _ u l=>match u,l with|[_,_],_=>rfl) (λ_ _ _ _ h=>xAvr h) λfa o A outer s H vs Q E g h=>?_
 refine⟨_,(xAei (ps_if (xAfw (PW.pt (pw_or (ck xAso (vv 1) xAcf) (xAqd (ck (xAdg (hu2 g)) (xt (vv 1)) (vv 0)))))) (xAac (xAak (cb xAir T.b_len boot_len (a1 (vv 0))))) xAan)
   (xAac (xAak (pe_op xAbc (xAap (hu2 g) (vv 0) (xt (vv 1)) (λ_ _=>rfl)) (xAdj (ck op_eq (xt (vv 1)) xAai) xAaf xAaf))))),?_⟩
 obtain⟨dq,kvs,v,m,rfl,c,n,⟨a,vn,w,k,rfl,d,j⟩,e⟩:=h;refine⟨λσ' H'=>σ'=[some (.ref dq),some (.ref a)]/\H'=H/\(vG kvs k).isSome=true,⟨λb H'=>H'=H/\(b=false->(vG kvs k).isSome=true),⟨_,O,O,_,O,itF rfl ⟨_,O,a,_,0,_,O,O,SqT.of d,O,_,O,dq,kvs,k,O,.inl c,j,_,O,O,λz=>by simpa using z⟩⟩,?_⟩,?_⟩
 ·rintro r H' ⟨rfl,q⟩
  exact itB (λ_=>⟨_,O,dq,kvs,O,c,e kvs.length n.few⟩) λz=>⟨O,O,q z⟩
 rintro σ' H' ⟨rfl,rfl,p⟩;obtain⟨v,f⟩:=zv.mp p;obtain⟨i,rfl,hi⟩:=n.val _ _ f;refine⟨_,O,_,O,a,_,0,_,O,O,SqT.of d,O,dq,kvs,k,_,O,.inl c,j,f,_,O,a,_,1,_,O,O,SqT.of d,O,O,_,O,?_⟩
 exact itB (λ_=>⟨_,_,O,O,e (i+1) (by omega)⟩) λ_=>⟨_,_,O,O,by show Q (V.int ((i:Int)+0)) _;rw[Int.add_zero];exact e i (by omega)⟩
def ok_fBr(T:Txt K mg tk)(F:FO K mg "seats_in" s_fBr):O_fBr P w K mg base:=by
 refine mk_ok F sc_fBr (λ_ _ _ _ _ _ u l=>match u,l with|[_],_=>rfl) (λ_ _ _ _ h=>xAvq h) λfa X A outer s H vs Q E D h=>?_;refine⟨_,(xAac (xAak (cy (xAar D.hd (hu4 D)) T.b_dict boot_dict (a1 (xAbi (own:=["seat","name"]) (fr:=[]) rfl (xAte (by rfl) T.b_enumerate (a1 (vv 0))) ⟨O,by decide +kernel,by decide +kernel⟩ (caps0 (by decide +kernel)) (λ_ _ _=>(xAen (n:=2) rfl (xAam (xAaq (i:=0) (by show List.Nodup (["seat","name"]:List Str);decide +kernel) rfl (Or.inl rfl)) (xAam (xAaq (i:=1) (by show List.Nodup (["seat","name"]:List Str);decide +kernel) rfl (Or.inl rfl)) xAch)))) (λ_=>xAbo rfl rfl (by decide)) (λ_ _ _=>xAbb) (λ_ _ _=>(xAah (a2 (vv 1) (vv 0))))))))),?_⟩;obtain⟨p,zs,ks,rfl,ep,t,hl,Y⟩:=h;refine⟨_,O,p,O,⟨_,SqL.of ep⟩,xAtg (xs:=zs) (big2 (by omega)) (λj us H'=>Same H H'/\∃es:List (KD×V×V),PrsV H' us es/\(∀e∈es,∃i:Nat,e.2.2=.int i/\i<zs.length)/\es.map (·.1)=(ks.take j).map KD.tup) ⟨Same.refl _,[],trivial,(λe z=>nomatch z),O⟩ (λ_ _ H' s'=>SqL.of (s'.1 _ _ ep)) (λj x us H' o K1 J y s' S N k0=>?_) λH1 C us s' hy Z=>?_⟩
 ·obtain⟨s',es,q,m,c⟩:=s'
  obtain⟨k,L,R⟩:=t.at y;have b:Same H' (upd H' o (.tup [.int j,x])):=Same.new S;refine⟨o,_,O,SqT.of xAab,O,_,_,O,_,_,O,O,iteT (B:=J _) ?_⟩;generalize upd H' o (.tup [.int j,x])=H2 at b;exact⟨_,O,_,O,szOk rfl,λW I G d r=>N _ _ ⟨(s'.trans b).trans d,es++[(.tup k,x,.int (j:Int))],PrsV.snoc (e:=(.tup k,x,.int (j:Int))) ⟨W,O,r,GK.tups R ((s'.trans b).trans d).tups⟩ (q.tups (b.trans d).tups),xAbg m ⟨j,O,(qm.mp y).1⟩,by rw[z7,c,zh,L,z7];rfl⟩⟩
 obtain⟨U,es,q,m,c⟩:=s';have b:Same H1 (upd H1 C (.lst us)):=Same.new Z;have g:=U.trans b;rw[t.1,zm]at c;have f:=congrArg List.length c;rw[qf,qf,←t.1]at f;refine⟨C,us,es,O,SqL.of xAab,q.tups b.tups,by omega,λdq I G d r=>Y I dq _ (g.trans d) (g.free G) r ⟨qc (xAbr es []) (by rw[f,zy];omega),λk v e=>?_⟩ λk M=>?_⟩
 ·rcases pa_in es [] e with z|⟨e',a,rfl,rfl⟩
  ·cases z
  ·exact m e' a
 ·obtain⟨e,a,h⟩:=qj.mp (c▸qj.mpr ⟨k,M,O⟩:KD.tup k∈es.map (·.1))
  exact xArt es [] (.inr ⟨e,a,h⟩)
def ok_fAv(T:Txt K mg tk)(F:FO K mg "key_of_mark" s_fAv):O_fAv P w K mg base:=by
 refine mk_ok F sc_fAv (λ_ _ _ _ _ _ u l=>match u,l with|[_],_=>rfl) (λ_ _ _ _ h=>xAvt h) λfa c A outer s H vs Q E f h=>?_;refine⟨_,(xAac (xAak (xt (vv 0)))),?_⟩;obtain⟨v,a,rfl,⟨b,g,p,k,j,kd,i,vn,kq,rfl,h1,_,_,_,_,_,e⟩,d⟩:=h;exact⟨_,O,b,_,6,_,O,O,SqT.of h1,O,d _ (.tup e (.cons (.int _) (.cons (.int _) .nil)))⟩
def ok_fAu(T:Txt K mg tk)(F:FO K mg "key_of_note" s_fAu):O_fAu P w K mg base:=by
 refine mk_ok F sc_fAu (λ_ _ _ _ _ _ u l=>match u,l with|[_],_=>rfl) (λ_ _ _ _ h=>xAvu h) λfa c A outer s H vs Q E f h=>?_;refine⟨_,(xAac (xAak (xt (vv 0)))),?_⟩;obtain⟨v,a,rfl,⟨b,g,p,j,i,k,vn,kq,rfl,h1,_,_,_,_,d⟩,e⟩:=h;exact⟨_,O,b,_,5,_,O,O,SqT.of h1,O,e _ (.tup d (.cons (.int _) (.cons (.int _) .nil)))⟩
def ok_fAb(T:Txt K mg tk)(F:FO K mg "telling_places" s_fAb):O_fAb P w K mg base:=by
 refine mk_ok F xAow (λ_ _ _ _ _ _ u l=>match u,l with|[_],_=>rfl) (λ_ _ _ _ h=>xAvd h) λfa y A outer s H vs Q E q h=>?_;have I:(A.deeper (envOfC "telling_places" (defScope s_fAb) s.heap.objs.size fa y)).units<cLine:=q.units0;have L:(A.deeper (envOfC "telling_places" (defScope s_fAb) s.heap.objs.size fa y)).units+1<cLine:=hu_of q
 refine⟨_,(xAaa (sn xAow.nd 1 xAcb)
   (xAaa (fo (il (xAat L (vv 0) xAai (λ_ _=>rfl))) (gn xAow.nd 2)
   (xAaa (sn xAow.nd 3 (xt (vv 2)))
   (xAac (ps_if (PW.pt (pw_or (ck (xAdg (hu2 q)) (vv 3) (vv 1)) (xAqd (ck (op_ltT I) (xt (xAap (hu2 q) (vv 1) (vv 3) (λ_ _=>rfl))) (xt (vv 2)))))) (xAac (xAbe (hu2 q) (vv 1) (vv 3) (vv 2) rfl)) xAan))))
   (xAac (xAak (vv 1))))),?_⟩
 obtain⟨fa,F,es,cs,ps,rfl,d,kk⟩:=h;have hl:=d.vl;intro dq H1 N J ed;refine⟨_,O,fa,.ref (F 1),O,.inl ⟨fkv F 9,.inr "places",Rd.same d.dk J,O,(xAbl F 1 (by decide)).symm⟩,?_⟩;refine⟨F 1,O,⟨_,SqL.of (J _ _ d.ev)⟩,xAas (xs:=es) (λj σ X=>∃kvs i C,σ=[some (.ref fa),some (.ref dq),i,C]/\Same H X/\X dq=some (.dG kvs)/\kvs.length≤j/\DG (TPl ps X) X kvs/\∀p∈ps.take j,(vG kvs (.tup p)).isSome=true) ⟨[],none,none,O,J,ed,Nat.le_refl _,.nil,λp z=>by simp at z⟩ (λj σ X _ ⟨_,_,_,_,s,_⟩=>SqL.of (s _ _ d.ev)) ?_ ?_⟩
 ·rintro j x σ X R ⟨kvs,i,C,rfl,r,c,kl,k,f⟩
  have hj:=(qm.mp R).1;obtain⟨p,S,px⟩:=d.pc.at R;have U:=px.tups r.tups;obtain⟨b,e,vo,vn,kq,x1,Y,rfl,h1,h2,h3,h4⟩:=id U;have m:=qh S
  have tk:ps.take (j+1)=ps.take j++[p]:=by rw[zh,S];rfl
  have t:Tups X (upd X dq (.dG (pG kvs (.tup p) e (.ref b)))):=Tups.wd c
  have n:∃a i C,[some (V.ref fa),some (.ref dq),some (.ref b),some e]=[some (.ref fa),some (.ref dq),i,C]/\Same H (upd X dq (.dG (pG kvs (.tup p) e (.ref b))))/\(upd X dq (.dG (pG kvs (.tup p) e (.ref b)))) dq=some (.dG a)/\a.length≤j+1/\DG (TPl ps (upd X dq (.dG (pG kvs (.tup p) e (.ref b))))) (upd X dq (.dG (pG kvs (.tup p) e (.ref b)))) a/\∀p∈ps.take (j+1),(vG a (.tup p)).isSome=true :=
   ⟨_,_,_,O,r.wr N,xAab,qc (xAca _ _ _ _) (by omega),(k.put h2 ⟨⟨p,m,O,d.nm p m⟩,p,U⟩).imp t λ_ _ g=>g.tups t,by rw[tk];exact xAbg (λu I=>vG_up (f u I)) xAov⟩
  have B:kvs.length<sizeLine:=huge (by omega);refine⟨_,O,b,_,0,e,O,O,SqT.of h1,O,?_⟩;refine⟨_,O,_,O,dq,kvs,.tup p,O,.inl c,h2,_,O,?_⟩;rw[qF rfl]
  cases D:vG kvs (.tup p) with
  |none=>exact itT rfl ⟨_,O,_,O,_,O,dq,kvs,.tup p,O,c,h2,B,n⟩
  |some v =>
   obtain⟨_,p',b',vp',vo',vn',o,y1,W,rfl,M,Z,h3',G⟩:=k.val D;refine itF rfl ⟨_,O,_,O,dq,kvs,.tup p,_,O,.inl c,h2,D,b',_,3,.ref o,O,O,SqT.of M,O,_,O,b,_,3,.ref kq,O,O,SqT.of h1,O,o,kq,[y1,W],[x1,Y],O,O,SqT.of G,SqT.of h4,_,O,?_⟩
   exact itB (λ_=>⟨_,O,_,O,_,O,dq,kvs,.tup p,O,c,h2,B,n⟩) λ_=>⟨kvs,_,_,O,r,c,by omega,k,by rw[tk];exact xAbg f (by rw[D];rfl)⟩
 ·rintro σ X ⟨kvs,i,C,rfl,r,c,kl,k,f⟩
  rw[d.pc.1,zm]at f;exact⟨_,O,kk X dq kvs r N c (by omega) k f⟩
def ok_fBu(T:Txt K mg tk)(F:FO K mg "way_out" s_fBu):O_fBu P w K mg base:=by
 refine mk_ok F xAox (λ_ _ _ _ _ _ u l=>match u,l with|[_,_,_],_=>rfl) (λ_ _ _ _ h=>xAve h) λfa cdv A outer s H vs Q E p h=>?_
 refine⟨_,(xAaa (sn xAox.nd 3 (xAal (a1 (vv 1))))
   (xAaa (sn xAox.nd 4 (xAja (hu2 p) (vv 1) pe_bl))
   (xAaa (xAeo PassesOwn.never (xAfw (PW.pt (xAem (ck (xAjm (hu2 p)) (xi (vv 3) (pe_un xAdx xAaf)) (vv 0)) (xAcp (ck (xAdg (hu2 p)) (xi (vv 3) (pe_un xAdx xAaf)) (vv 2)))))) (xAaa (sn xAox.nd 5 (xAap (hu2 p) (vv 0) (xi (vv 3) (pe_un xAdx xAaf)) (λ_ _=>rfl)))
   (xAaa (ap (vv 3) (a1 (vv 5)))
   (xAaa (ps_if (ck (xAjm (hu2 p)) (vv 5) (vv 4)) (xAac (xAak (vv 3))) xAan)
   (xAac (xAbe (hu2 p) (vv 4) (vv 5) pe_bl rfl))))))
   (xAac (xAak (vv 3)))))),?_⟩
 obtain⟨oa,g,ea,ko,ke,k0,C,rfl,R,hfew,hko,W,gp,hc,kk⟩:=h;refine⟨_,O,szOk rfl,λc H1 S s1 e1=>?_⟩;intro a H2 g2 s2 e2;have D:=s1.trans s2;refine⟨_,O,e2,nd k0,gp.tups D.tups,?_⟩;have I:=s1.free g2;have n:=xAad e1 g2;have s3:Same H (upd H2 a (.dG [(nd k0,g,.bl true)])):=D.wr I
 have e3:(upd H2 a (.dG [(nd k0,g,.bl true)])) c=some (.lst [g]):=by rw[xAae n];exact s2 _ _ e1
 have o3:(upd H2 a (.dG [(nd k0,g,.bl true)])) a=some (.dG [(nd k0,g,.bl true)]):=xAab;generalize upd H2 a (.dG [(nd k0,g,.bl true)])=H3 at s3 e3 o3
 refine⟨λm σ X=>∃ini las ws f u5,σ=[some (.ref oa),some g,some (.ref ea),some (.ref c),some (.ref a),u5]/\Same H X/\X c=some (.lst ws)/\AL (NmN X) ws (ini++[las])/\X a=some (.dG f)/\(∀k∈ini++[las],(vG f (nd k)).isSome=true)/\f.length≤ini.length+1/\las∉ini/\WY ko C k0 ini las/\m=102 - ini.length,
  ⟨102,[],k0,[g],_,none,O,s3,e3,.cons (gp.tups s3.tups) .nil,o3,λk t=>by rw[qt.mp t];exact vG_in (qt.mpr rfl),qb _,(λz=>nomatch z),⟨.nil,(λk z=>nomatch z),λk t=>by rw[qt.mp t];exact hc,qt.mpr rfl⟩,O⟩,?_⟩
 rintro m σ X ⟨ini,las,ws,f,u5,rfl,G,i,U,oX,x,hkl,nl,wy,rfl⟩;have hfit:=wy.few;obtain⟨us,v,rfl,aU,N⟩:=xAjc U;have hul:us.length=ini.length:=aU.1;have r:=Rd.same R G;refine⟨λb e=>e=X/\(b=true->(vG ko (nd las)).isSome=true),?_,?_⟩
 ·refine⟨_,O,1,O,c,_,-1,v,O,O,SqL.of i,xAdc us v,_,O,oa,ko,nd las,O,r,N,_,O,?_⟩
  rw[qB qk];refine itB (λz=>?_) λ_=>⟨O,λz=>nomatch z⟩;exact⟨_,O,1,O,c,_,-1,v,O,O,SqL.of i,xAdc us v,_,O,ea,ke,nd las,O,Rd.same W G,N,_,O,O,λ_=>z⟩
 rintro b e ⟨rfl,hT⟩
 cases b with
 |false=>exact itF rfl ⟨_,O,kk e c (us++[v]) ini las G S i U wy⟩
 |true =>
  refine itT rfl ?_;have hg:=hT rfl;obtain⟨d,B⟩:=zv.mp hg;obtain⟨o,go,co⟩:=hko las d B;refine⟨_,λ_ _ z=>z,?_⟩;refine⟨_,O,_,O,1,O,c,_,-1,v,O,O,SqL.of i,xAdc us v,oa,ko,nd las,d,O,r,N,B,?_⟩;refine⟨_,O,.inl ⟨O,_,SqL.of i⟩,_,O,c,_,_,O,O,i,huge (by rw[qe,qo];omega),?_⟩;have tw:Tups e (upd e c (.lst ((us++[v])++[d]))):=Tups.wl i;have J:=go.tups (G.tups.trans tw);have M:Same H (upd e c (.lst ((us++[v])++[d]))):=G.wr S;have eW:(upd e c (.lst ((us++[v])++[d]))) c=some (.lst ((us++[v])++[d])):=xAab
  have L:(upd e c (.lst ((us++[v])++[d]))) a=some (.dG f):=by rw[xAae n.symm];exact oX
  have V:=AL.snoc (U.imp λv k q=>NmN.tups q tw) J;generalize upd e c (.lst ((us++[v])++[d]))=Y at M eW L V J;have j:=wy.on nl hg co;have Z:=j.few;rw[qe,qo]at Z;refine⟨_,O,_,O,a,f,nd o,O,.inl L,J,_,O,?_⟩;rw[qB qk];refine itB (λ_=>⟨_,O,kk Y c _ (ini++[las]) o M S eW V j⟩) λz=>?_;have t2:Tups Y (upd Y a (.dG (pG f (nd o) d (.bl true)))):=Tups.wd L;exact⟨_,O,_,O,a,f,nd o,O,L,J,huge (by omega),102 - (ini.length+1),by omega,ini++[las],o,(us++[v])++[d],_,_,O,M.wr I,by rw[xAae n];exact eW,V.imp λv k q=>NmN.tups q t2,xAab,xAbg (λk t=>vG_up (x k t)) xAov,by rw[qe,qo];exact qc (xAca _ _ _ _) (by omega),(λy=>by rw[x o y]at z;cases z),j,by rw[qe,qo]⟩
def ok_fAt(T:Txt K mg tk)(F:FO K mg "key_of_cell" s_fAt):O_fAt P w K mg base:=by
 refine mk_ok F sc_fAt (λ_ _ _ _ _ _ u l=>match u,l with|[_],_=>rfl) (λ_ _ _ _ h=>xAvn h) λfa d A outer s H vs Q E i h=>?_;refine⟨_,(xAac (xAak (xt (vv 0)))),?_⟩;obtain⟨v,a,rfl,⟨b,j,p,g,r,vc,c,z,kq,rfl,h1,_,_,_,_,f⟩,e⟩:=h;exact⟨_,O,b,_,4,_,O,O,SqT.of h1,O,e _ (.tup f (.cons (.int _) (.cons (.int _) .nil)))⟩
def ok_fAj(T:Txt K mg tk)(F:FO K mg "inner_number" s_fAj):O_fAj P w K mg base:=by
 refine mk_ok F sc_fAj (λ_ _ _ _ _ _ u l=>match u,l with|[_,_],_=>rfl) (λ_ _ _ _ h=>xAwb h) λfa d A outer s H vs Q E f h=>?_;refine⟨_,(xAac (xAak (xAdj (ck op_eq (vv 0) xAai) (pe_f1 (xAum (vv 1))) (pe_fst (xAmo (pe_fv (vv 0)) (xAmo xAai (xAmo (xAum (vv 1)) pj_nil))))))),?_⟩;obtain⟨z,i,rfl,hi,hz,b⟩:=h;have e:=xAvz i hi;refine⟨_,O,O,_,O,?_⟩
 by_cases h0:z = ""
 ·refine itT (by rw[xAbh];exact qI h0) ?_
  exact⟨_,O,i,O,by omega,b _ (by omega)⟩
 ·refine itF (by rw[xAbh];exact decide_eq_false h0) ?_
  have a:((Str.empty++z)++".").length=z.length+1:=by rw[xAcx,xAqa];rfl
  have c:(((Str.empty++z)++".")++Str.ofString (toString (i:Int))).length≤z.length+4:=by rw[xAcx,a];omega
  exact⟨_,O,z,O,by omega,z,O,by rw[xAqa];omega,".",O,by rw[a];omega,_,O,i,O,by omega,_,O,by omega,by omega,b _ c⟩
def ok_fAo(T:Txt K mg tk)(F:FO K mg "text_of_sign" s_fAo):O_fAo P w K mg base:=by
 refine mk_ok F sc_fAo (λ_ _ _ _ _ _ u l=>match u,l with|[_,_],_=>rfl) (λ_ _ _ _ h=>xAwd h) λfa j A outer s H vs Q E k h=>?_
 refine⟨_,(xAaa (ps_if (xAck (cb xAmv T.b_isinstance boot_isinstance (a2 (vv 1) (xAkd (v:=.ty "str") (by rfl) T.b_str boot_str rfl)))) (xAac (xAak (vv 1))) xAan)
   (xAaa (ps_if (ck op_eq (xt (vv 1)) xAai) (xAac (xAak (pe_op xAcr xAai (xt (vv 1))))) xAan)
   (xAac (xAak (pe_op xAcr xAai (bm PySem.F.plainAttrs_dict PySem.F.slot_dict_get PySem.F.type_dict_get (xAbk (hu2 k)) (vv 0) (a2 (xt (vv 1)) xAai))))))),?_⟩
 obtain⟨nq,c,v,d,rfl,⟨kvs,hn,nk⟩,f,ok,b⟩:=h
 have sz:∀{m:Nat},m≤1900->m≤sizeLine:=λh=>big2 (by omega)
 rcases ok with⟨z,rfl,hz⟩|⟨w,rfl,q⟩|⟨p,rfl,o⟩
 ·cases f
  exact⟨_,O,_,"str",true,O,by decide,.str z,_,O,itT rfl ⟨_,O,b z (.inl rfl)⟩⟩
 ·obtain⟨a,xs,rfl,e,i⟩:∃a xs,v=.ref a/\H a=some (.tup xs)/\DTs H xs [.str "picture",.str w]:=by cases f with|tup e t=>exact⟨_,_,O,e,t⟩
  obtain⟨⟩|⟨⟨⟩,⟨⟩|⟨⟨⟩,⟨⟩⟩⟩:=i;refine⟨_,O,_,"str",false,O,by decide,.tup e,_,O,itF rfl ?_⟩;refine⟨_,O,_,_,0,_,O,O,SqT.of e,O,O,_,O,itT (by rw[xAbh];exact qI rfl) ?_⟩;exact⟨_,O,_,_,1,_,O,O,SqT.of e,O,"*",w,O,O,sz (by show 1+w.length≤_;omega),b _ (.inr (.inl ⟨w,O,O⟩))⟩
 ·obtain⟨a,xs,rfl,e,i⟩:∃a xs,v=.ref a/\H a=some (.tup xs)/\DTs H xs [.str "refer",tD p]:=by cases f with|tup e t=>exact⟨_,_,O,e,t⟩
  obtain⟨⟩|⟨⟨⟩,⟨⟩|⟨n,⟨⟩⟩⟩:=i;refine⟨_,O,_,"str",false,O,by decide,.tup e,_,O,itF rfl ?_⟩;refine⟨_,O,_,_,0,_,O,O,SqT.of e,O,O,_,O,itF (by rw[xAbh];exact decide_eq_false (by decide +kernel)) ?_⟩;refine⟨_,O,.inr (.inr (.inl ⟨O,.inr (.inr ⟨kvs,hn⟩)⟩)),_,O,_,_,1,_,O,O,SqT.of e,O,nq,kvs,.tup p,_,_,O,O,hn,td_gk n,?_⟩;obtain⟨h1,h2⟩:=nk p o;rw[h1]
  cases g:c p with
  |none=>exact⟨"#","?",O,O,sz (by decide),b _ (.inr (.inr ⟨p,O,by rw[g];rfl⟩))⟩
  |some z=>exact⟨"#",z,O,O,sz (by have:=h2 z g;show 1+z.length≤_;omega),b _ (.inr (.inr ⟨p,O,by rw[g];rfl⟩))⟩
def ok_fAk(T:Txt K mg tk)(F:FO K mg "_law_cell_at" s_fAk):O_fAk P w K mg base:=by
 refine mk_ok F sc_fAk (λ_ _ _ _ _ _ u l=>match u,l with|[_,_],_=>rfl) (λ_ _ _ _ h=>xAdv h) λfa d A outer s H vs Q E g h=>?_
 refine⟨_,(xAaa (ps_if (ck op_lt (vv 1) (cb xAag T.b_len boot_len (a1 (vv 0)))) (xAac (xAak (xa (vv 0) (vv 1)))) xAan)
   (xAac (xAak xAaf))),?_⟩
 obtain⟨sp,ns,k,rfl,b,f,c⟩:=h;refine⟨_,O,_,O,sp,_,O,.inl b,_,_,O,O,_,O,?_⟩
 by_cases a:k<((List.map V.int ns).length:Nat)
 ·refine itT (qI a) ?_
  refine⟨_,O,_,O,sp,_,_,O,O,b,f,a,λv e=>?_⟩;obtain⟨m,_,rfl⟩:=qj.mp e;exact c m
 ·exact itF (decide_eq_false a) (c 0)
def ok_fBa(T:Txt K mg tk)(F:FO K mg "_law_drawn" s_fBa):O_fBa P w K mg base:=by
 refine mk_ok F sc_fBa (λ_ _ _ _ _ _ u l=>match u,l with|[_,_],_=>rfl) (λ_ _ _ _ h=>xAfb h) λfa d A outer s H vs Q E f h=>?_
 refine⟨_,(xAaa (ps_if (PW.pt (xAem (xAck (vv 1)) (xAcp (ck op_ge (vv 0) (pe_op op_pow xAaf xAaf))))) (xAac (xAak (xAal (a2 (vv 0) xAaf)))) xAan)
   (xAac (xAak (xAal (a2 (pe_op xAcl (vv 0) xAaf) xAaf))))),?_⟩
 obtain⟨c,b,rfl,a⟩:=h;refine⟨_,O,b,O,?_⟩
 cases b with
 |false=>exact itF rfl (itF rfl ⟨_,O,_,_,O,O,(by show(0:Int)<2147483629;decide),szOk rfl,λp H' g s e=>a H' p s g ⟨_,_,e⟩⟩)
 |true =>
  refine itT rfl ⟨_,O,_,_,O,O,⟨by decide,by decide,by decide⟩,_,_,O,O,_,O,?_⟩
  by_cases h1:(10:Int) ^ 18≤c
  ·exact itT (qI h1) ⟨_,O,szOk rfl,λp H' g s e=>a H' p s g ⟨_,_,e⟩⟩
  ·exact itF (decide_eq_false h1) ⟨_,O,_,_,O,O,(by show(0:Int)<2147483629;decide),szOk rfl,λp H' g s e=>a H' p s g ⟨_,_,e⟩⟩
def ok_fBj(T:Txt K mg tk)(F:FO K mg "_law_draw" s_fBj):O_fBj P w K mg base:=by
 refine mk_ok F xAwm (λ_ _ _ _ _ _ u l=>match u,l with|[_,_],_=>rfl) (λ_ _ _ _ h=>xAgh h) λfa g A outer s H vs Q E j h=>?_
 refine⟨_,(xAaa (sn xAwm.nd 2 (xl (vv 0)))
   (xAaa (ps_if (ck op_eq (xl (vv 0)) xAaf) (xAaa (xAsk (pe_op xAcq (vv 2) (vv 1)) (xAsj (vv 0) xAaf xAkp))
   (xAac (xAak (pe_op xAcl (vv 2) (vv 1))))) xAan)
   (xAaa (xAsk (pe_op xAcl (pe_op xAbc (pe_op xAkf (vv 2) xAaf) xAaf) xAaf) (xAsj (vv 0) xAaf xAkp))
   (xAac (xAak (pe_op xAcl (pe_op xAcq (pe_op xAcl (pe_op xAkf (xl (vv 0)) xAaf) xAaf) xAaf) (vv 1))))))),?_⟩
 obtain⟨p,q,rfl,⟨a,b,d⟩,c,i,f⟩:=h;refine⟨_,O,p,_,0,.int a,O,O,SqL.of d,O,_,O,p,_,1,.int b,O,O,SqL.of d,O,O,_,O,?_⟩
 have e:∀x:Int,0≤x % q/\x % q<q:=λx=>⟨Int.emod_nonneg x (by omega),Int.emod_lt_of_pos x c⟩
 by_cases h0:b=0
 ·refine itT (by rw[h0];rfl) ⟨_,O,_,O,_,_,O,O,⟨c,by omega⟩,_,O,p,_,0,0,O,O,d,O,_,O,_,O,_,_,O,O,c,?_⟩
  exact f _ _ xAmw ⟨_,_,xAab⟩ (e _).1 (e _).2
 ·refine itF (decide_eq_false λz=>h0 (by injection z)) ⟨_,O,_,_,O,O,.inr ⟨by decide,by decide⟩,_,_,O,O,_,_,O,O,(by show(0:Int)<2147483629;decide),_,O,p,_,0,0,O,O,d,O,?_⟩
  refine⟨_,O,p,_,0,_,O,O,SqL.of xAab,O,_,_,O,O,.inr ⟨by decide,by decide⟩,_,_,O,O,(by show(0:Int)<2147483647;decide),_,_,O,O,⟨by decide,by decide⟩,_,O,_,_,O,O,c,?_⟩;exact f _ _ xAmw ⟨_,_,xAab⟩ (e _).1 (e _).2
def ok_fBh(T:Txt K mg tk)(F:FO K mg "_law_text" s_fBh):O_fBh P w K mg base:=by
 refine mk_ok F sc_fBh (λ_ _ _ _ _ _ u l=>match u,l with|[_,_],_=>rfl) (λ_ _ _ _ h=>xAgi h) λfa j A outer s H vs Q E k h=>?_
 refine⟨_,(xAaa (ps_if (xAck (cb xAmv T.b_isinstance boot_isinstance (a2 (vv 0) (xAkd (v:=.ty "str") (by rfl) T.b_str boot_str rfl)))) (xAac (xAak (vv 0))) xAan)
   (xAaa (ps_if (ck op_eq (xt (vv 0)) xAai) (xAac (xAak (pe_op xAcr xAai (xt (vv 0))))) xAan)
   (xAac (xAak (pe_op xAcr xAai (bm PySem.F.plainAttrs_dict PySem.F.slot_dict_get PySem.F.type_dict_get (xAbk (hu2 k)) (vv 1) (a2 (xt (vv 0)) xAai))))))),?_⟩
 obtain⟨nq,c,v,d,rfl,⟨kvs,hn,nk⟩,f,ok,b⟩:=h
 have sz:∀{m:Nat},m≤1900->m≤sizeLine:=λh=>big2 (by omega)
 rcases ok with⟨z,rfl,hz⟩|⟨w,rfl,q⟩|⟨p,rfl,o⟩
 ·cases f
  exact⟨_,O,_,"str",true,O,by decide,.str z,_,O,itT rfl ⟨_,O,b z (.inl rfl)⟩⟩
 ·obtain⟨a,xs,rfl,e,i⟩:∃a xs,v=.ref a/\H a=some (.tup xs)/\DTs H xs [.str "picture",.str w]:=by cases f with|tup e t=>exact⟨_,_,O,e,t⟩
  obtain⟨⟩|⟨⟨⟩,⟨⟩|⟨⟨⟩,⟨⟩⟩⟩:=i;refine⟨_,O,_,"str",false,O,by decide,.tup e,_,O,itF rfl ?_⟩;refine⟨_,O,_,_,0,_,O,O,SqT.of e,O,O,_,O,itT (by rw[xAbh];exact qI rfl) ?_⟩;exact⟨_,O,_,_,1,_,O,O,SqT.of e,O,"*",w,O,O,sz (by show 1+w.length≤_;omega),b _ (.inr (.inl ⟨w,O,O⟩))⟩
 ·obtain⟨a,xs,rfl,e,i⟩:∃a xs,v=.ref a/\H a=some (.tup xs)/\DTs H xs [.str "refer",tD p]:=by cases f with|tup e t=>exact⟨_,_,O,e,t⟩
  obtain⟨⟩|⟨⟨⟩,⟨⟩|⟨n,⟨⟩⟩⟩:=i;refine⟨_,O,_,"str",false,O,by decide,.tup e,_,O,itF rfl ?_⟩;refine⟨_,O,_,_,0,_,O,O,SqT.of e,O,O,_,O,itF (by rw[xAbh];exact decide_eq_false (by decide +kernel)) ?_⟩;refine⟨_,O,.inr (.inr (.inl ⟨O,.inr (.inr ⟨kvs,hn⟩)⟩)),_,O,_,_,1,_,O,O,SqT.of e,O,nq,kvs,.tup p,_,_,O,O,hn,td_gk n,?_⟩;obtain⟨h1,h2⟩:=nk p o;rw[h1]
  cases g:c p with
  |none=>exact⟨"#","?",O,O,sz (by decide),b _ (.inr (.inr ⟨p,O,by rw[g];rfl⟩))⟩
  |some z=>exact⟨"#",z,O,O,sz (by have:=h2 z g;show 1+z.length≤_;omega),b _ (.inr (.inr ⟨p,O,by rw[g];rfl⟩))⟩
def ok_fBw(T:Txt K mg tk)(F:FO K mg "stretch" s_fBw)(a:O_fAh P w K mg base):O_fBw P w K mg base:=by
 refine mk_ok F xAwn (λ_ _ _ _ _ _ u l=>match u,l with|[_,_,_],_=>rfl) (λ_ _ _ _ h=>xAvs h) λfa i A outer s H vs Q E d h=>?_
 refine⟨_,(xAaa (sn xAwn.nd 3 (cl a d (a2 (vv 0) (vv 1))))
   (xAac (xAak (xAah (a2 (vv 3) (cb (xAng rfl) T.b_max boot_max (a2 (vv 3) (cl a d (a2 (vv 0) (vv 2)))))))))),?_⟩
 obtain⟨dq,kvs,r,n,m,rfl,c,f,p,o,j⟩:=h;refine⟨_,O,_,O,dq,kvs,r,m,O,c,f,p,λb v=>?_⟩;refine⟨_,O,_,O,_,O,_,O,dq,kvs,n,m,O,c,f,o,λe t=>⟨_,_,O,szOk rfl,λq H' g s k=>j H' q b (max b e) s ?_ (Nat.le_max_left _ _) (by omega)⟩⟩;rw[k]
 congr 5
 split <;> omega
def ok_fAg(T:Txt K mg tk)(F:FO K mg "reaching_main" s_fAg)(gfBu:O_fBu P w K mg base):O_fAg P w K mg base:=by
 refine mk_ok F xAju (λ_ _ _ _ _ _ u l=>match u,l with|[_],_=>rfl) (λ_ _ _ _ h=>xAvi h) λfa cdv A outer s H vs Q E hr h=>?_
 refine⟨_,(xAaa (sn xAju.nd 1 (xAja (hu2 hr) (xAkc (v:=.ref c_MAIN) rfl T.c_MAIN rfl) pe_bl))
   (xAaa (fo (xAmd (vv 0)) (gn xAju.nd 2)
   (xAaa (sn xAju.nd 3 (cl gfBu hr (ac (vv 0) (a2 (vv 2) (vv 1)))))
   (xAaa (sn xAju.nd 4 (bm PySem.F.plainAttrs_dict PySem.F.slot_dict_get PySem.F.type_dict_get (xAbk (hu2 hr)) (vv 1) (a2 (xi (vv 3) (pe_un xAdx xAaf)) pe_bl)))
   (xAac (fo (il (vv 3)) (gn xAju.nd 5)
   (xAac (xAbe (hu2 hr) (vv 1) (vv 5) (vv 4) rfl)))))))
   (xAac (xAak (vv 1))))),?_⟩
 obtain⟨L,ko,rfl,U,hfew,ako,ma,kk⟩:=h;intro f H1 W s1 e1;refine⟨e1,.tup mainK,⟨_,O,s1 _ _ ma⟩,?_⟩;have s2:Same H (upd H1 f (.dG [(.tup mainK,.ref c_MAIN,.bl true)])):=s1.wr W;have e2:(upd H1 f (.dG [(.tup mainK,.ref c_MAIN,.bl true)])) f=some (.dG [(.tup mainK,.ref c_MAIN,.bl true)]):=xAab;generalize upd H1 f (.dG [(.tup mainK,.ref c_MAIN,.bl true)])=H2 at s2 e2;have C:=Rd.same U s2;dsimp only[gName,tSeq];refine xAms ?_;refine⟨_,O,L,ko,O,xAoq C λo Y hY fY eY=>?_⟩
 have nra:f≠L:=λz=>by
  rw[z]at W;rcases U with q|⟨o',q⟩ <;> rw[W]at q <;> cases q
 have D:=hY f _ nra e2;have I:=s2.tups.trans (xAel C hY);have aY:=ako.imp I λ_ _ g=>NDV.tups g I
 have sQ:∀{X},Same (del Y f) X->X L=some (.frz o (.dG ko)):=λs=>s _ _ (by rw[xAau nra.symm];exact eY)
 refine xAiw (λj σ X=>∃kr u2 u3 u4 R,σ=[some (.ref L),some (.ref f),u2,u3,u4,R]/\Same (del Y f) X/\X f=some (.dG kr)/\kr.length≤1+32 * j/\BLs X kr/\∀i e,i<j->ko[i]?=some e->(vG kr e.1).isSome=true)
  ⟨_,none,none,none,none,O,(λb u e=>xAco _ _ e),D,qb _,(λe he=>by rw[qt.mp he];exact⟨⟨_,O,I _ _ ma⟩,true,O⟩),λi x z=>absurd z (zw i)⟩ (λj σ X ⟨_,_,_,_,_,_,s,_⟩=>sQ s) ?_ ?_
 ·rintro j e σ X hx ⟨kr,u2,u3,u4,R,rfl,N,eX,kl,bl,hd⟩
  have tX:Tups Y X:=xAdu D (λys z=>nomatch z) N;have hjl:=(qm.mp hx).1;have aX:=aY.imp tX λ_ _ g=>NDV.tups g tX;obtain⟨ge,⟨p0,hp0⟩,_⟩:=aX e (qh hx);refine⟨_,O,_,O,_,O,L,e.2.1,f,ko,kr,p0,λ_=>True,O,.inr ⟨o,sQ N⟩,hfew,λk v h=>let⟨p,g⟩:=(aX.val h).2;⟨p,g,trivial⟩,.inl eX,hp0▸ge,trivial,λZ V ws ini las sz gwa M t wy=>?_⟩;have hfw:=wy.few;have hwl:=t.1;rw[qe,qo]at hwl;obtain⟨us,v,rfl,aus,hv⟩:=xAjc t;have n:=sz _ _ eX;have nwr:V≠f:=(xAad eX gwa).symm;refine⟨_,O,.inr (.inr (.inl ⟨O,.inr (.inr ⟨kr,n⟩)⟩)),_,O,1,O,V,_,-1,v,O,O,SqL.of M,xAdc us v,f,kr,nd las,v,.bl false,O,O,n,hv,?_⟩
  obtain⟨c,hc⟩:∃c:Bool,(vG kr (nd las)).getD (.bl false)=.bl c:=by
   cases q:vG kr (nd las) with
   |none=>exact⟨false,O⟩
   |some w=>exact bl.val q
  rw[hc]
  refine⟨_,O,V,O,⟨_,SqL.of M⟩,xAas (xs:=us++[v]) (λi σ r=>∃d R,σ=[some (.ref L),some (.ref f),some e.2.1,some (.ref V),some (.bl c),R]/\Same (del Y f) r/\r f=some (.dG d)/\r V=some (.lst (us++[v]))/\Tups Z r/\d.length≤kr.length+i/\BLs r d/\(∀k,(vG kr k).isSome=true->(vG d k).isSome=true)/\∀k∈(ini++[las]).take i,(vG d (nd k)).isSome=true)
   ⟨kr,R,O,N.trans sz,n,M,Tups.refl _,Nat.le_refl _,bl.imp sz.tups λ_ _ g=>g,(λk z=>z),λk z=>by simp at z⟩ (λi σ r _ ⟨_,_,_,_,_,e,_⟩=>SqL.of e) ?_ ?_⟩
  ·rintro i x σ r m ⟨d,u5',rfl,s5,B,S,t5,kl5,G,J,y⟩
   obtain⟨k,hk,gx⟩:=t.at m;have hi:=(qm.mp m).1;have gx5:=GK.tups gx t5;have t6:Tups r (upd r f (.dG (pG d (nd k) x (.bl c)))):=Tups.wd B;exact⟨_,O,_,O,_,O,f,d,nd k,O,B,gx5,huge (by omega),_,_,O,s5.wr xAcg,xAab,by rw[xAae nwr];exact S,t5.trans t6,qc (xAca _ _ _ _) (by omega),(G.put gx5 ⟨c,O⟩).imp t6 λ_ _ g=>g,λa q=>vG_up (J a q),by rw[zh,hk];exact xAbg (λa q=>vG_up (y a q)) xAov⟩
  ·rintro σ r ⟨d,u5',rfl,s5,B,S,t5,kl5,G,J,y⟩
   rw[t.1,zm]at y;refine⟨d,_,_,_,_,O,s5,B,by omega,G,λi x hi m=>?_⟩
   by_cases z:i<j
   ·exact J _ (hd i x z m)
   ·have:i=j:=by omega
    subst this;rw[hx]at m;cases m;rw[hp0];exact y _ wy.hd
 ·rintro σ X ⟨kr,u2,u3,u4,R,rfl,N,eX,kl,bl,hd⟩
  refine⟨_,O,kk X f kr (λb u e=>N _ _ ?_) (.inr ⟨o,sQ N⟩) W eX (by omega) bl λe he=>?_⟩
  ·have nb:b≠L:=λz=>by rw[z,xAcg]at e;cases e
   rw[xAau nb]at e;rw[xAau (xAad e W)];exact hY b u nb (s2 _ _ e)
  ·obtain⟨i,hi,ei⟩:=z6.mp he
   exact hd i e hi (by rw[qg hi,ei])
def ok_fAz(T:Txt K mg tk)(F:FO K mg "_law_parts" s_fAz)(f:O_fBj P w K mg base):O_fAz P w K mg base:=by
 refine mk_ok F xAda (λ_ _ _ _ _ _ u l=>match u,l with|[_,_,_],_=>rfl) (λ_ _ _ _ h=>xAfe h) λfa cdv A outer s H vs Q E N h=>?_;have hu1:(A.deeper (envOfC "_law_parts" (defScope s_fAz) s.heap.objs.size fa cdv)).units+1<cLine:=hu_of N
 refine⟨_,(xAaa (sn xAda.nd 3 (xAal (a1 (xAah (a2 xAai xAaf)))))
   (xAaa (sn xAda.nd 4 (ce op_eq (cl f N (a2 (vv 0) xAaf)) xAaf))
   (xAaa (fo (xAbs (by rfl) T.b_range (a1 (xa (xAal (a2 (cl f N (a2 (vv 0) xAaf)) (pe_op xAbc xAaf (cl f N (a2 (vv 0) xAaf))))) (cy xAho T.b_int boot_int (a1 (vv 4)))))) (gn xAda.nd 5)
   (xAaa (sn xAda.nd 6 (xAah (a2 (xa (vv 2) (cl f N (a2 (vv 0) (cb xAag T.b_len boot_len (a1 (vv 2)))))) (pe_op xAbc xAaf (vv 5)))))
   (xAaa (sn xAda.nd 7 (xa (vv 3) (cl f N (a2 (vv 0) (cb xAag T.b_len boot_len (a1 (vv 3)))))))
   (xAei (ps_if (xAfw (PW.pt (xAem (xAck (vv 4)) (xAcp (ck op_gt (cl f N (a2 (vv 0) xAaf)) xAaf))))) (xAac (sn xAda.nd 7 (xAah (a2 xAai xAaf)))) xAan)
   (xAaa (ap (xAat hu1 (vv 1) xAai (λ_ _=>rfl)) (a1 (xAah (a2 (vv 6) (vv 7)))))
   (xAaa (sn xAda.nd 8 (ce op_gt (cl f N (a2 (vv 0) xAaf)) xAaf))
   (xAei (ps_if (xAck (vv 8)) (xAac (ap (xAat hu1 (vv 1) xAai (λ_ _=>rfl)) (a1 (xAah (ac (vv 6) (ac (vv 7) (a2 (vv 6) (xAah (a2 (vv 5) xAaf))))))))) xAan)
   (xAei (ps_if (xAfw (PW.pt (xAem (xAck (vv 8)) (xAcp (ck op_eq (cl f N (a2 (vv 0) xAaf)) xAaf))))) (xAaa (sn xAda.nd 7 (xa (vv 3) (cl f N (a2 (vv 0) (cb xAag T.b_len boot_len (a1 (vv 3)))))))
   (xAac (ap (xAat hu1 (vv 1) xAai (λ_ _=>rfl)) (a1 (xAah (ac (vv 6) (ac (vv 7) (a2 (xAah (a2 (xl (vv 2)) (pe_op xAbc xAaf (vv 5)))) (xAah (a2 (pe_op xAbc (vv 5) xAaf) xAaf)))))))))) xAan)
   (xAei (ps_if (ck op_eq (cl f N (a2 (vv 0) xAaf)) xAaf) (xAac (ap (xAat hu1 (vv 1) xAai (λ_ _=>rfl)) (a1 (xAah (a2 (vv 6) (xAah (a2 (xl (vv 2)) (pe_op xAbc xAaf (vv 5))))))))) xAan)
   (xAac (ap (vv 3) (a1 (vv 6)))))))))))))
   (xAaa (xAhz (i:=9) xAda.nd rfl (Or.inl rfl) (own:=["_law_row"]) (fr:=[]) rfl (il (xAat hu1 (vv 1) xAai (λ_ _=>rfl))) ⟨O,by decide +kernel,by decide +kernel⟩ (caps0 (by decide +kernel)) (λ_ _ _=>(xAaq (i:=0) (by show List.Nodup (["_law_row"]:List Str);decide +kernel) rfl (Or.inl rfl))) (λ_=>xAbn rfl) (λ_ _ _=>xAbb) (λ_ _ _=>(xt (vv 0))))
   (xAaa (fo (xAbs (by rfl) T.b_range (a1 (cl f N (a2 (vv 0) xAaf)))) (gn xAda.nd 5)
   (xAac (ps_if (ck (neD N) (vv 9) (xAal xAbm)) (xAaa (sn xAda.nd 6 (xa (vv 9) (cl f N (a2 (vv 0) (cb xAag T.b_len boot_len (a1 (vv 9)))))))
   (xAaa (sn xAda.nd 7 (xa (vv 3) (cl f N (a2 (vv 0) (cb xAag T.b_len boot_len (a1 (vv 3)))))))
   (xAac (ap (xAat hu1 (vv 1) xAai (λ_ _=>rfl)) (a1 (xAah (ac (vv 6) (ac (vv 7) (a2 (xAah (a2 (xl (vv 2)) (pe_op xAbc xAaf (vv 5)))) (xAah (a2 (pe_op xAbc xAaf (pe_op xAcq (vv 5) xAaf)) (pe_op xAcl (vv 5) xAaf)))))))))))) xAan)))
   (xAac (xAak (vv 3)))))))),?_⟩
 obtain⟨d,fa,r,F,rfl,dw,dk,e0,e1,e2,er,rd,fd,hi,kk⟩:=h;have nF:∀i,i<9->∀j,j<9->i≠j->F i≠F j:=λi a j b n e=>n (hi i a j b e);refine⟨szOk rfl,λtq H1 g1 D h1=>⟨szOk rfl,λkq H2 g2 s2 h2=>?_⟩⟩
 have kf:∀{b:Addr} {o:HO},H b=some o->kq≠b:=λe z=>by rw[z,D _ _ e]at g2;cases g2
 have a:PA5 d F kq:=⟨let⟨_,_,e⟩:=dw;kf e,λi hi'=>by
  have:i=0\/i=1\/i=2:=by omega
  rcases this with rfl|rfl|rfl
  ·exact kf e0
  ·exact kf e1
  ·exact kf e2,λi hi'=>(fd i (by omega)).1,λi h1 j h2 n=>nF i (by omega) j (by omega) n⟩
 have fk:H kq=none:=D.free g2;have s12:=D.trans s2
 have S:PB H H2 d F kq [.ref tq] [] [] []:=⟨Rest.refl.same s12,dw.same s12,h2,λj v e=>by
  have hj:=(qm.mp e).1
  have:j=0:=by simpa using hj
  subst this;cases e
  exact⟨"",⟨tq,O,s2 _ _ h1⟩,.inl rfl⟩,s12 _ _ e0,s12 _ _ e1,s12 _ _ e2,⟨(λv z=>nomatch z),(λv z=>nomatch z),λv z=>nomatch z⟩⟩
 have X:fa≠d:=λz=>by obtain⟨_,_,e⟩:=dw;rw[←z,dk]at e;cases e
 have nff:∀i,i<3->fa≠F i:=λi hi' z=>by
  have:i=0\/i=1\/i=2:=by omega
  rcases this with rfl|rfl|rfl
  ·rw[←z,dk]at e0;cases e0
  ·rw[←z,dk]at e1;cases e1
  ·rw[←z,dk]at e2;cases e2
 have rf:∀i,i<3->r≠F i:=λi h=>(fd i (by omega)).2
 refine⟨_,O,d,8,O,S.dw,by decide,by decide,λi1 H3 y w3 a3 b3=>⟨O,?_⟩⟩;have J:=S.draw a y w3;generalize decide (V.int i1=V.int 7)=wd;refine⟨_,O,d,7,O,J.dw,by decide,by decide,λi2 H4 L w4 a4 b4=>⟨_,O,d,5,O,w4,by decide,by decide,λi3 H5 M w5 a5 b5=>⟨_,_,O,O,szOk rfl,λU H6 g6 s6 e6=>?_⟩⟩⟩;have B6:=((J.draw a L w4).draw a M w5).same s6
 have ixw:((if wd=true then 1 else 0:Int))<2:=by cases wd <;> decide
 refine⟨_,O,.inr ⟨wd,O,U,_,_,O,O,SqL.of e6,by cases wd <;> decide,ixw,λv hv=>?_⟩⟩
 obtain⟨c,rfl,c0,c1⟩:∃c:Int,v=.int c/\0≤c/\c≤14:=by
  simp only[List.mem_cons,List.not_mem_nil,or_false]at hv
  rcases hv with rfl|rfl
  ·exact⟨_,O,a4,by omega⟩
  ·exact⟨_,O,by omega,by omega⟩
 refine⟨c,O,by omega,by omega,xAbt (lo:=0) (n:=c.toNat) (λj σ Z=>∃kn bs es cs u5 u6 u7 u8,σ=[some (.ref d),some (.ref fa),some (.ref r),some (.ref kq),some (.bl wd),u5,u6,u7,u8,none]/\PB H Z d F kq kn bs es cs/\kn.length=j+1/\bs.length≤j/\es.length≤2 * j/\cs.length≤j) ⟨_,_,_,_,_,_,_,_,O,B6,O,qb _,qb _,qb _⟩ ?_ ?_⟩
 ·rintro j σ Z hj ⟨kn,bs,es,cs,u5,u6,u7,u8,rfl,B,hk,hb,he,hc⟩
  have erZ:=B.out er rd rf;refine⟨_,O,_,O,_,O,r,_,O,.inl (SqL.of erZ),d,_,O,B.dw,by show(0:Int)<2;decide,by show(2:Int)<1000;decide,λi1 Z1 D w1 x1 y1=>⟨r,_,i1,O,O,SqL.of (DP.to D erZ rd),x1,y1,λvw hvw=>?_⟩⟩
  obtain⟨w,rfl⟩:∃w,vw=.str w:=by
   have:=hvw
   simp only[List.mem_cons,List.not_mem_nil,or_false]at this
   rcases this with h|h <;> exact⟨_,h⟩
  refine⟨_,O,_,_,O,O,szOk rfl,λC Z2 g2 s2 e2=>?_⟩
  have ej:(1+(0+(j:Int)))=((kn.length:Nat):Int):=by rw[hk];omega
  rw[ej]at e2;have np:Nm [.inr w,.inl ((kn.length:Nat):Int)]:=nm5 hvw;have S:=(B.draw a D w1).same s2;refine⟨_,O,_,O,_,O,kq,_,O,.inl (SqL.of S.ek),d,_,O,S.dw,by omega,by omega,λi2 Z3 y w3 x2 y2=>⟨kq,kn,i2,O,O,SqL.of (S.draw a y w3).ek,x2,y2,λvo hvo=>?_⟩⟩;have J:=S.draw a y w3;have ep3:Z3 C=some (.tup [.str w,.int ((kn.length:Nat):Int)]):=S.dw.tups y _ _ e2;have no3:NPn Z3 vo:=J.kn'.np hvo;refine⟨λσ' Z'=>∃vo',σ'=[some (.ref d),some (.ref fa),some (.ref r),some (.ref kq),some (.bl wd),some (.int (0+(j:Int))),some (.ref C),some vo',u8,none]/\PB H Z' d F kq kn bs es cs/\Z' C=some (.tup [.str w,.int ((kn.length:Nat):Int)])/\NPn Z' vo',?_,?_⟩
  ·refine⟨λb Z'=>PB H Z' d F kq kn bs es cs/\Z' C=some (.tup [.str w,.int ((kn.length:Nat):Int)])/\NPn Z' vo,⟨_,O,wd,O,?_⟩,?_⟩
   ·cases wd with
    |false=>exact itF rfl ⟨J,ep3,no3⟩
    |true=>exact itT rfl ⟨_,O,d,8,O,J.dw,by decide,by decide,λi Z4 L w4 _ _=>⟨_,_,O,O,_,O,J.draw a L w4,J.dw.tups L _ _ ep3,no3.tups (J.dw.tups L)⟩⟩
   ·rintro b Z' ⟨B',ep,no⟩
    cases b with
    |false=>exact itF rfl ⟨vo,O,B',ep,no⟩
    |true=>exact itT rfl ⟨szOk rfl,λmq Z5 g s e=>⟨.ref mq,O,B'.same s,s _ _ ep,mainK,⟨mq,O,e⟩,.inl rfl⟩⟩
  rintro σ' Z' ⟨vo',rfl,B',ep,no⟩;refine⟨_,O,fa,.ref (F 0),O,.inl ⟨fkv F 9,.inr "births",.inl (B'.out dk X nff),O,(xAbl F 0 (by decide)).symm⟩,.inl ⟨O,_,SqL.of B'.eb⟩,_,O,_,O,szOk rfl,λbq Z6 g6 s6 e6=>⟨F 0,bs,_,O,O,(B'.same s6).eb,xAaj (by omega),?_⟩⟩;have B6':=B'.same s6;obtain⟨po,go,hpo⟩:=no.tups s6.tups;have ep6:=s6 _ _ ep;have B7:=B6'.birth a (v:=.ref bq) ⟨bq,_,_,[.inr w,.inl ((kn.length:Nat):Int)],po,O,e6,⟨C,O,ep6⟩,np,go,hpo⟩;have t7:Tups Z6 (upd Z6 (F 0) (.lst (bs++[.ref bq]))):=Tups.wl B6'.eb;have ep7:=t7 _ _ ep6;have go7:=go.tups t7;generalize upd Z6 (F 0) (.lst (bs++[.ref bq]))=Z7 at B7 ep7 go7;refine⟨_,O,d,9,O,B7.dw,by decide,by decide,λi4 Z8 s8 w8 _ _=>⟨_,_,O,O,?_⟩⟩;have B8:=B7.draw a s8 w8;have t8:=B7.dw.tups s8;have ep8:=t8 _ _ ep7;have go8:=go7.tups t8;generalize decide ((0:Int)<i4)=ct;have gpt:∀{W:Hp},W C=some (.tup [.str w,.int ((kn.length:Nat):Int)])->GK W (.tup [.inr w,.inl ((kn.length:Nat):Int)]) (.ref C):=λe=>⟨C,O,e⟩;refine⟨λσ' Z'=>∃I,σ'=[some (.ref d),some (.ref fa),some (.ref r),some (.ref kq),some (.bl wd),some (.int (0+(j:Int))),some (.ref C),some vo',some (.bl ct),none]/\PB H Z' d F kq kn (bs++[.ref bq]) I cs/\Z' C=some (.tup [.str w,.int ((kn.length:Nat):Int)])/\I.length≤2 * j+1,⟨_,O,ct,O,?_⟩,?_⟩
  ·cases ct with
   |false=>exact itF rfl ⟨es,O,B8,ep8,by omega⟩
   |true =>
    refine itT rfl ⟨_,O,fa,.ref (F 1),O,.inl ⟨fkv F 9,.inr "places",.inl (B8.out dk X nff),O,(xAbl F 1 (by decide)).symm⟩,.inl ⟨O,_,SqL.of B8.ev⟩,_,O,_,O,_,O,_,O,szOk rfl,λcq Z9 g9 s9 e9=>⟨szOk rfl,λq Z10 g10 s10 e10=>⟨F 1,es,_,O,O,((B8.same s9).same s10).ev,xAaj (by omega),?_⟩⟩⟩;have B10:=(B8.same s9).same s10;have s810:=s9.trans s10;have R:=s810 _ _ ep8;have t11:Tups Z10 (upd Z10 (F 1) (.lst (es++[.ref q]))):=Tups.wl B10.ev;exact⟨es++[.ref q],O,B10.place a ⟨q,.ref C,vo',.ref C,cq,_,_,O,e10,gpt R,⟨po,go8.tups s810.tups,hpo⟩,s10 _ _ e9⟩ np,t11 _ _ R,by rw[qe,qo];omega⟩
  rintro σ' Z9 ⟨I,rfl,B9,ep9,he9⟩;refine⟨λσ' Z'=>∃es2 u7',σ'=[some (.ref d),some (.ref fa),some (.ref r),some (.ref kq),some (.bl wd),some (.int (0+(j:Int))),some (.ref C),u7',some (.bl ct),none]/\PB H Z' d F kq kn (bs++[.ref bq]) es2 cs/\Z' C=some (.tup [.str w,.int ((kn.length:Nat):Int)])/\es2.length≤2 * j+2,?_,?_⟩
  ·refine⟨λb Z'=>PB H Z' d F kq kn (bs++[.ref bq]) I cs/\Z' C=some (.tup [.str w,.int ((kn.length:Nat):Int)]),⟨_,O,ct,O,?_⟩,?_⟩
   ·cases ct with
    |false=>exact itF rfl ⟨B9,ep9⟩
    |true=>exact itT rfl ⟨_,O,d,3,O,B9.dw,by decide,by decide,λi Z4 L w4 _ _=>⟨O,_,O,B9.draw a L w4,B9.dw.tups L _ _ ep9⟩⟩
   ·rintro b Z' ⟨B',ep⟩
    cases b with
    |false=>exact itF rfl ⟨I,_,O,B',ep,by omega⟩
    |true =>
     refine itT rfl ⟨_,O,_,O,_,O,kq,_,O,.inl (SqL.of B'.ek),d,_,O,B'.dw,by omega,by omega,λi Z1 D w1 x1 y1=>⟨kq,kn,i,O,O,SqL.of (B'.draw a D w1).ek,x1,y1,λvo2 hvo2=>?_⟩⟩;have t:=B'.draw a D w1;have ep1:=B'.dw.tups D _ _ ep;obtain⟨p2,gp2,hp2⟩:=t.kn'.np hvo2;have er1:=t.out er rd rf;refine⟨_,O,fa,.ref (F 1),O,.inl ⟨fkv F 9,.inr "places",.inl (t.out dk X nff),O,(xAbl F 1 (by decide)).symm⟩,.inl ⟨O,_,SqL.of t.ev⟩,_,O,_,O,_,O,r,_,0,_,O,O,SqL.of er1,O,_,O,_,_,O,O,szOk rfl,λmq Z3 g3 y e3=>⟨_,O,_,_,O,O,szOk rfl,λcq Z4 g4 L e4=>⟨szOk rfl,λq Z5 g5 M e5=>⟨F 1,I,_,O,O,(((t.same y).same L).same M).ev,xAaj (by omega),?_⟩⟩⟩⟩;have B5:=((t.same y).same L).same M;have s15:=(y.trans L).trans M;have ep5:=s15 _ _ ep1;have t6:Tups Z5 (upd Z5 (F 1) (.lst (I++[.ref q]))):=Tups.wl B5.ev;exact⟨I++[.ref q],_,O,B5.place a ⟨q,.ref C,vo2,.ref mq,cq,_,_,O,e5,gpt ep5,⟨p2,gp2.tups s15.tups,hp2⟩,M _ _ e4⟩ np,t6 _ _ ep5,by rw[qe,qo];omega⟩
  rintro σ' Z10 ⟨es2,u7',rfl,B10,R,he10⟩;refine⟨λσ' Z'=>∃cs',σ'=[some (.ref d),some (.ref fa),some (.ref r),some (.ref kq),some (.bl wd),some (.int (0+(j:Int))),some (.ref C),u7',some (.bl ct),none]/\PB H Z' d F kq kn (bs++[.ref bq]) es2 cs'/\Z' C=some (.tup [.str w,.int ((kn.length:Nat):Int)])/\cs'.length≤j+1,?_,?_⟩
  ·refine⟨_,O,d,8,O,B10.dw,by decide,by decide,λi Z1 D w1 _ _=>⟨O,_,O,?_⟩⟩
   have t:=B10.draw a D w1;have ep1:=B10.dw.tups D _ _ R
   by_cases hz:i=0
   ·have er1:=t.out er rd rf
    refine itT (qI (by rw[hz])) ⟨_,O,fa,.ref (F 2),O,.inl ⟨fkv F 9,.inr "cuts",.inl (t.out dk X nff),O,(xAbl F 2 (by decide)).symm⟩,.inl ⟨O,_,SqL.of t.ec⟩,_,O,_,O,r,_,1,_,O,O,SqL.of er1,O,_,O,_,_,O,O,szOk rfl,λmq Z3 g3 y e3=>⟨szOk rfl,λq Z5 g5 M e5=>⟨F 2,cs,_,O,O,((t.same y).same M).ec,xAaj (by omega),?_⟩⟩⟩;have B5:=(t.same y).same M;have ep5:=(y.trans M) _ _ ep1;have t6:Tups Z5 (upd Z5 (F 2) (.lst (cs++[.ref q]))):=Tups.wl B5.ec;exact⟨cs++[.ref q],O,B5.cut a ⟨q,.ref C,.ref mq,[.inr "bo",.inl (30+(0+(j:Int)))],O,e5,gpt ep5,.inr np,⟨mq,O,M _ _ e3⟩,nm5 (by simp)⟩,t6 _ _ ep5,by rw[List.length_append,List.length_singleton];omega⟩
   ·exact itF (decide_eq_false λz=>hz (by injection z)) ⟨cs,O,t,ep1,by omega⟩
  rintro σ' Z11 ⟨cs',rfl,B11,ep11,hc11⟩;refine⟨_,O,.inl ⟨O,_,SqL.of B11.ek⟩,_,O,kq,kn,_,O,O,B11.ek,xAaj (by omega),?_⟩;exact⟨kn++[.ref C],_,_,_,_,_,_,_,O,B11.know a fk (gpt ep11) (.inr np),by rw[qe,hk];rfl,by rw[qe,qo];omega,by omega,by omega⟩
 ·rintro σ Z ⟨kn,bs,es,cs,u5,u6,u7,u8,rfl,B,hk,hb,he,hc⟩
  have hcn:c.toNat≤14:=by omega
  refine⟨_,O,fa,.ref (F 1),O,.inl ⟨fkv F 9,.inr "places",.inl (B.out dk X nff),O,(xAbl F 1 (by decide)).symm⟩,F 1,O,⟨_,SqL.of B.ev⟩,xAbd (xs:=es) (big (by omega)) (λj us Z'=>Z'=Z/\us.length≤j/\∀u∈us,∃p,GK Z (.tup p) u/\Nm p) ⟨O,qb _,λu z=>nomatch z⟩ (λ_ _ Z' s'=>by rw[s'.1];exact SqL.of B.ev) (λj x us Z' K1 K0 hx' s' k1 k0=>?_) λZ1 U us s' hu G=>?_⟩
  ·obtain⟨rfl,ul,ru⟩:=s'
   obtain⟨p',⟨b,vp,vo,vn,kq',x1,x2,rfl,h1,h2,_⟩,hw⟩:=B.fi.pc x (qh hx');refine iteT (B:=K0 Z') ?_;refine⟨_,O,b,_,0,_,O,O,SqT.of h1,O,k1 _ _ ⟨O,by rw[qe];exact Nat.add_le_add_right ul 1,λu hu=>?_⟩⟩;rcases zd.mp hu with hu|hu
   ·exact ru u hu
   ·rw[qt.mp hu];exact⟨_,h2,hw⟩
  obtain⟨rfl,ul,ru⟩:=s';have n1:Same Z1 (upd Z1 U (.lst us)):=Same.new G;have t:=B.same n1;have e1:(upd Z1 U (.lst us)) U=some (.lst us):=xAab
  have Y:∀u∈us,∃p,GK (upd Z1 U (.lst us)) (.tup p) u/\Nm p:=λu h=>let⟨p,g,n⟩:=ru u h;⟨p,g.tups n1.tups,n⟩
  have nl:U≠d:=B.dw.ne G
  have nlf:∀{i},i<3->U≠F i:=λ{i} h z=>by
   have:i=0\/i=1\/i=2:=by omega
   rcases this with rfl|rfl|rfl
   ·rw[z,B.eb]at G;cases G
   ·rw[z,B.ev]at G;cases G
   ·rw[z,B.ec]at G;cases G
  show tSeq _ _ _ _ (upd Z1 U (.lst us));generalize upd Z1 U (.lst us)=Z2 at t e1 Y;refine⟨_,O,d,4,O,t.dw,by decide,by decide,λm Z3 y w3 m0 m1=>?_⟩;refine⟨m,O,by omega,by omega,xAbt (lo:=0) (n:=m.toNat) (λj σ W=>∃es u5 u6 u7,σ=[some (.ref d),some (.ref fa),some (.ref r),some (.ref kq),some (.bl wd),u5,u6,u7,u8,some (.ref U)]/\PB H W d F kq kn bs es cs/\W U=some (.lst us)/\(∀u∈us,∃p,GK W (.tup p) u/\Nm p)/\es.length≤28+j) ⟨es,_,_,_,O,t.draw a y w3,DP.to y e1 nl,λu h=>let⟨p,g,n⟩:=Y u h;⟨p,g.tups (t.dw.tups y),n⟩,by omega⟩ ?_ ?_⟩
  ·rintro j σ W hj ⟨es,u5,u6,u7,rfl,B,el,ru,he⟩
   obtain⟨ps,pa⟩:∃ps:List (List Key),AL (λu p=>GK W (.tup p) u/\Nm p) us ps:=let⟨ps,h1,h2⟩:=xAcy ru;⟨ps,h1.symm,h2⟩
   have pd:DTs W us (ps.map tD):=AL.dts (λv p g=>gk_td g.1) pa;refine⟨_,O,szOk rfl,λzq W1 g1 D f1=>?_⟩;refine⟨.list (ps.map tD),.list [],.lst (SqL.of (D _ _ el)) (pd.same D).dv,.lst (SqL.of f1) .nil,?_,O,?_,_,O,?_⟩
   ·exact(xAge λk hk=>by obtain⟨_,_,_,h⟩:=pa.mem' hk;exact .inr h).1
   ·exact qc (yg _ _) (by decide)
   have t:=B.same D;have el1:=D _ _ el
   have Y:∀u∈us,∃p,GK W1 (.tup p) u/\Nm p:=λu h=>let⟨p,g,n⟩:=ru u h;⟨p,g.tups D.tups,n⟩
   cases us with
   |nil =>
    have:ps=[]:=wz.mp pa.1.symm;subst this;exact itF rfl ⟨es,_,_,_,O,t,el1,Y,by omega⟩
   |cons u0 us0 =>
    obtain⟨p0,ps0,rfl⟩:∃p0 ps0,ps=p0::ps0:=by
     cases ps with
     |nil=>have:=pa.1;cases this
     |cons p0 ps0=>exact⟨p0,ps0,O⟩
    refine itT rfl ?_
    have hul:((u0::us0).length:Int)≤28:=by have:=hu;omega
    have hu0:(0:Int)<((u0::us0).length:Nat):=by rw[qx];omega
    refine⟨_,O,_,O,_,O,U,_,O,.inl (SqL.of el1),d,_,O,t.dw,hu0,by omega,λi2 W2 s2 w2 x2 y2=>⟨U,_,i2,O,O,SqL.of (DP.to s2 el1 nl),x2,y2,λvp hvp=>?_⟩⟩;have S:=t.draw a s2 w2;refine⟨_,O,_,O,_,O,kq,_,O,.inl (SqL.of S.ek),d,_,O,S.dw,by omega,by omega,λi3 W3 y w3 x3 y3=>⟨kq,kn,i3,O,O,SqL.of (S.draw a y w3).ek,x3,y3,λvo hvo=>?_⟩⟩;have J:=S.draw a y w3;have t13:=(t.dw.tups s2).trans (S.dw.tups y);obtain⟨p1,gp1,hp1⟩:=Y vp hvp;obtain⟨p2,gp2,hp2⟩:=J.kn'.np hvo;have er3:=J.out er rd rf;have el3:=DP.to y (DP.to s2 el1 nl) nl;refine⟨_,O,fa,.ref (F 1),O,.inl ⟨fkv F 9,.inr "places",.inl (J.out dk X nff),O,(xAbl F 1 (by decide)).symm⟩,.inl ⟨O,_,SqL.of J.ev⟩,_,O,_,O,_,O,r,_,0,_,O,O,SqL.of er3,O,_,O,_,_,O,O,szOk rfl,λmq W4 g4 L e4=>⟨_,O,_,_,O,O,⟨by decide,by decide⟩,_,_,O,O,_,O,_,_,O,O,(by show(0:Int)<2;decide),szOk rfl,λcq W5 g5 M e5=>⟨szOk rfl,λq W6 g6 s6 e6=>⟨F 1,es,_,O,O,(((J.same L).same M).same s6).ev,xAaj (by omega),?_⟩⟩⟩⟩;have B6:=((J.same L).same M).same s6;have s36:=(L.trans M).trans s6;have t7:Tups W6 (upd W6 (F 1) (.lst (es++[.ref q]))):=Tups.wl B6.ev;have t17:=(t13.trans s36.tups).trans t7;exact⟨es++[.ref q],_,_,_,O,B6.place a ⟨q,vp,vo,.ref mq,cq,_,_,O,e6,gp1.tups (t13.trans s36.tups),⟨p2,gp2.tups s36.tups,hp2⟩,s6 _ _ e5⟩ hp1,by rw[xAae (nlf (by decide))];exact s36 _ _ el3,λu h=>let⟨p,g,n⟩:=Y u h;⟨p,g.tups t17,n⟩,by rw[qe,qo];omega⟩
  ·rintro σ W ⟨es,u5,u6,u7,rfl,B,el,ru,he⟩
   exact⟨_,O,kk W kq kn bs es cs B.ro fk B.ek B.kn' (by omega) (by omega) B.eb B.ev B.ec B.fi (by omega) (by omega) (by omega)⟩
def ok_fBk(T:Txt K mg tk)(F:FO K mg "_law_sign" s_fBk)(e:O_fBj P w K mg base):O_fBk P w K mg base:=by
 refine mk_ok F xAwo (λ_ _ _ _ _ _ u l=>match u,l with|[_,_],_=>rfl) (λ_ _ _ _ h=>xAgg h) λfa V A outer s H vs Q E n h=>?_
 refine⟨_,(xAaa (sn xAwo.nd 2 (cl e n (a2 (vv 0) xAaf)))
   (xAaa (ps_if (ck op_eq (vv 2) xAaf) (xAac (xAak (xAah (a2 xAai (xAdm xAth xAai xApe (xAby (pe_op xAbc xAaf (cl e n (a2 (vv 0) xAaf))))))))) xAan)
   (xAaa (ps_if (ck op_eq (vv 2) xAaf) (xAac (xAak (xAah (a2 xAai (xa (vv 1) (cl e n (a2 (vv 0) (cb xAag T.b_len boot_len (a1 (vv 1)))))))))) xAan)
   (xAac (xAak (pe_ix ix_str xAai (cl e n (a2 (vv 0) xAaf)) (λ_ _=>rfl))))))),?_⟩
 obtain⟨d,l,us,rfl,C,M,J,h0,h1,np,y⟩:=h;refine⟨_,O,d,8,O,C,by decide,by decide,λr H1 j o X Z=>?_⟩;refine⟨_,O,O,_,O,?_⟩;have W:=C.tups j
 by_cases D:r=0
 ·refine itT (qI (by rw[D])) ?_
  refine⟨_,O,d,8,O,o,by decide,by decide,λI H2 s2 m a2 Y=>?_⟩;obtain⟨k,rfl⟩:∃k:Nat,I=k:=⟨I.toNat,by omega⟩;obtain⟨B,q⟩:=cut_ok k (by omega);exact⟨_,_,O,O,_,O,"abcdefgh",O,szOk rfl,szOk rfl,λS t U f x=>y t _ (.tuple [.str "picture",.str _]) ((Same.dtrans j s2).trans f) (m.same f) (.tup x (.cons (.str _) (.cons (.str _) .nil))) (.inr (.inl ⟨_,O,q⟩)) (xAqb (by decide +kernel) (ok_str B))⟩
 refine itF (decide_eq_false λz=>D (by injection z)) ?_;refine⟨_,O,O,_,O,?_⟩
 by_cases L:r=1
 ·refine itT (qI (by rw[L])) ?_
  have g:=DP.to j M J;refine⟨_,O,_,O,_,O,l,_,O,.inl (SqL.of g),d,_,O,o,by omega,by omega,λi H2 s2 m a b=>⟨l,us,i,O,O,SqL.of (DP.to s2 g J),a,b,λv N=>⟨szOk rfl,λS t U f x=>?_⟩⟩⟩;obtain⟨p,R,G⟩:=(((np v N).tups W).tups (o.tups s2)).tups f.tups;exact y t _ (.tuple [.str "refer",tD p]) ((Same.dtrans j s2).trans f) (m.same f) (.tup x (.cons (.str _) (.cons (gk_td R) .nil))) (.inr (.inr ⟨p,O,G⟩)) (xAqb (by decide +kernel) (ok_tD G.lay))
 refine itF (decide_eq_false λz=>L (by injection z)) ?_;refine⟨_,O,d,29,O,o,by decide,by decide,λi H2 s2 m a b=>?_⟩;obtain⟨k,rfl⟩:∃k:Nat,i=k:=⟨i.toNat,by omega⟩;obtain⟨c,B,q⟩:=abc_ok k (by omega);exact⟨_,_,c,O,O,szOk rfl,B,y H2 _ (.str ⟨#[c]⟩) (Same.dtrans j s2) m (.str _) (.inl ⟨_,O,by show 1≤10;decide⟩) ⟨q,O,qy 3⟩⟩
def ok_fBe(T:Txt K mg tk)(F:FO K mg "_law_side" s_fBe)(a:O_fBj P w K mg base):O_fBe P w K mg base:=by
 refine mk_ok F sc_fBe (λ_ _ _ _ _ _ u l=>match u,l with|[_,_],_=>rfl) (λ_ _ _ _ h=>xAgf h) λfa J A outer s H vs Q E o h=>?_;refine⟨_,(xAac (xAak (xAah (a2 (xa (vv 1) (cl a o (a2 (vv 0) (cb xAag T.b_len boot_len (a1 (vv 1)))))) (xa (xAal (a2 xAai xAai)) (cl a o (a2 (vv 0) xAaf))))))),?_⟩;obtain⟨d,l,us,rfl,D,k,M,h0,h1,B⟩:=h;refine⟨_,O,_,O,_,O,l,_,O,.inl (SqL.of k),d,_,O,D,by omega,by omega,λr H1 p q C N=>⟨l,us,r,O,O,SqL.of (DP.to p k M),C,N,λv m=>?_⟩⟩;refine⟨szOk rfl,λn H2 G s2 L=>?_⟩;have e:n≠d:=q.ne G;refine⟨_,O,d,2,O,q.same s2,by decide,by decide,λI R z t g c=>⟨n,_,I,O,O,SqL.of (DP.to z L e),g,c,λw j=>⟨szOk rfl,λx f S i y=>?_⟩⟩⟩;have b:Same (del H d) f:=(Same.dtrans p (Same.sd s2 z)).trans i
 simp only[List.mem_cons,List.not_mem_nil,or_false]at j
 rcases j with rfl|rfl
 ·exact B f x v false b (t.same i) y m
 ·exact B f x v true b (t.same i) y m
def ok_fAp(T:Txt K mg tk)(F:FO K mg "_law_tables" s_fAp)(q:O_fBj P w K mg base):O_fAp P w K mg base:=by
 refine mk_ok F xAdb (λ_ _ _ _ _ _ u l=>match u,l with|[_,_,_,_],_=>rfl) (λ_ _ _ _ h=>xAea h) λfa cdv A outer s H vs Q E U h=>?_;have hu1:(A.deeper (envOfC "_law_tables" (defScope s_fAp) s.heap.objs.size fa cdv)).units+1<cLine:=hu_of U
 refine⟨_,(xAac (fo (il (xAdm xAku (vv 3) xApe (xAby xAaf))) (gn xAdb.nd 4)
   (xAaa (sn xAdb.nd 5 (xAal xAbm))
   (xAaa (sn xAdb.nd 6 (xAal xAbm))
   (xAaa (fo (xAbs (by rfl) T.b_range (a1 (cl q U (a2 (vv 0) xAaf)))) (gn xAdb.nd 7)
   (xAaa (sn xAdb.nd 8 (xa (xAal (a2 xAai xAai)) (cl q U (a2 (vv 0) xAaf))))
   (xAaa (sn xAdb.nd 9 (xAah (a2 (xl (vv 2)) (pe_op xAbc (pe_op xAbc xAaf (pe_op xAkf xAaf (bm PySem.F.plainAttrs_list PySem.F.slot_list_index PySem.F.type_list_index (ixD U) (vv 3) (a1 (vv 4))))) (vv 7)))))
   (xAaa (sn xAdb.nd 10 (xAah (a2 (pe_op xAbc (pe_op xAbc xAaf (pe_op xAkf xAaf (bm PySem.F.plainAttrs_list PySem.F.slot_list_index PySem.F.type_list_index (ixD U) (vv 3) (a1 (vv 4))))) (pe_op xAcq (vv 7) xAaf)) (pe_op xAcl (vv 7) xAaf))))
   (xAaa (ap (xAat hu1 (vv 1) xAai (λ_ _=>rfl)) (a1 (xAah (ac (vv 4) (ac (vv 8) (ac (vv 9) (ac xAcf (a2 (vv 10) (ce op_gt (cl q U (a2 (vv 0) xAaf)) xAaf)))))))))
   (xAac (ap (xa (xAal (a2 (vv 5) (vv 6))) (cy xAho T.b_int boot_int (a1 (ce op_eq (vv 8) xAai)))) (a1 (vv 9)))))))))
   (xAac (fo (xAbs (by rfl) T.b_range (a1 (cl q U (a2 (vv 0) xAaf)))) (gn xAdb.nd 7)
   (xAac (ps_if (xAfw (PW.pt (xAem (ck (neD U) (vv 5) (xAal xAbm)) (xAcp (ck (neD U) (vv 6) (xAal xAbm)))))) (xAaa (sn xAdb.nd 11 (xa (vv 5) (cl q U (a2 (vv 0) (cb xAag T.b_len boot_len (a1 (vv 5)))))))
   (xAaa (sn xAdb.nd 12 (xa (vv 6) (cl q U (a2 (vv 0) (cb xAag T.b_len boot_len (a1 (vv 6)))))))
   (xAaa (sn xAdb.nd 13 (xa (xAal (ac xAai (a2 xAai xAai))) (cl q U (a2 (vv 0) xAaf))))
   (xAaa (sn xAdb.nd 10 (xAah (a2 (pe_op xAbc (pe_op xAbc xAaf (pe_op xAkf xAaf (bm PySem.F.plainAttrs_list PySem.F.slot_list_index PySem.F.type_list_index (ixD U) (vv 3) (a1 (vv 4))))) (pe_op xAcq (vv 7) xAaf)) (pe_op xAcl (vv 7) xAaf))))
   (xAac (ap (xAat hu1 (vv 1) xAai (λ_ _=>rfl)) (a1 (xAah (ac (vv 4) (ac (vv 11) (ac (vv 12) (a2 (vv 13) (vv 10))))))))))))) xAan))))))))),?_⟩
 obtain⟨d,fa,r,kq,F,kn,rfl,dw,dk,e6,e7,er,ek,hkn,k0,k1,rd,kd',fr,n67,kk⟩:=h;have n6:F 6≠d:=(fr 6 (by decide)).1;have n7:F 7≠d:=(fr 7 (by decide)).1
 have nfd:fa≠d:=λz=>by obtain⟨_,_,e⟩:=dw;rw[←z,dk]at e;cases e
 have nf6:fa≠F 6:=λz=>by rw[←z,dk]at e6;cases e6
 have nf7:fa≠F 7:=λz=>by rw[←z,dk]at e7;cases e7
 have r6:r≠F 6:=(fr 6 (by decide)).2.1;have r7:r≠F 7:=(fr 7 (by decide)).2.1;have q6:kq≠F 6:=(fr 6 (by decide)).2.2;have q7:kq≠F 7:=(fr 7 (by decide)).2.2;refine⟨_,O,3,O,kq,kn,O,SqL.of ek,λsq H1 g1 S e1=>?_⟩;have sd:sq≠d:=dw.ne g1
 have s6:sq≠F 6:=λz=>by rw[z,e6]at g1;cases g1
 have s7:sq≠F 7:=λz=>by rw[z,e7]at g1;cases g1
 have lc:(cutV kn none (some 3)).length≤15:=qc (xAct _ _ _) k1;have B1:UB H1 H1 d F (90+10 * ((0:Nat):Int)) (100+10 * ((0:Nat):Int)) 0 (λ_=>⟨[],"",[],none,0,0,false⟩) 0 0 []:=⟨Rest.refl,dw.same S,S _ _ e6,.nil,⟨qy _,(λi j _ z=>nomatch z),(λi z=>nomatch z),(λi z=>nomatch z),(λi z=>nomatch z)⟩,(λi z=>nomatch z),(λi z=>nomatch z),(λi z=>nomatch z),⟨[],S _ _ e7,(λx z=>nomatch z),qb _⟩⟩;refine⟨sq,O,⟨_,SqL.of e1⟩,xAas (xs:=cutV kn none (some 3)) (λj σ Z=>∃L l ls u4 u5 u6 Y u8 u9 f C G t,σ=[some (.ref d),some (.ref fa),some (.ref r),some (.ref kq),u4,u5,u6,Y,u8,u9,f,C,G,t]/\UB H1 Z d F (90+10 * (j:Int)) (100+10 * (j:Int)) 0 L l (4 * j) ls/\l≤5 * j/\ls.length=l) ⟨_,_,_,_,_,_,_,_,_,_,_,_,_,O,B1,qb _,O⟩ ?_ ?_ ?_⟩
 ·rintro j σ Z - ⟨L,l,ls,u4,u5,u6,Y,u8,u9,f,C,G,t,rfl,B,-⟩
  exact SqL.of (B.out e1 sd s6 s7)
 ·rintro j vp σ Z hx ⟨L,l,ls,u4,u5,u6,Y,u8,u9,f,C,G,t,rfl,B,hl,J⟩
  have hj:j<15:=qq (qm.mp hx).1 lc;have hxk:=cut3 hx;have kn1:=hkn.tups S.tups
  have nt:∀b,(b=d\/b=F 6\/b=F 7)->∀xs,H1 b≠some (.tup xs):=λb z ys e=>by
   rcases z with z|z|z <;> subst z
   ·obtain⟨_,_,e'⟩:=dw
    rw[S _ _ e']at e;cases e
   ·rw[S _ _ e6]at e;cases e
   ·rw[S _ _ e7]at e;cases e
  have knz:∀{Z':Hp},Rest H1 Z' (λb=>b=d\/b=F 6\/b=F 7)->KN Z' kn:=λr=>kn1.tups (xAbu r nt);refine⟨szOk rfl,λrq Z1 g1' c e1'=>⟨szOk rfl,λcq Z2 g2 s2 e2=>?_⟩⟩;obtain⟨rq0,I,rq6,rq7⟩:=B.free g1';obtain⟨cq0,D,cq6,cq7⟩:=(B.same c).free g2
  have rc:rq≠cq:=λz=>by rw[←z,e1']at g2;cases g2
  have M:=(B.same c).same s2;have R2:RC Z2 rq cq [] [] 0:=⟨s2 _ _ e1',e2,(λu z=>nomatch z),(λu z=>nomatch z),qb _,qb _⟩;refine⟨_,O,d,5,O,M.dw,by decide,by decide,λi3 Z3 X w3 x3 y3=>?_⟩;refine⟨i3,O,by omega,by omega,xAbt (lo:=0) (n:=i3.toNat) (λk σ Z=>∃L l ls us vs Y u8 u9 f,σ=[some (.ref d),some (.ref fa),some (.ref r),some (.ref kq),some vp,some (.ref rq),some (.ref cq),Y,u8,u9,f,C,G,t]/\UB H1 Z d F (90+10 * (j:Int)+(k:Int)) (100+10 * (j:Int)+(k:Int) / 2) ((k:Int) % 2) L l (4 * j) ls/\RC Z rq cq us vs k/\l≤5 * j+k/\ls.length=l) ⟨_,_,_,_,_,_,_,_,_,O,(M.draw n6 n7 X w3).up (Int.le_of_eq (by omega)) (λa b h=>by unfold Lt2 at h ⊢;omega) (qb _),R2.draw M.dw I D X,by omega,J⟩ ?_ ?_⟩
  ·rintro k σ W hk ⟨L,l,ls,us,vs,Y,u8,u9,f,rfl,B,R,hl,J⟩
   refine⟨szOk rfl,λy1 Z1 g1 c f1=>⟨_,O,d,2,O,(B.same c).dw,by decide,by decide,λi2 Z2 s2 w2 x2 y2=>⟨y1,_,i2,O,O,SqL.of (DP.to s2 f1 (B.dw.ne g1)),x2,y2,λvw hvw=>?_⟩⟩⟩
   obtain⟨wy,rfl⟩:∃wy,vw=.str wy:=by
    simp only[List.mem_cons,List.not_mem_nil,or_false]at hvw
    rcases hvw with h|h <;> exact⟨_,h⟩
   have M:=(B.same c).draw n6 n7 s2 w2;have R2:=(R.same c).draw (B.same c).dw I D s2;have ek2:=M.out (S _ _ ek) kd' q6 q7;obtain⟨p,ds,gp2,pn,dv,dvs,la,lal,dep,ix1,ix2⟩:=(knz M.ro).idx hxk;refine⟨_,O,r,_,1,_,O,O,SqL.of (M.out (S _ _ er) rd r6 r7),O,_,O,.inl ⟨O,_,SqL.of ek2⟩,_,O,_,_,kq,ds,kn,j,O,O,dv,SqL.of ek2,dvs,la,lal,dep,ix1,ix2,_,_,O,O,.inl ⟨by decide,by decide⟩,_,_,O,O,_,O,_,_,O,O,szOk rfl,λq3 Z3 g3 s3' e3=>?_⟩;rw[Int.zero_add]at e3;have B3:=M.same s3';have R3:=R2.same s3';have ek3:=s3' _ _ ek2;obtain⟨p',ds',gp3,pn',dv',dvs',la',lal',dep',ix1',ix2'⟩:=(knz B3.ro).idx hxk;refine⟨_,O,.inl ⟨O,_,SqL.of ek3⟩,_,O,_,_,kq,ds',kn,j,O,O,dv',SqL.of ek3,dvs',la',lal',dep',ix1',ix2',_,_,O,O,.inl ⟨by decide,by decide⟩,_,_,O,O,_,O,_,_,O,O,⟨by decide,by decide⟩,_,_,O,O,_,O,_,_,O,O,(by decide:(0:Int)<2),szOk rfl,λq4 Z4 g4 s4 e4=>?_⟩;rw[Int.zero_add]at e4;have B4:=B3.same s4;have R4:=R3.same s4;refine⟨_,O,fa,.ref (F 6),O,.inl ⟨fkv F 9,.inr "lines",.inl (B4.out (S _ _ dk) nfd nf6 nf7),O,(xAbl F 6 (by decide)).symm⟩,.inl ⟨O,_,SqL.of B4.e6⟩,_,O,_,O,_,O,_,O,_,O,d,4,O,B4.dw,by decide,by decide,λi5 Z5 s5 w5 x5 y5=>⟨_,_,O,O,szOk rfl,λN Z6 g6 g e6'=>⟨F 6,ls,_,O,O,((B4.draw n6 n7 s5 w5).same g).e6,xAaj (by omega),?_⟩⟩⟩;have B5:=B4.draw n6 n7 s5 w5;have B6:=B5.same g;have R6:=(R4.draw B4.dw I D s5).same g;have t46:=(B4.dw.tups s5).trans g.tups;have t36:=s4.tups.trans t46;have e36:=t36 _ _ e3;have B7:=B6.line (X':=90+10 * (j:Int)+((k+1:Nat):Int)) (A':=100+10 * (j:Int)+((k+1:Nat):Int) / 2) (B':=((k+1:Nat):Int) % 2) (r:=⟨p,wy,[.inr "bo",.inl (90+10 * (j:Int)+(k:Int))],none,100+10 * (j:Int)+(k:Int) / 2,(k:Int) % 2,_⟩) n6 n67 (by omega) ⟨N,_,_,_,q4,O,e6',gp2.tups (s3'.tups.trans t36),⟨q3,O,e36⟩,O,t46 _ _ e4⟩ rfl rfl rfl rfl pn.lay (by omega) (by unfold Lt2;omega);have R7:=R6.wr (o:=.lst (ls++[.ref N])) B6.e6 rq6 cq6;have t7:Tups Z6 (upd Z6 (F 6) (.lst (ls++[.ref N]))):=Tups.wl B6.e6;have e37:=t7 _ _ e36;generalize upd Z6 (F 6) (.lst (ls++[.ref N]))=Z7 at B7 R7 e37;refine⟨_,O,_,O,szOk rfl,λy8 Z8 g8 s8 f8=>?_⟩;have B8:=B7.same s8;have R8:=R7.same s8;have e38:=s8 _ _ e37;generalize hbb:decide (V.str wy=V.str "column")=bb
   have ixw:((if bb=true then 1 else 0:Int))<2:=by cases bb <;> decide
   refine⟨_,O,O,.inr ⟨bb,by rw[hbb],y8,_,_,O,O,SqL.of f8,by cases bb <;> decide,ixw,λv hv=>?_⟩⟩;have np:Pn [.inr "bo",.inl (90+10 * (j:Int)+(k:Int))]:=.inr (nm5 (by simp))
   have vc:v=.ref rq\/v=.ref cq:=by simpa only[List.mem_cons,List.not_mem_nil,or_false] using hv
   have lu:=R8.lu;have lv:=R8.lv;rcases vc with rfl|rfl
   ·refine⟨.inl ⟨O,_,SqL.of R8.er⟩,_,O,rq,us,_,O,O,R8.er,xAaj (by omega),?_⟩
    exact⟨_,_,_,_,_,_,_,_,_,O,B8.own R8.er rq0 I rq6 rq7,R8.row rc (p:=[.inr "bo",.inl (90+10 * (j:Int)+(k:Int))]) ⟨q3,O,e38⟩ np,by omega,by rw[qe,qo,J]⟩
   ·refine⟨.inl ⟨O,_,SqL.of R8.ec⟩,_,O,cq,vs,_,O,O,R8.ec,xAaj (by omega),?_⟩
    exact⟨_,_,_,_,_,_,_,_,_,O,B8.own R8.ec cq0 D cq6 cq7,(R8.turn.row rc.symm (p:=[.inr "bo",.inl (90+10 * (j:Int)+(k:Int))]) ⟨q3,O,e38⟩ np).turn,by omega,by rw[qe,qo,J]⟩
  ·rintro σ W ⟨L,l,ls,us,vs,Y,u8,u9,f,rfl,B,R,hl,J⟩
   have R5:=R.le (show i3.toNat≤5 by omega);refine⟨_,O,d,4,O,B.dw,by decide,by decide,λm Z3 X w3 x3' y3'=>?_⟩;refine⟨m,O,by omega,by omega,xAbt (lo:=0) (n:=m.toNat) (λk σ Z=>∃Y f C G t,σ=[some (.ref d),some (.ref fa),some (.ref r),some (.ref kq),some vp,some (.ref rq),some (.ref cq),Y,u8,u9,f,C,G,t]/\UB H1 Z d F (90+10 * ((j+1:Nat):Int)) (100+10 * ((j+1:Nat):Int)) 0 L l (4 * j+k) ls/\RC Z rq cq us vs 5) ⟨_,_,_,_,_,O,(B.draw n6 n7 X w3).up (by omega) (λa b h=>by unfold Lt2 at h ⊢;omega) (qb _),R5.draw B.dw I D X⟩ ?_ ?_⟩
   ·rintro k σ W hk ⟨Y,f,C,G,t,rfl,B,R⟩
    refine⟨λb Z=>(b=true->us≠[]/\vs≠[])/\UB H1 Z d F (90+10 * ((j+1:Nat):Int)) (100+10 * ((j+1:Nat):Int)) 0 L l (4 * j+k) ls/\RC Z rq cq us vs 5,?_,?_⟩
    ·obtain⟨ps,pl,pd,lay⟩:=xAmy R.ru
     refine⟨_,O,szOk rfl,λzq W1 g1 c f1=>⟨.list (ps.map tD),.list [],.lst (SqL.of (c _ _ R.er)) (pd.same c).dv,.lst (SqL.of f1) .nil,lay,O,qc (yg _ _) (by decide),_,O,?_⟩⟩;have B1:=B.same c;have R1:=R.same c
     cases us with
     |nil =>
      have:ps=[]:=wz.mp pl.symm;subst this;exact itF rfl ⟨(λz=>nomatch z),B1,R1⟩
     |cons w0 ws0 =>
      obtain⟨p0,ps0,rfl⟩:∃p0 ps0,ps=p0::ps0:=by
       cases ps with
       |nil=>cases pl
       |cons p0 ps0=>exact⟨p0,ps0,O⟩
      refine itT rfl ?_;obtain⟨qs,ql,qd,qlay⟩:=xAmy R1.cu;refine⟨_,O,szOk rfl,λzq W2 g2 s2 f2=>⟨.list (qs.map tD),.list [],.lst (SqL.of (s2 _ _ R1.ec)) (qd.same s2).dv,.lst (SqL.of f2) .nil,qlay,O,qc (yg _ _) (by decide),_,O,?_⟩⟩;refine⟨λz=>⟨(λy=>nomatch y),λy=>?_⟩,B1.same s2,R1.same s2⟩;subst y;have:qs=[]:=wz.mp ql.symm;subst this;cases z
    ·rintro b Z ⟨hb,B,R⟩
     cases b with
     |false=>exact itF rfl ⟨_,_,_,_,_,O,B.up (Int.le_refl _) (λa b h=>h) (wg _),R⟩
     |true =>
      refine itT rfl ?_;obtain⟨u1,v1⟩:=hb rfl;have u0:0<us.length:=j8.mpr u1;have v0:0<vs.length:=j8.mpr v1;have lu:=R.lu;have lv:=R.lv;refine⟨_,O,_,O,_,O,rq,_,O,.inl (SqL.of R.er),d,_,O,B.dw,by omega,by omega,λi1 Z1 c w1 x1 y1=>⟨rq,us,i1,O,O,SqL.of (DP.to c R.er I),x1,y1,λva hva=>?_⟩⟩;have B1:=B.draw n6 n7 c w1;have R1:=R.draw B.dw I D c;obtain⟨pa,ga,na⟩:=R1.ru va hva;refine⟨_,O,_,O,_,O,cq,_,O,.inl (SqL.of R1.ec),d,_,O,B1.dw,by omega,by omega,λi2 Z2 s2 w2 x2 y2=>⟨cq,vs,i2,O,O,SqL.of (DP.to s2 R1.ec D),x2,y2,λvb hvb=>?_⟩⟩;have M:=B1.draw n6 n7 s2 w2;have R2:=R1.draw B1.dw I D s2;obtain⟨pb,gb,nb⟩:=R2.cu vb hvb;refine⟨szOk rfl,λy3 Z3 g3 X f3=>⟨_,O,d,3,O,(M.same X).dw,by decide,by decide,λi4 Z4 s4 w4 x4 y4=>⟨y3,_,i4,O,O,SqL.of (DP.to s4 f3 (M.dw.ne g3)),x4,y4,λvw hvw=>?_⟩⟩⟩
      obtain⟨wd,rfl⟩:∃wd,vw=.str wd:=by
       simp only[List.mem_cons,List.not_mem_nil,or_false]at hvw
       rcases hvw with h|h|h <;> exact⟨_,h⟩
      have B4:=(M.same X).draw n6 n7 s4 w4;have R4:=(R2.same X).draw (M.same X).dw I D s4;have t24:=X.tups.trans ((M.same X).dw.tups s4);have ek4:=B4.out (S _ _ ek) kd' q6 q7;obtain⟨p,ds,gp4,pn,dv,dvs,la,lal,dep,ix1,ix2⟩:=(knz B4.ro).idx hxk;refine⟨_,O,.inl ⟨O,_,SqL.of ek4⟩,_,O,_,_,kq,ds,kn,j,O,O,dv,SqL.of ek4,dvs,la,lal,dep,ix1,ix2,_,_,O,O,.inl ⟨by decide,by decide⟩,_,_,O,O,_,O,_,_,O,O,⟨by decide,by decide⟩,_,_,O,O,_,O,_,_,O,O,(by decide:(0:Int)<2),szOk rfl,λq5 Z5 g5 s5 e5=>?_⟩;rw[Int.zero_add]at e5;have B5:=B4.same s5;obtain⟨cs,ec,hcs,lcs⟩:=B5.e7;refine⟨_,O,fa,.ref (F 7),O,.inl ⟨fkv F 9,.inr "cells",.inl (B5.out (S _ _ dk) nfd nf6 nf7),O,(xAbl F 7 (by decide)).symm⟩,.inl ⟨O,_,SqL.of ec⟩,_,O,_,O,_,O,_,O,_,O,szOk rfl,λN Z6 g6 g e6'=>⟨F 7,cs,_,O,O,g _ _ ec,xAaj (by omega),?_⟩⟩;have B6:=B5.same g;have s46:=s5.trans g;have t26:=t24.trans s46.tups;have t16:=(B1.dw.tups s2).trans t26;exact⟨_,_,_,_,_,O,B6.cell n7 n67 (g _ _ ec) (λx hx=>(hcs x hx).tups g.tups) lcs ⟨(_,_),N,_,p,_,pa,_,pb,wd,q5,O,e6',gp4.tups s46.tups,pn,ga.tups t16,gb.tups t26,g _ _ e5⟩,(R4.same s46).wr (g _ _ ec) rq7 cq7⟩
   ·rintro σ W ⟨Y,f,C,G,t,rfl,B,R⟩
    exact⟨L,l,ls,_,_,_,_,_,_,_,_,_,_,O,B.up (Int.le_refl _) (λa b h=>h) (by omega),by omega,J⟩
 ·rintro σ Z ⟨L,l,ls,u4,u5,u6,Y,u8,u9,f,C,G,t,rfl,B,hl,J⟩
  exact kk Z L l ls (λb o e n=>B.ro b o (S _ _ e) n) B.e6 B.al B.wl (B.e7.le (by omega))
def ok_fAq(T:Txt K mg tk)(F:FO K mg "_law_leaves" s_fAq)(c:O_fBj P w K mg base):O_fAq P w K mg base:=by
 refine mk_ok F xAmz (λ_ _ _ _ _ _ u l=>match u,l with|[_,_,_,_],_=>rfl) (λ_ _ _ _ h=>xAdz h) λfa cdv A outer s H vs Q E i h=>?_;have hu1:(A.deeper (envOfC "_law_leaves" (defScope s_fAq) s.heap.objs.size fa cdv)).units+1<cLine:=hu_of i
 refine⟨_,(xAac (fo (xAbs (by rfl) T.b_range (a1 (cl c i (a2 (vv 0) xAaf)))) (gn xAmz.nd 4)
   (xAaa (sn xAmz.nd 5 (xa (vv 3) (cl c i (a2 (vv 0) (cb xAag T.b_len boot_len (a1 (vv 3)))))))
   (xAaa (sn xAmz.nd 6 (xa (vv 2) (cl c i (a2 (vv 0) (cb xAag T.b_len boot_len (a1 (vv 2)))))))
   (xAaa (sn xAmz.nd 7 (xa (xAal (ac xAai (ac xAai (ac xAai (a2 xAai xAai))))) (cl c i (a2 (vv 0) xAaf))))
   (xAac (ap (xAat hu1 (vv 1) xAai (λ_ _=>rfl)) (a1 (xAah (ac (vv 5) (ac (vv 6) (ac (vv 7) (a2 (ce op_gt (cl c i (a2 (vv 0) xAaf)) xAaf) (xAah (a2 (pe_op xAbc xAaf (pe_op xAcq (vv 4) xAaf)) (pe_op xAcl (vv 4) xAaf)))))))))))))))),?_⟩
 obtain⟨d,fa,r,kq,F,kn,rfl,U,dk,x,er,ek,k0,k1,np,J,M,g,n4,n5,kk⟩:=h
 have nd:fa≠d:=λz=>by obtain⟨_,_,e⟩:=U;rw[←z,dk]at e;cases e
 have n8:fa≠F 8:=λz=>by rw[←z,dk]at x;cases x
 have hX:∀b,(b=d\/b=F 8)->∃xs,H b=some (.lst xs):=λb hb=>by
  rcases hb with rfl|rfl
  ·obtain⟨_,_,e⟩:=U;exact⟨_,e⟩
  ·exact⟨_,x⟩
 refine⟨_,O,d,7,O,U,by decide,by decide,λm H1 v S m0 m1=>?_⟩;have L1:LV H H1 d (F 8) []:=⟨Rest.refl.del (.inl rfl) v,S,DP.to v x g,λy z=>nomatch z⟩;refine⟨_,O,by omega,by omega,xAbt (lo:=0) (n:=m.toNat) (λj σ Z=>∃ys G N R Y,σ=[some (.ref d),some (.ref fa),some (.ref r),some (.ref kq),G,N,R,Y]/\LV H Z d (F 8) ys/\ys.length=j) ⟨[],_,_,_,_,O,L1,O⟩ ?_ ?_⟩
 ·rintro j σ Z hj ⟨ys,G,N,R,Y,rfl,L,hl⟩
  have out:∀{b:Addr} {o:HO} {W:Hp} {zs:List V},LV H W d (F 8) zs->b≠d->b≠F 8->H b=some o->W b=some o:=λL a1 a2 e=>L.rs _ _ e λz=>z.elim a1 a2;refine⟨_,O,_,O,_,O,kq,_,O,.inl (SqL.of (out L M n5 ek)),d,_,O,L.dw,by omega,by omega,λi1 Z1 v S a1 b1=>⟨kq,kn,i1,O,O,SqL.of (DP.to v (out L M n5 ek) M),a1,b1,λvp X=>?_⟩⟩;have C:=L.draw g v S;refine⟨_,O,_,O,_,O,r,_,O,.inl (SqL.of (out C J n4 er)),d,_,O,C.dw,by show(0:Int)<2;decide,by show(2:Int)<1000;decide,λi2 Z2 s2 d2 a2 b2=>⟨r,_,i2,O,O,SqL.of (DP.to s2 (out C J n4 er) J),a2,b2,λvh t=>?_⟩⟩;have L3:=C.draw g s2 d2;refine⟨szOk rfl,λtl H4 g4 s4 e4=>?_⟩;have L4:=L3.same s4;have nt:tl≠d:=L3.dw.ne g4;refine⟨_,O,d,5,O,L4.dw,by decide,by decide,λi3 Z3 s3 d3 a3 b3=>⟨tl,_,i3,O,O,SqL.of (DP.to s3 e4 nt),a3,b3,λvt q=>?_⟩⟩;have B:=L4.draw g s3 d3
  obtain⟨hd,rfl⟩:∃z,vh=.str z:=by
   simp only[List.mem_cons,List.not_mem_nil,or_false]at t
   rcases t with h|h <;> exact⟨_,h⟩
  obtain⟨tt,rfl⟩:∃z,vt=.str z:=by
   simp only[List.mem_cons,List.not_mem_nil,or_false]at q
   rcases q with h|h|h|h|h <;> exact⟨_,h⟩
  refine⟨_,O,fa,.ref (F 8),O,.inl ⟨fkv F 9,.inr "leaves",.inl (out B nd n8 dk),O,(xAbl F 8 (by decide)).symm⟩,.inl ⟨O,_,SqL.of B.ey⟩,_,O,_,O,_,O,_,O,d,3,O,B.dw,by decide,by decide,λi4 Z4 s5 d5 a4 b4=>?_⟩;have L6:=B.draw g s5 d5;refine⟨_,_,O,O,_,O,_,_,O,O,⟨by decide,by decide⟩,_,_,O,O,_,O,_,_,O,O,(by show(0:Int)<2;decide),szOk rfl,λcq Z5 g5 s6 e5=>⟨szOk rfl,λI Z6 g6 s7 e6=>?_⟩⟩;have f:=(L6.same s6).same s7;refine⟨F 8,ys,_,O,O,f.ey,xAaj (by omega),?_⟩;have D:Tups Z6 (upd Z6 (F 8) (.lst (ys++[.ref I]))):=Tups.wl f.ey;refine⟨ys++[.ref I],_,_,_,_,O,⟨f.rs.wr (.inr rfl),?_,xAab,λy k=>?_⟩,by rw[qe,hl];rfl⟩
  ·obtain⟨a,b,e⟩:=f.dw
   exact⟨a,b,by rw[xAae g.symm];exact e⟩
  ·rcases zd.mp k with k|k
   ·exact(f.lr y k).tups D
   ·rw[qt.mp k]
    obtain⟨p,gp,hp⟩:=(np vp X).tups (f.rs.tups hX);exact⟨(_,_),I,vp,p,hd,tt,_,cq,O,D _ _ e6,gp.tups D,hp,D _ _ (s7 _ _ e5)⟩
 ·rintro σ Z ⟨ys,G,N,R,Y,rfl,L,hl⟩
  exact kk Z ys L.rs L.ey L.lr (by omega)
def ok_fBc(T:Txt K mg tk)(F:FO K mg "_law_right" s_fBc)(N:O_fBh P w K mg base):O_fBc P w K mg base:=by
 refine mk_ok F xAfg (λ_ _ _ _ _ _ u l=>match u,l with|[_,_],_=>rfl) (λ_ _ _ _ h=>xAfc h) λfa cdv A outer s H vs Q E hr h=>?_;have hu1:(A.deeper (envOfC "_law_right" (defScope s_fBc) s.heap.objs.size fa cdv)).units+1<cLine:=hu_of hr
 refine⟨_,(xAaa (sn xAfg.nd 2 xAcb)
   (xAaa (fo (il (xAat hu1 (vv 0) xAai (λ_ _=>rfl))) (gn xAfg.nd 3)
   (xAac (xAbe (hu2 hr) (vv 2) (xt (vv 3)) (xt (vv 3)) rfl)))
   (xAaa (sn xAfg.nd 4 xAcb)
   (xAaa (fo (il (vv 1)) (gn xAfg.nd 5)
   (xAac (xAbe (hu2 hr) (vv 4) (xt (vv 5)) (xt (vv 5)) rfl)))
   (xAaa (fo (il (vv 1)) (gn xAfg.nd 5)
   (xAac (ps_if (ck xAkg (xt (vv 5)) xAcf) (xAac (fo (il (xt (vv 5))) (gt (xAam (gn xAfg.nd 6) (xAam (gn xAfg.nd 7) (xAam (gn xAfg.nd 8) xAch))))
   (xAac (ps_if (PW.pt (pw_or (xAqe (xAck (cb xAmv T.b_isinstance boot_isinstance (a2 (vv 7) (xAkd (v:=.ty "str") (by rfl) T.b_str boot_str rfl))))) (xAqd (ck op_ne (vv 7) (cl N hr (a2 (xAap (hu2 hr) (vv 2) (vv 6) (λ_ _=>rfl)) (vv 4))))))) (xAac (xAak pe_bl)) xAan)))) xAan)))
   (xAac (xAak pe_bl))))))),?_⟩
 obtain⟨fa,F,S,n,G,es,ps,k,rfl,fz,sok,o,hel,al,cp,bd,kk⟩:=h;obtain⟨kvs0,la,vs,rd,U,X,an,W⟩:=fz.fg
 have hvl:vs.length=n:=by rw[an.1,zk]
 have few:=W.few;intro dq H1 g1 s1 e1;have fd:H dq=none:=g1;refine⟨_,O,fa,.ref la,O,.inl ⟨kvs0,.inr "signs",Rd.same rd s1,O,U.symm⟩,la,O,⟨_,SqL.of (s1 _ _ X)⟩,xAas (xs:=vs) (λj σ q=>∃kvs I,σ=[some (.ref fa),some (.ref G),some (.ref dq),I,none,none,none,none,none]/\Same H q/\q dq=some (.dG kvs)/\kvs.length≤j/\∀i,i<j->i<n->∃v,vG kvs (.tup (nkS S i))=some v/\DT H v (S i).sg) ⟨[],_,O,s1,e1,qb _,λi h=>absurd h (zw i)⟩ (λj σ q _ ⟨_,_,_,s,_⟩=>SqL.of (s _ _ X)) ?_ ?_⟩
 ·rintro j x σ q r ⟨kvs,I,rfl,m,ed,hkl,inv⟩
  have hj:j<n:=by rw[←hvl];exact(qm.mp r).1
  obtain⟨i,ei,sn⟩:=an.at r;rw[jw hj]at ei;cases ei;obtain⟨b,vq,vn,vb,kq,vg,rfl,h1,h2,h3,M,h5,h6⟩:=sn;refine⟨_,O,b,_,4,_,O,O,SqT.of (m _ _ h1),O,_,O,_,O,b,_,1,_,O,O,SqT.of (m _ _ h1),O,dq,kvs,.tup (nkS S j),O,ed,NM.tups h3 m.tups,xAaw (by omega),?_⟩;refine⟨_,_,O,m.wr fd,xAab,qc (xAca _ _ _ _) (by omega),λi hi hin=>?_⟩;rw[xAbx]
  by_cases z:i=j
  ·subst z
   exact⟨vg,qF rfl,h6⟩
  ·rw[qB (show ¬KD.tup (nkS S i)=KD.tup (nkS S j) from λe=>z (W.inj i hin j hj (KD.tup.inj e)))]
   exact inv i (by omega) hin
 rintro σ q ⟨kvs,I,rfl,m,ed,hkl,inv⟩;rw[hvl]at inv;intro nq H4 g4 s4 e4;have fn:q nq=none:=g4;refine⟨_,O,G,O,⟨_,SqL.of ((m.trans s4) _ _ o)⟩,xAas (xs:=es) (λj σ B=>∃c Z,σ=[some (.ref fa),some (.ref G),some (.ref dq),I,some (.ref nq),Z,none,none,none]/\Same q B/\B nq=some (.dG c)/\c.length≤j/\(∀p∈ps.take j,vG c (.tup p)=(k p).map V.str)/\∀p,p∉ps.take j->vG c (.tup p)=none) ⟨[],_,O,s4,e4,qb _,(λp z=>nomatch z),λp _=>rfl⟩ (λj σ B _ ⟨_,_,_,s,_⟩=>SqL.of ((m.trans s) _ _ o)) ?_ ?_⟩
 ·rintro j x σ B r ⟨c,Z,rfl,s5,en,R,a⟩
  have hj:j<es.length:=(qm.mp r).1;obtain⟨p,ep,ey⟩:=al.at r;obtain⟨b,z,vp,x2,x3,x4,rfl,h1,h2,h3,M,h5⟩:=ey.same (m.trans s5);refine⟨_,O,b,_,0,_,O,O,SqT.of h1,O,_,O,_,O,b,_,1,_,O,O,SqT.of h1,O,nq,c,.tup p,O,en,h2,xAaj (by omega),?_⟩
  have tk:ps.take (j+1)=ps.take j++[p]:=by rw[zh,ep];rfl
  refine⟨_,_,O,s5.wr fn,xAab,qc (xAca _ _ _ _) (by omega),λL d=>?_,λL d=>?_⟩
  ·rw[xAbx]
   by_cases e:L=p
   ·subst e
    rw[qF rfl,M];rfl
   ·rw[qB (show ¬KD.tup L=KD.tup p from λz=>e (KD.tup.inj z))]
    rw[tk]at d;rcases zd.mp d with g|g
    ·exact a.1 L g
    ·exact absurd (qt.mp g) e
  ·rw[tk]at d
   rw[xAbx,qB (show ¬KD.tup L=KD.tup p from λz=>d (by rw[KD.tup.inj z];simp))];exact a.2 L λg=>d (z8 _ g)
 rintro σ B ⟨c,Z,rfl,s5,en,R,a⟩;rw[al.1,zm]at a
 have nd:NumD B nq k:=⟨c,en,λp hp=>⟨by
  cases e:k p with
  |none =>
   refine a.2 p λg=>?_;obtain⟨x,_,_,_,_,_,_,_,_,_,_,_,M,_⟩:=al.mem' g;rw[e]at M;cases M
  |some z =>
   rw[a.1 p (cp p hp (by rw[e];rfl)),e],bd p⟩⟩
 have f:=m.trans s5;refine⟨_,O,G,O,⟨_,SqL.of (f _ _ o)⟩,xAas (xs:=es) (λj σ J=>∃Z u6 u7 u8,σ=[some (.ref fa),some (.ref G),some (.ref dq),I,some (.ref nq),Z,u6,u7,u8]/\Same B J) ⟨_,_,_,_,O,Same.refl _⟩ (λj σ J _ ⟨_,_,_,_,_,s⟩=>SqL.of ((f.trans s) _ _ o)) ?_ ?_⟩
 ·rintro j x σ J r ⟨u5',u6,u7,u8,rfl,D⟩
  obtain⟨p,ep,ey⟩:=al.at r;obtain⟨b,z,vp,x2,x3,x4,rfl,h1,h2,h3,M,h5⟩:=ey.same (f.trans D);refine⟨_,O,b,_,2,_,O,O,SqT.of h1,O,O,_,O,?_⟩;rcases h5 with rfl|⟨rq,zs,rfl,hzs,hrw⟩
  ·exact itF rfl ⟨_,_,_,_,O,D⟩
  refine itT rfl ?_;refine⟨_,O,b,_,2,_,O,O,SqT.of h1,O,rq,O,⟨_,SqL.of hzs⟩,xAas (xs:=zs) (λj σ H7=>∃u6 u7 u8,σ=[some (.ref fa),some (.ref G),some (.ref dq),I,some (.ref nq),some (.ref b),u6,u7,u8]/\Same J H7) ⟨_,_,_,O,Same.refl _⟩ (λj σ H7 _ ⟨_,_,_,_,s⟩=>SqL.of (s _ _ hzs)) ?_ ?_⟩
  ·rintro j2 y σ H7 hy ⟨v6,v7,v8,rfl,Y⟩
   obtain⟨bq,vn,vm,i,t,rfl,k1,k2,k3,k4⟩:=(hrw y (qh hy)).tups Y.tups;refine⟨bq,_,O,SqT.of k1,O,_,_,O,_,_,O,_,_,O,O,?_⟩;obtain⟨v,gv,dv⟩:=inv i k3 k3;have C:=D.trans Y;refine⟨_,O,_,"str",true,O,by decide,.str t,true,O,itF rfl ?_⟩;refine⟨_,O,_,O,_,O,dq,kvs,.tup (nkS S i),v,O,.inl ((s5.trans C) _ _ ed),k2,gv,_,O,nq,k,v,(S i).sg,O,nd.same C,dv.tups (f.trans C).tups,sok i k3,λt' ht'=>?_⟩;rw[←txt_eq k4 ht'];exact⟨O,_,O,itF (by simp) ⟨_,_,_,O,Y⟩⟩
  ·rintro σ H7 ⟨v6,v7,v8,rfl,Y⟩
   exact⟨_,_,_,_,O,D.trans Y⟩
 ·rintro σ J ⟨_,_,_,_,rfl,D⟩
  exact kk J (f.trans D)
def ok_fAr(T:Txt K mg tk)(F:FO K mg "told_leaves" s_fAr)(v:O_fAl P w K mg base):O_fAr P w K mg base:=by
 refine mk_ok F xAsa (λ_ _ _ _ _ _ u l=>match u,l with|[_,_,_],_=>rfl) (λ_ _ _ _ h=>xAva h) λfa cdv A outer s H vs Q E Z h=>?_
 refine⟨_,(xAaa (sn xAsa.nd 3 xAcb)
   (xAaa (fo (il (soK v Z T.b_sorted boot_sorted (a1 (vv 0)))) (gn xAsa.nd 4)
   (xAac (ps_if (PW.pt (xAem (ck op_eq (xt (vv 4)) (vv 1)) (xAcp (ck op_eq (xt (vv 4)) (vv 2))))) (xAac (xAbe (hu2 Z) (vv 3) (xt (vv 4)) (xt (vv 4)) rfl)) xAan)))
   (xAac (xAak (vv 3))))),?_⟩
 obtain⟨p,ys,B,W,rfl,hp,ln,few,kk⟩:=h;intro dq H1 g1 L V;obtain⟨ks,N,l2⟩:=xAcy ln
 refine⟨_,O,p,ys,ks.map λa=>.tuple [.int a.1,.int a.2],2,O,hp.same L,by rw[qf,N],xAfu λd B=>by
  obtain⟨i,_,rfl⟩:=qj.mp B
  exact .inl ⟨_,_,O⟩,⟨by omega,.inl (by omega)⟩,λm y d H' Q' q1 t s q=>?_,λq H2 ix D s2 r S=>?_⟩
 ·rw[qv]at t
  cases e:ks[m]? with
  |none=>rw[e]at t;cases t
  |some a =>
   rw[e]at t;cases t;exact⟨y,a,O,(l2 m y a q1 e).tups (L.trans s).tups,λkv hk=>q H' _ (Same.refl _) hk.dv⟩
 have I:=L.trans s2
 have n:∀z∈ix.map (λi=>ys.getD i .non),z∈ys:=λz hz=>by
  obtain⟨i,hi,rfl⟩:=qj.mp hz;have G:=(r.1.mem_iff).mp hi;rw[qw,qf,N]at G;rw[zf,qg G];exact yk G
 have U:(ix.map λi=>ys.getD i .non).length≤45:=by
  rw[qf,r.1.length_eq,zk,qf,N];exact few
 generalize ix.map (λi=>ys.getD i .non)=zs at S n U
 have M:q≠dq:=λz=>by rw[z]at D;rw[V]at D;cases D
 have fd:H dq=none:=g1;refine⟨q,O,⟨_,SqL.of S⟩,xAas (xs:=zs) (λj σ f=>∃kvs J,σ=[some (.ref p),some (.str B),some (.str W),some (.ref dq),J]/\Same H f/\f q=some (.lst zs)/\f dq=some (.dG kvs)/\kvs.length≤j/\∀k u,vG kvs k=some u->∃y,u=.bl y) ⟨[],_,O,I,S,s2 _ _ V,qb _,λk u z=>nomatch z⟩ (λj σ f _ ⟨_,_,_,_,e,_⟩=>SqL.of e) ?_ ?_⟩
 ·rintro j x σ f X ⟨kvs,J,rfl,g,eq,o,R,inv⟩
  have hj:j<zs.length:=(qm.mp X).1;obtain⟨a,b,vp,pp,h',t',y,c,rfl,C,pv,_,ec⟩:=(ln x (n x (qh X))).tups g.tups;refine⟨_,O,b,_,1,_,O,O,SqT.of C,O,_,O,O,_,O,?_⟩
  by_cases hh:h'=B
  ·refine itT (by rw[xAbh];exact qI hh) ?_
   refine⟨_,O,b,_,2,_,O,O,SqT.of C,O,_,O,O,_,O,?_⟩
   by_cases Y:t'=W
   ·refine itT (by rw[xAbh];exact qI Y) ?_
    refine⟨_,O,b,_,3,_,O,O,SqT.of C,O,_,O,_,O,b,_,0,_,O,O,SqT.of C,O,dq,kvs,.tup pp,O,o,pv,xAaj (by omega),?_⟩;refine⟨_,_,O,g.wr fd,by rw[xAae M];exact eq,xAab,qc (xAca _ _ _ _) (by omega),λk u e=>?_⟩;rw[xAbx]at e
    by_cases z:k=.tup pp
    ·rw[qF z]at e;exact⟨y,(qK e).symm⟩
    ·rw[qB z]at e;exact inv k u e
   ·refine itF (by rw[xAbh];exact decide_eq_false Y) ?_
    exact⟨kvs,_,O,g,eq,o,by omega,inv⟩
  ·refine itF (by rw[xAbh];exact decide_eq_false hh) (itF rfl ?_)
   exact⟨kvs,_,O,g,eq,o,by omega,inv⟩
 ·rintro σ f ⟨kvs,J,rfl,g,eq,o,R,inv⟩
  exact⟨_,O,kk f dq kvs g fd o inv⟩
def ok_fAm(T:Txt K mg tk)(F:FO K mg "followers_of" s_fAm)(J:O_fAn P w K mg base):O_fAm P w K mg base:=by
 refine mk_ok F xAsb (λ_ _ _ _ _ _ u l=>match u,l with|[_],_=>rfl) (λ_ _ _ _ h=>xAuo h) λfa cdv A outer s H vs Q E hr h=>?_
 refine⟨_,(xAaa (sn xAsb.nd 1 xAcb)
   (xAaa (fo (il (soK J hr T.b_sorted boot_sorted (a1 (vv 0)))) (gn xAsb.nd 2)
   (xAac (ap (bm PySem.F.plainAttrs_dict PySem.F.slot_dict_setdefault PySem.F.type_dict_setdefault (xAfs (hu2 hr)) (vv 1) (a2 (xt (vv 2)) (xAal xAbm))) (a1 (xt (vv 2))))))
   (xAac (xAak (vv 1))))),?_⟩
 obtain⟨p,ys,nk,bh,D,ms,js,t,rfl,hp,B,eqj,W,kk⟩:=h;subst eqj;have g:ms.Perm ms:=.refl _;intro dq H1 g1 M e1
 have hyl:ys.length=ms.length:=by rw[B.1,g.length_eq]
 have few:=W.few;refine⟨_,O,p,ys,ms.map D,t,O,hp.same M,by rw[qf,B.1],W.keys,⟨by omega,.inr (jx.mpr W.up)⟩,λm y d H' Q' q1 q2 s q=>?_,λq H2 ix g2 s2 C e2=>?_⟩
 ·obtain⟨k,L,pl⟩:=B.at q1
  rw[qv,L]at q2;cases qK q2;exact⟨y,nk,bh,D,k,O,pl.tups (M.trans s).tups,λkv hk=>q H' _ (Same.refl _) hk.dv⟩
 have Y:∀i∈ix,i<ys.length:=λi hi=>by
  have:=(C.1.mem_iff).mp hi;rw[qw,qf]at this;rw[B.1];exact this
 have a2:=B.ix ix Y;rw[xAuc g W.up C]at a2;generalize ix.map (λi=>ys.getD i .non)=zs at e2 a2;have hzl:zs.length=ms.length:=a2.1;have s02:=M.trans s2;have fq:H q=none:=M.free g2;refine⟨q,O,⟨_,SqL.of e2⟩,xAas (xs:=zs) (λj σ o=>∃kvs N,σ=[some (.ref p),some (.ref dq),N]/\Same H o/\o q=some (.lst zs)/\FD nk bh ms (ms.take j) H o dq kvs/\kvs.length≤j/\∀k,vG kvs k≠some (.ref q)) ⟨[],none,O,s02,e2,⟨s2 _ _ e1,g1,λk _=>.inl ⟨O,O⟩,λk k' q z=>(by cases z),λk q z=>(by cases z)⟩,qb _,λk z=>(by cases z)⟩ (λj σ o _ ⟨_,_,_,_,e,_⟩=>SqL.of e) ?_ ?_⟩
 ·rintro j x σ o hx ⟨kvs,N,rfl,I,eq,fd,G,nq⟩
  obtain⟨m,U,pl⟩:=a2.at hx;have X:m∈ms:=qh U;have hj:j<ms.length:=(qm.mp U).1
  have v:ms.take (j+1)=ms.take j++[m]:=by rw[zh,U];rfl
  have Z:∀i,bh m=some i->i∈ms:=λi e=>Rga.bh_in W.wf X e;obtain⟨b,vn,vb,vk,rfl,V,hn,S,hd⟩:=pl.tups I.tups;refine⟨_,O,.inr (.inr (.inl ⟨O,.inr (.inr ⟨kvs,fd.has⟩)⟩)),_,O,b,_,1,_,O,O,SqT.of V,O,szOk rfl,λn H4 f c e4=>?_⟩;have a:=fd.same c;have t4:=I.trans c;have f0:H n=none:=I.free f;refine⟨dq,kvs,kd nk (bh m),vb,.ref n,O,O,a.has,S.tups c.tups,xAaw (by omega),λu r=>?_,λr=>?_⟩
  ·rcases a.each (bh m) Z with⟨h1,_⟩|⟨q',vs,h1,h2,h3,h4⟩
   ·rw[h1]at r;cases r
   ·rw[h1]at r
    cases r
    have vl:vs.length≤2000:=by
     rw[h3.1];unfold kids;exact qc (wv _ _) (by rw[wn];omega)
    refine⟨.inl ⟨O,_,SqL.of h2⟩,_,O,b,_,0,_,O,O,SqT.of (c _ _ V),O,q',_,_,O,O,h2,xAaw (by omega),?_⟩;refine⟨kvs,_,O,t4.wr h4,?_,?_,by omega,nq⟩
    ·rw[xAae (λz=>nq _ (by rw[z];exact h1))]
     exact c _ _ eq
    ·rw[v]
     exact a.old W.inj Z h1 h2 (hn.tups c.tups)
  ·have nz:n≠dq:=λz=>by rw[z,fd.has]at f;cases f
   refine⟨.inl ⟨O,_,SqL.of (by rw[xAae nz];exact e4)⟩,_,O,b,_,0,_,O,O,SqT.of (Tups.wd a.has _ _ (c _ _ V)),O,n,_,_,O,O,(by rw[xAae nz];exact e4),xAaw (by show 0≤_;omega),?_⟩
   have R:∀k,vG kvs k≠some (.ref n):=λk z=>by
    obtain⟨xs,y⟩:=fd.live k n z;rw[y]at f;cases f
   refine⟨pG kvs (kd nk (bh m)) vb (.ref n),_,O,(t4.wr g1).wr f0,?_,?_,qc (xAca kvs _ _ _) (j7 G),λk z=>?_⟩
   ·have n1:q≠n:=λz=>by rw[←z,eq]at f;cases f
    have n2:q≠dq:=λz=>by rw[z,fd.has]at eq;cases eq
    rw[xAae n1,xAae n2];exact c _ _ eq
   ·rw[v]
    exact a.first W.inj Z r f0 e4 R (hn.tups c.tups)
   ·rw[xAbx]at z
    by_cases L:k=kd nk (bh m)
    ·rw[qF L]at z
     cases z;rw[eq]at f;cases f
    ·rw[qB L]at z
     exact nq k z
 ·rintro σ o ⟨kvs,N,rfl,I,eq,fd,G,nq⟩
  rw[hzl,zm]at fd;exact⟨_,O,kk o dq kvs I fd⟩
def ok_fAd(T:Txt K mg tk)(F:FO K mg "telling_in_row" s_fAd)(gfAv:O_fAv P w K mg base)(gfBr:O_fBr P w K mg base)(gfBw:O_fBw P w K mg base):O_fAd P w K mg base:=by
 refine mk_ok F xAjv (λ_ _ _ _ _ _ u l=>match u,l with|[_,_,_],_=>rfl) (λ_ _ _ _ h=>xAvv h) λfa cdv A outer s H vs Q E hr h=>?_;have hu1:(A.deeper (envOfC "telling_in_row" (defScope s_fAd) s.heap.objs.size fa cdv)).units+1<cLine:=hu_of hr
 refine⟨_,(xAaa (sn xAjv.nd 3 (cl gfBr hr (a1 (vv 2))))
   (xAaa (sn xAjv.nd 4 xAph)
   (xAaa (fo (il (soK gfAv hr T.b_sorted boot_sorted (a1 (lcd (defScope s_fAd) N_fAd [("part",1)] (il (xAat hu1 (vv 0) xAai (λ_ _=>rfl))) (λ_ _ _=>(xAbv (ck (eqD hr) (xt (vv 0)) (vc 1)))) (λ_ _ _=>(vv 0)))))) (gn xAjv.nd 5)
   (xAaa (sn xAjv.nd 6 (bm PySem.F.plainAttrs_dict PySem.F.slot_dict_setdefault PySem.F.type_dict_setdefault xAmf (vv 4) (a2 (xt (vv 5)) (pe_op xApj (xAal (a1 xAcf)) (cb xAag T.b_len boot_len (a1 (vv 2)))))))
   (xAaa (sn xAjv.nd 7 (cl gfBw hr (ac (vv 3) (a2 (xt (vv 5)) (xt (vv 5))))))
   (xAac (xAri (vv 6) (xAby (xt (vv 7))) (xAby (xt (vv 7))) (pe_op xApj (xAal (a1 (vv 5))) (pe_op op_sub (xt (vv 7)) (xt (vv 7)))) rfl)))))
   (xAac (xAak (vv 4)))))),?_⟩
 obtain⟨fa,F,S,n,vp,pt,rp,t,ks,rfl,fz,gvp,hlay,erp,ar,hrl,kk⟩:=h;refine⟨_,O,rp,t,ks,O,erp,ar,hrl,λH2 dq kvs s2 g2 e2 hse _=>?_⟩;intro g H4 g4 U e4;have J:=s2.trans U;have f4:=fz.same J;obtain⟨ms,eml,hmk,fewm⟩:=f4.mks;have gtq:H g=none:=s2.free g4;refine⟨_,O,fa,.ref (F 4),O,.inl ⟨fkv F 9,.inr "marks",f4.dk,O,(xAbl F 4 (by decide)).symm⟩,F 4,O,⟨_,SqL.of eml⟩,xAbd (xs:=ms) (big2 (by omega)) (λj ys H'=>H'=H4/\∀y∈ys,MKW H4 y) ⟨O,λy z=>nomatch z⟩ (λ_ _ H' s'=>by rw[s'.1];exact SqL.of eml) (λj x ys H' K1 K0 hx s' k1 k0=>?_) λH5 lp ys s' hy hq=>?_⟩
 ·obtain⟨rfl,ay⟩:=s'
  have mk:=hmk x (qh hx);obtain⟨c,b,vq,p,vb,ve,kd,vl,vn,kq,rfl,h1,h2,h3,_⟩:=id mk;refine⟨_,O,b,_,0,_,O,O,SqT.of h1,O,_,O,tD p,tD pt,(gk_td h2).dv,(gk_td (gvp.tups J.tups)).dv,h3.lay,hlay,qc (ye _ _) (qc (xAci _) (by decide)),_,O,?_⟩;exact itB (λ_=>⟨_,O,k1 _ _ ⟨O,xAbg ay mk⟩⟩) λ_=>k0 _ ⟨O,ay⟩
 obtain⟨rfl,ay⟩:=s';have n5:Same H5 (upd H5 lp (.lst ys)):=Same.new hq;have e5:(upd H5 lp (.lst ys)) lp=some (.lst ys):=xAab;generalize upd H5 lp (.lst ys)=H6 at n5 e5;obtain⟨as,l1,l2⟩:=xAcy ay;refine⟨lp,ys,as.map λa=>.tuple [.int a.1,.int a.2],2,O,SqL.of e5,by rw[qf,l1],rk2 as,⟨by omega,.inl (by omega)⟩,λmm y d H' Q' q1 q2 s q=>?_,λsq N ix g7 s7 six e7=>?_⟩
 ·rw[qv]at q2
  obtain⟨a,ha,rfl⟩:=z9.mp q2;exact⟨y,a,O,(l2 mm y a q1 ha).tups (n5.trans s).tups,λkv hk=>q H' _ (Same.refl _) hk.dv⟩
 obtain⟨hix,hzl⟩:=xAou (by rw[qf,l1]) six;generalize ix.map (λi=>ys.getD i .non)=zs at e7 hix hzl;have D:=n5.trans s7;have s07:=J.trans D;have M:=D _ _ e4;have nsq:sq≠g:=(xAad (n5 _ _ e4) g7).symm;have ndq:dq≠g:=xAad e2 g4;have nrp:rp≠g:=xAad (s2 _ _ erp) g4
 refine⟨sq,O,⟨_,SqL.of e7⟩,xAas (xs:=zs) (λj σ Z=>∃tv u5 u6 u7,σ=[some (.ref fa),some vp,some (.ref rp),some (.ref dq),some (.ref g),u5,u6,u7]/\Same (del N g) Z/\Z g=some (.dK tv)/\tv.length≤j/\TKW t.length (λa=>N a=none/\a≠g) Z tv)
  ⟨[],none,none,none,O,xAco,M,qb _,(λe z=>nomatch z),λk v z=>nomatch z⟩ (λj σ Z _ ⟨_,_,_,_,_,r,_⟩=>SqL.of (DP.to r e7 nsq)) ?_ ?_⟩
 ·rintro j x σ Z hx ⟨tv,u5,u6,u7,rfl,V,eZ,tl,tk⟩
  have hj:=(qm.mp hx).1
  have tZ:Tups N Z:=λa ys e=>DP.to V e (λz=>by rw[z,M]at e;cases e)
  obtain⟨c,b,vq,p,vb,ve,kd,vl,vn,kq,rfl,h1,h2,h3,h4,h5,h6,h7⟩:=(ay x (hix x (qh hx))).tups (D.tups.trans tZ);have erpZ:=DP.to V (D _ _ (J _ _ erp)) nrp;have edqZ:=DP.to V (D _ _ (U _ _ e2)) ndq;refine⟨_,O,.inr (.inr (.inl ⟨O,.inl ⟨tv,eZ⟩⟩)),_,O,b,_,3,_,O,O,SqT.of h1,O,szOk rfl,λl1 Z1 g1 s1 e1=>⟨_,O,rp,t,O,.inl (SqL.of (s1 _ _ erpZ)),l1,(t.length:Int),_,O,O,e1,by omega,by omega,big2 (by rw[Int.toNat_natCast];show 1 * t.length≤2000;omega),λI X g2 s2 e2=>?_⟩⟩;rw[Int.toNat_natCast,xAhg]at e2;have m:=s1.trans s2;have eZ2:=m _ _ eZ;have Y:TKW t.length (λa=>N a=none/\a≠g) X tv:=tk.to m.tups λa us x e=>⟨x,us,m _ _ e,.inl rfl⟩;have ga0:Z I=none:=s1.free g2;have L:I≠g:=(xAad eZ ga0).symm;refine xArv (P:=λv R=>∃a C us,v=.ref a/\(∀c o,c≠g->X c=some o->R c=some o)/\Same (del N g) R/\R g=some (.dK C)/\C.length≤j+1/\TKW t.length (λa=>N a=none/\a≠g) R C/\(N a=none/\a≠g)/\R a=some (.lst us)/\NOM R t.length us) ⟨g,tv,.inr kd,.ref I,O,O,eZ2,xAaj (by omega),λu hu=>?_,λhn=>?_⟩ ?_
  ·obtain⟨a,us,rfl,xa,ea,no⟩:=Y.val _ _ hu
   exact⟨a,tv,us,O,(λ_ _ _ e=>e),Same.trans V m,eZ2,by omega,Y,xa,ea,no⟩
  ·have W:∀c o,c≠g->X c=some o->(upd X g (.dK (putK tv (.inr kd) (.ref I)))) c=some o:=λc o h e=>by rw[xAae h];exact e
   have G:Tups X (upd X g (.dK (putK tv (.inr kd) (.ref I)))):=λc ys e=>W c _ (λz=>by rw[z,eZ2]at e;cases e) e
   have no:NOM (upd X g (.dK (putK tv (.inr kd) (.ref I)))) t.length (List.replicate t.length .non):=⟨yv,λu hu=>.inl (kx hu)⟩;have xa:N I=none/\I≠g:=⟨by have:=V.free ga0;rwa [xAau L]at this,L⟩;refine⟨I,_,_,O,W,(Same.trans V m).wr xAcg,xAab,by rw[xAgm _ hn,qe,qo];omega,⟨by rw[xAgm _ hn];exact xAbg tk.ks ⟨kd,O,h6⟩,λk v e=>?_⟩,xa,W _ _ L e2,no⟩;rw[xAqm]at e
   by_cases z:k=.inr kd
   ·rw[qF z]at e
    exact⟨I,_,(qK e).symm,xa,W _ _ L e2,no⟩
   ·rw[qB z]at e
    obtain⟨a,us,e1,x,e3,no⟩:=Y.val k v e;exact⟨a,us,e1,x,W _ _ x.2 e3,no.tups G⟩
  rintro _ R ⟨a,C,us,rfl,W,sn,en,tl',tkn,xa,ea,no⟩
  have G:Tups Z R:=λc ys e=>W c _ (λz=>by rw[z,eZ]at e;cases e) (m _ _ e)
  refine⟨_,O,_,O,b,_,1,_,O,O,SqT.of (G _ _ h1),O,_,O,b,_,2,_,O,O,SqT.of (G _ _ h1),O,dq,kvs,vb,ve,t.length,O,W _ _ ndq (m _ _ edqZ),hse,h4.tups G,h5.tups G,λZ3 bq B E s3 e3 hb1 hb2=>?_⟩;refine⟨_,O,szOk rfl,λl4 Z4 g4 U e4=>⟨_,O,bq,_,1,_,O,O,SqT.of (U _ _ e3),O,_,O,bq,_,0,_,O,O,SqT.of (U _ _ e3),O,_,_,O,O,l4,_,_,O,O,e4,by omega,by omega,big2 (by show 1 * _≤2000;omega),λc5 Z5 g5 s5 e5=>?_⟩⟩;have f:=(s3.trans U).trans s5;have e35:=s5 _ _ (U _ _ e3);rw[xAhg]at e5;have ea5:=f _ _ ea;have nol:=no.1;have mk5:MKW Z5 (.ref b):=⟨c,b,vq,p,vb,ve,kd,vl,vn,kq,O,G.trans f.tups _ _ h1,h2.tups (G.trans f.tups),h3,h4.tups (G.trans f.tups),h5.tups (G.trans f.tups),h6,G.trans f.tups _ _ h7⟩
  have no5:NOM Z5 t.length (us.take B++List.replicate ((E:Int) - (B:Int)).toNat (.ref b)++us.drop E):=⟨by rw[qe,qe,yv,wn,wm];omega,λu hu=>by
   rcases zd.mp hu with z|z
   ·rcases zd.mp z with z|z
    ·exact(no.tups f.tups).2 u (List.mem_of_mem_take z)
    ·rw[kx z];exact .inr mk5
   ·exact(no.tups f.tups).2 u (j9 z)⟩
  have tw:Tups Z5 (upd Z5 a (.lst (us.take B++List.replicate ((E:Int) - (B:Int)).toNat (.ref b)++us.drop E))):=Tups.wl ea5;refine⟨_,O,_,O,bq,_,0,_,O,O,SqT.of e35,O,_,O,_,O,bq,_,1,_,O,O,SqT.of e35,O,_,O,a,c5,us,_,B,E,O,O,xAad ((s3.trans U) _ _ ea) g5,ea5,SqL.of e5,O,O,hb1,by omega,(by rw[yv,sizeLine_eq];omega),?_⟩;refine⟨C,_,_,_,O,(Same.trans sn f).wr (by rw[xAau xa.2];exact xa.1),by rw[xAae xa.2.symm];exact f _ _ en,tl',tkn.to (f.tups.trans tw) λa' us' x' e'=>⟨x',?_⟩⟩
  by_cases z:a'=a
  ·subst z;exact⟨_,xAab,.inr (no5.tups tw)⟩
  ·exact⟨us',by rw[xAae z];exact f _ _ e',.inl rfl⟩
 ·rintro σ Z ⟨tv,u5,u6,u7,rfl,V,eZ,tl,tk⟩
  exact⟨_,O,kk Z g tv (λb o e=>DP.to V (s07 _ _ e) (xAad e gtq)) gtq eZ (by omega) (tk.to (Tups.refl _) λa us x e=>⟨x.2,us,e,.inl rfl⟩)⟩
def ok_fAf(T:Txt K mg tk)(F:FOL K mg "greatest_place" s_fAf t_greatest_place)(G:base.BuiltinsAt mg t_greatest_place):O_fAf P w K mg base:=by
 refine xAuk F sc_fAf (λ_ _ _ _ _ _ u l=>match u,l with|[_,_],_=>rfl) (λ_ _ _ _ h=>xAvf h) λfa I A outer s H vs Q E B d h=>?_;refine⟨_,(xAac (xAak (xAuh (k:=0) (y:="one") (z:="telling") (i:=0) rfl B G (d.mono (by decide)) (by rfl) T.b_max boot_max ⟨O,O,O,by decide +kernel,O,O,by decide +kernel⟩ rfl rfl (λ_ h=>xAay h) rfl rfl (λ_ _ _ _ _=>rfl) (λ_ _ _ _ _ _ _ d=>(xt (xAap (hu2 d) (vf 1) (vv 0) (λ_ _=>rfl)))) (a1 (vv 1))))),?_⟩;obtain⟨p,q,D,ws,rfl,f,c,j,t,tb,M⟩:=h;refine⟨_,O,tb,λH2 J sd=>?_⟩;have s2:Same (del H PTa) H2:=λb o e=>xAco _ _ (sd _ _ e);have v:=tupsT tb s2;obtain⟨as,L,C⟩:=xAcy t;refine⟨q,ws,.ref p,λm=>[(as.getD m (0,0)).1,(as.getD m (0,0)).2],O,SqL.of (My.keepT tb s2 c λps z=>nomatch z),j8.mpr j,O,λm y H' R a s' k=>?_,λm y N a _ sn=>M N y (s2.trans sn) (J.same sn) (qh a)⟩
 have n:m<as.length:=by rw[L];exact(qm.mp a).1
 obtain⟨x,b,U,S,vn,kq,g,r,h1,h2⟩:=(C m y _ a (qg n)).tups (v.trans s'.tups);refine⟨_,O,_,O,p,D,x,.ref b,O,Rd.same (rdT tb s2 f λps z=>nomatch z) s',g,r,b,_,3,.ref kq,O,O,SqT.of h1,O,k H' _ (Same.refl _) ?_⟩;show DV H' (.ref kq) (.tuple ([(as.getD m (0,0)).1,(as.getD m (0,0)).2].map PyData.int));rw[zf,qg n];exact .tup (SqT.of h2) (.cons (.int _) (.cons (.int _) .nil))
def ok_fAw(T:Txt K mg tk)(F:FO K mg "shown_among" s_fAw)(gfAg:O_fAg P w K mg base):O_fAw P w K mg base:=by
 refine mk_ok F xAoy (λ_ _ _ _ _ _ u l=>match u,l with|[_,_],_=>rfl) (λ_ _ _ _ h=>xAvk h) λfa cdv A outer s H vs Q E D h=>?_;have hu1:(A.deeper (envOfC "shown_among" (defScope s_fAw) s.heap.objs.size fa cdv)).units+1<cLine:=hu_of D
 refine⟨_,(xAaa (sm xAoy.nd 2 (cy (xAar D.hd (hu4 D)) T.b_dict boot_dict (a1 (lc0 (il (xAat hu1 (vv 0) xAai (λ_ _=>rfl))) (λ_ _ _=>xAbb) (λ_ _ _=>(xAah (a2 (xt (vv 0)) pe_bl)))))))
   (xAaa (sn xAoy.nd 3 (cy (xAar D.hd (hu4 D)) T.b_dict boot_dict (a1 (xAbi (own:=["part","outer"]) (fr:=[("cut",2)]) rfl (xAcs (vv 1)) ⟨O,by decide +kernel,by decide +kernel⟩ (xAbz (defScope s_fAw) ["facts","stands","cut","left","reaching"] rfl rfl (λ_ h=>xAay h) (by decide +kernel) (by decide +kernel) (by decide +kernel)) (λ_ _ _=>(xAen (n:=2) rfl (xAam (xAaq (i:=0) (by show List.Nodup (["part","outer","cut"]:List Str);decide +kernel) rfl (Or.inl rfl)) (xAam (xAaq (i:=1) (by show List.Nodup (["part","outer","cut"]:List Str);decide +kernel) rfl (Or.inl rfl)) xAch)))) (λ_=>xAbo rfl rfl (by decide)) (λ_ _ _=>(xAbv (ck (xAdg (hu2 D)) (vv 0) (vc 2)))) (λ_ _ _=>(xAah (a2 (vv 0) (vv 1))))))))
   (xAaa (sn xAoy.nd 4 (cl gfAg D (a1 (vv 3))))
   (xAac (xAak (cy (xAar D.hd (hu4 D)) T.b_dict boot_dict (a1 (xAbi (own:=["part","comes"]) (fr:=[]) rfl (xAcs (vv 4)) ⟨O,by decide +kernel,by decide +kernel⟩ (caps0 (by decide +kernel)) (λ_ _ _=>(xAen (n:=2) rfl (xAam (xAaq (i:=0) (by show List.Nodup (["part","comes"]:List Str);decide +kernel) rfl (Or.inl rfl)) (xAam (xAaq (i:=1) (by show List.Nodup (["part","comes"]:List Str);decide +kernel) rfl (Or.inl rfl)) xAch)))) (λ_=>xAbo rfl rfl (by decide)) (λ_ _ _=>(xAbv (xAck (vv 1)))) (λ_ _ _=>(xAah (a2 (vv 0) pe_bl))))))))))),?_⟩
 obtain⟨fa,F,es,cs,ps,da,kd,rfl,fp,hda,hfew,akd,ma,kk⟩:=h;have hcl:=fp.cl;refine⟨_,O,fa,.ref (F 2),O,.inl ⟨fkv F 9,.inr "cuts",fp.dk,O,(xAbl F 2 (by decide)).symm⟩,F 2,O,⟨_,SqL.of fp.ec⟩,xAbd (xs:=cs) (big (by omega)) (λj us X=>Same H X/\∀u∈us,PR (λ_ _=>True) X u) ⟨Same.refl _,λu z=>nomatch z⟩ (λ_ _ X s=>SqL.of (s.1 _ _ fp.ec)) (λj x us X K1 K0 hx s' S k0=>?_) λX np us s' m R=>?_⟩
 ·obtain⟨a,c⟩:=s'
  obtain⟨k,p⟩:=fp.ct x (qh hx);obtain⟨b,vp,vn,y,rfl,h1,h2,h3,h4,h5⟩:=p.tups a.tups;refine iteT (B:=K0 X) ?_;exact⟨_,O,b,_,0,vp,O,O,SqT.of h1,O,szOk rfl,λtq X4 g4 N e4=>S _ _ ⟨a.trans N,xAbg (λu m=>(c u m).imp N.tups λ_ _ g=>g) ⟨tq,_,vp,.bl true,O,e4,h2.tups N.tups,trivial⟩⟩⟩
 obtain⟨a,c⟩:=s';have d:Same X (upd X np (.lst us)):=Same.new R;obtain⟨r,pr,el,_⟩:=xAdd (P:=λ_ _=>True) λy J=>(c y J).imp d.tups λ_ _ g=>g;refine⟨np,us,r,O,SqL.of xAab,pr,by omega,λca X2 g2 s2 e2=>?_⟩;generalize putAll [] r=kc at e2;have t:=(a.trans d).trans s2;have fca:H ca=none:=(a.trans d).free g2;clear pr R m d s2 g2 a c
 have nda:∀{b},H b=none->b≠da:=λg z=>by
  rw[z]at g;rcases hda with q|⟨o',q⟩ <;> rw[g]at q <;> cases q
 have G:=Rd.same hda t;refine⟨_,O,da,kd,O,xAcd G λo Y hY fY eY=>?_⟩;have L:=t.tups.trans (xAel G hY);have ecY:=hY ca _ (nda fca) e2;have aY:=akd.imp L λ_ _ g=>NDV.tups g L;refine xAdi (big (by omega)) (λj us X=>Same Y X/\∀u∈us,PR (NDV X) X u) ⟨Same.refl _,λu z=>nomatch z⟩ (λ_ _ X s'=>s'.1 _ _ eY) (λj e us X p K1 K0 hx s' hp S k0=>?_) λX3 np us s' J R=>?_
 ·obtain⟨a,c⟩:=s'
  have sp:Same X (upd X p (.tup [e.2.1,e.2.2])):=Same.new hp;have ep:(upd X p (.tup [e.2.1,e.2.2])) p=some (.tup [e.2.1,e.2.2]):=xAab;generalize upd X p (.tup [e.2.1,e.2.2])=X1 at sp ep;have v:=a.trans sp;obtain⟨g,nv⟩:=aY.imp v.tups (λ_ _ g=>NDV.tups g v.tups) e (qh hx);refine⟨p,_,O,SqT.of ep,O,_,_,O,_,_,O,O,?_⟩;refine⟨_,O,_,O,ca,kc,e.1,O,.inl (v _ _ ecY),g,_,O,?_⟩;rw[qF rfl];refine itB (λ_=>⟨_,O,_,O,szOk rfl,λt3 X3 g3 s3 e3=>?_⟩) λ_=>k0 _ ⟨v,λu m=>(c u m).imp sp.tups λ_ _ g=>NDV.tups g sp.tups⟩;have s:=sp.trans s3;exact S _ _ ⟨a.trans s,xAbg (λu m=>(c u m).imp s.tups λ_ _ g=>NDV.tups g s.tups) ⟨t3,e.1,e.2.1,e.2.2,O,e3,g.tups s3.tups,nv.tups s3.tups⟩⟩
 obtain⟨a,c⟩:=s';have d:Same X3 (upd X3 np (.lst us)):=Same.new R;obtain⟨r,pr,el,he⟩:=xAdd λy J=>(c y J).imp d.tups λ_ _ g=>NDV.tups g d.tups;refine⟨np,us,r,O,SqL.of xAab,pr,by omega,λla X4 g4 N e4=>?_⟩;have al4:=(DG.putAll (P:=NDV _) pr he .nil).imp N.tups λ_ _ g=>NDV.tups g N.tups;have C:=(a.trans d).trans N;have fla:Y la=none:=(a.trans d).free g4;have flaH:=t.free (fY _ fla);refine⟨_,O,la,_,O,.inl e4,qc (xAbr r []) (by rw[el,zy];omega),al4,C.tups _ _ (L _ _ ma),λX5 ra kr s5 hla5 gra V hkl blr _=>?_⟩;have I:=C.free gra;have fraH:=t.free (fY _ I)
 have s5o:∀{b u},X4 b=some u->b≠la->X5 b=some u:=λe n=>s5 _ _ (by rw[xAau n];exact e)
 refine⟨_,O,ra,kr,O,xAcd (.inl V) λo2 U hU fU eU=>?_⟩;have tU:=xAel (.inl V) hU;refine xAdi (big2 hkl) (λj us X=>Same U X/\∀u∈us,PR (λ_ _=>True) X u) ⟨Same.refl _,λu z=>nomatch z⟩ (λ_ _ X s'=>s'.1 _ _ eU) (λj e us X p K1 K0 hx s' hp S k0=>?_) λX6 np us s' J R=>?_
 ·obtain⟨a,c⟩:=s'
  obtain⟨e1,f,e22⟩:=e;obtain⟨g,b,hb⟩:=blr _ (qh hx);have hb:e22=.bl b:=hb;subst hb;have sp:Same X (upd X p (.tup [f,.bl b])):=Same.new hp;have ep:(upd X p (.tup [f,.bl b])) p=some (.tup [f,.bl b]):=xAab;show _;generalize upd X p (.tup [f,.bl b])=X1 at sp ep;refine⟨p,_,O,SqT.of ep,O,_,_,O,_,_,O,O,?_⟩;refine⟨_,O,_,O,itB (λ_=>⟨_,O,szOk rfl,λt3 X3 g3 s3 e3=>?_⟩) λ_=>k0 _ ⟨a.trans sp,λu m=>(c u m).imp sp.tups λ_ _ g=>g⟩⟩;have s:=sp.trans s3;exact S _ _ ⟨a.trans s,xAbg (λu m=>(c u m).imp s.tups λ_ _ g=>g) ⟨t3,e1,f,.bl true,O,e3,GK.tups g (tU.trans (a.trans s).tups),trivial⟩⟩
 obtain⟨a,c⟩:=s';have d:Same X6 (upd X6 np (.lst us)):=Same.new R;obtain⟨es2,pr2,el2,_⟩:=xAdd (P:=λ_ _=>True) λy J=>(c y J).imp d.tups λ_ _ g=>g;refine⟨np,us,es2,O,SqL.of xAab,pr2,by omega,λqa X7 g7 s7 e7=>?_⟩;have W:=(a.trans d).trans s7;have M:U qa=none:=(a.trans d).free g7;have toX:∀{b u},H b=some u->b≠da->X5 b=some u:=λe n=>s5o (C _ _ (hY _ _ n (t _ _ e))) (xAad e flaH);have Z:=hU _ _ (xAad eY I) (s5o (C _ _ eY) (xAad eY fla));refine kk X7 qa _ (λb u e=>?_) (.inr ⟨o,W _ _ Z⟩) ?_ e7
 ·have nb:b≠da:=λz=>by rw[z,xAcg]at e;cases e
  rw[xAau nb]at e;exact W _ _ (hU _ _ (xAad e fraH) (toX e nb))
 ·cases q:H qa with
  |none=>rfl
  |some u =>
   by_cases z:qa=da
   ·rw[z,Z]at M;cases M
   ·have h5:=fU _ M
    rw[toX q z]at h5;cases h5
def ok_fAx(T:Txt K mg tk)(F:FO K mg "words_told" s_fAx)(e:O_fAt P w K mg base):O_fAx P w K mg base:=by
 refine mk_ok F xAwp (λ_ _ _ _ _ _ u l=>match u,l with|[_,_],_=>rfl) (λ_ _ _ _ h=>xAvo h) λfa cdv A outer s H vs Q E D h=>?_;have hu1:(A.deeper (envOfC "words_told" (defScope s_fAx) s.heap.objs.size fa cdv)).units+1<cLine:=hu_of D
 refine⟨_,(xAaa (sn xAwp.nd 2 (soK e D T.b_sorted boot_sorted (a1 (lcd (defScope s_fAx) N_fAx [("part",1)] (il (xAat hu1 (vv 0) xAai (λ_ _=>rfl))) (λ_ _ _=>(xAbv (ck (eqD D) (xt (vv 0)) (vc 1)))) (λ_ _ _=>(vv 0))))))
   (xAac (xAak (cy (xAar D.hd (hu4 D)) T.b_dict boot_dict (a1 (lc0 (il (vv 2)) (λ_ _ _=>xAbb) (λ_ _ _=>(xAah (a2 (xAah (a2 (xt (vv 0)) (xt (vv 0)))) (xt (vv 0))))))))))),?_⟩
 obtain⟨fa,F,S,n,vp,pt,rfl,fz,W,k,kk⟩:=h;obtain⟨cs,G,V,few⟩:=fz.ce;refine⟨_,O,fa,.ref (F 7),O,.inl ⟨fkv F 9,.inr "cells",fz.dk,O,(xAbl F 7 (by decide)).symm⟩,F 7,O,⟨_,SqL.of G⟩,xAbd (xs:=cs) (big2 (by omega)) (λj ys H'=>H'=H/\∀y∈ys,CEW H y) ⟨O,λy z=>nomatch z⟩ (λ_ _ H' s'=>by rw[s'.1];exact SqL.of G) (λj x ys H' K1 K0 R s' M k0=>?_) λI o ys s' hy hq=>?_⟩
 ·obtain⟨rfl,v⟩:=s'
  have ce:=V x (qh R);obtain⟨_,b,vq,p,vr,r,vc,c,z,kq,rfl,h1,h2,h3,_⟩:=id ce;refine⟨_,O,b,_,0,_,O,O,SqT.of h1,O,_,O,tD p,tD pt,(gk_td h2).dv,(gk_td W).dv,h3.lay,k,qc (ye _ _) (qc (xAci _) (by decide)),_,O,?_⟩;exact itB (λ_=>⟨_,O,M _ _ ⟨O,xAbg v ce⟩⟩) λ_=>k0 _ ⟨O,v⟩
 obtain⟨rfl,v⟩:=s';have n5:Same I (upd I o (.lst ys)):=Same.new hq;have L:(upd I o (.lst ys)) o=some (.lst ys):=xAab;generalize upd I o (.lst ys)=H6 at n5 L;obtain⟨as,l1,l2⟩:=xAcy v;refine⟨o,ys,as.map λa=>.tuple [.int a.1,.int a.2],2,O,SqL.of L,by rw[qf,l1],rk2 as,⟨by omega,.inl (by omega)⟩,λmm y d H' Q' q1 q2 s q=>?_,λsq N ix g7 U X J=>?_⟩
 ·rw[qv]at q2
  obtain⟨a,ha,rfl⟩:=z9.mp q2;exact⟨y,a,O,(l2 mm y a q1 ha).tups (n5.trans s).tups,λkv hk=>q H' _ (Same.refl _) hk.dv⟩
 obtain⟨m,hzl⟩:=xAou (by rw[qf,l1]) X;generalize ix.map (λi=>ys.getD i .non)=zs at J m hzl;have t:=n5.trans U;refine⟨_,O,sq,O,⟨_,SqL.of J⟩,xAbd (xs:=zs) (big2 (by omega)) (λj us H'=>Same N H'/\∀u∈us,PR (λ_ _=>True) H' u) ⟨Same.refl _,λu z=>nomatch z⟩ (λ_ _ H' s'=>SqL.of (s'.1 _ _ J)) (λj x us H' K1 K0 R s' M k0=>?_) λH4 up us s' hu Y=>?_⟩
 ·obtain⟨s',Z⟩:=s'
  obtain⟨_,b,vq,p,vr,r,vc,c,z,kq,rfl,h1,_,_,⟨c1,rfl,hc⟩,⟨d1,rfl,hd⟩,_⟩:=(v x (m x (qh R))).tups (t.trans s').tups;refine iteT (B:=K0 H') ?_;exact⟨_,O,b,_,1,_,O,O,SqT.of h1,O,_,O,b,_,2,_,O,O,SqT.of h1,O,szOk rfl,λtq I g5 C L=>⟨_,O,b,_,3,_,O,O,SqT.of (C _ _ h1),O,szOk rfl,λpq H6 g6 f e6=>M _ _ ⟨(s'.trans C).trans f,xAbg (λu hu=>(Z u hu).imp (C.trans f).tups λ_ _ g=>g) ⟨pq,.two r c,.ref tq,.str z,O,e6,⟨tq,c1,d1,O,f _ _ L,f _ _ (C _ _ hc),f _ _ (C _ _ hd)⟩,trivial⟩⟩⟩⟩
 obtain⟨s4,Z⟩:=s';have n4:Same H4 (upd H4 up (.lst us)):=Same.new Y;obtain⟨es,pr,el,_⟩:=xAdd (P:=λ_ _=>True) λy hy=>(Z y hy).imp n4.tups λ_ _ g=>g;exact⟨up,us,es,O,SqL.of xAab,pr,by omega,λdq N g7 U J=>kk N dq _ (((t.trans s4).trans n4).trans U) J⟩
def ok_fAy(T:Txt K mg tk)(F:FO K mg "_law_signs" s_fAy)(f:O_fBj P w K mg base)(gfBk:O_fBk P w K mg base):O_fAy P w K mg base:=by
 refine mk_ok F xAgj (λ_ _ _ _ _ _ u l=>match u,l with|[_,_,_,_],_=>rfl) (λ_ _ _ _ h=>xAff h) λfa cdv A outer s H vs Q E y h=>?_;have hu1:(A.deeper (envOfC "_law_signs" (defScope s_fAy) s.heap.objs.size fa cdv)).units+1<cLine:=hu_of y
 refine⟨_,(xAaa (sn xAgj.nd 4 xAcb)
   (xAaa (fo (xAbs (by rfl) T.b_range (a1 (cl f y (a2 (vv 0) xAaf)))) (gn xAgj.nd 5)
   (xAaa (sn xAgj.nd 6 (xa (vv 3) (cl f y (a2 (vv 0) (cb xAag T.b_len boot_len (a1 (vv 3)))))))
   (xAaa (sn xAgj.nd 7 (xa (pe_op xApi (xAal (a1 xAcf)) (bm PySem.F.plainAttrs_dict PySem.F.slot_dict_get PySem.F.type_dict_get (xAbk (hu2 y)) (vv 4) (a2 (vv 6) (xAal xAbm)))) (cl f y (a2 (vv 0) (pe_op xAbc xAaf (cb xAqh T.b_len boot_len (a1 (bm PySem.F.plainAttrs_dict PySem.F.slot_dict_get PySem.F.type_dict_get (xAbk (hu2 y)) (vv 4) (a2 (vv 6) (xAal xAbm))))))))))
   (xAaa (sn xAgj.nd 8 (xAah (ac (xa (vv 2) (pe_op xAcl (vv 5) (cb xAag T.b_len boot_len (a1 (vv 2))))) (a2 (pe_op xAbc xAaf (vv 5)) xAaf))))
   (xAaa (sn xAgj.nd 9 (ce op_gt (cl f y (a2 (vv 0) xAaf)) xAaf))
   (xAaa (sn xAgj.nd 10 (xAah (ac (pe_op xAbc xAaf (pe_op xAcq (vv 5) xAaf)) (a2 (pe_op xAcl (vv 5) xAaf) xAaf))))
   (xAaa (ap (xAat hu1 (vv 1) xAai (λ_ _=>rfl)) (a1 (xAah (ac (vv 6) (ac (vv 8) (ac (vv 7) (ac (vv 10) (a2 (cl gfBk y (a2 (vv 0) (vv 3))) (vv 9)))))))))
   (xAac (xAbe (hu2 y) (vv 4) (vv 6) (pe_op xApi (bm PySem.F.plainAttrs_dict PySem.F.slot_dict_get PySem.F.type_dict_get (xAbk (hu2 y)) (vv 4) (a2 (vv 6) (xAal xAbm))) (xAal (a1 (vv 8)))) rfl)))))))))
   (xAac (xAak (vv 4))))),?_⟩
 obtain⟨d,fa,r,kq,F,kn,rfl,dw,dk,e3,er,ek,hkn,k0,k1,rd,D,fd,rf,kf,kk⟩:=h;refine λnq H1 gn X en=>?_
 have R:H d≠none:=let⟨_,_,e⟩:=dw;by rw[e];exact λz=>nomatch z
 have hf:H (F 3)≠none:=by rw[e3];exact λz=>nomatch z
 have nd:nq≠d:=λz=>R (z▸gn);have nf:nq≠F 3:=λz=>hf (z▸gn)
 have nfa:fa≠d:=λz=>by obtain⟨_,_,e⟩:=dw;rw[←z,dk]at e;cases e
 have nff:fa≠F 3:=λz=>by rw[←z,dk]at e3;cases e3
 have B1:SB H H1 d (F 3) nq (λ_=>⟨[],[],none,0,0,0,.none,false⟩) 0 [] []:=⟨Rest.refl.same X,dw.same X,X _ _ e3,.nil,⟨qy _,(λi j _ z=>nomatch z),(λi z=>nomatch z),(λi z=>nomatch z),(λi z=>nomatch z),(λi z=>nomatch z)⟩,(λi z=>nomatch z),(λi z=>nomatch z),(λi z=>nomatch z),en,⟨(λe z=>nomatch z),(λk u z=>nomatch z)⟩,(λk u z=>nomatch z)⟩;refine⟨_,O,d,25,O,B1.dw,by decide,by decide,λc H2 s2 w2 a2 b2=>?_⟩;have B2:=B1.draw R fd nd s2 w2;refine⟨c,O,by omega,by omega,xAbt (lo:=0) (n:=c.toNat) (λj σ Z=>∃S xs kvs u5 u6 u7 u8 u9 W,σ=[some (.ref d),some (.ref fa),some (.ref r),some (.ref kq),some (.ref nq),u5,u6,u7,u8,u9,W]/\SB H Z d (F 3) nq S j xs kvs/\xs.length=j/\kvs.length≤j) ⟨_,_,_,_,_,_,_,_,_,O,B2,O,qb _⟩ ?_ ?_⟩
 ·rintro j σ Z hj ⟨S,xs,kvs,u5,u6,u7,u8,u9,W,rfl,B,hx,hk⟩
  have ekZ:=B.out ek D kf;have erZ:=B.out er rd rf
  have knZ:KN Z kn:=hkn.tups (xAbu B.ro λb z ys e=>by
   rcases z with z|z <;> subst z
   ·obtain⟨_,_,e'⟩:=dw
    rw[e']at e;cases e
   ·rw[e3]at e;cases e)
  refine⟨_,O,_,O,_,O,kq,_,O,.inl (SqL.of ekZ),d,_,O,B.dw,by omega,by omega,λi1 Z1 X w1 x1 y1=>⟨kq,kn,i1,O,O,SqL.of (DP.to X ekZ D),x1,y1,λvp hvp=>?_⟩⟩;have t1:=B.dw.tups X;have B1:=B.draw R fd nd X w1;have kn1:=knZ.tups t1;obtain⟨p,gp,pn⟩:=kn1.np hvp;refine⟨szOk rfl,λl2 Z2 g2 s2 e2=>?_⟩;refine⟨_,O,tyG (B1.same s2).en,_,O,szOk rfl,λl3 Z3 g3 s3 e3'=>?_⟩;have C:=s2.trans s3;have B3:=B1.same C;obtain⟨us,hl,hu,gu⟩:=B1.get p;obtain⟨lq,gl,el⟩:=gu Z3 l3 (λb o _ e=>C _ _ e) e3';refine⟨nq,kvs,.tup p,_,_,O,O,B3.en,gp.tups C.tups,l2,lq,[.non],us,O,gl,s3 _ _ e2,el,?_,λcq Z4 g4 s4 e4=>?_⟩
  ·show 1+us.length≤sizeLine
   exact zt (xAaj (by omega))
  have B4:=B3.same s4;refine⟨_,O,_,O,tyG B4.en,_,O,szOk rfl,λl5 Z5 g5 s5 e5=>?_⟩;have B5:=B4.same s5;have s15:=(C.trans s4).trans s5;obtain⟨lq',gl',el'⟩:=gu Z5 l5 (λb o _ e=>s15 _ _ e) e5;refine⟨nq,kvs,.tup p,_,_,O,O,B5.en,gp.tups s15.tups,_,us.length,O,by rw[gl'];exact .inl ⟨_,SqL.of el',O⟩,_,_,O,O,d,_,O,B5.dw,by omega,by omega,λi2 Z6 s6 w6 x2 y2=>⟨cq,_,i2,O,O,SqL.of (DP.to s6 (s5 _ _ e4) (λz=>R (z▸B3.free g4))),x2,by rw[qe,qo];omega,λvb hvb=>?_⟩⟩;have B6:=B5.draw R fd nd s6 w6;have U:=s15.tups.trans (B5.dw.tups s6);have gp6:=gp.tups U
  obtain⟨bo,gb,hb⟩:∃bo,GK Z6 (kd (nkS S) bo) vb/\∀i,bo=some i->i<j/\(S i).pt=p:=by
   rcases qz.mp hvb with z|z
   ·exact⟨none,z,(λi z=>nomatch z)⟩
   ·obtain⟨i,a1,a2,a3⟩:=hu vb z
    exact⟨some i,NM.tups a3 U,λi' z=>by cases z;exact⟨a1,a2⟩⟩
  have er6:=B6.out er rd rf;refine⟨_,O,_,O,_,O,r,_,O,.inl (SqL.of er6),_,_,O,O,(by decide:(0:Int)<2),r,_,_,O,O,SqL.of er6,Int.emod_nonneg _ (by decide),Int.emod_lt_of_pos _ (by decide),λvw hvw=>?_⟩
  obtain⟨w,rfl,hw⟩:∃w,vw=.str w/\PyData.strOk w=true:=by
   have:=hvw
   simp only[List.mem_cons,List.not_mem_nil,or_false]at this
   rcases this with h|h <;> exact⟨_,h,by decide +kernel⟩
  refine⟨_,O,_,_,O,O,szOk rfl,λq7 Z7 g7 s7 e7=>?_⟩;have B7:=B6.same s7;refine⟨_,O,d,5,O,B7.dw,by decide,by decide,λi3 Z8 s8 w8 x3 y3=>⟨_,_,O,O,?_⟩⟩;have B8:=B7.draw R fd nd s8 w8;generalize decide ((0:Int)<i3)=lv;refine⟨_,O,_,_,O,O,⟨by decide,by decide⟩,_,_,O,O,_,O,_,_,O,O,(by decide:(0:Int)<2),szOk rfl,λq9 Z9 g9 s9 e9=>?_⟩;have B9:=B8.same s9;rw[Int.zero_add]at e7 e9;have s69:=(B7.dw.tups s8).trans s9.tups;have t69:=s7.tups.trans s69;have ek9:=B9.out ek D kf;have kn9:∀v∈kn,NPn Z9 v:=λv hv=>(kn1.tups (U.trans t69)).np hv;refine⟨_,O,fa,.ref (F 3),O,.inl ⟨fkv F 9,.inr "signs",.inl (B9.out dk nfa nff),O,(xAbl F 3 (by decide)).symm⟩,.inl ⟨O,_,SqL.of B9.ex⟩,_,O,_,O,_,O,_,O,_,O,_,O,d,kq,kn,O,B9.dw,ek9,D,k0,by omega,kn9,λZ10 vg dd s10 w10 dt so os=>?_⟩;have B10:=B9.draw R fd nd s10 w10;have M:=B9.dw.tups s10;refine⟨_,O,szOk rfl,λN x g11 q e11=>⟨F 3,xs,_,O,O,(B10.same q).ex,xAaj (by omega),?_⟩⟩;have V:=B10.same q;have t:=(t69.trans M).trans q.tups;have I:=(s69.trans M).trans q.tups;have t911:=M.trans q.tups;have B12:=V.sign (r:=⟨p,[.inr w,.inl (40+(j:Int)),.inl 0],bo,50+(j:Int) / 2,(j:Int) % 2,0,dd,lv⟩) hf fd nf (by omega) e11 (gp6.tups t) ⟨q7,O,I _ _ e7⟩ (gb.tups t) (t911 _ _ e9) (dt.tups q.tups) rfl hw pn ⟨O,O,O⟩ hb so os;have G:Tups x (upd x (F 3) (.lst (xs++[.ref N]))):=Tups.wl V.ex;have g:=gp6.tups (t.trans G);have e12:=(I.trans G) _ _ e7;have k12:∀b o,H b=none->x b=some o->upd x (F 3) (.lst (xs++[.ref N])) b=some o:=λb o hn e=>(xAae λ(z:b=F 3)=>hf (z▸hn)).trans e;generalize upd x (F 3) (.lst (xs++[.ref N]))=Z12 at B12 g e12 k12 G;refine⟨_,O,tyG B12.en,_,O,szOk rfl,λl13 Z13 g13 m e13=>?_⟩;have B13:=B12.same m;obtain⟨us2,hl2,hu2,gu2⟩:=V.get p;refine⟨nq,kvs,.tup p,_,_,O,O,B13.en,g.tups m.tups,_,O,szOk rfl,λl14 Z14 g14 L e14=>?_⟩;have Y:=m.trans L;have B14:=B13.same L;obtain⟨lq2,gl2,el2⟩:=gu2 Z13 l13 (λb o hn e=>m _ _ (k12 b o hn e)) e13;refine⟨lq2,l14,us2,[.ref q7],gl2,O,L _ _ el2,e14,?_,λl15 Z15 g15 J e15=>?_⟩
  ·show us2.length+1≤sizeLine
   exact zt (xAaj (by omega))
  have B15:=B14.same J;have a:=Y.trans J;refine⟨_,O,_,O,nq,kvs,.tup p,O,B15.en,g.tups a.tups,xAaj (by omega),?_⟩;refine⟨_,_,_,_,_,_,_,_,_,O,B15.put gn nd nf pn (g.tups a.tups) e15 (B14.free g15) (by rw[qe,qo];omega) (by rw[qe,qo];omega) (λv hv=>?_),by rw[qe,qo,hx],qc (xAca _ _ _ _) (by omega)⟩;rcases zd.mp hv with z|z
  ·obtain⟨i,a1,a2,a3⟩:=hu2 v z
   exact⟨i,by omega,by rw[xAbf a1];exact a2,NM.tups (NM.agr (Agr.ext S j _) a1 a3) (G.trans a.tups)⟩
  ·rw[qt.mp z]
   refine⟨j,wk _,by rw[xAbw],?_⟩;unfold NM nkS;rw[xAbw];exact⟨q7,O,a _ _ e12⟩
 ·rintro σ Z ⟨S,xs,kvs,u5,u6,u7,u8,u9,W,rfl,B,hx,hk⟩
  exact⟨_,O,kk Z S _ xs nq kvs B.ro B.ex B.an B.ws (by omega) B.ok gn B.en (by omega) B.nd B.fr⟩
def ok_fAe(T:Txt K mg tk)(F:FO K mg "_law_stretches" s_fAe)(f:O_fBj P w K mg base)(I:O_fBe P w K mg base):O_fAe P w K mg base:=by
 refine mk_ok F xAfh (λ_ _ _ _ _ _ u l=>match u,l with|[_,_,_,_],_=>rfl) (λ_ _ _ _ h=>xAcz h) λfa cdv A outer s H vs Q E o h=>?_;have hu1:(A.deeper (envOfC "_law_stretches" (defScope s_fAe) s.heap.objs.size fa cdv)).units+1<cLine:=hu_of o
 refine⟨_,(xAac (fo (xAbs (by rfl) T.b_range (a1 (cl f o (a2 (vv 0) xAaf)))) (gn xAfh.nd 4)
   (xAaa (sn xAfh.nd 5 (cb (xAha (hu61 o) o.hd) T.b_sorted boot_sorted (a1 (vv 3))))
   (xAac (ps_if (ck (neD o) (vv 5) (xAal xAbm)) (xAaa (sn xAfh.nd 6 (xa (vv 5) (cl f o (a2 (vv 0) (cb xAag T.b_len boot_len (a1 (vv 5)))))))
   (xAaa (sn xAfh.nd 7 (cl I o (a2 (vv 0) (xAap (hu2 o) (vv 3) (vv 6) (λ_ _=>rfl)))))
   (xAaa (sn xAfh.nd 8 (cl I o (a2 (vv 0) (xAap (hu2 o) (vv 3) (vv 6) (λ_ _=>rfl)))))
   (xAaa (sn xAfh.nd 9 (xAah (a2 (xl (vv 2)) (pe_op xAbc xAaf (vv 4)))))
   (xAac (ps_if (ck op_gt (cl f o (a2 (vv 0) xAaf)) xAaf) (xAaa (sn xAfh.nd 10 (xa (xAal (ac xAai (a2 xAai xAcf))) (cl f o (a2 (vv 0) xAaf))))
   (xAaa (sn xAfh.nd 11 (xa (xAal (ac xAai (a2 xAai xAai))) (cl f o (a2 (vv 0) xAaf))))
   (xAac (ap (xAat hu1 (vv 1) xAai (λ_ _=>rfl)) (a1 (xAah (ac (vv 6) (ac (vv 7) (ac (vv 8) (ac (vv 11) (ac (vv 10) (a2 (vv 9) (xAah (a2 (pe_op xAbc xAaf (pe_op xAcq (vv 4) xAaf)) (pe_op xAcl (vv 4) xAaf))))))))))))))) (xAac (ap (xAat hu1 (vv 1) xAai (λ_ _=>rfl)) (a1 (xAah (ac (vv 6) (ac (vv 7) (ac (vv 8) (ac (pe_op xAul xAai (pe_op xAbc xAaf (pe_op xAcl (vv 4) xAaf))) (a2 (vv 9) (xAah (a2 (pe_op xAbc xAaf (pe_op xAcq (vv 4) xAaf)) (pe_op xAcl (vv 4) xAaf)))))))))))))))))) xAan))))),?_⟩
 obtain⟨d,fa,r,nq,F,S,n,kvs,rfl,dw,dk,n24,e4,e5,er,en,kl,nmd,rd,fr,n45,lqn,kk⟩:=h;have G:F 4≠d:=(fr 4 (by decide)).1;have J:F 5≠d:=(fr 5 (by decide)).1
 have R:nq≠d:=λz=>by obtain⟨_,_,e⟩:=dw;rw[←z,en]at e;cases e
 have Y:nq≠F 4:=λz=>by rw[←z,en]at e4;cases e4
 have L:nq≠F 5:=λz=>by rw[←z,en]at e5;cases e5
 have nfd:fa≠d:=λz=>by obtain⟨_,_,e⟩:=dw;rw[←z,dk]at e;cases e
 have nf4:fa≠F 4:=λz=>by rw[←z,dk]at e4;cases e4
 have nf5:fa≠F 5:=λz=>by rw[←z,dk]at e5;cases e5
 have r4:r≠F 4:=(fr 4 (by decide)).2;have r5:r≠F 5:=(fr 5 (by decide)).2;refine⟨_,O,d,9,O,dw,by decide,by decide,λc H2 s2 w2 a2 b2=>?_⟩;have B2:TB H H2 d F 0:=⟨Rest.refl.del (.inl rfl) s2,w2,⟨[],DP.to s2 e4 G,(λx z=>nomatch z),qb _⟩,⟨[],DP.to s2 e5 J,(λx z=>nomatch z),qb _⟩⟩;refine⟨c,O,by omega,by omega,xAbt (lo:=0) (n:=c.toNat) (λj σ Z=>∃u4 u5 u6 u7 u8 u9 u10 U,σ=[some (.ref d),some (.ref fa),some (.ref r),some (.ref nq),u4,u5,u6,u7,u8,u9,u10,U]/\TB H Z d F j) ⟨_,_,_,_,_,_,_,_,O,B2⟩ ?_ ?_⟩
 ·rintro j σ Z hj ⟨u4,u5,u6,u7,u8,u9,u10,U,rfl,B⟩
  have t0:Tups H Z:=xAbu B.ro λb z ys e=>by
   rcases z with z|z|z <;> subst z
   ·obtain⟨_,_,e'⟩:=dw
    rw[e']at e;cases e
   ·rw[e4]at e;cases e
   ·rw[e5]at e;cases e
  have enZ:=B.out en R Y L;have ks:=nmd.1.tups t0;refine⟨_,O,nq,kvs,_,3,O,Rd.of enZ,ks.dvs,ks.keys,by omega,λpq Z1 ix g1 s1 six e1=>?_⟩
  have hul:(ix.map λi=>(kvs.map (·.2.1)).getD i V.non).length≤24:=by
   rw[qf,xAwj six,qf];exact kl
  have ru:∀u∈ix.map (λi=>(kvs.map (·.2.1)).getD i V.non),∃p,GK Z1 (.tup p) u/\Pn p/\∃N us,vG kvs (.tup p)=some (.ref N)/\H N=some (.lst us)/\0<us.length/\us.length≤n/\∀v∈us,∃i,i<n/\(S i).pt=p/\NM (nkS S) H v i:=λu hu=>by
   obtain⟨e,he,rfl⟩:=qj.mp (xAwi six (by rw[qf,qf]) u hu);obtain⟨p,pn,h1,h2⟩:=ks e he;refine⟨p,h2.tups s1.tups,pn,?_⟩
   cases z:vG kvs (.tup p) with
   |none=>exact absurd h1 (vG_no z e he)
   |some w =>
    obtain⟨p',N,us,h1,h2,rfl,h4,h5,h6,h7⟩:=nmd.2 _ _ z;injection h1 with h1;subst h1;exact⟨N,us,O,h4,h5,h6,h7⟩
  generalize (ix.map λi=>(kvs.map (·.2.1)).getD i V.non)=us at e1 hul ru
  obtain⟨ps,pa⟩:∃ps:List (List Key),AL (λu p=>GK Z1 (.tup p) u/\Pn p) us ps:=let⟨ps,h1,h2⟩:=xAcy (P:=λu p=>GK Z1 (.tup p) u/\Pn p) λu h=>let⟨p,a,b,_⟩:=ru u h;⟨p,a,b⟩;⟨ps,h1.symm,h2⟩
  have pd:DTs Z1 us (ps.map tD):=AL.dts (λv p g=>gk_td g.1) pa;refine⟨_,O,szOk rfl,λzq Z2 g2 t f2=>?_⟩;refine⟨.list (ps.map tD),.list [],.lst (SqL.of (t _ _ e1)) (pd.same t).dv,.lst (SqL.of f2) .nil,?_,O,?_,_,O,?_⟩
  ·exact(xAge λk hk=>by obtain⟨_,_,_,h⟩:=pa.mem' hk;exact h).1
  ·exact qc (yg _ _) (by decide)
  have s02:=s1.trans t;have B2:=B.same s02;have hpq:pq≠d:=B.dw.ne g1
  cases us with
  |nil =>
   have:ps=[]:=wz.mp pa.1.symm;subst this;exact itF rfl ⟨_,_,_,_,_,_,_,_,O,B2.next⟩
  |cons w0 ws0 =>
   obtain⟨p0,y,rfl⟩:∃p0 y,ps=p0::y:=by
    cases ps with
    |nil=>have:=pa.1;cases this
    |cons p0 y=>exact⟨p0,y,O⟩
   refine itT rfl ?_
   have hu0:(0:Int)<((w0::ws0).length:Nat):=by rw[qx];omega
   have e12:=t _ _ e1;refine⟨_,O,_,O,_,O,pq,_,O,.inl (SqL.of e12),d,_,O,B2.dw,hu0,by omega,λi3 Z3 s3 w3 x3 y3=>⟨pq,_,i3,O,O,SqL.of (DP.to s3 e12 hpq),x3,y3,λvp hvp=>?_⟩⟩;obtain⟨p,gp1,pn,N,vs,gv,elH,l0,l1,hvs⟩:=ru vp hvp;obtain⟨ld,l4,l5⟩:=lqn _ _ gv;have B3:=B2.draw G J s3 w3;have t13:=t.tups.trans (B2.dw.tups s3);have t03:=s1.tups.trans t13;have gp3:=gp1.tups t13;refine⟨_,O,_,O,_,O,nq,kvs,.tup p,_,O,Rd.of (B3.out en R Y L),gp3,gv,d,N,vs,O,B3.dw,B3.out elH ld l4 l5,ld,l0,by omega,λZ4 q4 v4 b4 s4 w4 e4' m4=>?_⟩;have B4:=B3.draw G J s4 w4;have t34:=B3.dw.tups s4;refine⟨_,O,_,O,_,O,nq,kvs,.tup p,_,O,Rd.of (B4.out en R Y L),gp3.tups t34,gv,d,N,vs,O,B4.dw,B4.out elH ld l4 l5,ld,l0,by omega,λZ5 q5 v5 b5 s5 w5 e5' m5=>?_⟩;have B5:=B4.draw G J s5 w5;have t45:=B4.dw.tups s5;have t35:=t34.trans t45;have t05:=(t0.trans t03).trans t35;obtain⟨i4,hi4,pt4,nm4⟩:=hvs v4 m4;obtain⟨i5,hi5,pt5,nm5'⟩:=hvs v5 m5;have sd4:SdW Z5 (.ref q4):=⟨q4,v4,_,_,O,t45 _ _ e4',NM.tups nm4 t05⟩;have sd5:SdW Z5 (.ref q5):=⟨q5,v5,_,_,O,e5',NM.tups nm5' t05⟩;have gp5:=gp3.tups t35;refine⟨_,O,r,_,0,_,O,O,SqL.of (B5.out er rd r4 r5),O,_,O,_,_,O,O,szOk rfl,λq6 Z6 g6 s6 e6=>?_⟩;rw[Int.zero_add]at e6;have B6:=B5.same s6;refine⟨_,O,d,3,O,B6.dw,by decide,by decide,λi7 Z7 s7 w7 x7 y7=>⟨_,_,O,O,_,O,?_⟩⟩;have M:=B6.draw G J s7 w7;have t67:=B6.dw.tups s7;have t57:=s6.tups.trans t67;have e7:=t67 _ _ e6;generalize decide ((0:Int)<i7)=bb
   cases bb with
   |true =>
    refine itT rfl ?_;refine⟨szOk rfl,λy8 Z8 g8 s8 f8=>⟨_,O,d,3,O,(M.same s8).dw,by decide,by decide,λi9 Z9 s9 w9 x9 y9=>⟨y8,_,i9,O,O,SqL.of (DP.to s9 f8 (M.dw.ne g8)),x9,y9,λvv hvv=>?_⟩⟩⟩;have B9:=(M.same s8).draw G J s9 w9;have t79:=s8.tups.trans ((M.same s8).dw.tups s9);refine⟨szOk rfl,λyA ZA gA sA fA=>⟨_,O,d,3,O,(B9.same sA).dw,by decide,by decide,λiB ZB sB wB xB yB=>⟨yA,_,iB,O,O,SqL.of (DP.to sB fA (B9.dw.ne gA)),xB,yB,λvk hvk=>?_⟩⟩⟩
    obtain⟨kd,rfl,hkd⟩:∃kd,vk=.str kd/\PyData.strOk kd=true:=by
     simp only[List.mem_cons,List.not_mem_nil,or_false]at hvk
     rcases hvk with h|h|h <;> subst h <;> exact⟨_,O,by decide +kernel⟩
    have BB:=(B9.same sA).draw G J sB wB;have t9B:=sA.tups.trans ((B9.same sA).dw.tups sB);obtain⟨ms,W,hms,lms⟩:=BB.e4;refine⟨_,O,fa,.ref (F 4),O,.inl ⟨fkv F 9,.inr "marks",.inl (BB.out dk nfd nf4 nf5),O,(xAbl F 4 (by decide)).symm⟩,.inl ⟨O,_,SqL.of W⟩,_,O,_,O,_,O,_,O,_,O,_,O,_,O,_,_,O,O,⟨by decide,by decide⟩,_,_,O,O,_,O,_,_,O,O,(by decide:(0:Int)<2),szOk rfl,λqC ZC gC C eC=>⟨szOk rfl,λqD ZD gD q eD=>⟨F 4,ms,_,O,O,(C.trans q) _ _ W,xAaj (by omega),?_⟩⟩⟩;rw[Int.zero_add]at eC;have X:=(BB.same C).same q;have tBD:=C.tups.trans q.tups;have D:=(t79.trans t9B).trans tBD;have m:=t57.trans D;have tw:Tups ZD (upd ZD (F 4) (.lst (ms++[.ref qD]))):=Tups.wl ((C.trans q) _ _ W);exact⟨_,_,_,_,_,_,_,_,O,X.ro.wr (.inr (.inl rfl)),X.dw.wr G.symm,FLs.ap (λx hx=>(hms x hx).tups tBD) lms ⟨(_,_),qD,_,p,_,_,kd,vv,_,qC,O,eD,gp5.tups m,pn,sd4.tups m,sd5.tups m,hkd,q _ _ eC⟩ (λ_ g=>g.tups tw),(X.e5.mv (λ_ e=>by rw[xAae n45.symm];exact e) λ_ g=>g.tups tw).le (wg _)⟩
   |false =>
    refine itF rfl ?_;obtain⟨ns,W,hns,lns⟩:=M.e5;refine⟨_,O,fa,.ref (F 5),O,.inl ⟨fkv F 9,.inr "notes",.inl (M.out dk nfd nf4 nf5),O,(xAbl F 5 (by decide)).symm⟩,.inl ⟨O,_,SqL.of W⟩,_,O,_,O,_,O,_,O,_,_,O,O,(by decide:(0:Int)<4),_,_,O,O,_,O,O,by omega,by omega,λhm' hok=>?_⟩;refine⟨_,O,_,O,_,_,O,O,⟨by decide,by decide⟩,_,_,O,O,_,O,_,_,O,O,(by decide:(0:Int)<2),szOk rfl,λqC ZC gC C eC=>⟨szOk rfl,λqD ZD gD q eD=>⟨F 5,ns,_,O,O,(C.trans q) _ _ W,xAaj (by omega),?_⟩⟩⟩;rw[Int.zero_add]at eC;have X:=(M.same C).same q;have D:=C.tups.trans q.tups;have m:=t57.trans D;have tw:Tups ZD (upd ZD (F 5) (.lst (ns++[.ref qD]))):=Tups.wl ((C.trans q) _ _ W);exact⟨_,_,_,_,_,_,_,_,O,X.ro.wr (.inr (.inr rfl)),X.dw.wr J.symm,(X.e4.mv (λ_ e=>by rw[xAae n45];exact e) λ_ g=>g.tups tw).le (wg _),FLs.ap (λx hx=>(hns x hx).tups D) lns ⟨(_,_),qD,_,p,_,_,_,_,qC,O,eD,gp5.tups m,pn,sd4.tups m,sd5.tups m,q _ _ eC⟩ (λ_ g=>g.tups tw)⟩
 ·rintro σ Z ⟨u4,u5,u6,u7,u8,u9,u10,U,rfl,B⟩
  exact kk Z B.ro (B.e4.le (by omega)) (B.e5.le (by omega))
def ok_fBx(T:Txt K mg tk)(F:FO K mg "is_let" s_fBx)(a:O_fAr P w K mg base):O_fBx P w K mg base:=by
 refine mk_ok F xAsc (λ_ _ _ _ _ _ u l=>match u,l with|[_,_,_,_],_=>rfl) (λ_ _ _ _ h=>xAvb h) λfa v A outer s H vs Q E d h=>?_
 refine⟨_,(xAaa (sn xAsc.nd 4 (cl a d (ac (vv 0) (a2 (vv 2) (vv 3)))))
   (xAaa (fo (il (vv 1)) (gn xAsc.nd 5)
   (xAac (ps_if (ck (xAjm (hu2 d)) (vv 5) (vv 4)) (xAac (xAak (xAap (hu2 d) (vv 4) (vv 5) (λ_ _=>rfl)))) xAan)))
   (xAac (xAak pe_bl)))),?_⟩
 obtain⟨p,c,ys,r,o,cv,rfl,B,t,few,m,pn,n⟩:=h;refine⟨_,O,_,O,_,O,p,ys,r,o,O,B,t,few,λH1 q kvs b C g tl=>?_⟩;refine⟨_,O,c,O,⟨_,m.same b⟩,xAas (xs:=cv) (λj σ H2=>∃e,σ=[some (.ref p),some (.ref c),some (.str r),some (.str o),some (.ref q),e]/\Same H1 H2) ⟨_,O,Same.refl _⟩ (λj σ D _ ⟨_,_,s⟩=>(m.same b).same s) ?_ ?_⟩
 ·rintro j x σ H2 z ⟨e,rfl,s2⟩
  obtain⟨f,k,_⟩:=(pn x (qh z)).tups (b.trans s2).tups;refine⟨_,O,_,O,q,kvs,.tup f,O,.inl (s2 _ _ g),k,_,O,?_⟩
  cases i:vG kvs (.tup f) with
  |none=>exact itF (by rfl) ⟨_,O,s2⟩
  |some u =>
   obtain⟨y,rfl⟩:=tl _ _ i;refine itT (by rfl) ?_;exact⟨_,O,_,O,q,kvs,.tup f,.bl y,O,.inl (s2 _ _ g),k,i,n H2 y (b.trans s2)⟩
 ·rintro σ H2 ⟨e,rfl,s2⟩
  exact n H2 false (b.trans s2)
def ok_fBv(T:Txt K mg tk)(F:FO K mg "ordered" s_fBv)(B:O_fAm P w K mg base):O_fBv P w K mg base:=by
 refine mk_ok F xAna (λ_ _ _ _ _ _ u l=>match u,l with|[_],_=>rfl) (λ_ _ _ _ h=>xAup h) λfa cdv A outer s H vs Q E hr h=>?_
 refine⟨_,(xAaa (sn xAna.nd 1 (cl B hr (a1 (vv 0))))
   (xAaa (sn xAna.nd 2 (xAal xAbm))
   (xAaa (sn xAna.nd 3 (cy xAns T.b_list boot_list (a1 (bm PySem.F.plainAttrs_dict PySem.F.slot_dict_get PySem.F.type_dict_get (xAbk (hu2 hr)) (vv 1) (a2 xAcf (xAal xAbm))))))
   (xAaa (xAeo PassesOwn.never (ck op_gt (cb xAag T.b_len boot_len (a1 (vv 3))) xAaf) (xAaa (sn xAna.nd 4 (xAsx PySem.F.plainAttrs_list PySem.F.slot_list_pop PySem.F.type_list_pop xAsy (vv 3)))
   (xAaa (ap (vv 2) (a1 (vv 4)))
   (xAac (xAeb (bm PySem.F.plainAttrs_list PySem.F.slot_list_extend PySem.F.type_list_extend xAhu (vv 3) (a1 (bm PySem.F.plainAttrs_dict PySem.F.slot_dict_get PySem.F.type_dict_get (xAbk (hu2 hr)) (vv 1) (a2 (vv 4) (xAal xAbm))))))))))
   (xAac (xAak (vv 2))))))),?_⟩
 obtain⟨p,ys,nk,bh,D,ms,js,t,rfl,hp,an,L,W,kk⟩:=h;have few:=W.few;refine⟨_,O,p,ys,nk,bh,D,ms,js,t,O,hp,an,L,W,λH1 dq kvs s1 fd=>?_⟩;refine⟨szOk rfl,λe H2 g2 s2 e2=>?_⟩;have r:=fd.same s2;refine⟨_,O,.inr (.inr (.inl ⟨O,.inr (.inr ⟨kvs,r.has⟩)⟩)),szOk rfl,λz0 H3 g3 S e3=>?_⟩;have y:=r.same S;obtain⟨a,vs,ea,eva,ava⟩:=y.get e3 none (λi z=>by cases z);refine⟨dq,kvs,.non,.non,.ref z0,O,O,y.has,O,?_⟩;rw[show(vG kvs KD.non).getD (V.ref z0)=.ref a from ea];refine⟨a,vs,O,.inl (SqL.of eva),λb H4 g4 s4 e4=>?_⟩;have w:Rga.WF (Rga.qsOf bh ms):=W.wf;have rl:=Rga.row_len w
 have m:e≠b:=λz=>by rw[←z,S _ _ e2]at g4;cases g4
 have X:H1 e=none:=g2;have M:H1 b=none:=(s2.trans S).free g4;have s14:=(s2.trans S).trans s4;have d0:=Rga.dfs_row w;rw[show Rga.rk (Rga.qsOf bh ms) none=(kids bh ms none).reverse from xApu bh ms none]at d0
 refine⟨λmm σ c=>∃(out done st:List Nat) (d tv:List V) (Z:Option V),σ=[some (.ref p),some (.ref dq),some (.ref e),some (.ref b),Z]/\Same H1 c/\c e=some (.lst d)/\AN (NM nk c) d done/\c b=some (.lst tv)/\AN (NM nk c) tv st/\Rga.Dfs (Rga.rk (Rga.qsOf bh ms)) st.reverse out/\done++out=Rga.rowR (Rga.qsOf bh ms)/\mm=out.length,
  ⟨_,_,[],kids bh ms none,[],vs,none,O,s14,s4 _ _ (S _ _ e2),.nil,e4,ava.imp λv i g=>g.tups s4.tups,d0,O,O⟩,?_⟩
 rintro mm σ c ⟨out,done,st,d,tv,Z,rfl,s5,er,ar,et,at',j,I,rfl⟩
 have U:done.length+out.length=ms.length:=by rw[←rl,←I,qe]
 have hst:=Rga.dfs_len j;rw[wb]at hst;refine⟨_,O,b,_,O,.inl (SqL.of et),_,_,O,O,_,O,?_⟩;rcases yo st with z|⟨st',x,z⟩
 ·subst z
  have h0:tv=[]:=wz.mp at'.1;subst h0;refine itF rfl ?_;have:=j.nil_inv;subst this;rw[vd]at I;subst I;exact⟨_,O,kk c e d (s1.trans s5) (s1.free X) er ar⟩
 rw[jc]at z;subst z;obtain⟨us,o,rfl,au,hx⟩:=at'.last;rw[jy,jo,List.reverse_nil,jl,List.singleton_append]at j;obtain⟨k,rfl,f⟩:=j.cons_inv;have hxm:x∈ms:=Rga.row_mem w (by rw[←I];exact zu _ qp);rw[show Rga.rk (Rga.qsOf bh ms) (some x)=(kids bh ms (some x)).reverse from xApu bh ms (some x)]at f;have hl2:=Rga.dfs_len f;rw[qe,wb,wb]at hl2;rw[qx]at U;refine itT (qI (by show(0:Int)<((us++[o]).length:Nat);rw[qe,qo];omega)) ?_;refine⟨λσ' H'=>∃(d tv:List V) (Z:Option V),σ'=[some (.ref p),some (.ref dq),some (.ref e),some (.ref b),Z]/\Same H1 H'/\H' e=some (.lst d)/\AN (NM nk H') d (done++[x])/\H' b=some (.lst tv)/\AN (NM nk H') tv (st'++kids bh ms (some x)),λσ' H' ⟨rv',tv',u4',b1,b2,b3,b4,b5,b6⟩=>⟨k.length,by rw[qx];omega,k,done++[x],_,rv',tv',u4',b1,b2,b3,b4,b5,b6,?_,?_,O⟩,?_⟩
 ·rw[jy]
  exact f
 ·rw[vj]
  exact I
 refine⟨_,O,.inl ⟨O,_,SqL.of et⟩,b,_,o,O,O,et,(by simp),?_⟩;rw[kz];have t6:Tups c (upd c b (.lst us)):=Tups.wl et
 have q:(upd c b (.lst us)) e=some (.lst d):=by rw[xAae m];exact er
 refine⟨_,O,.inl ⟨O,_,SqL.of q⟩,_,O,e,_,_,O,O,q,(by rw[ar.1];exact xAaw (by omega)),?_⟩;have t7:Tups (upd c b (.lst us)) (upd (upd c b (.lst us)) e (.lst (d++[o]))):=Tups.wl q
 have Y:(upd (upd c b (.lst us)) e (.lst (d++[o]))) b=some (.lst us):=by rw[xAae m.symm,xAab]
 have s7:Same H1 (upd (upd c b (.lst us)) e (.lst (d++[o]))):=(s5.wr M).wr X;have G:=fd.same s7;refine⟨_,O,.inl ⟨O,_,SqL.of Y⟩,_,O,.inr (.inr (.inl ⟨O,.inr (.inr ⟨kvs,G.has⟩)⟩)),_,O,szOk rfl,λz1 H8 g8 J e8=>?_⟩;have N:=G.same J;have t8:=(t6.trans t7).trans J.tups;obtain⟨a8,n,ea8,ev8,R⟩:=N.get e8 (some x) (λi z=>by cases z;exact hxm);refine⟨dq,kvs,.tup (nk x),o,.ref z1,O,O,N.has,hx.tups t8,?_⟩;rw[show(vG kvs (KD.tup (nk x))).getD (V.ref z1)=.ref a8 from ea8];have C:=J _ _ Y;refine⟨b,a8,us,n,O,O,C,ev8,big2 (by rw[au.1,R.1];omega),?_⟩;have t9:Tups H8 (upd H8 b (.lst (us++n))):=Tups.wl C;refine⟨d++[o],us++n,_,O,(s7.trans J).wr M,?_,?_,xAab,?_⟩
 ·rw[xAae m]
  exact J _ _ xAab
 ·exact((ar.snoc hx).imp λv i g=>g.tups (t8.trans t9))
 ·exact(au.imp λv i g=>g.tups (t8.trans t9)).app (R.imp λv i g=>g.tups t9)
def ok_fBg(T:Txt K mg tk)(F:FO K mg "turned_in" s_fBg)(gfAf:O_fAf P w K mg base)(gfBu:O_fBu P w K mg base):O_fBg P w K mg base:=by
 refine mk_ok F xAhi (λ_ _ _ _ _ _ u l=>match u,l with|[_],_=>rfl) (λ_ _ _ _ h=>xAvg h) λfa cdv A outer s H vs Q E hr h=>?_
 refine⟨_,(xAaa (sn xAhi.nd 1 (cy (xAar hr.hd (hu4 hr)) T.b_dict boot_dict (a1 (xAbi (own:=["part","place"]) (fr:=[]) rfl (xAcs (vv 0)) ⟨O,by decide +kernel,by decide +kernel⟩ (caps0 (by decide +kernel)) (λ_ _ _=>(xAen (n:=2) rfl (xAam (xAaq (i:=0) (by show List.Nodup (["part","place"]:List Str);decide +kernel) rfl (Or.inl rfl)) (xAam (xAaq (i:=1) (by show List.Nodup (["part","place"]:List Str);decide +kernel) rfl (Or.inl rfl)) xAch)))) (λ_=>xAbo rfl rfl (by decide)) (λ_ _ _=>xAbb) (λ_ _ _=>(xAah (a2 (vv 0) (xt (vv 1)))))))))
   (xAaa (sn xAhi.nd 2 xAcb)
   (xAaa (sn xAhi.nd 3 xAcb)
   (xAaa (fo (xAmd (vv 0)) (gn xAhi.nd 4)
   (xAaa (sn xAhi.nd 5 (cl gfBu hr (ac (vv 1) (a2 (vv 4) (vv 3)))))
   (xAei (ps_if (ck op_gt (bm PySem.F.plainAttrs_list PySem.F.slot_list_count PySem.F.type_list_count (cnD hr) (vv 5) (a1 (xi (vv 5) (pe_un xAdx xAaf)))) xAaf) (xAac (xAbe (hu2 hr) (vv 2) (cl gfAf hr (a2 (vv 0) (xAdm xAku (vv 5) (xAby (bm PySem.F.plainAttrs_list PySem.F.slot_list_index PySem.F.type_list_index (ixD hr) (vv 5) (a1 (xi (vv 5) (pe_un xAdx xAaf))))) (xAby (pe_un xAdx xAaf))))) pe_bl rfl)) xAan)
   (xAac (fo (il (vv 5)) (gn xAhi.nd 6)
   (xAac (xAbe (hu2 hr) (vv 3) (vv 6) pe_bl rfl)))))))
   (xAac (xAak (vv 2))))))),?_⟩
 obtain⟨V,kt,ps,rfl,htq,hfew,akt,tb,kk⟩:=h;refine⟨_,O,V,kt,O,xAcd htq λo Y hY fY eY=>?_⟩;have tY:=xAel htq hY;have tbY:=xAru htq hY tb;have aY:=akt.imp tY λ_ _ g=>TPl.tups g tY;refine xAdi (big (by omega)) (λj us X=>Same Y X/\∀u∈us,PR (VN kt X) X u) ⟨Same.refl _,λu z=>nomatch z⟩ (λ_ _ X s'=>s'.1 _ _ eY) (λj e us X p K1 K0 hx s' hp k1 k0=>?_) λX np us s' hy hq=>?_
 ·obtain⟨sX,ih⟩:=s'
  have em:=qh hx;have sp:Same X (upd X p (.tup [e.2.1,e.2.2])):=Same.new hp;have ep:(upd X p (.tup [e.2.1,e.2.2])) p=some (.tup [e.2.1,e.2.2]):=xAab;generalize upd X p (.tup [e.2.1,e.2.2])=X1 at sp ep;have t1:=(sX.trans sp).tups;obtain⟨g,_,p',b,vp,vo,vn,kq,x,y,hbv,h1,h2,h3,h4⟩:=aY.imp t1 (λ_ _ g=>TPl.tups g t1) e em;refine⟨p,_,O,SqT.of ep,O,_,_,O,_,_,O,O,?_⟩;refine iteT (B:=K0 X1) ?_;refine⟨_,O,_,O,b,_,1,vo,hbv,O,SqT.of h1,O,szOk rfl,λt3 X3 g3 s3 e3=>?_⟩;have s:=sp.trans s3;exact k1 _ _ ⟨sX.trans s,xAbg (λu hu=>(ih u hu).imp s.tups λ_ _ g=>VN.tups g s.tups) ⟨t3,e.1,e.2.1,vo,O,e3,g.tups s3.tups,vG_in em,h3.tups s3.tups⟩⟩
 obtain⟨sX,ih⟩:=s';have nH:Same X (upd X np (.lst us)):=Same.new hq;obtain⟨es',pr,el,he⟩:=xAdd λy hy=>(ih y hy).imp nH.tups λ_ _ g=>VN.tups g nH.tups;refine⟨np,us,es',O,SqL.of xAab,pr,by omega,λoa X2 g2 s2 e2=>?_⟩;have dg:=(DG.putAll (P:=VN kt _) pr he .nil).imp s2.tups λ_ _ g=>VN.tups g s2.tups;have hol:(putAll [] es').length≤31:=qc (xAbr es' []) (by rw[el,zy];omega);generalize putAll [] es'=ko at e2 dg hol;have sY2:=(sX.trans nH).trans s2;clear he pr hq hy nH ih;intro f X3 g3 s3 e3;intro r U g4 s4 e4;have s24:=s3.trans s4;have sY4:=sY2.trans s24;have ftu:Y f=none:=sY2.free g3;have fen:Y r=none:=(sY2.trans s3).free g4;have nte:f≠r:=xAad e3 g4
 let S2:Addr->Prop:=λb=>b=f\/b=r\/b=PTa
 have tb4:=tbY.same sY4
 have fix:∀{Z:Hp} {b:Addr} {u:HO},Same (dels U S2) Z->U b=some u->(∀ps,u≠.tbl ps)->b≠f->b≠r->Z b=some u:=λ{Z b u} s e hu h1 h2=>xAdt s e λz=>by
  rcases z with z|z|z
  ·exact h1 z
  ·exact h2 z
  ·obtain⟨ps,t⟩:=tb4.tbl
   rw[z,t]at e;exact hu ps (qK e).symm
 have fixT:∀{Z:Hp},Same (dels U S2) Z->Tups U Z:=λ{Z} s b us e=>fix s e (λps z=>nomatch z) (λz=>by rw[z,s4 _ _ e3]at e;cases e) (λz=>by rw[z,e4]at e;cases e)
 have a:U V=some (.frz o (.dG kt)):=sY4 _ _ eY;have noe:oa≠r:=xAad (s3 _ _ e2) g4;have noo:oa≠f:=xAad e2 g3
 have L:∀{Z:Hp},Same (dels U S2) Z->Z V=some (.frz o (.dG kt)):=λs=>fix s a (λps z=>nomatch z) (λz=>by rw[z,s4 _ _ e3]at a;cases a) λz=>by rw[z,e4]at a;cases a
 refine⟨_,O,V,kt,O,.inr ⟨o,a,?_⟩⟩
 refine xAiw (λj σ Z=>∃ku ke u4 u5 u6,σ=[some (.ref V),some (.ref oa),some (.ref f),some (.ref r),u4,u5,u6]/\Same (dels U S2) Z/\Z f=some (.dG ku)/\Z r=some (.dG ke)/\TBL Z/\ku.length≤j/\ke.length≤200 * j)
  ⟨[],[],none,none,none,O,xAon,s4 _ _ e3,e4,tb4,qb _,qy _⟩ (λj σ Z ⟨_,_,_,_,_,_,s,_⟩=>L s) ?_ ?_
 ·rintro j e σ Z hx ⟨ku,ke,u4,u5,u6,rfl,W,J,M,tbZ,hkul,hkel⟩
  have em:=qh hx;have hjl:=(qm.mp hx).1;have t4:=sY4.tups.trans (fixT W);have t2:=s24.tups.trans (fixT W);have aZ:=aY.imp t4 λ_ _ g=>TPl.tups g t4;have dZ:=dg.imp t2 λ_ _ g=>VN.tups g t2;obtain⟨ge,⟨pe,_,hpe,hnm⟩,_⟩:=aZ e em;rw[hpe]at ge;have eoZ:=fix W (s24 _ _ e2) (λps z=>nomatch z) noo noe;refine⟨_,O,_,O,_,O,oa,e.2.1,r,ko,ke,pe,Pn,O,.inl eoZ,hol,λk v h=>let⟨p,g,n⟩:=(dZ.val h).2;⟨p,gk_nd n.ne g,n⟩,.inl M,gk_nd hnm.ne ge,.inr hnm,λZ1 G ws ini las s1 gwa c R wy=>?_⟩;have R:AL (NmKP Z1) ws (ini++[las]):=R.impM λv k _ hk q=>gk_dn (wy.cc k hk).ne q;have hfw:=wy.few;obtain⟨us,v,rfl,aus,hv⟩:=xAjc R;have hul:us.length=ini.length:=aus.1;have llas:Pn las:=wy.cc las (zu _ (qt.mpr rfl));have lay:PyData.canLayAll0 ((ini++[las]).map tD)=true:=(xAge wy.cc).1;have tb1:=tbZ.same s1;have nwt:G≠f:=(xAad J gwa).symm;have nwe:G≠r:=(xAad M gwa).symm;refine⟨λσ' Z2=>∃S,σ'=[some (.ref V),some (.ref oa),some (.ref f),some (.ref r),some e.2.1,some (.ref G),u6]/\Same (dels U S2) Z2/\Z2 f=some (.dG S)/\Z2 r=some (.dG ke)/\TBL Z2/\S.length≤j+1/\Z2 G=some (.lst (us++[v]))/\Tups Z1 Z2,?_,?_⟩
  ·have d1:=(xAuu R).dv
   refine⟨_,O,.inl ⟨O,_,SqL.of c⟩,_,O,1,O,G,_,-1,v,O,O,SqL.of c,xAdc us v,v,tD las,G,_,_,O,O,(gk_td hv).dv,SqL.of c,d1,llas.lay,lay,qc (xAci las) (by decide),_,_,O,O,_,O,?_⟩
   refine itB (λhc=>?_) λ_=>⟨ku,O,W.trans s1,s1 _ _ J,s1 _ _ M,tb1,by omega,c,Tups.refl _⟩
   have hin:=(xAor (las:=las) wy.nd).mp (by have:=qO hc;omega);obtain⟨r0,hr0,er0⟩:=z6.mp hin
   have dd:∀(m:Nat) d,m<r0->((ini++[las]).map tD)[m]?=some d->PyData.eqv d (tD las)=false:=λm d hm hd=>by
    rw[qv,wc (by omega),qg (by omega:m<ini.length)]at hd;cases hd;show PyData.eqv (tD _) (tD las)=false;rw[xAgc]
    exact decide_eq_false λz=>jr.mp (List.nodup_iff_pairwise_ne.mp wy.nd) m r0 (by omega) hr0 hm (z.trans er0.symm)
   have atr:((ini++[las]).map tD)[r0]?=some (tD las):=by
    rw[qv,wc hr0,qg hr0,er0];rfl
   refine⟨_,O,_,O,_,O,_,O,.inl ⟨O,_,SqL.of c⟩,_,O,1,O,G,_,-1,v,O,O,SqL.of c,xAdc us v,v,tD las,G,_,_,r0,O,O,(gk_td hv).dv,SqL.of c,d1,llas.lay,lay,qc (xAci las) (by decide),⟨tD las,atr,by rw[xAgc];exact qI rfl⟩,dd,?_⟩;refine⟨_,O,1,O,_,O,G,_,O,SqL.of c,λla Z3 g3' I e3'=>?_⟩;rw[xAro (by omega)]at e3';have C:=s1.trans I;have tb3:=tb1.same I;refine⟨V,la,kt,us.drop r0,O,.inr ⟨o,C _ _ (L W)⟩,e3',λz=>?_,λw hw=>?_,tb3,λZ4 vm s4' tb4' hm=>?_⟩
   ·have:=congrArg List.length z
    rw[wm,zy]at this;omega
   ·obtain⟨k,hk,gk⟩:=aus.mem (j9 hw)
    obtain⟨v,hv⟩:=zv.mp (wy.dm k hk);have:=(dZ.val hv).1;rw[xAmt (wy.cc k (z8 _ hk)).ne]at this;exact ky_of (aZ.imp C.tups λ_ _ g=>TPl.tups g C.tups) (GK.tups gk I.tups) this
   obtain⟨k,hk,gk⟩:=aus.mem (j9 hm);have t34:=I.tups.trans (tupsT tb3 s4');have k34:∀{b:Addr} {u:HO},Z3 b=some u->(∀ps,u≠.tbl ps)->Z4 b=some u:=λe h=>My.keepT tb3 s4' e h;have et4:=k34 (C _ _ J) λps z=>nomatch z;refine⟨f,ku,.tup k,O,et4,GK.tups gk t34,huge (by omega),?_⟩;have t4:Tups Z4 (upd Z4 f (.dG (pG ku (.tup k) vm (.bl true)))):=Tups.wd et4
   have sZ4:Same (dels U S2) Z4:=λb u e=>s4' _ _ (by
    rw[xAau (λz=>?_)]
    ·exact(W.trans C) _ _ e
    ·rw[z,xAcc (.inr (.inr rfl))]at e
     cases e)
   exact⟨_,O,sZ4.wr (xAcc (.inl rfl)),xAab,by rw[xAae nte.symm];exact k34 (C _ _ M) (λps z=>nomatch z),tb4'.wr et4 (λps z=>nomatch z) (λφ z=>nomatch z),qc (xAca _ _ _ _) (by omega),by rw[xAae nwt];exact k34 (I _ _ c) (λps z=>nomatch z),t34.trans t4⟩
  rintro σ' Z2 ⟨S,rfl,s2',et2,ee2,tb2,hl2,ew2,t12⟩
  have hwl:(us++[v]).length=ini.length+1:=by rw[qe,qo,hul]
  refine⟨_,O,G,O,⟨_,SqL.of ew2⟩,xAas (xs:=us++[v]) (λi σ Z5=>∃D u6,σ=[some (.ref V),some (.ref oa),some (.ref f),some (.ref r),some e.2.1,some (.ref G),u6]/\Same (dels U S2) Z5/\Z5 f=some (.dG S)/\Z5 r=some (.dG D)/\D.length≤ke.length+i/\TBL Z5/\Z5 G=some (.lst (us++[v]))/\Tups Z1 Z5)
   ⟨ke,u6,O,s2',et2,ee2,qb _,tb2,ew2,t12⟩ (λi σ Z5 _ ⟨_,_,_,_,_,_,_,_,e,_⟩=>SqL.of e) ?_ ?_⟩
  ·rintro i x σ Z5 hx' ⟨D,u6',rfl,s5,et5,N,hl5,tb5,ew5,t5⟩
   obtain⟨k,hk,gx⟩:=R.at hx';have hi:=(qm.mp hx').1;exact⟨_,O,_,O,r,D,.tup k,O,N,GK.tups gx t5,huge (by omega),_,_,O,s5.wr (xAcc (.inr (.inl rfl))),by rw[xAae nte];exact et5,xAab,qc (xAca _ _ _ _) (by omega),tb5.wr N (λps z=>nomatch z) (λφ z=>nomatch z),by rw[xAae nwe];exact ew5,t5.trans (Tups.wd N)⟩
  ·rintro σ Z5 ⟨D,u6',rfl,s5,et5,N,hl5,tb5,ew5,t5⟩
   exact⟨S,D,_,_,_,O,s5,et5,N,tb5,hl2,by rw[hwl]at hl5;omega⟩
 rintro σ Z ⟨ku,ke,u4,u5,u6,rfl,W,J,M,tbZ,hkul,hkel⟩;refine⟨_,O,kk Z f ku (λb u e=>?_) (.inr ⟨o,L W⟩) tbZ (fY _ ftu) J⟩
 have nb:¬sS V b:=λz=>by rw[xAcc z]at e;cases e
 rw[xAcj nb]at e;refine xAdt W (sY4 _ _ (hY b u (λz=>nb (.inl z)) e)) λz=>?_;rcases z with z|z|z
 ·exact absurd (fY _ ftu) (by rw[←z,e];exact λy=>nomatch y)
 ·exact absurd (fY _ fen) (by rw[←z,e];exact λy=>nomatch y)
 ·exact nb (.inr z)
def ok_fBb(T:Txt K mg tk)(F:FO K mg "_law_facts" s_fBb)(m:O_fAk P w K mg base)(C:O_fBa P w K mg base)(gfAq:O_fAq P w K mg base)(gfAz:O_fAz P w K mg base)(gfAy:O_fAy P w K mg base)(gfAe:O_fAe P w K mg base)(gfAp:O_fAp P w K mg base):O_fBb P w K mg base:=by
 refine mk_ok F xAjw (λ_ _ _ _ _ _ u l=>match u,l with|[_,_],_=>rfl) (λ_ _ _ _ h=>xAfd h) λfa cdv A outer s H vs Q E D h=>?_;have hu1:(A.deeper (envOfC "_law_facts" (defScope s_fBb) s.heap.objs.size fa cdv)).units+1<cLine:=hu_of D
 refine⟨_,(xAaa (sn xAjw.nd 2 (ce op_eq (pe_op xAcl (cl m D (a2 (vv 0) xAaf)) xAaf) xAaf))
   (xAaa (sn xAjw.nd 3 xAph)
   (xAaa (fo (il (xAal (ac xAai (ac xAai (ac xAai (ac xAai (ac xAai (ac xAai (ac xAai (a2 xAai xAai)))))))))) (gn xAjw.nd 4)
   (xAac (xAtb hu1 (vv 3) (vv 4) (xAal xAbm) rfl)))
   (xAaa (sn xAjw.nd 5 (cl gfAz D (ac (cl C D (a2 (cl m D (a2 (vv 0) xAaf)) (vv 2))) (a2 (vv 3) (vv 1)))))
   (xAaa (sn xAjw.nd 6 (cl gfAy D (ac (cl C D (a2 (cl m D (a2 (vv 0) xAaf)) (vv 2))) (ac (vv 3) (a2 (vv 1) (vv 5))))))
   (xAaa (xAeb (cl gfAe D (ac (cl C D (a2 (cl m D (a2 (vv 0) xAaf)) (vv 2))) (ac (vv 3) (a2 (vv 1) (vv 6))))))
   (xAaa (xAeb (cl gfAp D (ac (cl C D (a2 (cl m D (a2 (vv 0) xAaf)) (vv 2))) (ac (vv 3) (a2 (vv 1) (vv 5))))))
   (xAaa (xAeb (cl gfAq D (ac (cl C D (a2 (cl m D (a2 (vv 0) xAaf)) (vv 2))) (ac (vv 3) (a2 (vv 1) (vv 5))))))
   (xAac (xAak (vv 3))))))))))),?_⟩
 obtain⟨sp,ns,r,rfl,hs,hn,G,kk⟩:=h;refine⟨_,O,sp,ns,0,O,hs,by decide,λc=>⟨_,_,O,O,(by show(0:Int)<2;decide),O,?_⟩⟩;generalize decide (V.int (c % 2)=V.int 1)=dg;intro dq H1 g1 s1 e1;refine⟨szOk rfl,λlp H2 g2 s2 e2=>?_⟩;have s02:=s1.trans s2
 refine⟨lp,O,⟨_,SqL.of e2⟩,xAas (xs:=(["births","places","cuts","signs","marks","notes","lines","cells","leaves"]:List Str).map V.str) (λj σ H3=>∃(F:Nat->Addr) (u1:Option V),σ=[some (.ref sp),some (.ref r),some (.bl dg),some (.ref dq),u1,none,none]/\Same H H3/\H3 lp=some (.lst ((["births","places","cuts","signs","marks","notes","lines","cells","leaves"]:List Str).map V.str))/\H3 dq=some (.dK (fkv F j))/\(∀i,i<j->H (F i)=none/\H3 (F i)=some (.lst []))/\∀i,i<j->∀i',i'<j->F i=F i'->i=i')
  ⟨λ_=>dq,none,O,s02,e2,s2 _ _ e1,λi z=>absurd z (zw i),λi z=>absurd z (zw i)⟩ (λj σ H3 _ ⟨_,_,_,_,e,_⟩=>SqL.of e) ?_ ?_⟩
 ·rintro j x σ H3 hx ⟨F,u1,rfl,s3,el,ed,M,hi⟩
  have hj:j<9:=(qm.mp hx).1
  have ex:x=kV (kN j):=by
   rw[qv]at hx;show x=.str _;rw[zf]
   cases q:(["births","places","cuts","signs","marks","notes","lines","cells","leaves"]:List Str)[j]? with
   |none=>rw[q]at hx;cases hx
   |some z=>rw[q]at hx;exact(qK hx).symm
  refine⟨szOk rfl,λq H4 g4 J e4=>?_⟩;have nq:q≠dq:=(xAad ed g4).symm
  have hv:valV (fkv F j) (kN j)=none:=by
   cases e:valV (fkv F j) (kN j) with
   |none=>rfl
   |some v =>
    have:=xAtd e;unfold fkv at this;rw[wx]at this;obtain⟨i,hi1,hi2⟩:=qj.mp this;have hi3:=qw.mp hi1;exact absurd (xAur i (by omega) j hj hi2) (by omega)
  refine⟨_,O,_,O,dq,_,O,.inl ⟨fkv F j,kN j,J _ _ ed,ex,xAaj (by unfold fkv;rw[qf,zk];omega),O⟩,?_⟩
  have F0:∀i,i<j->(if i=j then q else F i)=F i:=λi h=>qB (by omega)
  have ne:∀i,i<j->F i≠q:=λi h=>xAad (M i h).2 g4
  have neq:∀i,i<j->F i≠dq:=λi h z=>by
   have:=(M i h).2;rw[z,ed]at this;cases this
  refine⟨λi=>if i=j then q else F i,_,O,(s3.trans J).wr g1,?_,?_,λi h=>?_,λi h i' h' e=>?_⟩
  ·rw[xAae (λz=>by rw[z,ed]at el;cases el)]
   exact J _ _ el
  ·rw[xAab,xAgm _ hv]
   unfold fkv;rw[jd,z7]
   have:(List.range j).map (λi=>(kN i,V.ref (if i=j then q else F i)))=(List.range j).map (λi=>(kN i,V.ref (F i))):=jv λi hi=>by rw[F0 i (qw.mp hi)]
   rw[this]
   simp
  ·show H (if i=j then q else F i)=none/\(upd H4 dq _) (if i=j then q else F i)=_
   by_cases z:i=j
   ·subst z
    rw[qF rfl];exact⟨s3.free g4,by rw[xAae nq];exact e4⟩
   ·rw[qB z]
    have hij:i<j:=by omega
    exact⟨(M i hij).1,by rw[xAae (neq i hij)];exact J _ _ (M i hij).2⟩
  ·have e:(if i=j then q else F i)=(if i'=j then q else F i'):=e
   by_cases z:i=j
   ·by_cases z':i'=j
    ·omega
    ·rw[qF z,qB z']at e
     exact absurd e.symm (ne i' (by omega))
   ·by_cases z':i'=j
    ·rw[qB z,qF z']at e
     exact absurd e (ne i (by omega))
    ·rw[qB z,qB z']at e
     exact hi i (by omega) i' (by omega) e
 rintro σ H3 ⟨F,u1,rfl,s3,el,ed,M,hi⟩;have d:∀i,i<9->∀j,j<9->i≠j->F i≠F j:=λi a j b n e=>n (hi i a j b e)
 have old:∀{b:Addr} {o:HO},H b=some o->∀i,i<9->b≠F i:=λe i a z=>by rw[z,(M i a).1]at e;cases e
 have oq:∀i,i<9->F i≠dq:=λi a z=>by have:=(M i a).2;rw[z,ed]at this;cases this
 refine⟨_,O,sp,ns,1,O,hs.same s3,by decide,λc1=>⟨_,O,c1,dg,O,λH4 d1 J g4 w4=>?_⟩⟩
 have f1:∀{b:Addr} {o:HO},H3 b=some o->b≠d1:=λe z=>by rw[z,g4]at e;cases e
 refine⟨_,O,_,O,d1,dq,r,F,O,w4,J _ _ ed,J _ _ (M 0 (by decide)).2,J _ _ (M 1 (by decide)).2,J _ _ (M 2 (by decide)).2,(s3.trans J) _ _ G,f1 (s3 _ _ G),λi a=>⟨f1 (M i a).2,old G i a⟩,hi,λH5 kq kn bs es cs o5 gk ek kn5 k0 k1 eb ev ec fi lb le lc=>?_⟩
 have S5:Same H H5:=λb o e=>o5 b o ((s3.trans J) _ _ e) λz=>by
  rcases z with z|z|z|z
  ·exact f1 (s3 _ _ e) z
  ·exact old e 0 (by decide) z
  ·exact old e 1 (by decide) z
  ·exact old e 2 (by decide) z
 have q5:H5 dq=some (.dK (fkv F 9)):=o5 _ _ (J _ _ ed) λz=>by
  rcases z with z|z|z|z
  ·exact f1 ed z
  ·exact oq 0 (by decide) z.symm
  ·exact oq 1 (by decide) z.symm
  ·exact oq 2 (by decide) z.symm
 have F5:∀i,i<9->3≤i->H5 (F i)=some (.lst []):=λi a b=>o5 _ _ (J _ _ (M i a).2) λz=>by
  rcases z with z|z|z|z
  ·exact f1 (M i a).2 z
  ·exact d i a 0 (by decide) (by omega) z
  ·exact d i a 1 (by decide) (by omega) z
  ·exact d i a 2 (by decide) (by omega) z
 have kF:∀i,i<9->kq≠F i:=λi a z=>by rw[z,J _ _ (M i a).2]at gk;cases gk
 refine⟨_,O,sp,ns,2,O,hs.same S5,by decide,λc2=>⟨_,O,c2,dg,O,λH6 d2 Z g6 w6=>?_⟩⟩
 have f2:∀{b:Addr} {o:HO},H5 b=some o->b≠d2:=λe z=>by rw[z,g6]at e;cases e
 have l5:∀i,i<9->∃xs,H5 (F i)=some (.lst xs):=λi a=>by
  by_cases h0:i=0
  ·rw[h0];exact⟨_,eb⟩
  ·by_cases h1:i=1
   ·rw[h1];exact⟨_,ev⟩
   ·by_cases h2:i=2
    ·rw[h2];exact⟨_,ec⟩
    ·exact⟨_,F5 i a (by omega)⟩
 have fd2:∀i,i<9->F i≠d2:=λi a=>let⟨_,e⟩:=l5 i a;f2 e
 refine⟨_,O,_,O,_,O,d2,dq,r,kq,F,kn,O,w6,Z _ _ q5,Z _ _ (F5 3 (by decide) (by decide)),(S5.trans Z) _ _ G,Z _ _ ek,kn5.tups Z.tups,k0,k1,f2 (S5 _ _ G),f2 ek,fd2 3 (by decide),old G 3 (by decide),kF 3 (by decide),λH7 S n xs nq kvs o7 e3 an W n24 sok gn en kl nmd fr=>?_⟩
 have t7:Tups H5 H7:=Z.tups.trans (xAbu o7 λb z xs e=>by
  rcases z with rfl|rfl
  ·obtain⟨_,_,q⟩:=w6;rw[q]at e;cases e
  ·rw[Z _ _ (F5 3 (by decide) (by decide))]at e;cases e)
 have k7:∀{b:Addr} {o:HO},H5 b=some o->b≠F 3->H7 b=some o:=λe n=>o7 _ _ (Z _ _ e) λz=>z.elim (f2 e) n
 have S7:Same H H7:=λb o e=>k7 (S5 _ _ e) (old e 3 (by decide))
 have q7:H7 dq=some (.dK (fkv F 9)):=k7 q5 (oq 3 (by decide)).symm
 have F7:∀i,i<9->4≤i->H7 (F i)=some (.lst []):=λi a b=>k7 (F5 i a (by omega)) (d i a 3 (by decide) (by omega))
 have l7:∀i,i<9->∃xs,H7 (F i)=some (.lst xs):=λi a=>by
  by_cases h:i=3
  ·rw[h];exact⟨_,e3⟩
  ·obtain⟨ys,e⟩:=l5 i a
   exact⟨ys,k7 e (d i a 3 (by decide) h)⟩
 refine⟨_,O,sp,ns,3,O,hs.same S7,by decide,λc3=>⟨_,O,c3,dg,O,λH8 d3 s8 g8 w8=>?_⟩⟩
 have f3:∀{b:Addr} {o:HO},H7 b=some o->b≠d3:=λe z=>by rw[z,g8]at e;cases e
 have fd3:∀i,i<9->F i≠d3:=λi a=>let⟨_,e⟩:=l7 i a;f3 e
 refine⟨_,O,_,O,_,O,d3,dq,r,nq,F,S,n,kvs,O,w8,s8 _ _ q7,n24,s8 _ _ (F7 4 (by decide) (by decide)),s8 _ _ (F7 5 (by decide) (by decide)),(S7.trans s8) _ _ G,s8 _ _ en,kl,nmd.same s8,f3 (S7 _ _ G),λi a=>⟨fd3 i a,old G i a⟩,d 4 (by decide) 5 (by decide) (by decide),λk lq e=>?_,λR o9 m9 n9=>?_⟩
 ·obtain⟨p,lq',us,_,_,hu,h1,_⟩:=nmd.2 k _ e
  cases hu;have h6:=fr k lq e;exact⟨f3 h1,(λz=>by rw[z,Z _ _ (F5 4 (by decide) (by decide))]at h6;cases h6),λz=>by rw[z,Z _ _ (F5 5 (by decide) (by decide))]at h6;cases h6⟩
 have t9:Tups H7 R:=s8.tups.trans (xAbu o9 λb z xs e=>by
  rcases z with rfl|rfl|rfl
  ·obtain⟨_,_,q⟩:=w8;rw[q]at e;cases e
  ·rw[s8 _ _ (F7 4 (by decide) (by decide))]at e;cases e
  ·rw[s8 _ _ (F7 5 (by decide) (by decide))]at e;cases e)
 obtain⟨_,e4,_⟩:=id m9;obtain⟨_,e5,_⟩:=id n9
 have k9:∀{b:Addr} {o:HO},H7 b=some o->b≠F 4->b≠F 5->R b=some o:=λe n1 n2=>o9 _ _ (s8 _ _ e) λz=>by
  rcases z with z|z|z
  ·exact f3 e z
  ·exact n1 z
  ·exact n2 z
 have S9:Same H R:=λb o e=>k9 (S7 _ _ e) (old e 4 (by decide)) (old e 5 (by decide))
 have q9:R dq=some (.dK (fkv F 9)):=k9 q7 (oq 4 (by decide)).symm (oq 5 (by decide)).symm;have kq9:R kq=some (.lst kn):=k9 (k7 ek (kF 3 (by decide))) (kF 4 (by decide)) (kF 5 (by decide))
 have F9:∀i,i<9->6≤i->R (F i)=some (.lst []):=λi a b=>k9 (F7 i a (by omega)) (d i a 4 (by decide) (by omega)) (d i a 5 (by decide) (by omega))
 have l9:∀i,i<9->∃xs,R (F i)=some (.lst xs):=λi a=>by
  by_cases h4:i=4
  ·rw[h4];exact⟨_,e4⟩
  ·by_cases h5:i=5
   ·rw[h5];exact⟨_,e5⟩
   ·obtain⟨ys,e⟩:=l7 i a
    exact⟨ys,k9 e (d i a 4 (by decide) h4) (d i a 5 (by decide) h5)⟩
 refine⟨_,O,sp,ns,4,O,hs.same S9,by decide,λc4=>⟨_,O,c4,dg,O,λH10 d4 f g10 w10=>?_⟩⟩
 have f4:∀{b:Addr} {o:HO},R b=some o->b≠d4:=λe z=>by rw[z,g10]at e;cases e
 have kn9:KN R kn:=(kn5.tups t7).tups t9;refine⟨_,O,_,O,_,O,d4,dq,r,kq,F,kn,O,w10,f _ _ q9,f _ _ (F9 6 (by decide) (by decide)),f _ _ (F9 7 (by decide) (by decide)),(S9.trans f) _ _ G,f _ _ kq9,kn9.tups f.tups,k0,k1,f4 (S9 _ _ G),f4 kq9,λi a=>⟨let⟨_,e⟩:=l9 i a;f4 e,old G i a,kF i a⟩,d 6 (by decide) 7 (by decide) (by decide),λt L a ls o11 e6 aL WL' c11=>?_⟩
 have t11:Tups R t:=f.tups.trans (xAbu o11 λb z xs e=>by
  rcases z with rfl|rfl|rfl
  ·obtain⟨_,_,q⟩:=w10;rw[q]at e;cases e
  ·rw[f _ _ (F9 6 (by decide) (by decide))]at e;cases e
  ·rw[f _ _ (F9 7 (by decide) (by decide))]at e;cases e)
 have N:∀{b:Addr} {o:HO},R b=some o->b≠F 6->b≠F 7->t b=some o:=λe n1 n2=>o11 _ _ (f _ _ e) λz=>by
  rcases z with z|z|z
  ·exact f4 e z
  ·exact n1 z
  ·exact n2 z
 have S11:Same H t:=λb o e=>N (S9 _ _ e) (old e 6 (by decide)) (old e 7 (by decide))
 have q11:t dq=some (.dK (fkv F 9)):=N q9 (oq 6 (by decide)).symm (oq 7 (by decide)).symm;have kq11:=N kq9 (kF 6 (by decide)) (kF 7 (by decide));have Y:t (F 8)=some (.lst []):=N (F9 8 (by decide) (by decide)) (d 8 (by decide) 6 (by decide) (by decide)) (d 8 (by decide) 7 (by decide) (by decide));refine⟨_,O,sp,ns,5,O,hs.same S11,by decide,λc5=>⟨_,O,c5,dg,O,λH12 d5 B g12 w12=>?_⟩⟩
 have f5:∀{b:Addr} {o:HO},t b=some o->b≠d5:=λe z=>by rw[z,g12]at e;cases e
 have kn11:=kn9.tups t11;refine⟨_,O,_,O,_,O,d5,dq,r,kq,F,kn,O,w12,B _ _ q11,B _ _ Y,(S11.trans B) _ _ G,B _ _ kq11,k0,by omega,λv hv=>(kn11.np hv).tups B.tups,f5 (S11 _ _ G),f5 kq11,f5 Y,old G 8 (by decide),kF 8 (by decide),λy ys o13 e8 ly lf=>?_⟩
 have t13:Tups t y:=B.tups.trans (xAbu o13 λb z xs e=>by
  rcases z with rfl|rfl
  ·obtain⟨_,_,q⟩:=w12;rw[q]at e;cases e
  ·rw[B _ _ Y]at e;cases e)
 have U:∀{b:Addr} {o:HO},t b=some o->b≠F 8->y b=some o:=λe n=>o13 _ _ (B _ _ e) λz=>z.elim (f5 e) n;have q13:Rd y dq (.dK (fkv F 9)):=.inl (U q11 (oq 8 (by decide)).symm)
 have up7:∀i,i<9->i≠4->i≠5->i≠6->i≠7->i≠8->∀{o},H7 (F i)=some o->y (F i)=some o:=λi a n4 n5 n6 n7 n8 {o} e=>U (N (k9 e (d i a 4 (by decide) n4) (d i a 5 (by decide) n5)) (d i a 6 (by decide) n6) (d i a 7 (by decide) n7)) (d i a 8 (by decide) n8)
 have up5:∀i,i<3->∀{o},H5 (F i)=some o->y (F i)=some o:=λi a {o} e=>up7 i (by omega) (by omega) (by omega) (by omega) (by omega) (by omega) (k7 e (d i (by omega) 3 (by decide) (by omega)))
 have up9:∀i,i<6->∀{o},R (F i)=some o->y (F i)=some o:=λi a {o} e=>U (N e (d i (by omega) 6 (by decide) (by omega)) (d i (by omega) 7 (by decide) (by omega))) (d i (by omega) 8 (by decide) (by omega))
 have up11:∀i,i<8->∀{o},t (F i)=some o->y (F i)=some o:=λi a {o} e=>U e (d i (by omega) 8 (by decide) (by omega))
 have I:=t11.trans t13;have X:=((fi.tups t7).tups t9).tups I;obtain⟨ps,hp1,hp2⟩:=xAcy X.pc;have aP:AL (λv p=>PCF y v p/\Nm p) es ps:=⟨hp1.symm,hp2⟩;exact⟨_,O,kk y dq F S n (λb o e=>U (S11 _ _ e) (old e 8 (by decide))) ⟨q13,⟨xs,up7 3 (by decide) (by decide) (by decide) (by decide) (by decide) (by decide) e3,an.imp λv i g=>(g.tups t9).tups I⟩,W,⟨es,cs,ps,q13,up5 1 (by decide) ev,aP.imp λ_ _ g=>g.1,λp hp=>let⟨_,_,g⟩:=aP.mem' hp;g.2,le,up5 2 (by decide) ec,X.ct,lc⟩,⟨bs,up5 0 (by decide) eb,X.bt,by omega⟩,m9.mv (λ_ e=>up9 4 (by decide) e) λ_ g=>g.tups I,n9.mv (λ_ e=>up9 5 (by decide) e) λ_ g=>g.tups I,⟨ys,e8,ly,lf⟩,⟨L,a,fkv F 9,F 6,ls,q13,xAbl F 6 (by decide),up11 6 (by decide) e6,aL.imp λv i g=>LNT.tups g t13,WL'⟩,c11.mv (λ_ e=>up11 7 (by decide) e) λ_ g=>g.tups t13⟩ sok⟩
def ok_fBf(T:Txt K mg tk)(F:FO K mg "has_leave" s_fBf)(d:O_fAs P w K mg base)(c:O_fBx P w K mg base):O_fBf P w K mg base:=by
 refine mk_ok F xAwq (λ_ _ _ _ _ _ u l=>match u,l with|[_,_,_,_,_,_],_=>rfl) (λ_ _ _ _ h=>xAvc h) λfa L A outer s H vs Q E i h=>?_
 refine⟨_,(xAaa (ps_if (ck op_eq (vv 3) (xl (vv 0))) (xAac (xAak pe_bl)) xAan)
   (xAaa (sn xAwq.nd 6 (cl d i (a2 (vv 1) (vv 4))))
   (xAaa (ps_if (xAck (cl c i (ac (vv 2) (ac (vv 6) (a2 (vv 3) (vv 5)))))) (xAac (xAak pe_bl)) xAan)
   (xAac (xAak (pe_and (ce op_eq (vv 5) xAai) (xAsi (cl c i (ac (vv 2) (ac (vv 6) (a2 (vv 3) xAai))))))))))),?_⟩
 obtain⟨r,b,p,g,v,o,n,rs,bs,ys,rfl,k,I,J,G,z,B,few,pv,e⟩:=h;refine⟨_,O,_,O,r,_,0,.str n,O,O,k,xArs _ _,O,_,O,?_⟩
 by_cases h0:g=n
 ·exact itT (by rw[xAbh];exact qI h0) (e H true (Same.refl _))
 refine itF (by rw[xAbh];exact decide_eq_false h0) ?_;refine⟨_,O,_,O,b,v,bs,O,I,J,G,pv,λH1 q cv j S m t=>?_⟩;refine⟨_,O,_,O,_,O,_,O,p,q,ys,g,o,cv,O,z.same j,λy f=>(B y f).tups j.tups,few,SqL.of m,t,λH2 C s2=>⟨_,O,?_⟩⟩;have a:=j.trans s2
 cases C with
 |true=>exact itT rfl (e H2 true a)
 |false =>
  refine itF rfl ?_;refine⟨_,O,O,_,O,?_⟩
  by_cases hn:o = "note"
  ·refine itT (by rw[xAbh];exact qI hn) ?_
   exact⟨_,O,_,O,_,O,p,q,ys,g,"write",cv,O,z.same a,λy f=>(B y f).tups a.tups,few,SqL.of (s2 _ _ m),λx D=>(t x D).tups s2.tups,λM R N=>e M R (a.trans N)⟩
  ·exact itF (by rw[xAbh];exact decide_eq_false hn) (e H2 _ a)
def ok_fBz(T:Txt K mg tk)(F:FO K mg "row_of" s_fBz)(e:O_fBv P w K mg base)(d:O_fBl P w K mg base):O_fBz P w K mg base:=by
 refine mk_ok F sc_fBz (λ_ _ _ _ _ _ u l=>match u,l with|[_,_],_=>rfl) (λ_ _ _ _ h=>xAuw h) λfa cdv A outer s H vs Q E z h=>?_;refine⟨_,(xAac (xAak (cl e z (a1 (lc0 (il (cl d z (a2 (vv 0) (vv 1)))) (λ_ _ _=>xAbb) (λ_ _ _=>(xAdm xAps (vv 0) (xAby xAaf) (xAby xAaf)))))))),?_⟩;obtain⟨fa,vp,pt,S,n,rfl,fg,o,a,kk⟩:=h
 have W:WS S n:=by obtain⟨_,_,_,_,_,_,_,W⟩:=fg;exact W
 have PW0:=W.plw pt;refine⟨_,O,_,O,fa,vp,pt,S,n,O,fg,o,a,λH1 q zs Y g1 t r=>?_⟩
 have hzl:zs.length≤1400:=by rw[r.1];exact qc (qc (wv _ _) (by rw[zk];exact qb _)) W.few
 refine⟨q,O,⟨_,SqL.of t⟩,xAbd (xs:=zs) (big2 (by omega)) (λj us H'=>Same H1 H'/\AN (PL (nkS S) (bhS S) (DS S) H') us ((minesS S n pt).take j)) ⟨Same.refl _,.nil⟩ (λ_ _ H' s'=>SqL.of (s'.1 _ _ t)) (λj x us H' K1 G V s' J k0=>?_) λy up us s' hu6 p=>?_⟩
 ·obtain⟨s',f⟩:=s'
  obtain⟨i,U,sn⟩:=r.at V;obtain⟨b,vq,vn,M,kq,vg,rfl,h1,h2,N,h4,Z,h6⟩:=SN.tups sn s'.tups
  have tk:(minesS S n pt).take (j+1)=(minesS S n pt).take j++[i]:=by rw[zh,U];rfl
  refine iteT (B:=G H') ?_;refine⟨_,O,1,O,4,O,b,_,O,SqT.of h1,(by show ¬(HT.sIx 6 0 (some 1)=0/\HT.sIx 6 6 (some 4)=6);decide),λtq H7 g7 k e7=>J _ _ ⟨s'.trans k,?_⟩⟩;rw[tk];have m:=k.tups;exact(f.imp λv i g=>g.tups m).snoc ⟨tq,vn,M,.ref kq,O,e7,N.tups m,h4.tups m,.tup (k _ _ Z) (.cons (.int _) (.cons (.int _) (.cons (.int _) .nil)))⟩
 obtain⟨I,f⟩:=s';have C:Same y (upd y up (.lst us)):=Same.new p;rw[show zs.length=(minesS S n pt).length from r.1,zm]at f;have c:=(Y.trans I).trans C;exact⟨up,us,nkS S,bhS S,DS S,minesS S n pt,minesS S n pt,2,O,SqL.of xAab,f.imp λv i g=>g.tups C.tups,O,PW0,λH8 D ws s8 R L X=>kk H8 D ws (c.trans s8) (c.free R) L X⟩
def ok_fBq(T:Txt K mg tk)(F:FO K mg "stood_in" s_fBq)(U:O_fBg P w K mg base):O_fBq P w K mg base:=by
 refine mk_ok F xAnb (λ_ _ _ _ _ _ u l=>match u,l with|[_],_=>rfl) (λ_ _ _ _ h=>xAvh h) λfa cdv A outer s H vs Q E hr h=>?_
 refine⟨_,(xAaa (sn xAnb.nd 1 (cl U hr (a1 (vv 0))))
   (xAaa (sn xAnb.nd 2 xAcb)
   (xAaa (fo (xAcs (vv 0)) (gt (xAam (gn xAnb.nd 3) (xAam (gn xAnb.nd 4) xAch)))
   (xAac (xAbe (hu2 hr) (vv 2) (vv 3) (xAdj (ck (xAjm (hu2 hr)) (vv 3) (vv 1)) (xAkc (v:=.ref c_MAIN) rfl T.c_MAIN rfl) (xt (vv 4))) rfl)))
   (xAac (xAak (vv 2)))))),?_⟩
 obtain⟨i,kt,ps,rfl,m,W,R,tb,ma,kk⟩:=h
 have I:∀b,sS i b->∀us,H b≠some (.tup us):=λb z us e=>by
  rcases z with rfl|rfl
  ·rcases m with q|⟨o',q⟩ <;> rw[q]at e <;> cases e
  ·obtain⟨ps,t⟩:=tb.tbl
   rw[t]at e;cases e
 refine⟨_,O,i,kt,ps,O,m,W,R,tb,λH1 D ku s1 f tb1 gtu M=>?_⟩;intro st H2 C s2 e2;have d:=Rd.same f s2;have nst:st≠D:=(xAad M C).symm
 have n:H st=none:=by
  have:=s1.free C
  by_cases z:sS i st
  ·rcases z with z|z
   ·rw[z]at C
    rcases f with q|⟨o',q⟩ <;> rw[q]at C <;> cases C
   ·obtain⟨ps,t⟩:=tb1.tbl
    rw[←z,C]at t;cases t
  ·rw[xAcj z]at this;exact this
 dsimp only[gName,tSeq];refine xAms ?_;refine⟨_,O,i,kt,O,xAcd d λo Y hY fY eY=>?_⟩
 have nq:∀{b},H b=none->b≠i:=λg z=>by
  rw[z]at g;rcases m with q|⟨o',q⟩ <;> rw[g]at q <;> cases q
 have L:=nq n;have J:=hY D _ (nq gtu) (s2 _ _ M);have a:=hY st _ L e2;have k:=((xAoo s1 I).trans s2.tups).trans (xAel d hY);have aY:=R.imp k λ_ _ g=>TPl.tups g k;refine xAmi (λj σ X=>∃ks u3 S,σ=[some (.ref i),some (.ref D),some (.ref st),u3,S]/\Same (del Y st) X/\X st=some (.dG ks)/\ks.length≤j/\DG (TN1 ps X) X ks) ⟨[],none,none,O,(λb u e=>xAco _ _ e),a,qb _,.nil⟩ (λj σ X ⟨_,_,_,_,s,_⟩=>s _ _ (by rw[xAau L.symm];exact eY)) ?_ ?_
 ·rintro j e σ X p hx ⟨ks,u3,S,rfl,G,eX,kl,dg⟩ hp
  have tX:Tups Y X:=xAdu a (λys z=>nomatch z) G;have em:=qh hx;have hjl:=(qm.mp hx).1;have sp:Same X (upd X p (.tup [e.2.1,e.2.2])):=Same.new hp;have ep:(upd X p (.tup [e.2.1,e.2.2])) p=some (.tup [e.2.1,e.2.2]):=xAab;generalize upd X p (.tup [e.2.1,e.2.2])=X1 at sp ep;have r:=tX.trans sp.tups;obtain⟨g,tm,p',b,vp,vo,vn,kq,x,y,hbv,h1,h2,h3,h4⟩:=aY.imp r (λ_ _ g=>TPl.tups g r) e em;have c:=sp _ _ eX;have Z:ks.length<sizeLine:=huge (by omega)
  have N:∀vv,NPn X1 vv->∃B u3 S,[some (V.ref i),some (V.ref D),some (V.ref st),some e.2.1,some e.2.2]=[some (.ref i),some (.ref D),some (.ref st),u3,S]/\Same (del Y st) (upd X1 st (.dG (pG ks e.1 e.2.1 vv)))/\(upd X1 st (.dG (pG ks e.1 e.2.1 vv))) st=some (.dG B)/\B.length≤j+1/\DG (TN1 ps (upd X1 st (.dG (pG ks e.1 e.2.1 vv)))) (upd X1 st (.dG (pG ks e.1 e.2.1 vv))) B:=λvv hv =>
   have t:Tups X1 (upd X1 st (.dG (pG ks e.1 e.2.1 vv))):=Tups.wd c
   ⟨_,_,_,O,(G.trans sp).wr xAcg,xAab,qc (xAca _ _ _ _) (by omega),((dg.imp sp.tups λ_ _ g=>TN1.tups g sp.tups).put g ⟨tm,hv⟩).imp t λ_ _ g=>TN1.tups g t⟩
  refine⟨p,_,O,SqT.of ep,O,_,_,O,_,_,O,O,?_⟩;refine⟨_,O,_,O,D,ku,e.1,O,.inl (sp _ _ (G _ _ (by rw[xAau nst.symm];exact J))),g,_,O,?_⟩;rw[qB qk];exact itB (λ_=>⟨_,O,_,O,st,ks,e.1,O,c,g,Z,N _ ⟨mainK,⟨_,O,r _ _ (k _ _ ma)⟩,.inl rfl⟩⟩) λ_=>⟨_,O,b,_,1,vo,hbv,O,SqT.of h1,O,_,O,_,O,st,ks,e.1,O,c,g,Z,N _ h3⟩
 ·rintro σ X ⟨ks,u3,S,rfl,G,eX,kl,dg⟩
  refine⟨_,O,kk X st ks (λb u e=>G _ _ ?_) ((xAru d hY (tb1.same s2)).cut a (λps z=>nomatch z) (λφ z=>nomatch z) G) n eX (by omega) dg⟩;rw[xAau (λz=>?_)]
  ·exact hY b u (λz=>by rw[xAcc (.inl z)]at e;cases e) (s2 _ _ (s1 _ _ e))
  ·rw[z,xAop n]at e
   cases e
def ok_fBn(T:Txt K mg tk)(F:FO K mg "lines_of" s_fBn)(C:O_fBv P w K mg base):O_fBn P w K mg base:=by
 refine mk_ok F xAsd (λ_ _ _ _ _ _ u l=>match u,l with|[_,_,_],_=>rfl) (λ_ _ _ _ h=>xAvm h) λfa cdv A outer s H vs Q E y h=>?_;have hu1:(A.deeper (envOfC "lines_of" (defScope s_fBn) s.heap.objs.size fa cdv)).units+1<cLine:=hu_of y
 refine⟨_,(xAaa (xAhz (i:=3) xAsd.nd rfl (Or.inl rfl) (own:=["fact"]) (fr:=[("part",1),("way",2)]) rfl (il (xAat hu1 (vv 0) xAai (λ_ _=>rfl))) ⟨O,by decide +kernel,by decide +kernel⟩ (xAbz (defScope s_fBn) ["facts","part","way","lines","lives"] rfl rfl (λ_ h=>xAay h) (by decide +kernel) (by decide +kernel) (by decide +kernel)) (λ_ _ _=>(xAaq (i:=0) (by show List.Nodup (["fact","part","way"]:List Str);decide +kernel) rfl (Or.inl rfl))) (λ_=>xAbn rfl) (λ_ _ _=>(xAbv (PW.pt (xAem (ck (eqD y) (xt (vv 0)) (vc 1)) (xAcp (ck op_eq (xt (vv 0)) (vc 2))))))) (λ_ _ _=>(vv 0)))
   (xAaa (sm xAsd.nd 4 (cy (xAar y.hd (hu4 y)) T.b_dict boot_dict (a1 (lc0 (il (vv 3)) (λ_ _ _=>xAbb) (λ_ _ _=>(xAah (a2 (xt (vv 0)) (xt (vv 0)))))))))
   (xAac (xAak (lcd (defScope s_fBn) N_fBn [("lives",4)] (il (cl C y (a1 (lc0 (il (vv 3)) (λ_ _ _=>xAbb) (λ_ _ _=>(xAdm xAps (vv 0) (xAby xAaf) (xAby xAaf))))))) (λ_ _ _=>(xAbv (xAck (xAap (hu2 y) (vc 1) (vv 0) (λ_ _=>rfl))))) (λ_ _ _=>(vv 0))))))),?_⟩
 obtain⟨fa,vp,pt,a,L,n,rfl,⟨S,la,vs,rd,J,M,an,W⟩,hvp,X,kk⟩:=h
 have U:vs.length=n:=by rw[an.1,zk]
 have few:=W.few;have PW0:=W.plw pt a;refine⟨_,O,fa,.ref la,O,.inl ⟨S,.inr "lines",rd,O,J.symm⟩,la,O,⟨_,SqL.of M⟩,xAbd (xs:=vs) (big2 (by omega)) (λj ys H'=>H'=H/\AN (LNT L H) ys (((List.range n).take j).filter (mine L pt a))) ⟨O,.nil⟩ (λ_ _ H' s'=>by rw[s'.1];exact SqL.of M) (λj x ys H' K1 I q s' o k0=>?_) λH1 t ys s' hy hq=>?_⟩
 ·obtain⟨rfl,m⟩:=s'
  obtain⟨i,f,r⟩:=an.at q;have hin:i<n:=qw.mp (qh f);have ln':=r;obtain⟨b,vq,vn,vb,kq,rfl,h1,h2,Y,h4,h5⟩:=r
  have tk:(List.range n).take (j+1)=(List.range n).take j++[i]:=by rw[zh,f];rfl
  refine⟨_,O,b,_,0,_,O,O,SqT.of h1,O,_,O,tD (L i).pt,tD pt,(gk_td h2).dv,(gk_td hvp).dv,(W.lay i hin).2,X,qc (ye _ _) (qc (xAci _) (by decide)),_,O,?_⟩;have D:(if false=true then !PyData.eqv (tD (L i).pt) (tD pt) else PyData.eqv (tD (L i).pt) (tD pt))=decide ((L i).pt=pt):=xAgc _ _
  by_cases Z:(L i).pt=pt
  ·refine itT (by rw[D];exact qI Z) ?_
   refine⟨_,O,b,_,1,_,O,O,SqT.of h1,O,_,O,O,_,O,?_⟩
   by_cases hw:(L i).wy=a
   ·refine itT (qI (by rw[hw])) ?_
    refine⟨_,O,o _ _ ⟨O,?_⟩⟩;rw[tk];exact AN.pick (vs:=vs) m ln' (xAhh.mpr ⟨Z,hw⟩)
   ·refine itF (decide_eq_false (λz=>hw (V.str.inj z))) ?_
    refine k0 _ ⟨O,?_⟩;rw[tk];exact m.skip λz=>hw (xAhh.mp z).2
  ·refine itF (by rw[D];exact decide_eq_false Z) (itF rfl ?_)
   refine k0 _ ⟨O,?_⟩;rw[tk];exact m.skip λz=>Z (xAhh.mp z).1
 obtain⟨rfl,m⟩:=s';rw[U,yr (by rw[zk];exact qb _)]at m;have m:AN (LNT L H1) ys (mines L n pt a):=m
 have hyl:ys.length≤1300:=by rw[U]at hy;omega
 have n1:Same H1 (upd H1 t (.lst ys)):=Same.new hq;have N:(upd H1 t (.lst ys)) t=some (.lst ys):=xAab;have c:=m.imp λv i g=>g.tups n1.tups;generalize upd H1 t (.lst ys)=H2 at n1 N c;refine⟨_,O,t,O,⟨_,SqL.of N⟩,xAbd (xs:=ys) (big2 (by omega)) (λj zs H'=>Same H2 H'/\∃kvs,PrsV H' zs kvs/\PKs (nkL L) (λv i=>v=.bl (L i).lv) kvs ((mines L n pt a).take j)) ⟨Same.refl _,[],trivial,trivial⟩ (λ_ _ H' s'=>SqL.of (s'.1 _ _ N)) (λj x zs H' K1 I q s' o k0=>?_) λH3 zp zs s' hz hzq=>?_⟩
 ·obtain⟨s',kvs,pr,pk⟩:=s'
  obtain⟨i,f,r⟩:=c.at q;obtain⟨b,vq,vn,vb,kq,rfl,h1,h2,Y,h4,h5⟩:=r.tups s'.tups
  have tk:(mines L n pt a).take (j+1)=(mines L n pt a).take j++[i]:=by rw[zh,f];rfl
  refine iteT (B:=I H') ?_;refine⟨_,O,b,_,2,_,O,O,SqT.of h1,O,_,O,b,_,5,_,O,O,SqT.of h1,O,szOk rfl,λtq H4 g4 s4 e4=>o _ _ ⟨s'.trans s4,kvs++[(.tup (nkL L i),vn,.bl (L i).lv)],PrsV.snoc (e:=(.tup (nkL L i),vn,.bl (L i).lv)) ⟨tq,O,e4,Y.tups s4.tups⟩ (pr.tups s4.tups),?_⟩⟩;rw[tk];exact pk.snoc rfl rfl
 obtain⟨s3,kvs,pr,pk⟩:=s';have n3:Same H3 (upd H3 zp (.lst zs)):=Same.new hzq
 have pkF:PKs (nkL L) (λv i=>v=.bl (L i).lv) kvs (mines L n pt a):=by
  rw[show ys.length=(mines L n pt a).length from c.1,zm]at pk;exact pk
 refine⟨zp,zs,kvs,O,SqL.of xAab,pr.tups n3.tups,by omega,λdq H5 g5 s5 e5=>?_⟩;have d:=(s3.trans n3).trans s5
 have get:∀i∈mines L n pt a,vG (putAll [] kvs) (.tup (nkL L i))=some (.bl (L i).lv):=λi hi=>by
  obtain⟨v,h1,rfl⟩:=PKs.get (all:=mines L n pt a) PW0.inj (done:=[]) (acc:=[]) pkF (λi z=>nomatch z) (λi h=>h) (λi z=>nomatch z) i (.inr hi);exact h1
 refine⟨_,O,t,O,⟨_,SqL.of (d _ _ N)⟩,xAbd (xs:=ys) (big2 (by omega)) (λj us H'=>Same H5 H'/\AN (PL (nkL L) (bhL L) (DLT L) H') us ((mines L n pt a).take j)) ⟨Same.refl _,.nil⟩ (λ_ _ H' s'=>SqL.of ((d.trans s'.1) _ _ N)) (λj x us H' K1 I q s' o k0=>?_) λH6 up us s' hu6 huq=>?_⟩
 ·obtain⟨s',p⟩:=s'
  obtain⟨i,f,r⟩:=c.at q;obtain⟨b,vq,vn,vb,kq,rfl,h1,h2,Y,h4,h5⟩:=r.tups (d.trans s').tups
  have tk:(mines L n pt a).take (j+1)=(mines L n pt a).take j++[i]:=by rw[zh,f];rfl
  refine iteT (B:=I H') ?_;refine⟨_,O,2,O,5,O,b,_,O,SqT.of h1,(by show ¬(HT.sIx 6 0 (some 2)=0/\HT.sIx 6 6 (some 5)=6);decide),λtq H7 g7 s7 e7=>o _ _ ⟨s'.trans s7,?_⟩⟩;rw[tk];have t7:=s7.tups;exact(p.imp λv i g=>g.tups t7).snoc ⟨tq,vn,vb,.ref kq,O,e7,Y.tups t7,h4.tups t7,.tup (s7 _ _ h5) (.cons (.int _) (.cons (.int _) .nil))⟩
 obtain⟨s6,p⟩:=s';have n6:Same H6 (upd H6 up (.lst us)):=Same.new huq;rw[show ys.length=(mines L n pt a).length from c.1,zm]at p;refine⟨up,us,nkL L,bhL L,DLT L,mines L n pt a,mines L n pt a,2,O,SqL.of xAab,p.imp λv i g=>g.tups n6.tups,.refl _,PW0,λH8 q8 ws s8 g8 e8 aw=>?_⟩
 have wl:ws.length=(mines L n pt a).length:=by rw[aw.1];exact Rga.row_len PW0.wf
 have R:=(s6.trans n6).trans s8;refine⟨q8,O,⟨_,SqL.of e8⟩,xAbd (xs:=ws) (big2 (by rw[wl,←c.1];omega)) (λj us H'=>H'=H8/\∀u∈us,∃k,GK H8 (.tup k) u) ⟨O,λu z=>nomatch z⟩ (λ_ _ H' s'=>by rw[s'.1];exact SqL.of e8) (λj x us H' K1 I q s' o k0=>?_) λH9 rp rs s' hr9 G=>?_⟩
 ·obtain⟨rfl,p⟩:=s'
  obtain⟨i,f,nm⟩:=aw.at q;refine⟨_,O,_,O,dq,_,.tup (nkL L i),.bl (L i).lv,O,.inl (R _ _ e5),nm,get i (Rga.row_mem PW0.wf (qh f)),_,O,?_⟩;exact itB (λ_=>⟨_,O,o _ _ ⟨O,xAbg p ⟨_,nm⟩⟩⟩) λ_=>k0 _ ⟨O,p⟩
 obtain⟨rfl,ar⟩:=s';have n9:Same H9 (upd H9 rp (.lst rs)):=Same.new G;have s1:=(n1.trans d).trans R;exact kk _ rp rs (s1.trans n9) (s1.free G) xAab (λu hu=>(ar u hu).imp λ_ g=>g.tups n9.tups) (by rw[wl,←c.1]at hr9;omega)
def ok_fBy(T:Txt K mg tk)(F:FO K mg "living" s_fBy)(m:O_fBz P w K mg base)(k:O_fBl P w K mg base):O_fBy P w K mg base:=by
 refine mk_ok F xAwr (λ_ _ _ _ _ _ u l=>match u,l with|[_,_],_=>rfl) (λ_ _ _ _ h=>xAux h) λfa cdv A outer s H vs Q E o h=>?_
 refine⟨_,(xAaa (sm xAwr.nd 2 (cy (xAar o.hd (hu4 o)) T.b_dict boot_dict (a1 (lc0 (il (cl k o (a2 (vv 0) (vv 1)))) (λ_ _ _=>xAbb) (λ_ _ _=>(xAah (a2 (xt (vv 0)) (xt (vv 0)))))))))
   (xAac (xAak (lcd (defScope s_fBy) N_fBy [("lives",2)] (il (cl m o (a2 (vv 0) (vv 1)))) (λ_ _ _=>(xAbv (xAck (xAap (hu2 o) (vc 1) (vv 0) (λ_ _=>rfl))))) (λ_ _ _=>(vv 0)))))),?_⟩
 obtain⟨fa,vp,pt,S,n,rfl,fg,p,a,kk⟩:=h
 have W:WS S n:=by obtain⟨_,_,_,_,_,_,_,W⟩:=fg;exact W
 have PW0:=W.plw pt;refine⟨_,O,_,O,fa,vp,pt,S,n,O,fg,p,a,λH1 q zs s1 g1 X V=>?_⟩
 have hzl:zs.length≤1400:=by rw[V.1];exact qc (qc (wv _ _) (by rw[zk];exact qb _)) W.few
 refine⟨q,O,⟨_,SqL.of X⟩,xAbd (xs:=zs) (big2 (by omega)) (λj us H'=>Same H1 H'/\∃kvs,PrsV H' us kvs/\PKs (nkS S) (λv i=>v=.bl (S i).lv) kvs ((minesS S n pt).take j)) ⟨Same.refl _,[],trivial,trivial⟩ (λ_ _ H' s'=>SqL.of (s'.1 _ _ X)) (λj x us H' K1 Y M s' I k0=>?_) λH3 up us s' hu3 R=>?_⟩
 ·obtain⟨s',kvs,L,t⟩:=s'
  obtain⟨i,y,sn⟩:=V.at M;obtain⟨b,vq,vn,vb,kq,vg,rfl,h1,h2,h3,h4,h5,h6⟩:=SN.tups sn s'.tups
  have tk:(minesS S n pt).take (j+1)=(minesS S n pt).take j++[i]:=by rw[zh,y];rfl
  refine iteT (B:=Y H') ?_;refine⟨_,O,b,_,1,_,O,O,SqT.of h1,O,_,O,b,_,5,_,O,O,SqT.of h1,O,szOk rfl,λtq H4 g4 U e4=>I _ _ ⟨s'.trans U,kvs++[(.tup (nkS S i),vn,.bl (S i).lv)],PrsV.snoc (e:=(.tup (nkS S i),vn,.bl (S i).lv)) ⟨tq,O,e4,h3.tups U.tups⟩ (L.tups U.tups),?_⟩⟩;rw[tk];exact t.snoc rfl rfl
 obtain⟨s3,kvs,L,t⟩:=s';have n3:Same H3 (upd H3 up (.lst us)):=Same.new R;rw[show zs.length=(minesS S n pt).length from V.1,zm]at t;refine⟨up,us,kvs,O,SqL.of xAab,L.tups n3.tups,by omega,λdq H5 g5 s5 e5=>?_⟩;have N:=(s3.trans n3).trans s5;have c:=s1.trans N
 have get:∀i∈minesS S n pt,vG (putAll [] kvs) (.tup (nkS S i))=some (.bl (S i).lv):=λi hi=>by
  obtain⟨v,h1,rfl⟩:=PKs.get (all:=minesS S n pt) PW0.inj (done:=[]) (acc:=[]) t (λi z=>nomatch z) (λi h=>h) (λi z=>nomatch z) i (.inr hi);exact h1
 refine⟨_,O,_,O,fa,vp,pt,S,n,O,fg.same c,p.tups c.tups,a,λH6 rp D Z g6 e6 G=>?_⟩
 have hrl:D.length≤1400:=by rw[G.1];exact qc (xAcw W) W.few
 refine⟨rp,O,⟨_,SqL.of e6⟩,xAbd (xs:=D) (big2 (by omega)) (λj us H'=>H'=H6/\AN (NM (nkS S) H6) us (((rowS S n pt).take j).filter λi=>(S i).lv)) ⟨O,.nil⟩ (λ_ _ H' s'=>by rw[s'.1];exact SqL.of e6) (λj x us H' K1 Y M s' I k0=>?_) λH9 np rs s' hr9 d=>?_⟩
 ·obtain⟨rfl,au⟩:=s'
  obtain⟨i,y,nm⟩:=G.at M
  have J:i∈minesS S n pt:=zo.mpr (by
   have:=(xAmu W).mp (qh y)
   exact⟨qw.mpr this.1,xAax.mpr this.2⟩)
  have tk:(rowS S n pt).take (j+1)=(rowS S n pt).take j++[i]:=by rw[zh,y];rfl
  refine⟨_,O,_,O,dq,_,.tup (nkS S i),.bl (S i).lv,O,.inl (Z _ _ e5),nm,get i J,_,O,?_⟩
  by_cases C:(S i).lv=true
  ·refine itT C ⟨_,O,I _ _ ⟨O,?_⟩⟩
   rw[tk];exact AN.pick (vs:=D) au nm C
  ·refine itF (by simpa using C) (k0 _ ⟨O,?_⟩)
   rw[tk];exact au.skip C
 obtain⟨rfl,r⟩:=s';have n9:Same H9 (upd H9 np (.lst rs)):=Same.new d;have f:=c.trans Z;rw[show D.length=(rowS S n pt).length from G.1,zm]at r;exact kk _ np rs (f.trans n9) (f.free d) xAab (r.imp λv i g=>NM.tups g n9.tups)
def ok_fBd(T:Txt K mg tk)(F:FO K mg "stands_in" s_fBd)(M:O_fAg P w K mg base)(N:O_fBq P w K mg base)(J:O_fAb P w K mg base):O_fBd P w K mg base:=by
 refine mk_ok F xAse (λ_ _ _ _ _ _ u l=>match u,l with|[_],_=>rfl) (λ_ _ _ _ h=>xAvj h) λfa cdv A outer s H vs Q E r h=>?_
 refine⟨_,(xAaa (sn xAse.nd 1 (cl N r (a1 (cl J r (a1 (vv 0))))))
   (xAaa (sm xAse.nd 2 (cl M r (a1 (vv 1))))
   (xAac (xAak (cy (xAar r.hd (hu4 r)) T.b_dict boot_dict (a1 (xAbi (own:=["part","outer"]) (fr:=[("reaching",2)]) rfl (xAcs (vv 1)) ⟨O,by decide +kernel,by decide +kernel⟩ (xAbz (defScope s_fBd) ["facts","outer_of","reaching"] rfl rfl (λ_ h=>xAay h) (by decide +kernel) (by decide +kernel) (by decide +kernel)) (λ_ _ _=>(xAen (n:=2) rfl (xAam (xAaq (i:=0) (by show List.Nodup (["part","outer","reaching"]:List Str);decide +kernel) rfl (Or.inl rfl)) (xAam (xAaq (i:=1) (by show List.Nodup (["part","outer","reaching"]:List Str);decide +kernel) rfl (Or.inl rfl)) xAch)))) (λ_=>xAbo rfl rfl (by decide)) (λ_ _ _=>xAbb) (λ_ _ _=>(xAah (a2 (vv 0) (xAdj (xAck (xAap (hu2 r) (vc 2) (vv 0) (λ_ _=>rfl))) (vv 1) xAcf))))))))))),?_⟩
 obtain⟨fa,F,es,cs,ps,rfl,fp,tb,ma,kk⟩:=h;refine⟨_,O,fa,F,es,cs,ps,O,fp,λH1 tq kt s1 g1 e1 kl1 dg1 _=>?_⟩;have tb1:=tb.same s1;refine⟨tq,kt,ps,O,.inl e1,kl1,dg1,tb1,s1 _ _ ma,λH2 V ks s2 tb2 gsa c kl2 U=>?_⟩
 have S:Same (del H PTa) H2:=λb u e=>by
  have I:b≠PTa:=λz=>by rw[z,xAcg]at e;cases e
  rw[xAau I]at e;refine xAdt s2 (s1 _ _ e) λz=>?_;rcases z with z|z
  ·rw[z,g1]at e;cases e
  ·exact I z
 have fsa:H V=none:=s1.free gsa;refine⟨_,O,V,ks,O,.inl c,kl2,U.imp (Tups.refl _) λk v g=>⟨g.1.nd,g.2.nv⟩,My.keepT tb S ma (λps z=>nomatch z),λH3 ra kr m a gra era klr blr hkr=>?_⟩;have tb3:TBL H3:=tb2.cut c (λps z=>nomatch z) (λφ z=>nomatch z) m;have nrs:ra≠V:=(xAad c gra).symm;refine⟨_,O,V,ks,O,xAcd a λo Y hY fY eY=>?_⟩;have C:=xAru a hY tb3;have R:=hY ra _ nrs era
 have D:Same (del H PTa) Y:=λb u e=>by
  have I:b≠V:=λz=>by rw[z,xArg fsa]at e;cases e
  exact hY b u I (m _ _ (by rw[xAau I];exact S _ _ e))
 have tY:=(xAdu c (λys z=>nomatch z) m).trans (xAel a hY);have aY:=U.imp tY λ_ _ g=>TN1.tups g tY;refine xAdi (big (by omega)) (λj us X=>Same Y X/\∀u∈us,PR (TO1 ps X) X u) ⟨Same.refl _,λu z=>nomatch z⟩ (λ_ _ X s'=>s'.1 _ _ eY) (λj e us X p K1 K0 hx s' hp k1 k0=>?_) λX np us s' hy hq=>?_
 ·obtain⟨x,ih⟩:=s'
  have em:=qh hx;have sp:Same X (upd X p (.tup [e.2.1,e.2.2])):=Same.new hp;have ep:(upd X p (.tup [e.2.1,e.2.2])) p=some (.tup [e.2.1,e.2.2]):=xAab;generalize upd X p (.tup [e.2.1,e.2.2])=X1 at sp ep;have f:=x.trans sp;obtain⟨g,tm,nv⟩:=aY.imp f.tups (λ_ _ g=>TN1.tups g f.tups) e em
  have L:∀vv,OV X1 vv->∀(G:Addr) W,X1 G=none->Same X1 W->W G=some (.tup [e.2.1,vv])->K1 (.ref G) W:=λvv hvv G W g3 m e3 =>
   have s:=sp.trans m
   k1 _ _ ⟨x.trans s,xAbg (λu hu=>(ih u hu).imp s.tups λ_ _ g=>TO1.tups g s.tups) ⟨G,e.1,e.2.1,vv,O,e3,g.tups m.tups,tm,hvv.tups m.tups⟩⟩
  obtain⟨w,hw⟩:=zv.mp (hkr e em);obtain⟨b,rfl⟩:=blr.val hw;refine⟨p,_,O,SqT.of ep,O,_,_,O,_,_,O,O,?_⟩;refine iteT (B:=K0 X1) ?_;refine⟨_,O,_,O,_,O,ra,kr,e.1,.bl b,O,.inl (f _ _ R),g,hw,_,O,?_⟩
  cases b with
  |true=>exact itT rfl ⟨_,O,szOk rfl,L _ (.inr nv)⟩
  |false=>exact itF rfl ⟨szOk rfl,L _ (.inl rfl)⟩
 obtain⟨x,ih⟩:=s';have Z:Same X (upd X np (.lst us)):=Same.new hq;obtain⟨d,pr,el,he⟩:=xAdd λy hy=>(ih y hy).imp Z.tups λ_ _ g=>TO1.tups g Z.tups;refine⟨np,us,d,O,SqL.of xAab,pr,by omega,λq X2 g2 s2 e2=>?_⟩;have s0:=Z.trans s2
 have fq':H q=none:=by
  have h1:=x.free (Z.free g2);have:=D.free h1
  by_cases z:q=PTa
  ·obtain⟨ps,t⟩:=C.tbl
   rw[←z,h1]at t;cases t
  ·rw[xAau z]at this;exact this
 exact kk X2 q _ ((D.trans x).trans s0) (C.same (x.trans s0)) fq' e2 (qc (xAbr d []) (by rw[el,zy];omega)) (pa_nd d [] .nil) ((DG.putAll (P:=TO1 ps _) pr he .nil).imp s2.tups λ_ _ g=>TO1.tups g s2.tups)
def ok_fBm(T:Txt K mg tk)(F:FO K mg "table_of" s_fBm)(f:O_fBn P w K mg base)(k:O_fAx P w K mg base):O_fBm P w K mg base:=by
 refine mk_ok F xAjx (λ_ _ _ _ _ _ u l=>match u,l with|[_,_],_=>rfl) (λ_ _ _ _ h=>xAvp h) λfa cdv A outer s H vs Q E v h=>?_
 refine⟨_,(xAaa (sn xAjx.nd 2 (cl f v (ac (vv 0) (a2 (vv 1) xAai))))
   (xAaa (sn xAjx.nd 3 (cl f v (ac (vv 0) (a2 (vv 1) xAai))))
   (xAaa (sm xAjx.nd 4 (cl k v (a2 (vv 0) (vv 1))))
   (xAaa (sn xAjx.nd 5 (xAal xAbm))
   (xAaa (fo (il (vv 2)) (gm xAjx.nd 6)
   (xAac (ap (vv 5) (a1 (lcd (defScope s_fBm) N_fBm [("told",4),("row",6)] (il (vv 3)) (λ_ _ _=>xAbb) (λ_ _ _=>(bm PySem.F.plainAttrs_dict PySem.F.slot_dict_get PySem.F.type_dict_get (xAbk (hu2 v)) (vc 1) (a2 (xAah (a2 (vc 2) (vv 0))) xAai))))))))
   (xAac (xAak (xAah (ac (vv 2) (a2 (vv 3) (vv 5))))))))))),?_⟩
 obtain⟨fa,F,S,n,z,pt,rfl,fz,i,c,kk⟩:=h;obtain⟨L,m,X⟩:=fz.ln;refine⟨_,O,_,O,fa,z,pt,"row",L,m,O,X,i,c,λH1 V zr J g1 e1 ar hrl=>?_⟩;refine⟨_,O,_,O,fa,z,pt,"column",L,m,O,X.same J,i.tups J.tups,c,λH2 W zc s2 g2 e2 ac hcl=>?_⟩;have g:=J.trans s2;refine⟨_,O,_,O,fa,F,S,n,z,pt,O,fz.same g,i.tups g.tups,c,λH3 dq kvs t e3=>?_⟩;have r:=t _ _ (s2 _ _ e1);have p:=t _ _ e2;refine⟨szOk rfl,λwp H4 g4 s4 e4=>?_⟩;refine⟨_,O,V,O,⟨_,SqL.of (s4 _ _ r)⟩,xAas (xs:=zr) (λj σ Z=>∃ws I,σ=[some (.ref fa),some z,some (.ref V),some (.ref W),some (.ref dq),some (.ref wp),I]/\Same H3 Z/\Z wp=some (.lst ws)/\ws.length≤j) ⟨[],none,O,s4,e4,qb _⟩ (λj σ Z _ ⟨_,_,_,e,_⟩=>SqL.of (e _ _ r)) ?_ ?_⟩
 ·rintro j x σ Z Y ⟨ws,I,rfl,e,M,hwl⟩
  have hj:=(qm.mp Y).1;obtain⟨kr,D⟩:=ar x (qh Y);refine⟨_,O,.inl ⟨O,_,SqL.of M⟩,_,O,W,O,⟨_,SqL.of (e _ _ p)⟩,xAbd (xs:=zc) (big2 (by omega)) (λ_ _ Z'=>Same Z Z') (Same.refl _) (λ_ _ Z' s'=>SqL.of (s' _ _ (e _ _ p))) (λj' y ys Z' K1 K0 hy s' k1 k0=>?_) λZ1 a ys s' hyl R=>?_⟩
  ·obtain⟨kc,N⟩:=ac y (qh hy)
   have d:=e.trans s';obtain⟨c1,rfl,U⟩:=D.tups ((s2.trans t).trans d).tups;obtain⟨c2,rfl,C⟩:=N.tups (t.trans d).tups;refine iteT (B:=K0 Z') ?_;exact⟨_,O,.inr (.inr (.inl ⟨O,.inr (.inr ⟨kvs,d _ _ e3⟩)⟩)),_,O,_,O,szOk rfl,λtq Z2 g2' b G=>⟨dq,kvs,.two kr kc,.ref tq,.str "",O,O,b _ _ (d _ _ e3),⟨tq,c1,c2,O,G,b _ _ U,b _ _ C⟩,k1 _ _ (s'.trans b)⟩⟩
  have b:=s'.trans (Same.new (o:=.lst ys) R);generalize upd Z1 a (.lst ys)=Z2 at b;exact⟨wp,_,_,O,O,b _ _ M,xAaw (by omega),ws++[.ref a],_,O,(e.trans b).wr g4,xAab,by rw[qe,qo];omega⟩
 ·rintro σ Z ⟨ws,I,rfl,e,M,_⟩
  exact⟨_,O,_,O,_,O,szOk rfl,λq H9 g9 s9 e9=>kk H9 _ (((g.trans t).trans e).trans s9)⟩
def ok_fBt(T:Txt K mg tk)(F:FO K mg "may_read" s_fBt)(b:O_fBf P w K mg base):O_fBt P w K mg base:=by
 refine mk_ok F sc_fBt (λ_ _ _ _ _ _ u l=>match u,l with|[_,_,_,_],_=>rfl) (λ_ _ _ _ h=>xAwa h) λfa d A outer s H vs Q E i h=>?_;have a:(A.deeper (envOfC "may_read" (defScope s_fBt) s.heap.objs.size fa d)).units+1<cLine:=hu_of i;refine⟨_,(xAac (xAak (pe_or (ce xAso (vv 2) xAcf) (xAsi (cl b i (ac (vv 1) (ac (xAat a (vv 0) xAai (λ_ _=>rfl)) (ac (xAat a (vv 0) xAai (λ_ _=>rfl)) (ac (vv 2) (a2 (vv 3) xAai)))))))))),?_⟩;obtain⟨fa,F,S,n,r,o,rs,y,v,rfl,c,e,m,f,j⟩:=h;obtain⟨bs,p,g,t⟩:=c.bs;obtain⟨ys,q,k,x⟩:=c.lv;refine⟨_,O,O,_,O,?_⟩;rcases m with rfl|⟨z,rfl⟩
 ·exact itT (qI rfl) (j H true (Same.refl _))
 refine itF (decide_eq_false λz=>nomatch z) ?_;exact⟨_,O,_,O,fa,.ref (F 0),O,.inl ⟨fkv F 9,.inr "births",c.dk,O,(xAbl F 0 (by decide)).symm⟩,_,O,fa,.ref (F 8),O,.inl ⟨fkv F 9,.inr "leaves",c.dk,O,(xAbl F 8 (by decide)).symm⟩,_,O,_,O,r,F 0,F 8,z,v,"read",o,rs,bs,ys,O,e,SqL.of p,g,by omega,SqL.of q,k,x,f,j⟩
def ok_fAi(T:Txt K mg tk)(F:FO K mg "told_of_signs" s_fAi)(gfBy:O_fBy P w K mg base)(gfBz:O_fBz P w K mg base)(gfBr:O_fBr P w K mg base)(gfAd:O_fAd P w K mg base):O_fAi P w K mg base:=by
 refine mk_ok F xAhj (λ_ _ _ _ _ _ u l=>match u,l with|[_,_,_],_=>rfl) (λ_ _ _ _ h=>xAvw h) λfa cdv A outer s H vs Q E C h=>?_;have hu1:(A.deeper (envOfC "told_of_signs" (defScope s_fAi) s.heap.objs.size fa cdv)).units+1<cLine:=hu_of C
 refine⟨_,(xAaa (sn xAhj.nd 3 (cl gfBz C (a2 (vv 0) (vv 1))))
   (xAaa (sm xAhj.nd 4 (cl gfBr C (a1 (vv 3))))
   (xAaa (sm xAhj.nd 5 (cl gfAd C (ac (vv 0) (a2 (vv 1) (vv 3)))))
   (xAaa (sn xAhj.nd 6 xAcb)
   (xAaa (fo (il (cl gfBy C (a2 (vv 0) (vv 1)))) (gm xAhj.nd 7)
   (xAaa (xAhz (i:=8) xAhj.nd rfl (Or.inl rfl) (own:=["kind"]) (fr:=[("telling",5),("seats",4),("name",7)]) rfl (il (cb (xAfy (hu61 C) C.hd) T.b_sorted boot_sorted (a1 (vc 5)))) ⟨O,by decide +kernel,by decide +kernel⟩ (xAbz (defScope s_fAi) ["facts","part","place","row","seats","telling","told","name","marks"] rfl rfl (λ_ h=>xAay h) (by decide +kernel) (by decide +kernel) (by decide +kernel)) (λ_ _ _=>(xAaq (i:=0) (by show List.Nodup (["kind","telling","seats","name"]:List Str);decide +kernel) rfl (Or.inl rfl))) (λ_=>xAbn rfl) (λ_ _ _=>xAbb) (λ_ _ _=>(xi (xAat hu1 (vc 1) (vv 0) (λ_ _=>rfl)) (xAap (hu2 C) (vc 2) (vc 3) (λ_ _=>rfl)))))
   (xAac (xAbe (hu2 C) (vv 6) (vc 7) (lcd (defScope s_fAi) N_fAi [("place",2)] (il (vv 8)) (λ_ _ _=>(xAbv (PW.pt (xAem (ck xAkg (vv 0) xAcf) (xAcp (ck xAkg (xt (vv 0)) xAcf)))))) (λ_ _ _=>(xAah (a2 (xt (vv 0)) (xu (vv 0) (vc 1)))))) rfl))))
   (xAac (xAak (vv 6)))))))),?_⟩
 obtain⟨fa,F,S,n,vp,pt,rfl,fz,M,m,kk⟩:=h;have W:=fz.ws;refine⟨_,O,_,O,fa,vp,pt,S,n,O,fz.fg,M,m,λH1 rp rv I g1 N ar=>?_⟩
 have hrl:rv.length≤1400:=by rw[ar.1];exact qc (xAcw W) W.few
 have aK:AL (NmKP H1) rv ((rowS S n pt).map (nkS S)):=AL.mapR (P:=NM (nkS S) H1) ar λv i _ _ g=>g;refine⟨_,O,rp,rv,_,O,N,aK,hrl,λH2 dq kvs s2 g2 e2 hse hst=>?_⟩;have L:=I.trans s2;refine⟨_,O,_,O,_,O,fa,F,S,n,vp,pt,rp,rv,_,O,fz.same L,M.tups L.tups,m,s2 _ _ N,aK.imp (λv k g=>NmKP.tups g s2.tups),hrl,λH3 lq tv s3 g3 e3 tl3 tk=>?_⟩;have s03:=L.trans s3;intro q H4 g4 s4 e4;have R:=s03.trans s4;have gtq:H q=none:=s03.free g4;refine⟨_,O,_,O,fa,vp,pt,S,n,O,(fz.same R).fg,M.tups R.tups,m,λH5 aq av s5 g5 e5 aa=>?_⟩;have s05:=R.trans s5;have t:=s4.trans s5
 have hal:av.length≤1400:=by rw[aa.1];exact qc (wv _ _) (qc (xAcw W) W.few)
 have G:=s5 _ _ e4;have naq:aq≠q:=(xAad e4 g5).symm;have ndq:dq≠q:=xAad (s3 _ _ e2) g4;have nlq:lq≠q:=xAad e3 g4;obtain⟨ss,hs1,hs2⟩:=xAcy tk.ks;have aS:AL (λ(e:Key×V) (z:Str)=>e.1=.inr z/\PyData.strOk z=true) tv ss:=⟨hs1.symm,hs2⟩
 have htv:(tv.map λe=>kV e.1)=ss.map V.str:=xAfa aS λe z p=>by rw[p.1];rfl
 have keys:KeysAre (ss.map .str) 1:=by
  refine⟨xAcn λd hd=>?_,λd hd=>?_,λx hx y hy=>?_,λd hd=>?_⟩
  ·obtain⟨k,hk,rfl⟩:=qj.mp hd
   obtain⟨_,_,h⟩:=aS.mem' hk;exact h.2
  ·obtain⟨k,hk,rfl⟩:=qj.mp hd;trivial
  ·obtain⟨k,hk,rfl⟩:=qj.mp hx
   obtain⟨k',hk',rfl⟩:=qj.mp hy;rfl
  ·obtain⟨k,hk,rfl⟩:=qj.mp hd;exact qy 60
 refine⟨aq,O,⟨_,SqL.of e5⟩,xAas (xs:=av) (λj σ Z=>∃kv u7 u8,σ=[some (.ref fa),some vp,some (.int 4),some (.ref rp),some (.ref dq),some (.ref lq),some (.ref q),u7,u8]/\Same (del H5 q) Z/\Z q=some (.dG kv)/\kv.length≤j/\∀i∈(aliveS S n pt).take j,(vG kv (.tup (nkS S i))).isSome=true)
  ⟨[],none,none,O,xAco,G,Nat.le_refl _,λi z=>by simp at z⟩ (λj σ Z _ ⟨_,_,_,_,r,_⟩=>SqL.of (DP.to r e5 naq)) ?_ ?_⟩
 ·rintro j x σ Z hx ⟨kv,u7,u8,rfl,U,eZ,kl,td⟩
  have hj:=(qm.mp hx).1;obtain⟨i,ei,nm5⟩:=aa.at hx
  have tZ:Tups H5 Z:=λa ys e=>DP.to U e (λz=>by rw[z,G]at e;cases e)
  have nm:=NM.tups nm5 tZ;have hir:i∈rowS S n pt:=(zo.mp (qh ei)).1;have edqZ:=DP.to U (t _ _ (s3 _ _ e2)) ndq;have J:=DP.to U (t _ _ e3) nlq;have tkZ:TKW rv.length (λ_=>True) Z tv:=tk.to (t.tups.trans tZ) λa us _ e=>⟨trivial,us,DP.to U (t _ _ e) (xAad e g4),.inl rfl⟩;obtain⟨w,hw⟩:=zv.mp (hst _ (qj.mpr ⟨i,hir,O⟩));obtain⟨se,rfl,hsl⟩:=hse.val _ _ hw;refine⟨_,O,lq,tv,ss.map .str,1,O,.inl J,by rw[htv];exact(xAmx _).dv,keys,by omega,λsq Z1 ix g1 I six N=>?_⟩;rw[htv]at N;obtain⟨hix,f⟩:=xAou (ys:=ss.map V.str) (by rw[qf,qf]) six
  have f:(ix.map λi=>(ss.map V.str).getD i .non).length≤9:=by rw[f,qf];omega
  generalize ix.map (λi=>(ss.map V.str).getD i .non)=ks at N hix f;refine⟨sq,O,⟨_,SqL.of N⟩,xAbd (xs:=ks) (big2 (by omega)) (λj' ys X=>X=Z1/\∀y∈ys,y=.non\/MKW Z1 y) ⟨O,λy z=>nomatch z⟩ (λ_ _ X s'=>by rw[s'.1];exact SqL.of N) (λj' y ys X K1 K0 hy s' k1 k0=>?_) λX np ys s' hyl hnq=>?_⟩
  ·obtain⟨rfl,ay⟩:=s'
   obtain⟨kd,hk,rfl⟩:=qj.mp (hix y (qh hy));obtain⟨e,he,hek,_⟩:=aS.mem' hk;obtain⟨v,hv⟩:=zv.mp (hek▸xArw he);obtain⟨a,us,rfl,_,ea,no⟩:=tkZ.val _ _ hv
   have hlt:se<us.length:=by rw[no.1];exact hsl
   refine iteT (B:=K0 X) ?_;exact⟨_,O,_,O,lq,.ref a,O,.inl ⟨tv,.inr kd,.inl (I _ _ J),O,hv.symm⟩,_,O,_,O,dq,kvs,.tup (nkS S i),_,O,.inl (I _ _ edqZ),NM.tups nm I.tups,hw,a,_,_,_,O,O,SqL.of (I _ _ ea),xAkm (j:=se) (v:=us[se]) (qg hlt),k1 _ _ ⟨O,xAbg ay ((no.tups I.tups).2 _ (yk hlt))⟩⟩
  obtain⟨rfl,ay⟩:=s';have nX:Same X (upd X np (.lst ys)):=Same.new hnq;have eX:(upd X np (.lst ys)) np=some (.lst ys):=xAab;generalize upd X np (.lst ys)=Z2 at nX eX;refine⟨_,O,np,O,⟨_,SqL.of eX⟩,xAbd (xs:=ys) (big2 (by omega)) (λ_ _ X2=>Same Z2 X2) (Same.refl _) (λ_ _ X2 s'=>SqL.of (s' _ _ eX)) (λj' y zs X2 K1 K0 hy s' k1 k0=>?_) λX3 lp zs s' hzl hlq=>?_⟩
  ·rcases ay y (qh hy) with rfl|mk
   ·exact⟨_,O,O,_,O,itF rfl (itF rfl (k0 _ s'))⟩
   ·obtain⟨c,b,vq,p,vb,ve,kd,vl,vn,kq,rfl,h1,_⟩:=mk.tups (nX.trans s').tups
    refine⟨_,O,O,_,O,itT rfl ⟨_,O,b,_,4,_,O,O,SqT.of h1,O,O,_,O,?_⟩⟩;exact itB (λ_=>⟨_,O,b,_,3,_,O,O,SqT.of h1,O,_,O,_,O,b,_,4,_,O,O,SqT.of h1,O,szOk rfl,λtp Y gY sY eY=>k1 _ _ (s'.trans sY)⟩) λ_=>k0 _ s'
  have n3:Same X3 (upd X3 lp (.lst zs)):=Same.new hlq;have D:Same Z (upd X3 lp (.lst zs)):=((I.trans nX).trans s').trans n3;generalize upd X3 lp (.lst zs)=X4 at D;exact⟨_,O,_,O,q,kv,.tup (nkS S i),O,D _ _ eZ,NM.tups nm D.tups,xAaw (by omega),_,_,_,O,(Same.trans U D).wr xAcg,xAab,qc (xAca _ _ _ _) (by omega),by rw[zh,ei];exact xAbg (λa h=>vG_up (td a h)) xAov⟩
 ·rintro σ Z ⟨kv,u7,u8,rfl,U,eZ,kl,td⟩
  rw[show av.length=(aliveS S n pt).length from aa.1,zm]at td;exact⟨_,O,kk Z q kv (λb o e=>DP.to U (s05 _ _ e) (xAad e gtq)) gtq eZ td⟩
def ok_fBs(T:Txt K mg tk)(F:FO K mg "notes_of" s_fBs)(gfAu:O_fAu P w K mg base)(gfBy:O_fBy P w K mg base)(gfBz:O_fBz P w K mg base)(gfBr:O_fBr P w K mg base)(gfBw:O_fBw P w K mg base):O_fBs P w K mg base:=by
 refine mk_ok F xAhk (λ_ _ _ _ _ _ u l=>match u,l with|[_,_],_=>rfl) (λ_ _ _ _ h=>xAvy h) λfa cdv A outer s H vs Q E M h=>?_;have hu1:(A.deeper (envOfC "notes_of" (defScope s_fBs) s.heap.objs.size fa cdv)).units+1<cLine:=hu_of M
 refine⟨_,(xAaa (sm xAhk.nd 2 (cl gfBr M (a1 (cl gfBz M (a2 (vv 0) (vc 1))))))
   (xAaa (sn xAhk.nd 3 (cl gfBy M (a2 (vv 0) (vc 1))))
   (xAaa (sn xAhk.nd 4 (xAal xAbm))
   (xAaa (fo (il (soK gfAu M T.b_sorted boot_sorted (a1 (lcd (defScope s_fBs) N_fBs [("part",1)] (il (xAat hu1 (vv 0) xAai (λ_ _=>rfl))) (λ_ _ _=>(xAbv (ck (eqD M) (xt (vv 0)) (vc 1)))) (λ_ _ _=>(vv 0)))))) (gn xAhk.nd 5)
   (xAaa (sm xAhk.nd 6 (cl gfBw M (ac (vc 2) (a2 (xt (vv 5)) (xt (vv 5))))))
   (xAaa (xAhz (i:=7) xAhk.nd rfl (Or.inl rfl) (own:=["name"]) (fr:=[("between",6),("seats",2)]) rfl (il (vv 3)) ⟨O,by decide +kernel,by decide +kernel⟩ (xAbz (defScope s_fBs) ["facts","part","seats","alive","told","note","between","under"] rfl rfl (λ_ h=>xAay h) (by decide +kernel) (by decide +kernel) (by decide +kernel)) (λ_ _ _=>(xAaq (i:=0) (by show List.Nodup (["name","between","seats"]:List Str);decide +kernel) rfl (Or.inl rfl))) (λ_=>xAbn rfl) (λ_ _ _=>(xAbv (xAqg op_le op_lt (xt (vc 1)) (xAap (hu2 M) (vc 2) (vv 0) (λ_ _=>rfl)) (xt (vc 1))))) (λ_ _ _=>(vv 0)))
   (xAac (ap (vv 4) (a1 (xAah (ac (xt (vv 5)) (a2 (xt (vv 5)) (xAdj (ck op_gt (cb xAag T.b_len boot_len (a1 (vv 7))) xAaf) (xl (vv 7)) xAcf))))))))))
   (xAac (xAak (vv 4))))))),?_⟩
 obtain⟨fa,F,S,n,vp,pt,rfl,fz,R,G,kk⟩:=h;have W:=fz.ws;refine⟨_,O,_,O,fa,vp,pt,S,n,O,fz.fg,R,G,λH1 rp rv s1 g1 e1 ar=>?_⟩
 have hrl:rv.length≤1400:=by rw[ar.1];exact qc (xAcw W) W.few
 refine⟨rp,rv,_,O,e1,AL.mapR (P:=NM (nkS S) H1) (f:=nkS S) ar (λv i _ _ g=>g),hrl,λH2 dq kvs s2 g2 e2 hse hst=>?_⟩;have N:=s1.trans s2;refine⟨_,O,_,O,fa,vp,pt,S,n,O,(fz.same N).fg,R.tups N.tups,G,λH3 aq av s3 g3 e3 aa=>?_⟩;have s03:=N.trans s3
 have hal:av.length≤1400:=by rw[aa.1];exact qc (wv _ _) (qc (xAcw W) W.few)
 refine⟨szOk rfl,λt H4 g4 s4 e4=>?_⟩;have U:=s03.trans s4;have f4:=fz.same U;obtain⟨ns,enl,hnt,fewn⟩:=f4.nt;refine⟨_,O,fa,.ref (F 5),O,.inl ⟨fkv F 9,.inr "notes",f4.dk,O,(xAbl F 5 (by decide)).symm⟩,F 5,O,⟨_,SqL.of enl⟩,xAbd (xs:=ns) (big2 (by omega)) (λj ys H'=>H'=H4/\∀y∈ys,NTW H4 y) ⟨O,λy z=>nomatch z⟩ (λ_ _ H' s'=>by rw[s'.1];exact SqL.of enl) (λj x ys H' K1 K0 hx s' k1 k0=>?_) λH5 lp ys s' hy hq=>?_⟩
 ·obtain⟨rfl,ay⟩:=s'
  have nt:=hnt x (qh hx);obtain⟨c,b,vq,p,vb,ve,vt,vn,kq,rfl,h1,h2,h3,_⟩:=id nt;refine⟨_,O,b,_,0,_,O,O,SqT.of h1,O,_,O,tD p,tD pt,(gk_td h2).dv,(gk_td (R.tups U.tups)).dv,h3.lay,G,qc (ye _ _) (qc (xAci _) (by decide)),_,O,?_⟩;exact itB (λ_=>⟨_,O,k1 _ _ ⟨O,xAbg ay nt⟩⟩) λ_=>k0 _ ⟨O,ay⟩
 obtain⟨rfl,ay⟩:=s';have n5:Same H5 (upd H5 lp (.lst ys)):=Same.new hq;have e5:(upd H5 lp (.lst ys)) lp=some (.lst ys):=xAab;generalize upd H5 lp (.lst ys)=H6 at n5 e5;obtain⟨as,l1,l2⟩:=xAcy ay;refine⟨lp,ys,as.map λa=>.tuple [.int a.1,.int a.2],2,O,SqL.of e5,by rw[qf,l1],rk2 as,⟨by omega,.inl (by omega)⟩,λmm y d H' Q' q1 q2 s q=>?_,λsq H7 ix g7 s7 six e7=>?_⟩
 ·rw[qv]at q2
  obtain⟨a,ha,rfl⟩:=z9.mp q2;exact⟨y,a,O,(l2 mm y a q1 ha).tups (n5.trans s).tups,λkv hk=>q H' _ (Same.refl _) hk.dv⟩
 obtain⟨hix,hzl⟩:=xAou (by rw[qf,l1]) six;generalize ix.map (λi=>ys.getD i .non)=zs at e7 hix hzl;have D:=n5.trans s7;have etp:H7 t=some (.lst []):=D _ _ e4;have gtp:H t=none:=s03.free g4;have nsq:sq≠t:=(xAad (n5 _ _ e4) g7).symm;have ndq:dq≠t:=xAad (s3 _ _ e2) g4;have naq:aq≠t:=xAad e3 g4
 refine⟨sq,O,⟨_,SqL.of e7⟩,xAas (xs:=zs) (λj σ Z=>∃tv u5 u6 u7,σ=[some (.ref fa),some vp,some (.ref dq),some (.ref aq),some (.ref t),u5,u6,u7]/\Same (del H7 t) Z/\Z t=some (.lst tv)/\tv.length≤j)
  ⟨[],none,none,none,O,xAco,etp,qb _⟩ (λj σ Z _ ⟨_,_,_,_,_,r,_⟩=>SqL.of (DP.to r e7 nsq)) ?_ ?_⟩
 ·rintro j x σ Z hx ⟨tv,u5,u6,u7,rfl,Y,eZ,htl⟩
  have hj:=(qm.mp hx).1;have tZ:Tups H7 Z:=Tups.cut etp Y;obtain⟨c,b,vq,p,vb,ve,vt,vn,kq,rfl,h1,h2,h3,h4,h5,h6⟩:=(ay x (hix x (qh hx))).tups (D.tups.trans tZ);have J:=DP.to Y (D _ _ (s4 _ _ (s3 _ _ e2))) ndq;refine⟨_,O,_,O,b,_,1,_,O,O,SqT.of h1,O,_,O,b,_,2,_,O,O,SqT.of h1,O,dq,kvs,vb,ve,rv.length,O,J,hse,h4,h5,λZ1 bq B E s1 e1 _ _=>?_⟩;have L:=s1 _ _ (DP.to Y (D _ _ (s4 _ _ e3)) naq);have t3:=(s4.trans D).tups.trans (tZ.trans s1.tups);refine⟨_,O,aq,O,⟨_,SqL.of L⟩,xAbd (xs:=av) (big2 (by omega)) (λ_ _ X=>X=Z1) rfl (λ_ _ X s'=>by rw[s'];exact SqL.of L) (λj' y us X K1 K0 hy s' k1 k0=>?_) λX np I s' hyl hnq=>?_⟩
  ·subst s'
   obtain⟨k,ek,nm⟩:=aa.at hy;obtain⟨w,hw⟩:=zv.mp (hst _ (qj.mpr ⟨k,(zo.mp (qh ek)).1,O⟩));obtain⟨se,rfl,_⟩:=hse.val _ _ hw;refine⟨_,O,bq,_,0,_,O,O,SqT.of e1,O,_,O,_,O,dq,kvs,.tup (nkS S k),_,O,.inl (s1 _ _ J),NM.tups nm t3,hw,_,_,O,O,_,O,?_⟩;refine itB (λ_=>⟨_,O,bq,_,1,_,O,O,SqT.of e1,O,_,_,O,O,_,O,?_⟩) λ_=>⟨_,O,itF rfl (k0 _ rfl)⟩;exact itB (λ_=>⟨_,O,k1 _ _ rfl⟩) λ_=>k0 _ rfl
  subst s';have nX:Same X (upd X np (.lst I)):=Same.new hnq;have eX:(upd X np (.lst I)) np=some (.lst I):=xAab;generalize upd X np (.lst I)=Z2 at nX eX;have m:=s1.trans nX;have h1':=m _ _ h1;refine⟨_,O,.inl ⟨O,_,SqL.of (m _ _ eZ)⟩,_,O,b,_,4,_,O,O,SqT.of h1',O,_,O,b,_,3,_,O,O,SqT.of h1',O,_,O,np,I,O,.inl (SqL.of eX),_,_,O,O,_,O,?_⟩
  have fin:∀{tq:Addr} {Z3:Hp},Same Z2 Z3->∃tv' v5 v6 v7,[some (V.ref fa),some vp,some (.ref dq),some (.ref aq),some (.ref t),some (.ref b),some (.ref bq),some (.ref np)]=[some (.ref fa),some vp,some (.ref dq),some (.ref aq),some (.ref t),v5,v6,v7]/\Same (del H7 t) (upd Z3 t (.lst (tv++[.ref tq])))/\(upd Z3 t (.lst (tv++[.ref tq]))) t=some (.lst tv')/\tv'.length≤j+1:=λC=>⟨_,_,_,_,O,(Same.trans Y (m.trans C)).wr xAcg,xAab,by rw[qe,qo];omega⟩
  cases I with
  |nil=>exact itF (decide_eq_false (by decide)) ⟨szOk rfl,λtq Z3 g3' C e3'=>⟨t,tv,_,O,O,(m.trans C) _ _ eZ,xAaj (by omega),fin C⟩⟩
  |cons v0 I=>exact itT (qI (by show(0:Int)<((I.length+1:Nat):Int);omega)) ⟨_,O,np,_,0,v0,O,O,SqL.of eX,xAkm (j:=0) rfl,szOk rfl,λtq Z3 g3' C e3'=>⟨t,tv,_,O,O,(m.trans C) _ _ eZ,xAaj (by omega),fin C⟩⟩
 ·rintro σ Z ⟨tv,u5,u6,u7,rfl,Y,eZ,htl⟩
  exact⟨_,O,kk Z _ λb o e=>DP.to Y ((U.trans D) _ _ e) (xAad e gtp)⟩
def ok_fAa(T:Txt K mg tk)(F:FOL K mg "all_inner_parts" s_fAa t_all_inner_parts)(hB:base.BuiltinsAt mg t_all_inner_parts)(gfAw:O_fAw P w K mg base)(gfBd:O_fBd P w K mg base)(gfAb:O_fAb P w K mg base):O_fAa P w K mg base:=by
 refine xAuk F xAjy (λ_ _ _ _ _ _ u l=>match u,l with|[_],_=>rfl) (λ_ _ _ _ h=>xAvl h) λfa cdv A outer s H vs Q E hC L h=>?_
 refine⟨_,(xAaa (sm xAjy.nd 1 (cl gfAb L (a1 (vv 0))))
   (xAaa (sn xAjy.nd 2 (cl gfBd L (a1 (vv 0))))
   (xAaa (sn xAjy.nd 3 (cl gfAw L (a2 (vv 0) (vv 2))))
   (xAaa (sn xAjy.nd 4 xAcb)
   (xAaa (fo (il (xArk (k:=0) (y:="one") (z:="telling") (i:=1) rfl hC hB (L.mono (by decide)) (by rfl) T.b_sorted boot_sorted ⟨O,O,O,by decide +kernel,O,O,by decide +kernel⟩ rfl rfl (λ_ h=>xAay h) rfl rfl (λ_ _ _ _ _=>rfl) (λ_ _ _ _ _ _ _ L=>(xt (xAap (hu2 L) (vf 1) (vv 0) (λ_ _=>rfl)))) (a1 (cy (xAmm L.hd) T.b_list boot_list (a1 (vv 2)))))) (gn xAjy.nd 5)
   (xAac (ps_if (ck (xAjm (hu2 L)) (vv 5) (vv 3)) (xAac (ap (bm PySem.F.plainAttrs_dict PySem.F.slot_dict_setdefault PySem.F.type_dict_setdefault (xAfs (hu2 L)) (vv 4) (a2 (xAap (hu2 L) (vv 2) (vv 5) (λ_ _=>rfl)) (xAal xAbm))) (a1 (vv 5)))) xAan)))
   (xAac (xAak (vv 4)))))))),?_⟩
 obtain⟨fa,F,es,cs,ps,rfl,fp,tt,ma,kk⟩:=h;refine⟨_,O,fa,F,es,cs,ps,O,fp,λH1 tq kt s1 gtq Y klt akt hkt=>?_⟩;have R:=tt.same s1;have Z:=fp.kp (kpS s1);refine⟨_,O,fa,F,es,cs,ps,O,Z,R.a,s1 _ _ ma,λH2 da kd s2a tb2 gda eda kld hnd akd=>?_⟩;obtain⟨tt2,s2'⟩:=R.ofA s2a tb2;have I:KpT H1 H2:=λb o e h=>xAgd R s2' e h;refine⟨_,O,_,O,fa,F,es,cs,ps,da,kd,O,Z.kp I,.inl eda,kld,akd.imp (Tups.refl _) λk v g=>⟨g.1.nd,?_⟩,I.tups _ _ (s1 _ _ ma),λH3 qa kq s3 C gqa eqa=>?_⟩
 ·rcases g.2 with rfl|h
  ·exact⟨[],O⟩
  ·exact h.nv
 have tt3:=tt2.cut eda (λps z=>nomatch z) (λφ z=>nomatch z) s3;have N:Tups H2 H3:=xAdu eda (λys z=>nomatch z) s3;have etq3:H3 tq=some (.dG kt):=s3 _ _ (by rw[xAau (xAad Y gda)];exact I _ _ Y λps z=>nomatch z);have t13:=I.tups.trans N;have akt3:=akt.imp t13 λ_ _ g=>TPl.tups g t13;have akd3:=akd.imp N λ_ _ g=>TO1.tups g N
 have sH3:Same (dels H s2) H3:=λb u e=>by
  have nb:¬s2 b:=λz=>by rw[xAcc z]at e;cases e
  rw[xAcj nb]at e;exact s3 _ _ (by rw[xAau (xAad (s1 _ _ e) gda)];exact xAdt s2' (s1 _ _ e) nb)
 clear s3 N akd akt Y s2' s2a tb2 tt2 Z R I t13 s1
 obtain⟨A,hA⟩:=xAcy (ys:=kd) (P:=EA kt H3) λe he=>by
  obtain⟨g,⟨p,hp,e1,n⟩,ov⟩:=akd3 e he;rw[e1]at g;have ky:=ky_of akt3 g (hkt p hp);rcases ov with h|⟨o,h,m⟩
  ·exact⟨(p,[]),e1,n,g,h,ky⟩
  ·exact⟨(p,o),e1,n,g,gk_nd m.ne h,ky⟩
 have aA:AL (EA kt H3) kd A:=⟨hA.1.symm,hA.2⟩
 have hAn:(A.map (·.1)).Nodup:=by
  have h1:=hnd;rw[xAfa (g:=λx=>KD.tup x.1) aA λe x p=>p.1]at h1;exact jx.mpr (List.Pairwise.of_map (λx=>KD.tup x.1) (λa b h z=>h (congrArg KD.tup z)) h1)
 intro r H4 g4 s4 e4;refine⟨_,O,da,kd,O,Rd.same C s4,by omega,λlp H5 g5 s5 e5=>?_⟩;have s35:=s4.trans s5;have tt5:=tt3.same s35;refine⟨tt5.b,λH6 tb6 sd6=>?_⟩;obtain⟨tt6,s56⟩:=tt5.ofB sd6 tb6;have S:KpT H5 H6:=λb o e h=>xAgd tt5 s56 e h;have k36:KpT H3 H6:=λb o e h=>S _ _ (s35 _ _ e) h;have e6:=S _ _ e5 λps z=>nomatch z;have a6:=(aA.imp λe x h=>EA.tups h k36.tups).map (f:=(·.2.1)) (P2:=λv x=>Nm x.1/\GK H6 (.tup x.1) v/\∃a,KY H6 kt v a) λe x _ _ h=>⟨h.2.1,h.2.2.1,h.2.2.2.2⟩
 obtain⟨as,l1,l2⟩:=xAcy (ys:=kd.map (·.2.1)) (P:=KY H6 kt) λy hy=>let⟨_,_,h⟩:=a6.mem hy;h.2.2
 have V:=qf (as:=kd) (·.2.1)
 refine⟨.ref tq,O,lp,_,as.map λa=>.tuple [.int a.1,.int a.2],2,O,SqL.of e6,by rw[qf,l1],xAfu λd hd=>by
  obtain⟨i,_,rfl⟩:=qj.mp hd
  exact .inl ⟨_,_,O⟩,⟨by omega,.inl (by omega)⟩,λm y d H' Q' hy hd s' kq'=>⟨y,O,?_⟩,λq J ix gq s7 six e7=>?_⟩
 ·rw[qv]at hd
  obtain⟨a,ha,rfl⟩:=z9.mp hd;obtain⟨k1,b,vp,vo,vn,kq2,g,hv,h1,h2⟩:=(l2 m y a hy ha).tups s'.tups;exact⟨_,O,_,O,tq,kt,k1,.ref b,O,.inl (s' _ _ (k36 _ _ etq3 λps z=>nomatch z)),g,hv,b,_,3,.ref kq2,O,O,SqT.of h1,O,kq' H' _ (Same.refl _) (.tup (SqT.of h2) (.cons (.int _) (.cons (.int _) .nil)))⟩
 obtain⟨ms,am,B⟩:=sort_p ([],[]) a6 (by rw[qf,l1,V,aA.1]) six
 have hml:ms.length≤31:=by rw[B.length_eq,←aA.1];exact kld
 have hmn:(ms.map (·.1)).Nodup:=(B.map _).nodup_iff.mpr hAn;have U:=am.imp (P':=λv x=>Nm x.1/\GK J (.tup x.1) v) λv x z=>⟨z.1,z.2.1.tups s7.tups⟩;generalize ix.map (λi=>(kd.map (·.2.1)).getD i .non)=zs at e7 U am;have k37:KpT H3 J:=λb o e h=>s7 _ _ (k36 _ _ e h);have aA7:=aA.imp λe x h=>EA.tups h k37.tups;have t:J r=some (.dG []):=s7 _ _ (S _ _ (s5 _ _ e4) λps z=>nomatch z)
 have nda:da≠r:=λz=>by
  rw[z]at C;rcases C with y|⟨o',y⟩ <;> rw[g4]at y <;> cases y
 have b0:∀{b u},J b=some u->b≠r->(del J r) b=some u:=λe n=>by rw[xAau n];exact e
 refine⟨q,O,⟨_,SqL.of e7⟩,xAas (xs:=zs) (λj σ X=>∃kvs u5,σ=[some (.ref fa),some (.ref tq),some (.ref da),some (.ref qa),some (.ref r),u5]/\Same (del J r) X/\IW (ms.take j) (del J r) X r kvs/\kvs.length≤j)
  ⟨[],none,O,(λb u e=>xAco _ _ e),⟨t,(λk v z=>nomatch z),λk k' q z=>nomatch z⟩,qb _⟩ (λj σ X _ ⟨_,_,_,s,_⟩=>SqL.of (s _ _ (b0 e7 λz=>by rw[z,S _ _ (s5 _ _ e4) λps z=>nomatch z]at gq;cases gq))) ?_ ?_⟩
 ·rintro j x σ X hx ⟨kvs,u5,rfl,D,id,V⟩
  obtain⟨⟨c,o⟩,em,hcn,gx7⟩:=U.at hx;have hj:j<ms.length:=(qm.mp em).1
  have M:ms.take (j+1)=ms.take j++[(c,o)]:=by rw[zh,em];rfl
  have hcm:c∉(ms.take j).map (·.1):=λz=>by
   have:=(hmn.sublist ((gc (j+1) ms).map _));rw[M,z7]at this;exact(v9.mp this).2.2 c z c qp rfl
  have tX:Tups J X:=xAdu t (λys z=>nomatch z) D;have gx:GK X (.tup c) x:=gx7.tups tX;refine⟨_,O,_,O,qa,kq,.tup c,O,.inl (D _ _ (b0 (k37 _ _ eqa λps z=>nomatch z) (xAad eqa g4))),gx,_,O,?_⟩;rw[qB qk]
  refine itB (λ_=>?_) λ_=>⟨kvs,_,O,D,by rw[M];exact id.imp id.has (Tups.refl _) (λ_ _ e=>e) (λx hx=>z8 _ hx),by omega⟩
  obtain⟨e,he,h1,_,_,h4,_⟩:=aA7.mem' (B.mem_iff.mp (qh em));have hv':=vG_mem hnd he;rw[h1]at hv'
  have hdX:Rd X da (.dG kd):=by
   rcases k37.rdG C with y|⟨o',y⟩
   ·exact .inl (D _ _ (b0 y nda))
   ·exact .inr ⟨o',D _ _ (b0 y nda)⟩
  refine⟨_,O,.inr (.inr (.inl ⟨O,.inr (.inr ⟨kvs,id.has⟩)⟩)),_,O,_,O,da,kd,.tup c,e.2.2,O,hdX,gx,hv',szOk rfl,λz0 X4 gz sz ez=>?_⟩;have G:IW (ms.take j) (del J r) X4 r kvs:=id.imp (sz _ _ id.has) sz.tups (λ_ _ e=>sz _ _ e) λ_ h=>h;have f0:(del J r) z0=none:=D.free gz;have gx4:=gx.tups sz.tups;refine⟨r,kvs,nd o,e.2.2,.ref z0,O,O,G.has,h4.tups (tX.trans sz.tups),huge (by omega),λu hu=>?_,λhu=>?_⟩
  ·obtain⟨q',vs,l,rfl,b,al,d,f,g⟩:=G.each _ _ hu
   have vl:=xAdf (ws:=(ms.take j).map (·.1)) f λc hc=>let⟨o,i,_⟩:=d c hc;qj.mpr ⟨_,i,O⟩
   rw[qf,wn,←al.1]at vl;exact⟨.inl ⟨O,_,SqL.of b⟩,_,O,q',vs,_,O,O,b,huge (by omega),kvs,_,O,(D.trans sz).wr g,by rw[M];exact G.add hu b gx4 hcm,by omega⟩
  ·have nz:z0≠r:=λz=>by rw[z,id.has]at gz;cases gz
   have ez1:(upd X4 r (.dG (pG kvs (nd o) e.2.2 (.ref z0)))) z0=some (.lst []):=by rw[xAae nz];exact ez
   have id5:=G.new (k:=nd o) (vk:=e.2.2) f0 ez λk z=>by
    obtain⟨q',vs,l,e1,b,_⟩:=id.each k _ z;cases e1;rw[b]at gz;cases gz
   exact⟨.inl ⟨O,_,SqL.of ez1⟩,_,O,z0,_,_,O,O,ez1,huge (by show 0≤_;omega),_,_,O,((D.trans sz).wr xAcg).wr f0,by rw[M];exact id5.add (by rw[xAbx,qF rfl]) ez1 (gx4.tups (Tups.wd G.has)) hcm,qc (xAca kvs _ _ _) (j7 V)⟩
 ·rintro σ X ⟨kvs,u5,rfl,D,id,V⟩
  rw[U.1,zm]at id;have W:H r=none:=tt.free sH3 tt3 g4;refine⟨_,O,kk X r kvs ms (λb u e=>?_) ((tt6.same s7).cut t (λps z=>nomatch z) (λφ z=>nomatch z) D) W id.has ⟨hmn,λx hx=>let⟨_,_,h⟩:=U.mem' hx;h.1,hml,λp hp v e=>?_⟩⟩
  ·have nb:¬s2 b:=λz=>by rw[xAcc z]at e;cases e
   have e3:=s35 _ _ (sH3 _ _ e);rw[xAcj nb]at e;exact D _ _ (b0 (s7 _ _ (xAdt s56 e3 nb)) (xAad e W))
  ·obtain⟨q',vs,l,h1,h2,h3,h4,h5,_⟩:=id.each _ _ e
   refine⟨q',vs,l,h1,h2,h3,λc hc=>?_,h5⟩;obtain⟨o,i,j⟩:=h4 c hc;rw[←xAmt hp.ne]at j;rw[←xApz j];exact i
def ok_fBo(T:Txt K mg tk)(F:FO K mg "marks_of" s_fBo)(a:O_fAi P w K mg base):O_fBo P w K mg base:=by
 refine mk_ok F sc_fBo (λ_ _ _ _ _ _ u l=>match u,l with|[_,_],_=>rfl) (λ_ _ _ _ h=>xAvx h) λfa d A outer s H vs Q E e h=>?_;refine⟨_,(xAac (xAak (cl a e (ac (vv 0) (a2 (vv 1) xAaf))))),?_⟩;obtain⟨fa,F,S,n,i,pt,rfl,f,c,b,g⟩:=h;exact⟨_,O,_,O,fa,F,S,n,i,pt,O,f,c,b,g⟩
def ok_fAc(T:Txt K mg tk)(F:FO K mg "numbered_parts" s_fAc)(gfAa:O_fAa P w K mg base)(gfAj:O_fAj P w K mg base)(gfBt:O_fBt P w K mg base):O_fAc P w K mg base:=by
 refine mk_ok F xAhl (λ_ _ _ _ _ _ u l=>match u,l with|[_,_,_],_=>rfl) (λ_ _ _ _ h=>xAwc h) λfa cdv A outer s H vs Q E hr h=>?_
 refine⟨_,(xAaa (sn xAhl.nd 3 (cl gfAa hr (a1 (vv 0))))
   (xAaa (sn xAhl.nd 4 (xAal xAbm))
   (xAaa (sn xAhl.nd 5 (xAal (a1 (xAah (a2 (xAkc (v:=.ref c_MAIN) rfl T.c_MAIN rfl) xAai)))))
   (xAaa (xAeo PassesOwn.never (ck op_gt (cb xAag T.b_len boot_len (a1 (vv 5))) xAaf) (xAaa (sm xAhl.nd 6 (xAsx PySem.F.plainAttrs_list PySem.F.slot_list_pop PySem.F.type_list_pop xAsy (vv 5)))
   (xAaa (sn xAhl.nd 7 (cl gfBt hr (ac (vv 0) (ac (vv 1) (a2 (vv 2) (xt (vc 6)))))))
   (xAaa (ap (vv 4) (a1 (pe_op xAqq (vc 6) (xAah (a1 (vv 7))))))
   (xAac (ps_if (xAck (vv 7)) (xAaa (sn xAhl.nd 8 (xAjt rfl (by rfl) T.b_list (by rfl) T.b_enumerate (bm PySem.F.plainAttrs_dict PySem.F.slot_dict_get PySem.F.type_dict_get (xAbk (hu2 hr)) (vv 3) (a2 (xt (vc 6)) (xAal xAbm)))))
   (xAac (xAeb (bm PySem.F.plainAttrs_list PySem.F.slot_list_extend PySem.F.type_list_extend xAhu (vv 5) (a1 (xAbi (own:=["place","part"]) (fr:=[("coming",6)]) rfl (il (xAti (vv 8) (xAby (pe_un xAdx xAaf)))) ⟨O,by decide +kernel,by decide +kernel⟩ (xAbz (defScope s_fAc) ["facts","roll","hand","inner","told","to_come","coming","is_open","within"] rfl rfl (λ_ h=>xAay h) (by decide +kernel) (by decide +kernel) (by decide +kernel)) (λ_ _ _=>(xAen (n:=2) rfl (xAam (xAaq (i:=0) (by show List.Nodup (["place","part","coming"]:List Str);decide +kernel) rfl (Or.inl rfl)) (xAam (xAaq (i:=1) (by show List.Nodup (["place","part","coming"]:List Str);decide +kernel) rfl (Or.inl rfl)) xAch)))) (λ_=>xAbo rfl rfl (by decide)) (λ_ _ _=>xAbb) (λ_ _ _=>(xAah (a2 (vv 1) (cl gfAj hr (a2 (xt (vc 2)) (vv 0)))))))))))) xAan))))))
   (xAac (xAak (vv 4))))))),?_⟩
 obtain⟨fa,F,S,n,r,r0,rs,hv,rfl,fz,hr0,hh,tt,ma,kk⟩:=h;obtain⟨es0,cs,ps,fp⟩:=fz.fb;refine⟨_,O,fa,F,es0,cs,ps,O,fp,tt,ma,λH1 da kd A s1 t1 g1 e1 inn=>?_⟩;have kp:FZ H1 fa F S n:=fz.kp λb o e h=>xAgd tt s1 e h;have ma1:MA H1:=xAgd tt s1 ma (λps z=>nomatch z);have hr1:SqL H1 r (.str r0::rs):=rdTT tt s1 hr0 (λps z=>nomatch z);have nA:=inn.nd;have hN:=inn.nm;have lA:=inn.few;refine⟨szOk rfl,λta H2 g2 s2 e2=>⟨szOk rfl,λtq H3 g3 s3 e3=>⟨szOk rfl,λm H4 g4 s4 e4=>?_⟩⟩⟩;have s14:=(s2.trans s3).trans s4
 have nt:ta≠m:=λz=>by rw[←z,s3 _ _ e2]at g4;cases g4
 have ft:H1 ta=none:=g2;have fu:H1 m=none:=(s2.trans s3).free g4;refine⟨λmm σ M=>∃t es Us us u6 u7 u8,σ=[some (.ref fa),some (.ref r),some hv,some (.ref da),some (.ref ta),some (.ref m),u6,u7,u8]/\Same H1 M/\M ta=some (.lst t)/\AL (TN M) t es/\M m=some (.lst Us)/\AL (UN M) Us us/\Jz A (es.map (·.1)) (us.map (·.1))/\(∀x∈us,x.2.length≤4 * es.length)/\mm+es.length=64,⟨64,[],[],[.ref tq],[(mainK,"")],none,none,none,O,s14,s4 _ _ (s3 _ _ e2),.nil,e4,.cons ⟨tq,_,O,s4 _ _ e3,⟨_,O,s14 _ _ ma1⟩⟩ .nil,⟨by simp,λc hc=>.inl (by simpa using hc)⟩,λx k=>by rw[List.mem_singleton.mp k];exact Nat.le_refl _,O⟩,?_⟩;rintro mm σ M ⟨t,es,Us,us,u6,u7,u8,rfl,s5,eT,aT,eU,aU,J,hz,hm⟩;have hJ:=J.len;rw[qf,qf]at hJ;have hTl:t.length=es.length:=aT.1;refine⟨_,O,m,_,O,.inl (SqL.of eU),_,_,O,O,_,O,?_⟩;rcases yo us with z|⟨us',⟨u,z0⟩,z⟩
 ·subst z
  have h0:Us=[]:=wz.mp aU.1;subst h0;refine itF rfl ?_;exact⟨_,O,kk M ta t es (s1.trans s5) (t1.same s5) (tt.free s1 t1 ft) eT (by omega) aT⟩
 rw[jc]at z;subst z;rw[qe,qo]at hJ;obtain⟨d,vx,rfl,aU',b,vp,rfl,h1,h2⟩:=xAjc aU;have hUl:d.length=us'.length:=aU'.1;have pu:Pn u:=J.pn hN (by simp);have hzu:z0.length≤4 * es.length:=hz (u,z0) (by simp);refine itT (qI (by show(0:Int)<((d++[V.ref b]).length:Nat);rw[qe,qo];omega)) ?_;refine⟨λσ' H'=>∃t Us us o u6 u7 u8,σ'=[some (.ref fa),some (.ref r),some hv,some (.ref da),some (.ref ta),some (.ref m),u6,u7,u8]/\Same H1 H'/\H' ta=some (.lst t)/\AL (TN H') t (es++[(u,z0,o)])/\H' m=some (.lst Us)/\AL (UN H') Us us/\Jz A (es.map (·.1)++[u]) (us.map (·.1))/\∀x∈us,x.2.length≤4 * (es.length+1),λσ' H' ⟨Ts',Us2,us2,o,v6,v7,v8,b1,b2,b3,b4,b5,b6,b7,b8⟩=>⟨mm - 1,by omega,Ts',es++[(u,z0,o)],Us2,us2,v6,v7,v8,b1,b2,b3,b4,b5,b6,by rw[z7];exact b7,by rw[qe];exact b8,by rw[qe,qo];omega⟩,?_⟩;rw[z7]at J;refine⟨_,O,.inl ⟨O,_,SqL.of eU⟩,m,_,.ref b,O,O,eU,(by simp),?_⟩;rw[kz];have t6:Tups M (upd M m (.lst d)):=Tups.wl eU;have s6:Same H1 (upd M m (.lst d)):=s5.wr fu
 have eT6:(upd M m (.lst d)) ta=some (.lst t):=by rw[xAae nt];exact eT
 have eU6:(upd M m (.lst d)) m=some (.lst d):=xAab;have aT6:=aT.imp λv e g=>TN.tups g t6;have aU6:=aU'.imp λv e g=>UN.tups g t6;have h16:=t6 _ _ h1;have h26:=h2.tups t6;show tSeq _ _ _ _ (upd M m (.lst d));generalize upd M m (.lst d)=H6 at s6 eT6 eU6 aT6 aU6 h16 h26;refine⟨_,O,_,O,_,O,_,O,b,_,0,_,O,O,SqT.of h16,O,fa,F,S,n,r,r0,rs,hv,vp,O,kp.same s6,hr1.same s6,hh,⟨u,h26,pu⟩,λH7 o s7=>?_⟩;have s17:=s6.trans s7;have eT7:=s7 _ _ eT6;refine⟨_,O,.inl ⟨O,_,SqL.of eT7⟩,_,O,_,O,szOk rfl,λtp H8 g8 s8 e8=>?_⟩;refine⟨b,tp,_,_,O,O,SqT.of ((s7.trans s8) _ _ h16),SqT.of e8,(λz=>nomatch z),(λz=>nomatch z),szOk rfl,λp H9 g9 s9 e9=>?_⟩;have s79:=(s7.trans s8).trans s9;have s19:=s6.trans s79;have eT9:=s79 _ _ eT6;refine⟨ta,_,_,O,O,eT9,xAaj (by omega),?_⟩;have t10:Tups H9 (upd H9 ta (.lst (t++[.ref p]))):=Tups.wl eT9;have G:Same H1 (upd H9 ta (.lst (t++[.ref p]))):=s19.wr ft;have eT10:(upd H9 ta (.lst (t++[.ref p]))) ta=some (.lst (t++[.ref p])):=xAab
 have L:(upd H9 ta (.lst (t++[.ref p]))) m=some (.lst d):=by rw[xAae nt.symm];exact s79 _ _ eU6
 have I:=s79.tups.trans t10;have W:=aU6.imp λv e g=>UN.tups g I;have X:=I _ _ h16;have Z:=h26.tups I;have R:AL (TN (upd H9 ta (.lst (t++[.ref p])))) (t++[.ref p]) (es++[(u,z0,o)]):=(aT6.imp λv e g=>TN.tups g I).snoc ⟨p,vp,O,t10 _ _ e9,Z,pu,by show z0.length≤1000;omega⟩;generalize upd H9 ta (.lst (t++[.ref p]))=H10 at G eT10 L W X Z R;refine⟨_,O,o,O,?_⟩
 cases o with
 |false =>
  refine itF rfl ⟨_,d,us',false,_,_,_,O,G,eT10,R,L,W,?_,λx k=>qc (hz x (z8 _ k)) (by omega)⟩;have:=Jz.step (l:=[]) nA hN J (λx k=>nomatch k) .nil;simpa using this
 |true =>
  refine itT rfl ?_;refine⟨_,O,.inr (.inr (.inl ⟨O,.inr (.inr ⟨kd,G _ _ e1⟩)⟩)),_,O,b,_,0,_,O,O,SqT.of X,O,szOk rfl,λzq H11 g11 U e11=>?_⟩;refine⟨da,kd,.tup u,vp,.ref zq,O,O,(G.trans U) _ _ e1,Z.tups U.tups,?_⟩
  obtain⟨a,ws,l,ea,ew,aw,il,ind⟩:∃a ws l,(vG kd (.tup u)).getD (.ref zq)=.ref a/\H11 a=some (.lst ws)/\AL (NmKP H11) ws l/\(∀c∈l,(c,u)∈A)/\l.Nodup:=by
   cases q:vG kd (.tup u) with
   |none=>exact⟨zq,[],[],O,e11,.nil,(λc z=>nomatch z),.nil⟩
   |some v =>
    obtain⟨qa,ws,l,rfl,h3,h4,h5⟩:=inn.each u pu v q;exact⟨qa,ws,l,O,(G.trans U) _ _ h3,h4.imp λv x g=>NmKP.tups g (G.trans U).tups,h5⟩
  rw[ea];have J2:=Jz.step (l:=l.reverse) nA hN J (λc hc=>il c (wu.mp hc)) ((List.reverse_perm _).nodup_iff.mpr ind);have hJ2:=J2.len;rw[qe,qf,qe,qf,wb]at hJ2;have hwl:ws.length=l.length:=aw.1;refine⟨a,ws,O,SqL.of ew,λwq H12 zs g12 s12 e12 hl12 pr=>?_⟩;have Y:=U.trans s12;have eU12:=Y _ _ L;refine⟨_,O,.inl ⟨O,_,SqL.of eU12⟩,_,O,1,O,-1,O,O,wq,zs,O,SqL.of e12,λvq H13 g13 s13 e13=>?_⟩;have D:=Y.trans s13
  have hll:l.reverse.length=zs.length:=by rw[wb,hl12,hwl]
  refine⟨vq,O,⟨_,SqL.of e13⟩,xAbd (xs:=zs.reverse) (big (by rw[wb];omega)) (λj f H'=>Same H13 H'/\∃ns:List (List Key×Str),AL (UN H') f ns/\ns.map (·.1)=l.reverse.take j/\∀x∈ns,x.2.length≤z0.length+4) ⟨Same.refl _,[],.nil,O,λx z=>nomatch z⟩ (λ_ _ H' s'=>SqL.of (s'.1 _ _ e13)) (λj x f H' K1 K0 k s' k1 k0=>?_) λN lq f s' hv3 hlq=>?_⟩
  ·obtain⟨s',ns,an,en,bn⟩:=s'
   have hj:j<zs.length:=by have:=(qm.mp k).1;rwa [wb]at this
   rw[k8 hj]at k;obtain⟨T,w,ew2,rfl,hT⟩:=pr _ _ k;obtain⟨y,ey,hy⟩:=aw.at ew2
   have tk:l.reverse.take (j+1)=l.reverse.take j++[y]:=by
    rw[zh,k8 (by omega),show l.length - 1 - j=zs.length - 1 - j by omega,ey];rfl
   have s13':=s13.trans s';refine⟨T,_,O,SqT.of (s13' _ _ hT),O,_,_,O,_,_,O,O,?_⟩;refine iteT (B:=K0 H') ?_;refine⟨_,O,_,O,b,_,1,_,O,O,SqT.of ((D.trans s') _ _ X),O,_,O,z0,zs.length - 1 - j+1,O,by omega,by omega,λz' hz'=>⟨szOk rfl,λpq H15 g15 s15 e15=>k1 _ _ ⟨s'.trans s15,ns++[(y,z')],?_,?_,?_⟩⟩⟩
   ·exact(an.imp λv e g=>UN.tups g s15.tups).snoc ⟨pq,w,O,e15,NmKP.tups hy ((s12.trans s13').trans s15).tups⟩
   ·rw[z7,en,tk];rfl
   ·intro x k
    rcases zd.mp k with k|k
    ·exact bn x k
    ·rw[qt.mp k];exact hz'
  obtain⟨s',ns,an,en,bn⟩:=s';rw[wb,←hll,zm]at en;have eU14:N m=some (.lst d):=(D.trans s') _ _ L;have nlu:m≠lq:=xAad eU14 hlq;have n14:Same N (upd N lq (.lst f)):=Same.new hlq
  have eU15:(upd N lq (.lst f)) m=some (.lst d):=by rw[xAae nlu];exact eU14
  have C:=(D.trans s').trans n14;have hnl:f.length=ns.length:=an.1
  have hnn:ns.length=l.length:=by have:=congrArg List.length en;rwa [qf,wb]at this
  refine⟨m,lq,d,f,O,O,eU15,xAab,big (by omega),?_⟩;have t16:Tups (upd N lq (.lst f)) (upd (upd N lq (.lst f)) m (.lst (d++f))):=Tups.wl eU15;have t1016:=C.tups.trans t16;refine⟨_,d++f,us'++ns,true,_,_,_,O,(G.trans C).wr fu,by rw[xAae nt];exact C _ _ eT10,R.imp λv e g=>TN.tups g t1016,xAab,(W.imp λv e g=>UN.tups g t1016).app (an.imp λv e g=>UN.tups g (n14.tups.trans t16)),by rw[z7,en];exact J2,λx k=>?_⟩;rcases zd.mp k with k|k
  ·exact qc (hz x (z8 _ k)) (by omega)
  ·exact qc (bn x k) (by omega)
def ok_fBi(T:Txt K mg tk)(F:FO K mg "shown_row" s_fBi)(X:O_fBy P w K mg base)(y:O_fBo P w K mg base)(U:O_fAo P w K mg base):O_fBi P w K mg base:=by
 refine mk_ok F xAsf (λ_ _ _ _ _ _ u l=>match u,l with|[_,_,_],_=>rfl) (λ_ _ _ _ h=>xAwe h) λfa cdv A outer s H vs Q E g h=>?_;have hu1:(A.deeper (envOfC "shown_row" (defScope s_fBi) s.heap.objs.size fa cdv)).units+1<cLine:=hu_of g
 refine⟨_,(xAaa (sm xAsf.nd 3 (cy (xAar g.hd (hu4 g)) T.b_dict boot_dict (a1 (lcd (defScope s_fBi) N_fBi [("part",1)] (il (xAat hu1 (vv 0) xAai (λ_ _=>rfl))) (λ_ _ _=>(xAbv (ck (eqD g) (xt (vv 0)) (vc 1)))) (λ_ _ _=>(xAah (a2 (xt (vv 0)) (xt (vv 0)))))))))
   (xAaa (sm xAsf.nd 4 (cl y g (a2 (vv 0) (vc 1))))
   (xAac (xAak (lcd (defScope s_fBi) N_fBi [("numbers",2),("signs",3),("marks",4)] (il (cl X g (a2 (vv 0) (vc 1)))) (λ_ _ _=>xAbb) (λ_ _ _=>(xAah (ac (vv 0) (a2 (cl U g (a2 (vc 1) (xAap (hu2 g) (vc 2) (vv 0) (λ_ _=>rfl)))) (xAap (hu2 g) (vc 3) (vv 0) (λ_ _=>rfl))))))))))),?_⟩
 obtain⟨fa,F,S,n,vp,p,nq,M,rfl,fz,sok,gp,hp,nd,kk⟩:=h;have fg:=fz.fg;obtain⟨N,la,vs,rd,I,J,an,W⟩:=fz.fg;have a:=hp.lay
 have hvl:vs.length=n:=by rw[an.1,zk]
 have few:=W.few;have PW0:=W.plw p;refine⟨_,O,fa,.ref la,O,.inl ⟨N,.inr "signs",rd,O,I.symm⟩,la,O,⟨_,SqL.of J⟩,xAbd (xs:=vs) (big2 (by omega)) (λj us H'=>Same H H'/\∃kvs,PrsV H' us kvs/\PKs (nkS S) (λv i=>DT H v (S i).sg) kvs (((List.range n).take j).filter (mineS S p))) ⟨Same.refl _,[],trivial,trivial⟩ (λ_ _ H' s'=>SqL.of (s'.1 _ _ J)) (λj x us H' K1 K0 hx s' k1 k0=>?_) λH3 up us s' hu3 huq=>?_⟩
 ·obtain⟨s',kvs,Z,G⟩:=s'
  obtain⟨i,Y,sn⟩:=an.at hx;have c:i<n:=qw.mp (qh Y);obtain⟨b,vq,vn,vb,kq,vg,rfl,h1,h2,h3,h4,h5,h6⟩:=sn;have t:=s'.tups
  have tk:(List.range n).take (j+1)=(List.range n).take j++[i]:=by rw[zh,Y];rfl
  refine⟨_,O,b,_,0,_,O,O,SqT.of (t _ _ h1),O,_,O,tD (S i).pt,tD p,(gk_td (h2.tups t)).dv,(gk_td (gp.tups t)).dv,(W.lay i c).2,a,qc (ye _ _) (qc (xAci _) (by decide)),_,O,?_⟩;have C:(if false=true then !PyData.eqv (tD (S i).pt) (tD p) else PyData.eqv (tD (S i).pt) (tD p))=decide ((S i).pt=p):=xAgc _ _
  by_cases f:(S i).pt=p
  ·refine itT (by rw[C];exact qI f) ?_
   refine⟨_,O,b,_,1,_,O,O,SqT.of (t _ _ h1),O,_,O,b,_,4,_,O,O,SqT.of (t _ _ h1),O,szOk rfl,λtq H4 g4 r e4=>k1 _ _ ⟨s'.trans r,kvs++[(.tup (nkS S i),vn,vg)],PrsV.snoc (e:=(.tup (nkS S i),vn,vg)) ⟨tq,O,e4,(h3.tups t).tups r.tups⟩ (Z.tups r.tups),?_⟩⟩;rw[tk,yq,j0 (xAax.mpr f),j4];exact G.snoc rfl h6
  ·refine itF (by rw[C];exact decide_eq_false f) (k0 _ ⟨s',kvs,Z,?_⟩)
   rw[tk,yq,j3 (λz=>f (xAax.mp z)),j4,vd];exact G
 obtain⟨s3,kvs,Z,G⟩:=s';have n3:Same H3 (upd H3 up (.lst us)):=Same.new huq;rw[hvl,yr (by rw[zk];exact qb _)]at G;refine⟨up,us,kvs,O,SqL.of xAab,Z.tups n3.tups,by omega,λdq H5 g5 s5 e5=>?_⟩;have o:=(s3.trans n3).trans s5;have get:∀i∈minesS S n p,∃v,vG (putAll [] kvs) (.tup (nkS S i))=some v/\DT H v (S i).sg:=λi hi=>PKs.get (all:=minesS S n p) PW0.inj (done:=[]) (acc:=[]) G (λi z=>nomatch z) (λi h=>h) (λi z=>nomatch z) i (.inr hi);refine⟨_,O,_,O,fa,F,S,n,vp,p,O,fz.same o,gp.tups o.tups,a,λH6 mq kvm s6 g6 e6 tdk=>?_⟩;have d:=o.trans s6;refine⟨_,O,_,O,fa,vp,p,S,n,O,fg.same d,gp.tups d.tups,a,λH7 lq zs s7 g7 e7 al=>?_⟩;have hal:∀i∈aliveS S n p,i<n/\(S i).pt=p:=λi hi=>(xAmu W).mp (zo.mp hi).1
 have hzl:zs.length≤1400:=by rw[al.1];exact qc (qc (wv _ _) (xAcw W)) W.few
 refine⟨lq,O,⟨_,SqL.of e7⟩,xAbd (xs:=zs) (big2 (by omega)) (λj us H'=>Same H7 H'/\∀u∈us,RW S n M H' u) ⟨Same.refl _,λu z=>nomatch z⟩ (λ_ _ H' s'=>SqL.of (s'.1 _ _ e7)) (λj x us H' K1 K0 hx s' k1 k0=>?_) λH9 rq us s' k D=>?_⟩
 ·obtain⟨s',ru⟩:=s'
  obtain⟨i,Y,nmx⟩:=al.at hx;have L:i∈aliveS S n p:=qh Y;obtain⟨c,hpt⟩:=hal i L;have him:i∈minesS S n p:=zo.mpr ⟨qw.mpr c,xAax.mpr hpt⟩;have m:NM (nkS S) H' x i:=NM.tups nmx s'.tups;obtain⟨v,gv,dv⟩:=get i him;have q:=s7.trans s';have R:=d.trans q;obtain⟨vm,gm⟩:=zv.mp (tdk i L);refine iteT (B:=K0 H') ?_;refine⟨_,O,_,O,_,O,_,O,dq,_,.tup (nkS S i),v,O,.inl ((s6.trans q) _ _ e5),m,gv,nq,M,v,(S i).sg,O,nd.same R,dv.tups R.tups,sok i c,λt ht=>?_⟩;refine⟨_,O,_,O,mq,kvm,.tup (nkS S i),vm,O,.inl (q _ _ e6),m,gm,szOk rfl,λtq H4 g4 r e4=>k1 _ _ ⟨s'.trans r,λu k=>?_⟩⟩;rcases zd.mp k with k|k
  ·exact(ru u k).tups r.tups
  ·rw[qt.mp k]
   exact⟨tq,x,vm,i,t,O,e4,NM.tups m r.tups,c,ht⟩
 obtain⟨s9,ru⟩:=s';have n9:Same H9 (upd H9 rq (.lst us)):=Same.new D;have V:=(d.trans s7).trans s9;exact kk _ rq us (V.trans n9) (V.free D) xAab λu k=>(ru u k).tups n9.tups
def ok_fCa(T:Txt K mg tk)(F:FO K mg "entry" s_fCa)(j:O_fBs P w K mg base)(i:O_fBi P w K mg base)(m:O_fBm P w K mg base):O_fCa P w K mg base:=by
 refine mk_ok F sc_fCa (λ_ _ _ _ _ _ u l=>match u,l with|[_,_,_,_],_=>rfl) (λ_ _ _ _ h=>xAwf h) λfa U A outer s H vs Q E o h=>?_
 refine⟨_,(xAaa (ps_if (xAqe (xAck (vv 3))) (xAac (xAak (xAah (ac (xAap (hu2 o) (vv 1) (vv 2) (λ_ _=>rfl)) (ac (vv 2) (ac xAcf (a2 xAcf xAcf))))))) xAan)
   (xAac (xAak (xAah (ac (xAap (hu2 o) (vv 1) (vv 2) (λ_ _=>rfl)) (ac (vv 2) (ac (cl i o (ac (vv 0) (a2 (vv 2) (vv 1)))) (a2 (cl j o (a2 (vv 0) (vv 2))) (cl m o (a2 (vv 0) (vv 2))))))))))),?_⟩
 obtain⟨fa,F,S,n,nq,a,q,p,b,rfl,x,v,c,f,nd,hn,D⟩:=h;have y:=nd;obtain⟨kvs,B,nk⟩:=nd;obtain⟨h1,h2⟩:=nk p f
 obtain⟨z,hz⟩:∃z,a p=some z:=by
  cases e:a p with
  |none=>exact absurd e hn
  |some z=>exact⟨z,O⟩
 rw[hz]at h1
 cases b with
 |false =>
  refine⟨_,O,_,O,itT rfl ?_⟩;refine⟨_,O,_,O,nq,kvs,.tup p,.str z,O,.inl B,c,h1,_,O,szOk rfl,λM H1 I g t=>?_⟩;exact D H1 _ g ⟨M,z,q,.non,.non,.non,O,t,c.tups g.tups,f,hz,.inl rfl⟩
 |true =>
  refine⟨_,O,_,O,itF rfl ?_⟩;refine⟨_,O,_,O,nq,kvs,.tup p,.str z,O,.inl B,c,h1,_,O,_,O,_,O,_,O,fa,F,S,n,q,p,nq,a,O,x,v,c,f,y,λH1 rq zs g I t rw=>?_⟩;refine⟨_,O,_,O,fa,F,S,n,q,p,O,x.same g,c.tups g.tups,f.lay,λH2 V s2=>?_⟩;have d:=g.trans s2;refine⟨_,O,_,O,fa,F,S,n,q,p,O,x.same d,c.tups d.tups,f.lay,λW L C=>?_⟩;refine⟨szOk rfl,λeq R X G N=>?_⟩;have k:=(d.trans C).trans G;have r:=(s2.trans C).trans G;exact D R _ k ⟨eq,z,q,(.ref rq),V,L,O,N,c.tups k.tups,f,hz,.inr ⟨rq,zs,O,r _ _ t,λu J=>(rw u J).tups r.tups⟩⟩
def ok_fBp(T:Txt K mg tk)(F:FOD K mg "document" s_fBp)(L:O_fCa P w K mg base)(C:O_fAc P w K mg base):O_fBp P w K mg base:=by
 refine mk_okD F xAsg (λ_ _ _ _ _ _ _ _ u l=>match u,l with|[_,_,_],_=>⟨_,O,O⟩) (λ_ _ _ _ h=>xAwg h) λfa cdv A outer s H vs Q E U h=>?_
 refine⟨_,(xAaa (sn xAsg.nd 3 (cl C U (ac (vc 0) (a2 (vv 1) (vv 2)))))
   (xAaa (sm xAsg.nd 4 (cy (xAar U.hd (hu4 U)) T.b_dict boot_dict (a1 (xAbi (own:=["part","number","is_open"]) (fr:=[]) rfl (il (vv 3)) ⟨O,by decide +kernel,by decide +kernel⟩ (caps0 (by decide +kernel)) (λ_ _ _=>(xAen (n:=3) rfl (xAam (xAaq (i:=0) (by show List.Nodup (["part","number","is_open"]:List Str);decide +kernel) rfl (Or.inl rfl)) (xAam (xAaq (i:=1) (by show List.Nodup (["part","number","is_open"]:List Str);decide +kernel) rfl (Or.inl rfl)) (xAam (xAaq (i:=2) (by show List.Nodup (["part","number","is_open"]:List Str);decide +kernel) rfl (Or.inl rfl)) xAch))))) (λ_=>xAgb rfl rfl rfl (by decide) (by decide) (by decide)) (λ_ _ _=>xAbb) (λ_ _ _=>(xAah (a2 (vv 0) (vv 1))))))))
   (xAac (xAak (xAbi (own:=["part","number","is_open"]) (fr:=[("facts",0),("numbers",4)]) rfl (il (vv 3)) ⟨O,by decide +kernel,by decide +kernel⟩ (xAbz (defScope s_fBp) ["facts","roll","hand","told","numbers"] rfl rfl (λ_ h=>xAay h) (by decide +kernel) (by decide +kernel) (by decide +kernel)) (λ_ _ _=>(xAen (n:=3) rfl (xAam (xAaq (i:=0) (by show List.Nodup (["part","number","is_open","facts","numbers"]:List Str);decide +kernel) rfl (Or.inl rfl)) (xAam (xAaq (i:=1) (by show List.Nodup (["part","number","is_open","facts","numbers"]:List Str);decide +kernel) rfl (Or.inl rfl)) (xAam (xAaq (i:=2) (by show List.Nodup (["part","number","is_open","facts","numbers"]:List Str);decide +kernel) rfl (Or.inl rfl)) xAch))))) (λ_=>xAgb rfl rfl rfl (by decide) (by decide) (by decide)) (λ_ _ _=>xAbb) (λ_ _ _=>(cl L U (ac (vc 3) (ac (vc 4) (a2 (vv 0) (vv 2))))))))))),?_⟩
 obtain⟨fa,F,S,n,r,r0,rs,hv,rfl,fz,sok,hr0,hh,Z,ma,kk⟩:=h;refine⟨_,O,_,O,_,O,fa,F,S,n,r,r0,rs,hv,O,fz,hr0,hh,Z,ma,λH1 q ts es s1 t1 g1 M l1 J=>?_⟩;refine⟨_,O,q,O,⟨_,SqL.of M⟩,xAbd (xs:=ts) (big (by omega)) (λj us H'=>Same H1 H'/\∃kvs:List (KD×V×V),PrsV H' us kvs/\AL (λe x=>e.1=.tup x.1/\e.2.2=.str x.2.1) kvs (es.take j)) ⟨Same.refl _,[],trivial,.nil⟩ (λ_ _ H' s'=>SqL.of (s'.1 _ _ M)) (λj x us H' K1 X hx s' Y k0=>?_) λH3 up us s' hu3 huq=>?_⟩
 ·obtain⟨s',kvs,pr,I⟩:=s'
  obtain⟨t,N,tn⟩:=J.at hx;obtain⟨b,W,rfl,h1,h2,h3,h4⟩:=tn.tups s'.tups;refine⟨b,_,O,SqT.of h1,O,_,_,O,_,_,O,_,_,O,O,?_⟩;refine iteT (B:=X H') ?_;refine⟨_,O,_,O,szOk rfl,λtq H4 g4 m e4=>Y _ _ ⟨s'.trans m,kvs++[(.tup t.1,W,.str t.2.1)],PrsV.snoc (e:=(.tup t.1,W,.str t.2.1)) ⟨tq,O,e4,h2.tups m.tups⟩ (pr.tups m.tups),?_⟩⟩;rw[zh,N];exact I.snoc ⟨O,O⟩
 obtain⟨s3,kvs,pr,I⟩:=s';have n3:Same H3 (upd H3 up (.lst us)):=Same.new huq;rw[J.1,zm]at I;refine⟨up,us,kvs,O,SqL.of xAab,pr.tups n3.tups,by omega,λdq H5 g5 s5 e5=>?_⟩;have c:=(s3.trans n3).trans s5
 obtain⟨a,D⟩:∃a:List Key->Option Str,a=λp=>match vG (putAll [] kvs) (.tup p) with|some (.str z)=>some z|_=>none:=⟨_,O⟩
 have G:∀k v,vG (putAll [] kvs) k=some v->∃t∈es,k=.tup t.1/\v=.str t.2.1:=λk v e=>by
  rcases pa_in kvs [] e with z|⟨e',he,rfl,rfl⟩
  ·cases z
  ·obtain⟨t,d,h1,h2⟩:=I.mem he
   exact⟨t,d,h1,h2⟩
 have nk:∀p,vG (putAll [] kvs) (.tup p)=(a p).map V.str/\∀z,a p=some z->z.length≤1000:=λp=>by
  have hq:a p=(match vG (putAll [] kvs) (.tup p) with|some (.str z)=>some z|_=>none):=by rw[D]
  rw[hq]
  cases e:vG (putAll [] kvs) (.tup p) with
  |none=>exact⟨O,λz h=>nomatch h⟩
  |some v =>
   obtain⟨t,d,_,rfl⟩:=G _ _ e;refine⟨O,λz h=>?_⟩;obtain⟨x,_,_,_,_,_,_,_,h5⟩:=J.mem' d;cases h;exact h5
 have has:∀t∈es,a t.1≠none:=λt d z=>by
  obtain⟨e,he,h1,_⟩:=I.mem' d;have:=xArt (k:=.tup t.1) kvs [] (.inr ⟨e,he,h1⟩);rw[(nk t.1).1,z]at this;cases this
 have nd5:NumD H5 dq a:=⟨_,e5,λp _=>nk p⟩;refine⟨_,O,q,O,⟨_,SqL.of (c _ _ M)⟩,xAbd (xs:=ts) (big (by omega)) (λj us H'=>Same H5 H'/\AL (EY S n a H') us ((es.take j).map (·.1))) ⟨Same.refl _,.nil⟩ (λ_ _ H' s'=>SqL.of (s'.1 _ _ (c _ _ M))) (λj x us H' K1 X hx s' Y k0=>?_) λH9 rq us s' hu y=>?_⟩
 ·obtain⟨s',R⟩:=s'
  obtain⟨t,N,tn⟩:=J.at hx;obtain⟨b,W,rfl,h1,h2,h3,h4⟩:=tn.tups (c.trans s').tups;refine⟨b,_,O,SqT.of h1,O,_,_,O,_,_,O,_,_,O,O,?_⟩;refine iteT (B:=X H') ?_;refine⟨_,O,_,O,_,O,_,O,fa,F,S,n,dq,a,W,t.1,t.2.2,O,(fz.kp λb o e h=>xAgd Z s1 e h).same (c.trans s'),sok,h2,h3,nd5.same s',has t (qh N),λH4 v m ey=>Y _ _ ⟨s'.trans m,?_⟩⟩;rw[zh,N,z7];exact AL.snoc (R.imp λv p g=>g.same m) ey
 obtain⟨s9,R⟩:=s';have n9:Same H9 (upd H9 rq (.lst us)):=Same.new y;rw[J.1,zm]at R;have f:=c.trans s9;refine kk _ rq us (es.map (·.1)) a (s1.trans (f.trans n9)) (t1.same (f.trans n9)) (Z.free s1 t1 (f.free y)) xAab (by omega) (R.imp λv p g=>g.same n9) (λp _ h=>?_) λp=>(nk p).2
 cases e:a p with
 |none=>rw[e]at h;cases h
 |some z =>
  have h1:=(nk p).1;rw[e]at h1;obtain⟨t,d,h2,_⟩:=G _ _ h1;exact qj.mpr ⟨t,d,(KD.tup.inj h2).symm⟩
def ok_fCb(T:Txt K mg tk)(F:Fun K "law" "law" s_fCb fa fd)(i:O_fBb P w K mg base)(q:O_fBc P w K mg base)(t:O_fBp P w K mg base):FnOk P w K mg base CX0 12 fa fd ["_law_script"] sp5_law:=by
 refine F.ok xAoz (λ_ _ _ _ h=>xAry h) λcdv A outer s H vs Q E y h=>?_
 refine⟨_,(xAaa (sn xAoz.nd 1 (xAal (a2 xAai xAai)))
   (xAaa (sn xAoz.nd 2 (cl i y (a2 (vv 0) (vv 1))))
   (xAaa (fo (il (xAal (ac xAcf (a2 xAai xAai)))) (gn xAoz.nd 3)
   (xAac (ps_if (xAqe (xAck (cl q y (a2 (vv 2) (cl t y (ac (vv 2) (a2 (vv 1) (vv 3)))))))) (xAac (xAak pe_bl)) xAan)))
   (xAac (xAak pe_bl))))),?_⟩
 obtain⟨sp,ns,rfl,N,hn,W,U,kk⟩:=h;refine⟨szOk rfl,λr H1 g1 I G=>?_⟩;refine⟨_,O,_,O,sp,ns,r,O,N.same I,hn,G,λH2 fa F S n s2 fz l=>?_⟩;have m:=I.trans s2;refine⟨szOk rfl,λL H3 g3 u J=>?_⟩;refine⟨L,O,⟨_,SqL.of J⟩,xAas (xs:=[.non,.str "ann",.str "bo"]) (λj σ a=>∃C,σ=[some (.ref sp),some (.ref r),some (.ref fa),C]/\FZ a fa F S n/\TTP a/\MA a/\a r=some (.lst [.str "ann",.str "bo"])/\a L=some (.lst [.non,.str "ann",.str "bo"])) ⟨_,O,fz.same u,W.same (m.trans u),(m.trans u) _ _ U,(s2.trans u) _ _ G,J⟩ (λj σ a _ ⟨_,_,_,_,_,_,e⟩=>SqL.of e) ?_ ?_⟩
 ·rintro j x σ a Y ⟨C,rfl,c,g,f,p,B⟩
  have D:HV x:=by
   have:=qh Y
   simp only[List.mem_cons,List.not_mem_nil,or_false]at this
   rcases this with rfl|rfl|rfl
   ·exact .inl rfl
   ·exact .inr ⟨_,O⟩
   ·exact .inr ⟨_,O⟩
  refine⟨_,O,_,O,_,O,_,O,fa,F,S,n,r,"ann",[.str "bo"],x,O,c,l,SqL.of p,D,g,f,λH5 dq es ps v Z R g5 X M al V bd=>?_⟩;have k:∀b o,a b=some o->(∀ps,o≠.tbl ps)->H5 b=some o:=λb o e h=>xAgd g Z e h;refine⟨fa,F,S,n,dq,es,ps,v,O,c.kp k,l,X,M,al,V,bd,λH6 d=>?_⟩;refine⟨_,O,itF rfl ⟨_,O,(c.kp k).same d,R.same d,d _ _ (k _ _ f λ_ z=>nomatch z),d _ _ (k _ _ p λ_ z=>nomatch z),d _ _ (k _ _ B λ_ z=>nomatch z)⟩⟩
 ·rintro σ a ⟨C,rfl,_⟩
  exact kk a
end
def all_mk{l:PySem.W.OpenLaw}{w:World}{K:PySem.W.Frag}{h:Heap}{mg:Str->Option Value}{fa:Addr}(X:K.In h)(G:h.Ns mainGlobals mg)(hfa:mg "law"=some (.ref fa))(r:PySem.W.nsIn K mainGlobals "dict"=some none)(f:PySem.W.nsIn K mainGlobals "enumerate"=some none)(E:PySem.W.nsIn K mainGlobals "int"=some none)(d:PySem.W.nsIn K mainGlobals "isinstance"=some none)(B:PySem.W.nsIn K mainGlobals "len"=some none)(q:PySem.W.nsIn K mainGlobals "list"=some none)(C:PySem.W.nsIn K mainGlobals "max"=some none)(m:PySem.W.nsIn K mainGlobals "range"=some none)(k:PySem.W.nsIn K mainGlobals "sorted"=some none)(D:PySem.W.nsIn K mainGlobals "str"=some none)(A:PySem.W.nsIn K mainGlobals "MAIN"=some (some (.ref c_MAIN)))(z_fAs:FX K "birth_chain" s_fAs)(z_fAr:FX K "told_leaves" s_fAr)(z_fAl:FX K "key_of_leave" s_fAl)(H:FX K "is_let" s_fBx)(z_fBf:FX K "has_leave" s_fBf)(z_fAn:FX K "key_of_place" s_fAn)(z_fAm:FX K "followers_of" s_fAm)(z_fBv:FX K "ordered" s_fBv)(z_fBl:FX K "signs_in" s_fBl)(U:FX K "row_of" s_fBz)(R:FX K "living" s_fBy)(z_fAh:FX K "place_of_side" s_fAh)(z_fBw:FX K "stretch" s_fBw)(z_fBr:FX K "seats_in" s_fBr)(z_fAv:FX K "key_of_mark" s_fAv)(z_fAd:FX K "telling_in_row" s_fAd)(z_fAi:FX K "told_of_signs" s_fAi)(Q:FX K "marks_of" s_fBo)(z_fAu:FX K "key_of_note" s_fAu)(z_fBs:FX K "notes_of" s_fBs)(z_fAb:FX K "telling_places" s_fAb)(z_fBu:FX K "way_out" s_fBu)(b:tabP K "greatest_place"=t_greatest_place)(z_fAf:FL K "greatest_place" s_fAf t_greatest_place)(z_fBg:FX K "turned_in" s_fBg)(J:FX K "stood_in" s_fBq)(z_fAg:FX K "reaching_main" s_fAg)(z_fBd:FX K "stands_in" s_fBd)(z_fAw:FX K "shown_among" s_fAw)(a:tabP K "all_inner_parts"=t_all_inner_parts)(Y:FL K "all_inner_parts" s_fAa t_all_inner_parts)(V:FX K "lines_of" s_fBn)(z_fAt:FX K "key_of_cell" s_fAt)(z_fAx:FX K "words_told" s_fAx)(Z:FX K "table_of" s_fBm)(z_fBt:FX K "may_read" s_fBt)(z_fAj:FX K "inner_number" s_fAj)(z_fAc:FX K "numbered_parts" s_fAc)(N:FX K "text_of_sign" s_fAo)(z_fBi:FX K "shown_row" s_fBi)(z_fCa:FX K "entry" s_fCa)(z_fBp:FXD K "document" s_fBp)(z_fAk:FX K "_law_cell_at" s_fAk)(z_fBa:FX K "_law_drawn" s_fBa)(z_fBj:FX K "_law_draw" s_fBj)(z_fAz:FX K "_law_parts" s_fAz)(z_fBk:FX K "_law_sign" s_fBk)(z_fAy:FX K "_law_signs" s_fAy)(z_fBe:FX K "_law_side" s_fBe)(O:FX K "_law_stretches" s_fAe)(z_fAp:FX K "_law_tables" s_fAp)(z_fAq:FX K "_law_leaves" s_fAq)(z_fBb:FX K "_law_facts" s_fBb)(z_fBh:FX K "_law_text" s_fBh)(z_fBc:FX K "_law_right" s_fBc)(z_fCb:FX K "law" s_fCb) :
  ∃fd:FuncData,(∀(s:Shared) (v:Value),BindsTo s fd ⟨[v],[]⟩ [("_law_script",v)])/\∀base:Heap,K.In base->base.Ns mainGlobals mg->(∀t∈TSL,base.BuiltinsAt mg (tabP K t))->FnOk l.prog w K mg base CX0 12 fa fd ["_law_script"] sp5_law:=by
 have T:Txt K mg (λx=>0):=⟨PySem.W.mg_none_of X G r,PySem.W.mg_none_of X G f,PySem.W.mg_none_of X G E,PySem.W.mg_none_of X G d,PySem.W.mg_none_of X G B,PySem.W.mg_none_of X G q,PySem.W.mg_none_of X G C,PySem.W.mg_none_of X G m,PySem.W.mg_none_of X G k,PySem.W.mg_none_of X G D,PySem.W.mg_of X G A⟩;obtain @⟨_,_,an,_,_,kV,dc,pm,cd,ct,z1,z2,z3,z4⟩:=z_fCb;have e:=hfa.symm.trans (PySem.W.mg_of X G z1);cases e;refine⟨PySem.W.fnOf "law" "law" (defArgs s_fCb) (defBody s_fCb) (defScope s_fCb) .none kV dc pm an cd ct,λs v=>.of_eq rfl,λbase _ _ hBs=>?_⟩;have r_fAs:=ok_fAs (P:=l.prog) (w:=w) (base:=base) T (z_fAs.fo X G);have r_fAl:=ok_fAl (P:=l.prog) (w:=w) (base:=base) T (z_fAl.fo X G);have r_fAn:=ok_fAn (P:=l.prog) (w:=w) (base:=base) T (z_fAn.fo X G);have p:=ok_fBl (P:=l.prog) (w:=w) (base:=base) T (z_fBl.fo X G);have r_fAh:=ok_fAh (P:=l.prog) (w:=w) (base:=base) T (z_fAh.fo X G);have j:=ok_fBr (P:=l.prog) (w:=w) (base:=base) T (z_fBr.fo X G);have r_fAv:=ok_fAv (P:=l.prog) (w:=w) (base:=base) T (z_fAv.fo X G);have r_fAu:=ok_fAu (P:=l.prog) (w:=w) (base:=base) T (z_fAu.fo X G);have n:=ok_fAb (P:=l.prog) (w:=w) (base:=base) T (z_fAb.fo X G);have y:=ok_fBu (P:=l.prog) (w:=w) (base:=base) T (z_fBu.fo X G);have r_fAt:=ok_fAt (P:=l.prog) (w:=w) (base:=base) T (z_fAt.fo X G);have r_fAj:=ok_fAj (P:=l.prog) (w:=w) (base:=base) T (z_fAj.fo X G);have r_fAo:=ok_fAo (P:=l.prog) (w:=w) (base:=base) T (N.fo X G);have r_fAk:=ok_fAk (P:=l.prog) (w:=w) (base:=base) T (z_fAk.fo X G);have r_fBa:=ok_fBa (P:=l.prog) (w:=w) (base:=base) T (z_fBa.fo X G);have c:=ok_fBj (P:=l.prog) (w:=w) (base:=base) T (z_fBj.fo X G);have r_fBh:=ok_fBh (P:=l.prog) (w:=w) (base:=base) T (z_fBh.fo X G);have o:=ok_fBw (P:=l.prog) (w:=w) (base:=base) T (z_fBw.fo X G) r_fAh;have z:=ok_fAg (P:=l.prog) (w:=w) (base:=base) T (z_fAg.fo X G) y;have r_fAz:=ok_fAz (P:=l.prog) (w:=w) (base:=base) T (z_fAz.fo X G) c;have S:=ok_fBk (P:=l.prog) (w:=w) (base:=base) T (z_fBk.fo X G) c;have r_fBe:=ok_fBe (P:=l.prog) (w:=w) (base:=base) T (z_fBe.fo X G) c;have F:=ok_fAp (P:=l.prog) (w:=w) (base:=base) T (z_fAp.fo X G) c;have r_fAq:=ok_fAq (P:=l.prog) (w:=w) (base:=base) T (z_fAq.fo X G) c;have r_fBc:=ok_fBc (P:=l.prog) (w:=w) (base:=base) T (z_fBc.fo X G) r_fBh;have r_fAr:=ok_fAr (P:=l.prog) (w:=w) (base:=base) T (z_fAr.fo X G) r_fAl;have r_fAm:=ok_fAm (P:=l.prog) (w:=w) (base:=base) T (z_fAm.fo X G) r_fAn;have r_fAd:=ok_fAd (P:=l.prog) (w:=w) (base:=base) T (z_fAd.fo X G) r_fAv j o;have r_fAf:=ok_fAf (P:=l.prog) (w:=w) (base:=base) T (z_fAf.fo X G) (b▸hBs "greatest_place" (by simp));have r_fAw:=ok_fAw (P:=l.prog) (w:=w) (base:=base) T (z_fAw.fo X G) z;have I:=ok_fAx (P:=l.prog) (w:=w) (base:=base) T (z_fAx.fo X G) r_fAt;have L:=ok_fAy (P:=l.prog) (w:=w) (base:=base) T (z_fAy.fo X G) c S;have r_fAe:=ok_fAe (P:=l.prog) (w:=w) (base:=base) T (O.fo X G) c r_fBe;have r_fBx:=ok_fBx (P:=l.prog) (w:=w) (base:=base) T (H.fo X G) r_fAr;have u:=ok_fBv (P:=l.prog) (w:=w) (base:=base) T (z_fBv.fo X G) r_fAm;have r_fBg:=ok_fBg (P:=l.prog) (w:=w) (base:=base) T (z_fBg.fo X G) r_fAf y;have r_fBb:=ok_fBb (P:=l.prog) (w:=w) (base:=base) T (z_fBb.fo X G) r_fAk r_fBa r_fAq r_fAz L r_fAe F;have M:=ok_fBf (P:=l.prog) (w:=w) (base:=base) T (z_fBf.fo X G) r_fAs r_fBx;have g:=ok_fBz (P:=l.prog) (w:=w) (base:=base) T (U.fo X G) u p;have r_fBq:=ok_fBq (P:=l.prog) (w:=w) (base:=base) T (J.fo X G) r_fBg;have r_fBn:=ok_fBn (P:=l.prog) (w:=w) (base:=base) T (V.fo X G) u;have i:=ok_fBy (P:=l.prog) (w:=w) (base:=base) T (R.fo X G) g p;have r_fBd:=ok_fBd (P:=l.prog) (w:=w) (base:=base) T (z_fBd.fo X G) z r_fBq n;have r_fBm:=ok_fBm (P:=l.prog) (w:=w) (base:=base) T (Z.fo X G) r_fBn I;have r_fBt:=ok_fBt (P:=l.prog) (w:=w) (base:=base) T (z_fBt.fo X G) M;have r_fAi:=ok_fAi (P:=l.prog) (w:=w) (base:=base) T (z_fAi.fo X G) i g j r_fAd;have r_fBs:=ok_fBs (P:=l.prog) (w:=w) (base:=base) T (z_fBs.fo X G) r_fAu i g j o;have r_fAa:=ok_fAa (P:=l.prog) (w:=w) (base:=base) T (Y.fo X G) (a▸hBs "all_inner_parts" (by simp)) r_fAw r_fBd n;have r_fBo:=ok_fBo (P:=l.prog) (w:=w) (base:=base) T (Q.fo X G) r_fAi;have r_fAc:=ok_fAc (P:=l.prog) (w:=w) (base:=base) T (z_fAc.fo X G) r_fAa r_fAj r_fBt;have r_fBi:=ok_fBi (P:=l.prog) (w:=w) (base:=base) T (z_fBi.fo X G) i r_fBo r_fAo;have r_fCa:=ok_fCa (P:=l.prog) (w:=w) (base:=base) T (z_fCa.fo X G) r_fBs r_fBi r_fBm;have r_fBp:=ok_fBp (P:=l.prog) (w:=w) (base:=base) T (z_fBp.fo X G) r_fCa r_fAc;exact ok_fCb T (xAtc (st:=s_fCb) z2 z3 z4) r_fBb r_fBc r_fBp
end My
namespace PySem.W.Fast
def tw15342474353703972064:=()
def tw5082155364219460928:=()
def tw11777432591430414912:=()
def tw14095259297920046816:=()
def tw15400202357964191584:=()
def tw5011206810374270880:=()
def tw6465659621014736129:=()
def tw6050878102759848289:=()
def tw15539844720767710721:=()
def tw3985982906974515713:=()
def tw1227496370556675585:=()
def tw13056330248799611553:=()
def tw8042150074482132769:=()
def tw6201707968178719521:=()
def tw4408164229157875585:=()
def tw1950371755363107842:=()
def tw17846310858151990306:=()
def tw11731435252137889890:=()
def tw6006077904157490370:=()
def tw6208614232843161858:=()
def tw707374402621751650:=()
def tw15797856098327727618:=()
def tw17583534117509556802:=()
def tw8491060080905215618:=()
def tw1557531820630333186:=()
def tw7612759962069701442:=()
def tw17154447841808598978:=()
def tw18200792575876814883:=()
def tw4085652934441140259:=()
def tw11420719652465699875:=()
def tw6445991596483069027:=()
def tw8167268423929880675:=()
def tw12003632253905122435:=()
def tw10096284243676052611:=()
def tw126146504665128195:=()
def tw1055028739217705219:=()
def tw2608114834023469347:=()
def tw2047606453925869955:=()
def tw7313332792011926915:=()
def tw172987102151722531:=()
def tw2980700763064714851:=()
def tw1689136504382163587:=()
def tw9945573382645804771:=()
def tw4366693896793181923:=()
def tw11840764937788784547:=()
def tw2706054385505082339:=()
def tw6825274558006792452:=()
def tw14234514017194343844:=()
def tw16177793373137954308:=()
def tw18382058730836336260:=()
def tw4576148278291742372:=()
def tw12238776032746126052:=()
def tw7744740258814849253:=()
def tw11763651702146830693:=()
def tw11385844998761690629:=()
def tw7015912502922793573:=()
def tw15466942170515892869:=()
def tw3584804384695172773:=()
def tw10794995427653537541:=()
def tw5213160867871863685:=()
def tw4059348624947620773:=()
def tw1170943057308384390:=()
def tw12995326644174624006:=()
def tw2009915745193485606:=()
def tw8679614477145730342:=()
def tw5264611375387074086:=()
def tw5937647404476873414:=()
def tw6108126958221627334:=()
def tw17962075062122193894:=()
def tw15727872446933069927:=()
def tw18381568837780698247:=()
def tw17335822272870971911:=()
def tw2323637153282389607:=()
def tw18290225624649386727:=()
def tw12223405843897921351:=()
def tw6590106170317428551:=()
def tw15344594275779918856:=()
def tw2233953680986184200:=()
def tw6652484691841693224:=()
def tw3698025558541137480:=()
def tw4116699182685356776:=()
def tw14812958756470271177:=()
def tw5689092835291225513:=()
def tw393260639110617577:=()
def tw12876230046060768777:=()
def tw16326790948099969577:=()
def tw6657681417601402441:=()
def tw2488845258308188873:=()
def tw4609784606955634473:=()
def tw3786399798129879881:=()
def tw3650672628684003466:=()
def tw5766927304103792842:=()
def tw5969817661487695114:=()
def tw5023684832403756330:=()
def tw17573387061265477962:=()
def tw2657574597365972362:=()
def tw7065729130248155594:=()
def tw14625056025481575114:=()
def tw1922674095138380586:=()
def tw2033914325247087498:=()
def tw4846377858813770730:=()
def tw18099126638371936747:=()
def tw2115242295725042155:=()
def tw11615174071562366571:=()
def tw11213695618479993515:=()
def tw7796805774632930987:=()
def tw8709386373655598795:=()
def tw12128083452934308683:=()
def tw12831018056207346507:=()
def tw7712893137443343307:=()
def tw14449803483452651596:=()
def tw4443211190483672204:=()
def tw16257481904498363820:=()
def tw10954514669865012748:=()
def tw10057628294588452364:=()
def tw6123146697363134220:=()
def tw92094176542977964:=()
def tw14091711906525174893:=()
def tw11878702868338424973:=()
def tw2937396837769378989:=()
def tw7040355986914111949:=()
def tw129428863288708589:=()
def tw16392445603681661517:=()
def tw9463288337588481773:=()
def tw4220821082060976238:=()
def tw11270882642059213998:=()
def tw6167368090901552334:=()
def tw12688795256919436590:=()
def tw298628754701516142:=()
def tw7681036378240071086:=()
def tw14346789575512433134:=()
def tw4762710550673884686:=()
def tw7478819493688314414:=()
def tw1329770985032397390:=()
def tw5936407151253934926:=()
def tw16981112500051897198:=()
def tw8611552273753228270:=()
def tw16270546840082685007:=()
def tw16487874066684860591:=()
def tw2825904944786754927:=()
def tw12065119570463719791:=()
def tw15136235583664380271:=()
def tw7804581267629840783:=()
def tw4885803904030254543:=()
def tw1377494960094602799:=()
def tw2189828422189100591:=()
def tw16170205391896947279:=()
def tw926215417106340591:=()
def tw1152854567438592751:=()
def tw13014314413291165423:=()
def tw958147124713721711:=()
def tw11012277271162266511:=()
def tw14665060204218945552:=()
def tw2407830582072398032:=()
def tw18320229839832569136:=()
def tw1764396684888317232:=()
def tw594674422526560592:=()
def tw6883353201400126864:=()
def tw4031443956319709616:=()
def tw11175391644514519568:=()
def tw3147765027097917040:=()
def tw3399036375335993008:=()
def tw4622633421043383024:=()
def tw2625476776161017584:=()
def tw10232646582074321712:=()
def tw499790317757455248:=()
def tw14539881167512294320:=()
def tw12644193710957567057:=()
def tw17096383451932122193:=()
def tw820286625096629457:=()
def tw7707796293748854993:=()
def tw7013961094944249105:=()
def tw971759885424282993:=()
def tw12150241391741090289:=()
def tw10142431640588746321:=()
def tw12256685087524104817:=()
def tw5631725585003371153:=()
def tw11101492453371588241:=()
def tw2718544969426701009:=()
def tw7949136900145010898:=()
def tw10114824971139081458:=()
def tw6410985683513625938:=()
def tw460448745577142642:=()
def tw7068611764268870098:=()
def tw18190963955050065362:=()
def tw13547046121985542738:=()
def tw10693246211951316594:=()
def tw9243757445782373170:=()
def tw6882585672871417810:=()
def tw9124534453553156050:=()
def tw13918165810943004819:=()
def tw1308123146799137075:=()
def tw2309325199349137971:=()
def tw10989915465849315923:=()
def tw13785158157428858515:=()
def tw8683362868989205139:=()
def tw8720821031796224755:=()
def tw2854097139691752275:=()
def tw16221212963766994867:=()
def tw10951186692607206580:=()
def tw4579072776004572372:=()
def tw5258714004502855924:=()
def tw9167398135643255156:=()
def tw8573878401093873044:=()
def tw13543580711313573268:=()
def tw985770081200245300:=()
def tw16024581190484952724:=()
def tw3627350144488732500:=()
def tw15963963225531311157:=()
def tw5281904001049596021:=()
def tw13723687090161702197:=()
def tw14592945557450707285:=()
def tw10132679304429149557:=()
def tw9784470881680238005:=()
def tw13547078761126386101:=()
def tw5114060021268107829:=()
def tw15959221890586722901:=()
def tw4351437744319091317:=()
def tw11596928457476596437:=()
def tw1264546165874071285:=()
def tw13416929858172995445:=()
def tw11995902195156972469:=()
def tw6771664740459320245:=()
def tw18173545052054979541:=()
def tw17893345233640672245:=()
def tw9416342168711632950:=()
def tw2190951498633273558:=()
def tw11753324528003438998:=()
def tw18335942868524884470:=()
def tw15334657651634192886:=()
def tw12532935165180892758:=()
def tw9086155666093789782:=()
def tw1241454979378196182:=()
def tw8863448205173074806:=()
def tw3546201537317438390:=()
def tw12769498718370039798:=()
def tw15980149948324533463:=()
def tw15016410838547424471:=()
def tw15176789335826067095:=()
def tw4201800732015966967:=()
def tw3690876797710889815:=()
def tw15854940055238721624:=()
def tw10117608030195715448:=()
def tw11632622179354088984:=()
def tw14454937970118756920:=()
def tw1640705062771762840:=()
def tw5625634965681768120:=()
def tw8867113114020081368:=()
def tw10605804479992350552:=()
def tw9947031304645968888:=()
def tw6192458785718290424:=()
def tw11148895516101509209:=()
def tw16589014148440066457:=()
def tw6519190353129861689:=()
def tw5582191565421427705:=()
def tw13355877332550655993:=()
def tw12682678200688319546:=()
def tw15914202558198175834:=()
def tw820870365680192634:=()
def tw5945309711120365754:=()
def tw17758900230163110170:=()
def tw7289081235235976474:=()
def tw14018374025931390266:=()
def tw1997483284009213306:=()
def tw5635035513231637914:=()
def tw3635032333179429306:=()
def tw8774132153619936826:=()
def tw14719367905119991418:=()
def tw9160403270221996730:=()
def tw10690524511685026746:=()
def tw17672663914719691835:=()
def tw2372818076094358619:=()
def tw1776559116715386043:=()
def tw17838210236573827483:=()
def tw3073249420633418267:=()
def tw7578336175961359931:=()
def tw16333931264978467547:=()
def tw15815063743761405947:=()
def tw10873550785412700155:=()
def tw2629914732143901756:=()
def tw6761727602551093308:=()
def tw14621842392555508060:=()
def tw2155931258599862652:=()
def tw13216394377331413468:=()
def tw13833994076471628348:=()
def tw16038747733968527996:=()
def tw4711882109616934524:=()
def tw12775870470501579420:=()
def tw9109267502424471548:=()
def tw17768929064846957629:=()
def tw8686233801041268893:=()
def tw6537020756348471517:=()
def tw9609188621569719613:=()
def tw8089807885565292893:=()
def tw7074204277904073053:=()
def tw7859745749347904061:=()
def tw2114328658614484637:=()
def tw12922171452963711709:=()
def tw12289087357898795869:=()
def tw6859572586790627261:=()
def tw2405702362907379774:=()
def tw13879241883625470334:=()
def tw538741774116710846:=()
def tw14266264301710762718:=()
def tw5819417962260912894:=()
def tw10737874423323608862:=()
def tw3173865299617693566:=()
def tw13249043575024096126:=()
def tw3388224165666528158:=()
def tw16431432714092629982:=()
def tw6049927679262678367:=()
def tw17322388918003387871:=()
def tw12972549476646741471:=()
def tw15717000072523414239:=()
def tw16142740596649786175:=()
def tw8214721835114764287:=()
def tw9064643264665161955:=()
end PySem.W.Fast
open PySem PySem.W PyProof.Rows
set_option maxRecDepth 100000 in
set_option maxHeartbeats 0 in
theorem PySem.Challenge.cw_pagefolk_k45_texts_of_signs_holds : PySem.Challenge.rw_pagefolk_k45_texts_of_signs.Holds := by
 w_on;o_law;k_head;(case hw=>w_witness2)
 k_fill
 refine L2.walk_ofQ (l:=PySem.Challenge.rw_pagefolk_k45_texts_of_signs) (n:=63) (k:=12) (x:="_law_script") (CX:=L2.CX0) (sp:=My.sp5_law) (Ps:=[My.t_greatest_place,My.t_all_inner_parts]) My.TSL My.MS My.tbA rfl (by decide) rfl ⟨rfl,by decide,by decide,rfl⟩ (fun w h Y=>PySem.W.km_in_of Y) (fun w h Y=>PySem.W.km_tabs_of Y) ?hC ?hnt ?hnl ?htb ?htp ?hms (by decide) ?F My.law_specq (fun _ _ _ _ z=>z)
 case hC=>exact fun w=>List.forall_mem_cons.mpr ⟨⟨"greatest_place",by simp,by kernel_rfl⟩,List.forall_mem_cons.mpr ⟨⟨"all_inner_parts",by simp,by kernel_rfl⟩,fun _ h=>nomatch h⟩⟩
 case htb=>(intro w;exact jf.mpr ⟨by kernel_rfl,jf.mpr ⟨by kernel_rfl,fun _ h=>nomatch h⟩⟩)
 case htp=>(intro w;exact jf.mpr ⟨(by refine me ?_;kernel_rfl),jf.mpr ⟨(by refine me ?_;kernel_rfl),fun _ h=>nomatch h⟩⟩)
 case hms=>(intro w;kernel_rfl)
 case hnt=>(intro w;kernel_rfl)
 case hnl=>(intro w;kernel_rfl)
 case F =>
  intro w mg fa h KX G hmg;refine' My.all_mk KX G hmg ?_ ?_ ?_ ?_ ?_ ?_ ?_ ?_ ?_ ?_ ?_ ?_ ?_ ?_ ?_ ?_ ?_ ?_ ?_ ?_ ?_ ?_ ?_ ?_ ?_ ?_ ?_ ?_ ?_ ?_ ?_ ?_ ?_ ?_ ?_ ?_ ?_ ?_ ?_ ?_ ?_ ?_ ?_ ?_ ?_ ?_ ?_ ?_ ?_ ?_ ?_ ?_ ?_ ?_ ?_ ?_ ?_ ?_ ?_ ?_ ?_ ?_ ?_ ?_ ?_ ?_ ?_
  all_goals try first|k_is|(refine' L2.FX.mk ?z1 ?z2 ?z3 ?z4;(case z1=>k_is);(case z2=>k_is);(case z3=>k_is);(case z4=>k_is))|(refine' L2.MD.mk ?z1 ?z2;(case z1=>k_is);(case z2=>kernel_rfl))|kernel_rfl|(refine' L2.FXD.mk ?z1 ?z2 ?z3 ?z4 ?z5;(case z1=>k_is);(case z2=>k_is);(case z3=>k_is);(case z4=>k_is);(case z5=>k_is))|(refine' L2.FL.mk ?z1 ?z2 ?z3 ?z4 ?z5;(case z1=>k_is);(case z2=>k_is);(case z3=>k_is);(case z4=>k_is);(case z5=>kernel_rfl))