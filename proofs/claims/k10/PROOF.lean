import PyProof.Rows.All
import Wide.All
import OpenK.AllK
import Wide.FinOn
import Lean
import PyProof.EqAt
import PyProof.EqKinds
import PyProof.TupleCall
import KE.KSortTup
import KE.KDictOf
import PyProof.AttrMissHeap
import KE.KSortKey
import KE.KEqDict
import KE.KNestM
import KE.KLam
import KE.KBoundM
import KE.KSuperObj
import PySem.Challenge.RW_pagefolk_k10_whole_any_words
set_option Elab.async false
set_option linter.all false
set_option maxRecDepth 100000
def qc:=@List.length_map
def qd:=@Nat.le_refl
def qf:=@Nat.le_trans
def qg:=@Nat.le_of_lt
def qi:=@Nat.ne_of_lt
def qj:=@List.getElem?_eq_getElem
def qk:=@List.mem_cons_of_mem
def ql:=@List.length_append
def qm:=@List.mem_cons_self
def qo:=@List.map_cons
def qp:=@Nat.le_of_ble_eq_true
def qr:=@Bool.and_eq_true
def qu:=@List.mem_map
def qw:=@List.mem_cons
def qx:=@Bool.false_ne_true
def qy:=@List.length_cons
def qz:=@List.mem_of_getElem?
def q0:=@List.mem_append
def zd:=@List.mem_singleton
def ze:=@Nat.lt_of_lt_of_le
def zf:=@List.getElem?_eq_some_iff
def zg:=@List.all_eq_true
def zh:=@List.getElem?_map
def zi:=@List.size_toArray
def zj:=@Array.getElem?_eq_getElem
def zk:=@Bool.eq_false_iff
def zm:=@List.length_singleton
def zo:=@List.map_append
def zq:=@Nat.ne_of_gt
def zr:=@List.mem_append_right
def zt:=@Bool.true_and
def zu:=@Nat.lt_irrefl
def zv:=@List.nodup_cons
def zw:=@List.length_take
def zx:=@Array.length_toList
def zy:=@List.map_map
def wb:=@List.length_drop
def wc:=@Array.getElem?_toList
def we:=@List.getD_eq_getElem?_getD
def wf:=@Bool.false_and
def wg:=@List.length_set
def wk:=@List.all_map
def wm:=@List.mem_iff_getElem
def wq:=@List.mem_range
def wu:=@List.take_of_length_le
def ww:=@List.take_length
def wx:=@Array.getElem?_eq_some_iff
def wy:=@Nat.lt_trans
def w5:=@Nat.zero_le
def w6:=@Nat.lt_succ_of_lt
def va:=@List.cons_ne_nil
def vd:=@Array.toList_append
def vf:=@List.mem_append_left
def vg:=@List.replicate_succ
def vh:=@List.take_add_one
def vi:=@Nat.lt_add_of_pos_right
def vj:=@Nat.add_lt_add_left
def vk:=@List.getElem?_set_ne
def vm:=@List.append_nil
def vn:=@List.nodup_nil
def vo:=@Nat.lt_succ_self
def vp:=@Array.getD_eq_getD_getElem?
def vq:=@List.filterMap_cons
def vt:=@Bool.eq_iff_iff
def vy:=@List.any_cons
def vz:=@List.drop_zero
def v0:=@List.map_set
def ya:=@List.getElem?_toArray
def yb:=@Nat.mod_lt
def yc:=@List.getElem?_replicate
def yd:=@List.flatten_cons
def ye:=@List.foldl_cons
def yf:=@Option.map_eq_some_iff
def yg:=@List.getElem_mem
def yh:=@List.getElem?_append_left
def yi:=@List.mem_of_mem_drop
def yj:=@Nat.lt_add_right
def yk:=@Nat.zero_add
def ym:=@Nat.succ_pos
def yn:=@Nat.not_lt_zero
def yo:=@List.getElem_of_mem
def yq:=@List.mem_of_find?_eq_some
def yt:=@List.getElem?_set_self
def yu:=@List.mem_filterMap
def yv:=@Nat.add_comm
def yw:=@Option.map_some
def yx:=@List.length_nil
def yy:=@Nat.lt_of_le_of_lt
def yz:=@List.length_range
def y0:=@List.mem_or_eq_of_mem_set
def y7:=@Nat.min_eq_left
def y8:=@List.mem_of_mem_take
def ja:=@List.map_drop
def jb:=@List.map_congr_left
def jc:=@Nat.le_add_right
def jd:=@List.getElem?_cons_succ
def je:=@List.find?_map
def jf:=@Option.map_map
def jg:=@List.of_mem_zip
def jh:=@Option.isSome_iff_exists
def ji:=@List.filterMap_map
def jj:=@Bool.false_or
def jk:=@Nat.le_of_not_lt
def jm:=@List.lookup_cons
def jn:=@List.any_eq_true
def jo:=@List.getElem?_append_right
def jp:=@List.map_take
def jq:=@Array.forIn_toList
def jr:=@Nat.add_zero
def js:=@Nat.add_assoc
def jt:=@List.find?_some
def ju:=@Option.getD_some
def jv:=@List.find?_cons
def jw:=@Bool.or_eq_true
def jx:=@Array.append_assoc
def jy:=@List.length_replicate
def jz:=@Option.isSome_map
def j1:=@Array.size_append
def j2:=@List.getElem_toArray
def j3:=@List.getElem?_range
def j4:=@Nat.length_repr_le_iff
def j5:=@List.find?_eq_none
def j6:=@Array.getElem?_eq_none
def j7:=@List.perm_append_singleton
def j8:=@Nat.lt_trichotomy
def j9:=@Nat.lt_of_le_of_ne
def gb:=@Array.getElem?_setIfInBounds
def gc:=@List.ext_getElem?
def gd:=@List.filterMap_cons_some
def ge:=@Array.toList_filterMap
def gf:=@Option.bind_eq_some_iff
def gg:=@Nat.add_sub_cancel
def gh:=@List.drop_succ_cons
def gi:=@List.getElem?_eq_none
def gj:=@Bool.beq_eq_decide_eq
namespace L2
open PySem PySem.Spec PyProof.Rows
abbrev Key:=Sum Int Str
def keyIs:Key->Value->Bool
 |.inl k,v=>Value.isInt k v
 |.inr x,v=>Value.isStrOf x v
def keyH(w:World):Key->Int
 |.inl k=>hashInt k
 |.inr x=>hashStr w x
theorem xAax:∀{k:Key} {v:Value},keyIs k v=true->(∃i t,k=Sum.inl i/\v=Value.int i t)\/(∃x t,k=Sum.inr x/\v=Value.str x t)
 |.inl i,v,h=>by
  obtain⟨t,e⟩:=Value.isInt_shape (k:=i) (v:=v) h;exact .inl ⟨i,t,rfl,e⟩
 |.inr x,v,h=>by
  obtain⟨t,e⟩:=Value.isStrOf_shape (x:=x) (v:=v) h;exact .inr ⟨x,t,rfl,e⟩
theorem xAkt(i:Int)(t:Tok):keyIs (.inl i) (.int i t)=true:=by simp[keyIs,Value.isInt]
theorem xAef(x:Str)(t:Tok):keyIs (.inr x) (.str x t)=true:=by simp[keyIs,Value.isStrOf]
theorem key_ll(a b:Int):decide ((Sum.inl a:Key)=Sum.inl b)=(a==b):=by
 by_cases e:a=b
 ·subst e;simp
 ·have h:¬(Sum.inl a:Key)=Sum.inl b:=fun q=>e (Sum.inl.inj q)
  rw[decide_eq_false h];exact(beq_eq_false_iff_ne.mpr e).symm
theorem key_rr(a b:Str):decide ((Sum.inr a:Key)=Sum.inr b)=decide (a=b):=by
 by_cases e:a=b
 ·subst e;simp
 ·have h:¬(Sum.inr a:Key)=Sum.inr b:=fun q=>e (Sum.inr.inj q)
  rw[decide_eq_false h,decide_eq_false e]
theorem key_lr(a:Int)(b:Str):decide ((Sum.inl a:Key)=Sum.inr b)=false:=decide_eq_false (fun q=>nomatch q)
theorem key_rl(a:Str)(b:Int):decide ((Sum.inr a:Key)=Sum.inl b)=false:=decide_eq_false (fun q=>nomatch q)
def mixKind(prog:Program)(w:World):PySem.KeyKind prog w Key where
 is:=keyIs
 hash:=keyH w
 inj:=fun v a b ha hb=>by
  rcases xAax ha with⟨i,t,rfl,rfl⟩|⟨x,t,rfl,rfl⟩
  ·rcases xAax hb with⟨j,u,rfl,e⟩|⟨y,u,rfl,e⟩
   ·injection e with e1 _;rw[e1]
   ·exact nomatch e
  ·rcases xAax hb with⟨j,u,rfl,e⟩|⟨y,u,rfl,e⟩
   ·exact nomatch e
   ·injection e with e1 _;rw[e1]
 byValue:=fun k v h=>by
  rcases xAax h with⟨i,t,rfl,rfl⟩|⟨x,t,rfl,rfl⟩ <;> rfl
 pyHash:=fun hv h=>by
  rcases xAax hv with⟨i,t,rfl,rfl⟩|⟨x,t,rfl,rfl⟩
  ·exact wpAny_pyHash_int h
  ·exact wpAny_pyHash_str h
 eqBool:=fun hu hv h=>by
  rcases xAax hu with⟨i,t,rfl,rfl⟩|⟨x,t,rfl,rfl⟩
  ·rcases xAax hv with⟨j,u,rfl,rfl⟩|⟨y,u,rfl,rfl⟩
   ·rw[key_ll]at h;exact wpAny_eqBool_int h
   ·rw[key_lr]at h;exact SeqAt.EqAt.int_str i t y u _ _ _ _ h
  ·rcases xAax hv with⟨j,u,rfl,rfl⟩|⟨y,u,rfl,rfl⟩
   ·rw[key_rl]at h;exact SeqAt.EqAt.str_int x t j u _ _ _ _ h
   ·rw[key_rr]at h;exact wpAny_eqBool_str h
 «strs»:=fun k x t v h=>by
  rcases xAax h with⟨i,u,rfl,e⟩|⟨y,u,rfl,e⟩
  ·exact nomatch e
  ·injection e with e1 _
   subst e1;cases v <;> rfl
theorem xAhm(prog:Program)(w:World)(i:Int)(t:Tok):(mixKind prog w).is (.inl i) (.int i t)=true:=xAkt i t
theorem xAhn(prog:Program)(w:World)(x:Str)(t:Tok):(mixKind prog w).is (.inr x) (.str x t)=true:=xAef x t
inductive V where
 |non|bl (b:Bool)|int (i:Int)|str (x:Str)|byt (b:Array UInt8)|flt (b:UInt64)|ref (a:Addr)|ty (n:String)
 deriving DecidableEq
def RelV:V->Value->Prop
 |.non,u=>u=Value.none
 |.bl b,u=>u=Value.bool b
 |.int i,u=>∃t,u=Value.int i t
 |.str x,u=>∃t,u=Value.str x t
 |.byt b,u=>∃t,u=Value.bytes b t
 |.flt b,u=>∃t,u=Value.float b t
 |.ref a,u=>u=Value.ref a
 |.ty n,u=>u=Value.type n
abbrev Vals:List V->List Value->Prop:=Paired RelV
theorem Vals.length{xs:List V}{us:List Value}(r:Vals xs us):xs.length=us.length:=Paired.length r
theorem Vals.get:∀{xs:List V} {us:List Value} {i:Nat} {x:V},Vals xs us->xs[i]?=some x->∃u,us[i]?=some u/\RelV x u
 |_,_,_,_,.nil,e=>by simp at e
 |_,_,0,_,.cons r _,e=>by simp at e;subst e;exact⟨_,rfl,r⟩
 |_,_,i+1,x,.cons _ t,e=>by
  obtain⟨u,h1,h2⟩:=Vals.get (i:=i) (x:=x) t (by simpa using e);exact⟨u,by simpa using h1,h2⟩
theorem Vals.set{x:V}{u:Value}(r:RelV x u):∀{xs:List V} {us:List Value} (i:Nat),Vals xs us->Vals (xs.set i x) (us.set i u)
 |_,_,_,.nil=>.nil
 |_,_,0,.cons _ t=>.cons r t
 |_,_,i+1,.cons q t=>.cons q (Vals.set r i t)
theorem Vals.append:∀{xs ys:List V} {us ws:List Value},Vals xs us->Vals ys ws->Vals (xs++ys) (us++ws)
 |_,_,_,_,.nil,s=>s
 |_,_,_,_,.cons r t,s=>.cons r (Vals.append t s)
theorem Vals.take:∀{xs:List V} {us:List Value} (n:Nat),Vals xs us->Vals (xs.take n) (us.take n)
 |_,_,0,_=>.nil
 |_,_,_+1,.nil=>.nil
 |_,_,n+1,.cons r t=>.cons r (Vals.take n t)
theorem Vals.drop:∀{xs:List V} {us:List Value} (n:Nat),Vals xs us->Vals (xs.drop n) (us.drop n)
 |_,_,0,r=>r
 |_,_,_+1,.nil=>.nil
 |_,_,n+1,.cons _ t=>Vals.drop n t
def RelO:Option V->Option Value->Prop
 |some v,some u=>RelV v u
 |none,none=>True
 |_,_=>False
def KV{κ:Type}:List (κ×V)->List (κ×Value)->Prop:=Paired fun(p:κ×V) (q:κ×Value)=>p.1=q.1/\RelV p.2 q.2
def kV:Key->V
 |.inl i=>.int i
 |.inr x=>.str x
inductive KD where
 |non
 |int (i:Int)
 |tup (ks:List Key)
 |two (ks ls:List Key)
deriving DecidableEq
def gHash(P:Program)(w:World):KD->Int
 |.non=>4238894112
 |.int i=>hashInt i
 |.tup ks=>(tupleKind (mixKind P w)).hash ks
 |.two ks ls=>reduceHash (Builtin.Tuple.tupleHashOf [(tupleKind (mixKind P w)).hash ks,(tupleKind (mixKind P w)).hash ls])
def gEnt(P:Program)(w:World)(x:KD×Value×Value):DictEntry:=⟨gHash P w x.1,x.2.1,x.2.2⟩
inductive HO where
 |lst (xs:List V)
 |tup (xs:List V)
 |dK (kvs:List (Key×V))|dT (kvs:List (List Key×V))
 |dG (kvs:List (KD×V×V))
 |set (S:Int->Bool) (n:Nat)
 |ins (C dx:Addr) (fs:List (Str×V))
 |own (x:Addr)
 |xd (fs:List (Str×V))
 |met (f x:Addr)
 |rng (lo hi:Int)
 |frz (o:Obj) (u:HO)
 |tbl (ps:Array Value)
 |ext (φ:Heap->Prop)
abbrev Hp:=Addr->Option HO
def GK(H:Hp):KD->V->Prop
 |.non,v=>v=.non
 |.int i,v=>v=.int i
 |.tup ks,v=>∃b,v=.ref b/\H b=some (.tup (ks.map kV))
 |.two ks ls,v=>∃b c d,v=.ref b/\H b=some (.tup [.ref c,.ref d])/\H c=some (.tup (ks.map kV))/\H d=some (.tup (ls.map kV))
def upd(H:Hp)(a:Addr)(o:HO):Hp:=fun b=>if b=a then some o else H b
theorem xAaf{H:Hp}{a:Addr}{o:HO}:upd H a o a=some o:=by unfold upd;rw[if_pos rfl]
theorem xAal{H:Hp}{a b:Addr}{o:HO}(h:b≠a):upd H a o b=H b:=by unfold upd;rw[if_neg h]
theorem ne_of{H:Hp}{a b:Addr}{o u:HO}(h:H a=some o)(h':H b=some u)(d:o≠u):a≠b:=by
 intro e;subst e;rw[h]at h';exact d (Option.some.inj h')
theorem xAaj{H:Hp}{a b:Addr}{o:HO}(h:H a=some o)(h':H b=none):a≠b:=by
 intro e;subst e;rw[h]at h';cases h'
section
variable (P:Program)(w:World)
def ObjOk(H:Hp)(h:Heap)(a:Addr):HO->Prop
 |.lst xs=>xs.length≤sizeLine/\∃(its:List Value) (n:Nat),Vals xs its/\h.get? a=some { cls:=.type "list",data:=.seq its.toArray n }
 |.tup xs=>xs.length≤sizeLine/\∃its:List Value,Vals xs its/\IsTup h a its.toArray
 |.dK kvs=>kvs.length≤sizeLine/\(a==sysModules)=false/\∃vs,KV kvs vs/\h.DictOf (mixKind P w) a vs
 |.dT kvs=>kvs.length≤sizeLine/\(a==sysModules)=false/\∃xs:List (List Key×Addr×Value),
   Paired (fun(p:List Key×V) (q:List Key×Addr×Value)=>p.1=q.1/\H q.2.1=some (.tup (p.1.map kV))/\RelV p.2 q.2.2) kvs xs ∧
   ∃o es ep,h.get? a=some o/\o.ExactDict/\o.data=.dict es ep/\es.toList=xs.map (entryOfKey (tupleKind (mixKind P w)))/\(xs.map (·.1)).Nodup
 |.dG kvs=>kvs.length≤sizeLine/\(a==sysModules)=false/\∃xs:List (KD×Value×Value),
   Paired (fun(p:KD×V×V) (q:KD×Value×Value)=>p.1=q.1/\GK H p.1 p.2.1/\RelV p.2.1 q.2.1/\RelV p.2.2 q.2.2) kvs xs ∧
   ∃o es ep,h.get? a=some o/\o.ExactDict/\o.data=.dict es ep/\es.toList=xs.map (gEnt P w)/\(xs.map (·.1)).Nodup
 |.set S n=>h.SetOf (intKind P w) a S n
 |.ins C dx fs=>H dx=some (.own a)/\fs.length≤1000/\dx≠a/\h.get? a=some (PySem.W.instObj C dx) ∧
   ∃mA,h.Ns1 dx mA/\(∀f,RelO (fs.lookup f) (mA f))/\PySem.Within mA (fs.map (·.1))
 |.own _=>∃o,h.get? a=some o
 |.xd fs=>∃mA,h.Ns1 a mA/\∀f,RelO (fs.lookup f) (mA f)
 |.rng lo hi=>∃t u v,h.get? a=some { cls:=.type "range",data:=.fields #[.int lo t,.int hi u,.int 1 v] }
 |.frz o u=>h.get? a=some o/\ObjOk H h a u
 |.tbl ps=>h.get? a=some { cls:=.none,data:=.fields ps }
 |.met f x=>h.get? a=some (PySem.W.methodObj (.ref f) (.ref x))
 |.ext φ=>φ h/\(∃o,h.get? a=some o)/\∀h1 h2:Heap,φ h1->(∀o,h1.get? a=some o->h2.get? a=some o)->φ h2
def HOk(H:Hp)(h:Heap):Prop:=∀a o,H a=some o->ObjOk P w H h a o
end
section
variable {P:Program}{w:World}{H H':Hp}{h h':Heap}{a:Addr}{o:HO}
theorem ObjOk.lt(x:ObjOk P w H h a o):a<h.objs.size:=by
 cases o with
 |lst xs=>obtain⟨_,_,_,_,e⟩:=x;exact Heap.lt_size e
 |tup xs=>obtain⟨_,_,_,p⟩:=x;exact p.lt
 |dK kvs=>obtain⟨_,_,_,_,o,_,_,e,_⟩:=x;exact Heap.lt_size e
 |dT kvs=>obtain⟨_,_,_,_,o,_,_,e,_⟩:=x;exact Heap.lt_size e
 |dG kvs=>obtain⟨_,_,_,_,o,_,_,e,_⟩:=x;exact Heap.lt_size e
 |set S n=>obtain⟨o,_,_,_,e,_⟩:=x;exact Heap.lt_size e
 |ins C dx fs=>obtain⟨_,_,_,e,_⟩:=x;exact Heap.lt_size e
 |own y=>obtain⟨_,e⟩:=x;exact Heap.lt_size e
 |xd fs=>obtain⟨_,⟨_,_,_,e,_⟩,_⟩:=x;exact Heap.lt_size e
 |rng lo hi=>obtain⟨_,_,_,e⟩:=x;exact Heap.lt_size e
 |frz ob u=>obtain⟨e,_⟩:=x;exact Heap.lt_size e
 |tbl ps=>exact Heap.lt_size (show h.get? a=some _ from x)
 |met f y=>exact Heap.lt_size (show h.get? a=some _ from x)
 |ext φ=>obtain⟨_,⟨_,e⟩,_⟩:=x;exact Heap.lt_size e
theorem Paired.mapP{α β:Type}{F G:α->β->Prop}:∀{l₁:List α} {l₂:List β},Paired F l₁ l₂->(∀a b,F a b->G a b)->Paired G l₁ l₂
 |_,_,.nil,_=>.nil
 |_,_,.cons r t,f=>.cons (f _ _ r) (Paired.mapP t f)
theorem GK.stay{H H':Hp}{k:KD}{v:V}(g:GK H k v)(ht:∀b xs,H b=some (.tup xs)->H' b=some (.tup xs)):GK H' k v:=by
 cases k with
 |non=>exact g
 |int i=>exact g
 |tup ks=>obtain⟨b,e,h⟩:=g;exact⟨b,e,ht _ _ h⟩
 |two ks ls=>obtain⟨b,c,d,e,h1,h2,h3⟩:=g;exact⟨b,c,d,e,ht _ _ h1,ht _ _ h2,ht _ _ h3⟩
theorem ObjOk.stay(x:ObjOk P w H h a o)(k:∀b u,(b=a\/H b=some (.own a))->h.get? b=some u->h'.get? b=some u)(ho:∀b,H b=some (.own a)->H' b=some (.own a))(ht:∀b xs,H b=some (.tup xs)->H' b=some (.tup xs)):ObjOk P w H' h' a o:=by
 induction o with
 |lst xs=>obtain⟨z,its,n,r,e⟩:=x;exact⟨z,its,n,r,k _ _ (.inl rfl) e⟩
 |tup xs=>obtain⟨z,its,r,ob,e,c⟩:=x;exact⟨z,its,r,ob,k _ _ (.inl rfl) e,c⟩
 |dK kvs=>obtain⟨z,y,vs,r,ob,es,ep,e,c⟩:=x;exact⟨z,y,vs,r,ob,es,ep,k _ _ (.inl rfl) e,c⟩
 |dT kvs =>
  obtain⟨z,y,xs,r,ob,es,ep,e,c⟩:=x;exact⟨z,y,xs,Paired.mapP r fun p q z=>⟨z.1,ht _ _ z.2.1,z.2.2⟩,ob,es,ep,k _ _ (.inl rfl) e,c⟩
 |dG kvs =>
  obtain⟨z,y,xs,r,ob,es,ep,e,c⟩:=x;exact⟨z,y,xs,Paired.mapP r fun p q z=>⟨z.1,z.2.1.stay ht,z.2.2⟩,ob,es,ep,k _ _ (.inl rfl) e,c⟩
 |set S n=>obtain⟨ob,es,ep,t,e,c⟩:=x;exact⟨ob,es,ep,t,k _ _ (.inl rfl) e,c⟩
 |ins C dx fs =>
  obtain⟨d,z,ne,e,mA,⟨od,es,ep,e2,c⟩,r⟩:=x;exact⟨ho _ d,z,ne,k _ _ (.inl rfl) e,mA,⟨od,es,ep,k _ _ (.inr d) e2,c⟩,r⟩
 |own y=>obtain⟨ob,e⟩:=x;exact⟨ob,k _ _ (.inl rfl) e⟩
 |xd fs=>obtain⟨mA,⟨od,es,ep,e,c⟩,r⟩:=x;exact⟨mA,⟨od,es,ep,k _ _ (.inl rfl) e,c⟩,r⟩
 |rng lo hi=>obtain⟨t,u,v,e⟩:=x;exact⟨t,u,v,k _ _ (.inl rfl) e⟩
 |frz ob u ih=>obtain⟨e,q⟩:=x;exact⟨k _ _ (.inl rfl) e,ih q⟩
 |tbl ps =>
  have e:h.get? a=some { cls:=.none,data:=.fields ps }:=x;show h'.get? a=some { cls:=.none,data:=.fields ps };exact k a _ (.inl rfl) e
 |met f y =>
  have e:h.get? a=some (PySem.W.methodObj (.ref f) (.ref y)):=x;show h'.get? a=some (PySem.W.methodObj (.ref f) (.ref y));exact k a _ (.inl rfl) e
 |ext φ=>obtain⟨p,⟨o,e⟩,st⟩:=x;exact⟨st _ _ p fun o q=>k _ _ (.inl rfl) q,⟨o,k _ _ (.inl rfl) e⟩,st⟩
theorem HOk.lt(x:HOk P w H h)(e:H a=some o):a<h.objs.size:=(x a o e).lt
theorem HOk.fresh(x:HOk P w H h)(e:h.objs.size≤a):H a=none:=by
 cases q:H a with
 |none=>rfl
 |some u=>exact absurd (ze (x.lt q) e) (zu _)
theorem HOk.kept(x:HOk P w H h)(k:∀b u,h.get? b=some u->h'.get? b=some u):HOk P w H h':=fun a o e =>
 (x a o e).stay (fun b u _ q=>k b u q) (fun _ q=>q) fun _ _ q=>q
theorem HOk.laid(x:HOk P w H h)(k:∀b u,h.get? b=some u->h'.get? b=some u)(hp:h.objs.size≤a)(new:ObjOk P w (upd H a o) h' a o):HOk P w (upd H a o) h':=fun b u e=>by
 have hn:=x.fresh hp
 by_cases hb:b=a
 ·subst hb;rw[xAaf]at e;cases e;exact new
 ·rw[xAal hb]at e
  exact(x b u e).stay (fun c v _ q=>k c v q) (fun c q=>by rw[xAal (xAaj q hn)];exact q) fun c xs q=>by rw[xAal (xAaj q hn)];exact q
end
def Rd(H:Hp)(a:Addr)(u:HO):Prop:=H a=some u\/∃o,H a=some (.frz o u)
theorem Rd.ok{P:Program}{w:World}{H:Hp}{h:Heap}{a:Addr}{u:HO}(r:Rd H a u)(x:HOk P w H h):ObjOk P w H h a u:=by
 rcases r with r|⟨o,r⟩
 ·exact x a u r
 ·obtain⟨_,q⟩:=x a _ r
  exact q
def Mut:Option HO->Prop
 |some (.lst _)=>True
 |some (.dK _)=>True
 |some (.dT _)=>True
 |some (.dG _)=>True
 |some (.set _ _)=>True
 |some (.ins _ _ _)=>True
 |some (.ext _)=>True
 |_=>False
section
variable {P:Program}{w:World}{H:Hp}{h h':Heap}{x e:Addr}{o':HO}
theorem HOk.write(ok:HOk P w H h)(mu:Mut (H x))(he:e=x\/H e=some (.own x))(k:∀b u,b≠e->h.get? b=some u->h'.get? b=some u)(heo:∃u,h'.get? e=some u)(new:ObjOk P w (upd H x o') h' x o'):HOk P w (upd H x o') h':=fun b u q=>by
 have nown:∀c y,H c=some (.own y)->c≠x:=fun c y r z=>by subst z;rw[r]at mu;exact mu
 have ntup:∀c xs,H c=some (.tup xs)->c≠x:=fun c xs r z=>by subst z;rw[r]at mu;exact mu
 by_cases hb:b=x
 ·subst hb;rw[xAaf]at q;cases q;exact new
 ·rw[xAal hb]at q
  by_cases hbe:b=e
  ·have q':H b=some (.own x):=by
    rcases he with z|z
    ·exact absurd (hbe.trans z) hb
    ·rw[hbe];exact z
   rw[q]at q';cases q';obtain⟨v,hv⟩:=heo;exact⟨v,by rw[hbe];exact hv⟩
  ·refine(ok b u q).stay (fun c v hc r=>k c v ?_ r) (fun c r=>by rw[xAal (nown c b r)];exact r) fun c xs r=>by rw[xAal (ntup c xs r)];exact r
   rcases hc with rfl|hc
   ·exact hbe
   ·rintro rfl
    rcases he with z|z
    ·exact nown c b hc z
    ·rw[hc]at z;cases z;exact hb rfl
end
structure Un(fs ex:List Addr)(H H':Hp)(h h':Heap):Prop where
 keep:∀b o,h.get? b=some o->H b=none->b∉fs->b∉ex->h'.get? b=some o
 slot:∀b o,h.get? b=some o->H b=none->b∈fs->b∉ex->∃sl,h'.get? b=some { o with slots:=sl }
 free:∀b o,h.get? b=some o->H b=none->b∉ex->H' b=none
 there:∀b o,h.get? b=some o->b∉ex->∃o',h'.get? b=some o'
 tups:∀b xs,H b=some (.tup xs)->H' b=some (.tup xs)
 frzs:∀b o u,H b=some (.frz o u)->H' b=some (.frz o u)
 tbls:∀b ps,H b=some (.tbl ps)->∃more,H' b=some (.tbl (ps++more))
 tupo:∀b o xs,h.get? b=some o->H b=some (.tup xs)->h'.get? b=some o
section
variable {fs fs' ex ex':List Addr}{H H1 H2:Hp}{h h1 h2 h':Heap}{a x e:Addr}{o:HO}
theorem Un.any(u:Un fs ex H H1 h h1){b:Addr}{ob:Obj}(q:h.get? b=some ob)(n:H b=none)(hx:b∉ex):∃sl,h1.get? b=some { ob with slots:=sl }:=by
 by_cases hb:b∈fs
 ·exact u.slot b ob q n hb hx
 ·exact⟨ob.slots,u.keep b ob q n hb hx⟩
theorem Un.trans(a:Un fs ex H H1 h h1)(b:Un fs ex H1 H2 h1 h2):Un fs ex H H2 h h2 where
 keep:=fun c ob q n hc hx=>b.keep c ob (a.keep c ob q n hc hx) (a.free c ob q n hx) hc hx
 slot:=fun c ob q n hc hx=>by
  obtain⟨sl,e1⟩:=a.slot c ob q n hc hx;obtain⟨sl',e2⟩:=b.slot c _ e1 (a.free c ob q n hx) hc hx;exact⟨sl',e2⟩
 free:=fun c ob q n hx=>by
  obtain⟨o',e1⟩:=a.there c ob q hx;exact b.free c o' e1 (a.free c ob q n hx) hx
 there:=fun c ob q hx=>by
  obtain⟨o',e1⟩:=a.there c ob q hx;exact b.there c o' e1 hx
 tups:=fun c xs q=>b.tups c xs (a.tups c xs q)
 frzs:=fun c ob xs q=>b.frzs c ob xs (a.frzs c ob xs q)
 tbls:=fun c ps q=>by
  obtain⟨m1,e1⟩:=a.tbls c ps q;obtain⟨m2,e2⟩:=b.tbls c _ e1;exact⟨m1++m2,by rw[e2,jx]⟩
 tupo:=fun c ob xs q n=>b.tupo c ob xs (a.tupo c ob xs q n) (a.tups c xs n)
theorem Un.kept(k:∀b u,h.get? b=some u->h'.get? b=some u):Un fs ex H H h h' :=
 ⟨fun b ob q _ _ _=>k b ob q,fun b ob q _ _ _=>⟨ob.slots,k b ob q⟩,fun _ _ _ n _=>n,fun b ob q _=>⟨ob,k b ob q⟩,fun _ _ q=>q,fun _ _ _ q=>q,fun _ ps q=>⟨#[],by rw[q];simp⟩,fun b ob _ q _=>k b ob q⟩
theorem Un.refl:Un fs ex H H h h:=Un.kept fun _ _ q=>q
theorem Un.laid(k:∀b u,h.get? b=some u->h'.get? b=some u)(hp:h.objs.size≤a)(hn:H a=none):Un fs ex H (upd H a o) h h' where
 keep:=fun b u q _ _ _=>k b u q
 slot:=fun b u q _ _ _=>⟨u.slots,k b u q⟩
 free:=fun b u q n _=>by rw[xAal (qi (ze (Heap.lt_size q) hp))];exact n
 there:=fun b u q _=>⟨u,k b u q⟩
 tups:=fun b xs q=>by rw[xAal (xAaj q hn)];exact q
 frzs:=fun b u xs q=>by rw[xAal (xAaj q hn)];exact q
 tbls:=fun b ps q=>⟨#[],by rw[xAal (xAaj q hn),q];simp⟩
 tupo:=fun b u _ q _=>k b u q
theorem Un.write(mu:Mut (H x))(he:e=x\/H e=some (.own x))(k:∀b u,b≠e->h.get? b=some u->h'.get? b=some u)(heo:∃u,h'.get? e=some u):Un fs ex H (upd H x o) h h':=by
 have hx:∀b,H b=none->b≠x:=fun b n z=>by subst z;rw[n]at mu;exact mu
 have hb:∀b,H b=none->b≠e:=fun b n z=>by
  subst z;rcases he with r|r
  ·exact hx b n r
  ·rw[n]at r;cases r
 have hm:∀b u,H b=some u->¬Mut (some u)->b≠x:=fun b u q nm z=>by subst z;rw[q]at mu;exact nm mu
 refine⟨fun b u q n _ _=>k b u (hb b n) q,fun b u q n _ _=>⟨u.slots,k b u (hb b n) q⟩,fun b u q n _=>by rw[xAal (hx b n)];exact n,fun b u q _=>?_,
  fun b xs q=>by rw[xAal (hm b _ q fun z=>z)];exact q,fun b u xs q=>by rw[xAal (hm b _ q fun z=>z)];exact q,fun b ps q=>⟨#[],by rw[xAal (hm b _ q fun z=>z),q];simp⟩,fun b u xs q n=>k b u (fun z=>by
   subst z;rcases he with r|r
   ·exact hm b _ n (fun z=>z) r
   ·rw[n]at r;cases r) q⟩
 by_cases hbe:b=e
 ·subst hbe;exact heo
 ·exact⟨u,k b u hbe q⟩
theorem Un.mono(u:Un fs ex H H1 h h1)(hs:∀b∈fs,b∈fs')(hx:∀b∈ex,b∈ex'):Un fs' ex' H H1 h h1 :=
 ⟨fun b ob q n hb he=>u.keep b ob q n (fun z=>hb (hs b z)) fun z=>he (hx b z),fun _ _ q n _ he=>u.any q n fun z=>he (hx _ z),fun b ob q n he=>u.free b ob q n fun z=>he (hx b z),fun b ob q he=>u.there b ob q fun z=>he (hx b z),u.tups,u.frzs,u.tbls,u.tupo⟩
end
def trk(h:Heap)(H:Hp):List Addr:=(List.range h.objs.size).filter fun a=>(H a).isSome
def hidT(h:Heap)(H:Hp):Heap:=PySem.W.hideAll h (trk h H)
theorem xAku(h:Heap)(H:Hp):(hidT h H).objs.size=h.objs.size:=PySem.W.hideAll_size _ _
theorem xAoh{h:Heap}{H:Hp}{b:Addr}{o:Obj}(e:h.get? b=some o)(n:H b=none):(hidT h H).get? b=some o :=
 PySem.W.hideAll_get _ e fun hm=>by
  have q:(H b).isSome=true:=(List.mem_filter.mp hm).2;rw[n]at q;simp at q
theorem xApx{h:Heap}{H:Hp}{b:Addr}{o:Obj}(e:(hidT h H).get? b=some o):h.get? b=some o/\H b=none:=by
 have e':h.get? b=some o:=PySem.W.of_hideAll (trk h H) e;refine⟨e',?_⟩
 cases q:H b with
 |none=>rfl
 |some x =>
  have hm:b∈trk h H:=List.mem_filter.mpr ⟨List.mem_range.mpr (Heap.lt_size e'),by simp[q]⟩;have z:(hidT h H).get? b=none:=PySem.W.hideAll_none (trk h H) hm;rw[z]at e;cases e
structure Mod(K:PySem.W.Frag)(mg:Str->Option Value)(base:Heap):Prop where
 kin:K.In base
 glob:base.Ns mainGlobals mg
 blt:∃mb,base.Ns builtinsNs mb/\∀x:Str,x≠"__name__"->mb x=bootBuiltins x
 nolimit:base.NoLimit
structure Cx where
 prog:Program
 w:World
 K:PySem.W.Frag
 mg:Str->Option Value
 base:Heap
 A:Around
 N:List Str
 s₀:Shared
 H₀:Hp
 env:Env
 outer:List Env
 stack:List Env
 ex:List Addr
 fn:Str->Bool
 calm:Bool
 pn:List (Addr×Obj)
 xe:Value->Shared->Prop
def frs(l:List Env):List Addr:=l.filterMap (·.frame)
abbrev Cx.fs(X:Cx):List Addr:=frs X.outer
def Vis(sc:Scope)(x:Str):Prop:=sc.names.lookup x=some .local\/sc.names.lookup x=some .cell\/sc.names.lookup x=some .free
def Loc(sc:Scope)(x:Str):Prop:=sc.names.lookup x=some .local\/sc.names.lookup x=some .cell
def Look(env:Env)(h:Heap)(m:Str->Option Value)(x:Str)(u:Value):Prop :=
 (env.kindOf x=some .local/\m x=some u)\/((env.kindOf x=some .cell\/env.kindOf x=some .free)/\∃c,env.cells.lookup x=some c/\h.IsCell c (some u))
structure Cx.Ok(X:Cx):Prop where
 mod:Mod X.K X.mg X.base
 kind:X.env.scope.kind=.function
 glob:X.env.globals=mainGlobals
 blt:X.env.builtins=builtinsNs
 above:X.s₀.heap.objs.size≤X.env.locals
 inj:∀x y c,X.env.cells.lookup x=some c->X.env.cells.lookup y=some c->x=y
 has:∀x,(X.env.kindOf x=some .cell\/X.env.kindOf x=some .free)->∃c,X.env.cells.lookup x=some c
 cab:∀x c,X.fn x=true->X.env.cells.lookup x=some c->X.s₀.heap.objs.size≤c
 hd:X.calm=true->X.A.handled=none
 frames:X.A.frames=some X.stack
 stk:X.stack=X.outer\/(X.stack=X.env::X.outer/\X.env.frame=some X.env.locals)
 exf:∀b∈X.ex,b≠X.env.locals/\∀x c,X.env.cells.lookup x=some c->c≠b
 bs:∀b o,X.base.get? b=some o->X.s₀.heap.get? b=some o/\(X.H₀ b=none\/∃xs,X.H₀ b=some (.tup xs))
 bsz:X.base.objs.size≤X.s₀.heap.objs.size
 noex:∀b o,X.base.get? b=some o->b∉X.ex
 exfs:∀b∈X.ex,b∉X.fs
 funs:X.s₀.heap.FunFrames X.base X.outer
 frf:∀b∈X.fs,X.H₀ b=none
structure Inv(X:Cx)(pins:List (Addr×Obj))(σ:List (Option V))(H:Hp)(s:Shared):Prop where
 ok:X.Ok
 os:s.os=X.s₀.os
 bare:AllBare s.gens
 base:Un X.fs X.ex X.H₀ H X.s₀.heap s.heap
 loc:∃m,s.heap.Ns X.env.locals m/\∀(i:Nat) (x:Str) (v:V),X.N[i]?=some x->σ[i]?=some (some v)->Vis X.env.scope x->∃u,RelV v u/\Look X.env s.heap m x u
 cell:∀x c,X.env.cells.lookup x=some c->∃v,s.heap.IsCell c v
 free:H X.env.locals=none
 freeC:∀x c,X.env.cells.lookup x=some c->H c=none
 pin:∀p∈X.pn++pins,s.heap.get? p.1=some p.2/\H p.1=none/\p.1≠X.env.locals/\p.1∉X.fs/\∀v,p.2.data≠.cell v
 hok:HOk X.prog X.w H s.heap
 len:σ.length=X.N.length
section
variable {X:Cx}{pins:List (Addr×Obj)}{σ:List (Option V)}{H H':Hp}{s:Shared}{h':Heap}
theorem Cx.Ok.nofr(ok:X.Ok){b:Addr}{o:Obj}(e:X.base.get? b=some o):b∉X.fs:=fun hb=>by
 have:=(ok.funs.mem hb).1;rw[e]at this;cases this
theorem Inv.bs(I:Inv X pins σ H s):∀b o,X.base.get? b=some o->s.heap.get? b=some o/\(H b=none\/∃xs,H b=some (.tup xs)):=fun b o e =>
 match I.ok.bs b o e with
 |⟨h1,.inl h2⟩=>⟨I.base.keep b o h1 h2 (I.ok.nofr e) (I.ok.noex b o e),.inl (I.base.free b o h1 h2 (I.ok.noex b o e))⟩
 |⟨h1,.inr ⟨xs,h2⟩⟩=>⟨I.base.tupo b o xs h1 h2,.inr ⟨xs,I.base.tups b xs h2⟩⟩
theorem Inv.bk(I:Inv X pins σ H s):∀b o,X.base.get? b=some o->s.heap.get? b=some o:=fun b o e=>(I.bs b o e).1
theorem Inv.mod(I:Inv X pins σ H s):Mod X.K X.mg X.base:=I.ok.mod
theorem Inv.kIn(I:Inv X pins σ H s):X.K.In s.heap:=I.ok.mod.kin.keeps I.bk
theorem Inv.lt(I:Inv X pins σ H s):X.env.locals<s.heap.objs.size:=let⟨_,hn,_⟩:=I.loc;hn.lt
theorem Inv.sz(I:Inv X pins σ H s):X.s₀.heap.objs.size≤s.heap.objs.size:=qf I.ok.above (qg I.lt)
theorem Inv.nofs(I:Inv X pins σ H s){a:Addr}(h:s.heap.objs.size≤a):a∉X.fs:=fun hb=>by
 obtain⟨_,o,ho,_⟩:=I.ok.funs.mem hb;exact absurd (ze (Heap.lt_size ho) (qf I.sz h)) (zu _)
theorem Inv.cne(I:Inv X pins σ H s):∀x c,X.env.cells.lookup x=some c->c≠X.env.locals:=fun x c e z=>by
 obtain⟨v,o,ho,hd⟩:=I.cell x c e;obtain⟨m,⟨o',es,ep,ho',hd',_⟩,_⟩:=I.loc;rw[z,ho']at ho;cases ho;rw[hd']at hd;cases hd
theorem Inv.funs(I:Inv X pins σ H s):s.heap.FunFrames X.base X.outer:=by
 have all:∀(l:List Env),(∀b∈frs l,b∈X.fs)->X.s₀.heap.FunFrames X.base l->s.heap.FunFrames X.base l:=by
  intro l
  induction l with
  |nil=>intro _ _;trivial
  |cons env r ih =>
   intro hs hl;obtain⟨hk,⟨L,o,hf,hn,ho,hd⟩,hr⟩:=hl;have hL:L∈X.fs:=hs L (by unfold frs;rw[vq,hf];exact qm);obtain⟨sl,e⟩:=I.base.slot L o ho (I.ok.frf L hL) hL fun z=>I.ok.exfs L z hL;exact⟨hk,⟨L,_,hf,hn,e,hd⟩,ih (fun b hb=>hs b (by unfold frs;rw[vq,hf];exact qk _ hb)) hr⟩
 exact all X.outer (fun _ hb=>hb) I.ok.funs
theorem Inv.stack(I:Inv X pins σ H s):s.heap.FunFrames X.base X.stack:=by
 rcases I.ok.stk with e|⟨e,hf⟩
 ·rw[e];exact I.funs
 ·rw[e]
  obtain⟨m,hn,_⟩:=I.loc;refine .cons (by rw[I.ok.kind];decide) hf hn ?_ I.funs;exact Heap.get?_none_of_le (qf I.ok.bsz I.ok.above)
theorem Inv.stkSub(I:Inv X pins σ H s):∀b∈frs X.stack,b∈X.env.locals::X.fs:=fun b hb=>by
 rcases I.ok.stk with e|⟨e,hf⟩
 ·rw[e]at hb;exact qk _ hb
 ·rw[e]at hb
  unfold frs at hb;rw[vq,hf]at hb;exact hb
theorem Inv.stkFree(I:Inv X pins σ H s):∀b∈frs X.stack,H b=none:=fun b hb=>by
 rcases qw.mp (I.stkSub b hb) with e|hb
 ·rw[e];exact I.free
 ·obtain⟨_,o,ho,_⟩:=I.ok.funs.mem hb
  exact I.base.free b o ho (I.ok.frf b hb) fun z=>I.ok.exfs b z hb
theorem Inv.step{g':Array GenState}{t':Nat}{d':Drawn}{ch:List Addr}(I:Inv X pins σ H s)(hch:∀b∈ch,(b∈X.ex\/X.s₀.heap.objs.size≤b)/\b≠X.env.locals/\(∀x c,X.env.cells.lookup x=some c->c≠b)/\∀p∈X.pn++pins,p.1≠b)(keep:∀b o,b≠X.env.locals->b∉X.fs->b∉ch->s.heap.get? b=some o->H b=none->h'.get? b=some o)(slot:∀b o,b≠X.env.locals->b∈X.fs->b∉ch->s.heap.get? b=some o->H b=none->∃sl,h'.get? b=some { o with slots:=sl })(free:∀b o,b∉ch->s.heap.get? b=some o->H b=none->H' b=none)(there:∀b o,b∉ch->s.heap.get? b=some o->∃o',h'.get? b=some o')(tups:∀b xs,H b=some (.tup xs)->H' b=some (.tup xs))(frzs:∀b o u,H b=some (.frz o u)->H' b=some (.frz o u))(tbls:∀b ps,H b=some (.tbl ps)->∃more,H' b=some (.tbl (ps++more)))(tupo:∀b o xs,s.heap.get? b=some o->H b=some (.tup xs)->h'.get? b=some o)(ns:∀m,s.heap.Ns X.env.locals m->h'.Ns X.env.locals m)(hok:HOk X.prog X.w H' h')(hg:AllBare g') :
  Inv X pins σ H' { s with heap:=h',gens:=g',drawn:=d',toks:=t' }:=by
 have neL:∀b o,X.s₀.heap.get? b=some o->b≠X.env.locals:=fun b o e=>qi (ze (Heap.lt_size e) I.ok.above)
 have neC:∀b o,X.s₀.heap.get? b=some o->b∉X.ex->b∉ch:=fun b o e hx hb=>by
  rcases(hch b hb).1 with z|z
  ·exact hx z
  ·exact absurd (ze (Heap.lt_size e) z) (zu _)
 have cellK:∀x c,X.env.cells.lookup x=some c->∀v,s.heap.IsCell c v->h'.IsCell c v:=fun x c e v ⟨o,ho,hd⟩=>by
  have nch:c∉ch:=fun z=>(hch c z).2.2.1 x c e rfl
  by_cases hc:c∈X.fs
  ·obtain⟨sl,q⟩:=slot c o (I.cne x c e) hc nch ho (I.freeC x c e)
   exact⟨_,q,hd⟩
  ·exact⟨o,keep c o (I.cne x c e) hc nch ho (I.freeC x c e),hd⟩
 refine⟨I.ok,I.os,hg,⟨fun b o e n hb hx=>?_,fun b o e n hb hx=>?_,fun b o e n hx=>?_,fun b o e hx=>?_,fun b xs e=>tups b xs (I.base.tups b xs e),fun b o xs e=>frzs b o xs (I.base.frzs b o xs e),fun b ps e=>?_,fun b o xs e n=>tupo b o xs (I.base.tupo b o xs e n) (I.base.tups b xs n)⟩,?_,fun x c e=>?_,?_,fun x c e=>?_,fun p hp=>?_,hok,I.len⟩
 ·exact keep b o (neL b o e) hb (neC b o e hx) (I.base.keep b o e n hb hx) (I.base.free b o e n hx)
 ·obtain⟨sl,e1⟩:=I.base.slot b o e n hb hx
  obtain⟨sl',e2⟩:=slot b _ (neL b o e) hb (neC b o e hx) e1 (I.base.free b o e n hx);exact⟨sl',e2⟩
 ·obtain⟨o',e1⟩:=I.base.there b o e hx
  exact free b o' (neC b o e hx) e1 (I.base.free b o e n hx)
 ·obtain⟨o',e1⟩:=I.base.there b o e hx
  exact there b o' (neC b o e hx) e1
 ·obtain⟨m1,e1⟩:=I.base.tbls b ps e
  obtain⟨m2,e2⟩:=tbls b _ e1;exact⟨m1++m2,by rw[e2,jx]⟩
 ·obtain⟨m,hn,hl⟩:=I.loc
  refine⟨m,ns m hn,fun i x v e1 e2 e3=>?_⟩;obtain⟨u,r,l⟩:=hl i x v e1 e2 e3;refine⟨u,r,?_⟩;rcases l with l|⟨k,c,e,z⟩
  ·exact .inl l
  ·exact .inr ⟨k,c,e,cellK x c e _ z⟩
 ·obtain⟨v,z⟩:=I.cell x c e
  exact⟨v,cellK x c e v z⟩
 ·obtain⟨m,⟨o,_,_,ho,_⟩,_⟩:=I.loc
  exact free _ o (fun z=>(hch _ z).2.1 rfl) ho I.free
 ·obtain⟨v,o,ho,hd⟩:=I.cell x c e
  exact free c o (fun z=>(hch c z).2.2.1 x c e rfl) ho (I.freeC x c e)
 ·obtain⟨e,n,ne,nf,d⟩:=I.pin p hp
  have nch:p.1∉ch:=fun z=>(hch p.1 z).2.2.2 p hp rfl;exact⟨keep p.1 p.2 ne nf nch e n,free p.1 p.2 nch e n,ne,nf,d⟩
theorem Inv.un{t':Nat}(I:Inv X pins σ H s)(u:Un X.fs [] H H' s.heap h')(hok:HOk X.prog X.w H' h'):Inv X pins σ H' { s with heap:=h',toks:=t' }:=by
 obtain⟨m,⟨o,es,ep,ho,r⟩,_⟩:=id I.loc;obtain⟨sl,hL⟩:=u.any ho I.free (by simp)
 exact I.step (g':=s.gens) (d':=s.drawn) (ch:=[]) (fun _ z=>nomatch z) (fun b o _ hb _ e n=>u.keep b o e n hb (by simp)) (fun b o _ hb _ e n=>u.slot b o e n hb (by simp)) (fun b o _ e n=>u.free b o e n (by simp)) (fun b o _ e=>u.there b o e (by simp)) u.tups u.frzs u.tbls u.tupo (fun m' hm=>by
  obtain⟨o',es',ep',ho',r'⟩:=hm;rw[ho]at ho';cases ho'
  exact⟨_,es',ep',hL,r'⟩) hok I.bare
theorem Inv.call{g':Array GenState}{t':Nat}{d':Drawn}{ch:List Addr}(I:Inv X pins σ H s)(u:Un (frs X.stack) ch H H' s.heap h')(hok:HOk X.prog X.w H' h')(hg:AllBare g')(hch:∀b∈ch,(b∈X.ex\/X.s₀.heap.objs.size≤b)/\b≠X.env.locals/\(∀x c,X.env.cells.lookup x=some c->c≠b)/\∀p∈X.pn++pins,p.1≠b) :
  Inv X pins σ H' { s with heap:=h',gens:=g',drawn:=d',toks:=t' }:=by
 obtain⟨m,⟨o,es,ep,ho,r⟩,_⟩:=id I.loc;obtain⟨sl,hL⟩:=u.any ho I.free fun z=>(hch _ z).2.1 rfl
 exact I.step (ch:=ch) hch (fun b o hL hb hc e n=>u.keep b o e n (fun z=>(qw.mp (I.stkSub b z)).elim hL hb) hc) (fun b o _ _ hc e n=>u.any e n hc) (fun b o hc e n=>u.free b o e n hc) (fun b o hc e=>u.there b o e hc) u.tups u.frzs u.tbls u.tupo (fun m' hm=>by
  obtain⟨o',es',ep',ho',r'⟩:=hm;rw[ho]at ho';cases ho'
  exact⟨_,es',ep',hL,r'⟩) hok hg
theorem Inv.turned{t':Nat}{it:Addr}(I:Inv X pins σ H s)(k:∀b o,b≠it->s.heap.get? b=some o->h'.get? b=some o)(hn:H it=none)(hL:it≠X.env.locals)(h1:it∈X.ex\/X.s₀.heap.objs.size≤it)(h2:∀x c,X.env.cells.lookup x=some c->c≠it)(h3:∀p∈X.pn++pins,p.1≠it):Inv X pins σ H { s with heap:=h',toks:=t' }:=by
 have nit:∀b u,H b=some u->b≠it:=fun b u e z=>by rw[z,hn]at e;cases e
 refine I.step (g':=s.gens) (d':=s.drawn) (ch:=[it]) (fun b hb=>?_) (fun b o _ _ hc e _=>k b o (fun z=>hc (by simp[z])) e) (fun b o _ _ hc e _=>⟨o.slots,k b o (fun z=>hc (by simp[z])) e⟩) (fun _ _ _ _ n=>n)
  (fun b o hc e=>⟨o,k b o (fun z=>hc (by simp[z])) e⟩) (fun _ _ e=>e) (fun _ _ _ e=>e) (fun b ps e=>⟨#[],by rw[e];simp⟩) (fun b o xs e n=>k b o (nit b _ n) e) (fun m hm=>?_) (fun b u e=>?_) I.bare
 ·have e:b=it:=by simpa using hb
  subst e;exact⟨h1,hL,h2,h3⟩
 ·obtain⟨o,es,ep,ho,r⟩:=hm
  exact⟨o,es,ep,k _ o (Ne.symm hL) ho,r⟩
 ·refine(I.hok b u e).stay (fun c v hc q=>k c v ?_ q) (fun _ q=>q) fun _ _ q=>q
  rcases hc with z|z
  ·rw[z];exact nit b u e
  ·exact nit c _ z
theorem Inv.tok(I:Inv X pins σ H s)(t:Nat):Inv X pins σ H { s with toks:=t }:=I.un (h':=s.heap) (t':=t) Un.refl I.hok
theorem Inv.kept{t':Nat}(I:Inv X pins σ H s)(k:∀b u,s.heap.get? b=some u->h'.get? b=some u):Inv X pins σ H { s with heap:=h',toks:=t' }:=I.un (Un.kept k) (I.hok.kept k)
theorem Inv.laid{a:Addr}{o:HO}{t':Nat}(I:Inv X pins σ H s)(k:∀b u,s.heap.get? b=some u->h'.get? b=some u)(hp:s.heap.objs.size≤a)(new:ObjOk X.prog X.w (upd H a o) h' a o) :
  Inv X pins σ (upd H a o) { s with heap:=h',toks:=t' }:=I.un (Un.laid k hp (I.hok.fresh hp)) (I.hok.laid k hp new)
theorem Inv.write{x e:Addr}{o:HO}{t':Nat}(I:Inv X pins σ H s)(mu:Mut (H x))(he:e=x\/H e=some (.own x))(k:∀b u,b≠e->s.heap.get? b=some u->h'.get? b=some u)(heo:∃u,h'.get? e=some u)(new:ObjOk X.prog X.w (upd H x o) h' x o):Inv X pins σ (upd H x o) { s with heap:=h',toks:=t' }:=I.un (Un.write mu he k heo) (I.hok.write mu he k heo new)
theorem Inv.weak{σ':List (Option V)}(I:Inv X pins σ H s)(hl:σ'.length=σ.length)(w:∀(i:Nat) v,σ'[i]?=some (some v)->σ[i]?=some (some v)):Inv X pins σ' H s :=
 ⟨I.ok,I.os,I.bare,I.base,let⟨m,hn,hl'⟩:=I.loc;⟨m,hn,fun i x v e1 e2 e3=>hl' i x v e1 (w i v e2) e3⟩,I.cell,I.free,I.freeC,I.pin,I.hok,hl.trans I.len⟩
theorem Inv.pins_of{pins':List (Addr×Obj)}(I:Inv X pins σ H s)(h:∀p∈pins',s.heap.get? p.1=some p.2/\H p.1=none/\p.1≠X.env.locals/\p.1∉X.fs/\∀v,p.2.data≠.cell v):Inv X pins' σ H s :=
 ⟨I.ok,I.os,I.bare,I.base,I.loc,I.cell,I.free,I.freeC,fun p hp=>(q0.mp hp).elim (fun z=>I.pin p (vf _ z)) (h p),I.hok,I.len⟩
theorem xAfm{N:List Str}(hN:N.Nodup){i j:Nat}{x:Str}(a:N[i]?=some x)(b:N[j]?=some x):i=j:=by
 obtain⟨h1,e1⟩:=zf.mp a;obtain⟨h2,e2⟩:=zf.mp b;exact(List.getElem_inj hN).mp (e1.trans e2.symm)
theorem xAeg{M:Model}{A:Around}{E:Value->Shared->Prop}{i:Nat}{x:Str}{v:V}{u:Value}{Q:Unit->Shared->Prop}(I:Inv X pins σ H s)(hN:X.N.Nodup)(hi:X.N[i]?=some x)(hx:Loc X.env.scope x)(r:RelV v u)(h:∀s',Inv X pins (σ.set i (some v)) H s'->(∃a,Heap.SameBut a s.heap s'.heap/\(a=X.env.locals\/X.env.cells.lookup x=some a))->Q () s')(hf:X.fn x=true\/X.env.scope.names.lookup x=some .local:=by first|exact .inl rfl|exact .inr rfl|assumption):wpAny M A (storeName X.env x u) Q E s:=by
 obtain⟨m,hn,hl⟩:=id I.loc
 have hcls:(X.env.scope.kind==.class||(X.env.scope.kind==.module&&X.env.locals != X.env.globals))=false:=by rw[I.ok.kind];rfl
 have hiσ:i<σ.length:=by rw[I.len];exact(zf.mp hi).1
 have cne:=I.cne
 have tracked:∀{a:Addr} {h':Heap},(∃o,s.heap.get? a=some o/\H a=none)->Heap.SameBut a s.heap h'->HOk X.prog X.w H h':=fun{a h'} ha hs b ob e=>by
  obtain⟨_,_,hfree⟩:=ha;refine(I.hok b ob e).stay (fun c w' hc q=>(hs.2 c ?_).trans q) (fun _ q=>q) fun _ _ q=>q;rintro rfl;rcases hc with rfl|hc
  ·rw[hfree]at e;cases e
  ·rw[hfree]at hc;cases hc
 rcases hx with hk|hk
 ·refine wpAny_storeName_local hk hn (fun h' hn' hs=>?_) hcls
  obtain⟨oL,_,_,hoL,_⟩:=id hn;refine h _ ⟨I.ok,I.os,I.bare,⟨fun b o e n hb hx=>?_,fun b o e n hb hx=>?_,I.base.free,fun b o e hx=>?_,I.base.tups,I.base.frzs,I.base.tbls,fun b o xs e n=>(hs.2 b (Nat.ne_of_lt (Nat.lt_of_lt_of_le (Heap.lt_size e) I.ok.above))).trans (I.base.tupo b o xs e n)⟩,⟨_,hn',fun j y v' e1 e2 e3=>?_⟩,fun y c e=>?_,I.free,I.freeC,fun p hp=>?_,tracked ⟨oL,hoL,I.free⟩ hs,by simpa using I.len⟩ ⟨_,hs,.inl rfl⟩
  ·exact(hs.2 b (qi (ze (Heap.lt_size e) I.ok.above))).trans (I.base.keep b o e n hb hx)
  ·obtain⟨sl,e1⟩:=I.base.slot b o e n hb hx
   exact⟨sl,(hs.2 b (qi (ze (Heap.lt_size e) I.ok.above))).trans e1⟩
  ·obtain⟨o',e1⟩:=I.base.there b o e hx
   exact⟨o',(hs.2 b (qi (ze (Heap.lt_size e) I.ok.above))).trans e1⟩
  ·by_cases hj:j=i
   ·subst hj
    rw[hi]at e1;cases e1;rw[yt hiσ]at e2;cases e2;exact⟨u,r,.inl ⟨hk,by simp⟩⟩
   ·rw[vk (Ne.symm hj)]at e2
    obtain⟨u',r',q⟩:=hl j y v' e1 e2 e3;refine⟨u',r',?_⟩;rcases q with⟨k,e⟩|⟨k,c,e,z⟩
    ·refine .inl ⟨k,?_⟩
     have:y≠x:=fun e=>hj (xAfm hN e1 (e▸hi))
     simp[this,e]
    ·exact .inr ⟨k,c,e,z.sameBut hs (cne y c e)⟩
  ·obtain⟨w',z⟩:=I.cell y c e
   exact⟨w',z.sameBut hs (cne y c e)⟩
  ·obtain⟨e,n,ne,nf,d⟩:=I.pin p hp
   exact⟨(hs.2 p.1 ne).trans e,n,ne,nf,d⟩
 ·have hfn:X.fn x=true:=by
   rcases hf with z|z
   ·exact z
   ·rw[z]at hk;cases hk
  obtain⟨c,hc⟩:=I.ok.has x (.inl hk);obtain⟨w',z⟩:=I.cell x c hc;refine wpAny_storeName_cell I.ok.kind hk hc z (fun h' hc' hs=>?_);obtain⟨oc,hoc,hocd⟩:=id z;refine h { s with heap:=h' } ⟨I.ok,I.os,I.bare,⟨fun b o e n hb hx=>?_,fun b o e n hb hx=>?_,I.base.free,fun b o e hx=>?_,I.base.tups,I.base.frzs,I.base.tbls,fun b o xs e n=>(hs.2 b (Nat.ne_of_lt (Nat.lt_of_lt_of_le (Heap.lt_size e) (I.ok.cab x c hfn hc)))).trans (I.base.tupo b o xs e n)⟩,⟨m,hn.sameBut hs (Ne.symm (cne x c hc)),fun j y v' e1 e2 e3=>?_⟩,fun y c' e=>?_,I.free,I.freeC,fun p hp=>?_,tracked ⟨oc,hoc,I.freeC x c hc⟩ hs,by simpa using I.len⟩ ⟨c,hs,.inr hc⟩
  ·exact(hs.2 b (qi (ze (Heap.lt_size e) (I.ok.cab x c hfn hc)))).trans (I.base.keep b o e n hb hx)
  ·obtain⟨sl,e1⟩:=I.base.slot b o e n hb hx
   exact⟨sl,(hs.2 b (qi (ze (Heap.lt_size e) (I.ok.cab x c hfn hc)))).trans e1⟩
  ·obtain⟨o',e1⟩:=I.base.there b o e hx
   exact⟨o',(hs.2 b (qi (ze (Heap.lt_size e) (I.ok.cab x c hfn hc)))).trans e1⟩
  ·by_cases hj:j=i
   ·subst hj
    rw[hi]at e1;cases e1;rw[yt hiσ]at e2;cases e2;exact⟨u,r,.inr ⟨.inl hk,c,hc,hc'⟩⟩
   ·rw[vk (Ne.symm hj)]at e2
    obtain⟨u',r',q⟩:=hl j y v' e1 e2 e3;refine⟨u',r',?_⟩;rcases q with q|⟨k,c',e,z'⟩
    ·exact .inl q
    ·refine .inr ⟨k,c',e,z'.sameBut hs ?_⟩
     rintro rfl;exact hj (xAfm hN e1 (I.ok.inj _ _ _ e hc▸hi))
  ·by_cases hcc:c'=c
   ·subst hcc;exact⟨_,hc'⟩
   ·obtain⟨w2,z2⟩:=I.cell y c' e
    exact⟨w2,z2.sameBut hs hcc⟩
  ·obtain⟨e,n,ne,nf,d⟩:=I.pin p hp
   refine⟨(hs.2 p.1 ?_).trans e,n,ne,nf,d⟩;intro q;rw[q,hoc]at e;have q':oc=p.2:=Option.some.inj e;exact d w' (by rw[←q'];exact hocd)
theorem xAeh{M:Model}{A:Around}{E:Value->Shared->Prop}{i:Nat}{x:Str}{v:V}{u:Value}{Q:Unit->Shared->Prop}(I:Inv X pins σ H s)(hN:X.N.Nodup)(hi:X.N[i]?=some x)(hx:Loc X.env.scope x)(r:RelV v u)(h:∀s',Inv X pins (σ.set i (some v)) H s'->Q () s')(hf:X.fn x=true\/X.env.scope.names.lookup x=some .local:=by first|exact .inl rfl|exact .inr rfl|assumption):wpAny M A (storeName X.env x u) Q E s :=
 xAeg I hN hi hx r (fun s' I' _=>h s' I') hf
theorem Inv.call'{s':Shared}{ch:List Addr}(I:Inv X pins σ H s)(ho:s'.os=s.os)(u:Un (frs X.stack) ch H H' s.heap s'.heap)(hok:HOk X.prog X.w H' s'.heap)(hg:AllBare s'.gens)(hch:∀b∈ch,(b∈X.ex\/X.s₀.heap.objs.size≤b)/\b≠X.env.locals/\(∀x c,X.env.cells.lookup x=some c->c≠b)/\∀p∈X.pn++pins,p.1≠b):Inv X pins σ H' s':=by
 obtain⟨h',g',d',t',o'⟩:=s';have e:o'=s.os:=ho;subst e;exact I.call (g':=g') (t':=t') (d':=d') u hok hg hch
end
abbrev XK:=Value->Option Addr->Hp->Prop
abbrev St:=List (Option V)
abbrev VK:=V->Hp->Prop
abbrev TE:=St->Hp->VK->Prop
abbrev TT:=St->Hp->(Bool->Hp->Prop)->Prop
abbrev TA:=St->Hp->(List V->Hp->Prop)->Prop
structure Ends where
 nx:St->Hp->Prop
 rt:VK
 bk:St->Hp->Prop:=fun _ _=>False
 ct:St->Hp->Prop:=fun _ _=>False
abbrev TS:=Ends->St->Hp->Prop
def EP(X:Cx)(pins:List (Addr×Obj))(σ:St)(Q:VK)(u:Value)(s':Shared):Prop:=∃v H',Inv X pins σ H' s'/\RelV v u/\Q v H'
def TP(X:Cx)(pins:List (Addr×Obj))(σ:St)(Q:Bool->Hp->Prop)(b:Bool)(s':Shared):Prop:=∃H',Inv X pins σ H' s'/\Q b H'
def AP(X:Cx)(pins:List (Addr×Obj))(σ:St)(Q:List V->Hp->Prop)(us:List Value)(s':Shared):Prop:=∃vs H',Inv X pins σ H' s'/\Vals vs us/\Q vs H'
def SP(X:Cx)(pins:List (Addr×Obj))(D:Ends)(f:Flow)(s':Shared):Prop :=
 match f with
 |.next=>∃σ' H',Inv X pins σ' H' s'/\D.nx σ' H'
 |.brk=>∃σ' H',Inv X pins σ' H' s'/\D.bk σ' H'
 |.cont=>∃σ' H',Inv X pins σ' H' s'/\D.ct σ' H'
 |.ret u=>∃v σ' H',Inv X pins σ' H' s'/\RelV v u/\D.rt v H'
def PE0(X:Cx)(e:Expr)(t:TE):Prop :=
 ∀(pins:List (Addr×Obj)) (s:Shared) (σ:St) (H:Hp) (Q:VK),Inv X pins σ H s->t σ H Q->wpAny (model X.prog X.w) X.A (eval e X.env) (EP X pins σ Q) X.xe s
structure PE(X:Cx)(e:Expr)(t:TE):Prop where run:PE0 X e t
instance PECf{X:Cx}{e:Expr}{t:TE}:CoeFun (PE X e t) fun _=>PE0 X e t:=⟨PE.run⟩
def PT0(X:Cx)(e:Expr)(t:TT):Prop :=
 ∀(pins:List (Addr×Obj)) (s:Shared) (σ:St) (H:Hp) (Q:Bool->Hp->Prop),Inv X pins σ H s->t σ H Q->wpAny (model X.prog X.w) X.A (isTrue e X.env (eval e X.env)) (TP X pins σ Q) X.xe s
structure PT(X:Cx)(e:Expr)(t:TT):Prop where run:PT0 X e t
instance PTCf{X:Cx}{e:Expr}{t:TT}:CoeFun (PT X e t) fun _=>PT0 X e t:=⟨PT.run⟩
def PW0(X:Cx)(e:Expr)(t:TT):Prop :=
 ∀(whole:Sem Value) (pins:List (Addr×Obj)) (s:Shared) (σ:St) (H:Hp) (Q:Bool->Hp->Prop),Inv X pins σ H s->t σ H Q->wpAny (model X.prog X.w) X.A (isTrue e X.env whole) (TP X pins σ Q) X.xe s
structure PW(X:Cx)(e:Expr)(t:TT):Prop where run:PW0 X e t
instance PWCf{X:Cx}{e:Expr}{t:TT}:CoeFun (PW X e t) fun _=>PW0 X e t:=⟨PW.run⟩
theorem PW.pt{X:Cx}{e:Expr}{t:TT}(h:PW X e t):PT X e t:=⟨h _⟩
def PA0(X:Cx)(es:List Expr)(t:TA):Prop :=
 ∀(pos:Pos) (pins:List (Addr×Obj)) (s:Shared) (σ:St) (H:Hp) (Q:List V->Hp->Prop),Inv X pins σ H s->t σ H Q->wpAny (model X.prog X.w) X.A (spliced (backTo pos (starEach es X.env))) (AP X pins σ Q) X.xe s
structure PA(X:Cx)(es:List Expr)(t:TA):Prop where run:PA0 X es t
instance PACf{X:Cx}{es:List Expr}{t:TA}:CoeFun (PA X es t) fun _=>PA0 X es t:=⟨PA.run⟩
def PS0(X:Cx)(st:Stmt)(t:TS):Prop :=
 ∀(pins:List (Addr×Obj)) (s:Shared) (σ:St) (H:Hp) (D:Ends),Inv X pins σ H s->t D σ H->wpAny (model X.prog X.w) X.A (exec st X.env) (SP X pins D) X.xe s
structure PS(X:Cx)(st:Stmt)(t:TS):Prop where run:PS0 X st t
instance PSCf{X:Cx}{st:Stmt}{t:TS}:CoeFun (PS X st t) fun _=>PS0 X st t:=⟨PS.run⟩
def PSs0(X:Cx)(st:List Stmt)(t:TS):Prop :=
 ∀(pins:List (Addr×Obj)) (s:Shared) (σ:St) (H:Hp) (D:Ends),Inv X pins σ H s->t D σ H->wpAny (model X.prog X.w) X.A (execs st X.env) (SP X pins D) X.xe s
structure PSs(X:Cx)(st:List Stmt)(t:TS):Prop where run:PSs0 X st t
instance PSsCf{X:Cx}{st:List Stmt}{t:TS}:CoeFun (PSs X st t) fun _=>PSs0 X st t:=⟨PSs.run⟩
theorem thn{α:Type}{t:Sem α}{Q Q':α->Shared->Prop}{M:Model}{A:Around}{E:Value->Shared->Prop}{s:Shared}(h:wpAny M A t Q E s)(hQ:∀a s,Q a s->Q' a s):wpAny M A t Q' E s:=wpAny_mono h hQ fun _ _ x=>x
section
variable {X:Cx}
inductive ItVar(i:Nat)(σ:St)(H:Hp)(Q:VK):Prop
 |mk (v:_) (h0_:σ[i]?=some (some v)) (h1_:Q v H):ItVar i σ H Q
def tVar(i:Nat):TE:=fun σ H Q=>ItVar i σ H Q
def tC(v:V):TE:=fun _ H Q=>Q v H
theorem pe_var{i:Nat}{x:Str}{pos:Pos}(hN:X.N[i]?=some x)(hv:Vis X.env.scope x)(hd:(x==("__debug__":Str))=false:=by decide)(hcd:(x==("__classdict__":Str))=false:=by decide):PE X (.Name x pos) (tVar i):=by
 refine⟨?_⟩;intro pins s σ H Q I h;obtain⟨v,e,h⟩:=h;obtain⟨m,hn,hl⟩:=I.loc;obtain⟨u,r,l⟩:=hl i x v hN e hv;have fin:EP X pins σ Q u s:=⟨v,H,I,r,h⟩;rcases l with⟨hk,hm⟩|⟨hk,c,hc,hcell⟩
 ·exact wpAny_Name (wpAny_loadName_local I.ok.kind hk hn hm fin) hd
 ·rcases hk with hk|hk
  ·exact wpAny_Name (wpAny_loadName_cell I.ok.kind hk hc hcell fin) hd
  ·exact wpAny_Name (wpAny_loadName_free I.ok.kind hk hc hcell fin hcd) hd
theorem xAac{i j pos}:PE X (.Constant (.int i) j pos) (tC (.int i)):=⟨fun _ _ _ H _ I h=>wpAny_Constant_int ⟨.int i,H,I.tok _,⟨_,rfl⟩,h⟩⟩
theorem pe_bl{b j pos}:PE X (.Constant (.bool b) j pos) (tC (.bl b)):=⟨fun _ _ _ H _ I h=>Constant_bool ⟨.bl b,H,I,rfl,h⟩⟩
theorem xAcd{j pos}:PE X (.Constant .none j pos) (tC .non):=⟨fun _ _ _ H _ I h=>Constant_none ⟨.non,H,I,rfl,h⟩⟩
theorem xAae{x j pos}:PE X (.Constant (.str x) j pos) (tC (.str x)):=⟨fun _ _ _ H _ I h=>Calls.Constant_str ⟨.str x,H,I.tok _,⟨_,rfl⟩,h⟩⟩
def Gl(X:Cx)(x:Str):Prop:=X.env.kindOf x=some .globalImplicit
theorem xAdi{E:Value->Shared->Prop}{pins:List (Addr×Obj)}{s:Shared}{σ:St}{H:Hp}{x:Str}{u:Value}{pos:Pos}{Q:Value->Shared->Prop}(I:Inv X pins σ H s)(hg:Gl X x)(hm:X.mg x=some u)(h:Q u s)(hd:(x==("__debug__":Str))=false:=by decide):wpAny (model X.prog X.w) X.A (eval (.Name x pos) X.env) Q E s :=
 Calls.Name_function_global I.ok.kind hg (Calls.loadGlobal_global (by rw[I.ok.glob];exact I.mod.glob.keeps I.bk) hm h) hd
theorem xAho{E:Value->Shared->Prop}{pins:List (Addr×Obj)}{s:Shared}{σ:St}{H:Hp}{x:Str}{u:Value}{pos:Pos}{Q:Value->Shared->Prop}(I:Inv X pins σ H s)(hg:Gl X x)(hm:X.mg x=none)(hv:bootBuiltins x=some u)(h:Q u s)(hn:x≠"__name__":=by decide)(hd:(x==("__debug__":Str))=false:=by decide):wpAny (model X.prog X.w) X.A (eval (.Name x pos) X.env) Q E s:=by
 obtain⟨mb,h1,h2⟩:=I.mod.blt;exact Calls.Name_function_global I.ok.kind hg (Calls.loadGlobal_builtin (by rw[I.ok.glob];exact I.mod.glob.keeps I.bk) hm (by rw[I.ok.blt];exact h1.keeps I.bk) ((h2 x hn).trans hv) h) hd
theorem xAbb{x:Str}{v:V}{u:Value}{pos:Pos}(hg:Gl X x)(hm:X.mg x=some u)(r:RelV v u)(hd:(x==("__debug__":Str))=false:=by decide):PE X (.Name x pos) (tC v):=⟨fun _ _ _ H _ I h=>xAdi I hg hm ⟨v,H,I,r,h⟩ hd⟩
theorem xAbj{x:Str}{v:V}{u:Value}{pos:Pos}(hg:Gl X x)(hm:X.mg x=none)(hv:bootBuiltins x=some u)(r:RelV v u)(hn:x≠"__name__":=by decide)(hd:(x==("__debug__":Str))=false:=by decide):PE X (.Name x pos) (tC v):=⟨fun _ _ _ H _ I h=>xAho I hg hm hv ⟨v,H,I,r,h⟩ hn hd⟩
variable {a b:Expr}{ta tb:TE}{pos:Pos}
inductive ItB(Q:Bool->Hp->Prop)(x:V)(H1:Hp):Prop
 |mk (c:_) (h0_:x=.bl c) (h1_:Q c H1):ItB Q x H1
def tB(t:TE):TT:=fun σ H Q=>t σ H fun x H1=>ItB Q x H1
theorem xAbe{e:Expr}{t:TE}(h:PE X e t)(he:∀whole,isTrue e X.env whole=(do let v ←whole;standAt e.pos;holding [v] (truthy v)):=by intro _;rfl):PT X e (tB t):=by
 refine⟨?_⟩;intro pins s σ H Q I hw;refine isTrue_plain (thn (h pins s σ H _ I hw) fun v s1 ⟨x,H1,I1,r1,q1⟩=>?_) (he _);obtain⟨d,rfl,q⟩:=q1;cases r1;exact wpAny_truthy_bool ⟨H1,I1,q⟩
variable {tA tB':TT}{rest:List Expr}
def tAnd(t u:TT):TT:=fun σ H Q=>t σ H fun c H1=>if c=true then u σ H1 Q else Q false H1
def tOr(t u:TT):TT:=fun σ H Q=>t σ H fun c H1=>if c=true then Q true H1 else u σ H1 Q
def tNot(t:TT):TT:=fun σ H Q=>t σ H fun c H1=>Q (!c) H1
theorem xAgh(ha:PT X a tA):PW X (.BoolOp .And [a] pos) tA:=by
 refine⟨?_⟩;intro wh pins s σ H Q I h;refine isTrue_and (thn (ha pins s σ H Q I h) fun c s1 e=>?_)
 cases c with
 |true=>exact isTrue_and_nil e
 |false=>exact e
theorem xAcv(ha:PT X a tA):PW X (.BoolOp .Or [a] pos) tA:=by
 refine⟨?_⟩;intro wh pins s σ H Q I h;refine isTrue_or (thn (ha pins s σ H Q I h) fun c s1 e=>?_)
 cases c with
 |false=>exact isTrue_or_nil e
 |true=>exact e
theorem xAkv(ha:PT X a tA)(hb:PW X (.BoolOp .And (b::rest) pos) tB'):PW X (.BoolOp .And (a::b::rest) pos) (tAnd tA tB'):=by
 refine⟨?_⟩;intro wh pins s σ H Q I h;refine isTrue_and (thn (ha pins s σ H _ I h) fun c s1 ⟨H1,I1,q1⟩=>?_)
 cases c with
 |true=>exact hb wh pins s1 σ H1 Q I1 q1
 |false=>exact⟨H1,I1,q1⟩
theorem pw_or(ha:PT X a tA)(hb:PW X (.BoolOp .Or (b::rest) pos) tB'):PW X (.BoolOp .Or (a::b::rest) pos) (tOr tA tB'):=by
 refine⟨?_⟩;intro wh pins s σ H Q I h;refine isTrue_or (thn (ha pins s σ H _ I h) fun c s1 ⟨H1,I1,q1⟩=>?_)
 cases c with
 |true=>exact⟨H1,I1,q1⟩
 |false=>exact hb wh pins s1 σ H1 Q I1 q1
theorem xAbk(ha:PT X a tA):PT X (.UnaryOp .Not a pos) (tNot tA):=by
 refine⟨?_⟩;intro pins s σ H Q I h;exact isTrue_not (ha pins s σ H (fun c H1=>Q (!c) H1) I h)
inductive ItAndV(tb:TE)(σ:St)(Q:VK)(x:V)(H1:Hp):Prop
 |mk (c:_) (h0_:x=.bl c) (h1_:if c=true then tb σ H1 Q else Q (.bl false) H1):ItAndV tb σ Q x H1
def tAndV(ta tb:TE):TE:=fun σ H Q=>ta σ H fun x H1=>ItAndV tb σ Q x H1
inductive ItOrV(tb:TE)(σ:St)(Q:VK)(x:V)(H1:Hp):Prop
 |mk (c:_) (h0_:x=.bl c) (h1_:if c=true then Q (.bl true) H1 else tb σ H1 Q):ItOrV tb σ Q x H1
def tOrV(ta tb:TE):TE:=fun σ H Q=>ta σ H fun x H1=>ItOrV tb σ Q x H1
theorem xAbl{op}{t:TE}(h:PE X a t):PE X (.BoolOp op [a] pos) t:=⟨fun pins s σ H Q I hw=>BoolOp_one (h pins s σ H Q I hw)⟩
theorem xAbv(ha:PE X a ta)(hb:PE X (.BoolOp .And (b::rest) pos) tb):PE X (.BoolOp .And (a::b::rest) pos) (tAndV ta tb):=by
 refine⟨?_⟩;intro pins s σ H Q I h;refine BoolOp_and (thn (ha pins s σ H _ I h) fun v s1 ⟨x,H1,I1,r1,q1⟩=>?_);obtain⟨c,rfl,q1⟩:=q1;cases r1;refine wpAny_truthy_bool ?_
 cases c with
 |true=>exact hb pins s1 σ H1 Q I1 q1
 |false=>exact⟨.bl false,H1,I1,rfl,q1⟩
theorem pe_or(ha:PE X a ta)(hb:PE X (.BoolOp .Or (b::rest) pos) tb):PE X (.BoolOp .Or (a::b::rest) pos) (tOrV ta tb):=by
 refine⟨?_⟩;intro pins s σ H Q I h;refine BoolOp_or (thn (ha pins s σ H _ I h) fun v s1 ⟨x,H1,I1,r1,q1⟩=>?_);obtain⟨c,rfl,q1⟩:=q1;cases r1;refine wpAny_truthy_bool ?_
 cases c with
 |false=>exact hb pins s1 σ H1 Q I1 q1
 |true=>exact⟨.bl true,H1,I1,rfl,q1⟩
def tIf(t:TT)(ta tb:TE):TE:=fun σ H Q=>t σ H fun c H1=>if c=true then ta σ H1 Q else tb σ H1 Q
theorem xAcm{c:Expr}(hc:PT X c tA)(ha:PE X a ta)(hb:PE X b tb):PE X (.IfExp c a b pos) (tIf tA ta tb):=by
 refine⟨?_⟩;intro pins s σ H Q I h;refine wpAny_IfExp (thn (hc pins s σ H _ I h) fun d s1 ⟨H1,I1,q1⟩=>?_)
 cases d with
 |true=>exact ha pins s1 σ H1 Q I1 q1
 |false=>exact hb pins s1 σ H1 Q I1 q1
end
def SqL(H:Hp)(a:Addr)(xs:List V):Prop :=
 Rd H a (.lst xs)
def SqT(H:Hp)(a:Addr)(xs:List V):Prop :=
 Rd H a (.tup xs)
def absV:Value->Option V
 |.none=>some .non
 |.bool b=>some (.bl b)
 |.int i _=>some (.int i)
 |.str x _=>some (.str x)
 |.bytes b _=>some (.byt b)
 |.float b _=>some (.flt b)
 |.ref a=>some (.ref a)
 |.type n=>some (.ty n)
 |_=>none
theorem RelV.abs{x:V}{u:Value}(r:RelV x u):absV u=some x:=by
 cases x with
 |non=>cases r;rfl
 |bl _=>cases r;rfl
 |int _=>obtain⟨t,rfl⟩:=r;rfl
 |str _=>obtain⟨t,rfl⟩:=r;rfl
 |byt _=>obtain⟨t,rfl⟩:=r;rfl
 |flt _=>obtain⟨t,rfl⟩:=r;rfl
 |ref _=>cases r;rfl
 |ty _=>cases r;rfl
theorem RelV.inj{x y:V}{u:Value}(r:RelV x u)(q:RelV y u):x=y:=Option.some.inj (r.abs.symm.trans q.abs)
theorem Vals.inj:∀{xs ys:List V} {us:List Value},Vals xs us->Vals ys us->xs=ys
 |_,_,_,.nil,.nil=>rfl
 |_,_,_,.cons r t,.cons r' t'=>by rw[r.inj r',Vals.inj t t']
section
variable {X:Cx}{pins:List (Addr×Obj)}{σ:St}{H:Hp}{s:Shared}{a:Addr}{xs ys:List V}
theorem SqL.of(h:H a=some (.lst xs)):SqL H a xs:=.inl h
theorem SqT.of(h:H a=some (.tup xs)):SqT H a xs:=.inl h
theorem Inv.list(I:Inv X pins σ H s)(h:SqL H a xs):∃its:List Value,Vals xs its/\PlainL s.heap a its.toArray/\xs.length≤sizeLine:=by
 obtain⟨z,its,n,r,e⟩:=Rd.ok h I.hok;exact⟨its,r,⟨_,n,e,rfl,rfl,rfl⟩,z⟩
theorem Inv.tuple(I:Inv X pins σ H s)(h:SqT H a xs):∃its:List Value,Vals xs its/\IsTup s.heap a its.toArray/\xs.length≤sizeLine:=by
 obtain⟨z,its,r,p⟩:=Rd.ok h I.hok;exact⟨its,r,p,z⟩
theorem Inv.list_inj(I:Inv X pins σ H s)(h:SqL H a xs)(h':SqL H a ys):xs=ys:=by
 obtain⟨its,r,⟨o,n,e,_,_,d⟩,_⟩:=I.list h;obtain⟨its',r',⟨o',n',e',_,_,d'⟩,_⟩:=I.list h';rw[e]at e';cases e';rw[d]at d';injection d' with d1 _
 have:its=its':=by simpa using congrArg Array.toList d1
 subst this;exact r.inj r'
theorem Inv.tuple_inj(I:Inv X pins σ H s)(h:SqT H a xs)(h':SqT H a ys):xs=ys:=by
 obtain⟨its,r,⟨o,e,_,n,d⟩,_⟩:=I.tuple h;obtain⟨its',r',⟨o',e',_,n',d'⟩,_⟩:=I.tuple h';rw[e]at e';cases e';rw[d]at d';injection d' with d1 _
 have:its=its':=by simpa using congrArg Array.toList d1
 subst this;exact r.inj r'
end
abbrev Cx.wish(X:Cx)(E:Value->Shared->Prop):Cx:={ X with xe:=E }
abbrev Cx.nox(X:Cx):Cx:=X.wish fun _ _=>False
theorem Cx.Ok.wish{X:Cx}(ok:X.Ok)(E:Value->Shared->Prop):(X.wish E).Ok :=
 ⟨ok.mod,ok.kind,ok.glob,ok.blt,ok.above,ok.inj,ok.has,ok.cab,ok.hd,ok.frames,ok.stk,ok.exf,ok.bs,ok.bsz,ok.noex,ok.exfs,ok.funs,ok.frf⟩
theorem Cx.Ok.unwish{X:Cx}{E:Value->Shared->Prop}(ok:(X.wish E).Ok):X.Ok :=
 ⟨ok.mod,ok.kind,ok.glob,ok.blt,ok.above,ok.inj,ok.has,ok.cab,ok.hd,ok.frames,ok.stk,ok.exf,ok.bs,ok.bsz,ok.noex,ok.exfs,ok.funs,ok.frf⟩
section
variable {X:Cx}{pins:List (Addr×Obj)}{σ:St}{H:Hp}{s:Shared}{E:Value->Shared->Prop}
theorem Inv.wish(I:Inv X pins σ H s)(E:Value->Shared->Prop):Inv (X.wish E) pins σ H s:=⟨I.ok.wish E,I.os,I.bare,I.base,I.loc,I.cell,I.free,I.freeC,I.pin,I.hok,I.len⟩
theorem Inv.unwish(I:Inv (X.wish E) pins σ H s):Inv X pins σ H s:=⟨I.ok.unwish,I.os,I.bare,I.base,I.loc,I.cell,I.free,I.freeC,I.pin,I.hok,I.len⟩
theorem SP.unwish{D:Ends}{f:Flow}{s':Shared}(h:SP (X.wish E) pins D f s'):SP X pins D f s':=by
 cases f with
 |next=>obtain⟨σ',H',I,q⟩:=h;exact⟨σ',H',I.unwish,q⟩
 |brk=>obtain⟨σ',H',I,q⟩:=h;exact⟨σ',H',I.unwish,q⟩
 |cont=>obtain⟨σ',H',I,q⟩:=h;exact⟨σ',H',I.unwish,q⟩
 |ret u=>obtain⟨v,σ',H',I,r,q⟩:=h;exact⟨v,σ',H',I.unwish,r,q⟩
theorem PSs.nox{st:List Stmt}{t:TS}(h:PSs X.nox st t):PSs X st t:=⟨fun pins s σ H D I hw =>
 wpAny_mono (h pins s σ H D (I.wish _) hw) (fun _ _ q=>q.unwish) fun _ _ z=>False.elim z⟩
end
section
variable {X:Cx}{st:Stmt}{rest:List Stmt}{t u:TS}{e:Expr}{te:TE}{pos:Pos}
def tNext:TS:=fun D σ H=>D.nx σ H
def tSeq(t u:TS):TS:=fun D σ H=>t { D with nx:=u D } σ H
theorem xAah:PSs X [] tNext:=⟨fun _ _ σ H _ I h=>wpAny_execs_nil ⟨σ,H,I,h⟩⟩
theorem xAaa(h1:PS X st t)(h2:PSs X rest u):PSs X (st::rest) (tSeq t u):=by
 refine⟨?_⟩;intro pins s σ H D I h;refine wpAny_execs_cons (thn (h1 pins s σ H { D with nx:=u D } I h) fun f s1 q=>?_)
 cases f with
 |next =>
  obtain⟨σ',H',I',q⟩:=q;exact h2 pins s1 σ' H' D I' q
 |ret v=>exact q
 |brk=>exact q
 |cont=>exact q
theorem xAab(h1:PS X st t):PSs X [st] t:=by
 refine⟨?_⟩;intro pins s σ H D I h;refine wpAny_execs_cons (thn (h1 pins s σ H D I h) fun f s1 q=>?_)
 cases f with
 |next=>exact wpAny_execs_nil q
 |ret v=>exact q
 |brk=>exact q
 |cont=>exact q
theorem Inv.quiet{pins:List (Addr×Obj)}{σ:St}{H:Hp}{s:Shared}(I:Inv X pins σ H s):interactive X.env=false:=by simp[interactive,I.ok.kind]
def tDrop(te:TE):TS:=fun D σ H=>te σ H fun _ H1=>D.nx σ H1
theorem xAnb(he:PE X e te)(hs:swapsWith e none pos.line X.env=pure false:=by rfl):PS X (.Expr e pos) (tDrop te):=by
 refine⟨?_⟩;intro pins s σ H D I h;exact wpAny_Expr_any (thn (he pins s σ H _ I h) fun v s1 ⟨x,H1,I1,r1,q1⟩=>⟨σ,H1,I1,q1⟩) I.quiet hs
def tRet(te:TE):TS:=fun D σ H=>te σ H D.rt
theorem xAag(he:PE X e te):PS X (.Return (some e) pos) (tRet te):=by
 refine⟨?_⟩;intro pins s σ H D I h;exact wpAny_Return_some (thn (he pins s σ H _ I h) fun v s1 ⟨x,H1,I1,r1,q1⟩=>⟨x,σ,H1,I1,r1,q1⟩)
def tIfS(c:TT)(t u:TS):TS:=fun D σ H=>c σ H fun b H1=>if b=true then t D σ H1 else u D σ H1
theorem ps_if{c:Expr}{a b:List Stmt}{tc:TT}(hc:PT X c tc)(ha:PSs X a t)(hb:PSs X b u):PS X (.If c a b pos) (tIfS tc t u):=by
 refine⟨?_⟩;intro pins s σ H D I h;refine wpAny_If (thn (hc pins s σ H _ I h) fun d s1 ⟨H1,I1,q1⟩=>?_)
 cases d with
 |true=>exact ha pins s1 σ H1 D I1 q1
 |false=>exact hb pins s1 σ H1 D I1 q1
end
abbrev TG:=V->St->Hp->(St->Hp->Prop)->Prop
abbrev TGs:=List V->St->Hp->(St->Hp->Prop)->Prop
def PG0(X:Cx)(target:Expr)(t:TG):Prop :=
 ∀(pins:List (Addr×Obj)) (s:Shared) (σ:St) (H:Hp) (v:V) (u:Value) (Q:St->Hp->Prop),Inv X pins σ H s->RelV v u->t v σ H Q →
  wpAny (model X.prog X.w) X.A (assign target X.env u) (fun _ s'=>∃σ' H',Inv X pins σ' H' s'/\Q σ' H') X.xe s
structure PG(X:Cx)(target:Expr)(t:TG):Prop where run:PG0 X target t
instance PGCf{X:Cx}{target:Expr}{t:TG}:CoeFun (PG X target t) fun _=>PG0 X target t:=⟨PG.run⟩
def PGs0(X:Cx)(ts:List Expr)(t:TGs):Prop :=
 ∀(pins:List (Addr×Obj)) (s:Shared) (σ:St) (H:Hp) (vs:List V) (us:List Value) (Q:St->Hp->Prop),Inv X pins σ H s->Vals vs us->t vs σ H Q →
  wpAny (model X.prog X.w) X.A (assignInOrder ((assignEach ts X.env).map (·.2)) us) (fun _ s'=>∃σ' H',Inv X pins σ' H' s'/\Q σ' H') X.xe s
structure PGs(X:Cx)(ts:List Expr)(t:TGs):Prop where run:PGs0 X ts t
instance PGsCf{X:Cx}{ts:List Expr}{t:TGs}:CoeFun (PGs X ts t) fun _=>PGs0 X ts t:=⟨PGs.run⟩
abbrev TSet:=V->V->V->Hp->(Hp->Prop)->Prop
def PSet(X:Cx)(t:TSet):Prop :=
 ∀(pins:List (Addr×Obj)) (s:Shared) (σ:St) (H:Hp) (o i v:V) (ov iv u:Value) (Q:Hp->Prop),Inv X pins σ H s->RelV o ov->RelV i iv->RelV v u->t o i v H Q →
  wpAny (model X.prog X.w) X.A (setItem ov iv u) (fun _ s'=>∃H',Inv X pins σ H' s'/\Q H') X.xe s
section
variable {X:Cx}{pos:Pos}
def gName(i:Nat):TG:=fun v σ H Q=>Q (σ.set i (some v)) H
theorem xAce{i:Nat}{x:Str}(hN:X.N.Nodup)(hi:X.N[i]?=some x)(hx:Loc X.env.scope x)(hf:X.fn x=true\/X.env.scope.names.lookup x=some .local:=by first|exact .inl rfl|exact .inr rfl|assumption):PG X (.Name x pos) (gName i):=by
 refine⟨?_⟩;intro pins s σ H v u Q I r h;exact wpAny_assign_Name (xAeh I hN hi hx r (fun s' I'=>⟨_,H,I',h⟩) hf)
def gNil:TGs:=fun vs σ H Q=>vs=[]/\Q σ H
inductive IgCons(t:TG)(u:TGs)(vs:List V)(σ:St)(H:Hp)(Q:St->Hp->Prop):Prop
 |mk (v:_) (r:_) (h0_:vs=v::r) (h1_:t v σ H fun σ' H'=>u r σ' H' Q):IgCons t u vs σ H Q
def gCons(t:TG)(u:TGs):TGs:=fun vs σ H Q=>IgCons t u vs σ H Q
theorem xAea:PGs X [] gNil:=by
 refine⟨?_⟩;intro pins s σ H vs us Q I r h;obtain⟨e,h⟩:=h;subst e;cases r;exact assignInOrder_nil ⟨σ,H,I,h⟩
theorem xAaz{e:Expr}{es:List Expr}{t:TG}{u:TGs}(h1:PG X e t)(h2:PGs X es u)(hs:(assignEach (e::es) X.env).map (·.2)=assign e X.env::(assignEach es X.env).map (·.2):=by rfl):PGs X (e::es) (gCons t u):=by
 refine⟨?_⟩;intro pins s σ H vs us Q I r h;obtain⟨v,vr,e1,h⟩:=h;subst e1
 cases r with
 |cons r rr =>
  rw[hs];refine assignInOrder_cons (thn (h1 pins s σ H _ _ _ I r h) fun _ s1 ⟨σ1,H1,I1,q1⟩=>?_);exact h2 pins s1 σ1 H1 _ _ Q I1 rr q1
inductive IgTup(n:Nat)(t:TGs)(v:V)(σ:St)(H:Hp)(Q:St->Hp->Prop):Prop
 |mk (a:_) (xs:_) (h0_:v=.ref a) (h1_:SqT H a xs) (h2_:xs.length=n) (h3_:t xs σ H Q):IgTup n t v σ H Q
def gTup(n:Nat)(t:TGs):TG:=fun v σ H Q=>IgTup n t v σ H Q
theorem xAoi{es:List Expr}{k:Nat}{t:TGs}{n:Nat}(hc:X.calm=true)(h:PGs X es t)(hn:(assignEach es X.env).length=n:=by rfl)(hst:(assignEach es X.env).findIdx? (·.1)=none:=by rfl):PG X (.Tuple es k pos) (gTup n t):=by
 refine⟨?_⟩;intro pins s σ H v u Q I r hw;obtain⟨a,xs,e1,hq,hl,hw⟩:=hw;subst e1;cases r;obtain⟨its,rv,ht,hz⟩:=I.tuple hq;refine assign_Tuple_tuple (I.ok.hd hc) ht (by simp[hn,←hl,rv.length]) hst fun h' hx=>?_;have I1:Inv X pins σ H { s with heap:=h' }:=I.kept (t':=s.toks) fun b o e=>hx b o (qi (Heap.lt_size e)) e;exact h pins _ σ H xs _ Q I1 (by simpa using rv) hw
def gSub(to ti:TE)(t:TSet):TG:=fun v σ H Q=>to σ H fun o H1=>ti σ H1 fun i H2=>t o i v H2 fun H3=>Q σ H3
theorem xAkw{o i:Expr}{to ti:TE}{t:TSet}(ho:PE X o to)(hi:PE X i ti)(hs:PSet X t)(ha:∀v,assign (.Subscript o i pos) X.env v=(do
   let ov ←holding [v] (eval o X.env)
   let iv ←holding [v,ov] (eval i X.env)
   standAt pos
   holding [v,ov,iv] (setItem ov iv v)
   release [v,ov,iv] []):=by intro _;rfl):PG X (.Subscript o i pos) (gSub to ti t):=by
 refine⟨?_⟩;intro pins s σ H v u Q I r h;rw[ha];refine wpAny_bind (wpAny_holding (thn (ho pins s σ H _ I h) fun ov s1 ⟨x,H1,I1,r1,q1⟩=>?_));refine wpAny_bind (wpAny_holding (thn (hi pins s1 σ H1 _ I1 q1) fun iv s2 ⟨y,H2,I2,r2,q2⟩=>?_));refine wpAny_bind (wpAny_standAt (wpAny_bind (wpAny_holding (thn (hs pins s2 σ H2 x y v ov iv u _ I2 r1 r2 r q2) fun _ s3 ⟨H3,I3,q3⟩=>?_))));exact wpAny_release ⟨σ,H3,I3,q3⟩
def tAsg(te:TE)(g:TG):TS:=fun D σ H=>te σ H fun x H1=>g x σ H1 D.nx
theorem xAhp{tg e:Expr}{te:TE}{g:TG}(he:PE X e te)(hg:PG X tg g)(hs:swapsWithSole [tg] e pos.line X.env=pure false:=by rfl)(hw:swappedStores [tg] e X.env=pure none:=by rfl)(h1:(assignEach [tg] X.env).map (·.2)=[assign tg X.env]:=by rfl):PS X (.Assign [tg] e pos) (tAsg te g):=by
 refine⟨?_⟩;intro pins s σ H D I h;refine wpAny_Assign_stores (thn (he pins s σ H _ I h) fun v s1 ⟨x,H1,I1,r1,q1⟩=>?_) hs hw;rw[h1];exact thn (hg pins s1 σ H1 x v _ I1 r1 q1) fun _ s2 q=>q
theorem xApy{i:Nat}{x:Str}{e:Expr}{te:TE}{pos':Pos}(hN:X.N.Nodup)(hi:X.N[i]?=some x)(hx:Loc X.env.scope x)(he:PE X e te)(hs:swapsWith e (some (.Name x pos')) pos.line X.env=pure false:=by rfl)(hf:X.fn x=true\/X.env.scope.names.lookup x=some .local:=by first|exact .inl rfl|exact .inr rfl|assumption) :
  PS X (.Assign [.Name x pos'] e pos) (tAsg te (gName i)):=by
 refine⟨?_⟩;intro pins s σ H D I h;refine wpAny_Assign_Name (thn (he pins s σ H _ I h) fun v s1 ⟨y,H1,I1,r1,q1⟩=>?_) hs;exact xAeh I1 hN hi hx r1 (fun s2 I2=>⟨_,H1,I2,q1⟩) hf
end
structure It where
 go:Nat->Hp->Prop
 yld:Nat->Hp->V->Hp->Prop
 stop:Nat->Hp->Prop
def FpOk(X:Cx)(pins:List (Addr×Obj))(H:Hp)(b:Addr):Prop :=
 H b=none/\b≠X.env.locals/\b∉X.fs/\(b∈X.ex\/X.s₀.heap.objs.size≤b)/\(∀x c,X.env.cells.lookup x=some c->c≠b)/\∀p∈X.pn++pins,p.1≠b
theorem Inv.fpOk{X:Cx}{pins:List (Addr×Obj)}{σ:St}{H H':Hp}{s:Shared}{b:Addr}(I:Inv X pins σ H s)(hb:s.heap.objs.size≤b)(hn:H' b=none):FpOk X pins H' b:=by
 refine⟨hn,zq (ze I.lt hb),I.nofs hb,.inr (qf I.sz hb),fun x c e z=>?_,fun p hp z=>?_⟩
 ·obtain⟨v,q⟩:=I.cell x c e
  exact absurd (ze q.lt (by rw[z];exact hb)) (zu _)
 ·exact absurd (ze (Heap.lt_size (I.pin p hp).1) (by rw[z];exact hb)) (zu _)
structure Turn(P:Program)(w:World)(K:PySem.W.Frag)(tg:Expr)(J:It)(fp:List Addr)(it:Addr)(tn:Nat->Heap->Prop):Prop where
 mem:it∈fp
 obj:∀i h,tn i h->∀b∈fp,∃o,h.get? b=some o/\∀v,o.data≠.cell v
 keep:∀i h h',tn i h->(∀b∈fp,∀o,h.get? b=some o->h'.get? b=some o)->tn i h'
 item:∀(X:Cx),X.prog=P->X.w=w->X.K=K->X.calm=true->∀(i:Nat) (pins:List (Addr×Obj)) (s:Shared) (σ:St) (H:Hp) (E:Value->Shared->Prop),Inv X pins σ H s->(∀b∈fp,FpOk X pins H b)->tn i s.heap->J.go i H →
  wpAny (model P w) X.A (pyNext (.ref it)) (fun r s1=>∃u,r=some u ∧
   wpAny (model P w) X.A (letOwnedTupleGo tg (.ref it) u) (fun _ s2=>∃x H',Inv X pins σ H' s2/\RelV x u/\J.yld i H x H'/\tn (i+1) s2.heap/\∀b∈fp,H' b=none) E s1) E s
 done:∀(X:Cx),X.prog=P->X.w=w->X.K=K->X.calm=true->∀(i:Nat) (pins:List (Addr×Obj)) (s:Shared) (σ:St) (H:Hp) (E:Value->Shared->Prop),Inv X pins σ H s->(∀b∈fp,FpOk X pins H b)->tn i s.heap->J.stop i H →
  wpAny (model P w) X.A (pyNext (.ref it)) (fun r s1=>r=none/\Inv X pins σ H s1) E s
 self:∀(A:Around) (i:Nat) (s:Shared) (Q:Value->Shared->Prop) (E:Value->Shared->Prop),tn i s.heap->Q (.ref it) s->wpAny (model P w) A (pyIter (.ref it)) Q E s
abbrev TI:=St->Hp->(It->Hp->Prop)->Prop
def PIE(X:Cx)(pins:List (Addr×Obj))(σ:St)(tg:Expr)(R:It->Hp->Prop)(itv:Value)(s2:Shared):Prop :=
 ∃(it:Addr) (fp:List Addr) (tn:Nat->Heap->Prop) (J:It) (H':Hp),itv=.ref it/\Inv X pins σ H' s2/\Turn X.prog X.w X.K tg J fp it tn/\tn 0 s2.heap/\(∀b∈fp,FpOk X pins H' b)/\R J H'
def PI0(X:Cx)(tg iter:Expr)(wi:TI):Prop :=
 ∀(pins:List (Addr×Obj)) (s:Shared) (σ:St) (H:Hp) (R:It->Hp->Prop),Inv X pins σ H s->wi σ H R →
  wpAny (model X.prog X.w) X.A (eval iter X.env) (fun v s1=>wpAny (model X.prog X.w) X.A (pyIter v) (PIE X pins σ tg R) X.xe s1) X.xe s
structure PI(X:Cx)(tg iter:Expr)(wi:TI):Prop where run:PI0 X tg iter wi
instance PICf{X:Cx}{tg iter:Expr}{wi:TI}:CoeFun (PI X tg iter wi) fun _=>PI0 X tg iter wi:=⟨PI.run⟩
theorem go_of{M:Model}{A:Around}{E:Value->Shared->Prop}{s:Shared}{tg:Expr}{it:Addr}{u:Value}{o:Obj}{n:String}{vs:Array Value}{Q:Unit->Shared->Prop}(ho:s.heap.get? it=some o)(hc:o.cls=.type n)(hd:o.data=.fields vs)(hn:["enumerate","zip","dict_itemiterator","dict_reverseitemiterator","odict_iterator","itertools.zip_longest","itertools.pairwise"].contains n=false)(hQ:Q () s):wpAny M A (letOwnedTupleGo tg (.ref it) u) Q E s:=by
 unfold letOwnedTupleGo
 cases tg <;> first
  |exact wpAny_pure hQ
  | (cases u <;> first
    |exact wpAny_pure hQ
    | (refine wpAny_bind (wpAny_load ho ?_)
       rw[hc,hd];show wpAny M A (if(["enumerate","zip","dict_itemiterator","dict_reverseitemiterator","odict_iterator","itertools.zip_longest","itertools.pairwise"].contains n&&vs[0]?==some (rawInt _))=true then _ else _) Q E s;rw[if_neg (by intro h;rw[hn,wf]at h;cases h)]
       exact wpAny_pure hQ))
def Itl(a:Addr):It :=
 ⟨fun i H=>∃xs x,SqL H a xs/\xs[i]?=some x,fun i H x H'=>H'=H/\∀xs,SqL H a xs->xs[i]?=some x,fun i H=>∃xs,SqL H a xs/\xs.length≤i⟩
def Itt(a:Addr):It :=
 ⟨fun i H=>∃xs x,SqT H a xs/\xs[i]?=some x,fun i H x H'=>H'=H/\∀xs,SqT H a xs->xs[i]?=some x,fun i H=>∃xs,SqT H a xs/\xs.length≤i⟩
def Itr(lo:Int)(n:Nat):It:=⟨fun i _=>i<n,fun i H x H'=>H'=H/\x=.int (lo+i),fun i _=>n≤i⟩
theorem xAkx{P:Program}{w:World}{K:PySem.W.Frag}{tg:Expr}(a it:Addr):Turn P w K tg (Itl a) [it] it (fun i h=>h.IsListIter it a i) where
 mem:=by simp
 obj:=fun i h st b hb=>by
  have e:b=it:=by simpa using hb
  subst e;obtain⟨o,e,c,d⟩:=st;exact⟨o,e,fun v z=>by rw[d]at z;cases z⟩
 keep:=fun i h h' st k=>st.at fun o e=>k it (by simp) o e
 item:=by
  intro X hP hw hK hc i pins s σ H E I hf st hg;subst hP hw hK;obtain⟨xs,x,hq,hx⟩:=hg;obtain⟨its,rv,p,hz⟩:=I.list hq;obtain⟨u,hu,ru⟩:=rv.get hx;obtain⟨f0,f1,f2,f3,f4,f5⟩:=hf it (by simp);refine wpAny_pyNext_list_item st p.isList (x:=u) (by simpa using hu) fun h' st' sb=>?_;have I1:Inv X pins σ H { s with heap:=h' }:=I.turned (t':=s.toks) (fun b o hb e=>(sb.2 b hb).trans e) f0 f1 f3 f4 f5;obtain⟨o,e,c,d⟩:=id st';exact⟨u,rfl,go_of (s:={ s with heap:=h' }) e c d (by decide) ⟨x,H,I1,ru,⟨rfl,fun ys hy=>by rw[I.list_inj hy hq];exact hx⟩,st',fun b hb=>(hf b hb).1⟩⟩
 done:=by
  intro X hP hw hK hc i pins s σ H E I hf st hg;subst hP hw hK;obtain⟨xs,hq,hx⟩:=hg;obtain⟨its,rv,p,hz⟩:=I.list hq;obtain⟨f0,f1,f2,f3,f4,f5⟩:=hf it (by simp);have hl:=rv.length;exact wpAny_pyNext_list_end (I.ok.hd hc) st p.isList (by simp;omega) fun h' eb=>⟨rfl,I.turned (t':=s.toks) (fun b o hb e=>eb b o hb e) f0 f1 f3 f4 f5⟩
 self:=fun _ _ _ _ _ st h=>wpAny_pyIter_listiter st h
theorem xAie{P:Program}{w:World}{K:PySem.W.Frag}{tg:Expr}(a it:Addr):Turn P w K tg (Itt a) [it] it (fun i h=>h.IsTupleIter it a i) where
 mem:=by simp
 obj:=fun i h st b hb=>by
  have e:b=it:=by simpa using hb
  subst e;obtain⟨o,e,c,d⟩:=st;exact⟨o,e,fun v z=>by rw[d]at z;cases z⟩
 keep:=fun i h h' st k=>st.at fun o e=>k it (by simp) o e
 item:=by
  intro X hP hw hK hc i pins s σ H E I hf st hg;subst hP hw hK;obtain⟨xs,x,hq,hx⟩:=hg;obtain⟨its,rv,p,hz⟩:=I.tuple hq;obtain⟨u,hu,ru⟩:=rv.get hx;obtain⟨f0,f1,f2,f3,f4,f5⟩:=hf it (by simp);refine wpAny_pyNext_tuple_item st (show s.heap.IsTuple a its.toArray from p) (x:=u) (by simpa using hu) fun h' st' sb=>?_;have I1:Inv X pins σ H { s with heap:=h' }:=I.turned (t':=s.toks) (fun b o hb e=>(sb.2 b hb).trans e) f0 f1 f3 f4 f5;obtain⟨o,e,c,d⟩:=id st';exact⟨u,rfl,go_of (s:={ s with heap:=h' }) e c d (by decide) ⟨x,H,I1,ru,⟨rfl,fun ys hy=>by rw[I.tuple_inj hy hq];exact hx⟩,st',fun b hb=>(hf b hb).1⟩⟩
 done:=by
  intro X hP hw hK hc i pins s σ H E I hf st hg;subst hP hw hK;obtain⟨xs,hq,hx⟩:=hg;obtain⟨its,rv,p,hz⟩:=I.tuple hq;obtain⟨f0,f1,f2,f3,f4,f5⟩:=hf it (by simp);have hl:=rv.length;exact wpAny_pyNext_tuple_end (I.ok.hd hc) st (show s.heap.IsTuple a its.toArray from p) (by simp;omega) fun h' eb=>⟨rfl,I.turned (t':=s.toks) (fun b o hb e=>eb b o hb e) f0 f1 f3 f4 f5⟩
 self:=fun _ _ _ _ _ st h=>wpAny_pyIter_tupleiter st h
theorem xAif{P:Program}{w:World}{K:PySem.W.Frag}{tg:Expr}(it:Addr)(lo:Int)(n:Nat):Turn P w K tg (Itr lo n) [it] it (fun i h=>IsRangeIter h it (lo+(i:Nat) * 1) ((n:Int) - (i:Nat)) 1) where
 mem:=by simp
 obj:=fun i h st b hb=>by
  have e:b=it:=by simpa using hb
  subst e
  exact⟨_,st,fun v z=>by
   have z':Data.fields _=Data.cell v:=z
   cases z'⟩
 keep:=fun i h h' st k=>k it (by simp) _ st
 item:=by
  intro X hP hw hK hc i pins s σ H E I hf st hg;subst hP hw hK;obtain⟨f0,f1,f2,f3,f4,f5⟩:=hf it (by simp);have W:=Walks.range (prog:=X.prog) (w:=X.w) (I.ok.hd hc) it lo 1 n;refine W.item i s _ _ hg st fun v h' tk hv st' kk=>?_;obtain⟨t,rfl⟩:=hv;have I1:Inv X pins σ H { s with heap:=h',toks:=tk }:=I.turned (fun b o hb e=>kk b o (by simpa using hb) e) f0 f1 f3 f4 f5;refine⟨_,rfl,go_of (s:={ s with heap:=h',toks:=tk }) (n:="range_iterator") st' rfl rfl (by decide) ⟨.int (lo+i),H,I1,⟨t,?_⟩,⟨rfl,rfl⟩,st',fun b hb=>(hf b hb).1⟩⟩;rw[Int.mul_one]
 done:=by
  intro X hP hw hK hc i pins s σ H E I hf st hg;subst hP hw hK;obtain⟨f0,f1,f2,f3,f4,f5⟩:=hf it (by simp);exact wpAny_pyNext_range_end (I.ok.hd hc) st (by have:n≤i:=hg;omega) fun h' eb=>⟨rfl,I.turned (t':=s.toks) (fun b o hb e=>eb b o hb e) f0 f1 f3 f4 f5⟩
 self:=fun _ _ _ _ _ st h=>wpAny_pyIter_rangeiter st h
section
variable {X:Cx}{tg:Expr}
inductive IiList(R:It->Hp->Prop)(x:V)(H1:Hp):Prop
 |mk (a:_) (h0_:x=.ref a) (h1_:(∃xs,SqL H1 a xs)) (h2_:R (Itl a) H1):IiList R x H1
def iList(tl:TE):TI:=fun σ H R=>tl σ H fun x H1=>IiList R x H1
inductive IiTup(R:It->Hp->Prop)(x:V)(H1:Hp):Prop
 |mk (a:_) (h0_:x=.ref a) (h1_:(∃xs,SqT H1 a xs)) (h2_:R (Itt a) H1):IiTup R x H1
def iTup(tl:TE):TI:=fun σ H R=>tl σ H fun x H1=>IiTup R x H1
theorem xApz{l:Expr}{tl:TE}(hl:PE X l tl):PI X tg l (iList tl):=by
 refine⟨?_⟩;intro pins s σ H R I h;refine thn (hl pins s σ H _ I h) fun v s1 ⟨x,H1,I1,r1,q1⟩=>?_;obtain⟨a,e,⟨xs,hq⟩,q⟩:=q1;subst e;cases r1;obtain⟨its,rv,p,hz⟩:=I1.list hq;refine wpAny_pyIter_list p.isList ?_;refine⟨s1.heap.objs.size,[s1.heap.objs.size],_,_,H1,rfl,I1.kept (t':=s1.toks) fun b o e=>Heap.get?_push_of_some _ e,xAkx a _,⟨_,Heap.get?_push_size _ rfl,rfl,rfl⟩,fun b hb=>?_,q⟩
 have e:b=s1.heap.objs.size:=by simpa using hb
 subst e;exact I1.fpOk (qd _) (I1.hok.fresh (qd _))
theorem pi_tup{l:Expr}{tl:TE}(hl:PE X l tl):PI X tg l (iTup tl):=by
 refine⟨?_⟩;intro pins s σ H R I h;refine thn (hl pins s σ H _ I h) fun v s1 ⟨x,H1,I1,r1,q1⟩=>?_;obtain⟨a,e,⟨xs,hq⟩,q⟩:=q1;subst e;cases r1;obtain⟨its,rv,p,hz⟩:=I1.tuple hq;refine wpAny_pyIter_tuple (show s1.heap.IsTuple a its.toArray from p) ?_;refine⟨s1.heap.objs.size,[s1.heap.objs.size],_,_,H1,rfl,I1.kept (t':=s1.toks) fun b o e=>Heap.get?_push_of_some _ e,xAie a _,⟨_,Heap.get?_push_size _ rfl,rfl,rfl⟩,fun b hb=>?_,q⟩
 have e:b=s1.heap.objs.size:=by simpa using hb
 subst e;exact I1.fpOk (qd _) (I1.hok.fresh (qd _))
theorem xAoj{pins:List (Addr×Obj)}{σ:St}{H:Hp}{s:Shared}{R:It->Hp->Prop}{E:Value->Shared->Prop}{lo hi:Int}{t u v:Tok}{tk:Nat}(I:Inv X pins σ H s)(h1:-(2 ^ 62)≤lo)(h2:lo<2 ^ 62)(h3:-(2 ^ 62)≤hi)(h4:hi<2 ^ 62)(q:R (Itr lo (hi - lo).toNat) H):wpAny (model X.prog X.w) X.A (pyIter (.ref s.heap.objs.size)) (PIE X pins σ tg R) E { s with heap:=s.heap.push { cls:=.type "range",data:=.fields #[.int lo t,.int hi u,.int 1 v] },toks:=tk }:=by
 refine wpAny_pyIter_range (IsRange.new ..) (small_one h1 h2 h3 h4) ?_;have I1:Inv X pins σ H { s with heap:=s.heap.push { cls:=.type "range",data:=.fields #[.int lo t,.int hi u,.int 1 v] },toks:=tk }:=I.kept fun b o e=>Heap.get?_push_of_some _ e
 refine⟨(s.heap.push { cls:=.type "range",data:=.fields #[.int lo t,.int hi u,.int 1 v] }).objs.size,[(s.heap.push { cls:=.type "range",data:=.fields #[.int lo t,.int hi u,.int 1 v] }).objs.size],_,_,H,rfl,
  I1.kept (t':=tk) fun b o e=>Heap.get?_push_of_some _ e,xAif _ lo (hi - lo).toNat,?_,fun b hb=>?_,q⟩
 ·have e1:lo+((0:Nat):Int) * 1=lo:=by simp
  have e2:(((hi - lo).toNat:Nat):Int) - ((0:Nat):Int)=Builtin.Range.rangeSize lo hi 1:=by rw[rangeSize_one];split <;> omega
  show IsRangeIter _ _ (lo+((0:Nat):Int) * 1) ((((hi - lo).toNat:Nat):Int) - ((0:Nat):Int)) 1;rw[e1,e2];exact Heap.get?_push_size _ rfl
 ·have e:b=(s.heap.push { cls:=.type "range",data:=.fields #[.int lo t,.int hi u,.int 1 v] }).objs.size:=by simpa using hb
  subst e;exact I1.fpOk (qd _) (I1.hok.fresh (qd _))
inductive IiRng1(R:It->Hp->Prop)(vs:List V)(H1:Hp):Prop
 |mk (j:Int) (h0_:vs=[.int j]) (h1_:-(2 ^ 62)≤j) (h2_:j<2 ^ 62) (h3_:R (Itr 0 j.toNat) H1):IiRng1 R vs H1
def iRng1(ta:TA):TI:=fun σ H R=>ta σ H fun vs H1=>IiRng1 R vs H1
theorem xAcj{a:Expr}{ta:TA}{p pos:Pos}(hg:Gl X "range")(hm:X.mg "range"=none)(ha:PA X [a] ta)(hs:starEach [a] X.env=[(false,eval a X.env)]:=by rfl):PI X tg (.Call (.Name "range" p) [a] [] pos) (iRng1 ta):=by
 refine⟨?_⟩;intro pins s σ H R I h;refine Call_ (xAho I hg hm boot_range (PyProof.Rows.callWith_type1 (thn (ha pos pins s σ H _ I h) fun us s1 ⟨vs,H1,I1,r1,q1⟩=>?_) hs rfl));obtain⟨j,e,q1,q2,q⟩:=q1;subst e
 cases r1 with
 |cons r rr =>
  cases rr;obtain⟨t,rfl⟩:=r;exact call_range_1 (xAoj I1 (by omega) (by omega) q1 q2 (by simpa using q))
def tFor(wi:TI)(g:TG)(tb:TS):TS:=fun D σ H=>wi σ H fun J H1=>∃W:Nat->Nat->St->Hp->Prop,(∃m,W 0 m σ H1)/\∀i m σ H,W i m σ H →
 (J.stop i H/\D.nx σ H)\/(J.go i H/\∃N:St->Hp->Prop,(∀σ' H',N σ' H'->∃m',m'<m/\W (i+1) m' σ' H')/\∀x H',J.yld i H x H'->g x σ H' fun σ2 H2=>tb { D with nx:=N,ct:=N,bk:=D.nx } σ2 H2)
def pinsAt(fp:List Addr)(h:Heap):List (Addr×Obj):=fp.filterMap fun b=>(h.get? b).map fun o=>(b,o)
theorem xAdj{fp:List Addr}{h:Heap}{b:Addr}{o:Obj}(hb:b∈fp)(e:h.get? b=some o):(b,o)∈pinsAt fp h:=yu.mpr ⟨b,hb,by rw[e];rfl⟩
theorem xAgi{fp:List Addr}{h:Heap}{p:Addr×Obj}(hp:p∈pinsAt fp h):p.1∈fp/\h.get? p.1=some p.2:=by
 obtain⟨b,hb,e⟩:=yu.mp hp
 cases q:h.get? b with
 |none=>rw[q]at e;cases e
 |some o =>
  rw[q]at e;have e':(b,o)=p:=Option.some.inj e;subst e';exact⟨hb,q⟩
theorem Inv.pinned{pins:List (Addr×Obj)}{σ:St}{H:Hp}{s:Shared}{fp:List Addr}(I:Inv X pins σ H s)(hf:∀b∈fp,FpOk X pins H b)(ho:∀b∈fp,∃o,s.heap.get? b=some o/\∀v,o.data≠.cell v):Inv X (pins++pinsAt fp s.heap) σ H s :=
 I.pins_of fun p hp=>(q0.mp hp).elim (fun z=>I.pin p (zr _ z)) fun z=>by
  obtain⟨hb,e⟩:=xAgi z;obtain⟨f0,f1,f2,_⟩:=hf p.1 hb;obtain⟨o,e',d⟩:=ho p.1 hb;rw[e]at e';cases e';exact⟨e,f0,f1,f2,d⟩
theorem Inv.unpinned{pins pl:List (Addr×Obj)}{σ:St}{H:Hp}{s:Shared}(I:Inv X (pins++pl) σ H s):Inv X pins σ H s:=I.pins_of fun p hp=>I.pin p (zr _ (vf _ hp))
theorem ps_for{iter:Expr}{body:List Stmt}{wi:TI}{g:TG}{tb:TS}{pos:Pos}(hp:PassesOwn (model X.prog X.w) X.A X.env X.xe)(hc:X.calm=true)(hi:PI X tg iter wi)(hg:PG X tg g)(hb:PSs X body tb)(hs:∀x,foldedSetIterable iter X.env x=pure x:=by intro _;rfl):PS X (.For tg iter body [] pos) (tFor wi g tb):=by
 refine⟨?_⟩;intro pins s σ H D I h;refine wpAny_For (thn (hi pins s σ H _ I h) fun v s1 h1=>thn h1 fun itv s2 h2=>?_) hs;obtain⟨it,fp,tn,J,H2,e,I2,T,st2,f2,W,⟨m0,w0⟩,turn⟩:=h2;subst e;have stat:∀{H':Hp},(∀b∈fp,H' b=none)->∀b∈fp,FpOk X pins H' b:=fun hn b hb=>⟨hn b hb,(f2 b hb).2⟩;refine codeAny_forLoop_any (fun n s'=>∃i σ' H',Inv X pins σ' H' s'/\tn i s'.heap/\(∀b∈fp,H' b=none)/\W i n σ' H') ?_ m0 ⟨0,σ,H2,I2,st2,fun b hb=>(f2 b hb).1,w0⟩;rintro n s3 ⟨i,σ3,H3,I3,st3,fr3,w3⟩;rcases turn i n σ3 H3 w3 with⟨stop,qn⟩|⟨go,N,hN,step⟩
 ·refine wpAny_passesOwn hp (thn (T.done X rfl rfl rfl hc i pins s3 σ3 H3 X.xe I3 (stat fr3) st3 stop) fun r s4 ⟨hr,I4⟩=>?_)
  subst hr;exact wpAny_execs_nil ⟨σ3,H3,I4,qn⟩
 ·refine wpAny_passesOwn hp (thn (T.item X rfl rfl rfl hc i pins s3 σ3 H3 X.xe I3 (stat fr3) st3 go) fun r s4 ⟨u,hr,h4⟩=>?_)
  subst hr;refine wpAny_passesOwn hp (thn h4 fun _ s5 ⟨x,H5,I5,r5,y5,st5,fr5⟩=>?_);have I5':=I5.pinned (stat fr5) (T.obj _ _ st5);refine wpAny_passesOwn hp (thn (hg _ s5 σ3 H5 x u _ I5' r5 (step x H5 y5)) fun _ s6 ⟨σ6,H6,I6,q6⟩=>?_);refine wpAny_passesOwn hp (thn (hb _ s6 σ6 H6 _ I6 q6) fun f s7 q7=>?_)
  have again:∀{σ7:St} {H7:Hp},Inv X (pins++pinsAt fp s5.heap) σ7 H7 s7->N σ7 H7->∃m,m<n/\∃i σ' H',Inv X pins σ' H' s7/\tn i s7.heap/\(∀b∈fp,H' b=none)/\W i m σ' H':=fun{σ7 H7} I7 n7=>by
   obtain⟨m',hm,w7⟩:=hN σ7 H7 n7;refine⟨m',hm,i+1,σ7,H7,I7.unpinned,T.keep _ _ _ st5 fun b hb o e=>(I7.pin (b,o) (zr _ (zr _ (xAdj hb e)))).1,fun b hb=>?_,w7⟩;obtain⟨o,e,d⟩:=T.obj _ _ st5 b hb;exact(I7.pin (b,o) (zr _ (zr _ (xAdj hb e)))).2.1
  cases f with
  |next=>obtain⟨σ7,H7,I7,n7⟩:=q7;exact again I7 n7
  |cont=>obtain⟨σ7,H7,I7,n7⟩:=q7;exact again I7 n7
  |brk=>obtain⟨σ7,H7,I7,q7⟩:=q7;exact⟨σ7,H7,I7.unpinned,q7⟩
  |ret v=>obtain⟨x7,σ7,H7,I7,r7,q7⟩:=q7;exact⟨x7,σ7,H7,I7.unpinned,r7,q7⟩
end
theorem xAig{a:Addr}{xs:List V}{g:TG}{tb:TS}{D:Ends}{σ:St}{H:Hp}(Pv:Nat->St->Hp->Prop)(h0:Pv 0 σ H)(hl:∀i σ H,i≤xs.length->Pv i σ H->SqL H a xs)(hs:∀i x σ H,xs[i]?=some x->Pv i σ H->g x σ H fun σ2 H2=>tb { D with nx:=Pv (i+1),ct:=Pv (i+1),bk:=D.nx } σ2 H2)(hd:∀σ H,Pv xs.length σ H->D.nx σ H) :
  ∃W:Nat->Nat->St->Hp->Prop,(∃m,W 0 m σ H)/\∀i m σ H,W i m σ H →
   ((Itl a).stop i H/\D.nx σ H)\/((Itl a).go i H/\∃N:St->Hp->Prop,(∀σ' H',N σ' H'->∃m',m'<m/\W (i+1) m' σ' H')/\∀x H',(Itl a).yld i H x H'->g x σ H' fun σ2 H2=>tb { D with nx:=N,ct:=N,bk:=D.nx } σ2 H2):=by
 refine⟨fun i m σ H=>m=xs.length - i/\i≤xs.length/\Pv i σ H,⟨xs.length,by simp,Nat.zero_le _,h0⟩,?_⟩;rintro i m σ H ⟨rfl,hi,p⟩;have q:=hl i σ H hi p
 by_cases hlt:i<xs.length
 ·refine .inr ⟨⟨xs,xs[i],q,by simp[hlt]⟩,Pv (i+1),fun σ' H' p'=>⟨xs.length - (i+1),by omega,rfl,hlt,p'⟩,fun x H' y=>?_⟩
  obtain⟨e,y⟩:=y;subst e;exact hs i x σ _ (y xs q) p
 ·have e:i=xs.length:=by omega
  subst e;exact .inl ⟨⟨xs,q,qd _⟩,hd σ H p⟩
theorem xAco{lo:Int}{n:Nat}{g:TG}{tb:TS}{D:Ends}{σ:St}{H:Hp}(Pv:Nat->St->Hp->Prop)(h0:Pv 0 σ H)(hs:∀i σ H,i<n->Pv i σ H->g (.int (lo+i)) σ H fun σ2 H2=>tb { D with nx:=Pv (i+1),ct:=Pv (i+1),bk:=D.nx } σ2 H2)(hd:∀σ H,Pv n σ H->D.nx σ H) :
  ∃W:Nat->Nat->St->Hp->Prop,(∃m,W 0 m σ H)/\∀i m σ H,W i m σ H →
   ((Itr lo n).stop i H/\D.nx σ H)\/((Itr lo n).go i H/\∃N:St->Hp->Prop,(∀σ' H',N σ' H'->∃m',m'<m/\W (i+1) m' σ' H')/\∀x H',(Itr lo n).yld i H x H'->g x σ H' fun σ2 H2=>tb { D with nx:=N,ct:=N,bk:=D.nx } σ2 H2):=by
 refine⟨fun i m σ H=>m=n - i/\i≤n/\Pv i σ H,⟨n,by simp,Nat.zero_le _,h0⟩,?_⟩;rintro i m σ H ⟨rfl,hi,p⟩
 by_cases hlt:i<n
 ·refine .inr ⟨hlt,Pv (i+1),fun σ' H' p'=>⟨n - (i+1),by omega,rfl,hlt,p'⟩,fun x H' y=>?_⟩
  obtain⟨e,y⟩:=y;subst e y;exact hs i σ _ hlt p
 ·have e:i=n:=by omega
  subst e;exact .inl ⟨qd _,hd σ H p⟩
abbrev R2:=V->V->Hp->VK->Prop
def OpR(X:Cx)(f:Value->Value->Sem Value)(r:R2):Prop :=
 ∀(pins:List (Addr×Obj)) (s:Shared) (σ:St) (H:Hp) (x y:V) (v u:Value) (Q:VK),Inv X pins σ H s->RelV x v->RelV y u->r x y H Q →
  wpAny (model X.prog X.w) X.A (f v u) (EP X pins σ Q) X.xe s
def UnR(X:Cx)(f:Value->Sem Value)(r:V->Hp->VK->Prop):Prop :=
 ∀(pins:List (Addr×Obj)) (s:Shared) (σ:St) (H:Hp) (x:V) (v:Value) (Q:VK),Inv X pins σ H s->RelV x v->r x H Q →
  wpAny (model X.prog X.w) X.A (f v) (EP X pins σ Q) X.xe s
def CallR(X:Cx)(f:Value)(r:List V->Hp->VK->Prop):Prop :=
 ∀(pins:List (Addr×Obj)) (s:Shared) (σ:St) (H:Hp) (xs:List V) (us:List Value) (Q:VK),Inv X pins σ H s->Vals xs us->r xs H Q →
  wpAny (model X.prog X.w) X.A (call f us) (EP X pins σ Q) X.xe s
def tOp(r:R2)(ta tb:TE):TE:=fun σ H Q=>ta σ H fun x H1=>tb σ H1 fun y H2=>r x y H2 Q
def tUn(r:V->Hp->VK->Prop)(ta:TE):TE:=fun σ H Q=>ta σ H fun x H1=>r x H1 Q
inductive IrI(C:Int->Int->Prop)(g:Int->Int->V)(x:V)(y:V)(H:Hp)(Q:VK):Prop
 |mk (i:_) (j:_) (h0_:x=.int i) (h1_:y=.int j) (h2_:C i j) (h3_:Q (g i j) H):IrI C g x y H Q
def rI(C:Int->Int->Prop)(g:Int->Int->V):R2:=fun x y H Q=>IrI C g x y H Q
inductive IrI0(g:Int->Int->V)(x:V)(y:V)(H:Hp)(Q:VK):Prop
 |mk (i:_) (j:_) (h0_:x=.int i) (h1_:y=.int j) (h2_:Q (g i j) H):IrI0 g x y H Q
def rI0(g:Int->Int->V):R2:=fun x y H Q=>IrI0 g x y H Q
inductive IrU(g:Int->V)(x:V)(H:Hp)(Q:VK):Prop
 |mk (i:_) (h0_:x=.int i) (h1_:Q (g i) H):IrU g x H Q
def rU(g:Int->V):V->Hp->VK->Prop:=fun x H Q=>IrU g x H Q
section
variable {X:Cx}{a b c:Expr}{ta tb tc:TE}{pos:Pos}
theorem binT(ha:PE X a ta)(hb:PE X b tb){pins:List (Addr×Obj)}{s:Shared}{σ:St}{H:Hp}{R:V->V->Hp->Prop}(I:Inv X pins σ H s)(h:ta σ H fun x H1=>tb σ H1 fun y H2=>R x y H2){Q:Value->Shared->Prop}{f:Value->Value->Sem Value}(hf:∀v u s2 x y H2,Inv X pins σ H2 s2->RelV x v->RelV y u->R x y H2->wpAny (model X.prog X.w) X.A (f v u) Q X.xe s2) :
  wpAny (model X.prog X.w) X.A (eval a X.env) (fun v s₁=>wpAny (model X.prog X.w) X.A (eval b X.env) (fun u s₂=>wpAny (model X.prog X.w) X.A (f v u) Q X.xe s₂) X.xe s₁) X.xe s:=by
 refine thn (ha pins s σ H _ I h) fun v s1 ⟨x,H1,I1,r1,q1⟩=>?_;refine thn (hb pins s1 σ H1 _ I1 q1) fun u s2 ⟨y,H2,I2,r2,q2⟩=>?_;exact hf v u s2 x y H2 I2 r1 r2 q2
theorem pe_op{op:Operator}{r:R2}(ho:OpR X (binaryOp op) r)(ha:PE X a ta)(hb:PE X b tb):PE X (.BinOp a op b pos) (tOp r ta tb):=by
 refine⟨?_⟩;intro pins s σ H Q I h;exact wpAny_BinOp (binT ha hb I h fun v u s2 x y H2 I2 rx ry q=>ho pins s2 σ H2 x y v u Q I2 rx ry q)
theorem pe_un{op:UnaryOp}{r:V->Hp->VK->Prop}(ho:UnR X (unaryOp op) r)(ha:PE X a ta):PE X (.UnaryOp op a pos) (tUn r ta):=by
 refine⟨?_⟩;intro pins s σ H Q I h;exact UnaryOp_ (thn (ha pins s σ H _ I h) fun v s1 ⟨x,H1,I1,r1,q1⟩=>ho pins s1 σ H1 x v Q I1 r1 q1)
theorem opI{f:Value->Value->Sem Value}{C:Int->Int->Prop}{g:Int->Int->Int}(rule:∀(i j:Int) (t u:Tok) (s:Shared) (Q:Value->Shared->Prop) (E:Value->Shared->Prop),C i j->Q (.int (g i j) s.toks) { s with toks:=s.toks+1 }->wpAny (model X.prog X.w) X.A (f (.int i t) (.int j u)) Q E s) :
  OpR X f (rI C fun i j=>.int (g i j)):=by
 intro pins s σ H x y v u Q I rx ry h;obtain⟨i,j,rfl,rfl,hc,q⟩:=h;obtain⟨t,rfl⟩:=rx;obtain⟨t',rfl⟩:=ry;exact rule i j t t' s _ _ hc ⟨.int (g i j),H,I.tok _,⟨_,rfl⟩,q⟩
theorem opI0{f:Value->Value->Sem Value}{g:Int->Int->Int}(rule:∀(i j:Int) (t u:Tok) (s:Shared) (Q:Value->Shared->Prop) (E:Value->Shared->Prop),Q (.int (g i j) s.toks) { s with toks:=s.toks+1 }->wpAny (model X.prog X.w) X.A (f (.int i t) (.int j u)) Q E s) :
  OpR X f (rI0 fun i j=>.int (g i j)):=by
 intro pins s σ H x y v u Q I rx ry h;obtain⟨i,j,rfl,rfl,q⟩:=h;obtain⟨t,rfl⟩:=rx;obtain⟨t',rfl⟩:=ry;exact rule i j t t' s _ _ ⟨.int (g i j),H,I.tok _,⟨_,rfl⟩,q⟩
theorem opB0{f:Value->Value->Sem Value}{g:Int->Int->Bool}(rule:∀(i j:Int) (t u:Tok) (s:Shared) (Q:Value->Shared->Prop) (E:Value->Shared->Prop),Q (.bool (g i j)) s->wpAny (model X.prog X.w) X.A (f (.int i t) (.int j u)) Q E s) :
  OpR X f (rI0 fun i j=>.bl (g i j)):=by
 intro pins s σ H x y v u Q I rx ry h;obtain⟨i,j,rfl,rfl,q⟩:=h;obtain⟨t,rfl⟩:=rx;obtain⟨t',rfl⟩:=ry;exact rule i j t t' s _ _ ⟨.bl (g i j),H,I,rfl,q⟩
def CDiv(i j:Int):Prop:=0<j/\j<1073741824
def CPow(i j:Int):Prop:=0≤j/\j≤1000000/\i.natAbs<2 ^ 64
def CMul(i j:Int):Prop:=(-(2 ^ 64)<i/\i<2 ^ 64)\/(-(2 ^ 64)<j/\j<2 ^ 64)
theorem CMul.ok{i j:Int}(h:CMul i j):IntMulOk i j:=by
 rcases h with⟨h1,h2⟩|⟨h1,h2⟩
 ·exact .of_left (intBits_le_64 h1 h2)
 ·exact .of_right (intBits_le_64 h1 h2)
theorem xAbh:OpR X (binaryOp .Add) (rI0 fun i j=>.int (i+j)):=opI0 fun _ _ _ _ _ _ _ q=>add_int q
theorem xAih:OpR X (binaryOp .Sub) (rI0 fun i j=>.int (i - j)):=opI0 fun _ _ _ _ _ _ _ q=>sub_int q
theorem xAdx:OpR X (binaryOp .Mult) (rI CMul fun i j=>.int (i * j)):=opI fun _ _ _ _ _ _ _ hc q=>mul_int q hc.ok
theorem xAaq:OpR X (binaryOp .FloorDiv) (rI CDiv fun i j=>.int (i / j)):=opI fun i j _ _ _ _ _ hc q=>by
 have h1:(0:Int)<j:=hc.1;have h2:j<1073741824:=hc.2;exact floordiv_int (by omega) (by rw[Int.fdiv_eq_ediv_of_nonneg i (by omega)];exact q) (.inl (PyProof.noPylong_small (by omega)))
theorem xAar:OpR X (binaryOp .Mod) (rI (fun _ j=>0<j) fun i j=>.int (i % j)):=opI fun i j _ _ _ _ _ hc q=>by
 have h1:(0:Int)<j:=hc;exact mod_int' (by omega) (by rw[Int.fmod_eq_emod_of_nonneg i (by omega)];exact q)
theorem xAhq:OpR X (binaryOp .Pow) (rI CPow fun i j=>.int (i ^ j.toNat)):=opI fun _ _ _ _ _ _ _ hc q=>pow_int_small hc.1 hc.2.1 hc.2.2 q
theorem unI{f:Value->Sem Value}{g:Int->Int}(rule:∀(i:Int) (t:Tok) (s:Shared) (Q:Value->Shared->Prop) (E:Value->Shared->Prop),Q (.int (g i) s.toks) { s with toks:=s.toks+1 }->wpAny (model X.prog X.w) X.A (f (.int i t)) Q E s) :
  UnR X f (rU fun i=>.int (g i)):=by
 intro pins s σ H x v Q I rx h;obtain⟨i,rfl,q⟩:=h;obtain⟨t,rfl⟩:=rx;exact rule i t s _ _ ⟨.int (g i),H,I.tok _,⟨_,rfl⟩,q⟩
theorem un_neg:UnR X (unaryOp .USub) (rU fun i=>.int (-i)):=unI fun _ _ _ _ _ q=>neg_int q
end
def scal:V->V->Bool
 |.non,.non=>true|.non,.int _=>true|.int _,.non=>true|.non,.bl _=>true|.bl _,.non=>true|.non,.str _=>true|.str _,.non=>true
 |.int _,.int _=>true|.bl _,.bl _=>true|.str _,.str _=>true|.byt _,.byt _=>true
 |.int _,.str _=>true|.str _,.int _=>true|.bl _,.str _=>true|.str _,.bl _=>true
 |_,_=>false
def rEq:R2:=fun x y H Q=>scal x y=true/\Q (.bl (decide (x=y))) H
def rNe:R2:=fun x y H Q=>scal x y=true/\Q (.bl (!decide (x=y))) H
theorem xAgj{i j:Int}:decide (V.int i=V.int j)=(i==j):=by
 rw[vt]
 simp
theorem xAqa{i j:Bool}:decide (V.bl i=V.bl j)=(i==j):=by
 rw[vt]
 simp
theorem xAnc{i j:Str}:decide (V.str i=V.str j)=(i==j):=by
 rw[vt]
 simp
theorem xAnd{i j:Array UInt8}:decide (V.byt i=V.byt j)=(i.toList==j.toList):=by
 rw[vt];cases i;cases j
 simp
section
variable {X:Cx}{a b c:Expr}{ta tb tc:TE}{pos:Pos}
theorem xAay{pins:List (Addr×Obj)}{σ:St}{H:Hp}{s:Shared}{Q:VK}{k k':Bool}(I:Inv X pins σ H s)(q:Q (.bl k) H)(e:k=k'):EP X pins σ Q (.bool k') s:=by
 subst e;exact⟨.bl k,H,I,rfl,q⟩
theorem op_eq:OpR X (compareOp .Eq) rEq:=by
 intro pins s σ H x y v u Q I rx ry h;obtain⟨hs,q⟩:=h
 cases x with
 |non =>
  cases rx
  cases y with
  |non=>cases ry;exact PySem.EqNone.eq_none_none (xAay I q (by simp))
  |bl j=>cases ry;exact PySem.EqNone.eq_none_bool (xAay I q (by simp))
  |int j=>obtain⟨t',rfl⟩:=ry;exact PySem.EqNone.eq_none_int (xAay I q (by simp))
  |str j=>obtain⟨t',rfl⟩:=ry;exact PySem.EqNone.eq_none_str (xAay I q (by simp))
  |_=>exact absurd (show false=true from hs) qx
 |bl i =>
  cases rx
  cases y with
  |non=>cases ry;exact PySem.EqNone.eq_bool_none (xAay I q (by simp))
  |bl j=>cases ry;exact eq_bool (xAay I q xAqa)
  |str j=>obtain⟨t',rfl⟩:=ry;exact PySem.EqMixed.eq_bool_str (xAay I q (by simp))
  |_=>exact absurd (show false=true from hs) qx
 |int i =>
  obtain⟨t,rfl⟩:=rx
  cases y with
  |non=>cases ry;exact PySem.EqNone.eq_int_none (xAay I q (by simp))
  |int j=>obtain⟨t',rfl⟩:=ry;exact eq_int (xAay I q xAgj)
  |str j=>obtain⟨t',rfl⟩:=ry;exact PySem.EqMixed.eq_int_str (xAay I q (by simp))
  |_=>exact absurd (show false=true from hs) qx
 |str i =>
  obtain⟨t,rfl⟩:=rx
  cases y with
  |non=>cases ry;exact PySem.EqNone.eq_str_none (xAay I q (by simp))
  |bl j=>cases ry;exact PySem.EqMixed.eq_str_bool (xAay I q (by simp))
  |int j=>obtain⟨t',rfl⟩:=ry;exact PySem.EqMixed.eq_str_int (xAay I q (by simp))
  |str j=>obtain⟨t',rfl⟩:=ry;exact eq_str (xAay I q xAnc)
  |_=>exact absurd (show false=true from hs) qx
 |byt i =>
  obtain⟨t,rfl⟩:=rx
  cases y with
  |byt j=>obtain⟨t',rfl⟩:=ry;exact PySem.W.eq_bytes (xAay I q xAnd)
  |_=>exact absurd (show false=true from hs) qx
 |_=>cases y <;> exact absurd (show false=true from hs) qx
theorem op_ne:OpR X (compareOp .NotEq) rNe:=by
 intro pins s σ H x y v u Q I rx ry h;obtain⟨hs,q⟩:=h
 cases x with
 |non =>
  cases rx
  cases y with
  |non=>cases ry;exact PySem.EqNone.ne_none_none (xAay I q (by simp))
  |bl j=>cases ry;exact PySem.EqNone.ne_none_bool (xAay I q (by simp))
  |int j=>obtain⟨t',rfl⟩:=ry;exact PySem.EqNone.ne_none_int (xAay I q (by simp))
  |str j=>obtain⟨t',rfl⟩:=ry;exact PySem.EqNone.ne_none_str (xAay I q (by simp))
  |_=>exact absurd (show false=true from hs) qx
 |bl i =>
  cases rx
  cases y with
  |non=>cases ry;exact PySem.EqNone.ne_bool_none (xAay I q (by simp))
  |bl j=>cases ry;exact ne_bool (xAay I q (congrArg not xAqa))
  |str j=>obtain⟨t',rfl⟩:=ry;exact PySem.EqMixed.ne_bool_str (xAay I q (by simp))
  |_=>exact absurd (show false=true from hs) qx
 |int i =>
  obtain⟨t,rfl⟩:=rx
  cases y with
  |non=>cases ry;exact PySem.EqNone.ne_int_none (xAay I q (by simp))
  |int j=>obtain⟨t',rfl⟩:=ry;exact ne_int (xAay I q (congrArg not xAgj))
  |str j=>obtain⟨t',rfl⟩:=ry;exact PySem.EqMixed.ne_int_str (xAay I q (by simp))
  |_=>exact absurd (show false=true from hs) qx
 |str i =>
  obtain⟨t,rfl⟩:=rx
  cases y with
  |non=>cases ry;exact PySem.EqNone.ne_str_none (xAay I q (by simp))
  |bl j=>cases ry;exact PySem.EqMixed.ne_str_bool (xAay I q (by simp))
  |int j=>obtain⟨t',rfl⟩:=ry;exact PySem.EqMixed.ne_str_int (xAay I q (by simp))
  |str j=>obtain⟨t',rfl⟩:=ry;exact ne_str (xAay I q (congrArg not xAnc))
  |_=>exact absurd (show false=true from hs) qx
 |byt i =>
  obtain⟨t,rfl⟩:=rx
  cases y with
  |byt j=>obtain⟨t',rfl⟩:=ry;exact PySem.W.ne_bytes (xAay I q (congrArg not xAnd))
  |_=>exact absurd (show false=true from hs) qx
 |_=>cases y <;> exact absurd (show false=true from hs) qx
theorem op_lt:OpR X (compareOp .Lt) (rI0 fun i j=>.bl (decide (i<j))):=opB0 fun _ _ _ _ _ _ _ q=>lt_int q
theorem op_le:OpR X (compareOp .LtE) (rI0 fun i j=>.bl (decide (i≤j))):=opB0 fun _ _ _ _ _ _ _ q=>le_int q
theorem op_gt:OpR X (compareOp .Gt) (rI0 fun i j=>.bl (decide (j<i))):=opB0 fun _ _ _ _ _ _ _ q=>gt_int q
inductive IRop_in_str(x:V)(y:V)(H:Hp)(Q:VK):Prop
 |mk (i:_) (j:_) (h0_:x=.str i) (h1_:y=.str j) (h2_:Q (.bl (!(Builtin.Str.occurrences j i 0 j.length 1).isEmpty)) H):IRop_in_str x y H Q
def Rop_in_str:R2:=fun x y H Q=>IRop_in_str x y H Q
theorem xAky:OpR X (compareOp .In) Rop_in_str:=by
 intro pins s σ H x y v u Q I rx ry h;obtain⟨i,j,rfl,rfl,q⟩:=h;obtain⟨t,rfl⟩:=rx;obtain⟨t',rfl⟩:=ry;exact in_str (xAay I q rfl)
theorem xAfn:OpR X (compareOp .Is) (fun x y H Q=>y=.non/\Q (.bl (decide (x=.non))) H):=by
 intro pins s σ H x y v u Q I rx ry h;obtain⟨rfl,q⟩:=h;cases ry;refine is_none_gen (xAay I q ?_)
 cases x <;> first
  |(cases rx;rfl)
  |(obtain⟨t,rfl⟩:=rx;rfl)
theorem xAqb{op:CmpOp}{r:R2}(ho:OpR X (compareOp op) r)(ha:PE X a ta)(hb:PE X b tb)(hm:behindInMarks op b=false):PE X (.Compare a [op] [b] pos) (tOp r ta tb):=by
 refine⟨?_⟩;intro pins s σ H Q I h;exact wpAny_Compare1 (binT ha hb I h fun v u s2 x y H2 I2 rx ry q=>ho pins s2 σ H2 x y v u Q I2 rx ry q) hm
inductive ItTest(Q:Bool->Hp->Prop)(x:V)(H':Hp):Prop
 |mk (k:_) (h0_:x=.bl k) (h1_:Q k H'):ItTest Q x H'
def tTest(t:TE):TT:=fun σ H Q=>t σ H fun x H'=>ItTest Q x H'
theorem xAqc{op:CmpOp}{r:R2}(ho:OpR X (compareOp op) r)(ha:PE X a ta)(hb:PE X b tb)(hm:behindInMarks op b=false):PT X (.Compare a [op] [b] pos) (tTest (tOp r ta tb)):=by
 refine⟨?_⟩;intro pins s σ H Q I h
 refine wpAny_isTrue_Compare1 (thn (ha pins s σ H _ I h) fun v s1 ⟨x,H1,I1,r1,q1⟩=>thn (hb pins s1 σ H1 _ I1 q1) fun u s2 ⟨y,H2,I2,r2,q2⟩ =>
  thn (ho pins s2 σ H2 x y v u _ I2 r1 r2 q2) fun c s3 ⟨z,H3,I3,r3,k,e,q3⟩=>?_) hm
 subst e;cases r3;exact wpAny_truthy_bool ⟨H3,I3,q3⟩
inductive ItChain(r':R2)(tc:TE)(σ:St)(Q:VK)(y:V)(z:V)(H3:Hp):Prop
 |mk (k:_) (h0_:z=.bl k) (h1_:(if k=true then tc σ H3 fun w' H4=>r' y w' H4 Q else Q (.bl false) H3)):ItChain r' tc σ Q y z H3
def tChain(r r':R2)(ta tb tc:TE):TE:=fun σ H Q=>ta σ H fun x H1=>tb σ H1 fun y H2=>r x y H2 fun z H3=>ItChain r' tc σ Q y z H3
theorem xAfo{op op':CmpOp}{r r':R2}(ho:OpR X (compareOp op) r)(ho':OpR X (compareOp op') r')(ha:PE X a ta)(hb:PE X b tb)(hc:PE X c tc)(hm:lastMarks [op,op'] [b,c]=false:=by with_unfolding_all rfl):PE X (.Compare a [op,op'] [b,c] pos) (tChain r r' ta tb tc):=by
 refine⟨?_⟩;intro pins s σ H Q I h
 refine Compare_chain (thn (ha pins s σ H _ I h) fun v s1 ⟨x,H1,I1,r1,q1⟩=>chain_link (thn (hb pins s1 σ H1 _ I1 q1) fun u s2 ⟨y,H2,I2,r2,q2⟩ =>
  thn (ho pins s2 σ H2 x y v u _ I2 r1 r2 q2) fun d s3 ⟨z,H3,I3,r3,k,e,q3⟩=>?_)) hm
 subst e;cases r3;refine wpAny_truthy_bool ?_
 cases k with
 |false=>exact ite_ff ⟨.bl false,H3,I3,rfl,q3⟩
 |true=>exact ite_tt (chain_last (thn (hc pins s3 σ H3 _ I3 q3) fun w' s4 ⟨z',H4,I4,r4,q4⟩=>ho' pins s4 σ H4 y z' u w' Q I4 r2 r4 q4))
theorem xAei{op op':CmpOp}{r r':R2}(ho:OpR X (compareOp op) r)(ho':OpR X (compareOp op') r')(ha:PE X a ta)(hb:PE X b tb)(hc:PE X c tc)(hm:lastMarks [op,op'] [b,c]=false:=by with_unfolding_all rfl):PT X (.Compare a [op,op'] [b,c] pos) (tTest (tChain r r' ta tb tc)):=by
 refine⟨?_⟩;intro pins s σ H Q I h
 refine isTrue_chain (thn (ha pins s σ H _ I h) fun v s1 ⟨x,H1,I1,r1,q1⟩=>test_link (thn (hb pins s1 σ H1 _ I1 q1) fun u s2 ⟨y,H2,I2,r2,q2⟩ =>
  thn (ho pins s2 σ H2 x y v u _ I2 r1 r2 q2) fun d s3 ⟨z,H3,I3,r3,k,e,q3⟩=>?_)) hm
 subst e;cases r3;refine wpAny_truthy_bool ?_
 cases k with
 |false =>
  obtain⟨k',e',q'⟩:=q3;cases e';exact ite_ff ⟨H3,I3,q'⟩
 |true =>
  refine ite_tt (test_last (thn (hc pins s3 σ H3 _ I3 q3) fun w' s4 ⟨z',H4,I4,r4,q4⟩=>thn (ho' pins s4 σ H4 y z' u w' _ I4 r2 r4 q4) fun d' s5 ⟨z2,H5,I5,r5,k2,e2,q5⟩=>?_));subst e2;cases r5;exact wpAny_truthy_bool ⟨H5,I5,q5⟩
theorem xAhr:(sizeLine:Nat)<2 ^ 63:=by rw[sizeLine_eq];decide
inductive IRop_add_str(x:V)(y:V)(H:Hp)(Q:VK):Prop
 |mk (i:_) (j:_) (h0_:x=.str i) (h1_:y=.str j) (h2_:i.length+j.length≤sizeLine) (h3_:Q (.str (i++j)) H):IRop_add_str x y H Q
def Rop_add_str:R2:=fun x y H Q=>IRop_add_str x y H Q
theorem xAaw:OpR X (binaryOp .Add) Rop_add_str:=by
 intro pins s σ H x y v u Q I rx ry h;obtain⟨i,j,rfl,rfl,hz,q⟩:=h;obtain⟨t,rfl⟩:=rx;obtain⟨t',rfl⟩:=ry;exact add_str (fun t' tk=>⟨.str (i++j),H,I.tok _,⟨_,rfl⟩,q⟩) hz
theorem vals1{x:V}{us:List Value}(r:Vals [x] us):∃u,us=[u]/\RelV x u:=by
 cases r with
 |cons r1 r2=>cases r2;exact⟨_,rfl,r1⟩
theorem vals2{x y:V}{us:List Value}(r:Vals [x,y] us):∃u w',us=[u,w']/\RelV x u/\RelV y w':=by
 cases r with
 |cons r1 r2 =>
  cases r2 with
  |cons r3 r4=>cases r4;exact⟨_,_,rfl,r1,r3⟩
inductive IRcall_max2(xs:List V)(H:Hp)(Q:VK):Prop
 |mk (i:_) (j:_) (h0_:xs=[.int i,.int j]) (h1_:Q (.int (if j>i then j else i)) H):IRcall_max2 xs H Q
def Rcall_max2:List V->Hp->VK->Prop:=fun xs H Q=>IRcall_max2 xs H Q
theorem xAej(hc:X.calm=true):CallR X (.builtin "max") Rcall_max2:=by
 intro pins s σ H xs us Q I r h;obtain⟨i,j,rfl,q⟩:=h;obtain⟨u,w',rfl,⟨t,rfl⟩,⟨t',rfl⟩⟩:=vals2 r;refine max_two_ints (I.ok.hd hc) fun h' tk k=>⟨_,H,I.kept k,?_,q⟩
 by_cases hj:j>i
 ·rw[if_pos hj,if_pos hj];exact⟨_,rfl⟩
 ·rw[if_neg hj,if_neg hj];exact⟨_,rfl⟩
theorem xAbs:CallR X (.type "int") (fun xs H Q=>(∃i,xs=[.int i]/\Q (.int i) H)\/∃k,xs=[.bl k]/\Q (.int (if k then 1 else 0)) H):=by
 intro pins s σ H xs us Q I r h;rcases h with⟨i,rfl,q⟩|⟨k,rfl,q⟩
 ·obtain⟨u,rfl,t,rfl⟩:=vals1 r
  exact call_int_int ⟨.int i,H,I,⟨_,rfl⟩,q⟩
 ·obtain⟨u,rfl,r1⟩:=vals1 r
  cases r1;exact call_int_bool ⟨.int (if k then 1 else 0),H,I.tok _,⟨_,rfl⟩,q⟩
end
structure ObjM(h:Heap)(x dx C:Addr)(mA:Str->Option Value):Prop where
 obj:h.get? x=some (PySem.W.instObj C dx)
 ns:h.Ns1 dx mA
 ne:dx≠x
theorem xAkz{h:Heap}{dx:Addr}{mA:Str->Option Value}(n:h.Ns1 dx mA):∃od,h.get? dx=some od/\∀name,PySem.W.lookIn name od=some (mA name):=by
 obtain⟨o,es,ep,ho,hd,hk,_,hm⟩:=n;refine⟨o,ho,fun name=>?_⟩;have e:=hm name;unfold nsFind findBy at e;rw[←Array.find?_toList]at e;unfold PySem.W.lookIn;rw[hd];dsimp only
 split
 ·rename_i y q
  rw[q]at e;exact congrArg some e
 ·rename_i q
  rw[q]at e
  have a:es.toList.any (·.refKey)=false:=by
   rw[List.any_eq_false];intro y hy;obtain⟨z,t,hkey⟩:=hk y (Array.mem_toList_iff.mp hy)
   simp[DictEntry.refKey,hkey]
  have a':¬es.toList.any (·.refKey)=true:=by rw[a];exact qx
  rw[if_neg a'];exact congrArg some e
theorem ObjM.look{h:Heap}{x dx C:Addr}{mA:Str->Option Value}(I:ObjM h x dx C mA):∃od,PySem.W.InstAt h x (PySem.W.instObj C dx) C (some od)/\∀name,PySem.W.lookIn name od=some (mA name) :=
 let⟨od,ho,hl⟩:=xAkz I.ns
 ⟨od,⟨I.obj,rfl,rfl,ho⟩,hl⟩
theorem RelO.some_of{v:V}{o:Option Value}(r:RelO (some v) o):∃u,o=some u/\RelV v u:=by
 cases o with
 |none=>exact(show False from r).elim
 |some u=>exact⟨u,rfl,r⟩
section
variable {P:Program}{w:World}{H H':Hp}{h h':Heap}{a C dx:Addr}{fs fs':List (Str×V)}
theorem xAqd(hok:HOk P w H h)(e:H a=some (.ins C dx fs)):∃mA,ObjM h a dx C mA/\(∀f,RelO (fs.lookup f) (mA f))/\PySem.Within mA (fs.map (·.1))/\fs.length≤1000/\H dx=some (.own a):=by
 obtain⟨d,z,ne,ob,mA,n,r,q⟩:=(show ObjOk P w H h a (.ins C dx fs) from hok a _ e);exact⟨mA,⟨ob,n,ne⟩,r,q,z,d⟩
end
structure Cls(K:PySem.W.Frag)(C:Addr):Prop where
 pg:PySem.W.plainGet K C Str.empty=true
 hd:PySem.W.hasDictIn K C=true
 po:PySem.W.plainOver K C=true
 sa:PySem.W.findIn K (.ref C) "__setattr__"=some (some (.builtin "object.__setattr__"))
theorem Cls.get{K:PySem.W.Frag}{C:Addr}(c:Cls K C)(f:Str):PySem.W.plainGet K C f=true:=c.pg
section
variable {X:Cx}{pins:List (Addr×Obj)}{σ:St}{H:Hp}{s:Shared}{A:Around}{E:Value->Shared->Prop}{Q:Value->Shared->Prop}{c:Value}{b:Bool}
inductive TyOf(K:PySem.W.Frag)(H:Hp):V->Value->Prop where
 |non:TyOf K H .non (.type "NoneType")
 |bl (x:Bool):TyOf K H (.bl x) (.type "bool")
 |int (i:Int):TyOf K H (.int i) (.type "int")
 |str (x:Str):TyOf K H (.str x) (.type "str")
 |flt (x:UInt64):TyOf K H (.flt x) (.type "float")
 |lst {a:Addr} {xs:List V} (e:H a=some (.lst xs)):TyOf K H (.ref a) (.type "list")
 |frz {a:Addr} {o:Obj} {xs:List V} (e:H a=some (.frz o (.lst xs))):TyOf K H (.ref a) (.type "list")
 |tup {a:Addr} {xs:List V} (e:H a=some (.tup xs)):TyOf K H (.ref a) (.type "tuple")
 |dK {a:Addr} {kvs:List (Key×V)} (e:H a=some (.dK kvs)):TyOf K H (.ref a) (.type "dict")
 |dT {a:Addr} {kvs:List (List Key×V)} (e:H a=some (.dT kvs)):TyOf K H (.ref a) (.type "dict")
 |dG {a:Addr} {kvs:List (KD×V×V)} (e:H a=some (.dG kvs)):TyOf K H (.ref a) (.type "dict")
 |ins {a C dx:Addr} {fs:List (Str×V)} (e:H a=some (.ins C dx fs)) (cl:Cls K C) (ha:PySem.W.findIn K (.ref C) "__class__"=some (some (.builtin "object.__class__")))
   (hn:PySem.W.specialIn K (.builtin "object.__class__") "__get__"=some (some (.builtin "getset_descriptor.__get__"))) (htk:PySem.W.takesIn K (.builtin "object.__class__")=some true)
   (hm:PySem.W.mroIn K C (.type "object")=some true):TyOf K H (.ref a) (.ref C)
theorem xAla{x:V}{u t:Value}(I:Inv X pins σ H s)(rx:RelV x u)(ty:TyOf X.K H x t)(e:PySem.W.kitOne X.K t c=some b)(h:∀tk,Q (.bool b) { s with toks:=tk }) :
  wpAny (model X.prog X.w) A (call (.builtin "isinstance") [u,c]) Q E s:=by
 cases ty with
 |non=>cases(show u=Value.none from rx);exact PySem.W.kia_one PySem.W.kitx_none I.kIn True.intro e (fun z=>nomatch z) h
 |bl y=>cases(show u=Value.bool y from rx);exact PySem.W.kia_one PySem.W.kitx_bool I.kIn True.intro e (fun z=>nomatch z) h
 |int i=>obtain⟨t,q⟩:=(show ∃t,u=Value.int i t from rx);cases q;exact PySem.W.kia_one PySem.W.kitx_int I.kIn True.intro e (fun z=>nomatch z) h
 |str y=>obtain⟨t,q⟩:=(show ∃t,u=Value.str y t from rx);cases q;exact PySem.W.kia_one PySem.W.kitx_str I.kIn True.intro e (fun z=>nomatch z) h
 |flt y=>obtain⟨t,q⟩:=(show ∃t,u=Value.float y t from rx);cases q;exact PySem.W.kia_one PySem.W.kitx_float I.kIn True.intro e (fun z=>nomatch z) h
 |@lst a xs ea =>
  cases(show u=Value.ref a from rx);obtain⟨_,_,n,_,h1⟩:=(show ObjOk X.prog X.w H s.heap a (.lst xs) from I.hok a _ ea);exact PySem.W.kia_one PySem.W.kitx_list I.kIn ⟨_,h1,rfl⟩ e (fun z=>nomatch z) h
 |@frz a ob xs ea =>
  cases(show u=Value.ref a from rx);obtain⟨_,_,_,n,_,h1⟩:=(show ObjOk X.prog X.w H s.heap a (.frz ob (.lst xs)) from I.hok a _ ea);exact PySem.W.kia_one PySem.W.kitx_list I.kIn ⟨_,h1,rfl⟩ e (fun z=>nomatch z) h
 |@tup a xs ea =>
  cases(show u=Value.ref a from rx);obtain⟨_,_,_,p⟩:=(show ObjOk X.prog X.w H s.heap a (.tup xs) from I.hok a _ ea);obtain⟨o,h1,h2,_⟩:=p;exact PySem.W.kia_one PySem.W.kitx_tuple I.kIn ⟨o,h1,h2⟩ e (fun z=>nomatch z) h
 |@dK a kvs ea =>
  cases(show u=Value.ref a from rx);obtain⟨_,_,vs,_,p⟩:=(show ObjOk X.prog X.w H s.heap a (.dK kvs) from I.hok a _ ea);obtain⟨o,es,ep,h1,h2,_⟩:=p;exact PySem.W.kia_one PySem.W.kitx_dict I.kIn ⟨o,h1,h2.1⟩ e (fun z=>nomatch z) h
 |@dT a kvs ea =>
  cases(show u=Value.ref a from rx);obtain⟨_,_,xs,_,o,es,ep,h1,h2,_⟩:=(show ObjOk X.prog X.w H s.heap a (.dT kvs) from I.hok a _ ea);exact PySem.W.kia_one PySem.W.kitx_dict I.kIn ⟨o,h1,h2.1⟩ e (fun z=>nomatch z) h
 |@dG a kvs ea =>
  cases(show u=Value.ref a from rx);obtain⟨_,_,xs,_,o,es,ep,h1,h2,_⟩:=(show ObjOk X.prog X.w H s.heap a (.dG kvs) from I.hok a _ ea);exact PySem.W.kia_one PySem.W.kitx_dict I.kIn ⟨o,h1,h2.1⟩ e (fun z=>nomatch z) h
 |@ins a C dx fs ea cl ha hn htk hm =>
  cases(show u=Value.ref a from rx);obtain⟨mA,O,_⟩:=xAqd I.hok ea;obtain⟨od,J,_⟩:=O.look;exact PySem.W.kia_one (PySem.W.kitx_own (cl.get _) cl.hd ha hn htk hm) I.kIn J e (fun z=>nomatch z) h
end
structure Room(k:Nat)(A:Around):Prop where
 hd:A.handled=none
 dp:A.depth+3 * k+5<recursionLimit
 un:A.units+16 * k+200<cLine
theorem Room.mono{j k:Nat}{A:Around}(r:Room k A)(h:j≤k):Room j A:=⟨r.hd,by have:=r.dp;omega,by have:=r.un;omega⟩
theorem Room.deeper{k:Nat}{A:Around}(r:Room (k+1) A)(env:Env):Room k (A.deeper env) :=
 ⟨r.hd,by have:=r.dp;show A.depth+1+3 * k+5<_;omega,by have:=r.un;show A.units+3+16 * k+200<_;omega⟩
theorem Room.depth{k:Nat}{A:Around}(r:Room k A):A.depth<recursionLimit:=by have:=r.dp;omega
theorem Room.units{k:Nat}{A:Around}(r:Room k A):A.units+64<cLine:=by have:=r.un;omega
def tNil:TA:=fun _ H Q=>Q [] H
def tCons(ta:TE)(tr:TA):TA:=fun σ H Q=>ta σ H fun x H1=>tr σ H1 fun xs H2=>Q (x::xs) H2
section
variable {X:Cx}{e:Expr}{es:List Expr}{te:TE}{t:TA}{pos:Pos}
theorem xAhs:PA X [] tNil:=⟨fun _ _ _ _ H Q I h=>Calls.spliced_nil ⟨[],H,I,.nil,h⟩⟩
theorem xAii(ha:PE X e te)(hr:PA X es t)(hs:starEach (e::es) X.env=(false,eval e X.env)::starEach es X.env:=by rfl):PA X (e::es) (tCons te t):=by
 refine⟨?_⟩;intro pos pins s σ H Q I h;rw[hs];show wpAny _ _ (spliced ((false,eval e X.env)::backTo pos (starEach es X.env))) _ _ s;refine Calls.spliced_cons (thn (ha pins s σ H _ I h) fun u s1 ⟨x,H1,I1,r1,q1⟩=>?_);exact thn (hr pos pins s1 σ H1 _ I1 q1) fun us s2 ⟨xs,H2,I2,r2,q2⟩=>⟨x::xs,H2,I2,.cons r1 r2,q2⟩
end
abbrev Sp:=List V->Hp->VK->XK->Prop
abbrev CXT:=List Env->Hp->Shared->XK->Value->Shared->Prop
structure Env0(P:Program)(w:World)(K:PySem.W.Frag)(mg:Str->Option Value)(base:Heap)(A:Around)(outer:List Env)(s:Shared)(H:Hp):Prop where
 frames:A.frames=some outer
 mod:Mod K mg base
 bs:∀b o,base.get? b=some o->s.heap.get? b=some o/\(H b=none\/∃xs,H b=some (.tup xs))
 bsz:base.objs.size≤s.heap.objs.size
 funs:s.heap.FunFrames base outer
 frf:∀b∈frs outer,H b=none
 hok:HOk P w H s.heap
 bare:AllBare s.gens
def CE(outer:List Env)(P:Program)(w:World)(H:Hp)(s:Shared)(Q:VK)(u:Value)(s':Shared):Prop :=
 ∃v H',s'.os=s.os/\AllBare s'.gens/\Un (frs outer) [] H H' s.heap s'.heap/\HOk P w H' s'.heap/\RelV v u/\Q v H'
def CR(CX:CXT)(outer:List Env)(P:Program)(w:World)(H:Hp)(s:Shared)(Q:VK)(E:XK)(r:Result)(s':Shared):Prop :=
 match r with
 |.ok (.ret u)=>CE outer P w H s Q u s'
 |.ok _=>False
 |.error e=>CX outer H s E e s'
structure FnOk(P:Program)(w:World)(K:PySem.W.Frag)(mg:Str->Option Value)(base:Heap)(CX:CXT)(k:Nat)(f:Addr)(fd:FuncData)(ps:List Str)(sp:Sp):Prop where
 len:∀vs H Q E,sp vs H Q E->vs.length=ps.length
 run:∀(A:Around) (outer:List Env) (s:Shared) (H:Hp) (args:Args) (us:List Value) (vs:List V) (Q:VK) (E:XK),Room k A->Env0 P w K mg base A outer s H->BindsTo s fd args (ps.zip us)->Vals vs us->sp vs H Q E →
  codeAny (model P w) A (.call (.ref f) args) (CR CX outer P w H s Q E) s
section
variable {X:Cx}{pins:List (Addr×Obj)}{σ:St}{H:Hp}{s s':Shared}
theorem Inv.env0(I:Inv X pins σ H s):Env0 X.prog X.w X.K X.mg X.base X.A X.stack s H :=
 ⟨I.ok.frames,I.ok.mod,I.bs,qf I.ok.bsz I.sz,I.stack,I.stkFree,I.hok,I.bare⟩
theorem Inv.after{Q:VK}{u:Value}(I:Inv X pins σ H s)(h:CE X.stack X.prog X.w H s Q u s'):EP X pins σ Q u s':=by
 obtain⟨v,H',os,bare,un,hok,r,q⟩:=h;obtain⟨hh,g,d,t,os'⟩:=s';obtain rfl:os'=s.os:=os;exact⟨v,H',I.call (h':=hh) (g':=g) (d':=d) (t':=t) (ch:=[]) un hok bare (fun b z=>absurd z (by simp)),r,q⟩
end
def tCall(sp:Sp)(dvs:List V)(E:XK)(t:TA):TE:=fun σ H Q=>t σ H fun vs H1=>sp (vs++dvs) H1 Q E
def Binds(K:PySem.W.Frag)(fd:FuncData)(ps:List Str)(ds:List Value):Prop :=
 ∀(s:Shared) (us:List Value),K.In s.heap->(us++ds).length=ps.length->BindsTo s fd ⟨us,[]⟩ (ps.zip (us++ds))
theorem Binds.all{K:PySem.W.Frag}{fd:FuncData}{ps:List Str}(h:∀us:List Value,us.length=ps.length->bindArgs fd ⟨us,[]⟩=pure (ps.zip us)):Binds K fd ps []:=fun s us _ hl=>by
 rw[vm]at hl ⊢;exact .of_eq (h us hl)
def Passes(CX:CXT)(X:Cx)(E:XK):Prop:=∀(pins:List (Addr×Obj)) (σ:St) (H:Hp) (s:Shared) (e:Value) (s':Shared),Inv X pins σ H s->CX X.stack H s E e s'->X.xe e s'
section
variable {X:Cx}{CX:CXT}{k:Nat}{f C:Addr}{fd:FuncData}{ps:List Str}{sp:Sp}{dvs:List V}{ds:List Value}{E:XK}{x m:Str}{p pos apos:Pos}{e o:Expr}{es:List Expr}{ta:TE}{t:TA}
theorem xAok{pins:List (Addr×Obj)}{σ:St}{H:Hp}{s:Shared}{Q:VK}{us:List Value}{vs:List V}(F:FnOk X.prog X.w X.K X.mg X.base CX k f fd ps sp)(hr:Room k X.A)(hb:Binds X.K fd ps ds)(hd:Vals dvs ds)(hx:Passes CX X E)(I:Inv X pins σ H s)(r:Vals vs us)(h:sp (vs++dvs) H Q E):wpAny (model X.prog X.w) X.A (call (.ref f) us) (EP X pins σ Q) X.xe s:=by
 have r2:Vals (vs++dvs) (us++ds):=r.append hd
 have hl:(us++ds).length=ps.length:=by rw[←r2.length];exact F.len _ _ _ _ h
 refine wpAny_call (codeAny_mono (F.run X.A X.stack s H ⟨us,[]⟩ (us++ds) (vs++dvs) Q E hr I.env0 (hb s us I.kIn hl) r2 h) fun r s' hq=>?_)
 cases r with
 |error e=>exact hx pins σ H s e s' I hq
 |ok fl =>
  cases fl with
  |ret u=>exact I.after hq
  |next=>exact False.elim hq
  |brk=>exact False.elim hq
  |cont=>exact False.elim hq
theorem xAne(F:FnOk X.prog X.w X.K X.mg X.base CX k f fd ps sp)(hr:Room k X.A)(hg:Gl X x)(hm:X.mg x=some (.ref f))(hk:PySem.W.keepIn X.K (.ref f)=true)(hb:Binds X.K fd ps ds)(hd:Vals dvs ds)(hx:Passes CX X E)(ha:PA X (e::es) t)(hdb:(x==("__debug__":Str))=false:=by decide)(he:starEach (e::es) X.env=(false,eval e X.env)::starEach es X.env:=by rfl)(hpl:(backTo pos (starEach es X.env)).any (·.1)=false:=by rfl) :
  PE X (.Call (.Name x p) (e::es) [] pos) (tCall sp dvs E t):=by
 refine⟨?_⟩;intro pins s σ H Q I h;refine wpAny_Call_Name_kw (xAdi I hg hm ?_ hdb);refine PySem.W.callWith_K (h₀:=X.base) I.ok.mod.kin hk (thn (ha pos pins s σ H _ I h) fun us s1 ⟨vs,H1,I1,r,q⟩=>⟨I1.kIn,?_⟩) he hpl;exact xAok F hr hb hd hx I1 r q
end
structure FnScope(N P:List Str)(sc:Scope):Prop where
 kind:sc.kind=.function
 co:sc.isCoroutine=false
 gen:sc.isGenerator=false
 nd:N.Nodup
 pre:N.take P.length=P
 par:∀x∈P,sc.names.lookup x=some .local\/sc.names.lookup x=some .cell
 nofree:∀y∈sc.names,y.2≠.free
theorem xAgk{kindOf:Str->Option NameKind}{x:Str}:∀{binds:List (Str×Value)} {m:Str->Option Value},(∀v,(x,v)∉binds)->bindL kindOf binds m x=m x
 |[],_,_=>rfl
 |(n,v)::r,m,h=>by
  unfold bindL;rw[xAgk fun w hw=>h w (qk _ hw)]
  split
  ·have:x≠n:=by rintro rfl;exact h v qm
   simp[this]
  ·rfl
theorem xAgl{kindOf:Str->Option NameKind}{x:Str}:∀{binds:List (Str×Value)} {m:Str->Option Value},(∀v,(x,v)∉binds)->bindC kindOf binds m x=m x
 |[],_,_=>rfl
 |(n,v)::r,m,h=>by
  unfold bindC;rw[xAgl fun w hw=>h w (qk _ hw)]
  split
  ·rfl
  ·have:x≠n:=by rintro rfl;exact h v qm
   simp[this]
theorem xAgm{kindOf:Str->Option NameKind}{x:Str}{v:Value}:∀{P:List Str} {vs:List Value} {i:Nat} {m:Str->Option Value},P.Nodup->P[i]?=some x->vs[i]?=some v->kindOf x=some .local →
  bindL kindOf (P.zip vs) m x=some v
 |[],_,_,_,_,h,_,_=>by simp at h
 |_::_,[],_,_,_,_,h,_=>by simp at h
 |p::P,w::vs,0,m,nd,h1,h2,hk=>by
  simp at h1 h2;subst h1;subst h2
  show bindL kindOf ((p,w)::P.zip vs) m p=_;unfold bindL;rw[xAgk fun v hv=>(zv.mp nd).1 (jg hv).1,if_pos hk]
  simp
 |p::P,w::vs,i+1,m,nd,h1,h2,hk=>by
  show bindL kindOf ((p,w)::P.zip vs) m x=_;unfold bindL;exact xAgm (i:=i) (List.nodup_cons.mp nd).2 (by simpa using h1) (by simpa using h2) hk
theorem xAgn{kindOf:Str->Option NameKind}{x:Str}{v:Value}:∀{P:List Str} {vs:List Value} {i:Nat} {m:Str->Option Value},P.Nodup->P[i]?=some x->vs[i]?=some v->kindOf x≠some .local →
  bindC kindOf (P.zip vs) m x=some v
 |[],_,_,_,_,h,_,_=>by simp at h
 |_::_,[],_,_,_,_,h,_=>by simp at h
 |p::P,w::vs,0,m,nd,h1,h2,hk=>by
  simp at h1 h2;subst h1;subst h2
  show bindC kindOf ((p,w)::P.zip vs) m p=_;unfold bindC;rw[xAgl fun v hv=>(zv.mp nd).1 (jg hv).1,if_neg hk]
  simp
 |p::P,w::vs,i+1,m,nd,h1,h2,hk=>by
  show bindC kindOf ((p,w)::P.zip vs) m x=_;unfold bindC;exact xAgn (i:=i) (List.nodup_cons.mp nd).2 (by simpa using h1) (by simpa using h2) hk
def start(N:List Str)(vs:List V):St:=vs.map some++List.replicate (N.length - vs.length) none
def cxOf(CX:CXT)(P:Program)(w:World)(K:PySem.W.Frag)(mg:Str->Option Value)(base:Heap)(N:List Str)(qual:Str)(scope:Scope)(f:Addr)(cd:Value)(A:Around)(outer:List Env)(s:Shared)(H:Hp)(E:XK):Cx where
 prog:=P
 w:=w
 K:=K
 mg:=mg
 base:=base
 A:=A.deeper (envOfC qual scope s.heap.objs.size f cd)
 N:=N
 s₀:=s
 H₀:=H
 env:=envOfC qual scope s.heap.objs.size f cd
 outer:=outer
 stack:=envOfC qual scope s.heap.objs.size f cd::outer
 ex:=[]
 calm:=true
 fn:=fun _=>true
 pn:=[]
 xe:=fun e s'=>wpAny (model P w) (A.deeper (envOfC qual scope s.heap.objs.size f cd)) (leaving (envOfC qual scope s.heap.objs.size f cd) e) (fun _ s''=>CX outer H s E e s'') (fun e' s''=>CX outer H s E e' s'') s'
theorem xAek{sc:Scope}{n:Nat}{x:Str}(h:sc.names.lookup x=some .cell):∃c,(cellsFrom n sc.names []).lookup x=some c:=by
 have q:=PySem.W.cellsFrom_some sc.names n [] (.inl h);exact jh.mp q
theorem xAlb{CX:CXT}{P:Program}{w:World}{K:PySem.W.Frag}{mg:Str->Option Value}{base:Heap}{N ps:List Str}{qual:Str}{scope:Scope}{f:Addr}{cd:Value}{A:Around}{outer:List Env}{s s1:Shared}{H:Hp}{E:XK}{us:List Value}{vs:List V}(S:FnScope N ps scope)(hd:A.handled=none)(e0:Env0 P w K mg base A outer s H)(hl:vs.length=ps.length)(r:Vals vs us)(x:InCallC s s.heap.objs.size (bindL (envOfC qual scope s.heap.objs.size f cd).kindOf (ps.zip us) fun _=>none) (cellsFrom (s.heap.objs.size+1) scope.names []) (bindC (envOfC qual scope s.heap.objs.size f cd).kindOf (ps.zip us) fun _=>none) s1) :
  Inv (cxOf CX P w K mg base N qual scope f cd A outer s H E) [] (start N vs) H s1:=by
 have hpl:ps.length≤N.length:=by have:=congrArg List.length S.pre;rw[zw]at this;omega
 obtain⟨h1,tk,rfl,hk⟩:=x.done
 have noA:∀b:Addr,b∉(cxOf CX P w K mg base N qual scope f cd A outer s H E).ex:=fun b z=>absurd (show b∈([]:List Addr) from z) (by simp)
 refine⟨⟨e0.mod,S.kind,rfl,rfl,qd _,fun y z c h1 h2=>?_,fun y hy=>?_,fun y c _ h=>?_,fun _=>hd,Around.frames_deeper e0.frames,.inr ⟨rfl,rfl⟩,fun b z=>absurd z (noA b),e0.bs,e0.bsz,fun b _ _=>noA b,fun b z=>absurd z (noA b),e0.funs,e0.frf⟩,
  rfl,e0.bare,Un.kept hk,⟨_,x.toInCall.ns,fun i y v h1 h2 h3=>?_⟩,fun y c h=>⟨_,x.cell y c h⟩,e0.hok.fresh (Nat.le_refl _),fun y c h=>?_,fun p hp=>absurd (show p∈([]:List (Addr×Obj)) from hp) (by simp),e0.hok.kept hk,?_⟩
 ·exact name_of_addr x.apart (PySem.mem_of_lookup h1) (PySem.mem_of_lookup h2)
 ·have hy:scope.names.lookup y=some .cell\/scope.names.lookup y=some .free:=hy
  rcases hy with hy|hy
  ·exact xAek hy
  ·exact absurd rfl (S.nofree _ (PySem.mem_of_lookup hy))
 ·exact qg (x.above y c (PySem.mem_of_lookup h))
 ·have hi:i<vs.length:=by
   unfold start at h2
   by_cases hi:i<vs.length
   ·exact hi
   ·rw[List.getElem?_append_right (by simpa using hi)]at h2
    rw[yc]at h2
    split at h2 <;> cases h2
  have ha:vs[i]?=some v:=by
   unfold start at h2;rw[List.getElem?_append_left (by simpa using hi),List.getElem?_map]at h2
   cases e:vs[i]? with
   |none=>rw[e]at h2;cases h2
   |some a=>rw[e]at h2;cases h2;rfl
  obtain⟨u,hu,rv⟩:=r.get ha
  have hp:ps[i]?=some y:=by
   rw[←S.pre,List.getElem?_take_of_lt (by omega)];exact h1
  have ndP:ps.Nodup:=by rw[←S.pre];exact S.nd.sublist (List.take_sublist _ _)
  refine⟨u,rv,?_⟩;rcases S.par y (qz hp) with k|k
  ·exact .inl ⟨k,xAgm ndP hp hu k⟩
  ·obtain⟨c,e⟩:=xAek (n:=s.heap.objs.size+1) k
   refine .inr ⟨.inl k,c,e,?_⟩;have q:=x.cell y c e;rw[xAgn ndP hp hu (by show scope.names.lookup y≠_;rw[k];decide)]at q;exact q
 ·exact e0.hok.fresh (qg (x.above y c (PySem.mem_of_lookup h)))
 ·unfold start
  show _=N.length;rw[ql,qc,jy];omega
theorem fn_of{CX:CXT}{P:Program}{w:World}{K:PySem.W.Frag}{mg:Str->Option Value}{base:Heap}{k:Nat}{f:Addr}{name qual:Str}{params:Arguments}{body:List Stmt}{scope:Scope}{dV kV doc pm cdv ct oc:Value}{an od:Option Addr}{osl:Array (Option Value)}{N ps:List Str}{sp:Sp}(lk:K.lookup f=some ⟨oc,od,.func (PySem.W.fnOf name qual params body scope dV kV doc pm an cdv ct),osl⟩)(hcd:PySem.W.codeIn K cdv qual=true)(S:FnScope N ps scope)(len:∀vs H Q E,sp vs H Q E->vs.length=ps.length)(hbody:∀(A:Around) (outer:List Env) (s:Shared) (H:Hp) (vs:List V) (Q:VK) (E:XK),Room k (A.deeper (envOfC qual scope s.heap.objs.size f cdv))->sp vs H Q E →
   ∃t,PSs (cxOf CX P w K mg base N qual scope f cdv A outer s H E) body t/\t { nx:=fun _ H'=>Q .non H',rt:=Q } (start N vs) H) :
  FnOk P w K mg base CX (k+1) f (PySem.W.fnOf name qual params body scope dV kV doc pm an cdv ct) ps sp:=by
 refine⟨len,fun A outer s H args us vs Q E hr e0 hb r hsp=>?_⟩;have hl:=len _ _ _ _ hsp;have KX:K.In s.heap:=e0.mod.kin.keeps fun b o e=>(e0.bs b o e).1;have lim:s.heap.NoLimit:=e0.mod.nolimit.keeps fun b o e=>(e0.bs b o e).1
 have hkind:∀y∈ps.zip us,scope.names.lookup y.1=some .local\/(scope.names.lookup y.1=some .cell/\((cellsFrom (s.heap.objs.size+1) scope.names []).lookup y.1).isSome=true):=fun⟨n,v⟩ hy=>by
  rcases S.par n (jg hy).1 with q|q
  ·exact .inl q
  ·exact .inr ⟨q,PySem.W.cellsFrom_some _ _ _ (.inl q)⟩
 refine codeAny_call_function hr.depth (KX _ _ lk) rfl S.co S.gen rfl (PySem.W.codeRec_of KX hcd) (hb _ _ _ _ ?_);refine wpAny_newFunctionEnv_cells S.kind hkind fun env he s1 x=>?_;subst he;refine⟨lim.keeps x.toInCall.keep,codeAny_func ?_⟩;obtain⟨t,ht,hq⟩:=hbody A outer s H vs Q E (hr.deeper _) hsp;have I:Inv (cxOf CX P w K mg base N qual scope f cdv A outer s H E) [] (start N vs) H s1:=xAlb S hr.hd e0 hl r x;refine wpAny_mono (ht [] s1 (start N vs) H _ I hq) (fun fl s' hs=>?_) fun e s' hs=>hs
 have fin:∀{σ':St} {H':Hp} {v:V} {u:Value},Inv (cxOf CX P w K mg base N qual scope f cdv A outer s H E) [] σ' H' s'->RelV v u->Q v H'->CE outer P w H s Q u s' :=
  fun{σ' H' v u} J rv q=>⟨v,H',J.os,J.bare,J.base,J.hok,rv,q⟩
 cases fl with
 |ret u =>
  obtain⟨v,σ',H',J,rv,q⟩:=hs;exact fin J rv q
 |next =>
  obtain⟨σ',H',J,q⟩:=hs;exact fin (v:=V.non) (u:=Value.none) J rfl q
 |brk =>
  obtain⟨_,_,_,q⟩:=hs;exact False.elim q
 |cont =>
  obtain⟨_,_,_,q⟩:=hs;exact False.elim q
section
variable {X:Cx}{x:Str}{p pos:Pos}{e:Expr}{es:List Expr}{t:TA}{id T:String}{r:List V->Hp->VK->Prop}
def tCB(r:List V->Hp->VK->Prop)(t:TA):TE:=fun σ H Q=>t σ H fun vs H1=>r vs H1 Q
theorem xAol(hc:CallR X (.builtin id) r)(hg:Gl X x)(hm:X.mg x=none)(hv:bootBuiltins x=some (.builtin id))(ha:PA X (e::es) t)(hn:x≠"__name__":=by decide)(hdb:(x==("__debug__":Str))=false:=by decide)(he:starEach (e::es) X.env=(false,eval e X.env)::starEach es X.env:=by rfl)(hpl:(backTo pos (starEach es X.env)).any (·.1)=false:=by rfl):PE X (.Call (.Name x p) (e::es) [] pos) (tCB r t):=by
 refine⟨?_⟩;intro pins s σ H Q I h;refine wpAny_Call_Name_kw (xAho I hg hm hv ?_ hn hdb);exact PyProof.Rows.callWith_builtin1 (thn (ha pos pins s σ H _ I h) fun us s1 ⟨vs,H1,I1,r1,q1⟩=>hc pins s1 σ H1 vs us Q I1 r1 q1) he hpl
theorem xAlc(hc:CallR X (.type T) r)(hg:Gl X x)(hm:X.mg x=none)(hv:bootBuiltins x=some (.type T))(ha:PA X (e::es) t)(hn:x≠"__name__":=by decide)(hdb:(x==("__debug__":Str))=false:=by decide)(he:starEach (e::es) X.env=(false,eval e X.env)::starEach es X.env:=by rfl)(hpl:(backTo pos (starEach es X.env)).any (·.1)=false:=by rfl):PE X (.Call (.Name x p) (e::es) [] pos) (tCB r t):=by
 refine⟨?_⟩;intro pins s σ H Q I h;refine wpAny_Call_Name_kw (xAho I hg hm hv ?_ hn hdb);exact PyProof.Rows.callWith_type1 (thn (ha pos pins s σ H _ I h) fun us s1 ⟨vs,H1,I1,r1,q1⟩=>hc pins s1 σ H1 vs us Q I1 r1 q1) he hpl
end
end L2
namespace HT
open PySem PyProof.Rows
section
variable {prog:Program}{w:World}{A:Around}{E:Value->Shared->Prop}{s:Shared}
theorem cat_tup{t b:Addr}{vs ws:List Value}{Q:Value->Shared->Prop}(ht:IsTup s.heap t vs.toArray)(hb:IsTup s.heap b ws.toArray)(hv:vs≠[])(h1:ws=[]->Q (.ref t) s)(h2:ws≠[]->Q (.ref s.heap.objs.size) { s with heap:=s.heap.push { cls:=.type "tuple",data:=.seq (vs++ws).toArray } })(hsz:vs.length+ws.length≤sizeLine):wpAny (model prog w) A (binaryOp .Add (.ref t) (.ref b)) Q E s:=by
 obtain⟨⟨cls,dd,data,sl⟩,ho,hc,n,hd⟩:=id ht;obtain⟨⟨cls2,dd2,data2,sl2⟩,ho2,hc2,n2,hd2⟩:=id hb
 simp only at hc hd hc2 hd2
 subst hc hd hc2 hd2
 have e:vs.toArray++ws.toArray=(vs++ws).toArray:=by simp
 by_cases hw:ws=[]
 ·exact concat_meets ⟨_,ho,rfl⟩ ⟨_,ho2,rfl⟩ noFill_tuple_add seq_tuple_add PySem.F.slot_tuple_add PySem.F.entry_tuple_add (PySem.F.args_tuple_add_2 _ _)
   (tuple_addW1 t b vs.toArray ws.toArray n n2 dd dd2 sl sl2 (by simpa using hv) (by simp[hw])) ⟨ho,ho2,h1 hw⟩
 ·refine concat_meets ⟨_,ho,rfl⟩ ⟨_,ho2,rfl⟩ noFill_tuple_add seq_tuple_add PySem.F.slot_tuple_add PySem.F.entry_tuple_add (PySem.F.args_tuple_add_2 _ _)
   (tuple_addW2 t b vs.toArray ws.toArray n n2 dd dd2 sl sl2 (by simpa using hv) (by simpa using hw) (by rw[List.size_toArray,List.size_toArray];exact hsz)) ⟨ho,ho2,?_⟩
  rw[e];exact h2 hw
def sIx(n d:Nat):Option Int->Nat
 |none=>d
 |some v=>if v<0 then(v+(n:Int)).toNat else min v.toNat n
theorem sIx_none(n d:Nat):sIx n d none=d:=rfl
theorem sIx_nat(n d k:Nat):sIx n d (some (k:Int))=min k n:=by
 show(if(k:Int)<0 then((k:Int)+(n:Int)).toNat else min (k:Int).toNat n)=min k n;rw[if_neg (by omega),Int.toNat_natCast]
theorem sIx_le(n d:Nat)(hd:d≤n)(o:Option Int):sIx n d o≤n:=by
 cases o with
 |none=>exact hd
 |some v =>
  show(if v<0 then(v+(n:Int)).toNat else min v.toNat n)≤n
  by_cases hv:v<0
  ·rw[if_pos hv];omega
  ·rw[if_neg hv];exact Nat.min_le_right _ _
theorem xAnf(v:Int)(n d:Nat):(if v<0 then max (v+(n:Int)) 0 else min v (n:Int))=((sIx n d (some v):Nat):Int):=by
 show(if v<0 then max (v+(n:Int)) 0 else min v (n:Int))=(((if v<0 then(v+(n:Int)).toNat else min v.toNat n):Nat):Int)
 by_cases hv:v<0
 ·simp only[if_pos hv];omega
 ·simp only[if_neg hv];omega
theorem xAij(lo hi:Option Int)(n:Nat):Builtin.Slice.sliceAdjust lo hi 1 (n:Int)=(((sIx n 0 lo:Nat):Int),((sIx n n hi:Nat):Int)):=by
 have h1:¬((1:Int)<0):=by omega
 unfold Builtin.Slice.sliceAdjust
 simp only[h1,if_false]
 refine Prod.ext ?_ ?_
 ·cases lo with
  |none=>rfl
  |some v=>exact xAnf v n 0
 ·cases hi with
  |none=>rfl
  |some v=>exact xAnf v n n
theorem xAik(i j:Nat):Builtin.Slice.slicePlaces (i:Int) (j:Int) 1=j - i:=by
 unfold Builtin.Slice.slicePlaces
 have h1:(1:Int)>0:=by omega
 simp only[h1,if_true,Int.ediv_one]
 split <;> omega
theorem xAet{v:Value}{o:Option Int}{Q:Option Int->Shared->Prop}(p:IsPart v o)(h:Q o s):wpAny (model prog w) A (Builtin.Slice.slicePartIndex v) Q E s:=by
 cases p with
 |none=>exact slicePart_none h
 |int i t=>exact slicePart_int h
theorem xAdk{sl:Addr}{vl vu:Value}{lo hi:Option Int}{n:Nat}{Q:Int×Int×Nat->Shared->Prop}(hs:s.heap.IsSliceOf sl vl vu .none)(pl:IsPart vl lo)(pu:IsPart vu hi)(h:Q (((sIx n 0 lo:Nat):Int),1,sIx n n hi - sIx n 0 lo) s):wpAny (model prog w) A (Builtin.Slice.sliceApplied (.ref sl) (pure (n:Int))) Q E s:=by
 obtain⟨os,hos,hcs,hds⟩:=id hs;unfold Builtin.Slice.sliceApplied Builtin.Slice.sliceFields;refine wpAny_bind (wpAny_bind (wpAny_field hos hds (x:=vl) rfl (wpAny_bind (wpAny_field hos hds (x:=vu) rfl (wpAny_bind (wpAny_field hos hds (x:=.none) rfl (wpAny_pure ?_)))))));refine wpAny_bind (slicePart_none ?_);show wpAny _ _ (if((1:Int)==0)=true then _ else _) _ _ s;rw[if_neg (by decide)];refine wpAny_bind (xAet pl (wpAny_bind (xAet pu (wpAny_bind (wpAny_pure ?_)))));show wpAny _ _ (match Builtin.Slice.sliceAdjust lo hi 1 (n:Int) with|(lo,hi)=>pure (lo,(1:Int),Builtin.Slice.slicePlaces lo hi 1)) _ _ s;rw[xAij lo hi n];show wpAny _ _ (pure (((sIx n 0 lo:Nat):Int),(1:Int),Builtin.Slice.slicePlaces ((sIx n 0 lo:Nat):Int) ((sIx n n hi:Nat):Int) 1)) _ _ s;rw[xAik];exact wpAny_pure h
theorem xAom(xs:Array Value)(i k:Nat):((List.range k).filterMap fun(m:Nat)=>xs[((i:Int)+(m:Int) * 1).toNat]?).toArray=((xs.toList.drop i).take k).toArray:=by
 have e:(fun(m:Nat)=>xs[((i:Int)+(m:Int) * 1).toNat]?)=fun m=>xs[i+m]?:=by
  funext m
  have:((i:Int)+(m:Int) * 1).toNat=i+m:=by omega
  rw[this]
 rw[e];have:=pick_run xs i k;rw[ji]at this;have e2:((fun x=>xs[x]?)∘fun x=>i+x)=fun m=>xs[i+m]?:=rfl;rw[e2]at this;rw[this]
theorem getItem_tuple_cut{t sl:Addr}{items:Array Value}{vl vu:Value}{lo hi:Option Int}{Q:Value->Shared->Prop}(ht:IsTup s.heap t items)(hs:s.heap.IsSliceOf sl vl vu .none)(pl:IsPart vl lo)(pu:IsPart vu hi)(hw:¬(sIx items.size 0 lo=0/\sIx items.size items.size hi=items.size))(h:Q (.ref s.heap.objs.size) { s with heap:=s.heap.push { cls:=.type "tuple",data:=.seq ((items.toList.drop (sIx items.size 0 lo)).take (sIx items.size items.size hi - sIx items.size 0 lo)).toArray } })(hsz:items.size≤sizeLine):wpAny (model prog w) A (getItem (.ref t) (.ref sl)) Q E s:=by
 have htake:sizeOk (.seq ((items.toList.drop (sIx items.size 0 lo)).take (sIx items.size items.size hi - sIx items.size 0 lo)).toArray):=by
  show((items.toList.drop (sIx items.size 0 lo)).take (sIx items.size items.size hi - sIx items.size 0 lo)).toArray.size≤sizeLine;rw[zi,zw,wb,zx];omega
 have hj:sIx items.size items.size hi≤items.size:=sIx_le _ _ (qd _) hi;obtain⟨os,hos,hcs,hds⟩:=id hs;have hTs:s.TypeIs (.ref sl) "slice":=⟨os,hos,hcs⟩;unfold getItem
 try with_reducible refine wpAny_holding ?_
 first|refine wpAny_bind (wpAny_pure ?_)|skip
 refine wpAny_bind (wpAny_sequenceKey ht.typeIs (by decide) ?_)
 refine wpAny_bind (wpAny_callSpecial?_slot (name:=Str.ofString "__getitem__") ht.typeIs PyProof.Rows.slot_tuple_getitem
  (wpAny_call_entry PyProof.Rows.slot_tuple_getitem ht.typeIs entry_tuple_getitem ?_ (args_tuple_getitem _ _)))
 show wpAny _ _ (Builtin.Tuple.tupleItemsOf (.ref t) >>= _) _ _ s;refine wpAny_bind (tupleItemsOf_ ht ?_);refine wpAny_bind (wpAny_typeOf hTs ?_);rw[if_pos (by decide)];refine wpAny_bind (xAdk hs pl pu ?_)
 have hno:¬((((sIx items.size 0 lo:Nat):Int)==0&&(1:Int)==1&&(sIx items.size items.size hi - sIx items.size 0 lo)==items.size)=true):=by
  intro q;rw[qr,qr]at q;have q1:((sIx items.size 0 lo:Nat):Int)=0:=eq_of_beq q.1.1;have q2:sIx items.size items.size hi - sIx items.size 0 lo=items.size:=eq_of_beq q.2;exact hw ⟨by omega,by omega⟩
 show wpAny _ _ (if(((sIx items.size 0 lo:Nat):Int)==0&&(1:Int)==1&&(sIx items.size items.size hi - sIx items.size 0 lo)==items.size)=true then _ else _) _ _ s;rw[if_neg hno,xAom]
 first
  |exact wpAny_bind (m:=Builtin.Tuple.tupleExact _) (wpAny_newObj_type (wpAny_pure ⟨_,rfl,wpAny_pure h⟩) htake)
  |exact wpAny_bind (m:=Builtin.Tuple.tupleExact _) (wpAny_newObj_type (wpAny_bind (wpAny_pure (wpAny_pure ⟨_,rfl,wpAny_pure h⟩))) htake)
  |exact wpAny_bind (wpAny_bind (m:=Builtin.Tuple.tupleExact _) (wpAny_newObj_type (wpAny_pure (wpAny_pure ⟨_,rfl,wpAny_pure h⟩)) htake))
  |exact wpAny_bind (wpAny_bind (m:=Builtin.Tuple.tupleExact _) (wpAny_newObj_type (wpAny_pure ⟨_,rfl,wpAny_pure h⟩) htake))
end
end HT
namespace L2
open PySem PySem.Spec PyProof.Rows
abbrev TO:=St->Hp->(Option Int->Hp->Prop)->Prop
def PO0(X:Cx)(e:Option Expr)(t:TO):Prop :=
 ∀(pins:List (Addr×Obj)) (s:Shared) (σ:St) (H:Hp) (Q:Option Int->Hp->Prop),Inv X pins σ H s->t σ H Q →
  wpAny (model X.prog X.w) X.A (evalPart e X.env) (fun u s'=>∃o H',Inv X pins σ H' s'/\IsPart u o/\Q o H') X.xe s
structure PO(X:Cx)(e:Option Expr)(t:TO):Prop where run:PO0 X e t
instance POCf{X:Cx}{e:Option Expr}{t:TO}:CoeFun (PO X e t) fun _=>PO0 X e t:=⟨PO.run⟩
def tNoPart:TO:=fun _ H Q=>Q none H
inductive ItPart(Q:Option Int->Hp->Prop)(x:V)(H1:Hp):Prop
 |mk (i:_) (h0_:x=.int i) (h1_:Q (some i) H1):ItPart Q x H1
def tPart(t:TE):TO:=fun σ H Q=>t σ H fun x H1=>ItPart Q x H1
section
variable {X:Cx}{e:Expr}{te:TE}{lo hi:Option Expr}{tl th:TO}{pos p2:Pos}
theorem xAbc:PO X none tNoPart:=by
 refine⟨?_⟩;intro pins s σ H Q I h;rw[evalPart_none];exact wpAny_pure ⟨none,H,I,.none,h⟩
theorem xAau(h:PE X e te):PO X (some e) (tPart te):=by
 refine⟨?_⟩;intro pins s σ H Q I hw;rw[evalPart_some];refine thn (h pins s σ H _ I hw) fun u s1 ⟨x,H1,I1,r1,q1⟩=>?_;obtain⟨i,rfl,q⟩:=q1;obtain⟨t,rfl⟩:=r1;exact⟨some i,H1,I1,.int i t,q⟩
def SlR(X:Cx)(r:V->Option Int->Option Int->Hp->VK->Prop):Prop :=
 ∀(pins:List (Addr×Obj)) (s:Shared) (σ:St) (H:Hp) (x:V) (v vl vu:Value) (lo hi:Option Int) (sl:Addr) (Q:VK),Inv X pins σ H s->RelV x v->s.heap.IsSliceOf sl vl vu .none->IsPart vl lo->IsPart vu hi->r x lo hi H Q →
  ∃T id,typeLookup (.type T) "__getitem__"=pure (some (.builtin id))/\s.TypeIs v T/\wpAny (model X.prog X.w) X.A (getItem v (.ref sl)) (EP X pins σ Q) X.xe s
def tSl(r:V->Option Int->Option Int->Hp->VK->Prop)(te:TE)(tl th:TO):TE:=fun σ H Q=>te σ H fun x H1=>tl σ H1 fun l H2=>th σ H2 fun u H3=>r x l u H3 Q
theorem xAap{r:V->Option Int->Option Int->Hp->VK->Prop}(hr:SlR X r)(he:PE X e te)(hl:PO X lo tl)(hu:PO X hi th):PE X (.Subscript e (.Slice lo hi none p2) pos) (tSl r te tl th):=by
 refine⟨?_⟩;intro pins s σ H Q I h;refine Subscript_ (thn (he pins s σ H _ I h) fun v s1 ⟨x,H1,I1,r1,q1⟩=>?_);refine wpAny_Slice (thn (hl pins s1 σ H1 _ I1 q1) fun vl s2 ⟨l,H2,I2,pl,q2⟩=>thn (hu pins s2 σ H2 _ I2 q2) fun vu s3 ⟨u,H3,I3,pu,q3⟩=>?_);rw[evalPart_none];refine wpAny_pure ?_;have I4:Inv X pins σ H3 { s3 with heap:=s3.heap.push { cls:=.type "slice",data:=.fields #[vl,vu,.none] } }:=I3.kept (t':=s3.toks) fun b ob q=>Heap.get?_push_of_some _ q;obtain⟨T,id,hT,ht,hg⟩:=hr pins { s3 with heap:=s3.heap.push { cls:=.type "slice",data:=.fields #[vl,vu,.none] } } σ H3 x v vl vu l u s3.heap.objs.size Q I4 r1 (Heap.IsSliceOf.new ..) pl pu q3;show wpAny (model X.prog X.w) X.A (subscriptTail e (.Slice lo hi none p2) v (.ref s3.heap.objs.size)) (EP X pins σ Q) X.xe { s3 with heap:=s3.heap.push { cls:=.type "slice",data:=.fields #[vl,vu,.none] } };exact tail_any (ops:=[.ref s3.heap.objs.size,v]) ht hT hg (by with_unfolding_all rfl)
def cutV(xs:List V)(lo hi:Option Int):List V:=(xs.drop (HT.sIx xs.length 0 lo)).take (HT.sIx xs.length xs.length hi - HT.sIx xs.length 0 lo)
theorem xAck(xs:List V)(lo hi:Option Int):(cutV xs lo hi).length≤xs.length:=by
 unfold cutV;rw[zw,wb];omega
inductive IrSlT(x:V)(lo:Option Int)(hi:Option Int)(H:Hp)(Q:VK):Prop
 |mk (a:_) (xs:_) (h0_:x=.ref a) (h1_:SqT H a xs) (h2_:¬(HT.sIx xs.length 0 lo=0/\HT.sIx xs.length xs.length hi=xs.length)) (h3_:∀p,H p=none->Q (.ref p) (upd H p (.tup (cutV xs lo hi)))):IrSlT x lo hi H Q
def rSlT:V->Option Int->Option Int->Hp->VK->Prop:=fun x lo hi H Q=>IrSlT x lo hi H Q
theorem xAht:SlR X (rSlT):=by
 intro pins s σ H x v vl vu lo hi sl Q I rx hs pl pu h;obtain⟨a,xs,rfl,hx,hw,q⟩:=h;cases rx;obtain⟨its,r,ht,hz⟩:=I.tuple hx
 have hlen:its.toArray.size=xs.length:=by rw[zi];exact r.length.symm
 refine⟨"tuple",_,PyProof.Rows.slot_tuple_getitem.lookup,ht.typeIs,?_⟩;refine HT.getItem_tuple_cut ht hs pl pu (by rw[hlen];exact hw) ?_ (by rw[hlen];exact hz);rw[hlen];refine⟨.ref s.heap.objs.size,_,I.laid (t':=s.toks) (o:=.tup (cutV xs lo hi)) (fun b ob q=>Heap.get?_push_of_some _ q) (qd _) ?_,rfl,q _ (I.hok.fresh (qd _))⟩;exact⟨qf (xAck xs lo hi) hz,_,(r.drop (HT.sIx xs.length 0 lo)).take (HT.sIx xs.length xs.length hi - HT.sIx xs.length 0 lo),IsTup.new _ _⟩
inductive IrCatT(x:V)(y:V)(H:Hp)(Q:VK):Prop
 |mk (a:_) (b:_) (xs:_) (ys:_) (h0_:x=.ref a) (h1_:y=.ref b) (h2_:SqT H a xs) (h3_:SqT H b ys) (h4_:xs≠[]) (h5_:xs.length+ys.length≤sizeLine) (h6_:(ys=[]->Q (.ref a) H)) (h7_:(ys≠[]->∀p,H p=none->Q (.ref p) (upd H p (.tup (xs++ys))))):IrCatT x y H Q
def rCatT:R2:=fun x y H Q=>IrCatT x y H Q
theorem Vals.nil_iff{xs:List V}{us:List Value}(r:Vals xs us):us=[]↔xs=[]:=by
 cases r with
 |nil=>simp
 |cons _ _=>simp
theorem xAng:OpR X (binaryOp .Add) (rCatT):=by
 intro pins s σ H x y v u Q I rx ry h;obtain⟨a,b,xs,ys,rfl,rfl,ha,hb,hx,hz,q1,q2⟩:=h;cases rx;cases ry;obtain⟨its,r1,p1,_⟩:=I.tuple ha;obtain⟨its2,r2,p2,_⟩:=I.tuple hb;refine HT.cat_tup p1 p2 (fun z=>hx (r1.nil_iff.mp z)) (fun z=>⟨.ref a,H,I,rfl,q1 (r2.nil_iff.mp z)⟩) (fun z=>?_) (by rw[←r1.length,←r2.length];exact hz);refine⟨.ref s.heap.objs.size,_,I.laid (t':=s.toks) (o:=.tup (xs++ys)) (fun b ob q=>Heap.get?_push_of_some _ q) (qd _) ?_,rfl,q2 (fun w=>z (r2.nil_iff.mpr w)) _ (I.hok.fresh (qd _))⟩;exact⟨by rw[ql];exact hz,_,r1.append r2,IsTup.new _ _⟩
end
def ixN(n:Nat)(i:Int):Option Nat:=if 0≤i then(if i<n then some i.toNat else none) else if -(n:Int)≤i then some (i+n).toNat else none
def atI{α:Type}(xs:List α)(i:Int):Option α:=(ixN xs.length i).bind fun j=>xs[j]?
theorem xAnh{n:Nat}{i:Int}{j:Nat}(h:ixN n i=some j):seqIndex? i n=some j/\j<n/\-(n:Int)≤i/\i<n:=by
 unfold ixN at h
 by_cases h0:0≤i
 ·rw[if_pos h0]at h
  by_cases h1:i<n
  ·rw[if_pos h1]at h
   have e:i.toNat=j:=Option.some.inj h;exact⟨by rw[seqIndex_of h0 h1,e],by omega,by omega,h1⟩
  ·rw[if_neg h1]at h;cases h
 ·rw[if_neg h0]at h
  by_cases h1:-(n:Int)≤i
  ·rw[if_pos h1]at h
   have e:(i+n).toNat=j:=Option.some.inj h;exact⟨by rw[seqIndex_neg (by omega) h1,e],by omega,h1,by omega⟩
  ·rw[if_neg h1]at h;cases h
theorem xAil{α:Type}{xs:List α}{i:Int}{v:α}(h:atI xs i=some v):∃j,seqIndex? i xs.length=some j/\xs[j]?=some v/\j<xs.length/\-(xs.length:Int)≤i/\i<xs.length:=by
 unfold atI at h
 cases e:ixN xs.length i with
 |none=>rw[e]at h;cases h
 |some j =>
  rw[e]at h;obtain⟨h1,h2,h3,h4⟩:=xAnh e;exact⟨j,h1,h,h2,h3,h4⟩
theorem xAak{α:Type}{xs:List α}{j:Nat}{v:α}(h:xs[j]?=some v):atI xs (j:Int)=some v:=by
 have hj:j<xs.length:=(zf.mp h).1
 have e:ixN xs.length (j:Int)=some j:=by
  unfold ixN;rw[if_pos (by omega),if_pos (by omega)];simp
 unfold atI;rw[e];exact h
def PlainIx(b:Expr):Prop:=∀o i,subscripted b false o i=operate [o,i] (getItem o i)
def IxR(X:Cx)(r:R2):Prop :=
 ∀(value slice:Expr) (pins:List (Addr×Obj)) (s:Shared) (σ:St) (H:Hp) (x y:V) (v u:Value) (Q:VK),Inv X pins σ H s->RelV x v->RelV y u->r x y H Q →
  subscripted slice false v u=operate [v,u] (getItem v u)->wpAny (model X.prog X.w) X.A (subscriptTail value slice v u) (EP X pins σ Q) X.xe s
def MtR(X:Cx)(id:String)(r:V->List V->Hp->VK->Prop):Prop :=
 ∀(pins:List (Addr×Obj)) (s:Shared) (σ:St) (H:Hp) (x:V) (xs:List V) (v:Value) (us:List Value) (Q:VK),Inv X pins σ H s->RelV x v->Vals xs us->r x xs H Q →
  wpAny (model X.prog X.w) X.A (call (.builtin id) (v::us)) (EP X pins σ Q) X.xe s
section
variable {X:Cx}{a b:Expr}{ta tb:TE}{pos:Pos}
theorem pe_ix{r:R2}(hr:IxR X r)(ha:PE X a ta)(hb:PE X b tb)(hs:PlainIx b):PE X (.Subscript a b pos) (tOp r ta tb):=by
 refine⟨?_⟩;intro pins s σ H Q I h;exact Subscript_ (binT ha hb I h fun v u s2 x y H2 I2 rx ry q=>hr a b pins s2 σ H2 x y v u Q I2 rx ry q (hs _ _))
inductive IrIxL(x:V)(y:V)(H:Hp)(Q:VK):Prop
 |mk (p:_) (xs:_) (i:_) (v:_) (h0_:x=.ref p) (h1_:y=.int i) (h2_:SqL H p xs) (h3_:atI xs i=some v) (h4_:Q v H):IrIxL x y H Q
def rIxL:R2:=fun x y H Q=>IrIxL x y H Q
inductive IrIxT(x:V)(y:V)(H:Hp)(Q:VK):Prop
 |mk (p:_) (xs:_) (i:_) (v:_) (h0_:x=.ref p) (h1_:y=.int i) (h2_:SqT H p xs) (h3_:atI xs i=some v) (h4_:Q v H):IrIxT x y H Q
def rIxT:R2:=fun x y H Q=>IrIxT x y H Q
inductive IrIxS(x:V)(y:V)(H:Hp)(Q:VK):Prop
 |mk (z:_) (i:_) (c:_) (h0_:x=.str z) (h1_:y=.int i) (h2_:z.length≤sizeLine) (h3_:atI z.cps.toList i=some c) (h4_:Q (.str ⟨#[c]⟩) H):IrIxS x y H Q
def rIxS:R2:=fun x y H Q=>IrIxS x y H Q
theorem xAim:IxR X (rIxL):=by
 intro value slice pins s σ H x y v u Q I rx ry h hs;obtain⟨p,xs,i,z,rfl,rfl,hq,he,q⟩:=h;cases rx;obtain⟨t,rfl⟩:=ry;obtain⟨its,r,pl,hz⟩:=I.list hq;obtain⟨j,h1,h2,h3,h4,h5⟩:=xAil he;obtain⟨w,ew,rw'⟩:=r.get h2;have hl:=r.length;have hn:=xAhr;have fin:EP X pins σ Q w s:=⟨z,H,I,rw',q⟩
 by_cases h0:0≤i
 ·have hj:i.toNat=j:=by
   rw[seqIndex_of h0 h5]at h1;exact Option.some.inj h1
  exact item_listR pl.isList h0 (by omega) (by rw[hj];simpa using ew) fin hs
 ·have hj:(i+(its.toArray.size:Int)).toNat=j:=by
   rw[seqIndex_neg (by omega) h4]at h1;rw[zi,←hl];exact Option.some.inj h1
  exact subscriptTail_builtinR (x:=w) pl.isList.typeIs slot_list_getitem.lookup
   (wpAny_getItem_list_neg (Q:=fun r s'=>r=w/\EP X pins σ Q r s') pl.isList (by omega) (by rw[List.size_toArray] <;> omega) (by omega) (by rw[hj];simpa using ew) ⟨rfl,fin⟩) hs
theorem xAqe:IxR X (rIxT):=by
 intro value slice pins s σ H x y v u Q I rx ry h hs;obtain⟨p,xs,i,z,rfl,rfl,hq,he,q⟩:=h;cases rx;obtain⟨t,rfl⟩:=ry;obtain⟨its,r,pl,hz⟩:=I.tuple hq;obtain⟨j,h1,h2,h3,h4,h5⟩:=xAil he;obtain⟨w,ew,rw'⟩:=r.get h2;have hl:=r.length;have hn:=xAhr;have fin:EP X pins σ Q w s:=⟨z,H,I,rw',q⟩
 exact subscriptTail_builtinR (x:=w) pl.typeIs slot_tuple_getitem.lookup
  (getItem_tuple (j:=j) (Q:=fun r s'=>r=w/\EP X pins σ Q r s') pl (by omega) (by omega) (by rw[List.size_toArray,←hl];exact h1) (by simpa using ew) ⟨rfl,fin⟩) hs
theorem xAon:IxR X rIxS:=by
 intro value slice pins s σ H x y v u Q I rx ry h hs;obtain⟨z,i,c,rfl,rfl,hz,he,q⟩:=h;obtain⟨t,rfl⟩:=rx;obtain⟨t',rfl⟩:=ry;obtain⟨j,h1,h2,h3,h4,h5⟩:=xAil he
 have hl:z.cps.toList.length=z.length:=by simp[Str.length]
 rw[hl]at h1 h4 h5;have hn:=xAhr
 exact tail_any (typeIs_str s z t) slot_str_getitem.lookup (getItem_str (c:=c) (by
  have e1:decide (i < -(2 ^ 63:Int))=false:=decide_eq_false (by omega);have e2:decide (i≥2 ^ 63)=false:=decide_eq_false (by omega)
  rw[e1,e2,Bool.or_false]) (by rw[h1];simpa using h2) ⟨.str ⟨#[c]⟩,H,I.tok _,⟨_,rfl⟩,q⟩) hs
theorem xAin(its:List Value)(n j:Nat)(u:Value):Obj.mapSeq (·.setIfInBounds j u) { cls:=.type "list",data:=.seq its.toArray n }={ cls:=.type "list",data:=.seq (its.set j u).toArray n }:=by
 simp[Obj.mapSeq]
theorem Inv.lst{pins:List (Addr×Obj)}{σ:St}{H:Hp}{s:Shared}{p:Addr}{xs:List V}(I:Inv X pins σ H s)(h:H p=some (.lst xs)) :
  ∃(its:List Value) (n:Nat),Vals xs its/\s.heap.get? p=some { cls:=.type "list",data:=.seq its.toArray n }/\xs.length≤sizeLine:=by
 obtain⟨z,its,n,r,e⟩:=I.hok p _ h;exact⟨its,n,r,e,z⟩
theorem Inv.lstUpd{pins:List (Addr×Obj)}{σ:St}{H:Hp}{s:Shared}{p:Addr}{xs ys:List V}{its its':List Value}{n n':Nat}{f:Obj->Obj}(I:Inv X pins σ H s)(h:H p=some (.lst xs))(ho:s.heap.get? p=some { cls:=.type "list",data:=.seq its.toArray n })(hf:f { cls:=.type "list",data:=.seq its.toArray n }={ cls:=.type "list",data:=.seq its'.toArray n' })(r:Vals ys its')(hz:ys.length≤sizeLine)(t:Nat) :
  Inv X pins σ (upd H p (.lst ys)) { s with heap:=s.heap.update p f,toks:=t }:=by
 have e:(s.heap.update p f).get? p=some { cls:=.type "list",data:=.seq its'.toArray n' }:=by
  rw[Heap.get?_update_self f ho (by rw[hf] <;> rfl),hf]
 refine I.write (x:=p) (e:=p) (by rw[h];trivial) (.inl rfl) (fun b u hb q=>(Heap.get?_update_other _ _ (Ne.symm hb)).trans q) ⟨_,e⟩ ?_;exact⟨hz,its',n',r,e⟩
inductive IrSetL(o:V)(i:V)(v:V)(H:Hp)(Q:(Hp->Prop)):Prop
 |mk (p:_) (xs:_) (k:_) (j:_) (h0_:o=.ref p) (h1_:i=.int k) (h2_:H p=some (.lst xs)) (h3_:ixN xs.length k=some j) (h4_:Q (upd H p (.lst (xs.set j v)))):IrSetL o i v H Q
def rSetL:V->V->V->Hp->(Hp->Prop)->Prop:=fun o i v H Q=>IrSetL o i v H Q
theorem xAel:PSet X rSetL:=by
 intro pins s σ H o i v ov iv u Q I ro ri rv h;obtain⟨p,xs,k,j,rfl,rfl,hp,hj,q⟩:=h;cases ro;obtain⟨t,rfl⟩:=ri;obtain⟨its,n,r,ho,hz⟩:=I.lst hp;obtain⟨h1,h2,h3,h4⟩:=xAnh hj;have hl:=r.length;have hn:=xAhr
 have I':Inv X pins σ (upd H p (.lst (xs.set j v))) { s with heap:=s.heap.update p (Obj.mapSeq (·.setIfInBounds j u)) } :=
  I.lstUpd hp ho (xAin its n j u) (r.set rv j) (by rw[wg];exact hz) s.toks
 by_cases h0:0≤k
 ·have hk:k.toNat=j:=by
   rw[seqIndex_of h0 h4]at h1;exact Option.some.inj h1
  exact PySem.W.ki_setAt ho h0 (by omega) (by rw[zi,←hl];exact h4) (by rw[hk];exact⟨_,I',q⟩)
 ·have hk:(k+(its.toArray.size:Int)).toNat=j:=by
   rw[seqIndex_neg (by omega) h3]at h1;rw[zi,←hl];exact Option.some.inj h1
  exact PySem.W.ki_setBack ho (by omega) (by rw[zi,←hl];exact h3) (by omega) (by rw[hk];exact⟨_,I',q⟩)
theorem xAfp(lo hi:Option Int)(n:Nat):(sliceBounds lo hi none n).1=((HT.sIx n 0 lo:Nat):Int)/\(sliceBounds lo hi none n).2.1=((HT.sIx n n hi:Nat):Int)/\(sliceBounds lo hi none n).2.2=1:=by
 refine⟨?_,?_,rfl⟩
 ·cases lo with
  |none=>simp[sliceBounds,HT.sIx]
  |some i =>
   simp only[sliceBounds,HT.sIx,Option.getD_none,show(1:Int)>0 by decide,if_true]
   by_cases h:i<0
   ·simp only[h,if_true] <;> omega
   ·simp only[h,if_false] <;> omega
 ·cases hi with
  |none=>simp[sliceBounds,HT.sIx]
  |some i =>
   simp only[sliceBounds,HT.sIx,Option.getD_none,show(1:Int)>0 by decide,if_true]
   by_cases h:i<0
   ·simp only[h,if_true] <;> omega
   ·simp only[h,if_false] <;> omega
theorem xAeu(its:List Value)(lo hi:Option Int):slicePick its.toArray lo hi none=((its.drop (HT.sIx its.length 0 lo)).take (HT.sIx its.length its.length hi - HT.sIx its.length 0 lo)).toArray:=by
 obtain⟨h1,h2,h3⟩:=xAfp lo hi its.toArray.size;unfold slicePick;rw[h1,h2,h3]
 simp only[sliceRange_one,pick_run,List.size_toArray] <;> rfl
inductive IrSlL(x:V)(lo:Option Int)(hi:Option Int)(H:Hp)(Q:VK):Prop
 |mk (a:_) (xs:_) (h0_:x=.ref a) (h1_:SqL H a xs) (h2_:∀p,H p=none->Q (.ref p) (upd H p (.lst (cutV xs lo hi)))):IrSlL x lo hi H Q
def rSlL:V->Option Int->Option Int->Hp->VK->Prop:=fun x lo hi H Q=>IrSlL x lo hi H Q
theorem xAqf:SlR X (rSlL):=by
 intro pins s σ H x v vl vu lo hi sl Q I rx hs pl pu h;obtain⟨a,xs,rfl,hx,q⟩:=h;cases rx;obtain⟨its,r,ht,hz⟩:=I.list hx;have hlen:=r.length;refine⟨"list",_,slot_list_getitem.lookup,ht.isList.typeIs,?_⟩;refine wpAny_getItem_list_slice ht.isList hs pl pu .none (by simp) ?_ (by rw[List.size_toArray] <;> omega);rw[xAeu,←hlen];refine⟨.ref s.heap.objs.size,_,I.laid (t':=s.toks) (o:=.lst (cutV xs lo hi)) (fun b ob q=>Heap.get?_push_of_some _ q) (qd _) ?_,rfl,q _ (I.hok.fresh (qd _))⟩;exact⟨qf (xAck xs lo hi) hz,_,0,(r.drop (HT.sIx xs.length 0 lo)).take (HT.sIx xs.length xs.length hi - HT.sIx xs.length 0 lo),Heap.get?_push_size _ rfl⟩
def flatV:V->Bool
 |.non=>true
 |.bl _=>true
 |.int _=>true
 |.str _=>true
 |_=>false
def eqV:V->V->Bool
 |.non,.non=>true
 |.bl a,.bl b=>a==b
 |.bl a,.int b=>(if a then 1 else 0)==b
 |.int a,.bl b=>a==(if b then 1 else 0)
 |.int a,.int b=>a==b
 |.str a,.str b=>a==b
 |_,_=>false
theorem eqAt_V{A:Around}{s:Shared}{y x:V}{u v:Value}(ry:RelV y u)(rx:RelV x v)(fy:flatV y=true)(fx:flatV x=true):SeqAt.EqAt A s u v (eqV y x):=by
 cases y with
 |non =>
  cases ry
  cases x with
  |non=>cases rx;exact SeqAt.EqAt.same _
  |bl b=>cases rx;exact SeqAt.EqAt.none_bool b
  |int b=>obtain⟨t,rfl⟩:=rx;exact SeqAt.EqAt.none_int b t
  |str b=>obtain⟨t,rfl⟩:=rx;exact SeqAt.EqAt.none_str b t
  |_=>exact absurd (show false=true from fx) qx
 |bl a =>
  cases ry
  cases x with
  |non=>cases rx;exact SeqAt.EqAt.bool_none a
  |bl b=>cases rx;exact SeqAt.EqAt.bool_bool a b
  |int b=>obtain⟨t,rfl⟩:=rx;exact SeqAt.EqAt.bool_int a b t
  |str b=>obtain⟨t,rfl⟩:=rx;exact SeqAt.EqAt.bool_str a b t
  |_=>exact absurd (show false=true from fx) qx
 |int a =>
  obtain⟨t',rfl⟩:=ry
  cases x with
  |non=>cases rx;exact SeqAt.EqAt.int_none a t'
  |bl b=>cases rx;exact SeqAt.EqAt.int_bool a t' b
  |int b=>obtain⟨t,rfl⟩:=rx;exact SeqAt.EqAt.int_int a t' b t
  |str b=>obtain⟨t,rfl⟩:=rx;exact SeqAt.EqAt.int_str a t' b t
  |_=>exact absurd (show false=true from fx) qx
 |str a =>
  obtain⟨t',rfl⟩:=ry
  cases x with
  |non=>cases rx;exact SeqAt.EqAt.str_none a t'
  |bl b=>cases rx;exact SeqAt.EqAt.str_bool a t' b
  |int b=>obtain⟨t,rfl⟩:=rx;exact SeqAt.EqAt.str_int a t' b t
  |str b=>obtain⟨t,rfl⟩:=rx;exact SeqAt.EqAt.str_str a t' b t
  |_=>exact absurd (show false=true from fx) qx
 |_=>exact absurd (show false=true from fy) qx
def eqU(x:V)(u:Value):Bool:=match u with
 |.none=>eqV .non x
 |.bool b=>eqV (.bl b) x
 |.int i _=>eqV (.int i) x
 |.str z _=>eqV (.str z) x
 |_=>false
theorem xAqg{x y:V}{u:Value}(r:RelV y u)(f:flatV y=true):eqU x u=eqV y x:=by
 cases y with
 |non=>cases r;rfl
 |bl b=>cases r;rfl
 |int i=>obtain⟨t,rfl⟩:=r;rfl
 |str z=>obtain⟨t,rfl⟩:=r;rfl
 |_=>exact absurd (show false=true from f) qx
theorem xAev{x:V}:∀{xs:List V} {us:List Value},Vals xs us->xs.all flatV=true->us.any (eqU x)=xs.any fun y=>eqV y x
 |_,_,.nil,_=>rfl
 |y::xs,u::us,.cons r t,f=>by
  rw[List.all_cons,qr]at f;rw[vy,vy,xAqg r f.1,xAev t f.2]
theorem xAdl{A:Around}{s:Shared}{x:V}{v:Value}(rx:RelV x v)(fx:flatV x=true):∀{xs:List V} {us:List Value},Vals xs us->xs.all flatV=true->∀u∈us,SeqAt.EqAt A s u v (eqU x u)
 |_,_,.nil,_=>fun u hu=>by cases hu
 |y::xs,u::us,.cons r t,f=>fun u' hu=>by
  rw[List.all_cons,qr]at f;rcases qw.mp hu with rfl|hu
  ·rw[xAqg r f.1];exact eqAt_V r rx f.1 fx
  ·exact xAdl rx fx t f.2 u' hu
def inV(x:V)(xs:List V):Bool:=xs.any fun y=>eqV y x
inductive IrIn(neg:Bool)(x:V)(y:V)(H:Hp)(Q:VK):Prop
 |mk (p:_) (xs:_) (h0_:y=.ref p) (h1_:(SqL H p xs\/SqT H p xs)) (h2_:flatV x=true) (h3_:xs.all flatV=true) (h4_:Q (.bl (if neg then !inV x xs else inV x xs)) H):IrIn neg x y H Q
def rIn(neg:Bool):R2:=fun x y H Q=>IrIn neg x y H Q
theorem xAld:OpR X (compareOp .In) (rIn false):=by
 intro pins s σ H x y v u Q I rx ry h;obtain⟨p,xs,rfl,hq,fx,fs,q⟩:=h;cases ry;rcases hq with hq|hq
 ·obtain⟨its,r,pl,hz⟩:=I.list hq
  refine SeqAt.in_listAt (eqU x) pl.isList (fun w hw=>xAdl rx fx r fs w (by simpa using hw)) ⟨.bl _,H,I,rfl,?_⟩;rw[show its.toArray.any (eqU x)=its.any (eqU x) by simp,xAev r fs];exact q
 ·obtain⟨its,r,pl,hz⟩:=I.tuple hq
  refine SeqAt.in_tupleAt (eqU x) pl (fun w hw=>xAdl rx fx r fs w (by simpa using hw)) ⟨.bl _,H,I,rfl,?_⟩;rw[show its.toArray.any (eqU x)=its.any (eqU x) by simp,xAev r fs];exact q
theorem xAfq:OpR X (compareOp .NotIn) (rIn true):=by
 intro pins s σ H x y v u Q I rx ry h;obtain⟨p,xs,rfl,hq,fx,fs,q⟩:=h;cases ry;rcases hq with hq|hq
 ·obtain⟨its,r,pl,hz⟩:=I.list hq
  refine SeqAt.notIn_listAt (eqU x) pl.isList (fun w hw=>xAdl rx fx r fs w (by simpa using hw)) ⟨.bl _,H,I,rfl,?_⟩;rw[show its.toArray.any (eqU x)=its.any (eqU x) by simp,xAev r fs];exact q
 ·obtain⟨its,r,pl,hz⟩:=I.tuple hq
  refine SeqAt.notIn_tupleAt (eqU x) pl (fun w hw=>xAdl rx fx r fs w (by simpa using hw)) ⟨.bl _,H,I,rfl,?_⟩;rw[show its.toArray.any (eqU x)=its.any (eqU x) by simp,xAev r fs];exact q
inductive IRcall_len_seq(xs:List V)(H:Hp)(Q:VK):Prop
 |mk (p:_) (ys:_) (h0_:xs=[.ref p]) (h1_:(SqL H p ys\/SqT H p ys)) (h2_:Q (.int ys.length) H):IRcall_len_seq xs H Q
def Rcall_len_seq:List V->Hp->VK->Prop:=fun xs H Q=>IRcall_len_seq xs H Q
theorem xAai:CallR X (.builtin "len") (Rcall_len_seq):=by
 intro pins s σ H xs us Q I r h;obtain⟨p,ys,rfl,hq,q⟩:=h;obtain⟨u,rfl,rx⟩:=vals1 r;cases rx;have hn:=xAhr;rcases hq with hq|hq
 ·obtain⟨its,r',pl,hz⟩:=I.list hq
  have hlen:=r'.length;exact Calls.call_len_list pl.isList (by simp only[List.size_toArray] <;> omega) ⟨.int ys.length,H,I.tok _,⟨s.toks+1,by rw[List.size_toArray,hlen]⟩,q⟩
 ·obtain⟨its,r',pl,hz⟩:=I.tuple hq
  have hlen:=r'.length;exact len_tuple pl (by simp only[List.size_toArray] <;> omega) ⟨.int ys.length,H,I.tok _,⟨s.toks+1,by rw[List.size_toArray,hlen]⟩,q⟩
inductive IRcall_len_str(xs:List V)(H:Hp)(Q:VK):Prop
 |mk (z:_) (h0_:xs=[.str z]) (h1_:z.length≤sizeLine) (h2_:Q (.int z.length) H):IRcall_len_str xs H Q
def Rcall_len_str:List V->Hp->VK->Prop:=fun xs H Q=>IRcall_len_str xs H Q
theorem xAcn:CallR X (.builtin "len") Rcall_len_str:=by
 intro pins s σ H xs us Q I r h;obtain⟨z,rfl,hz,q⟩:=h;obtain⟨u,rfl,t,rfl⟩:=vals1 r;have hn:=xAhr;exact len_str (by omega) ⟨.int z.length,H,I.tok _,⟨_,rfl⟩,q⟩
inductive IRcall_list_of(xs:List V)(H:Hp)(Q:VK):Prop
 |mk (p:_) (ys:_) (h0_:xs=[.ref p]) (h1_:(SqL H p ys\/SqT H p ys)) (h2_:∀l,H l=none->Q (.ref l) (upd H l (.lst ys))):IRcall_list_of xs H Q
def Rcall_list_of:List V->Hp->VK->Prop:=fun xs H Q=>IRcall_list_of xs H Q
theorem xAfr:CallR X (.type "list") (Rcall_list_of):=by
 intro pins s σ H xs us Q I r h;obtain⟨p,ys,rfl,hq,q⟩:=h;obtain⟨u,rfl,rx⟩:=vals1 r;cases rx
 have fin:∀(its:List Value),Vals ys its->ys.length≤sizeLine->∀(h':Heap) (c':Nat),(∀b o',s.heap.get? b=some o'->h'.get? b=some o') →
   h'.get? s.heap.objs.size=some { cls:=.type "list",dict:=none,data:=.seq its.toArray c',slots:=#[] }->EP X pins σ Q (.ref s.heap.objs.size) { s with heap:=h' }:=fun its r' hz h' c' kp e =>
  ⟨.ref s.heap.objs.size,_,I.laid (t':=s.toks) kp (qd _) (show ObjOk X.prog X.w _ h' _ (.lst ys) from⟨hz,its,c',r',e⟩),rfl,q _ (I.hok.fresh (qd _))⟩
 rcases hq with hq|hq
 ·obtain⟨its,r',pl,hz⟩:=I.list hq
  have hlen:=r'.length;obtain⟨o,ho,hc,n,hd⟩:=pl.isList;exact call_list_seq p (.inl rfl) ho hc hd (fun h' c' kp e=>fin its r' hz h' c' kp e) (by simp only[List.size_toArray] <;> omega)
 ·obtain⟨its,r',pl,hz⟩:=I.tuple hq
  have hlen:=r'.length;obtain⟨o,ho,hc,n,hd⟩:=pl;exact call_list_seq p (.inr rfl) ho hc hd (fun h' c' kp e=>fin its r' hz h' c' kp e) (by simp only[List.size_toArray] <;> omega)
inductive IRcall_tuple_of(xs:List V)(H:Hp)(Q:VK):Prop
 |mk (p:_) (ys:_) (h0_:xs=[.ref p]) (h1_:((SqL H p ys/\∀l,H l=none->Q (.ref l) (upd H l (.tup ys)))\/(SqT H p ys/\Q (.ref p) H))):IRcall_tuple_of xs H Q
def Rcall_tuple_of:List V->Hp->VK->Prop:=fun xs H Q=>IRcall_tuple_of xs H Q
theorem xAew:CallR X (.type "tuple") (Rcall_tuple_of):=by
 intro pins s σ H xs us Q I r h;obtain⟨p,ys,rfl,h⟩:=h;obtain⟨u,rfl,rx⟩:=vals1 r;cases rx;rcases h with⟨hq,q⟩|⟨hq,q⟩
 ·obtain⟨its,r',pl,hz⟩:=I.list hq
  have hlen:=r'.length;refine call_tuple_list pl.isList (fun h' kp=>?_) (by simp only[List.size_toArray] <;> omega);have I1:Inv X pins σ H { s with heap:=h' }:=I.kept (t':=s.toks) kp
  have I2:Inv X pins σ (upd H h'.objs.size (.tup ys)) { s with heap:=h'.push { cls:=.type "tuple",data:=.seq its.toArray } } :=
   I1.laid (t':=s.toks) (fun b o e=>Heap.get?_push_of_some _ e) (qd _) (show ObjOk X.prog X.w _ _ _ (.tup ys) from⟨hz,its,r',IsTup.new _ _⟩)
  exact⟨.ref h'.objs.size,_,I2,rfl,q _ (I1.hok.fresh (qd _))⟩
 ·obtain⟨its,r',pl,hz⟩:=I.tuple hq
  exact call_tuple_same pl ⟨.ref p,H,I,rfl,q⟩
def tyV(T:String)(x:V)(H:Hp):Prop:=match x with
 |.str _=>T = "str"
 |.int _=>T = "int"
 |.ref p=>(T = "list" /\ ∃xs,SqL H p xs)\/(T = "tuple" /\ False) ∨
   (T = "dict" /\ ((∃kvs,H p=some (.dK kvs))\/(∃kvs,H p=some (.dT kvs))\/∃kvs,H p=some (.dG kvs)))\/(T = "set" /\ ∃S n,H p=some (.set S n))
 |_=>False
theorem tyV_is{pins:List (Addr×Obj)}{σ:St}{H:Hp}{s:Shared}{T:String}{x:V}{v:Value}(I:Inv X pins σ H s)(r:RelV x v)(ty:tyV T x H) :
  s.TypeIs v T/\∀a,v=.ref a->∃ob,s.heap.get? a=some ob/\ob.dict=none:=by
 cases x with
 |str z =>
  obtain⟨t,rfl⟩:=r;cases(show T = "str" from ty);exact⟨typeIs_str s z t,fun _ e=>nomatch e⟩
 |int i =>
  obtain⟨t,rfl⟩:=r;cases(show T = "int" from ty);exact⟨typeIs_int s i t,fun _ e=>nomatch e⟩
 |ref p =>
  cases r;rcases ty with⟨rfl,xs,hq⟩|⟨rfl,hf⟩|⟨rfl,hk⟩|⟨rfl,S,n,hk⟩
  ·obtain⟨its,_,pl,_⟩:=I.list hq
   refine⟨pl.isList.typeIs,fun a e=>?_⟩;cases e;obtain⟨o,n,e,c,hd,_⟩:=pl;exact⟨o,e,hd⟩
  ·exact hf.elim
  ·have z:∃o,s.heap.get? p=some o/\o.ExactDict:=by
    rcases hk with⟨kvs,hk⟩|⟨kvs,hk⟩|⟨kvs,hk⟩
    ·obtain⟨_,_,_,_,o,_,_,e,ex,_⟩:=I.hok p _ hk
     exact⟨o,e,ex⟩
    ·obtain⟨_,_,_,_,o,_,_,e,ex,_⟩:=I.hok p _ hk
     exact⟨o,e,ex⟩
    ·obtain⟨_,_,_,_,o,_,_,e,ex,_⟩:=I.hok p _ hk
     exact⟨o,e,ex⟩
   obtain⟨o,e,ex⟩:=z;refine⟨⟨o,e,ex.1⟩,fun a e2=>?_⟩;cases e2;exact⟨o,e,ex.2.1⟩
  ·obtain⟨o,_,_,_,e,ex,_⟩:=I.hok p _ hk
   refine⟨⟨o,e,ex.1⟩,fun a e2=>?_⟩;cases e2;exact⟨o,e,ex.2.1⟩
 |_=>exact False.elim ty
def tBM(T:String)(r:V->List V->Hp->VK->Prop)(to:TE)(t:TA):TE:=fun σ H Q=>to σ H fun x H1=>tyV T x H1/\t σ H1 fun xs H2=>r x xs H2 Q
variable {o e:Expr}{es:List Expr}{to:TE}{t:TA}{name:Str}{apos cpos:Pos}{T id:String}{r:V->List V->Hp->VK->Prop}
theorem pe_bm(pa:PlainAttrs T)(slot:Slot T name id)(hty:typeOf (.builtin id)=pure (.type "method_descriptor"))(hm:MtR X id r)(ho:PE X o to)(ha:PA X (e::es) t)(hbase:attributeBase o name X.env (eval o X.env)=eval o X.env:=by rfl)(hfew:((backTo cpos (starEach (e::es) X.env)).all (fun x=>!x.1)&&(backToKw cpos (keywordEach [] X.env)).all (fun x=>x.1.isSome)
   && decide ((e::es).length+([]:List Keyword).length+(if([]:List Keyword).isEmpty then 0 else 1)<30))=true:=by rfl)(hline:(apos.endLine==cpos.line)=true:=by rfl)(hs:starEach (e::es) X.env=(false,eval e X.env)::starEach es X.env:=by rfl)(hplain:(backTo cpos (starEach es X.env)).any (·.1)=false:=by rfl) :
  PE X (.Call (.Attribute o name apos) (e::es) [] cpos) (tBM T r to t):=by
 refine⟨?_⟩;intro pins s σ H Q I h;refine wpAny_Call_method_late hbase hfew hline rfl (thn (ho pins s σ H _ I h) fun v s1 ⟨x,H1,I1,r1,ty,q1⟩=>?_);obtain⟨h1,h2⟩:=tyV_is I1 r1 ty;refine⟨T,id,pa,slot,hty,h1,h2,?_⟩;have hA:=ha cpos pins s1 σ H1 _ I1 q1;rw[hs]at hA ⊢;refine Calls.callWith_builtin (by show(false||(backTo cpos (starEach es X.env)).any (·.1))=false;rw[hplain] <;> rfl) (Calls.evalArgs_plain ?_);exact thn hA fun us s2 ⟨vs,H2,I2,r2,q2⟩=>hm pins s2 σ H2 x vs v us Q I2 r1 r2 q2
end
def MtM(X:Cx)(id:String)(r:V->List V->Hp->VK->Prop):Prop :=
 ∀(pins:List (Addr×Obj)) (s:Shared) (σ:St) (H:Hp) (x:V) (xs:List V) (v:Value) (us:List Value) (Q:VK),Inv X pins σ H s->RelV x v->Vals xs us->r x xs H Q →
  wpAny (model X.prog X.w) X.A (call (.builtin id) (v::us)) (EP X pins σ Q) X.xe s
theorem Vals.tl{x:V}{xs:List V}{us:List Value}(h:Vals (x::xs) us):∃u vs,us=u::vs/\RelV x u/\Vals xs vs:=by
 cases h with
 |cons r t=>exact⟨_,_,rfl,r,t⟩
theorem Vals.one:∀{x:V} {us:List Value},Vals [x] us->∃u,us=[u]/\RelV x u:=by
 intro x us h
 cases h with
 |cons r t=>cases t;exact⟨_,rfl,r⟩
theorem Vals.two:∀{x y:V} {us:List Value},Vals [x,y] us->∃u v,us=[u,v]/\RelV x u/\RelV y v:=by
 intro x y us h;obtain⟨u,vs,rfl,r,t⟩:=Vals.tl h;obtain⟨v,rfl,q⟩:=Vals.one t;exact⟨u,v,rfl,r,q⟩
theorem Vals.rep{xs:List V}{us:List Value}(h:Vals xs us):∀k:Nat,Vals (List.replicate k xs).flatten (List.replicate k us).flatten
 | 0=>.nil
 |k+1=>by
  rw[vg,vg,yd,yd];exact Vals.append h (Vals.rep h k)
theorem xAgo(its:List Value):∀(k:Nat) (acc:List Value),
  List.foldl (fun x1 x2=>x1++x2) acc.toArray (List.replicate k its.toArray)=(acc++(List.replicate k its).flatten).toArray
 | 0,acc=>by simp
 |k+1,acc=>by
  have e:acc.toArray++its.toArray=(acc++its).toArray:=by simp
  have e2:(acc++its)++(List.replicate k its).flatten=acc++(List.replicate (k+1) its).flatten:=by
   rw[vg,yd,List.append_assoc]
  rw[←e2,←xAgo its k (acc++its),←e,vg,ye]
section
variable {X:Cx}{pins:List (Addr×Obj)}{σ:St}{H:Hp}{s:Shared}{l b:Addr}{xs ys zs:List V}
theorem Inv.lset{its its':List Value}{n:Nat}{f:Array Value->Array Value}{t':Nat}(I:Inv X pins σ H s)(hH:H l=some (.lst xs))(e:s.heap.get? l=some { cls:=.type "list",data:=.seq its.toArray n })(hf:f its.toArray=its'.toArray)(hv:Vals ys its')(hz:ys.length≤sizeLine) :
  Inv X pins σ (upd H l (.lst ys)) { s with heap:=s.heap.update l (Obj.mapSeq f),toks:=t' }:=by
 have q:=PySem.IsL.update e f;rw[hf]at q;refine I.write (x:=l) (e:=l) (by rw[hH];exact trivial) (.inl rfl) (fun b' u hb hu=>(Heap.get?_update_other s.heap (Obj.mapSeq f) (Ne.symm hb)).trans hu) ⟨_,q⟩ ?_;exact⟨hz,its',_,hv,q⟩
theorem Inv.lnew{its:List Value}{t':Nat}(I:Inv X pins σ H s)(hv:Vals ys its)(hz:ys.length≤sizeLine) :
  Inv X pins σ (upd H s.heap.objs.size (.lst ys)) { s with heap:=s.heap.push { cls:=.type "list",data:=.seq its.toArray },toks:=t' } :=
 I.laid (fun _ _ q=>Heap.get?_push_of_some _ q) (qd _) ⟨hz,its,0,hv,Heap.get?_push_size _ rfl⟩
theorem Inv.fresh(I:Inv X pins σ H s):H s.heap.objs.size=none:=I.hok.fresh (qd _)
theorem Inv.lstM(I:Inv X pins σ H s)(hH:H l=some (.lst xs)):xs.length≤sizeLine/\∃(its:List Value) (n:Nat),Vals xs its/\xs.length=its.length/\s.heap.get? l=some { cls:=.type "list",data:=.seq its.toArray n }:=by
 obtain⟨z,its,n,r,e⟩:=I.hok l _ hH;exact⟨z,its,n,r,r.length,e⟩
theorem xAoo{n:Nat}(h:n≤sizeLine):Builtin.List.listTooLong n=false:=by
 unfold Builtin.List.listTooLong;exact decide_eq_false (by omega)
end
section
variable {X:Cx}
inductive IrAppend(x:V)(vs:List V)(H:Hp)(Q:VK):Prop
 |mk (l:_) (xs:_) (y:_) (h0_:x=.ref l) (h1_:vs=[y]) (h2_:H l=some (.lst xs)) (h3_:xs.length<sizeLine) (h4_:Q .non (upd H l (.lst (xs++[y])))):IrAppend x vs H Q
def rAppend:V->List V->Hp->VK->Prop:=fun x vs H Q=>IrAppend x vs H Q
theorem xAle:MtM X "list.append" rAppend:=by
 intro pins s σ H x vs v us Q I rx rv h;obtain⟨l,xs,y,rfl,rfl,hH,hz,q⟩:=h;cases rx;obtain⟨u,rfl,ru⟩:=rv.one;obtain⟨z,its,n,r,hl,e⟩:=I.lstM hH;refine call_meets F.slot_list_append ⟨_,e,rfl⟩ F.entry_list_append (F.args_list_append_2 _ _) (PySem.list_append l its.toArray n u (by rw[zi];omega)) ⟨e,?_⟩;refine⟨.non,_,I.lset (its':=its++[u]) hH e (by simp) (r.append (.cons ru .nil)) ?_,rfl,q⟩;rw[ql,zm];omega
inductive IrCat(x:V)(y:V)(H:Hp)(Q:VK):Prop
 |mk (l:_) (b:_) (xs:_) (zs:_) (h0_:x=.ref l) (h1_:y=.ref b) (h2_:H l=some (.lst xs)) (h3_:H b=some (.lst zs)) (h4_:xs.length+zs.length≤sizeLine) (h5_:∀p,H p=none->Q (.ref p) (upd H p (.lst (xs++zs)))):IrCat x y H Q
def rCat:R2:=fun x y H Q=>IrCat x y H Q
theorem op_cat:OpR X (binaryOp .Add) rCat:=by
 intro pins s σ H x y v u Q I rx ry h;obtain⟨l,b,xs,zs,rfl,rfl,hH,hB,hz,q⟩:=h;cases rx;cases ry;obtain⟨z,its,n,r,hl,e⟩:=I.lstM hH;obtain⟨z2,its2,n2,r2,hl2,e2⟩:=I.lstM hB;refine PySem.P.add_list e e2 ?_ (by rw[zi,zi];omega)
 have ea:its.toArray++its2.toArray=(its++its2).toArray:=by simp
 rw[ea];exact⟨.ref _,_,I.lnew (t':=s.toks) (r.append r2) (by rw[ql];omega),rfl,q _ I.fresh⟩
inductive IrRep(x:V)(y:V)(H:Hp)(Q:VK):Prop
 |mk (l:_) (k:_) (xs:_) (h0_:x=.ref l) (h1_:y=.int k) (h2_:H l=some (.lst xs)) (h3_:-(2 ^ 63)≤k) (h4_:k<2 ^ 63) (h5_:xs.length * k.toNat≤sizeLine) (h6_:∀p,H p=none->Q (.ref p) (upd H p (.lst (List.replicate k.toNat xs).flatten))):IrRep x y H Q
def rRep:R2:=fun x y H Q=>IrRep x y H Q
theorem xAqh{α:Type}(xs:List α)(k:Nat):(List.replicate k xs).flatten.length=k * xs.length:=by
 induction k with
 |zero=>simp
 |succ k ih=>rw[vg,yd,ql,ih,Nat.succ_mul,yv]
theorem op_rep:OpR X (binaryOp .Mult) rRep:=by
 intro pins s σ H x y v u Q I rx ry h;obtain⟨l,k,xs,rfl,rfl,hH,h1,h2,hz,q⟩:=h;cases rx;obtain⟨t,rfl⟩:=ry;obtain⟨z,its,n,r,hl,e⟩:=I.lstM hH
 have hlen:its.toArray.size * k.toNat≤sizeLine:=by rw[zi,←hl];exact hz
 have hcap:¬its.toArray.size * k.toNat>(2 ^ 63 - 1) / 8:=by
  have:(sizeLine:Nat)≤(2 ^ 63 - 1) / 8:=by decide
  omega
 have hfit:¬(!Builtin.List.listFitsIndex k)=true:=by
  rw[fitsIndex_both h1 h2];exact qx
 have hlong:¬Builtin.List.listTooLong (its.toArray.size * k.toNat)=true:=by
  rw[xAoo hlen];exact qx
 have hnew:List.foldl (fun x1 x2=>x1++x2) #[] (List.replicate (if its.toArray.isEmpty=true then 0 else k.toNat) its.toArray)=(List.replicate k.toNat its).flatten.toArray:=by
  have f0:∀m:Nat,List.foldl (fun x1 x2=>x1++x2) #[] (List.replicate m its.toArray)=(List.replicate m its).flatten.toArray:=fun m=>by
   have:=xAgo its m [];rw[List.nil_append]at this;exact this
  rw[f0]
  cases its with
  |nil=>simp
  |cons a r'=>rw[if_neg (by simp)]
 refine wpAny_binaryOp_repeat_ref (T:="list") (U:="int") (by decide) ⟨_,e,rfl⟩ (fun s'=>typeIs_int s' k t) noFill_list_mul F.fills_int_mul F.slot_int_rmul repeat_list F.slot_int_index.lookup
  (call_meets F.slot_int_rmul (typeIs_int s k t) F.entry_int_rmul (F.args_int_rmul_2 _ _) (int___rmul___int_list k t l its.toArray n)
   ⟨e,rfl,⟨_,e,rfl⟩,call_meets F.slot_list_mul ⟨_,e,rfl⟩ F.entry_list_mul (F.args_list_mul_2 _ _) (AutoListH.list___mul___list_int_3 l its.toArray n k t hfit hcap hlong) ⟨e,?_⟩⟩)
 rw[hnew];exact⟨.ref _,_,I.lnew (t':=s.toks) (r.rep k.toNat) (by rw[xAqh,Nat.mul_comm];exact hz),rfl,q _ I.fresh⟩
end
section
variable {κ:Type}[DecidableEq κ]
def valV(kvs:List (κ×V))(k:κ):Option V:=(kvs.find? fun kv=>decide (kv.1=k)).map (·.2)
def putK(kvs:List (κ×V))(k:κ)(v:V):List (κ×V) :=
 if(kvs.any fun kv=>decide (kv.1=k))=true then kvs.map (fun kv=>if kv.1=k then(kv.1,v) else kv) else kvs++[(k,v)]
theorem xAbn{p:κ×V}{r:List (κ×V)}{k:κ}(e:p.1=k):valV (p::r) k=some p.2:=by simp[valV,List.find?_cons,e]
theorem xAbo{p:κ×V}{r:List (κ×V)}{k:κ}(e:¬p.1=k):valV (p::r) k=valV r k:=by simp[valV,List.find?_cons,e]
theorem xAem(k:κ):∀kvs:List (κ×V),(kvs.any fun kv=>decide (kv.1=k))=(valV kvs k).isSome
 |[]=>rfl
 |p::r=>by
  rw[vy]
  by_cases e:p.1=k
  ·simp only[xAbn e,decide_eq_true e,Bool.true_or,Option.isSome_some]
  ·rw[xAbo e,decide_eq_false e,jj];exact xAem k r
theorem xAio(k j:κ)(y:V):∀kvs:List (κ×V),valV (kvs.map fun kv=>if kv.1=k then(kv.1,y) else kv) j=(valV kvs j).map fun x=>if j=k then y else x
 |[]=>rfl
 |p::r=>by
  have ih:=xAio k j y r;rw[qo]
  by_cases h:p.1=k
  ·rw[if_pos h]
   by_cases e:p.1=j
   ·rw[xAbn (p:=(p.1,y)) e,xAbn e,yw,if_pos (e.symm.trans h)]
   ·rw[xAbo (p:=(p.1,y)) e,xAbo e,ih]
  ·rw[if_neg h]
   by_cases e:p.1=j
   ·rw[xAbn (p:=p) e,xAbn e,yw,if_neg (fun z=>h (e.trans z))]
   ·rw[xAbo (p:=p) e,xAbo e,ih]
theorem xAgp(k j:κ)(y:V):∀kvs:List (κ×V),valV kvs k=none->valV (kvs++[(k,y)]) j=if j=k then some y else valV kvs j
 |[],_=>by
  by_cases e:k=j
  ·rw[if_pos e.symm];exact xAbn (p:=(k,y)) e
  ·rw[if_neg (fun z=>e z.symm)];exact xAbo (p:=(k,y)) e
 |p::r,hn=>by
  rw[List.cons_append]
  have hk:¬p.1=k:=fun z=>by rw[xAbn z]at hn;cases hn
  rw[xAbo hk]at hn;have ih:=xAgp k j y r hn
  by_cases e:p.1=j
  ·rw[xAbn e,xAbn e,if_neg (fun z=>hk (e.trans z))]
  ·rw[xAbo e,xAbo e,ih]
theorem xAip(kvs:List (κ×V))(k j:κ)(y:V):valV (putK kvs k y) j=if j=k then some y else valV kvs j:=by
 unfold putK
 by_cases a:(kvs.any fun kv=>decide (kv.1=k))=true
 ·rw[if_pos a,xAio]
  rw[xAem]at a
  by_cases e:j=k
  ·obtain⟨x,hx⟩:=jh.mp a
   rw[if_pos e,e,hx,yw,if_pos rfl]
  ·rw[if_neg e]
   cases valV kvs j with
   |none=>rfl
   |some x=>rw[yw,if_neg e]
 ·rw[if_neg a]
  refine xAgp k j y kvs ?_;rw[xAem]at a
  cases q:valV kvs k with
  |none=>rfl
  |some x=>rw[q]at a;exact(a rfl).elim
theorem xAcw(kvs:List (κ×V))(k:κ)(v:V):(putK kvs k v).length≤kvs.length+1:=by
 unfold putK
 split
 ·rw[qc];omega
 ·rw[ql,qy,yx];omega
theorem RelO.isSome_eq{o:Option V}{u:Option Value}(r:RelO o u):o.isSome=u.isSome:=by
 cases o with
 |none=>cases u with
  |none=>rfl
  |some _=>exact(show False from r).elim
 |some _=>cases u with
  |none=>exact(show False from r).elim
  |some _=>rfl
theorem KV.val{kvs:List (κ×V)}{vs:List (κ×Value)}(r:KV kvs vs)(k:κ):RelO (valV kvs k) (valueAt vs k):=by
 unfold KV at r
 induction r with
 |nil=>exact True.intro
 |@cons p q ps qs h t ih =>
  obtain⟨h1,h2⟩:=h
  by_cases e:p.1=k
  ·have e':q.1=k:=h1.symm.trans e
   have b:valueAt (q::qs) k=some q.2:=by simp[valueAt,List.find?_cons,e']
   rw[xAbn e,b];exact h2
  ·have e':¬q.1=k:=fun z=>e (h1.trans z)
   have b:valueAt (q::qs) k=valueAt qs k:=by simp[valueAt,List.find?_cons,e']
   rw[xAbo e,b];exact ih
theorem KV.any{kvs:List (κ×V)}{vs:List (κ×Value)}(r:KV kvs vs)(k:κ):(kvs.any fun kv=>decide (kv.1=k))=vs.any fun kv=>decide (kv.1=k):=by
 unfold KV at r
 induction r with
 |nil=>rfl
 |cons h t ih=>rw[vy,vy,ih,h.1]
theorem KV.repl{kvs:List (κ×V)}{vs:List (κ×Value)}(r:KV kvs vs)(k:κ){y:V}{u:Value}(ry:RelV y u) :
  KV (kvs.map fun kv=>if kv.1=k then(kv.1,y) else kv) (vs.map fun kv=>if kv.1=k then(kv.1,u) else kv):=by
 unfold KV at r ⊢
 induction r with
 |nil=>exact .nil
 |@cons p q ps qs h t ih =>
  rw[qo,qo];refine .cons ?_ ih;obtain⟨h1,h2⟩:=h
  by_cases e:p.1=k
  ·rw[if_pos e,if_pos (h1.symm.trans e)];exact⟨h1,ry⟩
  ·rw[if_neg e,if_neg (fun z=>e (h1.trans z))];exact⟨h1,h2⟩
theorem KV.put{kvs:List (κ×V)}{vs:List (κ×Value)}(r:KV kvs vs)(k:κ){y:V}{u:Value}(ry:RelV y u):KV (putK kvs k y) (stored vs k u):=by
 unfold putK stored;rw[r.any k]
 by_cases e:(vs.any fun kv=>decide (kv.1=k))=true
 ·rw[if_pos e,if_pos e];exact r.repl k ry
 ·rw[if_neg e,if_neg e];exact Paired.snoc r ⟨rfl,ry⟩
theorem KV.length{kvs:List (κ×V)}{vs:List (κ×Value)}(r:KV kvs vs):kvs.length=vs.length:=Paired.length r
end
theorem kV_is{P:Program}{w:World}{k:Key}{u:Value}(r:RelV (kV k) u):(mixKind P w).is k u=true:=by
 cases k with
 |inl i=>obtain⟨t,e⟩:=(show ∃t,u=Value.int i t from r);subst e;exact xAhm P w i t
 |inr x=>obtain⟨t,e⟩:=(show ∃t,u=Value.str x t from r);subst e;exact xAhn P w x t
theorem xAgq{P:Program}{w:World}:∀{ks:List Key} {us:List Value},Vals (ks.map kV) us->ItemsAre (mixKind P w) ks us
 |[],_,r=>by rw[List.map_nil]at r;cases r;exact .nil
 |k::ks,_,r=>by
  rw[qo]at r
  cases r with
  |cons h t=>exact .cons (kV_is h) (xAgq t)
abbrev KT(H:Hp):List (List Key×V)->List (List Key×Addr×Value)->Prop:=Paired fun p q=>p.1=q.1/\H q.2.1=some (.tup (p.1.map kV))/\RelV p.2 q.2.2
theorem KT.val{H:Hp}{kvs:List (List Key×V)}{xs:List (List Key×Addr×Value)}(r:KT H kvs xs)(k:List Key):RelO (valV kvs k) ((atKey xs k).map (·.2)):=by
 induction r with
 |nil=>exact True.intro
 |@cons p q ps qs h t ih =>
  obtain⟨h1,_,h2⟩:=h
  by_cases e:p.1=k
  ·have e':q.1=k:=h1.symm.trans e
   have b:atKey (q::qs) k=some q.2:=by simp[atKey,List.find?_cons,e']
   rw[xAbn e,b];exact h2
  ·have e':¬q.1=k:=fun z=>e (h1.trans z)
   have b:atKey (q::qs) k=atKey qs k:=by simp[atKey,List.find?_cons,e']
   rw[xAbo e,b];exact ih
theorem KT.repl{H:Hp}{kvs:List (List Key×V)}{xs:List (List Key×Addr×Value)}(r:KT H kvs xs)(k:List Key){y:V}{u:Value}(ry:RelV y u) :
  KT H (kvs.map fun kv=>if kv.1=k then(kv.1,y) else kv) (xs.map (putAt k u)):=by
 induction r with
 |nil=>exact .nil
 |@cons p q ps qs h t ih =>
  rw[qo,qo];refine .cons ?_ ih;obtain⟨h1,h2,h3⟩:=h;unfold putAt
  by_cases e:p.1=k
  ·rw[if_pos e,if_pos (h1.symm.trans e)];exact⟨h1,h2,ry⟩
  ·rw[if_neg e,if_neg (fun z=>e (h1.trans z))];exact⟨h1,h2,h3⟩
theorem KT.put{H:Hp}{kvs:List (List Key×V)}{xs:List (List Key×Addr×Value)}(r:KT H kvs xs)(k:List Key){b:Addr}{y:V}{u:Value}(hb:H b=some (.tup (k.map kV)))(ry:RelV y u) :
  KT H (putK kvs k y) (storedH xs k b u):=by
 have e:(kvs.any fun kv=>decide (kv.1=k))=(atKey xs k).isSome:=by
  rw[xAem,(r.val k).isSome_eq,jz]
 unfold putK storedH;rw[e]
 by_cases q:(atKey xs k).isSome=true
 ·rw[if_pos q,if_pos q];exact r.repl k ry
 ·rw[if_neg q,if_neg q];exact Paired.snoc r ⟨rfl,hb,ry⟩
theorem KT.keeps{H H':Hp}{kvs:List (List Key×V)}{xs:List (List Key×Addr×Value)}(r:KT H kvs xs)(ht:∀b ys,H b=some (.tup ys)->H' b=some (.tup ys)):KT H' kvs xs :=
 Paired.mapP r fun _ _ z=>⟨z.1,ht _ _ z.2.1,z.2.2⟩
section
variable {P:Program}{w:World}{H:Hp}{h:Heap}{a:Addr}
theorem rd_of{u:HO}(ok:HOk P w H h)(e:Rd H a u):ObjOk P w H h a u:=e.ok ok
theorem dk_rd{kvs:List (Key×V)}(ok:HOk P w H h)(e:Rd H a (.dK kvs)):kvs.length≤sizeLine/\(a==sysModules)=false/\∃vs,KV kvs vs/\h.DictOf (mixKind P w) a vs :=
 show ObjOk P w H h a (.dK kvs) from rd_of ok e
theorem dk_of{kvs:List (Key×V)}(ok:HOk P w H h)(e:H a=some (.dK kvs)):kvs.length≤sizeLine/\(a==sysModules)=false/\∃vs,KV kvs vs/\h.DictOf (mixKind P w) a vs:=dk_rd ok (.inl e)
theorem xAhu{ks:List Key}(ok:HOk P w H h)(e:H a=some (.tup (ks.map kV))):(tupleKind (mixKind P w)).is h ks a:=by
 obtain⟨_,its,r,o,h1,h2,n,h3⟩:=(show ObjOk P w H h a (.tup (ks.map kV)) from ok a _ e);exact⟨o,its.toArray,n,h1,h2,h3,by simpa using xAgq r⟩
theorem dt_rd{kvs:List (List Key×V)}(ok:HOk P w H h)(e:Rd H a (.dT kvs)):kvs.length≤sizeLine/\(a==sysModules)=false ∧
  ∃xs,KT H kvs xs/\h.DictOfH (tupleKind (mixKind P w)) a xs:=by
 obtain⟨z,y,xs,r,o,es,ep,h1,h2,h3,h4,h5⟩:=(show ObjOk P w H h a (.dT kvs) from rd_of ok e);refine⟨z,y,xs,r,o,es,ep,h1,h2,h3,h4,fun x hx=>?_,h5⟩
 have all:∀{l:List (List Key×V)} {m:List (List Key×Addr×Value)},KT H l m->∀x∈m,(tupleKind (mixKind P w)).is h x.1 x.2.1:=by
  intro l m q
  induction q with
  |nil=>intro x hx;exact nomatch hx
  |@cons p q ps qs hq t ih =>
   intro x hx;rcases qw.mp hx with e|hx
   ·subst e
    exact xAhu ok (by rw[←hq.1];exact hq.2.1)
   ·exact ih x hx
 exact all r x hx
theorem dt_of{kvs:List (List Key×V)}(ok:HOk P w H h)(e:H a=some (.dT kvs)):kvs.length≤sizeLine/\(a==sysModules)=false ∧
  ∃xs,KT H kvs xs/\h.DictOfH (tupleKind (mixKind P w)) a xs:=dt_rd ok (.inl e)
end
def DGet(H:Hp)(a:Addr)(y:V)(r:Option V):Prop :=
 (∃kvs k,Rd H a (.dK kvs)/\y=kV k/\r=valV kvs k)\/∃kvs k b,Rd H a (.dT kvs)/\y=.ref b/\H b=some (.tup (k.map kV))/\r=valV kvs k
def DPut(H:Hp)(a:Addr)(y v:V)(H':Hp):Prop :=
 (∃kvs k,H a=some (.dK kvs)/\y=kV k/\kvs.length<sizeLine/\H'=upd H a (.dK (putK kvs k v))) ∨
 ∃kvs k b,H a=some (.dT kvs)/\y=.ref b/\H b=some (.tup (k.map kV))/\kvs.length<sizeLine/\H'=upd H a (.dT (putK kvs k v))
theorem DGet.t{H:Hp}{a b:Addr}{kvs:List (List Key×V)}{k:List Key}(e:H a=some (.dT kvs))(eb:H b=some (.tup (k.map kV))):DGet H a (.ref b) (valV kvs k):=.inr ⟨kvs,k,b,.inl e,rfl,eb,rfl⟩
theorem DPut.t{H:Hp}{a b:Addr}{kvs:List (List Key×V)}{k:List Key}{v:V}(e:H a=some (.dT kvs))(eb:H b=some (.tup (k.map kV)))(hl:kvs.length<sizeLine) :
  DPut H a (.ref b) v (upd H a (.dT (putK kvs k v))):=.inr ⟨kvs,k,b,e,rfl,eb,hl,rfl⟩
section
variable {X:Cx}{pins:List (Addr×Obj)}{σ:St}{H:Hp}{s:Shared}{a:Addr}{y v:V}{u r:Value}{o:Option V}{A:Around}{E:Value->Shared->Prop}
theorem Inv.big(I:Inv X pins σ H s):sysModules<s.heap.objs.size:=by
 have h:mainGlobals<s.heap.objs.size:=(I.mod.glob.keeps I.bk).lt;exact wy (by decide) h
theorem xAlf{Q:Value->Shared->Prop}(hu:A.units+1<cLine)(I:Inv X pins σ H s)(g:DGet H a y (some v))(ry:RelV y u)(h:∀w' s',Inv X pins σ H s'->RelV v w'->Q w' s') :
  wpAny (model X.prog X.w) A (getItem (.ref a) u) Q E s:=by
 rcases g with⟨kvs,k,e,ey,l⟩|⟨kvs,k,b,e,ey,eb,l⟩
 ·subst ey
  obtain⟨z,hd,vs,rel,dd⟩:=dk_rd I.hok e;obtain⟨w',hw,rw'⟩:=RelO.some_of (v:=v) (o:=valueAt vs k) (by rw[l];exact rel.val k);exact wpAny_getItem_of (kV_is ry) dd.mapOf hw (h w' _ (I.tok _) rw')
 ·subst ey
  cases(show u=Value.ref b from ry);obtain⟨z,hd,xs,rel,dd⟩:=dt_rd I.hok e;obtain⟨w',hw,rw'⟩:=RelO.some_of (v:=v) (o:=(atKey xs k).map (·.2)) (by rw[l];exact rel.val k);obtain⟨p,hp,hp2⟩:=yf.mp hw;refine wpAny_getItem_heap (tupleKind_room_in1 hu) (xAhu I.hok eb) dd hp ?_;rw[hp2];exact h w' _ (I.tok _) rw'
theorem xAni{h':Heap}{t':Nat}{ob:HO}(I:Inv X pins σ H s)(mu:Mut (H a))(hs:Heap.SameBut a s.heap h')(he:∃q,h'.get? a=some q)(new:ObjOk X.prog X.w (upd H a ob) h' a ob) :
  Inv X pins σ (upd H a ob) { s with heap:=h',toks:=t' } :=
 I.write (x:=a) (e:=a) mu (.inl rfl) (fun b q hb z=>(hs.2 b hb).trans z) he new
theorem dk_new{P:Program}{w:World}{H':Hp}{h':Heap}{kvs:List (Key×V)}{vs:List (Key×Value)}(z:kvs.length≤sizeLine)(hd:(a==sysModules)=false)(rel:KV kvs vs)(dd:h'.DictOf (mixKind P w) a vs) :
  ObjOk P w H' h' a (.dK kvs):=⟨z,hd,vs,rel,dd⟩
theorem xAlg{H':Hp}{Q:Unit->Shared->Prop}(hu:A.units+1<cLine)(I:Inv X pins σ H s)(g:DPut H a y v H')(ry:RelV y u)(rv:RelV v r)(h:∀s',Inv X pins σ H' s'->Q () s') :
  wpAny (model X.prog X.w) A (setItem (.ref a) u r) Q E s:=by
 rcases g with⟨kvs,k,e,ey,l,eH⟩|⟨kvs,k,b,e,ey,eb,l,eH⟩
 ·subst ey eH
  obtain⟨z,hd,vs,rel,dd⟩:=dk_of I.hok e
  have hz:vs.length≤sizeLine:=by rw[←rel.length];exact z
  have hl:(putK kvs k v).length≤sizeLine:=by have:=xAcw kvs k v;omega
  refine wpAny_setItem_pairs (hsz:=hz) (kV_is ry) dd fun h' dd' hs=>h _ ?_
  have he:∃q,h'.get? a=some q:=let⟨q,_,_,hq,_⟩:=dd';⟨q,hq⟩
  exact xAni I (by rw[e];exact True.intro) hs he (dk_new hl hd (rel.put k rv) dd')
 ·subst ey eH
  cases(show u=Value.ref b from ry);obtain⟨z,hd,xs,rel,dd⟩:=dt_of I.hok e
  have hz:xs.length≤sizeLine:=by rw[←Paired.length rel];exact z
  have hl:(putK kvs k v).length≤sizeLine:=by have:=xAcw kvs k v;omega
  refine wpAny_setItem_heap (hsz:=hz) (tupleKind_room_in1 hu) (xAhu I.hok eb) dd fun h' dd' hs=>h _ ?_;obtain⟨q,es,ep,hq,h2,h3,h4,_,h5⟩:=dd';refine xAni I (by rw[e];exact True.intro) hs ⟨q,hq⟩ ⟨hl,hd,_,(rel.put k eb rv).keeps fun c ys ec=>?_,q,es,ep,hq,h2,h3,h4,h5⟩;rw[xAal (ne_of ec e (fun z=>nomatch z))];exact ec
end
def NoSl(i:Expr):Prop:=∀ov iv,subscripted i false ov iv=operate [ov,iv] (getItem ov iv)
theorem xAnj{prog:Program}{w:World}{A:Around}{E:Value->Shared->Prop}{s:Shared}{env:Env}{value slice:Expr}{pos:Pos}{T id:String}{Q:Value->Shared->Prop}(hl:typeLookup (.type T) "__getitem__"=pure (some (.builtin id)))(hs:NoSl slice)(h:wpAny (model prog w) A (eval value env) (fun o s₁=>wpAny (model prog w) A (eval slice env) (fun i s₂=>s₂.TypeIs o T/\wpAny (model prog w) A (getItem o i) Q E s₂) E s₁) E s) :
  wpAny (model prog w) A (eval (.Subscript value slice pos) env) Q E s:=by
 refine Subscript_ (wpAny_mono h (fun o s₁ h₁=>wpAny_mono h₁ (fun i s₂ h₂=>?_) fun _ _ x=>x) fun _ _ x=>x);obtain⟨hT,h₂⟩:=h₂;unfold subscriptTail;refine wpAny_bind ?_;rw[getitemInPython_of_ne hT.not_modules];refine wpAny_bind (wpAny_specialOf hT hl ?_)
 have fin:wpAny (model prog w) A (subscripted slice false o i) (fun r s₃=>wpAny (model prog w) A (letTemporaryGo value o r >>= fun _=>pure r) Q E s₃) E s₂:=by
  rw[hs o i];exact wpAny_operating (wpAny_mono h₂ (fun r s₃ h₃=>wpAny_bind (wpAny_letTemporaryGo (wpAny_pure h₃))) fun _ _ x=>x)
 first
  |exact wpAny_pure (wpAny_bind fin)
  |exact wpAny_bind (wpAny_pure (wpAny_bind fin))
  |exact wpAny_bind fin
theorem xAhv{X:Cx}{pins:List (Addr×Obj)}{σ:St}{H:Hp}{s:Shared}{a:Addr}{y:V}{o:Option V}(I:Inv X pins σ H s)(g:DGet H a y o):s.TypeIs (.ref a) "dict":=by
 rcases g with⟨kvs,k,e,_,_⟩|⟨kvs,k,b,e,_,_,_⟩
 ·obtain⟨_,_,vs,_,dd⟩:=dk_rd I.hok e
  exact dd.typeIs
 ·obtain⟨_,_,xs,_,dd⟩:=dt_rd I.hok e
  exact dd.typeIs
inductive ItDGet(Q:VK)(x:V)(y:V)(H2:Hp):Prop
 |mk (a:_) (v:_) (h0_:x=.ref a) (h1_:DGet H2 a y (some v)) (h2_:Q v H2):ItDGet Q x y H2
def tDGet(td ty:TE):TE:=fun σ H Q=>td σ H fun x H1=>ty σ H1 fun y H2=>ItDGet Q x y H2
inductive IsDPut(D:Ends)(σ:St)(v:V)(x:V)(y:V)(H3:Hp):Prop
 |mk (a:_) (H4:_) (h0_:x=.ref a) (h1_:DPut H3 a y v H4) (h2_:D.nx σ H4):IsDPut D σ v x y H3
def sDPut(td ty tv:TE):TS:=fun D σ H=>tv σ H fun v H1=>td σ H1 fun x H2=>ty σ H2 fun y H3=>IsDPut D σ v x y H3
section
variable {X:Cx}{o i e value:Expr}{pos pos' tpos:Pos}{td ty tv:TE}
theorem xAqi(hu:X.A.units+1<cLine)(ho:PE X o td)(hi:PE X i ty)(hs:NoSl i):PE X (.Subscript o i pos) (tDGet td ty):=by
 refine⟨?_⟩;intro pins s σ H Q I h;refine xAnj PySem.F.slot_dict_getitem.lookup hs (thn (ho pins s σ H _ I h) fun u s1 ⟨x,H1,I1,rx,q1⟩=>thn (hi pins s1 σ H1 _ I1 q1) fun iv s2 ⟨y,H2,I2,ry,a,v,ex,g,q2⟩=>?_);subst ex;obtain rfl:u=Value.ref a:=rx;exact⟨xAhv I2 g,xAlf hu I2 g ry fun w' s3 I3 rw'=>⟨v,H2,I3,rw',q2⟩⟩
theorem xAqj(hu:X.A.units+1<cLine)(ho:PE X o td)(hi:PE X i ty)(hv:PE X value tv)(hs:swapsWith value (some (.Subscript o i pos')) pos.line X.env=pure false) :
  PS X (.Assign [.Subscript o i pos'] value pos) (sDPut td ty tv):=by
 refine⟨?_⟩;intro pins s σ H D I h;refine wpAny_Assign_Subscript (thn (hv pins s σ H _ I h) fun r s1 ⟨v,H1,I1,rv,q1⟩=>thn (ho pins s1 σ H1 _ I1 q1) fun u s2 ⟨x,H2,I2,rx,q2⟩=>thn (hi pins s2 σ H2 _ I2 q2) fun iv s3 ⟨y,H3,I3,ry,a,H4,ex,g,q3⟩=>?_) hs;subst ex;obtain rfl:u=Value.ref a:=rx;exact xAlg hu I3 g ry rv fun s4 I4=>⟨σ,H4,I4,q3⟩
end
theorem xAop{P:Program}{w:World}{H:Hp}(h:Heap)(hb:sysModules<h.objs.size):ObjOk P w H (h.push { cls:=.type "dict",data:=.dict #[] }) h.objs.size (.dT []) :=
 ⟨w5 _,beq_eq_false_iff_ne.mpr (Ne.symm (qi hb)),[],.nil,_,#[],0,Heap.get?_push_size _ rfl,⟨rfl,rfl,rfl⟩,rfl,rfl,vn⟩
def tDNewT:TE:=fun _ H Q=>∀p,H p=none->Q (.ref p) (upd H p (.dT []))
section
variable {X:Cx}{pos:Pos}
theorem xAoq:PE X (.Dict [] [] pos) tDNewT:=⟨fun pins s σ H Q I h =>
 wpAny_Dict_empty ⟨.ref s.heap.objs.size,_,I.laid (a:=s.heap.objs.size) (o:=.dT []) (t':=s.toks) (fun _ _ q=>Heap.get?_push_of_some _ q) (qd _) (xAop s.heap I.big),rfl,h _ (I.hok.fresh (qd _))⟩⟩
end
end L2
namespace Att
open PySem PySem.W PySem.Calls PyProof.Rows
theorem xAdy{P:Params}{h:Heap}:∀(ns:List Int) (vs:List Value),WellAll P h vs (ns.map WData.int)->IntsAre vs ns:=by
 intro ns
 induction ns with
 |nil =>
  intro vs w;rw[List.map_nil]at w;cases w;exact .nil
 |cons n ns ih =>
  intro vs w;rw[qo]at w
  cases w with
  |cons a b =>
   cases a;exact .cons _ _ (ih _ b)
theorem xAlh{l:OpenLaw}{n:Nat}(hn:l.most=some n){P:Params}{h:Heap}{args:List WData}{vals:List Value}(hpre:l.row.toRowW.claim.pre args=true)(hwl:WellAll P h vals args) :
  ∃a vs ns,vals=[Value.ref a]/\args=[WData.list (ns.map WData.int)]/\h.get? a=some { cls:=.type "list",data:=.seq vs.toArray }/\IntsAre vs ns/\ns.length≤n:=by
 have hsh:WShape.hasAll [] args [.list .int]=true:=(pre_splitW hpre).1;have hc:l.pre.holds [] { args:=args }=true:=(pre_splitW hpre).2;obtain⟨d,r,rfl,h1,h2⟩:=hasAllW_cons hsh;obtain rfl:=hasAllW_nil h2;obtain⟨xs,rfl,h3⟩:=hasW_list h1;obtain⟨ns,rfl⟩:=items_int h3
 have hlen:ns.length≤n:=by
  unfold OpenLaw.pre at hc
  have h4:(WTm.not (.lt (.lit (.int (n:Int))) (.len (.arg 0)))).holds [] { args:=[.list (ns.map .int)] }=true:=by
   have h4:=(holds_andW hc).1;rw[hn]at h4;exact h4
  have h5:=condW_of h4 (w_not (w_lt w_lit (w_len_list (w_arg rfl))));rw[qc]at h5;refine jk fun q=>?_
  have q':(n:Int)<((ns.length:Nat):Int):=by omega
  first
   |(rw[decide_eq_true q']at h5;exact absurd h5 (by decide))
   |(simp at h5;omega)
 cases hwl with
 |cons w1 w2 =>
  cases w2
  cases w1 with
  |list ho hall=>exact⟨_,_,ns,rfl,rfl,ho,xAdy ns _ hall,hlen⟩
theorem xAli(l:OpenLaw)(args:List WData):l.row.toRowW.claim.post args (.bool true) args=true :=
 postW_of (r:=l.row.toRowW) (X:=(true==true))
  (show WShape.has [] (.bool true) .bool=true by first|rfl|decide|simp[WShape.has,WShape.arms,WShape.armsAll])
  (show(WTm.eq .res (.lit (.bool true))).value [] { args:=args,res:=some (.bool true),after:=args }=some (.bool (true==true)) from w_eq_bool (w_res rfl) w_lit) rfl
theorem attach_call{l:OpenLaw}{n:Nat}{q:Program}{loose:List Str}{XP:(Str->Option Value)->Heap->Prop}{YP:World->Heap->Prop}{d:DefRec}(hn:l.most=some n)(hdf:d.params.defaults=[])(call:∀(w:World) (s₀ s₁:Shared) (mg mb:Str->Option Value) (fa:Addr) (o:Obj) (pm cd doc:Value) (a:Addr) (vs:List Value) (ns:List Int),
   Ground q loose [] XP w s₀ mg mb s₁.heap->YP w s₁.heap →
   s₁.heap.get? fa=some o->o.data=.func (docDef d.name d.params d.body d.scope pm cd doc)->s₁.heap.CodeRec cd d.name->mg d.name=some (.ref fa) →
   s₁.heap.get? a=some { cls:=.type "list",data:=.seq vs.toArray }->IntsAre vs ns->ns.length≤n->s₁.gens=#[] →
   codeAny (model l.prog w) callerA (.call (.ref fa) ⟨[.ref a],[]⟩) (fun r s'=>r=.ok (.ret (.bool true))/\OldK s₁.heap s'.heap/\s'.os=s₁.os/\AllBare s'.gens) s₁) :
  WalkO q loose XP YP l.row.toRowW d [] (fun f vs=>PySem.call f vs):=by
 intro w s₀ s₁ mg mb G Y fa o pm cd doc dV kV ho hd hcd hD hmg hg args vals as hpre hlay hrd hwl hlo;obtain rfl:dV=.none:=Dflts.none hD hdf;obtain rfl:kV=.none:=Dflts.noKw hD;obtain⟨a,vs,ns,rfl,rfl,hobj,hints,hlen⟩:=xAlh hn hpre hwl;refine enter_call (codeAny_mono (call w s₀ s₁ mg mb fa o pm cd doc a vs ns G Y ho (fd_plain hd) hcd hmg hobj hints hlen hg) fun r s' hq=>?_);obtain⟨rfl,h2,h3,h4⟩:=hq;exact⟨.inl ⟨.bool true,.bool true,[],rfl,fun _=>rfl,.bool true,xAli l _,fun _=>⟨List.Pairwise.nil,fun _ hm=>(nomatch hm)⟩⟩,h2,h3,h4⟩
end Att
namespace L2
open PySem PySem.Spec PyProof.Rows
theorem xAgr:∀{vs:List Value} {ns:List Int},IntsAre vs ns->Vals (ns.map V.int) vs
 |_,_,.nil=>.nil
 |_,_,.cons n t h=>.cons ⟨t,rfl⟩ (xAgr h)
def defArgs(s:Stmt):Arguments:=match s with
 |.FunctionDef _ a _ _ _ _ _ _ _ _=>a
 |_=>{ posonlyargs:=[],args:=[],vararg:=none,kwonlyargs:=[],kw_defaults:=[],kwarg:=none,defaults:=[] }
def defBody(s:Stmt):List Stmt:=match s with
 |.FunctionDef _ _ b _ _ _ _ _ _ _=>b
 |_=>[]
def defScope(s:Stmt):Scope:=match s with
 |.FunctionDef _ _ _ _ _ _ sc _ _ _=>sc
 |_=>{ kind:=.function,names:=[],isGenerator:=false,isCoroutine:=false }
abbrev CX0:CXT:=fun _ _ _ _ _ _=>False
abbrev E0:XK:=fun _ _ _=>False
theorem pass0{X:Cx}:Passes CX0 X E0:=fun _ _ _ _ _ _ _ h=>h.elim
structure Fun(K:PySem.W.Frag)(x qual:Str)(st:Stmt)(f:Addr)(fd:FuncData):Prop where
 ex:∃(oc:Value) (od:Option Addr) (kV doc pm:Value) (an:Option Addr) (cdv ct:Value) (osl:Array (Option Value)),
  fd=PySem.W.fnOf x qual (defArgs st) (defBody st) (defScope st) .none kV doc pm an cdv ct/\K.lookup f=some ⟨oc,od,.func fd,osl⟩/\PySem.W.codeIn K cdv qual=true
 kp:PySem.W.keepIn K (.ref f)=true
section
variable {P:Program}{w:World}{K:PySem.W.Frag}{mg:Str->Option Value}{base:Heap}
theorem Fun.ok{x qual:Str}{st:Stmt}{f:Addr}{fd:FuncData}{N ps:List Str}{k:Nat}{sp:Sp}(F:Fun K x qual st f fd)(S:FnScope N ps (defScope st))(len:∀vs H Q E,sp vs H Q E->vs.length=ps.length)(hbody:∀(cdv:Value) (A:Around) (outer:List Env) (s:Shared) (H:Hp) (vs:List V) (Q:VK) (E:XK),Room k (A.deeper (envOfC qual (defScope st) s.heap.objs.size f cdv))->sp vs H Q E →
   ∃t,PSs (cxOf CX0 P w K mg base N qual (defScope st) f cdv A outer s H E).nox (defBody st) t/\t { nx:=fun _ H'=>Q .non H',rt:=Q } (start N vs) H):FnOk P w K mg base CX0 (k+1) f fd ps sp:=by
 obtain⟨oc,od,kV,doc,pm,an,cdv,ct,osl,rfl,lk,hcd⟩:=F.ex;refine fn_of lk hcd S len fun A outer s H vs Q E hr hsp=>?_;obtain⟨t,h,q⟩:=hbody cdv A outer s H vs Q E hr hsp;exact⟨t,h.nox,q⟩
theorem Fun.binds{x qual:Str}{st:Stmt}{f:Addr}{fd:FuncData}{ps:List Str}(F:Fun K x qual st f fd)(h:∀(kV doc pm:Value) (an:Option Addr) (cdv ct:Value) (us:List Value),us.length=ps.length->bindArgs (PySem.W.fnOf x qual (defArgs st) (defBody st) (defScope st) .none kV doc pm an cdv ct) ⟨us,[]⟩=pure (ps.zip us)):Binds K fd ps []:=by
 obtain⟨oc,od,kV,doc,pm,an,cdv,ct,osl,rfl,lk,hcd⟩:=F.ex;exact .all (h kV doc pm an cdv ct)
theorem xAqk{x qual:Str}{st:Stmt}{f:Addr}{oc:Value}{od an:Option Addr}{osl:Array (Option Value)}{kV doc pm cdv ct:Value}(l:K.lookup f=some ⟨oc,od,.func (PySem.W.fnOf x qual (defArgs st) (defBody st) (defScope st) .none kV doc pm an cdv ct),osl⟩)(c:PySem.W.codeIn K cdv qual=true)(k:PySem.W.keepIn K (.ref f)=true):Fun K x qual st f (PySem.W.fnOf x qual (defArgs st) (defBody st) (defScope st) .none kV doc pm an cdv ct):=⟨⟨oc,od,kV,doc,pm,an,cdv,ct,osl,rfl,l,c⟩,k⟩
end
theorem hu_of{A:Around}{k:Nat}(hr:Room k A):A.units+1<cLine:=yy (Nat.add_le_add_left (by decide:1≤64) _) hr.units
theorem xAad{n:Nat}(h:n≤1000):n<sizeLine:=yy h (by decide)
section
variable {X:Cx}
theorem pv(i:Nat){x:Str}{pos:Pos}(hN:X.N[i]?=some x:=by rfl)(hv:Vis X.env.scope x:=by first|exact Or.inl rfl|exact Or.inr (Or.inl rfl)|exact Or.inr (Or.inr rfl))(hd:(x==("__debug__":Str))=false:=by decide)(hcd:(x==("__classdict__":Str))=false:=by decide):PE X (.Name x pos) (tVar i):=pe_var hN hv hd hcd
end
theorem iteF{A B:Prop}(h:B):if false=true then A else B:=by
 rw[if_neg qx];exact h
theorem iteT{A B:Prop}(h:A):if true=true then A else B:=by
 rw[if_pos rfl];exact h
theorem ite2{c A B:Prop}[Decidable c](h1:c->A)(h2:¬c->B):if c then A else B:=by
 by_cases h:c
 ·rw[if_pos h]
  exact h1 h
 ·rw[if_neg h]
  exact h2 h
def Same(H H':Hp):Prop:=∀b o,H b=some o->H' b=some o
theorem Same.refl(H:Hp):Same H H:=fun _ _ h=>h
theorem Same.trans{H H1 H2:Hp}(a:Same H H1)(b:Same H1 H2):Same H H2:=fun c o h=>b c o (a c o h)
theorem Same.free{H H':Hp}(e:Same H H'){l:Addr}(h:H' l=Option.none):H l=Option.none:=by
 cases q:H l with
 |none=>rfl
 |some o =>
  rw[e l o q]at h;cases h
section
variable {κ:Type}[DecidableEq κ]
theorem xAiq:∀{l:List κ} {k:κ},l.Nodup->¬k∈l->(l++[k]).Nodup
 |[],k,_,_=>by simp
 |a::r,k,h,hk=>by
  obtain⟨h1,h2⟩:=zv.mp h;show(a::(r++[k])).Nodup;refine zv.mpr ⟨fun m=>?_,xAiq h2 fun m=>hk (qw.mpr (Or.inr m))⟩;rcases q0.mp m with q|q
  ·exact h1 q
  ·exact hk (qw.mpr (Or.inl (zd.mp q).symm))
end
section
variable {prog:Program}{w:World}{A:Around}{R:Result->Shared->Prop}{s:Shared}
theorem xAir{elt tg iter:Expr}{ifs:List Expr}{sc:Scope}{pos:Pos}{it acc:Value}{ce:Env}{xe:Value->Shared->Prop}(hxe:∀e s',xe e s'->notedBy (model prog w) A ce (fun e s'=>R (.error e) s') e s')(J:Nat->Shared->Prop)(turn:∀n s,J n s->wpAny (model prog w) A (pyNext it) (fun r s1=>match r with
   |none=>R (.ok .next) s1
   |some v=>wpAny (model prog w) A (letOwnedTupleGo tg it v) (fun _ s2=>wpAny (model prog w) A (assign tg ce v) (fun _ s3 =>
     wpAny (model prog w) A (forIn ifs true fun c r=>if r=true then do let ok ←isTrue c ce (eval c ce);pure (ForInStep.yield ok) else pure (ForInStep.yield r)) (fun ok s4 =>
      if ok=true then
       wpAny (model prog w) A (eval elt ce) (fun x s5=>wpAny (model prog w) A (call (.builtin "list.append") [acc,x]) (fun _ s6=>∃m,m<n/\J m s6) xe s5) xe s4
      else ∃m,m<n/\J m s4) xe s3) xe s2) xe s1) xe s)(n:Nat)(h:J n s):codeAny (model prog w) A (.compLoop (.ListComp elt [⟨tg,iter,ifs,0⟩] sc pos) 0 it acc ce) R s:=by
 refine codeAny_loop rfl J (fun n s hJ=>?_) n h;show wpAny _ A ((compTurn (.ListComp elt [⟨tg,iter,ifs,0⟩] sc pos) 0 it acc ce).onRaise (fun x=>do noteFrame x ce;theTreesLotGoes x)) _ _ s;refine wpAny_noted ?_;rw[compTurn_list];refine wpAny_bind (wpAny_standAt (wpAny_bind (wpAny_mono (turn n s hJ) (fun r s1 h1=>?_) fun _ _ f=>hxe _ _ f)))
 cases r with
 |none=>exact wpAny_pure h1
 |some v =>
  refine wpAny_bind (wpAny_mono h1 (fun _ s2 h2=>?_) fun _ _ f=>hxe _ _ f);refine wpAny_bind (wpAny_mono h2 (fun _ s3 h3=>?_) fun _ _ f=>hxe _ _ f);refine wpAny_bind (wpAny_mono h3 (fun ok s4 h4=>?_) fun _ _ f=>hxe _ _ f)
  cases ok with
  |false=>exact wpAny_pure ⟨rfl,h4⟩
  |true =>
   refine wpAny_bind (wpAny_bind (wpAny_mono h4 (fun x s5 h5=>?_) fun _ _ f=>hxe _ _ f));exact wpAny_bind (wpAny_mono h5 (fun _ s6 h6=>wpAny_pure (wpAny_pure ⟨rfl,h6⟩)) fun _ _ f=>hxe _ _ f)
end
def compCx(X:Cx)(N:List Str)(sc:Scope)(cl:List (Str×Addr))(s:Shared)(H:Hp)(fp:List Addr):Cx where
 prog:=X.prog
 w:=X.w
 K:=X.K
 mg:=X.mg
 base:=X.base
 A:=X.A
 N:=N
 s₀:=s
 H₀:=H
 env:=compEnvC sc cl (s.heap.objs.size+1) X.env
 outer:=X.stack
 stack:=X.stack
 ex:=fp
 fn:=fun _=>false
 calm:=X.calm
 pn:=[]
 xe:=fun _ _=>False
def compSt(own:List Str)(fr:List (Str×Nat))(σ:St):St:=own.map (fun _=>none)++fr.map fun p=>(σ[p.2]?).join
def KeepS(σ σ':St):Prop:=σ.length=σ'.length/\∀(i:Nat) v,σ[i]?=some (some v)->σ'[i]?=some (some v)
def Fresh(g:TG)(σ:St):Prop:=∀x H (Q:St->Hp->Prop),g x σ H Q->g x σ H fun σ' H'=>KeepS σ σ'/\Q σ' H'
theorem KeepS.set{σ:St}{i:Nat}(h:σ[i]?=some none)(v:V):KeepS σ (σ.set i (some v)):=by
 refine⟨by simp,fun j u e=>?_⟩
 by_cases hj:i=j
 ·subst hj;rw[h]at e;cases e
 ·rw[vk hj];exact e
theorem xAby{σ:St}{i:Nat}(h:σ[i]?=some none):Fresh (gName i) σ:=fun x H Q q=>⟨KeepS.set h x,q⟩
theorem xAex{σ:St}{i j n:Nat}(hi:σ[i]?=some none)(hj:σ[j]?=some none)(hij:i≠j):Fresh (gTup n (gCons (gName i) (gCons (gName j) gNil))) σ:=by
 intro x H Q q;obtain⟨a,xs,e1,e2,e3,v,r,e4,w,r',e5,e6,q⟩:=q;refine⟨a,xs,e1,e2,e3,v,r,e4,w,r',e5,e6,?_,q⟩;have h1:=KeepS.set hi v;have h2:=KeepS.set (σ:=σ.set i (some v)) (i:=j) (by rw[vk hij];exact hj) w;exact⟨h1.1.trans h2.1,fun k u e=>h2.2 k u (h1.2 k u e)⟩
def PTs0(X:Cx)(ifs:List Expr)(t:TT):Prop :=
 ∀(pins:List (Addr×Obj)) (s:Shared) (σ:St) (H:Hp) (Q:Bool->Hp->Prop),Inv X pins σ H s->t σ H Q →
  wpAny (model X.prog X.w) X.A (forIn ifs true fun c r=>if r=true then do let ok ←isTrue c X.env (eval c X.env);pure (ForInStep.yield ok) else pure (ForInStep.yield r)) (TP X pins σ Q) X.xe s
structure PTs(X:Cx)(ifs:List Expr)(t:TT):Prop where run:PTs0 X ifs t
instance PTsCf{X:Cx}{ifs:List Expr}{t:TT}:CoeFun (PTs X ifs t) fun _=>PTs0 X ifs t:=⟨PTs.run⟩
theorem xAav{X:Cx}:PTs X [] (fun _ H Q=>Q true H):=⟨fun _ _ _ H _ I h=>wpAny_tests_nil ⟨H,I,h⟩⟩
def LCb(own:List Str)(fr:List (Str×Nat))(g:TG)(tt:TT)(te:TE)(σ:St)(Q:VK)(J:It)(H1:Hp):Prop:=∃W:Nat->Nat->List V->Hp->Prop,(∃m,W 0 m [] H1)/\∀i m ys H,W i m ys H →
 (J.stop i H/\∀p,H p=none->Q (.ref p) (upd H p (.lst ys)))\/(J.go i H/\ys.length<sizeLine/\∀x H',J.yld i H x H'->g x (compSt own fr σ) H' fun σ2 H2=>tt σ2 H2 fun b H3 =>
  if b=true then te σ2 H3 fun y H4=>∃m',m'<m/\W (i+1) m' (ys++[y]) H4 else ∃m',m'<m/\W (i+1) m' ys H3)
def tLC(own:List Str)(fr:List (Str×Nat))(wi:TI)(g:TG)(tt:TT)(te:TE):TE:=fun σ H Q=>wi σ H fun J H1=>LCb own fr g tt te σ Q J H1
abbrev accObj(us:List Value):Obj:={ cls:=.type "list",data:=.seq us.toArray us.length }
theorem xAor(us:List Value)(u:Value):({ cls:=.type "list",data:=.seq (us.toArray.push u) (us.length+1) }:Obj)=accObj (us++[u]):=by
 unfold accObj;rw[ql,zm,List.push_toArray]
structure Caps(X:Cx)(sc:Scope)(cl:List (Str×Addr))(fr:List (Str×Nat)):Prop where
 clos:closureFor sc X.env=pure cl
 sub:∀x c,cl.lookup x=some c->X.env.cells.lookup x=some c
 has:∀x,((relabel sc X.env).names.lookup x=some .cell\/(relabel sc X.env).names.lookup x=some .free)->∃c,cl.lookup x=some c
 cap:∀p∈fr,X.N[p.2]?=some p.1/\X.env.kindOf p.1≠some .local/\Vis X.env.scope p.1/\((relabel sc X.env).names.lookup p.1=some .cell\/(relabel sc X.env).names.lookup p.1=some .free)
structure CompSc(sc:Scope):Prop where
 kind:sc.kind=.function
 cell:∀y∈sc.names,y.2≠.cell
 nms:∀y∈sc.names,y.2=.local->sc.names.lookup y.1=some .local
section
variable {X:Cx}
theorem Inv.stkNot{pins:List (Addr×Obj)}{σ:St}{H:Hp}{s:Shared}(I:Inv X pins σ H s){b:Addr}(h1:b≠X.env.locals)(h2:b∉X.fs):b∉frs X.stack:=fun z=>by
 rcases qw.mp (I.stkSub b z) with e|e
 ·exact h1 e
 ·exact h2 e
theorem xAis{own:List Str}{fr:List (Str×Nat)}{σ:St}{N:List Str}(hN:N=own++fr.map (·.1)){i:Nat}{x:Str}{v:V}(h1:N[i]?=some x)(h2:(compSt own fr σ)[i]?=some (some v)) :
  ∃p∈fr,p.1=x/\σ[p.2]?=some (some v):=by
 unfold compSt at h2;subst hN
 by_cases hi:i<own.length
 ·rw[List.getElem?_append_left (by simpa using hi),List.getElem?_map]at h2
  rw[qj hi]at h2;cases h2
 ·rw[List.getElem?_append_right (by simpa using hi),List.length_map,List.getElem?_map]at h2
  rw[List.getElem?_append_right (by simpa using hi),List.getElem?_map]at h1
  cases e:fr[i - own.length]? with
  |none=>rw[e]at h1;cases h1
  |some p =>
   rw[e]at h1 h2;refine⟨p,qz e,Option.some.inj h1,?_⟩;have h2':(σ[p.2]?).join=some v:=Option.some.inj h2
   cases e3:σ[p.2]? with
   |none=>rw[e3]at h2';cases h2'
   |some o=>rw[e3]at h2';rw[show o=some v from h2']
theorem Inv.block{pins:List (Addr×Obj)}{σ:St}{H:Hp}{s:Shared}{own:List Str}{fr:List (Str×Nat)}{sc:Scope}{cl:List (Str×Addr)}{fp:List Addr}{h1:Heap}{m:Str->Option Value}{tk:Nat}(I:Inv X pins σ H s)(hf:∀b∈fp,FpOk X pins H b)(hfl:∀b∈fp,b<s.heap.objs.size)(S:CompSc sc)(C:Caps X sc cl fr)(old:∀b o,s.heap.get? b=some o->h1.get? b=some o)(hn:h1.Ns (s.heap.objs.size+1) m)(hD:h1.get? s.heap.objs.size=some (accObj [])) :
  Inv (compCx X (own++fr.map (·.1)) sc cl s H fp) [(s.heap.objs.size,accObj [])] (compSt own fr σ) H { s with heap:=h1,toks:=tk }:=by
 have cellLt:∀x c,cl.lookup x=some c->c<s.heap.objs.size:=fun x c e=>by
  obtain⟨v,z⟩:=I.cell x c (C.sub x c e);exact z.lt
 have sizeC:s.heap.objs.size≤s.heap.objs.size+1:=Nat.le_succ _
 refine⟨⟨I.ok.mod,S.kind,I.ok.glob,I.ok.blt,sizeC,fun x y c e1 e2=>I.ok.inj x y c (C.sub x c e1) (C.sub y c e2),fun x hx=>C.has x hx,fun _ _ z=>(by cases z),I.ok.hd,I.ok.frames,.inl rfl,fun b hb=>⟨?_,fun x c e z=>?_⟩,
  I.bs,qf I.ok.bsz I.sz,fun b o e hb=>?_,fun b hb z=>?_,I.stack,I.stkFree⟩,rfl,I.bare,Un.kept old,⟨m,hn,fun i x v e1 e2 e3=>?_⟩,fun x c e=>?_,I.hok.fresh sizeC,fun x c e=>I.freeC x c (C.sub x c e),fun p hp=>?_,I.hok.kept old,?_⟩
 ·exact qi (w6 (hfl b hb))
 ·exact(hf b hb).2.2.2.2.1 x c (C.sub x c e) z
 ·rcases(hf b hb).2.2.2.1 with z|z
  ·exact I.ok.noex b o e z
  ·exact absurd (ze (Heap.lt_size e) (qf I.ok.bsz z)) (zu _)
 ·exact I.stkNot (hf b hb).2.1 (hf b hb).2.2.1 z
 ·obtain⟨p,hp,rfl,e4⟩:=xAis rfl e1 e2
  obtain⟨c1,c2,c3,c4⟩:=C.cap p hp;obtain⟨m0,hn0,hl⟩:=I.loc;obtain⟨u,r,l⟩:=hl p.2 p.1 v c1 e4 c3;refine⟨u,r,.inr ⟨c4,?_⟩⟩;rcases l with⟨k,_⟩|⟨_,c,hc,ho,hoe,hod⟩
  ·exact absurd k c2
  ·obtain⟨c',hc'⟩:=C.has p.1 c4
   have:=C.sub p.1 c' hc';rw[hc]at this;cases this;exact⟨c,hc',ho,old _ _ hoe,hod⟩
 ·obtain⟨v,o,ho,hd⟩:=I.cell x c (C.sub x c e)
  exact⟨v,o,old _ _ ho,hd⟩
 ·have hp':p=(s.heap.objs.size,accObj []):=by simpa[compCx] using hp
  subst hp';refine⟨hD,I.hok.fresh (qd _),?_,?_,fun v z=>by cases z⟩
  ·exact qi (vo _)
  ·exact I.stkNot (zq I.lt) (I.nofs (qd _))
 ·show(compSt own fr σ).length=(own++fr.map (·.1)).length
  unfold compSt;rw[ql,ql,qc,qc,qc]
theorem HOk.track{P:Program}{w:World}{H:Hp}{h:Heap}{a:Addr}{o:HO}(x:HOk P w H h)(hn:H a=none)(new:ObjOk P w (upd H a o) h a o):HOk P w (upd H a o) h:=fun b u e=>by
 by_cases hb:b=a
 ·subst hb;rw[xAaf]at e;cases e;exact new
 ·rw[xAal hb]at e
  exact(x b u e).stay (fun c v _ q=>q) (fun c q=>by rw[xAal (xAaj q hn)];exact q) fun c xs q=>by rw[xAal (xAaj q hn)];exact q
theorem Inv.unblock{pins:List (Addr×Obj)}{σ:St}{H H3:Hp}{s s4:Shared}{N:List Str}{σ3:St}{sc:Scope}{cl:List (Str×Addr)}{fp:List Addr}{h':Heap}{ys:List V}{us:List Value}(I:Inv X pins σ H s)(hf:∀b∈fp,FpOk X pins H b)(I4:Inv (compCx X N sc cl s H fp) [(s.heap.objs.size,accObj us)] σ3 H3 s4)(hv:Vals ys us)(hz:ys.length≤sizeLine)(hs:Heap.SameBut (s.heap.objs.size+1) s4.heap h'):Inv X pins σ (upd H3 s.heap.objs.size (.lst ys)) { s4 with heap:=h' }:=by
 obtain⟨eD,nD,neD,_,_⟩:=I4.pin (s.heap.objs.size,accObj us) (List.mem_append_right _ (by simp));have eD:s4.heap.get? s.heap.objs.size=some (accObj us):=eD;have nD:H3 s.heap.objs.size=none:=nD;have b4:Un (frs X.stack) fp H H3 s.heap s4.heap:=I4.base;have nC:H3 (s.heap.objs.size+1)=none:=I4.free;have neC:∀b o,s.heap.get? b=some o->b≠s.heap.objs.size+1:=fun b o e=>qi (w6 (Heap.lt_size e));have neD':∀b o,s.heap.get? b=some o->b≠s.heap.objs.size:=fun b o e=>qi (Heap.lt_size e);have k4:∀b o,b≠s.heap.objs.size+1->s4.heap.get? b=some o->h'.get? b=some o:=fun b o hb e=>hs.extBut b o hb e
 refine I.call' (s':={ s4 with heap:=h' }) (ch:=fp) I4.os ⟨fun b o e n h1 h2=>k4 b o (neC b o e) (b4.keep b o e n h1 h2),fun b o e n h1 h2=>?_,fun b o e n h2=>?_,fun b o e h2=>?_,
  fun b xs e=>?_,fun b o u e=>?_,fun b ps e=>?_,fun b o xs e n=>k4 b o (neC b o e) (b4.tupo b o xs e n)⟩ ?_ I4.bare fun b hb=>⟨(hf b hb).2.2.2.1,(hf b hb).2.1,(hf b hb).2.2.2.2.1,(hf b hb).2.2.2.2.2⟩
 ·obtain⟨sl,q⟩:=b4.slot b o e n h1 h2
  exact⟨sl,k4 b _ (neC b o e) q⟩
 ·rw[xAal (neD' b o e)];exact b4.free b o e n h2
 ·obtain⟨o',q⟩:=b4.there b o e h2
  exact⟨o',k4 b _ (neC b o e) q⟩
 ·have q:=b4.tups b xs e
  rw[xAal (xAaj q nD)];exact q
 ·have q:=b4.frzs b o u e
  rw[xAal (xAaj q nD)];exact q
 ·obtain⟨more,q⟩:=b4.tbls b ps e
  exact⟨more,by rw[xAal (xAaj q nD)];exact q⟩
 ·have hk:HOk X.prog X.w H3 h':=fun b u e=>(I4.hok b u e).stay (fun c v hc q=>k4 c v (fun z=>by
   subst z;rcases hc with hc|hc
   ·subst hc;rw[nC]at e;cases e
   ·rw[nC]at hc;cases hc) q) (fun _ q=>q) fun _ _ q=>q
  refine hk.track nD ⟨hz,us,us.length,hv,k4 _ _ (qi (vo _)) eD⟩
abbrev compCxE(X:Cx)(xe:Value->Shared->Prop)(N:List Str)(sc:Scope)(cl:List (Str×Addr))(s:Shared)(H:Hp)(fp:List Addr):Cx:=(compCx X N sc cl s H fp).wish xe
theorem xAdm{elt tg iter:Expr}{ifs:List Expr}{sc:Scope}{pos:Pos}{own:List Str}{fr:List (Str×Nat)}{cl:List (Str×Addr)}{g:TG}{tt:TT}{te:TE}{RR:Value->Addr->Result->Shared->Prop}{E xe:Value->Shared->Prop}{pins:List (Addr×Obj)}{σ:St}{H2:Hp}{s2:Shared}{Q:VK}{it:Addr}{fp:List Addr}{tn:Nat->Heap->Prop}{J:It}(hc:X.calm=true)(S:CompSc sc)(C:Caps X sc cl fr)(hg:∀s H fp,PG (compCxE X xe (own++fr.map (·.1)) sc cl s H fp) tg g)(hfr:∀σ,Fresh g (compSt own fr σ))(ht:∀s H fp,PTs (compCxE X xe (own++fr.map (·.1)) sc cl s H fp) ifs tt)(he:PE (compCxE X xe (own++fr.map (·.1)) sc cl s2 H2 fp) elt te)(I2:Inv X pins σ H2 s2)(T:Turn X.prog X.w X.K tg J fp it tn)(st2:tn 0 s2.heap)(f2:∀b∈fp,FpOk X pins H2 b)(hW:LCb own fr g tt te σ Q J H2)(hRR:∀s5 H4 ys us,Inv (compCxE X xe (own++fr.map (·.1)) sc cl s2 H2 fp) [(s2.heap.objs.size,accObj us)] (compSt own fr σ) H4 s5->Vals ys us->ys.length≤sizeLine->(∀p,H4 p=none->Q (.ref p) (upd H4 p (.lst ys))) →
   RR (.ref s2.heap.objs.size) (s2.heap.objs.size+1) (.ok .next) s5)(hxe:∀e s',xe e s'->notedBy (model X.prog X.w) X.A (compEnvC sc cl (s2.heap.objs.size+1) X.env) (fun e s'=>RR (.ref s2.heap.objs.size) (s2.heap.objs.size+1) (.error e) s') e s') :
  wpAny (model X.prog X.w) X.A (newList []) (fun acc s3=>wpAny (model X.prog X.w) X.A (newFunctionEnv sc X.env.globals cl [] X.env.qual none .none (some X.env)) (fun ce s4 =>
   codeAny (model X.prog X.w) X.A (.compStart (.ListComp elt [⟨tg,iter,ifs,0⟩] sc pos) 0 (.ref it) acc { ce with scope:=relabel sc X.env }) (RR acc ce.locals) s4) E s3) E s2:=by
 obtain⟨W,⟨m0,w0⟩,turn⟩:=hW
 have fpl:∀b∈fp,b<s2.heap.objs.size:=fun b hb=>by
  obtain⟨o,e,_⟩:=T.obj _ _ st2 b hb;exact Heap.lt_size e
 refine wpAny_newObj_type (wpAny_newFunctionEnv S.cell (by intro y hy;simp at hy) (fun h₁ hns₁ hsb₁=>?_) S.kind);dsimp only at hns₁ hsb₁ ⊢;generalize hH2:s2.heap.push { cls:=.type "list",dict:=none,data:=.seq ([]:List Value).toArray }=G at hns₁ hsb₁ ⊢
 have hC:G.objs.size=s2.heap.objs.size+1:=by rw[←hH2,Heap.size_push]
 rw[hC]at hns₁ hsb₁ ⊢
 have old:∀b o,s2.heap.get? b=some o->h₁.get? b=some o:=fun b o e=>by
  exact hsb₁.extBut b o (qi (w6 (Heap.lt_size e))) (Heap.get?_push_of_some _ (hH2▸Heap.get?_push_of_some _ e))
 have hacc:h₁.get? s2.heap.objs.size=some (accObj []):=hsb₁.extBut _ _ (qi (vo _)) (Heap.get?_push_of_some _ (hH2▸Heap.get?_push_size _ rfl));have I3:=Inv.wish (I2.block (own:=own) (tk:=s2.toks+([]:List (Str×Value)).length) f2 fpl S C old hns₁ hacc) xe
 have stat:∀{H':Hp} {us:List Value},(∀b∈fp,H' b=none)->∀b∈fp,FpOk (compCxE X xe (own++fr.map (·.1)) sc cl s2 H2 fp) [(s2.heap.objs.size,accObj us)] H' b:=fun{H' us} hn b hb=>by
  obtain⟨_,g1,g2,g3,g4,g5⟩:=f2 b hb;have hbl:=fpl b hb;refine⟨hn b hb,?_,I2.stkNot g1 g2,.inl hb,fun x c e=>g4 x c (C.sub x c e),fun p hp=>?_⟩
  ·exact qi (w6 hbl)
  ·have hp':p=(s2.heap.objs.size,accObj us):=by simpa[compCx,Cx.wish] using hp
   subst hp';exact zq hbl
 have loop:∀s3:Shared,s3={ s2 with heap:=h₁,toks:=s2.toks+([]:List (Str×Value)).length } →
   codeAny (model X.prog X.w) X.A (.compLoop (.ListComp elt [⟨tg,iter,ifs,0⟩] sc pos) 0 (.ref it) (.ref s2.heap.objs.size) (compEnvC sc cl (s2.heap.objs.size+1) X.env))
    (RR (.ref s2.heap.objs.size) (s2.heap.objs.size+1)) s3:=by
  rintro s3 rfl
  refine xAir hxe (fun n s'=>∃i ys us H',Vals ys us/\Inv (compCxE X xe (own++fr.map (·.1)) sc cl s2 H2 fp) [(s2.heap.objs.size,accObj us)] (compSt own fr σ) H' s'/\tn i s'.heap/\(∀b∈fp,H' b=none)/\ys.length≤sizeLine/\W i n ys H') ?_ m0
   ⟨0,[],[],H2,.nil,I3,T.keep _ _ _ st2 fun b _ o e=>old b o e,fun b hb=>(f2 b hb).1,w5 _,w0⟩
  rintro n s4 ⟨i,ys,us,H4,hv,I4,st4,fr4,hz,w4⟩;rcases turn i n ys H4 w4 with⟨stop,fin⟩|⟨go,hlt,step⟩
  ·refine thn (T.done (compCxE X xe (own++fr.map (·.1)) sc cl s2 H2 fp) rfl rfl rfl hc i _ s4 _ H4 _ I4 (stat fr4) st4 stop) fun r s5 ⟨hr,I5⟩=>?_
   subst hr;exact hRR s5 H4 ys us I5 hv hz fin
  ·refine thn (T.item (compCxE X xe (own++fr.map (·.1)) sc cl s2 H2 fp) rfl rfl rfl hc i _ s4 _ H4 _ I4 (stat fr4) st4 go) fun r s5 ⟨u,hr,h5⟩=>?_
   subst hr;refine thn h5 fun _ s6 ⟨x,H6,I6,r6,y6,st6,fr6⟩=>?_;have I6':=I6.pinned (stat fr6) (T.obj _ _ st6);refine thn (hg s2 H2 fp _ s6 _ H6 x u _ I6' r6 (hfr σ x H6 _ (step x H6 y6))) fun _ s7 ⟨σ7,H7,I7,k7,q7⟩=>?_;refine thn (ht s2 H2 fp _ s7 σ7 H7 _ I7 q7) fun ok s8 ⟨H8,I8,q8⟩=>?_
   have fps:∀{pins':List (Addr×Obj)} {σ':St} {H':Hp} {s':Shared},Inv (compCxE X xe (own++fr.map (·.1)) sc cl s2 H2 fp) ([(s2.heap.objs.size,accObj us)]++pinsAt fp s6.heap) σ' H' s'->∀b∈fp,(∀o,s6.heap.get? b=some o->s'.heap.get? b=some o)/\H' b=none:=fun{pins' σ' H' s'} I' b hb=>by
    obtain⟨o,e,_⟩:=T.obj _ _ st6 b hb;have z:=I'.pin (b,o) (zr _ (zr _ (xAdj hb e)));exact⟨fun o' e'=>by rw[e]at e';cases e';exact z.1,z.2.1⟩
   cases ok with
   |false =>
    rw[if_neg qx]at q8;obtain⟨m',hm,w8⟩:=q8;rw[if_neg qx];exact⟨m',hm,i+1,ys,us,H8,hv,(I8.unpinned).weak k7.1 k7.2,T.keep _ _ _ st6 fun b hb o e=>(fps (pins':=[]) I8 b hb).1 o e,fun b hb=>(fps (pins':=[]) I8 b hb).2,hz,w8⟩
   |true =>
    rw[if_pos rfl]at q8;rw[if_pos rfl];refine thn (he _ s8 σ7 H8 _ I8 q8) fun y s9 ⟨v,H9,I9,r9,m',hm,w9⟩=>?_;have pD:=I9.pin (s2.heap.objs.size,accObj us) (List.mem_append_right _ (List.mem_append_left _ (by simp)));have zD:s9.heap.get? s2.heap.objs.size=some (accObj us):=pD.1;have nD:H9 s2.heap.objs.size=none:=pD.2.1;refine append_at (hsz:=by show us.toArray.size≤sizeLine;rw[zi,←hv.length];exact hz) zD fun h5 hs5 hD5=>?_;have Ia:Inv (compCxE X xe (own++fr.map (·.1)) sc cl s2 H2 fp) (pinsAt fp s6.heap) σ7 H9 s9:=I9.pins_of fun p hp=>I9.pin p (zr _ (zr _ hp));have neD:s2.heap.objs.size≠s2.heap.objs.size+1:=qi (vo _)
    have Ib:Inv (compCxE X xe (own++fr.map (·.1)) sc cl s2 H2 fp) (pinsAt fp s6.heap) σ7 H9 { s9 with heap:=h5,toks:=s9.toks }:=Ia.turned (it:=s2.heap.objs.size) (fun b o hb e=>hs5.extBut b o hb e) nD neD (.inr (qd _)) (fun x c e z=>by
      obtain⟨v',q⟩:=I2.cell x c (C.sub x c e);have q':=q.lt;rw[z]at q'
      exact zu _ q') fun p hp z=>by
      have hp':p∈pinsAt fp s6.heap:=by simpa[compCx,Cx.wish] using hp
      have q':=fpl p.1 (xAgi hp').1;rw[z]at q';exact zu _ q'
    have Ic:Inv (compCxE X xe (own++fr.map (·.1)) sc cl s2 H2 fp) [(s2.heap.objs.size,accObj (us++[y]))] σ7 H9 { s9 with heap:=h5,toks:=s9.toks }:=Ib.pins_of fun p hp=>by
     have hp':p=(s2.heap.objs.size,accObj (us++[y])):=by simpa using hp
     subst hp';exact⟨hD5.trans (congrArg some (xAor us y)),nD,neD,pD.2.2.2.1,fun v z=>by cases z⟩
    refine⟨m',hm,i+1,ys++[v],us++[y],H9,hv.append (.cons r9 .nil),Ic.weak k7.1 k7.2,T.keep _ _ _ st6 fun b hb o e=>?_,fun b hb=>(fps (pins':=[]) I9 b hb).2,?_,w9⟩
    ·exact hs5.extBut b o (qi (fpl b hb)) ((fps (pins':=[]) I9 b hb).1 o e)
    ·rw[ql];exact hlt
 exact codeAny_compStart_list (loop _ rfl) (T.self _ 0 _ _ _ (T.keep _ _ _ st2 fun b _ o e=>old b o e) (loop _ rfl))
theorem xAgs{elt tg iter:Expr}{ifs:List Expr}{sc:Scope}{pos:Pos}{own:List Str}{fr:List (Str×Nat)}{cl:List (Str×Addr)}{g:TG}{tt:TT}{te:TE}{RR:Value->Addr->Result->Shared->Prop}{E:Value->Shared->Prop}{pins:List (Addr×Obj)}{σ:St}{H2:Hp}{s2:Shared}{Q:VK}{it:Addr}{fp:List Addr}{tn:Nat->Heap->Prop}{J:It}(hc:X.calm=true)(S:CompSc sc)(C:Caps X sc cl fr)(hg:∀s H fp,PG (compCx X (own++fr.map (·.1)) sc cl s H fp) tg g)(hfr:∀σ,Fresh g (compSt own fr σ))(ht:∀s H fp,PTs (compCx X (own++fr.map (·.1)) sc cl s H fp) ifs tt)(he:∀s H fp,PE (compCx X (own++fr.map (·.1)) sc cl s H fp) elt te)(I2:Inv X pins σ H2 s2)(T:Turn X.prog X.w X.K tg J fp it tn)(st2:tn 0 s2.heap)(f2:∀b∈fp,FpOk X pins H2 b)(hW:LCb own fr g tt te σ Q J H2)(hRR:∀s5 H4 ys us,Inv (compCx X (own++fr.map (·.1)) sc cl s2 H2 fp) [(s2.heap.objs.size,accObj us)] (compSt own fr σ) H4 s5->Vals ys us->ys.length≤sizeLine->(∀p,H4 p=none->Q (.ref p) (upd H4 p (.lst ys))) →
   RR (.ref s2.heap.objs.size) (s2.heap.objs.size+1) (.ok .next) s5) :
  wpAny (model X.prog X.w) X.A (newList []) (fun acc s3=>wpAny (model X.prog X.w) X.A (newFunctionEnv sc X.env.globals cl [] X.env.qual none .none (some X.env)) (fun ce s4 =>
   codeAny (model X.prog X.w) X.A (.compStart (.ListComp elt [⟨tg,iter,ifs,0⟩] sc pos) 0 (.ref it) acc { ce with scope:=relabel sc X.env }) (RR acc ce.locals) s4) E s3) E s2 :=
 xAdm (xe:=fun _ _=>False) hc S C hg hfr ht (he s2 H2 fp) I2 T st2 f2 hW hRR fun _ _ f=>f.elim
theorem xAfs{elt tg iter:Expr}{ifs:List Expr}{sc:Scope}{pos:Pos}{own:List Str}{fr:List (Str×Nat)}{cl:List (Str×Addr)}{wi:TI}{g:TG}{tt:TT}{te:TE}(hc:X.calm=true)(hi:PI X tg iter wi)(S:CompSc sc)(C:Caps X sc cl fr)(hg:∀s H fp,PG (compCx X (own++fr.map (·.1)) sc cl s H fp) tg g)(hfr:∀σ,Fresh g (compSt own fr σ))(ht:∀s H fp,PTs (compCx X (own++fr.map (·.1)) sc cl s H fp) ifs tt)(he:∀s H fp,PE (compCx X (own++fr.map (·.1)) sc cl s H fp) elt te)(hs:∀x,foldedSetIterable iter X.env x=pure x:=by intro _;rfl) :
  PE X (.ListComp elt [⟨tg,iter,ifs,0⟩] sc pos) (tLC own fr wi g tt te):=by
 refine⟨?_⟩;intro pins s σ H Q I h;rw[eval_ListComp];refine wpAny_comprehension_free (use:=none) rfl hs C.clos S.kind S.nms (thn (hi pins s σ H _ I h) fun xv s1 h1=>thn h1 fun itv s2 h2=>?_);obtain⟨it,fp,tn,J,H2,e,I2,T,st2,f2,hW⟩:=h2;subst e;refine xAgs (RR:=fun acc A=>compPost (model X.prog X.w) X.A X.xe none (EP X pins σ Q) acc A) hc S C hg hfr ht he I2 T st2 f2 hW fun s5 H4 ys us I5 hv hz fin=>?_;obtain⟨m5,hn5,_⟩:=id I5.loc;have nD:H4 s2.heap.objs.size=none:=(I5.pin (s2.heap.objs.size,accObj us) (List.mem_append_right _ (by simp))).2.1;exact⟨m5,hn5,fun h' hs'=>⟨.ref s2.heap.objs.size,upd H4 s2.heap.objs.size (.lst ys),I2.unblock f2 I5 hv hz hs',rfl,fin _ nD⟩⟩
theorem xAit{i:Nat}{y:Str}{py spos:Pos}{elt tg iter:Expr}{ifs:List Expr}{sc:Scope}{pos:Pos}{own:List Str}{fr:List (Str×Nat)}{cl:List (Str×Addr)}{wi:TI}{g:TG}{tt:TT}{te:TE}(hN:X.N.Nodup)(hy:X.N[i]?=some y)(hx:Loc X.env.scope y)(hc:X.calm=true)(hi:PI X tg iter wi)(S:CompSc sc)(C:Caps X sc cl fr)(hg:∀s H fp,PG (compCx X (own++fr.map (·.1)) sc cl s H fp) tg g)(hfr:∀σ,Fresh g (compSt own fr σ))(ht:∀s H fp,PTs (compCx X (own++fr.map (·.1)) sc cl s H fp) ifs tt)(he:∀s H fp,PE (compCx X (own++fr.map (·.1)) sc cl s H fp) elt te)(hs:∀x,foldedSetIterable iter X.env x=pure x:=by intro _;rfl)(hsw:swapsWith (.ListComp elt [⟨tg,iter,ifs,0⟩] sc pos) (some (.Name y py)) spos.line X.env=pure true:=by rfl)(hf:X.fn y=true\/X.env.scope.names.lookup y=some .local:=by first|exact .inl rfl|exact .inr rfl|assumption) :
  PS X (.Assign [.Name y py] (.ListComp elt [⟨tg,iter,ifs,0⟩] sc pos) spos) (tAsg (tLC own fr wi g tt te) (gName i)):=by
 refine⟨?_⟩;intro pins s σ H D I h;rw[exec_Assign_Name_used _ _ _ _ hsw];refine wpAny_bind (wpAny_standAt (wpAny_bind ?_));show wpAny _ X.A (do let _ ←comprehension (.ListComp elt [⟨tg,iter,ifs,0⟩] sc pos) sc X.env _ (newList []) false (eval iter X.env) (some (assign (.Name y py) X.env))) _ _ s
 refine wpAny_bind (thn (wpAny_comprehension_free (use:=some (assign (.Name y py) X.env)) (Q:=fun _ s'=>SP X pins D .next s') rfl hs C.clos S.kind S.nms
  (thn (hi pins s σ H _ I h) fun xv s1 h1=>thn h1 fun itv s2 h2=>?_)) fun _ s' hq=>wpAny_pure (wpAny_pure hq))
 obtain⟨it,fp,tn,J,H2,e,I2,T,st2,f2,hW⟩:=h2;subst e;refine xAgs (RR:=fun acc A=>compPost (model X.prog X.w) X.A X.xe (some (assign (.Name y py) X.env)) (fun _ s'=>SP X pins D .next s') acc A) hc S C hg hfr ht he I2 T st2 f2 hW fun s5 H4 ys us I5 hv hz fin=>?_;obtain⟨m5,hn5,_⟩:=id I5.loc;have nD:H4 s2.heap.objs.size=none:=(I5.pin (s2.heap.objs.size,accObj us) (List.mem_append_right _ (by simp))).2.1;have nC:H4 (s2.heap.objs.size+1)=none:=I5.free;have I6:Inv X pins σ (upd H4 s2.heap.objs.size (.lst ys)) s5:=I2.unblock f2 I5 hv hz (Heap.SameBut.refl _ _);show wpAny _ X.A (assign (.Name y py) X.env (.ref s2.heap.objs.size)) _ _ s5;refine wpAny_assign_Name (xAeg (v:=.ref s2.heap.objs.size) I6 hN hy hx rfl (fun s7 I7 ⟨a,hsb,ha⟩=>?_) hf);have Clt:s2.heap.objs.size<s2.heap.objs.size+1:=vo _;have neL:s2.heap.objs.size+1≠X.env.locals:=zq (wy I2.lt Clt)
 have neCell:∀x c,X.env.cells.lookup x=some c->c≠s2.heap.objs.size+1:=fun x c e=>by
  obtain⟨v',q⟩:=I2.cell x c e;exact qi (wy q.lt Clt)
 have neA:s2.heap.objs.size+1≠a:=by
  rcases ha with rfl|ha
  ·exact neL
  ·exact Ne.symm (neCell _ _ ha)
 refine⟨m5,hn5.sameBut hsb neA,fun h' hs'=>⟨_,_,?_,fin _ nD⟩⟩
 exact I7.turned (it:=s2.heap.objs.size+1) (t':=s7.toks) (fun b o hb e=>hs'.extBut b o hb e) (by rw[xAal (zq Clt)];exact nC) neL (.inr (qf I2.sz (qg Clt))) neCell fun p hp z=>by
  have q:=Heap.lt_size (I2.pin p hp).1;rw[z]at q;exact absurd (wy Clt q) (zu _)
end
def Its(z:Str):It:=⟨fun i _=>i<z.cps.size,fun i H x H'=>H'=H/\∃c,z.cps[i]?=some c/\x=.str ⟨#[c]⟩,fun i _=>z.cps.size≤i⟩
theorem xAeb{h:Heap}{it:Addr}{ty:String}{z:Str}{t:Tok}{i:Nat}(st:h.IsStrIter it ty z t i):∀b∈[it],∃o,h.get? b=some o/\∀v,o.data≠.cell v:=fun b hb=>by
 have e:b=it:=by simpa using hb
 subst e;obtain⟨o,e,c,d⟩:=st;exact⟨o,e,fun v z=>by rw[d]at z;cases z⟩
theorem xAlj{P:Program}{w:World}{K:PySem.W.Frag}{tg:Expr}(z:Str)(t:Tok)(it:Addr):Turn P w K tg (Its z) [it] it (fun i h=>h.IsStrIter it "str_ascii_iterator" z t i) where
 mem:=by simp
 obj:=fun i h st=>xAeb st
 keep:=fun i h h' st k=>let⟨o,ho,r⟩:=st;⟨o,k it (by simp) o ho,r⟩
 item:=by
  intro X hP hw hK hc i pins s σ H E I hf st hg;subst hP hw hK;obtain⟨f0,f1,f2,f3,f4,f5⟩:=hf it (by simp);have hg:i<z.cps.size:=hg;refine wpAny_pyNext_ascii_item st (c:=z.cps[i]) (by simp[hg]) fun h' st' sb=>?_;have I1:Inv X pins σ H { s with heap:=h',toks:=s.toks+1 }:=I.turned (fun b o hb e=>(sb.2 b hb).trans e) f0 f1 f3 f4 f5;obtain⟨o,e,c,d⟩:=id st';exact⟨_,rfl,go_of (s:={ s with heap:=h',toks:=s.toks+1 }) e c d (by decide) ⟨.str ⟨#[z.cps[i]]⟩,H,I1,⟨_,rfl⟩,⟨rfl,_,by simp[hg],rfl⟩,st',fun b hb=>(hf b hb).1⟩⟩
 done:=by
  intro X hP hw hK hc i pins s σ H E I hf st hg;subst hP hw hK;obtain⟨f0,f1,f2,f3,f4,f5⟩:=hf it (by simp);have hg:z.cps.size≤i:=hg;exact wpAny_pyNext_ascii_end (I.ok.hd hc) st (by simp[hg]) fun h' eb=>⟨rfl,I.turned (t':=s.toks) (fun b o hb e=>eb b o hb e) f0 f1 f3 f4 f5⟩
 self:=fun _ _ _ _ _ st h=>wpAny_pyIter_striter_ascii st h
theorem xAlk{P:Program}{w:World}{K:PySem.W.Frag}{tg:Expr}(z:Str)(t:Tok)(it:Addr):Turn P w K tg (Its z) [it] it (fun i h=>h.IsStrIter it "str_iterator" z t i) where
 mem:=by simp
 obj:=fun i h st=>xAeb st
 keep:=fun i h h' st k=>let⟨o,ho,r⟩:=st;⟨o,k it (by simp) o ho,r⟩
 item:=by
  intro X hP hw hK hc i pins s σ H E I hf st hg;subst hP hw hK;obtain⟨f0,f1,f2,f3,f4,f5⟩:=hf it (by simp);have hg:i<z.cps.size:=hg;refine wpAny_pyNext_wide_item st (c:=z.cps[i]) (by simp[hg]) fun h' st' sb=>?_;have I1:Inv X pins σ H { s with heap:=h',toks:=s.toks+1 }:=I.turned (fun b o hb e=>(sb.2 b hb).trans e) f0 f1 f3 f4 f5;obtain⟨o,e,c,d⟩:=id st';exact⟨_,rfl,go_of (s:={ s with heap:=h',toks:=s.toks+1 }) e c d (by decide) ⟨.str ⟨#[z.cps[i]]⟩,H,I1,⟨_,rfl⟩,⟨rfl,_,by simp[hg],rfl⟩,st',fun b hb=>(hf b hb).1⟩⟩
 done:=by
  intro X hP hw hK hc i pins s σ H E I hf st hg;subst hP hw hK;obtain⟨f0,f1,f2,f3,f4,f5⟩:=hf it (by simp);have hg:z.cps.size≤i:=hg;exact wpAny_pyNext_wide_end (I.ok.hd hc) st (by simp[hg]) fun h' eb=>⟨rfl,I.turned (t':=s.toks) (fun b o hb e=>eb b o hb e) f0 f1 f3 f4 f5⟩
 self:=fun _ _ _ _ _ st h=>wpAny_pyIter_striter_wide st h
section
variable {X:Cx}{tg:Expr}
inductive IiStr(R:It->Hp->Prop)(x:V)(H1:Hp):Prop
 |mk (z:_) (h0_:x=.str z) (h1_:R (Its z) H1):IiStr R x H1
def iStr(tl:TE):TI:=fun σ H R=>tl σ H fun x H1=>IiStr R x H1
theorem xAos{l:Expr}{tl:TE}(hl:PE X l tl):PI X tg l (iStr tl):=by
 refine⟨?_⟩;intro pins s σ H R I h;refine thn (hl pins s σ H _ I h) fun v s1 ⟨x,H1,I1,r1,q1⟩=>?_;obtain⟨z,e,q⟩:=q1;subst e;obtain⟨t,rfl⟩:=r1
 have fin:∀b∈[s1.heap.objs.size],FpOk X pins H1 b:=fun b hb=>by
  have e:b=s1.heap.objs.size:=by simpa using hb
  subst e;exact I1.fpOk (qd _) (I1.hok.fresh (qd _))
 cases ha:z.cps.all (·<128)
 ·exact wpAny_pyIter_wide ha ⟨s1.heap.objs.size,[s1.heap.objs.size],_,_,H1,rfl,I1.kept (t':=s1.toks) fun b o e=>Heap.get?_push_of_some _ e,xAlk z t _,⟨_,Heap.get?_push_size _ rfl,rfl,rfl⟩,fin,q⟩
 ·exact wpAny_pyIter_ascii ha ⟨s1.heap.objs.size,[s1.heap.objs.size],_,_,H1,rfl,I1.kept (t':=s1.toks) fun b o e=>Heap.get?_push_of_some _ e,xAlj z t _,⟨_,Heap.get?_push_size _ rfl,rfl,rfl⟩,fin,q⟩
end
theorem xAnk{α:Type}(f:α->V)(l:List α):(l.filterMap fun c=>some (f c))=l.map f:=by
 induction l with
 |nil=>rfl
 |cons c l ih=>rw[vq,ih];rfl
theorem xAql{own:List Str}{fr:List (Str×Nat)}{z:Str}{g:TG}{tt:TT}{te:TE}{σ:St}{H:Hp}{Q:VK}(hz:z.cps.size≤sizeLine)(F:Nat->Option V)(Pv:Hp->Prop)(h0:Pv H)(hs:∀c H' (K1:V->Hp->Prop) (K0:Hp->Prop),c∈z.cps.toList->Pv H'->(∀y H4,F c=some y->Pv H4->K1 y H4)->(F c=none->∀H3,Pv H3->K0 H3) →
   g (.str ⟨#[c]⟩) (compSt own fr σ) H' fun σ2 H2=>tt σ2 H2 fun b H3=>if b=true then te σ2 H3 K1 else K0 H3)(hd:∀H' p,Pv H'->H' p=none->Q (.ref p) (upd H' p (.lst (z.cps.toList.filterMap F)))) :
  LCb own fr g tt te σ Q (Its z) H:=by
 refine⟨fun i m ys H=>m=z.cps.size - i/\i≤z.cps.size/\ys=(z.cps.toList.take i).filterMap F/\Pv H,⟨z.cps.size,by simp,Nat.zero_le _,by simp,h0⟩,?_⟩;rintro i m ys H ⟨rfl,hi,rfl,p⟩
 by_cases hlt:i<z.cps.size
 ·have hlen:((z.cps.toList.take i).filterMap F).length≤i:=qf (List.length_filterMap_le _ _) (by rw[zw];exact Nat.min_le_left _ _)
  refine .inr ⟨hlt,by omega,fun x H' y=>?_⟩;obtain⟨rfl,c,hc,rfl⟩:=y
  have hc':z.cps.toList[i]?=some c:=by rw[wc];exact hc
  have step:(z.cps.toList.take (i+1)).filterMap F=(z.cps.toList.take i).filterMap F++(F c).toList:=by
   rw[vh,hc',List.filterMap_append]
   congr 1
  refine hs c H' _ _ (qz hc') p (fun y H4 e p4=>⟨z.cps.size - (i+1),by omega,rfl,hlt,?_,p4⟩) fun e H3 p3=>⟨z.cps.size - (i+1),by omega,rfl,hlt,?_,p3⟩
  ·rw[step,e];rfl
  ·rw[step,e];simp
 ·have e:i=z.cps.size:=by omega
  subst e;refine .inl ⟨qd _,fun q hq=>?_⟩;have:=hd H q p hq;rw[List.take_of_length_le (by simp)];exact this
section
variable {X:Cx}
theorem xAll(bs:List Bool):((List.range bs.length).all fun i=>bs.getD i false)=bs.all id:=by
 rw[vt,zg,zg];constructor
 ·intro h b hb
  obtain⟨i,hi,e⟩:=wm.mp hb;have q:=h i (wq.mpr hi);rw[we,qj hi]at q;rw[←e];exact q
 ·intro h i hi
  have hi:=wq.mp hi;rw[we,qj hi];exact h _ (yg hi)
inductive IRcall_all(xs:List V)(H:Hp)(Q:VK):Prop
 |mk (a:_) (bs:_) (h0_:xs=[.ref a]) (h1_:SqL H a (List.map V.bl bs)) (h2_:Q (.bl (bs.all id)) H):IRcall_all xs H Q
def Rcall_all:List V->Hp->VK->Prop:=fun xs H Q=>IRcall_all xs H Q
theorem xAcx(hc:X.calm=true):CallR X (.builtin "all") (Rcall_all):=by
 intro pins s σ H xs us Q I r h;obtain⟨a,bs,rfl,hq,q⟩:=h;obtain⟨u,rfl,ru⟩:=vals1 r;cases ru;obtain⟨its,rv,p,hz⟩:=I.list hq
 have hlen:its.length=bs.length:=by rw[←rv.length,qc]
 have hlt:a<s.heap.objs.size:=by obtain⟨_,e,_⟩:=p.isList;exact Heap.lt_size e
 refine call_all_walk (wpAny_pyIter_list p.isList ?_);refine⟨s.heap.objs.size,_,_,_,_,_,fun i=>bs.getD i false,rfl,Walks.list (show X.A.in1.handled=none from I.ok.hd hc) s.heap.objs.size a (qi hlt) its.toArray,⟨⟨_,Heap.get?_push_size _ rfl,rfl,rfl⟩,p.isList.push _⟩,?_,fun h' tk hk=>?_⟩
 ·intro i v s' Q' E' hP hQ
  have hP:its.toArray[i]?=some v:=hP
  have hi:its[i]?=some v:=by simpa using hP
  have hb:i<bs.length:=by
   have:=(zf.mp hi).1;omega
  obtain⟨u,hu,ru⟩:=rv.get (i:=i) (x:=V.bl bs[i]) (by rw[zh,qj hb];rfl);rw[hi]at hu;cases hu;cases ru;refine wpAny_truthy_bool ?_
  have e:bs.getD i false=bs[i]:=by rw[we,qj hb];rfl
  rw[←e];exact hQ
 ·have e:((List.range its.toArray.size).all fun i=>bs.getD i false)=bs.all id:=by rw[zi,hlen];exact xAll bs
  rw[e]
  exact⟨.bl (bs.all id),H,I.kept fun b o e=>hk b o (by
   have:=Heap.lt_size e;intro z;rw[zd.mp z]at this
   exact absurd this (zu _)) (Heap.get?_push_of_some _ e),rfl,q⟩
inductive IRcall_isinst(K:PySem.W.Frag)(xs:List V)(H:Hp)(Q:VK):Prop
 |mk (x:_) (T:_) (t:_) (b:_) (h0_:xs=[x,.ty T]) (h1_:TyOf K H x t) (h2_:PySem.W.kitOne K t (.type T)=some b) (h3_:Q (.bl b) H):IRcall_isinst K xs H Q
def Rcall_isinst(K:PySem.W.Frag):List V->Hp->VK->Prop:=fun xs H Q=>IRcall_isinst K xs H Q
theorem xAhw:CallR X (.builtin "isinstance") (Rcall_isinst X.K):=by
 intro pins s σ H xs us Q I r h;obtain⟨x,T,t,b,rfl,ty,e,q⟩:=h;obtain⟨u,v,rfl,ru,rv⟩:=vals2 r;cases(show v=Value.type T from rv);exact xAla I ru ty e fun tk=>⟨.bl b,H,I.tok tk,rfl,q⟩
inductive IRop_le_str(x:V)(y:V)(H:Hp)(Q:VK):Prop
 |mk (i:_) (j:_) (h0_:x=.str i) (h1_:y=.str j) (h2_:Q (.bl (!decide (j.cps.toList<i.cps.toList))) H):IRop_le_str x y H Q
def Rop_le_str:R2:=fun x y H Q=>IRop_le_str x y H Q
theorem xAde:OpR X (compareOp .LtE) Rop_le_str:=by
 intro pins s σ H x y v u Q I rx ry h;obtain⟨i,j,rfl,rfl,q⟩:=h;obtain⟨t,rfl⟩:=rx;obtain⟨t',rfl⟩:=ry;exact PySem.P.le_str (xAay I q rfl)
theorem xAot:OpR X (binaryOp .FloorDiv) (rI (fun _ j=>0<j/\j.natAbs.log2<9000) fun i j=>.int (i / j)):=opI fun i j _ _ _ _ _ hc q=>by
 have h1:(0:Int)<j:=hc.1;exact floordiv_int (by omega) (by rw[Int.fdiv_eq_ediv_of_nonneg i (by omega)];exact q) (.inl (PyProof.noPylong_of_log2 hc.2))
end
section
variable {X:Cx}{pins:List (Addr×Obj)}{σ σ':St}{H H':Hp}{s s':Shared}
theorem Inv.track{a:Addr}{o:HO}(I0:Inv X pins σ H s)(I:Inv X pins σ' H' s')(ha:s.heap.objs.size≤a)(hn:H' a=none)(new:ObjOk X.prog X.w (upd H' a o) s'.heap a o):Inv X pins σ' (upd H' a o) s':=by
 have ne:∀b,b<s.heap.objs.size->b≠a:=fun b hb z=>by omega
 refine⟨I.ok,I.os,I.bare,⟨I.base.keep,I.base.slot,fun b u e n hx=>?_,I.base.there,fun b xs e=>?_,fun b u xs e=>?_,fun b ps e=>?_,I.base.tupo⟩,I.loc,I.cell,?_,fun x c e=>?_,fun p hp=>?_,I.hok.track hn new,I.len⟩
 ·rw[xAal (ne b (ze (Heap.lt_size e) I0.sz))]
  exact I.base.free b u e n hx
 ·have q:=I.base.tups b xs e
  rw[xAal (xAaj q hn)];exact q
 ·have q:=I.base.frzs b u xs e
  rw[xAal (xAaj q hn)];exact q
 ·obtain⟨more,q⟩:=I.base.tbls b ps e
  exact⟨more,by rw[xAal (xAaj q hn)];exact q⟩
 ·rw[xAal (ne _ I0.lt)];exact I.free
 ·obtain⟨v,q⟩:=I0.cell x c e
  rw[xAal (ne _ q.lt)];exact I.freeC x c e
 ·obtain⟨h1,h2,h3⟩:=I.pin p hp
  refine⟨h1,?_,h3⟩;rw[xAal (ne _ (Heap.lt_size (I0.pin p hp).1))];exact h2
theorem Inv.turnedN{t':Nat}{h':Heap}{ch:List Addr}(I:Inv X pins σ H s)(hf:∀b∈ch,FpOk X pins H b)(k:∀b o,b∉ch->s.heap.get? b=some o->h'.get? b=some o):Inv X pins σ H { s with heap:=h',toks:=t' }:=by
 have nch:∀b u,H b=some u->b∉ch:=fun b u e z=>by rw[(hf b z).1]at e;cases e
 refine I.step (g':=s.gens) (d':=s.drawn) (ch:=ch) (fun b hb=>⟨(hf b hb).2.2.2.1,(hf b hb).2.1,(hf b hb).2.2.2.2.1,(hf b hb).2.2.2.2.2⟩) (fun b o _ _ hc e _=>k b o hc e) (fun b o _ _ hc e _=>⟨o.slots,k b o hc e⟩) (fun _ _ _ _ n=>n)
  (fun b o hc e=>⟨o,k b o hc e⟩) (fun _ _ e=>e) (fun _ _ _ e=>e) (fun b ps e=>⟨#[],by rw[e];simp⟩) (fun b o xs e n=>k b o (nch b _ n) e) (fun m hm=>?_) (fun b u e=>?_) I.bare
 ·obtain⟨o,es,ep,ho,r⟩:=hm
  exact⟨o,es,ep,k _ o (fun z=>(hf _ z).2.1 rfl) ho,r⟩
 ·refine(I.hok b u e).stay (fun c v hc q=>k c v ?_ q) (fun _ q=>q) fun _ _ q=>q
  rcases hc with z|z
  ·rw[z];exact nch b u e
  ·exact nch c _ z
end
def Ite(a:Addr):It :=
 ⟨fun i H=>∃xs x,SqL H a xs/\xs[i]?=some x,fun i H x H'=>∃p v,H p=none/\(∀xs,SqL H a xs->xs[i]?=some v)/\x=.ref p/\H'=upd H p (.tup [.int i,v]),fun i H=>∃xs,SqL H a xs/\xs.length=i⟩
theorem xAlm{P:Program}{w:World}{K:PySem.W.Frag}{es:List Expr}{k:Nat}{tp:Pos}(a it e:Addr)(hae:a≠e)(hai:a≠it)(hei:e≠it) :
  Turn P w K (.Tuple es k tp) (Ite a) [e,it] e (fun i h=>(∃old,IsEnum h e it i old)/\h.IsListIter it a i) where
 mem:=by simp
 obj:=fun i h st b hb=>by
  rcases qw.mp hb with rfl|hb
  ·obtain⟨⟨old,q⟩,_⟩:=st
   exact⟨_,q,fun v z=>by cases z⟩
  ·have q:b=it:=by simpa using hb
   subst q;obtain⟨_,o,q,c,d⟩:=st;exact⟨o,q,fun v z=>by rw[d]at z;cases z⟩
 keep:=fun i h h' st kk=>⟨let⟨old,q⟩:=st.1;⟨old,kk e (by simp) _ q⟩,st.2.at fun o q=>kk it (by simp) o q⟩
 item:=by
  intro X hP hw hK hc i pins s σ H E I hf st hg;subst hP hw hK;obtain⟨xs,x,hq,hx⟩:=hg;obtain⟨its,rv,p,hz⟩:=I.list hq;obtain⟨u,hu,ru⟩:=rv.get hx;obtain⟨⟨old,he⟩,hit⟩:=st
  have hil:i<its.toArray.size:=by
   have:=(zf.mp hu).1;simpa using this
  refine wpAny_pyNext_enum_itemD (Draws.list (show X.A.in1.handled=none from I.ok.hd hc) it a hai its.toArray) he ⟨hit,p.isList⟩ hil hei (by simp[hei,Ne.symm hae]) fun x' h' tk hP' ho st' hT hsz hk=>?_
  have ex:x'=u:=by
   have q:its.toArray[i]?=some x':=hP'
   have q':its[i]?=some x':=by simpa using q
   rw[hu]at q';exact(Option.some.inj q').symm
  subst ex;refine⟨_,rfl,wpAny_letOwnedTupleGo_enum ho fun h'' he'' hs''=>?_⟩
  have I1:Inv X pins σ H { s with heap:=h'',toks:=tk+1 }:=I.turnedN hf fun b o hb q=>hs''.extBut b o (fun z=>hb (by simp[z])) (hk b o (fun z=>hb (by simp[z])) (fun z=>hb (by simp[z])) q)
  have hTe:s.heap.objs.size≠e:=zq (Heap.lt_size he);have eT:h''.get? s.heap.objs.size=some { cls:=.type "tuple",data:=.seq #[.int i tk,x'] }:=hs''.extBut _ _ hTe hT;have nT:H s.heap.objs.size=none:=I.hok.fresh (qd _);refine⟨.ref s.heap.objs.size,upd H s.heap.objs.size (.tup [.int i,x]),I.track I1 (Nat.le_refl _) nT ⟨?_,[.int i tk,x'],.cons ⟨tk,rfl⟩ (.cons ru .nil),⟨_,eT,rfl,_,rfl⟩⟩,rfl,⟨_,x,nT,fun ys hy=>by rw[I.list_inj hy hq];exact hx,rfl,rfl⟩,⟨⟨_,by simpa using he''⟩,?_⟩,fun b hb=>?_⟩
  ·show 2≤sizeLine
   decide
  ·obtain⟨o,q,r⟩:=st'.1
   exact⟨o,hs''.extBut _ _ (Ne.symm hei) q,r⟩
  ·obtain⟨o,q⟩:∃o,s.heap.get? b=some o:=by
    rcases qw.mp hb with rfl|hb
    ·exact⟨_,he⟩
    ·have q:b=it:=by simpa using hb
     subst q;obtain⟨o,q,_⟩:=hit;exact⟨o,q⟩
   rw[xAal (qi (Heap.lt_size q))];exact(hf b hb).1
 done:=by
  intro X hP hw hK hc i pins s σ H E I hf st hg;subst hP hw hK;obtain⟨xs,hq,hx⟩:=hg;obtain⟨its,rv,p,hz⟩:=I.list hq;obtain⟨⟨old,he⟩,hit⟩:=st;have hl:=rv.length
  have hi:i=its.toArray.size:=by rw[zi];omega
  have hD:=Draws.list (prog:=X.prog) (w:=X.w) (show X.A.in1.handled=none from I.ok.hd hc) it a hai its.toArray;rw[hi]at hit
  exact wpAny_pyNext_enum_endD hD he ⟨hit,p.isList⟩ fun h' eb=>⟨rfl,I.turnedN hf fun b o hb q=>eb b o (fun z=>hb (by simp[z])) q⟩
 self:=fun _ _ _ _ _ st h=>let⟨old,q⟩:=st.1;wpAny_pyIter_enum q h
section
variable {X:Cx}
inductive IiEnum(R:It->Hp->Prop)(vs:List V)(H1:Hp):Prop
 |mk (a:_) (h0_:vs=[.ref a]) (h1_:(∃xs,SqL H1 a xs)) (h2_:R (Ite a) H1):IiEnum R vs H1
def iEnum(ta:TA):TI:=fun σ H R=>ta σ H fun vs H1=>IiEnum R vs H1
theorem xAnl{es:List Expr}{k:Nat}{tp:Pos}{a:Expr}{ta:TA}{p pos:Pos}(hg:Gl X "enumerate")(hm:X.mg "enumerate"=none)(ha:PA X [a] ta)(hs:starEach [a] X.env=[(false,eval a X.env)]:=by rfl) :
  PI X (.Tuple es k tp) (.Call (.Name "enumerate" p) [a] [] pos) (iEnum ta):=by
 refine⟨?_⟩;intro pins s σ H R I h;refine Call_ (xAho I hg hm boot_enumerate (PyProof.Rows.callWith_type1 (thn (ha pos pins s σ H _ I h) fun us s1 ⟨vs,H1,I1,r1,q1⟩=>?_) hs rfl));obtain⟨l,e,⟨xs,hq⟩,q⟩:=q1;subst e;obtain⟨u,rfl,ru⟩:=vals1 r1;cases ru;obtain⟨its,rv,pl,hz⟩:=I1.list hq
 have hlt:l<s1.heap.objs.size:=by obtain⟨_,e,_⟩:=pl.isList;exact Heap.lt_size e
 refine call_enumerate_list pl.isList fun h' he hit hsz hk=>?_;refine wpAny_pyIter_enum he ?_;have I2:Inv X pins σ H1 { s1 with heap:=h' }:=I1.kept (t':=s1.toks) hk;refine⟨s1.heap.objs.size+1,[s1.heap.objs.size+1,s1.heap.objs.size],_,_,H1,rfl,I2,xAlm l s1.heap.objs.size (s1.heap.objs.size+1) (qi (w6 hlt)) (qi hlt) (zq (vo _)),⟨⟨_,he⟩,hit⟩,fun b hb=>?_,q⟩
 have hb':s1.heap.objs.size≤b:=by
  rcases qw.mp hb with rfl|hb
  ·exact Nat.le_succ _
  ·have e:b=s1.heap.objs.size:=by simpa using hb
   exact Nat.le_of_eq e.symm
 exact I1.fpOk hb' (I1.hok.fresh hb')
end
theorem xAiu{a:Addr}{xs:List V}{g:TG}{tb:TS}{D:Ends}{σ:St}{H:Hp}(Pv:Nat->St->Hp->Prop)(h0:Pv 0 σ H)(hl:∀i σ H,i≤xs.length->Pv i σ H->SqL H a xs)(hs:∀i x σ H p,xs[i]?=some x->Pv i σ H->H p=none->g (.ref p) σ (upd H p (.tup [.int i,x])) fun σ2 H2=>tb { D with nx:=Pv (i+1),ct:=Pv (i+1),bk:=D.nx } σ2 H2)(hd:∀σ H,Pv xs.length σ H->D.nx σ H) :
  ∃W:Nat->Nat->St->Hp->Prop,(∃m,W 0 m σ H)/\∀i m σ H,W i m σ H →
   ((Ite a).stop i H/\D.nx σ H)\/((Ite a).go i H/\∃N:St->Hp->Prop,(∀σ' H',N σ' H'->∃m',m'<m/\W (i+1) m' σ' H')/\∀x H',(Ite a).yld i H x H'->g x σ H' fun σ2 H2=>tb { D with nx:=N,ct:=N,bk:=D.nx } σ2 H2):=by
 refine⟨fun i m σ H=>m=xs.length - i/\i≤xs.length/\Pv i σ H,⟨xs.length,by simp,Nat.zero_le _,h0⟩,?_⟩;rintro i m σ H ⟨rfl,hi,p⟩;have q:=hl i σ H hi p
 by_cases hlt:i<xs.length
 ·refine .inr ⟨⟨xs,xs[i],q,by simp[hlt]⟩,Pv (i+1),fun σ' H' p'=>⟨xs.length - (i+1),by omega,rfl,hlt,p'⟩,fun x H' y=>?_⟩
  obtain⟨b,v,hb,hv,rfl,rfl⟩:=y;exact hs i v σ H b (hv xs q) p hb
 ·have e:i=xs.length:=by omega
  subst e;exact .inl ⟨⟨xs,q,rfl⟩,hd σ H p⟩
theorem xAft{sc:Scope}{env:Env}{x:Str}{k:NameKind}(h:(relabel sc env).names.lookup x=some k):∃y∈sc.names,y.2=k\/y.2=.free:=by
 have hm:=PySem.mem_of_lookup h;obtain⟨y,hy,e⟩:=qu.mp hm;refine⟨y,hy,?_⟩;obtain⟨n,k0⟩:=y;dsimp only at e
 split at e
 ·rename_i hc
  rw[qr,qr]at hc;exact .inr (beq_iff_eq.mp hc.1.1)
 ·cases e
  exact .inl rfl
theorem caps0{X:Cx}{sc:Scope}(h:∀y∈sc.names,y.2≠.free/\y.2≠.cell):Caps X sc [] [] where
 clos:=closureFor_none fun y hy=>(h y hy).1
 sub:=fun x c e=>by cases e
 has:=fun x e=>by
  exfalso;rcases e with e|e <;> obtain⟨y,hy,z⟩:=xAft e <;> rcases z with z|z
  ·exact(h y hy).2 z
  ·exact(h y hy).1 z
  ·exact(h y hy).1 z
  ·exact(h y hy).1 z
 cap:=fun p hp=>nomatch hp
theorem Same.up{H H':Hp}{p:Addr}{o:HO}(e:Same H H')(h:H' p=none):Same H (upd H' p o):=fun b u q=>by
 rw[xAal (xAaj (e b u q) h)];exact e b u q
theorem Same.new{H:Hp}{p:Addr}{o:HO}(h:H p=none):Same H (upd H p o):=(Same.refl H).up h
theorem Same.wr{H H':Hp}{p:Addr}{o:HO}(e:Same H H')(h:H p=none):Same H (upd H' p o):=fun b u q=>by
 rw[xAal (xAaj q h)];exact e b u q
section
variable {X:Cx}
inductive IrIxA(x:V)(y:V)(H:Hp)(Q:VK):Prop
 |mk (p:_) (xs:_) (i:_) (h0_:x=.ref p) (h1_:y=.int i) (h2_:SqL H p xs) (h3_:0≤i) (h4_:i<(xs.length:Int)) (h5_:∀v∈xs,Q v H):IrIxA x y H Q
def rIxA:R2:=fun x y H Q=>IrIxA x y H Q
theorem ix_any:IxR X (rIxA):=by
 intro value slice pins s σ H x y v u Q I rx ry h hs;obtain⟨p,xs,i,ex,ey,hq,h0,h1,q⟩:=h;obtain⟨j,rfl⟩:=Int.eq_ofNat_of_zero_le h0
 have hj:j<xs.length:=by omega
 exact xAim value slice pins s σ H x y v u Q I rx ry ⟨p,xs,j,xs[j],ex,ey,hq,xAak (qj hj),q _ (yg hj)⟩ hs
end
theorem xAqm{α:Type}(xs:List α)(i:Int)(h0:0≤i)(h1:i<(xs.length:Int)):∃v,atI xs i=some v:=by
 obtain⟨j,rfl⟩:=Int.eq_ofNat_of_zero_le h0
 have hj:j<xs.length:=by omega
 exact⟨xs[j],xAak (qj hj)⟩
theorem xAbf(x:Int){m:Int}(h:0<m):0≤x % m:=Int.emod_nonneg _ (by omega)
theorem xAbg(x:Int){m:Int}(h:0<m):x % m<m:=Int.emod_lt_of_pos _ h
theorem cm{x m:Int}(h0:0<m)(h1:m≤2 ^ 64):-(2 ^ 64)<x % m/\x % m<2 ^ 64:=by
 have a:=xAbf x h0;have b:=xAbg x h0;omega
theorem xAfu(x y:Str):(x++y).cps.size=x.cps.size+y.cps.size:=j1
section
variable {X:Cx}{es:List Expr}{t:TA}{pos:Pos}
def tTupA(t:TA):TE:=fun σ H Q=>t σ H fun xs H1=>xs.length≤sizeLine/\∀p H',H1 p=none->Same H1 H'->H' p=some (.tup xs)->Q (.ref p) H'
def tLstA(t:TA):TE:=fun σ H Q=>t σ H fun xs H1=>xs.length≤sizeLine/\∀p H',H1 p=none->Same H1 H'->H' p=some (.lst xs)->Q (.ref p) H'
theorem xAam{x1}(h:PA X es t):PE X (.Tuple es x1 pos) (tTupA t):=by
 refine⟨?_⟩;intro pins s σ H Q I hq;refine wpAny_Tuple_spliced (thn (h pos pins s σ H _ I hq) fun us s1 ⟨xs,H1,I1,r,z,q⟩=>⟨by rw[←r.length];exact z,?_⟩);have hf:H1 s1.heap.objs.size=none:=I1.hok.fresh (qd _);refine⟨.ref s1.heap.objs.size,upd H1 s1.heap.objs.size (.tup xs),I1.laid (t':=s1.toks) (fun b u e=>Heap.get?_push_of_some _ e) (qd _) ?_,rfl,q _ _ hf (Same.new hf) xAaf⟩;exact⟨z,us,r,⟨_,Heap.get?_push_size _ rfl,rfl,_,rfl⟩⟩
theorem xAan(h:PA X es t):PE X (.List es pos) (tLstA t):=by
 refine⟨?_⟩;intro pins s σ H Q I hq;refine wpAny_List_spliced (thn (h pos pins s σ H _ I hq) fun us s1 ⟨xs,H1,I1,r,z,q⟩=>⟨by rw[←r.length];exact z,?_⟩);have hf:H1 s1.heap.objs.size=none:=I1.hok.fresh (qd _);refine⟨.ref s1.heap.objs.size,upd H1 s1.heap.objs.size (.lst xs),I1.laid (t':=s1.toks) (fun b u e=>Heap.get?_push_of_some _ e) (qd _) ?_,rfl,q _ _ hf (Same.new hf) xAaf⟩;exact⟨z,us,0,r,Heap.get?_push_size _ rfl⟩
theorem OpR.imp{f:Value->Value->Sem Value}{r r':R2}(h:OpR X f r)(i:∀x y H Q,r' x y H Q->r x y H Q):OpR X f r':=fun pins s σ H x y v u Q I rx ry q=>h pins s σ H x y v u Q I rx ry (i x y H Q q)
theorem SlR.imp{r r':V->Option Int->Option Int->Hp->VK->Prop}(h:SlR X r)(i:∀x lo hi H Q,r' x lo hi H Q->r x lo hi H Q):SlR X r':=fun pins s σ H x v vl vu lo hi sl Q I rx hs pl pu q=>h pins s σ H x v vl vu lo hi sl Q I rx hs pl pu (i x lo hi H Q q)
inductive IrCatA(x:V)(y:V)(H:Hp)(Q:VK):Prop
 |mk (l:_) (b:_) (xs:_) (zs:_) (h0_:x=.ref l) (h1_:y=.ref b) (h2_:H l=some (.lst xs)) (h3_:H b=some (.lst zs)) (h4_:xs.length+zs.length≤sizeLine) (h5_:∀p H',H p=none->Same H H'->H' p=some (.lst (xs++zs))->Q (.ref p) H'):IrCatA x y H Q
def rCatA:R2:=fun x y H Q=>IrCatA x y H Q
theorem xAbz:OpR X (binaryOp .Add) rCatA:=op_cat.imp fun _ _ _ _ ⟨l,b,xs,zs,h1,h2,h3,h4,h5,q⟩=>⟨l,b,xs,zs,h1,h2,h3,h4,h5,fun p hp=>q p _ hp (Same.new hp) xAaf⟩
inductive IrSlLA(x:V)(lo:Option Int)(hi:Option Int)(H:Hp)(Q:VK):Prop
 |mk (a:_) (xs:_) (h0_:x=.ref a) (h1_:SqL H a xs) (h2_:∀p H',H p=none->Same H H'->H' p=some (.lst (cutV xs lo hi))->Q (.ref p) H'):IrSlLA x lo hi H Q
def rSlLA:V->Option Int->Option Int->Hp->VK->Prop:=fun x lo hi H Q=>IrSlLA x lo hi H Q
theorem xAbi:SlR X (rSlLA):=xAqf.imp fun _ _ _ _ _ ⟨a,xs,h1,h2,q⟩=>⟨a,xs,h1,h2,fun p hp=>q p _ hp (Same.new hp) xAaf⟩
end
def clo(env:Env):List (Str×NameKind)->List (Str×Addr)->List (Str×Addr)
 |[],acc=>acc
 |(n,k)::r,acc=>clo env r (if k==.free then(n,(env.cells.lookup n).getD 0)::acc else acc)
theorem xAhx{env:Env}{sc:Scope}(h:∀y∈sc.names,y.2=.free->∃c,env.cells.lookup y.1=some c):closureFor sc env=pure (clo env sc.names []):=by
 have all:∀(names:List (Str×NameKind)) (acc:List (Str×Addr)),(∀y∈names,y.2=.free->∃c,env.cells.lookup y.1=some c) →
   (forIn names acc fun x r=>(match x with
    |(name,kind)=>if(kind==NameKind.free)=true then do
      let a ←cellOf env name
      pure (ForInStep.yield ((name,a)::r))
     else pure (ForInStep.yield r):Sem (ForInStep (List (Str×Addr)))))=pure (clo env names acc):=by
  intro names
  induction names with
  |nil=>intro acc _;rfl
  |cons x r ih =>
   intro acc hx;obtain⟨n,k⟩:=x;rw[List.forIn_cons]
   cases hk:(k==NameKind.free) with
   |true =>
    obtain⟨c,hc⟩:=hx (n,k) qm (beq_iff_eq.mp hk)
    have e:cellOf env n=pure c:=by unfold cellOf;rw[hc]
    dsimp only;rw[if_pos hk,e];refine Eq.trans (by first|rfl|simp) ((ih ((n,c)::acc) fun y hy=>hx y (List.mem_cons_of_mem _ hy)).trans ?_);show _=pure (clo env r (if(k==NameKind.free)=true then(n,(env.cells.lookup n).getD 0)::acc else acc));rw[if_pos hk,show env.cells.lookup n=some c from hc];rfl
   |false =>
    dsimp only;rw[if_neg (by rw[hk];exact qx)];refine Eq.trans (by first|rfl|simp) ((ih acc fun y hy=>hx y (List.mem_cons_of_mem _ hy)).trans ?_);show _=pure (clo env r (if(k==NameKind.free)=true then(n,(env.cells.lookup n).getD 0)::acc else acc));rw[if_neg (by rw[hk];exact qx)]
 have e:=all sc.names [] h
 show((forIn sc.names [] fun x r=>(match x with
       |(name,kind)=>if(kind==NameKind.free)=true then do
         let a ←cellOf env name
         pure (ForInStep.yield ((name,a)::r))
        else pure (ForInStep.yield r):Sem (ForInStep (List (Str×Addr))))) >>= fun cs=>pure cs)=_
 rw[e];rfl
theorem xAnm{env:Env}:∀{names:List (Str×NameKind)} {acc:List (Str×Addr)},(∀y∈names,y.2=.free->∃c,env.cells.lookup y.1=some c)->(∀x c,acc.lookup x=some c->env.cells.lookup x=some c) →
  ∀x c,(clo env names acc).lookup x=some c->env.cells.lookup x=some c
 |[],_,_,h=>h
 |(n,k)::r,acc,hx,h=>by
  refine xAnm (names:=r) (fun y hy=>hx y (qk _ hy)) fun x c e=>?_
  cases hk:(k==NameKind.free) with
  |true =>
   rw[hk,if_pos rfl]at e;obtain⟨c',hc⟩:=hx (n,k) qm (beq_iff_eq.mp hk);rw[jm]at e
   cases hxn:(x==n) with
   |true =>
    rw[hxn]at e;have q:=beq_iff_eq.mp hxn;subst q;have e':(env.cells.lookup x).getD 0=c:=Option.some.inj e;have hc':env.cells.lookup x=some c':=hc;rw[hc']at e' ⊢;exact congrArg some e'
   |false=>rw[hxn]at e;exact h x c e
  |false=>rw[hk,if_neg qx]at e;exact h x c e
theorem xAnn{env:Env}{x:Str}:∀{names:List (Str×NameKind)} {acc:List (Str×Addr)},((x,NameKind.free)∈names\/∃c,acc.lookup x=some c)->∃c,(clo env names acc).lookup x=some c
 |[],_,h=>h.elim (fun z=>nomatch z) id
 |(n,k)::r,acc,h=>by
  refine xAnn (names:=r) ?_
  have put:∀c',∃c,((n,c')::acc).lookup x=some c\/(x≠n/\acc.lookup x=none):=fun c'=>by
   rw[jm]
   cases hxn:(x==n) with
   |true=>exact⟨c',.inl rfl⟩
   |false =>
    cases ha:acc.lookup x with
    |some c=>exact⟨c,.inl rfl⟩
    |none=>exact⟨0,.inr ⟨fun z=>by subst z;simp at hxn,rfl⟩⟩
  rcases h with h|⟨c,h⟩
  ·rcases qw.mp h with q|q
   ·cases q
    refine .inr ?_;rw[if_pos (by rfl),jm]
    simp
   ·exact .inl q
  ·refine .inr ?_
   cases hk:(k==NameKind.free) with
   |true =>
    rw[if_pos (by rfl)];obtain⟨c1,q|q⟩:=put ((env.cells.lookup n).getD 0)
    ·exact⟨c1,q⟩
    ·rw[q.2]at h;cases h
   |false=>rw[if_neg qx];exact⟨c,h⟩
theorem xAiv{sc:Scope}{env:Env}{x:Str}{k:NameKind}(h:(relabel sc env).names.lookup x=some k):∃y∈sc.names,y.1=x/\(y.2=k\/y.2=.free):=by
 have hm:=PySem.mem_of_lookup h;obtain⟨y,hy,e⟩:=qu.mp hm;refine⟨y,hy,?_⟩;obtain⟨n,k0⟩:=y;dsimp only at e
 split at e
 ·rename_i hc
  rw[qr,qr]at hc;cases e;exact⟨rfl,.inr (beq_iff_eq.mp hc.1.1)⟩
 ·cases e
  exact⟨rfl,.inl rfl⟩
theorem xAqn{X:Cx}{sc:Scope}{fr:List (Str×Nat)}(hX:∀x,X.env.kindOf x=some .cell->∃c,X.env.cells.lookup x=some c)(hcell:∀y∈sc.names,y.2≠.cell)(hfree:∀y∈sc.names,y.2=.free->X.env.kindOf y.1=some .cell)(hcap:∀p∈fr,X.N[p.2]?=some p.1/\X.env.kindOf p.1=some .cell/\(relabel sc X.env).names.lookup p.1=some .cell):Caps X sc (clo X.env sc.names []) fr where
 clos:=xAhx fun y hy e=>hX _ (hfree y hy e)
 sub:=xAnm (fun y hy e=>hX _ (hfree y hy e)) fun x c e=>by cases e
 has:=fun x e=>by
  refine xAnn (.inl ?_);rcases e with e|e <;> obtain⟨y,hy,rfl,z⟩:=xAiv e <;> rcases z with z|z
  ·exact absurd z (hcell y hy)
  ·rw[←z];exact hy
  ·rw[←z];exact hy
  ·rw[←z];exact hy
 cap:=fun p hp=>by
  obtain⟨h1,h2,h3⟩:=hcap p hp;exact⟨h1,by rw[h2];decide,.inr (.inl h2),.inl h3⟩
theorem xAiw{X:Cx}{sc:Scope}{fr:List (Str×Nat)}(scX:Scope)(N:List Str)(h1:X.env.scope=scX)(h2:X.N=N)(hX:∀x,X.env.kindOf x=some .cell->∃c,X.env.cells.lookup x=some c)(hcell:∀y∈sc.names,y.2≠.cell)(hfree:∀y∈sc.names,y.2=.free->scX.names.lookup y.1=some .cell)(hcap:∀p∈fr,N[p.2]?=some p.1/\scX.names.lookup p.1=some .cell/\(relabel sc { scope:=scX,locals:=0,globals:=0,cells:=[] }).names.lookup p.1=some .cell):Caps X sc (clo X.env sc.names []) fr:=by
 refine xAqn hX hcell (fun y hy e=>?_) fun p hp=>?_
 ·show X.env.scope.names.lookup y.1=some .cell
  rw[h1];exact hfree y hy e
 ·obtain⟨a,b,c⟩:=hcap p hp
  refine⟨by rw[h2];exact a,?_,?_⟩
  ·show X.env.scope.names.lookup p.1=some .cell
   rw[h1];exact b
  ·have e:relabel sc X.env=relabel sc { scope:=scX,locals:=0,globals:=0,cells:=[] }:=by
    unfold relabel Env.kindOf;rw[h1]
   rw[e];exact c
section
variable {X:Cx}
theorem CallR.imp{f:Value}{r r':List V->Hp->VK->Prop}(h:CallR X f r)(i:∀xs H Q,r' xs H Q->r xs H Q):CallR X f r':=fun pins s σ H xs us Q I rv q=>h pins s σ H xs us Q I rv (i xs H Q q)
inductive IrTupA(xs:List V)(H:Hp)(Q:VK):Prop
 |mk (p:_) (ys:_) (h0_:xs=[.ref p]) (h1_:SqL H p ys) (h2_:∀l H',H l=none->Same H H'->H' l=some (.tup ys)->Q (.ref l) H'):IrTupA xs H Q
def rTupA:List V->Hp->VK->Prop:=fun xs H Q=>IrTupA xs H Q
theorem xAbm:CallR X (.type "tuple") (rTupA):=xAew.imp fun _ _ _ ⟨p,ys,h1,h2,q⟩=>⟨p,ys,h1,.inl ⟨h2,fun l hl=>q l _ hl (Same.new hl) xAaf⟩⟩
inductive IrLstA(xs:List V)(H:Hp)(Q:VK):Prop
 |mk (p:_) (ys:_) (h0_:xs=[.ref p]) (h1_:(SqL H p ys\/SqT H p ys)) (h2_:∀l H',H l=none->Same H H'->H' l=some (.lst ys)->Q (.ref l) H'):IrLstA xs H Q
def rLstA:List V->Hp->VK->Prop:=fun xs H Q=>IrLstA xs H Q
theorem xAgt:CallR X (.type "list") (rLstA):=xAfr.imp fun _ _ _ ⟨p,ys,h1,h2,q⟩=>⟨p,ys,h1,h2,fun l hl=>q l _ hl (Same.new hl) xAaf⟩
inductive IrCatTA(x:V)(y:V)(H:Hp)(Q:VK):Prop
 |mk (a:_) (b:_) (xs:_) (ys:_) (h0_:x=.ref a) (h1_:y=.ref b) (h2_:SqT H a xs) (h3_:SqT H b ys) (h4_:xs≠[]) (h5_:ys≠[]) (h6_:xs.length+ys.length≤sizeLine) (h7_:∀l H',H l=none->Same H H'->H' l=some (.tup (xs++ys))->Q (.ref l) H'):IrCatTA x y H Q
def rCatTA:R2:=fun x y H Q=>IrCatTA x y H Q
theorem xAdn:OpR X (binaryOp .Add) (rCatTA):=xAng.imp fun _ _ _ _ ⟨a,b,xs,ys,h1,h2,h3,h4,h5,hne,h6,q⟩=>⟨a,b,xs,ys,h1,h2,h3,h4,h5,h6,fun e=>absurd e hne,fun _ p hp=>q p _ hp (Same.new hp) xAaf⟩
inductive IrRepA(x:V)(y:V)(H:Hp)(Q:VK):Prop
 |mk (l:_) (k:_) (xs:_) (h0_:x=.ref l) (h1_:y=.int k) (h2_:H l=some (.lst xs)) (h3_:-(2 ^ 63)≤k) (h4_:k<2 ^ 63) (h5_:xs.length * k.toNat≤sizeLine) (h6_:∀p H',H p=none->Same H H'->H' p=some (.lst (List.replicate k.toNat xs).flatten)->Q (.ref p) H'):IrRepA x y H Q
def rRepA:R2:=fun x y H Q=>IrRepA x y H Q
theorem xAqo:OpR X (binaryOp .Mult) rRepA:=op_rep.imp fun _ _ _ _ ⟨l,k,xs,h1,h2,h3,h4,h5,h6,q⟩=>⟨l,k,xs,h1,h2,h3,h4,h5,h6,fun p hp=>q p _ hp (Same.new hp) xAaf⟩
end
theorem xAqp{z:Str}{g:TG}{tb:TS}{D:Ends}{σ:St}{H:Hp}(Pv:Nat->St->Hp->Prop)(h0:Pv 0 σ H)(hs:∀i c σ H,z.cps[i]?=some c->Pv i σ H->g (.str ⟨#[c]⟩) σ H fun σ2 H2=>tb { D with nx:=Pv (i+1),ct:=Pv (i+1),bk:=D.nx } σ2 H2)(hd:∀σ H,Pv z.cps.size σ H->D.nx σ H) :
  ∃W:Nat->Nat->St->Hp->Prop,(∃m,W 0 m σ H)/\∀i m σ H,W i m σ H →
   ((Its z).stop i H/\D.nx σ H)\/((Its z).go i H/\∃N:St->Hp->Prop,(∀σ' H',N σ' H'->∃m',m'<m/\W (i+1) m' σ' H')/\∀x H',(Its z).yld i H x H'->g x σ H' fun σ2 H2=>tb { D with nx:=N,ct:=N,bk:=D.nx } σ2 H2):=by
 refine⟨fun i m σ H=>m=z.cps.size - i/\i≤z.cps.size/\Pv i σ H,⟨z.cps.size,by simp,Nat.zero_le _,h0⟩,?_⟩;rintro i m σ H ⟨rfl,hi,p⟩
 by_cases hlt:i<z.cps.size
 ·refine .inr ⟨hlt,Pv (i+1),fun σ' H' p'=>⟨z.cps.size - (i+1),by omega,rfl,hlt,p'⟩,fun x H' y=>?_⟩
  obtain⟨rfl,c,hc,rfl⟩:=y;exact hs i c σ _ hc p
 ·have e:i=z.cps.size:=by omega
  subst e;exact .inl ⟨qd _,hd σ H p⟩
theorem xAen{a:Addr}{xs:List V}{own:List Str}{fr:List (Str×Nat)}{g:TG}{tt:TT}{te:TE}{σ:St}{H:Hp}{Q:VK}(hz:xs.length≤sizeLine)(Pv:Nat->List V->Hp->Prop)(h0:Pv 0 [] H)(hl:∀i ys H,Pv i ys H->SqL H a xs)(hs:∀i x ys H' (K1:V->Hp->Prop) (K0:Hp->Prop),xs[i]?=some x->Pv i ys H'->(∀y H4,Pv (i+1) (ys++[y]) H4->K1 y H4)->(∀H3,Pv (i+1) ys H3->K0 H3) →
   g x (compSt own fr σ) H' fun σ2 H2=>tt σ2 H2 fun b H3=>if b=true then te σ2 H3 K1 else K0 H3)(hd:∀H' p ys,Pv xs.length ys H'->ys.length≤xs.length->H' p=none->Q (.ref p) (upd H' p (.lst ys))):LCb own fr g tt te σ Q (Itl a) H:=by
 refine⟨fun i m ys H=>m=xs.length - i/\i≤xs.length/\ys.length≤i/\Pv i ys H,⟨xs.length,by simp,Nat.zero_le _,Nat.zero_le _,h0⟩,?_⟩;rintro i m ys H ⟨rfl,hi,hy,p⟩
 by_cases hlt:i<xs.length
 ·refine .inr ⟨⟨xs,xs[i],hl _ _ H p,by simp[hlt]⟩,by omega,fun x H' y=>?_⟩
  obtain⟨rfl,y⟩:=y;have hc:=y xs (hl _ _ _ p)
  refine hs i x ys H' _ _ hc p (fun y H4 p4=>⟨xs.length - (i+1),by omega,rfl,hlt,?_,p4⟩) fun H3 p3=>⟨xs.length - (i+1),by omega,rfl,hlt,by omega,p3⟩
  rw[ql,zm];omega
 ·have e:i=xs.length:=by omega
  subst e;exact .inl ⟨⟨xs,hl _ _ H p,qd _⟩,fun q hq=>hd H q ys p hy hq⟩
theorem xAou{lo:Int}{n:Nat}{own:List Str}{fr:List (Str×Nat)}{g:TG}{tt:TT}{te:TE}{σ:St}{H:Hp}{Q:VK}(hz:n≤sizeLine)(Pv:Nat->List V->Hp->Prop)(h0:Pv 0 [] H)(hs:∀i ys H' (K1:V->Hp->Prop) (K0:Hp->Prop),i<n->Pv i ys H'->(∀y H4,Pv (i+1) (ys++[y]) H4->K1 y H4)->(∀H3,Pv (i+1) ys H3->K0 H3) →
   g (.int (lo+i)) (compSt own fr σ) H' fun σ2 H2=>tt σ2 H2 fun b H3=>if b=true then te σ2 H3 K1 else K0 H3)(hd:∀H' p ys,Pv n ys H'->ys.length≤n->H' p=none->Q (.ref p) (upd H' p (.lst ys))):LCb own fr g tt te σ Q (Itr lo n) H:=by
 refine⟨fun i m ys H=>m=n - i/\i≤n/\ys.length≤i/\Pv i ys H,⟨n,by simp,Nat.zero_le _,Nat.zero_le _,h0⟩,?_⟩;rintro i m ys H ⟨rfl,hi,hy,p⟩
 by_cases hlt:i<n
 ·refine .inr ⟨hlt,by omega,fun x H' y=>?_⟩
  obtain⟨rfl,rfl⟩:=y
  refine hs i ys H' _ _ hlt p (fun y H4 p4=>⟨n - (i+1),by omega,rfl,hlt,?_,p4⟩) fun H3 p3=>⟨n - (i+1),by omega,rfl,hlt,by omega,p3⟩
  rw[ql,zm];omega
 ·have e:i=n:=by omega
  subst e;exact .inl ⟨qd _,fun q hq=>hd H q ys p hy hq⟩
theorem nodup_len{α:Type}[DecidableEq α]:∀{S ws:List α},S.Nodup->(∀x∈S,x∈ws)->S.length≤ws.length
 |[],_,_,_=>w5 _
 |x::S,ws,nd,h=>by
  have hx:=h x qm;have nd':=zv.mp nd
  have ih:=nodup_len (S:=S) (ws:=ws.erase x) nd'.2 fun y hy=>(List.mem_erase_of_ne (fun(e:y=x)=>nd'.1 (by rw[←e];exact hy))).mpr (h y (qk _ hy))
  have el:=List.length_erase_of_mem hx;have pos:0<ws.length:=List.length_pos_of_mem hx;show S.length+1≤ws.length;omega
def tDctTA:TE:=fun _ H Q=>∀p H',H p=none->Same H H'->H' p=some (.dT [])->Q (.ref p) H'
theorem xAov{X:Cx}{pos:Pos}:PE X (.Dict [] [] pos) tDctTA:=⟨fun pins s σ H Q I h=>xAoq pins s σ H Q I fun p hp=>h p _ hp (Same.new hp) xAaf⟩
theorem SqL.same{H H':Hp}{a:Addr}{xs:List V}(h:SqL H a xs)(s:Same H H'):SqL H' a xs:=by
 rcases h with h|⟨o,h⟩
 ·exact .inl (s _ _ h)
 ·exact .inr ⟨o,s _ _ h⟩
inductive IrCatS(x:V)(y:V)(H:Hp)(Q:VK):Prop
 |mk (l:_) (b:_) (xs:_) (zs:_) (h0_:x=.ref l) (h1_:y=.ref b) (h2_:SqL H l xs) (h3_:H b=some (.lst zs)) (h4_:xs.length+zs.length≤sizeLine) (h5_:∀p H',H p=none->Same H H'->H' p=some (.lst (xs++zs))->Q (.ref p) H'):IrCatS x y H Q
def rCatS:R2:=fun x y H Q=>IrCatS x y H Q
theorem xAqq{X:Cx}:OpR X (binaryOp .Add) (rCatS):=by
 intro pins s σ H x y v u Q I rx ry h;obtain⟨l,b,xs,zs,rfl,rfl,hH,hB,hz,q⟩:=h;cases rx;cases ry;obtain⟨its,r,pl,z⟩:=I.list hH;obtain⟨⟨cls,dict,data,sl⟩,n,e,c1,c2,c3⟩:=pl;dsimp only at c1 c2 c3;subst c1 c2 c3;obtain⟨z2,its2,n2,r2,hl2,e2⟩:=I.lstM hB;have hl:=r.length;refine concat_meets ⟨_,e,rfl⟩ ⟨_,e2,rfl⟩ noFill_list_add seq_list_add PySem.F.slot_list_add PySem.F.entry_list_add (PySem.F.args_list_add_2 _ _) (list_addW l b its.toArray its2.toArray n n2 none none sl #[] (by rw[zi,zi];omega)) ⟨e,e2,?_⟩
 have ea:its.toArray++its2.toArray=(its++its2).toArray:=by simp
 rw[ea];exact⟨.ref _,_,I.lnew (t':=s.toks) (r.append r2) (by rw[ql];omega),rfl,q _ _ I.fresh (Same.new I.fresh) xAaf⟩
section
variable {X:Cx}
theorem xAno:∀{ys:List Str} {us:List Value},Vals (ys.map V.str) us->StrsAre us ys
 |[],_,h=>by cases h;exact .nil
 |y::ys,_,h=>by
  cases h with
  |cons r t =>
   obtain⟨k,rfl⟩:=r;exact .cons y k (xAno t)
inductive IrJoin(x:V)(vs:List V)(H:Hp)(Q:VK):Prop
 |mk (sep:_) (p:_) (ys:_) (h0_:x=.str sep) (h1_:vs=[.ref p]) (h2_:SqL H p (List.map V.str ys)) (h3_:(ys.map (·.length)).sum+ys.length * sep.length≤16777216) (h4_:Q (.str (Txt.join sep ys)) H):IrJoin x vs H Q
def rJoin:V->List V->Hp->VK->Prop:=fun x vs H Q=>IrJoin x vs H Q
theorem xAey:MtM X "str.join" (rJoin):=by
 intro pins s σ H x vs v us Q I rx rv h;obtain⟨sep,p,ys,rfl,rfl,hq,hz,q⟩:=h;obtain⟨t,rfl⟩:=rx;obtain⟨u,rfl,ru⟩:=rv.one;cases ru;obtain⟨its,r,pl,_⟩:=I.list hq;exact join_list pl.isList (xAno r) hz fun t' k=>⟨.str (Txt.join sep ys),H,I.tok _,⟨_,rfl⟩,q⟩
def insV(xs:List V)(k:Nat)(y:V):List V:=xs.take k++y::xs.drop k
inductive IrInsert(x:V)(vs:List V)(H:Hp)(Q:VK):Prop
 |mk (l:_) (xs:_) (i:_) (y:_) (h0_:x=.ref l) (h1_:vs=[.int i,y]) (h2_:H l=some (.lst xs)) (h3_:0≤i) (h4_:i<2 ^ 63) (h5_:xs.length<sizeLine) (h6_:Q .non (upd H l (.lst (insV xs (min i.toNat xs.length) y)))):IrInsert x vs H Q
def rInsert:V->List V->Hp->VK->Prop:=fun x vs H Q=>IrInsert x vs H Q
theorem xAln:MtM X "list.insert" rInsert:=by
 intro pins s σ H x vs v us Q I rx rv h;obtain⟨l,xs,i,y,rfl,rfl,hH,h1,h2,hz,q⟩:=h;cases rx;obtain⟨u,u2,rfl,ru,ru2⟩:=rv.two;obtain⟨t,rfl⟩:=ru;obtain⟨z,its,n,r,hl,e⟩:=I.lstM hH;refine call_meets F.slot_list_insert ⟨_,e,rfl⟩ F.entry_list_insert (F.args_list_insert_3 _ _ _) (AutoSeq1.list_insert_list_int_val_1 l its.toArray n i t u2 (by rw[fitsIndex_both (by omega) h2];decide) (by rw[zi];omega)) ⟨e,?_⟩;refine⟨.non,_,I.lset (its':=its.take (min i.toNat its.length)++u2::its.drop (min i.toNat its.length)) hH e ?_ (ys:=insV xs (min i.toNat xs.length) y) ?_ ?_,rfl,q⟩
 ·have hi:¬i<0:=by omega
  simp only[hi,if_false,List.size_toArray]
  simp
  exact wu (by rw[wb];exact qd _)
 ·unfold insV
  rw[hl];exact(r.take _).append (.cons ru2 (r.drop _))
 ·unfold insV
  rw[ql,qy,zw,wb];omega
end
mutual
inductive DV(H:Hp):V->PyData->Prop
 |non:DV H .non .none
 |bl (b:Bool):DV H (.bl b) (.bool b)
 |int (i:Int):DV H (.int i) (.int i)
 |str (z:Str):DV H (.str z) (.str z)
 |lst {p:Addr} {xs:List V} {ds:List PyData}:SqL H p xs->DVs H xs ds->DV H (.ref p) (.list ds)
 |tup {p:Addr} {xs:List V} {ds:List PyData}:SqT H p xs->DVs H xs ds->DV H (.ref p) (.tuple ds)
inductive DVs(H:Hp):List V->List PyData->Prop
 |nil:DVs H [] []
 |cons {x:V} {xs:List V} {d:PyData} {ds:List PyData}:DV H x d->DVs H xs ds->DVs H (x::xs) (d::ds)
end
section
variable {X:Cx}{pins:List (Addr×Obj)}{σ:St}{H H':Hp}{s:Shared}{K:PySem.W.Frag}
mutual
theorem DV.reads(I:Inv X pins σ H s):∀{x:V} {d:PyData} {v:Value},DV H x d->RelV x v->∃as,Reads s.heap v d as
 |_,_,_,.non,r=>by cases r;exact⟨_,.none⟩
 |_,_,_,.bl b,r=>by cases r;exact⟨_,.bool b⟩
 |_,_,_,.int i,r=>by obtain⟨t,rfl⟩:=r;exact⟨_,.int i t⟩
 |_,_,_,.str z,r=>by obtain⟨t,rfl⟩:=r;exact⟨_,.str z t⟩
 |_,_,_,.lst h t,r=>by
  cases r;obtain⟨its,rv,⟨o,n,e1,e2,_,e3⟩,_⟩:=I.list h;obtain⟨as,ra⟩:=DVs.reads I t rv;exact⟨_,.list e1 e2 e3 (by simpa using ra)⟩
 |_,_,_,.tup h t,r=>by
  cases r;obtain⟨its,rv,⟨o,e1,e2,n,e3⟩,_⟩:=I.tuple h;obtain⟨as,ra⟩:=DVs.reads I t rv;exact⟨_,.tuple e1 e2 e3 (by simpa using ra)⟩
theorem DVs.reads(I:Inv X pins σ H s):∀{xs:List V} {ds:List PyData} {vs:List Value},DVs H xs ds->Vals xs vs->∃as,ReadsAll s.heap vs ds as
 |_,_,_,.nil,r=>by cases r;exact⟨_,.nil⟩
 |_,_,_,.cons h t,r=>by
  cases r with
  |cons r1 r2 =>
   obtain⟨as,a⟩:=DV.reads I h r1;obtain⟨bs,b⟩:=DVs.reads I t r2;exact⟨_,.cons a b⟩
end
inductive IrEqD(u:Nat)(neg:Bool)(x:V)(y:V)(H:Hp)(Q:VK):Prop
 |mk (dx:_) (dy:_) (h0_:DV H x dx) (h1_:DV H y dy) (h2_:dx.canLay0=true) (h3_:dy.canLay0=true) (h4_:min dx.depth dy.depth≤u) (h5_:Q (.bl (if neg then !PyData.eqv dx dy else PyData.eqv dx dy)) H):IrEqD u neg x y H Q
def rEqD(u:Nat)(neg:Bool):R2:=fun x y H Q=>IrEqD u neg x y H Q
theorem op_eqD{u:Nat}(hu:X.A.units+u<cLine):OpR X (compareOp .Eq) (rEqD u false):=by
 intro pins s σ H x y v w Q I rx ry h;obtain⟨dx,dy,hx,hy,cx,cy,hd,q⟩:=h;obtain⟨as,ra⟩:=hx.reads I rx;obtain⟨bs,rb⟩:=hy.reads I ry;exact SeqAt.compareEq_reads ra rb cx cy (by omega) ⟨.bl _,H,I,rfl,q⟩
theorem xAca{h:Heap}:∀{vs:List Value} {ds:List PyData} {as:List Addr} {j:Nat} {v:Value},ReadsAll h vs ds as->vs[j]?=some v->∃d bs,ds[j]?=some d/\Reads h v d bs
 |_,_,_,_,_,.nil,e=>by cases e
 |_,_,_,0,_,.cons r t,e=>by cases e;exact⟨_,_,rfl,r⟩
 |_,_,_,j+1,_,.cons r t,e=>by
  obtain⟨d,bs,h1,h2⟩:=xAca (j:=j) t (by simpa using e);exact⟨d,bs,by simpa using h1,h2⟩
theorem xAgu:∀{ds:List PyData} {j:Nat} {d:PyData},PyData.canLayAll0 ds=true->ds[j]?=some d->d.canLay0=true
 |[],_,_,_,e=>by cases e
 |d::ds,0,_,h,e=>by
  cases e;have h':(d.canLay0&&PyData.canLayAll0 ds)=true:=h;rw[qr]at h';exact h'.1
 |d::ds,j+1,d',h,e=>by
  have h':(d.canLay0&&PyData.canLayAll0 ds)=true:=h;rw[qr]at h';exact xAgu h'.2 (by simpa using e)
open Classical in
noncomputable def alike(vs:List Value)(ds:List PyData)(dx:PyData)(y:Value):Bool:=decide (∃(j:Nat) (d:PyData),vs[j]?=some y/\ds[j]?=some d/\PyData.eqv d dx=true)
open Classical in
theorem xAcy{h:Heap}{vs:List Value}{ds:List PyData}{as:List Addr}{dx:PyData}(r:ReadsAll h vs ds as)(c:PyData.canLayAll0 ds=true){j:Nat}{y:Value}{d:PyData}(e:vs[j]?=some y)(ed:ds[j]?=some d):alike vs ds dx y=PyData.eqv d dx:=by
 unfold alike
 cases q:PyData.eqv d dx with
 |true=>exact decide_eq_true ⟨j,d,e,ed,q⟩
 |false =>
  refine decide_eq_false fun⟨j',d',e',ed',q'⟩=>?_;obtain⟨d1,b1,x1,r1⟩:=xAca r e;obtain⟨d2,b2,x2,r2⟩:=xAca r e';rw[ed]at x1;cases x1;rw[ed']at x2;cases x2;have:=SeqAt.Reads.unique _ _ _ _ _ (xAgu c ed) r1 r2;rw[←this,q]at q';cases q'
theorem xAlo{h:Heap}{dx:PyData}{vs:List Value}{ds:List PyData}{as:List Addr}(r:ReadsAll h vs ds as)(c:PyData.canLayAll0 ds=true):vs.any (alike vs ds dx)=ds.any fun d=>PyData.eqv d dx:=by
 have hl:=SeqAt.ReadsAll.length _ _ _ r;rw[vt,jn,jn];constructor
 ·rintro⟨y,hy,q⟩
  obtain⟨j,hj,e⟩:=wm.mp hy;obtain⟨d,_,ed,_⟩:=xAca r (j:=j) (by rw[qj hj,e]);rw[xAcy r c (by rw[qj hj,e]) ed]at q;exact⟨d,qz ed,q⟩
 ·rintro⟨d,hd,q⟩
  obtain⟨j,hj,e⟩:=wm.mp hd
  have hj':j<vs.length:=by omega
  refine⟨vs[j],yg hj',?_⟩;rw[xAcy r c (qj hj') (by rw[qj hj,e])];exact q
inductive IrInD(u:Nat)(neg:Bool)(x:V)(y:V)(H:Hp)(Q:VK):Prop
 |mk (dx:_) (p:_) (ds:_) (xs:_) (h0_:DV H x dx) (h1_:y=.ref p) (h2_:(SqL H p xs\/SqT H p xs)) (h3_:DVs H xs ds) (h4_:dx.canLay0=true) (h5_:PyData.canLayAll0 ds=true) (h6_:dx.depth≤u) (h7_:Q (.bl (if neg then !(ds.any fun d=>PyData.eqv d dx) else ds.any fun d=>PyData.eqv d dx)) H):IrInD u neg x y H Q
def rInD(u:Nat)(neg:Bool):R2:=fun x y H Q=>IrInD u neg x y H Q
theorem xAlp{u:Nat}(hu:X.A.units+1+u<cLine):OpR X (compareOp .NotIn) (rInD u true):=by
 intro pins s σ H x y v w Q I rx ry h;obtain⟨dx,p,ds,xs,hx,rfl,hq,hs,cx,cs,hd,q⟩:=h;cases ry;obtain⟨as,ra⟩:=hx.reads I rx
 have key:∀{its:List Value},Vals xs its->(∀y∈its,SeqAt.EqAt X.A.in1 s y v (alike its ds dx y))/\its.any (alike its ds dx)=ds.any fun d=>PyData.eqv d dx:=fun{its} rv=>by
  obtain⟨bs,rb⟩:=hs.reads I rv;refine⟨fun y hy=>?_,xAlo rb cs⟩;obtain⟨j,hj,e⟩:=wm.mp hy
  have ej:its[j]?=some y:=by rw[qj hj,e]
  obtain⟨d,_,ed,rd⟩:=xAca rb ej;rw[xAcy rb cs ej ed];exact SeqAt.eqAt_reads d dx _ s y v _ _ rd ra (xAgu cs ed) cx (by show X.A.units+1+_<cLine;omega)
 rcases hq with hq|hq
 ·obtain⟨its,r,pl,hz⟩:=I.list hq
  obtain⟨k1,k2⟩:=key r;refine SeqAt.notIn_listAt (alike its ds dx) pl.isList (fun w hw=>k1 w (by simpa using hw)) ⟨.bl _,H,I,rfl,?_⟩;rw[List.any_toArray,k2];exact q
 ·obtain⟨its,r,pl,hz⟩:=I.tuple hq
  obtain⟨k1,k2⟩:=key r;refine SeqAt.notIn_tupleAt (alike its ds dx) pl (fun w hw=>k1 w (by simpa using hw)) ⟨.bl _,H,I,rfl,?_⟩;rw[List.any_toArray,k2];exact q
inductive IrIndexD(u:Nat)(o:V)(vs:List V)(H:Hp)(Q:VK):Prop
 |mk (x:_) (dx:_) (p:_) (ds:_) (xs:_) (j:Nat) (h0_:vs=[x]) (h1_:o=.ref p) (h2_:DV H x dx) (h3_:SqL H p xs) (h4_:DVs H xs ds) (h5_:dx.canLay0=true) (h6_:PyData.canLayAll0 ds=true) (h7_:dx.depth≤u) (h8_:(∃d,ds[j]?=some d/\PyData.eqv d dx=true)) (h9_:(∀(m:Nat) d,m<j->ds[m]?=some d->PyData.eqv d dx=false)) (h10_:Q (.int (j:Int)) H):IrIndexD u o vs H Q
def rIndexD(u:Nat):V->List V->Hp->VK->Prop:=fun o vs H Q=>IrIndexD u o vs H Q
theorem xAlq{u:Nat}(hu:X.A.units+3+u<cLine):MtM X "list.index" (rIndexD u):=by
 intro pins s σ H o vs v us Q I ro rv h;obtain⟨x,dx,p,ds,xs,j,rfl,rfl,hx,hq,hs,cx,cs,hd,⟨d,hj,ed⟩,hno,q⟩:=h;cases ro;obtain⟨w,rfl,rw'⟩:=rv.one;obtain⟨as,ra⟩:=hx.reads I rw';obtain⟨its,r,pl,hz⟩:=I.list hq;obtain⟨⟨cls,dict,data,sl⟩,n,e,c1,c2,c3⟩:=pl;dsimp only at c1 c2 c3;subst c1 c2 c3;obtain⟨bs,rb⟩:=hs.reads I r;have hlen:=SeqAt.ReadsAll.length _ _ _ rb
 have hj':j<its.length:=by
  have:=(zf.mp hj).1;omega
 have hl:=r.length
 have hbig:sizeLine<2 ^ 63 - 1:=by decide
 refine call_meets F.slot_list_index ⟨_,e,rfl⟩ F.entry_list_index (F.args_list_index_2 _ _) (SeqAt.list_indexAt p its.toArray n none sl w (alike its ds dx) j (by simpa using hj') (by omega) ?_ ?_) ⟨e,fun y hy=>?_,?_⟩
 ·rw[j2,xAcy rb cs (qj hj') hj]
  exact ed
 ·intro m hm hmj
  have hm':m<its.length:=by simpa using hm
  obtain⟨d',_,ed',_⟩:=xAca rb (qj hm');rw[j2,xAcy rb cs (qj hm') ed'];exact hno m d' hmj ed'
 ·have hy:y∈its:=by simpa using hy
  obtain⟨m,hm,em⟩:=wm.mp hy
  have ej:its[m]?=some y:=by rw[qj hm,em]
  obtain⟨d',_,ed',rd⟩:=xAca rb ej;rw[xAcy rb cs ej ed'];exact SeqAt.eqAt_reads d' dx _ s y w _ _ rd ra (xAgu cs ed') cx (by show X.A.units+1+_<cLine;omega)
 ·exact⟨.int j,H,I.tok _,⟨_,rfl⟩,q⟩
end
theorem hu64{A:Around}{k:Nat}(hr:Room k A):A.units+64<cLine:=hr.units
theorem hu63{A:Around}{k:Nat}(hr:Room k A):A.units+1+63<cLine:=by have:=hr.units;omega
theorem hu61{A:Around}{k:Nat}(hr:Room k A):A.units+3+61<cLine:=by have:=hr.units;omega
def cutS(z:Str)(lo hi:Option Int):Str:=⟨((z.cps.toList.drop (HT.sIx z.length 0 lo)).take (HT.sIx z.length z.length hi - HT.sIx z.length 0 lo)).toArray⟩
theorem xAeo(i:Int)(n:Nat):max 0 (min (if i<0 then i+(n:Int) else i) (n:Int))=((if i<0 then(i+(n:Int)).toNat else min i.toNat n:Nat):Int):=by
 by_cases h:i<0
 ·rw[if_pos h,if_pos h];omega
 ·rw[if_neg h,if_neg h];omega
theorem xAnp(lo hi:Option Int)(n:Nat):Builtin.Str.strSliceIndices lo hi 1 n=(List.range (HT.sIx n n hi - HT.sIx n 0 lo)).map (HT.sIx n 0 lo+·):=by
 rw[←sliceRange_one];unfold Builtin.Str.strSliceIndices
 cases lo with
 |none=>cases hi with
  |none=>rfl
  |some j =>
   show sliceRange 0 (max 0 (min (if j<0 then j+(n:Int) else j) (n:Int))) 1=_;rw[xAeo];rfl
 |some i=>cases hi with
  |none =>
   show sliceRange (max 0 (min (if i<0 then i+(n:Int) else i) (n:Int))) n 1=_;rw[xAeo];rfl
  |some j =>
   show sliceRange (max 0 (min (if i<0 then i+(n:Int) else i) (n:Int))) (max 0 (min (if j<0 then j+(n:Int) else j) (n:Int))) 1=_;rw[xAeo,xAeo];rfl
section
variable {X:Cx}
inductive IrSlX(x:V)(lo:Option Int)(hi:Option Int)(H:Hp)(Q:VK):Prop
 |mk (z:_) (h0_:x=.str z) (h1_:z.length≤sizeLine) (h2_:Q (.str (cutS z lo hi)) H):IrSlX x lo hi H Q
def rSlX:V->Option Int->Option Int->Hp->VK->Prop:=fun x lo hi H Q=>IrSlX x lo hi H Q
theorem xAix(z:Str)(l u:Option (Int×Tok)):((slicePicked z l u none).filterMap (z.cps[·]?))=(cutS z (l.map (·.1)) (u.map (·.1))).cps.toList:=by
 unfold slicePicked cutS;rw[show((none:Option (Int×Tok)).map (·.1)).getD 1=(1:Int) from rfl,xAnp,pick_run]
theorem xAgv:SlR X rSlX:=by
 intro pins s σ H x v vl vu lo hi sl Q I rx hs pl pu h;obtain⟨z,rfl,hz,q⟩:=h;obtain⟨t,rfl⟩:=rx;refine⟨"str",_,F.slot_str_getitem.lookup,typeIs_str _ z t,?_⟩
 have key:∀l u:Option (Int×Tok),l.map (·.1)=lo->u.map (·.1)=hi->s.heap.IsSlice sl l u none->wpAny (model X.prog X.w) X.A (getItem (.str z t) (.ref sl)) (EP X pins σ Q) X.xe s:=fun l u e1 e2 hsl=>by
  refine wpAny_getItem_str_slice (st:=none) hsl rfl ?_;have pc:=xAix z l u;rw[e1,e2]at pc;unfold sliceMade
  split
  ·rename_i hall
   have hl:(slicePicked z l u none).length=z.length:=by
    rw[qr]at hall;exact beq_iff_eq.mp hall.2
   have e:cutS z lo hi=z:=by
    have h1:(slicePicked z l u none).length=HT.sIx z.length z.length hi - HT.sIx z.length 0 lo:=by
     unfold slicePicked;rw[show((none:Option (Int×Tok)).map (·.1)).getD 1=(1:Int) from rfl,xAnp,e1,e2,qc,yz]
    have b1:HT.sIx z.length z.length hi≤z.length:=by unfold HT.sIx;split <;> (try split) <;> omega
    have h2:HT.sIx z.length 0 lo=0\/z.length=0:=by omega
    unfold cutS;rcases h2 with h2|h2
    ·rw[h2]
     rw[h2]at h1
     rw[show HT.sIx z.length z.length hi - 0=z.cps.toList.length from by
      have:z.cps.toList.length=z.length:=by simp;rfl
      omega,vz,ww]
    ·have:z.cps.toList=[]:=by
      have:z.cps.size=0:=h2;simpa using this
     rw[this];obtain⟨c⟩:=z
     simp at this
     simp[this]
   exact⟨.str z,H,I,⟨t,rfl⟩,e▸q⟩
  ·have e:(⟨((slicePicked z l u none).filterMap (z.cps[·]?)).toArray⟩:Str)=cutS z lo hi:=by
    rw[pc]
   have hle:(cutS z lo hi).length≤z.length:=by
    unfold cutS;show(List.toArray _).size≤z.length;rw[zi,zw,wb];show _≤z.cps.size
    have:z.cps.toList.length=z.cps.size:=by simp
    omega
   rw[e];exact⟨qf hle hz,.str _,H,I.tok _,⟨_,rfl⟩,q⟩
 cases pl <;> cases pu
 ·exact key none none rfl rfl hs
 ·exact key none (some (_,_)) rfl rfl hs
 ·exact key (some (_,_)) none rfl rfl hs
 ·exact key (some (_,_)) (some (_,_)) rfl rfl hs
end
def strV:V->Str
 |.str z=>z
 |.int i=>toString i
 |_=>""
section
variable {X:Cx}
inductive IRcall_strV(xs:List V)(H:Hp)(Q:VK):Prop
 |mk (x:_) (h0_:xs=[x]) (h1_:((∃z,x=.str z)\/∃i:Int,x=.int i/\i.natAbs.log2<1920)) (h2_:Q (.str (strV x)) H):IRcall_strV xs H Q
def Rcall_strV:List V->Hp->VK->Prop:=fun xs H Q=>IRcall_strV xs H Q
theorem xAcp:CallR X (.type "str") Rcall_strV:=by
 intro pins s σ H xs us Q I r h;obtain⟨x,rfl,hx,q⟩:=h;obtain⟨u,rfl,ru⟩:=vals1 r;rcases hx with⟨z,rfl⟩|⟨i,rfl,hi⟩
 ·obtain⟨t,rfl⟩:=ru
  exact PySem.P.str_of_str ⟨.str z,H,I,⟨t,rfl⟩,q⟩
 ·obtain⟨t,rfl⟩:=ru
  exact PySem.P.str_of_int hi ⟨.str _,H,I.tok _,⟨_,rfl⟩,q⟩
end
theorem xAiy{a:Addr}{xs:List V}{own:List Str}{fr:List (Str×Nat)}{g:TG}{tt:TT}{te:TE}{σ:St}{H:Hp}{Q:VK}(hz:xs.length≤sizeLine)(Pv:Nat->List V->Hp->Prop)(h0:Pv 0 [] H)(hl:∀i ys H,Pv i ys H->SqT H a xs)(hs:∀i x ys H' (K1:V->Hp->Prop) (K0:Hp->Prop),xs[i]?=some x->Pv i ys H'->(∀y H4,Pv (i+1) (ys++[y]) H4->K1 y H4)->(∀H3,Pv (i+1) ys H3->K0 H3) →
   g x (compSt own fr σ) H' fun σ2 H2=>tt σ2 H2 fun b H3=>if b=true then te σ2 H3 K1 else K0 H3)(hd:∀H' p ys,Pv xs.length ys H'->ys.length≤xs.length->H' p=none->Q (.ref p) (upd H' p (.lst ys))):LCb own fr g tt te σ Q (Itt a) H:=by
 refine⟨fun i m ys H=>m=xs.length - i/\i≤xs.length/\ys.length≤i/\Pv i ys H,⟨xs.length,by simp,Nat.zero_le _,Nat.zero_le _,h0⟩,?_⟩;rintro i m ys H ⟨rfl,hi,hy,p⟩
 by_cases hlt:i<xs.length
 ·refine .inr ⟨⟨xs,xs[i],hl _ _ H p,by simp[hlt]⟩,by omega,fun x H' y=>?_⟩
  obtain⟨rfl,y⟩:=y;have hc:=y xs (hl _ _ _ p)
  refine hs i x ys H' _ _ hc p (fun y H4 p4=>⟨xs.length - (i+1),by omega,rfl,hlt,?_,p4⟩) fun H3 p3=>⟨xs.length - (i+1),by omega,rfl,hlt,by omega,p3⟩
  rw[ql,zm];omega
 ·have e:i=xs.length:=by omega
  subst e;exact .inl ⟨⟨xs,hl _ _ H p,qd _⟩,fun q hq=>hd H q ys p hy hq⟩
mutual
inductive DT(H:Hp):V->PyData->Prop
 |non:DT H .non .none
 |bl (b:Bool):DT H (.bl b) (.bool b)
 |int (i:Int):DT H (.int i) (.int i)
 |str (z:Str):DT H (.str z) (.str z)
 |tup {p:Addr} {xs:List V} {ds:List PyData}:H p=some (.tup xs)->DTs H xs ds->DT H (.ref p) (.tuple ds)
inductive DTs(H:Hp):List V->List PyData->Prop
 |nil:DTs H [] []
 |cons {x:V} {xs:List V} {d:PyData} {ds:List PyData}:DT H x d->DTs H xs ds->DTs H (x::xs) (d::ds)
end
mutual
theorem DT.same{H H':Hp}(e:Same H H'):∀{x:V} {d:PyData},DT H x d->DT H' x d
 |_,_,.non=>.non
 |_,_,.bl b=>.bl b
 |_,_,.int i=>.int i
 |_,_,.str z=>.str z
 |_,_,.tup h t=>.tup (e _ _ h) (DTs.same e t)
theorem DTs.same{H H':Hp}(e:Same H H'):∀{xs:List V} {ds:List PyData},DTs H xs ds->DTs H' xs ds
 |_,_,.nil=>.nil
 |_,_,.cons h t=>.cons (DT.same e h) (DTs.same e t)
end
mutual
theorem DT.dv{H:Hp}:∀{x:V} {d:PyData},DT H x d->DV H x d
 |_,_,.non=>.non
 |_,_,.bl b=>.bl b
 |_,_,.int i=>.int i
 |_,_,.str z=>.str z
 |_,_,.tup h t=>.tup (SqT.of h) (DTs.dv t)
theorem DTs.dv{H:Hp}:∀{xs:List V} {ds:List PyData},DTs H xs ds->DVs H xs ds
 |_,_,.nil=>.nil
 |_,_,.cons h t=>.cons (DT.dv h) (DTs.dv t)
end
section
variable {H:Hp}
theorem xAbp{v:V}{z:Str}(h:DT H v (.str z)):v=.str z:=by cases h;rfl
theorem xAqr{v:V}{i:Int}(h:DT H v (.int i)):v=.int i:=by cases h;rfl
theorem xAqs{v:V}(h:DT H v .none):v=.non:=by cases h;rfl
theorem dv_bl{v:V}{b:Bool}(h:DT H v (.bool b)):v=.bl b:=by cases h;rfl
theorem xAdd{v:V}{ds:List PyData}(h:DT H v (.tuple ds)):∃p xs,v=.ref p/\H p=some (.tup xs)/\DTs H xs ds:=by
 cases h with
 |tup a b=>exact⟨_,_,rfl,a,b⟩
theorem xAdc:∀{xs:List V} {ds:List PyData},DTs H xs ds->xs.length=ds.length
 |_,_,.nil=>rfl
 |_,_,.cons _ t=>by rw[qy,qy,xAdc t]
theorem xAiz:∀{xs:List V} {ds:List PyData} {i:Nat} {x:V},DTs H xs ds->xs[i]?=some x->∃d,ds[i]?=some d/\DT H x d
 |_,_,0,_,.cons h _,e=>by cases e;exact⟨_,rfl,h⟩
 |_,_,i+1,_,.cons _ t,e=>by
  obtain⟨d,a,b⟩:=xAiz (i:=i) t (by simpa using e);exact⟨d,by simpa using a,b⟩
end
theorem tup_ne{H:Hp}{a b:Addr}{xs:List V}{o:HO}(ha:H a=some (.tup xs))(hb:H b=some o)(ho:∀ys,o≠.tup ys):a≠b:=fun e=>by
 subst e;rw[ha]at hb;exact ho xs (Option.some.inj hb).symm
mutual
theorem DT.wr{H:Hp}{a:Addr}{o o':HO}(e:H a=some o)(ho:∀ys,o≠.tup ys):∀{x:V} {d:PyData},DT H x d->DT (upd H a o') x d
 |_,_,.non=>.non
 |_,_,.bl b=>.bl b
 |_,_,.int i=>.int i
 |_,_,.str z=>.str z
 |_,_,.tup h t=>.tup (by rw[xAal (tup_ne h e ho)];exact h) (DTs.wr e ho t)
theorem DTs.wr{H:Hp}{a:Addr}{o o':HO}(e:H a=some o)(ho:∀ys,o≠.tup ys):∀{xs:List V} {ds:List PyData},DTs H xs ds->DTs (upd H a o') xs ds
 |_,_,.nil=>.nil
 |_,_,.cons h t=>.cons (DT.wr e ho h) (DTs.wr e ho t)
end
theorem DTs.snoc{H:Hp}{x:V}{d:PyData}:∀{xs:List V} {ds:List PyData},DTs H xs ds->DT H x d->DTs H (xs++[x]) (ds++[d])
 |_,_,.nil,h=>.cons h .nil
 |_,_,.cons a t,h=>.cons a (DTs.snoc t h)
def IsW(z:Str):Prop:=0<z.cps.size/\z.cps.size≤8/\∀c∈z.cps.toList,97≤c/\c≤122
def NameD(ws:List Str)(ds:List PyData):Prop:=∃w n,ds=[.str w,.int n]/\w∈ws/\1≤n/\n≤1000000
def PartD(ws:List Str)(ds:List PyData):Prop:=ds=[.str "",.int 0]\/NameD ws ds
def SnD(ws:List Str)(ds:List PyData):Prop:=∃w n i,ds=[.str w,.int n,.int i]/\w∈ws/\1≤n/\n≤1000000/\0≤i/\i≤1000000
def SideD(ws:List Str)(d:PyData):Prop:=∃ds z,d=.tuple [.tuple ds,.str z]/\SnD ws ds/\(z = "ahead" \/ z = "behind")
def SignD(ws:List Str)(d:PyData):Prop:=(∃c,d=.str ⟨#[c]⟩/\c∈("abcdefghijklmnopqrstuvwxyz .,":Str).cps.toList)\/(∃z,d=.tuple [.str "picture",.str z]/\IsW z)\/∃ds,d=.tuple [.str "refer",.tuple ds]/\PartD ws ds
def BrD(ws:List Str)(d:PyData):Prop:=d=.none\/∃w z,d=.tuple [.str w,.str z]/\w∈ws/\IsW z
def OrD(P:List PyData->Prop)(d:PyData):Prop:=d=.none\/∃n,d=.tuple n/\P n
def WnD(d:PyData):Prop:=d=.none\/∃z,d=.str z/\IsW z
inductive WhatD(ws:List Str)(num:Int):List PyData->Prop
 |nothing:WhatD ws num [.str "nothing"]
 |part (p:List PyData):PartD ws p->WhatD ws num [.str "part",.tuple p]
 |move (n p:List PyData):NameD ws n->PartD ws p->WhatD ws num [.str "move",.tuple n,.tuple p]
 |cut (n:List PyData):NameD ws n->WhatD ws num [.str "cut",.tuple n]
 |put (p:List PyData) (b:PyData) (sg:List PyData):PartD ws p->OrD (SnD ws) b->1≤sg.length->sg.length≤12->(∀d∈sg,SignD ws d)->WhatD ws num [.str "put",.tuple p,b,.tuple sg]
 |out (p:List PyData) (ns:List (List PyData)):PartD ws p->1≤ns.length->ns.length≤12->(∀n∈ns,SnD ws n)->ns.Nodup->WhatD ws num [.str "out",.tuple p,.tuple (ns.map .tuple)]
 |mark (p:List PyData) (s1 s2:PyData) (z:Str) (v:PyData):PartD ws p->SideD ws s1->SideD ws s2->IsW z->WnD v->WhatD ws num [.str "mark",.tuple p,s1,s2,.str z,v]
 |note (p:List PyData) (s1 s2:PyData) (z:Str):PartD ws p->SideD ws s1->SideD ws s2->IsW z->WhatD ws num [.str "note",.tuple p,s1,s2,.str z]
 |line (p:List PyData) (z:Str) (v:PyData):PartD ws p->z = "row" \/ z = "column"->OrD (NameD ws) v->WhatD ws num [.str "line",.tuple p,.str z,v]
 |strike (p n:List PyData):PartD ws p->NameD ws n->WhatD ws num [.str "strike",.tuple p,.tuple n]
 |cell (p a b:List PyData) (z:Str):PartD ws p->NameD ws a->NameD ws b->z = "" \/ IsW z->WhatD ws num [.str "cell",.tuple p,.tuple a,.tuple b,.str z]
 |leave (p:List PyData) (w t:Str) (y:Bool):PartD ws p->w∈ws->t∈(["read","note","write","give"]:List Str)->WhatD ws num [.str "leave",.tuple p,.str w,.str t,.bool y]
 |back (k:Str) (n:Int):k = "back" \/ k = "again"->1≤n->n<num->WhatD ws num [.str k,.int n]
 |bring (k:Str) (z:Str):k = "bring" \/ k = "drop"->IsW z->WhatD ws num [.str k,.str z]
 |pour (cs:List Int):cs.length=ws.length->(∀c∈cs,0≤c/\c≤1000000)->WhatD ws num [.str "pour",.tuple (cs.map .int)]
theorem xAbd{z:Str}(h:IsW z):z≠"":=fun e=>by
 have:=h.1;rw[e]at this;exact absurd this (by decide)
theorem xAao{z:Str}(h:IsW z):z.length≤8:=h.2.1
theorem xAbt{z:Str}(h:IsW z):PyData.strOk z=true:=by
 unfold PyData.strOk;rw[←Array.all_toList,zg];intro c hc;have:=h.2.2 c hc;exact decide_eq_true (by omega)
mutual
def noB:PyData->Bool
 |.none=>true
 |.bool _=>false
 |.int _=>true
 |.str _=>true
 |.list xs=>noBs xs
 |.tuple xs=>noBs xs
 |.dict _=>false
def noBs:List PyData->Bool
 |[]=>true
 |x::xs=>noB x&&noBs xs
end
mutual
theorem xAez:∀(a b:PyData),noB a=true->noB b=true->(PyData.eqv a b=true↔a=b)
 |.list xs,b,ha,hb=>by
  cases b with
  |list ys =>
   have:=xAfv xs ys (by simpa[noB] using ha) (by simpa[noB] using hb)
   simp only[PyData.eqv,this,PyData.list.injEq]
  |_=>simp[PyData.eqv]
 |.tuple xs,b,ha,hb=>by
  cases b with
  |tuple ys =>
   have:=xAfv xs ys (by simpa[noB] using ha) (by simpa[noB] using hb)
   simp only[PyData.eqv,this,PyData.tuple.injEq]
  |_=>simp[PyData.eqv]
 |.dict _,_,ha,_=>by simp[noB]at ha
 |.bool _,_,ha,_=>by simp[noB]at ha
 |.none,b,_,hb=>by cases b <;> simp_all [PyData.eqv,noB]
 |.int i,b,_,hb=>by cases b <;> simp_all [PyData.eqv,noB]
 |.str i,b,_,hb=>by cases b <;> simp_all [PyData.eqv,noB]
theorem xAfv:∀(xs ys:List PyData),noBs xs=true->noBs ys=true->(PyData.eqvAll xs ys=true↔xs=ys)
 |[],ys,_,_=>by cases ys <;> simp[PyData.eqvAll]
 |x::xs,ys,ha,hb=>by
  cases ys with
  |nil=>simp[PyData.eqvAll]
  |cons y ys =>
   rw[noBs,qr]at ha hb;have h1:=xAez x y ha.1 hb.1;have h2:=xAfv xs ys ha.2 hb.2
   simp only[PyData.eqvAll,Bool.and_eq_true,h1,h2,List.cons.injEq]
end
theorem xAja:∀{xs:List PyData},(∀x∈xs,x.canLay0=true)->PyData.canLayAll0 xs=true
 |[],_=>rfl
 |x::xs,h=>by
  show(x.canLay0&&PyData.canLayAll0 xs)=true;rw[h x qm,xAja fun y hy=>h y (qk _ hy)];rfl
theorem xAqt{ds:List PyData}{d:PyData}(h:∀x∈ds,noB x=true)(hd:noB d=true):(ds.any fun x=>PyData.eqv x d)=true↔d∈ds:=by
 rw[jn];constructor
 ·rintro⟨x,hx,e⟩
  rw[←(xAez x d (h x hx) hd).mp e];exact hx
 ·intro hm
  exact⟨d,hm,(xAez d d hd hd).mpr rfl⟩
theorem SnD.plain{ws:List Str}(hw:∀w∈ws,IsW w){ds:List PyData}(h:SnD ws ds):noB (.tuple ds)=true/\(PyData.tuple ds).canLay0=true/\(PyData.tuple ds).depth=1:=by
 obtain⟨w,n,i,rfl,m,_⟩:=h;refine⟨rfl,?_,rfl⟩;show(PyData.strOk w&&(true&&(true&&true)))=true;rw[xAbt (hw w m)];rfl
theorem xAnq{xs:List V}{b:Int}(h1:1≤b)(h2:b≤12)(hx:1≤xs.length):1≤(cutV xs none (some b)).length/\(cutV xs none (some b)).length≤12:=by
 obtain⟨k,rfl⟩:=Int.eq_ofNat_of_zero_le (by omega:0≤b);unfold cutV;rw[HT.sIx_nat,HT.sIx_none,vz,zw];omega
theorem xAgw{xs:List V}{k:Nat}(h:k≤xs.length):(cutV xs none (some (k:Int))).length=k:=by
 unfold cutV;rw[HT.sIx_nat,HT.sIx_none,vz,zw];omega
theorem dts_ints(H:Hp):∀cs:List Int,DTs H (cs.map V.int) (cs.map .int)
 |[]=>.nil
 |c::cs=>.cons (.int c) (dts_ints H cs)
theorem nd_add{α:Type}{l:List α}{x:α}(h:l.Nodup)(hx:x∉l):(l++[x]).Nodup :=
 List.nodup_append.mpr ⟨h,zv.mpr ⟨fun z=>(List.not_mem_nil z).elim,vn⟩,fun a ha b hb e=>hx (by rw[zd.mp hb]at e;rw[←e];exact ha)⟩
end L2
set_option maxHeartbeats 40000000
namespace Hs
open PySem L2 PyProof.Rows
structure Dd where
 who:Nat
 num:Nat
 hd:List Nat
 br:PyData
 wt:List PyData
abbrev at0(l:List Nat)(k:Nat):Nat:=l.getD k 0
abbrev rowOf(kn:List (List Nat))(i:Nat):List Nat:=kn.getD i []
def Cov(m:Nat)(ds:List Dd)(row:List Nat):Prop:=∀j k,j<m->1≤k->k≤at0 row j->∃e∈ds,e.who=j/\e.num=k/\∀i,i<m->at0 e.hd i≤at0 row i
structure Wh(m:Nat)(ds:List Dd):Prop where
 who:∀d∈ds,d.who<m
 len:∀d∈ds,d.hd.length=m
 own:∀d∈ds,at0 d.hd d.who+1=d.num
 uniq:ds.Pairwise fun a b=>¬(a.who=b.who/\a.num=b.num)
 past:∀d∈ds,Cov m ds d.hd
structure Kn(m:Nat)(ds:List Dd)(kn:List (List Nat)):Prop where
 len:kn.length=m
 row:∀i,i<m->(rowOf kn i).length=m
 cov:∀i,i<m->Cov m ds (rowOf kn i)
 cnt:∀d∈ds,d.num≤at0 (rowOf kn d.who) d.who
theorem getD_set_self{α:Type}{l:List α}{i:Nat}{x d:α}(h:i<l.length):(l.set i x).getD i d=x:=by
 rw[we,yt h];rfl
theorem xAat{α:Type}{l:List α}{i j:Nat}{x d:α}(h:i≠j):(l.set i x).getD j d=l.getD j d:=by
 rw[we,vk h,←we]
theorem getD_range{m a:Nat}(f:Nat->Nat)(h:a<m):at0 ((List.range m).map f) a=f a:=by
 unfold at0;rw[we,zh,j3 h];rfl
theorem Cov.mono{m:Nat}{ds ds':List Dd}{row:List Nat}(c:Cov m ds row)(h:∀d∈ds,d∈ds'):Cov m ds' row:=fun j k h1 h2 h3 =>
 let⟨e,he,r⟩:=c j k h1 h2 h3
 ⟨e,h e he,r⟩
def merged(m:Nat)(row theirs:List Nat)(o t:Nat):List Nat:=((List.range m).map fun a=>max (at0 row a) (at0 theirs a)).set o (max (max (at0 row o) (at0 theirs o)) t)
theorem xAjb(m:Nat)(row theirs:List Nat)(o t:Nat):(merged m row theirs o t).length=m:=by unfold merged;simp
theorem xAep{m:Nat}{row theirs:List Nat}{o t i:Nat}(hi:i<m)(ho:o<m):at0 (merged m row theirs o t) i=if i=o then max (max (at0 row o) (at0 theirs o)) t else max (at0 row i) (at0 theirs i):=by
 unfold merged
 by_cases e:i=o
 ·subst e
  rw[if_pos rfl];exact getD_set_self (by simpa using hi)
 ·rw[if_neg e]
  show((((List.range m).map fun a=>max (at0 row a) (at0 theirs a)).set o _).getD i 0)=_;rw[xAat (fun z=>e z.symm)];exact getD_range _ hi
theorem xAjc{m:Nat}{ds:List Dd}{row:List Nat}{e:Dd}(W:Wh m ds)(c:Cov m ds row)(he:e∈ds):Cov m ds (merged m row e.hd e.who e.num):=by
 have ho:=W.who e he
 have up:∀i,i<m->at0 row i≤at0 (merged m row e.hd e.who e.num) i/\at0 e.hd i≤at0 (merged m row e.hd e.who e.num) i:=fun i hi=>by
  rw[xAep hi ho]
  split
  ·rename_i q
   subst q;omega
  ·omega
 intro j k hj h1 h2;rw[xAep hj ho]at h2
 have old:k≤at0 row j->∃e'∈ds,e'.who=j/\e'.num=k/\∀i,i<m->at0 e'.hd i≤at0 (merged m row e.hd e.who e.num) i:=fun h=>by
  obtain⟨e',m',a,b,f⟩:=c j k hj h1 h;exact⟨e',m',a,b,fun i hi=>qf (f i hi) (up i hi).1⟩
 have new:k≤at0 e.hd j->∃e'∈ds,e'.who=j/\e'.num=k/\∀i,i<m->at0 e'.hd i≤at0 (merged m row e.hd e.who e.num) i:=fun h=>by
  obtain⟨e',m',a,b,f⟩:=W.past e he j k hj h1 h;exact⟨e',m',a,b,fun i hi=>qf (f i hi) (up i hi).2⟩
 split at h2
 ·rename_i q
  by_cases q1:k≤at0 row j
  ·exact old q1
  ·by_cases q2:k≤at0 e.hd j
   ·exact new q2
   ·have q3:k≤e.num:=by rw[←q]at h2;omega
    have q4:=W.own e he
    have q5:k=e.num:=by rw[q]at q2;omega
    exact⟨e,he,q.symm,q5.symm,fun i hi=>(up i hi).2⟩
 ·by_cases q1:k≤at0 row j
  ·exact old q1
  ·exact new (by omega)
theorem Kn.le{m:Nat}{ds:List Dd}{kn:List (List Nat)}(K:Kn m ds kn){row:List Nat}(c:Cov m ds row){j:Nat}(hj:j<m):at0 row j≤at0 (rowOf kn j) j:=by
 by_cases h:1≤at0 row j
 ·obtain⟨e,he,a,b,_⟩:=c j _ hj h (qd _)
  have:=K.cnt e he;rw[a,b]at this;exact this
 ·omega
theorem Kn.has{m:Nat}{ds:List Dd}{kn:List (List Nat)}(K:Kn m ds kn){j k:Nat}(hj:j<m)(h1:1≤k)(h2:k≤at0 (rowOf kn j) j):∃e∈ds,e.who=j/\e.num=k :=
 let⟨e,he,a,b,_⟩:=K.cov j hj j k hj h1 h2
 ⟨e,he,a,b⟩
theorem Kn.merge{m:Nat}{ds:List Dd}{kn:List (List Nat)}{i:Nat}{e:Dd}(W:Wh m ds)(K:Kn m ds kn)(hi:i<m)(he:e∈ds)(hg:at0 (rowOf kn i) e.who<e.num):Kn m ds (kn.set i (merged m (rowOf kn i) e.hd e.who e.num)):=by
 have ho:=W.who e he
 have hl:i<kn.length:=by rw[K.len];exact hi
 have c:=xAjc W (K.cov i hi) he
 have ne:i≠e.who:=fun z=>by
  have:=K.cnt e he;rw[←z]at this hg;omega
 have own:at0 (merged m (rowOf kn i) e.hd e.who e.num) i=at0 (rowOf kn i) i:=by
  rw[xAep hi ho,if_neg ne];have:=K.le (W.past e he) hi;omega
 refine⟨by rw[wg];exact K.len,fun j hj=>?_,fun j hj=>?_,fun d hd=>?_⟩
 ·by_cases q:i=j
  ·subst q
   show((kn.set i _).getD i []).length=m;rw[getD_set_self hl];exact xAjb _ _ _ _ _
  ·show((kn.set i _).getD j []).length=m
   rw[xAat q];exact K.row j hj
 ·by_cases q:i=j
  ·subst q
   show Cov m ds ((kn.set i _).getD i []);rw[getD_set_self hl];exact c
  ·show Cov m ds ((kn.set i _).getD j [])
   rw[xAat q];exact K.cov j hj
 ·by_cases q:i=d.who
  ·show d.num≤at0 ((kn.set i _).getD d.who []) d.who
   rw[←q,getD_set_self hl,own,q];exact K.cnt d hd
  ·show d.num≤at0 ((kn.set i _).getD d.who []) d.who
   rw[xAat q];exact K.cnt d hd
def nextD(kn:List (List Nat))(i:Nat)(br:PyData)(wt:List PyData):Dd:=⟨i,at0 (rowOf kn i) i+1,rowOf kn i,br,wt⟩
theorem Wh.next{m:Nat}{ds:List Dd}{kn:List (List Nat)}{i:Nat}{br:PyData}{wt:List PyData}(W:Wh m ds)(K:Kn m ds kn)(hi:i<m):Wh m (ds++[nextD kn i br wt]):=by
 have sub:∀d∈ds,d∈ds++[nextD kn i br wt]:=fun d hd=>vf _ hd
 have two:∀{P:Dd->Prop},(∀d∈ds,P d)->P (nextD kn i br wt)->∀d∈ds++[nextD kn i br wt],P d:=fun h1 h2 d hd=>by
  rcases q0.mp hd with q|q
  ·exact h1 d q
  ·rw[zd.mp q];exact h2
 refine⟨two W.who hi,two W.len (K.row i hi),two W.own rfl,?_,two (fun d hd=>(W.past d hd).mono sub) ((K.cov i hi).mono sub)⟩;refine List.pairwise_append.mpr ⟨W.uniq,List.pairwise_singleton _ _,fun a ha b hb z=>?_⟩;rw[zd.mp hb]at z;have:=K.cnt a ha;rw[z.1,z.2]at this;show False;have q:(nextD kn i br wt).num=at0 (rowOf kn i) i+1:=rfl;have q2:(nextD kn i br wt).who=i:=rfl;rw[q,q2]at this;omega
theorem Kn.next{m:Nat}{ds:List Dd}{kn:List (List Nat)}{i:Nat}{br:PyData}{wt:List PyData}(W:Wh m ds)(K:Kn m ds kn)(hi:i<m):Kn m (ds++[nextD kn i br wt]) (kn.set i ((rowOf kn i).set i (at0 (rowOf kn i) i+1))):=by
 have sub:∀d∈ds,d∈ds++[nextD kn i br wt]:=fun d hd=>vf _ hd
 have hl:i<kn.length:=by rw[K.len];exact hi
 have hr:i<(rowOf kn i).length:=by rw[K.row i hi];exact hi
 have up:∀a,at0 (rowOf kn i) a≤at0 ((rowOf kn i).set i (at0 (rowOf kn i) i+1)) a:=fun a=>by
  by_cases q:i=a
  ·subst q
   show _≤((rowOf kn i).set i _).getD i 0;rw[getD_set_self hr];omega
  ·show _≤((rowOf kn i).set i _).getD a 0
   rw[xAat q];exact qd _
 refine⟨by rw[wg];exact K.len,fun j hj=>?_,fun j hj=>?_,fun d hd=>?_⟩
 ·by_cases q:i=j
  ·subst q
   show((kn.set i _).getD i []).length=m;rw[getD_set_self hl,wg];exact K.row i hi
  ·show((kn.set i _).getD j []).length=m
   rw[xAat q];exact K.row j hj
 ·by_cases q:i=j
  ·subst q
   show Cov m _ ((kn.set i _).getD i []);rw[getD_set_self hl];intro a k ha h1 h2
   by_cases r:k≤at0 (rowOf kn i) a
   ·obtain⟨e,he,x,y,f⟩:=K.cov i hi a k ha h1 r
    exact⟨e,sub e he,x,y,fun b hb=>qf (f b hb) (up b)⟩
   ·have ra:i=a:=Classical.byContradiction fun z=>by
     have h3:k≤((rowOf kn i).set i (at0 (rowOf kn i) i+1)).getD a 0:=h2;rw[xAat z]at h3;exact r h3
    subst ra;have h3:k≤((rowOf kn i).set i (at0 (rowOf kn i) i+1)).getD i 0:=h2;rw[getD_set_self hr]at h3;exact⟨nextD kn i br wt,zr _ (zd.mpr rfl),rfl,by show at0 (rowOf kn i) i+1=k;omega,fun b _=>up b⟩
  ·show Cov m _ ((kn.set i _).getD j [])
   rw[xAat q];exact(K.cov j hj).mono sub
 ·rcases q0.mp hd with q|q
  ·have:=K.cnt d q
   by_cases r:i=d.who
   ·show d.num≤at0 ((kn.set i _).getD d.who []) d.who
    rw[←r,getD_set_self hl];rw[←r]at this;exact qf this (up i)
   ·show d.num≤at0 ((kn.set i _).getD d.who []) d.who
    rw[xAat r];exact this
  ·rw[zd.mp q]
   show at0 (rowOf kn i) i+1≤at0 ((kn.set i _).getD i []) i;rw[getD_set_self hl];show _≤((rowOf kn i).set i _).getD i 0;rw[getD_set_self hr];exact qd _
theorem Kn.start(m:Nat):Kn m [] (List.replicate m (List.replicate m 0))/\Wh m []:=by
 have z:∀i j,at0 (rowOf (List.replicate m (List.replicate m 0)) i) j=0:=fun i j=>by
  unfold at0 rowOf;rw[we,we,yc]
  split
  ·show((List.replicate m 0)[j]?).getD 0=0
   rw[yc]
   split <;> rfl
  ·rfl
 refine⟨⟨by simp,fun i hi=>?_,fun i hi j k _ h1 h2=>?_,(fun d hd=>nomatch hd)⟩,⟨(fun d hd=>nomatch hd),(fun d hd=>nomatch hd),(fun d hd=>nomatch hd),List.Pairwise.nil,(fun d hd=>nomatch hd)⟩⟩
 ·unfold rowOf
  rw[we,yc,if_pos hi]
  simp
 ·rw[z]at h2
  omega
theorem xAqu{α:Type}:∀{l:List α} {i j:Nat} {x:α},l.Nodup->l[i]?=some x->l[j]?=some x->i=j
 |[],_,_,_,_,h,_=>nomatch h
 |a::l,0,0,_,_,_,_=>rfl
 |a::l,0,j+1,x,nd,h1,h2=>by
  cases h1;exact absurd (List.mem_of_getElem? (by simpa using h2)) (List.nodup_cons.mp nd).1
 |a::l,i+1,0,x,nd,h1,h2=>by
  cases h2;exact absurd (List.mem_of_getElem? (by simpa using h1)) (List.nodup_cons.mp nd).1
 |a::l,i+1,j+1,x,nd,h1,h2=>congrArg (·+1) (xAqu (List.nodup_cons.mp nd).2 (by simpa using h1) (by simpa using h2))
theorem xAgx{α:Type}:∀{l:List α} {i:Nat} {x:α},l.Nodup->x∉l->(l.set i x).Nodup
 |[],_,_,nd,_=>nd
 |a::l,0,x,nd,h=>zv.mpr ⟨fun m=>h (qk _ m),(zv.mp nd).2⟩
 |a::l,i+1,x,nd,h=>zv.mpr ⟨fun m=>by
   rcases y0 m with m|m
   ·exact(zv.mp nd).1 m
   ·exact h (by rw[m];exact qm),xAgx (zv.mp nd).2 fun m=>h (qk _ m)⟩
abbrev nV(n:Nat):V:=.int (n:Int)
abbrev rowV(r:List Nat):List V:=r.map nV
def keyD(d:Dd):List Key:=[.inl (d.who:Int),.inl (d.num:Int)]
def DeedAt(H:Hp)(ws:List Str)(v:V)(d:Dd):Prop:=∃q w hq b x,v=.ref q/\ws[d.who]?=some w/\H q=some (.tup [.str w,nV d.num,.ref hq,b,x])/\H hq=some (.tup (rowV d.hd))/\DT H b d.br/\DT H x (.tuple d.wt)
theorem DeedAt.mono{H H':Hp}{ws:List Str}{v:V}{d:Dd}(h:DeedAt H ws v d)(s:Same H H'):DeedAt H' ws v d:=by
 obtain⟨q,w,hq,b,x,e,h1,h2,h3,h4,h5⟩:=h;exact⟨q,w,hq,b,x,e,h1,s _ _ h2,s _ _ h3,h4.same s,h5.same s⟩
theorem xAfa{H:Hp}{a b:Addr}{xs:List V}{o:HO}(ha:H a=some (.tup xs))(hb:H b=some o)(ho:∀ys,o≠.tup ys):a≠b:=fun e=>by
 subst e;rw[ha]at hb;exact ho xs (Option.some.inj hb).symm
theorem DeedAt.wr{H:Hp}{ws:List Str}{v:V}{d:Dd}{a:Addr}{o o':HO}(h:DeedAt H ws v d)(e:H a=some o)(ho:∀ys,o≠.tup ys):DeedAt (upd H a o') ws v d:=by
 obtain⟨q,w,hq,b,x,e1,h1,h2,h3,h4,h5⟩:=h;exact⟨q,w,hq,b,x,e1,h1,by rw[xAal (xAfa h2 e ho)];exact h2,by rw[xAal (xAfa h3 e ho)];exact h3,h4.wr e ho,h5.wr e ho⟩
def Deeds(H:Hp)(ws:List Str)(des:List V)(ds:List Dd):Prop:=des.length=ds.length/\∀(i:Nat) (d:Dd),ds[i]?=some d->∃v,des[i]?=some v/\DeedAt H ws v d
theorem Deeds.mono{H H':Hp}{ws:List Str}{des:List V}{ds:List Dd}(h:Deeds H ws des ds)(s:Same H H'):Deeds H' ws des ds:=⟨h.1,fun i d e=>let⟨v,a,b⟩:=h.2 i d e;⟨v,a,b.mono s⟩⟩
theorem Deeds.wr{H:Hp}{ws:List Str}{des:List V}{ds:List Dd}{a:Addr}{o o':HO}(h:Deeds H ws des ds)(e:H a=some o)(ho:∀ys,o≠.tup ys):Deeds (upd H a o') ws des ds:=⟨h.1,fun i d e'=>let⟨v,x,b⟩:=h.2 i d e';⟨v,x,b.wr e ho⟩⟩
theorem Deeds.snoc{H:Hp}{ws:List Str}{des:List V}{ds:List Dd}{v:V}{d:Dd}(h:Deeds H ws des ds)(hd:DeedAt H ws v d):Deeds H ws (des++[v]) (ds++[d]):=by
 refine⟨by simp[h.1],fun i d' e=>?_⟩
 by_cases hi:i<ds.length
 ·rw[yh hi]at e
  obtain⟨x,h1,h2⟩:=h.2 i d' e;exact⟨x,by rw[yh (by rw[h.1];exact hi)];exact h1,h2⟩
 ·rw[jo (by omega)]at e
  have hi2:i - ds.length=0:=by
   have:=(zf.mp e).1
   simp at this
   omega
  rw[hi2]at e;cases e;exact⟨v,by rw[jo (by rw[h.1];omega),h.1,hi2];rfl,hd⟩
structure HSt(H0 H:Hp)(kp tp dp:Addr)(ws:List Str)(kn:List (List Nat))(td ds:List Dd)(ks:List Addr)(kvs:List (List Key×V))(des:List V):Prop where
 same:Same H0 H
 kat:H kp=some (.lst (ks.map V.ref))
 klen:ks.length=kn.length
 rows:∀i k,ks[i]?=some k->H k=some (.lst (rowV (rowOf kn i)))
 nd:ks.Nodup
 kk:kp∉ks
 kd:kp≠dp
 dk:dp∉ks
 fk:H0 kp=none
 ft:H0 tp=none
 fd:H0 dp=none
 fr:∀k∈ks,H0 k=none
 tat:H tp=some (.dT kvs)
 tab:∀d∈td,∃q,valV kvs (keyD d)=some (.ref q)/\H q=some (.lst (rowV d.hd))/\q≠kp/\q≠dp/\q∉ks
 tlen:kvs.length≤td.length
 dat:H dp=some (.lst des)
 deeds:Deeds H ws des ds
section
variable {H0 H H':Hp}{kp tp dp:Addr}{ws:List Str}{kn:List (List Nat)}{td ds:List Dd}{ks:List Addr}{kvs:List (List Key×V)}{des:List V}
theorem HSt.mono(h:HSt H0 H kp tp dp ws kn td ds ks kvs des)(s:Same H H'):HSt H0 H' kp tp dp ws kn td ds ks kvs des where
 same:=h.same.trans s
 kat:=s _ _ h.kat
 klen:=h.klen
 rows:=fun i k e=>s _ _ (h.rows i k e)
 nd:=h.nd
 kk:=h.kk
 kd:=h.kd
 dk:=h.dk
 fk:=h.fk
 ft:=h.ft
 fd:=h.fd
 fr:=h.fr
 tat:=s _ _ h.tat
 tab:=fun d hd=>let⟨q,a,b,c⟩:=h.tab d hd;⟨q,a,s _ _ b,c⟩
 tlen:=h.tlen
 dat:=s _ _ h.dat
 deeds:=h.deeds.mono s
theorem HSt.tk(h:HSt H0 H kp tp dp ws kn td ds ks kvs des){k:Addr}(hk:k∈ks):tp≠k:=fun e=>by
 obtain⟨i,hi,e2⟩:=wm.mp hk;have:=h.rows i k (by rw[qj hi,e2]);rw[←e,h.tat]at this;cases this
theorem HSt.tkp(h:HSt H0 H kp tp dp ws kn td ds ks kvs des):tp≠kp:=fun e=>by
 have:=h.kat;rw[←e,h.tat]at this;cases this
theorem HSt.tdp(h:HSt H0 H kp tp dp ws kn td ds ks kvs des):tp≠dp:=fun e=>by
 have:=h.dat;rw[←e,h.tat]at this;cases this
theorem xAjd{xs:List V}:∀ys,(HO.lst xs)≠.tup ys:=fun ys e=>by cases e
theorem dt_tup{xs:List (List Key×V)}:∀ys,(HO.dT xs)≠.tup ys:=fun ys e=>by cases e
theorem HSt.row(h:HSt H0 H kp tp dp ws kn td ds ks kvs des){i:Nat}{k:Addr}{r:List Nat}(e:ks[i]?=some k):HSt H0 (upd H k (.lst (rowV r))) kp tp dp ws (kn.set i r) td ds ks kvs des:=by
 have hm:k∈ks:=qz e;have hi:i<ks.length:=(zf.mp e).1;refine⟨h.same.wr (h.fr k hm),?_,by rw[wg];exact h.klen,fun j k' e'=>?_,h.nd,h.kk,h.kd,h.dk,h.fk,h.ft,h.fd,h.fr,?_,fun d hd=>?_,h.tlen,?_,h.deeds.wr (h.rows i k e) xAjd⟩
 ·rw[xAal (fun z=>h.kk (by rw[z];exact hm))];exact h.kat
 ·by_cases q:i=j
  ·subst q
   have:k'=k:=by rw[e]at e';exact(Option.some.inj e').symm
   subst this;rw[xAaf];show _=some (HO.lst (rowV ((kn.set i r).getD i [])));rw[getD_set_self (by rw[←h.klen];exact hi)]
  ·have hne:k'≠k:=fun z=>by
    subst z;exact q (xAqu h.nd e e')
   rw[xAal hne];show _=some (HO.lst (rowV ((kn.set i r).getD j [])));rw[xAat q];exact h.rows j k' e'
 ·rw[xAal (h.tk hm)];exact h.tat
 ·obtain⟨q,a,b,c1,c2,c3⟩:=h.tab d hd
  exact⟨q,a,by rw[xAal (fun z=>c3 (by rw[z];exact hm))];exact b,c1,c2,c3⟩
 ·rw[xAal (fun z=>h.dk (by rw[z];exact hm))];exact h.dat
theorem HSt.swap(h:HSt H0 H kp tp dp ws kn td ds ks kvs des){i:Nat}{p:Addr}{r:List Nat}(hi:i<kn.length)(hp:H p=none):HSt H0 (upd (upd H p (.lst (rowV r))) kp (.lst ((ks.set i p).map V.ref))) kp tp dp ws (kn.set i r) td ds (ks.set i p) kvs des:=by
 have g:=h.mono (Same.new (o:=.lst (rowV r)) hp)
 have hi':i<ks.length:=by rw[h.klen];exact hi
 have ne:∀{a o},H a=some o->p≠a:=fun e z=>by subst z;rw[hp]at e;cases e
 have pk:p∉ks:=fun m=>by
  obtain⟨j,hj,e2⟩:=wm.mp m;exact ne (h.rows j p (by rw[qj hj,e2])) rfl
 have mem:∀{x},x∈ks.set i p->x∈ks\/x=p:=fun m=>y0 m
 have h0:H0 p=none:=by
  cases e:H0 p with
  |none=>rfl
  |some o=>rw[h.same _ _ e]at hp;cases hp
 refine⟨g.same.wr h.fk,xAaf,by rw[wg,wg];exact h.klen,fun j k' e'=>?_,?_,fun m=>?_,h.kd,fun m=>?_,h.fk,h.ft,h.fd,fun k m=>?_,?_,fun d hd=>?_,h.tlen,?_,g.deeds.wr g.kat xAjd⟩
 ·by_cases q:i=j
  ·subst q
   rw[yt hi']at e';cases e';rw[xAal (ne h.kat),xAaf];show _=some (HO.lst (rowV ((kn.set i r).getD i [])));rw[getD_set_self hi]
  ·rw[vk q]at e'
   have hm:k'∈ks:=qz e';rw[xAal (fun z=>h.kk (by rw[←z];exact hm))];show _=some (HO.lst (rowV ((kn.set i r).getD j [])));rw[xAat q];exact g.rows j k' e'
 ·exact xAgx h.nd pk
 ·rcases mem m with m|m
  ·exact h.kk m
  ·exact ne h.kat m.symm
 ·rcases mem m with m|m
  ·exact h.dk m
  ·exact ne h.dat m.symm
 ·rcases mem m with m|m
  ·exact h.fr k m
  ·rw[m];exact h0
 ·rw[xAal h.tkp];exact g.tat
 ·obtain⟨q,a,b,c1,c2,c3⟩:=h.tab d hd
  refine⟨q,a,?_,c1,c2,fun m=>?_⟩
  ·rw[xAal c1,xAal (fun z=>ne b z.symm)];exact b
  ·rcases mem m with m|m
   ·exact c3 m
   ·exact ne b m.symm
 ·rw[xAal (fun z=>h.kd z.symm)];exact g.dat
theorem HSt.put(h:HSt H0 H kp tp dp ws kn td ds ks kvs des){d:Dd}{q:Addr}(hq:H q=some (.lst (rowV d.hd)))(q1:q≠kp)(q2:q≠dp)(q3:q∉ks)(un:∀e∈td,keyD e≠keyD d) :
  HSt H0 (upd H tp (.dT (putK kvs (keyD d) (.ref q)))) kp tp dp ws kn (td++[d]) ds ks (putK kvs (keyD d) (.ref q)) des:=by
 have qt:q≠tp:=fun z=>by subst z;rw[h.tat]at hq;cases hq
 refine⟨h.same.wr h.ft,?_,h.klen,fun i k e=>?_,h.nd,h.kk,h.kd,h.dk,h.fk,h.ft,h.fd,h.fr,xAaf,fun e he=>?_,?_,?_,h.deeds.wr h.tat dt_tup⟩
 ·rw[xAal (fun z=>h.tkp z.symm)];exact h.kat
 ·rw[xAal (fun z=>h.tk (qz e) z.symm)];exact h.rows i k e
 ·rcases q0.mp he with m|m
  ·obtain⟨q',a,b,c⟩:=h.tab e m
   refine⟨q',by rw[xAip,if_neg (un e m)];exact a,?_,c⟩;rw[xAal (fun z=>by subst z;rw[h.tat]at b;cases b)];exact b
  ·rw[zd.mp m]
   exact⟨q,by rw[xAip,if_pos rfl],by rw[xAal qt];exact hq,q1,q2,q3⟩
 ·have:=xAcw kvs (keyD d) (.ref q)
  have:=h.tlen;rw[ql,zm];omega
 ·rw[xAal (fun z=>h.tdp z.symm)];exact h.dat
theorem HSt.add(h:HSt H0 H kp tp dp ws kn td ds ks kvs des){d:Dd}{v:V}(hd:DeedAt H ws v d):HSt H0 (upd H dp (.lst (des++[v]))) kp tp dp ws kn td (ds++[d]) ks kvs (des++[v]):=by
 refine⟨h.same.wr h.fd,?_,h.klen,fun i k e=>?_,h.nd,h.kk,h.kd,h.dk,h.fk,h.ft,h.fd,h.fr,?_,fun e he=>?_,h.tlen,xAaf,(h.deeds.snoc hd).wr h.dat xAjd⟩
 ·rw[xAal h.kd];exact h.kat
 ·rw[xAal (fun z=>h.dk (by rw[←z];exact qz e))];exact h.rows i k e
 ·rw[xAal h.tdp];exact h.tat
 ·obtain⟨q,a,b,c1,c2,c3⟩:=h.tab e he
  exact⟨q,a,by rw[xAal c2];exact b,c1,c2,c3⟩
theorem HSt.retab{d d2:Dd}(h:HSt H0 H kp tp dp ws kn (td++[d]) ds ks kvs des)(e:keyD d2=keyD d)(e2:d2.hd=d.hd):HSt H0 H kp tp dp ws kn (td++[d2]) ds ks kvs des :=
 ⟨h.same,h.kat,h.klen,h.rows,h.nd,h.kk,h.kd,h.dk,h.fk,h.ft,h.fd,h.fr,h.tat,fun x hx=>by
  rcases q0.mp hx with m|m
  ·exact h.tab x (vf _ m)
  ·rw[zd.mp m,e,e2]
   exact h.tab d (zr _ (zd.mpr rfl)),by have:=h.tlen;rw[ql,zm]at this ⊢;exact this,h.dat,h.deeds⟩
theorem HSt.guard(h:HSt H0 H kp tp dp ws kn td ds ks kvs des){p:Addr}{o:HO}(hp:H p=none)(s:Same H H')(e:H' p=some o):HSt (upd H0 p o) H' kp tp dp ws kn td ds ks kvs des:=by
 have ne:∀{a u},H a=some u->a≠p:=fun{a u} e1 z=>by rw[z,hp]at e1;cases e1
 have g:=h.mono s;refine⟨fun b u q=>?_,g.kat,g.klen,g.rows,g.nd,g.kk,g.kd,g.dk,?_,?_,?_,fun k hk=>?_,g.tat,g.tab,g.tlen,g.dat,g.deeds⟩
 ·by_cases z:b=p
  ·subst z
   rw[xAaf]at q;rw[e];exact q
  ·rw[xAal z]at q
   exact g.same b u q
 ·rw[xAal (ne h.kat)];exact h.fk
 ·rw[xAal (ne h.tat)];exact h.ft
 ·rw[xAal (ne h.dat)];exact h.fd
 ·obtain⟨i,hi,e2⟩:=wm.mp hk
  rw[xAal (ne (h.rows i k (by rw[qj hi,e2])))];exact h.fr k hk
theorem HSt.weak{H1:Hp}(s:Same H0 H1)(h:HSt H1 H kp tp dp ws kn td ds ks kvs des):HSt H0 H kp tp dp ws kn td ds ks kvs des :=
 ⟨s.trans h.same,h.kat,h.klen,h.rows,h.nd,h.kk,h.kd,h.dk,s.free h.fk,s.free h.ft,s.free h.fd,fun k hk=>s.free (h.fr k hk),h.tat,h.tab,h.tlen,h.dat,h.deeds⟩
theorem HSt.rowAt(h:HSt H0 H kp tp dp ws kn td ds ks kvs des){i:Nat}(hi:i<kn.length):∃k,ks[i]?=some k/\H k=some (.lst (rowV (rowOf kn i)))/\atI (ks.map V.ref) (i:Int)=some (.ref k):=by
 have hi':i<ks.length:=by rw[h.klen];exact hi
 exact⟨ks[i],qj hi',h.rows i _ (qj hi'),xAak (by rw[zh,qj hi'];rfl)⟩
end
theorem atI_row{r:List Nat}{i:Nat}(h:i<r.length):atI (rowV r) (i:Int)=some (nV (at0 r i)):=xAak (by
 rw[zh,qj h];unfold at0
 rw[we,qj h];rfl)
theorem atI_0{α:Type}{xs:List α}{j:Nat}{v:α}(h:atI xs (j:Int)=some v):atI xs (0+(j:Int))=some v:=by rw[Int.zero_add];exact h
theorem ixN_nat{n i:Nat}(h:i<n):ixN n (i:Int)=some i:=by
 unfold ixN;rw[if_pos (by omega),if_pos (by omega)]
 simp
theorem rowV_set(r:List Nat)(i x:Nat):(rowV r).set i (nV x)=rowV (r.set i x):=by
 unfold rowV;rw[v0]
theorem max_nat(a b:Nat):(if(b:Int)>(a:Int) then(b:Int) else(a:Int))=((max a b:Nat):Int):=by
 split <;> omega
theorem flat_zero(m:Nat):(List.replicate ((m:Int).toNat) [V.int 0]).flatten=rowV (List.replicate m 0):=by
 rw[Int.toNat_natCast]
 induction m with
 |zero=>rfl
 |succ m ih =>
  rw[vg,yd,ih,vg];rfl
theorem keyD_ne{a b:Dd}(h:¬(a.who=b.who/\a.num=b.num)):keyD a≠keyD b:=fun e=>by
 unfold keyD at e;injection e with e1 e2;injection e2 with e2 _;injection e1 with e1;injection e2 with e2;exact h ⟨by omega,by omega⟩
theorem replicate_rows{m i:Nat}(h:i<m):rowOf (List.replicate m (List.replicate m 0)) i=List.replicate m 0:=by
 unfold rowOf;rw[we,yc,if_pos h];rfl
end Hs
namespace My
open PySem L2 PyProof.Rows
theorem szOk{n:Nat}(h:Nat.ble n 1000=true):n≤sizeLine:=qg (xAad (qp h))
theorem cm3{x m:Int}{j:Nat}(h0:0<m)(h1:m≤2147483647)(hj:j<31):-(2 ^ 64)<x % m+(0+(j:Int))+2/\x % m+(0+(j:Int))+2<2 ^ 64:=by
 have a:=xAbf x h0;have b:=xAbg x h0;omega
theorem xAqv:∀c∈("abcdefghijklmnopqrstuvwxyz":Str).cps.toList,97≤c/\c≤122:=by decide +kernel
theorem xAnr{α:Type}{xs:List α}{i:Int}{v:α}(h:atI xs i=some v):v∈xs:=by
 unfold atI at h
 cases e:ixN xs.length i with
 |none=>rw[e]at h;cases h
 |some j=>rw[e]at h;exact qz h
theorem xAcq(z:Str)(c:Nat):(z++⟨#[c]⟩:Str).cps.toList=z.cps.toList++[c]:=by
 show(z.cps++#[c]).toList=_
 simp
theorem cut7(z:Str):(cutS z none (some 7)).cps.toList=z.cps.toList.take 7:=by
 unfold cutS;show(z.cps.toList.drop 0).take (min 7 z.length - 0)=_;rw[vz,Nat.sub_zero]
 by_cases h:7≤z.length
 ·rw[y7 h]
 ·have hl:z.cps.toList.length=z.length:=by simp;rfl
  rw[Nat.min_eq_right (by omega),wu (by omega),wu (by omega)]
theorem xAow{z:Str}{c:Nat}(h:IsW z)(hc:97≤c/\c≤122):IsW (cutS z none (some 7)++⟨#[c]⟩):=by
 have e:(cutS z none (some 7)++⟨#[c]⟩:Str).cps.toList=z.cps.toList.take 7++[c]:=by rw[xAcq,cut7]
 have sz:(cutS z none (some 7)++⟨#[c]⟩:Str).cps.size=(z.cps.toList.take 7).length+1:=by rw[←zx,e,ql,zm]
 refine⟨by omega,?_,fun d hd=>?_⟩
 ·rw[sz,zw];omega
 ·rw[e]at hd
  rcases q0.mp hd with q|q
  ·exact h.2.2 d (y8 q)
  ·rw[zd.mp q];exact hc
theorem xAqw{z:Str}(h:IsW z):(PyData.str z).canLay0=true:=by
 show PyData.strOk z=true;unfold PyData.strOk;rw[←Array.all_toList,zg];intro c hc;have:=h.2.2 c hc;exact decide_eq_true (by omega)
structure RL(H:Hp)(p:Addr)(ws:List Str):Prop where
 at':H p=some (.lst (ws.map V.str))
 pos:0<ws.length
 few:ws.length≤6
 wd:∀w∈ws,IsW w
theorem RL.mono{H H':Hp}{p:Addr}{ws:List Str}(r:RL H p ws)(s:Same H H'):RL H' p ws:=⟨s _ _ r.at',r.pos,r.few,r.wd⟩
theorem RL.len{H:Hp}{p:Addr}{ws:List Str}(r:RL H p ws):(0:Int)<((ws.map V.str).length:Int)/\((ws.map V.str).length:Int)<1073741824:=by
 have a:=r.pos;have b:=r.few;rw[qc];omega
structure DR(H:Hp)(p:Addr)(ns:List Int)(n:Nat):Prop where
 at':H p=some (.lst (List.map V.int ns))
 len:n≤ns.length
 few:ns.length≤100
theorem DR.mono{H H':Hp}{p:Addr}{ns:List Int}{n:Nat}(r:DR H p ns n)(s:Same H H'):DR H' p ns n:=⟨s _ _ r.at',r.len,r.few⟩
theorem DR.get{H:Hp}{p:Addr}{ns:List Int}{n:Nat}(r:DR H p ns n)(k:Nat)(h:k<n):∃i,atI (List.map V.int ns) (k:Int)=some (.int i):=by
 have hk:k<ns.length:=ze h r.len;exact⟨ns[k],xAak (by rw[zh,qj hk];rfl)⟩
inductive Isp_fBk(vs:List V)(H:Hp)(Q:VK):Prop
 |mk (i:_) (n:Nat) (h0_:vs=[.int i,.int n]) (h1_:n≤30) (h2_:∀H' p ns,Same H H'->H p=none->DR H' p ns n->ns.length=n->Q (.ref p) H'):Isp_fBk vs H Q
def sp_fBk:Sp:=fun vs H Q _=>Isp_fBk vs H Q
inductive Isp_fBq(vs:List V)(H:Hp)(Q:VK):Prop
 |mk (i:_) (h0_:vs=[.int i]) (h1_:∀z:Str,IsW z->Q (.str z) H):Isp_fBq vs H Q
def sp_fBq:Sp:=fun vs H Q _=>Isp_fBq vs H Q
inductive Isp_fBn(vs:List V)(H:Hp)(Q:VK):Prop
 |mk (i:_) (h0_:vs=[.int i]) (h1_:∀H' p ws,Same H H'->H p=none->RL H' p ws->2≤ws.length->ws.Nodup->Q (.ref p) H'):Isp_fBn vs H Q
def sp_fBn:Sp:=fun vs H Q _=>Isp_fBn vs H Q
inductive IspD(P:List Str->PyData->Prop)(vs:List V)(H:Hp)(Q:VK):Prop
 |mk (i:_) (p:_) (ws:_) (h0_:vs=[.int i,.ref p]) (h1_:RL H p ws) (h2_:∀H' v d,Same H H'->DT H' v d->P ws d->Q v H'):IspD P vs H Q
def spD(P:List Str->PyData->Prop):Sp:=fun vs H Q _=>IspD P vs H Q
def tupP(P:List Str->List PyData->Prop)(ws:List Str)(d:PyData):Prop:=∃ds,d=.tuple ds/\P ws ds
def sp_fBs:Sp:=spD (tupP NameD)
def sp_fBm:Sp:=spD (tupP PartD)
def sp_fAq:Sp:=spD (tupP SnD)
def sp_fBr:Sp:=spD SideD
def sp_fCd:Sp:=spD SignD
def sp_fBb:Sp:=spD BrD
inductive Isp_fBl(vs:List V)(H:Hp)(Q:VK):Prop
 |mk (d:_) (p:_) (ws:_) (ns:_) (h0_:vs=[.ref d,.ref p]) (h1_:RL H p ws) (h2_:DR H d ns 1) (h3_:∀H' v sg,Same H H'->DT H' v (.tuple sg)->1≤sg.length->sg.length≤12->(∀x∈sg,SignD ws x)->Q v H'):Isp_fBl vs H Q
def sp_fBl:Sp:=fun vs H Q _=>Isp_fBl vs H Q
inductive Isp_fAm(vs:List V)(H:Hp)(Q:VK):Prop
 |mk (d:_) (p:_) (ws:_) (ns:_) (h0_:vs=[.ref d,.ref p]) (h1_:RL H p ws) (h2_:DR H d ns 1) (h3_:∀H' v (nn:List (List PyData)),Same H H'->DT H' v (.tuple (nn.map .tuple))->1≤nn.length->nn.length≤12->(∀x∈nn,SnD ws x)->nn.Nodup->Q v H'):Isp_fAm vs H Q
def sp_fAm:Sp:=fun vs H Q _=>Isp_fAm vs H Q
inductive Isp_fAf(vs:List V)(H:Hp)(Q:VK):Prop
 |mk (i:_) (d:_) (p:_) (ws:_) (ns:_) (h0_:vs=[.int i,.ref d,.ref p]) (h1_:RL H p ws) (h2_:DR H d ns 6) (h3_:∀H' v wt,Same H H'->DT H' v (.tuple wt)->(∀num,WhatD ws num wt)->Q v H'):Isp_fAf vs H Q
def sp_fAf:Sp:=fun vs H Q _=>Isp_fAf vs H Q
inductive Isp_fAd(vs:List V)(H:Hp)(Q:VK):Prop
 |mk (i:_) (d:_) (p:_) (ws:_) (ns:_) (h0_:vs=[.int i,.ref d,.ref p]) (h1_:RL H p ws) (h2_:DR H d ns 6) (h3_:∀H' v wt,Same H H'->DT H' v (.tuple wt)->(∀num,WhatD ws num wt)->Q v H'):Isp_fAd vs H Q
def sp_fAd:Sp:=fun vs H Q _=>Isp_fAd vs H Q
inductive Isp_fBt(vs:List V)(H:Hp)(Q:VK):Prop
 |mk (d:_) (p:_) (ws:_) (ns:_) (n:_) (h0_:vs=[.ref d,.ref p,.int n]) (h1_:RL H p ws) (h2_:DR H d ns 8) (h3_:∀H' v wt,Same H H'->DT H' v (.tuple wt)->WhatD ws n wt->Q v H'):Isp_fBt vs H Q
def sp_fBt:Sp:=fun vs H Q _=>Isp_fBt vs H Q
section
variable {K:PySem.W.Frag}{vs:List V}{H:Hp}{Q:VK}{E:XK}
theorem xAqx(h:sp_fBk vs H Q E):vs.length=2:=by obtain⟨_,_,rfl,_⟩:=h;rfl
theorem xAqy(h:sp_fBq vs H Q E):vs.length=1:=by obtain⟨_,rfl,_⟩:=h;rfl
theorem xAqz(h:sp_fBn vs H Q E):vs.length=1:=by obtain⟨_,rfl,_⟩:=h;rfl
theorem xAra(h:sp_fBs vs H Q E):vs.length=2:=by obtain⟨_,_,_,rfl,_⟩:=h;rfl
theorem xArb(h:sp_fBm vs H Q E):vs.length=2:=by obtain⟨_,_,_,rfl,_⟩:=h;rfl
theorem xArc(h:sp_fAq vs H Q E):vs.length=2:=by obtain⟨_,_,_,rfl,_⟩:=h;rfl
theorem xArd(h:sp_fBr vs H Q E):vs.length=2:=by obtain⟨_,_,_,rfl,_⟩:=h;rfl
theorem xAre(h:sp_fCd vs H Q E):vs.length=2:=by obtain⟨_,_,_,rfl,_⟩:=h;rfl
theorem xArf(h:sp_fBb vs H Q E):vs.length=2:=by obtain⟨_,_,_,rfl,_⟩:=h;rfl
theorem xArg(h:sp_fBl vs H Q E):vs.length=2:=by obtain⟨_,_,_,_,rfl,_⟩:=h;rfl
theorem xArh(h:sp_fAm vs H Q E):vs.length=2:=by obtain⟨_,_,_,_,rfl,_⟩:=h;rfl
theorem xAri(h:sp_fAf vs H Q E):vs.length=3:=by obtain⟨_,_,_,_,_,rfl,_⟩:=h;rfl
theorem xArj(h:sp_fAd vs H Q E):vs.length=3:=by obtain⟨_,_,_,_,_,rfl,_⟩:=h;rfl
theorem xArk(h:sp_fBt vs H Q E):vs.length=3:=by obtain⟨_,_,_,_,_,rfl,_⟩:=h;rfl
end
inductive Isp_fBj(vs:List V)(H:Hp)(Q:VK):Prop
 |mk (sp:_) (ns:_) (most:_) (h0_:vs=[.ref sp,.int most]) (h1_:SqL H sp (List.map V.int ns)) (h2_:ns.length≤63) (h3_:∀H' p rp dp ws ds des,Same H H'->H p=none->H' p=some (.tup [.ref rp,.ref dp])->RL H' rp ws->2≤ws.length->ws.Nodup->H dp=none->H' dp=some (.lst des)->Hs.Deeds H' ws des ds->Hs.Wh ws.length ds->(∀d∈ds,BrD ws d.br/\WhatD ws d.num d.wt)->ds.length≤ns.length - 1->Q (.ref p) H'):Isp_fBj vs H Q
def sp_fBj:Sp:=fun vs H Q _=>Isp_fBj vs H Q
theorem xArl{vs:List V}{H:Hp}{Q:VK}{E:XK}(h:sp_fBj vs H Q E):vs.length=2:=by obtain⟨_,_,_,rfl,_⟩:=h;rfl
theorem xAje(b:Bool):(0:Int)≤(if b=true then 1 else 0):=by cases b <;> decide
theorem xAfb(b:Bool){x y:V}:(if b=true then 1 else 0:Int)<(([x,y]:List V).length:Int):=by cases b <;> simp
theorem xAfc{ns:List Int}{lo hi:Option Int}{x:V}(h:x∈cutV (List.map V.int ns) lo hi):∃m,x=V.int m:=by
 unfold cutV at h;obtain⟨n,_,e⟩:=qu.mp (yi (y8 h));exact⟨n,e.symm⟩
def lastC(z:Str):Option Nat:=z.cps.toList.getLast?
def Chain(ws:List Str)(i:Nat)(w:Str):Prop:=w∉ws\/∃S:List Str,S.Nodup/\(∀x∈S,x∈ws)/\i≤S.length+1/\(∀x∈S,∃j,j+1<i/\lastC x=some (97+j))/\(i=0\/lastC w=some (97+(i - 1)))
theorem xAjf(ws:List Str)(w:Str):Chain ws 0 w:=.inr ⟨[],vn,(fun _ z=>nomatch z),by omega,(fun _ z=>nomatch z),.inl rfl⟩
theorem xAfw(z:Str)(c:Nat):lastC (z++⟨#[c]⟩)=some c:=by
 unfold lastC;show((z.cps++#[c]).toList).getLast?=some c
 simp
theorem xAjg{ws:List Str}{i:Nat}{w z:Str}(h:Chain ws i w)(hin:w∈ws):Chain ws (i+1) (z++⟨#[97+i]⟩):=by
 rcases h with h|⟨S,nd,sub,len,lst,lw⟩
 ·exact absurd hin h
 ·right
  rcases lw with rfl|lw
  ·exact⟨[],List.nodup_nil,(fun _ z=>nomatch z),by simp,(fun _ z=>nomatch z),.inr (xAfw _ _)⟩
  ·by_cases hi:i=0
   ·subst hi
    exact⟨[],List.nodup_nil,(fun _ z=>nomatch z),by simp,(fun _ z=>nomatch z),.inr (xAfw _ _)⟩
   ·refine⟨w::S,zv.mpr ⟨fun m=>?_,nd⟩,fun x hx=>?_,by rw[qy];omega,fun x hx=>?_,.inr (xAfw _ _)⟩
    ·obtain⟨j,hj,e⟩:=lst w m
     rw[lw]at e;have:=Option.some.inj e;omega
    ·rcases qw.mp hx with rfl|hx
     ·exact hin
     ·exact sub x hx
    ·rcases qw.mp hx with rfl|hx
     ·exact⟨i - 1,by omega,lw⟩
     ·obtain⟨j,hj,e⟩:=lst x hx
      exact⟨j,by omega,e⟩
theorem xAlr{ws:List Str}{w:Str}(h:Chain ws 8 w)(hl:ws.length≤6):w∉ws:=by
 rcases h with h|⟨S,nd,sub,len,_,_⟩
 ·exact h
 ·have:=nodup_len nd sub
  omega
theorem abc_at{c ch:Nat}(h:c<8)(e:("abcdefgh":Str).cps[c]?=some ch):ch=97+c:=by
 have q:("abcdefgh":Str).cps=#[97,98,99,100,101,102,103,104]:=by decide +kernel
 rw[q]at e
 have hc:c=0\/c=1\/c=2\/c=3\/c=4\/c=5\/c=6\/c=7:=by omega
 rcases hc with rfl|rfl|rfl|rfl|rfl|rfl|rfl|rfl <;> (simp at e;omega)
theorem xAls(ws:List Str):(ws.map V.str).all flatV=true:=by
 rw[wk];exact zg.mpr fun _ _=>rfl
theorem xAdo(w:Str)(ws:List Str):inV (.str w) (ws.map V.str)=decide (w∈ws):=by
 unfold inV
 induction ws with
 |nil=>rfl
 |cons x ws ih =>
  rw[qo,vy,ih];show(x==w||decide (w∈ws))=decide (w∈x::ws)
  by_cases e:x=w
  ·subst e;simp
  ·have e':¬w=x:=fun z=>e z.symm
   simp[e,e']
theorem xAjh{ws:List Str}{w:Str}(nd:ws.Nodup)(h:w∉ws):(ws++[w]).Nodup:=xAiq nd h
theorem xArm(ns:List Int)(lo hi:Option Int):cutV (List.map V.int ns) lo hi=List.map V.int ((ns.drop (HT.sIx ns.length 0 lo)).take (HT.sIx ns.length ns.length hi - HT.sIx ns.length 0 lo)):=by
 unfold cutV;rw[qc,jp,ja]
theorem DR.from{H H':Hp}{d q:Addr}{ns:List Int}{n:Nat}(r:DR H d ns n)(k:Nat)(h:k≤n)(e:H' q=some (.lst (cutV (List.map V.int ns) (some (k:Int)) none))):DR H' q (ns.drop k) (n - k):=by
 have hl:=r.len;refine⟨?_,by rw[wb];omega,by have:=r.few;rw[wb];omega⟩;rw[e,xArm,HT.sIx_nat,HT.sIx_none,y7 (by omega),wu (by rw[wb];exact qd _)]
end My
namespace L2
open PySem PySem.Spec PyProof.Rows
def strD:PyData->Str
 |.str z=>z
 |.int i=>toString i
 |_=>""
def Nb(i:Int):Prop:=0≤i/\i≤1000001
def Flat1(d:PyData):Prop:=(∃z:Str,d=.str z/\z.length≤8)\/∃i,d=.int i/\Nb i
def nmT:List PyData->Str
 |.str h::r=>if h = "" then "." else Txt.join "." ((PyData.str h::r).map strD)
 |_=>""
def NmOk(ds:List PyData):Prop:=ds=[.str "",.int 0]\/∃(h:Str) (r:List PyData),ds=.str h::r/\h≠"" /\ PyData.strOk h=true/\h.length≤8/\r.length≤2/\∀x∈r,∃i,x=.int i/\Nb i
section
variable {H:Hp}
theorem xAji{v:V}{d:PyData}(h:DT H v d)(f:Flat1 d):((∃z,v=.str z)\/∃i:Int,v=.int i/\i.natAbs.log2<1920)/\strV v=strD d:=by
 rcases f with⟨z,rfl,_⟩|⟨i,rfl,hi⟩
 ·rw[xAbp h];exact⟨.inl ⟨z,rfl⟩,rfl⟩
 ·rw[xAqr h]
  refine⟨.inr ⟨i,rfl,?_⟩,rfl⟩
  have:i.natAbs≤1000001:=by have:=hi.1;have:=hi.2;omega
  by_cases h0:i.natAbs=0
  ·rw[h0];decide
  ·have:=(Nat.log2_lt h0 (k:=1920)).mpr (yy this (by
    have:(1000001:Nat)<2 ^ 20:=by decide
    exact ze this (Nat.pow_le_pow_right (by decide) (by decide))))
   exact this
end
theorem xAfx{d:PyData}(f:Flat1 d):(strD d).length≤8:=by
 rcases f with⟨z,rfl,hz⟩|⟨i,rfl,hi⟩
 ·exact hz
 ·obtain⟨n,rfl⟩:=Int.eq_ofNat_of_zero_le hi.1
  have h2:=hi.2;show(Str.ofString (toString ((n:Nat):Int))).length≤_;rw[PySem.ofString_length];show n.repr.length≤8;exact(j4 (by decide)).mpr (by omega)
theorem xAec:∀{ds:List PyData},(∀d∈ds,Flat1 d)->((ds.map strD).map (·.length)).sum≤8 * ds.length
 |[],_=>qd _
 |d::ds,h=>by
  have a:=xAfx (h d (by simp));have b:=xAec (ds:=ds) fun x hx=>h x (qk _ hx);rw[qo,qo,List.sum_cons,qy];omega
theorem NmOk.flat{ds:List PyData}(h:NmOk ds):ds.length≤3/\∀d∈ds,Flat1 d:=by
 rcases h with rfl|⟨h,r,rfl,_,_,hl,hr,hx⟩
 ·refine⟨by decide,fun d hd=>?_⟩
  simp only[List.mem_cons,List.not_mem_nil,or_false]at hd
  rcases hd with rfl|rfl
  ·exact .inl ⟨"",rfl,by decide⟩
  ·exact .inr ⟨0,rfl,by decide,by decide⟩
 ·refine⟨by rw[qy];omega,fun d hd=>?_⟩
  rcases qw.mp hd with rfl|hd
  ·exact .inl ⟨h,rfl,hl⟩
  ·obtain⟨i,e,hi⟩:=hx d hd
   exact .inr ⟨i,e,hi⟩
def brT:PyData->Str
 |.tuple ds=>Txt.join "." (ds.map strD)
 |_=>"-"
def BrOk(d:PyData):Prop:=d=.none\/∃a b:Str,d=.tuple [.str a,.str b]/\a.length≤8/\b.length≤8
def SiOk(d:PyData):Prop:=∃(ds:List PyData) (z:Str),d=.tuple [.tuple ds,.str z]/\NmOk ds/\(z = "ahead" \/ z = "behind")
def siT:PyData->Str
 |.tuple [.tuple ds,.str z]=>nmT ds++(if z = "ahead" then("<":Str) else ">")
 |_=>""
def SgOk(d:PyData):Prop:=(∃z:Str,d=.str z/\z.length≤8/\PyData.strOk z=true)\/(∃z:Str,d=.tuple [.str "picture",.str z]/\z.length≤8/\PyData.strOk z=true)\/∃ds,d=.tuple [.str "refer",.tuple ds]/\NmOk ds
def sgT:PyData->Str
 |.str z=>if z = " " then "_" else z
 |.tuple [.str k,.str z]=>"*"++z
 |.tuple [.str k,.tuple ds]=>"#"++nmT ds
 |_=>""
theorem xAdp(sep:Str)(ys:List Str):(Txt.join sep ys).length≤(ys.map (·.length)).sum+ys.length * sep.length:=by
 show(Builtin.Str.glued sep ys).length≤_;rw[StrLaws.glued_eq_join];exact StrLaws.join_length_le sep ys
theorem xAjj:nmT [.str "",.int 0] = ".":=by
 show(if("":Str) = "" then(".":Str) else Txt.join "." ([PyData.str "",PyData.int 0].map strD)) = ".";rw[if_pos rfl]
theorem xAed{h:Str}{r:List PyData}(h0:h≠""):nmT (.str h::r)=Txt.join "." ((PyData.str h::r).map strD):=by
 show(if h = "" then(".":Str) else _)=_;rw[if_neg h0]
theorem xAcr{ds:List PyData}(h:NmOk ds):(nmT ds).length≤40:=by
 obtain⟨fl,ff⟩:=h.flat;rcases h with rfl|⟨h,r,rfl,h0,_⟩
 ·rw[xAjj];decide
 ·rw[xAed h0]
  have a:=xAdp "." ((PyData.str h::r).map strD);have b:=xAec ff;have e1:(".":Str).length=1:=rfl;rw[e1,qc]at a;omega
theorem xAfy:∀{r:List PyData},(∀x∈r,∃i,x=.int i/\Nb i)->PyData.canLayAll0 r=true
 |[],_=>rfl
 |x::r,h=>by
  obtain⟨i,rfl,_⟩:=h x (by simp);show(true&&PyData.canLayAll0 r)=true;rw[xAfy fun y hy=>h y (qk _ hy)];rfl
theorem xAox{ds:List PyData}(hn:NmOk ds):PyData.canLayAll0 ds=true:=by
 rcases hn with rfl|⟨h,r,rfl,h0,hok,h8,hr,hi⟩
 ·decide +kernel
 ·show(PyData.strOk h&&PyData.canLayAll0 r)=true
  rw[hok,xAfy hi];rfl
inductive ThOk:PyData->Prop
 |non:ThOk .none
 |bl (b:Bool):ThOk (.bool b)
 |int (i:Int):Nb i->ThOk (.int i)
 |str (z:Str):z.length≤8->ThOk (.str z)
 |cnt (i:Int) (r:List PyData):r.length≤9->(∀x∈PyData.int i::r,Flat1 x)->ThOk (.tuple (.int i::r))
 |side (d:PyData):SiOk d->ThOk d
 |name (ds:List PyData):NmOk ds->ThOk (.tuple ds)
def thT:PyData->Str
 |.none=>"-"
 |.bool b=>if b=true then "yes" else "no"
 |.int i=>toString i
 |.str z=>if z = "" then "!" else z
 |.tuple (.int i::r)=>Txt.join "," ((PyData.int i::r).map strD)
 |.tuple [.tuple ds,.str z]=>siT (.tuple [.tuple ds,.str z])
 |.tuple ds=>nmT ds
 |_=>""
theorem xArn{d:PyData}(h:SiOk d):(siT d).length≤50:=by
 obtain⟨ds,z,rfl,hn,hz⟩:=h;have:=xAcr hn;show(nmT ds++(if z = "ahead" then("<":Str) else ">"):Str).length≤50;rw[Str.length_append]
 have:(if z = "ahead" then("<":Str) else ">").length=1:=by split <;> rfl
 omega
theorem xAro{d:PyData}(h:SgOk d):(sgT d).length≤50:=by
 rcases h with⟨z,rfl,hz,hzo⟩|⟨z,rfl,hz,hzo⟩|⟨ds,rfl,hn⟩
 ·show(if z = " " then("_":Str) else z).length≤50
  split
  ·decide
  ·omega
 ·show("*"++z:Str).length≤50
  rw[Str.length_append];have:("*":Str).length=1:=rfl;omega
 ·show("#"++nmT ds:Str).length≤50
  rw[Str.length_append];have:("#":Str).length=1:=rfl;have:=xAcr hn;omega
theorem xAas{ds:List PyData}(h:NmOk ds):thT (.tuple ds)=nmT ds:=by
 rcases h with rfl|⟨h,r,rfl,_⟩ <;> rfl
theorem xAjk{ds:List PyData}(h:ds.length≤10)(f:∀x∈ds,Flat1 x):(Txt.join "," (ds.map strD)).length≤100:=by
 have a:=xAdp "," (ds.map strD);have b:=xAec f;have e1:(",":Str).length=1:=rfl;rw[e1,qc]at a;omega
theorem xAns{d:PyData}(h:ThOk d):(thT d).length≤100:=by
 cases h with
 |non=>decide
 |bl b=>cases b <;> decide
 |int i hi=>exact qf (xAfx (.inr ⟨i,rfl,hi⟩)) (by decide)
 |str z hz =>
  show(if z = "" then("!":Str) else z).length≤100
  split
  ·decide
  ·omega
 |cnt i r hr hf=>exact xAjk (ds:=.int i::r) (by rw[qy];omega) hf
 |side d hs =>
  have:=xArn hs;obtain⟨ds,z,rfl,hn,hz⟩:=hs;exact qf this (by decide)
 |name ds hn =>
  rw[xAas hn];exact qf (xAcr hn) (by decide)
theorem xAjl{d:PyData}(h:SiOk d):thT d=siT d:=by
 obtain⟨ds,z,rfl,hn,hz⟩:=h;rfl
theorem xAba{k:Str}(h:k≠""):thT (.str k)=k:=by
 show(if k = "" then("!":Str) else k)=k;rw[if_neg h]
def WnOk(d:PyData):Prop:=d=.none\/∃z:Str,d=.str z/\z≠"" /\ z.length≤8
theorem WnOk.th{d:PyData}(h:WnOk d):ThOk d:=by
 rcases h with rfl|⟨z,rfl,_,hz⟩
 ·exact .non
 ·exact .str z hz
inductive Wt:List PyData->List Str->Prop
 |names (k:Str) (ns:List (List PyData)):k = "part" \/ k = "move" \/ k = "cut" \/ k = "strike"->ns.length≤2->(∀n∈ns,NmOk n)->Wt (.str k::ns.map .tuple) (k::ns.map nmT)
 |put (p:List PyData) (b:PyData) (sg:List PyData):NmOk p->(b=.none\/∃n,b=.tuple n/\NmOk n)->sg.length≤12->(∀d∈sg,SgOk d)->Wt [.str "put",.tuple p,b,.tuple sg] ((["put",nmT p,thT b]:List Str)++sg.map sgT)
 |out (p:List PyData) (ns:List (List PyData)):NmOk p->ns.length≤12->(∀n∈ns,NmOk n)->Wt [.str "out",.tuple p,.tuple (ns.map .tuple)] ((["out",nmT p]:List Str)++ns.map nmT)
 |mark (k:Str) (p:List PyData) (s1 s2:PyData) (r:List PyData):k = "mark" \/ k = "note"->NmOk p->SiOk s1->SiOk s2->r.length≤2->(∀d∈r,WnOk d)->Wt (.str k::.tuple p::s1::s2::r) (k::nmT p::siT s1::siT s2::r.map thT)
 |line (p:List PyData) (z:Str) (v:PyData):NmOk p->z = "row" \/ z = "column"->(v=.none\/∃n,v=.tuple n/\NmOk n)->Wt [.str "line",.tuple p,.str z,v] ["line",nmT p,z,thT v]
 |cell (p a b:List PyData) (z:Str):NmOk p->NmOk a->NmOk b->z.length≤8->Wt [.str "cell",.tuple p,.tuple a,.tuple b,.str z] ["cell",nmT p,nmT a,nmT b,if z = "" then "!" else z]
 |leave (p:List PyData) (w t:Str) (y:Bool):NmOk p->w≠""->w.length≤8->t≠""->t.length≤8->Wt [.str "leave",.tuple p,.str w,.str t,.bool y] ["leave",nmT p,w,t,if y=true then "yes" else "no"]
 |pour (i:Int) (r:List PyData):r.length≤9->(∀x∈PyData.int i::r,Flat1 x)->Wt [.str "pour",.tuple (.int i::r)] ["pour",Txt.join "," ((PyData.int i::r).map strD)]
 |few (k:Str) (r:List PyData):k = "back" \/ k = "again" \/ k = "bring" \/ k = "drop" \/ k = "nothing"->r.length≤1->(∀x∈r,Flat1 x/\x≠.str "")->Wt (.str k::r) (k::r.map strD)
theorem xAnt{x:PyData}(h:Flat1 x)(h0:x≠.str ""):ThOk x/\thT x=strD x:=by
 rcases h with⟨z,rfl,hz⟩|⟨i,rfl,hi⟩
 ·exact⟨.str z hz,xAba fun e=>h0 (by rw[e])⟩
 ·exact⟨.int i hi,rfl⟩
theorem nn_th{b:PyData}(h:b=.none\/∃n,b=.tuple n/\NmOk n):ThOk b:=by
 rcases h with rfl|⟨n,rfl,hn⟩
 ·exact .non
 ·exact .name n hn
theorem Wt.plain{ds:List PyData}{ws:List Str}(h:Wt ds ws):(∃(p:List PyData) (b:PyData) (sg:List PyData),ds=[.str "put",.tuple p,b,.tuple sg]/\ws=(["put",nmT p,thT b]:List Str)++sg.map sgT/\NmOk p/\(b=.none\/∃n,b=.tuple n/\NmOk n)/\sg.length≤12/\∀d∈sg,SgOk d)\/(∃(p:List PyData) (ns:List (List PyData)),ds=[.str "out",.tuple p,.tuple (ns.map .tuple)]/\ws=(["out",nmT p]:List Str)++ns.map nmT/\NmOk p/\ns.length≤12/\∀n∈ns,NmOk n)\/((∃k r,ds=.str k::r/\k≠"put" /\ k≠"out")/\(∀d∈ds,ThOk d)/\ws=ds.map thT/\ds.length≤12):=by
 have two:∀{k:Str} {r:List PyData},k.length≤8->(∀d∈r,ThOk d)->∀d∈PyData.str k::r,ThOk d:=fun hk hr d hd=>by
  rcases qw.mp hd with rfl|hd
  ·exact .str _ hk
  ·exact hr d hd
 cases h with
 |put p b sg h1 h2 h3 h4=>exact .inl ⟨_,_,_,rfl,rfl,h1,h2,h3,h4⟩
 |out p ns h1 h2 h3=>exact .inr (.inl ⟨_,_,rfl,rfl,h1,h2,h3⟩)
 |names k ns hk hl hn =>
  have hk2:k.length≤8/\k≠"" /\ k≠"put" /\ k≠"out":=by rcases hk with rfl|rfl|rfl|rfl <;> decide +kernel
  refine .inr (.inr ⟨⟨_,_,rfl,hk2.2.2⟩,two hk2.1 fun d hd=>?_,?_,by rw[qy,qc];omega⟩)
  ·obtain⟨n,hn',rfl⟩:=qu.mp hd
   exact .name n (hn n hn')
  ·rw[qo,xAba hk2.2.1,zy]
   refine congrArg _ (jb fun n hn'=>?_);exact(xAas (hn n hn')).symm
 |mark k p s1 s2 r hk hp h1 h2 hl hr =>
  have hk2:k.length≤8/\k≠"" /\ k≠"put" /\ k≠"out":=by rcases hk with rfl|rfl <;> decide +kernel
  refine .inr (.inr ⟨⟨_,_,rfl,hk2.2.2⟩,two hk2.1 fun d hd=>?_,?_,by simp only[List.length_cons];omega⟩)
  ·simp only[List.mem_cons]at hd
   rcases hd with rfl|rfl|rfl|hd
   ·exact .name p hp
   ·exact .side _ h1
   ·exact .side _ h2
   ·exact(hr d hd).th
  ·rw[qo,qo,qo,qo,xAba hk2.2.1,xAas hp,xAjl h1,xAjl h2]
 |line p z v hp hz hv =>
  have hz2:z.length≤8/\z≠"":=by rcases hz with rfl|rfl <;> decide +kernel
  refine .inr (.inr ⟨⟨_,_,rfl,by decide +kernel,by decide +kernel⟩,two (by decide) fun d hd=>?_,?_,qp rfl⟩)
  ·simp only[List.mem_cons,List.not_mem_nil,or_false]at hd
   rcases hd with rfl|rfl|rfl
   ·exact .name p hp
   ·exact .str _ hz2.1
   ·exact nn_th hv
  ·rw[qo,qo,qo,qo,xAba (by decide +kernel),xAas hp,xAba hz2.2]
   rfl
 |cell p a b z hp ha hb hz =>
  refine .inr (.inr ⟨⟨_,_,rfl,by decide +kernel,by decide +kernel⟩,two (by decide) fun d hd=>?_,?_,qp rfl⟩)
  ·simp only[List.mem_cons,List.not_mem_nil,or_false]at hd
   rcases hd with rfl|rfl|rfl|rfl
   ·exact .name p hp
   ·exact .name a ha
   ·exact .name b hb
   ·exact .str _ hz
  ·rw[qo,qo,qo,qo,qo,xAba (by decide +kernel),xAas hp,xAas ha,xAas hb]
   rfl
 |leave p w t y hp hw hw8 ht ht8 =>
  refine .inr (.inr ⟨⟨_,_,rfl,by decide +kernel,by decide +kernel⟩,two (by decide) fun d hd=>?_,?_,qp rfl⟩)
  ·simp only[List.mem_cons,List.not_mem_nil,or_false]at hd
   rcases hd with rfl|rfl|rfl|rfl
   ·exact .name p hp
   ·exact .str _ hw8
   ·exact .str _ ht8
   ·exact .bl y
  ·rw[qo,qo,qo,qo,qo,xAba (by decide +kernel),xAas hp,xAba hw,xAba ht]
   rfl
 |pour i r hl hr =>
  refine .inr (.inr ⟨⟨_,_,rfl,by decide +kernel,by decide +kernel⟩,two (by decide) fun d hd=>?_,?_,qp rfl⟩)
  ·simp only[List.mem_cons,List.not_mem_nil,or_false]at hd
   rw[hd];exact .cnt i r hl hr
  ·rw[qo,qo,xAba (by decide +kernel)]
   rfl
 |few k r hk hl hr =>
  have hk2:k.length≤8/\k≠"" /\ k≠"put" /\ k≠"out":=by rcases hk with rfl|rfl|rfl|rfl|rfl <;> decide +kernel
  refine .inr (.inr ⟨⟨_,_,rfl,hk2.2.2⟩,two hk2.1 fun d hd=>(xAnt (hr d hd).1 (hr d hd).2).1,?_,by rw[qy];omega⟩);rw[qo,xAba hk2.2.1];refine congrArg _ (jb fun x hx=>?_);exact(xAnt (hr x hx).1 (hr x hx).2).2.symm
theorem xAlt{ws:List Str}{c:Nat}(h:∀w∈ws,w.length≤c):(ws.map (·.length)).sum≤c * ws.length:=by
 induction ws with
 |nil=>exact qd _
 |cons w ws ih =>
  have a:=h w (by simp);have b:=ih fun x hx=>h x (qk _ hx);rw[qo,List.sum_cons,qy,Nat.mul_succ];omega
theorem Wt.len{ds:List PyData}{ws:List Str}(h:Wt ds ws):ws.length≤15/\∀w∈ws,w.length≤100:=by
 rcases h.plain with⟨p,b,sg,_,rfl,hp,hb,hl,hs⟩|⟨p,ns,_,rfl,hp,hl,hs⟩|⟨_,h1,rfl,h3⟩
 ·refine⟨by rw[ql,qc];show 3+_≤15;omega,fun w hw=>?_⟩
  rcases q0.mp hw with hw|hw
  ·simp only[List.mem_cons,List.not_mem_nil,or_false]at hw
   rcases hw with rfl|rfl|rfl
   ·decide
   ·exact qf (xAcr hp) (by decide)
   ·exact xAns (nn_th hb)
  ·obtain⟨d,hd,rfl⟩:=qu.mp hw
   exact qf (xAro (hs d hd)) (by decide)
 ·refine⟨by rw[ql,qc];show 2+_≤15;omega,fun w hw=>?_⟩
  rcases q0.mp hw with hw|hw
  ·simp only[List.mem_cons,List.not_mem_nil,or_false]at hw
   rcases hw with rfl|rfl
   ·decide
   ·exact qf (xAcr hp) (by decide)
  ·obtain⟨d,hd,rfl⟩:=qu.mp hw
   exact qf (xAcr (hs d hd)) (by decide)
 ·refine⟨by rw[qc];omega,fun w hw=>?_⟩
  obtain⟨d,hd,rfl⟩:=qu.mp hw;exact xAns (h1 d hd)
theorem xAgy{α:Type}{xs:List α}{j:Nat}{x:α}(h:xs[j]?=some x):xs.take (j+1)=xs.take j++[x]:=by
 rw[List.take_succ,h];rfl
theorem xAfd{a:Addr}{xs:List V}{own:List Str}{fr:List (Str×Nat)}{g:TG}{tt:TT}{te:TE}{σ:St}{H:Hp}{Q:VK}{ds:List PyData}(f:PyData->Str)(hq:H a=some (.tup xs))(hx:DTs H xs ds)(hz:ds.length≤100)(hs:∀x d H' (K1:V->Hp->Prop) (K0:Hp->Prop),d∈ds->DT H' x d->Same H H'->(∀H4,Same H' H4->K1 (.str (f d)) H4) →
   g x (compSt own fr σ) H' fun σ2 H2=>tt σ2 H2 fun b H3=>if b=true then te σ2 H3 K1 else K0 H3)(hd:∀H' p,Same H H'->H p=none->H' p=some (.lst ((ds.map f).map V.str))->Q (.ref p) H'):LCb own fr g tt te σ Q (Itt a) H:=by
 have hl:=xAdc hx;refine xAiy (xs:=xs) (qg (xAad (by omega))) (fun i ys H'=>ys=((ds.map f).take i).map V.str/\Same H H') ⟨rfl,Same.refl H⟩ (fun _ _ H' q'=>SqT.of (q'.2 _ _ hq)) (fun j x ys H' K1 K0 hxj qq k1 k0=>?_) fun H' p ys P _ hp=>?_
 ·obtain⟨rfl,s⟩:=qq
  obtain⟨d,ed,dv⟩:=xAiz (DTs.same s hx) hxj;refine hs x d H' K1 K0 (qz ed) dv s fun H4 s4=>k1 _ _ ⟨?_,s.trans s4⟩;rw[xAgy (x:=f d) (by rw[zh,ed];rfl),zo];rfl
 ·obtain⟨rfl,s⟩:=P
  rw[wu (by rw[qc,hl];exact qd _)];exact hd _ p (s.trans (Same.new hp)) (s.free hp) xAaf
end L2
namespace L2
open PySem PySem.Spec PySem.W PyProof.Rows
section
variable {P:Program}{w:World}{A:Around}{E:Value->Shared->Prop}{s:Shared}
def IsTwo(P:Program)(w:World)(h:Heap)(ks ls:List Key)(a:Addr):Prop:=∃o c d n,h.get? a=some o/\o.cls=.type "tuple" /\ o.data=.seq #[.ref c,.ref d] n/\(tupleKind (mixKind P w)).is h ks c/\(tupleKind (mixKind P w)).is h ls d
def GIs(P:Program)(w:World)(h:Heap):KD->Value->Prop
 |.non,v=>v=.none
 |.int i,v=>∃t,v=.int i t
 |.tup ks,v=>∃a,v=.ref a/\(tupleKind (mixKind P w)).is h ks a
 |.two ks ls,v=>∃a,v=.ref a/\IsTwo P w h ks ls a
theorem xAjm{P':Program}{w':World}{ks:List Key}{vs:List Value}(x:ItemsAre (mixKind P w) ks vs):ItemsAre (mixKind P' w') ks vs:=by
 induction x with
 |nil=>exact .nil
 |cons h _ ih=>exact .cons h ih
theorem xAgz{P':Program}{w':World}{h:Heap}{ks:List Key}{a:Addr}(x:(tupleKind (mixKind P w)).is h ks a):(tupleKind (mixKind P' w')).is h ks a:=by
 obtain⟨o,its,n,h1,h2,h3,h4⟩:=x;exact⟨o,its,n,h1,h2,h3,xAjm h4⟩
theorem xAlu{ks ls:List Key}{a b:Addr}(hu:A.units<cLine)(x:(tupleKind (mixKind P w)).is s.heap ks a)(y:(tupleKind (mixKind P w)).is s.heap ls b):SeqAt.EqAt A s (.ref a) (.ref b) (decide (ks=ls)):=fun P' w' E Q q=>(tupleKind (mixKind P' w')).eqBool hu (xAgz x) (xAgz y) q
theorem xAfe{ks:List Key}{a:Addr}{m:Nat}{Q:Bool->Shared->Prop}(hk:(tupleKind (mixKind P w)).is s.heap ks a)(h:Q true s):wpAny (model P w) A (eqIsQuiet (m+1) (.ref a)) Q E s:=by
 obtain⟨o,items,n,ho,hc,hd,hi⟩:=hk;have hT:s.TypeIs (.ref a) "tuple":=⟨o,ho,hc⟩;unfold eqIsQuiet;refine wpAny_bind (wpAny_specialOf hT F.slot_tuple_eq.lookup ?_);show wpAny _ _ (isInstance (.ref a) (.type "tuple") >>= _) _ _ s;refine wpAny_bind (wpAny_isInstance hT isSubtype_tuple_tuple ?_)
 simp only[Bool.not_true,Bool.false_eq_true,if_false]
 refine wpAny_bind (wpAny_seqItems ho hd ?_);refine wpAny_bind ?_;show wpAny _ _ (forIn items _ _) _ _ s;rw[←jq];refine wpAny_forIn_list _ (fun rest r s'=>r.1=none/\s'=s/\∀v∈rest,carriedByValue v=true) _ ?_ ?_ _ _ ⟨rfl,rfl,hi.byValue⟩
 ·rintro v rest r s' ⟨hr,rfl,hall⟩
  rw[eqIsQuiet_byValue _ (hall v qm)];refine wpAny_bind (wpAny_pure ?_)
  simp only[Bool.not_true,Bool.false_eq_true,if_false]
  exact wpAny_pure ⟨rfl,rfl,fun u hu'=>hall u (qk _ hu')⟩
 ·rintro⟨r1,r2⟩ s' ⟨hr,rfl,_⟩
  simp only at hr
  subst hr;exact wpAny_pure h
end
section
variable {X:Cx}{pins:List (Addr×Obj)}{σ:St}{H:Hp}{s:Shared}{a:Addr}{y v:V}{u r:Value}{k:KD}{kvs:List (KD×V×V)}{A:Around}{E:Value->Shared->Prop}
theorem GK.is(I:Inv X pins σ H s)(g:GK H k y)(ry:RelV y u):GIs X.prog X.w s.heap k u:=by
 cases k with
 |non=>cases g;exact ry
 |int i=>cases g;exact ry
 |tup ks =>
  obtain⟨b,rfl,hb⟩:=g;exact⟨b,ry,xAhu I.hok hb⟩
 |two ks ls =>
  obtain⟨b,c,d,rfl,hb,hc,hd⟩:=g;obtain⟨its,rv,⟨o,e1,e2,n,e3⟩,_⟩:=I.tuple (SqT.of hb);obtain⟨u1,u2,rfl,r1,r2⟩:=rv.two;cases r1;cases r2;exact⟨b,ry,o,c,d,n,e1,e2,e3,xAhu I.hok hc,xAhu I.hok hd⟩
end
theorem hu4{A:Around}{k:Nat}(hr:Room k A):A.units+4<cLine:=by have:=hr.units;omega
def tabP(K:PySem.W.Frag)(x:Str):Addr:=match tabIn K x with
 |some (_,P)=>P
 |none=>0
def tabC(K:PySem.W.Frag)(x:Str):Addr:=match tabIn K x with
 |some (c,_)=>c
 |none=>0
section
variable {X:Cx}{tg:Expr}
inductive IrCatU(x:V)(y:V)(H:Hp)(Q:VK):Prop
 |mk (a:_) (b:_) (xs:_) (ys:_) (h0_:x=.ref a) (h1_:y=.ref b) (h2_:H a=some (.tup xs)) (h3_:H b=some (.tup ys)) (h4_:xs≠[]) (h5_:xs.length+ys.length≤sizeLine) (h6_:∀p H',Same H H'->H' p=some (.tup (xs++ys))->Q (.ref p) H'):IrCatU x y H Q
def rCatU:R2:=fun x y H Q=>IrCatU x y H Q
theorem xArp:OpR X (binaryOp .Add) rCatU:=xAng.imp fun _ _ H _ ⟨a,b,xs,ys,h1,h2,h3,h4,h5,h6,q⟩=>⟨a,b,xs,ys,h1,h2,SqT.of h3,SqT.of h4,h5,h6,fun z=>q a H (Same.refl _) (by rw[z,vm];exact h3),fun _ p hp=>q p _ (Same.new hp) xAaf⟩
end
section
variable {prog:Program}{w:World}{A:Around}{E:Value->Shared->Prop}{s:Shared}
theorem nx_tup{it t:Addr}{i:Nat}{items:Array Value}{x:Value}{Q:Value->Shared->Prop}(hit:s.heap.IsTupleIter it t i)(ht:s.heap.IsTuple t items)(hx:items[i]?=some x)(hQ:∀h',h'.IsTupleIter it t (i+1)->Heap.SameBut it s.heap h'->Q x { s with heap:=h' }):wpAny (model prog w) A (Builtin.SmallTypes.nextOf (.ref it)) Q E s:=by
 obtain⟨⟨o,ho,hc,hd⟩,⟨ol,hol,_,nl,hdl⟩⟩:=And.intro (id hit) ht;unfold Builtin.SmallTypes.nextOf;refine wpAny_bind (wpAny_callSpecial?_slot hit.typeIs F.slot_tuple_iterator_next (wpAny_call_entry F.slot_tuple_iterator_next hit.typeIs F.entry_tuple_iterator_next ?_ (F.args_tuple_iterator_next_1 _)));show wpAny _ _ (field (.ref it) 0 >>= _) _ _ s;refine wpAny_bind (wpAny_field ho hd (x:=.ref t) rfl ?_);show wpAny _ _ (if(Value.ref t==Value.none)=true then _ else _) _ _ s;rw[if_neg (fun z:(Value.ref t==Value.none)=true=>qx z)];show wpAny _ _ (field (.ref it) 1 >>= _) _ _ s;refine wpAny_bind (wpAny_field ho hd (x:=.int i 0) rfl ?_);show wpAny _ _ (seqItems? (.ref t) >>= _) _ _ s;refine wpAny_bind (wpAny_seqItems hol hdl ?_)
 simp only[Int.toNat_natCast,hx]
 refine wpAny_bind (wpAny_setField ho hd (by simp) (wpAny_pure ⟨x,rfl,wpAny_pure (hQ _ ⟨_,Heap.get?_update_self _ ho (Obj.isFreed_of_fields (Obj.data_mapFields hd _)),(Obj.cls_mapFields ..).trans hc,?_⟩ (Heap.SameBut.update ..))⟩));rw[Obj.data_mapFields hd]
 simp[rawInt]
theorem xArq{it t:Addr}{i:Nat}{items:Array Value}{Q:Value->Shared->Prop}(hh:A.handled=none)(hit:s.heap.IsTupleIter it t i)(ht:s.heap.IsTuple t items)(hx:items[i]?=none)(hE:∀h' e,Heap.ExtBut it s.heap h'->(∃o,h'.get? e=some o/\o.cls=.type "StopIteration")->E (.ref e) { s with heap:=h' }):wpAny (model prog w) A (Builtin.SmallTypes.nextOf (.ref it)) Q E s:=by
 obtain⟨⟨o,ho,hc,hd⟩,⟨ol,hol,_,nl,hdl⟩⟩:=And.intro (id hit) ht;unfold Builtin.SmallTypes.nextOf;refine wpAny_bind (wpAny_callSpecial?_slot hit.typeIs F.slot_tuple_iterator_next (wpAny_call_entry F.slot_tuple_iterator_next hit.typeIs F.entry_tuple_iterator_next ?_ (F.args_tuple_iterator_next_1 _)));show wpAny _ _ (field (.ref it) 0 >>= _) _ _ s;refine wpAny_bind (wpAny_field ho hd (x:=.ref t) rfl ?_);show wpAny _ _ (if(Value.ref t==Value.none)=true then _ else _) _ _ s;rw[if_neg (fun z:(Value.ref t==Value.none)=true=>qx z)];show wpAny _ _ (field (.ref it) 1 >>= _) _ _ s;refine wpAny_bind (wpAny_field ho hd (x:=.int i 0) rfl ?_);show wpAny _ _ (seqItems? (.ref t) >>= _) _ _ s;refine wpAny_bind (wpAny_seqItems hol hdl ?_)
 simp only[Int.toNat_natCast,hx]
 refine wpAny_bind (wpAny_rule (wpAny_bind (wpAny_setField ho hd (by simp) ?_)));show wpAny _ _ (newExc (.type "StopIteration") [] >>= _) _ _ _;refine wpAny_bind ?_
 simp only[newExc,newTuple]
 refine wpAny_bind (wpAny_newObj_type (wpAny_bind (m:=firstArgMember _ _) (wpAny_of_eq (a:=Value.none) (by first|rfl|(simp only[firstArgMember];rfl)) (wpAny_newObj_type ?_ (by size_fits)))) (by size_fits))
 simp only[raiseNew]
 refine wpAny_bind (wpAny_handled ?_);rw[show A.in1.handled=none from hh];refine wpAny_bind (wpAny_pure (wpAny_throw (hE _ _ (((Heap.SameBut.update ..).extBut.push _).push _) ⟨_,Heap.get?_push_size _ rfl,rfl⟩)))
theorem dr_tup(hh:A.handled=none)(it t:Addr)(hne:t≠it)(items:Array Value):Draws prog w A it [it,t] items.size (fun i v=>items[i]?=some v) (fun i h=>h.IsTupleIter it t i/\h.IsTuple t items) where
 live:=fun _ _ ⟨⟨o,ho,_⟩,_⟩=>⟨o,ho⟩
 frame:=fun _ _ _ ⟨⟨o,ho,r⟩,⟨o2,ho2,r2⟩⟩ k=>⟨⟨o,k it qm o ho,r⟩,⟨o2,k t (qk _ qm) o2 ho2,r2⟩⟩
 item:=fun i s Q E hi st hQ=>nx_tup st.1 st.2 (x:=items[i]) (zj hi) fun h' hit' hs'=>hQ _ h' s.toks (zj hi) ⟨hit',st.2.extBut hs'.extBut hne⟩ hs'
 done:=fun s Q E st hE=>xArq hh st.1 st.2 (by simp) hE
structure Zap(z TI TO i1 i2:Addr)(f1 f2:List Addr):Prop where
 t1:TI≠z
 t2:TI≠TO
 t3:TI≠i1
 t4:TI≠i2
 o1:TO≠z
 o2:TO≠i1
 o3:TO≠i2
 a1:i1≠z
 a2:i2≠z
 a3:i1≠i2
 g1:∀b∈f1,b≠z/\b≠TO/\b≠i2
 g2:∀b∈f2,b≠z/\b≠TO/\b≠i1
variable {z TI TO i1 i2:Addr}{f1 f2:List Addr}{n1 n2 k1 k2:Nat}{P1 P2:Nat->Value->Prop}{S1 S2:Nat->Heap->Prop}{a b:Value}
theorem xAlv{Q:Value->Shared->Prop}(D1:Draws prog w A i1 f1 n1 P1 S1)(D2:Draws prog w A i2 f2 n2 P2 S2)(Z:Zap z TI TO i1 i2 f1 f2)(hz:IsZip s.heap z TI TO .none)(hTI:IsPair s.heap TI (.ref i1) (.ref i2))(hTO:IsPair s.heap TO a b)(h1:k1<n1)(h2:k2<n2)(st1:S1 k1 s.heap)(st2:S2 k2 s.heap)(hQ:∀x y h' tk,P1 k1 x->P2 k2 y->IsZip h' z TI TO (rawInt s.heap.objs.size)->IsPair h' TO x y->S1 (k1+1) h'->S2 (k2+1) h'->IsPair h' s.heap.objs.size x y->(∀c o,c≠z->c≠TO->c≠i1->c≠i2->s.heap.get? c=some o->h'.get? c=some o)->Q (.ref s.heap.objs.size) { s with heap:=h',toks:=tk }) :
  wpAny (model prog w) A (Builtin.«zip.__next__» ⟨[.ref z],[]⟩) (fun fin s'=>∃v,fin=.done (.ret v)/\Q v s') E s:=by
 show wpAny _ _ (field (.ref z) 2 >>= _) _ _ _;refine wpAny_bind (wpAny_field hz rfl (x:=.bool false) rfl ?_);show wpAny _ _ (field (.ref z) 3 >>= _) _ _ _;refine wpAny_bind (wpAny_field hz rfl (x:=.ref TI) rfl (wpAny_bind (wpAny_seqItems hTI rfl ?_)));show wpAny _ _ (Builtin.SmallTypes.ownedTupleIsFree (.ref z) >>= _) _ _ _;refine wpAny_bind ?_;unfold Builtin.SmallTypes.ownedTupleIsFree;refine wpAny_bind (wpAny_field hz rfl (x:=.none) rfl (wpAny_pure ?_))
 simp only[if_true]
 refine wpAny_bind (wpAny_rule (wpAny_bind (wpAny_field hz rfl (x:=.ref TO) rfl (wpAny_bind (wpAny_setField_rec hz (by simp) fun H1 hz1 b1=>wpAny_bind ?_)))));have hz1:IsZip H1 z TI TO .ellipsis:=hz1
 simp only[List.zipIdx_cons,List.zipIdx_nil,List.forIn_cons,List.forIn_nil]
 refine wpAny_bind (wpAny_bind (wpAny_onRaise ?_));show wpAny _ _ (Builtin.SmallTypes.nextOf (.ref i1) >>= _) _ _ _;refine wpAny_bind (D1.item k1 _ _ _ h1 (D1.frame _ _ _ st1 fun c hc o e=>b1.extBut c o (Z.g1 c hc).1 e) fun x H2 tk px s12 b2=>wpAny_pure ?_);have to2:IsPair H2 TO a b:=b2.extBut _ _ Z.o2 (b1.extBut _ _ Z.o1 hTO);refine wpAny_bind (wpAny_seqItems to2 rfl (wpAny_bind (wpAny_updateSeq_pair to2 fun H3 to3 b3=>wpAny_bind (wpAny_letGo (wpAny_pure ?_)))));have to3:IsPair H3 TO x b:=to3;refine wpAny_bind (wpAny_bind (wpAny_onRaise ?_));show wpAny _ _ (Builtin.SmallTypes.nextOf (.ref i2) >>= _) _ _ _;have st3:S2 k2 H3:=D2.frame _ _ _ st2 fun c hc o e=>b3.extBut c o (Z.g2 c hc).2.1 (b2.extBut c o (Z.g2 c hc).2.2 (b1.extBut c o (Z.g2 c hc).1 e));refine wpAny_bind (D2.item k2 _ _ _ h2 st3 fun y H4 tk2 py s24 b4=>wpAny_pure ?_);have to4:IsPair H4 TO x b:=b4.extBut _ _ Z.o3 to3;refine wpAny_bind (wpAny_seqItems to4 rfl (wpAny_bind (wpAny_updateSeq_pair to4 fun H5 to5 b5=>wpAny_bind (wpAny_letGo (wpAny_pure (wpAny_pure ?_))))));have to5:IsPair H5 TO x y:=to5;refine wpAny_bind (wpAny_seqItems to5 rfl (wpAny_bind (wpAny_newTuple ?_)))
 have sz:H5.objs.size=s.heap.objs.size:=by rw[b5.1,b4.1,b3.1,b2.1,b1.1]
 have hz5:IsZip H5 z TI TO .ellipsis:=b5.extBut _ _ Z.o1.symm (b4.extBut _ _ Z.a2.symm (b3.extBut _ _ Z.o1.symm (b2.extBut _ _ Z.a1.symm hz1)));have k5:∀c o,c≠z->c≠TO->c≠i1->c≠i2->s.heap.get? c=some o->H5.get? c=some o:=fun c o c1 c2 c3 c4 e=>b5.extBut _ _ c2 (b4.extBut _ _ c4 (b3.extBut _ _ c2 (b2.extBut _ _ c3 (b1.extBut _ _ c1 e))));have s15:S1 (k1+1) H5:=D1.frame _ _ _ s12 fun c hc o e=>b5.extBut c o (Z.g1 c hc).2.1 (b4.extBut c o (Z.g1 c hc).2.2 (b3.extBut c o (Z.g1 c hc).2.1 e));have s25:S2 (k2+1) H5:=D2.frame _ _ _ s24 fun c hc o e=>b5.extBut c o (Z.g2 c hc).2.1 e;have zl:z<H5.objs.size:=Heap.lt_size hz5;show wpAny _ _ (Builtin.SmallTypes.ownedTupleHandOut (.ref z) (.ref H5.objs.size) >>= _) _ _ _;refine wpAny_bind ?_;unfold Builtin.SmallTypes.ownedTupleHandOut;have hz6:IsZip (H5.push { cls:=.type "tuple",data:=.seq #[x,y] }) z TI TO .ellipsis:=Heap.get?_push_of_some _ hz5;refine wpAny_bind (wpAny_setField_rec hz6 (by simp) fun H7 hz7 b7=>?_);have hz7:IsZip H7 z TI TO (rawInt H5.objs.size):=hz7;refine wpAny_setField_rec hz7 (by simp) fun H8 hz8 b8=>?_;have hz8:IsZip H8 z TI TO (rawInt H5.objs.size):=hz8;have up:∀c o,c≠z->H5.get? c=some o->H8.get? c=some o:=fun c o c1 e=>b8.extBut _ _ c1 (b7.extBut _ _ c1 (Heap.get?_push_of_some _ e));have hT8:IsPair H8 H5.objs.size x y:=b8.extBut _ _ (zq zl) (b7.extBut _ _ (zq zl) (Heap.get?_push_size _ rfl));rw[sz]at hz8 hT8;refine wpAny_pure ⟨_,rfl,?_⟩;show Q (.ref H5.objs.size) _;rw[sz];exact hQ x y H8 _ px py hz8 (up _ _ Z.o1 to5) (D1.frame _ _ _ s15 fun c hc o e=>up c o (Z.g1 c hc).1 e) (D2.frame _ _ _ s25 fun c hc o e=>up c o (Z.g2 c hc).1 e) hT8 fun c o c1 c2 c3 c4 e=>up c o c1 (k5 c o c1 c2 c3 c4 e)
theorem xAoy{Q:PySem.Fin->Shared->Prop}(D1:Draws prog w A i1 f1 n1 P1 S1)(D2:Draws prog w A i2 f2 n2 P2 S2)(Z:Zap z TI TO i1 i2 f1 f2)(hz:IsZip s.heap z TI TO .none)(hTI:IsPair s.heap TI (.ref i1) (.ref i2))(hTO:IsPair s.heap TO a b)(he:k1=n1\/(k1<n1/\k2=n2))(st1:S1 k1 s.heap)(st2:S2 k2 s.heap)(hE:∀h' tk e,(∀c o,c≠z->c≠TO->c≠i1->c≠i2->s.heap.get? c=some o->h'.get? c=some o)->(∃o,h'.get? e=some o/\o.cls=.type "StopIteration")->E (.ref e) { s with heap:=h',toks:=tk }) :
  wpAny (model prog w) A (Builtin.«zip.__next__» ⟨[.ref z],[]⟩) Q E s:=by
 show wpAny _ _ (field (.ref z) 2 >>= _) _ _ _;refine wpAny_bind (wpAny_field hz rfl (x:=.bool false) rfl ?_);show wpAny _ _ (field (.ref z) 3 >>= _) _ _ _;refine wpAny_bind (wpAny_field hz rfl (x:=.ref TI) rfl (wpAny_bind (wpAny_seqItems hTI rfl ?_)));show wpAny _ _ (Builtin.SmallTypes.ownedTupleIsFree (.ref z) >>= _) _ _ _;refine wpAny_bind ?_;unfold Builtin.SmallTypes.ownedTupleIsFree;refine wpAny_bind (wpAny_field hz rfl (x:=.none) rfl (wpAny_pure ?_))
 simp only[if_true]
 refine wpAny_bind (wpAny_rule (wpAny_bind (wpAny_field hz rfl (x:=.ref TO) rfl (wpAny_bind (wpAny_setField_rec hz (by simp) fun H1 hz1 b1=>wpAny_bind ?_)))));have hz1:IsZip H1 z TI TO .ellipsis:=hz1
 simp only[List.zipIdx_cons,List.zipIdx_nil,List.forIn_cons,List.forIn_nil]
 refine wpAny_bind (wpAny_bind (wpAny_onRaise ?_));show wpAny _ _ (Builtin.SmallTypes.nextOf (.ref i1) >>= _) _ _ _;have s11:S1 k1 H1:=D1.frame _ _ _ st1 fun c hc o e=>b1.extBut c o (Z.g1 c hc).1 e;rcases he with e1|⟨h1,e2⟩
 ·subst e1
  refine wpAny_bind (D1.done _ _ _ s11 fun H2 e x2 he=>?_);obtain⟨oe,hoe,hce⟩:=he;have hz2:IsZip H2 z TI TO .ellipsis:=x2 _ _ Z.a1.symm hz1
  have ne:e≠z:=fun x=>by subst x;rw[hz2]at hoe;cases hoe;simp at hce
  exact wpAny_setField_rec hz2 (by simp) fun H3 _ b3=>hE H3 _ e (fun c o c1 _ c3 _ q=>b3.extBut _ _ c1 (x2 _ _ c3 (b1.extBut _ _ c1 q))) ⟨oe,b3.extBut _ _ ne hoe,hce⟩
 ·subst e2
  refine wpAny_bind (D1.item k1 _ _ _ h1 s11 fun x H2 tk px s12 b2=>wpAny_pure ?_);have to2:IsPair H2 TO a b:=b2.extBut _ _ Z.o2 (b1.extBut _ _ Z.o1 hTO);refine wpAny_bind (wpAny_seqItems to2 rfl (wpAny_bind (wpAny_updateSeq_pair to2 fun H3 to3 b3=>wpAny_bind (wpAny_letGo (wpAny_pure ?_)))));refine wpAny_bind (wpAny_bind (wpAny_onRaise ?_));show wpAny _ _ (Builtin.SmallTypes.nextOf (.ref i2) >>= _) _ _ _;have st3:S2 k2 H3:=D2.frame _ _ _ st2 fun c hc o e=>b3.extBut c o (Z.g2 c hc).2.1 (b2.extBut c o (Z.g2 c hc).2.2 (b1.extBut c o (Z.g2 c hc).1 e));refine wpAny_bind (D2.done _ _ _ st3 fun H4 e x4 he=>?_);obtain⟨oe,hoe,hce⟩:=he;have hz4:IsZip H4 z TI TO .ellipsis:=x4 _ _ Z.a2.symm (b3.extBut _ _ Z.o1.symm (b2.extBut _ _ Z.a1.symm hz1))
  have ne:e≠z:=fun x=>by subst x;rw[hz4]at hoe;cases hoe;simp at hce
  exact wpAny_setField_rec hz4 (by simp) fun H5 _ b5=>hE H5 _ e (fun c o c1 c2 c3 c4 q=>b5.extBut _ _ c1 (x4 _ _ c4 (b3.extBut _ _ c2 (b2.extBut _ _ c3 (b1.extBut _ _ c1 q))))) ⟨oe,b5.extBut _ _ ne hoe,hce⟩
theorem xAlw{Q:Option Value->Shared->Prop}(D1:Draws prog w A.in1 i1 f1 n1 P1 S1)(D2:Draws prog w A.in1 i2 f2 n2 P2 S2)(Z:Zap z TI TO i1 i2 f1 f2)(hz:IsZip s.heap z TI TO .none)(hTI:IsPair s.heap TI (.ref i1) (.ref i2))(hTO:IsPair s.heap TO a b)(h1:k1<n1)(h2:k2<n2)(st1:S1 k1 s.heap)(st2:S2 k2 s.heap)(hQ:∀x y h' tk,P1 k1 x->P2 k2 y->IsZip h' z TI TO (rawInt s.heap.objs.size)->IsPair h' TO x y->S1 (k1+1) h'->S2 (k2+1) h'->IsPair h' s.heap.objs.size x y->(∀c o,c≠z->c≠TO->c≠i1->c≠i2->s.heap.get? c=some o->h'.get? c=some o)->Q (some (.ref s.heap.objs.size)) { s with heap:=h',toks:=tk }) :
  wpAny (model prog w) A (pyNext (.ref z)) Q E s:=by
 have hT:s.TypeIs (.ref z) "zip":=⟨_,hz,rfl⟩;unfold pyNext;exact wpAny_bind (wpAny_attempt (wpAny_callSpecial?_slot hT F.slot_zip_next (wpAny_call_entry F.slot_zip_next hT F.entry_zip_next (xAlv D1 D2 Z hz hTI hTO h1 h2 st1 st2 fun x y h' tk p1 p2 q1 q2 q3 q4 q5 q6=>wpAny_pure (hQ x y h' tk p1 p2 q1 q2 q3 q4 q5 q6)) (F.args_zip_next_1 _))))
theorem xAlx{Q:Option Value->Shared->Prop}(D1:Draws prog w A.in1 i1 f1 n1 P1 S1)(D2:Draws prog w A.in1 i2 f2 n2 P2 S2)(Z:Zap z TI TO i1 i2 f1 f2)(hz:IsZip s.heap z TI TO .none)(hTI:IsPair s.heap TI (.ref i1) (.ref i2))(hTO:IsPair s.heap TO a b)(he:k1=n1\/(k1<n1/\k2=n2))(st1:S1 k1 s.heap)(st2:S2 k2 s.heap)(hQ:∀h' tk,(∀c o,c≠z->c≠TO->c≠i1->c≠i2->s.heap.get? c=some o->h'.get? c=some o)->Q none { s with heap:=h',toks:=tk }) :
  wpAny (model prog w) A (pyNext (.ref z)) Q E s:=by
 have hT:s.TypeIs (.ref z) "zip":=⟨_,hz,rfl⟩;unfold pyNext;refine wpAny_bind (wpAny_attempt (wpAny_callSpecial?_slot hT F.slot_zip_next (wpAny_call_entry F.slot_zip_next hT F.entry_zip_next (xAoy D1 D2 Z hz hTI hTO he st1 st2 fun h' tk e k ⟨o,ho,hc⟩=>?_) (F.args_zip_next_1 _))));exact wpAny_bind (wpAny_isInstance (T:="StopIteration") (b:=true) ⟨o,ho,hc⟩ isSubtype_stop (wpAny_pure (hQ h' tk k)))
end
abbrev itO(c:String)(l:Addr):Obj:={ cls:=.type c,data:=.fields #[.ref l,.int 0 0] }
abbrev zS1(c1:String)(h:Heap)(l1:Addr):Heap:=h.push (itO c1 l1)
abbrev zS2(c1 c2:String)(h:Heap)(l1 l2:Addr):Heap:=(zS1 c1 h l1).push (itO c2 l2)
abbrev zS3(c1 c2:String)(h:Heap)(l1 l2:Addr):Heap:=(zS2 c1 c2 h l1 l2).push { cls:=.type "tuple",data:=.seq #[.ref h.objs.size,.ref (zS1 c1 h l1).objs.size] }
abbrev zS4(c1 c2:String)(h:Heap)(l1 l2:Addr):Heap:=(zS3 c1 c2 h l1 l2).push { cls:=.type "tuple",data:=.seq #[.none,.none] }
abbrev zS5(c1 c2:String)(h:Heap)(l1 l2:Addr):Heap:=(zS4 c1 c2 h l1 l2).push { cls:=.type "zip",data:=.fields #[.none,.bool false,.bool false,.ref (zS2 c1 c2 h l1 l2).objs.size,.ref (zS3 c1 c2 h l1 l2).objs.size] }
theorem xAly(l1 l2:Addr)(xs ys:Array Value):Meets (Builtin.«zip.__new__» ⟨[.type "zip",.ref l1,.ref l2],[]⟩) (fun _ R s=>s.heap.IsTuple l1 xs/\s.heap.IsTuple l2 ys ∧
      R (.ok (.ret (.ref (zS4 "tuple_iterator" "tuple_iterator" s.heap l1 l2).objs.size))) { s with heap:=zS5 "tuple_iterator" "tuple_iterator" s.heap l1 l2 }) :=
 .of_wp fun prog w A R s h=>by
  obtain⟨hp,g,d,tk,os⟩:=s;obtain⟨a1,a2,h⟩:=h;have hsub:=sub_zip;have b1:Heap.IsTuple (Shared.heap ⟨hp,g,d,tk,os⟩) l1 xs:=a1;have b2:Heap.IsTuple (Shared.heap ⟨hp.push (itO "tuple_iterator" l1),g,d,tk,os⟩) l2 ys:=Heap.IsTuple.push a2 _
  wp_walk using wpAny_pyIter_tuple b1,wpAny_pyIter_tuple b2
  exact⟨_,rfl,h⟩
section
variable {prog:Program}{w:World}{A:Around}{E:Value->Shared->Prop}{s:Shared}
theorem xAlz{c1 c2:String}{l1 l2:Addr}{R1 R2:Heap->Prop}{Q:Value->Shared->Prop}(M:Meets (Builtin.«zip.__new__» ⟨[.type "zip",.ref l1,.ref l2],[]⟩) (fun _ R s=>R1 s.heap/\R2 s.heap/\R (.ok (.ret (.ref (zS4 c1 c2 s.heap l1 l2).objs.size))) { s with heap:=zS5 c1 c2 s.heap l1 l2 }))(r1:R1 s.heap)(r2:R2 s.heap)(h:∀h',IsZip h' (s.heap.objs.size+4) (s.heap.objs.size+2) (s.heap.objs.size+3) .none->IsPair h' (s.heap.objs.size+2) (.ref s.heap.objs.size) (.ref (s.heap.objs.size+1))->IsPair h' (s.heap.objs.size+3) .none .none →
   h'.get? s.heap.objs.size=some (itO c1 l1)->h'.get? (s.heap.objs.size+1)=some (itO c2 l2)->(∀c o,s.heap.get? c=some o->h'.get? c=some o)->Q (.ref (s.heap.objs.size+4)) { s with heap:=h' }) :
  wpAny (model prog w) A (call (.type "zip") [.ref l1,.ref l2]) Q E s:=by
 refine callType_new F.called_zip (by decide) (F.typeCall_zip_2 _ _) (F.newCall_zip_2 _ _) (fun obj=>F.args_object_init_3 obj _ _) F.entry_zip_new M ⟨r1,r2,?_⟩;have z1:(zS1 c1 s.heap l1).objs.size=s.heap.objs.size+1:=Heap.size_push ..
 have z2:(zS2 c1 c2 s.heap l1 l2).objs.size=s.heap.objs.size+2:=by rw[Heap.size_push,z1]
 have z3:(zS3 c1 c2 s.heap l1 l2).objs.size=s.heap.objs.size+3:=by rw[Heap.size_push,z2]
 have z4:(zS4 c1 c2 s.heap l1 l2).objs.size=s.heap.objs.size+4:=by rw[Heap.size_push,z3]
 have p:∀{h:Heap} {c:Addr} {o o':Obj},h.get? c=some o->(h.push o').get? c=some o:=fun e=>Heap.get?_push_of_some _ e;have g5:(zS5 c1 c2 s.heap l1 l2).get? (zS4 c1 c2 s.heap l1 l2).objs.size=some _:=Heap.get?_push_size _ rfl;have g4:(zS5 c1 c2 s.heap l1 l2).get? (zS3 c1 c2 s.heap l1 l2).objs.size=some _:=p (Heap.get?_push_size _ rfl);have g3:(zS5 c1 c2 s.heap l1 l2).get? (zS2 c1 c2 s.heap l1 l2).objs.size=some _:=p (p (Heap.get?_push_size _ rfl));have g2:(zS5 c1 c2 s.heap l1 l2).get? (zS1 c1 s.heap l1).objs.size=some _:=p (p (p (Heap.get?_push_size _ rfl)));have g1:(zS5 c1 c2 s.heap l1 l2).get? s.heap.objs.size=some _:=p (p (p (p (Heap.get?_push_size _ rfl))));show _/\_;rw[z2,z3,z4]at g5;rw[z1,z2]at g3;rw[z3]at g4;rw[z1]at g2;rw[z4];exact⟨⟨_,g5,rfl⟩,h _ g5 g3 g4 g1 g2 fun c o x=>p (p (p (p (p x))))⟩
end
def SqS(H:Hp)(t:Bool)(a:Addr)(xs:List V):Prop:=match t with|true=>SqT H a xs|false=>SqL H a xs
def oS(t:Bool)(h:Heap)(a:Addr)(xs:Array Value):Prop:=match t with|true=>h.IsTuple a xs|false=>h.IsList a xs
def iS(t:Bool)(h:Heap)(i a:Addr)(k:Nat):Prop:=match t with|true=>h.IsTupleIter i a k|false=>h.IsListIter i a k
def cS(t:Bool):String:=match t with|true=>"tuple_iterator" |false=>"list_iterator"
section
variable {X:Cx}{pins:List (Addr×Obj)}{σ:St}{H:Hp}{s:Shared}
theorem Inv.seqS{t:Bool}{a:Addr}{xs:List V}(I:Inv X pins σ H s)(h:SqS H t a xs):∃its:List Value,Vals xs its/\oS t s.heap a its.toArray/\a<s.heap.objs.size:=by
 cases t with
 |false =>
  obtain⟨its,r,p,_⟩:=I.list h;exact⟨its,r,p.isList,by obtain⟨_,e,_⟩:=p.isList;exact Heap.lt_size e⟩
 |true =>
  obtain⟨its,r,p,_⟩:=I.tuple h;exact⟨its,r,p,by obtain⟨_,e,_⟩:=p;exact Heap.lt_size e⟩
theorem Inv.seqS_inj{t:Bool}{a:Addr}{xs ys:List V}(I:Inv X pins σ H s)(h:SqS H t a xs)(h':SqS H t a ys):xs=ys:=by
 cases t with
 |false=>exact I.list_inj h h'
 |true=>exact I.tuple_inj h h'
end
theorem iS.obj{t:Bool}{h:Heap}{i a:Addr}{k:Nat}(e:iS t h i a k):∃o,h.get? i=some o/\∀v,o.data≠.cell v:=by
 cases t <;> (obtain⟨o,e,_,d⟩:=e;exact⟨o,e,fun v z=>by rw[d]at z;cases z⟩)
theorem iS.to{t:Bool}{h h':Heap}{i a:Addr}{k:Nat}(e:iS t h i a k)(kk:∀o,h.get? i=some o->h'.get? i=some o):iS t h' i a k:=by
 cases t <;> (obtain⟨o,e,r⟩:=e;exact⟨o,kk o e,r⟩)
theorem drS{prog:Program}{w:World}{A:Around}(hh:A.handled=none)(t:Bool)(it l:Addr)(hne:l≠it)(items:Array Value):Draws prog w A it [it,l] items.size (fun i v=>items[i]?=some v) (fun i h=>iS t h it l i/\oS t h l items):=by
 cases t with
 |false=>exact Draws.list hh it l hne items
 |true=>exact dr_tup hh it l hne items
def ItzS(t1 t2:Bool)(a b:Addr):It :=
 ⟨fun i H=>∃xs ys x y,SqS H t1 a xs/\SqS H t2 b ys/\xs[i]?=some x/\ys[i]?=some y,
  fun i H v H'=>∃p x y,H p=none/\(∀xs,SqS H t1 a xs->xs[i]?=some x)/\(∀ys,SqS H t2 b ys->ys[i]?=some y)/\v=.ref p/\H'=upd H p (.tup [x,y]),
  fun i H=>∃xs ys,SqS H t1 a xs/\SqS H t2 b ys/\i=min xs.length ys.length⟩
theorem xAma{P:Program}{w:World}{K:PySem.W.Frag}{es:List Expr}{k:Nat}{tp:Pos}(t1 t2:Bool)(z TI TO i1 i2 a b:Addr)(n1:a≠i1)(n2:b≠i2)(Z:Zap z TI TO i1 i2 [i1,a] [i2,b]) :
  Turn P w K (.Tuple es k tp) (ItzS t1 t2 a b) [z,TI,TO,i1,i2] z (fun i h=>IsZip h z TI TO .none/\IsPair h TI (.ref i1) (.ref i2)/\(∃u v,IsPair h TO u v)/\iS t1 h i1 a i/\iS t2 h i2 b i) where
 mem:=by simp
 obj:=fun i h st c hc=>by
  obtain⟨h1,h2,⟨u,v,h3⟩,h4,h5⟩:=st
  simp only[List.mem_cons,List.not_mem_nil,or_false]at hc
  rcases hc with rfl|rfl|rfl|rfl|rfl
  ·exact⟨_,h1,fun v z=>by cases z⟩
  ·exact⟨_,h2,fun v z=>by cases z⟩
  ·exact⟨_,h3,fun v z=>by cases z⟩
  ·exact h4.obj
  ·exact h5.obj
 keep:=fun i h h' st kk=>by
  obtain⟨h1,h2,⟨u,v,h3⟩,h4,h5⟩:=st;exact⟨kk z (by simp) _ h1,kk TI (by simp) _ h2,⟨u,v,kk TO (by simp) _ h3⟩,h4.to fun o q=>kk i1 (by simp) o q,h5.to fun o q=>kk i2 (by simp) o q⟩
 item:=by
  intro X hP hw hK hc i pins s σ H E I hf st hg;subst hP hw hK;obtain⟨xs,ys,x,y,hq1,hq2,hx,hy⟩:=hg;obtain⟨its1,r1,p1,z1⟩:=I.seqS hq1;obtain⟨its2,r2,p2,z2⟩:=I.seqS hq2;obtain⟨u1,hu1,ru1⟩:=r1.get hx;obtain⟨u2,hu2,ru2⟩:=r2.get hy;obtain⟨h1,h2,⟨u,v,h3⟩,h4,h5⟩:=st;have hd:=I.ok.hd hc;have D1:=drS (prog:=X.prog) (w:=X.w) (A:=X.A.in1) hd t1 i1 a n1 its1.toArray;have D2:=drS (prog:=X.prog) (w:=X.w) (A:=X.A.in1) hd t2 i2 b n2 its2.toArray
  have l1:i<its1.toArray.size:=by have:=(List.getElem?_eq_some_iff.mp hu1).1;simpa using this
  have l2:i<its2.toArray.size:=by have:=(List.getElem?_eq_some_iff.mp hu2).1;simpa using this
  refine xAlw D1 D2 Z h1 h2 h3 l1 l2 ⟨h4,p1⟩ ⟨h5,p2⟩ fun x' y' h' tk q1 q2 a1 a2 a3 a4 a5 a7=>?_
  have e1:x'=u1:=by
   have q1:its1.toArray[i]?=some x':=q1;rw[ya,hu1]at q1;exact(Option.some.inj q1).symm
  have e2:y'=u2:=by
   have q2:its2.toArray[i]?=some y':=q2;rw[ya,hu2]at q2;exact(Option.some.inj q2).symm
  subst e1 e2;refine⟨_,rfl,wpAny_letOwnedTupleGo_zip (s:={ s with heap:=h',toks:=tk }) a1 fun h'' b1 bs=>?_⟩
  have I1:Inv X pins σ H { s with heap:=h'',toks:=tk }:=I.turnedN (t':=tk) hf fun c o hc q=>bs.extBut c o (fun e=>hc (by simp[e])) (a7 c o (fun e=>hc (by simp[e])) (fun e=>hc (by simp[e])) (fun e=>hc (by simp[e])) (fun e=>hc (by simp[e])) q)
  have zlt:z<s.heap.objs.size:=Heap.lt_size h1;have eT:h''.get? s.heap.objs.size=some { cls:=.type "tuple",data:=.seq #[x',y'] }:=bs.extBut _ _ (zq zlt) a5;have nT:H s.heap.objs.size=none:=I.hok.fresh (qd _);have u4:∀o,h'.get? i1=some o->h''.get? i1=some o:=fun o q=>bs.extBut _ _ Z.a1 q;have u5:∀o,h'.get? i2=some o->h''.get? i2=some o:=fun o q=>bs.extBut _ _ Z.a2 q;refine⟨.ref s.heap.objs.size,upd H s.heap.objs.size (.tup [x,y]),I.track I1 (qd _) nT ⟨?_,[x',y'],.cons ru1 (.cons ru2 .nil),⟨_,eT,rfl,_,rfl⟩⟩,rfl,⟨_,x,y,nT,fun l hl=>by rw[I.seqS_inj hl hq1];exact hx,fun l hl=>by rw[I.seqS_inj hl hq2];exact hy,rfl,rfl⟩,⟨b1,?_,⟨x',y',bs.extBut _ _ Z.o1 a2⟩,a3.1.to u4,a4.1.to u5⟩,fun c hc=>?_⟩
  ·show 2≤sizeLine
   decide
  ·exact bs.extBut _ _ Z.t1 (a7 _ _ Z.t1 Z.t2 Z.t3 Z.t4 h2)
  ·obtain⟨o,q⟩:∃o,s.heap.get? c=some o:=by
    simp only[List.mem_cons,List.not_mem_nil,or_false]at hc
    rcases hc with rfl|rfl|rfl|rfl|rfl
    ·exact⟨_,h1⟩
    ·exact⟨_,h2⟩
    ·exact⟨_,h3⟩
    ·obtain⟨o,q,_⟩:=h4.obj;exact⟨o,q⟩
    ·obtain⟨o,q,_⟩:=h5.obj;exact⟨o,q⟩
   rw[xAal (qi (Heap.lt_size q))];exact(hf c hc).1
 done:=by
  intro X hP hw hK hc i pins s σ H E I hf st hg;subst hP hw hK;obtain⟨xs,ys,hq1,hq2,hl⟩:=hg;obtain⟨its1,r1,p1,z1⟩:=I.seqS hq1;obtain⟨its2,r2,p2,z2⟩:=I.seqS hq2;obtain⟨h1,h2,⟨u,v,h3⟩,h4,h5⟩:=st;have hd:=I.ok.hd hc;have D1:=drS (prog:=X.prog) (w:=X.w) (A:=X.A.in1) hd t1 i1 a n1 its1.toArray;have D2:=drS (prog:=X.prog) (w:=X.w) (A:=X.A.in1) hd t2 i2 b n2 its2.toArray;have e1:=r1.length;have e2:=r2.length
  refine xAlx (k1:=i) (k2:=i) D1 D2 Z h1 h2 h3 ?_ ⟨h4,p1⟩ ⟨h5,p2⟩ fun h' tk kk=>⟨rfl,I.turnedN (t':=tk) hf fun c o hc q=>kk c o (fun e=>hc (by simp[e])) (fun e=>hc (by simp[e])) (fun e=>hc (by simp[e])) (fun e=>hc (by simp[e])) q⟩
  rw[zi,zi];omega
 self:=fun _ _ _ _ _ st h=>wpAny_pyIter_zip st.1 h
theorem xArr{n a b:Addr}(h1:a<n)(h2:b<n):Zap (n+4) (n+2) (n+3) n (n+1) [n,a] [n+1,b]:=by
 have x1:a<n:=h1;have x2:b<n:=h2;refine⟨?_,?_,?_,?_,?_,?_,?_,?_,?_,?_,fun c hc=>?_,fun c hc=>?_⟩
 case refine_11 =>
  simp only[List.mem_cons,List.not_mem_nil,or_false]at hc
  rcases hc with rfl|rfl
  ·exact⟨qi (vi (by decide)),qi (vi (by decide)),qi (vi (by decide))⟩
  ·exact⟨qi (yj _ x1),qi (yj _ x1),qi (yj _ x1)⟩
 case refine_12 =>
  simp only[List.mem_cons,List.not_mem_nil,or_false]at hc
  rcases hc with rfl|rfl
  ·exact⟨qi (vj (by decide) n),qi (vj (by decide) n),zq (vi (by decide))⟩
  ·exact⟨qi (yj _ x2),qi (yj _ x2),qi x2⟩
 ·exact qi (vj (by decide) n)
 ·exact qi (vj (by decide) n)
 ·exact zq (vi (by decide))
 ·exact zq (vj (by decide) n)
 ·exact qi (vj (by decide) n)
 ·exact zq (vi (by decide))
 ·exact zq (vj (by decide) n)
 ·exact qi (vi (by decide))
 ·exact qi (vj (by decide) n)
 ·exact qi (vi (by decide))
section
variable {X:Cx}
inductive IiZipS(t1:Bool)(t2:Bool)(R:It->Hp->Prop)(vs:List V)(H1:Hp):Prop
 |mk (a:_) (b:_) (h0_:vs=[.ref a,.ref b]) (h1_:(∃xs,SqS H1 t1 a xs)) (h2_:(∃ys,SqS H1 t2 b ys)) (h3_:R (ItzS t1 t2 a b) H1):IiZipS t1 t2 R vs H1
def iZipS(t1 t2:Bool)(ta:TA):TI:=fun σ H R=>ta σ H fun vs H1=>IiZipS t1 t2 R vs H1
theorem xAnu{t1 t2:Bool}{es:List Expr}{k:Nat}{tp:Pos}{a b:Expr}{ta:TA}{p pos:Pos}(M:∀l1 l2 xs ys,Meets (Builtin.«zip.__new__» ⟨[.type "zip",.ref l1,.ref l2],[]⟩) (fun _ R s=>oS t1 s.heap l1 xs/\oS t2 s.heap l2 ys/\R (.ok (.ret (.ref (zS4 (cS t1) (cS t2) s.heap l1 l2).objs.size))) { s with heap:=zS5 (cS t1) (cS t2) s.heap l1 l2 }))(hg:Gl X "zip")(hm:X.mg "zip"=none)(ha:PA X [a,b] ta)(hs:starEach [a,b] X.env=(false,eval a X.env)::starEach [b] X.env:=by rfl)(hpl:(backTo pos (starEach [b] X.env)).any (·.1)=false:=by rfl):PI X (.Tuple es k tp) (.Call (.Name "zip" p) [a,b] [] pos) (iZipS t1 t2 ta):=by
 refine⟨?_⟩;intro pins s σ H R I h;refine Call_ (xAho I hg hm boot_zip (PyProof.Rows.callWith_type1 (thn (ha pos pins s σ H _ I h) fun us s1 ⟨vs,H1,I1,r1,q1⟩=>?_) hs hpl));obtain⟨l1,l2,e,⟨xs,hq1⟩,⟨ys,hq2⟩,q⟩:=q1;subst e;obtain⟨u1,u2,rfl,ru1,ru2⟩:=r1.two;cases ru1;cases ru2;obtain⟨its1,rv1,p1,lt1⟩:=I1.seqS hq1;obtain⟨its2,rv2,p2,lt2⟩:=I1.seqS hq2;refine xAlz (c1:=cS t1) (c2:=cS t2) (R1:=fun h=>oS t1 h l1 its1.toArray) (R2:=fun h=>oS t2 h l2 its2.toArray) (M l1 l2 its1.toArray its2.toArray) p1 p2 fun h' a1 a2 a3 a4 a5 a7=>wpAny_pyIter_zip a1 ?_;have I2:Inv X pins σ H1 { s1 with heap:=h' }:=I1.kept (t':=s1.toks) a7
 have j:∀(t:Bool) (c l:Addr),h'.get? c=some (itO (cS t) l)->iS t h' c l 0:=fun t c l e=>by cases t <;> exact⟨_,e,rfl,rfl⟩
 refine⟨_,[s1.heap.objs.size+4,s1.heap.objs.size+2,s1.heap.objs.size+3,s1.heap.objs.size,s1.heap.objs.size+1],_,_,H1,rfl,I2,xAma t1 t2 _ _ _ _ _ l1 l2 (qi lt1) (qi (w6 lt2)) (xArr lt1 lt2),⟨a1,a2,⟨_,_,a3⟩,j t1 _ _ a4,j t2 _ _ a5⟩,fun c hc=>?_,q⟩
 have hc':s1.heap.objs.size≤c:=by
  simp only[List.mem_cons,List.not_mem_nil,or_false]at hc
  rcases hc with rfl|rfl|rfl|rfl|rfl
  ·exact jc _ _
  ·exact jc _ _
  ·exact jc _ _
  ·exact qd _
  ·exact jc _ _
 exact I1.fpOk hc' (I1.hok.fresh hc')
theorem xAoz{es:List Expr}{k:Nat}{tp:Pos}{a b:Expr}{ta:TA}{p pos:Pos}(hg:Gl X "zip")(hm:X.mg "zip"=none)(ha:PA X [a,b] ta)(hs:starEach [a,b] X.env=(false,eval a X.env)::starEach [b] X.env:=by rfl)(hpl:(backTo pos (starEach [b] X.env)).any (·.1)=false:=by rfl):PI X (.Tuple es k tp) (.Call (.Name "zip" p) [a,b] [] pos) (iZipS true true ta):=xAnu (t1:=true) (t2:=true) xAly hg hm ha hs hpl
end
theorem xAnv{t1 t2:Bool}{a b:Addr}{xs ys:List V}{own:List Str}{fr:List (Str×Nat)}{g:TG}{tt:TT}{te:TE}{σ:St}{H:Hp}{Q:VK}(Pv:Nat->List V->Hp->Prop)(h0:Pv 0 [] H)(hl:∀i zs H,Pv i zs H->SqS H t1 a xs/\SqS H t2 b ys)(hz:xs.length≤sizeLine)(hs:∀i x y zs H' p (K1:V->Hp->Prop) (K0:Hp->Prop),xs[i]?=some x->ys[i]?=some y->Pv i zs H'->H' p=none->(∀v H4,Pv (i+1) (zs++[v]) H4->K1 v H4)->(∀H3,Pv (i+1) zs H3->K0 H3) →
   g (.ref p) (compSt own fr σ) (upd H' p (.tup [x,y])) fun σ2 H2=>tt σ2 H2 fun b H3=>if b=true then te σ2 H3 K1 else K0 H3)(hd:∀H' p zs,Pv (min xs.length ys.length) zs H'->zs.length≤xs.length->H' p=none->Q (.ref p) (upd H' p (.lst zs))):LCb own fr g tt te σ Q (ItzS t1 t2 a b) H:=by
 refine⟨fun i m zs H=>m=min xs.length ys.length - i/\i≤min xs.length ys.length/\zs.length≤i/\Pv i zs H,⟨min xs.length ys.length,rfl,w5 _,w5 _,h0⟩,?_⟩;rintro i m zs H ⟨rfl,hi,hy,p⟩;obtain⟨q1,q2⟩:=hl _ _ H p
 by_cases hlt:i<min xs.length ys.length
 ·have h1:i<xs.length:=by omega
  have h2:i<ys.length:=by omega
  refine .inr ⟨⟨xs,ys,xs[i],ys[i],q1,q2,qj h1,qj h2⟩,by omega,fun v H' y=>?_⟩;obtain⟨r,x,z,hn,e1,e2,rfl,rfl⟩:=y
  refine hs i x z zs H r _ _ (e1 xs q1) (e2 ys q2) p hn (fun v H4 p4=>⟨min xs.length ys.length - (i+1),by omega,rfl,hlt,?_,p4⟩) fun H3 p3=>⟨min xs.length ys.length - (i+1),by omega,rfl,hlt,by omega,p3⟩
  rw[ql,zm];omega
 ·have e:i=min xs.length ys.length:=by omega
  exact .inl ⟨⟨xs,ys,q1,q2,e⟩,fun q hq=>hd H q zs (by rw[←e];exact p) (by omega) hq⟩
section
variable {X:Cx}
inductive IrCatV(x:V)(y:V)(H:Hp)(Q:VK):Prop
 |mk (a:_) (b:_) (xs:_) (ys:_) (h0_:x=.ref a) (h1_:y=.ref b) (h2_:H a=some (.tup xs)) (h3_:H b=some (.tup ys)) (h4_:xs.length+ys.length≤sizeLine) (h5_:∀p H',Same H H'->H' p=some (.tup (xs++ys))->Q (.ref p) H'):IrCatV x y H Q
def rCatV:R2:=fun x y H Q=>IrCatV x y H Q
theorem xArs:OpR X (binaryOp .Add) rCatV:=by
 intro pins s σ H x y v u Q I rx ry h;obtain⟨a,b,xs,ys,rfl,rfl,ha,hb,hz,q⟩:=h
 by_cases hx:xs=[]
 ·subst hx
  cases rx;cases ry;obtain⟨its,r1,p1,_⟩:=I.tuple (SqT.of ha);obtain⟨its2,r2,p2,_⟩:=I.tuple (SqT.of hb);obtain⟨⟨cls,dd,data,sl⟩,ho,hc,n,hd⟩:=id p1;obtain⟨⟨cls2,dd2,data2,sl2⟩,ho2,hc2,n2,hd2⟩:=id p2
  simp only at hc hd hc2 hd2
  subst hc hd hc2 hd2;have e0:its=[]:=r1.nil_iff.mpr rfl
  exact concat_meets ⟨_,ho,rfl⟩ ⟨_,ho2,rfl⟩ noFill_tuple_add seq_tuple_add PySem.F.slot_tuple_add PySem.F.entry_tuple_add (PySem.F.args_tuple_add_2 _ _)
   (tuple_addW0 a b its.toArray its2.toArray n n2 dd dd2 sl sl2 (by simp[e0])) ⟨ho,ho2,⟨.ref b,H,I,rfl,q b H (Same.refl _) hb⟩⟩
 ·exact xArp pins s σ H _ _ v u Q I rx ry ⟨a,b,xs,ys,rfl,rfl,ha,hb,hx,hz,q⟩
end
def OnlyM(Ps:List Addr)(M:Addr->Option (List V))(H:Hp):Prop:=∀b,(b∈Ps/\H b=some (.tbl #[]))\/(b∉Ps/\∃xs,M b=some xs/\H b=some (.tup xs))\/(b∉Ps/\M b=none/\(H b=none\/∃o xs,H b=some (.frz o (.lst xs))))
def noLst(K:PySem.W.Frag):Bool:=K.all fun p=>match p.2.cls,p.2.data with
 |.type t,.seq ..=>!(t=="list")
 |_,_=>true
theorem xAmb{K:PySem.W.Frag}{a:Addr}{us:Array Value}{n:Nat}(h:noLst K=true)(e:K.lookup a=some { cls:=.type "list",data:=.seq us n }):False:=by
 have:=zg.mp h _ (PySem.W.mem_of_lookupK e);have h2:(!(("list":String)=="list"))=true:=this;exact absurd h2 (by decide)
end L2
namespace Stb
open PySem SetTable
def Mk(m:Nat):Prop:=m=7\/m=31\/m=127
def F(M:Nat):Nat->Nat
 | 0=>0
 |n+1=>(F M n * 5+1) % M
theorem F_all7:∀j,j<8->∃a,a<8/\F 8 a=j:=by decide +kernel
theorem xArt:∀j,j<32->∃a,a<32/\F 32 a=j:=by decide +kernel
theorem xApa:∀j,j<128->∃a,a<128/\F 128 a=j:=by decide +kernel
theorem F_all{m:Nat}(h:Mk m):∀j,j<m+1->∃a,a<m+1/\F (m+1) a=j:=by
 rcases h with rfl|rfl|rfl
 ·exact F_all7
 ·exact xArt
 ·exact xApa
theorem F_back{m:Nat}(h:Mk m):F (m+1) (m+1)=0:=by
 rcases h with rfl|rfl|rfl <;> decide +kernel
def lp(m:Nat):Nat->Nat×Nat->Nat×Nat
 | 0,x=>x
 |r+1,x=>lp m r (leap m x.1 x.2)
theorem xAru(m r r':Nat)(x:Nat×Nat):lp m (r+r') x=lp m r' (lp m r x):=by
 induction r generalizing x with
 |zero=>rw[yk];rfl
 |succ r ih=>rw[Nat.succ_add];exact ih _
theorem lp_lt{m:Nat}:∀(r:Nat) (x:Nat×Nat),x.1<m+1->(lp m r x).1<m+1
 | 0,_,h=>h
 |r+1,x,_=>lp_lt r _ (yb _ (ym _))
theorem xArv(m:Nat):∀(r:Nat) (x:Nat×Nat),(lp m r x).2=x.2 / 32 ^ r
 | 0,x=>by rw[Nat.pow_zero,Nat.div_one];rfl
 |r+1,x=>by
  show(lp m r (leap m x.1 x.2)).2=_;rw[xArv m r,show(leap m x.1 x.2).2=x.2 / 32 from rfl,Nat.div_div_eq_div_mul,Nat.pow_succ,Nat.mul_comm]
theorem xAjn(m:Nat):∀(r a:Nat),lp m r (F (m+1) a,0)=(F (m+1) (a+r),0)
 | 0,_=>rfl
 |r+1,a=>by
  show lp m r (leap m (F (m+1) a) 0)=_
  have:leap m (F (m+1) a) 0=(F (m+1) (a+1),0):=by
   show((F (m+1) a * 5+1+0 / 32) % (m+1),0 / 32)=_;rw[Nat.zero_div,jr];rfl
  rw[this,xAjn m r (a+1),Nat.add_right_comm,js]
theorem F_per{m:Nat}(h:Mk m)(n:Nat):F (m+1) (m+1+n)=F (m+1) n:=by
 induction n with
 |zero=>exact F_back h
 |succ n ih =>
  show(F (m+1) (m+1+n) * 5+1) % (m+1)=_;rw[ih];rfl
theorem reach{m i q j:Nat}(h:Mk m)(hi:i<m+1)(hq:q<2 ^ 64)(hj:j<m+1):∃r,r≤m+13/\(lp m r (i,q)).1=j:=by
 have h1:=lp_lt 13 (i,q) hi
 have h2:(lp m 13 (i,q)).2=0:=by
  rw[xArv];exact Nat.div_eq_of_lt (ze hq (by decide))
 obtain⟨a,ha,ea⟩:=F_all h _ h1;obtain⟨b,hb,eb⟩:=F_all h _ hj;have e0:lp m 13 (i,q)=(F (m+1) a,0):=Prod.ext ea.symm h2
 by_cases q:a≤b
 ·refine⟨13+(b - a),by omega,?_⟩
  rw[xAru,e0,xAjn];show F (m+1) (a+(b - a))=j;rw[Nat.add_sub_cancel' q,eb]
 ·refine⟨13+(m+1 - a+b),by omega,?_⟩
  rw[xAru,e0,xAjn];show F (m+1) (a+(m+1 - a+b))=j;rw[show a+(m+1 - a+b)=m+1+b from by omega,F_per h,eb]
def adv(t:SetTable):Nat->Probe->Probe
 | 0,p=>p
 |n+1,p=>adv t n (t.advance p)
theorem xAff(t:SetTable)(n n':Nat)(p:Probe):adv t (n+n') p=adv t n' (adv t n p):=by
 induction n generalizing p with
 |zero=>rw[yk];rfl
 |succ n ih=>rw[Nat.succ_add];exact ih _
def at'(m i q:Nat):Probe:={ j:=i,more:=runEnd m i - i,i,perturb:=q,dummy:=none }
theorem xAjo(t:SetTable):∀(c k:Nat) (p:Probe),p.more=c+k->adv t c p={ p with j:=p.j+c,more:=k }
 | 0,k,p,h=>by
  have:p.more=k:=by omega
  show p={ p with j:=p.j+0,more:=k };rw[←this];rfl
 |c+1,k,p,h=>by
  show adv t c (t.advance p)=_
  have e:t.advance p={ p with j:=p.j+1,more:=p.more - 1 }:=by
   unfold advance;rw[if_pos (by omega)]
  rw[e,xAjo t c k _ (by show p.more - 1=c+k;omega)];show({ p with j:=p.j+1+c,more:=k }:Probe)={ p with j:=p.j+(c+1),more:=k };rw[show p.j+1+c=p.j+(c+1) from by omega]
theorem run_le(m i:Nat):runEnd m i - i≤9:=by
 unfold runEnd
 split <;> omega
theorem xAha(t:SetTable)(i q:Nat):adv t (runEnd t.mask i - i+1) (at' t.mask i q)=at' t.mask (leap t.mask i q).1 (leap t.mask i q).2:=by
 rw[xAff,xAjo t (runEnd t.mask i - i) 0 (at' t.mask i q) (by rw[jr];rfl)];show t.advance { at' t.mask i q with j:=_,more:=0 }=_;unfold advance;rw[if_neg (by show ¬(0>0);omega)];rfl
theorem xAfg(t:SetTable):∀(r i q:Nat),∃n,n≤10 * r/\adv t n (at' t.mask i q)=at' t.mask (lp t.mask r (i,q)).1 (lp t.mask r (i,q)).2
 | 0,i,q=>⟨0,qd _,rfl⟩
 |r+1,i,q=>by
  obtain⟨n,hn,e⟩:=xAfg t r (leap t.mask i q).1 (leap t.mask i q).2;have:=run_le t.mask i;refine⟨runEnd t.mask i - i+1+n,by omega,?_⟩;rw[xAff,xAha,e];rfl
theorem xAnw(h:Int):bits h<2 ^ 64:=by
 unfold bits;have h1:(0:Int)≤h % (2 ^ 64:Int):=Int.emod_nonneg _ (by decide);have h2:h % (2 ^ 64:Int)<2 ^ 64:=Int.emod_lt_of_pos _ (by decide);omega
theorem comes{t:SetTable}(hm:Mk t.mask)(h:Int){j:Nat}(hj:j<t.mask+1):∃n,n<10 * turns t.mask/\(adv t n (t.probeStart h)).j=j:=by
 have hi:bits h % (t.mask+1)<t.mask+1:=yb _ (ym _);obtain⟨r,hr,er⟩:=reach hm hi (xAnw h) hj;obtain⟨n,hn,e⟩:=xAfg t r (bits h % (t.mask+1)) (bits h);refine⟨n,by unfold turns;omega,?_⟩;show(adv t n (at' t.mask (bits h % (t.mask+1)) (bits h))).j=j;rw[e];exact er
theorem xAhb(t:SetTable):∀(n:Nat) (p:Probe),(adv t n p).dummy=p.dummy
 | 0,_=>rfl
 |n+1,p=>by
  show(adv t n (t.advance p)).dummy=_;rw[xAhb t n];unfold advance
  split <;> rfl
theorem xAjp{t:SetTable}{j:Nat}(hd:t.dummies=#[])(h:j∉t.place.toList):t.slot j=.empty:=by
 unfold slot
 have h1:¬(t.place[below t.place j]?==some j)=true:=fun z=>by
  have z:=beq_iff_eq.mp z;exact h (qz (by rw[wc];exact z))
 have h2:¬(has t.dummies j)=true:=by rw[hd];unfold has;simp
 simp only[h1,h2]
 rfl
theorem slot_live{t:SetTable}{j i:Nat}(h:t.slot j=.live i):i<t.place.size:=by
 unfold slot at h;dsimp only at h
 split at h
 ·rename_i h1
  injection h with h;rw[←h];exact(wx.mp (beq_iff_eq.mp h1)).1
 ·split at h <;> cases h
theorem slot_nodum{t:SetTable}{j:Nat}(hd:t.dummies=#[]):t.slot j≠.dummy:=by
 unfold slot;dsimp only
 split
 ·simp
 ·rw[if_neg (by rw[hd];unfold has;simp)]
  simp
theorem xAmc{l:List Nat}{M:Nat}(h:l.length<M):∃j,j<M/\j∉l:=by
 refine Classical.byContradiction fun z=>?_;have:(List.range M).length≤l.length:=L2.nodup_len List.nodup_range fun x hx=>Classical.byContradiction fun y=>z ⟨x,wq.mp hx,y⟩;rw[yz]at this;omega
structure Way(t:SetTable)(h:Int)(N:Nat):Prop where
 few:N<10 * turns t.mask
 last:t.slot (adv t N (t.probeStart h)).j=.empty
 first:∀n,n<N->t.slot (adv t n (t.probeStart h)).j≠.empty
theorem way_of{t:SetTable}(hm:Mk t.mask)(hd:t.dummies=#[])(hf:t.place.size<t.mask+1)(h:Int):∃N,Way t h N:=by
 obtain⟨j,hj,hn⟩:=xAmc (l:=t.place.toList) (M:=t.mask+1) (by simpa using hf);obtain⟨n,hn',e⟩:=comes hm h hj;have hex:∃n,n<10 * turns t.mask/\t.slot (adv t n (t.probeStart h)).j=.empty:=⟨n,hn',by rw[e];exact xAjp hd hn⟩;clear hn' e n;obtain⟨n,h1,h2⟩:=hex
 induction n using Nat.strongRecOn with
 |_ n ih =>
  by_cases q:∃k,k<n/\t.slot (adv t k (t.probeStart h)).j=.empty
  ·obtain⟨k,hk,e⟩:=q
   exact ih k hk (by omega) e
  ·exact⟨n,h1,h2,fun k hk e=>q ⟨k,hk,e⟩⟩
theorem xAhc{m:Nat}{owner:Array (Option Nat)}:∀(r f i q:Nat),r<f->owner.getD (lp m r (i,q)).1 (some 0)=none->∃j,layClean.free m owner f i q=some j/\owner.getD j (some 0)=none
 |_,0,_,_,h,_=>absurd h (yn _)
 |r,f+1,i,q,h,ho=>by
  unfold layClean.free
  cases e:(List.range (runEnd m i+1 - i)).find? fun k=>(owner.getD (i+k) (some 0)).isNone with
  |some k =>
   have:=jt e;exact⟨i+k,rfl,Option.isNone_iff_eq_none.mp this⟩
  |none =>
   cases r with
   |zero =>
    have h0:(0:Nat)∈List.range (runEnd m i+1 - i):=wq.mpr (by unfold runEnd;split <;> omega);have:=j5.mp e 0 h0;have ho:owner.getD i (some 0)=none:=ho;rw[jr,ho]at this;exact absurd rfl this
   |succ r =>
    dsimp only;exact xAhc r f (leap m i q).1 (leap m i q).2 (by omega) ho
theorem xAjq{v:Nat}:∀{l:List (Option Nat)} {j:Nat},l[j]?=some none->((l.set j (some v)).filterMap id).Perm (v::l.filterMap id)
 |[],_,h=>by cases h
 |x::l,0,h=>by
  cases h;exact .refl _
 |x::l,j+1,h=>by
  have ih:=xAjq (v:=v) (l:=l) (j:=j) (by simpa using h);rw[List.set_cons_succ]
  cases x with
  |none=>exact ih
  |some y=>exact(ih.cons y).trans (.swap _ _ _)
structure Lay(m k:Nat)(owner:Array (Option Nat)):Prop where
 size:owner.size=m+1
 perm:(owner.toList.filterMap id).Perm (List.range k)
theorem xApb{m k:Nat}{owner:Array (Option Nat)}(hm:Mk m)(L:Lay m k owner)(hk:k<m+1)(h:Int):∃j,layClean.free m owner (turns m) (bits h % (m+1)) (bits h)=some j/\Lay m (k+1) (owner.setIfInBounds j (some k)):=by
 have hex:∃j,j<m+1/\owner.getD j (some 0)=none:=by
  refine Classical.byContradiction fun z=>?_
  have h1:owner.toList.length≤(owner.toList.filterMap id).length:=by
   have:∀l:List (Option Nat),(∀x∈l,x≠none)->l.length≤(l.filterMap id).length:=fun l=>by
    induction l with
    |nil=>intro _;exact qd _
    |cons x l ih =>
     intro hx
     cases x with
     |none=>exact absurd rfl (hx none qm)
     |some y=>exact Nat.succ_le_succ (ih fun x hm=>hx x (qk _ hm))
   refine this _ fun x hx e=>?_;obtain⟨i,hi,ei⟩:=yo hx
   have hi':i<owner.size:=by simpa using hi
   refine z ⟨i,by rw[←L.size];exact hi',?_⟩;rw[vp,zj hi']
   have:owner[i]=none:=by
    have:=ei.trans e;simpa using this
   rw[this];rfl
  have h2:=L.perm.length_eq;have h3:=L.size
  simp at h1 h2
  omega
 obtain⟨j0,hj0,e0⟩:=hex;obtain⟨r,hr,er⟩:=reach hm (yb (bits h) (ym m)) (xAnw h) hj0;obtain⟨j,ej,eo⟩:=xAhc (m:=m) (owner:=owner) r (turns m) (bits h % (m+1)) (bits h) (by unfold turns;omega) (by rw[er];exact e0)
 have hj:j<owner.size:=by
  refine Classical.byContradiction fun z=>?_;rw[vp,j6 (by omega)]at eo;cases eo
 have hl:owner.toList[j]?=some none:=by
  rw[vp,zj hj]at eo;rw[wc,zj hj];exact congrArg some eo
 refine⟨j,ej,by rw[Array.size_setIfInBounds];exact L.size,?_⟩;rw[Array.toList_setIfInBounds];refine(xAjq hl).trans ?_;rw[List.range_succ];exact(L.perm.cons k).trans (j7 k _).symm
def tm(m:Nat):SetTable:={ mask:=m,place:=#[],dummies:=#[],finger:=0,led:=false,moves:=0,plain:=true }
def wj(m:Nat)(h:Int)(n:Nat):Nat:=(adv (tm m) n (at' m (bits h % (m+1)) (bits h))).j
theorem xArw(t:SetTable):∀(n:Nat) (p:Probe),adv t n p=adv (tm t.mask) n p
 | 0,_=>rfl
 |n+1,p=>xArw t n (t.advance p)
theorem wj_eq(t:SetTable)(h:Int)(n:Nat):(adv t n (t.probeStart h)).j=wj t.mask h n:=by rw[xArw];rfl
def Asc(xs:Array Nat):Prop:=∀(a b x y:Nat),xs[a]?=some x->xs[b]?=some y->a<b->x<y
theorem xAfz{xs:Array Nat}(hs:Asc xs){j:Nat}:∀(f lo hi:Nat),lo≤hi->hi≤xs.size->hi - lo≤f->(∀a x,a<lo->xs[a]?=some x->x<j)->(∀a x,hi≤a->xs[a]?=some x->j≤x) →
  (∀a x,a<below.go xs j f lo hi->xs[a]?=some x->x<j)/\(∀a x,below.go xs j f lo hi≤a->xs[a]?=some x->j≤x)/\below.go xs j f lo hi≤xs.size
 | 0,lo,hi,h1,h2,h3,h4,h5=>by
  have:lo=hi:=by omega
  subst this;exact⟨h4,h5,h2⟩
 |f+1,lo,hi,h1,h2,h3,h4,h5=>by
  unfold below.go
  by_cases q:lo<hi
  ·rw[if_pos q]
   dsimp only
   have hm:(lo+hi) / 2<xs.size:=by omega
   have em:xs[(lo+hi) / 2]?=some xs[(lo+hi) / 2]:=zj hm;rw[vp,em,ju]
   by_cases c:xs[(lo+hi) / 2]<j
   ·rw[if_pos c]
    refine xAfz hs f _ _ (by omega) h2 (by omega) (fun a x ha ex=>?_) h5
    by_cases e:a=(lo+hi) / 2
    ·subst e;rw[em]at ex;cases ex;exact c
    ·exact wy (hs a _ x _ ex em (by omega)) c
   ·rw[if_neg c]
    refine xAfz hs f _ _ (by omega) (by omega) (by omega) h4 fun a x ha ex=>?_
    by_cases e:a=(lo+hi) / 2
    ·subst e;rw[em]at ex;cases ex;exact jk c
    ·exact qf (jk c) (qg (hs _ a _ x em ex (by omega)))
  ·rw[if_neg q]
   have:lo=hi:=by omega
   subst this;exact⟨h4,h5,h2⟩
theorem below_ok{xs:Array Nat}(hs:Asc xs)(j:Nat):(∀a x,a<below xs j->xs[a]?=some x->x<j)/\(∀a x,below xs j≤a->xs[a]?=some x->j≤x)/\below xs j≤xs.size :=
 xAfz hs xs.size 0 xs.size (w5 _) (qd _) (by omega) (fun a x h=>absurd h (yn _)) fun a x h e=>by
  rw[j6 h]at e;cases e
theorem xApc{xs:Array Nat}(hs:Asc xs){i j:Nat}(h:xs[i]?=some j):below xs j=i:=by
 obtain⟨h1,h2,h3⟩:=below_ok hs j;rcases j8 (below xs j) i with q|q|q
 ·have hb:below xs j<xs.size:=wy q (wx.mp h).1
  have e:=zj hb;have a1:=h2 _ _ (qd _) e;have a2:=hs _ _ _ _ e h q;omega
 ·exact q
 ·have:=h1 _ _ q h
  omega
theorem slot_at{t:SetTable}(hs:Asc t.place){i j:Nat}(h:t.place[i]?=some j):t.slot j=.live i:=by
 unfold slot;dsimp only;rw[xApc hs h,if_pos (by rw[h];exact beq_self_eq_true _)]
theorem slot_of{t:SetTable}{i j:Nat}(h:t.slot j=.live i):t.place[i]?=some j:=by
 unfold slot at h;dsimp only at h
 split at h
 ·rename_i h1
  injection h with h;rw[←h];exact beq_iff_eq.mp h1
 ·split at h <;> cases h
theorem get_insertAt{α:Type}(xs:Array α)(p:Nat)(x:α)(hp:p≤xs.size)(i:Nat):(insertAt xs p x)[i]?=if i<p then xs[i]? else if i=p then some x else xs[i - 1]?:=by
 have e:(insertAt xs p x).toList=xs.toList.take p++x::xs.toList.drop p:=by
  unfold insertAt
  simp[Array.toList_extract,List.extract_eq_drop_take]
  rw[List.take_of_length_le (by simp)]
 rw[←wc,e,←wc,←wc]
 have hl:(xs.toList.take p).length=p:=by rw[zw,zx];omega
 by_cases h1:i<p
 ·rw[if_pos h1,yh (by omega),List.getElem?_take,if_pos h1]
 ·rw[if_neg h1,jo (by omega),hl]
  by_cases h2:i=p
  ·subst h2;rw[if_pos rfl,Nat.sub_self];rfl
  ·rw[if_neg h2]
   obtain⟨k,hk⟩:∃k,i - p=k+1:=⟨i - p - 1,by omega⟩;rw[hk,jd,List.getElem?_drop,show p+k=i - 1 from by omega]
def Cn(m:Nat)(G:Nat->Prop)(j:Nat)(h:Int):Prop:=∃n,wj m h n=j/\∀k,k<n->G (wj m h k)
theorem Cn.mono{m:Nat}{G G':Nat->Prop}{j:Nat}{h:Int}(x:Cn m G j h)(g:∀k,G k->G' k):Cn m G' j h:=by
 obtain⟨n,e,q⟩:=x;exact⟨n,e,fun k hk=>g _ (q k hk)⟩
structure Iv{α:Type}(m:Nat)(place:Array Nat)(es:Array (Int×α)):Prop where
 asc:Asc place
 size:place.size=es.size
 ch:∀(i j:Nat) (e:Int×α),place[i]?=some j->es[i]?=some e->Cn m (fun k=>∃u:Nat,place[u]?=some k) j e.1
theorem Iv.put{α:Type}{m:Nat}{place:Array Nat}{es:Array (Int×α)}(I:Iv m place es){j:Nat}{e:Int×α}(hj:∀u:Nat,place[u]?≠some j)(c:Cn m (fun k=>∃u:Nat,place[u]?=some k) j e.1):Iv m (insertAt place (below place j) j) (insertAt es (below place j) e):=by
 obtain⟨h1,h2,h3⟩:=below_ok I.asc j;have h3':=h3;rw[I.size]at h3'
 have up:∀k,(∃u:Nat,place[u]?=some k)->∃u:Nat,(insertAt place (below place j) j)[u]?=some k:=fun k ⟨u,hu⟩=>by
  by_cases q:u<below place j
  ·exact⟨u,by rw[get_insertAt _ _ _ h3,if_pos q];exact hu⟩
  ·exact⟨u+1,by rw[get_insertAt _ _ _ h3,if_neg (by omega),if_neg (by omega)];exact hu⟩
 refine⟨fun a b x y ea eb hab=>?_,?_,fun i k f ek ef=>?_⟩
 ·rw[get_insertAt _ _ _ h3]at ea eb
  split at ea
  ·rename_i qa
   split at eb
   ·exact I.asc _ _ _ _ ea eb hab
   ·rename_i qb
    split at eb
    ·cases eb;exact h1 _ _ qa ea
    ·exact I.asc _ _ _ _ ea eb (by omega)
  ·rename_i qa
   rw[if_neg (by omega),if_neg (by omega)]at eb
   split at ea
   ·rename_i q
    cases ea;have:=h2 _ _ (by omega) eb
    exact j9 this fun z=>hj _ (by rw[z];exact eb)
   ·exact I.asc _ _ _ _ ea eb (by omega)
 ·have:∀{β:Type} (xs:Array β) (p:Nat) (x:β),(insertAt xs p x).size=xs.size+1:=fun xs p x=>by
   unfold insertAt
   simp only[Array.size_append,Array.size_push,Array.size_extract]
   omega
  rw[this,this,I.size]
 ·rw[get_insertAt _ _ _ h3]at ek
  rw[get_insertAt _ _ _ h3']at ef
  split at ek
  ·rename_i q
   rw[if_pos q]at ef;exact(I.ch _ _ _ ek ef).mono up
  ·rename_i q
   rw[if_neg q]at ef
   split at ek
   ·rename_i q2
    rw[if_pos q2]at ef;cases ek;cases ef;exact c.mono up
   ·rename_i q2
    rw[if_neg q2]at ef;exact(I.ch _ _ _ ek ef).mono up
theorem run_in{m i:Nat}(h:i<m+1):runEnd m i<m+1:=by unfold runEnd;split <;> omega
theorem i_run(m i:Nat):i≤runEnd m i:=by unfold runEnd;split <;> omega
theorem xAfh{m:Nat}{owner:Array (Option Nat)}:∀(f i q j:Nat),i<m+1->layClean.free m owner f i q=some j->∃n,(adv (tm m) n (at' m i q)).j=j/\∀k,k<n->(adv (tm m) k (at' m i q)).j<m+1/\owner.getD (adv (tm m) k (at' m i q)).j (some 0)≠none
 | 0,_,_,_,_,h=>nomatch h
 |f+1,i,q,j,hi,h=>by
  have hr:=run_in hi;have hr':=i_run m i
  have run:∀k,k≤runEnd m i - i->(adv (tm m) k (at' m i q)).j=i+k:=fun k hk=>by
   rw[xAjo (tm m) k (runEnd m i - i - k) (at' m i q) (by show runEnd m i - i=_;omega)];rfl
  unfold layClean.free at h
  cases e:(List.range (runEnd m i+1 - i)).find? fun k=>(owner.getD (i+k) (some 0)).isNone with
  |some k =>
   rw[e]at h;cases h;obtain⟨e1,e2,e3⟩:=List.find?_range_eq_some.mp e;have hk:=wq.mp e2;refine⟨k,run k (by omega),fun k' hk'=>?_⟩;rw[run k' (by omega)];refine⟨by omega,fun z=>?_⟩;have:=e3 k' hk';rw[z]at this;exact absurd this (by decide)
  |none =>
   rw[e]at h;dsimp only at h;have e0:=j5.mp e;obtain⟨n,e1,e2⟩:=xAfh f _ _ j (yb _ (ym m)) h;have er:adv (tm m) (runEnd m i - i+1) (at' m i q)=at' m (leap m i q).1 (leap m i q).2:=xAha (tm m) i q;refine⟨runEnd m i - i+1+n,by rw[xAff,er];exact e1,fun k hk=>?_⟩
   by_cases hk':k≤runEnd m i - i
   ·rw[run k hk']
    refine⟨by omega,fun z=>?_⟩;exact e0 k (wq.mpr (by omega)) (by rw[z];rfl)
   ·have:k=runEnd m i - i+1+(k - (runEnd m i - i+1)):=by omega
    rw[this,xAff,er];exact e2 _ (by omega)
def Ow(m:Nat)(hs:List Int)(owner:Array (Option Nat)):Prop:=∀(j v:Nat),owner[j]?=some (some v)->∃h,hs[v]?=some h/\Cn m (fun(k:Nat)=>∃u,owner[k]?=some (some u)) j h
theorem xAjr{m:Nat}(hm:Mk m){hs0:List Int}:∀(hs:List Int) (k:Nat) (owner:Array (Option Nat)),hs0.drop k=hs->Lay m k owner->Ow m hs0 owner->k+hs.length≤m->∃owner' ,(hs.foldl (fun acc h=>do
  let(owner,k) ←acc
  let j ←layClean.free m owner (turns m) (bits h % (m+1)) (bits h)
  pure (owner.setIfInBounds j (some k),k+1)) (some (owner,k)))=some (owner',k+hs.length)/\Lay m (k+hs.length) owner'/\Ow m hs0 owner'
 |[],k,owner,_,L,O,_=>⟨owner,rfl,L,O⟩
 |h::hs,k,owner,hd,L,O,hk=>by
  rw[qy]at hk;obtain⟨j,ej,L'⟩:=xApb hm L (by omega) h
  have hk0:hs0[k]?=some h:=by
   have:=congrArg (·[0]?) hd
   simp only[List.getElem?_drop,Nat.add_zero]at this
   exact this
  have hd':hs0.drop (k+1)=hs:=by
   have:=congrArg (List.drop 1) hd;rw[List.drop_drop]at this;exact this
  obtain⟨n,e1,e2⟩:=xAfh (turns m) _ _ j (yb _ (ym m)) ej
  have tk:∀x:Nat,x<m+1->owner.getD x (some 0)≠none->∃u,owner[x]?=some (some u):=fun x hx hn=>by
   have hx':x<owner.size:=by rw[L.size];exact hx
   rw[vp,zj hx',ju]at hn;rw[zj hx']
   cases q:owner[x] with
   |none=>exact absurd q hn
   |some u=>exact⟨u,rfl⟩
  have up:∀x:Nat,(∃u,owner[x]?=some (some u))->∃u,(owner.setIfInBounds j (some k))[x]?=some (some u):=fun x ⟨u,hu⟩=>by
   rw[gb]
   by_cases q:j=x
   ·subst q
    rw[if_pos rfl,if_pos (wx.mp hu).1];exact⟨k,rfl⟩
   ·rw[if_neg q];exact⟨u,hu⟩
  have O':Ow m hs0 (owner.setIfInBounds j (some k)):=fun x v hv=>by
   rw[gb]at hv
   by_cases q:j=x
   ·subst q
    rw[if_pos rfl]at hv
    split at hv
    ·cases hv
     exact⟨h,hk0,n,e1,fun k' hk'=>up _ (tk _ (e2 k' hk').1 (e2 k' hk').2)⟩
    ·cases hv
   ·rw[if_neg q]at hv
    obtain⟨h',a1,a2⟩:=O x v hv;exact⟨h',a1,a2.mono up⟩
  obtain⟨o',e',L2,O2⟩:=xAjr hm hs (k+1) _ hd' L' O' (by omega);refine⟨o',?_,by rw[qy,yv hs.length 1,←js];exact L2,O2⟩;rw[ye,qy,yv hs.length 1,←js,←e']
  congr 1
  show(do
   let j ←layClean.free m owner (turns m) (bits h % (m+1)) (bits h)
   pure (owner.setIfInBounds j (some k),k+1))=_
  rw[ej];rfl
theorem laid_iv{m finger moves:Nat}{led plain:Bool}{hs:Array Int}(hm:Mk m)(hk:hs.size≤m):∃t order,laid m finger moves led plain hs=some (t,order)/\t.mask=m/\t.dummies=#[]/\t.place.size=hs.size/\order.toList.Perm (List.range hs.size)/\Asc t.place/\order.size=t.place.size/\∀(i j v:Nat),t.place[i]?=some j->order[i]?=some v->∃h,hs[v]?=some h/\Cn m (fun k=>∃u:Nat,t.place[u]?=some k) j h:=by
 have L0:Lay m 0 (Array.replicate (m+1) none):=⟨by simp,by
  have:∀n:Nat,(List.replicate n (none:Option Nat)).filterMap id=[]:=fun n=>by
   induction n with
   |zero=>rfl
   |succ n ih=>rw[vg];exact ih
  rw[Array.toList_replicate,this]
  exact .nil⟩
 have O0:Ow m hs.toList (Array.replicate (m+1) none):=fun j v h=>by
  rw[Array.getElem?_replicate]at h
  split at h <;> cases h
 obtain⟨o',e',L,O⟩:=xAjr hm (hs0:=hs.toList) hs.toList 0 _ rfl L0 O0 (by simpa using hk);rw[yk]at e' L
 have ec:layClean m hs=some o':=by
  unfold layClean;rw[←Array.foldl_toList,e'];rfl
 obtain⟨live,hl⟩:∃live,live=(List.range (m+1)).filterMap fun j=>(o'.getD j none).map (j,·):=⟨_,rfl⟩
 have own:∀j v,j<m+1->(o'.getD j none=some v↔o'[j]?=some (some v)):=fun j v hj=>by
  have hj':j<o'.size:=by rw[L.size];exact hj
  rw[vp,zj hj',ju];exact⟨fun e=>congrArg some e,fun e=>Option.some.inj e⟩
 have mem:∀x,x∈live↔o'[x.1]?=some (some x.2):=fun x=>by
  rw[hl,yu];constructor
  ·rintro⟨j,hj,e⟩
   cases q:o'.getD j none with
   |none=>rw[q]at e;cases e
   |some v =>
    rw[q]at e;cases e;exact(own j v (wq.mp hj)).mp q
  ·intro e
   have hx:x.1<m+1:=by rw[←L.size];exact(wx.mp e).1
   exact⟨x.1,wq.mpr hx,by rw[(own _ _ hx).mpr e];rfl⟩
 have asc:live.Pairwise fun a b=>a.1<b.1:=by
  rw[hl];refine List.pairwise_filterMap.mpr (List.Pairwise.imp (fun{a b} h x hx y hy=>?_) List.pairwise_lt_range);obtain⟨u,_,rfl⟩:=yf.mp hx;obtain⟨u',_,rfl⟩:=yf.mp hy;exact h
 have el:live.map (·.2)=o'.toList.filterMap id:=by
  rw[hl,List.map_filterMap]
  have:o'.toList=(List.range (m+1)).map fun j=>o'.getD j none:=by
   apply gc;intro i;rw[zh,wc]
   by_cases hi:i<m+1
   ·rw[j3 hi,zj (by rw[L.size];exact hi)]
    show _=some (o'.getD i none);rw[vp,zj (by rw[L.size];exact hi)];rfl
   ·rw[Array.getElem?_eq_none (by rw[L.size];omega),List.getElem?_eq_none (by simpa using hi)]
    rfl
  rw[this,ji]
  congr 1
  funext j
  show((o'.getD j none).map (j,·)).map (·.2)=id (o'.getD j none);cases o'.getD j none <;> rfl
 have hlen:hs.toList.length=hs.size:=by simp
 have elaid:laid m finger moves led plain hs=some ({ mask:=m,place:=(live.map (·.1)).toArray,dummies:=#[],finger,led,moves,plain },(live.map (·.2)).toArray):=by
  unfold laid;rw[ec,hl];rfl
 have at1:∀i j,(live.map (·.1)).toArray[i]?=some j->∃v,live[i]?=some (j,v):=fun i j h=>by
  rw[ya,zh]at h;obtain⟨x,hx,rfl⟩:=yf.mp h;exact⟨x.2,hx⟩
 refine⟨_,_,elaid,rfl,rfl,?_,?_,?_,by simp,?_⟩
 ·have h1:=congrArg List.length el
  have h2:=L.perm.length_eq;rw[hlen,yz]at h2
  simp only[List.length_map]at h1
  simp only[List.size_toArray,List.length_map]
  rw[h1,h2]
 ·rw[List.toList_toArray,el,←hlen]
  exact L.perm
 ·intro a b x y ea eb hab
  obtain⟨v1,g1⟩:=at1 _ _ ea;obtain⟨v2,g2⟩:=at1 _ _ eb;obtain⟨l1,g1'⟩:=zf.mp g1;obtain⟨l2,g2'⟩:=zf.mp g2;have:=(List.pairwise_iff_getElem.mp asc) a b l1 l2 hab;rw[g1',g2']at this;exact this
 ·intro i j v e1 e2
  obtain⟨v',g⟩:=at1 _ _ e1;rw[ya,zh,g]at e2;cases e2;obtain⟨h,a1,a2⟩:=O j v' ((mem (j,v')).mp (qz g));refine⟨h,by rw[←wc];exact a1,a2.mono fun k ⟨u,hu⟩=>?_⟩;obtain⟨p,hp,ep⟩:=yo ((mem (k,u)).mpr hu);exact⟨p,by show(live.map (·.1)).toArray[p]?=_;rw[ya,zh,qj hp,ep];rfl⟩
end Stb
namespace L2
open PySem PySem.Spec PySem.W PyProof.Rows
section
variable {P:Program}{w:World}{A:Around}{E:Value->Shared->Prop}{s:Shared}
abbrev fh(P:Program)(w:World)(ks:List Key):Int:=(tupleKind (mixKind P w)).hash ks
abbrev FI(P:Program)(w:World)(h:Heap)(ks:List Key)(v:Value):Prop:=∃a,v=.ref a/\(tupleKind (mixKind P w)).is h ks a
theorem xArx:∀{v:Value} (n:Nat) {s':Shared} {Q:Bool->Shared->Prop},carriedByValue v=true->(∀b,Q b s')->wpAny (model P w) A (hashByValue n v) Q E s':=by
 intro v n s' Q hv h
 cases v <;> first|(cases n <;> exact wpAny_pure (h _))|(exact absurd hv (by simp[carriedByValue]))
theorem xApd{ks:List Key}{a:Addr}{Q:Bool->Shared->Prop}(hk:(tupleKind (mixKind P w)).is s.heap ks a)(h:∀b,Q b s):wpAny (model P w) A (hashByValue 8 (.ref a)) Q E s:=by
 obtain⟨o,items,n,ho,hc,hd,hi⟩:=hk;have hT:s.TypeIs (.ref a) "tuple":=⟨o,ho,hc⟩;unfold hashByValue;refine wpAny_bind (wpAny_specialOf hT F.slot_tuple_hash.lookup ?_);show wpAny _ _ (seqItems? (.ref a) >>= _) _ _ s;refine wpAny_bind (wpAny_seqItems ho hd ?_);refine wpAny_bind ?_;show wpAny _ _ (forIn items _ _) _ _ s;rw[←jq];refine wpAny_forIn_list _ (fun rest r s'=>(r.1=none\/r.1=some false)/\s'=s/\∀v∈rest,carriedByValue v=true) _ ?_ ?_ _ _ ⟨.inl rfl,rfl,hi.byValue⟩
 ·rintro v rest r s' ⟨hr,rfl,hall⟩
  refine wpAny_bind (xArx _ (hall v qm) fun b=>?_)
  cases b with
  |true =>
   simp only[Bool.not_true,Bool.false_eq_true,if_false]
   exact wpAny_pure ⟨.inl rfl,rfl,fun u hu'=>hall u (qk _ hu')⟩
  |false =>
   simp only[Bool.not_false,if_true]
   exact wpAny_pure (wpAny_pure (h _))
 ·rintro⟨r1,r2⟩ s' ⟨hr,rfl,_⟩
  simp only at hr
  rcases hr with rfl|rfl
  ·exact wpAny_pure (h _)
  ·exact wpAny_pure (h _)
theorem xAry:∀{v:Value} (n:Nat) {s':Shared} {Q:Bool->Shared->Prop},carriedByValue v=true->Q false s'->wpAny (model P w) A (ofAClassStatement n v) Q E s':=by
 intro v n s' Q hv h
 cases v <;> first|(cases n <;> exact wpAny_pure h)|(exact absurd hv (by simp[carriedByValue]))
theorem xAjs{ks:List Key}{a:Addr}{Q:Bool->Shared->Prop}(hk:(tupleKind (mixKind P w)).is s.heap ks a)(h:Q false s):wpAny (model P w) A (ofAClassStatement 8 (.ref a)) Q E s:=by
 obtain⟨o,items,n,ho,hc,hd,hi⟩:=hk;have hT:s.TypeIs (.ref a) "tuple":=⟨o,ho,hc⟩;unfold ofAClassStatement;refine wpAny_bind (wpAny_typeOf hT ?_);dsimp only;rw[if_pos (by decide)];refine wpAny_bind (wpAny_pure ?_)
 simp only[Bool.not_true,Bool.false_eq_true,if_false]
 refine wpAny_bind (wpAny_seqItems ho hd ?_);dsimp only;refine wpAny_bind ?_;show wpAny _ _ (forIn items _ _) _ _ s;rw[←jq];refine wpAny_forIn_list _ (fun rest r s'=>r.1=none/\s'=s/\∀v∈rest,carriedByValue v=true) _ ?_ ?_ _ _ ⟨rfl,rfl,hi.byValue⟩
 ·rintro v rest r s' ⟨hr,rfl,hall⟩
  refine wpAny_bind (xAry _ (hall v qm) ?_)
  simp only[Bool.false_eq_true,if_false]
  exact wpAny_pure ⟨rfl,rfl,fun u hu'=>hall u (qk _ hu')⟩
 ·rintro⟨r1,r2⟩ s' ⟨hr,rfl,_⟩
  simp only at hr
  subst hr;exact wpAny_pure h
theorem xApe{ks:List Key}{a:Addr}{ys:List Value}{Q:Bool->Shared->Prop}(hk:(tupleKind (mixKind P w)).is s.heap ks a)(hy:∀y∈ys,∃ls,FI P w s.heap ls y)(h:Q false s):wpAny (model P w) A (searchCouldBeSeen (.ref a) ys) Q E s:=by
 unfold searchCouldBeSeen;refine wpAny_bind ?_;refine wpAny_forIn_list _ (fun rest r s'=>r.1=none/\s'=s/\∀y∈rest,∃ls,FI P w s.heap ls y) _ ?_ ?_ _ _ ⟨rfl,rfl,hy⟩
 ·rintro v rest r s' ⟨hr,rfl,hall⟩
  obtain⟨ls,b,rfl,hb⟩:=hall v qm;dsimp only
  by_cases e:(a==b)=true
  ·rw[e]
   simp only[Bool.true_or,if_true]
   exact wpAny_pure ⟨rfl,rfl,fun u hu'=>hall u (qk _ hu')⟩
  ·have e0:(a==b||carriedByValue (.ref a)&&carriedByValue (.ref b))=false:=by simp[Bool.eq_false_iff.mpr e,carriedByValue]
   rw[e0]
   simp only[Bool.false_eq_true,if_false]
   refine wpAny_bind (xAfe (m:=7) hk ?_)
   simp only[Bool.not_true,Bool.false_eq_true,if_false]
   refine wpAny_bind (xAfe (m:=7) hb ?_)
   simp only[Bool.not_true,Bool.false_eq_true,if_false]
   refine wpAny_bind (xAjs hk ?_)
   simp only[Bool.false_eq_true,if_false]
   refine wpAny_bind (xAjs hb ?_)
   simp only[Bool.false_eq_true,if_false]
   exact wpAny_pure ⟨rfl,rfl,fun u hu'=>hall u (qk _ hu')⟩
 ·rintro⟨r1,r2⟩ s' ⟨hr,rfl,_⟩
  simp only at hr
  subst hr;exact wpAny_pure h
end
def Tk(t:SetTable)(n:Nat):Prop:=t.dummies=#[]/\t.place.size=n/\(t.mask=7/\n≤4\/t.mask=31/\n≤18\/t.mask=127/\n≤76)
theorem Tk.mk{t:SetTable}{n:Nat}(h:Tk t n):Stb.Mk t.mask:=by
 rcases h.2.2 with h|h|h
 ·exact .inl h.1
 ·exact .inr (.inl h.1)
 ·exact .inr (.inr h.1)
theorem Tk.fits{t:SetTable}{n:Nat}(h:Tk t n):t.fits n=true:=by
 unfold SetTable.fits SetTable.fill;rw[h.1,h.2.1,beq_self_eq_true,zt];refine decide_eq_true ?_;show n+0≤t.mask;have:=h.2.2;omega
theorem Tk.odd{t:SetTable}{n:Nat}(h:Tk t n):t.gaveWay=false:=by
 unfold SetTable.gaveWay;rcases h.2.2 with h|h|h <;> rw[h.1] <;> rfl
section
variable {P:Program}{w:World}{A:Around}{E:Value->Shared->Prop}{s:Shared}
theorem xAbu{α:Type}(xs:Array α)(p:Nat)(x:α):(SetTable.insertAt xs p x).size=xs.size+1:=by
 unfold SetTable.insertAt
 simp only[Array.size_append,Array.size_push,Array.size_extract]
 omega
theorem FI.ext{h h':Heap}{ks:List Key}{v:Value}(x:FI P w h ks v)(k:∀b o,h.get? b=some o->o.cls=.type "tuple"->h'.get? b=some o):FI P w h' ks v:=by
 obtain⟨a,e,o,its,n,h1,h2,h3,h4⟩:=x;exact⟨a,e,o,its,n,k _ _ h1 h2,h2,h3,h4⟩
theorem xAjt{a:Addr}{o:Obj}{es es1:Array (Int×Value)}{ep:Nat}{t t1:SetTable}{h:Heap}(ho:h.get? a=some o)(hd:o.data=.set es ep t):(h.update a (Obj.putSet es1 t1)).get? a=some { o with data:=.set es1 (ep+1) t1 }:=by
 have:=Heap.get?_update_self (Obj.putSet es1 t1) ho (by rw[putSet_of es1 t1 hd];rfl);rw[putSet_of es1 t1 hd]at this;exact this
theorem xAfi{α:Type}:∀l:List α,(List.range l.length).filterMap (fun i=>l[i]?)=l
 |[]=>rfl
 |x::l=>by
  rw[qy,List.range_succ_eq_map,gd (f:=fun i=>(x::l)[i]?) (a:=0) (b:=x) rfl,ji]
  congr 1
  have:((fun(i:Nat)=>(x::l)[i]?)∘Nat.succ)=fun(i:Nat)=>l[i]?:=by
   funext i
   exact jd
  rw[this];exact xAfi l
theorem xAju{α:Type}(es:Array α):(List.range es.size).filterMap (fun i=>es[i]?)=es.toList:=by
 have h:=xAfi es.toList;rw[zx]at h
 have e:(fun(i:Nat)=>es.toList[i]?)=fun(i:Nat)=>es[i]?:=by
  funext i
  rw[wc]
 rw[e]at h;exact h
end
section
variable {P:Program}{w:World}{A:Around}{R:Result->Shared->Prop}{s:Shared}{E:Value->Shared->Prop}
def LI(P:Program)(w:World)(h:Heap)(items:Array Value)(kk:List (List Key)):Prop:=items.size=kk.length/\∀(i:Nat) v ks,items[i]?=some v->kk[i]?=some ks->FI P w h ks v
theorem xApf{h:Heap}{a b:Addr}{o o':Obj}{T U:String}(e:h.get? a=some o)(c:o.cls=.type T)(e':h.get? b=some o')(c':o'.cls=.type U)(n:T≠U):a≠b:=fun z=>by
 rw[z,e']at e;cases e;rw[c]at c';injection c' with c';exact n c'
theorem LI.ext{h h':Heap}{items:Array Value}{kk:List (List Key)}(x:LI P w h items kk)(k:∀b o,h.get? b=some o->o.cls=.type "tuple"->h'.get? b=some o):LI P w h' items kk:=⟨x.1,fun i v ks e1 e2=>FI.ext (x.2 i v ks e1 e2) k⟩
end
def setO(a:Addr)(n:Nat):HO:=.ext fun h=>∃o es ep t,h.get? a=some o/\o.ExactSet/\o.data=.set es ep t/\es.size=n/\t.fits n=true
section
variable {X:Cx}
inductive IRcall_lenSet(xs:List V)(H:Hp)(Q:VK):Prop
 |mk (p:_) (n:_) (h0_:xs=[.ref p]) (h1_:n≤1000) (h2_:H p=some (setO p n)) (h3_:Q (.int (n:Nat)) H):IRcall_lenSet xs H Q
def Rcall_lenSet:List V->Hp->VK->Prop:=fun xs H Q=>IRcall_lenSet xs H Q
theorem xAhy:CallR X (.builtin "len") Rcall_lenSet:=by
 intro pins s σ H xs us Q I r h;obtain⟨p,n,rfl,hn,hp,q⟩:=h;obtain⟨u,rfl,ru⟩:=vals1 r;cases ru;obtain⟨⟨o,es,ep,t,h1,h2,h3,h4,h5⟩,_⟩:=I.hok p _ hp;subst h4;exact call_len_set h1 h2 h3 h5 (by omega) ⟨.int _,H,I.kept (t':=s.toks+1+1) fun b o e=>e,⟨_,rfl⟩,q⟩
end
section
variable {X:Cx}{a b e:Expr}{ta tb te:TE}{es:List Expr}{t:TA}{pos p:Pos}
def NmK(X:Cx)(i:Nat)(x:Str)(k:NameKind):Prop:=(X.N[i]?,X.env.scope.names.lookup x,(x==("__debug__":Str)),(x==("__classdict__":Str)))=(some x,some k,false,false)
theorem vv(i:Nat){x:Str}(h:NmK X i x .local:=by exact rfl):PE X (.Name x pos) (tVar i):=pv i (congrArg (·.1) h) (.inl (congrArg (·.2.1) h)) (congrArg (·.2.2.1) h) (congrArg (·.2.2.2) h)
theorem vc(i:Nat){x:Str}(h:NmK X i x .cell:=by exact rfl):PE X (.Name x pos) (tVar i):=pv i (congrArg (·.1) h) (.inr (.inl (congrArg (·.2.1) h))) (congrArg (·.2.2.1) h) (congrArg (·.2.2.2) h)
def St1(X:Cx)(e:Expr):Prop:=∀es,starEach (e::es) X.env=(false,eval e X.env)::starEach es X.env
theorem a1{a:Expr}{ta:TE}(ha:PE X a ta)(h:St1 X a:=by exact fun _=>rfl):PA X [a] (tCons ta tNil):=xAii ha xAhs (h _)
theorem a2{a b:Expr}{ta tb:TE}(ha:PE X a ta)(hb:PE X b tb)(h:St1 X a:=by exact fun _=>rfl)(h2:St1 X b:=by exact fun _=>rfl):PA X [a,b] (tCons ta (tCons tb tNil)):=xAii ha (a1 hb h2) (h _)
theorem ac{a:Expr}{ta:TE}{es:List Expr}{t:TA}(ha:PE X a ta)(hr:PA X es t)(h:St1 X a:=by exact fun _=>rfl):PA X (a::es) (tCons ta t):=xAii ha hr (h _)
theorem xt{i:Int}{j:Nat}(ha:PE X a ta):PE X (.Subscript a (.Constant (.int i) j p) pos) (tOp (rIxT) ta (tC (.int i))):=pe_ix xAqe ha xAac (fun _ _=>rfl)
theorem xl{i:Int}{j:Nat}(ha:PE X a ta):PE X (.Subscript a (.Constant (.int i) j p) pos) (tOp (rIxL) ta (tC (.int i))):=pe_ix xAim ha xAac (fun _ _=>rfl)
theorem xa(ha:PE X a ta)(hb:PE X b tb)(hs:PlainIx b:=by exact fun _ _=>rfl):PE X (.Subscript a b pos) (tOp (rIxA) ta tb):=pe_ix ix_any ha hb hs
theorem xi(ha:PE X a ta)(hb:PE X b tb)(hs:PlainIx b:=by exact fun _ _=>rfl):PE X (.Subscript a b pos) (tOp (rIxL) ta tb):=pe_ix xAim ha hb hs
theorem xu(ha:PE X a ta)(hb:PE X b tb)(hs:PlainIx b:=by exact fun _ _=>rfl):PE X (.Subscript a b pos) (tOp (rIxT) ta tb):=pe_ix xAqe ha hb hs
theorem ce{op:CmpOp}{r:R2}(ho:OpR X (compareOp op) r)(ha:PE X a ta)(hb:PE X b tb)(hm:behindInMarks op b=false:=by exact rfl):PE X (.Compare a [op] [b] pos) (tOp r ta tb):=xAqb ho ha hb hm
theorem ck{op:CmpOp}{r:R2}(ho:OpR X (compareOp op) r)(ha:PE X a ta)(hb:PE X b tb)(hm:behindInMarks op b=false:=by exact rfl):PT X (.Compare a [op] [b] pos) (tTest (tOp r ta tb)):=xAqc ho ha hb hm
structure FnB(P:Program)(w:World)(K:PySem.W.Frag)(mg:Str->Option Value)(base:Heap)(k:Nat)(x:Str)(ps:List Str)(sp:Sp):Prop where
 out:∃f fd,FnOk P w K mg base CX0 k f fd ps sp/\mg x=some (.ref f)/\PySem.W.keepIn K (.ref f)=true/\Binds K fd ps []
variable {k n:Nat}{x:Str}{ps:List Str}{sp:Sp}
theorem cl(F:FnB X.prog X.w X.K X.mg X.base k x ps sp)(hr:Room n X.A)(ha:PA X (e::es) t)(hk:k≤n:=by decide)(hg:Gl X x:=by exact rfl)(hdb:(x==("__debug__":Str))=false:=by exact rfl)(he:St1 X e:=by exact fun _=>rfl)(hpl:(backTo pos (starEach es X.env)).any (·.1)=false:=by exact rfl) :
  PE X (.Call (.Name x p) (e::es) [] pos) (tCall sp [] E0 t):=by
 obtain⟨f,fd,F,hm,hk',hb⟩:=F.out;exact xAne F (hr.mono hk) hg hm hk' hb .nil pass0 ha hdb (he _) hpl
theorem cb{id:String}{r:List V->Hp->VK->Prop}(hc:CallR X (.builtin id) r)(hm:X.mg x=none)(hv:bootBuiltins x=some (.builtin id))(ha:PA X (e::es) t)(hg:Gl X x:=by exact rfl)(hn:x≠"__name__":=by decide)(hdb:(x==("__debug__":Str))=false:=by exact rfl)(he:St1 X e:=by exact fun _=>rfl)(hpl:(backTo pos (starEach es X.env)).any (·.1)=false:=by exact rfl):PE X (.Call (.Name x p) (e::es) [] pos) (tCB r t):=xAol hc hg hm hv ha hn hdb (he _) hpl
theorem cy{T:String}{r:List V->Hp->VK->Prop}(hc:CallR X (.type T) r)(hm:X.mg x=none)(hv:bootBuiltins x=some (.type T))(ha:PA X (e::es) t)(hg:Gl X x:=by exact rfl)(hn:x≠"__name__":=by decide)(hdb:(x==("__debug__":Str))=false:=by exact rfl)(he:St1 X e:=by exact fun _=>rfl)(hpl:(backTo pos (starEach es X.env)).any (·.1)=false:=by exact rfl):PE X (.Call (.Name x p) (e::es) [] pos) (tCB r t):=xAlc hc hg hm hv ha hn hdb (he _) hpl
theorem sn(hN:X.N.Nodup)(i:Nat){pos':Pos}(he:PE X e te)(hi:X.N[i]?=some x:=by exact rfl)(hx:X.env.scope.names.lookup x=some .local:=by exact rfl)(hs:swapsWith e (some (.Name x pos')) pos.line X.env=pure false:=by exact rfl):PS X (.Assign [.Name x pos'] e pos) (tAsg te (gName i)):=xApy hN hi (.inl hx) he hs (.inr hx)
theorem sm(hN:X.N.Nodup)(i:Nat){pos':Pos}(he:PE X e te)(hi:X.N[i]?=some x:=by exact rfl)(hx:X.env.scope.names.lookup x=some .cell:=by exact rfl)(hs:swapsWith e (some (.Name x pos')) pos.line X.env=pure false:=by exact rfl)(hf:X.fn x=true:=by exact rfl):PS X (.Assign [.Name x pos'] e pos) (tAsg te (gName i)):=xApy hN hi (.inr hx) he hs (.inl hf)
theorem gn(hN:X.N.Nodup)(i:Nat)(hi:X.N[i]?=some x:=by exact rfl)(hx:X.env.scope.names.lookup x=some .local:=by exact rfl):PG X (.Name x pos) (gName i):=xAce hN hi (.inl hx) (.inr hx)
theorem gt{k:Nat}{u:TGs}{n:Nat}(h:PGs X es u)(hc:X.calm=true:=by exact rfl)(hn:(assignEach es X.env).length=n:=by exact rfl)(hst:(assignEach es X.env).findIdx? (·.1)=none:=by exact rfl):PG X (.Tuple es k pos) (gTup n u):=xAoi hc h hn hst
theorem fo{tg iter:Expr}{body:List Stmt}{wi:TI}{g:TG}{tb:TS}(hi:PI X tg iter wi)(hg:PG X tg g)(hb:PSs X body tb)(hp:PassesOwn (model X.prog X.w) X.A X.env X.xe:=by exact PassesOwn.never)(hc:X.calm=true:=by exact rfl)(hs:∀x,foldedSetIterable iter X.env x=pure x:=by exact fun _=>rfl):PS X (.For tg iter body [] pos) (tFor wi g tb):=ps_for hp hc hi hg hb hs
theorem il{tg l:Expr}{tl:TE}(hl:PE X l tl):PI X tg l (iList tl):=xApz hl
theorem iu{tg l:Expr}{tl:TE}(hl:PE X l tl):PI X tg l (iTup tl):=pi_tup hl
theorem bm{o:Expr}{to:TE}{name:Str}{T id:String}{apos:Pos}{r:V->List V->Hp->VK->Prop}(pa:PlainAttrs T)(slot:Slot T name id)(hty:typeOf (.builtin id)=pure (.type "method_descriptor"))(hm:MtR X id r)(ho:PE X o to)(ha:PA X (e::es) t)(hbase:attributeBase o name X.env (eval o X.env)=eval o X.env:=by exact rfl)(hfew:((backTo pos (starEach (e::es) X.env)).all (fun x=>!x.1)&&(backToKw pos (keywordEach [] X.env)).all (fun x=>x.1.isSome)&&decide ((e::es).length+([]:List Keyword).length+(if([]:List Keyword).isEmpty then 0 else 1)<30))=true:=by exact rfl)(hline:(apos.endLine==pos.line)=true:=by exact rfl)(hs:St1 X e:=by exact fun _=>rfl)(hplain:(backTo pos (starEach es X.env)).any (·.1)=false:=by exact rfl) :
  PE X (.Call (.Attribute o name apos) (e::es) [] pos) (tBM T r to t):=pe_bm pa slot hty hm ho ha hbase hfew hline (hs _) hplain
theorem ap{o:Expr}{to:TE}{apos p2:Pos}(ho:PE X o to)(ha:PA X [e] t)(hbase:attributeBase o "append" X.env (eval o X.env)=eval o X.env:=by exact rfl)(hs:St1 X e:=by exact fun _=>rfl)(hfew:((backTo pos (starEach [e] X.env)).all (fun x=>!x.1)&&(backToKw pos (keywordEach [] X.env)).all (fun x=>x.1.isSome)&&decide (([e]:List Expr).length+([]:List Keyword).length+(if([]:List Keyword).isEmpty then 0 else 1)<30))=true:=by exact rfl)(hline:(apos.endLine==pos.line)=true:=by exact rfl):PS X (.Expr (.Call (.Attribute o "append" apos) [e] [] pos) p2) (tDrop (tBM "list" rAppend to t)) :=
 xAnb (bm PySem.F.plainAttrs_list PySem.F.slot_list_append PySem.F.type_list_append xAle ho ha hbase hfew hline hs rfl)
theorem nd1{y:Str}:[y].Nodup:=zv.mpr ⟨List.not_mem_nil,vn⟩
theorem eqD(hr:Room n X.A):OpR X (compareOp .Eq) (rEqD 64 false):=op_eqD (hu64 hr)
theorem niD(hr:Room n X.A):OpR X (compareOp .NotIn) (rInD 63 true):=xAlp (hu63 hr)
theorem isq:OpR X (compareOp .In) (rIn false):=xAld
theorem nsq:OpR X (compareOp .NotIn) (rIn true):=xAfq
theorem ixD(hr:Room n X.A):MtR X "list.index" (rIndexD 61):=xAlq (hu61 hr)
theorem lc0{y:Str}{yp:Pos}{iter elt:Expr}{ifs:List Expr}{sc:Scope}{wi:TI}{tt:TT}{te:TE}(hi:PI X (.Name y yp) iter wi)(ht:∀s H fp,PTs (compCx X [y] sc [] s H fp) ifs tt)(he:∀s H fp,PE (compCx X [y] sc [] s H fp) elt te)(hc:X.calm=true:=by exact rfl)(S:CompSc sc:=by exact⟨rfl,by decide +kernel,by decide +kernel⟩)(C:Caps X sc [] []:=by exact caps0 (by decide +kernel))(hg:∀s H fp,PG (compCx X [y] sc [] s H fp) (.Name y yp) (gName 0):=by exact fun _ _ _=>xAce (nd1) rfl (.inl rfl) (.inr rfl))(hs:∀x,foldedSetIterable iter X.env x=pure x:=by exact fun _=>rfl) :
  PE X (.ListComp elt [⟨.Name y yp,iter,ifs,0⟩] sc pos) (tLC [y] [] wi (gName 0) tt te):=xAfs (own:=[y]) (fr:=[]) hc hi S C hg (fun _=>xAby rfl) ht he hs
theorem lcd(scX:Scope)(N:List Str)(fr:List (Str×Nat)){y:Str}{yp:Pos}{iter elt:Expr}{ifs:List Expr}{sc:Scope}{wi:TI}{tt:TT}{te:TE}(hi:PI X (.Name y yp) iter wi)(ht:∀s H fp,PTs (compCx X (y::fr.map (·.1)) sc (clo X.env sc.names []) s H fp) ifs tt)(he:∀s H fp,PE (compCx X (y::fr.map (·.1)) sc (clo X.env sc.names []) s H fp) elt te)(hc:X.calm=true:=by exact rfl)(S:CompSc sc:=by exact⟨rfl,by decide +kernel,by decide +kernel⟩)(h1:X.env.scope=scX:=by exact rfl)(h2:X.N=N:=by exact rfl)(hX:∀x,X.env.kindOf x=some .cell->∃c,X.env.cells.lookup x=some c:=by exact fun _ h=>xAek h)(hcell:∀y∈sc.names,y.2≠.cell:=by decide +kernel)(hfree:∀y∈sc.names,y.2=.free->scX.names.lookup y.1=some .cell:=by decide +kernel)(hcap:∀p∈fr,N[p.2]?=some p.1/\scX.names.lookup p.1=some .cell/\(relabel sc { scope:=scX,locals:=0,globals:=0,cells:=[] }).names.lookup p.1=some .cell:=by decide +kernel)(hnd:(y::fr.map (·.1)).Nodup:=by decide +kernel)(hy:(relabel sc { scope:=scX,locals:=0,globals:=0,cells:=[] }).names.lookup y=some .local:=by decide +kernel)(hs:∀x,foldedSetIterable iter X.env x=pure x:=by exact fun _=>rfl) :
  PE X (.ListComp elt [⟨.Name y yp,iter,ifs,0⟩] sc pos) (tLC [y] fr wi (gName 0) tt te):=by
 have hy':(relabel sc X.env).names.lookup y=some .local:=by
  have e:relabel sc X.env=relabel sc { scope:=scX,locals:=0,globals:=0,cells:=[] }:=by
   unfold relabel Env.kindOf;rw[h1]
  rw[e];exact hy
 exact xAfs (own:=[y]) (fr:=fr) hc hi S (xAiw scX N h1 h2 hX hcell hfree hcap) (fun _ _ _=>xAce hnd rfl (.inl hy') (.inr hy')) (fun _=>xAby rfl) ht he hs
end
structure FO(K:PySem.W.Frag)(mg:Str->Option Value)(x:Str)(st:Stmt):Prop where
 out:∃f fd,Fun K x x st f fd/\mg x=some (.ref f)
theorem mk_ok{P:Program}{w:World}{K:PySem.W.Frag}{mg:Str->Option Value}{base:Heap}{x:Str}{st:Stmt}{N ps:List Str}{k:Nat}{sp:Sp}(F:FO K mg x st)(S:FnScope N ps (defScope st))(hb:∀(kV doc pm:Value) (an:Option Addr) (cdv ct:Value) (us:List Value),us.length=ps.length->bindArgs (PySem.W.fnOf x x (defArgs st) (defBody st) (defScope st) .none kV doc pm an cdv ct) ⟨us,[]⟩=pure (ps.zip us))(len:∀vs H Q E,sp vs H Q E->vs.length=ps.length)(hbody:∀(f:Addr) (cdv:Value) (A:Around) (outer:List Env) (s:Shared) (H:Hp) (vs:List V) (Q:VK) (E:XK),Room k (A.deeper (envOfC x (defScope st) s.heap.objs.size f cdv))->sp vs H Q E →
   ∃t,PSs (cxOf CX0 P w K mg base N x (defScope st) f cdv A outer s H E).nox (defBody st) t/\t { nx:=fun _ H'=>Q .non H',rt:=Q } (start N vs) H):FnB P w K mg base (k+1) x ps sp:=by
 obtain⟨f,fd,F,hm⟩:=F.out;exact⟨f,fd,F.ok S len (hbody f),hm,F.kp,F.binds hb⟩
inductive FX(K:PySem.W.Frag)(n:Str)(s:Stmt):Prop
 |mk {a:Addr} {od an:Option Addr} {sl:Array (Option Value)} {oc kV dc pm cd ct:Value} (z1:PySem.W.nsIn K mainGlobals n=some (some (.ref a))) (z2:K.lookup a=some ⟨oc,od,.func (PySem.W.fnOf n n (defArgs s) (defBody s) (defScope s) .none kV dc pm an cd ct),sl⟩) (z3:PySem.W.codeIn K cd n=true) (z4:PySem.W.keepIn K (.ref a)=true):FX K n s
theorem FX.fo{K:PySem.W.Frag}{n:Str}{s:Stmt}{h:Heap}{mg:Str->Option Value}(f:FX K n s)(X:K.In h)(G:h.Ns mainGlobals mg):FO K mg n s:=by
 obtain⟨z1,z2,z3,z4⟩:=f;exact⟨_,_,xAqk (st:=s) z2 z3 z4,PySem.W.mg_of X G z1⟩
structure KDi(P:Program)(w:World)(K:PySem.W.Frag)(a:Addr)(kvs:List (Str×Addr)):Prop where
 sys:(a==sysModules)=false
 out:∃o es ep,K.lookup a=some o/\o.ExactDict/\o.data=.dict es ep/\KeysOf (mixKind P w) es/\Pairs (mixKind P w) es.toList (kvs.map fun p=>((Sum.inr p.1:Key),Value.ref p.2))/\(kvs.map fun p=>(Sum.inr p.1:Key)).Nodup
def fV(kvs:List (Str×Addr))(z:Str):Option Addr:=(kvs.find? fun p=>decide (p.1=z)).map (·.2)
theorem fV_at{kvs:List (Str×Addr)}{z:Str}:valueAt (kvs.map fun p=>((Sum.inr p.1:Key),Value.ref p.2)) (Sum.inr z)=(fV kvs z).map Value.ref:=by
 unfold valueAt fV
 induction kvs with
 |nil=>rfl
 |cons p kvs ih =>
  rw[qo,jv,jv]
  by_cases h:p.1=z
  ·rw[decide_eq_true (show(Sum.inr p.1:Key)=Sum.inr z by rw[h]),decide_eq_true h];rfl
  ·rw[decide_eq_false (show ¬(Sum.inr p.1:Key)=Sum.inr z from fun e=>h (Sum.inr.inj e)),decide_eq_false h]
   exact ih
section
variable {X:Cx}{a:Addr}{kvs:List (Str×Addr)}{pins:List (Addr×Obj)}{σ:St}{H:Hp}{s:Shared}
theorem KDi.dict(D:KDi X.prog X.w X.K a kvs)(I:Inv X pins σ H s):s.heap.DictOf (mixKind X.prog X.w) a (kvs.map fun p=>((Sum.inr p.1:Key),Value.ref p.2)):=by
 obtain⟨o,es,ep,h1,h2,h3,h4,h5,h6⟩:=D.out;exact⟨o,es,ep,I.kIn a o h1,h2,h3,h4,h5,by rw[zy];exact h6⟩
inductive ItFg(kvs:List (Str×Addr))(Q:VK)(y:V)(H:Hp):Prop
 |mk (z:Str) (v:Addr) (h0:y=.str z) (h1:fV kvs z=some v) (h2:Q (.ref v) H):ItFg kvs Q y H
def tFg(kvs:List (Str×Addr))(ty:TE):TE:=fun σ H Q=>ty σ H fun y H1=>ItFg kvs Q y H1
theorem fg{x:Str}{p pos:Pos}{i:Expr}{ty:TE}(D:KDi X.prog X.w X.K a kvs)(hm:X.mg x=some (.ref a))(hi:PE X i ty)(hg:Gl X x:=by exact rfl)(hs:NoSl i:=by exact fun _ _=>rfl)(hd:(x==("__debug__":Str))=false:=by exact rfl):PE X (.Subscript (.Name x p) i pos) (tFg kvs ty):=by
 refine⟨?_⟩;intro pins s σ H Q I h;refine xAnj PySem.F.slot_dict_getitem.lookup hs (xAdi I hg hm (thn (hi pins s σ H _ I h) fun iv s2 ⟨y,H2,I2,ry,z,v,ey,l,q2⟩=>?_) hd);subst ey;have dd:=D.dict I2;refine⟨dd.typeIs,?_⟩;refine wpAny_getItem_of (kV_is (k:=.inr z) ry) dd.mapOf (v:=Value.ref v) (by rw[fV_at,l];rfl) ⟨.ref v,H2,I2.tok _,rfl,q2⟩
inductive IrFin(a:Addr)(kvs:List (Str×Addr))(neg:Bool)(x y:V)(H:Hp)(Q:VK):Prop
 |mk (z:Str) (h0:x=.str z) (h1:y=.ref a) (h2:Q (.bl (if neg then !(fV kvs z).isSome else(fV kvs z).isSome)) H):IrFin a kvs neg x y H Q
def rFin(a:Addr)(kvs:List (Str×Addr))(neg:Bool):R2:=fun x y H Q=>IrFin a kvs neg x y H Q
theorem nif(D:KDi X.prog X.w X.K a kvs):OpR X (compareOp .NotIn) (rFin a kvs true):=by
 intro pins s σ H x y v u Q I rx ry h;obtain⟨z,rfl,rfl,q⟩:=h;cases ry;refine wpAny_notIn_of (kV_is (k:=.inr z) rx) D.sys (D.dict I).mapOf ⟨.bl _,H,I.tok _,?_,q⟩;rw[fV_at,jz];rfl
inductive ItCallV(Fs:Addr->Sp->Prop)(t:TA)(σ:St)(Q:VK)(v:V)(H:Hp):Prop
 |mk (f:Addr) (sp:Sp) (h0:v=.ref f) (h1:Fs f sp) (h2:t σ H fun vs H2=>sp vs H2 Q E0):ItCallV Fs t σ Q v H
def tCallV(Fs:Addr->Sp->Prop)(tf:TE)(t:TA):TE:=fun σ H Q=>tf σ H fun v H1=>ItCallV Fs t σ Q v H1
theorem cv{Fs:Addr->Sp->Prop}{n:Nat}{x:Str}{p pos:Pos}{e:Expr}{es:List Expr}{tf:TE}{t:TA}(hF:∀f sp,Fs f sp->∃k fd ps,k≤n/\FnOk X.prog X.w X.K X.mg X.base CX0 k f fd ps sp/\PySem.W.keepIn X.K (.ref f)=true/\Binds X.K fd ps [])(hr:Room n X.A)(hx:PE X (.Name x p) tf)(ha:PA X (e::es) t)(he:St1 X e:=by exact fun _=>rfl)(hpl:(backTo pos (starEach es X.env)).any (·.1)=false:=by exact rfl):PE X (.Call (.Name x p) (e::es) [] pos) (tCallV Fs tf t):=by
 refine⟨?_⟩;intro pins s σ H Q I h;refine wpAny_Call_Name_kw (thn (hx pins s σ H _ I h) fun u s1 ⟨v,H1,I1,r,f,sp,ev,hf,q⟩=>?_);subst ev;cases r;obtain⟨k,fd,ps,hk,F,hkp,hb⟩:=hF f sp hf;refine PySem.W.callWith_K (h₀:=X.base) I1.ok.mod.kin hkp (thn (ha pos pins s1 σ H1 _ I1 q) fun us s2 ⟨vs,H2,I2,r,q⟩=>⟨I2.kIn,?_⟩) (he _) hpl;exact xAok F (hr.mono hk) hb .nil pass0 I2 r (by rw[vm];exact q)
end
theorem KDi.of{P:Program}{w:World}{K:PySem.W.Frag}{a:Addr}{kvs:List (Str×Addr)}{es:Array DictEntry}{ep:Nat}{sl:Array (Option Value)}(h1:K.lookup a=some ⟨.type "dict",none,.dict es ep,sl⟩)(h2:es.toList.map (fun e=>(e.hash,absV e.key,absV e.val))=kvs.map fun p=>(keyH w (.inr p.1),some (V.str p.1),some (V.ref p.2)))(h3:(kvs.map (·.1)).Nodup)(h4:(a==sysModules)=false)(h5:(⟨.type "dict",none,.dict es ep,sl⟩:Obj).ExactDict):KDi P w K a kvs:=by
 have str_of:∀{u:Value} {z:Str},absV u=some (.str z)->∃t,u=.str z t:=fun{u z} h=>by
  cases u <;> simp[absV]at h;exact⟨_,by rw[h]⟩
 have ref_of:∀{u:Value} {b:Addr},absV u=some (.ref b)->u=.ref b:=fun{u b} h=>by
  cases u <;> simp[absV]at h;rw[h]
 have key:∀(l:List DictEntry) (kvs:List (Str×Addr)),l.map (fun e=>(e.hash,absV e.key,absV e.val))=kvs.map (fun p=>(keyH w (.inr p.1),some (V.str p.1),some (V.ref p.2)))->(∀e∈l,∃k,(mixKind P w).is k e.key=true/\e.hash=(mixKind P w).hash k)/\Pairs (mixKind P w) l (kvs.map fun p=>((Sum.inr p.1:Key),Value.ref p.2)):=fun l=>by
  induction l with
  |nil =>
   intro kvs h
   cases kvs with
   |nil=>exact⟨fun e z=>(nomatch z),.nil⟩
   |cons _ _=>cases h
  |cons e l ih =>
   intro kvs h
   cases kvs with
   |nil=>cases h
   |cons p kvs =>
    rw[qo,qo]at h;injection h with h h';injection h with e1 h;injection h with e2 e3;obtain⟨t,et⟩:=str_of e2;obtain⟨i1,i2⟩:=ih kvs h';refine⟨fun e' he'=>?_,.cons (by rw[et];exact xAef p.1 t) (ref_of e3) i2⟩;rcases qw.mp he' with z|z
    ·subst z
     exact⟨.inr p.1,by rw[et];exact xAef p.1 t,e1⟩
    ·exact i1 e' z
 obtain⟨k1,k2⟩:=key _ _ h2;refine⟨h4,_,es,ep,h1,h5,rfl,fun e he=>k1 e (by simpa using he),k2,?_⟩
 have:(kvs.map fun p=>(Sum.inr p.1:Key))=(kvs.map (·.1)).map Sum.inr:=by rw[zy];rfl
 rw[this];exact h3.map _ fun a b h e=>h (Sum.inr.inj e)
inductive IsK(H:Hp)(T:String):V->Bool->Prop
 |str (z:Str):IsK H T (.str z) (T=="str")
 |int (i:Int):IsK H T (.int i) (T=="int")
 |bl (b:Bool):IsK H T (.bl b) (T=="bool"||T=="int")
 |non:IsK H T .non false
 |tup {p:Addr} {xs:List V} (h:H p=some (.tup xs)):IsK H T (.ref p) (T=="tuple")
 |lst {p:Addr} {xs:List V} (h:H p=some (.lst xs)):IsK H T (.ref p) (T=="list")
 |dct {p:Addr} {xs:List (Key×V)} (h:H p=some (.dK xs)):IsK H T (.ref p) (T=="dict")
inductive IrIs(xs:List V)(H:Hp)(Q:VK):Prop
 |mk (x:V) (T:String) (b:Bool) (h0:xs=[x,.ty T]) (hT:(["str","int","bool","tuple","list"]:List String).contains T=true) (h1:IsK H T x b) (h2:Q (.bl b) H):IrIs xs H Q
def rIs:List V->Hp->VK->Prop:=fun xs H Q=>IrIs xs H Q
theorem xAbq{X:Cx}:CallR X (.builtin "isinstance") rIs:=by
 intro pins s σ H xs us Q I rv h;obtain⟨x,T,b,rfl,hT,h1,q⟩:=h
 have hT:T = "str" \/ T = "int" \/ T = "bool" \/ T = "tuple" \/ T = "list":=by simpa using hT
 refine xAhw pins s σ H _ us Q I rv ?_
 cases h1 with
 |str z=>exact⟨_,T,.type "str",_,rfl,.str _,by rcases hT with rfl|rfl|rfl|rfl|rfl <;> rfl,q⟩
 |int i=>exact⟨_,T,.type "int",_,rfl,.int _,by rcases hT with rfl|rfl|rfl|rfl|rfl <;> rfl,q⟩
 |bl i=>exact⟨_,T,.type "bool",_,rfl,.bl _,by rcases hT with rfl|rfl|rfl|rfl|rfl <;> rfl,q⟩
 |non=>exact⟨_,T,.type "NoneType",_,rfl,.non,by rcases hT with rfl|rfl|rfl|rfl|rfl <;> rfl,q⟩
 |tup h=>exact⟨_,T,.type "tuple",_,rfl,.tup h,by rcases hT with rfl|rfl|rfl|rfl|rfl <;> rfl,q⟩
 |lst h=>exact⟨_,T,.type "list",_,rfl,.lst h,by rcases hT with rfl|rfl|rfl|rfl|rfl <;> rfl,q⟩
 |dct h=>exact⟨_,T,.type "dict",_,rfl,.dK h,by rcases hT with rfl|rfl|rfl|rfl|rfl <;> rfl,q⟩
def tVa(i:Nat):TE:=fun σ H Q=>match σ[i]? with
 |some (some v)=>Q v H
 |_=>False
theorem xArz{i:Nat}{σ:St}{H:Hp}{Q:VK}(h:tVa i σ H Q):tVar i σ H Q:=by
 unfold tVa at h
 split at h
 ·exact⟨_,by assumption,h⟩
 ·exact h.elim
theorem PE.imp{X:Cx}{e:Expr}{t u:TE}(h:PE X e t)(i:∀σ H Q,u σ H Q->t σ H Q):PE X e u:=⟨fun pins s σ H Q I q=>h pins s σ H Q I (i σ H Q q)⟩
theorem na{X:Cx}{x:Str}{pos:Pos}(i:Nat)(h:NmK X i x .local:=by exact rfl):PE X (.Name x pos) (tVa i):=(vv i h).imp fun _ _ _=>xArz
theorem nc{X:Cx}{x:Str}{pos:Pos}(i:Nat)(h:NmK X i x .cell:=by exact rfl):PE X (.Name x pos) (tVa i):=(vc i h).imp fun _ _ _=>xArz
def tupIsV(o:Obj)(xs:List V):Bool:=match o with
 |⟨.type t,none,.seq its _,_⟩=>t=="tuple"&&decide (its.toList.map absV=xs.map some)
 |_=>false
def mstOk(K:PySem.W.Frag)(c:Addr×List V):Bool:=match K.lookup c.1 with
 |some o=>tupIsV o c.2&&Nat.ble c.2.length 1000
 |none=>false
theorem xAsa{u:Value}{x:V}(h:absV u=some x):RelV x u:=by
 cases u <;> simp only[absV,Option.some.injEq,reduceCtorEq]at h <;> subst h <;> first|rfl|exact⟨_,rfl⟩
theorem xAjv:∀{us:List Value} {xs:List V},us.map absV=xs.map some->Vals xs us
 |[],[],_=>.nil
 |u::us,x::xs,h=>by
  rw[qo,qo]at h;injection h with h1 h2;exact .cons (xAsa h1) (xAjv h2)
theorem xAmd{P:Program}{w:World}{H:Hp}{h:Heap}{b:Addr}{o:Obj}{xs:List V}(e:h.get? b=some o)(t:tupIsV o xs=true)(hl:xs.length≤sizeLine):ObjOk P w H h b (.tup xs):=by
 obtain⟨c,d,dt,sl⟩:=o;unfold tupIsV at t
 cases c <;> cases d <;> cases dt <;> first|exact absurd t qx|skip
 rename_i ty its n
 have t:(ty=="tuple"&&decide (its.toList.map absV=xs.map some))=true:=t;rw[qr]at t
 have ht:ty = "tuple":=by simpa using t.1
 subst ht;exact⟨hl,its.toList,xAjv (of_decide_eq_true t.2),_,e,rfl,n,by simp⟩
theorem xAme{P:Program}{w:World}{K:PySem.W.Frag}{mg mb:Str->Option Value}{CX:CXT}{k:Nat}{fa a:Addr}{fd:FuncData}{x:Str}{sp:Sp}{s₁:Shared}{vs:List Value}{ns:List Int}{Ps:List Addr}{M:Addr->Option (List V)}(KX:K.In s₁.heap)(hns:s₁.heap.Ns mainGlobals mg)(hb:s₁.heap.Ns builtinsNs mb)(hbb:∀x:Str,x≠"__name__"->mb x=bootBuiltins x)(hlim:s₁.heap.NoLimit)(hg:s₁.gens=#[])(hnt:noTabs K=true)(hnl:noLst K=true)(hPs:∀Q∈Ps,s₁.heap.get? Q=some (tabObj #[])/\isCodeTable s₁.heap Q)(hbm:∀Q∈Ps,s₁.heap.BuiltinsAt mg Q)(hMt:∀b xs,M b=some xs->∃o,K.lookup b=some o/\tupIsV o xs=true/\xs.length≤sizeLine)(ha:s₁.heap.get? a=some { cls:=.type "list",data:=.seq vs.toArray })(hi:IntsAre vs ns)(hl:ns.length≤sizeLine)(hr:Room k callerA)(F:∀base:Heap,K.In base->base.Ns mainGlobals mg->(∀Q∈Ps,base.BuiltinsAt mg Q)->FnOk P w K mg base CX k fa fd [x] sp)(hbind:∀(s:Shared) (u:Value),BindsTo s fd ⟨[u],[]⟩ [(x,u)])(hsp:∀H:Hp,OnlyM Ps M H->SqL H a (ns.map V.int)->sp [.ref a] H (fun v _=>v=.bl true) fun _ _ _=>False)(hCX:∀H e s',CX [] H s₁ (fun _ _ _=>False) e s'->False) :
  codeAny (model P w) callerA (.call (.ref fa) ⟨[.ref a],[]⟩) (fun r s'=>r=.ok (.ret (.bool true))/\OldK s₁.heap s'.heap/\s'.os=s₁.os/\AllBare s'.gens) s₁:=by
 have rv:=xAgr hi;have lenV:=hi.length
 have naP:a∉Ps:=fun z=>by
  have:=(hPs a z).1;rw[ha]at this;cases this
 have kP:∀Q∈Ps,K.lookup Q=none:=fun Q hQ=>by
  cases q:K.lookup Q with
  |none=>rfl
  |some o =>
   have e:=KX Q o q;rw[(hPs Q hQ).1]at e;cases e;have h2:=zg.mp hnt (Q,_) (mem_of_lookupK q);exact absurd (show false=true from h2) qx
 have mP:∀b xs,M b=some xs->b∉Ps:=fun b xs e z=>by
  obtain⟨o,h1,_⟩:=hMt b xs e;rw[kP b z]at h1;cases h1
 have ma:M a=none:=by
  cases q:M a with
  |none=>rfl
  |some xs =>
   obtain⟨o,h1,h2,_⟩:=hMt a xs q;have e:=KX a o h1;rw[ha]at e;cases e;have h2:(("list"=="tuple")&&decide (vs.toArray.toList.map absV=xs.map some))=true:=h2;rw[qr]at h2;exact absurd h2.1 (by decide)
 have core:∀H:Hp,OnlyM Ps M H->SqL H a (ns.map V.int)->HOk P w H s₁.heap->(∀b,H b≠none->b=a\/b∈Ps\/∃xs,M b=some xs)->(H a≠none->K.lookup a=none) →
   codeAny (model P w) callerA (.call (.ref fa) ⟨[.ref a],[]⟩) (fun r s'=>r=.ok (.ret (.bool true))/\OldK s₁.heap s'.heap/\s'.os=s₁.os/\AllBare s'.gens) s₁:=by
  intro H hO hS hok hA hK
  let H0:Hp:=fun b=>if(M b).isSome=true then none else H b
  have H0n:∀b,H b=none->H0 b=none:=fun b e=>by
   show(if(M b).isSome=true then none else H b)=none
   split
   ·rfl
   ·exact e
  have H0m:∀b xs,M b=some xs->H0 b=none:=fun b xs e=>by
   show(if(M b).isSome=true then none else H b)=none;rw[e];rfl
  have base_of:∀{b:Addr} {o:Obj},s₁.heap.get? b=some o->H0 b=none->(hidT s₁.heap H0).get? b=some o:=fun e n=>xAoh e n
  have none_of:∀{b:Addr} {o:Obj},s₁.heap.get? b=some o->(∀xs y,o.data≠.seq xs y)->o.data≠.fields #[]->H b=none:=fun{b o} e d1 d2=>by
   cases q:H b with
   |none=>rfl
   |some u =>
    rcases hA b (by rw[q];simp) with e' |e' |⟨xs,e'⟩
    ·subst e'
     rw[ha]at e;cases e;exact absurd rfl (d1 _ _)
    ·rw[(hPs b e').1]at e;cases e
     exact absurd rfl d2
    ·rcases hO b with⟨_,z⟩|⟨_,ys,_,z⟩|⟨_,z,_⟩
     ·exact absurd (by assumption) (mP b xs e')
     ·obtain⟨_,its,_,o',ho',_,n,hd'⟩:=(show ObjOk P w H s₁.heap b (.tup ys) from hok b _ z)
      rw[e]at ho';cases ho';exact absurd hd' (d1 _ _)
     ·rw[e']at z;cases z
  have nsK:∀{b:Addr} {m:Str->Option Value},s₁.heap.Ns b m->(hidT s₁.heap H0).Ns b m:=fun{b m} ⟨o,es,ep,e,d,r⟩=>⟨o,es,ep,base_of e (H0n _ (none_of e (fun xs y z=>by rw[d]at z;cases z) (fun z=>by rw[d]at z;cases z))),d,r⟩
  have hKb:K.In (hidT s₁.heap H0):=fun b o e=>base_of (KX b o e) (by
   cases q:H b with
   |none=>exact H0n b q
   |some u =>
    rcases hA b (by rw[q];simp) with e' |e' |⟨xs,e'⟩
    ·subst e'
     rw[hK (by rw[q];simp)]at e;cases e
    ·rw[kP b e']at e;cases e
    ·exact H0m b xs e')
  have hBb:∀Q∈Ps,(hidT s₁.heap H0).BuiltinsAt mg Q:=fun Q hQ=>by
   obtain⟨bm,ob,b1,b2,b3,b4,b5,b6,b7,b8⟩:=hbm Q hQ;exact⟨bm,ob,b1,b2,b3,b4,base_of b5 (H0n _ (none_of b5 (fun xs y z=>by rw[b8]at z;cases z) (fun z=>by rw[b8]at z;cases z))),b6,b7,b8⟩
  have hM:Mod K mg (hidT s₁.heap H0):=⟨hKb,nsK hns,⟨mb,nsK hb,hbb⟩,let⟨mc,h1,h2⟩:=hlim;⟨mc,nsK h1,h2⟩⟩
  have hbs:∀b o,(hidT s₁.heap H0).get? b=some o->s₁.heap.get? b=some o/\(H b=none\/∃xs,H b=some (.tup xs)):=fun b o e=>by
   obtain⟨h1,h2⟩:=xApx e;refine⟨h1,?_⟩;rcases hO b with⟨hbP,z⟩|⟨_,xs,_,z⟩|⟨_,z,_⟩
   ·have h2':(if(M b).isSome=true then none else H b)=none:=h2
    have mb:M b=none:=by
     cases q:M b with
     |none=>rfl
     |some xs=>exact absurd hbP (mP b xs q)
    rw[mb,if_neg (by decide),z]at h2';cases h2'
   ·exact .inr ⟨xs,z⟩
   ·have h2':(if(M b).isSome=true then none else H b)=none:=h2
    rw[z,if_neg (by decide)]at h2';exact .inl h2'
  have e0:Env0 P w K mg (hidT s₁.heap H0) callerA [] s₁ H:=⟨rfl,hM,hbs,Nat.le_of_eq (xAku _ _),trivial,fun b hb=>absurd (show b∈([]:List Addr) from hb) (by simp),hok,.of_eq hg⟩;refine codeAny_mono ((F _ hKb (nsK hns) hBb).run callerA [] s₁ H ⟨[.ref a],[]⟩ [.ref a] [.ref a] _ _ hr e0 (hbind s₁ (.ref a)) (.cons rfl .nil) (hsp H hO hS)) fun r s' h=>?_
  cases r with
  |error e=>exact(hCX H e s' h).elim
  |ok fl =>
   cases fl with
   |next=>exact False.elim h
   |brk=>exact False.elim h
   |cont=>exact False.elim h
   |ret u =>
    obtain⟨v,H',os,bare,un,hok',r',q⟩:=h;have q':v=.bl true:=q;subst q';obtain rfl:u=Value.bool true:=r';refine⟨rfl,⟨fun b o e=>?_,fun b o e=>un.there b o e (by simp)⟩,os,bare⟩;rcases hO b with⟨hbP,z⟩|⟨_,xs,_,z⟩|⟨_,_,z|⟨ob,xs,z⟩⟩
    ·obtain⟨more,z2⟩:=un.tbls b _ z
     have e2:s'.heap.get? b=some { cls:=.none,data:=.fields (#[]++more) }:=hok' b _ z2;rw[(hPs b hbP).1]at e;cases e;exact .inr (.inl ⟨(hPs b hbP).2,rfl,#[],more,rfl,e2⟩)
    ·exact .inl (un.tupo b o xs e z)
    ·exact .inl (un.keep b o e z (by intro y;exact absurd (show b∈([]:List Addr) from y) (by simp)) (by simp))
    ·have z2:=un.frzs b ob _ z
     obtain⟨e1,_⟩:=hok b _ z;obtain⟨e2,_⟩:=hok' b _ z2;rw[e]at e1;cases e1;exact .inl e2
 have start_ok:∀sc:Option HO,(∀u,sc=some u->ObjOk P w (fun b=>if b∈Ps then some (.tbl #[]) else match M b with|some xs=>some (.tup xs)|none=>if b=a then sc else none) s₁.heap a u) →
   HOk P w (fun b=>if b∈Ps then some (.tbl #[]) else match M b with|some xs=>some (.tup xs)|none=>if b=a then sc else none) s₁.heap:=fun sc hsc b u z=>by
  by_cases hb:b∈Ps
  ·have z':=(if_pos hb).symm.trans z
   cases z';exact(hPs b hb).1
  ·have z1:=(if_neg hb).symm.trans z
   cases hm:M b with
   |some xs =>
    simp only[hm]at z1
    cases z1;obtain⟨o,h1,h2,h3⟩:=hMt b xs hm;exact xAmd (KX b o h1) h2 h3
   |none =>
    simp only[hm]at z1
    by_cases hba:b=a
    ·rw[if_pos hba]at z1
     subst hba;exact hsc u z1
    ·rw[if_neg hba]at z1;cases z1
 have start_only:∀sc:Option HO,(sc=none\/∃o xs,sc=some (.frz o (.lst xs)))->OnlyM Ps M (fun b=>if b∈Ps then some (.tbl #[]) else match M b with|some xs=>some (.tup xs)|none=>if b=a then sc else none):=fun sc hsc b=>by
  by_cases hb:b∈Ps
  ·exact .inl ⟨hb,if_pos hb⟩
  ·cases hm:M b with
   |some xs=>exact .inr (.inl ⟨hb,xs,rfl,(if_neg hb).trans (by simp only[hm])⟩)
   |none =>
    refine .inr (.inr ⟨hb,rfl,?_⟩)
    by_cases hba:b=a
    ·have:(if b∈Ps then some (.tbl #[]) else match M b with|some xs=>some (.tup xs)|none=>if b=a then sc else none)=sc:=(if_neg hb).trans (by simp only[hm];rw[if_pos hba])
     rcases hsc with z|⟨o,xs,z⟩
     ·exact .inl (this.trans z)
     ·exact .inr ⟨o,xs,this.trans z⟩
    ·exact .inl ((if_neg hb).trans (by simp only[hm];rw[if_neg hba]))
 have start_in:∀sc:Option HO,∀b,(if b∈Ps then some (.tbl #[]) else match M b with|some xs=>some (.tup xs)|none=>if b=a then sc else none)≠none->b=a\/b∈Ps\/∃xs,M b=some xs:=fun sc b z=>by
  by_cases hb:b∈Ps
  ·exact .inr (.inl hb)
  ·cases hm:M b with
   |some xs=>exact .inr (.inr ⟨xs,rfl⟩)
   |none =>
    by_cases hba:b=a
    ·exact .inl hba
    ·exact absurd ((if_neg hb).trans (by simp only[hm];rw[if_neg hba])) z
 have start_a:∀sc:Option HO,(if a∈Ps then some (.tbl #[]) else match M a with|some xs=>some (.tup xs)|none=>if a=a then sc else none)=sc:=fun sc=>(if_neg naP).trans (by simp only[ma];exact if_pos trivial)
 cases hk:K.lookup a with
 |some o =>
  have e:=KX a o hk;rw[ha]at e;cases e;exact(xAmb hnl hk).elim
 |none =>
  exact core _ (start_only (some (.frz { cls:=.type "list",data:=.seq vs.toArray } (.lst (ns.map V.int)))) (.inr ⟨_,_,rfl⟩)) (.inr ⟨{ cls:=.type "list",data:=.seq vs.toArray },start_a _⟩) (start_ok _ fun u z=>by
   cases z
   exact⟨ha,by rw[qc];exact hl,vs,_,rv,ha⟩) (start_in _) fun _=>hk
theorem walk_ofQ{l:PySem.W.OpenLaw}{n k:Nat}{q:Program}{loose:List Str}{XP:(Str->Option Value)->Heap->Prop}{YP:World->Heap->Prop}{d:DefRec}{K:Params->PySem.W.Frag}{CX:CXT}{sp:Sp}{x:Str}{Ps:List Addr}(ts:List Str)(ms:List (Addr×List V))(tb:Str->Addr)(hn:l.most=some n)(hn2:n≤sizeLine)(hdf:d.params.defaults=[])(hr:Room k callerA)(hY:∀(w:World) (h:Heap),YP w h->(K w.params).In h)(hYT:∀(w:World) (h:Heap),YP w h->∀Q∈Ps,h.get? Q=some (tabObj #[]))(hC:∀w:World,∀Q∈Ps,∃t∈ts,codeHdIn (K w.params) (tabC (K w.params) t) Q=true)(hnt:∀w:World,noTabs (K w.params)=true)(hnl:∀w:World,noLst (K w.params)=true)(htb:∀w:World,∀t∈ts,tabP (K w.params) t=tb t)(htp:∀w:World,∀t∈ts,tabP (K w.params) t∈Ps)(hms:∀w:World,(ms.all fun c=>mstOk (K w.params) c)=true)(hmd:(ms.map (·.1)).Nodup)(F:∀(w:World) (mg:Str->Option Value) (fa:Addr) (h:Heap),(K w.params).In h->h.Ns mainGlobals mg->mg d.name=some (.ref fa) →
   ∃fd:FuncData,(∀(s:Shared) (u:Value),BindsTo s fd ⟨[u],[]⟩ [(x,u)]) ∧
    ∀base:Heap,(K w.params).In base->base.Ns mainGlobals mg->(∀t∈ts,base.BuiltinsAt mg (tabP (K w.params) t))->FnOk l.prog w (K w.params) mg base CX k fa fd [x] sp)(hsp:∀(H:Hp) (a:Addr) (ns:List Int),ns.length≤n->(∀t∈ts,H (tb t)=some (.tbl #[]))->(∀c∈ms,H c.1=some (.tup c.2))->SqL H a (ns.map V.int)->sp [.ref a] H (fun v _=>v=.bl true) fun _ _ _=>False)(hCX:∀(H:Hp) (s:Shared) (e:Value) (s':Shared),CX [] H s (fun _ _ _=>False) e s'->False) :
  PySem.W.WalkO q loose XP YP l.row.toRowW d [] (fun f vs=>PySem.call f vs):=by
 refine Att.attach_call hn hdf fun w s₀ s₁ mg mb fa o pm cd doc a vs ns G Y ho hd hcd hmg hobj hints hlen hg=>?_;have KX:=hY w _ Y;obtain⟨fd,hb,hF⟩:=F w mg fa _ KX G.T.g hmg;have hT:=hYT w _ Y
 have hbm:∀Q∈Ps,s₁.heap.BuiltinsAt mg Q:=fun Q hQ=>by
  obtain⟨bm,ob,b1,b2,b3,b4,b5,b6⟩:=G.T.bmain;refine⟨bm,ob,b1,b2,fun q=>?_,fun q=>?_,b3,b4,b5,b6⟩
  ·obtain⟨o,es,ep,e,hd,_⟩:=G.T.g
   rw[q,e]at b3;cases b3;rw[hd]at b6;cases b6
  ·rw[q,hT Q hQ]at b3;cases b3;cases b4
 let M:Addr->Option (List V):=fun b=>(ms.find? fun c=>decide (c.1=b)).map (·.2)
 have hMc:∀b xs,M b=some xs->(b,xs)∈ms:=fun b xs e=>by
  obtain⟨c,hc,rfl⟩:=yf.mp e
  have h1:c.1=b:=by simpa using List.find?_some hc
  rw[←h1];exact yq hc
 have hMa:∀c∈ms,M c.1=some c.2:=fun c hc=>by
  have go:∀(l:List (Addr×List V)),(l.map (·.1)).Nodup->c∈l->(l.find? fun d=>decide (d.1=c.1)).map (·.2)=some c.2:=fun l=>by
   induction l with
   |nil=>intro _ z;cases z
   |cons d l ih =>
    intro nd hm;rw[qo,zv]at nd;rw[jv]
    by_cases h:d.1=c.1
    ·rw[decide_eq_true h]
     rcases qw.mp hm with z|z
     ·rw[z];rfl
     ·exact absurd (h▸qu.mpr ⟨c,z,rfl⟩:d.1∈l.map (·.1)) nd.1
    ·rw[decide_eq_false h]
     rcases qw.mp hm with z|z
     ·exact absurd (by rw[z]) h
     ·exact ih nd.2 z
  exact go ms hmd hc
 have look:∀c∈ms,∃o,(K w.params).lookup c.1=some o/\tupIsV o c.2=true/\c.2.length≤sizeLine:=fun c hc=>by
  have h:=zg.mp (hms w) c hc;unfold mstOk at h
  cases q:(K w.params).lookup c.1 with
  |none=>rw[q]at h;exact absurd h qx
  |some o =>
   rw[q]at h;have h:(tupIsV o c.2&&Nat.ble c.2.length 1000)=true:=h;rw[qr]at h;exact⟨o,rfl,h.1,qg (xAad (qp h.2))⟩
 refine xAme (M:=M) KX G.T.g G.T.b G.T.builtins G.T.nolimit hg (hnt w) (hnl w) (fun Q hQ=>⟨hT Q hQ,(((codeHd_of_K KX (hC w Q hQ).choose_spec.2)).tab (hT Q hQ)).isCodeTable⟩) hbm (fun b xs e=>look _ (hMc b xs e)) hobj hints (qf hlen hn2) hr (fun base h1 h2 h3=>hF base h1 h2 fun t ht=>h3 _ (htp w t ht)) hb (fun H hO hS=>hsp H a ns hlen (fun t ht=>htb w t ht▸?_) (fun c hc=>?_) hS) fun H e s'=>hCX H s₁ e s'
 ·rcases hO (tabP (K w.params) t) with z|z|z
  ·exact z.2
  ·exact absurd (htp w t ht) z.1
  ·exact absurd (htp w t ht) z.1
 ·rcases hO c.1 with z|⟨_,ys,hy,z⟩|⟨_,z,_⟩
  ·obtain⟨o,h1,h2,_⟩:=look c hc
   have e:=KX _ _ h1;rw[hT _ z.1]at e;cases e;exact absurd h2 qx
  ·rw[hMa c hc]at hy
   cases hy;exact z
  ·rw[hMa c hc]at z;cases z
inductive Th where
 |non|bl (b:Bool)|int (i:Int)|str (z:Str)|tup (xs:List Th)|oth
mutual
inductive TV(H:Hp):V->Th->Prop
 |non:TV H .non .non
 |bl (b:Bool):TV H (.bl b) (.bl b)
 |int (i:Int):TV H (.int i) (.int i)
 |str {z:Str} (h:z.length≤1000):TV H (.str z) (.str z)
 |tup {p:Addr} {xs:List V} {ds:List Th} (h:H p=some (.tup xs)) (t:TVs H xs ds):TV H (.ref p) (.tup ds)
 |lst {p:Addr} {xs:List V} (h:H p=some (.lst xs)):TV H (.ref p) .oth
 |dct {p:Addr} {xs:List (Key×V)} (h:H p=some (.dK xs)):TV H (.ref p) .oth
inductive TVs(H:Hp):List V->List Th->Prop
 |nil:TVs H [] []
 |cons {x:V} {xs:List V} {d:Th} {ds:List Th}:TV H x d->TVs H xs ds->TVs H (x::xs) (d::ds)
end
mutual
theorem TV.same{H H':Hp}(s:Same H H'):∀{v:V} {d:Th},TV H v d->TV H' v d
 |_,_,.non=>.non
 |_,_,.bl b=>.bl b
 |_,_,.int i=>.int i
 |_,_,.str h=>.str h
 |_,_,.tup h t=>.tup (s _ _ h) (TVs.same s t)
 |_,_,.lst h=>.lst (s _ _ h)
 |_,_,.dct h=>.dct (s _ _ h)
theorem TVs.same{H H':Hp}(s:Same H H'):∀{xs:List V} {ds:List Th},TVs H xs ds->TVs H' xs ds
 |_,_,.nil=>.nil
 |_,_,.cons h t=>.cons (TV.same s h) (TVs.same s t)
end
theorem TVs.len{H:Hp}:∀{xs:List V} {ds:List Th},TVs H xs ds->xs.length=ds.length
 |_,_,.nil=>rfl
 |_,_,.cons _ t=>congrArg (·+1) t.len
theorem TVs.at{H:Hp}:∀{xs:List V} {ds:List Th} {i:Nat} {x:V},TVs H xs ds->xs[i]?=some x->∃d,ds[i]?=some d/\TV H x d
 |_,_,0,_,.cons h _,e=>⟨_,rfl,Option.some.inj e▸h⟩
 |_,_,i+1,_,.cons _ t,e=>t.at (i:=i) e
def kT(T:String):Th->Bool
 |.non=>false
 |.bl _=>T=="bool"||T=="int"
 |.int _=>T=="int"
 |.str _=>T=="str"
 |.tup _=>T=="tuple"
 |.oth=>false
theorem TV.isk{H:Hp}{v:V}{d:Th}(h:TV H v d){T:String}(h1:T≠"list")(h2:T≠"dict"):IsK H T v (kT T d):=by
 cases h with
 |non=>exact .non
 |bl b=>exact .bl b
 |int i=>exact .int i
 |str h=>exact .str _
 |tup h t=>exact .tup h
 |lst h =>
  have h3:(T=="list")=false:=beq_eq_false_iff_ne.mpr h1;have h4:=IsK.lst (T:=T) h;rw[h3]at h4;exact h4
 |dct h =>
  have h3:(T=="dict")=false:=beq_eq_false_iff_ne.mpr h2;have h4:=IsK.dct (T:=T) h;rw[h3]at h4;exact h4
theorem TVs.two{H:Hp}{xs:List V}{ds:List Th}(t:TVs H xs ds)(h:ds.length=2):∃x y a b,xs=[x,y]/\ds=[a,b]/\TV H x a/\TV H y b:=by
 cases t with
 |nil=>exact absurd h (by simp)
 |cons a t =>
  cases t with
  |nil=>exact absurd h (by simp)
  |cons b t =>
   cases t with
   |nil=>exact⟨_,_,_,_,rfl,rfl,a,b⟩
   |cons c t=>exact absurd h (by simp)
theorem TVs.three{H:Hp}{xs:List V}{ds:List Th}(t:TVs H xs ds)(h:ds.length=3):∃x y z a b c,xs=[x,y,z]/\ds=[a,b,c]/\TV H x a/\TV H y b/\TV H z c:=by
 cases t with
 |nil=>exact absurd h (by simp)
 |cons a t =>
  obtain⟨x,y,c,d,rfl,rfl,h1,h2⟩:=t.two (by simpa using h);exact⟨_,_,_,_,_,_,rfl,rfl,a,h1,h2⟩
theorem TVs.five{H:Hp}{xs:List V}{ds:List Th}(t:TVs H xs ds)(h:ds.length=5):∃x y z u v a b c d e,xs=[x,y,z,u,v]/\ds=[a,b,c,d,e]/\TV H x a/\TV H y b/\TV H z c/\TV H u d/\TV H v e:=by
 cases t with
 |nil=>exact absurd h (by simp)
 |cons a t =>
  cases t with
  |nil=>exact absurd h (by simp)
  |cons b t =>
   obtain⟨_,_,_,_,_,_,rfl,rfl,h1,h2,h3⟩:=t.three (by simpa using h);exact⟨_,_,_,_,_,_,_,_,_,_,rfl,rfl,a,b,h1,h2,h3⟩
def lett(c:Nat):Bool:=decide (97≤c)&&decide (c≤122)
def wordS(z:Str):Bool:=decide (1≤z.length/\z.length≤8)&&z.cps.toList.all lett
def mWord:Th->Bool
 |.str z=>wordS z
 |_=>false
def mNum(l:Int):Th->Bool
 |.int i=>decide (l≤i/\i≤1000000)
 |_=>false
def mOne(zs:List Str):Th->Bool
 |.str z=>decide (z∈zs)
 |_=>false
def mTup(n:Int):Th->Bool
 |.tup xs=>decide ((xs.length:Int)=n)
 |_=>false
def mMain:Th->Bool
 |.tup [a,.int i]=>mOne [""] a&&decide (i=0)
 |_=>false
def mAny:Th->Bool
 |.tup [a,b]=>mWord a&&mNum 1 b
 |_=>false
def mSign:Th->Bool
 |.str z=>decide (z.length=1)&&(wordS z||decide (z∈([" ",".",","]:List Str)))
 |.tup [a,b]=>if mOne ["picture"] a then mWord b else mOne ["refer"] a&&(mMain b||mAny b)
 |_=>false
def mIn(ws:List Str):Th->Bool
 |.str z=>decide (z∈ws)
 |_=>false
def mHand(ws:List Str)(t:Th):Bool:=mWord t&&mIn ws t
def mName(ws:List Str):Th->Bool
 |.tup [a,b]=>mAny (.tup [a,b])&&mIn ws a
 |_=>false
def mPart(ws:List Str)(t:Th):Bool:=mMain t||mName ws t
def mLine(ws:List Str):Th->Bool
 |.non=>true
 |t=>mName ws t
def mSn(ws:List Str):Th->Bool
 |.tup [a,b,c]=>mName ws (.tup [a,b])&&mNum 0 c
 |_=>false
def mSnN(ws:List Str):Th->Bool
 |.non=>true
 |t=>mSn ws t
def mSide(ws:List Str):Th->Bool
 |.tup [a,b]=>mSn ws a&&mOne ["ahead","behind"] b
 |_=>false
def mSoR(ws:List Str):Th->Bool
 |.str z=>mSign (.str z)
 |.tup [a,b]=>mSign (.tup [a,b])&&(mOne ["picture"] a||mPart ws b)
 |_=>false
def mSigns(ws:List Str):Th->Bool
 |.tup xs=>decide (1≤xs.length/\xs.length≤12)&&xs.all (mSoR ws)
 |_=>false
def snK:Th->List Key
 |.tup [.str z,.int i,.int j]=>[.inr z,.inl i,.inl j]
 |_=>[]
def mSns(ws:List Str):Th->Bool
 |.tup xs=>decide (1≤xs.length/\xs.length≤12)&&(xs.all (mSn ws)&&decide ((xs.map snK).Nodup))
 |_=>false
def mWoN:Th->Bool
 |.non=>true
 |t=>mWord t
def mWoE(t:Th):Bool:=mWord t||mOne [""] t
def mTruth:Th->Bool
 |.bl _=>true
 |_=>false
def mCounts(ws:List Str):Th->Bool
 |.tup xs=>decide (xs.length=ws.length)&&xs.all (mNum 0)
 |_=>false
inductive Fm where
 |part|name|snn|signs|sns|side|word|won|way|line|woe|hand|leave|truth|num|counts
 deriving DecidableEq
def fmM(ws:List Str):Fm->Th->Bool
 |.part=>mPart ws|.name=>mName ws|.snn=>mSnN ws|.signs=>mSigns ws|.sns=>mSns ws|.side=>mSide ws|.word=>mWord|.won=>mWoN
 |.way=>mOne ["row","column"]|.line=>mLine ws|.woe=>mWoE|.hand=>mHand ws|.leave=>mOne ["read","note","write","give"]|.truth=>mTruth|.num=>mNum 1|.counts=>mCounts ws
def fmsL:List (Str×List Fm):=[("nothing",[]),("part",[.part]),("move",[.name,.part]),("cut",[.name]),("put",[.part,.snn,.signs]),("out",[.part,.sns]),("mark",[.part,.side,.side,.word,.won]),("note",[.part,.side,.side,.word]),("line",[.part,.way,.line]),("strike",[.part,.name]),("cell",[.part,.name,.name,.woe]),("leave",[.part,.hand,.leave,.truth]),("back",[.num]),("again",[.num]),("bring",[.word]),("drop",[.word]),("pour",[.counts])]
def fmsOf(z:Str):Option (List Fm):=(fmsL.find? fun p=>decide (p.1=z)).map (·.2)
def all2(ws:List Str):List Fm->List Th->Bool
 |f::fs,t::ts=>fmM ws f t&&all2 ws fs ts
 |_,_=>true
def lessTh(n:Int):List Th->Bool
 |.int i::_=>decide (i<n)
 |_=>true
def mWhat(ws:List Str)(n:Int):Th->Bool
 |.tup (.str k::ts)=>match fmsOf k with
  |some fs=>decide (ts.length=fs.length)&&(all2 ws fs ts&&(!decide (k∈(["back","again"]:List Str))||lessTh n ts))
  |none=>false
 |_=>false
def mBranch(ws:List Str):Th->Bool
 |.non=>true
 |.tup [a,b]=>mHand ws a&&mWord b
 |_=>false
def mOwn(ws:List Str):Th->Th->Th->Bool
 |.str z,.int n,.tup cs=>match cs[ws.idxOf z]? with
  |some (.int c)=>decide (c=n - 1)
  |_=>false
 |_,_,_=>false
def mDeed(ws:List Str):Th->Bool
 |.tup [a,.int n,c,d,e]=>mName ws (.tup [a,.int n])&&(mCounts ws c&&(mOwn ws a (.int n) c&&(mBranch ws d&&mWhat ws n e)))
 |_=>false
theorem off2{ds:List Th}(h:¬mTup 2 (.tup ds)=true):¬ds.length=2:=fun e=>h (decide_eq_true (by omega))
theorem off3{ds:List Th}(h:¬mTup 3 (.tup ds)=true):¬ds.length=3:=fun e=>h (decide_eq_true (by omega))
theorem off5{ds:List Th}(h:¬mTup 5 (.tup ds)=true):¬ds.length=5:=fun e=>h (decide_eq_true (by omega))
theorem xAjw{ds:List Th}(h:¬ds.length=2):mAny (.tup ds)=false:=by
 unfold mAny;split
 ·rename_i e;cases e;exact absurd rfl h
 ·rfl
theorem xAmf{ds:List Th}(h:¬ds.length=2):mMain (.tup ds)=false:=by
 unfold mMain;split
 ·rename_i e;cases e;exact absurd rfl h
 ·rfl
theorem xAmg{ws:List Str}{ds:List Th}(h:¬ds.length=2):mSide ws (.tup ds)=false:=by
 unfold mSide;split
 ·rename_i e;cases e;exact absurd rfl h
 ·rfl
theorem xAhd{ds:List Th}(h:¬ds.length=2):mSign (.tup ds)=false:=by
 unfold mSign;split
 ·rename_i e;cases e
 ·rename_i e;cases e;exact absurd rfl h
 ·rfl
theorem xAsb{ws:List Str}{ds:List Th}(h:¬ds.length=3):mSn ws (.tup ds)=false:=by
 unfold mSn;split
 ·rename_i e;cases e;exact absurd rfl h
 ·rfl
theorem xAhz{ws:List Str}{ds:List Th}(h:¬ds.length=2):mBranch ws (.tup ds)=false:=by
 unfold mBranch;split
 ·rename_i e;cases e
 ·rename_i e;cases e;exact absurd rfl h
 ·rfl
theorem xAmh{ws:List Str}{ds:List Th}(h:¬ds.length=5):mDeed ws (.tup ds)=false:=by
 unfold mDeed;split
 ·rename_i e;cases e;exact absurd rfl h
 ·rfl
end L2
namespace L2
open PySem PySem.Spec PySem.W PyProof.Rows My
theorem xAjx{H:Hp}:∀ws:List Str,DVs H (ws.map V.str) (ws.map PyData.str)
 |[]=>.nil
 |w::ws=>.cons (.str w) (xAjx ws)
theorem xAhe:∀{ws:List Str},(∀w∈ws,IsW w)->PyData.canLayAll0 (ws.map PyData.str)=true
 |[],_=>by first|rfl|(unfold PyData.canLayAll0;rfl)
 |w::ws,h=>by
  show PyData.canLayAll0 (.str w::ws.map PyData.str)=true;unfold PyData.canLayAll0;rw[xAqw (h w qm),xAhe fun x hx=>h x (qk _ hx)];rfl
theorem xAsc{z:Str}{ws:List Str}(h:z∈ws):ws[ws.idxOf z]?=some z:=by
 induction ws with
 |nil=>exact absurd h (by simp)
 |cons w ws ih =>
  by_cases e:w=z
  ·subst e;simp[List.idxOf_cons]
  ·have h':z∈ws:=(qw.mp h).resolve_left fun x=>e x.symm
   have hb:(w==z)=false:=beq_eq_false_iff_ne.mpr e;rw[List.idxOf_cons,hb];simpa using ih h'
theorem xAsd{z:Str}{ws:List Str}{m:Nat}(h:m<ws.idxOf z):ws[m]?≠some z:=by
 intro e;have:=List.not_of_lt_findIdx (p:=(·==z)) (xs:=ws) h;have hm:m<ws.length:=(zf.mp e).1;have e2:ws[m]=z:=(zf.mp e).2;rw[e2]at this
 simp at this
theorem xAnx(a b:Str):PyData.eqv (.str a) (.str b)=decide (a=b):=by
 cases e:PyData.eqv (.str a) (.str b) with
 |true=>exact(decide_eq_true (PyData.str.inj ((xAez _ _ rfl rfl).mp e))).symm
 |false=>exact(decide_eq_false fun h=>by rw[(xAez _ _ rfl rfl).mpr (congrArg PyData.str h)]at e;exact Bool.noConfusion e).symm
theorem xAse{H:Hp}{p:Addr}{ws:List Str}{z:Str}{Q:VK}(hw:RL H p ws)(hz:z∈ws)(q:Q (.int ((ws.idxOf z:Nat):Int)) H):rIndexD 61 (.ref p) [.str z] H Q :=
 ⟨.str z,.str z,p,ws.map PyData.str,ws.map V.str,ws.idxOf z,rfl,rfl,.str z,SqL.of hw.at',xAjx ws,xAqw (hw.wd z hz),xAhe hw.wd,(by show PyData.depth (.str z)≤61;simp[PyData.depth]),⟨.str z,by rw[List.getElem?_map,xAsc hz];rfl,by rw[xAnx];simp⟩,fun m d hm hd=>by
  rw[zh]at hd
  cases e:ws[m]? with
  |none=>rw[e]at hd;exact nomatch hd
  |some w =>
   rw[e]at hd;have hd:PyData.str w=d:=Option.some.inj hd;subst hd;rw[xAnx]
   exact decide_eq_false fun x=>xAsd hm (x▸e),q⟩
end L2
namespace L2
open PySem PySem.Spec PySem.W PyProof.Rows
def SZ(h:Heap)(a:Addr)(n:Nat):Prop:=∃o es ep t,h.get? a=some o/\o.ExactSet/\o.data=.set es ep t/\es.size=n/\t.fits n=true
section
variable {prog:Program}{w:World}{A:Around}{E:Value->Shared->Prop}{s:Shared}
theorem xAjy{l:Addr}{items:Array Value}{n:Nat}{Q:Value->Shared->Prop}(hh:A.handled=none)(hu:A.units+4<cLine)(hl:s.heap.IsTuple l items)(hlp:∀(s':Shared) (led:Bool) (R:Result->Shared->Prop),s'.heap=(s.heap.push { cls:=.type "set",dict:=none,data:=.set #[] 0 (.fresh 0 0 led) }).push { cls:=.type "tuple_iterator",data:=.fields #[.ref l,.int 0 0] }->(∀h' tk,(∀b o,b≠s.heap.objs.size->b≠s.heap.objs.size+1->s'.heap.get? b=some o->h'.get? b=some o)->SZ h' s.heap.objs.size n->R (.ok (.ret .none)) { s' with heap:=h',toks:=tk })->codeAny (model prog w) A.in1.in1 (.builtin "set.update.loop" ⟨[.ref s.heap.objs.size,.ref (s.heap.objs.size+1)],[]⟩) R s')(h:∀(h':Heap) (tk:Nat),SZ h' s.heap.objs.size n->(∀b o,b<s.heap.objs.size->s.heap.get? b=some o->h'.get? b=some o)->Q (.ref s.heap.objs.size) { s with heap:=h',toks:=tk }) :
  wpAny (model prog w) A (call (.type "set") [.ref l]) Q E s:=by
 obtain⟨c,tl,hmro⟩:=F.called_set.mro;have hmade:=F.called_set.made;have hsub:=F.called_set.sub;refine wpAny_call (codeAny_of_tree ?_);show wpAny _ _ (callAny (.type "set") _) _ _ _;refine wpAny_pure ⟨Code.quiet_builtin _ (by decide +kernel),codeAny_builtin F.entry_type_call ?_⟩;rw[Around.under_plain (weight_type_call_type "set" [.ref l] []) rfl];have h1:=F.called_set.notType;have h2:=F.called_set.canCreate;have hct:=F.typeCall_set_1 (.ref l)
 repeat (any_goals (first|assumption|wp_step))
 refine codeAny_mono (code_set_new_1 (.ref l) (E:=E) (Q₁:=fun obj s₁=>∃led:Bool,obj=.ref s.heap.objs.size/\s₁={ s with heap:=s.heap.push { cls:=.type "set",dict:=none,data:=.set #[] 0 (.fresh 0 0 led) } }) fun led=>⟨led,rfl,rfl⟩) fun r s₁ hr=>?_
 cases r with
 |error e=>exact hr
 |ok fl =>
  cases fl with
  |ret obj =>
   obtain⟨led,rfl,rfl⟩:=hr;have hS:(s.heap.push { cls:=.type "set",dict:=none,data:=.set #[] 0 (.fresh 0 0 led) }).get? s.heap.objs.size=some { cls:=.type "set",dict:=none,data:=.set #[] 0 (.fresh 0 0 led) }:=Heap.get?_push_size _ rfl;have hT:Shared.TypeIs { s with heap:=s.heap.push { cls:=.type "set",dict:=none,data:=.set #[] 0 (.fresh 0 0 led) } } (.ref s.heap.objs.size) "set":=⟨_,hS,rfl⟩;have hlk:=F.called_set.init.lookup;have hbi:=F.called_set.init.bind (.ref s.heap.objs.size)
   repeat (any_goals (first|assumption|wp_step))
   refine codeAny_mono (codeAny_call_builtin (R:=wants (fun r s₂=>r=.none/\∃h' tk,s₂={ s with heap:=h',toks:=tk }/\SZ h' s.heap.objs.size n/\(∀b o,b<s.heap.objs.size->s.heap.get? b=some o->h'.get? b=some o)) E) F.called_set.init.plain F.entry_set_init (check_set_init_1 hT ?_)) fun r₂ s₂ hr₂=>?_
   ·obtain⟨ol,hol,hcl,nl,hdl⟩:=hl
    obtain⟨ocls,odict,odata,oslots⟩:=ol
    simp only at hcl hdl
    subst hcl;subst hdl;have hol':(s.heap.push { cls:=.type "set",dict:=none,data:=.set #[] 0 (.fresh 0 0 led) }).get? l=some { cls:=.type "tuple",dict:=odict,data:=.seq items nl,slots:=oslots }:=Heap.get?_push_of_some _ hol;have hsls:=F.sub_tuple_set;have hslf:=F.sub_tuple_frozenset
    have hne:(Value.type "tuple"==Value.type "dict")=false:=by decide
    have hl1:(s.heap.push { cls:=.type "set",dict:=none,data:=.set #[] 0 (.fresh 0 0 led) }).IsTuple l items:=⟨_,hol',rfl,nl,rfl⟩;unfold Builtin.«set.__init__» noKeywords Builtin.Frozenset.updateFrom;generalize hPI:pyIter=PI
    wp_walk
    subst hPI;refine wpAny_pyIter_tuple hl1 ?_;refine wpAny_bind (wpAny_runValue ?_);have hlS:l<s.heap.objs.size:=Heap.lt_size hol;have hsz:(s.heap.push { cls:=.type "set",dict:=none,data:=.set #[] 0 (.fresh 0 0 led) }).objs.size=s.heap.objs.size+1:=Heap.size_push ..;rw[hsz];have k0:∀b o,s.heap.get? b=some o->((s.heap.push { cls:=.type "set",dict:=none,data:=.set #[] 0 (.fresh 0 0 led) }).push { cls:=.type "tuple_iterator",data:=.fields #[.ref l,.int 0 0] }).get? b=some o:=fun b o e=>Heap.get?_push_of_some _ (Heap.get?_push_of_some _ e);refine hlp _ led _ rfl ?_
    ·intro h' tk kp hS'
     refine wpAny_pure ?_;show wpAny _ _ (ret Value.none) _ _ _;refine wpAny_pure ⟨rfl,h',tk,rfl,hS',fun b o hb e=>?_⟩;exact kp b o (qi hb) (qi (w6 hb)) (k0 b o e)
   ·cases r₂ with
    |error e=>exact hr₂
    |ok fl₂ =>
     cases fl₂ with
     |ret r =>
      obtain⟨rfl,h',tk,rfl,hS',hk'⟩:=hr₂
      repeat (any_goals (first|assumption|wp_step))
      exact h _ _ hS' hk'
     |_=>exact hr₂.elim
  |_=>exact hr.elim
end
end L2
namespace Stb
open PySem SetTable
theorem probe_from'{t:SetTable}{hashAt:Nat->Int}{h:Int}{N:Nat}(w:Way t h N)(hd:t.dummies=#[]):∀(f k:Nat),k≤N->N - k<f →
  (SetTable.probe.go t hashAt h f (adv t k (t.probeStart h))=some (.empty (adv t N (t.probeStart h)).j none)/\∀n i,k≤n->n<N->t.slot (adv t n (t.probeStart h)).j=.live i->hashAt i≠h) ∨
  ∃n i,k≤n/\n<N/\t.slot (adv t n (t.probeStart h)).j=.live i/\(∀n' i',k≤n'->n'<n->t.slot (adv t n' (t.probeStart h)).j=.live i'->hashAt i'≠h)/\SetTable.probe.go t hashAt h f (adv t k (t.probeStart h))=some (.candidate (adv t n (t.probeStart h)).j i (adv t (n+1) (t.probeStart h)))
 | 0,k,_,h2=>absurd h2 (yn _)
 |f+1,k,h1,h2=>by
  have hdum:(adv t k (t.probeStart h)).dummy=none:=xAhb t k _;unfold SetTable.probe.go
  cases hs:t.slot (adv t k (t.probeStart h)).j with
  |empty =>
   have:k=N:=by
    refine Classical.byContradiction fun z=>?_;exact w.first k (by omega) hs
   subst this;left
   simp only[hdum]
   exact⟨trivial,fun n i a b=>absurd b (by omega)⟩
  |dummy=>exact absurd hs (slot_nodum hd)
  |live i =>
   have hk:k<N:=by
    refine j9 h1 fun z=>?_;rw[z,w.last]at hs;cases hs
   have ea:t.advance (adv t k (t.probeStart h))=adv t (k+1) (t.probeStart h):=by rw[xAff];rfl
   dsimp only
   by_cases hh:(hashAt i==h)=true
   ·right
    exact⟨k,i,qd _,hk,hs,fun n' i' a b=>absurd b (by omega),by rw[if_pos hh,ea]⟩
   ·rw[if_neg hh,ea]
    have hne:hashAt i≠h:=fun z=>hh (beq_iff_eq.mpr z)
    have ext:∀n' i',k≤n'->(∀i',k+1≤n'->t.slot (adv t n' (t.probeStart h)).j=.live i'->hashAt i'≠h)->t.slot (adv t n' (t.probeStart h)).j=.live i'->hashAt i'≠h:=fun n' i' a b c=>by
     by_cases q:k=n'
     ·subst q;rw[hs]at c;cases c;exact hne
     ·exact b i' (by omega) c
    rcases probe_from' w hd f (k+1) (by omega) (by omega) with⟨e,e2⟩|⟨n,i2,a1,a2,a3,a4,a5⟩
    ·exact .inl ⟨e,fun n i' a b c=>ext n i' a (fun i' a' c'=>e2 n i' a' b c') c⟩
    ·exact .inr ⟨n,i2,by omega,a2,a3,fun n' i' a b c=>ext n' i' a (fun i' a' c'=>a4 n' i' a' b c') c,a5⟩
theorem fm_get{α β:Type}{f:α->Option β}:∀(l:List α) (i:Nat),(∀x∈l,∃y,f x=some y)->(l.filterMap f)[i]?=l[i]?.bind f
 |[],i,_=>by simp
 |x::l,i,h=>by
  obtain⟨y,hy⟩:=h x qm;rw[gd hy]
  cases i with
  |zero=>simp[hy]
  |succ i =>
   rw[jd,jd];exact fm_get l i fun x hx=>h x (qk _ hx)
end Stb
namespace L2
open PySem PySem.Spec PySem.W PyProof.Rows
section
variable {P:Program}{w:World}{A:Around}{R:Result->Shared->Prop}{E:Value->Shared->Prop}{s:Shared}
structure Et(P:Program)(w:World)(h:Heap)(es:Array (Int×Value))(kl:Array (List Key)):Prop where
 size:kl.size=es.size
 it:∀(i:Nat) e ls,es[i]?=some e->kl[i]?=some ls->e.1=fh P w ls/\FI P w h ls e.2
theorem Et.all{h:Heap}{es:Array (Int×Value)}{kl:Array (List Key)}(x:Et P w h es kl):∀e∈es.toList,∃ls,FI P w h ls e.2:=fun e he=>by
 obtain⟨i,hi,q⟩:=yo he
 have hi':i<es.size:=by simpa using hi
 have h2:i<kl.size:=by rw[x.size];exact hi'
 exact⟨_,(x.it i e _ (by rw[←wc,qj hi,q]) (zj h2)).2⟩
theorem xAjz{a b:Addr}{o:Obj}{es:Array (Int×Value)}{kl:Array (List Key)}{ep:Nat}{t:SetTable}{ks:List Key}{N:Nat}{Q:SetFound->Shared->Prop}(hu:A.units+1<cLine)(ho:s.heap.get? a=some o)(hd:o.data=.set es ep t)(hT:Tk t es.size)(hk:(tupleKind (mixKind P w)).is s.heap ks b)(hE:Et P w s.heap es kl)(W:Stb.Way t (fh P w ks) N)(hQ:(∃i:Nat,kl[i]?=some ks)->Q (.there none) s) :
  ∀(f k:Nat) (stand:Option SetTable.Probe),(Q (.free (Stb.adv t N (t.probeStart (fh P w ks))).j false) s\/∃n0 i0,k≤n0/\n0<N/\t.slot (Stb.adv t n0 (t.probeStart (fh P w ks))).j=.live i0/\kl[i0]?=some ks)->k≤N->N - k<f->stand.getD (t.probeStart (fh P w ks))=Stb.adv t k (t.probeStart (fh P w ks))->wpAny (model P w) A (setSearchFrom a (.ref b) (fh P w ks) true f stand) Q E s
 | 0,_,_,_,_,h2,_=>absurd h2 (yn _)
 |f+1,k,stand,h0,h1,h2,h3=>by
  have hash:∀{i:Nat} {ls:List Key},kl[i]?=some ls->((es[i]?.map (·.1)).getD 0)=fh P w ls:=fun{i ls} e=>by
   have hi:i<es.size:=by rw[←hE.size];exact(wx.mp e).1
   have e2:=zj hi;rw[e2];exact(hE.it i _ _ e2 e).1
  unfold setSearchFrom;refine wpAny_bind (wpAny_setState_of ho hd hT.fits ?_);dsimp only;rw[hT.odd]
  simp only[Bool.false_eq_true,if_false]
  rw[h3];have hp:=Stb.probe_from' (hashAt:=fun i=>(es[i]?.map (·.1)).getD 0) W hT.1 (10 * SetTable.turns t.mask) k h1 (by have:=W.few;omega);rcases hp with⟨e,e2⟩|⟨n,i,a1,a2,a4,a6,a5⟩
  ·have e':t.probe (fun i=>(es[i]?.map (·.1)).getD 0) (fh P w ks) (Stb.adv t k (t.probeStart (fh P w ks)))=some (.empty (Stb.adv t N (t.probeStart (fh P w ks))).j none):=e
   show wpAny _ _ (match t.probe (fun i=>(es[i]?.map (·.1)).getD 0) (fh P w ks) (Stb.adv t k (t.probeStart (fh P w ks))) with
    |some met=>_
    |_=>_) _ _ _
   rw[e'];rcases h0 with h0|⟨n0,i0,c1,c2,c3,c4⟩
   ·exact wpAny_pure h0
   ·exact absurd (hash c4) (e2 n0 i0 c1 c2 c3)
  ·have e':t.probe (fun i=>(es[i]?.map (·.1)).getD 0) (fh P w ks) (Stb.adv t k (t.probeStart (fh P w ks)))=some (.candidate (Stb.adv t n (t.probeStart (fh P w ks))).j i (Stb.adv t (n+1) (t.probeStart (fh P w ks)))):=a5
   show wpAny _ _ (match t.probe (fun i=>(es[i]?.map (·.1)).getD 0) (fh P w ks) (Stb.adv t k (t.probeStart (fh P w ks))) with
    |some met=>_
    |_=>_) _ _ _
   rw[e'];dsimp only
   have hi:i<es.size:=by rw[←hT.2.1];exact Stb.slot_live a4
   have hei:es[i]?=some es[i]:=zj hi
   have hik:i<kl.size:=by rw[hE.size];exact hi
   obtain⟨ls,hls⟩:∃ls,kl[i]?=some ls:=⟨_,zj hik⟩;obtain⟨_,y,ey,hy⟩:=hE.it i _ _ hei hls
   have hflt:∀y∈(Array.filter (fun x=>x.1==fh P w ks) es).toList.map (·.2),∃ls,FI P w s.heap ls y:=fun y hy'=>by
    obtain⟨e,he,rfl⟩:=qu.mp hy';rw[Array.toList_filter]at he;exact hE.all e (List.mem_filter.mp he).1
   have hsm:t.sameMemory t.moves t.mask=some true:=by unfold SetTable.sameMemory;rw[if_pos (beq_self_eq_true _)]
   have step:wpAny (model P w) A (do
     let equal ←holding [es[i].2] (eqBool es[i].2 (.ref b))
     let(es',_,t') ←setState a
     if true&&equal then return .there none
     let some sm0:=t'.sameMemory t.moves t.mask|unsupported "set.changed-during-lookup:is-the-new-block-at-the-old-address"
     let still ←match(if sm0 then t'.slot (Stb.adv t n (t.probeStart (fh P w ks))).j else .empty) with
      |.live i'=>match es'[i']? with
       |some (_,y')=>do pure (if ←isSame y' es[i].2 then some i' else none)
       |none=>pure none
      |_=>pure none
     match still with
     |none=>rule "set.search.anew";setSearchFrom a (.ref b) (fh P w ks) true f none
     |some i'=>if equal then return .there (some i') else setSearchFrom a (.ref b) (fh P w ks) true f (some (Stb.adv t (n+1) (t.probeStart (fh P w ks))))) Q E s:=by
    rw[ey];refine wpAny_bind (wpAny_holding (xAlu (by omega) hy hk P w E _ ?_))
    by_cases hne:ls=ks
    ·rw[decide_eq_true hne]
     refine wpAny_bind (wpAny_setState_of ho hd hT.fits ?_);exact wpAny_pure (hQ ⟨i,hne▸hls⟩)
    ·rw[decide_eq_false hne]
     refine wpAny_bind (wpAny_setState_of ho hd hT.fits ?_);dsimp only
     simp only[Bool.and_false,Bool.false_eq_true,if_false]
     rw[hsm];dsimp only;rw[if_pos rfl,a4];dsimp only;rw[hei];dsimp only;rw[ey];refine wpAny_bind (show wpAny _ _ (isSame (.ref y) (.ref y)) _ _ _ from ?_);unfold isSame;dsimp only;rw[beq_self_eq_true]
     simp only[if_true]
     refine wpAny_pure (wpAny_bind (wpAny_pure ?_));refine xAjz hu ho hd hT hk hE W hQ f (n+1) _ ?_ (by omega) (by omega) rfl;rcases h0 with h0|⟨n0,i0,c1,c2,c3,c4⟩
     ·exact .inl h0
     ·refine .inr ⟨n0,i0,?_,c2,c3,c4⟩
      rcases j8 n0 n with q|q|q
      ·exact absurd (hash c4) (a6 n0 i0 c1 q c3)
      ·subst q
       rw[a4]at c3;cases c3;rw[hls]at c4;exact absurd (Option.some.inj c4) hne
      ·exact q
   cases hl:t.led with
   |true =>
    simp only[Bool.not_true,Bool.false_eq_true,if_false]
    rw[hei];exact step
   |false =>
    simp only[Bool.not_false,if_true]
    refine wpAny_bind (xApe hk hflt ?_)
    simp only[Bool.false_eq_true,if_false]
    rw[hei];exact step
def SD(P:Program)(w:World)(h:Heap)(a:Addr)(ll:List (List Key)):Prop:=∃o es ep t kl,h.get? a=some o/\o.ExactSet/\o.data=.set es ep t/\Et P w h es kl/\kl.toList.Perm ll/\Tk t ll.length/\Stb.Iv t.mask t.place es
theorem Et.move{h h':Heap}{es:Array (Int×Value)}{kl:Array (List Key)}(x:Et P w h es kl)(k:∀b o,h.get? b=some o->o.cls=.type "tuple"->h'.get? b=some o):Et P w h' es kl:=⟨x.size,fun i e ls e1 e2=>⟨(x.it i e ls e1 e2).1,FI.ext (x.it i e ls e1 e2).2 k⟩⟩
theorem SD.move{h h':Heap}{a:Addr}{kk:List (List Key)}(x:SD P w h a kk)(ha:∀o,h.get? a=some o->h'.get? a=some o)(k:∀b o,h.get? b=some o->o.cls=.type "tuple"->h'.get? b=some o):SD P w h' a kk:=by
 obtain⟨o,es,ep,t,kl,h1,h2,h3,h4,h5⟩:=x;exact⟨o,es,ep,t,kl,ha _ h1,h2,h3,h4.move k,h5⟩
theorem tail_d{a:Addr}{o:Obj}{es es1:Array (Int×Value)}{kl1:Array (List Key)}{ep n:Nat}{t t1:SetTable}{kk:List (List Key)}{Q:Bool->Shared->Prop}(ho:s.heap.get? a=some o)(hex:o.ExactSet)(hd:o.data=.set es ep t)(hT:Tk t n)(h1:es1.size=n+1)(hk:kk.length=n+1)(hn:n<63)(hE:Et P w s.heap es1 kl1)(hP:kl1.toList.Perm kk)(hI:Stb.Iv t1.mask t1.place es1)(e1:t1.dummies=#[])(e2:t1.place.size=n+1)(e3:t1.mask=t.mask)(hQ:∀h',Heap.SameBut a s.heap h'->SD P w h' a kk->Q true { s with heap:=h' }) :
  wpAny (model P w) A (do
    storeSet a es1 t1
    if(!false&&t1.tooFull)=true then do
      setRelay a (SetTable.grown (n+1))
      pure true
     else pure true) Q E s:=by
 have hsl:n+1≤sizeLine:=qg (xAad (by omega));refine wpAny_bind (wpAny_storeSet_of ho hd ?_ (by omega));have ho1:=xAjt (es1:=es1) (t1:=t1) ho hd;have hsb1:=Heap.SameBut.update s.heap a (Obj.putSet es1 t1);have hm:=hT.2.2
 have hfl:t1.fill=n+1:=by unfold SetTable.fill;rw[e1,e2];rfl
 have tup:∀{h':Heap},Heap.SameBut a s.heap h'->∀b o',s.heap.get? b=some o'->o'.cls=.type "tuple"->h'.get? b=some o':=fun sb b o' e c=>by
  rw[sb.2 b (fun z=>by
   rw[z,ho]at e;cases e;rw[hex.1]at c;injection c with c
   exact absurd c (by decide))]
  exact e
 have mk:∀{h':Heap} {es2:Array (Int×Value)} {kl2:Array (List Key)} {ep2:Nat} {t2:SetTable},Heap.SameBut a s.heap h'->h'.get? a=some { o with data:=.set es2 ep2 t2 }->Et P w s.heap es2 kl2->kl2.toList.Perm kk->Tk t2 (n+1)->Stb.Iv t2.mask t2.place es2->SD P w h' a kk:=fun{h' es2 kl2 ep2 t2} sb g p q k v =>
  ⟨_,es2,ep2,t2,kl2,g,hex,rfl,p.move (tup sb),q,by rw[hk];exact k,v⟩
 by_cases hf:t1.tooFull=true
 ·rw[if_pos (by rw[hf];rfl)]
  unfold SetTable.tooFull at hf;have hf:=of_decide_eq_true hf;rw[hfl,e3]at hf
  have hfit:t1.fits es1.size=true:=by
   unfold SetTable.fits;rw[hfl,e2,h1,beq_self_eq_true,zt];exact decide_eq_true (by rw[e3];omega)
  have big:∃m,Stb.Mk m/\SetTable.sizeAbove (SetTable.grown (n+1)) - 1=m/\¬SetTable.sizeAbove (SetTable.grown (n+1))>sizeLine/\n+1≤m/\(m=7/\n+1≤4\/m=31/\n+1≤18\/m=127/\n+1≤76):=by
   rcases hm with⟨q,_⟩|⟨q,_⟩|⟨q,_⟩
   ·have:n=4:=by omega
    subst this;exact⟨31,.inr (.inl rfl),by decide,by rw[sizeLine_eq];decide,by omega,by omega⟩
   ·have:n=18:=by omega
    subst this;exact⟨127,.inr (.inr rfl),by decide,by rw[sizeLine_eq];decide,by omega,by omega⟩
   ·omega
  obtain⟨m,hM,em,hbig,hle,hcase⟩:=big;unfold setRelay;refine wpAny_bind (wpAny_bind (wpAny_setState_of ho1 rfl hfit ?_));dsimp only;rw[if_neg hbig];unfold SetTable.relaid;rw[em];obtain⟨t2,order,el,f1,f2,f3,f4,f5,f7,f6⟩:=Stb.laid_iv (finger:=t1.finger) (moves:=t1.movedTo m) (led:=t1.led) (plain:=t1.plain) (hs:=es1.map (·.1)) hM (by rw[Array.size_map,h1];exact hle);rw[el];rw[Array.size_map,h1]at f3 f4
  have pk:∀{α:Type} (xs:Array α),xs.size=n+1->(order.filterMap (xs[·]?)).toList.Perm xs.toList/\∀i:Nat,(order.filterMap (xs[·]?))[i]?=order[i]?.bind (xs[·]?):=fun xs hx=>by
   constructor
   ·rw[ge]
    refine(f4.filterMap _).trans (.of_eq ?_);rw[←hx];exact xAju xs
   ·intro i
    rw[←wc,ge,←wc];refine Stb.fm_get _ _ fun x hx'=>?_;have:=wq.mp (f4.mem_iff.mp hx');exact⟨_,zj (by rw[hx];exact this)⟩
  have hp:=pk es1 h1;have hkz:kl1.size=n+1:=hE.size.trans h1;have hq:=pk kl1 hkz
  have hsz:(order.filterMap (es1[·]?)).size=es1.size:=by rw[←zx,hp.1.length_eq,zx]
  refine wpAny_bind ?_;show wpAny _ _ (if((order.filterMap (es1[·]?)).size != es1.size)=true then _ else _) _ _ _;rw[if_neg (by rw[hsz];simp)];refine wpAny_pure ?_;have ho2:=xAjt (es1:=order.filterMap (es1[·]?)) (t1:=t2) ho1 rfl;have hsb2:=hsb1.trans (Heap.SameBut.update (s.heap.update a (Obj.putSet es1 t1)) a (Obj.putSet (order.filterMap (es1[·]?)) t2))
  have hE2:Et P w s.heap (order.filterMap (es1[·]?)) (order.filterMap (kl1[·]?)):=by
   refine⟨?_,fun i e ls g1 g2=>?_⟩
   ·rw[←zx,hq.1.length_eq,zx,hsz];exact hE.size
   ·rw[hp.2]at g1
    rw[hq.2]at g2;obtain⟨k,c1,c2⟩:=gf.mp g1;rw[c1]at g2;exact hE.it k e ls c2 g2
  refine wpAny_storeSet_of ho1 rfl (wpAny_pure (hQ _ hsb2 (mk hsb2 ho2 hE2 (hq.1.trans hP) ⟨f2,f3,?_⟩ ⟨f5,?_,fun i j e g1 g2=>?_⟩))) (by rw[hsz];omega)
  ·rw[f1]
   exact hcase
  ·rw[f3,hsz,h1]
  ·rw[hp.2]at g2
   obtain⟨k,c1,c2⟩:=gf.mp g2;obtain⟨h,d1,d2⟩:=f6 i j k g1 c1;rw[Array.getElem?_map,c2]at d1;cases d1;rw[f1];exact d2
 ·rw[if_neg (by rw[zk.mpr hf];decide)]
  unfold SetTable.tooFull at hf;have hf:¬(t1.fill * 5≥t1.mask * 3):=fun z=>hf (decide_eq_true z);rw[hfl,e3]at hf;exact wpAny_pure (hQ _ hsb1 (mk hsb1 ho1 hE hP ⟨e1,e2,by rw[e3];omega⟩ hI))
noncomputable def insK(ll:List (List Key))(ks:List Key):List (List Key):=@ite _ (ks∈ll) (Classical.propDecidable _) ll (ll++[ks])
theorem add_d{a b:Addr}{kk:List (List Key)}{ks:List Key}{Q:Bool->Shared->Prop}(hu:A.units+1<cLine)(hS:SD P w s.heap a kk)(hk:(tupleKind (mixKind P w)).is s.heap ks b)(hl:kk.length<63)(hQ:∀r h',Heap.SameBut a s.heap h'->SD P w h' a (insK kk ks)->Q r { s with heap:=h' }) :
  wpAny (model P w) A (setAddHashed a (.ref b) (fh P w ks)) Q E s:=by
 have hS0:=hS;obtain⟨o,es,ep,t,kl,ho,hex,hd,hE,hP,hT,hI⟩:=hS
 have hz:es.size=kk.length:=by rw[←hE.size,←zx,hP.length_eq]
 rw[←hz]at hT;unfold setAddHashed setAddHashedIn;refine wpAny_holding (wpAny_bind (wpAny_setState_of ho hd hT.fits ?_));dsimp only
 have hbs:byScan (.ref b) es=false:=by unfold byScan Value.scannable;rfl
 rw[hbs]
 simp only[Bool.false_eq_true,if_false]
 have hm:=hT.2.2;obtain⟨N,W⟩:=Stb.way_of hT.mk hT.1 (by rw[hT.2.1];omega) (fh P w ks)
 have memk:∀{ls:List Key},(∃i:Nat,kl[i]?=some ls)↔ls∈kk:=fun{ls}=>by
  rw[←hP.mem_iff];constructor
  ·rintro⟨i,hi⟩;rw[←wc]at hi;exact qz hi
  ·intro h;obtain⟨i,hi,e⟩:=yo h;exact⟨i,by rw[←wc,qj hi,e]⟩
 have taken:∀n,t.slot (Stb.adv t n (t.probeStart (fh P w ks))).j≠.empty->∃u:Nat,t.place[u]?=some (Stb.wj t.mask (fh P w ks) n):=fun n hn=>by
  rw[Stb.wj_eq]at hn
  cases hs:t.slot (Stb.wj t.mask (fh P w ks) n) with
  |empty=>exact absurd hs hn
  |dummy=>exact absurd hs (Stb.slot_nodum hT.1)
  |live i=>exact⟨i,Stb.slot_of hs⟩
 unfold setSearch;refine wpAny_bind (xAjz hu ho hd hT hk hE W (fun hin=>?_) 100000 0 none ?_ (w5 _) ?_ rfl)
 ·have:=hQ false s.heap (Heap.SameBut.refl _ _) (by unfold insK;rw[if_pos (memk.mp hin)];exact hS0)
  exact wpAny_pure this
 ·by_cases hin:ks∈kk
  ·right
   obtain⟨i0,hi0⟩:=memk.mpr hin
   have hs0:i0<es.size:=by rw[←hE.size];exact(wx.mp hi0).1
   have hpz:i0<t.place.size:=by rw[hI.size];exact hs0
   have hj:t.place[i0]?=some t.place[i0]:=zj hpz;obtain⟨n,c1,c2⟩:=hI.ch i0 _ _ hj (zj hs0);rw[(hE.it i0 _ _ (zj hs0) hi0).1]at c1 c2
   have hsl:t.slot (Stb.adv t n (t.probeStart (fh P w ks))).j=.live i0:=by
    rw[Stb.wj_eq,c1];exact Stb.slot_at hI.asc hj
   refine⟨n,i0,w5 _,?_,hsl,hi0⟩;refine Nat.lt_of_not_le fun q=>?_;rcases Nat.lt_or_eq_of_le q with q|q
   ·obtain⟨u,hu⟩:=c2 N q
    have:=Stb.slot_at hI.asc hu;rw[←Stb.wj_eq,W.last]at this;cases this
   ·rw[←q,W.last]at hsl
    cases hsl
  ·left
   have hins:insK kk ks=kk++[ks]:=by unfold insK;rw[if_neg hin]
   dsimp only;refine wpAny_bind (wpAny_setState_of ho hd hT.fits ?_);dsimp only
   have hjn:∀u:Nat,t.place[u]?≠some (Stb.adv t N (t.probeStart (fh P w ks))).j:=fun u hu=>by
    have:=Stb.slot_at hI.asc hu;rw[W.last]at this;cases this
   have hcn:Stb.Cn t.mask (fun k=>∃u:Nat,t.place[u]?=some k) (Stb.adv t N (t.probeStart (fh P w ks))).j (fh P w ks):=⟨N,(Stb.wj_eq _ _ _).symm,fun k hk=>taken k (W.first k hk)⟩;generalize (Stb.adv t N (t.probeStart (fh P w ks))).j=j at hjn hcn;have hb:=(Stb.below_ok hI.asc j).2.2
   have hb1:SetTable.below t.place j≤es.size:=by rw[←hI.size];exact hb
   have hb2:SetTable.below t.place j≤kl.size:=by rw[hE.size];exact hb1
   have hE1:Et P w s.heap (SetTable.insertAt es (SetTable.below t.place j) (fh P w ks,.ref b)) (SetTable.insertAt kl (SetTable.below t.place j) ks):=by
    refine⟨by rw[xAbu,xAbu,hE.size],fun i e ls g1 g2=>?_⟩;rw[Stb.get_insertAt _ _ _ hb1]at g1;rw[Stb.get_insertAt _ _ _ hb2]at g2
    split at g1
    ·rename_i q;rw[if_pos q]at g2;exact hE.it _ _ _ g1 g2
    ·rename_i q
     rw[if_neg q]at g2
     split at g1
     ·rename_i q2;rw[if_pos q2]at g2;cases g1;cases g2;exact⟨rfl,b,rfl,hk⟩
     ·rename_i q2;rw[if_neg q2]at g2;exact hE.it _ _ _ g1 g2
   have hP1:(SetTable.insertAt kl (SetTable.below t.place j) ks).toList.Perm (kk++[ks]):=by
    have e:(SetTable.insertAt kl (SetTable.below t.place j) ks).toList=kl.toList.take (SetTable.below t.place j)++ks::kl.toList.drop (SetTable.below t.place j):=by
     unfold SetTable.insertAt
     simp[Array.toList_extract,List.extract_eq_drop_take]
     rw[List.take_of_length_le (by simp)]
    rw[e];refine List.perm_middle.trans ?_;rw[List.take_append_drop];exact(hP.cons ks).trans (j7 ks kk).symm
   have gen:∀t1:SetTable,t1.dummies=#[]->t1.place=SetTable.insertAt t.place (SetTable.below t.place j) j->t1.mask=t.mask->wpAny (model P w) A (do
     storeSet a (SetTable.insertAt es (t.put j).2 (fh P w ks,.ref b)) t1
     if(!false&&t1.tooFull)=true then do
       setRelay a (SetTable.grown (es.size+1))
       pure true
      else pure true) Q E s:=fun t1 e1 e2 e3=>by
    refine tail_d ho hex hd hT (xAbu _ _ _) (kk:=kk++[ks]) (by rw[ql,←hz];rfl) (by omega) hE1 hP1 ?_ e1 (by rw[e2,xAbu,hT.2.1]) e3 fun h' sb q=>hQ true h' sb (by rw[hins];exact q)
    rw[e2,e3];exact hI.put hjn hcn
   have d1:(t.put j).1.dummies=#[]:=by
    show(if SetTable.has t.dummies j then _ else t.dummies)=#[];rw[hT.1]
    split
    ·rename_i z
     unfold SetTable.has at z
     simp at z
    ·rfl
   split
   ·refine wpAny_bind (xApd hk fun bv=>?_)
    cases bv with
    |true=>exact gen _ d1 rfl rfl
    |false=>exact gen { (t.put j).1 with plain:=false } d1 rfl rfl
   ·refine wpAny_bind (wpAny_pure ?_)
    exact gen _ d1 rfl rfl
 ·have:=W.few
  unfold SetTable.turns at this;omega
noncomputable def ddk(kk:List (List Key)):List (List Key):=kk.foldl insK []
theorem xAny(ll:List (List Key))(ks:List Key):(insK ll ks).length≤ll.length+1:=by
 unfold insK;split
 ·omega
 ·rw[ql];exact qd _
theorem xApg{kk:List (List Key)}{i:Nat}{ks:List Key}(h:kk[i]?=some ks):ddk (kk.take (i+1))=insK (ddk (kk.take i)) ks:=by
 unfold ddk;rw[vh,h,List.foldl_append];rfl
theorem xAnz:∀(kk:List (List Key)),(ddk kk).length≤kk.length:=fun kk=>by
 have:∀(l ll:List (List Key)),(l.foldl insK ll).length≤ll.length+l.length:=fun l=>by
  induction l with
  |nil=>intro ll;exact qd _
  |cons x l ih=>intro ll;have:=ih (insK ll x);have:=xAny ll x;rw[ye,qy];omega
 have:=this kk [];rw[yx,yk]at this;exact this
theorem xAmi(kk:List (List Key)):(ddk kk).length=kk.length↔kk.Nodup:=by
 have:∀(l ll:List (List Key)),(l.foldl insK ll).length=ll.length+l.length↔(l.Nodup/\∀x∈l,x∉ll):=fun l=>by
  induction l with
  |nil=>intro ll;exact⟨fun _=>⟨.nil,fun _ h=>nomatch h⟩,fun _=>rfl⟩
  |cons x l ih =>
   intro ll
   have lt:∀(l ll:List (List Key)),(l.foldl insK ll).length≤ll.length+l.length:=fun l=>by
    induction l with
    |nil=>intro ll;exact qd _
    |cons x l ih=>intro ll;have:=ih (insK ll x);have:=xAny ll x;rw[ye,qy];omega
   rw[ye,qy,zv]
   by_cases h:x∈ll
   ·have e:insK ll x=ll:=by unfold insK;rw[if_pos h]
    rw[e];have:=lt l ll;constructor
    ·intro z;omega
    ·intro z;exact absurd h (z.2 x qm)
   ·have e:insK ll x=ll++[x]:=by unfold insK;rw[if_neg h]
    rw[e];have:=ih (ll++[x]);rw[ql]at this;rw[show ll.length+(l.length+1)=ll.length+[x].length+l.length from by show _=ll.length+1+l.length;omega,this];constructor
    ·rintro⟨a,b⟩
     exact⟨⟨fun hx=>b x hx (zr _ qm),a⟩,fun y hy=>by
      rcases qw.mp hy with rfl|hy
      ·exact h
      ·exact fun z=>b y hy (vf _ z)⟩
    ·rintro⟨⟨a,b⟩,c⟩
     refine⟨b,fun y hy z=>?_⟩;rcases q0.mp z with z|z
     ·exact c y (qk _ hy) z
     ·exact a (zd.mp z▸hy)
 have:=this kk [];rw[yx,yk]at this;exact this.trans ⟨fun h=>h.1,fun h=>⟨h,fun _ _ z=>nomatch z⟩⟩
theorem xAmj{I S l:Addr}{items:Array Value}{kk:List (List Key)}(hh:A.in1.handled=none)(hIl:l≠I)(hSl:S≠l)(hSI:S≠I)(hu:A.in1.units+1<cLine)(hn:kk.length≤63) :
  ∀(k i:Nat) (s:Shared),kk.length - i=k->i≤kk.length->s.heap.IsTupleIter I l i->s.heap.IsTuple l items->LI P w s.heap items kk->SD P w s.heap S (ddk (kk.take i)) →
   (∀h' tk,(∀b o,b≠S->b≠I->s.heap.get? b=some o->h'.get? b=some o)->SD P w h' S (ddk kk)->R (.ok (.ret .none)) { s with heap:=h',toks:=tk }) →
   codeAny (model P w) A (.builtin "set.update.loop" ⟨[.ref S,.ref I],[]⟩) R s:=by
 have W:=Walks.tuple (prog:=P) (w:=w) (A:=A.in1) hh I l hIl items;intro k
 induction k with
 |zero =>
  intro i s hk hi hit hl hli hS hR
  have hin:i=kk.length:=by omega
  subst hin;refine codeAny_builtin F.entry_set_update_loop ?_;rw[Around.under_plainId F.plain_set_update_loop _];show wpAny _ A.in1 (pyNext (.ref I) >>= _) _ _ s;refine wpAny_bind (W.done s _ _ ⟨by rw[hli.1];exact hit,hl⟩ fun h' tk hk'=>?_);show wpAny _ A.in1 (ret Value.none) _ _ _;rw[ww]at hS;obtain⟨oi,ei,ci,di⟩:=id hit;refine wpAny_pure (hR h' tk (fun b o _ nI e=>hk' b o (by simpa using nI) e) (hS.move (fun o e=>hk' S o (by simpa using hSI) e) fun b o e c=>hk' b o (by simpa using xApf e c ei ci (by decide)) e))
 |succ k ih =>
  intro i s hk hi hit hl hli hS hR
  have hlt:i<kk.length:=by omega
  refine codeAny_builtin F.entry_set_update_loop ?_;rw[Around.under_plainId F.plain_set_update_loop _];show wpAny _ A.in1 (pyNext (.ref I) >>= _) _ _ s;refine wpAny_bind (W.item i s _ _ (by rw[hli.1];exact hlt) ⟨hit,hl⟩ fun v h' tk hP hst' hk'=>?_);have hki:kk[i]?=some kk[i]:=qj hlt;obtain⟨oi,ei,ci,di⟩:=id hit
  have kt:∀b o,s.heap.get? b=some o->o.cls=.type "tuple"->h'.get? b=some o:=fun b o e c=>hk' b o (by simpa using xApf e c ei ci (by decide)) e
  have hli1:=hli.ext kt;have hS1:=hS.move (fun o e=>hk' S o (by simpa using hSI) e) kt;obtain⟨b,rfl,hb⟩:=hli1.2 i v _ hP hki;show wpAny _ A.in1 (holding [Value.ref b] (setAdd S (.ref b)) >>= _) _ _ _;refine wpAny_bind (wpAny_holding ?_);unfold setAdd;refine wpAny_holding ?_;refine wpAny_bind ((tupleKind (mixKind P w)).pyHash (show A.in1.units<cLine by omega) hb ?_);have hlen:=xAnz (kk.take i);rw[zw]at hlen;refine add_d (s:={ s with heap:=h',toks:=_ }) hu hS1 hb (by omega) fun r h2 sb hS2=>?_;rw[←xApg hki]at hS2;obtain⟨oS,_,_,_,_,eS,xS,_⟩:=id hS1;have k2:∀c o,c≠S->h'.get? c=some o->h2.get? c=some o:=fun c o nc e=>(sb.2 c nc).trans e
  have kt2:∀c o,h'.get? c=some o->o.cls=.type "tuple"->h2.get? c=some o:=fun c o e cc=>k2 c o (xApf e cc eS xS.1 (by decide)) e
  obtain⟨oi',ei',ci',di'⟩:=hst'.1;obtain⟨ol',el',cl',nl',dl'⟩:=hst'.2;refine wpAny_pure ⟨plainId_quiet F.plain_set_update_loop _,ih (i+1) _ (by omega) hlt ⟨oi',k2 _ _ (Ne.symm hSI) ei',ci',di'⟩ ⟨ol',k2 _ _ (Ne.symm hSl) el',cl',nl',dl'⟩ (hli1.ext kt2) hS2 fun h3 tk3 kp hS3=>?_⟩;exact hR h3 tk3 (fun c o n1 n2 e=>kp c o n1 n2 (k2 c o n1 (hk' c o (by simpa using n2) e))) hS3
end
inductive IrSetD(xs:List V)(H:Hp)(Q:VK):Prop
 |mk (p:Addr) (ys:List V) (kk:List (List Key)) (h0:xs=[.ref p]) (h1:H p=some (.tup ys)) (h2:ys.length=kk.length) (h3:∀(i:Nat) y ks,ys[i]?=some y->kk[i]?=some ks->GK H (.tup ks) y) (h5:kk.length≤63) (h6:∀q H',H q=none->Same H H'->H' q=some (setO q (ddk kk).length)->Q (.ref q) H'):IrSetD xs H Q
def rSetD:List V->Hp->VK->Prop:=fun xs H Q=>IrSetD xs H Q
section
variable {X:Cx}
theorem xAmk(hc:X.calm=true)(hu:X.A.units+4<cLine):CallR X (.type "set") rSetD:=by
 intro pins s σ H xs us Q I r h;obtain⟨p,ys,kk,h0,hq,hl,hgk,hn,q⟩:=h;subst h0;obtain⟨u,rfl,ru⟩:=vals1 r;cases ru;obtain⟨its,rv,pl,hz⟩:=I.tuple (SqT.of hq);have hil:=rv.length
 have hlS:p<s.heap.objs.size:=by obtain⟨o,e,_⟩:=pl;exact Heap.lt_size e
 have hli:LI X.prog X.w s.heap its.toArray kk:=⟨by rw[zi,←hil,hl],fun i v ks e1 e2=>by
  rw[ya]at e1
  have hi:i<ys.length:=by
   have:=(zf.mp e2).1;omega
  obtain⟨u',hu',ru'⟩:=rv.get (qj hi);rw[e1]at hu';cases hu'
  exact GK.is I (hgk i _ ks (qj hi) e2) ru'⟩
 refine xAjy (I.ok.hd hc) hu pl (n:=(ddk kk).length) (fun s' led R hs' hR=>?_) fun h' tk hS kp=>?_
 ·have hsz:(s.heap.push { cls:=.type "set",dict:=none,data:=.set #[] 0 (.fresh 0 0 led) }).objs.size=s.heap.objs.size+1:=Heap.size_push ..
  have hG:s'.heap.get? s.heap.objs.size=some { cls:=.type "set",dict:=none,data:=.set #[] 0 (.fresh 0 0 led) }:=by rw[hs'];exact Heap.get?_push_of_some _ (Heap.get?_push_size _ rfl)
  have k0:∀b o,s.heap.get? b=some o->s'.heap.get? b=some o:=fun b o e=>by rw[hs'];exact Heap.get?_push_of_some _ (Heap.get?_push_of_some _ e)
  have hI:s'.heap.IsTupleIter (s.heap.objs.size+1) p 0:=⟨_,by rw[hs',←hsz];exact Heap.get?_push_size _ rfl,rfl,rfl⟩;refine xAmj (P:=X.prog) (w:=X.w) (A:=X.A.in1.in1) (I:=s.heap.objs.size+1) (S:=s.heap.objs.size) (l:=p) (items:=its.toArray) (kk:=kk) (by simp[I.ok.hd hc]) (Nat.ne_of_lt (Nat.lt_succ_of_lt hlS)) (Nat.ne_of_gt hlS) (Nat.ne_of_lt (Nat.lt_succ_self _)) (by show X.A.units+3+1<cLine;omega) hn (kk.length - 0) 0 _ rfl (Nat.zero_le _) hI (by obtain⟨o,e,r⟩:=pl;exact⟨o,k0 _ _ e,r⟩) (hli.ext fun b o e _=>k0 b o e) ?_ fun h' tk kp hS=>hR h' tk kp ?_
  ·exact⟨_,#[],0,_,#[],hG,⟨rfl,rfl,rfl⟩,rfl,⟨rfl,fun i e ls g=>by simp at g⟩,.nil,⟨rfl,rfl,.inl ⟨rfl,Nat.zero_le _⟩⟩,fun a b x y g=>by simp[SetTable.fresh]at g,rfl,fun i j e g=>by simp[SetTable.fresh]at g⟩
  ·obtain⟨o,es,ep,t,kl,h1,h2,h3,h4,h5,h6,_⟩:=hS
   have e:es.size=(ddk kk).length:=by rw[←h4.size,←zx,h5.length_eq]
   exact⟨o,es,ep,t,h1,h2,h3,e,h6.fits⟩
 ·obtain⟨o,es,ep,t,h1,h2,h3,h4,h6⟩:=hS
  have hf:=I.hok.fresh (a:=s.heap.objs.size) (qd _);refine⟨.ref s.heap.objs.size,upd H s.heap.objs.size (setO s.heap.objs.size (ddk kk).length),?_,rfl,q _ _ hf (Same.new hf) xAaf⟩;refine I.laid (t':=tk) (h':=h') (o:=setO s.heap.objs.size (ddk kk).length) (fun b u e=>kp b u (Heap.lt_size e) e) (qd _) ⟨⟨o,es,ep,t,h1,h2,h3,h4,h6⟩,⟨o,h1⟩,fun ha hb x k=>?_⟩;obtain⟨o',es',ep',t',g1,g2⟩:=x;exact⟨o',es',ep',t',k _ g1,g2⟩
end
end L2
namespace L2
open PySem PySem.Spec PySem.W PyProof.Rows My
theorem le_a(c:Nat):(!decide ((⟨#[c]⟩:Str).cps.toList<("a":Str).cps.toList))=decide (97≤c):=by
 have e:("a":Str).cps.toList=[97]:=by decide +kernel
 rw[e];show(!decide ([c]<[97]))=decide (97≤c)
 by_cases h:97≤c
 ·rw[decide_eq_true h,decide_eq_false (by simp[List.cons_lt_cons_iff];omega)];rfl
 ·rw[decide_eq_false h,decide_eq_true (by simp[List.cons_lt_cons_iff];omega)];rfl
theorem le_z(c:Nat):(!decide (("z":Str).cps.toList<(⟨#[c]⟩:Str).cps.toList))=decide (c≤122):=by
 have e:("z":Str).cps.toList=[122]:=by decide +kernel
 rw[e];show(!decide ([122]<[c]))=decide (c≤122)
 by_cases h:c≤122
 ·rw[decide_eq_true h,decide_eq_false (by simp[List.cons_lt_cons_iff];omega)];rfl
 ·rw[decide_eq_false h,decide_eq_true (by simp[List.cons_lt_cons_iff];omega)];rfl
theorem in_bpc(c:Nat):(!(Builtin.Str.occurrences (" .,":Str) ⟨#[c]⟩ 0 (" .,":Str).length 1).isEmpty)=decide ((⟨#[c]⟩:Str)∈([" ",".",","]:List Str)):=by
 rw[PySem.StrLaws.found_one]
 have e:(" .,":Str).cps.toList=[32,46,44]:=by decide +kernel
 have e1:(" ":Str)=⟨#[32]⟩:=by decide +kernel
 have e2:(".":Str)=⟨#[46]⟩:=by decide +kernel
 have e3:(",":Str)=⟨#[44]⟩:=by decide +kernel
 rw[e,e1,e2,e3,decide_eq_decide]
 simp[List.mem_cons]
theorem one_z{z:Str}(h:z.length=1):∃c,z=⟨#[c]⟩:=by
 obtain⟨⟨l⟩⟩:=z
 match l,h with
 |[c],_=>exact⟨c,rfl⟩
theorem at_hd{x:V}{xs:List V}:atI (x::xs) 0=some x:=by simp[atI,ixN]
theorem xAml{x:V}{xs:List V}:¬(HT.sIx (x::xs).length 0 (some 1)=0/\HT.sIx (x::xs).length (x::xs).length none=(x::xs).length):=fun e=>by have:=e.1;simp[HT.sIx]at this
theorem cut1{x:V}{xs:List V}:cutV (x::xs) (some 1) none=xs:=by simp[cutV,HT.sIx]
theorem xAka(ws:List Str):∀(fs:List Fm) (ds:List Th),all2 ws fs ds=(List.zipWith (fmM ws) fs ds).all id
 |[],_=>by cases ‹List Th› <;> rfl
 |_::_,[]=>rfl
 |f::fs,d::ds=>by show(fmM ws f d&&all2 ws fs ds)=_;rw[xAka ws fs ds];rfl
theorem xAph{ws:List Str}{fs:List Fm}{ds:List Th}{i:Nat}{f:Fm}{d:Th}(h1:fs[i]?=some f)(h2:ds[i]?=some d):(List.zipWith (fmM ws) fs ds).take (i+1)=(List.zipWith (fmM ws) fs ds).take i++[fmM ws f d]:=by
 rw[vh,List.getElem?_zipWith,h1,h2];rfl
theorem xAsf{z:Str}{fs:List Fm}(h:fmsOf z=some fs):(z,fs)∈fmsL:=by
 unfold fmsOf at h
 cases e:fmsL.find? fun p=>decide (p.1=z) with
 |none=>rw[e]at h;exact nomatch h
 |some p =>
  rw[e]at h;have h1:=yq e;have h2:=jt e;have h2:p.1=z:=of_decide_eq_true h2;have h3:p.2=fs:=Option.some.inj h;rw[←h2,←h3];exact h1
theorem xAsg{z:Str}{fs:List Fm}(h:fmsOf z=some fs):fs.length≤5:=by
 have h0:∀p∈fmsL,p.2.length≤5:=by decide +kernel
 exact h0 _ (xAsf h)
theorem xAsh{z:Str}{fs:List Fm}(h:fmsOf z=some fs)(hz:z∈(["back","again"]:List Str)):fs=[.num]:=by
 have e1:fmsOf "back"=some [.num]:=by rfl
 have e2:fmsOf "again"=some [.num]:=by rfl
 rcases qw.mp hz with rfl|hz
 ·rw[e1]at h;exact(Option.some.inj h).symm
 ·rw[zd.mp hz,e2]at h;exact(Option.some.inj h).symm
theorem xAkb{f:Th->V}{ds:List Th}{i:Nat}{d:Th}(h:ds[i]?=some d):(ds.take (i+1)).map f=(ds.take i).map f++[f d]:=by
 rw[vh,h,zo];rfl
theorem xAkc{z:Str}(h:¬((1:Int)≤(z.length:Int)/\(z.length:Int)≤8)):wordS z=false:=by
 unfold wordS;rw[decide_eq_false (by omega),wf]
theorem xAsi{z:Str}(h1:(1:Int)≤(z.length:Int))(h2:(z.length:Int)≤8):wordS z=z.cps.toList.all lett:=by
 unfold wordS;rw[decide_eq_true (by omega),zt]
theorem xApi{ws:List Str}{d:Th}(h:mSn ws d=true):∃z i j,d=.tup [.str z,.int i,.int j]:=by
 unfold mSn at h
 split at h
 ·rename_i a b c
  have h:((mWord a&&mNum 1 b)&&mIn ws a&&mNum 0 c)=true:=h
  simp only[Bool.and_eq_true]at h
  cases a with
  |str z =>
   cases b with
   |int i =>
    cases c with
    |int j=>exact⟨z,i,j,rfl⟩
    |_=>exact Bool.noConfusion h.2
   |_=>exact Bool.noConfusion h.1.1.2
  |_=>exact Bool.noConfusion h.1.1.1
 ·exact Bool.noConfusion h
theorem sn_gk{ws:List Str}{H:Hp}{y:V}{d:Th}(t:TV H y d)(h:mSn ws d=true):GK H (.tup (snK d)) y:=by
 obtain⟨z,i,j,rfl⟩:=xApi h
 cases t with
 |tup h t =>
  obtain⟨_,_,_,_,_,_,rfl,e,ta,tb,tc⟩:=t.three rfl;cases e;cases ta;cases tb;cases tc;exact⟨_,rfl,h⟩
theorem xApj{z:Str}(h:IsW z):wordS z=true:=by
 unfold wordS;rw[decide_eq_true (show 1≤z.length/\z.length≤8 from⟨h.1,h.2.1⟩),zt,zg];intro c hc;have:=h.2.2 c hc;unfold lett;rw[decide_eq_true this.1,decide_eq_true this.2];rfl
theorem isW_k{z:Str}(h:IsW z):z.length≤1000:=qf (xAao h) (by decide)
theorem Same.nonO{H H':Hp}{q:Addr}(s:Same H H')(h:H' q=none):H q=none:=by
 cases e:H q with
 |none=>rfl
 |some o=>rw[s _ _ e]at h;exact nomatch h
theorem ifT{a b:Str}{A B:Prop}(h:a=b)(x:A):if decide (V.str a=V.str b)=true then A else B:=by
 subst h;rw[decide_eq_true rfl];exact x
theorem ifN{a b:Str}{A B:Prop}(h:decide (a=b)=false)(x:B):if decide (V.str a=V.str b)=true then A else B:=by
 rw[decide_eq_false fun e=>of_decide_eq_false h (V.str.inj e)];exact x
theorem xAhf(x y:Str):(x++y).length=x.length+y.length:=xAfu x y
theorem xAkd{ws:List Str}{n:Int}{z:Str}{fs:List Fm}{ts:List Th}(h:fmsOf z=some fs):mWhat ws n (.tup (.str z::ts))=(decide (ts.length=fs.length)&&(all2 ws fs ts&&(!decide (z∈(["back","again"]:List Str))||lessTh n ts))):=by
 show(match fmsOf z with|some fs=>_|none=>false)=_;rw[h]
inductive MD(w:World)(K:PySem.W.Frag)(a:Addr)(kvs:List (Str×Addr)):Prop
 |mk {es:Array DictEntry} {ep:Nat} (z1:K.lookup a=some ⟨.type "dict",none,.dict es ep,#[]⟩) (z2:es.toList.map (fun e=>(e.hash,absV e.key,absV e.val))=kvs.map fun p=>(keyH w (.inr p.1),some (V.str p.1),some (V.ref p.2))):MD w K a kvs
theorem MD.kdi{P:Program}{w:World}{K:PySem.W.Frag}{a:Addr}{kvs:List (Str×Addr)}(h:MD w K a kvs)(h3:(kvs.map (·.1)).Nodup)(h4:(a==sysModules)=false):KDi P w K a kvs:=by
 obtain⟨z1,z2⟩:=h;exact KDi.of z1 z2 h3 h4 ⟨rfl,rfl,rfl⟩
mutual
def thD:PyData->Th
 |.none=>.non
 |.bool b=>.bl b
 |.int i=>.int i
 |.str z=>.str z
 |.tuple xs=>.tup (thDs xs)
 |_=>.oth
def thDs:List PyData->List Th
 |[]=>[]
 |d::ds=>thD d::thDs ds
end
mutual
def okL:PyData->Bool
 |.str z=>decide (z.length≤1000)
 |.tuple xs=>okLs xs
 |_=>true
def okLs:List PyData->Bool
 |[]=>true
 |d::ds=>okL d&&okLs ds
end
mutual
theorem DT.tv{H:Hp}:∀{v:V} {d:PyData},DT H v d->okL d=true->TV H v (thD d)
 |_,_,.non,_=>.non
 |_,_,.bl b,_=>.bl b
 |_,_,.int i,_=>.int i
 |_,_,.str z,h=>.str (of_decide_eq_true h)
 |_,_,.tup e t,h=>.tup e (DTs.tv t h)
theorem DTs.tv{H:Hp}:∀{xs:List V} {ds:List PyData},DTs H xs ds->okLs ds=true->TVs H xs (thDs ds)
 |_,_,.nil,_=>.nil
 |_,_,.cons h t,o=>by
  have o:=(qr _ _).mp o;exact .cons (DT.tv h o.1) (DTs.tv t o.2)
end
theorem xAke:∀{ds:List PyData},(∀d∈ds,okL d=true)->okLs ds=true
 |[],_=>rfl
 |d::ds,h=>by
  show(okL d&&okLs ds)=true;rw[h d qm,xAke fun x hx=>h x (qk _ hx)];rfl
theorem xAdq:∀ds:List PyData,thDs ds=ds.map thD
 |[]=>rfl
 |d::ds=>congrArg (thD d::·) (xAdq ds)
end L2
namespace L2
open PySem PySem.Spec PySem.W PyProof.Rows PySem.Builtin PySem.Builtin.Str
inductive IrSplit(x:V)(xs:List V)(H:Hp)(Q:VK):Prop
 |mk (z:Str) (c:Nat) (h0:x=.str z) (h1:xs=[.str ⟨#[c]⟩]) (h2:z.length≤10000) (h3:∀p H',H p=none->Same H H'->H' p=some (.lst ((Txt.split z ⟨#[c]⟩).map V.str))->Q (.ref p) H'):IrSplit x xs H Q
def rSplit:V->List V->Hp->VK->Prop:=fun x xs H Q=>IrSplit x xs H Q
theorem xAhg:∀(tk:Nat) (xs:List Str),Vals (xs.map V.str) (strsFrom tk xs)
 |_,[]=>.nil
 |tk,x::r=>.cons ⟨_,rfl⟩ (xAhg (tk+1) r)
theorem xAcz{X:Cx}:MtR X "str.split" rSplit:=by
 intro pins s σ H x xs v us Q I rx rv h;obtain⟨z,c,rfl,rfl,hz,q⟩:=h;obtain⟨t,rfl⟩:=rx;obtain⟨u,rfl,ru⟩:=vals1 rv;obtain⟨t2,rfl⟩:=ru;have hf:H s.heap.objs.size=none:=I.hok.fresh (qd _)
 have big:(10001:Nat)≤sizeLine:=by rw[sizeLine_eq];decide
 have fin:∀(ys:List Str) (us:List Value) (tk:Nat),Txt.split z ⟨#[c]⟩=ys->Vals (ys.map V.str) us->ys.length≤sizeLine->EP X pins σ Q (.ref s.heap.objs.size) { s with heap:=s.heap.push { cls:=.type "list",data:=.seq us.toArray },toks:=tk }:=fun ys us tk e r hl=>by
  refine⟨.ref s.heap.objs.size,upd H s.heap.objs.size (.lst (ys.map V.str)),I.laid (t':=tk) (fun b u e=>Heap.get?_push_of_some _ e) (qd _) ⟨by rw[qc];exact hl,us,0,r,Heap.get?_push_size _ rfl⟩,rfl,q _ _ hf (Same.new hf) ?_⟩;rw[xAaf,e]
 cases h1:(decide (z.length<(⟨#[c]⟩:Str).length)||decide (strKind z<strKind ⟨#[c]⟩))
 ·cases hf':(occurrences z ⟨#[c]⟩ 0 z.length (z.length+1)).isEmpty
  ·have es:Txt.split z ⟨#[c]⟩=partsBetween z (occurrences z ⟨#[c]⟩ 0 z.length (z.length+1)) (⟨#[c]⟩:Str).length:=(if_neg (ne_true_of_eq_false h1)).trans (if_neg (ne_true_of_eq_false hf'))
   have hcut:(partsBetween z (occurrences z ⟨#[c]⟩ 0 z.length (z.length+1)) (⟨#[c]⟩:Str).length).length≤sizeLine:=by
    have:=split_weight z ⟨#[c]⟩ (qd 1);rw[es]at this;omega
   refine call_meets F.slot_str_split (typeIs_str _ _ _) F.entry_str_split (F.args_str_split_2 _ _) (meets_str_split_sep z ⟨#[c]⟩ t t2 h1 rfl hf' (by omega) hcut) ?_;exact fin _ _ _ es (xAhg _ _) hcut
  ·refine call_meets F.slot_str_split (typeIs_str _ _ _) F.entry_str_split (F.args_str_split_2 _ _) (meets_str_split_not_found z ⟨#[c]⟩ t t2 h1 rfl hf') ?_
   exact fin [z] _ _ ((if_neg (ne_true_of_eq_false h1)).trans (if_pos hf')) (.cons ⟨_,rfl⟩ .nil) (qf (show 1≤10001 by decide) big)
 ·refine call_meets F.slot_str_split (typeIs_str _ _ _) F.entry_str_split (F.args_str_split_2 _ _) (meets_str_split_cannot_occur z ⟨#[c]⟩ t t2 h1) ?_
  exact fin [z] _ _ (if_pos h1) (.cons ⟨_,rfl⟩ .nil) (qf (show 1≤10001 by decide) big)
inductive IrAffix(f:Str->Str->Bool)(x:V)(xs:List V)(H:Hp)(Q:VK):Prop
 |mk (z y:Str) (h0:x=.str z) (h1:xs=[.str y]) (h2:Q (.bl (f z y)) H):IrAffix f x xs H Q
def rAffix(f:Str->Str->Bool):V->List V->Hp->VK->Prop:=fun x xs H Q=>IrAffix f x xs H Q
theorem xAhh{X:Cx}:MtR X "str.startswith" (rAffix Txt.startswith):=by
 intro pins s σ H x xs v us Q I rx rv h;obtain⟨z,y,rfl,rfl,q⟩:=h;obtain⟨t,rfl⟩:=rx;obtain⟨u,rfl,t2,rfl⟩:=vals1 rv;exact SC.startswith ⟨.bl _,H,I,rfl,q⟩
theorem xAkf{X:Cx}:MtR X "str.endswith" (rAffix Txt.endswith):=by
 intro pins s σ H x xs v us Q I rx rv h;obtain⟨z,y,rfl,rfl,q⟩:=h;obtain⟨t,rfl⟩:=rx;obtain⟨u,rfl,t2,rfl⟩:=vals1 rv;exact SC.endswith ⟨.bl _,H,I,rfl,q⟩
inductive IrIntS(xs:List V)(H:Hp)(Q:VK):Prop
 |mk (n:Int) (h0:xs=[.str (toString n)]) (h1:0≤n) (h2:n<10 ^ 10) (h3:Q (.int n) H):IrIntS xs H Q
def rIntS:List V->Hp->VK->Prop:=fun xs H Q=>IrIntS xs H Q
theorem xAmm{X:Cx}:CallR X (.type "int") rIntS:=by
 intro pins s σ H xs us Q I rv h;obtain⟨n,rfl,h1,h2,q⟩:=h;obtain⟨u,rfl,t2,rfl⟩:=vals1 rv;exact KIN.call_num h1 h2 ⟨.int n,H,I.tok _,⟨_,rfl⟩,q⟩
def jl(c:Nat):List (List Nat)->List Nat
 |[]=>[]
 |[a]=>a
 |a::b::r=>a++c::jl c (b::r)
theorem xAsj{c:Nat}:∀{xs ys:List (List Nat)},xs≠[]->ys≠[]->(∀x∈xs,c∉x)->(∀y∈ys,c∉y)->jl c xs=jl c ys->xs=ys
 |[],_,h,_,_,_,_=>absurd rfl h
 |_,[],_,h,_,_,_=>absurd rfl h
 |[a],[b],_,_,_,_,e=>by rw[show a=b from e]
 |[a],b::d::r,_,_,ha,_,e=>by
  have e:a=b++c::jl c (d::r):=e;exact absurd (by rw[e];simp) (ha a List.mem_cons_self)
 |a::b::r,[d],_,_,_,hd,e=>by
  have e:a++c::jl c (b::r)=d:=e;exact absurd (by rw[←e];simp) (hd d List.mem_cons_self)
 |a::b::r,d::f::t,_,_,ha,hd,e=>by
  have e:a++c::jl c (b::r)=d++c::jl c (f::t):=e;have h1:=ha a qm;have h2:=hd d qm
  have key:∀{p q:List Nat} {u v:List Nat},c∉p->c∉q->p++c::u=q++c::v->p=q/\u=v:=by
   intro p
   induction p with
   |nil =>
    intro q u v _ hq e
    cases q with
    |nil=>exact⟨rfl,(List.cons.inj e).2⟩
    |cons x q=>exact absurd (qw.mpr (.inl (List.cons.inj e).1)) hq
   |cons x p ih =>
    intro q u v hp hq e
    cases q with
    |nil=>exact absurd (qw.mpr (.inl (List.cons.inj e).1.symm)) hp
    |cons y q =>
     have e:=List.cons.inj e;obtain⟨r1,r2⟩:=ih (fun h=>hp (qk _ h)) (fun h=>hq (qk _ h)) e.2;exact⟨by rw[e.1,r1],r2⟩
  obtain⟨r1,r2⟩:=key h1 h2 e;rw[r1,xAsj (va _ _) (va _ _) (fun x hx=>ha x (qk _ hx)) (fun x hx=>hd x (qk _ hx)) r2]
theorem xAee{c:Nat}:∀ws:List Str,(Str.join ⟨#[c]⟩ ws).cps.toList=jl c (ws.map fun w=>w.cps.toList)
 |[]=>rfl
 |[a]=>rfl
 |a::b::r=>by
  show(a++⟨#[c]⟩++Str.join ⟨#[c]⟩ (b::r):Str).cps.toList=a.cps.toList++c::jl c ((b::r).map fun w=>w.cps.toList);rw[←xAee (b::r)];show(a.cps++#[c]++(Str.join ⟨#[c]⟩ (b::r)).cps).toList=_
  simp
theorem xAdr{c:Nat}{ws:List Str}(h0:ws≠[])(h:∀w∈ws,c∉w.cps.toList):Txt.split (Txt.join ⟨#[c]⟩ ws) ⟨#[c]⟩=ws:=by
 have e0:Txt.join ⟨#[c]⟩ ws=Str.join ⟨#[c]⟩ ws:=StrLaws.glued_eq_join _ _;rw[e0];have e:=StrLaws.join_split (Str.join ⟨#[c]⟩ ws) ⟨#[c]⟩;have hf:=StrLaws.split_free (Str.join ⟨#[c]⟩ ws) c
 have hv:Txt.split (Str.join ⟨#[c]⟩ ws) ⟨#[c]⟩≠[]:=by
  unfold Txt.split
  split
  ·exact va _ _
  ·split
   ·exact va _ _
   ·intro h
    have:=congrArg List.length h;rw[length_partsBetween]at this;exact nomatch this
 generalize Txt.split (Str.join ⟨#[c]⟩ ws) ⟨#[c]⟩=vs at e hf hv;have ee:=congrArg (fun z:Str=>z.cps.toList) e
 have ee:jl c (vs.map fun w=>w.cps.toList)=jl c (ws.map fun w=>w.cps.toList):=by rw[←xAee,←xAee];exact ee
 have inj:∀{us ts:List Str},(us.map fun w=>w.cps.toList)=(ts.map fun w=>w.cps.toList)->us=ts:=by
  intro us
  induction us with
  |nil=>intro ts h;cases ts with
   |nil=>rfl
   |cons _ _=>cases h
  |cons u us ih=>intro ts h;cases ts with
   |nil=>cases h
   |cons t ts =>
    have h:=List.cons.inj h
    have hu:u=t:=by
     obtain⟨⟨u⟩⟩:=u;obtain⟨⟨t⟩⟩:=t;have:u=t:=h.1;rw[this]
    rw[hu,ih h.2]
 have key:=fun hv'=>inj (xAsj (xs:=vs.map fun w=>w.cps.toList) (ys:=ws.map fun w=>w.cps.toList) hv' (by simpa using h0) (fun x hx=>by
  obtain⟨w,hw,rfl⟩:=qu.mp hx
  exact hf w hw) (fun x hx=>by
  obtain⟨w,hw,rfl⟩:=qu.mp hx
  exact h w hw) ee)
 exact key (by simpa using hv)
theorem xAmn(l1 l2:Addr)(xs ys:Array Value):Meets (Builtin.«zip.__new__» ⟨[.type "zip",.ref l1,.ref l2],[]⟩) (fun _ R s=>s.heap.IsTuple l1 xs/\s.heap.IsList l2 ys ∧
      R (.ok (.ret (.ref (zS4 "tuple_iterator" "list_iterator" s.heap l1 l2).objs.size))) { s with heap:=zS5 "tuple_iterator" "list_iterator" s.heap l1 l2 }) :=
 .of_wp fun prog w A R s h=>by
  obtain⟨hp,g,d,tk,os⟩:=s;obtain⟨a1,a2,h⟩:=h;have hsub:=sub_zip;have b1:Heap.IsTuple (Shared.heap ⟨hp,g,d,tk,os⟩) l1 xs:=a1;have b2:Heap.IsList (Shared.heap ⟨hp.push (itO "tuple_iterator" l1),g,d,tk,os⟩) l2 ys:=Heap.IsList.push a2 _
  wp_walk using wpAny_pyIter_tuple b1,wpAny_pyIter_list b2
  exact⟨_,rfl,h⟩
theorem xApk{X:Cx}{es:List Expr}{k:Nat}{tp:Pos}{a b:Expr}{ta:TA}{p pos:Pos}(hg:Gl X "zip")(hm:X.mg "zip"=none)(ha:PA X [a,b] ta)(hs:starEach [a,b] X.env=(false,eval a X.env)::starEach [b] X.env:=by rfl)(hpl:(backTo pos (starEach [b] X.env)).any (·.1)=false:=by rfl):PI X (.Tuple es k tp) (.Call (.Name "zip" p) [a,b] [] pos) (iZipS true false ta):=xAnu (t1:=true) (t2:=false) xAmn hg hm ha hs hpl
end L2
namespace L2
open PySem PySem.Spec PySem.W PyProof.Rows My
inductive Rm where
 |number|plain|name|part|nameN|snN|side|plainN|plainE|truth|counts
 deriving DecidableEq
def rdsL:List (Str×List Rm):=[("nothing",[]),("part",[.part]),("move",[.name,.part]),("cut",[.name]),("put",[.part,.snN]),("out",[.part]),("mark",[.part,.side,.side,.plain,.plainN]),("note",[.part,.side,.side,.plain]),("line",[.part,.plain,.nameN]),("strike",[.part,.name]),("cell",[.part,.name,.name,.plainE]),("leave",[.part,.plain,.plain,.truth]),("back",[.number]),("again",[.number]),("bring",[.plain]),("drop",[.plain]),("pour",[.counts])]
def rdsOf(z:Str):Option (List Rm):=(rdsL.find? fun p=>decide (p.1=z)).map (·.2)
def RNum(d:PyData)(z:Str):Prop:=∃n,d=.int n/\Nb n/\z=toString n
def RPlain(d:PyData)(z:Str):Prop:=d=.str z/\IsW z
def RName(d:PyData)(z:Str):Prop:=∃w n,d=.tuple [.str w,.int n]/\IsW w/\Nb n/\z=Txt.join "." [w,toString n]
def RSn(d:PyData)(z:Str):Prop:=∃w n i,d=.tuple [.str w,.int n,.int i]/\IsW w/\Nb n/\Nb i/\z=Txt.join "." [w,toString n,toString i]
def RPart(d:PyData)(z:Str):Prop:=(d=.tuple [.str "",.int 0]/\z = ".")\/RName d z
def RSide(d:PyData)(z:Str):Prop:=∃ds y s,d=.tuple [ds,.str s]/\RSn ds y/\((s = "ahead" /\ z=y++"<")\/(s = "behind" /\ z=y++">"))
def RCounts(d:PyData)(z:Str):Prop:=∃cs:List Int,cs≠[]/\cs.length≤10/\d=.tuple (cs.map PyData.int)/\(∀c∈cs,Nb c)/\z=Txt.join "," (cs.map fun c=>(toString c:Str))
def ROr(P:PyData->Str->Prop)(d:PyData)(z:Str):Prop:=(d=.none/\z = "-")\/P d z
def rdOk:Rm->PyData->Str->Prop
 |.number=>RNum|.plain=>RPlain|.name=>RName|.part=>RPart|.nameN=>ROr RName|.snN=>ROr RSn|.side=>RSide|.plainN=>ROr RPlain
 |.plainE=>fun d z=>(d=.str "" /\ z = "!")\/RPlain d z
 |.truth=>fun d z=>∃b,d=.bool b/\z=if b=true then("yes":Str) else "no"
 |.counts=>RCounts
def RSign(d:PyData)(z:Str):Prop:=(∃c,d=.str ⟨#[c]⟩/\c∈("abcdefghijklmnopqrstuvwxyz .,":Str).cps.toList/\z=if(⟨#[c]⟩:Str) = " " then("_":Str) else⟨#[c]⟩)\/(∃w,d=.tuple [.str "picture",.str w]/\IsW w/\z = "*"++w)\/∃p y,d=.tuple [.str "refer",p]/\RPart p y/\z = "#"++y
def RBr(d:PyData)(z:Str):Prop:=(d=.none/\z = "-")\/∃a b,d=.tuple [.str a,.str b]/\IsW a/\IsW b/\z=Txt.join "." [a,b]
inductive F2(P:PyData->Str->Prop):List PyData->List Str->Prop
 |nil:F2 P [] []
 |cons {d:PyData} {z:Str} {ds:List PyData} {zs:List Str}:P d z->F2 P ds zs->F2 P (d::ds) (z::zs)
inductive F3:List Rm->List PyData->List Str->Prop
 |nil:F3 [] [] []
 |cons {r:Rm} {d:PyData} {z:Str} {rs:List Rm} {ds:List PyData} {zs:List Str}:rdOk r d z->F3 rs ds zs->F3 (r::rs) (d::ds) (z::zs)
theorem F2.at{P:PyData->Str->Prop}:∀{ds:List PyData} {zs:List Str} {i:Nat} {z:Str},F2 P ds zs->zs[i]?=some z->∃d,ds[i]?=some d/\P d z
 |_,_,0,_,.cons h _,e=>by cases e;exact⟨_,rfl,h⟩
 |_,_,i+1,_,.cons _ t,e=>t.at (i:=i) e
theorem F2.mem{P:PyData->Str->Prop}{z:Str}:∀{ds:List PyData} {zs:List Str},F2 P ds zs->z∈zs->∃d,P d z
 |_,_,.cons h t,e=>by
  rcases qw.mp e with rfl|e
  ·exact⟨_,h⟩
  ·exact t.mem e
theorem F2.map{P:PyData->Str->Prop}{f:PyData->Str}:∀{ds:List PyData},(∀d∈ds,P d (f d))->F2 P ds (ds.map f)
 |[],_=>.nil
 |d::ds,h=>.cons (h d qm) (F2.map fun x hx=>h x (qk _ hx))
theorem F3.mem{z:Str}:∀{rs:List Rm} {ds:List PyData} {zs:List Str},F3 rs ds zs->z∈zs->∃r d,rdOk r d z
 |_,_,_,.cons h t,e=>by
  rcases qw.mp e with rfl|e
  ·exact⟨_,_,h⟩
  ·exact t.mem e
inductive RList(k:Str):List PyData->List Str->Prop
 |put (sg:List PyData) (zs:List Str) (hk:k = "put") (h:F2 RSign sg zs) (h3:zs.length≤12):RList k [.tuple sg] zs
 |out (sg:List PyData) (zs:List Str) (hk:k = "out") (h:F2 RSn sg zs) (h3:zs.length≤12):RList k [.tuple sg] zs
 |no (h1:k≠"put") (h2:k≠"out"):RList k [] []
inductive RWhat:List PyData->List Str->Prop
 |mk (k:Str) (rs:List Rm) (ds:List PyData) (zs:List Str) (es:List PyData) (ys:List Str) (h1:rdsOf k=some rs) (h4:F3 rs ds zs) (h5:RList k es ys):RWhat (.str k::(ds++es)) (k::(zs++ys))
def Fr32(z:Str):Prop:=∀c∈z.cps.toList,c≠32/\c<16 ^ 8
theorem xAeq{n:Int}(h:0≤n):∀c∈(toString n:Str).cps.toList,48≤c/\c≤57:=by
 obtain⟨m,rfl⟩:=Int.eq_ofNat_of_zero_le h;intro c hc;have e:(toString ((m:Nat):Int):Str).cps.toList=(Nat.toDigits 10 m).map Char.toNat:=KIN.signs_num m;rw[e]at hc;obtain⟨ch,hch,e⟩:=qu.mp hc;have r:=digit_range (Nat.isDigit_of_mem_toDigits (by decide) (by decide) hch);rw[←e];exact r
theorem xAsk{s c:Nat}:∀{xs:List (List Nat)},c∈jl s xs->c=s\/∃x∈xs,c∈x
 |[],h=>nomatch h
 |[a],h=>.inr ⟨a,qm,h⟩
 |a::b::r,h=>by
  rcases q0.mp (show c∈a++s::jl s (b::r) from h) with h|h
  ·exact .inr ⟨a,qm,h⟩
  ·rcases qw.mp h with h|h
   ·exact .inl h
   ·rcases xAsk h with h|⟨x,hx,h⟩
    ·exact .inl h
    ·exact .inr ⟨x,qk _ hx,h⟩
theorem xAkg{s c:Nat}{ws:List Str}(h:c∈(Txt.join ⟨#[s]⟩ ws).cps.toList):c=s\/∃w∈ws,c∈w.cps.toList:=by
 rw[show Txt.join ⟨#[s]⟩ ws=Str.join ⟨#[s]⟩ ws from StrLaws.glued_eq_join _ _,xAee]at h;rcases xAsk h with h|⟨x,hx,h⟩
 ·exact .inl h
 ·obtain⟨w,hw,rfl⟩:=qu.mp hx
  exact .inr ⟨w,hw,h⟩
theorem xAfj{s:Nat}{ws:List Str}(hs:s≠32/\s<16 ^ 8)(h:∀w∈ws,Fr32 w):Fr32 (Txt.join ⟨#[s]⟩ ws):=fun c hc=>by
 rcases xAkg hc with rfl|⟨w,hw,hc⟩
 ·exact hs
 ·exact h w hw c hc
theorem fr_w{z:Str}(h:IsW z):Fr32 z:=fun c hc=>by have:=h.2.2 c hc;exact⟨by omega,by omega⟩
theorem fr_n{n:Int}(h:Nb n):Fr32 (toString n):=fun c hc=>by have:=xAeq h.1 c hc;exact⟨by omega,by omega⟩
theorem xAkh{x y:Str}(h1:Fr32 x)(h2:Fr32 y):Fr32 (x++y):=fun c hc=>by
 have hc:c∈(x.cps++y.cps).toList:=hc;rw[vd]at hc;rcases q0.mp hc with h|h
 ·exact h1 c h
 ·exact h2 c h
theorem fr_c{z:Str}(h:(z.cps.toList.all fun c=>decide (c≠32/\c<16 ^ 8))=true):Fr32 z:=fun c hc=>of_decide_eq_true (zg.mp h c hc)
theorem RSn.fr{d:PyData}{z:Str}(h:RSn d z):Fr32 z:=by
 obtain⟨w,n,i,_,h1,h2,h3,rfl⟩:=h;refine xAfj (by decide) fun x hx=>?_
 simp only[List.mem_cons,List.not_mem_nil,or_false]at hx
 rcases hx with rfl|rfl|rfl
 ·exact fr_w h1
 ·exact fr_n h2
 ·exact fr_n h3
theorem RName.fr{d:PyData}{z:Str}(h:RName d z):Fr32 z:=by
 obtain⟨w,n,_,h1,h2,rfl⟩:=h;refine xAfj (by decide) fun x hx=>?_
 simp only[List.mem_cons,List.not_mem_nil,or_false]at hx
 rcases hx with rfl|rfl
 ·exact fr_w h1
 ·exact fr_n h2
theorem RPart.fr{d:PyData}{z:Str}(h:RPart d z):Fr32 z:=by
 rcases h with⟨_,rfl⟩|h
 ·exact fr_c (by decide +kernel)
 ·exact h.fr
theorem RCounts.fr{d:PyData}{z:Str}(h:RCounts d z):Fr32 z:=by
 obtain⟨cs,_,_,_,h1,rfl⟩:=h;refine xAfj (by decide) fun x hx=>?_;obtain⟨c,hc,rfl⟩:=qu.mp hx;exact fr_n (h1 c hc)
theorem rd_fr{r:Rm}{d:PyData}{z:Str}(h:rdOk r d z):Fr32 z:=by
 have dash:Fr32 "-":=fr_c (by decide +kernel)
 cases r with
 |number=>obtain⟨n,_,h,rfl⟩:=h;exact fr_n h
 |plain=>exact fr_w h.2
 |name=>exact RName.fr h
 |part=>exact RPart.fr h
 |nameN=>rcases h with⟨_,rfl⟩|h;exact dash;exact RName.fr h
 |snN=>rcases h with⟨_,rfl⟩|h;exact dash;exact RSn.fr h
 |side =>
  obtain⟨ds,y,s,_,h1,h2⟩:=h;rcases h2 with⟨_,rfl⟩|⟨_,rfl⟩
  ·exact xAkh h1.fr (fr_c (by decide +kernel))
  ·exact xAkh h1.fr (fr_c (by decide +kernel))
 |plainN=>rcases h with⟨_,rfl⟩|h;exact dash;exact fr_w h.2
 |plainE=>rcases h with⟨_,rfl⟩|h;exact fr_c (by decide +kernel);exact fr_w h.2
 |truth=>obtain⟨b,_,rfl⟩:=h;cases b <;> exact fr_c (by decide +kernel)
 |counts=>exact RCounts.fr h
theorem RSign.fr{d:PyData}{z:Str}(h:RSign d z):Fr32 z:=by
 rcases h with⟨c,_,hc,rfl⟩|⟨w,_,h,rfl⟩|⟨p,y,_,h,rfl⟩
 ·have h0:∀c∈("abcdefghijklmnopqrstuvwxyz .,":Str).cps.toList,((if(⟨#[c]⟩:Str) = " " then("_":Str) else⟨#[c]⟩).cps.toList.all fun c=>decide (c≠32/\c<16 ^ 8))=true:=by decide +kernel
  exact fr_c (h0 c hc)
 ·exact xAkh (fr_c (by decide +kernel)) (fr_w h)
 ·exact xAkh (fr_c (by decide +kernel)) h.fr
theorem RBr.fr{d:PyData}{z:Str}(h:RBr d z):Fr32 z:=by
 rcases h with⟨_,rfl⟩|⟨a,b,_,h1,h2,rfl⟩
 ·exact fr_c (by decide +kernel)
 ·refine xAfj (by decide) fun x hx=>?_
  simp only[List.mem_cons,List.not_mem_nil,or_false]at hx
  rcases hx with rfl|rfl
  ·exact fr_w h1
  ·exact fr_w h2
theorem xAki{z:Str}{rs:List Rm}(h:rdsOf z=some rs):(z,rs)∈rdsL:=by
 unfold rdsOf at h
 cases e:rdsL.find? fun p=>decide (p.1=z) with
 |none=>rw[e]at h;exact nomatch h
 |some p =>
  rw[e]at h;have h1:=yq e;have h2:=jt e;have h2:p.1=z:=of_decide_eq_true h2;have h3:p.2=rs:=Option.some.inj h;rw[←h2,←h3];exact h1
theorem RWhat.fr{ds:List PyData}{zs:List Str}(h:RWhat ds zs):∀z∈zs,Fr32 z:=by
 cases h with
 |mk k rs ds zs es ys h1 h4 h5 =>
  intro z hz;rcases qw.mp hz with rfl|hz
  ·have h0:∀p∈rdsL,(p.1.cps.toList.all fun c=>decide (c≠32/\c<16 ^ 8))=true:=by decide +kernel
   exact fr_c (h0 _ (xAki h1))
  ·rcases q0.mp hz with hz|hz
   ·obtain⟨r,d,h⟩:=h4.mem hz
    exact rd_fr h
   ·cases h5 with
    |put sg _ _ h2 =>
     obtain⟨d,h⟩:=h2.mem hz;exact RSign.fr h
    |out sg _ _ h2 =>
     obtain⟨d,h⟩:=h2.mem hz;exact RSn.fr h
    |no=>exact nomatch hz
theorem sp46{ws:List Str}(h0:ws≠[])(h:∀w∈ws,46∉w.cps.toList):Txt.split (Txt.join "." ws) "."=ws:=xAdr (c:=46) h0 h
theorem w46{z:Str}(h:IsW z):46∉z.cps.toList:=fun hc=>by have:=h.2.2 _ hc;omega
theorem nlen{n:Int}(h:Nb n):(toString n:Str).length≤7:=by
 obtain⟨m,rfl⟩:=Int.eq_ofNat_of_zero_le h.1;have h2:=h.2;show(Str.ofString (toString ((m:Nat):Int))).length≤_;rw[PySem.ofString_length];show m.repr.length≤7;exact(j4 (by decide)).mpr (by omega)
theorem dig0:∀d:Nat,d<10->(Nat.digitChar d).toNat=48->d=0:=by decide
theorem xApl(m:Nat):((Nat.toDigits 10 m).map Char.toNat)[0]?=some 48->m=0:=by
 induction m using Nat.strongRecOn with
 |_ m ih =>
  by_cases h:m<10
  ·rw[Nat.toDigits_of_lt_base h]
   exact fun e=>dig0 m h (Option.some.inj e)
  ·have hm:m % 10<10:=yb m (by decide)
   have t:Nat.toDigits 10 (m / 10)++Nat.toDigits 10 (m % 10)=Nat.toDigits 10 (10 * (m / 10)+m % 10):=Nat.toDigits_append_toDigits (by decide) (by omega) hm;rw[Nat.div_add_mod]at t;intro e;rw[←t,zo]at e
   have hl:0<((Nat.toDigits 10 (m / 10)).map Char.toNat).length:=by rw[qc];exact toDigits_len_ge 10 _
   rw[yh hl]at e;have:=ih (m / 10) (by omega) e;omega
theorem le_0(c:Nat):(!decide ((⟨#[c]⟩:Str).cps.toList<("0":Str).cps.toList))=decide (48≤c):=by
 have e:("0":Str).cps.toList=[48]:=by decide +kernel
 rw[e];show(!decide ([c]<[48]))=decide (48≤c)
 by_cases h:48≤c
 ·rw[decide_eq_true h,decide_eq_false (by simp[List.cons_lt_cons_iff];omega)];rfl
 ·rw[decide_eq_false h,decide_eq_true (by simp[List.cons_lt_cons_iff];omega)];rfl
theorem le_9(c:Nat):(!decide (("9":Str).cps.toList<(⟨#[c]⟩:Str).cps.toList))=decide (c≤57):=by
 have e:("9":Str).cps.toList=[57]:=by decide +kernel
 rw[e];show(!decide ([57]<[c]))=decide (c≤57)
 by_cases h:c≤57
 ·rw[decide_eq_true h,decide_eq_false (by simp[List.cons_lt_cons_iff];omega)];rfl
 ·rw[decide_eq_false h,decide_eq_true (by simp[List.cons_lt_cons_iff];omega)];rfl
theorem ends1(y:Str)(a c:Nat):Txt.endswith (y++⟨#[a]⟩) ⟨#[c]⟩=decide (a=c):=by
 show(decide (0+1≤(y++⟨#[a]⟩:Str).length)&&Builtin.Str.subAt (y++⟨#[a]⟩) ⟨#[c]⟩ ((y++⟨#[a]⟩:Str).length - 1))=_;have hl:(y++⟨#[a]⟩:Str).length=y.length+1:=xAhf y ⟨#[a]⟩;have ht:(y++⟨#[a]⟩:Str).cps.toList=y.cps.toList++[a]:=xAcq y a;rw[hl,decide_eq_true (by omega),zt,StrLaws.subAt_eq,ht,gg]
 have hy:y.length=y.cps.toList.length:=by simp;rfl
 rw[hy,List.drop_left]
 by_cases h:a=c
 ·subst h;rw[decide_eq_true rfl];simp;rfl
 ·rw[decide_eq_false h]
  show(([a].take 1)==[c])=false
  simp[h]
theorem xAfk(a:Nat)(y:Str)(c:Nat):Txt.startswith (⟨#[a]⟩++y) ⟨#[c]⟩=decide (a=c):=by
 show(decide (0+1≤(⟨#[a]⟩++y:Str).length)&&Builtin.Str.subAt (⟨#[a]⟩++y) ⟨#[c]⟩ 0)=_;have hl:(⟨#[a]⟩++y:Str).length=1+y.length:=xAhf ⟨#[a]⟩ y
 have ht:(⟨#[a]⟩++y:Str).cps.toList=a::y.cps.toList:=by
  show(#[a]++y.cps).toList=_
  simp
 rw[hl,decide_eq_true (by omega),zt,StrLaws.subAt_eq,ht];show((a::y.cps.toList).take 1==[c])=_
 by_cases h:a=c
 ·subst h;simp
 ·simp[h]
theorem xAoa(y:Str)(a:Nat):cutS (y++⟨#[a]⟩) none (some (-1))=y:=by
 have hl:(y++⟨#[a]⟩:Str).length=y.length+1:=xAhf y ⟨#[a]⟩;have ht:(y++⟨#[a]⟩:Str).cps.toList=y.cps.toList++[a]:=xAcq y a
 have hy:y.length=y.cps.toList.length:=by simp;rfl
 have e1:HT.sIx (y.length+1) (y.length+1) (some (-1))=y.length:=by
  show(if(-1:Int)<0 then((-1:Int)+((y.length+1:Nat):Int)).toNat else min (-1:Int).toNat (y.length+1))=_;rw[if_pos (by decide)];omega
 unfold cutS;rw[hl,e1,ht,HT.sIx_none,vz,Nat.sub_zero,hy,List.take_left]
theorem xAob(a:Nat)(y:Str):cutS (⟨#[a]⟩++y) (some 1) none=y:=by
 have hl:(⟨#[a]⟩++y:Str).length=y.length+1:=by rw[xAhf ⟨#[a]⟩ y];exact yv 1 _
 have ht:(⟨#[a]⟩++y:Str).cps.toList=a::y.cps.toList:=by
  show(#[a]++y.cps).toList=_
  simp
 have hy:y.length=y.cps.toList.length:=by simp;rfl
 have e1:HT.sIx (y.length+1) 0 (some 1)=1:=by
  rw[show(1:Int)=((1:Nat):Int) from rfl,HT.sIx_nat];omega
 unfold cutS;rw[hl,e1,ht,HT.sIx_none,gh,vz,gg,hy,ww]
theorem xApm{xs:List V}{n:Nat}(h:n≤xs.length):cutV xs (some (n:Int)) none=xs.drop n:=by
 have e:HT.sIx xs.length 0 (some (n:Int))=n:=by rw[HT.sIx_nat];omega
 unfold cutV;rw[e,HT.sIx_none,wu];rw[wb];omega
theorem DTs.app{H:Hp}:∀{xs ys:List V} {ds es:List PyData},DTs H xs ds->DTs H ys es->DTs H (xs++ys) (ds++es)
 |_,_,_,_,.nil,h=>h
 |_,_,_,_,.cons a t,h=>.cons a (DTs.app t h)
theorem xAsl{z:Str}{rs:List Rm}(h:rdsOf z=some rs):rs.length≤5:=by
 have h0:∀p∈rdsL,p.2.length≤5:=by decide +kernel
 exact h0 _ (xAki h)
end L2
namespace L2
open PySem PySem.Spec PyProof.Rows
theorem ObjOk.there{P:Program}{w:World}{H:Hp}{h:Heap}{a:Addr}{o:HO}(x:ObjOk P w H h a o):∃u,h.get? a=some u:=by
 cases o with
 |lst xs=>obtain⟨_,_,_,_,e⟩:=x;exact⟨_,e⟩
 |tup xs=>obtain⟨_,_,_,ob,e,_⟩:=x;exact⟨_,e⟩
 |dK kvs=>obtain⟨_,_,_,_,o,_,_,e,_⟩:=x;exact⟨_,e⟩
 |dT kvs=>obtain⟨_,_,_,_,o,_,_,e,_⟩:=x;exact⟨_,e⟩
 |dG kvs=>obtain⟨_,_,_,_,o,_,_,e,_⟩:=x;exact⟨_,e⟩
 |set S n=>obtain⟨o,_,_,_,e,_⟩:=x;exact⟨_,e⟩
 |ins C dx fs=>obtain⟨_,_,_,e,_⟩:=x;exact⟨_,e⟩
 |own y=>exact x
 |xd fs=>obtain⟨mA,⟨od,es,ep,e,c⟩,r⟩:=x;exact⟨_,e⟩
 |rng lo hi=>obtain⟨_,_,_,e⟩:=x;exact⟨_,e⟩
 |frz ob u=>exact⟨_,x.1⟩
 |tbl ps=>exact⟨_,x⟩
 |met f y=>exact⟨_,x⟩
 |ext φ=>exact x.2.1
def Safe(fs:List Addr)(H:Hp)(D:Addr->Prop)(h1 h2:Heap):Prop:=∀b o,h1.get? b=some o->b∉fs->((∃x,H b=some x)\/D b)->h2.get? b=some o
def Up(fs:List Addr)(h h':Heap):Prop:=∀b∈fs,∀o,h.get? b=some o->(∀vs,o.data≠.fields vs)->∃sl,h'.get? b=some { o with slots:=sl }
theorem Up.of{fs:List Addr}{h h':Heap}(u:h.UpToSlots h'):Up fs h h':=fun b _ o e n=>u b o e n
theorem Up.trans{fs:List Addr}{h h1 h2:Heap}(u:Up fs h h1)(v:Up fs h1 h2):Up fs h h2:=fun b hb o e n=>by
 obtain⟨sl,q⟩:=u b hb o e n;obtain⟨sl',q'⟩:=v b hb _ q n;exact⟨sl',q'⟩
abbrev In(h:Heap):Addr->Prop:=fun b=>∃o,h.get? b=some o
section
variable {P:Program}{w:World}{fs ex:List Addr}{H H':Hp}{h h1 h2:Heap}{D:Addr->Prop}
theorem Un.over(u:Un fs ex H H' h h1)(k:Safe fs H' D h1 h2)(hD:∀b o,h.get? b=some o->b∉ex->D b)(hf:∀b∈fs,H b=none)(up:∀b∈fs,∀o,h1.get? b=some o->∃sl,h2.get? b=some { o with slots:=sl }):Un fs ex H H' h h2 where
 keep b o e n hb hx:=k b o (u.keep b o e n hb hx) hb (.inr (hD b o e hx))
 slot b o e n hb hx:=by
  obtain⟨sl,q⟩:=u.slot b o e n hb hx;obtain⟨sl',q'⟩:=up b hb _ q;exact⟨sl',q'⟩
 free:=u.free
 there b o e hx:=by
  obtain⟨o',q⟩:=u.there b o e hx
  by_cases hb:b∈fs
  ·obtain⟨sl',q'⟩:=up b hb _ q
   exact⟨_,q'⟩
  ·exact⟨o',k b o' q hb (.inr (hD b o e hx))⟩
 tups:=u.tups
 frzs:=u.frzs
 tbls:=u.tbls
 tupo b o xs e n:=k b o (u.tupo b o xs e n) (fun hb=>by rw[hf b hb]at n;cases n) (.inl ⟨_,u.tups b xs n⟩)
theorem HOk.over(x:HOk P w H' h1)(k:Safe fs H' D h1 h2)(hf:∀b∈fs,H' b=none):HOk P w H' h2:=fun a o e =>
 (x a o e).stay (fun b u hb q=>by
  have ht:∃y,H' b=some y:=by
   rcases hb with rfl|hb
   ·exact⟨_,e⟩
   ·exact⟨_,hb⟩
  refine k b u q (fun z=>?_) (.inl ht);obtain⟨y,hy⟩:=ht
  rw[hf b z]at hy;cases hy) (fun _ q=>q) fun _ _ q=>q
end
inductive Fly(l:List Env)(H:Hp)(h0:Heap)(a:Addr)(cls:Value)(h:Heap):Prop
 |mk (B:Heap) (a0:Value) (f:Heap.FlyingW B l a cls a0 h) (k:Safe (frs l) H (In h0) h B):Fly l H h0 a cls h
inductive Flew(P:Program)(w:World)(outer:List Env)(H:Hp)(s:Shared)(E:XK)(e:Value)(s':Shared):Prop
 |mk (a:Addr) (cls:Value) (H':Hp) (he:e=.ref a) (os:s'.os=s.os) (bare:AllBare s'.gens) (un:Un (frs outer) [] H H' s.heap s'.heap) (hok:HOk P w H' s'.heap) (fl:Fly outer H' s.heap a cls s'.heap) (q:E cls none H'):Flew P w outer H s E e s'
abbrev CXd(P:Program)(w:World):CXT:=fun outer H s E e s'=>Flew P w outer H s E e s'
section
variable {X:Cx}{pins:List (Addr×Obj)}{σ:St}{H H':Hp}{s s':Shared}{h' B:Heap}{D:Addr->Prop}{ch:List Addr}
theorem Inv.overB(I:Inv X pins σ H s)(os:s'.os=s.os)(bare:AllBare s'.gens)(un:Un (frs X.stack) ch H H' s.heap s'.heap)(hok:HOk X.prog X.w H' s'.heap)(k:Safe (frs X.stack) H' D s'.heap B)(hD:∀b o,s.heap.get? b=some o->b∉ch->D b)(st:B.StaysIn h')(up:Up (frs X.stack) s'.heap h')(hch:∀b∈ch,(b∈X.ex\/X.s₀.heap.objs.size≤b)/\b≠X.env.locals/\(∀x c,X.env.cells.lookup x=some c->c≠b)/\∀p∈X.pn++pins,p.1≠b):Inv X pins σ H' { s' with heap:=h' }:=by
 have J:Inv X pins σ H' s':=I.call' os un hok bare hch;have k2:Safe (frs X.stack) H' D s'.heap h':=fun b o e n x=>st b o (k b o e n x);refine I.call' (s':={ s' with heap:=h' }) os (un.over k2 hD I.stkFree fun b hb o e=>?_) (hok.over k2 J.stkFree) bare hch;obtain⟨_,o',ho',hd⟩:=J.stack.mem hb;rw[e]at ho';cases ho';exact up b hb o e hd
theorem Safe.on{l l':List Env}{D0:Addr->Prop}{h1:Heap}{P:Program}{w:World}(k:Safe (frs l) H' D h1 B)(st:B.StaysIn h')(hok:HOk P w H' h1)(hl:∀b,b∉frs l'->((∃x,H' b=some x)\/D0 b)->b∉frs l)(hD0:∀b,D0 b->D b/\∃o',h1.get? b=some o'):Safe (frs l') H' D0 h' B:=fun b o e n x=>by
 have hb:=hl b n x
 have:∃o',h1.get? b=some o'/\B.get? b=some o':=by
  rcases x with⟨y,hy⟩|hy
  ·obtain⟨u,hu⟩:=(hok b y hy).there
   exact⟨u,hu,k b u hu hb (.inl ⟨y,hy⟩)⟩
  ·obtain⟨q1,o2,q2⟩:=hD0 b hy
   exact⟨o2,q2,k b o2 q2 hb (.inr q1)⟩
 obtain⟨o',e1,e2⟩:=this;have e3:=st b o' e2;rw[e]at e3;cases e3;exact e2
end
section
variable {P:Program}{w:World}{K:PySem.W.Frag}{mg:Str->Option Value}{base:Heap}{N:List Str}{qual:Str}{scope:Scope}{f:Addr}{cd:Value}{A:Around}{outer:List Env}{s₀:Shared}{H₀:Hp}{E:XK}
abbrev cxD(P:Program)(w:World)(K:PySem.W.Frag)(mg:Str->Option Value)(base:Heap)(N:List Str)(qual:Str)(scope:Scope)(f:Addr)(cd:Value)(A:Around)(outer:List Env)(s:Shared)(H:Hp)(E:XK):Cx:=cxOf (CXd P w) P w K mg base N qual scope f cd A outer s H E
theorem Inv.notL{X:Cx}{pins:List (Addr×Obj)}{σ:St}{H:Hp}{s:Shared}(I:Inv X pins σ H s)(hs:X.stack=X.env::X.outer)(hf:X.env.frame=some X.env.locals){b:Addr}(n:b∉X.fs)(x:(∃y,H b=some y)\/∃o',X.s₀.heap.get? b=some o'):b∉frs X.stack:=fun z=>by
 rcases qw.mp (I.stkSub b z) with e|e
 ·subst e
  rcases x with⟨y,hy⟩|⟨o',hy⟩
  ·rw[I.free]at hy;cases hy
  ·exact absurd (ze (Heap.lt_size hy) I.ok.above) (zu _)
 ·exact n e
theorem xAkj{pins:List (Addr×Obj)}{σ:St}{H H':Hp}{s s':Shared}{B h':Heap}{a:Addr}{cls a0:Value}{D:Addr->Prop}{ch:List Addr}(I:Inv (cxD P w K mg base N qual scope f cd A outer s₀ H₀ E) pins σ H s)(os:s'.os=s.os)(bare:AllBare s'.gens)(un:Un (frs (envOfC qual scope s₀.heap.objs.size f cd::outer)) ch H H' s.heap s'.heap)(hok:HOk P w H' s'.heap)(k:Safe (frs (envOfC qual scope s₀.heap.objs.size f cd::outer)) H' D s'.heap B)(hD:∀b o,s.heap.get? b=some o->b∉ch->D b)(x1:Heap.FlyingW B outer a cls a0 h')(x2:Up (frs (envOfC qual scope s₀.heap.objs.size f cd::outer)) s'.heap h')(q:E cls none H')(hch:∀b∈ch,s₀.heap.objs.size≤b/\b≠s₀.heap.objs.size/\(∀x c,(envOfC qual scope s₀.heap.objs.size f cd).cells.lookup x=some c->c≠b)/\∀p∈pins,p.1≠b) :
  Flew P w outer H₀ s₀ E (.ref a) { s' with heap:=h' }:=by
 have J:=I.overB os bare un hok k hD x1.1 x2 fun b hb=>⟨.inr (hch b hb).1,(hch b hb).2.1,(hch b hb).2.2.1,fun p hp=>(hch b hb).2.2.2 p (by simpa[cxOf] using hp)⟩
 refine⟨a,cls,H',rfl,J.os,J.bare,J.base,J.hok,⟨B,a0,x1,?_⟩,q⟩;refine k.on (D0:=In s₀.heap) (l':=outer) x1.1 hok (fun b n x=>J.notL rfl rfl n x) fun b ⟨o,e⟩=>?_;obtain⟨o1,e1⟩:=I.base.there b o e (by simp[cxOf]);have nb:b∉ch:=fun z=>absurd (ze (Heap.lt_size e) (hch b z).1) (zu _);exact⟨hD b o1 e1 nb,un.there b o1 e1 nb⟩
theorem passD:Passes (CXd P w) (cxD P w K mg base N qual scope f cd A outer s₀ H₀ E) E:=by
 intro pins σ H s e s' I hq;obtain⟨a,cls,H',rfl,os,bare,un,hok,⟨B,a0,fl,k⟩,q⟩:=hq
 exact wpAny_leaves_onW (show(cxD P w K mg base N qual scope f cd A outer s₀ H₀ E).A.frames=some _ from I.ok.frames) rfl fl fun h' x1 x2=>xAkj I os bare un hok k (fun b o e _=>⟨o,e⟩) x1 (.of x2) q (fun b z=>absurd z (by simp))
abbrev bmV:List Value:=[.type "ValueError",.type "Exception",.type "BaseException",.type "object"]
structure XC(K:PySem.W.Frag)(C:Addr):Prop where
 ok:PySem.W.excIn K C bmV "ValueError.__new__"=true
theorem XC.obj{K:PySem.W.Frag}{C:Addr}(x:XC K C){h:Heap}(X:K.In h):∃tl Na nm q bs hdct sn sub ab col dd k0 k1 k2 k3 k5 mN,
  h.get? C=some (excClassObj nm q C Na bs tl hdct sn sub ab col dd k0 k1 k2 k3 k5 "ValueError.__new__")/\h.Ns Na mN/\mN "__init__"=none/\OwnTail h bmV tl:=by
 have q:=x.ok;unfold PySem.W.excIn at q
 split at q
 ·rename_i dd cd sl ho
  split at q
  ·rename_i C' bm k0 k1 k2 k3 n k5 hm hs
   simp only[Bool.and_eq_true,beq_iff_eq,Bool.not_eq_true']at q
   obtain⟨⟨⟨⟨⟨rfl,rfl⟩,hdel⟩,ht⟩,hok⟩,hni⟩:=q;obtain⟨nm,bs,mro,ns,qn,hd,sn,sub,ab,col,del⟩:=cd;dsimp only at hm hdel hok hni;subst hm hdel
   have hsl:sl=#[k0,k1,k2,k3,some (.builtin "ValueError.__new__"),k5]:=by
    obtain⟨l⟩:=sl
    simp only at hs
    rw[hs]
   subst hsl;exact⟨bm,ns,nm,qn,bs,hd,sn,sub,ab,col,dd,k0,k1,k2,k3,k5,_,X _ _ ho,.of_isNs (PySem.W.isNs_of_in X hok),PySem.W.nsMap_none_of_in X hok hni,PySem.W.tail_of_in X ht⟩
  ·cases q
 ·cases q
inductive ItRaise(C:Addr)(E:XK)(vs:List V)(H1:Hp):Prop
 |mk (h0_:vs.length≤sizeLine) (h1_:E (.ref C) none H1):ItRaise C E vs H1
def tRaise(C:Addr)(E:XK)(t:TA):TS:=fun _ σ H=>t σ H fun vs H1=>ItRaise C E vs H1
theorem xAbr{C:Addr}{x:Str}{np cpos pos:Pos}{e:Expr}{es:List Expr}{t:TA}(xc:XC K C)(hm:mg x=some (.ref C))(ha:PA (cxD P w K mg base N qual scope f cd A outer s₀ H₀ E) (e::es) t)(hg:Gl (cxD P w K mg base N qual scope f cd A outer s₀ H₀ E) x:=by exact rfl)(hd:(x==("__debug__":Str))=false:=by decide)(he:starEach (e::es) (envOfC qual scope s₀.heap.objs.size f cd)=(false,eval e (envOfC qual scope s₀.heap.objs.size f cd))::starEach es (envOfC qual scope s₀.heap.objs.size f cd):=by rfl)(hpl:(backTo cpos (starEach es (envOfC qual scope s₀.heap.objs.size f cd))).any (·.1)=false:=by rfl) :
  PS (cxD P w K mg base N qual scope f cd A outer s₀ H₀ E) (.Raise (some (.Call (.Name x np) (e::es) [] cpos)) none pos) (tRaise C E t):=by
 refine⟨?_⟩;intro pins s σ H D I h;obtain⟨tl,Na,nm,q,bs,hdct,sn,sub,ab,col,dd,k0,k1,k2,k3,k5,mN,hC,hN,hni,T⟩:=xc.obj I.mod.kin;have FV:=PySem.F.excBase_ValueError
 refine wpAny_Raise_call_subU (C:=C) (nm:=nm) (q:=q) (N:=Na) (bs:=bs) (bm:=tl) (hdct:=hdct) (sn:=sn) (sub:=sub) (ab:=ab) (col:=col) (dd:=dd) (k0:=k0) (k1:=k1) (k2:=k2) (k3:=k3) (k5:=k5)
  FV FV.hasB FV (mN:=mN) (T.hasType FV.hasBase) (I.ok.hd rfl) (by show(backTo cpos (starEach (e::es) (envOfC qual scope s₀.heap.objs.size f cd))).any (·.1)=false;rw[he];show(false||(backTo cpos (starEach es (envOfC qual scope s₀.heap.objs.size f cd))).any (·.1))=false;rw[hpl];rfl) hni (xAdi I hg hm ⟨rfl,?_⟩ hd)
 have ha':=ha cpos pins s σ H _ I h;show wpAny _ _ (evalArgs (.ref C) true (backTo cpos (starEach (e::es) (envOfC qual scope s₀.heap.objs.size f cd))) []) _ _ _;have ha'':wpAny (model P w) (A.deeper (envOfC qual scope s₀.heap.objs.size f cd)) (spliced (backTo cpos (starEach (e::es) (envOfC qual scope s₀.heap.objs.size f cd)))) _ _ s:=ha';rw[he]at ha'' ⊢;refine Calls.evalArgs_plain (thn ha'' fun us s2 ⟨vs,H2,I2,r,hl,q⟩=>⟨rfl,by rw[←r.length];exact hl,I2.bk _ _ hC,hN.keeps I2.bk,T.keeps I2.bk,fun h' a hx=>?_⟩);have hin:∀env∈(envOfC qual scope s₀.heap.objs.size f cd::outer),∀b,env.frame=some b->b∈frs (envOfC qual scope s₀.heap.objs.size f cd::outer):=fun env he b hb=>yu.mpr ⟨env,he,hb⟩
 have kB:Safe (frs (envOfC qual scope s₀.heap.objs.size f cd::outer)) H2 (In s2.heap) h' (PySem.W.hideAll s2.heap (frs (envOfC qual scope s₀.heap.objs.size f cd::outer))):=fun b o e n z=>by
  have:∃o',s2.heap.get? b=some o':=by
   rcases z with⟨y,hy⟩|z
   ·exact(I2.hok b y hy).there
   ·exact z
  obtain⟨o',ho'⟩:=this;have e2:=hx.keeps b o' ho';rw[e]at e2;cases e2;exact PySem.W.hideAll_get _ ho' n
 exact wpAny_leaves_madeW (base:=PySem.W.hideAll s2.heap (frs (envOfC qual scope s₀.heap.objs.size f cd::outer))) (show(cxD P w K mg base N qual scope f cd A outer s₀ H₀ E).A.frames=some _ from I.ok.frames) rfl (fun b o q=>PySem.W.of_hideAll _ q) (PySem.W.funFrames_hide I2.stack hin) hx fun h'' t x1 _ _ x4 =>
  xAkj (s':={ s2 with heap:=h' }) I2 rfl I2.bare (Un.kept hx.keeps) (I2.hok.kept hx.keeps) kB (fun b o e _=>⟨o,e⟩) (ch:=[]) x1 (.of x4) q (fun b z=>absurd z (by simp))
end
theorem xAsm{e:Value}{env env':Env}(h:env.frame=env'.frame):noteFrame e env=noteFrame e env':=by
 unfold noteFrame PySem.frameOf;rw[h]
section
variable {M:Model}{A:Around}{E:Value->Shared->Prop}{s:Shared}{base:Heap}{l outer:List Env}{env:Env}{L e:Addr}{cls a0 fl:Value}
def FlA(base:Heap)(l:List Env)(e:Addr)(cls a0:Value)(h:Heap):Prop:=base.StaysIn h/\base.get? e=none/\h.FunFrames base l/\∃fl,h.TracedAtW base e cls a0 fl
theorem FlA.held{h:Heap}(x:Heap.HeldW base l e cls a0 L h):FlA base l e cls a0 h:=⟨x.1,x.2.1,x.2.2.1,_,x.2.2.2⟩
theorem xAkk{Q:Unit->Shared->Prop}(hfr:A.frames=some (env::outer))(hf:env.frame=some L)(x:FlA base (env::outer) e cls a0 s.heap)(hQ:∀h',Heap.FlyingW base outer e cls a0 h'->s.heap.UpToSlots h'->Q () { s with heap:=h' }):wpAny M A (leaving env (.ref e)) Q E s:=by
 obtain⟨hkb,hen,hl,fl,ht⟩:=x;obtain⟨oe,vs,T,oT,ts,he,⟨hcls,h0⟩,hd,h1,hnT,hTe,hT,hdT,h3⟩:=id ht;have other:∀b,b≠T->(s.heap.update T (Obj.mapFields (·.setIfInBounds 3 Value.none))).get? b=s.heap.get? b:=fun b hb=>Heap.get?_update_other _ _ (Ne.symm hb)
 have noRecord:∀b o,s.heap.get? b=some o->(∀vs,o.data≠.fields vs)->b≠T:=fun b o hb hnf q=>by
  rw[q,hT]at hb;injection hb with hb;subst hb;exact hnf ts hdT
 subst hcls
 by_cases hb:(fl==rawInt L)=true
 ·unfold leaving
  refine wpAny_bind ?_;refine(?_:wpAny M A (noteFrame (.ref e) env) _ E s);unfold noteFrame
  simp only[hf]
  refine wpAny_bind (wpAny_field he hd h1 ?_);rw[if_pos (show(Value.ref T != Value.none)=true from by simp)];refine wpAny_bind (wpAny_field hT hdT h3 ?_);rw[if_pos hb];refine wpAny_pure ?_;refine wpAny_setFlight_noneW hkb hl ht fun h' k1 k2 k3 k4=>?_;obtain⟨_,_,k2'⟩:=k2;exact hQ h' ⟨k1,hen,k2',k3⟩ fun b o hb hn=>⟨o.slots,k4 b o hb hn⟩
 ·unfold leaving noteFrame
  simp only[hf]
  refine wpAny_bind (wpAny_bind (wpAny_field he hd h1 ?_));rw[if_pos (show(Value.ref T != Value.none)=true from by simp)];refine wpAny_bind (wpAny_field hT hdT h3 ?_);rw[if_neg hb];refine wpAny_bind (wpAny_setField hT hdT (wx.mp h3).1 ?_)
  refine wpAny_newEntryW (base:=base) (a0:=a0) hfr (hl.of_keeps fun b o hb hnf=>⟨o,(other b (noRecord b o hb hnf)).trans hb,rfl⟩) hf ((other e (Ne.symm hTe)).trans he)
   (fun b o hbo=>(other b fun q=>by rw[q,hnT]at hbo;cases hbo).trans (hkb b o hbo)) hen hd (wx.mp h1).1 h0
   fun h' ⟨x1,⟨_,_,x2⟩,x3,x4⟩=>hQ h' ⟨x1,hen,x2,x3⟩ fun b o hb hnf=>x4 b o ((other b (noRecord b o hb hnf)).trans hb) hnf
theorem xAcf{f:Option Addr}{Q:Unit->Shared->Prop}(x:FlA base l e cls a0 s.heap)(h:∀h',FlA base l e cls a0 h'->s.heap.UpToSlots h'->Q () { s with heap:=h' }):wpAny M A (setFlight (.ref e) f) Q E s:=by
 obtain⟨hkb,hen,hl,fl,oe,vs,T,oT,ts,he,hcls,hd,h1,hnT,hTe,hT,hdT,h3⟩:=x;have hsz3:3<ts.size:=(wx.mp h3).1;have other:∀b,b≠T->(s.heap.update T (Obj.mapFields (·.setIfInBounds 3 (f.elim Value.none fun f=>rawInt f)))).get? b=s.heap.get? b:=fun b hb=>Heap.get?_update_other _ _ (Ne.symm hb)
 have noRecord:∀b o,s.heap.get? b=some o->(∀vs,o.data≠.fields vs)->b≠T:=fun b o hb hnf q=>by
  rw[q,hT]at hb;injection hb with hb;subst hb;exact hnf ts hdT
 unfold setFlight;refine wpAny_bind (wpAny_field he hd h1 ?_);rw[if_pos (show(Value.ref T != Value.none)=true from by simp)];refine wpAny_setField hT hdT hsz3 (h _ ⟨fun b o hbo=>(other b fun q=>by rw[q,hnT]at hbo;cases hbo).trans (hkb b o hbo),hen,hl.of_keeps fun b o hb hnf=>⟨o,(other b (noRecord b o hb hnf)).trans hb,rfl⟩,(f.elim Value.none fun f=>rawInt f),?_⟩ fun b o hb hnf=>⟨o.slots,(other b (noRecord b o hb hnf)).trans hb⟩);exact⟨oe,vs,T,_,_,(other e (Ne.symm hTe)).trans he,hcls,hd,h1,hnT,hTe,Heap.get?_update_self _ hT (Obj.isFreed_of_fields (Obj.data_mapFields hdT _)),Obj.data_mapFields hdT _,by simp[hsz3]⟩
theorem xAkl{α:Type}{what:String}{Q:α->Shared->Prop}(x:FlA base l e cls a0 s.heap)(h:∀h',FlA base l e cls a0 h'->s.heap.UpToSlots h'->E (.ref e) { s with heap:=h' }):wpAny M A (PySem.passOn what (.ref e) env) Q E s:=by
 obtain⟨_,_,_,fl,oe,vs,T,oT,ts,he,hcls,hd,h1,_⟩:=id x;unfold PySem.passOn;refine wpAny_bind (wpAny_field he hd h1 ?_);rw[if_neg (show ¬((Value.ref T==Value.none)=true) from by simp)]
 first
  |exact wpAny_bind (xAcf x fun h' y z=>wpAny_throw (h h' y z))
  |(refine wpAny_bind (wpAny_pure ?_);exact wpAny_bind (xAcf x fun h' y z=>wpAny_throw (h h' y z)))
  |(refine wpAny_bind (xAcf x fun h' y z=>?_);exact wpAny_raise (h h' y z))
theorem FlA.hide{h h':Heap}{C:Addr}(x:FlA base l e cls a0 h)(hC:C∉frs l)(hCe:∃o,h.get? C=some o/\∀vs,o.data≠.fields vs)(k:∀b o,b≠C->h.get? b=some o->h'.get? b=some o):FlA (PySem.W.hideAll base [C]) l e cls a0 h':=by
 obtain⟨hkb,hen,hl,fl,oe,vs,T,oT,ts,he,hcls,hd,h1,hnT,hTe,hT,hdT,h3⟩:=x;obtain⟨oC,heC,hnC⟩:=hCe;have sub:∀b o,(PySem.W.hideAll base [C]).get? b=some o->base.get? b=some o:=fun b o q=>PySem.W.of_hideAll _ q
 have non:∀b,base.get? b=none->(PySem.W.hideAll base [C]).get? b=none:=fun b q=>by
  cases z:(PySem.W.hideAll base [C]).get? b with
  |none=>rfl
  |some o=>rw[sub b o z]at q;cases q
 have ne1:e≠C:=fun z=>by subst z;rw[he]at heC;cases heC;exact hnC _ hd
 have ne2:T≠C:=fun z=>by subst z;rw[hT]at heC;cases heC;exact hnC _ hdT
 refine⟨fun b o q=>k b o (fun z=>by subst z;rw[PySem.W.hideAll_none [b] (by simp)]at q;cases q) (hkb b o (sub b o q)),non _ hen,?_,fl,oe,vs,T,oT,ts,k _ _ ne1 he,hcls,hd,h1,non _ hnT,hTe,k _ _ ne2 hT,hdT,h3⟩
 have all:∀l:List Env,(∀b∈frs l,b≠C)->h.FunFrames base l->h'.FunFrames (PySem.W.hideAll base [C]) l:=by
  intro l
  induction l with
  |nil=>intro _ _;trivial
  |cons env r ih =>
   intro hs hl;obtain⟨hk,⟨L,o,hf,hn,ho,hd⟩,hr⟩:=hl;have hL:L≠C:=hs L (by unfold frs;rw[vq,hf];exact qm);exact⟨hk,⟨L,o,hf,non _ hn,k _ _ hL ho,hd⟩,ih (fun b hb=>hs b (by unfold frs;rw[vq,hf];exact qk _ hb)) hr⟩
 exact all l (fun b hb z=>hC (z▸hb)) hl
end
section
variable {P:Program}{w:World}{K:PySem.W.Frag}{mg:Str->Option Value}{base:Heap}{N:List Str}{qual:Str}{scope:Scope}{f:Addr}{cd:Value}{A:Around}{outer:List Env}{s₀:Shared}{H₀:Hp}{E:XK}
abbrev xeC(X:Cx)(use:Option (Value->Sem Unit))(QQ:Value->Shared->Prop)(acc:Value)(sc:Scope)(cl:List (Str×Addr))(s2:Shared):Value->Shared->Prop :=
 notedBy (model X.prog X.w) X.A (compEnvC sc cl (s2.heap.objs.size+1) X.env) fun e s'=>compPost (model X.prog X.w) X.A X.xe use QQ acc (s2.heap.objs.size+1) (.error e) s'
theorem passC{pins:List (Addr×Obj)}{σ:St}{H2:Hp}{s2:Shared}{use:Option (Value->Sem Unit)}{QQ:Value->Shared->Prop}{acc:Value}{N':List Str}{sc:Scope}{cl:List (Str×Addr)}{fp:List Addr}(I2:Inv (cxD P w K mg base N qual scope f cd A outer s₀ H₀ E) pins σ H2 s2)(f2:∀b∈fp,FpOk (cxD P w K mg base N qual scope f cd A outer s₀ H₀ E) pins H2 b) :
  Passes (CXd P w) (compCxE (cxD P w K mg base N qual scope f cd A outer s₀ H₀ E) (xeC (cxD P w K mg base N qual scope f cd A outer s₀ H₀ E) use QQ acc sc cl s2) N' sc cl s2 H2 fp) E:=by
 intro pins' σ' H s e s' Ic hq;obtain⟨a,cls,H',rfl,os,bare,un,hok,⟨B,a0,fl,k⟩,q⟩:=hq;have hX:(A.deeper (envOfC qual scope s₀.heap.objs.size f cd)).frames=some (envOfC qual scope s₀.heap.objs.size f cd::outer):=I2.ok.frames;show wpAny (model P w) (A.deeper (envOfC qual scope s₀.heap.objs.size f cd)) (noteFrame (.ref a) (compEnvC sc cl (s2.heap.objs.size+1) (envOfC qual scope s₀.heap.objs.size f cd))) _ _ s';rw[xAsm (env:=compEnvC sc cl (s2.heap.objs.size+1) (envOfC qual scope s₀.heap.objs.size f cd)) (env':=envOfC qual scope s₀.heap.objs.size f cd) rfl];refine wpAny_looks_onW (base:=B) (a0:=a0) hX rfl fl fun h1 held up1=>?_;have Jc:=Ic.overB os bare un hok k (fun b o e _=>⟨o,e⟩) held.1 (.of up1) (fun b z=>absurd z (by simp));obtain⟨m,hn,_⟩:=id Jc.loc
 have ltF:∀b∈frs (envOfC qual scope s₀.heap.objs.size f cd::outer),b<s2.heap.objs.size:=fun b hb=>by
  obtain⟨_,o,ho,_⟩:=I2.stack.mem hb;exact Heap.lt_size ho
 have nC:s2.heap.objs.size+1∉frs (envOfC qual scope s₀.heap.objs.size f cd::outer):=fun z=>absurd (w6 (ltF _ z)) (zu _);refine⟨m,hn,fun h2 hs cenv _=>?_⟩
 have hcv:∃o,h1.get? (s2.heap.objs.size+1)=some o/\∀vs,o.data≠.fields vs:=by
  obtain⟨o,es,ep,ho,hd,_⟩:=hn;exact⟨o,ho,fun vs z=>by rw[hd]at z;cases z⟩
 have x2:FlA (PySem.W.hideAll B [s2.heap.objs.size+1]) (envOfC qual scope s₀.heap.objs.size f cd::outer) a cls a0 h2:=(FlA.held held).hide nC hcv fun b o nb e=>hs.extBut b o nb e;refine xAkl x2 fun h3 x3 up3=>?_;refine xAkk (base:=PySem.W.hideAll B [s2.heap.objs.size+1]) (cls:=cls) (a0:=a0) hX rfl x3 fun h4 x4 up4=>?_;have uc:Un (frs (envOfC qual scope s₀.heap.objs.size f cd::outer)) fp H2 H' s2.heap s'.heap:=Un.trans Ic.base (un.mono (fun _ z=>z) fun _ z=>absurd z (by simp))
 have k':Safe (frs (envOfC qual scope s₀.heap.objs.size f cd::outer)) H' (fun b=>In s2.heap b/\b∉fp) s'.heap (PySem.W.hideAll B [s2.heap.objs.size+1]):=fun b o e n x=>by
  refine PySem.W.hideAll_get _ (k b o e n ?_) fun z=>?_
  ·rcases x with x|⟨⟨o1,x⟩,nf⟩
   ·exact .inl x
   ·exact .inr (Ic.base.there b o1 x nf)
  ·have z:b=s2.heap.objs.size+1:=by simpa using z
   subst z;rcases x with⟨y,hy⟩|⟨⟨o1,x⟩,nf⟩
   ·have:H' (s2.heap.objs.size+1)=none:=Jc.free
    rw[this]at hy;cases hy
   ·exact absurd (w6 (Heap.lt_size x)) (zu _)
 refine xAkj (s':=s') I2 (os.trans Ic.os) bare uc hok k' (fun b o e nb=>⟨⟨o,e⟩,nb⟩) x4 ?_ q fun b hb=>?_
 ·exact((Up.of up1).trans fun b hb o e _=>⟨o.slots,hs.extBut b o (fun z=>nC (z▸hb)) e⟩).trans ((Up.of up3).trans (.of up4))
 ·obtain⟨_,g1,g2,g3,g4,g5⟩:=f2 b hb
  refine⟨?_,g1,g4,fun p hp=>g5 p (zr _ hp)⟩;rcases g3 with z|z
  ·exact absurd (show b∈([]:List Addr) from z) (by simp)
  ·exact z
section
variable {elt tg iter:Expr}{ifs:List Expr}{sc:Scope}{pos:Pos}{own:List Str}{fr:List (Str×Nat)}{cl:List (Str×Addr)}{wi:TI}{g:TG}{tt:TT}{te:TE}
theorem xAmo(hi:PI (cxD P w K mg base N qual scope f cd A outer s₀ H₀ E) tg iter wi)(S:CompSc sc)(C:Caps (cxD P w K mg base N qual scope f cd A outer s₀ H₀ E) sc cl fr)(hg:∀xe s H fp,PG (compCxE (cxD P w K mg base N qual scope f cd A outer s₀ H₀ E) xe (own++fr.map (·.1)) sc cl s H fp) tg g)(hfr:∀σ,Fresh g (compSt own fr σ))(ht:∀xe s H fp,PTs (compCxE (cxD P w K mg base N qual scope f cd A outer s₀ H₀ E) xe (own++fr.map (·.1)) sc cl s H fp) ifs tt)(he:∀xe s H fp,Passes (CXd P w) (compCxE (cxD P w K mg base N qual scope f cd A outer s₀ H₀ E) xe (own++fr.map (·.1)) sc cl s H fp) E->PE (compCxE (cxD P w K mg base N qual scope f cd A outer s₀ H₀ E) xe (own++fr.map (·.1)) sc cl s H fp) elt te)(hs:∀x,foldedSetIterable iter (envOfC qual scope s₀.heap.objs.size f cd) x=pure x:=by intro _;rfl) :
  PE (cxD P w K mg base N qual scope f cd A outer s₀ H₀ E) (.ListComp elt [⟨tg,iter,ifs,0⟩] sc pos) (tLC own fr wi g tt te):=by
 refine⟨?_⟩;intro pins s σ H Q I h;rw[eval_ListComp];refine wpAny_comprehension_free (use:=none) rfl hs C.clos S.kind S.nms (thn (hi pins s σ H _ I h) fun xv s1 h1=>thn h1 fun itv s2 h2=>?_);obtain⟨it,fp,tn,J,H2,e,I2,T,st2,f2,hW⟩:=h2;subst e
 refine xAdm (X:=cxD P w K mg base N qual scope f cd A outer s₀ H₀ E) (xe:=xeC (cxD P w K mg base N qual scope f cd A outer s₀ H₀ E) none (EP (cxD P w K mg base N qual scope f cd A outer s₀ H₀ E) pins σ Q) (.ref s2.heap.objs.size) sc cl s2)
  (RR:=fun acc A'=>compPost (model P w) (cxD P w K mg base N qual scope f cd A outer s₀ H₀ E).A (cxD P w K mg base N qual scope f cd A outer s₀ H₀ E).xe none (EP (cxD P w K mg base N qual scope f cd A outer s₀ H₀ E) pins σ Q) acc A') rfl S C (hg _) hfr (ht _) (he _ _ _ _ (passC I2 f2)) I2 T st2 f2 hW (fun s5 H4 ys us I5 hv hz fin=>?_) fun _ _ f=>f
 have I5:=I5.unwish;obtain⟨m5,hn5,_⟩:=id I5.loc;have nD:H4 s2.heap.objs.size=none:=(I5.pin (s2.heap.objs.size,accObj us) (List.mem_append_right _ (by simp))).2.1;exact⟨m5,hn5,fun h' hs'=>⟨.ref s2.heap.objs.size,upd H4 s2.heap.objs.size (.lst ys),I2.unblock f2 I5 hv hz hs',rfl,fin _ nD⟩⟩
end
end
section
variable {X:Cx}{k n:Nat}{x:Str}{ps:List Str}{sp:Sp}{p pos:Pos}{e:Expr}{es:List Expr}{t:TA}{E:XK}
structure FnX(P:Program)(w:World)(K:PySem.W.Frag)(mg:Str->Option Value)(base:Heap)(k:Nat)(x:Str)(ps:List Str)(sp:Sp):Prop where
 out:∃f fd,FnOk P w K mg base (CXd P w) k f fd ps sp/\mg x=some (.ref f)/\PySem.W.keepIn K (.ref f)=true/\Binds K fd ps []
theorem clX(F:FnX X.prog X.w X.K X.mg X.base k x ps sp)(hx:Passes (CXd X.prog X.w) X E)(hr:Room n X.A)(ha:PA X (e::es) t)(hk:k≤n:=by decide)(hg:Gl X x:=by exact rfl)(hdb:(x==("__debug__":Str))=false:=by exact rfl)(he:St1 X e:=by exact fun _=>rfl)(hpl:(backTo pos (starEach es X.env)).any (·.1)=false:=by exact rfl) :
  PE X (.Call (.Name x p) (e::es) [] pos) (tCall sp [] E t):=by
 obtain⟨f,fd,F,hm,hk',hb⟩:=F.out;exact xAne F (hr.mono hk) hg hm hk' hb .nil hx ha hdb (he _) hpl
inductive ItCallVX(Fs:Addr->Sp->Prop)(E:XK)(t:TA)(σ:St)(Q:VK)(v:V)(H:Hp):Prop
 |mk (f:Addr) (sp:Sp) (h0:v=.ref f) (h1:Fs f sp) (h2:t σ H fun vs H2=>sp vs H2 Q E):ItCallVX Fs E t σ Q v H
def tCallVX(Fs:Addr->Sp->Prop)(E:XK)(tf:TE)(t:TA):TE:=fun σ H Q=>tf σ H fun v H1=>ItCallVX Fs E t σ Q v H1
theorem cvX{Fs:Addr->Sp->Prop}{tf:TE}(hF:∀f sp,Fs f sp->∃k fd ps,k≤n/\FnOk X.prog X.w X.K X.mg X.base (CXd X.prog X.w) k f fd ps sp/\PySem.W.keepIn X.K (.ref f)=true/\Binds X.K fd ps [])(hx:Passes (CXd X.prog X.w) X E)(hr:Room n X.A)(hf:PE X (.Name x p) tf)(ha:PA X (e::es) t)(he:St1 X e:=by exact fun _=>rfl)(hpl:(backTo pos (starEach es X.env)).any (·.1)=false:=by exact rfl):PE X (.Call (.Name x p) (e::es) [] pos) (tCallVX Fs E tf t):=by
 refine⟨?_⟩;intro pins s σ H Q I h;refine wpAny_Call_Name_kw (thn (hf pins s σ H _ I h) fun u s1 ⟨v,H1,I1,r,f,sp,ev,hf,q⟩=>?_);subst ev;cases r;obtain⟨k,fd,ps,hk,F,hkp,hb⟩:=hF f sp hf;refine PySem.W.callWith_K (h₀:=X.base) I1.ok.mod.kin hkp (thn (ha pos pins s1 σ H1 _ I1 q) fun us s2 ⟨vs,H2,I2,r,q⟩=>⟨I2.kIn,?_⟩) (he _) hpl;exact xAok F (hr.mono hk) hb .nil hx I2 r (by rw[vm];exact q)
end
theorem Fun.okX{P:Program}{w:World}{K:PySem.W.Frag}{mg:Str->Option Value}{base:Heap}{x qual:Str}{st:Stmt}{f:Addr}{fd:FuncData}{N ps:List Str}{k:Nat}{sp:Sp}(F:Fun K x qual st f fd)(S:FnScope N ps (defScope st))(len:∀vs H Q E,sp vs H Q E->vs.length=ps.length)(hbody:∀(cdv:Value) (A:Around) (outer:List Env) (s:Shared) (H:Hp) (vs:List V) (Q:VK) (E:XK),Room k (A.deeper (envOfC qual (defScope st) s.heap.objs.size f cdv))->sp vs H Q E →
   ∃t,PSs (cxD P w K mg base N qual (defScope st) f cdv A outer s H E) (defBody st) t/\t { nx:=fun _ H'=>Q .non H',rt:=Q } (start N vs) H):FnOk P w K mg base (CXd P w) (k+1) f fd ps sp:=by
 obtain⟨oc,od,kV,doc,pm,an,cdv,ct,osl,rfl,lk,hcd⟩:=F.ex;exact fn_of lk hcd S len fun A outer s H vs Q E hr hsp=>hbody cdv A outer s H vs Q E hr hsp
theorem xAcg{P:Program}{w:World}{K:PySem.W.Frag}{mg:Str->Option Value}{base:Heap}{x:Str}{st:Stmt}{N ps:List Str}{k:Nat}{sp:Sp}(F:FO K mg x st)(S:FnScope N ps (defScope st))(hb:∀(kV doc pm:Value) (an:Option Addr) (cdv ct:Value) (us:List Value),us.length=ps.length->bindArgs (PySem.W.fnOf x x (defArgs st) (defBody st) (defScope st) .none kV doc pm an cdv ct) ⟨us,[]⟩=pure (ps.zip us))(len:∀vs H Q E,sp vs H Q E->vs.length=ps.length)(hbody:∀(f:Addr) (cdv:Value) (A:Around) (outer:List Env) (s:Shared) (H:Hp) (vs:List V) (Q:VK) (E:XK),Room k (A.deeper (envOfC x (defScope st) s.heap.objs.size f cdv))->sp vs H Q E →
   ∃t,PSs (cxD P w K mg base N x (defScope st) f cdv A outer s H E) (defBody st) t/\t { nx:=fun _ H'=>Q .non H',rt:=Q } (start N vs) H):FnX P w K mg base (k+1) x ps sp:=by
 obtain⟨f,fd,F,hm⟩:=F.out;exact⟨f,fd,F.okX S len (hbody f),hm,F.kp,F.binds hb⟩
section
variable {P:Program}{w:World}{K:PySem.W.Frag}{mg:Str->Option Value}{base:Heap}{N:List Str}{qual:Str}{scope:Scope}{f:Addr}{cd:Value}{A:Around}{outer:List Env}{s₀:Shared}{H₀:Hp}{E:XK}
theorem lc0X{y:Str}{yp pos:Pos}{iter elt:Expr}{ifs:List Expr}{sc:Scope}{wi:TI}{tt:TT}{te:TE}(hi:PI (cxD P w K mg base N qual scope f cd A outer s₀ H₀ E) (.Name y yp) iter wi)(ht:∀xe s H fp,PTs (compCxE (cxD P w K mg base N qual scope f cd A outer s₀ H₀ E) xe [y] sc [] s H fp) ifs tt)(he:∀xe s H fp,Passes (CXd P w) (compCxE (cxD P w K mg base N qual scope f cd A outer s₀ H₀ E) xe [y] sc [] s H fp) E->PE (compCxE (cxD P w K mg base N qual scope f cd A outer s₀ H₀ E) xe [y] sc [] s H fp) elt te)(S:CompSc sc:=by exact⟨rfl,by decide +kernel,by decide +kernel⟩)(C:Caps (cxD P w K mg base N qual scope f cd A outer s₀ H₀ E) sc [] []:=by exact caps0 (by decide +kernel))(hg:∀xe s H fp,PG (compCxE (cxD P w K mg base N qual scope f cd A outer s₀ H₀ E) xe [y] sc [] s H fp) (.Name y yp) (gName 0):=by exact fun _ _ _ _=>xAce (nd1) rfl (.inl rfl) (.inr rfl))(hs:∀x,foldedSetIterable iter (envOfC qual scope s₀.heap.objs.size f cd) x=pure x:=by exact fun _=>rfl) :
  PE (cxD P w K mg base N qual scope f cd A outer s₀ H₀ E) (.ListComp elt [⟨.Name y yp,iter,ifs,0⟩] sc pos) (tLC [y] [] wi (gName 0) tt te):=xAmo (own:=[y]) (fr:=[]) hi S C hg (fun _=>xAby rfl) ht he hs
theorem xApn{i:Nat}{y:Str}{py spos:Pos}{elt tg iter:Expr}{ifs:List Expr}{sc:Scope}{pos:Pos}{own:List Str}{fr:List (Str×Nat)}{cl:List (Str×Addr)}{wi:TI}{g:TG}{tt:TT}{te:TE}(hN:N.Nodup)(hy:N[i]?=some y)(hx:Loc scope y)(hi:PI (cxD P w K mg base N qual scope f cd A outer s₀ H₀ E) tg iter wi)(S:CompSc sc)(C:Caps (cxD P w K mg base N qual scope f cd A outer s₀ H₀ E) sc cl fr)(hg:∀xe s H fp,PG (compCxE (cxD P w K mg base N qual scope f cd A outer s₀ H₀ E) xe (own++fr.map (·.1)) sc cl s H fp) tg g)(hfr:∀σ,Fresh g (compSt own fr σ))(ht:∀xe s H fp,PTs (compCxE (cxD P w K mg base N qual scope f cd A outer s₀ H₀ E) xe (own++fr.map (·.1)) sc cl s H fp) ifs tt)(he:∀xe s H fp,Passes (CXd P w) (compCxE (cxD P w K mg base N qual scope f cd A outer s₀ H₀ E) xe (own++fr.map (·.1)) sc cl s H fp) E->PE (compCxE (cxD P w K mg base N qual scope f cd A outer s₀ H₀ E) xe (own++fr.map (·.1)) sc cl s H fp) elt te)(hs:∀x,foldedSetIterable iter (envOfC qual scope s₀.heap.objs.size f cd) x=pure x:=by intro _;rfl)(hsw:swapsWith (.ListComp elt [⟨tg,iter,ifs,0⟩] sc pos) (some (.Name y py)) spos.line (envOfC qual scope s₀.heap.objs.size f cd)=pure true:=by rfl) :
  PS (cxD P w K mg base N qual scope f cd A outer s₀ H₀ E) (.Assign [.Name y py] (.ListComp elt [⟨tg,iter,ifs,0⟩] sc pos) spos) (tAsg (tLC own fr wi g tt te) (gName i)):=by
 refine⟨?_⟩;intro pins s σ H D I h;show wpAny _ _ (exec _ (envOfC qual scope s₀.heap.objs.size f cd)) _ _ s;rw[exec_Assign_Name_used _ _ _ _ hsw];refine wpAny_bind (wpAny_standAt (wpAny_bind ?_));show wpAny _ (A.deeper (envOfC qual scope s₀.heap.objs.size f cd)) (do let _ ←comprehension (.ListComp elt [⟨tg,iter,ifs,0⟩] sc pos) sc (envOfC qual scope s₀.heap.objs.size f cd) _ (newList []) false (eval iter (envOfC qual scope s₀.heap.objs.size f cd)) (some (assign (.Name y py) (envOfC qual scope s₀.heap.objs.size f cd)))) _ _ s
 refine wpAny_bind (thn (wpAny_comprehension_free (use:=some (assign (.Name y py) (envOfC qual scope s₀.heap.objs.size f cd))) (Q:=fun _ s'=>SP (cxD P w K mg base N qual scope f cd A outer s₀ H₀ E) pins D .next s') rfl hs C.clos S.kind S.nms
  (thn (hi pins s σ H _ I h) fun xv s1 h1=>thn h1 fun itv s2 h2=>?_)) fun _ s' hq=>wpAny_pure (wpAny_pure hq))
 obtain⟨it,fp,tn,J,H2,e,I2,T,st2,f2,hW⟩:=h2;subst e
 refine xAdm (X:=cxD P w K mg base N qual scope f cd A outer s₀ H₀ E) (xe:=xeC (cxD P w K mg base N qual scope f cd A outer s₀ H₀ E) (some (assign (.Name y py) (envOfC qual scope s₀.heap.objs.size f cd))) (fun _ s'=>SP (cxD P w K mg base N qual scope f cd A outer s₀ H₀ E) pins D .next s') (.ref s2.heap.objs.size) sc cl s2)
  (RR:=fun acc A'=>compPost (model P w) (cxD P w K mg base N qual scope f cd A outer s₀ H₀ E).A (cxD P w K mg base N qual scope f cd A outer s₀ H₀ E).xe (some (assign (.Name y py) (envOfC qual scope s₀.heap.objs.size f cd))) (fun _ s'=>SP (cxD P w K mg base N qual scope f cd A outer s₀ H₀ E) pins D .next s') acc A') rfl S C (hg _) hfr (ht _) (he _ _ _ _ (passC I2 f2)) I2 T st2 f2 hW (fun s5 H4 ys us I5 hv hz fin=>?_) fun _ _ f=>f
 have I5:=I5.unwish;obtain⟨m5,hn5,_⟩:=id I5.loc;have nD:H4 s2.heap.objs.size=none:=(I5.pin (s2.heap.objs.size,accObj us) (List.mem_append_right _ (by simp))).2.1;have nC:H4 (s2.heap.objs.size+1)=none:=I5.free;have I6:Inv (cxD P w K mg base N qual scope f cd A outer s₀ H₀ E) pins σ (upd H4 s2.heap.objs.size (.lst ys)) s5:=I2.unblock f2 I5 hv hz (Heap.SameBut.refl _ _);show wpAny _ (A.deeper (envOfC qual scope s₀.heap.objs.size f cd)) (assign (.Name y py) (envOfC qual scope s₀.heap.objs.size f cd) (.ref s2.heap.objs.size)) _ _ s5;refine wpAny_assign_Name (xAeg (v:=.ref s2.heap.objs.size) I6 hN hy hx rfl (fun s7 I7 ⟨a,hsb,ha⟩=>?_) (.inl rfl));have Clt:s2.heap.objs.size<s2.heap.objs.size+1:=vo _;have neL:s2.heap.objs.size+1≠s₀.heap.objs.size:=zq (wy I2.lt Clt)
 have neCell:∀x c,(envOfC qual scope s₀.heap.objs.size f cd).cells.lookup x=some c->c≠s2.heap.objs.size+1:=fun x c e=>by
  obtain⟨v',q⟩:=I2.cell x c e;exact qi (wy q.lt Clt)
 have neA:s2.heap.objs.size+1≠a:=by
  rcases ha with rfl|ha
  ·exact neL
  ·exact Ne.symm (neCell _ _ ha)
 refine⟨m5,hn5.sameBut hsb neA,fun h' hs'=>⟨_,_,?_,fin _ nD⟩⟩
 exact I7.turned (it:=s2.heap.objs.size+1) (t':=s7.toks) (fun b o hb e=>hs'.extBut b o hb e) (by rw[xAal (zq Clt)];exact nC) neL (.inr (qf I2.sz (qg Clt))) neCell fun p hp z=>by
  have q:=Heap.lt_size (I2.pin p hp).1;rw[z]at q;exact absurd (wy Clt q) (zu _)
end
section
variable {M:Model}{A:Around}{E:Value->Shared->Prop}
variable {nm q nm' q':Str}{C C' N N':Addr}{bs bm bs' bm':List Value}{hdct hdct':Bool}{sn sn':List Str}{sub sub':List Value}{ab ab':Bool}{col col':Option Bool}{dd dd':Option Addr}{k0 k1 k2 k3 k5 k0' k1' k2' k3' k5':Option Value}{newId newId':String}
theorem xAcs{h:Heap}{g:Array GenState}{d:Drawn}{t:Nat}{os:OsState}{e:Addr}{oe:Obj}{Q:Bool->Shared->Prop}{b:Bool}(hC:h.get? C=some (excClassObj nm q C N bs bm hdct sn sub ab col dd k0 k1 k2 k3 k5 newId))(hC':h.get? C'=some (excClassObj nm' q' C' N' bs' bm' hdct' sn' sub' ab' col' dd' k0' k1' k2' k3' k5' newId'))(he:h.get? e=some oe)(hcls:oe.cls=.ref C)(hbase:bm'.contains (.type "BaseException")=true)(hb:(Value.ref C::bm).contains (.ref C')=b)(hq:Q b ⟨h,g,d,t,os⟩):wpAny M A (excMatches (.ref e) (.ref C')) Q E ⟨h,g,d,t,os⟩:=by
 have hcB:(Value.ref C'::bm').contains (.type "BaseException")=true:=by rw[List.contains_cons,hbase,Bool.or_true]
 have f:=tc_notTuple;unfold excMatches
 repeat (first|(with_reducible refine wpAny_loadPart_at he ?_;rw[hcls])|with_reducible refine wpAny_loadPart_at hC' ?_|(with_reducible refine wpAny_isSubtype_exc hC' ?_;rw[hcB])|(with_reducible refine wpAny_isSubtype_exc hC ?_;rw[hb])|wp_step)
 cases b <;> (wp_walk;exact hq)
end
def XeP(X:Cx)(pins:List (Addr×Obj))(σ:St)(E:XK)(e:Value)(s':Shared):Prop:=∃H1 s1,Inv X pins σ H1 s1/\Flew X.prog X.w X.stack H1 s1 E e s'
section
variable {X:Cx}{k n:Nat}{x:Str}{ps:List Str}{sp:Sp}{p pos:Pos}{e:Expr}{es:List Expr}{t:TA}{E:XK}{pins:List (Addr×Obj)}{σ:St}{H:Hp}{s:Shared}{Q:VK}
theorem xAoc(F:FnX X.prog X.w X.K X.mg X.base k x ps sp)(hr:Room n X.A)(ha:PA X.nox (e::es) t)(I:Inv X pins σ H s)(h:tCall sp [] E t σ H Q)(hk:k≤n)(hg:Gl X x)(hdb:(x==("__debug__":Str))=false)(he:St1 X e)(hpl:(backTo pos (starEach es X.env)).any (·.1)=false) :
  wpAny (model X.prog X.w) X.A (eval (.Call (.Name x p) (e::es) [] pos) X.env) (EP X pins σ Q) (XeP X pins σ E) s:=by
 obtain⟨f,fd,F,hm,hkp,hb⟩:=F.out;refine wpAny_Call_Name_kw (xAdi I hg hm ?_ hdb);refine PySem.W.callWith_K (h₀:=X.base) I.ok.mod.kin hkp (wpAny_mono (ha pos pins s σ H _ (I.wish _) h) (fun us s1 ⟨vs,H1,I1,r,q⟩=>⟨I1.kIn,?_⟩) fun _ _ z=>False.elim z) (he _) hpl;have I1:=I1.unwish;have r2:Vals (vs++[]) (us++[]):=r.append .nil
 have hl:(us++[]).length=ps.length:=by rw[←r2.length];exact F.len _ _ _ _ q
 refine wpAny_call (codeAny_mono (F.run X.A X.stack s1 H1 ⟨us,[]⟩ (us++[]) (vs++[]) Q E (hr.mono hk) I1.env0 (hb s1 us I1.kIn hl) r2 q) fun r s' hq=>?_)
 cases r with
 |error e=>exact⟨H1,s1,I1,hq⟩
 |ok fl =>
  cases fl with
  |ret u=>exact I1.after hq
  |next=>exact False.elim hq
  |brk=>exact False.elim hq
  |cont=>exact False.elim hq
end
abbrev Cx.mrk(X:Cx)(a:Addr):Cx:={ X with A:=X.A.mark (some (.ref a)),calm:=false,xe:=fun _ _=>False }
theorem Inv.mrk{X:Cx}{pins:List (Addr×Obj)}{σ:St}{H:Hp}{s:Shared}(I:Inv X pins σ H s)(a:Addr):Inv (X.mrk a) pins σ H s:=by
 obtain⟨ok,r1,r2,r3,r4,r5,r6,r7,r8,r9,r10⟩:=I;exact⟨⟨ok.mod,ok.kind,ok.glob,ok.blt,ok.above,ok.inj,ok.has,ok.cab,fun z=>(by cases z),ok.frames,ok.stk,ok.exf,ok.bs,ok.bsz,ok.noex,ok.exfs,ok.funs,ok.frf⟩,r1,r2,r3,r4,r5,r6,r7,r8,r9,r10⟩
theorem Inv.unmrk{X:Cx}{pins:List (Addr×Obj)}{σ:St}{H:Hp}{s:Shared}{a:Addr}(ok:X.Ok)(I:Inv (X.mrk a) pins σ H s):Inv X pins σ H s:=by
 obtain⟨_,r1,r2,r3,r4,r5,r6,r7,r8,r9,r10⟩:=I;exact⟨ok,r1,r2,r3,r4,r5,r6,r7,r8,r9,r10⟩
theorem SP.unmrk{X:Cx}{pins:List (Addr×Obj)}{a:Addr}{D:Ends}{f:Flow}{s':Shared}(ok:X.Ok)(h:SP (X.mrk a) pins D f s'):SP X pins D f s':=by
 cases f with
 |next=>obtain⟨σ',H',I,q⟩:=h;exact⟨σ',H',I.unmrk ok,q⟩
 |brk=>obtain⟨σ',H',I,q⟩:=h;exact⟨σ',H',I.unmrk ok,q⟩
 |cont=>obtain⟨σ',H',I,q⟩:=h;exact⟨σ',H',I.unmrk ok,q⟩
 |ret u=>obtain⟨v,σ',H',I,r,q⟩:=h;exact⟨v,σ',H',I.unmrk ok,r,q⟩
theorem Un.track{fs ex:List Addr}{H H':Hp}{h h':Heap}{a:Addr}{o:HO}(u:Un fs ex H H' h h')(hn:h.get? a=none)(hn':H' a=none):Un fs ex H (upd H' a o) h h' where
 keep:=u.keep
 slot:=u.slot
 free b ob e n hx:=by rw[xAal (fun z=>by subst z;rw[hn]at e;cases e)];exact u.free b ob e n hx
 there:=u.there
 tups b xs e:=by have q:=u.tups b xs e;rw[xAal (xAaj q hn')];exact q
 frzs b ob v e:=by have q:=u.frzs b ob v e;rw[xAal (xAaj q hn')];exact q
 tbls b ps e:=by obtain⟨more,q⟩:=u.tbls b ps e;exact⟨more,by rw[xAal (xAaj q hn')];exact q⟩
 tupo:=u.tupo
def Abv(K:PySem.W.Frag)(C0 C:Addr):Prop:=∃oc od cd sl,K.lookup C0=some ⟨oc,od,.cls cd,sl⟩/\cd.mro.contains (.ref C)=true
def excO(a C0:Addr):HO:=.ext fun h=>∃o,h.get? a=some o/\o.cls=.ref C0
section
variable {X:Cx}{pins:List (Addr×Obj)}{σ:St}{s':Shared}{D:Ends}{e:Value}{C0 C:Addr}{W:Hp->Prop}{y:Str}{np hpos:Pos}{b₀:Stmt}{suite:List Stmt}{th:TS}
theorem xApo(hs:X.stack=X.env::X.outer)(hf:X.env.frame=some X.env.locals)(xc0:XC X.K C0)(xc:XC X.K C)(ab:Abv X.K C0 C)(hm:X.mg y=some (.ref C))(hg:Gl X y)(hd:(y==("__debug__":Str))=false)(hth:∀a,PSs (X.mrk a) (b₀::suite) th)(hq:XeP X pins σ (fun cls _ H'=>cls=.ref C0/\W H') e s')(hW:∀H' a,W H'->H' a=none->th D σ (upd H' a (excO a C0))) :
  wpAny (model X.prog X.w) X.A (noteFrame e X.env) (fun _ s₂=>wpAny (model X.prog X.w) X.A (setFlight e none) (fun _ s₃ =>
   wpAny (model X.prog X.w) X.A (handleBy e X.env [.ExceptHandler (some (.Name y np)) none (b₀::suite) hpos]) (SP X pins D) X.xe s₃) X.xe s₂) X.xe s':=by
 obtain⟨H1,s1,I1,a,cls,H',rfl,os,bare,un,hok,⟨B,a0,fl,k⟩,rfl,q⟩:=hq;have hX:X.A.frames=some (X.env::X.outer):=I1.ok.frames.trans (by rw[hs]);rw[hs]at fl;have kD:∀b o,s1.heap.get? b=some o->b∉([]:List Addr)->In s1.heap b:=fun b o e _=>⟨o,e⟩
 have na:s1.heap.get? a=none/\H' a=none:=by
  have nf:a∉frs X.stack:=fun z=>by
   obtain⟨oe,vs,T,oT,ts,he,_,hdd,_⟩:=fl.2.2.2
   have J:Inv X pins σ H' s':=I1.call' os un hok bare fun b z=>absurd z (by simp)
   obtain⟨_,o',ho',hn⟩:=J.stack.mem z;rw[he]at ho';cases ho';exact hn vs hdd
  obtain⟨ob,hob,_⟩:=fl.there;constructor
  ·cases z:s1.heap.get? a with
   |none=>rfl
   |some o=>have:=k a ob hob nf (.inr ⟨o,z⟩);rw[fl.2.1]at this;cases this
  ·cases z:H' a with
   |none=>rfl
   |some o=>have:=k a ob hob nf (.inl ⟨o,z⟩);rw[fl.2.1]at this;cases this
 refine wpAny_looks_onW hX hf fl fun h4 held up4=>?_;refine wpAny_landsW held fun h5 fl5 up5=>?_;have J5:Inv X pins σ H' { s' with heap:=h5 }:=I1.overB os bare un hok k kD fl5.1 (.of (up4.trans up5)) (fun b z=>absurd z (by simp));obtain⟨ob,hob,hobc⟩:=fl5.there;refine wpAny_handleBy_cons (codeAny_handlers_test (xAdi (X:=X.mrk a) (J5.mrk a) hg hm ?_ hd)) (by intro q;cases q);obtain⟨tl,Na,nm,qn,bs,hdct,sn,sub,ab',col,dd,k0,k1,k2,k3,k5,mN,hC,hN,hni,T⟩:=xc0.obj J5.kIn;obtain⟨tl',Na',nm',qn',bs',hdct',sn',sub',ab'',col',dd',k0',k1',k2',k3',k5',mN',hC',hN',hni',T'⟩:=xc.obj J5.kIn
 have hmro:(Value.ref C0::tl).contains (.ref C)=true:=by
  obtain⟨oc,od,cd,sl,l1,l2⟩:=ab;have:=J5.kIn _ _ l1;rw[hC]at this;unfold excClassObj at this;cases this;exact l2
 refine xAcs hC hC' hob hobc (T'.hasType PySem.F.excBase_ValueError.hasBase) hmro (codeAny_handlers_suite ?_);refine lands_againW fl5 fun h6 fl6 up6=>?_;have J6:Inv X pins σ H' { s' with heap:=h6 }:=I1.overB os bare un hok k kD fl6.1 (.of ((up4.trans up5).trans up6)) (fun b z=>absurd z (by simp));obtain⟨ob6,hob6,hobc6⟩:=fl6.there
 have J:Inv X pins σ H' s':=I1.call' os un hok bare fun b z=>absurd z (by simp)
 have k2:Safe (frs X.stack) H' (In s1.heap) s'.heap h6:=fun b o e n x=>fl6.1 b o (k b o e n x)
 have u6:Un (frs X.stack) [] H1 H' s1.heap h6:=un.over k2 kD I1.stkFree fun b hb o e=>by
  obtain⟨_,o',ho',hd⟩:=J.stack.mem hb;rw[e]at ho';cases ho';exact((up4.trans up5).trans up6) b o e hd
 have J7:Inv X pins σ (upd H' a (excO a C0)) { s' with heap:=h6 }:=I1.call' (s':={ s' with heap:=h6 }) os (u6.track na.1 na.2)
  (J6.hok.track na.2 ⟨⟨ob6,hob6,hobc6⟩,⟨ob6,hob6⟩,fun h1 h2 ⟨o,e,c⟩ kk=>⟨o,kk o e,c⟩⟩) bare fun b z=>absurd z (by simp)
 exact wpAny_mono (hth a pins _ σ _ D (J7.mrk a) (hW H' a q na.2)) (fun f s2 h2=>h2.unmrk J6.ok) fun _ _ z=>False.elim z
end
def Ends.less(D:Ends)(i:Nat):Ends:={ nx:=fun σ H=>D.nx (σ.set i none) H,rt:=D.rt,bk:=fun σ H=>D.bk (σ.set i none) H,ct:=fun σ H=>D.ct (σ.set i none) H }
section
variable {X:Cx}{pins:List (Addr×Obj)}{σ:St}{H:Hp}{s:Shared}
theorem xAdf{M:Model}{A:Around}{E:Value->Shared->Prop}{i:Nat}{x:Str}{pos:Pos}{Q:Unit->Shared->Prop}(I:Inv X pins σ H s)(hN:X.N.Nodup)(hi:X.N[i]?=some x)(hk:X.env.scope.names.lookup x=some .local)(h:∀s',Inv X pins (σ.set i none) H s'->Q () s'):wpAny M A (do bindName X.env x .none;unbindBehindTheSuite X.env x pos) Q E s:=by
 obtain⟨m,hn,hl⟩:=id I.loc
 have hcls:(X.env.scope.kind==.class||(X.env.scope.kind==.module&&X.env.locals != X.env.globals))=false:=by rw[I.ok.kind];rfl
 have cne:=I.cne;refine wpAny_nameGoes_keeps hk hn hcls fun h' v hn' hs=>?_;have bn:∀b o,X.s₀.heap.get? b=some o->b≠X.env.locals:=fun b o e=>qi (ze (Heap.lt_size e) I.ok.above);refine h _ ⟨I.ok,I.os,I.bare,⟨fun b o e n hb hx=>(hs.2 b (bn b o e)).trans (I.base.keep b o e n hb hx),fun b o e n hb hx=>?_,I.base.free,fun b o e hx=>?_,I.base.tups,I.base.frzs,I.base.tbls,fun b o xs e n=>(hs.2 b (bn b o e)).trans (I.base.tupo b o xs e n)⟩,⟨_,hn',fun j y v' e1 e2 e3=>?_⟩,fun y c e=>?_,I.free,I.freeC,fun p hp=>?_,fun b ob e=>?_,by simpa using I.len⟩
 ·obtain⟨sl,e1⟩:=I.base.slot b o e n hb hx
  exact⟨sl,(hs.2 b (bn b o e)).trans e1⟩
 ·obtain⟨o',e1⟩:=I.base.there b o e hx
  exact⟨o',(hs.2 b (bn b o e)).trans e1⟩
 ·by_cases hj:j=i
  ·subst hj
   rw[List.getElem?_set]at e2
   split at e2
   ·split at e2 <;> cases e2
   ·exact absurd rfl ‹_›
  ·rw[vk (Ne.symm hj)]at e2
   obtain⟨u',r',q⟩:=hl j y v' e1 e2 e3;refine⟨u',r',?_⟩;rcases q with⟨k,e⟩|⟨k,c,e,z⟩
   ·refine .inl ⟨k,?_⟩
    have:y≠x:=fun e=>hj (xAfm hN e1 (e▸hi))
    simp[this,e]
   ·exact .inr ⟨k,c,e,z.sameBut hs (cne y c e)⟩
 ·obtain⟨w',z⟩:=I.cell y c e
  exact⟨w',z.sameBut hs (cne y c e)⟩
 ·obtain⟨e,n,ne,nf,d⟩:=I.pin p hp
  exact⟨(hs.2 p.1 ne).trans e,n,ne,nf,d⟩
 ·refine(I.hok b ob e).stay (fun c w' hc q=>(hs.2 c ?_).trans q) (fun _ q=>q) fun _ _ q=>q
  rintro rfl;rcases hc with rfl|hc
  ·rw[I.free]at e;cases e
  ·rw[I.free]at hc;cases hc
theorem xAsn{M:Model}{A:Around}{E:Value->Shared->Prop}{i:Nat}{x:Str}{pos:Pos}{D:Ends}{f:Flow}(hN:X.N.Nodup)(hi:X.N[i]?=some x)(hk:X.env.scope.names.lookup x=some .local)(ok:X.Ok)(h:SP X pins (D.less i) f s) :
  wpAny M A (do bindName X.env x .none;unbindBehindTheSuite X.env x pos) (fun _ s'=>SP X pins D f s') E s:=by
 cases f with
 |next=>obtain⟨σ',H',I,q⟩:=h;exact xAdf I hN hi hk fun s' I'=>⟨_,H',I',q⟩
 |brk=>obtain⟨σ',H',I,q⟩:=h;exact xAdf I hN hi hk fun s' I'=>⟨_,H',I',q⟩
 |cont=>obtain⟨σ',H',I,q⟩:=h;exact xAdf I hN hi hk fun s' I'=>⟨_,H',I',q⟩
 |ret u=>obtain⟨v,σ',H',I,r,q⟩:=h;exact xAdf I hN hi hk fun s' I'=>⟨v,_,H',I',r,q⟩
end
section
variable {X:Cx}{pins:List (Addr×Obj)}{σ:St}{s':Shared}{D:Ends}{e:Value}{C0 C:Addr}{W:Hp->Prop}{y:Str}{np hpos:Pos}{b₀:Stmt}{suite:List Stmt}{th:TS}
theorem xApp{i:Nat}{n:Str}(hN:X.N.Nodup)(hi:X.N[i]?=some n)(hl:X.env.scope.names.lookup n=some .local)(hs:X.stack=X.env::X.outer)(hf:X.env.frame=some X.env.locals)(xc0:XC X.K C0)(xc:XC X.K C)(ab:Abv X.K C0 C)(hm:X.mg y=some (.ref C))(hg:Gl X y)(hd:(y==("__debug__":Str))=false)(hth:∀a,PSs (X.mrk a) (b₀::suite) th)(hq:XeP X pins σ (fun cls _ H'=>cls=.ref C0/\W H') e s')(hW:∀H' a,W H'->H' a=none->th (D.less i) (σ.set i (some (.ref a))) (upd H' a (excO a C0))) :
  wpAny (model X.prog X.w) X.A (noteFrame e X.env) (fun _ s₂=>wpAny (model X.prog X.w) X.A (setFlight e none) (fun _ s₃ =>
   wpAny (model X.prog X.w) X.A (handleBy e X.env [.ExceptHandler (some (.Name y np)) (some n) (b₀::suite) hpos]) (SP X pins D) X.xe s₃) X.xe s₂) X.xe s':=by
 obtain⟨H1,s1,I1,a,cls,H',rfl,os,bare,un,hok,⟨B,a0,fl,k⟩,rfl,q⟩:=hq;have hX:X.A.frames=some (X.env::X.outer):=I1.ok.frames.trans (by rw[hs]);rw[hs]at fl;have kD:∀b o,s1.heap.get? b=some o->b∉([]:List Addr)->In s1.heap b:=fun b o e _=>⟨o,e⟩
 have na:s1.heap.get? a=none/\H' a=none:=by
  have nf:a∉frs X.stack:=fun z=>by
   obtain⟨oe,vs,T,oT,ts,he,_,hdd,_⟩:=fl.2.2.2
   have J:Inv X pins σ H' s':=I1.call' os un hok bare fun b z=>absurd z (by simp)
   obtain⟨_,o',ho',hn⟩:=J.stack.mem z;rw[he]at ho';cases ho';exact hn vs hdd
  obtain⟨ob,hob,_⟩:=fl.there;constructor
  ·cases z:s1.heap.get? a with
   |none=>rfl
   |some o=>have:=k a ob hob nf (.inr ⟨o,z⟩);rw[fl.2.1]at this;cases this
  ·cases z:H' a with
   |none=>rfl
   |some o=>have:=k a ob hob nf (.inl ⟨o,z⟩);rw[fl.2.1]at this;cases this
 refine wpAny_looks_onW hX hf fl fun h4 held up4=>?_;refine wpAny_landsW held fun h5 fl5 up5=>?_;have J5:Inv X pins σ H' { s' with heap:=h5 }:=I1.overB os bare un hok k kD fl5.1 (.of (up4.trans up5)) (fun b z=>absurd z (by simp));obtain⟨ob,hob,hobc⟩:=fl5.there;refine wpAny_handleBy_cons (codeAny_handlers_test (xAdi (X:=X.mrk a) (J5.mrk a) hg hm ?_ hd)) (by intro q;cases q);obtain⟨tl,Na,nm,qn,bs,hdct,sn,sub,ab',col,dd,k0,k1,k2,k3,k5,mN,hC,_,_,T⟩:=xc0.obj J5.kIn;obtain⟨tl',Na',nm',qn',bs',hdct',sn',sub',ab'',col',dd',k0',k1',k2',k3',k5',mN',hC',_,_,T'⟩:=xc.obj J5.kIn
 have hmro:(Value.ref C0::tl).contains (.ref C)=true:=by
  obtain⟨oc,od,cd,sl,l1,l2⟩:=ab;have:=J5.kIn _ _ l1;rw[hC]at this;unfold excClassObj at this;cases this;exact l2
 refine xAcs hC hC' hob hobc (T'.hasType PySem.F.excBase_ValueError.hasBase) hmro (codeAny_handlers_suite_as ?_);refine lands_againW fl5 fun h6 fl6 up6=>?_;have J6:Inv X pins σ H' { s' with heap:=h6 }:=I1.overB os bare un hok k kD fl6.1 (.of ((up4.trans up5).trans up6)) (fun b z=>absurd z (by simp));obtain⟨ob6,hob6,hobc6⟩:=fl6.there
 have J:Inv X pins σ H' s':=I1.call' os un hok bare fun b z=>absurd z (by simp)
 have k2:Safe (frs X.stack) H' (In s1.heap) s'.heap h6:=fun b o e n x=>fl6.1 b o (k b o e n x)
 have u6:Un (frs X.stack) [] H1 H' s1.heap h6:=un.over k2 kD I1.stkFree fun b hb o e=>by
  obtain⟨_,o',ho',hd⟩:=J.stack.mem hb;rw[e]at ho';cases ho';exact((up4.trans up5).trans up6) b o e hd
 have J7:Inv X pins σ (upd H' a (excO a C0)) { s' with heap:=h6 }:=I1.call' (s':={ s' with heap:=h6 }) os (u6.track na.1 na.2)
  (J6.hok.track na.2 ⟨⟨ob6,hob6,hobc6⟩,⟨ob6,hob6⟩,fun h1 h2 ⟨o,e,c⟩ kk=>⟨o,kk o e,c⟩⟩) bare fun b z=>absurd z (by simp)
 refine xAeh (v:=.ref a) J7 hN hi (.inl hl) rfl (fun s8 J8=>?_) (.inr hl);exact wpAny_mono (hth a pins _ _ _ (D.less i) (J8.mrk a) (hW H' a q na.2)) (fun f s2 h2=>xAsn hN hi hl J6.ok (h2.unmrk J6.ok)) fun _ _ z=>False.elim z
end
section
variable {X:Cx}{k n i:Nat}{x y z:Str}{ps:List Str}{sp:Sp}{p pos np hpos apos zp tpos:Pos}{e:Expr}{es:List Expr}{t:TA}{C0 C:Addr}{b₀:Stmt}{suite:List Stmt}{th:TS}
def tTryA(C0:Addr)(sp:Sp)(i:Nat)(t:TA)(th:TS):TS:=fun D σ H=>tCall sp [] (fun cls _ H'=>cls=.ref C0/\∀a,H' a=none->th D σ (upd H' a (excO a C0))) t σ H fun v H1=>D.nx (σ.set i (some v)) H1
theorem xAso(F:FnX X.prog X.w X.K X.mg X.base k x ps sp)(hr:Room n X.A)(xc0:XC X.K C0)(xc:XC X.K C)(ab:Abv X.K C0 C)(hm:X.mg y=some (.ref C))(hN:X.N.Nodup)(i:Nat)(ha:PA X.nox (e::es) t)(hth:∀a,PSs (X.mrk a) (b₀::suite) th)(hk:k≤n:=by decide)(hi:X.N[i]?=some z:=by exact rfl)(hz:X.env.scope.names.lookup z=some .local:=by exact rfl)(hs:X.stack=X.env::X.outer:=by exact rfl)(hf:X.env.frame=some X.env.locals:=by exact rfl)(hg:Gl X x:=by exact rfl)(hgy:Gl X y:=by exact rfl)(hd:(x==("__debug__":Str))=false:=by exact rfl)(hdy:(y==("__debug__":Str))=false:=by exact rfl)(he:St1 X e:=by exact fun _=>rfl)(hpl:(backTo pos (starEach es X.env)).any (·.1)=false:=by exact rfl)(hsw:swapsWith (.Call (.Name x p) (e::es) [] pos) (some (.Name z zp)) apos.line X.env=pure false:=by exact rfl) :
  PS X (.Try [.Assign [.Name z zp] (.Call (.Name x p) (e::es) [] pos) apos] [.ExceptHandler (some (.Name y np)) none (b₀::suite) hpos] [] [] tpos) (tTryA C0 sp i t th):=by
 refine⟨?_⟩;intro pins s σ H D I h;refine wpAny_Try_except (wpAny_execs_cons (wpAny_Assign_Name (wpAny_mono (xAoc F hr ha I h hk hg hd he hpl) (fun v s1 ⟨u,H1,I1,r1,q1⟩=>?_) fun e' s1 hq=>?_) hsw))
 ·exact xAeh I1 hN hi (.inl hz) r1 (fun s2 I2=>wpAny_execs_nil (wpAny_execs_nil ⟨_,H1,I2,q1⟩)) (.inr hz)
 ·exact xApo hs hf xc0 xc ab hm hgy hdy hth hq fun H' a hW hn=>hW a hn
def tTryE(C0:Addr)(sp:Sp)(i:Nat)(t:TA)(th:TS):TS:=fun D σ H=>tCall sp [] (fun cls _ H'=>cls=.ref C0/\∀a,H' a=none->th (D.less i) (σ.set i (some (.ref a))) (upd H' a (excO a C0))) t σ H fun _ H1=>D.nx σ H1
theorem xAsp(F:FnX X.prog X.w X.K X.mg X.base k x ps sp)(hr:Room n X.A)(xc0:XC X.K C0)(xc:XC X.K C)(ab:Abv X.K C0 C)(hm:X.mg y=some (.ref C))(hN:X.N.Nodup)(i:Nat)(ha:PA X.nox (e::es) t)(hth:∀a,PSs (X.mrk a) (b₀::suite) th)(hk:k≤n:=by decide)(hi:X.N[i]?=some z:=by exact rfl)(hz:X.env.scope.names.lookup z=some .local:=by exact rfl)(hs:X.stack=X.env::X.outer:=by exact rfl)(hf:X.env.frame=some X.env.locals:=by exact rfl)(hg:Gl X x:=by exact rfl)(hgy:Gl X y:=by exact rfl)(hd:(x==("__debug__":Str))=false:=by exact rfl)(hdy:(y==("__debug__":Str))=false:=by exact rfl)(he:St1 X e:=by exact fun _=>rfl)(hpl:(backTo pos (starEach es X.env)).any (·.1)=false:=by exact rfl)(hsw:swapsWith (.Call (.Name x p) (e::es) [] pos) none apos.line X.env=pure false:=by exact rfl) :
  PS X (.Try [.Expr (.Call (.Name x p) (e::es) [] pos) apos] [.ExceptHandler (some (.Name y np)) (some z) (b₀::suite) hpos] [] [] tpos) (tTryE C0 sp i t th):=by
 refine⟨?_⟩;intro pins s σ H D I h;refine wpAny_Try_except (wpAny_execs_cons (wpAny_Expr_any (wpAny_mono (xAoc F hr ha I h hk hg hd he hpl) (fun v s1 ⟨u,H1,I1,r1,q1⟩=>?_) fun e' s1 hq=>?_) I.quiet hsw))
 ·exact wpAny_execs_nil (wpAny_execs_nil ⟨_,H1,I1,q1⟩)
 ·exact xApp hN hi hz hs hf xc0 xc ab hm hgy hdy hth hq fun H' a hW hn=>hW a hn
end
structure Shy(z:Str):Prop where
 len:z.length≤100000
 lo:∀c∈z.cps.toList,c<16 ^ 8
inductive ItMsg(Q:VK)(x:V)(H:Hp):Prop
 |mk (z:Str) (h0:x=.str z) (h1:Shy z) (h2:∀v,Q v H):ItMsg Q x H
def tMsg(te:TE):TE:=fun σ H Q=>te σ H fun x H1=>ItMsg Q x H1
section
variable {X:Cx}{e:Expr}{te:TE}{p1 p2 pos:Pos}{c:Str}{j:Nat}
theorem xAcl{a b:Str}:(a++b).length=a.length+b.length:=by
 show(a.cps++b.cps).size=a.cps.size+b.cps.size;exact j1
theorem xAds(he:PE X e te)(hc:c.length≤1000:=by decide):PE X (.JoinedStr [.FormattedValue e 114 none p1,.Constant (.str c) j p2] pos) (tMsg te):=by
 refine⟨?_⟩;intro pins s σ H Q I h;refine wpAny_JoinedStr ?_;refine wpAny_FormattedValue_repr (wpAny_mono (he pins s σ H _ I h) (fun v s1 ⟨x,H1,I1,r1,z,hz,sh,q⟩=>?_) fun _ _ e=>e);subst hz;obtain⟨t,rfl⟩:=r1;have hr:=StrLaws.reprText_len z sh.lo;have hl:=sh.len
 have h1:(reprText z).length≤sizeLine:=by rw[sizeLine_eq];omega
 have h2:(Str.empty++reprText z).length≤sizeLine:=by rw[xAcl,sizeLine_eq];show 0+_≤_;omega
 have h3:(Str.empty++reprText z++c).length≤sizeLine:=by rw[xAcl,xAcl,sizeLine_eq];show 0+_+_≤_;omega
 refine wpAny_pyReprObj_str ?_ h1
 have fin:∀(n m:Nat),∃y t,Value.str (reprText z) n=Value.str y t/\(Str.empty++y).length≤sizeLine/\Joins (model X.prog X.w) X.A X.xe (evalEach [.Constant (.str c) j p2] X.env) (Str.empty++y) (fun out s₁=>out.length≤sizeLine/\EP X pins σ Q (.str out s₁.toks) { s₁ with toks:=s₁.toks+1 }) { s1 with toks:=m }:=fun n m=>by
  refine⟨_,_,rfl,h2,?_⟩;refine Calls.Constant_str ?_;exact⟨_,_,rfl,h3,h3,.str _,H1,(I1.tok _),⟨_,rfl⟩,q _⟩
 exact wpAny_formatField_str (fin _ _) (fin _ _) h1
theorem xAsq(he:PE X e te)(hc:c.length≤1000:=by decide):PE X (.JoinedStr [.FormattedValue e (-1) none p1,.Constant (.str c) j p2] pos) (tMsg te):=by
 refine⟨?_⟩;intro pins s σ H Q I h;refine wpAny_JoinedStr ?_;refine wpAny_FormattedValue_plain (wpAny_mono (he pins s σ H _ I h) (fun v s1 ⟨x,H1,I1,r1,z,hz,sh,q⟩=>?_) fun _ _ e=>e);subst hz;obtain⟨t,rfl⟩:=r1;have hl:=sh.len
 have h1:z.length≤sizeLine:=by rw[sizeLine_eq];omega
 have h2:(Str.empty++z).length≤sizeLine:=by rw[xAcl,sizeLine_eq];show 0+_≤_;omega
 have h3:(Str.empty++z++c).length≤sizeLine:=by rw[xAcl,xAcl,sizeLine_eq];show 0+_+_≤_;omega
 have fin:∀(n m:Nat),∃y t,Value.str z n=Value.str y t/\(Str.empty++y).length≤sizeLine/\Joins (model X.prog X.w) X.A X.xe (evalEach [.Constant (.str c) j p2] X.env) (Str.empty++y) (fun out s₁=>out.length≤sizeLine/\EP X pins σ Q (.str out s₁.toks) { s₁ with toks:=s₁.toks+1 }) { s1 with toks:=m }:=fun n m=>by
  refine⟨_,_,rfl,h2,?_⟩;refine Calls.Constant_str ?_;exact⟨_,_,rfl,h3,h3,.str _,H1,(I1.tok _),⟨_,rfl⟩,q _⟩
 exact wpAny_formatField_str (fin _ _) (fin _ _) h1
end
end L2
namespace L2
open PySem PySem.Spec PySem.W PyProof.Rows PySem.Calls Builtin Builtin.ObjectAttr Builtin.Getset_descriptor
section
variable {prog:Program}{w:World}{A:Around}{E:Value->Shared->Prop}{s:Shared}{K:Frag}{x C:Addr}{R:Result->Shared->Prop}
theorem xAkm{tp:Value}(X:K.In s.heap)(L0:Looks (model prog w) s.heap (typeOf (.ref x)) (.ref C))(hm:mroIn K C (.type "object")=some true)(h:R (.ok (.ret (.ref C))) s):codeAny (model prog w) A (.call (.builtin "getset_descriptor.__get__") ⟨[.builtin "object.__class__",.ref x,tp],[]⟩) R s:=by
 obtain⟨hh,g,dr,t,os⟩:=s;have L1:=looks_mroIn (M:=model prog w) X hm;refine codeAny_call_builtin KF.slot_gs.plain KF.entry_gs (KF.slot_gs.check _ _ _ _ _ _ _ _ KF.type_class (KF.args_gs _ _ _) ?_);unfold Builtin.«getset_descriptor.__get__» descrGet;rw[dga_obj];refine wpAny_bind (wpAny_pure ?_);unfold descrGetter descrCheckInstance descrNameAndClass isInstance
 simp only[KF.owner_class]
 repeat lk
 refine⟨Code.quiet_builtin _ (by decide +kernel),codeAny_builtin KF.entry_class ?_⟩;unfold Builtin.«object.__class__» shownTypeOf
 repeat lk
 exact h
structure XI(K:Frag)(C:Addr):Prop where
 ga:findIn K (.ref C) "__getattribute__"=some (some (.builtin "BaseException.__getattribute__"))
 gt:findIn K (.ref C) "__getattr__"=some none
 cl:findIn K (.ref C) "__class__"=some (some (.builtin "object.__class__"))
 ob:mroIn K C (.type "object")=some true
 be:mroIn K C (.type "BaseException")=some true
theorem xAsr{o:Obj}{tk:Tok}{Q:Fin->Shared->Prop}(F:XI K C)(X:K.In s.heap)(hx:s.heap.get? x=some o)(hc:o.cls=.ref C)(h:Q (.done (.ret (.ref C))) s) :
  wpAny (model prog w) A (Builtin.«object.__getattribute__» ⟨[.ref x,.str "__class__" tk],[]⟩) Q E s:=by
 obtain⟨hh,g,dr,t,os⟩:=s;have L0:Looks (model prog w) hh (typeOf (.ref x)) (.ref C):=hc▸(Looks.ld hx).andThen .now;have L1:=looks_findIn (M:=model prog w) X F.cl;have hT5:(⟨hh,g,dr,t,os⟩:Shared).TypeIs (.builtin "object.__class__") "getset_descriptor":=PySem.F.typeOf_object_class;have f5:=PySem.F.typeOf_object_class;have f6:=PySem.F.slot_gs_get.lookup;have f7:=PySem.F.slot_gs_set.lookup
 repeat (any_goals (first|assumption|(with_reducible refine wpAny_loadPart_at hx ?_;rw[hc])|with_reducible refine Looks.at L1 ?_|wp_step))
 refine xAkm X L0 F.ob ?_
 repeat (any_goals (first|assumption|wp_step))
theorem xAss{o:Obj}{nameV:Value}{Q:Unit->Shared->Prop}(F:XI K C)(X:K.In s.heap)(hx:s.heap.get? x=some o)(hc:o.cls=.ref C)(h:Q () s):wpAny (model prog w) A (checkBuiltinCall "BaseException.__getattribute__" ⟨[.ref x,nameV],[]⟩) Q E s:=by
 obtain⟨hh,g,dr,t,os⟩:=s
 have hk:builtinKind "BaseException.__getattribute__"=some .slot:=by decide +kernel
 have hsplit:splitId "BaseException.__getattribute__"=some ("BaseException","__getattribute__"):=by decide +kernel
 have ha:=PySem.F.args_bexc_ga (.ref x) nameV;have L1:=looks_mroIn (M:=model prog w) X F.be
 simp only[checkBuiltinCall,hk,hsplit]
 refine wpAny_bind ?_
 ·unfold isInstance
  repeat (first|(with_reducible refine wpAny_loadPart_at hx ?_;rw[hc])|with_reducible refine Looks.at L1 ?_|wp_step)
  exact h
theorem exc_by{o:Obj}{tk:Tok}{Q:Value->Shared->Prop}(F:XI K C)(X:K.In s.heap)(hx:s.heap.get? x=some o)(hc:o.cls=.ref C)(h:Q (.ref C) s):wpAny (model prog w) A (getAttrBy (.ref x) (.str "__class__" tk) false) Q E s:=by
 obtain⟨hh,g,dr,t,os⟩:=s;have L1:=looks_findIn (M:=model prog w) X F.ga;have L2:=looks_findIn (M:=model prog w) X F.gt;have G:=PySem.F.excAttr_ValueError.ga
 have hx2:(Value.builtin "BaseException.__getattribute__"==Value.builtin "object.__getattribute__")=false:=by decide +kernel
 have hx1:(onTheHeap (Value.ref C)&&Value.builtin "BaseException.__getattribute__"==Value.builtin "object.__getattribute__")=false:=by rw[hx2];rfl
 have f3:=G.bind (.ref x)
 repeat (any_goals (first|assumption|(with_reducible refine wpAny_loadPart_at hx ?_;rw[hc])|with_reducible refine Looks.at L1 ?_|with_reducible refine Looks.at L2 ?_|wp_step))
 refine codeAny_call_builtin G.plain PySem.F.entry_bexc_ga (xAss F X hx hc (xAsr F X hx hc ?_))
 repeat (any_goals (first|assumption|wp_step))
theorem xAst{o:Obj}{Q:Option Value->Shared->Prop}(F:XI K C)(X:K.In s.heap)(hx:s.heap.get? x=some o)(hc:o.cls=.ref C)(h:Q (some (.ref C)) { s with toks:=s.toks+1 }):wpAny (model prog w) A (getAttr? (.ref x) "__class__") Q E s:=by
 obtain⟨hh,g,dr,t,os⟩:=s;unfold getAttr? getAttrBy?;refine wpAny_bind (wpAny_mkText (wpAny_bind (wpAny_attempt (exc_by (s:=⟨hh,g,dr,t+1,os⟩) F X hx hc ?_))));exact wpAny_pure h
theorem xApq(F:XI K C)(hcl:∃cd,clsIn K C=some cd):KitX K (.ref x) (.ref C) (fun h=>∃o,h.get? x=some o/\o.cls=.ref C) where
 ty:=fun _ _ _ ⟨o,hx,hc⟩=>hc▸(Looks.ld hx).andThen .now
 it:=fun _ _ X _=>by
  obtain⟨cdD,hcD⟩:=hcl;unfold clsIn at hcD
  split at hcD
  ·rename_i c' d' cd' sl' ho
   intro A' Q' E' s' k q;unfold isType loadHead;exact wpAny_bind (wpAny_loadPart (k _ _ (X _ _ ho)) (wpAny_pure q))
  ·cases hcD
 ne:=fun h tp dd its n sl X htp=>by
  obtain⟨cdD,hcD⟩:=hcl;refine zk.mpr fun q=>?_;have e:C=tp:=Value.ref.inj (beq_iff_eq.mp q);subst e;unfold clsIn at hcD
  split at hcD
  ·rename_i c' d' cd' sl' ho
   have z:=(X _ _ ho).symm.trans htp;cases z
  ·cases hcD
 ca:=fun X ⟨o,hx,hc⟩ k=>xAst F X hx hc k
end
structure IsX(K:Frag)(C0:Addr)(M:V->Option Bool):Prop where
 xi:XI K C0
 cl:∃cd,clsIn K C0=some cd
 one:∀v u b,RelV v u->M v=some b->kitOne K (.ref C0) u=some b
inductive IrIsX(C0:Addr)(M:V->Option Bool)(xs:List V)(H:Hp)(Q:VK):Prop
 |mk (a:Addr) (v:V) (b:Bool) (h0:xs=[.ref a,v]) (h1:H a=some (excO a C0)) (h2:M v=some b) (h3:Q (.bl b) H):IrIsX C0 M xs H Q
def rIsX(C0:Addr)(M:V->Option Bool):List V->Hp->VK->Prop:=fun xs H Q=>IrIsX C0 M xs H Q
theorem xAcb{X:Cx}{C0:Addr}{M:V->Option Bool}(F:IsX X.K C0 M):CallR X (.builtin "isinstance") (rIsX C0 M):=by
 intro pins s σ H xs us Q I rv h;obtain⟨a,v,b,rfl,h1,h2,q⟩:=h;obtain⟨u1,u2,rfl,r1,r2⟩:=vals2 rv;cases r1;obtain⟨o,e,c⟩:=(I.hok a _ h1).1;exact kia_one (xApq F.xi F.cl) I.kIn ⟨o,e,c⟩ (F.one v _ b r2 h2) (by intro z;cases z) fun tk=>⟨.bl b,H,I.tok _,rfl,q⟩
def abvIn(K:Frag)(C0 C:Addr):Bool:=match K.lookup C0 with
 |some ⟨_,_,.cls cd,_⟩=>cd.mro.contains (.ref C)
 |_=>false
theorem xAsu{K:Frag}{C0 C:Addr}(h:abvIn K C0 C=true):Abv K C0 C:=by
 unfold abvIn at h
 split at h
 ·exact⟨_,_,_,_,by assumption,h⟩
 ·cases h
theorem xAdz:bootBuiltins "ValueError"=some (.type "ValueError"):=by first|decide +kernel|kernel_rfl
section
variable {X:Cx}
inductive IrNotB(x:V)(y:V)(H:Hp)(Q:VK):Prop
 |mk (c:_) (b:_) (h0_:x=.bl c) (h1_:y=.bl b) (h2_:Q (.bl (c != b)) H):IrNotB x y H Q
def rNotB:R2:=fun x y H Q=>IrNotB x y H Q
theorem xAsv:OpR X (compareOp .IsNot) rNotB:=by
 intro pins s σ H x y v u Q I rx ry h;obtain⟨c,b,rfl,rfl,q⟩:=h;cases rx;cases ry;exact isnot_bool ⟨.bl _,H,I,rfl,q⟩
end
end L2
namespace L2
open PySem PySem.Spec PySem.W PyProof.Rows My PySem.NumText
theorem xAmp{z:Str}(hd:∀c∈z.cps.toList,48≤c/\c≤57)(h1:1≤z.cps.size)(h7:z.cps.size≤7)(h0:z.cps.toList.head?=some 48->z.cps.size=1):∃n:Int,0≤n/\n<10 ^ 7/\z=toString n:=by
 obtain⟨⟨cs⟩⟩:=z;have hd:∀c∈cs,48≤c/\c≤57:=hd;have h1:1≤cs.length:=h1;have h7:cs.length≤7:=h7;have h0:cs.head?=some 48->cs.length=1:=h0
 have e:=toDigits_digitsVal (cs.length - 1) cs (by omega) (fun c hc=>hd c hc) (by
  cases cs with
  |nil=>exact absurd h1 (by decide)
  |cons c r =>
   by_cases hc:c=48
   ·subst hc;exact .inl (by have:=h0 rfl;omega)
   ·exact .inr ⟨c,r,rfl,by have:=hd c qm;omega⟩)
 have e2:(Nat.toDigits 10 (digitsVal cs)).map Char.toNat=cs:=by
  rw[e,zy]
  have:∀l:List Nat,(∀c∈l,48≤c/\c≤57)->l.map (Char.toNat∘Char.ofNat)=l:=by
   intro l
   induction l with
   |nil=>intro _;rfl
   |cons a l ih =>
    intro h;rw[qo,ih fun c hc=>h c (qk _ hc)]
    congr 1
    have ha:=h a qm
    have:a=48\/a=49\/a=50\/a=51\/a=52\/a=53\/a=54\/a=55\/a=56\/a=57:=by omega
    rcases this with rfl|rfl|rfl|rfl|rfl|rfl|rfl|rfl|rfl|rfl <;> rfl
  exact this cs hd
 refine⟨((digitsVal cs:Nat):Int),Int.natCast_nonneg _,?_,?_⟩
 ·apply Classical.byContradiction
  intro h;have h8:=digits10_ge (k:=7) (n:=digitsVal cs) (by omega)
  have:(Nat.toDigits 10 (digitsVal cs)).length=cs.length:=by rw[e,qc]
  omega
 ·show(⟨⟨cs⟩⟩:Str)=Str.ofString (toString (Int.ofNat (digitsVal cs)))
  rw[text_ofNat,e2]
theorem xAga{z:Str}(h:wordS z=true):IsW z:=by
 unfold wordS at h;rw[qr,zg]at h;have h1:=of_decide_eq_true h.1;refine⟨h1.1,h1.2,fun c hc=>?_⟩;have:=h.2 c hc;unfold lett at this;rw[qr]at this;exact⟨of_decide_eq_true this.1,of_decide_eq_true this.2⟩
theorem xApr{n:Int}(h0:0≤n)(h7:n<10 ^ 7):(toString n:Str).cps.size≤7:=by
 obtain⟨m,rfl⟩:=Int.eq_ofNat_of_zero_le h0;show(Str.ofString (toString (Int.ofNat m))).cps.size≤7;rw[text_ofNat];show((Nat.toDigits 10 m).map Char.toNat).length≤7;rw[qc];exact digits10_le (by decide) (by have h:(m:Int)<10 ^ 7:=h7;omega)
theorem xAsw{n:Int}(h0:0≤n):0<(toString n:Str).cps.size:=by
 obtain⟨m,rfl⟩:=Int.eq_ofNat_of_zero_le h0;show 0<(Str.ofString (toString (Int.ofNat m))).cps.size;rw[text_ofNat];show 0<((Nat.toDigits 10 m).map Char.toNat).length;rw[qc];exact tDigits_len_ge 10 m
theorem head07{n:Int}(h:0≤n)(e:(toString n:Str).cps.toList[0]?=some 48):n=0:=by
 obtain⟨m,rfl⟩:=Int.eq_ofNat_of_zero_le h;have e1:(toString ((m:Nat):Int):Str).cps.toList=(Nat.toDigits 10 m).map Char.toNat:=KIN.signs_num m;rw[e1]at e;rw[xApl m e];rfl
theorem xAdg{n m:Int}(hn:0≤n)(hm:0≤m)(h:(toString n:Str)=toString m):n=m:=by
 obtain⟨a,rfl⟩:=Int.eq_ofNat_of_zero_le hn;obtain⟨b,rfl⟩:=Int.eq_ofNat_of_zero_le hm;have e:=congrArg (fun z:Str=>digitsVal z.cps.toList) h;have e:digitsVal (toString ((a:Nat):Int):Str).cps.toList=digitsVal (toString ((b:Nat):Int):Str).cps.toList:=e;rw[KIN.signs_num,KIN.signs_num,KIN.val_back,KIN.val_back]at e;rw[e]
theorem xAsx{s:Nat}:∀{xs:List (List Nat)} {x:List Nat},x∈xs->(∀c∈x,c∈jl s xs)/\x.length≤(jl s xs).length
 |[a],x,h=>by
  have e:x=a:=by simpa using h
  subst e;exact⟨fun _ h=>h,qd _⟩
 |a::b::r,x,h=>by
  have e:jl s (a::b::r)=a++s::jl s (b::r):=rfl;rw[e];rcases qw.mp h with rfl|h
  ·exact⟨fun c hc=>vf _ hc,by rw[ql];omega⟩
  ·have:=xAsx (s:=s) h
   exact⟨fun c hc=>zr _ (qk _ (this.1 c hc)),by rw[ql,qy];have:=this.2;omega⟩
theorem xAbw{z w:Str}{s:Nat}(h:w∈Txt.split z ⟨#[s]⟩):(∀c∈w.cps.toList,c∈z.cps.toList)/\w.length≤z.length:=by
 have e:=congrArg (fun x:Str=>x.cps.toList) (StrLaws.join_split z ⟨#[s]⟩);have e:(Str.join ⟨#[s]⟩ (Txt.split z ⟨#[s]⟩)).cps.toList=z.cps.toList:=e;rw[xAee]at e;have:=xAsx (s:=s) (qu.mpr ⟨w,h,rfl⟩:w.cps.toList∈(Txt.split z ⟨#[s]⟩).map fun w=>w.cps.toList);rw[e]at this;refine⟨this.1,?_⟩;have h2:=this.2;rw[zx,zx]at h2;exact h2
theorem Shy.part{z w:Str}{s:Nat}(sh:Shy z)(h:w∈Txt.split z ⟨#[s]⟩):Shy w:=⟨qf (xAbw h).2 sh.len,fun c hc=>sh.lo c ((xAbw h).1 c hc)⟩
theorem xAdt{z:Str}{s:Nat}{ws:List Str}(h:Txt.split z ⟨#[s]⟩=ws):z=Txt.join ⟨#[s]⟩ ws:=by
 rw[←h];exact(StrLaws.join_split z ⟨#[s]⟩).symm.trans (StrLaws.glued_eq_join _ _).symm
theorem n46'{n:Int}(h:0≤n):46∉(toString n:Str).cps.toList:=fun hc=>by have:=xAeq h _ hc;omega
theorem xAsy{s:Nat}:∀{xs:List (List Nat)},xs.length≤(jl s xs).length+1
 |[]=>w5 _
 |[a]=>by show 1≤_;omega
 |a::b::r=>by
  have h:=xAsy (s:=s) (xs:=b::r);show(b::r).length+1≤(a++s::jl s (b::r)).length+1;rw[ql,qy (a:=s)];omega
theorem xAhi{z:Str}{s:Nat}{ts:List Str}(h:Txt.split z ⟨#[s]⟩=ts):ts.length≤z.length+1:=by
 have e:=congrArg (fun x:Str=>x.cps.toList) (StrLaws.join_split z ⟨#[s]⟩);have e:(Str.join ⟨#[s]⟩ (Txt.split z ⟨#[s]⟩)).cps.toList=z.cps.toList:=e;rw[xAee,h]at e;have:=xAsy (s:=s) (xs:=ts.map fun w=>w.cps.toList);rw[e,qc,zx]at this;exact this
theorem F2.snoc{P:PyData->Str->Prop}{d:PyData}{w:Str}:∀{ds:List PyData} {zs:List Str},F2 P ds zs->P d w->F2 P (ds++[d]) (zs++[w])
 |_,_,.nil,h=>.cons h .nil
 |_,_,.cons h t,h'=>.cons h (t.snoc h')
theorem xAdu{n:Nat}(h:n≤1001):n≤sizeLine:=qf h (by decide)
theorem xAps(z:Str):z=⟨#[]⟩\/∃y a,z=y++(⟨#[a]⟩:Str):=by
 obtain⟨⟨l⟩⟩:=z;rcases List.eq_nil_or_concat l with rfl|⟨m,a,rfl⟩
 ·exact .inl rfl
 ·refine .inr ⟨⟨⟨m⟩⟩,a,?_⟩
  show(⟨⟨m.concat a⟩⟩:Str)=⟨(⟨m⟩:Array Nat)++#[a]⟩
  congr 1
  all_goals (apply Array.ext';rw[vd,List.concat_eq_append])
theorem xAbx{y y':Str}{a b:Nat}(h:y++(⟨#[a]⟩:Str)=y'++(⟨#[b]⟩:Str)):y=y'/\a=b:=by
 obtain⟨⟨l⟩⟩:=y;obtain⟨⟨m⟩⟩:=y';have e:=congrArg (fun x:Str=>x.cps.toList) h;have e:(((⟨l⟩:Array Nat)++#[a]).toList)=(((⟨m⟩:Array Nat)++#[b]).toList):=e;rw[vd,vd]at e;have e:l++[a]=m++[b]:=e;have:=List.append_inj' e rfl;exact⟨by rw[this.1],(List.cons.inj this.2).1⟩
theorem xAda{y:Str}{a:Nat}:(∀c∈y.cps.toList,c∈(y++(⟨#[a]⟩:Str)).cps.toList)/\y.length≤(y++(⟨#[a]⟩:Str)).length:=by
 refine⟨fun c hc=>?_,?_⟩
 ·show c∈(y.cps++#[a]).toList
  rw[vd];exact vf _ hc
 ·rw[xAcl];omega
theorem xAod{y:Str}{a:Nat}:y++(⟨#[a]⟩:Str)≠⟨#[]⟩:=fun h=>by
 have:=congrArg Str.length h;rw[xAcl]at this;have:y.length+1=0:=this;omega
theorem xAkn(z:Str):z=⟨#[]⟩\/∃a y,z=(⟨#[a]⟩:Str)++y:=by
 obtain⟨⟨l⟩⟩:=z
 cases l with
 |nil=>exact .inl rfl
 |cons a m =>
  refine .inr ⟨a,⟨⟨m⟩⟩,?_⟩;show(⟨⟨a::m⟩⟩:Str)=⟨#[a]++(⟨m⟩:Array Nat)⟩
  congr 1
  all_goals (apply Array.ext';rw[vd];rfl)
theorem xAch{y y':Str}{a b:Nat}(h:(⟨#[a]⟩:Str)++y=(⟨#[b]⟩:Str)++y'):a=b/\y=y':=by
 obtain⟨⟨l⟩⟩:=y;obtain⟨⟨m⟩⟩:=y';have e:=congrArg (fun x:Str=>x.cps.toList) h;have e:((#[a]++(⟨l⟩:Array Nat)).toList)=((#[b]++(⟨m⟩:Array Nat)).toList):=e;rw[vd,vd]at e;have e:a::l=b::m:=e;exact⟨(List.cons.inj e).1,by rw[(List.cons.inj e).2]⟩
theorem xAdb{y:Str}{a:Nat}:(∀c∈y.cps.toList,c∈((⟨#[a]⟩:Str)++y).cps.toList)/\y.length≤((⟨#[a]⟩:Str)++y).length:=by
 refine⟨fun c hc=>?_,?_⟩
 ·show c∈(#[a]++y.cps).toList
  rw[vd];exact zr _ hc
 ·rw[xAcl];omega
theorem xAhj{pv:List V}{r:Nat}:cutV pv (some (r:Int)) none=pv.drop r:=by
 by_cases h:r≤pv.length
 ·exact xApm h
 ·unfold cutV
  rw[HT.sIx_nat,HT.sIx_none,Nat.min_eq_right (by omega:pv.length≤r),List.drop_length,List.take_nil,List.drop_eq_nil_of_le (by omega)]
end L2
namespace My
open PySem L2 PyProof.Rows
def top(i:Nat):Stmt:=PySem.Challenge.pw_pagefolk_k10_whole_any_words.main.body.getD i (.Pass ⟨0,0,0,0⟩)
abbrev s_fCi:Stmt:=top 8
abbrev s_fBd:Stmt:=top 9
abbrev s_fBw:Stmt:=top 10
abbrev s_fBp:Stmt:=top 11
abbrev s_fCk:Stmt:=top 12
abbrev s_fBf:Stmt:=top 13
abbrev s_fCl:Stmt:=top 14
abbrev s_fCn:Stmt:=top 15
abbrev s_fCm:Stmt:=top 16
abbrev s_fCh:Stmt:=top 17
abbrev s_fAp:Stmt:=top 18
abbrev s_fAx:Stmt:=top 19
abbrev s_fAb:Stmt:=top 20
abbrev s_fCo:Stmt:=top 21
abbrev s_fAn:Stmt:=top 22
abbrev s_fCg:Stmt:=top 23
abbrev s_fAu:Stmt:=top 24
abbrev s_fAv:Stmt:=top 25
abbrev s_fAi:Stmt:=top 26
abbrev s_fAh:Stmt:=top 27
abbrev s_fCq:Stmt:=top 28
abbrev s_fCf:Stmt:=top 29
abbrev s_fCe:Stmt:=top 30
abbrev s_fAt:Stmt:=top 31
abbrev s_fCb:Stmt:=top 32
abbrev s_fCj:Stmt:=top 34
abbrev s_fCa:Stmt:=top 35
abbrev s_fCp:Stmt:=top 36
abbrev s_fBa:Stmt:=top 49
abbrev s_fBg:Stmt:=top 50
abbrev s_fBz:Stmt:=top 51
abbrev s_fCc:Stmt:=top 52
abbrev s_fAg:Stmt:=top 53
abbrev s_fAs:Stmt:=top 54
abbrev s_fAa:Stmt:=top 55
abbrev s_fBu:Stmt:=top 56
abbrev s_fBy:Stmt:=top 57
abbrev s_fAe:Stmt:=top 58
abbrev s_fAc:Stmt:=top 59
abbrev s_fBh:Stmt:=top 60
abbrev s_fBe:Stmt:=top 61
abbrev s_fAz:Stmt:=top 62
abbrev s_fBc:Stmt:=top 64
abbrev s_fBo:Stmt:=top 65
abbrev s_fBx:Stmt:=top 66
abbrev s_fBk:Stmt:=top 68
abbrev s_fBq:Stmt:=top 69
abbrev s_fBn:Stmt:=top 70
abbrev s_fBs:Stmt:=top 71
abbrev s_fBm:Stmt:=top 72
abbrev s_fAq:Stmt:=top 73
abbrev s_fBr:Stmt:=top 74
abbrev s_fCd:Stmt:=top 75
abbrev s_fBl:Stmt:=top 76
abbrev s_fAm:Stmt:=top 77
abbrev s_fAf:Stmt:=top 78
abbrev s_fAd:Stmt:=top 79
abbrev s_fBt:Stmt:=top 80
abbrev s_fBb:Stmt:=top 81
abbrev s_fBj:Stmt:=top 82
abbrev s_fAk:Stmt:=top 83
abbrev s_fAj:Stmt:=top 84
abbrev s_fAl:Stmt:=top 85
abbrev s_fAy:Stmt:=top 86
abbrev s_fAo:Stmt:=top 87
abbrev s_fBi:Stmt:=top 88
abbrev s_fAw:Stmt:=top 89
abbrev s_fBv:Stmt:=top 90
abbrev s_fAr:Stmt:=top 91
abbrev s_fCr:Stmt:=top 92
abbrev N_fCi:List Str:=["thing"]
abbrev N_fBd:List Str:=["thing","length"]
abbrev N_fBw:List Str:=["thing","least"]
abbrev N_fBp:List Str:=["thing","texts"]
abbrev N_fCk:List Str:=["thing"]
abbrev N_fBf:List Str:=["thing"]
abbrev N_fCl:List Str:=["thing"]
abbrev N_fCn:List Str:=["roll","thing"]
abbrev N_fCm:List Str:=["roll","thing"]
abbrev N_fCh:List Str:=["roll","thing"]
abbrev N_fAp:List Str:=["roll","thing"]
abbrev N_fAx:List Str:=["roll","thing"]
abbrev N_fAb:List Str:=["roll","thing"]
abbrev N_fCo:List Str:=["roll","thing"]
abbrev N_fAn:List Str:=["roll","thing"]
abbrev N_fCg:List Str:=["roll","thing"]
abbrev N_fAu:List Str:=["roll","thing"]
abbrev N_fAv:List Str:=["roll","thing"]
abbrev N_fAi:List Str:=["roll","thing"]
abbrev N_fAh:List Str:=["roll","thing"]
abbrev N_fCq:List Str:=["roll","thing"]
abbrev N_fCf:List Str:=["roll","thing"]
abbrev N_fCe:List Str:=["roll","thing"]
abbrev N_fAt:List Str:=["roll","thing"]
abbrev N_fCb:List Str:=["roll","thing"]
abbrev N_fCj:List Str:=["roll","number","thing","forms"]
abbrev N_fCa:List Str:=["roll","thing"]
abbrev N_fCp:List Str:=["roll","thing"]
abbrev N_fBa:List Str:=["word","digits"]
abbrev N_fBg:List Str:=["word"]
abbrev N_fBz:List Str:=["word","told"]
abbrev N_fCc:List Str:=["word"]
abbrev N_fAg:List Str:=["word"]
abbrev N_fAs:List Str:=["word","told"]
abbrev N_fAa:List Str:=["word"]
abbrev N_fBu:List Str:=["word"]
abbrev N_fBy:List Str:=["word"]
abbrev N_fAe:List Str:=["word"]
abbrev N_fAc:List Str:=["word"]
abbrev N_fBh:List Str:=["word"]
abbrev N_fBe:List Str:=["word"]
abbrev N_fAz:List Str:=["word"]
abbrev N_fBc:List Str:=["kind","words"]
abbrev N_fBo:List Str:=["words","readers","things"]
abbrev N_fBx:List Str:=["roll","text","words","head","deed"]
abbrev N_fBk:List Str:=["_law_cell","_law_many","_law_found","_law_digits","_law_k","_law_number","_law_mixed"]
abbrev N_fBq:List Str:=["_law_number","_law_word_here","_law_many","_law_k"]
abbrev N_fBn:List Str:=["_law_cell","_law_draws_here","_law_roll_here","_law_k","_law_word_here","_law_letter"]
abbrev N_fBs:List Str:=["_law_number","_law_roll_here","_law_more"]
abbrev N_fBm:List Str:=["_law_number","_law_roll_here"]
abbrev N_fAq:List Str:=["_law_number","_law_roll_here"]
abbrev N_fBr:List Str:=["_law_number","_law_roll_here"]
abbrev N_fCd:List Str:=["_law_number","_law_roll_here","_law_kind"]
abbrev N_fBl:List Str:=["_law_draws_here","_law_roll_here"]
abbrev N_fAm:List Str:=["_law_draws_here","_law_roll_here","_law_found","_law_number","_law_name_here"]
abbrev N_fAf:List Str:=["_law_kind","_law_more","_law_roll_here","_law_part_here","_law_name_here","_law_behind"]
abbrev N_fAd:List Str:=["_law_kind","_law_more","_law_roll_here","_law_part_here","_law_name_here","_law_sides","_law_value","_law_word_here"]
abbrev N_fBt:List Str:=["_law_draws_here","_law_roll_here","_law_number","_law_kind","_law_more","_law_to"]
abbrev N_fBb:List Str:=["_law_number","_law_roll_here"]
abbrev N_fBj:List Str:=["_law_script","_law_most","_law_cells","_law_roll_here","_law_many","_law_known","_law_table","_law_deeds","_law_k","_law_cell","_law_draws_here","_law_who","_law_turn","_law_other","_law_to","_law_theirs","_law_number","_law_heard","_law_what_here"]
abbrev N_fAk:List Str:=["_law_name_here"]
abbrev N_fAj:List Str:=["_law_sign_here"]
abbrev N_fAl:List Str:=["_law_side_here"]
abbrev N_fAy:List Str:=["_law_thing"]
abbrev N_fAo:List Str:=["_law_what_here","_law_word_here","_law_signs_here","_law_sides","_law_names"]
abbrev N_fBi:List Str:=["_law_deed","_law_hand","_law_number","_law_heard","_law_branch_here","_law_what_here","_law_ahead"]
abbrev N_fAw:List Str:=["_law_roll_here","_law_text","e","_law_some"]
abbrev N_fBv:List Str:=["_law_roll_here","_law_number","_law_name_here","_law_some"]
abbrev N_fAr:List Str:=["_law_words","_law_others","_law_roll_here","_law_draws_here","_law_found","_law_number","_law_at","_law_word_here"]
abbrev N_fCr:List Str:=["_law_script","_law_roll_here","_law_deeds","_law_texts","_law_k","_law_words","_law_draws_here","_law_turn","_law_others","_law_some","_law_text","_law_found"]
abbrev c_LEAVES:Addr:=18
abbrev c_MAIN:Addr:=15
abbrev c_WAYS:Addr:=17
abbrev c_WHERES:Addr:=16
abbrev c_FORMS:Addr:=186
abbrev c_READERS:Addr:=431
abbrev c_FolkError:Addr:=232
abbrev c_NoDeed:Addr:=245
abbrev c_NoLeave:Addr:=305
abbrev c_NoPast:Addr:=269
abbrev c_NoRow:Addr:=317
abbrev c_NoSet:Addr:=257
abbrev c_NoThing:Addr:=293
abbrev c_Poured:Addr:=281
abbrev c_Unlike:Addr:=336
abbrev a_is_counts:Addr:=185
abbrev a_is_deed_number:Addr:=180
abbrev a_is_hand:Addr:=72
abbrev a_is_leave:Addr:=166
abbrev a_is_line_or_none:Addr:=93
abbrev a_is_name:Addr:=79
abbrev a_is_part:Addr:=86
abbrev a_is_plain_word:Addr:=138
abbrev a_is_side:Addr:=114
abbrev a_is_sign_name_or_none:Addr:=107
abbrev a_is_sign_names:Addr:=131
abbrev a_is_signs:Addr:=126
abbrev a_is_truth:Addr:=173
abbrev a_is_way:Addr:=159
abbrev a_is_word_or_empty:Addr:=152
abbrev a_is_word_or_none:Addr:=145
abbrev a_read_counts:Addr:=425
abbrev a_read_name:Addr:=357
abbrev a_read_name_or_none:Addr:=371
abbrev a_read_number:Addr:=343
abbrev a_read_part:Addr:=364
abbrev a_read_plain:Addr:=350
abbrev a_read_plain_or_empty:Addr:=413
abbrev a_read_plain_or_none:Addr:=406
abbrev a_read_side:Addr:=392
abbrev a_read_sign_name_or_none:Addr:=385
abbrev a_read_truth:Addr:=420
def kv_FORMS:List (Str×Addr):=[("nothing",187),("part",188),("move",189),("cut",190),("put",191),("out",192),("mark",193),("note",194),("line",195),("strike",196),("cell",197),("leave",198),("back",199),("again",200),("bring",201),("drop",202),("pour",203)]
def kv_READERS:List (Str×Addr):=[("nothing",432),("part",433),("move",434),("cut",435),("put",436),("out",437),("mark",438),("note",439),("line",440),("strike",441),("cell",442),("leave",443),("back",444),("again",445),("bring",446),("drop",447),("pour",448)]
abbrev MS:List (Addr×List V):=[(c_LEAVES,[.str "read",.str "note",.str "write",.str "give"]),(c_MAIN,[.str "",.int 0]),(c_WAYS,[.str "row",.str "column"]),(c_WHERES,[.str "ahead",.str "behind"]),(187,[]),(188,[.ref a_is_part]),(189,[.ref a_is_name,.ref a_is_part]),(190,[.ref a_is_name]),(191,[.ref a_is_part,.ref a_is_sign_name_or_none,.ref a_is_signs]),(192,[.ref a_is_part,.ref a_is_sign_names]),(193,[.ref a_is_part,.ref a_is_side,.ref a_is_side,.ref a_is_plain_word,.ref a_is_word_or_none]),(194,[.ref a_is_part,.ref a_is_side,.ref a_is_side,.ref a_is_plain_word]),(195,[.ref a_is_part,.ref a_is_way,.ref a_is_line_or_none]),(196,[.ref a_is_part,.ref a_is_name]),(197,[.ref a_is_part,.ref a_is_name,.ref a_is_name,.ref a_is_word_or_empty]),(198,[.ref a_is_part,.ref a_is_hand,.ref a_is_leave,.ref a_is_truth]),(199,[.ref a_is_deed_number]),(200,[.ref a_is_deed_number]),(201,[.ref a_is_plain_word]),(202,[.ref a_is_plain_word]),(203,[.ref a_is_counts]),(432,[]),(433,[.ref a_read_part]),(434,[.ref a_read_name,.ref a_read_part]),(435,[.ref a_read_name]),(436,[.ref a_read_part,.ref a_read_sign_name_or_none]),(437,[.ref a_read_part]),(438,[.ref a_read_part,.ref a_read_side,.ref a_read_side,.ref a_read_plain,.ref a_read_plain_or_none]),(439,[.ref a_read_part,.ref a_read_side,.ref a_read_side,.ref a_read_plain]),(440,[.ref a_read_part,.ref a_read_plain,.ref a_read_name_or_none]),(441,[.ref a_read_part,.ref a_read_name]),(442,[.ref a_read_part,.ref a_read_name,.ref a_read_name,.ref a_read_plain_or_empty]),(443,[.ref a_read_part,.ref a_read_plain,.ref a_read_plain,.ref a_read_truth]),(444,[.ref a_read_number]),(445,[.ref a_read_number]),(446,[.ref a_read_plain]),(447,[.ref a_read_plain]),(448,[.ref a_read_counts])]
structure Txt(K:PySem.W.Frag)(mg:Str->Option Value)(tk:Str->Tok):Prop where
 b_ValueError:mg "ValueError"=none
 b_all:mg "all"=none
 b_bool:mg "bool"=none
 b_enumerate:mg "enumerate"=none
 b_int:mg "int"=none
 b_isinstance:mg "isinstance"=none
 b_len:mg "len"=none
 b_list:mg "list"=none
 b_max:mg "max"=none
 b_range:mg "range"=none
 b_set:mg "set"=none
 b_str:mg "str"=none
 b_tuple:mg "tuple"=none
 b_zip:mg "zip"=none
 c_MOST_DIGITS:mg "MOST_DIGITS"=some (.int 7 (tk "MOST_DIGITS"))
 c_MOST_LETTERS:mg "MOST_LETTERS"=some (.int 8 (tk "MOST_LETTERS"))
 c_MOST_NUMBER:mg "MOST_NUMBER"=some (.int 1000000 (tk "MOST_NUMBER"))
 c_MOST_SIGNS:mg "MOST_SIGNS"=some (.int 12 (tk "MOST_SIGNS"))
 c_LEAVES:mg "LEAVES"=some (.ref c_LEAVES)
 c_MAIN:mg "MAIN"=some (.ref c_MAIN)
 c_WAYS:mg "WAYS"=some (.ref c_WAYS)
 c_WHERES:mg "WHERES"=some (.ref c_WHERES)
 c_FORMS:mg "FORMS"=some (.ref c_FORMS)
 c_READERS:mg "READERS"=some (.ref c_READERS)
 g_FolkError:mg "FolkError"=some (.ref c_FolkError)
 X_FolkError:XC K c_FolkError
 g_NoDeed:mg "NoDeed"=some (.ref c_NoDeed)
 X_NoDeed:XC K c_NoDeed
 g_NoLeave:mg "NoLeave"=some (.ref c_NoLeave)
 g_NoPast:mg "NoPast"=some (.ref c_NoPast)
 g_NoRow:mg "NoRow"=some (.ref c_NoRow)
 g_NoSet:mg "NoSet"=some (.ref c_NoSet)
 g_NoThing:mg "NoThing"=some (.ref c_NoThing)
 g_Poured:mg "Poured"=some (.ref c_Poured)
 g_Unlike:mg "Unlike"=some (.ref c_Unlike)
 A_NoDeed_FolkError:Abv K c_NoDeed c_FolkError
 A_NoDeed_NoDeed:Abv K c_NoDeed c_NoDeed
theorem itT{c:Bool}{A B:Prop}(h:c=true)(a:A):if c=true then A else B:=by rw[if_pos h];exact a
theorem itF{c:Bool}{A B:Prop}(h:c=false)(b:B):if c=true then A else B:=by rw[if_neg (by rw[h];decide)];exact b
theorem big{n:Nat}(h:n≤1000):n≤sizeLine:=qg (xAad h)
inductive Isp_fAk(vs:List V)(H:Hp)(Q:VK):Prop
 |mk (v:_) (ds:_) (h0_:vs=[v]) (h1_:DT H v (.tuple ds)) (h2_:NmOk ds) (h3_:∀H',Same H H'->Q (.str (nmT ds)) H'):Isp_fAk vs H Q
def sp_fAk:Sp:=fun vs H Q _=>Isp_fAk vs H Q
theorem xAsz{vs:List V}{H:Hp}{Q:VK}{E:XK}(h:sp_fAk vs H Q E):vs.length=1:=by obtain⟨_,_,rfl,_⟩:=h;rfl
inductive Isp_fAl(vs:List V)(H:Hp)(Q:VK):Prop
 |mk (v:_) (d:_) (h0_:vs=[v]) (h1_:DT H v d) (h2_:SiOk d) (h3_:∀H',Same H H'->Q (.str (siT d)) H'):Isp_fAl vs H Q
def sp_fAl:Sp:=fun vs H Q _=>Isp_fAl vs H Q
inductive Isp_fAj(vs:List V)(H:Hp)(Q:VK):Prop
 |mk (v:_) (d:_) (h0_:vs=[v]) (h1_:DT H v d) (h2_:SgOk d) (h3_:∀H',Same H H'->Q (.str (sgT d)) H'):Isp_fAj vs H Q
def sp_fAj:Sp:=fun vs H Q _=>Isp_fAj vs H Q
section
variable {K:PySem.W.Frag}{vs:List V}{H:Hp}{Q:VK}{E:XK}
theorem xAta(h:sp_fAl vs H Q E):vs.length=1:=by obtain⟨_,_,rfl,_⟩:=h;rfl
theorem xAtb(h:sp_fAj vs H Q E):vs.length=1:=by obtain⟨_,_,rfl,_⟩:=h;rfl
end
inductive OnOk:PyData->Prop
 |non:OnOk .none
 |str (z:Str):z≠""->OnOk (.str z)
 |name (ds:List PyData):NmOk ds->OnOk (.tuple ds)
inductive Isp_fAy(vs:List V)(H:Hp)(Q:VK):Prop
 |mk (v:_) (d:_) (h0_:vs=[v]) (h1_:DT H v d) (h2_:OnOk d) (h3_:∀H',Same H H'->Q (.str (thT d)) H'):Isp_fAy vs H Q
def sp_fAy:Sp:=fun vs H Q _=>Isp_fAy vs H Q
theorem xAtc{vs:List V}{H:Hp}{Q:VK}{E:XK}(h:sp_fAy vs H Q E):vs.length=1:=by obtain⟨_,_,rfl,_⟩:=h;rfl
inductive Isp_fAo(vs:List V)(H:Hp)(Q:VK):Prop
 |mk (v:_) (ds:_) (ws:_) (h0_:vs=[v]) (h1_:DT H v (.tuple ds)) (h2_:Wt ds ws) (h3_:∀H' p,Same H H'->H' p=some (.lst (ws.map V.str))->Q (.ref p) H'):Isp_fAo vs H Q
def sp_fAo:Sp:=fun vs H Q _=>Isp_fAo vs H Q
theorem xAtd{vs:List V}{H:Hp}{Q:VK}{E:XK}(h:sp_fAo vs H Q E):vs.length=1:=by obtain⟨_,_,_,rfl,_⟩:=h;rfl
theorem ne_t{k w:Str}(h:k≠w):decide (V.str k=V.str w)=false:=decide_eq_false fun z=>h (V.str.inj z)
theorem nn_on{b:PyData}(h:b=.none\/∃n,b=.tuple n/\NmOk n):OnOk b:=by
 rcases h with rfl|⟨n,rfl,hn⟩
 ·exact .non
 ·exact .name n hn
theorem wn_on{d:PyData}(h:WnOk d):OnOk d:=by
 rcases h with rfl|⟨z,rfl,hz,_⟩
 ·exact .non
 ·exact .str z hz
theorem or_two{k a b:Str}{A B C:Prop}(h:k=a\/k=b)(l:(if decide (V.str k=V.str b)=true then B else C)->A)(r:B):if decide (V.str k=V.str a)=true then(if true=true then B else C) else A:=by
 by_cases e:k=a
 ·rw[if_pos (decide_eq_true (by rw[e])),if_pos rfl];exact r
 ·rw[if_neg (by rw[ne_t e];decide)]
  refine l ?_;rw[if_pos (decide_eq_true (by rw[h.resolve_left e]))];exact r
def ddT(w:Str)(n:Int)(hs:List PyData)(b:PyData)(ws:List Str):Str:=Txt.join " " (([w,toString n,Txt.join "," (hs.map strD),brT b]:List Str)++ws)
structure DeOk(H:Hp)(v:V)(w:Str)(n:Int)(hs:List PyData)(b:PyData)(ws:List Str):Prop where
 at':∃q hq vb vx ds,v=.ref q/\H q=some (.tup [.str w,.int n,hq,vb,vx])/\DT H hq (.tuple hs)/\DT H vb b/\DT H vx (.tuple ds)/\Wt ds ws
 wl:w.length≤8
 nn:Nb n
 hl:hs.length≤10
 hf:∀d∈hs,Flat1 d
 bo:BrOk b
inductive Isp_fBi(vs:List V)(H:Hp)(Q:VK):Prop
 |mk (v:_) (w:_) (n:_) (hs:_) (b:_) (ws:_) (h0_:vs=[v]) (h1_:DeOk H v w n hs b ws) (h2_:∀H',Same H H'->Q (.str (ddT w n hs b ws)) H'):Isp_fBi vs H Q
def sp_fBi:Sp:=fun vs H Q _=>Isp_fBi vs H Q
theorem xAte{vs:List V}{H:Hp}{Q:VK}{E:XK}(h:sp_fBi vs H Q E):vs.length=1:=by obtain⟨_,_,_,_,_,_,rfl,_⟩:=h;rfl
theorem log_nb{n:Int}(h:Nb n):n.natAbs.log2<1920:=((xAji (H:=fun _=>none) (DT.int n) (.inr ⟨n,rfl,h⟩)).1.resolve_left (fun⟨_,e⟩=>nomatch e)).elim fun i e=>by
 obtain⟨e,h⟩:=e;cases e;exact h
theorem xAoe{b:PyData}(h:BrOk b):(brT b).length≤100:=by
 rcases h with rfl|⟨a,c,rfl,ha,hc⟩
 ·decide
 ·have q:=xAdp "." [a,c]
  have e1:(".":Str).length=1:=rfl;rw[e1]at q;have q2:(List.map (fun x=>x.length) [a,c]).sum=a.length+(c.length+0):=rfl;rw[q2]at q;show(Txt.join "." [a,c]).length≤100;have q3:[a,c].length=2:=rfl;omega
theorem xAtf{w:Str}{n:Int}{hs:List PyData}{b:PyData}{ws:List Str}(h1:w.length≤8)(h2:Nb n)(h3:hs.length≤10)(h4:∀d∈hs,Flat1 d)(h5:BrOk b)(h6:ws.length≤15/\∀w∈ws,w.length≤100) :
  ((([w,toString n,Txt.join "," (hs.map strD),brT b]:List Str)++ws).map (·.length)).sum+(([w,toString n,Txt.join "," (hs.map strD),brT b]:List Str)++ws).length * (" ":Str).length≤16777216:=by
 have a:=xAlt (ws:=([w,toString n,Txt.join "," (hs.map strD),brT b]:List Str)++ws) (c:=100) fun x hx=>by
  rcases q0.mp hx with hx|hx
  ·simp only[List.mem_cons,List.not_mem_nil,or_false]at hx
   rcases hx with rfl|rfl|rfl|rfl
   ·omega
   ·exact qf (xAfx (d:=.int n) (.inr ⟨n,rfl,h2⟩)) (by decide)
   ·exact xAjk h3 h4
   ·exact xAoe h5
  ·exact h6.2 x hx
 have e1:(" ":Str).length=1:=rfl
 have hl:(([w,toString n,Txt.join "," (hs.map strD),brT b]:List Str)++ws).length=4+ws.length:=by rw[ql];rfl
 rw[hl]at a ⊢;rw[e1];have:=h6.1;omega
theorem xAtg(a c:Str):Txt.join "." [a,c]=a++"."++c:=by
 show Builtin.Str.glued "." [a,c]=_;unfold Builtin.Str.glued;rfl
theorem xAct{ws:List Str}(hw:∀w∈ws,IsW w){ds:List PyData}(h:NameD ws ds):NmOk ds:=by
 obtain⟨w,n,rfl,hm,h1,h2⟩:=h;refine .inr ⟨w,[.int n],rfl,xAbd (hw w hm),xAbt (hw w hm),xAao (hw w hm),(qp rfl),fun x hx=>?_⟩;rw[zd.mp hx];exact⟨n,rfl,by omega,by omega⟩
theorem xAci{ws:List Str}(hw:∀w∈ws,IsW w){ds:List PyData}(h:PartD ws ds):NmOk ds:=h.elim .inl (xAct hw)
theorem sn_ok{ws:List Str}(hw:∀w∈ws,IsW w){ds:List PyData}(h:SnD ws ds):NmOk ds:=by
 obtain⟨w,n,i,rfl,hm,h1,h2,h3,h4⟩:=h;refine .inr ⟨w,[.int n,.int i],rfl,xAbd (hw w hm),xAbt (hw w hm),xAao (hw w hm),(qp rfl),fun x hx=>?_⟩
 simp only[List.mem_cons,List.not_mem_nil,or_false]at hx
 rcases hx with rfl|rfl
 ·exact⟨n,rfl,by omega,by omega⟩
 ·exact⟨i,rfl,by omega,by omega⟩
theorem xAhk{ws:List Str}(hw:∀w∈ws,IsW w){d:PyData}(h:SideD ws d):SiOk d:=by
 obtain⟨ds,z,rfl,h1,h2⟩:=h;exact⟨ds,z,rfl,sn_ok hw h1,h2⟩
theorem xAmq:∀c∈("abcdefghijklmnopqrstuvwxyz .,":Str).cps.toList,PyData.strOk ⟨#[c]⟩=true:=by decide +kernel
theorem xAth{ws:List Str}(hw:∀w∈ws,IsW w){d:PyData}(h:SignD ws d):SgOk d:=by
 rcases h with⟨c,rfl,hc⟩|⟨z,rfl,hz⟩|⟨ds,rfl,hd⟩
 ·exact .inl ⟨_,rfl,by show 1≤8;decide,xAmq c hc⟩
 ·exact .inr (.inl ⟨z,rfl,xAao hz,xAbt hz⟩)
 ·exact .inr (.inr ⟨ds,rfl,xAci hw hd⟩)
theorem or_ok{P:List PyData->Prop}{b:PyData}(hP:∀n,P n->NmOk n)(h:OrD P b):b=.none\/∃n,b=.tuple n/\NmOk n:=by
 rcases h with rfl|⟨n,rfl,hn⟩
 ·exact .inl rfl
 ·exact .inr ⟨n,rfl,hP n hn⟩
theorem wn_ok{d:PyData}(h:WnD d):WnOk d:=by
 rcases h with rfl|⟨z,rfl,hz⟩
 ·exact .inl rfl
 ·exact .inr ⟨z,rfl,xAbd hz,xAao hz⟩
theorem al1{α:Type}{P:α->Prop}{a:α}(h:P a):∀x∈[a],P x:=fun x hx=>by rw[zd.mp hx];exact h
theorem al2{α:Type}{P:α->Prop}{a b:α}(h:P a)(h2:P b):∀x∈[a,b],P x:=fun x hx=>by
 simp only[List.mem_cons,List.not_mem_nil,or_false]at hx
 rcases hx with rfl|rfl
 ·exact h
 ·exact h2
theorem xAof{m:Nat}{ds:List Hs.Dd}{row:List Nat}(c:Hs.Cov m ds row){j:Nat}(hj:j<m):Hs.at0 row j≤ds.length:=by
 have:=nodup_len (S:=(List.range (Hs.at0 row j)).map fun k=>(j,k+1)) (ws:=ds.map fun e=>(e.who,e.num)) ?_ ?_
 ·simpa using this
 ·rw[List.nodup_iff_pairwise_ne,List.pairwise_map]
  exact List.nodup_range.imp (fun h e=>h (by simpa using e))
 ·intro x hx
  obtain⟨k,hk,rfl⟩:=qu.mp hx;have hk:=wq.mp hk;obtain⟨e,he,e1,e2,_⟩:=c j (k+1) hj (by omega) (by omega);exact qu.mpr ⟨e,he,by rw[e1,e2]⟩
theorem xAti{m:Nat}{ds:List Hs.Dd}(W:Hs.Wh m ds){d:Hs.Dd}(hd:d∈ds):1≤d.num/\d.num≤ds.length+1:=by
 have a:=xAof (W.past d hd) (W.who d hd);have b:=W.own d hd;omega
theorem nn2{w:Str}(h:IsW w){n:Int}(hn:Nb n):NmOk [.str w,.int n]:=.inr ⟨w,[.int n],rfl,xAbd h,xAbt h,xAao h,(qp rfl),al1 ⟨n,rfl,hn⟩⟩
theorem nn3{w:Str}(h:IsW w){n m:Int}(hn:Nb n)(hm:Nb m):NmOk [.str w,.int n,.int m]:=.inr ⟨w,[.int n,.int m],rfl,xAbd h,xAbt h,xAao h,(qp rfl),al2 ⟨n,rfl,hn⟩ ⟨m,rfl,hm⟩⟩
def fAd:Fm->Addr
 |.part=>a_is_part|.name=>a_is_name|.snn=>a_is_sign_name_or_none|.signs=>a_is_signs|.sns=>a_is_sign_names|.side=>a_is_side|.word=>a_is_plain_word|.won=>a_is_word_or_none|.way=>a_is_way|.line=>a_is_line_or_none|.woe=>a_is_word_or_empty|.hand=>a_is_hand|.leave=>a_is_leave|.truth=>a_is_truth|.num=>a_is_deed_number|.counts=>a_is_counts
structure Md(H:Hp):Prop where
 way:H c_WAYS=some (.tup [.str "row",.str "column"])
 lea:H c_LEAVES=some (.tup [.str "read",.str "note",.str "write",.str "give"])
 whe:H c_WHERES=some (.tup [.str "ahead",.str "behind"])
 fms:∀z,match fV kv_FORMS z with
  |some a=>∃fs,fmsOf z=some fs/\H a=some (.tup (fs.map fun f=>.ref (fAd f)))
  |none=>fmsOf z=none
theorem Md.same{H H':Hp}(m:Md H)(s:Same H H'):Md H':=⟨s _ _ m.way,s _ _ m.lea,s _ _ m.whe,fun z=>by
 have h:=m.fms z
 split at h
 ·obtain⟨fs,h1,h2⟩:=h;exact⟨fs,h1,s _ _ h2⟩
 ·exact h⟩
inductive IspT(m:Th->Bool)(vs:List V)(H:Hp)(Q:VK):Prop
 |mk (v:_) (d:_) (h0_:vs=[v]) (h1_:TV H v d) (h2_:∀H',Same H H'->Q (.bl (m d)) H'):IspT m vs H Q
def spT(m:Th->Bool):Sp:=fun vs H Q _=>IspT m vs H Q
inductive IspR(m:List Str->Th->Bool)(vs:List V)(H:Hp)(Q:VK):Prop
 |mk (p:_) (ws:_) (v:_) (d:_) (h0_:vs=[.ref p,v]) (h1_:Md H) (h2_:RL H p ws) (h3_:TV H v d) (h4_:∀H',Same H H'->Q (.bl (m ws d)) H'):IspR m vs H Q
def spR(m:List Str->Th->Bool):Sp:=fun vs H Q _=>IspR m vs H Q
def sp_fAu:Sp:=spR mSns
def spF(fm:Fm):Sp:=spR fun ws=>fmM ws fm
def Fs_is_what(f:Addr)(sp:Sp):Prop:=∃fm,f=fAd fm/\sp=spF fm
inductive Isp_fCj(vs:List V)(H:Hp)(Q:VK):Prop
 |mk (p:_) (ws:_) (n:_) (v:_) (d:_) (h0_:vs=[.ref p,.int n,v]) (h1_:Md H) (h2_:RL H p ws) (h3_:TV H v d) (h4_:∀H',Same H H'->Q (.bl (mWhat ws n d)) H'):Isp_fCj vs H Q
def sp_fCj:Sp:=fun vs H Q _=>Isp_fCj vs H Q
def sp_fCp:Sp:=spR mDeed
inductive Isp_fBd(vs:List V)(H:Hp)(Q:VK):Prop
 |mk (v:_) (d:_) (n:_) (h0_:vs=[v,.int n]) (h1_:TV H v d) (h2_:Q (.bl (mTup n d)) H):Isp_fBd vs H Q
theorem lenT{m:Th->Bool}{vs:List V}{H:Hp}{Q:VK}{E:XK}(h:spT m vs H Q E):vs.length=1:=by obtain⟨_,_,rfl,_⟩:=h;rfl
theorem lenR{m:List Str->Th->Bool}{vs:List V}{H:Hp}{Q:VK}{E:XK}(h:spR m vs H Q E):vs.length=2:=by obtain⟨_,_,_,_,rfl,_⟩:=h;rfl
def sp_fBd:Sp:=fun vs H Q _=>Isp_fBd vs H Q
inductive Isp_fBw(vs:List V)(H:Hp)(Q:VK):Prop
 |mk (v:_) (d:_) (n:_) (h0_:vs=[v,.int n]) (h1_:TV H v d) (h2_:Q (.bl (mNum n d)) H):Isp_fBw vs H Q
def sp_fBw:Sp:=fun vs H Q _=>Isp_fBw vs H Q
inductive Isp_fBp(vs:List V)(H:Hp)(Q:VK):Prop
 |mk (v:_) (d:_) (p:_) (zs:_) (h0_:vs=[v,.ref p]) (h1_:TV H v d) (h2_:H p=some (.tup (List.map V.str zs))) (h3_:Q (.bl (mOne zs d)) H):Isp_fBp vs H Q
def sp_fBp:Sp:=fun vs H Q _=>Isp_fBp vs H Q
def sp_fCi:Sp:=spT mWord
def sp_fCk:Sp:=spT mMain
def sp_fBf:Sp:=spT mAny
def sp_fCl:Sp:=spT mSign
def sp_fCn:Sp:=spR mHand
def sp_fCm:Sp:=spR mName
def sp_fCh:Sp:=spR mPart
def sp_fAp:Sp:=spR mLine
def sp_fAx:Sp:=spR mSn
def sp_fAb:Sp:=spR mSnN
def sp_fCo:Sp:=spR mSide
def sp_fAn:Sp:=spR mSoR
def sp_fCg:Sp:=spR mSigns
def sp_fCa:Sp:=spR mBranch
def sp_fCb:Sp:=spR mCounts
def sp_fAv:Sp:=spR fun _=>mWord
def sp_fAi:Sp:=spR fun _=>mWoN
def sp_fAh:Sp:=spR fun _=>mWoE
def sp_fCe:Sp:=spR fun _=>mTruth
def sp_fCq:Sp:=spR fun _=>(mOne ["row","column"])
def sp_fCf:Sp:=spR fun _=>(mOne ["read","note","write","give"])
def sp_fAt:Sp:=spR fun _=>(mNum 1)
section
variable {vs:List V}{H:Hp}{Q:VK}{E:XK}
theorem xAtj(h:sp_fCj vs H Q E):vs.length=3:=by obtain⟨_,_,_,_,_,rfl,_⟩:=h;rfl
theorem xAtk(h:sp_fBd vs H Q E):vs.length=2:=by obtain⟨_,_,_,rfl,_⟩:=h;rfl
theorem xAtl(h:sp_fBw vs H Q E):vs.length=2:=by obtain⟨_,_,_,rfl,_⟩:=h;rfl
theorem xAtm(h:sp_fBp vs H Q E):vs.length=2:=by obtain⟨_,_,_,_,rfl,_⟩:=h;rfl
end
theorem xAfl{ws:List Str}(hw:∀w∈ws,IsW w){ds:List PyData}(h:NameD ws ds):RName (.tuple ds) (nmT ds):=by
 obtain⟨w,n,rfl,hm,h1,h2⟩:=h;exact⟨w,n,rfl,hw w hm,⟨by omega,by omega⟩,xAed (xAbd (hw w hm))⟩
theorem xAdv{ws:List Str}(hw:∀w∈ws,IsW w){ds:List PyData}(h:PartD ws ds):RPart (.tuple ds) (nmT ds):=by
 rcases h with rfl|h
 ·exact .inl ⟨rfl,xAjj⟩
 ·exact .inr (xAfl hw h)
theorem r_sn{ws:List Str}(hw:∀w∈ws,IsW w){ds:List PyData}(h:SnD ws ds):RSn (.tuple ds) (nmT ds):=by
 obtain⟨w,n,i,rfl,hm,h1,h2,h3,h4⟩:=h;exact⟨w,n,i,rfl,hw w hm,⟨by omega,by omega⟩,⟨by omega,by omega⟩,xAed (xAbd (hw w hm))⟩
theorem xAmr{ws:List Str}(hw:∀w∈ws,IsW w){d:PyData}(h:SideD ws d):RSide d (siT d):=by
 obtain⟨ds,z,rfl,h1,h2⟩:=h;refine⟨_,_,z,rfl,r_sn hw h1,?_⟩;show(z = "ahead" /\ nmT ds++(if z = "ahead" then("<":Str) else ">")=_)\/(z = "behind" /\ nmT ds++(if z = "ahead" then("<":Str) else ">")=_);rcases h2 with rfl|rfl
 ·exact .inl ⟨rfl,by rw[if_pos rfl]⟩
 ·exact .inr ⟨rfl,by rw[if_neg (by decide +kernel)]⟩
theorem r_sign{ws:List Str}(hw:∀w∈ws,IsW w){d:PyData}(h:SignD ws d):RSign d (sgT d):=by
 rcases h with⟨c,rfl,hc⟩|⟨z,rfl,hz⟩|⟨ds,rfl,hd⟩
 ·exact .inl ⟨c,rfl,hc,rfl⟩
 ·exact .inr (.inl ⟨z,rfl,hz,rfl⟩)
 ·exact .inr (.inr ⟨_,_,rfl,xAdv hw hd,rfl⟩)
theorem r_br{ws:List Str}(hw:∀w∈ws,IsW w){d:PyData}(h:BrD ws d):RBr d (brT d):=by
 rcases h with rfl|⟨a,b,rfl,h1,h2⟩
 ·exact .inl ⟨rfl,rfl⟩
 ·exact .inr ⟨a,b,rfl,hw a h1,h2,rfl⟩
theorem xApt{z:Str}(h:(decide (0<z.cps.size)&&(decide (z.cps.size≤8)&&z.cps.toList.all fun c=>decide (97≤c/\c≤122)))=true):IsW z:=by
 simp only[Bool.and_eq_true]at h
 exact⟨of_decide_eq_true h.1,of_decide_eq_true h.2.1,fun c hc=>of_decide_eq_true (zg.mp h.2.2 c hc)⟩
theorem xAtn{ws:List Str}(hw:∀w∈ws,IsW w)(h1:1≤ws.length)(h6:ws.length≤6){num:Int}(hn:num≤1000000){wt:List PyData}(h:WhatD ws num wt):∃wds,Wt wt wds/\RWhat wt wds:=by
 have no:∀{k:Str},decide (k = "put")=false->decide (k = "out")=false->RList k [] []:=fun a b=>.no (of_decide_eq_false a) (of_decide_eq_false b)
 have mkw:∀{k:Str} {rs:List Rm} {ds:List PyData} {zs:List Str},rdsOf k=some rs->F3 rs ds zs->decide (k = "put")=false->decide (k = "out")=false->RWhat (.str k::ds) (k::zs):=fun{k rs ds zs} a b c d=>by
  have:=RWhat.mk k rs ds zs [] [] a b (no c d)
  rwa [vm,vm]at this
 have th0:∀{z:Str},IsW z->thT (.str z)=z:=fun h=>xAba (xAbd h)
 cases h with
 |nothing=>exact⟨_,.few "nothing" [] (by simp) (by decide) (fun _ z=>nomatch z),mkw (rs:=[]) rfl .nil (by decide +kernel) (by decide +kernel)⟩
 |part p hp=>exact⟨_,.names "part" [p] (by simp) (Nat.le_of_ble_eq_true rfl) (al1 (xAci hw hp)),mkw (rs:=[.part]) rfl (.cons (xAdv hw hp) .nil) (by decide +kernel) (by decide +kernel)⟩
 |move n p h1 h2=>exact⟨_,.names "move" [n,p] (by simp) (Nat.le_of_ble_eq_true rfl) (al2 (xAct hw h1) (xAci hw h2)),mkw (rs:=[.name,.part]) rfl (.cons (xAfl hw h1) (.cons (xAdv hw h2) .nil)) (by decide +kernel) (by decide +kernel)⟩
 |cut n h1=>exact⟨_,.names "cut" [n] (by simp) (Nat.le_of_ble_eq_true rfl) (al1 (xAct hw h1)),mkw (rs:=[.name]) rfl (.cons (xAfl hw h1) .nil) (by decide +kernel) (by decide +kernel)⟩
 |strike p n h1 h2=>exact⟨_,.names "strike" [p,n] (by simp) (Nat.le_of_ble_eq_true rfl) (al2 (xAci hw h1) (xAct hw h2)),mkw (rs:=[.part,.name]) rfl (.cons (xAdv hw h1) (.cons (xAfl hw h2) .nil)) (by decide +kernel) (by decide +kernel)⟩
 |put p b sg h1 h2 h3 h4 h5 =>
  refine⟨_,.put p b sg (xAci hw h1) (or_ok (fun _=>sn_ok hw) h2) h4 fun d hd=>xAth hw (h5 d hd),.mk "put" [.part,.snN] [.tuple p,b] [nmT p,thT b] [.tuple sg] (sg.map sgT) rfl (.cons (xAdv hw h1) (.cons ?_ .nil)) (.put sg _ rfl (F2.map fun d hd=>r_sign hw (h5 d hd)) (by rw[qc];exact h4))⟩;rcases h2 with rfl|⟨n,rfl,hn⟩
  ·exact .inl ⟨rfl,rfl⟩
  ·exact .inr (by rw[xAas (sn_ok hw hn)];exact r_sn hw hn)
 |out p ns h1 h2 h3 h4 h5 =>
  refine⟨_,.out p ns (xAci hw h1) h3 fun n hn=>sn_ok hw (h4 n hn),.mk "out" [.part] [.tuple p] [nmT p] [.tuple (ns.map .tuple)] (ns.map nmT) rfl (.cons (xAdv hw h1) .nil) (.out _ _ rfl ?_ (by rw[qc];exact h3))⟩
  have:∀l:List (List PyData),(∀n∈l,SnD ws n)->F2 RSn (l.map .tuple) (l.map nmT):=fun l=>by
   induction l with
   |nil=>exact fun _=>.nil
   |cons a l ih=>exact fun h=>.cons (r_sn hw (h a qm)) (ih fun x hx=>h x (qk _ hx))
  exact this ns h4
 |mark p s1 s2 z v h1 h2 h3 h4 h5 =>
  refine⟨_,.mark "mark" p s1 s2 [.str z,v] (.inl rfl) (xAci hw h1) (xAhk hw h2) (xAhk hw h3) (qp rfl) (al2 (.inr ⟨z,rfl,xAbd h4,xAao h4⟩) (wn_ok h5)),mkw (rs:=[.part,.side,.side,.plain,.plainN]) rfl (.cons (xAdv hw h1) (.cons (xAmr hw h2) (.cons (xAmr hw h3) (.cons (show RPlain (.str z) (thT (.str z)) from by rw[th0 h4];exact⟨rfl,h4⟩) (.cons ?_ .nil))))) (by decide +kernel) (by decide +kernel)⟩;rcases h5 with rfl|⟨y,rfl,hy⟩
  ·exact .inl ⟨rfl,rfl⟩
  ·exact .inr (by rw[th0 hy];exact⟨rfl,hy⟩)
 |note p s1 s2 z h1 h2 h3 h4=>exact⟨_,.mark "note" p s1 s2 [.str z] (.inr rfl) (xAci hw h1) (xAhk hw h2) (xAhk hw h3) (qp rfl) (al1 (.inr ⟨z,rfl,xAbd h4,xAao h4⟩)),mkw (rs:=[.part,.side,.side,.plain]) rfl (.cons (xAdv hw h1) (.cons (xAmr hw h2) (.cons (xAmr hw h3) (.cons (show RPlain (.str z) (thT (.str z)) from by rw[th0 h4];exact⟨rfl,h4⟩) .nil)))) (by decide +kernel) (by decide +kernel)⟩
 |line p z v h1 h2 h3 =>
  refine⟨_,.line p z v (xAci hw h1) h2 (or_ok (fun _=>xAct hw) h3),mkw (rs:=[.part,.plain,.nameN]) rfl (.cons (xAdv hw h1) (.cons ?_ (.cons ?_ .nil))) (by decide +kernel) (by decide +kernel)⟩
  ·rcases h2 with rfl|rfl
   ·exact⟨rfl,xApt (by decide +kernel)⟩
   ·exact⟨rfl,xApt (by decide +kernel)⟩
  ·rcases h3 with rfl|⟨n,rfl,hn⟩
   ·exact .inl ⟨rfl,rfl⟩
   ·exact .inr (by rw[xAas (xAct hw hn)];exact xAfl hw hn)
 |cell p a b z h1 h2 h3 h4 =>
  refine⟨_,.cell p a b z (xAci hw h1) (xAct hw h2) (xAct hw h3) (by rcases h4 with rfl|h4;decide;exact xAao h4),mkw (rs:=[.part,.name,.name,.plainE]) rfl (.cons (xAdv hw h1) (.cons (xAfl hw h2) (.cons (xAfl hw h3) (.cons ?_ .nil)))) (by decide +kernel) (by decide +kernel)⟩;rcases h4 with rfl|h4
  ·exact .inl ⟨rfl,by rw[if_pos rfl]⟩
  ·exact .inr (by rw[if_neg (xAbd h4)];exact⟨rfl,h4⟩)
 |leave p w t y h1 h2 h3 =>
  have ht:IsW t:=by
   have h0:∀t∈(["read","note","write","give"]:List Str),(decide (0<t.cps.size)&&(decide (t.cps.size≤8)&&t.cps.toList.all fun c=>decide (97≤c/\c≤122)))=true:=by decide +kernel
   exact xApt (h0 t h3)
  exact⟨_,.leave p w t y (xAci hw h1) (xAbd (hw w h2)) (xAao (hw w h2)) (xAbd ht) (xAao ht),mkw (rs:=[.part,.plain,.plain,.truth]) rfl (.cons (xAdv hw h1) (.cons ⟨rfl,hw w h2⟩ (.cons ⟨rfl,ht⟩ (.cons ⟨y,rfl,rfl⟩ .nil)))) (by decide +kernel) (by decide +kernel)⟩
 |back k n h1 h2 h3 =>
  have nb:Nb n:=⟨by omega,by omega⟩;rcases h1 with rfl|rfl
  ·exact⟨_,.few "back" [.int n] (by simp) (Nat.le_of_ble_eq_true rfl) (al1 ⟨.inr ⟨n,rfl,nb⟩,fun z=>nomatch z⟩),mkw (rs:=[.number]) rfl (.cons ⟨n,rfl,nb,rfl⟩ .nil) (by decide +kernel) (by decide +kernel)⟩
  ·exact⟨_,.few "again" [.int n] (by simp) (Nat.le_of_ble_eq_true rfl) (al1 ⟨.inr ⟨n,rfl,nb⟩,fun z=>nomatch z⟩),mkw (rs:=[.number]) rfl (.cons ⟨n,rfl,nb,rfl⟩ .nil) (by decide +kernel) (by decide +kernel)⟩
 |bring k z h1 h2 =>
  rcases h1 with rfl|rfl
  ·exact⟨_,.few "bring" [.str z] (by simp) (Nat.le_of_ble_eq_true rfl) (al1 ⟨.inl ⟨z,rfl,xAao h2⟩,fun e=>xAbd h2 (PyData.str.inj e)⟩),mkw (rs:=[.plain]) rfl (.cons ⟨rfl,h2⟩ .nil) (by decide +kernel) (by decide +kernel)⟩
  ·exact⟨_,.few "drop" [.str z] (by simp) (Nat.le_of_ble_eq_true rfl) (al1 ⟨.inl ⟨z,rfl,xAao h2⟩,fun e=>xAbd h2 (PyData.str.inj e)⟩),mkw (rs:=[.plain]) rfl (.cons ⟨rfl,h2⟩ .nil) (by decide +kernel) (by decide +kernel)⟩
 |pour cs h2 h3 =>
  cases cs with
  |nil=>rw[←h2]at h1;exact absurd h1 (by decide)
  |cons c cs =>
   rw[qy]at h2
   have nb:∀x∈c::cs,Nb x:=fun x hx=>⟨(h3 x hx).1,by have:=(h3 x hx).2;omega⟩
   refine⟨_,.pour c (cs.map .int) (by rw[qc];omega) fun x hx=>?_,mkw (rs:=[.counts]) rfl (.cons ⟨c::cs,va _ _,by rw[qy];omega,rfl,nb,?_⟩ .nil) (by decide +kernel) (by decide +kernel)⟩
   ·obtain⟨i,hi,rfl⟩:=qu.mp (show x∈(c::cs).map PyData.int from hx)
    exact .inr ⟨i,rfl,nb i hi⟩
   ·show Txt.join "," (((c::cs).map PyData.int).map strD)=_
    rw[zy];rfl
def rAd:Rm->Addr
 |.number=>a_read_number|.plain=>a_read_plain|.name=>a_read_name|.part=>a_read_part|.nameN=>a_read_name_or_none|.snN=>a_read_sign_name_or_none|.side=>a_read_side|.plainN=>a_read_plain_or_none|.plainE=>a_read_plain_or_empty|.truth=>a_read_truth|.counts=>a_read_counts
structure Mr(H:Hp):Prop where
 md:Md H
 main:H c_MAIN=some (.tup [.str "",.int 0])
 rds:∀z,match fV kv_READERS z with
  |some a=>∃rs,rdsOf z=some rs/\H a=some (.tup (rs.map fun r=>.ref (rAd r)))
  |none=>rdsOf z=none
theorem Mr.same{H H':Hp}(m:Mr H)(s:Same H H'):Mr H':=⟨m.md.same s,s _ _ m.main,fun z=>by
 have h:=m.rds z
 split at h
 ·obtain⟨fs,h1,h2⟩:=h;exact⟨fs,h1,s _ _ h2⟩
 ·exact h⟩
def N7(n:Int):Prop:=0≤n/\n<10 ^ 7
def RNum7(d:PyData)(z:Str):Prop:=∃n,d=.int n/\N7 n/\z=toString n
def RName7(d:PyData)(z:Str):Prop:=∃w n,d=.tuple [.str w,.int n]/\IsW w/\N7 n/\z=Txt.join "." [w,toString n]
inductive IspY(P:PyData->Str->Prop)(vs:List V)(H:Hp)(Q:VK)(E:XK):Prop
 |mk (z:Str) (h0:vs=[.str z]) (h1:Mr H) (h2:Shy z) (h3:z.length≤1000) (h4:∀d v H',P d z->Same H H'->DT H' v d->Q v H') (h5:(∀d,¬P d z)->∀H',Same H H'->E (.ref c_NoDeed) none H'):IspY P vs H Q E
def spY(P:PyData->Str->Prop):Sp:=fun vs H Q E=>IspY P vs H Q E
theorem lenY{P:PyData->Str->Prop}{vs:List V}{H:Hp}{Q:VK}{E:XK}(h:spY P vs H Q E):vs.length=1:=by obtain⟨_,rfl,_⟩:=h;rfl
def sp_fBa:Sp:=spY RNum7
def sp_fBg:Sp:=spY RPlain
def sp_fBz:Sp:=spY RName7
def RSn7(d:PyData)(z:Str):Prop:=∃w n i,d=.tuple [.str w,.int n,.int i]/\IsW w/\N7 n/\N7 i/\z=Txt.join "." [w,toString n,toString i]
def RIf(c:Str)(d0:PyData)(P:PyData->Str->Prop)(d:PyData)(z:Str):Prop:=(z=c/\d=d0)\/(z≠c/\P d z)
theorem RIf.no{c:Str}{d0:PyData}{P:PyData->Str->Prop}{z:Str}(e:z≠c)(no:∀d,¬P d z):∀d,¬RIf c d0 P d z:=fun d h=>by
 rcases h with⟨e',_⟩|⟨_,h⟩
 ·exact e e'
 ·exact no d h
def RTr(d:PyData)(z:Str):Prop:=∃b,d=.bool b/\z=if b=true then("yes":Str) else "no"
def sp_fAs:Sp:=spY RSn7
def sp_fCc:Sp:=spY (RIf "." (.tuple [.str "",.int 0]) RName7)
def sp_fAg:Sp:=spY (RIf "-" .none RName7)
def sp_fAa:Sp:=spY (RIf "-" .none RSn7)
def sp_fAe:Sp:=spY (RIf "-" .none RPlain)
def sp_fAc:Sp:=spY (RIf "!" (.str "") RPlain)
def sp_fBh:Sp:=spY RTr
def RCo7(d:PyData)(z:Str):Prop:=∃ds,d=.tuple ds/\F2 RNum7 ds (Txt.split z ⟨#[44]⟩)
def RBr7(d:PyData)(z:Str):Prop:=∃ds,d=.tuple ds/\F2 RPlain ds (Txt.split z ⟨#[46]⟩)
def sp_fBe:Sp:=spY RCo7
def sp_fAz:Sp:=spY (RIf "-" .none RBr7)
def RSide7(d:PyData)(z:Str):Prop:=∃ds y s,d=.tuple [ds,.str s]/\RSn7 ds y/\((s = "ahead" /\ z=y++(⟨#[60]⟩:Str))\/(s = "behind" /\ z=y++(⟨#[62]⟩:Str)))
def sp_fBu:Sp:=spY RSide7
abbrev RPart7:PyData->Str->Prop:=RIf "." (.tuple [.str "",.int 0]) RName7
inductive RSg7:PyData->Str->Prop
 |pic {w z:Str} (h:IsW w) (e:z=(⟨#[42]⟩:Str)++w):RSg7 (.tuple [.str "picture",.str w]) z
 |ref {p:PyData} {y z:Str} (h:RPart7 p y) (e:z=(⟨#[35]⟩:Str)++y):RSg7 (.tuple [.str "refer",p]) z
 |txt {z:Str} (h1:∀y,z≠(⟨#[42]⟩:Str)++y) (h2:∀y,z≠(⟨#[35]⟩:Str)++y):RSg7 (.str (if z=("_":Str) then " " else z)) z
def sp_fBy:Sp:=spY RSg7
inductive RLi7(k:Str):List PyData->List Str->Prop
 |put {sg:List PyData} {ys:List Str} (hk:k=("put":Str)) (h:F2 RSg7 sg ys):RLi7 k [.tuple sg] ys
 |out {sg:List PyData} {ys:List Str} (h0:k≠("put":Str)) (hk:k=("out":Str)) (h:F2 RSn7 sg ys):RLi7 k [.tuple sg] ys
 |no (h0:k≠("put":Str)) (h1:k≠("out":Str)):RLi7 k [] []
theorem RLi7.few{k:Str}{es:List PyData}{ys:List Str}(h:RLi7 k es ys):es.length≤1:=by cases h <;> exact qp rfl
structure Wds(ys:List Str):Prop where
 few:ys.length≤1001
 shy:∀y∈ys,Shy y/\y.length≤1000
inductive IspLi(vs:List V)(H:Hp)(Q:VK)(E:XK):Prop
 |mk (k:Str) (p:Addr) (ys:List Str) (h0:vs=[.str k,.ref p]) (h1:Mr H) (h2:Shy k) (h3:H p=some (.lst (ys.map V.str))) (h4:Wds ys)
   (h5:∀es q xs H',RLi7 k es ys->H q=none->Same H H'->H' q=some (.lst xs)->DTs H' xs es->Q (.ref q) H') (h6:(∀es,¬RLi7 k es ys)->∀H',Same H H'->E (.ref c_NoDeed) none H'):IspLi vs H Q E
def sp_fBc:Sp:=fun vs H Q E=>IspLi vs H Q E
theorem xAto{vs:List V}{H:Hp}{Q:VK}{E:XK}(h:sp_fBc vs H Q E):vs.length=2:=by obtain⟨_,_,_,rfl,_⟩:=h;rfl
def rd7:Rm->PyData->Str->Prop
 |.number=>RNum7|.plain=>RPlain|.name=>RName7|.part=>RPart7|.nameN=>RIf "-" .none RName7|.snN=>RIf "-" .none RSn7|.side=>RSide7|.plainN=>RIf "-" .none RPlain|.plainE=>RIf "!" (.str "") RPlain|.truth=>RTr|.counts=>RCo7
def F3z(rs:List Rm)(ds:List PyData)(zs:List Str):Prop:=ds.length=min rs.length zs.length/\∀(i:Nat) (r:Rm) (z:Str),rs[i]?=some r->zs[i]?=some z->∃d,ds[i]?=some d/\rd7 r d z
inductive RWh7:List PyData->List Str->Prop
 |mk {k:Str} {rest:List Str} {rs:List Rm} {ds es:List PyData} (h1:rdsOf k=some rs) (h2:F3z rs ds rest) (h3:RLi7 k es (rest.drop rs.length)):RWh7 (.str k::(ds++es)) (k::rest)
inductive IspWh(vs:List V)(H:Hp)(Q:VK)(E:XK):Prop
 |mk (p:Addr) (zs:List Str) (h0:vs=[.ref p]) (h1:Mr H) (h3:H p=some (.lst (zs.map V.str))) (h4:Wds zs)
   (h5:∀ds v H',RWh7 ds zs->Same H H'->DT H' v (.tuple ds)->Q v H') (h6:(∀ds,¬RWh7 ds zs)->∀H',Same H H'->E (.ref c_NoDeed) none H'):IspWh vs H Q E
def sp_fBo:Sp:=fun vs H Q E=>IspWh vs H Q E
theorem xAtp{vs:List V}{H:Hp}{Q:VK}{E:XK}(h:sp_fBo vs H Q E):vs.length=1:=by obtain⟨_,_,rfl,_⟩:=h;rfl
def Fs_read_what(f:Addr)(sp:Sp):Prop:=∃r,f=rAd r/\sp=spY (rd7 r)
inductive RDe7:PyData->Str->Prop
 |mk {z w zn zc zb:Str} {rest:List Str} {n c b:PyData} {ds:List PyData} (h0:Txt.split z ⟨#[32]⟩=w::zn::zc::zb::rest) (h1:RNum7 n zn) (h2:RCo7 c zc) (h3:RIf "-" .none RBr7 b zb) (h4:RWh7 ds rest):RDe7 (.tuple [.str w,n,c,b,.tuple ds]) z
theorem f2_ok{P:PyData->Str->Prop}(h0:∀d z,z.length≤1000->P d z->okL d=true):∀{ds:List PyData} {zs:List Str},(∀z∈zs,z.length≤1000)->F2 P ds zs->okLs ds=true
 |_,_,_,.nil=>rfl
 |_,_,hz,.cons h t=>(qr _ _).mpr ⟨h0 _ _ (hz _ qm) h,f2_ok h0 (fun z h=>hz z (qk _ h)) t⟩
theorem xAtq{P:PyData->Str->Prop}(h0:∀d z,P d z->okL d=true):∀{ds:List PyData} {zs:List Str},F2 P ds zs->okLs ds=true
 |_,_,.nil=>rfl
 |_,_,.cons h t=>(qr _ _).mpr ⟨h0 _ _ h,xAtq h0 t⟩
theorem xAko{d:PyData}{z:Str}(h:RNum7 d z):okL d=true:=by obtain⟨n,rfl,_⟩:=h;rfl
theorem xAdh{d:PyData}{z:Str}(h:RPlain d z):okL d=true:=by obtain⟨rfl,h⟩:=h;exact decide_eq_true (isW_k h)
theorem xAgb{d:PyData}{z:Str}(h:RName7 d z):okL d=true:=by
 obtain⟨w,n,rfl,h,_⟩:=h;show(decide (w.length≤1000)&&true)=true;rw[decide_eq_true (isW_k h)];rfl
theorem xApu{d:PyData}{z:Str}(h:RSn7 d z):okL d=true:=by
 obtain⟨w,n,i,rfl,h,_⟩:=h;show(decide (w.length≤1000)&&true)=true;rw[decide_eq_true (isW_k h)];rfl
theorem xAia{c:Str}{d0:PyData}{P:PyData->Str->Prop}(h0:okL d0=true)(hP:∀{d z},P d z->okL d=true){d:PyData}{z:Str}(h:RIf c d0 P d z):okL d=true:=by
 rcases h with⟨_,rfl⟩|⟨_,h⟩
 ·exact h0
 ·exact hP h
theorem xAkp{d:PyData}{z:Str}(h:RPart7 d z):okL d=true:=xAia (by decide +kernel) xAgb h
theorem xAtr{r:Rm}{d:PyData}{z:Str}(hz:z.length≤1000)(h:rd7 r d z):okL d=true:=by
 have sp:∀{s:Nat},∀y∈Txt.split z ⟨#[s]⟩,y.length≤1000:=fun y hy=>qf (xAbw hy).2 hz
 cases r with
 |number=>exact xAko h
 |plain=>exact xAdh h
 |name=>exact xAgb h
 |part=>exact xAkp h
 |nameN=>exact xAia rfl xAgb h
 |snN=>exact xAia rfl xApu h
 |side =>
  obtain⟨ds,y,s,rfl,h1,h2⟩:=h;show(okL ds&&(decide (s.length≤1000)&&true))=true;rw[xApu h1];rcases h2 with⟨rfl,_⟩|⟨rfl,_⟩ <;> decide +kernel
 |plainN=>exact xAia rfl xAdh h
 |plainE=>exact xAia (by decide +kernel) xAdh h
 |truth=>obtain⟨b,rfl,_⟩:=h;rfl
 |counts =>
  obtain⟨ds,rfl,h⟩:=h;exact f2_ok (fun _ _ _=>xAko) sp h
theorem sg_okL{d:PyData}{z:Str}(hz:z.length≤1000)(h:RSg7 d z):okL d=true:=by
 cases h with
 |@pic w _ h e =>
  show(decide (("picture":Str).length≤1000)&&(decide (w.length≤1000)&&true))=true;rw[decide_eq_true (isW_k h)];decide +kernel
 |ref h e =>
  show(decide (("refer":Str).length≤1000)&&(okL _&&true))=true;rw[xAkp h];decide +kernel
 |txt h1 h2 =>
  split
  ·decide +kernel
  ·exact decide_eq_true hz
theorem wh_okL{ds:List PyData}{zs:List Str}(hz:∀z∈zs,z.length≤1000)(h:RWh7 ds zs):okLs ds=true:=by
 cases h with
 |@mk k rest rs ds es h1 h2 h3 =>
  refine xAke fun d hd=>?_;rcases qw.mp hd with rfl|hd
  ·exact decide_eq_true (hz _ qm)
  rcases q0.mp hd with hd|hd
  ·obtain⟨i,hi,rfl⟩:=yo hd
   have e:=h2.1
   have h4:i<rs.length:=by omega
   have h5:i<rest.length:=by omega
   obtain⟨d,e1,e2⟩:=h2.2 i _ _ (qj h4) (qj h5);rw[qj hi]at e1;rw[Option.some.inj e1];exact xAtr (hz _ (qk _ (yg h5))) e2
  ·have hz':∀z∈rest.drop rs.length,z.length≤1000:=fun z h=>hz z (qk _ (yi h))
   generalize rest.drop rs.length=ys at h3 hz'
   cases h3 with
   |put hk h =>
    rw[zd.mp hd];exact f2_ok (fun _ _=>sg_okL) hz' h
   |out h0 hk h =>
    rw[zd.mp hd];exact f2_ok (fun _ _ _=>xApu) hz' h
   |no h0 h1=>exact nomatch hd
theorem xAts{d:PyData}{z:Str}(hw:Wds (Txt.split z ⟨#[32]⟩))(h:RDe7 d z):okL d=true:=by
 cases h with
 |@mk z w zn zc zb rest n c b ds h0 h1 h2 h3 h4 =>
  rw[h0]at hw;have hz:∀y∈w::zn::zc::zb::rest,y.length≤1000:=fun y h=>(hw.shy y h).2;show(decide (w.length≤1000)&&(okL n&&(okL c&&(okL b&&(okLs ds&&true)))))=true;have hc:okL c=true:=xAtr (r:=.counts) (hz zc (by simp)) h2
  have hb:okL b=true:=xAia rfl (fun{d y} h=>by
   obtain⟨ds,rfl,h⟩:=h
   exact xAtq (fun _ _=>xAdh) h) h3
  rw[decide_eq_true (hz w List.mem_cons_self),xAko h1,hc,hb,wh_okL (fun y h=>hz y (by simp[h])) h4];rfl
def Un(P:PyData->Str->Prop):Prop:=∀(d d':PyData) (z:Str),P d z->P d' z->d=d'
theorem un_f2{P:PyData->Str->Prop}(h0:Un P):∀{ds ds':List PyData} {zs:List Str},F2 P ds zs->F2 P ds' zs->ds=ds'
 |_,_,_,.nil,.nil=>rfl
 |_,_,_,.cons h t,.cons h' t'=>by rw[h0 _ _ _ h h',un_f2 h0 t t']
theorem xAms:Un RNum7:=fun _ _ _ ⟨n,e,h,e1⟩ ⟨m,e',h',e1'⟩=>by rw[e,e',xAdg h.1 h'.1 (e1.symm.trans e1')]
theorem xAer:Un RPlain:=fun _ _ _ ⟨e,_⟩ ⟨e',_⟩=>e.trans e'.symm
theorem nm_sp{w:Str}{n:Int}(hw:IsW w)(hn:N7 n):Txt.split (Txt.join "." [w,toString n]) "."=[w,toString n]:=sp46 (va _ _) fun x hx=>by
 simp only[List.mem_cons,List.not_mem_nil,or_false]at hx
 rcases hx with rfl|rfl
 ·exact w46 hw
 ·exact n46' hn.1
theorem sn_sp{w:Str}{n i:Int}(hw:IsW w)(hn:N7 n)(hi:N7 i):Txt.split (Txt.join "." [w,toString n,toString i]) "."=[w,toString n,toString i]:=sp46 (va _ _) fun x hx=>by
 simp only[List.mem_cons,List.not_mem_nil,or_false]at hx
 rcases hx with rfl|rfl|rfl
 ·exact w46 hw
 ·exact n46' hn.1
 ·exact n46' hi.1
theorem xAhl:Un RName7:=fun _ _ _ ⟨w,n,e,hw,hn,ez⟩ ⟨w',n',e',hw',hn',ez'⟩=>by
 have h:=nm_sp hw hn;rw[←ez,ez',nm_sp hw' hn']at h;injection h with h1 h;injection h with h2 _;rw[e,e',h1,xAdg hn'.1 hn.1 h2]
theorem un_sn:Un RSn7:=fun _ _ _ ⟨w,n,i,e,hw,hn,hi,ez⟩ ⟨w',n',i',e',hw',hn',hi',ez'⟩=>by
 have h:=sn_sp hw hn hi;rw[←ez,ez',sn_sp hw' hn' hi']at h;injection h with h1 h;injection h with h2 h;injection h with h3 _;rw[e,e',h1,xAdg hn'.1 hn.1 h2,xAdg hi'.1 hi.1 h3]
theorem un_if{c:Str}{d0:PyData}{P:PyData->Str->Prop}(h0:Un P):Un (RIf c d0 P):=fun _ _ _ h h'=>by
 rcases h with⟨e,h⟩|⟨e,h⟩ <;> rcases h' with⟨e',h'⟩|⟨e',h'⟩
 ·exact h.trans h'.symm
 ·exact absurd e e'
 ·exact absurd e' e
 ·exact h0 _ _ _ h h'
theorem un_rd:∀r,Un (rd7 r)
 |.number=>xAms
 |.plain=>xAer
 |.name=>xAhl
 |.part=>un_if xAhl
 |.nameN=>un_if xAhl
 |.snN=>un_if un_sn
 |.side=>fun _ _ _ ⟨ds,y,s,e,h,h2⟩ ⟨ds',y',s',e',h',h2'⟩=>by
  rcases h2 with⟨rfl,hz⟩|⟨rfl,hz⟩ <;> rcases h2' with⟨rfl,hz'⟩|⟨rfl,hz'⟩
  ·have:=(xAbx (hz.symm.trans hz')).1;subst this;rw[e,e',un_sn _ _ _ h h']
  ·exact absurd (xAbx (hz.symm.trans hz')).2 (by decide)
  ·exact absurd (xAbx (hz.symm.trans hz')).2 (by decide)
  ·have:=(xAbx (hz.symm.trans hz')).1;subst this;rw[e,e',un_sn _ _ _ h h']
 |.plainN=>un_if xAer
 |.plainE=>un_if xAer
 |.truth=>fun _ _ _ ⟨b,e,h⟩ ⟨b',e',h'⟩=>by
  rw[e,e'];rw[h]at h'
  cases b <;> cases b' <;> first|rfl|exact absurd h' (by decide +kernel)
 |.counts=>fun _ _ _ ⟨ds,e,h⟩ ⟨ds',e',h'⟩=>by rw[e,e',un_f2 xAms h h']
theorem un_sg:Un RSg7:=fun _ _ _ h h'=>by
 cases h with
 |pic h e =>
  cases h' with
  |pic h' e'=>rw[(xAch (e.symm.trans e')).2]
  |ref h' e'=>exact absurd (xAch (e.symm.trans e')).1 (by decide)
  |txt h1 h2=>exact absurd e (h1 _)
 |ref h e =>
  cases h' with
  |pic h' e'=>exact absurd (xAch (e.symm.trans e')).1 (by decide)
  |ref h' e' =>
   have:=(xAch (e.symm.trans e')).2;subst this;rw[un_if xAhl _ _ _ h h']
  |txt h1 h2=>exact absurd e (h2 _)
 |txt h1 h2 =>
  cases h' with
  |pic h' e'=>exact absurd e' (h1 _)
  |ref h' e'=>exact absurd e' (h2 _)
  |txt _ _=>rfl
theorem un_wh{ds ds':List PyData}{zs:List Str}(h:RWh7 ds zs)(h':RWh7 ds' zs):ds=ds':=by
 cases h with
 |@mk k rest rs ds es h1 h2 h3 =>
  cases h' with
  |@mk _ _ rs' ds' es' h1' h2' h3' =>
   rw[h1]at h1';cases h1'
   have e1:ds=ds':=by
    refine gc fun i=>?_
    by_cases hi:i<min rs.length rest.length
    ·obtain⟨d,a1,a2⟩:=h2.2 i _ _ (qj (by omega)) (qj (by omega))
     obtain⟨d',b1,b2⟩:=h2'.2 i _ _ (qj (by omega)) (qj (by omega));rw[a1,b1,un_rd _ _ _ _ a2 b2]
    ·rw[gi (by rw[h2.1];omega),gi (by rw[h2'.1];omega)]
   have e2:es=es':=by
    generalize rest.drop rs.length=ys at h3 h3'
    cases h3 with
    |put hk h =>
     cases h3' with
     |put _ h'=>rw[un_f2 un_sg h h']
     |out h0 _ _=>exact absurd hk h0
     |no h0 _=>exact absurd hk h0
    |out h0 hk h =>
     cases h3' with
     |put hk' _=>exact absurd hk' h0
     |out _ _ h'=>rw[un_f2 un_sn h h']
     |no _ h1=>exact absurd hk h1
    |no h0 h1 =>
     cases h3' with
     |put hk _=>exact absurd hk h0
     |out _ hk _=>exact absurd hk h1
     |no _ _=>rfl
   rw[e1,e2]
theorem un_de:Un RDe7:=fun _ _ _ h h'=>by
 cases h with
 |mk h0 h1 h2 h3 h4 =>
  cases h' with
  |mk h0' h1' h2' h3' h4' =>
   rw[h0]at h0';cases h0';obtain⟨ds,e,h2⟩:=h2;obtain⟨ds',e',h2'⟩:=h2';rw[xAms _ _ _ h1 h1',e,e',un_f2 xAms h2 h2',un_wh h4 h4',un_if (fun _ _ _ ⟨ds,e,h⟩ ⟨ds',e',h'⟩=>by rw[e,e',un_f2 xAer h h']) _ _ _ h3 h3']
inductive IspDe(vs:List V)(H:Hp)(Q:VK)(E:XK):Prop
 |mk (p:Addr) (ws:List Str) (z:Str) (h0:vs=[.ref p,.str z]) (h1:Mr H) (h2:RL H p ws) (h3:Shy z) (h4:z.length≤10000) (h5:Wds (Txt.split z ⟨#[32]⟩))
   (h6:∀d v H',RDe7 d z->mDeed ws (thD d)=true->Same H H'->DT H' v d->Q v H') (h7:(∀d,RDe7 d z->mDeed ws (thD d)=false)->∀H',Same H H'->E (.ref c_NoDeed) none H'):IspDe vs H Q E
def sp_fBx:Sp:=fun vs H Q E=>IspDe vs H Q E
theorem xAtt{vs:List V}{H:Hp}{Q:VK}{E:XK}(h:sp_fBx vs H Q E):vs.length=2:=by obtain⟨_,_,_,rfl,_⟩:=h;rfl
theorem xAgc{ws:List Str}{d:PyData}{z:Str}(h:RName7 d z)(m:mName ws (thD d)=true):∃p,d=.tuple p/\NmOk p/\z=nmT p:=by
 obtain⟨w,n,rfl,hw,hn,rfl⟩:=h;have m:((wordS w&&decide (1≤n/\n≤1000000))&&decide (w∈ws))=true:=m;rw[qr,qr]at m;have m:=of_decide_eq_true m.1.2;exact⟨_,rfl,nn2 hw ⟨by omega,by omega⟩,(xAed (r:=[.int n]) (xAbd hw)).symm⟩
theorem p_sn{ws:List Str}{d:PyData}{z:Str}(h:RSn7 d z)(m:mSn ws (thD d)=true):∃p,d=.tuple p/\NmOk p/\z=nmT p:=by
 obtain⟨w,n,i,rfl,hw,hn,hi,rfl⟩:=h;have m:(((wordS w&&decide (1≤n/\n≤1000000))&&decide (w∈ws))&&decide (0≤i/\i≤1000000))=true:=m;rw[qr,qr,qr]at m;have m1:=of_decide_eq_true m.1.1.2;have m2:=of_decide_eq_true m.2;exact⟨_,rfl,nn3 hw ⟨by omega,by omega⟩ ⟨by omega,by omega⟩,(xAed (r:=[.int n,.int i]) (xAbd hw)).symm⟩
theorem xAdw{ws:List Str}{d:PyData}{z:Str}(h:RPart7 d z)(m:mPart ws (thD d)=true):∃p,d=.tuple p/\NmOk p/\z=nmT p:=by
 rcases h with⟨rfl,rfl⟩|⟨_,h⟩
 ·exact⟨_,rfl,.inl rfl,xAjj.symm⟩
 ·refine xAgc (ws:=ws) h ?_
  unfold mPart at m;rcases jw _ _|>.mp m with m|m
  ·obtain⟨w,n,rfl,hw,hn,rfl⟩:=h
   have m:(decide (w∈([""]:List Str))&&decide (n=0))=true:=m;rw[qr]at m;exact absurd (zd.mp (of_decide_eq_true m.1)) (xAbd hw)
  ·exact m
theorem p_nN{ws:List Str}{d:PyData}{z:Str}(h:RIf "-" .none RName7 d z)(m:mLine ws (thD d)=true):(d=.none\/∃n,d=.tuple n/\NmOk n)/\z=thT d:=by
 rcases h with⟨rfl,rfl⟩|⟨_,h⟩
 ·exact⟨.inl rfl,rfl⟩
 ·have h':=h
  obtain⟨w,n,rfl,hw,hn,_⟩:=h';obtain⟨p,e,ok,ez⟩:=xAgc (ws:=ws) h m;rw[e];exact⟨.inr ⟨p,rfl,ok⟩,ez.trans (xAas ok).symm⟩
theorem p_sN{ws:List Str}{d:PyData}{z:Str}(h:RIf "-" .none RSn7 d z)(m:mSnN ws (thD d)=true):(d=.none\/∃n,d=.tuple n/\NmOk n)/\z=thT d:=by
 rcases h with⟨rfl,rfl⟩|⟨_,h⟩
 ·exact⟨.inl rfl,rfl⟩
 ·have h':=h
  obtain⟨w,n,i,rfl,hw,hn,_⟩:=h';obtain⟨p,e,ok,ez⟩:=p_sn (ws:=ws) h m;rw[e];exact⟨.inr ⟨p,rfl,ok⟩,ez.trans (xAas ok).symm⟩
theorem xAmt{ws:List Str}{d:PyData}{z:Str}(h:RSide7 d z)(m:mSide ws (thD d)=true):SiOk d/\z=siT d:=by
 obtain⟨ds,y,s,rfl,h1,h2⟩:=h;have m:(mSn ws (thD ds)&&mOne ["ahead","behind"] (.str s))=true:=m;rw[qr]at m;obtain⟨p,rfl,ok,rfl⟩:=p_sn h1 m.1;rcases h2 with⟨rfl,rfl⟩|⟨rfl,rfl⟩
 ·exact⟨⟨p,_,rfl,ok,.inl rfl⟩,by show _=nmT p++(if("ahead":Str) = "ahead" then("<":Str) else ">");rw[if_pos rfl];rfl⟩
 ·exact⟨⟨p,_,rfl,ok,.inr rfl⟩,by show _=nmT p++(if("behind":Str) = "ahead" then("<":Str) else ">");rw[if_neg (by decide +kernel)];rfl⟩
theorem p_sg{ws:List Str}{d:PyData}{z:Str}(h:RSg7 d z)(hb:32∉z.cps.toList)(m:mSoR ws (thD d)=true):SgOk d/\z=sgT d:=by
 cases h with
 |pic h e=>exact⟨.inr (.inl ⟨_,rfl,xAao h,xAbt h⟩),e⟩
 |@ref p y _ h e =>
  have m:(mSign (.tup [.str "refer",thD p])&&(mOne ["picture"] (.str "refer")||mPart ws (thD p)))=true:=m;rw[qr,jw]at m;have m2:=m.2.resolve_left (by decide +kernel);obtain⟨q,rfl,ok,rfl⟩:=xAdw h m2;exact⟨.inr (.inr ⟨q,rfl,ok⟩),e⟩
 |txt h1 h2 =>
  by_cases e:z=("_":Str)
  ·subst e
   rw[if_pos rfl];exact⟨.inl ⟨_,rfl,by decide +kernel,by decide +kernel⟩,by decide +kernel⟩
  ·rw[if_neg e]at m ⊢
   have m:(decide (z.length=1)&&(wordS z||decide (z∈([" ",".",","]:List Str))))=true:=m;rw[qr,jw]at m
   have hne:z≠(" ":Str):=fun e=>by
    subst e;exact hb (by decide +kernel)
   refine⟨.inl ⟨z,rfl,by have:=of_decide_eq_true m.1;omega,?_⟩,by show z=if z=(" ":Str) then _ else _;rw[if_neg hne]⟩;rcases m.2 with m|m
   ·exact xAbt (xAga m)
   ·have h0:∀y∈([" ",".",","]:List Str),PyData.strOk y=true:=by decide +kernel
    exact h0 z (of_decide_eq_true m)
theorem p_wN{d:PyData}{z:Str}(h:RIf "-" .none RPlain d z):WnOk d/\z=thT d:=by
 rcases h with⟨rfl,rfl⟩|⟨_,rfl,o⟩
 ·exact⟨.inl rfl,rfl⟩
 ·exact⟨.inr ⟨_,rfl,xAbd o,xAao o⟩,(xAba (xAbd o)).symm⟩
theorem xAmu{P:PyData->Str->Prop}{f:PyData->Str}:∀{ds:List PyData} {zs:List Str},F2 P ds zs->(∀d z,d∈ds->z∈zs->P d z->z=f d)->zs=ds.map f
 |_,_,.nil,_=>rfl
 |_,_,.cons h t,k=>by
  rw[qo,←k _ _ qm qm h,←xAmu t fun d z h1 h2=>k d z (qk _ h1) (qk _ h2)]
theorem xAkq{P:PyData->Str->Prop}{R:PyData->Prop}:∀{ds:List PyData} {zs:List Str},F2 P ds zs->(∀d z,d∈ds->z∈zs->P d z->R d)->∀d∈ds,R d
 |_,_,.nil,_=>fun _ h=>nomatch h
 |_,_,.cons h t,k=>fun d hd=>by
  rcases qw.mp hd with rfl|hd
  ·exact k _ _ qm qm h
  ·exact xAkq t (fun d z h1 h2=>k d z (qk _ h1) (qk _ h2)) d hd
inductive F7:List Rm->List PyData->List Str->List Str->Prop
 |nil {r:List Str}:F7 [] [] r r
 |cons {r:Rm} {rs:List Rm} {d:PyData} {ds:List PyData} {z:Str} {zs e:List Str} (h:rd7 r d z) (t:F7 rs ds zs e):F7 (r::rs) (d::ds) (z::zs) e
theorem F3z.f7:∀{rs:List Rm} {ds:List PyData} {zs:List Str},F3z rs ds zs->ds.length=rs.length->F7 rs ds zs (zs.drop rs.length)
 |[],ds,zs,h,e=>by
  have:ds=[]:=List.eq_nil_of_length_eq_zero e;subst this;exact .nil
 |r::rs,d::ds,z::zs,h,e=>by
  obtain⟨d',e1,e2⟩:=h.2 0 r z rfl rfl;cases e1;refine .cons e2 (F3z.f7 ⟨?_,fun i r z h1 h2=>h.2 (i+1) r z h1 h2⟩ (Nat.succ.inj e));have:=h.1
  simp only[List.length_cons]at this
  omega
 |r::rs,[],_,h,e=>nomatch e
 |r::rs,d::ds,[],h,e=>by
  have:=h.1
  simp at this
theorem li_no{k:Str}{es:List PyData}{ys:List Str}(h:RLi7 k es ys)(h1:decide (k=("put":Str))=false)(h2:decide (k=("out":Str))=false):es=[]/\ys=[]:=by
 cases h with
 |put hk _=>exact absurd hk (of_decide_eq_false h1)
 |out _ hk _=>exact absurd hk (of_decide_eq_false h2)
 |no _ _=>exact⟨rfl,rfl⟩
theorem co_ok{ws:List Str}{d:PyData}{z:Str}(h:RCo7 d z)(m:mCounts ws (thD d)=true):∃ds,d=.tuple ds/\ds.length=ws.length/\(∀x∈ds,∃i,x=.int i/\Nb i)/\z=Txt.join "," (ds.map strD):=by
 obtain⟨ds,rfl,h⟩:=h;have m:(decide ((thDs ds).length=ws.length)&&(thDs ds).all (mNum 0))=true:=m;rw[qr,zg,xAdq]at m;have hl:=of_decide_eq_true m.1;rw[qc]at hl
 have hx:∀x∈ds,∃i,x=.int i/\Nb i:=xAkq h fun d z hd _ hp=>by
  obtain⟨n,rfl,hn,_⟩:=hp;have:=m.2 _ (qu.mpr ⟨_,hd,rfl⟩);have:=of_decide_eq_true (show decide (0≤n/\n≤1000000)=true from this);exact⟨n,rfl,by omega,by omega⟩
 refine⟨ds,rfl,hl,hx,?_⟩
 have e:=xAmu (f:=strD) h fun d z _ _ hp=>by obtain⟨n,rfl,_,e⟩:=hp;exact e
 rw[←e];exact xAdt rfl
theorem rd_wt{ws:List Str}{n:Int}(h1:1≤ws.length)(h6:ws.length≤6){ds:List PyData}{zs:List Str}(hb:∀y∈zs,32∉y.cps.toList)(h:RWh7 ds zs)(hm:mWhat ws n (.tup (thDs ds))=true):Wt ds zs:=by
 cases h with
 |@mk k rest rs ds es hk hf hl =>
  have go:∀{fs:List Fm},fmsOf k=some fs->ds.length+es.length=fs.length/\all2 ws fs (thDs (ds++es))=true:=fun{fs} e=>by
   have e2:=xAkd (ws:=ws) (n:=n) (ts:=thDs (ds++es)) e;have hm:mWhat ws n (.tup (.str k::thDs (ds++es)))=true:=hm;rw[hm]at e2;have e2:=e2.symm;rw[qr,qr]at e2;refine⟨?_,e2.2.1⟩;have:=of_decide_eq_true e2.1;rw[xAdq,qc,ql]at this;exact this
  have two:∀{a b:Bool},(a&&b)=true->a=true/\b=true:=fun h=>(qr _ _).mp h;have hk':=xAki hk
  simp only[rdsL,List.mem_cons,Prod.mk.injEq,List.not_mem_nil,or_false]at hk'
  have pl:∀{rs:List Rm} {fs:List Fm},rs.length=fs.length->F3z rs ds rest->RLi7 k es (rest.drop rs.length)->decide (k=("put":Str))=false->decide (k=("out":Str))=false->fmsOf k=some fs->∃e,e=[]/\F7 rs ds rest e/\es=[]/\all2 ws fs (thDs ds)=true:=fun hr hf hl a b e=>by
   obtain⟨e1,e2⟩:=li_no hl a b;have g:=go e;rw[e1,vm,yx]at g;exact⟨_,e2,hf.f7 (by omega),e1,g.2⟩
  rcases hk' with⟨rfl,rfl⟩|⟨rfl,rfl⟩|⟨rfl,rfl⟩|⟨rfl,rfl⟩|⟨rfl,rfl⟩|⟨rfl,rfl⟩|⟨rfl,rfl⟩|⟨rfl,rfl⟩|⟨rfl,rfl⟩|⟨rfl,rfl⟩|⟨rfl,rfl⟩|⟨rfl,rfl⟩|⟨rfl,rfl⟩|⟨rfl,rfl⟩|⟨rfl,rfl⟩|⟨rfl,rfl⟩|⟨rfl,rfl⟩
  ·obtain⟨e,he,F,rfl,A⟩:=pl (fs:=[]) rfl hf hl (by decide +kernel) (by decide +kernel) rfl
   rcases F with⟨⟩;subst he;exact .few "nothing" [] (by simp) (by decide) (fun _ z=>nomatch z)
  ·obtain⟨e,he,F,rfl,A⟩:=pl (fs:=[.part]) rfl hf hl (by decide +kernel) (by decide +kernel) rfl
   rcases F with _|⟨g0,⟨⟩⟩;subst he;obtain⟨p,rfl,ok,rfl⟩:=xAdw g0 (two A).1;exact .names "part" [p] (by simp) (Nat.le_of_ble_eq_true rfl) (al1 ok)
  ·obtain⟨e,he,F,rfl,A⟩:=pl (fs:=[.name,.part]) rfl hf hl (by decide +kernel) (by decide +kernel) rfl
   rcases F with _|⟨g0,_|⟨g1,⟨⟩⟩⟩;subst he;obtain⟨p,rfl,ok,rfl⟩:=xAgc g0 (two A).1;obtain⟨q,rfl,ok2,rfl⟩:=xAdw g1 (two (two A).2).1;exact .names "move" [p,q] (by simp) (Nat.le_of_ble_eq_true rfl) (al2 ok ok2)
  ·obtain⟨e,he,F,rfl,A⟩:=pl (fs:=[.name]) rfl hf hl (by decide +kernel) (by decide +kernel) rfl
   rcases F with _|⟨g0,⟨⟩⟩;subst he;obtain⟨p,rfl,ok,rfl⟩:=xAgc g0 (two A).1;exact .names "cut" [p] (by simp) (Nat.le_of_ble_eq_true rfl) (al1 ok)
  ·have g:=go (fs:=[.part,.snn,.signs]) rfl
   have hd:es.length=1:=by
    generalize rest.drop _=ys at hl
    cases hl with
    |put _ _=>rfl
    |out h0 _ _=>exact absurd rfl h0
    |no h0 _=>exact absurd rfl h0
   have hf:=hf.f7 (by have:=g.1;rw[hd]at this;exact Nat.succ.inj this);generalize rest.drop ([Rm.part,Rm.snN]:List Rm).length=ys at hl hf;rcases hf with _|⟨g0,_|⟨g1,⟨⟩⟩⟩
   cases hl with
   |out h0 _ _=>exact absurd rfl h0
   |no h0 _=>exact absurd rfl h0
   |@put sg _ hk h =>
    have A:=g.2;obtain⟨p,rfl,ok,rfl⟩:=xAdw g0 (two A).1;obtain⟨hb2,rfl⟩:=p_sN g1 (two (two A).2).1;have A3:(decide (1≤(thDs sg).length/\(thDs sg).length≤12)&&(thDs sg).all (mSoR ws))=true:=(two (two (two A).2).2).1;rw[xAdq]at A3;have A4:=zg.mp (two A3).2;have A5:=(of_decide_eq_true (two A3).1).2;rw[qc]at A5
    have key:∀d z,d∈sg->z∈ys->RSg7 d z->SgOk d/\z=sgT d:=fun d z hd hz hp=>p_sg hp (hb z (by simp[hz])) (A4 _ (List.mem_map.mpr ⟨d,hd,rfl⟩))
    have e:=xAmu (f:=sgT) h fun d z h1 h2 h3=>(key d z h1 h2 h3).2;subst e;exact .put p _ sg ok hb2 A5 (xAkq h fun d z h1 h2 h3=>(key d z h1 h2 h3).1)
  ·have g:=go (fs:=[.part,.sns]) rfl
   have hd:es.length=1:=by
    generalize rest.drop _=ys at hl
    cases hl with
    |put h0 _=>exact absurd h0 (by decide +kernel)
    |out h0 _ _=>rfl
    |no _ h0=>exact absurd rfl h0
   have hf:=hf.f7 (by have:=g.1;rw[hd]at this;exact Nat.succ.inj this);generalize rest.drop ([Rm.part]:List Rm).length=ys at hl hf;rcases hf with _|⟨g0,⟨⟩⟩
   cases hl with
   |put h0 _=>exact absurd h0 (by decide +kernel)
   |no _ h0=>exact absurd rfl h0
   |@out sg _ h0 hk h =>
    have A:=g.2;obtain⟨p,rfl,ok,rfl⟩:=xAdw g0 (two A).1;have A3:(decide (1≤(thDs sg).length/\(thDs sg).length≤12)&&((thDs sg).all (mSn ws)&&decide (((thDs sg).map snK).Nodup)))=true:=(two (two A).2).1;have A4:=zg.mp (two (two A3).2).1;have A5:=(of_decide_eq_true (two A3).1).2;rw[xAdq]at A4 A5;rw[qc]at A5;have key:∀d z,d∈sg->z∈ys->RSn7 d z->∃p,d=.tuple p/\NmOk p/\z=nmT p:=fun d z hd hz hp=>p_sn hp (A4 _ (qu.mpr ⟨d,hd,rfl⟩))
    obtain⟨ns,rfl⟩:∃ns:List (List PyData),sg=ns.map .tuple:=by
     have:∀l:List PyData,(∀d∈l,∃p,d=.tuple p)->∃ns:List (List PyData),l=ns.map .tuple:=fun l=>by
      induction l with
      |nil=>exact fun _=>⟨[],rfl⟩
      |cons a l ih =>
       intro hl;obtain⟨p,rfl⟩:=hl a qm;obtain⟨ns,rfl⟩:=ih fun d hd=>hl d (qk _ hd);exact⟨p::ns,rfl⟩
     exact this sg (xAkq h fun d z h1 h2 h3=>let⟨p,e,_⟩:=key d z h1 h2 h3;⟨p,e⟩)
    have e:=xAmu (f:=fun d=>match d with|.tuple p=>nmT p|_=>"") h fun d z h1 h2 h3=>by
     obtain⟨p,rfl,_,e⟩:=key d z h1 h2 h3;exact e
    rw[zy]at e;have e:ys=ns.map nmT:=e;subst e;rw[qc]at A5;refine .out p ns ok A5 fun n hn=>?_;obtain⟨p',e,ok'⟩:=xAkq (R:=fun d=>∃p,d=.tuple p/\NmOk p) h (fun d z h1 h2 h3=>let⟨p,e,o,_⟩:=key d z h1 h2 h3;⟨p,e,o⟩) (.tuple n) (qu.mpr ⟨n,hn,rfl⟩);cases e;exact ok'
  ·obtain⟨e,he,F,rfl,A⟩:=pl (fs:=[.part,.side,.side,.word,.won]) rfl hf hl (by decide +kernel) (by decide +kernel) rfl
   rcases F with _|⟨g0,_|⟨g1,_|⟨g2,_|⟨g3,_|⟨g4,⟨⟩⟩⟩⟩⟩⟩;subst he;obtain⟨p,rfl,ok,rfl⟩:=xAdw g0 (two A).1;obtain⟨o1,rfl⟩:=xAmt g1 (two (two A).2).1;obtain⟨o2,rfl⟩:=xAmt g2 (two (two (two A).2).2).1;obtain⟨rfl,o3⟩:=g3;obtain⟨o4,rfl⟩:=p_wN g4;have:=Wt.mark "mark" p _ _ [.str _,_] (.inl rfl) ok o1 o2 (qp rfl) (al2 (.inr ⟨_,rfl,xAbd o3,xAao o3⟩) o4);rw[qo,xAba (xAbd o3)]at this;exact this
  ·obtain⟨e,he,F,rfl,A⟩:=pl (fs:=[.part,.side,.side,.word]) rfl hf hl (by decide +kernel) (by decide +kernel) rfl
   rcases F with _|⟨g0,_|⟨g1,_|⟨g2,_|⟨g3,⟨⟩⟩⟩⟩⟩;subst he;obtain⟨p,rfl,ok,rfl⟩:=xAdw g0 (two A).1;obtain⟨o1,rfl⟩:=xAmt g1 (two (two A).2).1;obtain⟨o2,rfl⟩:=xAmt g2 (two (two (two A).2).2).1;obtain⟨rfl,o3⟩:=g3;have:=Wt.mark "note" p _ _ [.str _] (.inr rfl) ok o1 o2 (qp rfl) (al1 (.inr ⟨_,rfl,xAbd o3,xAao o3⟩));rw[qo,xAba (xAbd o3)]at this;exact this
  ·obtain⟨e,he,F,rfl,A⟩:=pl (fs:=[.part,.way,.line]) rfl hf hl (by decide +kernel) (by decide +kernel) rfl
   rcases F with _|⟨g0,_|⟨g1,_|⟨g2,⟨⟩⟩⟩⟩;subst he;obtain⟨p,rfl,ok,rfl⟩:=xAdw g0 (two A).1;obtain⟨rfl,o1⟩:=g1;have o2:=of_decide_eq_true (two (two A).2).1;obtain⟨o3,rfl⟩:=p_nN g2 (two (two (two A).2).2).1;exact .line p _ _ ok (by simpa using o2) o3
  ·obtain⟨e,he,F,rfl,A⟩:=pl (fs:=[.part,.name]) rfl hf hl (by decide +kernel) (by decide +kernel) rfl
   rcases F with _|⟨g0,_|⟨g1,⟨⟩⟩⟩;subst he;obtain⟨p,rfl,ok,rfl⟩:=xAdw g0 (two A).1;obtain⟨q,rfl,ok2,rfl⟩:=xAgc g1 (two (two A).2).1;exact .names "strike" [p,q] (by simp) (Nat.le_of_ble_eq_true rfl) (al2 ok ok2)
  ·obtain⟨e,he,F,rfl,A⟩:=pl (fs:=[.part,.name,.name,.woe]) rfl hf hl (by decide +kernel) (by decide +kernel) rfl
   rcases F with _|⟨g0,_|⟨g1,_|⟨g2,_|⟨g3,⟨⟩⟩⟩⟩⟩;subst he;obtain⟨p,rfl,ok,rfl⟩:=xAdw g0 (two A).1;obtain⟨a,rfl,ok1,rfl⟩:=xAgc g1 (two (two A).2).1;obtain⟨b,rfl,ok2,rfl⟩:=xAgc g2 (two (two (two A).2).2).1;rcases g3 with⟨rfl,rfl⟩|⟨_,rfl,o⟩
   ·have:=Wt.cell p a b "" ok ok1 ok2 (by decide)
    rw[if_pos rfl]at this;exact this
   ·have:=Wt.cell p a b _ ok ok1 ok2 (xAao o)
    rw[if_neg (xAbd o)]at this;exact this
  ·obtain⟨e,he,F,rfl,A⟩:=pl (fs:=[.part,.hand,.leave,.truth]) rfl hf hl (by decide +kernel) (by decide +kernel) rfl
   rcases F with _|⟨g0,_|⟨g1,_|⟨g2,_|⟨g3,⟨⟩⟩⟩⟩⟩;subst he;obtain⟨p,rfl,ok,rfl⟩:=xAdw g0 (two A).1;obtain⟨rfl,o1⟩:=g1;obtain⟨rfl,o2⟩:=g2;obtain⟨b,rfl,rfl⟩:=g3;exact .leave p _ _ b ok (xAbd o1) (xAao o1) (xAbd o2) (xAao o2)
  ·obtain⟨e,he,F,rfl,A⟩:=pl (fs:=[.num]) rfl hf hl (by decide +kernel) (by decide +kernel) rfl
   rcases F with _|⟨g0,⟨⟩⟩;subst he;obtain⟨i,rfl,_,rfl⟩:=g0;have o:=of_decide_eq_true (show decide (1≤i/\i≤1000000)=true from(two A).1);exact .few "back" [.int i] (by simp) (Nat.le_of_ble_eq_true rfl) (al1 ⟨.inr ⟨i,rfl,by omega,by omega⟩,fun z=>nomatch z⟩)
  ·obtain⟨e,he,F,rfl,A⟩:=pl (fs:=[.num]) rfl hf hl (by decide +kernel) (by decide +kernel) rfl
   rcases F with _|⟨g0,⟨⟩⟩;subst he;obtain⟨i,rfl,_,rfl⟩:=g0;have o:=of_decide_eq_true (show decide (1≤i/\i≤1000000)=true from(two A).1);exact .few "again" [.int i] (by simp) (Nat.le_of_ble_eq_true rfl) (al1 ⟨.inr ⟨i,rfl,by omega,by omega⟩,fun z=>nomatch z⟩)
  ·obtain⟨e,he,F,rfl,A⟩:=pl (fs:=[.word]) rfl hf hl (by decide +kernel) (by decide +kernel) rfl
   rcases F with _|⟨g0,⟨⟩⟩;subst he;obtain⟨rfl,o⟩:=g0;exact .few "bring" [.str _] (by simp) (Nat.le_of_ble_eq_true rfl) (al1 ⟨.inl ⟨_,rfl,xAao o⟩,fun e=>xAbd o (PyData.str.inj e)⟩)
  ·obtain⟨e,he,F,rfl,A⟩:=pl (fs:=[.word]) rfl hf hl (by decide +kernel) (by decide +kernel) rfl
   rcases F with _|⟨g0,⟨⟩⟩;subst he;obtain⟨rfl,o⟩:=g0;exact .few "drop" [.str _] (by simp) (Nat.le_of_ble_eq_true rfl) (al1 ⟨.inl ⟨_,rfl,xAao o⟩,fun e=>xAbd o (PyData.str.inj e)⟩)
  ·obtain⟨e,he,F,rfl,A⟩:=pl (fs:=[.counts]) rfl hf hl (by decide +kernel) (by decide +kernel) rfl
   rcases F with _|⟨g0,⟨⟩⟩;subst he;obtain⟨cs,rfl,hl2,hx,rfl⟩:=co_ok g0 (two A).1
   cases cs with
   |nil=>rw[←hl2]at h1;exact absurd h1 (by decide)
   |cons c cs =>
    obtain⟨i,rfl,hi⟩:=hx c qm;rw[qy]at hl2;refine .pour i cs (by omega) fun x hx'=>?_;obtain⟨j,rfl,hj⟩:=hx x hx';exact .inr ⟨j,rfl,hj⟩
theorem de_ok{ws:List Str}(h1:1≤ws.length)(h6:ws.length≤6){d:PyData}{z:Str}{v:V}{H:Hp}(hb:∀y∈Txt.split z ⟨#[32]⟩,32∉y.cps.toList)(h:RDe7 d z)(hm:mDeed ws (thD d)=true)(dt:DT H v d):∃w n hs b wds,DeOk H v w n hs b wds/\ddT w n hs b wds=z:=by
 cases h with
 |@mk z w zn zc zb rest n c b ds h0 g1 g2 g3 g4 =>
  obtain⟨n,rfl,_,rfl⟩:=g1;have hm:(mName ws (.tup [.str w,.int n])&&(mCounts ws (thD c)&&(mOwn ws (.str w) (.int n) (thD c)&&(mBranch ws (thD b)&&mWhat ws n (.tup (thDs ds))))))=true:=hm
  simp only[Bool.and_eq_true]at hm
  obtain⟨m1,m2,_,m4,m5⟩:=hm;have m1:((wordS w&&decide (1≤n/\n≤1000000))&&decide (w∈ws))=true:=m1;rw[qr,qr]at m1;have hw:=xAga m1.1.1;have hn:=of_decide_eq_true m1.1.2;obtain⟨hs,rfl,hl,hx,rfl⟩:=co_ok g2 m2;have wt:=rd_wt h1 h6 (fun y hy=>hb y (by rw[h0];simp[hy])) g4 m5
  have br:BrOk b/\zb=brT b:=by
   rcases g3 with⟨rfl,rfl⟩|⟨_,es,rfl,g⟩
   ·exact⟨.inl rfl,rfl⟩
   ·cases g':Txt.split zb ⟨#[46]⟩ with
    |nil =>
     rw[g']at g;cases g;exact nomatch m4
    |cons z1 r =>
     rw[g']at g
     cases g with
     |cons a1 t =>
      cases t with
      |nil=>obtain⟨rfl,_⟩:=a1;exact nomatch m4
      |cons a2 t =>
       cases t with
       |cons a3 t=>obtain⟨rfl,_⟩:=a1;obtain⟨rfl,_⟩:=a2;exact nomatch m4
       |nil =>
        obtain⟨rfl,o1⟩:=a1;obtain⟨rfl,o2⟩:=a2;exact⟨.inr ⟨_,_,rfl,xAao o1,xAao o2⟩,xAdt g'⟩
  obtain⟨bo,rfl⟩:=br;refine⟨w,n,hs,b,rest,⟨?_,xAao hw,⟨by omega,by omega⟩,by omega,fun d hd=>?_,bo⟩,(xAdt h0).symm⟩
  ·cases dt with
   |tup e t =>
    cases t with
    |cons t0 t =>
     cases t0
     cases t with
     |cons t1 t =>
      cases t1
      cases t with
      |cons t2 t =>
       cases t with
       |cons t3 t =>
        cases t with
        |cons t4 t =>
         cases t;exact⟨_,_,_,_,_,rfl,e,t2,t3,t4,wt⟩
  ·obtain⟨i,rfl,hi⟩:=hx d hd
   exact .inr ⟨i,rfl,hi⟩
structure Wo(z:Str):Prop where
 fr:Fr32 z
 len:z.length≤100
def woB(z:Str):Bool:=(z.cps.toList.all fun c=>decide (c≠32/\c<16 ^ 8))&&decide (z.length≤100)
theorem wo_c{z:Str}(h:woB z=true):Wo z:=by
 have h:=(qr _ _).mp h;exact⟨fr_c h.1,of_decide_eq_true h.2⟩
inductive IspMe(vs:List V)(H:Hp)(Q:VK):Prop
 |mk (p:Addr) (n:Int) (ws:List Str) (h0:vs=[.ref p,.int n]) (h1:RL H p ws) (h2:∀z H',Wo z->Same H H'->Q (.str z) H'):IspMe vs H Q
def sp_fBv:Sp:=fun vs H Q _=>IspMe vs H Q
theorem xAtu{vs:List V}{H:Hp}{Q:VK}{E:XK}(h:sp_fBv vs H Q E):vs.length=2:=by obtain⟨_,_,_,rfl,_⟩:=h;rfl
structure WL10(H:Hp)(p:Addr)(zs:List Str)(n:Nat):Prop where
 at':H p=some (.lst (zs.map V.str))
 ne:0<zs.length
 few:zs.length≤n
 wo:∀z∈zs,Wo z
theorem WL10.mono{H H':Hp}{p:Addr}{zs:List Str}{n:Nat}(h:WL10 H p zs n)(s:Same H H'):WL10 H' p zs n:=⟨s _ _ h.at',h.ne,h.few,h.wo⟩
theorem WL10.len{H:Hp}{p:Addr}{zs:List Str}{n:Nat}(h:WL10 H p zs n):(0:Int)<((zs.map V.str).length:Int):=by
 have:=h.ne;rw[qc];omega
inductive IspEx(vs:List V)(H:Hp)(Q:VK):Prop
 |mk (a b p d:Addr) (xs ys ws:List Str) (ns:List Int) (h0:vs=[.ref a,.ref b,.ref p,.ref d]) (h1:WL10 H a xs 30) (h2:WL10 H b ys 30) (h3:RL H p ws) (h4:H d=some (.lst (ns.map V.int))) (h5:ns.length≤30) (h6:∀q zs H',Same H H'->WL10 H' q zs 60->Q (.ref q) H'):IspEx vs H Q
def sp_fAr:Sp:=fun vs H Q _=>IspEx vs H Q
theorem xAtv{vs:List V}{H:Hp}{Q:VK}{E:XK}(h:sp_fAr vs H Q E):vs.length=4:=by obtain⟨_,_,_,_,_,_,_,_,rfl,_⟩:=h;rfl
theorem xAog(xs:List Str)(k:Nat)(y:Str):insV (xs.map V.str) k (.str y)=(xs.take k++y::xs.drop k).map V.str:=by
 unfold insV;rw[zo,qo,jp,ja]
def M__law_refused:V->Option Bool
 |.ref a=>if a=c_NoDeed then some true else if a=c_NoSet\/a=c_NoLeave\/a=c_NoPast\/a=c_NoRow\/a=c_NoThing\/a=c_Poured\/a=c_Unlike then some false else none
 |.ty t=>if t = "ValueError" then some true else none
 |_=>none
theorem isx_of{K:PySem.W.Frag}(xi:XI K c_NoDeed)(cl:∃cd,PySem.W.clsIn K c_NoDeed=some cd)(k_NoDeed:PySem.W.kitOne K (.ref c_NoDeed) (.ref c_NoDeed)=some true)(k_NoSet:PySem.W.kitOne K (.ref c_NoDeed) (.ref c_NoSet)=some false)(k_NoLeave:PySem.W.kitOne K (.ref c_NoDeed) (.ref c_NoLeave)=some false)(k_NoPast:PySem.W.kitOne K (.ref c_NoDeed) (.ref c_NoPast)=some false)(k_NoRow:PySem.W.kitOne K (.ref c_NoDeed) (.ref c_NoRow)=some false)(k_NoThing:PySem.W.kitOne K (.ref c_NoDeed) (.ref c_NoThing)=some false)(k_Poured:PySem.W.kitOne K (.ref c_NoDeed) (.ref c_Poured)=some false)(k_Unlike:PySem.W.kitOne K (.ref c_NoDeed) (.ref c_Unlike)=some false)(k_ValueError:PySem.W.kitOne K (.ref c_NoDeed) (.type "ValueError")=some true):IsX K c_NoDeed M__law_refused:=by
 refine⟨xi,cl,fun v u b r h=>?_⟩
 cases v with
 |ref a =>
  cases r;have h:(if a=c_NoDeed then some true else if a=c_NoSet\/a=c_NoLeave\/a=c_NoPast\/a=c_NoRow\/a=c_NoThing\/a=c_Poured\/a=c_Unlike then some false else none)=some b:=h
  split at h
  ·rename_i e;cases h;rw[e];exact k_NoDeed
  ·split at h
   ·rename_i e
    cases h;rcases e with rfl|rfl|rfl|rfl|rfl|rfl|rfl <;> assumption
   ·cases h
 |ty t =>
  cases r;have h:(if t = "ValueError" then some true else none)=some b:=h
  split at h
  ·rename_i e;cases h;rw[e];exact k_ValueError
  ·cases h
 |_=>exact nomatch h
structure Tx(ws:List Str)(z:Str):Prop where
 sh:Shy z
 len:z.length≤10000
 wds:Wds (Txt.split z ⟨#[32]⟩)
 nb:∀y∈Txt.split z ⟨#[32]⟩,32∉y.cps.toList
inductive IspRf(vs:List V)(H:Hp)(Q:VK):Prop
 |mk (p:Addr) (ws:List Str) (z:Str) (h0:vs=[.ref p,.str z]) (h1:Mr H) (h2:RL H p ws) (h3:Tx ws z) (h4:∀d,RDe7 d z->mDeed ws (thD d)=false) (h5:∀H',Same H H'->Q (.bl true) H'):IspRf vs H Q
def sp_fAw:Sp:=fun vs H Q _=>IspRf vs H Q
theorem xAtw{vs:List V}{H:Hp}{Q:VK}{E:XK}(h:sp_fAw vs H Q E):vs.length=2:=by obtain⟨_,_,_,rfl,_⟩:=h;rfl
theorem xAib{ws:List Str}{ds:List Hs.Dd}{d:Hs.Dd}{H H1:Hp}{rp:Addr}{v:V}(rl:RL H1 rp ws)(W:Hs.Wh ws.length ds)(h62:ds.length≤62)(hd:d∈ds)(at':Hs.DeedAt H ws v d)(hb:BrD ws d.br)(ht:WhatD ws d.num d.wt):∃(za:Str) (n:Int) (hs:List PyData) (b:PyData) (wds zs:List Str),DeOk H v za n hs b wds/\(ddT za n hs b wds).length≤10000/\Txt.split (ddT za n hs b wds) ⟨#[32]⟩=zs/\0<zs.length/\zs.length≤30/\∀z∈zs,Wo z:=by
 have nl:=xAti W hd;obtain⟨wds,hwd,hrw⟩:=xAtn rl.wd rl.pos rl.few (num:=d.num) (by omega) ht;obtain⟨q,za,hq,bv,wv,rfl,hza,e2,e3,e4,e5⟩:=at';have hww:=rl.wd za (qz hza);have nb:Nb d.num:=⟨by omega,by omega⟩
 have ok:DeOk H (.ref q) za d.num (d.hd.map fun(n:Nat)=>PyData.int n) d.br wds:=by
  refine⟨⟨q,.ref hq,bv,wv,d.wt,rfl,e2,.tup e3 ?_,e4,e5,hwd⟩,xAao hww,nb,?_,fun y hy=>?_,?_⟩
  ·have:=dts_ints H (d.hd.map fun(n:Nat)=>(n:Int))
   rw[zy,zy]at this;exact this
  ·rw[qc,W.len d hd];have:=rl.few;omega
  ·obtain⟨n,hn',rfl⟩:=qu.mp hy
   refine .inr ⟨n,rfl,by omega,?_⟩;obtain⟨j,hj,e⟩:=wm.mp hn';have:=xAof (W.past d hd) (j:=j) (by rw[←W.len d hd];exact hj)
   have e9:Hs.at0 d.hd j=n:=by
    unfold Hs.at0;rw[we,qj hj,e];rfl
   omega
  ·rcases hb with hb|⟨a,c,hb,ha,hc⟩
   ·exact .inl hb
   ·exact .inr ⟨a,c,hb,xAao (rl.wd a ha),xAao hc⟩
 have wo:∀x∈([za,toString d.num,Txt.join "," ((d.hd.map fun(n:Nat)=>PyData.int n).map strD),brT d.br]:List Str)++wds,Wo x:=fun x hx=>by
  rcases q0.mp hx with hx|hx
  ·simp only[List.mem_cons,List.not_mem_nil,or_false]at hx
   rcases hx with rfl|rfl|rfl|rfl
   ·exact⟨fr_w hww,qf (xAao hww) (by decide)⟩
   ·exact⟨fr_n nb,qf (nlen nb) (by decide)⟩
   ·refine⟨xAfj (by decide) fun x hx=>?_,xAjk ok.hl ok.hf⟩
    obtain⟨y,hy,rfl⟩:=qu.mp hx;obtain⟨k,_,rfl⟩:=qu.mp hy;rcases ok.hf _ hy with⟨_,e,_⟩|⟨i,e,hi⟩
    ·cases e
    ·cases e;exact fr_n hi
   ·exact⟨RBr.fr (r_br rl.wd hb),xAoe ok.bo⟩
  ·exact⟨RWhat.fr hrw x hx,hwd.len.2 x hx⟩
 have hl:(([za,toString d.num,Txt.join "," ((d.hd.map fun(n:Nat)=>PyData.int n).map strD),brT d.br]:List Str)++wds).length≤30:=by
  have:=hwd.len.1;rw[ql];show 4+_≤30;omega
 refine⟨za,d.num,_,d.br,wds,_,ok,?_,xAdr (c:=32) (by simp) fun x hx h32=>((wo x hx).fr 32 h32).1 rfl,by simp,hl,wo⟩;have a:=xAdp " " (([za,toString d.num,Txt.join "," ((d.hd.map fun(n:Nat)=>PyData.int n).map strD),brT d.br]:List Str)++wds);have c:=xAlt (c:=100) fun x hx=>(wo x hx).len;have e:(" ":Str).length=1:=rfl;rw[e]at a;exact qf a (by omega)
theorem tx_of{ws zs:List Str}(h0:0<zs.length)(h6:zs.length≤60)(wo:∀z∈zs,Wo z):Tx ws (Txt.join " " zs):=by
 have hs:Txt.split (Txt.join " " zs) ⟨#[32]⟩=zs:=xAdr (c:=32) (fun e=>by rw[e]at h0;exact absurd h0 (by decide)) fun x hx h32=>((wo x hx).fr 32 h32).1 rfl;have a:=xAdp " " zs;have c:=xAlt (c:=100) fun x hx=>(wo x hx).len;have e:(" ":Str).length=1:=rfl;rw[e]at a;refine⟨⟨by omega,fun c hc=>?_⟩,by omega,by rw[hs];exact⟨by omega,fun y hy=>⟨⟨qf (wo y hy).len (by decide),fun c hc=>((wo y hy).fr c hc).2⟩,qf (wo y hy).len (by decide)⟩⟩,by rw[hs];exact fun y hy h=>((wo y hy).fr 32 h).1 rfl⟩;rcases xAkg (s:=32) hc with rfl|⟨w,hw,hc⟩
 ·decide
 ·exact((wo w hw).fr c hc).2
inductive Isp_fCr(vs:List V)(H:Hp)(Q:VK):Prop
 |mk (sp:_) (ns:_) (h0_:vs=[.ref sp]) (h1_:SqL H sp (List.map V.int ns)) (h2_:ns.length≤63) (h3_:Mr H) (h4_:∀H',Same H H'->Q (.bl true) H'):Isp_fCr vs H Q
def sp_fCr:Sp:=fun vs H Q _=>Isp_fCr vs H Q
theorem xAtx{vs:List V}{H:Hp}{Q:VK}{E:XK}(h:sp_fCr vs H Q E):vs.length=1:=by obtain⟨_,_,rfl,_⟩:=h;rfl
def cmb:List (Str×Addr×List Fm):=List.zipWith (fun a b=>(a.1,a.2,b.2)) kv_FORMS fmsL
def cmr:List (Str×Addr×List Rm):=List.zipWith (fun a b=>(a.1,a.2,b.2)) kv_READERS rdsL
theorem Md.of{H:Hp}(h:∀c∈MS,H c.1=some (.tup c.2)):Md H:=by
 refine⟨h (c_WAYS,[.str "row",.str "column"]) (by decide +kernel),h (c_LEAVES,[.str "read",.str "note",.str "write",.str "give"]) (by decide +kernel),h (c_WHERES,[.str "ahead",.str "behind"]) (by decide +kernel),fun z=>?_⟩
 have e1:kv_FORMS=cmb.map fun p=>(p.1,p.2.1):=by decide +kernel
 have e2:fmsL=cmb.map fun p=>(p.1,p.2.2):=by decide +kernel
 have f1:fV kv_FORMS z=(cmb.find? fun p=>decide (p.1=z)).map (·.2.1):=by
  unfold fV;rw[e1,je,jf];rfl
 have f2:fmsOf z=(cmb.find? fun p=>decide (p.1=z)).map (·.2.2):=by
  unfold fmsOf;rw[e2,je,jf];rfl
 rw[f1,f2]
 cases e:cmb.find? fun p=>decide (p.1=z) with
 |none=>rfl
 |some p =>
  have hm:=yq e
  have h0:∀p∈cmb,(p.2.1,p.2.2.map fun f=>V.ref (fAd f))∈MS:=by decide +kernel
  exact⟨_,rfl,h _ (h0 p hm)⟩
theorem Mr.of{H:Hp}(h:∀c∈MS,H c.1=some (.tup c.2)):Mr H:=by
 refine⟨Md.of h,h (c_MAIN,[.str "",.int 0]) (by decide +kernel),fun z=>?_⟩
 have e1:kv_READERS=cmr.map fun p=>(p.1,p.2.1):=by decide +kernel
 have e2:rdsL=cmr.map fun p=>(p.1,p.2.2):=by decide +kernel
 have f1:fV kv_READERS z=(cmr.find? fun p=>decide (p.1=z)).map (·.2.1):=by
  unfold fV;rw[e1,je,jf];rfl
 have f2:rdsOf z=(cmr.find? fun p=>decide (p.1=z)).map (·.2.2):=by
  unfold rdsOf;rw[e2,je,jf];rfl
 rw[f1,f2]
 cases e:cmr.find? fun p=>decide (p.1=z) with
 |none=>rfl
 |some p =>
  have hm:=yq e
  have h0:∀p∈cmr,(p.2.1,p.2.2.map fun f=>V.ref (rAd f))∈MS:=by decide +kernel
  exact⟨_,rfl,h _ (h0 p hm)⟩
theorem law_specq:∀(H:Hp) (a:Addr) (ns:List Int),ns.length≤63->(∀t∈([]:List Str),H 0=some (.tbl #[]))->(∀c∈MS,H c.1=some (.tup c.2))->SqL H a (ns.map V.int)->sp_fCr [.ref a] H (fun v _=>v=.bl true) fun _ _ _=>False:=fun H a ns h1 _ h3 h4=>⟨a,ns,rfl,h4,h1,Mr.of h3,by intros;rfl⟩
theorem xApv(ns:List Int)(a b:Option Int):∃ms:List Int,cutV (ns.map V.int) a b=ms.map V.int/\ms.length≤ns.length:=by
 have h:=xAck (ns.map V.int) a b;unfold cutV at h ⊢;rw[←ja,←jp]at h ⊢;exact⟨_,rfl,by rw[zw,wb];omega⟩
structure TL(H:Hp)(ys:List V)(n:Nat):Prop where
 len:ys.length=n
 it:∀y∈ys,∃p zs,y=.ref p/\WL10 H p zs 30
theorem TL.mono{H H':Hp}{ys:List V}{n:Nat}(t:TL H ys n)(s:Same H H'):TL H' ys n:=⟨t.len,fun y hy=>let⟨p,zs,e,w⟩:=t.it y hy;⟨p,zs,e,w.mono s⟩⟩
theorem byvX{P:Program}{w:World}{K:PySem.W.Frag}{mg:Str->Option Value}{base:Heap}{k n:Nat}{x:Str}{ps:List Str}{sp:Sp}{a:Addr}(F:FnX P w K mg base k x ps sp)(hm:mg x=some (.ref a))(hk:k≤n:=by decide):∃k fd ps,k≤n/\FnOk P w K mg base (CXd P w) k a fd ps sp/\PySem.W.keepIn K (.ref a)=true/\Binds K fd ps []:=by
 obtain⟨f,fd,F,hf,h⟩:=F.out;rw[hm]at hf;cases hf;exact⟨k,fd,ps,hk,F,h⟩
theorem byw{P:Program}{w:World}{K:PySem.W.Frag}{mg:Str->Option Value}{base:Heap}{k n:Nat}{x:Str}{ps:List Str}{sp:Sp}{a:Addr}(F:FnB P w K mg base k x ps sp)(hm:mg x=some (.ref a))(hk:k≤n:=by decide):∃k fd ps,k≤n/\FnOk P w K mg base CX0 k a fd ps sp/\PySem.W.keepIn K (.ref a)=true/\Binds K fd ps []:=by
 obtain⟨f,fd,F,hf,h⟩:=F.out;rw[hm]at hf;cases hf;exact⟨k,fd,ps,hk,F,h⟩
theorem sc_fCi:FnScope N_fCi ["thing"] (defScope s_fCi):=⟨rfl,rfl,rfl,by decide +kernel,rfl,by decide +kernel,by decide +kernel⟩
theorem sc_fBd:FnScope N_fBd ["thing","length"] (defScope s_fBd):=⟨rfl,rfl,rfl,by decide +kernel,rfl,by decide +kernel,by decide +kernel⟩
theorem sc_fBw:FnScope N_fBw ["thing","least"] (defScope s_fBw):=⟨rfl,rfl,rfl,by decide +kernel,rfl,by decide +kernel,by decide +kernel⟩
theorem sc_fBp:FnScope N_fBp ["thing","texts"] (defScope s_fBp):=⟨rfl,rfl,rfl,by decide +kernel,rfl,by decide +kernel,by decide +kernel⟩
theorem sc_fCe:FnScope N_fCe ["roll","thing"] (defScope s_fCe):=⟨rfl,rfl,rfl,by decide +kernel,rfl,by decide +kernel,by decide +kernel⟩
theorem xAty:FnScope N_fBa ["word"] (defScope s_fBa):=⟨rfl,rfl,rfl,by decide +kernel,rfl,by decide +kernel,by decide +kernel⟩
theorem sc_fBh:FnScope N_fBh ["word"] (defScope s_fBh):=⟨rfl,rfl,rfl,by decide +kernel,rfl,by decide +kernel,by decide +kernel⟩
theorem xAes:FnScope N_fBk ["_law_cell","_law_many"] (defScope s_fBk):=⟨rfl,rfl,rfl,by decide +kernel,rfl,by decide +kernel,by decide +kernel⟩
theorem xAgd:FnScope N_fBq ["_law_number"] (defScope s_fBq):=⟨rfl,rfl,rfl,by decide +kernel,rfl,by decide +kernel,by decide +kernel⟩
theorem xAtz:FnScope N_fBs ["_law_number","_law_roll_here"] (defScope s_fBs):=⟨rfl,rfl,rfl,by decide +kernel,rfl,by decide +kernel,by decide +kernel⟩
theorem sc_fAk:FnScope N_fAk ["_law_name_here"] (defScope s_fAk):=⟨rfl,rfl,rfl,by decide +kernel,rfl,by decide +kernel,by decide +kernel⟩
theorem sc_fCk:FnScope N_fCk ["thing"] (defScope s_fCk):=⟨rfl,rfl,rfl,by decide +kernel,rfl,by decide +kernel,by decide +kernel⟩
theorem sc_fBf:FnScope N_fBf ["thing"] (defScope s_fBf):=⟨rfl,rfl,rfl,by decide +kernel,rfl,by decide +kernel,by decide +kernel⟩
theorem sc_fCn:FnScope N_fCn ["roll","thing"] (defScope s_fCn):=⟨rfl,rfl,rfl,by decide +kernel,rfl,by decide +kernel,by decide +kernel⟩
theorem sc_fAv:FnScope N_fAv ["roll","thing"] (defScope s_fAv):=⟨rfl,rfl,rfl,by decide +kernel,rfl,by decide +kernel,by decide +kernel⟩
theorem sc_fAi:FnScope N_fAi ["roll","thing"] (defScope s_fAi):=⟨rfl,rfl,rfl,by decide +kernel,rfl,by decide +kernel,by decide +kernel⟩
theorem sc_fAh:FnScope N_fAh ["roll","thing"] (defScope s_fAh):=⟨rfl,rfl,rfl,by decide +kernel,rfl,by decide +kernel,by decide +kernel⟩
theorem sc_fCq:FnScope N_fCq ["roll","thing"] (defScope s_fCq):=⟨rfl,rfl,rfl,by decide +kernel,rfl,by decide +kernel,by decide +kernel⟩
theorem sc_fCf:FnScope N_fCf ["roll","thing"] (defScope s_fCf):=⟨rfl,rfl,rfl,by decide +kernel,rfl,by decide +kernel,by decide +kernel⟩
theorem sc_fAt:FnScope N_fAt ["roll","thing"] (defScope s_fAt):=⟨rfl,rfl,rfl,by decide +kernel,rfl,by decide +kernel,by decide +kernel⟩
theorem sc_fCb:FnScope N_fCb ["roll","thing"] (defScope s_fCb):=⟨rfl,rfl,rfl,by decide +kernel,rfl,by decide +kernel,by decide +kernel⟩
theorem sc_fBg:FnScope N_fBg ["word"] (defScope s_fBg):=⟨rfl,rfl,rfl,by decide +kernel,rfl,by decide +kernel,by decide +kernel⟩
theorem sc_fBe:FnScope N_fBe ["word"] (defScope s_fBe):=⟨rfl,rfl,rfl,by decide +kernel,rfl,by decide +kernel,by decide +kernel⟩
theorem xAge:FnScope N_fBn ["_law_cell"] (defScope s_fBn):=⟨rfl,rfl,rfl,by decide +kernel,rfl,by decide +kernel,by decide +kernel⟩
theorem sc_fBm:FnScope N_fBm ["_law_number","_law_roll_here"] (defScope s_fBm):=⟨rfl,rfl,rfl,by decide +kernel,rfl,by decide +kernel,by decide +kernel⟩
theorem sc_fAq:FnScope N_fAq ["_law_number","_law_roll_here"] (defScope s_fAq):=⟨rfl,rfl,rfl,by decide +kernel,rfl,by decide +kernel,by decide +kernel⟩
theorem sc_fBb:FnScope N_fBb ["_law_number","_law_roll_here"] (defScope s_fBb):=⟨rfl,rfl,rfl,by decide +kernel,rfl,by decide +kernel,by decide +kernel⟩
theorem sc_fAj:FnScope N_fAj ["_law_sign_here"] (defScope s_fAj):=⟨rfl,rfl,rfl,by decide +kernel,rfl,by decide +kernel,by decide +kernel⟩
theorem sc_fAl:FnScope N_fAl ["_law_side_here"] (defScope s_fAl):=⟨rfl,rfl,rfl,by decide +kernel,rfl,by decide +kernel,by decide +kernel⟩
theorem sc_fAy:FnScope N_fAy ["_law_thing"] (defScope s_fAy):=⟨rfl,rfl,rfl,by decide +kernel,rfl,by decide +kernel,by decide +kernel⟩
theorem xAmv:FnScope N_fBv ["_law_roll_here","_law_number"] (defScope s_fBv):=⟨rfl,rfl,rfl,by decide +kernel,rfl,by decide +kernel,by decide +kernel⟩
theorem sc_fCl:FnScope N_fCl ["thing"] (defScope s_fCl):=⟨rfl,rfl,rfl,by decide +kernel,rfl,by decide +kernel,by decide +kernel⟩
theorem sc_fCm:FnScope N_fCm ["roll","thing"] (defScope s_fCm):=⟨rfl,rfl,rfl,by decide +kernel,rfl,by decide +kernel,by decide +kernel⟩
theorem sc_fCa:FnScope N_fCa ["roll","thing"] (defScope s_fCa):=⟨rfl,rfl,rfl,by decide +kernel,rfl,by decide +kernel,by decide +kernel⟩
theorem xAua:FnScope N_fBz ["word"] (defScope s_fBz):=⟨rfl,rfl,rfl,by decide +kernel,rfl,by decide +kernel,by decide +kernel⟩
theorem xAub:FnScope N_fAs ["word"] (defScope s_fAs):=⟨rfl,rfl,rfl,by decide +kernel,rfl,by decide +kernel,by decide +kernel⟩
theorem sc_fAe:FnScope N_fAe ["word"] (defScope s_fAe):=⟨rfl,rfl,rfl,by decide +kernel,rfl,by decide +kernel,by decide +kernel⟩
theorem sc_fAc:FnScope N_fAc ["word"] (defScope s_fAc):=⟨rfl,rfl,rfl,by decide +kernel,rfl,by decide +kernel,by decide +kernel⟩
theorem sc_fAz:FnScope N_fAz ["word"] (defScope s_fAz):=⟨rfl,rfl,rfl,by decide +kernel,rfl,by decide +kernel,by decide +kernel⟩
theorem sc_fBr:FnScope N_fBr ["_law_number","_law_roll_here"] (defScope s_fBr):=⟨rfl,rfl,rfl,by decide +kernel,rfl,by decide +kernel,by decide +kernel⟩
theorem xAuc:FnScope N_fCd ["_law_number","_law_roll_here"] (defScope s_fCd):=⟨rfl,rfl,rfl,by decide +kernel,rfl,by decide +kernel,by decide +kernel⟩
theorem xAmw:FnScope N_fAm ["_law_draws_here","_law_roll_here"] (defScope s_fAm):=⟨rfl,rfl,rfl,by decide +kernel,rfl,by decide +kernel,by decide +kernel⟩
theorem xAkr:FnScope N_fAo ["_law_what_here"] (defScope s_fAo):=⟨rfl,rfl,rfl,by decide +kernel,rfl,by decide +kernel,by decide +kernel⟩
theorem xAic:FnScope N_fAr ["_law_words","_law_others","_law_roll_here","_law_draws_here"] (defScope s_fAr):=⟨rfl,rfl,rfl,by decide +kernel,rfl,by decide +kernel,by decide +kernel⟩
theorem sc_fCh:FnScope N_fCh ["roll","thing"] (defScope s_fCh):=⟨rfl,rfl,rfl,by decide +kernel,rfl,by decide +kernel,by decide +kernel⟩
theorem sc_fAp:FnScope N_fAp ["roll","thing"] (defScope s_fAp):=⟨rfl,rfl,rfl,by decide +kernel,rfl,by decide +kernel,by decide +kernel⟩
theorem sc_fAx:FnScope N_fAx ["roll","thing"] (defScope s_fAx):=⟨rfl,rfl,rfl,by decide +kernel,rfl,by decide +kernel,by decide +kernel⟩
theorem sc_fCc:FnScope N_fCc ["word"] (defScope s_fCc):=⟨rfl,rfl,rfl,by decide +kernel,rfl,by decide +kernel,by decide +kernel⟩
theorem sc_fAg:FnScope N_fAg ["word"] (defScope s_fAg):=⟨rfl,rfl,rfl,by decide +kernel,rfl,by decide +kernel,by decide +kernel⟩
theorem sc_fAa:FnScope N_fAa ["word"] (defScope s_fAa):=⟨rfl,rfl,rfl,by decide +kernel,rfl,by decide +kernel,by decide +kernel⟩
theorem sc_fBu:FnScope N_fBu ["word"] (defScope s_fBu):=⟨rfl,rfl,rfl,by decide +kernel,rfl,by decide +kernel,by decide +kernel⟩
theorem sc_fBl:FnScope N_fBl ["_law_draws_here","_law_roll_here"] (defScope s_fBl):=⟨rfl,rfl,rfl,by decide +kernel,rfl,by decide +kernel,by decide +kernel⟩
theorem xAid:FnScope N_fAd ["_law_kind","_law_more","_law_roll_here"] (defScope s_fAd):=⟨rfl,rfl,rfl,by decide +kernel,rfl,by decide +kernel,by decide +kernel⟩
theorem xAgf:FnScope N_fBi ["_law_deed"] (defScope s_fBi):=⟨rfl,rfl,rfl,by decide +kernel,rfl,by decide +kernel,by decide +kernel⟩
theorem sc_fAb:FnScope N_fAb ["roll","thing"] (defScope s_fAb):=⟨rfl,rfl,rfl,by decide +kernel,rfl,by decide +kernel,by decide +kernel⟩
theorem sc_fCo:FnScope N_fCo ["roll","thing"] (defScope s_fCo):=⟨rfl,rfl,rfl,by decide +kernel,rfl,by decide +kernel,by decide +kernel⟩
theorem sc_fAn:FnScope N_fAn ["roll","thing"] (defScope s_fAn):=⟨rfl,rfl,rfl,by decide +kernel,rfl,by decide +kernel,by decide +kernel⟩
theorem sc_fAu:FnScope N_fAu ["roll","thing"] (defScope s_fAu):=⟨rfl,rfl,rfl,by decide +kernel,rfl,by decide +kernel,by decide +kernel⟩
theorem sc_fBy:FnScope N_fBy ["word"] (defScope s_fBy):=⟨rfl,rfl,rfl,by decide +kernel,rfl,by decide +kernel,by decide +kernel⟩
theorem xAmx:FnScope N_fAf ["_law_kind","_law_more","_law_roll_here"] (defScope s_fAf):=⟨rfl,rfl,rfl,by decide +kernel,rfl,by decide +kernel,by decide +kernel⟩
theorem sc_fCg:FnScope N_fCg ["roll","thing"] (defScope s_fCg):=⟨rfl,rfl,rfl,by decide +kernel,rfl,by decide +kernel,by decide +kernel⟩
theorem sc_fBc:FnScope N_fBc ["kind","words"] (defScope s_fBc):=⟨rfl,rfl,rfl,by decide +kernel,rfl,by decide +kernel,by decide +kernel⟩
theorem xAmy:FnScope N_fBt ["_law_draws_here","_law_roll_here","_law_number"] (defScope s_fBt):=⟨rfl,rfl,rfl,by decide +kernel,rfl,by decide +kernel,by decide +kernel⟩
theorem xAud:FnScope N_fCj ["roll","number","thing"] (defScope s_fCj):=⟨rfl,rfl,rfl,by decide +kernel,rfl,by decide +kernel,by decide +kernel⟩
theorem xApw:FnScope N_fBo ["words"] (defScope s_fBo):=⟨rfl,rfl,rfl,by decide +kernel,rfl,by decide +kernel,by decide +kernel⟩
theorem xAcc:FnScope N_fBj ["_law_script","_law_most"] (defScope s_fBj):=⟨rfl,rfl,rfl,by decide +kernel,rfl,by decide +kernel,by decide +kernel⟩
theorem sc_fCp:FnScope N_fCp ["roll","thing"] (defScope s_fCp):=⟨rfl,rfl,rfl,by decide +kernel,rfl,by decide +kernel,by decide +kernel⟩
theorem xAmz:FnScope N_fBx ["roll","text"] (defScope s_fBx):=⟨rfl,rfl,rfl,by decide +kernel,rfl,by decide +kernel,by decide +kernel⟩
theorem xAna:FnScope N_fAw ["_law_roll_here","_law_text"] (defScope s_fAw):=⟨rfl,rfl,rfl,by decide +kernel,rfl,by decide +kernel,by decide +kernel⟩
theorem xAcu:FnScope N_fCr ["_law_script"] (defScope s_fCr):=⟨rfl,rfl,rfl,by decide +kernel,rfl,by decide +kernel,by decide +kernel⟩
section
variable (P:Program)(w:World)(K:PySem.W.Frag)(mg:Str->Option Value)(base:Heap)
abbrev O_fCi:Prop:=FnB P w K mg base 1 "is_word" ["thing"] sp_fCi
abbrev O_fBd:Prop:=FnB P w K mg base 1 "is_tuple_of" ["thing","length"] sp_fBd
abbrev O_fBw:Prop:=FnB P w K mg base 1 "is_number" ["thing","least"] sp_fBw
abbrev O_fBp:Prop:=FnB P w K mg base 1 "is_one_of" ["thing","texts"] sp_fBp
abbrev O_fCe:Prop:=FnB P w K mg base 1 "is_truth" ["roll","thing"] sp_fCe
abbrev O_fBa:Prop:=FnX P w K mg base 1 "read_number" ["word"] sp_fBa
abbrev O_fBh:Prop:=FnX P w K mg base 1 "read_truth" ["word"] sp_fBh
abbrev O_fBk:Prop:=FnB P w K mg base 1 "_law_draws" ["_law_cell","_law_many"] sp_fBk
abbrev O_fBq:Prop:=FnB P w K mg base 1 "_law_word" ["_law_number"] sp_fBq
abbrev O_fBs:Prop:=FnB P w K mg base 1 "_law_name" ["_law_number","_law_roll_here"] sp_fBs
abbrev O_fAk:Prop:=FnB P w K mg base 1 "_law_shown_name" ["_law_name_here"] sp_fAk
abbrev O_fCk:Prop:=FnB P w K mg base 2 "is_main" ["thing"] sp_fCk
abbrev O_fBf:Prop:=FnB P w K mg base 2 "is_any_name" ["thing"] sp_fBf
abbrev O_fCn:Prop:=FnB P w K mg base 2 "is_hand" ["roll","thing"] sp_fCn
abbrev O_fAv:Prop:=FnB P w K mg base 2 "is_plain_word" ["roll","thing"] sp_fAv
abbrev O_fAi:Prop:=FnB P w K mg base 2 "is_word_or_none" ["roll","thing"] sp_fAi
abbrev O_fAh:Prop:=FnB P w K mg base 2 "is_word_or_empty" ["roll","thing"] sp_fAh
abbrev O_fCq:Prop:=FnB P w K mg base 2 "is_way" ["roll","thing"] sp_fCq
abbrev O_fCf:Prop:=FnB P w K mg base 2 "is_leave" ["roll","thing"] sp_fCf
abbrev O_fAt:Prop:=FnB P w K mg base 2 "is_deed_number" ["roll","thing"] sp_fAt
abbrev O_fCb:Prop:=FnB P w K mg base 2 "is_counts" ["roll","thing"] sp_fCb
abbrev O_fBg:Prop:=FnX P w K mg base 2 "read_plain" ["word"] sp_fBg
abbrev O_fBe:Prop:=FnX P w K mg base 2 "read_counts" ["word"] sp_fBe
abbrev O_fBn:Prop:=FnB P w K mg base 2 "_law_roll" ["_law_cell"] sp_fBn
abbrev O_fBm:Prop:=FnB P w K mg base 2 "_law_part" ["_law_number","_law_roll_here"] sp_fBm
abbrev O_fAq:Prop:=FnB P w K mg base 2 "_law_sign_name" ["_law_number","_law_roll_here"] sp_fAq
abbrev O_fBb:Prop:=FnB P w K mg base 2 "_law_branch" ["_law_number","_law_roll_here"] sp_fBb
abbrev O_fAj:Prop:=FnB P w K mg base 2 "_law_shown_sign" ["_law_sign_here"] sp_fAj
abbrev O_fAl:Prop:=FnB P w K mg base 2 "_law_shown_side" ["_law_side_here"] sp_fAl
abbrev O_fAy:Prop:=FnB P w K mg base 2 "_law_or_none" ["_law_thing"] sp_fAy
abbrev O_fBv:Prop:=FnB P w K mg base 2 "_law_menu" ["_law_roll_here","_law_number"] sp_fBv
abbrev O_fCl:Prop:=FnB P w K mg base 3 "is_sign" ["thing"] sp_fCl
abbrev O_fCm:Prop:=FnB P w K mg base 3 "is_name" ["roll","thing"] sp_fCm
abbrev O_fCa:Prop:=FnB P w K mg base 3 "is_branch" ["roll","thing"] sp_fCa
abbrev O_fBz:Prop:=FnX P w K mg base 3 "read_name" ["word"] sp_fBz
abbrev O_fAs:Prop:=FnX P w K mg base 3 "read_sign_name" ["word"] sp_fAs
abbrev O_fAe:Prop:=FnX P w K mg base 3 "read_plain_or_none" ["word"] sp_fAe
abbrev O_fAc:Prop:=FnX P w K mg base 3 "read_plain_or_empty" ["word"] sp_fAc
abbrev O_fAz:Prop:=FnX P w K mg base 3 "read_branch" ["word"] sp_fAz
abbrev O_fBr:Prop:=FnB P w K mg base 3 "_law_side" ["_law_number","_law_roll_here"] sp_fBr
abbrev O_fCd:Prop:=FnB P w K mg base 3 "_law_sign" ["_law_number","_law_roll_here"] sp_fCd
abbrev O_fAm:Prop:=FnB P w K mg base 3 "_law_sign_names" ["_law_draws_here","_law_roll_here"] sp_fAm
abbrev O_fAo:Prop:=FnB P w K mg base 3 "_law_shown_what" ["_law_what_here"] sp_fAo
abbrev O_fAr:Prop:=FnB P w K mg base 3 "_law_exchanged" ["_law_words","_law_others","_law_roll_here","_law_draws_here"] sp_fAr
abbrev O_fCh:Prop:=FnB P w K mg base 4 "is_part" ["roll","thing"] sp_fCh
abbrev O_fAp:Prop:=FnB P w K mg base 4 "is_line_or_none" ["roll","thing"] sp_fAp
abbrev O_fAx:Prop:=FnB P w K mg base 4 "is_sign_name" ["roll","thing"] sp_fAx
abbrev O_fCc:Prop:=FnX P w K mg base 4 "read_part" ["word"] sp_fCc
abbrev O_fAg:Prop:=FnX P w K mg base 4 "read_name_or_none" ["word"] sp_fAg
abbrev O_fAa:Prop:=FnX P w K mg base 4 "read_sign_name_or_none" ["word"] sp_fAa
abbrev O_fBu:Prop:=FnX P w K mg base 4 "read_side" ["word"] sp_fBu
abbrev O_fBl:Prop:=FnB P w K mg base 4 "_law_signs" ["_law_draws_here","_law_roll_here"] sp_fBl
abbrev O_fAd:Prop:=FnB P w K mg base 4 "_law_what_of_marks" ["_law_kind","_law_more","_law_roll_here"] sp_fAd
abbrev O_fBi:Prop:=FnB P w K mg base 4 "_law_shown" ["_law_deed"] sp_fBi
abbrev O_fAb:Prop:=FnB P w K mg base 5 "is_sign_name_or_none" ["roll","thing"] sp_fAb
abbrev O_fCo:Prop:=FnB P w K mg base 5 "is_side" ["roll","thing"] sp_fCo
abbrev O_fAn:Prop:=FnB P w K mg base 5 "is_sign_of_roll" ["roll","thing"] sp_fAn
abbrev O_fAu:Prop:=FnB P w K mg base 5 "is_sign_names" ["roll","thing"] sp_fAu
abbrev O_fBy:Prop:=FnX P w K mg base 5 "read_sign" ["word"] sp_fBy
abbrev O_fAf:Prop:=FnB P w K mg base 5 "_law_what_of_signs" ["_law_kind","_law_more","_law_roll_here"] sp_fAf
abbrev O_fCg:Prop:=FnB P w K mg base 6 "is_signs" ["roll","thing"] sp_fCg
abbrev O_fBc:Prop:=FnX P w K mg base 6 "read_listed" ["kind","words"] sp_fBc
abbrev O_fBt:Prop:=FnB P w K mg base 6 "_law_what" ["_law_draws_here","_law_roll_here","_law_number"] sp_fBt
abbrev O_fCj:Prop:=FnB P w K mg base 7 "is_what" ["roll","number","thing"] sp_fCj
abbrev O_fBo:Prop:=FnX P w K mg base 7 "read_what" ["words"] sp_fBo
abbrev O_fBj:Prop:=FnB P w K mg base 7 "_law_house" ["_law_script","_law_most"] sp_fBj
abbrev O_fCp:Prop:=FnB P w K mg base 8 "is_deed" ["roll","thing"] sp_fCp
abbrev O_fBx:Prop:=FnX P w K mg base 9 "read_deed" ["roll","text"] sp_fBx
abbrev O_fAw:Prop:=FnB P w K mg base 10 "_law_refused" ["_law_roll_here","_law_text"] sp_fAw
end
section
variable {P:Program}{w:World}{K:PySem.W.Frag}{mg:Str->Option Value}{base:Heap}{tk:Str->Tok}
theorem ok_fCi(T:Txt K mg tk)(F:FO K mg "is_word" s_fCi):O_fCi P w K mg base:=by
 refine mk_ok F sc_fCi (fun _ _ _ _ _ _ u l=>match u,l with|[_],_=>rfl) (fun _ _ _ _ h=>lenT h) fun fa cdv A outer s H vs Q E hr h=>?_
 refine⟨_,(xAaa (ps_if (PW.pt (pw_or (xAbk (xAbe (cb xAbq T.b_isinstance boot_isinstance (a2 (na 0) (xAbj (v:=.ty "str") (by rfl) T.b_str boot_str rfl))))) (xAcv (xAbk (xAei op_le op_le xAac (cb xAcn T.b_len boot_len (a1 (na 0))) (xAbb (v:=.int 8) (by rfl) T.c_MOST_LETTERS ⟨_,rfl⟩)))))) (xAab (xAag pe_bl)) xAah)
   (xAab (xAag (cb (xAcx rfl) T.b_all boot_all (a1 (lc0 (xAos (na 0)) (fun _ _ _=>xAav) (fun _ _ _=>(xAfo xAde xAde xAae (na 0) xAae)))))))),?_⟩
 obtain⟨v,d,rfl,ht,k⟩:=h;refine⟨_,"str",_,rfl,rfl,ht.isk (by decide) (by decide),?_⟩
 cases ht with
 |@str z ty =>
  refine⟨_,rfl,iteF ?_⟩;have hz:z.length≤sizeLine:=qg (xAad ty);refine⟨z,rfl,hz,_,_,rfl,rfl,_,rfl,?_⟩;refine ite2 (fun h1=>?_) fun h1=>?_
  ·have h1:(1:Int)≤(z.length:Int):=of_decide_eq_true h1
   refine⟨_,_,rfl,rfl,_,rfl,?_⟩;refine ite2 (fun h2=>?_) fun h2=>?_
   ·have h2:¬(z.length:Int)≤8:=by simpa using h2
    have e:wordS z=false:=xAkc fun h=>h2 h.2;rw[←e];exact k H (Same.refl H)
   ·have h2:(z.length:Int)≤8:=by simpa using h2
    refine⟨z,rfl,xAql hz (fun c=>some (.bl (lett c))) (fun H'=>Same H H') (Same.refl H) (fun c H' K1 K0 hc p k1 k0=>?_) fun H' p s hp=>?_⟩
    ·refine iteT (B:=K0 H') ?_
     refine⟨_,_,rfl,rfl,_,rfl,?_⟩;have e1:(!decide ((⟨#[c]⟩:Str).cps.toList<("a":Str).cps.toList))=decide (97≤c):=le_a c;have e2:(!decide (("z":Str).cps.toList<(⟨#[c]⟩:Str).cps.toList))=decide (c≤122):=le_z c;rw[e1];refine ite2 (fun h3=>?_) fun h3=>?_
     ·refine⟨_,_,rfl,rfl,?_⟩
      rw[e2];exact k1 _ H' (by unfold lett;rw[h3,zt]) p
     ·exact k1 _ H' (by unfold lett;rw[zk.mpr h3,wf]) p
    ·refine⟨p,z.cps.toList.map lett,rfl,SqL.of (by rw[xAaf,xAnk,zy];rfl),?_⟩
     have e:(z.cps.toList.map lett).all id=wordS z:=by
      rw[xAsi h1 h2,wk];rfl
     rw[e];exact k _ (s.up hp)
  ·have h1:¬(1:Int)≤(z.length:Int):=by simpa using h1
   have e:wordS z=false:=xAkc fun h=>h1 h.1;refine⟨_,rfl,iteT ?_⟩;rw[←e];exact k H (Same.refl H)
 |_=>exact⟨_,rfl,iteT (iteT (k H (Same.refl H)))⟩
theorem ok_fBd(T:Txt K mg tk)(F:FO K mg "is_tuple_of" s_fBd):O_fBd P w K mg base:=by
 refine mk_ok F sc_fBd (fun _ _ _ _ _ _ u l=>match u,l with|[_,_],_=>rfl) (fun _ _ _ _ h=>xAtk h) fun fa cdv A outer s H vs Q E hr h=>?_;refine⟨_,(xAab (xAag (xAbv (cb xAbq T.b_isinstance boot_isinstance (a2 (na 0) (xAbj (v:=.ty "tuple") (by rfl) T.b_tuple boot_tuple rfl))) (xAbl (ce op_eq (cb xAai T.b_len boot_len (a1 (na 0))) (na 1)))))),?_⟩;obtain⟨v,d,n,rfl,ht,k⟩:=h;refine⟨_,"tuple",_,rfl,rfl,ht.isk (by decide) (by decide),?_⟩
 cases ht with
 |tup h t =>
  refine⟨_,rfl,iteT ?_⟩;refine⟨_,_,rfl,.inr (SqT.of h),rfl,?_⟩;rw[xAgj,gj,t.len];exact k
 |_=>exact⟨_,rfl,iteF k⟩
theorem ok_fBw(T:Txt K mg tk)(F:FO K mg "is_number" s_fBw):O_fBw P w K mg base:=by
 refine mk_ok F sc_fBw (fun _ _ _ _ _ _ u l=>match u,l with|[_,_],_=>rfl) (fun _ _ _ _ h=>xAtl h) fun fa cdv A outer s H vs Q E hr h=>?_
 refine⟨_,(xAaa (ps_if (PW.pt (pw_or (xAbk (xAbe (cb xAbq T.b_isinstance boot_isinstance (a2 (na 0) (xAbj (v:=.ty "int") (by rfl) T.b_int boot_int rfl))))) (xAcv (xAbe (cb xAbq T.b_isinstance boot_isinstance (a2 (na 0) (xAbj (v:=.ty "bool") (by rfl) T.b_bool boot_bool rfl))))))) (xAab (xAag pe_bl)) xAah)
   (xAab (xAag (xAfo op_le op_le (na 1) (na 0) (xAbb (v:=.int 1000000) (by rfl) T.c_MOST_NUMBER ⟨_,rfl⟩))))),?_⟩
 obtain⟨v,d,n,rfl,ht,k⟩:=h;refine⟨_,"int",_,rfl,rfl,ht.isk (by decide) (by decide),?_⟩
 cases ht with
 |int i =>
  refine⟨_,rfl,iteF ?_⟩;refine⟨_,"bool",_,rfl,rfl,.int i,?_⟩;refine⟨_,rfl,iteF ?_⟩;refine⟨_,_,rfl,rfl,_,rfl,?_⟩;refine ite2 (fun h1=>?_) fun h1=>?_
  ·refine⟨_,_,rfl,rfl,?_⟩
   have e:decide (i≤1000000)=mNum n (.int i):=by
    show _=decide (n≤i/\i≤1000000);rw[Bool.decide_and,h1,zt]
   show Q (.bl (decide (i≤1000000))) H;rw[e];exact k
  ·have e:false=mNum n (.int i):=by
    show _=decide (n≤i/\i≤1000000);rw[Bool.decide_and,zk.mpr h1,wf]
   rw[e];exact k
 |bl b =>
  refine⟨_,rfl,iteF ?_⟩;exact⟨_,"bool",_,rfl,rfl,.bl b,_,rfl,iteT k⟩
 |_=>exact⟨_,rfl,iteT (iteT k)⟩
theorem ok_fBp(T:Txt K mg tk)(F:FO K mg "is_one_of" s_fBp):O_fBp P w K mg base:=by
 refine mk_ok F sc_fBp (fun _ _ _ _ _ _ u l=>match u,l with|[_,_],_=>rfl) (fun _ _ _ _ h=>xAtm h) fun fa cdv A outer s H vs Q E hr h=>?_;refine⟨_,(xAab (xAag (xAbv (cb xAbq T.b_isinstance boot_isinstance (a2 (na 0) (xAbj (v:=.ty "str") (by rfl) T.b_str boot_str rfl))) (xAbl (ce isq (na 0) (na 1)))))),?_⟩;obtain⟨v,d,p,zs,rfl,ht,hp,k⟩:=h;refine⟨_,"str",_,rfl,rfl,ht.isk (by decide) (by decide),?_⟩
 cases ht with
 |str hz =>
  refine⟨_,rfl,iteT ?_⟩;refine⟨p,_,rfl,.inr (SqT.of hp),rfl,(by rw[wk];exact zg.mpr fun _ _=>rfl),?_⟩;show Q (.bl (inV _ _)) H;rw[xAdo];exact k
 |_=>exact⟨_,rfl,iteF k⟩
theorem ok_fCe(T:Txt K mg tk)(F:FO K mg "is_truth" s_fCe):O_fCe P w K mg base:=by
 refine mk_ok F sc_fCe (fun _ _ _ _ _ _ u l=>match u,l with|[_,_],_=>rfl) (fun _ _ _ _ h=>lenR h) fun fa cdv A outer s H vs Q E hr h=>?_;refine⟨_,(xAab (xAag (cb xAbq T.b_isinstance boot_isinstance (a2 (na 1) (xAbj (v:=.ty "bool") (by rfl) T.b_bool boot_bool rfl))))),?_⟩;obtain⟨p,ws,v,d,rfl,md,hw,ht,k⟩:=h;refine⟨_,"bool",_,rfl,rfl,ht.isk (by decide) (by decide),?_⟩
 have e:kT "bool" d=mTruth d:=by cases d <;> rfl
 rw[e];exact k H (Same.refl H)
theorem ok_fBa(T:Txt K mg tk)(F:FO K mg "read_number" s_fBa):O_fBa P w K mg base:=by
 refine xAcg F xAty (fun _ _ _ _ _ _ u l=>match u,l with|[_],_=>rfl) (fun _ _ _ _ h=>lenY h) fun fa cdv A outer s H vs Q E hr h=>?_
 refine⟨_,(xAaa (sn xAty.nd 1 (cb (xAcx rfl) T.b_all boot_all (a1 (lc0 (xAos (na 0)) (fun _ _ _=>xAav) (fun _ _ _=>(xAfo xAde xAde xAae (na 0) xAae))))))
   (xAaa (ps_if (PW.pt (pw_or (xAbk (xAbe (na 1))) (pw_or (xAbk (xAei op_le op_le xAac (cb xAcn T.b_len boot_len (a1 (na 0))) (xAbb (v:=.int 7) (by rfl) T.c_MOST_DIGITS ⟨_,rfl⟩))) (xAcv (PW.pt (xAkv (ck op_eq (pe_ix xAon (na 0) xAac (fun _ _=>rfl)) xAae) (xAgh (ck op_ne (na 0) xAae)))))))) (xAab (xAbr T.X_NoDeed T.g_NoDeed (a1 (xAds (na 0))))) xAah)
   (xAab (xAag (cy xAmm T.b_int boot_int (a1 (na 0))))))),?_⟩
 obtain⟨z,rfl,md,sh,hl,k,kx⟩:=h;have hz:z.length≤sizeLine:=qg (xAad hl)
 have hr:∀d,RNum7 d z->(∀c∈z.cps.toList,48≤c/\c≤57)/\(1≤z.cps.size/\z.cps.size≤7)/\(z.cps.toList[0]?=some 48->z = "0"):=fun d ⟨n,_,hn,e⟩=>by
  subst e;refine⟨fun c hc=>xAeq hn.1 c hc,⟨xAsw hn.1,xApr hn.1 hn.2⟩,fun h0=>?_⟩;rw[head07 hn.1 h0];rfl
 refine⟨_,rfl,xAql hz (fun c=>some (.bl (decide (48≤c)&&decide (c≤57)))) (fun H'=>Same H H') (Same.refl H) (fun c H' K1 K0 hc p k1 k0=>?_) fun H1 q s1 hq=>?_⟩
 ·refine iteT (B:=K0 H') ?_
  refine⟨_,_,rfl,rfl,_,rfl,?_⟩;have e1:=le_0 c;have e2:=le_9 c;rw[e1];refine ite2 (fun h3=>?_) fun h3=>?_
  ·refine⟨_,_,rfl,rfl,?_⟩
   rw[e2];exact k1 _ H' (by rw[h3,zt]) p
  ·exact k1 _ H' (by rw[zk.mpr h3,wf]) p
 have s2:=s1.up (o:=.lst (z.cps.toList.filterMap fun c=>some (.bl (decide (48≤c)&&decide (c≤57))))) hq;refine⟨q,z.cps.toList.map fun c=>decide (48≤c)&&decide (c≤57),rfl,SqL.of (by rw[xAaf,xAnk,zy];rfl),?_⟩
 cases e:((z.cps.toList.map fun c=>decide (48≤c)&&decide (c≤57)).all id) with
 |false =>
  refine⟨_,rfl,iteT ?_⟩;refine⟨z,rfl,sh,fun v=>⟨qg (xAad (qp rfl)),kx (fun d h=>?_) _ s2⟩⟩;rw[wk,zk]at e;refine e (zg.mpr fun c hc=>?_);have:=(hr d h).1 c hc;show(decide (48≤c)&&decide (c≤57))=true;rw[decide_eq_true this.1,decide_eq_true this.2];rfl
 |true =>
  have hdig:∀c∈z.cps.toList,48≤c/\c≤57:=fun c hc=>by
   rw[wk,zg]at e;have h:=e c hc;have h:(decide (48≤c)&&decide (c≤57))=true:=h;rw[qr]at h;exact⟨of_decide_eq_true h.1,of_decide_eq_true h.2⟩
  refine⟨_,rfl,iteF ?_⟩;refine⟨_,rfl,hz,_,_,rfl,rfl,_,rfl,?_⟩;refine ite2 (fun h7=>?_) fun h7=>?_
  rotate_left
  ·refine⟨_,rfl,iteT ?_⟩
   refine⟨z,rfl,sh,fun v=>⟨qg (xAad (qp rfl)),kx (fun d h=>h7 (decide_eq_true ?_)) _ s2⟩⟩;have:=(hr d h).2.1.1;show(1:Int)≤((z.cps.size:Nat):Int);omega
  have h7:=of_decide_eq_true h7;refine⟨_,_,rfl,rfl,_,rfl,?_⟩
  cases e8:decide ((z.length:Int)≤7) with
  |false =>
   refine iteT ?_;refine⟨z,rfl,sh,fun v=>⟨qg (xAad (qp rfl)),kx (fun d h=>of_decide_eq_false e8 ?_) _ s2⟩⟩;have:=(hr d h).2.1.2;show((z.cps.size:Nat):Int)≤7;omega
  |true =>
   refine iteF ?_;have h8:=of_decide_eq_true e8
   have hp0:0<z.cps.toList.length:=by
    have h:(1:Int)≤((z.cps.size:Nat):Int):=h7;rw[zx];omega
   have hs7:z.cps.size≤7:=by
    have h:((z.cps.size:Nat):Int)≤7:=h8;omega
   obtain⟨c,hc0⟩:∃c,z.cps.toList[0]?=some c:=⟨_,qj hp0⟩;have hc:atI z.cps.toList 0=some c:=xAak (j:=0) hc0;refine⟨_,_,c,rfl,rfl,hz,hc,rfl,_,rfl,?_⟩
   have fin:(z.cps.toList.head?=some 48->z.cps.size=1)->tRet (tCB rIntS (tCons (tVa 0) tNil)) { nx:=fun x H'=>Q V.non H',rt:=Q } (List.set (L2.start N_fBa [V.str z]) 1 (some (V.bl true))) (upd H1 q (.lst (z.cps.toList.filterMap fun c=>some (.bl (decide (48≤c)&&decide (c≤57)))))):=fun h1=>by
    obtain⟨n,n0,n7,en⟩:=xAmp hdig (by rw[←zx];exact hp0) hs7 h1;exact⟨n,by rw[en],n0,by omega,k _ _ _ ⟨n,rfl,⟨n0,n7⟩,en⟩ s2 (.int n)⟩
   have ecc:∀{c:Nat},V.str ⟨#[c]⟩=V.str "0"->c=48:=fun{c} h0=>by
    have:=congrArg (fun z:Str=>z.cps.toList) (V.str.inj h0)
    have e:("0":Str).cps.toList=[48]:=by decide +kernel
    rw[e]at this;exact(List.cons.inj this).1
   have hhd:z.cps.toList.head?=some c:=by rw[List.head?_eq_getElem?];exact hc0
   refine ite2 (fun h0=>?_) fun h0=>fin fun h1=>?_
   rotate_left
   ·rw[hhd]at h1
    cases h1;exact absurd (decide_eq_true rfl) h0
   have ec:=ecc (of_decide_eq_true h0);refine⟨rfl,_,rfl,?_⟩
   cases e9:decide (V.str z=V.str "0") with
   |true =>
    refine fin fun _=>?_;have:=V.str.inj (of_decide_eq_true e9);rw[this];decide +kernel
   |false =>
    refine⟨z,rfl,sh,fun v=>⟨qg (xAad (qp rfl)),kx (fun d h=>of_decide_eq_false e9 ?_) _ s2⟩⟩;rw[(hr d h).2.2 (ec▸hc0)]
theorem ok_fBh(T:Txt K mg tk)(F:FO K mg "read_truth" s_fBh):O_fBh P w K mg base:=by
 refine xAcg F sc_fBh (fun _ _ _ _ _ _ u l=>match u,l with|[_],_=>rfl) (fun _ _ _ _ h=>lenY h) fun fa cdv A outer s H vs Q E hr h=>?_
 refine⟨_,(xAaa (ps_if (PW.pt (xAkv (ck op_ne (na 0) xAae) (xAgh (ck op_ne (na 0) xAae)))) (xAab (xAbr T.X_NoDeed T.g_NoDeed (a1 (xAds (na 0))))) xAah)
   (xAab (xAag (ce op_eq (na 0) xAae)))),?_⟩
 obtain⟨z,rfl,md,sh,hl,k,kx⟩:=h;refine⟨rfl,_,rfl,?_⟩
 by_cases e1:z=("yes":Str)
 ·rw[show(!decide (V.str z=V.str "yes"))=false from by rw[decide_eq_true (by rw[e1])];rfl]
  refine iteF (iteF ?_);refine⟨rfl,?_⟩;rw[show decide (V.str z=V.str "yes")=true from decide_eq_true (by rw[e1])];exact k _ _ _ ⟨true,rfl,e1⟩ (Same.refl H) (.bl true)
 ·have f1:decide (V.str z=V.str "yes")=false:=decide_eq_false fun h=>e1 (V.str.inj h)
  rw[f1];refine iteT ?_;refine⟨rfl,_,rfl,?_⟩
  by_cases e2:z=("no":Str)
  ·rw[show(!decide (V.str z=V.str "no"))=false from by rw[decide_eq_true (by rw[e2])];rfl]
   refine iteF ?_;refine⟨rfl,?_⟩;rw[f1];exact k _ _ _ ⟨false,rfl,e2⟩ (Same.refl H) (.bl false)
  ·rw[show(!decide (V.str z=V.str "no"))=true from by rw[decide_eq_false fun h=>e2 (V.str.inj h)];rfl]
   refine iteT ?_;refine⟨z,rfl,sh,fun v=>⟨qg (xAad (qp rfl)),kx (fun d h=>?_) _ (Same.refl H)⟩⟩;obtain⟨b,_,e⟩:=h
   cases b with
   |true=>exact e1 e
   |false=>exact e2 e
theorem ok_fBk(T:Txt K mg tk)(F:FO K mg "_law_draws" s_fBk):O_fBk P w K mg base:=by
 refine mk_ok F xAes (fun _ _ _ _ _ _ u l=>match u,l with|[_,_],_=>rfl) (fun _ _ _ _ h=>xAqx h) fun fa cdv A outer s H vs Q E hr h=>?_
 refine⟨_,(xAaa (sn xAes.nd 2 (xAan xAhs))
   (xAaa (sn xAes.nd 3 (cb (xAej rfl) T.b_max boot_max (a2 xAac (pe_op xAih (vv 0) (pe_op xAhq xAac xAac)))))
   (xAaa (fo (xAcj (by rfl) T.b_range (a1 (vv 1))) (gn xAes.nd 4)
   (xAaa (sn xAes.nd 5 (pe_op xAar (pe_op xAdx (pe_op xAbh (pe_op xAbh (pe_op xAar (vv 0) xAac) (pe_op xAdx (pe_op xAdx xAac (vv 4)) (vv 4))) xAac) xAac) xAac))
   (xAaa (sn xAes.nd 5 (pe_op xAar (pe_op xAdx (vv 5) (vv 5)) xAac))
   (xAaa (sn xAes.nd 6 (pe_op xAaq (pe_op xAdx (pe_op xAdx (pe_op xAdx (vv 5) (pe_op xAbh (vv 5) xAac)) xAac) (pe_op xAbh (pe_op xAbh (vv 5) (vv 4)) xAac)) xAac))
   (xAaa (ps_if (ck op_gt (vv 3) xAac) (xAab (sn xAes.nd 6 (vv 3))) xAah)
   (xAaa (ap (vv 2) (a1 (pe_op xAar (vv 6) (pe_op xAhq xAac xAac))))
   (xAab (sn xAes.nd 3 (pe_op xAot (vv 3) (pe_op xAhq xAac xAac))))))))))
   (xAab (xAag (vv 2)))))),?_⟩
 obtain⟨i,n,rfl,hn,k⟩:=h;refine⟨by decide,fun p H1 hp s1 e1=>?_⟩;refine⟨_,rfl,_,_,rfl,rfl,⟨by decide,by decide,by decide⟩,_,_,rfl,rfl,_,_,rfl,?_⟩
 refine⟨_,rfl,n,rfl,by omega,by omega,xAco (n:=(n:Int).toNat) (fun j σ H2=>∃(dg:Int) (ns:List Int) (q4 q5 q6:Option V),σ=[some (.int i),some (.int n),some (.ref p),some (.int dg),q4,q5,q6]/\Same H H2/\H2 p=some (.lst (ns.map V.int))/\ns.length=j)
  ⟨_,[],none,none,none,rfl,s1,e1,rfl⟩ ?_ ?_⟩
 ·rintro j σ H2 hj ⟨dg,ns,q4,q5,q6,rfl,s2,h2,hl⟩
  have hj':j<31:=by omega
  refine⟨_,rfl,_,_,rfl,rfl,(by show(0:Int)<1000000007;decide),_,rfl,_,_,rfl,rfl,.inl ⟨by decide,by decide⟩,_,rfl,_,_,rfl,rfl,.inr ⟨by omega,by omega⟩,_,_,rfl,rfl,_,_,rfl,rfl,_,_,rfl,rfl,.inr ⟨by decide,by decide⟩,_,_,rfl,rfl,(by show(0:Int)<2147483629;decide),?_⟩;refine⟨_,rfl,_,rfl,_,_,rfl,rfl,.inl (cm (by decide) (by decide)),_,_,rfl,rfl,(by show(0:Int)<2147483587;decide),?_⟩;refine⟨_,rfl,_,rfl,_,_,rfl,rfl,_,_,rfl,rfl,.inl (cm (by decide) (by decide)),_,_,rfl,rfl,.inr ⟨by decide,by decide⟩,_,rfl,_,rfl,_,_,rfl,rfl,_,_,rfl,rfl,_,_,rfl,rfl,.inr (cm3 (by decide) (by decide) hj'),_,_,rfl,rfl,⟨by decide,by decide⟩,?_⟩;refine⟨_,rfl,_,_,rfl,rfl,_,rfl,?_⟩;refine ite2 (fun _=>⟨_,rfl,?_⟩) fun _=>?_
  all_goals
   refine⟨_,rfl,.inl ⟨rfl,_,SqL.of h2⟩,_,rfl,_,_,rfl,rfl,⟨by decide,by decide,by decide⟩,_,_,rfl,rfl,(by decide:(0:Int)<10 ^ (34:Int).toNat),p,_,_,rfl,rfl,h2,(by rw[qc];exact xAad (by omega)),?_⟩;refine⟨_,rfl,_,_,rfl,rfl,⟨by decide,by decide,by decide⟩,_,_,rfl,rfl,⟨(by decide:(0:Int)<10 ^ (34:Int).toNat),by decide +kernel⟩,?_⟩;exact⟨_,ns++[_],_,_,_,rfl,s2.wr hp,by rw[xAaf,zo];rfl,by rw[ql,zm,hl]⟩
 ·rintro σ H2 ⟨dg,ns,q4,q5,q6,rfl,s2,h2,hl⟩
  have hl':ns.length=n:=by omega
  exact⟨_,rfl,k H2 p ns s2 hp ⟨h2,by omega,by omega⟩ hl'⟩
theorem ok_fBq(T:Txt K mg tk)(F:FO K mg "_law_word" s_fBq):O_fBq P w K mg base:=by
 refine mk_ok F xAgd (fun _ _ _ _ _ _ u l=>match u,l with|[_],_=>rfl) (fun _ _ _ _ h=>xAqy h) fun fa cdv A outer s H vs Q E hr h=>?_
 refine⟨_,(xAaa (sn xAgd.nd 1 xAae)
   (xAaa (sn xAgd.nd 2 (pe_op xAbh xAac (pe_op xAar (vv 0) xAac)))
   (xAaa (sn xAgd.nd 0 (pe_op xAaq (vv 0) xAac))
   (xAaa (fo (xAcj (by rfl) T.b_range (a1 (vv 2))) (gn xAgd.nd 3)
   (xAaa (sn xAgd.nd 1 (pe_op xAaw (vv 1) (pe_ix xAon xAae (pe_op xAar (vv 0) xAac) (fun _ _=>rfl))))
   (xAab (sn xAgd.nd 0 (pe_op xAaq (vv 0) xAac)))))
   (xAab (xAag (vv 1))))))),?_⟩
 obtain⟨i,rfl,k⟩:=h;refine⟨_,rfl,_,_,rfl,rfl,(by show(0:Int)<8;decide),_,_,rfl,rfl,?_⟩;refine⟨_,rfl,_,_,rfl,rfl,⟨by decide,by decide⟩,?_⟩;have hm:0≤i % 8/\i % 8<8:=⟨Int.emod_nonneg _ (by decide),Int.emod_lt_of_pos _ (by decide)⟩
 refine⟨_,rfl,_,rfl,by omega,by omega,xAco (n:=(1+i % 8).toNat) (fun j σ H2=>∃(n:Int) (z:Str) (q:Option V),σ=[some (.int n),some (.str z),some (.int (1+i % 8)),q]/\H2=H/\z.cps.size=j/\∀c∈z.cps.toList,97≤c/\c≤122)
  ⟨i / 8,_,none,rfl,rfl,rfl,fun _ z=>nomatch z⟩ ?_ ?_⟩
 ·rintro j σ H2 hj ⟨n,z,q,rfl,rfl,hz,hw⟩
  have hn:0≤n % 26/\n % 26<26:=⟨Int.emod_nonneg _ (by decide),Int.emod_lt_of_pos _ (by decide)⟩;obtain⟨c,hc⟩:=xAqm ("abcdefghijklmnopqrstuvwxyz":Str).cps.toList (n % 26) hn.1 (by rw[show("abcdefghijklmnopqrstuvwxyz":Str).cps.toList.length=26 from by decide +kernel];omega);refine⟨_,rfl,_,rfl,_,_,rfl,rfl,(by show(0:Int)<26;decide),_,_,_,rfl,rfl,(by decide +kernel),hc,_,_,rfl,rfl,?_,?_⟩
  ·have:z.length=z.cps.size:=rfl
   have h1:(⟨#[c]⟩:Str).length=1:=rfl;have:=xAad (n:=z.length+1) (by omega);omega
  ·refine⟨_,rfl,_,_,rfl,rfl,⟨by decide,by decide⟩,?_⟩
   refine⟨n / 26,_,_,rfl,rfl,by rw[xAfu];show _+1=_;omega,fun c' hc'=>?_⟩;rw[xAcq]at hc';rcases q0.mp hc' with y|y
   ·exact hw c' y
   ·rw[zd.mp y]
    exact xAqv c (xAnr hc)
 ·rintro σ H2 ⟨n,z,q,rfl,rfl,hz,hw⟩
  exact⟨_,rfl,k z ⟨by omega,by omega,hw⟩⟩
theorem ok_fBs(T:Txt K mg tk)(F:FO K mg "_law_name" s_fBs):O_fBs P w K mg base:=by
 refine mk_ok F xAtz (fun _ _ _ _ _ _ u l=>match u,l with|[_,_],_=>rfl) (fun _ _ _ _ h=>xAra h) fun fa cdv A outer s H vs Q E hr h=>?_
 refine⟨_,(xAaa (sn xAtz.nd 2 (pe_op xAaq (vv 0) (cb xAai T.b_len boot_len (a1 (vv 1)))))
   (xAab (xAag (xAam (a2 (xa (vv 1) (pe_op xAar (vv 0) (cb xAai T.b_len boot_len (a1 (vv 1))))) (pe_op xAbh xAac (pe_op xAar (pe_op xAaq (vv 2) xAac) (xa (xAan (a2 xAac (pe_op xAhq xAac xAac))) (pe_op xAar (vv 2) xAac))))))))),?_⟩
 obtain⟨i,p,ws,rfl,hp,k⟩:=h;refine⟨_,rfl,_,rfl,p,_,rfl,.inl (SqL.of hp.at'),_,_,rfl,rfl,hp.len,?_⟩;refine⟨_,rfl,_,rfl,_,rfl,p,_,rfl,.inl (SqL.of hp.at'),_,_,rfl,rfl,hp.len.1,p,_,_,rfl,rfl,SqL.of hp.at',xAbf _ hp.len.1,xAbg _ hp.len.1,fun v hv=>?_⟩;obtain⟨w,hw,rfl⟩:=qu.mp hv;refine⟨_,rfl,_,_,rfl,rfl,⟨by decide,by decide⟩,_,_,rfl,rfl,⟨by decide,by decide,by decide⟩,szOk rfl,fun q1 H1 g1 s1 e1=>?_⟩;refine⟨_,rfl,_,_,rfl,rfl,(by show(0:Int)<2;decide),q1,_,_,rfl,rfl,SqL.of e1,xAbf _ (by decide),xAbg _ (by decide),fun m hm=>?_⟩
 obtain⟨n,rfl,hn,hn2⟩:∃n,m=V.int n/\0<n/\n≤1000000:=by
  simp only[List.mem_cons,List.not_mem_nil,or_false]at hm
  rcases hm with rfl|rfl
  ·exact⟨9,rfl,by decide,by decide⟩
  ·exact⟨_,rfl,by decide,by decide⟩
 refine⟨_,_,rfl,rfl,hn,_,_,rfl,rfl,szOk rfl,fun q2 H2 g2 s2 e2=>?_⟩;refine k H2 (.ref q2) _ (s1.trans s2) (.tup e2 (.cons (.str w) (.cons (.int _) .nil))) ⟨_,rfl,w,_,rfl,hw,?_,?_⟩
 ·have:=xAbf (i / ((ws.map V.str).length:Int) / 2) hn
  omega
 ·have:=xAbg (i / ((ws.map V.str).length:Int) / 2) hn
  omega
theorem ok_fAk(T:Txt K mg tk)(F:FO K mg "_law_shown_name" s_fAk):O_fAk P w K mg base:=by
 refine mk_ok F sc_fAk (fun _ _ _ _ _ _ u l=>match u,l with|[_],_=>rfl) (fun _ _ _ _ h=>xAsz h) fun fa cdv A outer s H vs Q E hr h=>?_
 refine⟨_,(xAaa (ps_if (ck (eqD hr) (vv 0) (xAam (a2 xAae xAac))) (xAab (xAag xAae)) xAah)
   (xAab (xAag (bm PySem.F.plainAttrs_str PySem.F.slot_str_join PySem.F.type_str_join xAey xAae (a1 (lc0 (iu (vv 0)) (fun _ _ _=>xAav) (fun _ _ _=>(cy xAcp T.b_str boot_str (a1 (vv 0)))))))))),?_⟩
 obtain⟨v,ds,rfl,hv,hn,kk⟩:=h;obtain⟨q,xs,rfl,hq,hx⟩:=xAdd hv;have hl:=xAdc hx;obtain⟨fl,ff⟩:=hn.flat;refine⟨_,rfl,szOk rfl,fun w1 H1 g1 s1 f1=>?_⟩;refine⟨.tuple ds,.tuple [.str "",.int 0],(hv.same s1).dv,.tup (SqT.of f1) (.cons (.str _) (.cons (.int _) .nil)),?_,by decide +kernel,?_,_,rfl,?_⟩
 ·rcases hn with rfl|⟨h,r,rfl,h0,hok,h8,hr,hi⟩
  ·decide +kernel
  ·show(PyData.strOk h&&PyData.canLayAll0 r)=true
   rw[hok,xAfy hi];rfl
 ·show min _ (max 0 (max 0 0)+1)≤64
  omega
 rcases hn with rfl|⟨h,r,rfl,h0,hok,h8,hr,hi⟩
 ·refine itT (by decide +kernel) ?_
  exact kk H1 s1
 ·refine itF ?_ ?_
  ·show(h==""&&_)=false
   rw[show(h==("":Str))=false from by rw[beq_eq_false_iff_ne];exact h0];rfl
  rw[xAed (r:=r) h0]at kk;have hq1:=s1 _ _ hq;refine⟨rfl,_,rfl,q,rfl,⟨_,SqT.of hq1⟩,xAiy (xs:=xs) (big (by omega)) (fun i ys H'=>ys=(((PyData.str h::r).map strD).take i).map V.str/\H'=H1) ⟨rfl,rfl⟩ (fun _ _ H' q'=>by rw[q'.2];exact SqT.of hq1) (fun j x ys H' K1 K0 hxj qq k1 k0=>?_) fun H' p ys P _ hp=>?_⟩
  ·obtain⟨rfl,rfl⟩:=qq
   obtain⟨d,ed,dv⟩:=xAiz hx hxj;obtain⟨f1,f2⟩:=xAji dv (ff d (qz ed));refine iteT (B:=K0 H') ?_;refine⟨_,rfl,x,rfl,f1,k1 _ _ ⟨?_,rfl⟩⟩;rw[xAgy (x:=strD d) (by rw[zh,ed];rfl),zo,f2];rfl
  ·obtain⟨rfl,rfl⟩:=P
   rw[wu (by rw[qc,hl];exact qd _)];refine⟨".",p,(PyData.str h::r).map strD,rfl,rfl,SqL.of xAaf,?_,kk _ (s1.trans (Same.new hp))⟩;have:=xAec ff;have e1:(".":Str).length=1:=rfl;rw[e1,qc];omega
theorem ok_fCk(T:Txt K mg tk)(F:FO K mg "is_main" s_fCk)(gfBw:O_fBw P w K mg base)(gfBp:O_fBp P w K mg base)(gfBd:O_fBd P w K mg base):O_fCk P w K mg base:=by
 refine mk_ok F sc_fCk (fun _ _ _ _ _ _ u l=>match u,l with|[_],_=>rfl) (fun _ _ _ _ h=>lenT h) fun fa cdv A outer s H vs Q E hr h=>?_;refine⟨_,(xAab (xAag (xAbv (cl gfBd hr (a2 (na 0) xAac)) (xAbv (cl gfBp hr (a2 (xt (na 0)) (xAam (a1 xAae)))) (xAbv (cl gfBw hr (a2 (xt (na 0)) xAac)) (xAbl (ce op_eq (xt (na 0)) xAac))))))),?_⟩;obtain⟨v,d,rfl,ht,k⟩:=h;refine⟨_,d,_,rfl,ht,_,rfl,?_⟩;have k0:=k H (Same.refl H)
 cases ht with
 |tup h t =>
  refine ite2 (fun h1=>?_) fun h1=>?_
  ·have h1:=of_decide_eq_true h1
   obtain⟨x,y,a,b,rfl,rfl,ta,tb⟩:=t.two (by omega);refine⟨_,_,_,x,rfl,rfl,SqT.of h,rfl,?_⟩;refine⟨by decide,fun q H1 hq s1 e1=>?_⟩;refine⟨_,a,q,[""],rfl,ta.same s1,e1,_,rfl,?_⟩;refine ite2 (fun h2=>?_) fun h2=>?_
   ·refine⟨_,_,_,y,rfl,rfl,SqT.of (s1 _ _ h),rfl,?_⟩
    refine⟨_,b,_,rfl,tb.same s1,_,rfl,?_⟩
    cases tb with
    |int i =>
     have e:mMain (.tup [a,.int i])=decide (i=0):=by show(mOne [""] a&&decide (i=0))=_;rw[h2];rfl
     refine ite2 (fun h3=>?_) fun h3=>?_
     ·refine⟨_,_,_,_,rfl,rfl,SqT.of (s1 _ _ h),rfl,?_⟩
      refine⟨rfl,?_⟩;rw[xAgj,gj,←e];exact k H1 s1
     ·have e0:decide (i=0)=false:=decide_eq_false fun z=>h3 (decide_eq_true (by omega))
      rw[←e0,←e];exact k H1 s1
    |_=>exact iteF (k H1 s1)
   ·have e:mMain (.tup [a,b])=false:=by
     unfold mMain;split
     ·rename_i e;cases e;rw[zk.mpr h2];rfl
     ·rfl
    rw[←e];exact k H1 s1
  ·rw[←xAmf (off2 h1)];exact k0
 |_=>exact iteF k0
theorem ok_fBf(T:Txt K mg tk)(F:FO K mg "is_any_name" s_fBf)(gfBw:O_fBw P w K mg base)(gfBd:O_fBd P w K mg base)(gfCi:O_fCi P w K mg base):O_fBf P w K mg base:=by
 refine mk_ok F sc_fBf (fun _ _ _ _ _ _ u l=>match u,l with|[_],_=>rfl) (fun _ _ _ _ h=>lenT h) fun fa cdv A outer s H vs Q E hr h=>?_;refine⟨_,(xAab (xAag (xAbv (cl gfBd hr (a2 (na 0) xAac)) (xAbv (cl gfCi hr (a1 (xt (na 0)))) (xAbl (cl gfBw hr (a2 (xt (na 0)) xAac))))))),?_⟩;obtain⟨v,d,rfl,ht,k⟩:=h;refine⟨_,d,_,rfl,ht,_,rfl,?_⟩;have k0:=k H (Same.refl H)
 cases ht with
 |tup h t =>
  refine ite2 (fun h1=>?_) fun h1=>?_
  ·have h1:=of_decide_eq_true h1
   obtain⟨x,y,a,b,rfl,rfl,ta,tb⟩:=t.two (by omega);refine⟨_,_,_,x,rfl,rfl,SqT.of h,rfl,?_⟩;refine⟨_,a,rfl,ta,fun H1 s1=>⟨_,rfl,?_⟩⟩;refine ite2 (fun h2=>?_) fun h2=>?_
   ·refine⟨_,_,_,y,rfl,rfl,SqT.of (s1 _ _ h),rfl,?_⟩
    refine⟨_,b,_,rfl,tb.same s1,?_⟩
    have e:mAny (.tup [a,b])=mNum 1 b:=by show(mWord a&&mNum 1 b)=_;rw[h2];rfl
    rw[←e];exact k H1 s1
   ·have e:mAny (.tup [a,b])=false:=by show(mWord a&&mNum 1 b)=_;rw[zk.mpr h2];rfl
    rw[←e];exact k H1 s1
  ·rw[←xAjw (off2 h1)];exact k0
 |_=>exact iteF k0
theorem ok_fCn(T:Txt K mg tk)(F:FO K mg "is_hand" s_fCn)(gfCi:O_fCi P w K mg base):O_fCn P w K mg base:=by
 refine mk_ok F sc_fCn (fun _ _ _ _ _ _ u l=>match u,l with|[_,_],_=>rfl) (fun _ _ _ _ h=>lenR h) fun fa cdv A outer s H vs Q E hr h=>?_;refine⟨_,(xAab (xAag (xAbv (cl gfCi hr (a1 (na 1))) (xAbl (ce isq (na 1) (na 0)))))),?_⟩;obtain⟨p,ws,v,d,rfl,md,hw,ht,k⟩:=h;refine⟨_,d,rfl,ht,fun H1 s1=>⟨_,rfl,?_⟩⟩
 cases ht with
 |@str z ty =>
  refine ite2 (fun h1=>?_) fun h1=>?_
  ·refine⟨p,_,rfl,.inl (SqL.of (s1 _ _ hw.at')),rfl,(by rw[wk];exact zg.mpr fun _ _=>rfl),?_⟩
   show Q (.bl (inV _ _)) H1;rw[xAdo]
   have e:mHand ws (.str z)=decide (z∈ws):=by show(wordS z&&_)=_;rw[show wordS z=true from h1];rfl
   rw[←e];exact k H1 s1
  ·have e:mHand ws (.str z)=false:=by show(wordS z&&_)=_;rw[show wordS z=false from zk.mpr h1];rfl
   rw[←e];exact k H1 s1
 |_=>exact iteF (k H1 s1)
theorem ok_fAv(T:Txt K mg tk)(F:FO K mg "is_plain_word" s_fAv)(gfCi:O_fCi P w K mg base):O_fAv P w K mg base:=by
 refine mk_ok F sc_fAv (fun _ _ _ _ _ _ u l=>match u,l with|[_,_],_=>rfl) (fun _ _ _ _ h=>lenR h) fun fa cdv A outer s H vs Q E hr h=>?_;refine⟨_,(xAab (xAag (cl gfCi hr (a1 (na 1))))),?_⟩;obtain⟨p,ws,v,d,rfl,md,hw,ht,k⟩:=h;exact⟨_,d,rfl,ht,k⟩
theorem ok_fAi(T:Txt K mg tk)(F:FO K mg "is_word_or_none" s_fAi)(gfCi:O_fCi P w K mg base):O_fAi P w K mg base:=by
 refine mk_ok F sc_fAi (fun _ _ _ _ _ _ u l=>match u,l with|[_,_],_=>rfl) (fun _ _ _ _ h=>lenR h) fun fa cdv A outer s H vs Q E hr h=>?_;refine⟨_,(xAab (xAag (pe_or (ce xAfn (na 1) xAcd) (xAbl (cl gfCi hr (a1 (na 1))))))),?_⟩;obtain⟨p,ws,v,d,rfl,md,hw,ht,k⟩:=h;refine⟨rfl,_,rfl,?_⟩
 cases ht with
 |non=>exact iteT (k H (Same.refl H))
 |str hz=>exact iteF ⟨_,_,rfl,.str hz,k⟩
 |tup h t=>exact iteF ⟨_,_,rfl,.tup h t,k⟩
 |lst h=>exact iteF ⟨_,_,rfl,.lst h,k⟩
 |dct h=>exact iteF ⟨_,_,rfl,.dct h,k⟩
 |int i=>exact iteF ⟨_,_,rfl,.int i,k⟩
 |bl i=>exact iteF ⟨_,_,rfl,.bl i,k⟩
theorem ok_fAh(T:Txt K mg tk)(F:FO K mg "is_word_or_empty" s_fAh)(gfBp:O_fBp P w K mg base)(gfCi:O_fCi P w K mg base):O_fAh P w K mg base:=by
 refine mk_ok F sc_fAh (fun _ _ _ _ _ _ u l=>match u,l with|[_,_],_=>rfl) (fun _ _ _ _ h=>lenR h) fun fa cdv A outer s H vs Q E hr h=>?_;refine⟨_,(xAab (xAag (pe_or (cl gfCi hr (a1 (na 1))) (xAbl (cl gfBp hr (a2 (na 1) (xAam (a1 xAae)))))))),?_⟩;obtain⟨p,ws,v,d,rfl,md,hw,ht,k⟩:=h;refine⟨_,d,rfl,ht,fun H1 s1=>⟨_,rfl,?_⟩⟩;refine ite2 (fun h1=>?_) fun h1=>?_
 ·have:mWoE d=true:=by unfold mWoE;rw[h1];rfl
  rw[←this];exact k H1 s1
 ·refine⟨by decide,fun q H2 hq s2 e2=>?_⟩
  refine⟨_,d,q,[""],rfl,(ht.same s1).same s2,e2,?_⟩
  have:mWoE d=mOne [""] d:=by unfold mWoE;rw[zk.mpr h1];rfl
  rw[←this];exact k H2 (s1.trans s2)
theorem ok_fCq(T:Txt K mg tk)(F:FO K mg "is_way" s_fCq)(gfBp:O_fBp P w K mg base):O_fCq P w K mg base:=by
 refine mk_ok F sc_fCq (fun _ _ _ _ _ _ u l=>match u,l with|[_,_],_=>rfl) (fun _ _ _ _ h=>lenR h) fun fa cdv A outer s H vs Q E hr h=>?_;refine⟨_,(xAab (xAag (cl gfBp hr (a2 (na 1) (xAbb (v:=.ref c_WAYS) rfl T.c_WAYS rfl))))),?_⟩;obtain⟨p,ws,v,d,rfl,md,hw,ht,k⟩:=h;exact⟨_,d,_,["row","column"],rfl,ht,md.way,k H (Same.refl H)⟩
theorem ok_fCf(T:Txt K mg tk)(F:FO K mg "is_leave" s_fCf)(gfBp:O_fBp P w K mg base):O_fCf P w K mg base:=by
 refine mk_ok F sc_fCf (fun _ _ _ _ _ _ u l=>match u,l with|[_,_],_=>rfl) (fun _ _ _ _ h=>lenR h) fun fa cdv A outer s H vs Q E hr h=>?_;refine⟨_,(xAab (xAag (cl gfBp hr (a2 (na 1) (xAbb (v:=.ref c_LEAVES) rfl T.c_LEAVES rfl))))),?_⟩;obtain⟨p,ws,v,d,rfl,md,hw,ht,k⟩:=h;exact⟨_,d,_,["read","note","write","give"],rfl,ht,md.lea,k H (Same.refl H)⟩
theorem ok_fAt(T:Txt K mg tk)(F:FO K mg "is_deed_number" s_fAt)(gfBw:O_fBw P w K mg base):O_fAt P w K mg base:=by
 refine mk_ok F sc_fAt (fun _ _ _ _ _ _ u l=>match u,l with|[_,_],_=>rfl) (fun _ _ _ _ h=>lenR h) fun fa cdv A outer s H vs Q E hr h=>?_;refine⟨_,(xAab (xAag (cl gfBw hr (a2 (na 1) xAac)))),?_⟩;obtain⟨p,ws,v,d,rfl,md,hw,ht,k⟩:=h;exact⟨_,d,_,rfl,ht,k H (Same.refl H)⟩
theorem ok_fCb(T:Txt K mg tk)(F:FO K mg "is_counts" s_fCb)(gfBw:O_fBw P w K mg base)(gfBd:O_fBd P w K mg base):O_fCb P w K mg base:=by
 refine mk_ok F sc_fCb (fun _ _ _ _ _ _ u l=>match u,l with|[_,_],_=>rfl) (fun _ _ _ _ h=>lenR h) fun fa cdv A outer s H vs Q E hr h=>?_;refine⟨_,(xAab (xAag (xAbv (cl gfBd hr (a2 (na 1) (cb xAai T.b_len boot_len (a1 (na 0))))) (xAbl (cb (xAcx rfl) T.b_all boot_all (a1 (lc0 (iu (na 1)) (fun _ _ _=>xAav) (fun _ _ _=>(cl gfBw hr (a2 (na 0) xAac)))))))))),?_⟩;obtain⟨p,ws,v,d,rfl,md,hw,ht,k⟩:=h;refine⟨_,_,rfl,.inl (SqL.of hw.at'),?_⟩;refine⟨_,d,_,rfl,ht,_,rfl,?_⟩;have k0:=k H (Same.refl H);have hw6:=hw.few;rw[qc]
 cases ht with
 |@tup a xs ds h t =>
  refine ite2 (fun h1=>?_) fun h1=>?_
  ·have h1:(ds.length:Int)=(ws.length:Int):=of_decide_eq_true h1
   have hx:xs.length≤sizeLine:=qg (xAad (by rw[t.len];omega));refine⟨a,rfl,⟨_,SqT.of h⟩,xAiy hx (fun i ys H'=>Same H H'/\ys=(ds.take i).map fun d=>V.bl (mNum 0 d)) ⟨Same.refl H,rfl⟩ (fun i ys H' q=>SqT.of (q.1 _ _ h)) (fun i x ys H' K1 K0 hx ⟨s1,hy⟩ k1 k2=>?_) fun H' q ys ⟨s1,hy⟩ _ hq=>?_⟩
   ·obtain⟨d,hd,td⟩:=t.at hx
    refine iteT (B:=K0 H') ?_;exact⟨_,d,_,rfl,td.same s1,k1 _ _ ⟨s1,by rw[xAkb hd,hy]⟩⟩
   ·refine⟨q,ds.map (mNum 0),rfl,SqL.of (by rw[xAaf,hy,t.len,ww,zy];rfl),?_⟩
    have e:mCounts ws (.tup ds)=(ds.map (mNum 0)).all id:=by
     show(decide (ds.length=ws.length)&&_)=_;rw[decide_eq_true (by omega),wk];rfl
    rw[←e];exact k _ (s1.up hq)
  ·have e:mCounts ws (.tup ds)=false:=by
    show(decide (ds.length=ws.length)&&_)=_;rw[decide_eq_false fun e=>h1 (decide_eq_true (by omega))];rfl
   rw[←e];exact k0
 |_=>exact iteF k0
theorem ok_fBg(T:Txt K mg tk)(F:FO K mg "read_plain" s_fBg)(gfCi:O_fCi P w K mg base):O_fBg P w K mg base:=by
 refine xAcg F sc_fBg (fun _ _ _ _ _ _ u l=>match u,l with|[_],_=>rfl) (fun _ _ _ _ h=>lenY h) fun fa cdv A outer s H vs Q E hr h=>?_
 refine⟨_,(xAaa (ps_if (xAbk (xAbe (cl gfCi hr (a1 (na 0))))) (xAab (xAbr T.X_NoDeed T.g_NoDeed (a1 (xAds (na 0))))) xAah)
   (xAab (xAag (na 0)))),?_⟩
 obtain⟨z,rfl,md,sh,hl,k,kx⟩:=h;refine⟨_,.str z,rfl,.str (by exact qf hl (by decide)),fun H1 s1=>?_⟩
 cases e:mWord (.str z) with
 |true=>exact⟨_,rfl,iteF (k _ _ _ ⟨rfl,xAga e⟩ s1 (.str z))⟩
 |false =>
  refine⟨_,rfl,iteT ?_⟩;exact⟨z,rfl,sh,fun v=>⟨qg (xAad (qp rfl)),kx (fun d h=>by have e:wordS z=false:=e;rw[xApj h.2]at e;exact nomatch e) _ s1⟩⟩
theorem ok_fBe(T:Txt K mg tk)(F:FO K mg "read_counts" s_fBe)(gfBa:O_fBa P w K mg base):O_fBe P w K mg base:=by
 refine xAcg F sc_fBe (fun _ _ _ _ _ _ u l=>match u,l with|[_],_=>rfl) (fun _ _ _ _ h=>lenY h) fun fa cdv A outer s H vs Q E hr h=>?_;refine⟨_,(xAab (xAag (cy xAbm T.b_tuple boot_tuple (a1 (lc0X (il (bm PySem.F.plainAttrs_str PySem.F.slot_str_split PySem.F.type_str_split xAcz (na 0) (a1 xAae))) (fun _ _ _ _=>xAav) (fun _ _ _ _ hx=>(clX gfBa hx hr (a1 (na 0))))))))),?_⟩;obtain⟨z,rfl,md,sh,hl,k,kx⟩:=h;refine⟨rfl,_,44,rfl,rfl,qf hl (by decide),fun p H1 hp s1 e1=>?_⟩;obtain⟨ts,ets⟩:∃ts,Txt.split z ⟨#[44]⟩=ts:=⟨_,rfl⟩;rw[ets]at e1;have hlt:=xAhi ets;refine⟨p,rfl,⟨_,SqL.of e1⟩,xAen (by rw[qc];exact xAdu (by omega)) (fun i ys H'=>Same H1 H'/\∃ds,F2 RNum7 ds (ts.take i)/\DTs H' ys ds) ⟨Same.refl _,[],.nil,.nil⟩ (fun i ys H' q=>SqL.of (q.1 _ _ e1)) (fun i x ys H' K1 K0 hx ⟨s2,ds,hf,hy⟩ k1 k2=>?_) fun H2 q ys ⟨s2,ds,hf,hy⟩ _ hq=>?_⟩
 ·rw[zh]at hx
  cases hc:ts[i]? with
  |none=>rw[hc]at hx;exact nomatch hx
  |some w =>
   rw[hc]at hx;have hx:V.str w=x:=Option.some.inj hx;subst hx
   have mw:w∈Txt.split z ⟨#[44]⟩:=by rw[ets];exact qz hc
   refine iteT (B:=K0 H') ?_;refine⟨w,rfl,md.same (s1.trans s2),sh.part mw,qf (xAbw mw).2 hl,fun d v H3 p3 s3 t3=>?_,fun no H3 s3=>kx (fun d h=>?_) _ (s1.trans (s2.trans s3))⟩
   ·exact k1 _ _ ⟨s2.trans s3,ds++[d],by rw[vh,hc];exact hf.snoc p3,(hy.same s3).snoc t3⟩
   ·obtain⟨ds',_,h⟩:=h
    rw[ets]at h;obtain⟨d',_,hd⟩:=h.at hc;exact no d' hd
 ·rw[qc,ww]at hf
  refine⟨q,_,rfl,SqL.of xAaf,fun l H3 hl s3 e3=>?_⟩;exact k _ _ _ ⟨ds,rfl,by rw[ets];exact hf⟩ ((s1.trans (s2.up hq)).trans s3) (.tup e3 ((hy.same (Same.new hq)).same s3))
theorem ok_fBn(T:Txt K mg tk)(F:FO K mg "_law_roll" s_fBn)(gfBk:O_fBk P w K mg base)(gfBq:O_fBq P w K mg base):O_fBn P w K mg base:=by
 refine mk_ok F xAge (fun _ _ _ _ _ _ u l=>match u,l with|[_],_=>rfl) (fun _ _ _ _ h=>xAqz h) fun fa cdv A outer s H vs Q E hr h=>?_
 refine⟨_,(xAaa (sn xAge.nd 1 (cl gfBk hr (a2 (vv 0) xAac)))
   (xAaa (sn xAge.nd 2 (xAan xAhs))
   (xAaa (fo (xAcj (by rfl) T.b_range (a1 (pe_op xAbh xAac (pe_op xAar (xl (vv 1)) xAac)))) (gn xAge.nd 3)
   (xAaa (sn xAge.nd 4 (cl gfBq hr (a1 (xa (vv 1) (pe_op xAbh xAac (vv 3))))))
   (xAaa (fo (xAos xAae) (gn xAge.nd 5)
   (xAab (ps_if (ck isq (vv 4) (vv 2)) (xAab (sn xAge.nd 4 (pe_op xAaw (xAap xAgv (vv 4) xAbc (xAau xAac)) (vv 5)))) xAah)))
   (xAab (ap (vv 2) (a1 (vv 4)))))))
   (xAab (xAag (vv 2)))))),?_⟩
 obtain⟨i,rfl,k⟩:=h;refine⟨_,rfl,_,7,rfl,by decide,fun H1 p1 ns s1 g1 d1 hl=>?_⟩;refine⟨szOk rfl,fun p2 H2 g2 s2 e2=>?_⟩;have d2:=d1.mono s2;obtain⟨a0,h0⟩:=d2.get 0 (by decide);have fp:H p2=none:=s1.free g2;have np:p1≠p2:=xAaj d1.at' g2;have hm:0≤a0 % 5/\a0 % 5<5:=⟨Int.emod_nonneg _ (by decide),Int.emod_lt_of_pos _ (by decide)⟩
 refine⟨_,rfl,p1,_,0,.int a0,rfl,rfl,SqL.of d2.at',h0,_,_,rfl,rfl,(by show(0:Int)<5;decide),_,_,rfl,rfl,_,rfl,by omega,by omega,xAco (n:=(2+a0 % 5).toNat) (fun j σ H3=>∃(ws:List Str) (q3 q4 q5:Option V),σ=[some (.int i),some (.ref p1),some (.ref p2),q3,q4,q5]/\Same H H3/\DR H3 p1 ns 7 ∧
  H3 p2=some (.lst (ws.map V.str))/\ws.length=j/\ws.Nodup/\∀w∈ws,IsW w) ⟨[],none,none,none,rfl,s1.trans s2,d2,e2,rfl,vn,fun _ z=>nomatch z⟩ ?_ ?_⟩
 ·rintro j σ H3 hj ⟨ws,q3,q4,q5,rfl,s3,d3,e3,hw,nd,hwd⟩
  have hj6:j<6:=by omega
  refine⟨_,rfl,_,rfl,_,_,rfl,rfl,p1,_,_,rfl,rfl,SqL.of d3.at',by omega,by rw[qc,hl];omega,fun v hv=>?_⟩;obtain⟨m,_,rfl⟩:=qu.mp hv;refine⟨m,rfl,fun z hz=>?_⟩
  refine⟨_,rfl,xAqp (z:="abcdefgh") (fun c σ H4=>∃(w:Str) (q5:Option V),σ=[some (.int i),some (.ref p1),some (.ref p2),some (.int (0+(j:Int))),some (.str w),q5]/\H4=H3/\IsW w/\Chain ws c w)
   ⟨z,_,rfl,rfl,hz,xAjf ws z⟩ ?_ ?_⟩
  ·rintro c ch σ H4 hc ⟨w,q5,rfl,rfl,hws,hch⟩
   have hc8:c<8:=by
    have:=(wx.mp hc).1
    have e8:("abcdefgh":Str).cps.size=8:=by decide +kernel
    omega
   have hcc:ch=97+c:=abc_at hc8 hc;have hwl:w.length≤sizeLine:=qg (xAad (show w.cps.size≤1000 from qf hws.2.1 (by decide)));refine⟨_,rfl,_,rfl,p2,_,rfl,.inl (SqL.of e3),rfl,xAls ws,_,rfl,?_⟩
   show if inV (.str w) (ws.map V.str)=true then _ else _
   rw[xAdo];refine ite2 (fun hin=>?_) fun hin=>?_
   ·have hin:w∈ws:=of_decide_eq_true hin
    refine⟨_,rfl,_,rfl,w,rfl,hwl,?_⟩;have hW:=xAow hws (c:=ch) (by omega);refine⟨_,rfl,_,_,rfl,rfl,?_,?_⟩
    ·have h1:(⟨#[ch]⟩:Str).length=1:=rfl
     have h2:(cutS w none (some 7)++⟨#[ch]⟩:Str).cps.size=(cutS w none (some 7)).cps.size+1:=xAfu _ _;have h3:(cutS w none (some 7)).length=(cutS w none (some 7)).cps.size:=rfl;have:=xAad (n:=(cutS w none (some 7)).length+1) (by have:=hW.2.1;omega);omega
    ·refine⟨_,_,rfl,rfl,hW,?_⟩
     rw[hcc];exact xAjg hch hin
   ·exact⟨w,_,rfl,rfl,hws,.inl (fun z=>hin (decide_eq_true z))⟩
  ·rintro σ H4 ⟨w,q5,rfl,rfl,hws,hch⟩
   have hnot:w∉ws:=by
    have e8:("abcdefgh":Str).cps.size=8:=by decide +kernel
    rw[e8]at hch;exact xAlr hch (by omega)
   refine⟨_,rfl,.inl ⟨rfl,_,SqL.of e3⟩,_,rfl,p2,_,_,rfl,rfl,e3,(by rw[qc];exact xAad (by omega)),?_⟩
   refine⟨ws++[w],_,_,_,rfl,s3.wr fp,⟨by rw[xAal np];exact d3.at',d3.len,d3.few⟩,by rw[xAaf,zo];rfl,by rw[ql,zm,hw],xAjh nd hnot,fun x hx=>by
    rcases q0.mp hx with y|y
    ·exact hwd x y
    ·rw[zd.mp y];exact hws⟩
 ·rintro σ H3 ⟨ws,q3,q4,q5,rfl,s3,d3,e3,hw,nd,hwd⟩
  exact⟨_,rfl,k H3 p2 ws s3 fp ⟨e3,by omega,by omega,hwd⟩ (by omega) nd⟩
theorem ok_fBm(T:Txt K mg tk)(F:FO K mg "_law_part" s_fBm)(gfBs:O_fBs P w K mg base):O_fBm P w K mg base:=by
 refine mk_ok F sc_fBm (fun _ _ _ _ _ _ u l=>match u,l with|[_,_],_=>rfl) (fun _ _ _ _ h=>xArb h) fun fa cdv A outer s H vs Q E hr h=>?_
 refine⟨_,(xAaa (ps_if (ck op_eq (pe_op xAar (vv 0) xAac) xAac) (xAab (xAag (xAam (a2 xAae xAac)))) xAah)
   (xAab (xAag (cl gfBs hr (a2 (pe_op xAaq (vv 0) xAac) (vv 1)))))),?_⟩
 obtain⟨i,p,ws,rfl,hp,k⟩:=h;refine⟨_,rfl,_,_,rfl,rfl,(by show(0:Int)<3;decide),rfl,_,rfl,?_⟩;refine ite2 (fun _=>?_) fun _=>?_
 ·exact⟨szOk rfl,fun q H1 g s e=>k H1 (.ref q) _ s (.tup e (.cons (.str _) (.cons (.int _) .nil))) ⟨_,rfl,.inl rfl⟩⟩
 ·exact⟨_,rfl,_,_,rfl,rfl,⟨by decide,by decide⟩,_,rfl,_,p,ws,rfl,hp,fun H1 v d s1 dv hd=>k H1 v d s1 dv (let⟨ds,e,hn⟩:=hd;⟨ds,e,.inr hn⟩)⟩
theorem ok_fAq(T:Txt K mg tk)(F:FO K mg "_law_sign_name" s_fAq)(gfBs:O_fBs P w K mg base):O_fAq P w K mg base:=by
 refine mk_ok F sc_fAq (fun _ _ _ _ _ _ u l=>match u,l with|[_,_],_=>rfl) (fun _ _ _ _ h=>xArc h) fun fa cdv A outer s H vs Q E hr h=>?_;refine⟨_,(xAab (xAag (pe_op xAdn (cl gfBs hr (a2 (pe_op xAaq (vv 0) xAac) (vv 1))) (xAam (a1 (xa (xAan (a2 (pe_op xAar (pe_op xAaq (vv 0) xAac) xAac) (pe_op xAhq xAac xAac))) (cy xAbs T.b_int boot_int (a1 (ce op_eq (pe_op xAar (vv 0) xAac) xAac))))))))),?_⟩;obtain⟨i,p,ws,rfl,hp,k⟩:=h;refine⟨_,rfl,_,_,rfl,rfl,⟨by decide,by decide⟩,_,rfl,_,p,ws,rfl,hp,fun H1 v d s1 dv hd=>?_⟩;obtain⟨ds,rfl,w,n,rfl,hw,n1,n2⟩:=hd;obtain⟨q,xs,rfl,hq,hx⟩:=xAdd dv
 cases hx with
 |cons x1 t =>
 cases t with
 |cons x2 t =>
 cases t;cases xAbp x1;cases xAqr x2;refine⟨_,rfl,_,_,rfl,rfl,⟨by decide,by decide⟩,_,_,rfl,rfl,(by show(0:Int)<12;decide),_,_,rfl,rfl,⟨by decide,by decide,by decide⟩,szOk rfl,fun q1 H2 g2 s2 e2=>?_⟩;refine⟨_,rfl,_,_,rfl,rfl,(by show(0:Int)<24;decide),rfl,.inr ⟨_,rfl,?_⟩⟩;refine⟨q1,_,_,rfl,rfl,SqL.of e2,xAje _,xAfb _,fun v hv=>?_⟩
 obtain⟨m,rfl,m0,m1⟩:∃m,v=V.int m/\0≤m/\m≤1000000:=by
  simp only[List.mem_cons,List.not_mem_nil,or_false]at hv
  rcases hv with rfl|rfl
  ·exact⟨_,rfl,xAbf _ (by decide),by have:=xAbg (i / 2) (m:=12) (by decide);omega⟩
  ·exact⟨_,rfl,by decide,by decide⟩
 refine⟨szOk rfl,fun q3 H3 g3 s3 e3=>?_⟩;refine⟨q,q3,_,_,rfl,rfl,SqT.of ((s2.trans s3) _ _ hq),SqT.of e3,by simp,by simp,szOk rfl,fun q4 H4 g4 s4 e4=>?_⟩;exact k H4 (.ref q4) _ (((s1.trans s2).trans s3).trans s4) (.tup e4 (.cons (.str w) (.cons (.int n) (.cons (.int m) .nil)))) ⟨_,rfl,w,n,m,rfl,hw,n1,n2,m0,m1⟩
theorem ok_fBb(T:Txt K mg tk)(F:FO K mg "_law_branch" s_fBb)(gfBq:O_fBq P w K mg base):O_fBb P w K mg base:=by
 refine mk_ok F sc_fBb (fun _ _ _ _ _ _ u l=>match u,l with|[_,_],_=>rfl) (fun _ _ _ _ h=>xArf h) fun fa cdv A outer s H vs Q E hr h=>?_
 refine⟨_,(xAaa (ps_if (ck op_eq (pe_op xAar (vv 0) xAac) xAac) (xAab (xAag xAcd)) xAah)
   (xAab (xAag (xAam (a2 (xa (vv 1) (pe_op xAar (pe_op xAaq (vv 0) xAac) (cb xAai T.b_len boot_len (a1 (vv 1))))) (cl gfBq hr (a1 (pe_op xAaq (vv 0) xAac)))))))),?_⟩
 obtain⟨i,p,ws,rfl,hp,k⟩:=h;refine⟨_,rfl,_,_,rfl,rfl,(by show(0:Int)<2;decide),rfl,_,rfl,?_⟩;refine ite2 (fun _=>?_) fun _=>?_
 ·exact k H .non _ (Same.refl H) .non (.inl rfl)
 ·refine⟨_,rfl,_,rfl,_,_,rfl,rfl,⟨by decide,by decide⟩,_,rfl,p,_,rfl,.inl (SqL.of hp.at'),_,_,rfl,rfl,hp.len.1,p,_,_,rfl,rfl,SqL.of hp.at',xAbf _ hp.len.1,xAbg _ hp.len.1,fun v hv=>?_⟩
  obtain⟨w,hw,rfl⟩:=qu.mp hv;refine⟨_,rfl,_,_,rfl,rfl,⟨by decide,by decide⟩,_,rfl,fun z hz=>?_⟩;exact⟨szOk rfl,fun q H1 g s e=>k H1 (.ref q) _ s (.tup e (.cons (.str w) (.cons (.str z) .nil))) (.inr ⟨w,z,rfl,hw,hz⟩)⟩
theorem ok_fAj(T:Txt K mg tk)(F:FO K mg "_law_shown_sign" s_fAj)(gfAk:O_fAk P w K mg base):O_fAj P w K mg base:=by
 refine mk_ok F sc_fAj (fun _ _ _ _ _ _ u l=>match u,l with|[_],_=>rfl) (fun _ _ _ _ h=>xAtb h) fun fa cdv A outer s H vs Q E hr h=>?_
 refine⟨_,(xAaa (ps_if (ck (eqD hr) (vv 0) xAae) (xAab (xAag xAae)) xAah)
   (xAaa (ps_if (xAbe (cb xAbq T.b_isinstance boot_isinstance (a2 (vv 0) (xAbj (v:=.ty "str") (by rfl) T.b_str boot_str rfl)))) (xAab (xAag (vv 0))) xAah)
   (xAaa (ps_if (ck op_eq (xt (vv 0)) xAae) (xAab (xAag (pe_op xAaw xAae (xt (vv 0))))) xAah)
   (xAab (xAag (pe_op xAaw xAae (cl gfAk hr (a1 (xt (vv 0)))))))))),?_⟩
 obtain⟨v,d',rfl,hv,hsg,kk⟩:=h;rcases hsg with⟨z,rfl,hz,hzo⟩|⟨z,rfl,hz,hzo⟩|⟨ds,rfl,hn⟩
 ·cases xAbp hv
  have kk':∀H',Same H H'->Q (.str (if z = " " then "_" else z)) H':=kk;refine⟨_,rfl,.str z,.str " ",.str z,.str " ",hzo,by decide +kernel,by show min _ 0≤64;omega,_,rfl,?_⟩
  by_cases hb:z = " "
  ·rw[if_pos hb]at kk'
   refine itT ?_ (kk' H (Same.refl H));show(z==" ")=true;rw[hb];decide +kernel
  ·rw[if_neg hb]at kk'
   refine itF ?_ ?_
   ·show(z==" ")=false
    rw[beq_eq_false_iff_ne];exact hb
   refine⟨_,rfl,_,"str",_,rfl,rfl,.str z,_,rfl,iteT ?_⟩;exact⟨_,rfl,kk' H (Same.refl H)⟩
 ·obtain⟨q,xs,rfl,hq,hx⟩:=xAdd hv
  cases hx with
  |cons x1 t =>
   cases t with
   |cons x2 t =>
    cases t;cases xAbp x1;cases xAbp x2;refine⟨_,rfl,.tuple [.str "picture",.str z],.str " ",hv.dv,.str " ",?_,by decide +kernel,by show min _ 0≤64;omega,_,rfl,itF rfl ?_⟩
    ·show(PyData.strOk "picture"&&(PyData.strOk z&&true))=true
     rw[hzo];decide +kernel
    refine⟨_,rfl,_,"str",_,rfl,rfl,.tup hq,_,rfl,iteF ?_⟩;refine⟨_,rfl,q,_,0,.str "picture",rfl,rfl,SqT.of hq,xAak (j:=0) rfl,rfl,_,rfl,itT (by decide +kernel) ?_⟩;have e1:("*":Str).length=1:=rfl;refine⟨_,rfl,q,_,1,.str z,rfl,rfl,SqT.of hq,xAak (j:=1) rfl,_,_,rfl,rfl,by rw[e1];show _≤16777216;omega,kk H (Same.refl H)⟩
 ·obtain⟨q,xs,rfl,hq,hx⟩:=xAdd hv
  cases hx with
  |cons x1 t =>
   cases t with
   |cons x2 t =>
    cases t;cases xAbp x1
    rename_i x
    refine⟨_,rfl,.tuple [.str "refer",.tuple ds],.str " ",hv.dv,.str " ",?_,by decide +kernel,by show min _ 0≤64;omega,_,rfl,itF rfl ?_⟩
    ·show(PyData.strOk "refer"&&(PyData.canLayAll0 ds&&true))=true
     rw[xAox hn];decide +kernel
    refine⟨_,rfl,_,"str",_,rfl,rfl,.tup hq,_,rfl,iteF ?_⟩;refine⟨_,rfl,q,_,0,.str "refer",rfl,rfl,SqT.of hq,xAak (j:=0) rfl,rfl,_,rfl,itF (by decide +kernel) ?_⟩;have nl:=xAcr hn;have e1:("#":Str).length=1:=rfl;refine⟨_,rfl,q,_,1,x,rfl,rfl,SqT.of hq,xAak (j:=1) rfl,x,ds,rfl,x2,hn,fun H1 s1=>?_⟩;exact⟨_,_,rfl,rfl,by rw[e1];show _≤16777216;omega,kk H1 s1⟩
theorem ok_fAl(T:Txt K mg tk)(F:FO K mg "_law_shown_side" s_fAl)(gfAk:O_fAk P w K mg base):O_fAl P w K mg base:=by
 refine mk_ok F sc_fAl (fun _ _ _ _ _ _ u l=>match u,l with|[_],_=>rfl) (fun _ _ _ _ h=>xAta h) fun fa cdv A outer s H vs Q E hr h=>?_;refine⟨_,(xAab (xAag (pe_op xAaw (cl gfAk hr (a1 (xt (vv 0)))) (xi (xAan (a2 xAae xAae)) (cy xAbs T.b_int boot_int (a1 (ce op_eq (xt (vv 0)) xAae))))))),?_⟩;obtain⟨v,d',rfl,hv,⟨ds,z,rfl,hn,hz⟩,kk⟩:=h;obtain⟨q,xs,rfl,hq,hx⟩:=xAdd hv
 cases hx with
 |cons x1 t =>
  cases t with
  |cons x2 t =>
   cases t;cases xAbp x2
   rename_i x
   refine⟨_,rfl,q,_,0,x,rfl,rfl,SqT.of hq,xAak (j:=0) rfl,x,ds,rfl,x1,hn,fun H1 s1=>?_⟩;have nl:=xAcr hn;have e1:("<":Str).length=1:=rfl;have e2:(">":Str).length=1:=rfl;refine⟨szOk rfl,fun w1 H2 g2 s2 f2=>?_⟩;refine⟨_,rfl,q,_,1,.str z,rfl,rfl,SqT.of ((s1.trans s2) _ _ hq),xAak (j:=1) rfl,rfl,.inr ⟨_,rfl,?_⟩⟩;rcases hz with rfl|rfl
   ·rw[show decide (V.str "ahead"=V.str "behind")=false from by decide +kernel]
    refine⟨w1,_,0,.str "<",rfl,rfl,SqL.of f2,rfl,_,_,rfl,rfl,by rw[e1];show _≤16777216;omega,?_⟩;exact kk H2 (s1.trans s2)
   ·rw[show decide (V.str "behind"=V.str "behind")=true from by decide +kernel]
    refine⟨w1,_,1,.str ">",rfl,rfl,SqL.of f2,rfl,_,_,rfl,rfl,by rw[e2];show _≤16777216;omega,?_⟩;exact kk H2 (s1.trans s2)
theorem ok_fAy(T:Txt K mg tk)(F:FO K mg "_law_or_none" s_fAy)(gfAk:O_fAk P w K mg base):O_fAy P w K mg base:=by
 refine mk_ok F sc_fAy (fun _ _ _ _ _ _ u l=>match u,l with|[_],_=>rfl) (fun _ _ _ _ h=>xAtc h) fun fa cdv A outer s H vs Q E hr h=>?_
 refine⟨_,(xAaa (ps_if (ck xAfn (vv 0) xAcd) (xAab (xAag xAae)) xAah)
   (xAaa (ps_if (xAbe (cb xAbq T.b_isinstance boot_isinstance (a2 (vv 0) (xAbj (v:=.ty "str") (by rfl) T.b_str boot_str rfl)))) (xAab (xAag (vv 0))) xAah)
   (xAab (xAag (cl gfAk hr (a1 (vv 0))))))),?_⟩
 obtain⟨v,d',rfl,hv,hok,kk⟩:=h
 cases hok with
 |non =>
  cases xAqs hv;exact⟨_,rfl,rfl,_,rfl,itT (decide_eq_true rfl) (kk H (Same.refl H))⟩
 |str z hz =>
  cases xAbp hv;have kk':∀H',Same H H'->Q (.str (if z = "" then "!" else z)) H':=kk;rw[if_neg hz]at kk';refine⟨_,rfl,rfl,_,rfl,itF (decide_eq_false fun z=>nomatch z) ?_⟩;refine⟨_,rfl,_,"str",_,rfl,rfl,.str z,_,rfl,iteT ?_⟩;exact⟨_,rfl,kk' H (Same.refl H)⟩
 |name ds hn =>
  rw[xAas hn]at kk;obtain⟨q,xs,rfl,hq,hx⟩:=xAdd hv;refine⟨_,rfl,rfl,_,rfl,itF (decide_eq_false fun z=>nomatch z) ?_⟩;refine⟨_,rfl,_,"str",_,rfl,rfl,.tup hq,_,rfl,iteF ?_⟩;exact⟨_,rfl,_,_,rfl,hv,hn,kk⟩
theorem ok_fBv(T:Txt K mg tk)(F:FO K mg "_law_menu" s_fBv)(gfBs:O_fBs P w K mg base)(gfAk:O_fAk P w K mg base)(gfBq:O_fBq P w K mg base):O_fBv P w K mg base:=by
 refine mk_ok F xAmv (fun _ _ _ _ _ _ u l=>match u,l with|[_,_],_=>rfl) (fun _ _ _ _ h=>xAtu h) fun fa cdv A outer s H vs Q E hr h=>?_
 refine⟨_,(xAaa (sn xAmv.nd 2 (cl gfAk hr (a1 (cl gfBs hr (a2 (pe_op xAaq (na 1) xAac) (na 0))))))
   (xAaa (sn xAmv.nd 3 (xAan (ac xAae (ac xAae (ac xAae (ac xAae (ac xAae (ac xAae (ac xAae (ac xAae (ac xAae (ac xAae (ac xAae (ac xAae (ac xAae (ac xAae (a2 xAae xAae)))))))))))))))))
   (xAaa (sn xAmv.nd 3 (pe_op xAbz (na 3) (xAan (ac xAae (ac xAae (ac xAae (ac xAae (ac xAae (ac (pe_op xAaw xAae (na 2)) (ac (na 2) (ac (pe_op xAaw (na 2) xAae) (ac (pe_op xAaw (na 2) xAae) (a2 (pe_op xAaw (na 2) xAae) (xl (na 0)))))))))))))))
   (xAab (xAag (xa (pe_op xAbz (na 3) (xAan (ac xAae (a2 xAae (cl gfBq hr (a1 (pe_op xAaq (na 1) xAac))))))) (pe_op xAar (na 1) xAac))))))),?_⟩
 obtain⟨p,n,ws,rfl,hp,k⟩:=h;refine⟨_,_,rfl,rfl,⟨by decide,by decide⟩,_,p,ws,rfl,hp,fun H1 v d s1 dv hdn=>?_⟩;obtain⟨nm,rfl,hn⟩:=hdn;have ok:=xAct hp.wd hn;have rn:=xAfl hp.wd hn;refine⟨v,nm,rfl,dv,ok,fun H2 s2=>?_⟩;have wn:Fr32 (nmT nm)/\(nmT nm).length≤50:=⟨rn.fr,qf (xAcr ok) (by decide)⟩;generalize nmT nm=z at wn
 have hb:∀{x y:Str},x.length≤50->y.length≤50->x.length+y.length≤sizeLine:=fun h1 h2=>qg (xAad (by omega))
 have wa:∀{x y:Str},Fr32 x->x.length≤50->Fr32 y->y.length≤50->Wo (x++y):=fun a b c d=>⟨xAkh a c,by rw[xAcl];omega⟩
 refine⟨szOk rfl,fun q3 H3 g3 s3 e3=>?_⟩;refine⟨_,_,rfl,rfl,hb (by decide) wn.2,?_⟩;refine⟨_,_,rfl,rfl,hb wn.2 (by decide),?_⟩;refine⟨_,_,rfl,rfl,hb wn.2 (by decide),?_⟩;refine⟨_,_,rfl,rfl,hb wn.2 (by decide),?_⟩;have z3:=s1.trans (s2.trans s3)
 obtain⟨w0,wr,rfl⟩:∃w0 wr,ws=w0::wr:=by
  cases ws with
  |nil=>exact absurd hp.pos (by decide)
  |cons a r=>exact⟨a,r,rfl⟩
 have ew:H3 p=some (.lst (.str w0::wr.map V.str)):=z3 _ _ hp.at';refine⟨_,_,_,.str w0,rfl,rfl,SqL.of ew,at_hd,szOk rfl,fun q4 H4 g4 s4 e4=>?_⟩;refine⟨q3,q4,_,_,rfl,rfl,s4 _ _ e3,e4,szOk rfl,fun q5 H5 g5 s5 e5=>?_⟩;refine⟨_,_,rfl,rfl,⟨by decide,by decide⟩,_,rfl,fun wz hwz=>?_⟩;refine⟨szOk rfl,fun q6 H6 g6 s6 e6=>?_⟩;refine⟨q5,q6,_,_,rfl,rfl,s6 _ _ e5,e6,szOk rfl,fun q7 H7 g7 s7 e7=>?_⟩;refine⟨_,_,rfl,rfl,(by show(0:Int)<30;decide),q7,_,_,rfl,rfl,SqL.of e7,xAbf _ (by decide),xAbg _ (by decide),fun u hu=>?_⟩;have fin:∀y,Wo y->Q (.str y) H7:=fun y hy=>k y H7 hy (z3.trans (s4.trans (s5.trans (s6.trans s7))))
 simp only[List.mem_append,List.mem_cons,List.not_mem_nil,or_false]at hu
 rcases hu with((rfl|rfl|rfl|rfl|rfl|rfl|rfl|rfl|rfl|rfl|rfl|rfl|rfl|rfl|rfl|rfl)|rfl|rfl|rfl|rfl|rfl|rfl|rfl|rfl|rfl|rfl|rfl)|rfl|rfl|rfl
 all_goals first|exact fin _ (wo_c (by decide +kernel))|skip
 ·exact fin _ (wa (fr_c (by decide +kernel)) (by decide) wn.1 wn.2)
 ·exact fin _ ⟨wn.1,by omega⟩
 ·exact fin _ (wa wn.1 wn.2 (fr_c (by decide +kernel)) (by decide))
 ·exact fin _ (wa wn.1 wn.2 (fr_c (by decide +kernel)) (by decide))
 ·exact fin _ (wa wn.1 wn.2 (fr_c (by decide +kernel)) (by decide))
 ·have:=hp.wd w0 qm
  exact fin _ ⟨fr_w this,qf (xAao this) (by decide)⟩
 ·exact fin _ ⟨fr_w hwz,qf (xAao hwz) (by decide)⟩
theorem ok_fCl(T:Txt K mg tk)(F:FO K mg "is_sign" s_fCl)(gfBf:O_fBf P w K mg base)(gfCk:O_fCk P w K mg base)(gfBp:O_fBp P w K mg base)(gfBd:O_fBd P w K mg base)(gfCi:O_fCi P w K mg base):O_fCl P w K mg base:=by
 refine mk_ok F sc_fCl (fun _ _ _ _ _ _ u l=>match u,l with|[_],_=>rfl) (fun _ _ _ _ h=>lenT h) fun fa cdv A outer s H vs Q E hr h=>?_
 refine⟨_,(xAaa (ps_if (xAbe (cb xAbq T.b_isinstance boot_isinstance (a2 (na 0) (xAbj (v:=.ty "str") (by rfl) T.b_str boot_str rfl)))) (xAab (xAag (xAbv (ce op_eq (cb xAcn T.b_len boot_len (a1 (na 0))) xAac) (xAbl (pe_or (cl gfCi hr (a1 (na 0))) (xAbl (ce xAky (na 0) xAae))))))) xAah)
   (xAaa (ps_if (xAbk (xAbe (cl gfBd hr (a2 (na 0) xAac)))) (xAab (xAag pe_bl)) xAah)
   (xAaa (ps_if (xAbe (cl gfBp hr (a2 (xt (na 0)) (xAam (a1 xAae))))) (xAab (xAag (cl gfCi hr (a1 (xt (na 0)))))) xAah)
   (xAab (xAag (xAbv (cl gfBp hr (a2 (xt (na 0)) (xAam (a1 xAae)))) (xAbl (pe_or (cl gfCk hr (a1 (xt (na 0)))) (xAbl (cl gfBf hr (a1 (xt (na 0))))))))))))),?_⟩
 obtain⟨v,d,rfl,ht,k⟩:=h;refine⟨_,"str",_,rfl,rfl,ht.isk (by decide) (by decide),?_⟩;have k0:=k H (Same.refl H)
 cases ht with
 |@str z ty =>
  have hz:z.length≤sizeLine:=qg (xAad ty);refine⟨_,rfl,iteT ?_⟩;refine⟨z,rfl,hz,rfl,_,rfl,?_⟩;refine ite2 (fun h1=>?_) fun h1=>?_
  ·have h1:z.length=1:=by
    have q':(z.length:Int)=1:=V.int.inj (of_decide_eq_true h1);omega
   have es:mSign (.str z)=(wordS z||decide (z∈([" ",".",","]:List Str))):=by
    show(decide (z.length=1)&&_)=_;rw[decide_eq_true h1];rfl
   refine⟨_,.str z,rfl,.str ty,fun H1 s1=>⟨_,rfl,?_⟩⟩;refine ite2 (fun h3=>?_) fun h3=>?_
   ·have e:mSign (.str z)=true:=by rw[es,show wordS z=true from h3];rfl
    rw[←e];exact k H1 s1
   ·have e:mSign (.str z)=decide (z∈([" ",".",","]:List Str)):=by rw[es,show wordS z=false from zk.mpr h3];rfl
    obtain⟨c,rfl⟩:=one_z h1;refine⟨_,_,rfl,rfl,?_⟩;rw[in_bpc c,←e];exact k H1 s1
  ·have e:mSign (.str z)=false:=by
    show(decide (z.length=1)&&_)=_;rw[decide_eq_false fun e=>h1 (decide_eq_true (congrArg V.int (by omega)))];rfl
   rw[←e];exact k0
 |@tup pa xs ds h t =>
  refine⟨_,rfl,iteF ?_⟩;refine⟨_,_,_,rfl,.tup h t,_,rfl,?_⟩;refine ite2 (fun h1=>?_) fun h1=>?_
  ·have h1:¬mTup 2 (.tup ds)=true:=by simpa using h1
   rw[←xAhd (off2 h1)];exact k0
  ·have h1:mTup 2 (.tup ds)=true:=by simpa using h1
   have h1:=of_decide_eq_true h1;obtain⟨x,y,a,b,rfl,rfl,ta,tb⟩:=t.two (by omega);refine⟨_,_,_,x,rfl,rfl,SqT.of h,rfl,?_⟩;refine⟨by decide,fun q H1 hq s1 e1=>?_⟩;refine⟨_,a,q,["picture"],rfl,ta.same s1,e1,_,rfl,?_⟩;refine ite2 (fun h2=>?_) fun h2=>?_
   ·refine⟨_,_,_,y,rfl,rfl,SqT.of (s1 _ _ h),rfl,?_⟩
    refine⟨_,b,rfl,tb.same s1,fun H2 s2=>?_⟩
    have e:mSign (.tup [a,b])=mWord b:=by show(if _ then _ else _)=_;rw[if_pos h2]
    rw[←e];exact k H2 (s1.trans s2)
   ·have e:mSign (.tup [a,b])=(mOne ["refer"] a&&(mMain b||mAny b)):=by show(if _ then _ else _)=_;rw[if_neg h2]
    refine⟨_,_,_,x,rfl,rfl,SqT.of (s1 _ _ h),rfl,?_⟩;refine⟨by decide,fun q2 H2 hq2 s2 e2=>?_⟩;have s3:=s1.trans s2;refine⟨_,a,q2,["refer"],rfl,ta.same s3,e2,_,rfl,?_⟩;refine ite2 (fun h3=>?_) fun h3=>?_
    ·rw[h3,zt]at e
     refine⟨_,_,_,y,rfl,rfl,SqT.of (s3 _ _ h),rfl,?_⟩;refine⟨_,b,rfl,tb.same s3,fun H4 s4=>⟨_,rfl,?_⟩⟩;have s5:=s3.trans s4;refine ite2 (fun h4=>?_) fun h4=>?_
     ·rw[h4,Bool.true_or]at e
      rw[←e];exact k H4 s5
     ·rw[zk.mpr h4,jj]at e
      refine⟨_,_,_,y,rfl,rfl,SqT.of (s5 _ _ h),rfl,?_⟩;refine⟨_,b,rfl,tb.same s5,fun H6 s6=>?_⟩;rw[←e];exact k H6 (s5.trans s6)
    ·rw[zk.mpr h3,wf]at e
     rw[←e];exact k H2 s3
 |lst h=>exact⟨_,rfl,iteF ⟨_,_,_,rfl,.lst h,_,rfl,iteT k0⟩⟩
 |dct h=>exact⟨_,rfl,iteF ⟨_,_,_,rfl,.dct h,_,rfl,iteT k0⟩⟩
 |int i=>exact⟨_,rfl,iteF ⟨_,_,_,rfl,.int i,_,rfl,iteT k0⟩⟩
 |bl i=>exact⟨_,rfl,iteF ⟨_,_,_,rfl,.bl i,_,rfl,iteT k0⟩⟩
 |non=>exact⟨_,rfl,iteF ⟨_,_,_,rfl,.non,_,rfl,iteT k0⟩⟩
theorem ok_fCm(T:Txt K mg tk)(F:FO K mg "is_name" s_fCm)(gfBf:O_fBf P w K mg base):O_fCm P w K mg base:=by
 refine mk_ok F sc_fCm (fun _ _ _ _ _ _ u l=>match u,l with|[_,_],_=>rfl) (fun _ _ _ _ h=>lenR h) fun fa cdv A outer s H vs Q E hr h=>?_;refine⟨_,(xAab (xAag (xAbv (cl gfBf hr (a1 (na 1))) (xAbl (ce isq (xt (na 1)) (na 0)))))),?_⟩;obtain⟨p,ws,v,d,rfl,md,hw,ht,k⟩:=h;refine⟨_,d,rfl,ht,fun H1 s1=>⟨_,rfl,?_⟩⟩;have k0:=k H1 s1
 cases ht with
 |tup h t =>
  refine ite2 (fun h1=>?_) fun h1=>?_
  ·rename_i xs ds
   have hl:ds.length=2:=Decidable.byContradiction fun e=>by rw[xAjw e]at h1;exact Bool.noConfusion h1
   obtain⟨x,y,a,b,rfl,rfl,ta,tb⟩:=t.two hl
   have hw1:mWord a=true:=by
    have h1:(mWord a&&mNum 1 b)=true:=h1;rw[qr]at h1;exact h1.1
   refine⟨_,_,_,x,rfl,rfl,SqT.of (s1 _ _ h),rfl,?_⟩
   cases ta with
   |@str z ty =>
    refine⟨p,_,rfl,.inl (SqL.of (s1 _ _ hw.at')),rfl,(by rw[wk];exact zg.mpr fun _ _=>rfl),?_⟩;show Q (.bl (inV _ _)) H1;rw[xAdo]
    have e:mName ws (.tup [.str z,b])=decide (z∈ws):=by show(mAny _&&_)=_;rw[h1];rfl
    rw[←e];exact k0
   |_=>exact Bool.noConfusion hw1
  ·rename_i xs ds
   have e:mName ws (.tup ds)=false:=by
    unfold mName;split
    ·rename_i e;cases e;rw[zk.mpr h1];rfl
    ·rfl
   rw[←e];exact k0
 |_=>exact iteF k0
theorem ok_fCa(T:Txt K mg tk)(F:FO K mg "is_branch" s_fCa)(gfCn:O_fCn P w K mg base)(gfBd:O_fBd P w K mg base)(gfCi:O_fCi P w K mg base):O_fCa P w K mg base:=by
 refine mk_ok F sc_fCa (fun _ _ _ _ _ _ u l=>match u,l with|[_,_],_=>rfl) (fun _ _ _ _ h=>lenR h) fun fa cdv A outer s H vs Q E hr h=>?_;refine⟨_,(xAab (xAag (pe_or (ce xAfn (na 1) xAcd) (xAbl (xAbv (cl gfBd hr (a2 (na 1) xAac)) (xAbv (cl gfCn hr (a2 (na 0) (xt (na 1)))) (xAbl (cl gfCi hr (a1 (xt (na 1))))))))))),?_⟩;obtain⟨p,ws,v,d,rfl,md,hw,ht,k⟩:=h;refine⟨rfl,_,rfl,?_⟩;have k0:=k H (Same.refl H)
 cases ht with
 |non=>exact iteT k0
 |tup h t =>
  refine iteF ⟨_,_,_,rfl,.tup h t,_,rfl,?_⟩;refine ite2 (fun h1=>?_) fun h1=>?_
  ·have h1:=of_decide_eq_true h1
   obtain⟨x,y,a,b,rfl,rfl,ta,tb⟩:=t.two (by omega);refine⟨_,_,_,x,rfl,rfl,SqT.of h,rfl,?_⟩;refine⟨_,_,_,_,rfl,md,hw,ta,fun H1 s1=>⟨_,rfl,?_⟩⟩;refine ite2 (fun h2=>?_) fun h2=>?_
   ·refine⟨_,_,_,y,rfl,rfl,SqT.of (s1 _ _ h),rfl,?_⟩
    refine⟨_,b,rfl,tb.same s1,fun H2 s2=>?_⟩
    have e:mBranch ws (.tup [a,b])=mWord b:=by show(mHand ws a&&_)=_;rw[h2];rfl
    rw[←e];exact k H2 (s1.trans s2)
   ·have e:mBranch ws (.tup [a,b])=false:=by show(mHand ws a&&_)=_;rw[zk.mpr h2];rfl
    rw[←e];exact k H1 s1
  ·rw[←xAhz (ws:=ws) (off2 h1)];exact k0
 |str hz=>exact iteF ⟨_,_,_,rfl,.str hz,_,rfl,iteF k0⟩
 |lst h=>exact iteF ⟨_,_,_,rfl,.lst h,_,rfl,iteF k0⟩
 |dct h=>exact iteF ⟨_,_,_,rfl,.dct h,_,rfl,iteF k0⟩
 |int i=>exact iteF ⟨_,_,_,rfl,.int i,_,rfl,iteF k0⟩
 |bl i=>exact iteF ⟨_,_,_,rfl,.bl i,_,rfl,iteF k0⟩
theorem ok_fBz(T:Txt K mg tk)(F:FO K mg "read_name" s_fBz)(gfBa:O_fBa P w K mg base)(gfBg:O_fBg P w K mg base):O_fBz P w K mg base:=by
 refine xAcg F xAua (fun _ _ _ _ _ _ u l=>match u,l with|[_],_=>rfl) (fun _ _ _ _ h=>lenY h) fun fa cdv A outer s H vs Q E hr h=>?_
 refine⟨_,(xAaa (sn xAua.nd 1 (bm PySem.F.plainAttrs_str PySem.F.slot_str_split PySem.F.type_str_split xAcz (na 0) (a1 xAae)))
   (xAaa (ps_if (ck op_ne (cb xAai T.b_len boot_len (a1 (na 1))) xAac) (xAab (xAbr T.X_NoDeed T.g_NoDeed (a1 (xAds (na 0))))) xAah)
   (xAab (xAag (xAam (a2 (clX gfBg passD hr (a1 (xl (na 1)))) (clX gfBa passD hr (a1 (xl (na 1)))))))))),?_⟩
 obtain⟨z,rfl,md,sh,hl,k,kx⟩:=h
 have hr:∀d,RName7 d z->∃w n,d=.tuple [.str w,.int n]/\IsW w/\N7 n/\Txt.split z ⟨#[46]⟩=[w,toString n]:=fun d ⟨w,n,e,hw,hn,ez⟩=>⟨w,n,e,hw,hn,by
  rw[ez];refine sp46 (va _ _) fun x hx=>?_
  simp only[List.mem_cons,List.not_mem_nil,or_false]at hx
  rcases hx with rfl|rfl
  ·exact w46 hw
  ·exact n46' hn.1⟩
 refine⟨rfl,_,46,rfl,rfl,qf hl (by decide),fun p H1 hp s1 e1=>?_⟩;have esp:∃ts,Txt.split z ⟨#[46]⟩=ts:=⟨_,rfl⟩;obtain⟨ts,ets⟩:=esp;rw[ets]at e1;refine⟨p,_,rfl,.inl (SqL.of e1),rfl,_,rfl,?_⟩
 by_cases h2:ts.length=2
 rotate_left
 ·refine ite2 (fun _=>?_) fun hn=>absurd (by rw[decide_eq_false (fun e=>h2 (by have e:=V.int.inj e;rw[qc]at e;omega))];rfl) hn
  refine⟨z,rfl,sh,fun v=>⟨qg (xAad (qp rfl)),kx (fun d h=>?_) _ s1⟩⟩;obtain⟨w,n,_,_,_,e⟩:=hr d h;rw[ets]at e;exact h2 (by rw[e];rfl)
 obtain⟨a,b,rfl⟩:∃a b,ts=[a,b]:=match ts,h2 with|[a,b],_=>⟨a,b,rfl⟩
 have ma:a∈Txt.split z ⟨#[46]⟩:=by rw[ets];exact qm
 have mb:b∈Txt.split z ⟨#[46]⟩:=by rw[ets];exact qk _ qm
 refine iteF ?_;refine⟨_,_,_,.str a,rfl,rfl,SqL.of e1,rfl,?_⟩;refine⟨a,rfl,md.same s1,sh.part ma,qf (xAbw ma).2 hl,fun d2 v2 H2 p2 s2 t2=>?_,fun no H2 s2=>kx (fun d h=>?_) _ (s1.trans s2)⟩
 rotate_left
 ·obtain⟨w,n,_,hw,_,e⟩:=hr d h
  rw[ets]at e;cases e;exact no _ ⟨rfl,hw⟩
 refine⟨_,_,_,.str b,rfl,rfl,SqL.of (s2 _ _ e1),rfl,?_⟩;refine⟨b,rfl,md.same (s1.trans s2),sh.part mb,qf (xAbw mb).2 hl,fun d3 v3 H3 p3 s3 t3=>?_,fun no H3 s3=>kx (fun d h=>?_) _ (s1.trans (s2.trans s3))⟩
 rotate_left
 ·obtain⟨w,n,_,hw,hn,e⟩:=hr d h
  rw[ets]at e;cases e;exact no _ ⟨n,rfl,hn,rfl⟩
 refine⟨qg (xAad (qp rfl)),fun q H4 hq s4 e4=>?_⟩;obtain⟨rfl,hw⟩:=p2;obtain⟨n,rfl,hn,rfl⟩:=p3;exact k _ _ _ ⟨a,n,rfl,hw,hn,xAdt ets⟩ (s1.trans (s2.trans (s3.trans s4))) (.tup e4 (.cons (t2.same (s3.trans s4)) (.cons (t3.same s4) .nil)))
theorem ok_fAs(T:Txt K mg tk)(F:FO K mg "read_sign_name" s_fAs)(gfBa:O_fBa P w K mg base)(gfBg:O_fBg P w K mg base):O_fAs P w K mg base:=by
 refine xAcg F xAub (fun _ _ _ _ _ _ u l=>match u,l with|[_],_=>rfl) (fun _ _ _ _ h=>lenY h) fun fa cdv A outer s H vs Q E hr h=>?_
 refine⟨_,(xAaa (sn xAub.nd 1 (bm PySem.F.plainAttrs_str PySem.F.slot_str_split PySem.F.type_str_split xAcz (na 0) (a1 xAae)))
   (xAaa (ps_if (ck op_ne (cb xAai T.b_len boot_len (a1 (na 1))) xAac) (xAab (xAbr T.X_NoDeed T.g_NoDeed (a1 (xAds (na 0))))) xAah)
   (xAab (xAag (xAam (ac (clX gfBg passD hr (a1 (xl (na 1)))) (a2 (clX gfBa passD hr (a1 (xl (na 1)))) (clX gfBa passD hr (a1 (xl (na 1))))))))))),?_⟩
 obtain⟨z,rfl,md,sh,hl,k,kx⟩:=h
 have hr:∀d,RSn7 d z->∃w n i,d=.tuple [.str w,.int n,.int i]/\IsW w/\N7 n/\N7 i/\Txt.split z ⟨#[46]⟩=[w,toString n,toString i]:=fun d ⟨w,n,i,e,hw,hn,hi,ez⟩=>⟨w,n,i,e,hw,hn,hi,by
  rw[ez];refine sp46 (va _ _) fun x hx=>?_
  simp only[List.mem_cons,List.not_mem_nil,or_false]at hx
  rcases hx with rfl|rfl|rfl
  ·exact w46 hw
  ·exact n46' hn.1
  ·exact n46' hi.1⟩
 refine⟨rfl,_,46,rfl,rfl,qf hl (by decide),fun p H1 hp s1 e1=>?_⟩;have esp:∃ts,Txt.split z ⟨#[46]⟩=ts:=⟨_,rfl⟩;obtain⟨ts,ets⟩:=esp;rw[ets]at e1;refine⟨p,_,rfl,.inl (SqL.of e1),rfl,_,rfl,?_⟩
 by_cases h2:ts.length=3
 rotate_left
 ·refine ite2 (fun _=>?_) fun hn=>absurd (by rw[decide_eq_false (fun e=>h2 (by have e:=V.int.inj e;rw[qc]at e;omega))];rfl) hn
  refine⟨z,rfl,sh,fun v=>⟨qg (xAad (qp rfl)),kx (fun d h=>?_) _ s1⟩⟩;obtain⟨w,n,i,_,_,_,_,e⟩:=hr d h;rw[ets]at e;exact h2 (by rw[e];rfl)
 obtain⟨a,b,c,rfl⟩:∃a b c,ts=[a,b,c]:=match ts,h2 with|[a,b,c],_=>⟨a,b,c,rfl⟩
 have ma:a∈Txt.split z ⟨#[46]⟩:=by rw[ets];exact qm
 have mb:b∈Txt.split z ⟨#[46]⟩:=by rw[ets];exact qk _ qm
 have mc:c∈Txt.split z ⟨#[46]⟩:=by rw[ets];exact qk _ (qk _ qm)
 refine iteF ?_;refine⟨_,_,_,.str a,rfl,rfl,SqL.of e1,rfl,?_⟩;refine⟨a,rfl,md.same s1,sh.part ma,qf (xAbw ma).2 hl,fun d2 v2 H2 p2 s2 t2=>?_,fun no H2 s2=>kx (fun d h=>?_) _ (s1.trans s2)⟩
 rotate_left
 ·obtain⟨w,n,i,_,hw,_,_,e⟩:=hr d h
  rw[ets]at e;cases e;exact no _ ⟨rfl,hw⟩
 refine⟨_,_,_,.str b,rfl,rfl,SqL.of (s2 _ _ e1),rfl,?_⟩;refine⟨b,rfl,md.same (s1.trans s2),sh.part mb,qf (xAbw mb).2 hl,fun d3 v3 H3 p3 s3 t3=>?_,fun no H3 s3=>kx (fun d h=>?_) _ (s1.trans (s2.trans s3))⟩
 rotate_left
 ·obtain⟨w,n,i,_,hw,hn,hi,e⟩:=hr d h
  rw[ets]at e;cases e;exact no _ ⟨n,rfl,hn,rfl⟩
 refine⟨_,_,_,.str c,rfl,rfl,SqL.of (s3 _ _ (s2 _ _ e1)),rfl,?_⟩;refine⟨c,rfl,md.same (s1.trans (s2.trans s3)),sh.part mc,qf (xAbw mc).2 hl,fun d5 v5 H5 p5 s5 t5=>?_,fun no H5 s5=>kx (fun d h=>?_) _ (s1.trans (s2.trans (s3.trans s5)))⟩
 rotate_left
 ·obtain⟨w,n,i,_,hw,hn,hi,e⟩:=hr d h
  rw[ets]at e;cases e;exact no _ ⟨i,rfl,hi,rfl⟩
 refine⟨qg (xAad (qp rfl)),fun q H4 hq s4 e4=>?_⟩;obtain⟨rfl,hw⟩:=p2;obtain⟨n,rfl,hn,rfl⟩:=p3;obtain⟨i,rfl,hi,rfl⟩:=p5;exact k _ _ _ ⟨a,n,i,rfl,hw,hn,hi,xAdt ets⟩ (s1.trans (s2.trans (s3.trans (s5.trans s4)))) (.tup e4 (.cons (t2.same (s3.trans (s5.trans s4))) (.cons (t3.same (s5.trans s4)) (.cons (t5.same s4) .nil))))
theorem ok_fAe(T:Txt K mg tk)(F:FO K mg "read_plain_or_none" s_fAe)(gfBg:O_fBg P w K mg base):O_fAe P w K mg base:=by
 refine xAcg F sc_fAe (fun _ _ _ _ _ _ u l=>match u,l with|[_],_=>rfl) (fun _ _ _ _ h=>lenY h) fun fa cdv A outer s H vs Q E hr h=>?_;refine⟨_,(xAab (xAag (xAcm (ck op_eq (na 0) xAae) xAcd (clX gfBg passD hr (a1 (na 0)))))),?_⟩;obtain⟨z,rfl,md,sh,hl,k,kx⟩:=h;refine⟨rfl,_,rfl,?_⟩
 by_cases e:z=("-":Str)
 ·exact ifT e (k (.none) _ _ (.inl ⟨e,rfl⟩) (Same.refl H) .non)
 ·exact ifN (decide_eq_false e) ⟨z,rfl,md,sh,hl,fun d v H' p=>k d v H' (.inr ⟨e,p⟩),fun no=>kx (RIf.no e no)⟩
theorem ok_fAc(T:Txt K mg tk)(F:FO K mg "read_plain_or_empty" s_fAc)(gfBg:O_fBg P w K mg base):O_fAc P w K mg base:=by
 refine xAcg F sc_fAc (fun _ _ _ _ _ _ u l=>match u,l with|[_],_=>rfl) (fun _ _ _ _ h=>lenY h) fun fa cdv A outer s H vs Q E hr h=>?_;refine⟨_,(xAab (xAag (xAcm (ck op_eq (na 0) xAae) xAae (clX gfBg passD hr (a1 (na 0)))))),?_⟩;obtain⟨z,rfl,md,sh,hl,k,kx⟩:=h;refine⟨rfl,_,rfl,?_⟩
 by_cases e:z=("!":Str)
 ·exact ifT e (k (.str "") _ _ (.inl ⟨e,rfl⟩) (Same.refl H) (.str _))
 ·exact ifN (decide_eq_false e) ⟨z,rfl,md,sh,hl,fun d v H' p=>k d v H' (.inr ⟨e,p⟩),fun no=>kx (RIf.no e no)⟩
theorem ok_fAz(T:Txt K mg tk)(F:FO K mg "read_branch" s_fAz)(gfBg:O_fBg P w K mg base):O_fAz P w K mg base:=by
 refine xAcg F sc_fAz (fun _ _ _ _ _ _ u l=>match u,l with|[_],_=>rfl) (fun _ _ _ _ h=>lenY h) fun fa cdv A outer s H vs Q E hr h=>?_
 refine⟨_,(xAaa (ps_if (ck op_eq (na 0) xAae) (xAab (xAag xAcd)) xAah)
   (xAab (xAag (cy xAbm T.b_tuple boot_tuple (a1 (lc0X (il (bm PySem.F.plainAttrs_str PySem.F.slot_str_split PySem.F.type_str_split xAcz (na 0) (a1 xAae))) (fun _ _ _ _=>xAav) (fun _ _ _ _ hx=>(clX gfBg hx hr (a1 (na 0)))))))))),?_⟩
 obtain⟨z,rfl,md,sh,hl,k,kx⟩:=h;refine⟨rfl,_,rfl,?_⟩
 by_cases e:z=("-":Str)
 ·exact ifT e (k .none _ _ (.inl ⟨e,rfl⟩) (Same.refl H) .non)
 refine ifN (decide_eq_false e) ?_;refine⟨rfl,_,46,rfl,rfl,qf hl (by decide),fun p H1 hp s1 e1=>?_⟩;obtain⟨ts,ets⟩:∃ts,Txt.split z ⟨#[46]⟩=ts:=⟨_,rfl⟩;rw[ets]at e1;have hlt:=xAhi ets;refine⟨p,rfl,⟨_,SqL.of e1⟩,xAen (by rw[qc];exact xAdu (by omega)) (fun i ys H'=>Same H1 H'/\∃ds,F2 RPlain ds (ts.take i)/\DTs H' ys ds) ⟨Same.refl _,[],.nil,.nil⟩ (fun i ys H' q=>SqL.of (q.1 _ _ e1)) (fun i x ys H' K1 K0 hx ⟨s2,ds,hf,hy⟩ k1 k2=>?_) fun H2 q ys ⟨s2,ds,hf,hy⟩ _ hq=>?_⟩
 ·rw[zh]at hx
  cases hc:ts[i]? with
  |none=>rw[hc]at hx;exact nomatch hx
  |some w =>
   rw[hc]at hx;have hx:V.str w=x:=Option.some.inj hx;subst hx
   have mw:w∈Txt.split z ⟨#[46]⟩:=by rw[ets];exact qz hc
   refine iteT (B:=K0 H') ?_;refine⟨w,rfl,md.same (s1.trans s2),sh.part mw,qf (xAbw mw).2 hl,fun d v H3 p3 s3 t3=>?_,fun no H3 s3=>kx (RIf.no e fun d h=>?_) _ (s1.trans (s2.trans s3))⟩
   ·exact k1 _ _ ⟨s2.trans s3,ds++[d],by rw[vh,hc];exact hf.snoc p3,(hy.same s3).snoc t3⟩
   ·obtain⟨ds',_,h⟩:=h
    rw[ets]at h;obtain⟨d',_,hd⟩:=h.at hc;exact no d' hd
 ·rw[qc,ww]at hf
  refine⟨q,_,rfl,SqL.of xAaf,fun l H3 hl s3 e3=>?_⟩;exact k _ _ _ (.inr ⟨e,ds,rfl,by rw[ets];exact hf⟩) ((s1.trans (s2.up hq)).trans s3) (.tup e3 ((hy.same (Same.new hq)).same s3))
theorem ok_fBr(T:Txt K mg tk)(F:FO K mg "_law_side" s_fBr)(gfAq:O_fAq P w K mg base):O_fBr P w K mg base:=by
 refine mk_ok F sc_fBr (fun _ _ _ _ _ _ u l=>match u,l with|[_,_],_=>rfl) (fun _ _ _ _ h=>xArd h) fun fa cdv A outer s H vs Q E hr h=>?_;refine⟨_,(xAab (xAag (xAam (a2 (cl gfAq hr (a2 (pe_op xAaq (vv 0) xAac) (vv 1))) (xa (xAan (a2 xAae xAae)) (pe_op xAar (vv 0) xAac)))))),?_⟩;obtain⟨i,p,ws,rfl,hp,k⟩:=h;refine⟨_,rfl,_,_,rfl,rfl,⟨by decide,by decide⟩,_,rfl,_,p,ws,rfl,hp,fun H1 v d s1 dv hd=>?_⟩;obtain⟨ds,rfl,hn⟩:=hd;refine⟨szOk rfl,fun q1 H2 g2 s2 e2=>?_⟩;refine⟨_,rfl,_,_,rfl,rfl,(by show(0:Int)<2;decide),q1,_,_,rfl,rfl,SqL.of e2,xAbf _ (by decide),xAbg _ (by decide),fun v2 hv=>?_⟩
 obtain⟨z,rfl,hz⟩:∃z:Str,v2=.str z/\(z = "ahead" \/ z = "behind"):=by
  simp only[List.mem_cons,List.not_mem_nil,or_false]at hv
  rcases hv with rfl|rfl
  ·exact⟨_,rfl,.inl rfl⟩
  ·exact⟨_,rfl,.inr rfl⟩
 exact⟨szOk rfl,fun q3 H3 g3 s3 e3=>k H3 (.ref q3) _ ((s1.trans s2).trans s3) (.tup e3 (.cons (dv.same (s2.trans s3)) (.cons (.str z) .nil))) ⟨ds,z,rfl,hn,hz⟩⟩
theorem ok_fCd(T:Txt K mg tk)(F:FO K mg "_law_sign" s_fCd)(gfBm:O_fBm P w K mg base)(gfBq:O_fBq P w K mg base):O_fCd P w K mg base:=by
 refine mk_ok F xAuc (fun _ _ _ _ _ _ u l=>match u,l with|[_,_],_=>rfl) (fun _ _ _ _ h=>xAre h) fun fa cdv A outer s H vs Q E hr h=>?_
 refine⟨_,(xAaa (sn xAuc.nd 2 (pe_op xAar (vv 0) xAac))
   (xAaa (ps_if (ck op_lt (vv 2) xAac) (xAab (xAag (pe_ix xAon xAae (vv 2) (fun _ _=>rfl)))) xAah)
   (xAaa (ps_if (ck op_eq (vv 2) xAac) (xAab (xAag (xAam (a2 xAae (cl gfBq hr (a1 (pe_op xAaq (vv 0) xAac))))))) xAah)
   (xAab (xAag (xAam (a2 xAae (cl gfBm hr (a2 (pe_op xAaq (vv 0) xAac) (vv 1)))))))))),?_⟩
 obtain⟨i,p,ws,rfl,hp,k⟩:=h;refine⟨_,rfl,_,_,rfl,rfl,(by show(0:Int)<31;decide),?_⟩;refine⟨_,rfl,_,_,rfl,rfl,_,rfl,?_⟩;refine ite2 (fun h1=>?_) fun _=>?_
 ·have h1:i % 31<29:=of_decide_eq_true h1
  obtain⟨c,hc⟩:=xAqm ("abcdefghijklmnopqrstuvwxyz .,":Str).cps.toList (i % 31) (xAbf _ (by decide)) (by rw[show("abcdefghijklmnopqrstuvwxyz .,":Str).cps.toList.length=29 from by decide +kernel];omega);exact⟨_,rfl,_,_,_,rfl,rfl,(by decide +kernel),hc,k H (.str ⟨#[c]⟩) _ (Same.refl H) (.str _) (.inl ⟨c,rfl,xAnr hc⟩)⟩
 ·refine⟨_,rfl,rfl,_,rfl,?_⟩
  refine ite2 (fun _=>?_) fun _=>?_
  ·refine⟨_,rfl,_,_,rfl,rfl,⟨by decide,by decide⟩,_,rfl,fun z hz=>?_⟩
   exact⟨szOk rfl,fun q H1 g s e=>k H1 (.ref q) _ s (.tup e (.cons (.str _) (.cons (.str z) .nil))) (.inr (.inl ⟨z,rfl,hz⟩))⟩
  ·refine⟨_,rfl,_,_,rfl,rfl,⟨by decide,by decide⟩,_,rfl,_,p,ws,rfl,hp,fun H1 v d s1 dv hd=>?_⟩
   obtain⟨ds,rfl,hn⟩:=hd;exact⟨szOk rfl,fun q2 H2 g s e=>k H2 (.ref q2) _ (s1.trans s) (.tup e (.cons (.str _) (.cons (dv.same s) .nil))) (.inr (.inr ⟨ds,rfl,hn⟩))⟩
theorem ok_fAm(T:Txt K mg tk)(F:FO K mg "_law_sign_names" s_fAm)(gfAq:O_fAq P w K mg base):O_fAm P w K mg base:=by
 refine mk_ok F xAmw (fun _ _ _ _ _ _ u l=>match u,l with|[_,_],_=>rfl) (fun _ _ _ _ h=>xArh h) fun fa cdv A outer s H vs Q E hr h=>?_
 refine⟨_,(xAaa (sn xAmw.nd 2 (xAan xAhs))
   (xAaa (fo (il (xAap xAbi (vv 0) xAbc (xAau (pe_op xAbh xAac (pe_op xAar (xl (vv 0)) xAac))))) (gn xAmw.nd 3)
   (xAaa (sn xAmw.nd 4 (cl gfAq hr (a2 (pe_op xAaq (vv 3) xAac) (vv 1))))
   (xAab (ps_if (ck (niD hr) (vv 4) (vv 2)) (xAab (ap (vv 2) (a1 (vv 4)))) xAah))))
   (xAab (xAag (cy xAbm T.b_tuple boot_tuple (a1 (vv 2))))))),?_⟩
 obtain⟨dd,p,ws,ns,rfl,hp,hd,k⟩:=h;refine⟨szOk rfl,fun p2 H0 g0 s0 e0=>?_⟩;have hd0:=hd.mono s0;obtain⟨a0,h0⟩:=hd0.get 0 (by decide);refine⟨_,rfl,_,rfl,dd,_,0,.int a0,rfl,rfl,SqL.of hd0.at',h0,_,_,rfl,rfl,(by show(0:Int)<12;decide),_,_,rfl,rfl,_,rfl,dd,_,rfl,SqL.of hd0.at',fun q1 H1 g1 s1 e1=>?_⟩;have hcut:=xAnq (xs:=List.map V.int ns) (b:=1+a0 % 12) (by have:=xAbf a0 (m:=12) (by decide);omega) (by have:=xAbg a0 (m:=12) (by decide);omega) (by rw[qc];exact hd.len)
 have n12:q1≠p2:=fun z=>by rw[z]at g1;rw[e0]at g1;cases g1
 refine⟨q1,rfl,⟨_,SqL.of e1⟩,xAig (xs:=cutV (List.map V.int ns) none (some (1+a0 % 12))) (fun j σ H2=>∃(xs:List V) (nn:List (List PyData)) (u1 u2:Option V),σ=[some (.ref dd),some (.ref p),some (.ref p2),u1,u2]/\Same H H2/\H2 q1=some (.lst (cutV (List.map V.int ns) none (some (1+a0 % 12)))) ∧
  H2 p2=some (.lst xs)/\DTs H2 xs (nn.map .tuple)/\nn.length≤j/\(1≤j->1≤nn.length)/\nn.Nodup/\∀b∈nn,SnD ws b)
  ⟨[],[],none,none,rfl,s0.trans s1,e1,s1 _ _ e0,.nil,qd _,by omega,vn,fun _ z=>nomatch z⟩ (fun j σ H2 _ ⟨_,_,_,_,_,_,e,_⟩=>SqL.of e) ?_ ?_⟩
 ·rintro j x σ H2 hx ⟨xs,nn,u1,u2,rfl,s2,eq,e2,dn,hps,hp1,nd,hf⟩
  obtain⟨m,rfl⟩:=xAfc (qz hx);have hj:j<12:=ze (zf.mp hx).1 hcut.2;refine⟨_,rfl,_,_,rfl,rfl,⟨by decide,by decide⟩,_,rfl,_,p,ws,rfl,hp.mono s2,fun H3 v d s3 dv hdn=>?_⟩;obtain⟨nm,rfl,hn⟩:=hdn;have dn3:=DTs.same s3 dn;obtain⟨b1,b2,b3⟩:=hn.plain hp.wd
  have xl:xs.length=nn.length:=by rw[xAdc dn,qc]
  refine⟨_,rfl,_,rfl,.tuple nm,p2,nn.map .tuple,xs,dv.dv,rfl,.inl (SqL.of (s3 _ _ e2)),dn3.dv,b2,xAja fun x hx=>?_,by rw[b3];decide,_,rfl,?_⟩
  ·obtain⟨y,hy,rfl⟩:=qu.mp hx
   exact((hf y hy).plain hp.wd).2.1
  have key:=xAqt (ds:=nn.map .tuple) (d:=.tuple nm) (fun x hx=>by
   obtain⟨y,hy,rfl⟩:=qu.mp hx
   exact((hf y hy).plain hp.wd).1) b1
  refine ite2 (fun hnot=>?_) fun hin=>?_
  ·have hnew:nm∉nn:=fun hm=>by
    have:=key.mpr (qu.mpr ⟨nm,hm,rfl⟩);rw[this]at hnot;exact absurd hnot (by decide)
   refine⟨_,rfl,.inl ⟨rfl,_,SqL.of (s3 _ _ e2)⟩,_,rfl,p2,_,_,rfl,rfl,s3 _ _ e2,xAad (by omega),?_⟩;have fp:H p2=none:=g0;refine⟨xs++[v],nn++[nm],_,_,rfl,(s2.trans s3).wr fp,by rw[xAal n12];exact s3 _ _ eq,xAaf,?_,by rw[ql,zm];omega,fun _=>by rw[ql,zm];omega,nd_add nd hnew,fun b hb=>?_⟩
   ·rw[zo]
    exact DTs.wr (s3 _ _ e2) (fun ys z=>by cases z) (dn3.snoc dv)
   ·rcases q0.mp hb with hb|hb
    ·exact hf b hb
    ·rw[zd.mp hb];exact hn
  ·refine⟨xs,nn,_,_,rfl,s2.trans s3,s3 _ _ eq,s3 _ _ e2,dn3,by omega,fun _=>?_,nd,hf⟩
   cases nn with
   |nil=>exact absurd rfl hin
   |cons a b=>rw[qy];omega
 ·rintro σ H2 ⟨xs,nn,u1,u2,rfl,s2,eq,e2,dn,hps,hp1,nd,hf⟩
  exact⟨_,rfl,p2,_,rfl,SqL.of e2,fun l H3 g3 s3 e3=>k H3 (.ref l) nn (s2.trans s3) (.tup e3 (DTs.same s3 dn)) (hp1 (by omega)) (by omega) hf nd⟩
theorem ok_fAo(T:Txt K mg tk)(F:FO K mg "_law_shown_what" s_fAo)(gfAy:O_fAy P w K mg base)(gfAk:O_fAk P w K mg base)(gfAl:O_fAl P w K mg base)(gfAj:O_fAj P w K mg base):O_fAo P w K mg base:=by
 refine mk_ok F xAkr (fun _ _ _ _ _ _ u l=>match u,l with|[_],_=>rfl) (fun _ _ _ _ h=>xAtd h) fun fa cdv A outer s H vs Q E hr h=>?_
 refine⟨_,(xAaa (sn xAkr.nd 1 (xt (vv 0)))
   (xAaa (ps_if (ck op_eq (vv 1) xAae) (xAaa (xAit (i:=2) xAkr.nd rfl (Or.inl rfl) (own:=["_law_sign_here"]) (fr:=[]) rfl (iu (xt (vv 0))) ⟨rfl,by decide +kernel,by decide +kernel⟩ (caps0 (by decide +kernel)) (fun _ _ _=>(xAce (i:=0) (by show List.Nodup (["_law_sign_here"]:List Str);decide +kernel) rfl (Or.inl rfl))) (fun _=>xAby rfl) (fun _ _ _=>xAav) (fun _ _ _=>(cl gfAj hr (a1 (vv 0)))))
   (xAab (xAag (pe_op xAbz (xAan (ac xAae (a2 (cl gfAk hr (a1 (xt (vv 0)))) (cl gfAy hr (a1 (xt (vv 0))))))) (vv 2))))) xAah)
   (xAaa (ps_if (ck op_eq (vv 1) xAae) (xAab (xAag (pe_op xAbz (xAan (a2 xAae (cl gfAk hr (a1 (xt (vv 0)))))) (lc0 (iu (xt (vv 0))) (fun _ _ _=>xAav) (fun _ _ _=>(cl gfAk hr (a1 (vv 0)))))))) xAah)
   (xAaa (ps_if (PW.pt (pw_or (ck op_eq (vv 1) xAae) (xAcv (ck op_eq (vv 1) xAae)))) (xAaa (sn xAkr.nd 3 (xAan (a2 (cl gfAl hr (a1 (xt (vv 0)))) (cl gfAl hr (a1 (xt (vv 0)))))))
   (xAab (xAag (pe_op xAbz (pe_op xAbz (xAan (a2 (vv 1) (cl gfAk hr (a1 (xt (vv 0)))))) (vv 3)) (lc0 (iu (xAap xAht (vv 0) (xAau xAac) xAbc)) (fun _ _ _=>xAav) (fun _ _ _=>(cl gfAy hr (a1 (vv 0))))))))) xAah)
   (xAaa (ps_if (ck op_eq (vv 1) xAae) (xAab (xAag (xAan (ac xAae (ac (cl gfAk hr (a1 (xt (vv 0)))) (a2 (xt (vv 0)) (cl gfAy hr (a1 (xt (vv 0)))))))))) xAah)
   (xAaa (ps_if (ck op_eq (vv 1) xAae) (xAaa (xAit (i:=4) xAkr.nd rfl (Or.inl rfl) (own:=["_law_name_here"]) (fr:=[]) rfl (iu (xAap xAht (vv 0) (xAau xAac) (xAau xAac))) ⟨rfl,by decide +kernel,by decide +kernel⟩ (caps0 (by decide +kernel)) (fun _ _ _=>(xAce (i:=0) (by show List.Nodup (["_law_name_here"]:List Str);decide +kernel) rfl (Or.inl rfl))) (fun _=>xAby rfl) (fun _ _ _=>xAav) (fun _ _ _=>(cl gfAk hr (a1 (vv 0)))))
   (xAab (xAag (pe_op xAbz (pe_op xAbz (xAan (a1 xAae)) (vv 4)) (xAan (a1 (xi (xAan (a2 (xt (vv 0)) xAae)) (cy xAbs T.b_int boot_int (a1 (ce op_eq (xt (vv 0)) xAae)))))))))) xAah)
   (xAaa (ps_if (ck op_eq (vv 1) xAae) (xAab (xAag (xAan (ac xAae (ac (cl gfAk hr (a1 (xt (vv 0)))) (ac (xt (vv 0)) (a2 (xt (vv 0)) (xi (xAan (a2 xAae xAae)) (cy xAbs T.b_int boot_int (a1 (xt (vv 0)))))))))))) xAah)
   (xAaa (ps_if (ck op_eq (vv 1) xAae) (xAab (xAag (xAan (a2 xAae (bm PySem.F.plainAttrs_str PySem.F.slot_str_join PySem.F.type_str_join xAey xAae (a1 (lc0 (iu (xt (vv 0))) (fun _ _ _=>xAav) (fun _ _ _=>(cy xAcp T.b_str boot_str (a1 (vv 0))))))))))) xAah)
   (xAaa (ps_if (ck isq (vv 1) (xAan (ac xAae (ac xAae (ac xAae (a2 xAae xAae)))))) (xAab (xAag (lc0 (iu (vv 0)) (fun _ _ _=>xAav) (fun _ _ _=>(cy xAcp T.b_str boot_str (a1 (vv 0))))))) xAah)
   (xAab (xAag (pe_op xAbz (xAan (a1 (vv 1))) (lc0 (iu (xAap xAht (vv 0) (xAau xAac) xAbc)) (fun _ _ _=>xAav) (fun _ _ _=>(cl gfAk hr (a1 (vv 0))))))))))))))))),?_⟩
 obtain⟨v,ds,ws,rfl,hv,hw,kk⟩:=h;obtain⟨q,xs,rfl,hq,hx⟩:=xAdd hv;have t0:=Same.refl H
 cases hw with
 |put p b sg hp hb hl hs =>
  cases hx with
  |cons x1 t =>
  cases t with
  |cons x2 t =>
  cases t with
  |cons x3 t =>
  cases t with
  |cons x4 t =>
  cases t;cases xAbp x1;obtain⟨q4,xs4,rfl,hq4,hx4⟩:=xAdd x4
  rename_i y2 y3
  refine⟨_,rfl,q,_,0,.str "put",rfl,rfl,SqT.of hq,xAak (j:=0) rfl,?_⟩;refine⟨_,rfl,rfl,_,rfl,itT (decide_eq_true rfl) ?_⟩;refine⟨_,rfl,q,_,3,.ref q4,rfl,rfl,SqT.of hq,xAak (j:=3) rfl,q4,rfl,⟨_,SqT.of hq4⟩,xAfd sgT hq4 hx4 (by omega) (fun x d H' K1 K0 hd dv s k=>?_) fun H1 p1 t1 g1 e1=>?_⟩
  ·refine iteT (B:=K0 H') ?_
   exact⟨_,rfl,x,d,rfl,dv,hs d hd,k⟩
  refine⟨_,rfl,q,_,1,y2,rfl,rfl,SqT.of (t1 _ _ hq),xAak (j:=1) rfl,y2,p,rfl,x2.same t1,hp,fun H2 s2=>?_⟩;have t2:=Same.trans t1 s2;refine⟨_,rfl,q,_,2,y3,rfl,rfl,SqT.of (t2 _ _ hq),xAak (j:=2) rfl,y3,b,rfl,x3.same t2,nn_on hb,fun H3 s3=>?_⟩;have t3:=Same.trans t2 s3;refine⟨szOk rfl,fun p4 H4 g4 s4 e4=>?_⟩;have t4:=Same.trans t3 s4;refine⟨_,rfl,p4,p1,_,_,rfl,rfl,e4,s4 _ _ (s3 _ _ (s2 _ _ e1)),?_,fun p5 H5 g5 s5 e5=>kk H5 p5 (t4.trans s5) ?_⟩
  ·rw[qc,qc]
   exact qg (xAad (by show 3+_≤1000;omega))
  ·rw[e5,zo]
   rfl
 |out p ns hp hl hs =>
  cases hx with
  |cons x1 t =>
  cases t with
  |cons x2 t =>
  cases t with
  |cons x4 t =>
  cases t;cases xAbp x1;obtain⟨q4,xs4,rfl,hq4,hx4⟩:=xAdd x4
  rename_i y2
  refine⟨_,rfl,q,_,0,.str "out",rfl,rfl,SqT.of hq,xAak (j:=0) rfl,?_⟩;refine⟨_,rfl,rfl,_,rfl,itF (ne_t (by decide +kernel)) ?_⟩;refine⟨_,rfl,rfl,_,rfl,itT (decide_eq_true rfl) ?_⟩;refine⟨_,rfl,q,_,1,y2,rfl,rfl,SqT.of (t0 _ _ hq),xAak (j:=1) rfl,y2,p,rfl,x2.same t0,hp,fun H2 s2=>?_⟩;have t2:=Same.trans t0 s2;refine⟨szOk rfl,fun p4 H4 g4 s4 e4=>?_⟩;have t4:=Same.trans t2 s4;refine⟨_,rfl,q,_,2,.ref q4,rfl,rfl,SqT.of (t4 _ _ hq),xAak (j:=2) rfl,q4,rfl,⟨_,SqT.of (t4 _ _ hq4)⟩,xAfd thT (t4 _ _ hq4) (DTs.same t4 hx4) (by rw[qc];omega) (fun x d H' K1 K0 hd dv s k=>?_) fun H6 p6 s6 g6 e6=>?_⟩
  ·refine iteT (B:=K0 H') ?_
   obtain⟨n,hn,rfl⟩:=qu.mp hd;rw[xAas (hs n hn)]at k;exact⟨_,rfl,x,n,rfl,dv,hs n hn,k⟩
  refine⟨p4,p6,_,_,rfl,rfl,s6 _ _ e4,e6,?_,fun p5 H5 g5 s5 e5=>kk H5 p5 ((t4.trans s6).trans s5) ?_⟩
  ·rw[qc,qc,qc]
   exact qg (xAad (by show 2+_≤1000;omega))
  ·rw[e5,zo,zy (f:=PyData.tuple),show List.map (thT∘PyData.tuple) ns=List.map nmT ns from jb fun n hn=>xAas (hs n hn)]
   rfl
 |mark k p s1 s2 r hk hp h1 h2 hl hr =>
  cases hx with
  |cons x1 t =>
  cases t with
  |cons x2 t =>
  cases t with
  |cons x3 t =>
  cases t with
  |cons x4 t =>
  cases xAbp x1
  rename_i y2 y3 y4 yr
  have lr:=xAdc t;refine⟨_,rfl,q,_,0,.str k,rfl,rfl,SqT.of hq,xAak (j:=0) rfl,?_⟩
  have hk2:k≠"put" /\ k≠"out":=by rcases hk with rfl|rfl <;> decide +kernel
  refine⟨_,rfl,rfl,_,rfl,itF (ne_t hk2.1) ?_⟩;refine⟨_,rfl,rfl,_,rfl,itF (ne_t hk2.2) ?_⟩;refine⟨_,rfl,rfl,_,rfl,?_⟩;refine or_two (k:=k) (a:="mark") (b:="note") hk ?_ ?_
  ·exact fun n=>⟨_,rfl,rfl,_,rfl,n⟩
  refine⟨_,rfl,q,_,2,y3,rfl,rfl,SqT.of (t0 _ _ hq),xAak (j:=2) rfl,y3,s1,rfl,x3.same t0,h1,fun H11 s11=>?_⟩;have t11:=Same.trans t0 s11;refine⟨_,rfl,q,_,3,y4,rfl,rfl,SqT.of (t11 _ _ hq),xAak (j:=3) rfl,y4,s2,rfl,x4.same t11,h2,fun H12 s12=>?_⟩;have t12:=Same.trans t11 s12;refine⟨szOk rfl,fun p13 H13 g13 s13 e13=>?_⟩;have t13:=Same.trans t12 s13;refine⟨_,rfl,?_⟩;refine⟨_,rfl,q,_,1,y2,rfl,rfl,SqT.of (t13 _ _ hq),xAak (j:=1) rfl,y2,p,rfl,x2.same t13,hp,fun H14 s14=>?_⟩;have t14:=Same.trans t13 s14;refine⟨szOk rfl,fun p15 H15 g15 s15 e15=>?_⟩;have t15:=Same.trans t14 s15;refine⟨_,rfl,p15,p13,_,_,rfl,rfl,e15,s15 _ _ (s14 _ _ e13),szOk rfl,fun p16 H16 g16 s16 e16=>?_⟩;have t16:=t15.trans s16;refine⟨_,rfl,_,rfl,q,_,rfl,SqT.of (t16 _ _ hq),?_,fun p17 g17=>?_⟩
  ·show ¬(HT.sIx (yr.length+4) 0 (some 4)=0/\_)
   intro z;have:=z.1;rw[show(4:Int)=((4:Nat):Int) from rfl,HT.sIx_nat]at this;omega
  have ec:cutV (.str k::y2::y3::y4::yr) (some 4) none=yr:=by
   unfold cutV;rw[show(4:Int)=((4:Nat):Int) from rfl,HT.sIx_nat,HT.sIx_none];show List.take (yr.length+4 - min 4 (yr.length+4)) (List.drop (min 4 (yr.length+4)) (V.str k::y2::y3::y4::yr))=yr;rw[y7 (by omega)];show List.take (yr.length+4 - 4) yr=yr;exact wu (by omega)
  rw[ec];have n17:Same H16 (upd H16 p17 (.tup yr)):=Same.new g17;refine⟨p17,rfl,⟨_,SqT.of xAaf⟩,xAfd thT xAaf (DTs.same (t16.trans n17) t) (by omega) (fun x d H' K1 K0 hd dv s k=>?_) fun H18 p18 s18 g18 e18=>?_⟩
  ·refine iteT (B:=K0 H') ?_
   exact⟨_,rfl,x,d,rfl,dv,wn_on (hr d hd),k⟩
  refine⟨p16,p18,_,_,rfl,rfl,s18 _ _ (n17 _ _ e16),e18,?_,fun p5 H5 g5 s5 e5=>kk H5 p5 (((t16.trans n17).trans s18).trans s5) ?_⟩
  ·rw[qc,qc]
   exact qg (xAad (by show 4+_≤1000;omega))
  ·rw[e5]
   rfl
 |line p z v hp hz hvv =>
  cases hx with
  |cons x1 t =>
  cases t with
  |cons x2 t =>
  cases t with
  |cons x3 t =>
  cases t with
  |cons x4 t =>
  cases t;cases xAbp x1;cases xAbp x3
  rename_i y2 y4
  refine⟨_,rfl,q,_,0,.str "line",rfl,rfl,SqT.of hq,xAak (j:=0) rfl,?_⟩;refine⟨_,rfl,rfl,_,rfl,itF (ne_t (by decide +kernel)) ?_⟩;refine⟨_,rfl,rfl,_,rfl,itF (ne_t (by decide +kernel)) ?_⟩;refine⟨_,rfl,rfl,_,rfl,itF (ne_t (by decide +kernel)) ?_⟩;refine⟨_,rfl,rfl,_,rfl,itF (ne_t (by decide +kernel)) ?_⟩;refine⟨_,rfl,rfl,_,rfl,itT (decide_eq_true rfl) ?_⟩;refine⟨_,rfl,q,_,1,y2,rfl,rfl,SqT.of (t0 _ _ hq),xAak (j:=1) rfl,y2,p,rfl,x2.same t0,hp,fun H2 s2=>?_⟩;have t2:=Same.trans t0 s2;refine⟨_,rfl,q,_,2,.str z,rfl,rfl,SqT.of (t2 _ _ hq),xAak (j:=2) rfl,?_⟩;refine⟨_,rfl,q,_,3,y4,rfl,rfl,SqT.of (t2 _ _ hq),xAak (j:=3) rfl,y4,v,rfl,x4.same t2,nn_on hvv,fun H3 s3=>?_⟩;have t3:=Same.trans t2 s3;refine⟨szOk rfl,fun p4 H4 g4 s4 e4=>?_⟩;have t4:=Same.trans t3 s4;exact kk H4 p4 t4 e4
 |cell p a b z hp ha hb hz =>
  cases hx with
  |cons x1 t =>
  cases t with
  |cons x2 t =>
  cases t with
  |cons x3 t =>
  cases t with
  |cons x4 t =>
  cases t with
  |cons x5 t =>
  cases t;cases xAbp x1;cases xAbp x5
  rename_i y2 y3 y4
  refine⟨_,rfl,q,_,0,.str "cell",rfl,rfl,SqT.of hq,xAak (j:=0) rfl,?_⟩;refine⟨_,rfl,rfl,_,rfl,itF (ne_t (by decide +kernel)) ?_⟩;refine⟨_,rfl,rfl,_,rfl,itF (ne_t (by decide +kernel)) ?_⟩;refine⟨_,rfl,rfl,_,rfl,itF (ne_t (by decide +kernel)) ?_⟩;refine⟨_,rfl,rfl,_,rfl,itF (ne_t (by decide +kernel)) ?_⟩;refine⟨_,rfl,rfl,_,rfl,itF (ne_t (by decide +kernel)) ?_⟩;refine⟨_,rfl,rfl,_,rfl,itT (decide_eq_true rfl) ?_⟩;refine⟨_,rfl,_,rfl,_,rfl,q,_,rfl,SqT.of hq,by show ¬(HT.sIx 5 0 (some 1)=0/\HT.sIx 5 5 (some 4)=5);decide,fun p2 g2=>?_⟩;have n2:Same H (upd H p2 (.tup [y2,y3,y4])):=Same.new g2
  have hnm:∀n∈[p,a,b],NmOk n:=fun n hn=>by
   simp only[List.mem_cons,List.not_mem_nil,or_false]at hn
   rcases hn with rfl|rfl|rfl
   ·exact hp
   ·exact ha
   ·exact hb
  refine⟨p2,rfl,⟨_,SqT.of xAaf⟩,xAfd thT (xs:=[y2,y3,y4]) (ds:=[p,a,b].map .tuple) xAaf ?_ (qp rfl) (fun x d H' K1 K0 hd dv s k=>?_) fun H3 p3 s3 g3 e3=>?_⟩
  ·exact DTs.same n2 (.cons x2 (.cons x3 (.cons x4 .nil)))
  ·refine iteT (B:=K0 H') ?_
   obtain⟨n,hn,rfl⟩:=qu.mp hd;rw[xAas (hnm n hn)]at k;exact⟨_,rfl,x,n,rfl,dv,hnm n hn,k⟩
  have t3:=n2.trans s3;refine⟨szOk rfl,fun p4 H4 g4 s4 e4=>?_⟩;have t4:=t3.trans s4;refine⟨_,rfl,p4,p3,_,_,rfl,rfl,e4,s4 _ _ e3,szOk rfl,fun p5 H5 g5 s5 e5=>?_⟩;have t5:=t4.trans s5;refine⟨_,rfl,q,_,4,.str z,rfl,rfl,SqT.of (t5 _ _ hq),xAak (j:=4) rfl,?_⟩;refine⟨szOk rfl,fun p6 H6 g6 s6 e6=>?_⟩;have t6:=Same.trans t5 s6;refine⟨_,rfl,q,_,4,.str z,rfl,rfl,SqT.of (t6 _ _ hq),xAak (j:=4) rfl,rfl,.inr ⟨_,rfl,?_⟩⟩
  have fin:∀w:Str,w=(if z = "" then("!":Str) else z)->∀(H9:Hp) (p9:Addr),Same H H9->H9 p9=some (.lst (V.str "cell"::V.str (thT (.tuple p))::V.str (thT (.tuple a))::V.str (thT (.tuple b))::[V.str w]))->Q (.ref p9) H9:=fun w hw H9 p9 s9 e9=>kk H9 p9 s9 (by
   rw[e9,xAas hp,xAas ha,xAas hb,hw]
   rfl)
  by_cases hz0:z = ""
  ·rw[show decide (V.str z=V.str "")=true from decide_eq_true (by rw[hz0])]
   refine⟨p6,_,1,.str "!",rfl,rfl,SqL.of e6,rfl,szOk rfl,fun p7 H7 g7 s7 e7=>?_⟩;refine⟨p5,p7,_,_,rfl,rfl,s7 _ _ (s6 _ _ e5),e7,szOk rfl,fun p8 H8 g8 s8 e8=>fin "!" (by rw[if_pos hz0]) H8 p8 ((t6.trans s7).trans s8) e8⟩
  ·rw[show decide (V.str z=V.str "")=false from ne_t hz0]
   refine⟨p6,_,0,.str z,rfl,rfl,SqL.of e6,rfl,szOk rfl,fun p7 H7 g7 s7 e7=>?_⟩;refine⟨p5,p7,_,_,rfl,rfl,s7 _ _ (s6 _ _ e5),e7,szOk rfl,fun p8 H8 g8 s8 e8=>fin z (by rw[if_neg hz0]) H8 p8 ((t6.trans s7).trans s8) e8⟩
 |leave p w t y hp hw hw8 ht ht8 =>
  cases hx with
  |cons x1 t' =>
  cases t' with
  |cons x2 t' =>
  cases t' with
  |cons x3 t' =>
  cases t' with
  |cons x4 t' =>
  cases t' with
  |cons x5 t' =>
  cases t';cases xAbp x1;cases xAbp x3;cases xAbp x4;cases dv_bl x5
  rename_i y2
  refine⟨_,rfl,q,_,0,.str "leave",rfl,rfl,SqT.of hq,xAak (j:=0) rfl,?_⟩;refine⟨_,rfl,rfl,_,rfl,itF (ne_t (by decide +kernel)) ?_⟩;refine⟨_,rfl,rfl,_,rfl,itF (ne_t (by decide +kernel)) ?_⟩;refine⟨_,rfl,rfl,_,rfl,itF (ne_t (by decide +kernel)) ?_⟩;refine⟨_,rfl,rfl,_,rfl,itF (ne_t (by decide +kernel)) ?_⟩;refine⟨_,rfl,rfl,_,rfl,itF (ne_t (by decide +kernel)) ?_⟩;refine⟨_,rfl,rfl,_,rfl,itF (ne_t (by decide +kernel)) ?_⟩;refine⟨_,rfl,rfl,_,rfl,itT (decide_eq_true rfl) ?_⟩;refine⟨_,rfl,q,_,1,y2,rfl,rfl,SqT.of (t0 _ _ hq),xAak (j:=1) rfl,y2,p,rfl,x2.same t0,hp,fun H2 s2=>?_⟩;have t2:=Same.trans t0 s2;refine⟨_,rfl,q,_,2,.str w,rfl,rfl,SqT.of (t2 _ _ hq),xAak (j:=2) rfl,?_⟩;refine⟨_,rfl,q,_,3,.str t,rfl,rfl,SqT.of (t2 _ _ hq),xAak (j:=3) rfl,?_⟩;refine⟨szOk rfl,fun p6 H6 g6 s6 e6=>?_⟩;have t6:=Same.trans t2 s6;refine⟨_,rfl,q,_,4,.bl y,rfl,rfl,SqT.of (t6 _ _ hq),xAak (j:=4) rfl,.inr ⟨_,rfl,?_⟩⟩
  cases y with
  |true =>
   refine⟨p6,_,1,.str "yes",rfl,rfl,SqL.of e6,rfl,szOk rfl,fun p7 H7 g7 s7 e7=>kk H7 p7 (t6.trans s7) e7⟩
  |false =>
   refine⟨p6,_,0,.str "no",rfl,rfl,SqL.of e6,rfl,szOk rfl,fun p7 H7 g7 s7 e7=>kk H7 p7 (t6.trans s7) e7⟩
 |pour i r hl hr =>
  cases hx with
  |cons x1 t =>
  cases t with
  |cons x2 t =>
  cases t;cases xAbp x1;obtain⟨q4,xs4,rfl,hq4,hx4⟩:=xAdd x2;refine⟨_,rfl,q,_,0,.str "pour",rfl,rfl,SqT.of hq,xAak (j:=0) rfl,?_⟩;refine⟨_,rfl,rfl,_,rfl,itF (ne_t (by decide +kernel)) ?_⟩;refine⟨_,rfl,rfl,_,rfl,itF (ne_t (by decide +kernel)) ?_⟩;refine⟨_,rfl,rfl,_,rfl,itF (ne_t (by decide +kernel)) ?_⟩;refine⟨_,rfl,rfl,_,rfl,itF (ne_t (by decide +kernel)) ?_⟩;refine⟨_,rfl,rfl,_,rfl,itF (ne_t (by decide +kernel)) ?_⟩;refine⟨_,rfl,rfl,_,rfl,itF (ne_t (by decide +kernel)) ?_⟩;refine⟨_,rfl,rfl,_,rfl,itF (ne_t (by decide +kernel)) ?_⟩;refine⟨_,rfl,rfl,_,rfl,itT (decide_eq_true rfl) ?_⟩;refine⟨rfl,_,rfl,q,_,1,.ref q4,rfl,rfl,SqT.of hq,xAak (j:=1) rfl,q4,rfl,⟨_,SqT.of hq4⟩,xAfd strD hq4 hx4 (by rw[qy];omega) (fun x d H' K1 K0 hd dv s k=>?_) fun H6 p6 s6 g6 e6=>?_⟩
  ·obtain⟨f1,f2⟩:=xAji dv (hr d hd)
   refine iteT (B:=K0 H') ?_;refine⟨_,rfl,x,rfl,f1,?_⟩;rw[f2];exact k H' (Same.refl H')
  refine⟨",",p6,_,rfl,rfl,SqL.of e6,?_,szOk rfl,fun p7 H7 g7 s7 e7=>kk H7 p7 (s6.trans s7) e7⟩;have a:=xAec hr;have e1:(",":Str).length=1:=rfl;rw[e1,qc];rw[qy]at a ⊢;omega
 |few k r hk hl hr =>
  cases hx with
  |cons x1 t =>
  cases xAbp x1
  rename_i yr
  refine⟨_,rfl,q,_,0,.str k,rfl,rfl,SqT.of hq,xAak (j:=0) rfl,?_⟩
  have hk2:k.length≤8/\k≠"put" /\ k≠"out" /\ k≠"mark" /\ k≠"note" /\ k≠"line" /\ k≠"cell" /\ k≠"leave" /\ k≠"pour" /\ inV (.str k) [.str "back",.str "again",.str "bring",.str "drop",.str "nothing"]=true:=by rcases hk with rfl|rfl|rfl|rfl|rfl <;> decide +kernel
  obtain⟨k8,k1,k2,k3,k4,k5,k6,k7,k9,ki⟩:=hk2;refine⟨_,rfl,rfl,_,rfl,itF (ne_t k1) ?_⟩;refine⟨_,rfl,rfl,_,rfl,itF (ne_t k2) ?_⟩;refine⟨_,rfl,rfl,_,rfl,itF (ne_t k3) ?_⟩;refine⟨_,rfl,rfl,_,rfl,itF (ne_t k4) ?_⟩;refine⟨_,rfl,rfl,_,rfl,itF (ne_t k5) ?_⟩;refine⟨_,rfl,rfl,_,rfl,itF (ne_t k6) ?_⟩;refine⟨_,rfl,rfl,_,rfl,itF (ne_t k7) ?_⟩;refine⟨_,rfl,rfl,_,rfl,itF (ne_t k9) ?_⟩;refine⟨_,rfl,szOk rfl,fun p1 H1 g1 s1 e1=>?_⟩;refine⟨p1,_,rfl,.inl (SqL.of e1),rfl,rfl,_,rfl,itT ki ?_⟩;refine⟨_,rfl,q,rfl,⟨_,SqT.of (s1 _ _ hq)⟩,xAfd strD (ds:=.str k::r) (s1 _ _ hq) (DTs.same s1 (.cons (.str k) t)) (by rw[qy];omega) (fun x d H' K1 K0 hd dv s kq=>?_) fun H6 p6 s6 g6 e6=>kk H6 p6 (s1.trans s6) e6⟩
  have fd:Flat1 d:=by
   rcases qw.mp hd with rfl|hd
   ·exact .inl ⟨k,rfl,k8⟩
   ·exact(hr d hd).1
  obtain⟨f1,f2⟩:=xAji dv fd;refine iteT (B:=K0 H') ?_;refine⟨_,rfl,x,rfl,f1,?_⟩;rw[f2];exact kq H' (Same.refl H')
 |names k ns hk hl hn =>
  cases hx with
  |cons x1 t =>
  cases xAbp x1
  rename_i yr
  have lr:=xAdc t;rw[qc]at lr;refine⟨_,rfl,q,_,0,.str k,rfl,rfl,SqT.of hq,xAak (j:=0) rfl,?_⟩
  have hk2:k.length≤8/\k≠"put" /\ k≠"out" /\ k≠"mark" /\ k≠"note" /\ k≠"line" /\ k≠"cell" /\ k≠"leave" /\ k≠"pour" /\ inV (.str k) [.str "back",.str "again",.str "bring",.str "drop",.str "nothing"]=false:=by rcases hk with rfl|rfl|rfl|rfl <;> decide +kernel
  obtain⟨k8,k1,k2,k3,k4,k5,k6,k7,k9,ki⟩:=hk2;refine⟨_,rfl,rfl,_,rfl,itF (ne_t k1) ?_⟩;refine⟨_,rfl,rfl,_,rfl,itF (ne_t k2) ?_⟩;refine⟨_,rfl,rfl,_,rfl,itF (ne_t k3) ?_⟩;refine⟨_,rfl,rfl,_,rfl,itF (ne_t k4) ?_⟩;refine⟨_,rfl,rfl,_,rfl,itF (ne_t k5) ?_⟩;refine⟨_,rfl,rfl,_,rfl,itF (ne_t k6) ?_⟩;refine⟨_,rfl,rfl,_,rfl,itF (ne_t k7) ?_⟩;refine⟨_,rfl,rfl,_,rfl,itF (ne_t k9) ?_⟩;refine⟨_,rfl,szOk rfl,fun p1 H1 g1 s1 e1=>?_⟩;refine⟨p1,_,rfl,.inl (SqL.of e1),rfl,rfl,_,rfl,itF ki ?_⟩;refine⟨_,rfl,szOk rfl,fun p2 H2 g2 s2 e2=>?_⟩;have t2:=s1.trans s2;refine⟨_,rfl,_,rfl,q,_,rfl,SqT.of (t2 _ _ hq),?_,fun p17 g17=>?_⟩
  ·show ¬(HT.sIx (yr.length+1) 0 (some 1)=0/\_)
   intro z;have:=z.1;rw[show(1:Int)=((1:Nat):Int) from rfl,HT.sIx_nat]at this;omega
  have ec:cutV (.str k::yr) (some 1) none=yr:=by
   unfold cutV;rw[show(1:Int)=((1:Nat):Int) from rfl,HT.sIx_nat,HT.sIx_none];show List.take (yr.length+1 - min 1 (yr.length+1)) (List.drop (min 1 (yr.length+1)) (V.str k::yr))=yr;rw[y7 (by omega)];show List.take (yr.length+1 - 1) yr=yr;exact wu (by omega)
  rw[ec];have n17:Same H2 (upd H2 p17 (.tup yr)):=Same.new g17;refine⟨p17,rfl,⟨_,SqT.of xAaf⟩,xAfd thT xAaf (DTs.same (t2.trans n17) t) (by rw[qc];omega) (fun x d H' K1 K0 hd dv s kq=>?_) fun H18 p18 s18 g18 e18=>?_⟩
  ·refine iteT (B:=K0 H') ?_
   obtain⟨n,hn',rfl⟩:=qu.mp hd;rw[xAas (hn n hn')]at kq;exact⟨_,rfl,x,n,rfl,dv,hn n hn',kq⟩
  refine⟨p2,p18,_,_,rfl,rfl,s18 _ _ (n17 _ _ e2),e18,?_,fun p5 H5 g5 s5 e5=>kk H5 p5 (((t2.trans n17).trans s18).trans s5) ?_⟩
  ·rw[qc,qc,qc]
   exact qg (xAad (by show 1+_≤1000;omega))
  ·rw[e5,zy (f:=PyData.tuple),show List.map (thT∘PyData.tuple) ns=List.map nmT ns from jb fun n hn'=>xAas (hn n hn')]
   rfl
theorem ok_fAr(T:Txt K mg tk)(F:FO K mg "_law_exchanged" s_fAr)(gfBv:O_fBv P w K mg base):O_fAr P w K mg base:=by
 refine mk_ok F xAic (fun _ _ _ _ _ _ u l=>match u,l with|[_,_,_,_],_=>rfl) (fun _ _ _ _ h=>xAtv h) fun fa cdv A outer s H vs Q E hr h=>?_
 refine⟨_,(xAaa (sn xAic.nd 4 (cy xAgt T.b_list boot_list (a1 (na 0))))
   (xAaa (fo (il (na 3)) (gn xAic.nd 5)
   (xAaa (sn xAic.nd 6 (pe_op xAar (pe_op xAaq (na 5) xAac) (cb xAai T.b_len boot_len (a1 (na 4)))))
   (xAaa (sn xAic.nd 7 (cl gfBv hr (a2 (na 2) (pe_op xAaq (na 5) xAac))))
   (xAaa (ps_if (ck op_eq (pe_op xAar (na 5) xAac) xAac) (xAab (sn xAic.nd 7 (xa (na 1) (pe_op xAar (pe_op xAaq (na 5) xAac) (cb xAai T.b_len boot_len (a1 (na 1))))))) xAah)
   (xAab (ps_if (ck op_eq (pe_op xAar (na 5) xAac) xAac) (xAab (xAnb (bm PySem.F.plainAttrs_list PySem.F.slot_list_insert PySem.F.type_list_insert xAln (na 4) (a2 (na 6) (na 7))))) (xAab (xAhp (na 7) (xAkw (na 4) (na 6) xAel)))))))))
   (xAab (xAag (na 4))))),?_⟩
 obtain⟨a,b,p,d,xs,ys,ws,ns,rfl,ha,hb,hp,hd,h30,k⟩:=h;refine⟨a,_,rfl,.inl (SqL.of ha.at'),fun q H1 g1 s1 e1=>?_⟩;refine⟨d,rfl,⟨_,SqL.of (s1 _ _ hd)⟩,xAig (xs:=ns.map V.int) (fun j σ H2=>∃(zs:List Str) (u1 u2 u3:Option V),σ=[some (.ref a),some (.ref b),some (.ref p),some (.ref d),some (.ref q),u1,u2,u3]/\Same H H2/\WL10 H2 q zs (30+j)) ⟨xs,none,none,none,rfl,s1,⟨e1,ha.ne,ha.few,ha.wo⟩⟩ (fun j σ H2 _ ⟨_,_,_,_,_,s2,_⟩=>SqL.of (s2 _ _ hd)) ?_ ?_⟩
 ·rintro j x σ H2 hx ⟨zs,u1,u2,u3,rfl,s2,hz⟩
  have hj:j<30:=by
   have:=(zf.mp hx).1;rw[qc]at this;omega
  obtain⟨n,rfl⟩:∃n,x=V.int n:=by
   obtain⟨n,_,e⟩:=qu.mp (qz hx);exact⟨n,e.symm⟩
  have zl:=hz.len;have few:=hz.few;refine⟨_,_,rfl,rfl,⟨by decide,by decide⟩,q,_,rfl,.inl (SqL.of hz.at'),_,_,rfl,rfl,zl,?_⟩;refine⟨_,_,rfl,rfl,⟨by decide,by decide⟩,p,_,ws,rfl,hp.mono s2,fun wz H3 hw s3=>?_⟩;have z3:=s2.trans s3;have hz3:=hz.mono s3;have m1:=xAbf (n / 4) zl;have m2:=xAbg (n / 4) zl;obtain⟨ix0,ix⟩:∃j,ixN (zs.map V.str).length (n / 4 % ((zs.map V.str).length:Int))=some j:=⟨_,by unfold ixN;rw[if_pos m1,if_pos m2]⟩;refine⟨_,_,rfl,rfl,(by show(0:Int)<4;decide),rfl,_,rfl,?_⟩;refine ite2 (fun _=>?_) fun _=>?_
  ·have hb3:=hb.mono z3
   refine⟨_,_,rfl,rfl,⟨by decide,by decide⟩,b,_,rfl,.inl (SqL.of hb3.at'),_,_,rfl,rfl,hb.len,b,_,_,rfl,rfl,SqL.of hb3.at',xAbf _ hb.len,xAbg _ hb.len,fun v hv=>?_⟩;obtain⟨y,hy,rfl⟩:=qu.mp hv;have hy:=hb.wo y hy;refine⟨_,_,rfl,rfl,(by show(0:Int)<4;decide),rfl,_,rfl,?_⟩;refine ite2 (fun _=>?_) fun _=>?_
   ·refine⟨.inl ⟨rfl,_,SqL.of hz3.at'⟩,q,_,_,.str y,rfl,rfl,hz3.at',m1,(by have l1:(zs.map V.str).length=zs.length:=qc ..;omega),xAad (by rw[qc];omega),?_⟩
    rw[xAog]
    exact⟨_,_,_,_,rfl,z3.wr g1,xAaf,by rw[ql,qy];omega,by rw[ql,qy,zw,wb];omega,fun y' hy'=>by
     rcases q0.mp hy' with h|h
     ·exact hz.wo _ (y8 h)
     ·rcases qw.mp h with rfl|h
      ·exact hy
      ·exact hz.wo _ (yi h)⟩
   ·refine⟨q,_,_,_,rfl,rfl,hz3.at',ix,?_⟩
    rw[←v0]
    exact⟨_,_,_,_,rfl,z3.wr g1,xAaf,by rw[wg];exact hz.ne,by rw[wg];omega,fun y' hy'=>by
     rcases y0 hy' with h|rfl
     ·exact hz.wo _ h
     ·exact hy⟩
  ·have hy:=hw
   refine⟨_,_,rfl,rfl,(by show(0:Int)<4;decide),rfl,_,rfl,?_⟩;refine ite2 (fun _=>?_) fun _=>?_
   ·refine⟨.inl ⟨rfl,_,SqL.of hz3.at'⟩,q,_,_,.str wz,rfl,rfl,hz3.at',m1,(by have l1:(zs.map V.str).length=zs.length:=qc ..;omega),xAad (by rw[qc];omega),?_⟩
    rw[xAog]
    exact⟨_,_,_,_,rfl,z3.wr g1,xAaf,by rw[ql,qy];omega,by rw[ql,qy,zw,wb];omega,fun y' hy'=>by
     rcases q0.mp hy' with h|h
     ·exact hz.wo _ (y8 h)
     ·rcases qw.mp h with rfl|h
      ·exact hy
      ·exact hz.wo _ (yi h)⟩
   ·refine⟨q,_,_,_,rfl,rfl,hz3.at',ix,?_⟩
    rw[←v0]
    exact⟨_,_,_,_,rfl,z3.wr g1,xAaf,by rw[wg];exact hz.ne,by rw[wg];omega,fun y' hy'=>by
     rcases y0 hy' with h|rfl
     ·exact hz.wo _ h
     ·exact hy⟩
 ·rintro σ H2 ⟨zs,u1,u2,u3,rfl,s2,hz⟩
  rw[qc]at hz;exact k q zs H2 s2 ⟨hz.at',hz.ne,by have:=hz.few;omega,hz.wo⟩
theorem ok_fCh(T:Txt K mg tk)(F:FO K mg "is_part" s_fCh)(gfCk:O_fCk P w K mg base)(gfCm:O_fCm P w K mg base):O_fCh P w K mg base:=by
 refine mk_ok F sc_fCh (fun _ _ _ _ _ _ u l=>match u,l with|[_,_],_=>rfl) (fun _ _ _ _ h=>lenR h) fun fa cdv A outer s H vs Q E hr h=>?_;refine⟨_,(xAab (xAag (pe_or (cl gfCk hr (a1 (na 1))) (xAbl (cl gfCm hr (a2 (na 0) (na 1))))))),?_⟩;obtain⟨p,ws,v,d,rfl,md,hw,ht,k⟩:=h;refine⟨_,d,rfl,ht,fun H1 s1=>⟨_,rfl,?_⟩⟩;refine ite2 (fun h1=>?_) fun h1=>?_
 ·have e:mPart ws d=true:=by unfold mPart;rw[h1];rfl
  rw[←e];exact k H1 s1
 ·refine⟨_,_,_,_,rfl,md.same s1,hw.mono s1,ht.same s1,fun H2 s2=>?_⟩
  have e:mPart ws d=mName ws d:=by unfold mPart;rw[zk.mpr h1];rfl
  rw[←e];exact k H2 (s1.trans s2)
theorem ok_fAp(T:Txt K mg tk)(F:FO K mg "is_line_or_none" s_fAp)(gfCm:O_fCm P w K mg base):O_fAp P w K mg base:=by
 refine mk_ok F sc_fAp (fun _ _ _ _ _ _ u l=>match u,l with|[_,_],_=>rfl) (fun _ _ _ _ h=>lenR h) fun fa cdv A outer s H vs Q E hr h=>?_;refine⟨_,(xAab (xAag (pe_or (ce xAfn (na 1) xAcd) (xAbl (cl gfCm hr (a2 (na 0) (na 1))))))),?_⟩;obtain⟨p,ws,v,d,rfl,md,hw,ht,k⟩:=h;refine⟨rfl,_,rfl,?_⟩
 cases ht with
 |non=>exact iteT (k H (Same.refl H))
 |str hz=>exact iteF ⟨_,_,_,_,rfl,md,hw,.str hz,k⟩
 |tup h t=>exact iteF ⟨_,_,_,_,rfl,md,hw,.tup h t,k⟩
 |lst h=>exact iteF ⟨_,_,_,_,rfl,md,hw,.lst h,k⟩
 |dct h=>exact iteF ⟨_,_,_,_,rfl,md,hw,.dct h,k⟩
 |int i=>exact iteF ⟨_,_,_,_,rfl,md,hw,.int i,k⟩
 |bl i=>exact iteF ⟨_,_,_,_,rfl,md,hw,.bl i,k⟩
theorem ok_fAx(T:Txt K mg tk)(F:FO K mg "is_sign_name" s_fAx)(gfCm:O_fCm P w K mg base)(gfBw:O_fBw P w K mg base)(gfBd:O_fBd P w K mg base):O_fAx P w K mg base:=by
 refine mk_ok F sc_fAx (fun _ _ _ _ _ _ u l=>match u,l with|[_,_],_=>rfl) (fun _ _ _ _ h=>lenR h) fun fa cdv A outer s H vs Q E hr h=>?_;refine⟨_,(xAab (xAag (xAbv (cl gfBd hr (a2 (na 1) xAac)) (xAbv (cl gfCm hr (a2 (na 0) (xAap xAht (na 1) xAbc (xAau xAac)))) (xAbl (cl gfBw hr (a2 (xt (na 1)) xAac))))))),?_⟩;obtain⟨p,ws,v,d,rfl,md,hw,ht,k⟩:=h;refine⟨_,d,_,rfl,ht,_,rfl,?_⟩;have k0:=k H (Same.refl H)
 cases ht with
 |tup h t =>
  refine ite2 (fun h1=>?_) fun h1=>?_
  ·have h1:=of_decide_eq_true h1
   obtain⟨x,y,z,a,b,c,rfl,rfl,ta,tb,tc⟩:=t.three (by omega);refine⟨_,rfl,_,_,rfl,SqT.of h,(fun e=>absurd e.2 (by show ¬(2=3);decide)),fun q hq=>?_⟩;have s1:Same H (upd H q (.tup [x,y])):=(Same.refl H).up hq;refine⟨_,_,_,.tup [a,b],rfl,md.same s1,hw.mono s1,.tup (xAaf ..) (.cons (ta.same s1) (.cons (tb.same s1) .nil)),fun H2 s2=>⟨_,rfl,?_⟩⟩;have s3:=s1.trans s2;refine ite2 (fun h2=>?_) fun h2=>?_
   ·refine⟨_,_,_,z,rfl,rfl,SqT.of (s3 _ _ h),rfl,?_⟩
    refine⟨_,c,_,rfl,tc.same s3,?_⟩
    have e:mSn ws (.tup [a,b,c])=mNum 0 c:=by show(mName ws _&&_)=_;rw[h2];rfl
    rw[←e];exact k H2 s3
   ·have e:mSn ws (.tup [a,b,c])=false:=by show(mName ws _&&_)=_;rw[zk.mpr h2];rfl
    rw[←e];exact k H2 s3
  ·rw[←xAsb (ws:=ws) (off3 h1)];exact k0
 |_=>exact iteF k0
theorem ok_fCc(T:Txt K mg tk)(F:FO K mg "read_part" s_fCc)(gfBz:O_fBz P w K mg base):O_fCc P w K mg base:=by
 refine xAcg F sc_fCc (fun _ _ _ _ _ _ u l=>match u,l with|[_],_=>rfl) (fun _ _ _ _ h=>lenY h) fun fa cdv A outer s H vs Q E hr h=>?_;refine⟨_,(xAab (xAag (xAcm (ck op_eq (na 0) xAae) (xAbb (v:=.ref c_MAIN) rfl T.c_MAIN rfl) (clX gfBz passD hr (a1 (na 0)))))),?_⟩;obtain⟨z,rfl,md,sh,hl,k,kx⟩:=h;refine⟨rfl,_,rfl,?_⟩
 by_cases e:z=(".":Str)
 ·exact ifT e (k (.tuple [.str "",.int 0]) _ _ (.inl ⟨e,rfl⟩) (Same.refl H) (.tup md.main (.cons (.str _) (.cons (.int _) .nil))))
 ·exact ifN (decide_eq_false e) ⟨z,rfl,md,sh,hl,fun d v H' p=>k d v H' (.inr ⟨e,p⟩),fun no=>kx (RIf.no e no)⟩
theorem ok_fAg(T:Txt K mg tk)(F:FO K mg "read_name_or_none" s_fAg)(gfBz:O_fBz P w K mg base):O_fAg P w K mg base:=by
 refine xAcg F sc_fAg (fun _ _ _ _ _ _ u l=>match u,l with|[_],_=>rfl) (fun _ _ _ _ h=>lenY h) fun fa cdv A outer s H vs Q E hr h=>?_;refine⟨_,(xAab (xAag (xAcm (ck op_eq (na 0) xAae) xAcd (clX gfBz passD hr (a1 (na 0)))))),?_⟩;obtain⟨z,rfl,md,sh,hl,k,kx⟩:=h;refine⟨rfl,_,rfl,?_⟩
 by_cases e:z=("-":Str)
 ·exact ifT e (k (.none) _ _ (.inl ⟨e,rfl⟩) (Same.refl H) .non)
 ·exact ifN (decide_eq_false e) ⟨z,rfl,md,sh,hl,fun d v H' p=>k d v H' (.inr ⟨e,p⟩),fun no=>kx (RIf.no e no)⟩
theorem ok_fAa(T:Txt K mg tk)(F:FO K mg "read_sign_name_or_none" s_fAa)(gfAs:O_fAs P w K mg base):O_fAa P w K mg base:=by
 refine xAcg F sc_fAa (fun _ _ _ _ _ _ u l=>match u,l with|[_],_=>rfl) (fun _ _ _ _ h=>lenY h) fun fa cdv A outer s H vs Q E hr h=>?_;refine⟨_,(xAab (xAag (xAcm (ck op_eq (na 0) xAae) xAcd (clX gfAs passD hr (a1 (na 0)))))),?_⟩;obtain⟨z,rfl,md,sh,hl,k,kx⟩:=h;refine⟨rfl,_,rfl,?_⟩
 by_cases e:z=("-":Str)
 ·exact ifT e (k (.none) _ _ (.inl ⟨e,rfl⟩) (Same.refl H) .non)
 ·exact ifN (decide_eq_false e) ⟨z,rfl,md,sh,hl,fun d v H' p=>k d v H' (.inr ⟨e,p⟩),fun no=>kx (RIf.no e no)⟩
theorem ok_fBu(T:Txt K mg tk)(F:FO K mg "read_side" s_fBu)(gfAs:O_fAs P w K mg base):O_fBu P w K mg base:=by
 refine xAcg F sc_fBu (fun _ _ _ _ _ _ u l=>match u,l with|[_],_=>rfl) (fun _ _ _ _ h=>lenY h) fun fa cdv A outer s H vs Q E hr h=>?_
 refine⟨_,(xAaa (ps_if (PW.pt (xAkv (xAbk (xAbe (bm PySem.F.plainAttrs_str PySem.F.slot_str_endswith PySem.F.type_str_endswith xAkf (na 0) (a1 xAae)))) (xAgh (xAbk (xAbe (bm PySem.F.plainAttrs_str PySem.F.slot_str_endswith PySem.F.type_str_endswith xAkf (na 0) (a1 xAae))))))) (xAab (xAbr T.X_NoDeed T.g_NoDeed (a1 (xAds (na 0))))) xAah)
   (xAab (xAag (xAam (a2 (clX gfAs passD hr (a1 (xAap xAgv (na 0) xAbc (xAau (pe_un un_neg xAac))))) (xAcm (xAbe (bm PySem.F.plainAttrs_str PySem.F.slot_str_endswith PySem.F.type_str_endswith xAkf (na 0) (a1 xAae))) xAae xAae)))))),?_⟩
 obtain⟨z,rfl,md,sh,hl,k,kx⟩:=h
 have e60:("<":Str)=⟨#[60]⟩:=by decide +kernel
 have e62:(">":Str)=⟨#[62]⟩:=by decide +kernel
 have hz:z.length≤sizeLine:=xAdu (by omega)
 have bad:(∀y,z≠y++(⟨#[60]⟩:Str))->(∀y,z≠y++(⟨#[62]⟩:Str))->∀d,¬RSide7 d z:=fun h1 h2 d h=>by
  obtain⟨_,y,_,_,_,h⟩:=h;rcases h with⟨_,e⟩|⟨_,e⟩
  ·exact h1 y e
  ·exact h2 y e
 rcases xAps z with rfl|⟨y,a,rfl⟩
 ·have x1:Txt.endswith (⟨#[]⟩:Str) "<"=false:=by decide +kernel
  have x3:Txt.endswith (⟨#[]⟩:Str) ">"=false:=by decide +kernel
  refine⟨rfl,_,_,rfl,rfl,?_⟩;rw[x1];refine⟨_,rfl,iteT ?_⟩;refine⟨rfl,_,_,rfl,rfl,?_⟩;rw[x3];refine⟨_,rfl,iteT ?_⟩;exact⟨_,rfl,sh,fun v=>⟨qg (xAad (qp rfl)),kx (bad (fun y e=>xAod e.symm) (fun y e=>xAod e.symm)) _ (Same.refl H)⟩⟩
 by_cases h60:a=60
 ·subst h60
  have x1:Txt.endswith (y++(⟨#[60]⟩:Str)) "<"=true:=by rw[e60,ends1];rfl
  refine⟨rfl,_,_,rfl,rfl,?_⟩;rw[x1];refine⟨_,rfl,iteF (iteF ?_)⟩;refine⟨_,rfl,_,rfl,_,rfl,hz,?_⟩;have x2:cutS (y++(⟨#[60]⟩:Str)) none (some (-1))=y:=xAoa y 60;rw[x2];refine⟨y,rfl,md,⟨qf xAda.2 sh.len,fun c hc=>sh.lo c (xAda.1 c hc)⟩,qf xAda.2 hl,fun ds v H1 p1 s1 t1=>?_,fun no H1 s1=>kx (fun d h=>?_) _ s1⟩
  rotate_left
  ·obtain⟨ds,y',s',_,h,h2⟩:=h
   rcases h2 with⟨_,e⟩|⟨_,e⟩
   ·have:=xAbx e
    first|exact no ds (this.1▸h)|exact absurd this.2 (by decide)
   ·have:=xAbx e
    first|exact absurd this.2 (by decide)|exact no ds (this.1▸h)
  refine⟨rfl,_,_,rfl,rfl,?_⟩;rw[x1];refine⟨_,rfl,iteT ?_⟩;refine⟨qg (xAad (qp rfl)),fun q H2 hq s2 e2=>?_⟩;exact k _ _ _ ⟨ds,y,"ahead",rfl,p1,.inl ⟨rfl,rfl⟩⟩ (s1.trans s2) (.tup e2 (.cons (t1.same s2) (.cons (.str _) .nil)))
 by_cases h62:a=62
 ·subst h62
  have x1:Txt.endswith (y++(⟨#[62]⟩:Str)) "<"=false:=by rw[e60,ends1];rfl
  have x3:Txt.endswith (y++(⟨#[62]⟩:Str)) ">"=true:=by rw[e62,ends1];rfl
  refine⟨rfl,_,_,rfl,rfl,?_⟩;rw[x1];refine⟨_,rfl,iteT ?_⟩;refine⟨rfl,_,_,rfl,rfl,?_⟩;rw[x3];refine⟨_,rfl,iteF ?_⟩;refine⟨_,rfl,_,rfl,_,rfl,hz,?_⟩;have x2:cutS (y++(⟨#[62]⟩:Str)) none (some (-1))=y:=xAoa y 62;rw[x2];refine⟨y,rfl,md,⟨qf xAda.2 sh.len,fun c hc=>sh.lo c (xAda.1 c hc)⟩,qf xAda.2 hl,fun ds v H1 p1 s1 t1=>?_,fun no H1 s1=>kx (fun d h=>?_) _ s1⟩
  rotate_left
  ·obtain⟨ds,y',s',_,h,h2⟩:=h
   rcases h2 with⟨_,e⟩|⟨_,e⟩
   ·have:=xAbx e
    first|exact no ds (this.1▸h)|exact absurd this.2 (by decide)
   ·have:=xAbx e
    first|exact absurd this.2 (by decide)|exact no ds (this.1▸h)
  refine⟨rfl,_,_,rfl,rfl,?_⟩;rw[x1];refine⟨_,rfl,iteF ?_⟩;refine⟨qg (xAad (qp rfl)),fun q H2 hq s2 e2=>?_⟩;exact k _ _ _ ⟨ds,y,"behind",rfl,p1,.inr ⟨rfl,rfl⟩⟩ (s1.trans s2) (.tup e2 (.cons (t1.same s2) (.cons (.str _) .nil)))
 have x1:Txt.endswith (y++(⟨#[a]⟩:Str)) "<"=false:=by rw[e60,ends1];exact decide_eq_false h60
 have x3:Txt.endswith (y++(⟨#[a]⟩:Str)) ">"=false:=by rw[e62,ends1];exact decide_eq_false h62
 refine⟨rfl,_,_,rfl,rfl,?_⟩;rw[x1];refine⟨_,rfl,iteT ?_⟩;refine⟨rfl,_,_,rfl,rfl,?_⟩;rw[x3];refine⟨_,rfl,iteT ?_⟩;exact⟨_,rfl,sh,fun v=>⟨qg (xAad (qp rfl)),kx (bad (fun y' e=>h60 (xAbx e).2) (fun y' e=>h62 (xAbx e).2)) _ (Same.refl H)⟩⟩
theorem ok_fBl(T:Txt K mg tk)(F:FO K mg "_law_signs" s_fBl)(gfCd:O_fCd P w K mg base):O_fBl P w K mg base:=by
 refine mk_ok F sc_fBl (fun _ _ _ _ _ _ u l=>match u,l with|[_,_],_=>rfl) (fun _ _ _ _ h=>xArg h) fun fa cdv A outer s H vs Q E hr h=>?_;refine⟨_,(xAab (xAag (cy xAbm T.b_tuple boot_tuple (a1 (lcd (defScope s_fBl) N_fBl [("_law_roll_here",1)] (il (xAap xAbi (vv 0) xAbc (xAau (pe_op xAbh xAac (pe_op xAar (xl (vv 0)) xAac))))) (fun _ _ _=>xAav) (fun _ _ _=>(cl gfCd hr (a2 (pe_op xAaq (vv 0) xAac) (vc 1))))))))),?_⟩;obtain⟨dd,p,ws,ns,rfl,hp,hd,k⟩:=h;obtain⟨a0,h0⟩:=hd.get 0 (by decide);refine⟨_,rfl,_,rfl,dd,_,0,.int a0,rfl,rfl,SqL.of hd.at',h0,_,_,rfl,rfl,(by show(0:Int)<12;decide),_,_,rfl,rfl,_,rfl,dd,_,rfl,SqL.of hd.at',fun q1 H1 g1 s1 e1=>?_⟩;have hcut:=xAnq (xs:=List.map V.int ns) (b:=1+a0 % 12) (by have:=xAbf a0 (m:=12) (by decide);omega) (by have:=xAbg a0 (m:=12) (by decide);omega) (by rw[qc];exact hd.len);refine⟨q1,rfl,⟨_,SqL.of e1⟩,xAen (xs:=cutV (List.map V.int ns) none (some (1+a0 % 12))) (qg (xAad (by omega))) (fun j ys H'=>Same H1 H'/\∃sg,DTs H' ys sg/\sg.length=j/\∀x∈sg,SignD ws x) ⟨Same.refl _,[],.nil,rfl,fun _ z=>nomatch z⟩ (fun _ _ H' s=>SqL.of (s.1 _ _ e1)) (fun j x ys H' K1 K0 hx s' k1 k0=>?_) fun H' q ys s' hy hq=>?_⟩
 ·obtain⟨m,rfl⟩:=xAfc (qz hx)
  obtain⟨s',sg,dsg,hsl,hsg⟩:=s';refine iteT (B:=K0 H') ?_;refine⟨_,rfl,_,_,rfl,rfl,⟨by decide,by decide⟩,_,rfl,_,p,ws,rfl,hp.mono (s1.trans s'),fun H2 v d s2 dv hd2=>?_⟩;refine k1 v H2 ⟨s'.trans s2,sg++[d],(DTs.same s2 dsg).snoc dv,by rw[ql,zm,hsl],fun x hx=>?_⟩;rcases q0.mp hx with hx|hx
  ·exact hsg x hx
  ·rw[zd.mp hx];exact hd2
 ·obtain⟨s',sg,dsg,hsl,hsg⟩:=s'
  refine⟨q,ys,rfl,SqL.of xAaf,fun l H2 hl2 s2 e2=>?_⟩;exact k H2 (.ref l) sg (((s1.trans s').up hq).trans s2) (.tup e2 (DTs.same ((Same.new hq).trans s2) dsg)) (by omega) (by omega) hsg
theorem ok_fAd(T:Txt K mg tk)(F:FO K mg "_law_what_of_marks" s_fAd)(gfBs:O_fBs P w K mg base)(gfBm:O_fBm P w K mg base)(gfBr:O_fBr P w K mg base)(gfBq:O_fBq P w K mg base):O_fAd P w K mg base:=by
 refine mk_ok F xAid (fun _ _ _ _ _ _ u l=>match u,l with|[_,_,_],_=>rfl) (fun _ _ _ _ h=>xArj h) fun fa cdv A outer s H vs Q E hr h=>?_
 refine⟨_,(xAaa (sn xAid.nd 3 (cl gfBm hr (a2 (xl (vv 1)) (vv 2))))
   (xAaa (sn xAid.nd 4 (cl gfBs hr (a2 (xl (vv 1)) (vv 2))))
   (xAaa (sn xAid.nd 5 (xAam (a2 (cl gfBr hr (a2 (xl (vv 1)) (vv 2))) (cl gfBr hr (a2 (xl (vv 1)) (vv 2))))))
   (xAaa (ps_if (ck op_eq (vv 0) xAac) (xAaa (sn xAid.nd 6 (xa (xAan (a2 xAcd (cl gfBq hr (a1 (pe_op xAaq (xl (vv 1)) xAac))))) (cy xAbs T.b_int boot_int (a1 (ce op_gt (pe_op xAar (xl (vv 1)) xAac) xAac)))))
   (xAab (xAag (pe_op xAdn (pe_op xAdn (xAam (a2 xAae (vv 3))) (vv 5)) (xAam (a2 (cl gfBq hr (a1 (xl (vv 1)))) (vv 6))))))) xAah)
   (xAaa (ps_if (ck op_eq (vv 0) xAac) (xAab (xAag (pe_op xAdn (pe_op xAdn (xAam (a2 xAae (vv 3))) (vv 5)) (xAam (a1 (cl gfBq hr (a1 (xl (vv 1))))))))) xAah)
   (xAaa (ps_if (ck op_eq (vv 0) xAac) (xAab (xAag (xAam (ac xAae (ac (vv 3) (a2 (xa (xAan (a2 xAae xAae)) (pe_op xAar (xl (vv 1)) xAac)) (xa (xAan (a2 xAcd (vv 4))) (cy xAbs T.b_int boot_int (a1 (ce op_gt (pe_op xAar (pe_op xAaq (xl (vv 1)) xAac) xAac) xAac)))))))))) xAah)
   (xAaa (ps_if (ck op_eq (vv 0) xAac) (xAab (xAag (xAam (ac xAae (a2 (vv 3) (vv 4)))))) xAah)
   (xAaa (sn xAid.nd 7 (xa (xAan (a2 xAae (cl gfBq hr (a1 (pe_op xAaq (xl (vv 1)) xAac))))) (cy xAbs T.b_int boot_int (a1 (ce op_gt (pe_op xAar (xl (vv 1)) xAac) xAac)))))
   (xAab (xAag (xAam (ac xAae (ac (vv 3) (ac (vv 4) (a2 (cl gfBs hr (a2 (xl (vv 1)) (vv 2))) (vv 7)))))))))))))))),?_⟩
 obtain⟨i,dd,p,ws,ns,rfl,hp,hd,k⟩:=h;obtain⟨a0,h0⟩:=hd.get 0 (by decide);obtain⟨a1,h1⟩:=hd.get 1 (by decide);obtain⟨a2,h2⟩:=hd.get 2 (by decide);obtain⟨a3,h3⟩:=hd.get 3 (by decide);obtain⟨a4,h4⟩:=hd.get 4 (by decide);have s:=Same.refl H;refine⟨_,rfl,dd,_,0,.int a0,rfl,rfl,SqL.of hd.at',h0,_,rfl,_,p,ws,rfl,hp,fun H1 v1 d1 s1 n1 t1=>?_⟩;obtain⟨pd,rfl,hpd⟩:=t1;replace hp:=hp.mono s1;replace hd:=hd.mono s1;replace s:=s.trans s1;refine⟨_,rfl,dd,_,1,.int a1,rfl,rfl,SqL.of hd.at',h1,_,rfl,_,p,ws,rfl,hp,fun H2 v2 d2 s2 n2 t2=>?_⟩;obtain⟨nd,rfl,hnd⟩:=t2;replace hp:=hp.mono s2;replace hd:=hd.mono s2;replace n1:=n1.same s2;replace s:=s.trans s2;refine⟨_,rfl,dd,_,1,.int a1,rfl,rfl,SqL.of hd.at',h1,_,rfl,_,p,ws,rfl,hp,fun H3 v3 d3 s3 n3 t3=>?_⟩;replace hp:=hp.mono s3;replace hd:=hd.mono s3;replace n1:=n1.same s3;replace n2:=n2.same s3;replace s:=s.trans s3;refine⟨_,rfl,dd,_,2,.int a2,rfl,rfl,SqL.of hd.at',h2,_,rfl,_,p,ws,rfl,hp,fun H4 v4 d4 s4 n4 t4=>?_⟩;replace hp:=hp.mono s4;replace hd:=hd.mono s4;replace n1:=n1.same s4;replace n2:=n2.same s4;replace n3:=n3.same s4;replace s:=s.trans s4;refine⟨szOk rfl,fun q5 H5 g5 s5 e5=>?_⟩;replace hp:=hp.mono s5;replace hd:=hd.mono s5;replace n1:=n1.same s5;replace n2:=n2.same s5;replace n3:=n3.same s5;replace n4:=n4.same s5;replace s:=s.trans s5;refine⟨_,rfl,rfl,_,rfl,?_⟩;refine ite2 (fun _=>?_) fun _=>?_
 ·refine⟨_,rfl,dd,_,4,.int a4,rfl,rfl,SqL.of hd.at',h4,_,_,rfl,rfl,⟨by decide,by decide⟩,_,rfl,fun z hz=>?_⟩
  refine⟨szOk rfl,fun q6 H6 g6 s6 e6=>?_⟩;replace hp:=hp.mono s6;replace hd:=hd.mono s6;replace n1:=n1.same s6;replace n2:=n2.same s6;replace n3:=n3.same s6;replace n4:=n4.same s6;replace s:=s.trans s6;replace e5:=s6 _ _ e5;refine⟨_,rfl,dd,_,4,.int a4,rfl,rfl,SqL.of hd.at',h4,_,_,rfl,rfl,(by show(0:Int)<3;decide),_,_,rfl,rfl,.inr ⟨_,rfl,?_⟩⟩;refine⟨q6,_,_,rfl,rfl,SqL.of e6,xAje _,xAfb _,fun v hv=>?_⟩
  have hb:∃b,(∀H',DT H' v b)/\WnD b:=by
   simp only[List.mem_cons,List.not_mem_nil,or_false]at hv
   rcases hv with rfl|rfl
   ·exact⟨_,fun _=>.non,.inl rfl⟩
   ·exact⟨_,fun _=>.str z,.inr ⟨_,rfl,hz⟩⟩
  obtain⟨b,db,hb⟩:=hb;refine⟨_,rfl,szOk rfl,fun q7 H7 g7 s7 e7=>?_⟩;replace hp:=hp.mono s7;replace hd:=hd.mono s7;replace n1:=n1.same s7;replace n2:=n2.same s7;replace n3:=n3.same s7;replace n4:=n4.same s7;replace s:=s.trans s7;replace e5:=s7 _ _ e5;refine⟨_,rfl,q7,q5,_,_,rfl,rfl,SqT.of e7,SqT.of e5,by simp,by simp,szOk rfl,fun q8 H8 g8 s8 e8=>?_⟩;replace hp:=hp.mono s8;replace hd:=hd.mono s8;replace n1:=n1.same s8;replace n2:=n2.same s8;replace n3:=n3.same s8;replace n4:=n4.same s8;replace s:=s.trans s8;refine⟨_,rfl,dd,_,3,.int a3,rfl,rfl,SqL.of hd.at',h3,_,rfl,fun z2 hz2=>?_⟩;refine⟨_,rfl,szOk rfl,fun q10 H10 g10 s10 e10=>?_⟩;replace hp:=hp.mono s10;replace hd:=hd.mono s10;replace n1:=n1.same s10;replace n2:=n2.same s10;replace n3:=n3.same s10;replace n4:=n4.same s10;replace s:=s.trans s10;replace e8:=s10 _ _ e8;refine⟨q8,q10,_,_,rfl,rfl,SqT.of e8,SqT.of e10,by simp,by simp,szOk rfl,fun q9 H9 g9 s9 e9=>?_⟩;exact k H9 _ _ (s.trans s9) (.tup (xs:=[.str "mark",v1,v3,v4,.str z2,v]) e9 (.cons (.str _) (.cons (n1.same s9) (.cons (n3.same s9) (.cons (n4.same s9) (.cons (.str z2) (.cons (db _) .nil))))))) fun num=>.mark _ _ _ _ _ hpd t3 t4 hz2 hb
 refine⟨_,rfl,rfl,_,rfl,?_⟩;refine ite2 (fun _=>?_) fun _=>?_
 ·refine⟨_,rfl,szOk rfl,fun q7 H7 g7 s7 e7=>?_⟩
  replace hp:=hp.mono s7;replace hd:=hd.mono s7;replace n1:=n1.same s7;replace n2:=n2.same s7;replace n3:=n3.same s7;replace n4:=n4.same s7;replace s:=s.trans s7;replace e5:=s7 _ _ e5;refine⟨_,rfl,q7,q5,_,_,rfl,rfl,SqT.of e7,SqT.of e5,by simp,by simp,szOk rfl,fun q8 H8 g8 s8 e8=>?_⟩;replace hp:=hp.mono s8;replace hd:=hd.mono s8;replace n1:=n1.same s8;replace n2:=n2.same s8;replace n3:=n3.same s8;replace n4:=n4.same s8;replace s:=s.trans s8;refine⟨_,rfl,dd,_,3,.int a3,rfl,rfl,SqL.of hd.at',h3,_,rfl,fun z2 hz2=>?_⟩;refine⟨szOk rfl,fun q10 H10 g10 s10 e10=>?_⟩;replace hp:=hp.mono s10;replace hd:=hd.mono s10;replace n1:=n1.same s10;replace n2:=n2.same s10;replace n3:=n3.same s10;replace n4:=n4.same s10;replace s:=s.trans s10;replace e8:=s10 _ _ e8;refine⟨q8,q10,_,_,rfl,rfl,SqT.of e8,SqT.of e10,by simp,by simp,szOk rfl,fun q9 H9 g9 s9 e9=>?_⟩;exact k H9 _ _ (s.trans s9) (.tup (xs:=[.str "note",v1,v3,v4,.str z2]) e9 (.cons (.str _) (.cons (n1.same s9) (.cons (n3.same s9) (.cons (n4.same s9) (.cons (.str z2) .nil)))))) fun num=>.note _ _ _ _ hpd t3 t4 hz2
 refine⟨_,rfl,rfl,_,rfl,?_⟩;refine ite2 (fun _=>?_) fun _=>?_
 ·refine⟨_,rfl,szOk rfl,fun q7 H7 g7 s7 e7=>?_⟩
  replace hp:=hp.mono s7;replace hd:=hd.mono s7;replace n1:=n1.same s7;replace n2:=n2.same s7;replace n3:=n3.same s7;replace n4:=n4.same s7;replace s:=s.trans s7;refine⟨_,rfl,dd,_,2,.int a2,rfl,rfl,SqL.of hd.at',h2,_,_,rfl,rfl,(by show(0:Int)<2;decide),q7,_,_,rfl,rfl,SqL.of e7,xAbf _ (by decide),xAbg _ (by decide),fun v hv=>?_⟩
  obtain⟨z,rfl,hz⟩:∃z:Str,v=.str z/\(z = "row" \/ z = "column"):=by
   simp only[List.mem_cons,List.not_mem_nil,or_false]at hv
   rcases hv with rfl|rfl
   ·exact⟨_,rfl,.inl rfl⟩
   ·exact⟨_,rfl,.inr rfl⟩
  refine⟨_,rfl,szOk rfl,fun q8 H8 g8 s8 e8=>?_⟩;replace hp:=hp.mono s8;replace hd:=hd.mono s8;replace n1:=n1.same s8;replace n2:=n2.same s8;replace n3:=n3.same s8;replace n4:=n4.same s8;replace s:=s.trans s8;refine⟨_,rfl,dd,_,2,.int a2,rfl,rfl,SqL.of hd.at',h2,_,_,rfl,rfl,⟨by decide,by decide⟩,_,_,rfl,rfl,(by show(0:Int)<3;decide),_,_,rfl,rfl,.inr ⟨_,rfl,?_⟩⟩;refine⟨q8,_,_,rfl,rfl,SqL.of e8,xAje _,xAfb _,fun v2' hv2=>?_⟩
  have hb:∃b,DT H8 v2' b/\OrD (NameD ws) b:=by
   simp only[List.mem_cons,List.not_mem_nil,or_false]at hv2
   rcases hv2 with rfl|rfl
   ·exact⟨_,.non,.inl rfl⟩
   ·exact⟨_,n2,.inr ⟨_,rfl,hnd⟩⟩
  obtain⟨b,db,hb⟩:=hb;exact⟨szOk rfl,fun q9 H9 g9 s9 e9=>k H9 _ _ (s.trans s9) (.tup e9 (.cons (.str _) (.cons (n1.same s9) (.cons (.str z) (.cons (db.same s9) .nil))))) fun num=>.line _ _ _ hpd hz hb⟩
 refine⟨_,rfl,rfl,_,rfl,?_⟩;refine ite2 (fun _=>⟨_,rfl,_,rfl,szOk rfl,fun q9 H9 g9 s9 e9=>k H9 _ _ (s.trans s9) (.tup e9 (.cons (.str _) (.cons (n1.same s9) (.cons (n2.same s9) .nil)))) fun num=>.strike _ _ hpd hnd⟩) fun _=>?_;refine⟨_,rfl,dd,_,3,.int a3,rfl,rfl,SqL.of hd.at',h3,_,_,rfl,rfl,⟨by decide,by decide⟩,_,rfl,fun z hz=>?_⟩;refine⟨szOk rfl,fun q6 H6 g6 s6 e6=>?_⟩;replace hp:=hp.mono s6;replace hd:=hd.mono s6;replace n1:=n1.same s6;replace n2:=n2.same s6;replace n3:=n3.same s6;replace n4:=n4.same s6;replace s:=s.trans s6;refine⟨_,rfl,dd,_,3,.int a3,rfl,rfl,SqL.of hd.at',h3,_,_,rfl,rfl,(by show(0:Int)<3;decide),_,_,rfl,rfl,.inr ⟨_,rfl,?_⟩⟩;refine⟨q6,_,_,rfl,rfl,SqL.of e6,xAje _,xAfb _,fun v hv=>?_⟩
 obtain⟨z',rfl,hz'⟩:∃z':Str,v=.str z'/\(z' = "" \/ IsW z'):=by
  simp only[List.mem_cons,List.not_mem_nil,or_false]at hv
  rcases hv with rfl|rfl
  ·exact⟨_,rfl,.inl rfl⟩
  ·exact⟨_,rfl,.inr hz⟩
 refine⟨_,rfl,_,rfl,_,rfl,dd,_,2,.int a2,rfl,rfl,SqL.of hd.at',h2,_,rfl,_,p,ws,rfl,hp,fun H7 v7 d7 s7 n7 t7=>?_⟩;obtain⟨nd2,rfl,hnd2⟩:=t7;replace hp:=hp.mono s7;replace hd:=hd.mono s7;replace n1:=n1.same s7;replace n2:=n2.same s7;replace n3:=n3.same s7;replace n4:=n4.same s7;replace s:=s.trans s7;exact⟨_,rfl,szOk rfl,fun q9 H9 g9 s9 e9=>k H9 _ _ (s.trans s9) (.tup e9 (.cons (.str _) (.cons (n1.same s9) (.cons (n2.same s9) (.cons (n7.same s9) (.cons (.str z') .nil)))))) fun num=>.cell _ _ _ _ hpd hnd hnd2 hz'⟩
theorem ok_fBi(T:Txt K mg tk)(F:FO K mg "_law_shown" s_fBi)(gfAo:O_fAo P w K mg base):O_fBi P w K mg base:=by
 refine mk_ok F xAgf (fun _ _ _ _ _ _ u l=>match u,l with|[_],_=>rfl) (fun _ _ _ _ h=>xAte h) fun fa cdv A outer s H vs Q E hr h=>?_
 refine⟨_,(xAaa (xAhp (vv 0) (gt (xAaz (gn xAgf.nd 1) (xAaz (gn xAgf.nd 2) (xAaz (gn xAgf.nd 3) (xAaz (gn xAgf.nd 4) (xAaz (gn xAgf.nd 5) xAea)))))))
   (xAaa (sn xAgf.nd 6 (xAan (ac (vv 1) (a2 (cy xAcp T.b_str boot_str (a1 (vv 2))) (bm PySem.F.plainAttrs_str PySem.F.slot_str_join PySem.F.type_str_join xAey xAae (a1 (lc0 (iu (vv 3)) (fun _ _ _=>xAav) (fun _ _ _=>(cy xAcp T.b_str boot_str (a1 (vv 0)))))))))))
   (xAaa (ps_if (ck xAfn (vv 4) xAcd) (xAab (ap (vv 6) (a1 xAae))) (xAab (ap (vv 6) (a1 (pe_op xAaw (pe_op xAaw (xt (vv 4)) xAae) (xt (vv 4)))))))
   (xAab (xAag (bm PySem.F.plainAttrs_str PySem.F.slot_str_join PySem.F.type_str_join xAey xAae (a1 (pe_op xAbz (vv 6) (cl gfAo hr (a1 (vv 5))))))))))),?_⟩
 obtain⟨v,w,n,hs,b,ws,rfl,dk,kk⟩:=h;obtain⟨q,hq,vb,vx,ds,rfl,eq,dh,db,dx,hw⟩:=dk.at';obtain⟨qh,hxs,rfl,hqq,hx⟩:=xAdd dh;refine⟨_,rfl,q,_,rfl,SqT.of eq,rfl,?_⟩;refine⟨_,_,rfl,_,_,rfl,_,_,rfl,_,_,rfl,_,_,rfl,rfl,?_⟩;refine⟨_,rfl,_,rfl,_,rfl,.inr ⟨n,rfl,log_nb dk.nn⟩,?_⟩;refine⟨rfl,_,rfl,qh,rfl,⟨_,SqT.of hqq⟩,xAfd strD hqq hx (by have:=dk.hl;omega) (fun x d H' K1 K0 hd dv s k=>?_) fun H6 p6 s6 g6 e6=>?_⟩
 ·obtain⟨f1,f2⟩:=xAji dv (dk.hf d hd)
  refine iteT (B:=K0 H') ?_;refine⟨_,rfl,x,rfl,f1,?_⟩;rw[f2];exact k H' (Same.refl H')
 refine⟨",",p6,_,rfl,rfl,SqL.of e6,?_,?_⟩
 ·have a:=xAec dk.hf
  have:=dk.hl;have e1:(",":Str).length=1:=rfl;rw[e1,qc];omega
 refine⟨szOk rfl,fun p7 H7 g7 s7 e7=>?_⟩;have t7:=s6.trans s7;have wl:=hw.len;rcases dk.bo with rfl|⟨a,c,rfl,la,lc⟩
 ·cases xAqs db
  refine⟨_,rfl,rfl,_,rfl,itT (decide_eq_true rfl) ?_⟩;refine⟨_,rfl,.inl ⟨rfl,_,SqL.of e7⟩,p7,_,_,rfl,rfl,e7,xAad (qp rfl),?_⟩;have w8:=s7.wr (o:=.lst [.str w,.str (toString n),.str (Txt.join "," (hs.map strD)),.str "-"]) g7;have t8:=s6.trans w8;refine⟨rfl,_,rfl,_,rfl,vx,ds,ws,rfl,dx.same t8,hw,fun H9 p9 s9 e9=>?_⟩;have t9:=t8.trans s9;refine⟨p7,p9,_,_,rfl,rfl,s9 _ _ xAaf,e9,?_,fun p5 H5 g5 s5 e5=>?_⟩
  ·rw[qc]
   exact qg (xAad (by show 4+_≤1000;omega))
  refine⟨" ",p5,([w,toString n,Txt.join "," (hs.map strD),brT .none]:List Str)++ws,rfl,rfl,SqL.of ?_,xAtf dk.wl dk.nn dk.hl dk.hf dk.bo wl,kk H5 (t9.trans s5)⟩;rw[e5,zo];rfl
 ·obtain⟨qb,xs,rfl,hqb,hxb⟩:=xAdd db
  cases hxb with
  |cons y1 t =>
  cases t with
  |cons y2 t =>
  cases t;cases xAbp y1;cases xAbp y2;refine⟨_,rfl,rfl,_,rfl,itF (decide_eq_false fun z=>nomatch z) ?_⟩;have e1:(".":Str).length=1:=rfl;refine⟨_,rfl,.inl ⟨rfl,_,SqL.of e7⟩,_,rfl,qb,_,0,.str a,rfl,rfl,SqT.of (t7 _ _ hqb),xAak (j:=0) rfl,_,_,rfl,rfl,by rw[e1];show _≤16777216;omega,_,rfl,qb,_,1,.str c,rfl,rfl,SqT.of (t7 _ _ hqb),xAak (j:=1) rfl,_,_,rfl,rfl,by rw[Str.length_append,e1];show _≤16777216;omega,p7,_,_,rfl,rfl,e7,xAad (qp rfl),?_⟩;have w8:=s7.wr (o:=.lst [.str w,.str (toString n),.str (Txt.join "," (hs.map strD)),.str (a++"."++c)]) g7;have t8:=s6.trans w8;refine⟨rfl,_,rfl,_,rfl,vx,ds,ws,rfl,dx.same t8,hw,fun H9 p9 s9 e9=>?_⟩;have t9:=t8.trans s9;refine⟨p7,p9,_,_,rfl,rfl,s9 _ _ xAaf,e9,?_,fun p5 H5 g5 s5 e5=>?_⟩
  ·rw[qc]
   exact qg (xAad (by show 4+_≤1000;omega))
  refine⟨" ",p5,([w,toString n,Txt.join "," (hs.map strD),brT (.tuple [.str a,.str c])]:List Str)++ws,rfl,rfl,SqL.of ?_,xAtf dk.wl dk.nn dk.hl dk.hf dk.bo wl,kk H5 (t9.trans s5)⟩;rw[e5,zo,show brT (.tuple [.str a,.str c])=a++"."++c from xAtg a c];rfl
theorem ok_fAb(T:Txt K mg tk)(F:FO K mg "is_sign_name_or_none" s_fAb)(gfAx:O_fAx P w K mg base):O_fAb P w K mg base:=by
 refine mk_ok F sc_fAb (fun _ _ _ _ _ _ u l=>match u,l with|[_,_],_=>rfl) (fun _ _ _ _ h=>lenR h) fun fa cdv A outer s H vs Q E hr h=>?_;refine⟨_,(xAab (xAag (pe_or (ce xAfn (na 1) xAcd) (xAbl (cl gfAx hr (a2 (na 0) (na 1))))))),?_⟩;obtain⟨p,ws,v,d,rfl,md,hw,ht,k⟩:=h;refine⟨rfl,_,rfl,?_⟩
 cases ht with
 |non=>exact iteT (k H (Same.refl H))
 |str hz=>exact iteF ⟨_,_,_,_,rfl,md,hw,.str hz,k⟩
 |tup h t=>exact iteF ⟨_,_,_,_,rfl,md,hw,.tup h t,k⟩
 |lst h=>exact iteF ⟨_,_,_,_,rfl,md,hw,.lst h,k⟩
 |dct h=>exact iteF ⟨_,_,_,_,rfl,md,hw,.dct h,k⟩
 |int i=>exact iteF ⟨_,_,_,_,rfl,md,hw,.int i,k⟩
 |bl i=>exact iteF ⟨_,_,_,_,rfl,md,hw,.bl i,k⟩
theorem ok_fCo(T:Txt K mg tk)(F:FO K mg "is_side" s_fCo)(gfBp:O_fBp P w K mg base)(gfAx:O_fAx P w K mg base)(gfBd:O_fBd P w K mg base):O_fCo P w K mg base:=by
 refine mk_ok F sc_fCo (fun _ _ _ _ _ _ u l=>match u,l with|[_,_],_=>rfl) (fun _ _ _ _ h=>lenR h) fun fa cdv A outer s H vs Q E hr h=>?_;refine⟨_,(xAab (xAag (xAbv (cl gfBd hr (a2 (na 1) xAac)) (xAbv (cl gfAx hr (a2 (na 0) (xt (na 1)))) (xAbl (cl gfBp hr (a2 (xt (na 1)) (xAbb (v:=.ref c_WHERES) rfl T.c_WHERES rfl)))))))),?_⟩;obtain⟨p,ws,v,d,rfl,md,hw,ht,k⟩:=h;refine⟨_,d,_,rfl,ht,_,rfl,?_⟩;have k0:=k H (Same.refl H)
 cases ht with
 |tup h t =>
  refine ite2 (fun h1=>?_) fun h1=>?_
  ·have h1:=of_decide_eq_true h1
   obtain⟨x,y,a,b,rfl,rfl,ta,tb⟩:=t.two (by omega);refine⟨_,_,_,x,rfl,rfl,SqT.of h,rfl,?_⟩;refine⟨_,_,_,_,rfl,md,hw,ta,fun H1 s1=>⟨_,rfl,?_⟩⟩;refine ite2 (fun h2=>?_) fun h2=>?_
   ·refine⟨_,_,_,y,rfl,rfl,SqT.of (s1 _ _ h),rfl,?_⟩
    refine⟨_,b,_,["ahead","behind"],rfl,tb.same s1,(md.same s1).whe,?_⟩
    have e:mSide ws (.tup [a,b])=mOne ["ahead","behind"] b:=by show(mSn ws a&&_)=_;rw[h2];rfl
    rw[←e];exact k H1 s1
   ·have e:mSide ws (.tup [a,b])=false:=by show(mSn ws a&&_)=_;rw[zk.mpr h2];rfl
    rw[←e];exact k H1 s1
  ·rw[←xAmg (ws:=ws) (off2 h1)];exact k0
 |_=>exact iteF k0
theorem ok_fAn(T:Txt K mg tk)(F:FO K mg "is_sign_of_roll" s_fAn)(gfCh:O_fCh P w K mg base)(gfCl:O_fCl P w K mg base):O_fAn P w K mg base:=by
 refine mk_ok F sc_fAn (fun _ _ _ _ _ _ u l=>match u,l with|[_,_],_=>rfl) (fun _ _ _ _ h=>lenR h) fun fa cdv A outer s H vs Q E hr h=>?_
 refine⟨_,(xAaa (ps_if (xAbk (xAbe (cl gfCl hr (a1 (na 1))))) (xAab (xAag pe_bl)) xAah)
   (xAab (xAag (pe_or (cb xAbq T.b_isinstance boot_isinstance (a2 (na 1) (xAbj (v:=.ty "str") (by rfl) T.b_str boot_str rfl))) (pe_or (ce op_eq (xt (na 1)) xAae) (xAbl (cl gfCh hr (a2 (na 0) (xt (na 1)))))))))),?_⟩
 obtain⟨p,ws,v,d,rfl,md,hw,ht,k⟩:=h;refine⟨_,d,rfl,ht,fun H1 s1=>⟨_,rfl,?_⟩⟩;have k0:=k H1 s1;refine ite2 (fun h1=>?_) fun h1=>?_
 ·have h1:mSign d=false:=by simpa using h1
  have e:mSoR ws d=false:=by
   unfold mSoR;split
   ·exact h1
   ·rw[h1];rfl
   ·rfl
  rw[←e];exact k0
 ·have h1:mSign d=true:=by simpa using h1
  refine⟨_,"str",_,rfl,rfl,(ht.same s1).isk (by decide) (by decide),_,rfl,?_⟩
  cases ht with
  |@str z ty =>
   refine iteT ?_;have e:mSoR ws (.str z)=true:=h1;rw[←e];exact k0
  |@tup pa xs ds h t =>
   refine iteF ?_
   have hl:ds.length=2:=Decidable.byContradiction fun e=>by rw[xAhd e]at h1;exact Bool.noConfusion h1
   obtain⟨x,y,a,b,rfl,rfl,ta,tb⟩:=t.two hl
   have e:mSoR ws (.tup [a,b])=(mOne ["picture"] a||mPart ws b):=by show(mSign _&&_)=_;rw[h1];rfl
   refine⟨_,_,_,x,rfl,rfl,SqT.of (s1 _ _ h),rfl,?_⟩
   cases ta with
   |@str z ty =>
    refine⟨rfl,_,rfl,?_⟩
    have e0:decide (V.str z=V.str "picture")=mOne ["picture"] (.str z):=by
     show _=decide (z∈(["picture"]:List Str));rw[decide_eq_decide];simp
    rw[e0];refine ite2 (fun h2=>?_) fun h2=>?_
    ·rw[h2,Bool.true_or]at e
     rw[←e];exact k0
    ·rw[zk.mpr h2,jj]at e
     refine⟨_,_,_,y,rfl,rfl,SqT.of (s1 _ _ h),rfl,?_⟩;refine⟨_,_,_,b,rfl,md.same s1,hw.mono s1,tb.same s1,fun H2 s2=>?_⟩;rw[←e];exact k H2 (s1.trans s2)
   |_=>exact Bool.noConfusion h1
  |_=>exact Bool.noConfusion h1
theorem ok_fAu(T:Txt K mg tk)(F:FO K mg "is_sign_names" s_fAu)(gfAx:O_fAx P w K mg base):O_fAu P w K mg base:=by
 refine mk_ok F sc_fAu (fun _ _ _ _ _ _ u l=>match u,l with|[_,_],_=>rfl) (fun _ _ _ _ h=>lenR h) fun fa cdv A outer s H vs Q E hr h=>?_
 refine⟨_,(xAaa (ps_if (PW.pt (pw_or (xAbk (xAbe (cb xAbq T.b_isinstance boot_isinstance (a2 (na 1) (xAbj (v:=.ty "tuple") (by rfl) T.b_tuple boot_tuple rfl))))) (xAcv (xAbk (xAei op_le op_le xAac (cb xAai T.b_len boot_len (a1 (na 1))) (xAbb (v:=.int 12) (by rfl) T.c_MOST_SIGNS ⟨_,rfl⟩)))))) (xAab (xAag pe_bl)) xAah)
   (xAaa (ps_if (xAbk (xAbe (cb (xAcx rfl) T.b_all boot_all (a1 (lcd (defScope s_fAu) N_fAu [("roll",0)] (iu (na 1)) (fun _ _ _=>xAav) (fun _ _ _=>(cl gfAx hr (a2 (nc 1) (na 0))))))))) (xAab (xAag pe_bl)) xAah)
   (xAab (xAag (ce op_eq (cb xAhy T.b_len boot_len (a1 (cy (xAmk rfl (hu4 hr)) T.b_set boot_set (a1 (na 1))))) (cb xAai T.b_len boot_len (a1 (na 1)))))))),?_⟩
 obtain⟨p,ws,v,d,rfl,md,hw,ht,k⟩:=h;refine⟨_,"tuple",_,rfl,rfl,ht.isk (by decide) (by decide),?_⟩;have k0:=k H (Same.refl H)
 cases ht with
 |@tup a xs ds h t =>
  refine⟨_,rfl,iteF ?_⟩;refine⟨a,_,rfl,.inr (SqT.of h),_,_,rfl,rfl,_,rfl,?_⟩
  have off:¬(1≤ds.length/\ds.length≤12)->mSns ws (.tup ds)=false:=fun h=>by
   show(decide _&&_)=_;rw[decide_eq_false h];rfl
  have hl:=t.len;refine ite2 (fun h1=>?_) fun h1=>?_
  ·have h1:(1:Int)≤(xs.length:Int):=of_decide_eq_true h1
   refine⟨_,_,rfl,rfl,_,rfl,?_⟩;refine ite2 (fun h2=>?_) fun h2=>?_
   ·have h2:¬(xs.length:Int)≤12:=by simpa using h2
    rw[←off fun e=>h2 (by omega)];exact k0
   ·have h2:(xs.length:Int)≤12:=by simpa using h2
    have hx:xs.length≤sizeLine:=qg (xAad (by omega));refine⟨a,rfl,⟨_,SqT.of h⟩,xAiy hx (fun i ys H'=>Same H H'/\ys=(ds.take i).map fun d=>V.bl (mSn ws d)) ⟨Same.refl H,rfl⟩ (fun i ys H' q=>SqT.of (q.1 _ _ h)) (fun i x ys H' K1 K0 hx ⟨s1,hy⟩ k1 k2=>?_) fun H' q ys ⟨s1,hy⟩ _ hq=>?_⟩
    ·obtain⟨d,hd,td⟩:=t.at hx
     refine iteT (B:=K0 H') ?_;exact⟨_,_,_,d,rfl,md.same s1,hw.mono s1,td.same s1,fun H2 s2=>k1 _ _ ⟨s1.trans s2,by rw[xAkb hd,hy]⟩⟩
    ·refine⟨q,ds.map (mSn ws),rfl,SqL.of (by rw[xAaf,hy,t.len,ww,zy];rfl),?_⟩
     have e:mSns ws (.tup ds)=((ds.map (mSn ws)).all id&&decide ((ds.map snK).Nodup)):=by
      show(decide (1≤ds.length/\ds.length≤12)&&_)=_;rw[decide_eq_true ⟨by omega,by omega⟩,wk];rfl
     have s3:=s1.up (o:=.lst ys) hq;refine⟨_,rfl,?_⟩;refine ite2 (fun h3=>?_) fun h3=>?_
     ·have h3:(ds.map (mSn ws)).all id=false:=by simpa using h3
      rw[h3,wf]at e;rw[←e];exact k _ s3
     ·have h3:(ds.map (mSn ws)).all id=true:=by simpa using h3
      rw[h3,zt]at e
      have h3':ds.all (mSn ws)=true:=by rw[wk]at h3;exact h3
      refine IrSetD.mk a xs (ds.map snK) rfl (s3 _ _ h) (by rw[qc];exact hl) (fun i y ks e1 e2=>?_) (by rw[qc];omega) fun q2 H2 hq2 s2 e2=>?_
      ·obtain⟨d,hd,td⟩:=t.at e1
       rw[zh,hd]at e2;cases e2;exact sn_gk (td.same s3) (zg.mp h3' d (qz hd))
      ·have s4:=s3.trans s2
       have hlen:=xAnz (ds.map snK);have hnd:=xAmi (ds.map snK);rw[qc]at hlen hnd;refine⟨q2,_,rfl,by omega,e2,?_⟩;refine⟨a,_,rfl,.inr (SqT.of (s4 _ _ h)),rfl,?_⟩
       have e5:decide (V.int ((ddk (ds.map snK)).length:Int)=V.int (xs.length:Int))=mSns ws (.tup ds):=by
        rw[e,hl];exact decide_eq_decide.mpr ⟨fun e=>hnd.mp (Int.ofNat.inj (V.int.inj e)),fun e=>congrArg (fun n:Nat=>V.int (n:Int)) (hnd.mpr e)⟩
       rw[e5];exact k _ s4
  ·have h1:¬(1:Int)≤(xs.length:Int):=by simpa using h1
   refine⟨_,rfl,iteT ?_⟩;rw[←off fun e=>h1 (by omega)];exact k0
 |_=>exact⟨_,rfl,iteT (iteT k0)⟩
theorem ok_fBy(T:Txt K mg tk)(F:FO K mg "read_sign" s_fBy)(gfCc:O_fCc P w K mg base)(gfBg:O_fBg P w K mg base):O_fBy P w K mg base:=by
 refine xAcg F sc_fBy (fun _ _ _ _ _ _ u l=>match u,l with|[_],_=>rfl) (fun _ _ _ _ h=>lenY h) fun fa cdv A outer s H vs Q E hr h=>?_
 refine⟨_,(xAaa (ps_if (xAbe (bm PySem.F.plainAttrs_str PySem.F.slot_str_startswith PySem.F.type_str_startswith xAhh (na 0) (a1 xAae))) (xAab (xAag (xAam (a2 xAae (clX gfBg passD hr (a1 (xAap xAgv (na 0) (xAau xAac) xAbc))))))) xAah)
   (xAaa (ps_if (xAbe (bm PySem.F.plainAttrs_str PySem.F.slot_str_startswith PySem.F.type_str_startswith xAhh (na 0) (a1 xAae))) (xAab (xAag (xAam (a2 xAae (clX gfCc passD hr (a1 (xAap xAgv (na 0) (xAau xAac) xAbc))))))) xAah)
   (xAab (xAag (xAcm (ck op_eq (na 0) xAae) xAae (na 0)))))),?_⟩
 obtain⟨z,rfl,md,sh,hl,k,kx⟩:=h
 have e42:("*":Str)=⟨#[42]⟩:=by decide +kernel
 have e35:("#":Str)=⟨#[35]⟩:=by decide +kernel
 have hz:z.length≤sizeLine:=xAdu (by omega)
 by_cases hs:∃y,z=(⟨#[42]⟩:Str)++y
 ·obtain⟨y,rfl⟩:=hs
  have x1:Txt.startswith ((⟨#[42]⟩:Str)++y) "*"=true:=by rw[e42,xAfk];rfl
  refine⟨rfl,_,_,rfl,rfl,?_⟩;rw[x1];refine⟨_,rfl,iteT ?_⟩;have x2:cutS ((⟨#[42]⟩:Str)++y) (some 1) none=y:=xAob 42 y;refine⟨_,rfl,_,rfl,hz,?_⟩;rw[x2];refine⟨y,rfl,md,⟨qf xAdb.2 sh.len,fun c hc=>sh.lo c (xAdb.1 c hc)⟩,qf xAdb.2 hl,fun ds v H1 p1 s1 t1=>?_,fun no H1 s1=>kx (fun d h=>?_) _ s1⟩
  rotate_left
  ·cases h with
   |pic h e=>have:=xAch e;first|exact no _ ⟨rfl,this.2▸h⟩|exact absurd this.1 (by decide)
   |ref h e=>have:=xAch e;first|exact no _ (this.2▸h)|exact absurd this.1 (by decide)
   |txt h1 h2=>first|exact h1 _ rfl|exact h2 _ rfl
  refine⟨qg (xAad (qp rfl)),fun q H2 hq s2 e2=>?_⟩;obtain⟨rfl,hw⟩:=p1;exact k _ _ _ (.pic hw rfl) (s1.trans s2) (.tup e2 (.cons (.str _) (.cons (t1.same s2) .nil)))
 by_cases hs2:∃y,z=(⟨#[35]⟩:Str)++y
 ·obtain⟨y,rfl⟩:=hs2
  have x1:Txt.startswith ((⟨#[35]⟩:Str)++y) "*"=false:=by rw[e42,xAfk];rfl
  have x3:Txt.startswith ((⟨#[35]⟩:Str)++y) "#"=true:=by rw[e35,xAfk];rfl
  refine⟨rfl,_,_,rfl,rfl,?_⟩;rw[x1];refine⟨_,rfl,iteF ?_⟩;refine⟨rfl,_,_,rfl,rfl,?_⟩;rw[x3];refine⟨_,rfl,iteT ?_⟩;have x2:cutS ((⟨#[35]⟩:Str)++y) (some 1) none=y:=xAob 35 y;refine⟨_,rfl,_,rfl,hz,?_⟩;rw[x2];refine⟨y,rfl,md,⟨qf xAdb.2 sh.len,fun c hc=>sh.lo c (xAdb.1 c hc)⟩,qf xAdb.2 hl,fun ds v H1 p1 s1 t1=>?_,fun no H1 s1=>kx (fun d h=>?_) _ s1⟩
  rotate_left
  ·cases h with
   |pic h e=>have:=xAch e;first|exact no _ ⟨rfl,this.2▸h⟩|exact absurd this.1 (by decide)
   |ref h e=>have:=xAch e;first|exact no _ (this.2▸h)|exact absurd this.1 (by decide)
   |txt h1 h2=>first|exact h1 _ rfl|exact h2 _ rfl
  refine⟨qg (xAad (qp rfl)),fun q H2 hq s2 e2=>?_⟩;exact k _ _ _ (.ref p1 rfl) (s1.trans s2) (.tup e2 (.cons (.str _) (.cons (t1.same s2) .nil)))
 have n1:∀y,z≠(⟨#[42]⟩:Str)++y:=fun y e=>hs ⟨y,e⟩;have n2:∀y,z≠(⟨#[35]⟩:Str)++y:=fun y e=>hs2 ⟨y,e⟩
 have x1:Txt.startswith z "*"=false:=by
  rcases xAkn z with rfl|⟨a,y,rfl⟩
  ·decide +kernel
  ·rw[e42,xAfk];exact decide_eq_false fun e=>n1 y (by rw[e])
 have x2:Txt.startswith z "#"=false:=by
  rcases xAkn z with rfl|⟨a,y,rfl⟩
  ·decide +kernel
  ·rw[e35,xAfk];exact decide_eq_false fun e=>n2 y (by rw[e])
 refine⟨rfl,_,_,rfl,rfl,?_⟩;rw[x1];refine⟨_,rfl,iteF ?_⟩;refine⟨rfl,_,_,rfl,rfl,?_⟩;rw[x2];refine⟨_,rfl,iteF ?_⟩;refine⟨rfl,_,rfl,?_⟩;have fin:=k _ (.str (if z=("_":Str) then " " else z)) H (.txt n1 n2) (Same.refl H) (.str _)
 by_cases hb:z=("_":Str)
 ·refine ifT hb ?_
  rw[if_pos hb]at fin;exact fin
 ·refine ifN (decide_eq_false hb) ?_
  rw[if_neg hb]at fin;exact fin
theorem ok_fAf(T:Txt K mg tk)(F:FO K mg "_law_what_of_signs" s_fAf)(gfBs:O_fBs P w K mg base)(gfBm:O_fBm P w K mg base)(gfAq:O_fAq P w K mg base)(gfAm:O_fAm P w K mg base)(gfBl:O_fBl P w K mg base):O_fAf P w K mg base:=by
 refine mk_ok F xAmx (fun _ _ _ _ _ _ u l=>match u,l with|[_,_,_],_=>rfl) (fun _ _ _ _ h=>xAri h) fun fa cdv A outer s H vs Q E hr h=>?_
 refine⟨_,(xAaa (sn xAmx.nd 3 (cl gfBm hr (a2 (xl (vv 1)) (vv 2))))
   (xAaa (sn xAmx.nd 4 (cl gfBs hr (a2 (xl (vv 1)) (vv 2))))
   (xAaa (sn xAmx.nd 5 (xa (xAan (a2 xAcd (cl gfAq hr (a2 (pe_op xAaq (xl (vv 1)) xAac) (vv 2))))) (cy xAbs T.b_int boot_int (a1 (ce op_gt (pe_op xAar (xl (vv 1)) xAac) xAac)))))
   (xAaa (ps_if (ck op_eq (vv 0) xAac) (xAab (xAag (xAam (a2 xAae (vv 3))))) xAah)
   (xAaa (ps_if (ck op_eq (vv 0) xAac) (xAab (xAag (xAam (ac xAae (a2 (vv 4) (vv 3)))))) xAah)
   (xAaa (ps_if (ck op_eq (vv 0) xAac) (xAab (xAag (xAam (a2 xAae (vv 4))))) xAah)
   (xAaa (ps_if (ck op_eq (vv 0) xAac) (xAab (xAag (xAam (ac xAae (ac (vv 3) (a2 (vv 5) (cl gfBl hr (a2 (xAap xAbi (vv 1) (xAau xAac) xAbc) (vv 2))))))))) xAah)
   (xAaa (ps_if (ck op_eq (vv 0) xAac) (xAab (xAag (xAam (ac xAae (a2 (vv 3) (cl gfAm hr (a2 (xAap xAbi (vv 1) (xAau xAac) xAbc) (vv 2)))))))) xAah)
   (xAab (xAag (xAam (a1 xAae)))))))))))),?_⟩
 obtain⟨i,dd,p,ws,ns,rfl,hp,hd,k⟩:=h;obtain⟨a0,h0⟩:=hd.get 0 (by decide);obtain⟨a1,h1⟩:=hd.get 1 (by decide);have s:=Same.refl H;refine⟨_,rfl,dd,_,0,.int a0,rfl,rfl,SqL.of hd.at',h0,_,rfl,_,p,ws,rfl,hp,fun H1 v1 d1 s1 n1 t1=>?_⟩;obtain⟨pd,rfl,hpd⟩:=t1;replace hp:=hp.mono s1;replace hd:=hd.mono s1;replace s:=s.trans s1;refine⟨_,rfl,dd,_,1,.int a1,rfl,rfl,SqL.of hd.at',h1,_,rfl,_,p,ws,rfl,hp,fun H2 v2 d2 s2 n2 t2=>?_⟩;obtain⟨nd,rfl,hnd⟩:=t2;replace hp:=hp.mono s2;replace hd:=hd.mono s2;replace n1:=n1.same s2;replace s:=s.trans s2;refine⟨_,rfl,dd,_,1,.int a1,rfl,rfl,SqL.of hd.at',h1,_,_,rfl,rfl,⟨by decide,by decide⟩,_,rfl,_,p,ws,rfl,hp,fun H3 v3 d3 s3 n3 t3=>?_⟩;obtain⟨sd,rfl,hsd⟩:=t3;replace hp:=hp.mono s3;replace hd:=hd.mono s3;replace n1:=n1.same s3;replace n2:=n2.same s3;replace s:=s.trans s3;refine⟨szOk rfl,fun q4 H4 g4 s4 e4=>?_⟩;replace hp:=hp.mono s4;replace hd:=hd.mono s4;replace n1:=n1.same s4;replace n2:=n2.same s4;replace n3:=n3.same s4;replace s:=s.trans s4;refine⟨_,rfl,dd,_,1,.int a1,rfl,rfl,SqL.of hd.at',h1,_,_,rfl,rfl,(by show(0:Int)<3;decide),_,_,rfl,rfl,.inr ⟨_,rfl,?_⟩⟩;refine⟨q4,_,_,rfl,rfl,SqL.of e4,xAje _,xAfb _,fun v hv=>?_⟩
 have hb:∃b,DT H4 v b/\OrD (SnD ws) b:=by
  simp only[List.mem_cons,List.not_mem_nil,or_false]at hv
  rcases hv with rfl|rfl
  ·exact⟨_,.non,.inl rfl⟩
  ·exact⟨_,n3,.inr ⟨_,rfl,hsd⟩⟩
 obtain⟨b,db,hb⟩:=hb;refine⟨_,rfl,rfl,_,rfl,?_⟩;refine ite2 (fun _=>⟨_,rfl,szOk rfl,fun q9 H9 g9 s9 e9=>k H9 _ _ (s.trans s9) (.tup e9 (.cons (.str _) (.cons (n1.same s9) .nil))) fun num=>.part _ hpd⟩) fun _=>?_;refine⟨_,rfl,rfl,_,rfl,?_⟩;refine ite2 (fun _=>⟨_,rfl,_,rfl,szOk rfl,fun q9 H9 g9 s9 e9=>k H9 _ _ (s.trans s9) (.tup e9 (.cons (.str _) (.cons (n2.same s9) (.cons (n1.same s9) .nil)))) fun num=>.move _ _ hnd hpd⟩) fun _=>?_;refine⟨_,rfl,rfl,_,rfl,?_⟩;refine ite2 (fun _=>⟨_,rfl,szOk rfl,fun q9 H9 g9 s9 e9=>k H9 _ _ (s.trans s9) (.tup e9 (.cons (.str _) (.cons (n2.same s9) .nil))) fun num=>.cut _ hnd⟩) fun _=>?_;refine⟨_,rfl,rfl,_,rfl,?_⟩;refine ite2 (fun _=>?_) fun _=>?_
 ·refine⟨_,rfl,_,rfl,_,rfl,_,rfl,dd,_,rfl,SqL.of hd.at',fun q5 H5 g5 s5 e5=>?_⟩
  refine⟨_,rfl,q5,p,ws,_,rfl,hp.mono s5,⟨(hd.from 2 (by decide) e5).at',by have:=(hd.from 2 (by decide) e5).len;omega,(hd.from 2 (by decide) e5).few⟩,fun H6 v6 sg s6 d6 l1 l2 hsg=>?_⟩;refine⟨szOk rfl,fun q9 H9 g9 s9 e9=>?_⟩;have t9:=(s5.trans s6).trans s9;exact k H9 _ _ (s.trans t9) (.tup e9 (.cons (.str _) (.cons (n1.same t9) (.cons (db.same t9) (.cons (d6.same s9) .nil))))) fun num=>.put _ _ _ hpd hb l1 l2 hsg
 refine⟨_,rfl,rfl,_,rfl,?_⟩;refine ite2 (fun _=>?_) fun _=>?_
 ·refine⟨_,rfl,_,rfl,_,rfl,dd,_,rfl,SqL.of hd.at',fun q5 H5 g5 s5 e5=>?_⟩
  refine⟨_,rfl,q5,p,ws,_,rfl,hp.mono s5,⟨(hd.from 1 (by decide) e5).at',by have:=(hd.from 1 (by decide) e5).len;omega,(hd.from 1 (by decide) e5).few⟩,fun H6 v6 nn s6 d6 l1 l2 hnn hnd2=>?_⟩;refine⟨szOk rfl,fun q9 H9 g9 s9 e9=>?_⟩;have t9:=(s5.trans s6).trans s9;exact k H9 _ _ (s.trans t9) (.tup e9 (.cons (.str _) (.cons (n1.same t9) (.cons (d6.same s9) .nil)))) fun num=>.out _ _ hpd l1 l2 hnn hnd2
 ·exact⟨szOk rfl,fun q9 H9 g9 s9 e9=>k H9 _ _ (s.trans s9) (.tup e9 (.cons (.str _) .nil)) fun num=>.nothing⟩
theorem ok_fCg(T:Txt K mg tk)(F:FO K mg "is_signs" s_fCg)(gfAn:O_fAn P w K mg base):O_fCg P w K mg base:=by
 refine mk_ok F sc_fCg (fun _ _ _ _ _ _ u l=>match u,l with|[_,_],_=>rfl) (fun _ _ _ _ h=>lenR h) fun fa cdv A outer s H vs Q E hr h=>?_
 refine⟨_,(xAaa (ps_if (PW.pt (pw_or (xAbk (xAbe (cb xAbq T.b_isinstance boot_isinstance (a2 (na 1) (xAbj (v:=.ty "tuple") (by rfl) T.b_tuple boot_tuple rfl))))) (xAcv (xAbk (xAei op_le op_le xAac (cb xAai T.b_len boot_len (a1 (na 1))) (xAbb (v:=.int 12) (by rfl) T.c_MOST_SIGNS ⟨_,rfl⟩)))))) (xAab (xAag pe_bl)) xAah)
   (xAab (xAag (cb (xAcx rfl) T.b_all boot_all (a1 (lcd (defScope s_fCg) N_fCg [("roll",0)] (iu (na 1)) (fun _ _ _=>xAav) (fun _ _ _=>(cl gfAn hr (a2 (nc 1) (na 0)))))))))),?_⟩
 obtain⟨p,ws,v,d,rfl,md,hw,ht,k⟩:=h;refine⟨_,"tuple",_,rfl,rfl,ht.isk (by decide) (by decide),?_⟩;have k0:=k H (Same.refl H)
 cases ht with
 |@tup a xs ds h t =>
  refine⟨_,rfl,iteF ?_⟩;refine⟨a,_,rfl,.inr (SqT.of h),_,_,rfl,rfl,_,rfl,?_⟩
  have off:¬(1≤ds.length/\ds.length≤12)->mSigns ws (.tup ds)=false:=fun h=>by
   show(decide _&&_)=_;rw[decide_eq_false h];rfl
  have hl:=t.len;refine ite2 (fun h1=>?_) fun h1=>?_
  ·have h1:(1:Int)≤(xs.length:Int):=of_decide_eq_true h1
   refine⟨_,_,rfl,rfl,_,rfl,?_⟩;refine ite2 (fun h2=>?_) fun h2=>?_
   ·have h2:¬(xs.length:Int)≤12:=by simpa using h2
    rw[←off fun e=>h2 (by omega)];exact k0
   ·have h2:(xs.length:Int)≤12:=by simpa using h2
    have hx:xs.length≤sizeLine:=qg (xAad (by omega));refine⟨a,rfl,⟨_,SqT.of h⟩,xAiy hx (fun i ys H'=>Same H H'/\ys=(ds.take i).map fun d=>V.bl (mSoR ws d)) ⟨Same.refl H,rfl⟩ (fun i ys H' q=>SqT.of (q.1 _ _ h)) (fun i x ys H' K1 K0 hx ⟨s1,hy⟩ k1 k2=>?_) fun H' q ys ⟨s1,hy⟩ _ hq=>?_⟩
    ·obtain⟨d,hd,td⟩:=t.at hx
     refine iteT (B:=K0 H') ?_;exact⟨_,_,_,d,rfl,md.same s1,hw.mono s1,td.same s1,fun H2 s2=>k1 _ _ ⟨s1.trans s2,by rw[xAkb hd,hy]⟩⟩
    ·refine⟨q,ds.map (mSoR ws),rfl,SqL.of (by rw[xAaf,hy,t.len,ww,zy];rfl),?_⟩
     have e:mSigns ws (.tup ds)=(ds.map (mSoR ws)).all id:=by
      show(decide (1≤ds.length/\ds.length≤12)&&_)=_;rw[decide_eq_true ⟨by omega,by omega⟩,wk];rfl
     rw[←e];exact k _ (s1.up hq)
  ·have h1:¬(1:Int)≤(xs.length:Int):=by simpa using h1
   refine⟨_,rfl,iteT ?_⟩;rw[←off fun e=>h1 (by omega)];exact k0
 |_=>exact⟨_,rfl,iteT (iteT k0)⟩
theorem ok_fBc(T:Txt K mg tk)(F:FO K mg "read_listed" s_fBc)(gfBy:O_fBy P w K mg base)(gfAs:O_fAs P w K mg base):O_fBc P w K mg base:=by
 refine xAcg F sc_fBc (fun _ _ _ _ _ _ u l=>match u,l with|[_,_],_=>rfl) (fun _ _ _ _ h=>xAto h) fun fa cdv A outer s H vs Q E hr h=>?_
 refine⟨_,(xAaa (ps_if (ck op_eq (na 0) xAae) (xAab (xAag (xAan (a1 (cy xAbm T.b_tuple boot_tuple (a1 (lc0X (il (na 1)) (fun _ _ _ _=>xAav) (fun _ _ _ _ hx=>(clX gfBy hx hr (a1 (na 0))))))))))) xAah)
   (xAaa (ps_if (ck op_eq (na 0) xAae) (xAab (xAag (xAan (a1 (cy xAbm T.b_tuple boot_tuple (a1 (lc0X (il (na 1)) (fun _ _ _ _=>xAav) (fun _ _ _ _ hx=>(clX gfAs hx hr (a1 (na 0))))))))))) xAah)
   (xAaa (ps_if (ck op_gt (cb xAai T.b_len boot_len (a1 (na 1))) xAac) (xAab (xAbr T.X_NoDeed T.g_NoDeed (a1 (xAsq (na 0))))) xAah)
   (xAab (xAag (xAan xAhs)))))),?_⟩
 obtain⟨k0,p,ys,rfl,md,sh,ep,hw,k,kx⟩:=h;refine⟨rfl,_,rfl,?_⟩
 by_cases h1:k0=("put":Str)
 ·refine ifT h1 ?_
  refine⟨p,rfl,⟨_,SqL.of ep⟩,xAen (xs:=ys.map V.str) (by rw[qc];exact xAdu hw.few) (fun i xs H'=>Same H H'/\∃ds,F2 RSg7 ds (ys.take i)/\DTs H' xs ds) ⟨Same.refl _,[],.nil,.nil⟩ (fun i xs H' q=>SqL.of (q.1 _ _ ep)) (fun i x xs H' K1 K0 hx ⟨s2,ds,hf,hy⟩ k1 k2=>?_) fun H2 q xs ⟨s2,ds,hf,hy⟩ _ hq=>?_⟩
  ·rw[zh]at hx
   cases hc:ys[i]? with
   |none=>rw[hc]at hx;exact nomatch hx
   |some w =>
    rw[hc]at hx;have hx:V.str w=x:=Option.some.inj hx;subst hx;have mw:=hw.shy w (qz hc);refine iteT (B:=K0 H') ?_;refine⟨w,rfl,md.same s2,mw.1,mw.2,fun d v H3 p3 s3 t3=>?_,fun no H3 s3=>kx (fun es h=>?_) _ (s2.trans s3)⟩
    ·exact k1 _ _ ⟨s2.trans s3,ds++[d],by rw[vh,hc];exact hf.snoc p3,(hy.same s3).snoc t3⟩
    ·cases h with
     |put _ h=>obtain⟨d',_,hd⟩:=h.at hc;exact no d' hd
     |out h0 _ _=>exact h0 h1
     |no h0 _=>exact h0 h1
  ·rw[qc,ww]at hf
   refine⟨q,_,rfl,SqL.of xAaf,fun l H3 hl s3 e3=>?_⟩;refine⟨qg (xAad (qp rfl)),fun q3 H4 hq3 s4 e4=>?_⟩;have sa:=(s2.up (o:=.lst xs) hq).trans s3;exact k _ q3 _ _ (.put h1 hf) (sa.nonO hq3) (sa.trans s4) e4 (.cons (.tup (s4 _ _ e3) ((hy.same (Same.new hq)).same (s3.trans s4))) .nil)
 refine ifN (decide_eq_false h1) ?_;refine⟨rfl,_,rfl,?_⟩
 by_cases h2:k0=("out":Str)
 ·refine ifT h2 ?_
  refine⟨p,rfl,⟨_,SqL.of ep⟩,xAen (xs:=ys.map V.str) (by rw[qc];exact xAdu hw.few) (fun i xs H'=>Same H H'/\∃ds,F2 RSn7 ds (ys.take i)/\DTs H' xs ds) ⟨Same.refl _,[],.nil,.nil⟩ (fun i xs H' q=>SqL.of (q.1 _ _ ep)) (fun i x xs H' K1 K0 hx ⟨s2,ds,hf,hy⟩ k1 k2=>?_) fun H2 q xs ⟨s2,ds,hf,hy⟩ _ hq=>?_⟩
  ·rw[zh]at hx
   cases hc:ys[i]? with
   |none=>rw[hc]at hx;exact nomatch hx
   |some w =>
    rw[hc]at hx;have hx:V.str w=x:=Option.some.inj hx;subst hx;have mw:=hw.shy w (qz hc);refine iteT (B:=K0 H') ?_;refine⟨w,rfl,md.same s2,mw.1,mw.2,fun d v H3 p3 s3 t3=>?_,fun no H3 s3=>kx (fun es h=>?_) _ (s2.trans s3)⟩
    ·exact k1 _ _ ⟨s2.trans s3,ds++[d],by rw[vh,hc];exact hf.snoc p3,(hy.same s3).snoc t3⟩
    ·cases h with
     |put hk _=>exact h1 hk
     |out _ _ h=>obtain⟨d',_,hd⟩:=h.at hc;exact no d' hd
     |no _ h0=>exact h0 h2
  ·rw[qc,ww]at hf
   refine⟨q,_,rfl,SqL.of xAaf,fun l H3 hl s3 e3=>?_⟩;refine⟨qg (xAad (qp rfl)),fun q3 H4 hq3 s4 e4=>?_⟩;have sa:=(s2.up (o:=.lst xs) hq).trans s3;exact k _ q3 _ _ (.out h1 h2 hf) (sa.nonO hq3) (sa.trans s4) e4 (.cons (.tup (s4 _ _ e3) ((hy.same (Same.new hq)).same (s3.trans s4))) .nil)
 refine ifN (decide_eq_false h2) ?_;refine⟨p,_,rfl,.inl (SqL.of ep),_,_,rfl,rfl,_,rfl,?_⟩
 cases ys with
 |nil =>
  refine iteF ?_;refine⟨qg (xAad (qp rfl)),fun q3 H3 hq3 s3 e3=>?_⟩;exact k _ q3 _ _ (.no h1 h2) hq3 s3 e3 .nil
 |cons y ys =>
  refine ite2 (fun _=>?_) fun hn=>absurd (decide_eq_true (by rw[qc,qy];omega)) hn
  refine⟨k0,rfl,sh,fun v=>⟨qg (xAad (qp rfl)),kx (fun es h=>?_) _ (Same.refl H)⟩⟩
  cases h with
  |put hk _=>exact h1 hk
  |out _ hk _=>exact h2 hk
theorem ok_fBt(T:Txt K mg tk)(F:FO K mg "_law_what" s_fBt)(gfBm:O_fBm P w K mg base)(gfAd:O_fAd P w K mg base)(gfAf:O_fAf P w K mg base)(gfBq:O_fBq P w K mg base):O_fBt P w K mg base:=by
 refine mk_ok F xAmy (fun _ _ _ _ _ _ u l=>match u,l with|[_,_,_],_=>rfl) (fun _ _ _ _ h=>xArk h) fun fa cdv A outer s H vs Q E hr h=>?_
 refine⟨_,(xAaa (sn xAmy.nd 3 (pe_op xAar (xl (vv 0)) xAac))
   (xAaa (sn xAmy.nd 4 (xAap xAbi (vv 0) (xAau xAac) xAbc))
   (xAaa (ps_if (ck op_lt (vv 3) xAac) (xAab (xAag (cl gfAf hr (ac (vv 3) (a2 (vv 4) (vv 1)))))) xAah)
   (xAaa (ps_if (ck op_lt (vv 3) xAac) (xAab (xAag (cl gfAd hr (ac (vv 3) (a2 (vv 4) (vv 1)))))) xAah)
   (xAaa (ps_if (ck op_eq (vv 3) xAac) (xAaa (sn xAmy.nd 5 (xa (xAan (ac xAae (ac xAae (a2 xAae xAae)))) (pe_op xAar (xl (vv 4)) xAac)))
   (xAab (xAag (xAam (ac xAae (ac (cl gfBm hr (a2 (xl (vv 4)) (vv 1))) (ac (xa (vv 1) (pe_op xAar (xl (vv 4)) (cb xAai T.b_len boot_len (a1 (vv 1))))) (a2 (vv 5) (ce op_eq (pe_op xAar (xl (vv 4)) xAac) xAac))))))))) xAah)
   (xAaa (ps_if (PW.pt (xAkv (ck op_lt (vv 3) xAac) (xAgh (ck op_gt (vv 2) xAac)))) (xAab (xAag (xAam (a2 (xa (xAan (a2 xAae xAae)) (pe_op xAih (vv 3) xAac)) (pe_op xAbh xAac (pe_op xAar (xl (vv 4)) (pe_op xAih (vv 2) xAac))))))) xAah)
   (xAaa (ps_if (PW.pt (pw_or (ck op_eq (vv 3) xAac) (xAcv (ck op_eq (vv 3) xAac)))) (xAab (xAag (xAam (a2 (xa (xAan (a2 xAae xAae)) (pe_op xAih (vv 3) xAac)) (cl gfBq hr (a1 (xl (vv 4)))))))) xAah)
   (xAaa (ps_if (ck op_eq (vv 3) xAac) (xAab (xAag (xAam (a2 xAae (cy xAbm T.b_tuple boot_tuple (a1 (lc0 (il (xAap xAbi (vv 4) xAbc (xAau (cb xAai T.b_len boot_len (a1 (vv 1)))))) (fun _ _ _=>xAav) (fun _ _ _=>(pe_op xAar (vv 0) (xa (xAan (a2 xAac (pe_op xAbh (pe_op xAhq xAac xAac) xAac))) (pe_op xAar (pe_op xAaq (vv 0) xAac) xAac))))))))))) xAah)
   (xAab (xAag (xAam (a1 xAae)))))))))))),?_⟩
 obtain⟨d0,p,ws,ns0,num,rfl,hp,hd0,k⟩:=h;obtain⟨b0,g0⟩:=hd0.get 0 (by decide);refine⟨_,rfl,d0,_,0,.int b0,rfl,rfl,SqL.of hd0.at',g0,_,_,rfl,rfl,(by show(0:Int)<17;decide),?_⟩;refine⟨_,rfl,_,rfl,d0,_,rfl,SqL.of hd0.at',fun dd H1 g1 s e1=>?_⟩;replace hp:=hp.mono s;have hd:=hd0.from 1 (by decide) e1;have hd6:DR H1 dd (ns0.drop 1) 6:=⟨hd.at',by have:=hd.len;omega,hd.few⟩;obtain⟨a0,h0⟩:=hd.get 0 (by decide);obtain⟨a1,h1⟩:=hd.get 1 (by decide);obtain⟨a2,h2⟩:=hd.get 2 (by decide);obtain⟨a3,h3⟩:=hd.get 3 (by decide);refine⟨_,rfl,_,_,rfl,rfl,_,rfl,?_⟩;refine ite2 (fun _=>?_) fun c1=>?_
 ·exact⟨_,rfl,_,rfl,_,rfl,_,dd,p,ws,_,rfl,hp,hd6,fun H9 v9 w9 s9 d9 h9=>k H9 _ _ (s.trans s9) d9 (h9 _)⟩
 refine⟨_,rfl,_,_,rfl,rfl,_,rfl,?_⟩;refine ite2 (fun _=>?_) fun c2=>?_
 ·exact⟨_,rfl,_,rfl,_,rfl,_,dd,p,ws,_,rfl,hp,hd6,fun H9 v9 w9 s9 d9 h9=>k H9 _ _ (s.trans s9) d9 (h9 _)⟩
 refine⟨_,rfl,rfl,_,rfl,?_⟩;refine ite2 (fun _=>?_) fun c3=>?_
 ·refine⟨szOk rfl,fun q2 H2 g2 s2 e2=>?_⟩
  replace hp:=hp.mono s2;replace hd:=hd.mono s2;replace s:=s.trans s2;refine⟨_,rfl,dd,_,2,.int a2,rfl,rfl,SqL.of hd.at',h2,_,_,rfl,rfl,(by show(0:Int)<4;decide),q2,_,_,rfl,rfl,SqL.of e2,xAbf _ (by decide),xAbg _ (by decide),fun v hv=>?_⟩
  obtain⟨z,rfl,hz⟩:∃z:Str,v=.str z/\z∈(["read","note","write","give"]:List Str):=by
   obtain⟨z,hz,rfl⟩:=qu.mp (show v∈(["read","note","write","give"]:List Str).map V.str from hv);exact⟨z,rfl,hz⟩
  refine⟨_,rfl,dd,_,0,.int a0,rfl,rfl,SqL.of hd.at',h0,_,rfl,_,p,ws,rfl,hp,fun H3 v3 d3 s3 n3 t3=>?_⟩;obtain⟨pd,rfl,hpd⟩:=t3;replace hp:=hp.mono s3;replace hd:=hd.mono s3;replace s:=s.trans s3;refine⟨_,rfl,_,rfl,dd,_,1,.int a1,rfl,rfl,SqL.of hd.at',h1,_,rfl,p,_,rfl,.inl (SqL.of hp.at'),_,_,rfl,rfl,hp.len.1,p,_,_,rfl,rfl,SqL.of hp.at',xAbf _ hp.len.1,xAbg _ hp.len.1,fun v2 hv2=>?_⟩;obtain⟨w,hw,rfl⟩:=qu.mp hv2;exact⟨_,rfl,_,rfl,dd,_,3,.int a3,rfl,rfl,SqL.of hd.at',h3,_,_,rfl,rfl,(by show(0:Int)<2;decide),rfl,szOk rfl,fun q9 H9 g9 s9 e9=>k H9 _ _ (s.trans s9) (.tup e9 (.cons (.str _) (.cons (n3.same s9) (.cons (.str w) (.cons (.str z) (.cons (.bl _) .nil)))))) (.leave _ _ _ _ hpd hw hz)⟩
 have hk:(0:Int)≤b0 % 17/\b0 % 17<17:=⟨xAbf _ (by decide),xAbg _ (by decide)⟩;have c2:¬b0 % 17<11:=fun z=>c2 (decide_eq_true z)
 have c3:¬b0 % 17=11:=fun z=>c3 (by rw[decide_eq_true_eq];exact congrArg V.int z)
 refine⟨_,rfl,_,_,rfl,rfl,_,rfl,?_⟩;refine ite2 (fun c4=>?_) fun c4=>iteF ?_
 ·have c4:b0 % 17<14:=of_decide_eq_true c4
  refine⟨_,rfl,_,_,rfl,rfl,_,rfl,?_⟩;refine ite2 (fun c5=>?_) fun c5=>?_
  ·have c5:1<num:=of_decide_eq_true c5
   refine⟨szOk rfl,fun q2 H2 g2 s2 e2=>?_⟩;replace hp:=hp.mono s2;replace hd:=hd.mono s2;replace s:=s.trans s2;refine⟨_,rfl,_,_,rfl,rfl,q2,_,_,rfl,rfl,SqL.of e2,(by show 0≤b0 % 17 - 12;omega),(by show b0 % 17 - 12<2;omega),fun v hv=>?_⟩
   obtain⟨kk,rfl,hkk⟩:∃z:Str,v=.str z/\(z = "back" \/ z = "again"):=by
    simp only[List.mem_cons,List.not_mem_nil,or_false]at hv
    rcases hv with rfl|rfl
    ·exact⟨_,rfl,.inl rfl⟩
    ·exact⟨_,rfl,.inr rfl⟩
   have lo:=xAbf a0 (m:=num - 1) (by omega);have hi:=xAbg a0 (m:=num - 1) (by omega);exact⟨_,rfl,dd,_,0,.int a0,rfl,rfl,SqL.of hd.at',h0,_,rfl,_,_,rfl,rfl,_,_,rfl,rfl,(by show 0<num - 1;omega),_,_,rfl,rfl,szOk rfl,fun q9 H9 g9 s9 e9=>k H9 _ _ (s.trans s9) (.tup e9 (.cons (.str _) (.cons (.int _) .nil))) (.back _ _ hkk (by show 1≤1+a0 % (num - 1);omega) (by show 1+a0 % (num - 1)<num;omega))⟩
  ·refine⟨_,rfl,rfl,_,rfl,?_⟩
   refine ite2 (fun c6=>?_) fun c6=>?_
   ·have c6:b0 % 17=14:=V.int.inj (of_decide_eq_true c6)
    refine iteT ?_;refine⟨szOk rfl,fun q2 H2 g2 s2 e2=>?_⟩;replace hp:=hp.mono s2;replace hd:=hd.mono s2;replace s:=s.trans s2;refine⟨_,rfl,_,_,rfl,rfl,q2,_,_,rfl,rfl,SqL.of e2,(by show 0≤b0 % 17 - 14;omega),(by show b0 % 17 - 14<2;omega),fun v hv=>?_⟩
    obtain⟨kk,rfl,hkk⟩:∃z:Str,v=.str z/\(z = "bring" \/ z = "drop"):=by
     simp only[List.mem_cons,List.not_mem_nil,or_false]at hv
     rcases hv with rfl|rfl
     ·exact⟨_,rfl,.inl rfl⟩
     ·exact⟨_,rfl,.inr rfl⟩
    exact⟨_,rfl,dd,_,0,.int a0,rfl,rfl,SqL.of hd.at',h0,_,rfl,fun z hz=>⟨szOk rfl,fun q9 H9 g9 s9 e9=>k H9 _ _ (s.trans s9) (.tup e9 (.cons (.str _) (.cons (.str z) .nil))) (.bring _ _ hkk hz)⟩⟩
   ·refine⟨_,rfl,rfl,_,rfl,?_⟩
    refine ite2 (fun c7=>?_) fun c7=>?_
    ·have c7:b0 % 17=15:=V.int.inj (of_decide_eq_true c7)
     refine⟨szOk rfl,fun q2 H2 g2 s2 e2=>?_⟩;replace hp:=hp.mono s2;replace hd:=hd.mono s2;replace s:=s.trans s2;refine⟨_,rfl,_,_,rfl,rfl,q2,_,_,rfl,rfl,SqL.of e2,(by show 0≤b0 % 17 - 14;omega),(by show b0 % 17 - 14<2;omega),fun v hv=>?_⟩
     obtain⟨kk,rfl,hkk⟩:∃z:Str,v=.str z/\(z = "bring" \/ z = "drop"):=by
      simp only[List.mem_cons,List.not_mem_nil,or_false]at hv
      rcases hv with rfl|rfl
      ·exact⟨_,rfl,.inl rfl⟩
      ·exact⟨_,rfl,.inr rfl⟩
     exact⟨_,rfl,dd,_,0,.int a0,rfl,rfl,SqL.of hd.at',h0,_,rfl,fun z hz=>⟨szOk rfl,fun q9 H9 g9 s9 e9=>k H9 _ _ (s.trans s9) (.tup e9 (.cons (.str _) (.cons (.str z) .nil))) (.bring _ _ hkk hz)⟩⟩
    ·refine⟨_,rfl,rfl,_,rfl,?_⟩
     refine ite2 (fun _=>?_) fun _=>?_
     ·refine⟨_,rfl,_,rfl,p,_,rfl,.inl (SqL.of hp.at'),_,rfl,dd,_,rfl,SqL.of hd.at',fun q3 H3 g3 s3 e3=>?_⟩
      have hcut:(cutV (List.map V.int (ns0.drop 1)) none (some ((ws.map V.str).length:Int))).length=ws.length:=by
       rw[xAgw (by have:=hd.len;have:=hp.few;rw[qc,qc];omega),qc]
      have h6:=hp.few;refine⟨q3,rfl,⟨_,SqL.of e3⟩,xAen (qg (xAad (by omega))) (fun j ys H'=>Same H3 H'/\∃cs:List Int,ys=cs.map V.int/\cs.length=j/\∀c∈cs,0≤c/\c≤1000000) ⟨Same.refl _,[],rfl,rfl,fun _ z=>nomatch z⟩ (fun _ _ H' s'=>SqL.of (s'.1 _ _ e3)) (fun j x ys H' K1 K0 hx s' k1 k0=>?_) fun H' q ys s' hy hq=>?_⟩
      ·obtain⟨m,rfl⟩:=xAfc (qz hx)
       obtain⟨s',cs,rfl,hcl,hcs⟩:=s';refine iteT (B:=K0 H') ?_;refine⟨_,rfl,_,_,rfl,rfl,⟨by decide,by decide,by decide⟩,_,_,rfl,rfl,szOk rfl,fun q4 H4 g4 s4 e4=>?_⟩;refine⟨_,rfl,_,_,rfl,rfl,⟨by decide,by decide⟩,_,_,rfl,rfl,(by show(0:Int)<2;decide),q4,_,_,rfl,rfl,SqL.of e4,xAbf _ (by decide),xAbg _ (by decide),fun m2 hm2=>?_⟩
       obtain⟨n,rfl,hn,hn2⟩:∃n,m2=V.int n/\0<n/\n≤1000001:=by
        simp only[List.mem_cons,List.not_mem_nil,or_false]at hm2
        rcases hm2 with rfl|rfl
        ·exact⟨9,rfl,by decide,by decide⟩
        ·exact⟨_,rfl,by decide,by decide⟩
       refine⟨_,_,rfl,rfl,hn,k1 _ H4 ⟨s'.trans s4,cs++[m % n],by rw[zo];rfl,by rw[ql,zm,hcl],fun c hc=>?_⟩⟩;rcases q0.mp hc with hc|hc
       ·exact hcs c hc
       ·rw[zd.mp hc]
        exact⟨xAbf _ hn,by have:=xAbg m hn;omega⟩
      ·obtain⟨s',cs,rfl,hcl,hcs⟩:=s'
       exact⟨q,_,rfl,SqL.of xAaf,fun l H5 g5 s5 e5=>⟨szOk rfl,fun q9 H9 g9 s9 e9=>k H9 _ _ ((s.trans (((s3.trans s').up hq).trans s5)).trans s9) (.tup e9 (.cons (.str _) (.cons (.tup (s9 _ _ e5) (L2.dts_ints _ cs)) .nil))) (.pour cs (by omega) hcs)⟩⟩
     ·exact⟨szOk rfl,fun q9 H9 g9 s9 e9=>k H9 _ _ (s.trans s9) (.tup e9 (.cons (.str _) .nil)) .nothing⟩
 ·refine⟨_,rfl,rfl,_,rfl,?_⟩
  refine ite2 (fun c6=>?_) fun c6=>?_
  ·have c6:b0 % 17=14:=V.int.inj (of_decide_eq_true c6)
   refine iteT ?_;refine⟨szOk rfl,fun q2 H2 g2 s2 e2=>?_⟩;replace hp:=hp.mono s2;replace hd:=hd.mono s2;replace s:=s.trans s2;refine⟨_,rfl,_,_,rfl,rfl,q2,_,_,rfl,rfl,SqL.of e2,(by show 0≤b0 % 17 - 14;omega),(by show b0 % 17 - 14<2;omega),fun v hv=>?_⟩
   obtain⟨kk,rfl,hkk⟩:∃z:Str,v=.str z/\(z = "bring" \/ z = "drop"):=by
    simp only[List.mem_cons,List.not_mem_nil,or_false]at hv
    rcases hv with rfl|rfl
    ·exact⟨_,rfl,.inl rfl⟩
    ·exact⟨_,rfl,.inr rfl⟩
   exact⟨_,rfl,dd,_,0,.int a0,rfl,rfl,SqL.of hd.at',h0,_,rfl,fun z hz=>⟨szOk rfl,fun q9 H9 g9 s9 e9=>k H9 _ _ (s.trans s9) (.tup e9 (.cons (.str _) (.cons (.str z) .nil))) (.bring _ _ hkk hz)⟩⟩
  ·refine⟨_,rfl,rfl,_,rfl,?_⟩
   refine ite2 (fun c7=>?_) fun c7=>?_
   ·have c7:b0 % 17=15:=V.int.inj (of_decide_eq_true c7)
    refine⟨szOk rfl,fun q2 H2 g2 s2 e2=>?_⟩;replace hp:=hp.mono s2;replace hd:=hd.mono s2;replace s:=s.trans s2;refine⟨_,rfl,_,_,rfl,rfl,q2,_,_,rfl,rfl,SqL.of e2,(by show 0≤b0 % 17 - 14;omega),(by show b0 % 17 - 14<2;omega),fun v hv=>?_⟩
    obtain⟨kk,rfl,hkk⟩:∃z:Str,v=.str z/\(z = "bring" \/ z = "drop"):=by
     simp only[List.mem_cons,List.not_mem_nil,or_false]at hv
     rcases hv with rfl|rfl
     ·exact⟨_,rfl,.inl rfl⟩
     ·exact⟨_,rfl,.inr rfl⟩
    exact⟨_,rfl,dd,_,0,.int a0,rfl,rfl,SqL.of hd.at',h0,_,rfl,fun z hz=>⟨szOk rfl,fun q9 H9 g9 s9 e9=>k H9 _ _ (s.trans s9) (.tup e9 (.cons (.str _) (.cons (.str z) .nil))) (.bring _ _ hkk hz)⟩⟩
   ·refine⟨_,rfl,rfl,_,rfl,?_⟩
    refine ite2 (fun _=>?_) fun _=>?_
    ·refine⟨_,rfl,_,rfl,p,_,rfl,.inl (SqL.of hp.at'),_,rfl,dd,_,rfl,SqL.of hd.at',fun q3 H3 g3 s3 e3=>?_⟩
     have hcut:(cutV (List.map V.int (ns0.drop 1)) none (some ((ws.map V.str).length:Int))).length=ws.length:=by
      rw[xAgw (by have:=hd.len;have:=hp.few;rw[qc,qc];omega),qc]
     have h6:=hp.few;refine⟨q3,rfl,⟨_,SqL.of e3⟩,xAen (qg (xAad (by omega))) (fun j ys H'=>Same H3 H'/\∃cs:List Int,ys=cs.map V.int/\cs.length=j/\∀c∈cs,0≤c/\c≤1000000) ⟨Same.refl _,[],rfl,rfl,fun _ z=>nomatch z⟩ (fun _ _ H' s'=>SqL.of (s'.1 _ _ e3)) (fun j x ys H' K1 K0 hx s' k1 k0=>?_) fun H' q ys s' hy hq=>?_⟩
     ·obtain⟨m,rfl⟩:=xAfc (qz hx)
      obtain⟨s',cs,rfl,hcl,hcs⟩:=s';refine iteT (B:=K0 H') ?_;refine⟨_,rfl,_,_,rfl,rfl,⟨by decide,by decide,by decide⟩,_,_,rfl,rfl,szOk rfl,fun q4 H4 g4 s4 e4=>?_⟩;refine⟨_,rfl,_,_,rfl,rfl,⟨by decide,by decide⟩,_,_,rfl,rfl,(by show(0:Int)<2;decide),q4,_,_,rfl,rfl,SqL.of e4,xAbf _ (by decide),xAbg _ (by decide),fun m2 hm2=>?_⟩
      obtain⟨n,rfl,hn,hn2⟩:∃n,m2=V.int n/\0<n/\n≤1000001:=by
       simp only[List.mem_cons,List.not_mem_nil,or_false]at hm2
       rcases hm2 with rfl|rfl
       ·exact⟨9,rfl,by decide,by decide⟩
       ·exact⟨_,rfl,by decide,by decide⟩
      refine⟨_,_,rfl,rfl,hn,k1 _ H4 ⟨s'.trans s4,cs++[m % n],by rw[zo];rfl,by rw[ql,zm,hcl],fun c hc=>?_⟩⟩;rcases q0.mp hc with hc|hc
      ·exact hcs c hc
      ·rw[zd.mp hc]
       exact⟨xAbf _ hn,by have:=xAbg m hn;omega⟩
     ·obtain⟨s',cs,rfl,hcl,hcs⟩:=s'
      exact⟨q,_,rfl,SqL.of xAaf,fun l H5 g5 s5 e5=>⟨szOk rfl,fun q9 H9 g9 s9 e9=>k H9 _ _ ((s.trans (((s3.trans s').up hq).trans s5)).trans s9) (.tup e9 (.cons (.str _) (.cons (.tup (s9 _ _ e5) (L2.dts_ints _ cs)) .nil))) (.pour cs (by omega) hcs)⟩⟩
    ·exact⟨szOk rfl,fun q9 H9 g9 s9 e9=>k H9 _ _ (s.trans s9) (.tup e9 (.cons (.str _) .nil)) .nothing⟩
theorem ok_fCj(T:Txt K mg tk)(F:FO K mg "is_what" s_fCj)(D_FORMS:KDi P w K c_FORMS kv_FORMS)(hF:∀f sp,Fs_is_what f sp->∃k fd ps,k≤6/\FnOk P w K mg base CX0 k f fd ps sp/\PySem.W.keepIn K (.ref f)=true/\Binds K fd ps []):O_fCj P w K mg base:=by
 refine mk_ok F xAud (fun _ _ _ _ _ _ u l=>match u,l with|[_,_,_],_=>rfl) (fun _ _ _ _ h=>xAtj h) fun fa cdv A outer s H vs Q E hr h=>?_
 refine⟨_,(xAaa (ps_if (PW.pt (pw_or (xAbk (xAbe (cb xAbq T.b_isinstance boot_isinstance (a2 (na 2) (xAbj (v:=.ty "tuple") (by rfl) T.b_tuple boot_tuple rfl))))) (xAcv (ck op_eq (cb xAai T.b_len boot_len (a1 (na 2))) xAac)))) (xAab (xAag pe_bl)) xAah)
   (xAaa (ps_if (PW.pt (pw_or (xAbk (xAbe (cb xAbq T.b_isinstance boot_isinstance (a2 (xt (na 2)) (xAbj (v:=.ty "str") (by rfl) T.b_str boot_str rfl))))) (xAcv (ck (nif D_FORMS) (xt (na 2)) (xAbb (v:=.ref c_FORMS) rfl T.c_FORMS rfl))))) (xAab (xAag pe_bl)) xAah)
   (xAaa (sn xAud.nd 3 (fg D_FORMS T.c_FORMS (xt (na 2))))
   (xAaa (ps_if (ck op_ne (cb xAai T.b_len boot_len (a1 (na 2))) (pe_op xAbh (cb xAai T.b_len boot_len (a1 (na 3))) xAac)) (xAab (xAag pe_bl)) xAah)
   (xAaa (ps_if (xAbk (xAbe (cb (xAcx rfl) T.b_all boot_all (a1 (xAfs (own:=["form","part"]) (fr:=[("roll",0)]) rfl (xAoz (by rfl) T.b_zip (a2 (na 3) (xAap xAht (na 2) (xAau xAac) xAbc))) ⟨rfl,by decide +kernel,by decide +kernel⟩ (xAiw (defScope s_fCj) ["roll","number","thing","forms"] rfl rfl (fun _ h=>xAek h) (by decide +kernel) (by decide +kernel) (by decide +kernel)) (fun _ _ _=>(xAoi (n:=2) rfl (xAaz (xAce (i:=0) (by show List.Nodup (["form","part","roll"]:List Str);decide +kernel) rfl (Or.inl rfl)) (xAaz (xAce (i:=1) (by show List.Nodup (["form","part","roll"]:List Str);decide +kernel) rfl (Or.inl rfl)) xAea)))) (fun _=>xAex rfl rfl (by decide)) (fun _ _ _=>xAav) (fun _ _ _=>(cv hF hr (na 0) (a2 (nc 2) (na 1))))))))) (xAab (xAag pe_bl)) xAah)
   (xAab (xAag (pe_or (ce nsq (xt (na 2)) (xAam (a2 xAae xAae))) (xAbl (ce op_lt (xt (na 2)) (na 1))))))))))),?_⟩
 obtain⟨p,ws,n,v,d,rfl,md,hw,ht,k⟩:=h;refine⟨_,"tuple",_,rfl,rfl,ht.isk (by decide) (by decide),?_⟩;have k0:=k H (Same.refl H)
 cases ht with
 |@tup a xs ds h t =>
  refine⟨_,rfl,iteF ?_⟩;refine⟨a,_,rfl,.inr (SqT.of h),rfl,_,rfl,?_⟩
  cases t with
  |nil=>exact iteT k0
  |@cons x xs d0 ds tx t =>
   refine ite2 (fun h1=>absurd (V.int.inj (of_decide_eq_true h1)) (fun e=>by have e:((xs.length+1:Nat):Int)=0:=e;omega)) fun _=>?_;refine⟨_,_,_,x,rfl,rfl,SqT.of h,at_hd,?_⟩;refine⟨_,"str",_,rfl,rfl,tx.isk (by decide) (by decide),?_⟩
   cases tx with
   |@str z ty =>
    refine⟨_,rfl,iteF ?_⟩;refine⟨_,_,_,.str z,rfl,rfl,SqT.of h,at_hd,?_⟩;refine⟨z,rfl,rfl,_,rfl,?_⟩;have hf:=md.fms z
    cases ef:fV kv_FORMS z with
    |none =>
     rw[ef]at hf
     have e:mWhat ws n (.tup (.str z::ds))=false:=by
      show(match fmsOf z with|some fs=>_|none=>false)=false;rw[hf]
     refine iteT ?_;rw[←e];exact k0
    |some fa =>
     rw[ef]at hf;obtain⟨fs,hf1,hf2⟩:=hf;refine iteF ?_;refine⟨_,_,_,.str z,rfl,rfl,SqT.of h,at_hd,?_⟩;refine⟨z,fa,rfl,ef,?_⟩
     have hm:mWhat ws n (.tup (.str z::ds))=(decide (ds.length=fs.length)&&(all2 ws fs ds&&(!decide (z∈(["back","again"]:List Str))||lessTh n ds))):=by
      show(match fmsOf z with|some fs=>_|none=>false)=_;rw[hf1]
     refine⟨a,_,rfl,.inr (SqT.of h),fa,_,rfl,.inr (SqT.of hf2),_,_,rfl,rfl,rfl,_,rfl,?_⟩;have hl:=t.len;refine ite2 (fun h1=>?_) fun h1=>?_
     ·have h1:¬ds.length=fs.length:=fun e=>by simp[hl,e]at h1
      rw[decide_eq_false h1,wf]at hm;rw[←hm];exact k0
     ·have h1:ds.length=fs.length:=by simp[hl]at h1;omega
      rw[decide_eq_true h1,zt]at hm;refine⟨_,rfl,a,_,rfl,SqT.of h,xAml,fun q hq=>?_⟩;rw[cut1];have s1:Same H (upd H q (.tup xs)):=(Same.refl H).up hq;refine⟨fa,q,rfl,⟨_,SqT.of (s1 _ _ hf2)⟩,⟨_,SqT.of (xAaf ..)⟩,xAnv (xs:=fs.map fun f=>.ref (fAd f)) (ys:=xs) (fun i zs H'=>Same (upd H q (.tup xs)) H'/\zs=((List.zipWith (fmM ws) fs ds).take i).map V.bl) ⟨Same.refl _,rfl⟩ (fun i zs H' ⟨s,_⟩=>⟨SqT.of (s _ _ (s1 _ _ hf2)),SqT.of (s _ _ (xAaf ..))⟩) (by rw[qc];exact qg (xAad (qf (xAsg hf1) (by decide)))) ?_ ?_⟩
      ·rintro i x y zs H' p2 K1 K0 hx hy ⟨s,rfl⟩ hp k1 k2
       obtain⟨f,hf3,rfl⟩:∃f,fs[i]?=some f/\x=.ref (fAd f):=by
        rw[zh]at hx
        cases e:fs[i]? with
        |none=>rw[e]at hx;exact nomatch hx
        |some f=>rw[e]at hx;exact⟨f,rfl,(Option.some.inj hx).symm⟩
       obtain⟨d,hd,td⟩:=t.at hy;have s3:=(s1.trans s).trans (Same.new (o:=.tup [.ref (fAd f),y]) hp);refine⟨p2,_,rfl,SqT.of xAaf,rfl,_,_,rfl,_,_,rfl,rfl,?_⟩;refine iteT ?_;refine⟨_,_,rfl,⟨f,rfl,rfl⟩,?_⟩;exact⟨_,_,_,d,rfl,md.same s3,hw.mono s3,td.same s3,fun H2 s4=>k1 _ _ ⟨(s.trans (Same.new hp)).trans s4,by rw[xAph hf3 hd,zo];rfl⟩⟩
      ·rintro H' p2 zs ⟨s,rfl⟩ _ hp
       have s4:Same H _:=(s1.trans s).up (o:=.lst (((List.zipWith (fmM ws) fs ds).take (min (fs.map fun f=>V.ref (fAd f)).length xs.length)).map V.bl)) hp;refine⟨p2,_,rfl,SqL.of xAaf,?_⟩
       have ea:((List.zipWith (fmM ws) fs ds).take (min (fs.map fun f=>V.ref (fAd f)).length xs.length)).all id=all2 ws fs ds:=by
        rw[xAka,wu (by rw[List.length_zipWith,qc];omega)]
       rw[ea];refine⟨_,rfl,?_⟩;refine ite2 (fun h2=>?_) fun h2=>?_
       ·have h2:all2 ws fs ds=false:=by simpa using h2
        rw[h2,wf]at hm;rw[←hm];exact k _ s4
       ·have h2:all2 ws fs ds=true:=by simpa using h2
        rw[h2,zt]at hm;refine⟨_,_,_,.str z,rfl,rfl,SqT.of (s4 _ _ h),at_hd,by decide,fun q3 H5 hq3 s5 e5=>?_⟩;have s6:=s4.trans s5;refine⟨q3,_,rfl,.inr (SqT.of e5),rfl,rfl,_,rfl,?_⟩;have ein:inV (.str z) [.str "back",.str "again"]=decide (z∈(["back","again"]:List Str)):=xAdo z ["back","again"];rw[ein];refine ite2 (fun h3=>?_) fun h3=>?_
        ·have h3:decide (z∈(["back","again"]:List Str))=false:=by simpa using h3
         rw[h3]at hm;have hm:mWhat ws n (.tup (.str z::ds))=true:=hm;rw[←hm];exact k _ s6
        ·have h3:decide (z∈(["back","again"]:List Str))=true:=by
          cases e:decide (z∈(["back","again"]:List Str)) with
          |true=>rfl
          |false=>exact absurd (by rw[e];rfl) h3
         rw[h3]at hm;have hm:mWhat ws n (.tup (.str z::ds))=lessTh n ds:=hm;have hfs:=xAsh hf1 (of_decide_eq_true h3);subst hfs
         cases t with
         |nil=>exact absurd h1 (by simp)
         |cons t1 t2 =>
          cases t1 with
          |int i =>
           refine⟨_,_,_,.int i,rfl,rfl,SqT.of (s6 _ _ h),xAak (j:=1) rfl,_,_,rfl,rfl,?_⟩;have hm:mWhat ws n _=decide (i<n):=hm;rw[←hm];exact k _ s6
          |_=>exact Bool.noConfusion h2
   |_=>exact⟨_,rfl,iteT (iteT k0)⟩
 |_=>exact⟨_,rfl,iteT (iteT k0)⟩
theorem ok_fBo(T:Txt K mg tk)(F:FO K mg "read_what" s_fBo)(gfBc:O_fBc P w K mg base)(D_READERS:KDi P w K c_READERS kv_READERS)(hF:∀f sp,Fs_read_what f sp->∃k fd ps,k≤6/\FnOk P w K mg base (CXd P w) k f fd ps sp/\PySem.W.keepIn K (.ref f)=true/\Binds K fd ps []):O_fBo P w K mg base:=by
 refine xAcg F xApw (fun _ _ _ _ _ _ u l=>match u,l with|[_],_=>rfl) (fun _ _ _ _ h=>xAtp h) fun fa cdv A outer s H vs Q E hr h=>?_
 refine⟨_,(xAaa (ps_if (PW.pt (pw_or (ck op_eq (cb xAai T.b_len boot_len (a1 (na 0))) xAac) (xAcv (ck (nif D_READERS) (xl (na 0)) (xAbb (v:=.ref c_READERS) rfl T.c_READERS rfl))))) (xAab (xAbr T.X_NoDeed T.g_NoDeed (a1 xAae))) xAah)
   (xAaa (sn xApw.nd 1 (fg D_READERS T.c_READERS (xl (na 0))))
   (xAaa (xApn (i:=2) xApw.nd rfl (Or.inl rfl) (own:=["read","word"]) (fr:=[]) (xApk (by rfl) T.b_zip (a2 (na 1) (xAap xAbi (na 0) (xAau xAac) xAbc))) ⟨rfl,by decide +kernel,by decide +kernel⟩ (caps0 (by decide +kernel)) (fun _ _ _ _=>(xAoi (n:=2) rfl (xAaz (xAce (i:=0) (by show List.Nodup (["read","word"]:List Str);decide +kernel) rfl (Or.inl rfl)) (xAaz (xAce (i:=1) (by show List.Nodup (["read","word"]:List Str);decide +kernel) rfl (Or.inl rfl)) xAea)))) (fun _=>xAex rfl rfl (by decide)) (fun _ _ _ _=>xAav) (fun _ _ _ _ hx=>(cvX hF hx hr (na 0) (a1 (na 1)))))
   (xAab (xAag (cy xAbm T.b_tuple boot_tuple (a1 (pe_op xAbz (pe_op xAbz (xAan (a1 (xl (na 0)))) (na 2)) (clX gfBc passD hr (a2 (xl (na 0)) (xAap xAbi (na 0) (xAau (pe_op xAbh (cb xAai T.b_len boot_len (a1 (na 1))) xAac)) xAbc))))))))))),?_⟩
 obtain⟨p,zs,rfl,md,ep,hw,k,kx⟩:=h;have c1:∀v:V,[v].length≤sizeLine:=fun v=>qg (xAad (qp rfl))
 cases zs with
 |nil =>
  refine⟨p,_,rfl,.inl (SqL.of ep),rfl,_,rfl,?_⟩;refine iteT ?_;exact⟨c1 _,kx (fun ds h=>nomatch h) _ (Same.refl H)⟩
 |cons k0 rest =>
  have ep':H p=some (.lst (.str k0::rest.map V.str)):=ep;have hm:=md.rds k0;refine⟨p,_,rfl,.inl (SqL.of ep'),rfl,_,rfl,?_⟩;refine ite2 (fun h0=>absurd (V.int.inj (of_decide_eq_true h0)) (fun e=>by have e:(((rest.map V.str).length+1:Nat):Int)=0:=e;omega)) fun _=>?_;refine⟨_,_,_,.str k0,rfl,rfl,SqL.of ep',at_hd,k0,rfl,rfl,_,rfl,?_⟩
  cases ef:fV kv_READERS k0 with
  |none =>
   rw[ef]at hm;refine iteT ?_;refine⟨c1 _,kx (fun ds h=>?_) _ (Same.refl H)⟩
   cases h with
   |mk h1 _ _=>rw[hm]at h1;exact nomatch h1
  |some fa =>
   rw[ef]at hm;obtain⟨rs,er,hfa⟩:=hm;have h5':=xAsl er;refine iteF ?_;refine⟨_,_,_,.str k0,rfl,rfl,SqL.of ep',at_hd,k0,fa,rfl,ef,?_⟩;refine⟨_,rfl,p,_,rfl,SqL.of ep',fun q H1 hq s1 e1=>?_⟩;rw[cut1]at e1;refine⟨fa,q,rfl,⟨_,SqT.of (s1 _ _ hfa)⟩,⟨_,SqL.of e1⟩,xAnv (t1:=true) (t2:=false) (xs:=rs.map fun r=>.ref (rAd r)) (ys:=rest.map V.str) (fun i vs H'=>Same H1 H'/\∃ds,ds.length=i/\(∀(j:Nat) (r:Rm) (z:Str),j<i->rs[j]?=some r->rest[j]?=some z->∃d,ds[j]?=some d/\rd7 r d z)/\DTs H' vs ds) ⟨Same.refl _,[],rfl,fun _ _ _ h=>absurd h (yn _),.nil⟩ (fun i vs H' ⟨s,_⟩=>⟨SqT.of (s _ _ (s1 _ _ hfa)),SqL.of (s _ _ e1)⟩) (by rw[qc];exact qg (xAad (by omega))) ?_ ?_⟩
   ·rintro i x y vs H' p2 K1 K0 hx hy ⟨s2,ds,hl,hd,ht⟩ hp k1 k2
    obtain⟨r,hr,rfl⟩:∃r,rs[i]?=some r/\x=.ref (rAd r):=by
     rw[zh]at hx
     cases e:rs[i]? with
     |none=>rw[e]at hx;exact nomatch hx
     |some f=>rw[e]at hx;exact⟨f,rfl,(Option.some.inj hx).symm⟩
    obtain⟨z,hz,rfl⟩:∃z,rest[i]?=some z/\y=.str z:=by
     rw[zh]at hy
     cases e:rest[i]? with
     |none=>rw[e]at hy;exact nomatch hy
     |some f=>rw[e]at hy;exact⟨f,rfl,(Option.some.inj hy).symm⟩
    have s3:=(s1.trans s2).trans (Same.new (o:=.tup [.ref (rAd r),.str z]) hp);have mw:=hw.shy z (qk _ (qz hz));refine⟨p2,_,rfl,SqT.of xAaf,rfl,_,_,rfl,_,_,rfl,rfl,?_⟩;refine iteT ?_;refine⟨_,_,rfl,⟨r,rfl,rfl⟩,?_⟩;refine⟨z,rfl,md.same s3,mw.1,mw.2,fun d v H2 p4 s4 d4=>k1 _ _ ⟨(s2.trans (Same.new hp)).trans s4,ds++[d],by rw[ql,hl];rfl,fun j r' z' hj h1 h2=>?_,(ht.same ((Same.new hp).trans s4)).snoc d4⟩,fun no H2 s4=>kx (fun ds' h=>?_) _ (s3.trans s4)⟩
    ·by_cases e:j<i
     ·obtain⟨d',e1,e2⟩:=hd j r' z' e h1 h2
      exact⟨d',by rw[yh (by omega)];exact e1,e2⟩
     ·have e:j=i:=by omega
      subst e;rw[hr]at h1;cases h1;rw[hz]at h2;cases h2;exact⟨d,by rw[←hl,List.getElem?_concat_length],p4⟩
    ·cases h with
     |mk h1 h2 h3 =>
      rw[er]at h1;cases h1;obtain⟨d,_,hd⟩:=h2.2 i r z hr hz;exact no d hd
   ·rintro H2 qT vs ⟨s2,ds,hl,hd,ht⟩ _ hT
    rw[qc,qc]at hl hd;have hvl:=xAdc ht;have hf:F3z rs ds rest:=⟨hl,fun j r z h1 h2=>hd j r z (by have:=(zf.mp h1).1;have:=(zf.mp h2).1;omega) h1 h2⟩;have z2:=s1.trans (s2.up (o:=.lst vs) hT);have ht:=ht.same (Same.new (o:=.lst vs) hT);have eT:upd H2 qT (.lst vs) qT=some (.lst vs):=xAaf;refine⟨_,_,_,.str k0,rfl,rfl,SqL.of (z2 _ _ ep'),at_hd,c1 _,fun q3 H3 g3 s3 e3=>?_⟩;refine⟨q3,qT,_,_,rfl,rfl,e3,s3 _ _ eT,qg (xAad (by show 1+_≤_;omega)),fun q4 H4 g4 s4 e4=>?_⟩;have z4:=z2.trans (s3.trans s4);refine⟨_,_,_,.str k0,rfl,rfl,SqL.of (z4 _ _ ep'),at_hd,?_⟩;refine⟨fa,_,rfl,.inr (SqT.of (z4 _ _ hfa)),_,_,rfl,rfl,_,rfl,p,_,rfl,SqL.of (z4 _ _ ep'),fun q5 H5 g5 s5 e5=>?_⟩
    have e5:H5 q5=some (.lst ((rest.drop rs.length).map V.str)):=by
     rw[e5,qc]
     have:((rs.length:Int)+1)=((rs.length+1:Nat):Int):=by omega
     rw[this,xAhj,gh,←ja]
    have z5:=z4.trans s5;have hwd:Wds (rest.drop rs.length):=⟨qf (by rw[wb,qy];omega) hw.few,fun y hy=>hw.shy y (qk _ (yi hy))⟩;refine⟨k0,q5,_,rfl,md.same z5,(hw.shy k0 qm).1,e5,hwd,fun es q6 xs6 H6 h6 g6 s6 e6 d6=>?_,fun no H6 s6=>kx (fun ds' h=>?_) _ (z5.trans s6)⟩
    rotate_left
    ·cases h with
     |mk h1 h2 h3=>rw[er]at h1;cases h1;exact no _ h3
    have hx6:=xAdc d6;have he:es.length≤1:=h6.few;refine⟨q4,q6,_,_,rfl,rfl,(s5.trans s6) _ _ e4,e6,qg (xAad (by rw[ql];show 1+_+_≤_;omega)),fun q7 H7 g7 s7 e7=>?_⟩;refine⟨q7,_,rfl,SqL.of e7,fun l H8 hl s8 e8=>?_⟩;have z8:=s7.trans s8;exact k _ _ _ (.mk er hf h6) (z5.trans (s6.trans z8)) (.tup e8 (.cons (.str _) ((ht.same (s3.trans (s4.trans (s5.trans (s6.trans z8))))).app (d6.same z8))))
theorem ok_fBj(T:Txt K mg tk)(F:FO K mg "_law_house" s_fBj)(gfBb:O_fBb P w K mg base)(gfBk:O_fBk P w K mg base)(gfBn:O_fBn P w K mg base)(gfBt:O_fBt P w K mg base):O_fBj P w K mg base:=by
 refine mk_ok F xAcc (fun _ _ _ _ _ _ u l=>match u,l with|[_,_],_=>rfl) (fun _ _ _ _ h=>xArl h) fun fa cdv A outer s H vs Q E hr h=>?_;have hu1:(A.deeper (envOfC "_law_house" (defScope s_fBj) s.heap.objs.size fa cdv)).units+1<cLine:=hu_of hr
 refine⟨_,(xAaa (sn xAcc.nd 2 (pe_op xAqq (vv 0) (xAan (a1 xAac))))
   (xAaa (sn xAcc.nd 3 (cl gfBn hr (a1 (xl (vv 2)))))
   (xAaa (sm xAcc.nd 4 (cb xAai T.b_len boot_len (a1 (vv 3))))
   (xAaa (sm xAcc.nd 5 (lcd (defScope s_fBj) N_fBj [("_law_many",4)] (il (vv 3)) (fun _ _ _=>xAav) (fun _ _ _=>(pe_op xAqo (xAan (a1 xAac)) (vc 1)))))
   (xAaa (sn xAcc.nd 6 xAov)
   (xAaa (sn xAcc.nd 7 (xAan xAhs))
   (xAaa (fo (xAnl (by rfl) T.b_enumerate (a1 (xAap xAbi (vv 0) (xAau xAac) (xAau (vv 1))))) (gt (xAaz (gn xAcc.nd 8) (xAaz (gn xAcc.nd 9) xAea)))
   (xAaa (sn xAcc.nd 10 (cl gfBk hr (a2 (pe_op xAbh (vv 9) (pe_op xAdx (pe_op xAdx (pe_op xAdx xAac xAac) (vv 8)) (vv 8))) xAac)))
   (xAaa (sm xAcc.nd 11 (pe_op xAar (xl (vv 10)) (vc 4)))
   (xAaa (fo (xAcj (by rfl) T.b_range (a1 (pe_op xAar (pe_op xAaq (xl (vv 10)) (vc 4)) xAac))) (gn xAcc.nd 12)
   (xAaa (sn xAcc.nd 13 (pe_op xAar (xa (vv 10) (pe_op xAbh xAac (vv 12))) (vc 4)))
   (xAaa (sn xAcc.nd 14 (pe_op xAar (pe_op xAaq (xa (vv 10) (pe_op xAbh xAac (vv 12))) (vc 4)) (pe_op xAbh (xi (xi (vc 5) (vv 13)) (vv 13)) xAac)))
   (xAab (ps_if (ck op_gt (vv 14) (xi (xi (vc 5) (vc 11)) (vv 13))) (xAaa (sm xAcc.nd 15 (xAqi hu1 (vv 6) (xAam (a2 (vv 13) (vv 14))) (fun _ _=>rfl)))
   (xAaa (xAhp (lcd (defScope s_fBj) N_fBj [("_law_known",5),("_law_who",11),("_law_theirs",15)] (xAcj (by rfl) T.b_range (a1 (vc 4))) (fun _ _ _=>xAav) (fun _ _ _=>(cb (xAej rfl) T.b_max boot_max (a2 (xi (xi (vc 1) (vc 2)) (vv 0)) (xi (vc 3) (vv 0)))))) (xAkw (vc 5) (vc 11) xAel))
   (xAab (xAhp (cb (xAej rfl) T.b_max boot_max (a2 (xi (xi (vc 5) (vc 11)) (vv 13)) (vv 14))) (xAkw (xi (vc 5) (vc 11)) (vv 13) xAel))))) xAah)))))
   (xAaa (sn xAcc.nd 16 (pe_op xAbh (xi (xi (vc 5) (vc 11)) (vc 11)) xAac))
   (xAaa (sn xAcc.nd 17 (cy xAbm T.b_tuple boot_tuple (a1 (xi (vc 5) (vc 11)))))
   (xAaa (xAqj hu1 (vv 6) (xAam (a2 (vc 11) (vv 16))) (cy xAgt T.b_list boot_list (a1 (vv 17))) rfl)
   (xAaa (xAhp (vv 16) (xAkw (xi (vc 5) (vc 11)) (vc 11) xAel))
   (xAaa (sn xAcc.nd 18 (cl gfBt hr (ac (xAap xAbi (vv 10) (xAau xAac) xAbc) (a2 (vv 3) (vv 16)))))
   (xAab (ap (vv 7) (a1 (xAam (ac (xi (vv 3) (vc 11)) (ac (vv 16) (ac (vv 17) (a2 (cl gfBb hr (a2 (xl (vv 10)) (vv 3))) (vv 18))))))))))))))))))
   (xAab (xAag (xAam (a2 (vv 3) (vv 7)))))))))))),?_⟩
 obtain⟨sp,ns,most,rfl,hs,hl,k⟩:=h;refine⟨_,rfl,szOk rfl,fun p1 H1 g1 s1 e1=>?_⟩;refine⟨sp,p1,_,_,rfl,rfl,hs.same s1,e1,by rw[qc];exact qg (xAad (by show ns.length+1≤1000;omega)),fun p2 H2 g2 s2 e2=>?_⟩
 obtain⟨i0,h0⟩:∃i0,atI (List.map V.int ns++[V.int 0]) (0:Int)=some (.int i0):=by
  cases ns with
  |nil=>exact⟨0,rfl⟩
  |cons n ns=>exact⟨n,xAak (j:=0) rfl⟩
 refine⟨_,rfl,p2,_,_,_,rfl,rfl,SqL.of e2,h0,_,rfl,fun H3 rp ws s3 g3 rl h2 nd=>?_⟩;refine⟨_,rfl,rp,_,rfl,.inl (SqL.of rl.at'),?_⟩;generalize hM:(ws.map V.str).length=M
 have hM':ws.length=M:=by rw[←hM,qc]
 have hM0:0<M/\M≤6:=⟨by have:=rl.pos;omega,by have:=rl.few;omega⟩
 refine⟨_,rfl,rp,rfl,⟨_,SqL.of rl.at'⟩,xAen (xs:=ws.map V.str) (qg (xAad (by omega)))
  (fun i ys H'=>Same H3 H'/\∃ks:List Addr,ys=ks.map V.ref/\ks.length=i/\ks.Nodup/\∀kk∈ks,H3 kk=none/\H' kk=some (.lst (Hs.rowV (List.replicate M 0))))
  ⟨Same.refl _,[],rfl,rfl,vn,fun _ z=>nomatch z⟩ (fun _ _ H' s'=>SqL.of (s'.1 _ _ rl.at')) (fun j x ys H' K1 K0 hx s' k1 k0=>?_) fun H' kp ys s' hy hq=>?_⟩
 ·obtain⟨s',ks,rfl,hk,nd',hks⟩:=s'
  refine iteT (B:=K0 H') ?_;refine⟨szOk rfl,fun q1 H4 g4 s4 e4=>?_⟩;refine⟨_,rfl,q1,_,_,rfl,rfl,e4,by omega,by omega,(by show 1 * (M:Int).toNat≤sizeLine;rw[Nat.one_mul,Int.toNat_natCast];exact qg (xAad (by omega))),fun q2 H5 g5 s5 e5=>?_⟩;rw[Hs.flat_zero]at e5;refine k1 _ _ ⟨(s'.trans s4).trans s5,ks++[q2],by rw[zo];rfl,by rw[ql,zm,hk],?_,fun kk hkk=>?_⟩
  ·refine xAiq nd' fun z=>?_
   have:=s4 _ _ (hks q2 z).2;rw[g5]at this;cases this
  ·rcases q0.mp hkk with z|z
   ·exact⟨(hks kk z).1,s5 _ _ (s4 _ _ (hks kk z).2)⟩
   ·rw[zd.mp z]
    exact⟨(s'.trans s4).free g5,e5⟩
 ·obtain⟨s',ks,rfl,hk,nd',hks⟩:=s'
  rw[hM]at hk;refine fun tp H4 g4 s4 e4=>?_;refine⟨szOk rfl,fun dp H5 g5 s5 e5=>?_⟩;have gk:∀{a o},H' a=some o->(upd H' kp (.lst (ks.map V.ref))) a=some o:=fun{a o} e=>Same.new hq a o e
  have st:Hs.HSt H3 H5 kp tp dp ws (List.replicate M (List.replicate M 0)) [] [] ks [] []:=by
   have kd:kp≠dp:=xAaj (s4 _ _ xAaf) g5;refine⟨((s'.up hq).trans s4).trans s5,s5 _ _ (s4 _ _ xAaf),by rw[hk,jy],fun i kk e=>?_,nd',fun z=>?_,kd,fun z=>?_,s'.free hq,(s'.up hq).free g4,((s'.up hq).trans s4).free g5,fun kk z=>(hks kk z).1,s5 _ _ e4,(fun d z=>nomatch z),qd _,e5,⟨rfl,fun i d z=>by cases z⟩⟩
   ·have hi:=(zf.mp e).1
    rw[Hs.replicate_rows (by omega)];exact s5 _ _ (s4 _ _ (gk (hks kk (qz e)).2))
   ·have:=(hks kp z).2
    rw[hq]at this;cases this
   ·have:=s4 _ _ (gk (hks dp z).2)
    rw[g5]at this;cases this
  refine⟨_,rfl,_,rfl,_,rfl,_,rfl,sp,_,rfl,((hs.same s1).same s2).same (s3.trans st.same),fun q6 H6 g6 s6 e6=>?_⟩;have st6:=st.guard g6 s6 e6
  have cut_less:∀{n:Nat},n≤(cutV (List.map V.int ns) (some 1) (some most)).length->n≤ns.length - 1:=fun h=>by
   refine qf h ?_;unfold cutV;rw[zw,wb,qc];have:HT.sIx ns.length 0 (some 1)=min 1 ns.length:=HT.sIx_nat _ _ 1;rw[this];omega
  have hcut:(cutV (List.map V.int ns) (some 1) (some most)).length≤63:=qf (xAck _ _ _) (by rw[qc];exact hl);have hstart:=Hs.Kn.start M
  refine⟨q6,rfl,⟨_,SqL.of e6⟩,xAiu (xs:=cutV (List.map V.int ns) (some 1) (some most)) (fun i σ H7=>∃(kn:List (List Nat)) (ds:List Hs.Dd) (ks:List Addr) (kvs:List (List Key×V)) (des:List V) (v8 v9 v10 v11 v12 v13 v14 v15 v16 v17 v18:Option V),
    σ=[some (.ref sp),some (.int most),some (.ref p2),some (.ref rp),some (.int M),some (.ref kp),some (.ref tp),some (.ref dp),v8,v9,v10,v11,v12,v13,v14,v15,v16,v17,v18] ∧
    Hs.HSt (upd H3 q6 (.lst (cutV (List.map V.int ns) (some 1) (some most)))) H7 kp tp dp ws kn ds ds ks kvs des/\Hs.Kn M ds kn/\Hs.Wh M ds/\ds.length≤i/\∀d∈ds,BrD ws d.br/\WhatD ws d.num d.wt)
   ⟨_,[],ks,[],[],none,none,none,none,none,none,none,none,none,none,none,rfl,st6,hstart.1,hstart.2,qd _,fun _ z=>nomatch z⟩ ?_ ?_ ?_⟩
  ·rintro i σ H7 _ ⟨kn,ds,ks,kvs,des,v8,v9,v10,v11,v12,v13,v14,v15,v16,v17,v18,rfl,h7,_⟩
   exact SqL.of (h7.same _ _ xAaf)
  ·rintro i x σ H7 pe hx ⟨kn,ds,ks,kvs,des,v8,v9,v10,v11,v12,v13,v14,v15,v16,v17,v18,rfl,h7,K7,W7,hlen,hbw⟩ hpe
   obtain⟨c,rfl⟩:=xAfc (qz hx);have hi:i<63:=ze (zf.mp hx).1 hcut;refine⟨pe,_,rfl,SqT.of xAaf,rfl,?_⟩;have h7:=h7.mono (Same.new (o:=.tup [.int i,.int c]) hpe);refine⟨_,_,rfl,_,_,rfl,rfl,?_⟩;refine⟨_,rfl,_,_,rfl,rfl,.inl ⟨by decide,by decide⟩,_,rfl,_,_,rfl,rfl,.inl ⟨by decide,by decide⟩,_,rfl,_,_,rfl,rfl,.inr ⟨by omega,by omega⟩,_,_,rfl,rfl,_,22,rfl,by decide,fun H8 p1 ms s8 g8 d8 hl8=>?_⟩;have h8:=h7.guard g8 s8 d8.at';obtain⟨a0,h0⟩:=d8.get 0 (by decide);refine⟨_,rfl,p1,_,0,.int a0,rfl,rfl,SqL.of d8.at',h0,_,rfl,_,_,rfl,rfl,(by omega:(0:Int)<M),?_⟩;obtain⟨w,hw⟩:=Int.eq_ofNat_of_zero_le (xAbf a0 (by omega:(0:Int)<M))
   have hwM:w<M:=by have:=xAbg a0 (by omega:(0:Int)<M);omega
   show gName 11 (V.int (a0 % (M:Int))) _ _ _;rw[hw];have hr3:0≤a0 / (M:Int) % 3/\a0 / (M:Int) % 3<3:=⟨xAbf _ (by decide),xAbg _ (by decide)⟩
   refine⟨_,rfl,p1,_,0,.int a0,rfl,rfl,SqL.of d8.at',h0,_,rfl,_,_,rfl,rfl,⟨by omega,by omega⟩,_,_,rfl,rfl,(by show(0:Int)<3;decide),_,rfl,by omega,by omega,xAco (n:=(a0 / (M:Int) % 3).toNat)
    (fun j σ H9=>∃(kn:List (List Nat)) (ks:List Addr) (v12 v13 v14 v15:Option V),
     σ=[some (.ref sp),some (.int most),some (.ref p2),some (.ref rp),some (.int M),some (.ref kp),some (.ref tp),some (.ref dp),some (.int i),some (.int c),some (.ref p1),some (.int w),v12,v13,v14,v15,v16,v17,v18] ∧
     Hs.HSt (upd (upd H3 q6 (.lst (cutV (List.map V.int ns) (some 1) (some most)))) p1 (.lst (List.map V.int ms))) H9 kp tp dp ws kn ds ds ks kvs des/\Hs.Kn M ds kn)
    ⟨kn,ks,v12,v13,v14,v15,rfl,h8,K7⟩ ?_ ?_⟩
   ·rintro j σ H9 hj ⟨kn,ks,v12,v13,v14,v15,rfl,h9,K9⟩
    have hj3:j<3:=by omega
    have d9:DR H9 p1 ms 22:=⟨h9.same _ _ xAaf,d8.len,d8.few⟩
    have hpos:(0:Int)≤1+(0+(j:Int))/\1+(0+(j:Int))<((List.map V.int ms).length:Int):=by rw[qc];omega
    refine⟨_,rfl,_,rfl,_,_,rfl,rfl,p1,_,_,rfl,rfl,SqL.of d9.at',hpos.1,hpos.2,fun v hv=>?_⟩;obtain⟨b1,_,rfl⟩:=qu.mp hv;refine⟨_,rfl,_,_,rfl,rfl,(by omega:(0:Int)<M),?_⟩;obtain⟨o,ho⟩:=Int.eq_ofNat_of_zero_le (xAbf b1 (by omega:(0:Int)<M))
    have hoM:o<M:=by have:=xAbg b1 (by omega:(0:Int)<M);omega
    show gName 13 (V.int (b1 % (M:Int))) _ _ _;rw[ho];obtain⟨ko,hko,eko,ako⟩:=h9.rowAt (i:=o) (by rw[K9.len];exact hoM);obtain⟨kw,hkw,ekw,akw⟩:=h9.rowAt (i:=w) (by rw[K9.len];exact hwM);have lo:(Hs.rowOf kn o).length=M:=K9.row o hoM;have lw:(Hs.rowOf kn w).length=M:=K9.row w hwM;refine⟨_,rfl,_,rfl,_,_,rfl,rfl,p1,_,_,rfl,rfl,SqL.of d9.at',hpos.1,hpos.2,fun v hv=>?_⟩;obtain⟨b2,_,rfl⟩:=qu.mp hv;refine⟨_,rfl,_,_,rfl,rfl,⟨by omega,by omega⟩,_,rfl,_,rfl,kp,_,_,_,rfl,rfl,SqL.of h9.kat,ako,_,rfl,ko,_,_,_,rfl,rfl,SqL.of eko,Hs.atI_row (by omega),_,_,rfl,rfl,_,_,rfl,rfl,(by omega),?_⟩;have hto:=xAbf (b2 / (M:Int)) (m:=((Hs.at0 (Hs.rowOf kn o) o:Nat):Int)+1) (by omega);have hto2:=xAbg (b2 / (M:Int)) (m:=((Hs.at0 (Hs.rowOf kn o) o:Nat):Int)+1) (by omega);obtain⟨t,ht⟩:=Int.eq_ofNat_of_zero_le hto;rw[ht]at hto2;show gName 14 (V.int (b2 / (M:Int) % (((Hs.at0 (Hs.rowOf kn o) o:Nat):Int)+1))) _ _ _;rw[ht];refine⟨_,rfl,_,rfl,_,rfl,kp,_,_,_,rfl,rfl,SqL.of h9.kat,akw,_,rfl,kw,_,_,_,rfl,rfl,SqL.of ekw,Hs.atI_row (by omega),_,_,rfl,rfl,_,rfl,?_⟩;refine ite2 (fun hgt=>?_) fun _=>?_
    ·have hgt:Hs.at0 (Hs.rowOf kn w) o<t:=by
      have:=of_decide_eq_true hgt;omega
     obtain⟨e,he,ew,en⟩:=K9.has (j:=o) (k:=t) hoM (by omega) (by omega);subst ew en;obtain⟨qe,ve,ee,_⟩:=h9.tab e he;refine⟨_,rfl,_,rfl,_,rfl,szOk rfl,fun pt Ht gt st' et=>?_⟩;have hT:=h9.mono st';refine⟨tp,.ref qe,rfl,ve▸DGet.t (k:=Hs.keyD e) hT.tat et,?_⟩;have le:e.hd.length=M:=W7.len e he;have hn:((M:Int)).toNat=M:=Int.toNat_natCast M
     refine⟨_,rfl,_,rfl,by omega,by omega,xAou (n:=(M:Int).toNat) (by rw[hn];exact qg (xAad (by omega)))
      (fun a ys H'=>Same Ht H'/\ys=Hs.rowV ((List.range a).map fun a=>max (Hs.at0 (Hs.rowOf kn w) a) (Hs.at0 e.hd a))) ⟨Same.refl _,rfl⟩ (fun a ys H' K1 K0 ha s' k1 k0=>?_) fun H' pn ys s' hy hq=>?_⟩
     ·obtain⟨s',rfl⟩:=s'
      rw[hn]at ha;refine iteT (B:=K0 H') ?_;refine⟨_,rfl,_,rfl,kp,_,_,_,rfl,rfl,SqL.of (s' _ _ hT.kat),akw,_,rfl,kw,_,_,_,rfl,rfl,SqL.of (s' _ _ (st' _ _ ekw)),Hs.atI_0 (Hs.atI_row (by omega)),_,rfl,_,rfl,qe,_,_,_,rfl,rfl,SqL.of (s' _ _ (st' _ _ ee)),Hs.atI_0 (Hs.atI_row (by omega)),_,_,rfl,?_⟩;show K1 (V.int (if((Hs.at0 e.hd a:Nat):Int)>((Hs.at0 (Hs.rowOf kn w) a:Nat):Int) then((Hs.at0 e.hd a:Nat):Int) else((Hs.at0 (Hs.rowOf kn w) a:Nat):Int))) H';rw[Hs.max_nat];refine k1 _ _ ⟨s',?_⟩;rw[List.range_succ,zo];unfold Hs.rowV;rw[zo];rfl
     ·obtain⟨s',rfl⟩:=s'
      have hT':=hT.mono s';have h10:=hT'.swap (i:=w) (p:=pn) (r:=(List.range (M:Int).toNat).map fun a=>max (Hs.at0 (Hs.rowOf kn w) a) (Hs.at0 e.hd a)) (by rw[K9.len];exact hwM) hq;rw[v0]at h10
      have hwl:w<kn.length:=by rw[K9.len];exact hwM
      obtain⟨kw2,hkw2,ekw2,akw2⟩:=h10.rowAt (i:=w) (by rw[wg];exact hwl);rw[show Hs.rowOf (kn.set w ((List.range (M:Int).toNat).map fun a=>max (Hs.at0 (Hs.rowOf kn w) a) (Hs.at0 e.hd a))) w=(List.range (M:Int).toNat).map (fun a=>max (Hs.at0 (Hs.rowOf kn w) a) (Hs.at0 e.hd a)) from Hs.getD_set_self hwl]at ekw2;rw[v0]at akw2;have kat10:=h10.kat;rw[v0]at kat10;refine⟨_,rfl,_,rfl,kp,_,_,w,rfl,rfl,(by rw[xAal (xAaj hT'.kat hq)];exact hT'.kat),Hs.ixN_nat (by rw[qc,hT'.klen];exact hwl),?_⟩
      have hlen2:e.who<((List.range (M:Int).toNat).map fun a=>max (Hs.at0 (Hs.rowOf kn w) a) (Hs.at0 e.hd a)).length:=by rw[qc,yz,hn];exact hoM
      refine⟨_,rfl,_,rfl,kp,_,_,_,rfl,rfl,SqL.of kat10,akw2,_,rfl,kw2,_,_,_,rfl,rfl,SqL.of ekw2,Hs.atI_row hlen2,_,rfl,_,_,rfl,_,rfl,_,rfl,kp,_,_,_,rfl,rfl,SqL.of kat10,akw2,_,rfl,kw2,_,_,e.who,rfl,rfl,ekw2,Hs.ixN_nat (by rw[qc];exact hlen2),?_⟩;have h11:=h10.row (i:=w) (k:=kw2) (r:=((List.range (M:Int).toNat).map fun a=>max (Hs.at0 (Hs.rowOf kn w) a) (Hs.at0 e.hd a)).set e.who (max (Hs.at0 ((List.range (M:Int).toNat).map fun a=>max (Hs.at0 (Hs.rowOf kn w) a) (Hs.at0 e.hd a)) e.who) e.num)) hkw2;rw[←Hs.rowV_set]at h11
      have ex:(kn.set w ((List.range (M:Int).toNat).map fun a=>max (Hs.at0 (Hs.rowOf kn w) a) (Hs.at0 e.hd a))).set w (((List.range (M:Int).toNat).map fun a=>max (Hs.at0 (Hs.rowOf kn w) a) (Hs.at0 e.hd a)).set e.who (max (Hs.at0 ((List.range (M:Int).toNat).map fun a=>max (Hs.at0 (Hs.rowOf kn w) a) (Hs.at0 e.hd a)) e.who) e.num))=kn.set w (Hs.merged M (Hs.rowOf kn w) e.hd e.who e.num):=by
       rw[List.set_set,hn];unfold Hs.merged;rw[Hs.getD_range _ hoM]
      rw[ex]at h11;have vx:V.int (if((e.num:Nat):Int)>((Hs.at0 ((List.range (M:Int).toNat).map fun a=>max (Hs.at0 (Hs.rowOf kn w) a) (Hs.at0 e.hd a)) e.who:Nat):Int) then((e.num:Nat):Int) else((Hs.at0 ((List.range (M:Int).toNat).map fun a=>max (Hs.at0 (Hs.rowOf kn w) a) (Hs.at0 e.hd a)) e.who:Nat):Int))=Hs.nV (max (Hs.at0 ((List.range (M:Int).toNat).map fun a=>max (Hs.at0 (Hs.rowOf kn w) a) (Hs.at0 e.hd a)) e.who) e.num):=congrArg V.int (Hs.max_nat _ _);rw[←vx]at h11;exact⟨_,ks.set w pn,_,_,_,_,rfl,h11,K9.merge W7 hwM he hgt⟩
    ·exact⟨kn,ks,_,_,_,_,rfl,h9,K9⟩
   ·rintro σ H9 ⟨kn,ks,v12,v13,v14,v15,rfl,h9,K9⟩
    have hwl:w<kn.length:=by rw[K9.len];exact hwM
    obtain⟨kw,hkw,ekw,akw⟩:=h9.rowAt (i:=w) hwl;have lw:(Hs.rowOf kn w).length=M:=K9.row w hwM;refine⟨_,rfl,_,rfl,kp,_,_,_,rfl,rfl,SqL.of h9.kat,akw,_,rfl,kw,_,_,_,rfl,rfl,SqL.of ekw,Hs.atI_row (by omega),_,_,rfl,rfl,?_⟩;show gName 16 (Hs.nV (Hs.at0 (Hs.rowOf kn w) w+1)) _ _ _;refine⟨_,rfl,_,rfl,kp,_,_,_,rfl,rfl,SqL.of h9.kat,akw,kw,_,rfl,SqL.of ekw,fun ph H10 g10 s10 e10=>?_⟩;have h10:=h9.mono s10;refine⟨_,rfl,ph,_,rfl,.inr (SqT.of e10),fun pl H11 g11 s11 e11=>?_⟩;refine⟨_,rfl,_,rfl,_,rfl,szOk rfl,fun pt H12 g12 s12 e12=>?_⟩;have h12:=(h10.mono s11).mono s12;refine⟨tp,_,rfl,DPut.t (k:=Hs.keyD (Hs.nextD kn w .none [])) h12.tat e12 (yy h12.tlen (xAad (by omega))),?_⟩
    have h13:=h12.put (d:=Hs.nextD kn w .none []) (q:=pl) (s12 _ _ e11) (fun z=>xAaj h10.kat g11 z.symm) (fun z=>xAaj h10.dat g11 z.symm) (fun z=>by
      obtain⟨a,ha,e2⟩:=wm.mp z
      exact xAaj (h10.rows a pl (by rw[qj ha,e2])) g11 rfl)
     (fun e he=>Hs.keyD_ne fun z=>by
      have q1:=K9.cnt e he;rw[z.1,z.2]at q1;have q2:(Hs.nextD kn w .none []).num=Hs.at0 (Hs.rowOf kn w) w+1:=rfl;have q3:(Hs.nextD kn w .none []).who=w:=rfl;rw[q2,q3]at q1
      omega)
    refine⟨_,rfl,_,rfl,_,rfl,kp,_,_,_,rfl,rfl,SqL.of h13.kat,akw,_,rfl,kw,_,_,w,rfl,rfl,h13.rows w kw hkw,Hs.ixN_nat (by rw[qc];omega),?_⟩;have h14:=h13.row (i:=w) (k:=kw) (r:=(Hs.rowOf kn w).set w (Hs.at0 (Hs.rowOf kn w) w+1)) hkw;rw[←Hs.rowV_set]at h14;have d14:DR _ p1 ms 22:=⟨h14.same _ _ xAaf,d8.len,d8.few⟩;have sG:Same H3 (upd (upd H3 q6 (.lst (cutV (List.map V.int ns) (some 1) (some most)))) p1 (.lst (List.map V.int ms))):=(Same.new (st.same.free g6)).up (h7.same.free g8);have r14:=rl.mono (sG.trans h14.same);refine⟨_,rfl,_,rfl,p1,_,rfl,SqL.of d14.at',fun q15 H15 g15 s15 e15=>?_⟩;have d15:=d14.from 4 (by decide) e15;refine⟨_,rfl,_,rfl,q15,rp,ws,_,_,rfl,r14.mono s15,⟨d15.at',qf (by decide) d15.len,d15.few⟩,fun H16 vw wt s16 dw hww2=>?_⟩;have h16:=(h14.mono s15).mono s16;have r16:=(r14.mono s15).mono s16;have d16:=(d14.mono s15).mono s16;obtain⟨a3,h3⟩:=d16.get 3 (by decide)
    have hww:w<ws.length:=by omega
    have hwd:atI (ws.map V.str) (w:Int)=some (.str ws[w]):=xAak (by rw[zh,qj hww];rfl);refine⟨_,rfl,.inl ⟨rfl,_,SqL.of h16.dat⟩,_,rfl,_,rfl,rp,_,_,_,rfl,rfl,SqL.of r16.at',hwd,_,rfl,_,rfl,_,rfl,p1,_,3,.int a3,rfl,rfl,SqL.of d16.at',h3,_,rfl,_,rp,ws,rfl,r16,fun H17 vb br s17 dbr hbr=>?_⟩;refine⟨_,rfl,szOk rfl,fun pd H18 g18 s18 e18=>?_⟩;have h18:=(h16.mono s17).mono s18;refine⟨dp,_,_,rfl,rfl,h18.dat,(by rw[h18.deeds.1];exact xAad (by omega)),?_⟩;have pt1:ph≠tp:=fun z=>xAaj h9.tat g10 z.symm;have pt2:ph≠kw:=fun z=>xAaj ekw g10 z.symm
    have eph:H18 ph=some (.tup (Hs.rowV (Hs.rowOf kn w))):=by
     refine s18 _ _ (s17 _ _ (s16 _ _ (s15 _ _ ?_)));rw[xAal pt2,xAal pt1];exact s12 _ _ (s11 _ _ e10)
    refine⟨_,ds++[Hs.nextD kn w br wt],ks,_,_,_,_,_,_,_,_,_,_,_,_,_,rfl,((h18.retab (d2:=Hs.nextD kn w br wt) rfl rfl).add (d:=Hs.nextD kn w br wt) (v:=.ref pd) ⟨pd,ws[w],ph,vb,vw,rfl,qj hww,e18,eph,dbr.same s18,dw.same (s17.trans s18)⟩).weak (Same.new (h7.same.free g8)),K9.next W7 hwM,W7.next K9 hwM,?_,fun d hd=>?_⟩
    ·rw[ql,zm]
     omega
    ·rcases q0.mp hd with hd|hd
     ·exact hbw d hd
     ·rw[zd.mp hd]
      exact⟨hbr,hww2⟩
  ·rintro σ H7 ⟨kn,ds,ks,kvs,des,v8,v9,v10,v11,v12,v13,v14,v15,v16,v17,v18,rfl,h7,K7,W7,hlen,hbw⟩
   have h7':Hs.HSt H3 H7 kp tp dp ws kn ds ds ks kvs des:=h7.weak (Same.new (st.same.free g6));have s03:Same H H3:=(s1.trans s2).trans s3;refine⟨_,rfl,_,rfl,szOk rfl,fun q8 H8 g8 s8 e8=>?_⟩;exact k H8 q8 rp dp ws ds des ((s03.trans h7'.same).trans s8) ((s03.trans h7'.same).free g8) e8 (rl.mono (h7'.same.trans s8)) h2 nd (s03.free h7'.fd) (s8 _ _ h7'.dat) (h7'.deeds.mono s8) (hM'▸W7) hbw (cut_less hlen)
theorem ok_fCp(T:Txt K mg tk)(F:FO K mg "is_deed" s_fCp)(gfCa:O_fCa P w K mg base)(gfCb:O_fCb P w K mg base)(gfCm:O_fCm P w K mg base)(gfBd:O_fBd P w K mg base)(gfCj:O_fCj P w K mg base):O_fCp P w K mg base:=by
 refine mk_ok F sc_fCp (fun _ _ _ _ _ _ u l=>match u,l with|[_,_],_=>rfl) (fun _ _ _ _ h=>lenR h) fun fa cdv A outer s H vs Q E hr h=>?_
 refine⟨_,(xAaa (ps_if (PW.pt (pw_or (xAbk (xAbe (cl gfBd hr (a2 (na 1) xAac)))) (xAcv (xAbk (xAbe (cl gfCm hr (a2 (na 0) (xAap xAht (na 1) xAbc (xAau xAac))))))))) (xAab (xAag pe_bl)) xAah)
   (xAaa (ps_if (PW.pt (pw_or (xAbk (xAbe (cl gfCb hr (a2 (na 0) (xt (na 1)))))) (xAcv (ck op_ne (xu (xt (na 1)) (bm PySem.F.plainAttrs_list PySem.F.slot_list_index PySem.F.type_list_index (ixD hr) (na 0) (a1 (xt (na 1))))) (pe_op xAih (xt (na 1)) xAac))))) (xAab (xAag pe_bl)) xAah)
   (xAab (xAag (xAbv (cl gfCa hr (a2 (na 0) (xt (na 1)))) (xAbl (cl gfCj hr (ac (na 0) (a2 (xt (na 1)) (xt (na 1))))))))))),?_⟩
 obtain⟨p,ws,v,d,rfl,md,hw,ht,k⟩:=h;refine⟨_,d,_,rfl,ht,_,rfl,?_⟩;have k0:=k H (Same.refl H)
 cases ht with
 |@tup a0 xs ds h t =>
  refine ite2 (fun h1=>?_) fun h1=>?_
  ·have h1:¬mTup 5 (.tup ds)=true:=by simpa using h1
   refine iteT ?_;rw[←xAmh (ws:=ws) (off5 h1)];exact k0
  ·have h1:mTup 5 (.tup ds)=true:=by simpa using h1
   have h1:=of_decide_eq_true h1;obtain⟨x,y,z,u,w1,a,b,c,d,e,rfl,rfl,ta,tb,tc,td,te⟩:=t.five (by omega);refine⟨_,rfl,_,_,rfl,SqT.of h,(fun e=>absurd e.2 (by show ¬(2=5);decide)),fun q hq=>?_⟩;have s1:Same H (upd H q (.tup [x,y])):=(Same.refl H).up hq;refine⟨_,_,_,.tup [a,b],rfl,md.same s1,hw.mono s1,.tup (xAaf ..) (.cons (ta.same s1) (.cons (tb.same s1) .nil)),fun H2 s2=>⟨_,rfl,?_⟩⟩;have s3:=s1.trans s2
   have off:∀m,mName ws (.tup [a,b])=m->m=false->mDeed ws (.tup [a,b,c,d,e])=false:=fun m e1 e2=>by
    subst e2;unfold mDeed;split
    ·rename_i e3;cases e3;rw[e1];rfl
    ·rfl
   refine ite2 (fun h2=>?_) fun h2=>?_
   ·have h2:mName ws (.tup [a,b])=false:=by simpa using h2
    rw[←off _ h2 rfl];exact k H2 s3
   ·have h2:mName ws (.tup [a,b])=true:=by simpa using h2
    have h2':((mWord a&&mNum 1 b)&&mIn ws a)=true:=h2;rw[qr,qr]at h2'
    cases ta with
    |@str za ty =>
     cases tb with
     |int n =>
      have hd:mDeed ws (.tup [.str za,.int n,c,d,e])=(mCounts ws c&&(mOwn ws (.str za) (.int n) c&&(mBranch ws d&&mWhat ws n e))):=by
       show(mName ws _&&_)=_;rw[h2];rfl
      refine⟨_,_,_,z,rfl,rfl,SqT.of (s3 _ _ h),rfl,?_⟩;refine⟨_,_,_,c,rfl,md.same s3,hw.mono s3,tc.same s3,fun H4 s4=>⟨_,rfl,?_⟩⟩;have s5:=s3.trans s4;refine ite2 (fun h3=>?_) fun h3=>?_
      ·have h3:mCounts ws c=false:=by simpa using h3
       rw[h3,wf]at hd;refine iteT ?_;rw[←hd];exact k H4 s5
      ·have h3:mCounts ws c=true:=by simpa using h3
       rw[h3,zt]at hd
       cases tc with
       |@tup cp cxs cs hc tcs =>
        have h3':(decide (cs.length=ws.length)&&cs.all (mNum 0))=true:=h3;rw[qr]at h3';have hza:za∈ws:=of_decide_eq_true h2'.2;have hi:=xAsc hza;have hlt:ws.idxOf za<ws.length:=(zf.mp hi).1;have hl5:=of_decide_eq_true h3'.1;have hl6:=tcs.len;have hcv:cxs[ws.idxOf za]?=some (cxs[ws.idxOf za]'(by omega)):=qj _;obtain⟨cd,hcd,tcd⟩:=tcs.at hcv;have hnum:=zg.mp h3'.2 cd (qz hcd);generalize cxs[ws.idxOf za]'(by omega)=cv at hcv tcd
        cases tcd with
        |int i =>
         have ho:mOwn ws (.str za) (.int n) (.tup cs)=decide (i=n - 1):=by
          show(match cs[ws.idxOf za]? with|some (.int c)=>decide (c=n - 1)|_=>false)=_;rw[hcd]
         rw[ho]at hd;refine⟨_,_,_,.ref cp,rfl,rfl,SqT.of (s5 _ _ h),rfl,?_⟩;refine⟨.inl ⟨rfl,_,SqL.of (hw.mono s5).at'⟩,?_⟩;refine⟨_,_,_,.str za,rfl,rfl,SqT.of (s5 _ _ h),rfl,?_⟩;refine xAse (hw.mono s5) hza ?_;refine⟨cp,cxs,_,.int i,rfl,rfl,SqT.of (s5 _ _ hc),xAak hcv,?_⟩;refine⟨_,_,_,.int n,rfl,rfl,SqT.of (s5 _ _ h),rfl,?_⟩;refine⟨_,_,rfl,rfl,rfl,_,rfl,?_⟩;refine ite2 (fun h4=>?_) fun h4=>?_
         ·have h4:¬i=n - 1:=fun x=>by simp[x]at h4
          rw[decide_eq_false h4,wf]at hd;rw[←hd];exact k H4 s5
         ·have h4:i=n - 1:=by simpa using h4
          rw[decide_eq_true h4,zt]at hd;refine⟨_,_,_,u,rfl,rfl,SqT.of (s5 _ _ h),rfl,?_⟩;refine⟨_,_,_,d,rfl,md.same s5,hw.mono s5,td.same s5,fun H6 s6=>⟨_,rfl,?_⟩⟩;have s7:=s5.trans s6;refine ite2 (fun h5=>?_) fun h5=>?_
          ·rw[h5,zt]at hd
           refine⟨_,_,_,.int n,rfl,rfl,SqT.of (s7 _ _ h),rfl,?_⟩;refine⟨_,_,_,w1,rfl,rfl,SqT.of (s7 _ _ h),rfl,?_⟩;refine⟨_,_,n,_,e,rfl,md.same s7,hw.mono s7,te.same s7,fun H8 s8=>?_⟩;rw[←hd];exact k H8 (s7.trans s8)
          ·rw[zk.mpr h5,wf]at hd
           rw[←hd];exact k H6 s7
        |_=>exact Bool.noConfusion hnum
       |_=>exact Bool.noConfusion h3
     |_=>exact Bool.noConfusion h2'.1.2
    |_=>exact Bool.noConfusion h2'.1.1
 |_=>exact iteT (iteT k0)
theorem ok_fBx(T:Txt K mg tk)(F:FO K mg "read_deed" s_fBx)(gfCp:O_fCp P w K mg base)(gfAz:O_fAz P w K mg base)(gfBe:O_fBe P w K mg base)(gfBa:O_fBa P w K mg base)(gfBo:O_fBo P w K mg base):O_fBx P w K mg base:=by
 refine xAcg F xAmz (fun _ _ _ _ _ _ u l=>match u,l with|[_,_],_=>rfl) (fun _ _ _ _ h=>xAtt h) fun fa cdv A outer s H vs Q E hr h=>?_
 refine⟨_,(xAaa (ps_if (xAbk (xAbe (cb xAbq T.b_isinstance boot_isinstance (a2 (na 1) (xAbj (v:=.ty "str") (by rfl) T.b_str boot_str rfl))))) (xAab (xAbr T.X_NoDeed T.g_NoDeed (a1 xAae))) xAah)
   (xAaa (sn xAmz.nd 2 (bm PySem.F.plainAttrs_str PySem.F.slot_str_split PySem.F.type_str_split xAcz (na 1) (a1 xAae)))
   (xAaa (ps_if (ck op_lt (cb xAai T.b_len boot_len (a1 (na 2))) xAac) (xAab (xAbr T.X_NoDeed T.g_NoDeed (a1 xAae))) xAah)
   (xAaa (sn xAmz.nd 3 (xAam (ac (xl (na 2)) (ac (clX gfBa passD hr (a1 (xl (na 2)))) (a2 (clX gfBe passD hr (a1 (xl (na 2)))) (clX gfAz passD hr (a1 (xl (na 2)))))))))
   (xAaa (sn xAmz.nd 4 (pe_op xArs (na 3) (xAam (a1 (clX gfBo passD hr (a1 (xAap xAbi (na 2) (xAau xAac) xAbc)))))))
   (xAaa (ps_if (xAbk (xAbe (cl gfCp hr (a2 (na 0) (na 4))))) (xAab (xAbr T.X_NoDeed T.g_NoDeed (a1 (xAds (na 1))))) xAah)
   (xAab (xAag (na 4))))))))),?_⟩
 obtain⟨p,ws,z,rfl,md,hw,sh,hl,hwd,k,kx⟩:=h;have c1:∀v:V,[v].length≤sizeLine:=fun v=>qg (xAad (qp rfl));refine⟨_,"str",_,rfl,rfl,.str z,_,rfl,?_⟩;refine iteF ?_;refine⟨rfl,_,32,rfl,rfl,hl,fun q1 H1 g1 s1 e1=>?_⟩;obtain⟨ts,ets⟩:∃ts,Txt.split z ⟨#[32]⟩=ts:=⟨_,rfl⟩;rw[ets]at e1 hwd;refine⟨q1,_,rfl,.inl (SqL.of e1),_,_,rfl,rfl,_,rfl,?_⟩
 by_cases h5:ts.length<5
 ·refine ite2 (fun _=>?_) fun hn=>absurd (by rw[qc];exact decide_eq_true (by omega)) hn
  refine⟨c1 _,kx (fun d h=>?_) _ s1⟩
  cases h with
  |mk h0 h1 h2 h3 h4 =>
   rw[ets]at h0;subst h0;cases h4
   simp at h5
   omega
 obtain⟨w,zn,zc,zb,rest,rfl⟩:∃w zn zc zb rest,ts=w::zn::zc::zb::rest:=match ts,h5 with
  |w::zn::zc::zb::rest,_=>⟨w,zn,zc,zb,rest,rfl⟩
  |[_,_,_],h5=>absurd (by simp) h5
  |[_,_],h5=>absurd (by simp) h5
  |[_],h5=>absurd (by simp) h5
  |[],h5=>absurd (by simp) h5
 refine ite2 (fun hn=>absurd (of_decide_eq_true hn) (by rw[qc];omega)) fun _=>?_;have sx:∀y∈w::zn::zc::zb::rest,Shy y/\y.length≤1000:=hwd.shy;have e1:H1 q1=some (.lst (.str w::.str zn::.str zc::.str zb::rest.map V.str)):=e1
 have no:∀d,RDe7 d z->∃n c b ds,RNum7 n zn/\RCo7 c zc/\RIf "-" .none RBr7 b zb/\RWh7 ds rest/\d=.tuple [.str w,n,c,b,.tuple ds]:=fun d h=>by
  cases h with
  |mk h0 h1 h2 h3 h4 =>
   rw[ets]at h0;cases h0;exact⟨_,_,_,_,h1,h2,h3,h4,rfl⟩
 refine⟨_,_,_,.str w,rfl,rfl,SqL.of e1,at_hd,?_⟩;refine⟨_,_,_,.str zn,rfl,rfl,SqL.of e1,xAak (j:=1) rfl,?_⟩;refine⟨zn,rfl,md.same s1,(sx zn (by simp)).1,(sx zn (by simp)).2,fun d2 v2 H2 p2 s2 t2=>?_,fun nx H2 s2=>kx (fun d h=>?_) _ (s1.trans s2)⟩
 rotate_left
 ·obtain⟨n,c,b,ds,h1,_⟩:=no d h
  exact absurd h1 (nx n)
 have z2:=s1.trans s2;refine⟨_,_,_,.str zc,rfl,rfl,SqL.of (s2 _ _ e1),xAak (j:=2) rfl,?_⟩;refine⟨zc,rfl,md.same z2,(sx zc (by simp)).1,(sx zc (by simp)).2,fun d3 v3 H3 p3 s3 t3=>?_,fun nx H3 s3=>kx (fun d h=>?_) _ (z2.trans s3)⟩
 rotate_left
 ·obtain⟨n,c,b,ds,_,h1,_⟩:=no d h
  exact absurd h1 (nx c)
 have z3:=z2.trans s3;refine⟨_,_,_,.str zb,rfl,rfl,SqL.of (s3 _ _ (s2 _ _ e1)),xAak (j:=3) rfl,?_⟩;refine⟨zb,rfl,md.same z3,(sx zb (by simp)).1,(sx zb (by simp)).2,fun d4 v4 H4 p4 s4 t4=>?_,fun nx H4 s4=>kx (fun d h=>?_) _ (z3.trans s4)⟩
 rotate_left
 ·obtain⟨n,c,b,ds,_,_,h1,_⟩:=no d h
  exact absurd h1 (nx b)
 have z4:=z3.trans s4;refine⟨qg (xAad (qp rfl)),fun q5 H5 g5 s5 e5=>?_⟩;have z5:=z4.trans s5;refine⟨_,rfl,q1,_,rfl,SqL.of (s5 _ _ (s4 _ _ (s3 _ _ (s2 _ _ e1)))),fun q6 H6 g6 s6 e6=>?_⟩
 have e6:H6 q6=some (.lst (rest.map V.str)):=by rw[e6,show(4:Int)=((4:Nat):Int) from rfl,xAhj];rfl
 have z6:=z5.trans s6;have hr:Wds rest:=⟨Nat.le_trans (by simp;omega) hwd.few,fun y hy=>sx y (by simp[hy])⟩;refine⟨q6,rest,rfl,md.same z6,e6,hr,fun d7 v7 H7 p7 s7 t7=>?_,fun nx H7 s7=>kx (fun d h=>?_) _ (z6.trans s7)⟩
 rotate_left
 ·obtain⟨n,c,b,ds,_,_,_,h1,_⟩:=no d h
  exact absurd h1 (nx ds)
 have z7:=z6.trans s7;refine⟨c1 _,fun q8 H8 g8 s8 e8=>?_⟩;refine⟨q5,q8,_,_,rfl,rfl,s8 _ _ (s7 _ _ (s6 _ _ e5)),e8,qg (xAad (qp rfl)),fun q9 H9 s9 e9=>?_⟩;have z9:=z7.trans (s8.trans s9);have hD:RDe7 (.tuple [.str w,d2,d3,d4,.tuple d7]) z:=.mk ets p2 p3 p4 p7;have y9:=s8.trans s9;have y6:=s5.trans (s6.trans (s7.trans y9));have dt:DT H9 (.ref q9) (.tuple [.str w,d2,d3,d4,.tuple d7]):=.tup e9 (.cons (.str w) (.cons (t2.same (s3.trans (s4.trans y6))) (.cons (t3.same (s4.trans y6)) (.cons (t4.same y6) (.cons (t7.same y9) .nil)))));refine⟨_,ws,_,thD (.tuple [.str w,d2,d3,d4,.tuple d7]),rfl,(md.same z9).md,hw.mono z9,dt.tv (xAts (by rw[ets];exact hwd) hD),fun H10 s10=>⟨_,rfl,?_⟩⟩;refine ite2 (fun h=>?_) fun h=>?_
 ·have h:mDeed ws (thD (.tuple [.str w,d2,d3,d4,.tuple d7]))=false:=by simpa using h
  exact⟨z,rfl,sh,fun v=>⟨c1 v,kx (fun d h2=>by rw[un_de _ _ _ h2 hD];exact h) _ (z9.trans s10)⟩⟩
 ·have h:mDeed ws (thD (.tuple [.str w,d2,d3,d4,.tuple d7]))=true:=by simpa using h
  exact k _ _ _ hD h (z9.trans s10) (dt.same s10)
theorem ok_fAw(T:Txt K mg tk)(F:FO K mg "_law_refused" s_fAw)(gfBx:O_fBx P w K mg base)(hI:IsX K c_NoDeed M__law_refused):O_fAw P w K mg base:=by
 refine mk_ok F xAna (fun _ _ _ _ _ _ u l=>match u,l with|[_,_],_=>rfl) (fun _ _ _ _ h=>xAtw h) fun fa cdv A outer s H vs Q E hr h=>?_
 refine⟨_,(xAaa (xAsp gfBx hr T.X_NoDeed T.X_FolkError T.A_NoDeed_FolkError T.g_FolkError xAna.nd 2 (a2 (na 0) (na 1)) (fun _=>(xAaa (sn xAna.nd 3 (xAan (ac (cb (xAcb hI) T.b_isinstance boot_isinstance (a2 (na 2) (xAbb (v:=.ref c_NoSet) rfl T.g_NoSet rfl))) (ac (cb (xAcb hI) T.b_isinstance boot_isinstance (a2 (na 2) (xAbb (v:=.ref c_NoLeave) rfl T.g_NoLeave rfl))) (a2 (cb (xAcb hI) T.b_isinstance boot_isinstance (a2 (na 2) (xAbb (v:=.ref c_NoPast) rfl T.g_NoPast rfl))) (cb (xAcb hI) T.b_isinstance boot_isinstance (a2 (na 2) (xAbb (v:=.ref c_NoRow) rfl T.g_NoRow rfl))))))))
   (xAaa (sn xAna.nd 3 (pe_op xAbz (na 3) (xAan (ac (cb (xAcb hI) T.b_isinstance boot_isinstance (a2 (na 2) (xAbb (v:=.ref c_NoThing) rfl T.g_NoThing rfl))) (a2 (cb (xAcb hI) T.b_isinstance boot_isinstance (a2 (na 2) (xAbb (v:=.ref c_Poured) rfl T.g_Poured rfl))) (cb (xAcb hI) T.b_isinstance boot_isinstance (a2 (na 2) (xAbb (v:=.ref c_Unlike) rfl T.g_Unlike rfl))))))))
   (xAab (xAag (xAbv (cb (xAcb hI) T.b_isinstance boot_isinstance (a2 (na 2) (xAbb (v:=.ref c_NoDeed) rfl T.g_NoDeed rfl))) (xAbv (cb (xAcb hI) T.b_isinstance boot_isinstance (a2 (na 2) (xAbj (v:=.ty "ValueError") (by rfl) T.b_ValueError xAdz rfl))) (xAbl (ce nsq pe_bl (na 3)))))))))))
   (xAab (xAag pe_bl))),?_⟩
 obtain⟨p,ws,z,rfl,md,hw,tx,no,k⟩:=h;refine⟨p,ws,z,rfl,md,hw,tx.sh,tx.len,tx.wds,fun d v H1 h1 h2=>?_,fun _ H1 s1=>⟨rfl,fun a ha=>?_⟩⟩
 ·rw[no d h1]at h2
  exact nomatch h2
 have s2:Same H1 (upd H1 a (excO a c_NoDeed)):=Same.new ha;have ea:upd H1 a (excO a c_NoDeed) a=some (excO a c_NoDeed):=xAaf;refine⟨a,_,false,rfl,ea,rfl,?_⟩;refine⟨a,_,false,rfl,ea,rfl,?_⟩;refine⟨a,_,false,rfl,ea,rfl,?_⟩;refine⟨a,_,false,rfl,ea,rfl,szOk rfl,fun q3 H3 g3 s3 e3=>?_⟩;refine⟨a,_,false,rfl,s3 _ _ ea,rfl,?_⟩;refine⟨a,_,false,rfl,s3 _ _ ea,rfl,?_⟩;refine⟨a,_,false,rfl,s3 _ _ ea,rfl,szOk rfl,fun q4 H4 g4 s4 e4=>?_⟩;refine⟨q3,q4,_,_,rfl,rfl,s4 _ _ e3,e4,szOk rfl,fun q5 H5 g5 s5 e5=>?_⟩;have ea5:=s5 _ _ (s4 _ _ (s3 _ _ ea));refine⟨a,_,true,rfl,ea5,rfl,_,rfl,iteT ?_⟩;refine⟨a,_,true,rfl,ea5,rfl,_,rfl,iteT ?_⟩;refine⟨q5,_,rfl,.inl (SqL.of e5),rfl,rfl,?_⟩;exact k H5 (s1.trans (s2.trans (s3.trans (s4.trans s5))))
theorem ok_fCr(T:Txt K mg tk){fa:Addr}{fd:FuncData}(F:Fun K "law" "law" s_fCr fa fd)(gfBk:O_fBk P w K mg base)(gfAr:O_fAr P w K mg base)(gfBj:O_fBj P w K mg base)(gfAw:O_fAw P w K mg base)(gfBi:O_fBi P w K mg base)(gfCp:O_fCp P w K mg base)(gfBx:O_fBx P w K mg base):FnOk P w K mg base CX0 11 fa fd ["_law_script"] sp_fCr:=by
 refine F.ok xAcu (fun _ _ _ _ h=>xAtx h) fun cdv A outer s H vs Q E hr h=>?_
 refine⟨_,(xAaa (xAhp (cl gfBj hr (a2 (na 0) xAac)) (gt (xAaz (gn xAcu.nd 1) (xAaz (gn xAcu.nd 2) xAea))))
   (xAaa (xAit (i:=3) xAcu.nd rfl (Or.inl rfl) (own:=["_law_deed"]) (fr:=[]) rfl (il (na 2)) ⟨rfl,by decide +kernel,by decide +kernel⟩ (caps0 (by decide +kernel)) (fun _ _ _=>(xAce (i:=0) (by show List.Nodup (["_law_deed"]:List Str);decide +kernel) rfl (Or.inl rfl))) (fun _=>xAby rfl) (fun _ _ _=>xAav) (fun _ _ _=>(bm PySem.F.plainAttrs_str PySem.F.slot_str_split PySem.F.type_str_split xAcz (cl gfBi hr (a1 (na 0))) (a1 xAae))))
   (xAaa (fo (xAnl (by rfl) T.b_enumerate (a1 (na 3))) (gt (xAaz (gn xAcu.nd 4) (xAaz (gn xAcu.nd 5) xAea)))
   (xAaa (sn xAcu.nd 6 (cl gfBk hr (a2 (pe_op xAbh (pe_op xAaq (xi (na 0) (pe_op xAbh xAac (na 4))) xAac) (na 4)) xAac)))
   (xAab (fo (xAcj (by rfl) T.b_range (a1 xAac)) (gn xAcu.nd 7)
   (xAaa (sn xAcu.nd 8 (xa (na 3) (pe_op xAar (pe_op xAaq (xa (na 6) (na 7)) xAac) (cb xAai T.b_len boot_len (a1 (na 3))))))
   (xAaa (sn xAcu.nd 9 (xAap xAbi (na 6) (xAau (na 7)) (xAau (pe_op xAbh (pe_op xAbh (pe_op xAbh (na 7) xAac) (pe_op xAar (na 7) xAac)) (pe_op xAar (xa (na 6) (na 7)) xAac)))))
   (xAaa (sn xAcu.nd 10 (bm PySem.F.plainAttrs_str PySem.F.slot_str_join PySem.F.type_str_join xAey xAae (a1 (cl gfAr hr (ac (na 5) (ac (na 8) (a2 (na 1) (na 9))))))))
   (xAaa (sn xAcu.nd 11 xAcd)
   (xAaa (xAso gfBx hr T.X_NoDeed T.X_NoDeed T.A_NoDeed_NoDeed T.g_NoDeed xAcu.nd 11 (a2 (na 1) (na 10)) (fun _=>(xAab (sn xAcu.nd 11 xAcd))))
   (xAab (ps_if (ck xAfn (na 11) xAcd) (xAab (ps_if (xAbk (xAbe (cl gfAw hr (a2 (na 1) (na 10))))) (xAab (xAag pe_bl)) xAah)) (xAab (ps_if (PW.pt (pw_or (ck xAsv (cl gfCp hr (a2 (na 1) (na 11))) pe_bl) (xAcv (ck op_ne (cl gfBi hr (a1 (na 11))) (na 10))))) (xAab (xAag pe_bl)) xAah)))))))))))))
   (xAab (xAag pe_bl))))),?_⟩
 obtain⟨sp,ns,rfl,hs,hl,md,k⟩:=h;refine⟨sp,ns,_,rfl,hs,hl,fun H1 p0 rp dp ws ds des s1 _ e1 rl h2 nd _ ed hdd W hbw hlen=>?_⟩;refine⟨p0,_,rfl,SqT.of e1,rfl,_,_,rfl,_,_,rfl,rfl,?_⟩;have hdl:des.length=ds.length:=hdd.1;refine⟨dp,rfl,⟨_,SqL.of ed⟩,xAen (xAdu (by omega)) (fun i ys H'=>Same H1 H'/\TL H' ys i) ⟨Same.refl _,rfl,fun _ z=>nomatch z⟩ (fun i ys H' q=>SqL.of (q.1 _ _ ed)) (fun i x ys H' K1 K0 hx ⟨s2,tl⟩ k1 k2=>?_) fun H2 qt ys ⟨s2,tl⟩ _ hq=>?_⟩
 ·have hi:i<ds.length:=by rw[←hdl];exact(zf.mp hx).1
  obtain⟨v,hv,hat⟩:=hdd.2 i _ (qj hi);rw[hx]at hv;cases hv;have hmem:=yg hi;obtain⟨za,n,hs',b,wds,zs,ok,l1,sp1,z0,z30,wo⟩:=xAib rl W (by omega) hmem (hat.mono s2) (hbw _ hmem).1 (hbw _ hmem).2;refine iteT (B:=K0 H') ?_;refine⟨_,za,n,hs',b,wds,rfl,ok,fun H3 s3=>?_⟩;refine⟨rfl,_,32,rfl,rfl,l1,fun p H4 hp s4 e4=>?_⟩;rw[sp1]at e4;have s5:=s3.trans s4;refine k1 _ _ ⟨s2.trans s5,⟨by rw[ql,tl.len];rfl,fun y hy=>?_⟩⟩;rcases q0.mp hy with hy|hy
  ·exact(tl.mono s5).it y hy
  ·rw[zd.mp hy]
   exact⟨p,zs,rfl,e4,z0,z30,wo⟩
 have s3:Same H1 (upd H2 qt (.lst ys)):=s2.up hq;have et:upd H2 qt (.lst ys) qt=some (.lst ys):=xAaf;have tl:=tl.mono (Same.new (o:=.lst ys) hq);generalize upd H2 qt (.lst ys)=H3 at s3 et tl;have yl:=tl.len;refine⟨qt,rfl,⟨_,SqL.of et⟩,xAiu (xs:=ys) (fun i σ H'=>∃v4 v5 v6 v7 v8 v9 v10 v11,σ=[some (.ref sp),some (.ref rp),some (.ref dp),some (.ref qt),v4,v5,v6,v7,v8,v9,v10,v11]/\Same H3 H') ⟨none,none,none,none,none,none,none,none,rfl,Same.refl _⟩ (fun i σ H' _ ⟨_,_,_,_,_,_,_,_,_,s⟩=>SqL.of (s _ _ et)) ?_ ?_⟩
 rotate_left
 ·rintro σ H4 ⟨v4,v5,v6,v7,v8,v9,v10,v11,rfl,s4⟩
  exact k _ (s1.trans (s3.trans s4))
 rintro i x σ H4 pe hx ⟨v4,v5,v6,v7,v8,v9,v10,v11,rfl,s4⟩ hpe;refine⟨pe,_,rfl,SqT.of xAaf,rfl,_,_,rfl,_,_,rfl,rfl,?_⟩;have s4:=s4.up (o:=.tup [.int i,x]) hpe;have hi:i<ys.length:=(zf.mp hx).1
 have hn:1+i<ns.length:=by omega
 have ypos:(0:Int)<(ys.length:Int):=by omega
 obtain⟨wp,zs,rfl,wl⟩:=tl.it x (qz hx);refine⟨_,_,rfl,rfl,sp,_,_,.int ns[1+i],rfl,rfl,hs.same (s1.trans (s3.trans s4)),?_,_,_,rfl,rfl,⟨by decide,by decide⟩,_,_,rfl,rfl,_,6,rfl,by decide,fun H5 dq ms s5 g5 d5 hl5=>?_⟩
 ·rw[show(1:Int)+(i:Int)=((1+i:Nat):Int) from by omega]
  exact xAak (by rw[zh,qj hn];rfl)
 have z5:=s4.trans s5;refine⟨_,rfl,by decide,by decide,xAco (n:=3) (fun j σ H'=>∃v7 v8 v9 v10 v11,σ=[some (.ref sp),some (.ref rp),some (.ref dp),some (.ref qt),some (.int i),some (.ref wp),some (.ref dq),v7,v8,v9,v10,v11]/\Same H5 H') ⟨_,_,_,_,_,rfl,Same.refl _⟩ ?_ ?_⟩
 rotate_left
 ·rintro σ H6 ⟨v7,v8,v9,v10,v11,rfl,s6⟩
  exact⟨_,_,_,_,_,_,_,_,rfl,z5.trans s6⟩
 rintro t σ H6 ht ⟨v7,v8,v9,v10,v11,rfl,s6⟩;have z6:=z5.trans s6;have tl6:=tl.mono z6;have wl6:=wl.mono z6;have et6:=z6 _ _ et;have rl6:=rl.mono (s3.trans z6);have md6:=md.same (s1.trans (s3.trans z6));have d6:=d5.mono s6
 have ml:(List.map V.int ms).length=6:=by rw[qc];exact hl5
 refine⟨dq,_,_,rfl,rfl,SqL.of d6.at',by omega,by rw[ml];omega,fun v hv=>?_⟩;obtain⟨m,_,rfl⟩:=qu.mp hv;refine⟨_,_,rfl,rfl,⟨by decide,by decide⟩,qt,_,rfl,.inl (SqL.of et6),_,_,rfl,rfl,ypos,qt,_,_,rfl,rfl,SqL.of et6,xAbf _ ypos,xAbg _ ypos,fun o ho=>?_⟩;obtain⟨op,ozs,rfl,owl⟩:=tl6.it o ho;refine⟨_,rfl,_,_,rfl,rfl,_,_,rfl,rfl,(by show(0:Int)<2;decide),_,_,rfl,rfl,dq,_,_,rfl,rfl,SqL.of d6.at',by omega,by rw[ml];omega,fun v2 hv2=>?_⟩;obtain⟨m2,_,rfl⟩:=qu.mp hv2;refine⟨_,_,rfl,rfl,(by show(0:Int)<2;decide),_,_,rfl,rfl,_,rfl,dq,_,rfl,SqL.of d6.at',fun q7 H7 g7 s7 e7=>?_⟩;obtain⟨ms',ec,hc⟩:=xApv ms _ _;rw[ec]at e7;refine⟨rfl,wp,op,rp,q7,zs,ozs,ws,ms',rfl,wl6.mono s7,owl.mono s7,rl6.mono s7,e7,by omega,fun q8 zz H8 s8 wl8=>?_⟩;have z8:=s7.trans s8;have tx:Tx ws (Txt.join " " zz):=tx_of wl8.ne wl8.few wl8.wo;refine⟨" ",q8,zz,rfl,rfl,SqL.of wl8.at',?_,?_⟩
 ·have c:=xAlt (c:=100) fun x hx=>(wl8.wo x hx).len
  have:=wl8.few;have e:(" ":Str).length=1:=rfl;rw[e];omega
 have rl8:=rl6.mono z8;have md8:=md6.same z8;generalize Txt.join " " zz=z at tx;refine⟨rp,ws,z,rfl,md8,rl8,tx.sh,tx.len,tx.wds,fun d v H9 r9 m9 s9 t9=>?_,fun no H9 s9=>⟨rfl,fun a ha=>?_⟩⟩
 ·obtain⟨qv,rfl⟩:∃qv,v=.ref qv:=by
   cases r9;cases t9;exact⟨_,rfl⟩
  refine⟨rfl,_,rfl,iteF ?_⟩;refine⟨_,ws,_,thD d,rfl,(md8.same s9).md,rl8.mono s9,t9.tv (xAts tx.wds r9),fun H10 s10=>?_⟩;rw[m9];refine⟨_,_,rfl,rfl,_,rfl,iteF ?_⟩;obtain⟨w,n,hs',b,wds,ok,ez⟩:=de_ok rl.pos rl.few tx.nb r9 m9 (t9.same s10);refine⟨_,w,n,hs',b,wds,rfl,ok,fun H11 s11=>?_⟩;rw[ez];refine⟨rfl,_,rfl,?_⟩;refine ite2 (fun h=>absurd h (by rw[decide_eq_true rfl];decide)) fun _=>?_;exact⟨_,_,_,_,_,rfl,s6.trans (z8.trans (s9.trans (s10.trans s11)))⟩
 ·refine⟨rfl,_,rfl,iteT ?_⟩
  have s10:=s9.trans (Same.new (o:=excO a c_NoDeed) ha);refine⟨rp,ws,z,rfl,md8.same s10,rl8.mono s10,tx,no,fun H11 s11=>⟨_,rfl,iteF ?_⟩⟩;exact⟨_,_,_,_,_,rfl,s6.trans (z8.trans (s10.trans s11))⟩
end
theorem xAks{P:Program}{w:World}{K:PySem.W.Frag}{mg:Str->Option Value}{base:Heap}(r0:O_fCb P w K mg base)(r1:O_fAt P w K mg base)(r2:O_fCn P w K mg base)(r3:O_fCf P w K mg base)(r4:O_fAp P w K mg base)(r5:O_fCm P w K mg base)(r6:O_fCh P w K mg base)(r7:O_fAv P w K mg base)(r8:O_fCo P w K mg base)(r9:O_fAb P w K mg base)(r10:O_fAu P w K mg base)(r11:O_fCg P w K mg base)(r12:O_fCe P w K mg base)(r13:O_fCq P w K mg base)(r14:O_fAh P w K mg base)(r15:O_fAi P w K mg base)(m0:mg "is_counts"=some (.ref a_is_counts))(m1:mg "is_deed_number"=some (.ref a_is_deed_number))(m2:mg "is_hand"=some (.ref a_is_hand))(m3:mg "is_leave"=some (.ref a_is_leave))(m4:mg "is_line_or_none"=some (.ref a_is_line_or_none))(m5:mg "is_name"=some (.ref a_is_name))(m6:mg "is_part"=some (.ref a_is_part))(m7:mg "is_plain_word"=some (.ref a_is_plain_word))(m8:mg "is_side"=some (.ref a_is_side))(m9:mg "is_sign_name_or_none"=some (.ref a_is_sign_name_or_none))(m10:mg "is_sign_names"=some (.ref a_is_sign_names))(m11:mg "is_signs"=some (.ref a_is_signs))(m12:mg "is_truth"=some (.ref a_is_truth))(m13:mg "is_way"=some (.ref a_is_way))(m14:mg "is_word_or_empty"=some (.ref a_is_word_or_empty))(m15:mg "is_word_or_none"=some (.ref a_is_word_or_none)):∀f sp,Fs_is_what f sp->∃k fd ps,k≤6/\FnOk P w K mg base CX0 k f fd ps sp/\PySem.W.keepIn K (.ref f)=true/\Binds K fd ps []:=by
 rintro f sp ⟨fm,rfl,rfl⟩
 cases fm with
 |counts=>exact byw r0 m0
 |num=>exact byw r1 m1
 |hand=>exact byw r2 m2
 |leave=>exact byw r3 m3
 |line=>exact byw r4 m4
 |name=>exact byw r5 m5
 |part=>exact byw r6 m6
 |word=>exact byw r7 m7
 |side=>exact byw r8 m8
 |snn=>exact byw r9 m9
 |sns=>exact byw r10 m10
 |signs=>exact byw r11 m11
 |truth=>exact byw r12 m12
 |way=>exact byw r13 m13
 |woe=>exact byw r14 m14
 |won=>exact byw r15 m15
theorem xAgg{P:Program}{w:World}{K:PySem.W.Frag}{mg:Str->Option Value}{base:Heap}(r0:O_fBe P w K mg base)(r1:O_fBz P w K mg base)(r2:O_fAg P w K mg base)(r3:O_fBa P w K mg base)(r4:O_fCc P w K mg base)(r5:O_fBg P w K mg base)(r6:O_fAc P w K mg base)(r7:O_fAe P w K mg base)(r8:O_fBu P w K mg base)(r9:O_fAa P w K mg base)(r10:O_fBh P w K mg base)(m0:mg "read_counts"=some (.ref a_read_counts))(m1:mg "read_name"=some (.ref a_read_name))(m2:mg "read_name_or_none"=some (.ref a_read_name_or_none))(m3:mg "read_number"=some (.ref a_read_number))(m4:mg "read_part"=some (.ref a_read_part))(m5:mg "read_plain"=some (.ref a_read_plain))(m6:mg "read_plain_or_empty"=some (.ref a_read_plain_or_empty))(m7:mg "read_plain_or_none"=some (.ref a_read_plain_or_none))(m8:mg "read_side"=some (.ref a_read_side))(m9:mg "read_sign_name_or_none"=some (.ref a_read_sign_name_or_none))(m10:mg "read_truth"=some (.ref a_read_truth)):∀f sp,Fs_read_what f sp->∃k fd ps,k≤6/\FnOk P w K mg base (CXd P w) k f fd ps sp/\PySem.W.keepIn K (.ref f)=true/\Binds K fd ps []:=by
 rintro f sp ⟨rm,rfl,rfl⟩
 cases rm with
 |counts=>exact byvX r0 m0
 |name=>exact byvX r1 m1
 |nameN=>exact byvX r2 m2
 |number=>exact byvX r3 m3
 |part=>exact byvX r4 m4
 |plain=>exact byvX r5 m5
 |plainE=>exact byvX r6 m6
 |plainN=>exact byvX r7 m7
 |side=>exact byvX r8 m8
 |snN=>exact byvX r9 m9
 |truth=>exact byvX r10 m10
theorem all_mk{l:PySem.W.OpenLaw}{w:World}{K:PySem.W.Frag}{h:Heap}{mg:Str->Option Value}{fa:Addr}(X:K.In h)(G:h.Ns mainGlobals mg)(hfa:mg "law"=some (.ref fa)){tc_MOST_DIGITS:Tok}{tc_MOST_LETTERS:Tok}{tc_MOST_NUMBER:Tok}{tc_MOST_SIGNS:Tok}(zb_ValueError:PySem.W.nsIn K mainGlobals "ValueError"=some none)(zb_all:PySem.W.nsIn K mainGlobals "all"=some none)(zb_bool:PySem.W.nsIn K mainGlobals "bool"=some none)(zb_enumerate:PySem.W.nsIn K mainGlobals "enumerate"=some none)(zb_int:PySem.W.nsIn K mainGlobals "int"=some none)(zb_isinstance:PySem.W.nsIn K mainGlobals "isinstance"=some none)(zb_len:PySem.W.nsIn K mainGlobals "len"=some none)(zb_list:PySem.W.nsIn K mainGlobals "list"=some none)(zb_max:PySem.W.nsIn K mainGlobals "max"=some none)(zb_range:PySem.W.nsIn K mainGlobals "range"=some none)(zb_set:PySem.W.nsIn K mainGlobals "set"=some none)(zb_str:PySem.W.nsIn K mainGlobals "str"=some none)(zb_tuple:PySem.W.nsIn K mainGlobals "tuple"=some none)(zb_zip:PySem.W.nsIn K mainGlobals "zip"=some none)(zc_MOST_DIGITS:PySem.W.nsIn K mainGlobals "MOST_DIGITS"=some (some (.int 7 tc_MOST_DIGITS)))(zc_MOST_LETTERS:PySem.W.nsIn K mainGlobals "MOST_LETTERS"=some (some (.int 8 tc_MOST_LETTERS)))(zc_MOST_NUMBER:PySem.W.nsIn K mainGlobals "MOST_NUMBER"=some (some (.int 1000000 tc_MOST_NUMBER)))(zc_MOST_SIGNS:PySem.W.nsIn K mainGlobals "MOST_SIGNS"=some (some (.int 12 tc_MOST_SIGNS)))(zt_LEAVES:PySem.W.nsIn K mainGlobals "LEAVES"=some (some (.ref c_LEAVES)))(zt_MAIN:PySem.W.nsIn K mainGlobals "MAIN"=some (some (.ref c_MAIN)))(zt_WAYS:PySem.W.nsIn K mainGlobals "WAYS"=some (some (.ref c_WAYS)))(zt_WHERES:PySem.W.nsIn K mainGlobals "WHERES"=some (some (.ref c_WHERES)))(zt_FORMS:PySem.W.nsIn K mainGlobals "FORMS"=some (some (.ref c_FORMS)))(zt_READERS:PySem.W.nsIn K mainGlobals "READERS"=some (some (.ref c_READERS)))(za_is_counts:PySem.W.nsIn K mainGlobals "is_counts"=some (some (.ref a_is_counts)))(za_is_deed_number:PySem.W.nsIn K mainGlobals "is_deed_number"=some (some (.ref a_is_deed_number)))(za_is_hand:PySem.W.nsIn K mainGlobals "is_hand"=some (some (.ref a_is_hand)))(za_is_leave:PySem.W.nsIn K mainGlobals "is_leave"=some (some (.ref a_is_leave)))(za_is_line_or_none:PySem.W.nsIn K mainGlobals "is_line_or_none"=some (some (.ref a_is_line_or_none)))(za_is_name:PySem.W.nsIn K mainGlobals "is_name"=some (some (.ref a_is_name)))(za_is_part:PySem.W.nsIn K mainGlobals "is_part"=some (some (.ref a_is_part)))(za_is_plain_word:PySem.W.nsIn K mainGlobals "is_plain_word"=some (some (.ref a_is_plain_word)))(za_is_side:PySem.W.nsIn K mainGlobals "is_side"=some (some (.ref a_is_side)))(za_is_sign_name_or_none:PySem.W.nsIn K mainGlobals "is_sign_name_or_none"=some (some (.ref a_is_sign_name_or_none)))(za_is_sign_names:PySem.W.nsIn K mainGlobals "is_sign_names"=some (some (.ref a_is_sign_names)))(za_is_signs:PySem.W.nsIn K mainGlobals "is_signs"=some (some (.ref a_is_signs)))(za_is_truth:PySem.W.nsIn K mainGlobals "is_truth"=some (some (.ref a_is_truth)))(za_is_way:PySem.W.nsIn K mainGlobals "is_way"=some (some (.ref a_is_way)))(za_is_word_or_empty:PySem.W.nsIn K mainGlobals "is_word_or_empty"=some (some (.ref a_is_word_or_empty)))(za_is_word_or_none:PySem.W.nsIn K mainGlobals "is_word_or_none"=some (some (.ref a_is_word_or_none)))(za_read_counts:PySem.W.nsIn K mainGlobals "read_counts"=some (some (.ref a_read_counts)))(za_read_name:PySem.W.nsIn K mainGlobals "read_name"=some (some (.ref a_read_name)))(za_read_name_or_none:PySem.W.nsIn K mainGlobals "read_name_or_none"=some (some (.ref a_read_name_or_none)))(za_read_number:PySem.W.nsIn K mainGlobals "read_number"=some (some (.ref a_read_number)))(za_read_part:PySem.W.nsIn K mainGlobals "read_part"=some (some (.ref a_read_part)))(za_read_plain:PySem.W.nsIn K mainGlobals "read_plain"=some (some (.ref a_read_plain)))(za_read_plain_or_empty:PySem.W.nsIn K mainGlobals "read_plain_or_empty"=some (some (.ref a_read_plain_or_empty)))(za_read_plain_or_none:PySem.W.nsIn K mainGlobals "read_plain_or_none"=some (some (.ref a_read_plain_or_none)))(za_read_side:PySem.W.nsIn K mainGlobals "read_side"=some (some (.ref a_read_side)))(za_read_sign_name_or_none:PySem.W.nsIn K mainGlobals "read_sign_name_or_none"=some (some (.ref a_read_sign_name_or_none)))(za_read_truth:PySem.W.nsIn K mainGlobals "read_truth"=some (some (.ref a_read_truth)))(zm_FORMS:L2.MD w K c_FORMS kv_FORMS)(zm_READERS:L2.MD w K c_READERS kv_READERS)(zg_FolkError:PySem.W.nsIn K mainGlobals "FolkError"=some (some (.ref c_FolkError)))(zx_FolkError:PySem.W.excIn K c_FolkError bmV "ValueError.__new__"=true)(zg_NoDeed:PySem.W.nsIn K mainGlobals "NoDeed"=some (some (.ref c_NoDeed)))(zx_NoDeed:PySem.W.excIn K c_NoDeed bmV "ValueError.__new__"=true)(zg_NoLeave:PySem.W.nsIn K mainGlobals "NoLeave"=some (some (.ref c_NoLeave)))(zg_NoPast:PySem.W.nsIn K mainGlobals "NoPast"=some (some (.ref c_NoPast)))(zg_NoRow:PySem.W.nsIn K mainGlobals "NoRow"=some (some (.ref c_NoRow)))(zg_NoSet:PySem.W.nsIn K mainGlobals "NoSet"=some (some (.ref c_NoSet)))(zg_NoThing:PySem.W.nsIn K mainGlobals "NoThing"=some (some (.ref c_NoThing)))(zg_Poured:PySem.W.nsIn K mainGlobals "Poured"=some (some (.ref c_Poured)))(zg_Unlike:PySem.W.nsIn K mainGlobals "Unlike"=some (some (.ref c_Unlike)))(zi__law_refused_ga:PySem.W.findIn K (.ref c_NoDeed) "__getattribute__"=some (some (.builtin "BaseException.__getattribute__")))(zi__law_refused_gt:PySem.W.findIn K (.ref c_NoDeed) "__getattr__"=some none)(zi__law_refused_cl:PySem.W.findIn K (.ref c_NoDeed) "__class__"=some (some (.builtin "object.__class__")))(zi__law_refused_ob:PySem.W.mroIn K c_NoDeed (.type "object")=some true)(zi__law_refused_be:PySem.W.mroIn K c_NoDeed (.type "BaseException")=some true)(zi__law_refused_so:(PySem.W.clsIn K c_NoDeed).isSome=true)(zi__law_refused_NoDeed:PySem.W.kitOne K (.ref c_NoDeed) (.ref c_NoDeed)=some true)(zi__law_refused_ValueError:PySem.W.kitOne K (.ref c_NoDeed) (.type "ValueError")=some true)(zi__law_refused_Poured:PySem.W.kitOne K (.ref c_NoDeed) (.ref c_Poured)=some false)(zi__law_refused_Unlike:PySem.W.kitOne K (.ref c_NoDeed) (.ref c_Unlike)=some false)(zi__law_refused_NoThing:PySem.W.kitOne K (.ref c_NoDeed) (.ref c_NoThing)=some false)(zi__law_refused_NoPast:PySem.W.kitOne K (.ref c_NoDeed) (.ref c_NoPast)=some false)(zi__law_refused_NoRow:PySem.W.kitOne K (.ref c_NoDeed) (.ref c_NoRow)=some false)(zi__law_refused_NoLeave:PySem.W.kitOne K (.ref c_NoDeed) (.ref c_NoLeave)=some false)(zi__law_refused_NoSet:PySem.W.kitOne K (.ref c_NoDeed) (.ref c_NoSet)=some false)(zv_NoDeed_FolkError:abvIn K c_NoDeed c_FolkError=true)(zv_NoDeed_NoDeed:abvIn K c_NoDeed c_NoDeed=true)(z_fCi:FX K "is_word" s_fCi)(z_fBd:FX K "is_tuple_of" s_fBd)(z_fBw:FX K "is_number" s_fBw)(z_fBp:FX K "is_one_of" s_fBp)(z_fCk:FX K "is_main" s_fCk)(z_fBf:FX K "is_any_name" s_fBf)(z_fCl:FX K "is_sign" s_fCl)(z_fCn:FX K "is_hand" s_fCn)(z_fCm:FX K "is_name" s_fCm)(z_fCh:FX K "is_part" s_fCh)(z_fAp:FX K "is_line_or_none" s_fAp)(z_fAx:FX K "is_sign_name" s_fAx)(z_fAb:FX K "is_sign_name_or_none" s_fAb)(z_fCo:FX K "is_side" s_fCo)(z_fAn:FX K "is_sign_of_roll" s_fAn)(z_fCg:FX K "is_signs" s_fCg)(z_fAu:FX K "is_sign_names" s_fAu)(z_fAv:FX K "is_plain_word" s_fAv)(z_fAi:FX K "is_word_or_none" s_fAi)(z_fAh:FX K "is_word_or_empty" s_fAh)(z_fCq:FX K "is_way" s_fCq)(z_fCf:FX K "is_leave" s_fCf)(z_fCe:FX K "is_truth" s_fCe)(z_fAt:FX K "is_deed_number" s_fAt)(z_fCb:FX K "is_counts" s_fCb)(z_fCj:FX K "is_what" s_fCj)(z_fCa:FX K "is_branch" s_fCa)(z_fCp:FX K "is_deed" s_fCp)(z_fBa:FX K "read_number" s_fBa)(z_fBg:FX K "read_plain" s_fBg)(z_fBz:FX K "read_name" s_fBz)(z_fCc:FX K "read_part" s_fCc)(z_fAg:FX K "read_name_or_none" s_fAg)(z_fAs:FX K "read_sign_name" s_fAs)(z_fAa:FX K "read_sign_name_or_none" s_fAa)(z_fBu:FX K "read_side" s_fBu)(z_fBy:FX K "read_sign" s_fBy)(z_fAe:FX K "read_plain_or_none" s_fAe)(z_fAc:FX K "read_plain_or_empty" s_fAc)(z_fBh:FX K "read_truth" s_fBh)(z_fBe:FX K "read_counts" s_fBe)(z_fAz:FX K "read_branch" s_fAz)(z_fBc:FX K "read_listed" s_fBc)(z_fBo:FX K "read_what" s_fBo)(z_fBx:FX K "read_deed" s_fBx)(z_fBk:FX K "_law_draws" s_fBk)(z_fBq:FX K "_law_word" s_fBq)(z_fBn:FX K "_law_roll" s_fBn)(z_fBs:FX K "_law_name" s_fBs)(z_fBm:FX K "_law_part" s_fBm)(z_fAq:FX K "_law_sign_name" s_fAq)(z_fBr:FX K "_law_side" s_fBr)(z_fCd:FX K "_law_sign" s_fCd)(z_fBl:FX K "_law_signs" s_fBl)(z_fAm:FX K "_law_sign_names" s_fAm)(z_fAf:FX K "_law_what_of_signs" s_fAf)(z_fAd:FX K "_law_what_of_marks" s_fAd)(z_fBt:FX K "_law_what" s_fBt)(z_fBb:FX K "_law_branch" s_fBb)(z_fBj:FX K "_law_house" s_fBj)(z_fAk:FX K "_law_shown_name" s_fAk)(z_fAj:FX K "_law_shown_sign" s_fAj)(z_fAl:FX K "_law_shown_side" s_fAl)(z_fAy:FX K "_law_or_none" s_fAy)(z_fAo:FX K "_law_shown_what" s_fAo)(z_fBi:FX K "_law_shown" s_fBi)(z_fAw:FX K "_law_refused" s_fAw)(z_fBv:FX K "_law_menu" s_fBv)(z_fAr:FX K "_law_exchanged" s_fAr)(z_fCr:FX K "law" s_fCr) :
  ∃fd:FuncData,(∀(s:Shared) (v:Value),BindsTo s fd ⟨[v],[]⟩ [("_law_script",v)])/\∀base:Heap,K.In base->base.Ns mainGlobals mg->(∀t∈([]:List Str),base.BuiltinsAt mg (tabP K t))->FnOk l.prog w K mg base CX0 11 fa fd ["_law_script"] sp_fCr:=by
 have T:Txt K mg (fun x=>if x = "MOST_DIGITS" then tc_MOST_DIGITS else if x = "MOST_LETTERS" then tc_MOST_LETTERS else if x = "MOST_NUMBER" then tc_MOST_NUMBER else if x = "MOST_SIGNS" then tc_MOST_SIGNS else 0):=⟨PySem.W.mg_none_of X G zb_ValueError,PySem.W.mg_none_of X G zb_all,PySem.W.mg_none_of X G zb_bool,PySem.W.mg_none_of X G zb_enumerate,PySem.W.mg_none_of X G zb_int,PySem.W.mg_none_of X G zb_isinstance,PySem.W.mg_none_of X G zb_len,PySem.W.mg_none_of X G zb_list,PySem.W.mg_none_of X G zb_max,PySem.W.mg_none_of X G zb_range,PySem.W.mg_none_of X G zb_set,PySem.W.mg_none_of X G zb_str,PySem.W.mg_none_of X G zb_tuple,PySem.W.mg_none_of X G zb_zip,PySem.W.mg_of X G zc_MOST_DIGITS,PySem.W.mg_of X G zc_MOST_LETTERS,PySem.W.mg_of X G zc_MOST_NUMBER,PySem.W.mg_of X G zc_MOST_SIGNS,PySem.W.mg_of X G zt_LEAVES,PySem.W.mg_of X G zt_MAIN,PySem.W.mg_of X G zt_WAYS,PySem.W.mg_of X G zt_WHERES,PySem.W.mg_of X G zt_FORMS,PySem.W.mg_of X G zt_READERS,PySem.W.mg_of X G zg_FolkError,⟨zx_FolkError⟩,PySem.W.mg_of X G zg_NoDeed,⟨zx_NoDeed⟩,PySem.W.mg_of X G zg_NoLeave,PySem.W.mg_of X G zg_NoPast,PySem.W.mg_of X G zg_NoRow,PySem.W.mg_of X G zg_NoSet,PySem.W.mg_of X G zg_NoThing,PySem.W.mg_of X G zg_Poured,PySem.W.mg_of X G zg_Unlike,xAsu zv_NoDeed_FolkError,xAsu zv_NoDeed_NoDeed⟩;obtain @⟨_,_,an,_,_,kV,dc,pm,cd,ct,z1,z2,z3,z4⟩:=z_fCr;have e:=hfa.symm.trans (PySem.W.mg_of X G z1);cases e;refine⟨PySem.W.fnOf "law" "law" (defArgs s_fCr) (defBody s_fCr) (defScope s_fCr) .none kV dc pm an cd ct,fun s v=>.of_eq rfl,fun base _ _ _=>?_⟩;have r_fCi:=ok_fCi (P:=l.prog) (w:=w) (base:=base) T (z_fCi.fo X G);have r_fBd:=ok_fBd (P:=l.prog) (w:=w) (base:=base) T (z_fBd.fo X G);have r_fBw:=ok_fBw (P:=l.prog) (w:=w) (base:=base) T (z_fBw.fo X G);have r_fBp:=ok_fBp (P:=l.prog) (w:=w) (base:=base) T (z_fBp.fo X G);have r_fCe:=ok_fCe (P:=l.prog) (w:=w) (base:=base) T (z_fCe.fo X G);have r_fBa:=ok_fBa (P:=l.prog) (w:=w) (base:=base) T (z_fBa.fo X G);have r_fBh:=ok_fBh (P:=l.prog) (w:=w) (base:=base) T (z_fBh.fo X G);have r_fBk:=ok_fBk (P:=l.prog) (w:=w) (base:=base) T (z_fBk.fo X G);have r_fBq:=ok_fBq (P:=l.prog) (w:=w) (base:=base) T (z_fBq.fo X G);have r_fBs:=ok_fBs (P:=l.prog) (w:=w) (base:=base) T (z_fBs.fo X G);have r_fAk:=ok_fAk (P:=l.prog) (w:=w) (base:=base) T (z_fAk.fo X G);have r_fCk:=ok_fCk (P:=l.prog) (w:=w) (base:=base) T (z_fCk.fo X G) r_fBw r_fBp r_fBd;have r_fBf:=ok_fBf (P:=l.prog) (w:=w) (base:=base) T (z_fBf.fo X G) r_fBw r_fBd r_fCi;have r_fCn:=ok_fCn (P:=l.prog) (w:=w) (base:=base) T (z_fCn.fo X G) r_fCi;have r_fAv:=ok_fAv (P:=l.prog) (w:=w) (base:=base) T (z_fAv.fo X G) r_fCi;have r_fAi:=ok_fAi (P:=l.prog) (w:=w) (base:=base) T (z_fAi.fo X G) r_fCi;have r_fAh:=ok_fAh (P:=l.prog) (w:=w) (base:=base) T (z_fAh.fo X G) r_fBp r_fCi;have r_fCq:=ok_fCq (P:=l.prog) (w:=w) (base:=base) T (z_fCq.fo X G) r_fBp;have r_fCf:=ok_fCf (P:=l.prog) (w:=w) (base:=base) T (z_fCf.fo X G) r_fBp;have r_fAt:=ok_fAt (P:=l.prog) (w:=w) (base:=base) T (z_fAt.fo X G) r_fBw;have r_fCb:=ok_fCb (P:=l.prog) (w:=w) (base:=base) T (z_fCb.fo X G) r_fBw r_fBd;have r_fBg:=ok_fBg (P:=l.prog) (w:=w) (base:=base) T (z_fBg.fo X G) r_fCi;have r_fBe:=ok_fBe (P:=l.prog) (w:=w) (base:=base) T (z_fBe.fo X G) r_fBa;have r_fBn:=ok_fBn (P:=l.prog) (w:=w) (base:=base) T (z_fBn.fo X G) r_fBk r_fBq;have r_fBm:=ok_fBm (P:=l.prog) (w:=w) (base:=base) T (z_fBm.fo X G) r_fBs;have r_fAq:=ok_fAq (P:=l.prog) (w:=w) (base:=base) T (z_fAq.fo X G) r_fBs;have r_fBb:=ok_fBb (P:=l.prog) (w:=w) (base:=base) T (z_fBb.fo X G) r_fBq;have r_fAj:=ok_fAj (P:=l.prog) (w:=w) (base:=base) T (z_fAj.fo X G) r_fAk;have r_fAl:=ok_fAl (P:=l.prog) (w:=w) (base:=base) T (z_fAl.fo X G) r_fAk;have r_fAy:=ok_fAy (P:=l.prog) (w:=w) (base:=base) T (z_fAy.fo X G) r_fAk;have r_fBv:=ok_fBv (P:=l.prog) (w:=w) (base:=base) T (z_fBv.fo X G) r_fBs r_fAk r_fBq;have r_fCl:=ok_fCl (P:=l.prog) (w:=w) (base:=base) T (z_fCl.fo X G) r_fBf r_fCk r_fBp r_fBd r_fCi;have r_fCm:=ok_fCm (P:=l.prog) (w:=w) (base:=base) T (z_fCm.fo X G) r_fBf;have r_fCa:=ok_fCa (P:=l.prog) (w:=w) (base:=base) T (z_fCa.fo X G) r_fCn r_fBd r_fCi;have r_fBz:=ok_fBz (P:=l.prog) (w:=w) (base:=base) T (z_fBz.fo X G) r_fBa r_fBg;have r_fAs:=ok_fAs (P:=l.prog) (w:=w) (base:=base) T (z_fAs.fo X G) r_fBa r_fBg;have r_fAe:=ok_fAe (P:=l.prog) (w:=w) (base:=base) T (z_fAe.fo X G) r_fBg;have r_fAc:=ok_fAc (P:=l.prog) (w:=w) (base:=base) T (z_fAc.fo X G) r_fBg;have r_fAz:=ok_fAz (P:=l.prog) (w:=w) (base:=base) T (z_fAz.fo X G) r_fBg;have r_fBr:=ok_fBr (P:=l.prog) (w:=w) (base:=base) T (z_fBr.fo X G) r_fAq;have r_fCd:=ok_fCd (P:=l.prog) (w:=w) (base:=base) T (z_fCd.fo X G) r_fBm r_fBq;have r_fAm:=ok_fAm (P:=l.prog) (w:=w) (base:=base) T (z_fAm.fo X G) r_fAq;have r_fAo:=ok_fAo (P:=l.prog) (w:=w) (base:=base) T (z_fAo.fo X G) r_fAy r_fAk r_fAl r_fAj;have r_fAr:=ok_fAr (P:=l.prog) (w:=w) (base:=base) T (z_fAr.fo X G) r_fBv;have r_fCh:=ok_fCh (P:=l.prog) (w:=w) (base:=base) T (z_fCh.fo X G) r_fCk r_fCm;have r_fAp:=ok_fAp (P:=l.prog) (w:=w) (base:=base) T (z_fAp.fo X G) r_fCm;have r_fAx:=ok_fAx (P:=l.prog) (w:=w) (base:=base) T (z_fAx.fo X G) r_fCm r_fBw r_fBd;have r_fCc:=ok_fCc (P:=l.prog) (w:=w) (base:=base) T (z_fCc.fo X G) r_fBz;have r_fAg:=ok_fAg (P:=l.prog) (w:=w) (base:=base) T (z_fAg.fo X G) r_fBz;have r_fAa:=ok_fAa (P:=l.prog) (w:=w) (base:=base) T (z_fAa.fo X G) r_fAs;have r_fBu:=ok_fBu (P:=l.prog) (w:=w) (base:=base) T (z_fBu.fo X G) r_fAs;have r_fBl:=ok_fBl (P:=l.prog) (w:=w) (base:=base) T (z_fBl.fo X G) r_fCd;have r_fAd:=ok_fAd (P:=l.prog) (w:=w) (base:=base) T (z_fAd.fo X G) r_fBs r_fBm r_fBr r_fBq;have r_fBi:=ok_fBi (P:=l.prog) (w:=w) (base:=base) T (z_fBi.fo X G) r_fAo;have r_fAb:=ok_fAb (P:=l.prog) (w:=w) (base:=base) T (z_fAb.fo X G) r_fAx;have r_fCo:=ok_fCo (P:=l.prog) (w:=w) (base:=base) T (z_fCo.fo X G) r_fBp r_fAx r_fBd;have r_fAn:=ok_fAn (P:=l.prog) (w:=w) (base:=base) T (z_fAn.fo X G) r_fCh r_fCl;have r_fAu:=ok_fAu (P:=l.prog) (w:=w) (base:=base) T (z_fAu.fo X G) r_fAx;have r_fBy:=ok_fBy (P:=l.prog) (w:=w) (base:=base) T (z_fBy.fo X G) r_fCc r_fBg;have r_fAf:=ok_fAf (P:=l.prog) (w:=w) (base:=base) T (z_fAf.fo X G) r_fBs r_fBm r_fAq r_fAm r_fBl;have r_fCg:=ok_fCg (P:=l.prog) (w:=w) (base:=base) T (z_fCg.fo X G) r_fAn;have r_fBc:=ok_fBc (P:=l.prog) (w:=w) (base:=base) T (z_fBc.fo X G) r_fBy r_fAs;have r_fBt:=ok_fBt (P:=l.prog) (w:=w) (base:=base) T (z_fBt.fo X G) r_fBm r_fAd r_fAf r_fBq;have r_fCj:=ok_fCj (P:=l.prog) (w:=w) (base:=base) T (z_fCj.fo X G) (zm_FORMS.kdi (by decide +kernel) (by decide +kernel)) (xAks r_fCb r_fAt r_fCn r_fCf r_fAp r_fCm r_fCh r_fAv r_fCo r_fAb r_fAu r_fCg r_fCe r_fCq r_fAh r_fAi (PySem.W.mg_of X G za_is_counts) (PySem.W.mg_of X G za_is_deed_number) (PySem.W.mg_of X G za_is_hand) (PySem.W.mg_of X G za_is_leave) (PySem.W.mg_of X G za_is_line_or_none) (PySem.W.mg_of X G za_is_name) (PySem.W.mg_of X G za_is_part) (PySem.W.mg_of X G za_is_plain_word) (PySem.W.mg_of X G za_is_side) (PySem.W.mg_of X G za_is_sign_name_or_none) (PySem.W.mg_of X G za_is_sign_names) (PySem.W.mg_of X G za_is_signs) (PySem.W.mg_of X G za_is_truth) (PySem.W.mg_of X G za_is_way) (PySem.W.mg_of X G za_is_word_or_empty) (PySem.W.mg_of X G za_is_word_or_none));have r_fBo:=ok_fBo (P:=l.prog) (w:=w) (base:=base) T (z_fBo.fo X G) r_fBc (zm_READERS.kdi (by decide +kernel) (by decide +kernel)) (xAgg r_fBe r_fBz r_fAg r_fBa r_fCc r_fBg r_fAc r_fAe r_fBu r_fAa r_fBh (PySem.W.mg_of X G za_read_counts) (PySem.W.mg_of X G za_read_name) (PySem.W.mg_of X G za_read_name_or_none) (PySem.W.mg_of X G za_read_number) (PySem.W.mg_of X G za_read_part) (PySem.W.mg_of X G za_read_plain) (PySem.W.mg_of X G za_read_plain_or_empty) (PySem.W.mg_of X G za_read_plain_or_none) (PySem.W.mg_of X G za_read_side) (PySem.W.mg_of X G za_read_sign_name_or_none) (PySem.W.mg_of X G za_read_truth));have r_fBj:=ok_fBj (P:=l.prog) (w:=w) (base:=base) T (z_fBj.fo X G) r_fBb r_fBk r_fBn r_fBt;have r_fCp:=ok_fCp (P:=l.prog) (w:=w) (base:=base) T (z_fCp.fo X G) r_fCa r_fCb r_fCm r_fBd r_fCj;have r_fBx:=ok_fBx (P:=l.prog) (w:=w) (base:=base) T (z_fBx.fo X G) r_fCp r_fAz r_fBe r_fBa r_fBo;have r_fAw:=ok_fAw (P:=l.prog) (w:=w) (base:=base) T (z_fAw.fo X G) r_fBx (isx_of ⟨zi__law_refused_ga,zi__law_refused_gt,zi__law_refused_cl,zi__law_refused_ob,zi__law_refused_be⟩ (jh.mp zi__law_refused_so) (k_NoDeed:=zi__law_refused_NoDeed) (k_ValueError:=zi__law_refused_ValueError) (k_Poured:=zi__law_refused_Poured) (k_Unlike:=zi__law_refused_Unlike) (k_NoThing:=zi__law_refused_NoThing) (k_NoPast:=zi__law_refused_NoPast) (k_NoRow:=zi__law_refused_NoRow) (k_NoLeave:=zi__law_refused_NoLeave) (k_NoSet:=zi__law_refused_NoSet));exact ok_fCr T (xAqk (st:=s_fCr) z2 z3 z4) r_fBk r_fAr r_fBj r_fAw r_fBi r_fCp r_fBx
end My
namespace PySem.W.Fast
def tw17553033359931327520:=()
def tw17634681309760745600:=()
def tw16924194140247688384:=()
def tw5736438784493059264:=()
def tw17367559327341812960:=()
def tw16755990423916116256:=()
def tw12365502304150175040:=()
def tw11140225556040316288:=()
def tw13800665705064593824:=()
def tw12480042663769651776:=()
def tw7261064385981034048:=()
def tw9628034670253227648:=()
def tw16035178547490944736:=()
def tw16659869738671971072:=()
def tw4999620506108407552:=()
def tw15493395141585068864:=()
def tw12453424735936934752:=()
def tw10215909342324848544:=()
def tw16937025901804519328:=()
def tw6702041042250302400:=()
def tw14428497537839359968:=()
def tw15811926581675362401:=()
def tw16591779236422688897:=()
def tw3553418836240720097:=()
def tw12458250736884519201:=()
def tw7458092205845251361:=()
def tw4813984499629478337:=()
def tw7131336225984094689:=()
def tw75563429273465313:=()
def tw12931866100089593345:=()
def tw4481275443178463777:=()
def tw10859987996613520961:=()
def tw16935300172756764257:=()
def tw11980924161303300737:=()
def tw6690222031228344065:=()
def tw9420688433651405633:=()
def tw12827742042432462657:=()
def tw15662042677819779969:=()
def tw11603881804744026017:=()
def tw17706455222879818689:=()
def tw4504660049313279937:=()
def tw3360619589588220897:=()
def tw16827321136672919554:=()
def tw7057772607727802530:=()
def tw12699727202611860898:=()
def tw1336546856119100834:=()
def tw18124460368282780130:=()
def tw1103968224987888194:=()
def tw339371300307685986:=()
def tw17272565817021824738:=()
def tw9895357831075826562:=()
def tw14616312798552495074:=()
def tw11791019486901250018:=()
def tw8587304727746232387:=()
def tw1584679962695502979:=()
def tw12060696293295577219:=()
def tw12310032746047048003:=()
def tw3088686404378761571:=()
def tw10213492445460027747:=()
def tw3304037144159628675:=()
def tw4247701698616308163:=()
def tw13031673065982087651:=()
def tw9047690370923749923:=()
def tw323991714290694851:=()
def tw11075762962359230179:=()
def tw17730377014508679971:=()
def tw2220355148421275523:=()
def tw5344084790533018499:=()
def tw8875164361531031427:=()
def tw16772445397254591395:=()
def tw6812368543820246979:=()
def tw18157058866852716612:=()
def tw8505338442391504964:=()
def tw3776558004805606500:=()
def tw10034155709723914340:=()
def tw16150474377250178276:=()
def tw2491685311630554372:=()
def tw154767281160598980:=()
def tw7379082457053717956:=()
def tw4517660775237876196:=()
def tw1183136503402191364:=()
def tw5712249939620299300:=()
def tw4342610606805104196:=()
def tw11399457582951579236:=()
def tw13625730860161326692:=()
def tw5870940605698264708:=()
def tw7321216987949428356:=()
def tw10434448232215903876:=()
def tw15613904362685370020:=()
def tw707449080122622692:=()
def tw10634630536424886020:=()
def tw15081597556976968452:=()
def tw14150786337478795044:=()
def tw8863407379435460:=()
def tw10074078052811944900:=()
def tw3334873741080725476:=()
def tw6953893739553508324:=()
def tw10226221729009118180:=()
def tw5808527907642457189:=()
def tw12896891229061163173:=()
def tw16191205231210504357:=()
def tw8799315629907515653:=()
def tw6398297379407275301:=()
def tw17735878778514350405:=()
def tw8703169199783462213:=()
def tw7306785758403708261:=()
def tw8559206649873299813:=()
def tw3807749381102362981:=()
def tw11941698709289142661:=()
def tw14504216623051027077:=()
def tw2702983369790127749:=()
def tw14844157502359249637:=()
def tw1137934528568348389:=()
def tw1165056309146768101:=()
def tw10862821204555625221:=()
def tw11178541706416627493:=()
def tw8912435680236944165:=()
def tw11456708881956088645:=()
def tw6204248694158530405:=()
def tw2305502088171544421:=()
def tw15953133678946908005:=()
def tw6500316586873251717:=()
def tw5060146009073136549:=()
def tw9804477153775945701:=()
def tw13638507718367990790:=()
def tw12411475441383759910:=()
def tw17687308092534901894:=()
def tw7825369812848431238:=()
def tw13165538649231548614:=()
def tw484262296847606022:=()
def tw8156064952224722182:=()
def tw6272250272438544774:=()
def tw15022271108451809670:=()
def tw18156979205517527462:=()
def tw6874663180354259398:=()
def tw15708846023891330502:=()
def tw7171870980822250950:=()
def tw12821170452332930566:=()
def tw12704021916427729542:=()
def tw4286139840926908070:=()
def tw4684090111415732934:=()
def tw3841492182102037286:=()
def tw9955990845904855878:=()
def tw2697140540340052806:=()
def tw2858001834063565766:=()
def tw7899906934447997991:=()
def tw5163807527856690215:=()
def tw1717088022571140167:=()
def tw4884699277257451751:=()
def tw5475017311125998823:=()
def tw16122769487163552103:=()
def tw3629101063528366471:=()
def tw15318334946506018215:=()
def tw15961502272833226151:=()
def tw12706575211913061831:=()
def tw15450643365042936551:=()
def tw13310283387584116455:=()
def tw14119539941190302535:=()
def tw17532738879068053351:=()
def tw17590991798310587335:=()
def tw16345671277602988168:=()
def tw4531668234103816552:=()
def tw781109640159328648:=()
def tw1761618763532108168:=()
def tw18316166554498319784:=()
def tw13904471191487317672:=()
def tw11895773554883516136:=()
def tw1881595296242324232:=()
def tw8001599804227574536:=()
def tw9781856945287806760:=()
def tw11631542779702363976:=()
def tw1084603012184662920:=()
def tw8059323141935561608:=()
def tw3545828726585641960:=()
def tw11820885502515289064:=()
def tw5939438606559683625:=()
def tw7682146885549725769:=()
def tw9777018837729167497:=()
def tw688226288394158217:=()
def tw8181525742351145129:=()
def tw5099078770259977449:=()
def tw8917168998307295721:=()
def tw3500081060073099849:=()
def tw9280395311907557961:=()
def tw945933821090625097:=()
def tw10038339080450012745:=()
def tw14742249130345414313:=()
def tw2966381448860926697:=()
def tw7844918700447855337:=()
def tw7267937021651325769:=()
def tw17579884328099406665:=()
def tw7918338725267051433:=()
def tw11596636703139804105:=()
def tw843089529248366569:=()
def tw14200896004736667625:=()
def tw10640891151824521322:=()
def tw14463144301093311658:=()
def tw635102758697668810:=()
def tw8125053683556204778:=()
def tw3069590987355031818:=()
def tw3833796123849651498:=()
def tw767836239514731882:=()
def tw13607455618025145770:=()
def tw16591655677110781386:=()
def tw12914453465754006986:=()
def tw14460555754523637354:=()
def tw7273184666522025610:=()
def tw15781032611922860746:=()
def tw1383124532596627210:=()
def tw12604695425565920042:=()
def tw13616806270102355786:=()
def tw413511657057583018:=()
def tw12198530521543177162:=()
def tw6151871342599705643:=()
def tw14334456524435523659:=()
def tw10670694380199712939:=()
def tw561683724599116971:=()
def tw8145871873599914219:=()
def tw9979186854449112395:=()
def tw16679304890850582955:=()
def tw8284674313413511627:=()
def tw17596231259904036395:=()
def tw13783519730524851915:=()
def tw7090323861520489163:=()
def tw5891165416578219723:=()
def tw14355271605730858827:=()
def tw4445838387366723531:=()
def tw12755534185934408716:=()
def tw6395982265933434924:=()
def tw10245945871756089548:=()
def tw15405366008592796972:=()
def tw11185006891235840332:=()
def tw17656901234752772524:=()
def tw15909875663544418732:=()
def tw2098746605590944300:=()
def tw15570994417037495884:=()
def tw10852485631874464332:=()
def tw10089760640236410508:=()
def tw15219921846229484204:=()
def tw10590927217108432588:=()
def tw20073111552610092:=()
def tw3130664099092906924:=()
def tw13605539452302206989:=()
def tw3198467242028833869:=()
def tw5896692273751795821:=()
def tw5283865216436801677:=()
def tw1757250119262044333:=()
def tw1246326874344968525:=()
def tw1085509243081095565:=()
def tw7251112672629646957:=()
def tw590950854644698829:=()
def tw16983629077691505357:=()
def tw7071378903608076013:=()
def tw4852416601558924013:=()
def tw3022827774141668301:=()
def tw564278351877154926:=()
def tw7192835240533981294:=()
def tw14955239523922865358:=()
def tw8560949833806597518:=()
def tw7450572268819182990:=()
def tw2164180018932708782:=()
def tw12111682196640356782:=()
def tw2681384189637168974:=()
def tw1262608740446015406:=()
def tw13358172574909209518:=()
def tw10584926437058706350:=()
def tw9886381004839416782:=()
def tw15741998025424141359:=()
def tw6668361352659420271:=()
def tw14580563277840123023:=()
def tw16707291735392147663:=()
def tw1468042161186883823:=()
def tw11257312535228637519:=()
def tw13098670927350127951:=()
def tw15538842740782164335:=()
def tw9950977392707956143:=()
def tw18225040134732957263:=()
def tw9042000908946531983:=()
def tw3673647884354557583:=()
def tw5738858694798378767:=()
def tw4147651625228046127:=()
def tw2590614301888336719:=()
def tw5195092012173809487:=()
def tw1698586565697097647:=()
def tw3670197903547348975:=()
def tw16748428951022296080:=()
def tw18334626878690901040:=()
def tw14854138964332136496:=()
def tw17358428397603420240:=()
def tw16179679956959529200:=()
def tw8844089829225771248:=()
def tw6967248311426004272:=()
def tw4248714983358214544:=()
def tw4160703411517089168:=()
def tw2217736699282104752:=()
def tw16012850533311780336:=()
def tw8014706715354531312:=()
def tw3323978387884262928:=()
def tw8387502144091810320:=()
def tw16580917283520192048:=()
def tw2913068602365540944:=()
def tw467297851853957744:=()
def tw15528133517244013200:=()
def tw2205510735087296208:=()
def tw16082321475480959728:=()
def tw6269327531512650480:=()
def tw13341928183882589040:=()
def tw12303420445126992848:=()
def tw13180041116391256048:=()
def tw5319719610706058257:=()
def tw12684604360010925073:=()
def tw12176697789688594513:=()
def tw9720592510973709425:=()
def tw8288042905462661329:=()
def tw4715045960166613201:=()
def tw9795475804776185105:=()
def tw8469143898568463665:=()
def tw12883102960904164657:=()
def tw2191839084359675185:=()
def tw15619713423881791825:=()
def tw12152923590744271281:=()
def tw17401130932419930577:=()
def tw4460566161831171569:=()
def tw4566025598696375953:=()
def tw10153499402732761809:=()
def tw13065231944083229489:=()
def tw2906854702286243665:=()
def tw17757908009592898449:=()
def tw3297371848520293297:=()
def tw16478690670696662066:=()
def tw7107428917066647634:=()
def tw1760097250309298258:=()
def tw3787413680354254930:=()
def tw17560667316929374386:=()
def tw12603432763345393874:=()
def tw1650060276836374770:=()
def tw13824740170845448466:=()
def tw12785614426658643250:=()
def tw6736320617675323794:=()
def tw4537496595699979698:=()
def tw1751391507089288722:=()
def tw2586479729227262546:=()
def tw13257507513089341042:=()
def tw3185234339788030578:=()
def tw1625651367269790354:=()
def tw10136041837289211666:=()
def tw13467538404058317618:=()
def tw13278388280947238706:=()
def tw6208565770432241522:=()
def tw986271305305674706:=()
def tw608449508168018035:=()
def tw12411534922155109555:=()
def tw12599995925919880435:=()
def tw169548193823463699:=()
def tw12340231924795476243:=()
def tw6797698929003522451:=()
def tw14420047153226974643:=()
def tw14619984389157360115:=()
def tw8512691589406740979:=()
def tw250400518316745203:=()
def tw1426083852351952435:=()
def tw51068549277770355:=()
def tw16579035976809123475:=()
def tw17969797552446826195:=()
def tw3926693942131395379:=()
def tw14967840921007670292:=()
def tw17743681171267633204:=()
def tw8381947620582026292:=()
def tw7008533898540892468:=()
def tw12493680989666592052:=()
def tw14877075810512096564:=()
def tw7434726749625381172:=()
def tw7164509096843175284:=()
def tw17188950875159511412:=()
def tw13293058287263231380:=()
def tw10444484071240022420:=()
def tw2793396817378276756:=()
def tw12936722548071204276:=()
def tw15021455132266656212:=()
def tw434827443300447732:=()
def tw10422018224496983572:=()
def tw9296574309621190292:=()
def tw7648031610130895540:=()
def tw13627431530556566196:=()
def tw8414917569247808212:=()
def tw15158461259762358004:=()
def tw13309281419750545172:=()
def tw12552589940019104564:=()
def tw13052581636165880853:=()
def tw3610852242494036053:=()
def tw6974826973341738069:=()
def tw17306962756542024949:=()
def tw1530333218374765909:=()
def tw11943297696490052981:=()
def tw6958043814869871061:=()
def tw15268545914335205877:=()
def tw11176644114006063701:=()
def tw16703051300708672085:=()
def tw16668846319499423541:=()
def tw6856626240676964245:=()
def tw6341295060654404565:=()
def tw11094563377834192918:=()
def tw1714668806550600726:=()
def tw991070804757025814:=()
def tw5189569709354860630:=()
def tw8432475964156554550:=()
def tw10307731074119525782:=()
def tw15126877065863676374:=()
def tw5128750951478524406:=()
def tw17887955361377491478:=()
def tw16654857325198494358:=()
def tw13734886009606973078:=()
def tw16670565078898973334:=()
def tw5403463117851094774:=()
def tw2306364570744377174:=()
def tw16391429337734736790:=()
def tw9091469141635378070:=()
def tw11843297068909811606:=()
def tw2843264581554433014:=()
def tw1339231417857157110:=()
def tw16824323265057860598:=()
def tw112287709386988631:=()
def tw10303560748656706711:=()
def tw3354772248294178103:=()
def tw5445936897285985591:=()
def tw15361273025944724823:=()
def tw4544309600326648183:=()
def tw9748118887203242359:=()
def tw5041803834400187831:=()
def tw2960130455784879575:=()
def tw6647524742343657015:=()
def tw6051047856445649463:=()
def tw11254114343120862807:=()
def tw913046948945402519:=()
def tw2698154304411854519:=()
def tw11889478604693404343:=()
def tw6938763525955377943:=()
def tw6088981709153824631:=()
def tw7949479535716296599:=()
def tw9413936300557853752:=()
def tw2367719270982648888:=()
def tw17469022291431656664:=()
def tw2729074662196914424:=()
def tw11135479890503354648:=()
def tw14219533535822727512:=()
def tw1502138194661410232:=()
def tw13017442824627906008:=()
def tw1870204904117843448:=()
def tw4890186653928508984:=()
def tw10349618469960726136:=()
def tw9048505556716846744:=()
def tw5540157493454493368:=()
def tw13885843518809075416:=()
def tw9408784308096774904:=()
def tw11251286168608255800:=()
def tw15263362707334191960:=()
def tw12470573300028192632:=()
def tw2239012357011074008:=()
def tw8751449102341380121:=()
def tw660100573877284953:=()
def tw11091070975833600121:=()
def tw14183754319495942297:=()
def tw10985806460780572825:=()
def tw1575481048119810233:=()
def tw13471216134030097657:=()
def tw12818562369926638937:=()
def tw6194618828777657721:=()
def tw10506414403542160761:=()
def tw10184701640962189689:=()
def tw16812659423113963001:=()
def tw11641377820946438649:=()
def tw9745095737715213849:=()
def tw7021169685641989721:=()
def tw7837422707264841337:=()
def tw8012178299647887065:=()
def tw6984211499796178681:=()
def tw9719841960281693945:=()
def tw2407461320650377017:=()
def tw3262961586325394233:=()
def tw17357292956580950841:=()
def tw18258252637915350873:=()
def tw1672695633133924185:=()
def tw12726824698259795801:=()
def tw9697136568377635673:=()
def tw15679474972958690169:=()
def tw11531233362146149273:=()
def tw11369252098595105689:=()
def tw5150631832481395641:=()
def tw140204437898050746:=()
def tw15522050263591288058:=()
def tw15542136912960823578:=()
def tw9190915442957470010:=()
def tw209773021586628954:=()
def tw10019607673219675514:=()
def tw11563266474810973594:=()
def tw13717755130939019770:=()
def tw1271782899336453626:=()
def tw18162234486436200986:=()
def tw18028258014946298394:=()
def tw14252522671095316058:=()
def tw11037095734381313690:=()
def tw9218434794610142938:=()
def tw3389267753247903514:=()
def tw8765233381784245114:=()
def tw3606446427513701274:=()
def tw14760361543739573178:=()
def tw3570749638462891962:=()
def tw15063186440566451194:=()
def tw9033090737627498555:=()
def tw12569819018496137275:=()
def tw2250957934902685787:=()
def tw15770005957658604635:=()
def tw13298961349558644923:=()
def tw641108160638463195:=()
def tw4853348737158196507:=()
def tw9416645382507225435:=()
def tw14873766289299576187:=()
def tw9149583344129720699:=()
def tw8619496950906137051:=()
def tw9218673986364435963:=()
def tw6388806050396165659:=()
def tw14595336810648112731:=()
def tw12246957110257376891:=()
def tw2558065354619310747:=()
def tw1055056127630443195:=()
def tw13223482250801641243:=()
def tw11157754224526239547:=()
def tw2507064455188259707:=()
def tw9602966960738215835:=()
def tw7200349998664043451:=()
def tw13036990742331317211:=()
def tw6638926649514507324:=()
def tw16759600955568309468:=()
def tw3568781724409433308:=()
def tw3651395209965804796:=()
def tw8518580624342125852:=()
def tw17109343147178336572:=()
def tw17653076881728722428:=()
def tw12367122565841543740:=()
def tw6651087839119810172:=()
def tw168140180536563452:=()
def tw15024106951354714908:=()
def tw13028573439735478076:=()
def tw15144471538927213404:=()
def tw747061019049829340:=()
def tw18393948072100610044:=()
def tw5316928082868750365:=()
def tw9996190781857616061:=()
def tw11092417751567089917:=()
def tw13342260801299878141:=()
def tw14143439271668298045:=()
def tw11953999071565187389:=()
def tw5392589960612800957:=()
def tw7035888946131235261:=()
def tw2958898136719542749:=()
def tw6598024325611826685:=()
def tw17940918928921308701:=()
def tw13452963940919865949:=()
def tw11203689241131320957:=()
def tw6176286551984563837:=()
def tw15272196670417076893:=()
def tw8822846032647850685:=()
def tw18438930918866349789:=()
def tw15269704981830149981:=()
def tw14322824189708706878:=()
def tw2582338134160836798:=()
def tw95416264730947774:=()
def tw5676471106379377886:=()
def tw8156322488756231422:=()
def tw4142457432849789182:=()
def tw13965744111570422046:=()
def tw2521244812486660414:=()
def tw2973535351285052766:=()
def tw6633401488378037598:=()
def tw15307658877552716126:=()
def tw5791052776159132190:=()
def tw18040385014607917630:=()
def tw9778376682349559358:=()
def tw13708377577027915358:=()
def tw5106708337361511038:=()
def tw9197338292631723678:=()
def tw2236068170476655390:=()
def tw8978770703158799134:=()
def tw10765594272195566462:=()
def tw6902161442461418430:=()
def tw8654805454963086399:=()
def tw13682380230572942399:=()
def tw17586011957981041759:=()
def tw5477980516817509567:=()
def tw2195496071265558719:=()
def tw3340346625441764799:=()
def tw3544861703263405535:=()
def tw12447104532389699071:=()
def tw5168032912975662719:=()
def tw2332022606689616511:=()
def tw4532415920441126559:=()
def tw9444917627217317567:=()
def tw15870452218906840799:=()
def tw7444412836105234175:=()
def tw16202324210369890143:=()
def tw4596651134031571839:=()
def tw10894300091793485695:=()
def tw3252836781429211071:=()
def tw4716134796972386828:=()
end PySem.W.Fast
open PySem PySem.W PyProof.Rows
set_option maxRecDepth 100000 in
set_option maxHeartbeats 0 in
theorem PySem.Challenge.cw_pagefolk_k10_whole_any_words_holds : PySem.Challenge.rw_pagefolk_k10_whole_any_words.Holds := by
 w_on;o_law;k_head;(case hw=>w_witness2)
 k_fill
 refine L2.walk_ofQ (l:=PySem.Challenge.rw_pagefolk_k10_whole_any_words) (n:=63) (k:=11) (x:="_law_script") (CX:=L2.CX0) (sp:=My.sp_fCr) (Ps:=[]) [] My.MS (fun _=>0) rfl (by decide) rfl ⟨rfl,by decide,by decide⟩ (fun w h Y=>PySem.W.kIn_of Y) (fun w h Y Q z=>nomatch z) (fun w Q z=>nomatch z) ?hnt ?hnl (fun w t z=>nomatch z) (fun w t z=>nomatch z) ?hms (by decide) ?F My.law_specq (fun _ _ _ _ z=>z)
 case hms=>(intro w;kernel_rfl)
 case hnt=>(intro w;kernel_rfl)
 case hnl=>(intro w;kernel_rfl)
 case F =>
  intro w mg fa h KX G hmg;refine' My.all_mk KX G hmg ?_ ?_ ?_ ?_ ?_ ?_ ?_ ?_ ?_ ?_ ?_ ?_ ?_ ?_ ?_ ?_ ?_ ?_ ?_ ?_ ?_ ?_ ?_ ?_ ?_ ?_ ?_ ?_ ?_ ?_ ?_ ?_ ?_ ?_ ?_ ?_ ?_ ?_ ?_ ?_ ?_ ?_ ?_ ?_ ?_ ?_ ?_ ?_ ?_ ?_ ?_ ?_ ?_ ?zg_FolkError ?_ ?zg_NoDeed ?_ ?zg_NoLeave ?zg_NoPast ?zg_NoRow ?zg_NoSet ?zg_NoThing ?zg_Poured ?zg_Unlike ?_ ?_ ?_ ?_ ?_ ?_ ?_ ?_ ?_ ?_ ?_ ?_ ?_ ?_ ?_ ?_ ?_ ?_ ?_ ?_ ?_ ?_ ?_ ?_ ?_ ?_ ?_ ?_ ?_ ?_ ?_ ?_ ?_ ?_ ?_ ?_ ?_ ?_ ?_ ?_ ?_ ?_ ?_ ?_ ?_ ?_ ?_ ?_ ?_ ?_ ?_ ?_ ?_ ?_ ?_ ?_ ?_ ?_ ?_ ?_ ?_ ?_ ?_ ?_ ?_ ?_ ?_ ?_ ?_ ?_ ?_ ?_ ?_ ?_ ?_ ?_ ?_ ?_ ?_ ?_ ?_ ?_ ?_ ?_ ?_ ?_ ?_
  (case zg_FolkError=>k_is)
  (case zg_NoDeed=>k_is)
  (case zg_NoLeave=>k_is)
  (case zg_NoPast=>k_is)
  (case zg_NoRow=>k_is)
  (case zg_NoSet=>k_is)
  (case zg_NoThing=>k_is)
  (case zg_Poured=>k_is)
  (case zg_Unlike=>k_is)
  all_goals try first|k_is|(refine' L2.FX.mk ?z1 ?z2 ?z3 ?z4;(case z1=>k_is);(case z2=>k_is);(case z3=>k_is);(case z4=>k_is))|(refine' L2.MD.mk ?z1 ?z2;(case z1=>k_is);(case z2=>kernel_rfl))|kernel_rfl