import PyProof.Rows.All
import Wide.All
import OpenK.AllK
import Wide.FinOn
import Lean
import PyProof.EqAt
import PyProof.EqKinds
import PyProof.TupleCall
import KE.KSortTup
import KE.KDictOf
import PyProof.AttrMissHeap
import KE.KSortKey
import KE.KEqDict
import KE.KNestM
import KE.KLam
import KE.KBoundM
import KE.KSuperObj
import PySem.Challenge.RW_pagefolk_k04_pasts_and_keys
set_option Elab.async false
set_option linter.all false
set_option maxRecDepth 100000
def qg:=@List.length_map
def qh:=@Nat.le_refl
def qi:=@List.getElem?_eq_getElem
def qj:=@Nat.ne_of_lt
def qk:=@List.mem_map
def ql:=@List.getElem?_map
def qm:=@Nat.le_trans
def qo:=@List.mem_of_getElem?
def qp:=@Bool.false_ne_true
def qq:=@List.getD_eq_getElem?_getD
def qr:=@List.mem_cons_self
def qu:=@Nat.zero_le
def qv:=@List.length_append
def qw:=@List.mem_cons_of_mem
def qx:=@List.getElem?_eq_some_iff
def qy:=@List.length_cons
def qz:=@Nat.lt_of_lt_of_le
def za:=@Nat.ne_of_gt
def zb:=@List.mem_singleton
def zc:=@List.size_toArray
def zd:=@List.mem_filter
def ze:=@Array.length_toList
def zf:=@Nat.le_of_lt
def zg:=@List.mem_cons
def zh:=@List.map_cons
def zi:=@Bool.and_eq_true
def zj:=@List.mem_append
def zk:=@List.length_singleton
def zm:=@Nat.lt_succ_of_lt
def zn:=@Array.getElem?_eq_getElem
def zo:=@List.nodup_cons
def zp:=@List.mem_range
def zr:=@Nat.lt_irrefl
def zt:=@List.mem_append_right
def zu:=@List.mem_iff_getElem
def zv:=@Nat.not_lt_zero
def zw:=@Array.getElem?_toList
def zx:=@List.getElem_of_mem
def zy:=@Nat.lt_succ_self
def z0:=@List.length_take
def z7:=@List.map_append
def z8:=@List.pairwise_iff_getElem
def z9:=@List.take_length
def wa:=@Array.getD_eq_getD_getElem?
def wb:=@List.map_map
def wc:=@Nat.succ_le_succ
def we:=@Nat.lt_of_le_of_lt
def wf:=@List.getElem_mem
def wg:=@List.ext_getElem?
def wj:=@List.length_set
def wk:=@List.replicate_succ
def wl:=@List.sum_cons
def wm:=@Nat.lt_add_of_pos_right
def wn:=@Nat.add_lt_add_left
def wo:=@List.pairwise_map
def wq:=@Bool.eq_iff_iff
def wu:=@Nat.le_succ
def wv:=@List.length_nil
def ww:=@Nat.lt_trans
def wx:=@List.nodup_nil
def wy:=@List.mem_of_mem_take
def wz:=@List.find?_cons
def w5:=@List.mem_append_left
def w6:=@List.getElem?_set_ne
def va:=@List.any_cons
def vd:=@List.any_eq_true
def vf:=@Nat.le_add_right
def vg:=@Nat.sub_zero
def vh:=@Nat.zero_add
def vi:=@Nat.succ_ne_self
def vj:=@List.take_add_one
def vk:=@List.length_filter_le
def vm:=@List.append_nil
def vn:=@List.getElem?_replicate
def vq:=@List.length_drop
def vt:=@List.flatten_cons
def vv:=@List.all_eq_true
def vy:=@List.length_range
def vz:=@Nat.min_self
def v5:=@Array.forIn_toList
def yb:=@List.getElem?_eq_none
def yc:=@Nat.lt_add_right
def yd:=@List.getElem?_set_self
def ye:=@Option.map_some
def yf:=@List.drop_zero
def yg:=@List.getElem?_range
def yh:=@List.getElem?_append_left
def yi:=@List.getElem?_append_right
def yj:=@List.map_set
def yk:=@Nat.lt_or_ge
def yl:=@List.find?_eq_none
def ym:=@Nat.add_zero
def yn:=@List.range_succ
def yo:=@List.filterMap_cons
def yq:=@List.mem_filterMap
def yr:=@Array.mem_toList_iff
def yt:=@List.of_mem_zip
def yu:=@Option.isSome_iff_exists
def yv:=@List.map_nil
def yw:=@List.append_assoc
def yx:=@List.foldl_cons
def yy:=@Nat.add_comm
def yz:=@List.lookup_cons
def y0:=@Array.size_map
def y7:=@List.not_mem_nil
def y8:=@Nat.le_of_ble_eq_true
def y9:=@List.take_of_length_le
def ja:=@List.mem_of_mem_drop
def jb:=@List.not_lt
def jc:=@Array.toList_inj
def jd:=@List.range_succ_eq_map
def je:=@List.getElem?_toArray
def jf:=@Array.getElem?_eq_none
def jg:=@Bool.true_and
def jh:=@List.filter_append
def ji:=@List.filter_cons_of_pos
def jj:=@Nat.mod_lt
def jk:=@Nat.succ_pos
def jl:=@Nat.add_assoc
def jm:=@Array.append_assoc
def jn:=@List.length_replicate
def jo:=@List.zip_cons_cons
def jp:=@List.getElem_toArray
def jq:=@List.mem_or_eq_of_mem_set
def jr:=@List.drop_eq_getElem_cons
def jt:=@List.findIdx?_eq_some_iff_getElem
def ju:=@List.getElem?_inj
def jv:=@List.findIdx?_eq_none_iff
def jw:=@List.range_eq_range'
def jx:=@List.filter_eq_nil_iff
def jy:=@List.mem_range'_1
def jz:=@List.map_congr_left
def j3:=@List.length_eq_zero_iff
def j4:=@Nat.lt_of_succ_lt_succ
def j5:=@Nat.lt_trichotomy
def j6:=@Bool.eq_false_iff
def j7:=@List.filterMap_cons_some
def j8:=@List.filter_cons_of_neg
def j9:=@Array.getElem?_eq_some_iff
def gb:=@List.filterMap_map
def gg:=@List.getElem_take
namespace L2
open PySem PySem.Spec PyProof.Rows
abbrev Key:=Sum Int Str
def keyIs:Key->Value->Bool
 | .inl k,v=>Value.isInt k v
 | .inr x,v=>Value.isStrOf x v
def keyH (w:World):Key->Int
 | .inl k=>hashInt k
 | .inr x=>hashStr w x
theorem xAax:∀ {k:Key} {v:Value},keyIs k v=true->(∃ i t,k=Sum.inl i/\v=Value.int i t)\/(∃ x t,k=Sum.inr x/\v=Value.str x t)
 | .inl i,v,h=>by
  obtain ⟨t,e⟩:=Value.isInt_shape (k:=i) (v:=v) h;exact .inl ⟨i,t,rfl,e⟩
 | .inr x,v,h=>by
  obtain ⟨t,e⟩:=Value.isStrOf_shape (x:=x) (v:=v) h;exact .inr ⟨x,t,rfl,e⟩
theorem xAly (i:Int) (t:Tok):keyIs (.inl i) (.int i t)=true:=by simp [keyIs,Value.isInt]
theorem xAlz (x:Str) (t:Tok):keyIs (.inr x) (.str x t)=true:=by simp [keyIs,Value.isStrOf]
theorem key_ll (a b:Int):decide ((Sum.inl a:Key)=Sum.inl b)=(a==b):=by
 by_cases e:a=b
 ·subst e;simp
 ·have h:¬ (Sum.inl a:Key)=Sum.inl b:=fun q=>e (Sum.inl.inj q)
  rw [decide_eq_false h];exact (beq_eq_false_iff_ne.mpr e).symm
theorem key_rr (a b:Str):decide ((Sum.inr a:Key)=Sum.inr b)=decide (a=b):=by
 by_cases e:a=b
 ·subst e;simp
 ·have h:¬ (Sum.inr a:Key)=Sum.inr b:=fun q=>e (Sum.inr.inj q)
  rw [decide_eq_false h,decide_eq_false e]
theorem key_lr (a:Int) (b:Str):decide ((Sum.inl a:Key)=Sum.inr b)=false:=decide_eq_false (fun q=>nomatch q)
theorem key_rl (a:Str) (b:Int):decide ((Sum.inr a:Key)=Sum.inl b)=false:=decide_eq_false (fun q=>nomatch q)
def mixKind (prog:Program) (w:World):PySem.KeyKind prog w Key where
 is:=keyIs
 hash:=keyH w
 inj:=fun v a b ha hb=>by
  rcases xAax ha with ⟨i,t,rfl,rfl⟩ | ⟨x,t,rfl,rfl⟩
  ·rcases xAax hb with ⟨j,u,rfl,e⟩ | ⟨y,u,rfl,e⟩
   ·injection e with e1 _;rw [e1]
   ·exact nomatch e
  ·rcases xAax hb with ⟨j,u,rfl,e⟩ | ⟨y,u,rfl,e⟩
   ·exact nomatch e
   ·injection e with e1 _;rw [e1]
 byValue:=fun k v h=>by
  rcases xAax h with ⟨i,t,rfl,rfl⟩ | ⟨x,t,rfl,rfl⟩ <;> rfl
 pyHash:=fun hv h=>by
  rcases xAax hv with ⟨i,t,rfl,rfl⟩ | ⟨x,t,rfl,rfl⟩
  ·exact wpAny_pyHash_int h
  ·exact wpAny_pyHash_str h
 eqBool:=fun hu hv h=>by
  rcases xAax hu with ⟨i,t,rfl,rfl⟩ | ⟨x,t,rfl,rfl⟩
  ·rcases xAax hv with ⟨j,u,rfl,rfl⟩ | ⟨y,u,rfl,rfl⟩
   ·rw [key_ll] at h;exact wpAny_eqBool_int h
   ·rw [key_lr] at h;exact SeqAt.EqAt.int_str i t y u _ _ _ _ h
  ·rcases xAax hv with ⟨j,u,rfl,rfl⟩ | ⟨y,u,rfl,rfl⟩
   ·rw [key_rl] at h;exact SeqAt.EqAt.str_int x t j u _ _ _ _ h
   ·rw [key_rr] at h;exact wpAny_eqBool_str h
 «strs»:=fun k x t v h=>by
  rcases xAax h with ⟨i,u,rfl,e⟩ | ⟨y,u,rfl,e⟩
  ·exact nomatch e
  ·injection e with e1 _
   subst e1;cases v <;> rfl
theorem xAib (prog:Program) (w:World) (i:Int) (t:Tok):(mixKind prog w).is (.inl i) (.int i t)=true:=xAly i t
theorem xAic (prog:Program) (w:World) (x:Str) (t:Tok):(mixKind prog w).is (.inr x) (.str x t)=true:=xAlz x t
inductive V where
 | non | bl (b:Bool) | int (i:Int) | str (x:Str) | byt (b:Array UInt8) | flt (b:UInt64) | ref (a:Addr) | ty (n:String)
 deriving DecidableEq
def RelV:V->Value->Prop
 | .non,u=>u=Value.none
 | .bl b,u=>u=Value.bool b
 | .int i,u=>∃ t,u=Value.int i t
 | .str x,u=>∃ t,u=Value.str x t
 | .byt b,u=>∃ t,u=Value.bytes b t
 | .flt b,u=>∃ t,u=Value.float b t
 | .ref a,u=>u=Value.ref a
 | .ty n,u=>u=Value.type n
abbrev Vals:List V->List Value->Prop:=Paired RelV
theorem Vals.length {xs:List V} {us:List Value} (r:Vals xs us):xs.length=us.length:=Paired.length r
theorem Vals.get:∀ {xs:List V} {us:List Value} {i:Nat} {x:V},Vals xs us->xs[i]?=some x->∃ u,us[i]?=some u/\RelV x u
 | _,_,_,_,.nil,e=>by simp at e
 | _,_,0,_,.cons r _,e=>by simp at e;subst e;exact ⟨_,rfl,r⟩
 | _,_,i+1,x,.cons _ t,e=>by
  obtain ⟨u,h1,h2⟩:=Vals.get (i:=i) (x:=x) t (by simpa using e);exact ⟨u,by simpa using h1,h2⟩
theorem Vals.set {x:V} {u:Value} (r:RelV x u):∀ {xs:List V} {us:List Value} (i:Nat),Vals xs us->Vals (xs.set i x) (us.set i u)
 | _,_,_,.nil=>.nil
 | _,_,0,.cons _ t=>.cons r t
 | _,_,i+1,.cons q t=>.cons q (Vals.set r i t)
theorem Vals.append:∀ {xs ys:List V} {us ws:List Value},Vals xs us->Vals ys ws->Vals (xs++ys) (us++ws)
 | _,_,_,_,.nil,s=>s
 | _,_,_,_,.cons r t,s=>.cons r (Vals.append t s)
theorem Vals.take:∀ {xs:List V} {us:List Value} (n:Nat),Vals xs us->Vals (xs.take n) (us.take n)
 | _,_,0,_=>.nil
 | _,_,_+1,.nil=>.nil
 | _,_,n+1,.cons r t=>.cons r (Vals.take n t)
theorem Vals.drop:∀ {xs:List V} {us:List Value} (n:Nat),Vals xs us->Vals (xs.drop n) (us.drop n)
 | _,_,0,r=>r
 | _,_,_+1,.nil=>.nil
 | _,_,n+1,.cons _ t=>Vals.drop n t
def RelO:Option V->Option Value->Prop
 | some v,some u=>RelV v u
 | none,none=>True
 | _,_=>False
def KV {κ:Type}:List (κ×V)->List (κ×Value)->Prop:=Paired fun (p:κ×V) (q:κ×Value)=>p.1=q.1/\RelV p.2 q.2
def kV:Key->V
 | .inl i=>.int i
 | .inr x=>.str x
inductive KD where
 | non
 | int (i:Int)
 | tup (ks:List Key)
 | two (ks ls:List Key)
deriving DecidableEq
def gHash (P:Program) (w:World):KD->Int
 | .non=>4238894112
 | .int i=>hashInt i
 | .tup ks=>(tupleKind (mixKind P w)).hash ks
 | .two ks ls=>reduceHash (Builtin.Tuple.tupleHashOf [(tupleKind (mixKind P w)).hash ks,(tupleKind (mixKind P w)).hash ls])
def gEnt (P:Program) (w:World) (x:KD×Value×Value):DictEntry:=⟨gHash P w x.1,x.2.1,x.2.2⟩
inductive HO where
 | lst (xs:List V)
 | tup (xs:List V)
 | dK (kvs:List (Key×V)) | dT (kvs:List (List Key×V))
 | dG (kvs:List (KD×V×V))
 | set (S:Int->Bool) (n:Nat)
 | ins (C dx:Addr) (fs:List (Str×V))
 | own (x:Addr)
 | xd (fs:List (Str×V))
 | met (f x:Addr)
 | rng (lo hi:Int)
 | frz (o:Obj) (u:HO)
 | tbl (ps:Array Value)
 | ext (φ:Heap->Prop)
abbrev Hp:=Addr->Option HO
def GK (H:Hp):KD->V->Prop
 | .non,v=>v=.non
 | .int i,v=>v=.int i
 | .tup ks,v=>∃ b,v=.ref b/\H b=some (.tup (ks.map kV))
 | .two ks ls,v=>∃ b c d,v=.ref b/\H b=some (.tup [.ref c,.ref d])/\H c=some (.tup (ks.map kV))/\H d=some (.tup (ls.map kV))
def upd (H:Hp) (a:Addr) (o:HO):Hp:=fun b=>if b=a then some o else H b
theorem xAae {H:Hp} {a:Addr} {o:HO}:upd H a o a=some o:=by unfold upd;rw [if_pos rfl]
theorem xAah {H:Hp} {a b:Addr} {o:HO} (h:b≠a):upd H a o b=H b:=by unfold upd;rw [if_neg h]
theorem ne_of {H:Hp} {a b:Addr} {o u:HO} (h:H a=some o) (h':H b=some u) (d:o≠u):a≠b:=by
 intro e;subst e;rw [h] at h';exact d (Option.some.inj h')
theorem xAaj {H:Hp} {a b:Addr} {o:HO} (h:H a=some o) (h':H b=none):a≠b:=by
 intro e;subst e;rw [h] at h';cases h'
section
variable (P:Program) (w:World)
def ObjOk (H:Hp) (h:Heap) (a:Addr):HO->Prop
 | .lst xs=>xs.length≤sizeLine/\∃ (its:List Value) (n:Nat),Vals xs its/\h.get? a=some { cls:=.type "list",data:=.seq its.toArray n }
 | .tup xs=>xs.length≤sizeLine/\∃ its:List Value,Vals xs its/\IsTup h a its.toArray
 | .dK kvs=>kvs.length≤sizeLine/\(a==sysModules)=false/\∃ vs,KV kvs vs/\h.DictOf (mixKind P w) a vs
 | .dT kvs=>kvs.length≤sizeLine/\(a==sysModules)=false/\∃ xs:List (List Key×Addr×Value),
   Paired (fun (p:List Key×V) (q:List Key×Addr×Value)=>p.1=q.1/\H q.2.1=some (.tup (p.1.map kV))/\RelV p.2 q.2.2) kvs xs ∧
   ∃ o es ep,h.get? a=some o/\o.ExactDict/\o.data=.dict es ep/\es.toList=xs.map (entryOfKey (tupleKind (mixKind P w)))/\(xs.map (·.1)).Nodup
 | .dG kvs=>kvs.length≤sizeLine/\(a==sysModules)=false/\∃ xs:List (KD×Value×Value),
   Paired (fun (p:KD×V×V) (q:KD×Value×Value)=>p.1=q.1/\GK H p.1 p.2.1/\RelV p.2.1 q.2.1/\RelV p.2.2 q.2.2) kvs xs ∧
   ∃ o es ep,h.get? a=some o/\o.ExactDict/\o.data=.dict es ep/\es.toList=xs.map (gEnt P w)/\(xs.map (·.1)).Nodup
 | .set S n=>h.SetOf (intKind P w) a S n
 | .ins C dx fs=>H dx=some (.own a)/\fs.length≤1000/\dx≠a/\h.get? a=some (PySem.W.instObj C dx) ∧
   ∃ mA,h.Ns1 dx mA/\(∀ f,RelO (fs.lookup f) (mA f))/\PySem.Within mA (fs.map (·.1))
 | .own _=>∃ o,h.get? a=some o
 | .xd fs=>∃ mA,h.Ns1 a mA/\∀ f,RelO (fs.lookup f) (mA f)
 | .rng lo hi=>∃ t u v,h.get? a=some { cls:=.type "range",data:=.fields #[.int lo t,.int hi u,.int 1 v] }
 | .frz o u=>h.get? a=some o/\ObjOk H h a u
 | .tbl ps=>h.get? a=some { cls:=.none,data:=.fields ps }
 | .met f x=>h.get? a=some (PySem.W.methodObj (.ref f) (.ref x))
 | .ext φ=>φ h/\(∃ o,h.get? a=some o)/\∀ h1 h2:Heap,φ h1->(∀ o,h1.get? a=some o->h2.get? a=some o)->φ h2
def HOk (H:Hp) (h:Heap):Prop:=∀ a o,H a=some o->ObjOk P w H h a o
end
section
variable {P:Program} {w:World} {H H':Hp} {h h':Heap} {a:Addr} {o:HO}
theorem ObjOk.lt (x:ObjOk P w H h a o):a<h.objs.size:=by
 cases o with
 | lst xs=>obtain ⟨_,_,_,_,e⟩:=x;exact Heap.lt_size e
 | tup xs=>obtain ⟨_,_,_,p⟩:=x;exact p.lt
 | dK kvs=>obtain ⟨_,_,_,_,o,_,_,e,_⟩:=x;exact Heap.lt_size e
 | dT kvs=>obtain ⟨_,_,_,_,o,_,_,e,_⟩:=x;exact Heap.lt_size e
 | dG kvs=>obtain ⟨_,_,_,_,o,_,_,e,_⟩:=x;exact Heap.lt_size e
 | set S n=>obtain ⟨o,_,_,_,e,_⟩:=x;exact Heap.lt_size e
 | ins C dx fs=>obtain ⟨_,_,_,e,_⟩:=x;exact Heap.lt_size e
 | own y=>obtain ⟨_,e⟩:=x;exact Heap.lt_size e
 | xd fs=>obtain ⟨_,⟨_,_,_,e,_⟩,_⟩:=x;exact Heap.lt_size e
 | rng lo hi=>obtain ⟨_,_,_,e⟩:=x;exact Heap.lt_size e
 | frz ob u=>obtain ⟨e,_⟩:=x;exact Heap.lt_size e
 | tbl ps=>exact Heap.lt_size (show h.get? a=some _ from x)
 | met f y=>exact Heap.lt_size (show h.get? a=some _ from x)
 | ext φ=>obtain ⟨_,⟨_,e⟩,_⟩:=x;exact Heap.lt_size e
theorem Paired.mapP {α β:Type} {F G:α->β->Prop}:∀ {l₁:List α} {l₂:List β},Paired F l₁ l₂->(∀ a b,F a b->G a b)->Paired G l₁ l₂
 | _,_,.nil,_=>.nil
 | _,_,.cons r t,f=>.cons (f _ _ r) (Paired.mapP t f)
theorem GK.stay {H H':Hp} {k:KD} {v:V} (g:GK H k v) (ht:∀ b xs,H b=some (.tup xs)->H' b=some (.tup xs)):GK H' k v:=by
 cases k with
 | non=>exact g
 | int i=>exact g
 | tup ks=>obtain ⟨b,e,h⟩:=g;exact ⟨b,e,ht _ _ h⟩
 | two ks ls=>obtain ⟨b,c,d,e,h1,h2,h3⟩:=g;exact ⟨b,c,d,e,ht _ _ h1,ht _ _ h2,ht _ _ h3⟩
theorem ObjOk.stay (x:ObjOk P w H h a o) (k:∀ b u,(b=a\/H b=some (.own a))->h.get? b=some u->h'.get? b=some u)
  (ho:∀ b,H b=some (.own a)->H' b=some (.own a)) (ht:∀ b xs,H b=some (.tup xs)->H' b=some (.tup xs)):ObjOk P w H' h' a o:=by
 induction o with
 | lst xs=>obtain ⟨z,its,n,r,e⟩:=x;exact ⟨z,its,n,r,k _ _ (.inl rfl) e⟩
 | tup xs=>obtain ⟨z,its,r,ob,e,c⟩:=x;exact ⟨z,its,r,ob,k _ _ (.inl rfl) e,c⟩
 | dK kvs=>obtain ⟨z,y,vs,r,ob,es,ep,e,c⟩:=x;exact ⟨z,y,vs,r,ob,es,ep,k _ _ (.inl rfl) e,c⟩
 | dT kvs =>
  obtain ⟨z,y,xs,r,ob,es,ep,e,c⟩:=x;exact ⟨z,y,xs,Paired.mapP r fun p q z=>⟨z.1,ht _ _ z.2.1,z.2.2⟩,ob,es,ep,k _ _ (.inl rfl) e,c⟩
 | dG kvs =>
  obtain ⟨z,y,xs,r,ob,es,ep,e,c⟩:=x;exact ⟨z,y,xs,Paired.mapP r fun p q z=>⟨z.1,z.2.1.stay ht,z.2.2⟩,ob,es,ep,k _ _ (.inl rfl) e,c⟩
 | set S n=>obtain ⟨ob,es,ep,t,e,c⟩:=x;exact ⟨ob,es,ep,t,k _ _ (.inl rfl) e,c⟩
 | ins C dx fs =>
  obtain ⟨d,z,ne,e,mA,⟨od,es,ep,e2,c⟩,r⟩:=x;exact ⟨ho _ d,z,ne,k _ _ (.inl rfl) e,mA,⟨od,es,ep,k _ _ (.inr d) e2,c⟩,r⟩
 | own y=>obtain ⟨ob,e⟩:=x;exact ⟨ob,k _ _ (.inl rfl) e⟩
 | xd fs=>obtain ⟨mA,⟨od,es,ep,e,c⟩,r⟩:=x;exact ⟨mA,⟨od,es,ep,k _ _ (.inl rfl) e,c⟩,r⟩
 | rng lo hi=>obtain ⟨t,u,v,e⟩:=x;exact ⟨t,u,v,k _ _ (.inl rfl) e⟩
 | frz ob u ih=>obtain ⟨e,q⟩:=x;exact ⟨k _ _ (.inl rfl) e,ih q⟩
 | tbl ps =>
  have e:h.get? a=some { cls:=.none,data:=.fields ps }:=x;show h'.get? a=some { cls:=.none,data:=.fields ps };exact k a _ (.inl rfl) e
 | met f y =>
  have e:h.get? a=some (PySem.W.methodObj (.ref f) (.ref y)):=x;show h'.get? a=some (PySem.W.methodObj (.ref f) (.ref y));exact k a _ (.inl rfl) e
 | ext φ=>obtain ⟨p,⟨o,e⟩,st⟩:=x;exact ⟨st _ _ p fun o q=>k _ _ (.inl rfl) q,⟨o,k _ _ (.inl rfl) e⟩,st⟩
theorem HOk.lt (x:HOk P w H h) (e:H a=some o):a<h.objs.size:=(x a o e).lt
theorem HOk.fresh (x:HOk P w H h) (e:h.objs.size≤a):H a=none:=by
 cases q:H a with
 | none=>rfl
 | some u=>exact absurd (qz (x.lt q) e) (zr _)
theorem HOk.kept (x:HOk P w H h) (k:∀ b u,h.get? b=some u->h'.get? b=some u):HOk P w H h':=fun a o e =>
 (x a o e).stay (fun b u _ q=>k b u q) (fun _ q=>q) fun _ _ q=>q
theorem HOk.laid (x:HOk P w H h) (k:∀ b u,h.get? b=some u->h'.get? b=some u) (hp:h.objs.size≤a) (new:ObjOk P w (upd H a o) h' a o):HOk P w (upd H a o) h':=fun b u e=>by
 have hn:=x.fresh hp
 by_cases hb:b=a
 ·subst hb;rw [xAae] at e;cases e;exact new
 ·rw [xAah hb] at e
  exact (x b u e).stay (fun c v _ q=>k c v q) (fun c q=>by rw [xAah (xAaj q hn)];exact q) fun c xs q=>by rw [xAah (xAaj q hn)];exact q
end
def Rd (H:Hp) (a:Addr) (u:HO):Prop:=H a=some u\/∃ o,H a=some (.frz o u)
theorem Rd.of {H:Hp} {a:Addr} {u:HO} (h:H a=some u):Rd H a u:=.inl h
theorem Rd.ok {P:Program} {w:World} {H:Hp} {h:Heap} {a:Addr} {u:HO} (r:Rd H a u) (x:HOk P w H h):ObjOk P w H h a u:=by
 rcases r with r | ⟨o,r⟩
 ·exact x a u r
 ·obtain ⟨_,q⟩:=x a _ r
  exact q
def Mut:Option HO->Prop
 | some (.lst _)=>True
 | some (.dK _)=>True
 | some (.dT _)=>True
 | some (.dG _)=>True
 | some (.set _ _)=>True
 | some (.ins _ _ _)=>True
 | some (.ext _)=>True
 | _=>False
section
variable {P:Program} {w:World} {H:Hp} {h h':Heap} {x e:Addr} {o':HO}
theorem HOk.write (ok:HOk P w H h) (mu:Mut (H x)) (he:e=x\/H e=some (.own x)) (k:∀ b u,b≠e->h.get? b=some u->h'.get? b=some u) (heo:∃ u,h'.get? e=some u)
  (new:ObjOk P w (upd H x o') h' x o'):HOk P w (upd H x o') h':=fun b u q=>by
 have nown:∀ c y,H c=some (.own y)->c≠x:=fun c y r z=>by subst z;rw [r] at mu;exact mu
 have ntup:∀ c xs,H c=some (.tup xs)->c≠x:=fun c xs r z=>by subst z;rw [r] at mu;exact mu
 by_cases hb:b=x
 ·subst hb;rw [xAae] at q;cases q;exact new
 ·rw [xAah hb] at q
  by_cases hbe:b=e
  ·have q':H b=some (.own x):=by
    rcases he with z | z
    ·exact absurd (hbe.trans z) hb
    ·rw [hbe];exact z
   rw [q] at q';cases q';obtain ⟨v,hv⟩:=heo;exact ⟨v,by rw [hbe];exact hv⟩
  ·refine (ok b u q).stay (fun c v hc r=>k c v ?_ r) (fun c r=>by rw [xAah (nown c b r)];exact r) fun c xs r=>by rw [xAah (ntup c xs r)];exact r
   rcases hc with rfl | hc
   ·exact hbe
   ·rintro rfl
    rcases he with z | z
    ·exact nown c b hc z
    ·rw [hc] at z;cases z;exact hb rfl
end
structure Un (fs ex:List Addr) (H H':Hp) (h h':Heap):Prop where
 keep:∀ b o,h.get? b=some o->H b=none->b∉fs->b∉ex->h'.get? b=some o
 slot:∀ b o,h.get? b=some o->H b=none->b∈fs->b∉ex->∃ sl,h'.get? b=some { o with slots:=sl }
 free:∀ b o,h.get? b=some o->H b=none->b∉ex->H' b=none
 there:∀ b o,h.get? b=some o->b∉ex->∃ o',h'.get? b=some o'
 tups:∀ b xs,H b=some (.tup xs)->H' b=some (.tup xs)
 frzs:∀ b o u,H b=some (.frz o u)->H' b=some (.frz o u)
 tbls:∀ b ps,H b=some (.tbl ps)->∃ more,H' b=some (.tbl (ps++more))
section
variable {fs fs' ex ex':List Addr} {H H1 H2:Hp} {h h1 h2 h':Heap} {a x e:Addr} {o:HO}
theorem Un.any (u:Un fs ex H H1 h h1) {b:Addr} {ob:Obj} (q:h.get? b=some ob) (n:H b=none) (hx:b∉ex):∃ sl,h1.get? b=some { ob with slots:=sl }:=by
 by_cases hb:b∈fs
 ·exact u.slot b ob q n hb hx
 ·exact ⟨ob.slots,u.keep b ob q n hb hx⟩
theorem Un.trans (a:Un fs ex H H1 h h1) (b:Un fs ex H1 H2 h1 h2):Un fs ex H H2 h h2 where
 keep:=fun c ob q n hc hx=>b.keep c ob (a.keep c ob q n hc hx) (a.free c ob q n hx) hc hx
 slot:=fun c ob q n hc hx=>by
  obtain ⟨sl,e1⟩:=a.slot c ob q n hc hx;obtain ⟨sl',e2⟩:=b.slot c _ e1 (a.free c ob q n hx) hc hx;exact ⟨sl',e2⟩
 free:=fun c ob q n hx=>by
  obtain ⟨o',e1⟩:=a.there c ob q hx;exact b.free c o' e1 (a.free c ob q n hx) hx
 there:=fun c ob q hx=>by
  obtain ⟨o',e1⟩:=a.there c ob q hx;exact b.there c o' e1 hx
 tups:=fun c xs q=>b.tups c xs (a.tups c xs q)
 frzs:=fun c ob xs q=>b.frzs c ob xs (a.frzs c ob xs q)
 tbls:=fun c ps q=>by
  obtain ⟨m1,e1⟩:=a.tbls c ps q;obtain ⟨m2,e2⟩:=b.tbls c _ e1;exact ⟨m1++m2,by rw [e2,jm]⟩
theorem Un.kept (k:∀ b u,h.get? b=some u->h'.get? b=some u):Un fs ex H H h h' :=
 ⟨fun b ob q _ _ _=>k b ob q,fun b ob q _ _ _=>⟨ob.slots,k b ob q⟩,fun _ _ _ n _=>n,fun b ob q _=>⟨ob,k b ob q⟩,fun _ _ q=>q,fun _ _ _ q=>q,fun _ ps q=>⟨#[],by rw [q];simp⟩⟩
theorem Un.refl:Un fs ex H H h h:=Un.kept fun _ _ q=>q
theorem Un.laid (k:∀ b u,h.get? b=some u->h'.get? b=some u) (hp:h.objs.size≤a) (hn:H a=none):Un fs ex H (upd H a o) h h' where
 keep:=fun b u q _ _ _=>k b u q
 slot:=fun b u q _ _ _=>⟨u.slots,k b u q⟩
 free:=fun b u q n _=>by rw [xAah (qj (qz (Heap.lt_size q) hp))];exact n
 there:=fun b u q _=>⟨u,k b u q⟩
 tups:=fun b xs q=>by rw [xAah (xAaj q hn)];exact q
 frzs:=fun b u xs q=>by rw [xAah (xAaj q hn)];exact q
 tbls:=fun b ps q=>⟨#[],by rw [xAah (xAaj q hn),q];simp⟩
theorem Un.write (mu:Mut (H x)) (he:e=x\/H e=some (.own x)) (k:∀ b u,b≠e->h.get? b=some u->h'.get? b=some u) (heo:∃ u,h'.get? e=some u):Un fs ex H (upd H x o) h h':=by
 have hx:∀ b,H b=none->b≠x:=fun b n z=>by subst z;rw [n] at mu;exact mu
 have hb:∀ b,H b=none->b≠e:=fun b n z=>by
  subst z;rcases he with r | r
  ·exact hx b n r
  ·rw [n] at r;cases r
 have hm:∀ b u,H b=some u->¬ Mut (some u)->b≠x:=fun b u q nm z=>by subst z;rw [q] at mu;exact nm mu
 refine ⟨fun b u q n _ _=>k b u (hb b n) q,fun b u q n _ _=>⟨u.slots,k b u (hb b n) q⟩,fun b u q n _=>by rw [xAah (hx b n)];exact n,fun b u q _=>?_,
  fun b xs q=>by rw [xAah (hm b _ q fun z=>z)];exact q,fun b u xs q=>by rw [xAah (hm b _ q fun z=>z)];exact q,fun b ps q=>⟨#[],by rw [xAah (hm b _ q fun z=>z),q];simp⟩⟩
 by_cases hbe:b=e
 ·subst hbe;exact heo
 ·exact ⟨u,k b u hbe q⟩
end
def trk (h:Heap) (H:Hp):List Addr:=(List.range h.objs.size).filter fun a=>(H a).isSome
def hidT (h:Heap) (H:Hp):Heap:=PySem.W.hideAll h (trk h H)
theorem xAma (h:Heap) (H:Hp):(hidT h H).objs.size=h.objs.size:=PySem.W.hideAll_size _ _
theorem xApr {h:Heap} {H:Hp} {b:Addr} {o:Obj} (e:h.get? b=some o) (n:H b=none):(hidT h H).get? b=some o :=
 PySem.W.hideAll_get _ e fun hm=>by
  have q:(H b).isSome=true:=(zd.mp hm).2;rw [n] at q;simp at q
theorem xAry {h:Heap} {H:Hp} {b:Addr} {o:Obj} (e:(hidT h H).get? b=some o):h.get? b=some o/\H b=none:=by
 have e':h.get? b=some o:=PySem.W.of_hideAll (trk h H) e;refine ⟨e',?_⟩
 cases q:H b with
 | none=>rfl
 | some x =>
  have hm:b∈trk h H:=List.mem_filter.mpr ⟨List.mem_range.mpr (Heap.lt_size e'),by simp [q]⟩;have z:(hidT h H).get? b=none:=PySem.W.hideAll_none (trk h H) hm;rw [z] at e;cases e
structure Mod (K:PySem.W.Frag) (mg:Str->Option Value) (base:Heap):Prop where
 kin:K.In base
 glob:base.Ns mainGlobals mg
 blt:∃ mb,base.Ns builtinsNs mb/\∀ x:Str,x≠"__name__"->mb x=bootBuiltins x
 nolimit:base.NoLimit
structure Cx where
 prog:Program
 w:World
 K:PySem.W.Frag
 mg:Str->Option Value
 base:Heap
 A:Around
 N:List Str
 s₀:Shared
 H₀:Hp
 env:Env
 outer:List Env
 stack:List Env
 ex:List Addr
 fn:Str->Bool
 calm:Bool
 pn:List (Addr×Obj)
 xe:Value->Shared->Prop
def frs (l:List Env):List Addr:=l.filterMap (·.frame)
abbrev Cx.fs (X:Cx):List Addr:=frs X.outer
def Vis (sc:Scope) (x:Str):Prop:=sc.names.lookup x=some .local\/sc.names.lookup x=some .cell\/sc.names.lookup x=some .free
def Loc (sc:Scope) (x:Str):Prop:=sc.names.lookup x=some .local\/sc.names.lookup x=some .cell
def Look (env:Env) (h:Heap) (m:Str->Option Value) (x:Str) (u:Value):Prop :=
 (env.kindOf x=some .local/\m x=some u)\/((env.kindOf x=some .cell\/env.kindOf x=some .free)/\∃ c,env.cells.lookup x=some c/\h.IsCell c (some u))
structure Cx.Ok (X:Cx):Prop where
 mod:Mod X.K X.mg X.base
 kind:X.env.scope.kind=.function
 glob:X.env.globals=mainGlobals
 blt:X.env.builtins=builtinsNs
 above:X.s₀.heap.objs.size≤X.env.locals
 inj:∀ x y c,X.env.cells.lookup x=some c->X.env.cells.lookup y=some c->x=y
 has:∀ x,(X.env.kindOf x=some .cell\/X.env.kindOf x=some .free)->∃ c,X.env.cells.lookup x=some c
 cab:∀ x c,X.fn x=true->X.env.cells.lookup x=some c->X.s₀.heap.objs.size≤c
 hd:X.calm=true->X.A.handled=none
 frames:X.A.frames=some X.stack
 stk:X.stack=X.outer\/(X.stack=X.env::X.outer/\X.env.frame=some X.env.locals)
 exf:∀ b∈X.ex,b≠X.env.locals/\∀ x c,X.env.cells.lookup x=some c->c≠b
 bs:∀ b o,X.base.get? b=some o->X.s₀.heap.get? b=some o/\X.H₀ b=none
 bsz:X.base.objs.size≤X.s₀.heap.objs.size
 noex:∀ b o,X.base.get? b=some o->b∉X.ex
 exfs:∀ b∈X.ex,b∉X.fs
 funs:X.s₀.heap.FunFrames X.base X.outer
 frf:∀ b∈X.fs,X.H₀ b=none
structure Inv (X:Cx) (pins:List (Addr×Obj)) (σ:List (Option V)) (H:Hp) (s:Shared):Prop where
 ok:X.Ok
 os:s.os=X.s₀.os
 bare:AllBare s.gens
 base:Un X.fs X.ex X.H₀ H X.s₀.heap s.heap
 loc:∃ m,s.heap.Ns X.env.locals m/\∀ (i:Nat) (x:Str) (v:V),X.N[i]?=some x->σ[i]?=some (some v)->Vis X.env.scope x->∃ u,RelV v u/\Look X.env s.heap m x u
 cell:∀ x c,X.env.cells.lookup x=some c->∃ v,s.heap.IsCell c v
 free:H X.env.locals=none
 freeC:∀ x c,X.env.cells.lookup x=some c->H c=none
 pin:∀ p∈X.pn++pins,s.heap.get? p.1=some p.2/\H p.1=none/\p.1≠X.env.locals/\p.1∉X.fs/\∀ v,p.2.data≠.cell v
 hok:HOk X.prog X.w H s.heap
 len:σ.length=X.N.length
section
variable {X:Cx} {pins:List (Addr×Obj)} {σ:List (Option V)} {H H':Hp} {s:Shared} {h':Heap}
theorem Cx.Ok.nofr (ok:X.Ok) {b:Addr} {o:Obj} (e:X.base.get? b=some o):b∉X.fs:=fun hb=>by
 have:=(ok.funs.mem hb).1;rw [e] at this;cases this
theorem Inv.bs (I:Inv X pins σ H s):∀ b o,X.base.get? b=some o->s.heap.get? b=some o/\H b=none:=fun b o e =>
 ⟨I.base.keep b o (I.ok.bs b o e).1 (I.ok.bs b o e).2 (I.ok.nofr e) (I.ok.noex b o e),I.base.free b o (I.ok.bs b o e).1 (I.ok.bs b o e).2 (I.ok.noex b o e)⟩
theorem Inv.bk (I:Inv X pins σ H s):∀ b o,X.base.get? b=some o->s.heap.get? b=some o:=fun b o e=>(I.bs b o e).1
theorem Inv.mod (I:Inv X pins σ H s):Mod X.K X.mg X.base:=I.ok.mod
theorem Inv.kIn (I:Inv X pins σ H s):X.K.In s.heap:=I.ok.mod.kin.keeps I.bk
theorem Inv.lt (I:Inv X pins σ H s):X.env.locals<s.heap.objs.size:=let ⟨_,hn,_⟩:=I.loc;hn.lt
theorem Inv.sz (I:Inv X pins σ H s):X.s₀.heap.objs.size≤s.heap.objs.size:=qm I.ok.above (zf I.lt)
theorem Inv.nofs (I:Inv X pins σ H s) {a:Addr} (h:s.heap.objs.size≤a):a∉X.fs:=fun hb=>by
 obtain ⟨_,o,ho,_⟩:=I.ok.funs.mem hb;exact absurd (qz (Heap.lt_size ho) (qm I.sz h)) (zr _)
theorem Inv.cne (I:Inv X pins σ H s):∀ x c,X.env.cells.lookup x=some c->c≠X.env.locals:=fun x c e z=>by
 obtain ⟨v,o,ho,hd⟩:=I.cell x c e;obtain ⟨m,⟨o',es,ep,ho',hd',_⟩,_⟩:=I.loc;rw [z,ho'] at ho;cases ho;rw [hd'] at hd;cases hd
theorem Inv.funs (I:Inv X pins σ H s):s.heap.FunFrames X.base X.outer:=by
 have all:∀ (l:List Env),(∀ b∈frs l,b∈X.fs)->X.s₀.heap.FunFrames X.base l->s.heap.FunFrames X.base l:=by
  intro l
  induction l with
  | nil=>intro _ _;trivial
  | cons env r ih =>
   intro hs hl;obtain ⟨hk,⟨L,o,hf,hn,ho,hd⟩,hr⟩:=hl;have hL:L∈X.fs:=hs L (by unfold frs;rw [yo,hf];exact qr);obtain ⟨sl,e⟩:=I.base.slot L o ho (I.ok.frf L hL) hL fun z=>I.ok.exfs L z hL;exact ⟨hk,⟨L,_,hf,hn,e,hd⟩,ih (fun b hb=>hs b (by unfold frs;rw [yo,hf];exact qw _ hb)) hr⟩
 exact all X.outer (fun _ hb=>hb) I.ok.funs
theorem Inv.stack (I:Inv X pins σ H s):s.heap.FunFrames X.base X.stack:=by
 rcases I.ok.stk with e | ⟨e,hf⟩
 ·rw [e];exact I.funs
 ·rw [e]
  obtain ⟨m,hn,_⟩:=I.loc;refine .cons (by rw [I.ok.kind];decide) hf hn ?_ I.funs;exact Heap.get?_none_of_le (qm I.ok.bsz I.ok.above)
theorem Inv.stkSub (I:Inv X pins σ H s):∀ b∈frs X.stack,b∈X.env.locals::X.fs:=fun b hb=>by
 rcases I.ok.stk with e | ⟨e,hf⟩
 ·rw [e] at hb;exact qw _ hb
 ·rw [e] at hb
  unfold frs at hb;rw [yo,hf] at hb;exact hb
theorem Inv.stkFree (I:Inv X pins σ H s):∀ b∈frs X.stack,H b=none:=fun b hb=>by
 rcases zg.mp (I.stkSub b hb) with e | hb
 ·rw [e];exact I.free
 ·obtain ⟨_,o,ho,_⟩:=I.ok.funs.mem hb
  exact I.base.free b o ho (I.ok.frf b hb) fun z=>I.ok.exfs b z hb
theorem Inv.step {g':Array GenState} {t':Nat} {d':Drawn} {ch:List Addr} (I:Inv X pins σ H s)
  (hch:∀ b∈ch,(b∈X.ex\/X.s₀.heap.objs.size≤b)/\b≠X.env.locals/\(∀ x c,X.env.cells.lookup x=some c->c≠b)/\∀ p∈X.pn++pins,p.1≠b)
  (keep:∀ b o,b≠X.env.locals->b∉X.fs->b∉ch->s.heap.get? b=some o->H b=none->h'.get? b=some o)
  (slot:∀ b o,b≠X.env.locals->b∈X.fs->b∉ch->s.heap.get? b=some o->H b=none->∃ sl,h'.get? b=some { o with slots:=sl }) (free:∀ b o,b∉ch->s.heap.get? b=some o->H b=none->H' b=none)
  (there:∀ b o,b∉ch->s.heap.get? b=some o->∃ o',h'.get? b=some o')
  (tups:∀ b xs,H b=some (.tup xs)->H' b=some (.tup xs)) (frzs:∀ b o u,H b=some (.frz o u)->H' b=some (.frz o u)) (tbls:∀ b ps,H b=some (.tbl ps)->∃ more,H' b=some (.tbl (ps++more)))
  (ns:∀ m,s.heap.Ns X.env.locals m->h'.Ns X.env.locals m) (hok:HOk X.prog X.w H' h') (hg:AllBare g') :
  Inv X pins σ H' { s with heap:=h',gens:=g',drawn:=d',toks:=t' }:=by
 have neL:∀ b o,X.s₀.heap.get? b=some o->b≠X.env.locals:=fun b o e=>qj (qz (Heap.lt_size e) I.ok.above)
 have neC:∀ b o,X.s₀.heap.get? b=some o->b∉X.ex->b∉ch:=fun b o e hx hb=>by
  rcases (hch b hb).1 with z | z
  ·exact hx z
  ·exact absurd (qz (Heap.lt_size e) z) (zr _)
 have cellK:∀ x c,X.env.cells.lookup x=some c->∀ v,s.heap.IsCell c v->h'.IsCell c v:=fun x c e v ⟨o,ho,hd⟩=>by
  have nch:c∉ch:=fun z=>(hch c z).2.2.1 x c e rfl
  by_cases hc:c∈X.fs
  ·obtain ⟨sl,q⟩:=slot c o (I.cne x c e) hc nch ho (I.freeC x c e)
   exact ⟨_,q,hd⟩
  ·exact ⟨o,keep c o (I.cne x c e) hc nch ho (I.freeC x c e),hd⟩
 refine ⟨I.ok,I.os,hg,⟨fun b o e n hb hx=>?_,fun b o e n hb hx=>?_,fun b o e n hx=>?_,fun b o e hx=>?_,fun b xs e=>tups b xs (I.base.tups b xs e),fun b o xs e=>frzs b o xs (I.base.frzs b o xs e),fun b ps e=>?_⟩,?_,fun x c e=>?_,?_,fun x c e=>?_,fun p hp=>?_,hok,I.len⟩
 ·exact keep b o (neL b o e) hb (neC b o e hx) (I.base.keep b o e n hb hx) (I.base.free b o e n hx)
 ·obtain ⟨sl,e1⟩:=I.base.slot b o e n hb hx
  obtain ⟨sl',e2⟩:=slot b _ (neL b o e) hb (neC b o e hx) e1 (I.base.free b o e n hx);exact ⟨sl',e2⟩
 ·obtain ⟨o',e1⟩:=I.base.there b o e hx
  exact free b o' (neC b o e hx) e1 (I.base.free b o e n hx)
 ·obtain ⟨o',e1⟩:=I.base.there b o e hx
  exact there b o' (neC b o e hx) e1
 ·obtain ⟨m1,e1⟩:=I.base.tbls b ps e
  obtain ⟨m2,e2⟩:=tbls b _ e1;exact ⟨m1++m2,by rw [e2,jm]⟩
 ·obtain ⟨m,hn,hl⟩:=I.loc
  refine ⟨m,ns m hn,fun i x v e1 e2 e3=>?_⟩;obtain ⟨u,r,l⟩:=hl i x v e1 e2 e3;refine ⟨u,r,?_⟩;rcases l with l | ⟨k,c,e,z⟩
  ·exact .inl l
  ·exact .inr ⟨k,c,e,cellK x c e _ z⟩
 ·obtain ⟨v,z⟩:=I.cell x c e
  exact ⟨v,cellK x c e v z⟩
 ·obtain ⟨m,⟨o,_,_,ho,_⟩,_⟩:=I.loc
  exact free _ o (fun z=>(hch _ z).2.1 rfl) ho I.free
 ·obtain ⟨v,o,ho,hd⟩:=I.cell x c e
  exact free c o (fun z=>(hch c z).2.2.1 x c e rfl) ho (I.freeC x c e)
 ·obtain ⟨e,n,ne,nf,d⟩:=I.pin p hp
  have nch:p.1∉ch:=fun z=>(hch p.1 z).2.2.2 p hp rfl;exact ⟨keep p.1 p.2 ne nf nch e n,free p.1 p.2 nch e n,ne,nf,d⟩
theorem Inv.un {t':Nat} (I:Inv X pins σ H s) (u:Un X.fs [] H H' s.heap h') (hok:HOk X.prog X.w H' h'):Inv X pins σ H' { s with heap:=h',toks:=t' }:=by
 obtain ⟨m,⟨o,es,ep,ho,r⟩,_⟩:=id I.loc;obtain ⟨sl,hL⟩:=u.any ho I.free (by simp)
 exact I.step (g':=s.gens) (d':=s.drawn) (ch:=[]) (fun _ z=>nomatch z) (fun b o _ hb _ e n=>u.keep b o e n hb (by simp)) (fun b o _ hb _ e n=>u.slot b o e n hb (by simp)) (fun b o _ e n=>u.free b o e n (by simp)) (fun b o _ e=>u.there b o e (by simp)) u.tups u.frzs u.tbls (fun m' hm=>by
  obtain ⟨o',es',ep',ho',r'⟩:=hm;rw [ho] at ho';cases ho'
  exact ⟨_,es',ep',hL,r'⟩) hok I.bare
theorem Inv.call {g':Array GenState} {t':Nat} {d':Drawn} {ch:List Addr} (I:Inv X pins σ H s) (u:Un (frs X.stack) ch H H' s.heap h') (hok:HOk X.prog X.w H' h') (hg:AllBare g')
  (hch:∀ b∈ch,(b∈X.ex\/X.s₀.heap.objs.size≤b)/\b≠X.env.locals/\(∀ x c,X.env.cells.lookup x=some c->c≠b)/\∀ p∈X.pn++pins,p.1≠b) :
  Inv X pins σ H' { s with heap:=h',gens:=g',drawn:=d',toks:=t' }:=by
 obtain ⟨m,⟨o,es,ep,ho,r⟩,_⟩:=id I.loc;obtain ⟨sl,hL⟩:=u.any ho I.free fun z=>(hch _ z).2.1 rfl
 exact I.step (ch:=ch) hch (fun b o hL hb hc e n=>u.keep b o e n (fun z=>(zg.mp (I.stkSub b z)).elim hL hb) hc) (fun b o _ _ hc e n=>u.any e n hc) (fun b o hc e n=>u.free b o e n hc) (fun b o hc e=>u.there b o e hc) u.tups u.frzs u.tbls (fun m' hm=>by
  obtain ⟨o',es',ep',ho',r'⟩:=hm;rw [ho] at ho';cases ho'
  exact ⟨_,es',ep',hL,r'⟩) hok hg
theorem Inv.turned {t':Nat} {it:Addr} (I:Inv X pins σ H s) (k:∀ b o,b≠it->s.heap.get? b=some o->h'.get? b=some o) (hn:H it=none) (hL:it≠X.env.locals)
  (h1:it∈X.ex\/X.s₀.heap.objs.size≤it) (h2:∀ x c,X.env.cells.lookup x=some c->c≠it) (h3:∀ p∈X.pn++pins,p.1≠it):Inv X pins σ H { s with heap:=h',toks:=t' }:=by
 have nit:∀ b u,H b=some u->b≠it:=fun b u e z=>by rw [z,hn] at e;cases e
 refine I.step (g':=s.gens) (d':=s.drawn) (ch:=[it]) (fun b hb=>?_) (fun b o _ _ hc e _=>k b o (fun z=>hc (by simp [z])) e) (fun b o _ _ hc e _=>⟨o.slots,k b o (fun z=>hc (by simp [z])) e⟩) (fun _ _ _ _ n=>n)
  (fun b o hc e=>⟨o,k b o (fun z=>hc (by simp [z])) e⟩) (fun _ _ e=>e) (fun _ _ _ e=>e) (fun b ps e=>⟨#[],by rw [e];simp⟩) (fun m hm=>?_) (fun b u e=>?_) I.bare
 ·have e:b=it:=by simpa using hb
  subst e;exact ⟨h1,hL,h2,h3⟩
 ·obtain ⟨o,es,ep,ho,r⟩:=hm
  exact ⟨o,es,ep,k _ o (Ne.symm hL) ho,r⟩
 ·refine (I.hok b u e).stay (fun c v hc q=>k c v ?_ q) (fun _ q=>q) fun _ _ q=>q
  rcases hc with z | z
  ·rw [z];exact nit b u e
  ·exact nit c _ z
theorem Inv.tok (I:Inv X pins σ H s) (t:Nat):Inv X pins σ H { s with toks:=t }:=I.un (h':=s.heap) (t':=t) Un.refl I.hok
theorem Inv.kept {t':Nat} (I:Inv X pins σ H s) (k:∀ b u,s.heap.get? b=some u->h'.get? b=some u):Inv X pins σ H { s with heap:=h',toks:=t' }:=I.un (Un.kept k) (I.hok.kept k)
theorem Inv.laid {a:Addr} {o:HO} {t':Nat} (I:Inv X pins σ H s) (k:∀ b u,s.heap.get? b=some u->h'.get? b=some u) (hp:s.heap.objs.size≤a) (new:ObjOk X.prog X.w (upd H a o) h' a o) :
  Inv X pins σ (upd H a o) { s with heap:=h',toks:=t' }:=I.un (Un.laid k hp (I.hok.fresh hp)) (I.hok.laid k hp new)
theorem Inv.write {x e:Addr} {o:HO} {t':Nat} (I:Inv X pins σ H s) (mu:Mut (H x)) (he:e=x\/H e=some (.own x)) (k:∀ b u,b≠e->s.heap.get? b=some u->h'.get? b=some u) (heo:∃ u,h'.get? e=some u)
  (new:ObjOk X.prog X.w (upd H x o) h' x o):Inv X pins σ (upd H x o) { s with heap:=h',toks:=t' }:=I.un (Un.write mu he k heo) (I.hok.write mu he k heo new)
theorem Inv.weak {σ':List (Option V)} (I:Inv X pins σ H s) (hl:σ'.length=σ.length) (w:∀ (i:Nat) v,σ'[i]?=some (some v)->σ[i]?=some (some v)):Inv X pins σ' H s :=
 ⟨I.ok,I.os,I.bare,I.base,let ⟨m,hn,hl'⟩:=I.loc;⟨m,hn,fun i x v e1 e2 e3=>hl' i x v e1 (w i v e2) e3⟩,I.cell,I.free,I.freeC,I.pin,I.hok,hl.trans I.len⟩
theorem Inv.pins_of {pins':List (Addr×Obj)} (I:Inv X pins σ H s) (h:∀ p∈pins',s.heap.get? p.1=some p.2/\H p.1=none/\p.1≠X.env.locals/\p.1∉X.fs/\∀ v,p.2.data≠.cell v):Inv X pins' σ H s :=
 ⟨I.ok,I.os,I.bare,I.base,I.loc,I.cell,I.free,I.freeC,fun p hp=>(zj.mp hp).elim (fun z=>I.pin p (w5 _ z)) (h p),I.hok,I.len⟩
theorem xAiu {N:List Str} (hN:N.Nodup) {i j:Nat} {x:Str} (a:N[i]?=some x) (b:N[j]?=some x):i=j:=by
 obtain ⟨h1,e1⟩:=qx.mp a;obtain ⟨h2,e2⟩:=qx.mp b;exact (List.getElem_inj hN).mp (e1.trans e2.symm)
theorem xAgm {M:Model} {A:Around} {E:Value->Shared->Prop} {i:Nat} {x:Str} {v:V} {u:Value} {Q:Unit->Shared->Prop} (I:Inv X pins σ H s) (hN:X.N.Nodup) (hi:X.N[i]?=some x) (hx:Loc X.env.scope x) (r:RelV v u)
  (h:∀ s',Inv X pins (σ.set i (some v)) H s'->(∃ a,Heap.SameBut a s.heap s'.heap/\(a=X.env.locals\/X.env.cells.lookup x=some a))->Q () s') (hf:X.fn x=true\/X.env.scope.names.lookup x=some .local:=by first | exact .inl rfl | exact .inr rfl | assumption):wpAny M A (storeName X.env x u) Q E s:=by
 obtain ⟨m,hn,hl⟩:=id I.loc
 have hcls:(X.env.scope.kind==.class||(X.env.scope.kind==.module&&X.env.locals != X.env.globals))=false:=by rw [I.ok.kind];rfl
 have hiσ:i<σ.length:=by rw [I.len];exact (qx.mp hi).1
 have cne:=I.cne
 have tracked:∀ {a:Addr} {h':Heap},(∃ o,s.heap.get? a=some o/\H a=none)->Heap.SameBut a s.heap h'->HOk X.prog X.w H h':=fun {a h'} ha hs b ob e=>by
  obtain ⟨_,_,hfree⟩:=ha;refine (I.hok b ob e).stay (fun c w' hc q=>(hs.2 c ?_).trans q) (fun _ q=>q) fun _ _ q=>q;rintro rfl;rcases hc with rfl | hc
  ·rw [hfree] at e;cases e
  ·rw [hfree] at hc;cases hc
 rcases hx with hk | hk
 ·refine wpAny_storeName_local hk hn (fun h' hn' hs=>?_) hcls
  obtain ⟨oL,_,_,hoL,_⟩:=id hn;refine h _ ⟨I.ok,I.os,I.bare,⟨fun b o e n hb hx=>?_,fun b o e n hb hx=>?_,I.base.free,fun b o e hx=>?_,I.base.tups,I.base.frzs,I.base.tbls⟩,⟨_,hn',fun j y v' e1 e2 e3=>?_⟩,fun y c e=>?_,I.free,I.freeC,fun p hp=>?_,tracked ⟨oL,hoL,I.free⟩ hs,by simpa using I.len⟩ ⟨_,hs,.inl rfl⟩
  ·exact (hs.2 b (qj (qz (Heap.lt_size e) I.ok.above))).trans (I.base.keep b o e n hb hx)
  ·obtain ⟨sl,e1⟩:=I.base.slot b o e n hb hx
   exact ⟨sl,(hs.2 b (qj (qz (Heap.lt_size e) I.ok.above))).trans e1⟩
  ·obtain ⟨o',e1⟩:=I.base.there b o e hx
   exact ⟨o',(hs.2 b (qj (qz (Heap.lt_size e) I.ok.above))).trans e1⟩
  ·by_cases hj:j=i
   ·subst hj
    rw [hi] at e1;cases e1;rw [yd hiσ] at e2;cases e2;exact ⟨u,r,.inl ⟨hk,by simp⟩⟩
   ·rw [w6 (Ne.symm hj)] at e2
    obtain ⟨u',r',q⟩:=hl j y v' e1 e2 e3;refine ⟨u',r',?_⟩;rcases q with ⟨k,e⟩ | ⟨k,c,e,z⟩
    ·refine .inl ⟨k,?_⟩
     have:y≠x:=fun e=>hj (xAiu hN e1 (e▸hi))
     simp [this,e]
    ·exact .inr ⟨k,c,e,z.sameBut hs (cne y c e)⟩
  ·obtain ⟨w',z⟩:=I.cell y c e
   exact ⟨w',z.sameBut hs (cne y c e)⟩
  ·obtain ⟨e,n,ne,nf,d⟩:=I.pin p hp
   exact ⟨(hs.2 p.1 ne).trans e,n,ne,nf,d⟩
 ·have hfn:X.fn x=true:=by
   rcases hf with z | z
   ·exact z
   ·rw [z] at hk;cases hk
  obtain ⟨c,hc⟩:=I.ok.has x (.inl hk);obtain ⟨w',z⟩:=I.cell x c hc;refine wpAny_storeName_cell I.ok.kind hk hc z (fun h' hc' hs=>?_);obtain ⟨oc,hoc,hocd⟩:=id z;refine h { s with heap:=h' } ⟨I.ok,I.os,I.bare,⟨fun b o e n hb hx=>?_,fun b o e n hb hx=>?_,I.base.free,fun b o e hx=>?_,I.base.tups,I.base.frzs,I.base.tbls⟩,⟨m,hn.sameBut hs (Ne.symm (cne x c hc)),fun j y v' e1 e2 e3=>?_⟩,fun y c' e=>?_,I.free,I.freeC,fun p hp=>?_,tracked ⟨oc,hoc,I.freeC x c hc⟩ hs,by simpa using I.len⟩ ⟨c,hs,.inr hc⟩
  ·exact (hs.2 b (qj (qz (Heap.lt_size e) (I.ok.cab x c hfn hc)))).trans (I.base.keep b o e n hb hx)
  ·obtain ⟨sl,e1⟩:=I.base.slot b o e n hb hx
   exact ⟨sl,(hs.2 b (qj (qz (Heap.lt_size e) (I.ok.cab x c hfn hc)))).trans e1⟩
  ·obtain ⟨o',e1⟩:=I.base.there b o e hx
   exact ⟨o',(hs.2 b (qj (qz (Heap.lt_size e) (I.ok.cab x c hfn hc)))).trans e1⟩
  ·by_cases hj:j=i
   ·subst hj
    rw [hi] at e1;cases e1;rw [yd hiσ] at e2;cases e2;exact ⟨u,r,.inr ⟨.inl hk,c,hc,hc'⟩⟩
   ·rw [w6 (Ne.symm hj)] at e2
    obtain ⟨u',r',q⟩:=hl j y v' e1 e2 e3;refine ⟨u',r',?_⟩;rcases q with q | ⟨k,c',e,z'⟩
    ·exact .inl q
    ·refine .inr ⟨k,c',e,z'.sameBut hs ?_⟩
     rintro rfl;exact hj (xAiu hN e1 (I.ok.inj _ _ _ e hc▸hi))
  ·by_cases hcc:c'=c
   ·subst hcc;exact ⟨_,hc'⟩
   ·obtain ⟨w2,z2⟩:=I.cell y c' e
    exact ⟨w2,z2.sameBut hs hcc⟩
  ·obtain ⟨e,n,ne,nf,d⟩:=I.pin p hp
   refine ⟨(hs.2 p.1 ?_).trans e,n,ne,nf,d⟩;intro q;rw [q,hoc] at e;have q':oc=p.2:=Option.some.inj e;exact d w' (by rw [← q'];exact hocd)
theorem xAiv {M:Model} {A:Around} {E:Value->Shared->Prop} {i:Nat} {x:Str} {v:V} {u:Value} {Q:Unit->Shared->Prop} (I:Inv X pins σ H s) (hN:X.N.Nodup) (hi:X.N[i]?=some x) (hx:Loc X.env.scope x) (r:RelV v u)
  (h:∀ s',Inv X pins (σ.set i (some v)) H s'->Q () s') (hf:X.fn x=true\/X.env.scope.names.lookup x=some .local:=by first | exact .inl rfl | exact .inr rfl | assumption):wpAny M A (storeName X.env x u) Q E s :=
 xAgm I hN hi hx r (fun s' I' _=>h s' I') hf
theorem Inv.call' {s':Shared} {ch:List Addr} (I:Inv X pins σ H s) (ho:s'.os=s.os) (u:Un (frs X.stack) ch H H' s.heap s'.heap) (hok:HOk X.prog X.w H' s'.heap) (hg:AllBare s'.gens)
  (hch:∀ b∈ch,(b∈X.ex\/X.s₀.heap.objs.size≤b)/\b≠X.env.locals/\(∀ x c,X.env.cells.lookup x=some c->c≠b)/\∀ p∈X.pn++pins,p.1≠b):Inv X pins σ H' s':=by
 obtain ⟨h',g',d',t',o'⟩:=s';have e:o'=s.os:=ho;subst e;exact I.call (g':=g') (t':=t') (d':=d') u hok hg hch
end
abbrev XK:=Value->Option Addr->Hp->Prop
abbrev St:=List (Option V)
abbrev VK:=V->Hp->Prop
abbrev TE:=St->Hp->VK->Prop
abbrev TT:=St->Hp->(Bool->Hp->Prop)->Prop
abbrev TA:=St->Hp->(List V->Hp->Prop)->Prop
structure Ends where
 nx:St->Hp->Prop
 rt:VK
 bk:St->Hp->Prop:=fun _ _=>False
 ct:St->Hp->Prop:=fun _ _=>False
abbrev TS:=Ends->St->Hp->Prop
def EP (X:Cx) (pins:List (Addr×Obj)) (σ:St) (Q:VK) (u:Value) (s':Shared):Prop:=∃ v H',Inv X pins σ H' s'/\RelV v u/\Q v H'
def TP (X:Cx) (pins:List (Addr×Obj)) (σ:St) (Q:Bool->Hp->Prop) (b:Bool) (s':Shared):Prop:=∃ H',Inv X pins σ H' s'/\Q b H'
def AP (X:Cx) (pins:List (Addr×Obj)) (σ:St) (Q:List V->Hp->Prop) (us:List Value) (s':Shared):Prop:=∃ vs H',Inv X pins σ H' s'/\Vals vs us/\Q vs H'
def SP (X:Cx) (pins:List (Addr×Obj)) (D:Ends) (f:Flow) (s':Shared):Prop :=
 match f with
 | .next=>∃ σ' H',Inv X pins σ' H' s'/\D.nx σ' H'
 | .brk=>∃ σ' H',Inv X pins σ' H' s'/\D.bk σ' H'
 | .cont=>∃ σ' H',Inv X pins σ' H' s'/\D.ct σ' H'
 | .ret u=>∃ v σ' H',Inv X pins σ' H' s'/\RelV v u/\D.rt v H'
def PE (X:Cx) (e:Expr) (t:TE):Prop :=
 ∀ (pins:List (Addr×Obj)) (s:Shared) (σ:St) (H:Hp) (Q:VK),Inv X pins σ H s->t σ H Q->wpAny (model X.prog X.w) X.A (eval e X.env) (EP X pins σ Q) X.xe s
def PT (X:Cx) (e:Expr) (t:TT):Prop :=
 ∀ (pins:List (Addr×Obj)) (s:Shared) (σ:St) (H:Hp) (Q:Bool->Hp->Prop),Inv X pins σ H s->t σ H Q->wpAny (model X.prog X.w) X.A (isTrue e X.env (eval e X.env)) (TP X pins σ Q) X.xe s
def PW (X:Cx) (e:Expr) (t:TT):Prop :=
 ∀ (whole:Sem Value) (pins:List (Addr×Obj)) (s:Shared) (σ:St) (H:Hp) (Q:Bool->Hp->Prop),Inv X pins σ H s->t σ H Q->wpAny (model X.prog X.w) X.A (isTrue e X.env whole) (TP X pins σ Q) X.xe s
theorem PW.pt {X:Cx} {e:Expr} {t:TT} (h:PW X e t):PT X e t:=h _
def PA (X:Cx) (es:List Expr) (t:TA):Prop :=
 ∀ (pos:Pos) (pins:List (Addr×Obj)) (s:Shared) (σ:St) (H:Hp) (Q:List V->Hp->Prop),Inv X pins σ H s->t σ H Q->wpAny (model X.prog X.w) X.A (spliced (backTo pos (starEach es X.env))) (AP X pins σ Q) X.xe s
def PS (X:Cx) (st:Stmt) (t:TS):Prop :=
 ∀ (pins:List (Addr×Obj)) (s:Shared) (σ:St) (H:Hp) (D:Ends),Inv X pins σ H s->t D σ H->wpAny (model X.prog X.w) X.A (exec st X.env) (SP X pins D) X.xe s
def PSs (X:Cx) (st:List Stmt) (t:TS):Prop :=
 ∀ (pins:List (Addr×Obj)) (s:Shared) (σ:St) (H:Hp) (D:Ends),Inv X pins σ H s->t D σ H->wpAny (model X.prog X.w) X.A (execs st X.env) (SP X pins D) X.xe s
theorem thn {α:Type} {t:Sem α} {Q Q':α->Shared->Prop} {M:Model} {A:Around} {E:Value->Shared->Prop} {s:Shared} (h:wpAny M A t Q E s) (hQ:∀ a s,Q a s->Q' a s):wpAny M A t Q' E s:=wpAny_mono h hQ fun _ _ x=>x
section
variable {X:Cx}
def tVar (i:Nat):TE:=fun σ H Q=>∃ v,σ[i]?=some (some v)/\Q v H
def tC (v:V):TE:=fun _ H Q=>Q v H
theorem pe_var {i:Nat} {x:Str} {pos:Pos} (hN:X.N[i]?=some x) (hv:Vis X.env.scope x) (hd:(x==("__debug__":Str))=false:=by decide) (hcd:(x==("__classdict__":Str))=false:=by decide):PE X (.Name x pos) (tVar i):=by
 intro pins s σ H Q I h;obtain ⟨v,e,h⟩:=h;obtain ⟨m,hn,hl⟩:=I.loc;obtain ⟨u,r,l⟩:=hl i x v hN e hv;have fin:EP X pins σ Q u s:=⟨v,H,I,r,h⟩;rcases l with ⟨hk,hm⟩ | ⟨hk,c,hc,hcell⟩
 ·exact wpAny_Name (wpAny_loadName_local I.ok.kind hk hn hm fin) hd
 ·rcases hk with hk | hk
  ·exact wpAny_Name (wpAny_loadName_cell I.ok.kind hk hc hcell fin) hd
  ·exact wpAny_Name (wpAny_loadName_free I.ok.kind hk hc hcell fin hcd) hd
theorem xAac {i j pos}:PE X (.Constant (.int i) j pos) (tC (.int i)):=fun _ _ _ H _ I h=>wpAny_Constant_int ⟨.int i,H,I.tok _,⟨_,rfl⟩,h⟩
theorem pe_bl {b j pos}:PE X (.Constant (.bool b) j pos) (tC (.bl b)):=fun _ _ _ H _ I h=>Constant_bool ⟨.bl b,H,I,rfl,h⟩
theorem xAiw {j pos}:PE X (.Constant .none j pos) (tC .non):=fun _ _ _ H _ I h=>Constant_none ⟨.non,H,I,rfl,h⟩
theorem xAaz {x j pos}:PE X (.Constant (.str x) j pos) (tC (.str x)):=fun _ _ _ H _ I h=>Calls.Constant_str ⟨.str x,H,I.tok _,⟨_,rfl⟩,h⟩
def Gl (X:Cx) (x:Str):Prop:=X.env.kindOf x=some .globalImplicit
theorem xAix {E:Value->Shared->Prop} {pins:List (Addr×Obj)} {s:Shared} {σ:St} {H:Hp} {x:Str} {u:Value} {pos:Pos} {Q:Value->Shared->Prop} (I:Inv X pins σ H s) (hg:Gl X x) (hm:X.mg x=some u) (h:Q u s)
  (hd:(x==("__debug__":Str))=false:=by decide):wpAny (model X.prog X.w) X.A (eval (.Name x pos) X.env) Q E s :=
 Calls.Name_function_global I.ok.kind hg (Calls.loadGlobal_global (by rw [I.ok.glob];exact I.mod.glob.keeps I.bk) hm h) hd
theorem xAdr {E:Value->Shared->Prop} {pins:List (Addr×Obj)} {s:Shared} {σ:St} {H:Hp} {x:Str} {u:Value} {pos:Pos} {Q:Value->Shared->Prop} (I:Inv X pins σ H s) (hg:Gl X x) (hm:X.mg x=none) (hv:bootBuiltins x=some u) (h:Q u s)
  (hn:x≠"__name__":=by decide) (hd:(x==("__debug__":Str))=false:=by decide):wpAny (model X.prog X.w) X.A (eval (.Name x pos) X.env) Q E s:=by
 obtain ⟨mb,h1,h2⟩:=I.mod.blt;exact Calls.Name_function_global I.ok.kind hg (Calls.loadGlobal_builtin (by rw [I.ok.glob];exact I.mod.glob.keeps I.bk) hm (by rw [I.ok.blt];exact h1.keeps I.bk) ((h2 x hn).trans hv) h) hd
theorem xArz {x:Str} {v:V} {u:Value} {pos:Pos} (hg:Gl X x) (hm:X.mg x=none) (hv:bootBuiltins x=some u) (r:RelV v u) (hn:x≠"__name__":=by decide) (hd:(x==("__debug__":Str))=false:=by decide):PE X (.Name x pos) (tC v) :=
 fun _ _ _ H _ I h=>xAdr I hg hm hv ⟨v,H,I,r,h⟩ hn hd
variable {a b:Expr} {ta tb:TE} {pos:Pos}
def tB (t:TE):TT:=fun σ H Q=>t σ H fun x H1=>∃ c,x=.bl c/\Q c H1
theorem xAsa {e:Expr} {t:TE} (h:PE X e t) (he:∀ whole,isTrue e X.env whole=(do let v ← whole;standAt e.pos;holding [v] (truthy v)):=by intro _;rfl):PT X e (tB t):=by
 intro pins s σ H Q I hw;refine isTrue_plain (thn (h pins s σ H _ I hw) fun v s1 ⟨x,H1,I1,r1,q1⟩=>?_) (he _);obtain ⟨d,rfl,q⟩:=q1;cases r1;exact wpAny_truthy_bool ⟨H1,I1,q⟩
variable {tA tB':TT} {rest:List Expr}
def tAnd (t u:TT):TT:=fun σ H Q=>t σ H fun c H1=>if c=true then u σ H1 Q else Q false H1
def tOr (t u:TT):TT:=fun σ H Q=>t σ H fun c H1=>if c=true then Q true H1 else u σ H1 Q
def tNot (t:TT):TT:=fun σ H Q=>t σ H fun c H1=>Q (!c) H1
theorem xAoj (ha:PT X a tA):PW X (.BoolOp .And [a] pos) tA:=by
 intro wh pins s σ H Q I h;refine isTrue_and (thn (ha pins s σ H Q I h) fun c s1 e=>?_)
 cases c with
 | true=>exact isTrue_and_nil e
 | false=>exact e
theorem xAsb (ha:PT X a tA):PW X (.BoolOp .Or [a] pos) tA:=by
 intro wh pins s σ H Q I h;refine isTrue_or (thn (ha pins s σ H Q I h) fun c s1 e=>?_)
 cases c with
 | false=>exact isTrue_or_nil e
 | true=>exact e
theorem xAsc (ha:PT X a tA) (hb:PW X (.BoolOp .And (b::rest) pos) tB'):PW X (.BoolOp .And (a::b::rest) pos) (tAnd tA tB'):=by
 intro wh pins s σ H Q I h;refine isTrue_and (thn (ha pins s σ H _ I h) fun c s1 ⟨H1,I1,q1⟩=>?_)
 cases c with
 | true=>exact hb wh pins s1 σ H1 Q I1 q1
 | false=>exact ⟨H1,I1,q1⟩
theorem pw_or (ha:PT X a tA) (hb:PW X (.BoolOp .Or (b::rest) pos) tB'):PW X (.BoolOp .Or (a::b::rest) pos) (tOr tA tB'):=by
 intro wh pins s σ H Q I h;refine isTrue_or (thn (ha pins s σ H _ I h) fun c s1 ⟨H1,I1,q1⟩=>?_)
 cases c with
 | true=>exact ⟨H1,I1,q1⟩
 | false=>exact hb wh pins s1 σ H1 Q I1 q1
theorem xAps (ha:PT X a tA):PT X (.UnaryOp .Not a pos) (tNot tA):=by
 intro pins s σ H Q I h;exact isTrue_not (ha pins s σ H (fun c H1=>Q (!c) H1) I h)
end
def SqL (K:PySem.W.Frag) (H:Hp) (a:Addr) (xs:List V):Prop :=
 Rd H a (.lst xs) ∨
  ∃ (o:Obj) (its:Array Value) (n:Nat),K.lookup a=some o/\o.cls=.type "list" /\ o.dict=none/\o.data=.seq its n/\its.size≤sizeLine/\Vals xs its.toList
def SqT (K:PySem.W.Frag) (H:Hp) (a:Addr) (xs:List V):Prop :=
 Rd H a (.tup xs) ∨
  ∃ (o:Obj) (its:Array Value) (n:Nat),K.lookup a=some o/\o.cls=.type "tuple" /\ o.data=.seq its n/\its.size≤sizeLine/\Vals xs its.toList
def absV:Value->Option V
 | .none=>some .non
 | .bool b=>some (.bl b)
 | .int i _=>some (.int i)
 | .str x _=>some (.str x)
 | .bytes b _=>some (.byt b)
 | .float b _=>some (.flt b)
 | .ref a=>some (.ref a)
 | .type n=>some (.ty n)
 | _=>none
theorem RelV.abs {x:V} {u:Value} (r:RelV x u):absV u=some x:=by
 cases x with
 | non=>cases r;rfl
 | bl _=>cases r;rfl
 | int _=>obtain ⟨t,rfl⟩:=r;rfl
 | str _=>obtain ⟨t,rfl⟩:=r;rfl
 | byt _=>obtain ⟨t,rfl⟩:=r;rfl
 | flt _=>obtain ⟨t,rfl⟩:=r;rfl
 | ref _=>cases r;rfl
 | ty _=>cases r;rfl
theorem RelV.inj {x y:V} {u:Value} (r:RelV x u) (q:RelV y u):x=y:=Option.some.inj (r.abs.symm.trans q.abs)
theorem Vals.inj:∀ {xs ys:List V} {us:List Value},Vals xs us->Vals ys us->xs=ys
 | _,_,_,.nil,.nil=>rfl
 | _,_,_,.cons r t,.cons r' t'=>by rw [r.inj r',Vals.inj t t']
section
variable {X:Cx} {pins:List (Addr×Obj)} {σ:St} {H:Hp} {s:Shared} {a:Addr} {xs ys:List V}
theorem SqL.of {K:PySem.W.Frag} (h:H a=some (.lst xs)):SqL K H a xs:=.inl (.inl h)
theorem SqT.of {K:PySem.W.Frag} (h:H a=some (.tup xs)):SqT K H a xs:=.inl (.inl h)
theorem Inv.list (I:Inv X pins σ H s) (h:SqL X.K H a xs):∃ its:List Value,Vals xs its/\PlainL s.heap a its.toArray/\xs.length≤sizeLine:=by
 rcases h with h | ⟨o,its,n,hk,hc,hd,hs,hz,r⟩
 ·obtain ⟨z,its,n,r,e⟩:=h.ok I.hok
  exact ⟨its,r,⟨_,n,e,rfl,rfl,rfl⟩,z⟩
 ·refine ⟨its.toList,r,⟨o,n,I.kIn a o hk,hc,hd,by simpa using hs⟩,?_⟩
  have e:=r.length
  simp only [Array.length_toList] at e
  omega
theorem Inv.tuple (I:Inv X pins σ H s) (h:SqT X.K H a xs):∃ its:List Value,Vals xs its/\IsTup s.heap a its.toArray/\xs.length≤sizeLine:=by
 rcases h with h | ⟨o,its,n,hk,hc,hs,hz,r⟩
 ·obtain ⟨z,its,r,p⟩:=h.ok I.hok
  exact ⟨its,r,p,z⟩
 ·refine ⟨its.toList,r,⟨o,I.kIn a o hk,hc,n,by simpa using hs⟩,?_⟩
  have e:=r.length
  simp only [Array.length_toList] at e
  omega
theorem Inv.list_inj (I:Inv X pins σ H s) (h:SqL X.K H a xs) (h':SqL X.K H a ys):xs=ys:=by
 obtain ⟨its,r,⟨o,n,e,_,_,d⟩,_⟩:=I.list h;obtain ⟨its',r',⟨o',n',e',_,_,d'⟩,_⟩:=I.list h';rw [e] at e';cases e';rw [d] at d';injection d' with d1 _
 have:its=its':=by simpa using congrArg Array.toList d1
 subst this;exact r.inj r'
theorem Inv.tuple_inj (I:Inv X pins σ H s) (h:SqT X.K H a xs) (h':SqT X.K H a ys):xs=ys:=by
 obtain ⟨its,r,⟨o,e,_,n,d⟩,_⟩:=I.tuple h;obtain ⟨its',r',⟨o',e',_,n',d'⟩,_⟩:=I.tuple h';rw [e] at e';cases e';rw [d] at d';injection d' with d1 _
 have:its=its':=by simpa using congrArg Array.toList d1
 subst this;exact r.inj r'
end
abbrev Cx.wish (X:Cx) (E:Value->Shared->Prop):Cx:={ X with xe:=E }
abbrev Cx.nox (X:Cx):Cx:=X.wish fun _ _=>False
theorem Cx.Ok.wish {X:Cx} (ok:X.Ok) (E:Value->Shared->Prop):(X.wish E).Ok :=
 ⟨ok.mod,ok.kind,ok.glob,ok.blt,ok.above,ok.inj,ok.has,ok.cab,ok.hd,ok.frames,ok.stk,ok.exf,ok.bs,ok.bsz,ok.noex,ok.exfs,ok.funs,ok.frf⟩
theorem Cx.Ok.unwish {X:Cx} {E:Value->Shared->Prop} (ok:(X.wish E).Ok):X.Ok :=
 ⟨ok.mod,ok.kind,ok.glob,ok.blt,ok.above,ok.inj,ok.has,ok.cab,ok.hd,ok.frames,ok.stk,ok.exf,ok.bs,ok.bsz,ok.noex,ok.exfs,ok.funs,ok.frf⟩
section
variable {X:Cx} {pins:List (Addr×Obj)} {σ:St} {H:Hp} {s:Shared} {E:Value->Shared->Prop}
theorem Inv.wish (I:Inv X pins σ H s) (E:Value->Shared->Prop):Inv (X.wish E) pins σ H s:=⟨I.ok.wish E,I.os,I.bare,I.base,I.loc,I.cell,I.free,I.freeC,I.pin,I.hok,I.len⟩
theorem Inv.unwish (I:Inv (X.wish E) pins σ H s):Inv X pins σ H s:=⟨I.ok.unwish,I.os,I.bare,I.base,I.loc,I.cell,I.free,I.freeC,I.pin,I.hok,I.len⟩
theorem SP.unwish {D:Ends} {f:Flow} {s':Shared} (h:SP (X.wish E) pins D f s'):SP X pins D f s':=by
 cases f with
 | next=>obtain ⟨σ',H',I,q⟩:=h;exact ⟨σ',H',I.unwish,q⟩
 | brk=>obtain ⟨σ',H',I,q⟩:=h;exact ⟨σ',H',I.unwish,q⟩
 | cont=>obtain ⟨σ',H',I,q⟩:=h;exact ⟨σ',H',I.unwish,q⟩
 | ret u=>obtain ⟨v,σ',H',I,r,q⟩:=h;exact ⟨v,σ',H',I.unwish,r,q⟩
theorem PSs.nox {st:List Stmt} {t:TS} (h:PSs X.nox st t):PSs X st t:=fun pins s σ H D I hw =>
 wpAny_mono (h pins s σ H D (I.wish _) hw) (fun _ _ q=>q.unwish) fun _ _ z=>False.elim z
end
section
variable {X:Cx} {st:Stmt} {rest:List Stmt} {t u:TS} {e:Expr} {te:TE} {pos:Pos}
def tNext:TS:=fun D σ H=>D.nx σ H
def tSeq (t u:TS):TS:=fun D σ H=>t { D with nx:=u D } σ H
theorem xAas:PSs X [] tNext:=fun _ _ σ H _ I h=>wpAny_execs_nil ⟨σ,H,I,h⟩
theorem xAab (h1:PS X st t) (h2:PSs X rest u):PSs X (st::rest) (tSeq t u):=by
 intro pins s σ H D I h;refine wpAny_execs_cons (thn (h1 pins s σ H { D with nx:=u D } I h) fun f s1 q=>?_)
 cases f with
 | next =>
  obtain ⟨σ',H',I',q⟩:=q;exact h2 pins s1 σ' H' D I' q
 | ret v=>exact q
 | brk=>exact q
 | cont=>exact q
theorem xAaf (h1:PS X st t):PSs X [st] t:=by
 intro pins s σ H D I h;refine wpAny_execs_cons (thn (h1 pins s σ H D I h) fun f s1 q=>?_)
 cases f with
 | next=>exact wpAny_execs_nil q
 | ret v=>exact q
 | brk=>exact q
 | cont=>exact q
theorem Inv.quiet {pins:List (Addr×Obj)} {σ:St} {H:Hp} {s:Shared} (I:Inv X pins σ H s):interactive X.env=false:=by simp [interactive,I.ok.kind]
def tDrop (te:TE):TS:=fun D σ H=>te σ H fun _ H1=>D.nx σ H1
theorem xAdf (he:PE X e te) (hs:swapsWith e none pos.line X.env=pure false:=by rfl):PS X (.Expr e pos) (tDrop te):=by
 intro pins s σ H D I h;exact wpAny_Expr_any (thn (he pins s σ H _ I h) fun v s1 ⟨x,H1,I1,r1,q1⟩=>⟨σ,H1,I1,q1⟩) I.quiet hs
def tRet (te:TE):TS:=fun D σ H=>te σ H D.rt
theorem xAar (he:PE X e te):PS X (.Return (some e) pos) (tRet te):=by
 intro pins s σ H D I h;exact wpAny_Return_some (thn (he pins s σ H _ I h) fun v s1 ⟨x,H1,I1,r1,q1⟩=>⟨x,σ,H1,I1,r1,q1⟩)
def tIfS (c:TT) (t u:TS):TS:=fun D σ H=>c σ H fun b H1=>if b=true then t D σ H1 else u D σ H1
theorem ps_if {c:Expr} {a b:List Stmt} {tc:TT} (hc:PT X c tc) (ha:PSs X a t) (hb:PSs X b u):PS X (.If c a b pos) (tIfS tc t u):=by
 intro pins s σ H D I h;refine wpAny_If (thn (hc pins s σ H _ I h) fun d s1 ⟨H1,I1,q1⟩=>?_)
 cases d with
 | true=>exact ha pins s1 σ H1 D I1 q1
 | false=>exact hb pins s1 σ H1 D I1 q1
def tNever:TS:=fun _ _ _=>False
theorem xAfq:PS X st tNever:=fun _ _ _ _ _ _ h=>h.elim
end
abbrev TG:=V->St->Hp->(St->Hp->Prop)->Prop
abbrev TGs:=List V->St->Hp->(St->Hp->Prop)->Prop
def PG (X:Cx) (target:Expr) (t:TG):Prop :=
 ∀ (pins:List (Addr×Obj)) (s:Shared) (σ:St) (H:Hp) (v:V) (u:Value) (Q:St->Hp->Prop),Inv X pins σ H s->RelV v u->t v σ H Q →
  wpAny (model X.prog X.w) X.A (assign target X.env u) (fun _ s'=>∃ σ' H',Inv X pins σ' H' s'/\Q σ' H') X.xe s
def PGs (X:Cx) (ts:List Expr) (t:TGs):Prop :=
 ∀ (pins:List (Addr×Obj)) (s:Shared) (σ:St) (H:Hp) (vs:List V) (us:List Value) (Q:St->Hp->Prop),Inv X pins σ H s->Vals vs us->t vs σ H Q →
  wpAny (model X.prog X.w) X.A (assignInOrder ((assignEach ts X.env).map (·.2)) us) (fun _ s'=>∃ σ' H',Inv X pins σ' H' s'/\Q σ' H') X.xe s
abbrev TSet:=V->V->V->Hp->(Hp->Prop)->Prop
def PSet (X:Cx) (t:TSet):Prop :=
 ∀ (pins:List (Addr×Obj)) (s:Shared) (σ:St) (H:Hp) (o i v:V) (ov iv u:Value) (Q:Hp->Prop),Inv X pins σ H s->RelV o ov->RelV i iv->RelV v u->t o i v H Q →
  wpAny (model X.prog X.w) X.A (setItem ov iv u) (fun _ s'=>∃ H',Inv X pins σ H' s'/\Q H') X.xe s
section
variable {X:Cx} {pos:Pos}
def gName (i:Nat):TG:=fun v σ H Q=>Q (σ.set i (some v)) H
theorem xAaq {i:Nat} {x:Str} (hN:X.N.Nodup) (hi:X.N[i]?=some x) (hx:Loc X.env.scope x) (hf:X.fn x=true\/X.env.scope.names.lookup x=some .local:=by first | exact .inl rfl | exact .inr rfl | assumption):PG X (.Name x pos) (gName i):=by
 intro pins s σ H v u Q I r h;exact wpAny_assign_Name (xAiv I hN hi hx r (fun s' I'=>⟨_,H,I',h⟩) hf)
def gNil:TGs:=fun vs σ H Q=>vs=[]/\Q σ H
def gCons (t:TG) (u:TGs):TGs:=fun vs σ H Q=>∃ v r,vs=v::r/\t v σ H fun σ' H'=>u r σ' H' Q
theorem xAdu:PGs X [] gNil:=by
 intro pins s σ H vs us Q I r h;obtain ⟨e,h⟩:=h;subst e;cases r;exact assignInOrder_nil ⟨σ,H,I,h⟩
theorem xAbi {e:Expr} {es:List Expr} {t:TG} {u:TGs} (h1:PG X e t) (h2:PGs X es u)
  (hs:(assignEach (e::es) X.env).map (·.2)=assign e X.env::(assignEach es X.env).map (·.2):=by rfl):PGs X (e::es) (gCons t u):=by
 intro pins s σ H vs us Q I r h;obtain ⟨v,vr,e1,h⟩:=h;subst e1
 cases r with
 | cons r rr =>
  rw [hs];refine assignInOrder_cons (thn (h1 pins s σ H _ _ _ I r h) fun _ s1 ⟨σ1,H1,I1,q1⟩=>?_);exact h2 pins s1 σ1 H1 _ _ Q I1 rr q1
def gTup (K:PySem.W.Frag) (n:Nat) (t:TGs):TG:=fun v σ H Q=>∃ a xs,v=.ref a/\SqT K H a xs/\xs.length=n/\t xs σ H Q
theorem xAid {es:List Expr} {k:Nat} {t:TGs} {n:Nat} (hc:X.calm=true) (h:PGs X es t)
  (hn:(assignEach es X.env).length=n:=by rfl) (hst:(assignEach es X.env).findIdx? (·.1)=none:=by rfl):PG X (.Tuple es k pos) (gTup X.K n t):=by
 intro pins s σ H v u Q I r hw;obtain ⟨a,xs,e1,hq,hl,hw⟩:=hw;subst e1;cases r;obtain ⟨its,rv,ht,hz⟩:=I.tuple hq;refine assign_Tuple_tuple (I.ok.hd hc) ht (by simp [hn,← hl,rv.length]) hst fun h' hx=>?_;have I1:Inv X pins σ H { s with heap:=h' }:=I.kept (t':=s.toks) fun b o e=>hx b o (qj (Heap.lt_size e)) e;exact h pins _ σ H xs _ Q I1 (by simpa using rv) hw
def gSub (to ti:TE) (t:TSet):TG:=fun v σ H Q=>to σ H fun o H1=>ti σ H1 fun i H2=>t o i v H2 fun H3=>Q σ H3
theorem xApt {o i:Expr} {to ti:TE} {t:TSet} (ho:PE X o to) (hi:PE X i ti) (hs:PSet X t)
  (ha:∀ v,assign (.Subscript o i pos) X.env v=(do
   let ov ← holding [v] (eval o X.env)
   let iv ← holding [v,ov] (eval i X.env)
   standAt pos
   holding [v,ov,iv] (setItem ov iv v)
   release [v,ov,iv] []):=by intro _;rfl):PG X (.Subscript o i pos) (gSub to ti t):=by
 intro pins s σ H v u Q I r h;rw [ha];refine wpAny_bind (wpAny_holding (thn (ho pins s σ H _ I h) fun ov s1 ⟨x,H1,I1,r1,q1⟩=>?_));refine wpAny_bind (wpAny_holding (thn (hi pins s1 σ H1 _ I1 q1) fun iv s2 ⟨y,H2,I2,r2,q2⟩=>?_));refine wpAny_bind (wpAny_standAt (wpAny_bind (wpAny_holding (thn (hs pins s2 σ H2 x y v ov iv u _ I2 r1 r2 r q2) fun _ s3 ⟨H3,I3,q3⟩=>?_))));exact wpAny_release ⟨σ,H3,I3,q3⟩
def tAsg (te:TE) (g:TG):TS:=fun D σ H=>te σ H fun x H1=>g x σ H1 D.nx
theorem xAmb {tg e:Expr} {te:TE} {g:TG} (he:PE X e te) (hg:PG X tg g) (hs:swapsWithSole [tg] e pos.line X.env=pure false:=by rfl) (hw:swappedStores [tg] e X.env=pure none:=by rfl)
  (h1:(assignEach [tg] X.env).map (·.2)=[assign tg X.env]:=by rfl):PS X (.Assign [tg] e pos) (tAsg te g):=by
 intro pins s σ H D I h;refine wpAny_Assign_stores (thn (he pins s σ H _ I h) fun v s1 ⟨x,H1,I1,r1,q1⟩=>?_) hs hw;rw [h1];exact thn (hg pins s1 σ H1 x v _ I1 r1 q1) fun _ s2 q=>q
theorem xAap {i:Nat} {x:Str} {e:Expr} {te:TE} {pos':Pos} (hN:X.N.Nodup) (hi:X.N[i]?=some x) (hx:Loc X.env.scope x) (he:PE X e te) (hs:swapsWith e (some (.Name x pos')) pos.line X.env=pure false:=by rfl) (hf:X.fn x=true\/X.env.scope.names.lookup x=some .local:=by first | exact .inl rfl | exact .inr rfl | assumption) :
  PS X (.Assign [.Name x pos'] e pos) (tAsg te (gName i)):=by
 intro pins s σ H D I h;refine wpAny_Assign_Name (thn (he pins s σ H _ I h) fun v s1 ⟨y,H1,I1,r1,q1⟩=>?_) hs;exact xAiv I1 hN hi hx r1 (fun s2 I2=>⟨_,H1,I2,q1⟩) hf
end
section
variable {X:Cx} {pos:Pos}
end
structure It where
 go:Nat->Hp->Prop
 yld:Nat->Hp->V->Hp->Prop
 stop:Nat->Hp->Prop
def FpOk (X:Cx) (pins:List (Addr×Obj)) (H:Hp) (b:Addr):Prop :=
 H b=none/\b≠X.env.locals/\b∉X.fs/\(b∈X.ex\/X.s₀.heap.objs.size≤b)/\(∀ x c,X.env.cells.lookup x=some c->c≠b)/\∀ p∈X.pn++pins,p.1≠b
theorem Inv.fpOk {X:Cx} {pins:List (Addr×Obj)} {σ:St} {H H':Hp} {s:Shared} {b:Addr} (I:Inv X pins σ H s) (hb:s.heap.objs.size≤b) (hn:H' b=none):FpOk X pins H' b:=by
 refine ⟨hn,za (qz I.lt hb),I.nofs hb,.inr (qm I.sz hb),fun x c e z=>?_,fun p hp z=>?_⟩
 ·obtain ⟨v,q⟩:=I.cell x c e
  exact absurd (qz q.lt (by rw [z];exact hb)) (zr _)
 ·exact absurd (qz (Heap.lt_size (I.pin p hp).1) (by rw [z];exact hb)) (zr _)
structure Turn (P:Program) (w:World) (K:PySem.W.Frag) (tg:Expr) (J:It) (fp:List Addr) (it:Addr) (tn:Nat->Heap->Prop):Prop where
 mem:it∈fp
 obj:∀ i h,tn i h->∀ b∈fp,∃ o,h.get? b=some o/\∀ v,o.data≠.cell v
 keep:∀ i h h',tn i h->(∀ b∈fp,∀ o,h.get? b=some o->h'.get? b=some o)->tn i h'
 item:∀ (X:Cx),X.prog=P->X.w=w->X.K=K->X.calm=true->∀ (i:Nat) (pins:List (Addr×Obj)) (s:Shared) (σ:St) (H:Hp) (E:Value->Shared->Prop),Inv X pins σ H s->(∀ b∈fp,FpOk X pins H b)->tn i s.heap->J.go i H →
  wpAny (model P w) X.A (pyNext (.ref it)) (fun r s1=>∃ u,r=some u ∧
   wpAny (model P w) X.A (letOwnedTupleGo tg (.ref it) u) (fun _ s2=>∃ x H',Inv X pins σ H' s2/\RelV x u/\J.yld i H x H'/\tn (i+1) s2.heap/\∀ b∈fp,H' b=none) E s1) E s
 done:∀ (X:Cx),X.prog=P->X.w=w->X.K=K->X.calm=true->∀ (i:Nat) (pins:List (Addr×Obj)) (s:Shared) (σ:St) (H:Hp) (E:Value->Shared->Prop),Inv X pins σ H s->(∀ b∈fp,FpOk X pins H b)->tn i s.heap->J.stop i H →
  wpAny (model P w) X.A (pyNext (.ref it)) (fun r s1=>r=none/\Inv X pins σ H s1) E s
 self:∀ (A:Around) (i:Nat) (s:Shared) (Q:Value->Shared->Prop) (E:Value->Shared->Prop),tn i s.heap->Q (.ref it) s->wpAny (model P w) A (pyIter (.ref it)) Q E s
abbrev TI:=St->Hp->(It->Hp->Prop)->Prop
def PIE (X:Cx) (pins:List (Addr×Obj)) (σ:St) (tg:Expr) (R:It->Hp->Prop) (itv:Value) (s2:Shared):Prop :=
 ∃ (it:Addr) (fp:List Addr) (tn:Nat->Heap->Prop) (J:It) (H':Hp),itv=.ref it/\Inv X pins σ H' s2/\Turn X.prog X.w X.K tg J fp it tn/\tn 0 s2.heap/\(∀ b∈fp,FpOk X pins H' b)/\R J H'
def PI (X:Cx) (tg iter:Expr) (wi:TI):Prop :=
 ∀ (pins:List (Addr×Obj)) (s:Shared) (σ:St) (H:Hp) (R:It->Hp->Prop),Inv X pins σ H s->wi σ H R →
  wpAny (model X.prog X.w) X.A (eval iter X.env) (fun v s1=>wpAny (model X.prog X.w) X.A (pyIter v) (PIE X pins σ tg R) X.xe s1) X.xe s
theorem go_of {M:Model} {A:Around} {E:Value->Shared->Prop} {s:Shared} {tg:Expr} {it:Addr} {u:Value} {o:Obj} {n:String} {vs:Array Value} {Q:Unit->Shared->Prop} (ho:s.heap.get? it=some o) (hc:o.cls=.type n) (hd:o.data=.fields vs)
  (hn:["enumerate","zip","dict_itemiterator","dict_reverseitemiterator","odict_iterator","itertools.zip_longest","itertools.pairwise"].contains n=false) (hQ:Q () s):wpAny M A (letOwnedTupleGo tg (.ref it) u) Q E s:=by
 unfold letOwnedTupleGo
 cases tg <;> first
  | exact wpAny_pure hQ
  | (cases u <;> first
    | exact wpAny_pure hQ
    | (refine wpAny_bind (wpAny_load ho ?_)
       rw [hc,hd];show wpAny M A (if (["enumerate","zip","dict_itemiterator","dict_reverseitemiterator","odict_iterator","itertools.zip_longest","itertools.pairwise"].contains n&&vs[0]?==some (rawInt _))=true then _ else _) Q E s;rw [if_neg (by intro h;rw [hn,Bool.false_and] at h;cases h)]
       exact wpAny_pure hQ))
def Itl (K:PySem.W.Frag) (a:Addr):It :=
 ⟨fun i H=>∃ xs x,SqL K H a xs/\xs[i]?=some x,fun i H x H'=>H'=H/\∀ xs,SqL K H a xs->xs[i]?=some x,fun i H=>∃ xs,SqL K H a xs/\xs.length≤i⟩
def Itr (lo:Int) (n:Nat):It:=⟨fun i _=>i<n,fun i H x H'=>H'=H/\x=.int (lo+i),fun i _=>n≤i⟩
theorem xAmc {P:Program} {w:World} {K:PySem.W.Frag} {tg:Expr} (a it:Addr):Turn P w K tg (Itl K a) [it] it (fun i h=>h.IsListIter it a i) where
 mem:=by simp
 obj:=fun i h st b hb=>by
  have e:b=it:=by simpa using hb
  subst e;obtain ⟨o,e,c,d⟩:=st;exact ⟨o,e,fun v z=>by rw [d] at z;cases z⟩
 keep:=fun i h h' st k=>st.at fun o e=>k it (by simp) o e
 item:=by
  intro X hP hw hK hc i pins s σ H E I hf st hg;subst hP hw hK;obtain ⟨xs,x,hq,hx⟩:=hg;obtain ⟨its,rv,p,hz⟩:=I.list hq;obtain ⟨u,hu,ru⟩:=rv.get hx;obtain ⟨f0,f1,f2,f3,f4,f5⟩:=hf it (by simp);refine wpAny_pyNext_list_item st p.isList (x:=u) (by simpa using hu) fun h' st' sb=>?_;have I1:Inv X pins σ H { s with heap:=h' }:=I.turned (t':=s.toks) (fun b o hb e=>(sb.2 b hb).trans e) f0 f1 f3 f4 f5;obtain ⟨o,e,c,d⟩:=id st';exact ⟨u,rfl,go_of (s:={ s with heap:=h' }) e c d (by decide) ⟨x,H,I1,ru,⟨rfl,fun ys hy=>by rw [I.list_inj hy hq];exact hx⟩,st',fun b hb=>(hf b hb).1⟩⟩
 done:=by
  intro X hP hw hK hc i pins s σ H E I hf st hg;subst hP hw hK;obtain ⟨xs,hq,hx⟩:=hg;obtain ⟨its,rv,p,hz⟩:=I.list hq;obtain ⟨f0,f1,f2,f3,f4,f5⟩:=hf it (by simp);have hl:=rv.length;exact wpAny_pyNext_list_end (I.ok.hd hc) st p.isList (by simp;omega) fun h' eb=>⟨rfl,I.turned (t':=s.toks) (fun b o hb e=>eb b o hb e) f0 f1 f3 f4 f5⟩
 self:=fun _ _ _ _ _ st h=>wpAny_pyIter_listiter st h
theorem xAiy {P:Program} {w:World} {K:PySem.W.Frag} {tg:Expr} (it:Addr) (lo:Int) (n:Nat):Turn P w K tg (Itr lo n) [it] it (fun i h=>IsRangeIter h it (lo+(i:Nat) * 1) ((n:Int) - (i:Nat)) 1) where
 mem:=by simp
 obj:=fun i h st b hb=>by
  have e:b=it:=by simpa using hb
  subst e
  exact ⟨_,st,fun v z=>by
   have z':Data.fields _=Data.cell v:=z
   cases z'⟩
 keep:=fun i h h' st k=>k it (by simp) _ st
 item:=by
  intro X hP hw hK hc i pins s σ H E I hf st hg;subst hP hw hK;obtain ⟨f0,f1,f2,f3,f4,f5⟩:=hf it (by simp);have W:=Walks.range (prog:=X.prog) (w:=X.w) (I.ok.hd hc) it lo 1 n;refine W.item i s _ _ hg st fun v h' tk hv st' kk=>?_;obtain ⟨t,rfl⟩:=hv;have I1:Inv X pins σ H { s with heap:=h',toks:=tk }:=I.turned (fun b o hb e=>kk b o (by simpa using hb) e) f0 f1 f3 f4 f5;refine ⟨_,rfl,go_of (s:={ s with heap:=h',toks:=tk }) (n:="range_iterator") st' rfl rfl (by decide) ⟨.int (lo+i),H,I1,⟨t,?_⟩,⟨rfl,rfl⟩,st',fun b hb=>(hf b hb).1⟩⟩;rw [Int.mul_one]
 done:=by
  intro X hP hw hK hc i pins s σ H E I hf st hg;subst hP hw hK;obtain ⟨f0,f1,f2,f3,f4,f5⟩:=hf it (by simp);exact wpAny_pyNext_range_end (I.ok.hd hc) st (by have:n≤i:=hg;omega) fun h' eb=>⟨rfl,I.turned (t':=s.toks) (fun b o hb e=>eb b o hb e) f0 f1 f3 f4 f5⟩
 self:=fun _ _ _ _ _ st h=>wpAny_pyIter_rangeiter st h
section
variable {X:Cx} {tg:Expr}
def iList (K:PySem.W.Frag) (tl:TE):TI:=fun σ H R=>tl σ H fun x H1=>∃ a,x=.ref a/\(∃ xs,SqL K H1 a xs)/\R (Itl K a) H1
theorem xAbj {l:Expr} {tl:TE} (hl:PE X l tl):PI X tg l (iList X.K tl):=by
 intro pins s σ H R I h;refine thn (hl pins s σ H _ I h) fun v s1 ⟨x,H1,I1,r1,q1⟩=>?_;obtain ⟨a,e,⟨xs,hq⟩,q⟩:=q1;subst e;cases r1;obtain ⟨its,rv,p,hz⟩:=I1.list hq;refine wpAny_pyIter_list p.isList ?_;refine ⟨s1.heap.objs.size,[s1.heap.objs.size],_,_,H1,rfl,I1.kept (t':=s1.toks) fun b o e=>Heap.get?_push_of_some _ e,xAmc a _,⟨_,Heap.get?_push_size _ rfl,rfl,rfl⟩,fun b hb=>?_,q⟩
 have e:b=s1.heap.objs.size:=by simpa using hb
 subst e;exact I1.fpOk (qh _) (I1.hok.fresh (qh _))
theorem xApu {pins:List (Addr×Obj)} {σ:St} {H:Hp} {s:Shared} {R:It->Hp->Prop} {E:Value->Shared->Prop} {lo hi:Int} {t u v:Tok} {tk:Nat} (I:Inv X pins σ H s) (h1:-(2 ^ 62)≤lo) (h2:lo<2 ^ 62) (h3:-(2 ^ 62)≤hi) (h4:hi<2 ^ 62)
  (q:R (Itr lo (hi - lo).toNat) H):wpAny (model X.prog X.w) X.A (pyIter (.ref s.heap.objs.size)) (PIE X pins σ tg R) E { s with heap:=s.heap.push { cls:=.type "range",data:=.fields #[.int lo t,.int hi u,.int 1 v] },toks:=tk }:=by
 refine wpAny_pyIter_range (IsRange.new ..) (small_one h1 h2 h3 h4) ?_;have I1:Inv X pins σ H { s with heap:=s.heap.push { cls:=.type "range",data:=.fields #[.int lo t,.int hi u,.int 1 v] },toks:=tk }:=I.kept fun b o e=>Heap.get?_push_of_some _ e
 refine ⟨(s.heap.push { cls:=.type "range",data:=.fields #[.int lo t,.int hi u,.int 1 v] }).objs.size,[(s.heap.push { cls:=.type "range",data:=.fields #[.int lo t,.int hi u,.int 1 v] }).objs.size],_,_,H,rfl,
  I1.kept (t':=tk) fun b o e=>Heap.get?_push_of_some _ e,xAiy _ lo (hi - lo).toNat,?_,fun b hb=>?_,q⟩
 ·have e1:lo+((0:Nat):Int) * 1=lo:=by simp
  have e2:(((hi - lo).toNat:Nat):Int) - ((0:Nat):Int)=Builtin.Range.rangeSize lo hi 1:=by rw [rangeSize_one];split <;> omega
  show IsRangeIter _ _ (lo+((0:Nat):Int) * 1) ((((hi - lo).toNat:Nat):Int) - ((0:Nat):Int)) 1;rw [e1,e2];exact Heap.get?_push_size _ rfl
 ·have e:b=(s.heap.push { cls:=.type "range",data:=.fields #[.int lo t,.int hi u,.int 1 v] }).objs.size:=by simpa using hb
  subst e;exact I1.fpOk (qh _) (I1.hok.fresh (qh _))
def iRng1 (ta:TA):TI:=fun σ H R=>ta σ H fun vs H1=>∃ j:Int,vs=[.int j]/\-(2 ^ 62)≤j/\j<2 ^ 62/\R (Itr 0 j.toNat) H1
theorem xAcn {a:Expr} {ta:TA} {p pos:Pos} (hg:Gl X "range") (hm:X.mg "range"=none) (ha:PA X [a] ta) (hs:starEach [a] X.env=[(false,eval a X.env)]:=by rfl):PI X tg (.Call (.Name "range" p) [a] [] pos) (iRng1 ta):=by
 intro pins s σ H R I h;refine Call_ (xAdr I hg hm boot_range (PyProof.Rows.callWith_type1 (thn (ha pos pins s σ H _ I h) fun us s1 ⟨vs,H1,I1,r1,q1⟩=>?_) hs rfl));obtain ⟨j,e,q1,q2,q⟩:=q1;subst e
 cases r1 with
 | cons r rr =>
  cases rr;obtain ⟨t,rfl⟩:=r;exact call_range_1 (xApu I1 (by omega) (by omega) q1 q2 (by simpa using q))
def tFor (wi:TI) (g:TG) (tb:TS):TS:=fun D σ H=>wi σ H fun J H1=>∃ W:Nat->Nat->St->Hp->Prop,(∃ m,W 0 m σ H1)/\∀ i m σ H,W i m σ H →
 (J.stop i H/\D.nx σ H)\/(J.go i H/\∃ N:St->Hp->Prop,(∀ σ' H',N σ' H'->∃ m',m'<m/\W (i+1) m' σ' H')/\∀ x H',J.yld i H x H'->g x σ H' fun σ2 H2=>tb { D with nx:=N,ct:=N,bk:=D.nx } σ2 H2)
def pinsAt (fp:List Addr) (h:Heap):List (Addr×Obj):=fp.filterMap fun b=>(h.get? b).map fun o=>(b,o)
theorem xAdg {fp:List Addr} {h:Heap} {b:Addr} {o:Obj} (hb:b∈fp) (e:h.get? b=some o):(b,o)∈pinsAt fp h:=yq.mpr ⟨b,hb,by rw [e];rfl⟩
theorem xAgn {fp:List Addr} {h:Heap} {p:Addr×Obj} (hp:p∈pinsAt fp h):p.1∈fp/\h.get? p.1=some p.2:=by
 obtain ⟨b,hb,e⟩:=yq.mp hp
 cases q:h.get? b with
 | none=>rw [q] at e;cases e
 | some o =>
  rw [q] at e;have e':(b,o)=p:=Option.some.inj e;subst e';exact ⟨hb,q⟩
theorem Inv.pinned {pins:List (Addr×Obj)} {σ:St} {H:Hp} {s:Shared} {fp:List Addr} (I:Inv X pins σ H s) (hf:∀ b∈fp,FpOk X pins H b) (ho:∀ b∈fp,∃ o,s.heap.get? b=some o/\∀ v,o.data≠.cell v):Inv X (pins++pinsAt fp s.heap) σ H s :=
 I.pins_of fun p hp=>(zj.mp hp).elim (fun z=>I.pin p (zt _ z)) fun z=>by
  obtain ⟨hb,e⟩:=xAgn z;obtain ⟨f0,f1,f2,_⟩:=hf p.1 hb;obtain ⟨o,e',d⟩:=ho p.1 hb;rw [e] at e';cases e';exact ⟨e,f0,f1,f2,d⟩
theorem Inv.unpinned {pins pl:List (Addr×Obj)} {σ:St} {H:Hp} {s:Shared} (I:Inv X (pins++pl) σ H s):Inv X pins σ H s:=I.pins_of fun p hp=>I.pin p (zt _ (w5 _ hp))
theorem xAca {iter:Expr} {body:List Stmt} {wi:TI} {g:TG} {tb:TS} {pos:Pos} (hp:PassesOwn (model X.prog X.w) X.A X.env X.xe) (hc:X.calm=true) (hi:PI X tg iter wi) (hg:PG X tg g) (hb:PSs X body tb)
  (hs:∀ x,foldedSetIterable iter X.env x=pure x:=by intro _;rfl):PS X (.For tg iter body [] pos) (tFor wi g tb):=by
 intro pins s σ H D I h;refine wpAny_For (thn (hi pins s σ H _ I h) fun v s1 h1=>thn h1 fun itv s2 h2=>?_) hs;obtain ⟨it,fp,tn,J,H2,e,I2,T,st2,f2,W,⟨m0,w0⟩,turn⟩:=h2;subst e;have stat:∀ {H':Hp},(∀ b∈fp,H' b=none)->∀ b∈fp,FpOk X pins H' b:=fun hn b hb=>⟨hn b hb,(f2 b hb).2⟩;refine codeAny_forLoop_any (fun n s'=>∃ i σ' H',Inv X pins σ' H' s'/\tn i s'.heap/\(∀ b∈fp,H' b=none)/\W i n σ' H') ?_ m0 ⟨0,σ,H2,I2,st2,fun b hb=>(f2 b hb).1,w0⟩;rintro n s3 ⟨i,σ3,H3,I3,st3,fr3,w3⟩;rcases turn i n σ3 H3 w3 with ⟨stop,qn⟩ | ⟨go,N,hN,step⟩
 ·refine wpAny_passesOwn hp (thn (T.done X rfl rfl rfl hc i pins s3 σ3 H3 X.xe I3 (stat fr3) st3 stop) fun r s4 ⟨hr,I4⟩=>?_)
  subst hr;exact wpAny_execs_nil ⟨σ3,H3,I4,qn⟩
 ·refine wpAny_passesOwn hp (thn (T.item X rfl rfl rfl hc i pins s3 σ3 H3 X.xe I3 (stat fr3) st3 go) fun r s4 ⟨u,hr,h4⟩=>?_)
  subst hr;refine wpAny_passesOwn hp (thn h4 fun _ s5 ⟨x,H5,I5,r5,y5,st5,fr5⟩=>?_);have I5':=I5.pinned (stat fr5) (T.obj _ _ st5);refine wpAny_passesOwn hp (thn (hg _ s5 σ3 H5 x u _ I5' r5 (step x H5 y5)) fun _ s6 ⟨σ6,H6,I6,q6⟩=>?_);refine wpAny_passesOwn hp (thn (hb _ s6 σ6 H6 _ I6 q6) fun f s7 q7=>?_)
  have again:∀ {σ7:St} {H7:Hp},Inv X (pins++pinsAt fp s5.heap) σ7 H7 s7->N σ7 H7->∃ m,m<n/\∃ i σ' H',Inv X pins σ' H' s7/\tn i s7.heap/\(∀ b∈fp,H' b=none)/\W i m σ' H':=fun {σ7 H7} I7 n7=>by
   obtain ⟨m',hm,w7⟩:=hN σ7 H7 n7;refine ⟨m',hm,i+1,σ7,H7,I7.unpinned,T.keep _ _ _ st5 fun b hb o e=>(I7.pin (b,o) (zt _ (zt _ (xAdg hb e)))).1,fun b hb=>?_,w7⟩;obtain ⟨o,e,d⟩:=T.obj _ _ st5 b hb;exact (I7.pin (b,o) (zt _ (zt _ (xAdg hb e)))).2.1
  cases f with
  | next=>obtain ⟨σ7,H7,I7,n7⟩:=q7;exact again I7 n7
  | cont=>obtain ⟨σ7,H7,I7,n7⟩:=q7;exact again I7 n7
  | brk=>obtain ⟨σ7,H7,I7,q7⟩:=q7;exact ⟨σ7,H7,I7.unpinned,q7⟩
  | ret v=>obtain ⟨x7,σ7,H7,I7,r7,q7⟩:=q7;exact ⟨x7,σ7,H7,I7.unpinned,r7,q7⟩
end
theorem xAbs {K:PySem.W.Frag} {a:Addr} {xs:List V} {g:TG} {tb:TS} {D:Ends} {σ:St} {H:Hp} (Pv:Nat->St->Hp->Prop) (h0:Pv 0 σ H) (hl:∀ i σ H,i≤xs.length->Pv i σ H->SqL K H a xs)
  (hs:∀ i x σ H,xs[i]?=some x->Pv i σ H->g x σ H fun σ2 H2=>tb { D with nx:=Pv (i+1),ct:=Pv (i+1),bk:=D.nx } σ2 H2) (hd:∀ σ H,Pv xs.length σ H->D.nx σ H) :
  ∃ W:Nat->Nat->St->Hp->Prop,(∃ m,W 0 m σ H)/\∀ i m σ H,W i m σ H →
   ((Itl K a).stop i H/\D.nx σ H)\/((Itl K a).go i H/\∃ N:St->Hp->Prop,(∀ σ' H',N σ' H'->∃ m',m'<m/\W (i+1) m' σ' H')/\∀ x H',(Itl K a).yld i H x H'->g x σ H' fun σ2 H2=>tb { D with nx:=N,ct:=N,bk:=D.nx } σ2 H2):=by
 refine ⟨fun i m σ H=>m=xs.length - i/\i≤xs.length/\Pv i σ H,⟨xs.length,by simp,Nat.zero_le _,h0⟩,?_⟩;rintro i m σ H ⟨rfl,hi,p⟩;have q:=hl i σ H hi p
 by_cases hlt:i<xs.length
 ·refine .inr ⟨⟨xs,xs[i],q,by simp [hlt]⟩,Pv (i+1),fun σ' H' p'=>⟨xs.length - (i+1),by omega,rfl,hlt,p'⟩,fun x H' y=>?_⟩
  obtain ⟨e,y⟩:=y;subst e;exact hs i x σ _ (y xs q) p
 ·have e:i=xs.length:=by omega
  subst e;exact .inl ⟨⟨xs,q,qh _⟩,hd σ H p⟩
theorem xAdb {lo:Int} {n:Nat} {g:TG} {tb:TS} {D:Ends} {σ:St} {H:Hp} (Pv:Nat->St->Hp->Prop) (h0:Pv 0 σ H)
  (hs:∀ i σ H,i<n->Pv i σ H->g (.int (lo+i)) σ H fun σ2 H2=>tb { D with nx:=Pv (i+1),ct:=Pv (i+1),bk:=D.nx } σ2 H2) (hd:∀ σ H,Pv n σ H->D.nx σ H) :
  ∃ W:Nat->Nat->St->Hp->Prop,(∃ m,W 0 m σ H)/\∀ i m σ H,W i m σ H →
   ((Itr lo n).stop i H/\D.nx σ H)\/((Itr lo n).go i H/\∃ N:St->Hp->Prop,(∀ σ' H',N σ' H'->∃ m',m'<m/\W (i+1) m' σ' H')/\∀ x H',(Itr lo n).yld i H x H'->g x σ H' fun σ2 H2=>tb { D with nx:=N,ct:=N,bk:=D.nx } σ2 H2):=by
 refine ⟨fun i m σ H=>m=n - i/\i≤n/\Pv i σ H,⟨n,by simp,Nat.zero_le _,h0⟩,?_⟩;rintro i m σ H ⟨rfl,hi,p⟩
 by_cases hlt:i<n
 ·refine .inr ⟨hlt,Pv (i+1),fun σ' H' p'=>⟨n - (i+1),by omega,rfl,hlt,p'⟩,fun x H' y=>?_⟩
  obtain ⟨e,y⟩:=y;subst e y;exact hs i σ _ hlt p
 ·have e:i=n:=by omega
  subst e;exact .inl ⟨qh _,hd σ H p⟩
abbrev R2:=V->V->Hp->VK->Prop
def OpR (X:Cx) (f:Value->Value->Sem Value) (r:R2):Prop :=
 ∀ (pins:List (Addr×Obj)) (s:Shared) (σ:St) (H:Hp) (x y:V) (v u:Value) (Q:VK),Inv X pins σ H s->RelV x v->RelV y u->r x y H Q →
  wpAny (model X.prog X.w) X.A (f v u) (EP X pins σ Q) X.xe s
def CallR (X:Cx) (f:Value) (r:List V->Hp->VK->Prop):Prop :=
 ∀ (pins:List (Addr×Obj)) (s:Shared) (σ:St) (H:Hp) (xs:List V) (us:List Value) (Q:VK),Inv X pins σ H s->Vals xs us->r xs H Q →
  wpAny (model X.prog X.w) X.A (call f us) (EP X pins σ Q) X.xe s
def tOp (r:R2) (ta tb:TE):TE:=fun σ H Q=>ta σ H fun x H1=>tb σ H1 fun y H2=>r x y H2 Q
def rI (C:Int->Int->Prop) (g:Int->Int->V):R2:=fun x y H Q=>∃ i j,x=.int i/\y=.int j/\C i j/\Q (g i j) H
def rI0 (g:Int->Int->V):R2:=fun x y H Q=>∃ i j,x=.int i/\y=.int j/\Q (g i j) H
section
variable {X:Cx} {a b c:Expr} {ta tb tc:TE} {pos:Pos}
theorem binT (ha:PE X a ta) (hb:PE X b tb) {pins:List (Addr×Obj)} {s:Shared} {σ:St} {H:Hp} {R:V->V->Hp->Prop} (I:Inv X pins σ H s)
  (h:ta σ H fun x H1=>tb σ H1 fun y H2=>R x y H2) {Q:Value->Shared->Prop} {f:Value->Value->Sem Value}
  (hf:∀ v u s2 x y H2,Inv X pins σ H2 s2->RelV x v->RelV y u->R x y H2->wpAny (model X.prog X.w) X.A (f v u) Q X.xe s2) :
  wpAny (model X.prog X.w) X.A (eval a X.env) (fun v s₁=>wpAny (model X.prog X.w) X.A (eval b X.env) (fun u s₂=>wpAny (model X.prog X.w) X.A (f v u) Q X.xe s₂) X.xe s₁) X.xe s:=by
 refine thn (ha pins s σ H _ I h) fun v s1 ⟨x,H1,I1,r1,q1⟩=>?_;refine thn (hb pins s1 σ H1 _ I1 q1) fun u s2 ⟨y,H2,I2,r2,q2⟩=>?_;exact hf v u s2 x y H2 I2 r1 r2 q2
theorem pe_op {op:Operator} {r:R2} (ho:OpR X (binaryOp op) r) (ha:PE X a ta) (hb:PE X b tb):PE X (.BinOp a op b pos) (tOp r ta tb):=by
 intro pins s σ H Q I h;exact wpAny_BinOp (binT ha hb I h fun v u s2 x y H2 I2 rx ry q=>ho pins s2 σ H2 x y v u Q I2 rx ry q)
theorem opI {f:Value->Value->Sem Value} {C:Int->Int->Prop} {g:Int->Int->Int}
  (rule:∀ (i j:Int) (t u:Tok) (s:Shared) (Q:Value->Shared->Prop) (E:Value->Shared->Prop),C i j->Q (.int (g i j) s.toks) { s with toks:=s.toks+1 }->wpAny (model X.prog X.w) X.A (f (.int i t) (.int j u)) Q E s) :
  OpR X f (rI C fun i j=>.int (g i j)):=by
 intro pins s σ H x y v u Q I rx ry h;obtain ⟨i,j,rfl,rfl,hc,q⟩:=h;obtain ⟨t,rfl⟩:=rx;obtain ⟨t',rfl⟩:=ry;exact rule i j t t' s _ _ hc ⟨.int (g i j),H,I.tok _,⟨_,rfl⟩,q⟩
theorem opI0 {f:Value->Value->Sem Value} {g:Int->Int->Int}
  (rule:∀ (i j:Int) (t u:Tok) (s:Shared) (Q:Value->Shared->Prop) (E:Value->Shared->Prop),Q (.int (g i j) s.toks) { s with toks:=s.toks+1 }->wpAny (model X.prog X.w) X.A (f (.int i t) (.int j u)) Q E s) :
  OpR X f (rI0 fun i j=>.int (g i j)):=by
 intro pins s σ H x y v u Q I rx ry h;obtain ⟨i,j,rfl,rfl,q⟩:=h;obtain ⟨t,rfl⟩:=rx;obtain ⟨t',rfl⟩:=ry;exact rule i j t t' s _ _ ⟨.int (g i j),H,I.tok _,⟨_,rfl⟩,q⟩
theorem opB0 {f:Value->Value->Sem Value} {g:Int->Int->Bool}
  (rule:∀ (i j:Int) (t u:Tok) (s:Shared) (Q:Value->Shared->Prop) (E:Value->Shared->Prop),Q (.bool (g i j)) s->wpAny (model X.prog X.w) X.A (f (.int i t) (.int j u)) Q E s) :
  OpR X f (rI0 fun i j=>.bl (g i j)):=by
 intro pins s σ H x y v u Q I rx ry h;obtain ⟨i,j,rfl,rfl,q⟩:=h;obtain ⟨t,rfl⟩:=rx;obtain ⟨t',rfl⟩:=ry;exact rule i j t t' s _ _ ⟨.bl (g i j),H,I,rfl,q⟩
def CDiv (i j:Int):Prop:=0<j/\j<1073741824
def CPow (i j:Int):Prop:=0≤j/\j≤1000000/\i.natAbs<2 ^ 64
def CMul (i j:Int):Prop:=(-(2 ^ 64)<i/\i<2 ^ 64)\/(-(2 ^ 64)<j/\j<2 ^ 64)
theorem CMul.ok {i j:Int} (h:CMul i j):IntMulOk i j:=by
 rcases h with ⟨h1,h2⟩ | ⟨h1,h2⟩
 ·exact .of_left (intBits_le_64 h1 h2)
 ·exact .of_right (intBits_le_64 h1 h2)
theorem xAbt:OpR X (binaryOp .Add) (rI0 fun i j=>.int (i+j)):=opI0 fun _ _ _ _ _ _ _ q=>add_int q
theorem xAmd:OpR X (binaryOp .Sub) (rI0 fun i j=>.int (i - j)):=opI0 fun _ _ _ _ _ _ _ q=>sub_int q
theorem xAds:OpR X (binaryOp .Mult) (rI CMul fun i j=>.int (i * j)):=opI fun _ _ _ _ _ _ _ hc q=>mul_int q hc.ok
theorem xAba:OpR X (binaryOp .FloorDiv) (rI CDiv fun i j=>.int (i / j)):=opI fun i j _ _ _ _ _ hc q=>by
 have h1:(0:Int)<j:=hc.1;have h2:j<1073741824:=hc.2;exact floordiv_int (by omega) (by rw [Int.fdiv_eq_ediv_of_nonneg i (by omega)];exact q) (.inl (PyProof.noPylong_small (by omega)))
theorem xAay:OpR X (binaryOp .Mod) (rI (fun _ j=>0<j) fun i j=>.int (i % j)):=opI fun i j _ _ _ _ _ hc q=>by
 have h1:(0:Int)<j:=hc;exact mod_int' (by omega) (by rw [Int.fmod_eq_emod_of_nonneg i (by omega)];exact q)
theorem xAie:OpR X (binaryOp .Pow) (rI CPow fun i j=>.int (i ^ j.toNat)):=opI fun _ _ _ _ _ _ _ hc q=>pow_int_small hc.1 hc.2.1 hc.2.2 q
end
def scal:V->V->Bool
 | .non,.non=>true | .non,.int _=>true | .int _,.non=>true | .non,.bl _=>true | .bl _,.non=>true | .non,.str _=>true | .str _,.non=>true
 | .int _,.int _=>true | .bl _,.bl _=>true | .str _,.str _=>true | .byt _,.byt _=>true
 | .int _,.str _=>true | .str _,.int _=>true | .bl _,.str _=>true | .str _,.bl _=>true
 | _,_=>false
def rEq:R2:=fun x y H Q=>scal x y=true/\Q (.bl (decide (x=y))) H
def rNe:R2:=fun x y H Q=>scal x y=true/\Q (.bl (!decide (x=y))) H
theorem xAok {i j:Int}:decide (V.int i=V.int j)=(i==j):=by
 rw [wq]
 simp
theorem xAsd {i j:Bool}:decide (V.bl i=V.bl j)=(i==j):=by
 rw [wq]
 simp
theorem xAol {i j:Str}:decide (V.str i=V.str j)=(i==j):=by
 rw [wq]
 simp
theorem xAom {i j:Array UInt8}:decide (V.byt i=V.byt j)=(i.toList==j.toList):=by
 rw [wq];cases i;cases j
 simp
section
variable {X:Cx} {a b c:Expr} {ta tb tc:TE} {pos:Pos}
theorem xAbe {pins:List (Addr×Obj)} {σ:St} {H:Hp} {s:Shared} {Q:VK} {k k':Bool} (I:Inv X pins σ H s) (q:Q (.bl k) H) (e:k=k'):EP X pins σ Q (.bool k') s:=by
 subst e;exact ⟨.bl k,H,I,rfl,q⟩
theorem op_eq:OpR X (compareOp .Eq) rEq:=by
 intro pins s σ H x y v u Q I rx ry h;obtain ⟨hs,q⟩:=h
 cases x with
 | non =>
  cases rx
  cases y with
  | non=>cases ry;exact PySem.EqNone.eq_none_none (xAbe I q (by simp))
  | bl j=>cases ry;exact PySem.EqNone.eq_none_bool (xAbe I q (by simp))
  | int j=>obtain ⟨t',rfl⟩:=ry;exact PySem.EqNone.eq_none_int (xAbe I q (by simp))
  | str j=>obtain ⟨t',rfl⟩:=ry;exact PySem.EqNone.eq_none_str (xAbe I q (by simp))
  | _=>exact absurd (show false=true from hs) qp
 | bl i =>
  cases rx
  cases y with
  | non=>cases ry;exact PySem.EqNone.eq_bool_none (xAbe I q (by simp))
  | bl j=>cases ry;exact eq_bool (xAbe I q xAsd)
  | str j=>obtain ⟨t',rfl⟩:=ry;exact PySem.EqMixed.eq_bool_str (xAbe I q (by simp))
  | _=>exact absurd (show false=true from hs) qp
 | int i =>
  obtain ⟨t,rfl⟩:=rx
  cases y with
  | non=>cases ry;exact PySem.EqNone.eq_int_none (xAbe I q (by simp))
  | int j=>obtain ⟨t',rfl⟩:=ry;exact eq_int (xAbe I q xAok)
  | str j=>obtain ⟨t',rfl⟩:=ry;exact PySem.EqMixed.eq_int_str (xAbe I q (by simp))
  | _=>exact absurd (show false=true from hs) qp
 | str i =>
  obtain ⟨t,rfl⟩:=rx
  cases y with
  | non=>cases ry;exact PySem.EqNone.eq_str_none (xAbe I q (by simp))
  | bl j=>cases ry;exact PySem.EqMixed.eq_str_bool (xAbe I q (by simp))
  | int j=>obtain ⟨t',rfl⟩:=ry;exact PySem.EqMixed.eq_str_int (xAbe I q (by simp))
  | str j=>obtain ⟨t',rfl⟩:=ry;exact eq_str (xAbe I q xAol)
  | _=>exact absurd (show false=true from hs) qp
 | byt i =>
  obtain ⟨t,rfl⟩:=rx
  cases y with
  | byt j=>obtain ⟨t',rfl⟩:=ry;exact PySem.W.eq_bytes (xAbe I q xAom)
  | _=>exact absurd (show false=true from hs) qp
 | _=>cases y <;> exact absurd (show false=true from hs) qp
theorem op_ne:OpR X (compareOp .NotEq) rNe:=by
 intro pins s σ H x y v u Q I rx ry h;obtain ⟨hs,q⟩:=h
 cases x with
 | non =>
  cases rx
  cases y with
  | non=>cases ry;exact PySem.EqNone.ne_none_none (xAbe I q (by simp))
  | bl j=>cases ry;exact PySem.EqNone.ne_none_bool (xAbe I q (by simp))
  | int j=>obtain ⟨t',rfl⟩:=ry;exact PySem.EqNone.ne_none_int (xAbe I q (by simp))
  | str j=>obtain ⟨t',rfl⟩:=ry;exact PySem.EqNone.ne_none_str (xAbe I q (by simp))
  | _=>exact absurd (show false=true from hs) qp
 | bl i =>
  cases rx
  cases y with
  | non=>cases ry;exact PySem.EqNone.ne_bool_none (xAbe I q (by simp))
  | bl j=>cases ry;exact ne_bool (xAbe I q (congrArg not xAsd))
  | str j=>obtain ⟨t',rfl⟩:=ry;exact PySem.EqMixed.ne_bool_str (xAbe I q (by simp))
  | _=>exact absurd (show false=true from hs) qp
 | int i =>
  obtain ⟨t,rfl⟩:=rx
  cases y with
  | non=>cases ry;exact PySem.EqNone.ne_int_none (xAbe I q (by simp))
  | int j=>obtain ⟨t',rfl⟩:=ry;exact ne_int (xAbe I q (congrArg not xAok))
  | str j=>obtain ⟨t',rfl⟩:=ry;exact PySem.EqMixed.ne_int_str (xAbe I q (by simp))
  | _=>exact absurd (show false=true from hs) qp
 | str i =>
  obtain ⟨t,rfl⟩:=rx
  cases y with
  | non=>cases ry;exact PySem.EqNone.ne_str_none (xAbe I q (by simp))
  | bl j=>cases ry;exact PySem.EqMixed.ne_str_bool (xAbe I q (by simp))
  | int j=>obtain ⟨t',rfl⟩:=ry;exact PySem.EqMixed.ne_str_int (xAbe I q (by simp))
  | str j=>obtain ⟨t',rfl⟩:=ry;exact ne_str (xAbe I q (congrArg not xAol))
  | _=>exact absurd (show false=true from hs) qp
 | byt i =>
  obtain ⟨t,rfl⟩:=rx
  cases y with
  | byt j=>obtain ⟨t',rfl⟩:=ry;exact PySem.W.ne_bytes (xAbe I q (congrArg not xAom))
  | _=>exact absurd (show false=true from hs) qp
 | _=>cases y <;> exact absurd (show false=true from hs) qp
theorem op_lt:OpR X (compareOp .Lt) (rI0 fun i j=>.bl (decide (i<j))):=opB0 fun _ _ _ _ _ _ _ q=>lt_int q
theorem op_le:OpR X (compareOp .LtE) (rI0 fun i j=>.bl (decide (i≤j))):=opB0 fun _ _ _ _ _ _ _ q=>le_int q
theorem op_gt:OpR X (compareOp .Gt) (rI0 fun i j=>.bl (decide (j<i))):=opB0 fun _ _ _ _ _ _ _ q=>gt_int q
theorem op_ge:OpR X (compareOp .GtE) (rI0 fun i j=>.bl (decide (j≤i))):=opB0 fun _ _ _ _ _ _ _ q=>ge_int q
theorem xAau (b:Expr) {op:CmpOp} (h:op≠.In:=by decide) (h2:op≠.NotIn:=by decide):behindInMarks op b=false:=by
 have e1:(op==CmpOp.In)=false:=by cases op <;> first | rfl | exact absurd rfl h
 have e2:(op==CmpOp.NotIn)=false:=by cases op <;> first | rfl | exact absurd rfl h2
 cases b <;> simp [behindInMarks,e1,e2]
theorem xAdh {op:CmpOp} {r:R2} (ho:OpR X (compareOp op) r) (ha:PE X a ta) (hb:PE X b tb) (hm:behindInMarks op b=false):PE X (.Compare a [op] [b] pos) (tOp r ta tb):=by
 intro pins s σ H Q I h;exact wpAny_Compare1 (binT ha hb I h fun v u s2 x y H2 I2 rx ry q=>ho pins s2 σ H2 x y v u Q I2 rx ry q) hm
def tTest (t:TE):TT:=fun σ H Q=>t σ H fun x H'=>∃ k,x=.bl k/\Q k H'
theorem xAao {op:CmpOp} {r:R2} (ho:OpR X (compareOp op) r) (ha:PE X a ta) (hb:PE X b tb) (hm:behindInMarks op b=false):PT X (.Compare a [op] [b] pos) (tTest (tOp r ta tb)):=by
 intro pins s σ H Q I h
 refine wpAny_isTrue_Compare1 (thn (ha pins s σ H _ I h) fun v s1 ⟨x,H1,I1,r1,q1⟩=>thn (hb pins s1 σ H1 _ I1 q1) fun u s2 ⟨y,H2,I2,r2,q2⟩ =>
  thn (ho pins s2 σ H2 x y v u _ I2 r1 r2 q2) fun c s3 ⟨z,H3,I3,r3,k,e,q3⟩=>?_) hm
 subst e;cases r3;exact wpAny_truthy_bool ⟨H3,I3,q3⟩
theorem xAiz:(sizeLine:Nat)<2 ^ 63:=by rw [sizeLine_eq];decide
theorem xAew:OpR X (binaryOp .Add) (fun x y H Q=>∃ i j,x=.str i/\y=.str j/\i.length+j.length≤sizeLine/\Q (.str (i++j)) H):=by
 intro pins s σ H x y v u Q I rx ry h;obtain ⟨i,j,rfl,rfl,hz,q⟩:=h;obtain ⟨t,rfl⟩:=rx;obtain ⟨t',rfl⟩:=ry;exact add_str (fun t' tk=>⟨.str (i++j),H,I.tok _,⟨_,rfl⟩,q⟩) hz
theorem vals1 {x:V} {us:List Value} (r:Vals [x] us):∃ u,us=[u]/\RelV x u:=by
 cases r with
 | cons r1 r2=>cases r2;exact ⟨_,rfl,r1⟩
theorem vals2 {x y:V} {us:List Value} (r:Vals [x,y] us):∃ u w',us=[u,w']/\RelV x u/\RelV y w':=by
 cases r with
 | cons r1 r2 =>
  cases r2 with
  | cons r3 r4=>cases r4;exact ⟨_,_,rfl,r1,r3⟩
theorem xAee (hc:X.calm=true):CallR X (.builtin "max") (fun xs H Q=>∃ i j,xs=[.int i,.int j]/\Q (.int (if j>i then j else i)) H):=by
 intro pins s σ H xs us Q I r h;obtain ⟨i,j,rfl,q⟩:=h;obtain ⟨u,w',rfl,⟨t,rfl⟩,⟨t',rfl⟩⟩:=vals2 r;refine max_two_ints (I.ok.hd hc) fun h' tk k=>⟨_,H,I.kept k,?_,q⟩
 by_cases hj:j>i
 ·rw [if_pos hj,if_pos hj];exact ⟨_,rfl⟩
 ·rw [if_neg hj,if_neg hj];exact ⟨_,rfl⟩
theorem xAco:CallR X (.type "int") (fun xs H Q=>(∃ i,xs=[.int i]/\Q (.int i) H)\/∃ k,xs=[.bl k]/\Q (.int (if k then 1 else 0)) H):=by
 intro pins s σ H xs us Q I r h;rcases h with ⟨i,rfl,q⟩ | ⟨k,rfl,q⟩
 ·obtain ⟨u,rfl,t,rfl⟩:=vals1 r
  exact call_int_int ⟨.int i,H,I,⟨_,rfl⟩,q⟩
 ·obtain ⟨u,rfl,r1⟩:=vals1 r
  cases r1;exact call_int_bool ⟨.int (if k then 1 else 0),H,I.tok _,⟨_,rfl⟩,q⟩
end
structure ObjM (h:Heap) (x dx C:Addr) (mA:Str->Option Value):Prop where
 obj:h.get? x=some (PySem.W.instObj C dx)
 ns:h.Ns1 dx mA
 ne:dx≠x
theorem xAme {h:Heap} {dx:Addr} {mA:Str->Option Value} (n:h.Ns1 dx mA):∃ od,h.get? dx=some od/\∀ name,PySem.W.lookIn name od=some (mA name):=by
 obtain ⟨o,es,ep,ho,hd,hk,_,hm⟩:=n;refine ⟨o,ho,fun name=>?_⟩;have e:=hm name;unfold nsFind findBy at e;rw [← Array.find?_toList] at e;unfold PySem.W.lookIn;rw [hd];dsimp only
 split
 ·rename_i y q
  rw [q] at e;exact congrArg some e
 ·rename_i q
  rw [q] at e
  have a:es.toList.any (·.refKey)=false:=by
   rw [List.any_eq_false];intro y hy;obtain ⟨z,t,hkey⟩:=hk y (yr.mp hy)
   simp [DictEntry.refKey,hkey]
  have a':¬ es.toList.any (·.refKey)=true:=by rw [a];exact qp
  rw [if_neg a'];exact congrArg some e
theorem ObjM.look {h:Heap} {x dx C:Addr} {mA:Str->Option Value} (I:ObjM h x dx C mA):∃ od,PySem.W.InstAt h x (PySem.W.instObj C dx) C (some od)/\∀ name,PySem.W.lookIn name od=some (mA name) :=
 let ⟨od,ho,hl⟩:=xAme I.ns
 ⟨od,⟨I.obj,rfl,rfl,ho⟩,hl⟩
section
variable {prog:Program} {w:World} {A:Around} {E:Value->Shared->Prop} {s:Shared} {K:PySem.W.Frag} {x dx C f:Addr} {mA:Str->Option Value} {name:Str} {v:Value}
theorem xAse {expr:Bool} {Q:Value->Shared->Prop} (X:K.In s.heap) (I:ObjM s.heap x dx C mA) (hg:PySem.W.plainGet K C name=true) (hh:PySem.W.hasDictIn K C=true)
  (ha:PySem.W.findIn K (.ref C) name=some none) (hv:mA name=some v) (hv':PySem.W.handedIn v=true) (h:Q v { s with toks:=s.toks+1 }) :
  wpAny (model prog w) A (getAttr (.ref x) name expr) Q E s:=by
 obtain ⟨od,J,hl⟩:=I.look;exact PySem.W.get_value X J (PySem.W.plainGet_of hg).1 (PySem.W.findObj_own hh ha rfl (by rw [hl,hv])) hv' h
theorem xApv {pl:Sem Bool} {Q:Value×List Value->Shared->Prop} (X:K.In s.heap) (I:ObjM s.heap x dx C mA) (hg:PySem.W.plainGet K C name=true)
  (hf:PySem.W.findIn K (.ref C) name=some (some (.ref f))) (ht:PySem.W.isFn K (.ref f)=true) (hv:mA name=none) (h:Q (.ref f,[.ref x]) s) :
  wpAny (model prog w) A (getMethod (.ref x) name pl) Q E s:=by
 obtain ⟨od,J,hl⟩:=I.look;exact PySem.W.method_fn X J (PySem.W.plainGet_of hg).1 (PySem.W.plainGet_of hg).2 hf (beq_iff_eq.mp ht) (by show (PySem.W.lookIn name od).map (·.isSome)=some false;rw [hl,hv];rfl) h
theorem xAsf {ns:List Str} {Q:Unit->Shared->Prop} (X:K.In s.heap) (I:ObjM s.heap x dx C mA)
  (hs:PySem.W.findIn K (.ref C) "__setattr__"=some (some (.builtin "object.__setattr__"))) (hp:PySem.W.plainOver K C=true) (ht:PySem.W.takerIn K C name=some none) (hh:PySem.W.hasDictIn K C=true)
  (hw:PySem.Within mA ns) (hsz:ns.length≤sizeLine)
  (h:∀ h',ObjM h' x dx C (fun y=>if y=name then some v else mA y)->Heap.SameBut dx s.heap h'->Q () { s with heap:=h',toks:=s.toks+2 }) :
  wpAny (model prog w) A (setAttr (.ref x) name v) Q E s:=by
 obtain ⟨od,J,hl⟩:=I.look;refine PySem.W.set_plain X J hs (PySem.W.osa_open (s:={ s with toks:=s.toks+1 }) (r:=none) X J hp ht fun b=>?_);obtain ⟨cd,hc,hd'⟩:=PySem.W.any_some hh;have hx:s.heap.get? x=some ⟨.ref C,some dx,.plain,#[]⟩:=I.obj;refine wpAny_bind (wpAny_pure (wpAny_bind (wpAny_bind (wpAny_loadPart hx (wpAny_bind (PySem.W.Looks.here (s:={ s with toks:=s.toks+1 }) (PySem.W.looks_clsIn X hc) ?_))))));rw [hd'];refine wpAny_pure (a:=some dx) (wpAny_bind (wpAny_pure (wpAny_bind ?_)));refine wpAny_nsSet1 (s:={ s with toks:=s.toks+1 }) I.ns fun h' hn2 hs2=>?_;obtain ⟨oD,esD,epD,hoD,hdD,hcD⟩:=hn2.count (PySem.Within.cons name v hw);refine wpAny_bind (wpAny_lookBehind hoD (by rw [hdD];exact pastItsLine_dict (qm hcD (by rw [qy];omega))) ?_);exact wpAny_pure (h _ ⟨(hs2.2 _ (Ne.symm I.ne)).trans I.obj,hn2,I.ne⟩ hs2)
theorem xApw {R:Result->Shared->Prop} {vs:List Value} {kw:List (Str×Value)} (X:K.In s.heap) (hm:PySem.W.makesIn K C=true)
  (hi:PySem.W.findIn K (.ref C) "__init__"=some (some (.ref f))) (hf:PySem.W.typeIn K (.ref f)=some (.type "function"))
  (h:codeAny (model prog w) (A.under (.builtin "type.__call__" ⟨.ref C::vs,kw⟩)) (.call (.ref f) ⟨.ref (s.heap.objs.size+1)::vs,kw⟩) (PySem.W.InitBack (s.heap.objs.size+1) R)
   { s with heap:=(s.heap.push PySem.W.emptyDict).push (PySem.W.instObj C s.heap.objs.size) }) :
  codeAny (model prog w) A (.call (.ref C) ⟨vs,kw⟩) R s:=by
 obtain ⟨hh,g,d,t,os⟩:=s;exact PySem.W.make_core (PySem.W.makes_of X hm) (PySem.W.looks_findIn X hi) (fun self=>PySem.W.bind_fn X self hf) (.inl rfl) h
end
def putF (f:Str) (v:V):List (Str×V)->List (Str×V)
 | []=>[(f,v)]
 | (g,x)::r=>if g=f then (g,v)::r else (g,x)::putF f v r
theorem xAai (f g:Str) (v:V):∀ fs:List (Str×V),(putF f v fs).lookup g=if g=f then some v else fs.lookup g
 | []=>by
  show List.lookup g [(f,v)]=_
  by_cases h:g=f
  ·have hb:(g==f)=true:=beq_iff_eq.mpr h
   simp only [List.lookup,hb,if_pos h]
  ·have hb:(g==f)=false:=beq_eq_false_iff_ne.mpr h
   simp only [List.lookup,hb,if_neg h]
 | (k,x)::r=>by
  have ih:=xAai f g v r;rw [show putF f v ((k,x)::r)=(if k=f then (k,v)::r else (k,x)::putF f v r) from rfl]
  by_cases hk:k=f
  ·rw [if_pos hk]
   by_cases h:g=k
   ·have hb:(g==k)=true:=beq_iff_eq.mpr h
    simp only [List.lookup,hb,if_pos (h.trans hk)]
   ·have hb:(g==k)=false:=beq_eq_false_iff_ne.mpr h
    simp only [List.lookup,hb,if_neg (fun e:g=f=>h (e.trans hk.symm))]
  ·rw [if_neg hk]
   by_cases h:g=k
   ·have hb:(g==k)=true:=beq_iff_eq.mpr h
    simp only [List.lookup,hb,if_neg (fun e:g=f=>hk (h.symm.trans e))]
   ·have hb:(g==k)=false:=beq_eq_false_iff_ne.mpr h
    simp only [List.lookup,hb]
    exact ih
theorem xAef (f:Str) (v:V):∀ fs:List (Str×V),f∈(putF f v fs).map (·.1)/\∀ g,g∈fs.map (·.1)->g∈(putF f v fs).map (·.1)
 | []=>⟨by simp [putF],fun g h=>by simp at h⟩
 | (k,x)::r=>by
  obtain ⟨i1,i2⟩:=xAef f v r;rw [show putF f v ((k,x)::r)=(if k=f then (k,v)::r else (k,x)::putF f v r) from rfl]
  by_cases hk:k=f
  ·rw [if_pos hk]
   subst hk;exact ⟨by simp,fun g h=>by simpa using h⟩
  ·rw [if_neg hk]
   refine ⟨?_,fun g h=>?_⟩
   ·rw [zh]
    exact qw _ i1
   ·rw [zh] at h ⊢
    rcases zg.mp h with e | e
    ·exact zg.mpr (.inl e)
    ·exact qw _ (i2 g e)
theorem xAdv (f:Str) (v:V):∀ fs:List (Str×V),(putF f v fs).length≤fs.length+1
 | []=>by simp [putF]
 | (k,x)::r=>by
  have ih:=xAdv f v r;rw [show putF f v ((k,x)::r)=(if k=f then (k,v)::r else (k,x)::putF f v r) from rfl]
  by_cases hk:k=f
  ·rw [if_pos hk,qy,qy];omega
  ·rw [if_neg hk,qy,qy];omega
theorem RelO.some_of {v:V} {o:Option Value} (r:RelO (some v) o):∃ u,o=some u/\RelV v u:=by
 cases o with
 | none=>exact (show False from r).elim
 | some u=>exact ⟨u,rfl,r⟩
theorem RelO.none_of {o:Option Value} (r:RelO none o):o=none:=by
 cases o with
 | none=>rfl
 | some u=>exact (show False from r).elim
theorem xAmf {v:V} {u:Value} (r:RelV v u):PySem.W.handedIn u=true:=by
 cases v with
 | non=>cases (show u=Value.none from r);rfl
 | bl b=>cases (show u=Value.bool b from r);rfl
 | int i=>obtain ⟨t,e⟩:=(show ∃ t,u=Value.int i t from r);cases e;rfl
 | str x=>obtain ⟨t,e⟩:=(show ∃ t,u=Value.str x t from r);cases e;rfl
 | byt b=>obtain ⟨t,e⟩:=(show ∃ t,u=Value.bytes b t from r);cases e;rfl
 | flt b=>obtain ⟨t,e⟩:=(show ∃ t,u=Value.float b t from r);cases e;rfl
 | ref a=>cases (show u=Value.ref a from r);rfl
 | ty n=>cases (show u=Value.type n from r);rfl
section
variable {P:Program} {w:World} {H H':Hp} {h h':Heap} {a C dx:Addr} {fs fs':List (Str×V)}
theorem xAex (hok:HOk P w H h) (e:H a=some (.ins C dx fs)):∃ mA,ObjM h a dx C mA/\(∀ f,RelO (fs.lookup f) (mA f))/\PySem.Within mA (fs.map (·.1))/\fs.length≤1000/\H dx=some (.own a):=by
 obtain ⟨d,z,ne,ob,mA,n,r,q⟩:=(show ObjOk P w H h a (.ins C dx fs) from hok a _ e);exact ⟨mA,⟨ob,n,ne⟩,r,q,z,d⟩
end
structure Cls (K:PySem.W.Frag) (C:Addr):Prop where
 pg:PySem.W.plainGet K C Str.empty=true
 hd:PySem.W.hasDictIn K C=true
 po:PySem.W.plainOver K C=true
 sa:PySem.W.findIn K (.ref C) "__setattr__"=some (some (.builtin "object.__setattr__"))
theorem Cls.get {K:PySem.W.Frag} {C:Addr} (c:Cls K C) (f:Str):PySem.W.plainGet K C f=true:=c.pg
def NoAttr (K:PySem.W.Frag) (C:Addr) (f:Str):Prop:=PySem.W.findIn K (.ref C) f=some none
theorem NoAttr.taker {K:PySem.W.Frag} {C:Addr} {f:Str} (n:NoAttr K C f):PySem.W.takerIn K C f=some none:=by
 unfold PySem.W.takerIn;rw [show PySem.W.findIn K (.ref C) f=some none from n];rfl
structure Meth (K:PySem.W.Frag) (C:Addr) (m:Str) (f:Addr):Prop where
 at_:PySem.W.findIn K (.ref C) m=some (some (.ref f))
 fn:PySem.W.isFn K (.ref f)=true
 kp:PySem.W.keepIn K (.ref f)=true
section
variable {X:Cx} {pins:List (Addr×Obj)} {σ:St} {H:Hp} {s:Shared} {a C dx:Addr} {fs:List (Str×V)} {f:Str} {v:V} {A:Around} {E:Value->Shared->Prop}
theorem xAja {b:Bool} {Q:Value->Shared->Prop} (I:Inv X pins σ H s) (e:H a=some (.ins C dx fs)) (c:Cls X.K C) (n:NoAttr X.K C f) (l:fs.lookup f=some v)
  (h:∀ u s',Inv X pins σ H s'->RelV v u->Q u s'):wpAny (model X.prog X.w) A (getAttr (.ref a) f b) Q E s:=by
 obtain ⟨mA,O,r,_,_,_⟩:=xAex I.hok e;obtain ⟨u,hu,ru⟩:=RelO.some_of (v:=v) (o:=mA f) (by rw [← l];exact r f);exact xAse I.kIn O (c.get f) c.hd n hu (xAmf ru) (h u _ (I.tok _) ru)
theorem xAjb {m:Str} {g:Addr} {pl:Sem Bool} {Q:Value×List Value->Shared->Prop} (I:Inv X pins σ H s) (e:H a=some (.ins C dx fs)) (c:Cls X.K C) (k:Meth X.K C m g) (l:fs.lookup m=none)
  (h:Q (.ref g,[.ref a]) s):wpAny (model X.prog X.w) A (getMethod (.ref a) m pl) Q E s:=by
 obtain ⟨mA,O,r,_,_,_⟩:=xAex I.hok e;have hn:mA m=none:=RelO.none_of (by rw [← l];exact r m);exact xApv I.kIn O (c.get m) k.at_ k.fn hn h
theorem xAjc {y:V} {u:Value} {Q:Unit->Shared->Prop} (I:Inv X pins σ H s) (e:H a=some (.ins C dx fs)) (c:Cls X.K C) (n:NoAttr X.K C f) (hl:fs.length<1000) (ry:RelV y u)
  (h:∀ s',Inv X pins σ (upd H a (.ins C dx (putF f y fs))) s'->Q () s'):wpAny (model X.prog X.w) A (setAttr (.ref a) f u) Q E s:=by
 obtain ⟨mA,O,r,wi,_,ho⟩:=xAex I.hok e
 have hz:(fs.map (·.1)).length≤sizeLine:=by rw [qg,sizeLine_eq];omega
 refine xAsf I.kIn O c.sa c.po n.taker c.hd wi hz fun h' O' sb=>h _ ?_
 have hd:∃ o,h'.get? dx=some o:=let ⟨o,_,_,e',_⟩:=O'.ns;⟨o,e'⟩
 refine I.write (x:=a) (e:=dx) (by rw [e];exact True.intro) (.inr ho) (fun b q hb z=>(sb.2 b hb).trans z) hd ?_;refine ⟨by rw [xAah O.ne];exact ho,?_,O.ne,O'.obj,_,O'.ns,fun g=>?_,fun g hg=>?_⟩
 ·have:=xAdv f y fs;omega
 ·show RelO ((putF f y fs).lookup g) (if g=f then some u else mA g)
  rw [xAai]
  by_cases q:g=f
  ·rw [if_pos q,if_pos q];exact ry
  ·rw [if_neg q,if_neg q];exact r g
 ·by_cases q:g=f
  ·rw [q];exact (xAef f y fs).1
  ·refine (xAef f y fs).2 g (wi g fun z=>hg ?_)
   show (if g=f then some u else mA g)=none;rw [if_neg q];exact z
theorem Inv.made (I:Inv X pins σ H s):Inv X pins σ (upd (upd H s.heap.objs.size (.own (s.heap.objs.size+1))) (s.heap.objs.size+1) (.ins C s.heap.objs.size []))
  { s with heap:=(s.heap.push PySem.W.emptyDict).push (PySem.W.instObj C s.heap.objs.size) }:=by
 have e1:(s.heap.push PySem.W.emptyDict).get? s.heap.objs.size=some PySem.W.emptyDict:=Heap.get?_push_size s.heap rfl
 have e2:((s.heap.push PySem.W.emptyDict).push (PySem.W.instObj C s.heap.objs.size)).get? (s.heap.objs.size+1)=some (PySem.W.instObj C s.heap.objs.size):=by
  have:=Heap.get?_push_size (s.heap.push PySem.W.emptyDict) (o:=PySem.W.instObj C s.heap.objs.size) rfl
  rwa [Heap.size_push] at this
 have e3:(s.heap.push PySem.W.emptyDict).Ns s.heap.objs.size (fun _=>none):=⟨PySem.W.emptyDict,#[],_,e1,rfl,(fun e he=>absurd he (by simp)),fun _=>rfl⟩;have I1:=I.laid (a:=s.heap.objs.size) (o:=.own (s.heap.objs.size+1)) (h':=s.heap.push PySem.W.emptyDict) (t':=s.toks) (fun b u q=>Heap.get?_push_of_some _ q) (qh _) ⟨_,e1⟩;refine I1.laid (a:=s.heap.objs.size+1) (o:=.ins C s.heap.objs.size []) (t':=s.toks) (fun b u q=>Heap.get?_push_of_some _ q) (Nat.le_of_eq (Heap.size_push _ _)) ?_;have ne:s.heap.objs.size≠s.heap.objs.size+1:=qj (zy _);refine ⟨by rw [xAah ne,xAae],qu _,ne,e2,fun _=>none,(Heap.Ns1.of_empty e3).at fun o q=>Heap.get?_push_of_some _ q,fun _=>True.intro,fun y hy=>absurd rfl hy⟩
theorem xAon {prog:Program} {w:World} {env:Env} {e:Expr} {f:Str} {pos:Pos} {s:Shared} {Q:Value->Shared->Prop} (hb:attributeBase e f env (eval e env)=eval e env)
  (h:wpAny (model prog w) A (eval e env) (fun o s₁=>wpAny (model prog w) A (getAttr o f true) Q E s₁) E s):wpAny (model prog w) A (eval (.Attribute e f pos) env) Q E s :=
 Attribute_any_ h (by rw [arm_eval_Attribute,hb])
end
def tFld (K:PySem.W.Frag) (ta:TE) (f:Str):TE:=fun σ H Q=>ta σ H fun x H1=>∃ a C dx fs v,x=.ref a/\H1 a=some (.ins C dx fs)/\Cls K C/\NoAttr K C f/\fs.lookup f=some v/\Q v H1
def sFld (K:PySem.W.Frag) (ta tv:TE) (f:Str):TS:=fun D σ H=>tv σ H fun y H1=>ta σ H1 fun x H2=>∃ a C dx fs,x=.ref a/\H2 a=some (.ins C dx fs)/\Cls K C/\NoAttr K C f/\fs.length<1000 ∧
 D.nx σ (upd H2 a (.ins C dx (putF f y fs)))
section
variable {X:Cx} {o e value:Expr} {f:Str} {pos pos' tpos:Pos} {ta tv:TE}
theorem xAdi (he:PE X e ta) (hb:attributeBase e f X.env (eval e X.env)=eval e X.env):PE X (.Attribute e f pos) (tFld X.K ta f):=by
 intro pins s σ H Q I h;refine xAon hb (thn (he pins s σ H _ I h) fun u s1 ⟨x,H1,I1,rx,a,C,dx,fs,v,ex,ea,c,n,l,q⟩=>?_);subst ex;obtain rfl:u=Value.ref a:=rx;exact xAja I1 ea c n l fun u' s2 I2 ru=>⟨v,H1,I2,ru,q⟩
theorem xAif (ha:PE X o ta) (hv:PE X value tv) (hs:swapsWith value (some (.Attribute o f pos')) pos.line X.env=pure false):PS X (.Assign [.Attribute o f pos'] value pos) (sFld X.K ta tv f):=by
 intro pins s σ H D I h;refine plainObj_wpAny_Assign_Attribute (thn (hv pins s σ H _ I h) fun u s1 ⟨y,H1,I1,ry,q⟩=>thn (ha pins s1 σ H1 _ I1 q) fun ov s2 ⟨x,H2,I2,rx,a,C,dx,fs,ex,ea,c,n,l,q2⟩=>?_) hs;subst ex;obtain rfl:ov=Value.ref a:=rx;exact xAjc I2 ea c n l ry fun s3 I3=>⟨σ,_,I3,q2⟩
end
section
variable {X:Cx} {pins:List (Addr×Obj)} {σ:St} {H:Hp} {s:Shared} {A:Around} {E:Value->Shared->Prop} {Q:Value->Shared->Prop} {c:Value} {b:Bool}
inductive TyOf (K:PySem.W.Frag) (H:Hp):V->Value->Prop where
 | non:TyOf K H .non (.type "NoneType")
 | bl (x:Bool):TyOf K H (.bl x) (.type "bool")
 | int (i:Int):TyOf K H (.int i) (.type "int")
 | str (x:Str):TyOf K H (.str x) (.type "str")
 | flt (x:UInt64):TyOf K H (.flt x) (.type "float")
 | lst {a:Addr} {xs:List V} (e:H a=some (.lst xs)):TyOf K H (.ref a) (.type "list")
 | frz {a:Addr} {o:Obj} {xs:List V} (e:H a=some (.frz o (.lst xs))):TyOf K H (.ref a) (.type "list")
 | tup {a:Addr} {xs:List V} (e:H a=some (.tup xs)):TyOf K H (.ref a) (.type "tuple")
 | dK {a:Addr} {kvs:List (Key×V)} (e:H a=some (.dK kvs)):TyOf K H (.ref a) (.type "dict")
 | dT {a:Addr} {kvs:List (List Key×V)} (e:H a=some (.dT kvs)):TyOf K H (.ref a) (.type "dict")
 | dG {a:Addr} {kvs:List (KD×V×V)} (e:H a=some (.dG kvs)):TyOf K H (.ref a) (.type "dict")
 | ins {a C dx:Addr} {fs:List (Str×V)} (e:H a=some (.ins C dx fs)) (cl:Cls K C) (ha:PySem.W.findIn K (.ref C) "__class__"=some (some (.builtin "object.__class__")))
   (hn:PySem.W.specialIn K (.builtin "object.__class__") "__get__"=some (some (.builtin "getset_descriptor.__get__"))) (htk:PySem.W.takesIn K (.builtin "object.__class__")=some true)
   (hm:PySem.W.mroIn K C (.type "object")=some true):TyOf K H (.ref a) (.ref C)
theorem xAmg {x:V} {u t:Value} (I:Inv X pins σ H s) (rx:RelV x u) (ty:TyOf X.K H x t) (e:PySem.W.kitOne X.K t c=some b) (h:∀ tk,Q (.bool b) { s with toks:=tk }) :
  wpAny (model X.prog X.w) A (call (.builtin "isinstance") [u,c]) Q E s:=by
 cases ty with
 | non=>cases (show u=Value.none from rx);exact PySem.W.kia_one PySem.W.kitx_none I.kIn True.intro e (fun z=>nomatch z) h
 | bl y=>cases (show u=Value.bool y from rx);exact PySem.W.kia_one PySem.W.kitx_bool I.kIn True.intro e (fun z=>nomatch z) h
 | int i=>obtain ⟨t,q⟩:=(show ∃ t,u=Value.int i t from rx);cases q;exact PySem.W.kia_one PySem.W.kitx_int I.kIn True.intro e (fun z=>nomatch z) h
 | str y=>obtain ⟨t,q⟩:=(show ∃ t,u=Value.str y t from rx);cases q;exact PySem.W.kia_one PySem.W.kitx_str I.kIn True.intro e (fun z=>nomatch z) h
 | flt y=>obtain ⟨t,q⟩:=(show ∃ t,u=Value.float y t from rx);cases q;exact PySem.W.kia_one PySem.W.kitx_float I.kIn True.intro e (fun z=>nomatch z) h
 | @lst a xs ea =>
  cases (show u=Value.ref a from rx);obtain ⟨_,_,n,_,h1⟩:=(show ObjOk X.prog X.w H s.heap a (.lst xs) from I.hok a _ ea);exact PySem.W.kia_one PySem.W.kitx_list I.kIn ⟨_,h1,rfl⟩ e (fun z=>nomatch z) h
 | @frz a ob xs ea =>
  cases (show u=Value.ref a from rx);obtain ⟨_,_,_,n,_,h1⟩:=(show ObjOk X.prog X.w H s.heap a (.frz ob (.lst xs)) from I.hok a _ ea);exact PySem.W.kia_one PySem.W.kitx_list I.kIn ⟨_,h1,rfl⟩ e (fun z=>nomatch z) h
 | @tup a xs ea =>
  cases (show u=Value.ref a from rx);obtain ⟨_,_,_,p⟩:=(show ObjOk X.prog X.w H s.heap a (.tup xs) from I.hok a _ ea);obtain ⟨o,h1,h2,_⟩:=p;exact PySem.W.kia_one PySem.W.kitx_tuple I.kIn ⟨o,h1,h2⟩ e (fun z=>nomatch z) h
 | @dK a kvs ea =>
  cases (show u=Value.ref a from rx);obtain ⟨_,_,vs,_,p⟩:=(show ObjOk X.prog X.w H s.heap a (.dK kvs) from I.hok a _ ea);obtain ⟨o,es,ep,h1,h2,_⟩:=p;exact PySem.W.kia_one PySem.W.kitx_dict I.kIn ⟨o,h1,h2.1⟩ e (fun z=>nomatch z) h
 | @dT a kvs ea =>
  cases (show u=Value.ref a from rx);obtain ⟨_,_,xs,_,o,es,ep,h1,h2,_⟩:=(show ObjOk X.prog X.w H s.heap a (.dT kvs) from I.hok a _ ea);exact PySem.W.kia_one PySem.W.kitx_dict I.kIn ⟨o,h1,h2.1⟩ e (fun z=>nomatch z) h
 | @dG a kvs ea =>
  cases (show u=Value.ref a from rx);obtain ⟨_,_,xs,_,o,es,ep,h1,h2,_⟩:=(show ObjOk X.prog X.w H s.heap a (.dG kvs) from I.hok a _ ea);exact PySem.W.kia_one PySem.W.kitx_dict I.kIn ⟨o,h1,h2.1⟩ e (fun z=>nomatch z) h
 | @ins a C dx fs ea cl ha hn htk hm =>
  cases (show u=Value.ref a from rx);obtain ⟨mA,O,_⟩:=xAex I.hok ea;obtain ⟨od,J,_⟩:=O.look;exact PySem.W.kia_one (PySem.W.kitx_own (cl.get _) cl.hd ha hn htk hm) I.kIn J e (fun z=>nomatch z) h
end
structure Room (k:Nat) (A:Around):Prop where
 hd:A.handled=none
 dp:A.depth+3 * k+5<recursionLimit
 un:A.units+16 * k+200<cLine
theorem Room.mono {j k:Nat} {A:Around} (r:Room k A) (h:j≤k):Room j A:=⟨r.hd,by have:=r.dp;omega,by have:=r.un;omega⟩
theorem Room.deeper {k:Nat} {A:Around} (r:Room (k+1) A) (env:Env):Room k (A.deeper env) :=
 ⟨r.hd,by have:=r.dp;show A.depth+1+3 * k+5<_;omega,by have:=r.un;show A.units+3+16 * k+200<_;omega⟩
theorem xAjd {A:Around} {C:Addr} {us:List Value} {kw:List (Str×Value)}:(A.under (.builtin "type.__call__" ⟨.ref C::us,kw⟩)).depth=A.depth+1:=by
 first | rfl | simp [Around.under,Code.weight,Code.isCreation,Code.isGuard,Code.isCaller,Code.frames,Code.isFrame,guardIds]
theorem xAje {A:Around} {C:Addr} {us:List Value} {kw:List (Str×Value)}:(A.under (.builtin "type.__call__" ⟨.ref C::us,kw⟩)).units=A.units+1:=by
 first | rfl | simp [Around.under,Code.cUnits,Code.frames,Code.isFrame]
theorem Room.make {k:Nat} {A:Around} (r:Room (k+1) A) (C:Addr) (us:List Value) (kw:List (Str×Value)):Room k (A.under (.builtin "type.__call__" ⟨.ref C::us,kw⟩)) :=
 ⟨r.hd,by have:=r.dp;rw [xAjd];omega,by have:=r.un;rw [xAje];omega⟩
theorem Room.depth {k:Nat} {A:Around} (r:Room k A):A.depth<recursionLimit:=by have:=r.dp;omega
theorem Room.units {k:Nat} {A:Around} (r:Room k A):A.units+64<cLine:=by have:=r.un;omega
theorem Room.units0 {k:Nat} {A:Around} (r:Room k A):A.units<cLine:=by have:=r.un;omega
def tNil:TA:=fun _ H Q=>Q [] H
def tCons (ta:TE) (tr:TA):TA:=fun σ H Q=>ta σ H fun x H1=>tr σ H1 fun xs H2=>Q (x::xs) H2
section
variable {X:Cx} {e:Expr} {es:List Expr} {te:TE} {t:TA} {pos:Pos}
theorem xAad:PA X [] tNil:=fun _ _ _ _ H Q I h=>Calls.spliced_nil ⟨[],H,I,.nil,h⟩
theorem xAaa (ha:PE X e te) (hr:PA X es t) (hs:starEach (e::es) X.env=(false,eval e X.env)::starEach es X.env:=by rfl):PA X (e::es) (tCons te t):=by
 intro pos pins s σ H Q I h;rw [hs];show wpAny _ _ (spliced ((false,eval e X.env)::backTo pos (starEach es X.env))) _ _ s;refine Calls.spliced_cons (thn (ha pins s σ H _ I h) fun u s1 ⟨x,H1,I1,r1,q1⟩=>?_);exact thn (hr pos pins s1 σ H1 _ I1 q1) fun us s2 ⟨xs,H2,I2,r2,q2⟩=>⟨x::xs,H2,I2,.cons r1 r2,q2⟩
end
abbrev Sp:=List V->Hp->VK->XK->Prop
abbrev CXT:=List Env->Hp->Shared->XK->Value->Shared->Prop
structure Env0 (P:Program) (w:World) (K:PySem.W.Frag) (mg:Str->Option Value) (base:Heap) (A:Around) (outer:List Env) (s:Shared) (H:Hp):Prop where
 frames:A.frames=some outer
 mod:Mod K mg base
 bs:∀ b o,base.get? b=some o->s.heap.get? b=some o/\H b=none
 bsz:base.objs.size≤s.heap.objs.size
 funs:s.heap.FunFrames base outer
 frf:∀ b∈frs outer,H b=none
 hok:HOk P w H s.heap
 bare:AllBare s.gens
def CE (outer:List Env) (P:Program) (w:World) (H:Hp) (s:Shared) (Q:VK) (u:Value) (s':Shared):Prop :=
 ∃ v H',s'.os=s.os/\AllBare s'.gens/\Un (frs outer) [] H H' s.heap s'.heap/\HOk P w H' s'.heap/\RelV v u/\Q v H'
def CR (CX:CXT) (outer:List Env) (P:Program) (w:World) (H:Hp) (s:Shared) (Q:VK) (E:XK) (r:Result) (s':Shared):Prop :=
 match r with
 | .ok (.ret u)=>CE outer P w H s Q u s'
 | .ok _=>False
 | .error e=>CX outer H s E e s'
structure FnOk (P:Program) (w:World) (K:PySem.W.Frag) (mg:Str->Option Value) (base:Heap) (CX:CXT) (k:Nat) (f:Addr) (fd:FuncData) (ps:List Str) (sp:Sp):Prop where
 len:∀ vs H Q E,sp vs H Q E->vs.length=ps.length
 run:∀ (A:Around) (outer:List Env) (s:Shared) (H:Hp) (args:Args) (us:List Value) (vs:List V) (Q:VK) (E:XK),Room k A->Env0 P w K mg base A outer s H->BindsTo s fd args (ps.zip us)->Vals vs us->sp vs H Q E →
  codeAny (model P w) A (.call (.ref f) args) (CR CX outer P w H s Q E) s
theorem Env0.make {P:Program} {w:World} {K:PySem.W.Frag} {mg:Str->Option Value} {base:Heap} {A:Around} {outer:List Env} {s:Shared} {H:Hp} (e:Env0 P w K mg base A outer s H) (C:Addr) (us:List Value) (kw:List (Str×Value)) :
  Env0 P w K mg base (A.under (.builtin "type.__call__" ⟨.ref C::us,kw⟩)) outer s H:=⟨by first | exact e.frames | (simpa [Around.under,Code.envs,Code.isFrame,pushEnvs] using e.frames),e.mod,e.bs,e.bsz,e.funs,e.frf,e.hok,e.bare⟩
section
variable {X:Cx} {pins:List (Addr×Obj)} {σ:St} {H:Hp} {s s':Shared}
theorem Inv.env0 (I:Inv X pins σ H s):Env0 X.prog X.w X.K X.mg X.base X.A X.stack s H :=
 ⟨I.ok.frames,I.ok.mod,I.bs,qm I.ok.bsz I.sz,I.stack,I.stkFree,I.hok,I.bare⟩
theorem Inv.after {Q:VK} {u:Value} (I:Inv X pins σ H s) (h:CE X.stack X.prog X.w H s Q u s'):EP X pins σ Q u s':=by
 obtain ⟨v,H',os,bare,un,hok,r,q⟩:=h;obtain ⟨hh,g,d,t,os'⟩:=s';obtain rfl:os'=s.os:=os;exact ⟨v,H',I.call (h':=hh) (g':=g) (d':=d) (t':=t) (ch:=[]) un hok bare (fun b z=>absurd z (by simp)),r,q⟩
end
def tCall (sp:Sp) (dvs:List V) (E:XK) (t:TA):TE:=fun σ H Q=>t σ H fun vs H1=>sp (vs++dvs) H1 Q E
def tMeth (C:Addr) (m:Str) (sp:Sp) (dvs:List V) (E:XK) (ta:TE) (t:TA):TE:=fun σ H Q=>ta σ H fun x H1=>∃ a dx fs,x=.ref a/\H1 a=some (.ins C dx fs)/\fs.lookup m=none ∧
 t σ H1 fun vs H2=>sp (x::(vs++dvs)) H2 Q E
def tMake (C:Addr) (sp:Sp) (dvs:List V) (E:XK) (t:TA):TE:=fun σ H Q=>t σ H fun vs H1=>∀ x dx,H1 x=none->H1 dx=none->dx≠x →
 sp (.ref x::(vs++dvs)) (upd (upd H1 dx (.own x)) x (.ins C dx [])) (fun v H2=>v=.non/\Q (.ref x) H2) E
def Binds (K:PySem.W.Frag) (fd:FuncData) (ps:List Str) (ds:List Value):Prop :=
 ∀ (s:Shared) (us:List Value),K.In s.heap->(us++ds).length=ps.length->BindsTo s fd ⟨us,[]⟩ (ps.zip (us++ds))
theorem Binds.all {K:PySem.W.Frag} {fd:FuncData} {ps:List Str} (h:∀ us:List Value,us.length=ps.length->bindArgs fd ⟨us,[]⟩=pure (ps.zip us)):Binds K fd ps []:=fun s us _ hl=>by
 rw [vm] at hl ⊢;exact .of_eq (h us hl)
def Passes (CX:CXT) (X:Cx) (E:XK):Prop:=∀ (pins:List (Addr×Obj)) (σ:St) (H:Hp) (s:Shared) (e:Value) (s':Shared),Inv X pins σ H s->CX X.stack H s E e s'->X.xe e s'
section
variable {X:Cx} {CX:CXT} {k:Nat} {f C:Addr} {fd:FuncData} {ps:List Str} {sp:Sp} {dvs:List V} {ds:List Value} {E:XK} {x m:Str} {p pos apos:Pos} {e o:Expr} {es:List Expr} {ta:TE} {t:TA}
theorem xAsg {pins:List (Addr×Obj)} {σ:St} {H:Hp} {s:Shared} {Q:VK} {us:List Value} {vs:List V} (F:FnOk X.prog X.w X.K X.mg X.base CX k f fd ps sp) (hr:Room k X.A) (hb:Binds X.K fd ps ds) (hd:Vals dvs ds) (hx:Passes CX X E)
  (I:Inv X pins σ H s) (r:Vals vs us) (h:sp (vs++dvs) H Q E):wpAny (model X.prog X.w) X.A (call (.ref f) us) (EP X pins σ Q) X.xe s:=by
 have r2:Vals (vs++dvs) (us++ds):=r.append hd
 have hl:(us++ds).length=ps.length:=by rw [← r2.length];exact F.len _ _ _ _ h
 refine wpAny_call (codeAny_mono (F.run X.A X.stack s H ⟨us,[]⟩ (us++ds) (vs++dvs) Q E hr I.env0 (hb s us I.kIn hl) r2 h) fun r s' hq=>?_)
 cases r with
 | error e=>exact hx pins σ H s e s' I hq
 | ok fl =>
  cases fl with
  | ret u=>exact I.after hq
  | next=>exact False.elim hq
  | brk=>exact False.elim hq
  | cont=>exact False.elim hq
theorem xAam (F:FnOk X.prog X.w X.K X.mg X.base CX k f fd ps sp) (hr:Room k X.A) (hg:Gl X x) (hm:X.mg x=some (.ref f)) (hk:PySem.W.keepIn X.K (.ref f)=true) (hb:Binds X.K fd ps ds) (hd:Vals dvs ds) (hx:Passes CX X E)
  (ha:PA X (e::es) t) (hdb:(x==("__debug__":Str))=false:=by decide) (he:starEach (e::es) X.env=(false,eval e X.env)::starEach es X.env:=by rfl) (hpl:(backTo pos (starEach es X.env)).any (·.1)=false:=by rfl) :
  PE X (.Call (.Name x p) (e::es) [] pos) (tCall sp dvs E t):=by
 intro pins s σ H Q I h;refine wpAny_Call_Name_kw (xAix I hg hm ?_ hdb);refine PySem.W.callWith_K (h₀:=X.base) I.ok.mod.kin hk (thn (ha pos pins s σ H _ I h) fun us s1 ⟨vs,H1,I1,r,q⟩=>⟨I1.kIn,?_⟩) he hpl;exact xAsg F hr hb hd hx I1 r q
theorem xAgo {pl:Sem Bool} (he:PE X o ta) (c:Cls X.K C) (hm:Meth X.K C m f) (F:FnOk X.prog X.w X.K X.mg X.base CX k f fd ps sp) (hr:Room k X.A) (hb:Binds X.K fd ps ds) (hd:Vals dvs ds) (hx:Passes CX X E) (ha:PA X (e::es) t)
  (hst:starEach (e::es) X.env=(false,eval e X.env)::starEach es X.env:=by rfl) (hpl:(backTo pos (starEach es X.env)).any (·.1)=false:=by rfl)
  (ht:eval (.Call (.Attribute o m apos) (e::es) [] pos) X.env=(do
   let ov ← eval o X.env
   standAt apos.atName
   let (f,first) ← holding [ov] (getMethod ov m pl)
   callWith pos f first (backTo pos (starEach (e::es) X.env)) (backToKw pos (keywordEach [] X.env))):=by rfl) :
  PE X (.Call (.Attribute o m apos) (e::es) [] pos) (tMeth C m sp dvs E ta t):=by
 intro pins s σ H Q I h;refine PySem.W.methodCall_KW (pl:=pl) (thn (he pins s σ H _ I h) fun u s1 ⟨x,H1,I1,rx,a,dx,fs,ex,ea,l,q⟩=>?_) ht;subst ex;obtain rfl:u=Value.ref a:=rx;refine xAjb I1 ea c hm l ?_;refine PySem.W.callWith_K (first:=[.ref a]) (h₀:=X.base) I.ok.mod.kin hm.kp (thn (ha pos pins s1 σ H1 _ I1 q) fun us s2 ⟨vs,H2,I2,r,q2⟩=>⟨I2.kIn,?_⟩) hst hpl;exact xAsg (us:=.ref a::us) (vs:=.ref a::vs) F hr hb hd hx I2 (.cons rfl r) q2
structure Mk (K:PySem.W.Frag) (C f:Addr):Prop where
 makes:PySem.W.makesIn K C=true
 init:PySem.W.findIn K (.ref C) "__init__"=some (some (.ref f))
 fn:PySem.W.isFn K (.ref f)=true
 kp:PySem.W.keepIn K (.ref C)=true
theorem xApx {pins:List (Addr×Obj)} {σ:St} {H:Hp} {s:Shared} {Q:VK} {us:List Value} {vs:List V} (M:Mk X.K C f) (F:FnOk X.prog X.w X.K X.mg X.base CX k f fd ps sp) (hr:Room (k+1) X.A) (hb:Binds X.K fd ps ds) (hd:Vals dvs ds)
  (hx:Passes CX X E) (I:Inv X pins σ H s) (r:Vals vs us)
  (h:∀ x dx,H x=none->H dx=none->dx≠x->sp (.ref x::(vs++dvs)) (upd (upd H dx (.own x)) x (.ins C dx [])) (fun v H2=>v=.non/\Q (.ref x) H2) E) :
  wpAny (model X.prog X.w) X.A (call (.ref C) us) (EP X pins σ Q) X.xe s:=by
 have hq:=h (s.heap.objs.size+1) s.heap.objs.size (I.hok.fresh (wu _)) (I.hok.fresh (qh _)) (qj (zy _));have I2:=Inv.made (C:=C) I;have r2:Vals (V.ref (s.heap.objs.size+1)::(vs++dvs)) (Value.ref (s.heap.objs.size+1)::(us++ds)):=.cons rfl (r.append hd)
 have hl:(Value.ref (s.heap.objs.size+1)::us++ds).length=ps.length:=by
  have e:=r2.length;rw [F.len _ _ _ _ hq] at e;exact e.symm
 refine wpAny_call (xApw (f:=f) I.kIn M.makes M.init (beq_iff_eq.mp M.fn) (codeAny_mono (F.run _ X.stack _ _ ⟨Value.ref (s.heap.objs.size+1)::us,[]⟩ (Value.ref (s.heap.objs.size+1)::(us++ds)) _ _ E (hr.make C us [])
  (I2.env0.make C us []) (hb _ (Value.ref (s.heap.objs.size+1)::us) I2.kIn hl) r2 hq) fun r s' hq'=>?_))
 cases r with
 | error e=>exact hx pins σ _ _ e s' I2 hq'
 | ok fl =>
  cases fl with
  | ret u =>
   obtain ⟨v,H',I3,rv,ev,q3⟩:=I2.after hq';subst ev;exact ⟨rv,⟨V.ref (s.heap.objs.size+1),H',I3,rfl,q3⟩⟩
  | next=>exact False.elim hq'
  | brk=>exact False.elim hq'
  | cont=>exact False.elim hq'
theorem xAsh (M:Mk X.K C f) (F:FnOk X.prog X.w X.K X.mg X.base CX k f fd ps sp) (hr:Room (k+1) X.A) (hg:Gl X x) (hm:X.mg x=some (.ref C)) (hb:Binds X.K fd ps ds) (hd:Vals dvs ds) (hx:Passes CX X E)
  (ha:PA X (e::es) t) (hdb:(x==("__debug__":Str))=false:=by decide) (he:starEach (e::es) X.env=(false,eval e X.env)::starEach es X.env:=by rfl) (hpl:(backTo pos (starEach es X.env)).any (·.1)=false:=by rfl) :
  PE X (.Call (.Name x p) (e::es) [] pos) (tMake C sp dvs E t):=by
 intro pins s σ H Q I h;refine wpAny_Call_Name_kw (xAix I hg hm ?_ hdb);refine PySem.W.callWith_K (h₀:=X.base) I.ok.mod.kin M.kp (thn (ha pos pins s σ H _ I h) fun us s1 ⟨vs,H1,I1,r,q⟩=>⟨I1.kIn,?_⟩) he hpl;exact xApx M F hr hb hd hx I1 r q
end
section
variable {X:Cx} {CX:CXT} {k:Nat} {f C:Addr} {fd:FuncData} {ps ks:List Str} {sp:Sp} {E:XK} {x m:Str} {p pos apos kpos:Pos} {e o:Expr} {es:List Expr} {kws:List Keyword} {te ta:TE} {t tk:TA} {nm:Option Str}
variable {g:List Value->List Value->List Value} {gV:List V->List V->List V}
end
structure FnScope (N P:List Str) (sc:Scope):Prop where
 kind:sc.kind=.function
 co:sc.isCoroutine=false
 gen:sc.isGenerator=false
 nd:N.Nodup
 pre:N.take P.length=P
 par:∀ x∈P,sc.names.lookup x=some .local\/sc.names.lookup x=some .cell
 nofree:∀ y∈sc.names,y.2≠.free
theorem xAgp {kindOf:Str->Option NameKind} {x:Str}:∀ {binds:List (Str×Value)} {m:Str->Option Value},(∀ v,(x,v)∉binds)->bindL kindOf binds m x=m x
 | [],_,_=>rfl
 | (n,v)::r,m,h=>by
  unfold bindL;rw [xAgp fun w hw=>h w (qw _ hw)]
  split
  ·have:x≠n:=by rintro rfl;exact h v qr
   simp [this]
  ·rfl
theorem xAgq {kindOf:Str->Option NameKind} {x:Str}:∀ {binds:List (Str×Value)} {m:Str->Option Value},(∀ v,(x,v)∉binds)->bindC kindOf binds m x=m x
 | [],_,_=>rfl
 | (n,v)::r,m,h=>by
  unfold bindC;rw [xAgq fun w hw=>h w (qw _ hw)]
  split
  ·rfl
  ·have:x≠n:=by rintro rfl;exact h v qr
   simp [this]
theorem xAgr {kindOf:Str->Option NameKind} {x:Str} {v:Value}:∀ {P:List Str} {vs:List Value} {i:Nat} {m:Str->Option Value},P.Nodup->P[i]?=some x->vs[i]?=some v->kindOf x=some .local →
  bindL kindOf (P.zip vs) m x=some v
 | [],_,_,_,_,h,_,_=>by simp at h
 | _::_,[],_,_,_,_,h,_=>by simp at h
 | p::P,w::vs,0,m,nd,h1,h2,hk=>by
  simp at h1 h2;subst h1;subst h2
  show bindL kindOf ((p,w)::P.zip vs) m p=_;unfold bindL;rw [xAgp fun v hv=>(zo.mp nd).1 (yt hv).1,if_pos hk]
  simp
 | p::P,w::vs,i+1,m,nd,h1,h2,hk=>by
  show bindL kindOf ((p,w)::P.zip vs) m x=_;unfold bindL;exact xAgr (i:=i) (List.nodup_cons.mp nd).2 (by simpa using h1) (by simpa using h2) hk
theorem xAgs {kindOf:Str->Option NameKind} {x:Str} {v:Value}:∀ {P:List Str} {vs:List Value} {i:Nat} {m:Str->Option Value},P.Nodup->P[i]?=some x->vs[i]?=some v->kindOf x≠some .local →
  bindC kindOf (P.zip vs) m x=some v
 | [],_,_,_,_,h,_,_=>by simp at h
 | _::_,[],_,_,_,_,h,_=>by simp at h
 | p::P,w::vs,0,m,nd,h1,h2,hk=>by
  simp at h1 h2;subst h1;subst h2
  show bindC kindOf ((p,w)::P.zip vs) m p=_;unfold bindC;rw [xAgq fun v hv=>(zo.mp nd).1 (yt hv).1,if_neg hk]
  simp
 | p::P,w::vs,i+1,m,nd,h1,h2,hk=>by
  show bindC kindOf ((p,w)::P.zip vs) m x=_;unfold bindC;exact xAgs (i:=i) (List.nodup_cons.mp nd).2 (by simpa using h1) (by simpa using h2) hk
def start (N:List Str) (vs:List V):St:=vs.map some++List.replicate (N.length - vs.length) none
def cxOf (CX:CXT) (P:Program) (w:World) (K:PySem.W.Frag) (mg:Str->Option Value) (base:Heap) (N:List Str) (qual:Str) (scope:Scope) (f:Addr) (cd:Value) (A:Around) (outer:List Env) (s:Shared) (H:Hp) (E:XK):Cx where
 prog:=P
 w:=w
 K:=K
 mg:=mg
 base:=base
 A:=A.deeper (envOfC qual scope s.heap.objs.size f cd)
 N:=N
 s₀:=s
 H₀:=H
 env:=envOfC qual scope s.heap.objs.size f cd
 outer:=outer
 stack:=envOfC qual scope s.heap.objs.size f cd::outer
 ex:=[]
 calm:=true
 fn:=fun _=>true
 pn:=[]
 xe:=fun e s'=>wpAny (model P w) (A.deeper (envOfC qual scope s.heap.objs.size f cd)) (leaving (envOfC qual scope s.heap.objs.size f cd) e) (fun _ s''=>CX outer H s E e s'') (fun e' s''=>CX outer H s E e' s'') s'
theorem xAcb {sc:Scope} {n:Nat} {x:Str} (h:sc.names.lookup x=some .cell):∃ c,(cellsFrom n sc.names []).lookup x=some c:=by
 have q:=PySem.W.cellsFrom_some sc.names n [] (.inl h);exact yu.mp q
theorem xAmh {CX:CXT} {P:Program} {w:World} {K:PySem.W.Frag} {mg:Str->Option Value} {base:Heap} {N ps:List Str} {qual:Str} {scope:Scope} {f:Addr} {cd:Value} {A:Around} {outer:List Env} {s s1:Shared} {H:Hp} {E:XK} {us:List Value} {vs:List V}
  (S:FnScope N ps scope) (hd:A.handled=none) (e0:Env0 P w K mg base A outer s H) (hl:vs.length=ps.length) (r:Vals vs us)
  (x:InCallC s s.heap.objs.size (bindL (envOfC qual scope s.heap.objs.size f cd).kindOf (ps.zip us) fun _=>none) (cellsFrom (s.heap.objs.size+1) scope.names []) (bindC (envOfC qual scope s.heap.objs.size f cd).kindOf (ps.zip us) fun _=>none) s1) :
  Inv (cxOf CX P w K mg base N qual scope f cd A outer s H E) [] (start N vs) H s1:=by
 have hpl:ps.length≤N.length:=by have:=congrArg List.length S.pre;rw [z0] at this;omega
 obtain ⟨h1,tk,rfl,hk⟩:=x.done
 have noA:∀ b:Addr,b∉(cxOf CX P w K mg base N qual scope f cd A outer s H E).ex:=fun b z=>absurd (show b∈([]:List Addr) from z) (by simp)
 refine ⟨⟨e0.mod,S.kind,rfl,rfl,qh _,fun y z c h1 h2=>?_,fun y hy=>?_,fun y c _ h=>?_,fun _=>hd,Around.frames_deeper e0.frames,.inr ⟨rfl,rfl⟩,fun b z=>absurd z (noA b),e0.bs,e0.bsz,fun b _ _=>noA b,fun b z=>absurd z (noA b),e0.funs,e0.frf⟩,
  rfl,e0.bare,Un.kept hk,⟨_,x.toInCall.ns,fun i y v h1 h2 h3=>?_⟩,fun y c h=>⟨_,x.cell y c h⟩,e0.hok.fresh (Nat.le_refl _),fun y c h=>?_,fun p hp=>absurd (show p∈([]:List (Addr×Obj)) from hp) (by simp),e0.hok.kept hk,?_⟩
 ·exact name_of_addr x.apart (PySem.mem_of_lookup h1) (PySem.mem_of_lookup h2)
 ·have hy:scope.names.lookup y=some .cell\/scope.names.lookup y=some .free:=hy
  rcases hy with hy | hy
  ·exact xAcb hy
  ·exact absurd rfl (S.nofree _ (PySem.mem_of_lookup hy))
 ·exact zf (x.above y c (PySem.mem_of_lookup h))
 ·have hi:i<vs.length:=by
   unfold start at h2
   by_cases hi:i<vs.length
   ·exact hi
   ·rw [List.getElem?_append_right (by simpa using hi)] at h2
    rw [vn] at h2
    split at h2 <;> cases h2
  have ha:vs[i]?=some v:=by
   unfold start at h2;rw [List.getElem?_append_left (by simpa using hi),List.getElem?_map] at h2
   cases e:vs[i]? with
   | none=>rw [e] at h2;cases h2
   | some a=>rw [e] at h2;cases h2;rfl
  obtain ⟨u,hu,rv⟩:=r.get ha
  have hp:ps[i]?=some y:=by
   rw [← S.pre,List.getElem?_take_of_lt (by omega)];exact h1
  have ndP:ps.Nodup:=by rw [← S.pre];exact S.nd.sublist (List.take_sublist _ _)
  refine ⟨u,rv,?_⟩;rcases S.par y (qo hp) with k | k
  ·exact .inl ⟨k,xAgr ndP hp hu k⟩
  ·obtain ⟨c,e⟩:=xAcb (n:=s.heap.objs.size+1) k
   refine .inr ⟨.inl k,c,e,?_⟩;have q:=x.cell y c e;rw [xAgs ndP hp hu (by show scope.names.lookup y≠_;rw [k];decide)] at q;exact q
 ·exact e0.hok.fresh (zf (x.above y c (PySem.mem_of_lookup h)))
 ·unfold start
  show _=N.length;rw [qv,qg,jn];omega
theorem fn_of {CX:CXT} {P:Program} {w:World} {K:PySem.W.Frag} {mg:Str->Option Value} {base:Heap} {k:Nat} {f:Addr} {name qual:Str} {params:Arguments} {body:List Stmt} {scope:Scope} {dV kV doc pm cdv ct oc:Value} {an od:Option Addr}
  {osl:Array (Option Value)} {N ps:List Str} {sp:Sp} (lk:K.lookup f=some ⟨oc,od,.func (PySem.W.fnOf name qual params body scope dV kV doc pm an cdv ct),osl⟩) (hcd:PySem.W.codeIn K cdv qual=true) (S:FnScope N ps scope)
  (len:∀ vs H Q E,sp vs H Q E->vs.length=ps.length)
  (hbody:∀ (A:Around) (outer:List Env) (s:Shared) (H:Hp) (vs:List V) (Q:VK) (E:XK),Room k (A.deeper (envOfC qual scope s.heap.objs.size f cdv))->sp vs H Q E →
   ∃ t,PSs (cxOf CX P w K mg base N qual scope f cdv A outer s H E) body t/\t { nx:=fun _ H'=>Q .non H',rt:=Q } (start N vs) H) :
  FnOk P w K mg base CX (k+1) f (PySem.W.fnOf name qual params body scope dV kV doc pm an cdv ct) ps sp:=by
 refine ⟨len,fun A outer s H args us vs Q E hr e0 hb r hsp=>?_⟩;have hl:=len _ _ _ _ hsp;have KX:K.In s.heap:=e0.mod.kin.keeps fun b o e=>(e0.bs b o e).1;have lim:s.heap.NoLimit:=e0.mod.nolimit.keeps fun b o e=>(e0.bs b o e).1
 have hkind:∀ y∈ps.zip us,scope.names.lookup y.1=some .local\/(scope.names.lookup y.1=some .cell/\((cellsFrom (s.heap.objs.size+1) scope.names []).lookup y.1).isSome=true):=fun ⟨n,v⟩ hy=>by
  rcases S.par n (yt hy).1 with q | q
  ·exact .inl q
  ·exact .inr ⟨q,PySem.W.cellsFrom_some _ _ _ (.inl q)⟩
 refine codeAny_call_function hr.depth (KX _ _ lk) rfl S.co S.gen rfl (PySem.W.codeRec_of KX hcd) (hb _ _ _ _ ?_);refine wpAny_newFunctionEnv_cells S.kind hkind fun env he s1 x=>?_;subst he;refine ⟨lim.keeps x.toInCall.keep,codeAny_func ?_⟩;obtain ⟨t,ht,hq⟩:=hbody A outer s H vs Q E (hr.deeper _) hsp;have I:Inv (cxOf CX P w K mg base N qual scope f cdv A outer s H E) [] (start N vs) H s1:=xAmh S hr.hd e0 hl r x;refine wpAny_mono (ht [] s1 (start N vs) H _ I hq) (fun fl s' hs=>?_) fun e s' hs=>hs
 have fin:∀ {σ':St} {H':Hp} {v:V} {u:Value},Inv (cxOf CX P w K mg base N qual scope f cdv A outer s H E) [] σ' H' s'->RelV v u->Q v H'->CE outer P w H s Q u s' :=
  fun {σ' H' v u} J rv q=>⟨v,H',J.os,J.bare,J.base,J.hok,rv,q⟩
 cases fl with
 | ret u =>
  obtain ⟨v,σ',H',J,rv,q⟩:=hs;exact fin J rv q
 | next =>
  obtain ⟨σ',H',J,q⟩:=hs;exact fin (v:=V.non) (u:=Value.none) J rfl q
 | brk =>
  obtain ⟨_,_,_,q⟩:=hs;exact False.elim q
 | cont =>
  obtain ⟨_,_,_,q⟩:=hs;exact False.elim q
section
variable {X:Cx} {x:Str} {p pos:Pos} {e:Expr} {es:List Expr} {t:TA} {id T:String} {r:List V->Hp->VK->Prop}
def tCB (r:List V->Hp->VK->Prop) (t:TA):TE:=fun σ H Q=>t σ H fun vs H1=>r vs H1 Q
theorem xAbb (hc:CallR X (.builtin id) r) (hg:Gl X x) (hm:X.mg x=none) (hv:bootBuiltins x=some (.builtin id)) (ha:PA X (e::es) t) (hn:x≠"__name__":=by decide) (hdb:(x==("__debug__":Str))=false:=by decide)
  (he:starEach (e::es) X.env=(false,eval e X.env)::starEach es X.env:=by rfl) (hpl:(backTo pos (starEach es X.env)).any (·.1)=false:=by rfl):PE X (.Call (.Name x p) (e::es) [] pos) (tCB r t):=by
 intro pins s σ H Q I h;refine wpAny_Call_Name_kw (xAdr I hg hm hv ?_ hn hdb);exact PyProof.Rows.callWith_builtin1 (thn (ha pos pins s σ H _ I h) fun us s1 ⟨vs,H1,I1,r1,q1⟩=>hc pins s1 σ H1 vs us Q I1 r1 q1) he hpl
theorem xAav (hc:CallR X (.type T) r) (hg:Gl X x) (hm:X.mg x=none) (hv:bootBuiltins x=some (.type T)) (ha:PA X (e::es) t) (hn:x≠"__name__":=by decide) (hdb:(x==("__debug__":Str))=false:=by decide)
  (he:starEach (e::es) X.env=(false,eval e X.env)::starEach es X.env:=by rfl) (hpl:(backTo pos (starEach es X.env)).any (·.1)=false:=by rfl):PE X (.Call (.Name x p) (e::es) [] pos) (tCB r t):=by
 intro pins s σ H Q I h;refine wpAny_Call_Name_kw (xAdr I hg hm hv ?_ hn hdb);exact PyProof.Rows.callWith_type1 (thn (ha pos pins s σ H _ I h) fun us s1 ⟨vs,H1,I1,r1,q1⟩=>hc pins s1 σ H1 vs us Q I1 r1 q1) he hpl
end
end L2
namespace HT
open PySem PyProof.Rows
def lexLt:List Int->List Int->Bool
 | [],[]=>false
 | [],_::_=>true
 | _::_,[]=>false
 | x::xs,y::ys=>if x=y then lexLt xs ys else decide (x<y)
theorem lexLt_cons (x y:Int) (xs ys:List Int):lexLt (x::xs) (y::ys)=if x=y then lexLt xs ys else decide (x<y):=rfl
theorem xAey:lexLt [] []=false:=rfl
theorem xAeg (y:Int) (ys:List Int):lexLt [] (y::ys)=true:=rfl
theorem xAeh (x:Int) (xs:List Int):lexLt (x::xs) []=false:=rfl
theorem xApy (A:Around) (s:Shared) (a:Int) (t:Tok) (c:Int) (u:Tok):∃ e,SeqAt.EqAt A s (.int a t) (.int c u) e/\(e=true↔a=c) :=
 ⟨(a==c),SeqAt.EqAt.int_int a t c u,by simp⟩
theorem xApz (A:Around) (s:Shared) (a:Int) (t:Tok) (c:Int) (u:Tok) (prog:Program) (w:World) (E:Value->Shared->Prop) (Q:Value->Shared->Prop) (h:Q (.bool (decide (a<c))) s) :
  wpAny (model prog w) A (richCompare .Lt (.int a t) (.int c u)) Q E s :=
 (PyProof.Rows.lt_int h:wpAny (model prog w) A (compareOp .Lt (.int a t) (.int c u)) Q E s)
section
open PySem.SeqAt
open PySem.AutoSeq1 (wpAny_loadPart')
open PySem.MeetsSeq PySem.MeetsSeq2 PySem.MeetsSeq3
theorem xAez (l b:Addr) (items items2:Array Value) (n n2:Nat) (dd dd2:Option Addr) (sl sl2:Array (Option Value)) (ns ms:List Int) (hi:IntsAre items.toList ns) (hj:IntsAre items2.toList ms) :
  Meets (Builtin.«tuple.__lt__» ⟨[.ref l,.ref b],[]⟩)
   (fun _ R s=>s.heap.get? l=some { cls:=.type "tuple",dict:=dd,data:=.seq items n,slots:=sl }/\s.heap.get? b=some { cls:=.type "tuple",dict:=dd2,data:=.seq items2 n2,slots:=sl2 } ∧
    R (.ok (.ret (.bool (lexLt ns ms)))) s) :=
 .of_wp fun prog w A R s h=>by
  obtain ⟨hp,g,d,tk,os⟩:=s;obtain ⟨hl,hb,h⟩:=h;have f2:=AutoSeq1.sub_tuple_tuple
  have z1:items.size=ns.length:=by rw [← hi.length];simp
  have z2:items2.size=ms.length:=by rw [← hj.length];simp
  wp_walk using wpAny_loadPart' hl,wpAny_loadPart' hb,wpAny_forIn_list _ (fun rest b s'=>b.1=none/\s'=⟨hp,g,d,tk,os⟩/\∃ (vs ws:List Value) (ns' ms':List Int),rest=vs.zip ws ∧
   IntsAre vs ns'/\IntsAre ws ms'/\ns'.length+items2.size=ms'.length+items.size/\R (.ok (.ret (.bool (lexLt ns' ms')))) ⟨hp,g,d,tk,os⟩) _
  case turn =>
   rintro ⟨y,x⟩ rest b s' ⟨hb',rfl,vs,ws,ns',ms',hz,hvi,hwi,hlen,hR⟩
   cases hvi with
   | nil=>rw [List.zip_nil_left] at hz;cases hz
   | cons a t hvi' =>
    cases hwi with
    | nil=>rw [List.zip_nil_right] at hz;cases hz
    | cons c u hwi' =>
     rw [jo] at hz;injection hz with hyx hrest;injection hyx with hy hx;subst hy hx;rw [lexLt_cons] at hR
     simp only [List.length_cons] at hlen
     obtain ⟨e,he,hiff⟩:=xApy A.in1 ⟨hp,g,d,tk,os⟩ a t c u;refine wpAny_bind (he prog w _ _ ?_)
     cases e with
     | true =>
      rw [if_pos (hiff.mp rfl)] at hR
      wp_walk
      exact ⟨rfl,rfl,_,_,_,_,hrest,hvi',hwi',by omega,hR⟩
     | false =>
      rw [if_neg (fun q=>absurd (hiff.mpr q) qp)] at hR;have hri:=xApz A.in1 ⟨hp,g,d,tk,os⟩ a t c u prog w
      wp_walk using hri
      exact ⟨_,rfl,by simpa using hR⟩
  case fin =>
   rintro ⟨b1,b2⟩ s' ⟨hb',rfl,vs,ws,ns',ms',hz,hvi,hwi,hlen,hR⟩
   simp only at hb'
   subst hb'
   have hv:lexLt ns' ms'=decide (items.size<items2.size):=by
    cases hvi with
    | nil =>
     cases hwi with
     | nil =>
      simp only [List.length_nil] at hlen
      rw [xAey];exact (decide_eq_false (by omega)).symm
     | cons c u hw =>
      simp only [List.length_nil,List.length_cons] at hlen
      rw [xAeg];exact (decide_eq_true (by omega)).symm
    | cons a t hv =>
     cases hwi with
     | nil =>
      simp only [List.length_nil,List.length_cons] at hlen
      rw [xAeh];exact (decide_eq_false (by omega)).symm
     | cons c u hw =>
      rw [jo] at hz;cases hz
   rw [hv] at hR
   wp_walk
   exact ⟨_,rfl,by simpa [Builtin.Tuple.tupleCompareSizes] using hR⟩
  case h =>
   exact ⟨rfl,rfl,items.toList,items2.toList,ns,ms,rfl,hi,hj,by omega,h⟩
end
section
variable {prog:Program} {w:World} {A:Around} {E:Value->Shared->Prop} {s:Shared}
theorem lt_tupInts {l b:Addr} {items items2:Array Value} {ns ms:List Int} {Q:Value->Shared->Prop} (hl:IsTup s.heap l items) (hb:IsTup s.heap b items2) (hi:IntsAre items.toList ns) (hj:IntsAre items2.toList ms)
  (hu:A.units<cLine) (h:Q (.bool (lexLt ns ms)) s):wpAny (model prog w) A (compareOp .Lt (.ref l) (.ref b)) Q E s:=by
 obtain ⟨⟨cls,dd,data,sl⟩,ho,hc,n,hd⟩:=id hl;obtain ⟨⟨cls2,dd2,data2,sl2⟩,ho2,hc2,n2,hd2⟩:=id hb
 simp only at hc hd hc2 hd2
 subst hc hd hc2 hd2
 exact richCompare_meets_room (op:=.Lt) ⟨_,ho,rfl⟩ ⟨_,ho2,rfl⟩ PySem.F.slot_tuple_lt PySem.F.entry_tuple_lt (PySem.F.args_tuple_lt_2 _ _) (xAez l b items items2 n n2 dd dd2 sl sl2 ns ms hi hj)
  ⟨ho,ho2,show Value.bool (lexLt ns ms)≠Value.notImplemented/\Q (.bool (lexLt ns ms)) s from ⟨(fun x=>nomatch x),h⟩⟩ hu
theorem cat_tup {t b:Addr} {vs ws:List Value} {Q:Value->Shared->Prop} (ht:IsTup s.heap t vs.toArray) (hb:IsTup s.heap b ws.toArray) (hv:vs≠[])
  (h1:ws=[]->Q (.ref t) s) (h2:ws≠[]->Q (.ref s.heap.objs.size) { s with heap:=s.heap.push { cls:=.type "tuple",data:=.seq (vs++ws).toArray } })
  (hsz:vs.length+ws.length≤sizeLine):wpAny (model prog w) A (binaryOp .Add (.ref t) (.ref b)) Q E s:=by
 obtain ⟨⟨cls,dd,data,sl⟩,ho,hc,n,hd⟩:=id ht;obtain ⟨⟨cls2,dd2,data2,sl2⟩,ho2,hc2,n2,hd2⟩:=id hb
 simp only at hc hd hc2 hd2
 subst hc hd hc2 hd2
 have e:vs.toArray++ws.toArray=(vs++ws).toArray:=by simp
 by_cases hw:ws=[]
 ·exact concat_meets ⟨_,ho,rfl⟩ ⟨_,ho2,rfl⟩ noFill_tuple_add seq_tuple_add PySem.F.slot_tuple_add PySem.F.entry_tuple_add (PySem.F.args_tuple_add_2 _ _)
   (tuple_addW1 t b vs.toArray ws.toArray n n2 dd dd2 sl sl2 (by simpa using hv) (by simp [hw])) ⟨ho,ho2,h1 hw⟩
 ·refine concat_meets ⟨_,ho,rfl⟩ ⟨_,ho2,rfl⟩ noFill_tuple_add seq_tuple_add PySem.F.slot_tuple_add PySem.F.entry_tuple_add (PySem.F.args_tuple_add_2 _ _)
   (tuple_addW2 t b vs.toArray ws.toArray n n2 dd dd2 sl sl2 (by simpa using hv) (by simpa using hw) (by rw [List.size_toArray,List.size_toArray];exact hsz)) ⟨ho,ho2,?_⟩
  rw [e];exact h2 hw
def sIx (n d:Nat):Option Int->Nat
 | none=>d
 | some v=>if v<0 then (v+(n:Int)).toNat else min v.toNat n
theorem sIx_none (n d:Nat):sIx n d none=d:=rfl
theorem sIx_nat (n d k:Nat):sIx n d (some (k:Int))=min k n:=by
 show (if (k:Int)<0 then ((k:Int)+(n:Int)).toNat else min (k:Int).toNat n)=min k n;rw [if_neg (by omega),Int.toNat_natCast]
end
end HT
namespace L2
open PySem PySem.Spec PyProof.Rows
abbrev TO:=St->Hp->(Option Int->Hp->Prop)->Prop
def PO (X:Cx) (e:Option Expr) (t:TO):Prop :=
 ∀ (pins:List (Addr×Obj)) (s:Shared) (σ:St) (H:Hp) (Q:Option Int->Hp->Prop),Inv X pins σ H s->t σ H Q →
  wpAny (model X.prog X.w) X.A (evalPart e X.env) (fun u s'=>∃ o H',Inv X pins σ H' s'/\IsPart u o/\Q o H') X.xe s
def tNoPart:TO:=fun _ H Q=>Q none H
def tPart (t:TE):TO:=fun σ H Q=>t σ H fun x H1=>∃ i,x=.int i/\Q (some i) H1
theorem xAfa {ns:List Int}:∀ {us:List Value},Vals (ns.map V.int) us->IntsAre us ns:=by
 induction ns with
 | nil=>intro us r;rw [yv] at r;cases r;exact .nil
 | cons n ns ih =>
  intro us r;rw [zh] at r
  cases r with
  | cons r1 r2 =>
   obtain ⟨t,e⟩:=r1;subst e;exact .cons n t (ih r2)
section
variable {X:Cx} {e:Expr} {te:TE} {lo hi:Option Expr} {tl th:TO} {pos p2:Pos}
theorem xAcy:PO X none tNoPart:=by
 intro pins s σ H Q I h;rw [evalPart_none];exact wpAny_pure ⟨none,H,I,.none,h⟩
theorem xAcj (h:PE X e te):PO X (some e) (tPart te):=by
 intro pins s σ H Q I hw;rw [evalPart_some];refine thn (h pins s σ H _ I hw) fun u s1 ⟨x,H1,I1,r1,q1⟩=>?_;obtain ⟨i,rfl,q⟩:=q1;obtain ⟨t,rfl⟩:=r1;exact ⟨some i,H1,I1,.int i t,q⟩
def SlR (X:Cx) (r:V->Option Int->Option Int->Hp->VK->Prop):Prop :=
 ∀ (pins:List (Addr×Obj)) (s:Shared) (σ:St) (H:Hp) (x:V) (v vl vu:Value) (lo hi:Option Int) (sl:Addr) (Q:VK),Inv X pins σ H s->RelV x v->s.heap.IsSliceOf sl vl vu .none->IsPart vl lo->IsPart vu hi->r x lo hi H Q →
  ∃ T id,typeLookup (.type T) "__getitem__"=pure (some (.builtin id))/\s.TypeIs v T/\wpAny (model X.prog X.w) X.A (getItem v (.ref sl)) (EP X pins σ Q) X.xe s
def tSl (r:V->Option Int->Option Int->Hp->VK->Prop) (te:TE) (tl th:TO):TE:=fun σ H Q=>te σ H fun x H1=>tl σ H1 fun l H2=>th σ H2 fun u H3=>r x l u H3 Q
theorem xAbu {r:V->Option Int->Option Int->Hp->VK->Prop} (hr:SlR X r) (he:PE X e te) (hl:PO X lo tl) (hu:PO X hi th):PE X (.Subscript e (.Slice lo hi none p2) pos) (tSl r te tl th):=by
 intro pins s σ H Q I h;refine Subscript_ (thn (he pins s σ H _ I h) fun v s1 ⟨x,H1,I1,r1,q1⟩=>?_);refine wpAny_Slice (thn (hl pins s1 σ H1 _ I1 q1) fun vl s2 ⟨l,H2,I2,pl,q2⟩=>thn (hu pins s2 σ H2 _ I2 q2) fun vu s3 ⟨u,H3,I3,pu,q3⟩=>?_);rw [evalPart_none];refine wpAny_pure ?_;have I4:Inv X pins σ H3 { s3 with heap:=s3.heap.push { cls:=.type "slice",data:=.fields #[vl,vu,.none] } }:=I3.kept (t':=s3.toks) fun b ob q=>Heap.get?_push_of_some _ q;obtain ⟨T,id,hT,ht,hg⟩:=hr pins { s3 with heap:=s3.heap.push { cls:=.type "slice",data:=.fields #[vl,vu,.none] } } σ H3 x v vl vu l u s3.heap.objs.size Q I4 r1 (Heap.IsSliceOf.new ..) pl pu q3;show wpAny (model X.prog X.w) X.A (subscriptTail e (.Slice lo hi none p2) v (.ref s3.heap.objs.size)) (EP X pins σ Q) X.xe { s3 with heap:=s3.heap.push { cls:=.type "slice",data:=.fields #[vl,vu,.none] } };exact tail_any (ops:=[.ref s3.heap.objs.size,v]) ht hT hg (by with_unfolding_all rfl)
def cutV (xs:List V) (lo hi:Option Int):List V:=(xs.drop (HT.sIx xs.length 0 lo)).take (HT.sIx xs.length xs.length hi - HT.sIx xs.length 0 lo)
theorem xAdw (xs:List V) (lo hi:Option Int):(cutV xs lo hi).length≤xs.length:=by
 unfold cutV;rw [z0,vq];omega
def rLtT (K:PySem.W.Frag):R2:=fun x y H Q=>∃ a b ns ms,x=.ref a/\y=.ref b/\SqT K H a (ns.map V.int)/\SqT K H b (ms.map V.int)/\Q (.bl (HT.lexLt ns ms)) H
theorem op_ltT (hu:X.A.units<cLine):OpR X (compareOp .Lt) (rLtT X.K):=by
 intro pins s σ H x y v u Q I rx ry h;obtain ⟨a,b,ns,ms,rfl,rfl,ha,hb,q⟩:=h;cases rx;cases ry;obtain ⟨its,r1,p1,_⟩:=I.tuple ha;obtain ⟨its2,r2,p2,_⟩:=I.tuple hb;have i1:IntsAre its.toArray.toList ns:=xAfa r1;have i2:IntsAre its2.toArray.toList ms:=xAfa r2;exact HT.lt_tupInts p1 p2 i1 i2 hu ⟨.bl (HT.lexLt ns ms),H,I,rfl,q⟩
def rCatT (K:PySem.W.Frag):R2:=fun x y H Q=>∃ a b xs ys,x=.ref a/\y=.ref b/\SqT K H a xs/\SqT K H b ys/\xs≠[]/\xs.length+ys.length≤sizeLine ∧
 (ys=[]->Q (.ref a) H)/\(ys≠[]->∀ p,H p=none->Q (.ref p) (upd H p (.tup (xs++ys))))
theorem Vals.nil_iff {xs:List V} {us:List Value} (r:Vals xs us):us=[]↔xs=[]:=by
 cases r with
 | nil=>simp
 | cons _ _=>simp
theorem xAsi:OpR X (binaryOp .Add) (rCatT X.K):=by
 intro pins s σ H x y v u Q I rx ry h;obtain ⟨a,b,xs,ys,rfl,rfl,ha,hb,hx,hz,q1,q2⟩:=h;cases rx;cases ry;obtain ⟨its,r1,p1,_⟩:=I.tuple ha;obtain ⟨its2,r2,p2,_⟩:=I.tuple hb;refine HT.cat_tup p1 p2 (fun z=>hx (r1.nil_iff.mp z)) (fun z=>⟨.ref a,H,I,rfl,q1 (r2.nil_iff.mp z)⟩) (fun z=>?_) (by rw [← r1.length,← r2.length];exact hz);refine ⟨.ref s.heap.objs.size,_,I.laid (t':=s.toks) (o:=.tup (xs++ys)) (fun b ob q=>Heap.get?_push_of_some _ q) (qh _) ?_,rfl,q2 (fun w=>z (r2.nil_iff.mpr w)) _ (I.hok.fresh (qh _))⟩;exact ⟨by rw [qv];exact hz,_,r1.append r2,IsTup.new _ _⟩
end
def ixN (n:Nat) (i:Int):Option Nat:=if 0≤i then (if i<n then some i.toNat else none) else if -(n:Int)≤i then some (i+n).toNat else none
def atI {α:Type} (xs:List α) (i:Int):Option α:=(ixN xs.length i).bind fun j=>xs[j]?
theorem xAoo {n:Nat} {i:Int} {j:Nat} (h:ixN n i=some j):seqIndex? i n=some j/\j<n/\-(n:Int)≤i/\i<n:=by
 unfold ixN at h
 by_cases h0:0≤i
 ·rw [if_pos h0] at h
  by_cases h1:i<n
  ·rw [if_pos h1] at h
   have e:i.toNat=j:=Option.some.inj h;exact ⟨by rw [seqIndex_of h0 h1,e],by omega,by omega,h1⟩
  ·rw [if_neg h1] at h;cases h
 ·rw [if_neg h0] at h
  by_cases h1:-(n:Int)≤i
  ·rw [if_pos h1] at h
   have e:(i+n).toNat=j:=Option.some.inj h;exact ⟨by rw [seqIndex_neg (by omega) h1,e],by omega,h1,by omega⟩
  ·rw [if_neg h1] at h;cases h
theorem xAjf {α:Type} {xs:List α} {i:Int} {v:α} (h:atI xs i=some v):∃ j,seqIndex? i xs.length=some j/\xs[j]?=some v/\j<xs.length/\-(xs.length:Int)≤i/\i<xs.length:=by
 unfold atI at h
 cases e:ixN xs.length i with
 | none=>rw [e] at h;cases h
 | some j =>
  rw [e] at h;obtain ⟨h1,h2,h3,h4⟩:=xAoo e;exact ⟨j,h1,h,h2,h3,h4⟩
theorem xAcp {α:Type} {xs:List α} {j:Nat} {v:α} (h:xs[j]?=some v):atI xs (j:Int)=some v:=by
 have hj:j<xs.length:=(qx.mp h).1
 have e:ixN xs.length (j:Int)=some j:=by
  unfold ixN;rw [if_pos (by omega),if_pos (by omega)];simp
 unfold atI;rw [e];exact h
def PlainIx (b:Expr):Prop:=∀ o i,subscripted b false o i=operate [o,i] (getItem o i)
def IxR (X:Cx) (r:R2):Prop :=
 ∀ (value slice:Expr) (pins:List (Addr×Obj)) (s:Shared) (σ:St) (H:Hp) (x y:V) (v u:Value) (Q:VK),Inv X pins σ H s->RelV x v->RelV y u->r x y H Q →
  subscripted slice false v u=operate [v,u] (getItem v u)->wpAny (model X.prog X.w) X.A (subscriptTail value slice v u) (EP X pins σ Q) X.xe s
def MtR (X:Cx) (id:String) (r:V->List V->Hp->VK->Prop):Prop :=
 ∀ (pins:List (Addr×Obj)) (s:Shared) (σ:St) (H:Hp) (x:V) (xs:List V) (v:Value) (us:List Value) (Q:VK),Inv X pins σ H s->RelV x v->Vals xs us->r x xs H Q →
  wpAny (model X.prog X.w) X.A (call (.builtin id) (v::us)) (EP X pins σ Q) X.xe s
section
variable {X:Cx} {a b:Expr} {ta tb:TE} {pos:Pos}
theorem pe_ix {r:R2} (hr:IxR X r) (ha:PE X a ta) (hb:PE X b tb) (hs:PlainIx b):PE X (.Subscript a b pos) (tOp r ta tb):=by
 intro pins s σ H Q I h;exact Subscript_ (binT ha hb I h fun v u s2 x y H2 I2 rx ry q=>hr a b pins s2 σ H2 x y v u Q I2 rx ry q (hs _ _))
def rIxL (K:PySem.W.Frag):R2:=fun x y H Q=>∃ p xs i v,x=.ref p/\y=.int i/\SqL K H p xs/\atI xs i=some v/\Q v H
def rIxT (K:PySem.W.Frag):R2:=fun x y H Q=>∃ p xs i v,x=.ref p/\y=.int i/\SqT K H p xs/\atI xs i=some v/\Q v H
def rIxS:R2:=fun x y H Q=>∃ z i c,x=.str z/\y=.int i/\z.length≤sizeLine/\atI z.cps.toList i=some c/\Q (.str ⟨#[c]⟩) H
theorem xAal:IxR X (rIxL X.K):=by
 intro value slice pins s σ H x y v u Q I rx ry h hs;obtain ⟨p,xs,i,z,rfl,rfl,hq,he,q⟩:=h;cases rx;obtain ⟨t,rfl⟩:=ry;obtain ⟨its,r,pl,hz⟩:=I.list hq;obtain ⟨j,h1,h2,h3,h4,h5⟩:=xAjf he;obtain ⟨w,ew,rw'⟩:=r.get h2;have hl:=r.length;have hn:=xAiz;have fin:EP X pins σ Q w s:=⟨z,H,I,rw',q⟩
 by_cases h0:0≤i
 ·have hj:i.toNat=j:=by
   rw [seqIndex_of h0 h5] at h1;exact Option.some.inj h1
  exact item_listR pl.isList h0 (by omega) (by rw [hj];simpa using ew) fin hs
 ·have hj:(i+(its.toArray.size:Int)).toNat=j:=by
   rw [seqIndex_neg (by omega) h4] at h1;rw [zc,← hl];exact Option.some.inj h1
  exact subscriptTail_builtinR (x:=w) pl.isList.typeIs slot_list_getitem.lookup
   (wpAny_getItem_list_neg (Q:=fun r s'=>r=w/\EP X pins σ Q r s') pl.isList (by omega) (by rw [List.size_toArray] <;> omega) (by omega) (by rw [hj];simpa using ew) ⟨rfl,fin⟩) hs
theorem xAmi:IxR X (rIxT X.K):=by
 intro value slice pins s σ H x y v u Q I rx ry h hs;obtain ⟨p,xs,i,z,rfl,rfl,hq,he,q⟩:=h;cases rx;obtain ⟨t,rfl⟩:=ry;obtain ⟨its,r,pl,hz⟩:=I.tuple hq;obtain ⟨j,h1,h2,h3,h4,h5⟩:=xAjf he;obtain ⟨w,ew,rw'⟩:=r.get h2;have hl:=r.length;have hn:=xAiz;have fin:EP X pins σ Q w s:=⟨z,H,I,rw',q⟩
 exact subscriptTail_builtinR (x:=w) pl.typeIs slot_tuple_getitem.lookup
  (getItem_tuple (j:=j) (Q:=fun r s'=>r=w/\EP X pins σ Q r s') pl (by omega) (by omega) (by rw [List.size_toArray,← hl];exact h1) (by simpa using ew) ⟨rfl,fin⟩) hs
theorem xAsj:IxR X rIxS:=by
 intro value slice pins s σ H x y v u Q I rx ry h hs;obtain ⟨z,i,c,rfl,rfl,hz,he,q⟩:=h;obtain ⟨t,rfl⟩:=rx;obtain ⟨t',rfl⟩:=ry;obtain ⟨j,h1,h2,h3,h4,h5⟩:=xAjf he
 have hl:z.cps.toList.length=z.length:=by simp [Str.length]
 rw [hl] at h1 h4 h5;have hn:=xAiz
 exact tail_any (typeIs_str s z t) slot_str_getitem.lookup (getItem_str (c:=c) (by
  have e1:decide (i < -(2 ^ 63:Int))=false:=decide_eq_false (by omega);have e2:decide (i≥2 ^ 63)=false:=decide_eq_false (by omega)
  rw [e1,e2,Bool.or_false]) (by rw [h1];simpa using h2) ⟨.str ⟨#[c]⟩,H,I.tok _,⟨_,rfl⟩,q⟩) hs
theorem xAjg (its:List Value) (n j:Nat) (u:Value):Obj.mapSeq (·.setIfInBounds j u) { cls:=.type "list",data:=.seq its.toArray n }={ cls:=.type "list",data:=.seq (its.set j u).toArray n }:=by
 simp [Obj.mapSeq]
theorem Inv.lst {pins:List (Addr×Obj)} {σ:St} {H:Hp} {s:Shared} {p:Addr} {xs:List V} (I:Inv X pins σ H s) (h:H p=some (.lst xs)) :
  ∃ (its:List Value) (n:Nat),Vals xs its/\s.heap.get? p=some { cls:=.type "list",data:=.seq its.toArray n }/\xs.length≤sizeLine:=by
 obtain ⟨z,its,n,r,e⟩:=I.hok p _ h;exact ⟨its,n,r,e,z⟩
theorem Inv.lstUpd {pins:List (Addr×Obj)} {σ:St} {H:Hp} {s:Shared} {p:Addr} {xs ys:List V} {its its':List Value} {n n':Nat} {f:Obj->Obj} (I:Inv X pins σ H s) (h:H p=some (.lst xs))
  (ho:s.heap.get? p=some { cls:=.type "list",data:=.seq its.toArray n }) (hf:f { cls:=.type "list",data:=.seq its.toArray n }={ cls:=.type "list",data:=.seq its'.toArray n' }) (r:Vals ys its') (hz:ys.length≤sizeLine) (t:Nat) :
  Inv X pins σ (upd H p (.lst ys)) { s with heap:=s.heap.update p f,toks:=t }:=by
 have e:(s.heap.update p f).get? p=some { cls:=.type "list",data:=.seq its'.toArray n' }:=by
  rw [Heap.get?_update_self f ho (by rw [hf] <;> rfl),hf]
 refine I.write (x:=p) (e:=p) (by rw [h];trivial) (.inl rfl) (fun b u hb q=>(Heap.get?_update_other _ _ (Ne.symm hb)).trans q) ⟨_,e⟩ ?_;exact ⟨hz,its',n',r,e⟩
def rSetL:V->V->V->Hp->(Hp->Prop)->Prop:=fun o i v H Q=>∃ p xs k j,o=.ref p/\i=.int k/\H p=some (.lst xs)/\ixN xs.length k=some j/\Q (upd H p (.lst (xs.set j v)))
theorem xAfr:PSet X rSetL:=by
 intro pins s σ H o i v ov iv u Q I ro ri rv h;obtain ⟨p,xs,k,j,rfl,rfl,hp,hj,q⟩:=h;cases ro;obtain ⟨t,rfl⟩:=ri;obtain ⟨its,n,r,ho,hz⟩:=I.lst hp;obtain ⟨h1,h2,h3,h4⟩:=xAoo hj;have hl:=r.length;have hn:=xAiz
 have I':Inv X pins σ (upd H p (.lst (xs.set j v))) { s with heap:=s.heap.update p (Obj.mapSeq (·.setIfInBounds j u)) } :=
  I.lstUpd hp ho (xAjg its n j u) (r.set rv j) (by rw [wj];exact hz) s.toks
 by_cases h0:0≤k
 ·have hk:k.toNat=j:=by
   rw [seqIndex_of h0 h4] at h1;exact Option.some.inj h1
  exact PySem.W.ki_setAt ho h0 (by omega) (by rw [zc,← hl];exact h4) (by rw [hk];exact ⟨_,I',q⟩)
 ·have hk:(k+(its.toArray.size:Int)).toNat=j:=by
   rw [seqIndex_neg (by omega) h3] at h1;rw [zc,← hl];exact Option.some.inj h1
  exact PySem.W.ki_setBack ho (by omega) (by rw [zc,← hl];exact h3) (by omega) (by rw [hk];exact ⟨_,I',q⟩)
theorem xAfs (lo hi:Option Int) (n:Nat):(sliceBounds lo hi none n).1=((HT.sIx n 0 lo:Nat):Int)/\(sliceBounds lo hi none n).2.1=((HT.sIx n n hi:Nat):Int)/\(sliceBounds lo hi none n).2.2=1:=by
 refine ⟨?_,?_,rfl⟩
 ·cases lo with
  | none=>simp [sliceBounds,HT.sIx]
  | some i =>
   simp only [sliceBounds,HT.sIx,Option.getD_none,show (1:Int)>0 by decide,if_true]
   by_cases h:i<0
   ·simp only [h,if_true] <;> omega
   ·simp only [h,if_false] <;> omega
 ·cases hi with
  | none=>simp [sliceBounds,HT.sIx]
  | some i =>
   simp only [sliceBounds,HT.sIx,Option.getD_none,show (1:Int)>0 by decide,if_true]
   by_cases h:i<0
   ·simp only [h,if_true] <;> omega
   ·simp only [h,if_false] <;> omega
theorem xAfb (its:List Value) (lo hi:Option Int):slicePick its.toArray lo hi none=((its.drop (HT.sIx its.length 0 lo)).take (HT.sIx its.length its.length hi - HT.sIx its.length 0 lo)).toArray:=by
 obtain ⟨h1,h2,h3⟩:=xAfs lo hi its.toArray.size;unfold slicePick;rw [h1,h2,h3]
 simp only [sliceRange_one,pick_run,List.size_toArray] <;> rfl
def rSlL (K:PySem.W.Frag):V->Option Int->Option Int->Hp->VK->Prop:=fun x lo hi H Q=>∃ a xs,x=.ref a/\SqL K H a xs/\∀ p,H p=none->Q (.ref p) (upd H p (.lst (cutV xs lo hi)))
theorem xAsk:SlR X (rSlL X.K):=by
 intro pins s σ H x v vl vu lo hi sl Q I rx hs pl pu h;obtain ⟨a,xs,rfl,hx,q⟩:=h;cases rx;obtain ⟨its,r,ht,hz⟩:=I.list hx;have hlen:=r.length;refine ⟨"list",_,slot_list_getitem.lookup,ht.isList.typeIs,?_⟩;refine wpAny_getItem_list_slice ht.isList hs pl pu .none (by simp) ?_ (by rw [List.size_toArray] <;> omega);rw [xAfb,← hlen];refine ⟨.ref s.heap.objs.size,_,I.laid (t':=s.toks) (o:=.lst (cutV xs lo hi)) (fun b ob q=>Heap.get?_push_of_some _ q) (qh _) ?_,rfl,q _ (I.hok.fresh (qh _))⟩;exact ⟨qm (xAdw xs lo hi) hz,_,0,(r.drop (HT.sIx xs.length 0 lo)).take (HT.sIx xs.length xs.length hi - HT.sIx xs.length 0 lo),Heap.get?_push_size _ rfl⟩
def flatV:V->Bool
 | .non=>true
 | .bl _=>true
 | .int _=>true
 | .str _=>true
 | _=>false
def eqV:V->V->Bool
 | .non,.non=>true
 | .bl a,.bl b=>a==b
 | .bl a,.int b=>(if a then 1 else 0)==b
 | .int a,.bl b=>a==(if b then 1 else 0)
 | .int a,.int b=>a==b
 | .str a,.str b=>a==b
 | _,_=>false
theorem eqAt_V {A:Around} {s:Shared} {y x:V} {u v:Value} (ry:RelV y u) (rx:RelV x v) (fy:flatV y=true) (fx:flatV x=true):SeqAt.EqAt A s u v (eqV y x):=by
 cases y with
 | non =>
  cases ry
  cases x with
  | non=>cases rx;exact SeqAt.EqAt.same _
  | bl b=>cases rx;exact SeqAt.EqAt.none_bool b
  | int b=>obtain ⟨t,rfl⟩:=rx;exact SeqAt.EqAt.none_int b t
  | str b=>obtain ⟨t,rfl⟩:=rx;exact SeqAt.EqAt.none_str b t
  | _=>exact absurd (show false=true from fx) qp
 | bl a =>
  cases ry
  cases x with
  | non=>cases rx;exact SeqAt.EqAt.bool_none a
  | bl b=>cases rx;exact SeqAt.EqAt.bool_bool a b
  | int b=>obtain ⟨t,rfl⟩:=rx;exact SeqAt.EqAt.bool_int a b t
  | str b=>obtain ⟨t,rfl⟩:=rx;exact SeqAt.EqAt.bool_str a b t
  | _=>exact absurd (show false=true from fx) qp
 | int a =>
  obtain ⟨t',rfl⟩:=ry
  cases x with
  | non=>cases rx;exact SeqAt.EqAt.int_none a t'
  | bl b=>cases rx;exact SeqAt.EqAt.int_bool a t' b
  | int b=>obtain ⟨t,rfl⟩:=rx;exact SeqAt.EqAt.int_int a t' b t
  | str b=>obtain ⟨t,rfl⟩:=rx;exact SeqAt.EqAt.int_str a t' b t
  | _=>exact absurd (show false=true from fx) qp
 | str a =>
  obtain ⟨t',rfl⟩:=ry
  cases x with
  | non=>cases rx;exact SeqAt.EqAt.str_none a t'
  | bl b=>cases rx;exact SeqAt.EqAt.str_bool a t' b
  | int b=>obtain ⟨t,rfl⟩:=rx;exact SeqAt.EqAt.str_int a t' b t
  | str b=>obtain ⟨t,rfl⟩:=rx;exact SeqAt.EqAt.str_str a t' b t
  | _=>exact absurd (show false=true from fx) qp
 | _=>exact absurd (show false=true from fy) qp
def eqU (x:V) (u:Value):Bool:=match u with
 | .none=>eqV .non x
 | .bool b=>eqV (.bl b) x
 | .int i _=>eqV (.int i) x
 | .str z _=>eqV (.str z) x
 | _=>false
theorem xAsl {x y:V} {u:Value} (r:RelV y u) (f:flatV y=true):eqU x u=eqV y x:=by
 cases y with
 | non=>cases r;rfl
 | bl b=>cases r;rfl
 | int i=>obtain ⟨t,rfl⟩:=r;rfl
 | str z=>obtain ⟨t,rfl⟩:=r;rfl
 | _=>exact absurd (show false=true from f) qp
theorem xAjh {x:V}:∀ {xs:List V} {us:List Value},Vals xs us->xs.all flatV=true->us.any (eqU x)=xs.any fun y=>eqV y x
 | _,_,.nil,_=>rfl
 | y::xs,u::us,.cons r t,f=>by
  rw [List.all_cons,zi] at f;rw [va,va,xAsl r f.1,xAjh t f.2]
theorem xAft {A:Around} {s:Shared} {x:V} {v:Value} (rx:RelV x v) (fx:flatV x=true):∀ {xs:List V} {us:List Value},Vals xs us->xs.all flatV=true->∀ u∈us,SeqAt.EqAt A s u v (eqU x u)
 | _,_,.nil,_=>fun u hu=>by cases hu
 | y::xs,u::us,.cons r t,f=>fun u' hu=>by
  rw [List.all_cons,zi] at f;rcases zg.mp hu with rfl | hu
  ·rw [xAsl r f.1];exact eqAt_V r rx f.1 fx
  ·exact xAft rx fx t f.2 u' hu
def inV (x:V) (xs:List V):Bool:=xs.any fun y=>eqV y x
def rIn (K:PySem.W.Frag) (neg:Bool):R2:=fun x y H Q=>∃ p xs,y=.ref p/\(SqL K H p xs\/SqT K H p xs)/\flatV x=true/\xs.all flatV=true/\Q (.bl (if neg then !inV x xs else inV x xs)) H
theorem xAmj:OpR X (compareOp .In) (rIn X.K false):=by
 intro pins s σ H x y v u Q I rx ry h;obtain ⟨p,xs,rfl,hq,fx,fs,q⟩:=h;cases ry;rcases hq with hq | hq
 ·obtain ⟨its,r,pl,hz⟩:=I.list hq
  refine SeqAt.in_listAt (eqU x) pl.isList (fun w hw=>xAft rx fx r fs w (by simpa using hw)) ⟨.bl _,H,I,rfl,?_⟩;rw [show its.toArray.any (eqU x)=its.any (eqU x) by simp,xAjh r fs];exact q
 ·obtain ⟨its,r,pl,hz⟩:=I.tuple hq
  refine SeqAt.in_tupleAt (eqU x) pl (fun w hw=>xAft rx fx r fs w (by simpa using hw)) ⟨.bl _,H,I,rfl,?_⟩;rw [show its.toArray.any (eqU x)=its.any (eqU x) by simp,xAjh r fs];exact q
theorem xAbc:CallR X (.builtin "len") (fun xs H Q=>∃ p ys,xs=[.ref p]/\(SqL X.K H p ys\/SqT X.K H p ys)/\Q (.int ys.length) H):=by
 intro pins s σ H xs us Q I r h;obtain ⟨p,ys,rfl,hq,q⟩:=h;obtain ⟨u,rfl,rx⟩:=vals1 r;cases rx;have hn:=xAiz;rcases hq with hq | hq
 ·obtain ⟨its,r',pl,hz⟩:=I.list hq
  have hlen:=r'.length;exact Calls.call_len_list pl.isList (by simp only [List.size_toArray] <;> omega) ⟨.int ys.length,H,I.tok _,⟨s.toks+1,by rw [List.size_toArray,hlen]⟩,q⟩
 ·obtain ⟨its,r',pl,hz⟩:=I.tuple hq
  have hlen:=r'.length;exact len_tuple pl (by simp only [List.size_toArray] <;> omega) ⟨.int ys.length,H,I.tok _,⟨s.toks+1,by rw [List.size_toArray,hlen]⟩,q⟩
theorem xAfu:CallR X (.type "list") (fun xs H Q=>∃ p ys,xs=[.ref p]/\(SqL X.K H p ys\/SqT X.K H p ys)/\∀ l,H l=none->Q (.ref l) (upd H l (.lst ys))):=by
 intro pins s σ H xs us Q I r h;obtain ⟨p,ys,rfl,hq,q⟩:=h;obtain ⟨u,rfl,rx⟩:=vals1 r;cases rx
 have fin:∀ (its:List Value),Vals ys its->ys.length≤sizeLine->∀ (h':Heap) (c':Nat),(∀ b o',s.heap.get? b=some o'->h'.get? b=some o') →
   h'.get? s.heap.objs.size=some { cls:=.type "list",dict:=none,data:=.seq its.toArray c',slots:=#[] }->EP X pins σ Q (.ref s.heap.objs.size) { s with heap:=h' }:=fun its r' hz h' c' kp e =>
  ⟨.ref s.heap.objs.size,_,I.laid (t':=s.toks) kp (qh _) (show ObjOk X.prog X.w _ h' _ (.lst ys) from ⟨hz,its,c',r',e⟩),rfl,q _ (I.hok.fresh (qh _))⟩
 rcases hq with hq | hq
 ·obtain ⟨its,r',pl,hz⟩:=I.list hq
  have hlen:=r'.length;obtain ⟨o,ho,hc,n,hd⟩:=pl.isList;exact call_list_seq p (.inl rfl) ho hc hd (fun h' c' kp e=>fin its r' hz h' c' kp e) (by simp only [List.size_toArray] <;> omega)
 ·obtain ⟨its,r',pl,hz⟩:=I.tuple hq
  have hlen:=r'.length;obtain ⟨o,ho,hc,n,hd⟩:=pl;exact call_list_seq p (.inr rfl) ho hc hd (fun h' c' kp e=>fin its r' hz h' c' kp e) (by simp only [List.size_toArray] <;> omega)
theorem xAfc:CallR X (.type "tuple") (fun xs H Q=>∃ p ys,xs=[.ref p]/\((SqL X.K H p ys/\∀ l,H l=none->Q (.ref l) (upd H l (.tup ys)))\/(SqT X.K H p ys/\Q (.ref p) H))):=by
 intro pins s σ H xs us Q I r h;obtain ⟨p,ys,rfl,h⟩:=h;obtain ⟨u,rfl,rx⟩:=vals1 r;cases rx;rcases h with ⟨hq,q⟩ | ⟨hq,q⟩
 ·obtain ⟨its,r',pl,hz⟩:=I.list hq
  have hlen:=r'.length;refine call_tuple_list pl.isList (fun h' kp=>?_) (by simp only [List.size_toArray] <;> omega);have I1:Inv X pins σ H { s with heap:=h' }:=I.kept (t':=s.toks) kp
  have I2:Inv X pins σ (upd H h'.objs.size (.tup ys)) { s with heap:=h'.push { cls:=.type "tuple",data:=.seq its.toArray } } :=
   I1.laid (t':=s.toks) (fun b o e=>Heap.get?_push_of_some _ e) (qh _) (show ObjOk X.prog X.w _ _ _ (.tup ys) from ⟨hz,its,r',IsTup.new _ _⟩)
  exact ⟨.ref h'.objs.size,_,I2,rfl,q _ (I1.hok.fresh (qh _))⟩
 ·obtain ⟨its,r',pl,hz⟩:=I.tuple hq
  exact call_tuple_same pl ⟨.ref p,H,I,rfl,q⟩
def tyV (K:PySem.W.Frag) (T:String) (x:V) (H:Hp):Prop:=match x with
 | .str _=>T = "str"
 | .int _=>T = "int"
 | .ref p=>(T = "list" /\ ∃ xs,SqL K H p xs)\/(T = "tuple" /\ ∃ o,K.lookup p=some o/\o.cls=.type "tuple" /\ o.dict=none) ∨
   (T = "dict" /\ ((∃ kvs,H p=some (.dK kvs))\/(∃ kvs,H p=some (.dT kvs))\/∃ kvs,H p=some (.dG kvs)))\/(T = "set" /\ ∃ S n,H p=some (.set S n))
 | _=>False
theorem tyV_is {pins:List (Addr×Obj)} {σ:St} {H:Hp} {s:Shared} {T:String} {x:V} {v:Value} (I:Inv X pins σ H s) (r:RelV x v) (ty:tyV X.K T x H) :
  s.TypeIs v T/\∀ a,v=.ref a->∃ ob,s.heap.get? a=some ob/\ob.dict=none:=by
 cases x with
 | str z =>
  obtain ⟨t,rfl⟩:=r;cases (show T = "str" from ty);exact ⟨typeIs_str s z t,fun _ e=>nomatch e⟩
 | int i =>
  obtain ⟨t,rfl⟩:=r;cases (show T = "int" from ty);exact ⟨typeIs_int s i t,fun _ e=>nomatch e⟩
 | ref p =>
  cases r;rcases ty with ⟨rfl,xs,hq⟩ | ⟨rfl,o,hk,hc,hd⟩ | ⟨rfl,hk⟩ | ⟨rfl,S,n,hk⟩
  ·obtain ⟨its,_,pl,_⟩:=I.list hq
   refine ⟨pl.isList.typeIs,fun a e=>?_⟩;cases e;obtain ⟨o,n,e,c,hd,_⟩:=pl;exact ⟨o,e,hd⟩
  ·refine ⟨⟨o,I.kIn p o hk,hc⟩,fun a e=>?_⟩
   cases e;exact ⟨o,I.kIn _ o hk,hd⟩
  ·have z:∃ o,s.heap.get? p=some o/\o.ExactDict:=by
    rcases hk with ⟨kvs,hk⟩ | ⟨kvs,hk⟩ | ⟨kvs,hk⟩
    ·obtain ⟨_,_,_,_,o,_,_,e,ex,_⟩:=I.hok p _ hk
     exact ⟨o,e,ex⟩
    ·obtain ⟨_,_,_,_,o,_,_,e,ex,_⟩:=I.hok p _ hk
     exact ⟨o,e,ex⟩
    ·obtain ⟨_,_,_,_,o,_,_,e,ex,_⟩:=I.hok p _ hk
     exact ⟨o,e,ex⟩
   obtain ⟨o,e,ex⟩:=z;refine ⟨⟨o,e,ex.1⟩,fun a e2=>?_⟩;cases e2;exact ⟨o,e,ex.2.1⟩
  ·obtain ⟨o,_,_,_,e,ex,_⟩:=I.hok p _ hk
   refine ⟨⟨o,e,ex.1⟩,fun a e2=>?_⟩;cases e2;exact ⟨o,e,ex.2.1⟩
 | _=>exact False.elim ty
def tBM (K:PySem.W.Frag) (T:String) (r:V->List V->Hp->VK->Prop) (to:TE) (t:TA):TE:=fun σ H Q=>to σ H fun x H1=>tyV K T x H1/\t σ H1 fun xs H2=>r x xs H2 Q
variable {o e:Expr} {es:List Expr} {to:TE} {t:TA} {name:Str} {apos cpos:Pos} {T id:String} {r:V->List V->Hp->VK->Prop}
theorem pe_bm (pa:PlainAttrs T) (slot:Slot T name id) (hty:typeOf (.builtin id)=pure (.type "method_descriptor")) (hm:MtR X id r) (ho:PE X o to) (ha:PA X (e::es) t)
  (hbase:attributeBase o name X.env (eval o X.env)=eval o X.env:=by rfl)
  (hfew:((backTo cpos (starEach (e::es) X.env)).all (fun x=>!x.1)&&(backToKw cpos (keywordEach [] X.env)).all (fun x=>x.1.isSome)
   && decide ((e::es).length+([]:List Keyword).length+(if ([]:List Keyword).isEmpty then 0 else 1)<30))=true:=by rfl)
  (hline:(apos.endLine==cpos.line)=true:=by rfl) (hs:starEach (e::es) X.env=(false,eval e X.env)::starEach es X.env:=by rfl) (hplain:(backTo cpos (starEach es X.env)).any (·.1)=false:=by rfl) :
  PE X (.Call (.Attribute o name apos) (e::es) [] cpos) (tBM X.K T r to t):=by
 intro pins s σ H Q I h;refine wpAny_Call_method_late hbase hfew hline rfl (thn (ho pins s σ H _ I h) fun v s1 ⟨x,H1,I1,r1,ty,q1⟩=>?_);obtain ⟨h1,h2⟩:=tyV_is I1 r1 ty;refine ⟨T,id,pa,slot,hty,h1,h2,?_⟩;have hA:=ha cpos pins s1 σ H1 _ I1 q1;rw [hs] at hA ⊢;refine Calls.callWith_builtin (by show (false||(backTo cpos (starEach es X.env)).any (·.1))=false;rw [hplain] <;> rfl) (Calls.evalArgs_plain ?_);exact thn hA fun us s2 ⟨vs,H2,I2,r2,q2⟩=>hm pins s2 σ H2 x vs v us Q I2 r1 r2 q2
end
def MtM (X:Cx) (id:String) (r:V->List V->Hp->VK->Prop):Prop :=
 ∀ (pins:List (Addr×Obj)) (s:Shared) (σ:St) (H:Hp) (x:V) (xs:List V) (v:Value) (us:List Value) (Q:VK),Inv X pins σ H s->RelV x v->Vals xs us->r x xs H Q →
  wpAny (model X.prog X.w) X.A (call (.builtin id) (v::us)) (EP X pins σ Q) X.xe s
theorem Vals.tl {x:V} {xs:List V} {us:List Value} (h:Vals (x::xs) us):∃ u vs,us=u::vs/\RelV x u/\Vals xs vs:=by
 cases h with
 | cons r t=>exact ⟨_,_,rfl,r,t⟩
theorem Vals.one:∀ {x:V} {us:List Value},Vals [x] us->∃ u,us=[u]/\RelV x u:=by
 intro x us h
 cases h with
 | cons r t=>cases t;exact ⟨_,rfl,r⟩
theorem Vals.two:∀ {x y:V} {us:List Value},Vals [x,y] us->∃ u v,us=[u,v]/\RelV x u/\RelV y v:=by
 intro x y us h;obtain ⟨u,vs,rfl,r,t⟩:=Vals.tl h;obtain ⟨v,rfl,q⟩:=Vals.one t;exact ⟨u,v,rfl,r,q⟩
theorem Vals.rep {xs:List V} {us:List Value} (h:Vals xs us):∀ k:Nat,Vals (List.replicate k xs).flatten (List.replicate k us).flatten
 | 0=>.nil
 | k+1=>by
  rw [wk,wk,vt,vt];exact Vals.append h (Vals.rep h k)
theorem xAgt (its:List Value):∀ (k:Nat) (acc:List Value),
  List.foldl (fun x1 x2=>x1++x2) acc.toArray (List.replicate k its.toArray)=(acc++(List.replicate k its).flatten).toArray
 | 0,acc=>by simp
 | k+1,acc=>by
  have e:acc.toArray++its.toArray=(acc++its).toArray:=by simp
  have e2:(acc++its)++(List.replicate k its).flatten=acc++(List.replicate (k+1) its).flatten:=by
   rw [wk,vt,yw]
  rw [← e2,← xAgt its k (acc++its),← e,wk,yx]
section
variable {X:Cx} {pins:List (Addr×Obj)} {σ:St} {H:Hp} {s:Shared} {l b:Addr} {xs ys zs:List V}
theorem Inv.lset {its its':List Value} {n:Nat} {f:Array Value->Array Value} {t':Nat} (I:Inv X pins σ H s) (hH:H l=some (.lst xs))
  (e:s.heap.get? l=some { cls:=.type "list",data:=.seq its.toArray n }) (hf:f its.toArray=its'.toArray) (hv:Vals ys its') (hz:ys.length≤sizeLine) :
  Inv X pins σ (upd H l (.lst ys)) { s with heap:=s.heap.update l (Obj.mapSeq f),toks:=t' }:=by
 have q:=PySem.IsL.update e f;rw [hf] at q;refine I.write (x:=l) (e:=l) (by rw [hH];exact trivial) (.inl rfl) (fun b' u hb hu=>(Heap.get?_update_other s.heap (Obj.mapSeq f) (Ne.symm hb)).trans hu) ⟨_,q⟩ ?_;exact ⟨hz,its',_,hv,q⟩
theorem Inv.lnew {its:List Value} {t':Nat} (I:Inv X pins σ H s) (hv:Vals ys its) (hz:ys.length≤sizeLine) :
  Inv X pins σ (upd H s.heap.objs.size (.lst ys)) { s with heap:=s.heap.push { cls:=.type "list",data:=.seq its.toArray },toks:=t' } :=
 I.laid (fun _ _ q=>Heap.get?_push_of_some _ q) (qh _) ⟨hz,its,0,hv,Heap.get?_push_size _ rfl⟩
theorem Inv.fresh (I:Inv X pins σ H s):H s.heap.objs.size=none:=I.hok.fresh (qh _)
theorem Inv.lstM (I:Inv X pins σ H s) (hH:H l=some (.lst xs)):xs.length≤sizeLine/\∃ (its:List Value) (n:Nat),Vals xs its/\xs.length=its.length/\s.heap.get? l=some { cls:=.type "list",data:=.seq its.toArray n }:=by
 obtain ⟨z,its,n,r,e⟩:=I.hok l _ hH;exact ⟨z,its,n,r,r.length,e⟩
theorem xAqa {n:Nat} (h:n≤sizeLine):Builtin.List.listTooLong n=false:=by
 unfold Builtin.List.listTooLong;exact decide_eq_false (by omega)
end
section
variable {X:Cx}
def rAppend:V->List V->Hp->VK->Prop:=fun x vs H Q=>∃ l xs y,x=.ref l/\vs=[y]/\H l=some (.lst xs)/\xs.length<sizeLine/\Q .non (upd H l (.lst (xs++[y])))
theorem xAcf:MtM X "list.append" rAppend:=by
 intro pins s σ H x vs v us Q I rx rv h;obtain ⟨l,xs,y,rfl,rfl,hH,hz,q⟩:=h;cases rx;obtain ⟨u,rfl,ru⟩:=rv.one;obtain ⟨z,its,n,r,hl,e⟩:=I.lstM hH;refine call_meets F.slot_list_append ⟨_,e,rfl⟩ F.entry_list_append (F.args_list_append_2 _ _) (PySem.list_append l its.toArray n u (by rw [zc];omega)) ⟨e,?_⟩;refine ⟨.non,_,I.lset (its':=its++[u]) hH e (by simp) (r.append (.cons ru .nil)) ?_,rfl,q⟩;rw [qv,zk];omega
def rRep:R2:=fun x y H Q=>∃ l k xs,x=.ref l/\y=.int k/\H l=some (.lst xs)/\-(2 ^ 63)≤k/\k<2 ^ 63/\xs.length * k.toNat≤sizeLine ∧
 ∀ p,H p=none->Q (.ref p) (upd H p (.lst (List.replicate k.toNat xs).flatten))
theorem xAsm {α:Type} (xs:List α) (k:Nat):(List.replicate k xs).flatten.length=k * xs.length:=by
 induction k with
 | zero=>simp
 | succ k ih=>rw [wk,vt,qv,ih,Nat.succ_mul,yy]
theorem op_rep:OpR X (binaryOp .Mult) rRep:=by
 intro pins s σ H x y v u Q I rx ry h;obtain ⟨l,k,xs,rfl,rfl,hH,h1,h2,hz,q⟩:=h;cases rx;obtain ⟨t,rfl⟩:=ry;obtain ⟨z,its,n,r,hl,e⟩:=I.lstM hH
 have hlen:its.toArray.size * k.toNat≤sizeLine:=by rw [zc,← hl];exact hz
 have hcap:¬ its.toArray.size * k.toNat>(2 ^ 63 - 1) / 8:=by
  have:(sizeLine:Nat)≤(2 ^ 63 - 1) / 8:=by decide
  omega
 have hfit:¬ (!Builtin.List.listFitsIndex k)=true:=by
  rw [fitsIndex_both h1 h2];exact qp
 have hlong:¬ Builtin.List.listTooLong (its.toArray.size * k.toNat)=true:=by
  rw [xAqa hlen];exact qp
 have hnew:List.foldl (fun x1 x2=>x1++x2) #[] (List.replicate (if its.toArray.isEmpty=true then 0 else k.toNat) its.toArray)=(List.replicate k.toNat its).flatten.toArray:=by
  have f0:∀ m:Nat,List.foldl (fun x1 x2=>x1++x2) #[] (List.replicate m its.toArray)=(List.replicate m its).flatten.toArray:=fun m=>by
   have:=xAgt its m [];rw [List.nil_append] at this;exact this
  rw [f0]
  cases its with
  | nil=>simp
  | cons a r'=>rw [if_neg (by simp)]
 refine wpAny_binaryOp_repeat_ref (T:="list") (U:="int") (by decide) ⟨_,e,rfl⟩ (fun s'=>typeIs_int s' k t) noFill_list_mul F.fills_int_mul F.slot_int_rmul repeat_list F.slot_int_index.lookup
  (call_meets F.slot_int_rmul (typeIs_int s k t) F.entry_int_rmul (F.args_int_rmul_2 _ _) (int___rmul___int_list k t l its.toArray n)
   ⟨e,rfl,⟨_,e,rfl⟩,call_meets F.slot_list_mul ⟨_,e,rfl⟩ F.entry_list_mul (F.args_list_mul_2 _ _) (AutoListH.list___mul___list_int_3 l its.toArray n k t hfit hcap hlong) ⟨e,?_⟩⟩)
 rw [hnew];exact ⟨.ref _,_,I.lnew (t':=s.toks) (r.rep k.toNat) (by rw [xAsm,Nat.mul_comm];exact hz),rfl,q _ I.fresh⟩
end
section
variable {prog:Program} {w:World} {A:Around} {E:Value->Shared->Prop} {s:Shared}
end
section
variable {X:Cx}
end
section
variable {κ:Type} [DecidableEq κ]
def valV (kvs:List (κ×V)) (k:κ):Option V:=(kvs.find? fun kv=>decide (kv.1=k)).map (·.2)
def putK (kvs:List (κ×V)) (k:κ) (v:V):List (κ×V) :=
 if (kvs.any fun kv=>decide (kv.1=k))=true then kvs.map (fun kv=>if kv.1=k then (kv.1,v) else kv) else kvs++[(k,v)]
theorem xAbl {p:κ×V} {r:List (κ×V)} {k:κ} (e:p.1=k):valV (p::r) k=some p.2:=by simp [valV,List.find?_cons,e]
theorem xAbm {p:κ×V} {r:List (κ×V)} {k:κ} (e:¬ p.1=k):valV (p::r) k=valV r k:=by simp [valV,List.find?_cons,e]
theorem xAei (k:κ):∀ kvs:List (κ×V),(kvs.any fun kv=>decide (kv.1=k))=(valV kvs k).isSome
 | []=>rfl
 | p::r=>by
  rw [va]
  by_cases e:p.1=k
  ·simp only [xAbl e,decide_eq_true e,Bool.true_or,Option.isSome_some]
  ·rw [xAbm e,decide_eq_false e,Bool.false_or];exact xAei k r
theorem xAji (k j:κ) (y:V):∀ kvs:List (κ×V),valV (kvs.map fun kv=>if kv.1=k then (kv.1,y) else kv) j=(valV kvs j).map fun x=>if j=k then y else x
 | []=>rfl
 | p::r=>by
  have ih:=xAji k j y r;rw [zh]
  by_cases h:p.1=k
  ·rw [if_pos h]
   by_cases e:p.1=j
   ·rw [xAbl (p:=(p.1,y)) e,xAbl e,ye,if_pos (e.symm.trans h)]
   ·rw [xAbm (p:=(p.1,y)) e,xAbm e,ih]
  ·rw [if_neg h]
   by_cases e:p.1=j
   ·rw [xAbl (p:=p) e,xAbl e,ye,if_neg (fun z=>h (e.trans z))]
   ·rw [xAbm (p:=p) e,xAbm e,ih]
theorem xAgu (k j:κ) (y:V):∀ kvs:List (κ×V),valV kvs k=none->valV (kvs++[(k,y)]) j=if j=k then some y else valV kvs j
 | [],_=>by
  by_cases e:k=j
  ·rw [if_pos e.symm];exact xAbl (p:=(k,y)) e
  ·rw [if_neg (fun z=>e z.symm)];exact xAbm (p:=(k,y)) e
 | p::r,hn=>by
  rw [List.cons_append]
  have hk:¬ p.1=k:=fun z=>by rw [xAbl z] at hn;cases hn
  rw [xAbm hk] at hn;have ih:=xAgu k j y r hn
  by_cases e:p.1=j
  ·rw [xAbl e,xAbl e,if_neg (fun z=>hk (e.trans z))]
  ·rw [xAbm e,xAbm e,ih]
theorem xAjj (kvs:List (κ×V)) (k j:κ) (y:V):valV (putK kvs k y) j=if j=k then some y else valV kvs j:=by
 unfold putK
 by_cases a:(kvs.any fun kv=>decide (kv.1=k))=true
 ·rw [if_pos a,xAji]
  rw [xAei] at a
  by_cases e:j=k
  ·obtain ⟨x,hx⟩:=yu.mp a
   rw [if_pos e,e,hx,ye,if_pos rfl]
  ·rw [if_neg e]
   cases valV kvs j with
   | none=>rfl
   | some x=>rw [ye,if_neg e]
 ·rw [if_neg a]
  refine xAgu k j y kvs ?_;rw [xAei] at a
  cases q:valV kvs k with
  | none=>rfl
  | some x=>rw [q] at a;exact (a rfl).elim
theorem xAcg (kvs:List (κ×V)) (k:κ) (v:V):(putK kvs k v).length≤kvs.length+1:=by
 unfold putK
 split
 ·rw [qg];omega
 ·rw [qv,qy,wv];omega
theorem RelO.isSome_eq {o:Option V} {u:Option Value} (r:RelO o u):o.isSome=u.isSome:=by
 cases o with
 | none=>cases u with
  | none=>rfl
  | some _=>exact (show False from r).elim
 | some _=>cases u with
  | none=>exact (show False from r).elim
  | some _=>rfl
theorem KV.val {kvs:List (κ×V)} {vs:List (κ×Value)} (r:KV kvs vs) (k:κ):RelO (valV kvs k) (valueAt vs k):=by
 unfold KV at r
 induction r with
 | nil=>exact True.intro
 | @cons p q ps qs h t ih =>
  obtain ⟨h1,h2⟩:=h
  by_cases e:p.1=k
  ·have e':q.1=k:=h1.symm.trans e
   have b:valueAt (q::qs) k=some q.2:=by simp [valueAt,List.find?_cons,e']
   rw [xAbl e,b];exact h2
  ·have e':¬ q.1=k:=fun z=>e (h1.trans z)
   have b:valueAt (q::qs) k=valueAt qs k:=by simp [valueAt,List.find?_cons,e']
   rw [xAbm e,b];exact ih
theorem KV.any {kvs:List (κ×V)} {vs:List (κ×Value)} (r:KV kvs vs) (k:κ):(kvs.any fun kv=>decide (kv.1=k))=vs.any fun kv=>decide (kv.1=k):=by
 unfold KV at r
 induction r with
 | nil=>rfl
 | cons h t ih=>rw [va,va,ih,h.1]
theorem KV.repl {kvs:List (κ×V)} {vs:List (κ×Value)} (r:KV kvs vs) (k:κ) {y:V} {u:Value} (ry:RelV y u) :
  KV (kvs.map fun kv=>if kv.1=k then (kv.1,y) else kv) (vs.map fun kv=>if kv.1=k then (kv.1,u) else kv):=by
 unfold KV at r ⊢
 induction r with
 | nil=>exact .nil
 | @cons p q ps qs h t ih =>
  rw [zh,zh];refine .cons ?_ ih;obtain ⟨h1,h2⟩:=h
  by_cases e:p.1=k
  ·rw [if_pos e,if_pos (h1.symm.trans e)];exact ⟨h1,ry⟩
  ·rw [if_neg e,if_neg (fun z=>e (h1.trans z))];exact ⟨h1,h2⟩
theorem KV.put {kvs:List (κ×V)} {vs:List (κ×Value)} (r:KV kvs vs) (k:κ) {y:V} {u:Value} (ry:RelV y u):KV (putK kvs k y) (stored vs k u):=by
 unfold putK stored;rw [r.any k]
 by_cases e:(vs.any fun kv=>decide (kv.1=k))=true
 ·rw [if_pos e,if_pos e];exact r.repl k ry
 ·rw [if_neg e,if_neg e];exact Paired.snoc r ⟨rfl,ry⟩
theorem KV.length {kvs:List (κ×V)} {vs:List (κ×Value)} (r:KV kvs vs):kvs.length=vs.length:=Paired.length r
end
theorem kV_is {P:Program} {w:World} {k:Key} {u:Value} (r:RelV (kV k) u):(mixKind P w).is k u=true:=by
 cases k with
 | inl i=>obtain ⟨t,e⟩:=(show ∃ t,u=Value.int i t from r);subst e;exact xAib P w i t
 | inr x=>obtain ⟨t,e⟩:=(show ∃ t,u=Value.str x t from r);subst e;exact xAic P w x t
theorem xAgv {P:Program} {w:World}:∀ {ks:List Key} {us:List Value},Vals (ks.map kV) us->ItemsAre (mixKind P w) ks us
 | [],_,r=>by rw [yv] at r;cases r;exact .nil
 | k::ks,_,r=>by
  rw [zh] at r
  cases r with
  | cons h t=>exact .cons (kV_is h) (xAgv t)
abbrev KT (H:Hp):List (List Key×V)->List (List Key×Addr×Value)->Prop:=Paired fun p q=>p.1=q.1/\H q.2.1=some (.tup (p.1.map kV))/\RelV p.2 q.2.2
theorem KT.val {H:Hp} {kvs:List (List Key×V)} {xs:List (List Key×Addr×Value)} (r:KT H kvs xs) (k:List Key):RelO (valV kvs k) ((atKey xs k).map (·.2)):=by
 induction r with
 | nil=>exact True.intro
 | @cons p q ps qs h t ih =>
  obtain ⟨h1,_,h2⟩:=h
  by_cases e:p.1=k
  ·have e':q.1=k:=h1.symm.trans e
   have b:atKey (q::qs) k=some q.2:=by simp [atKey,List.find?_cons,e']
   rw [xAbl e,b];exact h2
  ·have e':¬ q.1=k:=fun z=>e (h1.trans z)
   have b:atKey (q::qs) k=atKey qs k:=by simp [atKey,List.find?_cons,e']
   rw [xAbm e,b];exact ih
theorem KT.repl {H:Hp} {kvs:List (List Key×V)} {xs:List (List Key×Addr×Value)} (r:KT H kvs xs) (k:List Key) {y:V} {u:Value} (ry:RelV y u) :
  KT H (kvs.map fun kv=>if kv.1=k then (kv.1,y) else kv) (xs.map (putAt k u)):=by
 induction r with
 | nil=>exact .nil
 | @cons p q ps qs h t ih =>
  rw [zh,zh];refine .cons ?_ ih;obtain ⟨h1,h2,h3⟩:=h;unfold putAt
  by_cases e:p.1=k
  ·rw [if_pos e,if_pos (h1.symm.trans e)];exact ⟨h1,h2,ry⟩
  ·rw [if_neg e,if_neg (fun z=>e (h1.trans z))];exact ⟨h1,h2,h3⟩
theorem KT.put {H:Hp} {kvs:List (List Key×V)} {xs:List (List Key×Addr×Value)} (r:KT H kvs xs) (k:List Key) {b:Addr} {y:V} {u:Value} (hb:H b=some (.tup (k.map kV))) (ry:RelV y u) :
  KT H (putK kvs k y) (storedH xs k b u):=by
 have e:(kvs.any fun kv=>decide (kv.1=k))=(atKey xs k).isSome:=by
  rw [xAei,(r.val k).isSome_eq,Option.isSome_map]
 unfold putK storedH;rw [e]
 by_cases q:(atKey xs k).isSome=true
 ·rw [if_pos q,if_pos q];exact r.repl k ry
 ·rw [if_neg q,if_neg q];exact Paired.snoc r ⟨rfl,hb,ry⟩
theorem KT.keeps {H H':Hp} {kvs:List (List Key×V)} {xs:List (List Key×Addr×Value)} (r:KT H kvs xs) (ht:∀ b ys,H b=some (.tup ys)->H' b=some (.tup ys)):KT H' kvs xs :=
 Paired.mapP r fun _ _ z=>⟨z.1,ht _ _ z.2.1,z.2.2⟩
section
variable {P:Program} {w:World} {H:Hp} {h:Heap} {a:Addr}
theorem rd_of {u:HO} (ok:HOk P w H h) (e:Rd H a u):ObjOk P w H h a u:=e.ok ok
theorem dk_rd {kvs:List (Key×V)} (ok:HOk P w H h) (e:Rd H a (.dK kvs)):kvs.length≤sizeLine/\(a==sysModules)=false/\∃ vs,KV kvs vs/\h.DictOf (mixKind P w) a vs :=
 show ObjOk P w H h a (.dK kvs) from rd_of ok e
theorem dk_of {kvs:List (Key×V)} (ok:HOk P w H h) (e:H a=some (.dK kvs)):kvs.length≤sizeLine/\(a==sysModules)=false/\∃ vs,KV kvs vs/\h.DictOf (mixKind P w) a vs:=dk_rd ok (.inl e)
theorem xAig {ks:List Key} (ok:HOk P w H h) (e:H a=some (.tup (ks.map kV))):(tupleKind (mixKind P w)).is h ks a:=by
 obtain ⟨_,its,r,o,h1,h2,n,h3⟩:=(show ObjOk P w H h a (.tup (ks.map kV)) from ok a _ e);exact ⟨o,its.toArray,n,h1,h2,h3,by simpa using xAgv r⟩
theorem dt_rd {kvs:List (List Key×V)} (ok:HOk P w H h) (e:Rd H a (.dT kvs)):kvs.length≤sizeLine/\(a==sysModules)=false ∧
  ∃ xs,KT H kvs xs/\h.DictOfH (tupleKind (mixKind P w)) a xs:=by
 obtain ⟨z,y,xs,r,o,es,ep,h1,h2,h3,h4,h5⟩:=(show ObjOk P w H h a (.dT kvs) from rd_of ok e);refine ⟨z,y,xs,r,o,es,ep,h1,h2,h3,h4,fun x hx=>?_,h5⟩
 have all:∀ {l:List (List Key×V)} {m:List (List Key×Addr×Value)},KT H l m->∀ x∈m,(tupleKind (mixKind P w)).is h x.1 x.2.1:=by
  intro l m q
  induction q with
  | nil=>intro x hx;exact nomatch hx
  | @cons p q ps qs hq t ih =>
   intro x hx;rcases zg.mp hx with e | hx
   ·subst e
    exact xAig ok (by rw [← hq.1];exact hq.2.1)
   ·exact ih x hx
 exact all r x hx
theorem dt_of {kvs:List (List Key×V)} (ok:HOk P w H h) (e:H a=some (.dT kvs)):kvs.length≤sizeLine/\(a==sysModules)=false ∧
  ∃ xs,KT H kvs xs/\h.DictOfH (tupleKind (mixKind P w)) a xs:=dt_rd ok (.inl e)
end
def DGet (H:Hp) (a:Addr) (y:V) (r:Option V):Prop :=
 (∃ kvs k,Rd H a (.dK kvs)/\y=kV k/\r=valV kvs k)\/∃ kvs k b,Rd H a (.dT kvs)/\y=.ref b/\H b=some (.tup (k.map kV))/\r=valV kvs k
def DPut (H:Hp) (a:Addr) (y v:V) (H':Hp):Prop :=
 (∃ kvs k,H a=some (.dK kvs)/\y=kV k/\kvs.length<sizeLine/\H'=upd H a (.dK (putK kvs k v))) ∨
 ∃ kvs k b,H a=some (.dT kvs)/\y=.ref b/\H b=some (.tup (k.map kV))/\kvs.length<sizeLine/\H'=upd H a (.dT (putK kvs k v))
theorem DGet.k {H:Hp} {a:Addr} {kvs:List (Key×V)} {k:Key} (e:H a=some (.dK kvs)):DGet H a (kV k) (valV kvs k):=.inl ⟨kvs,k,.inl e,rfl,rfl⟩
theorem DGet.t {H:Hp} {a b:Addr} {kvs:List (List Key×V)} {k:List Key} (e:H a=some (.dT kvs)) (eb:H b=some (.tup (k.map kV))):DGet H a (.ref b) (valV kvs k):=.inr ⟨kvs,k,b,.inl e,rfl,eb,rfl⟩
theorem DPut.t {H:Hp} {a b:Addr} {kvs:List (List Key×V)} {k:List Key} {v:V} (e:H a=some (.dT kvs)) (eb:H b=some (.tup (k.map kV))) (hl:kvs.length<sizeLine) :
  DPut H a (.ref b) v (upd H a (.dT (putK kvs k v))):=.inr ⟨kvs,k,b,e,rfl,eb,hl,rfl⟩
section
variable {X:Cx} {pins:List (Addr×Obj)} {σ:St} {H:Hp} {s:Shared} {a:Addr} {y v:V} {u r:Value} {o:Option V} {A:Around} {E:Value->Shared->Prop}
theorem Inv.big (I:Inv X pins σ H s):sysModules<s.heap.objs.size:=by
 have h:mainGlobals<s.heap.objs.size:=(I.mod.glob.keeps I.bk).lt;exact ww (by decide) h
theorem xAmk {Q:Value->Shared->Prop} (hu:A.units+1<cLine) (I:Inv X pins σ H s) (g:DGet H a y (some v)) (ry:RelV y u) (h:∀ w' s',Inv X pins σ H s'->RelV v w'->Q w' s') :
  wpAny (model X.prog X.w) A (getItem (.ref a) u) Q E s:=by
 rcases g with ⟨kvs,k,e,ey,l⟩ | ⟨kvs,k,b,e,ey,eb,l⟩
 ·subst ey
  obtain ⟨z,hd,vs,rel,dd⟩:=dk_rd I.hok e;obtain ⟨w',hw,rw'⟩:=RelO.some_of (v:=v) (o:=valueAt vs k) (by rw [l];exact rel.val k);exact wpAny_getItem_of (kV_is ry) dd.mapOf hw (h w' _ (I.tok _) rw')
 ·subst ey
  cases (show u=Value.ref b from ry);obtain ⟨z,hd,xs,rel,dd⟩:=dt_rd I.hok e;obtain ⟨w',hw,rw'⟩:=RelO.some_of (v:=v) (o:=(atKey xs k).map (·.2)) (by rw [l];exact rel.val k);obtain ⟨p,hp,hp2⟩:=Option.map_eq_some_iff.mp hw;refine wpAny_getItem_heap (tupleKind_room_in1 hu) (xAig I.hok eb) dd hp ?_;rw [hp2];exact h w' _ (I.tok _) rw'
theorem xAjk {h':Heap} {t':Nat} {ob:HO} (I:Inv X pins σ H s) (mu:Mut (H a)) (hs:Heap.SameBut a s.heap h') (he:∃ q,h'.get? a=some q) (new:ObjOk X.prog X.w (upd H a ob) h' a ob) :
  Inv X pins σ (upd H a ob) { s with heap:=h',toks:=t' } :=
 I.write (x:=a) (e:=a) mu (.inl rfl) (fun b q hb z=>(hs.2 b hb).trans z) he new
theorem dk_new {P:Program} {w:World} {H':Hp} {h':Heap} {kvs:List (Key×V)} {vs:List (Key×Value)} (z:kvs.length≤sizeLine) (hd:(a==sysModules)=false) (rel:KV kvs vs) (dd:h'.DictOf (mixKind P w) a vs) :
  ObjOk P w H' h' a (.dK kvs):=⟨z,hd,vs,rel,dd⟩
theorem xAml {H':Hp} {Q:Unit->Shared->Prop} (hu:A.units+1<cLine) (I:Inv X pins σ H s) (g:DPut H a y v H') (ry:RelV y u) (rv:RelV v r) (h:∀ s',Inv X pins σ H' s'->Q () s') :
  wpAny (model X.prog X.w) A (setItem (.ref a) u r) Q E s:=by
 rcases g with ⟨kvs,k,e,ey,l,eH⟩ | ⟨kvs,k,b,e,ey,eb,l,eH⟩
 ·subst ey eH
  obtain ⟨z,hd,vs,rel,dd⟩:=dk_of I.hok e
  have hz:vs.length≤sizeLine:=by rw [← rel.length];exact z
  have hl:(putK kvs k v).length≤sizeLine:=by have:=xAcg kvs k v;omega
  refine wpAny_setItem_pairs (hsz:=hz) (kV_is ry) dd fun h' dd' hs=>h _ ?_
  have he:∃ q,h'.get? a=some q:=let ⟨q,_,_,hq,_⟩:=dd';⟨q,hq⟩
  exact xAjk I (by rw [e];exact True.intro) hs he (dk_new hl hd (rel.put k rv) dd')
 ·subst ey eH
  cases (show u=Value.ref b from ry);obtain ⟨z,hd,xs,rel,dd⟩:=dt_of I.hok e
  have hz:xs.length≤sizeLine:=by rw [← Paired.length rel];exact z
  have hl:(putK kvs k v).length≤sizeLine:=by have:=xAcg kvs k v;omega
  refine wpAny_setItem_heap (hsz:=hz) (tupleKind_room_in1 hu) (xAig I.hok eb) dd fun h' dd' hs=>h _ ?_;obtain ⟨q,es,ep,hq,h2,h3,h4,_,h5⟩:=dd';refine xAjk I (by rw [e];exact True.intro) hs ⟨q,hq⟩ ⟨hl,hd,_,(rel.put k eb rv).keeps fun c ys ec=>?_,q,es,ep,hq,h2,h3,h4,h5⟩;rw [xAah (ne_of ec e (fun z=>nomatch z))];exact ec
end
section
variable {X:Cx} {pins:List (Addr×Obj)} {σ:St} {H:Hp} {s:Shared} {a:Addr} {kvs:List (Key×V)} {k:Key} {u:Value} {A:Around} {E:Value->Shared->Prop}
end
def NoSl (i:Expr):Prop:=∀ ov iv,subscripted i false ov iv=operate [ov,iv] (getItem ov iv)
theorem xAop {prog:Program} {w:World} {A:Around} {E:Value->Shared->Prop} {s:Shared} {env:Env} {value slice:Expr} {pos:Pos} {T id:String} {Q:Value->Shared->Prop}
  (hl:typeLookup (.type T) "__getitem__"=pure (some (.builtin id))) (hs:NoSl slice)
  (h:wpAny (model prog w) A (eval value env) (fun o s₁=>wpAny (model prog w) A (eval slice env) (fun i s₂=>s₂.TypeIs o T/\wpAny (model prog w) A (getItem o i) Q E s₂) E s₁) E s) :
  wpAny (model prog w) A (eval (.Subscript value slice pos) env) Q E s:=by
 refine Subscript_ (wpAny_mono h (fun o s₁ h₁=>wpAny_mono h₁ (fun i s₂ h₂=>?_) fun _ _ x=>x) fun _ _ x=>x);obtain ⟨hT,h₂⟩:=h₂;unfold subscriptTail;refine wpAny_bind ?_;rw [getitemInPython_of_ne hT.not_modules];refine wpAny_bind (wpAny_specialOf hT hl ?_)
 have fin:wpAny (model prog w) A (subscripted slice false o i) (fun r s₃=>wpAny (model prog w) A (letTemporaryGo value o r >>= fun _=>pure r) Q E s₃) E s₂:=by
  rw [hs o i];exact wpAny_operating (wpAny_mono h₂ (fun r s₃ h₃=>wpAny_bind (wpAny_letTemporaryGo (wpAny_pure h₃))) fun _ _ x=>x)
 first
  | exact wpAny_pure (wpAny_bind fin)
  | exact wpAny_bind (wpAny_pure (wpAny_bind fin))
  | exact wpAny_bind fin
theorem xAih {X:Cx} {pins:List (Addr×Obj)} {σ:St} {H:Hp} {s:Shared} {a:Addr} {y:V} {o:Option V} (I:Inv X pins σ H s) (g:DGet H a y o):s.TypeIs (.ref a) "dict":=by
 rcases g with ⟨kvs,k,e,_,_⟩ | ⟨kvs,k,b,e,_,_,_⟩
 ·obtain ⟨_,_,vs,_,dd⟩:=dk_rd I.hok e
  exact dd.typeIs
 ·obtain ⟨_,_,xs,_,dd⟩:=dt_rd I.hok e
  exact dd.typeIs
def tDGet (td ty:TE):TE:=fun σ H Q=>td σ H fun x H1=>ty σ H1 fun y H2=>∃ a v,x=.ref a/\DGet H2 a y (some v)/\Q v H2
def sDPut (td ty tv:TE):TS:=fun D σ H=>tv σ H fun v H1=>td σ H1 fun x H2=>ty σ H2 fun y H3=>∃ a H4,x=.ref a/\DPut H3 a y v H4/\D.nx σ H4
section
variable {X:Cx} {o i e value:Expr} {pos pos' tpos:Pos} {td ty tv:TE}
theorem xAjl (hu:X.A.units+1<cLine) (ho:PE X o td) (hi:PE X i ty) (hs:NoSl i):PE X (.Subscript o i pos) (tDGet td ty):=by
 intro pins s σ H Q I h;refine xAop PySem.F.slot_dict_getitem.lookup hs (thn (ho pins s σ H _ I h) fun u s1 ⟨x,H1,I1,rx,q1⟩=>thn (hi pins s1 σ H1 _ I1 q1) fun iv s2 ⟨y,H2,I2,ry,a,v,ex,g,q2⟩=>?_);subst ex;obtain rfl:u=Value.ref a:=rx;exact ⟨xAih I2 g,xAmk hu I2 g ry fun w' s3 I3 rw'=>⟨v,H2,I3,rw',q2⟩⟩
theorem xAsn (hu:X.A.units+1<cLine) (ho:PE X o td) (hi:PE X i ty) (hv:PE X value tv) (hs:swapsWith value (some (.Subscript o i pos')) pos.line X.env=pure false) :
  PS X (.Assign [.Subscript o i pos'] value pos) (sDPut td ty tv):=by
 intro pins s σ H D I h;refine wpAny_Assign_Subscript (thn (hv pins s σ H _ I h) fun r s1 ⟨v,H1,I1,rv,q1⟩=>thn (ho pins s1 σ H1 _ I1 q1) fun u s2 ⟨x,H2,I2,rx,q2⟩=>thn (hi pins s2 σ H2 _ I2 q2) fun iv s3 ⟨y,H3,I3,ry,a,H4,ex,g,q3⟩=>?_) hs;subst ex;obtain rfl:u=Value.ref a:=rx;exact xAml hu I3 g ry rv fun s4 I4=>⟨σ,H4,I4,q3⟩
end
theorem xAqb {P:Program} {w:World} {H:Hp} (h:Heap) (hb:sysModules<h.objs.size):ObjOk P w H (h.push { cls:=.type "dict",data:=.dict #[] }) h.objs.size (.dT []) :=
 ⟨qu _,beq_eq_false_iff_ne.mpr (Ne.symm (qj hb)),[],.nil,_,#[],0,Heap.get?_push_size _ rfl,⟨rfl,rfl,rfl⟩,rfl,rfl,wx⟩
def tDNewT:TE:=fun _ H Q=>∀ p,H p=none->Q (.ref p) (upd H p (.dT []))
section
variable {X:Cx} {pos:Pos}
theorem xAqc:PE X (.Dict [] [] pos) tDNewT:=fun pins s σ H Q I h =>
 wpAny_Dict_empty ⟨.ref s.heap.objs.size,_,I.laid (a:=s.heap.objs.size) (o:=.dT []) (t':=s.toks) (fun _ _ q=>Heap.get?_push_of_some _ q) (qh _) (xAqb s.heap I.big),rfl,h _ (I.hok.fresh (qh _))⟩
end
section
variable {X:Cx} {pins:List (Addr×Obj)} {σ:St} {H:Hp} {s:Shared} {a:Addr} {y d:V} {u r:Value} {o:Option V} {A:Around} {E:Value->Shared->Prop}
end
section
variable {X:Cx} {o e f:Expr} {apos cpos:Pos} {td ty tx:TE}
end
section
variable {X:Cx} {pins:List (Addr×Obj)} {σ:St} {H:Hp} {s:Shared} {a:Addr} {kvs:List (Key×V)} {A:Around} {E:Value->Shared->Prop}
end
section
variable {X:Cx} {pins:List (Addr×Obj)} {σ:St} {H:Hp} {s:Shared} {a:Addr} {y:V} {u:Value} {A:Around} {E:Value->Shared->Prop}
end
end L2
namespace Att
open PySem PySem.W PySem.Calls PyProof.Rows
theorem xAdt {P:Params} {h:Heap}:∀ (ns:List Int) (vs:List Value),WellAll P h vs (ns.map WData.int)->IntsAre vs ns:=by
 intro ns
 induction ns with
 | nil =>
  intro vs w;rw [yv] at w;cases w;exact .nil
 | cons n ns ih =>
  intro vs w;rw [zh] at w
  cases w with
  | cons a b =>
   cases a;exact .cons _ _ (ih _ b)
theorem xAmm {l:OpenLaw} {n:Nat} (hn:l.most=some n) {P:Params} {h:Heap} {args:List WData} {vals:List Value}
  (hpre:l.row.toRowW.claim.pre args=true) (hwl:WellAll P h vals args) :
  ∃ a vs ns,vals=[Value.ref a]/\args=[WData.list (ns.map WData.int)]/\h.get? a=some { cls:=.type "list",data:=.seq vs.toArray }/\IntsAre vs ns/\ns.length≤n:=by
 have hsh:WShape.hasAll [] args [.list .int]=true:=(pre_splitW hpre).1;have hc:l.pre.holds [] { args:=args }=true:=(pre_splitW hpre).2;obtain ⟨d,r,rfl,h1,h2⟩:=hasAllW_cons hsh;obtain rfl:=hasAllW_nil h2;obtain ⟨xs,rfl,h3⟩:=hasW_list h1;obtain ⟨ns,rfl⟩:=items_int h3
 have hlen:ns.length≤n:=by
  unfold OpenLaw.pre at hc
  have h4:(WTm.not (.lt (.lit (.int (n:Int))) (.len (.arg 0)))).holds [] { args:=[.list (ns.map .int)] }=true:=by
   have h4:=(holds_andW hc).1;rw [hn] at h4;exact h4
  have h5:=condW_of h4 (w_not (w_lt w_lit (w_len_list (w_arg rfl))));rw [qg] at h5;refine Nat.le_of_not_lt fun q=>?_
  have q':(n:Int)<((ns.length:Nat):Int):=by omega
  first
   | (rw [decide_eq_true q'] at h5;exact absurd h5 (by decide))
   | (simp at h5;omega)
 cases hwl with
 | cons w1 w2 =>
  cases w2
  cases w1 with
  | list ho hall=>exact ⟨_,_,ns,rfl,rfl,ho,xAdt ns _ hall,hlen⟩
theorem xAmn (l:OpenLaw) (args:List WData):l.row.toRowW.claim.post args (.bool true) args=true :=
 postW_of (r:=l.row.toRowW) (X:=(true==true))
  (show WShape.has [] (.bool true) .bool=true by first | rfl | decide | simp [WShape.has,WShape.arms,WShape.armsAll])
  (show (WTm.eq .res (.lit (.bool true))).value [] { args:=args,res:=some (.bool true),after:=args }=some (.bool (true==true)) from w_eq_bool (w_res rfl) w_lit) rfl
theorem attach_call {l:OpenLaw} {n:Nat} {q:Program} {loose:List Str} {XP:(Str->Option Value)->Heap->Prop} {YP:World->Heap->Prop} {d:DefRec}
  (hn:l.most=some n) (hdf:d.params.defaults=[])
  (call:∀ (w:World) (s₀ s₁:Shared) (mg mb:Str->Option Value) (fa:Addr) (o:Obj) (pm cd doc:Value) (a:Addr) (vs:List Value) (ns:List Int),
   Ground q loose [] XP w s₀ mg mb s₁.heap->YP w s₁.heap →
   s₁.heap.get? fa=some o->o.data=.func (docDef d.name d.params d.body d.scope pm cd doc)->s₁.heap.CodeRec cd d.name->mg d.name=some (.ref fa) →
   s₁.heap.get? a=some { cls:=.type "list",data:=.seq vs.toArray }->IntsAre vs ns->ns.length≤n->s₁.gens=#[] →
   codeAny (model l.prog w) callerA (.call (.ref fa) ⟨[.ref a],[]⟩) (fun r s'=>r=.ok (.ret (.bool true))/\OldK s₁.heap s'.heap/\s'.os=s₁.os/\AllBare s'.gens) s₁) :
  WalkO q loose XP YP l.row.toRowW d [] (fun f vs=>PySem.call f vs):=by
 intro w s₀ s₁ mg mb G Y fa o pm cd doc dV kV ho hd hcd hD hmg hg args vals as hpre hlay hrd hwl hlo;obtain rfl:dV=.none:=Dflts.none hD hdf;obtain rfl:kV=.none:=Dflts.noKw hD;obtain ⟨a,vs,ns,rfl,rfl,hobj,hints,hlen⟩:=xAmm hn hpre hwl;refine enter_call (codeAny_mono (call w s₀ s₁ mg mb fa o pm cd doc a vs ns G Y ho (fd_plain hd) hcd hmg hobj hints hlen hg) fun r s' hq=>?_);obtain ⟨rfl,h2,h3,h4⟩:=hq;exact ⟨.inl ⟨.bool true,.bool true,[],rfl,fun _=>rfl,.bool true,xAmn l _,fun _=>⟨List.Pairwise.nil,fun _ hm=>(nomatch hm)⟩⟩,h2,h3,h4⟩
section
variable {prog:Program} {w:World} {A:Around} {E:Value->Shared->Prop} {s:Shared} {K:Frag}
end
end Att
namespace L2
open PySem PySem.Spec PyProof.Rows
theorem xAgw:∀ {vs:List Value} {ns:List Int},IntsAre vs ns->Vals (ns.map V.int) vs
 | _,_,.nil=>.nil
 | _,_,.cons n t h=>.cons ⟨t,rfl⟩ (xAgw h)
def Only (H:Hp):Prop:=∀ b,H b=none\/∃ o xs,H b=some (.frz o (.lst xs))
theorem xAqd {P:Program} {w:World} {K:PySem.W.Frag} {mg mb:Str->Option Value} {CX:CXT} {k:Nat} {fa a:Addr} {fd:FuncData} {x:Str} {sp:Sp} {s₁:Shared} {vs:List Value} {ns:List Int}
  (KX:K.In s₁.heap) (hns:s₁.heap.Ns mainGlobals mg) (hb:s₁.heap.Ns builtinsNs mb) (hbb:∀ x:Str,x≠"__name__"->mb x=bootBuiltins x) (hlim:s₁.heap.NoLimit) (hg:s₁.gens=#[])
  (ha:s₁.heap.get? a=some { cls:=.type "list",data:=.seq vs.toArray }) (hi:IntsAre vs ns) (hl:ns.length≤sizeLine) (hr:Room k callerA)
  (F:∀ base:Heap,K.In base->base.Ns mainGlobals mg->FnOk P w K mg base CX k fa fd [x] sp) (hbind:∀ (s:Shared) (u:Value),BindsTo s fd ⟨[u],[]⟩ [(x,u)])
  (hsp:∀ H:Hp,Only H->SqL K H a (ns.map V.int)->sp [.ref a] H (fun v _=>v=.bl true) fun _ _ _=>False)
  (hCX:∀ H e s',CX [] H s₁ (fun _ _ _=>False) e s'->False) :
  codeAny (model P w) callerA (.call (.ref fa) ⟨[.ref a],[]⟩) (fun r s'=>r=.ok (.ret (.bool true))/\OldK s₁.heap s'.heap/\s'.os=s₁.os/\AllBare s'.gens) s₁:=by
 have rv:=xAgw hi;have lenV:=hi.length
 have core:∀ H:Hp,Only H->SqL K H a (ns.map V.int)->HOk P w H s₁.heap->(∀ b,H b≠none->b=a)->(H a≠none->K.lookup a=none) →
   codeAny (model P w) callerA (.call (.ref fa) ⟨[.ref a],[]⟩) (fun r s'=>r=.ok (.ret (.bool true))/\OldK s₁.heap s'.heap/\s'.os=s₁.os/\AllBare s'.gens) s₁:=by
  intro H hO hS hok hA hK;have base_of:∀ {b:Addr} {o:Obj},s₁.heap.get? b=some o->H b=none->(hidT s₁.heap H).get? b=some o:=fun e n=>xApr e n
  have noA:∀ {b:Addr} {o:Obj} {es:Array DictEntry} {ep:Nat},s₁.heap.get? b=some o->o.data=.dict es ep->H b=none:=fun {b o es ep} e d=>by
   cases q:H b with
   | none=>rfl
   | some u =>
    have e':b=a:=hA b (by rw [q];simp);subst e';rw [ha] at e;cases e;have d':Data.seq vs.toArray _=Data.dict es ep:=d;cases d'
  have nsK:∀ {b:Addr} {m:Str->Option Value},s₁.heap.Ns b m->(hidT s₁.heap H).Ns b m:=fun {b m} ⟨o,es,ep,e,d,r⟩=>⟨o,es,ep,base_of e (noA e d),d,r⟩
  have hKb:K.In (hidT s₁.heap H):=fun b o e=>base_of (KX b o e) (by
   cases q:H b with
   | none=>rfl
   | some u =>
    have e':b=a:=hA b (by rw [q];simp);subst e'
    rw [hK (by rw [q];simp)] at e;cases e)
  have hM:Mod K mg (hidT s₁.heap H):=⟨hKb,nsK hns,⟨mb,nsK hb,hbb⟩,let ⟨mc,h1,h2⟩:=hlim;⟨mc,nsK h1,h2⟩⟩;have e0:Env0 P w K mg (hidT s₁.heap H) callerA [] s₁ H:=⟨rfl,hM,fun b o e=>xAry e,Nat.le_of_eq (xAma _ _),trivial,fun b hb=>absurd (show b∈([]:List Addr) from hb) (by simp),hok,.of_eq hg⟩;refine codeAny_mono ((F _ hKb (nsK hns)).run callerA [] s₁ H ⟨[.ref a],[]⟩ [.ref a] [.ref a] _ _ hr e0 (hbind s₁ (.ref a)) (.cons rfl .nil) (hsp H hO hS)) fun r s' h=>?_
  cases r with
  | error e=>exact (hCX H e s' h).elim
  | ok fl =>
   cases fl with
   | next=>exact False.elim h
   | brk=>exact False.elim h
   | cont=>exact False.elim h
   | ret u =>
    obtain ⟨v,H',os,bare,un,hok',r',q⟩:=h;have q':v=.bl true:=q;subst q';obtain rfl:u=Value.bool true:=r';refine ⟨rfl,OldK.of_keep fun b o e=>?_,os,bare⟩
    cases q:H b with
    | none=>exact un.keep b o e q (by intro z;exact absurd (show b∈([]:List Addr) from z) (by simp)) (by simp)
    | some u =>
     rcases hO b with z | ⟨ob,xs,z⟩
     ·rw [q] at z;cases z
     ·have z2:=un.frzs b ob _ z
      obtain ⟨e1,_⟩:=hok b _ z;obtain ⟨e2,_⟩:=hok' b _ z2;rw [e] at e1;cases e1;exact e2
 cases hk:K.lookup a with
 | some o =>
  have e:=KX a o hk;rw [ha] at e;cases e;refine core (fun _=>none) (fun _=>.inl rfl) (.inr ⟨_,vs.toArray,_,hk,rfl,rfl,rfl,by rw [List.size_toArray,lenV];exact hl,by simpa using rv⟩) (fun b u z=>by have z':(none:Option HO)=some u:=z;cases z') (fun b z=>absurd rfl z) fun z=>absurd rfl z
 | none =>
  refine core (fun b=>if b=a then some (.frz { cls:=.type "list",data:=.seq vs.toArray } (.lst (ns.map V.int))) else none) (fun b=>?_) (.inl (.inr ⟨{ cls:=.type "list",data:=.seq vs.toArray },if_pos rfl⟩)) (fun b u z=>?_) (fun b z=>?_) fun _=>hk
  ·by_cases hb:b=a
   ·exact .inr ⟨_,_,if_pos hb⟩
   ·exact .inl (if_neg hb)
  ·by_cases hb:b=a
   ·have z':=(if_pos hb).symm.trans z
    cases z';subst hb;exact ⟨ha,by rw [qg];exact hl,vs,_,rv,ha⟩
   ·have z':=(if_neg hb).symm.trans z
    cases z'
  ·by_cases hb:b=a
   ·exact hb
   ·exact absurd (if_neg hb) z
theorem xAso {l:PySem.W.OpenLaw} {n k:Nat} {q:Program} {loose:List Str} {XP:(Str->Option Value)->Heap->Prop} {YP:World->Heap->Prop} {d:DefRec} {K:Params->PySem.W.Frag} {CX:World->CXT} {sp:World->Sp} {x:Str}
  (hn:l.most=some n) (hn2:n≤sizeLine) (hdf:d.params.defaults=[]) (hr:Room k callerA)
  (hY:∀ (w:World) (h:Heap),YP w h->(K w.params).In h)
  (F:∀ (w:World) (mg:Str->Option Value) (fa:Addr) (h:Heap),(K w.params).In h->h.Ns mainGlobals mg->mg d.name=some (.ref fa) →
   ∃ fd:FuncData,(∀ (s:Shared) (u:Value),BindsTo s fd ⟨[u],[]⟩ [(x,u)]) ∧
    ∀ base:Heap,(K w.params).In base->base.Ns mainGlobals mg->FnOk l.prog w (K w.params) mg base (CX w) k fa fd [x] (sp w))
  (hsp:∀ (w:World) (H:Hp) (a:Addr) (ns:List Int),ns.length≤n->Only H->SqL (K w.params) H a (ns.map V.int)->sp w [.ref a] H (fun v _=>v=.bl true) fun _ _ _=>False)
  (hCX:∀ (w:World) (H:Hp) (s:Shared) (e:Value) (s':Shared),CX w [] H s (fun _ _ _=>False) e s'->False) :
  PySem.W.WalkO q loose XP YP l.row.toRowW d [] (fun f vs=>PySem.call f vs):=by
 refine Att.attach_call hn hdf fun w s₀ s₁ mg mb fa o pm cd doc a vs ns G Y ho hd hcd hmg hobj hints hlen hg=>?_;have KX:=hY w _ Y;obtain ⟨fd,hb,hF⟩:=F w mg fa _ KX G.T.g hmg;exact xAqd KX G.T.g G.T.b G.T.builtins G.T.nolimit hg hobj hints (qm hlen hn2) hr hF hb (fun H hO hS=>hsp w H a ns hlen hO hS) fun H e s'=>hCX w H s₁ e s'
theorem walk_ofK {l:PySem.W.OpenLaw} {n k:Nat} {q:Program} {loose:List Str} {XP:(Str->Option Value)->Heap->Prop} {YP:World->Heap->Prop} {d:DefRec} {K:Params->PySem.W.Frag} {CX:CXT} {sp:PySem.W.Frag->Sp} {x:Str}
  (hn:l.most=some n) (hn2:n≤sizeLine) (hdf:d.params.defaults=[]) (hr:Room k callerA)
  (hY:∀ (w:World) (h:Heap),YP w h->(K w.params).In h)
  (F:∀ (w:World) (mg:Str->Option Value) (fa:Addr) (h:Heap),(K w.params).In h->h.Ns mainGlobals mg->mg d.name=some (.ref fa) →
   ∃ fd:FuncData,(∀ (s:Shared) (u:Value),BindsTo s fd ⟨[u],[]⟩ [(x,u)]) ∧
    ∀ base:Heap,(K w.params).In base->base.Ns mainGlobals mg->FnOk l.prog w (K w.params) mg base CX k fa fd [x] (sp (K w.params)))
  (hsp:∀ (K:PySem.W.Frag) (H:Hp) (a:Addr) (ns:List Int),ns.length≤n->Only H->SqL K H a (ns.map V.int)->sp K [.ref a] H (fun v _=>v=.bl true) fun _ _ _=>False)
  (hCX:∀ (H:Hp) (s:Shared) (e:Value) (s':Shared),CX [] H s (fun _ _ _=>False) e s'->False) :
  PySem.W.WalkO q loose XP YP l.row.toRowW d [] (fun f vs=>PySem.call f vs) :=
 xAso (K:=K) (CX:=fun _=>CX) (sp:=fun w=>sp (K w.params)) hn hn2 hdf hr hY F (fun w H a ns h1 h2 h3=>hsp (K w.params) H a ns h1 h2 h3) fun _ H s e s'=>hCX H s e s'
def defArgs (s:Stmt):Arguments:=match s with
 | .FunctionDef _ a _ _ _ _ _ _ _ _=>a
 | _=>{ posonlyargs:=[],args:=[],vararg:=none,kwonlyargs:=[],kw_defaults:=[],kwarg:=none,defaults:=[] }
def defBody (s:Stmt):List Stmt:=match s with
 | .FunctionDef _ _ b _ _ _ _ _ _ _=>b
 | _=>[]
def defScope (s:Stmt):Scope:=match s with
 | .FunctionDef _ _ _ _ _ _ sc _ _ _=>sc
 | _=>{ kind:=.function,names:=[],isGenerator:=false,isCoroutine:=false }
abbrev CX0:CXT:=fun _ _ _ _ _ _=>False
abbrev E0:XK:=fun _ _ _=>False
theorem pass0 {X:Cx}:Passes CX0 X E0:=fun _ _ _ _ _ _ _ h=>h.elim
structure Fun (K:PySem.W.Frag) (x qual:Str) (st:Stmt) (f:Addr) (fd:FuncData):Prop where
 ex:∃ (oc:Value) (od:Option Addr) (kV doc pm:Value) (an:Option Addr) (cdv ct:Value) (osl:Array (Option Value)),
  fd=PySem.W.fnOf x qual (defArgs st) (defBody st) (defScope st) .none kV doc pm an cdv ct/\K.lookup f=some ⟨oc,od,.func fd,osl⟩/\PySem.W.codeIn K cdv qual=true
 kp:PySem.W.keepIn K (.ref f)=true
section
variable {P:Program} {w:World} {K:PySem.W.Frag} {mg:Str->Option Value} {base:Heap}
theorem Fun.ok {x qual:Str} {st:Stmt} {f:Addr} {fd:FuncData} {N ps:List Str} {k:Nat} {sp:Sp} (F:Fun K x qual st f fd) (S:FnScope N ps (defScope st)) (len:∀ vs H Q E,sp vs H Q E->vs.length=ps.length)
  (hbody:∀ (cdv:Value) (A:Around) (outer:List Env) (s:Shared) (H:Hp) (vs:List V) (Q:VK) (E:XK),Room k (A.deeper (envOfC qual (defScope st) s.heap.objs.size f cdv))->sp vs H Q E →
   ∃ t,PSs (cxOf CX0 P w K mg base N qual (defScope st) f cdv A outer s H E).nox (defBody st) t/\t { nx:=fun _ H'=>Q .non H',rt:=Q } (start N vs) H):FnOk P w K mg base CX0 (k+1) f fd ps sp:=by
 obtain ⟨oc,od,kV,doc,pm,an,cdv,ct,osl,rfl,lk,hcd⟩:=F.ex;refine fn_of lk hcd S len fun A outer s H vs Q E hr hsp=>?_;obtain ⟨t,h,q⟩:=hbody cdv A outer s H vs Q E hr hsp;exact ⟨t,h.nox,q⟩
theorem Fun.binds {x qual:Str} {st:Stmt} {f:Addr} {fd:FuncData} {ps:List Str} (F:Fun K x qual st f fd)
  (h:∀ (kV doc pm:Value) (an:Option Addr) (cdv ct:Value) (us:List Value),us.length=ps.length->bindArgs (PySem.W.fnOf x qual (defArgs st) (defBody st) (defScope st) .none kV doc pm an cdv ct) ⟨us,[]⟩=pure (ps.zip us)):Binds K fd ps []:=by
 obtain ⟨oc,od,kV,doc,pm,an,cdv,ct,osl,rfl,lk,hcd⟩:=F.ex;exact .all (h kV doc pm an cdv ct)
theorem xAsp {x qual:Str} {st:Stmt} {f:Addr} {oc:Value} {od an:Option Addr} {osl:Array (Option Value)} {kV doc pm cdv ct:Value} (l:K.lookup f=some ⟨oc,od,.func (PySem.W.fnOf x qual (defArgs st) (defBody st) (defScope st) .none kV doc pm an cdv ct),osl⟩)
  (c:PySem.W.codeIn K cdv qual=true) (k:PySem.W.keepIn K (.ref f)=true):Fun K x qual st f (PySem.W.fnOf x qual (defArgs st) (defBody st) (defScope st) .none kV doc pm an cdv ct):=⟨⟨oc,od,kV,doc,pm,an,cdv,ct,osl,rfl,l,c⟩,k⟩
end
theorem hu_of {A:Around} {k:Nat} (hr:Room k A):A.units+1<cLine:=we (Nat.add_le_add_left (by decide:1≤64) _) hr.units
theorem xAak {n:Nat} (h:n≤1000):n<sizeLine:=we h (by decide)
section
variable {X:Cx}
theorem pv (i:Nat) {x:Str} {pos:Pos} (hN:X.N[i]?=some x:=by rfl) (hv:Vis X.env.scope x:=by first | exact Or.inl rfl | exact Or.inr (Or.inl rfl) | exact Or.inr (Or.inr rfl)) (hd:(x==("__debug__":Str))=false:=by decide)
  (hcd:(x==("__classdict__":Str))=false:=by decide):PE X (.Name x pos) (tVar i):=pe_var hN hv hd hcd
end
theorem iteF {A B:Prop} (h:B):if false=true then A else B:=by
 rw [if_neg qp];exact h
theorem iteT {A B:Prop} (h:A):if true=true then A else B:=by
 rw [if_pos rfl];exact h
theorem ite2 {c A B:Prop} [Decidable c] (h1:c->A) (h2:¬ c->B):if c then A else B:=by
 by_cases h:c
 ·rw [if_pos h]
  exact h1 h
 ·rw [if_neg h]
  exact h2 h
def Same (H H':Hp):Prop:=∀ b o,H b=some o->H' b=some o
theorem Same.refl (H:Hp):Same H H:=fun _ _ h=>h
theorem Same.trans {H H1 H2:Hp} (a:Same H H1) (b:Same H1 H2):Same H H2:=fun c o h=>b c o (a c o h)
theorem Same.free {H H':Hp} (e:Same H H') {l:Addr} (h:H' l=Option.none):H l=Option.none:=by
 cases q:H l with
 | none=>rfl
 | some o =>
  rw [e l o q] at h;cases h
theorem Same.seq {K:PySem.W.Frag} {H H':Hp} {a:Addr} {xs:List V} (e:Same H H') (h:SqL K H a xs):SqL K H' a xs:=by
 rcases h with (h | ⟨o,h⟩) | h
 ·exact .inl (.inl (e _ _ h))
 ·exact .inl (.inr ⟨o,e _ _ h⟩)
 ·exact .inr h
section
variable {κ:Type} [DecidableEq κ]
theorem xAjm:∀ {l:List κ} {k:κ},l.Nodup->¬ k∈l->(l++[k]).Nodup
 | [],k,_,_=>by simp
 | a::r,k,h,hk=>by
  obtain ⟨h1,h2⟩:=zo.mp h;show (a::(r++[k])).Nodup;refine zo.mpr ⟨fun m=>?_,xAjm h2 fun m=>hk (zg.mpr (Or.inr m))⟩;rcases zj.mp m with q | q
  ·exact h1 q
  ·exact hk (zg.mpr (Or.inl (zb.mp q).symm))
end
section
variable {prog:Program} {w:World} {A:Around} {R:Result->Shared->Prop} {s:Shared}
theorem xAmo {elt tg iter:Expr} {ifs:List Expr} {sc:Scope} {pos:Pos} {it acc:Value} {ce:Env} (J:Nat->Shared->Prop)
  (turn:∀ n s,J n s->wpAny (model prog w) A (pyNext it) (fun r s1=>match r with
   | none=>R (.ok .next) s1
   | some v=>wpAny (model prog w) A (letOwnedTupleGo tg it v) (fun _ s2=>wpAny (model prog w) A (assign tg ce v) (fun _ s3 =>
     wpAny (model prog w) A (forIn ifs true fun c r=>if r=true then do let ok ← isTrue c ce (eval c ce);pure (ForInStep.yield ok) else pure (ForInStep.yield r)) (fun ok s4 =>
      if ok=true then
       wpAny (model prog w) A (eval elt ce) (fun x s5=>wpAny (model prog w) A (call (.builtin "list.append") [acc,x]) (fun _ s6=>∃ m,m<n/\J m s6) (fun _ _=>False) s5) (fun _ _=>False) s4
      else ∃ m,m<n/\J m s4) (fun _ _=>False) s3) (fun _ _=>False) s2) (fun _ _=>False) s1) (fun _ _=>False) s)
  (n:Nat) (h:J n s):codeAny (model prog w) A (.compLoop (.ListComp elt [⟨tg,iter,ifs,0⟩] sc pos) 0 it acc ce) R s:=by
 refine codeAny_loop rfl J (fun n s hJ=>?_) n h;show wpAny _ A ((compTurn (.ListComp elt [⟨tg,iter,ifs,0⟩] sc pos) 0 it acc ce).onRaise (fun x=>do noteFrame x ce;theTreesLotGoes x)) _ _ s;refine wpAny_noted ?_;rw [compTurn_list];refine wpAny_bind (wpAny_standAt (wpAny_bind (wpAny_mono (turn n s hJ) (fun r s1 h1=>?_) fun _ _ f=>f.elim)))
 cases r with
 | none=>exact wpAny_pure h1
 | some v =>
  refine wpAny_bind (wpAny_mono h1 (fun _ s2 h2=>?_) fun _ _ f=>f.elim);refine wpAny_bind (wpAny_mono h2 (fun _ s3 h3=>?_) fun _ _ f=>f.elim);refine wpAny_bind (wpAny_mono h3 (fun ok s4 h4=>?_) fun _ _ f=>f.elim)
  cases ok with
  | false=>exact wpAny_pure ⟨rfl,h4⟩
  | true =>
   refine wpAny_bind (wpAny_bind (wpAny_mono h4 (fun x s5 h5=>?_) fun _ _ f=>f.elim));exact wpAny_bind (wpAny_mono h5 (fun _ s6 h6=>wpAny_pure (wpAny_pure ⟨rfl,h6⟩)) fun _ _ f=>f.elim)
end
def compCx (X:Cx) (N:List Str) (sc:Scope) (cl:List (Str×Addr)) (s:Shared) (H:Hp) (fp:List Addr):Cx where
 prog:=X.prog
 w:=X.w
 K:=X.K
 mg:=X.mg
 base:=X.base
 A:=X.A
 N:=N
 s₀:=s
 H₀:=H
 env:=compEnvC sc cl (s.heap.objs.size+1) X.env
 outer:=X.stack
 stack:=X.stack
 ex:=fp
 fn:=fun _=>false
 calm:=X.calm
 pn:=[]
 xe:=fun _ _=>False
def compSt (own:List Str) (fr:List (Str×Nat)) (σ:St):St:=own.map (fun _=>none)++fr.map fun p=>(σ[p.2]?).join
def KeepS (σ σ':St):Prop:=σ.length=σ'.length/\∀ (i:Nat) v,σ[i]?=some (some v)->σ'[i]?=some (some v)
def Fresh (g:TG) (σ:St):Prop:=∀ x H (Q:St->Hp->Prop),g x σ H Q->g x σ H fun σ' H'=>KeepS σ σ'/\Q σ' H'
theorem KeepS.set {σ:St} {i:Nat} (h:σ[i]?=some none) (v:V):KeepS σ (σ.set i (some v)):=by
 refine ⟨by simp,fun j u e=>?_⟩
 by_cases hj:i=j
 ·subst hj;rw [h] at e;cases e
 ·rw [w6 hj];exact e
theorem xAbg {σ:St} {i:Nat} (h:σ[i]?=some none):Fresh (gName i) σ:=fun x H Q q=>⟨KeepS.set h x,q⟩
theorem xAdj {K:PySem.W.Frag} {σ:St} {i j n:Nat} (hi:σ[i]?=some none) (hj:σ[j]?=some none) (hij:i≠j):Fresh (gTup K n (gCons (gName i) (gCons (gName j) gNil))) σ:=by
 intro x H Q q;obtain ⟨a,xs,e1,e2,e3,v,r,e4,w,r',e5,e6,q⟩:=q;refine ⟨a,xs,e1,e2,e3,v,r,e4,w,r',e5,e6,?_,q⟩;have h1:=KeepS.set hi v;have h2:=KeepS.set (σ:=σ.set i (some v)) (i:=j) (by rw [w6 hij];exact hj) w;exact ⟨h1.1.trans h2.1,fun k u e=>h2.2 k u (h1.2 k u e)⟩
def PTs (X:Cx) (ifs:List Expr) (t:TT):Prop :=
 ∀ (pins:List (Addr×Obj)) (s:Shared) (σ:St) (H:Hp) (Q:Bool->Hp->Prop),Inv X pins σ H s->t σ H Q →
  wpAny (model X.prog X.w) X.A (forIn ifs true fun c r=>if r=true then do let ok ← isTrue c X.env (eval c X.env);pure (ForInStep.yield ok) else pure (ForInStep.yield r)) (TP X pins σ Q) X.xe s
theorem xAcz {X:Cx}:PTs X [] (fun _ H Q=>Q true H):=fun _ _ _ H _ I h=>wpAny_tests_nil ⟨H,I,h⟩
theorem xAjn {X:Cx} {c:Expr} {t:TT} (h:PT X c t):PTs X [c] t:=fun pins s σ H Q I q=>wpAny_tests_one (h pins s σ H Q I q)
def LCb (own:List Str) (fr:List (Str×Nat)) (g:TG) (tt:TT) (te:TE) (σ:St) (Q:VK) (J:It) (H1:Hp):Prop:=∃ W:Nat->Nat->List V->Hp->Prop,(∃ m,W 0 m [] H1)/\∀ i m ys H,W i m ys H →
 (J.stop i H/\∀ p,H p=none->Q (.ref p) (upd H p (.lst ys)))\/(J.go i H/\ys.length<sizeLine/\∀ x H',J.yld i H x H'->g x (compSt own fr σ) H' fun σ2 H2=>tt σ2 H2 fun b H3 =>
  if b=true then te σ2 H3 fun y H4=>∃ m',m'<m/\W (i+1) m' (ys++[y]) H4 else ∃ m',m'<m/\W (i+1) m' ys H3)
def tLC (own:List Str) (fr:List (Str×Nat)) (wi:TI) (g:TG) (tt:TT) (te:TE):TE:=fun σ H Q=>wi σ H fun J H1=>LCb own fr g tt te σ Q J H1
abbrev accObj (us:List Value):Obj:={ cls:=.type "list",data:=.seq us.toArray us.length }
theorem xAqe (us:List Value) (u:Value):({ cls:=.type "list",data:=.seq (us.toArray.push u) (us.length+1) }:Obj)=accObj (us++[u]):=by
 unfold accObj;rw [qv,zk,List.push_toArray]
structure Caps (X:Cx) (sc:Scope) (cl:List (Str×Addr)) (fr:List (Str×Nat)):Prop where
 clos:closureFor sc X.env=pure cl
 sub:∀ x c,cl.lookup x=some c->X.env.cells.lookup x=some c
 has:∀ x,((relabel sc X.env).names.lookup x=some .cell\/(relabel sc X.env).names.lookup x=some .free)->∃ c,cl.lookup x=some c
 cap:∀ p∈fr,X.N[p.2]?=some p.1/\X.env.kindOf p.1≠some .local/\Vis X.env.scope p.1/\((relabel sc X.env).names.lookup p.1=some .cell\/(relabel sc X.env).names.lookup p.1=some .free)
structure CompSc (sc:Scope):Prop where
 kind:sc.kind=.function
 cell:∀ y∈sc.names,y.2≠.cell
 nms:∀ y∈sc.names,y.2=.local->sc.names.lookup y.1=some .local
section
variable {X:Cx}
theorem Inv.stkNot {pins:List (Addr×Obj)} {σ:St} {H:Hp} {s:Shared} (I:Inv X pins σ H s) {b:Addr} (h1:b≠X.env.locals) (h2:b∉X.fs):b∉frs X.stack:=fun z=>by
 rcases zg.mp (I.stkSub b z) with e | e
 ·exact h1 e
 ·exact h2 e
theorem xAjo {own:List Str} {fr:List (Str×Nat)} {σ:St} {N:List Str} (hN:N=own++fr.map (·.1)) {i:Nat} {x:Str} {v:V} (h1:N[i]?=some x) (h2:(compSt own fr σ)[i]?=some (some v)) :
  ∃ p∈fr,p.1=x/\σ[p.2]?=some (some v):=by
 unfold compSt at h2;subst hN
 by_cases hi:i<own.length
 ·rw [List.getElem?_append_left (by simpa using hi),List.getElem?_map] at h2
  rw [qi hi] at h2;cases h2
 ·rw [List.getElem?_append_right (by simpa using hi),List.length_map,List.getElem?_map] at h2
  rw [List.getElem?_append_right (by simpa using hi),List.getElem?_map] at h1
  cases e:fr[i - own.length]? with
  | none=>rw [e] at h1;cases h1
  | some p =>
   rw [e] at h1 h2;refine ⟨p,qo e,Option.some.inj h1,?_⟩;have h2':(σ[p.2]?).join=some v:=Option.some.inj h2
   cases e3:σ[p.2]? with
   | none=>rw [e3] at h2';cases h2'
   | some o=>rw [e3] at h2';rw [show o=some v from h2']
theorem Inv.block {pins:List (Addr×Obj)} {σ:St} {H:Hp} {s:Shared} {own:List Str} {fr:List (Str×Nat)} {sc:Scope} {cl:List (Str×Addr)} {fp:List Addr} {h1:Heap} {m:Str->Option Value} {tk:Nat}
  (I:Inv X pins σ H s) (hf:∀ b∈fp,FpOk X pins H b) (hfl:∀ b∈fp,b<s.heap.objs.size) (S:CompSc sc) (C:Caps X sc cl fr)
  (old:∀ b o,s.heap.get? b=some o->h1.get? b=some o) (hn:h1.Ns (s.heap.objs.size+1) m) (hD:h1.get? s.heap.objs.size=some (accObj [])) :
  Inv (compCx X (own++fr.map (·.1)) sc cl s H fp) [(s.heap.objs.size,accObj [])] (compSt own fr σ) H { s with heap:=h1,toks:=tk }:=by
 have cellLt:∀ x c,cl.lookup x=some c->c<s.heap.objs.size:=fun x c e=>by
  obtain ⟨v,z⟩:=I.cell x c (C.sub x c e);exact z.lt
 have sizeC:s.heap.objs.size≤s.heap.objs.size+1:=wu _
 refine ⟨⟨I.ok.mod,S.kind,I.ok.glob,I.ok.blt,sizeC,fun x y c e1 e2=>I.ok.inj x y c (C.sub x c e1) (C.sub y c e2),fun x hx=>C.has x hx,fun _ _ z=>(by cases z),I.ok.hd,I.ok.frames,.inl rfl,fun b hb=>⟨?_,fun x c e z=>?_⟩,
  I.bs,qm I.ok.bsz I.sz,fun b o e hb=>?_,fun b hb z=>?_,I.stack,I.stkFree⟩,rfl,I.bare,Un.kept old,⟨m,hn,fun i x v e1 e2 e3=>?_⟩,fun x c e=>?_,I.hok.fresh sizeC,fun x c e=>I.freeC x c (C.sub x c e),fun p hp=>?_,I.hok.kept old,?_⟩
 ·exact qj (zm (hfl b hb))
 ·exact (hf b hb).2.2.2.2.1 x c (C.sub x c e) z
 ·rcases (hf b hb).2.2.2.1 with z | z
  ·exact I.ok.noex b o e z
  ·exact absurd (qz (Heap.lt_size e) (qm I.ok.bsz z)) (zr _)
 ·exact I.stkNot (hf b hb).2.1 (hf b hb).2.2.1 z
 ·obtain ⟨p,hp,rfl,e4⟩:=xAjo rfl e1 e2
  obtain ⟨c1,c2,c3,c4⟩:=C.cap p hp;obtain ⟨m0,hn0,hl⟩:=I.loc;obtain ⟨u,r,l⟩:=hl p.2 p.1 v c1 e4 c3;refine ⟨u,r,.inr ⟨c4,?_⟩⟩;rcases l with ⟨k,_⟩ | ⟨_,c,hc,ho,hoe,hod⟩
  ·exact absurd k c2
  ·obtain ⟨c',hc'⟩:=C.has p.1 c4
   have:=C.sub p.1 c' hc';rw [hc] at this;cases this;exact ⟨c,hc',ho,old _ _ hoe,hod⟩
 ·obtain ⟨v,o,ho,hd⟩:=I.cell x c (C.sub x c e)
  exact ⟨v,o,old _ _ ho,hd⟩
 ·have hp':p=(s.heap.objs.size,accObj []):=by simpa [compCx] using hp
  subst hp';refine ⟨hD,I.hok.fresh (qh _),?_,?_,fun v z=>by cases z⟩
  ·exact qj (zy _)
  ·exact I.stkNot (za I.lt) (I.nofs (qh _))
 ·show (compSt own fr σ).length=(own++fr.map (·.1)).length
  unfold compSt;rw [qv,qv,qg,qg,qg]
theorem HOk.track {P:Program} {w:World} {H:Hp} {h:Heap} {a:Addr} {o:HO} (x:HOk P w H h) (hn:H a=none) (new:ObjOk P w (upd H a o) h a o):HOk P w (upd H a o) h:=fun b u e=>by
 by_cases hb:b=a
 ·subst hb;rw [xAae] at e;cases e;exact new
 ·rw [xAah hb] at e
  exact (x b u e).stay (fun c v _ q=>q) (fun c q=>by rw [xAah (xAaj q hn)];exact q) fun c xs q=>by rw [xAah (xAaj q hn)];exact q
theorem Inv.unblock {pins:List (Addr×Obj)} {σ:St} {H H3:Hp} {s s4:Shared} {N:List Str} {σ3:St} {sc:Scope} {cl:List (Str×Addr)} {fp:List Addr} {h':Heap} {ys:List V} {us:List Value}
  (I:Inv X pins σ H s) (hf:∀ b∈fp,FpOk X pins H b) (I4:Inv (compCx X N sc cl s H fp) [(s.heap.objs.size,accObj us)] σ3 H3 s4) (hv:Vals ys us) (hz:ys.length≤sizeLine)
  (hs:Heap.SameBut (s.heap.objs.size+1) s4.heap h'):Inv X pins σ (upd H3 s.heap.objs.size (.lst ys)) { s4 with heap:=h' }:=by
 obtain ⟨eD,nD,neD,_,_⟩:=I4.pin (s.heap.objs.size,accObj us) (List.mem_append_right _ (by simp));have eD:s4.heap.get? s.heap.objs.size=some (accObj us):=eD;have nD:H3 s.heap.objs.size=none:=nD;have b4:Un (frs X.stack) fp H H3 s.heap s4.heap:=I4.base;have nC:H3 (s.heap.objs.size+1)=none:=I4.free;have neC:∀ b o,s.heap.get? b=some o->b≠s.heap.objs.size+1:=fun b o e=>qj (zm (Heap.lt_size e));have neD':∀ b o,s.heap.get? b=some o->b≠s.heap.objs.size:=fun b o e=>qj (Heap.lt_size e);have k4:∀ b o,b≠s.heap.objs.size+1->s4.heap.get? b=some o->h'.get? b=some o:=fun b o hb e=>hs.extBut b o hb e
 refine I.call' (s':={ s4 with heap:=h' }) (ch:=fp) I4.os ⟨fun b o e n h1 h2=>k4 b o (neC b o e) (b4.keep b o e n h1 h2),fun b o e n h1 h2=>?_,fun b o e n h2=>?_,fun b o e h2=>?_,
  fun b xs e=>?_,fun b o u e=>?_,fun b ps e=>?_⟩ ?_ I4.bare fun b hb=>⟨(hf b hb).2.2.2.1,(hf b hb).2.1,(hf b hb).2.2.2.2.1,(hf b hb).2.2.2.2.2⟩
 ·obtain ⟨sl,q⟩:=b4.slot b o e n h1 h2
  exact ⟨sl,k4 b _ (neC b o e) q⟩
 ·rw [xAah (neD' b o e)];exact b4.free b o e n h2
 ·obtain ⟨o',q⟩:=b4.there b o e h2
  exact ⟨o',k4 b _ (neC b o e) q⟩
 ·have q:=b4.tups b xs e
  rw [xAah (xAaj q nD)];exact q
 ·have q:=b4.frzs b o u e
  rw [xAah (xAaj q nD)];exact q
 ·obtain ⟨more,q⟩:=b4.tbls b ps e
  exact ⟨more,by rw [xAah (xAaj q nD)];exact q⟩
 ·have hk:HOk X.prog X.w H3 h':=fun b u e=>(I4.hok b u e).stay (fun c v hc q=>k4 c v (fun z=>by
   subst z;rcases hc with hc | hc
   ·subst hc;rw [nC] at e;cases e
   ·rw [nC] at hc;cases hc) q) (fun _ q=>q) fun _ _ q=>q
  refine hk.track nD ⟨hz,us,us.length,hv,k4 _ _ (qj (zy _)) eD⟩
theorem xAgx {elt tg iter:Expr} {ifs:List Expr} {sc:Scope} {pos:Pos} {own:List Str} {fr:List (Str×Nat)} {cl:List (Str×Addr)} {g:TG} {tt:TT} {te:TE} {RR:Value->Addr->Result->Shared->Prop} {E:Value->Shared->Prop}
  {pins:List (Addr×Obj)} {σ:St} {H2:Hp} {s2:Shared} {Q:VK} {it:Addr} {fp:List Addr} {tn:Nat->Heap->Prop} {J:It} (hc:X.calm=true) (S:CompSc sc) (C:Caps X sc cl fr)
  (hg:∀ s H fp,PG (compCx X (own++fr.map (·.1)) sc cl s H fp) tg g) (hfr:∀ σ,Fresh g (compSt own fr σ)) (ht:∀ s H fp,PTs (compCx X (own++fr.map (·.1)) sc cl s H fp) ifs tt)
  (he:∀ s H fp,PE (compCx X (own++fr.map (·.1)) sc cl s H fp) elt te) (I2:Inv X pins σ H2 s2) (T:Turn X.prog X.w X.K tg J fp it tn) (st2:tn 0 s2.heap) (f2:∀ b∈fp,FpOk X pins H2 b) (hW:LCb own fr g tt te σ Q J H2)
  (hRR:∀ s5 H4 ys us,Inv (compCx X (own++fr.map (·.1)) sc cl s2 H2 fp) [(s2.heap.objs.size,accObj us)] (compSt own fr σ) H4 s5->Vals ys us->ys.length≤sizeLine->(∀ p,H4 p=none->Q (.ref p) (upd H4 p (.lst ys))) →
   RR (.ref s2.heap.objs.size) (s2.heap.objs.size+1) (.ok .next) s5) :
  wpAny (model X.prog X.w) X.A (newList []) (fun acc s3=>wpAny (model X.prog X.w) X.A (newFunctionEnv sc X.env.globals cl [] X.env.qual none .none (some X.env)) (fun ce s4 =>
   codeAny (model X.prog X.w) X.A (.compStart (.ListComp elt [⟨tg,iter,ifs,0⟩] sc pos) 0 (.ref it) acc { ce with scope:=relabel sc X.env }) (RR acc ce.locals) s4) E s3) E s2:=by
 obtain ⟨W,⟨m0,w0⟩,turn⟩:=hW
 have fpl:∀ b∈fp,b<s2.heap.objs.size:=fun b hb=>by
  obtain ⟨o,e,_⟩:=T.obj _ _ st2 b hb;exact Heap.lt_size e
 refine wpAny_newObj_type (wpAny_newFunctionEnv S.cell (by intro y hy;simp at hy) (fun h₁ hns₁ hsb₁=>?_) S.kind);dsimp only at hns₁ hsb₁ ⊢;generalize hH2:s2.heap.push { cls:=.type "list",dict:=none,data:=.seq ([]:List Value).toArray }=G at hns₁ hsb₁ ⊢
 have hC:G.objs.size=s2.heap.objs.size+1:=by rw [← hH2,Heap.size_push]
 rw [hC] at hns₁ hsb₁ ⊢
 have old:∀ b o,s2.heap.get? b=some o->h₁.get? b=some o:=fun b o e=>by
  exact hsb₁.extBut b o (qj (zm (Heap.lt_size e))) (Heap.get?_push_of_some _ (hH2▸Heap.get?_push_of_some _ e))
 have hacc:h₁.get? s2.heap.objs.size=some (accObj []):=hsb₁.extBut _ _ (qj (zy _)) (Heap.get?_push_of_some _ (hH2▸Heap.get?_push_size _ rfl));have I3:=I2.block (own:=own) (tk:=s2.toks+([]:List (Str×Value)).length) f2 fpl S C old hns₁ hacc
 have stat:∀ {H':Hp} {us:List Value},(∀ b∈fp,H' b=none)->∀ b∈fp,FpOk (compCx X (own++fr.map (·.1)) sc cl s2 H2 fp) [(s2.heap.objs.size,accObj us)] H' b:=fun {H' us} hn b hb=>by
  obtain ⟨_,g1,g2,g3,g4,g5⟩:=f2 b hb;have hbl:=fpl b hb;refine ⟨hn b hb,?_,I2.stkNot g1 g2,.inl hb,fun x c e=>g4 x c (C.sub x c e),fun p hp=>?_⟩
  ·exact qj (zm hbl)
  ·have hp':p=(s2.heap.objs.size,accObj us):=by simpa [compCx] using hp
   subst hp';exact za hbl
 have loop:∀ s3:Shared,s3={ s2 with heap:=h₁,toks:=s2.toks+([]:List (Str×Value)).length } →
   codeAny (model X.prog X.w) X.A (.compLoop (.ListComp elt [⟨tg,iter,ifs,0⟩] sc pos) 0 (.ref it) (.ref s2.heap.objs.size) (compEnvC sc cl (s2.heap.objs.size+1) X.env))
    (RR (.ref s2.heap.objs.size) (s2.heap.objs.size+1)) s3:=by
  rintro s3 rfl
  refine xAmo (fun n s'=>∃ i ys us H',Vals ys us/\Inv (compCx X (own++fr.map (·.1)) sc cl s2 H2 fp) [(s2.heap.objs.size,accObj us)] (compSt own fr σ) H' s'/\tn i s'.heap/\(∀ b∈fp,H' b=none)/\ys.length≤sizeLine/\W i n ys H') ?_ m0
   ⟨0,[],[],H2,.nil,I3,T.keep _ _ _ st2 fun b _ o e=>old b o e,fun b hb=>(f2 b hb).1,qu _,w0⟩
  rintro n s4 ⟨i,ys,us,H4,hv,I4,st4,fr4,hz,w4⟩;rcases turn i n ys H4 w4 with ⟨stop,fin⟩ | ⟨go,hlt,step⟩
  ·refine thn (T.done (compCx X (own++fr.map (·.1)) sc cl s2 H2 fp) rfl rfl rfl hc i _ s4 _ H4 _ I4 (stat fr4) st4 stop) fun r s5 ⟨hr,I5⟩=>?_
   subst hr;exact hRR s5 H4 ys us I5 hv hz fin
  ·refine thn (T.item (compCx X (own++fr.map (·.1)) sc cl s2 H2 fp) rfl rfl rfl hc i _ s4 _ H4 _ I4 (stat fr4) st4 go) fun r s5 ⟨u,hr,h5⟩=>?_
   subst hr;refine thn h5 fun _ s6 ⟨x,H6,I6,r6,y6,st6,fr6⟩=>?_;have I6':=I6.pinned (stat fr6) (T.obj _ _ st6);refine thn (hg s2 H2 fp _ s6 _ H6 x u _ I6' r6 (hfr σ x H6 _ (step x H6 y6))) fun _ s7 ⟨σ7,H7,I7,k7,q7⟩=>?_;refine thn (ht s2 H2 fp _ s7 σ7 H7 _ I7 q7) fun ok s8 ⟨H8,I8,q8⟩=>?_
   have fps:∀ {pins':List (Addr×Obj)} {σ':St} {H':Hp} {s':Shared},Inv (compCx X (own++fr.map (·.1)) sc cl s2 H2 fp) ([(s2.heap.objs.size,accObj us)]++pinsAt fp s6.heap) σ' H' s'->∀ b∈fp,(∀ o,s6.heap.get? b=some o->s'.heap.get? b=some o)/\H' b=none:=fun {pins' σ' H' s'} I' b hb=>by
    obtain ⟨o,e,_⟩:=T.obj _ _ st6 b hb;have z:=I'.pin (b,o) (zt _ (zt _ (xAdg hb e)));exact ⟨fun o' e'=>by rw [e] at e';cases e';exact z.1,z.2.1⟩
   cases ok with
   | false =>
    rw [if_neg qp] at q8;obtain ⟨m',hm,w8⟩:=q8;rw [if_neg qp];exact ⟨m',hm,i+1,ys,us,H8,hv,(I8.unpinned).weak k7.1 k7.2,T.keep _ _ _ st6 fun b hb o e=>(fps (pins':=[]) I8 b hb).1 o e,fun b hb=>(fps (pins':=[]) I8 b hb).2,hz,w8⟩
   | true =>
    rw [if_pos rfl] at q8;rw [if_pos rfl];refine thn (he s2 H2 fp _ s8 σ7 H8 _ I8 q8) fun y s9 ⟨v,H9,I9,r9,m',hm,w9⟩=>?_;have pD:=I9.pin (s2.heap.objs.size,accObj us) (List.mem_append_right _ (List.mem_append_left _ (by simp)));have zD:s9.heap.get? s2.heap.objs.size=some (accObj us):=pD.1;have nD:H9 s2.heap.objs.size=none:=pD.2.1;refine append_at (hsz:=by show us.toArray.size≤sizeLine;rw [zc,← hv.length];exact hz) zD fun h5 hs5 hD5=>?_;have Ia:Inv (compCx X (own++fr.map (·.1)) sc cl s2 H2 fp) (pinsAt fp s6.heap) σ7 H9 s9:=I9.pins_of fun p hp=>I9.pin p (zt _ (zt _ hp));have neD:s2.heap.objs.size≠s2.heap.objs.size+1:=qj (zy _)
    have Ib:Inv (compCx X (own++fr.map (·.1)) sc cl s2 H2 fp) (pinsAt fp s6.heap) σ7 H9 { s9 with heap:=h5,toks:=s9.toks }:=Ia.turned (it:=s2.heap.objs.size) (fun b o hb e=>hs5.extBut b o hb e) nD neD (.inr (qh _)) (fun x c e z=>by
      obtain ⟨v',q⟩:=I2.cell x c (C.sub x c e);have q':=q.lt;rw [z] at q'
      exact zr _ q') fun p hp z=>by
      have hp':p∈pinsAt fp s6.heap:=by simpa [compCx] using hp
      have q':=fpl p.1 (xAgn hp').1;rw [z] at q';exact zr _ q'
    have Ic:Inv (compCx X (own++fr.map (·.1)) sc cl s2 H2 fp) [(s2.heap.objs.size,accObj (us++[y]))] σ7 H9 { s9 with heap:=h5,toks:=s9.toks }:=Ib.pins_of fun p hp=>by
     have hp':p=(s2.heap.objs.size,accObj (us++[y])):=by simpa using hp
     subst hp';exact ⟨hD5.trans (congrArg some (xAqe us y)),nD,neD,pD.2.2.2.1,fun v z=>by cases z⟩
    refine ⟨m',hm,i+1,ys++[v],us++[y],H9,hv.append (.cons r9 .nil),Ic.weak k7.1 k7.2,T.keep _ _ _ st6 fun b hb o e=>?_,fun b hb=>(fps (pins':=[]) I9 b hb).2,?_,w9⟩
    ·exact hs5.extBut b o (qj (fpl b hb)) ((fps (pins':=[]) I9 b hb).1 o e)
    ·rw [qv];exact hlt
 exact codeAny_compStart_list (loop _ rfl) (T.self _ 0 _ _ _ (T.keep _ _ _ st2 fun b _ o e=>old b o e) (loop _ rfl))
theorem xAbp {elt tg iter:Expr} {ifs:List Expr} {sc:Scope} {pos:Pos} {own:List Str} {fr:List (Str×Nat)} {cl:List (Str×Addr)} {wi:TI} {g:TG} {tt:TT} {te:TE} (hc:X.calm=true) (hi:PI X tg iter wi) (S:CompSc sc) (C:Caps X sc cl fr)
  (hg:∀ s H fp,PG (compCx X (own++fr.map (·.1)) sc cl s H fp) tg g) (hfr:∀ σ,Fresh g (compSt own fr σ)) (ht:∀ s H fp,PTs (compCx X (own++fr.map (·.1)) sc cl s H fp) ifs tt)
  (he:∀ s H fp,PE (compCx X (own++fr.map (·.1)) sc cl s H fp) elt te) (hs:∀ x,foldedSetIterable iter X.env x=pure x:=by intro _;rfl) :
  PE X (.ListComp elt [⟨tg,iter,ifs,0⟩] sc pos) (tLC own fr wi g tt te):=by
 intro pins s σ H Q I h;rw [eval_ListComp];refine wpAny_comprehension_free (use:=none) rfl hs C.clos S.kind S.nms (thn (hi pins s σ H _ I h) fun xv s1 h1=>thn h1 fun itv s2 h2=>?_);obtain ⟨it,fp,tn,J,H2,e,I2,T,st2,f2,hW⟩:=h2;subst e;refine xAgx (RR:=fun acc A=>compPost (model X.prog X.w) X.A X.xe none (EP X pins σ Q) acc A) hc S C hg hfr ht he I2 T st2 f2 hW fun s5 H4 ys us I5 hv hz fin=>?_;obtain ⟨m5,hn5,_⟩:=id I5.loc;have nD:H4 s2.heap.objs.size=none:=(I5.pin (s2.heap.objs.size,accObj us) (List.mem_append_right _ (by simp))).2.1;exact ⟨m5,hn5,fun h' hs'=>⟨.ref s2.heap.objs.size,upd H4 s2.heap.objs.size (.lst ys),I2.unblock f2 I5 hv hz hs',rfl,fin _ nD⟩⟩
theorem xAsq {i:Nat} {y:Str} {py spos:Pos} {elt tg iter:Expr} {ifs:List Expr} {sc:Scope} {pos:Pos} {own:List Str} {fr:List (Str×Nat)} {cl:List (Str×Addr)} {wi:TI} {g:TG} {tt:TT} {te:TE} (hN:X.N.Nodup) (hy:X.N[i]?=some y)
  (hx:Loc X.env.scope y) (hc:X.calm=true) (hi:PI X tg iter wi) (S:CompSc sc) (C:Caps X sc cl fr)
  (hg:∀ s H fp,PG (compCx X (own++fr.map (·.1)) sc cl s H fp) tg g) (hfr:∀ σ,Fresh g (compSt own fr σ)) (ht:∀ s H fp,PTs (compCx X (own++fr.map (·.1)) sc cl s H fp) ifs tt)
  (he:∀ s H fp,PE (compCx X (own++fr.map (·.1)) sc cl s H fp) elt te) (hs:∀ x,foldedSetIterable iter X.env x=pure x:=by intro _;rfl)
  (hsw:swapsWith (.ListComp elt [⟨tg,iter,ifs,0⟩] sc pos) (some (.Name y py)) spos.line X.env=pure true:=by rfl) (hf:X.fn y=true\/X.env.scope.names.lookup y=some .local:=by first | exact .inl rfl | exact .inr rfl | assumption) :
  PS X (.Assign [.Name y py] (.ListComp elt [⟨tg,iter,ifs,0⟩] sc pos) spos) (tAsg (tLC own fr wi g tt te) (gName i)):=by
 intro pins s σ H D I h;rw [exec_Assign_Name_used _ _ _ _ hsw];refine wpAny_bind (wpAny_standAt (wpAny_bind ?_));show wpAny _ X.A (do let _ ← comprehension (.ListComp elt [⟨tg,iter,ifs,0⟩] sc pos) sc X.env _ (newList []) false (eval iter X.env) (some (assign (.Name y py) X.env))) _ _ s
 refine wpAny_bind (thn (wpAny_comprehension_free (use:=some (assign (.Name y py) X.env)) (Q:=fun _ s'=>SP X pins D .next s') rfl hs C.clos S.kind S.nms
  (thn (hi pins s σ H _ I h) fun xv s1 h1=>thn h1 fun itv s2 h2=>?_)) fun _ s' hq=>wpAny_pure (wpAny_pure hq))
 obtain ⟨it,fp,tn,J,H2,e,I2,T,st2,f2,hW⟩:=h2;subst e;refine xAgx (RR:=fun acc A=>compPost (model X.prog X.w) X.A X.xe (some (assign (.Name y py) X.env)) (fun _ s'=>SP X pins D .next s') acc A) hc S C hg hfr ht he I2 T st2 f2 hW fun s5 H4 ys us I5 hv hz fin=>?_;obtain ⟨m5,hn5,_⟩:=id I5.loc;have nD:H4 s2.heap.objs.size=none:=(I5.pin (s2.heap.objs.size,accObj us) (List.mem_append_right _ (by simp))).2.1;have nC:H4 (s2.heap.objs.size+1)=none:=I5.free;have I6:Inv X pins σ (upd H4 s2.heap.objs.size (.lst ys)) s5:=I2.unblock f2 I5 hv hz (Heap.SameBut.refl _ _);show wpAny _ X.A (assign (.Name y py) X.env (.ref s2.heap.objs.size)) _ _ s5;refine wpAny_assign_Name (xAgm (v:=.ref s2.heap.objs.size) I6 hN hy hx rfl (fun s7 I7 ⟨a,hsb,ha⟩=>?_) hf);have Clt:s2.heap.objs.size<s2.heap.objs.size+1:=zy _;have neL:s2.heap.objs.size+1≠X.env.locals:=za (ww I2.lt Clt)
 have neCell:∀ x c,X.env.cells.lookup x=some c->c≠s2.heap.objs.size+1:=fun x c e=>by
  obtain ⟨v',q⟩:=I2.cell x c e;exact qj (ww q.lt Clt)
 have neA:s2.heap.objs.size+1≠a:=by
  rcases ha with rfl | ha
  ·exact neL
  ·exact Ne.symm (neCell _ _ ha)
 refine ⟨m5,hn5.sameBut hsb neA,fun h' hs'=>⟨_,_,?_,fin _ nD⟩⟩
 exact I7.turned (it:=s2.heap.objs.size+1) (t':=s7.toks) (fun b o hb e=>hs'.extBut b o hb e) (by rw [xAah (za Clt)];exact nC) neL (.inr (qm I2.sz (zf Clt))) neCell fun p hp z=>by
  have q:=Heap.lt_size (I2.pin p hp).1;rw [z] at q;exact absurd (ww Clt q) (zr _)
end
def Its (z:Str):It:=⟨fun i _=>i<z.cps.size,fun i H x H'=>H'=H/\∃ c,z.cps[i]?=some c/\x=.str ⟨#[c]⟩,fun i _=>z.cps.size≤i⟩
theorem xAdx {h:Heap} {it:Addr} {ty:String} {z:Str} {t:Tok} {i:Nat} (st:h.IsStrIter it ty z t i):∀ b∈[it],∃ o,h.get? b=some o/\∀ v,o.data≠.cell v:=fun b hb=>by
 have e:b=it:=by simpa using hb
 subst e;obtain ⟨o,e,c,d⟩:=st;exact ⟨o,e,fun v z=>by rw [d] at z;cases z⟩
theorem xAmp {P:Program} {w:World} {K:PySem.W.Frag} {tg:Expr} (z:Str) (t:Tok) (it:Addr):Turn P w K tg (Its z) [it] it (fun i h=>h.IsStrIter it "str_ascii_iterator" z t i) where
 mem:=by simp
 obj:=fun i h st=>xAdx st
 keep:=fun i h h' st k=>let ⟨o,ho,r⟩:=st;⟨o,k it (by simp) o ho,r⟩
 item:=by
  intro X hP hw hK hc i pins s σ H E I hf st hg;subst hP hw hK;obtain ⟨f0,f1,f2,f3,f4,f5⟩:=hf it (by simp);have hg:i<z.cps.size:=hg;refine wpAny_pyNext_ascii_item st (c:=z.cps[i]) (by simp [hg]) fun h' st' sb=>?_;have I1:Inv X pins σ H { s with heap:=h',toks:=s.toks+1 }:=I.turned (fun b o hb e=>(sb.2 b hb).trans e) f0 f1 f3 f4 f5;obtain ⟨o,e,c,d⟩:=id st';exact ⟨_,rfl,go_of (s:={ s with heap:=h',toks:=s.toks+1 }) e c d (by decide) ⟨.str ⟨#[z.cps[i]]⟩,H,I1,⟨_,rfl⟩,⟨rfl,_,by simp [hg],rfl⟩,st',fun b hb=>(hf b hb).1⟩⟩
 done:=by
  intro X hP hw hK hc i pins s σ H E I hf st hg;subst hP hw hK;obtain ⟨f0,f1,f2,f3,f4,f5⟩:=hf it (by simp);have hg:z.cps.size≤i:=hg;exact wpAny_pyNext_ascii_end (I.ok.hd hc) st (by simp [hg]) fun h' eb=>⟨rfl,I.turned (t':=s.toks) (fun b o hb e=>eb b o hb e) f0 f1 f3 f4 f5⟩
 self:=fun _ _ _ _ _ st h=>wpAny_pyIter_striter_ascii st h
theorem xAmq {P:Program} {w:World} {K:PySem.W.Frag} {tg:Expr} (z:Str) (t:Tok) (it:Addr):Turn P w K tg (Its z) [it] it (fun i h=>h.IsStrIter it "str_iterator" z t i) where
 mem:=by simp
 obj:=fun i h st=>xAdx st
 keep:=fun i h h' st k=>let ⟨o,ho,r⟩:=st;⟨o,k it (by simp) o ho,r⟩
 item:=by
  intro X hP hw hK hc i pins s σ H E I hf st hg;subst hP hw hK;obtain ⟨f0,f1,f2,f3,f4,f5⟩:=hf it (by simp);have hg:i<z.cps.size:=hg;refine wpAny_pyNext_wide_item st (c:=z.cps[i]) (by simp [hg]) fun h' st' sb=>?_;have I1:Inv X pins σ H { s with heap:=h',toks:=s.toks+1 }:=I.turned (fun b o hb e=>(sb.2 b hb).trans e) f0 f1 f3 f4 f5;obtain ⟨o,e,c,d⟩:=id st';exact ⟨_,rfl,go_of (s:={ s with heap:=h',toks:=s.toks+1 }) e c d (by decide) ⟨.str ⟨#[z.cps[i]]⟩,H,I1,⟨_,rfl⟩,⟨rfl,_,by simp [hg],rfl⟩,st',fun b hb=>(hf b hb).1⟩⟩
 done:=by
  intro X hP hw hK hc i pins s σ H E I hf st hg;subst hP hw hK;obtain ⟨f0,f1,f2,f3,f4,f5⟩:=hf it (by simp);have hg:z.cps.size≤i:=hg;exact wpAny_pyNext_wide_end (I.ok.hd hc) st (by simp [hg]) fun h' eb=>⟨rfl,I.turned (t':=s.toks) (fun b o hb e=>eb b o hb e) f0 f1 f3 f4 f5⟩
 self:=fun _ _ _ _ _ st h=>wpAny_pyIter_striter_wide st h
section
variable {X:Cx} {tg:Expr}
def iStr (tl:TE):TI:=fun σ H R=>tl σ H fun x H1=>∃ z,x=.str z/\R (Its z) H1
theorem pi_str {l:Expr} {tl:TE} (hl:PE X l tl):PI X tg l (iStr tl):=by
 intro pins s σ H R I h;refine thn (hl pins s σ H _ I h) fun v s1 ⟨x,H1,I1,r1,q1⟩=>?_;obtain ⟨z,e,q⟩:=q1;subst e;obtain ⟨t,rfl⟩:=r1
 have fin:∀ b∈[s1.heap.objs.size],FpOk X pins H1 b:=fun b hb=>by
  have e:b=s1.heap.objs.size:=by simpa using hb
  subst e;exact I1.fpOk (qh _) (I1.hok.fresh (qh _))
 cases ha:z.cps.all (·<128)
 ·exact wpAny_pyIter_wide ha ⟨s1.heap.objs.size,[s1.heap.objs.size],_,_,H1,rfl,I1.kept (t':=s1.toks) fun b o e=>Heap.get?_push_of_some _ e,xAmq z t _,⟨_,Heap.get?_push_size _ rfl,rfl,rfl⟩,fin,q⟩
 ·exact wpAny_pyIter_ascii ha ⟨s1.heap.objs.size,[s1.heap.objs.size],_,_,H1,rfl,I1.kept (t':=s1.toks) fun b o e=>Heap.get?_push_of_some _ e,xAmp z t _,⟨_,Heap.get?_push_size _ rfl,rfl,rfl⟩,fin,q⟩
end
section
variable {X:Cx}
theorem xAmr (bs:List Bool):((List.range bs.length).all fun i=>bs.getD i false)=bs.all id:=by
 rw [wq,vv,vv];constructor
 ·intro h b hb
  obtain ⟨i,hi,e⟩:=zu.mp hb;have q:=h i (zp.mpr hi);rw [qq,qi hi] at q;rw [← e];exact q
 ·intro h i hi
  have hi:=zp.mp hi;rw [qq,qi hi];exact h _ (wf hi)
theorem xAqf (hc:X.calm=true):CallR X (.builtin "all") (fun xs H Q=>∃ a bs,xs=[.ref a]/\SqL X.K H a (List.map V.bl bs)/\Q (.bl (bs.all id)) H):=by
 intro pins s σ H xs us Q I r h;obtain ⟨a,bs,rfl,hq,q⟩:=h;obtain ⟨u,rfl,ru⟩:=vals1 r;cases ru;obtain ⟨its,rv,p,hz⟩:=I.list hq
 have hlen:its.length=bs.length:=by rw [← rv.length,qg]
 have hlt:a<s.heap.objs.size:=by obtain ⟨_,e,_⟩:=p.isList;exact Heap.lt_size e
 refine call_all_walk (wpAny_pyIter_list p.isList ?_);refine ⟨s.heap.objs.size,_,_,_,_,_,fun i=>bs.getD i false,rfl,Walks.list (show X.A.in1.handled=none from I.ok.hd hc) s.heap.objs.size a (qj hlt) its.toArray,⟨⟨_,Heap.get?_push_size _ rfl,rfl,rfl⟩,p.isList.push _⟩,?_,fun h' tk hk=>?_⟩
 ·intro i v s' Q' E' hP hQ
  have hP:its.toArray[i]?=some v:=hP
  have hi:its[i]?=some v:=by simpa using hP
  have hb:i<bs.length:=by
   have:=(qx.mp hi).1;omega
  obtain ⟨u,hu,ru⟩:=rv.get (i:=i) (x:=V.bl bs[i]) (by rw [ql,qi hb];rfl);rw [hi] at hu;cases hu;cases ru;refine wpAny_truthy_bool ?_
  have e:bs.getD i false=bs[i]:=by rw [qq,qi hb];rfl
  rw [← e];exact hQ
 ·have e:((List.range its.toArray.size).all fun i=>bs.getD i false)=bs.all id:=by rw [zc,hlen];exact xAmr bs
  rw [e]
  exact ⟨.bl (bs.all id),H,I.kept fun b o e=>hk b o (by
   have:=Heap.lt_size e;intro z;rw [zb.mp z] at this
   exact absurd this (zr _)) (Heap.get?_push_of_some _ e),rfl,q⟩
theorem xAii:CallR X (.builtin "isinstance") (fun xs H Q=>∃ x T t b,xs=[x,.ty T]/\TyOf X.K H x t/\PySem.W.kitOne X.K t (.type T)=some b/\Q (.bl b) H):=by
 intro pins s σ H xs us Q I r h;obtain ⟨x,T,t,b,rfl,ty,e,q⟩:=h;obtain ⟨u,v,rfl,ru,rv⟩:=vals2 r;cases (show v=Value.type T from rv);exact xAmg I ru ty e fun tk=>⟨.bl b,H,I.tok tk,rfl,q⟩
theorem xAqg:OpR X (binaryOp .FloorDiv) (rI (fun _ j=>0<j/\j.natAbs.log2<9000) fun i j=>.int (i / j)):=opI fun i j _ _ _ _ _ hc q=>by
 have h1:(0:Int)<j:=hc.1;exact floordiv_int (by omega) (by rw [Int.fdiv_eq_ediv_of_nonneg i (by omega)];exact q) (.inl (PyProof.noPylong_of_log2 hc.2))
end
section
variable {X:Cx} {pins:List (Addr×Obj)} {σ σ':St} {H H':Hp} {s s':Shared}
theorem Inv.track {a:Addr} {o:HO} (I0:Inv X pins σ H s) (I:Inv X pins σ' H' s') (ha:s.heap.objs.size≤a) (hn:H' a=none) (new:ObjOk X.prog X.w (upd H' a o) s'.heap a o):Inv X pins σ' (upd H' a o) s':=by
 have ne:∀ b,b<s.heap.objs.size->b≠a:=fun b hb z=>by omega
 refine ⟨I.ok,I.os,I.bare,⟨I.base.keep,I.base.slot,fun b u e n hx=>?_,I.base.there,fun b xs e=>?_,fun b u xs e=>?_,fun b ps e=>?_⟩,I.loc,I.cell,?_,fun x c e=>?_,fun p hp=>?_,I.hok.track hn new,I.len⟩
 ·rw [xAah (ne b (qz (Heap.lt_size e) I0.sz))]
  exact I.base.free b u e n hx
 ·have q:=I.base.tups b xs e
  rw [xAah (xAaj q hn)];exact q
 ·have q:=I.base.frzs b u xs e
  rw [xAah (xAaj q hn)];exact q
 ·obtain ⟨more,q⟩:=I.base.tbls b ps e
  exact ⟨more,by rw [xAah (xAaj q hn)];exact q⟩
 ·rw [xAah (ne _ I0.lt)];exact I.free
 ·obtain ⟨v,q⟩:=I0.cell x c e
  rw [xAah (ne _ q.lt)];exact I.freeC x c e
 ·obtain ⟨h1,h2,h3⟩:=I.pin p hp
  refine ⟨h1,?_,h3⟩;rw [xAah (ne _ (Heap.lt_size (I0.pin p hp).1))];exact h2
theorem Inv.turnedN {t':Nat} {h':Heap} {ch:List Addr} (I:Inv X pins σ H s) (hf:∀ b∈ch,FpOk X pins H b) (k:∀ b o,b∉ch->s.heap.get? b=some o->h'.get? b=some o):Inv X pins σ H { s with heap:=h',toks:=t' }:=by
 have nch:∀ b u,H b=some u->b∉ch:=fun b u e z=>by rw [(hf b z).1] at e;cases e
 refine I.step (g':=s.gens) (d':=s.drawn) (ch:=ch) (fun b hb=>⟨(hf b hb).2.2.2.1,(hf b hb).2.1,(hf b hb).2.2.2.2.1,(hf b hb).2.2.2.2.2⟩) (fun b o _ _ hc e _=>k b o hc e) (fun b o _ _ hc e _=>⟨o.slots,k b o hc e⟩) (fun _ _ _ _ n=>n)
  (fun b o hc e=>⟨o,k b o hc e⟩) (fun _ _ e=>e) (fun _ _ _ e=>e) (fun b ps e=>⟨#[],by rw [e];simp⟩) (fun m hm=>?_) (fun b u e=>?_) I.bare
 ·obtain ⟨o,es,ep,ho,r⟩:=hm
  exact ⟨o,es,ep,k _ o (fun z=>(hf _ z).2.1 rfl) ho,r⟩
 ·refine (I.hok b u e).stay (fun c v hc q=>k c v ?_ q) (fun _ q=>q) fun _ _ q=>q
  rcases hc with z | z
  ·rw [z];exact nch b u e
  ·exact nch c _ z
end
def Ite (K:PySem.W.Frag) (a:Addr):It :=
 ⟨fun i H=>∃ xs x,SqL K H a xs/\xs[i]?=some x,fun i H x H'=>∃ p v,H p=none/\(∀ xs,SqL K H a xs->xs[i]?=some v)/\x=.ref p/\H'=upd H p (.tup [.int i,v]),fun i H=>∃ xs,SqL K H a xs/\xs.length=i⟩
theorem xAms {P:Program} {w:World} {K:PySem.W.Frag} {es:List Expr} {k:Nat} {tp:Pos} (a it e:Addr) (hae:a≠e) (hai:a≠it) (hei:e≠it) :
  Turn P w K (.Tuple es k tp) (Ite K a) [e,it] e (fun i h=>(∃ old,IsEnum h e it i old)/\h.IsListIter it a i) where
 mem:=by simp
 obj:=fun i h st b hb=>by
  rcases zg.mp hb with rfl | hb
  ·obtain ⟨⟨old,q⟩,_⟩:=st
   exact ⟨_,q,fun v z=>by cases z⟩
  ·have q:b=it:=by simpa using hb
   subst q;obtain ⟨_,o,q,c,d⟩:=st;exact ⟨o,q,fun v z=>by rw [d] at z;cases z⟩
 keep:=fun i h h' st kk=>⟨let ⟨old,q⟩:=st.1;⟨old,kk e (by simp) _ q⟩,st.2.at fun o q=>kk it (by simp) o q⟩
 item:=by
  intro X hP hw hK hc i pins s σ H E I hf st hg;subst hP hw hK;obtain ⟨xs,x,hq,hx⟩:=hg;obtain ⟨its,rv,p,hz⟩:=I.list hq;obtain ⟨u,hu,ru⟩:=rv.get hx;obtain ⟨⟨old,he⟩,hit⟩:=st
  have hil:i<its.toArray.size:=by
   have:=(qx.mp hu).1;simpa using this
  refine wpAny_pyNext_enum_itemD (Draws.list (show X.A.in1.handled=none from I.ok.hd hc) it a hai its.toArray) he ⟨hit,p.isList⟩ hil hei (by simp [hei,Ne.symm hae]) fun x' h' tk hP' ho st' hT hsz hk=>?_
  have ex:x'=u:=by
   have q:its.toArray[i]?=some x':=hP'
   have q':its[i]?=some x':=by simpa using q
   rw [hu] at q';exact (Option.some.inj q').symm
  subst ex;refine ⟨_,rfl,wpAny_letOwnedTupleGo_enum ho fun h'' he'' hs''=>?_⟩
  have I1:Inv X pins σ H { s with heap:=h'',toks:=tk+1 }:=I.turnedN hf fun b o hb q=>hs''.extBut b o (fun z=>hb (by simp [z])) (hk b o (fun z=>hb (by simp [z])) (fun z=>hb (by simp [z])) q)
  have hTe:s.heap.objs.size≠e:=za (Heap.lt_size he);have eT:h''.get? s.heap.objs.size=some { cls:=.type "tuple",data:=.seq #[.int i tk,x'] }:=hs''.extBut _ _ hTe hT;have nT:H s.heap.objs.size=none:=I.hok.fresh (qh _);refine ⟨.ref s.heap.objs.size,upd H s.heap.objs.size (.tup [.int i,x]),I.track I1 (Nat.le_refl _) nT ⟨?_,[.int i tk,x'],.cons ⟨tk,rfl⟩ (.cons ru .nil),⟨_,eT,rfl,_,rfl⟩⟩,rfl,⟨_,x,nT,fun ys hy=>by rw [I.list_inj hy hq];exact hx,rfl,rfl⟩,⟨⟨_,by simpa using he''⟩,?_⟩,fun b hb=>?_⟩
  ·show 2≤sizeLine
   decide
  ·obtain ⟨o,q,r⟩:=st'.1
   exact ⟨o,hs''.extBut _ _ (Ne.symm hei) q,r⟩
  ·obtain ⟨o,q⟩:∃ o,s.heap.get? b=some o:=by
    rcases zg.mp hb with rfl | hb
    ·exact ⟨_,he⟩
    ·have q:b=it:=by simpa using hb
     subst q;obtain ⟨o,q,_⟩:=hit;exact ⟨o,q⟩
   rw [xAah (qj (Heap.lt_size q))];exact (hf b hb).1
 done:=by
  intro X hP hw hK hc i pins s σ H E I hf st hg;subst hP hw hK;obtain ⟨xs,hq,hx⟩:=hg;obtain ⟨its,rv,p,hz⟩:=I.list hq;obtain ⟨⟨old,he⟩,hit⟩:=st;have hl:=rv.length
  have hi:i=its.toArray.size:=by rw [zc];omega
  have hD:=Draws.list (prog:=X.prog) (w:=X.w) (show X.A.in1.handled=none from I.ok.hd hc) it a hai its.toArray;rw [hi] at hit
  exact wpAny_pyNext_enum_endD hD he ⟨hit,p.isList⟩ fun h' eb=>⟨rfl,I.turnedN hf fun b o hb q=>eb b o (fun z=>hb (by simp [z])) q⟩
 self:=fun _ _ _ _ _ st h=>let ⟨old,q⟩:=st.1;wpAny_pyIter_enum q h
section
variable {X:Cx}
def iEnum (K:PySem.W.Frag) (ta:TA):TI:=fun σ H R=>ta σ H fun vs H1=>∃ a,vs=[.ref a]/\(∃ xs,SqL K H1 a xs)/\R (Ite K a) H1
theorem xAoq {es:List Expr} {k:Nat} {tp:Pos} {a:Expr} {ta:TA} {p pos:Pos} (hg:Gl X "enumerate") (hm:X.mg "enumerate"=none) (ha:PA X [a] ta) (hs:starEach [a] X.env=[(false,eval a X.env)]:=by rfl) :
  PI X (.Tuple es k tp) (.Call (.Name "enumerate" p) [a] [] pos) (iEnum X.K ta):=by
 intro pins s σ H R I h;refine Call_ (xAdr I hg hm boot_enumerate (PyProof.Rows.callWith_type1 (thn (ha pos pins s σ H _ I h) fun us s1 ⟨vs,H1,I1,r1,q1⟩=>?_) hs rfl));obtain ⟨l,e,⟨xs,hq⟩,q⟩:=q1;subst e;obtain ⟨u,rfl,ru⟩:=vals1 r1;cases ru;obtain ⟨its,rv,pl,hz⟩:=I1.list hq
 have hlt:l<s1.heap.objs.size:=by obtain ⟨_,e,_⟩:=pl.isList;exact Heap.lt_size e
 refine call_enumerate_list pl.isList fun h' he hit hsz hk=>?_;refine wpAny_pyIter_enum he ?_;have I2:Inv X pins σ H1 { s1 with heap:=h' }:=I1.kept (t':=s1.toks) hk;refine ⟨s1.heap.objs.size+1,[s1.heap.objs.size+1,s1.heap.objs.size],_,_,H1,rfl,I2,xAms l s1.heap.objs.size (s1.heap.objs.size+1) (qj (zm hlt)) (qj hlt) (za (zy _)),⟨⟨_,he⟩,hit⟩,fun b hb=>?_,q⟩
 have hb':s1.heap.objs.size≤b:=by
  rcases zg.mp hb with rfl | hb
  ·exact wu _
  ·have e:b=s1.heap.objs.size:=by simpa using hb
   exact Nat.le_of_eq e.symm
 exact I1.fpOk hb' (I1.hok.fresh hb')
end
theorem xAqh {K:PySem.W.Frag} {a:Addr} {xs:List V} {g:TG} {tb:TS} {D:Ends} {σ:St} {H:Hp} (Pv:Nat->St->Hp->Prop) (h0:Pv 0 σ H) (hl:∀ i σ H,i≤xs.length->Pv i σ H->SqL K H a xs)
  (hs:∀ i x σ H p,xs[i]?=some x->Pv i σ H->H p=none->g (.ref p) σ (upd H p (.tup [.int i,x])) fun σ2 H2=>tb { D with nx:=Pv (i+1),ct:=Pv (i+1),bk:=D.nx } σ2 H2) (hd:∀ σ H,Pv xs.length σ H->D.nx σ H) :
  ∃ W:Nat->Nat->St->Hp->Prop,(∃ m,W 0 m σ H)/\∀ i m σ H,W i m σ H →
   ((Ite K a).stop i H/\D.nx σ H)\/((Ite K a).go i H/\∃ N:St->Hp->Prop,(∀ σ' H',N σ' H'->∃ m',m'<m/\W (i+1) m' σ' H')/\∀ x H',(Ite K a).yld i H x H'->g x σ H' fun σ2 H2=>tb { D with nx:=N,ct:=N,bk:=D.nx } σ2 H2):=by
 refine ⟨fun i m σ H=>m=xs.length - i/\i≤xs.length/\Pv i σ H,⟨xs.length,by simp,Nat.zero_le _,h0⟩,?_⟩;rintro i m σ H ⟨rfl,hi,p⟩;have q:=hl i σ H hi p
 by_cases hlt:i<xs.length
 ·refine .inr ⟨⟨xs,xs[i],q,by simp [hlt]⟩,Pv (i+1),fun σ' H' p'=>⟨xs.length - (i+1),by omega,rfl,hlt,p'⟩,fun x H' y=>?_⟩
  obtain ⟨b,v,hb,hv,rfl,rfl⟩:=y;exact hs i v σ H b (hv xs q) p hb
 ·have e:i=xs.length:=by omega
  subst e;exact .inl ⟨⟨xs,q,rfl⟩,hd σ H p⟩
theorem xAfv {sc:Scope} {env:Env} {x:Str} {k:NameKind} (h:(relabel sc env).names.lookup x=some k):∃ y∈sc.names,y.2=k\/y.2=.free:=by
 have hm:=PySem.mem_of_lookup h;obtain ⟨y,hy,e⟩:=qk.mp hm;refine ⟨y,hy,?_⟩;obtain ⟨n,k0⟩:=y;dsimp only at e
 split at e
 ·rename_i hc
  rw [zi,zi] at hc;exact .inr (beq_iff_eq.mp hc.1.1)
 ·cases e
  exact .inl rfl
theorem caps0 {X:Cx} {sc:Scope} (h:∀ y∈sc.names,y.2≠.free/\y.2≠.cell):Caps X sc [] [] where
 clos:=closureFor_none fun y hy=>(h y hy).1
 sub:=fun x c e=>by cases e
 has:=fun x e=>by
  exfalso;rcases e with e | e <;> obtain ⟨y,hy,z⟩:=xAfv e <;> rcases z with z | z
  ·exact (h y hy).2 z
  ·exact (h y hy).1 z
  ·exact (h y hy).1 z
  ·exact (h y hy).1 z
 cap:=fun p hp=>nomatch hp
theorem Same.up {H H':Hp} {p:Addr} {o:HO} (e:Same H H') (h:H' p=none):Same H (upd H' p o):=fun b u q=>by
 rw [xAah (xAaj (e b u q) h)];exact e b u q
theorem Same.new {H:Hp} {p:Addr} {o:HO} (h:H p=none):Same H (upd H p o):=(Same.refl H).up h
theorem Same.wr {H H':Hp} {p:Addr} {o:HO} (e:Same H H') (h:H p=none):Same H (upd H' p o):=fun b u q=>by
 rw [xAah (xAaj q h)];exact e b u q
section
variable {X:Cx}
def rIxA (K:PySem.W.Frag):R2:=fun x y H Q=>∃ p xs i,x=.ref p/\y=.int i/\SqL K H p xs/\0≤i/\i<(xs.length:Int)/\∀ v∈xs,Q v H
theorem xAby:IxR X (rIxA X.K):=by
 intro value slice pins s σ H x y v u Q I rx ry h hs;obtain ⟨p,xs,i,ex,ey,hq,h0,h1,q⟩:=h;obtain ⟨j,rfl⟩:=Int.eq_ofNat_of_zero_le h0
 have hj:j<xs.length:=by omega
 exact xAal value slice pins s σ H x y v u Q I rx ry ⟨p,xs,j,xs[j],ex,ey,hq,xAcp (qi hj),q _ (wf hj)⟩ hs
end
theorem xAsr {α:Type} (xs:List α) (i:Int) (h0:0≤i) (h1:i<(xs.length:Int)):∃ v,atI xs i=some v:=by
 obtain ⟨j,rfl⟩:=Int.eq_ofNat_of_zero_le h0
 have hj:j<xs.length:=by omega
 exact ⟨xs[j],xAcp (qi hj)⟩
theorem xAbk (x:Int) {m:Int} (h:0<m):0≤x % m:=Int.emod_nonneg _ (by omega)
theorem xAbn (x:Int) {m:Int} (h:0<m):x % m<m:=Int.emod_lt_of_pos _ h
theorem cm {x m:Int} (h0:0<m) (h1:m≤2 ^ 64):-(2 ^ 64)<x % m/\x % m<2 ^ 64:=by
 have a:=xAbk x h0;have b:=xAbn x h0;omega
theorem xAjp (x y:Str):(x++y).cps.size=x.cps.size+y.cps.size:=Array.size_append
section
variable {X:Cx} {es:List Expr} {t:TA} {pos:Pos}
def tTupA (t:TA):TE:=fun σ H Q=>t σ H fun xs H1=>xs.length≤sizeLine/\∀ p H',H1 p=none->Same H1 H'->H' p=some (.tup xs)->Q (.ref p) H'
def tLstA (t:TA):TE:=fun σ H Q=>t σ H fun xs H1=>xs.length≤sizeLine/\∀ p H',H1 p=none->Same H1 H'->H' p=some (.lst xs)->Q (.ref p) H'
theorem xAan {x1} (h:PA X es t):PE X (.Tuple es x1 pos) (tTupA t):=by
 intro pins s σ H Q I hq;refine wpAny_Tuple_spliced (thn (h pos pins s σ H _ I hq) fun us s1 ⟨xs,H1,I1,r,z,q⟩=>⟨by rw [← r.length];exact z,?_⟩);have hf:H1 s1.heap.objs.size=none:=I1.hok.fresh (qh _);refine ⟨.ref s1.heap.objs.size,upd H1 s1.heap.objs.size (.tup xs),I1.laid (t':=s1.toks) (fun b u e=>Heap.get?_push_of_some _ e) (qh _) ?_,rfl,q _ _ hf (Same.new hf) xAae⟩;exact ⟨z,us,r,⟨_,Heap.get?_push_size _ rfl,rfl,_,rfl⟩⟩
theorem xAbd (h:PA X es t):PE X (.List es pos) (tLstA t):=by
 intro pins s σ H Q I hq;refine wpAny_List_spliced (thn (h pos pins s σ H _ I hq) fun us s1 ⟨xs,H1,I1,r,z,q⟩=>⟨by rw [← r.length];exact z,?_⟩);have hf:H1 s1.heap.objs.size=none:=I1.hok.fresh (qh _);refine ⟨.ref s1.heap.objs.size,upd H1 s1.heap.objs.size (.lst xs),I1.laid (t':=s1.toks) (fun b u e=>Heap.get?_push_of_some _ e) (qh _) ?_,rfl,q _ _ hf (Same.new hf) xAae⟩;exact ⟨z,us,0,r,Heap.get?_push_size _ rfl⟩
theorem OpR.imp {f:Value->Value->Sem Value} {r r':R2} (h:OpR X f r) (i:∀ x y H Q,r' x y H Q->r x y H Q):OpR X f r':=fun pins s σ H x y v u Q I rx ry q=>h pins s σ H x y v u Q I rx ry (i x y H Q q)
theorem SlR.imp {r r':V->Option Int->Option Int->Hp->VK->Prop} (h:SlR X r) (i:∀ x lo hi H Q,r' x lo hi H Q->r x lo hi H Q):SlR X r':=fun pins s σ H x v vl vu lo hi sl Q I rx hs pl pu q=>h pins s σ H x v vl vu lo hi sl Q I rx hs pl pu (i x lo hi H Q q)
def rSlLA (K:PySem.W.Frag):V->Option Int->Option Int->Hp->VK->Prop:=fun x lo hi H Q=>∃ a xs,x=.ref a/\SqL K H a xs/\∀ p H',H p=none->Same H H'->H' p=some (.lst (cutV xs lo hi))->Q (.ref p) H'
theorem xAcc:SlR X (rSlLA X.K):=xAsk.imp fun _ _ _ _ _ ⟨a,xs,h1,h2,q⟩=>⟨a,xs,h1,h2,fun p hp=>q p _ hp (Same.new hp) xAae⟩
end
def clo (env:Env):List (Str×NameKind)->List (Str×Addr)->List (Str×Addr)
 | [],acc=>acc
 | (n,k)::r,acc=>clo env r (if k==.free then (n,(env.cells.lookup n).getD 0)::acc else acc)
theorem xAij {env:Env} {sc:Scope} (h:∀ y∈sc.names,y.2=.free->∃ c,env.cells.lookup y.1=some c):closureFor sc env=pure (clo env sc.names []):=by
 have all:∀ (names:List (Str×NameKind)) (acc:List (Str×Addr)),(∀ y∈names,y.2=.free->∃ c,env.cells.lookup y.1=some c) →
   (forIn names acc fun x r=>(match x with
    | (name,kind)=>if (kind==NameKind.free)=true then do
      let a ← cellOf env name
      pure (ForInStep.yield ((name,a)::r))
     else pure (ForInStep.yield r):Sem (ForInStep (List (Str×Addr)))))=pure (clo env names acc):=by
  intro names
  induction names with
  | nil=>intro acc _;rfl
  | cons x r ih =>
   intro acc hx;obtain ⟨n,k⟩:=x;rw [List.forIn_cons]
   cases hk:(k==NameKind.free) with
   | true =>
    obtain ⟨c,hc⟩:=hx (n,k) qr (beq_iff_eq.mp hk)
    have e:cellOf env n=pure c:=by unfold cellOf;rw [hc]
    dsimp only;rw [if_pos hk,e];refine Eq.trans (by first | rfl | simp) ((ih ((n,c)::acc) fun y hy=>hx y (List.mem_cons_of_mem _ hy)).trans ?_);show _=pure (clo env r (if (k==NameKind.free)=true then (n,(env.cells.lookup n).getD 0)::acc else acc));rw [if_pos hk,show env.cells.lookup n=some c from hc];rfl
   | false =>
    dsimp only;rw [if_neg (by rw [hk];exact qp)];refine Eq.trans (by first | rfl | simp) ((ih acc fun y hy=>hx y (List.mem_cons_of_mem _ hy)).trans ?_);show _=pure (clo env r (if (k==NameKind.free)=true then (n,(env.cells.lookup n).getD 0)::acc else acc));rw [if_neg (by rw [hk];exact qp)]
 have e:=all sc.names [] h
 show ((forIn sc.names [] fun x r=>(match x with
       | (name,kind)=>if (kind==NameKind.free)=true then do
         let a ← cellOf env name
         pure (ForInStep.yield ((name,a)::r))
        else pure (ForInStep.yield r):Sem (ForInStep (List (Str×Addr))))) >>= fun cs=>pure cs)=_
 rw [e];rfl
theorem xAor {env:Env}:∀ {names:List (Str×NameKind)} {acc:List (Str×Addr)},(∀ y∈names,y.2=.free->∃ c,env.cells.lookup y.1=some c)->(∀ x c,acc.lookup x=some c->env.cells.lookup x=some c) →
  ∀ x c,(clo env names acc).lookup x=some c->env.cells.lookup x=some c
 | [],_,_,h=>h
 | (n,k)::r,acc,hx,h=>by
  refine xAor (names:=r) (fun y hy=>hx y (qw _ hy)) fun x c e=>?_
  cases hk:(k==NameKind.free) with
  | true =>
   rw [hk,if_pos rfl] at e;obtain ⟨c',hc⟩:=hx (n,k) qr (beq_iff_eq.mp hk);rw [yz] at e
   cases hxn:(x==n) with
   | true =>
    rw [hxn] at e;have q:=beq_iff_eq.mp hxn;subst q;have e':(env.cells.lookup x).getD 0=c:=Option.some.inj e;have hc':env.cells.lookup x=some c':=hc;rw [hc'] at e' ⊢;exact congrArg some e'
   | false=>rw [hxn] at e;exact h x c e
  | false=>rw [hk,if_neg qp] at e;exact h x c e
theorem xAos {env:Env} {x:Str}:∀ {names:List (Str×NameKind)} {acc:List (Str×Addr)},((x,NameKind.free)∈names\/∃ c,acc.lookup x=some c)->∃ c,(clo env names acc).lookup x=some c
 | [],_,h=>h.elim (fun z=>nomatch z) id
 | (n,k)::r,acc,h=>by
  refine xAos (names:=r) ?_
  have put:∀ c',∃ c,((n,c')::acc).lookup x=some c\/(x≠n/\acc.lookup x=none):=fun c'=>by
   rw [yz]
   cases hxn:(x==n) with
   | true=>exact ⟨c',.inl rfl⟩
   | false =>
    cases ha:acc.lookup x with
    | some c=>exact ⟨c,.inl rfl⟩
    | none=>exact ⟨0,.inr ⟨fun z=>by subst z;simp at hxn,rfl⟩⟩
  rcases h with h | ⟨c,h⟩
  ·rcases zg.mp h with q | q
   ·cases q
    refine .inr ?_;rw [if_pos (by rfl),yz]
    simp
   ·exact .inl q
  ·refine .inr ?_
   cases hk:(k==NameKind.free) with
   | true =>
    rw [if_pos (by rfl)];obtain ⟨c1,q | q⟩:=put ((env.cells.lookup n).getD 0)
    ·exact ⟨c1,q⟩
    ·rw [q.2] at h;cases h
   | false=>rw [if_neg qp];exact ⟨c,h⟩
theorem xAjq {sc:Scope} {env:Env} {x:Str} {k:NameKind} (h:(relabel sc env).names.lookup x=some k):∃ y∈sc.names,y.1=x/\(y.2=k\/y.2=.free):=by
 have hm:=PySem.mem_of_lookup h;obtain ⟨y,hy,e⟩:=qk.mp hm;refine ⟨y,hy,?_⟩;obtain ⟨n,k0⟩:=y;dsimp only at e
 split at e
 ·rename_i hc
  rw [zi,zi] at hc;cases e;exact ⟨rfl,.inr (beq_iff_eq.mp hc.1.1)⟩
 ·cases e
  exact ⟨rfl,.inl rfl⟩
theorem xAss {X:Cx} {sc:Scope} {fr:List (Str×Nat)} (hX:∀ x,X.env.kindOf x=some .cell->∃ c,X.env.cells.lookup x=some c) (hcell:∀ y∈sc.names,y.2≠.cell)
  (hfree:∀ y∈sc.names,y.2=.free->X.env.kindOf y.1=some .cell)
  (hcap:∀ p∈fr,X.N[p.2]?=some p.1/\X.env.kindOf p.1=some .cell/\(relabel sc X.env).names.lookup p.1=some .cell):Caps X sc (clo X.env sc.names []) fr where
 clos:=xAij fun y hy e=>hX _ (hfree y hy e)
 sub:=xAor (fun y hy e=>hX _ (hfree y hy e)) fun x c e=>by cases e
 has:=fun x e=>by
  refine xAos (.inl ?_);rcases e with e | e <;> obtain ⟨y,hy,rfl,z⟩:=xAjq e <;> rcases z with z | z
  ·exact absurd z (hcell y hy)
  ·rw [← z];exact hy
  ·rw [← z];exact hy
  ·rw [← z];exact hy
 cap:=fun p hp=>by
  obtain ⟨h1,h2,h3⟩:=hcap p hp;exact ⟨h1,by rw [h2];decide,.inr (.inl h2),.inl h3⟩
theorem xAct {X:Cx} {sc:Scope} {fr:List (Str×Nat)} (scX:Scope) (N:List Str) (h1:X.env.scope=scX) (h2:X.N=N) (hX:∀ x,X.env.kindOf x=some .cell->∃ c,X.env.cells.lookup x=some c)
  (hcell:∀ y∈sc.names,y.2≠.cell) (hfree:∀ y∈sc.names,y.2=.free->scX.names.lookup y.1=some .cell)
  (hcap:∀ p∈fr,N[p.2]?=some p.1/\scX.names.lookup p.1=some .cell/\(relabel sc { scope:=scX,locals:=0,globals:=0,cells:=[] }).names.lookup p.1=some .cell):Caps X sc (clo X.env sc.names []) fr:=by
 refine xAss hX hcell (fun y hy e=>?_) fun p hp=>?_
 ·show X.env.scope.names.lookup y.1=some .cell
  rw [h1];exact hfree y hy e
 ·obtain ⟨a,b,c⟩:=hcap p hp
  refine ⟨by rw [h2];exact a,?_,?_⟩
  ·show X.env.scope.names.lookup p.1=some .cell
   rw [h1];exact b
  ·have e:relabel sc X.env=relabel sc { scope:=scX,locals:=0,globals:=0,cells:=[] }:=by
    unfold relabel Env.kindOf;rw [h1]
   rw [e];exact c
section
variable {X:Cx}
theorem CallR.imp {f:Value} {r r':List V->Hp->VK->Prop} (h:CallR X f r) (i:∀ xs H Q,r' xs H Q->r xs H Q):CallR X f r':=fun pins s σ H xs us Q I rv q=>h pins s σ H xs us Q I rv (i xs H Q q)
def rTupA (K:PySem.W.Frag):List V->Hp->VK->Prop:=fun xs H Q=>∃ p ys,xs=[.ref p]/\SqL K H p ys/\∀ l H',H l=none->Same H H'->H' l=some (.tup ys)->Q (.ref l) H'
theorem xAdc:CallR X (.type "tuple") (rTupA X.K):=xAfc.imp fun _ _ _ ⟨p,ys,h1,h2,q⟩=>⟨p,ys,h1,.inl ⟨h2,fun l hl=>q l _ hl (Same.new hl) xAae⟩⟩
def rLstA (K:PySem.W.Frag):List V->Hp->VK->Prop:=fun xs H Q=>∃ p ys,xs=[.ref p]/\(SqL K H p ys\/SqT K H p ys)/\∀ l H',H l=none->Same H H'->H' l=some (.lst ys)->Q (.ref l) H'
theorem xAej:CallR X (.type "list") (rLstA X.K):=xAfu.imp fun _ _ _ ⟨p,ys,h1,h2,q⟩=>⟨p,ys,h1,h2,fun l hl=>q l _ hl (Same.new hl) xAae⟩
def rCatTA (K:PySem.W.Frag):R2:=fun x y H Q=>∃ a b xs ys,x=.ref a/\y=.ref b/\SqT K H a xs/\SqT K H b ys/\xs≠[]/\ys≠[]/\xs.length+ys.length≤sizeLine/\∀ l H',H l=none->Same H H'->H' l=some (.tup (xs++ys))->Q (.ref l) H'
theorem xAdk:OpR X (binaryOp .Add) (rCatTA X.K):=xAsi.imp fun _ _ _ _ ⟨a,b,xs,ys,h1,h2,h3,h4,h5,hne,h6,q⟩=>⟨a,b,xs,ys,h1,h2,h3,h4,h5,h6,fun e=>absurd e hne,fun _ p hp=>q p _ hp (Same.new hp) xAae⟩
def rRepA:R2:=fun x y H Q=>∃ l k xs,x=.ref l/\y=.int k/\H l=some (.lst xs)/\-(2 ^ 63)≤k/\k<2 ^ 63/\xs.length * k.toNat≤sizeLine/\∀ p H',H p=none->Same H H'->H' p=some (.lst (List.replicate k.toNat xs).flatten)->Q (.ref p) H'
theorem xAst:OpR X (binaryOp .Mult) rRepA:=op_rep.imp fun _ _ _ _ ⟨l,k,xs,h1,h2,h3,h4,h5,h6,q⟩=>⟨l,k,xs,h1,h2,h3,h4,h5,h6,fun p hp=>q p _ hp (Same.new hp) xAae⟩
end
theorem xAsu {z:Str} {g:TG} {tb:TS} {D:Ends} {σ:St} {H:Hp} (Pv:Nat->St->Hp->Prop) (h0:Pv 0 σ H)
  (hs:∀ i c σ H,z.cps[i]?=some c->Pv i σ H->g (.str ⟨#[c]⟩) σ H fun σ2 H2=>tb { D with nx:=Pv (i+1),ct:=Pv (i+1),bk:=D.nx } σ2 H2) (hd:∀ σ H,Pv z.cps.size σ H->D.nx σ H) :
  ∃ W:Nat->Nat->St->Hp->Prop,(∃ m,W 0 m σ H)/\∀ i m σ H,W i m σ H →
   ((Its z).stop i H/\D.nx σ H)\/((Its z).go i H/\∃ N:St->Hp->Prop,(∀ σ' H',N σ' H'->∃ m',m'<m/\W (i+1) m' σ' H')/\∀ x H',(Its z).yld i H x H'->g x σ H' fun σ2 H2=>tb { D with nx:=N,ct:=N,bk:=D.nx } σ2 H2):=by
 refine ⟨fun i m σ H=>m=z.cps.size - i/\i≤z.cps.size/\Pv i σ H,⟨z.cps.size,by simp,Nat.zero_le _,h0⟩,?_⟩;rintro i m σ H ⟨rfl,hi,p⟩
 by_cases hlt:i<z.cps.size
 ·refine .inr ⟨hlt,Pv (i+1),fun σ' H' p'=>⟨z.cps.size - (i+1),by omega,rfl,hlt,p'⟩,fun x H' y=>?_⟩
  obtain ⟨rfl,c,hc,rfl⟩:=y;exact hs i c σ _ hc p
 ·have e:i=z.cps.size:=by omega
  subst e;exact .inl ⟨qh _,hd σ H p⟩
theorem xAjr {K:PySem.W.Frag} {a:Addr} {xs:List V} {own:List Str} {fr:List (Str×Nat)} {g:TG} {tt:TT} {te:TE} {σ:St} {H:Hp} {Q:VK} (hz:xs.length≤sizeLine) (Pv:Nat->List V->Hp->Prop) (h0:Pv 0 [] H) (hl:∀ i ys H,Pv i ys H->SqL K H a xs)
  (hs:∀ i x ys H' (K1:V->Hp->Prop) (K0:Hp->Prop),xs[i]?=some x->Pv i ys H'->(∀ y H4,Pv (i+1) (ys++[y]) H4->K1 y H4)->(∀ H3,Pv (i+1) ys H3->K0 H3) →
   g x (compSt own fr σ) H' fun σ2 H2=>tt σ2 H2 fun b H3=>if b=true then te σ2 H3 K1 else K0 H3)
  (hd:∀ H' p ys,Pv xs.length ys H'->ys.length≤xs.length->H' p=none->Q (.ref p) (upd H' p (.lst ys))):LCb own fr g tt te σ Q (Itl K a) H:=by
 refine ⟨fun i m ys H=>m=xs.length - i/\i≤xs.length/\ys.length≤i/\Pv i ys H,⟨xs.length,by simp,Nat.zero_le _,Nat.zero_le _,h0⟩,?_⟩;rintro i m ys H ⟨rfl,hi,hy,p⟩
 by_cases hlt:i<xs.length
 ·refine .inr ⟨⟨xs,xs[i],hl _ _ H p,by simp [hlt]⟩,by omega,fun x H' y=>?_⟩
  obtain ⟨rfl,y⟩:=y;have hc:=y xs (hl _ _ _ p)
  refine hs i x ys H' _ _ hc p (fun y H4 p4=>⟨xs.length - (i+1),by omega,rfl,hlt,?_,p4⟩) fun H3 p3=>⟨xs.length - (i+1),by omega,rfl,hlt,by omega,p3⟩
  rw [qv,zk];omega
 ·have e:i=xs.length:=by omega
  subst e;exact .inl ⟨⟨xs,hl _ _ H p,qh _⟩,fun q hq=>hd H q ys p hy hq⟩
theorem xAqi {lo:Int} {n:Nat} {own:List Str} {fr:List (Str×Nat)} {g:TG} {tt:TT} {te:TE} {σ:St} {H:Hp} {Q:VK} (hz:n≤sizeLine) (Pv:Nat->List V->Hp->Prop) (h0:Pv 0 [] H)
  (hs:∀ i ys H' (K1:V->Hp->Prop) (K0:Hp->Prop),i<n->Pv i ys H'->(∀ y H4,Pv (i+1) (ys++[y]) H4->K1 y H4)->(∀ H3,Pv (i+1) ys H3->K0 H3) →
   g (.int (lo+i)) (compSt own fr σ) H' fun σ2 H2=>tt σ2 H2 fun b H3=>if b=true then te σ2 H3 K1 else K0 H3)
  (hd:∀ H' p ys,Pv n ys H'->ys.length≤n->H' p=none->Q (.ref p) (upd H' p (.lst ys))):LCb own fr g tt te σ Q (Itr lo n) H:=by
 refine ⟨fun i m ys H=>m=n - i/\i≤n/\ys.length≤i/\Pv i ys H,⟨n,by simp,Nat.zero_le _,Nat.zero_le _,h0⟩,?_⟩;rintro i m ys H ⟨rfl,hi,hy,p⟩
 by_cases hlt:i<n
 ·refine .inr ⟨hlt,by omega,fun x H' y=>?_⟩
  obtain ⟨rfl,rfl⟩:=y
  refine hs i ys H' _ _ hlt p (fun y H4 p4=>⟨n - (i+1),by omega,rfl,hlt,?_,p4⟩) fun H3 p3=>⟨n - (i+1),by omega,rfl,hlt,by omega,p3⟩
  rw [qv,zk];omega
 ·have e:i=n:=by omega
  subst e;exact .inl ⟨qh _,fun q hq=>hd H q ys p hy hq⟩
section
variable {X:Cx} {pins:List (Addr×Obj)} {σ:St} {H:Hp} {s:Shared}
end
theorem nodup_len {α:Type} [DecidableEq α]:∀ {S ws:List α},S.Nodup->(∀ x∈S,x∈ws)->S.length≤ws.length
 | [],_,_,_=>qu _
 | x::S,ws,nd,h=>by
  have hx:=h x qr;have nd':=zo.mp nd
  have ih:=nodup_len (S:=S) (ws:=ws.erase x) nd'.2 fun y hy=>(List.mem_erase_of_ne (fun (e:y=x)=>nd'.1 (by rw [← e];exact hy))).mpr (h y (qw _ hy))
  have el:=List.length_erase_of_mem hx;have pos:0<ws.length:=List.length_pos_of_mem hx;show S.length+1≤ws.length;omega
section
variable {X:Cx} {K:PySem.W.Frag}
theorem xAsv (h:X.K=K):IxR X (rIxA K):=h▸xAby
theorem xAfw (h:X.K=K):IxR X (rIxL K):=h▸xAal
theorem xAgy (h:X.K=K):IxR X (rIxT K):=h▸xAmi
end
def tDctTA:TE:=fun _ H Q=>∀ p H',H p=none->Same H H'->H' p=some (.dT [])->Q (.ref p) H'
theorem xAqj {X:Cx} {pos:Pos}:PE X (.Dict [] [] pos) tDctTA:=fun pins s σ H Q I h=>xAqc pins s σ H Q I fun p hp=>h p _ hp (Same.new hp) xAae
theorem SqL.same {K:PySem.W.Frag} {H H':Hp} {a:Addr} {xs:List V} (h:SqL K H a xs) (s:Same H H'):SqL K H' a xs:=by
 rcases h with (h | ⟨o,h⟩) | h
 ·exact .inl (.inl (s _ _ h))
 ·exact .inl (.inr ⟨o,s _ _ h⟩)
 ·exact .inr h
def rCatS (K:PySem.W.Frag):R2:=fun x y H Q=>∃ l b xs zs,x=.ref l/\y=.ref b/\SqL K H l xs/\H b=some (.lst zs)/\xs.length+zs.length≤sizeLine/\∀ p H',H p=none->Same H H'->H' p=some (.lst (xs++zs))->Q (.ref p) H'
theorem xAsw {X:Cx}:OpR X (binaryOp .Add) (rCatS X.K):=by
 intro pins s σ H x y v u Q I rx ry h;obtain ⟨l,b,xs,zs,rfl,rfl,hH,hB,hz,q⟩:=h;cases rx;cases ry;obtain ⟨its,r,pl,z⟩:=I.list hH;obtain ⟨⟨cls,dict,data,sl⟩,n,e,c1,c2,c3⟩:=pl;dsimp only at c1 c2 c3;subst c1 c2 c3;obtain ⟨z2,its2,n2,r2,hl2,e2⟩:=I.lstM hB;have hl:=r.length;refine concat_meets ⟨_,e,rfl⟩ ⟨_,e2,rfl⟩ noFill_list_add seq_list_add PySem.F.slot_list_add PySem.F.entry_list_add (PySem.F.args_list_add_2 _ _) (list_addW l b its.toArray its2.toArray n n2 none none sl #[] (by rw [zc,zc];omega)) ⟨e,e2,?_⟩
 have ea:its.toArray++its2.toArray=(its++its2).toArray:=by simp
 rw [ea];exact ⟨.ref _,_,I.lnew (t':=s.toks) (r.append r2) (by rw [qv];omega),rfl,q _ _ I.fresh (Same.new I.fresh) xAae⟩
section
variable {X:Cx}
end
mutual
inductive DV (K:PySem.W.Frag) (H:Hp):V->PyData->Prop
 | non:DV K H .non .none
 | bl (b:Bool):DV K H (.bl b) (.bool b)
 | int (i:Int):DV K H (.int i) (.int i)
 | str (z:Str):DV K H (.str z) (.str z)
 | lst {p:Addr} {xs:List V} {ds:List PyData}:SqL K H p xs->DVs K H xs ds->DV K H (.ref p) (.list ds)
 | tup {p:Addr} {xs:List V} {ds:List PyData}:SqT K H p xs->DVs K H xs ds->DV K H (.ref p) (.tuple ds)
inductive DVs (K:PySem.W.Frag) (H:Hp):List V->List PyData->Prop
 | nil:DVs K H [] []
 | cons {x:V} {xs:List V} {d:PyData} {ds:List PyData}:DV K H x d->DVs K H xs ds->DVs K H (x::xs) (d::ds)
end
section
variable {X:Cx} {pins:List (Addr×Obj)} {σ:St} {H H':Hp} {s:Shared} {K:PySem.W.Frag}
theorem SqT.same {a:Addr} {xs:List V} (h:SqT K H a xs) (s:Same H H'):SqT K H' a xs:=by
 rcases h with (h | ⟨o,h⟩) | h
 ·exact .inl (.inl (s _ _ h))
 ·exact .inl (.inr ⟨o,s _ _ h⟩)
 ·exact .inr h
mutual
theorem DV.same (e:Same H H'):∀ {x:V} {d:PyData},DV K H x d->DV K H' x d
 | _,_,.non=>.non
 | _,_,.bl b=>.bl b
 | _,_,.int i=>.int i
 | _,_,.str z=>.str z
 | _,_,.lst h t=>.lst (h.same e) (DVs.same e t)
 | _,_,.tup h t=>.tup (h.same e) (DVs.same e t)
theorem DVs.same (e:Same H H'):∀ {xs:List V} {ds:List PyData},DVs K H xs ds->DVs K H' xs ds
 | _,_,.nil=>.nil
 | _,_,.cons h t=>.cons (DV.same e h) (DVs.same e t)
end
mutual
theorem DV.reads (I:Inv X pins σ H s):∀ {x:V} {d:PyData} {v:Value},DV X.K H x d->RelV x v->∃ as,Reads s.heap v d as
 | _,_,_,.non,r=>by cases r;exact ⟨_,.none⟩
 | _,_,_,.bl b,r=>by cases r;exact ⟨_,.bool b⟩
 | _,_,_,.int i,r=>by obtain ⟨t,rfl⟩:=r;exact ⟨_,.int i t⟩
 | _,_,_,.str z,r=>by obtain ⟨t,rfl⟩:=r;exact ⟨_,.str z t⟩
 | _,_,_,.lst h t,r=>by
  cases r;obtain ⟨its,rv,⟨o,n,e1,e2,_,e3⟩,_⟩:=I.list h;obtain ⟨as,ra⟩:=DVs.reads I t rv;exact ⟨_,.list e1 e2 e3 (by simpa using ra)⟩
 | _,_,_,.tup h t,r=>by
  cases r;obtain ⟨its,rv,⟨o,e1,e2,n,e3⟩,_⟩:=I.tuple h;obtain ⟨as,ra⟩:=DVs.reads I t rv;exact ⟨_,.tuple e1 e2 e3 (by simpa using ra)⟩
theorem DVs.reads (I:Inv X pins σ H s):∀ {xs:List V} {ds:List PyData} {vs:List Value},DVs X.K H xs ds->Vals xs vs->∃ as,ReadsAll s.heap vs ds as
 | _,_,_,.nil,r=>by cases r;exact ⟨_,.nil⟩
 | _,_,_,.cons h t,r=>by
  cases r with
  | cons r1 r2 =>
   obtain ⟨as,a⟩:=DV.reads I h r1;obtain ⟨bs,b⟩:=DVs.reads I t r2;exact ⟨_,.cons a b⟩
end
def rEqD (K:PySem.W.Frag) (u:Nat) (neg:Bool):R2:=fun x y H Q=>∃ dx dy,DV K H x dx/\DV K H y dy/\dx.canLay0=true/\dy.canLay0=true/\min dx.depth dy.depth≤u/\Q (.bl (if neg then !PyData.eqv dx dy else PyData.eqv dx dy)) H
theorem xAmt {u:Nat} (hu:X.A.units+u<cLine):OpR X (compareOp .NotEq) (rEqD X.K u true):=by
 intro pins s σ H x y v w Q I rx ry h;obtain ⟨dx,dy,hx,hy,cx,cy,hd,q⟩:=h;obtain ⟨as,ra⟩:=hx.reads I rx;obtain ⟨bs,rb⟩:=hy.reads I ry;exact SeqAt.compareNe_reads ra rb cx cy (by omega) ⟨.bl _,H,I,rfl,q⟩
theorem xAbv {h:Heap}:∀ {vs:List Value} {ds:List PyData} {as:List Addr} {j:Nat} {v:Value},ReadsAll h vs ds as->vs[j]?=some v->∃ d bs,ds[j]?=some d/\Reads h v d bs
 | _,_,_,_,_,.nil,e=>by cases e
 | _,_,_,0,_,.cons r t,e=>by cases e;exact ⟨_,_,rfl,r⟩
 | _,_,_,j+1,_,.cons r t,e=>by
  obtain ⟨d,bs,h1,h2⟩:=xAbv (j:=j) t (by simpa using e);exact ⟨d,bs,by simpa using h1,h2⟩
theorem xAdy:∀ {ds:List PyData} {j:Nat} {d:PyData},PyData.canLayAll0 ds=true->ds[j]?=some d->d.canLay0=true
 | [],_,_,_,e=>by cases e
 | d::ds,0,_,h,e=>by
  cases e;have h':(d.canLay0&&PyData.canLayAll0 ds)=true:=h;rw [zi] at h';exact h'.1
 | d::ds,j+1,d',h,e=>by
  have h':(d.canLay0&&PyData.canLayAll0 ds)=true:=h;rw [zi] at h';exact xAdy h'.2 (by simpa using e)
open Classical in
noncomputable def alike (vs:List Value) (ds:List PyData) (dx:PyData) (y:Value):Bool:=decide (∃ (j:Nat) (d:PyData),vs[j]?=some y/\ds[j]?=some d/\PyData.eqv d dx=true)
open Classical in
theorem xAcu {h:Heap} {vs:List Value} {ds:List PyData} {as:List Addr} {dx:PyData} (r:ReadsAll h vs ds as) (c:PyData.canLayAll0 ds=true) {j:Nat} {y:Value} {d:PyData} (e:vs[j]?=some y) (ed:ds[j]?=some d):alike vs ds dx y=PyData.eqv d dx:=by
 unfold alike
 cases q:PyData.eqv d dx with
 | true=>exact decide_eq_true ⟨j,d,e,ed,q⟩
 | false =>
  refine decide_eq_false fun ⟨j',d',e',ed',q'⟩=>?_;obtain ⟨d1,b1,x1,r1⟩:=xAbv r e;obtain ⟨d2,b2,x2,r2⟩:=xAbv r e';rw [ed] at x1;cases x1;rw [ed'] at x2;cases x2;have:=SeqAt.Reads.unique _ _ _ _ _ (xAdy c ed) r1 r2;rw [← this,q] at q';cases q'
theorem xAmu {h:Heap} {dx:PyData} {vs:List Value} {ds:List PyData} {as:List Addr} (r:ReadsAll h vs ds as) (c:PyData.canLayAll0 ds=true):vs.any (alike vs ds dx)=ds.any fun d=>PyData.eqv d dx:=by
 have hl:=SeqAt.ReadsAll.length _ _ _ r;rw [wq,vd,vd];constructor
 ·rintro ⟨y,hy,q⟩
  obtain ⟨j,hj,e⟩:=zu.mp hy;obtain ⟨d,_,ed,_⟩:=xAbv r (j:=j) (by rw [qi hj,e]);rw [xAcu r c (by rw [qi hj,e]) ed] at q;exact ⟨d,qo ed,q⟩
 ·rintro ⟨d,hd,q⟩
  obtain ⟨j,hj,e⟩:=zu.mp hd
  have hj':j<vs.length:=by omega
  refine ⟨vs[j],wf hj',?_⟩;rw [xAcu r c (qi hj') (by rw [qi hj,e])];exact q
def rInD (K:PySem.W.Frag) (u:Nat) (neg:Bool):R2:=fun x y H Q=>∃ dx p ds xs,DV K H x dx/\y=.ref p/\(SqL K H p xs\/SqT K H p xs)/\DVs K H xs ds/\dx.canLay0=true/\PyData.canLayAll0 ds=true/\dx.depth≤u ∧
 Q (.bl (if neg then !(ds.any fun d=>PyData.eqv d dx) else ds.any fun d=>PyData.eqv d dx)) H
theorem xAgz {u:Nat} (hu:X.A.units+1+u<cLine):OpR X (compareOp .NotIn) (rInD X.K u true):=by
 intro pins s σ H x y v w Q I rx ry h;obtain ⟨dx,p,ds,xs,hx,rfl,hq,hs,cx,cs,hd,q⟩:=h;cases ry;obtain ⟨as,ra⟩:=hx.reads I rx
 have key:∀ {its:List Value},Vals xs its->(∀ y∈its,SeqAt.EqAt X.A.in1 s y v (alike its ds dx y))/\its.any (alike its ds dx)=ds.any fun d=>PyData.eqv d dx:=fun {its} rv=>by
  obtain ⟨bs,rb⟩:=hs.reads I rv;refine ⟨fun y hy=>?_,xAmu rb cs⟩;obtain ⟨j,hj,e⟩:=zu.mp hy
  have ej:its[j]?=some y:=by rw [qi hj,e]
  obtain ⟨d,_,ed,rd⟩:=xAbv rb ej;rw [xAcu rb cs ej ed];exact SeqAt.eqAt_reads d dx _ s y v _ _ rd ra (xAdy cs ed) cx (by show X.A.units+1+_<cLine;omega)
 rcases hq with hq | hq
 ·obtain ⟨its,r,pl,hz⟩:=I.list hq
  obtain ⟨k1,k2⟩:=key r;refine SeqAt.notIn_listAt (alike its ds dx) pl.isList (fun w hw=>k1 w (by simpa using hw)) ⟨.bl _,H,I,rfl,?_⟩;rw [List.any_toArray,k2];exact q
 ·obtain ⟨its,r,pl,hz⟩:=I.tuple hq
  obtain ⟨k1,k2⟩:=key r;refine SeqAt.notIn_tupleAt (alike its ds dx) pl (fun w hw=>k1 w (by simpa using hw)) ⟨.bl _,H,I,rfl,?_⟩;rw [List.any_toArray,k2];exact q
def rIndexD (K:PySem.W.Frag) (u:Nat):V->List V->Hp->VK->Prop:=fun o vs H Q=>∃ x dx p ds xs,∃ j:Nat,vs=[x]/\o=.ref p/\DV K H x dx/\SqL K H p xs/\DVs K H xs ds/\dx.canLay0=true/\PyData.canLayAll0 ds=true/\dx.depth≤u ∧
 (∃ d,ds[j]?=some d/\PyData.eqv d dx=true)/\(∀ (m:Nat) d,m<j->ds[m]?=some d->PyData.eqv d dx=false)/\Q (.int (j:Int)) H
theorem xAmv {u:Nat} (hu:X.A.units+3+u<cLine):MtM X "list.index" (rIndexD X.K u):=by
 intro pins s σ H o vs v us Q I ro rv h;obtain ⟨x,dx,p,ds,xs,j,rfl,rfl,hx,hq,hs,cx,cs,hd,⟨d,hj,ed⟩,hno,q⟩:=h;cases ro;obtain ⟨w,rfl,rw'⟩:=rv.one;obtain ⟨as,ra⟩:=hx.reads I rw';obtain ⟨its,r,pl,hz⟩:=I.list hq;obtain ⟨⟨cls,dict,data,sl⟩,n,e,c1,c2,c3⟩:=pl;dsimp only at c1 c2 c3;subst c1 c2 c3;obtain ⟨bs,rb⟩:=hs.reads I r;have hlen:=SeqAt.ReadsAll.length _ _ _ rb
 have hj':j<its.length:=by
  have:=(qx.mp hj).1;omega
 have hl:=r.length
 have hbig:sizeLine<2 ^ 63 - 1:=by decide
 refine call_meets F.slot_list_index ⟨_,e,rfl⟩ F.entry_list_index (F.args_list_index_2 _ _) (SeqAt.list_indexAt p its.toArray n none sl w (alike its ds dx) j (by simpa using hj') (by omega) ?_ ?_) ⟨e,fun y hy=>?_,?_⟩
 ·rw [jp,xAcu rb cs (qi hj') hj]
  exact ed
 ·intro m hm hmj
  have hm':m<its.length:=by simpa using hm
  obtain ⟨d',_,ed',_⟩:=xAbv rb (qi hm');rw [jp,xAcu rb cs (qi hm') ed'];exact hno m d' hmj ed'
 ·have hy:y∈its:=by simpa using hy
  obtain ⟨m,hm,em⟩:=zu.mp hy
  have ej:its[m]?=some y:=by rw [qi hm,em]
  obtain ⟨d',_,ed',rd⟩:=xAbv rb ej;rw [xAcu rb cs ej ed'];exact SeqAt.eqAt_reads d' dx _ s y w _ _ rd ra (xAdy cs ed') cx (by show X.A.units+1+_<cLine;omega)
 ·exact ⟨.int j,H,I.tok _,⟨_,rfl⟩,q⟩
end
section
variable {X:Cx}
end
theorem xAsx {K:PySem.W.Frag} {a:Addr} {xs:List V} {own:List Str} {fr:List (Str×Nat)} {g:TG} {tt:TT} {te:TE} {σ:St} {H:Hp} {Q:VK} (hz:xs.length≤sizeLine) (Pv:Nat->List V->Hp->Prop) (h0:Pv 0 [] H) (hl:∀ i zs H,Pv i zs H->SqL K H a xs)
  (hs:∀ i x zs H' p (K1:V->Hp->Prop) (K0:Hp->Prop),xs[i]?=some x->Pv i zs H'->H' p=none->(∀ v H4,Pv (i+1) (zs++[v]) H4->K1 v H4)->(∀ H3,Pv (i+1) zs H3->K0 H3) →
   g (.ref p) (compSt own fr σ) (upd H' p (.tup [.int i,x])) fun σ2 H2=>tt σ2 H2 fun b H3=>if b=true then te σ2 H3 K1 else K0 H3)
  (hd:∀ H' p zs,Pv xs.length zs H'->zs.length≤xs.length->H' p=none->Q (.ref p) (upd H' p (.lst zs))):LCb own fr g tt te σ Q (Ite K a) H:=by
 refine ⟨fun i m zs H=>m=xs.length - i/\i≤xs.length/\zs.length≤i/\Pv i zs H,⟨xs.length,by simp,Nat.zero_le _,Nat.zero_le _,h0⟩,?_⟩;rintro i m zs H ⟨rfl,hi,hy,p⟩;have q1:=hl _ _ H p
 by_cases hlt:i<xs.length
 ·refine .inr ⟨⟨xs,xs[i],q1,by simp [hlt]⟩,by omega,fun v H' y=>?_⟩
  obtain ⟨r,x,hn,e1,rfl,rfl⟩:=y
  refine hs i x zs H r _ _ (e1 xs q1) p hn (fun v H4 p4=>⟨xs.length - (i+1),by omega,rfl,hlt,?_,p4⟩) fun H3 p3=>⟨xs.length - (i+1),by omega,rfl,hlt,by omega,p3⟩
  rw [qv,zk];omega
 ·have e:i=xs.length:=by omega
  subst e;exact .inl ⟨⟨xs,q1,rfl⟩,fun q hq=>hd H q zs p hy hq⟩
section
variable {X:Cx} {K:PySem.W.Frag} {u:Nat}
theorem xAjs (h:X.K=K) (hu:X.A.units+1+u<cLine):OpR X (compareOp .NotIn) (rInD K u true):=h▸xAgz hu
end
theorem hu64 {A:Around} {k:Nat} (hr:Room k A):A.units+64<cLine:=hr.units
theorem hu63 {A:Around} {k:Nat} (hr:Room k A):A.units+1+63<cLine:=by have:=hr.units;omega
theorem hu61 {A:Around} {k:Nat} (hr:Room k A):A.units+3+61<cLine:=by have:=hr.units;omega
def cutS (z:Str) (lo hi:Option Int):Str:=⟨((z.cps.toList.drop (HT.sIx z.length 0 lo)).take (HT.sIx z.length z.length hi - HT.sIx z.length 0 lo)).toArray⟩
theorem xAek (i:Int) (n:Nat):max 0 (min (if i<0 then i+(n:Int) else i) (n:Int))=((if i<0 then (i+(n:Int)).toNat else min i.toNat n:Nat):Int):=by
 by_cases h:i<0
 ·rw [if_pos h,if_pos h];omega
 ·rw [if_neg h,if_neg h];omega
theorem xAot (lo hi:Option Int) (n:Nat):Builtin.Str.strSliceIndices lo hi 1 n=(List.range (HT.sIx n n hi - HT.sIx n 0 lo)).map (HT.sIx n 0 lo+·):=by
 rw [← sliceRange_one];unfold Builtin.Str.strSliceIndices
 cases lo with
 | none=>cases hi with
  | none=>rfl
  | some j =>
   show sliceRange 0 (max 0 (min (if j<0 then j+(n:Int) else j) (n:Int))) 1=_;rw [xAek];rfl
 | some i=>cases hi with
  | none =>
   show sliceRange (max 0 (min (if i<0 then i+(n:Int) else i) (n:Int))) n 1=_;rw [xAek];rfl
  | some j =>
   show sliceRange (max 0 (min (if i<0 then i+(n:Int) else i) (n:Int))) (max 0 (min (if j<0 then j+(n:Int) else j) (n:Int))) 1=_;rw [xAek,xAek];rfl
section
variable {X:Cx}
def rSlX:V->Option Int->Option Int->Hp->VK->Prop:=fun x lo hi H Q=>∃ z,x=.str z/\z.length≤sizeLine/\Q (.str (cutS z lo hi)) H
theorem xAjt (z:Str) (l u:Option (Int×Tok)):((slicePicked z l u none).filterMap (z.cps[·]?))=(cutS z (l.map (·.1)) (u.map (·.1))).cps.toList:=by
 unfold slicePicked cutS;rw [show ((none:Option (Int×Tok)).map (·.1)).getD 1=(1:Int) from rfl,xAot,pick_run]
theorem xAsy:SlR X rSlX:=by
 intro pins s σ H x v vl vu lo hi sl Q I rx hs pl pu h;obtain ⟨z,rfl,hz,q⟩:=h;obtain ⟨t,rfl⟩:=rx;refine ⟨"str",_,F.slot_str_getitem.lookup,typeIs_str _ z t,?_⟩
 have key:∀ l u:Option (Int×Tok),l.map (·.1)=lo->u.map (·.1)=hi->s.heap.IsSlice sl l u none->wpAny (model X.prog X.w) X.A (getItem (.str z t) (.ref sl)) (EP X pins σ Q) X.xe s:=fun l u e1 e2 hsl=>by
  refine wpAny_getItem_str_slice (st:=none) hsl rfl ?_;have pc:=xAjt z l u;rw [e1,e2] at pc;unfold sliceMade
  split
  ·rename_i hall
   have hl:(slicePicked z l u none).length=z.length:=by
    rw [zi] at hall;exact beq_iff_eq.mp hall.2
   have e:cutS z lo hi=z:=by
    have h1:(slicePicked z l u none).length=HT.sIx z.length z.length hi - HT.sIx z.length 0 lo:=by
     unfold slicePicked;rw [show ((none:Option (Int×Tok)).map (·.1)).getD 1=(1:Int) from rfl,xAot,e1,e2,qg,vy]
    have b1:HT.sIx z.length z.length hi≤z.length:=by unfold HT.sIx;split <;> (try split) <;> omega
    have h2:HT.sIx z.length 0 lo=0\/z.length=0:=by omega
    unfold cutS;rcases h2 with h2 | h2
    ·rw [h2]
     rw [h2] at h1
     rw [show HT.sIx z.length z.length hi - 0=z.cps.toList.length from by
      have:z.cps.toList.length=z.length:=by simp;rfl
      omega,yf,z9]
    ·have:z.cps.toList=[]:=by
      have:z.cps.size=0:=h2;simpa using this
     rw [this];obtain ⟨c⟩:=z
     simp at this
     simp [this]
   exact ⟨.str z,H,I,⟨t,rfl⟩,e▸q⟩
  ·have e:(⟨((slicePicked z l u none).filterMap (z.cps[·]?)).toArray⟩:Str)=cutS z lo hi:=by
    rw [pc]
   have hle:(cutS z lo hi).length≤z.length:=by
    unfold cutS;show (List.toArray _).size≤z.length;rw [zc,z0,vq];show _≤z.cps.size
    have:z.cps.toList.length=z.cps.size:=by simp
    omega
   rw [e];exact ⟨qm hle hz,.str _,H,I.tok _,⟨_,rfl⟩,q⟩
 cases pl <;> cases pu
 ·exact key none none rfl rfl hs
 ·exact key none (some (_,_)) rfl rfl hs
 ·exact key (some (_,_)) none rfl rfl hs
 ·exact key (some (_,_)) (some (_,_)) rfl rfl hs
end
theorem xAcq (B:Nat):∀ (ns:List Int),(∀ n∈ns,0≤n/\n≤(B:Int))->∀ j,0≤(ns.take j).sum/\(ns.take j).sum≤(ns.length * B:Nat)
 | [],_,j=>by simp
 | n::ns,h,0=>by
  simp
  exact Int.mul_nonneg (by omega) (by omega)
 | n::ns,h,j+1=>by
  have ih:=xAcq B ns (fun m hm=>h m (qw _ hm)) j;have hn:=h n qr;rw [List.take_succ_cons,wl,qy,Nat.succ_mul];omega
section
variable {X:Cx}
def rSum (K:PySem.W.Frag) (B:Nat):List V->Hp->VK->Prop:=fun xs H Q=>∃ a ns,xs=[.ref a]/\(SqL K H a (List.map V.int ns)\/SqT K H a (List.map V.int ns))/\(∀ n∈ns,0≤n/\n≤(B:Int))/\ns.length * B<2 ^ 62/\Q (.int ns.sum) H
theorem xAju {B:Nat} {ns:List Int} (h:∀ n∈ns,0≤n/\n≤(B:Int)) (hb:ns.length * B<2 ^ 62):∀ j,j<ns.length->InLong (ns.getD j 0)/\InLong (preSum (fun i=>ns.getD i 0) (j+1)):=fun j hj=>by
 have h1:=xAcq B ns h (j+1);have h2:=h ns[j] (wf hj);have h3:B≤ns.length * B:=Nat.le_mul_of_pos_left B (by omega);rw [preSum_getD]
 have e:ns.getD j 0=ns[j]:=by rw [qq,qi hj];rfl
 rw [e];unfold InLong;omega
theorem xAmw (B:Nat) (hc:X.calm=true):CallR X (.builtin "sum") (rSum X.K B):=by
 intro pins s σ H xs us Q I r h;obtain ⟨a,ns,rfl,hq,hb,hl,q⟩:=h;obtain ⟨u,rfl,ru⟩:=vals1 r;cases ru
 have item:∀ {its:List Value},Vals (List.map V.int ns) its->∀ (i:Nat) (v:Value),its.toArray[i]?=some v->∃ t,v=Value.int (ns.getD i 0) t:=fun {its} rv i v hP=>by
  have hi:its[i]?=some v:=by simpa using hP
  have hb:i<ns.length:=by
   have h1:=(qx.mp hi).1;have h2:=rv.length;rw [qg] at h2;omega
  obtain ⟨u,hu,ru⟩:=rv.get (i:=i) (x:=V.int ns[i]) (by rw [ql,qi hb];rfl);rw [hi] at hu;cases hu;obtain ⟨t,rfl⟩:=ru;exact ⟨t,by rw [qq,qi hb];rfl⟩
 have last:preSum (fun i=>ns.getD i 0) ns.length=ns.sum:=by rw [preSum_getD,z9]
 have stay:∀ {h':Heap} {o0:Obj},(∀ b o,b∉[s.heap.objs.size]->(s.heap.push o0).get? b=some o->h'.get? b=some o)->∀ b o,s.heap.get? b=some o->h'.get? b=some o:=fun hk b o e=>hk b o (fun z=>by
   have:=Heap.lt_size e;rw [zb.mp z] at this
   exact absurd this (zr _)) (Heap.get?_push_of_some _ e)
 rcases hq with hq | hq
 ·obtain ⟨its,rv,p,hz⟩:=I.list hq
  have hlen:its.toArray.size=ns.length:=by rw [zc,← rv.length,qg]
  have hlt:a<s.heap.objs.size:=by obtain ⟨_,e,_⟩:=p.isList;exact Heap.lt_size e
  refine call_sum_walk (wpAny_pyIter_list p.isList ?_);refine ⟨s.heap.objs.size,_,_,_,_,_,fun i=>ns.getD i 0,rfl,Walks.list (show X.A.in1.handled=none from I.ok.hd hc) s.heap.objs.size a (qj hlt) its.toArray,⟨⟨_,Heap.get?_push_size _ rfl,rfl,rfl⟩,p.isList.push _⟩,fun b hb'=>?_,fun i v hP=>item rv i v hP,fun j hj=>xAju hb hl j (by rw [← hlen];exact hj),fun h' tk t' hk=>?_⟩
  ·show b<(s.heap.push _).objs.size
   rw [Heap.size_push]
   simp only [List.mem_cons,List.not_mem_nil,or_false] at hb'
   rcases hb' with rfl | rfl
   ·exact zy _
   ·exact zm hlt
  ·rw [hlen,last]
   exact ⟨.int ns.sum,H,I.kept (stay hk),⟨_,rfl⟩,q⟩
 ·obtain ⟨its,rv,p,hz⟩:=I.tuple hq
  have hlen:its.toArray.size=ns.length:=by rw [zc,← rv.length,qg]
  have hlt:a<s.heap.objs.size:=by obtain ⟨_,e,_⟩:=p;exact Heap.lt_size e
  refine call_sum_walk (wpAny_pyIter_tuple p ?_);refine ⟨s.heap.objs.size,_,_,_,_,_,fun i=>ns.getD i 0,rfl,Walks.tuple (show X.A.in1.handled=none from I.ok.hd hc) s.heap.objs.size a (qj hlt) its.toArray,⟨⟨_,Heap.get?_push_size _ rfl,rfl,rfl⟩,Heap.IsTuple.push p _⟩,fun b hb'=>?_,fun i v hP=>item rv i v hP,fun j hj=>xAju hb hl j (by rw [← hlen];exact hj),fun h' tk t' hk=>?_⟩
  ·show b<(s.heap.push _).objs.size
   rw [Heap.size_push]
   simp only [List.mem_cons,List.not_mem_nil,or_false] at hb'
   rcases hb' with rfl | rfl
   ·exact zy _
   ·exact zm hlt
  ·rw [hlen,last]
   exact ⟨.int ns.sum,H,I.kept (stay hk),⟨_,rfl⟩,q⟩
end
section
variable {X:Cx} {tg:Expr}
end
section
variable {P:Program} {w:World} {A:Around} {E:Value->Shared->Prop} {s:Shared}
end
section
variable {X:Cx}
end
theorem xAjv {ns:List Int}:∀ {us:List Value},Vals (ns.map V.int) us->∃ xs:List (Int×Tok),us=xs.map (fun p=>Value.int p.1 p.2)/\xs.map (·.1)=ns:=by
 induction ns with
 | nil=>intro us r;cases r;exact ⟨[],rfl,rfl⟩
 | cons n ns ih =>
  intro us r
  cases r with
  | cons r1 r2 =>
   obtain ⟨t,rfl⟩:=r1;obtain ⟨xs,h1,h2⟩:=ih r2;exact ⟨(n,t)::xs,by rw [h1];rfl,by rw [zh,h2]⟩
section
variable {X:Cx}
end
section
variable {X:Cx}
end
section
variable {X:Cx}
end
end L2
set_option maxHeartbeats 40000000
namespace Srt
open PySem PySem.W PyProof.Rows
def Ok {α:Type} (n:Nat) (lt:Nat->Nat->Bool) (P:α->Prop):KasT α->Prop
 | .ret a=>P a
 | .ask i j k=>i<n/\j<n/\Ok n lt P (k (lt i j))
section
variable {α β:Type} {n:Nat} {lt:Nat->Nat->Bool}
theorem Ok.mono {P R:α->Prop} (h:∀ a,P a->R a):∀ {t:KasT α},Ok n lt P t->Ok n lt R t
 | .ret _,q=>h _ q
 | .ask _ _ _,q=>⟨q.1,q.2.1,Ok.mono h q.2.2⟩
theorem Ok.bind {R:β->Prop} {f:α->KasT β}:∀ {t:KasT α},Ok n lt (fun a=>Ok n lt R (f a)) t->Ok n lt R (t.bind f)
 | .ret _,q=>q
 | .ask _ _ k,q=>⟨q.1,q.2.1,Ok.bind (t:=k _) q.2.2⟩
theorem Ok.wp {P:α->Prop} {cmp:Nat->Nat->(Bool->Shared->Prop)->Shared->Prop} {s:Shared} {Q:α->Shared->Prop} (hc:∀ i j C,i<n->j<n->C (lt i j) s->cmp i j C s) (hq:∀ a,P a->Q a s) :
  ∀ {t:KasT α},Ok n lt P t->t.kasWp cmp Q s
 | .ret _,q=>hq _ q
 | .ask i j k,q=>hc i j _ q.1 q.2.1 (Ok.wp hc hq (t:=k _) q.2.2)
end
structure Swo (lt:Nat->Nat->Bool):Prop where
 irr:∀ a,lt a a=false
 tr:∀ a b c,lt a b=true->lt b c=true->lt a c=true
 nt:∀ a b c,lt a c=true->lt a b=true\/lt b c=true
section
variable {n:Nat} {lt:Nat->Nat->Bool} (W:Swo lt)
include W
theorem Swo.le_of_lt {a b:Nat} (h:lt a b=true):lt b a=false:=by
 cases e:lt b a with
 | false=>rfl
 | true=>rw [← W.irr a,← W.tr a b a h e]
theorem Swo.le_tr {a b c:Nat} (h1:lt b a=false) (h2:lt c b=false):lt c a=false:=by
 cases e:lt c a with
 | false=>rfl
 | true=>rcases W.nt c b a e with q | q
         ·rw [q] at h2;cases h2
         ·rw [q] at h1;cases h1
theorem Swo.lt_le {a b c:Nat} (h1:lt a b=true) (h2:lt c b=false):lt a c=true:=by
 rcases W.nt a c b h1 with q | q
 ·exact q
 ·rw [q] at h2;cases h2
end
abbrev g (p:Array Nat) (i:Nat):Nat:=p.getD i 0
def Up (lt:Nat->Nat->Bool) (p:Array Nat) (n:Nat):Prop:=∀ i j,i≤j->j<n->lt (g p j) (g p i)=false
def Dn (lt:Nat->Nat->Bool) (p:Array Nat) (n:Nat):Prop:=∀ i j,i≤j->j<n->lt (g p i) (g p j)=false
def Bd (n:Nat) (p:Array Nat):Prop:=p.size=n/\∀ i,g p i<n
theorem g_of {p q:Array Nat} {i j:Nat} (h:p[i]?=q[j]?):g p i=g q j:=by
 unfold g;rw [wa,wa,h]
theorem xAdl {n:Nat} {p q:Array Nat} (hn:0<n) (h:q.Perm p) (b:Bd n p):Bd n q:=by
 refine ⟨by rw [h.size_eq];exact b.1,fun i=>?_⟩;unfold g;rw [wa]
 cases e:q[i]? with
 | none=>exact hn
 | some x =>
  have hx:x∈q:=Array.mem_of_getElem? e;have hx2:x∈p:=(h.mem_iff).mp hx;obtain ⟨j,hj,ej⟩:=Array.mem_iff_getElem.mp hx2;have:=b.2 j;unfold g at this;rw [wa,zn hj,ej] at this;exact this
section
variable {n:Nat} {lt:Nat->Nat->Bool} (W:Swo lt) (hn:0<n)
theorem xAsz {p:Array Nat} {k:Nat} (W:Swo lt) (h0:1≤k) (h:Up lt p k) (hk:lt (g p k) (g p (k - 1))=false):Up lt p (k+1):=by
 intro i j hij hj
 by_cases e:j=k
 ·subst e
  by_cases e2:i=j
  ·subst e2;exact W.irr _
  ·exact W.le_tr (h i (j - 1) (by omega) (by omega)) hk
 ·exact h i j hij (by omega)
theorem xAfd {p:Array Nat} {k:Nat} (W:Swo lt) (h0:1≤k) (h:Dn lt p k) (hk:lt (g p (k - 1)) (g p k)=false):Dn lt p (k+1):=by
 intro i j hij hj
 by_cases e:j=k
 ·subst e
  by_cases e2:i=j
  ·subst e2;exact W.irr _
  ·exact W.le_tr hk (h i (j - 1) (by omega) (by omega))
 ·exact h i j hij (by omega)
theorem xAqk (W:Swo lt) {p:Array Nat} (b:Bd n p):∀ (f k:Nat),1≤k->Up lt p k->Ok n lt (fun m=>k≤m/\m≤k+f/\Up lt p m/\(m<k+f->lt (g p m) (g p (m - 1))=true)) (kas_asc p f k)
 | 0,k,_,h=>⟨Nat.le_refl _,Nat.le_refl _,h,fun z=>absurd z (by simp)⟩
 | f+1,k,h0,h=>by
  refine ⟨b.2 _,b.2 _,?_⟩
  cases e:lt (p.getD k 0) (p.getD (k - 1) 0) with
  | true =>
   show Ok n lt _ (if true=true then _ else _);rw [if_pos rfl];exact ⟨qh _,vf _ _,h,fun _=>e⟩
  | false =>
   show Ok n lt _ (if false=true then _ else _);rw [if_neg (by decide)]
   exact (xAqk W b f (k+1) (by omega) (xAsz W h0 h e)).mono fun m hm=>⟨by omega,by omega,hm.2.2.1,fun z=>hm.2.2.2 (by omega)⟩
theorem xAfx {p:Array Nat} {i j:Nat} (W:Swo lt) (hj:j≤p.size) (he:∀ k,i≤k->k<j->lt (g p k) (g p (j - 1))=false/\lt (g p (j - 1)) (g p k)=false) (k:Nat) :
  lt (g (kas_rev p i j) k) (g p k)=false/\lt (g p k) (g (kas_rev p i j) k)=false:=by
 have e:=getElem?_mirror_all (i:=i) hj k
 by_cases h:i≤k/\k<j
 ·rw [if_pos h] at e
  have e':g (kas_rev p i j) k=g p (i+j - 1 - k):=g_of e;rw [e'];have a:=he (i+j - 1 - k) (by omega) (by omega);have c:=he k h.1 h.2;exact ⟨W.le_tr c.2 a.1,W.le_tr a.2 c.1⟩
 ·rw [if_neg h] at e
  have e':g (kas_rev p i j) k=g p k:=g_of e;rw [e'];exact ⟨W.irr _,W.irr _⟩
theorem xAjw {p q:Array Nat} {k:Nat} (W:Swo lt) (hl:∀ i,lt (g q i) (g p i)=false/\lt (g p i) (g q i)=false) (h:Dn lt p k):Dn lt q k:=fun i j hij hj =>
 W.le_tr (W.le_tr (hl j).2 (h i j hij hj)) (hl i).1
theorem rev_up {p:Array Nat} {k:Nat} (hk:k≤p.size) (h:Dn lt p k):Up lt (kas_rev p 0 k) k:=by
 intro i j hij hj;have e1:=getElem?_mirror_all (i:=0) hk i;have e2:=getElem?_mirror_all (i:=0) hk j;rw [if_pos ⟨qu _,by omega⟩] at e1 e2;have e1':g (kas_rev p 0 k) i=g p (0+k - 1 - i):=g_of e1;have e2':g (kas_rev p 0 k) j=g p (0+k - 1 - j):=g_of e2;rw [e1',e2'];exact h _ _ (by omega) (by omega)
theorem xAel (p:Array Nat) (i j:Nat):(kas_rev p i j).Perm p:=mirror_perm p i j _
def Like (lt:Nat->Nat->Bool) (p:Array Nat) (k q:Nat):Prop:=q+1≤k/\∀ m,k - (q+1)≤m->m<k->lt (g p m) (g p (k - 1))=false/\lt (g p (k - 1)) (g p m)=false
theorem like0 {p:Array Nat} {k:Nat} (W:Swo lt) (h:1≤k):Like lt p k 0:=⟨by omega,fun m h1 h2=>by
 have:m=k - 1:=by omega
 subst this
 exact ⟨W.irr _,W.irr _⟩⟩
theorem xAha (W:Swo lt) (hn:0<n):∀ (f:Nat) (p:Array Nat) (k q:Nat),Bd n p->1≤k->k+f≤n->Dn lt p k->Like lt p k q →
  Ok n lt (fun r=>r.1.Perm p/\k≤r.2.1/\r.2.1≤k+f/\Dn lt r.1 r.2.1/\Like lt r.1 r.2.1 r.2.2) (kas_desc f p k q)
 | 0,p,k,q,_,_,_,hd,hl=>⟨.refl _,qh _,qh _,hd,hl⟩
 | f+1,p,k,q,b,h0,hf,hd,hl=>by
  refine ⟨b.2 _,b.2 _,?_⟩
  cases e:lt (p.getD k 0) (p.getD (k - 1) 0) with
  | true =>
   show Ok n lt _ (if true=true then _ else _);rw [if_pos rfl]
   by_cases hq:q>0
   ·rw [if_pos hq]
    have hk:k≤p.size:=by rw [b.1];omega
    have lk:=xAfx W hk hl.2;have pm:=xAel p (k - (q+1)) k
    have ek:g (kas_rev p (k - (q+1)) k) k=g p k:=g_of (by
     have:=getElem?_mirror_all (i:=k - (q+1)) hk k;rw [if_neg (by omega)] at this
     exact this)
    have d1:Dn lt (kas_rev p (k - (q+1)) k) (k+1):=xAfd W h0 (xAjw W lk hd) (by
     rw [ek]
     exact W.le_tr (W.le_of_lt e) (lk (k - 1)).1)
    exact (xAha W hn f _ (k+1) 0 (xAdl hn pm b) (by omega) (by omega) d1 (like0 W (by omega))).mono fun r hr=>⟨hr.1.trans pm,by omega,by omega,hr.2.2.2⟩
   ·rw [if_neg hq]
    exact (xAha W hn f p (k+1) 0 b (by omega) (by omega) (xAfd W h0 hd (W.le_of_lt e)) (like0 W (by omega))).mono fun r hr=>⟨hr.1,by omega,by omega,hr.2.2.2⟩
  | false =>
   show Ok n lt _ (if false=true then _ else _);rw [if_neg (by decide)];refine ⟨b.2 _,b.2 _,?_⟩
   cases e2:lt (p.getD (k - 1) 0) (p.getD k 0) with
   | true =>
    show Ok n lt _ (if true=true then _ else _);rw [if_pos rfl];exact ⟨.refl _,qh _,vf _ _,hd,hl⟩
   | false =>
    show Ok n lt _ (if false=true then _ else _);rw [if_neg (by decide)]
    refine (xAha W hn f p (k+1) (q+1) b (by omega) (by omega) (xAfd W h0 hd e2) ⟨by have:=hl.1;omega,fun m h1 h2=>?_⟩).mono fun r hr=>⟨hr.1,by omega,by omega,hr.2.2.2⟩
    show lt (g p m) (g p k)=false/\lt (g p k) (g p m)=false
    by_cases em:m=k
    ·subst em;exact ⟨W.irr _,W.irr _⟩
    ·have:=hl.2 m (by omega) (by omega)
     exact ⟨W.le_tr e2 this.1,W.le_tr this.2 e⟩
theorem xAjx (W:Swo lt) (hn:0<n) {p:Array Nat} {k:Nat} (b:Bd n p) (h1:1≤k) (hk:k≤n) (hd:Dn lt p k):Ok n lt (fun r=>1≤r.1/\r.1≤n/\r.2.Perm p/\Up lt r.2 r.1) (kas_tail3 k n p):=by
 unfold kas_tail3;have pm:=xAel p 0 k;refine Ok.bind ((xAqk W (xAdl hn pm b) (n - k) k h1 (rev_up (by rw [b.1];exact hk) hd)).mono fun m hm=>?_);exact ⟨by omega,by omega,pm,hm.2.2.1⟩
theorem xAdz (W:Swo lt) (hn:0<n) {p:Array Nat} {k:Nat} (b:Bd n p) (h1:1≤k) (hk:k+1≤n) (hd:Dn lt p (k+1)):Ok n lt (fun r=>1≤r.1/\r.1≤n/\r.2.Perm p/\Up lt r.2 r.1) (kas_descPart k n p):=by
 unfold kas_descPart;refine Ok.bind ((xAha W hn (n - (k+1)) p (k+1) 0 b (by omega) (by omega) hd (like0 W (by omega))).mono fun r hr=>?_);obtain ⟨pm,a1,a2,dn,lk⟩:=hr;have br:=xAdl hn pm b
 split
 ·have hk':r.2.1≤r.1.size:=by rw [br.1];omega
  have pm2:=xAel r.1 (r.2.1 - (r.2.2+1)) r.2.1;exact (xAjx W hn (xAdl hn pm2 br) (by omega) (by omega) (xAjw W (xAfx W hk' lk.2) dn)).mono fun x hx=>⟨hx.1,hx.2.1,(hx.2.2.1.trans pm2).trans pm,hx.2.2.2⟩
 ·exact (xAjx W hn br (by omega) (by omega) dn).mono fun x hx=>⟨hx.1,hx.2.1,hx.2.2.1.trans pm,hx.2.2.2⟩
theorem xAjy {p:Array Nat} {k:Nat} (W:Swo lt) (h:Up lt p k) (h0:lt (g p 0) (g p (k - 1))=false):Dn lt p k:=fun i j hij hj=>by
 have a:=h 0 i (by omega) (by omega);have c:=h j (k - 1) (by omega) (by omega);exact W.le_tr (W.le_tr c h0) a
theorem xAql (W:Swo lt) (hn:0<n) {p:Array Nat} (b:Bd n p):Ok n lt (fun r=>1≤r.1/\r.1≤n/\r.2.Perm p/\Up lt r.2 r.1) (kas_count n p):=by
 unfold kas_count
 have u1:Up lt p 1:=fun i j hij hj=>by
  have:i=j:=by omega
  subst this;exact W.irr _
 refine Ok.bind ((xAqk W b (n - 1) 1 (by omega) u1).mono fun k hk=>?_);obtain ⟨h1,h2,up,h3⟩:=hk
 by_cases e:(k==n)=true
 ·rw [if_pos e]
  exact ⟨h1,by omega,.refl _,up⟩
 ·rw [if_neg e]
  have hne:k≠n:=fun z=>e (by rw [z];simp)
  have hlt:=h3 (by omega)
  by_cases hk1:k>1
  ·rw [if_pos hk1]
   refine ⟨b.2 _,b.2 _,?_⟩
   cases e2:lt (p.getD 0 0) (p.getD (k - 1) 0) with
   | true =>
    show Ok n lt _ (if true=true then _ else _);rw [if_pos rfl];exact ⟨h1,by show k≤n;omega,.refl _,up⟩
   | false =>
    show Ok n lt _ (if false=true then _ else _);rw [if_neg (by decide)]
    have hks:k≤p.size:=by rw [b.1];omega
    have dn:=xAjy W up e2;have pm:=xAel p 0 k
    have lk:=xAfx (i:=0) W hks fun m _ hm=>⟨dn m (k - 1) (by omega) (by omega) |> fun z=>z,up m (k - 1) (by omega) (by omega)⟩
    have ek:g (kas_rev p 0 k) k=g p k:=g_of (by
     have:=getElem?_mirror_all (i:=0) hks k;rw [if_neg (by omega)] at this
     exact this)
    have d1:Dn lt (kas_rev p 0 k) (k+1):=xAfd W h1 (xAjw W lk dn) (by
     rw [ek]
     exact W.le_tr (W.le_of_lt hlt) (lk (k - 1)).1)
    exact (xAdz W hn (xAdl hn pm b) h1 (by omega) d1).mono fun r hr=>⟨hr.1,hr.2.1,hr.2.2.1.trans pm,hr.2.2.2⟩
  ·rw [if_neg hk1]
   have:k=1:=by omega
   subst this
   have d1:Dn lt p 1:=fun i j hij hj=>by
    have:i=j:=by omega
    subst this;exact W.irr _
   exact xAdz W hn b h1 (by omega) (xAfd W h1 d1 (W.le_of_lt hlt))
theorem xAfy (W:Swo lt) {p:Array Nat} {k:Nat} (b:Bd n p) (up:Up lt p k):∀ (f l r:Nat),l≤r->r≤k->r - l≤f->(∀ i,i<l->lt (g p k) (g p i)=false)->(∀ i,r≤i->i<k->lt (g p k) (g p i)=true) →
  Ok n lt (fun m=>m≤k/\(∀ i,i<m->lt (g p k) (g p i)=false)/\∀ i,m≤i->i<k->lt (g p k) (g p i)=true) (kas_place p k f l r)
 | 0,l,r,h1,h2,h3,hl,hr=>⟨by omega,hl,fun i hi hk=>hr i (by omega) hk⟩
 | f+1,l,r,h1,h2,h3,hl,hr=>by
  unfold kas_place
  by_cases e:l≥r
  ·rw [if_pos e]
   exact ⟨by omega,hl,fun i hi hk=>hr i (by omega) hk⟩
  ·rw [if_neg e]
   refine ⟨b.2 _,b.2 _,?_⟩
   cases e2:lt (p.getD k 0) (p.getD ((l+r) / 2) 0) with
   | true =>
    show Ok n lt _ (if true=true then _ else _);rw [if_pos rfl];exact xAfy W b up f l ((l+r) / 2) (by omega) (by omega) (by omega) hl fun i hi hk=>W.lt_le e2 (up _ i hi hk)
   | false =>
    show Ok n lt _ (if false=true then _ else _);rw [if_neg (by decide)];exact xAfy W b up f ((l+r) / 2+1) r (by omega) h2 (by omega) (fun i hi=>W.le_tr (up i ((l+r) / 2) (by omega) (by omega)) e2) hr
theorem xAta (W:Swo lt) (hn:0<n):∀ (f:Nat) (p:Array Nat) (k:Nat),Bd n p->k+f=n->Up lt p k->Ok n lt (fun q=>q.Perm p/\Up lt q n) (kas_bin f p k)
 | 0,p,k,_,hk,up=>⟨.refl _,by rw [← hk];exact up⟩
 | f+1,p,k,b,hk,up=>by
  unfold kas_bin;refine Ok.bind ((xAfy W b up k 0 k (qu _) (qh _) (by omega) (fun i hi=>absurd hi (by omega)) fun i h1 h2=>absurd h2 (by omega)).mono fun l hl=>?_);obtain ⟨l1,l2,l3⟩:=hl;have pm:=bubble_perm p k (k - l)
  have hs:k<p.size:=by rw [b.1];omega
  have at':∀ i,g (bubble p k (k - l)) i=if i=l then g p k else if l<i/\i≤k then g p (i - 1) else g p i:=fun i=>by
   have e:=getElem?_bubble hs (k - l) (by omega) i;rw [show k - (k - l)=l by omega] at e
   by_cases h1:i=l
   ·rw [if_pos h1] at e ⊢;exact g_of e
   ·rw [if_neg h1] at e ⊢
    by_cases h2:l<i/\i≤k
    ·rw [if_pos h2] at e ⊢;exact g_of e
    ·rw [if_neg h2] at e ⊢;exact g_of e
  have up2:Up lt (bubble p k (k - l)) (k+1):=by
   intro i j hij hj;rw [at' i,at' j]
   by_cases i1:i=l
   ·rw [if_pos i1]
    by_cases j1:j=l
    ·rw [if_pos j1];exact W.irr _
    ·rw [if_neg j1,if_pos ⟨by omega,by omega⟩]
     exact W.le_of_lt (l3 (j - 1) (by omega) (by omega))
   ·rw [if_neg i1]
    by_cases i2:l<i/\i≤k
    ·rw [if_pos i2,if_neg (by omega),if_pos ⟨by omega,by omega⟩]
     exact up _ _ (by omega) (by omega)
    ·rw [if_neg i2]
     by_cases j1:j=l
     ·rw [if_pos j1];exact l2 i (by omega)
     ·rw [if_neg j1]
      by_cases j2:l<j/\j≤k
      ·rw [if_pos j2];exact up _ _ (by omega) (by omega)
      ·rw [if_neg j2];exact up _ _ (by omega) (by omega)
  exact (xAta W hn f _ (k+1) (xAdl hn pm b) (by omega) up2).mono fun q hq=>⟨hq.1.trans pm,hq.2⟩
theorem sort_ok (W:Swo lt) (hn:0<n):Ok n lt (fun q=>q.Perm (List.toArray (List.range n))/\Up lt q n) (kas_sort n):=by
 unfold kas_sort
 have b:Bd n (List.toArray (List.range n)):=by
  refine ⟨by simp,fun i=>?_⟩;unfold g;rw [wa]
  by_cases h:i<n
  ·simp [h]
  ·simp [h,hn]
 refine Ok.bind ((xAql W hn b).mono fun r hr=>?_);obtain ⟨h1,h2,pm,up⟩:=hr
 split
 ·rename_i hlt
  have e:max r.1 1=r.1:=by omega
  rw [e];exact (xAta W hn _ _ _ (xAdl hn pm b) (by omega) up).mono fun q hq=>⟨hq.1.trans pm,hq.2⟩
 ·have e:r.1=n:=by omega
  exact ⟨pm,by rw [← e];exact up⟩
end
end Srt
namespace Tim
open PySem PySem.W PyProof.Rows Srt
abbrev S (κ:SortKind) (it:Array Keyed) (p:Array Nat) (pd:Array (Nat×Nat×Nat)) (m:Nat):SortSt:=SortSt.mk' κ (p.map (kas_item it)) pd m none
def Ans (prog:Program) (w:World) (A:Around) (s:Shared) (κ:SortKind) (it:Array Keyed) (n:Nat) (lt:Nat->Nat->Bool):Prop :=
 ∀ i j (C:Bool->Shared->Prop),i<n->j<n->C (lt i j) s->kas_cmp prog w A κ it i j C s
def In (n:Nat) (p:Array Nat):Prop:=∀ i,i<p.size->g p i<n
section
variable {prog:Program} {w:World} {A:Around} {E:Value->Shared->Prop} {s:Shared} {κ:SortKind} {it:Array Keyed} {n:Nat} {lt:Nat->Nat->Bool} {p:Array Nat} {pd:Array (Nat×Nat×Nat)} {mg:Nat}
theorem lt_ok (hq:Ans prog w A s κ it n lt) {i j:Nat} {st:SortSt} {Q:Option Bool->SortSt->Prop} (hk:kindOf st=κ) (hi:i<n) (hj:j<n) (h:Q (some (lt i j)) st):wpS (model prog w) A E s (lt' (kas_item it i) (kas_item it j)) Q st:=by
 rw [lt'_eq];refine wpS_bind (wpS_get ?_);rw [hk];refine wpS_bind (wpS_lift (wpAny_attempt (wpAny_mono (hq i j (fun b s'=>s'=s/\b=lt i j) hi hj ⟨rfl,rfl⟩) (fun c s' hc=>?_) fun _ _ hF=>hF.elim)));obtain ⟨rfl,rfl⟩:=hc;exact ⟨rfl,wpS_pure h⟩
theorem map_at {i:Nat} (hi:i<p.size):(p.map (kas_item it))[i]?=some (kas_item it (g p i)):=by
 have e:g p i=p[i]:=by unfold g;simp [Array.getD,hi]
 rw [e]
 simp [hi]
theorem xAou {i:Nat} {st:SortSt} {Q:Keyed->SortSt->Prop} (hi:i<p.size) (h:Q (kas_item it (g p i)) st):wpS (model prog w) A E s (elem' (p.map (kas_item it)) i) Q st:=by
 rw [elem'_eq,map_at hi];exact wpS_pure h
theorem xAtb (hq:Ans prog w A s κ it n lt) (hb:In n p) {i j:Nat} {Q:Option Bool->SortSt->Prop} (hi:i<p.size) (hj:j<p.size) (h:Q (some (lt (g p i) (g p j))) (S κ it p pd mg)):wpS (model prog w) A E s (ltAt' i j) Q (S κ it p pd mg):=by
 rw [ltAt'_eq];refine wpS_bind (wpS_get ?_);exact wpS_bind (xAou hi (wpS_bind (xAou hj (lt_ok hq rfl (hb i hi) (hb j hj) h))))
end
def UpL (lt:Nat->Nat->Bool) (lo:Nat) (p:Array Nat) (k:Nat):Prop:=∀ i j,lo≤i->i≤j->j<k->lt (g p j) (g p i)=false
section
variable {lt:Nat->Nat->Bool} {lo:Nat} {p:Array Nat}
theorem up1 (W:Swo lt):UpL lt lo p (lo+1):=fun i j h1 h2 h3=>by
 have:i=j:=by omega
 subst this;exact W.irr _
theorem xAqm {k:Nat} (W:Swo lt) (h0:lo+1≤k) (h:UpL lt lo p k) (hk:lt (g p k) (g p (k - 1))=false):UpL lt lo p (k+1):=by
 intro i j h1 hij hj
 by_cases e:j=k
 ·subst e
  by_cases e2:i=j
  ·subst e2;exact W.irr _
  ·exact W.le_tr (h i (j - 1) h1 (by omega) (by omega)) hk
 ·exact h i j h1 hij (by omega)
end
section
variable {prog:Program} {w:World} {A:Around} {E:Value->Shared->Prop} {s:Shared} {κ:SortKind} {it:Array Keyed} {n:Nat} {lt:Nat->Nat->Bool} {p:Array Nat} {pd:Array (Nat×Nat×Nat)} {mg:Nat} {lo nrem:Nat}
theorem xAqn (W:Swo lt) (hq:Ans prog w A s κ it n lt) (hb:In n p) {a:Nat} {Q:AscSt->SortSt->Prop} {f:Nat->AscSt->StateT SortSt Sem (ForInStep AscSt)} (hf:∀ x (k:Nat),f x (none,k)=(do
      let r ← ltAt' (lo+k) (lo+k - 1)
      match r with
      | some b=>if b=true then pure (ForInStep.done (none,k)) else pure (ForInStep.yield (none,k+1))
      | _=>pure (ForInStep.done (some none,k)))) (ha:1≤a) (han:a≤nrem) (hz:lo+nrem≤p.size) (hu:UpL lt lo p (lo+a))
  (h:∀ k,a≤k->k≤nrem->UpL lt lo p (lo+k)->(k<nrem->lt (g p (lo+k)) (g p (lo+k - 1))=true)->Q (none,k) (S κ it p pd mg)) :
  wpS (model prog w) A E s (forIn [a:nrem] ((none,a):AscSt) f) Q (S κ it p pd mg):=by
 refine wpS_forRange (I:=fun x c st'=>st'=S κ it p pd mg/\c=(none,x)/\UpL lt lo p (lo+x)) ?step ?fin ⟨rfl,rfl,hu⟩
 case fin =>
  rintro c st' ⟨rfl,rfl,hs'⟩;rw [show max a nrem=nrem by omega] at hs' ⊢;exact h nrem han (qh _) hs' fun z=>absurd z (zr _)
 case step =>
  rintro x c st' hax hxn ⟨rfl,rfl,hs'⟩;rw [hf];refine wpS_bind (xAtb hq hb (by omega) (by omega) ?_)
  cases e:lt (g p (lo+x)) (g p (lo+x - 1)) with
  | true =>
   dsimp only;rw [if_pos rfl];exact wpS_pure (h x hax (by omega) hs' fun _=>e)
  | false =>
   dsimp only;rw [if_neg (by decide)];exact wpS_pure ⟨rfl,rfl,xAqm (k:=lo+x) W (by omega) hs' e⟩
theorem wp_if {α:Type} {c:Prop} [Decidable c] {m1 m2:StateT SortSt Sem α} {Q:α->SortSt->Prop} {st:SortSt} (h1:c->wpS (model prog w) A E s m1 Q st) (h2:¬ c->wpS (model prog w) A E s m2 Q st):wpS (model prog w) A E s (if c then m1 else m2) Q st:=by
 by_cases h:c
 ·rw [if_pos h];exact h1 h
 ·rw [if_neg h];exact h2 h
end
section
variable {prog:Program} {w:World} {A:Around} {E:Value->Shared->Prop} {s:Shared} {κ:SortKind} {it:Array Keyed} {n:Nat} {lt:Nat->Nat->Bool} {p:Array Nat} {pd:Array (Nat×Nat×Nat)} {mg:Nat}
theorem xAhb:∀ (f n r:Nat),r≤1->minRun' f n r≤n+r
 | 0,n,r,_=>qh _
 | f+1,n,r,hr=>by
  rw [minRun'_succ]
  split
  ·exact qh _
  ·have:=xAhb f (n / 2) (max r (n % 2)) (by omega)
   omega
theorem xAmx (W:Swo lt) (hq:Ans prog w A s κ it n lt) (hb:In n p) {nrem:Nat} {Q:Option Nat->SortSt->Prop} (h1:1≤nrem) (hz:0+nrem≤p.size) (hu:UpL lt 0 p (0+nrem)) (h:Q (some nrem) (S κ it p pd mg)):wpS (model prog w) A E s (countRun' 0 nrem) Q (S κ it p pd mg):=by
 rw [countRun'_eq];refine wpS_bind (xAqn W hq hb (fun x k=>rfl) (qh 1) h1 hz (up1 W) fun k k1 k2 up hlt=>?_);dsimp only
 have hk:k=nrem:=by
  by_cases e:k=nrem
  ·exact e
  ·have:=hlt (by omega)
   rw [hu (0+k - 1) (0+k) (by omega) (by omega) (by omega)] at this;cases this
 rw [if_pos (by simpa using hk),hk];exact wpS_pure h
theorem runs_asc (W:Swo lt) (hq:Ans prog w A s κ it n lt) (hb:In n p) (hz:2≤p.size) (hu:UpL lt 0 p (0+p.size)) {Q:Unit->SortSt->Prop} (h:∀ pd m,Q () (S κ it p pd m)) :
  wpS (model prog w) A E s sortRuns' Q (S κ it p #[] 7):=by
 rw [sortRuns'_eq];refine wpS_bind (wpS_get ?_);have hs:(arrOf (S κ it p #[] 7)).size=p.size:=y0 ..;dsimp only;rw [hs]
 refine wpS_bind (wpS_mono (wpS_forRange (I:=fun x c st'=>(x=0/\c=(none,0)/\st'=S κ it p #[] 7)\/(c=(none,p.size)/\st'=S κ it p #[(0,p.size,0)] 7))
  (Q:=fun c st'=>c=(none,p.size)/\st'=S κ it p #[(0,p.size,0)] 7) ?s0 ?f0 (.inl ⟨rfl,rfl,rfl⟩)) ?p0)
 case f0 =>
  rintro c st' (⟨hx,_,_⟩ | hh)
  ·omega
  ·exact hh
 case s0 =>
  rintro x c st' _ hx (⟨rfl,rfl,rfl⟩ | ⟨rfl,rfl⟩)
  ·dsimp only
   refine wp_if (fun hge=>absurd hge (by omega)) fun hlt=>?_;refine wpS_bind (xAmx W hq hb (by omega) (by omega) (by rw [vg];exact hu) ?_);dsimp only;refine wp_if (fun hlt2=>absurd hlt2 (by have:=xAhb p.size p.size 0 (by decide);omega)) fun hge2=>?_;refine wpS_bind (wpS_get ?_)
   split
   ·rename_i hc
    have hc:(none:Option (Nat×Nat×Nat))=_:=hc;cases hc
   ·refine wpS_bind (wpS_modify (wpS_pure (.inr ⟨?_,?_⟩)))
    ·rw [vg,vh]
    ·rw [vg];rfl
  ·dsimp only
   refine wp_if (fun hge=>wpS_pure ⟨rfl,rfl⟩) fun hlt=>absurd hlt (by omega)
 case p0 =>
  rintro c st' ⟨rfl,rfl⟩;dsimp only;refine wpS_bind (wpS_mono (wpS_forRange (I:=fun x c st'=>c=(none,())/\st'=S κ it p #[(0,p.size,0)] 7) (Q:=fun c st'=>c=(none,())/\st'=S κ it p #[(0,p.size,0)] 7) ?s1 (fun c st' z=>z) ⟨rfl,rfl⟩) ?p1)
  case s1 =>
   rintro y c st' _ hy ⟨rfl,rfl⟩;refine wpS_bind (wpS_get ?_);refine wp_if (fun hle=>wpS_pure ⟨rfl,rfl⟩) fun hgt=>absurd (show (1:Nat)≤1 from qh 1) hgt
  case p1 =>
   rintro c st' ⟨rfl,rfl⟩;exact wpS_pure (h _ _)
end
end Tim
namespace L2
open PySem PySem.Spec PyProof.Rows
mutual
inductive DT (H:Hp):V->PyData->Prop
 | non:DT H .non .none
 | bl (b:Bool):DT H (.bl b) (.bool b)
 | int (i:Int):DT H (.int i) (.int i)
 | str (z:Str):DT H (.str z) (.str z)
 | tup {p:Addr} {xs:List V} {ds:List PyData}:H p=some (.tup xs)->DTs H xs ds->DT H (.ref p) (.tuple ds)
inductive DTs (H:Hp):List V->List PyData->Prop
 | nil:DTs H [] []
 | cons {x:V} {xs:List V} {d:PyData} {ds:List PyData}:DT H x d->DTs H xs ds->DTs H (x::xs) (d::ds)
end
mutual
theorem DT.same {H H':Hp} (e:Same H H'):∀ {x:V} {d:PyData},DT H x d->DT H' x d
 | _,_,.non=>.non
 | _,_,.bl b=>.bl b
 | _,_,.int i=>.int i
 | _,_,.str z=>.str z
 | _,_,.tup h t=>.tup (e _ _ h) (DTs.same e t)
theorem DTs.same {H H':Hp} (e:Same H H'):∀ {xs:List V} {ds:List PyData},DTs H xs ds->DTs H' xs ds
 | _,_,.nil=>.nil
 | _,_,.cons h t=>.cons (DT.same e h) (DTs.same e t)
end
mutual
theorem DT.dv {K:PySem.W.Frag} {H:Hp}:∀ {x:V} {d:PyData},DT H x d->DV K H x d
 | _,_,.non=>.non
 | _,_,.bl b=>.bl b
 | _,_,.int i=>.int i
 | _,_,.str z=>.str z
 | _,_,.tup h t=>.tup (SqT.of h) (DTs.dv t)
theorem DTs.dv {K:PySem.W.Frag} {H:Hp}:∀ {xs:List V} {ds:List PyData},DTs H xs ds->DVs K H xs ds
 | _,_,.nil=>.nil
 | _,_,.cons h t=>.cons (DT.dv h) (DTs.dv t)
end
section
variable {H:Hp}
theorem dv_str {v:V} {z:Str} (h:DT H v (.str z)):v=.str z:=by cases h;rfl
theorem dv_int {v:V} {i:Int} (h:DT H v (.int i)):v=.int i:=by cases h;rfl
theorem dv_tup {v:V} {ds:List PyData} (h:DT H v (.tuple ds)):∃ p xs,v=.ref p/\H p=some (.tup xs)/\DTs H xs ds:=by
 cases h with
 | tup a b=>exact ⟨_,_,rfl,a,b⟩
theorem xAov:∀ {xs:List V} {ds:List PyData},DTs H xs ds->xs.length=ds.length
 | _,_,.nil=>rfl
 | _,_,.cons _ t=>by rw [qy,qy,xAov t]
end
theorem xAqo {H:Hp} {a b:Addr} {xs:List V} {o:HO} (ha:H a=some (.tup xs)) (hb:H b=some o) (ho:∀ ys,o≠.tup ys):a≠b:=fun e=>by
 subst e;rw [ha] at hb;exact ho xs (Option.some.inj hb).symm
mutual
theorem DT.wr {H:Hp} {a:Addr} {o o':HO} (e:H a=some o) (ho:∀ ys,o≠.tup ys):∀ {x:V} {d:PyData},DT H x d->DT (upd H a o') x d
 | _,_,.non=>.non
 | _,_,.bl b=>.bl b
 | _,_,.int i=>.int i
 | _,_,.str z=>.str z
 | _,_,.tup h t=>.tup (by rw [xAah (xAqo h e ho)];exact h) (DTs.wr e ho t)
theorem DTs.wr {H:Hp} {a:Addr} {o o':HO} (e:H a=some o) (ho:∀ ys,o≠.tup ys):∀ {xs:List V} {ds:List PyData},DTs H xs ds->DTs (upd H a o') xs ds
 | _,_,.nil=>.nil
 | _,_,.cons h t=>.cons (DT.wr e ho h) (DTs.wr e ho t)
end
theorem DTs.snoc {H:Hp} {x:V} {d:PyData}:∀ {xs:List V} {ds:List PyData},DTs H xs ds->DT H x d->DTs H (xs++[x]) (ds++[d])
 | _,_,.nil,h=>.cons h .nil
 | _,_,.cons a t,h=>.cons a (DTs.snoc t h)
def IsW (z:Str):Prop:=0<z.cps.size/\z.cps.size≤8/\∀ c∈z.cps.toList,97≤c/\c≤122
def NameD (ws:List Str) (ds:List PyData):Prop:=∃ w n,ds=[.str w,.int n]/\w∈ws/\1≤n/\n≤1000000
def PartD (ws:List Str) (ds:List PyData):Prop:=ds=[.str "",.int 0]\/NameD ws ds
def SnD (ws:List Str) (ds:List PyData):Prop:=∃ w n i,ds=[.str w,.int n,.int i]/\w∈ws/\1≤n/\n≤1000000/\0≤i/\i≤1000000
def SideD (ws:List Str) (d:PyData):Prop:=∃ ds z,d=.tuple [.tuple ds,.str z]/\SnD ws ds/\(z = "ahead" \/ z = "behind")
def SignD (ws:List Str) (d:PyData):Prop:=(∃ c,d=.str ⟨#[c]⟩/\c∈("abcdefghijklmnopqrstuvwxyz .,":Str).cps.toList)\/(∃ z,d=.tuple [.str "picture",.str z]/\IsW z)\/∃ ds,d=.tuple [.str "refer",.tuple ds]/\PartD ws ds
def BrD (ws:List Str) (d:PyData):Prop:=d=.none\/∃ w z,d=.tuple [.str w,.str z]/\w∈ws/\IsW z
def OrD (P:List PyData->Prop) (d:PyData):Prop:=d=.none\/∃ n,d=.tuple n/\P n
def WnD (d:PyData):Prop:=d=.none\/∃ z,d=.str z/\IsW z
inductive WhatD (ws:List Str) (num:Int):List PyData->Prop
 | nothing:WhatD ws num [.str "nothing"]
 | part (p:List PyData):PartD ws p->WhatD ws num [.str "part",.tuple p]
 | move (n p:List PyData):NameD ws n->PartD ws p->WhatD ws num [.str "move",.tuple n,.tuple p]
 | cut (n:List PyData):NameD ws n->WhatD ws num [.str "cut",.tuple n]
 | put (p:List PyData) (b:PyData) (sg:List PyData):PartD ws p->OrD (SnD ws) b->1≤sg.length->sg.length≤12->(∀ d∈sg,SignD ws d)->WhatD ws num [.str "put",.tuple p,b,.tuple sg]
 | out (p:List PyData) (ns:List (List PyData)):PartD ws p->1≤ns.length->ns.length≤12->(∀ n∈ns,SnD ws n)->ns.Nodup->WhatD ws num [.str "out",.tuple p,.tuple (ns.map .tuple)]
 | mark (p:List PyData) (s1 s2:PyData) (z:Str) (v:PyData):PartD ws p->SideD ws s1->SideD ws s2->IsW z->WnD v->WhatD ws num [.str "mark",.tuple p,s1,s2,.str z,v]
 | note (p:List PyData) (s1 s2:PyData) (z:Str):PartD ws p->SideD ws s1->SideD ws s2->IsW z->WhatD ws num [.str "note",.tuple p,s1,s2,.str z]
 | line (p:List PyData) (z:Str) (v:PyData):PartD ws p->z = "row" \/ z = "column"->OrD (NameD ws) v->WhatD ws num [.str "line",.tuple p,.str z,v]
 | strike (p n:List PyData):PartD ws p->NameD ws n->WhatD ws num [.str "strike",.tuple p,.tuple n]
 | cell (p a b:List PyData) (z:Str):PartD ws p->NameD ws a->NameD ws b->z = "" \/ IsW z->WhatD ws num [.str "cell",.tuple p,.tuple a,.tuple b,.str z]
 | leave (p:List PyData) (w t:Str) (y:Bool):PartD ws p->w∈ws->t∈(["read","note","write","give"]:List Str)->WhatD ws num [.str "leave",.tuple p,.str w,.str t,.bool y]
 | back (k:Str) (n:Int):k = "back" \/ k = "again"->1≤n->n<num->WhatD ws num [.str k,.int n]
 | bring (k:Str) (z:Str):k = "bring" \/ k = "drop"->IsW z->WhatD ws num [.str k,.str z]
 | pour (cs:List Int):cs.length=ws.length->(∀ c∈cs,0≤c/\c≤1000000)->WhatD ws num [.str "pour",.tuple (cs.map .int)]
theorem xAbw {z:Str} (h:IsW z):PyData.strOk z=true:=by
 unfold PyData.strOk;rw [← Array.all_toList,vv];intro c hc;have:=h.2.2 c hc;exact decide_eq_true (by omega)
mutual
def noB:PyData->Bool
 | .none=>true
 | .bool _=>false
 | .int _=>true
 | .str _=>true
 | .list xs=>noBs xs
 | .tuple xs=>noBs xs
 | .dict _=>false
def noBs:List PyData->Bool
 | []=>true
 | x::xs=>noB x&&noBs xs
end
mutual
theorem xAjz:∀ (a b:PyData),noB a=true->noB b=true->(PyData.eqv a b=true↔a=b)
 | .list xs,b,ha,hb=>by
  cases b with
  | list ys =>
   have:=xAfz xs ys (by simpa [noB] using ha) (by simpa [noB] using hb)
   simp only [PyData.eqv,this,PyData.list.injEq]
  | _=>simp [PyData.eqv]
 | .tuple xs,b,ha,hb=>by
  cases b with
  | tuple ys =>
   have:=xAfz xs ys (by simpa [noB] using ha) (by simpa [noB] using hb)
   simp only [PyData.eqv,this,PyData.tuple.injEq]
  | _=>simp [PyData.eqv]
 | .dict _,_,ha,_=>by simp [noB] at ha
 | .bool _,_,ha,_=>by simp [noB] at ha
 | .none,b,_,hb=>by cases b <;> simp_all [PyData.eqv,noB]
 | .int i,b,_,hb=>by cases b <;> simp_all [PyData.eqv,noB]
 | .str i,b,_,hb=>by cases b <;> simp_all [PyData.eqv,noB]
theorem xAfz:∀ (xs ys:List PyData),noBs xs=true->noBs ys=true->(PyData.eqvAll xs ys=true↔xs=ys)
 | [],ys,_,_=>by cases ys <;> simp [PyData.eqvAll]
 | x::xs,ys,ha,hb=>by
  cases ys with
  | nil=>simp [PyData.eqvAll]
  | cons y ys =>
   rw [noBs,zi] at ha hb;have h1:=xAjz x y ha.1 hb.1;have h2:=xAfz xs ys ha.2 hb.2
   simp only [PyData.eqvAll,Bool.and_eq_true,h1,h2,List.cons.injEq]
end
theorem xAcd:∀ {xs:List PyData},(∀ x∈xs,x.canLay0=true)->PyData.canLayAll0 xs=true
 | [],_=>rfl
 | x::xs,h=>by
  show (x.canLay0&&PyData.canLayAll0 xs)=true;rw [h x qr,xAcd fun y hy=>h y (qw _ hy)];rfl
theorem xAtc {ds:List PyData} {d:PyData} (h:∀ x∈ds,noB x=true) (hd:noB d=true):(ds.any fun x=>PyData.eqv x d)=true↔d∈ds:=by
 rw [vd];constructor
 ·rintro ⟨x,hx,e⟩
  rw [← (xAjz x d (h x hx) hd).mp e];exact hx
 ·intro hm
  exact ⟨d,hm,(xAjz d d hd hd).mpr rfl⟩
theorem SnD.plain {ws:List Str} (hw:∀ w∈ws,IsW w) {ds:List PyData} (h:SnD ws ds):noB (.tuple ds)=true/\(PyData.tuple ds).canLay0=true/\(PyData.tuple ds).depth=1:=by
 obtain ⟨w,n,i,rfl,m,_⟩:=h;refine ⟨rfl,?_,rfl⟩;show (PyData.strOk w&&(true&&(true&&true)))=true;rw [xAbw (hw w m)];rfl
theorem xAow {xs:List V} {b:Int} (h1:1≤b) (h2:b≤12) (hx:1≤xs.length):1≤(cutV xs none (some b)).length/\(cutV xs none (some b)).length≤12:=by
 obtain ⟨k,rfl⟩:=Int.eq_ofNat_of_zero_le (by omega:0≤b);unfold cutV;rw [HT.sIx_nat,HT.sIx_none,yf,z0];omega
theorem xAhc {xs:List V} {k:Nat} (h:k≤xs.length):(cutV xs none (some (k:Int))).length=k:=by
 unfold cutV;rw [HT.sIx_nat,HT.sIx_none,yf,z0];omega
theorem dts_ints (H:Hp):∀ cs:List Int,DTs H (cs.map V.int) (cs.map .int)
 | []=>.nil
 | c::cs=>.cons (.int c) (dts_ints H cs)
theorem xAtd {α:Type} {l:List α} {x:α} (h:l.Nodup) (hx:x∉l):(l++[x]).Nodup :=
 List.nodup_append.mpr ⟨h,zo.mpr ⟨fun z=>(y7 z).elim,wx⟩,fun a ha b hb e=>hx (by rw [zb.mp hb] at e;rw [← e];exact ha)⟩
end L2
namespace Hs
open PySem L2 PyProof.Rows
structure Dd where
 who:Nat
 num:Nat
 hd:List Nat
 br:PyData
 wt:List PyData
abbrev at0 (l:List Nat) (k:Nat):Nat:=l.getD k 0
abbrev rowOf (kn:List (List Nat)) (i:Nat):List Nat:=kn.getD i []
def Cov (m:Nat) (ds:List Dd) (row:List Nat):Prop:=∀ j k,j<m->1≤k->k≤at0 row j->∃ e∈ds,e.who=j/\e.num=k/\∀ i,i<m->at0 e.hd i≤at0 row i
structure Wh (m:Nat) (ds:List Dd):Prop where
 who:∀ d∈ds,d.who<m
 len:∀ d∈ds,d.hd.length=m
 own:∀ d∈ds,at0 d.hd d.who+1=d.num
 uniq:ds.Pairwise fun a b=>¬ (a.who=b.who/\a.num=b.num)
 past:∀ d∈ds,Cov m ds d.hd
structure Kn (m:Nat) (ds:List Dd) (kn:List (List Nat)):Prop where
 len:kn.length=m
 row:∀ i,i<m->(rowOf kn i).length=m
 cov:∀ i,i<m->Cov m ds (rowOf kn i)
 cnt:∀ d∈ds,d.num≤at0 (rowOf kn d.who) d.who
theorem getD_set_self {α:Type} {l:List α} {i:Nat} {x d:α} (h:i<l.length):(l.set i x).getD i d=x:=by
 rw [qq,yd h];rfl
theorem xAat {α:Type} {l:List α} {i j:Nat} {x d:α} (h:i≠j):(l.set i x).getD j d=l.getD j d:=by
 rw [qq,w6 h,← qq]
theorem getD_range {m a:Nat} (f:Nat->Nat) (h:a<m):at0 ((List.range m).map f) a=f a:=by
 unfold at0;rw [qq,ql,yg h];rfl
theorem Cov.mono {m:Nat} {ds ds':List Dd} {row:List Nat} (c:Cov m ds row) (h:∀ d∈ds,d∈ds'):Cov m ds' row:=fun j k h1 h2 h3 =>
 let ⟨e,he,r⟩:=c j k h1 h2 h3
 ⟨e,h e he,r⟩
def merged (m:Nat) (row theirs:List Nat) (o t:Nat):List Nat:=((List.range m).map fun a=>max (at0 row a) (at0 theirs a)).set o (max (max (at0 row o) (at0 theirs o)) t)
theorem xAka (m:Nat) (row theirs:List Nat) (o t:Nat):(merged m row theirs o t).length=m:=by unfold merged;simp
theorem xAem {m:Nat} {row theirs:List Nat} {o t i:Nat} (hi:i<m) (ho:o<m):at0 (merged m row theirs o t) i=if i=o then max (max (at0 row o) (at0 theirs o)) t else max (at0 row i) (at0 theirs i):=by
 unfold merged
 by_cases e:i=o
 ·subst e
  rw [if_pos rfl];exact getD_set_self (by simpa using hi)
 ·rw [if_neg e]
  show ((((List.range m).map fun a=>max (at0 row a) (at0 theirs a)).set o _).getD i 0)=_;rw [xAat (fun z=>e z.symm)];exact getD_range _ hi
theorem xAkb {m:Nat} {ds:List Dd} {row:List Nat} {e:Dd} (W:Wh m ds) (c:Cov m ds row) (he:e∈ds):Cov m ds (merged m row e.hd e.who e.num):=by
 have ho:=W.who e he
 have up:∀ i,i<m->at0 row i≤at0 (merged m row e.hd e.who e.num) i/\at0 e.hd i≤at0 (merged m row e.hd e.who e.num) i:=fun i hi=>by
  rw [xAem hi ho]
  split
  ·rename_i q
   subst q;omega
  ·omega
 intro j k hj h1 h2;rw [xAem hj ho] at h2
 have old:k≤at0 row j->∃ e'∈ds,e'.who=j/\e'.num=k/\∀ i,i<m->at0 e'.hd i≤at0 (merged m row e.hd e.who e.num) i:=fun h=>by
  obtain ⟨e',m',a,b,f⟩:=c j k hj h1 h;exact ⟨e',m',a,b,fun i hi=>qm (f i hi) (up i hi).1⟩
 have new:k≤at0 e.hd j->∃ e'∈ds,e'.who=j/\e'.num=k/\∀ i,i<m->at0 e'.hd i≤at0 (merged m row e.hd e.who e.num) i:=fun h=>by
  obtain ⟨e',m',a,b,f⟩:=W.past e he j k hj h1 h;exact ⟨e',m',a,b,fun i hi=>qm (f i hi) (up i hi).2⟩
 split at h2
 ·rename_i q
  by_cases q1:k≤at0 row j
  ·exact old q1
  ·by_cases q2:k≤at0 e.hd j
   ·exact new q2
   ·have q3:k≤e.num:=by rw [← q] at h2;omega
    have q4:=W.own e he
    have q5:k=e.num:=by rw [q] at q2;omega
    exact ⟨e,he,q.symm,q5.symm,fun i hi=>(up i hi).2⟩
 ·by_cases q1:k≤at0 row j
  ·exact old q1
  ·exact new (by omega)
theorem Kn.le {m:Nat} {ds:List Dd} {kn:List (List Nat)} (K:Kn m ds kn) {row:List Nat} (c:Cov m ds row) {j:Nat} (hj:j<m):at0 row j≤at0 (rowOf kn j) j:=by
 by_cases h:1≤at0 row j
 ·obtain ⟨e,he,a,b,_⟩:=c j _ hj h (qh _)
  have:=K.cnt e he;rw [a,b] at this;exact this
 ·omega
theorem Kn.has {m:Nat} {ds:List Dd} {kn:List (List Nat)} (K:Kn m ds kn) {j k:Nat} (hj:j<m) (h1:1≤k) (h2:k≤at0 (rowOf kn j) j):∃ e∈ds,e.who=j/\e.num=k :=
 let ⟨e,he,a,b,_⟩:=K.cov j hj j k hj h1 h2
 ⟨e,he,a,b⟩
theorem Kn.merge {m:Nat} {ds:List Dd} {kn:List (List Nat)} {i:Nat} {e:Dd} (W:Wh m ds) (K:Kn m ds kn) (hi:i<m) (he:e∈ds) (hg:at0 (rowOf kn i) e.who<e.num):Kn m ds (kn.set i (merged m (rowOf kn i) e.hd e.who e.num)):=by
 have ho:=W.who e he
 have hl:i<kn.length:=by rw [K.len];exact hi
 have c:=xAkb W (K.cov i hi) he
 have ne:i≠e.who:=fun z=>by
  have:=K.cnt e he;rw [← z] at this hg;omega
 have own:at0 (merged m (rowOf kn i) e.hd e.who e.num) i=at0 (rowOf kn i) i:=by
  rw [xAem hi ho,if_neg ne];have:=K.le (W.past e he) hi;omega
 refine ⟨by rw [wj];exact K.len,fun j hj=>?_,fun j hj=>?_,fun d hd=>?_⟩
 ·by_cases q:i=j
  ·subst q
   show ((kn.set i _).getD i []).length=m;rw [getD_set_self hl];exact xAka _ _ _ _ _
  ·show ((kn.set i _).getD j []).length=m
   rw [xAat q];exact K.row j hj
 ·by_cases q:i=j
  ·subst q
   show Cov m ds ((kn.set i _).getD i []);rw [getD_set_self hl];exact c
  ·show Cov m ds ((kn.set i _).getD j [])
   rw [xAat q];exact K.cov j hj
 ·by_cases q:i=d.who
  ·show d.num≤at0 ((kn.set i _).getD d.who []) d.who
   rw [← q,getD_set_self hl,own,q];exact K.cnt d hd
  ·show d.num≤at0 ((kn.set i _).getD d.who []) d.who
   rw [xAat q];exact K.cnt d hd
def nextD (kn:List (List Nat)) (i:Nat) (br:PyData) (wt:List PyData):Dd:=⟨i,at0 (rowOf kn i) i+1,rowOf kn i,br,wt⟩
theorem Wh.next {m:Nat} {ds:List Dd} {kn:List (List Nat)} {i:Nat} {br:PyData} {wt:List PyData} (W:Wh m ds) (K:Kn m ds kn) (hi:i<m):Wh m (ds++[nextD kn i br wt]):=by
 have sub:∀ d∈ds,d∈ds++[nextD kn i br wt]:=fun d hd=>w5 _ hd
 have two:∀ {P:Dd->Prop},(∀ d∈ds,P d)->P (nextD kn i br wt)->∀ d∈ds++[nextD kn i br wt],P d:=fun h1 h2 d hd=>by
  rcases zj.mp hd with q | q
  ·exact h1 d q
  ·rw [zb.mp q];exact h2
 refine ⟨two W.who hi,two W.len (K.row i hi),two W.own rfl,?_,two (fun d hd=>(W.past d hd).mono sub) ((K.cov i hi).mono sub)⟩;refine List.pairwise_append.mpr ⟨W.uniq,List.pairwise_singleton _ _,fun a ha b hb z=>?_⟩;rw [zb.mp hb] at z;have:=K.cnt a ha;rw [z.1,z.2] at this;show False;have q:(nextD kn i br wt).num=at0 (rowOf kn i) i+1:=rfl;have q2:(nextD kn i br wt).who=i:=rfl;rw [q,q2] at this;omega
theorem Kn.next {m:Nat} {ds:List Dd} {kn:List (List Nat)} {i:Nat} {br:PyData} {wt:List PyData} (W:Wh m ds) (K:Kn m ds kn) (hi:i<m):Kn m (ds++[nextD kn i br wt]) (kn.set i ((rowOf kn i).set i (at0 (rowOf kn i) i+1))):=by
 have sub:∀ d∈ds,d∈ds++[nextD kn i br wt]:=fun d hd=>w5 _ hd
 have hl:i<kn.length:=by rw [K.len];exact hi
 have hr:i<(rowOf kn i).length:=by rw [K.row i hi];exact hi
 have up:∀ a,at0 (rowOf kn i) a≤at0 ((rowOf kn i).set i (at0 (rowOf kn i) i+1)) a:=fun a=>by
  by_cases q:i=a
  ·subst q
   show _≤((rowOf kn i).set i _).getD i 0;rw [getD_set_self hr];omega
  ·show _≤((rowOf kn i).set i _).getD a 0
   rw [xAat q];exact qh _
 refine ⟨by rw [wj];exact K.len,fun j hj=>?_,fun j hj=>?_,fun d hd=>?_⟩
 ·by_cases q:i=j
  ·subst q
   show ((kn.set i _).getD i []).length=m;rw [getD_set_self hl,wj];exact K.row i hi
  ·show ((kn.set i _).getD j []).length=m
   rw [xAat q];exact K.row j hj
 ·by_cases q:i=j
  ·subst q
   show Cov m _ ((kn.set i _).getD i []);rw [getD_set_self hl];intro a k ha h1 h2
   by_cases r:k≤at0 (rowOf kn i) a
   ·obtain ⟨e,he,x,y,f⟩:=K.cov i hi a k ha h1 r
    exact ⟨e,sub e he,x,y,fun b hb=>qm (f b hb) (up b)⟩
   ·have ra:i=a:=Classical.byContradiction fun z=>by
     have h3:k≤((rowOf kn i).set i (at0 (rowOf kn i) i+1)).getD a 0:=h2;rw [xAat z] at h3;exact r h3
    subst ra;have h3:k≤((rowOf kn i).set i (at0 (rowOf kn i) i+1)).getD i 0:=h2;rw [getD_set_self hr] at h3;exact ⟨nextD kn i br wt,zt _ (zb.mpr rfl),rfl,by show at0 (rowOf kn i) i+1=k;omega,fun b _=>up b⟩
  ·show Cov m _ ((kn.set i _).getD j [])
   rw [xAat q];exact (K.cov j hj).mono sub
 ·rcases zj.mp hd with q | q
  ·have:=K.cnt d q
   by_cases r:i=d.who
   ·show d.num≤at0 ((kn.set i _).getD d.who []) d.who
    rw [← r,getD_set_self hl];rw [← r] at this;exact qm this (up i)
   ·show d.num≤at0 ((kn.set i _).getD d.who []) d.who
    rw [xAat r];exact this
  ·rw [zb.mp q]
   show at0 (rowOf kn i) i+1≤at0 ((kn.set i _).getD i []) i;rw [getD_set_self hl];show _≤((rowOf kn i).set i _).getD i 0;rw [getD_set_self hr];exact qh _
theorem Kn.start (m:Nat):Kn m [] (List.replicate m (List.replicate m 0))/\Wh m []:=by
 have z:∀ i j,at0 (rowOf (List.replicate m (List.replicate m 0)) i) j=0:=fun i j=>by
  unfold at0 rowOf;rw [qq,qq,vn]
  split
  ·show ((List.replicate m 0)[j]?).getD 0=0
   rw [vn]
   split <;> rfl
  ·rfl
 refine ⟨⟨by simp,fun i hi=>?_,fun i hi j k _ h1 h2=>?_,(fun d hd=>nomatch hd)⟩,⟨(fun d hd=>nomatch hd),(fun d hd=>nomatch hd),(fun d hd=>nomatch hd),List.Pairwise.nil,(fun d hd=>nomatch hd)⟩⟩
 ·unfold rowOf
  rw [qq,vn,if_pos hi]
  simp
 ·rw [z] at h2
  omega
theorem xAmy {α:Type}:∀ {l:List α} {i j:Nat} {x:α},l.Nodup->l[i]?=some x->l[j]?=some x->i=j
 | [],_,_,_,_,h,_=>nomatch h
 | a::l,0,0,_,_,_,_=>rfl
 | a::l,0,j+1,x,nd,h1,h2=>by
  cases h1;exact absurd (List.mem_of_getElem? (by simpa using h2)) (List.nodup_cons.mp nd).1
 | a::l,i+1,0,x,nd,h1,h2=>by
  cases h2;exact absurd (List.mem_of_getElem? (by simpa using h1)) (List.nodup_cons.mp nd).1
 | a::l,i+1,j+1,x,nd,h1,h2=>congrArg (·+1) (xAmy (List.nodup_cons.mp nd).2 (by simpa using h1) (by simpa using h2))
theorem xAhd {α:Type}:∀ {l:List α} {i:Nat} {x:α},l.Nodup->x∉l->(l.set i x).Nodup
 | [],_,_,nd,_=>nd
 | a::l,0,x,nd,h=>zo.mpr ⟨fun m=>h (qw _ m),(zo.mp nd).2⟩
 | a::l,i+1,x,nd,h=>zo.mpr ⟨fun m=>by
   rcases jq m with m | m
   ·exact (zo.mp nd).1 m
   ·exact h (by rw [m];exact qr),xAhd (zo.mp nd).2 fun m=>h (qw _ m)⟩
abbrev nV (n:Nat):V:=.int (n:Int)
abbrev rowV (r:List Nat):List V:=r.map nV
def keyD (d:Dd):List Key:=[.inl (d.who:Int),.inl (d.num:Int)]
def DeedAt (H:Hp) (ws:List Str) (v:V) (d:Dd):Prop:=∃ q w hq b x,v=.ref q/\ws[d.who]?=some w/\H q=some (.tup [.str w,nV d.num,.ref hq,b,x])/\H hq=some (.tup (rowV d.hd))/\DT H b d.br/\DT H x (.tuple d.wt)
theorem DeedAt.mono {H H':Hp} {ws:List Str} {v:V} {d:Dd} (h:DeedAt H ws v d) (s:Same H H'):DeedAt H' ws v d:=by
 obtain ⟨q,w,hq,b,x,e,h1,h2,h3,h4,h5⟩:=h;exact ⟨q,w,hq,b,x,e,h1,s _ _ h2,s _ _ h3,h4.same s,h5.same s⟩
theorem xAdm {H:Hp} {a b:Addr} {xs:List V} {o:HO} (ha:H a=some (.tup xs)) (hb:H b=some o) (ho:∀ ys,o≠.tup ys):a≠b:=fun e=>by
 subst e;rw [ha] at hb;exact ho xs (Option.some.inj hb).symm
theorem DeedAt.wr {H:Hp} {ws:List Str} {v:V} {d:Dd} {a:Addr} {o o':HO} (h:DeedAt H ws v d) (e:H a=some o) (ho:∀ ys,o≠.tup ys):DeedAt (upd H a o') ws v d:=by
 obtain ⟨q,w,hq,b,x,e1,h1,h2,h3,h4,h5⟩:=h;exact ⟨q,w,hq,b,x,e1,h1,by rw [xAah (xAdm h2 e ho)];exact h2,by rw [xAah (xAdm h3 e ho)];exact h3,h4.wr e ho,h5.wr e ho⟩
def Deeds (H:Hp) (ws:List Str) (des:List V) (ds:List Dd):Prop:=des.length=ds.length/\∀ (i:Nat) (d:Dd),ds[i]?=some d->∃ v,des[i]?=some v/\DeedAt H ws v d
theorem Deeds.mono {H H':Hp} {ws:List Str} {des:List V} {ds:List Dd} (h:Deeds H ws des ds) (s:Same H H'):Deeds H' ws des ds:=⟨h.1,fun i d e=>let ⟨v,a,b⟩:=h.2 i d e;⟨v,a,b.mono s⟩⟩
theorem Deeds.wr {H:Hp} {ws:List Str} {des:List V} {ds:List Dd} {a:Addr} {o o':HO} (h:Deeds H ws des ds) (e:H a=some o) (ho:∀ ys,o≠.tup ys):Deeds (upd H a o') ws des ds:=⟨h.1,fun i d e'=>let ⟨v,x,b⟩:=h.2 i d e';⟨v,x,b.wr e ho⟩⟩
theorem Deeds.snoc {H:Hp} {ws:List Str} {des:List V} {ds:List Dd} {v:V} {d:Dd} (h:Deeds H ws des ds) (hd:DeedAt H ws v d):Deeds H ws (des++[v]) (ds++[d]):=by
 refine ⟨by simp [h.1],fun i d' e=>?_⟩
 by_cases hi:i<ds.length
 ·rw [yh hi] at e
  obtain ⟨x,h1,h2⟩:=h.2 i d' e;exact ⟨x,by rw [yh (by rw [h.1];exact hi)];exact h1,h2⟩
 ·rw [yi (by omega)] at e
  have hi2:i - ds.length=0:=by
   have:=(qx.mp e).1
   simp at this
   omega
  rw [hi2] at e;cases e;exact ⟨v,by rw [yi (by rw [h.1];omega),h.1,hi2];rfl,hd⟩
structure HSt (H0 H:Hp) (kp tp dp:Addr) (ws:List Str) (kn:List (List Nat)) (td ds:List Dd) (ks:List Addr) (kvs:List (List Key×V)) (des:List V):Prop where
 same:Same H0 H
 kat:H kp=some (.lst (ks.map V.ref))
 klen:ks.length=kn.length
 rows:∀ i k,ks[i]?=some k->H k=some (.lst (rowV (rowOf kn i)))
 nd:ks.Nodup
 kk:kp∉ks
 kd:kp≠dp
 dk:dp∉ks
 fk:H0 kp=none
 ft:H0 tp=none
 fd:H0 dp=none
 fr:∀ k∈ks,H0 k=none
 tat:H tp=some (.dT kvs)
 tab:∀ d∈td,∃ q,valV kvs (keyD d)=some (.ref q)/\H q=some (.lst (rowV d.hd))/\q≠kp/\q≠dp/\q∉ks
 tlen:kvs.length≤td.length
 dat:H dp=some (.lst des)
 deeds:Deeds H ws des ds
section
variable {H0 H H':Hp} {kp tp dp:Addr} {ws:List Str} {kn:List (List Nat)} {td ds:List Dd} {ks:List Addr} {kvs:List (List Key×V)} {des:List V}
theorem HSt.mono (h:HSt H0 H kp tp dp ws kn td ds ks kvs des) (s:Same H H'):HSt H0 H' kp tp dp ws kn td ds ks kvs des where
 same:=h.same.trans s
 kat:=s _ _ h.kat
 klen:=h.klen
 rows:=fun i k e=>s _ _ (h.rows i k e)
 nd:=h.nd
 kk:=h.kk
 kd:=h.kd
 dk:=h.dk
 fk:=h.fk
 ft:=h.ft
 fd:=h.fd
 fr:=h.fr
 tat:=s _ _ h.tat
 tab:=fun d hd=>let ⟨q,a,b,c⟩:=h.tab d hd;⟨q,a,s _ _ b,c⟩
 tlen:=h.tlen
 dat:=s _ _ h.dat
 deeds:=h.deeds.mono s
theorem HSt.tk (h:HSt H0 H kp tp dp ws kn td ds ks kvs des) {k:Addr} (hk:k∈ks):tp≠k:=fun e=>by
 obtain ⟨i,hi,e2⟩:=zu.mp hk;have:=h.rows i k (by rw [qi hi,e2]);rw [← e,h.tat] at this;cases this
theorem HSt.tkp (h:HSt H0 H kp tp dp ws kn td ds ks kvs des):tp≠kp:=fun e=>by
 have:=h.kat;rw [← e,h.tat] at this;cases this
theorem HSt.tdp (h:HSt H0 H kp tp dp ws kn td ds ks kvs des):tp≠dp:=fun e=>by
 have:=h.dat;rw [← e,h.tat] at this;cases this
theorem xAkc {xs:List V}:∀ ys,(HO.lst xs)≠.tup ys:=fun ys e=>by cases e
theorem dt_tup {xs:List (List Key×V)}:∀ ys,(HO.dT xs)≠.tup ys:=fun ys e=>by cases e
theorem HSt.row (h:HSt H0 H kp tp dp ws kn td ds ks kvs des) {i:Nat} {k:Addr} {r:List Nat} (e:ks[i]?=some k):HSt H0 (upd H k (.lst (rowV r))) kp tp dp ws (kn.set i r) td ds ks kvs des:=by
 have hm:k∈ks:=qo e;have hi:i<ks.length:=(qx.mp e).1;refine ⟨h.same.wr (h.fr k hm),?_,by rw [wj];exact h.klen,fun j k' e'=>?_,h.nd,h.kk,h.kd,h.dk,h.fk,h.ft,h.fd,h.fr,?_,fun d hd=>?_,h.tlen,?_,h.deeds.wr (h.rows i k e) xAkc⟩
 ·rw [xAah (fun z=>h.kk (by rw [z];exact hm))];exact h.kat
 ·by_cases q:i=j
  ·subst q
   have:k'=k:=by rw [e] at e';exact (Option.some.inj e').symm
   subst this;rw [xAae];show _=some (HO.lst (rowV ((kn.set i r).getD i [])));rw [getD_set_self (by rw [← h.klen];exact hi)]
  ·have hne:k'≠k:=fun z=>by
    subst z;exact q (xAmy h.nd e e')
   rw [xAah hne];show _=some (HO.lst (rowV ((kn.set i r).getD j [])));rw [xAat q];exact h.rows j k' e'
 ·rw [xAah (h.tk hm)];exact h.tat
 ·obtain ⟨q,a,b,c1,c2,c3⟩:=h.tab d hd
  exact ⟨q,a,by rw [xAah (fun z=>c3 (by rw [z];exact hm))];exact b,c1,c2,c3⟩
 ·rw [xAah (fun z=>h.dk (by rw [z];exact hm))];exact h.dat
theorem HSt.swap (h:HSt H0 H kp tp dp ws kn td ds ks kvs des) {i:Nat} {p:Addr} {r:List Nat} (hi:i<kn.length) (hp:H p=none):HSt H0 (upd (upd H p (.lst (rowV r))) kp (.lst ((ks.set i p).map V.ref))) kp tp dp ws (kn.set i r) td ds (ks.set i p) kvs des:=by
 have g:=h.mono (Same.new (o:=.lst (rowV r)) hp)
 have hi':i<ks.length:=by rw [h.klen];exact hi
 have ne:∀ {a o},H a=some o->p≠a:=fun e z=>by subst z;rw [hp] at e;cases e
 have pk:p∉ks:=fun m=>by
  obtain ⟨j,hj,e2⟩:=zu.mp m;exact ne (h.rows j p (by rw [qi hj,e2])) rfl
 have mem:∀ {x},x∈ks.set i p->x∈ks\/x=p:=fun m=>jq m
 have h0:H0 p=none:=by
  cases e:H0 p with
  | none=>rfl
  | some o=>rw [h.same _ _ e] at hp;cases hp
 refine ⟨g.same.wr h.fk,xAae,by rw [wj,wj];exact h.klen,fun j k' e'=>?_,?_,fun m=>?_,h.kd,fun m=>?_,h.fk,h.ft,h.fd,fun k m=>?_,?_,fun d hd=>?_,h.tlen,?_,g.deeds.wr g.kat xAkc⟩
 ·by_cases q:i=j
  ·subst q
   rw [yd hi'] at e';cases e';rw [xAah (ne h.kat),xAae];show _=some (HO.lst (rowV ((kn.set i r).getD i [])));rw [getD_set_self hi]
  ·rw [w6 q] at e'
   have hm:k'∈ks:=qo e';rw [xAah (fun z=>h.kk (by rw [← z];exact hm))];show _=some (HO.lst (rowV ((kn.set i r).getD j [])));rw [xAat q];exact g.rows j k' e'
 ·exact xAhd h.nd pk
 ·rcases mem m with m | m
  ·exact h.kk m
  ·exact ne h.kat m.symm
 ·rcases mem m with m | m
  ·exact h.dk m
  ·exact ne h.dat m.symm
 ·rcases mem m with m | m
  ·exact h.fr k m
  ·rw [m];exact h0
 ·rw [xAah h.tkp];exact g.tat
 ·obtain ⟨q,a,b,c1,c2,c3⟩:=h.tab d hd
  refine ⟨q,a,?_,c1,c2,fun m=>?_⟩
  ·rw [xAah c1,xAah (fun z=>ne b z.symm)];exact b
  ·rcases mem m with m | m
   ·exact c3 m
   ·exact ne b m.symm
 ·rw [xAah (fun z=>h.kd z.symm)];exact g.dat
theorem HSt.put (h:HSt H0 H kp tp dp ws kn td ds ks kvs des) {d:Dd} {q:Addr} (hq:H q=some (.lst (rowV d.hd))) (q1:q≠kp) (q2:q≠dp) (q3:q∉ks) (un:∀ e∈td,keyD e≠keyD d) :
  HSt H0 (upd H tp (.dT (putK kvs (keyD d) (.ref q)))) kp tp dp ws kn (td++[d]) ds ks (putK kvs (keyD d) (.ref q)) des:=by
 have qt:q≠tp:=fun z=>by subst z;rw [h.tat] at hq;cases hq
 refine ⟨h.same.wr h.ft,?_,h.klen,fun i k e=>?_,h.nd,h.kk,h.kd,h.dk,h.fk,h.ft,h.fd,h.fr,xAae,fun e he=>?_,?_,?_,h.deeds.wr h.tat dt_tup⟩
 ·rw [xAah (fun z=>h.tkp z.symm)];exact h.kat
 ·rw [xAah (fun z=>h.tk (qo e) z.symm)];exact h.rows i k e
 ·rcases zj.mp he with m | m
  ·obtain ⟨q',a,b,c⟩:=h.tab e m
   refine ⟨q',by rw [xAjj,if_neg (un e m)];exact a,?_,c⟩;rw [xAah (fun z=>by subst z;rw [h.tat] at b;cases b)];exact b
  ·rw [zb.mp m]
   exact ⟨q,by rw [xAjj,if_pos rfl],by rw [xAah qt];exact hq,q1,q2,q3⟩
 ·have:=xAcg kvs (keyD d) (.ref q)
  have:=h.tlen;rw [qv,zk];omega
 ·rw [xAah (fun z=>h.tdp z.symm)];exact h.dat
theorem HSt.add (h:HSt H0 H kp tp dp ws kn td ds ks kvs des) {d:Dd} {v:V} (hd:DeedAt H ws v d):HSt H0 (upd H dp (.lst (des++[v]))) kp tp dp ws kn td (ds++[d]) ks kvs (des++[v]):=by
 refine ⟨h.same.wr h.fd,?_,h.klen,fun i k e=>?_,h.nd,h.kk,h.kd,h.dk,h.fk,h.ft,h.fd,h.fr,?_,fun e he=>?_,h.tlen,xAae,(h.deeds.snoc hd).wr h.dat xAkc⟩
 ·rw [xAah h.kd];exact h.kat
 ·rw [xAah (fun z=>h.dk (by rw [← z];exact qo e))];exact h.rows i k e
 ·rw [xAah h.tdp];exact h.tat
 ·obtain ⟨q,a,b,c1,c2,c3⟩:=h.tab e he
  exact ⟨q,a,by rw [xAah c2];exact b,c1,c2,c3⟩
theorem HSt.retab {d d2:Dd} (h:HSt H0 H kp tp dp ws kn (td++[d]) ds ks kvs des) (e:keyD d2=keyD d) (e2:d2.hd=d.hd):HSt H0 H kp tp dp ws kn (td++[d2]) ds ks kvs des :=
 ⟨h.same,h.kat,h.klen,h.rows,h.nd,h.kk,h.kd,h.dk,h.fk,h.ft,h.fd,h.fr,h.tat,fun x hx=>by
  rcases zj.mp hx with m | m
  ·exact h.tab x (w5 _ m)
  ·rw [zb.mp m,e,e2]
   exact h.tab d (zt _ (zb.mpr rfl)),by have:=h.tlen;rw [qv,zk] at this ⊢;exact this,h.dat,h.deeds⟩
theorem HSt.guard (h:HSt H0 H kp tp dp ws kn td ds ks kvs des) {p:Addr} {o:HO} (hp:H p=none) (s:Same H H') (e:H' p=some o):HSt (upd H0 p o) H' kp tp dp ws kn td ds ks kvs des:=by
 have ne:∀ {a u},H a=some u->a≠p:=fun {a u} e1 z=>by rw [z,hp] at e1;cases e1
 have g:=h.mono s;refine ⟨fun b u q=>?_,g.kat,g.klen,g.rows,g.nd,g.kk,g.kd,g.dk,?_,?_,?_,fun k hk=>?_,g.tat,g.tab,g.tlen,g.dat,g.deeds⟩
 ·by_cases z:b=p
  ·subst z
   rw [xAae] at q;rw [e];exact q
  ·rw [xAah z] at q
   exact g.same b u q
 ·rw [xAah (ne h.kat)];exact h.fk
 ·rw [xAah (ne h.tat)];exact h.ft
 ·rw [xAah (ne h.dat)];exact h.fd
 ·obtain ⟨i,hi,e2⟩:=zu.mp hk
  rw [xAah (ne (h.rows i k (by rw [qi hi,e2])))];exact h.fr k hk
theorem HSt.weak {H1:Hp} (s:Same H0 H1) (h:HSt H1 H kp tp dp ws kn td ds ks kvs des):HSt H0 H kp tp dp ws kn td ds ks kvs des :=
 ⟨s.trans h.same,h.kat,h.klen,h.rows,h.nd,h.kk,h.kd,h.dk,s.free h.fk,s.free h.ft,s.free h.fd,fun k hk=>s.free (h.fr k hk),h.tat,h.tab,h.tlen,h.dat,h.deeds⟩
theorem HSt.rowAt (h:HSt H0 H kp tp dp ws kn td ds ks kvs des) {i:Nat} (hi:i<kn.length):∃ k,ks[i]?=some k/\H k=some (.lst (rowV (rowOf kn i)))/\atI (ks.map V.ref) (i:Int)=some (.ref k):=by
 have hi':i<ks.length:=by rw [h.klen];exact hi
 exact ⟨ks[i],qi hi',h.rows i _ (qi hi'),xAcp (by rw [ql,qi hi'];rfl)⟩
end
theorem atI_row {r:List Nat} {i:Nat} (h:i<r.length):atI (rowV r) (i:Int)=some (nV (at0 r i)):=xAcp (by
 rw [ql,qi h];unfold at0
 rw [qq,qi h];rfl)
theorem atI_0 {α:Type} {xs:List α} {j:Nat} {v:α} (h:atI xs (j:Int)=some v):atI xs (0+(j:Int))=some v:=by rw [Int.zero_add];exact h
theorem ixN_nat {n i:Nat} (h:i<n):ixN n (i:Int)=some i:=by
 unfold ixN;rw [if_pos (by omega),if_pos (by omega)]
 simp
theorem rowV_set (r:List Nat) (i x:Nat):(rowV r).set i (nV x)=rowV (r.set i x):=by
 unfold rowV;rw [yj]
theorem max_nat (a b:Nat):(if (b:Int)>(a:Int) then (b:Int) else (a:Int))=((max a b:Nat):Int):=by
 split <;> omega
theorem flat_zero (m:Nat):(List.replicate ((m:Int).toNat) [V.int 0]).flatten=rowV (List.replicate m 0):=by
 rw [Int.toNat_natCast]
 induction m with
 | zero=>rfl
 | succ m ih =>
  rw [wk,vt,ih,wk];rfl
theorem keyD_ne {a b:Dd} (h:¬ (a.who=b.who/\a.num=b.num)):keyD a≠keyD b:=fun e=>by
 unfold keyD at e;injection e with e1 e2;injection e2 with e2 _;injection e1 with e1;injection e2 with e2;exact h ⟨by omega,by omega⟩
theorem replicate_rows {m i:Nat} (h:i<m):rowOf (List.replicate m (List.replicate m 0)) i=List.replicate m 0:=by
 unfold rowOf;rw [qq,vn,if_pos h];rfl
end Hs
namespace My
open PySem L2 PyProof.Rows
theorem szOk {n:Nat} (h:Nat.ble n 1000=true):n≤sizeLine:=zf (xAak (y8 h))
theorem cm3 {x m:Int} {j:Nat} (h0:0<m) (h1:m≤2147483647) (hj:j<31):-(2 ^ 64)<x % m+(0+(j:Int))+2/\x % m+(0+(j:Int))+2<2 ^ 64:=by
 have a:=xAbk x h0;have b:=xAbn x h0;omega
theorem xAte:∀ c∈("abcdefghijklmnopqrstuvwxyz":Str).cps.toList,97≤c/\c≤122:=by decide +kernel
theorem xAox {α:Type} {xs:List α} {i:Int} {v:α} (h:atI xs i=some v):v∈xs:=by
 unfold atI at h
 cases e:ixN xs.length i with
 | none=>rw [e] at h;cases h
 | some j=>rw [e] at h;exact qo h
theorem xAfe (z:Str) (c:Nat):(z++⟨#[c]⟩:Str).cps.toList=z.cps.toList++[c]:=by
 show (z.cps++#[c]).toList=_
 simp
theorem cut7 (z:Str):(cutS z none (some 7)).cps.toList=z.cps.toList.take 7:=by
 unfold cutS;show (z.cps.toList.drop 0).take (min 7 z.length - 0)=_;rw [yf,vg]
 by_cases h:7≤z.length
 ·rw [Nat.min_eq_left h]
 ·have hl:z.cps.toList.length=z.length:=by simp;rfl
  rw [Nat.min_eq_right (by omega),y9 (by omega),y9 (by omega)]
theorem xAqp {z:Str} {c:Nat} (h:IsW z) (hc:97≤c/\c≤122):IsW (cutS z none (some 7)++⟨#[c]⟩):=by
 have e:(cutS z none (some 7)++⟨#[c]⟩:Str).cps.toList=z.cps.toList.take 7++[c]:=by rw [xAfe,cut7]
 have sz:(cutS z none (some 7)++⟨#[c]⟩:Str).cps.size=(z.cps.toList.take 7).length+1:=by rw [← ze,e,qv,zk]
 refine ⟨by omega,?_,fun d hd=>?_⟩
 ·rw [sz,z0];omega
 ·rw [e] at hd
  rcases zj.mp hd with q | q
  ·exact h.2.2 d (wy q)
  ·rw [zb.mp q];exact hc
structure RL (H:Hp) (p:Addr) (ws:List Str):Prop where
 at':H p=some (.lst (ws.map V.str))
 pos:0<ws.length
 few:ws.length≤6
 wd:∀ w∈ws,IsW w
theorem RL.mono {H H':Hp} {p:Addr} {ws:List Str} (r:RL H p ws) (s:Same H H'):RL H' p ws:=⟨s _ _ r.at',r.pos,r.few,r.wd⟩
theorem RL.len {H:Hp} {p:Addr} {ws:List Str} (r:RL H p ws):(0:Int)<((ws.map V.str).length:Int)/\((ws.map V.str).length:Int)<1073741824:=by
 have a:=r.pos;have b:=r.few;rw [qg];omega
structure DR (H:Hp) (p:Addr) (ns:List Int) (n:Nat):Prop where
 at':H p=some (.lst (List.map V.int ns))
 len:n≤ns.length
 few:ns.length≤100
theorem DR.mono {H H':Hp} {p:Addr} {ns:List Int} {n:Nat} (r:DR H p ns n) (s:Same H H'):DR H' p ns n:=⟨s _ _ r.at',r.len,r.few⟩
theorem DR.get {H:Hp} {p:Addr} {ns:List Int} {n:Nat} (r:DR H p ns n) (k:Nat) (h:k<n):∃ i,atI (List.map V.int ns) (k:Int)=some (.int i):=by
 have hk:k<ns.length:=qz h r.len;exact ⟨ns[k],xAcp (by rw [ql,qi hk];rfl)⟩
def sp_fAm (_:PySem.W.Frag):Sp:=fun vs H Q _=>∃ i,∃ n:Nat,vs=[.int i,.int n]/\n≤30/\∀ H' p ns,Same H H'->H p=none->DR H' p ns n->ns.length=n->Q (.ref p) H'
def sp_fAr (_:PySem.W.Frag):Sp:=fun vs H Q _=>∃ i,vs=[.int i]/\∀ z:Str,IsW z->Q (.str z) H
def sp_fAq (_:PySem.W.Frag):Sp:=fun vs H Q _=>∃ i,vs=[.int i]/\∀ H' p ws,Same H H'->H p=none->RL H' p ws->2≤ws.length->ws.Nodup->Q (.ref p) H'
def spD (P:List Str->PyData->Prop):Sp:=fun vs H Q _=>∃ i p ws,vs=[.int i,.ref p]/\RL H p ws/\∀ H' v d,Same H H'->DT H' v d->P ws d->Q v H'
def tupP (P:List Str->List PyData->Prop) (ws:List Str) (d:PyData):Prop:=∃ ds,d=.tuple ds/\P ws ds
def sp_fAw (_:PySem.W.Frag):Sp:=spD (tupP NameD)
def sp_fAt (_:PySem.W.Frag):Sp:=spD (tupP PartD)
def sp_fAg (_:PySem.W.Frag):Sp:=spD (tupP SnD)
def sp_fAu (_:PySem.W.Frag):Sp:=spD SideD
def sp_fAv (_:PySem.W.Frag):Sp:=spD SignD
def sp_fAi (_:PySem.W.Frag):Sp:=spD BrD
def sp_fAk (_:PySem.W.Frag):Sp:=fun vs H Q _=>∃ d p ws ns,vs=[.ref d,.ref p]/\RL H p ws/\DR H d ns 1/\∀ H' v sg,Same H H'->DT H' v (.tuple sg)->1≤sg.length->sg.length≤12->(∀ x∈sg,SignD ws x)->Q v H'
def sp_fAe (_:PySem.W.Frag):Sp:=fun vs H Q _=>∃ d p ws ns,vs=[.ref d,.ref p]/\RL H p ws/\DR H d ns 1/\∀ H' v (nn:List (List PyData)),Same H H'->DT H' v (.tuple (nn.map .tuple))->1≤nn.length->nn.length≤12->(∀ x∈nn,SnD ws x)->nn.Nodup->Q v H'
def sp_fAb (_:PySem.W.Frag):Sp:=fun vs H Q _=>∃ i d p ws ns,vs=[.int i,.ref d,.ref p]/\RL H p ws/\DR H d ns 6/\∀ H' v wt,Same H H'->DT H' v (.tuple wt)->(∀ num,WhatD ws num wt)->Q v H'
def sp_fAa (_:PySem.W.Frag):Sp:=fun vs H Q _=>∃ i d p ws ns,vs=[.int i,.ref d,.ref p]/\RL H p ws/\DR H d ns 6/\∀ H' v wt,Same H H'->DT H' v (.tuple wt)->(∀ num,WhatD ws num wt)->Q v H'
def sp_fAs (_:PySem.W.Frag):Sp:=fun vs H Q _=>∃ d p ws ns n,vs=[.ref d,.ref p,.int n]/\RL H p ws/\DR H d ns 8/\∀ H' v wt,Same H H'->DT H' v (.tuple wt)->WhatD ws n wt->Q v H'
section
variable {K:PySem.W.Frag} {vs:List V} {H:Hp} {Q:VK} {E:XK}
theorem xAtf (h:sp_fAm K vs H Q E):vs.length=2:=by obtain ⟨_,_,rfl,_⟩:=h;rfl
theorem xAtg (h:sp_fAr K vs H Q E):vs.length=1:=by obtain ⟨_,rfl,_⟩:=h;rfl
theorem xAth (h:sp_fAq K vs H Q E):vs.length=1:=by obtain ⟨_,rfl,_⟩:=h;rfl
theorem xAti (h:sp_fAw K vs H Q E):vs.length=2:=by obtain ⟨_,_,_,rfl,_⟩:=h;rfl
theorem xAtj (h:sp_fAt K vs H Q E):vs.length=2:=by obtain ⟨_,_,_,rfl,_⟩:=h;rfl
theorem xAtk (h:sp_fAg K vs H Q E):vs.length=2:=by obtain ⟨_,_,_,rfl,_⟩:=h;rfl
theorem xAtl (h:sp_fAu K vs H Q E):vs.length=2:=by obtain ⟨_,_,_,rfl,_⟩:=h;rfl
theorem xAtm (h:sp_fAv K vs H Q E):vs.length=2:=by obtain ⟨_,_,_,rfl,_⟩:=h;rfl
theorem xAtn (h:sp_fAi K vs H Q E):vs.length=2:=by obtain ⟨_,_,_,rfl,_⟩:=h;rfl
theorem xAto (h:sp_fAk K vs H Q E):vs.length=2:=by obtain ⟨_,_,_,_,rfl,_⟩:=h;rfl
theorem xAtp (h:sp_fAe K vs H Q E):vs.length=2:=by obtain ⟨_,_,_,_,rfl,_⟩:=h;rfl
theorem xAtq (h:sp_fAb K vs H Q E):vs.length=3:=by obtain ⟨_,_,_,_,_,rfl,_⟩:=h;rfl
theorem xAtr (h:sp_fAa K vs H Q E):vs.length=3:=by obtain ⟨_,_,_,_,_,rfl,_⟩:=h;rfl
theorem xAts (h:sp_fAs K vs H Q E):vs.length=3:=by obtain ⟨_,_,_,_,_,rfl,_⟩:=h;rfl
end
def sp_fAj (K:PySem.W.Frag):Sp:=fun vs H Q _=>∃ sp ns most,vs=[.ref sp,.int most]/\SqL K H sp (List.map V.int ns)/\ns.length≤63 ∧
 ∀ H' p rp dp ws ds des,Same H H'->H p=none->H' p=some (.tup [.ref rp,.ref dp])->RL H' rp ws->2≤ws.length->ws.Nodup->H dp=none->H' dp=some (.lst des)->Hs.Deeds H' ws des ds->Hs.Wh ws.length ds->(∀ d∈ds,BrD ws d.br/\WhatD ws d.num d.wt)->ds.length≤63->Q (.ref p) H'
theorem xAtt {K:PySem.W.Frag} {vs:List V} {H:Hp} {Q:VK} {E:XK} (h:sp_fAj K vs H Q E):vs.length=2:=by obtain ⟨_,_,_,rfl,_⟩:=h;rfl
theorem xAkd (b:Bool):(0:Int)≤(if b=true then 1 else 0):=by cases b <;> decide
theorem xAff (b:Bool) {x y:V}:(if b=true then 1 else 0:Int)<(([x,y]:List V).length:Int):=by cases b <;> simp
theorem xAfg {ns:List Int} {lo hi:Option Int} {x:V} (h:x∈cutV (List.map V.int ns) lo hi):∃ m,x=V.int m:=by
 unfold cutV at h;obtain ⟨n,_,e⟩:=qk.mp (ja (wy h));exact ⟨n,e.symm⟩
def lastC (z:Str):Option Nat:=z.cps.toList.getLast?
def Chain (ws:List Str) (i:Nat) (w:Str):Prop:=w∉ws\/∃ S:List Str,S.Nodup/\(∀ x∈S,x∈ws)/\i≤S.length+1/\(∀ x∈S,∃ j,j+1<i/\lastC x=some (97+j))/\(i=0\/lastC w=some (97+(i - 1)))
theorem xAke (ws:List Str) (w:Str):Chain ws 0 w:=.inr ⟨[],wx,(fun _ z=>nomatch z),by omega,(fun _ z=>nomatch z),.inl rfl⟩
theorem xAga (z:Str) (c:Nat):lastC (z++⟨#[c]⟩)=some c:=by
 unfold lastC;show ((z.cps++#[c]).toList).getLast?=some c
 simp
theorem xAkf {ws:List Str} {i:Nat} {w z:Str} (h:Chain ws i w) (hin:w∈ws):Chain ws (i+1) (z++⟨#[97+i]⟩):=by
 rcases h with h | ⟨S,nd,sub,len,lst,lw⟩
 ·exact absurd hin h
 ·right
  rcases lw with rfl | lw
  ·exact ⟨[],List.nodup_nil,(fun _ z=>nomatch z),by simp,(fun _ z=>nomatch z),.inr (xAga _ _)⟩
  ·by_cases hi:i=0
   ·subst hi
    exact ⟨[],List.nodup_nil,(fun _ z=>nomatch z),by simp,(fun _ z=>nomatch z),.inr (xAga _ _)⟩
   ·refine ⟨w::S,zo.mpr ⟨fun m=>?_,nd⟩,fun x hx=>?_,by rw [qy];omega,fun x hx=>?_,.inr (xAga _ _)⟩
    ·obtain ⟨j,hj,e⟩:=lst w m
     rw [lw] at e;have:=Option.some.inj e;omega
    ·rcases zg.mp hx with rfl | hx
     ·exact hin
     ·exact sub x hx
    ·rcases zg.mp hx with rfl | hx
     ·exact ⟨i - 1,by omega,lw⟩
     ·obtain ⟨j,hj,e⟩:=lst x hx
      exact ⟨j,by omega,e⟩
theorem xAmz {ws:List Str} {w:Str} (h:Chain ws 8 w) (hl:ws.length≤6):w∉ws:=by
 rcases h with h | ⟨S,nd,sub,len,_,_⟩
 ·exact h
 ·have:=nodup_len nd sub
  omega
theorem abc_at {c ch:Nat} (h:c<8) (e:("abcdefgh":Str).cps[c]?=some ch):ch=97+c:=by
 have q:("abcdefgh":Str).cps=#[97,98,99,100,101,102,103,104]:=by decide +kernel
 rw [q] at e
 have hc:c=0\/c=1\/c=2\/c=3\/c=4\/c=5\/c=6\/c=7:=by omega
 rcases hc with rfl | rfl | rfl | rfl | rfl | rfl | rfl | rfl <;> (simp at e;omega)
theorem xAna (ws:List Str):(ws.map V.str).all flatV=true:=by
 rw [List.all_map];exact vv.mpr fun _ _=>rfl
theorem xAqq (w:Str) (ws:List Str):inV (.str w) (ws.map V.str)=decide (w∈ws):=by
 unfold inV
 induction ws with
 | nil=>rfl
 | cons x ws ih =>
  rw [zh,va,ih];show (x==w||decide (w∈ws))=decide (w∈x::ws)
  by_cases e:x=w
  ·subst e;simp
  ·have e':¬ w=x:=fun z=>e z.symm
   simp [e,e']
theorem xAkg {ws:List Str} {w:Str} (nd:ws.Nodup) (h:w∉ws):(ws++[w]).Nodup:=xAjm nd h
theorem xAtu (ns:List Int) (lo hi:Option Int):cutV (List.map V.int ns) lo hi=List.map V.int ((ns.drop (HT.sIx ns.length 0 lo)).take (HT.sIx ns.length ns.length hi - HT.sIx ns.length 0 lo)):=by
 unfold cutV;rw [qg,List.map_take,List.map_drop]
theorem DR.from {H H':Hp} {d q:Addr} {ns:List Int} {n:Nat} (r:DR H d ns n) (k:Nat) (h:k≤n) (e:H' q=some (.lst (cutV (List.map V.int ns) (some (k:Int)) none))):DR H' q (ns.drop k) (n - k):=by
 have hl:=r.len;refine ⟨?_,by rw [vq];omega,by have:=r.few;rw [vq];omega⟩;rw [e,xAtu,HT.sIx_nat,HT.sIx_none,Nat.min_eq_left (by omega),y9 (by rw [vq];exact qh _)]
end My
namespace L2
open PySem PySem.Spec PyProof.Rows
mutual
def sk:PyData->PyData->Bool
 | .none,.none=>true
 | .bool _,.bool _=>true
 | .int _,.int _=>true
 | .str _,.str _=>true
 | .tuple xs,.tuple ys=>sks xs ys
 | _,_=>false
def sks:List PyData->List PyData->Bool
 | [],_=>true
 | _::_,[]=>true
 | x::xs,y::ys=>sk x y&&sks xs ys
end
mutual
def ltD:PyData->PyData->Bool
 | .bool a,.bool b=>!a&&b
 | .int i,.int j=>decide (i<j)
 | .str x,.str y=>decide (x.cps.toList<y.cps.toList)
 | .tuple xs,.tuple ys=>ltDs xs ys
 | _,_=>false
def ltDs:List PyData->List PyData->Bool
 | [],[]=>false
 | [],_::_=>true
 | _::_,[]=>false
 | x::xs,y::ys=>if PyData.eqv x y=true then ltDs xs ys else ltD x y
end
mutual
theorem sk_eq:∀ (a b:PyData),sk a b=true->(PyData.eqv a b=true↔a=b)
 | .tuple xs,b,h=>by
  cases b with
  | tuple ys=>simp only [PyData.eqv,PyData.tuple.injEq];exact xAtv xs ys (by simpa [sk] using h)
  | _=>simp [sk] at h
 | .none,b,h=>by cases b <;> simp_all [sk,PyData.eqv]
 | .bool _,b,h=>by cases b <;> simp_all [sk,PyData.eqv]
 | .int _,b,h=>by cases b <;> simp_all [sk,PyData.eqv]
 | .str _,b,h=>by cases b <;> simp_all [sk,PyData.eqv]
 | .list _,b,h=>by cases b <;> simp [sk] at h
 | .dict _,b,h=>by cases b <;> simp [sk] at h
theorem xAtv:∀ (xs ys:List PyData),sks xs ys=true->(PyData.eqvAll xs ys=true↔xs=ys)
 | [],ys,_=>by cases ys <;> simp [PyData.eqvAll]
 | x::xs,[],_=>by simp [PyData.eqvAll]
 | x::xs,y::ys,h=>by
  rw [sks,zi] at h
  simp only [PyData.eqvAll,Bool.and_eq_true,sk_eq x y h.1,xAtv xs ys h.2,List.cons.injEq]
end
theorem xAtw {x y:Str} (h:x.cps.toList=y.cps.toList):x=y:=by
 obtain ⟨a⟩:=x;obtain ⟨b⟩:=y;exact congrArg Str.mk (Array.ext' h)
mutual
theorem xAea:∀ a:PyData,ltD a a=false
 | .tuple xs=>by rw [ltD];exact xAkh xs
 | .none=>rfl
 | .bool b=>by cases b <;> rfl
 | .int i=>by simp [ltD]
 | .str x=>by simp [ltD,List.lt_irrefl]
 | .list _=>rfl
 | .dict _=>rfl
theorem xAkh:∀ xs:List PyData,ltDs xs xs=false
 | []=>rfl
 | x::xs=>by
  rw [ltDs,xAkh xs,xAea x]
  split <;> rfl
end
mutual
theorem xAoy:∀ (a b:PyData),sk a b=true->ltD a b=false->ltD b a=false->a=b
 | .tuple xs,b,h,h1,h2=>by
  cases b with
  | tuple ys=>exact congrArg PyData.tuple (xAki xs ys (by simpa [sk] using h) (by simpa [ltD] using h1) (by simpa [ltD] using h2))
  | _=>simp [sk] at h
 | .none,b,h,_,_=>by cases b <;> simp_all [sk]
 | .bool a,b,h,h1,h2=>by
  cases b with
  | bool c=>cases a <;> cases c <;> simp_all [ltD]
  | _=>simp [sk] at h
 | .int i,b,h,h1,h2=>by
  cases b with
  | int j=>simp only [ltD,decide_eq_false_iff_not] at h1 h2;exact congrArg _ (by omega)
  | _=>simp [sk] at h
 | .str x,b,h,h1,h2=>by
  cases b with
  | str y =>
   simp only [ltD,decide_eq_false_iff_not] at h1 h2
   exact congrArg _ (xAtw (List.le_antisymm (jb.mp h2) (jb.mp h1)))
  | _=>simp [sk] at h
 | .list _,b,h,_,_=>by cases b <;> simp [sk] at h
 | .dict _,b,h,_,_=>by cases b <;> simp [sk] at h
theorem xAki:∀ (xs ys:List PyData),sks xs ys=true->ltDs xs ys=false->ltDs ys xs=false->xs=ys
 | [],[],_,_,_=>rfl
 | [],_::_,_,h,_=>by simp [ltDs] at h
 | _::_,[],_,_,h=>by simp [ltDs] at h
 | x::xs,y::ys,h,h1,h2=>by
  rw [sks,zi] at h
  by_cases e:x=y
  ·subst e
   have ex:PyData.eqv x x=true:=(sk_eq x x h.1).mpr rfl;rw [ltDs,if_pos ex] at h1 h2;rw [xAki xs ys h.2 h1 h2]
  ·have e1:¬ PyData.eqv x y=true:=fun z=>e ((sk_eq x y h.1).mp z)
   have hs:sk y x=true:=xAoz x y h.1;have e2:¬ PyData.eqv y x=true:=fun z=>e ((sk_eq y x hs).mp z).symm;rw [ltDs,if_neg e1] at h1;rw [ltDs,if_neg e2] at h2;exact absurd (xAoy x y h.1 h1 h2) e
theorem xAoz:∀ (a b:PyData),sk a b=true->sk b a=true
 | .tuple xs,b,h=>by
  cases b with
  | tuple ys=>rw [sk];exact xAkj xs ys (by simpa [sk] using h)
  | _=>simp [sk] at h
 | .none,b,h=>by cases b <;> simp_all [sk]
 | .bool _,b,h=>by cases b <;> simp_all [sk]
 | .int _,b,h=>by cases b <;> simp_all [sk]
 | .str _,b,h=>by cases b <;> simp_all [sk]
 | .list _,b,h=>by cases b <;> simp [sk] at h
 | .dict _,b,h=>by cases b <;> simp [sk] at h
theorem xAkj:∀ (xs ys:List PyData),sks xs ys=true->sks ys xs=true
 | [],[],_=>rfl
 | [],_::_,_=>rfl
 | _::_,[],_=>rfl
 | x::xs,y::ys,h=>by
  rw [sks,zi] at h ⊢;exact ⟨xAoz x y h.1,xAkj xs ys h.2⟩
end
mutual
theorem xAtx:∀ (a b c:PyData),sk a b=true->sk b c=true->sk a c=true->ltD a b=true->ltD b c=true->ltD a c=true
 | .tuple xs,b,c,h1,h2,h3,l1,l2=>by
  cases b with
  | tuple ys =>
   cases c with
   | tuple zs=>rw [ltD];exact xApa xs ys zs (by simpa [sk] using h1) (by simpa [sk] using h2) (by simpa [sk] using h3) (by simpa [ltD] using l1) (by simpa [ltD] using l2)
   | _=>simp [sk] at h3
  | _=>simp [sk] at h1
 | .none,b,c,_,_,_,l1,_=>by cases b <;> simp [ltD] at l1
 | .bool a,b,c,h1,h2,h3,l1,l2=>by
  cases b with
  | bool y =>
   cases c with
   | bool z=>cases a <;> cases y <;> cases z <;> simp_all [ltD]
   | _=>simp [sk] at h3
  | _=>simp [sk] at h1
 | .int i,b,c,h1,h2,h3,l1,l2=>by
  cases b with
  | int y =>
   cases c with
   | int z=>simp only [ltD,decide_eq_true_eq] at *;omega
   | _=>simp [sk] at h3
  | _=>simp [sk] at h1
 | .str i,b,c,h1,h2,h3,l1,l2=>by
  cases b with
  | str y =>
   cases c with
   | str z=>simp only [ltD,decide_eq_true_eq] at *;exact List.lt_trans l1 l2
   | _=>simp [sk] at h3
  | _=>simp [sk] at h1
 | .list _,b,c,_,_,_,l1,_=>by cases b <;> simp [ltD] at l1
 | .dict _,b,c,_,_,_,l1,_=>by cases b <;> simp [ltD] at l1
theorem xApa:∀ (xs ys zs:List PyData),sks xs ys=true->sks ys zs=true->sks xs zs=true->ltDs xs ys=true->ltDs ys zs=true->ltDs xs zs=true
 | _,_,[],_,_,_,_,l2=>by
  rename_i ys _ _ _ _
  cases ys <;> simp [ltDs] at l2
 | [],_,_::_,_,_,_,_,_=>rfl
 | x::xs,[],_::_,_,_,_,l1,_=>by simp [ltDs] at l1
 | x::xs,y::ys,z::zs,h1,h2,h3,l1,l2=>by
  rw [sks,zi] at h1 h2 h3
  by_cases e1:x=y
  ·subst e1
   have q1:PyData.eqv x x=true:=(sk_eq x x h1.1).mpr rfl;rw [ltDs,if_pos q1] at l1
   by_cases e2:x=z
   ·subst e2
    rw [ltDs,if_pos q1] at l2 ⊢;exact xApa xs ys zs h1.2 h2.2 h3.2 l1 l2
   ·have q2:¬ PyData.eqv x z=true:=fun w=>e2 ((sk_eq x z h3.1).mp w)
    rw [ltDs,if_neg q2] at l2 ⊢;exact l2
  ·have q1:¬ PyData.eqv x y=true:=fun w=>e1 ((sk_eq x y h1.1).mp w)
   rw [ltDs,if_neg q1] at l1
   by_cases e2:y=z
   ·subst e2
    rw [ltDs,if_neg q1];exact l1
   ·have q2:¬ PyData.eqv y z=true:=fun w=>e2 ((sk_eq y z h2.1).mp w)
    rw [ltDs,if_neg q2] at l2;have l3:=xAtx x y z h1.1 h2.1 h3.1 l1 l2
    have q3:¬ PyData.eqv x z=true:=fun w=>by
     have:=(sk_eq x z h3.1).mp w;subst this;rw [xAea] at l3;cases l3
    rw [ltDs,if_neg q3];exact l3
end
mutual
theorem xAty:∀ (a b c:PyData),sk a b=true->sk b c=true->sk a c=true->ltD a c=true->ltD a b=true\/ltD b c=true
 | .tuple xs,b,c,h1,h2,h3,l=>by
  cases b with
  | tuple ys =>
   cases c with
   | tuple zs=>rw [ltD,ltD];exact xApb xs ys zs (by simpa [sk] using h1) (by simpa [sk] using h2) (by simpa [sk] using h3) (by simpa [ltD] using l)
   | _=>simp [sk] at h3
  | _=>simp [sk] at h1
 | .none,b,c,_,_,_,l=>by cases c <;> simp [ltD] at l
 | .bool a,b,c,h1,h2,h3,l=>by
  cases b with
  | bool y =>
   cases c with
   | bool z=>cases a <;> cases y <;> cases z <;> simp_all [ltD]
   | _=>simp [sk] at h3
  | _=>simp [sk] at h1
 | .int i,b,c,h1,h2,h3,l=>by
  cases b with
  | int y =>
   cases c with
   | int z=>simp only [ltD,decide_eq_true_eq] at *;omega
   | _=>simp [sk] at h3
  | _=>simp [sk] at h1
 | .str i,b,c,h1,h2,h3,l=>by
  cases b with
  | str y =>
   cases c with
   | str z =>
    simp only [ltD,decide_eq_true_eq] at *
    by_cases hab:i.cps.toList<y.cps.toList
    ·exact .inl hab
    ·exact .inr (List.lt_of_le_of_lt (jb.mp hab) l)
   | _=>simp [sk] at h3
  | _=>simp [sk] at h1
 | .list _,b,c,_,_,_,l=>by cases c <;> simp [ltD] at l
 | .dict _,b,c,_,_,_,l=>by cases c <;> simp [ltD] at l
theorem xApb:∀ (xs ys zs:List PyData),sks xs ys=true->sks ys zs=true->sks xs zs=true->ltDs xs zs=true->ltDs xs ys=true\/ltDs ys zs=true
 | xs,_,[],_,_,_,l=>by cases xs <;> simp [ltDs] at l
 | [],[],_::_,_,_,_,_=>.inr rfl
 | [],_::_,_::_,_,_,_,_=>.inl rfl
 | x::xs,[],_::_,_,_,_,_=>.inr rfl
 | x::xs,y::ys,z::zs,h1,h2,h3,l=>by
  rw [sks,zi] at h1 h2 h3
  by_cases e3:x=z
  ·subst e3
   have q3:PyData.eqv x x=true:=(sk_eq x x h3.1).mpr rfl;rw [ltDs,if_pos q3] at l
   by_cases e1:x=y
   ·subst e1
    rw [ltDs,if_pos q3,ltDs,if_pos q3];exact xApb xs ys zs h1.2 h2.2 h3.2 l
   ·have q1:¬ PyData.eqv x y=true:=fun w=>e1 ((sk_eq x y h1.1).mp w)
    have q2:¬ PyData.eqv y x=true:=fun w=>e1 ((sk_eq y x h2.1).mp w).symm;rw [ltDs,if_neg q1,ltDs,if_neg q2]
    cases p1:ltD x y with
    | true=>exact .inl rfl
    | false =>
     cases p2:ltD y x with
     | true=>exact .inr rfl
     | false=>exact absurd (xAoy x y h1.1 p1 p2) e1
  ·have q3:¬ PyData.eqv x z=true:=fun w=>e3 ((sk_eq x z h3.1).mp w)
   rw [ltDs,if_neg q3] at l;rcases xAty x y z h1.1 h2.1 h3.1 l with p | p
   ·left
    have q1:¬ PyData.eqv x y=true:=fun w=>by
     have:=(sk_eq x y h1.1).mp w;subst this;rw [xAea] at p;cases p
    rw [ltDs,if_neg q1];exact p
   ·right
    have q2:¬ PyData.eqv y z=true:=fun w=>by
     have:=(sk_eq y z h2.1).mp w;subst this;rw [xAea] at p;cases p
    rw [ltDs,if_neg q2];exact p
end
def LtAt (A:Around) (s:Shared) (x y:Value) (b:Bool):Prop:=∀ (prog:Program) (w:World) (E:Value->Shared->Prop) (Q:Value->Shared->Prop),Q (.bool b) s->wpAny (model prog w) A (richCompare .Lt x y) Q E s
open SeqAt in
theorem xAkk (l b:Addr) (us vs:Array Value) (n n2:Nat) (dd dd2:Option Addr) (sl sl2:Array (Option Value)) (e:Nat->Bool) (c:Bool) :
  Meets (Builtin.«tuple.__lt__» ⟨[.ref l,.ref b],[]⟩)
   (fun A R s=>s.heap.get? l=some { cls:=.type "tuple",dict:=dd,data:=.seq us n,slots:=sl }/\s.heap.get? b=some { cls:=.type "tuple",dict:=dd2,data:=.seq vs n2,slots:=sl2 } ∧
    (∀ j (h1:j<us.size) (h2:j<vs.size),EqAt A.in1 s us[j] vs[j] (e j)) ∧
    (∀ i (h1:i<us.size) (h2:i<vs.size),(∀ j,j<i->e j=true)->e i=false->LtAt A.in1 s us[i] vs[i] c) ∧
    ((∀ j,j<min us.size vs.size->e j=true)->c=decide (us.size<vs.size))/\R (.ok (.ret (.bool c))) s) :=
 .of_wp fun prog w A R s h=>by
  obtain ⟨hp,g,d,tk,os⟩:=s;obtain ⟨hl,hb,he,hlt,hall,h⟩:=h;have f2:=AutoSeq1.sub_tuple_tuple
  have hZ:(us.toList.zip vs.toList).length=min us.size vs.size:=by simp
  wp_walk using wpAny_loadPart' hl,wpAny_loadPart' hb,wpAny_forIn_list _ (fun rest b s'=>b.1=none/\s'=⟨hp,g,d,tk,os⟩/\∃ i,rest=(us.toList.zip vs.toList).drop i/\∀ j,j<i->e j=true) _
  case turn =>
   rintro ⟨y,x⟩ rest b s' ⟨hb',rfl,i,hz,hi⟩
   have hlt':i<(us.toList.zip vs.toList).length:=by
    rcases yk i (us.toList.zip vs.toList).length with h' | h'
    ·exact h'
    ·rw [List.drop_of_length_le h'] at hz;cases hz
   have h1:i<us.size:=by omega
   have h2:i<vs.size:=by omega
   rw [jr hlt'] at hz;injection hz with hyx hrest
   have hy:y=us[i]:=by have:=congrArg Prod.fst hyx;simpa using this
   have hx:x=vs[i]:=by have:=congrArg Prod.snd hyx;simpa using this
   subst hy hx;refine wpAny_bind (he i h1 h2 prog w _ _ ?_)
   cases hy:e i with
   | true =>
    wp_walk
    exact ⟨rfl,rfl,i+1,hrest,fun j hj=>by
     by_cases z:j=i
     ·rw [z];exact hy
     ·exact hi j (by omega)⟩
   | false =>
    have q:=hlt i h1 h2 hi hy;dsimp only;rw [if_pos (by rfl)];refine wpAny_bind (wpAny_rule (wpAny_bind (q prog w _ _ ?_)));exact wpAny_bind (wpAny_pure (wpAny_pure (wpAny_pure ⟨_,rfl,h⟩)))
  case fin =>
   rintro ⟨b1,b2⟩ s' ⟨hb',rfl,i,hz,hi⟩
   simp only at hb'
   subst hb'
   have hge:min us.size vs.size≤i:=by
    rcases yk i (us.toList.zip vs.toList).length with h' | h'
    ·rw [jr h'] at hz;cases hz
    ·omega
   have:=hall fun j hj=>hi j (by omega)
   wp_walk
   exact ⟨_,rfl,by rw [this] at h;simpa [Builtin.Tuple.tupleCompareSizes] using h⟩
  case h =>
   exact ⟨rfl,rfl,0,rfl,fun j hj=>absurd hj (zv _)⟩
theorem LtAt.tuples {A:Around} {s:Shared} {l b:Addr} {us vs:Array Value} {e:Nat->Bool} {c:Bool} (hl:s.heap.IsTuple l us) (hb:s.heap.IsTuple b vs) (hu:A.units<cLine)
  (he:∀ j (h1:j<us.size) (h2:j<vs.size),SeqAt.EqAt A.in1 s us[j] vs[j] (e j)) (hlt:∀ i (h1:i<us.size) (h2:i<vs.size),(∀ j,j<i->e j=true)->e i=false->LtAt A.in1 s us[i] vs[i] c)
  (hall:(∀ j,j<min us.size vs.size->e j=true)->c=decide (us.size<vs.size)):LtAt A s (.ref l) (.ref b) c:=fun prog w E Q h=>by
 obtain ⟨⟨cls,dd,data,sl⟩,ho,hc,n,hd⟩:=id hl;obtain ⟨⟨cls2,dd2,data2,sl2⟩,ho2,hc2,n2,hd2⟩:=id hb
 simp only at hc hd hc2 hd2
 subst hc hd hc2 hd2
 exact richCompare_meets_room (op:=.Lt) ⟨_,ho,rfl⟩ ⟨_,ho2,rfl⟩ F.slot_tuple_lt F.entry_tuple_lt (F.args_tuple_lt_2 _ _) (xAkk l b us vs n n2 dd dd2 sl sl2 e c)
  ⟨ho,ho2,he,hlt,hall,show Value.bool c≠Value.notImplemented/\Q (.bool c) s from ⟨(fun x=>nomatch x),h⟩⟩ hu
theorem LtAt.ints {A:Around} {s:Shared} (i j:Int) (t u:Tok):LtAt A s (.int i t) (.int j u) (decide (i<j)):=fun prog w E Q h=>PyProof.Rows.lt_int h
theorem LtAt.strs {A:Around} {s:Shared} (i j:Str) (t u:Tok):LtAt A s (.str i t) (.str j u) (decide (i.cps.toList<j.cps.toList)):=fun prog w E Q h=>PyProof.Rows.lt_str h
theorem LtAt.bools {A:Around} {s:Shared} (i j:Bool):LtAt A s (.bool i) (.bool j) (!i&&j):=fun prog w E Q h=>by
 refine PyProof.Rows.lt_bool ?_;cases i <;> cases j <;> exact h
open SeqAt in
theorem xApc:∀ (xs ys:List PyData) (i:Nat),i<xs.length->i<ys.length->(∀ j,j<i->pairEq xs ys j=true)->pairEq xs ys i=false->ltDs xs ys=ltD (xs.getD i .none) (ys.getD i .none)
 | x::xs,y::ys,0,_,_,_,h=>by
  have h':PyData.eqv x y=false:=h;rw [ltDs,if_neg (by rw [h'];decide)];rfl
 | x::xs,y::ys,i+1,h1,h2,hj,h=>by
  have h':PyData.eqv x y=true:=hj 0 (by omega);rw [ltDs,if_pos h'];exact xApc xs ys i (by simpa using h1) (by simpa using h2) (fun j hlt=>hj (j+1) (by omega)) h
 | [],_,_,h1,_,_,_=>absurd h1 (zv _)
 | _::_,[],_,_,h2,_,_=>absurd h2 (zv _)
open SeqAt in
theorem xAkl:∀ (xs ys:List PyData),(∀ j,j<min xs.length ys.length->pairEq xs ys j=true)->ltDs xs ys=decide (xs.length<ys.length)
 | [],[],_=>rfl
 | [],_::_,_=>by simp [ltDs]
 | _::_,[],_=>by simp [ltDs]
 | x::xs,y::ys,h=>by
  have h':PyData.eqv x y=true:=h 0 (by simp);rw [ltDs,if_pos h',xAkl xs ys fun j hj=>h (j+1) (by simp only [List.length_cons];omega)]
  simp
theorem xAtz:∀ (xs ys:List PyData) (i:Nat),i<xs.length->i<ys.length->sks xs ys=true->sk (xs.getD i .none) (ys.getD i .none)=true
 | x::xs,y::ys,0,_,_,h=>by rw [sks,zi] at h;exact h.1
 | x::xs,y::ys,i+1,h1,h2,h=>by
  rw [sks,zi] at h;exact xAtz xs ys i (by simpa using h1) (by simpa using h2) h.2
 | [],_,_,h1,_,_=>absurd h1 (zv _)
 | _::_,[],_,_,h2,_=>absurd h2 (zv _)
theorem xAgb:∀ (xs:List PyData) (i:Nat),i<xs.length->(xs.getD i .none).depth≤PyData.depthAll xs
 | x::xs,0,_=>by show x.depth≤max x.depth _;omega
 | x::xs,i+1,h=>by
  have:=xAgb xs i (by simpa using h);show (xs.getD i .none).depth≤max x.depth (PyData.depthAll xs);omega
 | [],_,h=>absurd h (zv _)
theorem xAcv {h:Heap}:∀ {vs:List Value} {ds:List PyData} {as:List Addr} {i:Nat} (hi:i<vs.length),ReadsAll h vs ds as->∃ bs,Reads h vs[i] (ds.getD i .none) bs
 | _,_,_,0,_,.cons r _=>⟨_,r⟩
 | _,_,_,i+1,hi,.cons _ t=>xAcv (i:=i) (by simpa using hi) t
theorem xAhe {ds:List PyData} {i:Nat} (h:PyData.canLayAll0 ds=true) (hi:i<ds.length):(ds.getD i .none).canLay0=true :=
 xAdy (j:=i) h (by rw [qq,qi hi];rfl)
open SeqAt in
theorem xAkm:∀ (n:Nat) (da db:PyData) (A:Around) (s:Shared) (a b:Value) (as bs:List Addr),da.depth≤n->Reads s.heap a da as->Reads s.heap b db bs->da.canLay0=true->db.canLay0=true->sk da db=true->da≠.none →
  A.units+n<cLine->LtAt A s a b (ltD da db)
 | n,.int i,db,A,s,a,b,as,bs,_,ra,rb,_,_,hk,_,_=>by
  cases db <;> simp [sk] at hk;cases ra;cases rb;exact LtAt.ints _ _ _ _
 | n,.str i,db,A,s,a,b,as,bs,_,ra,rb,_,_,hk,_,_=>by
  cases db <;> simp [sk] at hk;cases ra;cases rb;exact LtAt.strs _ _ _ _
 | n,.bool i,db,A,s,a,b,as,bs,_,ra,rb,_,_,hk,_,_=>by
  cases db <;> simp [sk] at hk;cases ra;cases rb;exact LtAt.bools _ _
 | n,.none,db,A,s,a,b,as,bs,_,_,_,_,_,_,hn,_=>absurd rfl hn
 | n,.list _,db,A,s,a,b,as,bs,_,_,_,_,_,hk,_,_=>by cases db <;> simp [sk] at hk
 | n,.dict _,db,A,s,a,b,as,bs,_,_,_,_,_,hk,_,_=>by cases db <;> simp [sk] at hk
 | 0,.tuple xs,db,A,s,a,b,as,bs,hd,_,_,_,_,_,_,_=>by
  have:PyData.depthAll xs+1≤0:=hd;omega
 | n+1,.tuple xs,db,A,s,a,b,as,bs,hd,ra,rb,ca,cb,hk,_,hu=>by
  cases db with
  | tuple ys =>
   have hks:sks xs ys=true:=by simpa [sk] using hk
   have hd':PyData.depthAll xs≤n:=by
    have:PyData.depthAll xs+1≤n+1:=hd;omega
   cases ra with
   | tuple h1 h2 h3 h4 =>
    cases rb with
    | tuple k1 k2 k3 k4 =>
     rename_i l o us m b' o' vs m'
     have lx:=ReadsAll.length _ _ _ h4;have ly:=ReadsAll.length _ _ _ k4;rw [ze] at lx ly
     have e:ltD (.tuple xs) (.tuple ys)=ltDs xs ys:=by rw [ltD]
     rw [e]
     have eq':∀ j (g1:j<us.size) (g2:j<vs.size),EqAt A.in1 s us[j] vs[j] (pairEq xs ys j):=fun j g1 g2=>by
      obtain ⟨p1,r1⟩:=xAcv (i:=j) (by rw [ze];exact g1) h4;obtain ⟨p2,r2⟩:=xAcv (i:=j) (by rw [ze];exact g2) k4;have dj:=xAgb xs j (by omega);have:=eqAt_reads (xs.getD j .none) (ys.getD j .none) A.in1 s _ _ _ _ r1 r2 (xAhe ca (by omega)) (xAhe cb (by omega)) (by show A.units+1+_<cLine;omega)
      simp only [Array.getElem_toList] at this
      exact this
     refine LtAt.tuples ⟨_,h1,h2,_,h3⟩ ⟨_,k1,k2,_,k3⟩ (by omega) eq' (fun i g1 g2 hj hf=>?_) fun hj=>?_
     ·obtain ⟨p1,r1⟩:=xAcv (i:=i) (by rw [ze];exact g1) h4
      obtain ⟨p2,r2⟩:=xAcv (i:=i) (by rw [ze];exact g2) k4;rw [xApc xs ys i (by omega) (by omega) hj hf];have ski:=xAtz xs ys i (by omega) (by omega) hks
      have:=xAkm n (xs.getD i .none) (ys.getD i .none) A.in1 s _ _ _ _ (qm (xAgb xs i (by omega)) hd') r1 r2 (xAhe ca (by omega)) (xAhe cb (by omega)) ski (fun z=>by
       have hf':PyData.eqv (xs.getD i .none) (ys.getD i .none)=false:=hf;rw [z] at ski hf'
       cases e2:ys.getD i .none <;> rw [e2] at ski hf' <;> simp [sk,PyData.eqv] at ski hf') (by show A.units+1+_<cLine;omega)
      simpa using this
     ·rw [xAkl xs ys fun j h=>hj j (by omega),lx,ly]
  | _=>simp [sk] at hk
end L2
namespace L2
open PySem PySem.Spec PySem.W PyProof.Rows
section
variable {prog:Program} {w:World} {A:Around} {E:Value->Shared->Prop} {s:Shared}
def Ext (h h':Heap):Prop:=∀ b o,h.get? b=some o->h'.get? b=some o
theorem Ext.trans {h h' h'':Heap} (a:Ext h h') (b:Ext h' h''):Ext h h'':=fun c o e=>b c o (a c o e)
theorem Ext.push (h:Heap) (o:Obj):Ext h (h.push o):=fun _ _ e=>Heap.get?_push_of_some _ e
theorem Ext.upd {h h':Heap} {a:Addr} {f:Obj->Obj} (x:Ext h h') (ha:h.objs.size≤a):Ext h (h'.update a f):=fun b o e=>by
 rw [Heap.get?_update_ne _ _ _ _ (qj (qz (Heap.lt_size e) ha))];exact x b o e
def Answers (prog:Program) (w:World) (A:Around) (s:Shared) (ks:List Value) (lt:Nat->Nat->Bool):Prop :=
 ∃ κ,(∀ (Q:SortKind->Shared->Prop),Q κ s->wpAny (model prog w) A (keyKind' ks.toArray) Q (fun _ _=>False) s)/\∀ i j C,i<ks.length->j<ks.length->C (lt i j) s->kas_ask prog w A κ ks i j C s
def Arr (n:Nat) (lt:Nat->Nat->Bool) (p:Array Nat):Prop:=p.Perm (List.toArray (List.range n))/\Srt.Up lt p n
theorem xAhf {n:Nat} {lt:Nat->Nat->Bool} (W:Srt.Swo lt) (h:n<2):Arr n lt (List.toArray (List.range n)):=by
 refine ⟨.refl _,fun i j hij hj=>?_⟩
 have:i=j:=by omega
 subst this;exact W.irr _
def Few (lt:Nat->Nat->Bool) (n:Nat):Prop:=n<64\/∀ i j,i≤j->j<n->lt j i=false
theorem xAkn {vs ks:List Value} {lt:Nat->Nat->Bool} (W:Srt.Swo lt) (hl:ks.length=vs.length) (h64:Few lt vs.length) (h2:¬ vs.length<2) {κ:SortKind} (hq:∀ i j C,i<ks.length->j<ks.length->C (lt i j) s->kas_ask prog w A κ ks i j C s) {R:SortSt->Shared->Prop}
  (hR:∀ st p,Arr vs.length lt p->(arrOf st).map (·.2)=List.toArray (p.toList.map fun i=>vs.getD i Value.none)->failedOf st=none->R st s) :
  wpAny (model prog w) A ((sortRuns').run (SortSt.mk' κ (ks.toArray.zip vs.toArray) #[] 7 none)) (fun r s'=>R r.2 s') E s:=by
 rcases h64 with h64 | up
 ·refine kat_run (G:=fun p s'=>s'=s/\Arr vs.length lt p) hl (by omega) h64 (fun p st s' _ a2 a3 a4=>?_) ?_
  ·obtain ⟨rfl,ar⟩:=a4
   exact hR st p ar (kat_snds hl a2) a3
  ·exact (Srt.sort_ok W (by omega)).wp (fun i j C h1 h2' c=>hq i j C (by omega) (by omega) c) fun p hp=>⟨rfl,hp⟩
 have hz:(List.toArray (List.range vs.length)).size=vs.length:=by simp
 have hq':Tim.Ans prog w A s κ (ks.toArray.zip vs.toArray) vs.length lt:=fun i j C h1 h2 c=>by
  have:=hq i j C (by omega) (by omega) c;rw [kat_ask_eq hl] at this;exact this
 have gi:∀ i,i<vs.length->Srt.g (List.toArray (List.range vs.length)) i=i:=fun i hi=>by
  unfold Srt.g;rw [wa]
  simp [hi]
 have hin:Tim.In vs.length (List.toArray (List.range vs.length)):=fun i hi=>by
  rw [hz] at hi;rw [gi i hi];exact hi
 have run:=Tim.runs_asc (E:=E) (Q:=fun _ st=>R st s) W hq' hin (by rw [hz];omega) (fun i j _ hij hj=>by rw [hz] at hj;rw [gi i (by omega),gi j (by omega)];exact up i j hij (by omega)) fun pd m=>?_
 ·have est:SortSt.mk' κ (ks.toArray.zip vs.toArray) #[] 7 none=Tim.S κ (ks.toArray.zip vs.toArray) (List.toArray (List.range vs.length)) #[] 7:=by
   have e:=kas_range (ks.toArray.zip vs.toArray);rw [show (ks.toArray.zip vs.toArray).size=vs.length by simp [hl]] at e;rw [Tim.S,e]
  rw [est];refine wpAny_mono run (fun r s' h=>?_) fun _ _ e=>e;rw [h.1];exact h.2
 ·exact hR _ _ ⟨.refl _,fun i j hij hj=>by rw [gi i (by omega),gi j hj];exact up i j hij hj⟩ (kat_snds hl rfl) rfl
theorem xAgc {a:Addr} {vs:List Value} {n:Nat} {P:PySem.Fin->Shared->Prop} {lt:Nat->Nat->Bool} (W:Srt.Swo lt) (ho:s.heap.get? a=some (seqObj "list" vs.toArray n)) (hz2:vs.length≤2000) (h64:Few lt vs.length) {h0:Heap} (ha0:h0.objs.size≤a) (x0:Ext h0 s.heap)
  (hans:∀ h',Ext h0 h'->2≤vs.length->Answers prog w A { s with heap:=h' } vs lt)
  (h:∀ h' p c,Ext h0 h'->Arr vs.length lt p->h'.get? a=some (seqObj "list" (List.toArray (p.toList.map fun i=>vs.getD i Value.none)) c)->P (.done (.ret .none)) { s with heap:=h' }) :
  wpAny (model prog w) A (Builtin.«list.sort» ⟨[.ref a],[]⟩) P E s:=by
 obtain ⟨c1,o1⟩:∃ c1,(s.heap.update a (Obj.mapSeq fun _=>#[])).get? a=some (seqObj "list" #[] c1):=⟨_,get?_update_seq ho (fun _=>#[])⟩;have x1:Ext h0 (((s.heap.update a (Obj.mapSeq fun _=>#[])).push (seqObj "tuple" vs.toArray 0)).push (seqObj "list" #[] 0)):=(((x0.upd ha0).trans (.push _ _)).trans (.push _ _));have o3:(((s.heap.update a (Obj.mapSeq fun _=>#[])).push (seqObj "tuple" vs.toArray 0)).push (seqObj "list" #[] 0)).get? a=some (seqObj "list" #[] c1):=Heap.get?_push_of_some _ (Heap.get?_push_of_some _ o1)
 have zl:vs.length≤sizeLine:=by rw [sizeLine_eq];omega
 have last:∀ p,Arr vs.length lt p->∀ (out:Array Value),out=List.toArray (p.toList.map fun i=>vs.getD i Value.none)->out.size≤sizeLine+1/\P (.done (.ret .none)) { s with heap:=(((s.heap.update a (Obj.mapSeq fun _=>#[])).push (seqObj "tuple" vs.toArray 0)).push (seqObj "list" #[] 0)).update a (Obj.mapSeq fun _=>out) }:=fun p ar out eo=>by
  obtain ⟨c2,o2⟩:∃ c2,((((s.heap.update a (Obj.mapSeq fun _=>#[])).push (seqObj "tuple" vs.toArray 0)).push (seqObj "list" #[] 0)).update a (Obj.mapSeq fun _=>out)).get? a=some (seqObj "list" out c2):=⟨_,get?_update_seq o3 (fun _=>out)⟩;refine ⟨?_,h _ p c2 (x1.upd ha0) ar (by rw [← eo];exact o2)⟩;rw [eo,zc,qg,ze,ar.1.size_eq]
  simp
  omega
 rw [list_sort_plain];refine wpAny_bind (listItems_at ho rfl (wpAny_bind (listUpdate_at ho rfl (wpAny_bind (seqEpoch_at o1 rfl (wpAny_bind (wpAny_newTuple (wpAny_bind (wpAny_newList (wpAny_holding ?_) (qu _))) zl)))) (by rw [zc];exact zl) (qu _))));show wpAny (model prog w) A _ P E { s with heap:=((s.heap.update a (Obj.mapSeq fun _=>#[])).push (seqObj "tuple" vs.toArray 0)).push (seqObj "list" #[] 0) };dsimp only
 by_cases h2:vs.toArray.size<2
 ·rw [if_pos h2,if_pos h2]
  have h2':vs.length<2:=by simpa using h2
  have l:=last _ (xAhf W h2') (vs.toArray) (by
   apply jc.mp
   simp only [List.toList_toArray]
   apply wg;intro i
   by_cases hi:i<vs.length
   ·simp [hi]
   ·simp [hi])
  refine wpAny_bind (wpAny_pure ?_);rw [StateT.run_pure];refine wpAny_bind (wpAny_pure ?_);dsimp only
  have e1:(arrOf (SortSt.mk' general' (vs.toArray.zip vs.toArray) #[] 7 none)).map (·.2)=vs.toArray:=by
   apply jc.mp;show ((vs.toArray.zip vs.toArray).map (·.2)).toList=vs;rw [Array.toList_map,Array.toList_zip];exact List.map_snd_zip (qh _)
  rw [e1];refine wpAny_bind (seqEpoch_at o3 rfl (wpAny_bind (listUpdate_at o3 rfl ?_ (qu _) l.1)))
  simp only [bne_self_eq_false,Bool.false_eq_true,if_false]
  exact wpAny_pure l.2
 ·rw [if_neg h2,if_neg h2]
  have h2':¬ vs.length<2:=by simpa using h2
  obtain ⟨κ,hk,hq⟩:=hans _ x1 (by omega);refine wpAny_bind (wpAny_mono (hk (fun k s'=>k=κ/\s'={ s with heap:=((s.heap.update a (Obj.mapSeq fun _=>#[])).push (seqObj "tuple" vs.toArray 0)).push (seqObj "list" #[] 0) }) ⟨rfl,rfl⟩) ?_ fun _ _ z=>z.elim);rintro k s' ⟨rfl,rfl⟩;refine wpAny_bind (wpAny_mono (xAkn (E:=E) (R:=fun st s'=>s'={ s with heap:=((s.heap.update a (Obj.mapSeq fun _=>#[])).push (seqObj "tuple" vs.toArray 0)).push (seqObj "list" #[] 0) }/\∃ p,Arr vs.length lt p/\(arrOf st).map (·.2)=List.toArray (p.toList.map fun i=>vs.getD i Value.none)/\failedOf st=none) W rfl h64 h2' hq fun st p a1 a2 a3=>⟨rfl,p,a1,a2,a3⟩) ?_ fun _ _ z=>z);rintro ⟨⟨⟩,st⟩ s' ⟨rfl,p,ar,eo,hf⟩;have l:=last p ar _ eo;dsimp only;refine wpAny_bind (seqEpoch_at o3 rfl (wpAny_bind (listUpdate_at o3 rfl ?_ (qu _) l.1)));rw [hf]
  simp only [bne_self_eq_false,Bool.false_eq_true,if_false]
  exact wpAny_pure l.2
theorem xAnb {l:Addr} {vs:List Value} {Q:Value->Shared->Prop} {lt:Nat->Nat->Bool} (W:Srt.Swo lt) (hl:s.heap.IsList l vs.toArray) (hz2:vs.length≤2000) (h64:Few lt vs.length)
  (hans:∀ h',Ext s.heap h'->2≤vs.length->Answers prog w A.in1.in1 { s with heap:=h' } vs lt)
  (h:∀ h' a p c,Ext s.heap h'->s.heap.objs.size≤a->Arr vs.length lt p->h'.get? a=some (seqObj "list" (List.toArray (p.toList.map fun i=>vs.getD i Value.none)) c)->Q (.ref a) { s with heap:=h' }) :
  wpAny (model prog w) A (call (.builtin "sorted") [.ref l]) Q E s:=by
 have zl:vs.length≤sizeLine:=by rw [sizeLine_eq];omega
 refine Calls.call_function_entry kind_sorted plain_sorted entry_sorted (args_sorted1 _) ?_;unfold Builtin.«sorted»;refine wpAny_bind (m:=checkCount "sorted" 1 1 _) (wpAny_pure (wpAny_bind (collect_list hl (wpAny_bind (wpAny_newList ?_ zl)) zl)));have hsz:((s.heap.push (seqObj "list" #[] 0)).update s.heap.objs.size (Obj.mapSeq (·++vs.toArray))).objs.size=s.heap.objs.size+1:=(Heap.size_update _ _ _).trans (size_push' _ _);have x1:Ext s.heap (((s.heap.push (seqObj "list" #[] 0)).update s.heap.objs.size (Obj.mapSeq (·++vs.toArray))).push (seqObj "list" vs.toArray 0)):=((Ext.push _ _).upd (qh _)).trans (.push _ _);have o1:(((s.heap.push (seqObj "list" #[] 0)).update s.heap.objs.size (Obj.mapSeq (·++vs.toArray))).push (seqObj "list" vs.toArray 0)).get? (s.heap.objs.size+1)=some (seqObj "list" vs.toArray 0):=hsz▸Heap.get?_push_size _ rfl;show wpAny (model prog w) _ _ _ _ { s with heap:=((s.heap.push (seqObj "list" #[] 0)).update s.heap.objs.size (Obj.mapSeq (·++vs.toArray))).push (seqObj "list" vs.toArray 0) };rw [hsz];refine wpAny_bind (wpAny_holding (wpAny_call_entry slot_list_sort ⟨_,o1,rfl⟩ entry_list_sort (xAgc W o1 hz2 h64 (h0:=s.heap) (wu _) x1 hans fun h' p c x ar e=>?_) (args_list_sort _)));exact ⟨_,rfl,wpAny_pure ⟨_,rfl,h h' _ p c x (wu _) ar e⟩⟩
end
theorem xAhg {n:Nat} (h:n≤2000):n<sizeLine:=we h (by decide)
def isK:Nat->PyData->Prop
 | 0,.int _=>True
 | 1,.str _=>True
 | 2,.tuple (.int _::_)=>True
 | 3,.tuple (.str _::_)=>True
 | 4,.tuple (.tuple _::_)=>True
 | _,_=>False
theorem xAua (t:Nat) (d:PyData):¬ isK (t+5) d:=by
 intro h
 cases d with
 | tuple xs =>
  cases xs with
  | nil=>exact h
  | cons x xs=>cases x <;> exact h
 | _=>exact h
section
variable {prog:Program} {w:World} {A:Around} {s:Shared}
theorem xAqr {x y:Value} {c:Bool} (h:LtAt A s x y c) {Q:Bool->Shared->Prop} {E:Value->Shared->Prop} (q:Q c s):wpAny (model prog w) A (oneLt' false x y) Q E s :=
 kat_one x y (h prog w E _ q)
theorem katlex {b fin:Bool} {Q:Bool->Shared->Prop}:∀ (us vs:List Value) (xs ys:List PyData) (as bs:List Addr) (i:Nat),ReadsAll s.heap us xs as->ReadsAll s.heap vs ys bs->PyData.canLayAll0 xs=true->PyData.canLayAll0 ys=true->sks xs ys=true →
  PyData.depthAll xs≤60->A.units+60<cLine->(i=0->b=true->(∃ p q r r',xs=.int p::r/\ys=.int q::r')\/∃ p q r r',xs=.str p::r/\ys=.str q::r')->fin=decide (us.length<vs.length)->Q (ltDs xs ys) s->KatLex prog w A b fin Q (us.zip vs) i s:=by
 intro us
 induction us with
 | nil =>
  intro vs xs ys as bs i ra rb _ _ _ _ _ _ hf q;cases ra;have ly:=SeqAt.ReadsAll.length _ _ _ rb;show Q fin s;rw [hf]
  cases ys with
  | nil=>rw [wv] at ly ⊢;rw [ly];exact q
  | cons y ys=>rw [ly];exact q
 | cons u us ih =>
  intro vs xs ys as bs i ra rb ca cb hk hd hu h0 hf q
  cases vs with
  | nil =>
   cases rb;cases ra;show Q fin s;rw [hf];exact q
  | cons v vs =>
   cases ra with
   | @cons _ _ x xs _ _ r1 t1 =>
    cases rb with
    | @cons _ _ y ys _ _ r2 t2 =>
     have ca':(x.canLay0&&PyData.canLayAll0 xs)=true:=ca;have cb':(y.canLay0&&PyData.canLayAll0 ys)=true:=cb;rw [zi] at ca' cb';rw [sks,zi] at hk
     have hdx:x.depth≤60/\PyData.depthAll xs≤60:=by
      have:max x.depth (PyData.depthAll xs)≤60:=hd;omega
     have eq':=SeqAt.eqAt_reads x y A s u v _ _ r1 r2 ca'.1 cb'.1 (by omega);refine kat_cons (eq' prog w _ _ ?_)
     cases e:PyData.eqv x y with
     | true =>
      rw [ltDs,if_pos e] at q;refine kat_yes (ih vs xs ys _ _ (i+1) t1 t2 ca'.2 cb'.2 hk.2 hdx.2 hu (fun z=>by omega) ?_ q);rw [hf]
      simp
     | false =>
      rw [ltDs,if_neg (by rw [e];decide)] at q;refine kat_no ?_
      by_cases hb:(b&&i==0)=true
      ·rw [hb]
       rw [zi] at hb;rcases h0 (by simpa using hb.2) hb.1 with ⟨p,p',r,r',e1,e2⟩ | ⟨p,p',r,r',e1,e2⟩
       ·cases e1;cases e2
        cases r1;cases r2;exact oneLt_int q
       ·cases e1;cases e2
        cases r1;cases r2;exact oneLt_str q
      ·rw [Bool.not_eq_true] at hb
       rw [hb]
       exact xAqr (xAkm 60 x y A s u v _ _ hdx.1 r1 r2 ca'.1 cb'.1 hk.1 (fun z=>by
        subst z;have:=hk.1
        cases y <;> simp [sk,PyData.eqv] at this e) hu) q
theorem xAhh {s:Shared}:∀ {vs:List Value} {ds:List PyData} {as:List Addr},ReadsAll s.heap vs ds as->(∀ d∈ds,∃ f r,d=.tuple (f::r))->∃ fs,KatTups s.heap vs fs/\fs.length=vs.length/\∀ v∈fs,∃ f r bs,PyData.tuple (f::r)∈ds/\Reads s.heap v f bs
 | [],_,_,.nil,_=>⟨[],trivial,rfl,fun _ z=>nomatch z⟩
 | v::vs,_,_,.cons (d:=d) (ds:=ds) r t,h=>by
  obtain ⟨fs,k1,k2,k3⟩:=xAhh t fun x hx=>h x (qw _ hx);obtain ⟨f,r',e⟩:=h d qr;subst e
  cases r with
  | tuple h1 h2 h3 h4 =>
   rename_i a o us n
   cases e:us.toList with
   | nil=>rw [e] at h4;cases h4
   | cons u ut =>
    rw [e] at h4
    cases h4 with
    | cons q1 q2 =>
     refine ⟨u::fs,KatTups.cons h1 h2 h3 (by rw [← zw,e];rfl) k1,by rw [qy,qy,k2],fun v hv=>?_⟩;rcases zg.mp hv with rfl | hv
     ·exact ⟨f,r',_,qr,q1⟩
     ·obtain ⟨f',r'',bs,m,q⟩:=k3 v hv
      exact ⟨f',r'',bs,qw _ m,q⟩
def keyAt (ds:List PyData) (i:Nat):PyData:=ds.getD i (ds.headD .none)
theorem xAhi {ds:List PyData} (h:ds≠[]) (i:Nat):keyAt ds i∈ds:=by
 unfold keyAt;rw [qq]
 cases e:ds[i]? with
 | some x=>exact qo e
 | none =>
  cases ds with
  | nil=>exact absurd rfl h
  | cons a b=>exact qr
def ltK (ds:List PyData) (i j:Nat):Bool:=ltD (keyAt ds i) (keyAt ds j)
theorem xAub {ds:List PyData} (h:∀ a∈ds,∀ b∈ds,sk a b=true):Srt.Swo (ltK ds):=by
 by_cases e:ds=[]
 ·subst e
  exact ⟨fun _=>rfl,fun _ _ _ z=>(by cases z),fun _ _ _ z=>(by cases z)⟩
 ·have m:=xAhi e
  exact ⟨fun _=>xAea _,fun a b c=>xAtx _ _ _ (h _ (m a) _ (m b)) (h _ (m b) _ (m c)) (h _ (m a) _ (m c)),fun a b c=>xAty _ _ _ (h _ (m a) _ (m b)) (h _ (m b) _ (m c)) (h _ (m a) _ (m c))⟩
structure KeysAre (ds:List PyData) (t:Nat):Prop where
 lay:PyData.canLayAll0 ds=true
 kind:∀ d∈ds,isK t d
 one:∀ a∈ds,∀ b∈ds,sk a b=true
 deep:∀ d∈ds,d.depth≤60
theorem xAqs {h:Heap} {v:Value} {i:Int} {as:List Addr} (r:Reads h v (.int i) as):∃ t,v=.int i t:=by cases r;exact ⟨_,rfl⟩
theorem xAqt {h:Heap} {v:Value} {i:Str} {as:List Addr} (r:Reads h v (.str i) as):∃ t,v=.str i t:=by cases r;exact ⟨_,rfl⟩
theorem xAuc {h:Heap} {v:Value} {xs:List PyData} {as:List Addr} (r:Reads h v (.tuple xs) as):∃ a o vs n,v=.ref a/\h.get? a=some o/\o.cls=.type "tuple" /\ o.data=.seq vs n/\ReadsAll h vs.toList xs as:=by
 cases r with
 | tuple x1 x2 x3 x4=>exact ⟨_,_,_,_,rfl,x1,x2,x3,x4⟩
theorem isK_0 {d:PyData} (h:isK 0 d):∃ i,d=.int i:=by cases d <;> first | exact ⟨_,rfl⟩ | exact h.elim
theorem isK_1 {d:PyData} (h:isK 1 d):∃ i,d=.str i:=by cases d <;> first | exact ⟨_,rfl⟩ | exact h.elim
theorem isK_t {t:Nat} {d:PyData} (h:isK t d) (ht:2≤t):∃ f r,d=.tuple (f::r):=by
 unfold isK at h
 split at h <;> first | exact ⟨_,_,rfl⟩ | omega | exact h.elim
theorem isK_2 {d:PyData} (h:isK 2 d):∃ p r,d=.tuple (.int p::r):=by
 obtain ⟨f,r,rfl⟩:=isK_t h (by decide)
 cases f <;> first | exact ⟨_,_,rfl⟩ | exact h.elim
theorem isK_3 {d:PyData} (h:isK 3 d):∃ p r,d=.tuple (.str p::r):=by
 obtain ⟨f,r,rfl⟩:=isK_t h (by decide)
 cases f <;> first | exact ⟨_,_,rfl⟩ | exact h.elim
theorem isK_4 {d:PyData} (h:isK 4 d):∃ p r,d=.tuple (.tuple p::r):=by
 obtain ⟨f,r,rfl⟩:=isK_t h (by decide)
 cases f <;> first | exact ⟨_,_,rfl⟩ | exact h.elim
theorem xAfh {ks:List Value} {ds:List PyData} {as:List Addr} {t:Nat} (r:ReadsAll s.heap ks ds as) (K:KeysAre ds t) (h2:2≤ks.length) (hu:A.units+60<cLine):Answers prog w A s ks (ltK ds):=by
 have hl:=SeqAt.ReadsAll.length _ _ _ r
 have look:∀ i,i<ks.length->∃ bs,Reads s.heap (ks.getD i Value.none) (keyAt ds i) bs/\keyAt ds i∈ds:=fun i hi=>by
  obtain ⟨bs,q⟩:=xAcv hi r
  have e1:ks.getD i Value.none=ks[i]:=by simp [hi]
  have e2:keyAt ds i=ds.getD i .none:=by
   have hi':i<ds.length:=by omega
   unfold keyAt;rw [qq,qq,qi hi'];rfl
  refine ⟨bs,by rw [e1,e2];exact q,xAhi (fun z=>?_) i⟩;rw [z,wv] at hl;omega
 have memo:∀ v∈ks,∃ d bs,d∈ds/\Reads s.heap v d bs:=fun v hv=>by
  obtain ⟨i,hi,e⟩:=zu.mp hv;obtain ⟨bs,q,m⟩:=look i hi;exact ⟨_,bs,m,by rw [← e];simpa [hi] using q⟩
 have lays:∀ d∈ds,d.canLay0=true:=fun d hd=>by
  obtain ⟨i,hi,e⟩:=zu.mp hd;exact xAdy (j:=i) K.lay (by rw [qi hi,e])
 have tups:(∀ d∈ds,∃ f r,d=.tuple (f::r))->(T:Value)->(∀ v f bs r,Reads s.heap v f bs->PyData.tuple (f::r)∈ds->Looks (model prog w) s.heap (typeOf v) T)->(T==T)=true →
   ((T != Value.type "tuple")=true->∀ d∈ds,∀ d'∈ds,(∃ p q r r',d=.tuple (.int p::r)/\d'=.tuple (.int q::r'))\/∃ p q r r',d=.tuple (.str p::r)/\d'=.tuple (.str q::r'))->Answers prog w A s ks (ltK ds):=fun h1 T h2' h3 h4=>by
  obtain ⟨fs,k1,k2,k3⟩:=xAhh r h1;refine ⟨tuples' (T != Value.type "tuple"),fun Q q=>kat_kind k1 (by omega) (fun v hv=>?_) h3 q,fun i j C hi hj c=>?_⟩
  ·obtain ⟨f,r',bs,m,q⟩:=k3 v hv
   exact h2' v f bs r' q m
  ·obtain ⟨b1,q1,m1⟩:=look i hi
   obtain ⟨b2,q2,m2⟩:=look j hj;unfold ltK at c;obtain ⟨f1,r1,e1⟩:=h1 _ m1;obtain ⟨f2,r2,e2⟩:=h1 _ m2;have d1:=K.deep _ m1;have kk:=K.one _ m1 _ m2;have lay1:=lays _ m1;have lay2:=lays _ m2;have hb:=fun z=>h4 z _ m1 _ m2;rw [e1] at q1 d1 kk lay1 hb c;rw [e2] at q2 kk lay2 hb c;unfold kas_ask;obtain ⟨a1,o1,v1,n1,ev1,x1,x2,x3,x4⟩:=xAuc q1;obtain ⟨a2,o2,v2,n2,ev2,y1,y2,y3,y4⟩:=xAuc q2;rw [ev1,ev2];refine kat_lt x1 x3 y1 y3 (katlex _ _ _ _ _ _ 0 x4 y4 lay1 lay2 (by simpa [sk] using kk) ?_ hu (fun _ z=>?_) (by simp) (by rw [ltD] at c;exact c))
   ·have:PyData.depthAll (f1::r1)+1≤60:=d1
    omega
   ·rcases hb z with ⟨p,q,r,r',g1,g2⟩ | ⟨p,q,r,r',g1,g2⟩
    ·exact .inl ⟨p,q,r,r',PyData.tuple.inj g1,PyData.tuple.inj g2⟩
    ·exact .inr ⟨p,q,r,r',PyData.tuple.inj g1,PyData.tuple.inj g2⟩
 match t,K.kind with
 | 0,hk =>
  refine ⟨oneType',fun Q q=>kas_kind (T:=Value.type "int") h2 (fun v hv=>?_) rfl rfl q,fun i j C hi hj c=>?_⟩
  ·obtain ⟨d,bs,m,q⟩:=memo v hv
   obtain ⟨_,rfl⟩:=isK_0 (hk d m);obtain ⟨_,rfl⟩:=xAqs q;exact Looks.of_pure rfl
  ·obtain ⟨b1,q1,m1⟩:=look i hi
   obtain ⟨b2,q2,m2⟩:=look j hj;unfold ltK at c;unfold kas_ask;obtain ⟨_,e1⟩:=isK_0 (hk _ m1);obtain ⟨_,e2⟩:=isK_0 (hk _ m2);rw [e1] at q1 c;rw [e2] at q2 c;obtain ⟨_,ev1⟩:=xAqs q1;obtain ⟨_,ev2⟩:=xAqs q2;rw [ev1,ev2,keyLt'_oneType];exact oneLt_int c
 | 1,hk =>
  refine ⟨oneType',fun Q q=>kas_kind (T:=Value.type "str") h2 (fun v hv=>?_) rfl rfl q,fun i j C hi hj c=>?_⟩
  ·obtain ⟨d,bs,m,q⟩:=memo v hv
   obtain ⟨_,rfl⟩:=isK_1 (hk d m);obtain ⟨_,rfl⟩:=xAqt q;exact Looks.of_pure rfl
  ·obtain ⟨b1,q1,m1⟩:=look i hi
   obtain ⟨b2,q2,m2⟩:=look j hj;unfold ltK at c;unfold kas_ask;obtain ⟨_,e1⟩:=isK_1 (hk _ m1);obtain ⟨_,e2⟩:=isK_1 (hk _ m2);rw [e1] at q1 c;rw [e2] at q2 c;obtain ⟨_,ev1⟩:=xAqt q1;obtain ⟨_,ev2⟩:=xAqt q2;rw [ev1,ev2,keyLt'_oneType];exact oneLt_str c
 | 2,hk =>
  have sh:∀ d∈ds,∃ p r,d=.tuple (.int p::r):=fun d hd=>isK_2 (hk d hd);refine tups (fun d hd=>let ⟨p,r,e⟩:=sh d hd;⟨_,r,e⟩) (Value.type "int") (fun v f bs r' q m=>?_) rfl fun _ d hd d' hd'=>?_
  ·obtain ⟨p,r2,e⟩:=sh _ m
   cases e;cases q;exact Looks.of_pure rfl
  ·obtain ⟨p,r1,e1⟩:=sh d hd
   obtain ⟨q,r2,e2⟩:=sh d' hd';exact .inl ⟨p,q,r1,r2,e1,e2⟩
 | 3,hk =>
  have sh:∀ d∈ds,∃ p r,d=.tuple (.str p::r):=fun d hd=>isK_3 (hk d hd);refine tups (fun d hd=>let ⟨p,r,e⟩:=sh d hd;⟨_,r,e⟩) (Value.type "str") (fun v f bs r' q m=>?_) rfl fun _ d hd d' hd'=>?_
  ·obtain ⟨p,r2,e⟩:=sh _ m
   cases e;cases q;exact Looks.of_pure rfl
  ·obtain ⟨p,r1,e1⟩:=sh d hd
   obtain ⟨q,r2,e2⟩:=sh d' hd';exact .inr ⟨p,q,r1,r2,e1,e2⟩
 | 4,hk =>
  have sh:∀ d∈ds,∃ p r,d=.tuple (.tuple p::r):=fun d hd=>isK_4 (hk d hd)
  refine tups (fun d hd=>let ⟨p,r,e⟩:=sh d hd;⟨_,r,e⟩) (Value.type "tuple") (fun v f bs r' q m=>?_) rfl fun z=>absurd z (by decide)
  obtain ⟨p,r2,e⟩:=sh _ m;cases e
  cases q with
  | tuple h1 h2 h3 h4 =>
   have:=(Looks.ld (M:=model prog w) (part:=none) h1);rw [← h2];exact (Looks.ld h1).andThen .now
 | t+5,hk =>
  exfalso;obtain ⟨bs,q,m⟩:=look 0 (by omega);exact xAua t _ (hk _ m)
end
def SortIx (ds:List PyData) (ix:List Nat):Prop:=ix.Perm (List.range ds.length)/\(ix.map (keyAt ds)).Pairwise fun a b=>ltD b a=false
theorem xAhj {ds:List PyData} {p:Array Nat} (h:Arr ds.length (ltK ds) p):SortIx ds p.toList:=by
 have hs:p.size=ds.length:=by rw [h.1.size_eq];simp
 refine ⟨by simpa using h.1.toList,?_⟩;rw [z8];intro i j hi hj hij;rw [qg,ze] at hi hj;have:=h.2 i j (by omega) (by omega);unfold ltK Srt.g at this;rw [List.getElem_map,List.getElem_map];simpa [Array.getD,hi,hj] using this
theorem xAhk {ys:List V} {us:List Value} (r:Vals ys us) (ix:List Nat) (h:∀ i∈ix,i<ys.length):Vals (ix.map fun i=>ys.getD i .non) (ix.map fun i=>us.getD i Value.none):=by
 induction ix with
 | nil=>exact .nil
 | cons i ix ih =>
  have hi:=h i qr;obtain ⟨u,hu,ru⟩:=r.get (i:=i) (x:=ys[i]) (qi hi);refine .cons ?_ (ih fun j hj=>h j (qw _ hj));show RelV (ys.getD i .non) (us.getD i Value.none);rw [qq,qq,hu,qi hi];exact ru
def rSortD (K:PySem.W.Frag):List V->Hp->VK->Prop:=fun xs H Q=>∃ p ys ds t,xs=[.ref p]/\SqL K H p ys/\DVs K H ys ds/\KeysAre ds t/\ys.length<64 ∧
 ∀ q H' ix,H q=none->Same H H'->SortIx ds ix->H' q=some (.lst (ix.map fun i=>ys.getD i .non))->Q (.ref q) H'
theorem xAfi {K:PySem.W.Frag} {H:Hp}:∀ {xs:List V} {ds:List PyData},DVs K H xs ds->xs.length=ds.length
 | _,_,.nil=>rfl
 | _,_,.cons _ t=>by rw [qy,qy,xAfi t]
mutual
theorem xAnc {h h':Heap} (x:Ext h h'):∀ {v:Value} {d:PyData} {as:List Addr},Reads h v d as->Reads h' v d as
 | _,_,_,.none=>.none
 | _,_,_,.bool b=>.bool b
 | _,_,_,.int i t=>.int i t
 | _,_,_,.str z t=>.str z t
 | _,_,_,.list h1 h2 h3 h4=>.list (x _ _ h1) h2 h3 (xAbq x h4)
 | _,_,_,.tuple h1 h2 h3 h4=>.tuple (x _ _ h1) h2 h3 (xAbq x h4)
 | _,_,_,.dict h1 h2 h3 h4 h5=>.dict (x _ _ h1) h2 h3 (xAbq x h4) (xAbq x h5)
theorem xAbq {h h':Heap} (x:Ext h h'):∀ {v:List Value} {d:List PyData} {as:List Addr},ReadsAll h v d as->ReadsAll h' v d as
 | _,_,_,.nil=>.nil
 | _,_,_,.cons a b=>.cons (xAnc x a) (xAbq x b)
end
section
variable {X:Cx}
theorem xAgd (hu:X.A.units+3+61<cLine):CallR X (.builtin "sorted") (rSortD X.K):=by
 intro pins s σ H xs us Q I r h;obtain ⟨p,ys,ds,t,rfl,hq,hd,hk,h64,q⟩:=h;obtain ⟨u,rfl,ru⟩:=vals1 r;cases ru;obtain ⟨its,rv,pl,hz⟩:=I.list hq;have hl:=rv.length;have hdl:=xAfi hd;obtain ⟨as,ra⟩:=hd.reads I rv;refine xAnb (vs:=its) (lt:=ltK ds) (xAub hk.one) pl.isList (by omega) (.inl (by omega)) (fun h' x h2=>?_) fun h' a pm c x ha ar e=>?_
 ·exact xAfh (xAbq x ra) hk h2 (by show X.A.units+1+1+60<cLine;omega)
 ·have hix:∀ i∈pm.toList,i<ys.length:=fun i hi=>by
   have:=(ar.1.toList.mem_iff).mp hi
   simp at this
   omega
  refine ⟨.ref a,upd H a (.lst (pm.toList.map fun i=>ys.getD i .non)),I.laid x ha ⟨?_,_,c,xAhk rv _ hix,e⟩,rfl,q a _ pm.toList (I.hok.fresh ha) (Same.new (I.hok.fresh ha)) (xAhj (by rw [← hdl,hl];exact ar)) xAae⟩;rw [qg,ze,ar.1.size_eq]
  simp
  omega
end
section
variable {P:Program} {w:World} {A:Around} {E:Value->Shared->Prop} {s:Shared}
def IsTwo (P:Program) (w:World) (h:Heap) (ks ls:List Key) (a:Addr):Prop:=∃ o c d n,h.get? a=some o/\o.cls=.type "tuple" /\ o.data=.seq #[.ref c,.ref d] n/\(tupleKind (mixKind P w)).is h ks c/\(tupleKind (mixKind P w)).is h ls d
def GIs (P:Program) (w:World) (h:Heap):KD->Value->Prop
 | .non,v=>v=.none
 | .int i,v=>∃ t,v=.int i t
 | .tup ks,v=>∃ a,v=.ref a/\(tupleKind (mixKind P w)).is h ks a
 | .two ks ls,v=>∃ a,v=.ref a/\IsTwo P w h ks ls a
def gDraws (P:Program) (w:World):KD->Nat
 | .non=>1
 | .int _=>1
 | .tup ks=>(tupleKind (mixKind P w)).draws ks
 | .two ks ls=>(tupleKind (mixKind P w)).draws ks+(tupleKind (mixKind P w)).draws ls+1
theorem xApd {h:Heap} {a:Addr} {ks ls ks' ls':List Key} (x:IsTwo P w h ks ls a) (y:IsTwo P w h ks' ls' a):ks=ks'/\ls=ls':=by
 obtain ⟨o,c,d,n,h1,h2,h3,h4,h5⟩:=x;obtain ⟨o',c',d',n',k1,k2,k3,k4,k5⟩:=y;rw [h1] at k1;cases k1;rw [h3] at k3;injection k3 with e _
 have e1:c=c':=by have:=congrArg (fun z:Array Value=>z[0]?) e;simpa using this
 have e2:d=d':=by have:=congrArg (fun z:Array Value=>z[1]?) e;simpa using this
 subst e1 e2;exact ⟨(tupleKind (mixKind P w)).inj h4 k4,(tupleKind (mixKind P w)).inj h5 k5⟩
theorem xAhl {h:Heap} {a:Addr} {ks ls js:List Key} (x:IsTwo P w h ks ls a) (y:(tupleKind (mixKind P w)).is h js a):False:=by
 obtain ⟨o,c,d,n,h1,h2,h3,h4,h5⟩:=x;obtain ⟨o',its,n',k1,k2,k3,k4⟩:=y;rw [h1] at k1;cases k1;rw [h3] at k3;injection k3 with e _;subst e;have:=k4.byValue (.ref c) (by simp);cases this
theorem xAko {P':Program} {w':World} {ks:List Key} {vs:List Value} (x:ItemsAre (mixKind P w) ks vs):ItemsAre (mixKind P' w') ks vs:=by
 induction x with
 | nil=>exact .nil
 | cons h _ ih=>exact .cons h ih
theorem xAhm {P':Program} {w':World} {h:Heap} {ks:List Key} {a:Addr} (x:(tupleKind (mixKind P w)).is h ks a):(tupleKind (mixKind P' w')).is h ks a:=by
 obtain ⟨o,its,n,h1,h2,h3,h4⟩:=x;exact ⟨o,its,n,h1,h2,h3,xAko h4⟩
theorem xAdd {ks ls:List Key} {a b:Addr} (hu:A.units<cLine) (x:(tupleKind (mixKind P w)).is s.heap ks a) (y:(tupleKind (mixKind P w)).is s.heap ls b):SeqAt.EqAt A s (.ref a) (.ref b) (decide (ks=ls)):=fun P' w' E Q q=>(tupleKind (mixKind P' w')).eqBool hu (xAhm x) (xAhm y) q
theorem IsTwo.tuple {h:Heap} {ks ls:List Key} {a:Addr} (x:IsTwo P w h ks ls a):∃ c d,h.IsTuple a #[.ref c,.ref d]/\(tupleKind (mixKind P w)).is h ks c/\(tupleKind (mixKind P w)).is h ls d:=by
 obtain ⟨o,c,d,n,h1,h2,h3,h4,h5⟩:=x;exact ⟨c,d,⟨o,h1,h2,n,h3⟩,h4,h5⟩
theorem xAbr {h:Heap} {ks:List Key} {a:Addr} (x:(tupleKind (mixKind P w)).is h ks a):∃ its,h.IsTuple a its/\ItemsAre (mixKind P w) ks its.toList:=by
 obtain ⟨o,its,n,h1,h2,h3,h4⟩:=x;exact ⟨its,⟨o,h1,h2,n,h3⟩,h4⟩
theorem xAqu {ks ls ks' ls':List Key} {a b:Addr} (hu:A.units+1<cLine) (x:IsTwo P w s.heap ks ls a) (y:IsTwo P w s.heap ks' ls' b):SeqAt.EqAt A s (.ref a) (.ref b) (decide (KD.two ks ls=KD.two ks' ls')):=by
 by_cases hab:a=b
 ·subst hab
  obtain ⟨rfl,rfl⟩:=xApd x y;rw [decide_eq_true rfl];exact SeqAt.EqAt.same _
 ·obtain ⟨c,d,t1,h1,h2⟩:=x.tuple
  obtain ⟨c',d',t2,k1,k2⟩:=y.tuple
  have e:decide (KD.two ks ls=KD.two ks' ls')=((List.range (min (#[Value.ref c,.ref d]:Array Value).size (#[Value.ref c',.ref d']:Array Value).size)).all (fun j=>if j=0 then decide (ks=ks') else decide (ls=ls'))&&(#[Value.ref c,.ref d]:Array Value).size==(#[Value.ref c',.ref d']:Array Value).size):=by
   show _=((if 0=0 then decide (ks=ks') else decide (ls=ls'))&&((if 1=0 then decide (ks=ks') else decide (ls=ls'))&&true)&&true);rw [if_pos rfl,if_neg (by decide),Bool.and_true,Bool.and_true,wq]
   simp
  rw [e];refine SeqAt.EqAt.of_refs hab (SeqAt.RcAt.tuples t1 t2 (by omega) fun j j1 j2=>?_)
  match j,j1,j2 with
  | 0,_,_=>exact xAdd (show A.in1.units<cLine from hu) h1 k1
  | 1,_,_=>exact xAdd (show A.in1.units<cLine from hu) h2 k2
theorem all_no {n m:Nat} (h:0<m):((List.range (min m n)).all (fun _=>false)&&m==n)=false:=by
 by_cases e:m=n
 ·subst e
  rw [vz]
  cases m with
  | zero=>omega
  | succ m=>rw [jd];rfl
 ·rw [show (m==n)=false from beq_eq_false_iff_ne.mpr e,Bool.and_false]
theorem xAud {n m:Nat} (h:0<m):((List.range (min n m)).all (fun _=>false)&&n==m)=false:=by
 by_cases e:n=m
 ·subst e
  rw [vz]
  cases n with
  | zero=>omega
  | succ m=>rw [jd];rfl
 ·rw [show (n==m)=false from beq_eq_false_iff_ne.mpr e,Bool.and_false]
theorem xAfj {ks:List Key} {vs:List Value} (x:ItemsAre (mixKind P w) ks vs):∀ (j:Nat) v,vs[j]?=some v->(∃ i t,v=.int i t)\/∃ z t,v=.str z t:=by
 induction x with
 | nil=>intro j v e;cases e
 | cons h _ ih =>
  intro j v e
  cases j with
  | zero =>
   cases e;rcases xAax (show keyIs _ _=true from h) with ⟨i,t,_,e⟩ | ⟨z,t,_,e⟩
   ·exact .inl ⟨i,t,e⟩
   ·exact .inr ⟨z,t,e⟩
  | succ j=>exact ih j v (by simpa using e)
theorem xAik {ks ls js:List Key} {a b:Addr} (hu:A.units+1<cLine) (x:IsTwo P w s.heap ks ls a) (y:(tupleKind (mixKind P w)).is s.heap js b):SeqAt.EqAt A s (.ref a) (.ref b) false:=by
 have hab:a≠b:=fun z=>by subst z;exact xAhl x y
 obtain ⟨c,d,t1,h1,h2⟩:=x.tuple;obtain ⟨its,t2,k1⟩:=xAbr y;have e:false=((List.range (min (#[Value.ref c,.ref d]:Array Value).size its.size)).all (fun _=>false)&&(#[Value.ref c,.ref d]:Array Value).size==its.size):=(all_no (m:=2) (by decide)).symm;rw [e];refine SeqAt.EqAt.of_refs hab (SeqAt.RcAt.tuples t1 t2 (by omega) fun j j1 j2=>?_);obtain ⟨i1,q1,_⟩:=xAbr h1;obtain ⟨i2,q2,_⟩:=xAbr h2;have hv:=xAfj k1 j its[j] (by rw [zw,zn j2]);have hin:A.in1.units<cLine:=hu
 match j,j1,j2,hv with
 | 0,_,_,hv =>
  rcases hv with ⟨i,t,e⟩ | ⟨z,t,e⟩
  ·rw [e];exact SeqAt.EqAt.tuple_int i t q1 hin
  ·rw [e];exact SeqAt.EqAt.tuple_str z t q1 hin
 | 1,_,_,hv =>
  rcases hv with ⟨i,t,e⟩ | ⟨z,t,e⟩
  ·rw [e];exact SeqAt.EqAt.tuple_int i t q2 hin
  ·rw [e];exact SeqAt.EqAt.tuple_str z t q2 hin
theorem xAil {ks ls js:List Key} {a b:Addr} (hu:A.units+1<cLine) (y:(tupleKind (mixKind P w)).is s.heap js a) (x:IsTwo P w s.heap ks ls b):SeqAt.EqAt A s (.ref a) (.ref b) false:=by
 have hab:a≠b:=fun z=>by subst z;exact xAhl x y
 obtain ⟨c,d,t1,h1,h2⟩:=x.tuple;obtain ⟨its,t2,k1⟩:=xAbr y;have e:false=((List.range (min its.size (#[Value.ref c,.ref d]:Array Value).size)).all (fun _=>false)&&its.size==(#[Value.ref c,.ref d]:Array Value).size):=(xAud (m:=2) (by decide)).symm;rw [e];refine SeqAt.EqAt.of_refs hab (SeqAt.RcAt.tuples t2 t1 (by omega) fun j j2 j1=>?_);obtain ⟨i1,q1,_⟩:=xAbr h1;obtain ⟨i2,q2,_⟩:=xAbr h2;have hv:=xAfj k1 j its[j] (by rw [zw,zn j2]);have hin:A.in1.units<cLine:=hu
 match j,j1,j2,hv with
 | 0,_,_,hv =>
  rcases hv with ⟨i,t,e⟩ | ⟨z,t,e⟩
  ·rw [e];exact SeqAt.EqAt.int_tuple i t q1 hin
  ·rw [e];exact SeqAt.EqAt.str_tuple z t q1 hin
 | 1,_,_,hv =>
  rcases hv with ⟨i,t,e⟩ | ⟨z,t,e⟩
  ·rw [e];exact SeqAt.EqAt.int_tuple i t q2 hin
  ·rw [e];exact SeqAt.EqAt.str_tuple z t q2 hin
theorem xAqv {ks ls:List Key} {a:Addr} {Q:Int->Shared->Prop} (hu:A.units+1<cLine) (hk:IsTwo P w s.heap ks ls a) (h:Q (gHash P w (.two ks ls)) { s with toks:=s.toks+((tupleKind (mixKind P w)).draws ks+(tupleKind (mixKind P w)).draws ls+1) }):wpAny (model P w) A (pyHash (.ref a)) Q E s:=by
 obtain ⟨o,c,d,n,ho,hc,hd,h1,h2⟩:=hk;have hT:s.TypeIs (.ref a) "tuple":=⟨o,ho,hc⟩;unfold pyHash;unfold pyHashByItsType;refine wpAny_bind (wpAny_cRoomFor_or (.inr (by omega)) ?_);refine wpAny_bind (wpAny_specialOf hT F.slot_tuple_hash.lookup ?_);show wpAny _ _ (if (some (Value.builtin "tuple.__hash__")==some Value.none)=true then _ else _) Q E s;rw [if_neg (by rw [beq_builtin_none];exact qp)];refine wpAny_bind (wpAny_specialOf hT F.slot_tuple_hash.lookup ?_);show wpAny _ _ (callSpecialIfBoundUnlessNone? (.ref a) "__hash__" _ >>= _) Q E s;refine wpAny_bind (wpAny_callSpecialIfBoundUnlessNone?_slot hT F.slot_tuple_hash (wpAny_call_entry F.slot_tuple_hash hT F.entry_tuple_hash ?_ (F.args_tuple_hash_1 _)));show wpAny _ _ (Builtin.Tuple.tupleItemsOf (.ref a) >>= _) _ _ s;refine wpAny_bind (wpAny_tupleItemsOf ho hd ?_);refine wpAny_bind ?_;rw [← v5]
 refine wpAny_forIn_list _
  (fun rest (b:Array Int) s'=>(rest=[.ref c,.ref d]/\b.toList=[]/\s'=s)\/(rest=[.ref d]/\b.toList=[(tupleKind (mixKind P w)).hash ks]/\s'={ s with toks:=s.toks+(tupleKind (mixKind P w)).draws ks })\/(rest=[]/\b.toList=[(tupleKind (mixKind P w)).hash ks,(tupleKind (mixKind P w)).hash ls]/\s'={ s with toks:=s.toks+(tupleKind (mixKind P w)).draws ks+(tupleKind (mixKind P w)).draws ls }))
  _ ?_ ?_ _ _ (.inl ⟨rfl,rfl,rfl⟩)
 ·rintro x rest b s' (⟨e,hb,rfl⟩ | ⟨e,hb,rfl⟩ | ⟨e,hb,rfl⟩)
  ·cases e
   refine wpAny_bind ((tupleKind (mixKind P w)).pyHash (show _<cLine by first | exact hu | (show A.units+1<cLine;exact hu)) h1 ?_)
   first
    | exact wpAny_pure (.inr (.inl ⟨rfl,by simp [hb],rfl⟩))
    | exact wpAny_bind (wpAny_pure (wpAny_pure (.inr (.inl ⟨rfl,by simp [hb],rfl⟩))))
  ·cases e
   refine wpAny_bind ((tupleKind (mixKind P w)).pyHash (s:={ s with toks:=s.toks+(tupleKind (mixKind P w)).draws ks }) (show _<cLine by first | exact hu | (show A.units+1<cLine;exact hu)) h2 ?_)
   first
    | exact wpAny_pure (.inr (.inr ⟨rfl,by simp [hb],rfl⟩))
    | exact wpAny_bind (wpAny_pure (wpAny_pure (.inr (.inr ⟨rfl,by simp [hb],rfl⟩))))
  ·cases e
 ·rintro b s' (⟨e,hb,rfl⟩ | ⟨e,hb,rfl⟩ | ⟨e,hb,rfl⟩)
  ·cases e
  ·cases e
  ·show wpAny _ _ (retInt (Builtin.Tuple.tupleHashOf b.toList)) _ _ _
   rw [hb];refine wpAny_ret_mkInt ?_;show wpAny _ _ (if (decide (-(2:Int) ^ 63≤Builtin.Tuple.tupleHashOf [(tupleKind (mixKind P w)).hash ks,(tupleKind (mixKind P w)).hash ls])&&decide (Builtin.Tuple.tupleHashOf [(tupleKind (mixKind P w)).hash ks,(tupleKind (mixKind P w)).hash ls]<2 ^ 63))=true then _ else _) Q E _;have h:Q (reduceHash (Builtin.Tuple.tupleHashOf [(tupleKind (mixKind P w)).hash ks,(tupleKind (mixKind P w)).hash ls])) { s with toks:=s.toks+((tupleKind (mixKind P w)).draws ks+(tupleKind (mixKind P w)).draws ls+1) }:=h;unfold reduceHash at h
   by_cases hr:(decide (-(2:Int) ^ 63≤Builtin.Tuple.tupleHashOf [(tupleKind (mixKind P w)).hash ks,(tupleKind (mixKind P w)).hash ls])&&decide (Builtin.Tuple.tupleHashOf [(tupleKind (mixKind P w)).hash ks,(tupleKind (mixKind P w)).hash ls]<2 ^ 63))=true
   ·rw [if_pos hr]
    rw [if_pos hr] at h;exact wpAny_pure (by simpa [Nat.add_assoc] using h)
   ·rw [if_neg hr]
    rw [if_neg hr] at h;exact wpAny_bind (wpAny_rule (wpAny_pure (by simpa [Nat.add_assoc] using h)))
theorem xAcr {ks:List Key} {a:Addr} {m:Nat} {Q:Bool->Shared->Prop} (hk:(tupleKind (mixKind P w)).is s.heap ks a) (h:Q true s):wpAny (model P w) A (eqIsQuiet (m+1) (.ref a)) Q E s:=by
 obtain ⟨o,items,n,ho,hc,hd,hi⟩:=hk;have hT:s.TypeIs (.ref a) "tuple":=⟨o,ho,hc⟩;unfold eqIsQuiet;refine wpAny_bind (wpAny_specialOf hT F.slot_tuple_eq.lookup ?_);show wpAny _ _ (isInstance (.ref a) (.type "tuple") >>= _) _ _ s;refine wpAny_bind (wpAny_isInstance hT isSubtype_tuple_tuple ?_)
 simp only [Bool.not_true,Bool.false_eq_true,if_false]
 refine wpAny_bind (wpAny_seqItems ho hd ?_);refine wpAny_bind ?_;show wpAny _ _ (forIn items _ _) _ _ s;rw [← v5];refine wpAny_forIn_list _ (fun rest r s'=>r.1=none/\s'=s/\∀ v∈rest,carriedByValue v=true) _ ?_ ?_ _ _ ⟨rfl,rfl,hi.byValue⟩
 ·rintro v rest r s' ⟨hr,rfl,hall⟩
  rw [eqIsQuiet_byValue _ (hall v qr)];refine wpAny_bind (wpAny_pure ?_)
  simp only [Bool.not_true,Bool.false_eq_true,if_false]
  exact wpAny_pure ⟨rfl,rfl,fun u hu'=>hall u (qw _ hu')⟩
 ·rintro ⟨r1,r2⟩ s' ⟨hr,rfl,_⟩
  simp only at hr
  subst hr;exact wpAny_pure h
theorem xAnd {ks ls:List Key} {a:Addr} {Q:Bool->Shared->Prop} (hk:IsTwo P w s.heap ks ls a) (h:Q true s):wpAny (model P w) A (eqIsQuiet 8 (.ref a)) Q E s:=by
 obtain ⟨o,c,d,n,ho,hc,hd,h1,h2⟩:=hk;have hT:s.TypeIs (.ref a) "tuple":=⟨o,ho,hc⟩;unfold eqIsQuiet;refine wpAny_bind (wpAny_specialOf hT F.slot_tuple_eq.lookup ?_);show wpAny _ _ (isInstance (.ref a) (.type "tuple") >>= _) _ _ s;refine wpAny_bind (wpAny_isInstance hT isSubtype_tuple_tuple ?_)
 simp only [Bool.not_true,Bool.false_eq_true,if_false]
 refine wpAny_bind (wpAny_seqItems ho hd ?_);refine wpAny_bind ?_;show wpAny _ _ (forIn (#[.ref c,.ref d]:Array Value) _ _) _ _ s;rw [← v5];refine wpAny_forIn_list _ (fun rest r s'=>r.1=none/\s'=s/\∀ v∈rest,v=.ref c\/v=.ref d) _ ?_ ?_ _ _ ⟨rfl,rfl,fun v hv=>by simpa using hv⟩
 ·rintro v rest r s' ⟨hr,rfl,hall⟩
  have hq:∀ {Q':Bool->Shared->Prop},Q' true s'->wpAny (model P w) A (eqIsQuiet 7 v) Q' E s':=fun q=>by
   rcases hall v qr with rfl | rfl
   ·exact xAcr (m:=6) h1 q
   ·exact xAcr (m:=6) h2 q
  refine wpAny_bind (hq ?_)
  simp only [Bool.not_true,Bool.false_eq_true,if_false]
  exact wpAny_pure ⟨rfl,rfl,fun u hu'=>hall u (qw _ hu')⟩
 ·rintro ⟨r1,r2⟩ s' ⟨hr,rfl,_⟩
  simp only at hr
  subst hr;exact wpAny_pure h
theorem GIs.inj {h:Heap} {x y:KD} {v:Value} (a:GIs P w h x v) (b:GIs P w h y v):x=y:=by
 cases x with
 | non =>
  cases a
  cases y with
  | non=>rfl
  | int j=>obtain ⟨_,e⟩:=b;cases e
  | tup ks=>obtain ⟨_,e,_⟩:=b;cases e
  | two ks ls=>obtain ⟨_,e,_⟩:=b;cases e
 | int i =>
  obtain ⟨t,rfl⟩:=a
  cases y with
  | non=>cases b
  | int j=>obtain ⟨_,e⟩:=b;cases e;rfl
  | tup ks=>obtain ⟨_,e,_⟩:=b;cases e
  | two ks ls=>obtain ⟨_,e,_⟩:=b;cases e
 | tup ks =>
  obtain ⟨p,rfl,q⟩:=a
  cases y with
  | non=>cases b
  | int j=>obtain ⟨_,e⟩:=b;cases e
  | tup ks' =>
   obtain ⟨_,e,q'⟩:=b;cases e;exact congrArg KD.tup ((tupleKind (mixKind P w)).inj q q')
  | two ks' ls' =>
   obtain ⟨_,e,q'⟩:=b;cases e;exact (xAhl q' q).elim
 | two ks ls =>
  obtain ⟨p,rfl,q⟩:=a
  cases y with
  | non=>cases b
  | int j=>obtain ⟨_,e⟩:=b;cases e
  | tup ks' =>
   obtain ⟨_,e,q'⟩:=b;cases e;exact (xAhl q q').elim
  | two ks' ls' =>
   obtain ⟨_,e,q'⟩:=b;cases e;obtain ⟨rfl,rfl⟩:=xApd q q';rfl
theorem GIs.ext {h h':Heap} {k:KD} {v:Value} (a:GIs P w h k v) (x:∀ b o,h.get? b=some o->o.cls=.type "tuple"->h'.get? b=some o):GIs P w h' k v:=by
 cases k with
 | non=>exact a
 | int i=>exact a
 | tup ks =>
  obtain ⟨p,e,o,its,n,h1,h2,h3,h4⟩:=a;exact ⟨p,e,o,its,n,x _ _ h1 h2,h2,h3,h4⟩
 | two ks ls =>
  obtain ⟨p,e,o,c,d,n,h1,h2,h3,⟨o1,i1,n1,k1,k2,k3⟩,⟨o2,i2,n2,l1,l2,l3⟩⟩:=a;exact ⟨p,e,o,c,d,n,x _ _ h1 h2,h2,h3,⟨o1,i1,n1,x _ _ k1 k2,k2,k3⟩,⟨o2,i2,n2,x _ _ l1 l2,l2,l3⟩⟩
theorem xAne {Q:Int->Shared->Prop} (h:Q 4238894112 { s with toks:=s.toks+1 }):wpAny (model P w) A (pyHash .none) Q E s:=by
 unfold pyHash;have hT:s.TypeIs Value.none "NoneType":=rfl;have hv:[Value.none].any Value.onHeap=false:=rfl;unfold pyHashByItsType;refine wpAny_bind ?_;rw [cRoomFor,if_neg (by rw [hv];exact qp)];refine wpAny_pure (wpAny_bind (wpAny_specialOf hT F.slot_NoneType_hash.lookup ?_));show wpAny _ _ (if (some (Value.builtin "NoneType.__hash__")==some Value.none)=true then _ else _) Q E s;rw [if_neg (by rw [beq_builtin_none];exact qp)];refine wpAny_bind (wpAny_specialOf hT F.slot_NoneType_hash.lookup ?_);show wpAny _ _ (callSpecialIfBoundUnlessNone? .none "__hash__" _ >>= _) Q E s;refine wpAny_bind (wpAny_callSpecialIfBoundUnlessNone?_slot hT F.slot_NoneType_hash (wpAny_call_entry F.slot_NoneType_hash hT F.entry_NoneType_hash (show wpAny _ _ (do ret (← mkInt 4238894112)) _ _ s from wpAny_ret_mkInt ?_) (F.args_NoneType_hash_1 _)));show wpAny _ _ (if (decide (-(2:Int) ^ 63≤4238894112)&&decide ((4238894112:Int)<2 ^ 63))=true then _ else _) Q E _;rw [if_pos (by decide)];exact wpAny_pure h
theorem GIs.hash {k:KD} {v:Value} (hu:A.units+1<cLine) (a:GIs P w s.heap k v) {Q:Int->Shared->Prop} (h:Q (gHash P w k) { s with toks:=s.toks+gDraws P w k }):wpAny (model P w) A (pyHash v) Q E s:=by
 cases k with
 | non=>cases a;exact xAne h
 | int i=>obtain ⟨t,rfl⟩:=a;exact wpAny_pyHash_int h
 | tup ks=>obtain ⟨p,rfl,q⟩:=a;exact (tupleKind (mixKind P w)).pyHash (show A.units<cLine by omega) q h
 | two ks ls=>obtain ⟨p,rfl,q⟩:=a;exact xAqv hu q h
theorem GIs.tuple {h:Heap} {ks:List Key} {v:Value} (a:GIs P w h (.tup ks) v):∃ p its,v=.ref p/\h.IsTuple p its:=by
 obtain ⟨p,e,o,its,n,h1,h2,h3,_⟩:=a;exact ⟨p,its,e,o,h1,h2,n,h3⟩
theorem GIs.tuple2 {h:Heap} {ks ls:List Key} {v:Value} (a:GIs P w h (.two ks ls) v):∃ p its,v=.ref p/\h.IsTuple p its:=by
 obtain ⟨p,e,q⟩:=a;obtain ⟨c,d,t,_⟩:=q.tuple;exact ⟨p,_,e,t⟩
theorem GIs.eq {x y:KD} {u v:Value} (hu1:A.units+1<cLine) (a:GIs P w s.heap x u) (b:GIs P w s.heap y v) {Q:Bool->Shared->Prop} (h:Q (decide (x=y)) s):wpAny (model P w) A (eqBool u v) Q E s:=by
 have ne:∀ {z z':KD},z≠z'->decide (z=z')=false:=fun q=>decide_eq_false q
 have hu:A.units<cLine:=by omega
 cases x with
 | non =>
  cases a
  cases y with
  | non=>cases b;exact SeqAt.EqAt.same _ _ _ _ _ h
  | int j =>
   obtain ⟨t,rfl⟩:=b;rw [ne (by intro z;cases z)] at h;exact SeqAt.EqAt.none_int _ _ _ _ _ _ h
  | tup ks =>
   obtain ⟨p,its,rfl,q⟩:=b.tuple;rw [ne (by intro z;cases z)] at h;exact SeqAt.EqAt.none_tuple q hu _ _ _ _ h
  | two ks ls =>
   obtain ⟨p,its,rfl,q⟩:=b.tuple2;rw [ne (by intro z;cases z)] at h;exact SeqAt.EqAt.none_tuple q hu _ _ _ _ h
 | int i =>
  obtain ⟨t,rfl⟩:=a
  cases y with
  | non =>
   cases b;rw [ne (by intro z;cases z)] at h;exact SeqAt.EqAt.int_none _ _ _ _ _ _ h
  | int j =>
   obtain ⟨t,rfl⟩:=b;refine SeqAt.EqAt.int_int _ _ _ _ _ _ _ _ ?_;rw [show (i==j)=decide (KD.int i=KD.int j) from by by_cases z:i=j <;> simp [z]];exact h
  | tup ks =>
   obtain ⟨p,its,rfl,q⟩:=b.tuple;rw [ne (by intro z;cases z)] at h;exact SeqAt.EqAt.int_tuple _ _ q hu _ _ _ _ h
  | two ks ls =>
   obtain ⟨p,its,rfl,q⟩:=b.tuple2;rw [ne (by intro z;cases z)] at h;exact SeqAt.EqAt.int_tuple _ _ q hu _ _ _ _ h
 | tup ks =>
  cases y with
  | non =>
   cases b;obtain ⟨p,its,rfl,q⟩:=a.tuple;rw [ne (by intro z;cases z)] at h;exact SeqAt.EqAt.tuple_none q hu _ _ _ _ h
  | int j =>
   obtain ⟨t,rfl⟩:=b;obtain ⟨p,its,rfl,q⟩:=a.tuple;rw [ne (by intro z;cases z)] at h;exact SeqAt.EqAt.tuple_int _ _ q hu _ _ _ _ h
  | tup ks' =>
   obtain ⟨p,rfl,q⟩:=a;obtain ⟨p',rfl,q'⟩:=b;refine (tupleKind (mixKind P w)).eqBool hu q q' ?_;rw [show decide (ks=ks')=decide (KD.tup ks=KD.tup ks') from by by_cases z:ks=ks' <;> simp [z]];exact h
  | two ks' ls' =>
   obtain ⟨p,rfl,q⟩:=a;obtain ⟨p',rfl,q'⟩:=b;rw [ne (by intro z;cases z)] at h;exact xAil hu1 q q' _ _ _ _ h
 | two ks ls =>
  cases y with
  | non =>
   cases b;obtain ⟨p,its,rfl,q⟩:=a.tuple2;rw [ne (by intro z;cases z)] at h;exact SeqAt.EqAt.tuple_none q hu _ _ _ _ h
  | int j =>
   obtain ⟨t,rfl⟩:=b;obtain ⟨p,its,rfl,q⟩:=a.tuple2;rw [ne (by intro z;cases z)] at h;exact SeqAt.EqAt.tuple_int _ _ q hu _ _ _ _ h
  | tup ks' =>
   obtain ⟨p,rfl,q⟩:=a;obtain ⟨p',rfl,q'⟩:=b;rw [ne (by intro z;cases z)] at h;exact xAik hu1 q q' _ _ _ _ h
  | two ks' ls' =>
   obtain ⟨p,rfl,q⟩:=a;obtain ⟨p',rfl,q'⟩:=b;exact xAqu hu1 q q' _ _ _ _ h
theorem GIs.quiet {k:KD} {v:Value} (a:GIs P w s.heap k v) {Q:Bool->Shared->Prop} (h:Q true s):wpAny (model P w) A (eqIsQuiet 8 v) Q E s:=by
 cases k with
 | non=>cases a;exact wpAny_pure h
 | int i=>obtain ⟨t,rfl⟩:=a;exact wpAny_pure h
 | tup ks=>obtain ⟨p,rfl,q⟩:=a;exact (tupleKind (mixKind P w)).quiet q h
 | two ks ls=>obtain ⟨p,rfl,q⟩:=a;exact xAnd q h
theorem g_tell {k:KD} {v:Value} {l:List Value} (a:GIs P w s.heap k v) (hl:∀ u∈l,∃ k',GIs P w s.heap k' u) {Q:Bool->Shared->Prop} (h:Q false s):wpAny (model P w) A (tableMayTell v l) Q E s:=by
 unfold tableMayTell
 split
 ·exact wpAny_pure h
 ·refine wpAny_bind (a.quiet ?_)
  rw [if_neg (by decide)];refine wpAny_bind (wpAny_forIn_list _ (fun r b s'=>s'=s/\b=(none,())/\∀ u∈r,∃ k',GIs P w s.heap k' u) _ ?_ ?_ _ _ ⟨rfl,rfl,hl⟩)
  ·rintro u r b s' ⟨rfl,rfl,hr⟩
   obtain ⟨k',hk⟩:=hr u qr;refine wpAny_bind (hk.quiet ?_);rw [if_neg (by decide)];exact wpAny_pure ⟨rfl,rfl,fun x hx=>hr x (qw _ hx)⟩
  ·rintro b s' ⟨rfl,rfl,_⟩
   exact wpAny_pure h
def gIdx (xs:List (KD×Value×Value)) (k:KD):Option Nat:=xs.findIdx? fun x=>decide (x.1=k)
theorem xAhn {xs:List (KD×Value×Value)} {k:KD} {j:Nat} {x:KD×Value×Value} (hn:(xs.map (·.1)).Nodup) (h:xs[j]?=some x) (e:x.1=k):gIdx xs k=some j:=by
 unfold gIdx;rw [jt];obtain ⟨hj,ej⟩:=qx.mp h;refine ⟨hj,by rw [ej,e];simp,fun i hi=>?_⟩
 have:¬ xs[i].1=k:=fun z=>by
  have e1:(xs.map (·.1))[i]?=some k:=by rw [List.getElem?_map,List.getElem?_eq_getElem (by omega)];simp [z]
  have e2:(xs.map (·.1))[j]?=some k:=by rw [List.getElem?_map,h];simp [e]
  have:=(ju (by rw [qg];omega) hn).mp (e1.trans e2.symm);omega
 simpa using this
theorem xAho {xs:List (KD×Value×Value)} {k:KD} (h:∀ (j:Nat) x,xs[j]?=some x->x.1≠k):gIdx xs k=none:=by
 unfold gIdx;rw [jv];intro x hx;obtain ⟨j,hj,e⟩:=zu.mp hx;exact decide_eq_false (h j x (by rw [qi hj,e]))
theorem g_loop {xs:List (KD×Value×Value)} {k:KD} {es:Array DictEntry} (at':∀ j:Nat,es[j]?=(xs[j]?).map (gEnt P w)) (sz:es.size=xs.length) (hn:(xs.map (·.1)).Nodup) {body:Nat->Option (Option Nat)×Option Nat->Sem (ForInStep (Option (Option Nat)×Option Nat))} {R:Option (Option Nat)×Option Nat->Shared->Prop}
  (B:∀ (i:Nat) b hit (R':ForInStep (Option (Option Nat)×Option Nat)->Shared->Prop),xs[i]?=some b->(b.1=k->hit=none/\R' (.done (some (some i),hit)) s/\R' (.yield (none,some i)) s)->(b.1≠k->R' (.yield (none,hit)) s)->wpAny (model P w) A (body i (none,hit)) R' E s)
  (R0:(∀ (j:Nat) x,xs[j]?=some x->x.1≠k)->R (none,none) s) (R1:∀ (j:Nat) x,xs[j]?=some x->x.1=k->R (some (some j),none) s/\R (none,some j) s) :
  wpAny (model P w) A (forIn (placesWithHash es.size (fun i=>es[i]?.map (·.hash)) (gHash P w k)) (none,none) body) R E s:=by
 have has:∀ (j:Nat) x,xs[j]?=some x->x.1=k->((es[j]?.map (·.hash))==some (gHash P w k))=true:=fun j x hj e=>by
  rw [at' j,hj];show (some (gHash P w x.1)==some (gHash P w k))=true;rw [e]
  simp
 have one:∀ {i j:Nat} {x y:KD×Value×Value},xs[i]?=some x->xs[j]?=some y->x.1=k->y.1=k->i=j:=fun {i j x y} h1 h2 e1 e2=>by
  have q1:(xs.map (·.1))[i]?=some k:=by rw [ql,h1];exact congrArg some e1
  have q2:(xs.map (·.1))[j]?=some k:=by rw [ql,h2];exact congrArg some e2
  exact (ju (qx.mp q1).1 hn).mp (q1.trans q2.symm)
 refine wpAny_forIn_list _ (fun rest b s'=>s'=s/\∃ i hit,b=(none,hit)/\rest=(List.range' i (es.size - i)).filter (fun i=>(es[i]?.map (·.hash))==some (gHash P w k))/\i≤es.size ∧
   ((hit=none/\∀ (j:Nat) x,j<i->xs[j]?=some x->x.1≠k)\/∃ j x,hit=some j/\j<i/\xs[j]?=some x/\x.1=k)) _ ?_ ?_ _ _
  ⟨rfl,0,none,rfl,by rw [placesWithHash,jw,vg],qu _,.inl ⟨rfl,fun j x hj=>absurd hj (zv _)⟩⟩
 ·rintro x rest b s' ⟨rfl,i,hit,rfl,hr,hi,hH⟩
  obtain ⟨hix,hxn,hpx,hskip,hrest⟩:=filter_range'_cons _ _ _ _ _ hr.symm
  have hlt:x<es.size:=by omega
  have hrest':rest=(List.range' (x+1) (es.size - (x+1))).filter (fun i=>(es[i]?.map (·.hash))==some (gHash P w k)):=by
   rw [hrest]
   congr 2
   omega
  have hx:xs[x]?=some (xs[x]'(by omega)):=qi _;generalize xs[x]'(by omega)=b at hx
  have gap:∀ (j:Nat) y,i≤j->j<x->xs[j]?=some y->y.1≠k:=fun j y h1 h2 hj e=>by
   have:=hskip j h1 h2;rw [has j y hj e] at this;exact absurd this (by decide)
  refine B x b hit _ hx (fun e=>?_) fun e=>?_
  ·rcases hH with ⟨rfl,hno⟩ | ⟨j,y,_,hj,hy,ey⟩
   ·exact ⟨rfl,(R1 x b hx e).1,rfl,x+1,some x,rfl,hrest',hlt,.inr ⟨x,b,rfl,zy x,hx,e⟩⟩
   ·have:=one hy hx ey e
    omega
  ·refine ⟨rfl,x+1,hit,rfl,hrest',hlt,?_⟩
   rcases hH with ⟨h0,hno⟩ | ⟨j,y,h1,hj,hy,ey⟩
   ·refine .inl ⟨h0,fun j y hjx hj=>?_⟩
    by_cases c1:j<i
    ·exact hno j y c1 hj
    ·by_cases c2:j<x
     ·exact gap j y (by omega) c2 hj
     ·have:j=x:=by omega
      subst this;rw [hx] at hj;cases hj;exact e
   ·exact .inr ⟨j,y,h1,by omega,hy,ey⟩
 ·rintro b s' ⟨rfl,i,hit,rfl,hr,hi,hH⟩
  rcases hH with ⟨rfl,hno⟩ | ⟨j,y,rfl,hj,hy,ey⟩
  ·refine R0 fun j x hj e=>?_
   by_cases c1:j<i
   ·exact hno j x c1 hj e
   ·have hjl:j<es.size:=by rw [sz];exact (qx.mp hj).1
    have:=jx.mp hr.symm j (jy.mpr ⟨by omega,by omega⟩);exact this (has j x hj e)
  ·exact (R1 j y hy ey).2
theorem xApe {d:Addr} {o:Obj} {es:Array DictEntry} {ep:Nat} {xs:List (KD×Value×Value)} {k:KD} {v:Value} {Q:Option Nat->Shared->Prop} (hu:A.units+1<cLine) (a:GIs P w s.heap k v) (ho:s.heap.get? d=some o) (hd:o.data=.dict es ep)
  (at':∀ j:Nat,es[j]?=(xs[j]?).map (gEnt P w)) (sz:es.size=xs.length) (his:∀ x∈xs,GIs P w s.heap x.1 x.2.1) (hn:(xs.map (·.1)).Nodup) (hQ:Q (gIdx xs k) s):wpAny (model P w) A (dictWalkPlain d v (gHash P w k) es (placesWithHash es.size (fun i=>es[i]?.map (·.hash)) (gHash P w k))) Q E s:=by
 unfold dictWalkPlain
 have has:∀ (j:Nat) x,xs[j]?=some x->x.1=k->((es[j]?.map (·.hash))==some (gHash P w k))=true:=fun j x hj e=>by
  rw [at' j,hj];show (some (gHash P w x.1)==some (gHash P w k))=true;rw [e]
  simp
 refine wpAny_bind (wpAny_forIn_list _ (fun rest b s'=>s'=s/\b=(none,())/\∃ i,rest=(List.range' i (es.size - i)).filter (fun i=>(es[i]?.map (·.hash))==some (gHash P w k))/\i≤es.size/\∀ (j:Nat) x,j<i->xs[j]?=some x->x.1≠k) _ ?_ ?_ _ _
  ⟨rfl,rfl,0,by rw [placesWithHash,jw,vg],qu _,fun j x hj=>absurd hj (zv _)⟩)
 ·rintro x rest b s' ⟨rfl,rfl,i,hr,hi,hno⟩
  obtain ⟨hix,hxn,hpx,hskip,hrest⟩:=filter_range'_cons _ _ _ _ _ hr.symm
  have hlt:x<es.size:=by omega
  have hx:xs[x]?=some (xs[x]'(by omega)):=qi _;generalize xs[x]'(by omega)=b at hx
  have hex:es[x]?=some (gEnt P w b):=by rw [at' x,hx];rfl
  have more:b.1≠k->∃ i,rest=(List.range' i (es.size - i)).filter (fun i=>(es[i]?.map (·.hash))==some (gHash P w k))/\i≤es.size/\∀ (j:Nat) x,j<i->xs[j]?=some x->x.1≠k:=fun e=>⟨x+1,by rw [hrest];congr 2;omega,hlt,fun j y hjx hj=>by
   by_cases c1:j<i
   ·exact hno j y c1 hj
   ·by_cases c2:j<x
    ·intro z
     have:=hskip j (by omega) c2;rw [has j y hj z] at this;exact absurd this (by decide)
    ·have:j=x:=by omega
     subst this;rw [hx] at hj;cases hj
     exact e⟩
  rw [hex]
  try dsimp only
  have hh:((gEnt P w b).hash==gHash P w k)=true:=by
   have:=hpx;rw [hex] at this;simpa using this
  rw [if_pos hh];refine wpAny_bind (wpAny_dictEpoch ho hd (wpAny_bind ((his b (qo hx)).eq hu a (wpAny_bind (wpAny_dictEpoch ho hd ?_)))))
  try dsimp only
  rw [if_neg (by simp)]
  by_cases e:b.1=k
  ·rw [decide_eq_true e,if_pos rfl]
   refine wpAny_bind (wpAny_rule (wpAny_pure (wpAny_pure ?_)));rw [← xAhn hn hx e];exact hQ
  ·rw [decide_eq_false e,if_neg (by decide)]
   exact wpAny_bind (wpAny_rule (wpAny_pure ⟨rfl,rfl,more e⟩))
 ·rintro b s' ⟨rfl,rfl,i,hr,hi,hno⟩
  refine wpAny_pure ?_;rw [← xAho (xs:=xs) (k:=k) fun j x hj e=>?_]
  ·exact hQ
  ·by_cases c1:j<i
   ·exact hno j x c1 hj e
   ·have hjl:j<es.size:=by rw [sz];exact (qx.mp hj).1
    exact jx.mp hr.symm j (jy.mpr ⟨by omega,by omega⟩) (has j x hj e)
theorem xAue {d:Addr} {o:Obj} {es:Array DictEntry} {ep:Nat} {xs:List (KD×Value×Value)} {k:KD} {v:Value} {Q:Option Nat->Shared->Prop} (hu:A.units+1<cLine) (a:GIs P w s.heap k v) (ho:s.heap.get? d=some o) (hd:o.data=.dict es ep)
  (he:es.toList=xs.map (gEnt P w)) (his:∀ x∈xs,GIs P w s.heap x.1 x.2.1) (hn:(xs.map (·.1)).Nodup) (hQ:Q (gIdx xs k) s):wpAny (model P w) A (dictFind d v (gHash P w k)) Q E s:=by
 have at':∀ j:Nat,es[j]?=(xs[j]?).map (gEnt P w):=fun j=>by rw [← zw,he,ql]
 have sz:es.size=xs.length:=by rw [← ze,he,qg]
 have key:∀ (j:Nat) x,xs[j]?=some x->x.1=k->((es[j]?.map (·.hash))==some (gHash P w k))=true:=fun j x hj e=>by
  rw [at' j,hj];show (some (gHash P w x.1)==some (gHash P w k))=true;rw [e]
  simp
 have mem:∀ e∈es,∃ x∈xs,e=gEnt P w x:=fun e hin=>by
  obtain ⟨x,hx,z⟩:=qk.mp (show e∈xs.map (gEnt P w) from he▸yr.mpr hin);exact ⟨x,hx,z.symm⟩
 have nostr:∀ z t,v≠.str z t:=fun z t e=>by
  rw [e] at a
  cases k with
  | non=>cases a
  | int i=>obtain ⟨_,q⟩:=a;cases q
  | tup ks=>obtain ⟨_,q,_⟩:=a;cases q
  | two ks ls=>obtain ⟨_,q,_⟩:=a;cases q
 have anyF:¬ (es.any fun e=>e.key==v&&e.hash != gHash P w k)=true:=by
  rw [← Array.any_toList,vd];rintro ⟨e,hin,hc⟩;obtain ⟨x,hx,rfl⟩:=mem e (yr.mp hin);rw [zi] at hc;have e1:x.2.1=v:=eq_of_beq hc.1;have e2:=his x hx;rw [e1] at e2;have e3:=e2.inj a;have e4:(gHash P w x.1 != gHash P w k)=true:=hc.2;rw [e3] at e4
  simp at e4
 have st:∀ u∈(placesWithHash es.size (fun i=>es[i]?.map (·.hash)) (gHash P w k)).filterMap (fun i=>es[i]?.map (·.key)),∃ k',GIs P w s.heap k' u:=fun u hu'=>by
  obtain ⟨i,_,hi⟩:=yq.mp hu';rw [at' i] at hi
  cases e:xs[i]? with
  | none=>rw [e] at hi;cases hi
  | some x =>
   rw [e] at hi
   have e2:x.2.1=u:=by simpa [gEnt] using hi
   exact ⟨x.1,e2▸his x (qo e)⟩
 have look:∀ (x:Nat) (b:KD×Value×Value) {R:Bool->Shared->Prop},xs[x]?=some b->R (decide (b.1=k)) s->wpAny (model P w) A (eqBool b.2.1 v) R E s:=fun x b R hx r=>(his b (qo hx)).eq hu a r
 have noneQ:(∀ (j:Nat) x,xs[j]?=some x->x.1≠k)->Q none s:=fun h=>by rw [← xAho h];exact hQ
 have someQ:∀ (j:Nat) x,xs[j]?=some x->x.1=k->Q (some j) s:=fun j x hj e=>by rw [← xAhn hn hj e];exact hQ
 unfold dictFind
 try with_reducible refine wpAny_holding ?_
 refine wpAny_bind (wpAny_dictEntries ho hd ?_)
 have vc:v=.none\/(∃ i t,v=.int i t)\/∃ p,v=.ref p:=by
  cases k with
  | non=>exact .inl a
  | int i=>exact .inr (.inl ⟨i,a⟩)
  | tup ks=>exact .inr (.inr ⟨a.choose,a.choose_spec.1⟩)
  | two ks ls=>exact .inr (.inr ⟨a.choose,a.choose_spec.1⟩)
 by_cases hv:(v::(placesWithHash es.size (fun i=>es[i]?.map (·.hash)) (gHash P w k)).filterMap (fun i=>es[i]?.map (·.key))).all carriedByValue=true
 ·rcases vc with rfl | ⟨i,t,rfl⟩ | ⟨p,rfl⟩
  ·dsimp only
   rw [if_pos hv];exact xApe hu a ho hd at' sz his hn hQ
  ·dsimp only
   rw [if_pos hv];exact xApe hu a ho hd at' sz his hn hQ
  ·exact absurd hv (by simp [carriedByValue])
 ·rcases vc with rfl | ⟨i,t,rfl⟩ | ⟨p,rfl⟩ <;> dsimp only <;> rw [if_neg hv] <;> (try rw [if_neg anyF]) <;> refine wpAny_ite_split (fun _=>?_) (fun _=>?_) <;> (first | refine wpAny_bind (wpAny_pure ?_) | refine wpAny_bind (g_tell a st ?_)) <;> (
   rw [if_neg (by simp)];refine wpAny_bind (g_loop at' sz hn (fun i b hit R' hx y n=>?_) (fun h=>wpAny_pure (noneQ h)) fun j x hj e=>⟨wpAny_pure (someQ j x hj e),wpAny_pure (someQ j x hj e)⟩)
   have hex:es[i]?=some (gEnt P w b):=by rw [at' i,hx];rfl
   rw [hex];dsimp only
   by_cases hh:((gEnt P w b).hash==gHash P w k)=true
   ·rw [if_pos hh]
    refine wpAny_bind (wpAny_dictEpoch ho hd (wpAny_bind (look i b hx (wpAny_bind (wpAny_dictEpoch ho hd ?_)))));rw [if_neg (by simp)]
    by_cases e:b.1=k
    ·obtain ⟨rfl,y1,y2⟩:=y e
     rw [decide_eq_true e,if_pos rfl,if_neg (by decide)];refine wpAny_bind (wpAny_rule ?_)
     split
     ·exact wpAny_pure y1
     ·exact wpAny_pure y2
    ·rw [decide_eq_false e,if_neg (by decide)]
     refine wpAny_bind (wpAny_rule ?_);rw [if_neg (by simp)];exact wpAny_pure (n e)
   ·rw [if_neg hh]
    exact wpAny_pure (n fun e=>hh (by
     show (gHash P w b.1==gHash P w k)=true;rw [e]
     simp)))
end
section
variable {α β:Type}
def vG (kvs:List (KD×α×β)) (k:KD):Option β:=(kvs.find? fun e=>decide (e.1=k)).map (·.2.2)
def pG (kvs:List (KD×α×β)) (k:KD) (key:α) (v:β):List (KD×α×β):=if (vG kvs k).isSome=true then kvs.map (fun e=>if e.1=k then (e.1,e.2.1,v) else e) else kvs++[(k,key,v)]
theorem xAhp {kvs:List (KD×α×β)} {k:KD} {i:Nat} {e:KD×α×β} (hn:(kvs.map (·.1)).Nodup) (h:kvs[i]?=some e) (he:e.1=k):vG kvs k=some e.2.2:=by
 unfold vG
 induction kvs generalizing i with
 | nil=>cases h
 | cons x r ih =>
  rw [zh,zo] at hn;rw [wz]
  cases i with
  | zero=>cases h;rw [decide_eq_true he];rfl
  | succ i =>
   have h':r[i]?=some e:=by simpa using h
   have hx:¬ x.1=k:=fun z=>hn.1 (by rw [z,← he];exact qk.mpr ⟨e,qo h',rfl⟩)
   rw [decide_eq_false hx];exact ih hn.2 h'
theorem xAhq {kvs:List (KD×α×β)} {k:KD} (h:∀ e∈kvs,e.1≠k):vG kvs k=none:=by
 unfold vG;rw [yl.mpr fun e he=>by rw [decide_eq_true_eq];exact h e he];rfl
theorem vG_no {kvs:List (KD×α×β)} {k:KD} (h:vG kvs k=none):∀ e∈kvs,e.1≠k:=fun e he z=>by
 unfold vG at h;rw [Option.map_eq_none_iff,yl] at h;exact h e he (decide_eq_true z)
theorem xAuf (kvs:List (KD×α×β)) (k k':KD) (key:α) (v:β):vG (pG kvs k key v) k'=if k'=k then some v else vG kvs k':=by
 unfold pG
 by_cases hs:(vG kvs k).isSome=true
 ·rw [if_pos hs]
  obtain ⟨u,hu⟩:=yu.mp hs;clear hs;unfold vG at *
  induction kvs with
  | nil=>simp at hu
  | cons x r ih =>
   rw [zh,wz];rw [wz] at hu ⊢
   by_cases hx:x.1=k
   ·rw [if_pos hx]
    by_cases hk:k'=k
    ·subst hk
     rw [if_pos rfl]
     simp [hx]
    ·rw [if_neg hk]
     have:¬ x.1=k':=fun z=>hk (z.symm.trans hx)
     simp only [this,decide_false]
     clear hu ih
     induction r with
     | nil=>rfl
     | cons y r ih2 =>
      rw [zh,wz,wz]
      by_cases hy:y.1=k
      ·have hy':¬ y.1=k':=fun z=>hk (z.symm.trans hy)
       rw [if_pos hy]
       simp only [hy',decide_false]
       exact ih2
      ·rw [if_neg hy]
       by_cases hy':y.1=k'
       ·simp [hy']
       ·simp only [hy',decide_false]
        exact ih2
   ·rw [if_neg hx]
    simp only [hx,decide_false] at hu
    by_cases hx':x.1=k'
    ·have:¬ k'=k:=fun z=>hx (hx'.trans z)
     rw [if_neg this]
     simp [hx']
    ·simp only [hx',decide_false]
     exact ih hu
 ·rw [if_neg hs]
  have hno:=vG_no (kvs:=kvs) (k:=k) (by cases e:vG kvs k with
   | none=>rfl
   | some u=>rw [e] at hs;exact absurd rfl hs)
  unfold vG;rw [List.find?_append]
  by_cases hk:k'=k
  ·subst hk
   rw [if_pos rfl,yl.mpr fun e he=>by rw [decide_eq_true_eq];exact hno e he]
   simp
  ·rw [if_neg hk]
   cases e:List.find? (fun e=>decide (e.1=k')) kvs with
   | some x=>rfl
   | none =>
    have:¬ k=k':=fun z=>hk z.symm
    simp [this]
theorem xAug (kvs:List (KD×α×β)) (k:KD) (key:α) (v:β):(pG kvs k key v).map (·.1)=if (vG kvs k).isSome=true then kvs.map (·.1) else kvs.map (·.1)++[k]:=by
 unfold pG
 split
 ·rw [wb]
  refine jz fun e _=>?_;show (if e.1=k then (e.1,e.2.1,v) else e).1=e.1
  split <;> rfl
 ·rw [z7]
  rfl
theorem xAqw (kvs:List (KD×α×β)) (k:KD) (key:α) (v:β):(pG kvs k key v).length≤kvs.length+1:=by
 unfold pG
 split
 ·rw [qg];omega
 ·rw [qv,zk];exact qh _
theorem xAkp {kvs:List (KD×α×β)} {k:KD} {key:α} {v:β} (h:(kvs.map (·.1)).Nodup):((pG kvs k key v).map (·.1)).Nodup:=by
 rw [xAug]
 split
 ·exact h
 ·rename_i hs
  refine xAtd h fun hm=>?_;obtain ⟨e,he,rfl⟩:=qk.mp hm
  exact vG_no (kvs:=kvs) (k:=e.1) (by cases e':vG kvs e.1 with
   | none=>rfl
   | some u=>rw [e'] at hs;exact absurd rfl hs) e he rfl
end
section
variable {P:Program} {w:World} {A:Around} {E:Value->Shared->Prop} {s:Shared}
def GDict (P:Program) (w:World) (h:Heap) (d:Addr) (xs:List (KD×Value×Value)):Prop :=
 ∃ o es ep,h.get? d=some o/\o.ExactDict/\o.data=.dict es ep/\es.toList=xs.map (gEnt P w)/\(∀ x∈xs,GIs P w h x.1 x.2.1)/\(xs.map (·.1)).Nodup
theorem GDict.typeIs {d:Addr} {xs:List (KD×Value×Value)} (g:GDict P w s.heap d xs):s.TypeIs (.ref d) "dict":=let ⟨o,_,_,ho,hc,_⟩:=g;⟨o,ho,hc.1⟩
theorem xAkq {xs:List (KD×Value×Value)} {k:KD} {j:Nat} (h:gIdx xs k=some j):∃ x,xs[j]?=some x/\x.1=k:=by
 unfold gIdx at h;rw [jt] at h;obtain ⟨hj,h1,_⟩:=h;exact ⟨xs[j],List.getElem?_eq_getElem hj,by simpa using h1⟩
theorem xApf {xs:List (KD×Value×Value)} {k:KD} (h:gIdx xs k=none):∀ e∈xs,e.1≠k:=fun e he=>by
 unfold gIdx at h;rw [jv] at h;simpa using h e he
theorem xApg {d:Addr} {xs:List (KD×Value×Value)} {k:KD} {v:Value} {Q:Option Value->Shared->Prop} (hu:A.units+1<cLine) (a:GIs P w s.heap k v) (g:GDict P w s.heap d xs) (h:Q (vG xs k) { s with toks:=s.toks+gDraws P w k }):wpAny (model P w) A (dictGet d v) Q E s:=by
 obtain ⟨o,es,ep,ho,_,hd,he,his,hn⟩:=g;unfold dictGet
 try with_reducible refine wpAny_holding ?_
 refine wpAny_bind (a.hash hu (wpAny_bind (xAue (s:={ s with toks:=s.toks+gDraws P w k }) hu a ho hd he his hn ?_)))
 cases e:gIdx xs k with
 | none =>
  rw [xAhq (xApf e)] at h;exact wpAny_pure h
 | some j =>
  obtain ⟨x,hx,ex⟩:=xAkq e;rw [xAhp hn hx ex] at h;refine wpAny_bind (wpAny_dictEntries (s:={ s with toks:=s.toks+gDraws P w k }) ho hd ?_);rw [← zw,he,ql,hx];exact wpAny_pure h
theorem xAnf {xs:List (KD×Value×Value)} {k:KD} {v:Value} {j:Nat} {x:KD×Value×Value} (hn:(xs.map (·.1)).Nodup) (hx:xs[j]?=some x) (ex:x.1=k) :
  (xs.map (gEnt P w)).modify j (fun e=>{ e with val:=v })=(xs.map fun e=>if e.1=k then (e.1,e.2.1,v) else e).map (gEnt P w):=by
 apply wg;intro i;rw [List.getElem?_modify,ql,ql,ql]
 cases hi:xs[i]? with
 | none=>simp
 | some y =>
  by_cases e:j=i
  ·subst e
   rw [hx] at hi;cases hi
   simp [ex,gEnt]
  ·have hy:¬ y.1=k:=fun z=>e ((List.getElem?_inj (by rw [List.length_map];exact (List.getElem?_eq_some_iff.mp hx).1) hn).mp (by rw [List.getElem?_map,List.getElem?_map,hx,hi];simp [ex,z]))
   simp [e,hy]
theorem xAge {h h':Heap} {d:Addr} {o:Obj} {es:Array DictEntry} {ep:Nat} (ho:h.get? d=some o) (hc:o.ExactDict) (hs:Heap.SameBut d h h') {k:KD} {v:Value} (a:GIs P w h k v):GIs P w h' k v:=a.ext fun b o' hb hcl=>(hs.2 b (fun z=>by
 rw [z,ho] at hb;cases hb;rw [hc.1] at hcl
 exact absurd hcl (by decide))).trans hb
theorem xAuh {d:Addr} {xs:List (KD×Value×Value)} {k:KD} {v val:Value} {Q:Unit->Shared->Prop} (hu:A.units+1<cLine) (a:GIs P w s.heap k v) (g:GDict P w s.heap d xs) (hsz:xs.length≤sizeLine)
  (hQ:∀ h',GDict P w h' d (pG xs k v val)->Heap.SameBut d s.heap h'->Q () { s with heap:=h',toks:=s.toks+gDraws P w k }):wpAny (model P w) A (dictSet d v val) Q E s:=by
 obtain ⟨o,es,ep,ho,hc,hd,he,his,hn⟩:=g
 have sz:es.size=xs.length:=by rw [← ze,he,qg]
 have keep:∀ h',Heap.SameBut d s.heap h'->∀ x∈pG xs k v val,GIs P w h' x.1 x.2.1:=fun h' hs x hx=>by
  unfold pG at hx
  split at hx
  ·obtain ⟨y,hy,rfl⟩:=qk.mp hx
   have:=xAge (es:=es) (ep:=ep) ho hc hs (his y hy)
   split <;> exact this
  ·rcases zj.mp hx with hx | hx
   ·exact xAge (es:=es) (ep:=ep) ho hc hs (his x hx)
   ·rw [zb.mp hx]
    exact xAge (es:=es) (ep:=ep) ho hc hs a
 unfold dictSet
 try with_reducible refine wpAny_holding ?_
 refine wpAny_bind (a.hash hu ?_);unfold dictSetHashed
 try with_reducible refine wpAny_holding ?_
 refine wpAny_bind (xAue (s:={ s with toks:=s.toks+gDraws P w k }) hu a ho hd he his hn ?_)
 cases e:gIdx xs k with
 | none =>
  have hv:=xAhq (xApf e);refine wpAny_bind (wpAny_rule (wpAny_updateDictKeys (hz:=by omega) (s:={ s with toks:=s.toks+gDraws P w k }) ho hd (hQ _ ⟨_,_,ep+1,Heap.get?_update_self _ ho (Obj.isFreed_of_dict (Obj.data_mapDictKeys hd _)),hc.mapDictKeys _,Obj.data_mapDictKeys hd _,?_,keep _ (Heap.SameBut.update ..),xAkp hn⟩ (Heap.SameBut.update ..))));unfold pG;rw [hv,if_neg (by decide)]
  simp [he,gEnt]
 | some j =>
  obtain ⟨x,hx,ex⟩:=xAkq e;have hv:=xAhp hn hx ex;refine wpAny_bind (wpAny_rule (wpAny_bind (wpAny_updateDict (s:={ s with toks:=s.toks+gDraws P w k }) ho hd (wpAny_point (hQ _ ⟨_,_,ep,Heap.get?_update_self _ ho (Obj.isFreed_of_dict (Obj.data_mapDict hd _)),hc.mapDict _,Obj.data_mapDict hd _,?_,keep _ (Heap.SameBut.update ..),xAkp hn⟩ (Heap.SameBut.update ..))))));unfold pG;rw [hv,if_pos (show (some x.2.2).isSome=true from rfl)];have:=xAnf (P:=P) (w:=w) (v:=val) hn hx ex;rw [← he] at this;obtain ⟨l⟩:=es;simpa using this
end
abbrev GP (H:Hp):KD×V×V->KD×Value×Value->Prop:=fun p q=>p.1=q.1/\GK H p.1 p.2.1/\RelV p.2.1 q.2.1/\RelV p.2.2 q.2.2
section
variable {X:Cx} {pins:List (Addr×Obj)} {σ:St} {H:Hp} {s:Shared} {a:Addr} {y v:V} {u r:Value} {k:KD} {kvs:List (KD×V×V)} {A:Around} {E:Value->Shared->Prop}
theorem GK.is (I:Inv X pins σ H s) (g:GK H k y) (ry:RelV y u):GIs X.prog X.w s.heap k u:=by
 cases k with
 | non=>cases g;exact ry
 | int i=>cases g;exact ry
 | tup ks =>
  obtain ⟨b,rfl,hb⟩:=g;exact ⟨b,ry,xAig I.hok hb⟩
 | two ks ls =>
  obtain ⟨b,c,d,rfl,hb,hc,hd⟩:=g;obtain ⟨its,rv,⟨o,e1,e2,n,e3⟩,_⟩:=I.tuple (SqT.of hb);obtain ⟨u1,u2,rfl,r1,r2⟩:=rv.two;cases r1;cases r2;exact ⟨b,ry,o,c,d,n,e1,e2,e3,xAig I.hok hc,xAig I.hok hd⟩
theorem xAui {F:KD×V×V->KD×Value×Value->Prop}:∀ {l:List (KD×V×V)} {m:List (KD×Value×Value)},Paired F l m->∀ x∈m,∃ p∈l,F p x
 | _,_,.nil,x,h=>nomatch h
 | _,_,.cons f t,x,h=>by
  rcases zg.mp h with rfl | h
  ·exact ⟨_,qr,f⟩
  ·obtain ⟨p,hp,q⟩:=xAui t x h
   exact ⟨p,qw _ hp,q⟩
theorem xAng:∀ {l:List (KD×V×V)} {m:List (KD×Value×Value)},Paired (GP H) l m->RelO (vG l k) (vG m k)
 | _,_,.nil=>trivial
 | _,_,.cons (a:=p) (b:=q) f t=>by
  have ih:=xAng t;unfold vG at ih ⊢;rw [wz,wz,← f.1]
  by_cases e:p.1=k
  ·rw [decide_eq_true e];exact f.2.2.2
  ·rw [decide_eq_false e];exact ih
theorem xAuj (rv:RelV v r):∀ {l:List (KD×V×V)} {m:List (KD×Value×Value)},Paired (GP H) l m->Paired (GP H) (l.map fun e=>if e.1=k then (e.1,e.2.1,v) else e) (m.map fun e=>if e.1=k then (e.1,e.2.1,r) else e)
 | _,_,.nil=>.nil
 | _,_,.cons (a:=p) (b:=q) f t=>by
  refine .cons ?_ (xAuj rv t);show GP H (if p.1=k then (p.1,p.2.1,v) else p) (if q.1=k then (q.1,q.2.1,r) else q);rw [← f.1]
  split
  ·exact ⟨rfl,f.2.1,f.2.2.1,rv⟩
  ·exact f
theorem gp_put {l:List (KD×V×V)} {m:List (KD×Value×Value)} (t:Paired (GP H) l m) (g:GK H k y) (ry:RelV y u) (rv:RelV v r):Paired (GP H) (pG l k y v) (pG m k u r):=by
 have e:(vG l k).isSome=(vG m k).isSome:=(xAng t).isSome_eq;unfold pG;rw [e]
 split
 ·exact xAuj rv t
 ·exact Paired.snoc t ⟨rfl,g,ry,rv⟩
theorem xAuk:∀ {l:List (KD×V×V)} {m:List (KD×Value×Value)},Paired (GP H) l m->l.length=m.length
 | _,_,.nil=>rfl
 | _,_,.cons _ t=>by rw [qy,qy,xAuk t]
theorem gd_rd (I:Inv X pins σ H s) (e:Rd H a (.dG kvs)):kvs.length≤sizeLine/\(a==sysModules)=false/\∃ xs,Paired (GP H) kvs xs/\GDict X.prog X.w s.heap a xs:=by
 obtain ⟨z,y,xs,r,o,es,ep,h1,h2,h3,h4,h5⟩:=(show ObjOk X.prog X.w H s.heap a (.dG kvs) from e.ok I.hok);refine ⟨z,y,xs,r,o,es,ep,h1,h2,h3,h4,fun x hx=>?_,h5⟩;obtain ⟨p,hp,f⟩:=xAui r x hx;rw [← f.1];exact f.2.1.is I f.2.2.1
theorem xAkr {Q:Value->Shared->Prop} (hu:A.units+2<cLine) (I:Inv X pins σ H s) (e:Rd H a (.dG kvs)) (g:GK H k y) (l:vG kvs k=some v) (ry:RelV y u) (h:∀ w' s',Inv X pins σ H s'->RelV v w'->Q w' s') :
  wpAny (model X.prog X.w) A (getItem (.ref a) u) Q E s:=by
 obtain ⟨z,hd,xs,rel,dd⟩:=gd_rd I e;obtain ⟨w',hw,rw'⟩:=RelO.some_of (v:=v) (o:=vG xs k) (by rw [← l];exact xAng rel);unfold getItem
 try with_reducible refine wpAny_holding ?_
 refine wpAny_bind (wpAny_sequenceKey dd.typeIs (by decide) (wpAny_bind (wpAny_callSpecial?_slot (name:=Str.ofString "__getitem__") dd.typeIs F.slot_dict_getitem (wpAny_call_entry F.slot_dict_getitem dd.typeIs F.entry_dict_getitem ?_ (F.args_dict_getitem_2 _ _)))));show wpAny (model X.prog X.w) _ (dictGet a u >>= _) _ _ s;refine wpAny_bind (xApg (show A.in1.units+1<cLine from (by show A.units+1+1<cLine;omega)) (g.is I ry) dd ?_);rw [hw];exact wpAny_pure ⟨w',rfl,wpAny_pure (h w' _ (I.tok _) rw')⟩
theorem xAeb {Q:Bool->Shared->Prop} (hu:A.units+2<cLine) (I:Inv X pins σ H s) (e:Rd H a (.dG kvs)) (g:GK H k y) (ry:RelV y u) (h:∀ s',Inv X pins σ H s'->Q (vG kvs k).isSome s') :
  wpAny (model X.prog X.w) A (contains (.ref a) u) Q E s:=by
 obtain ⟨z,hd,xs,rel,dd⟩:=gd_rd I e;have eo:(vG kvs k).isSome=(vG xs k).isSome:=(xAng rel).isSome_eq;unfold contains
 try with_reducible refine wpAny_holding ?_
 refine wpAny_bind (wpAny_specialOf dd.typeIs F.slot_dict_contains.lookup ?_);show wpAny (model X.prog X.w) A (if (some (Value.builtin "dict.__contains__")==some Value.none)=true then _ else _) _ E s;rw [if_neg (by rw [beq_builtin_none];decide)];refine wpAny_bind (wpAny_callSpecialUnlessNone?_slot (name:=Str.ofString "__contains__") dd.typeIs F.slot_dict_contains (wpAny_call_entry F.slot_dict_contains dd.typeIs F.entry_dict_contains ?_ (F.args_dict_contains_2 _ _)));show wpAny (model X.prog X.w) _ (dictGet a u >>= _) _ _ s;refine wpAny_bind (xApg (show A.in1.units+1<cLine from (by show A.units+1+1<cLine;omega)) (g.is I ry) dd ?_)
 cases hf:vG xs k with
 | some p =>
  rw [hf] at eo;refine wpAny_pure ⟨Value.bool true,rfl,wpAny_truthy_bool ?_⟩;have:=h _ (I.tok (s.toks+gDraws X.prog X.w k));rw [eo] at this;exact this
 | none =>
  rw [hf] at eo;show wpAny (model X.prog X.w) _ (Builtin.Dict.pendingKey? a u >>= _) _ _ _;refine wpAny_bind (wpAny_pendingKey_other hd (wpAny_pure ⟨Value.bool false,rfl,wpAny_truthy_bool ?_⟩));have:=h _ (I.tok (s.toks+gDraws X.prog X.w k));rw [eo] at this;exact this
theorem xAks {Q:Unit->Shared->Prop} (hu:A.units+2<cLine) (I:Inv X pins σ H s) (e:H a=some (.dG kvs)) (g:GK H k y) (hl:kvs.length<sizeLine) (ry:RelV y u) (rv:RelV v r) (h:∀ s',Inv X pins σ (upd H a (.dG (pG kvs k y v))) s'->Q () s') :
  wpAny (model X.prog X.w) A (setItem (.ref a) u r) Q E s:=by
 obtain ⟨z,hd,xs,rel,dd⟩:=gd_rd I (.inl e);unfold setItem
 try with_reducible refine wpAny_holding ?_
 refine wpAny_bind (wpAny_sequenceKey dd.typeIs (by decide) (wpAny_bind (wpAny_callSpecial?_slot (name:=Str.ofString "__setitem__") dd.typeIs F.slot_dict_setitem (wpAny_call_entry F.slot_dict_setitem dd.typeIs F.entry_dict_setitem ?_ (F.args_dict_setitem_3 _ _ _)))));show wpAny (model X.prog X.w) _ (Builtin.Dict.notOrdered "__setitem__" ⟨[.ref a,u,r],[]⟩ >>= _) _ _ s;refine wpAny_bind (wpAny_notOrdered_dict dd.typeIs ?_);show wpAny (model X.prog X.w) _ (dictSet a u r >>= _) _ _ s;refine wpAny_bind (xAuh (show A.in1.units+1<cLine from (by show A.units+1+1<cLine;omega)) (g.is I ry) dd (by rw [← xAuk rel];exact z) fun h' dd' hs'=>wpAny_pure ⟨Value.none,rfl,wpAny_pure (h _ ?_)⟩);obtain ⟨q,es,ep,hq,h2,h3,h4,_,h5⟩:=dd';have hlen:=xAqw kvs k y v;refine xAjk I (by rw [e];exact True.intro) hs' ⟨q,hq⟩ ⟨by omega,hd,_,Paired.mapP (gp_put rel g ry rv) fun p q z=>⟨z.1,z.2.1.stay fun b xs hb=>?_,z.2.2⟩,q,es,ep,hq,h2,h3,h4,h5⟩;rw [xAah (ne_of hb e (fun z=>nomatch z))];exact hb
end
def tDGetG (td ty:TE):TE:=fun σ H Q=>td σ H fun x H1=>ty σ H1 fun y H2=>∃ a kvs k v,x=.ref a/\Rd H2 a (.dG kvs)/\GK H2 k y/\vG kvs k=some v/\Q v H2
def rInG (neg:Bool):R2:=fun y x H Q=>∃ a kvs k,x=.ref a/\Rd H a (.dG kvs)/\GK H k y/\Q (.bl (if neg then !(vG kvs k).isSome else (vG kvs k).isSome)) H
def sDPutG (td ty tv:TE):TS:=fun D σ H=>tv σ H fun v H1=>td σ H1 fun x H2=>ty σ H2 fun y H3=>∃ a kvs k,x=.ref a/\H3 a=some (.dG kvs)/\GK H3 k y/\kvs.length<sizeLine/\D.nx σ (upd H3 a (.dG (pG kvs k y v)))
section
variable {X:Cx} {o i e value:Expr} {pos pos' tpos:Pos} {td ty tv:TE}
theorem xAbo (hu:X.A.units+2<cLine) (ho:PE X o td) (hi:PE X i ty) (hs:NoSl i):PE X (.Subscript o i pos) (tDGetG td ty):=by
 intro pins s σ H Q I h;refine xAop PySem.F.slot_dict_getitem.lookup hs (thn (ho pins s σ H _ I h) fun u s1 ⟨x,H1,I1,rx,q1⟩=>thn (hi pins s1 σ H1 _ I1 q1) fun iv s2 ⟨y,H2,I2,ry,a,kvs,k,v,ex,rd,g,l,q2⟩=>?_);subst ex;obtain rfl:u=Value.ref a:=rx;obtain ⟨_,_,xs,_,dd⟩:=gd_rd I2 rd;exact ⟨dd.typeIs,xAkr hu I2 rd g l ry fun w' s3 I3 rw'=>⟨v,H2,I3,rw',q2⟩⟩
theorem op_inG (hu:X.A.units+2<cLine):OpR X (compareOp .In) (rInG false):=by
 intro pins s σ H x y v u Q I rx ry h;obtain ⟨a,kvs,k,rfl,rd,g,q⟩:=h;cases ry;show wpAny (model X.prog X.w) X.A (do return Value.bool (← contains (.ref a) v)) _ _ s;exact wpAny_bind (xAeb hu I rd g rx fun s' I'=>wpAny_pure ⟨.bl _,H,I',rfl,q⟩)
theorem xAnh (hu:X.A.units+2<cLine):OpR X (compareOp .NotIn) (rInG true):=by
 intro pins s σ H x y v u Q I rx ry h;obtain ⟨a,kvs,k,rfl,rd,g,q⟩:=h;cases ry;show wpAny (model X.prog X.w) X.A (do return Value.bool (!(← contains (.ref a) v))) _ _ s;exact wpAny_bind (xAeb hu I rd g rx fun s' I'=>wpAny_pure ⟨.bl _,H,I',rfl,q⟩)
theorem xAen (hu:X.A.units+2<cLine) (ho:PE X o td) (hi:PE X i ty) (hv:PE X value tv) (hs:swapsWith value (some (.Subscript o i pos')) pos.line X.env=pure false) :
  PS X (.Assign [.Subscript o i pos'] value pos) (sDPutG td ty tv):=by
 intro pins s σ H D I h;refine wpAny_Assign_Subscript (thn (hv pins s σ H _ I h) fun r s1 ⟨v,H1,I1,rv,q1⟩=>thn (ho pins s1 σ H1 _ I1 q1) fun u s2 ⟨x,H2,I2,rx,q2⟩=>thn (hi pins s2 σ H2 _ I2 q2) fun iv s3 ⟨y,H3,I3,ry,a,kvs,k,ex,e,g,hl,q3⟩=>?_) hs;subst ex;obtain rfl:u=Value.ref a:=rx;exact xAks hu I3 e g hl ry rv fun s4 I4=>⟨σ,_,I4,q3⟩
def tDctG:TE:=fun _ H Q=>∀ p H',H p=none->Same H H'->H' p=some (.dG [])->Q (.ref p) H'
theorem xAqx {P:Program} {w:World} {H:Hp} (h:Heap) (hb:sysModules<h.objs.size):ObjOk P w H (h.push { cls:=.type "dict",data:=.dict #[] }) h.objs.size (.dG []) :=
 ⟨qu _,beq_eq_false_iff_ne.mpr (Ne.symm (qj hb)),[],.nil,_,#[],0,Heap.get?_push_size _ rfl,⟨rfl,rfl,rfl⟩,rfl,rfl,wx⟩
theorem xAhr:PE X (.Dict [] [] pos) tDctG:=fun pins s σ H Q I h =>
 wpAny_Dict_empty ⟨.ref s.heap.objs.size,_,I.laid (a:=s.heap.objs.size) (o:=.dG []) (t':=s.toks) (fun _ _ q=>Heap.get?_push_of_some _ q) (qh _) (xAqx s.heap I.big),rfl,h _ _ (I.hok.fresh (qh _)) (Same.new (I.hok.fresh (qh _))) xAae⟩
end
theorem xAgf:typeLookup (.type "list") "keys"=pure none:=by rw [typeLookup_type,builtinLookup_eq_fast];kernel_rfl
section
variable {prog:Program} {w:World} {A:Around} {E:Value->Shared->Prop}
theorem xAul {s:Shared} {a:Addr} {xs:Array Value} {k:Nat} {sl:Array (Option Value)} {Q:Option Value->Shared->Prop} (hx:s.heap.get? a=some { cls:=.type "list",dict:=none,data:=.seq xs k,slots:=sl }) (hA:A.handled=none)
  (h:∀ h' tk,Ext s.heap h'->Q none { s with heap:=h',toks:=tk }):wpAny (model prog w) A (getAttr? (.ref a) "keys") Q E s:=by
 obtain ⟨hp,g,d,tk,os⟩:=s;have hT:∀ tk',(⟨hp,g,d,tk',os⟩:Shared).TypeIs (.ref a) "list":=fun _=>⟨_,hx,rfl⟩;have f1:=sub_AttributeError;have f3:=F.slot_list_getattribute.lookup;have f4:=F.slot_list_getattribute.bind (.ref a);have f5:=am_list_getattr_none
 have z:(Str.ofString "keys").length+100≤sizeLine:=by
  have:=xAak (n:=1000) (qh _);have e:(Str.ofString "keys").length=4:=rfl;omega
 unfold getAttr? getAttrBy? getAttrBy
 repeat (any_goals (first | assumption | exact hT _ | ((with_reducible show wpAny _ _ (call (Value.builtin "list.__getattribute__") _ _) _ _ _);refine call_meets F.slot_list_getattribute (hT _) am_entry_list_getattribute (F.args_list_getattribute_2 _ _) (meets_getattribute_miss_list a xs k sl "keys" _ xAgf (by decide +kernel) z) ⟨hx,hA,fun h' tk' e hx'=>?_⟩) | wp_step))
 obtain ⟨t',u',he⟩:=hx'.there;show wpAny (model prog w) A (getattributeRaised _ _ _ _ _ _ _) _ _ _;unfold getattributeRaised
 repeat (any_goals (first | assumption | wp_step))
 exact h _ _ hx'.keeps
end
theorem xAhs:entryFor table "dict.update.loop"=some Builtin.«dict.update.loop»:=entryFor_of_tree (by kernel_rfl)
theorem xAde:plainId "dict.update.loop"=true:=by decide +kernel
def Tst (h h':Heap):Prop:=∀ b o,h.get? b=some o->o.cls=.type "tuple"->h'.get? b=some o
section
variable {P:Program} {w:World} {A:Around}
theorem xAim {M:Model} {E:Value->Shared->Prop} {s:Shared} {b:Addr} {o:Obj} {xs:Array Value} {n:Nat} {Q:Option (Array Value)->Shared->Prop} (ho:s.heap.get? b=some o) (hd:o.data=.seq xs n) (q:Q (some xs) s):wpAny M A (seqItems? (.ref b)) Q E s:=by
 unfold seqItems?;refine wpAny_bind (wpAny_load ho ?_);rw [hd];exact wpAny_pure q
theorem xAqy {h h':Heap} {I l:Addr} {i:Nat} (hit:h.IsListIter I l i) (k:∀ b o,b≠I->h.get? b=some o->h'.get? b=some o):Tst h h':=fun b o e c=>k b o (fun z=>by
 obtain ⟨o',e',c',_⟩:=hit;rw [z,e'] at e;cases e;rw [c'] at c
 exact absurd c (by decide)) e
end
section
variable {X:Cx} {pins:List (Addr×Obj)} {σ:St} {H:Hp} {s:Shared}
end
section
variable {P:Program} {w:World} {A:Around} {E:Value->Shared->Prop} {s:Shared}
end
section
variable {X:Cx}
end
theorem hu4 {A:Around} {k:Nat} (hr:Room k A):A.units+4<cLine:=by have:=hr.units;omega
theorem hu2 {A:Around} {k:Nat} (hr:Room k A):A.units+2<cLine:=by have:=hr.units;omega
theorem hu3 {A:Around} {k:Nat} (hr:Room k A):A.units+3<cLine:=by have:=hr.units;omega
section
variable {X:Cx}
end
section
variable {P:Program} {w:World} {fs:List Addr} {H H1:Hp} {h h1 h2:Heap}
theorem Un.later (u:Un fs [] H H1 h h1) (k:∀ b o,b<h.objs.size->h1.get? b=some o->h2.get? b=some o):Un fs [] H H1 h h2 where
 keep:=fun b o q n hb hx=>k b o (Heap.lt_size q) (u.keep b o q n hb hx)
 slot:=fun b o q n hb hx=>let ⟨sl,e⟩:=u.slot b o q n hb hx;⟨sl,k b _ (Heap.lt_size q) e⟩
 free:=u.free
 there:=fun b o q hx=>let ⟨o',e⟩:=u.there b o q hx;⟨o',k b o' (Heap.lt_size q) e⟩
 tups:=u.tups
 frzs:=u.frzs
 tbls:=u.tbls
theorem HOk.other {a:Addr} (x:HOk P w H h) (k:∀ b u,b≠a->h.get? b=some u->h2.get? b=some u) (hn:H a=none):HOk P w H h2:=fun b o e=>by
 have ne:∀ {c u},H c=some u->c≠a:=fun q z=>by rw [z,hn] at q;cases q
 refine (x b o e).stay (fun c u hc q=>k c u ?_ q) (fun _ q=>q) fun _ _ q=>q;rcases hc with rfl | hc
 ·exact ne e
 ·exact ne hc
theorem HOk.adopt {a:Addr} {o:HO} (x:HOk P w H h) (hn:H a=none) (new:ObjOk P w (upd H a o) h a o):HOk P w (upd H a o) h:=fun b u e=>by
 by_cases hb:b=a
 ·subst hb;rw [xAae] at e;cases e;exact new
 ·rw [xAah hb] at e
  refine (x b u e).stay (fun _ _ _ q=>q) (fun c q=>?_) fun c xs q=>?_
  ·rw [xAah (fun z=>by rw [z,hn] at q;cases q)];exact q
  ·rw [xAah (fun z=>by rw [z,hn] at q;cases q)];exact q
theorem Un.adopt {a:Addr} {o:HO} (u:Un fs [] H H1 h h1) (ha:h.objs.size≤a) (hn:H1 a=none):Un fs [] H (upd H1 a o) h h1 where
 keep:=u.keep
 slot:=u.slot
 free:=fun b ob q n hx=>by
  rw [xAah (qj (qz (Heap.lt_size q) ha))];exact u.free b ob q n hx
 there:=u.there
 tups:=fun b xs q=>by
  have:=u.tups b xs q;rw [xAah (fun z=>by rw [z,hn] at this;cases this)];exact this
 frzs:=fun b ob v q=>by
  have:=u.frzs b ob v q;rw [xAah (fun z=>by rw [z,hn] at this;cases this)];exact this
 tbls:=fun b ps q=>by
  obtain ⟨m,this⟩:=u.tbls b ps q;exact ⟨m,by rw [xAah (fun z=>by rw [z,hn] at this;cases this)];exact this⟩
end
def SrtOk (n:Nat) (ds:List PyData):Prop:=n≤2000/\(n<64\/ds.Pairwise fun a b=>ltD a b=true)
theorem SrtOk.few {n:Nat} {ds:List PyData} (h:SrtOk n ds) (hl:ds.length=n) (W:Srt.Swo (ltK ds)):Few (ltK ds) n:=by
 rcases h.2 with h | h
 ·exact .inl h
 ·refine .inr fun i j hij hj=>?_
  by_cases e:i=j
  ·subst e;exact W.irr _
  ·refine W.le_of_lt ?_
   have:=z8.mp h i j (by omega) (by omega) (by omega);unfold ltK keyAt;rw [qq,qq,qi (by omega),qi (by omega)];exact this
def rSortK (K:PySem.W.Frag) (sp:Sp):List V->Hp->VK->Prop:=fun xs H Q=>∃ p ys ds t,xs=[.ref p]/\SqL K H p ys/\ds.length=ys.length/\KeysAre ds t/\SrtOk ys.length ds ∧
 (∀ (m:Nat) y d H' (Q':VK),ys[m]?=some y->ds[m]?=some d->Same H H'->(∀ H'' kv,Same H' H''->DV K H'' kv d->Q' kv H'')->sp [y] H' Q' E0) ∧
 ∀ q H' ix,H q=none->Same H H'->SortIx ds ix->H' q=some (.lst (ix.map fun i=>ys.getD i .non))->Q (.ref q) H'
section
variable {X:Cx} {pins:List (Addr×Obj)} {σ:St} {H:Hp} {s:Shared} {k:Nat} {fa:Addr} {fd:FuncData} {ps:List Str} {sp:Sp}
structure KSt (X:Cx) (H:Hp) (s:Shared) (a kS:Addr) (e1:Nat) (Hm:Hp) (s':Shared) (ks:List Value) (kvs:List V) (ds:List PyData):Prop where
 un:Un (frs X.stack) [] H Hm s.heap s'.heap
 hok:HOk X.prog X.w Hm s'.heap
 os:s'.os=s.os
 bare:AllBare s'.gens
 same:Same H Hm
 fa':Hm a=none
 fk:Hm kS=none
 ga:s'.heap.get? a=some (seqObj "list" #[] e1)
 gk:∃ e,s'.heap.get? kS=some (seqObj "list" ks.toArray e)
 vals:Vals kvs ks
 dv:DVs X.K Hm kvs ds
theorem xAkt {K:PySem.W.Frag} {H:Hp} {x:V} {d:PyData} (h:DV K H x d):∀ {xs:List V} {ds:List PyData},DVs K H xs ds->DVs K H (xs++[x]) (ds++[d])
 | _,_,.nil=>.cons h .nil
 | _,_,.cons a t=>.cons a (xAkt h t)
theorem xAku {A':Around} {a kS:Addr} {e1:Nat} {E:Value->Shared->Prop} {R:Shared->Prop} (hcall:∀ (s':Shared) (Hm:Hp) (x:Value) (y:V) (Q:VK),Env0 X.prog X.w X.K X.mg X.base A' X.stack s' Hm->Un (frs X.stack) [] H Hm s.heap s'.heap->Same H Hm->RelV y x->sp [y] Hm Q E0->codeAny (model X.prog X.w) A' (.call (.ref fa) ⟨[x],[]⟩) (CR CX0 X.stack X.prog X.w Hm s' Q E0) s') (hfr:A'.frames=X.A.frames) (I:Inv X pins σ H s) (ha:s.heap.objs.size≤a) (hk:s.heap.objs.size≤kS) (hak:a≠kS) (nfa:a∉frs X.stack) (nfk:kS∉frs X.stack)
  {body:Value->PUnit->Sem (ForInStep PUnit)} (hbody:∀ x (s':Shared) (R':ForInStep PUnit->Shared->Prop),wpAny (model X.prog X.w) A' (call (.ref fa) [x]) (fun kv s2=>wpAny (model X.prog X.w) A' (Builtin.List.listUpdate (.ref kS) (·.push kv)) (fun _ s3=>R' (.yield ⟨⟩) s3) E s2) (fun _ _=>False) s'->wpAny (model X.prog X.w) A' (body x ⟨⟩) R' E s') :
  ∀ (r:List Value) (ry:List V) (rd:List PyData) (ks:List Value) (kvs:List V) (dd:List PyData) (Hm:Hp) (s':Shared),Vals ry r->rd.length=ry.length →
   (∀ (m:Nat) y d H' (Q':VK),ry[m]?=some y->rd[m]?=some d->Same H H'->(∀ H'' kv,Same H' H''->DV X.K H'' kv d->Q' kv H'')->sp [y] H' Q' E0) →
   ks.length+r.length≤2000->KSt X H s a kS e1 Hm s' ks kvs dd →
   (∀ Hn s'' ks' kvs',KSt X H s a kS e1 Hn s'' ks' kvs' (dd++rd)->ks'.length=ks.length+r.length->R s'')->wpAny (model X.prog X.w) A' (forIn r PUnit.unit body) (fun _ s''=>R s'') E s'
 | [],ry,rd,ks,kvs,dd,Hm,s',rv,hl,hsp,hz,st,fin=>by
  cases rv;rw [wv] at hl;rw [j3.mp hl] at fin;rw [List.forIn_nil];refine wpAny_pure (fin Hm s' ks kvs ?_ rfl);rw [vm];exact st
 | x::r,_,[],ks,kvs,dd,Hm,s',.cons _ _,hl,hsp,hz,st,fin=>absurd hl (by simp)
 | x::r,_,d::rd,ks,kvs,dd,Hm,s',.cons (a:=y) (l₁:=ry) r1 rv,hl,hsp,hz,st,fin=>by
  rw [List.forIn_cons];have I':Inv X pins σ Hm s':=I.call' st.os st.un st.hok st.bare (fun b z=>absurd z (by simp));have e0:=I'.env0;obtain ⟨ek,gk⟩:=st.gk;refine wpAny_bind (hbody x s' _ ?_);refine wpAny_call (codeAny_mono (hcall s' Hm x y (fun kv H2=>Same Hm H2/\DV X.K H2 kv d) ⟨hfr.trans e0.frames,e0.mod,e0.bs,e0.bsz,e0.funs,e0.frf,e0.hok,e0.bare⟩ st.un st.same r1 (hsp 0 y d Hm _ rfl rfl st.same fun H2 kv a1 a2=>⟨a1,a2⟩)) fun res s2 hq=>?_)
  cases res with
  | error e=>exact hq.elim
  | ok fl =>
   cases fl with
   | next=>exact hq.elim
   | brk=>exact hq.elim
   | cont=>exact hq.elim
   | ret u =>
    obtain ⟨v,H2,os2,bare2,un2,hok2,rel,same2,dv2⟩:=hq;have gk2:=un2.keep kS _ gk st.fk nfk (by simp);have ga2:=un2.keep a _ st.ga st.fa' nfa (by simp);have fk2:=un2.free kS _ gk st.fk (by simp);have fa2:=un2.free a _ st.ga st.fa' (by simp);have hz':ks.length+(r.length+1)≤2000:=hz;have z64:2000≤sizeLine:=zf (xAhg (by decide));refine listUpdate_at gk2 rfl ?_ (by rw [zc];omega) (by rw [Array.size_push,zc];omega)
    obtain ⟨c2,g2⟩:∃ c2,(s2.heap.update kS (Obj.mapSeq (·.push u))).get? kS=some (seqObj "list" ((ks++[u]).toArray) c2):=by
     have ea:ks.toArray.push u=(ks++[u]).toArray:=by simp
     exact ⟨_,by rw [← ea];exact get?_update_seq gk2 (·.push u)⟩
    have sb:=Heap.SameBut.update s2.heap kS (Obj.mapSeq (·.push u));refine xAku hcall hfr I ha hk hak nfa nfk hbody r ry rd (ks++[u]) (kvs++[v]) (dd++[d]) H2 _ rv (by simpa using hl) (fun m y' d' H' Q' h1 h2 h3 h4=>hsp (m+1) y' d' H' Q' (by simpa using h1) (by simpa using h2) h3 h4) (by rw [List.length_append,List.length_singleton];omega) ⟨?_,?_,os2.trans st.os,bare2,st.same.trans same2,fa2,fk2,(sb.2 a hak).trans ga2,⟨c2,g2⟩,?_,?_⟩ fun Hn s'' ks' kvs' st' hl'=>fin Hn s'' ks' kvs' ?_ ?_
    ·exact (st.un.trans un2).later fun b o hb' e=>(sb.2 b (qj (qz hb' hk))).trans e
    ·exact hok2.other (fun b u' hb' e=>(sb.2 b hb').trans e) fk2
    ·exact st.vals.append (.cons rel .nil)
    ·exact xAkt dv2 (st.dv.same same2)
    ·rw [yw] at st'
     exact st'
    ·rw [hl',qv,zk,qy]
     omega
theorem xAqz {A':Around} {a kS:Addr} {e1:Nat} {E:Value->Shared->Prop} {P:PySem.Fin->Shared->Prop} {Hn:Hp} {s':Shared} {ks:List Value} {kvs:List V} {ds:List PyData} {st:SortSt} {out:List Value} {ov:List V} (hk:s.heap.objs.size≤kS) (ha:s.heap.objs.size≤a) (hak:a≠kS) (S:KSt X H s a kS e1 Hn s' ks kvs ds) (hz:ks.length≤2000) (ho:out.length≤2000) (hout:(arrOf st).map (·.2)=out.toArray) (hf:failedOf st=none) (rov:Vals ov out)
  (fin:∀ s2 H2,Un (frs X.stack) [] H H2 s.heap s2.heap->HOk X.prog X.w H2 s2.heap->s2.os=s.os->AllBare s2.gens->Same H H2->H2 a=some (.lst ov)->P (.done (.ret .none)) s2):wpAny (model X.prog X.w) A' (ksk_tail a false e1 (.ref kS) st) P E s':=by
 obtain ⟨ek,gk⟩:=S.gk;have z64:2000≤sizeLine:=zf (xAhg (by decide));unfold ksk_tail
 try dsimp only
 rw [hout];have sb:=Heap.SameBut.update s'.heap kS (Obj.mapSeq fun _=>(#[]:Array Value));have ga1:=(sb.2 a hak).trans S.ga;refine wpAny_bind (listUpdate_at gk rfl (wpAny_bind (wpAny_letGo (wpAny_bind (seqEpoch_at ga1 rfl (wpAny_bind (listUpdate_at ga1 rfl ?_ (qu _) (by show out.toArray.size≤_;rw [zc];omega))))))) (by rw [zc];omega) (qu _));rw [hf]
 simp only [bne_self_eq_false,Bool.false_eq_true,if_false]
 have sb2:=Heap.SameBut.update (s'.heap.update kS (Obj.mapSeq fun _=>(#[]:Array Value))) a (Obj.mapSeq fun _=>out.toArray);obtain ⟨c2,g2⟩:∃ c2,((s'.heap.update kS (Obj.mapSeq fun _=>(#[]:Array Value))).update a (Obj.mapSeq fun _=>out.toArray)).get? a=some (seqObj "list" out.toArray c2):=⟨_,get?_update_seq ga1 fun _=>out.toArray⟩;refine wpAny_pure (fin _ (upd Hn a (.lst ov)) ?_ ?_ S.os S.bare (S.same.trans (Same.new S.fa')) xAae)
 ·refine (S.un.later fun b o hb e=>?_).adopt ha S.fa'
  have h1:b≠kS:=qj (qz hb hk);have h2:b≠a:=qj (qz hb ha);exact (sb2.2 b h2).trans ((sb.2 b h1).trans e)
 ·refine HOk.adopt ((S.hok.other (fun b u hb e=>(sb.2 b hb).trans e) S.fk).other (fun b u hb e=>(sb2.2 b hb).trans e) S.fa') S.fa' ⟨?_,out,c2,rov,g2⟩
  rw [rov.length];omega
theorem xAht {Q:VK} {vs:List Value} {ys:List V} {ds:List PyData} {t:Nat} {h1:Heap} {a:Nat} (hcall:∀ (s':Shared) (Hm:Hp) (x:Value) (y:V) (Q:VK),Env0 X.prog X.w X.K X.mg X.base X.A.in1.in1 X.stack s' Hm->Un (frs X.stack) [] H Hm s.heap s'.heap->Same H Hm->RelV y x->sp [y] Hm Q E0->codeAny (model X.prog X.w) X.A.in1.in1 (.call (.ref fa) ⟨[x],[]⟩) (CR CX0 X.stack X.prog X.w Hm s' Q E0) s') (hu:X.A.units+3+61<cLine) (I:Inv X pins σ H s)
  (rv:Vals ys vs) (hdl:ds.length=ys.length) (hk:KeysAre ds t) (hso:SrtOk ys.length ds) (hsp:∀ (m:Nat) y d H' (Q':VK),ys[m]?=some y->ds[m]?=some d->Same H H'->(∀ H'' kv,Same H' H''->DV X.K H'' kv d->Q' kv H'')->sp [y] H' Q' E0)
  (q:∀ q H' ix,H q=none->Same H H'->SortIx ds ix->H' q=some (.lst (ix.map fun i=>ys.getD i .non))->Q (.ref q) H') (x1:Ext s.heap h1) (o1:h1.get? a=some (seqObj "list" vs.toArray 0)) (ha:s.heap.objs.size≤a) :
  wpAny (model X.prog X.w) X.A.in1 (holding [Value.ref a] (call (.builtin "list.sort") [.ref a] [(Str.ofString "key",.ref fa)]) >>= fun _=>ret (.ref a)) (fun fin s'=>∃ v,fin=.done (.ret v)/\EP X pins σ Q v s') X.xe { s with heap:=h1 }:=by
 have h64:=hso.1;have hl:=rv.length
 have hz:ys.length≤sizeLine:=by rw [sizeLine_eq];omega
 have zl:vs.length≤sizeLine:=by omega
 refine wpAny_bind (wpAny_holding (wpAny_call_entry_kw slot_list_sort ⟨_,o1,rfl⟩ entry_list_sort ?_ (ksk_l1 _ _)));show wpAny (model X.prog X.w) X.A.in1.in1 (Builtin.«list.sort» ⟨[.ref a],[(Str.ofString "key",.ref fa)]⟩) _ _ _;rw [ksk_t1];unfold ksk_tree;obtain ⟨e1,o2⟩:∃ e1,(h1.update a (Obj.mapSeq fun _=>(#[]:Array Value))).get? a=some (seqObj "list" #[] e1):=⟨_,get?_update_seq o1 fun _=>#[]⟩;have x2:Ext s.heap (h1.update a (Obj.mapSeq fun _=>(#[]:Array Value))):=x1.upd ha;refine wpAny_bind (listItems_at o1 rfl (wpAny_bind (listUpdate_at o1 rfl (wpAny_bind (seqEpoch_at o2 rfl (wpAny_bind (wpAny_newTuple (wpAny_bind (wpAny_newList (wpAny_holding ?_) (qu _))) zl)))) (by rw [zc];exact zl) (qu _))))
 have hkS:s.heap.objs.size≤((h1.update a (Obj.mapSeq fun _=>(#[]:Array Value))).push (seqObj "tuple" vs.toArray 0)).objs.size:=by
  rw [size_push',Heap.size_update];have:a<h1.objs.size:=Heap.lt_size o1;omega
 have hak:a≠((h1.update a (Obj.mapSeq fun _=>(#[]:Array Value))).push (seqObj "tuple" vs.toArray 0)).objs.size:=by
  rw [size_push',Heap.size_update];have:a<h1.objs.size:=Heap.lt_size o1;omega
 have o3:(((h1.update a (Obj.mapSeq fun _=>(#[]:Array Value))).push (seqObj "tuple" vs.toArray 0)).push (seqObj "list" #[] 0)).get? a=some (seqObj "list" #[] e1):=Heap.get?_push_of_some _ (Heap.get?_push_of_some _ o2);have ok3:(((h1.update a (Obj.mapSeq fun _=>(#[]:Array Value))).push (seqObj "tuple" vs.toArray 0)).push (seqObj "list" #[] 0)).get? ((h1.update a (Obj.mapSeq fun _=>(#[]:Array Value))).push (seqObj "tuple" vs.toArray 0)).objs.size=some (seqObj "list" #[] 0):=Heap.get?_push_size _ rfl;have x3:Ext s.heap (((h1.update a (Obj.mapSeq fun _=>(#[]:Array Value))).push (seqObj "tuple" vs.toArray 0)).push (seqObj "list" #[] 0)):=(x2.trans (.push _ _)).trans (.push _ _);show wpAny (model X.prog X.w) X.A.in1.in1 (ksk_rest a (.ref fa) false vs.toArray e1 (.ref ((h1.update a (Obj.mapSeq fun _=>(#[]:Array Value))).push (seqObj "tuple" vs.toArray 0)).objs.size)) _ _ { s with heap:=((h1.update a (Obj.mapSeq fun _=>(#[]:Array Value))).push (seqObj "tuple" vs.toArray 0)).push (seqObj "list" #[] 0) };generalize ((h1.update a (Obj.mapSeq fun _=>(#[]:Array Value))).push (seqObj "tuple" vs.toArray 0)).objs.size=kS at hkS hak ok3 ⊢;generalize ((h1.update a (Obj.mapSeq fun _=>(#[]:Array Value))).push (seqObj "tuple" vs.toArray 0)).push (seqObj "list" #[] 0)=h3 at o3 ok3 x3 ⊢
 have nst:∀ b,s.heap.objs.size≤b->b∉frs X.stack:=fun b hb' hm=>by
  rcases zg.mp (I.stkSub b hm) with z | z
  ·exact absurd (qz I.lt hb') (by rw [z];exact zr _)
  ·exact I.nofs hb' z
 have S0:KSt X H s a kS e1 H { s with heap:=h3 } [] [] []:=⟨Un.kept x3,I.hok.kept x3,rfl,I.bare,Same.refl H,I.hok.fresh ha,I.hok.fresh hkS,o3,⟨0,ok3⟩,.nil,.nil⟩;unfold ksk_rest;refine wpAny_bind (wpAny_rule ?_)
 first
  | rw [List.forIn_toArray]
  | (rw [← Array.forIn_toList];simp only [List.toList_toArray])
 refine wpAny_bind (xAku (R:=fun s''=>wpAny (model X.prog X.w) X.A.in1.in1 (do let keys ← Builtin.List.listItems (.ref kS);ksk_end a false vs.toArray e1 (.ref kS) keys) _ _ s'') hcall rfl I ha hkS hak (nst a ha) (nst kS hkS) (fun x s' R' hx=>?_) vs ys ds [] [] [] H _ rv hdl hsp (by rw [wv];omega) S0 fun Hn s'' ks kvs S hks=>?_)
 ·refine wpAny_bind (wpAny_attempt (wpAny_mono hx (fun kv s2 h2=>?_) fun _ _ z=>z.elim))
  exact wpAny_bind (wpAny_mono h2 (fun _ s3 h3=>wpAny_pure h3) fun _ _ z=>z)
 ·rw [List.nil_append] at S
  rw [wv,vh] at hks;obtain ⟨ek,gk⟩:=S.gk
  have hkl:ks.length=ds.length:=by rw [hks,hdl,hl]
  have I':Inv X pins σ Hn s'':=I.call' S.os S.un S.hok S.bare (fun b z=>absurd z (by simp));obtain ⟨as,ra⟩:=S.dv.reads I' S.vals;have W:=xAub hk.one;refine wpAny_bind (listItems_at gk rfl ?_)
  have fin:∀ (pm:Array Nat),Arr vs.length (ltK ds) pm->∀ st:SortSt,(arrOf st).map (·.2)=List.toArray (pm.toList.map fun i=>vs.getD i Value.none)->failedOf st=none->wpAny (model X.prog X.w) X.A.in1.in1 (ksk_tail a false e1 (.ref kS) st) (fun fin s'=>∃ v,fin=PySem.Fin.done (.ret v)/\wpAny (model X.prog X.w) X.A.in1 (ret (Value.ref a)) (fun fin s'=>∃ v,fin=.done (.ret v)/\EP X pins σ Q v s') X.xe s') X.xe s'':=fun pm ar st ho hf=>by
   have hix:∀ i∈pm.toList,i<ys.length:=fun i hi=>by
    have:=(ar.1.toList.mem_iff).mp hi
    simp at this
    omega
   have hpl:pm.size=vs.length:=by rw [ar.1.size_eq];simp
   refine xAqz hkS ha hak S (by omega) (by rw [qg,ze,hpl];omega) ho hf (xAhk rv _ hix) fun s2 H2 un hok os bare same e2=>?_;refine ⟨_,rfl,wpAny_pure ⟨_,rfl,.ref a,H2,I.call' os un hok bare (fun b z=>absurd z (by simp)),rfl,q a H2 pm.toList (I.hok.fresh ha) same (xAhj (by rw [← hkl,hks];exact ar)) e2⟩⟩
  unfold ksk_end
  try dsimp only
  rw [if_neg (by decide)]
  by_cases h2:vs.toArray.size<2
  ·rw [if_pos h2,if_pos h2]
   have h2':vs.length<2:=by simpa using h2
   refine wpAny_bind (wpAny_pure ?_);rw [StateT.run_pure];refine wpAny_bind (wpAny_pure ?_);refine fin _ (xAhf W h2') _ ?_ rfl;show ((ks.toArray.zip vs.toArray).map (·.2))=_;apply jc.mp;rw [Array.toList_map,Array.toList_zip];have e1:List.map (·.2) (ks.zip vs)=vs:=List.map_snd_zip (by omega)
   have e2:(List.toArray (List.range vs.length)).toList.map (fun i=>vs.getD i Value.none)=vs:=by
    apply wg;intro i
    by_cases hi:i<vs.length
    ·simp [hi]
    ·simp [hi]
   show List.map (·.2) (ks.zip vs)=(List.toArray (List.range vs.length)).toList.map (fun i=>vs.getD i Value.none);rw [e1,e2]
  ·rw [if_neg h2,if_neg h2]
   have h2':¬ vs.length<2:=by simpa using h2
   obtain ⟨κ,hkk,hqq⟩:=xAfh (prog:=X.prog) (w:=X.w) (A:=X.A.in1.in1) ra hk (by omega) (by show X.A.units+1+1+60<cLine;omega);refine wpAny_bind (wpAny_mono (hkk (fun k s'=>k=κ/\s'=s'') ⟨rfl,rfl⟩) ?_ fun _ _ z=>z.elim);rintro k' s' ⟨rfl,rfl⟩;rw [if_neg (by decide)];refine wpAny_bind (wpAny_mono (xAkn (E:=X.xe) (R:=fun st s3=>s3=s'/\∃ pm,Arr vs.length (ltK ds) pm/\(arrOf st).map (·.2)=List.toArray (pm.toList.map fun i=>vs.getD i Value.none)/\failedOf st=none) W hks (by have:=hso.few hdl W;rw [hl] at this;exact this) h2' hqq fun st pm a1 a2 a3=>⟨rfl,pm,a1,a2,a3⟩) ?_ fun _ _ z=>z);rintro ⟨⟨⟩,st⟩ s3 ⟨rfl,pm,ar,eo,hf⟩;exact fin pm ar st eo hf
theorem xAin {Q:VK} {us:List Value} {xs:List V} (hcall:∀ (s':Shared) (Hm:Hp) (x:Value) (y:V) (Q:VK),Env0 X.prog X.w X.K X.mg X.base X.A.in1.in1 X.stack s' Hm->Un (frs X.stack) [] H Hm s.heap s'.heap->Same H Hm->RelV y x->sp [y] Hm Q E0->codeAny (model X.prog X.w) X.A.in1.in1 (.call (.ref fa) ⟨[x],[]⟩) (CR CX0 X.stack X.prog X.w Hm s' Q E0) s') (hu:X.A.units+3+61<cLine) (I:Inv X pins σ H s) (rx:Vals xs us) (hh:rSortK X.K sp xs H Q) :
  wpAny (model X.prog X.w) X.A (call (.builtin "sorted") us [(Str.ofString "key",.ref fa)]) (EP X pins σ Q) X.xe s:=by
 obtain ⟨p,ys,ds,t,rfl,hq,hdl,hk,hso,hsp,q⟩:=hh;have h64:=hso.1;obtain ⟨u,rfl,ru⟩:=vals1 rx;cases ru;obtain ⟨vs,rv,pl,hz⟩:=I.list hq;have hl:=rv.length
 have zl:vs.length≤sizeLine:=by omega
 refine call_function_entry_kw kind_sorted plain_sorted entry_sorted (ksk_s1 _ _) ?_;unfold Builtin.«sorted»;refine wpAny_bind (m:=checkCount "sorted" 1 1 _) (wpAny_pure (wpAny_bind (collect_list pl.isList (wpAny_bind (wpAny_newList ?_ zl)) zl)));have hsz:((s.heap.push (seqObj "list" #[] 0)).update s.heap.objs.size (Obj.mapSeq (·++vs.toArray))).objs.size=s.heap.objs.size+1:=(Heap.size_update _ _ _).trans (size_push' _ _);have x1:Ext s.heap (((s.heap.push (seqObj "list" #[] 0)).update s.heap.objs.size (Obj.mapSeq (·++vs.toArray))).push (seqObj "list" vs.toArray 0)):=((Ext.push _ _).upd (qh _)).trans (.push _ _);have o1:(((s.heap.push (seqObj "list" #[] 0)).update s.heap.objs.size (Obj.mapSeq (·++vs.toArray))).push (seqObj "list" vs.toArray 0)).get? (s.heap.objs.size+1)=some (seqObj "list" vs.toArray 0):=hsz▸Heap.get?_push_size _ rfl;show wpAny (model X.prog X.w) _ _ _ _ { s with heap:=((s.heap.push (seqObj "list" #[] 0)).update s.heap.objs.size (Obj.mapSeq (·++vs.toArray))).push (seqObj "list" vs.toArray 0) };rw [hsz];generalize ((s.heap.push (seqObj "list" #[] 0)).update s.heap.objs.size (Obj.mapSeq (·++vs.toArray))).push (seqObj "list" vs.toArray 0)=h1 at x1 o1 ⊢;have ha:s.heap.objs.size≤s.heap.objs.size+1:=wu _;generalize s.heap.objs.size+1=a at ha o1 ⊢;exact xAht hcall hu I rv hdl hk hso hsp q x1 o1 ha
theorem Room.in2 {k:Nat} {A:Around} (r:Room (k+1) A):Room k A.in1.in1 :=
 ⟨r.hd,by have:=r.dp;show A.depth+3 * k+5<_;omega,by have:=r.un;show A.units+1+1+16 * k+200<_;omega⟩
end
section
variable {X:Cx} {K:PySem.W.Frag}
end
section
variable {wd:Nat->Str} {L:List Lf} {H H':Hp} {v:V} {k:Nat}
end
section
variable {wd:Nat->Str} {L:List Lf} {H H':Hp} {vs:List V} {js:List Nat}
end
end L2
namespace Rga
end Rga
namespace L2
open PySem PySem.Spec PySem.W PyProof.Rows
def Tups (H H':Hp):Prop:=∀ b xs,H b=some (.tup xs)->H' b=some (.tup xs)
section
variable {H H1 H':Hp}
mutual
theorem DT.tups (t:Tups H H'):∀ {x:V} {d:PyData},DT H x d->DT H' x d
 | _,_,.non=>.non
 | _,_,.bl b=>.bl b
 | _,_,.int i=>.int i
 | _,_,.str z=>.str z
 | _,_,.tup e h=>.tup (t _ _ e) (DTs.tups t h)
theorem DTs.tups (t:Tups H H'):∀ {x:List V} {d:List PyData},DTs H x d->DTs H' x d
 | _,_,.nil=>.nil
 | _,_,.cons a b=>.cons (DT.tups t a) (DTs.tups t b)
end
end
section
variable {P P':V->Nat->Prop} {vs us:List V} {js ks:List Nat}
end
section
variable {nk:Nat->List Key} {bh:Nat->Option Nat} {D:Nat->PyData} {H H' H0:Hp} {v:V} {k:Nat}
end
end L2
namespace Rga
end Rga
namespace L2
open PySem PySem.Spec PySem.W PyProof.Rows
def del (H:Hp) (p:Addr):Hp:=fun b=>if b=p then none else H b
theorem xAeo {H:Hp} {p:Addr}:del H p p=none:=if_pos rfl
theorem xAep {H:Hp} {p b:Addr} (h:b≠p):del H p b=H b:=if_neg h
theorem xAeq {H:Hp} {p b:Addr} (h:H b=none):del H p b=none:=by
 by_cases e:b=p
 ·subst e;exact xAeo
 ·rw [xAep e];exact h
theorem Same.cuts {H0 H:Hp} {p:Addr} (s:Same H0 H):Same (del H0 p) (del H p):=fun b u q=>by
 by_cases e:b=p
 ·subst e;rw [xAeo] at q;cases q
 ·rw [xAep e] at q ⊢;exact s b u q
end L2
namespace Rga
end Rga
namespace L2
open PySem PySem.Spec PySem.W PyProof.Rows Rga
section
variable {P:V->Nat->Prop} {vs:List V} {js:List Nat}
end
end L2
namespace L2
open PySem PySem.Spec PySem.W PyProof.Rows
section
variable {prog:Program} {w:World} {A:Around} {R:Result->Shared->Prop} {I:Addr} {fp wr:List Addr} {n:Nat} {P:Nat->Value->Prop} {St:Nat->Heap->Prop} {G:Heap->Prop}
end
section
variable {X:Cx}
end
section
variable {X:Cx}
end
section
variable {X:Cx} {pins:List (Addr×Obj)} {σ:St} {H:Hp} {s:Shared}
end
section
variable {X:Cx} {tg:Expr}
end
def putAllK (xs:List (Key×V)):List (Key×V)->List (Key×V)
 | []=>xs
 | e::r=>putAllK (putK xs e.1 e.2) r
def putAllS (xs:List (Key×Value)):List (Key×Value)->List (Key×Value)
 | []=>xs
 | e::r=>putAllS (stored xs e.1 e.2) r
theorem xAio (ps:List (Key×V)):∀ xs,(putAllK xs ps).length≤xs.length+ps.length:=by
 induction ps with
 | nil=>intro xs;exact qh _
 | cons e r ih =>
  intro xs;have h1:=ih (putK xs e.1 e.2);have h2:=xAcg xs e.1 e.2;show (putAllK (putK xs e.1 e.2) r).length≤_;rw [qy];omega
theorem xAkv (xs:List (Key×Value)) (k:Key) (v:Value):(stored xs k v).length≤xs.length+1:=by
 unfold stored
 split <;> simp
theorem xAhu:∀ {l:List (Key×V)} {m:List (Key×Value)},KV l m->∀ {a:List (Key×V)} {b:List (Key×Value)},KV a b->KV (putAllK a l) (putAllS b m)
 | _,_,.nil,_,_,t=>t
 | _,_,.cons (a:=p) (b:=q) f t,a,b,t2=>by
  show KV (putAllK (putK a p.1 p.2) _) (putAllS (stored b q.1 q.2) _);rw [← f.1];exact xAhu t (t2.put p.1 f.2)
theorem xAec:∀ (ps xs:List (Key×V)),(ps.map (·.1)).Nodup->(∀ e∈ps,∀ x∈xs,x.1≠e.1)->putAllK xs ps=xs++ps
 | [],xs,_,_=>by rw [vm];rfl
 | e::r,xs,nd,h=>by
  rw [zh,zo] at nd
  have e1:putK xs e.1 e.2=xs++[e]:=by
   unfold putK
   have:¬ (xs.any fun kv=>decide (kv.1=e.1))=true:=by
    rw [vd];rintro ⟨x,hx,z⟩;exact h e qr x hx (of_decide_eq_true z)
   rw [if_neg this]
  show putAllK (putK xs e.1 e.2) r=_;rw [e1,xAec r (xs++[e]) nd.2 fun y hy x hx=>?_,yw]
  ·rfl
  ·rcases zj.mp hx with q | q
   ·exact h y (qw _ hy) x q
   ·rw [zb.mp q]
    exact fun z=>nd.1 (qk.mpr ⟨y,hy,z.symm⟩)
section
variable {P:Program} {w:World} {A:Around}
def PairAtK (P:Program) (w:World) (h:Heap) (v:Value) (e:Key×Value):Prop:=∃ b key,v=.ref b/\h.IsTuple b #[key,e.2]/\(mixKind P w).is e.1 key=true
theorem PairAtK.stay {h h':Heap} {v:Value} {e:Key×Value} (p:PairAtK P w h v e) (t:Tst h h'):PairAtK P w h' v e:=by
 obtain ⟨b,key,rfl,⟨o,h1,h2,h3⟩,g⟩:=p;exact ⟨b,key,rfl,⟨o,t _ _ h1 h2,h2,h3⟩,g⟩
theorem xAni {D I l:Addr} {items:Array Value} {R:Result->Shared->Prop} (hh:A.handled=none) (hu:A.units+1<cLine) (hIl:l≠I) (hDI:D≠I) (hDl:D≠l) :
  ∀ (ps:List (Key×Value)) (i:Nat) (xs:List (Key×Value)) (s:Shared) (j:Int) (u:Tok),i+ps.length=items.size->s.heap.IsListIter I l i->s.heap.IsList l items->s.heap.DictOf (mixKind P w) D xs->xs.length+ps.length≤sizeLine →
   (∀ (m:Nat) e,ps[m]?=some e->∃ v,items[i+m]?=some v/\PairAtK P w s.heap v e) →
   (∀ s':Shared,(∀ b o,b≠I->b≠D->s.heap.get? b=some o->s'.heap.get? b=some o)->s'.heap.DictOf (mixKind P w) D (putAllS xs ps)->(∃ tk,s'={ s with heap:=s'.heap,toks:=tk })->R (.ok (.ret .none)) s') →
   codeAny (model P w) A (.builtin "dict.update.loop" ⟨[.ref D,.ref I,.int j u,.none],[]⟩) R s:=by
 have W:=Walks.list (prog:=P) (w:=w) (A:=A.in1) (by simpa using hh) I l hIl items;intro ps
 induction ps with
 | nil =>
  intro i xs s j u hi hit hl hd hz hp hR
  have hi':i=items.size:=by simpa using hi
  subst hi';refine codeAny_builtin xAhs ?_;rw [Around.under_plainId xAde _];show wpAny (model P w) A.in1 (pyNext (.ref I) >>= _) _ _ s;refine wpAny_bind (W.done s _ _ ⟨hit,hl⟩ fun h' tk hk=>?_)
  have kI:∀ b o,b≠I->s.heap.get? b=some o->h'.get? b=some o:=fun b o hb e=>hk b o (by simpa using hb) e
  exact wpAny_bind (wpAny_pure (wpAny_pure (hR ⟨h',s.gens,s.drawn,tk,s.os⟩ (fun b o h1 _ e=>kI b o h1 e) (hd.at fun o e=>kI D o hDI e) ⟨tk,rfl⟩)))
 | cons e ps ih =>
  intro i xs s j u hi hit hl hd hz hp hR;refine codeAny_builtin xAhs ?_;rw [Around.under_plainId xAde _];show wpAny (model P w) A.in1 (pyNext (.ref I) >>= _) _ _ s;refine wpAny_bind (W.item i s _ _ (by rw [qy] at hi;omega) ⟨hit,hl⟩ fun v h' tk hv st hk=>?_)
  have kI:∀ b o,b≠I->s.heap.get? b=some o->h'.get? b=some o:=fun b o hb e=>hk b o (by simpa using hb) e
  have ts:=xAqy hit kI;obtain ⟨v',hv',pv⟩:=hp 0 e rfl
  have ev:v'=v:=by
   rw [ym] at hv';rw [hv] at hv';exact (Option.some.inj hv').symm
  subst ev;have hd':h'.DictOf (mixKind P w) D xs:=hd.at fun o e=>kI D o hDI e;have pv':=pv.stay ts;obtain ⟨b,key,rfl,hb,ge⟩:=id pv'
  have hT:Shared.TypeIs ⟨h',s.gens,s.drawn,tk,s.os⟩ (.ref b) "tuple":=by
   obtain ⟨o,h1,h2,_⟩:=hb;exact ⟨o,h1,h2⟩
  obtain ⟨ob,hb1,hb2,nb,hb3⟩:=id hb
  have pr:∀ {Q:List Value->Shared->Prop} {E:Value->Shared->Prop},Q [key,e.2] ⟨h',s.gens,s.drawn,tk,s.os⟩->wpAny (model P w) A.in1 (Builtin.Dict.pairItems (.ref b)) Q E ⟨h',s.gens,s.drawn,tk,s.os⟩:=fun {Q E} q=>by
   unfold Builtin.Dict.pairItems;refine wpAny_bind (wpAny_typeOf hT ?_);rw [if_pos (by decide)];exact wpAny_bind (xAim hb1 hb3 (wpAny_pure q))
  refine wpAny_bind (wpAny_holding (wpAny_bind (wpAny_tryCatch (pr ?_))));refine wpAny_holding (wpAny_dictSet_pairs (hsz:=by rw [qy] at hz;omega) ge hd' fun h2 hd2 hs2=>?_)
  have tD:Tst h' h2:=fun b o e1 c=>(hs2.2 b (fun z=>by
   obtain ⟨o',_,_,e2,e3,_⟩:=hd';rw [z,e2] at e1;cases e1;rw [e3.1] at c
   exact absurd c (by decide))).trans e1
  refine wpAny_pure ⟨plainId_quiet xAde _,ih (i+1) _ _ _ _ (by rw [qy] at hi;omega) ?_ ?_ hd2 ?_ (fun m e2 he2=>?_) fun s' hk' hd3 hs3=>?_⟩
  ·obtain ⟨o,h1,h2',h3⟩:=st.1
   exact ⟨o,(hs2.2 I (fun z=>hDI z.symm)).trans h1,h2',h3⟩
  ·obtain ⟨o,h1,h2',n,h3⟩:=st.2
   exact ⟨o,(hs2.2 l (fun z=>hDl z.symm)).trans h1,h2',n,h3⟩
  ·have:=xAkv xs e.1 e.2
   rw [qy] at hz;omega
  ·obtain ⟨v2,hv2,pv2⟩:=hp (m+1) e2 (by simpa using he2)
   exact ⟨v2,by rw [← hv2];congr 1;omega,(pv2.stay ts).stay tD⟩
  ·refine hR s' (fun b o h1 h2' e3=>hk' b o h1 h2' ((hs2.2 b h2').trans (kI b o h1 e3))) hd3 ?_
   obtain ⟨tk',e3⟩:=hs3;exact ⟨tk',by rw [e3]⟩
theorem xAip {s:Shared} {l:Addr} {items:Array Value} {n:Nat} {sl:Array (Option Value)} {E:Value->Shared->Prop} {Q:Value->Shared->Prop} {ps:List (Key×Value)} (hh:A.handled=none) (hu:A.units+3<cLine) (hl:s.heap.get? l=some { cls:=.type "list",dict:=none,data:=.seq items n,slots:=sl })
  (hn:ps.length=items.size) (hz:ps.length≤sizeLine) (hp:∀ (m:Nat) e,ps[m]?=some e->∃ v,items[m]?=some v/\PairAtK P w s.heap v e)
  (h:∀ h' tk d,Ext s.heap h'->s.heap.objs.size≤d->h'.DictOf (mixKind P w) d (putAllS [] ps)->Q (.ref d) { s with heap:=h',toks:=tk }):wpAny (model P w) A (call (.type "dict") [.ref l]) Q E s:=by
 refine callType_codes (Q₁:=fun obj s₁=>obj=.ref s.heap.objs.size/\s₁={ s with heap:=s.heap.push { cls:=.type "dict",data:=.dict #[] } }) F.kt_called_dict (F.kt_typeCall_dict_1 _) F.entry_dict_init (kt_code_dict_new _ ⟨rfl,rfl⟩) ?_;rintro obj s₁ ⟨rfl,rfl⟩;have new:(s.heap.push { cls:=.type "dict",data:=.dict #[] }).DictOf (mixKind P w) s.heap.objs.size []:=Heap.DictOf.new _;have hl1:(s.heap.push { cls:=.type "dict",data:=.dict #[] }).get? l=some { cls:=.type "list",dict:=none,data:=.seq items n,slots:=sl }:=Heap.get?_push_of_some _ hl;have hT:Shared.TypeIs { s with heap:=s.heap.push { cls:=.type "dict",data:=.dict #[] } } (.ref s.heap.objs.size) "dict":=Heap.DictOf.typeIs (s:={ s with heap:=s.heap.push { cls:=.type "dict",data:=.dict #[] } }) new;refine ⟨hT,F.args_dict_init_2 _ _,?_⟩;unfold Builtin.«dict.__init__»;refine wpAny_bind ?_;unfold Builtin.Dict.selfAndRest;refine wpAny_bind (wpAny_notOrdered_dict hT (wpAny_pure ?_));show wpAny (model P w) _ (Builtin.Dict.updateFrom "dict.__init__" s.heap.objs.size (.ref l) [] .none) _ _ _;unfold Builtin.Dict.updateFrom;refine wpAny_bind (wpAny_typeOf (show Shared.TypeIs { s with heap:=s.heap.push { cls:=.type "dict",data:=.dict #[] } } (.ref l) "list" from ⟨_,hl1,rfl⟩) ?_);rw [if_pos (by decide)];refine wpAny_bind (xAul hl1 (by simpa using hh) fun h1 t1 x1=>?_);rw [if_pos (by rfl)];have hl2:h1.IsList l items:=⟨_,x1 _ _ hl1,rfl,n,rfl⟩;refine wpAny_bind (wpAny_rule (wpAny_bind (wpAny_pyIter_list hl2 ?_)))
 have lD:s.heap.objs.size<h1.objs.size:=by
  obtain ⟨o,_,_,e,_⟩:=new;exact Heap.lt_size (x1 _ _ e)
 have lI:l<h1.objs.size:=Heap.lt_size (x1 _ _ hl1);have lS:l<s.heap.objs.size:=Heap.lt_size hl
 have nS:∀ b o,s.heap.get? b=some o->b≠h1.objs.size/\b≠s.heap.objs.size:=fun b o e=>by
  have:=Heap.lt_size e;exact ⟨qj (ww this lD),qj this⟩
 have t1':Tst (s.heap.push { cls:=.type "dict",data:=.dict #[] }) (h1.push { cls:=.type "list_iterator",data:=.fields #[.ref l,.int 0 0] }):=fun b o e _=>Heap.get?_push_of_some _ (x1 _ _ e);refine wpAny_pure ⟨plainId_quiet xAde _,xAni (A:=A.in1) (l:=l) (items:=items) (by simpa using hh) (show A.units+1+1<cLine by omega) (Nat.ne_of_lt lI) (Nat.ne_of_lt lD) (Nat.ne_of_gt lS) ps 0 [] _ _ _ (by rw [Nat.zero_add];exact hn) ⟨_,Heap.get?_push_size _ rfl,rfl,rfl⟩ (hl2.push _) (new.at fun o e=>Heap.get?_push_of_some _ (x1 _ _ e)) (by simpa using hz) (fun m e he=>?_) fun s' hk hd hs=>?_⟩
 ·obtain ⟨v,hv,pv⟩:=hp m e he
  exact ⟨v,by rw [vh];exact hv,(pv.stay (fun b o e _=>Heap.get?_push_of_some _ e)).stay t1'⟩
 ·obtain ⟨tk,es⟩:=hs
  rw [es] at hd ⊢;exact ⟨rfl,h _ tk _ (fun b o e=>hk b o (nS b o e).1 (nS b o e).2 (Heap.get?_push_of_some _ (x1 _ _ (Heap.get?_push_of_some _ e)))) (qh _) hd⟩
end
def PrsK (H:Hp):List V->List (Key×V)->Prop
 | [],[]=>True
 | y::ys,e::es=>(∃ b,y=.ref b/\H b=some (.tup [kV e.1,e.2]))/\PrsK H ys es
 | _,_=>False
section
variable {X:Cx} {pins:List (Addr×Obj)} {σ:St} {H:Hp} {s:Shared}
theorem xAph (I:Inv X pins σ H s):∀ {ys:List V} {us:List Value} {kvs:List (Key×V)},Vals ys us->PrsK H ys kvs->∃ ps,KV kvs ps/\ps.length=us.length/\∀ (m:Nat) e,ps[m]?=some e->∃ v,us[m]?=some v/\PairAtK X.prog X.w s.heap v e
 | [],_,[],.nil,_=>⟨[],.nil,rfl,fun m e z=>by cases z⟩
 | [],_,_::_,.nil,h=>h.elim
 | _::_,_,[],.cons _ _,h=>h.elim
 | y::ys,_,e::es,.cons r t,h=>by
  obtain ⟨⟨b,rfl,hb⟩,h2⟩:=h;obtain ⟨ps,p1,p2,p3⟩:=xAph I t h2;cases r;obtain ⟨its,rv,⟨o,e1,e2,n,e3⟩,_⟩:=I.tuple (SqT.of hb);obtain ⟨u1,u2,rfl,r1,r2⟩:=rv.two;refine ⟨(e.1,u2)::ps,.cons ⟨rfl,r2⟩ p1,by rw [qy,qy,p2],fun m e' he'=>?_⟩
  cases m with
  | zero =>
   cases he';exact ⟨_,rfl,b,u1,rfl,⟨o,e1,e2,n,e3⟩,kV_is r1⟩
  | succ m =>
   obtain ⟨v,h1,h2⟩:=p3 m e' (by simpa using he');exact ⟨v,by simpa using h1,h2⟩
def rDictK (K:PySem.W.Frag):List V->Hp->VK->Prop:=fun xs H Q=>∃ p ys kvs,xs=[.ref p]/\SqL K H p ys/\PrsK H ys kvs/\ys.length≤2000/\∀ q H',H q=none->Same H H'->H' q=some (.dK (putAllK [] kvs))->Q (.ref q) H'
theorem xAkw (hh:X.A.handled=none) (hu:X.A.units+3<cLine):CallR X (.type "dict") (rDictK X.K):=by
 intro pins s σ H xs us Q I r h;obtain ⟨p,ys,kvs,rfl,hq,hp,hz,q⟩:=h;obtain ⟨u,rfl,ru⟩:=vals1 r;cases ru;obtain ⟨its,rv,⟨o,n,e,c1,c2,c3⟩,_⟩:=I.list hq;obtain ⟨cls,dict,data,sl⟩:=o;dsimp only at c1 c2 c3;subst c1 c2 c3;obtain ⟨ps,p1,p2,p3⟩:=xAph I rv hp;have hl:=rv.length
 have zz:2000≤sizeLine:=by decide
 refine xAip hh hu e (by rw [zc];exact p2) (by omega) (fun m e' he'=>?_) fun h' tk d x hd g=>?_
 ·obtain ⟨v,h1,h2⟩:=p3 m e' he'
  exact ⟨v,by simpa using h1,h2⟩
 ·have fr:H d=none:=I.hok.fresh hd
  have ln:=xAio kvs [];have lk:=KV.length p1;refine ⟨.ref d,upd H d (.dK (putAllK [] kvs)),I.laid x hd ⟨?_,?_,_,xAhu p1 .nil,g⟩,rfl,q d _ fr (Same.new fr) xAae⟩
  ·rw [wv] at ln
   omega
  ·exact beq_eq_false_iff_ne.mpr (Ne.symm (qj (qz I.big hd)))
end
section
variable {X:Cx} {pins:List (Addr×Obj)} {σ:St} {H:Hp} {s:Shared}
theorem Inv.nstk (I:Inv X pins σ H s) {b:Addr} (hb:s.heap.objs.size≤b):b∉frs X.stack:=fun hm=>by
 rcases zg.mp (I.stkSub b hm) with z | z
 ·exact absurd (qz I.lt hb) (by rw [z];exact zr _)
 ·exact I.nofs hb z
end
section
variable {X:Cx} {k:Nat}
end
end L2
namespace Rga
end Rga
namespace L2
open PySem PySem.Spec PySem.W PyProof.Rows
end L2
namespace Rga
end Rga
namespace L2
open PySem PySem.Spec PySem.W PyProof.Rows
section
variable {X:Cx} {tg:Expr}
end
end L2
namespace Rga
open L2
section
variable {bh:Nat->Option Nat} {D:Nat->PySem.PyData} {a b c d x:Nat}
end
end Rga
namespace L2
open PySem PySem.Spec PySem.W PyProof.Rows
section
variable {X:Cx} {st:Stmt} {rest:List Stmt} {t u:TS}
end
end L2
namespace L2
open PySem PySem.Spec PyProof.Rows
section
variable {X:Cx}
end
end L2
namespace L2
open PySem PySem.Spec PySem.W PyProof.Rows
section
variable {X:Cx} {pins:List (Addr×Obj)} {σ:St} {H:Hp} {s:Shared}
end
end L2
namespace My
open PySem L2 PyProof.Rows
theorem itT {c:Bool} {A B:Prop} (h:c=true) (a:A):if c=true then A else B:=by rw [if_pos h];exact a
theorem itF {c:Bool} {A B:Prop} (h:c=false) (b:B):if c=true then A else B:=by rw [if_neg (by rw [h];decide)];exact b
theorem Rd.same {H H':Hp} {a:Addr} {u:HO} (r:Rd H a u) (s:Same H H'):Rd H' a u:=by
 rcases r with r | ⟨o,r⟩
 ·exact .inl (s _ _ r)
 ·exact .inr ⟨o,s _ _ r⟩
end My
namespace L2
open PySem PySem.Spec PySem.W PyProof.Rows
section
variable {prog:Program} {w:World} {A:Around} {E:Value->Shared->Prop} {s:Shared}
theorem xAkx {d:Addr} {od:Obj} {es:Array DictEntry} {ep:Nat} {Q:Value->Shared->Prop} (hs:(d==sysModules)=false) (ho:s.heap.get? d=some od) (hc:od.ExactDict) (hdat:od.data=.dict es ep)
  (hQ:Q (.ref s.heap.objs.size) { s with heap:=s.heap.push { cls:=.type "dict_keyiterator",data:=.fields #[.ref d,.int 0 0,.int es.size 0,.int ep 0] } }):wpAny (model prog w) A (pyIter (.ref d)) Q E s:=by
 have hT:s.TypeIs (.ref d) "dict":=⟨od,ho,hc.1⟩;refine wpAny_pyIter_slot hT F.slot_dict_iter (wpAny_call_entry F.slot_dict_iter hT F.entry_dict_iter ?_ (F.args_dict_iter_1 _));unfold Builtin.«dict.__iter__» Builtin.Dict.dictSlotNone;refine wpAny_bind (wpAny_bind (wpAny_notOrdered_dict hT ?_));refine wpAny_pure (a:=Value.ref d) ?_;show wpAny _ _ (Builtin.Dict.showsAll d >>= _) _ _ s;unfold Builtin.Dict.showsAll;rw [if_neg (by rw [hs];decide)];refine wpAny_bind (wpAny_pure (wpAny_bind (wpAny_dictEntries ho hdat (wpAny_bind (wpAny_dictEpoch ho hdat ?_)))));exact wpAny_bind (wpAny_newObj_type (wpAny_pure ⟨_,rfl,"dict_keyiterator",_,⟨_,Heap.get?_push_size _ rfl,rfl⟩,F.slot_dict_keyiterator_next.lookup,by simpa [rawInt] using hQ⟩))
theorem xAer {it d:Addr} {i n ep:Nat} {od:Obj} {es:Array DictEntry} {Q:Option Value->Shared->Prop} (hh:A.handled=none) (hit:s.heap.IsKeyIter it d i n ep) (hod:s.heap.get? d=some od) (hdd:od.data=.dict es ep) (hn:es.size=n)
  (h1:∀ (hi:i<es.size) h',h'.IsKeyIter it d (i+1) n ep->Heap.SameBut it s.heap h'->Q (some es[i].key) { s with heap:=h' })
  (h2:es.size≤i->∀ h',Heap.ExtBut it s.heap h'->Q none { s with heap:=h' }):wpAny (model prog w) A (pyNext (.ref it)) Q E s:=by
 obtain ⟨o,ho,hc,hd⟩:=id hit;subst hn;unfold pyNext
 refine wpAny_bind (wpAny_attempt (wpAny_callSpecial?_slot (name:=Str.ofString "__next__") hit.typeIs F.slot_dict_keyiterator_next
  (wpAny_call_entry F.slot_dict_keyiterator_next hit.typeIs F.entry_dict_keyiterator_next ?_ (F.args_dict_keyiterator_next_1 _))))
 refine wpAny_bind (wpAny_pure (wpAny_bind (wpAny_bind ?_)))
 first | refine wpAny_bind (wpAny_typeNameOfWhole_keyiter hit.typeIs (wpAny_pure ?_)) | refine wpAny_bind (wpAny_typeNameOf_keyiter hit.typeIs (wpAny_pure ?_))
 refine wpAny_bind (wpAny_fieldsOf ho hd ?_)
 simp only [show Builtin.Dict_items.ownsTuple "dict_keyiterator"=false by decide,Bool.false_eq_true,if_false]
 show wpAny _ _ (if (Value.ref d==Value.none)=true then _ else _) _ _ s;rw [if_neg (show ¬ ((Value.ref d==Value.none)=true) from qp)];refine wpAny_bind (wpAny_pure (wpAny_bind (wpAny_dictEntries hod hdd ?_)));rw [if_neg (by simp)];refine wpAny_bind (wpAny_pure (wpAny_bind (wpAny_dictEpoch hod hdd ?_)));rw [if_neg (by simp)];refine wpAny_pure ?_
 by_cases hi:i<es.size
 ·simp only [show ¬ ((i:Int)<0) from by omega,if_false,Int.toNat_natCast,Array.getElem?_eq_getElem hi]
  refine wpAny_bind ?_
  first | refine wpAny_bind (wpAny_typeNameOfWhole_keyiter hit.typeIs (wpAny_pure ?_)) | refine wpAny_bind (wpAny_typeNameOf_keyiter hit.typeIs (wpAny_pure ?_))
  refine wpAny_bind (wpAny_isOneOf_keyiter hit.typeIs ?_);show wpAny _ _ (setField (.ref it) 1 (rawInt ((i:Int)+1)) >>= _) _ _ s;refine wpAny_bind (wpAny_setField ho hd (by simp) ?_)
  have hit':(s.heap.update it (Obj.mapFields (·.setIfInBounds 1 (rawInt ((i:Int)+1))))).IsKeyIter it d (i+1) es.size ep :=
   ⟨_,Heap.get?_update_self _ ho (Obj.isFreed_of_fields (Obj.data_mapFields hd _)),(Obj.cls_mapFields ..).trans hc,by rw [Obj.data_mapFields hd];simp [rawInt]⟩
  refine wpAny_bind (wpAny_holding (wpAny_bind (wpAny_isOneOf_keyiter (s:={ s with heap:=s.heap.update it (Obj.mapFields (·.setIfInBounds 1 (rawInt ((i:Int)+1)))) }) hit'.typeIs ?_)));show wpAny _ _ (pure es[i].key) _ _ _;exact wpAny_pure (wpAny_pure ⟨_,rfl,wpAny_pure (h1 hi _ hit' (Heap.SameBut.update ..))⟩)
 ·have hge:es.size≤i:=by omega
  simp only [show ¬ ((i:Int)<0) from by omega,if_false,Int.toNat_natCast,Array.getElem?_eq_none hge]
  refine wpAny_bind ?_
  first | refine wpAny_bind (wpAny_typeNameOfWhole_keyiter hit.typeIs (wpAny_pure ?_)) | refine wpAny_bind (wpAny_typeNameOf_keyiter hit.typeIs (wpAny_pure ?_))
  show wpAny _ _ (setField (.ref it) 0 .none >>= _) _ _ s;refine wpAny_bind (wpAny_setField ho hd (by simp) ?_);show wpAny _ _ (newExc (.type "StopIteration") [] >>= _) _ _ _;refine wpAny_bind ?_
  simp only [newExc,newTuple]
  refine wpAny_bind (wpAny_newObj_type ?_ (by size_fits));refine wpAny_bind (m:=firstArgMember _ _) (wpAny_of_eq (a:=Value.none) (by first | rfl | (simp only [firstArgMember];rfl)) ?_);refine wpAny_newObj_type ?_ (by size_fits)
  simp only [raiseNew]
  refine wpAny_bind (wpAny_handled ?_);rw [show A.in1.handled=none from hh];refine wpAny_bind (wpAny_pure (wpAny_throw ?_));refine wpAny_bind (wpAny_isInstance (T:="StopIteration") (b:=true) ⟨_,Heap.get?_push_size _ rfl,rfl⟩ isSubtype_stop ?_);exact wpAny_pure (h2 hge _ (((Heap.SameBut.update ..).extBut.push _).push _))
end
theorem xAes {α β:Type} {F:α->β->Prop}:∀ {l₁:List α} {l₂:List β},Paired F l₁ l₂->∀ (i:Nat) (h1:i<l₁.length) (h2:i<l₂.length),F l₁[i] l₂[i]
 | _,_,.cons r _,0,_,_=>r
 | _,_,.cons _ t,i+1,h1,h2=>xAes t i (j4 h1) (j4 h2)
section
variable {X:Cx} {pins:List (Addr×Obj)} {σ:St} {H:Hp} {s:Shared}
theorem Inv.freezeG {a:Addr} {o:Obj} {kvs:List (KD×V×V)} (I:Inv X pins σ H s) (e:H a=some (.dG kvs)) (ho:s.heap.get? a=some o):Inv X pins σ (upd H a (.frz o (.dG kvs))) s:=by
 refine I.un (t':=s.toks) (h':=s.heap) ⟨fun b ob q _ _ _=>q,fun b ob q _ _ _=>⟨ob.slots,q⟩,fun b ob q n _=>?_,fun b ob q _=>⟨ob,q⟩,fun b xs q=>?_,fun b ob u q=>?_,fun b ps q=>?_⟩ fun b u q=>?_
 ·rw [xAah (fun z=>by rw [z,e] at n;cases n)];exact n
 ·rw [xAah (fun z=>by rw [z,e] at q;cases q)];exact q
 ·rw [xAah (fun z=>by rw [z,e] at q;cases q)];exact q
 ·exact ⟨#[],by rw [xAah (fun z=>by rw [z,e] at q;cases q),q];simp⟩
 ·have ho':∀ c {d:Addr},H c=some (.own d)->(upd H a (.frz o (.dG kvs))) c=some (.own d):=fun c d q=>by rw [xAah (fun z=>by rw [z,e] at q;cases q)];exact q
  have ht:∀ c xs,H c=some (.tup xs)->(upd H a (.frz o (.dG kvs))) c=some (.tup xs):=fun c xs q=>by rw [xAah (fun z=>by rw [z,e] at q;cases q)];exact q
  by_cases hb:b=a
  ·subst hb
   rw [xAae] at q;cases q;exact ⟨ho,(show ObjOk X.prog X.w H s.heap b (.dG kvs) from I.hok b _ e).stay (fun _ _ _ q=>q) (fun c q=>ho' c q) ht⟩
  ·rw [xAah hb] at q
   exact (I.hok b u q).stay (fun _ _ _ q=>q) (fun c q=>ho' c q) ht
theorem xAky {a:Addr} {o:Obj} {es:Array DictEntry} {ep:Nat} {kvs:List (KD×V×V)} (hd:o.data=.dict es ep) (I:Inv X pins σ H s) (e:H a=some (.frz o (.dG kvs))):s.heap.get? a=some o/\es.size=kvs.length/\∀ i (hi:i<es.size) (hk:i<kvs.length),RelV kvs[i].2.1 es[i].key:=by
 obtain ⟨ho,_,_,xs,pr,o',es',ep',ho',_,hd',he,_⟩:s.heap.get? a=some o/\ObjOk X.prog X.w H s.heap a (.dG kvs):=I.hok a _ e;rw [ho] at ho';cases ho';rw [hd] at hd';injection hd' with hd' _;subst hd'
 have hl:es.toList.length=kvs.length:=by rw [he,qg,pr.length]
 refine ⟨ho,by simpa using hl,fun i hi hk=>?_⟩
 have hx:i<xs.length:=by rw [← pr.length];exact hk
 have rel:=xAes pr i hk hx
 have ek:es[i].key=xs[i].2.1:=by
  have h1:es.toList[i]?=some es[i]:=by simp [hi]
  rw [he,ql,qi hx] at h1;rw [← Option.some.inj h1];rfl
 rw [ek];exact rel.2.2.1
end
def ItG (a:Addr) (o:Obj) (kvs:List (KD×V×V)):It :=
 ⟨fun i H=>H a=some (.frz o (.dG kvs))/\i<kvs.length,fun i H x H'=>H'=H/\∃ e,kvs[i]?=some e/\x=e.2.1,fun i H=>H a=some (.frz o (.dG kvs))/\kvs.length≤i⟩
theorem xAkz {P:Program} {w:World} {K:PySem.W.Frag} {tg:Expr} (a it:Addr) {o:Obj} {es:Array DictEntry} {ep:Nat} {kvs:List (KD×V×V)} (hd:o.data=.dict es ep):Turn P w K tg (ItG a o kvs) [it] it (fun i h=>h.IsKeyIter it a i kvs.length ep) where
 mem:=by simp
 obj:=fun i h st b hb=>by
  have e:b=it:=by simpa using hb
  subst e;obtain ⟨o,e,c,d⟩:=st;exact ⟨o,e,fun v z=>by rw [d] at z;cases z⟩
 keep:=fun i h h' st k=>st.at fun o e=>k it (by simp) o e
 item:=by
  intro X hP hw hK hc i pins s σ H E I hf st hg;subst hP hw hK;obtain ⟨he,hi⟩:=hg;obtain ⟨ho,hl,rel⟩:=xAky hd I he;obtain ⟨f0,f1,f2,f3,f4,f5⟩:=hf it (by simp)
  refine xAer (I.ok.hd hc) st ho hd hl (fun hi' h' st' sb=>?_) fun z=>absurd hi (by omega)
  have I1:Inv X pins σ H { s with heap:=h' }:=I.turned (t':=s.toks) (fun b o hb e=>(sb.2 b hb).trans e) f0 f1 f3 f4 f5;obtain ⟨ob,e,c,d⟩:=id st';exact ⟨es[i].key,rfl,go_of (s:={ s with heap:=h' }) e c d (by decide) ⟨kvs[i].2.1,H,I1,rel i hi' hi,⟨rfl,kvs[i],qi hi,rfl⟩,st',fun b hb=>(hf b hb).1⟩⟩
 done:=by
  intro X hP hw hK hc i pins s σ H E I hf st hg;subst hP hw hK;obtain ⟨he,hi⟩:=hg;obtain ⟨ho,hl,rel⟩:=xAky hd I he;obtain ⟨f0,f1,f2,f3,f4,f5⟩:=hf it (by simp);exact xAer (I.ok.hd hc) st ho hd hl (fun hi'=>absurd hi' (by omega)) fun _ h' eb=>⟨rfl,I.turned (t':=s.toks) (fun b o hb e=>eb b o hb e) f0 f1 f3 f4 f5⟩
 self:=fun _ _ _ _ _ st h=>wpAny_pyIter_keyiter st h
def iKeysG (tl:TE):TI:=fun σ H R=>tl σ H fun x H1=>∃ a kvs,x=.ref a/\((H1 a=some (.dG kvs)/\∀ o,R (ItG a o kvs) (upd H1 a (.frz o (.dG kvs))))\/∃ o,H1 a=some (.frz o (.dG kvs))/\R (ItG a o kvs) H1)
section
variable {X:Cx} {tg:Expr}
theorem xAra {l:Expr} {tl:TE} (hl:PE X l tl):PI X tg l (iKeysG tl):=by
 intro pins s σ H R I h;refine thn (hl pins s σ H _ I h) fun v s1 ⟨x,H1,I1,r1,q1⟩=>?_;obtain ⟨a,kvs,e,q⟩:=q1;subst e;cases r1
 have main:∀ (H2:Hp) (o:Obj),Inv X pins σ H2 s1->H2 a=some (.frz o (.dG kvs))->R (ItG a o kvs) H2->wpAny (model X.prog X.w) X.A (pyIter (.ref a)) (PIE X pins σ tg R) X.xe s1:=fun H2 o I2 e2 q2=>by
  obtain ⟨ho,_,hsm,xs,_,o',es,ep,ho',hc,hd,_,_⟩:s1.heap.get? a=some o/\ObjOk X.prog X.w H2 s1.heap a (.dG kvs):=I2.hok a _ e2;rw [ho] at ho';cases ho';obtain ⟨_,hlen,_⟩:=xAky hd I2 e2;refine xAkx hsm ho hc hd ?_;refine ⟨s1.heap.objs.size,[s1.heap.objs.size],_,_,H2,rfl,I2.kept (t':=s1.toks) fun b o e=>Heap.get?_push_of_some _ e,xAkz a _ hd,⟨_,Heap.get?_push_size _ rfl,rfl,by rw [hlen];rfl⟩,fun b hb=>?_,q2⟩
  have e:b=s1.heap.objs.size:=by simpa using hb
  subst e;exact I2.fpOk (qh _) (I2.hok.fresh (qh _))
 rcases q with ⟨ea,q⟩ | ⟨o,ea,q⟩
 ·obtain ⟨_,_,xs,_,o,es,ep,ho,_⟩:=(show ObjOk X.prog X.w H1 s1.heap a (.dG kvs) from I1.hok a _ ea)
  exact main _ o (I1.freezeG ea ho) xAae (q o)
 ·exact main _ o I1 ea q
end
theorem xAnj {a:Addr} {o:Obj} {kvs:List (KD×V×V)} {g:TG} {tb:TS} {D:Ends} {σ:St} {H:Hp} (Pv:Nat->St->Hp->Prop) (h0:Pv 0 σ H) (hl:∀ i σ H,Pv i σ H->H a=some (.frz o (.dG kvs)))
  (hs:∀ i e σ H,kvs[i]?=some e->Pv i σ H->g e.2.1 σ H fun σ2 H2=>tb { D with nx:=Pv (i+1),ct:=Pv (i+1),bk:=D.nx } σ2 H2) (hd:∀ σ H,Pv kvs.length σ H->D.nx σ H) :
  ∃ W:Nat->Nat->St->Hp->Prop,(∃ m,W 0 m σ H)/\∀ i m σ H,W i m σ H →
   ((ItG a o kvs).stop i H/\D.nx σ H)\/((ItG a o kvs).go i H/\∃ N:St->Hp->Prop,(∀ σ' H',N σ' H'->∃ m',m'<m/\W (i+1) m' σ' H')/\∀ x H',(ItG a o kvs).yld i H x H'->g x σ H' fun σ2 H2=>tb { D with nx:=N,ct:=N,bk:=D.nx } σ2 H2):=by
 refine ⟨fun i m σ H=>m=kvs.length - i/\i≤kvs.length/\Pv i σ H,⟨kvs.length,by simp,Nat.zero_le _,h0⟩,?_⟩;rintro i m σ H ⟨rfl,hi,p⟩
 by_cases hlt:i<kvs.length
 ·refine .inr ⟨⟨hl i σ H p,hlt⟩,Pv (i+1),fun σ' H' p'=>⟨kvs.length - (i+1),by omega,rfl,hlt,p'⟩,fun x H' y=>?_⟩
  obtain ⟨e,k,hk,rfl⟩:=y;subst e;exact hs i k σ _ hk p
 ·have e:i=kvs.length:=by omega
  subst e;exact .inl ⟨⟨hl _ σ H p,qh _⟩,hd σ H p⟩
section
variable {P:Program} {w:World} {A:Around} {E:Value->Shared->Prop} {s:Shared}
end
theorem xApi {H:Hp} {ka:List (KD×V×V)} {xa:List (KD×Value×Value)} (h:Paired (GP H) ka xa):Vals (ka.map (·.2.2)) (xa.map (·.2.2))/\xa.map (·.1)=ka.map (·.1):=by
 induction h with
 | nil=>exact ⟨.nil,rfl⟩
 | cons a _ ih=>exact ⟨.cons a.2.2.2 ih.1,by rw [zh,zh,ih.2,a.1]⟩
section
variable {X:Cx}
end
section
variable {P:Program} {w:World} {A:Around} {E:Value->Shared->Prop} {s:Shared}
end
section
variable {X:Cx}
end
section
variable {prog:Program} {w:World} {A:Around} {E:Value->Shared->Prop} {s:Shared}
theorem xAnk {it d:Addr} {od:Obj} {es:Array DictEntry} {ep:Nat} (hh:A.handled=none) (hne:it≠d) (hdat:od.data=.dict es ep) :
  WalksS prog w A it [it,d] [it] Eq es.size (fun j v=>(es[j]?).map (·.key)=some v) (fun i s=>s.heap.IsKeyIter it d i es.size ep/\s.heap.get? d=some od) where
 sub:=fun b hb=>by rw [zb.mp hb];exact qr
 grefl:=fun _=>rfl
 gtrans:=fun _ _ _ h1 h2=>h1.trans h2
 frame:=fun i s h' tk ⟨⟨o,e,c,dd⟩,e2⟩ _ k=>⟨⟨o,k it qr o e,c,dd⟩,k d (qw _ qr) od e2⟩
 item:=fun i s Q E hi ⟨st,e2⟩ k=>xAer hh st e2 hdat rfl (fun hi' h' st' sb=>k _ _ (by rw [zn hi'];rfl) ⟨st',(sb.2 d hne.symm).trans e2⟩ ⟨fun b o hb e=>(sb.2 b (fun z=>hb (by rw [z];exact qr))).trans e,rfl,rfl,rfl,qh _⟩) fun z=>absurd hi (by omega)
 done:=fun s Q E ⟨st,e2⟩ k=>xAer hh st e2 hdat rfl (fun hi'=>absurd hi' (by omega)) fun _ h' eb=>k _ ⟨fun b o hb e=>eb b o (fun z=>hb (by rw [z];exact qr)) e,rfl,rfl,rfl,qh _⟩
 self:=fun i s Q E ⟨st,_⟩ h=>wpAny_pyIter_keyiter st h
theorem xAla {es:Array DictEntry} {acc:Array Value} (h:ItemsOf (fun j v=>(es[j]?).map (·.key)=some v) acc es.size):acc.toList=es.toList.map (·.key):=by
 apply wg;intro j
 by_cases hj:j<acc.size
 ·have hj':j<es.size:=by rw [← h.1];exact hj
  have:=h.2 j acc[j] (zn hj);rw [zw,zn hj,ql,zw];exact this.symm
 ·have hj':¬ j<es.size:=by rw [← h.1];exact hj
  rw [yb (by rw [ze];omega),yb (by rw [qg,ze];omega)]
end
theorem Inv.moved {X:Cx} {pins:List (Addr×Obj)} {σ:St} {H:Hp} {s s':Shared} (I:Inv X pins σ H s) (m:Moved [] Eq s s'):Inv X pins σ H s':=by
 have e:s'={ s with heap:=s'.heap,toks:=s'.toks }:=by
  obtain ⟨h1,h2,h3,h4,h5⟩:=m;cases s;cases s';cases h2;cases h3;cases h4;rfl
 rw [e]
 exact I.kept (t':=s'.toks) fun b o q=>m.heap b o (by simp) q
section
variable {X:Cx}
theorem xAum {H:Hp} {ka:List (KD×V×V)} {xa:List (KD×Value×Value)} (h:Paired (GP H) ka xa):Vals (ka.map (·.2.1)) (xa.map (·.2.1)):=by
 induction h with
 | nil=>exact .nil
 | cons a _ ih=>exact .cons a.2.2.1 ih
end
section
variable {prog:Program} {w:World} {A:Around} {E:Value->Shared->Prop} {s:Shared}
end
section
variable {X:Cx} {o value:Expr} {lo hi:Option Expr} {pos pos' p2:Pos} {to tv:TE} {tl th:TO}
end
section
variable {X:Cx}
end
section
variable {prog:Program} {w:World} {A:Around} {E:Value->Shared->Prop} {s:Shared}
end
section
variable {X:Cx}
variable {pins:List (Addr×Obj)} {σ:St} {H:Hp} {s:Shared}
end
section
variable {prog:Program} {w:World} {A:Around} {E:Value->Shared->Prop} {s:Shared}
end
section
variable {X:Cx} {pins:List (Addr×Obj)} {σ:St} {H:Hp} {s:Shared}
end
section
variable {X:Cx}
end
section
variable {X:Cx} {pins:List (Addr×Obj)} {σ:St} {H:Hp} {s:Shared}
end
section
variable {prog:Program} {w:World} {A:Around} {E:Value->Shared->Prop} {s:Shared}
theorem xAdn {d:Addr} {od:Obj} {Q:Value->Shared->Prop} (hs:(d==sysModules)=false) (ho:s.heap.get? d=some od) (hc:od.ExactDict)
  (hQ:Q (.ref s.heap.objs.size) { s with heap:=s.heap.push { cls:=.type "dict_values",data:=.fields #[.ref d] } }):wpAny (model prog w) A (call (.builtin "dict.values") [.ref d]) Q E s:=by
 have hT:s.TypeIs (.ref d) "dict":=⟨od,ho,hc.1⟩;refine wpAny_call_entry F.slot_dict_values hT F.entry_dict_values ?_ (F.args_dict_values_1 _);unfold Builtin.«dict.values»;refine wpAny_bind ?_;unfold Builtin.Dict.noArgs;refine wpAny_bind (wpAny_notOrdered_dict hT ?_);show wpAny _ _ (pure d) _ _ s;refine wpAny_pure ?_;show wpAny _ _ (Builtin.Dict.showsAll d >>= _) _ _ s;unfold Builtin.Dict.showsAll;rw [if_neg (by rw [hs];exact qp)];refine wpAny_bind (wpAny_pure ?_);exact wpAny_bind (wpAny_newObj_type (wpAny_pure ⟨_,rfl,hQ⟩))
theorem xAcw {v d:Addr} {od:Obj} {es:Array DictEntry} {ep:Nat} {Q:Value->Shared->Prop} (hv:s.heap.IsValuesView v d) (ho:s.heap.get? d=some od) (hdat:od.data=.dict es ep)
  (hQ:Q (.ref s.heap.objs.size) { s with heap:=s.heap.push { cls:=.type "dict_valueiterator",data:=.fields #[.ref d,.int 0 0,.int es.size 0,.int ep 0] } }) :
  wpAny (model prog w) A (pyIter (.ref v)) Q E s:=by
 obtain ⟨ov,hov,hcv,hdv⟩:=id hv;refine wpAny_pyIter_slot hv.typeIs F.slot_dict_values_iter (wpAny_call_entry F.slot_dict_values_iter hv.typeIs F.entry_dict_values_iter ?_ (F.args_dict_values_iter_1 _));unfold Builtin.«dict_values.__iter__»;refine wpAny_bind (wpAny_pure ?_);refine wpAny_bind ?_;unfold Builtin.Dict_items.dictOf;refine wpAny_bind (wpAny_field hov hdv (x:=.ref d) rfl (wpAny_pure ?_));refine wpAny_bind ?_;unfold Builtin.Dict_items.newIterator;refine wpAny_bind (wpAny_dictEntries ho hdat ?_);refine wpAny_bind (wpAny_dictEpoch ho hdat ?_)
 have hown:Builtin.Dict_items.ownsTuple "dict_valueiterator"=false:=by decide
 simp only [hown,Bool.false_eq_true,if_false]
 refine wpAny_newObj_type (wpAny_pure ⟨_,rfl,"dict_valueiterator",_,⟨_,Heap.get?_push_size _ rfl,rfl⟩,F.slot_dict_valueiterator_next.lookup,?_⟩);simpa [rawInt] using hQ
theorem xAch {it d:Addr} {i n ep:Nat} {od:Obj} {es:Array DictEntry} {Q:Option Value->Shared->Prop} (hh:A.handled=none) (hit:s.heap.IsValIter it d i n ep) (hod:s.heap.get? d=some od) (hdd:od.data=.dict es ep) (hn:es.size=n)
  (h1:∀ (hi:i<es.size) h',h'.IsValIter it d (i+1) n ep->Heap.SameBut it s.heap h'->Q (some es[i].val) { s with heap:=h' })
  (h2:es.size≤i->∀ h',Heap.ExtBut it s.heap h'->Q none { s with heap:=h' }):wpAny (model prog w) A (pyNext (.ref it)) Q E s:=by
 obtain ⟨o,ho,hc,hd⟩:=id hit;subst hn;unfold pyNext
 refine wpAny_bind (wpAny_attempt (wpAny_callSpecial?_slot (name:=Str.ofString "__next__") hit.typeIs F.slot_dict_valueiterator_next
  (wpAny_call_entry F.slot_dict_valueiterator_next hit.typeIs F.entry_dict_valueiterator_next ?_ (F.args_dict_valueiterator_next_1 _))))
 refine wpAny_bind (wpAny_pure (wpAny_bind (wpAny_bind ?_)))
 first | refine wpAny_bind (wpAny_typeNameOfWhole_valiter hit.typeIs (wpAny_pure ?_)) | refine wpAny_bind (wpAny_typeNameOf_valiter hit.typeIs (wpAny_pure ?_))
 refine wpAny_bind (wpAny_fieldsOf ho hd ?_)
 simp only [show Builtin.Dict_items.ownsTuple "dict_valueiterator"=false by decide,Bool.false_eq_true,if_false]
 show wpAny _ _ (if (Value.ref d==Value.none)=true then _ else _) _ _ s;rw [if_neg (show ¬ ((Value.ref d==Value.none)=true) from qp)];refine wpAny_bind (wpAny_pure (wpAny_bind (wpAny_dictEntries hod hdd ?_)));rw [if_neg (by simp)];refine wpAny_bind (wpAny_pure (wpAny_bind (wpAny_dictEpoch hod hdd ?_)));rw [if_neg (by simp)];refine wpAny_pure ?_
 by_cases hi:i<es.size
 ·simp only [show ¬ ((i:Int)<0) from by omega,if_false,Int.toNat_natCast,Array.getElem?_eq_getElem hi]
  refine wpAny_bind ?_
  first | refine wpAny_bind (wpAny_typeNameOfWhole_valiter hit.typeIs (wpAny_pure ?_)) | refine wpAny_bind (wpAny_typeNameOf_valiter hit.typeIs (wpAny_pure ?_))
  refine wpAny_bind (wpAny_isOneOf_valiter hit.typeIs ?_);show wpAny _ _ (setField (.ref it) 1 (rawInt ((i:Int)+1)) >>= _) _ _ s;refine wpAny_bind (wpAny_setField ho hd (by simp) ?_)
  have hit':(s.heap.update it (Obj.mapFields (·.setIfInBounds 1 (rawInt ((i:Int)+1))))).IsValIter it d (i+1) es.size ep :=
   ⟨_,Heap.get?_update_self _ ho (Obj.isFreed_of_fields (Obj.data_mapFields hd _)),(Obj.cls_mapFields ..).trans hc,by rw [Obj.data_mapFields hd];simp [rawInt]⟩
  refine wpAny_bind (wpAny_holding ?_);refine wpAny_bind (wpAny_isOneOf_valiter (s:={ s with heap:=s.heap.update it (Obj.mapFields (·.setIfInBounds 1 (rawInt ((i:Int)+1)))) }) hit'.typeIs ?_);refine wpAny_bind (wpAny_isOneOf_valiter (s:={ s with heap:=s.heap.update it (Obj.mapFields (·.setIfInBounds 1 (rawInt ((i:Int)+1)))) }) hit'.typeIs ?_);show wpAny _ _ (pure es[i].val) _ _ _;exact wpAny_pure (wpAny_pure ⟨_,rfl,wpAny_pure (h1 hi _ hit' (Heap.SameBut.update ..))⟩)
 ·have hge:es.size≤i:=by omega
  simp only [show ¬ ((i:Int)<0) from by omega,if_false,Int.toNat_natCast,Array.getElem?_eq_none hge]
  refine wpAny_bind ?_
  first | refine wpAny_bind (wpAny_typeNameOfWhole_valiter hit.typeIs (wpAny_pure ?_)) | refine wpAny_bind (wpAny_typeNameOf_valiter hit.typeIs (wpAny_pure ?_))
  show wpAny _ _ (setField (.ref it) 0 .none >>= _) _ _ s;refine wpAny_bind (wpAny_setField ho hd (by simp) ?_);show wpAny _ _ (newExc (.type "StopIteration") [] >>= _) _ _ _;refine wpAny_bind ?_
  simp only [newExc,newTuple]
  refine wpAny_bind (wpAny_newObj_type ?_ (by size_fits));refine wpAny_bind (m:=firstArgMember _ _) (wpAny_of_eq (a:=Value.none) (by first | rfl | (simp only [firstArgMember];rfl)) ?_);refine wpAny_newObj_type ?_ (by size_fits)
  simp only [raiseNew]
  refine wpAny_bind (wpAny_handled ?_);rw [show A.in1.handled=none from hh];refine wpAny_bind (wpAny_pure (wpAny_throw ?_));refine wpAny_bind (wpAny_isInstance (T:="StopIteration") (b:=true) ⟨_,Heap.get?_push_size _ rfl,rfl⟩ isSubtype_stop ?_);exact wpAny_pure (h2 hge _ (((Heap.SameBut.update ..).extBut.push _).push _))
theorem xAlb:isSubtype (.type "dict_values") (.type "dict_values")=pure true:=by rw [isSubtype_type];kernel_rfl
theorem xAce:entryFor table "dict_valueiterator.__iter__"=some Builtin.«dict_keyiterator.__iter__»:=entryFor_alias (id':="dict_keyiterator.__iter__") (by kernel_rfl) rfl (by decide +kernel) (by kernel_rfl)
theorem xAhv {it d:Addr} {od:Obj} {es:Array DictEntry} {ep:Nat} (hh:A.handled=none) (hne:it≠d) (hdat:od.data=.dict es ep) :
  WalksS prog w A it [it,d] [it] Eq es.size (fun j v=>(es[j]?).map (·.val)=some v) (fun i s=>s.heap.IsValIter it d i es.size ep/\s.heap.get? d=some od) where
 sub:=fun b hb=>by rw [zb.mp hb];exact qr
 grefl:=fun _=>rfl
 gtrans:=fun _ _ _ h1 h2=>h1.trans h2
 frame:=fun i s h' tk ⟨⟨o,e,c,dd⟩,e2⟩ _ k=>⟨⟨o,k it qr o e,c,dd⟩,k d (qw _ qr) od e2⟩
 item:=fun i s Q E hi ⟨st,e2⟩ k=>xAch hh st e2 hdat rfl (fun hi' h' st' sb=>k _ _ (by rw [zn hi'];rfl) ⟨st',(sb.2 d hne.symm).trans e2⟩ ⟨fun b o hb e=>(sb.2 b (fun z=>hb (by rw [z];exact qr))).trans e,rfl,rfl,rfl,qh _⟩) fun z=>absurd hi (by omega)
 done:=fun s Q E ⟨st,e2⟩ k=>xAch hh st e2 hdat rfl (fun hi'=>absurd hi' (by omega)) fun _ h' eb=>k _ ⟨fun b o hb e=>eb b o (fun z=>hb (by rw [z];exact qr)) e,rfl,rfl,rfl,qh _⟩
 self:=fun i s Q E ⟨st,_⟩ h=>by
  refine wpAny_pyIter_slot st.typeIs F.slot_dict_valueiterator_iter (wpAny_call_entry F.slot_dict_valueiterator_iter st.typeIs xAce ?_ (F.args_dict_valueiterator_iter_1 _));show wpAny _ _ (ret (.ref _)) _ _ s;exact wpAny_pure ⟨_,rfl,"dict_valueiterator",_,st.typeIs,F.slot_dict_valueiterator_next.lookup,h⟩
theorem xAfk {es:Array DictEntry} {acc:Array Value} (h:ItemsOf (fun j v=>(es[j]?).map (·.val)=some v) acc es.size):acc.toList=es.toList.map (·.val):=by
 apply wg;intro j
 by_cases hj:j<acc.size
 ·have hj':j<es.size:=by rw [← h.1];exact hj
  have:=h.2 j acc[j] (zn hj);rw [zw,zn hj,ql,zw];exact this.symm
 ·have hj':¬ j<es.size:=by rw [← h.1];exact hj
  rw [yb (by rw [ze];omega),yb (by rw [qg,ze];omega)]
theorem xAnl {d v:Addr} {od:Obj} {es:Array DictEntry} {ep:Nat} {Q:Value->Shared->Prop} (hh:A.handled=none) (hv:s.heap.IsValuesView v d) (ho:s.heap.get? d=some od) (hdat:od.data=.dict es ep) (hz:es.size≤sizeLine)
  (hQ:∀ s' acc c,Moved [] Eq s s'->s'.heap.get? s.heap.objs.size=some { cls:=.type "list",dict:=none,data:=.seq acc c,slots:=#[] }->acc.toList=es.toList.map (·.val)->Q (.ref s.heap.objs.size) s') :
  wpAny (model prog w) A (call (.type "list") [.ref v]) Q E s:=by
 refine callType_codes (Q₁:=fun obj s₁=>obj=.ref s.heap.objs.size/\s₁={ s with heap:=s.heap.push { cls:=.type "list",data:=.seq #[] } }) F.called_list (F.typeCall_list_1 _) F.entry_list_init
  (code_list_new _ ⟨rfl,rfl⟩) fun obj s₁ h₁=>?_
 obtain ⟨rfl,rfl⟩:=h₁;have hS:(s.heap.push { cls:=.type "list",data:=.seq #[] }).get? s.heap.objs.size=some { cls:=.type "list",data:=.seq #[] }:=Heap.get?_push_size _ rfl;refine ⟨⟨_,hS,rfl⟩,F.args_list_init_2 _ _,?_⟩
 have hlv:v<s.heap.objs.size:=by obtain ⟨o,e,_⟩:=hv;exact Heap.lt_size e
 have hld:d<s.heap.objs.size:=Heap.lt_size ho;generalize hp1:s.heap.push { cls:=.type "list",data:=.seq #[] }=h1 at hS
 have k1:∀ b o,s.heap.get? b=some o->h1.get? b=some o:=fun b o e=>by rw [← hp1];exact Heap.get?_push_of_some _ e
 show wpAny _ A.in1.in1 (do let old ← Builtin.List.listItems (.ref s.heap.objs.size);Builtin.List.listUpdate (.ref s.heap.objs.size) (fun _=>#[]);letGo old.toList.reverse;Builtin.List.listExtendWith (.ref s.heap.objs.size) (.ref v) .none) _ _ { s with heap:=h1 };refine wpAny_bind ?_;unfold Builtin.List.listItems;refine wpAny_bind (wpAny_seqItems (s:={ s with heap:=h1 }) hS rfl (wpAny_pure ?_));show wpAny _ A.in1.in1 (updateSeq s.heap.objs.size (fun _=>#[]) >>= fun _=>letGo (#[]:Array Value).toList.reverse >>= fun _=>Builtin.List.listExtendWith (.ref s.heap.objs.size) (.ref v) .none) _ _ { s with heap:=h1 };refine wpAny_bind (wpAny_updateSeq (s:={ s with heap:=h1 }) hS rfl ?_);have hS2:=Heap.get?_update_self (Obj.mapSeq (fun _=>(#[]:Array Value))) hS rfl
 have k2:∀ b o,s.heap.get? b=some o->(h1.update s.heap.objs.size (Obj.mapSeq (fun _=>(#[]:Array Value)))).get? b=some o :=
  fun b o e=>(Heap.get?_update_other _ _ (za (Heap.lt_size e))).trans (k1 b o e)
 have hz2:(h1.update s.heap.objs.size (Obj.mapSeq (fun _=>(#[]:Array Value)))).objs.size=s.heap.objs.size+1:=by rw [Heap.size_update,← hp1,Heap.size_push]
 show wpAny _ _ _ _ _ { s with heap:=h1.update s.heap.objs.size (Obj.mapSeq (fun _=>(#[]:Array Value))) };generalize h1.update s.heap.objs.size (Obj.mapSeq (fun _=>(#[]:Array Value)))=h2 at hS2 k2 hz2;refine wpAny_bind (wpAny_letGo ?_);obtain ⟨ov,hov,hcv,hdv⟩:=hv;have hv2:h2.IsValuesView v d:=⟨ov,k2 _ _ hov,hcv,hdv⟩;have hT2:Shared.TypeIs { s with heap:=h2 } (.ref v) "dict_values":=hv2.typeIs
 have e1:Builtin.List.listSameRef (.ref s.heap.objs.size) (.ref v)=false:=by
  show (s.heap.objs.size==v)=false;exact beq_eq_false_iff_ne.mpr (za hlv)
 unfold Builtin.List.listExtendWith;refine wpAny_bind (wpAny_typeOf hT2 ?_);rw [if_neg (by rw [e1];decide)];refine wpAny_bind (xAcw (s:={ s with heap:=h2 }) hv2 (k2 _ _ ho) hdat ?_);refine wpAny_bind (wpAny_holding ?_);show wpAny _ _ _ _ _ { s with heap:=h2.push { cls:=.type "dict_valueiterator",data:=.fields #[.ref d,.int 0 0,.int es.size 0,.int ep 0] } };have hi3:(h2.push { cls:=.type "dict_valueiterator",data:=.fields #[.ref d,.int 0 0,.int es.size 0,.int ep 0] }).IsValIter h2.objs.size d 0 es.size ep:=⟨_,Heap.get?_push_size _ rfl,rfl,rfl⟩;have k3:∀ b o,h2.get? b=some o->(h2.push { cls:=.type "dict_valueiterator",data:=.fields #[.ref d,.int 0 0,.int es.size 0,.int ep 0] }).get? b=some o:=fun b o e=>Heap.get?_push_of_some _ e;generalize h2.push { cls:=.type "dict_valueiterator",data:=.fields #[.ref d,.int 0 0,.int es.size 0,.int ep 0] }=h3 at hi3 k3;have hT3:Shared.TypeIs { s with heap:=h3 } (.ref v) "dict_values":=⟨ov,k3 _ _ (k2 _ _ hov),hcv⟩;unfold Builtin.List.listLengthHint;refine wpAny_bind (wpAny_specialOf (name:=Str.ofString "__len__") hT3 F.slot_dict_values_len.lookup ?_);generalize hid:("dict_values.__len__":String)=id0
 wp_delta
 rw [show splitId id0=some ("dict_values","__len__") from by subst hid;decide +kernel];subst hid;refine wpAny_bind (wpAny_isInstance (T:="dict_values") (b:=true) hT3 xAlb ?_);rw [if_neg (by decide)]
 wp_delta
 rw [if_pos (by decide +kernel)];refine wpAny_bind (wpAny_typeOf hT3 (wpAny_pure ?_));rw [if_pos (by decide +kernel)];have hS3:=k3 _ _ hS2;refine wpAny_bind (wpAny_rule (wpAny_bind ?_));unfold Builtin.List.listTouch;refine wpAny_bind (listUpdate_at (s:={ s with heap:=h3 }) hS3 rfl ?_);obtain ⟨c1,hS4⟩:∃ c1,(h3.update s.heap.objs.size (Obj.mapSeq (·.push Value.none))).get? s.heap.objs.size=some (seqObj "list" #[Value.none] c1):=⟨_,get?_update_seq hS3 _⟩;have k4:∀ b o,b≠s.heap.objs.size->h3.get? b=some o->(h3.update s.heap.objs.size (Obj.mapSeq (·.push Value.none))).get? b=some o:=fun b o hb e=>(Heap.get?_update_other _ _ (fun z=>hb z.symm)).trans e;show wpAny _ _ _ _ _ { s with heap:=h3.update s.heap.objs.size (Obj.mapSeq (·.push Value.none)) };generalize h3.update s.heap.objs.size (Obj.mapSeq (·.push Value.none))=h4 at hS4 k4;refine listUpdate_at (s:={ s with heap:=h4 }) hS4 rfl ?_;obtain ⟨c2,hS5⟩:∃ c2,(h4.update s.heap.objs.size (Obj.mapSeq (·.pop))).get? s.heap.objs.size=some (seqObj "list" #[] c2):=⟨_,get?_update_seq hS4 _⟩;have k5:∀ b o,b≠s.heap.objs.size->h3.get? b=some o->(h4.update s.heap.objs.size (Obj.mapSeq (·.pop))).get? b=some o:=fun b o hb e=>(Heap.get?_update_other _ _ (fun z=>hb z.symm)).trans (k4 b o hb e);show wpAny _ _ _ _ _ { s with heap:=h4.update s.heap.objs.size (Obj.mapSeq (·.pop)) };generalize h4.update s.heap.objs.size (Obj.mapSeq (·.pop))=h5 at hS5 k5;show wpAny _ _ (again (Code.builtin "list.extend.loop" ⟨[Value.ref s.heap.objs.size,Value.ref h2.objs.size,Value.none],[]⟩)) _ _ _;rw [hz2] at hi3 ⊢;have W:=xAhv (prog:=prog) (w:=w) (A:=A.in1.in1) (it:=s.heap.objs.size+1) (d:=d) (od:=od) (es:=es) (ep:=ep) hh (za (zm hld)) hdat;obtain ⟨oi,ei,ci,di⟩:=hi3;refine wpAny_pure ⟨plainId_quiet F.plain_extend_loop _,codeAny_extend_loopS W hz s.heap.objs.size (fun z=>?_) _ es.size 0 { s with heap:=h5 } #[] c2 rfl (qu _) ⟨⟨oi,k5 _ _ (vi _) ei,ci,di⟩,k5 _ _ (qj hld) (k3 _ _ (k2 _ _ ho))⟩ hS5 (ItemsOf.nil _) fun s' acc' c' hm hS' hacc=>?_⟩
 ·simp only [List.mem_cons,List.not_mem_nil,or_false] at z
  rcases z with z | z
  ·exact vi _ z.symm
  ·exact za hld z
 ·refine ⟨rfl,hQ s' acc' c' ⟨fun b o _ e=>?_,hm.gens,hm.drawn,hm.os,hm.toks⟩ hS' (xAfk hacc)⟩
  have hb:b<s.heap.objs.size:=Heap.lt_size e;refine hm.heap b o (fun z=>?_) (k5 b o (qj hb) (k3 _ _ (k2 _ _ e)))
  simp only [List.mem_cons,List.not_mem_nil,or_false] at z
  rcases z with z | z
  ·exact qj hb z
  ·exact qj (zm hb) z
end
def tLVals (tl:TE):TE:=fun σ H Q=>tl σ H fun x H1=>∃ a kvs,x=.ref a/\Rd H1 a (.dG kvs)/\kvs.length≤1000/\∀ p H',H1 p=none->Same H1 H'->H' p=some (.lst (kvs.map (·.2.2)))->Q (.ref p) H'
section
variable {X:Cx}
theorem xAiq {l:Expr} {tl:TE} {p apos cpos pos:Pos} (hc:X.calm=true) (hgl:Gl X "list") (hml:X.mg "list"=none) (hl:PE X l tl)
  (hbase:attributeBase l "values" X.env (eval l X.env)=eval l X.env:=by rfl) (hline:(apos.endLine==cpos.line)=true:=by rfl)
  (hs2:starEach [.Call (.Attribute l "values" apos) [] [] cpos] X.env=[(false,eval (.Call (.Attribute l "values" apos) [] [] cpos) X.env)]:=by rfl) :
  PE X (.Call (.Name "list" p) [.Call (.Attribute l "values" apos) [] [] cpos] [] pos) (tLVals tl):=by
 intro pins s σ H Q I h;refine wpAny_Call_Name_kw (xAdr I hgl hml boot_list ?_ (by decide) (by decide));refine PyProof.Rows.callWith_type1 ?_ hs2 rfl;rw [hs2];refine Calls.spliced_cons ?_;refine wpAny_Call_method0_late hbase hline (thn (hl pins s σ H _ I h) fun v s1 ⟨x,H1,I1,r1,q1⟩=>?_);obtain ⟨a,kvs,e,rd,hz,q⟩:=q1;subst e;cases r1;obtain ⟨_,hsm,xs,pr,o,es,ep,ho,hc',hd,he,_⟩:ObjOk X.prog X.w H1 s1.heap a (.dG kvs):=rd.ok I1.hok
 have hlen:es.size=kvs.length:=by
  have:es.toList.length=kvs.length:=by rw [he,qg,pr.length]
  simpa using this
 refine ⟨"dict","dict.values",PySem.F.plainAttrs_dict,PySem.F.slot_dict_values,PySem.F.type_dict_values,⟨o,ho,hc'.1⟩,fun b z=>?_,Calls.callWith_builtin rfl (PySem.evalArgs_none (xAdn hsm ho hc' ?_))⟩
 ·cases z
  exact ⟨o,ho,hc'.2.1⟩
 have ho1:(s1.heap.push { cls:=.type "dict_values",data:=.fields #[.ref a] }).get? a=some o:=Heap.get?_push_of_some _ ho;have I2:Inv X pins σ H1 { s1 with heap:=s1.heap.push { cls:=.type "dict_values",data:=.fields #[.ref a] } }:=I1.kept (t':=s1.toks) fun b o e=>Heap.get?_push_of_some _ e;refine Calls.spliced_nil ?_;refine xAnl (s:={ s1 with heap:=s1.heap.push { cls:=.type "dict_values",data:=.fields #[.ref a] } }) (I1.ok.hd hc) (v:=s1.heap.objs.size) ⟨_,Heap.get?_push_size _ rfl,rfl,rfl⟩ ho1 hd (by rw [hlen,sizeLine_eq];omega) fun s' acc c m eS ea=>?_
 have e':s'={ s1 with heap:=s'.heap,toks:=s'.toks }:=by
  obtain ⟨g1,g2,g3,g4,g5⟩:=m;cases s';cases g2;cases g3;cases g4;rfl
 have hf:=I2.hok.fresh (a:=(s1.heap.push { cls:=.type "dict_values",data:=.fields #[.ref a] }).objs.size) (qh _)
 have I3:Inv X pins σ (upd H1 (s1.heap.push { cls:=.type "dict_values",data:=.fields #[.ref a] }).objs.size (.lst (kvs.map (·.2.2)))) s':=by
  rw [e'];refine I2.laid (t':=s'.toks) (h':=s'.heap) (fun b u e=>m.heap b u (by simp) e) (Nat.le_refl _) ⟨?_,acc.toList,c,?_,by simpa using eS⟩
  ·show (kvs.map (·.2.2)).length≤sizeLine
   rw [qg,sizeLine_eq];omega
  ·rw [ea,he,wb]
   exact (xApi pr).1
 exact ⟨.ref _,_,I3,rfl,q _ _ hf (Same.new hf) xAae⟩
end
section
variable {prog:Program} {w:World} {A:Around} {E:Value->Shared->Prop} {s:Shared}
theorem nx_tup {it t:Addr} {i:Nat} {items:Array Value} {x:Value} {Q:Value->Shared->Prop} (hit:s.heap.IsTupleIter it t i) (ht:s.heap.IsTuple t items) (hx:items[i]?=some x)
  (hQ:∀ h',h'.IsTupleIter it t (i+1)->Heap.SameBut it s.heap h'->Q x { s with heap:=h' }):wpAny (model prog w) A (Builtin.SmallTypes.nextOf (.ref it)) Q E s:=by
 obtain ⟨⟨o,ho,hc,hd⟩,⟨ol,hol,_,nl,hdl⟩⟩:=And.intro (id hit) ht;unfold Builtin.SmallTypes.nextOf;refine wpAny_bind (wpAny_callSpecial?_slot hit.typeIs F.slot_tuple_iterator_next (wpAny_call_entry F.slot_tuple_iterator_next hit.typeIs F.entry_tuple_iterator_next ?_ (F.args_tuple_iterator_next_1 _)));show wpAny _ _ (field (.ref it) 0 >>= _) _ _ s;refine wpAny_bind (wpAny_field ho hd (x:=.ref t) rfl ?_);show wpAny _ _ (if (Value.ref t==Value.none)=true then _ else _) _ _ s;rw [if_neg (fun z:(Value.ref t==Value.none)=true=>qp z)];show wpAny _ _ (field (.ref it) 1 >>= _) _ _ s;refine wpAny_bind (wpAny_field ho hd (x:=.int i 0) rfl ?_);show wpAny _ _ (seqItems? (.ref t) >>= _) _ _ s;refine wpAny_bind (wpAny_seqItems hol hdl ?_)
 simp only [Int.toNat_natCast,hx]
 refine wpAny_bind (wpAny_setField ho hd (by simp) (wpAny_pure ⟨x,rfl,wpAny_pure (hQ _ ⟨_,Heap.get?_update_self _ ho (Obj.isFreed_of_fields (Obj.data_mapFields hd _)),(Obj.cls_mapFields ..).trans hc,?_⟩ (Heap.SameBut.update ..))⟩));rw [Obj.data_mapFields hd]
 simp [rawInt]
theorem xAun {it t:Addr} {i:Nat} {items:Array Value} {Q:Value->Shared->Prop} (hh:A.handled=none) (hit:s.heap.IsTupleIter it t i) (ht:s.heap.IsTuple t items) (hx:items[i]?=none)
  (hE:∀ h' e,Heap.ExtBut it s.heap h'->(∃ o,h'.get? e=some o/\o.cls=.type "StopIteration")->E (.ref e) { s with heap:=h' }):wpAny (model prog w) A (Builtin.SmallTypes.nextOf (.ref it)) Q E s:=by
 obtain ⟨⟨o,ho,hc,hd⟩,⟨ol,hol,_,nl,hdl⟩⟩:=And.intro (id hit) ht;unfold Builtin.SmallTypes.nextOf;refine wpAny_bind (wpAny_callSpecial?_slot hit.typeIs F.slot_tuple_iterator_next (wpAny_call_entry F.slot_tuple_iterator_next hit.typeIs F.entry_tuple_iterator_next ?_ (F.args_tuple_iterator_next_1 _)));show wpAny _ _ (field (.ref it) 0 >>= _) _ _ s;refine wpAny_bind (wpAny_field ho hd (x:=.ref t) rfl ?_);show wpAny _ _ (if (Value.ref t==Value.none)=true then _ else _) _ _ s;rw [if_neg (fun z:(Value.ref t==Value.none)=true=>qp z)];show wpAny _ _ (field (.ref it) 1 >>= _) _ _ s;refine wpAny_bind (wpAny_field ho hd (x:=.int i 0) rfl ?_);show wpAny _ _ (seqItems? (.ref t) >>= _) _ _ s;refine wpAny_bind (wpAny_seqItems hol hdl ?_)
 simp only [Int.toNat_natCast,hx]
 refine wpAny_bind (wpAny_rule (wpAny_bind (wpAny_setField ho hd (by simp) ?_)));show wpAny _ _ (newExc (.type "StopIteration") [] >>= _) _ _ _;refine wpAny_bind ?_
 simp only [newExc,newTuple]
 refine wpAny_bind (wpAny_newObj_type (wpAny_bind (m:=firstArgMember _ _) (wpAny_of_eq (a:=Value.none) (by first | rfl | (simp only [firstArgMember];rfl)) (wpAny_newObj_type ?_ (by size_fits)))) (by size_fits))
 simp only [raiseNew]
 refine wpAny_bind (wpAny_handled ?_);rw [show A.in1.handled=none from hh];refine wpAny_bind (wpAny_pure (wpAny_throw (hE _ _ (((Heap.SameBut.update ..).extBut.push _).push _) ⟨_,Heap.get?_push_size _ rfl,rfl⟩)))
theorem dr_tup (hh:A.handled=none) (it t:Addr) (hne:t≠it) (items:Array Value):Draws prog w A it [it,t] items.size (fun i v=>items[i]?=some v) (fun i h=>h.IsTupleIter it t i/\h.IsTuple t items) where
 live:=fun _ _ ⟨⟨o,ho,_⟩,_⟩=>⟨o,ho⟩
 frame:=fun _ _ _ ⟨⟨o,ho,r⟩,⟨o2,ho2,r2⟩⟩ k=>⟨⟨o,k it qr o ho,r⟩,⟨o2,k t (qw _ qr) o2 ho2,r2⟩⟩
 item:=fun i s Q E hi st hQ=>nx_tup st.1 st.2 (x:=items[i]) (zn hi) fun h' hit' hs'=>hQ _ h' s.toks (zn hi) ⟨hit',st.2.extBut hs'.extBut hne⟩ hs'
 done:=fun s Q E st hE=>xAun hh st.1 st.2 (by simp) hE
structure Zap (z TI TO i1 i2:Addr) (f1 f2:List Addr):Prop where
 t1:TI≠z
 t2:TI≠TO
 t3:TI≠i1
 t4:TI≠i2
 o1:TO≠z
 o2:TO≠i1
 o3:TO≠i2
 a1:i1≠z
 a2:i2≠z
 a3:i1≠i2
 g1:∀ b∈f1,b≠z/\b≠TO/\b≠i2
 g2:∀ b∈f2,b≠z/\b≠TO/\b≠i1
variable {z TI TO i1 i2:Addr} {f1 f2:List Addr} {n1 n2 k1 k2:Nat} {P1 P2:Nat->Value->Prop} {S1 S2:Nat->Heap->Prop} {a b:Value}
theorem xAnm {Q:Value->Shared->Prop} (D1:Draws prog w A i1 f1 n1 P1 S1) (D2:Draws prog w A i2 f2 n2 P2 S2) (Z:Zap z TI TO i1 i2 f1 f2) (hz:IsZip s.heap z TI TO .none) (hTI:IsPair s.heap TI (.ref i1) (.ref i2)) (hTO:IsPair s.heap TO a b)
  (h1:k1<n1) (h2:k2<n2) (st1:S1 k1 s.heap) (st2:S2 k2 s.heap)
  (hQ:∀ x y h' tk,P1 k1 x->P2 k2 y->IsZip h' z TI TO (rawInt s.heap.objs.size)->IsPair h' TO x y->S1 (k1+1) h'->S2 (k2+1) h'->IsPair h' s.heap.objs.size x y->(∀ c o,c≠z->c≠TO->c≠i1->c≠i2->s.heap.get? c=some o->h'.get? c=some o)->Q (.ref s.heap.objs.size) { s with heap:=h',toks:=tk }) :
  wpAny (model prog w) A (Builtin.«zip.__next__» ⟨[.ref z],[]⟩) (fun fin s'=>∃ v,fin=.done (.ret v)/\Q v s') E s:=by
 show wpAny _ _ (field (.ref z) 2 >>= _) _ _ _;refine wpAny_bind (wpAny_field hz rfl (x:=.bool false) rfl ?_);show wpAny _ _ (field (.ref z) 3 >>= _) _ _ _;refine wpAny_bind (wpAny_field hz rfl (x:=.ref TI) rfl (wpAny_bind (wpAny_seqItems hTI rfl ?_)));show wpAny _ _ (Builtin.SmallTypes.ownedTupleIsFree (.ref z) >>= _) _ _ _;refine wpAny_bind ?_;unfold Builtin.SmallTypes.ownedTupleIsFree;refine wpAny_bind (wpAny_field hz rfl (x:=.none) rfl (wpAny_pure ?_))
 simp only [if_true]
 refine wpAny_bind (wpAny_rule (wpAny_bind (wpAny_field hz rfl (x:=.ref TO) rfl (wpAny_bind (wpAny_setField_rec hz (by simp) fun H1 hz1 b1=>wpAny_bind ?_)))));have hz1:IsZip H1 z TI TO .ellipsis:=hz1
 simp only [List.zipIdx_cons,List.zipIdx_nil,List.forIn_cons,List.forIn_nil]
 refine wpAny_bind (wpAny_bind (wpAny_onRaise ?_));show wpAny _ _ (Builtin.SmallTypes.nextOf (.ref i1) >>= _) _ _ _;refine wpAny_bind (D1.item k1 _ _ _ h1 (D1.frame _ _ _ st1 fun c hc o e=>b1.extBut c o (Z.g1 c hc).1 e) fun x H2 tk px s12 b2=>wpAny_pure ?_);have to2:IsPair H2 TO a b:=b2.extBut _ _ Z.o2 (b1.extBut _ _ Z.o1 hTO);refine wpAny_bind (wpAny_seqItems to2 rfl (wpAny_bind (wpAny_updateSeq_pair to2 fun H3 to3 b3=>wpAny_bind (wpAny_letGo (wpAny_pure ?_)))));have to3:IsPair H3 TO x b:=to3;refine wpAny_bind (wpAny_bind (wpAny_onRaise ?_));show wpAny _ _ (Builtin.SmallTypes.nextOf (.ref i2) >>= _) _ _ _;have st3:S2 k2 H3:=D2.frame _ _ _ st2 fun c hc o e=>b3.extBut c o (Z.g2 c hc).2.1 (b2.extBut c o (Z.g2 c hc).2.2 (b1.extBut c o (Z.g2 c hc).1 e));refine wpAny_bind (D2.item k2 _ _ _ h2 st3 fun y H4 tk2 py s24 b4=>wpAny_pure ?_);have to4:IsPair H4 TO x b:=b4.extBut _ _ Z.o3 to3;refine wpAny_bind (wpAny_seqItems to4 rfl (wpAny_bind (wpAny_updateSeq_pair to4 fun H5 to5 b5=>wpAny_bind (wpAny_letGo (wpAny_pure (wpAny_pure ?_))))));have to5:IsPair H5 TO x y:=to5;refine wpAny_bind (wpAny_seqItems to5 rfl (wpAny_bind (wpAny_newTuple ?_)))
 have sz:H5.objs.size=s.heap.objs.size:=by rw [b5.1,b4.1,b3.1,b2.1,b1.1]
 have hz5:IsZip H5 z TI TO .ellipsis:=b5.extBut _ _ Z.o1.symm (b4.extBut _ _ Z.a2.symm (b3.extBut _ _ Z.o1.symm (b2.extBut _ _ Z.a1.symm hz1)));have k5:∀ c o,c≠z->c≠TO->c≠i1->c≠i2->s.heap.get? c=some o->H5.get? c=some o:=fun c o c1 c2 c3 c4 e=>b5.extBut _ _ c2 (b4.extBut _ _ c4 (b3.extBut _ _ c2 (b2.extBut _ _ c3 (b1.extBut _ _ c1 e))));have s15:S1 (k1+1) H5:=D1.frame _ _ _ s12 fun c hc o e=>b5.extBut c o (Z.g1 c hc).2.1 (b4.extBut c o (Z.g1 c hc).2.2 (b3.extBut c o (Z.g1 c hc).2.1 e));have s25:S2 (k2+1) H5:=D2.frame _ _ _ s24 fun c hc o e=>b5.extBut c o (Z.g2 c hc).2.1 e;have zl:z<H5.objs.size:=Heap.lt_size hz5;show wpAny _ _ (Builtin.SmallTypes.ownedTupleHandOut (.ref z) (.ref H5.objs.size) >>= _) _ _ _;refine wpAny_bind ?_;unfold Builtin.SmallTypes.ownedTupleHandOut;have hz6:IsZip (H5.push { cls:=.type "tuple",data:=.seq #[x,y] }) z TI TO .ellipsis:=Heap.get?_push_of_some _ hz5;refine wpAny_bind (wpAny_setField_rec hz6 (by simp) fun H7 hz7 b7=>?_);have hz7:IsZip H7 z TI TO (rawInt H5.objs.size):=hz7;refine wpAny_setField_rec hz7 (by simp) fun H8 hz8 b8=>?_;have hz8:IsZip H8 z TI TO (rawInt H5.objs.size):=hz8;have up:∀ c o,c≠z->H5.get? c=some o->H8.get? c=some o:=fun c o c1 e=>b8.extBut _ _ c1 (b7.extBut _ _ c1 (Heap.get?_push_of_some _ e));have hT8:IsPair H8 H5.objs.size x y:=b8.extBut _ _ (za zl) (b7.extBut _ _ (za zl) (Heap.get?_push_size _ rfl));rw [sz] at hz8 hT8;refine wpAny_pure ⟨_,rfl,?_⟩;show Q (.ref H5.objs.size) _;rw [sz];exact hQ x y H8 _ px py hz8 (up _ _ Z.o1 to5) (D1.frame _ _ _ s15 fun c hc o e=>up c o (Z.g1 c hc).1 e) (D2.frame _ _ _ s25 fun c hc o e=>up c o (Z.g2 c hc).1 e) hT8 fun c o c1 c2 c3 c4 e=>up c o c1 (k5 c o c1 c2 c3 c4 e)
theorem xArb {Q:PySem.Fin->Shared->Prop} (D1:Draws prog w A i1 f1 n1 P1 S1) (D2:Draws prog w A i2 f2 n2 P2 S2) (Z:Zap z TI TO i1 i2 f1 f2) (hz:IsZip s.heap z TI TO .none) (hTI:IsPair s.heap TI (.ref i1) (.ref i2)) (hTO:IsPair s.heap TO a b)
  (he:k1=n1\/(k1<n1/\k2=n2)) (st1:S1 k1 s.heap) (st2:S2 k2 s.heap)
  (hE:∀ h' tk e,(∀ c o,c≠z->c≠TO->c≠i1->c≠i2->s.heap.get? c=some o->h'.get? c=some o)->(∃ o,h'.get? e=some o/\o.cls=.type "StopIteration")->E (.ref e) { s with heap:=h',toks:=tk }) :
  wpAny (model prog w) A (Builtin.«zip.__next__» ⟨[.ref z],[]⟩) Q E s:=by
 show wpAny _ _ (field (.ref z) 2 >>= _) _ _ _;refine wpAny_bind (wpAny_field hz rfl (x:=.bool false) rfl ?_);show wpAny _ _ (field (.ref z) 3 >>= _) _ _ _;refine wpAny_bind (wpAny_field hz rfl (x:=.ref TI) rfl (wpAny_bind (wpAny_seqItems hTI rfl ?_)));show wpAny _ _ (Builtin.SmallTypes.ownedTupleIsFree (.ref z) >>= _) _ _ _;refine wpAny_bind ?_;unfold Builtin.SmallTypes.ownedTupleIsFree;refine wpAny_bind (wpAny_field hz rfl (x:=.none) rfl (wpAny_pure ?_))
 simp only [if_true]
 refine wpAny_bind (wpAny_rule (wpAny_bind (wpAny_field hz rfl (x:=.ref TO) rfl (wpAny_bind (wpAny_setField_rec hz (by simp) fun H1 hz1 b1=>wpAny_bind ?_)))));have hz1:IsZip H1 z TI TO .ellipsis:=hz1
 simp only [List.zipIdx_cons,List.zipIdx_nil,List.forIn_cons,List.forIn_nil]
 refine wpAny_bind (wpAny_bind (wpAny_onRaise ?_));show wpAny _ _ (Builtin.SmallTypes.nextOf (.ref i1) >>= _) _ _ _;have s11:S1 k1 H1:=D1.frame _ _ _ st1 fun c hc o e=>b1.extBut c o (Z.g1 c hc).1 e;rcases he with e1 | ⟨h1,e2⟩
 ·subst e1
  refine wpAny_bind (D1.done _ _ _ s11 fun H2 e x2 he=>?_);obtain ⟨oe,hoe,hce⟩:=he;have hz2:IsZip H2 z TI TO .ellipsis:=x2 _ _ Z.a1.symm hz1
  have ne:e≠z:=fun x=>by subst x;rw [hz2] at hoe;cases hoe;simp at hce
  exact wpAny_setField_rec hz2 (by simp) fun H3 _ b3=>hE H3 _ e (fun c o c1 _ c3 _ q=>b3.extBut _ _ c1 (x2 _ _ c3 (b1.extBut _ _ c1 q))) ⟨oe,b3.extBut _ _ ne hoe,hce⟩
 ·subst e2
  refine wpAny_bind (D1.item k1 _ _ _ h1 s11 fun x H2 tk px s12 b2=>wpAny_pure ?_);have to2:IsPair H2 TO a b:=b2.extBut _ _ Z.o2 (b1.extBut _ _ Z.o1 hTO);refine wpAny_bind (wpAny_seqItems to2 rfl (wpAny_bind (wpAny_updateSeq_pair to2 fun H3 to3 b3=>wpAny_bind (wpAny_letGo (wpAny_pure ?_)))));refine wpAny_bind (wpAny_bind (wpAny_onRaise ?_));show wpAny _ _ (Builtin.SmallTypes.nextOf (.ref i2) >>= _) _ _ _;have st3:S2 k2 H3:=D2.frame _ _ _ st2 fun c hc o e=>b3.extBut c o (Z.g2 c hc).2.1 (b2.extBut c o (Z.g2 c hc).2.2 (b1.extBut c o (Z.g2 c hc).1 e));refine wpAny_bind (D2.done _ _ _ st3 fun H4 e x4 he=>?_);obtain ⟨oe,hoe,hce⟩:=he;have hz4:IsZip H4 z TI TO .ellipsis:=x4 _ _ Z.a2.symm (b3.extBut _ _ Z.o1.symm (b2.extBut _ _ Z.a1.symm hz1))
  have ne:e≠z:=fun x=>by subst x;rw [hz4] at hoe;cases hoe;simp at hce
  exact wpAny_setField_rec hz4 (by simp) fun H5 _ b5=>hE H5 _ e (fun c o c1 c2 c3 c4 q=>b5.extBut _ _ c1 (x4 _ _ c4 (b3.extBut _ _ c2 (b2.extBut _ _ c3 (b1.extBut _ _ c1 q))))) ⟨oe,b5.extBut _ _ ne hoe,hce⟩
theorem xAnn {Q:Option Value->Shared->Prop} (D1:Draws prog w A.in1 i1 f1 n1 P1 S1) (D2:Draws prog w A.in1 i2 f2 n2 P2 S2) (Z:Zap z TI TO i1 i2 f1 f2) (hz:IsZip s.heap z TI TO .none) (hTI:IsPair s.heap TI (.ref i1) (.ref i2)) (hTO:IsPair s.heap TO a b)
  (h1:k1<n1) (h2:k2<n2) (st1:S1 k1 s.heap) (st2:S2 k2 s.heap)
  (hQ:∀ x y h' tk,P1 k1 x->P2 k2 y->IsZip h' z TI TO (rawInt s.heap.objs.size)->IsPair h' TO x y->S1 (k1+1) h'->S2 (k2+1) h'->IsPair h' s.heap.objs.size x y->(∀ c o,c≠z->c≠TO->c≠i1->c≠i2->s.heap.get? c=some o->h'.get? c=some o)->Q (some (.ref s.heap.objs.size)) { s with heap:=h',toks:=tk }) :
  wpAny (model prog w) A (pyNext (.ref z)) Q E s:=by
 have hT:s.TypeIs (.ref z) "zip":=⟨_,hz,rfl⟩;unfold pyNext;exact wpAny_bind (wpAny_attempt (wpAny_callSpecial?_slot hT F.slot_zip_next (wpAny_call_entry F.slot_zip_next hT F.entry_zip_next (xAnm D1 D2 Z hz hTI hTO h1 h2 st1 st2 fun x y h' tk p1 p2 q1 q2 q3 q4 q5 q6=>wpAny_pure (hQ x y h' tk p1 p2 q1 q2 q3 q4 q5 q6)) (F.args_zip_next_1 _))))
theorem xAno {Q:Option Value->Shared->Prop} (D1:Draws prog w A.in1 i1 f1 n1 P1 S1) (D2:Draws prog w A.in1 i2 f2 n2 P2 S2) (Z:Zap z TI TO i1 i2 f1 f2) (hz:IsZip s.heap z TI TO .none) (hTI:IsPair s.heap TI (.ref i1) (.ref i2)) (hTO:IsPair s.heap TO a b)
  (he:k1=n1\/(k1<n1/\k2=n2)) (st1:S1 k1 s.heap) (st2:S2 k2 s.heap)
  (hQ:∀ h' tk,(∀ c o,c≠z->c≠TO->c≠i1->c≠i2->s.heap.get? c=some o->h'.get? c=some o)->Q none { s with heap:=h',toks:=tk }) :
  wpAny (model prog w) A (pyNext (.ref z)) Q E s:=by
 have hT:s.TypeIs (.ref z) "zip":=⟨_,hz,rfl⟩;unfold pyNext;refine wpAny_bind (wpAny_attempt (wpAny_callSpecial?_slot hT F.slot_zip_next (wpAny_call_entry F.slot_zip_next hT F.entry_zip_next (xArb D1 D2 Z hz hTI hTO he st1 st2 fun h' tk e k ⟨o,ho,hc⟩=>?_) (F.args_zip_next_1 _))));exact wpAny_bind (wpAny_isInstance (T:="StopIteration") (b:=true) ⟨o,ho,hc⟩ isSubtype_stop (wpAny_pure (hQ h' tk k)))
end
abbrev itO (c:String) (l:Addr):Obj:={ cls:=.type c,data:=.fields #[.ref l,.int 0 0] }
abbrev zS1 (c1:String) (h:Heap) (l1:Addr):Heap:=h.push (itO c1 l1)
abbrev zS2 (c1 c2:String) (h:Heap) (l1 l2:Addr):Heap:=(zS1 c1 h l1).push (itO c2 l2)
abbrev zS3 (c1 c2:String) (h:Heap) (l1 l2:Addr):Heap:=(zS2 c1 c2 h l1 l2).push { cls:=.type "tuple",data:=.seq #[.ref h.objs.size,.ref (zS1 c1 h l1).objs.size] }
abbrev zS4 (c1 c2:String) (h:Heap) (l1 l2:Addr):Heap:=(zS3 c1 c2 h l1 l2).push { cls:=.type "tuple",data:=.seq #[.none,.none] }
abbrev zS5 (c1 c2:String) (h:Heap) (l1 l2:Addr):Heap:=(zS4 c1 c2 h l1 l2).push { cls:=.type "zip",data:=.fields #[.none,.bool false,.bool false,.ref (zS2 c1 c2 h l1 l2).objs.size,.ref (zS3 c1 c2 h l1 l2).objs.size] }
theorem xAnp (l1 l2:Addr) (xs ys:Array Value):Meets (Builtin.«zip.__new__» ⟨[.type "zip",.ref l1,.ref l2],[]⟩) (fun _ R s=>s.heap.IsList l1 xs/\s.heap.IsTuple l2 ys ∧
      R (.ok (.ret (.ref (zS4 "list_iterator" "tuple_iterator" s.heap l1 l2).objs.size))) { s with heap:=zS5 "list_iterator" "tuple_iterator" s.heap l1 l2 }) :=
 .of_wp fun prog w A R s h=>by
  obtain ⟨hp,g,d,tk,os⟩:=s;obtain ⟨a1,a2,h⟩:=h;have hsub:=sub_zip;have b1:Heap.IsList (Shared.heap ⟨hp,g,d,tk,os⟩) l1 xs:=a1;have b2:Heap.IsTuple (Shared.heap ⟨hp.push (itO "list_iterator" l1),g,d,tk,os⟩) l2 ys:=Heap.IsTuple.push a2 _
  wp_walk using wpAny_pyIter_list b1,wpAny_pyIter_tuple b2
  exact ⟨_,rfl,h⟩
theorem xAnq (l1 l2:Addr) (xs ys:Array Value):Meets (Builtin.«zip.__new__» ⟨[.type "zip",.ref l1,.ref l2],[]⟩) (fun _ R s=>s.heap.IsTuple l1 xs/\s.heap.IsTuple l2 ys ∧
      R (.ok (.ret (.ref (zS4 "tuple_iterator" "tuple_iterator" s.heap l1 l2).objs.size))) { s with heap:=zS5 "tuple_iterator" "tuple_iterator" s.heap l1 l2 }) :=
 .of_wp fun prog w A R s h=>by
  obtain ⟨hp,g,d,tk,os⟩:=s;obtain ⟨a1,a2,h⟩:=h;have hsub:=sub_zip;have b1:Heap.IsTuple (Shared.heap ⟨hp,g,d,tk,os⟩) l1 xs:=a1;have b2:Heap.IsTuple (Shared.heap ⟨hp.push (itO "tuple_iterator" l1),g,d,tk,os⟩) l2 ys:=Heap.IsTuple.push a2 _
  wp_walk using wpAny_pyIter_tuple b1,wpAny_pyIter_tuple b2
  exact ⟨_,rfl,h⟩
section
variable {prog:Program} {w:World} {A:Around} {E:Value->Shared->Prop} {s:Shared}
theorem xAnr {c1 c2:String} {l1 l2:Addr} {R1 R2:Heap->Prop} {Q:Value->Shared->Prop} (M:Meets (Builtin.«zip.__new__» ⟨[.type "zip",.ref l1,.ref l2],[]⟩) (fun _ R s=>R1 s.heap/\R2 s.heap/\R (.ok (.ret (.ref (zS4 c1 c2 s.heap l1 l2).objs.size))) { s with heap:=zS5 c1 c2 s.heap l1 l2 })) (r1:R1 s.heap) (r2:R2 s.heap)
  (h:∀ h',IsZip h' (s.heap.objs.size+4) (s.heap.objs.size+2) (s.heap.objs.size+3) .none->IsPair h' (s.heap.objs.size+2) (.ref s.heap.objs.size) (.ref (s.heap.objs.size+1))->IsPair h' (s.heap.objs.size+3) .none .none →
   h'.get? s.heap.objs.size=some (itO c1 l1)->h'.get? (s.heap.objs.size+1)=some (itO c2 l2)->(∀ c o,s.heap.get? c=some o->h'.get? c=some o)->Q (.ref (s.heap.objs.size+4)) { s with heap:=h' }) :
  wpAny (model prog w) A (call (.type "zip") [.ref l1,.ref l2]) Q E s:=by
 refine callType_new F.called_zip (by decide) (F.typeCall_zip_2 _ _) (F.newCall_zip_2 _ _) (fun obj=>F.args_object_init_3 obj _ _) F.entry_zip_new M ⟨r1,r2,?_⟩;have z1:(zS1 c1 s.heap l1).objs.size=s.heap.objs.size+1:=Heap.size_push ..
 have z2:(zS2 c1 c2 s.heap l1 l2).objs.size=s.heap.objs.size+2:=by rw [Heap.size_push,z1]
 have z3:(zS3 c1 c2 s.heap l1 l2).objs.size=s.heap.objs.size+3:=by rw [Heap.size_push,z2]
 have z4:(zS4 c1 c2 s.heap l1 l2).objs.size=s.heap.objs.size+4:=by rw [Heap.size_push,z3]
 have p:∀ {h:Heap} {c:Addr} {o o':Obj},h.get? c=some o->(h.push o').get? c=some o:=fun e=>Heap.get?_push_of_some _ e;have g5:(zS5 c1 c2 s.heap l1 l2).get? (zS4 c1 c2 s.heap l1 l2).objs.size=some _:=Heap.get?_push_size _ rfl;have g4:(zS5 c1 c2 s.heap l1 l2).get? (zS3 c1 c2 s.heap l1 l2).objs.size=some _:=p (Heap.get?_push_size _ rfl);have g3:(zS5 c1 c2 s.heap l1 l2).get? (zS2 c1 c2 s.heap l1 l2).objs.size=some _:=p (p (Heap.get?_push_size _ rfl));have g2:(zS5 c1 c2 s.heap l1 l2).get? (zS1 c1 s.heap l1).objs.size=some _:=p (p (p (Heap.get?_push_size _ rfl)));have g1:(zS5 c1 c2 s.heap l1 l2).get? s.heap.objs.size=some _:=p (p (p (p (Heap.get?_push_size _ rfl))));show _/\_;rw [z2,z3,z4] at g5;rw [z1,z2] at g3;rw [z3] at g4;rw [z1] at g2;rw [z4];exact ⟨⟨_,g5,rfl⟩,h _ g5 g3 g4 g1 g2 fun c o x=>p (p (p (p (p x))))⟩
end
def SqS (K:PySem.W.Frag) (H:Hp) (t:Bool) (a:Addr) (xs:List V):Prop:=match t with | true=>SqT K H a xs | false=>SqL K H a xs
def oS (t:Bool) (h:Heap) (a:Addr) (xs:Array Value):Prop:=match t with | true=>h.IsTuple a xs | false=>h.IsList a xs
def iS (t:Bool) (h:Heap) (i a:Addr) (k:Nat):Prop:=match t with | true=>h.IsTupleIter i a k | false=>h.IsListIter i a k
def cS (t:Bool):String:=match t with | true=>"tuple_iterator" | false=>"list_iterator"
section
variable {X:Cx} {pins:List (Addr×Obj)} {σ:St} {H:Hp} {s:Shared}
theorem Inv.seqS {t:Bool} {a:Addr} {xs:List V} (I:Inv X pins σ H s) (h:SqS X.K H t a xs):∃ its:List Value,Vals xs its/\oS t s.heap a its.toArray/\a<s.heap.objs.size:=by
 cases t with
 | false =>
  obtain ⟨its,r,p,_⟩:=I.list h;exact ⟨its,r,p.isList,by obtain ⟨_,e,_⟩:=p.isList;exact Heap.lt_size e⟩
 | true =>
  obtain ⟨its,r,p,_⟩:=I.tuple h;exact ⟨its,r,p,by obtain ⟨_,e,_⟩:=p;exact Heap.lt_size e⟩
theorem Inv.seqS_inj {t:Bool} {a:Addr} {xs ys:List V} (I:Inv X pins σ H s) (h:SqS X.K H t a xs) (h':SqS X.K H t a ys):xs=ys:=by
 cases t with
 | false=>exact I.list_inj h h'
 | true=>exact I.tuple_inj h h'
end
theorem iS.obj {t:Bool} {h:Heap} {i a:Addr} {k:Nat} (e:iS t h i a k):∃ o,h.get? i=some o/\∀ v,o.data≠.cell v:=by
 cases t <;> (obtain ⟨o,e,_,d⟩:=e;exact ⟨o,e,fun v z=>by rw [d] at z;cases z⟩)
theorem iS.to {t:Bool} {h h':Heap} {i a:Addr} {k:Nat} (e:iS t h i a k) (kk:∀ o,h.get? i=some o->h'.get? i=some o):iS t h' i a k:=by
 cases t <;> (obtain ⟨o,e,r⟩:=e;exact ⟨o,kk o e,r⟩)
theorem drS {prog:Program} {w:World} {A:Around} (hh:A.handled=none) (t:Bool) (it l:Addr) (hne:l≠it) (items:Array Value):Draws prog w A it [it,l] items.size (fun i v=>items[i]?=some v) (fun i h=>iS t h it l i/\oS t h l items):=by
 cases t with
 | false=>exact Draws.list hh it l hne items
 | true=>exact dr_tup hh it l hne items
def ItzS (K:PySem.W.Frag) (t1 t2:Bool) (a b:Addr):It :=
 ⟨fun i H=>∃ xs ys x y,SqS K H t1 a xs/\SqS K H t2 b ys/\xs[i]?=some x/\ys[i]?=some y,
  fun i H v H'=>∃ p x y,H p=none/\(∀ xs,SqS K H t1 a xs->xs[i]?=some x)/\(∀ ys,SqS K H t2 b ys->ys[i]?=some y)/\v=.ref p/\H'=upd H p (.tup [x,y]),
  fun i H=>∃ xs ys,SqS K H t1 a xs/\SqS K H t2 b ys/\i=min xs.length ys.length⟩
theorem xAns {P:Program} {w:World} {K:PySem.W.Frag} {es:List Expr} {k:Nat} {tp:Pos} (t1 t2:Bool) (z TI TO i1 i2 a b:Addr) (n1:a≠i1) (n2:b≠i2) (Z:Zap z TI TO i1 i2 [i1,a] [i2,b]) :
  Turn P w K (.Tuple es k tp) (ItzS K t1 t2 a b) [z,TI,TO,i1,i2] z (fun i h=>IsZip h z TI TO .none/\IsPair h TI (.ref i1) (.ref i2)/\(∃ u v,IsPair h TO u v)/\iS t1 h i1 a i/\iS t2 h i2 b i) where
 mem:=by simp
 obj:=fun i h st c hc=>by
  obtain ⟨h1,h2,⟨u,v,h3⟩,h4,h5⟩:=st
  simp only [List.mem_cons,List.not_mem_nil,or_false] at hc
  rcases hc with rfl | rfl | rfl | rfl | rfl
  ·exact ⟨_,h1,fun v z=>by cases z⟩
  ·exact ⟨_,h2,fun v z=>by cases z⟩
  ·exact ⟨_,h3,fun v z=>by cases z⟩
  ·exact h4.obj
  ·exact h5.obj
 keep:=fun i h h' st kk=>by
  obtain ⟨h1,h2,⟨u,v,h3⟩,h4,h5⟩:=st;exact ⟨kk z (by simp) _ h1,kk TI (by simp) _ h2,⟨u,v,kk TO (by simp) _ h3⟩,h4.to fun o q=>kk i1 (by simp) o q,h5.to fun o q=>kk i2 (by simp) o q⟩
 item:=by
  intro X hP hw hK hc i pins s σ H E I hf st hg;subst hP hw hK;obtain ⟨xs,ys,x,y,hq1,hq2,hx,hy⟩:=hg;obtain ⟨its1,r1,p1,z1⟩:=I.seqS hq1;obtain ⟨its2,r2,p2,z2⟩:=I.seqS hq2;obtain ⟨u1,hu1,ru1⟩:=r1.get hx;obtain ⟨u2,hu2,ru2⟩:=r2.get hy;obtain ⟨h1,h2,⟨u,v,h3⟩,h4,h5⟩:=st;have hd:=I.ok.hd hc;have D1:=drS (prog:=X.prog) (w:=X.w) (A:=X.A.in1) hd t1 i1 a n1 its1.toArray;have D2:=drS (prog:=X.prog) (w:=X.w) (A:=X.A.in1) hd t2 i2 b n2 its2.toArray
  have l1:i<its1.toArray.size:=by have:=(List.getElem?_eq_some_iff.mp hu1).1;simpa using this
  have l2:i<its2.toArray.size:=by have:=(List.getElem?_eq_some_iff.mp hu2).1;simpa using this
  refine xAnn D1 D2 Z h1 h2 h3 l1 l2 ⟨h4,p1⟩ ⟨h5,p2⟩ fun x' y' h' tk q1 q2 a1 a2 a3 a4 a5 a7=>?_
  have e1:x'=u1:=by
   have q1:its1.toArray[i]?=some x':=q1;rw [je,hu1] at q1;exact (Option.some.inj q1).symm
  have e2:y'=u2:=by
   have q2:its2.toArray[i]?=some y':=q2;rw [je,hu2] at q2;exact (Option.some.inj q2).symm
  subst e1 e2;refine ⟨_,rfl,wpAny_letOwnedTupleGo_zip (s:={ s with heap:=h',toks:=tk }) a1 fun h'' b1 bs=>?_⟩
  have I1:Inv X pins σ H { s with heap:=h'',toks:=tk }:=I.turnedN (t':=tk) hf fun c o hc q=>bs.extBut c o (fun e=>hc (by simp [e])) (a7 c o (fun e=>hc (by simp [e])) (fun e=>hc (by simp [e])) (fun e=>hc (by simp [e])) (fun e=>hc (by simp [e])) q)
  have zlt:z<s.heap.objs.size:=Heap.lt_size h1;have eT:h''.get? s.heap.objs.size=some { cls:=.type "tuple",data:=.seq #[x',y'] }:=bs.extBut _ _ (za zlt) a5;have nT:H s.heap.objs.size=none:=I.hok.fresh (qh _);have u4:∀ o,h'.get? i1=some o->h''.get? i1=some o:=fun o q=>bs.extBut _ _ Z.a1 q;have u5:∀ o,h'.get? i2=some o->h''.get? i2=some o:=fun o q=>bs.extBut _ _ Z.a2 q;refine ⟨.ref s.heap.objs.size,upd H s.heap.objs.size (.tup [x,y]),I.track I1 (qh _) nT ⟨?_,[x',y'],.cons ru1 (.cons ru2 .nil),⟨_,eT,rfl,_,rfl⟩⟩,rfl,⟨_,x,y,nT,fun l hl=>by rw [I.seqS_inj hl hq1];exact hx,fun l hl=>by rw [I.seqS_inj hl hq2];exact hy,rfl,rfl⟩,⟨b1,?_,⟨x',y',bs.extBut _ _ Z.o1 a2⟩,a3.1.to u4,a4.1.to u5⟩,fun c hc=>?_⟩
  ·show 2≤sizeLine
   decide
  ·exact bs.extBut _ _ Z.t1 (a7 _ _ Z.t1 Z.t2 Z.t3 Z.t4 h2)
  ·obtain ⟨o,q⟩:∃ o,s.heap.get? c=some o:=by
    simp only [List.mem_cons,List.not_mem_nil,or_false] at hc
    rcases hc with rfl | rfl | rfl | rfl | rfl
    ·exact ⟨_,h1⟩
    ·exact ⟨_,h2⟩
    ·exact ⟨_,h3⟩
    ·obtain ⟨o,q,_⟩:=h4.obj;exact ⟨o,q⟩
    ·obtain ⟨o,q,_⟩:=h5.obj;exact ⟨o,q⟩
   rw [xAah (qj (Heap.lt_size q))];exact (hf c hc).1
 done:=by
  intro X hP hw hK hc i pins s σ H E I hf st hg;subst hP hw hK;obtain ⟨xs,ys,hq1,hq2,hl⟩:=hg;obtain ⟨its1,r1,p1,z1⟩:=I.seqS hq1;obtain ⟨its2,r2,p2,z2⟩:=I.seqS hq2;obtain ⟨h1,h2,⟨u,v,h3⟩,h4,h5⟩:=st;have hd:=I.ok.hd hc;have D1:=drS (prog:=X.prog) (w:=X.w) (A:=X.A.in1) hd t1 i1 a n1 its1.toArray;have D2:=drS (prog:=X.prog) (w:=X.w) (A:=X.A.in1) hd t2 i2 b n2 its2.toArray;have e1:=r1.length;have e2:=r2.length
  refine xAno (k1:=i) (k2:=i) D1 D2 Z h1 h2 h3 ?_ ⟨h4,p1⟩ ⟨h5,p2⟩ fun h' tk kk=>⟨rfl,I.turnedN (t':=tk) hf fun c o hc q=>kk c o (fun e=>hc (by simp [e])) (fun e=>hc (by simp [e])) (fun e=>hc (by simp [e])) (fun e=>hc (by simp [e])) q⟩
  rw [zc,zc];omega
 self:=fun _ _ _ _ _ st h=>wpAny_pyIter_zip st.1 h
theorem xAuo {n a b:Addr} (h1:a<n) (h2:b<n):Zap (n+4) (n+2) (n+3) n (n+1) [n,a] [n+1,b]:=by
 have x1:a<n:=h1;have x2:b<n:=h2;refine ⟨?_,?_,?_,?_,?_,?_,?_,?_,?_,?_,fun c hc=>?_,fun c hc=>?_⟩
 case refine_11 =>
  simp only [List.mem_cons,List.not_mem_nil,or_false] at hc
  rcases hc with rfl | rfl
  ·exact ⟨qj (wm (by decide)),qj (wm (by decide)),qj (wm (by decide))⟩
  ·exact ⟨qj (yc _ x1),qj (yc _ x1),qj (yc _ x1)⟩
 case refine_12 =>
  simp only [List.mem_cons,List.not_mem_nil,or_false] at hc
  rcases hc with rfl | rfl
  ·exact ⟨qj (wn (by decide) n),qj (wn (by decide) n),za (wm (by decide))⟩
  ·exact ⟨qj (yc _ x2),qj (yc _ x2),qj x2⟩
 ·exact qj (wn (by decide) n)
 ·exact qj (wn (by decide) n)
 ·exact za (wm (by decide))
 ·exact za (wn (by decide) n)
 ·exact qj (wn (by decide) n)
 ·exact za (wm (by decide))
 ·exact za (wn (by decide) n)
 ·exact qj (wm (by decide))
 ·exact qj (wn (by decide) n)
 ·exact qj (wm (by decide))
section
variable {X:Cx}
def iZipS (K:PySem.W.Frag) (t1 t2:Bool) (ta:TA):TI:=fun σ H R=>ta σ H fun vs H1=>∃ a b,vs=[.ref a,.ref b]/\(∃ xs,SqS K H1 t1 a xs)/\(∃ ys,SqS K H1 t2 b ys)/\R (ItzS K t1 t2 a b) H1
theorem xApj {t1 t2:Bool} {es:List Expr} {k:Nat} {tp:Pos} {a b:Expr} {ta:TA} {p pos:Pos} (M:∀ l1 l2 xs ys,Meets (Builtin.«zip.__new__» ⟨[.type "zip",.ref l1,.ref l2],[]⟩) (fun _ R s=>oS t1 s.heap l1 xs/\oS t2 s.heap l2 ys/\R (.ok (.ret (.ref (zS4 (cS t1) (cS t2) s.heap l1 l2).objs.size))) { s with heap:=zS5 (cS t1) (cS t2) s.heap l1 l2 }))
  (hg:Gl X "zip") (hm:X.mg "zip"=none) (ha:PA X [a,b] ta) (hs:starEach [a,b] X.env=(false,eval a X.env)::starEach [b] X.env:=by rfl)
  (hpl:(backTo pos (starEach [b] X.env)).any (·.1)=false:=by rfl):PI X (.Tuple es k tp) (.Call (.Name "zip" p) [a,b] [] pos) (iZipS X.K t1 t2 ta):=by
 intro pins s σ H R I h;refine Call_ (xAdr I hg hm boot_zip (PyProof.Rows.callWith_type1 (thn (ha pos pins s σ H _ I h) fun us s1 ⟨vs,H1,I1,r1,q1⟩=>?_) hs hpl));obtain ⟨l1,l2,e,⟨xs,hq1⟩,⟨ys,hq2⟩,q⟩:=q1;subst e;obtain ⟨u1,u2,rfl,ru1,ru2⟩:=r1.two;cases ru1;cases ru2;obtain ⟨its1,rv1,p1,lt1⟩:=I1.seqS hq1;obtain ⟨its2,rv2,p2,lt2⟩:=I1.seqS hq2;refine xAnr (c1:=cS t1) (c2:=cS t2) (R1:=fun h=>oS t1 h l1 its1.toArray) (R2:=fun h=>oS t2 h l2 its2.toArray) (M l1 l2 its1.toArray its2.toArray) p1 p2 fun h' a1 a2 a3 a4 a5 a7=>wpAny_pyIter_zip a1 ?_;have I2:Inv X pins σ H1 { s1 with heap:=h' }:=I1.kept (t':=s1.toks) a7
 have j:∀ (t:Bool) (c l:Addr),h'.get? c=some (itO (cS t) l)->iS t h' c l 0:=fun t c l e=>by cases t <;> exact ⟨_,e,rfl,rfl⟩
 refine ⟨_,[s1.heap.objs.size+4,s1.heap.objs.size+2,s1.heap.objs.size+3,s1.heap.objs.size,s1.heap.objs.size+1],_,_,H1,rfl,I2,xAns t1 t2 _ _ _ _ _ l1 l2 (qj lt1) (qj (zm lt2)) (xAuo lt1 lt2),⟨a1,a2,⟨_,_,a3⟩,j t1 _ _ a4,j t2 _ _ a5⟩,fun c hc=>?_,q⟩
 have hc':s1.heap.objs.size≤c:=by
  simp only [List.mem_cons,List.not_mem_nil,or_false] at hc
  rcases hc with rfl | rfl | rfl | rfl | rfl
  ·exact vf _ _
  ·exact vf _ _
  ·exact vf _ _
  ·exact qh _
  ·exact vf _ _
 exact I1.fpOk hc' (I1.hok.fresh hc')
theorem xArc {es:List Expr} {k:Nat} {tp:Pos} {a b:Expr} {ta:TA} {p pos:Pos} (hg:Gl X "zip") (hm:X.mg "zip"=none) (ha:PA X [a,b] ta) (hs:starEach [a,b] X.env=(false,eval a X.env)::starEach [b] X.env:=by rfl)
  (hpl:(backTo pos (starEach [b] X.env)).any (·.1)=false:=by rfl):PI X (.Tuple es k tp) (.Call (.Name "zip" p) [a,b] [] pos) (iZipS X.K false true ta):=xApj (t1:=false) (t2:=true) xAnp hg hm ha hs hpl
theorem xArd {es:List Expr} {k:Nat} {tp:Pos} {a b:Expr} {ta:TA} {p pos:Pos} (hg:Gl X "zip") (hm:X.mg "zip"=none) (ha:PA X [a,b] ta) (hs:starEach [a,b] X.env=(false,eval a X.env)::starEach [b] X.env:=by rfl)
  (hpl:(backTo pos (starEach [b] X.env)).any (·.1)=false:=by rfl):PI X (.Tuple es k tp) (.Call (.Name "zip" p) [a,b] [] pos) (iZipS X.K true true ta):=xApj (t1:=true) (t2:=true) xAnq hg hm ha hs hpl
end
theorem xApk {K:PySem.W.Frag} {t1 t2:Bool} {a b:Addr} {xs ys:List V} {own:List Str} {fr:List (Str×Nat)} {g:TG} {tt:TT} {te:TE} {σ:St} {H:Hp} {Q:VK} (Pv:Nat->List V->Hp->Prop) (h0:Pv 0 [] H) (hl:∀ i zs H,Pv i zs H->SqS K H t1 a xs/\SqS K H t2 b ys) (hz:xs.length≤sizeLine)
  (hs:∀ i x y zs H' p (K1:V->Hp->Prop) (K0:Hp->Prop),xs[i]?=some x->ys[i]?=some y->Pv i zs H'->H' p=none->(∀ v H4,Pv (i+1) (zs++[v]) H4->K1 v H4)->(∀ H3,Pv (i+1) zs H3->K0 H3) →
   g (.ref p) (compSt own fr σ) (upd H' p (.tup [x,y])) fun σ2 H2=>tt σ2 H2 fun b H3=>if b=true then te σ2 H3 K1 else K0 H3)
  (hd:∀ H' p zs,Pv (min xs.length ys.length) zs H'->zs.length≤xs.length->H' p=none->Q (.ref p) (upd H' p (.lst zs))):LCb own fr g tt te σ Q (ItzS K t1 t2 a b) H:=by
 refine ⟨fun i m zs H=>m=min xs.length ys.length - i/\i≤min xs.length ys.length/\zs.length≤i/\Pv i zs H,⟨min xs.length ys.length,rfl,qu _,qu _,h0⟩,?_⟩;rintro i m zs H ⟨rfl,hi,hy,p⟩;obtain ⟨q1,q2⟩:=hl _ _ H p
 by_cases hlt:i<min xs.length ys.length
 ·have h1:i<xs.length:=by omega
  have h2:i<ys.length:=by omega
  refine .inr ⟨⟨xs,ys,xs[i],ys[i],q1,q2,qi h1,qi h2⟩,by omega,fun v H' y=>?_⟩;obtain ⟨r,x,z,hn,e1,e2,rfl,rfl⟩:=y
  refine hs i x z zs H r _ _ (e1 xs q1) (e2 ys q2) p hn (fun v H4 p4=>⟨min xs.length ys.length - (i+1),by omega,rfl,hlt,?_,p4⟩) fun H3 p3=>⟨min xs.length ys.length - (i+1),by omega,rfl,hlt,by omega,p3⟩
  rw [qv,zk];omega
 ·have e:i=min xs.length ys.length:=by omega
  exact .inl ⟨⟨xs,ys,q1,q2,e⟩,fun q hq=>hd H q zs (by rw [← e];exact p) (by omega) hq⟩
section
variable {prog:Program} {w:World} {A:Around} {E:Value->Shared->Prop}
abbrev lsO (xs:Array Value) (c:Nat):Obj:={ cls:=.type "list",dict:=none,data:=.seq xs c,slots:=#[] }
theorem xAnt {I S:Addr} {fp wr:List Addr} {n:Nat} {P:Nat->Value->Prop} {St:Nat->Heap->Prop} {R:Result->Shared->Prop} (W:Walks prog w A.in1 I fp wr n P St) (bt:Nat->Nat->Bool) (hcmp:CmpOf prog w A.in1 .Gt P bt) (hSf:S∉fp) (d:Value) :
  ∀ (k i:Nat) (s:Shared) (bs:Array Value) (c:Nat),n - i=k->i≤n->St i s.heap->s.heap.get? S=some (lsO bs c)->((i=0/\bs=#[])\/∃ j v,i=j+1/\bs=#[v,v]/\P (argBest bt j) v) →
   (∀ v h' tk,(n=0/\v=d)\/(0<n/\P (argBest bt (n - 1)) v)->(∀ b o,b∉S::wr->s.heap.get? b=some o->h'.get? b=some o)->R (.ok (.ret v)) { s with heap:=h',toks:=tk }) →
   codeAny (model prog w) A (.builtin "max.loop" ⟨[.ref I,.none,.ref S],[(Str.ofString "default",d)]⟩) R s:=by
 have hSw:S∉wr:=fun h=>hSf (W.sub _ h)
 have hname:(toString "max"++toString ".loop":String) = "max.loop":=by decide
 have ns:∀ {b:Addr},b∉S::wr->S≠b:=fun hb h=>hb (by rw [h];exact qr)
 have nw:∀ {b:Addr},b∉S::wr->b∉wr:=fun hb h=>hb (qw _ h);intro k
 induction k with
 | zero =>
  intro i s bs c hk hi hst hS hb hR
  have hin:i=n:=by omega
  refine codeAny_builtin F.entry_max_loop ?_;rw [Around.under_plainId F.plain_max_loop _];show wpAny _ A.in1 (seqItems? (.ref S) >>= _) _ _ s;refine wpAny_bind (wpAny_seqItems hS rfl ?_);show wpAny _ A.in1 (tryCatch (pyNext (.ref I)) _ >>= _) _ _ s;refine wpAny_bind (wpAny_tryCatch (W.done s _ _ (hin▸hst) fun h' tk hm=>?_));rcases hb with ⟨h0,rfl⟩ | ⟨j,v,hj,rfl,hP⟩
  ·show wpAny _ A.in1 (rule _ >>= _) _ _ _
   refine wpAny_bind (wpAny_rule (wpAny_pure ?_));exact hR d h' tk (.inl ⟨by omega,rfl⟩) fun b o hb e=>hm b o (nw hb) e
  ·have hS':=hm S _ hSw hS
   show wpAny _ A.in1 (updateSeq S (fun _=>#[]) >>= _) _ _ _;refine wpAny_bind (wpAny_updateSeq (s:={ s with heap:=h',toks:=tk }) hS' rfl (wpAny_bind (wpAny_letGo (wpAny_pure ?_))));exact hR v _ tk (.inr ⟨by omega,by rw [← hin,hj];exact hP⟩) fun b o hb e=>(Heap.get?_update_other _ _ (ns hb)).trans (hm b o (nw hb) e)
 | succ k ih =>
  intro i s bs c hk hi hst hS hb hR
  have hlt:i<n:=by omega
  refine codeAny_builtin F.entry_max_loop ?_;rw [Around.under_plainId F.plain_max_loop _];show wpAny _ A.in1 (seqItems? (.ref S) >>= _) _ _ s;refine wpAny_bind (wpAny_seqItems hS rfl ?_);show wpAny _ A.in1 (tryCatch (pyNext (.ref I)) _ >>= _) _ _ s;refine wpAny_bind (wpAny_tryCatch (W.item i s _ _ hlt hst fun v h' tk hP hst' hm=>?_));have hS':=hm S _ hSw hS;rcases hb with ⟨h0,rfl⟩ | ⟨j,vb,hj,rfl,hPb⟩
  ·show wpAny _ A.in1 (updateSeq S (fun _=>#[v,v]) >>= _) _ _ _
   refine wpAny_bind (wpAny_updateSeq (s:={ s with heap:=h',toks:=tk }) hS' rfl ?_);rw [hname];refine wpAny_pure ⟨plainId_quiet F.plain_max_loop _,ih (i+1) _ #[v,v] _ (by omega) (by omega) (W.frame _ _ _ hst' fun b hbf o e=>?_) (Heap.get?_update_self _ hS' rfl) (.inr ⟨0,v,by omega,rfl,by rw [h0] at hP;exact hP⟩) fun v' h2 tk2 hv hm2=>?_⟩
   ·exact (Heap.get?_update_other _ _ (fun h:S=b=>hSf (by rw [h];exact hbf))).trans e
   ·exact hR v' h2 tk2 hv fun b o hb e=>hm2 b o hb ((Heap.get?_update_other _ _ (ns hb)).trans (hm b o (nw hb) e))
  ·show wpAny _ A.in1 (tryCatch (holding [v,v] (richCompare .Gt v vb >>= _)) _ >>= _) _ _ _
   refine wpAny_bind (wpAny_tryCatch (wpAny_holding (wpAny_bind (hcmp i (argBest bt j) v vb _ _ _ hP hPb ?_))));refine wpAny_bind (wpAny_holding (wpAny_truthy_bool (wpAny_bind (wpAny_letGo (wpAny_pure ?_)))))
   cases hb:bt i (argBest bt j) with
   | true =>
    simp only [if_true]
    refine wpAny_bind (wpAny_updateSeq (s:={ s with heap:=h',toks:=tk }) hS' rfl (wpAny_bind (wpAny_letGo ?_)));rw [hname];refine wpAny_pure ⟨plainId_quiet F.plain_max_loop _,ih (i+1) _ #[v,v] _ (by omega) (by omega) (W.frame _ _ _ hst' fun b hbf o e=>?_) (Heap.get?_update_self _ hS' rfl) (.inr ⟨i,v,rfl,rfl,?_⟩) fun v' h2 tk2 hv hm2=>?_⟩
    ·exact (Heap.get?_update_other _ _ (fun h:S=b=>hSf (by rw [h];exact hbf))).trans e
    ·subst hj
     simp only [argBest,hb,if_true]
     exact hP
    ·exact hR v' h2 tk2 hv fun b o hb e=>hm2 b o hb ((Heap.get?_update_other _ _ (ns hb)).trans (hm b o (nw hb) e))
   | false =>
    simp only [Bool.false_eq_true,if_false]
    refine wpAny_bind (wpAny_letGo ?_);rw [hname];refine wpAny_pure ⟨plainId_quiet F.plain_max_loop _,ih (i+1) { s with heap:=h',toks:=tk } #[vb,vb] c (by omega) (by omega) hst' hS' (.inr ⟨i,vb,rfl,rfl,?_⟩) fun v' h2 tk2 hv hm2=>?_⟩
    ·subst hj
     simp only [argBest,hb,Bool.false_eq_true,if_false]
     exact hPb
    ·exact hR v' h2 tk2 hv fun b o hb e=>hm2 b o hb (hm b o (nw hb) e)
end
theorem xAlc (a v:Value):argsOk "max" ⟨[a],[(Str.ofString "default",v)]⟩:=by unfold argsOk;kernel_rfl
theorem xAld {prog:Program} {w:World} {A:Around} {E:Value->Shared->Prop} {s:Shared} {id:String} {b:Builtin} {args:List Value} {kw:List (Str×Value)} {Q:Value->Shared->Prop} (hk:builtinKind id=none) (hp:plainId id=true) (hb:entryFor table id=some b) (ha:argsOk id ⟨args,kw⟩)
  (hc:wpAny (model prog w) A.in1 (b ⟨args,kw⟩) (fun fin s'=>match fin with
   | .done f=>(match (Except.ok f:Result) with | .ok (.ret v)=>Q v s' | .ok _=>False | .error e=>E e s')
   | .again c'=>c'.quiet=true/\codeAny (model prog w) A c' (fun r s'=>match r with | .ok (.ret v)=>Q v s' | .ok _=>False | .error e=>E e s') s') E s) :
  wpAny (model prog w) A (call (.builtin id) args kw) Q E s:=by
 refine wpAny_call (codeAny_call_builtin hp hb ?_)
 simp only [checkBuiltinCall,hk]
 cases hsig:Manifest.signature? id with
 | none=>exact wpAny_pure hc
 | some sig =>
  have ha':Bind.checkArgs id sig ⟨args,kw⟩=pure ():=by simpa only [argsOk,hsig] using ha
  simp only [ha']
  exact wpAny_pure hc
section
variable {X:Cx}
def tMaxD (K:PySem.W.Frag) (t:TA) (td:TE):TE:=fun σ H Q=>t σ H fun vs H1=>td σ H1 fun d H2=>∃ p ns,vs=[.ref p]/\SqL K H2 p (List.map V.int ns)/\(ns=[]->Q d H2)/\∀ m,m∈ns->(∀ k∈ns,k≤m)->Q (.int m) H2
theorem xAup {x:Str} {e de:Expr} {p kp pos:Pos} {t:TA} {td:TE} (hcm:X.calm=true) (hg:Gl X x) (hm:X.mg x=none) (hv:bootBuiltins x=some (.builtin "max")) (ha:PA X [e] t) (hd:PE X de td)
  (hn:x≠"__name__":=by decide) (hdb:(x==("__debug__":Str))=false:=by decide) (he:starEach [e] X.env=(false,eval e X.env)::starEach [] X.env:=by rfl) :
  PE X (.Call (.Name x p) [e] [⟨some "default",de,kp⟩] pos) (tMaxD X.K t td):=by
 intro pins s σ H Q I h;refine wpAny_Call_Name_kw (xAdr I hg hm hv ?_ hn hdb);refine callWith_kw (thn (ha pos pins s σ H _ I h) fun us s1 ⟨vs,H1,I1,r1,q1⟩=>kws_cons (thn (hd pins s1 σ H1 _ I1 q1) fun dv s2 ⟨d,H2,I2,rd,q2⟩=>kws_nil ?_)) (by rw [he];rfl) (by rw [he];rfl);obtain ⟨l,ns,rfl,hq,q0,q⟩:=q2;obtain ⟨u,rfl,ru⟩:=vals1 r1;cases ru;obtain ⟨its,rv,pl,hz⟩:=I2.list hq;obtain ⟨ps,e1,e2⟩:=xAjv rv
 have hsz:ps.length=ns.length:=by rw [← e2,qg]
 have hI:s2.heap.IsList l (intItems ps.toArray):=by
  have:intItems ps.toArray=its.toArray:=by unfold intItems;rw [e1];simp
  rw [this];exact pl.isList
 have hlt:l<s2.heap.objs.size:=by obtain ⟨_,e,_⟩:=hI;exact Heap.lt_size e
 have hname:(toString "max"++toString ".loop":String) = "max.loop":=by decide
 refine xAld F.kind_max F.plain_max F.entry_max (xAlc _ _) ?_;show wpAny _ X.A.in1 (Builtin.Builtins.bindParams "max" ["key","default"] 0 ⟨[],[(Str.ofString "default",dv)]⟩ >>= _) _ _ s2;refine wpAny_bind (wpAny_of_eq (show Builtin.Builtins.bindParams "max" ["key","default"] 0 ⟨[],[(Str.ofString "default",dv)]⟩=pure [none,some dv] from rfl) ?_);refine wpAny_bind (wpAny_pure ?_);refine wpAny_bind (wpAny_pyIter_list hI (wpAny_bind (wpAny_newObj_type ?_)));rw [hname];have hz':(s2.heap.push (itO "list_iterator" l)).objs.size=s2.heap.objs.size+1:=Heap.size_push ..;have x2:∀ b o,s2.heap.get? b=some o->((s2.heap.push (itO "list_iterator" l)).push (lsO #[] 0)).get? b=some o:=fun b o e=>Heap.get?_push_of_some _ (Heap.get?_push_of_some _ e);have gI:((s2.heap.push (itO "list_iterator" l)).push (lsO #[] 0)).IsListIter s2.heap.objs.size l 0:=⟨_,Heap.get?_push_of_some _ (Heap.get?_push_size _ rfl),rfl,rfl⟩;have gS:((s2.heap.push (itO "list_iterator" l)).push (lsO #[] 0)).get? (s2.heap.push (itO "list_iterator" l)).objs.size=some (lsO #[] 0):=Heap.get?_push_size _ rfl;refine wpAny_pure ⟨plainId_quiet F.plain_max_loop _,?_⟩;show codeAny _ X.A (.builtin "max.loop" ⟨[.ref s2.heap.objs.size,.none,.ref (s2.heap.push (itO "list_iterator" l)).objs.size],[(Str.ofString "default",dv)]⟩) _ { s2 with heap:=(s2.heap.push (itO "list_iterator" l)).push (lsO #[] 0) };rw [hz'] at gS ⊢;generalize (s2.heap.push (itO "list_iterator" l)).push (lsO #[] 0)=h2 at x2 gI gS ⊢;have hd:=I2.ok.hd hcm;have Wk:=Walks.list (prog:=X.prog) (w:=X.w) (A:=X.A.in1) hd s2.heap.objs.size l (qj hlt) (intItems ps.toArray)
 have en:∀ j,numAt ps.toArray j=ns.getD j 0:=fun j=>by rw [numAt_eq];simp only [List.toList_toArray];rw [e2]
 have sz:(intItems ps.toArray).size=ns.length:=by rw [← hsz];simp [intItems]
 refine xAnt Wk (fun i j=>decide (numAt ps.toArray i>numAt ps.toArray j)) (CmpOf.ints_gt (numAt ps.toArray) (fun _ _=>intItems_at)) (S:=s2.heap.objs.size+1) (fun z=>?_) dv _ 0 { s2 with heap:=h2 } #[] 0 rfl (qu _) ⟨gI,hI.at fun o e=>x2 l o e⟩ gS (.inl ⟨rfl,rfl⟩) fun v h' tk hv hm2=>?_
 ·simp only [List.mem_cons,List.not_mem_nil,or_false] at z
  rcases z with z | z
  ·exact absurd z (za (zy _))
  ·exact absurd z (za (zm hlt))
 have kk:∀ b o,s2.heap.get? b=some o->h'.get? b=some o:=fun b o e=>hm2 b o (fun z=>by
  have hb:=Heap.lt_size e
  simp only [List.mem_cons,List.not_mem_nil,or_false] at z
  rcases z with z | z
  ·exact absurd z (qj (zm hb))
  ·exact absurd z (qj hb)) (x2 b o e)
 rcases hv with ⟨h0,rfl⟩ | ⟨h0,hP⟩
 ·exact ⟨d,H2,I2.kept kk,rd,q0 (j3.mp (by omega))⟩
 ·obtain ⟨tk',rfl⟩:=intItems_at hP
  obtain ⟨g1,g2⟩:=argBest_gt (numAt ps.toArray) ((intItems ps.toArray).size - 1)
  have hlt2:argBest (fun i j=>decide (numAt ps.toArray i>numAt ps.toArray j)) ((intItems ps.toArray).size - 1)<ns.length:=by omega
  refine ⟨.int _,H2,I2.kept kk,⟨tk',rfl⟩,q _ ?_ fun k' hk'=>?_⟩
  ·rw [en,qq,qi hlt2]
   exact wf hlt2
  ·obtain ⟨j,hj,rfl⟩:=zu.mp hk'
   have:=g2 j (by omega);rw [en j,qq,qi hj] at this;exact this
end
section
variable {X:Cx} {pins:List (Addr×Obj)} {σ:St} {H:Hp} {s:Shared}
theorem xAle {a:Addr} {o:Obj} {es:Array DictEntry} {ep:Nat} {kvs:List (KD×V×V)} (hd:o.data=.dict es ep) (I:Inv X pins σ H s) (e:H a=some (.frz o (.dG kvs))):s.heap.get? a=some o/\es.size=kvs.length/\∀ i (hi:i<es.size) (hk:i<kvs.length),RelV kvs[i].2.2 es[i].val:=by
 obtain ⟨ho,_,_,xs,pr,o',es',ep',ho',_,hd',he,_⟩:s.heap.get? a=some o/\ObjOk X.prog X.w H s.heap a (.dG kvs):=I.hok a _ e;rw [ho] at ho';cases ho';rw [hd] at hd';injection hd' with hd' _;subst hd'
 have hl:es.toList.length=kvs.length:=by rw [he,qg,pr.length]
 refine ⟨ho,by simpa using hl,fun i hi hk=>?_⟩
 have hx:i<xs.length:=by rw [← pr.length];exact hk
 have ek:es[i].val=xs[i].2.2:=by
  have h1:es.toList[i]?=some es[i]:=by simp [hi]
  rw [he,ql,qi hx] at h1;rw [← Option.some.inj h1];rfl
 rw [ek];exact (xAes pr i hk hx).2.2.2
end
def ItVl (a:Addr) (o:Obj) (kvs:List (KD×V×V)):It :=
 ⟨fun i H=>H a=some (.frz o (.dG kvs))/\i<kvs.length,fun i H x H'=>H'=H/\∃ e,kvs[i]?=some e/\x=e.2.2,fun i H=>H a=some (.frz o (.dG kvs))/\kvs.length≤i⟩
theorem xAlf {P:Program} {w:World} {K:PySem.W.Frag} {tg:Expr} (a it:Addr) {o:Obj} {es:Array DictEntry} {ep:Nat} {kvs:List (KD×V×V)} (hd:o.data=.dict es ep):Turn P w K tg (ItVl a o kvs) [it] it (fun i h=>h.IsValIter it a i kvs.length ep) where
 mem:=by simp
 obj:=fun i h st b hb=>by
  have e:b=it:=by simpa using hb
  subst e;obtain ⟨o,e,c,d⟩:=st;exact ⟨o,e,fun v z=>by rw [d] at z;cases z⟩
 keep:=fun i h h' ⟨o,e,r⟩ k=>⟨o,k it (by simp) o e,r⟩
 item:=by
  intro X hP hw hK hc i pins s σ H E I hf st hg;subst hP hw hK;obtain ⟨he,hi⟩:=hg;obtain ⟨ho,hl,rel⟩:=xAle hd I he;obtain ⟨f0,f1,f2,f3,f4,f5⟩:=hf it (by simp)
  refine xAch (I.ok.hd hc) st ho hd hl (fun hi' h' st' sb=>?_) fun z=>absurd hi (by omega)
  have I1:Inv X pins σ H { s with heap:=h' }:=I.turned (t':=s.toks) (fun b o hb e=>(sb.2 b hb).trans e) f0 f1 f3 f4 f5;obtain ⟨ob,e,c,d⟩:=id st';exact ⟨es[i].val,rfl,go_of (s:={ s with heap:=h' }) e c d (by decide) ⟨kvs[i].2.2,H,I1,rel i hi' hi,⟨rfl,kvs[i],qi hi,rfl⟩,st',fun b hb=>(hf b hb).1⟩⟩
 done:=by
  intro X hP hw hK hc i pins s σ H E I hf st hg;subst hP hw hK;obtain ⟨he,hi⟩:=hg;obtain ⟨ho,hl,rel⟩:=xAle hd I he;obtain ⟨f0,f1,f2,f3,f4,f5⟩:=hf it (by simp);exact xAch (I.ok.hd hc) st ho hd hl (fun hi'=>absurd hi' (by omega)) fun _ h' eb=>⟨rfl,I.turned (t':=s.toks) (fun b o hb e=>eb b o hb e) f0 f1 f3 f4 f5⟩
 self:=fun A i s Q E st h=>by
  refine wpAny_pyIter_slot st.typeIs F.slot_dict_valueiterator_iter (wpAny_call_entry F.slot_dict_valueiterator_iter st.typeIs xAce ?_ (F.args_dict_valueiterator_iter_1 _));show wpAny _ _ (ret (.ref it)) _ _ s;exact wpAny_pure ⟨_,rfl,"dict_valueiterator",_,st.typeIs,F.slot_dict_valueiterator_next.lookup,h⟩
def iValsG (tl:TE):TI:=fun σ H R=>tl σ H fun x H1=>∃ a kvs,x=.ref a/\((H1 a=some (.dG kvs)/\∀ o,R (ItVl a o kvs) (upd H1 a (.frz o (.dG kvs))))\/∃ o,H1 a=some (.frz o (.dG kvs))/\R (ItVl a o kvs) H1)
section
variable {X:Cx}
theorem xAre {l tg:Expr} {tl:TE} {apos cpos:Pos} (hl:PE X l tl)
  (hbase:attributeBase l "values" X.env (eval l X.env)=eval l X.env:=by rfl) (hline:(apos.endLine==cpos.line)=true:=by rfl):PI X tg (.Call (.Attribute l "values" apos) [] [] cpos) (iValsG tl):=by
 intro pins s σ H R I h;refine wpAny_Call_method0_late hbase hline (thn (hl pins s σ H _ I h) fun v s1 ⟨x,H1,I1,r1,q1⟩=>?_);obtain ⟨a,kvs,e,q⟩:=q1;subst e;cases r1
 obtain ⟨H2,o,I2,e2,q2⟩:∃ (H2:Hp) (o:Obj),Inv X pins σ H2 s1/\H2 a=some (.frz o (.dG kvs))/\R (ItVl a o kvs) H2:=by
  rcases q with ⟨ea,q⟩ | ⟨o,ea,q⟩
  ·obtain ⟨_,_,xs,_,o,es,ep,ho,_⟩:=(show ObjOk X.prog X.w H1 s1.heap a (.dG kvs) from I1.hok a _ ea)
   exact ⟨_,o,I1.freezeG ea ho,xAae,q o⟩
  ·exact ⟨_,o,I1,ea,q⟩
 obtain ⟨ho,_,hsm,xs,_,o',es,ep,ho',hc,hd,_,_⟩:s1.heap.get? a=some o/\ObjOk X.prog X.w H2 s1.heap a (.dG kvs):=I2.hok a _ e2;rw [ho] at ho';cases ho';obtain ⟨_,hlen,_⟩:=xAle hd I2 e2;refine ⟨"dict","dict.values",PySem.F.plainAttrs_dict,PySem.F.slot_dict_values,PySem.F.type_dict_values,⟨o,ho,hc.1⟩,fun b z=>?_,Calls.callWith_builtin rfl (PySem.evalArgs_none (xAdn hsm ho hc ?_))⟩
 ·cases z
  exact ⟨o,ho,hc.2.1⟩
 have ho1:(s1.heap.push { cls:=.type "dict_values",data:=.fields #[.ref a] }).get? a=some o:=Heap.get?_push_of_some _ ho;refine xAcw (s:={ s1 with heap:=s1.heap.push { cls:=.type "dict_values",data:=.fields #[.ref a] } }) (v:=s1.heap.objs.size) ⟨_,Heap.get?_push_size _ rfl,rfl,rfl⟩ ho1 hd ?_;have I3:Inv X pins σ H2 { s1 with heap:=s1.heap.push { cls:=.type "dict_values",data:=.fields #[.ref a] } }:=I2.kept (t':=s1.toks) fun b o e=>Heap.get?_push_of_some _ e;refine ⟨(s1.heap.push { cls:=.type "dict_values",data:=.fields #[.ref a] }).objs.size,[(s1.heap.push { cls:=.type "dict_values",data:=.fields #[.ref a] }).objs.size],_,_,H2,rfl,I3.kept (t':=s1.toks) fun b o e=>Heap.get?_push_of_some _ e,xAlf a _ hd,⟨_,Heap.get?_push_size _ rfl,rfl,by rw [hlen];rfl⟩,fun b hb=>?_,q2⟩
 have e:b=(s1.heap.push { cls:=.type "dict_values",data:=.fields #[.ref a] }).objs.size:=by simpa using hb
 subst e;exact I3.fpOk (qh _) (I3.hok.fresh (qh _))
end
theorem xAnu {a:Addr} {o:Obj} {kvs:List (KD×V×V)} {g:TG} {tb:TS} {D:Ends} {σ:St} {H:Hp} (Pv:Nat->St->Hp->Prop) (h0:Pv 0 σ H) (hl:∀ i σ H,Pv i σ H->H a=some (.frz o (.dG kvs)))
  (hs:∀ i e σ H,kvs[i]?=some e->Pv i σ H->g e.2.2 σ H fun σ2 H2=>tb { D with nx:=Pv (i+1),ct:=Pv (i+1),bk:=D.nx } σ2 H2) (hd:∀ σ H,Pv kvs.length σ H->D.nx σ H) :
  ∃ W:Nat->Nat->St->Hp->Prop,(∃ m,W 0 m σ H)/\∀ i m σ H,W i m σ H →
   ((ItVl a o kvs).stop i H/\D.nx σ H)\/((ItVl a o kvs).go i H/\∃ N:St->Hp->Prop,(∀ σ' H',N σ' H'->∃ m',m'<m/\W (i+1) m' σ' H')/\∀ x H',(ItVl a o kvs).yld i H x H'->g x σ H' fun σ2 H2=>tb { D with nx:=N,ct:=N,bk:=D.nx } σ2 H2):=by
 refine ⟨fun i m σ H=>m=kvs.length - i/\i≤kvs.length/\Pv i σ H,⟨kvs.length,rfl,qu _,h0⟩,?_⟩;rintro i m σ H ⟨rfl,hi,p⟩
 by_cases hlt:i<kvs.length
 ·refine .inr ⟨⟨hl i σ H p,hlt⟩,Pv (i+1),fun σ' H' p'=>⟨kvs.length - (i+1),by omega,rfl,hlt,p'⟩,?_⟩
  rintro x H' ⟨rfl,e,he,rfl⟩;exact hs i e σ H' he p
 ·have e:i=kvs.length:=by omega
  exact .inl ⟨⟨hl i σ H p,by omega⟩,hd σ H (by rw [← e];exact p)⟩
section
variable {prog:Program} {w:World} {A:Around} {E:Value->Shared->Prop} {s:Shared}
theorem xAgg {d v:Addr} {od:Obj} {es:Array DictEntry} {ep:Nat} {Q:List Value->Shared->Prop} (hh:A.handled=none) (hv:s.heap.IsValuesView v d) (ho:s.heap.get? d=some od) (hdat:od.data=.dict es ep) (hz:es.size≤sizeLine)
  (hQ:∀ s',Moved [] Eq s s'->Q (es.toList.map (·.val)) s'):wpAny (model prog w) A (collect (.ref v)) Q E s:=by
 unfold collect;refine wpAny_bind (wpAny_runValue (codeAny_builtin F.entry_proto_collect ?_));rw [Around.under_plainId F.plain_proto_collect _];show wpAny _ A.in1 (newList [] >>= fun l=>again (.builtin "list.__iadd__" ⟨[l,.ref v],[]⟩)) _ _ s;refine wpAny_bind (wpAny_newObj_type ?_);refine wpAny_pure ⟨plainId_quiet F.plain_list_iadd _,codeAny_builtin F.entry_list_iadd ?_⟩;rw [Around.under_plainId F.plain_list_iadd _];have ho1:(s.heap.push { cls:=.type "list",data:=.seq ([]:List Value).toArray }).get? d=some od:=Heap.get?_push_of_some _ ho;obtain ⟨ov,hov,hcv,hdv⟩:=id hv;have hlv:v<s.heap.objs.size:=Heap.lt_size hov;have hT:Shared.TypeIs { s with heap:=s.heap.push { cls:=.type "list",data:=.seq ([]:List Value).toArray } } (.ref v) "dict_values":=⟨ov,Heap.get?_push_of_some _ hov,hcv⟩
 have hlt:d<s.heap.objs.size:=by
  rcases yk d s.heap.objs.size with h | h
  ·exact h
  ·exfalso
   have:s.heap.get? d=none:=by
    unfold Heap.get?;rw [jf h]
   rw [this] at ho;cases ho
 have h1:Builtin.List.listSameRef (.ref s.heap.objs.size) (.ref v)=false:=by
  show (s.heap.objs.size==v)=false;exact beq_eq_false_iff_ne.mpr (za hlv)
 show wpAny _ A.in1 (Builtin.List.listExtendWith (.ref s.heap.objs.size) (.ref v) (.ref s.heap.objs.size)) _ _ _;unfold Builtin.List.listExtendWith;refine wpAny_bind (wpAny_typeOf hT ?_);rw [if_neg (by rw [h1];decide)];refine wpAny_bind (xAcw (v:=v) ⟨ov,Heap.get?_push_of_some _ hov,hcv,hdv⟩ ho1 hdat ?_);refine wpAny_bind (wpAny_holding ?_);generalize hp2:(s.heap.push { cls:=.type "list",data:=.seq ([]:List Value).toArray }).push { cls:=.type "dict_valueiterator",data:=.fields #[.ref d,.int 0 0,.int es.size 0,.int ep 0] }=h2
 have ho2:h2.get? d=some od:=by rw [← hp2];exact Heap.get?_push_of_some _ ho1
 have hov2:h2.get? v=some ov:=by rw [← hp2];exact Heap.get?_push_of_some _ (Heap.get?_push_of_some _ hov)
 have hT2:Shared.TypeIs { s with heap:=h2 } (.ref v) "dict_values":=⟨ov,hov2,hcv⟩;unfold Builtin.List.listLengthHint;refine wpAny_bind (wpAny_specialOf (name:=Str.ofString "__len__") hT2 F.slot_dict_values_len.lookup ?_);generalize hid:("dict_values.__len__":String)=id0
 wp_delta
 rw [show splitId id0=some ("dict_values","__len__") from by subst hid;decide +kernel];subst hid;refine wpAny_bind (wpAny_isInstance (T:="dict_values") (b:=true) hT2 xAlb ?_);rw [if_neg (by decide)]
 wp_delta
 rw [if_pos (by decide +kernel)];refine wpAny_bind (wpAny_typeOf hT2 (wpAny_pure ?_));rw [if_pos (by decide +kernel)]
 have hS2:h2.get? s.heap.objs.size=some { cls:=.type "list",data:=.seq ([]:List Value).toArray }:=by rw [← hp2];exact Heap.get?_push_of_some _ (Heap.get?_push_size _ rfl)
 refine wpAny_bind (wpAny_rule (wpAny_bind ?_));unfold Builtin.List.listTouch;refine wpAny_bind (listUpdate_at hS2 rfl ?_);obtain ⟨c1,hS3⟩:∃ c1,(h2.update s.heap.objs.size (Obj.mapSeq (·.push Value.none))).get? s.heap.objs.size=some (seqObj "list" #[Value.none] c1):=⟨_,get?_update_seq hS2 _⟩;have keep3:∀ b o,b≠s.heap.objs.size->h2.get? b=some o->(h2.update s.heap.objs.size (Obj.mapSeq (·.push Value.none))).get? b=some o:=fun b o hb e=>(Heap.get?_update_other _ _ (fun z=>hb z.symm)).trans e;generalize h2.update s.heap.objs.size (Obj.mapSeq (·.push Value.none))=h3 at hS3 keep3;refine listUpdate_at (s:={ s with heap:=h3 }) hS3 rfl ?_;obtain ⟨c2,hS4⟩:∃ c2,(h3.update s.heap.objs.size (Obj.mapSeq (·.pop))).get? s.heap.objs.size=some (seqObj "list" #[] c2):=⟨_,get?_update_seq hS3 _⟩;have keep4:∀ b o,b≠s.heap.objs.size->h2.get? b=some o->(h3.update s.heap.objs.size (Obj.mapSeq (·.pop))).get? b=some o:=fun b o hb e=>(Heap.get?_update_other _ _ (fun z=>hb z.symm)).trans (keep3 b o hb e);show wpAny _ _ _ _ _ { s with heap:=h3.update s.heap.objs.size (Obj.mapSeq (·.pop)) };generalize h3.update s.heap.objs.size (Obj.mapSeq (·.pop))=h4 at hS4 keep4;have hsz:(s.heap.push { cls:=.type "list",data:=.seq ([]:List Value).toArray }).objs.size=s.heap.objs.size+1:=size_push' _ _
 have hit2:h2.get? (s.heap.objs.size+1)=some { cls:=.type "dict_valueiterator",data:=.fields #[.ref d,.int 0 0,.int es.size 0,.int ep 0] }:=by rw [← hp2,← hsz];exact Heap.get?_push_size _ rfl
 show wpAny _ _ (again (Code.builtin "list.extend.loop" ⟨[Value.ref s.heap.objs.size,Value.ref (s.heap.push { cls:=.type "list",data:=.seq ([]:List Value).toArray }).objs.size,Value.ref s.heap.objs.size],[]⟩)) _ _ _;rw [hsz];have W:=xAhv (prog:=prog) (w:=w) (A:=A.in1) (it:=s.heap.objs.size+1) (d:=d) (od:=od) (es:=es) (ep:=ep) hh (za (zm hlt)) hdat;refine wpAny_pure ⟨plainId_quiet F.plain_extend_loop _,codeAny_extend_loopS W hz s.heap.objs.size (fun z=>?_) _ es.size 0 { s with heap:=h4 } #[] c2 rfl (qu _) ⟨⟨_,keep4 _ _ (vi _) hit2,rfl,rfl⟩,keep4 _ _ (qj hlt) ho2⟩ hS4 (ItemsOf.nil _) fun s' acc' c' hm hS' hacc=>?_⟩
 ·simp only [List.mem_cons,List.not_mem_nil,or_false] at z
  rcases z with z | z
  ·exact vi _ z.symm
  ·exact za hlt z
 ·show wpAny _ A (load s.heap.objs.size >>= _) _ _ s'
  refine wpAny_bind (wpAny_load hS' ?_);show wpAny _ _ (pure acc'.toList) Q E s';rw [xAfk hacc];refine wpAny_pure (hQ s' ⟨fun b o _ e=>?_,hm.gens,hm.drawn,hm.os,hm.toks⟩)
  have hb:b<s.heap.objs.size:=by
   rcases yk b s.heap.objs.size with h | h
   ·exact h
   ·exfalso
    have:s.heap.get? b=none:=by
     unfold Heap.get?;rw [jf h]
    rw [this] at e;cases e
  refine hm.heap b o (fun z=>?_) (keep4 b o (qj hb) ?_)
  ·simp only [List.mem_cons,List.not_mem_nil,or_false] at z
   rcases z with z | z
   ·exact qj hb z
   ·exact qj (zm hb) z
  ·rw [← hp2]
   exact Heap.get?_push_of_some _ (Heap.get?_push_of_some _ e)
end
def tSortV (K:PySem.W.Frag) (sp:Sp) (tl:TE):TE:=fun σ H Q=>tl σ H fun x H1=>∃ a kvs ds t,x=.ref a/\Rd H1 a (.dG kvs)/\ds.length=kvs.length/\KeysAre ds t/\SrtOk kvs.length ds ∧
 (∀ (m:Nat) y d H' (Q':VK),(kvs.map (·.2.2))[m]?=some y->ds[m]?=some d->Same H1 H'->(∀ H'' kv,Same H' H''->DV K H'' kv d->Q' kv H'')->sp [y] H' Q' E0) ∧
 ∀ q H' ix,H1 q=none->Same H1 H'->SortIx ds ix->H' q=some (.lst (ix.map fun i=>(kvs.map (·.2.2)).getD i .non))->Q (.ref q) H'
section
variable {X:Cx} {k:Nat} {fa:Addr} {fd:FuncData} {ps:List Str} {sp:Sp}
theorem xArf {x y:Str} {l:Expr} {tl:TE} {p yp kp apos cpos pos:Pos} (F:FnOk X.prog X.w X.K X.mg X.base CX0 k fa fd ps sp) (hr:Room (k+1) X.A) (hcm:X.calm=true) (hg:Gl X x) (hm:X.mg x=none) (hv:bootBuiltins x=some (.builtin "sorted")) (hgf:Gl X y) (hmf:X.mg y=some (.ref fa)) (hb:Binds X.K fd ps []) (hps:ps.length=1) (hl:PE X l tl)
  (hn:x≠"__name__":=by decide) (hdb:(x==("__debug__":Str))=false:=by decide) (hdf:(y==("__debug__":Str))=false:=by decide)
  (hbase:attributeBase l "values" X.env (eval l X.env)=eval l X.env:=by rfl) (hline:(apos.endLine==cpos.line)=true:=by rfl)
  (hs2:starEach [.Call (.Attribute l "values" apos) [] [] cpos] X.env=[(false,eval (.Call (.Attribute l "values" apos) [] [] cpos) X.env)]:=by rfl) :
  PE X (.Call (.Name x p) [.Call (.Attribute l "values" apos) [] [] cpos] [⟨some "key",.Name y yp,kp⟩] pos) (tSortV X.K sp tl):=by
 intro pins s σ H Q I h;refine wpAny_Call_Name_kw (xAdr I hg hm hv ?_ hn hdb);refine callWith_kw ?_ (by rw [hs2];rfl) (by rw [hs2];rfl);rw [hs2];refine Calls.spliced_cons ?_;refine wpAny_Call_method0_late hbase hline (thn (hl pins s σ H _ I h) fun v s1 ⟨x,H1,I1,r1,q1⟩=>?_);obtain ⟨a,kvs,ds,t,e,rd,hdl,hk,hso,hsp,q⟩:=q1;subst e;cases r1;obtain ⟨_,hsm,xs,pr,o,es,ep,ho,hc',hd,he,_⟩:ObjOk X.prog X.w H1 s1.heap a (.dG kvs):=rd.ok I1.hok
 have hlen:es.size=kvs.length:=by
  have:es.toList.length=kvs.length:=by rw [he,qg,pr.length]
  simpa using this
 refine ⟨"dict","dict.values",PySem.F.plainAttrs_dict,PySem.F.slot_dict_values,PySem.F.type_dict_values,⟨o,ho,hc'.1⟩,fun b z=>?_,Calls.callWith_builtin rfl (PySem.evalArgs_none (xAdn hsm ho hc' ?_))⟩
 ·cases z
  exact ⟨o,ho,hc'.2.1⟩
 have ho1:(s1.heap.push { cls:=.type "dict_values",data:=.fields #[.ref a] }).get? a=some o:=Heap.get?_push_of_some _ ho;have I2:Inv X pins σ H1 { s1 with heap:=s1.heap.push { cls:=.type "dict_values",data:=.fields #[.ref a] } }:=I1.kept (t':=s1.toks) fun b o e=>Heap.get?_push_of_some _ e;refine Calls.spliced_nil (kws_cons (xAix I2 hgf hmf (kws_nil ?_) hdf));have h2000:=hso.1
 have zl:(es.toList.map (·.val)).length≤sizeLine:=by rw [qg,ze,hlen,sizeLine_eq];omega
 refine call_function_entry_kw kind_sorted plain_sorted entry_sorted (ksk_s1 _ _) ?_;unfold Builtin.«sorted»;refine wpAny_bind (m:=checkCount "sorted" 1 1 _) (wpAny_pure (wpAny_bind (xAgg (s:={ s1 with heap:=s1.heap.push { cls:=.type "dict_values",data:=.fields #[.ref a] } }) (I1.ok.hd hcm) (v:=s1.heap.objs.size) ⟨_,Heap.get?_push_size _ rfl,rfl,rfl⟩ ho1 hd (by rw [hlen,sizeLine_eq];omega) fun s' m=>wpAny_bind (wpAny_newList ?_ zl))));have I3:=I2.moved m
 have rv:Vals (kvs.map (·.2.2)) (es.toList.map (·.val)):=by
  rw [he,wb];exact (xApi pr).1
 refine xAht (fun s' Hm x y Q e0 _ _ r1 hsp=>F.run X.A.in1.in1 X.stack s' Hm ⟨[x],[]⟩ [x] [y] Q E0 hr.in2 e0 (by
  have:=hb s' [x] (e0.mod.kin.keeps fun b o e=>(e0.bs b o e).1) (by rw [hps];rfl)
  simpa using this) (.cons r1 .nil) hsp) (by have:=hr.un;omega) I3 rv (by rw [hdl,List.length_map]) hk (by rw [List.length_map];exact hso) hsp q (.push _ _) (Heap.get?_push_size _ rfl) (Nat.le_refl _)
end
structure Bnd (K:PySem.W.Frag) (C:Addr) (m:Str) (f:Addr):Prop where
 me:Meth K C m f
 gf:specialIn K (.ref f) "__get__"=some (some (.builtin "function.__get__"))
 tk:takesIn K (.ref f)=some false
 cp:copiedNames.contains m=false
section
variable {X:Cx} {pins:List (Addr×Obj)} {σ:St} {H:Hp} {s:Shared} {a C dx g:Addr} {fs:List (Str×V)} {m:Str} {A:Around} {E:Value->Shared->Prop}
theorem xAnv {b:Bool} {Q:Value->Shared->Prop} (I:Inv X pins σ H s) (e:H a=some (.ins C dx fs)) (c:Cls X.K C) (k:Bnd X.K C m g) (l:fs.lookup m=none)
  (h:∀ s',Inv X pins σ H s'->s'.heap.get? s.heap.objs.size=some (methodObj (.ref g) (.ref a))->Q (.ref s.heap.objs.size) s'):wpAny (model X.prog X.w) A (getAttr (.ref a) m b) Q E s:=by
 obtain ⟨mA,O,r,_,_,_⟩:=xAex I.hok e;have hn:mA m=none:=RelO.none_of (by rw [← l];exact r m);obtain ⟨od,J,hl⟩:=O.look;refine get_bind I.kIn J (plainGet_of (c.get m)).1 (findObj_fn c.hd k.me.at_ k.gf k.tk k.cp (by rw [hl,hn])) (plainGet_of (c.get m)).2 ?_;refine wpAny_call (fn_get (s:={ s with toks:=s.toks+1 }) I.kIn (beq_iff_eq.mp k.me.fn) (handed_on rfl (h _ ?_ (Heap.get?_push_size _ rfl))));exact I.kept (t':=s.toks+1) fun b o e=>Heap.get?_push_of_some _ e
end
def tSortB (K:PySem.W.Frag) (C:Addr) (m:Str) (sp:Sp) (t:TA) (ta:TE):TE:=fun σ H Q=>t σ H fun vs H1=>ta σ H1 fun x H2=>∃ a dx fs,x=.ref a/\H2 a=some (.ins C dx fs)/\fs.lookup m=none/\rSortK K (fun ws H Q E=>sp (.ref a::ws) H Q E) vs H2 Q
section
variable {X:Cx} {k:Nat} {g C:Addr} {fd:FuncData} {ps:List Str} {sp:Sp}
theorem xArg {x m:Str} {e o:Expr} {p apos kp pos:Pos} {t:TA} {ta:TE} (F:FnOk X.prog X.w X.K X.mg X.base CX0 k g fd ps sp) (hr:Room (k+1) X.A) (hg:Gl X x) (hm:X.mg x=none) (hv:bootBuiltins x=some (.builtin "sorted")) (c:Cls X.K C) (kb:Bnd X.K C m g) (hb:Binds X.K fd ps []) (hps:ps.length=2) (ha:PA X [e] t) (ho:PE X o ta)
  (hn:x≠"__name__":=by decide) (hdb:(x==("__debug__":Str))=false:=by decide) (hab:attributeBase o m X.env (eval o X.env)=eval o X.env:=by rfl)
  (he:starEach [e] X.env=(false,eval e X.env)::starEach [] X.env:=by rfl):PE X (.Call (.Name x p) [e] [⟨some "key",.Attribute o m apos,kp⟩] pos) (tSortB X.K C m sp t ta):=by
 intro pins s σ H Q I h;refine wpAny_Call_Name_kw (xAdr I hg hm hv ?_ hn hdb);refine callWith_kw (thn (ha pos pins s σ H _ I h) fun us s1 ⟨vs,H1,I1,r1,q1⟩=>kws_cons (xAon hab (thn (ho pins s1 σ H1 _ I1 q1) fun v s2 ⟨x,H2,I2,r2,a,dx,fs,ex,ea,l,q2⟩=>?_))) (by rw [he];rfl) (by rw [he];rfl);subst ex;obtain rfl:v=Value.ref a:=r2;refine xAnv I2 ea c kb l fun s3 I3 hb3=>kws_nil ?_;have hf:H2 s2.heap.objs.size=none:=I2.hok.fresh (qh _);have nf:=I2.nstk (qh s2.heap.objs.size);refine xAin (fun s' Hm x y Q e0 un same r1 hsp=>?_) (by have:=hr.un;omega) I3 r1 q2;refine ks_codeAny_call_bound (un.keep _ _ hb3 hf nf (by simp)) (F.run X.A.in1.in1 X.stack s' Hm ⟨[.ref a,x],[]⟩ [.ref a,x] [.ref a,y] Q E0 hr.in2 e0 ?_ (.cons rfl (.cons r1 .nil)) hsp);have:=hb s' [.ref a,x] (e0.mod.kin.keeps fun b o e=>(e0.bs b o e).1) (by rw [hps];rfl);simpa using this
end
section
variable {prog:Program} {w:World} {A:Around} {E:Value->Shared->Prop} {s:Shared}
theorem xAlg {d:Addr} {od:Obj} {es:Array DictEntry} {ep:Nat} {Q:Value->Shared->Prop} (hh:A.handled=none) (hs:(d==sysModules)=false) (ho:s.heap.get? d=some od) (hc:od.ExactDict) (hdat:od.data=.dict es ep) (hz:es.size≤sizeLine)
  (hQ:∀ s' acc c,Moved [] Eq s s'->s'.heap.get? s.heap.objs.size=some { cls:=.type "list",dict:=none,data:=.seq acc c,slots:=#[] }->acc.toList=es.toList.map (·.key)->Q (.ref s.heap.objs.size) s') :
  wpAny (model prog w) A (call (.type "list") [.ref d]) Q E s:=by
 refine callType_codes (Q₁:=fun obj s₁=>obj=.ref s.heap.objs.size/\s₁={ s with heap:=s.heap.push { cls:=.type "list",data:=.seq #[] } }) F.called_list (F.typeCall_list_1 _) F.entry_list_init
  (code_list_new _ ⟨rfl,rfl⟩) fun obj s₁ h₁=>?_
 obtain ⟨rfl,rfl⟩:=h₁;have hS:(s.heap.push { cls:=.type "list",data:=.seq #[] }).get? s.heap.objs.size=some { cls:=.type "list",data:=.seq #[] }:=Heap.get?_push_size _ rfl;refine ⟨⟨_,hS,rfl⟩,F.args_list_init_2 _ _,?_⟩;have hld:d<s.heap.objs.size:=Heap.lt_size ho;generalize hp1:s.heap.push { cls:=.type "list",data:=.seq #[] }=h1 at hS
 have k1:∀ b o,s.heap.get? b=some o->h1.get? b=some o:=fun b o e=>by rw [← hp1];exact Heap.get?_push_of_some _ e
 show wpAny _ A.in1.in1 (do let old ← Builtin.List.listItems (.ref s.heap.objs.size);Builtin.List.listUpdate (.ref s.heap.objs.size) (fun _=>#[]);letGo old.toList.reverse;Builtin.List.listExtendWith (.ref s.heap.objs.size) (.ref d) .none) _ _ { s with heap:=h1 };refine wpAny_bind ?_;unfold Builtin.List.listItems;refine wpAny_bind (wpAny_seqItems (s:={ s with heap:=h1 }) hS rfl (wpAny_pure ?_));show wpAny _ A.in1.in1 (updateSeq s.heap.objs.size (fun _=>#[]) >>= fun _=>letGo (#[]:Array Value).toList.reverse >>= fun _=>Builtin.List.listExtendWith (.ref s.heap.objs.size) (.ref d) .none) _ _ { s with heap:=h1 };refine wpAny_bind (wpAny_updateSeq (s:={ s with heap:=h1 }) hS rfl ?_);have hS2:=Heap.get?_update_self (Obj.mapSeq (fun _=>(#[]:Array Value))) hS rfl
 have k2:∀ b o,s.heap.get? b=some o->(h1.update s.heap.objs.size (Obj.mapSeq (fun _=>(#[]:Array Value)))).get? b=some o :=
  fun b o e=>(Heap.get?_update_other _ _ (za (Heap.lt_size e))).trans (k1 b o e)
 have hz2:(h1.update s.heap.objs.size (Obj.mapSeq (fun _=>(#[]:Array Value)))).objs.size=s.heap.objs.size+1:=by rw [Heap.size_update,← hp1,Heap.size_push]
 show wpAny _ _ _ _ _ { s with heap:=h1.update s.heap.objs.size (Obj.mapSeq (fun _=>(#[]:Array Value))) };generalize h1.update s.heap.objs.size (Obj.mapSeq (fun _=>(#[]:Array Value)))=h2 at hS2 k2 hz2;refine wpAny_bind (wpAny_letGo ?_);have hT2:Shared.TypeIs { s with heap:=h2 } (.ref d) "dict":=⟨od,k2 _ _ ho,hc.1⟩
 have e1:Builtin.List.listSameRef (.ref s.heap.objs.size) (.ref d)=false:=by
  show (s.heap.objs.size==d)=false;exact beq_eq_false_iff_ne.mpr (za hld)
 unfold Builtin.List.listExtendWith;refine wpAny_bind (wpAny_typeOf hT2 ?_);rw [if_neg (by rw [e1];decide)];refine wpAny_bind (xAkx (s:={ s with heap:=h2 }) hs (k2 _ _ ho) hc hdat ?_);refine wpAny_bind (wpAny_holding ?_);show wpAny _ _ _ _ _ { s with heap:=h2.push { cls:=.type "dict_keyiterator",data:=.fields #[.ref d,.int 0 0,.int es.size 0,.int ep 0] } };have hi3:(h2.push { cls:=.type "dict_keyiterator",data:=.fields #[.ref d,.int 0 0,.int es.size 0,.int ep 0] }).IsKeyIter h2.objs.size d 0 es.size ep:=⟨_,Heap.get?_push_size _ rfl,rfl,rfl⟩;have k3:∀ b o,h2.get? b=some o->(h2.push { cls:=.type "dict_keyiterator",data:=.fields #[.ref d,.int 0 0,.int es.size 0,.int ep 0] }).get? b=some o:=fun b o e=>Heap.get?_push_of_some _ e;generalize h2.push { cls:=.type "dict_keyiterator",data:=.fields #[.ref d,.int 0 0,.int es.size 0,.int ep 0] }=h3 at hi3 k3;have hT3:Shared.TypeIs { s with heap:=h3 } (.ref d) "dict":=⟨od,k3 _ _ (k2 _ _ ho),hc.1⟩;unfold Builtin.List.listLengthHint;refine wpAny_bind (wpAny_specialOf (name:=Str.ofString "__len__") hT3 F.slot_dict_len.lookup ?_);generalize hid:("dict.__len__":String)=id0
 wp_delta
 rw [show splitId id0=some ("dict","__len__") from by subst hid;decide +kernel];subst hid;refine wpAny_bind (wpAny_isInstance (T:="dict") hT3 PySem.F.sub_dict_dict ?_);rw [if_neg (by decide)]
 wp_delta
 rw [if_pos (by decide +kernel)];refine wpAny_bind (wpAny_typeOf hT3 (wpAny_pure ?_));rw [if_pos (by decide +kernel)];have hS3:=k3 _ _ hS2;refine wpAny_bind (wpAny_rule (wpAny_bind ?_));unfold Builtin.List.listTouch;refine wpAny_bind (listUpdate_at (s:={ s with heap:=h3 }) hS3 rfl ?_);obtain ⟨c1,hS4⟩:∃ c1,(h3.update s.heap.objs.size (Obj.mapSeq (·.push Value.none))).get? s.heap.objs.size=some (seqObj "list" #[Value.none] c1):=⟨_,get?_update_seq hS3 _⟩;have k4:∀ b o,b≠s.heap.objs.size->h3.get? b=some o->(h3.update s.heap.objs.size (Obj.mapSeq (·.push Value.none))).get? b=some o:=fun b o hb e=>(Heap.get?_update_other _ _ (fun z=>hb z.symm)).trans e;show wpAny _ _ _ _ _ { s with heap:=h3.update s.heap.objs.size (Obj.mapSeq (·.push Value.none)) };generalize h3.update s.heap.objs.size (Obj.mapSeq (·.push Value.none))=h4 at hS4 k4;refine listUpdate_at (s:={ s with heap:=h4 }) hS4 rfl ?_;obtain ⟨c2,hS5⟩:∃ c2,(h4.update s.heap.objs.size (Obj.mapSeq (·.pop))).get? s.heap.objs.size=some (seqObj "list" #[] c2):=⟨_,get?_update_seq hS4 _⟩;have k5:∀ b o,b≠s.heap.objs.size->h3.get? b=some o->(h4.update s.heap.objs.size (Obj.mapSeq (·.pop))).get? b=some o:=fun b o hb e=>(Heap.get?_update_other _ _ (fun z=>hb z.symm)).trans (k4 b o hb e);show wpAny _ _ _ _ _ { s with heap:=h4.update s.heap.objs.size (Obj.mapSeq (·.pop)) };generalize h4.update s.heap.objs.size (Obj.mapSeq (·.pop))=h5 at hS5 k5;show wpAny _ _ (again (Code.builtin "list.extend.loop" ⟨[Value.ref s.heap.objs.size,Value.ref h2.objs.size,Value.none],[]⟩)) _ _ _;rw [hz2] at hi3 ⊢;have W:=xAnk (prog:=prog) (w:=w) (A:=A.in1.in1) (it:=s.heap.objs.size+1) (d:=d) (od:=od) (es:=es) (ep:=ep) hh (za (zm hld)) hdat;obtain ⟨oi,ei,ci,di⟩:=hi3;refine wpAny_pure ⟨plainId_quiet F.plain_extend_loop _,codeAny_extend_loopS W hz s.heap.objs.size (fun z=>?_) _ es.size 0 { s with heap:=h5 } #[] c2 rfl (qu _) ⟨⟨oi,k5 _ _ (vi _) ei,ci,di⟩,k5 _ _ (qj hld) (k3 _ _ (k2 _ _ ho))⟩ hS5 (ItemsOf.nil _) fun s' acc' c' hm hS' hacc=>?_⟩
 ·simp only [List.mem_cons,List.not_mem_nil,or_false] at z
  rcases z with z | z
  ·exact vi _ z.symm
  ·exact za hld z
 ·refine ⟨rfl,hQ s' acc' c' ⟨fun b o _ e=>?_,hm.gens,hm.drawn,hm.os,hm.toks⟩ hS' (xAla hacc)⟩
  have hb:b<s.heap.objs.size:=Heap.lt_size e;refine hm.heap b o (fun z=>?_) (k5 b o (qj hb) (k3 _ _ (k2 _ _ e)))
  simp only [List.mem_cons,List.not_mem_nil,or_false] at z
  rcases z with z | z
  ·exact qj hb z
  ·exact qj (zm hb) z
end
def tLKeys:List V->Hp->VK->Prop:=fun xs H1 Q=>∃ a kvs,xs=[.ref a]/\Rd H1 a (.dG kvs)/\kvs.length≤1000/\∀ p H',H1 p=none->Same H1 H'->H' p=some (.lst (kvs.map (·.2.1)))->Q (.ref p) H'
section
variable {X:Cx}
theorem xAlh (hh:X.A.handled=none):CallR X (.type "list") tLKeys:=by
 intro pins s σ H xs us Q I r h;obtain ⟨a,kvs,rfl,rd,hz,q⟩:=h;obtain ⟨u,rfl,ru⟩:=vals1 r;cases ru;obtain ⟨_,hsm,ya,pr,o,es,ep,ho,hc,hdat,he,his,hn⟩:=gd_rd I rd
 have hlen:es.size=kvs.length:=by
  have:es.toList.length=kvs.length:=by rw [he,qg,pr.length]
  simpa using this
 refine xAlg hh hsm ho hc hdat (by rw [hlen,sizeLine_eq];omega) fun s' acc c m eS ea=>?_
 have e':s'={ s with heap:=s'.heap,toks:=s'.toks }:=by
  obtain ⟨g1,g2,g3,g4,g5⟩:=m;cases s';cases g2;cases g3;cases g4;rfl
 have hf:=I.hok.fresh (a:=s.heap.objs.size) (qh _)
 have I3:Inv X pins σ (upd H s.heap.objs.size (.lst (kvs.map (·.2.1)))) s':=by
  rw [e'];refine I.laid (t':=s'.toks) (h':=s'.heap) (fun b u e=>m.heap b u (by simp) e) (Nat.le_refl _) ⟨?_,acc.toList,c,?_,by simpa using eS⟩
  ·show (kvs.map (·.2.1)).length≤sizeLine
   rw [qg,sizeLine_eq];omega
  ·rw [ea,he,wb]
   exact xAum pr
 exact ⟨.ref _,_,I3,rfl,q _ _ hf (Same.new hf) xAae⟩
end
section
variable {X:Cx}
theorem xAuq {K:PySem.W.Frag} {e:Expr} {f:Str} {pos:Pos} {ta:TE} (h:X.K=K) (he:PE X e ta) (hb:attributeBase e f X.env (eval e X.env)=eval e X.env):PE X (.Attribute e f pos) (tFld K ta f):=h▸xAdi he hb
end
theorem pq {X:Cx} (i:Nat) {x:Str} {pos:Pos} (h:(X.N[i]?,X.env.scope.names.lookup x,(x==("__debug__":Str)),(x==("__classdict__":Str)))=(some x,some NameKind.local,false,false)):PE X (.Name x pos) (tVar i) :=
 pv i (congrArg (·.1) h) (.inl (congrArg (·.2.1) h)) (congrArg (·.2.2.1) h) (congrArg (·.2.2.2) h)
theorem pxt {X:Cx} {a:Expr} {ta:TE} {i:Int} {j:Nat} {p pos:Pos} (ha:PE X a ta):PE X (.Subscript a (.Constant (.int i) j p) pos) (tOp (rIxT X.K) ta (tC (.int i))):=pe_ix xAmi ha xAac (fun _ _=>rfl)
section
variable {X:Cx}
end
end L2
namespace Hs
open PySem L2 PyProof.Rows
abbrev maxL (xs:List Nat):Nat:=xs.foldl max 0
theorem foldl_max_le {xs:List Nat} {a c:Nat}:xs.foldl max a≤c↔a≤c/\∀ x∈xs,x≤c:=by
 induction xs generalizing a with
 | nil=>simp
 | cons y ys ih =>
  rw [yx,ih]
  simp only [List.mem_cons,forall_eq_or_imp]
  constructor
  ·rintro ⟨h1,h2⟩;exact ⟨by omega,by omega,h2⟩
  ·rintro ⟨h1,h2,h3⟩;exact ⟨by omega,h3⟩
theorem le_maxL {xs:List Nat} {x:Nat} (h:x∈xs):x≤maxL xs:=(foldl_max_le.mp (qh _)).2 x h
def pastOf (row:List Nat) (m:Nat):List (Nat×Nat):=((List.range m).filter fun j=>decide (0<at0 row j)).map fun j=>(j,at0 row j)
theorem xAcs {row:List Nat} {m:Nat} {p:Nat×Nat}:p∈pastOf row m↔p.1<m/\0<at0 row p.1/\p.2=at0 row p.1:=by
 unfold pastOf;rw [qk];constructor
 ·rintro ⟨j,hj,rfl⟩
  rw [zd,zp] at hj;exact ⟨hj.1,of_decide_eq_true hj.2,rfl⟩
 ·rintro ⟨h1,h2,h3⟩
  exact ⟨p.1,zd.mpr ⟨zp.mpr h1,decide_eq_true h2⟩,by rw [← h3]⟩
def HG (m:Nat) (es:List Dd) (hn:Nat->Nat->Nat):Prop:=∀ d∈es,hn d.who d.num=1+maxL ((pastOf d.hd m).map fun p=>hn p.1 p.2)
theorem HG.sub {m:Nat} {ds es:List Dd} {hn:Nat->Nat->Nat} (h:HG m ds hn) (s:∀ d∈es,d∈ds):HG m es hn:=fun d hd=>h d (s d hd)
theorem xAur:∀ {a b:List Nat},a.length=b.length->(∀ i,i<a.length->at0 a i≤at0 b i)->a.sum≤b.sum
 | [],_,_,_=>qu _
 | x::a,[],hl,_=>by cases hl
 | x::a,y::b,hl,hle=>by
  rw [wl,wl];have h0:x≤y:=hle 0 (Nat.zero_lt_succ _)
  have:=xAur (a:=a) (b:=b) (Nat.succ.inj hl) fun i hi=>by simpa [at0] using hle (i+1) (Nat.succ_lt_succ hi)
  omega
theorem xAus:∀ {a b:List Nat} {j:Nat},a.length=b.length->(∀ i,i<a.length->at0 a i≤at0 b i)->j<a.length->at0 a j<at0 b j->a.sum<b.sum
 | [],_,_,_,_,h,_=>absurd h (zv _)
 | x::a,[],_,hl,_,_,_=>by cases hl
 | x::a,y::b,j,hl,hle,hj,hlt=>by
  rw [wl,wl];have h0:x≤y:=hle 0 (Nat.zero_lt_succ _);have hl':a.length=b.length:=Nat.succ.inj hl
  have hle':∀ i,i<a.length->at0 a i≤at0 b i:=fun i hi=>by simpa [at0] using hle (i+1) (Nat.succ_lt_succ hi)
  cases j with
  | zero =>
   have h1:x<y:=hlt;have:=xAur hl' hle';omega
  | succ j =>
   have:=xAus (j:=j) hl' hle' (Nat.lt_of_succ_lt_succ hj) (by simpa [at0] using hlt);omega
theorem Wh.one {m:Nat} {ds:List Dd} (W:Wh m ds) {a b:Dd} (ha:a∈ds) (hb:b∈ds) (h1:a.who=b.who) (h2:a.num=b.num):a=b:=by
 obtain ⟨i,hi,rfl⟩:=zx ha;obtain ⟨j,hj,rfl⟩:=zx hb;rcases j5 i j with q | q | q
 ·exact absurd ⟨h1,h2⟩ (z8.mp W.uniq i j hi hj q)
 ·subst q;rfl
 ·exact absurd ⟨h1.symm,h2.symm⟩ (z8.mp W.uniq j i hj hi q)
theorem Wh.last {m:Nat} {ds:List Dd} (W:Wh m ds) {row:List Nat} (hl:row.length=m) (c:Cov m ds row) {p:Nat×Nat} (hp:p∈pastOf row m):∃ e∈ds,e.who=p.1/\e.num=p.2/\(∀ i,i<m->at0 e.hd i≤at0 row i)/\e.hd.sum<row.sum:=by
 obtain ⟨h1,h2,h3⟩:=xAcs.mp hp;obtain ⟨e,he,a,b,f⟩:=c p.1 p.2 h1 (by omega) (by omega);refine ⟨e,he,a,b,f,?_⟩;have hle:=W.len e he;refine xAus (j:=p.1) (by omega) (fun i hi=>f i (by omega)) (by omega) ?_;have:=W.own e he;rw [a] at this;omega
def hf (m:Nat) (ds:List Dd):Nat->Nat->Nat->Nat
 | 0,_,_=>0
 | n+1,j,k=>match ds.find? fun d=>decide (d.who=j/\d.num=k) with
  | none=>0
  | some d=>1+maxL ((pastOf d.hd m).map fun p=>hf m ds n p.1 p.2)
theorem Wh.find {m:Nat} {ds:List Dd} (W:Wh m ds) {d:Dd} (hd:d∈ds):(ds.find? fun e=>decide (e.who=d.who/\e.num=d.num))=some d:=by
 cases e:ds.find? fun e=>decide (e.who=d.who/\e.num=d.num) with
 | none=>exact absurd (List.find?_eq_none.mp e d hd) (by simp)
 | some x =>
  have h1:=List.find?_some e;have h2:=List.mem_of_find?_eq_some e;have h3:=of_decide_eq_true h1;rw [W.one h2 hd h3.1 h3.2]
theorem hf_at {m:Nat} {ds:List Dd} (W:Wh m ds) {d:Dd} (hd:d∈ds) (n:Nat):hf m ds (n+1) d.who d.num=1+maxL ((pastOf d.hd m).map fun p=>hf m ds n p.1 p.2):=by
 rw [hf,W.find hd]
theorem xAhw {m:Nat} {ds:List Dd} (W:Wh m ds):∀ (n:Nat) (d:Dd),d∈ds->d.hd.sum<n->hf m ds n d.who d.num=hf m ds (n+1) d.who d.num
 | 0,_,_,h=>absurd h (zv _)
 | n+1,d,hd,h=>by
  rw [hf_at W hd,hf_at W hd]
  congr 2
  refine jz fun p hp=>?_;obtain ⟨e,he,a,b,_,c⟩:=W.last (W.len d hd) (W.past d hd) hp;rw [← a,← b];exact xAhw W n e he (by omega)
theorem Wh.heights {m:Nat} {ds:List Dd} (W:Wh m ds):∃ hn,HG m ds hn:=by
 refine ⟨hf m ds ((ds.map (·.hd.sum)).sum+1),fun d hd=>?_⟩
 have h1:∀ (l:List Nat) x,x∈l->x≤l.sum:=fun l=>by
  induction l with
  | nil=>intro x h;cases h
  | cons y ys ih =>
   intro x h;rw [wl];rcases zg.mp h with rfl | h
   ·omega
   ·have:=ih x h;omega
 have h2:d.hd.sum<(ds.map (·.hd.sum)).sum+1:=Nat.lt_succ_of_le (h1 _ _ (qk.mpr ⟨d,hd,rfl⟩));rw [xAhw W _ d hd h2,hf_at W hd]
theorem HG.up {m:Nat} {ds:List Dd} {hn:Nat->Nat->Nat} (W:Wh m ds) (h:HG m ds hn):∀ (n:Nat) (a b:Dd),b.num≤n->a∈ds->b∈ds->a.who=b.who->a.num<b.num->hn a.who a.num<hn b.who b.num
 | 0,a,b,hb,_,_,_,hlt=>absurd hlt (by omega)
 | n+1,a,b,hbn,ha,hb,hw,hlt=>by
  have ob:=W.own b hb;have oa:=W.own a ha;have hm:=W.who b hb;have hp:(b.who,at0 b.hd b.who)∈pastOf b.hd m:=xAcs.mpr ⟨hm,by show 0<at0 b.hd b.who;omega,rfl⟩
  have h1:hn b.who (at0 b.hd b.who)<hn b.who b.num:=by
   rw [h b hb];have:=le_maxL (qk.mpr ⟨_,hp,rfl⟩:hn b.who (at0 b.hd b.who)∈(pastOf b.hd m).map fun p=>hn p.1 p.2);omega
  obtain ⟨e,he,e1,e2,_⟩:=W.last (W.len b hb) (W.past b hb) hp;have e1':e.who=b.who:=e1;have e2':e.num=at0 b.hd b.who:=e2
  by_cases q:a.num=e.num
  ·rw [hw,q,e2'];exact h1
  ·have:=HG.up W h n a e (by omega) ha he (by omega) (by omega)
   rw [e1',e2'] at this;omega
def klt (hn:Nat->Nat->Nat) (a b:Dd):Prop:=hn a.who a.num<hn b.who b.num\/hn a.who a.num=hn b.who b.num/\a.who<b.who
theorem klt.asymm {hn:Nat->Nat->Nat} {a b:Dd} (h:klt hn a b) (g:klt hn b a):False:=by
 unfold klt at h g;omega
theorem klt.tot {m:Nat} {ds:List Dd} {hn:Nat->Nat->Nat} (W:Wh m ds) (h:HG m ds hn) {a b:Dd} (ha:a∈ds) (hb:b∈ds) (ne:a≠b) (g:¬ klt hn b a):klt hn a b:=by
 unfold klt at g ⊢
 by_cases q:a.who=b.who
 ·rcases j5 a.num b.num with r | r | r
  ·exact .inl (h.up W _ a b (qh _) ha hb q r)
  ·exact absurd (W.one ha hb q r) ne
  ·exact absurd (.inl (h.up W _ b a (qh _) hb ha q.symm r)) g
 ·omega
theorem klt.eq {hn:Nat->Nat->Nat} {xs ys:List Dd} (hx:xs.Pairwise (klt hn)) (hy:ys.Pairwise (klt hn)) (p:xs.Perm ys):xs=ys :=
 List.Perm.eq_of_pairwise (fun _ _ _ _ h g=>(h.asymm g).elim) hx hy p
def kyD (hn:Nat->Nat->Nat) (d:Dd):PyData:=.tuple [.int (hn d.who d.num),.int d.who]
theorem xAut {hn:Nat->Nat->Nat} {a b:Dd}:ltD (kyD hn a) (kyD hn b)=true↔klt hn a b:=by
 unfold kyD klt;rw [ltD,ltDs,ltDs,ltDs]
 simp only [PyData.eqv,ltD]
 by_cases q:hn a.who a.num=hn b.who b.num
 ·rw [q]
  by_cases r:a.who=b.who
  ·simp [r]
  ·have r':¬ ((a.who:Int)=b.who):=by omega
   simp [r']
 ·have q':¬ ((hn a.who a.num:Int)=hn b.who b.num):=by omega
  simp [q',q]
theorem sorted_of {m:Nat} {es:List Dd} {hn:Nat->Nat->Nat} {ix:List Nat} (W:Wh m es) (h:HG m es hn) (six:SortIx (es.map (kyD hn)) ix) (d0:Dd):(ix.map fun i=>es.getD i d0).Perm es/\(ix.map fun i=>es.getD i d0).Pairwise (klt hn):=by
 obtain ⟨p1,p2⟩:=six;rw [qg] at p1
 have hp:(ix.map fun i=>es.getD i d0).Perm es:=by
  refine (p1.map _).trans (.of_eq ?_);apply wg;intro i;rw [ql]
  by_cases hi:i<es.length
  ·rw [yg hi,qi hi]
   show some (es.getD i d0)=_;rw [qq,qi hi];rfl
  ·rw [List.getElem?_eq_none (by simpa using hi),List.getElem?_eq_none (by simpa using hi)];rfl
 refine ⟨hp,?_⟩;have nd:(ix.map fun i=>es.getD i d0).Nodup:=hp.symm.nodup (W.uniq.imp fun {a b} hab e=>hab (by subst e;exact ⟨rfl,rfl⟩));rw [wo] at p2
 have p3:(ix.map fun i=>es.getD i d0).Pairwise fun a b=>ltD (kyD hn b) (kyD hn a)=false:=by
  rw [wo];refine p2.imp_of_mem fun {a b} ha hb hab=>?_
  have ka:∀ i,i∈ix->keyAt (es.map (kyD hn)) i=kyD hn (es.getD i d0):=fun i hi=>by
   have:i<es.length:=zp.mp (p1.mem_iff.mp hi);unfold keyAt;rw [qq,ql,qq,qi this];rfl
  rw [ka a ha,ka b hb] at hab;exact hab
 refine (List.Pairwise.and nd p3).imp_of_mem fun {a b} ha hb hab=>?_;refine klt.tot W h (hp.mem_iff.mp ha) (hp.mem_iff.mp hb) hab.1 fun z=>?_;rw [xAut.mpr z] at hab;cases hab.2
def inC (row:List Nat) (d:Dd):Bool:=decide (d.num≤at0 row d.who)
theorem Wh.perm {m:Nat} {ds es:List Dd} (W:Wh m ds) (p:es.Perm ds):Wh m es :=
 ⟨fun d hd=>W.who d (p.mem_iff.mp hd),fun d hd=>W.len d (p.mem_iff.mp hd),fun d hd=>W.own d (p.mem_iff.mp hd),(p.pairwise_iff fun {a b} h z=>h ⟨z.1.symm,z.2.symm⟩).mpr W.uniq,fun d hd=>(W.past d (p.mem_iff.mp hd)).mono fun e he=>p.mem_iff.mpr he⟩
theorem Cov.le {m:Nat} {ds:List Dd} {row:List Nat} (W:Wh m ds) (c:Cov m ds row) {d:Dd} (hd:d∈ds) (h:inC row d=true):∀ i,i<m->at0 d.hd i≤at0 row i:=by
 have h1:=of_decide_eq_true h;have ho:=W.own d hd;obtain ⟨e,he,a,b,f⟩:=c d.who d.num (W.who d hd) (by omega) h1;rw [W.one he hd a b] at f;exact f
theorem Wh.within {m:Nat} {ds:List Dd} {row:List Nat} (W:Wh m ds) (c:Cov m ds row):Wh m (ds.filter (inC row)):=by
 have sub:∀ d∈ds.filter (inC row),d∈ds:=fun d hd=>(zd.mp hd).1;refine ⟨fun d hd=>W.who d (sub d hd),fun d hd=>W.len d (sub d hd),fun d hd=>W.own d (sub d hd),W.uniq.filter _,fun d hd j k hj h1 h2=>?_⟩;have hle:=c.le W (sub d hd) (zd.mp hd).2;obtain ⟨e,he,a,b,f⟩:=W.past d (sub d hd) j k hj h1 h2;refine ⟨e,zd.mpr ⟨he,decide_eq_true ?_⟩,a,b,f⟩;rw [a,b];exact qm h2 (hle j hj)
theorem xAir {m:Nat} {ds:List Dd} {row:List Nat} (W:Wh m ds) (c:Cov m ds row) {d:Dd} (hd:d∈ds) (h:inC row d=true):(ds.filter (inC row)).filter (inC d.hd)=ds.filter (inC d.hd):=by
 rw [List.filter_filter];refine List.filter_congr fun e he=>?_
 by_cases q:inC d.hd e=true
 ·rw [q,jg]
  have:=c.le W hd h e.who (W.who e he);exact decide_eq_true (qm (of_decide_eq_true q) this)
 ·rw [j6.mpr q,Bool.false_and]
theorem xAuu {m:Nat} {ds:List Dd} {hn:Nat->Nat->Nat} (W:Wh m ds) (g:HG m ds hn) {d:Dd} (hd:d∈ds):hn d.who d.num=1+maxL ((ds.filter (inC d.hd)).map fun e=>hn e.who e.num):=by
 rw [g d hd]
 congr 1
 refine Nat.le_antisymm (foldl_max_le.mpr ⟨qu _,fun x hx=>?_⟩) (foldl_max_le.mpr ⟨qu _,fun x hx=>?_⟩)
 ·obtain ⟨p,hp,rfl⟩:=qk.mp hx
  obtain ⟨e,he,a,b,_⟩:=W.last (W.len d hd) (W.past d hd) hp;obtain ⟨_,_,h3⟩:=xAcs.mp hp;refine le_maxL (qk.mpr ⟨e,zd.mpr ⟨he,decide_eq_true ?_⟩,by rw [a,b]⟩);rw [a,b,h3];exact qh _
 ·obtain ⟨e,he,rfl⟩:=qk.mp hx
  obtain ⟨he,hc⟩:=zd.mp he;have h1:=of_decide_eq_true hc;have ho:=W.own e he;have hp:(e.who,at0 d.hd e.who)∈pastOf d.hd m:=xAcs.mpr ⟨W.who e he,by show 0<at0 d.hd e.who;omega,rfl⟩;refine qm ?_ (le_maxL (qk.mpr ⟨_,hp,rfl⟩));show hn e.who e.num≤hn e.who (at0 d.hd e.who);obtain ⟨f,hf,a,b,_⟩:=W.last (W.len d hd) (W.past d hd) hp;have a:f.who=e.who:=a;have b:f.num=at0 d.hd e.who:=b
  by_cases q:e.num=at0 d.hd e.who
  ·rw [q];exact qh _
  ·have:=g.up W _ e f (qh _) he hf a.symm (by omega)
   rw [a,b] at this;exact zf this
theorem xAgh {m:Nat} {ds:List Dd} {row:List Nat} (W:Wh m ds) (c:Cov m ds row) {j:Nat} (hj:j<m):((ds.filter (inC row)).filter fun d=>decide (d.who=j)).length=at0 row j:=by
 have nd:(((ds.filter (inC row)).filter fun d=>decide (d.who=j)).map (·.num)).Nodup:=by
  rw [List.Nodup,wo];refine ((W.uniq.filter _).filter _).imp_of_mem fun {a b} ha hb hab e=>hab ⟨?_,e⟩;have h1:=of_decide_eq_true (zd.mp ha).2;have h2:=of_decide_eq_true (zd.mp hb).2;omega
 have p:(((ds.filter (inC row)).filter fun d=>decide (d.who=j)).map (·.num)).Perm ((List.range (at0 row j)).map (·+1)):=by
  refine (List.perm_ext_iff_of_nodup nd (List.Pairwise.map (·+1) (fun a b h e=>h (by simpa using e)) List.nodup_range)).mpr fun k=>?_
  simp only [List.mem_map,List.mem_filter,List.mem_range]
  constructor
  ·rintro ⟨d,⟨⟨hd,h1⟩,h2⟩,rfl⟩
   have h1:=of_decide_eq_true h1;have h2:=of_decide_eq_true h2;have:=W.own d hd;exact ⟨d.num - 1,by rw [h2] at h1;omega,by omega⟩
  ·rintro ⟨i,hi,rfl⟩
   obtain ⟨e,he,a,b,_⟩:=c j (i+1) hj (by omega) (by omega);exact ⟨e,⟨⟨he,decide_eq_true (by rw [a,b];omega)⟩,decide_eq_true a⟩,b⟩
 have:=p.length_eq;simpa using this
end Hs
namespace My
open PySem L2 PyProof.Rows Hs
def A2 {α β:Type} (R:α->β->Prop) (xs:List α) (ys:List β):Prop:=xs.length=ys.length/\∀ (i:Nat) x y,xs[i]?=some x->ys[i]?=some y->R x y
section
variable {α β γ:Type} {R R':α->β->Prop} {xs:List α} {ys:List β}
theorem A2.nil:A2 R [] []:=⟨rfl,fun _ _ _ z=>by cases z⟩
theorem A2.imp (h:A2 R xs ys) (f:∀ x y,y∈ys->R x y->R' x y):A2 R' xs ys:=⟨h.1,fun i x y e1 e2=>f _ _ (qo e2) (h.2 i x y e1 e2)⟩
theorem A2.at {i:Nat} {x:α} (h:A2 R xs ys) (e:xs[i]?=some x):∃ y,ys[i]?=some y/\R x y:=by
 have hi:=(qx.mp e).1;have hy:ys[i]?=some (ys[i]'(by rw [← h.1];exact hi)):=qi _;exact ⟨_,hy,h.2 i _ _ e hy⟩
theorem A2.to {i:Nat} {y:β} (h:A2 R xs ys) (e:ys[i]?=some y):∃ x,xs[i]?=some x/\R x y:=by
 have hi:=(qx.mp e).1;have hx:xs[i]?=some (xs[i]'(by rw [h.1];exact hi)):=qi _;exact ⟨_,hx,h.2 i _ _ hx e⟩
theorem A2.snoc {x:α} {y:β} (h:A2 R xs ys) (r:R x y):A2 R (xs++[x]) (ys++[y]):=by
 refine ⟨by rw [qv,qv,h.1];rfl,fun i a b e1 e2=>?_⟩
 by_cases hi:i<xs.length
 ·rw [yh hi] at e1
  rw [yh (by rw [← h.1];exact hi)] at e2;exact h.2 i a b e1 e2
 ·rw [yi (by omega)] at e1
  rw [yi (by have:=h.1;omega)] at e2
  have h0:i - xs.length=0:=by
   have:=(qx.mp e1).1
   simp at this
   omega
  rw [h0] at e1;rw [← h.1,h0] at e2;cases e1;cases e2;exact r
theorem A2.tail {x:α} {y:β} (h:A2 R (x::xs) (y::ys)):A2 R xs ys:=⟨Nat.succ.inj h.1,fun i a b e1 e2=>h.2 (i+1) a b (by simpa using e1) (by simpa using e2)⟩
theorem A2.ix {a:α} {b:β} (h:A2 R xs ys) (ix:List Nat) (hi:∀ i∈ix,i<ys.length):A2 R (ix.map fun i=>xs.getD i a) (ix.map fun i=>ys.getD i b):=by
 refine ⟨by simp,fun i x y e1 e2=>?_⟩;rw [ql] at e1 e2
 cases e:ix[i]? with
 | none=>rw [e] at e1;cases e1
 | some k =>
  rw [e] at e1 e2;have hk:=hi k (qo e);have h1:xs[k]?=some (xs[k]'(by rw [h.1];exact hk)):=qi _;have h2:ys[k]?=some (ys[k]'hk):=qi _;have e1':xs.getD k a=x:=Option.some.inj e1;have e2':ys.getD k b=y:=Option.some.inj e2;rw [qq,h1] at e1';rw [qq,h2] at e2';rw [← e1',← e2'];exact h.2 k _ _ h1 h2
theorem A2.mapr {f:γ->β} {zs:List γ} (h:A2 (fun x z=>R x (f z)) xs zs):A2 R xs (zs.map f):=by
 refine ⟨by rw [qg,h.1],fun i x y e1 e2=>?_⟩;rw [ql] at e2
 cases e:zs[i]? with
 | none=>rw [e] at e2;cases e2
 | some z=>rw [e] at e2;cases e2;exact h.2 i x z e1 e
end
theorem A2.dvs {K:PySem.W.Frag} {H:Hp}:∀ {xs:List V} {ds:List PyData},A2 (DV K H) xs ds->DVs K H xs ds
 | [],[],_=>.nil
 | [],_::_,h=>by cases h.1
 | _::_,[],h=>by cases h.1
 | x::xs,d::ds,h=>.cons (h.2 0 x d rfl rfl) (A2.dvs h.tail)
theorem xArh {H:Hp} {ws:List Str} {des:List V} {ds:List Dd} (h:Deeds H ws des ds):A2 (DeedAt H ws) des ds:=⟨h.1,fun i x y e1 e2=>by
 obtain ⟨v,a,b⟩:=h.2 i y e2;rw [e1] at a;cases a
 exact b⟩
theorem lc_A2 {α β:Type} {K:PySem.W.Frag} {a:Addr} {xs:List V} {js:List α} {own:List Str} {fr:List (Str×Nat)} {g:TG} {tt:TT} {te:TE} {σ:L2.St} {H:Hp} {Q:VK} (R:Hp->V->α->Prop) (S:Hp->V->β->Prop) (f:α->Option β)
  (hR:∀ H H' v j,Same H H'->R H v j->R H' v j) (hS:∀ H H' v j,Same H H'->S H v j->S H' v j) (hx:SqL K H a xs) (hz:xs.length≤1000) (an:A2 (R H) xs js)
  (hs:∀ x j H' (K1:V->Hp->Prop) (K0:Hp->Prop),j∈js->Same H H'->R H' x j->(∀ b y H4,f j=some b->Same H' H4->S H4 y b->K1 y H4)->(∀ H3,f j=none->Same H' H3->K0 H3) →
   g x (compSt own fr σ) H' fun σ2 H2=>tt σ2 H2 fun b H3=>if b=true then te σ2 H3 K1 else K0 H3)
  (hd:∀ H' p zs,Same H H'->H p=none->H' p=some (.lst zs)->A2 (S H') zs (js.filterMap f)->Q (.ref p) H'):LCb own fr g tt te σ Q (Itl K a) H:=by
 refine xAjr (xs:=xs) (zf (xAak hz)) (fun i ys H'=>Same H H'/\A2 (S H') ys ((js.take i).filterMap f)) ⟨Same.refl H,.nil⟩ (fun i ys H' h=>h.1.seq hx) ?_ ?_
 ·rintro i x ys H' K1 K0 hx' ⟨s,an'⟩ k1 k0
  obtain ⟨j,ej,rj⟩:=an.at hx'
  have et:js.take (i+1)=js.take i++[j]:=by rw [vj,ej];rfl
  refine hs x j H' K1 K0 (qo ej) s (hR _ _ _ _ s rj) (fun b y H4 e s4 sb=>k1 y H4 ⟨s.trans s4,?_⟩) fun H3 e s3=>k0 H3 ⟨s.trans s3,?_⟩
  ·rw [et,List.filterMap_append,show List.filterMap f [j]=[b] from by simp [e]]
   exact (an'.imp fun _ _ _ h=>hS _ _ _ _ s4 h).snoc sb
  ·rw [et,List.filterMap_append,show List.filterMap f [j]=[] from by simp [e],List.append_nil]
   exact an'.imp fun _ _ _ h=>hS _ _ _ _ s3 h
 ·rintro H' p ys ⟨s,an'⟩ _ g
  rw [an.1,z9] at an';exact hd _ p ys (s.up g) (s.free g) xAae (an'.imp fun _ _ _ h=>hS _ _ _ _ (Same.new g) h)
theorem lc_A3 {α:Type} {K:PySem.W.Frag} {a:Addr} {xs:List V} {js:List α} {own:List Str} {fr:List (Str×Nat)} {g:TG} {te:TE} {σ:L2.St} {H:Hp} {Q:VK} (R S:Hp->V->α->Prop)
  (hR:∀ H H' v j,Same H H'->R H v j->R H' v j) (hS:∀ H H' v j,Same H H'->S H v j->S H' v j) (hx:SqL K H a xs) (hz:xs.length≤1000) (an:A2 (R H) xs js)
  (hs:∀ x j H' (K1:V->Hp->Prop),j∈js->Same H H'->R H' x j->(∀ y H4,Same H' H4->S H4 y j->K1 y H4)->g x (compSt own fr σ) H' fun σ2 H2=>te σ2 H2 K1)
  (hd:∀ H' p zs,Same H H'->H p=none->H' p=some (.lst zs)->A2 (S H') zs js->Q (.ref p) H'):LCb own fr g (fun _ H Q=>Q true H) te σ Q (Itl K a) H:=by
 refine lc_A2 R S some hR hS hx hz an (fun x j H' K1 K0 hj s r k1 k0=>?_) fun H' p zs s g e an'=>hd H' p zs s g e (by rw [List.filterMap_some] at an';exact an')
 have e:(fun σ2 H2=>if true=true then te σ2 H2 K1 else K0 H2)=fun σ2 H2=>te σ2 H2 K1:=by
  funext σ2 H2
  rw [if_pos rfl]
 show g x (compSt own fr σ) H' fun σ2 H2=>if true=true then te σ2 H2 K1 else K0 H2
 rw [e];exact hs x j H' K1 hj s r fun y H4 s4 h4=>k1 j y H4 rfl s4 h4
structure GC (k:Nat) (d:PyData):Prop where
 lay:d.canLay0=true
 dep:d.depth≤k
theorem xAet {k:Nat}:∀ {ds:List PyData},(∀ d∈ds,d.depth≤k)->PyData.depthAll ds≤k
 | [],_=>qu _
 | d::ds,h=>by
  rw [PyData.depthAll];exact Nat.max_le.mpr ⟨h d qr,xAet fun x hx=>h x (qw _ hx)⟩
theorem GC.lst {k:Nat} {ds:List PyData} (h:∀ d∈ds,GC k d):GC (k+1) (.list ds) :=
 ⟨by rw [PyData.canLay0];exact xAcd fun d hd=>(h d hd).lay,by rw [PyData.depth];exact wc (xAet fun d hd=>(h d hd).dep)⟩
theorem GC.tup {k:Nat} {ds:List PyData} (h:∀ d∈ds,GC k d):GC (k+1) (.tuple ds) :=
 ⟨by rw [PyData.canLay0];exact xAcd fun d hd=>(h d hd).lay,by rw [PyData.depth];exact wc (xAet fun d hd=>(h d hd).dep)⟩
theorem GC.up {k m:Nat} {d:PyData} (h:GC k d) (e:k≤m):GC m d:=⟨h.lay,qm h.dep e⟩
theorem xAdo {k:Nat} (i:Int):GC k (.int i):=⟨rfl,qu _⟩
theorem gc_bl {k:Nat} (b:Bool):GC k (.bool b):=⟨rfl,qu _⟩
theorem xAri {k:Nat}:GC k .none:=⟨rfl,qu _⟩
theorem xAbf {k:Nat} {z:Str} (h:PyData.strOk z=true):GC k (.str z):=⟨h,qu _⟩
theorem xAbh {k:Nat}:∀ d∈([]:List PyData),GC k d:=fun _ h=>nomatch h
theorem xAag {k:Nat} {d:PyData} {ds:List PyData} (h:GC k d) (t:∀ d∈ds,GC k d):∀ x∈d::ds,GC k x:=List.forall_mem_cons.mpr ⟨h,t⟩
theorem GC.self {k:Nat} {d:PyData} (h:GC k d):PyData.eqv d d=true:=PySem.SeqAt.eqv_refl d h.lay
abbrev wA (ws:List Str) (j:Nat):Str:=ws.getD j ""
def kOf (ws:List Str) (j k:Nat):KD:=.tup [.inr (wA ws j),.inl (k:Int)]
abbrev kD (ws:List Str) (d:Dd):KD:=kOf ws d.who d.num
def nmD (ws:List Str) (d:Dd):PyData:=.tuple [.str (wA ws d.who),.int d.num]
def ddD (ws:List Str) (d:Dd):PyData:=.tuple [.str (wA ws d.who),.int d.num,.tuple (d.hd.map fun (n:Nat)=>.int (n:Int)),d.br,.tuple d.wt]
theorem wA_of {ws:List Str} {j:Nat} {w:Str} (h:ws[j]?=some w):wA ws j=w:=by
 rw [wA,qq,h];rfl
theorem w_at {ws:List Str} {j:Nat} (h:j<ws.length):ws[j]?=some (wA ws j):=by
 rw [wA,qq,qi h];rfl
theorem w_mem {ws:List Str} {j:Nat} (h:j<ws.length):wA ws j∈ws:=qo (w_at h)
theorem xAed {ws:List Str} (nd:ws.Nodup) {i j k l:Nat} (hi:i<ws.length) (hj:j<ws.length) (h:kOf ws i k=kOf ws j l):i=j/\k=l:=by
 unfold kOf at h;injection h with h;injection h with h1 h2;injection h1 with h1;injection h2 with h2;injection h2 with h2;refine ⟨xAmy nd (w_at hi) ?_,by omega⟩;rw [h1];exact w_at hj
abbrev NmV (H:Hp) (ws:List Str) (v:V) (p:Nat×Nat):Prop:=GK H (kOf ws p.1 p.2) v
theorem xAaw {H H':Hp} {k:KD} {v:V} (s:Same H H') (h:GK H k v):GK H' k v:=by
 cases k with
 | non=>exact h
 | int i=>exact h
 | tup ks=>obtain ⟨b,e,h⟩:=h;exact ⟨b,e,s _ _ h⟩
 | two ks ls=>obtain ⟨b,c,d,e,h1,h2,h3⟩:=h;exact ⟨b,c,d,e,s _ _ h1,s _ _ h2,s _ _ h3⟩
abbrev nm (d:Dd):Nat×Nat:=(d.who,d.num)
theorem NmV.dt {H:Hp} {ws:List Str} {v:V} {d:Dd} (h:NmV H ws v (nm d)):DT H v (nmD ws d):=by
 obtain ⟨b,rfl,e⟩:=h;exact .tup e (.cons (.str _) (.cons (.int _) .nil))
theorem DeedAt.dt {H:Hp} {ws:List Str} {v:V} {d:Dd} (h:DeedAt H ws v d):DT H v (ddD ws d):=by
 obtain ⟨q,w,hq,b,x,rfl,hw,e1,e2,h1,h2⟩:=h;unfold ddD;rw [wA_of hw];refine .tup e1 (.cons (.str _) (.cons (.int _) (.cons (.tup e2 ?_) (.cons h1 (.cons h2 .nil)))));have:=L2.dts_ints H (d.hd.map fun (n:Nat)=>(n:Int));rw [wb,wb] at this;exact this
def Gd (ws:List Str) (d:Dd):Prop:=GC 10 (ddD ws d)
section
variable {ws:List Str} (hw:∀ w∈ws,IsW w)
include hw
theorem gc_w {k:Nat} {w:Str} (h:w∈ws):GC k (.str w):=xAbf (xAbw (hw w h))
theorem xAli {ds:List PyData} (h:NameD ws ds):GC 1 (.tuple ds):=by
 obtain ⟨w,n,rfl,hm,_⟩:=h;exact .tup (xAag (gc_w hw hm) (xAag (xAdo _) xAbh))
theorem xApl {ds:List PyData} (h:PartD ws ds):GC 1 (.tuple ds):=by
 rcases h with rfl | h
 ·exact .tup (xAag (xAbf (by decide +kernel)) (xAag (xAdo _) xAbh))
 ·exact xAli hw h
theorem gc_sn {ds:List PyData} (h:SnD ws ds):GC 1 (.tuple ds):=by
 obtain ⟨w,n,i,rfl,hm,_⟩:=h;exact .tup (xAag (gc_w hw hm) (xAag (xAdo _) (xAag (xAdo _) xAbh)))
theorem xAuv {d:PyData} (h:SideD ws d):GC 2 d:=by
 obtain ⟨ds,z,rfl,h1,h2⟩:=h;refine .tup (xAag (gc_sn hw h1) (xAag (xAbf ?_) xAbh));rcases h2 with rfl | rfl <;> decide +kernel
theorem gc_abc:∀ c∈("abcdefghijklmnopqrstuvwxyz .,":Str).cps.toList,PyData.strOk ⟨#[c]⟩=true:=by decide +kernel
theorem xAuw {d:PyData} (h:SignD ws d):GC 2 d:=by
 rcases h with ⟨c,rfl,hc⟩ | ⟨z,rfl,hz⟩ | ⟨ds,rfl,hd⟩
 ·exact xAbf (gc_abc hw c hc)
 ·exact .tup (xAag (xAbf (by decide +kernel)) (xAag (xAbf (xAbw hz)) xAbh))
 ·exact .tup (xAag (xAbf (by decide +kernel)) (xAag (xApl hw hd) xAbh))
theorem gc_or {P:List PyData->Prop} {d:PyData} (hP:∀ n,P n->GC 1 (.tuple n)) (h:OrD P d):GC 2 d:=by
 rcases h with rfl | ⟨n,rfl,hn⟩
 ·exact xAri
 ·exact (hP n hn).up (by decide)
theorem gc_br {d:PyData} (h:BrD ws d):GC 2 d:=by
 rcases h with rfl | ⟨w,z,rfl,hm,hz⟩
 ·exact xAri
 ·exact .tup (xAag (gc_w hw hm) (xAag (xAbf (xAbw hz)) xAbh))
theorem xAux {num:Int} {wt:List PyData} (h:WhatD ws num wt):GC 4 (.tuple wt):=by
 have P:∀ {p},PartD ws p->GC 3 (.tuple p):=fun h=>(xApl hw h).up (by decide)
 have N:∀ {p},NameD ws p->GC 3 (.tuple p):=fun h=>(xAli hw h).up (by decide)
 have S:∀ {p},SideD ws p->GC 3 p:=fun h=>(xAuv hw h).up (by decide)
 have W:∀ {z:Str},IsW z->GC 3 (.str z):=fun h=>xAbf (xAbw h)
 cases h with
 | nothing=>exact .tup (xAag (xAbf (by decide +kernel)) xAbh)
 | part p h1=>exact .tup (xAag (xAbf (by decide +kernel)) (xAag (P h1) xAbh))
 | move n p h1 h2=>exact .tup (xAag (xAbf (by decide +kernel)) (xAag (N h1) (xAag (P h2) xAbh)))
 | cut n h1=>exact .tup (xAag (xAbf (by decide +kernel)) (xAag (N h1) xAbh))
 | put p b sg h1 h2 h3 h4 h5=>exact .tup (xAag (xAbf (by decide +kernel)) (xAag (P h1) (xAag ((gc_or (ws:=ws) hw (fun _=>gc_sn hw) h2).up (by decide)) (xAag (.tup fun d hd=>xAuw hw (h5 d hd)) xAbh))))
 | out p ns h1 h2 h3 h4 h5 =>
  refine .tup (xAag (xAbf (by decide +kernel)) (xAag (P h1) (xAag (.tup fun d hd=>?_) xAbh)));obtain ⟨n,hn,rfl⟩:=qk.mp hd;exact (gc_sn hw (h4 n hn)).up (by decide)
 | mark p s1 s2 z v h1 h2 h3 h4 h5 =>
  refine .tup (xAag (xAbf (by decide +kernel)) (xAag (P h1) (xAag (S h2) (xAag (S h3) (xAag (W h4) (xAag ?_ xAbh))))));rcases h5 with rfl | ⟨z',rfl,hz⟩
  ·exact xAri
  ·exact W hz
 | note p s1 s2 z h1 h2 h3 h4=>exact .tup (xAag (xAbf (by decide +kernel)) (xAag (P h1) (xAag (S h2) (xAag (S h3) (xAag (W h4) xAbh)))))
 | line p z v h1 h2 h3=>exact .tup (xAag (xAbf (by decide +kernel)) (xAag (P h1) (xAag (xAbf (by rcases h2 with rfl | rfl <;> decide +kernel)) (xAag ((gc_or (ws:=ws) hw (fun _=>xAli hw) h3).up (by decide)) xAbh))))
 | strike p n h1 h2=>exact .tup (xAag (xAbf (by decide +kernel)) (xAag (P h1) (xAag (N h2) xAbh)))
 | cell p a b z h1 h2 h3 h4 =>
  refine .tup (xAag (xAbf (by decide +kernel)) (xAag (P h1) (xAag (N h2) (xAag (N h3) (xAag ?_ xAbh)))));rcases h4 with rfl | h4
  ·exact xAbf (by decide +kernel)
  ·exact W h4
 | leave p w t y h1 h2 h3=>exact .tup (xAag (xAbf (by decide +kernel)) (xAag (P h1) (xAag (gc_w hw h2) (xAag (xAbf (by revert t;decide +kernel)) (xAag (gc_bl _) xAbh)))))
 | back k n h1 h2 h3=>exact .tup (xAag (xAbf (by rcases h1 with rfl | rfl <;> decide +kernel)) (xAag (xAdo _) xAbh))
 | bring k z h1 h2=>exact .tup (xAag (xAbf (by rcases h1 with rfl | rfl <;> decide +kernel)) (xAag (W h2) xAbh))
 | pour cs h1 h2 =>
  refine .tup (xAag (xAbf (by decide +kernel)) (xAag (.tup fun d hd=>?_) xAbh));obtain ⟨n,hn,rfl⟩:=qk.mp hd;exact xAdo _
theorem gd_of {d:Dd} (hd:d.who<ws.length) (h1:BrD ws d.br) (h2:WhatD ws d.num d.wt):Gd ws d:=by
 refine .tup (xAag (gc_w hw (w_mem hd)) (xAag (xAdo _) (xAag (.tup fun x hx=>?_) (xAag ((gc_br hw h1).up (by decide)) (xAag ((xAux hw h2).up (by decide)) xAbh)))));obtain ⟨n,hn,rfl⟩:=qk.mp hx;exact xAdo _
theorem gc_nm {d:Dd} (hd:d.who<ws.length):GC 1 (nmD ws d):=.tup (xAag (gc_w hw (w_mem hd)) (xAag (xAdo _) xAbh))
end
def TD (H:Hp) (ws:List Str) (kvs:List (KD×V×V)) (es:List Dd):Prop:=A2 (fun e d=>e.1=kD ws d/\NmV H ws e.2.1 (nm d)/\DeedAt H ws e.2.2 d) kvs es
theorem TD.same {H H':Hp} {ws:List Str} {kvs:List (KD×V×V)} {es:List Dd} (h:TD H ws kvs es) (s:Same H H'):TD H' ws kvs es:=h.imp fun _ _ _ ⟨a,b,c⟩=>⟨a,xAaw s b,c.mono s⟩
section
variable {H:Hp} {ws:List Str} {kvs:List (KD×V×V)} {es:List Dd} (nd:ws.Nodup) (hw:∀ d∈es,d.who<ws.length)
include nd hw
theorem TD.keys (h:TD H ws kvs es) (u:es.Pairwise fun a b=>¬ (a.who=b.who/\a.num=b.num)):(kvs.map (·.1)).Nodup:=by
 rw [List.Nodup,wo,z8];intro i j hi hj hij e;obtain ⟨a,ea,h1,_⟩:=h.at (qi hi);obtain ⟨b,eb,h2,_⟩:=h.at (qi hj);rw [h1,h2] at e
 have hil:i<es.length:=by rw [← h.1];exact hi
 have hjl:j<es.length:=by rw [← h.1];exact hj
 rw [qi hil] at ea;rw [qi hjl] at eb;cases ea;cases eb;exact z8.mp u i j hil hjl hij (xAed nd (hw _ (wf hil)) (hw _ (wf hjl)) e)
theorem TD.get (h:TD H ws kvs es) (u:es.Pairwise fun a b=>¬ (a.who=b.who/\a.num=b.num)) {d:Dd} (hd:d∈es):∃ v,vG kvs (kD ws d)=some v/\DeedAt H ws v d:=by
 obtain ⟨i,hi,rfl⟩:=zx hd;obtain ⟨e,he,h1,h2,h3⟩:=h.to (qi hi);exact ⟨e.2.2,xAhp (h.keys nd hw u) he h1,h3⟩
theorem TD.no (h:TD H ws kvs es) {j k:Nat} (hj:j<ws.length) (hn:∀ d∈es,¬ (d.who=j/\d.num=k)):vG kvs (kOf ws j k)=none:=xAhq fun e he z=>by
 obtain ⟨i,hi,rfl⟩:=zx he;obtain ⟨d,hd,h1,_⟩:=h.at (qi hi);have hm:=qo hd;rw [h1] at z;exact hn d hm (xAed nd (hw d hm) hj z)
end
def seatL (ws:List Str):List (Key×V):=ws.zipIdx.map fun p=>(.inr p.1,.int (p.2:Int))
theorem xApm {ws:List Str} {j:Nat} (h:j<ws.length):(seatL ws)[j]?=some (.inr (wA ws j),.int (j:Int)):=by
 unfold seatL;rw [ql,List.getElem?_zipIdx,w_at h]
 simp
theorem xAfl {ws:List Str} (nd:ws.Nodup):((seatL ws).map (·.1)).Nodup:=by
 unfold seatL;rw [wb,show ((fun (p:Key×V)=>p.1)∘fun (p:Str×Nat)=>((Sum.inr p.1:Key),V.int (p.2:Int)))=(fun z:Str=>(Sum.inr z:Key))∘Prod.fst from rfl,← wb];rw [show (ws.zipIdx.map Prod.fst)=ws from by simp];exact List.Pairwise.map _ (fun a b h e=>h (by injection e)) nd
theorem xAlj {ws:List Str} (nd:ws.Nodup) {j:Nat} (h:j<ws.length):valV (seatL ws) (.inr (wA ws j))=some (.int (j:Int)):=by
 have hm:((Sum.inr (wA ws j):Key),V.int (j:Int))∈seatL ws:=qo (xApm h);have hn:=xAfl nd;generalize seatL ws=l at hm hn;unfold valV
 induction l with
 | nil=>cases hm
 | cons x r ih =>
  rw [zh,zo] at hn;rcases zg.mp hm with e | e
  ·subst e;simp
  ·have ne:¬ (x.1=(Sum.inr (wA ws j):Key)):=fun z=>hn.1 (qk.mpr ⟨_,e,z.symm⟩)
   rw [List.find?_cons_of_neg (by simpa using ne)];exact ih e hn.2
theorem xAlk (ws:List Str):(seatL ws).length=ws.length:=by unfold seatL;simp
def cC (K:PySem.W.Frag) (c:Str):Addr:=match PySem.W.nsIn K mainGlobals c with
 | some (some (.ref a))=>a
 | _=>0
def F1 (a:V):List (Str×V):=putF "hands" a []
def F2 (a b:V):List (Str×V):=putF "seats" b (F1 a)
def F3 (a b c:V):List (Str×V):=putF "told" c (F2 a b)
def F4 (a b c d:V):List (Str×V):=putF "heights" d (F3 a b c)
def F5 (a b c d e:V):List (Str×V):=putF "sorted_names" e (F4 a b c d)
def F6 (a b c d e:V):List (Str×V):=putF "kept_book" .non (F5 a b c d e)
theorem xAcx (f:Str) (v:V):∀ fs:List (Str×V),(putF f v fs).length≤fs.length+1
 | []=>qh _
 | (k,x)::r=>by
  rw [putF]
  split
  ·exact wu _
  ·exact wc (xAcx f v r)
section
variable {a b c d e:V}
theorem xAuy:(F1 a).length≤1:=xAcx _ _ _
theorem xAuz:(F2 a b).length≤2:=qm (xAcx _ _ _) (wc xAuy)
theorem xAva:(F3 a b c).length≤3:=qm (xAcx _ _ _) (wc xAuz)
theorem xAvb:(F4 a b c d).length≤4:=qm (xAcx _ _ _) (wc xAva)
theorem f5_len:(F5 a b c d e).length≤5:=qm (xAcx _ _ _) (wc xAvb)
theorem xAhx:(F3 a b c).lookup ("told":Str)=some c:=by unfold F3;rw [xAai,if_pos rfl]
theorem xAll:(F3 a b c).lookup ("hands":Str)=some a:=by unfold F3 F2 F1;rw [xAai,if_neg (by decide +kernel),xAai,if_neg (by decide +kernel),xAai,if_pos rfl]
theorem xApn:(F4 a b c d).lookup ("told":Str)=some c:=by unfold F4;rw [xAai,if_neg (by decide +kernel),xAhx]
theorem xAlm:(F4 a b c d).lookup ("seats":Str)=some b:=by unfold F4 F3 F2;rw [xAai,if_neg (by decide +kernel),xAai,if_neg (by decide +kernel),xAai,if_pos rfl]
theorem xAfm:(F4 a b c d).lookup ("heights":Str)=some d:=by unfold F4;rw [xAai,if_pos rfl]
theorem f4_no {m:Str} (h:m∉(["hands","seats","told","heights"]:List Str)):(F4 a b c d).lookup m=none:=by
 simp only [List.mem_cons,List.not_mem_nil,or_false,not_or] at h
 unfold F4 F3 F2 F1;rw [xAai,if_neg h.2.2.2,xAai,if_neg h.2.2.1,xAai,if_neg h.2.1,xAai,if_neg h.1];rfl
theorem xAln:(F6 a b c d e).lookup ("seats":Str)=some b:=by
 unfold F6 F5;rw [xAai,if_neg (by decide +kernel),xAai,if_neg (by decide +kernel),xAlm]
theorem xAvc:(F6 a b c d e).lookup ("told":Str)=some c:=by
 unfold F6 F5;rw [xAai,if_neg (by decide +kernel),xAai,if_neg (by decide +kernel),xApn]
theorem xAlo:(F6 a b c d e).lookup ("heights":Str)=some d:=by
 unfold F6 F5;rw [xAai,if_neg (by decide +kernel),xAai,if_neg (by decide +kernel),xAfm]
theorem xArj:(F6 a b c d e).lookup ("sorted_names":Str)=some e:=by
 unfold F6 F5;rw [xAai,if_neg (by decide +kernel),xAai,if_pos rfl]
theorem f6_no {m:Str} (h:m∉(["hands","seats","told","heights","sorted_names","kept_book"]:List Str)):(F6 a b c d e).lookup m=none:=by
 simp only [List.mem_cons,List.not_mem_nil,or_false,not_or] at h
 unfold F6 F5;rw [xAai,if_neg h.2.2.2.2.2,xAai,if_neg h.2.2.2.2.1];exact f4_no (by simp [h.1,h.2.1,h.2.2.1,h.2.2.2.1])
end
structure Sw (ws:List Str) (hn:Nat->Nat->Nat) (es:List Dd):Prop where
 nd:ws.Nodup
 wh:Wh ws.length es
 hg:HG ws.length es hn
 gd:∀ d∈es,Gd ws d
 few:es.length≤63
theorem Sw.perm {ws:List Str} {hn:Nat->Nat->Nat} {es fs:List Dd} (h:Sw ws hn es) (p:fs.Perm es):Sw ws hn fs :=
 ⟨h.nd,h.wh.perm p,h.hg.sub fun d hd=>p.mem_iff.mp hd,fun d hd=>h.gd d (p.mem_iff.mp hd),by rw [p.length_eq];exact h.few⟩
def HD (ws:List Str) (hn:Nat->Nat->Nat) (es:List Dd) (kvs:List (KD×V×V)):Prop:=∀ d∈es,vG kvs (kD ws d)=some (.int (hn d.who d.num))
def KO (C:Addr) (H:Hp) (x:Addr) (ws:List Str) (hn:Nat->Nat->Nat) (es:List Dd):Prop:=∃ dx fs gp sp kvs,H x=some (.ins C dx fs)/\fs.lookup ("heights":Str)=some (.ref gp)/\fs.lookup ("seats":Str)=some (.ref sp)/\H gp=some (.dG kvs)/\HD ws hn es kvs/\H sp=some (.dK (seatL ws))
inductive FK (C:Addr) (H:Hp) (x:Addr) (ws:List Str) (hn:Nat->Nat->Nat) (ss:List Dd):Prop
 | mk (dx hp sp tp gp np:Addr) (kvs hvs:List (KD×V×V)) (ns:List V) (es:List Dd) (ob:H x=some (.ins C dx (F6 (.ref hp) (.ref sp) (.ref tp) (.ref gp) (.ref np)))) (rl:RL H hp ws) (se:H sp=some (.dK (seatL ws))) (to:Rd H tp (.dG kvs)) (td:TD H ws kvs es) (pe:es.Perm ss) (he:H gp=some (.dG hvs)) (hd:HD ws hn ss hvs) (nl:H np=some (.lst ns)) (na:A2 (NmV H ws) ns (ss.map nm)) (sw:Sw ws hn ss) (up:ss.Pairwise (klt hn)):FK C H x ws hn ss
theorem FK.same {C:Addr} {H H':Hp} {x:Addr} {ws:List Str} {hn:Nat->Nat->Nat} {ss:List Dd} (h:FK C H x ws hn ss) (s:Same H H'):FK C H' x ws hn ss:=by
 obtain ⟨dx,hp,sp,tp,gp,np,kvs,hvs,ns,es,ob,rl,se,to,td,pe,he,hd,nl,na,sw,up⟩:=h;exact ⟨dx,hp,sp,tp,gp,np,kvs,hvs,ns,es,s _ _ ob,rl.mono s,s _ _ se,Rd.same to s,td.same s,pe,s _ _ he,hd,s _ _ nl,na.imp fun _ _ _ g=>xAaw s g,sw,up⟩
theorem FK.ko {C:Addr} {H:Hp} {x:Addr} {ws:List Str} {hn:Nat->Nat->Nat} {ss:List Dd} (h:FK C H x ws hn ss):KO C H x ws hn ss:=by
 obtain ⟨dx,hp,sp,tp,gp,np,kvs,hvs,ns,es,ob,rl,se,to,td,pe,he,hd,nl,na,sw,up⟩:=h;exact ⟨dx,_,gp,sp,hvs,ob,xAlo,xAln,he,hd,se⟩
theorem KO.same {C:Addr} {H H':Hp} {x:Addr} {ws:List Str} {hn:Nat->Nat->Nat} {es:List Dd} (h:KO C H x ws hn es) (s:Same H H'):KO C H' x ws hn es:=by
 obtain ⟨dx,fs,gp,sp,kvs,h1,h2,h3,h4,h5,h6⟩:=h;exact ⟨dx,fs,gp,sp,kvs,s _ _ h1,h2,h3,s _ _ h4,h5,s _ _ h6⟩
theorem xAvd {m:Nat} {ds:List Dd} {row:List Nat} (W:Wh m ds) (c:Cov m ds row) {j:Nat} (hj:j<m):at0 row j≤ds.length:=by
 rw [← xAgh W c hj];exact qm (vk _ _) (vk _ _)
theorem xArk {m:Nat} {ds:List Dd} (W:Wh m ds) {d:Dd} (hd:d∈ds) {n:Nat} (h:n∈d.hd):n≤ds.length:=by
 obtain ⟨i,hi,rfl⟩:=zx h;have:=xAvd W (W.past d hd) (j:=i) (by rw [← W.len d hd];exact hi);unfold at0 at this;rw [qq,qi hi] at this;exact this
theorem xAve {ws:List Str} {i:Nat} {x:V} (h:(ws.map V.str)[i]?=some x):i<ws.length/\x=.str (wA ws i):=by
 have hi:=(qx.mp h).1;rw [qg] at hi;rw [ql,w_at hi] at h;exact ⟨hi,(Option.some.inj h).symm⟩
theorem xArl {r:List Nat} {i:Nat} {x:V} (h:(rowV r)[i]?=some x):i<r.length/\x=.int (at0 r i:Nat):=by
 have hi:=(qx.mp h).1;rw [qg] at hi;refine ⟨hi,?_⟩;rw [ql,qi hi] at h;rw [← Option.some.inj h];unfold at0;rw [qq,qi hi];rfl
theorem xAvf {r:List Nat} {i:Nat} (h:i<r.length):(rowV r)[i]?=some (.int (at0 r i:Nat)):=by
 unfold at0;rw [ql,qq,qi h];rfl
theorem xAhy (row:List Nat) (i:Nat):pastOf row (i+1)=pastOf row i++if 0<at0 row i then [(i,at0 row i)] else []:=by
 unfold pastOf;rw [yn,jh,z7]
 by_cases h:0<at0 row i
 ·rw [if_pos h,show List.filter (fun j=>decide (0<at0 row j)) [i]=[i] from ji (p:=fun j=>decide (0<at0 row j)) (decide_eq_true h)];rfl
 ·rw [if_neg h,show List.filter (fun j=>decide (0<at0 row j)) [i]=[] from List.filter_cons_of_neg (p:=fun j=>decide (0<at0 row j)) (by simpa using h)];rfl
theorem xAgi {H:Hp} {ws:List Str} {p:Addr} {j k:Nat} (h:H p=some (.tup [.str (wA ws j),.int (k:Int)])):NmV H ws (.ref p) (j,k):=⟨p,rfl,h⟩
theorem DeedAt.who {H:Hp} {ws:List Str} {v:V} {d:Dd} (h:DeedAt H ws v d):d.who<ws.length:=by
 obtain ⟨_,_,_,_,_,_,hw,_⟩:=h;exact (qx.mp hw).1
theorem DeedAt.out {H:Hp} {ws:List Str} {v:V} {d:Dd} (h:DeedAt H ws v d):∃ q hq b x,v=.ref q/\H q=some (.tup [.str (wA ws d.who),.int (d.num:Int),.ref hq,b,x])/\H hq=some (.tup (rowV d.hd)):=by
 obtain ⟨q,w,hq,b,x,e,hw,e1,e2,_⟩:=h;exact ⟨q,hq,b,x,e,by rw [wA_of hw];exact e1,e2⟩
theorem xAvg {H:Hp}:∀ {ys:List V} {kvs:List (Key×V)},A2 (fun y e=>∃ b,y=.ref b/\H b=some (.tup [kV e.1,e.2])) ys kvs->PrsK H ys kvs
 | [],[],_=>trivial
 | [],_::_,h=>by cases h.1
 | _::_,[],h=>by cases h.1
 | y::ys,e::es,h=>⟨h.2 0 y e rfl rfl,xAvg h.tail⟩
theorem td_wr {H:Hp} {ws:List Str} {kvs:List (KD×V×V)} {es:List Dd} {a:Addr} {o o':HO} (h:TD H ws kvs es) (e:H a=some o) (ho:∀ ys,o≠.tup ys):TD (upd H a o') ws kvs es:=h.imp fun _ _ _ ⟨x,⟨b,eb,y⟩,z⟩=>⟨x,⟨b,eb,by rw [xAah (xAdm y e ho)];exact y⟩,z.wr e ho⟩
theorem dG_no {kvs:List (KD×V×V)}:∀ ys,(HO.dG kvs)≠.tup ys:=fun _ z=>by cases z
theorem TD.put {H:Hp} {ws:List Str} {kvs:List (KD×V×V)} {es:List Dd} {d:Dd} {nv v:V} (nd:ws.Nodup) (h:TD H ws kvs es) (hn:NmV H ws nv (nm d)) (hv:DeedAt H ws v d) (u:es.Pairwise fun a b=>¬ (a.who=b.who/\a.num=b.num)) (one:∀ a∈es,a.who=d.who->a.num=d.num->a=d) :
  ∃ es',TD H ws (pG kvs (kD ws d) nv v) es'/\(es'.Pairwise fun a b=>¬ (a.who=b.who/\a.num=b.num))/\∀ e,e∈es'↔e∈es\/e=d:=by
 have hw:∀ e∈es,e.who<ws.length:=fun e he=>by
  obtain ⟨i,hi,rfl⟩:=zx he;obtain ⟨_,_,_,_,x⟩:=h.to (qi hi);exact DeedAt.who x
 have hd:=DeedAt.who hv;unfold pG
 by_cases q:d∈es
 ·obtain ⟨v0,e0,_⟩:=h.get nd hw u q
  rw [e0,if_pos (show (some v0).isSome=true from rfl)];refine ⟨es,⟨by rw [qg,h.1],fun i x y e1 e2=>?_⟩,u,fun e=>⟨.inl,fun z=>z.elim id fun z=>by rw [z];exact q⟩⟩;rw [ql] at e1
  cases e3:kvs[i]? with
  | none=>rw [e3] at e1;cases e1
  | some x0 =>
   rw [e3] at e1;have h3:=h.2 i x0 y e3 e2;have e1':x=(if x0.1=kD ws d then (x0.1,x0.2.1,v) else x0):=(Option.some.inj e1).symm
   by_cases r:x0.1=kD ws d
   ·have e4:(if x0.1=kD ws d then (x0.1,x0.2.1,v) else x0)=(x0.1,x0.2.1,v):=if_pos r
    have hy:=qo e2
    have hyd:y=d:=by
     have:=xAed nd (hw y hy) hd (h3.1.symm.trans r);exact one y hy this.1 this.2
    subst hyd;rw [e1',e4];exact ⟨h3.1,h3.2.1,hv⟩
   ·have e4:(if x0.1=kD ws d then (x0.1,x0.2.1,v) else x0)=x0:=if_neg r
    rw [e1',e4];exact h3
 ·have e0:vG kvs (kD ws d)=none:=h.no nd hw hd fun e he z=>q (by rw [← one e he z.1 z.2];exact he)
  rw [e0,if_neg (by decide)];refine ⟨es++[d],h.snoc ⟨rfl,hn,hv⟩,List.pairwise_append.mpr ⟨u,List.pairwise_singleton _ _,fun a ha b hb z=>?_⟩,fun e=>by simp⟩;rw [zb.mp hb] at z;exact q (by rw [← one a ha z.1 z.2];exact ha)
theorem xAcl {α β:Type} (p:α->Bool) (f:α->β):∀ l:List α,(l.filterMap fun e=>if p e=true then some (f e) else none)=(l.filter p).map f
 | []=>rfl
 | a::l=>by
  by_cases h:p a=true
  ·rw [j7 (b:=f a) (by rw [if_pos h]),ji h,zh,xAcl p f l]
  ·rw [List.filterMap_cons_none (by rw [if_neg h]),j8 h,xAcl p f l]
theorem xAdp (H:Hp) (x:Addr) (o:HO):del (upd H x o) x=del H x:=by
 funext b
 by_cases e:b=x
 ·subst e;rw [xAeo,xAeo]
 ·rw [xAep e,xAep e,xAah e]
theorem xAbx (H:Hp) (x:Addr):Same (del H x) H:=fun b o h=>by
 by_cases e:b=x
 ·subst e;rw [xAeo] at h;cases h
 ·rwa [xAep e] at h
theorem xAnw {H:Hp} {x b:Addr} {o:HO} (h:H b=some o) (e:b≠x):(del H x) b=some o:=by rw [xAep e];exact h
theorem xAvh {es fs:List Dd} (h1:es.Pairwise fun a b=>¬ (a.who=b.who/\a.num=b.num)) (h2:fs.Pairwise fun a b=>¬ (a.who=b.who/\a.num=b.num)) (h:∀ d,d∈es↔d∈fs):es.Perm fs:=by
 have n:∀ {l:List Dd},(l.Pairwise fun a b=>¬ (a.who=b.who/\a.num=b.num))->l.Nodup:=fun h=>h.imp fun {a b} g e=>g (by rw [e];exact ⟨rfl,rfl⟩)
 exact (List.perm_ext_iff_of_nodup (n h1) (n h2)).mpr h
theorem xAvi {H H':Hp} {ws:List Str} {v:V} {d:Dd} (h:DeedAt H ws v d) (s:Tups H H'):DeedAt H' ws v d:=by
 obtain ⟨q,w,hq,b,x,e,h1,h2,h3,h4,h5⟩:=h;exact ⟨q,w,hq,b,x,e,h1,s _ _ h2,s _ _ h3,h4.tups s,h5.tups s⟩
theorem xAck {H H':Hp} {ws:List Str} {v:V} {p:Nat×Nat} (h:NmV H ws v p) (s:Tups H H'):NmV H' ws v p:=by
 obtain ⟨b,e,h⟩:=h;exact ⟨b,e,s _ _ h⟩
theorem TD.tups {H H':Hp} {ws:List Str} {kvs:List (KD×V×V)} {es:List Dd} (h:TD H ws kvs es) (s:Tups H H'):TD H' ws kvs es:=h.imp fun _ _ _ ⟨a,b,c⟩=>⟨a,xAck b s,xAvi c s⟩
theorem xArm {H:Hp} {x:Addr} {o:HO} (e:H x=some o) (ho:∀ ys,o≠.tup ys):Tups H (del H x):=fun b xs h=>by
 rw [xAep (xAqo h e ho)];exact h
theorem xAcm {H:Hp} {x:Addr} {o o':HO} (e:H x=some o) (ho:∀ ys,o≠.tup ys):Tups H (upd H x o'):=fun b xs h=>by
 rw [xAah (xAqo h e ho)];exact h
theorem xAvj {C dx:Addr} {fs:List (Str×V)}:∀ ys,(HO.ins C dx fs)≠.tup ys:=fun _ z=>by cases z
theorem A2.ofmap {α β γ:Type} {R:α->β->Prop} {f:γ->β} {xs:List α} {zs:List γ} (h:A2 R xs (zs.map f)):A2 (fun x z=>R x (f z)) xs zs:=⟨by rw [h.1,qg],fun i x z e1 e2=>h.2 i x (f z) e1 (by rw [ql,e2];rfl)⟩
theorem xAnx {H:Hp} {y dy:Addr} {o1 o2:HO} (h1:H y=none) (h2:H dy=none):Same H (del (upd (upd H dy o1) y o2) y):=fun b o h=>by
 have n1:b≠y:=xAaj h h1;rw [xAep n1,xAah n1,xAah (xAaj h h2)];exact h
theorem FK.upw {C:Addr} {H:Hp} {x:Addr} {ws:List Str} {hn:Nat->Nat->Nat} {ss:List Dd} (h:FK C H x ws hn ss):ss.Pairwise (klt hn):=by
 obtain ⟨_,_,_,_,_,_,_,_,_,_,_,_,_,_,_,_,_,_,_,_,_,up⟩:=h;exact up
theorem FK.obj {C:Addr} {H:Hp} {x:Addr} {ws:List Str} {hn:Nat->Nat->Nat} {ss:List Dd} (h:FK C H x ws hn ss):∃ dx fs,H x=some (.ins C dx fs)/\∀ m:Str,m∉(["hands","seats","told","heights","sorted_names","kept_book"]:List Str)->fs.lookup m=none:=by
 obtain ⟨dx,_,_,_,_,_,_,_,_,_,ob,_⟩:=h;exact ⟨dx,_,ob,fun m hm=>f6_no hm⟩
theorem xAvk {ws:List Str} (nd:ws.Nodup) {j:Nat} (hj:j<ws.length):(∃ d,(ws.map PyData.str)[j]?=some d/\PyData.eqv d (.str (wA ws j))=true)/\∀ (m:Nat) d,m<j->(ws.map PyData.str)[m]?=some d->PyData.eqv d (.str (wA ws j))=false:=by
 constructor
 ·exact ⟨_,by rw [List.getElem?_map,w_at hj];rfl,by simp [PyData.eqv]⟩
 ·intro m d hm e
  rw [ql,w_at (ww hm hj)] at e;cases e
  have:wA ws m≠wA ws j:=fun z=>by
   have:=xAmy nd (w_at (ww hm hj)) (by rw [z];exact w_at hj);omega
  rw [PyData.eqv];exact beq_eq_false_iff_ne.mpr this
theorem rl_dvs {K:PySem.W.Frag} {H:Hp} (ws:List Str):DVs K H (ws.map V.str) (ws.map PyData.str):=by
 induction ws with
 | nil=>exact .nil
 | cons w ws ih=>exact .cons (.str _) ih
theorem rl_lay {ws:List Str} (h:∀ w∈ws,IsW w):PyData.canLayAll0 (ws.map PyData.str)=true:=xAcd fun d hd=>by
 obtain ⟨w,hw,rfl⟩:=qk.mp hd;exact xAbw (h w hw)
theorem xAny (ns:List Nat):KeysAre (ns.map fun (n:Nat)=>.int (n:Int)) 0:=by
 have all:∀ d∈ns.map (fun (n:Nat)=>PyData.int (n:Int)),∃ i,d=.int i:=fun d hd=>by
  obtain ⟨n,_,rfl⟩:=qk.mp hd;exact ⟨_,rfl⟩
 refine ⟨xAcd fun d hd=>?_,fun d hd=>?_,fun a ha b hb=>?_,fun d hd=>?_⟩
 ·obtain ⟨i,rfl⟩:=all d hd;rfl
 ·obtain ⟨i,rfl⟩:=all d hd;exact trivial
 ·obtain ⟨i,rfl⟩:=all a ha;obtain ⟨j,rfl⟩:=all b hb;rfl
 ·obtain ⟨i,rfl⟩:=all d hd;exact qu _
theorem xAvl (hn:Nat->Nat->Nat) (es:List Dd):KeysAre (es.map (kyD hn)) 2:=by
 have all:∀ d∈es.map (kyD hn),∃ i j,d=.tuple [.int i,.int j]:=fun d hd=>by
  obtain ⟨n,_,rfl⟩:=qk.mp hd;exact ⟨_,_,rfl⟩
 refine ⟨xAcd fun d hd=>?_,fun d hd=>?_,fun a ha b hb=>?_,fun d hd=>?_⟩
 ·obtain ⟨i,j,rfl⟩:=all d hd;rfl
 ·obtain ⟨i,j,rfl⟩:=all d hd;exact trivial
 ·obtain ⟨i,j,rfl⟩:=all a ha;obtain ⟨k,l,rfl⟩:=all b hb;rfl
 ·obtain ⟨i,j,rfl⟩:=all d hd;exact y8 rfl
theorem xAvm {es:List Dd} {ix:List Nat} (p1:ix.Perm (List.range es.length)) (d0:Dd):(ix.map fun i=>es.getD i d0).Perm es:=by
 refine (p1.map _).trans (.of_eq ?_);apply wg;intro i;rw [ql]
 by_cases hi:i<es.length
 ·rw [yg hi,qi hi]
  show some (es.getD i d0)=_;rw [qq,qi hi];rfl
 ·rw [List.getElem?_eq_none (by simpa using hi),List.getElem?_eq_none (by simpa using hi)];rfl
theorem xAlp {es:List Dd} {ix:List Nat} (six:SortIx (es.map fun d=>PyData.int (d.hd.sum:Nat)) ix) (d0:Dd):(ix.map fun i=>es.getD i d0).Perm es/\(ix.map fun i=>es.getD i d0).Pairwise fun a b=>a.hd.sum≤b.hd.sum:=by
 obtain ⟨p1,p2⟩:=six;rw [qg] at p1;refine ⟨xAvm p1 d0,?_⟩;rw [wo] at p2 ⊢;refine p2.imp_of_mem fun {a b} ha hb hab=>?_
 have ka:∀ i,i∈ix->keyAt (es.map fun d=>PyData.int (d.hd.sum:Nat)) i=.int ((es.getD i d0).hd.sum:Nat):=fun i hi=>by
  have:i<es.length:=zp.mp (p1.mem_iff.mp hi);unfold keyAt;rw [qq,ql,qq,qi this];rfl
 rw [ka a ha,ka b hb,ltD] at hab;have:=of_decide_eq_false hab;omega
open Classical in
noncomputable def delS (H:Hp) (S:Addr->Prop):Hp:=fun b=>if S b then none else H b
theorem xAdq {H:Hp} {S:Addr->Prop} {b:Addr} {o:HO} (h:H b=some o) (n:¬ S b):delS H S b=some o:=by
 unfold delS;rw [if_neg n];exact h
theorem xAnz {H:Hp} {S:Addr->Prop}:Same (delS H S) H:=fun b o h=>by
 unfold delS at h
 by_cases e:S b
 ·rw [if_pos e] at h;cases h
 ·rw [if_neg e] at h;exact h
theorem FK.all {C:Addr} {H:Hp} {x:Addr} {ws:List Str} {hn:Nat->Nat->Nat} {ss:List Dd} (h:∀ S:Addr->Prop,(∀ b,S b->False)->FK C (delS H S) x ws hn ss):FK C H x ws hn ss:=(h (fun _=>False) fun _ z=>z).same xAnz
def sp_fBa (K:PySem.W.Frag):Sp:=fun vs H Q _=>∃ v ws d,vs=[v]/\DeedAt H ws v d/\∀ H' nv,Same H H'->NmV H' ws nv (nm d)->Q nv H'
def sp_fAz (K:PySem.W.Frag):Sp:=fun vs H Q _=>∃ dp des ws fs,vs=[.ref dp]/\H dp=some (.lst des)/\A2 (DeedAt H ws) des fs/\ws.Nodup/\(∀ d∈fs,Gd ws d)/\fs.length≤1000/\(∀ a∈fs,∀ b∈fs,a.who=b.who->a.num=b.num->a=b) ∧
 ∀ H' t kvs es,Same H H'->H t=none->H' t=some (.dG kvs)->TD H' ws kvs es->(es.Pairwise fun a b=>¬ (a.who=b.who/\a.num=b.num))->(∀ d,d∈es↔d∈fs)->Q (.ref t) H'
def sp_fAl (K:PySem.W.Frag):Sp:=fun vs H Q _=>∃ rp v ws d,vs=[.ref rp,v]/\RL H rp ws/\DeedAt H ws v d/\d.hd.length=ws.length/\∀ H' p ns,Same H H'->H p=none->H' p=some (.lst ns)->A2 (NmV H' ws) ns (pastOf d.hd ws.length)->Q (.ref p) H'
def sp_fAd (K:PySem.W.Frag):Sp:=fun vs H Q _=>∃ v u ws d e,vs=[v,u]/\DeedAt H ws v d/\DeedAt H ws u e/\d.hd.length≤1000/\e.hd.length=d.hd.length/\∀ H' b,Same H H'->(b=true↔∀ i,i<d.hd.length->at0 e.hd i≤at0 d.hd i)->Q (.bl b) H'
def sp_fAn (K:PySem.W.Frag):Sp:=fun vs H Q _=>∃ rp tp v ws d es kvs,vs=[.ref rp,.ref tp,v]/\RL H rp ws/\Rd H tp (.dG kvs)/\TD H ws kvs es/\ws.Nodup/\Wh ws.length es/\DeedAt H ws v d/\d∈es/\∀ H',Same H H'->Q .non H'
def sp_fAf (K:PySem.W.Frag):Sp:=fun vs H Q _=>∃ v ws d,vs=[v]/\DeedAt H ws v d/\d.hd.length≤6/\(∀ n∈d.hd,n≤1000)/\Q (.int (d.hd.sum:Nat)) H
def sp_fAo (K:PySem.W.Frag):Sp:=fun vs H Q _=>∃ rp tp ws hn es kvs,vs=[.ref rp,.ref tp]/\RL H rp ws/\Rd H tp (.dG kvs)/\TD H ws kvs es/\Sw ws hn es/\∀ H' g hvs,Same H H'->H g=none->H' g=some (.dG hvs)->HD ws hn es hvs->Q (.ref g) H'
def sp_fAx (K:PySem.W.Frag):Sp:=fun vs H Q _=>∃ rp ws,vs=[.ref rp]/\RL H rp ws/\ws.Nodup/\∀ H' s,Same H H'->H s=none->H' s=some (.dK (seatL ws))->Q (.ref s) H'
def sp_fAh (K:PySem.W.Frag):Sp:=fun vs H Q _=>∃ x dx rp dp ws hn des fs es,vs=[.ref x,.ref rp,.ref dp]/\H x=some (.ins (cC K "Folk") dx [])/\RL (del H x) rp ws/\(del H x) dp=some (.lst des)/\A2 (DeedAt (del H x) ws) des fs/\Sw ws hn es/\(∀ d,d∈es↔d∈fs)/\fs.length≤1000 ∧
 ∀ H' ss,Same (del H x) H'->ss.Perm es->(∀ S:Addr->Prop,(∀ b,S b->∃ o,(del H x) b=some o/\∀ ys,o≠.tup ys)->FK (cC K "Folk") (delS H' S) x ws hn ss)->Q .non H'
def sp_fAy (K:PySem.W.Frag):Sp:=fun vs H Q _=>∃ x v ws hn es d,vs=[.ref x,v]/\KO (cC K "Folk") H x ws hn es/\NmV H ws v (nm d)/\d∈es/\d.who<ws.length/\ws.Nodup/\∀ H' kv,Same H H'->DT H' kv (kyD hn d)->Q kv H'
def sp_fAp (K:PySem.W.Frag):Sp:=fun vs H Q _=>∃ x v ws hn ss d,vs=[.ref x,v]/\FK (cC K "Folk") H x ws hn ss/\NmV H ws v (nm d)/\d∈ss/\∀ H' p ns,Same H H'->H p=none->H' p=some (.lst ns)->A2 (NmV H' ws) ns ((ss.filter (inC d.hd)).map nm)->Q (.ref p) H'
def sp_fAc (K:PySem.W.Frag):Sp:=fun vs H Q _=>∃ x cp ws hn ss row,vs=[.ref x,.ref cp]/\FK (cC K "Folk") H x ws hn ss/\H cp=some (.tup (rowV row))/\row.length=ws.length/\∀ H' p ns,Same H H'->H p=none->H' p=some (.lst ns)->A2 (NmV H' ws) ns ((ss.filter (inC row)).map nm)->Q (.ref p) H'
section
variable {K:PySem.W.Frag} {vs:List V} {H:Hp} {Q:VK} {E:XK}
theorem xAvn (h:sp_fBa K vs H Q E):vs.length=1:=by obtain ⟨_,_,_,rfl,_⟩:=h;rfl
theorem xAvo (h:sp_fAz K vs H Q E):vs.length=1:=by obtain ⟨_,_,_,_,rfl,_⟩:=h;rfl
theorem xAvp (h:sp_fAl K vs H Q E):vs.length=2:=by obtain ⟨_,_,_,_,rfl,_⟩:=h;rfl
theorem xAvq (h:sp_fAd K vs H Q E):vs.length=2:=by obtain ⟨_,_,_,_,_,rfl,_⟩:=h;rfl
theorem xAvr (h:sp_fAn K vs H Q E):vs.length=3:=by obtain ⟨_,_,_,_,_,_,_,rfl,_⟩:=h;rfl
theorem xAvs (h:sp_fAf K vs H Q E):vs.length=1:=by obtain ⟨_,_,_,rfl,_⟩:=h;rfl
theorem xAvt (h:sp_fAo K vs H Q E):vs.length=2:=by obtain ⟨_,_,_,_,_,_,rfl,_⟩:=h;rfl
theorem xAvu (h:sp_fAx K vs H Q E):vs.length=1:=by obtain ⟨_,_,rfl,_⟩:=h;rfl
theorem xAvv (h:sp_fAh K vs H Q E):vs.length=3:=by obtain ⟨_,_,_,_,_,_,_,_,_,rfl,_⟩:=h;rfl
theorem xAvw (h:sp_fAy K vs H Q E):vs.length=2:=by obtain ⟨_,_,_,_,_,_,rfl,_⟩:=h;rfl
theorem xAvx (h:sp_fAp K vs H Q E):vs.length=2:=by obtain ⟨_,_,_,_,_,_,rfl,_⟩:=h;rfl
theorem xAvy (h:sp_fAc K vs H Q E):vs.length=2:=by obtain ⟨_,_,_,_,_,_,rfl,_⟩:=h;rfl
end
def ND (R:V->Dd->Prop) (H:Hp) (ws:List Str) (kvs:List (KD×V×V)) (es:List Dd):Prop:=A2 (fun e d=>e.1=kD ws d/\NmV H ws e.2.1 (nm d)/\R e.2.2 d) kvs es
section
variable {R:V->Dd->Prop} {H:Hp} {ws:List Str} {kvs:List (KD×V×V)} {es:List Dd} (nd:ws.Nodup) (hw:∀ d∈es,d.who<ws.length)
include nd hw
theorem ND.get (h:ND R H ws kvs es) (u:es.Pairwise fun a b=>¬ (a.who=b.who/\a.num=b.num)) {d:Dd} (hd:d∈es):∃ v,vG kvs (kD ws d)=some v/\R v d:=by
 have hk:(kvs.map (·.1)).Nodup:=by
  rw [List.Nodup,wo,z8];intro i j hi hj hij e;obtain ⟨a,ea,h1,_⟩:=h.at (qi hi);obtain ⟨b,eb,h2,_⟩:=h.at (qi hj);rw [h1,h2] at e
  have hil:i<es.length:=by rw [← h.1];exact hi
  have hjl:j<es.length:=by rw [← h.1];exact hj
  rw [qi hil] at ea;rw [qi hjl] at eb;cases ea;cases eb;exact z8.mp u i j hil hjl hij (xAed nd (hw _ (wf hil)) (hw _ (wf hjl)) e)
 obtain ⟨i,hi,rfl⟩:=zx hd;obtain ⟨e,he,h1,h2,h3⟩:=h.to (qi hi);exact ⟨e.2.2,xAhp hk he h1,h3⟩
theorem ND.put (h:ND R H ws kvs es) {d:Dd} (hd:d.who<ws.length) (no:∀ e∈es,¬ (e.who=d.who/\e.num=d.num)) {nv v:V} (h1:NmV H ws nv (nm d)) (h2:R v d):ND R H ws (pG kvs (kD ws d) nv v) (es++[d]):=by
 have e0:vG kvs (kD ws d)=none:=xAhq fun e he z=>by
  obtain ⟨i,hi,rfl⟩:=zx he;obtain ⟨f,hf,h1,_⟩:=h.at (qi hi);have hm:=qo hf;rw [h1] at z;exact no f hm (xAed nd (hw f hm) hd z)
 unfold pG;rw [e0,if_neg (by decide)];exact A2.snoc h ⟨rfl,h1,h2⟩
end
theorem ND.go {R R':V->Dd->Prop} {H H':Hp} {ws:List Str} {kvs:List (KD×V×V)} {es:List Dd} (h:ND R H ws kvs es) (s:Tups H H') (f:∀ v d,R v d->R' v d):ND R' H' ws kvs es:=A2.imp h fun _ _ _ ⟨a,b,c⟩=>⟨a,xAck b s,f _ _ c⟩
theorem dt_ky {H:Hp} {hn:Nat->Nat->Nat} {d:Dd} {v:V} (h:DT H v (kyD hn d)):∃ b,v=.ref b/\H b=some (.tup [.int (hn d.who d.num:Nat),.int (d.who:Nat)]):=by
 unfold kyD at h
 cases h with
 | tup e t =>
  cases t with
  | cons a t =>
   cases t with
   | cons b t =>
    cases t;cases a;cases b;exact ⟨_,rfl,e⟩
def kyK (hn:Nat->Nat->Nat) (d:Dd):List Key:=[.inl (hn d.who d.num:Nat),.inl (d.who:Nat)]
theorem xArn {m:Nat} {ds:List Dd} {hn:Nat->Nat->Nat} (W:Wh m ds) (h:HG m ds hn):(ds.map (kyK hn)).Nodup:=by
 rw [List.Nodup,wo];refine W.uniq.imp_of_mem fun {a b} ha hb hab e=>?_;unfold kyK at e;injection e with e1 e2;injection e1 with e1;injection e2 with e2;injection e2 with e2
 have q:¬ klt hn b a:=fun z=>by unfold klt at z;omega
 have:=klt.tot W h ha hb (fun z=>hab (by rw [z];exact ⟨rfl,rfl⟩)) q;unfold klt at this;omega
theorem xAro {m:Nat} {ds:List Dd} {hn:Nat->Nat->Nat} (W:Wh m ds) (g:HG m ds hn) {d e:Dd} (hd:d∈ds) (he:e∈ds) (h:inC d.hd e=true):hn e.who e.num<hn d.who d.num:=by
 rw [xAuu W g hd];have:=le_maxL (qk.mpr ⟨e,zd.mpr ⟨he,h⟩,rfl⟩:hn e.who e.num∈(ds.filter (inC d.hd)).map fun e=>hn e.who e.num);omega
theorem xArp {hn:Nat->Nat->Nat} {d e:Dd} (h:hn e.who e.num<hn d.who d.num):HT.lexLt [(hn e.who e.num:Nat),(e.who:Nat)] [(hn d.who d.num:Nat),(d.who:Nat)]=true:=by
 rw [HT.lexLt_cons,if_neg (by omega)];exact decide_eq_true (by omega)
def duD (ws:List Str) (hn:Nat->Nat->Nat) (d:Dd):PyData:=.tuple [kyD hn d,nmD ws d]
def DuAt (H:Hp) (ws:List Str) (hn:Nat->Nat->Nat) (v:V) (d:Dd):Prop:=∃ b kv nv,v=.ref b/\H b=some (.tup [kv,nv])/\DT H kv (kyD hn d)/\NmV H ws nv (nm d)
theorem DuAt.tups {H H':Hp} {ws:List Str} {hn:Nat->Nat->Nat} {v:V} {d:Dd} (h:DuAt H ws hn v d) (s:Tups H H'):DuAt H' ws hn v d:=by
 obtain ⟨b,kv,nv,e,h1,h2,h3⟩:=h;exact ⟨b,kv,nv,e,s _ _ h1,DT.tups s h2,xAck h3 s⟩
theorem DuAt.dv {K:PySem.W.Frag} {H:Hp} {ws:List Str} {hn:Nat->Nat->Nat} {v:V} {d:Dd} (h:DuAt H ws hn v d):DV K H v (duD ws hn d):=by
 obtain ⟨b,kv,nv,rfl,h1,h2,h3⟩:=h;exact .tup (SqT.of h1) (.cons h2.dv (.cons (NmV.dt h3).dv .nil))
theorem du_lt {ws:List Str} {hn:Nat->Nat->Nat} {a b:Dd} (h:ltD (kyD hn a) (kyD hn b)=true):ltD (duD ws hn a) (duD ws hn b)=true:=by
 unfold duD;rw [ltD,ltDs,if_neg]
 ·exact h
 ·intro z
  rw [(sk_eq (kyD hn a) (kyD hn b) rfl).mp z,xAea] at h;cases h
theorem xAvz {ws:List Str} (hw:∀ w∈ws,IsW w) (hn:Nat->Nat->Nat) (es:List Dd) (he:∀ d∈es,d.who<ws.length):KeysAre (es.map (duD ws hn)) 4:=by
 have all:∀ d∈es.map (duD ws hn),∃ i j s n,d=.tuple [.tuple [.int i,.int j],.tuple [.str s,.int n]]:=fun d hd=>by
  obtain ⟨n,_,rfl⟩:=qk.mp hd;exact ⟨_,_,_,_,rfl⟩
 refine ⟨xAcd fun d hd=>?_,fun d hd=>?_,fun a ha b hb=>?_,fun d hd=>?_⟩
 ·obtain ⟨n,hm,rfl⟩:=qk.mp hd
  exact GC.lay (k:=2) (.tup (xAag (.tup (xAag (xAdo _) (xAag (xAdo _) xAbh))) (xAag (gc_nm hw (he n hm)) xAbh)))
 ·obtain ⟨i,j,s,n,rfl⟩:=all d hd;exact trivial
 ·obtain ⟨i,j,s,n,rfl⟩:=all a ha;obtain ⟨k,l,t,m,rfl⟩:=all b hb;rfl
 ·obtain ⟨i,j,s,n,rfl⟩:=all d hd;exact y8 rfl
theorem six_of {es:List Dd} {ix:List Nat} {f g:Dd->PyData} (hf:∀ a b,ltD (g a) (g b)=true->ltD (f a) (f b)=true) (six:SortIx (es.map f) ix):SortIx (es.map g) ix:=by
 obtain ⟨p1,p2⟩:=six;rw [qg] at p1;refine ⟨by rw [qg];exact p1,?_⟩;rw [wo] at p2 ⊢;refine p2.imp_of_mem fun {a b} ha hb hab=>?_
 have ka:∀ (f:Dd->PyData) i (h:i<es.length),keyAt (es.map f) i=f es[i]:=fun f i h=>by
  unfold keyAt;rw [qq,ql,qi h];rfl
 have h1:a<es.length:=zp.mp (p1.mem_iff.mp ha);have h2:b<es.length:=zp.mp (p1.mem_iff.mp hb);rw [ka f a h1,ka f b h2] at hab;rw [ka g a h1,ka g b h2]
 cases e:ltD (g es[b]) (g es[a]) with
 | false=>rfl
 | true=>rw [hf _ _ e] at hab;cases hab
def PV (H:Hp) (ws:List Str) (ps:List Dd) (v:V):Prop:=∃ p ns,v=.ref p/\H p=some (.lst ns)/\A2 (fun v e=>NmV H ws v (nm e)) ns ps
theorem PV.same {H H':Hp} {ws:List Str} {ps:List Dd} {v:V} (h:PV H ws ps v) (s:Same H H'):PV H' ws ps v:=by
 obtain ⟨p,ns,e,h1,h2⟩:=h;exact ⟨p,ns,e,s _ _ h1,h2.imp fun _ _ _ g=>xAaw s g⟩
theorem PV.dv {K:PySem.W.Frag} {H:Hp} {ws:List Str} {ps:List Dd} {v:V} (h:PV H ws ps v):DV K H v (.list (ps.map (nmD ws))):=by
 obtain ⟨p,ns,rfl,h1,h2⟩:=h;exact .lst (SqL.of h1) (A2.dvs (A2.mapr (h2.imp fun _ _ _ g=>(NmV.dt g).dv)))
theorem xArq {H H':Hp} {p:Addr} (k:∀ b o,b≠p->H b=some o->H' b=some o):Same (del H p) (del H' p):=fun b o h=>by
 by_cases e:b=p
 ·rw [e] at h
  unfold del at h
  simp at h
 ·rw [xAep e] at h ⊢
  exact k b o e h
theorem xAwa {m:Nat} {ds:List Dd} (W:Wh m ds) {d e f:Dd} (hd:d∈ds) (he:e∈ds) (hf:f∈ds) (h:inC d.hd e=true) (g:inC e.hd f=true):inC d.hd f=true:=by
 have h1:=xAir W (W.past d hd) he h
 have h2:f∈(ds.filter (inC d.hd)).filter (inC e.hd):=by
  rw [h1];exact zd.mpr ⟨hf,g⟩
 exact (zd.mp (zd.mp h2).1).2
theorem in_pv {ws:List Str} (hw:∀ w∈ws,IsW w) {ps:List Dd} {f:Dd} (hf:f∈ps) (hl:f.who<ws.length):((ps.map (nmD ws)).any fun d=>PyData.eqv d (nmD ws f))=true :=
 vd.mpr ⟨_,qk.mpr ⟨f,hf,rfl⟩,(gc_nm hw hl).self⟩
end My
namespace Stb
open PySem SetTable
def Mk (m:Nat):Prop:=m=7\/m=31\/m=127
def F (M:Nat):Nat->Nat
 | 0=>0
 | n+1=>(F M n * 5+1) % M
theorem F_all7:∀ j,j<8->∃ a,a<8/\F 8 a=j:=by decide +kernel
theorem xAwb:∀ j,j<32->∃ a,a<32/\F 32 a=j:=by decide +kernel
theorem xArr:∀ j,j<128->∃ a,a<128/\F 128 a=j:=by decide +kernel
theorem F_all {m:Nat} (h:Mk m):∀ j,j<m+1->∃ a,a<m+1/\F (m+1) a=j:=by
 rcases h with rfl | rfl | rfl
 ·exact F_all7
 ·exact xAwb
 ·exact xArr
theorem F_back {m:Nat} (h:Mk m):F (m+1) (m+1)=0:=by
 rcases h with rfl | rfl | rfl <;> decide +kernel
def lp (m:Nat):Nat->Nat×Nat->Nat×Nat
 | 0,x=>x
 | r+1,x=>lp m r (leap m x.1 x.2)
theorem xAwc (m r r':Nat) (x:Nat×Nat):lp m (r+r') x=lp m r' (lp m r x):=by
 induction r generalizing x with
 | zero=>rw [vh];rfl
 | succ r ih=>rw [Nat.succ_add];exact ih _
theorem lp_lt {m:Nat}:∀ (r:Nat) (x:Nat×Nat),x.1<m+1->(lp m r x).1<m+1
 | 0,_,h=>h
 | r+1,x,_=>lp_lt r _ (jj _ (jk _))
theorem xAwd (m:Nat):∀ (r:Nat) (x:Nat×Nat),(lp m r x).2=x.2 / 32 ^ r
 | 0,x=>by rw [Nat.pow_zero,Nat.div_one];rfl
 | r+1,x=>by
  show (lp m r (leap m x.1 x.2)).2=_;rw [xAwd m r,show (leap m x.1 x.2).2=x.2 / 32 from rfl,Nat.div_div_eq_div_mul,Nat.pow_succ,Nat.mul_comm]
theorem xAlq (m:Nat):∀ (r a:Nat),lp m r (F (m+1) a,0)=(F (m+1) (a+r),0)
 | 0,_=>rfl
 | r+1,a=>by
  show lp m r (leap m (F (m+1) a) 0)=_
  have:leap m (F (m+1) a) 0=(F (m+1) (a+1),0):=by
   show ((F (m+1) a * 5+1+0 / 32) % (m+1),0 / 32)=_;rw [Nat.zero_div,ym];rfl
  rw [this,xAlq m r (a+1),Nat.add_right_comm,jl]
theorem F_per {m:Nat} (h:Mk m) (n:Nat):F (m+1) (m+1+n)=F (m+1) n:=by
 induction n with
 | zero=>exact F_back h
 | succ n ih =>
  show (F (m+1) (m+1+n) * 5+1) % (m+1)=_;rw [ih];rfl
theorem reach {m i q j:Nat} (h:Mk m) (hi:i<m+1) (hq:q<2 ^ 64) (hj:j<m+1):∃ r,r≤m+13/\(lp m r (i,q)).1=j:=by
 have h1:=lp_lt 13 (i,q) hi
 have h2:(lp m 13 (i,q)).2=0:=by
  rw [xAwd];exact Nat.div_eq_of_lt (qz hq (by decide))
 obtain ⟨a,ha,ea⟩:=F_all h _ h1;obtain ⟨b,hb,eb⟩:=F_all h _ hj;have e0:lp m 13 (i,q)=(F (m+1) a,0):=Prod.ext ea.symm h2
 by_cases q:a≤b
 ·refine ⟨13+(b - a),by omega,?_⟩
  rw [xAwc,e0,xAlq];show F (m+1) (a+(b - a))=j;rw [Nat.add_sub_cancel' q,eb]
 ·refine ⟨13+(m+1 - a+b),by omega,?_⟩
  rw [xAwc,e0,xAlq];show F (m+1) (a+(m+1 - a+b))=j;rw [show a+(m+1 - a+b)=m+1+b from by omega,F_per h,eb]
def adv (t:SetTable):Nat->Probe->Probe
 | 0,p=>p
 | n+1,p=>adv t n (t.advance p)
theorem xAlr (t:SetTable) (n n':Nat) (p:Probe):adv t (n+n') p=adv t n' (adv t n p):=by
 induction n generalizing p with
 | zero=>rw [vh];rfl
 | succ n ih=>rw [Nat.succ_add];exact ih _
def at' (m i q:Nat):Probe:={ j:=i,more:=runEnd m i - i,i,perturb:=q,dummy:=none }
theorem xApo (t:SetTable):∀ (c k:Nat) (p:Probe),p.more=c+k->adv t c p={ p with j:=p.j+c,more:=k }
 | 0,k,p,h=>by
  have:p.more=k:=by omega
  show p={ p with j:=p.j+0,more:=k };rw [← this];rfl
 | c+1,k,p,h=>by
  show adv t c (t.advance p)=_
  have e:t.advance p={ p with j:=p.j+1,more:=p.more - 1 }:=by
   unfold advance;rw [if_pos (by omega)]
  rw [e,xApo t c k _ (by show p.more - 1=c+k;omega)];show ({ p with j:=p.j+1+c,more:=k }:Probe)={ p with j:=p.j+(c+1),more:=k };rw [show p.j+1+c=p.j+(c+1) from by omega]
theorem run_le (m i:Nat):runEnd m i - i≤9:=by
 unfold runEnd
 split <;> omega
theorem xAoa (t:SetTable) (i q:Nat):adv t (runEnd t.mask i - i+1) (at' t.mask i q)=at' t.mask (leap t.mask i q).1 (leap t.mask i q).2:=by
 rw [xAlr,xApo t (runEnd t.mask i - i) 0 (at' t.mask i q) (by rw [ym];rfl)];show t.advance { at' t.mask i q with j:=_,more:=0 }=_;unfold advance;rw [if_neg (by show ¬ (0>0);omega)];rfl
theorem xAfn (t:SetTable):∀ (r i q:Nat),∃ n,n≤10 * r/\adv t n (at' t.mask i q)=at' t.mask (lp t.mask r (i,q)).1 (lp t.mask r (i,q)).2
 | 0,i,q=>⟨0,qh _,rfl⟩
 | r+1,i,q=>by
  obtain ⟨n,hn,e⟩:=xAfn t r (leap t.mask i q).1 (leap t.mask i q).2;have:=run_le t.mask i;refine ⟨runEnd t.mask i - i+1+n,by omega,?_⟩;rw [xAlr,xAoa,e];rfl
theorem xApp (h:Int):bits h<2 ^ 64:=by
 unfold bits;have h1:(0:Int)≤h % (2 ^ 64:Int):=Int.emod_nonneg _ (by decide);have h2:h % (2 ^ 64:Int)<2 ^ 64:=Int.emod_lt_of_pos _ (by decide);omega
theorem comes {t:SetTable} (hm:Mk t.mask) (h:Int) {j:Nat} (hj:j<t.mask+1):∃ n,n<10 * turns t.mask/\(adv t n (t.probeStart h)).j=j:=by
 have hi:bits h % (t.mask+1)<t.mask+1:=jj _ (jk _);obtain ⟨r,hr,er⟩:=reach hm hi (xApp h) hj;obtain ⟨n,hn,e⟩:=xAfn t r (bits h % (t.mask+1)) (bits h);refine ⟨n,by unfold turns;omega,?_⟩;show (adv t n (at' t.mask (bits h % (t.mask+1)) (bits h))).j=j;rw [e];exact er
theorem xAhz (t:SetTable):∀ (n:Nat) (p:Probe),(adv t n p).dummy=p.dummy
 | 0,_=>rfl
 | n+1,p=>by
  show (adv t n (t.advance p)).dummy=_;rw [xAhz t n];unfold advance
  split <;> rfl
theorem xAls {t:SetTable} {j:Nat} (hd:t.dummies=#[]) (h:j∉t.place.toList):t.slot j=.empty:=by
 unfold slot
 have h1:¬ (t.place[below t.place j]?==some j)=true:=fun z=>by
  have z:=beq_iff_eq.mp z;exact h (qo (by rw [zw];exact z))
 have h2:¬ (has t.dummies j)=true:=by rw [hd];unfold has;simp
 simp only [h1,h2]
 rfl
theorem xAob {t:SetTable} {j i:Nat} (h:t.slot j=.live i):i<t.place.size:=by
 unfold slot at h;dsimp only at h
 split at h
 ·rename_i h1
  injection h with h;rw [← h];exact (j9.mp (beq_iff_eq.mp h1)).1
 ·split at h <;> cases h
theorem xAlt {t:SetTable} {j:Nat} (hd:t.dummies=#[]):t.slot j≠.dummy:=by
 unfold slot;dsimp only
 split
 ·simp
 ·rw [if_neg (by rw [hd];unfold has;simp)]
  simp
theorem xAoc {l:List Nat} {M:Nat} (h:l.length<M):∃ j,j<M/\j∉l:=by
 refine Classical.byContradiction fun z=>?_;have:(List.range M).length≤l.length:=L2.nodup_len List.nodup_range fun x hx=>Classical.byContradiction fun y=>z ⟨x,zp.mp hx,y⟩;rw [vy] at this;omega
structure Way (t:SetTable) (h:Int) (N:Nat):Prop where
 few:N<10 * turns t.mask
 last:t.slot (adv t N (t.probeStart h)).j=.empty
 first:∀ n,n<N->t.slot (adv t n (t.probeStart h)).j≠.empty
theorem way_of {t:SetTable} (hm:Mk t.mask) (hd:t.dummies=#[]) (hf:t.place.size<t.mask+1) (h:Int):∃ N,Way t h N:=by
 obtain ⟨j,hj,hn⟩:=xAoc (l:=t.place.toList) (M:=t.mask+1) (by simpa using hf);obtain ⟨n,hn',e⟩:=comes hm h hj;have hex:∃ n,n<10 * turns t.mask/\t.slot (adv t n (t.probeStart h)).j=.empty:=⟨n,hn',by rw [e];exact xAls hd hn⟩;clear hn' e n;obtain ⟨n,h1,h2⟩:=hex
 induction n using Nat.strongRecOn with
 | _ n ih =>
  by_cases q:∃ k,k<n/\t.slot (adv t k (t.probeStart h)).j=.empty
  ·obtain ⟨k,hk,e⟩:=q
   exact ih k hk (by omega) e
  ·exact ⟨n,h1,h2,fun k hk e=>q ⟨k,hk,e⟩⟩
theorem probe_from {t:SetTable} {hashAt:Nat->Int} {h:Int} {N:Nat} (w:Way t h N) (hd:t.dummies=#[]):∀ (f k:Nat),k≤N->N - k<f →
  SetTable.probe.go t hashAt h f (adv t k (t.probeStart h))=some (.empty (adv t N (t.probeStart h)).j none)\/∃ n j i,k≤n/\n<N/\i<t.place.size/\t.slot j=.live i/\SetTable.probe.go t hashAt h f (adv t k (t.probeStart h))=some (.candidate j i (adv t (n+1) (t.probeStart h)))
 | 0,k,_,h2=>absurd h2 (zv _)
 | f+1,k,h1,h2=>by
  have hdum:(adv t k (t.probeStart h)).dummy=none:=xAhz t k _;unfold SetTable.probe.go
  cases hs:t.slot (adv t k (t.probeStart h)).j with
  | empty =>
   have:k=N:=by
    refine Classical.byContradiction fun z=>?_;exact w.first k (by omega) hs
   subst this;left
   simp only [hdum]
  | dummy=>exact absurd hs (xAlt hd)
  | live i =>
   have hk:k<N:=by
    refine Nat.lt_of_le_of_ne h1 fun z=>?_;rw [z,w.last] at hs;cases hs
   have ea:t.advance (adv t k (t.probeStart h))=adv t (k+1) (t.probeStart h):=by rw [xAlr];rfl
   dsimp only
   by_cases hh:(hashAt i==h)=true
   ·right
    exact ⟨k,_,i,qh _,hk,xAob hs,hs,by rw [if_pos hh,ea]⟩
   ·rw [if_neg hh,ea]
    rcases probe_from w hd f (k+1) (by omega) (by omega) with e | ⟨n,j',i',a1,a2,a3,a4,a5⟩
    ·exact .inl e
    ·exact .inr ⟨n,j',i',by omega,a2,a3,a4,a5⟩
theorem xAia {m:Nat} {owner:Array (Option Nat)}:∀ (r f i q:Nat),r<f->owner.getD (lp m r (i,q)).1 (some 0)=none->∃ j,layClean.free m owner f i q=some j/\owner.getD j (some 0)=none
 | _,0,_,_,h,_=>absurd h (zv _)
 | r,f+1,i,q,h,ho=>by
  unfold layClean.free
  cases e:(List.range (runEnd m i+1 - i)).find? fun k=>(owner.getD (i+k) (some 0)).isNone with
  | some k =>
   have:=List.find?_some e;exact ⟨i+k,rfl,Option.isNone_iff_eq_none.mp this⟩
  | none =>
   cases r with
   | zero =>
    have h0:(0:Nat)∈List.range (runEnd m i+1 - i):=zp.mpr (by unfold runEnd;split <;> omega);have:=yl.mp e 0 h0;have ho:owner.getD i (some 0)=none:=ho;rw [ym,ho] at this;exact absurd rfl this
   | succ r =>
    dsimp only;exact xAia r f (leap m i q).1 (leap m i q).2 (by omega) ho
theorem xAlu {v:Nat}:∀ {l:List (Option Nat)} {j:Nat},l[j]?=some none->((l.set j (some v)).filterMap id).Perm (v::l.filterMap id)
 | [],_,h=>by cases h
 | x::l,0,h=>by
  cases h;exact .refl _
 | x::l,j+1,h=>by
  have ih:=xAlu (v:=v) (l:=l) (j:=j) (by simpa using h);rw [List.set_cons_succ]
  cases x with
  | none=>exact ih
  | some y=>exact (ih.cons y).trans (.swap _ _ _)
structure Lay (m k:Nat) (owner:Array (Option Nat)):Prop where
 size:owner.size=m+1
 perm:(owner.toList.filterMap id).Perm (List.range k)
theorem xArs {m k:Nat} {owner:Array (Option Nat)} (hm:Mk m) (L:Lay m k owner) (hk:k<m+1) (h:Int):∃ j,layClean.free m owner (turns m) (bits h % (m+1)) (bits h)=some j/\Lay m (k+1) (owner.setIfInBounds j (some k)):=by
 have hex:∃ j,j<m+1/\owner.getD j (some 0)=none:=by
  refine Classical.byContradiction fun z=>?_
  have h1:owner.toList.length≤(owner.toList.filterMap id).length:=by
   have:∀ l:List (Option Nat),(∀ x∈l,x≠none)->l.length≤(l.filterMap id).length:=fun l=>by
    induction l with
    | nil=>intro _;exact qh _
    | cons x l ih =>
     intro hx
     cases x with
     | none=>exact absurd rfl (hx none qr)
     | some y=>exact wc (ih fun x hm=>hx x (qw _ hm))
   refine this _ fun x hx e=>?_;obtain ⟨i,hi,ei⟩:=zx hx
   have hi':i<owner.size:=by simpa using hi
   refine z ⟨i,by rw [← L.size];exact hi',?_⟩;rw [wa,zn hi']
   have:owner[i]=none:=by
    have:=ei.trans e;simpa using this
   rw [this];rfl
  have h2:=L.perm.length_eq;have h3:=L.size
  simp at h1 h2
  omega
 obtain ⟨j0,hj0,e0⟩:=hex;obtain ⟨r,hr,er⟩:=reach hm (jj (bits h) (jk m)) (xApp h) hj0;obtain ⟨j,ej,eo⟩:=xAia (m:=m) (owner:=owner) r (turns m) (bits h % (m+1)) (bits h) (by unfold turns;omega) (by rw [er];exact e0)
 have hj:j<owner.size:=by
  refine Classical.byContradiction fun z=>?_;rw [wa,jf (by omega)] at eo;cases eo
 have hl:owner.toList[j]?=some none:=by
  rw [wa,zn hj] at eo;rw [zw,zn hj];exact congrArg some eo
 refine ⟨j,ej,by rw [Array.size_setIfInBounds];exact L.size,?_⟩;rw [Array.toList_setIfInBounds];refine (xAlu hl).trans ?_;rw [yn];exact (L.perm.cons k).trans (List.perm_append_singleton k _).symm
theorem xApq {m:Nat} (hm:Mk m):∀ (hs:List Int) (k:Nat) (owner:Array (Option Nat)),Lay m k owner->k+hs.length≤m->∃ owner' ,(hs.foldl (fun acc h=>do
  let (owner,k) ← acc
  let j ← layClean.free m owner (turns m) (bits h % (m+1)) (bits h)
  pure (owner.setIfInBounds j (some k),k+1)) (some (owner,k)))=some (owner',k+hs.length)/\Lay m (k+hs.length) owner'
 | [],k,owner,L,_=>⟨owner,rfl,L⟩
 | h::hs,k,owner,L,hk=>by
  rw [qy] at hk;obtain ⟨j,ej,L'⟩:=xArs hm L (by omega) h;obtain ⟨o',e',L2⟩:=xApq hm hs (k+1) _ L' (by omega);refine ⟨o',?_,by rw [qy,yy hs.length 1,← jl];exact L2⟩;rw [yx,qy,yy hs.length 1,← jl,← e']
  congr 1
  show (do
   let j ← layClean.free m owner (turns m) (bits h % (m+1)) (bits h)
   pure (owner.setIfInBounds j (some k),k+1))=_
  rw [ej];rfl
theorem laid_ok {m finger moves:Nat} {led plain:Bool} {hs:Array Int} (hm:Mk m) (hk:hs.size≤m):∃ t order,laid m finger moves led plain hs=some (t,order)/\t.mask=m/\t.dummies=#[]/\t.place.size=hs.size/\order.toList.Perm (List.range hs.size):=by
 have L0:Lay m 0 (Array.replicate (m+1) none):=⟨by simp,by
  have:∀ n:Nat,(List.replicate n (none:Option Nat)).filterMap id=[]:=fun n=>by
   induction n with
   | zero=>rfl
   | succ n ih=>rw [wk];exact ih
  rw [Array.toList_replicate,this]
  exact .nil⟩
 obtain ⟨o',e',L⟩:=xApq hm hs.toList 0 _ L0 (by simpa using hk);rw [vh] at e' L
 have ec:layClean m hs=some o':=by
  unfold layClean;rw [← Array.foldl_toList,e'];rfl
 have el:((List.range (m+1)).filterMap fun j=>(o'.getD j none).map (j,·)).map (·.2)=o'.toList.filterMap id:=by
  rw [List.map_filterMap]
  have:o'.toList=(List.range (m+1)).map fun j=>o'.getD j none:=by
   apply wg;intro i;rw [ql,zw]
   by_cases hi:i<m+1
   ·rw [yg hi,zn (by rw [L.size];exact hi)]
    show _=some (o'.getD i none);rw [wa,zn (by rw [L.size];exact hi)];rfl
   ·rw [Array.getElem?_eq_none (by rw [L.size];omega),List.getElem?_eq_none (by simpa using hi)]
    rfl
  rw [this,gb]
  congr 1
  funext j
  show ((o'.getD j none).map (j,·)).map (·.2)=id (o'.getD j none);cases o'.getD j none <;> rfl
 have hlen:hs.toList.length=hs.size:=by simp
 refine ⟨_,_,by unfold laid;rw [ec];rfl,rfl,rfl,?_,?_⟩
 ·have h1:=congrArg List.length el
  have h2:=L.perm.length_eq;rw [hlen,vy] at h2
  simp only [List.length_map] at h1
  simp only [List.size_toArray,List.length_map]
  rw [h1,h2]
 ·show ((((List.range (m+1)).filterMap fun j=>(o'.getD j none).map (j,·)).map (·.2)).toArray).toList.Perm _
  rw [List.toList_toArray,el,← hlen];exact L.perm
end Stb
namespace L2
open PySem PySem.Spec PySem.W PyProof.Rows
section
variable {P:Program} {w:World} {A:Around} {E:Value->Shared->Prop} {s:Shared}
abbrev fh (P:Program) (w:World) (ks:List Key):Int:=(tupleKind (mixKind P w)).hash ks
abbrev FI (P:Program) (w:World) (h:Heap) (ks:List Key) (v:Value):Prop:=∃ a,v=.ref a/\(tupleKind (mixKind P w)).is h ks a
theorem xAwe:∀ {v:Value} (n:Nat) {s':Shared} {Q:Bool->Shared->Prop},carriedByValue v=true->(∀ b,Q b s')->wpAny (model P w) A (hashByValue n v) Q E s':=by
 intro v n s' Q hv h
 cases v <;> first | (cases n <;> exact wpAny_pure (h _)) | (exact absurd hv (by simp [carriedByValue]))
theorem xArt {ks:List Key} {a:Addr} {Q:Bool->Shared->Prop} (hk:(tupleKind (mixKind P w)).is s.heap ks a) (h:∀ b,Q b s):wpAny (model P w) A (hashByValue 8 (.ref a)) Q E s:=by
 obtain ⟨o,items,n,ho,hc,hd,hi⟩:=hk;have hT:s.TypeIs (.ref a) "tuple":=⟨o,ho,hc⟩;unfold hashByValue;refine wpAny_bind (wpAny_specialOf hT F.slot_tuple_hash.lookup ?_);show wpAny _ _ (seqItems? (.ref a) >>= _) _ _ s;refine wpAny_bind (wpAny_seqItems ho hd ?_);refine wpAny_bind ?_;show wpAny _ _ (forIn items _ _) _ _ s;rw [← v5];refine wpAny_forIn_list _ (fun rest r s'=>(r.1=none\/r.1=some false)/\s'=s/\∀ v∈rest,carriedByValue v=true) _ ?_ ?_ _ _ ⟨.inl rfl,rfl,hi.byValue⟩
 ·rintro v rest r s' ⟨hr,rfl,hall⟩
  refine wpAny_bind (xAwe _ (hall v qr) fun b=>?_)
  cases b with
  | true =>
   simp only [Bool.not_true,Bool.false_eq_true,if_false]
   exact wpAny_pure ⟨.inl rfl,rfl,fun u hu'=>hall u (qw _ hu')⟩
  | false =>
   simp only [Bool.not_false,if_true]
   exact wpAny_pure (wpAny_pure (h _))
 ·rintro ⟨r1,r2⟩ s' ⟨hr,rfl,_⟩
  simp only at hr
  rcases hr with rfl | rfl
  ·exact wpAny_pure (h _)
  ·exact wpAny_pure (h _)
theorem xAwf:∀ {v:Value} (n:Nat) {s':Shared} {Q:Bool->Shared->Prop},carriedByValue v=true->Q false s'->wpAny (model P w) A (ofAClassStatement n v) Q E s':=by
 intro v n s' Q hv h
 cases v <;> first | (cases n <;> exact wpAny_pure h) | (exact absurd hv (by simp [carriedByValue]))
theorem xAlv {ks:List Key} {a:Addr} {Q:Bool->Shared->Prop} (hk:(tupleKind (mixKind P w)).is s.heap ks a) (h:Q false s):wpAny (model P w) A (ofAClassStatement 8 (.ref a)) Q E s:=by
 obtain ⟨o,items,n,ho,hc,hd,hi⟩:=hk;have hT:s.TypeIs (.ref a) "tuple":=⟨o,ho,hc⟩;unfold ofAClassStatement;refine wpAny_bind (wpAny_typeOf hT ?_);dsimp only;rw [if_pos (by decide)];refine wpAny_bind (wpAny_pure ?_)
 simp only [Bool.not_true,Bool.false_eq_true,if_false]
 refine wpAny_bind (wpAny_seqItems ho hd ?_);dsimp only;refine wpAny_bind ?_;show wpAny _ _ (forIn items _ _) _ _ s;rw [← v5];refine wpAny_forIn_list _ (fun rest r s'=>r.1=none/\s'=s/\∀ v∈rest,carriedByValue v=true) _ ?_ ?_ _ _ ⟨rfl,rfl,hi.byValue⟩
 ·rintro v rest r s' ⟨hr,rfl,hall⟩
  refine wpAny_bind (xAwf _ (hall v qr) ?_)
  simp only [Bool.false_eq_true,if_false]
  exact wpAny_pure ⟨rfl,rfl,fun u hu'=>hall u (qw _ hu')⟩
 ·rintro ⟨r1,r2⟩ s' ⟨hr,rfl,_⟩
  simp only at hr
  subst hr;exact wpAny_pure h
theorem xAru {ks:List Key} {a:Addr} {ys:List Value} {Q:Bool->Shared->Prop} (hk:(tupleKind (mixKind P w)).is s.heap ks a) (hy:∀ y∈ys,∃ ls,FI P w s.heap ls y) (h:Q false s):wpAny (model P w) A (searchCouldBeSeen (.ref a) ys) Q E s:=by
 unfold searchCouldBeSeen;refine wpAny_bind ?_;refine wpAny_forIn_list _ (fun rest r s'=>r.1=none/\s'=s/\∀ y∈rest,∃ ls,FI P w s.heap ls y) _ ?_ ?_ _ _ ⟨rfl,rfl,hy⟩
 ·rintro v rest r s' ⟨hr,rfl,hall⟩
  obtain ⟨ls,b,rfl,hb⟩:=hall v qr;dsimp only
  by_cases e:(a==b)=true
  ·rw [e]
   simp only [Bool.true_or,if_true]
   exact wpAny_pure ⟨rfl,rfl,fun u hu'=>hall u (qw _ hu')⟩
  ·have e0:(a==b||carriedByValue (.ref a)&&carriedByValue (.ref b))=false:=by simp [Bool.eq_false_iff.mpr e,carriedByValue]
   rw [e0]
   simp only [Bool.false_eq_true,if_false]
   refine wpAny_bind (xAcr (m:=7) hk ?_)
   simp only [Bool.not_true,Bool.false_eq_true,if_false]
   refine wpAny_bind (xAcr (m:=7) hb ?_)
   simp only [Bool.not_true,Bool.false_eq_true,if_false]
   refine wpAny_bind (xAlv hk ?_)
   simp only [Bool.false_eq_true,if_false]
   refine wpAny_bind (xAlv hb ?_)
   simp only [Bool.false_eq_true,if_false]
   exact wpAny_pure ⟨rfl,rfl,fun u hu'=>hall u (qw _ hu')⟩
 ·rintro ⟨r1,r2⟩ s' ⟨hr,rfl,_⟩
  simp only at hr
  subst hr;exact wpAny_pure h
end
def Tk (t:SetTable) (n:Nat):Prop:=t.dummies=#[]/\t.place.size=n/\(t.mask=7/\n≤4\/t.mask=31/\n≤18\/t.mask=127/\n≤76)
theorem Tk.mk {t:SetTable} {n:Nat} (h:Tk t n):Stb.Mk t.mask:=by
 rcases h.2.2 with h | h | h
 ·exact .inl h.1
 ·exact .inr (.inl h.1)
 ·exact .inr (.inr h.1)
theorem Tk.fits {t:SetTable} {n:Nat} (h:Tk t n):t.fits n=true:=by
 unfold SetTable.fits SetTable.fill;rw [h.1,h.2.1,beq_self_eq_true,jg];refine decide_eq_true ?_;show n+0≤t.mask;have:=h.2.2;omega
theorem Tk.odd {t:SetTable} {n:Nat} (h:Tk t n):t.gaveWay=false:=by
 unfold SetTable.gaveWay;rcases h.2.2 with h | h | h <;> rw [h.1] <;> rfl
section
variable {P:Program} {w:World} {A:Around} {E:Value->Shared->Prop} {s:Shared}
theorem xAeu {a b:Addr} {o:Obj} {es:Array (Int×Value)} {ep:Nat} {t:SetTable} {ks:List Key} {h:Int} {N:Nat} {Q:SetFound->Shared->Prop} (hu:A.units+1<cLine) (ho:s.heap.get? a=some o) (hd:o.data=.set es ep t) (hT:Tk t es.size) (hk:(tupleKind (mixKind P w)).is s.heap ks b) (hes:∀ e∈es.toList,∃ ls,ls≠ks/\FI P w s.heap ls e.2) (W:Stb.Way t h N) (hQ:∀ j,Q (.free j false) s) :
  ∀ (f k:Nat) (stand:Option SetTable.Probe),k≤N->N - k<f->stand.getD (t.probeStart h)=Stb.adv t k (t.probeStart h)->wpAny (model P w) A (setSearchFrom a (.ref b) h true f stand) Q E s
 | 0,_,_,_,h2,_=>absurd h2 (zv _)
 | f+1,k,stand,h1,h2,h3=>by
  unfold setSearchFrom;refine wpAny_bind (wpAny_setState_of ho hd hT.fits ?_);dsimp only;rw [hT.odd]
  simp only [Bool.false_eq_true,if_false]
  rw [h3];have hp:=Stb.probe_from (hashAt:=fun i=>(es[i]?.map (·.1)).getD 0) W hT.1 (10 * SetTable.turns t.mask) k h1 (by have:=W.few;omega);rcases hp with e | ⟨n,j,i,a1,a2,a3,a4,a5⟩
  ·have e':t.probe (fun i=>(es[i]?.map (·.1)).getD 0) h (Stb.adv t k (t.probeStart h))=some (.empty (Stb.adv t N (t.probeStart h)).j none):=e
   show wpAny _ _ (match t.probe (fun i=>(es[i]?.map (·.1)).getD 0) h (Stb.adv t k (t.probeStart h)) with
    | some met=>_
    | _=>_) _ _ _
   rw [e'];exact wpAny_pure (hQ _)
  ·have e':t.probe (fun i=>(es[i]?.map (·.1)).getD 0) h (Stb.adv t k (t.probeStart h))=some (.candidate j i (Stb.adv t (n+1) (t.probeStart h))):=a5
   show wpAny _ _ (match t.probe (fun i=>(es[i]?.map (·.1)).getD 0) h (Stb.adv t k (t.probeStart h)) with
    | some met=>_
    | _=>_) _ _ _
   rw [e'];dsimp only
   have hi:i<es.size:=by rw [← hT.2.1];exact a3
   have hei:es[i]?=some es[i]:=zn hi
   have hme:es[i]∈es.toList:=by simp
   obtain ⟨ls,hne,y,ey,hy⟩:=hes _ hme
   have hflt:∀ y∈(Array.filter (fun x=>x.1==h) es).toList.map (·.2),∃ ls,FI P w s.heap ls y:=fun y hy'=>by
    obtain ⟨e,he,rfl⟩:=qk.mp hy'
    have he:e∈es.toList:=by
     rw [Array.toList_filter] at he;exact (zd.mp he).1
    obtain ⟨ls',_,q⟩:=hes e he;exact ⟨ls',q⟩
   have hsm:t.sameMemory t.moves t.mask=some true:=by unfold SetTable.sameMemory;rw [if_pos (beq_self_eq_true _)]
   cases hl:t.led with
   | true =>
    simp only [Bool.not_true,Bool.false_eq_true,if_false]
    rw [hei];dsimp only;rw [ey];refine wpAny_bind (wpAny_holding (xAdd (by omega) hy hk P w E _ ?_));rw [decide_eq_false hne];refine wpAny_bind (wpAny_setState_of ho hd hT.fits ?_);dsimp only
    simp only [Bool.and_false,Bool.false_eq_true,if_false]
    rw [hsm];dsimp only;rw [if_pos rfl,a4];dsimp only;rw [hei];dsimp only;rw [ey];refine wpAny_bind (show wpAny _ _ (isSame (.ref y) (.ref y)) _ _ _ from ?_);unfold isSame;dsimp only;rw [beq_self_eq_true]
    simp only [if_true]
    refine wpAny_pure (wpAny_bind (wpAny_pure ?_));exact xAeu hu ho hd hT hk hes W hQ f (n+1) _ (by omega) (by omega) rfl
   | false =>
    simp only [Bool.not_false,if_true]
    refine wpAny_bind (xAru hk hflt ?_)
    simp only [Bool.false_eq_true,if_false]
    rw [hei];dsimp only;rw [ey];refine wpAny_bind (wpAny_holding (xAdd (by omega) hy hk P w E _ ?_));rw [decide_eq_false hne];refine wpAny_bind (wpAny_setState_of ho hd hT.fits ?_);dsimp only
    simp only [Bool.and_false,Bool.false_eq_true,if_false]
    rw [hsm];dsimp only;rw [if_pos rfl,a4];dsimp only;rw [hei];dsimp only;rw [ey];refine wpAny_bind (show wpAny _ _ (isSame (.ref y) (.ref y)) _ _ _ from ?_);unfold isSame;dsimp only;rw [beq_self_eq_true]
    simp only [if_true]
    refine wpAny_pure (wpAny_bind (wpAny_pure ?_));exact xAeu hu ho hd hT hk hes W hQ f (n+1) _ (by omega) (by omega) rfl
theorem xAda {α:Type} (xs:Array α) (p:Nat) (x:α):(SetTable.insertAt xs p x).size=xs.size+1:=by
 unfold SetTable.insertAt
 simp only [Array.size_append,Array.size_push,Array.size_extract]
 omega
theorem xAgj {α:Type} {xs:Array α} {p:Nat} {x y:α} (h:y∈(SetTable.insertAt xs p x).toList):y=x\/y∈xs.toList:=by
 unfold SetTable.insertAt at h
 simp only [Array.toList_append,Array.toList_push,List.mem_append,List.mem_singleton,Array.toList_extract] at h
 rcases h with (h | h) | h
 ·exact .inr (ja (wy h))
 ·exact .inl h
 ·exact .inr (ja (wy h))
def SG (P:Program) (w:World) (h:Heap) (a:Addr) (kk:List (List Key)):Prop:=∃ o es ep t,h.get? a=some o/\o.ExactSet/\o.data=.set es ep t/\es.size=kk.length/\(∀ e∈es.toList,∃ ks∈kk,FI P w h ks e.2)/\Tk t kk.length
theorem FI.ext {h h':Heap} {ks:List Key} {v:Value} (x:FI P w h ks v) (k:∀ b o,h.get? b=some o->o.cls=.type "tuple"->h'.get? b=some o):FI P w h' ks v:=by
 obtain ⟨a,e,o,its,n,h1,h2,h3,h4⟩:=x;exact ⟨a,e,o,its,n,k _ _ h1 h2,h2,h3,h4⟩
theorem xAlw {a:Addr} {o:Obj} {es es1:Array (Int×Value)} {ep:Nat} {t t1:SetTable} {h:Heap} (ho:h.get? a=some o) (hd:o.data=.set es ep t):(h.update a (Obj.putSet es1 t1)).get? a=some { o with data:=.set es1 (ep+1) t1 }:=by
 have:=Heap.get?_update_self (Obj.putSet es1 t1) ho (by rw [putSet_of es1 t1 hd];rfl);rw [putSet_of es1 t1 hd] at this;exact this
theorem xAfo {α:Type}:∀ l:List α,(List.range l.length).filterMap (fun i=>l[i]?)=l
 | []=>rfl
 | x::l=>by
  rw [qy,jd,j7 (f:=fun i=>(x::l)[i]?) (a:=0) (b:=x) rfl,gb]
  congr 1
  have:((fun (i:Nat)=>(x::l)[i]?)∘Nat.succ)=fun (i:Nat)=>l[i]?:=by
   funext i
   exact List.getElem?_cons_succ
  rw [this];exact xAfo l
theorem xAlx {α:Type} (es:Array α):(List.range es.size).filterMap (fun i=>es[i]?)=es.toList:=by
 have h:=xAfo es.toList;rw [ze] at h
 have e:(fun (i:Nat)=>es.toList[i]?)=fun (i:Nat)=>es[i]?:=by
  funext i
  rw [zw]
 rw [e] at h;exact h
theorem xAwg {a:Addr} {o:Obj} {es es1:Array (Int×Value)} {ep n:Nat} {t t1:SetTable} {kk:List (List Key)} {Q:Bool->Shared->Prop} (ho:s.heap.get? a=some o) (hex:o.ExactSet) (hd:o.data=.set es ep t) (hT:Tk t n) (h1:es1.size=n+1) (hk:kk.length=n+1) (hn:n<63) (hel:∀ e∈es1.toList,∃ ks∈kk,FI P w s.heap ks e.2)
  (e1:t1.dummies=#[]) (e2:t1.place.size=n+1) (e3:t1.mask=t.mask) (hQ:∀ h',Heap.SameBut a s.heap h'->SG P w h' a kk->Q true { s with heap:=h' }) :
  wpAny (model P w) A (do
    storeSet a es1 t1
    if (!false&&t1.tooFull)=true then do
      setRelay a (SetTable.grown (n+1))
      pure true
     else pure true) Q E s:=by
 have hsl:n+1≤sizeLine:=zf (xAak (by omega));refine wpAny_bind (wpAny_storeSet_of ho hd ?_ (by omega));have ho1:=xAlw (es1:=es1) (t1:=t1) ho hd;have hsb1:=Heap.SameBut.update s.heap a (Obj.putSet es1 t1);have hm:=hT.2.2
 have hfl:t1.fill=n+1:=by unfold SetTable.fill;rw [e1,e2];rfl
 have tup:∀ {h':Heap},Heap.SameBut a s.heap h'->∀ b o',s.heap.get? b=some o'->o'.cls=.type "tuple"->h'.get? b=some o':=fun sb b o' e c=>by
  rw [sb.2 b (fun z=>by
   rw [z,ho] at e;cases e;rw [hex.1] at c;injection c with c
   exact absurd c (by decide))]
  exact e
 have mk:∀ {h':Heap} {es2:Array (Int×Value)} {ep2:Nat} {t2:SetTable},Heap.SameBut a s.heap h'->h'.get? a=some { o with data:=.set es2 ep2 t2 }->es2.toList.Perm es1.toList->Tk t2 (n+1)->SG P w h' a kk:=fun {h' es2 ep2 t2} sb g p k=>by
  refine ⟨_,es2,ep2,t2,g,hex,rfl,?_,fun e he=>?_,by rw [hk];exact k⟩
  ·rw [hk,← h1,← ze,p.length_eq,ze]
  ·obtain ⟨ks,m,q⟩:=hel e (p.mem_iff.mp he)
   exact ⟨ks,m,FI.ext q (tup sb)⟩
 by_cases hf:t1.tooFull=true
 ·rw [if_pos (by rw [hf];rfl)]
  unfold SetTable.tooFull at hf;have hf:=of_decide_eq_true hf;rw [hfl,e3] at hf
  have hfit:t1.fits es1.size=true:=by
   unfold SetTable.fits;rw [hfl,e2,h1,beq_self_eq_true,jg];exact decide_eq_true (by rw [e3];omega)
  have big:∃ m,Stb.Mk m/\SetTable.sizeAbove (SetTable.grown (n+1)) - 1=m/\¬ SetTable.sizeAbove (SetTable.grown (n+1))>sizeLine/\n+1≤m/\(m=7/\n+1≤4\/m=31/\n+1≤18\/m=127/\n+1≤76):=by
   rcases hm with ⟨q,_⟩ | ⟨q,_⟩ | ⟨q,_⟩
   ·have:n=4:=by omega
    subst this;exact ⟨31,.inr (.inl rfl),by decide,by rw [sizeLine_eq];decide,by omega,by omega⟩
   ·have:n=18:=by omega
    subst this;exact ⟨127,.inr (.inr rfl),by decide,by rw [sizeLine_eq];decide,by omega,by omega⟩
   ·omega
  obtain ⟨m,hM,em,hbig,hle,hcase⟩:=big;unfold setRelay;refine wpAny_bind (wpAny_bind (wpAny_setState_of ho1 rfl hfit ?_));dsimp only;rw [if_neg hbig];unfold SetTable.relaid;rw [em];obtain ⟨t2,order,el,f1,f2,f3,f4⟩:=Stb.laid_ok (finger:=t1.finger) (moves:=t1.movedTo m) (led:=t1.led) (plain:=t1.plain) (hs:=es1.map (·.1)) hM (by rw [y0,h1];exact hle);rw [el];rw [y0,h1] at f3 f4
  have hp:(order.filterMap (es1[·]?)).toList.Perm es1.toList:=by
   rw [Array.toList_filterMap];refine (f4.filterMap _).trans (.of_eq ?_);rw [← h1];exact xAlx es1
  have hsz:(order.filterMap (es1[·]?)).size=es1.size:=by rw [← ze,hp.length_eq,ze]
  refine wpAny_bind ?_;show wpAny _ _ (if ((order.filterMap (es1[·]?)).size != es1.size)=true then _ else _) _ _ _;rw [if_neg (by rw [hsz];simp)];refine wpAny_pure ?_;have ho2:=xAlw (es1:=order.filterMap (es1[·]?)) (t1:=t2) ho1 rfl;have hsb2:=hsb1.trans (Heap.SameBut.update (s.heap.update a (Obj.putSet es1 t1)) a (Obj.putSet (order.filterMap (es1[·]?)) t2));refine wpAny_storeSet_of ho1 rfl (wpAny_pure (hQ _ hsb2 (mk hsb2 ho2 hp ⟨f2,f3,?_⟩))) (by rw [hsz];omega);rw [f1];exact hcase
 ·rw [if_neg (by rw [j6.mpr hf];decide)]
  unfold SetTable.tooFull at hf;have hf:¬ (t1.fill * 5≥t1.mask * 3):=fun z=>hf (decide_eq_true z);rw [hfl,e3] at hf;exact wpAny_pure (hQ _ hsb1 (mk hsb1 ho1 (.refl _) ⟨e1,e2,by rw [e3];omega⟩))
theorem add_ok {a b:Addr} {kk:List (List Key)} {ks:List Key} {Q:Bool->Shared->Prop} (hu:A.units+1<cLine) (hS:SG P w s.heap a kk) (hk:(tupleKind (mixKind P w)).is s.heap ks b) (hn:ks∉kk) (hl:kk.length<63) (hQ:∀ h',Heap.SameBut a s.heap h'->SG P w h' a (kk++[ks])->Q true { s with heap:=h' }) :
  wpAny (model P w) A (setAddHashed a (.ref b) (fh P w ks)) Q E s:=by
 obtain ⟨o,es,ep,t,ho,hex,hd,hz,hel,hT⟩:=hS;rw [← hz] at hT;unfold setAddHashed setAddHashedIn;refine wpAny_holding (wpAny_bind (wpAny_setState_of ho hd hT.fits ?_));dsimp only
 have hbs:byScan (.ref b) es=false:=by unfold byScan Value.scannable;rfl
 rw [hbs]
 simp only [Bool.false_eq_true,if_false]
 have hm:=hT.2.2;obtain ⟨N,W⟩:=Stb.way_of hT.mk hT.1 (by rw [hT.2.1];omega) (fh P w ks);unfold setSearch;refine wpAny_bind (xAeu hu ho hd hT hk (fun e he=>?_) W (fun j=>?_) 100000 0 none (qu _) ?_ rfl)
 ·obtain ⟨ls,hm',q⟩:=hel e he
  exact ⟨ls,fun z=>hn (z▸hm'),q⟩
 ·dsimp only
  refine wpAny_bind (wpAny_setState_of ho hd hT.fits ?_);dsimp only
  have gen:∀ t1:SetTable,t1.dummies=#[]->t1.place.size=es.size+1->t1.mask=t.mask->wpAny (model P w) A (do
    storeSet a (SetTable.insertAt es (t.put j).2 (fh P w ks,.ref b)) t1
    if (!false&&t1.tooFull)=true then do
      setRelay a (SetTable.grown (es.size+1))
      pure true
     else pure true) Q E s:=fun t1 e1 e2 e3=>by
   refine xAwg ho hex hd hT (xAda _ _ _) (kk:=kk++[ks]) (by rw [qv,← hz];rfl) (by omega) (fun e he=>?_) e1 e2 e3 hQ;rcases xAgj he with rfl | he
   ·exact ⟨ks,zt _ qr,b,rfl,hk⟩
   ·obtain ⟨ls,m,q⟩:=hel e he
    exact ⟨ls,w5 _ m,q⟩
  have d1:(t.put j).1.dummies=#[]:=by
   show (if SetTable.has t.dummies j then _ else t.dummies)=#[];rw [hT.1]
   split
   ·rename_i z
    unfold SetTable.has at z
    simp at z
   ·rfl
  have d2:(t.put j).1.place.size=es.size+1:=by
   show (SetTable.insertAt t.place _ j).size=_;rw [xAda,hT.2.1]
  split
  ·refine wpAny_bind (xArt hk fun bv=>?_)
   cases bv with
   | true=>exact gen _ d1 d2 rfl
   | false=>exact gen { (t.put j).1 with plain:=false } d1 d2 rfl
  ·refine wpAny_bind (wpAny_pure ?_)
   exact gen _ d1 d2 rfl
 ·have:=W.few
  unfold SetTable.turns at this;omega
end
section
variable {P:Program} {w:World} {A:Around} {R:Result->Shared->Prop} {s:Shared} {E:Value->Shared->Prop}
def LI (P:Program) (w:World) (h:Heap) (items:Array Value) (kk:List (List Key)):Prop:=items.size=kk.length/\∀ (i:Nat) v ks,items[i]?=some v->kk[i]?=some ks->FI P w h ks v
theorem xArv {h:Heap} {a b:Addr} {o o':Obj} {T U:String} (e:h.get? a=some o) (c:o.cls=.type T) (e':h.get? b=some o') (c':o'.cls=.type U) (n:T≠U):a≠b:=fun z=>by
 rw [z,e'] at e;cases e;rw [c] at c';injection c' with c';exact n c'
theorem LI.ext {h h':Heap} {items:Array Value} {kk:List (List Key)} (x:LI P w h items kk) (k:∀ b o,h.get? b=some o->o.cls=.type "tuple"->h'.get? b=some o):LI P w h' items kk:=⟨x.1,fun i v ks e1 e2=>FI.ext (x.2 i v ks e1 e2) k⟩
theorem SG.move {h h':Heap} {a:Addr} {kk:List (List Key)} (x:SG P w h a kk) (ha:∀ o,h.get? a=some o->h'.get? a=some o) (k:∀ b o,h.get? b=some o->o.cls=.type "tuple"->h'.get? b=some o):SG P w h' a kk:=by
 obtain ⟨o,es,ep,t,h1,h2,h3,h4,h5,h6⟩:=x;exact ⟨o,es,ep,t,ha _ h1,h2,h3,h4,fun e he=>let ⟨ks,m,q⟩:=h5 e he;⟨ks,m,FI.ext q k⟩,h6⟩
theorem xArw {I S l:Addr} {items:Array Value} {kk:List (List Key)} (hh:A.in1.handled=none) (hIl:l≠I) (hSl:S≠l) (hSI:S≠I) (hu:A.in1.units+1<cLine) (hnd:kk.Nodup) (hn:kk.length≤63) :
  ∀ (k i:Nat) (s:Shared),kk.length - i=k->i≤kk.length->s.heap.IsListIter I l i->s.heap.IsList l items->LI P w s.heap items kk->SG P w s.heap S (kk.take i) →
   (∀ h' tk,(∀ b o,b≠S->b≠I->s.heap.get? b=some o->h'.get? b=some o)->SG P w h' S kk->R (.ok (.ret .none)) { s with heap:=h',toks:=tk }) →
   codeAny (model P w) A (.builtin "set.update.loop" ⟨[.ref S,.ref I],[]⟩) R s:=by
 have W:=Walks.list (prog:=P) (w:=w) (A:=A.in1) hh I l hIl items;intro k
 induction k with
 | zero =>
  intro i s hk hi hit hl hli hS hR
  have hin:i=kk.length:=by omega
  subst hin;refine codeAny_builtin F.entry_set_update_loop ?_;rw [Around.under_plainId F.plain_set_update_loop _];show wpAny _ A.in1 (pyNext (.ref I) >>= _) _ _ s;refine wpAny_bind (W.done s _ _ ⟨by rw [hli.1];exact hit,hl⟩ fun h' tk hk'=>?_);show wpAny _ A.in1 (ret Value.none) _ _ _;rw [z9] at hS;obtain ⟨oi,ei,ci,di⟩:=id hit;refine wpAny_pure (hR h' tk (fun b o _ nI e=>hk' b o (by simpa using nI) e) (hS.move (fun o e=>hk' S o (by simpa using hSI) e) fun b o e c=>hk' b o (by simpa using xArv e c ei ci (by decide)) e))
 | succ k ih =>
  intro i s hk hi hit hl hli hS hR
  have hlt:i<kk.length:=by omega
  refine codeAny_builtin F.entry_set_update_loop ?_;rw [Around.under_plainId F.plain_set_update_loop _];show wpAny _ A.in1 (pyNext (.ref I) >>= _) _ _ s;refine wpAny_bind (W.item i s _ _ (by rw [hli.1];exact hlt) ⟨hit,hl⟩ fun v h' tk hP hst' hk'=>?_);have hki:kk[i]?=some kk[i]:=qi hlt;obtain ⟨oi,ei,ci,di⟩:=id hit
  have kt:∀ b o,s.heap.get? b=some o->o.cls=.type "tuple"->h'.get? b=some o:=fun b o e c=>hk' b o (by simpa using xArv e c ei ci (by decide)) e
  have hli1:=hli.ext kt;have hS1:=hS.move (fun o e=>hk' S o (by simpa using hSI) e) kt;obtain ⟨b,rfl,hb⟩:=hli1.2 i v _ hP hki;show wpAny _ A.in1 (holding [Value.ref b] (setAdd S (.ref b)) >>= _) _ _ _;refine wpAny_bind (wpAny_holding ?_);unfold setAdd;refine wpAny_holding ?_;refine wpAny_bind ((tupleKind (mixKind P w)).pyHash (show A.in1.units<cLine by omega) hb ?_)
  have hnot:kk[i]∉kk.take i:=fun z=>by
   obtain ⟨j,hj,e⟩:=zx z;rw [z0] at hj;rw [gg] at e;have:=(z8.mp hnd) j i (by omega) hlt (by omega);exact this e
  have htk:kk.take (i+1)=kk.take i++[kk[i]]:=by rw [vj,hki];rfl
  refine add_ok (s:={ s with heap:=h',toks:=_ }) hu hS1 hb hnot (by rw [z0];omega) fun h2 sb hS2=>?_;rw [← htk] at hS2;obtain ⟨oS,_,_,_,eS,xS,_⟩:=id hS1;have k2:∀ c o,c≠S->h'.get? c=some o->h2.get? c=some o:=fun c o nc e=>(sb.2 c nc).trans e
  have kt2:∀ c o,h'.get? c=some o->o.cls=.type "tuple"->h2.get? c=some o:=fun c o e cc=>k2 c o (xArv e cc eS xS.1 (by decide)) e
  obtain ⟨oi',ei',ci',di'⟩:=hst'.1;obtain ⟨ol',el',cl',nl',dl'⟩:=hst'.2;refine wpAny_pure ⟨plainId_quiet F.plain_set_update_loop _,ih (i+1) _ (by omega) hlt ⟨oi',k2 _ _ (Ne.symm hSI) ei',ci',di'⟩ ⟨ol',k2 _ _ (Ne.symm hSl) el',cl',nl',dl'⟩ (hli1.ext kt2) hS2 fun h3 tk3 kp hS3=>?_⟩;exact hR h3 tk3 (fun c o n1 n2 e=>kp c o n1 n2 (k2 c o n1 (hk' c o (by simpa using n2) e))) hS3
end
section
variable {prog:Program} {w:World} {A:Around} {E:Value->Shared->Prop} {s:Shared}
theorem xAfp {l:Addr} {items:Array Value} {kk:List (List Key)} {Q:Value->Shared->Prop}
  (hh:A.handled=none) (hu:A.units+4<cLine) (hl:s.heap.IsList l items) (hli:LI prog w s.heap items kk) (hnd:kk.Nodup) (hn:kk.length≤63)
  (h:∀ (h':Heap) (tk:Nat),SG prog w h' s.heap.objs.size kk->(∀ b o,b<s.heap.objs.size->s.heap.get? b=some o->h'.get? b=some o)->Q (.ref s.heap.objs.size) { s with heap:=h',toks:=tk }) :
  wpAny (model prog w) A (call (.type "set") [.ref l]) Q E s:=by
 obtain ⟨c,tl,hmro⟩:=F.called_set.mro;have hmade:=F.called_set.made;have hsub:=F.called_set.sub;refine wpAny_call (codeAny_of_tree ?_);show wpAny _ _ (callAny (.type "set") _) _ _ _;refine wpAny_pure ⟨Code.quiet_builtin _ (by decide +kernel),codeAny_builtin F.entry_type_call ?_⟩;rw [Around.under_plain (weight_type_call_type "set" [.ref l] []) rfl];have h1:=F.called_set.notType;have h2:=F.called_set.canCreate;have hct:=F.typeCall_set_1 (.ref l)
 repeat (any_goals (first | assumption | wp_step))
 refine codeAny_mono (code_set_new_1 (.ref l) (E:=E) (Q₁:=fun obj s₁=>∃ led:Bool,obj=.ref s.heap.objs.size/\s₁={ s with heap:=s.heap.push { cls:=.type "set",dict:=none,data:=.set #[] 0 (.fresh 0 0 led) } }) fun led=>⟨led,rfl,rfl⟩) fun r s₁ hr=>?_
 cases r with
 | error e=>exact hr
 | ok fl =>
  cases fl with
  | ret obj =>
   obtain ⟨led,rfl,rfl⟩:=hr;have hS:(s.heap.push { cls:=.type "set",dict:=none,data:=.set #[] 0 (.fresh 0 0 led) }).get? s.heap.objs.size=some { cls:=.type "set",dict:=none,data:=.set #[] 0 (.fresh 0 0 led) }:=Heap.get?_push_size _ rfl;have hT:Shared.TypeIs { s with heap:=s.heap.push { cls:=.type "set",dict:=none,data:=.set #[] 0 (.fresh 0 0 led) } } (.ref s.heap.objs.size) "set":=⟨_,hS,rfl⟩;have hlk:=F.called_set.init.lookup;have hbi:=F.called_set.init.bind (.ref s.heap.objs.size)
   repeat (any_goals (first | assumption | wp_step))
   refine codeAny_mono (codeAny_call_builtin (R:=wants (fun r s₂=>r=.none/\∃ h' tk,s₂={ s with heap:=h',toks:=tk }/\SG prog w h' s.heap.objs.size kk/\(∀ b o,b<s.heap.objs.size->s.heap.get? b=some o->h'.get? b=some o)) E) F.called_set.init.plain F.entry_set_init (check_set_init_1 hT ?_)) fun r₂ s₂ hr₂=>?_
   ·obtain ⟨ol,hol,hcl,nl,hdl⟩:=hl
    obtain ⟨ocls,odict,odata,oslots⟩:=ol
    simp only at hcl hdl
    subst hcl;subst hdl;have hol':(s.heap.push { cls:=.type "set",dict:=none,data:=.set #[] 0 (.fresh 0 0 led) }).get? l=some { cls:=.type "list",dict:=odict,data:=.seq items nl,slots:=oslots }:=Heap.get?_push_of_some _ hol;have hsls:=F.sub_list_set;have hslf:=F.sub_list_frozenset
    have hne:(Value.type "list"==Value.type "dict")=false:=by decide
    have hl1:(s.heap.push { cls:=.type "set",dict:=none,data:=.set #[] 0 (.fresh 0 0 led) }).IsList l items:=⟨_,hol',rfl,nl,rfl⟩;unfold Builtin.«set.__init__» noKeywords Builtin.Frozenset.updateFrom;generalize hPI:pyIter=PI
    wp_walk
    subst hPI;refine wpAny_pyIter_list hl1 ?_;refine wpAny_bind (wpAny_runValue ?_);have hlS:l<s.heap.objs.size:=Heap.lt_size hol;have hsz:(s.heap.push { cls:=.type "set",dict:=none,data:=.set #[] 0 (.fresh 0 0 led) }).objs.size=s.heap.objs.size+1:=Heap.size_push ..;rw [hsz];have hG:((s.heap.push { cls:=.type "set",dict:=none,data:=.set #[] 0 (.fresh 0 0 led) }).push { cls:=.type "list_iterator",data:=.fields #[.ref l,.int 0 0] }).get? s.heap.objs.size=some { cls:=.type "set",dict:=none,data:=.set #[] 0 (.fresh 0 0 led) }:=Heap.get?_push_of_some _ hS;have k0:∀ b o,s.heap.get? b=some o->((s.heap.push { cls:=.type "set",dict:=none,data:=.set #[] 0 (.fresh 0 0 led) }).push { cls:=.type "list_iterator",data:=.fields #[.ref l,.int 0 0] }).get? b=some o:=fun b o e=>Heap.get?_push_of_some _ (Heap.get?_push_of_some _ e);have hI:((s.heap.push { cls:=.type "set",dict:=none,data:=.set #[] 0 (.fresh 0 0 led) }).push { cls:=.type "list_iterator",data:=.fields #[.ref l,.int 0 0] }).IsListIter (s.heap.objs.size+1) l 0:=⟨_,by rw [← hsz];exact Heap.get?_push_size _ rfl,rfl,rfl⟩;refine xArw (P:=prog) (w:=w) (A:=A.in1.in1) (I:=s.heap.objs.size+1) (S:=s.heap.objs.size) (l:=l) (items:=items) (kk:=kk) (by simp [hh]) (Nat.ne_of_lt (Nat.lt_succ_of_lt hlS)) (Nat.ne_of_gt hlS) (Nat.ne_of_lt (Nat.lt_succ_self _)) (by show A.units+3+1<cLine;omega) hnd hn (kk.length - 0) 0 _ rfl (Nat.zero_le _) hI (hl1.push _) (hli.ext fun b o e _=>k0 b o e) ?_ ?_
    ·exact ⟨_,#[],0,_,hG,⟨rfl,rfl,rfl⟩,rfl,rfl,fun e he=>by simp at he,rfl,rfl,.inl ⟨rfl,Nat.zero_le _⟩⟩
    ·intro h' tk kp hS'
     refine wpAny_pure ?_;show wpAny _ _ (ret Value.none) _ _ _;refine wpAny_pure ⟨rfl,h',tk,rfl,hS',fun b o hb e=>?_⟩;exact kp b o (qj hb) (qj (zm hb)) (k0 b o e)
   ·cases r₂ with
    | error e=>exact hr₂
    | ok fl₂ =>
     cases fl₂ with
     | ret r =>
      obtain ⟨rfl,h',tk,rfl,hS',hk'⟩:=hr₂
      repeat (any_goals (first | assumption | wp_step))
      exact h _ _ hS' hk'
     | _=>exact hr₂.elim
  | _=>exact hr.elim
end
def setO (a:Addr) (n:Nat):HO:=.ext fun h=>∃ o es ep t,h.get? a=some o/\o.ExactSet/\o.data=.set es ep t/\es.size=n/\t.fits n=true
def rSet1 (K:PySem.W.Frag):List V->Hp->VK->Prop:=fun xs H Q=>∃ (p:Addr) (ys:List V) (kk:List (List Key)),xs=[.ref p]/\SqL K H p ys/\ys.length=kk.length/\(∀ (i:Nat) y ks,ys[i]?=some y->kk[i]?=some ks->GK H (.tup ks) y)/\kk.Nodup/\kk.length≤63/\∀ q H',H q=none->Same H H'->H' q=some (setO q kk.length)->Q (.ref q) H'
section
variable {X:Cx}
theorem xAod (hc:X.calm=true) (hu:X.A.units+4<cLine):CallR X (.type "set") (rSet1 X.K):=by
 intro pins s σ H xs us Q I r h;obtain ⟨p,ys,kk,rfl,hq,hl,hgk,hnd,hn,q⟩:=h;obtain ⟨u,rfl,ru⟩:=vals1 r;cases ru;obtain ⟨its,rv,pl,hz⟩:=I.list hq;have hil:=rv.length;refine xAfp (I.ok.hd hc) hu pl.isList ⟨by rw [zc,← hil,hl],fun i v ks e1 e2=>?_⟩ hnd hn fun h' tk hS kp=>?_
 ·rw [je] at e1
  have hi:i<ys.length:=by
   have:=(qx.mp e2).1;omega
  obtain ⟨u',hu',ru'⟩:=rv.get (qi hi);rw [e1] at hu';cases hu';have g:=hgk i _ ks (qi hi) e2;exact GK.is I g ru'
 ·obtain ⟨o,es,ep,t,h1,h2,h3,h4,_,h6⟩:=hS
  have hf:=I.hok.fresh (a:=s.heap.objs.size) (qh _);refine ⟨.ref s.heap.objs.size,upd H s.heap.objs.size (setO s.heap.objs.size kk.length),?_,rfl,q _ _ hf (Same.new hf) xAae⟩;refine I.laid (t':=tk) (h':=h') (o:=setO s.heap.objs.size kk.length) (fun b u e=>kp b u (Heap.lt_size e) e) (qh _) ⟨⟨o,es,ep,t,h1,h2,h3,h4,h6.fits⟩,⟨o,h1⟩,fun ha hb x k=>?_⟩;obtain ⟨o',es',ep',t',g1,g2⟩:=x;exact ⟨o',es',ep',t',k _ g1,g2⟩
theorem xAis:CallR X (.builtin "len") (fun xs H Q=>∃ p n,xs=[.ref p]/\n≤1000/\H p=some (setO p n)/\Q (.int (n:Nat)) H):=by
 intro pins s σ H xs us Q I r h;obtain ⟨p,n,rfl,hn,hp,q⟩:=h;obtain ⟨u,rfl,ru⟩:=vals1 r;cases ru;obtain ⟨⟨o,es,ep,t,h1,h2,h3,h4,h5⟩,_⟩:=I.hok p _ hp;subst h4;exact call_len_set h1 h2 h3 h5 (by omega) ⟨.int _,H,I.kept (t':=s.toks+1+1) fun b o e=>e,⟨_,rfl⟩,q⟩
end
end L2
namespace My
open PySem L2 PyProof.Rows
def top (i:Nat):Stmt:=PySem.Challenge.pw_pagefolk_k04_pasts_and_keys.main.body.getD i (.Pass ⟨0,0,0,0⟩)
def clsAt (s:Stmt) (j:Nat):Stmt:=match s with | .ClassDef _ _ _ b _ _ _ _ _ _ _=>b.getD j (.Pass ⟨0,0,0,0⟩) | _=>.Pass ⟨0,0,0,0⟩
abbrev s_fBa:Stmt:=top 2
abbrev s_fAz:Stmt:=top 7
abbrev s_fAl:Stmt:=top 8
abbrev s_fAd:Stmt:=top 9
abbrev s_fAn:Stmt:=top 10
abbrev s_fAf:Stmt:=top 11
abbrev s_fAo:Stmt:=top 12
abbrev s_fAx:Stmt:=top 13
abbrev s_fAm:Stmt:=top 16
abbrev s_fAr:Stmt:=top 17
abbrev s_fAq:Stmt:=top 18
abbrev s_fAw:Stmt:=top 19
abbrev s_fAt:Stmt:=top 20
abbrev s_fAg:Stmt:=top 21
abbrev s_fAu:Stmt:=top 22
abbrev s_fAv:Stmt:=top 23
abbrev s_fAk:Stmt:=top 24
abbrev s_fAe:Stmt:=top 25
abbrev s_fAb:Stmt:=top 26
abbrev s_fAa:Stmt:=top 27
abbrev s_fAs:Stmt:=top 28
abbrev s_fAi:Stmt:=top 29
abbrev s_fAj:Stmt:=top 30
abbrev s_fBb:Stmt:=top 31
abbrev s_fAh:Stmt:=clsAt (top 14) 0
abbrev s_fAy:Stmt:=clsAt (top 14) 7
abbrev s_fAp:Stmt:=clsAt (top 14) 8
abbrev s_fAc:Stmt:=clsAt (top 14) 9
structure Adr where
 fBa:Addr
 fBad:FuncData
 fAz:Addr
 fAzd:FuncData
 fAl:Addr
 fAld:FuncData
 fAd:Addr
 fAdd:FuncData
 fAn:Addr
 fAnd:FuncData
 fAf:Addr
 fAfd:FuncData
 fAo:Addr
 fAod:FuncData
 fAx:Addr
 fAxd:FuncData
 fAm:Addr
 fAmd:FuncData
 fAr:Addr
 fArd:FuncData
 fAq:Addr
 fAqd:FuncData
 fAw:Addr
 fAwd:FuncData
 fAt:Addr
 fAtd:FuncData
 fAg:Addr
 fAgd:FuncData
 fAu:Addr
 fAud:FuncData
 fAv:Addr
 fAvd:FuncData
 fAk:Addr
 fAkd:FuncData
 fAe:Addr
 fAed:FuncData
 fAb:Addr
 fAbd:FuncData
 fAa:Addr
 fAad:FuncData
 fAs:Addr
 fAsd:FuncData
 fAi:Addr
 fAid:FuncData
 fAj:Addr
 fAjd:FuncData
 fBb:Addr
 fBbd:FuncData
 fAh:Addr
 fAhd:FuncData
 fAy:Addr
 fAyd:FuncData
 fAp:Addr
 fApd:FuncData
 fAc:Addr
 fAcd:FuncData
structure Txt (K:PySem.W.Frag) (mg:Str->Option Value) (d:Adr) (tk:Str->Tok):Prop where
 b_all:mg "all"=none
 b_dict:mg "dict"=none
 b_enumerate:mg "enumerate"=none
 b_int:mg "int"=none
 b_isinstance:mg "isinstance"=none
 b_len:mg "len"=none
 b_list:mg "list"=none
 b_max:mg "max"=none
 b_range:mg "range"=none
 b_set:mg "set"=none
 b_sorted:mg "sorted"=none
 b_sum:mg "sum"=none
 b_tuple:mg "tuple"=none
 b_zip:mg "zip"=none
 g_Folk:mg "Folk"=some (.ref (cC K "Folk"))
 C_Folk:Cls K (cC K "Folk")
 K_Folk:Mk K (cC K "Folk") d.fAh
 N_Folk_hands:NoAttr K (cC K "Folk") "hands"
 N_Folk_heights:NoAttr K (cC K "Folk") "heights"
 N_Folk_kept_book:NoAttr K (cC K "Folk") "kept_book"
 N_Folk_seats:NoAttr K (cC K "Folk") "seats"
 N_Folk_sorted_names:NoAttr K (cC K "Folk") "sorted_names"
 N_Folk_told:NoAttr K (cC K "Folk") "told"
 F_fBa:Fun K "name_of" "name_of" s_fBa d.fBa d.fBad
 m_fBa:mg "name_of"=some (.ref d.fBa)
 k_fBa:PySem.W.keepIn K (.ref d.fBa)=true
 d_fBa:Binds K d.fBad ["deed"] []
 F_fAz:Fun K "by_names" "by_names" s_fAz d.fAz d.fAzd
 m_fAz:mg "by_names"=some (.ref d.fAz)
 k_fAz:PySem.W.keepIn K (.ref d.fAz)=true
 d_fAz:Binds K d.fAzd ["deeds"] []
 F_fAl:Fun K "last_heard" "last_heard" s_fAl d.fAl d.fAld
 m_fAl:mg "last_heard"=some (.ref d.fAl)
 k_fAl:PySem.W.keepIn K (.ref d.fAl)=true
 d_fAl:Binds K d.fAld ["roll","deed"] []
 F_fAd:Fun K "had_heard_as_much" "had_heard_as_much" s_fAd d.fAd d.fAdd
 m_fAd:mg "had_heard_as_much"=some (.ref d.fAd)
 k_fAd:PySem.W.keepIn K (.ref d.fAd)=true
 d_fAd:Binds K d.fAdd ["deed","other"] []
 F_fAn:Fun K "check_past" "check_past" s_fAn d.fAn d.fAnd
 m_fAn:mg "check_past"=some (.ref d.fAn)
 k_fAn:PySem.W.keepIn K (.ref d.fAn)=true
 d_fAn:Binds K d.fAnd ["roll","told","deed"] []
 F_fAf:Fun K "how_many_heard" "how_many_heard" s_fAf d.fAf d.fAfd
 m_fAf:mg "how_many_heard"=some (.ref d.fAf)
 k_fAf:PySem.W.keepIn K (.ref d.fAf)=true
 d_fAf:Binds K d.fAfd ["deed"] []
 F_fAo:Fun K "heights_of" "heights_of" s_fAo d.fAo d.fAod
 m_fAo:mg "heights_of"=some (.ref d.fAo)
 k_fAo:PySem.W.keepIn K (.ref d.fAo)=true
 d_fAo:Binds K d.fAod ["roll","told"] []
 F_fAx:Fun K "seats_of" "seats_of" s_fAx d.fAx d.fAxd
 m_fAx:mg "seats_of"=some (.ref d.fAx)
 k_fAx:PySem.W.keepIn K (.ref d.fAx)=true
 d_fAx:Binds K d.fAxd ["roll"] []
 F_fAm:Fun K "_law_draws" "_law_draws" s_fAm d.fAm d.fAmd
 m_fAm:mg "_law_draws"=some (.ref d.fAm)
 k_fAm:PySem.W.keepIn K (.ref d.fAm)=true
 d_fAm:Binds K d.fAmd ["_law_cell","_law_many"] []
 F_fAr:Fun K "_law_word" "_law_word" s_fAr d.fAr d.fArd
 m_fAr:mg "_law_word"=some (.ref d.fAr)
 k_fAr:PySem.W.keepIn K (.ref d.fAr)=true
 d_fAr:Binds K d.fArd ["_law_number"] []
 F_fAq:Fun K "_law_roll" "_law_roll" s_fAq d.fAq d.fAqd
 m_fAq:mg "_law_roll"=some (.ref d.fAq)
 k_fAq:PySem.W.keepIn K (.ref d.fAq)=true
 d_fAq:Binds K d.fAqd ["_law_cell"] []
 F_fAw:Fun K "_law_name" "_law_name" s_fAw d.fAw d.fAwd
 m_fAw:mg "_law_name"=some (.ref d.fAw)
 k_fAw:PySem.W.keepIn K (.ref d.fAw)=true
 d_fAw:Binds K d.fAwd ["_law_number","_law_roll_here"] []
 F_fAt:Fun K "_law_part" "_law_part" s_fAt d.fAt d.fAtd
 m_fAt:mg "_law_part"=some (.ref d.fAt)
 k_fAt:PySem.W.keepIn K (.ref d.fAt)=true
 d_fAt:Binds K d.fAtd ["_law_number","_law_roll_here"] []
 F_fAg:Fun K "_law_sign_name" "_law_sign_name" s_fAg d.fAg d.fAgd
 m_fAg:mg "_law_sign_name"=some (.ref d.fAg)
 k_fAg:PySem.W.keepIn K (.ref d.fAg)=true
 d_fAg:Binds K d.fAgd ["_law_number","_law_roll_here"] []
 F_fAu:Fun K "_law_side" "_law_side" s_fAu d.fAu d.fAud
 m_fAu:mg "_law_side"=some (.ref d.fAu)
 k_fAu:PySem.W.keepIn K (.ref d.fAu)=true
 d_fAu:Binds K d.fAud ["_law_number","_law_roll_here"] []
 F_fAv:Fun K "_law_sign" "_law_sign" s_fAv d.fAv d.fAvd
 m_fAv:mg "_law_sign"=some (.ref d.fAv)
 k_fAv:PySem.W.keepIn K (.ref d.fAv)=true
 d_fAv:Binds K d.fAvd ["_law_number","_law_roll_here"] []
 F_fAk:Fun K "_law_signs" "_law_signs" s_fAk d.fAk d.fAkd
 m_fAk:mg "_law_signs"=some (.ref d.fAk)
 k_fAk:PySem.W.keepIn K (.ref d.fAk)=true
 d_fAk:Binds K d.fAkd ["_law_draws_here","_law_roll_here"] []
 F_fAe:Fun K "_law_sign_names" "_law_sign_names" s_fAe d.fAe d.fAed
 m_fAe:mg "_law_sign_names"=some (.ref d.fAe)
 k_fAe:PySem.W.keepIn K (.ref d.fAe)=true
 d_fAe:Binds K d.fAed ["_law_draws_here","_law_roll_here"] []
 F_fAb:Fun K "_law_what_of_signs" "_law_what_of_signs" s_fAb d.fAb d.fAbd
 m_fAb:mg "_law_what_of_signs"=some (.ref d.fAb)
 k_fAb:PySem.W.keepIn K (.ref d.fAb)=true
 d_fAb:Binds K d.fAbd ["_law_kind","_law_more","_law_roll_here"] []
 F_fAa:Fun K "_law_what_of_marks" "_law_what_of_marks" s_fAa d.fAa d.fAad
 m_fAa:mg "_law_what_of_marks"=some (.ref d.fAa)
 k_fAa:PySem.W.keepIn K (.ref d.fAa)=true
 d_fAa:Binds K d.fAad ["_law_kind","_law_more","_law_roll_here"] []
 F_fAs:Fun K "_law_what" "_law_what" s_fAs d.fAs d.fAsd
 m_fAs:mg "_law_what"=some (.ref d.fAs)
 k_fAs:PySem.W.keepIn K (.ref d.fAs)=true
 d_fAs:Binds K d.fAsd ["_law_draws_here","_law_roll_here","_law_number"] []
 F_fAi:Fun K "_law_branch" "_law_branch" s_fAi d.fAi d.fAid
 m_fAi:mg "_law_branch"=some (.ref d.fAi)
 k_fAi:PySem.W.keepIn K (.ref d.fAi)=true
 d_fAi:Binds K d.fAid ["_law_number","_law_roll_here"] []
 F_fAj:Fun K "_law_house" "_law_house" s_fAj d.fAj d.fAjd
 m_fAj:mg "_law_house"=some (.ref d.fAj)
 k_fAj:PySem.W.keepIn K (.ref d.fAj)=true
 d_fAj:Binds K d.fAjd ["_law_script","_law_most"] []
 F_fBb:Fun K "law" "law" s_fBb d.fBb d.fBbd
 m_fBb:mg "law"=some (.ref d.fBb)
 k_fBb:PySem.W.keepIn K (.ref d.fBb)=true
 d_fBb:Binds K d.fBbd ["_law_script"] []
 F_fAh:Fun K "__init__" "Folk.__init__" s_fAh d.fAh d.fAhd
 M_fAh:Meth K (cC K "Folk") "__init__" d.fAh
 k_fAh:PySem.W.keepIn K (.ref d.fAh)=true
 d_fAh:Binds K d.fAhd ["self","roll","deeds"] []
 F_fAy:Fun K "key" "Folk.key" s_fAy d.fAy d.fAyd
 M_fAy:Meth K (cC K "Folk") "key" d.fAy
 B_fAy:Bnd K (cC K "Folk") "key" d.fAy
 k_fAy:PySem.W.keepIn K (.ref d.fAy)=true
 d_fAy:Binds K d.fAyd ["self","name"] []
 F_fAp:Fun K "past" "Folk.past" s_fAp d.fAp d.fApd
 M_fAp:Meth K (cC K "Folk") "past" d.fAp
 k_fAp:PySem.W.keepIn K (.ref d.fAp)=true
 d_fAp:Binds K d.fApd ["self","name"] []
 F_fAc:Fun K "names_within" "Folk.names_within" s_fAc d.fAc d.fAcd
 M_fAc:Meth K (cC K "Folk") "names_within" d.fAc
 k_fAc:PySem.W.keepIn K (.ref d.fAc)=true
 d_fAc:Binds K d.fAcd ["self","counts"] []
def sp_fBb (K:PySem.W.Frag):Sp:=fun vs H Q _=>∃ sp ns,vs=[.ref sp]/\SqL K H sp (List.map V.int ns)/\ns.length≤63/\∀ H',Same H H'->Q (.bl true) H'
section
variable {K:PySem.W.Frag} {vs:List V} {H:Hp} {Q:VK} {E:XK}
theorem xAwh (h:sp_fBb K vs H Q E):vs.length=1:=by obtain ⟨_,_,rfl,_⟩:=h;rfl
end
theorem law_spec:∀ (K:PySem.W.Frag) (H:Hp) (a:Addr) (ns:List Int),ns.length≤63->Only H->SqL K H a (ns.map V.int)->sp_fBb K [.ref a] H (fun v _=>v=.bl true) fun _ _ _=>False :=
 fun K H a ns h1 _ h3=>⟨a,ns,rfl,h3,h1,fun _ _=>rfl⟩
theorem sc_fBa:FnScope ["deed"] ["deed"] (defScope s_fBa):=⟨rfl,rfl,rfl,by decide +kernel,rfl,by decide +kernel,by decide +kernel⟩
theorem sc_fAl:FnScope ["roll","deed"] ["roll","deed"] (defScope s_fAl):=⟨rfl,rfl,rfl,by decide +kernel,rfl,by decide +kernel,by decide +kernel⟩
theorem sc_fAd:FnScope ["deed","other"] ["deed","other"] (defScope s_fAd):=⟨rfl,rfl,rfl,by decide +kernel,rfl,by decide +kernel,by decide +kernel⟩
theorem sc_fAf:FnScope ["deed"] ["deed"] (defScope s_fAf):=⟨rfl,rfl,rfl,by decide +kernel,rfl,by decide +kernel,by decide +kernel⟩
theorem sc_fAx:FnScope ["roll"] ["roll"] (defScope s_fAx):=⟨rfl,rfl,rfl,by decide +kernel,rfl,by decide +kernel,by decide +kernel⟩
theorem sc_fAy:FnScope ["self","name"] ["self","name"] (defScope s_fAy):=⟨rfl,rfl,rfl,by decide +kernel,rfl,by decide +kernel,by decide +kernel⟩
theorem sc_fAc:FnScope ["self","counts"] ["self","counts"] (defScope s_fAc):=⟨rfl,rfl,rfl,by decide +kernel,rfl,by decide +kernel,by decide +kernel⟩
theorem xAev:FnScope ["_law_cell","_law_many","_law_found","_law_digits","_law_k","_law_number","_law_mixed"] ["_law_cell","_law_many"] (defScope s_fAm):=⟨rfl,rfl,rfl,by decide +kernel,rfl,by decide +kernel,by decide +kernel⟩
theorem xAgk:FnScope ["_law_number","_law_word_here","_law_many","_law_k"] ["_law_number"] (defScope s_fAr):=⟨rfl,rfl,rfl,by decide +kernel,rfl,by decide +kernel,by decide +kernel⟩
theorem xAwi:FnScope ["_law_number","_law_roll_here","_law_more"] ["_law_number","_law_roll_here"] (defScope s_fAw):=⟨rfl,rfl,rfl,by decide +kernel,rfl,by decide +kernel,by decide +kernel⟩
theorem xAoe:FnScope ["deeds","told","deed","name"] ["deeds"] (defScope s_fAz):=⟨rfl,rfl,rfl,by decide +kernel,rfl,by decide +kernel,by decide +kernel⟩
theorem xArx:FnScope ["roll","told","deed","name","other"] ["roll","told","deed"] (defScope s_fAn):=⟨rfl,rfl,rfl,by decide +kernel,rfl,by decide +kernel,by decide +kernel⟩
theorem sc_fAp:FnScope ["self","name"] ["self","name"] (defScope s_fAp):=⟨rfl,rfl,rfl,by decide +kernel,rfl,by decide +kernel,by decide +kernel⟩
theorem xAgl:FnScope ["_law_cell","_law_draws_here","_law_roll_here","_law_k","_law_word_here","_law_letter"] ["_law_cell"] (defScope s_fAq):=⟨rfl,rfl,rfl,by decide +kernel,rfl,by decide +kernel,by decide +kernel⟩
theorem sc_fAt:FnScope ["_law_number","_law_roll_here"] ["_law_number","_law_roll_here"] (defScope s_fAt):=⟨rfl,rfl,rfl,by decide +kernel,rfl,by decide +kernel,by decide +kernel⟩
theorem sc_fAg:FnScope ["_law_number","_law_roll_here"] ["_law_number","_law_roll_here"] (defScope s_fAg):=⟨rfl,rfl,rfl,by decide +kernel,rfl,by decide +kernel,by decide +kernel⟩
theorem sc_fAi:FnScope ["_law_number","_law_roll_here"] ["_law_number","_law_roll_here"] (defScope s_fAi):=⟨rfl,rfl,rfl,by decide +kernel,rfl,by decide +kernel,by decide +kernel⟩
theorem xAof:FnScope ["roll","told","heights","deed","below"] ["roll","told"] (defScope s_fAo):=⟨rfl,rfl,rfl,by decide +kernel,rfl,by decide +kernel,by decide +kernel⟩
theorem sc_fAu:FnScope ["_law_number","_law_roll_here"] ["_law_number","_law_roll_here"] (defScope s_fAu):=⟨rfl,rfl,rfl,by decide +kernel,rfl,by decide +kernel,by decide +kernel⟩
theorem xAwj:FnScope ["_law_number","_law_roll_here","_law_kind"] ["_law_number","_law_roll_here"] (defScope s_fAv):=⟨rfl,rfl,rfl,by decide +kernel,rfl,by decide +kernel,by decide +kernel⟩
theorem xAog:FnScope ["_law_draws_here","_law_roll_here","_law_found","_law_number","_law_name_here"] ["_law_draws_here","_law_roll_here"] (defScope s_fAe):=⟨rfl,rfl,rfl,by decide +kernel,rfl,by decide +kernel,by decide +kernel⟩
theorem xAwk:FnScope ["self","roll","deeds","deed"] ["self","roll","deeds"] (defScope s_fAh):=⟨rfl,rfl,rfl,by decide +kernel,rfl,by decide +kernel,by decide +kernel⟩
theorem sc_fAk:FnScope ["_law_draws_here","_law_roll_here"] ["_law_draws_here","_law_roll_here"] (defScope s_fAk):=⟨rfl,rfl,rfl,by decide +kernel,rfl,by decide +kernel,by decide +kernel⟩
theorem xAit:FnScope ["_law_kind","_law_more","_law_roll_here","_law_part_here","_law_name_here","_law_sides","_law_value","_law_word_here"] ["_law_kind","_law_more","_law_roll_here"] (defScope s_fAa):=⟨rfl,rfl,rfl,by decide +kernel,rfl,by decide +kernel,by decide +kernel⟩
theorem xAoh:FnScope ["_law_kind","_law_more","_law_roll_here","_law_part_here","_law_name_here","_law_behind"] ["_law_kind","_law_more","_law_roll_here"] (defScope s_fAb):=⟨rfl,rfl,rfl,by decide +kernel,rfl,by decide +kernel,by decide +kernel⟩
theorem xAoi:FnScope ["_law_draws_here","_law_roll_here","_law_number","_law_kind","_law_more","_law_to"] ["_law_draws_here","_law_roll_here","_law_number"] (defScope s_fAs):=⟨rfl,rfl,rfl,by decide +kernel,rfl,by decide +kernel,by decide +kernel⟩
theorem xAbz:FnScope ["_law_script","_law_most","_law_cells","_law_roll_here","_law_many","_law_known","_law_table","_law_deeds","_law_k","_law_cell","_law_draws_here","_law_who","_law_turn","_law_other","_law_to","_law_theirs","_law_number","_law_heard","_law_what_here"] ["_law_script","_law_most"] (defScope s_fAj):=⟨rfl,rfl,rfl,by decide +kernel,rfl,by decide +kernel,by decide +kernel⟩
theorem xAci:FnScope ["_law_script","_law_roll_here","_law_deeds","_law_folk","_law_keys","_law_deed","_law_pasts","_law_name_here","_law_due","_law_other","_law_found","_law_rank"] ["_law_script"] (defScope s_fBb):=⟨rfl,rfl,rfl,by decide +kernel,rfl,by decide +kernel,by decide +kernel⟩
section
variable {P:Program} {w:World} {K:PySem.W.Frag} {mg:Str->Option Value} {base:Heap} {d:Adr} {tk:Str->Tok}
theorem ok_fBa (T:Txt K mg d tk):FnOk P w K mg base CX0 1 d.fBa d.fBad ["deed"] (sp_fBa K):=by
 refine T.F_fBa.ok sc_fBa (fun vs H Q E h=>xAvn h) (fun cdv A outer s H vs Q E hr h=>?_);have hu:(A.deeper (envOfC "name_of" (defScope s_fBa) s.heap.objs.size d.fBa cdv)).units<cLine:=hr.units0;refine ⟨_,(@xAaf _ _ _ (@xAar _ _ _ _ (@xAan _ _ _ _ _ (@xAaa _ _ _ _ _ (@pxt _ _ _ _ _ _ _ (@pq _ 0 _ _ rfl)) (@xAaa _ _ _ _ _ (@pxt _ _ _ _ _ _ _ (@pq _ 0 _ _ rfl)) (@xAad _) rfl) rfl)))),?_⟩;obtain ⟨v,ws,dd,rfl,da,kk⟩:=h;obtain ⟨q,hq,b,x,rfl,e1,e2⟩:=DeedAt.out da;exact ⟨_,rfl,q,_,0,_,rfl,rfl,SqT.of e1,rfl,_,rfl,q,_,1,_,rfl,rfl,SqT.of e1,rfl,szOk rfl,fun p H' g s e=>kk H' _ s (xAgi e)⟩
theorem ok_fAl (T:Txt K mg d tk):FnOk P w K mg base CX0 1 d.fAl d.fAld ["roll","deed"] (sp_fAl K):=by
 refine T.F_fAl.ok sc_fAl (fun vs H Q E h=>xAvp h) (fun cdv A outer s H vs Q E hr h=>?_);have hu:(A.deeper (envOfC "last_heard" (defScope s_fAl) s.heap.objs.size d.fAl cdv)).units<cLine:=hr.units0;refine ⟨_,(@xAaf _ _ _ (@xAar _ _ _ _ (@xAbp _ _ _ _ _ _ _ (["hand","count"]) ([]) _ _ _ _ _ rfl (@xArc _ _ _ _ _ _ _ _ _ rfl T.b_zip (@xAaa _ _ _ _ _ (@pq _ 0 _ _ rfl) (@xAaa _ _ _ _ _ (@pxt _ _ _ _ _ _ _ (@pq _ 1 _ _ rfl)) (@xAad _) rfl) rfl) rfl rfl) ⟨rfl,by decide +kernel,by decide +kernel⟩ (caps0 (by decide +kernel)) (fun _ _ _=>(@xAid _ _ _ _ _ (2) rfl (@xAbi _ _ _ _ _ (@xAaq _ _ (0) _ (by show List.Nodup (["hand","count"]:List Str);decide +kernel) rfl (Or.inl rfl) (.inr rfl)) (@xAbi _ _ _ _ _ (@xAaq _ _ (1) _ (by show List.Nodup (["hand","count"]:List Str);decide +kernel) rfl (Or.inl rfl) (.inr rfl)) (@xAdu _) rfl) rfl) rfl rfl)) (fun _=>xAdj rfl rfl (by decide)) (fun _ _ _=>(@xAjn _ _ _ (@xAao _ _ _ _ _ _ _ _ op_gt (@pq _ 1 _ _ rfl) (@xAac _ _ _ _) (xAau _)))) (fun _ _ _=>(@xAan _ _ _ _ _ (@xAaa _ _ _ _ _ (@pq _ 0 _ _ rfl) (@xAaa _ _ _ _ _ (@pq _ 1 _ _ rfl) (@xAad _) rfl) rfl))) (by intro _;rfl)))),?_⟩;obtain ⟨rp,v,ws,dd,rfl,rl,da,hl,kk⟩:=h;obtain ⟨q,hq,b,x,rfl,e1,e2⟩:=DeedAt.out da;have few:=rl.few;refine ⟨_,rfl,_,rfl,q,_,2,_,rfl,rfl,SqT.of e1,rfl,rp,hq,rfl,⟨_,SqL.of rl.at'⟩,⟨_,SqT.of e2⟩,xApk (xs:=ws.map V.str) (ys:=Hs.rowV dd.hd) (fun i zs H'=>Same H H'/\A2 (NmV H' ws) zs (Hs.pastOf dd.hd i)) ⟨Same.refl _,.nil⟩ (fun i zs H' ⟨s,_⟩=>⟨SqL.of (s _ _ rl.at'),SqT.of (s _ _ e2)⟩) (by rw [qg];exact zf (xAak (by omega))) ?_ ?_⟩
 ·rintro i x y zs H' p K1 K0 hx hy ⟨s,an⟩ hp k1 k0
  obtain ⟨hi,rfl⟩:=xAve hx;obtain ⟨hi2,rfl⟩:=xArl hy;have s2:Same H' (upd H' p (.tup [.str (wA ws i),.int (Hs.at0 dd.hd i:Nat)])):=Same.new hp;refine ⟨p,_,rfl,SqT.of xAae,rfl,_,_,rfl,_,_,rfl,rfl,?_⟩;refine ⟨_,rfl,_,_,rfl,rfl,_,rfl,ite2 (fun h0=>?_) (fun h0=>?_)⟩
  ·have h0:=of_decide_eq_true h0
   refine ⟨_,rfl,_,rfl,szOk rfl,fun p3 H3 g3 s3 e3=>k1 _ _ ⟨(s.trans s2).trans s3,?_⟩⟩;rw [xAhy,if_pos (by omega)];exact (an.imp fun _ _ _ g=>xAaw (s2.trans s3) g).snoc (xAgi e3)
  ·have h0:¬ ((0:Int)<(Hs.at0 dd.hd i:Nat)):=fun z=>h0 (decide_eq_true z)
   refine k0 _ ⟨s.trans s2,?_⟩;rw [xAhy,if_neg (by omega),vm];exact an.imp fun _ _ _ g=>xAaw s2 g
 ·rintro H' p zs ⟨s,an⟩ _ hp
  rw [qg,qg,hl,vz] at an;exact kk _ p zs (s.up hp) (s.free hp) xAae (an.imp fun _ _ _ g=>xAaw (Same.new hp) g)
theorem ok_fAd (T:Txt K mg d tk):FnOk P w K mg base CX0 1 d.fAd d.fAdd ["deed","other"] (sp_fAd K):=by
 refine T.F_fAd.ok sc_fAd (fun vs H Q E h=>xAvq h) (fun cdv A outer s H vs Q E hr h=>?_);have hu:(A.deeper (envOfC "had_heard_as_much" (defScope s_fAd) s.heap.objs.size d.fAd cdv)).units<cLine:=hr.units0;refine ⟨_,(@xAaf _ _ _ (@xAar _ _ _ _ (@xAbb _ _ _ _ _ _ _ _ _ (xAqf rfl) rfl T.b_all boot_all (@xAaa _ _ _ _ _ (@xAbp _ _ _ _ _ _ _ (["mine","its"]) ([]) _ _ _ _ _ rfl (@xArd _ _ _ _ _ _ _ _ _ rfl T.b_zip (@xAaa _ _ _ _ _ (@pxt _ _ _ _ _ _ _ (@pq _ 0 _ _ rfl)) (@xAaa _ _ _ _ _ (@pxt _ _ _ _ _ _ _ (@pq _ 1 _ _ rfl)) (@xAad _) rfl) rfl) rfl rfl) ⟨rfl,by decide +kernel,by decide +kernel⟩ (caps0 (by decide +kernel)) (fun _ _ _=>(@xAid _ _ _ _ _ (2) rfl (@xAbi _ _ _ _ _ (@xAaq _ _ (0) _ (by show List.Nodup (["mine","its"]:List Str);decide +kernel) rfl (Or.inl rfl) (.inr rfl)) (@xAbi _ _ _ _ _ (@xAaq _ _ (1) _ (by show List.Nodup (["mine","its"]:List Str);decide +kernel) rfl (Or.inl rfl) (.inr rfl)) (@xAdu _) rfl) rfl) rfl rfl)) (fun _=>xAdj rfl rfl (by decide)) (fun _ _ _=>(@xAcz _)) (fun _ _ _=>(@xAdh _ _ _ _ _ _ _ _ op_ge (@pq _ 0 _ _ rfl) (@pq _ 1 _ _ rfl) (xAau _))) (by intro _;rfl)) (@xAad _) rfl) (by decide) (by decide) rfl rfl))),?_⟩;obtain ⟨v,u,ws,dd,ee,rfl,da,ea,hl,hle,kk⟩:=h;obtain ⟨q,hq,b,x,rfl,e1,e2⟩:=DeedAt.out da;obtain ⟨q',hq',b',x',rfl,e1',e2'⟩:=DeedAt.out ea;refine ⟨_,rfl,q,_,2,_,rfl,rfl,SqT.of e1,rfl,_,rfl,q',_,2,_,rfl,rfl,SqT.of e1',rfl,hq,hq',rfl,⟨_,SqT.of e2⟩,⟨_,SqT.of e2'⟩,xApk (xs:=Hs.rowV dd.hd) (ys:=Hs.rowV ee.hd) (fun i zs H'=>Same H H'/\zs=((List.range i).map fun j=>decide (Hs.at0 ee.hd j≤Hs.at0 dd.hd j)).map V.bl) ⟨Same.refl _,rfl⟩ (fun i zs H' ⟨s,_⟩=>⟨SqT.of (s _ _ e2),SqT.of (s _ _ e2')⟩) (by rw [qg];exact zf (xAak hl)) ?_ ?_⟩
 ·rintro i x y zs H' p K1 K0 hx hy ⟨s,rfl⟩ hp k1 k0
  obtain ⟨hi,rfl⟩:=xArl hx;obtain ⟨hi2,rfl⟩:=xArl hy;refine ⟨p,_,rfl,SqT.of xAae,rfl,_,_,rfl,_,_,rfl,rfl,?_⟩;refine iteT ?_;refine ⟨_,rfl,_,rfl,_,_,rfl,rfl,k1 _ _ ⟨s.trans (Same.new hp),?_⟩⟩;rw [yn,z7,z7];exact congrArg (fun b=>List.map V.bl ((List.range i).map fun j=>decide (Hs.at0 ee.hd j≤Hs.at0 dd.hd j))++[V.bl b]) (decide_eq_decide.mpr Int.ofNat_le)
 ·rintro H' p zs ⟨s,rfl⟩ _ hp
  refine ⟨p,_,rfl,SqL.of xAae,kk _ _ (s.up hp) ?_⟩;rw [vv];rw [qg,qg,hle,vz];constructor
  ·intro h i hi
   exact of_decide_eq_true (h _ (qk.mpr ⟨i,zp.mpr hi,rfl⟩))
  ·intro h b hb
   obtain ⟨i,hi,rfl⟩:=qk.mp hb;exact decide_eq_true (h i (zp.mp hi))
theorem ok_fAf (T:Txt K mg d tk):FnOk P w K mg base CX0 1 d.fAf d.fAfd ["deed"] (sp_fAf K):=by
 refine T.F_fAf.ok sc_fAf (fun vs H Q E h=>xAvs h) (fun cdv A outer s H vs Q E hr h=>?_);have hu:(A.deeper (envOfC "how_many_heard" (defScope s_fAf) s.heap.objs.size d.fAf cdv)).units<cLine:=hr.units0;refine ⟨_,(@xAaf _ _ _ (@xAar _ _ _ _ (@xAbb _ _ _ _ _ _ _ _ _ (xAmw 1000000 rfl) rfl T.b_sum boot_sum (@xAaa _ _ _ _ _ (@pxt _ _ _ _ _ _ _ (@pq _ 0 _ _ rfl)) (@xAad _) rfl) (by decide) (by decide) rfl rfl))),?_⟩;obtain ⟨v,ws,dd,rfl,da,hl,hs,kk⟩:=h;obtain ⟨q,hq,b,x,rfl,e1,e2⟩:=DeedAt.out da;refine ⟨_,rfl,q,_,2,_,rfl,rfl,SqT.of e1,rfl,hq,dd.hd.map fun (n:Nat)=>(n:Int),rfl,.inr (SqT.of (by rw [wb];exact e2)),fun n hn=>?_,?_,?_⟩
 ·obtain ⟨k,hk,rfl⟩:=qk.mp hn
  have:=hs k hk;omega
 ·rw [qg]
  omega
 ·rw [show (dd.hd.map fun (n:Nat)=>(n:Int)).sum=((dd.hd.sum:Nat):Int) from ?_]
  ·exact kk
  ·have:∀ l:List Nat,(l.map fun (n:Nat)=>(n:Int)).sum=((l.sum:Nat):Int):=fun l=>by
    induction l with
    | nil=>rfl
    | cons a l ih=>rw [zh,wl,wl,ih];omega
   exact this _
theorem ok_fAx (T:Txt K mg d tk):FnOk P w K mg base CX0 1 d.fAx d.fAxd ["roll"] (sp_fAx K):=by
 refine T.F_fAx.ok sc_fAx (fun vs H Q E h=>xAvu h) (fun cdv A outer s H vs Q E hr h=>?_);have hu:(A.deeper (envOfC "seats_of" (defScope s_fAx) s.heap.objs.size d.fAx cdv)).units<cLine:=hr.units0;refine ⟨_,(@xAaf _ _ _ (@xAar _ _ _ _ (@xAav _ _ _ _ _ _ _ _ _ (xAkw hr.hd (hu3 hr)) rfl T.b_dict boot_dict (@xAaa _ _ _ _ _ (@xAbp _ _ _ _ _ _ _ (["seat","hand"]) ([]) _ _ _ _ _ rfl (@xAoq _ _ _ _ _ _ _ _ rfl T.b_enumerate (@xAaa _ _ _ _ _ (@pq _ 0 _ _ rfl) (@xAad _) rfl) rfl) ⟨rfl,by decide +kernel,by decide +kernel⟩ (caps0 (by decide +kernel)) (fun _ _ _=>(@xAid _ _ _ _ _ (2) rfl (@xAbi _ _ _ _ _ (@xAaq _ _ (0) _ (by show List.Nodup (["seat","hand"]:List Str);decide +kernel) rfl (Or.inl rfl) (.inr rfl)) (@xAbi _ _ _ _ _ (@xAaq _ _ (1) _ (by show List.Nodup (["seat","hand"]:List Str);decide +kernel) rfl (Or.inl rfl) (.inr rfl)) (@xAdu _) rfl) rfl) rfl rfl)) (fun _=>xAdj rfl rfl (by decide)) (fun _ _ _=>(@xAcz _)) (fun _ _ _=>(@xAan _ _ _ _ _ (@xAaa _ _ _ _ _ (@pq _ 1 _ _ rfl) (@xAaa _ _ _ _ _ (@pq _ 0 _ _ rfl) (@xAad _) rfl) rfl))) (by intro _;rfl)) (@xAad _) rfl) (by decide) (by decide) rfl rfl))),?_⟩;obtain ⟨rp,ws,rfl,rl,nd,kk⟩:=h;have few:=rl.few;refine ⟨_,rfl,rp,rfl,⟨_,SqL.of rl.at'⟩,xAsx (xs:=ws.map V.str) (by rw [qg];exact zf (xAak (by omega))) (fun i zs H'=>Same H H'/\A2 (fun y e=>∃ b,y=.ref b/\H' b=some (.tup [kV e.1,e.2])) zs ((seatL ws).take i)) ⟨Same.refl _,.nil⟩ (fun i zs H' ⟨s,_⟩=>SqL.of (s _ _ rl.at')) ?_ ?_⟩
 ·rintro i x zs H' p K1 K0 hx ⟨s,an⟩ hp k1 k0
  obtain ⟨hi,rfl⟩:=xAve hx;have s2:Same H' (upd H' p (.tup [.int (i:Int),.str (wA ws i)])):=Same.new hp;refine ⟨p,_,rfl,SqT.of xAae,rfl,_,_,rfl,_,_,rfl,rfl,?_⟩;refine iteT ?_;refine ⟨_,rfl,_,rfl,szOk rfl,fun p3 H3 g3 s3 e3=>k1 _ _ ⟨(s.trans s2).trans s3,?_⟩⟩;rw [vj,xApm hi];exact (an.imp fun _ _ _ ⟨b,e,g⟩=>⟨b,e,s3 _ _ (s2 _ _ g)⟩).snoc ⟨p3,rfl,e3⟩
 ·rintro H' p zs ⟨s,an⟩ hz hp
  rw [qg,← xAlk ws,z9] at an;refine ⟨p,zs,seatL ws,rfl,SqL.of xAae,xAvg (an.imp fun _ _ _ ⟨b,e,g⟩=>⟨b,e,Same.new hp _ _ g⟩),?_,fun q H2 g2 s2 e2=>kk _ _ ((s.up hp).trans s2) ((s.up hp).free g2) ?_⟩
  ·rw [an.1,xAlk];omega
  ·rw [e2,xAec _ _ (xAfl nd) (fun e _ x hx=>absurd hx y7)]
   rfl
theorem ok_fAy (T:Txt K mg d tk):FnOk P w K mg base CX0 1 d.fAy d.fAyd ["self","name"] (sp_fAy K):=by
 refine T.F_fAy.ok sc_fAy (fun vs H Q E h=>xAvw h) (fun cdv A outer s H vs Q E hr h=>?_);have hu:(A.deeper (envOfC "Folk.key" (defScope s_fAy) s.heap.objs.size d.fAy cdv)).units<cLine:=hr.units0;have hu1:(A.deeper (envOfC "Folk.key" (defScope s_fAy) s.heap.objs.size d.fAy cdv)).units+1<cLine:=hu_of hr;refine ⟨_,(@xAaf _ _ _ (@xAar _ _ _ _ (@xAan _ _ _ _ _ (@xAaa _ _ _ _ _ (@xAbo _ _ _ _ _ _ (hu2 hr) (@xAdi _ _ _ _ _ (@pq _ 0 _ _ rfl) rfl) (@pq _ 1 _ _ rfl) (fun _ _=>rfl)) (@xAaa _ _ _ _ _ (@xAjl _ _ _ _ _ _ hu1 (@xAdi _ _ _ _ _ (@pq _ 0 _ _ rfl) rfl) (@pxt _ _ _ _ _ _ _ (@pq _ 1 _ _ rfl)) (fun _ _=>rfl)) (@xAad _) rfl) rfl)))),?_⟩;obtain ⟨x,v,ws,hn,es,dd,rfl,ko,hv,hm,hw,nd,kk⟩:=h;obtain ⟨dx,fs,gp,sp,kvs,ob,f1,f2,hg,hd,hs⟩:=ko;have e0:=hd dd hm;obtain ⟨b,rfl,eb⟩:=id hv;refine ⟨_,rfl,x,_,dx,_,_,rfl,ob,T.C_Folk,T.N_Folk_heights,f1,_,rfl,gp,kvs,_,_,rfl,.of hg,hv,e0,?_⟩;refine ⟨_,rfl,x,_,dx,_,_,rfl,ob,T.C_Folk,T.N_Folk_seats,f2,_,rfl,b,_,0,_,rfl,rfl,SqT.of eb,rfl,sp,_,rfl,(xAlj nd hw▸DGet.k (k:=Sum.inr (wA ws dd.who)) hs),szOk rfl,fun p H' g s e=>kk H' _ s ?_⟩;exact .tup e (.cons (.int _) (.cons (.int _) .nil))
theorem ok_fAc (T:Txt K mg d tk):FnOk P w K mg base CX0 1 d.fAc d.fAcd ["self","counts"] (sp_fAc K):=by
 refine T.F_fAc.ok sc_fAc (fun vs H Q E h=>xAvy h) (fun cdv A outer s H vs Q E hr h=>?_);have hu:(A.deeper (envOfC "Folk.names_within" (defScope s_fAc) s.heap.objs.size d.fAc cdv)).units<cLine:=hr.units0;have hu1:(A.deeper (envOfC "Folk.names_within" (defScope s_fAc) s.heap.objs.size d.fAc cdv)).units+1<cLine:=hu_of hr;refine ⟨_,(@xAaf _ _ _ (@xAar _ _ _ _ (@xAbp _ _ _ _ _ _ _ (["name"]) ([("counts",1),("self",0)]) _ _ _ _ _ rfl (@xAbj _ _ _ _ (@xAdi _ _ _ _ _ (@pv _ 0 _ _ rfl (Or.inr (Or.inl rfl)) rfl rfl) rfl)) ⟨rfl,by decide +kernel,by decide +kernel⟩ (xAct (defScope s_fAc) ["self","counts"] rfl rfl (fun _ h=>xAcb h) (by decide +kernel) (by decide +kernel) (by decide +kernel)) (fun _ _ _=>(@xAaq _ _ (0) _ (by show List.Nodup (["name","counts","self"]:List Str);decide +kernel) rfl (Or.inl rfl) (.inr rfl))) (fun _=>xAbg rfl) (fun _ _ _=>(@xAjn _ _ _ (@xAao _ _ _ _ _ _ _ _ op_le (@pe_ix _ _ _ _ _ _ _ (xAgy (K:=K) rfl) (@pq _ 0 _ _ rfl) (@xAac _ _ _ _) (fun _ _=>rfl)) (@pe_ix _ _ _ _ _ _ _ (xAgy (K:=K) rfl) (@pv _ 1 _ _ rfl (Or.inr (Or.inl rfl)) rfl rfl) (@xAjl _ _ _ _ _ _ hu1 (xAuq (K:=K) rfl (@pv _ 2 _ _ rfl (Or.inr (Or.inl rfl)) rfl rfl) rfl) (@pe_ix _ _ _ _ _ _ _ (xAgy (K:=K) rfl) (@pq _ 0 _ _ rfl) (@xAac _ _ _ _) (fun _ _=>rfl)) (fun _ _=>rfl)) (fun _ _=>rfl)) (xAau _)))) (fun _ _ _=>(@pq _ 0 _ _ rfl)) (by intro _;rfl)))),?_⟩;obtain ⟨x,cp,ws,hn,ss,row,rfl,fk,hc,hl,kk⟩:=h;obtain ⟨dx,hp,sp,tp,gp,np,kvs,hvs,ns,es,ob,rl,se,to,td,pe,he,hd,nl,na,sw,up⟩:=fk;obtain ⟨nd,W,hg,gd,few⟩:=id sw
 have hns:ns.length≤63:=by rw [na.1,qg];exact few
 refine ⟨_,rfl,x,_,dx,_,_,rfl,ob,T.C_Folk,T.N_Folk_sorted_names,xArj,np,rfl,⟨_,SqL.of nl⟩,lc_A2 (α:=Hs.Dd) (β:=Nat×Nat) (js:=ss) (fun H v e=>NmV H ws v (nm e)) (fun H v p=>NmV H ws v p) (fun e=>if Hs.inC row e=true then some (nm e) else none) (fun _ _ _ _ s g=>xAaw s g) (fun _ _ _ _ s g=>xAaw s g) (SqL.of nl) (by omega) ?_ ?_ ?_⟩
 ·refine ⟨by rw [na.1,qg],fun i y e e1 e2=>na.2 i y (nm e) e1 (by rw [ql,e2];rfl)⟩
 ·intro y e H5 K1 K0 hm s5 hy k1 k0
  have hw:=W.who e hm;obtain ⟨b,rfl,eb⟩:=id hy;refine ⟨_,rfl,b,_,1,_,rfl,rfl,SqT.of eb,rfl,_,rfl,_,rfl,x,_,dx,_,_,rfl,s5 _ _ ob,T.C_Folk,T.N_Folk_seats,xAln,_,rfl,b,_,0,_,rfl,rfl,SqT.of eb,rfl,sp,_,rfl,(xAlj nd hw▸DGet.k (k:=Sum.inr (wA ws e.who)) (s5 _ _ se)),?_⟩;refine ⟨cp,_,(e.who:Int),_,rfl,rfl,SqT.of (s5 _ _ hc),xAcp (xAvf (by rw [hl];exact hw)),_,_,rfl,rfl,_,rfl,ite2 (fun h0=>?_) (fun h0=>?_)⟩
  ·have h1:Hs.inC row e=true:=decide_eq_true (Int.ofNat_le.mp (of_decide_eq_true h0))
   exact ⟨_,rfl,k1 (nm e) _ _ (if_pos h1) (Same.refl _) hy⟩
  ·have h1:¬ Hs.inC row e=true:=fun z=>h0 (decide_eq_true (Int.ofNat_le.mpr (of_decide_eq_true z)))
   exact k0 _ (if_neg h1) (Same.refl _)
 ·intro H5 bp zs' s5 g5 e5 an5
  rw [show ss.filterMap (fun e=>if Hs.inC row e=true then some (nm e) else none)=(ss.filter (Hs.inC row)).map nm from ?_] at an5
  ·exact kk H5 bp zs' s5 g5 e5 an5
  ·exact xAcl _ _ ss
theorem ok_fAm (T:Txt K mg d tk):FnOk P w K mg base CX0 1 d.fAm d.fAmd ["_law_cell","_law_many"] (sp_fAm K):=by
 refine T.F_fAm.ok xAev (fun vs H Q E h=>xAtf h) (fun cdv A outer s H vs Q E hr h=>?_);have hu:(A.deeper (envOfC "_law_draws" (defScope s_fAm) s.heap.objs.size d.fAm cdv)).units<cLine:=hr.units0;refine ⟨_,(@xAab _ _ _ _ _ (@xAap _ _ (2) _ _ _ _ xAev.nd rfl (Or.inl rfl) (@xAbd _ _ _ _ (@xAad _)) rfl (.inl rfl)) (@xAab _ _ _ _ _ (@xAap _ _ (3) _ _ _ _ xAev.nd rfl (Or.inl rfl) (@xAbb _ _ _ _ _ _ _ _ _ (xAee rfl) rfl T.b_max boot_max (@xAaa _ _ _ _ _ (@xAac _ _ _ _) (@xAaa _ _ _ _ _ (@pe_op _ _ _ _ _ _ _ _ xAmd (@pq _ 0 _ _ rfl) (@pe_op _ _ _ _ _ _ _ _ xAie (@xAac _ _ _ _) (@xAac _ _ _ _))) (@xAad _) rfl) rfl) (by decide) (by decide) rfl rfl) rfl (.inl rfl)) (@xAab _ _ _ _ _ (@xAca _ _ _ _ _ _ _ _ PassesOwn.never rfl (@xAcn _ _ _ _ _ _ rfl T.b_range (@xAaa _ _ _ _ _ (@pq _ 1 _ _ rfl) (@xAad _) rfl) rfl) (@xAaq _ _ (4) _ xAev.nd rfl (Or.inl rfl) (.inl rfl)) (@xAab _ _ _ _ _ (@xAap _ _ (5) _ _ _ _ xAev.nd rfl (Or.inl rfl) (@pe_op _ _ _ _ _ _ _ _ xAay (@pe_op _ _ _ _ _ _ _ _ xAds (@pe_op _ _ _ _ _ _ _ _ xAbt (@pe_op _ _ _ _ _ _ _ _ xAbt (@pe_op _ _ _ _ _ _ _ _ xAay (@pq _ 0 _ _ rfl) (@xAac _ _ _ _)) (@pe_op _ _ _ _ _ _ _ _ xAds (@pe_op _ _ _ _ _ _ _ _ xAds (@xAac _ _ _ _) (@pq _ 4 _ _ rfl)) (@pq _ 4 _ _ rfl))) (@xAac _ _ _ _)) (@xAac _ _ _ _)) (@xAac _ _ _ _)) rfl (.inl rfl)) (@xAab _ _ _ _ _ (@xAap _ _ (5) _ _ _ _ xAev.nd rfl (Or.inl rfl) (@pe_op _ _ _ _ _ _ _ _ xAay (@pe_op _ _ _ _ _ _ _ _ xAds (@pq _ 5 _ _ rfl) (@pq _ 5 _ _ rfl)) (@xAac _ _ _ _)) rfl (.inl rfl)) (@xAab _ _ _ _ _ (@xAap _ _ (6) _ _ _ _ xAev.nd rfl (Or.inl rfl) (@pe_op _ _ _ _ _ _ _ _ xAba (@pe_op _ _ _ _ _ _ _ _ xAds (@pe_op _ _ _ _ _ _ _ _ xAds (@pe_op _ _ _ _ _ _ _ _ xAds (@pq _ 5 _ _ rfl) (@pe_op _ _ _ _ _ _ _ _ xAbt (@pq _ 5 _ _ rfl) (@xAac _ _ _ _))) (@xAac _ _ _ _)) (@pe_op _ _ _ _ _ _ _ _ xAbt (@pe_op _ _ _ _ _ _ _ _ xAbt (@pq _ 5 _ _ rfl) (@pq _ 4 _ _ rfl)) (@xAac _ _ _ _))) (@xAac _ _ _ _)) rfl (.inl rfl)) (@xAab _ _ _ _ _ (@ps_if _ _ _ _ _ _ _ _ (@xAao _ _ _ _ _ _ _ _ op_gt (@pq _ 3 _ _ rfl) (@xAac _ _ _ _) (xAau _)) (@xAaf _ _ _ (@xAap _ _ (6) _ _ _ _ xAev.nd rfl (Or.inl rfl) (@pq _ 3 _ _ rfl) rfl (.inl rfl))) (@xAas _)) (@xAab _ _ _ _ _ (@xAdf _ _ _ _ (@pe_bm _ _ _ _ _ _ _ _ _ _ _ _ PySem.F.plainAttrs_list PySem.F.slot_list_append PySem.F.type_list_append xAcf (@pq _ 2 _ _ rfl) (@xAaa _ _ _ _ _ (@pe_op _ _ _ _ _ _ _ _ xAay (@pq _ 6 _ _ rfl) (@pe_op _ _ _ _ _ _ _ _ xAie (@xAac _ _ _ _) (@xAac _ _ _ _))) (@xAad _) rfl) rfl rfl rfl rfl rfl) rfl) (@xAaf _ _ _ (@xAap _ _ (3) _ _ _ _ xAev.nd rfl (Or.inl rfl) (@pe_op _ _ _ _ _ _ _ _ xAqg (@pq _ 3 _ _ rfl) (@pe_op _ _ _ _ _ _ _ _ xAie (@xAac _ _ _ _) (@xAac _ _ _ _))) rfl (.inl rfl)))))))) (by intro _;rfl)) (@xAaf _ _ _ (@xAar _ _ _ _ (@pq _ 2 _ _ rfl)))))),?_⟩;obtain ⟨i,n,rfl,hn,k⟩:=h;refine ⟨by decide,fun p H1 hp s1 e1=>?_⟩;refine ⟨_,rfl,_,_,rfl,rfl,⟨by decide,by decide,by decide⟩,_,_,rfl,rfl,_,_,rfl,?_⟩
 refine ⟨_,rfl,n,rfl,by omega,by omega,xAdb (n:=(n:Int).toNat) (fun j σ H2=>∃ (dg:Int) (ns:List Int) (q4 q5 q6:Option V),σ=[some (.int i),some (.int n),some (.ref p),some (.int dg),q4,q5,q6]/\Same H H2/\H2 p=some (.lst (ns.map V.int))/\ns.length=j)
  ⟨_,[],none,none,none,rfl,s1,e1,rfl⟩ ?_ ?_⟩
 ·rintro j σ H2 hj ⟨dg,ns,q4,q5,q6,rfl,s2,h2,hl⟩
  have hj':j<31:=by omega
  refine ⟨_,rfl,_,_,rfl,rfl,(by show (0:Int)<1000000007;decide),_,rfl,_,_,rfl,rfl,.inl ⟨by decide,by decide⟩,_,rfl,_,_,rfl,rfl,.inr ⟨by omega,by omega⟩,_,_,rfl,rfl,_,_,rfl,rfl,_,_,rfl,rfl,.inr ⟨by decide,by decide⟩,_,_,rfl,rfl,(by show (0:Int)<2147483629;decide),?_⟩;refine ⟨_,rfl,_,rfl,_,_,rfl,rfl,.inl (cm (by decide) (by decide)),_,_,rfl,rfl,(by show (0:Int)<2147483587;decide),?_⟩;refine ⟨_,rfl,_,rfl,_,_,rfl,rfl,_,_,rfl,rfl,.inl (cm (by decide) (by decide)),_,_,rfl,rfl,.inr ⟨by decide,by decide⟩,_,rfl,_,rfl,_,_,rfl,rfl,_,_,rfl,rfl,_,_,rfl,rfl,.inr (cm3 (by decide) (by decide) hj'),_,_,rfl,rfl,⟨by decide,by decide⟩,?_⟩;refine ⟨_,rfl,_,_,rfl,rfl,_,rfl,?_⟩;refine ite2 (fun _=>⟨_,rfl,?_⟩) fun _=>?_
  all_goals
   refine ⟨_,rfl,.inl ⟨rfl,_,SqL.of h2⟩,_,rfl,_,_,rfl,rfl,⟨by decide,by decide,by decide⟩,_,_,rfl,rfl,(by decide:(0:Int)<10 ^ (34:Int).toNat),p,_,_,rfl,rfl,h2,(by rw [qg];exact xAak (by omega)),?_⟩;refine ⟨_,rfl,_,_,rfl,rfl,⟨by decide,by decide,by decide⟩,_,_,rfl,rfl,⟨(by decide:(0:Int)<10 ^ (34:Int).toNat),by decide +kernel⟩,?_⟩;exact ⟨_,ns++[_],_,_,_,rfl,s2.wr hp,by rw [xAae,z7];rfl,by rw [qv,zk,hl]⟩
 ·rintro σ H2 ⟨dg,ns,q4,q5,q6,rfl,s2,h2,hl⟩
  have hl':ns.length=n:=by omega
  exact ⟨_,rfl,k H2 p ns s2 hp ⟨h2,by omega,by omega⟩ hl'⟩
theorem ok_fAr (T:Txt K mg d tk):FnOk P w K mg base CX0 1 d.fAr d.fArd ["_law_number"] (sp_fAr K):=by
 refine T.F_fAr.ok xAgk (fun vs H Q E h=>xAtg h) (fun cdv A outer s H vs Q E hr h=>?_);have hu:(A.deeper (envOfC "_law_word" (defScope s_fAr) s.heap.objs.size d.fAr cdv)).units<cLine:=hr.units0;refine ⟨_,(@xAab _ _ _ _ _ (@xAap _ _ (1) _ _ _ _ xAgk.nd rfl (Or.inl rfl) (@xAaz _ _ _ _) rfl (.inl rfl)) (@xAab _ _ _ _ _ (@xAap _ _ (2) _ _ _ _ xAgk.nd rfl (Or.inl rfl) (@pe_op _ _ _ _ _ _ _ _ xAbt (@xAac _ _ _ _) (@pe_op _ _ _ _ _ _ _ _ xAay (@pq _ 0 _ _ rfl) (@xAac _ _ _ _))) rfl (.inl rfl)) (@xAab _ _ _ _ _ (@xAap _ _ (0) _ _ _ _ xAgk.nd rfl (Or.inl rfl) (@pe_op _ _ _ _ _ _ _ _ xAba (@pq _ 0 _ _ rfl) (@xAac _ _ _ _)) rfl (.inl rfl)) (@xAab _ _ _ _ _ (@xAca _ _ _ _ _ _ _ _ PassesOwn.never rfl (@xAcn _ _ _ _ _ _ rfl T.b_range (@xAaa _ _ _ _ _ (@pq _ 2 _ _ rfl) (@xAad _) rfl) rfl) (@xAaq _ _ (3) _ xAgk.nd rfl (Or.inl rfl) (.inl rfl)) (@xAab _ _ _ _ _ (@xAap _ _ (1) _ _ _ _ xAgk.nd rfl (Or.inl rfl) (@pe_op _ _ _ _ _ _ _ _ xAew (@pq _ 1 _ _ rfl) (@pe_ix _ _ _ _ _ _ _ xAsj (@xAaz _ _ _ _) (@pe_op _ _ _ _ _ _ _ _ xAay (@pq _ 0 _ _ rfl) (@xAac _ _ _ _)) (fun _ _=>rfl))) rfl (.inl rfl)) (@xAaf _ _ _ (@xAap _ _ (0) _ _ _ _ xAgk.nd rfl (Or.inl rfl) (@pe_op _ _ _ _ _ _ _ _ xAba (@pq _ 0 _ _ rfl) (@xAac _ _ _ _)) rfl (.inl rfl)))) (by intro _;rfl)) (@xAaf _ _ _ (@xAar _ _ _ _ (@pq _ 1 _ _ rfl))))))),?_⟩;obtain ⟨i,rfl,k⟩:=h;refine ⟨_,rfl,_,_,rfl,rfl,(by show (0:Int)<8;decide),_,_,rfl,rfl,?_⟩;refine ⟨_,rfl,_,_,rfl,rfl,⟨by decide,by decide⟩,?_⟩;have hm:0≤i % 8/\i % 8<8:=⟨Int.emod_nonneg _ (by decide),Int.emod_lt_of_pos _ (by decide)⟩
 refine ⟨_,rfl,_,rfl,by omega,by omega,xAdb (n:=(1+i % 8).toNat) (fun j σ H2=>∃ (n:Int) (z:Str) (q:Option V),σ=[some (.int n),some (.str z),some (.int (1+i % 8)),q]/\H2=H/\z.cps.size=j/\∀ c∈z.cps.toList,97≤c/\c≤122)
  ⟨i / 8,_,none,rfl,rfl,rfl,fun _ z=>nomatch z⟩ ?_ ?_⟩
 ·rintro j σ H2 hj ⟨n,z,q,rfl,rfl,hz,hw⟩
  have hn:0≤n % 26/\n % 26<26:=⟨Int.emod_nonneg _ (by decide),Int.emod_lt_of_pos _ (by decide)⟩;obtain ⟨c,hc⟩:=xAsr ("abcdefghijklmnopqrstuvwxyz":Str).cps.toList (n % 26) hn.1 (by rw [show ("abcdefghijklmnopqrstuvwxyz":Str).cps.toList.length=26 from by decide +kernel];omega);refine ⟨_,rfl,_,rfl,_,_,rfl,rfl,(by show (0:Int)<26;decide),_,_,_,rfl,rfl,(by decide +kernel),hc,_,_,rfl,rfl,?_,?_⟩
  ·have:z.length=z.cps.size:=rfl
   have h1:(⟨#[c]⟩:Str).length=1:=rfl;have:=xAak (n:=z.length+1) (by omega);omega
  ·refine ⟨_,rfl,_,_,rfl,rfl,⟨by decide,by decide⟩,?_⟩
   refine ⟨n / 26,_,_,rfl,rfl,by rw [xAjp];show _+1=_;omega,fun c' hc'=>?_⟩;rw [xAfe] at hc';rcases zj.mp hc' with y | y
   ·exact hw c' y
   ·rw [zb.mp y]
    exact xAte c (xAox hc)
 ·rintro σ H2 ⟨n,z,q,rfl,rfl,hz,hw⟩
  exact ⟨_,rfl,k z ⟨by omega,by omega,hw⟩⟩
theorem ok_fAw (T:Txt K mg d tk):FnOk P w K mg base CX0 1 d.fAw d.fAwd ["_law_number","_law_roll_here"] (sp_fAw K):=by
 refine T.F_fAw.ok xAwi (fun vs H Q E h=>xAti h) (fun cdv A outer s H vs Q E hr h=>?_);have hu:(A.deeper (envOfC "_law_name" (defScope s_fAw) s.heap.objs.size d.fAw cdv)).units<cLine:=hr.units0;refine ⟨_,(@xAab _ _ _ _ _ (@xAap _ _ (2) _ _ _ _ xAwi.nd rfl (Or.inl rfl) (@pe_op _ _ _ _ _ _ _ _ xAba (@pq _ 0 _ _ rfl) (@xAbb _ _ _ _ _ _ _ _ _ xAbc rfl T.b_len boot_len (@xAaa _ _ _ _ _ (@pq _ 1 _ _ rfl) (@xAad _) rfl) (by decide) (by decide) rfl rfl)) rfl (.inl rfl)) (@xAaf _ _ _ (@xAar _ _ _ _ (@xAan _ _ _ _ _ (@xAaa _ _ _ _ _ (@pe_ix _ _ _ _ _ _ _ xAby (@pq _ 1 _ _ rfl) (@pe_op _ _ _ _ _ _ _ _ xAay (@pq _ 0 _ _ rfl) (@xAbb _ _ _ _ _ _ _ _ _ xAbc rfl T.b_len boot_len (@xAaa _ _ _ _ _ (@pq _ 1 _ _ rfl) (@xAad _) rfl) (by decide) (by decide) rfl rfl)) (fun _ _=>rfl)) (@xAaa _ _ _ _ _ (@pe_op _ _ _ _ _ _ _ _ xAbt (@xAac _ _ _ _) (@pe_op _ _ _ _ _ _ _ _ xAay (@pe_op _ _ _ _ _ _ _ _ xAba (@pq _ 2 _ _ rfl) (@xAac _ _ _ _)) (@pe_ix _ _ _ _ _ _ _ xAby (@xAbd _ _ _ _ (@xAaa _ _ _ _ _ (@xAac _ _ _ _) (@xAaa _ _ _ _ _ (@pe_op _ _ _ _ _ _ _ _ xAie (@xAac _ _ _ _) (@xAac _ _ _ _)) (@xAad _) rfl) rfl)) (@pe_op _ _ _ _ _ _ _ _ xAay (@pq _ 2 _ _ rfl) (@xAac _ _ _ _)) (fun _ _=>rfl)))) (@xAad _) rfl) rfl))))),?_⟩;obtain ⟨i,p,ws,rfl,hp,k⟩:=h;refine ⟨_,rfl,_,rfl,p,_,rfl,.inl (SqL.of hp.at'),_,_,rfl,rfl,hp.len,?_⟩;refine ⟨_,rfl,_,rfl,_,rfl,p,_,rfl,.inl (SqL.of hp.at'),_,_,rfl,rfl,hp.len.1,p,_,_,rfl,rfl,SqL.of hp.at',xAbk _ hp.len.1,xAbn _ hp.len.1,fun v hv=>?_⟩;obtain ⟨w,hw,rfl⟩:=qk.mp hv;refine ⟨_,rfl,_,_,rfl,rfl,⟨by decide,by decide⟩,_,_,rfl,rfl,⟨by decide,by decide,by decide⟩,szOk rfl,fun q1 H1 g1 s1 e1=>?_⟩;refine ⟨_,rfl,_,_,rfl,rfl,(by show (0:Int)<2;decide),q1,_,_,rfl,rfl,SqL.of e1,xAbk _ (by decide),xAbn _ (by decide),fun m hm=>?_⟩
 obtain ⟨n,rfl,hn,hn2⟩:∃ n,m=V.int n/\0<n/\n≤1000000:=by
  simp only [List.mem_cons,List.not_mem_nil,or_false] at hm
  rcases hm with rfl | rfl
  ·exact ⟨9,rfl,by decide,by decide⟩
  ·exact ⟨_,rfl,by decide,by decide⟩
 refine ⟨_,_,rfl,rfl,hn,_,_,rfl,rfl,szOk rfl,fun q2 H2 g2 s2 e2=>?_⟩;refine k H2 (.ref q2) _ (s1.trans s2) (.tup e2 (.cons (.str w) (.cons (.int _) .nil))) ⟨_,rfl,w,_,rfl,hw,?_,?_⟩
 ·have:=xAbk (i / ((ws.map V.str).length:Int) / 2) hn
  omega
 ·have:=xAbn (i / ((ws.map V.str).length:Int) / 2) hn
  omega
theorem ok_fAz (T:Txt K mg d tk) (gfBa:FnOk P w K mg base CX0 1 d.fBa d.fBad ["deed"] (sp_fBa K)):FnOk P w K mg base CX0 2 d.fAz d.fAzd ["deeds"] (sp_fAz K):=by
 refine T.F_fAz.ok xAoe (fun vs H Q E h=>xAvo h) (fun cdv A outer s H vs Q E hr h=>?_);have hu:(A.deeper (envOfC "by_names" (defScope s_fAz) s.heap.objs.size d.fAz cdv)).units<cLine:=hr.units0;refine ⟨_,(@xAab _ _ _ _ _ (@xAap _ _ (1) _ _ _ _ xAoe.nd rfl (Or.inl rfl) (@xAhr _ _) rfl (.inl rfl)) (@xAab _ _ _ _ _ (@xAca _ _ _ _ _ _ _ _ PassesOwn.never rfl (@xAbj _ _ _ _ (@pq _ 0 _ _ rfl)) (@xAaq _ _ (2) _ xAoe.nd rfl (Or.inl rfl) (.inl rfl)) (@xAab _ _ _ _ _ (@xAap _ _ (3) _ _ _ _ xAoe.nd rfl (Or.inl rfl) (@xAam _ _ _ _ _ _ _ _ _ _ _ _ _ _ _ _ gfBa (hr.mono (by decide)) rfl T.m_fBa T.k_fBa T.d_fBa .nil pass0 (@xAaa _ _ _ _ _ (@pq _ 2 _ _ rfl) (@xAad _) rfl) (by decide) rfl rfl) rfl (.inl rfl)) (@xAab _ _ _ _ _ (@ps_if _ _ _ _ _ _ _ _ (@PW.pt _ _ _ (@xAsc _ _ _ _ _ _ _ (@xAao _ _ _ _ _ _ _ _ (op_inG (hu2 hr)) (@pq _ 3 _ _ rfl) (@pq _ 1 _ _ rfl) rfl) (@xAoj _ _ _ _ (@xAao _ _ _ _ _ _ _ _ (xAmt (hu64 hr)) (@xAbo _ _ _ _ _ _ (hu2 hr) (@pq _ 1 _ _ rfl) (@pq _ 3 _ _ rfl) (fun _ _=>rfl)) (@pq _ 2 _ _ rfl) (xAau _))))) (@xAaf _ _ _ (@xAfq _ _)) (@xAas _)) (@xAaf _ _ _ (@xAen _ _ _ _ _ _ _ _ _ (hu2 hr) (@pq _ 1 _ _ rfl) (@pq _ 3 _ _ rfl) (@pq _ 2 _ _ rfl) rfl)))) (by intro _;rfl)) (@xAaf _ _ _ (@xAar _ _ _ _ (@pq _ 1 _ _ rfl))))),?_⟩;obtain ⟨dp,des,ws,fs,rfl,hdp,an,nd,gd,hfl,one,kk⟩:=h;intro t H1 g1 s1 e1;have hdl:des.length=fs.length:=an.1;refine ⟨_,rfl,dp,rfl,⟨_,SqL.of (s1 _ _ hdp)⟩,xAbs (xs:=des) (fun j σ H2=>∃ kvs es u2 u3,σ=[some (.ref dp),some (.ref t),u2,u3]/\Same H H2/\H2 t=some (.dG kvs)/\TD H2 ws kvs es/\(es.Pairwise fun a b=>¬ (a.who=b.who/\a.num=b.num))/\(∀ d,d∈es↔d∈fs.take j)/\kvs.length≤j) ⟨[],[],_,_,rfl,s1,e1,.nil,.nil,fun d=>by simp,Nat.le_refl _⟩ (fun j σ H2 _ ⟨_,_,_,_,_,s2,_⟩=>SqL.of (s2 _ _ hdp)) ?_ ?_⟩
 ·rintro j v σ H2 hx ⟨kvs,es,u2,u3,rfl,s2,e2,td,up,mem,hkl⟩
  obtain ⟨dd,ed,da0⟩:=an.at hx;have hm:dd∈fs:=qo ed;have hj:j<fs.length:=(qx.mp ed).1
  have htk:fs.take (j+1)=fs.take j++[dd]:=by rw [vj,ed];rfl
  have da:=da0.mono s2;have sub:∀ a∈es,a∈fs:=fun a ha=>wy ((mem a).mp ha);refine ⟨_,rfl,v,ws,dd,rfl,da,fun H3 nv s3 hn=>?_⟩;have td3:=td.same s3
  have hw:∀ e∈es,e.who<ws.length:=fun e he=>by
   obtain ⟨i,hi,rfl⟩:=zx he;obtain ⟨_,_,_,_,x⟩:=td.to (qi hi);exact DeedAt.who x
  have e3:=s3 _ _ e2;refine ⟨_,rfl,_,rfl,t,kvs,_,rfl,.of e3,hn,_,rfl,?_⟩;obtain ⟨es',td',up',mem'⟩:=TD.put nd td3 hn (da.mono s3) up (fun a ha h1 h2=>one a (sub a ha) dd hm h1 h2)
  have put:∃ kvs2 es2 u2 u3,([some (.ref dp),some (.ref t),some v,some nv]:L2.St)=[some (.ref dp),some (.ref t),u2,u3]/\Same H (upd H3 t (.dG (pG kvs (kD ws dd) nv v)))/\(upd H3 t (.dG (pG kvs (kD ws dd) nv v))) t=some (.dG kvs2)/\TD (upd H3 t (.dG (pG kvs (kD ws dd) nv v))) ws kvs2 es2/\(es2.Pairwise fun a b=>¬ (a.who=b.who/\a.num=b.num))/\(∀ d,d∈es2↔d∈fs.take (j+1))/\kvs2.length≤j+1:=by
   refine ⟨_,es',_,_,rfl,(s2.trans s3).wr g1,xAae,td_wr td' e3 dG_no,up',fun d=>?_,qm (xAqw kvs _ _ _) (wc hkl)⟩;rw [mem',mem,htk,zj,zb]
  have hks:kvs.length<sizeLine:=xAak (by omega)
  by_cases q:dd∈es
  ·obtain ⟨v0,e0,h0⟩:=td3.get nd hw up q
   have gdd:=gd dd hm;refine itT (by show (vG kvs (kD ws dd)).isSome=true;rw [e0];rfl) ?_;refine ⟨_,rfl,_,rfl,t,kvs,_,v0,rfl,.of e3,hn,e0,_,rfl,_,_,(DeedAt.dt h0).dv,(DeedAt.dt (da.mono s3)).dv,gdd.lay,gdd.lay,(by rw [vz];exact qm gdd.dep (by decide)),_,rfl,itF (by show (!PyData.eqv (ddD ws dd) (ddD ws dd))=false;rw [gdd.self];rfl) ?_⟩;exact ⟨_,rfl,_,rfl,_,rfl,t,kvs,_,rfl,e3,hn,hks,put⟩
  ·refine itF (by show (vG kvs (kD ws dd)).isSome=false;rw [td3.no nd hw (DeedAt.who da) fun e he z=>q (by rw [← one e (sub e he) dd hm z.1 z.2];exact he)];rfl) ?_
   exact itF rfl ⟨_,rfl,_,rfl,_,rfl,t,kvs,_,rfl,e3,hn,hks,put⟩
 ·rintro σ H2 ⟨kvs,es,u2,u3,rfl,s2,e2,td,up,mem,hkl⟩
  rw [hdl,z9] at mem;exact ⟨_,rfl,kk H2 t kvs es s2 g1 e2 td up mem⟩
theorem ok_fAn (T:Txt K mg d tk) (gfAd:FnOk P w K mg base CX0 1 d.fAd d.fAdd ["deed","other"] (sp_fAd K)) (gfAl:FnOk P w K mg base CX0 1 d.fAl d.fAld ["roll","deed"] (sp_fAl K)) (gfBa:FnOk P w K mg base CX0 1 d.fBa d.fBad ["deed"] (sp_fBa K)):FnOk P w K mg base CX0 2 d.fAn d.fAnd ["roll","told","deed"] (sp_fAn K):=by
 refine T.F_fAn.ok xArx (fun vs H Q E h=>xAvr h) (fun cdv A outer s H vs Q E hr h=>?_);have hu:(A.deeper (envOfC "check_past" (defScope s_fAn) s.heap.objs.size d.fAn cdv)).units<cLine:=hr.units0;refine ⟨_,(@xAab _ _ _ _ _ (@xAap _ _ (3) _ _ _ _ xArx.nd rfl (Or.inl rfl) (@xAam _ _ _ _ _ _ _ _ _ _ _ _ _ _ _ _ gfBa (hr.mono (by decide)) rfl T.m_fBa T.k_fBa T.d_fBa .nil pass0 (@xAaa _ _ _ _ _ (@pq _ 2 _ _ rfl) (@xAad _) rfl) (by decide) rfl rfl) rfl (.inl rfl)) (@xAaf _ _ _ (@xAca _ _ _ _ _ _ _ _ PassesOwn.never rfl (@xAbj _ _ _ _ (@xAam _ _ _ _ _ _ _ _ _ _ _ _ _ _ _ _ gfAl (hr.mono (by decide)) rfl T.m_fAl T.k_fAl T.d_fAl .nil pass0 (@xAaa _ _ _ _ _ (@pq _ 0 _ _ rfl) (@xAaa _ _ _ _ _ (@pq _ 2 _ _ rfl) (@xAad _) rfl) rfl) (by decide) rfl rfl)) (@xAaq _ _ (4) _ xArx.nd rfl (Or.inl rfl) (.inl rfl)) (@xAab _ _ _ _ _ (@ps_if _ _ _ _ _ _ _ _ (@xAao _ _ _ _ _ _ _ _ (xAnh (hu2 hr)) (@pq _ 4 _ _ rfl) (@pq _ 1 _ _ rfl) rfl) (@xAaf _ _ _ (@xAfq _ _)) (@xAas _)) (@xAaf _ _ _ (@ps_if _ _ _ _ _ _ _ _ (@xAps _ _ _ _ (@xAsa _ _ _ (@xAam _ _ _ _ _ _ _ _ _ _ _ _ _ _ _ _ gfAd (hr.mono (by decide)) rfl T.m_fAd T.k_fAd T.d_fAd .nil pass0 (@xAaa _ _ _ _ _ (@pq _ 2 _ _ rfl) (@xAaa _ _ _ _ _ (@xAbo _ _ _ _ _ _ (hu2 hr) (@pq _ 1 _ _ rfl) (@pq _ 4 _ _ rfl) (fun _ _=>rfl)) (@xAad _) rfl) rfl) (by decide) rfl rfl) (by intro _;rfl))) (@xAaf _ _ _ (@xAfq _ _)) (@xAas _)))) (by intro _;rfl)))),?_⟩;obtain ⟨rp,tp,v,ws,dd,es,kvs,rfl,rl,rd,td,nd,W,da,hm,kk⟩:=h;refine ⟨_,rfl,v,ws,dd,rfl,da,fun H1 nv s1 hn=>?_⟩;refine ⟨_,rfl,_,rfl,rp,v,ws,dd,rfl,rl.mono s1,da.mono s1,W.len dd hm,fun H2 lp ns s2 g2 e2 an=>?_⟩;have hw:∀ e∈es,e.who<ws.length:=W.who;have s02:=s1.trans s2;refine ⟨lp,rfl,⟨_,SqL.of e2⟩,xAbs (xs:=ns) (fun j σ H3=>∃ u4,σ=[some (.ref rp),some (.ref tp),some v,some nv,u4]/\Same H2 H3) ⟨_,rfl,Same.refl _⟩ (fun j σ H3 _ ⟨_,_,s3⟩=>SqL.of (s3 _ _ e2)) ?_ ?_⟩
 ·rintro j x σ H3 hx ⟨u4,rfl,s3⟩
  obtain ⟨p,ep,hp⟩:=an.at hx;have hp3:=xAaw s3 hp;have s03:=s02.trans s3;obtain ⟨e,he,e1,e2',f,_⟩:=W.last (W.len dd hm) (W.past dd hm) (qo ep)
  have hp4:NmV H3 ws x (nm e):=by rw [show nm e=p from Prod.ext e1 e2'];exact hp3
  obtain ⟨v0,e0,h0⟩:=(td.same s03).get nd hw W.uniq he;have rd3:=Rd.same rd s03;refine ⟨_,rfl,_,rfl,tp,kvs,_,rfl,rd3,hp4,_,rfl,itF (by show (!(vG kvs (kD ws e)).isSome)=false;rw [e0];rfl) ?_⟩;refine ⟨_,rfl,_,rfl,_,rfl,tp,kvs,_,v0,rfl,rd3,hp4,e0,v,v0,ws,dd,e,rfl,da.mono s03,h0,(by rw [W.len dd hm];have:=rl.few;omega),(by rw [W.len dd hm,W.len e he]),fun H4 b s4 hb=>?_⟩
  have hbt:b=true:=hb.mpr fun i hi=>f i (by rw [← W.len dd hm];exact hi)
  subst hbt;refine ⟨_,rfl,itF rfl ?_⟩;exact ⟨_,rfl,s3.trans s4⟩
 ·rintro σ H3 ⟨u4,rfl,s3⟩
  exact kk H3 (s02.trans s3)
theorem ok_fAp (T:Txt K mg d tk) (gfAc:FnOk P w K mg base CX0 1 d.fAc d.fAcd ["self","counts"] (sp_fAc K)):FnOk P w K mg base CX0 2 d.fAp d.fApd ["self","name"] (sp_fAp K):=by
 refine T.F_fAp.ok sc_fAp (fun vs H Q E h=>xAvx h) (fun cdv A outer s H vs Q E hr h=>?_);have hu:(A.deeper (envOfC "Folk.past" (defScope s_fAp) s.heap.objs.size d.fAp cdv)).units<cLine:=hr.units0;refine ⟨_,(@xAaf _ _ _ (@xAar _ _ _ _ (@xAgo _ _ _ _ _ _ _ _ _ _ _ _ _ _ _ _ _ _ _ _ (@pq _ 0 _ _ rfl) T.C_Folk T.M_fAc gfAc (hr.mono (by decide)) T.d_fAc .nil pass0 (@xAaa _ _ _ _ _ (@pe_ix _ _ _ _ _ _ _ xAmi (@xAbo _ _ _ _ _ _ (hu2 hr) (@xAdi _ _ _ _ _ (@pq _ 0 _ _ rfl) rfl) (@pq _ 1 _ _ rfl) (fun _ _=>rfl)) (@xAac _ _ _ _) (fun _ _=>rfl)) (@xAad _) rfl) rfl rfl rfl))),?_⟩;obtain ⟨x,v,ws,hn,ss,dd,rfl,fk,hv,hm,kk⟩:=h;obtain ⟨dx,hp,sp,tp,gp,np,kvs,hvs,ns,es,ob,rl,se,to,td,pe,he,hd,nl,na,sw,up⟩:=id fk;obtain ⟨nd,W,hg,gd,few⟩:=id sw;have W':=W.perm pe;obtain ⟨v0,e0,h0⟩:=td.get nd W'.who W'.uniq (pe.mem_iff.mpr hm);obtain ⟨q,hq,b,y,rfl,e1,e2⟩:=DeedAt.out h0;exact ⟨_,rfl,x,dx,_,rfl,ob,f6_no (by decide +kernel),_,rfl,x,_,dx,_,_,rfl,ob,T.C_Folk,T.N_Folk_told,xAvc,_,rfl,tp,kvs,_,_,rfl,to,hv,e0,q,_,2,_,rfl,rfl,SqT.of e1,rfl,x,hq,ws,hn,ss,dd.hd,rfl,fk,e2,W.len dd hm,kk⟩
theorem ok_fAq (T:Txt K mg d tk) (gfAm:FnOk P w K mg base CX0 1 d.fAm d.fAmd ["_law_cell","_law_many"] (sp_fAm K)) (gfAr:FnOk P w K mg base CX0 1 d.fAr d.fArd ["_law_number"] (sp_fAr K)):FnOk P w K mg base CX0 2 d.fAq d.fAqd ["_law_cell"] (sp_fAq K):=by
 refine T.F_fAq.ok xAgl (fun vs H Q E h=>xAth h) (fun cdv A outer s H vs Q E hr h=>?_);have hu:(A.deeper (envOfC "_law_roll" (defScope s_fAq) s.heap.objs.size d.fAq cdv)).units<cLine:=hr.units0;refine ⟨_,(@xAab _ _ _ _ _ (@xAap _ _ (1) _ _ _ _ xAgl.nd rfl (Or.inl rfl) (@xAam _ _ _ _ _ _ _ _ _ _ _ _ _ _ _ _ gfAm (hr.mono (by decide)) rfl T.m_fAm T.k_fAm T.d_fAm .nil pass0 (@xAaa _ _ _ _ _ (@pq _ 0 _ _ rfl) (@xAaa _ _ _ _ _ (@xAac _ _ _ _) (@xAad _) rfl) rfl) (by decide) rfl rfl) rfl (.inl rfl)) (@xAab _ _ _ _ _ (@xAap _ _ (2) _ _ _ _ xAgl.nd rfl (Or.inl rfl) (@xAbd _ _ _ _ (@xAad _)) rfl (.inl rfl)) (@xAab _ _ _ _ _ (@xAca _ _ _ _ _ _ _ _ PassesOwn.never rfl (@xAcn _ _ _ _ _ _ rfl T.b_range (@xAaa _ _ _ _ _ (@pe_op _ _ _ _ _ _ _ _ xAbt (@xAac _ _ _ _) (@pe_op _ _ _ _ _ _ _ _ xAay (@pe_ix _ _ _ _ _ _ _ xAal (@pq _ 1 _ _ rfl) (@xAac _ _ _ _) (fun _ _=>rfl)) (@xAac _ _ _ _))) (@xAad _) rfl) rfl) (@xAaq _ _ (3) _ xAgl.nd rfl (Or.inl rfl) (.inl rfl)) (@xAab _ _ _ _ _ (@xAap _ _ (4) _ _ _ _ xAgl.nd rfl (Or.inl rfl) (@xAam _ _ _ _ _ _ _ _ _ _ _ _ _ _ _ _ gfAr (hr.mono (by decide)) rfl T.m_fAr T.k_fAr T.d_fAr .nil pass0 (@xAaa _ _ _ _ _ (@pe_ix _ _ _ _ _ _ _ xAby (@pq _ 1 _ _ rfl) (@pe_op _ _ _ _ _ _ _ _ xAbt (@xAac _ _ _ _) (@pq _ 3 _ _ rfl)) (fun _ _=>rfl)) (@xAad _) rfl) (by decide) rfl rfl) rfl (.inl rfl)) (@xAab _ _ _ _ _ (@xAca _ _ _ _ _ _ _ _ PassesOwn.never rfl (@pi_str _ _ _ _ (@xAaz _ _ _ _)) (@xAaq _ _ (5) _ xAgl.nd rfl (Or.inl rfl) (.inl rfl)) (@xAaf _ _ _ (@ps_if _ _ _ _ _ _ _ _ (@xAao _ _ _ _ _ _ _ _ xAmj (@pq _ 4 _ _ rfl) (@pq _ 2 _ _ rfl) rfl) (@xAaf _ _ _ (@xAap _ _ (4) _ _ _ _ xAgl.nd rfl (Or.inl rfl) (@pe_op _ _ _ _ _ _ _ _ xAew (@xAbu _ _ _ _ _ _ _ _ _ _ xAsy (@pq _ 4 _ _ rfl) (@xAcy _) (@xAcj _ _ _ (@xAac _ _ _ _))) (@pq _ 5 _ _ rfl)) rfl (.inl rfl))) (@xAas _))) (by intro _;rfl)) (@xAaf _ _ _ (@xAdf _ _ _ _ (@pe_bm _ _ _ _ _ _ _ _ _ _ _ _ PySem.F.plainAttrs_list PySem.F.slot_list_append PySem.F.type_list_append xAcf (@pq _ 2 _ _ rfl) (@xAaa _ _ _ _ _ (@pq _ 4 _ _ rfl) (@xAad _) rfl) rfl rfl rfl rfl rfl) rfl)))) (by intro _;rfl)) (@xAaf _ _ _ (@xAar _ _ _ _ (@pq _ 2 _ _ rfl)))))),?_⟩;obtain ⟨i,rfl,k⟩:=h;refine ⟨_,rfl,_,7,rfl,by decide,fun H1 p1 ns s1 g1 d1 hl=>?_⟩;refine ⟨szOk rfl,fun p2 H2 g2 s2 e2=>?_⟩;have d2:=d1.mono s2;obtain ⟨a0,h0⟩:=d2.get 0 (by decide);have fp:H p2=none:=s1.free g2;have np:p1≠p2:=xAaj d1.at' g2;have hm:0≤a0 % 5/\a0 % 5<5:=⟨Int.emod_nonneg _ (by decide),Int.emod_lt_of_pos _ (by decide)⟩
 refine ⟨_,rfl,p1,_,0,.int a0,rfl,rfl,SqL.of d2.at',h0,_,_,rfl,rfl,(by show (0:Int)<5;decide),_,_,rfl,rfl,_,rfl,by omega,by omega,xAdb (n:=(2+a0 % 5).toNat) (fun j σ H3=>∃ (ws:List Str) (q3 q4 q5:Option V),σ=[some (.int i),some (.ref p1),some (.ref p2),q3,q4,q5]/\Same H H3/\DR H3 p1 ns 7 ∧
  H3 p2=some (.lst (ws.map V.str))/\ws.length=j/\ws.Nodup/\∀ w∈ws,IsW w) ⟨[],none,none,none,rfl,s1.trans s2,d2,e2,rfl,wx,fun _ z=>nomatch z⟩ ?_ ?_⟩
 ·rintro j σ H3 hj ⟨ws,q3,q4,q5,rfl,s3,d3,e3,hw,nd,hwd⟩
  have hj6:j<6:=by omega
  refine ⟨_,rfl,_,rfl,_,_,rfl,rfl,p1,_,_,rfl,rfl,SqL.of d3.at',by omega,by rw [qg,hl];omega,fun v hv=>?_⟩;obtain ⟨m,_,rfl⟩:=qk.mp hv;refine ⟨m,rfl,fun z hz=>?_⟩
  refine ⟨_,rfl,xAsu (z:="abcdefgh") (fun c σ H4=>∃ (w:Str) (q5:Option V),σ=[some (.int i),some (.ref p1),some (.ref p2),some (.int (0+(j:Int))),some (.str w),q5]/\H4=H3/\IsW w/\Chain ws c w)
   ⟨z,_,rfl,rfl,hz,xAke ws z⟩ ?_ ?_⟩
  ·rintro c ch σ H4 hc ⟨w,q5,rfl,rfl,hws,hch⟩
   have hc8:c<8:=by
    have:=(j9.mp hc).1
    have e8:("abcdefgh":Str).cps.size=8:=by decide +kernel
    omega
   have hcc:ch=97+c:=abc_at hc8 hc;have hwl:w.length≤sizeLine:=zf (xAak (show w.cps.size≤1000 from qm hws.2.1 (by decide)));refine ⟨_,rfl,_,rfl,p2,_,rfl,.inl (SqL.of e3),rfl,xAna ws,_,rfl,?_⟩
   show if inV (.str w) (ws.map V.str)=true then _ else _
   rw [xAqq];refine ite2 (fun hin=>?_) fun hin=>?_
   ·have hin:w∈ws:=of_decide_eq_true hin
    refine ⟨_,rfl,_,rfl,w,rfl,hwl,?_⟩;have hW:=xAqp hws (c:=ch) (by omega);refine ⟨_,rfl,_,_,rfl,rfl,?_,?_⟩
    ·have h1:(⟨#[ch]⟩:Str).length=1:=rfl
     have h2:(cutS w none (some 7)++⟨#[ch]⟩:Str).cps.size=(cutS w none (some 7)).cps.size+1:=xAjp _ _;have h3:(cutS w none (some 7)).length=(cutS w none (some 7)).cps.size:=rfl;have:=xAak (n:=(cutS w none (some 7)).length+1) (by have:=hW.2.1;omega);omega
    ·refine ⟨_,_,rfl,rfl,hW,?_⟩
     rw [hcc];exact xAkf hch hin
   ·exact ⟨w,_,rfl,rfl,hws,.inl (fun z=>hin (decide_eq_true z))⟩
  ·rintro σ H4 ⟨w,q5,rfl,rfl,hws,hch⟩
   have hnot:w∉ws:=by
    have e8:("abcdefgh":Str).cps.size=8:=by decide +kernel
    rw [e8] at hch;exact xAmz hch (by omega)
   refine ⟨_,rfl,.inl ⟨rfl,_,SqL.of e3⟩,_,rfl,p2,_,_,rfl,rfl,e3,(by rw [qg];exact xAak (by omega)),?_⟩
   refine ⟨ws++[w],_,_,_,rfl,s3.wr fp,⟨by rw [xAah np];exact d3.at',d3.len,d3.few⟩,by rw [xAae,z7];rfl,by rw [qv,zk,hw],xAkg nd hnot,fun x hx=>by
    rcases zj.mp hx with y | y
    ·exact hwd x y
    ·rw [zb.mp y];exact hws⟩
 ·rintro σ H3 ⟨ws,q3,q4,q5,rfl,s3,d3,e3,hw,nd,hwd⟩
  exact ⟨_,rfl,k H3 p2 ws s3 fp ⟨e3,by omega,by omega,hwd⟩ (by omega) nd⟩
theorem ok_fAt (T:Txt K mg d tk) (gfAw:FnOk P w K mg base CX0 1 d.fAw d.fAwd ["_law_number","_law_roll_here"] (sp_fAw K)):FnOk P w K mg base CX0 2 d.fAt d.fAtd ["_law_number","_law_roll_here"] (sp_fAt K):=by
 refine T.F_fAt.ok sc_fAt (fun vs H Q E h=>xAtj h) (fun cdv A outer s H vs Q E hr h=>?_);have hu:(A.deeper (envOfC "_law_part" (defScope s_fAt) s.heap.objs.size d.fAt cdv)).units<cLine:=hr.units0;refine ⟨_,(@xAab _ _ _ _ _ (@ps_if _ _ _ _ _ _ _ _ (@xAao _ _ _ _ _ _ _ _ op_eq (@pe_op _ _ _ _ _ _ _ _ xAay (@pq _ 0 _ _ rfl) (@xAac _ _ _ _)) (@xAac _ _ _ _) (xAau _)) (@xAaf _ _ _ (@xAar _ _ _ _ (@xAan _ _ _ _ _ (@xAaa _ _ _ _ _ (@xAaz _ _ _ _) (@xAaa _ _ _ _ _ (@xAac _ _ _ _) (@xAad _) rfl) rfl)))) (@xAas _)) (@xAaf _ _ _ (@xAar _ _ _ _ (@xAam _ _ _ _ _ _ _ _ _ _ _ _ _ _ _ _ gfAw (hr.mono (by decide)) rfl T.m_fAw T.k_fAw T.d_fAw .nil pass0 (@xAaa _ _ _ _ _ (@pe_op _ _ _ _ _ _ _ _ xAba (@pq _ 0 _ _ rfl) (@xAac _ _ _ _)) (@xAaa _ _ _ _ _ (@pq _ 1 _ _ rfl) (@xAad _) rfl) rfl) (by decide) rfl rfl)))),?_⟩;obtain ⟨i,p,ws,rfl,hp,k⟩:=h;refine ⟨_,rfl,_,_,rfl,rfl,(by show (0:Int)<3;decide),rfl,_,rfl,?_⟩;refine ite2 (fun _=>?_) fun _=>?_
 ·exact ⟨szOk rfl,fun q H1 g s e=>k H1 (.ref q) _ s (.tup e (.cons (.str _) (.cons (.int _) .nil))) ⟨_,rfl,.inl rfl⟩⟩
 ·exact ⟨_,rfl,_,_,rfl,rfl,⟨by decide,by decide⟩,_,rfl,_,p,ws,rfl,hp,fun H1 v d s1 dv hd=>k H1 v d s1 dv (let ⟨ds,e,hn⟩:=hd;⟨ds,e,.inr hn⟩)⟩
theorem ok_fAg (T:Txt K mg d tk) (gfAw:FnOk P w K mg base CX0 1 d.fAw d.fAwd ["_law_number","_law_roll_here"] (sp_fAw K)):FnOk P w K mg base CX0 2 d.fAg d.fAgd ["_law_number","_law_roll_here"] (sp_fAg K):=by
 refine T.F_fAg.ok sc_fAg (fun vs H Q E h=>xAtk h) (fun cdv A outer s H vs Q E hr h=>?_);have hu:(A.deeper (envOfC "_law_sign_name" (defScope s_fAg) s.heap.objs.size d.fAg cdv)).units<cLine:=hr.units0;refine ⟨_,(@xAaf _ _ _ (@xAar _ _ _ _ (@pe_op _ _ _ _ _ _ _ _ xAdk (@xAam _ _ _ _ _ _ _ _ _ _ _ _ _ _ _ _ gfAw (hr.mono (by decide)) rfl T.m_fAw T.k_fAw T.d_fAw .nil pass0 (@xAaa _ _ _ _ _ (@pe_op _ _ _ _ _ _ _ _ xAba (@pq _ 0 _ _ rfl) (@xAac _ _ _ _)) (@xAaa _ _ _ _ _ (@pq _ 1 _ _ rfl) (@xAad _) rfl) rfl) (by decide) rfl rfl) (@xAan _ _ _ _ _ (@xAaa _ _ _ _ _ (@pe_ix _ _ _ _ _ _ _ xAby (@xAbd _ _ _ _ (@xAaa _ _ _ _ _ (@pe_op _ _ _ _ _ _ _ _ xAay (@pe_op _ _ _ _ _ _ _ _ xAba (@pq _ 0 _ _ rfl) (@xAac _ _ _ _)) (@xAac _ _ _ _)) (@xAaa _ _ _ _ _ (@pe_op _ _ _ _ _ _ _ _ xAie (@xAac _ _ _ _) (@xAac _ _ _ _)) (@xAad _) rfl) rfl)) (@xAav _ _ _ _ _ _ _ _ _ xAco rfl T.b_int boot_int (@xAaa _ _ _ _ _ (@xAdh _ _ _ _ _ _ _ _ op_eq (@pe_op _ _ _ _ _ _ _ _ xAay (@pq _ 0 _ _ rfl) (@xAac _ _ _ _)) (@xAac _ _ _ _) (xAau _)) (@xAad _) rfl) (by decide) (by decide) rfl rfl) (fun _ _=>rfl)) (@xAad _) rfl))))),?_⟩;obtain ⟨i,p,ws,rfl,hp,k⟩:=h;refine ⟨_,rfl,_,_,rfl,rfl,⟨by decide,by decide⟩,_,rfl,_,p,ws,rfl,hp,fun H1 v d s1 dv hd=>?_⟩;obtain ⟨ds,rfl,w,n,rfl,hw,n1,n2⟩:=hd;obtain ⟨q,xs,rfl,hq,hx⟩:=dv_tup dv
 cases hx with
 | cons x1 t =>
 cases t with
 | cons x2 t =>
 cases t;cases dv_str x1;cases dv_int x2;refine ⟨_,rfl,_,_,rfl,rfl,⟨by decide,by decide⟩,_,_,rfl,rfl,(by show (0:Int)<12;decide),_,_,rfl,rfl,⟨by decide,by decide,by decide⟩,szOk rfl,fun q1 H2 g2 s2 e2=>?_⟩;refine ⟨_,rfl,_,_,rfl,rfl,(by show (0:Int)<24;decide),rfl,.inr ⟨_,rfl,?_⟩⟩;refine ⟨q1,_,_,rfl,rfl,SqL.of e2,xAkd _,xAff _,fun v hv=>?_⟩
 obtain ⟨m,rfl,m0,m1⟩:∃ m,v=V.int m/\0≤m/\m≤1000000:=by
  simp only [List.mem_cons,List.not_mem_nil,or_false] at hv
  rcases hv with rfl | rfl
  ·exact ⟨_,rfl,xAbk _ (by decide),by have:=xAbn (i / 2) (m:=12) (by decide);omega⟩
  ·exact ⟨_,rfl,by decide,by decide⟩
 refine ⟨szOk rfl,fun q3 H3 g3 s3 e3=>?_⟩;refine ⟨q,q3,_,_,rfl,rfl,SqT.of ((s2.trans s3) _ _ hq),SqT.of e3,by simp,by simp,szOk rfl,fun q4 H4 g4 s4 e4=>?_⟩;exact k H4 (.ref q4) _ (((s1.trans s2).trans s3).trans s4) (.tup e4 (.cons (.str w) (.cons (.int n) (.cons (.int m) .nil)))) ⟨_,rfl,w,n,m,rfl,hw,n1,n2,m0,m1⟩
theorem ok_fAi (T:Txt K mg d tk) (gfAr:FnOk P w K mg base CX0 1 d.fAr d.fArd ["_law_number"] (sp_fAr K)):FnOk P w K mg base CX0 2 d.fAi d.fAid ["_law_number","_law_roll_here"] (sp_fAi K):=by
 refine T.F_fAi.ok sc_fAi (fun vs H Q E h=>xAtn h) (fun cdv A outer s H vs Q E hr h=>?_);have hu:(A.deeper (envOfC "_law_branch" (defScope s_fAi) s.heap.objs.size d.fAi cdv)).units<cLine:=hr.units0;refine ⟨_,(@xAab _ _ _ _ _ (@ps_if _ _ _ _ _ _ _ _ (@xAao _ _ _ _ _ _ _ _ op_eq (@pe_op _ _ _ _ _ _ _ _ xAay (@pq _ 0 _ _ rfl) (@xAac _ _ _ _)) (@xAac _ _ _ _) (xAau _)) (@xAaf _ _ _ (@xAar _ _ _ _ (@xAiw _ _ _))) (@xAas _)) (@xAaf _ _ _ (@xAar _ _ _ _ (@xAan _ _ _ _ _ (@xAaa _ _ _ _ _ (@pe_ix _ _ _ _ _ _ _ xAby (@pq _ 1 _ _ rfl) (@pe_op _ _ _ _ _ _ _ _ xAay (@pe_op _ _ _ _ _ _ _ _ xAba (@pq _ 0 _ _ rfl) (@xAac _ _ _ _)) (@xAbb _ _ _ _ _ _ _ _ _ xAbc rfl T.b_len boot_len (@xAaa _ _ _ _ _ (@pq _ 1 _ _ rfl) (@xAad _) rfl) (by decide) (by decide) rfl rfl)) (fun _ _=>rfl)) (@xAaa _ _ _ _ _ (@xAam _ _ _ _ _ _ _ _ _ _ _ _ _ _ _ _ gfAr (hr.mono (by decide)) rfl T.m_fAr T.k_fAr T.d_fAr .nil pass0 (@xAaa _ _ _ _ _ (@pe_op _ _ _ _ _ _ _ _ xAba (@pq _ 0 _ _ rfl) (@xAac _ _ _ _)) (@xAad _) rfl) (by decide) rfl rfl) (@xAad _) rfl) rfl))))),?_⟩;obtain ⟨i,p,ws,rfl,hp,k⟩:=h;refine ⟨_,rfl,_,_,rfl,rfl,(by show (0:Int)<2;decide),rfl,_,rfl,?_⟩;refine ite2 (fun _=>?_) fun _=>?_
 ·exact k H .non _ (Same.refl H) .non (.inl rfl)
 ·refine ⟨_,rfl,_,rfl,_,_,rfl,rfl,⟨by decide,by decide⟩,_,rfl,p,_,rfl,.inl (SqL.of hp.at'),_,_,rfl,rfl,hp.len.1,p,_,_,rfl,rfl,SqL.of hp.at',xAbk _ hp.len.1,xAbn _ hp.len.1,fun v hv=>?_⟩
  obtain ⟨w,hw,rfl⟩:=qk.mp hv;refine ⟨_,rfl,_,_,rfl,rfl,⟨by decide,by decide⟩,_,rfl,fun z hz=>?_⟩;exact ⟨szOk rfl,fun q H1 g s e=>k H1 (.ref q) _ s (.tup e (.cons (.str w) (.cons (.str z) .nil))) (.inr ⟨w,z,rfl,hw,hz⟩)⟩
theorem ok_fAo (T:Txt K mg d tk) (gfAf:FnOk P w K mg base CX0 1 d.fAf d.fAfd ["deed"] (sp_fAf K)) (gfAl:FnOk P w K mg base CX0 1 d.fAl d.fAld ["roll","deed"] (sp_fAl K)) (gfBa:FnOk P w K mg base CX0 1 d.fBa d.fBad ["deed"] (sp_fBa K)):FnOk P w K mg base CX0 3 d.fAo d.fAod ["roll","told"] (sp_fAo K):=by
 refine T.F_fAo.ok xAof (fun vs H Q E h=>xAvt h) (fun cdv A outer s H vs Q E hr h=>?_);have hu:(A.deeper (envOfC "heights_of" (defScope s_fAo) s.heap.objs.size d.fAo cdv)).units<cLine:=hr.units0;refine ⟨_,(@xAab _ _ _ _ _ (@xAap _ _ (2) _ _ _ _ xAof.nd rfl (Or.inr rfl) (@xAhr _ _) rfl (.inl rfl)) (@xAab _ _ _ _ _ (@xAca _ _ _ _ _ _ _ _ PassesOwn.never rfl (@xAbj _ _ _ _ (@xArf _ _ _ _ _ _ _ _ _ _ _ _ _ _ _ _ gfAf (hr.mono (by decide)) rfl rfl T.b_sorted boot_sorted rfl T.m_fAf T.d_fAf rfl (@pq _ 1 _ _ rfl) (by decide) (by decide) rfl rfl rfl rfl)) (@xAaq _ _ (3) _ xAof.nd rfl (Or.inl rfl) (.inl rfl)) (@xAab _ _ _ _ _ (@xAsq _ (4) _ _ _ _ _ _ _ _ _ (["name"]) ([("heights",2)]) _ _ _ _ _ xAof.nd rfl (Or.inl rfl) rfl (@xAbj _ _ _ _ (@xAam _ _ _ _ _ _ _ _ _ _ _ _ _ _ _ _ gfAl (hr.mono (by decide)) rfl T.m_fAl T.k_fAl T.d_fAl .nil pass0 (@xAaa _ _ _ _ _ (@pq _ 0 _ _ rfl) (@xAaa _ _ _ _ _ (@pq _ 3 _ _ rfl) (@xAad _) rfl) rfl) (by decide) rfl rfl)) ⟨rfl,by decide +kernel,by decide +kernel⟩ (xAct (defScope s_fAo) ["roll","told","heights","deed","below"] rfl rfl (fun _ h=>xAcb h) (by decide +kernel) (by decide +kernel) (by decide +kernel)) (fun _ _ _=>(@xAaq _ _ (0) _ (by show List.Nodup (["name","heights"]:List Str);decide +kernel) rfl (Or.inl rfl) (.inr rfl))) (fun _=>xAbg rfl) (fun _ _ _=>(@xAcz _)) (fun _ _ _=>(@xAbo _ _ _ _ _ _ (hu2 hr) (@pv _ 1 _ _ rfl (Or.inr (Or.inl rfl)) rfl rfl) (@pq _ 0 _ _ rfl) (fun _ _=>rfl))) (by intro _;rfl) rfl (.inl rfl)) (@xAaf _ _ _ (@xAen _ _ _ _ _ _ _ _ _ (hu2 hr) (@pv _ 2 _ _ rfl (Or.inr (Or.inl rfl)) rfl rfl) (@xAam _ _ _ _ _ _ _ _ _ _ _ _ _ _ _ _ gfBa (hr.mono (by decide)) rfl T.m_fBa T.k_fBa T.d_fBa .nil pass0 (@xAaa _ _ _ _ _ (@pq _ 3 _ _ rfl) (@xAad _) rfl) (by decide) rfl rfl) (@pe_op _ _ _ _ _ _ _ _ xAbt (@xAac _ _ _ _) (@xAup _ _ _ _ _ _ _ _ _ rfl rfl T.b_max boot_max (@xAaa _ _ _ _ _ (@pq _ 4 _ _ rfl) (@xAad _) rfl) (@xAac _ _ _ _) (by decide) (by decide) rfl)) rfl))) (by intro _;rfl)) (@xAaf _ _ _ (@xAar _ _ _ _ (@pv _ 2 _ _ rfl (Or.inr (Or.inl rfl)) rfl rfl))))),?_⟩;obtain ⟨rp,tp,ws,hn,es,kvs,rfl,rl,rd,td,sw,kk⟩:=h;obtain ⟨nd,W,hg,gd,few⟩:=id sw;intro gp H1 g1 s1 e1;have td1:=td.same s1;have hkl:kvs.length=es.length:=td.1;refine ⟨_,rfl,tp,kvs,es.map fun d=>PyData.int (d.hd.sum:Nat),0,rfl,Rd.same rd s1,by rw [qg,hkl],?_,⟨by omega,.inl (by omega)⟩,?_,?_⟩
 ·have:=xAny (es.map fun d=>d.hd.sum)
  rw [wb] at this;exact this
 ·intro m y dd H' Q' hy hd s q
  rw [ql] at hy hd
  cases e3:kvs[m]? with
  | none=>rw [e3] at hy;cases hy
  | some x0 =>
   rw [e3] at hy;cases hy;obtain ⟨e,ee,_,_,da⟩:=td1.at e3;rw [ee] at hd;cases hd;have hm:=qo ee;exact ⟨_,ws,e,rfl,da.mono s,by rw [W.len e hm];exact rl.few,fun n h=>qm (xArk W hm h) (by omega),q H' _ (Same.refl _) (.int _)⟩
 intro sq H2 ix g2 s2 six e2;obtain ⟨po,so⟩:=xAlp six ⟨0,0,[],.none,[]⟩
 have hix:∀ i∈ix,i<es.length:=fun i hi=>by
  have:=(six.1.mem_iff).mp hi
  rwa [zp,qg] at this
 have vo:A2 (Hs.DeedAt H2 ws) (kvs.map (·.2.2)) es:=⟨by rw [qg,hkl],fun i x y e1 e2=>by
  rw [ql] at e1
  cases e3:kvs[i]? with
  | none=>rw [e3] at e1;cases e1
  | some x0=>rw [e3] at e1;cases e1;exact (td1.2 i x0 y e3 e2).2.2.mono s2⟩
 have ao:=vo.ix (a:=V.non) (b:=(⟨0,0,[],.none,[]⟩:Hs.Dd)) ix hix;generalize (ix.map fun i=>es.getD i (⟨0,0,[],.none,[]⟩:Hs.Dd))=os at po so ao;generalize (ix.map fun i=>(kvs.map (·.2.2)).getD i V.non)=zs at e2 ao;have hol:os.length=es.length:=po.length_eq;refine ⟨sq,rfl,⟨_,SqL.of e2⟩,xAbs (xs:=zs) (fun j σ H3=>∃ hvs u3 u4,σ=[some (.ref rp),some (.ref tp),some (.ref gp),u3,u4]/\Same H H3/\H3 sq=some (.lst zs)/\A2 (Hs.DeedAt H3 ws) zs os/\H3 gp=some (.dG hvs)/\HD ws hn (os.take j) hvs/\hvs.length≤j) ⟨[],_,_,rfl,s1.trans s2,e2,ao,s2 _ _ e1,(fun _ h=>absurd h y7),qh _⟩ (fun j σ H3 _ ⟨_,_,_,_,_,e,_⟩=>SqL.of e) ?_ ?_⟩
 ·rintro j x σ H3 hx ⟨hvs,u3,u4,rfl,s3,e3,ao3,eg,hd,hvl⟩
  obtain ⟨dd,ed,da⟩:=ao3.at hx;have hj:j<os.length:=(qx.mp ed).1;have hm:dd∈es:=po.mem_iff.mp (qo ed)
  have htk:os.take (j+1)=os.take j++[dd]:=by rw [vj,ed];rfl
  have few6:=rl.few;refine ⟨_,rfl,_,rfl,rp,x,ws,dd,rfl,rl.mono s3,da,W.len dd hm,fun H4 lp ns s4 g4 e4 an=>?_⟩
  have npl:ns.length≤6:=by
   rw [an.1];unfold Hs.pastOf;rw [qg];exact qm (vk _ _) (by rw [vy];exact few6)
  have back:∀ p∈Hs.pastOf dd.hd ws.length,vG hvs (kOf ws p.1 p.2)=some (.int (hn p.1 p.2:Nat)):=fun p hp=>by
   obtain ⟨e,he,a1,a2,_,hlt⟩:=W.last (W.len dd hm) (W.past dd hm) hp;rw [← a1,← a2];refine hd e ?_;obtain ⟨i,hi,ei⟩:=zx (po.mem_iff.mpr he)
   have hij:i<j:=by
    refine Nat.lt_of_not_le fun z=>?_;rcases Nat.lt_or_eq_of_le z with z | z
    ·have:=z8.mp so j i hj hi z
     rw [ei,(qx.mp ed).2] at this;omega
    ·subst z
     rw [(qx.mp ed).2] at ei;rw [ei] at hlt;omega
   rw [← ei];exact List.mem_take_iff_getElem.mpr ⟨i,by omega,rfl⟩
  refine ⟨lp,rfl,⟨_,SqL.of e4⟩,lc_A3 (α:=Nat×Nat) (fun H v p=>NmV H ws v p) (fun _ v p=>v=.int (hn p.1 p.2:Nat)) (fun _ _ _ _ s g=>xAaw s g) (fun _ _ _ _ _ g=>g) (SqL.of e4) (by omega) an ?_ ?_⟩
  ·intro y p H5 K1 hp s5 hy k1
   exact ⟨_,rfl,_,rfl,gp,hvs,_,_,rfl,.of (s5 _ _ (s4 _ _ eg)),hy,back p hp,k1 _ _ (Same.refl _) rfl⟩
  ·intro H5 bp zs' s5 g5 e5 an5
   have ezs:zs'=((Hs.pastOf dd.hd ws.length).map fun p=>((hn p.1 p.2:Nat):Int)).map V.int:=by
    apply wg;intro i;rw [ql,ql]
    cases q:(Hs.pastOf dd.hd ws.length)[i]? with
    | none=>rw [yb (by rw [an5.1];exact List.getElem?_eq_none_iff.mp q)];rfl
    | some p=>obtain ⟨y,ey,hy⟩:=an5.to q;rw [ey,hy];rfl
   have s35:=s4.trans s5;have hks:hvs.length<sizeLine:=xAak (by omega)
   have put:∀ H6 nv,Same H5 H6->NmV H6 ws nv (nm dd)->∃ hvs' u3 u4,([some (.ref rp),some (.ref tp),some (.ref gp),some x,some (.ref bp)]:L2.St)=[some (.ref rp),some (.ref tp),some (.ref gp),u3,u4]/\Same H (upd H6 gp (.dG (pG hvs (kD ws dd) nv (.int (hn dd.who dd.num:Nat)))))/\(upd H6 gp (.dG (pG hvs (kD ws dd) nv (.int (hn dd.who dd.num:Nat))))) sq=some (.lst zs)/\A2 (Hs.DeedAt (upd H6 gp (.dG (pG hvs (kD ws dd) nv (.int (hn dd.who dd.num:Nat))))) ws) zs os/\(upd H6 gp (.dG (pG hvs (kD ws dd) nv (.int (hn dd.who dd.num:Nat))))) gp=some (.dG hvs')/\HD ws hn (os.take (j+1)) hvs'/\hvs'.length≤j+1:=fun H6 nv s6 hn6=>by
    have s36:=s35.trans s6;have eg6:=s36 _ _ eg;refine ⟨_,_,_,rfl,(s3.trans s36).wr g1,?_,ao3.imp fun _ _ _ g=>(g.mono s36).wr eg6 dG_no,xAae,fun e he=>?_,qm (xAqw hvs _ _ _) (wc hvl)⟩
    ·rw [xAah (fun z=>by rw [z,eg] at e3;cases e3)]
     exact s36 _ _ e3
    ·rw [xAuf]
     rw [htk,zj,zb] at he
     by_cases q:kD ws e=kD ws dd
     ·rw [if_pos q]
      have hme:e∈es:=he.elim (fun z=>po.mem_iff.mp (wy z)) fun z=>by rw [z];exact hm
      have:=xAed nd (W.who e hme) (W.who dd hm) q;rw [this.1,this.2]
     ·rw [if_neg q]
      exact he.elim (fun z=>hd e z) fun z=>absurd (by rw [z]) q
   have hH:=hg dd hm;refine ⟨_,rfl,bp,_,rfl,SqL.of (by rw [e5,ezs]),fun hnil=>?_,fun m hmm hmx=>?_⟩
   ·refine ⟨_,_,rfl,rfl,_,rfl,_,rfl,x,ws,dd,rfl,da.mono s35,fun H6 nv s6 hn6=>⟨gp,hvs,_,rfl,s6 _ _ (s35 _ _ eg),hn6,hks,?_⟩⟩
    have e0:Hs.pastOf dd.hd ws.length=[]:=List.map_eq_nil_iff.mp hnil;rw [e0] at hH;have:=put H6 nv s6 hn6;rw [hH] at this;exact this
   ·refine ⟨_,_,rfl,rfl,_,rfl,_,rfl,x,ws,dd,rfl,da.mono s35,fun H6 nv s6 hn6=>⟨gp,hvs,_,rfl,s6 _ _ (s35 _ _ eg),hn6,hks,?_⟩⟩
    have em:(hn dd.who dd.num:Nat)=1+m:=by
     obtain ⟨p,hp,rfl⟩:=qk.mp hmm;have h1:=Hs.le_maxL (qk.mpr ⟨p,hp,rfl⟩:hn p.1 p.2∈(Hs.pastOf dd.hd ws.length).map fun p=>hn p.1 p.2)
     have h2:Hs.maxL ((Hs.pastOf dd.hd ws.length).map fun p=>hn p.1 p.2)≤hn p.1 p.2:=Hs.foldl_max_le.mpr ⟨qu _,fun y hy=>by
      obtain ⟨r,hr',rfl⟩:=qk.mp hy
      exact Int.ofNat_le.mp (hmx _ (qk.mpr ⟨r,hr',rfl⟩))⟩
     omega
    have:=put H6 nv s6 hn6;rw [em] at this;exact this
 ·rintro σ H3 ⟨hvs,u3,u4,rfl,s3,e3,ao3,eg,hd,hvl⟩
  rw [show zs.length=os.length from ao.1,z9] at hd;exact ⟨_,rfl,kk H3 gp hvs s3 g1 eg fun d hd'=>hd d (po.mem_iff.mpr hd')⟩
theorem ok_fAu (T:Txt K mg d tk) (gfAg:FnOk P w K mg base CX0 2 d.fAg d.fAgd ["_law_number","_law_roll_here"] (sp_fAg K)):FnOk P w K mg base CX0 3 d.fAu d.fAud ["_law_number","_law_roll_here"] (sp_fAu K):=by
 refine T.F_fAu.ok sc_fAu (fun vs H Q E h=>xAtl h) (fun cdv A outer s H vs Q E hr h=>?_);have hu:(A.deeper (envOfC "_law_side" (defScope s_fAu) s.heap.objs.size d.fAu cdv)).units<cLine:=hr.units0;refine ⟨_,(@xAaf _ _ _ (@xAar _ _ _ _ (@xAan _ _ _ _ _ (@xAaa _ _ _ _ _ (@xAam _ _ _ _ _ _ _ _ _ _ _ _ _ _ _ _ gfAg (hr.mono (by decide)) rfl T.m_fAg T.k_fAg T.d_fAg .nil pass0 (@xAaa _ _ _ _ _ (@pe_op _ _ _ _ _ _ _ _ xAba (@pq _ 0 _ _ rfl) (@xAac _ _ _ _)) (@xAaa _ _ _ _ _ (@pq _ 1 _ _ rfl) (@xAad _) rfl) rfl) (by decide) rfl rfl) (@xAaa _ _ _ _ _ (@pe_ix _ _ _ _ _ _ _ xAby (@xAbd _ _ _ _ (@xAaa _ _ _ _ _ (@xAaz _ _ _ _) (@xAaa _ _ _ _ _ (@xAaz _ _ _ _) (@xAad _) rfl) rfl)) (@pe_op _ _ _ _ _ _ _ _ xAay (@pq _ 0 _ _ rfl) (@xAac _ _ _ _)) (fun _ _=>rfl)) (@xAad _) rfl) rfl)))),?_⟩;obtain ⟨i,p,ws,rfl,hp,k⟩:=h;refine ⟨_,rfl,_,_,rfl,rfl,⟨by decide,by decide⟩,_,rfl,_,p,ws,rfl,hp,fun H1 v d s1 dv hd=>?_⟩;obtain ⟨ds,rfl,hn⟩:=hd;refine ⟨szOk rfl,fun q1 H2 g2 s2 e2=>?_⟩;refine ⟨_,rfl,_,_,rfl,rfl,(by show (0:Int)<2;decide),q1,_,_,rfl,rfl,SqL.of e2,xAbk _ (by decide),xAbn _ (by decide),fun v2 hv=>?_⟩
 obtain ⟨z,rfl,hz⟩:∃ z:Str,v2=.str z/\(z = "ahead" \/ z = "behind"):=by
  simp only [List.mem_cons,List.not_mem_nil,or_false] at hv
  rcases hv with rfl | rfl
  ·exact ⟨_,rfl,.inl rfl⟩
  ·exact ⟨_,rfl,.inr rfl⟩
 exact ⟨szOk rfl,fun q3 H3 g3 s3 e3=>k H3 (.ref q3) _ ((s1.trans s2).trans s3) (.tup e3 (.cons (dv.same (s2.trans s3)) (.cons (.str z) .nil))) ⟨ds,z,rfl,hn,hz⟩⟩
theorem ok_fAv (T:Txt K mg d tk) (gfAt:FnOk P w K mg base CX0 2 d.fAt d.fAtd ["_law_number","_law_roll_here"] (sp_fAt K)) (gfAr:FnOk P w K mg base CX0 1 d.fAr d.fArd ["_law_number"] (sp_fAr K)):FnOk P w K mg base CX0 3 d.fAv d.fAvd ["_law_number","_law_roll_here"] (sp_fAv K):=by
 refine T.F_fAv.ok xAwj (fun vs H Q E h=>xAtm h) (fun cdv A outer s H vs Q E hr h=>?_);have hu:(A.deeper (envOfC "_law_sign" (defScope s_fAv) s.heap.objs.size d.fAv cdv)).units<cLine:=hr.units0;refine ⟨_,(@xAab _ _ _ _ _ (@xAap _ _ (2) _ _ _ _ xAwj.nd rfl (Or.inl rfl) (@pe_op _ _ _ _ _ _ _ _ xAay (@pq _ 0 _ _ rfl) (@xAac _ _ _ _)) rfl (.inl rfl)) (@xAab _ _ _ _ _ (@ps_if _ _ _ _ _ _ _ _ (@xAao _ _ _ _ _ _ _ _ op_lt (@pq _ 2 _ _ rfl) (@xAac _ _ _ _) (xAau _)) (@xAaf _ _ _ (@xAar _ _ _ _ (@pe_ix _ _ _ _ _ _ _ xAsj (@xAaz _ _ _ _) (@pq _ 2 _ _ rfl) (fun _ _=>rfl)))) (@xAas _)) (@xAab _ _ _ _ _ (@ps_if _ _ _ _ _ _ _ _ (@xAao _ _ _ _ _ _ _ _ op_eq (@pq _ 2 _ _ rfl) (@xAac _ _ _ _) (xAau _)) (@xAaf _ _ _ (@xAar _ _ _ _ (@xAan _ _ _ _ _ (@xAaa _ _ _ _ _ (@xAaz _ _ _ _) (@xAaa _ _ _ _ _ (@xAam _ _ _ _ _ _ _ _ _ _ _ _ _ _ _ _ gfAr (hr.mono (by decide)) rfl T.m_fAr T.k_fAr T.d_fAr .nil pass0 (@xAaa _ _ _ _ _ (@pe_op _ _ _ _ _ _ _ _ xAba (@pq _ 0 _ _ rfl) (@xAac _ _ _ _)) (@xAad _) rfl) (by decide) rfl rfl) (@xAad _) rfl) rfl)))) (@xAas _)) (@xAaf _ _ _ (@xAar _ _ _ _ (@xAan _ _ _ _ _ (@xAaa _ _ _ _ _ (@xAaz _ _ _ _) (@xAaa _ _ _ _ _ (@xAam _ _ _ _ _ _ _ _ _ _ _ _ _ _ _ _ gfAt (hr.mono (by decide)) rfl T.m_fAt T.k_fAt T.d_fAt .nil pass0 (@xAaa _ _ _ _ _ (@pe_op _ _ _ _ _ _ _ _ xAba (@pq _ 0 _ _ rfl) (@xAac _ _ _ _)) (@xAaa _ _ _ _ _ (@pq _ 1 _ _ rfl) (@xAad _) rfl) rfl) (by decide) rfl rfl) (@xAad _) rfl) rfl))))))),?_⟩;obtain ⟨i,p,ws,rfl,hp,k⟩:=h;refine ⟨_,rfl,_,_,rfl,rfl,(by show (0:Int)<31;decide),?_⟩;refine ⟨_,rfl,_,_,rfl,rfl,_,rfl,?_⟩;refine ite2 (fun h1=>?_) fun _=>?_
 ·have h1:i % 31<29:=of_decide_eq_true h1
  obtain ⟨c,hc⟩:=xAsr ("abcdefghijklmnopqrstuvwxyz .,":Str).cps.toList (i % 31) (xAbk _ (by decide)) (by rw [show ("abcdefghijklmnopqrstuvwxyz .,":Str).cps.toList.length=29 from by decide +kernel];omega);exact ⟨_,rfl,_,_,_,rfl,rfl,(by decide +kernel),hc,k H (.str ⟨#[c]⟩) _ (Same.refl H) (.str _) (.inl ⟨c,rfl,xAox hc⟩)⟩
 ·refine ⟨_,rfl,rfl,_,rfl,?_⟩
  refine ite2 (fun _=>?_) fun _=>?_
  ·refine ⟨_,rfl,_,_,rfl,rfl,⟨by decide,by decide⟩,_,rfl,fun z hz=>?_⟩
   exact ⟨szOk rfl,fun q H1 g s e=>k H1 (.ref q) _ s (.tup e (.cons (.str _) (.cons (.str z) .nil))) (.inr (.inl ⟨z,rfl,hz⟩))⟩
  ·refine ⟨_,rfl,_,_,rfl,rfl,⟨by decide,by decide⟩,_,rfl,_,p,ws,rfl,hp,fun H1 v d s1 dv hd=>?_⟩
   obtain ⟨ds,rfl,hn⟩:=hd;exact ⟨szOk rfl,fun q2 H2 g s e=>k H2 (.ref q2) _ (s1.trans s) (.tup e (.cons (.str _) (.cons (dv.same s) .nil))) (.inr (.inr ⟨ds,rfl,hn⟩))⟩
theorem ok_fAe (T:Txt K mg d tk) (gfAg:FnOk P w K mg base CX0 2 d.fAg d.fAgd ["_law_number","_law_roll_here"] (sp_fAg K)):FnOk P w K mg base CX0 3 d.fAe d.fAed ["_law_draws_here","_law_roll_here"] (sp_fAe K):=by
 refine T.F_fAe.ok xAog (fun vs H Q E h=>xAtp h) (fun cdv A outer s H vs Q E hr h=>?_);have hu:(A.deeper (envOfC "_law_sign_names" (defScope s_fAe) s.heap.objs.size d.fAe cdv)).units<cLine:=hr.units0;refine ⟨_,(@xAab _ _ _ _ _ (@xAap _ _ (2) _ _ _ _ xAog.nd rfl (Or.inl rfl) (@xAbd _ _ _ _ (@xAad _)) rfl (.inl rfl)) (@xAab _ _ _ _ _ (@xAca _ _ _ _ _ _ _ _ PassesOwn.never rfl (@xAbj _ _ _ _ (@xAbu _ _ _ _ _ _ _ _ _ _ xAcc (@pq _ 0 _ _ rfl) (@xAcy _) (@xAcj _ _ _ (@pe_op _ _ _ _ _ _ _ _ xAbt (@xAac _ _ _ _) (@pe_op _ _ _ _ _ _ _ _ xAay (@pe_ix _ _ _ _ _ _ _ xAal (@pq _ 0 _ _ rfl) (@xAac _ _ _ _) (fun _ _=>rfl)) (@xAac _ _ _ _)))))) (@xAaq _ _ (3) _ xAog.nd rfl (Or.inl rfl) (.inl rfl)) (@xAab _ _ _ _ _ (@xAap _ _ (4) _ _ _ _ xAog.nd rfl (Or.inl rfl) (@xAam _ _ _ _ _ _ _ _ _ _ _ _ _ _ _ _ gfAg (hr.mono (by decide)) rfl T.m_fAg T.k_fAg T.d_fAg .nil pass0 (@xAaa _ _ _ _ _ (@pe_op _ _ _ _ _ _ _ _ xAba (@pq _ 3 _ _ rfl) (@xAac _ _ _ _)) (@xAaa _ _ _ _ _ (@pq _ 1 _ _ rfl) (@xAad _) rfl) rfl) (by decide) rfl rfl) rfl (.inl rfl)) (@xAaf _ _ _ (@ps_if _ _ _ _ _ _ _ _ (@xAao _ _ _ _ _ _ _ _ (xAgz (hu63 hr)) (@pq _ 4 _ _ rfl) (@pq _ 2 _ _ rfl) rfl) (@xAaf _ _ _ (@xAdf _ _ _ _ (@pe_bm _ _ _ _ _ _ _ _ _ _ _ _ PySem.F.plainAttrs_list PySem.F.slot_list_append PySem.F.type_list_append xAcf (@pq _ 2 _ _ rfl) (@xAaa _ _ _ _ _ (@pq _ 4 _ _ rfl) (@xAad _) rfl) rfl rfl rfl rfl rfl) rfl)) (@xAas _)))) (by intro _;rfl)) (@xAaf _ _ _ (@xAar _ _ _ _ (@xAav _ _ _ _ _ _ _ _ _ xAdc rfl T.b_tuple boot_tuple (@xAaa _ _ _ _ _ (@pq _ 2 _ _ rfl) (@xAad _) rfl) (by decide) (by decide) rfl rfl))))),?_⟩;obtain ⟨dd,p,ws,ns,rfl,hp,hd,k⟩:=h;refine ⟨szOk rfl,fun p2 H0 g0 s0 e0=>?_⟩;have hd0:=hd.mono s0;obtain ⟨a0,h0⟩:=hd0.get 0 (by decide);refine ⟨_,rfl,_,rfl,dd,_,0,.int a0,rfl,rfl,SqL.of hd0.at',h0,_,_,rfl,rfl,(by show (0:Int)<12;decide),_,_,rfl,rfl,_,rfl,dd,_,rfl,SqL.of hd0.at',fun q1 H1 g1 s1 e1=>?_⟩;have hcut:=xAow (xs:=List.map V.int ns) (b:=1+a0 % 12) (by have:=xAbk a0 (m:=12) (by decide);omega) (by have:=xAbn a0 (m:=12) (by decide);omega) (by rw [qg];exact hd.len)
 have n12:q1≠p2:=fun z=>by rw [z] at g1;rw [e0] at g1;cases g1
 refine ⟨q1,rfl,⟨_,SqL.of e1⟩,xAbs (xs:=cutV (List.map V.int ns) none (some (1+a0 % 12))) (fun j σ H2=>∃ (xs:List V) (nn:List (List PyData)) (u1 u2:Option V),σ=[some (.ref dd),some (.ref p),some (.ref p2),u1,u2]/\Same H H2/\H2 q1=some (.lst (cutV (List.map V.int ns) none (some (1+a0 % 12)))) ∧
  H2 p2=some (.lst xs)/\DTs H2 xs (nn.map .tuple)/\nn.length≤j/\(1≤j->1≤nn.length)/\nn.Nodup/\∀ b∈nn,SnD ws b)
  ⟨[],[],none,none,rfl,s0.trans s1,e1,s1 _ _ e0,.nil,qh _,by omega,wx,fun _ z=>nomatch z⟩ (fun j σ H2 _ ⟨_,_,_,_,_,_,e,_⟩=>SqL.of e) ?_ ?_⟩
 ·rintro j x σ H2 hx ⟨xs,nn,u1,u2,rfl,s2,eq,e2,dn,hps,hp1,nd,hf⟩
  obtain ⟨m,rfl⟩:=xAfg (qo hx);have hj:j<12:=qz (qx.mp hx).1 hcut.2;refine ⟨_,rfl,_,_,rfl,rfl,⟨by decide,by decide⟩,_,rfl,_,p,ws,rfl,hp.mono s2,fun H3 v d s3 dv hdn=>?_⟩;obtain ⟨nm,rfl,hn⟩:=hdn;have dn3:=DTs.same s3 dn;obtain ⟨b1,b2,b3⟩:=hn.plain hp.wd
  have xl:xs.length=nn.length:=by rw [xAov dn,qg]
  refine ⟨_,rfl,_,rfl,.tuple nm,p2,nn.map .tuple,xs,dv.dv,rfl,.inl (SqL.of (s3 _ _ e2)),dn3.dv,b2,xAcd fun x hx=>?_,by rw [b3];decide,_,rfl,?_⟩
  ·obtain ⟨y,hy,rfl⟩:=qk.mp hx
   exact ((hf y hy).plain hp.wd).2.1
  have key:=xAtc (ds:=nn.map .tuple) (d:=.tuple nm) (fun x hx=>by
   obtain ⟨y,hy,rfl⟩:=qk.mp hx
   exact ((hf y hy).plain hp.wd).1) b1
  refine ite2 (fun hnot=>?_) fun hin=>?_
  ·have hnew:nm∉nn:=fun hm=>by
    have:=key.mpr (qk.mpr ⟨nm,hm,rfl⟩);rw [this] at hnot;exact absurd hnot (by decide)
   refine ⟨_,rfl,.inl ⟨rfl,_,SqL.of (s3 _ _ e2)⟩,_,rfl,p2,_,_,rfl,rfl,s3 _ _ e2,xAak (by omega),?_⟩;have fp:H p2=none:=g0;refine ⟨xs++[v],nn++[nm],_,_,rfl,(s2.trans s3).wr fp,by rw [xAah n12];exact s3 _ _ eq,xAae,?_,by rw [qv,zk];omega,fun _=>by rw [qv,zk];omega,xAtd nd hnew,fun b hb=>?_⟩
   ·rw [z7]
    exact DTs.wr (s3 _ _ e2) (fun ys z=>by cases z) (dn3.snoc dv)
   ·rcases zj.mp hb with hb | hb
    ·exact hf b hb
    ·rw [zb.mp hb];exact hn
  ·refine ⟨xs,nn,_,_,rfl,s2.trans s3,s3 _ _ eq,s3 _ _ e2,dn3,by omega,fun _=>?_,nd,hf⟩
   cases nn with
   | nil=>exact absurd rfl hin
   | cons a b=>rw [qy];omega
 ·rintro σ H2 ⟨xs,nn,u1,u2,rfl,s2,eq,e2,dn,hps,hp1,nd,hf⟩
  exact ⟨_,rfl,p2,_,rfl,SqL.of e2,fun l H3 g3 s3 e3=>k H3 (.ref l) nn (s2.trans s3) (.tup e3 (DTs.same s3 dn)) (hp1 (by omega)) (by omega) hf nd⟩
theorem ok_fAh (T:Txt K mg d tk) (gfAy:FnOk P w K mg base CX0 1 d.fAy d.fAyd ["self","name"] (sp_fAy K)) (gfAz:FnOk P w K mg base CX0 2 d.fAz d.fAzd ["deeds"] (sp_fAz K)) (gfAn:FnOk P w K mg base CX0 2 d.fAn d.fAnd ["roll","told","deed"] (sp_fAn K)) (gfAo:FnOk P w K mg base CX0 3 d.fAo d.fAod ["roll","told"] (sp_fAo K)) (gfAx:FnOk P w K mg base CX0 1 d.fAx d.fAxd ["roll"] (sp_fAx K)):FnOk P w K mg base CX0 4 d.fAh d.fAhd ["self","roll","deeds"] (sp_fAh K):=by
 refine T.F_fAh.ok xAwk (fun vs H Q E h=>xAvv h) (fun cdv A outer s H vs Q E hr h=>?_);have hu:(A.deeper (envOfC "Folk.__init__" (defScope s_fAh) s.heap.objs.size d.fAh cdv)).units<cLine:=hr.units0;refine ⟨_,(@xAab _ _ _ _ _ (@xAif _ _ _ _ _ _ _ _ (@pq _ 0 _ _ rfl) (@xAav _ _ _ _ _ _ _ _ _ xAej rfl T.b_list boot_list (@xAaa _ _ _ _ _ (@pq _ 1 _ _ rfl) (@xAad _) rfl) (by decide) (by decide) rfl rfl) rfl) (@xAab _ _ _ _ _ (@xAif _ _ _ _ _ _ _ _ (@pq _ 0 _ _ rfl) (@xAam _ _ _ _ _ _ _ _ _ _ _ _ _ _ _ _ gfAx (hr.mono (by decide)) rfl T.m_fAx T.k_fAx T.d_fAx .nil pass0 (@xAaa _ _ _ _ _ (@pq _ 1 _ _ rfl) (@xAad _) rfl) (by decide) rfl rfl) rfl) (@xAab _ _ _ _ _ (@xAif _ _ _ _ _ _ _ _ (@pq _ 0 _ _ rfl) (@xAam _ _ _ _ _ _ _ _ _ _ _ _ _ _ _ _ gfAz (hr.mono (by decide)) rfl T.m_fAz T.k_fAz T.d_fAz .nil pass0 (@xAaa _ _ _ _ _ (@pq _ 2 _ _ rfl) (@xAad _) rfl) (by decide) rfl rfl) rfl) (@xAab _ _ _ _ _ (@xAca _ _ _ _ _ _ _ _ PassesOwn.never rfl (@xAre _ _ _ _ _ _ (@xAdi _ _ _ _ _ (@pq _ 0 _ _ rfl) rfl) rfl rfl) (@xAaq _ _ (3) _ xAwk.nd rfl (Or.inl rfl) (.inl rfl)) (@xAaf _ _ _ (@xAdf _ _ _ _ (@xAam _ _ _ _ _ _ _ _ _ _ _ _ _ _ _ _ gfAn (hr.mono (by decide)) rfl T.m_fAn T.k_fAn T.d_fAn .nil pass0 (@xAaa _ _ _ _ _ (@xAdi _ _ _ _ _ (@pq _ 0 _ _ rfl) rfl) (@xAaa _ _ _ _ _ (@xAdi _ _ _ _ _ (@pq _ 0 _ _ rfl) rfl) (@xAaa _ _ _ _ _ (@pq _ 3 _ _ rfl) (@xAad _) rfl) rfl) rfl) (by decide) rfl rfl) rfl)) (by intro _;rfl)) (@xAab _ _ _ _ _ (@xAif _ _ _ _ _ _ _ _ (@pq _ 0 _ _ rfl) (@xAam _ _ _ _ _ _ _ _ _ _ _ _ _ _ _ _ gfAo (hr.mono (by decide)) rfl T.m_fAo T.k_fAo T.d_fAo .nil pass0 (@xAaa _ _ _ _ _ (@xAdi _ _ _ _ _ (@pq _ 0 _ _ rfl) rfl) (@xAaa _ _ _ _ _ (@xAdi _ _ _ _ _ (@pq _ 0 _ _ rfl) rfl) (@xAad _) rfl) rfl) (by decide) rfl rfl) rfl) (@xAab _ _ _ _ _ (@xAif _ _ _ _ _ _ _ _ (@pq _ 0 _ _ rfl) (xArg gfAy (hr.mono (by decide)) rfl T.b_sorted boot_sorted T.C_Folk T.B_fAy T.d_fAy rfl (@xAaa _ _ _ _ _ (@xAav _ _ _ _ _ _ _ _ _ (xAlh hr.hd) rfl T.b_list boot_list (@xAaa _ _ _ _ _ (@xAdi _ _ _ _ _ (@pq _ 0 _ _ rfl) rfl) (@xAad _) rfl) (by decide) (by decide) rfl rfl) (@xAad _) rfl) (@pq _ 0 _ _ rfl)) rfl) (@xAaf _ _ _ (@xAif _ _ _ _ _ _ _ _ (@pq _ 0 _ _ rfl) (@xAiw _ _ _) rfl)))))))),?_⟩;obtain ⟨x,dx,rp,dp,ws,hn,des,fs,es,rfl,hx,rl,hdp,an,sw,mem,hfl,kk⟩:=h;obtain ⟨nd,W,hg,gd,few⟩:=id sw;have few6:=rl.few;have up0:=xAbx H x;have nf:∀ {H':Hp} {b:Addr},H' x≠none->H' b=none->b≠x:=fun h1 h2 z=>h1 (z▸h2);refine ⟨_,rfl,rp,_,rfl,.inl (SqL.of (up0 _ _ rl.at')),fun hp H1 g1 s1 e1=>?_⟩;have nhp:hp≠x:=nf (by rw [hx];simp) g1;have c1:Same (del H x) (del H1 x):=s1.cuts;refine ⟨_,rfl,x,_,dx,_,rfl,s1 _ _ hx,T.C_Folk,T.N_Folk_hands,by show 0<1000;decide,?_⟩
 have c2:Same (del H x) (del (upd H1 x (.ins (cC K "Folk") dx (F1 (.ref hp)))) x):=by rw [xAdp];exact c1
 have rh:RL (del (upd H1 x (.ins (cC K "Folk") dx (F1 (.ref hp)))) x) hp ws:=⟨by rw [xAdp];exact xAnw e1 nhp,rl.pos,rl.few,rl.wd⟩;have ob2:(upd H1 x (.ins (cC K "Folk") dx (F1 (.ref hp)))) x=some (.ins (cC K "Folk") dx (F1 (.ref hp))):=xAae;show tSeq _ _ _ _ (upd H1 x (.ins (cC K "Folk") dx (F1 (.ref hp))));generalize upd H1 x (.ins (cC K "Folk") dx (F1 (.ref hp)))=H2 at c2 rh ob2;have t2:=c2.trans (xAbx H2 x);refine ⟨_,rfl,rp,ws,rfl,rl.mono t2,nd,fun H3 sp s3 g3 e3=>?_⟩;have nsp:sp≠x:=nf (by rw [ob2];simp) g3;refine ⟨_,rfl,x,_,dx,_,rfl,s3 _ _ ob2,T.C_Folk,T.N_Folk_seats,we xAuy (by decide),?_⟩
 have c4:Same (del H2 x) (del (upd H3 x (.ins (cC K "Folk") dx (F2 (.ref hp) (.ref sp)))) x):=by rw [xAdp];exact s3.cuts
 have se:(del (upd H3 x (.ins (cC K "Folk") dx (F2 (.ref hp) (.ref sp)))) x) sp=some (.dK (seatL ws)):=by rw [xAdp];exact xAnw e3 nsp
 have ob4:(upd H3 x (.ins (cC K "Folk") dx (F2 (.ref hp) (.ref sp)))) x=some (.ins (cC K "Folk") dx (F2 (.ref hp) (.ref sp))):=xAae;show tSeq _ _ _ _ (upd H3 x (.ins (cC K "Folk") dx (F2 (.ref hp) (.ref sp))));generalize upd H3 x (.ins (cC K "Folk") dx (F2 (.ref hp) (.ref sp)))=H4 at c4 se ob4;have c04:=c2.trans c4;have t4:=c04.trans (xAbx H4 x);have one:∀ a∈fs,∀ b∈fs,a.who=b.who->a.num=b.num->a=b:=fun a ha b hb=>W.one ((mem a).mpr ha) ((mem b).mpr hb);refine ⟨_,rfl,dp,des,ws,fs,rfl,t4 _ _ hdp,an.imp fun _ _ _ g=>g.mono t4,nd,fun d hd=>gd d ((mem d).mpr hd),hfl,one,fun H5 tp kvs es' s5 g5 e5 td5 up5 mem5=>?_⟩;have ntp:tp≠x:=nf (by rw [ob4];simp) g5
 have pe:es'.Perm es:=xAvh up5 W.uniq fun d=>by rw [mem5,mem]
 have sw':=sw.perm pe;have W':=sw'.wh;refine ⟨_,rfl,x,_,dx,_,rfl,s5 _ _ ob4,T.C_Folk,T.N_Folk_told,we xAuz (by decide),?_⟩
 have c6:Same (del H4 x) (del (upd H5 x (.ins (cC K "Folk") dx (F3 (.ref hp) (.ref sp) (.ref tp)))) x):=by rw [xAdp];exact s5.cuts
 have e6:(del (upd H5 x (.ins (cC K "Folk") dx (F3 (.ref hp) (.ref sp) (.ref tp)))) x) tp=some (.dG kvs):=by rw [xAdp];exact xAnw e5 ntp
 have ob6:(upd H5 x (.ins (cC K "Folk") dx (F3 (.ref hp) (.ref sp) (.ref tp)))) x=some (.ins (cC K "Folk") dx (F3 (.ref hp) (.ref sp) (.ref tp))):=xAae;have td6:TD (upd H5 x (.ins (cC K "Folk") dx (F3 (.ref hp) (.ref sp) (.ref tp)))) ws kvs es':=td5.tups (xAcm (s5 _ _ ob4) xAvj);show tSeq _ _ _ _ (upd H5 x (.ins (cC K "Folk") dx (F3 (.ref hp) (.ref sp) (.ref tp))));generalize upd H5 x (.ins (cC K "Folk") dx (F3 (.ref hp) (.ref sp) (.ref tp)))=H6 at c6 e6 ob6 td6;refine ⟨_,rfl,x,_,dx,_,_,rfl,ob6,T.C_Folk,T.N_Folk_told,xAhx,tp,kvs,rfl,.inl ⟨xAbx _ _ _ _ e6,fun o=>?_⟩⟩
 have ob7:(upd H6 tp (.frz o (.dG kvs))) x=some (.ins (cC K "Folk") dx (F3 (.ref hp) (.ref sp) (.ref tp))):=by rw [xAah ntp.symm];exact ob6
 have td7:TD (upd H6 tp (.frz o (.dG kvs))) ws kvs es':=td6.tups (xAcm (xAbx _ _ _ _ e6) dG_no);have e7:(upd H6 tp (.frz o (.dG kvs))) tp=some (.frz o (.dG kvs)):=xAae
 have keep:∀ {b u},(del H6 x) b=some u->b≠tp->(upd H6 tp (.frz o (.dG kvs))) b=some u:=fun h z=>by rw [xAah z];exact xAbx _ _ _ _ h
 have rh7:RL (upd H6 tp (.frz o (.dG kvs))) hp ws:=⟨keep ((c4.trans c6) _ _ rh.at') (fun z=>by
  have h1:=(c4.trans c6) _ _ rh.at';rw [z,e6] at h1
  cases h1),rl.pos,rl.few,rl.wd⟩
 have se7:(upd H6 tp (.frz o (.dG kvs))) sp=some (.dK (seatL ws)):=keep (c6 _ _ se) (fun z=>by
  have h1:=c6 _ _ se;rw [z,e6] at h1
  cases h1)
 have s07:Same (del H x) (upd H6 tp (.frz o (.dG kvs))):=((c04.trans c6).trans (xAbx _ _)).wr (c04.free (xAeq g5));generalize upd H6 tp (.frz o (.dG kvs))=H7 at ob7 td7 e7 rh7 se7 s07;refine xAnu (fun j σ H8=>∃ u3,σ=[some (.ref x),some (.ref rp),some (.ref dp),u3]/\Same H7 H8) ⟨_,rfl,Same.refl _⟩ (fun j σ H8 ⟨_,_,s8⟩=>s8 _ _ e7) ?_ ?_
 ·rintro j e σ H8 he ⟨u3,rfl,s8⟩
  obtain ⟨dd,ed,_,_,da⟩:=td7.at he;have hm:=qo ed;refine ⟨_,rfl,x,_,dx,_,_,rfl,s8 _ _ ob7,T.C_Folk,T.N_Folk_hands,xAll,_,rfl,x,_,dx,_,_,rfl,s8 _ _ ob7,T.C_Folk,T.N_Folk_told,xAhx,_,rfl,hp,tp,_,ws,dd,es',kvs,rfl,rh7.mono s8,.inr ⟨o,s8 _ _ e7⟩,td7.same s8,nd,W',da.mono s8,hm,fun H9 s9=>?_⟩;exact ⟨_,rfl,s8.trans s9⟩
 rintro σ H8 ⟨u3,rfl,s8⟩;have rd8:Rd H8 tp (.dG kvs):=.inr ⟨o,s8 _ _ e7⟩;refine ⟨_,rfl,x,_,dx,_,_,rfl,s8 _ _ ob7,T.C_Folk,T.N_Folk_hands,xAll,_,rfl,x,_,dx,_,_,rfl,s8 _ _ ob7,T.C_Folk,T.N_Folk_told,xAhx,hp,tp,ws,hn,es',kvs,rfl,rh7.mono s8,rd8,td7.same s8,sw',fun H9 gp hvs s9 g9 e9 hd9=>?_⟩;have s79:=s8.trans s9;have ob9:=s79 _ _ ob7;have ngp:gp≠x:=nf (by rw [s8 _ _ ob7];simp) g9;refine ⟨_,rfl,x,_,dx,_,rfl,ob9,T.C_Folk,T.N_Folk_heights,we xAva (by decide),?_⟩
 have nx:∀ {b u},H9 b=some u->(∀ C dx fs,u≠.ins C dx fs)->b≠x:=fun h1 h2 z=>by
  rw [z,ob9] at h1;exact h2 _ _ _ (Option.some.inj h1).symm
 have k10:∀ {b u},H9 b=some u->b≠x->(upd H9 x (.ins (cC K "Folk") dx (F4 (.ref hp) (.ref sp) (.ref tp) (.ref gp)))) b=some u:=fun h z=>by rw [xAah z];exact h
 have ob10:(upd H9 x (.ins (cC K "Folk") dx (F4 (.ref hp) (.ref sp) (.ref tp) (.ref gp)))) x=some (.ins (cC K "Folk") dx (F4 (.ref hp) (.ref sp) (.ref tp) (.ref gp))):=xAae;have rh10:RL (upd H9 x (.ins (cC K "Folk") dx (F4 (.ref hp) (.ref sp) (.ref tp) (.ref gp)))) hp ws:=⟨k10 (s79 _ _ rh7.at') (nx (s79 _ _ rh7.at') fun _ _ _ z=>by cases z),rl.pos,rl.few,rl.wd⟩;have se10:=k10 (s79 _ _ se7) (nx (s79 _ _ se7) fun _ _ _ z=>by cases z);have e10:=k10 (s79 _ _ e7) (nx (s79 _ _ e7) fun _ _ _ z=>by cases z);have he10:=k10 e9 ngp;have td10:TD (upd H9 x (.ins (cC K "Folk") dx (F4 (.ref hp) (.ref sp) (.ref tp) (.ref gp)))) ws kvs es':=(td7.same s79).tups (xAcm ob9 xAvj);have s010:Same (del H x) (upd H9 x (.ins (cC K "Folk") dx (F4 (.ref hp) (.ref sp) (.ref tp) (.ref gp)))):=(s07.trans s79).wr xAeo;show tSeq _ _ _ _ (upd H9 x (.ins (cC K "Folk") dx (F4 (.ref hp) (.ref sp) (.ref tp) (.ref gp))));generalize upd H9 x (.ins (cC K "Folk") dx (F4 (.ref hp) (.ref sp) (.ref tp) (.ref gp)))=H10 at ob10 rh10 se10 e10 he10 td10 s010;have hkl:kvs.length=es'.length:=td10.1;have few':=sw'.few;refine ⟨_,rfl,x,_,dx,_,_,rfl,ob10,T.C_Folk,T.N_Folk_told,xApn,tp,kvs,rfl,.inr ⟨o,e10⟩,by omega,fun lp H11 g11 s11 e11=>?_⟩
 have ny:A2 (NmV H11 ws) (kvs.map (·.2.1)) (es'.map nm):=A2.mapr ⟨by rw [qg,hkl],fun i y z e1 e2=>by
  rw [ql] at e1
  cases e3:kvs[i]? with
  | none=>rw [e3] at e1;cases e1
  | some x0=>rw [e3] at e1;cases e1;exact xAaw s11 (td10.2 i x0 z e3 e2).2.1⟩
 have ko:KO (cC K "Folk") H10 x ws hn es':=⟨dx,_,gp,sp,hvs,ob10,xAfm,xAlm,he10,hd9,se10⟩;refine ⟨_,rfl,x,dx,_,rfl,s11 _ _ ob10,f4_no (by decide +kernel),lp,_,es'.map (Hs.kyD hn),2,rfl,SqL.of e11,by rw [qg,qg,hkl],xAvl hn es',⟨by rw [qg];omega,.inl (by rw [qg];omega)⟩,?_,?_⟩
 ·intro m y dd H' Q' hy hd s q
  rw [ql] at hd
  cases e3:es'[m]? with
  | none=>rw [e3] at hd;cases hd
  | some z =>
   rw [e3] at hd;cases hd;have hm:=qo e3;exact ⟨x,y,ws,hn,es',z,rfl,(ko.same s11).same s,xAaw s (ny.2 m y (nm z) hy (by rw [ql,e3];rfl)),hm,W'.who z hm,nd,fun H'' kv s'' hkv=>q H'' kv s'' hkv.dv⟩
 intro np H12 ix g12 s12 six e12;obtain ⟨po,so⟩:=Hs.sorted_of W' sw'.hg six ⟨0,0,[],.none,[]⟩
 have hix:∀ i∈ix,i<es'.length:=fun i hi=>by
  have:=(six.1.mem_iff).mp hi
  rwa [zp,qg] at this
 have na:=(A2.imp (R':=fun v e=>NmV H12 ws v (nm e)) (ys:=es') ⟨by rw [qg,hkl],fun i y z e1 e2=>ny.2 i y (nm z) e1 (by rw [ql,e2];rfl)⟩ fun _ _ _ g=>xAaw s12 g).ix (a:=V.non) (b:=(⟨0,0,[],.none,[]⟩:Hs.Dd)) ix hix;generalize (ix.map fun i=>es'.getD i (⟨0,0,[],.none,[]⟩:Hs.Dd))=ss at po so na;generalize (ix.map fun i=>(kvs.map (·.2.1)).getD i V.non)=ns at e12 na;have s1012:=s11.trans s12;have ob12:=s1012 _ _ ob10;have nnp:np≠x:=nf (by rw [s11 _ _ ob10];simp) g12;refine ⟨_,rfl,x,_,dx,_,rfl,ob12,T.C_Folk,T.N_Folk_sorted_names,we xAvb (by decide),?_⟩;refine ⟨_,rfl,x,_,dx,_,rfl,xAae,T.C_Folk,T.N_Folk_kept_book,we f5_len (by decide),?_⟩
 have k14:∀ {b u} (w1 w2:HO),H12 b=some u->b≠x->(upd (upd H12 x w1) x w2) b=some u:=fun w1 w2 h z=>by rw [xAah z,xAah z];exact h
 have nx2:∀ {b u},H12 b=some u->(∀ C dx fs,u≠.ins C dx fs)->b≠x:=fun h1 h2 z=>by
  rw [z,ob12] at h1;exact h2 _ _ _ (Option.some.inj h1).symm
 have tu:∀ w1 w2:HO,Tups H12 (upd (upd H12 x w1) x w2):=fun w1 w2 b xs h=>k14 w1 w2 h (nx2 h fun _ _ _ z=>by cases z)
 refine kk _ ss (((s010.trans s1012).wr xAeo).wr xAeo) (po.trans pe) fun S hS=>?_
 have fr:∀ {b},(del H x) b=none->¬ S b:=fun h z=>by
  obtain ⟨o,e,_⟩:=hS _ z;rw [h] at e;cases e
 have t10:=s010
 have tv:∀ w1 w2:HO,Tups H12 (delS (upd (upd H12 x w1) x w2) S):=fun w1 w2 b xs h=>xAdq (tu w1 w2 b xs h) fun z=>by
  obtain ⟨o',e,n⟩:=hS _ z;have h2:=(s010.trans s1012) _ _ e;rw [h] at h2;exact n xs (Option.some.inj h2).symm
 refine ⟨dx,hp,sp,tp,gp,np,kvs,hvs,ns,es',xAdq xAae (fr xAeo),⟨xAdq (k14 _ _ (s1012 _ _ rh10.at') (nx2 (s1012 _ _ rh10.at') fun _ _ _ z=>by cases z)) (fr (xAeq g1)),rl.pos,rl.few,rl.wd⟩,xAdq (k14 _ _ (s1012 _ _ se10) (nx2 (s1012 _ _ se10) fun _ _ _ z=>by cases z)) (fr (c2.free (xAeq g3))),.inr ⟨o,xAdq (k14 _ _ (s1012 _ _ e10) (nx2 (s1012 _ _ e10) fun _ _ _ z=>by cases z)) (fr (c04.free (xAeq g5)))⟩,(td10.same s1012).tups (tv _ _),po.symm,xAdq (k14 _ _ (s1012 _ _ he10) (nx2 (s1012 _ _ he10) fun _ _ _ z=>by cases z)) (fr ((s07.trans s8).free g9)),fun d hd=>hd9 d (po.mem_iff.mp hd),xAdq (k14 _ _ e12 nnp) (fr ((s010.trans s11).free g12)),A2.mapr (na.imp fun _ _ _ g=>xAck g (tv _ _)),sw'.perm po,so⟩
theorem ok_fAk (T:Txt K mg d tk) (gfAv:FnOk P w K mg base CX0 3 d.fAv d.fAvd ["_law_number","_law_roll_here"] (sp_fAv K)):FnOk P w K mg base CX0 4 d.fAk d.fAkd ["_law_draws_here","_law_roll_here"] (sp_fAk K):=by
 refine T.F_fAk.ok sc_fAk (fun vs H Q E h=>xAto h) (fun cdv A outer s H vs Q E hr h=>?_);have hu:(A.deeper (envOfC "_law_signs" (defScope s_fAk) s.heap.objs.size d.fAk cdv)).units<cLine:=hr.units0;refine ⟨_,(@xAaf _ _ _ (@xAar _ _ _ _ (@xAav _ _ _ _ _ _ _ _ _ xAdc rfl T.b_tuple boot_tuple (@xAaa _ _ _ _ _ (@xAbp _ _ _ _ _ _ _ (["_law_number"]) ([("_law_roll_here",1)]) _ _ _ _ _ rfl (@xAbj _ _ _ _ (@xAbu _ _ _ _ _ _ _ _ _ _ xAcc (@pq _ 0 _ _ rfl) (@xAcy _) (@xAcj _ _ _ (@pe_op _ _ _ _ _ _ _ _ xAbt (@xAac _ _ _ _) (@pe_op _ _ _ _ _ _ _ _ xAay (@pe_ix _ _ _ _ _ _ _ xAal (@pq _ 0 _ _ rfl) (@xAac _ _ _ _) (fun _ _=>rfl)) (@xAac _ _ _ _)))))) ⟨rfl,by decide +kernel,by decide +kernel⟩ (xAct (defScope s_fAk) ["_law_draws_here","_law_roll_here"] rfl rfl (fun _ h=>xAcb h) (by decide +kernel) (by decide +kernel) (by decide +kernel)) (fun _ _ _=>(@xAaq _ _ (0) _ (by show List.Nodup (["_law_number","_law_roll_here"]:List Str);decide +kernel) rfl (Or.inl rfl) (.inr rfl))) (fun _=>xAbg rfl) (fun _ _ _=>(@xAcz _)) (fun _ _ _=>(@xAam _ _ _ _ _ _ _ _ _ _ _ _ _ _ _ _ gfAv (hr.mono (by decide)) rfl T.m_fAv T.k_fAv T.d_fAv .nil pass0 (@xAaa _ _ _ _ _ (@pe_op _ _ _ _ _ _ _ _ xAba (@pq _ 0 _ _ rfl) (@xAac _ _ _ _)) (@xAaa _ _ _ _ _ (@pv _ 1 _ _ rfl (Or.inr (Or.inl rfl)) rfl rfl) (@xAad _) rfl) rfl) (by decide) rfl rfl)) (by intro _;rfl)) (@xAad _) rfl) (by decide) (by decide) rfl rfl))),?_⟩;obtain ⟨dd,p,ws,ns,rfl,hp,hd,k⟩:=h;obtain ⟨a0,h0⟩:=hd.get 0 (by decide);refine ⟨_,rfl,_,rfl,dd,_,0,.int a0,rfl,rfl,SqL.of hd.at',h0,_,_,rfl,rfl,(by show (0:Int)<12;decide),_,_,rfl,rfl,_,rfl,dd,_,rfl,SqL.of hd.at',fun q1 H1 g1 s1 e1=>?_⟩;have hcut:=xAow (xs:=List.map V.int ns) (b:=1+a0 % 12) (by have:=xAbk a0 (m:=12) (by decide);omega) (by have:=xAbn a0 (m:=12) (by decide);omega) (by rw [qg];exact hd.len);refine ⟨q1,rfl,⟨_,SqL.of e1⟩,xAjr (xs:=cutV (List.map V.int ns) none (some (1+a0 % 12))) (zf (xAak (by omega))) (fun j ys H'=>Same H1 H'/\∃ sg,DTs H' ys sg/\sg.length=j/\∀ x∈sg,SignD ws x) ⟨Same.refl _,[],.nil,rfl,fun _ z=>nomatch z⟩ (fun _ _ H' s=>SqL.of (s.1 _ _ e1)) (fun j x ys H' K1 K0 hx s' k1 k0=>?_) fun H' q ys s' hy hq=>?_⟩
 ·obtain ⟨m,rfl⟩:=xAfg (qo hx)
  obtain ⟨s',sg,dsg,hsl,hsg⟩:=s';refine iteT (B:=K0 H') ?_;refine ⟨_,rfl,_,_,rfl,rfl,⟨by decide,by decide⟩,_,rfl,_,p,ws,rfl,hp.mono (s1.trans s'),fun H2 v d s2 dv hd2=>?_⟩;refine k1 v H2 ⟨s'.trans s2,sg++[d],(DTs.same s2 dsg).snoc dv,by rw [qv,zk,hsl],fun x hx=>?_⟩;rcases zj.mp hx with hx | hx
  ·exact hsg x hx
  ·rw [zb.mp hx];exact hd2
 ·obtain ⟨s',sg,dsg,hsl,hsg⟩:=s'
  refine ⟨q,ys,rfl,SqL.of xAae,fun l H2 hl2 s2 e2=>?_⟩;exact k H2 (.ref l) sg (((s1.trans s').up hq).trans s2) (.tup e2 (DTs.same ((Same.new hq).trans s2) dsg)) (by omega) (by omega) hsg
theorem ok_fAa (T:Txt K mg d tk) (gfAw:FnOk P w K mg base CX0 1 d.fAw d.fAwd ["_law_number","_law_roll_here"] (sp_fAw K)) (gfAt:FnOk P w K mg base CX0 2 d.fAt d.fAtd ["_law_number","_law_roll_here"] (sp_fAt K)) (gfAu:FnOk P w K mg base CX0 3 d.fAu d.fAud ["_law_number","_law_roll_here"] (sp_fAu K)) (gfAr:FnOk P w K mg base CX0 1 d.fAr d.fArd ["_law_number"] (sp_fAr K)):FnOk P w K mg base CX0 4 d.fAa d.fAad ["_law_kind","_law_more","_law_roll_here"] (sp_fAa K):=by
 refine T.F_fAa.ok xAit (fun vs H Q E h=>xAtr h) (fun cdv A outer s H vs Q E hr h=>?_);have hu:(A.deeper (envOfC "_law_what_of_marks" (defScope s_fAa) s.heap.objs.size d.fAa cdv)).units<cLine:=hr.units0;refine ⟨_,(@xAab _ _ _ _ _ (@xAap _ _ (3) _ _ _ _ xAit.nd rfl (Or.inl rfl) (@xAam _ _ _ _ _ _ _ _ _ _ _ _ _ _ _ _ gfAt (hr.mono (by decide)) rfl T.m_fAt T.k_fAt T.d_fAt .nil pass0 (@xAaa _ _ _ _ _ (@pe_ix _ _ _ _ _ _ _ xAal (@pq _ 1 _ _ rfl) (@xAac _ _ _ _) (fun _ _=>rfl)) (@xAaa _ _ _ _ _ (@pq _ 2 _ _ rfl) (@xAad _) rfl) rfl) (by decide) rfl rfl) rfl (.inl rfl)) (@xAab _ _ _ _ _ (@xAap _ _ (4) _ _ _ _ xAit.nd rfl (Or.inl rfl) (@xAam _ _ _ _ _ _ _ _ _ _ _ _ _ _ _ _ gfAw (hr.mono (by decide)) rfl T.m_fAw T.k_fAw T.d_fAw .nil pass0 (@xAaa _ _ _ _ _ (@pe_ix _ _ _ _ _ _ _ xAal (@pq _ 1 _ _ rfl) (@xAac _ _ _ _) (fun _ _=>rfl)) (@xAaa _ _ _ _ _ (@pq _ 2 _ _ rfl) (@xAad _) rfl) rfl) (by decide) rfl rfl) rfl (.inl rfl)) (@xAab _ _ _ _ _ (@xAap _ _ (5) _ _ _ _ xAit.nd rfl (Or.inl rfl) (@xAan _ _ _ _ _ (@xAaa _ _ _ _ _ (@xAam _ _ _ _ _ _ _ _ _ _ _ _ _ _ _ _ gfAu (hr.mono (by decide)) rfl T.m_fAu T.k_fAu T.d_fAu .nil pass0 (@xAaa _ _ _ _ _ (@pe_ix _ _ _ _ _ _ _ xAal (@pq _ 1 _ _ rfl) (@xAac _ _ _ _) (fun _ _=>rfl)) (@xAaa _ _ _ _ _ (@pq _ 2 _ _ rfl) (@xAad _) rfl) rfl) (by decide) rfl rfl) (@xAaa _ _ _ _ _ (@xAam _ _ _ _ _ _ _ _ _ _ _ _ _ _ _ _ gfAu (hr.mono (by decide)) rfl T.m_fAu T.k_fAu T.d_fAu .nil pass0 (@xAaa _ _ _ _ _ (@pe_ix _ _ _ _ _ _ _ xAal (@pq _ 1 _ _ rfl) (@xAac _ _ _ _) (fun _ _=>rfl)) (@xAaa _ _ _ _ _ (@pq _ 2 _ _ rfl) (@xAad _) rfl) rfl) (by decide) rfl rfl) (@xAad _) rfl) rfl)) rfl (.inl rfl)) (@xAab _ _ _ _ _ (@ps_if _ _ _ _ _ _ _ _ (@xAao _ _ _ _ _ _ _ _ op_eq (@pq _ 0 _ _ rfl) (@xAac _ _ _ _) (xAau _)) (@xAab _ _ _ _ _ (@xAap _ _ (6) _ _ _ _ xAit.nd rfl (Or.inl rfl) (@pe_ix _ _ _ _ _ _ _ xAby (@xAbd _ _ _ _ (@xAaa _ _ _ _ _ (@xAiw _ _ _) (@xAaa _ _ _ _ _ (@xAam _ _ _ _ _ _ _ _ _ _ _ _ _ _ _ _ gfAr (hr.mono (by decide)) rfl T.m_fAr T.k_fAr T.d_fAr .nil pass0 (@xAaa _ _ _ _ _ (@pe_op _ _ _ _ _ _ _ _ xAba (@pe_ix _ _ _ _ _ _ _ xAal (@pq _ 1 _ _ rfl) (@xAac _ _ _ _) (fun _ _=>rfl)) (@xAac _ _ _ _)) (@xAad _) rfl) (by decide) rfl rfl) (@xAad _) rfl) rfl)) (@xAav _ _ _ _ _ _ _ _ _ xAco rfl T.b_int boot_int (@xAaa _ _ _ _ _ (@xAdh _ _ _ _ _ _ _ _ op_gt (@pe_op _ _ _ _ _ _ _ _ xAay (@pe_ix _ _ _ _ _ _ _ xAal (@pq _ 1 _ _ rfl) (@xAac _ _ _ _) (fun _ _=>rfl)) (@xAac _ _ _ _)) (@xAac _ _ _ _) (xAau _)) (@xAad _) rfl) (by decide) (by decide) rfl rfl) (fun _ _=>rfl)) rfl (.inl rfl)) (@xAaf _ _ _ (@xAar _ _ _ _ (@pe_op _ _ _ _ _ _ _ _ xAdk (@pe_op _ _ _ _ _ _ _ _ xAdk (@xAan _ _ _ _ _ (@xAaa _ _ _ _ _ (@xAaz _ _ _ _) (@xAaa _ _ _ _ _ (@pq _ 3 _ _ rfl) (@xAad _) rfl) rfl)) (@pq _ 5 _ _ rfl)) (@xAan _ _ _ _ _ (@xAaa _ _ _ _ _ (@xAam _ _ _ _ _ _ _ _ _ _ _ _ _ _ _ _ gfAr (hr.mono (by decide)) rfl T.m_fAr T.k_fAr T.d_fAr .nil pass0 (@xAaa _ _ _ _ _ (@pe_ix _ _ _ _ _ _ _ xAal (@pq _ 1 _ _ rfl) (@xAac _ _ _ _) (fun _ _=>rfl)) (@xAad _) rfl) (by decide) rfl rfl) (@xAaa _ _ _ _ _ (@pq _ 6 _ _ rfl) (@xAad _) rfl) rfl)))))) (@xAas _)) (@xAab _ _ _ _ _ (@ps_if _ _ _ _ _ _ _ _ (@xAao _ _ _ _ _ _ _ _ op_eq (@pq _ 0 _ _ rfl) (@xAac _ _ _ _) (xAau _)) (@xAaf _ _ _ (@xAar _ _ _ _ (@pe_op _ _ _ _ _ _ _ _ xAdk (@pe_op _ _ _ _ _ _ _ _ xAdk (@xAan _ _ _ _ _ (@xAaa _ _ _ _ _ (@xAaz _ _ _ _) (@xAaa _ _ _ _ _ (@pq _ 3 _ _ rfl) (@xAad _) rfl) rfl)) (@pq _ 5 _ _ rfl)) (@xAan _ _ _ _ _ (@xAaa _ _ _ _ _ (@xAam _ _ _ _ _ _ _ _ _ _ _ _ _ _ _ _ gfAr (hr.mono (by decide)) rfl T.m_fAr T.k_fAr T.d_fAr .nil pass0 (@xAaa _ _ _ _ _ (@pe_ix _ _ _ _ _ _ _ xAal (@pq _ 1 _ _ rfl) (@xAac _ _ _ _) (fun _ _=>rfl)) (@xAad _) rfl) (by decide) rfl rfl) (@xAad _) rfl))))) (@xAas _)) (@xAab _ _ _ _ _ (@ps_if _ _ _ _ _ _ _ _ (@xAao _ _ _ _ _ _ _ _ op_eq (@pq _ 0 _ _ rfl) (@xAac _ _ _ _) (xAau _)) (@xAaf _ _ _ (@xAar _ _ _ _ (@xAan _ _ _ _ _ (@xAaa _ _ _ _ _ (@xAaz _ _ _ _) (@xAaa _ _ _ _ _ (@pq _ 3 _ _ rfl) (@xAaa _ _ _ _ _ (@pe_ix _ _ _ _ _ _ _ xAby (@xAbd _ _ _ _ (@xAaa _ _ _ _ _ (@xAaz _ _ _ _) (@xAaa _ _ _ _ _ (@xAaz _ _ _ _) (@xAad _) rfl) rfl)) (@pe_op _ _ _ _ _ _ _ _ xAay (@pe_ix _ _ _ _ _ _ _ xAal (@pq _ 1 _ _ rfl) (@xAac _ _ _ _) (fun _ _=>rfl)) (@xAac _ _ _ _)) (fun _ _=>rfl)) (@xAaa _ _ _ _ _ (@pe_ix _ _ _ _ _ _ _ xAby (@xAbd _ _ _ _ (@xAaa _ _ _ _ _ (@xAiw _ _ _) (@xAaa _ _ _ _ _ (@pq _ 4 _ _ rfl) (@xAad _) rfl) rfl)) (@xAav _ _ _ _ _ _ _ _ _ xAco rfl T.b_int boot_int (@xAaa _ _ _ _ _ (@xAdh _ _ _ _ _ _ _ _ op_gt (@pe_op _ _ _ _ _ _ _ _ xAay (@pe_op _ _ _ _ _ _ _ _ xAba (@pe_ix _ _ _ _ _ _ _ xAal (@pq _ 1 _ _ rfl) (@xAac _ _ _ _) (fun _ _=>rfl)) (@xAac _ _ _ _)) (@xAac _ _ _ _)) (@xAac _ _ _ _) (xAau _)) (@xAad _) rfl) (by decide) (by decide) rfl rfl) (fun _ _=>rfl)) (@xAad _) rfl) rfl) rfl) rfl)))) (@xAas _)) (@xAab _ _ _ _ _ (@ps_if _ _ _ _ _ _ _ _ (@xAao _ _ _ _ _ _ _ _ op_eq (@pq _ 0 _ _ rfl) (@xAac _ _ _ _) (xAau _)) (@xAaf _ _ _ (@xAar _ _ _ _ (@xAan _ _ _ _ _ (@xAaa _ _ _ _ _ (@xAaz _ _ _ _) (@xAaa _ _ _ _ _ (@pq _ 3 _ _ rfl) (@xAaa _ _ _ _ _ (@pq _ 4 _ _ rfl) (@xAad _) rfl) rfl) rfl)))) (@xAas _)) (@xAab _ _ _ _ _ (@xAap _ _ (7) _ _ _ _ xAit.nd rfl (Or.inl rfl) (@pe_ix _ _ _ _ _ _ _ xAby (@xAbd _ _ _ _ (@xAaa _ _ _ _ _ (@xAaz _ _ _ _) (@xAaa _ _ _ _ _ (@xAam _ _ _ _ _ _ _ _ _ _ _ _ _ _ _ _ gfAr (hr.mono (by decide)) rfl T.m_fAr T.k_fAr T.d_fAr .nil pass0 (@xAaa _ _ _ _ _ (@pe_op _ _ _ _ _ _ _ _ xAba (@pe_ix _ _ _ _ _ _ _ xAal (@pq _ 1 _ _ rfl) (@xAac _ _ _ _) (fun _ _=>rfl)) (@xAac _ _ _ _)) (@xAad _) rfl) (by decide) rfl rfl) (@xAad _) rfl) rfl)) (@xAav _ _ _ _ _ _ _ _ _ xAco rfl T.b_int boot_int (@xAaa _ _ _ _ _ (@xAdh _ _ _ _ _ _ _ _ op_gt (@pe_op _ _ _ _ _ _ _ _ xAay (@pe_ix _ _ _ _ _ _ _ xAal (@pq _ 1 _ _ rfl) (@xAac _ _ _ _) (fun _ _=>rfl)) (@xAac _ _ _ _)) (@xAac _ _ _ _) (xAau _)) (@xAad _) rfl) (by decide) (by decide) rfl rfl) (fun _ _=>rfl)) rfl (.inl rfl)) (@xAaf _ _ _ (@xAar _ _ _ _ (@xAan _ _ _ _ _ (@xAaa _ _ _ _ _ (@xAaz _ _ _ _) (@xAaa _ _ _ _ _ (@pq _ 3 _ _ rfl) (@xAaa _ _ _ _ _ (@pq _ 4 _ _ rfl) (@xAaa _ _ _ _ _ (@xAam _ _ _ _ _ _ _ _ _ _ _ _ _ _ _ _ gfAw (hr.mono (by decide)) rfl T.m_fAw T.k_fAw T.d_fAw .nil pass0 (@xAaa _ _ _ _ _ (@pe_ix _ _ _ _ _ _ _ xAal (@pq _ 1 _ _ rfl) (@xAac _ _ _ _) (fun _ _=>rfl)) (@xAaa _ _ _ _ _ (@pq _ 2 _ _ rfl) (@xAad _) rfl) rfl) (by decide) rfl rfl) (@xAaa _ _ _ _ _ (@pq _ 7 _ _ rfl) (@xAad _) rfl) rfl) rfl) rfl) rfl)))))))))))),?_⟩;obtain ⟨i,dd,p,ws,ns,rfl,hp,hd,k⟩:=h;obtain ⟨a0,h0⟩:=hd.get 0 (by decide);obtain ⟨a1,h1⟩:=hd.get 1 (by decide);obtain ⟨a2,h2⟩:=hd.get 2 (by decide);obtain ⟨a3,h3⟩:=hd.get 3 (by decide);obtain ⟨a4,h4⟩:=hd.get 4 (by decide);have s:=Same.refl H;refine ⟨_,rfl,dd,_,0,.int a0,rfl,rfl,SqL.of hd.at',h0,_,rfl,_,p,ws,rfl,hp,fun H1 v1 d1 s1 n1 t1=>?_⟩;obtain ⟨pd,rfl,hpd⟩:=t1;replace hp:=hp.mono s1;replace hd:=hd.mono s1;replace s:=s.trans s1;refine ⟨_,rfl,dd,_,1,.int a1,rfl,rfl,SqL.of hd.at',h1,_,rfl,_,p,ws,rfl,hp,fun H2 v2 d2 s2 n2 t2=>?_⟩;obtain ⟨nd,rfl,hnd⟩:=t2;replace hp:=hp.mono s2;replace hd:=hd.mono s2;replace n1:=n1.same s2;replace s:=s.trans s2;refine ⟨_,rfl,dd,_,1,.int a1,rfl,rfl,SqL.of hd.at',h1,_,rfl,_,p,ws,rfl,hp,fun H3 v3 d3 s3 n3 t3=>?_⟩;replace hp:=hp.mono s3;replace hd:=hd.mono s3;replace n1:=n1.same s3;replace n2:=n2.same s3;replace s:=s.trans s3;refine ⟨_,rfl,dd,_,2,.int a2,rfl,rfl,SqL.of hd.at',h2,_,rfl,_,p,ws,rfl,hp,fun H4 v4 d4 s4 n4 t4=>?_⟩;replace hp:=hp.mono s4;replace hd:=hd.mono s4;replace n1:=n1.same s4;replace n2:=n2.same s4;replace n3:=n3.same s4;replace s:=s.trans s4;refine ⟨szOk rfl,fun q5 H5 g5 s5 e5=>?_⟩;replace hp:=hp.mono s5;replace hd:=hd.mono s5;replace n1:=n1.same s5;replace n2:=n2.same s5;replace n3:=n3.same s5;replace n4:=n4.same s5;replace s:=s.trans s5;refine ⟨_,rfl,rfl,_,rfl,?_⟩;refine ite2 (fun _=>?_) fun _=>?_
 ·refine ⟨_,rfl,dd,_,4,.int a4,rfl,rfl,SqL.of hd.at',h4,_,_,rfl,rfl,⟨by decide,by decide⟩,_,rfl,fun z hz=>?_⟩
  refine ⟨szOk rfl,fun q6 H6 g6 s6 e6=>?_⟩;replace hp:=hp.mono s6;replace hd:=hd.mono s6;replace n1:=n1.same s6;replace n2:=n2.same s6;replace n3:=n3.same s6;replace n4:=n4.same s6;replace s:=s.trans s6;replace e5:=s6 _ _ e5;refine ⟨_,rfl,dd,_,4,.int a4,rfl,rfl,SqL.of hd.at',h4,_,_,rfl,rfl,(by show (0:Int)<3;decide),_,_,rfl,rfl,.inr ⟨_,rfl,?_⟩⟩;refine ⟨q6,_,_,rfl,rfl,SqL.of e6,xAkd _,xAff _,fun v hv=>?_⟩
  have hb:∃ b,(∀ H',DT H' v b)/\WnD b:=by
   simp only [List.mem_cons,List.not_mem_nil,or_false] at hv
   rcases hv with rfl | rfl
   ·exact ⟨_,fun _=>.non,.inl rfl⟩
   ·exact ⟨_,fun _=>.str z,.inr ⟨_,rfl,hz⟩⟩
  obtain ⟨b,db,hb⟩:=hb;refine ⟨_,rfl,szOk rfl,fun q7 H7 g7 s7 e7=>?_⟩;replace hp:=hp.mono s7;replace hd:=hd.mono s7;replace n1:=n1.same s7;replace n2:=n2.same s7;replace n3:=n3.same s7;replace n4:=n4.same s7;replace s:=s.trans s7;replace e5:=s7 _ _ e5;refine ⟨_,rfl,q7,q5,_,_,rfl,rfl,SqT.of e7,SqT.of e5,by simp,by simp,szOk rfl,fun q8 H8 g8 s8 e8=>?_⟩;replace hp:=hp.mono s8;replace hd:=hd.mono s8;replace n1:=n1.same s8;replace n2:=n2.same s8;replace n3:=n3.same s8;replace n4:=n4.same s8;replace s:=s.trans s8;refine ⟨_,rfl,dd,_,3,.int a3,rfl,rfl,SqL.of hd.at',h3,_,rfl,fun z2 hz2=>?_⟩;refine ⟨_,rfl,szOk rfl,fun q10 H10 g10 s10 e10=>?_⟩;replace hp:=hp.mono s10;replace hd:=hd.mono s10;replace n1:=n1.same s10;replace n2:=n2.same s10;replace n3:=n3.same s10;replace n4:=n4.same s10;replace s:=s.trans s10;replace e8:=s10 _ _ e8;refine ⟨q8,q10,_,_,rfl,rfl,SqT.of e8,SqT.of e10,by simp,by simp,szOk rfl,fun q9 H9 g9 s9 e9=>?_⟩;exact k H9 _ _ (s.trans s9) (.tup (xs:=[.str "mark",v1,v3,v4,.str z2,v]) e9 (.cons (.str _) (.cons (n1.same s9) (.cons (n3.same s9) (.cons (n4.same s9) (.cons (.str z2) (.cons (db _) .nil))))))) fun num=>.mark _ _ _ _ _ hpd t3 t4 hz2 hb
 refine ⟨_,rfl,rfl,_,rfl,?_⟩;refine ite2 (fun _=>?_) fun _=>?_
 ·refine ⟨_,rfl,szOk rfl,fun q7 H7 g7 s7 e7=>?_⟩
  replace hp:=hp.mono s7;replace hd:=hd.mono s7;replace n1:=n1.same s7;replace n2:=n2.same s7;replace n3:=n3.same s7;replace n4:=n4.same s7;replace s:=s.trans s7;replace e5:=s7 _ _ e5;refine ⟨_,rfl,q7,q5,_,_,rfl,rfl,SqT.of e7,SqT.of e5,by simp,by simp,szOk rfl,fun q8 H8 g8 s8 e8=>?_⟩;replace hp:=hp.mono s8;replace hd:=hd.mono s8;replace n1:=n1.same s8;replace n2:=n2.same s8;replace n3:=n3.same s8;replace n4:=n4.same s8;replace s:=s.trans s8;refine ⟨_,rfl,dd,_,3,.int a3,rfl,rfl,SqL.of hd.at',h3,_,rfl,fun z2 hz2=>?_⟩;refine ⟨szOk rfl,fun q10 H10 g10 s10 e10=>?_⟩;replace hp:=hp.mono s10;replace hd:=hd.mono s10;replace n1:=n1.same s10;replace n2:=n2.same s10;replace n3:=n3.same s10;replace n4:=n4.same s10;replace s:=s.trans s10;replace e8:=s10 _ _ e8;refine ⟨q8,q10,_,_,rfl,rfl,SqT.of e8,SqT.of e10,by simp,by simp,szOk rfl,fun q9 H9 g9 s9 e9=>?_⟩;exact k H9 _ _ (s.trans s9) (.tup (xs:=[.str "note",v1,v3,v4,.str z2]) e9 (.cons (.str _) (.cons (n1.same s9) (.cons (n3.same s9) (.cons (n4.same s9) (.cons (.str z2) .nil)))))) fun num=>.note _ _ _ _ hpd t3 t4 hz2
 refine ⟨_,rfl,rfl,_,rfl,?_⟩;refine ite2 (fun _=>?_) fun _=>?_
 ·refine ⟨_,rfl,szOk rfl,fun q7 H7 g7 s7 e7=>?_⟩
  replace hp:=hp.mono s7;replace hd:=hd.mono s7;replace n1:=n1.same s7;replace n2:=n2.same s7;replace n3:=n3.same s7;replace n4:=n4.same s7;replace s:=s.trans s7;refine ⟨_,rfl,dd,_,2,.int a2,rfl,rfl,SqL.of hd.at',h2,_,_,rfl,rfl,(by show (0:Int)<2;decide),q7,_,_,rfl,rfl,SqL.of e7,xAbk _ (by decide),xAbn _ (by decide),fun v hv=>?_⟩
  obtain ⟨z,rfl,hz⟩:∃ z:Str,v=.str z/\(z = "row" \/ z = "column"):=by
   simp only [List.mem_cons,List.not_mem_nil,or_false] at hv
   rcases hv with rfl | rfl
   ·exact ⟨_,rfl,.inl rfl⟩
   ·exact ⟨_,rfl,.inr rfl⟩
  refine ⟨_,rfl,szOk rfl,fun q8 H8 g8 s8 e8=>?_⟩;replace hp:=hp.mono s8;replace hd:=hd.mono s8;replace n1:=n1.same s8;replace n2:=n2.same s8;replace n3:=n3.same s8;replace n4:=n4.same s8;replace s:=s.trans s8;refine ⟨_,rfl,dd,_,2,.int a2,rfl,rfl,SqL.of hd.at',h2,_,_,rfl,rfl,⟨by decide,by decide⟩,_,_,rfl,rfl,(by show (0:Int)<3;decide),_,_,rfl,rfl,.inr ⟨_,rfl,?_⟩⟩;refine ⟨q8,_,_,rfl,rfl,SqL.of e8,xAkd _,xAff _,fun v2' hv2=>?_⟩
  have hb:∃ b,DT H8 v2' b/\OrD (NameD ws) b:=by
   simp only [List.mem_cons,List.not_mem_nil,or_false] at hv2
   rcases hv2 with rfl | rfl
   ·exact ⟨_,.non,.inl rfl⟩
   ·exact ⟨_,n2,.inr ⟨_,rfl,hnd⟩⟩
  obtain ⟨b,db,hb⟩:=hb;exact ⟨szOk rfl,fun q9 H9 g9 s9 e9=>k H9 _ _ (s.trans s9) (.tup e9 (.cons (.str _) (.cons (n1.same s9) (.cons (.str z) (.cons (db.same s9) .nil))))) fun num=>.line _ _ _ hpd hz hb⟩
 refine ⟨_,rfl,rfl,_,rfl,?_⟩;refine ite2 (fun _=>⟨_,rfl,_,rfl,szOk rfl,fun q9 H9 g9 s9 e9=>k H9 _ _ (s.trans s9) (.tup e9 (.cons (.str _) (.cons (n1.same s9) (.cons (n2.same s9) .nil)))) fun num=>.strike _ _ hpd hnd⟩) fun _=>?_;refine ⟨_,rfl,dd,_,3,.int a3,rfl,rfl,SqL.of hd.at',h3,_,_,rfl,rfl,⟨by decide,by decide⟩,_,rfl,fun z hz=>?_⟩;refine ⟨szOk rfl,fun q6 H6 g6 s6 e6=>?_⟩;replace hp:=hp.mono s6;replace hd:=hd.mono s6;replace n1:=n1.same s6;replace n2:=n2.same s6;replace n3:=n3.same s6;replace n4:=n4.same s6;replace s:=s.trans s6;refine ⟨_,rfl,dd,_,3,.int a3,rfl,rfl,SqL.of hd.at',h3,_,_,rfl,rfl,(by show (0:Int)<3;decide),_,_,rfl,rfl,.inr ⟨_,rfl,?_⟩⟩;refine ⟨q6,_,_,rfl,rfl,SqL.of e6,xAkd _,xAff _,fun v hv=>?_⟩
 obtain ⟨z',rfl,hz'⟩:∃ z':Str,v=.str z'/\(z' = "" \/ IsW z'):=by
  simp only [List.mem_cons,List.not_mem_nil,or_false] at hv
  rcases hv with rfl | rfl
  ·exact ⟨_,rfl,.inl rfl⟩
  ·exact ⟨_,rfl,.inr hz⟩
 refine ⟨_,rfl,_,rfl,_,rfl,dd,_,2,.int a2,rfl,rfl,SqL.of hd.at',h2,_,rfl,_,p,ws,rfl,hp,fun H7 v7 d7 s7 n7 t7=>?_⟩;obtain ⟨nd2,rfl,hnd2⟩:=t7;replace hp:=hp.mono s7;replace hd:=hd.mono s7;replace n1:=n1.same s7;replace n2:=n2.same s7;replace n3:=n3.same s7;replace n4:=n4.same s7;replace s:=s.trans s7;exact ⟨_,rfl,szOk rfl,fun q9 H9 g9 s9 e9=>k H9 _ _ (s.trans s9) (.tup e9 (.cons (.str _) (.cons (n1.same s9) (.cons (n2.same s9) (.cons (n7.same s9) (.cons (.str z') .nil)))))) fun num=>.cell _ _ _ _ hpd hnd hnd2 hz'⟩
theorem ok_fAb (T:Txt K mg d tk) (gfAw:FnOk P w K mg base CX0 1 d.fAw d.fAwd ["_law_number","_law_roll_here"] (sp_fAw K)) (gfAt:FnOk P w K mg base CX0 2 d.fAt d.fAtd ["_law_number","_law_roll_here"] (sp_fAt K)) (gfAg:FnOk P w K mg base CX0 2 d.fAg d.fAgd ["_law_number","_law_roll_here"] (sp_fAg K)) (gfAe:FnOk P w K mg base CX0 3 d.fAe d.fAed ["_law_draws_here","_law_roll_here"] (sp_fAe K)) (gfAk:FnOk P w K mg base CX0 4 d.fAk d.fAkd ["_law_draws_here","_law_roll_here"] (sp_fAk K)):FnOk P w K mg base CX0 5 d.fAb d.fAbd ["_law_kind","_law_more","_law_roll_here"] (sp_fAb K):=by
 refine T.F_fAb.ok xAoh (fun vs H Q E h=>xAtq h) (fun cdv A outer s H vs Q E hr h=>?_);have hu:(A.deeper (envOfC "_law_what_of_signs" (defScope s_fAb) s.heap.objs.size d.fAb cdv)).units<cLine:=hr.units0;refine ⟨_,(@xAab _ _ _ _ _ (@xAap _ _ (3) _ _ _ _ xAoh.nd rfl (Or.inl rfl) (@xAam _ _ _ _ _ _ _ _ _ _ _ _ _ _ _ _ gfAt (hr.mono (by decide)) rfl T.m_fAt T.k_fAt T.d_fAt .nil pass0 (@xAaa _ _ _ _ _ (@pe_ix _ _ _ _ _ _ _ xAal (@pq _ 1 _ _ rfl) (@xAac _ _ _ _) (fun _ _=>rfl)) (@xAaa _ _ _ _ _ (@pq _ 2 _ _ rfl) (@xAad _) rfl) rfl) (by decide) rfl rfl) rfl (.inl rfl)) (@xAab _ _ _ _ _ (@xAap _ _ (4) _ _ _ _ xAoh.nd rfl (Or.inl rfl) (@xAam _ _ _ _ _ _ _ _ _ _ _ _ _ _ _ _ gfAw (hr.mono (by decide)) rfl T.m_fAw T.k_fAw T.d_fAw .nil pass0 (@xAaa _ _ _ _ _ (@pe_ix _ _ _ _ _ _ _ xAal (@pq _ 1 _ _ rfl) (@xAac _ _ _ _) (fun _ _=>rfl)) (@xAaa _ _ _ _ _ (@pq _ 2 _ _ rfl) (@xAad _) rfl) rfl) (by decide) rfl rfl) rfl (.inl rfl)) (@xAab _ _ _ _ _ (@xAap _ _ (5) _ _ _ _ xAoh.nd rfl (Or.inl rfl) (@pe_ix _ _ _ _ _ _ _ xAby (@xAbd _ _ _ _ (@xAaa _ _ _ _ _ (@xAiw _ _ _) (@xAaa _ _ _ _ _ (@xAam _ _ _ _ _ _ _ _ _ _ _ _ _ _ _ _ gfAg (hr.mono (by decide)) rfl T.m_fAg T.k_fAg T.d_fAg .nil pass0 (@xAaa _ _ _ _ _ (@pe_op _ _ _ _ _ _ _ _ xAba (@pe_ix _ _ _ _ _ _ _ xAal (@pq _ 1 _ _ rfl) (@xAac _ _ _ _) (fun _ _=>rfl)) (@xAac _ _ _ _)) (@xAaa _ _ _ _ _ (@pq _ 2 _ _ rfl) (@xAad _) rfl) rfl) (by decide) rfl rfl) (@xAad _) rfl) rfl)) (@xAav _ _ _ _ _ _ _ _ _ xAco rfl T.b_int boot_int (@xAaa _ _ _ _ _ (@xAdh _ _ _ _ _ _ _ _ op_gt (@pe_op _ _ _ _ _ _ _ _ xAay (@pe_ix _ _ _ _ _ _ _ xAal (@pq _ 1 _ _ rfl) (@xAac _ _ _ _) (fun _ _=>rfl)) (@xAac _ _ _ _)) (@xAac _ _ _ _) (xAau _)) (@xAad _) rfl) (by decide) (by decide) rfl rfl) (fun _ _=>rfl)) rfl (.inl rfl)) (@xAab _ _ _ _ _ (@ps_if _ _ _ _ _ _ _ _ (@xAao _ _ _ _ _ _ _ _ op_eq (@pq _ 0 _ _ rfl) (@xAac _ _ _ _) (xAau _)) (@xAaf _ _ _ (@xAar _ _ _ _ (@xAan _ _ _ _ _ (@xAaa _ _ _ _ _ (@xAaz _ _ _ _) (@xAaa _ _ _ _ _ (@pq _ 3 _ _ rfl) (@xAad _) rfl) rfl)))) (@xAas _)) (@xAab _ _ _ _ _ (@ps_if _ _ _ _ _ _ _ _ (@xAao _ _ _ _ _ _ _ _ op_eq (@pq _ 0 _ _ rfl) (@xAac _ _ _ _) (xAau _)) (@xAaf _ _ _ (@xAar _ _ _ _ (@xAan _ _ _ _ _ (@xAaa _ _ _ _ _ (@xAaz _ _ _ _) (@xAaa _ _ _ _ _ (@pq _ 4 _ _ rfl) (@xAaa _ _ _ _ _ (@pq _ 3 _ _ rfl) (@xAad _) rfl) rfl) rfl)))) (@xAas _)) (@xAab _ _ _ _ _ (@ps_if _ _ _ _ _ _ _ _ (@xAao _ _ _ _ _ _ _ _ op_eq (@pq _ 0 _ _ rfl) (@xAac _ _ _ _) (xAau _)) (@xAaf _ _ _ (@xAar _ _ _ _ (@xAan _ _ _ _ _ (@xAaa _ _ _ _ _ (@xAaz _ _ _ _) (@xAaa _ _ _ _ _ (@pq _ 4 _ _ rfl) (@xAad _) rfl) rfl)))) (@xAas _)) (@xAab _ _ _ _ _ (@ps_if _ _ _ _ _ _ _ _ (@xAao _ _ _ _ _ _ _ _ op_eq (@pq _ 0 _ _ rfl) (@xAac _ _ _ _) (xAau _)) (@xAaf _ _ _ (@xAar _ _ _ _ (@xAan _ _ _ _ _ (@xAaa _ _ _ _ _ (@xAaz _ _ _ _) (@xAaa _ _ _ _ _ (@pq _ 3 _ _ rfl) (@xAaa _ _ _ _ _ (@pq _ 5 _ _ rfl) (@xAaa _ _ _ _ _ (@xAam _ _ _ _ _ _ _ _ _ _ _ _ _ _ _ _ gfAk (hr.mono (by decide)) rfl T.m_fAk T.k_fAk T.d_fAk .nil pass0 (@xAaa _ _ _ _ _ (@xAbu _ _ _ _ _ _ _ _ _ _ xAcc (@pq _ 1 _ _ rfl) (@xAcj _ _ _ (@xAac _ _ _ _)) (@xAcy _)) (@xAaa _ _ _ _ _ (@pq _ 2 _ _ rfl) (@xAad _) rfl) rfl) (by decide) rfl rfl) (@xAad _) rfl) rfl) rfl) rfl)))) (@xAas _)) (@xAab _ _ _ _ _ (@ps_if _ _ _ _ _ _ _ _ (@xAao _ _ _ _ _ _ _ _ op_eq (@pq _ 0 _ _ rfl) (@xAac _ _ _ _) (xAau _)) (@xAaf _ _ _ (@xAar _ _ _ _ (@xAan _ _ _ _ _ (@xAaa _ _ _ _ _ (@xAaz _ _ _ _) (@xAaa _ _ _ _ _ (@pq _ 3 _ _ rfl) (@xAaa _ _ _ _ _ (@xAam _ _ _ _ _ _ _ _ _ _ _ _ _ _ _ _ gfAe (hr.mono (by decide)) rfl T.m_fAe T.k_fAe T.d_fAe .nil pass0 (@xAaa _ _ _ _ _ (@xAbu _ _ _ _ _ _ _ _ _ _ xAcc (@pq _ 1 _ _ rfl) (@xAcj _ _ _ (@xAac _ _ _ _)) (@xAcy _)) (@xAaa _ _ _ _ _ (@pq _ 2 _ _ rfl) (@xAad _) rfl) rfl) (by decide) rfl rfl) (@xAad _) rfl) rfl) rfl)))) (@xAas _)) (@xAaf _ _ _ (@xAar _ _ _ _ (@xAan _ _ _ _ _ (@xAaa _ _ _ _ _ (@xAaz _ _ _ _) (@xAad _) rfl)))))))))))),?_⟩;obtain ⟨i,dd,p,ws,ns,rfl,hp,hd,k⟩:=h;obtain ⟨a0,h0⟩:=hd.get 0 (by decide);obtain ⟨a1,h1⟩:=hd.get 1 (by decide);have s:=Same.refl H;refine ⟨_,rfl,dd,_,0,.int a0,rfl,rfl,SqL.of hd.at',h0,_,rfl,_,p,ws,rfl,hp,fun H1 v1 d1 s1 n1 t1=>?_⟩;obtain ⟨pd,rfl,hpd⟩:=t1;replace hp:=hp.mono s1;replace hd:=hd.mono s1;replace s:=s.trans s1;refine ⟨_,rfl,dd,_,1,.int a1,rfl,rfl,SqL.of hd.at',h1,_,rfl,_,p,ws,rfl,hp,fun H2 v2 d2 s2 n2 t2=>?_⟩;obtain ⟨nd,rfl,hnd⟩:=t2;replace hp:=hp.mono s2;replace hd:=hd.mono s2;replace n1:=n1.same s2;replace s:=s.trans s2;refine ⟨_,rfl,dd,_,1,.int a1,rfl,rfl,SqL.of hd.at',h1,_,_,rfl,rfl,⟨by decide,by decide⟩,_,rfl,_,p,ws,rfl,hp,fun H3 v3 d3 s3 n3 t3=>?_⟩;obtain ⟨sd,rfl,hsd⟩:=t3;replace hp:=hp.mono s3;replace hd:=hd.mono s3;replace n1:=n1.same s3;replace n2:=n2.same s3;replace s:=s.trans s3;refine ⟨szOk rfl,fun q4 H4 g4 s4 e4=>?_⟩;replace hp:=hp.mono s4;replace hd:=hd.mono s4;replace n1:=n1.same s4;replace n2:=n2.same s4;replace n3:=n3.same s4;replace s:=s.trans s4;refine ⟨_,rfl,dd,_,1,.int a1,rfl,rfl,SqL.of hd.at',h1,_,_,rfl,rfl,(by show (0:Int)<3;decide),_,_,rfl,rfl,.inr ⟨_,rfl,?_⟩⟩;refine ⟨q4,_,_,rfl,rfl,SqL.of e4,xAkd _,xAff _,fun v hv=>?_⟩
 have hb:∃ b,DT H4 v b/\OrD (SnD ws) b:=by
  simp only [List.mem_cons,List.not_mem_nil,or_false] at hv
  rcases hv with rfl | rfl
  ·exact ⟨_,.non,.inl rfl⟩
  ·exact ⟨_,n3,.inr ⟨_,rfl,hsd⟩⟩
 obtain ⟨b,db,hb⟩:=hb;refine ⟨_,rfl,rfl,_,rfl,?_⟩;refine ite2 (fun _=>⟨_,rfl,szOk rfl,fun q9 H9 g9 s9 e9=>k H9 _ _ (s.trans s9) (.tup e9 (.cons (.str _) (.cons (n1.same s9) .nil))) fun num=>.part _ hpd⟩) fun _=>?_;refine ⟨_,rfl,rfl,_,rfl,?_⟩;refine ite2 (fun _=>⟨_,rfl,_,rfl,szOk rfl,fun q9 H9 g9 s9 e9=>k H9 _ _ (s.trans s9) (.tup e9 (.cons (.str _) (.cons (n2.same s9) (.cons (n1.same s9) .nil)))) fun num=>.move _ _ hnd hpd⟩) fun _=>?_;refine ⟨_,rfl,rfl,_,rfl,?_⟩;refine ite2 (fun _=>⟨_,rfl,szOk rfl,fun q9 H9 g9 s9 e9=>k H9 _ _ (s.trans s9) (.tup e9 (.cons (.str _) (.cons (n2.same s9) .nil))) fun num=>.cut _ hnd⟩) fun _=>?_;refine ⟨_,rfl,rfl,_,rfl,?_⟩;refine ite2 (fun _=>?_) fun _=>?_
 ·refine ⟨_,rfl,_,rfl,_,rfl,_,rfl,dd,_,rfl,SqL.of hd.at',fun q5 H5 g5 s5 e5=>?_⟩
  refine ⟨_,rfl,q5,p,ws,_,rfl,hp.mono s5,⟨(hd.from 2 (by decide) e5).at',by have:=(hd.from 2 (by decide) e5).len;omega,(hd.from 2 (by decide) e5).few⟩,fun H6 v6 sg s6 d6 l1 l2 hsg=>?_⟩;refine ⟨szOk rfl,fun q9 H9 g9 s9 e9=>?_⟩;have t9:=(s5.trans s6).trans s9;exact k H9 _ _ (s.trans t9) (.tup e9 (.cons (.str _) (.cons (n1.same t9) (.cons (db.same t9) (.cons (d6.same s9) .nil))))) fun num=>.put _ _ _ hpd hb l1 l2 hsg
 refine ⟨_,rfl,rfl,_,rfl,?_⟩;refine ite2 (fun _=>?_) fun _=>?_
 ·refine ⟨_,rfl,_,rfl,_,rfl,dd,_,rfl,SqL.of hd.at',fun q5 H5 g5 s5 e5=>?_⟩
  refine ⟨_,rfl,q5,p,ws,_,rfl,hp.mono s5,⟨(hd.from 1 (by decide) e5).at',by have:=(hd.from 1 (by decide) e5).len;omega,(hd.from 1 (by decide) e5).few⟩,fun H6 v6 nn s6 d6 l1 l2 hnn hnd2=>?_⟩;refine ⟨szOk rfl,fun q9 H9 g9 s9 e9=>?_⟩;have t9:=(s5.trans s6).trans s9;exact k H9 _ _ (s.trans t9) (.tup e9 (.cons (.str _) (.cons (n1.same t9) (.cons (d6.same s9) .nil)))) fun num=>.out _ _ hpd l1 l2 hnn hnd2
 ·exact ⟨szOk rfl,fun q9 H9 g9 s9 e9=>k H9 _ _ (s.trans s9) (.tup e9 (.cons (.str _) .nil)) fun num=>.nothing⟩
theorem ok_fAs (T:Txt K mg d tk) (gfAt:FnOk P w K mg base CX0 2 d.fAt d.fAtd ["_law_number","_law_roll_here"] (sp_fAt K)) (gfAa:FnOk P w K mg base CX0 4 d.fAa d.fAad ["_law_kind","_law_more","_law_roll_here"] (sp_fAa K)) (gfAb:FnOk P w K mg base CX0 5 d.fAb d.fAbd ["_law_kind","_law_more","_law_roll_here"] (sp_fAb K)) (gfAr:FnOk P w K mg base CX0 1 d.fAr d.fArd ["_law_number"] (sp_fAr K)):FnOk P w K mg base CX0 6 d.fAs d.fAsd ["_law_draws_here","_law_roll_here","_law_number"] (sp_fAs K):=by
 refine T.F_fAs.ok xAoi (fun vs H Q E h=>xAts h) (fun cdv A outer s H vs Q E hr h=>?_);have hu:(A.deeper (envOfC "_law_what" (defScope s_fAs) s.heap.objs.size d.fAs cdv)).units<cLine:=hr.units0;refine ⟨_,(@xAab _ _ _ _ _ (@xAap _ _ (3) _ _ _ _ xAoi.nd rfl (Or.inl rfl) (@pe_op _ _ _ _ _ _ _ _ xAay (@pe_ix _ _ _ _ _ _ _ xAal (@pq _ 0 _ _ rfl) (@xAac _ _ _ _) (fun _ _=>rfl)) (@xAac _ _ _ _)) rfl (.inl rfl)) (@xAab _ _ _ _ _ (@xAap _ _ (4) _ _ _ _ xAoi.nd rfl (Or.inl rfl) (@xAbu _ _ _ _ _ _ _ _ _ _ xAcc (@pq _ 0 _ _ rfl) (@xAcj _ _ _ (@xAac _ _ _ _)) (@xAcy _)) rfl (.inl rfl)) (@xAab _ _ _ _ _ (@ps_if _ _ _ _ _ _ _ _ (@xAao _ _ _ _ _ _ _ _ op_lt (@pq _ 3 _ _ rfl) (@xAac _ _ _ _) (xAau _)) (@xAaf _ _ _ (@xAar _ _ _ _ (@xAam _ _ _ _ _ _ _ _ _ _ _ _ _ _ _ _ gfAb (hr.mono (by decide)) rfl T.m_fAb T.k_fAb T.d_fAb .nil pass0 (@xAaa _ _ _ _ _ (@pq _ 3 _ _ rfl) (@xAaa _ _ _ _ _ (@pq _ 4 _ _ rfl) (@xAaa _ _ _ _ _ (@pq _ 1 _ _ rfl) (@xAad _) rfl) rfl) rfl) (by decide) rfl rfl))) (@xAas _)) (@xAab _ _ _ _ _ (@ps_if _ _ _ _ _ _ _ _ (@xAao _ _ _ _ _ _ _ _ op_lt (@pq _ 3 _ _ rfl) (@xAac _ _ _ _) (xAau _)) (@xAaf _ _ _ (@xAar _ _ _ _ (@xAam _ _ _ _ _ _ _ _ _ _ _ _ _ _ _ _ gfAa (hr.mono (by decide)) rfl T.m_fAa T.k_fAa T.d_fAa .nil pass0 (@xAaa _ _ _ _ _ (@pq _ 3 _ _ rfl) (@xAaa _ _ _ _ _ (@pq _ 4 _ _ rfl) (@xAaa _ _ _ _ _ (@pq _ 1 _ _ rfl) (@xAad _) rfl) rfl) rfl) (by decide) rfl rfl))) (@xAas _)) (@xAab _ _ _ _ _ (@ps_if _ _ _ _ _ _ _ _ (@xAao _ _ _ _ _ _ _ _ op_eq (@pq _ 3 _ _ rfl) (@xAac _ _ _ _) (xAau _)) (@xAab _ _ _ _ _ (@xAap _ _ (5) _ _ _ _ xAoi.nd rfl (Or.inl rfl) (@pe_ix _ _ _ _ _ _ _ xAby (@xAbd _ _ _ _ (@xAaa _ _ _ _ _ (@xAaz _ _ _ _) (@xAaa _ _ _ _ _ (@xAaz _ _ _ _) (@xAaa _ _ _ _ _ (@xAaz _ _ _ _) (@xAaa _ _ _ _ _ (@xAaz _ _ _ _) (@xAad _) rfl) rfl) rfl) rfl)) (@pe_op _ _ _ _ _ _ _ _ xAay (@pe_ix _ _ _ _ _ _ _ xAal (@pq _ 4 _ _ rfl) (@xAac _ _ _ _) (fun _ _=>rfl)) (@xAac _ _ _ _)) (fun _ _=>rfl)) rfl (.inl rfl)) (@xAaf _ _ _ (@xAar _ _ _ _ (@xAan _ _ _ _ _ (@xAaa _ _ _ _ _ (@xAaz _ _ _ _) (@xAaa _ _ _ _ _ (@xAam _ _ _ _ _ _ _ _ _ _ _ _ _ _ _ _ gfAt (hr.mono (by decide)) rfl T.m_fAt T.k_fAt T.d_fAt .nil pass0 (@xAaa _ _ _ _ _ (@pe_ix _ _ _ _ _ _ _ xAal (@pq _ 4 _ _ rfl) (@xAac _ _ _ _) (fun _ _=>rfl)) (@xAaa _ _ _ _ _ (@pq _ 1 _ _ rfl) (@xAad _) rfl) rfl) (by decide) rfl rfl) (@xAaa _ _ _ _ _ (@pe_ix _ _ _ _ _ _ _ xAby (@pq _ 1 _ _ rfl) (@pe_op _ _ _ _ _ _ _ _ xAay (@pe_ix _ _ _ _ _ _ _ xAal (@pq _ 4 _ _ rfl) (@xAac _ _ _ _) (fun _ _=>rfl)) (@xAbb _ _ _ _ _ _ _ _ _ xAbc rfl T.b_len boot_len (@xAaa _ _ _ _ _ (@pq _ 1 _ _ rfl) (@xAad _) rfl) (by decide) (by decide) rfl rfl)) (fun _ _=>rfl)) (@xAaa _ _ _ _ _ (@pq _ 5 _ _ rfl) (@xAaa _ _ _ _ _ (@xAdh _ _ _ _ _ _ _ _ op_eq (@pe_op _ _ _ _ _ _ _ _ xAay (@pe_ix _ _ _ _ _ _ _ xAal (@pq _ 4 _ _ rfl) (@xAac _ _ _ _) (fun _ _=>rfl)) (@xAac _ _ _ _)) (@xAac _ _ _ _) (xAau _)) (@xAad _) rfl) rfl) rfl) rfl) rfl))))) (@xAas _)) (@xAab _ _ _ _ _ (@ps_if _ _ _ _ _ _ _ _ (@PW.pt _ _ _ (@xAsc _ _ _ _ _ _ _ (@xAao _ _ _ _ _ _ _ _ op_lt (@pq _ 3 _ _ rfl) (@xAac _ _ _ _) (xAau _)) (@xAoj _ _ _ _ (@xAao _ _ _ _ _ _ _ _ op_gt (@pq _ 2 _ _ rfl) (@xAac _ _ _ _) (xAau _))))) (@xAaf _ _ _ (@xAar _ _ _ _ (@xAan _ _ _ _ _ (@xAaa _ _ _ _ _ (@pe_ix _ _ _ _ _ _ _ xAby (@xAbd _ _ _ _ (@xAaa _ _ _ _ _ (@xAaz _ _ _ _) (@xAaa _ _ _ _ _ (@xAaz _ _ _ _) (@xAad _) rfl) rfl)) (@pe_op _ _ _ _ _ _ _ _ xAmd (@pq _ 3 _ _ rfl) (@xAac _ _ _ _)) (fun _ _=>rfl)) (@xAaa _ _ _ _ _ (@pe_op _ _ _ _ _ _ _ _ xAbt (@xAac _ _ _ _) (@pe_op _ _ _ _ _ _ _ _ xAay (@pe_ix _ _ _ _ _ _ _ xAal (@pq _ 4 _ _ rfl) (@xAac _ _ _ _) (fun _ _=>rfl)) (@pe_op _ _ _ _ _ _ _ _ xAmd (@pq _ 2 _ _ rfl) (@xAac _ _ _ _)))) (@xAad _) rfl) rfl)))) (@xAas _)) (@xAab _ _ _ _ _ (@ps_if _ _ _ _ _ _ _ _ (@PW.pt _ _ _ (@pw_or _ _ _ _ _ _ _ (@xAao _ _ _ _ _ _ _ _ op_eq (@pq _ 3 _ _ rfl) (@xAac _ _ _ _) (xAau _)) (@xAsb _ _ _ _ (@xAao _ _ _ _ _ _ _ _ op_eq (@pq _ 3 _ _ rfl) (@xAac _ _ _ _) (xAau _))))) (@xAaf _ _ _ (@xAar _ _ _ _ (@xAan _ _ _ _ _ (@xAaa _ _ _ _ _ (@pe_ix _ _ _ _ _ _ _ xAby (@xAbd _ _ _ _ (@xAaa _ _ _ _ _ (@xAaz _ _ _ _) (@xAaa _ _ _ _ _ (@xAaz _ _ _ _) (@xAad _) rfl) rfl)) (@pe_op _ _ _ _ _ _ _ _ xAmd (@pq _ 3 _ _ rfl) (@xAac _ _ _ _)) (fun _ _=>rfl)) (@xAaa _ _ _ _ _ (@xAam _ _ _ _ _ _ _ _ _ _ _ _ _ _ _ _ gfAr (hr.mono (by decide)) rfl T.m_fAr T.k_fAr T.d_fAr .nil pass0 (@xAaa _ _ _ _ _ (@pe_ix _ _ _ _ _ _ _ xAal (@pq _ 4 _ _ rfl) (@xAac _ _ _ _) (fun _ _=>rfl)) (@xAad _) rfl) (by decide) rfl rfl) (@xAad _) rfl) rfl)))) (@xAas _)) (@xAab _ _ _ _ _ (@ps_if _ _ _ _ _ _ _ _ (@xAao _ _ _ _ _ _ _ _ op_eq (@pq _ 3 _ _ rfl) (@xAac _ _ _ _) (xAau _)) (@xAaf _ _ _ (@xAar _ _ _ _ (@xAan _ _ _ _ _ (@xAaa _ _ _ _ _ (@xAaz _ _ _ _) (@xAaa _ _ _ _ _ (@xAav _ _ _ _ _ _ _ _ _ xAdc rfl T.b_tuple boot_tuple (@xAaa _ _ _ _ _ (@xAbp _ _ _ _ _ _ _ (["_law_one"]) ([]) _ _ _ _ _ rfl (@xAbj _ _ _ _ (@xAbu _ _ _ _ _ _ _ _ _ _ xAcc (@pq _ 4 _ _ rfl) (@xAcy _) (@xAcj _ _ _ (@xAbb _ _ _ _ _ _ _ _ _ xAbc rfl T.b_len boot_len (@xAaa _ _ _ _ _ (@pq _ 1 _ _ rfl) (@xAad _) rfl) (by decide) (by decide) rfl rfl)))) ⟨rfl,by decide +kernel,by decide +kernel⟩ (caps0 (by decide +kernel)) (fun _ _ _=>(@xAaq _ _ (0) _ (by show List.Nodup (["_law_one"]:List Str);decide +kernel) rfl (Or.inl rfl) (.inr rfl))) (fun _=>xAbg rfl) (fun _ _ _=>(@xAcz _)) (fun _ _ _=>(@pe_op _ _ _ _ _ _ _ _ xAay (@pq _ 0 _ _ rfl) (@pe_ix _ _ _ _ _ _ _ (xAsv (K:=K) rfl) (@xAbd _ _ _ _ (@xAaa _ _ _ _ _ (@xAac _ _ _ _) (@xAaa _ _ _ _ _ (@pe_op _ _ _ _ _ _ _ _ xAbt (@pe_op _ _ _ _ _ _ _ _ xAie (@xAac _ _ _ _) (@xAac _ _ _ _)) (@xAac _ _ _ _)) (@xAad _) rfl) rfl)) (@pe_op _ _ _ _ _ _ _ _ xAay (@pe_op _ _ _ _ _ _ _ _ xAba (@pq _ 0 _ _ rfl) (@xAac _ _ _ _)) (@xAac _ _ _ _)) (fun _ _=>rfl)))) (by intro _;rfl)) (@xAad _) rfl) (by decide) (by decide) rfl rfl) (@xAad _) rfl) rfl)))) (@xAas _)) (@xAaf _ _ _ (@xAar _ _ _ _ (@xAan _ _ _ _ _ (@xAaa _ _ _ _ _ (@xAaz _ _ _ _) (@xAad _) rfl)))))))))))),?_⟩;obtain ⟨d0,p,ws,ns0,num,rfl,hp,hd0,k⟩:=h;obtain ⟨b0,g0⟩:=hd0.get 0 (by decide);refine ⟨_,rfl,d0,_,0,.int b0,rfl,rfl,SqL.of hd0.at',g0,_,_,rfl,rfl,(by show (0:Int)<17;decide),?_⟩;refine ⟨_,rfl,_,rfl,d0,_,rfl,SqL.of hd0.at',fun dd H1 g1 s e1=>?_⟩;replace hp:=hp.mono s;have hd:=hd0.from 1 (by decide) e1;have hd6:DR H1 dd (ns0.drop 1) 6:=⟨hd.at',by have:=hd.len;omega,hd.few⟩;obtain ⟨a0,h0⟩:=hd.get 0 (by decide);obtain ⟨a1,h1⟩:=hd.get 1 (by decide);obtain ⟨a2,h2⟩:=hd.get 2 (by decide);obtain ⟨a3,h3⟩:=hd.get 3 (by decide);refine ⟨_,rfl,_,_,rfl,rfl,_,rfl,?_⟩;refine ite2 (fun _=>?_) fun c1=>?_
 ·exact ⟨_,rfl,_,rfl,_,rfl,_,dd,p,ws,_,rfl,hp,hd6,fun H9 v9 w9 s9 d9 h9=>k H9 _ _ (s.trans s9) d9 (h9 _)⟩
 refine ⟨_,rfl,_,_,rfl,rfl,_,rfl,?_⟩;refine ite2 (fun _=>?_) fun c2=>?_
 ·exact ⟨_,rfl,_,rfl,_,rfl,_,dd,p,ws,_,rfl,hp,hd6,fun H9 v9 w9 s9 d9 h9=>k H9 _ _ (s.trans s9) d9 (h9 _)⟩
 refine ⟨_,rfl,rfl,_,rfl,?_⟩;refine ite2 (fun _=>?_) fun c3=>?_
 ·refine ⟨szOk rfl,fun q2 H2 g2 s2 e2=>?_⟩
  replace hp:=hp.mono s2;replace hd:=hd.mono s2;replace s:=s.trans s2;refine ⟨_,rfl,dd,_,2,.int a2,rfl,rfl,SqL.of hd.at',h2,_,_,rfl,rfl,(by show (0:Int)<4;decide),q2,_,_,rfl,rfl,SqL.of e2,xAbk _ (by decide),xAbn _ (by decide),fun v hv=>?_⟩
  obtain ⟨z,rfl,hz⟩:∃ z:Str,v=.str z/\z∈(["read","note","write","give"]:List Str):=by
   obtain ⟨z,hz,rfl⟩:=qk.mp (show v∈(["read","note","write","give"]:List Str).map V.str from hv);exact ⟨z,rfl,hz⟩
  refine ⟨_,rfl,dd,_,0,.int a0,rfl,rfl,SqL.of hd.at',h0,_,rfl,_,p,ws,rfl,hp,fun H3 v3 d3 s3 n3 t3=>?_⟩;obtain ⟨pd,rfl,hpd⟩:=t3;replace hp:=hp.mono s3;replace hd:=hd.mono s3;replace s:=s.trans s3;refine ⟨_,rfl,_,rfl,dd,_,1,.int a1,rfl,rfl,SqL.of hd.at',h1,_,rfl,p,_,rfl,.inl (SqL.of hp.at'),_,_,rfl,rfl,hp.len.1,p,_,_,rfl,rfl,SqL.of hp.at',xAbk _ hp.len.1,xAbn _ hp.len.1,fun v2 hv2=>?_⟩;obtain ⟨w,hw,rfl⟩:=qk.mp hv2;exact ⟨_,rfl,_,rfl,dd,_,3,.int a3,rfl,rfl,SqL.of hd.at',h3,_,_,rfl,rfl,(by show (0:Int)<2;decide),rfl,szOk rfl,fun q9 H9 g9 s9 e9=>k H9 _ _ (s.trans s9) (.tup e9 (.cons (.str _) (.cons (n3.same s9) (.cons (.str w) (.cons (.str z) (.cons (.bl _) .nil)))))) (.leave _ _ _ _ hpd hw hz)⟩
 have hk:(0:Int)≤b0 % 17/\b0 % 17<17:=⟨xAbk _ (by decide),xAbn _ (by decide)⟩;have c2:¬ b0 % 17<11:=fun z=>c2 (decide_eq_true z)
 have c3:¬ b0 % 17=11:=fun z=>c3 (by rw [decide_eq_true_eq];exact congrArg V.int z)
 refine ⟨_,rfl,_,_,rfl,rfl,_,rfl,?_⟩;refine ite2 (fun c4=>?_) fun c4=>iteF ?_
 ·have c4:b0 % 17<14:=of_decide_eq_true c4
  refine ⟨_,rfl,_,_,rfl,rfl,_,rfl,?_⟩;refine ite2 (fun c5=>?_) fun c5=>?_
  ·have c5:1<num:=of_decide_eq_true c5
   refine ⟨szOk rfl,fun q2 H2 g2 s2 e2=>?_⟩;replace hp:=hp.mono s2;replace hd:=hd.mono s2;replace s:=s.trans s2;refine ⟨_,rfl,_,_,rfl,rfl,q2,_,_,rfl,rfl,SqL.of e2,(by show 0≤b0 % 17 - 12;omega),(by show b0 % 17 - 12<2;omega),fun v hv=>?_⟩
   obtain ⟨kk,rfl,hkk⟩:∃ z:Str,v=.str z/\(z = "back" \/ z = "again"):=by
    simp only [List.mem_cons,List.not_mem_nil,or_false] at hv
    rcases hv with rfl | rfl
    ·exact ⟨_,rfl,.inl rfl⟩
    ·exact ⟨_,rfl,.inr rfl⟩
   have lo:=xAbk a0 (m:=num - 1) (by omega);have hi:=xAbn a0 (m:=num - 1) (by omega);exact ⟨_,rfl,dd,_,0,.int a0,rfl,rfl,SqL.of hd.at',h0,_,rfl,_,_,rfl,rfl,_,_,rfl,rfl,(by show 0<num - 1;omega),_,_,rfl,rfl,szOk rfl,fun q9 H9 g9 s9 e9=>k H9 _ _ (s.trans s9) (.tup e9 (.cons (.str _) (.cons (.int _) .nil))) (.back _ _ hkk (by show 1≤1+a0 % (num - 1);omega) (by show 1+a0 % (num - 1)<num;omega))⟩
  ·refine ⟨_,rfl,rfl,_,rfl,?_⟩
   refine ite2 (fun c6=>?_) fun c6=>?_
   ·have c6:b0 % 17=14:=V.int.inj (of_decide_eq_true c6)
    refine iteT ?_;refine ⟨szOk rfl,fun q2 H2 g2 s2 e2=>?_⟩;replace hp:=hp.mono s2;replace hd:=hd.mono s2;replace s:=s.trans s2;refine ⟨_,rfl,_,_,rfl,rfl,q2,_,_,rfl,rfl,SqL.of e2,(by show 0≤b0 % 17 - 14;omega),(by show b0 % 17 - 14<2;omega),fun v hv=>?_⟩
    obtain ⟨kk,rfl,hkk⟩:∃ z:Str,v=.str z/\(z = "bring" \/ z = "drop"):=by
     simp only [List.mem_cons,List.not_mem_nil,or_false] at hv
     rcases hv with rfl | rfl
     ·exact ⟨_,rfl,.inl rfl⟩
     ·exact ⟨_,rfl,.inr rfl⟩
    exact ⟨_,rfl,dd,_,0,.int a0,rfl,rfl,SqL.of hd.at',h0,_,rfl,fun z hz=>⟨szOk rfl,fun q9 H9 g9 s9 e9=>k H9 _ _ (s.trans s9) (.tup e9 (.cons (.str _) (.cons (.str z) .nil))) (.bring _ _ hkk hz)⟩⟩
   ·refine ⟨_,rfl,rfl,_,rfl,?_⟩
    refine ite2 (fun c7=>?_) fun c7=>?_
    ·have c7:b0 % 17=15:=V.int.inj (of_decide_eq_true c7)
     refine ⟨szOk rfl,fun q2 H2 g2 s2 e2=>?_⟩;replace hp:=hp.mono s2;replace hd:=hd.mono s2;replace s:=s.trans s2;refine ⟨_,rfl,_,_,rfl,rfl,q2,_,_,rfl,rfl,SqL.of e2,(by show 0≤b0 % 17 - 14;omega),(by show b0 % 17 - 14<2;omega),fun v hv=>?_⟩
     obtain ⟨kk,rfl,hkk⟩:∃ z:Str,v=.str z/\(z = "bring" \/ z = "drop"):=by
      simp only [List.mem_cons,List.not_mem_nil,or_false] at hv
      rcases hv with rfl | rfl
      ·exact ⟨_,rfl,.inl rfl⟩
      ·exact ⟨_,rfl,.inr rfl⟩
     exact ⟨_,rfl,dd,_,0,.int a0,rfl,rfl,SqL.of hd.at',h0,_,rfl,fun z hz=>⟨szOk rfl,fun q9 H9 g9 s9 e9=>k H9 _ _ (s.trans s9) (.tup e9 (.cons (.str _) (.cons (.str z) .nil))) (.bring _ _ hkk hz)⟩⟩
    ·refine ⟨_,rfl,rfl,_,rfl,?_⟩
     refine ite2 (fun _=>?_) fun _=>?_
     ·refine ⟨_,rfl,_,rfl,p,_,rfl,.inl (SqL.of hp.at'),_,rfl,dd,_,rfl,SqL.of hd.at',fun q3 H3 g3 s3 e3=>?_⟩
      have hcut:(cutV (List.map V.int (ns0.drop 1)) none (some ((ws.map V.str).length:Int))).length=ws.length:=by
       rw [xAhc (by have:=hd.len;have:=hp.few;rw [qg,qg];omega),qg]
      have h6:=hp.few;refine ⟨q3,rfl,⟨_,SqL.of e3⟩,xAjr (zf (xAak (by omega))) (fun j ys H'=>Same H3 H'/\∃ cs:List Int,ys=cs.map V.int/\cs.length=j/\∀ c∈cs,0≤c/\c≤1000000) ⟨Same.refl _,[],rfl,rfl,fun _ z=>nomatch z⟩ (fun _ _ H' s'=>SqL.of (s'.1 _ _ e3)) (fun j x ys H' K1 K0 hx s' k1 k0=>?_) fun H' q ys s' hy hq=>?_⟩
      ·obtain ⟨m,rfl⟩:=xAfg (qo hx)
       obtain ⟨s',cs,rfl,hcl,hcs⟩:=s';refine iteT (B:=K0 H') ?_;refine ⟨_,rfl,_,_,rfl,rfl,⟨by decide,by decide,by decide⟩,_,_,rfl,rfl,szOk rfl,fun q4 H4 g4 s4 e4=>?_⟩;refine ⟨_,rfl,_,_,rfl,rfl,⟨by decide,by decide⟩,_,_,rfl,rfl,(by show (0:Int)<2;decide),q4,_,_,rfl,rfl,SqL.of e4,xAbk _ (by decide),xAbn _ (by decide),fun m2 hm2=>?_⟩
       obtain ⟨n,rfl,hn,hn2⟩:∃ n,m2=V.int n/\0<n/\n≤1000001:=by
        simp only [List.mem_cons,List.not_mem_nil,or_false] at hm2
        rcases hm2 with rfl | rfl
        ·exact ⟨9,rfl,by decide,by decide⟩
        ·exact ⟨_,rfl,by decide,by decide⟩
       refine ⟨_,_,rfl,rfl,hn,k1 _ H4 ⟨s'.trans s4,cs++[m % n],by rw [z7];rfl,by rw [qv,zk,hcl],fun c hc=>?_⟩⟩;rcases zj.mp hc with hc | hc
       ·exact hcs c hc
       ·rw [zb.mp hc]
        exact ⟨xAbk _ hn,by have:=xAbn m hn;omega⟩
      ·obtain ⟨s',cs,rfl,hcl,hcs⟩:=s'
       exact ⟨q,_,rfl,SqL.of xAae,fun l H5 g5 s5 e5=>⟨szOk rfl,fun q9 H9 g9 s9 e9=>k H9 _ _ ((s.trans (((s3.trans s').up hq).trans s5)).trans s9) (.tup e9 (.cons (.str _) (.cons (.tup (s9 _ _ e5) (L2.dts_ints _ cs)) .nil))) (.pour cs (by omega) hcs)⟩⟩
     ·exact ⟨szOk rfl,fun q9 H9 g9 s9 e9=>k H9 _ _ (s.trans s9) (.tup e9 (.cons (.str _) .nil)) .nothing⟩
 ·refine ⟨_,rfl,rfl,_,rfl,?_⟩
  refine ite2 (fun c6=>?_) fun c6=>?_
  ·have c6:b0 % 17=14:=V.int.inj (of_decide_eq_true c6)
   refine iteT ?_;refine ⟨szOk rfl,fun q2 H2 g2 s2 e2=>?_⟩;replace hp:=hp.mono s2;replace hd:=hd.mono s2;replace s:=s.trans s2;refine ⟨_,rfl,_,_,rfl,rfl,q2,_,_,rfl,rfl,SqL.of e2,(by show 0≤b0 % 17 - 14;omega),(by show b0 % 17 - 14<2;omega),fun v hv=>?_⟩
   obtain ⟨kk,rfl,hkk⟩:∃ z:Str,v=.str z/\(z = "bring" \/ z = "drop"):=by
    simp only [List.mem_cons,List.not_mem_nil,or_false] at hv
    rcases hv with rfl | rfl
    ·exact ⟨_,rfl,.inl rfl⟩
    ·exact ⟨_,rfl,.inr rfl⟩
   exact ⟨_,rfl,dd,_,0,.int a0,rfl,rfl,SqL.of hd.at',h0,_,rfl,fun z hz=>⟨szOk rfl,fun q9 H9 g9 s9 e9=>k H9 _ _ (s.trans s9) (.tup e9 (.cons (.str _) (.cons (.str z) .nil))) (.bring _ _ hkk hz)⟩⟩
  ·refine ⟨_,rfl,rfl,_,rfl,?_⟩
   refine ite2 (fun c7=>?_) fun c7=>?_
   ·have c7:b0 % 17=15:=V.int.inj (of_decide_eq_true c7)
    refine ⟨szOk rfl,fun q2 H2 g2 s2 e2=>?_⟩;replace hp:=hp.mono s2;replace hd:=hd.mono s2;replace s:=s.trans s2;refine ⟨_,rfl,_,_,rfl,rfl,q2,_,_,rfl,rfl,SqL.of e2,(by show 0≤b0 % 17 - 14;omega),(by show b0 % 17 - 14<2;omega),fun v hv=>?_⟩
    obtain ⟨kk,rfl,hkk⟩:∃ z:Str,v=.str z/\(z = "bring" \/ z = "drop"):=by
     simp only [List.mem_cons,List.not_mem_nil,or_false] at hv
     rcases hv with rfl | rfl
     ·exact ⟨_,rfl,.inl rfl⟩
     ·exact ⟨_,rfl,.inr rfl⟩
    exact ⟨_,rfl,dd,_,0,.int a0,rfl,rfl,SqL.of hd.at',h0,_,rfl,fun z hz=>⟨szOk rfl,fun q9 H9 g9 s9 e9=>k H9 _ _ (s.trans s9) (.tup e9 (.cons (.str _) (.cons (.str z) .nil))) (.bring _ _ hkk hz)⟩⟩
   ·refine ⟨_,rfl,rfl,_,rfl,?_⟩
    refine ite2 (fun _=>?_) fun _=>?_
    ·refine ⟨_,rfl,_,rfl,p,_,rfl,.inl (SqL.of hp.at'),_,rfl,dd,_,rfl,SqL.of hd.at',fun q3 H3 g3 s3 e3=>?_⟩
     have hcut:(cutV (List.map V.int (ns0.drop 1)) none (some ((ws.map V.str).length:Int))).length=ws.length:=by
      rw [xAhc (by have:=hd.len;have:=hp.few;rw [qg,qg];omega),qg]
     have h6:=hp.few;refine ⟨q3,rfl,⟨_,SqL.of e3⟩,xAjr (zf (xAak (by omega))) (fun j ys H'=>Same H3 H'/\∃ cs:List Int,ys=cs.map V.int/\cs.length=j/\∀ c∈cs,0≤c/\c≤1000000) ⟨Same.refl _,[],rfl,rfl,fun _ z=>nomatch z⟩ (fun _ _ H' s'=>SqL.of (s'.1 _ _ e3)) (fun j x ys H' K1 K0 hx s' k1 k0=>?_) fun H' q ys s' hy hq=>?_⟩
     ·obtain ⟨m,rfl⟩:=xAfg (qo hx)
      obtain ⟨s',cs,rfl,hcl,hcs⟩:=s';refine iteT (B:=K0 H') ?_;refine ⟨_,rfl,_,_,rfl,rfl,⟨by decide,by decide,by decide⟩,_,_,rfl,rfl,szOk rfl,fun q4 H4 g4 s4 e4=>?_⟩;refine ⟨_,rfl,_,_,rfl,rfl,⟨by decide,by decide⟩,_,_,rfl,rfl,(by show (0:Int)<2;decide),q4,_,_,rfl,rfl,SqL.of e4,xAbk _ (by decide),xAbn _ (by decide),fun m2 hm2=>?_⟩
      obtain ⟨n,rfl,hn,hn2⟩:∃ n,m2=V.int n/\0<n/\n≤1000001:=by
       simp only [List.mem_cons,List.not_mem_nil,or_false] at hm2
       rcases hm2 with rfl | rfl
       ·exact ⟨9,rfl,by decide,by decide⟩
       ·exact ⟨_,rfl,by decide,by decide⟩
      refine ⟨_,_,rfl,rfl,hn,k1 _ H4 ⟨s'.trans s4,cs++[m % n],by rw [z7];rfl,by rw [qv,zk,hcl],fun c hc=>?_⟩⟩;rcases zj.mp hc with hc | hc
      ·exact hcs c hc
      ·rw [zb.mp hc]
       exact ⟨xAbk _ hn,by have:=xAbn m hn;omega⟩
     ·obtain ⟨s',cs,rfl,hcl,hcs⟩:=s'
      exact ⟨q,_,rfl,SqL.of xAae,fun l H5 g5 s5 e5=>⟨szOk rfl,fun q9 H9 g9 s9 e9=>k H9 _ _ ((s.trans (((s3.trans s').up hq).trans s5)).trans s9) (.tup e9 (.cons (.str _) (.cons (.tup (s9 _ _ e5) (L2.dts_ints _ cs)) .nil))) (.pour cs (by omega) hcs)⟩⟩
    ·exact ⟨szOk rfl,fun q9 H9 g9 s9 e9=>k H9 _ _ (s.trans s9) (.tup e9 (.cons (.str _) .nil)) .nothing⟩
theorem ok_fAj (T:Txt K mg d tk) (gfAi:FnOk P w K mg base CX0 2 d.fAi d.fAid ["_law_number","_law_roll_here"] (sp_fAi K)) (gfAm:FnOk P w K mg base CX0 1 d.fAm d.fAmd ["_law_cell","_law_many"] (sp_fAm K)) (gfAq:FnOk P w K mg base CX0 2 d.fAq d.fAqd ["_law_cell"] (sp_fAq K)) (gfAs:FnOk P w K mg base CX0 6 d.fAs d.fAsd ["_law_draws_here","_law_roll_here","_law_number"] (sp_fAs K)):FnOk P w K mg base CX0 7 d.fAj d.fAjd ["_law_script","_law_most"] (sp_fAj K):=by
 refine T.F_fAj.ok xAbz (fun vs H Q E h=>xAtt h) (fun cdv A outer s H vs Q E hr h=>?_);have hu:(A.deeper (envOfC "_law_house" (defScope s_fAj) s.heap.objs.size d.fAj cdv)).units<cLine:=hr.units0;have hu1:(A.deeper (envOfC "_law_house" (defScope s_fAj) s.heap.objs.size d.fAj cdv)).units+1<cLine:=hu_of hr;refine ⟨_,(@xAab _ _ _ _ _ (@xAap _ _ (2) _ _ _ _ xAbz.nd rfl (Or.inl rfl) (@pe_op _ _ _ _ _ _ _ _ xAsw (@pq _ 0 _ _ rfl) (@xAbd _ _ _ _ (@xAaa _ _ _ _ _ (@xAac _ _ _ _) (@xAad _) rfl))) rfl (.inl rfl)) (@xAab _ _ _ _ _ (@xAap _ _ (3) _ _ _ _ xAbz.nd rfl (Or.inl rfl) (@xAam _ _ _ _ _ _ _ _ _ _ _ _ _ _ _ _ gfAq (hr.mono (by decide)) rfl T.m_fAq T.k_fAq T.d_fAq .nil pass0 (@xAaa _ _ _ _ _ (@pe_ix _ _ _ _ _ _ _ xAal (@pq _ 2 _ _ rfl) (@xAac _ _ _ _) (fun _ _=>rfl)) (@xAad _) rfl) (by decide) rfl rfl) rfl (.inl rfl)) (@xAab _ _ _ _ _ (@xAap _ _ (4) _ _ _ _ xAbz.nd rfl (Or.inr rfl) (@xAbb _ _ _ _ _ _ _ _ _ xAbc rfl T.b_len boot_len (@xAaa _ _ _ _ _ (@pq _ 3 _ _ rfl) (@xAad _) rfl) (by decide) (by decide) rfl rfl) rfl (.inl rfl)) (@xAab _ _ _ _ _ (@xAap _ _ (5) _ _ _ _ xAbz.nd rfl (Or.inr rfl) (@xAbp _ _ _ _ _ _ _ (["_law_hand"]) ([("_law_many",4)]) _ _ _ _ _ rfl (@xAbj _ _ _ _ (@pq _ 3 _ _ rfl)) ⟨rfl,by decide +kernel,by decide +kernel⟩ (xAct (defScope s_fAj) ["_law_script","_law_most","_law_cells","_law_roll_here","_law_many","_law_known","_law_table","_law_deeds","_law_k","_law_cell","_law_draws_here","_law_who","_law_turn","_law_other","_law_to","_law_theirs","_law_number","_law_heard","_law_what_here"] rfl rfl (fun _ h=>xAcb h) (by decide +kernel) (by decide +kernel) (by decide +kernel)) (fun _ _ _=>(@xAaq _ _ (0) _ (by show List.Nodup (["_law_hand","_law_many"]:List Str);decide +kernel) rfl (Or.inl rfl) (.inr rfl))) (fun _=>xAbg rfl) (fun _ _ _=>(@xAcz _)) (fun _ _ _=>(@pe_op _ _ _ _ _ _ _ _ xAst (@xAbd _ _ _ _ (@xAaa _ _ _ _ _ (@xAac _ _ _ _) (@xAad _) rfl)) (@pv _ 1 _ _ rfl (Or.inr (Or.inl rfl)) rfl rfl))) (by intro _;rfl)) rfl (.inl rfl)) (@xAab _ _ _ _ _ (@xAap _ _ (6) _ _ _ _ xAbz.nd rfl (Or.inl rfl) (@xAqj _ _) rfl (.inl rfl)) (@xAab _ _ _ _ _ (@xAap _ _ (7) _ _ _ _ xAbz.nd rfl (Or.inl rfl) (@xAbd _ _ _ _ (@xAad _)) rfl (.inl rfl)) (@xAab _ _ _ _ _ (@xAca _ _ _ _ _ _ _ _ PassesOwn.never rfl (@xAoq _ _ _ _ _ _ _ _ rfl T.b_enumerate (@xAaa _ _ _ _ _ (@xAbu _ _ _ _ _ _ _ _ _ _ xAcc (@pq _ 0 _ _ rfl) (@xAcj _ _ _ (@xAac _ _ _ _)) (@xAcj _ _ _ (@pq _ 1 _ _ rfl))) (@xAad _) rfl) rfl) (@xAid _ _ _ _ _ _ rfl (@xAbi _ _ _ _ _ (@xAaq _ _ (8) _ xAbz.nd rfl (Or.inl rfl) (.inl rfl)) (@xAbi _ _ _ _ _ (@xAaq _ _ (9) _ xAbz.nd rfl (Or.inl rfl) (.inl rfl)) (@xAdu _) rfl) rfl) rfl rfl) (@xAab _ _ _ _ _ (@xAap _ _ (10) _ _ _ _ xAbz.nd rfl (Or.inl rfl) (@xAam _ _ _ _ _ _ _ _ _ _ _ _ _ _ _ _ gfAm (hr.mono (by decide)) rfl T.m_fAm T.k_fAm T.d_fAm .nil pass0 (@xAaa _ _ _ _ _ (@pe_op _ _ _ _ _ _ _ _ xAbt (@pq _ 9 _ _ rfl) (@pe_op _ _ _ _ _ _ _ _ xAds (@pe_op _ _ _ _ _ _ _ _ xAds (@pe_op _ _ _ _ _ _ _ _ xAds (@xAac _ _ _ _) (@xAac _ _ _ _)) (@pq _ 8 _ _ rfl)) (@pq _ 8 _ _ rfl))) (@xAaa _ _ _ _ _ (@xAac _ _ _ _) (@xAad _) rfl) rfl) (by decide) rfl rfl) rfl (.inl rfl)) (@xAab _ _ _ _ _ (@xAap _ _ (11) _ _ _ _ xAbz.nd rfl (Or.inr rfl) (@pe_op _ _ _ _ _ _ _ _ xAay (@pe_ix _ _ _ _ _ _ _ xAal (@pq _ 10 _ _ rfl) (@xAac _ _ _ _) (fun _ _=>rfl)) (@pv _ 4 _ _ rfl (Or.inr (Or.inl rfl)) rfl rfl)) rfl (.inl rfl)) (@xAab _ _ _ _ _ (@xAca _ _ _ _ _ _ _ _ PassesOwn.never rfl (@xAcn _ _ _ _ _ _ rfl T.b_range (@xAaa _ _ _ _ _ (@pe_op _ _ _ _ _ _ _ _ xAay (@pe_op _ _ _ _ _ _ _ _ xAba (@pe_ix _ _ _ _ _ _ _ xAal (@pq _ 10 _ _ rfl) (@xAac _ _ _ _) (fun _ _=>rfl)) (@pv _ 4 _ _ rfl (Or.inr (Or.inl rfl)) rfl rfl)) (@xAac _ _ _ _)) (@xAad _) rfl) rfl) (@xAaq _ _ (12) _ xAbz.nd rfl (Or.inl rfl) (.inl rfl)) (@xAab _ _ _ _ _ (@xAap _ _ (13) _ _ _ _ xAbz.nd rfl (Or.inl rfl) (@pe_op _ _ _ _ _ _ _ _ xAay (@pe_ix _ _ _ _ _ _ _ xAby (@pq _ 10 _ _ rfl) (@pe_op _ _ _ _ _ _ _ _ xAbt (@xAac _ _ _ _) (@pq _ 12 _ _ rfl)) (fun _ _=>rfl)) (@pv _ 4 _ _ rfl (Or.inr (Or.inl rfl)) rfl rfl)) rfl (.inl rfl)) (@xAab _ _ _ _ _ (@xAap _ _ (14) _ _ _ _ xAbz.nd rfl (Or.inl rfl) (@pe_op _ _ _ _ _ _ _ _ xAay (@pe_op _ _ _ _ _ _ _ _ xAba (@pe_ix _ _ _ _ _ _ _ xAby (@pq _ 10 _ _ rfl) (@pe_op _ _ _ _ _ _ _ _ xAbt (@xAac _ _ _ _) (@pq _ 12 _ _ rfl)) (fun _ _=>rfl)) (@pv _ 4 _ _ rfl (Or.inr (Or.inl rfl)) rfl rfl)) (@pe_op _ _ _ _ _ _ _ _ xAbt (@pe_ix _ _ _ _ _ _ _ xAal (@pe_ix _ _ _ _ _ _ _ xAal (@pv _ 5 _ _ rfl (Or.inr (Or.inl rfl)) rfl rfl) (@pq _ 13 _ _ rfl) (fun _ _=>rfl)) (@pq _ 13 _ _ rfl) (fun _ _=>rfl)) (@xAac _ _ _ _))) rfl (.inl rfl)) (@xAaf _ _ _ (@ps_if _ _ _ _ _ _ _ _ (@xAao _ _ _ _ _ _ _ _ op_gt (@pq _ 14 _ _ rfl) (@pe_ix _ _ _ _ _ _ _ xAal (@pe_ix _ _ _ _ _ _ _ xAal (@pv _ 5 _ _ rfl (Or.inr (Or.inl rfl)) rfl rfl) (@pv _ 11 _ _ rfl (Or.inr (Or.inl rfl)) rfl rfl) (fun _ _=>rfl)) (@pq _ 13 _ _ rfl) (fun _ _=>rfl)) (xAau _)) (@xAab _ _ _ _ _ (@xAap _ _ (15) _ _ _ _ xAbz.nd rfl (Or.inr rfl) (@xAjl _ _ _ _ _ _ hu1 (@pq _ 6 _ _ rfl) (@xAan _ _ _ _ _ (@xAaa _ _ _ _ _ (@pq _ 13 _ _ rfl) (@xAaa _ _ _ _ _ (@pq _ 14 _ _ rfl) (@xAad _) rfl) rfl)) (fun _ _=>rfl)) rfl (.inl rfl)) (@xAab _ _ _ _ _ (@xAmb _ _ _ _ _ _ (@xAbp _ _ _ _ _ _ _ (["_law_at"]) ([("_law_known",5),("_law_who",11),("_law_theirs",15)]) _ _ _ _ _ rfl (@xAcn _ _ _ _ _ _ rfl T.b_range (@xAaa _ _ _ _ _ (@pv _ 4 _ _ rfl (Or.inr (Or.inl rfl)) rfl rfl) (@xAad _) rfl) rfl) ⟨rfl,by decide +kernel,by decide +kernel⟩ (xAct (defScope s_fAj) ["_law_script","_law_most","_law_cells","_law_roll_here","_law_many","_law_known","_law_table","_law_deeds","_law_k","_law_cell","_law_draws_here","_law_who","_law_turn","_law_other","_law_to","_law_theirs","_law_number","_law_heard","_law_what_here"] rfl rfl (fun _ h=>xAcb h) (by decide +kernel) (by decide +kernel) (by decide +kernel)) (fun _ _ _=>(@xAaq _ _ (0) _ (by show List.Nodup (["_law_at","_law_known","_law_who","_law_theirs"]:List Str);decide +kernel) rfl (Or.inl rfl) (.inr rfl))) (fun _=>xAbg rfl) (fun _ _ _=>(@xAcz _)) (fun _ _ _=>(@xAbb _ _ _ _ _ _ _ _ _ (xAee rfl) rfl T.b_max boot_max (@xAaa _ _ _ _ _ (@pe_ix _ _ _ _ _ _ _ (xAfw (K:=K) rfl) (@pe_ix _ _ _ _ _ _ _ (xAfw (K:=K) rfl) (@pv _ 1 _ _ rfl (Or.inr (Or.inl rfl)) rfl rfl) (@pv _ 2 _ _ rfl (Or.inr (Or.inl rfl)) rfl rfl) (fun _ _=>rfl)) (@pq _ 0 _ _ rfl) (fun _ _=>rfl)) (@xAaa _ _ _ _ _ (@pe_ix _ _ _ _ _ _ _ (xAfw (K:=K) rfl) (@pv _ 3 _ _ rfl (Or.inr (Or.inl rfl)) rfl rfl) (@pq _ 0 _ _ rfl) (fun _ _=>rfl)) (@xAad _) rfl) rfl) (by decide) (by decide) rfl rfl)) (by intro _;rfl)) (@xApt _ _ _ _ _ _ _ (@pv _ 5 _ _ rfl (Or.inr (Or.inl rfl)) rfl rfl) (@pv _ 11 _ _ rfl (Or.inr (Or.inl rfl)) rfl rfl) xAfr (by intro _;rfl)) rfl rfl rfl) (@xAaf _ _ _ (@xAmb _ _ _ _ _ _ (@xAbb _ _ _ _ _ _ _ _ _ (xAee rfl) rfl T.b_max boot_max (@xAaa _ _ _ _ _ (@pe_ix _ _ _ _ _ _ _ xAal (@pe_ix _ _ _ _ _ _ _ xAal (@pv _ 5 _ _ rfl (Or.inr (Or.inl rfl)) rfl rfl) (@pv _ 11 _ _ rfl (Or.inr (Or.inl rfl)) rfl rfl) (fun _ _=>rfl)) (@pq _ 13 _ _ rfl) (fun _ _=>rfl)) (@xAaa _ _ _ _ _ (@pq _ 14 _ _ rfl) (@xAad _) rfl) rfl) (by decide) (by decide) rfl rfl) (@xApt _ _ _ _ _ _ _ (@pe_ix _ _ _ _ _ _ _ xAal (@pv _ 5 _ _ rfl (Or.inr (Or.inl rfl)) rfl rfl) (@pv _ 11 _ _ rfl (Or.inr (Or.inl rfl)) rfl rfl) (fun _ _=>rfl)) (@pq _ 13 _ _ rfl) xAfr (by intro _;rfl)) rfl rfl rfl)))) (@xAas _))))) (by intro _;rfl)) (@xAab _ _ _ _ _ (@xAap _ _ (16) _ _ _ _ xAbz.nd rfl (Or.inl rfl) (@pe_op _ _ _ _ _ _ _ _ xAbt (@pe_ix _ _ _ _ _ _ _ xAal (@pe_ix _ _ _ _ _ _ _ xAal (@pv _ 5 _ _ rfl (Or.inr (Or.inl rfl)) rfl rfl) (@pv _ 11 _ _ rfl (Or.inr (Or.inl rfl)) rfl rfl) (fun _ _=>rfl)) (@pv _ 11 _ _ rfl (Or.inr (Or.inl rfl)) rfl rfl) (fun _ _=>rfl)) (@xAac _ _ _ _)) rfl (.inl rfl)) (@xAab _ _ _ _ _ (@xAap _ _ (17) _ _ _ _ xAbz.nd rfl (Or.inl rfl) (@xAav _ _ _ _ _ _ _ _ _ xAdc rfl T.b_tuple boot_tuple (@xAaa _ _ _ _ _ (@pe_ix _ _ _ _ _ _ _ xAal (@pv _ 5 _ _ rfl (Or.inr (Or.inl rfl)) rfl rfl) (@pv _ 11 _ _ rfl (Or.inr (Or.inl rfl)) rfl rfl) (fun _ _=>rfl)) (@xAad _) rfl) (by decide) (by decide) rfl rfl) rfl (.inl rfl)) (@xAab _ _ _ _ _ (@xAsn _ _ _ _ _ _ _ _ _ hu1 (@pq _ 6 _ _ rfl) (@xAan _ _ _ _ _ (@xAaa _ _ _ _ _ (@pv _ 11 _ _ rfl (Or.inr (Or.inl rfl)) rfl rfl) (@xAaa _ _ _ _ _ (@pq _ 16 _ _ rfl) (@xAad _) rfl) rfl)) (@xAav _ _ _ _ _ _ _ _ _ xAej rfl T.b_list boot_list (@xAaa _ _ _ _ _ (@pq _ 17 _ _ rfl) (@xAad _) rfl) (by decide) (by decide) rfl rfl) rfl) (@xAab _ _ _ _ _ (@xAmb _ _ _ _ _ _ (@pq _ 16 _ _ rfl) (@xApt _ _ _ _ _ _ _ (@pe_ix _ _ _ _ _ _ _ xAal (@pv _ 5 _ _ rfl (Or.inr (Or.inl rfl)) rfl rfl) (@pv _ 11 _ _ rfl (Or.inr (Or.inl rfl)) rfl rfl) (fun _ _=>rfl)) (@pv _ 11 _ _ rfl (Or.inr (Or.inl rfl)) rfl rfl) xAfr (by intro _;rfl)) rfl rfl rfl) (@xAab _ _ _ _ _ (@xAap _ _ (18) _ _ _ _ xAbz.nd rfl (Or.inl rfl) (@xAam _ _ _ _ _ _ _ _ _ _ _ _ _ _ _ _ gfAs (hr.mono (by decide)) rfl T.m_fAs T.k_fAs T.d_fAs .nil pass0 (@xAaa _ _ _ _ _ (@xAbu _ _ _ _ _ _ _ _ _ _ xAcc (@pq _ 10 _ _ rfl) (@xAcj _ _ _ (@xAac _ _ _ _)) (@xAcy _)) (@xAaa _ _ _ _ _ (@pq _ 3 _ _ rfl) (@xAaa _ _ _ _ _ (@pq _ 16 _ _ rfl) (@xAad _) rfl) rfl) rfl) (by decide) rfl rfl) rfl (.inl rfl)) (@xAaf _ _ _ (@xAdf _ _ _ _ (@pe_bm _ _ _ _ _ _ _ _ _ _ _ _ PySem.F.plainAttrs_list PySem.F.slot_list_append PySem.F.type_list_append xAcf (@pq _ 7 _ _ rfl) (@xAaa _ _ _ _ _ (@xAan _ _ _ _ _ (@xAaa _ _ _ _ _ (@pe_ix _ _ _ _ _ _ _ xAal (@pq _ 3 _ _ rfl) (@pv _ 11 _ _ rfl (Or.inr (Or.inl rfl)) rfl rfl) (fun _ _=>rfl)) (@xAaa _ _ _ _ _ (@pq _ 16 _ _ rfl) (@xAaa _ _ _ _ _ (@pq _ 17 _ _ rfl) (@xAaa _ _ _ _ _ (@xAam _ _ _ _ _ _ _ _ _ _ _ _ _ _ _ _ gfAi (hr.mono (by decide)) rfl T.m_fAi T.k_fAi T.d_fAi .nil pass0 (@xAaa _ _ _ _ _ (@pe_ix _ _ _ _ _ _ _ xAal (@pq _ 10 _ _ rfl) (@xAac _ _ _ _) (fun _ _=>rfl)) (@xAaa _ _ _ _ _ (@pq _ 3 _ _ rfl) (@xAad _) rfl) rfl) (by decide) rfl rfl) (@xAaa _ _ _ _ _ (@pq _ 18 _ _ rfl) (@xAad _) rfl) rfl) rfl) rfl) rfl)) (@xAad _) rfl) rfl rfl rfl rfl rfl) rfl)))))))))) (by intro _;rfl)) (@xAaf _ _ _ (@xAar _ _ _ _ (@xAan _ _ _ _ _ (@xAaa _ _ _ _ _ (@pq _ 3 _ _ rfl) (@xAaa _ _ _ _ _ (@pq _ 7 _ _ rfl) (@xAad _) rfl) rfl))))))))))),?_⟩;obtain ⟨sp,ns,most,rfl,hs,hl,k⟩:=h;refine ⟨_,rfl,szOk rfl,fun p1 H1 g1 s1 e1=>?_⟩;refine ⟨sp,p1,_,_,rfl,rfl,hs.same s1,e1,by rw [qg];exact zf (xAak (by show ns.length+1≤1000;omega)),fun p2 H2 g2 s2 e2=>?_⟩
 obtain ⟨i0,h0⟩:∃ i0,atI (List.map V.int ns++[V.int 0]) (0:Int)=some (.int i0):=by
  cases ns with
  | nil=>exact ⟨0,rfl⟩
  | cons n ns=>exact ⟨n,xAcp (j:=0) rfl⟩
 refine ⟨_,rfl,p2,_,_,_,rfl,rfl,SqL.of e2,h0,_,rfl,fun H3 rp ws s3 g3 rl h2 nd=>?_⟩;refine ⟨_,rfl,rp,_,rfl,.inl (SqL.of rl.at'),?_⟩;generalize hM:(ws.map V.str).length=M
 have hM':ws.length=M:=by rw [← hM,qg]
 have hM0:0<M/\M≤6:=⟨by have:=rl.pos;omega,by have:=rl.few;omega⟩
 refine ⟨_,rfl,rp,rfl,⟨_,SqL.of rl.at'⟩,xAjr (xs:=ws.map V.str) (zf (xAak (by omega)))
  (fun i ys H'=>Same H3 H'/\∃ ks:List Addr,ys=ks.map V.ref/\ks.length=i/\ks.Nodup/\∀ kk∈ks,H3 kk=none/\H' kk=some (.lst (Hs.rowV (List.replicate M 0))))
  ⟨Same.refl _,[],rfl,rfl,wx,fun _ z=>nomatch z⟩ (fun _ _ H' s'=>SqL.of (s'.1 _ _ rl.at')) (fun j x ys H' K1 K0 hx s' k1 k0=>?_) fun H' kp ys s' hy hq=>?_⟩
 ·obtain ⟨s',ks,rfl,hk,nd',hks⟩:=s'
  refine iteT (B:=K0 H') ?_;refine ⟨szOk rfl,fun q1 H4 g4 s4 e4=>?_⟩;refine ⟨_,rfl,q1,_,_,rfl,rfl,e4,by omega,by omega,(by show 1 * (M:Int).toNat≤sizeLine;rw [Nat.one_mul,Int.toNat_natCast];exact zf (xAak (by omega))),fun q2 H5 g5 s5 e5=>?_⟩;rw [Hs.flat_zero] at e5;refine k1 _ _ ⟨(s'.trans s4).trans s5,ks++[q2],by rw [z7];rfl,by rw [qv,zk,hk],?_,fun kk hkk=>?_⟩
  ·refine xAjm nd' fun z=>?_
   have:=s4 _ _ (hks q2 z).2;rw [g5] at this;cases this
  ·rcases zj.mp hkk with z | z
   ·exact ⟨(hks kk z).1,s5 _ _ (s4 _ _ (hks kk z).2)⟩
   ·rw [zb.mp z]
    exact ⟨(s'.trans s4).free g5,e5⟩
 ·obtain ⟨s',ks,rfl,hk,nd',hks⟩:=s'
  rw [hM] at hk;refine fun tp H4 g4 s4 e4=>?_;refine ⟨szOk rfl,fun dp H5 g5 s5 e5=>?_⟩;have gk:∀ {a o},H' a=some o->(upd H' kp (.lst (ks.map V.ref))) a=some o:=fun {a o} e=>Same.new hq a o e
  have st:Hs.HSt H3 H5 kp tp dp ws (List.replicate M (List.replicate M 0)) [] [] ks [] []:=by
   have kd:kp≠dp:=xAaj (s4 _ _ xAae) g5;refine ⟨((s'.up hq).trans s4).trans s5,s5 _ _ (s4 _ _ xAae),by rw [hk,jn],fun i kk e=>?_,nd',fun z=>?_,kd,fun z=>?_,s'.free hq,(s'.up hq).free g4,((s'.up hq).trans s4).free g5,fun kk z=>(hks kk z).1,s5 _ _ e4,(fun d z=>nomatch z),qh _,e5,⟨rfl,fun i d z=>by cases z⟩⟩
   ·have hi:=(qx.mp e).1
    rw [Hs.replicate_rows (by omega)];exact s5 _ _ (s4 _ _ (gk (hks kk (qo e)).2))
   ·have:=(hks kp z).2
    rw [hq] at this;cases this
   ·have:=s4 _ _ (gk (hks dp z).2)
    rw [g5] at this;cases this
  refine ⟨_,rfl,_,rfl,_,rfl,_,rfl,sp,_,rfl,((hs.same s1).same s2).same (s3.trans st.same),fun q6 H6 g6 s6 e6=>?_⟩;have st6:=st.guard g6 s6 e6;have hcut:(cutV (List.map V.int ns) (some 1) (some most)).length≤63:=qm (xAdw _ _ _) (by rw [qg];exact hl);have hstart:=Hs.Kn.start M
  refine ⟨q6,rfl,⟨_,SqL.of e6⟩,xAqh (xs:=cutV (List.map V.int ns) (some 1) (some most)) (fun i σ H7=>∃ (kn:List (List Nat)) (ds:List Hs.Dd) (ks:List Addr) (kvs:List (List Key×V)) (des:List V) (v8 v9 v10 v11 v12 v13 v14 v15 v16 v17 v18:Option V),
    σ=[some (.ref sp),some (.int most),some (.ref p2),some (.ref rp),some (.int M),some (.ref kp),some (.ref tp),some (.ref dp),v8,v9,v10,v11,v12,v13,v14,v15,v16,v17,v18] ∧
    Hs.HSt (upd H3 q6 (.lst (cutV (List.map V.int ns) (some 1) (some most)))) H7 kp tp dp ws kn ds ds ks kvs des/\Hs.Kn M ds kn/\Hs.Wh M ds/\ds.length≤i/\∀ d∈ds,BrD ws d.br/\WhatD ws d.num d.wt)
   ⟨_,[],ks,[],[],none,none,none,none,none,none,none,none,none,none,none,rfl,st6,hstart.1,hstart.2,qh _,fun _ z=>nomatch z⟩ ?_ ?_ ?_⟩
  ·rintro i σ H7 _ ⟨kn,ds,ks,kvs,des,v8,v9,v10,v11,v12,v13,v14,v15,v16,v17,v18,rfl,h7,_⟩
   exact SqL.of (h7.same _ _ xAae)
  ·rintro i x σ H7 pe hx ⟨kn,ds,ks,kvs,des,v8,v9,v10,v11,v12,v13,v14,v15,v16,v17,v18,rfl,h7,K7,W7,hlen,hbw⟩ hpe
   obtain ⟨c,rfl⟩:=xAfg (qo hx);have hi:i<63:=qz (qx.mp hx).1 hcut;refine ⟨pe,_,rfl,SqT.of xAae,rfl,?_⟩;have h7:=h7.mono (Same.new (o:=.tup [.int i,.int c]) hpe);refine ⟨_,_,rfl,_,_,rfl,rfl,?_⟩;refine ⟨_,rfl,_,_,rfl,rfl,.inl ⟨by decide,by decide⟩,_,rfl,_,_,rfl,rfl,.inl ⟨by decide,by decide⟩,_,rfl,_,_,rfl,rfl,.inr ⟨by omega,by omega⟩,_,_,rfl,rfl,_,22,rfl,by decide,fun H8 p1 ms s8 g8 d8 hl8=>?_⟩;have h8:=h7.guard g8 s8 d8.at';obtain ⟨a0,h0⟩:=d8.get 0 (by decide);refine ⟨_,rfl,p1,_,0,.int a0,rfl,rfl,SqL.of d8.at',h0,_,rfl,_,_,rfl,rfl,(by omega:(0:Int)<M),?_⟩;obtain ⟨w,hw⟩:=Int.eq_ofNat_of_zero_le (xAbk a0 (by omega:(0:Int)<M))
   have hwM:w<M:=by have:=xAbn a0 (by omega:(0:Int)<M);omega
   show gName 11 (V.int (a0 % (M:Int))) _ _ _;rw [hw];have hr3:0≤a0 / (M:Int) % 3/\a0 / (M:Int) % 3<3:=⟨xAbk _ (by decide),xAbn _ (by decide)⟩
   refine ⟨_,rfl,p1,_,0,.int a0,rfl,rfl,SqL.of d8.at',h0,_,rfl,_,_,rfl,rfl,⟨by omega,by omega⟩,_,_,rfl,rfl,(by show (0:Int)<3;decide),_,rfl,by omega,by omega,xAdb (n:=(a0 / (M:Int) % 3).toNat)
    (fun j σ H9=>∃ (kn:List (List Nat)) (ks:List Addr) (v12 v13 v14 v15:Option V),
     σ=[some (.ref sp),some (.int most),some (.ref p2),some (.ref rp),some (.int M),some (.ref kp),some (.ref tp),some (.ref dp),some (.int i),some (.int c),some (.ref p1),some (.int w),v12,v13,v14,v15,v16,v17,v18] ∧
     Hs.HSt (upd (upd H3 q6 (.lst (cutV (List.map V.int ns) (some 1) (some most)))) p1 (.lst (List.map V.int ms))) H9 kp tp dp ws kn ds ds ks kvs des/\Hs.Kn M ds kn)
    ⟨kn,ks,v12,v13,v14,v15,rfl,h8,K7⟩ ?_ ?_⟩
   ·rintro j σ H9 hj ⟨kn,ks,v12,v13,v14,v15,rfl,h9,K9⟩
    have hj3:j<3:=by omega
    have d9:DR H9 p1 ms 22:=⟨h9.same _ _ xAae,d8.len,d8.few⟩
    have hpos:(0:Int)≤1+(0+(j:Int))/\1+(0+(j:Int))<((List.map V.int ms).length:Int):=by rw [qg];omega
    refine ⟨_,rfl,_,rfl,_,_,rfl,rfl,p1,_,_,rfl,rfl,SqL.of d9.at',hpos.1,hpos.2,fun v hv=>?_⟩;obtain ⟨b1,_,rfl⟩:=qk.mp hv;refine ⟨_,rfl,_,_,rfl,rfl,(by omega:(0:Int)<M),?_⟩;obtain ⟨o,ho⟩:=Int.eq_ofNat_of_zero_le (xAbk b1 (by omega:(0:Int)<M))
    have hoM:o<M:=by have:=xAbn b1 (by omega:(0:Int)<M);omega
    show gName 13 (V.int (b1 % (M:Int))) _ _ _;rw [ho];obtain ⟨ko,hko,eko,ako⟩:=h9.rowAt (i:=o) (by rw [K9.len];exact hoM);obtain ⟨kw,hkw,ekw,akw⟩:=h9.rowAt (i:=w) (by rw [K9.len];exact hwM);have lo:(Hs.rowOf kn o).length=M:=K9.row o hoM;have lw:(Hs.rowOf kn w).length=M:=K9.row w hwM;refine ⟨_,rfl,_,rfl,_,_,rfl,rfl,p1,_,_,rfl,rfl,SqL.of d9.at',hpos.1,hpos.2,fun v hv=>?_⟩;obtain ⟨b2,_,rfl⟩:=qk.mp hv;refine ⟨_,rfl,_,_,rfl,rfl,⟨by omega,by omega⟩,_,rfl,_,rfl,kp,_,_,_,rfl,rfl,SqL.of h9.kat,ako,_,rfl,ko,_,_,_,rfl,rfl,SqL.of eko,Hs.atI_row (by omega),_,_,rfl,rfl,_,_,rfl,rfl,(by omega),?_⟩;have hto:=xAbk (b2 / (M:Int)) (m:=((Hs.at0 (Hs.rowOf kn o) o:Nat):Int)+1) (by omega);have hto2:=xAbn (b2 / (M:Int)) (m:=((Hs.at0 (Hs.rowOf kn o) o:Nat):Int)+1) (by omega);obtain ⟨t,ht⟩:=Int.eq_ofNat_of_zero_le hto;rw [ht] at hto2;show gName 14 (V.int (b2 / (M:Int) % (((Hs.at0 (Hs.rowOf kn o) o:Nat):Int)+1))) _ _ _;rw [ht];refine ⟨_,rfl,_,rfl,_,rfl,kp,_,_,_,rfl,rfl,SqL.of h9.kat,akw,_,rfl,kw,_,_,_,rfl,rfl,SqL.of ekw,Hs.atI_row (by omega),_,_,rfl,rfl,_,rfl,?_⟩;refine ite2 (fun hgt=>?_) fun _=>?_
    ·have hgt:Hs.at0 (Hs.rowOf kn w) o<t:=by
      have:=of_decide_eq_true hgt;omega
     obtain ⟨e,he,ew,en⟩:=K9.has (j:=o) (k:=t) hoM (by omega) (by omega);subst ew en;obtain ⟨qe,ve,ee,_⟩:=h9.tab e he;refine ⟨_,rfl,_,rfl,_,rfl,szOk rfl,fun pt Ht gt st' et=>?_⟩;have hT:=h9.mono st';refine ⟨tp,.ref qe,rfl,ve▸DGet.t (k:=Hs.keyD e) hT.tat et,?_⟩;have le:e.hd.length=M:=W7.len e he;have hn:((M:Int)).toNat=M:=Int.toNat_natCast M
     refine ⟨_,rfl,_,rfl,by omega,by omega,xAqi (n:=(M:Int).toNat) (by rw [hn];exact zf (xAak (by omega)))
      (fun a ys H'=>Same Ht H'/\ys=Hs.rowV ((List.range a).map fun a=>max (Hs.at0 (Hs.rowOf kn w) a) (Hs.at0 e.hd a))) ⟨Same.refl _,rfl⟩ (fun a ys H' K1 K0 ha s' k1 k0=>?_) fun H' pn ys s' hy hq=>?_⟩
     ·obtain ⟨s',rfl⟩:=s'
      rw [hn] at ha;refine iteT (B:=K0 H') ?_;refine ⟨_,rfl,_,rfl,kp,_,_,_,rfl,rfl,SqL.of (s' _ _ hT.kat),akw,_,rfl,kw,_,_,_,rfl,rfl,SqL.of (s' _ _ (st' _ _ ekw)),Hs.atI_0 (Hs.atI_row (by omega)),_,rfl,_,rfl,qe,_,_,_,rfl,rfl,SqL.of (s' _ _ (st' _ _ ee)),Hs.atI_0 (Hs.atI_row (by omega)),_,_,rfl,?_⟩;show K1 (V.int (if ((Hs.at0 e.hd a:Nat):Int)>((Hs.at0 (Hs.rowOf kn w) a:Nat):Int) then ((Hs.at0 e.hd a:Nat):Int) else ((Hs.at0 (Hs.rowOf kn w) a:Nat):Int))) H';rw [Hs.max_nat];refine k1 _ _ ⟨s',?_⟩;rw [yn,z7];unfold Hs.rowV;rw [z7];rfl
     ·obtain ⟨s',rfl⟩:=s'
      have hT':=hT.mono s';have h10:=hT'.swap (i:=w) (p:=pn) (r:=(List.range (M:Int).toNat).map fun a=>max (Hs.at0 (Hs.rowOf kn w) a) (Hs.at0 e.hd a)) (by rw [K9.len];exact hwM) hq;rw [yj] at h10
      have hwl:w<kn.length:=by rw [K9.len];exact hwM
      obtain ⟨kw2,hkw2,ekw2,akw2⟩:=h10.rowAt (i:=w) (by rw [wj];exact hwl);rw [show Hs.rowOf (kn.set w ((List.range (M:Int).toNat).map fun a=>max (Hs.at0 (Hs.rowOf kn w) a) (Hs.at0 e.hd a))) w=(List.range (M:Int).toNat).map (fun a=>max (Hs.at0 (Hs.rowOf kn w) a) (Hs.at0 e.hd a)) from Hs.getD_set_self hwl] at ekw2;rw [yj] at akw2;have kat10:=h10.kat;rw [yj] at kat10;refine ⟨_,rfl,_,rfl,kp,_,_,w,rfl,rfl,(by rw [xAah (xAaj hT'.kat hq)];exact hT'.kat),Hs.ixN_nat (by rw [qg,hT'.klen];exact hwl),?_⟩
      have hlen2:e.who<((List.range (M:Int).toNat).map fun a=>max (Hs.at0 (Hs.rowOf kn w) a) (Hs.at0 e.hd a)).length:=by rw [qg,vy,hn];exact hoM
      refine ⟨_,rfl,_,rfl,kp,_,_,_,rfl,rfl,SqL.of kat10,akw2,_,rfl,kw2,_,_,_,rfl,rfl,SqL.of ekw2,Hs.atI_row hlen2,_,rfl,_,_,rfl,_,rfl,_,rfl,kp,_,_,_,rfl,rfl,SqL.of kat10,akw2,_,rfl,kw2,_,_,e.who,rfl,rfl,ekw2,Hs.ixN_nat (by rw [qg];exact hlen2),?_⟩;have h11:=h10.row (i:=w) (k:=kw2) (r:=((List.range (M:Int).toNat).map fun a=>max (Hs.at0 (Hs.rowOf kn w) a) (Hs.at0 e.hd a)).set e.who (max (Hs.at0 ((List.range (M:Int).toNat).map fun a=>max (Hs.at0 (Hs.rowOf kn w) a) (Hs.at0 e.hd a)) e.who) e.num)) hkw2;rw [← Hs.rowV_set] at h11
      have ex:(kn.set w ((List.range (M:Int).toNat).map fun a=>max (Hs.at0 (Hs.rowOf kn w) a) (Hs.at0 e.hd a))).set w (((List.range (M:Int).toNat).map fun a=>max (Hs.at0 (Hs.rowOf kn w) a) (Hs.at0 e.hd a)).set e.who (max (Hs.at0 ((List.range (M:Int).toNat).map fun a=>max (Hs.at0 (Hs.rowOf kn w) a) (Hs.at0 e.hd a)) e.who) e.num))=kn.set w (Hs.merged M (Hs.rowOf kn w) e.hd e.who e.num):=by
       rw [List.set_set,hn];unfold Hs.merged;rw [Hs.getD_range _ hoM]
      rw [ex] at h11;have vx:V.int (if ((e.num:Nat):Int)>((Hs.at0 ((List.range (M:Int).toNat).map fun a=>max (Hs.at0 (Hs.rowOf kn w) a) (Hs.at0 e.hd a)) e.who:Nat):Int) then ((e.num:Nat):Int) else ((Hs.at0 ((List.range (M:Int).toNat).map fun a=>max (Hs.at0 (Hs.rowOf kn w) a) (Hs.at0 e.hd a)) e.who:Nat):Int))=Hs.nV (max (Hs.at0 ((List.range (M:Int).toNat).map fun a=>max (Hs.at0 (Hs.rowOf kn w) a) (Hs.at0 e.hd a)) e.who) e.num):=congrArg V.int (Hs.max_nat _ _);rw [← vx] at h11;exact ⟨_,ks.set w pn,_,_,_,_,rfl,h11,K9.merge W7 hwM he hgt⟩
    ·exact ⟨kn,ks,_,_,_,_,rfl,h9,K9⟩
   ·rintro σ H9 ⟨kn,ks,v12,v13,v14,v15,rfl,h9,K9⟩
    have hwl:w<kn.length:=by rw [K9.len];exact hwM
    obtain ⟨kw,hkw,ekw,akw⟩:=h9.rowAt (i:=w) hwl;have lw:(Hs.rowOf kn w).length=M:=K9.row w hwM;refine ⟨_,rfl,_,rfl,kp,_,_,_,rfl,rfl,SqL.of h9.kat,akw,_,rfl,kw,_,_,_,rfl,rfl,SqL.of ekw,Hs.atI_row (by omega),_,_,rfl,rfl,?_⟩;show gName 16 (Hs.nV (Hs.at0 (Hs.rowOf kn w) w+1)) _ _ _;refine ⟨_,rfl,_,rfl,kp,_,_,_,rfl,rfl,SqL.of h9.kat,akw,kw,_,rfl,SqL.of ekw,fun ph H10 g10 s10 e10=>?_⟩;have h10:=h9.mono s10;refine ⟨_,rfl,ph,_,rfl,.inr (SqT.of e10),fun pl H11 g11 s11 e11=>?_⟩;refine ⟨_,rfl,_,rfl,_,rfl,szOk rfl,fun pt H12 g12 s12 e12=>?_⟩;have h12:=(h10.mono s11).mono s12;refine ⟨tp,_,rfl,DPut.t (k:=Hs.keyD (Hs.nextD kn w .none [])) h12.tat e12 (we h12.tlen (xAak (by omega))),?_⟩
    have h13:=h12.put (d:=Hs.nextD kn w .none []) (q:=pl) (s12 _ _ e11) (fun z=>xAaj h10.kat g11 z.symm) (fun z=>xAaj h10.dat g11 z.symm) (fun z=>by
      obtain ⟨a,ha,e2⟩:=zu.mp z
      exact xAaj (h10.rows a pl (by rw [qi ha,e2])) g11 rfl)
     (fun e he=>Hs.keyD_ne fun z=>by
      have q1:=K9.cnt e he;rw [z.1,z.2] at q1;have q2:(Hs.nextD kn w .none []).num=Hs.at0 (Hs.rowOf kn w) w+1:=rfl;have q3:(Hs.nextD kn w .none []).who=w:=rfl;rw [q2,q3] at q1
      omega)
    refine ⟨_,rfl,_,rfl,_,rfl,kp,_,_,_,rfl,rfl,SqL.of h13.kat,akw,_,rfl,kw,_,_,w,rfl,rfl,h13.rows w kw hkw,Hs.ixN_nat (by rw [qg];omega),?_⟩;have h14:=h13.row (i:=w) (k:=kw) (r:=(Hs.rowOf kn w).set w (Hs.at0 (Hs.rowOf kn w) w+1)) hkw;rw [← Hs.rowV_set] at h14;have d14:DR _ p1 ms 22:=⟨h14.same _ _ xAae,d8.len,d8.few⟩;have sG:Same H3 (upd (upd H3 q6 (.lst (cutV (List.map V.int ns) (some 1) (some most)))) p1 (.lst (List.map V.int ms))):=(Same.new (st.same.free g6)).up (h7.same.free g8);have r14:=rl.mono (sG.trans h14.same);refine ⟨_,rfl,_,rfl,p1,_,rfl,SqL.of d14.at',fun q15 H15 g15 s15 e15=>?_⟩;have d15:=d14.from 4 (by decide) e15;refine ⟨_,rfl,_,rfl,q15,rp,ws,_,_,rfl,r14.mono s15,⟨d15.at',qm (by decide) d15.len,d15.few⟩,fun H16 vw wt s16 dw hww2=>?_⟩;have h16:=(h14.mono s15).mono s16;have r16:=(r14.mono s15).mono s16;have d16:=(d14.mono s15).mono s16;obtain ⟨a3,h3⟩:=d16.get 3 (by decide)
    have hww:w<ws.length:=by omega
    have hwd:atI (ws.map V.str) (w:Int)=some (.str ws[w]):=xAcp (by rw [ql,qi hww];rfl);refine ⟨_,rfl,.inl ⟨rfl,_,SqL.of h16.dat⟩,_,rfl,_,rfl,rp,_,_,_,rfl,rfl,SqL.of r16.at',hwd,_,rfl,_,rfl,_,rfl,p1,_,3,.int a3,rfl,rfl,SqL.of d16.at',h3,_,rfl,_,rp,ws,rfl,r16,fun H17 vb br s17 dbr hbr=>?_⟩;refine ⟨_,rfl,szOk rfl,fun pd H18 g18 s18 e18=>?_⟩;have h18:=(h16.mono s17).mono s18;refine ⟨dp,_,_,rfl,rfl,h18.dat,(by rw [h18.deeds.1];exact xAak (by omega)),?_⟩;have pt1:ph≠tp:=fun z=>xAaj h9.tat g10 z.symm;have pt2:ph≠kw:=fun z=>xAaj ekw g10 z.symm
    have eph:H18 ph=some (.tup (Hs.rowV (Hs.rowOf kn w))):=by
     refine s18 _ _ (s17 _ _ (s16 _ _ (s15 _ _ ?_)));rw [xAah pt2,xAah pt1];exact s12 _ _ (s11 _ _ e10)
    refine ⟨_,ds++[Hs.nextD kn w br wt],ks,_,_,_,_,_,_,_,_,_,_,_,_,_,rfl,((h18.retab (d2:=Hs.nextD kn w br wt) rfl rfl).add (d:=Hs.nextD kn w br wt) (v:=.ref pd) ⟨pd,ws[w],ph,vb,vw,rfl,qi hww,e18,eph,dbr.same s18,dw.same (s17.trans s18)⟩).weak (Same.new (h7.same.free g8)),K9.next W7 hwM,W7.next K9 hwM,?_,fun d hd=>?_⟩
    ·rw [qv,zk]
     omega
    ·rcases zj.mp hd with hd | hd
     ·exact hbw d hd
     ·rw [zb.mp hd]
      exact ⟨hbr,hww2⟩
  ·rintro σ H7 ⟨kn,ds,ks,kvs,des,v8,v9,v10,v11,v12,v13,v14,v15,v16,v17,v18,rfl,h7,K7,W7,hlen,hbw⟩
   have h7':Hs.HSt H3 H7 kp tp dp ws kn ds ds ks kvs des:=h7.weak (Same.new (st.same.free g6));have s03:Same H H3:=(s1.trans s2).trans s3;refine ⟨_,rfl,_,rfl,szOk rfl,fun q8 H8 g8 s8 e8=>?_⟩;exact k H8 q8 rp dp ws ds des ((s03.trans h7'.same).trans s8) ((s03.trans h7'.same).free g8) e8 (rl.mono (h7'.same.trans s8)) h2 nd (s03.free h7'.fd) (s8 _ _ h7'.dat) (h7'.deeds.mono s8) (hM'▸W7) hbw (by omega)
theorem ok_fBb (T:Txt K mg d tk) (gfAh:FnOk P w K mg base CX0 4 d.fAh d.fAhd ["self","roll","deeds"] (sp_fAh K)) (gfAy:FnOk P w K mg base CX0 1 d.fAy d.fAyd ["self","name"] (sp_fAy K)) (gfAp:FnOk P w K mg base CX0 2 d.fAp d.fApd ["self","name"] (sp_fAp K)) (gfAj:FnOk P w K mg base CX0 7 d.fAj d.fAjd ["_law_script","_law_most"] (sp_fAj K)):FnOk P w K mg base CX0 8 d.fBb d.fBbd ["_law_script"] (sp_fBb K):=by
 refine T.F_fBb.ok xAci (fun vs H Q E h=>xAwh h) (fun cdv A outer s H vs Q E hr h=>?_);have hu:(A.deeper (envOfC "law" (defScope s_fBb) s.heap.objs.size d.fBb cdv)).units<cLine:=hr.units0;refine ⟨_,(@xAab _ _ _ _ _ (@xAmb _ _ _ _ _ _ (@xAam _ _ _ _ _ _ _ _ _ _ _ _ _ _ _ _ gfAj (hr.mono (by decide)) rfl T.m_fAj T.k_fAj T.d_fAj .nil pass0 (@xAaa _ _ _ _ _ (@pq _ 0 _ _ rfl) (@xAaa _ _ _ _ _ (@xAac _ _ _ _) (@xAad _) rfl) rfl) (by decide) rfl rfl) (@xAid _ _ _ _ _ _ rfl (@xAbi _ _ _ _ _ (@xAaq _ _ (1) _ xAci.nd rfl (Or.inl rfl) (.inl rfl)) (@xAbi _ _ _ _ _ (@xAaq _ _ (2) _ xAci.nd rfl (Or.inl rfl) (.inl rfl)) (@xAdu _) rfl) rfl) rfl rfl) rfl rfl rfl) (@xAab _ _ _ _ _ (@xAap _ _ (3) _ _ _ _ xAci.nd rfl (Or.inl rfl) (@xAsh _ _ _ _ _ _ _ _ _ _ _ _ _ _ _ _ _ T.K_Folk gfAh (hr.mono (by decide)) rfl T.g_Folk T.d_fAh .nil pass0 (@xAaa _ _ _ _ _ (@pq _ 1 _ _ rfl) (@xAaa _ _ _ _ _ (@pq _ 2 _ _ rfl) (@xAad _) rfl) rfl) (by decide) rfl rfl) rfl (.inl rfl)) (@xAab _ _ _ _ _ (@xAap _ _ (4) _ _ _ _ xAci.nd rfl (Or.inl rfl) (@xAhr _ _) rfl (.inl rfl)) (@xAab _ _ _ _ _ (@xAca _ _ _ _ _ _ _ _ PassesOwn.never rfl (@xAbj _ _ _ _ (@pq _ 2 _ _ rfl)) (@xAaq _ _ (5) _ xAci.nd rfl (Or.inl rfl) (.inl rfl)) (@xAaf _ _ _ (@xAen _ _ _ _ _ _ _ _ _ (hu2 hr) (@pq _ 4 _ _ rfl) (@xAan _ _ _ _ _ (@xAaa _ _ _ _ _ (@pxt _ _ _ _ _ _ _ (@pq _ 5 _ _ rfl)) (@xAaa _ _ _ _ _ (@pxt _ _ _ _ _ _ _ (@pq _ 5 _ _ rfl)) (@xAad _) rfl) rfl)) (@xAgo _ _ _ _ _ _ _ _ _ _ _ _ _ _ _ _ _ _ _ _ (@pq _ 3 _ _ rfl) T.C_Folk T.M_fAy gfAy (hr.mono (by decide)) T.d_fAy .nil pass0 (@xAaa _ _ _ _ _ (@xAan _ _ _ _ _ (@xAaa _ _ _ _ _ (@pxt _ _ _ _ _ _ _ (@pq _ 5 _ _ rfl)) (@xAaa _ _ _ _ _ (@pxt _ _ _ _ _ _ _ (@pq _ 5 _ _ rfl)) (@xAad _) rfl) rfl)) (@xAad _) rfl) rfl rfl rfl) rfl)) (by intro _;rfl)) (@xAab _ _ _ _ _ (@ps_if _ _ _ _ _ _ _ _ (@xAao _ _ _ _ _ _ _ _ op_ne (@xAbb _ _ _ _ _ _ _ _ _ xAis rfl T.b_len boot_len (@xAaa _ _ _ _ _ (@xAav _ _ _ _ _ _ _ _ _ (xAod rfl (hu4 hr)) rfl T.b_set boot_set (@xAaa _ _ _ _ _ (@xAiq _ _ _ _ _ _ _ rfl rfl T.b_list (@pq _ 4 _ _ rfl) rfl rfl rfl) (@xAad _) rfl) (by decide) (by decide) rfl rfl) (@xAad _) rfl) (by decide) (by decide) rfl rfl) (@xAbb _ _ _ _ _ _ _ _ _ xAbc rfl T.b_len boot_len (@xAaa _ _ _ _ _ (@pq _ 2 _ _ rfl) (@xAad _) rfl) (by decide) (by decide) rfl rfl) (xAau _)) (@xAaf _ _ _ (@xAar _ _ _ _ (@pe_bl _ _ _ _))) (@xAas _)) (@xAab _ _ _ _ _ (@xAap _ _ (6) _ _ _ _ xAci.nd rfl (Or.inr rfl) (@xAhr _ _) rfl (.inl rfl)) (@xAab _ _ _ _ _ (@xAca _ _ _ _ _ _ _ _ PassesOwn.never rfl (@xAbj _ _ _ _ (@pq _ 2 _ _ rfl)) (@xAaq _ _ (5) _ xAci.nd rfl (Or.inl rfl) (.inl rfl)) (@xAab _ _ _ _ _ (@xAap _ _ (7) _ _ _ _ xAci.nd rfl (Or.inr rfl) (@xAan _ _ _ _ _ (@xAaa _ _ _ _ _ (@pxt _ _ _ _ _ _ _ (@pq _ 5 _ _ rfl)) (@xAaa _ _ _ _ _ (@pxt _ _ _ _ _ _ _ (@pq _ 5 _ _ rfl)) (@xAad _) rfl) rfl)) rfl (.inl rfl)) (@xAab _ _ _ _ _ (@xAap _ _ (8) _ _ _ _ xAci.nd rfl (Or.inl rfl) (@xAbd _ _ _ _ (@xAad _)) rfl (.inl rfl)) (@xAab _ _ _ _ _ (@xAca _ _ _ _ _ _ _ _ PassesOwn.never rfl (@xAbj _ _ _ _ (@pq _ 2 _ _ rfl)) (@xAaq _ _ (9) _ xAci.nd rfl (Or.inl rfl) (.inl rfl)) (@xAaf _ _ _ (@ps_if _ _ _ _ _ _ _ _ (@xAao _ _ _ _ _ _ _ _ op_le (@pxt _ _ _ _ _ _ _ (@pq _ 9 _ _ rfl)) (@pe_ix _ _ _ _ _ _ _ xAmi (@pxt _ _ _ _ _ _ _ (@pq _ 5 _ _ rfl)) (@pe_bm _ _ _ _ _ _ _ _ _ _ _ _ PySem.F.plainAttrs_list PySem.F.slot_list_index PySem.F.type_list_index (xAmv (hu61 hr)) (@pq _ 1 _ _ rfl) (@xAaa _ _ _ _ _ (@pxt _ _ _ _ _ _ _ (@pq _ 9 _ _ rfl)) (@xAad _) rfl) rfl rfl rfl rfl rfl) (fun _ _=>rfl)) (xAau _)) (@xAaf _ _ _ (@xAdf _ _ _ _ (@pe_bm _ _ _ _ _ _ _ _ _ _ _ _ PySem.F.plainAttrs_list PySem.F.slot_list_append PySem.F.type_list_append xAcf (@pq _ 8 _ _ rfl) (@xAaa _ _ _ _ _ (@xAan _ _ _ _ _ (@xAaa _ _ _ _ _ (@xAbo _ _ _ _ _ _ (hu2 hr) (@pq _ 4 _ _ rfl) (@xAan _ _ _ _ _ (@xAaa _ _ _ _ _ (@pxt _ _ _ _ _ _ _ (@pq _ 9 _ _ rfl)) (@xAaa _ _ _ _ _ (@pxt _ _ _ _ _ _ _ (@pq _ 9 _ _ rfl)) (@xAad _) rfl) rfl)) (fun _ _=>rfl)) (@xAaa _ _ _ _ _ (@xAan _ _ _ _ _ (@xAaa _ _ _ _ _ (@pxt _ _ _ _ _ _ _ (@pq _ 9 _ _ rfl)) (@xAaa _ _ _ _ _ (@pxt _ _ _ _ _ _ _ (@pq _ 9 _ _ rfl)) (@xAad _) rfl) rfl)) (@xAad _) rfl) rfl)) (@xAad _) rfl) rfl rfl rfl rfl rfl) rfl)) (@xAas _))) (by intro _;rfl)) (@xAab _ _ _ _ _ (@xAap _ _ (10) _ _ _ _ xAci.nd rfl (Or.inl rfl) (@xAgo _ _ _ _ _ _ _ _ _ _ _ _ _ _ _ _ _ _ _ _ (@pq _ 3 _ _ rfl) T.C_Folk T.M_fAp gfAp (hr.mono (by decide)) T.d_fAp .nil pass0 (@xAaa _ _ _ _ _ (@pv _ 7 _ _ rfl (Or.inr (Or.inl rfl)) rfl rfl) (@xAad _) rfl) rfl rfl rfl) rfl (.inl rfl)) (@xAab _ _ _ _ _ (@ps_if _ _ _ _ _ _ _ _ (@PW.pt _ _ _ (@pw_or _ _ _ _ _ _ _ (@xAps _ _ _ _ (@xAsa _ _ _ (@xAbb _ _ _ _ _ _ _ _ _ xAii rfl T.b_isinstance boot_isinstance (@xAaa _ _ _ _ _ (@pq _ 10 _ _ rfl) (@xAaa _ _ _ _ _ (@xArz _ _ (.ty "list") _ _ rfl T.b_list boot_list rfl (by decide) (by decide)) (@xAad _) rfl) rfl) (by decide) (by decide) rfl rfl) (by intro _;rfl))) (@xAsb _ _ _ _ (@xAao _ _ _ _ _ _ _ _ (xAmt (hu64 hr)) (@pq _ 10 _ _ rfl) (@xAbp _ _ _ _ _ _ _ (["_law_pair"]) ([]) _ _ _ _ _ rfl (@xAbj _ _ _ _ (@xAbb _ _ _ _ _ _ _ _ _ (xAgd (hu61 hr)) rfl T.b_sorted boot_sorted (@xAaa _ _ _ _ _ (@pq _ 8 _ _ rfl) (@xAad _) rfl) (by decide) (by decide) rfl rfl)) ⟨rfl,by decide +kernel,by decide +kernel⟩ (caps0 (by decide +kernel)) (fun _ _ _=>(@xAaq _ _ (0) _ (by show List.Nodup (["_law_pair"]:List Str);decide +kernel) rfl (Or.inl rfl) (.inr rfl))) (fun _=>xAbg rfl) (fun _ _ _=>(@xAcz _)) (fun _ _ _=>(@pe_ix _ _ _ _ _ _ _ (xAgy (K:=K) rfl) (@pq _ 0 _ _ rfl) (@xAac _ _ _ _) (fun _ _=>rfl))) (by intro _;rfl)) (xAau _))))) (@xAaf _ _ _ (@xAar _ _ _ _ (@pe_bl _ _ _ _))) (@xAas _)) (@xAab _ _ _ _ _ (@xAen _ _ _ _ _ _ _ _ _ (hu2 hr) (@pv _ 6 _ _ rfl (Or.inr (Or.inl rfl)) rfl rfl) (@pv _ 7 _ _ rfl (Or.inr (Or.inl rfl)) rfl rfl) (@xAav _ _ _ _ _ _ _ _ _ xAej rfl T.b_list boot_list (@xAaa _ _ _ _ _ (@pq _ 10 _ _ rfl) (@xAad _) rfl) (by decide) (by decide) rfl rfl) rfl) (@xAab _ _ _ _ _ (@xAdf _ _ _ _ (@pe_bm _ _ _ _ _ _ _ _ _ _ _ _ PySem.F.plainAttrs_list PySem.F.slot_list_append PySem.F.type_list_append xAcf (@pq _ 10 _ _ rfl) (@xAaa _ _ _ _ _ (@pv _ 7 _ _ rfl (Or.inr (Or.inl rfl)) rfl rfl) (@xAad _) rfl) rfl rfl rfl rfl rfl) rfl) (@xAab _ _ _ _ _ (@ps_if _ _ _ _ _ _ _ _ (@xAao _ _ _ _ _ _ _ _ (xAmt (hu64 hr)) (@xAgo _ _ _ _ _ _ _ _ _ _ _ _ _ _ _ _ _ _ _ _ (@pq _ 3 _ _ rfl) T.C_Folk T.M_fAp gfAp (hr.mono (by decide)) T.d_fAp .nil pass0 (@xAaa _ _ _ _ _ (@pv _ 7 _ _ rfl (Or.inr (Or.inl rfl)) rfl rfl) (@xAad _) rfl) rfl rfl rfl) (@xAbo _ _ _ _ _ _ (hu2 hr) (@pv _ 6 _ _ rfl (Or.inr (Or.inl rfl)) rfl rfl) (@pv _ 7 _ _ rfl (Or.inr (Or.inl rfl)) rfl rfl) (fun _ _=>rfl)) (xAau _)) (@xAaf _ _ _ (@xAar _ _ _ _ (@pe_bl _ _ _ _))) (@xAas _)) (@xAaf _ _ _ (@xAca _ _ _ _ _ _ _ _ PassesOwn.never rfl (@xAbj _ _ _ _ (@pq _ 8 _ _ rfl)) (@xAid _ _ _ _ _ _ rfl (@xAbi _ _ _ _ _ (@xAaq _ _ (11) _ xAci.nd rfl (Or.inl rfl) (.inl rfl)) (@xAbi _ _ _ _ _ (@xAaq _ _ (9) _ xAci.nd rfl (Or.inl rfl) (.inl rfl)) (@xAdu _) rfl) rfl) rfl rfl) (@xAaf _ _ _ (@ps_if _ _ _ _ _ _ _ _ (@xAps _ _ _ _ (@xAao _ _ _ _ _ _ _ _ (op_ltT hu) (@pq _ 11 _ _ rfl) (@xAbo _ _ _ _ _ _ (hu2 hr) (@pq _ 4 _ _ rfl) (@pv _ 7 _ _ rfl (Or.inr (Or.inl rfl)) rfl rfl) (fun _ _=>rfl)) (xAau _))) (@xAaf _ _ _ (@xAar _ _ _ _ (@pe_bl _ _ _ _))) (@xAas _))) (by intro _;rfl))))))))))) (by intro _;rfl)) (@xAab _ _ _ _ _ (@xAca _ _ _ _ _ _ _ _ PassesOwn.never rfl (@xAra _ _ _ _ (@pv _ 6 _ _ rfl (Or.inr (Or.inl rfl)) rfl rfl)) (@xAaq _ _ (7) _ xAci.nd rfl (Or.inr rfl) (.inl rfl)) (@xAaf _ _ _ (@xAca _ _ _ _ _ _ _ _ PassesOwn.never rfl (@xAbj _ _ _ _ (@xAbo _ _ _ _ _ _ (hu2 hr) (@pv _ 6 _ _ rfl (Or.inr (Or.inl rfl)) rfl rfl) (@pv _ 7 _ _ rfl (Or.inr (Or.inl rfl)) rfl rfl) (fun _ _=>rfl))) (@xAaq _ _ (9) _ xAci.nd rfl (Or.inl rfl) (.inl rfl)) (@xAaf _ _ _ (@ps_if _ _ _ _ _ _ _ _ (@xAao _ _ _ _ _ _ _ _ (xAmt (hu64 hr)) (@xAbp _ _ _ _ _ _ _ (["_law_one"]) ([("_law_pasts",6),("_law_name_here",7)]) _ _ _ _ _ rfl (@xAbj _ _ _ _ (@xAbo _ _ _ _ _ _ (hu2 hr) (@pv _ 6 _ _ rfl (Or.inr (Or.inl rfl)) rfl rfl) (@pq _ 9 _ _ rfl) (fun _ _=>rfl))) ⟨rfl,by decide +kernel,by decide +kernel⟩ (xAct (defScope s_fBb) ["_law_script","_law_roll_here","_law_deeds","_law_folk","_law_keys","_law_deed","_law_pasts","_law_name_here","_law_due","_law_other","_law_found","_law_rank"] rfl rfl (fun _ h=>xAcb h) (by decide +kernel) (by decide +kernel) (by decide +kernel)) (fun _ _ _=>(@xAaq _ _ (0) _ (by show List.Nodup (["_law_one","_law_pasts","_law_name_here"]:List Str);decide +kernel) rfl (Or.inl rfl) (.inr rfl))) (fun _=>xAbg rfl) (fun _ _ _=>(@xAjn _ _ _ (@xAao _ _ _ _ _ _ _ _ (xAjs (K:=K) rfl (hu63 hr)) (@pq _ 0 _ _ rfl) (@xAbo _ _ _ _ _ _ (hu2 hr) (@pv _ 1 _ _ rfl (Or.inr (Or.inl rfl)) rfl rfl) (@pv _ 2 _ _ rfl (Or.inr (Or.inl rfl)) rfl rfl) (fun _ _=>rfl)) rfl))) (fun _ _ _=>(@pq _ 0 _ _ rfl)) (by intro _;rfl)) (@xAbd _ _ _ _ (@xAad _)) (xAau _)) (@xAaf _ _ _ (@xAar _ _ _ _ (@pe_bl _ _ _ _))) (@xAas _))) (by intro _;rfl))) (by intro _;rfl)) (@xAaf _ _ _ (@xAar _ _ _ _ (@pe_bl _ _ _ _))))))))))),?_⟩;obtain ⟨sp,ns,rfl,hs,hl,kk⟩:=h;refine ⟨_,rfl,sp,ns,25,rfl,hs,hl,fun H1 p rp dp ws ds des s1 g1 e1 rl h2 nd gd e2 dds W bw hdl=>?_⟩;refine ⟨p,_,rfl,SqT.of e1,rfl,_,_,rfl,_,_,rfl,rfl,?_⟩;have an:=xArh dds;have hdes:des.length=ds.length:=an.1;have few6:=rl.few;obtain ⟨hn,hg⟩:=W.heights;have sw:Sw ws hn ds:=⟨nd,W,hg,fun d hd=>gd_of rl.wd (W.who d hd) (bw d hd).1 (bw d hd).2,hdl⟩;refine ⟨_,rfl,_,rfl,?_⟩;intro x dx nx ndx ne;have sm:=xAnx (o1:=.own x) (o2:=.ins (cC K "Folk") dx []) nx ndx;refine ⟨x,dx,rp,dp,ws,hn,des,ds,ds,rfl,xAae,rl.mono sm,sm _ _ e2,an.imp fun _ _ _ g=>g.mono sm,sw,fun d=>Iff.rfl,by omega,fun H2 ss s2 pe fk=>⟨rfl,?_⟩⟩;have fk:=FK.all fun S h=>fk S fun b z=>(h b z).elim;have W':=W.perm pe;obtain ⟨dz,fs,ob,no⟩:=fk.obj;have s12:Same H1 H2:=sm.trans s2;intro kp H3 g3 s3 e3
 have tk:∀ {j:Nat} {dd:Hs.Dd},ds[j]?=some dd->ds.take (j+1)=ds.take j++[dd]:=fun ed=>by rw [vj,ed];rfl
 have tw:∀ j,∀ d∈ds.take j,d.who<ws.length:=fun j d hd=>W.who d (wy hd)
 have tn:∀ {j:Nat} {dd:Hs.Dd},ds[j]?=some dd->∀ e∈ds.take j,¬ (e.who=dd.who/\e.num=dd.num):=fun {j dd} ed e he=>by
  obtain ⟨i,hi,rfl⟩:=zx he;obtain ⟨hj,rfl⟩:=qx.mp ed;rw [z0] at hi;rw [gg];exact z8.mp W.uniq i j (by omega) hj (by omega)
 refine ⟨_,rfl,dp,rfl,⟨_,SqL.of ((s12.trans s3) _ _ e2)⟩,xAbs (xs:=des) (fun j σ H4=>∃ kvs u5,σ=[some (.ref sp),some (.ref rp),some (.ref dp),some (.ref x),some (.ref kp),u5,none,none,none,none,none,none]/\Same H2 H4/\H4 kp=some (.dG kvs)/\ND (fun v d=>DT H4 v (Hs.kyD hn d)) H4 ws kvs (ds.take j)) ⟨[],_,rfl,s3,e3,.nil⟩ (fun j σ H4 _ ⟨_,_,_,s,_⟩=>SqL.of ((s12.trans s) _ _ e2)) ?_ ?_⟩
 ·rintro j v σ H4 hx ⟨kvs,u5,rfl,s4,ek,nk⟩
  obtain ⟨dd,ed,da0⟩:=an.at hx;have hm:dd∈ds:=qo ed;have hw:=W.who dd hm;obtain ⟨q,hq,b,y,rfl,eq1,eq2⟩:=DeedAt.out (da0.mono (s12.trans s4));refine ⟨_,rfl,x,dz,_,rfl,s4 _ _ ob,no _ (by decide +kernel),_,rfl,q,_,0,_,rfl,rfl,SqT.of eq1,rfl,_,rfl,q,_,1,_,rfl,rfl,SqT.of eq1,rfl,szOk rfl,fun n1 H5 g5 s5 e5=>?_⟩;refine ⟨x,_,ws,hn,ss,dd,rfl,(fk.same (s4.trans s5)).ko,xAgi e5,pe.mem_iff.mpr hm,hw,nd,fun H6 kv s6 hkv=>?_⟩;have s46:=s5.trans s6;refine ⟨_,rfl,_,rfl,q,_,0,_,rfl,rfl,SqT.of (s46 _ _ eq1),rfl,_,rfl,q,_,1,_,rfl,rfl,SqT.of (s46 _ _ eq1),rfl,szOk rfl,fun n2 H7 g7 s7 e7=>?_⟩;have s47:=s46.trans s7;have ek7:=s47 _ _ ek
  have hkl:kvs.length≤63:=by rw [nk.1,z0];omega
  have tu:Tups H7 (upd H7 kp (.dG (pG kvs (kD ws dd) (.ref n2) kv))):=xAcm ek7 fun _ z=>by cases z
  have nm7:NmV H7 ws (.ref n2) (nm dd):=xAgi e7;refine ⟨kp,kvs,kD ws dd,rfl,ek7,nm7,xAak (by omega),_,_,rfl,(s4.trans s47).wr g3,xAae,?_⟩;rw [tk ed];exact ND.put nd (tw j) (nk.go (fun b xs h=>tu _ _ (s47 _ _ h)) fun v d h=>DT.tups tu (h.same s47)) hw (tn ed) (xAck nm7 tu) (DT.tups tu (hkv.same s7))
 rintro σ H4 ⟨kvs,u5,rfl,s4,ek,nk⟩;rw [hdes,z9] at nk;have hkl:kvs.length=ds.length:=nk.1;refine ⟨_,rfl,kp,kvs,rfl,.inl ek,by omega,fun vp H5 g5 s5 e5=>?_⟩;refine ⟨vp,_,ds.map (kyK hn),rfl,SqL.of e5,by rw [qg,qg,hkl],?_,xArn W hg,by rw [qg];exact hdl,fun sq H6 g6 s6 e6=>?_⟩
 ·intro i y ks h1 h2
  rw [ql] at h1 h2
  cases e1:kvs[i]? with
  | none=>rw [e1] at h1;cases h1
  | some e =>
   cases e2:ds[i]? with
   | none=>rw [e2] at h2;cases h2
   | some d =>
    rw [e1] at h1;rw [e2] at h2;cases h1;cases h2;obtain ⟨b,eb,hb⟩:=dt_ky ((nk.2 i e d e1 e2).2.2.same s5);exact ⟨b,eb,hb⟩
 have s26:=(s4.trans s5).trans s6;refine ⟨sq,_,rfl,by rw [qg];omega,e6,_,rfl,dp,_,rfl,.inl (SqL.of ((s12.trans s26) _ _ e2)),rfl,_,rfl,itF ?_ ?_⟩
 ·rw [qg,hdes]
  simp
 intro pp H7 g7 s7 e7;have s16:=s12.trans s26;have fk6:=fk.same s26;have ob6:=s26 _ _ ob;have s46:=s5.trans s6;have ek6:=s46 _ _ ek;have nk6:ND (fun v d=>DT H6 v (Hs.kyD hn d)) H6 ws kvs ds:=nk.go (fun b xs h=>s46 _ _ h) fun v d h=>h.same s46;have dep:∀ {k:Nat} {a b:PyData},GC k a->k≤64->min a.depth b.depth≤64:=fun g hk=>qm (Nat.min_le_left _ _) (qm g.dep hk)
 have fin:∀ {a:PyData} {k:Nat},GC k a->(if true=true then !PyData.eqv a a else PyData.eqv a a)=false:=fun g=>by rw [g.self];rfl
 have gN:∀ c:Hs.Dd,GC 2 (.list ((ss.filter (Hs.inC c.hd)).map (nmD ws))):=fun c=>.lst fun d hd=>by
  obtain ⟨e,he,rfl⟩:=qk.mp hd;exact gc_nm rl.wd (W'.who e (zd.mp he).1)
 have fl:∀ c:Hs.Dd,(ss.filter (Hs.inC c.hd)).length≤63:=fun c=>qm (vk _ _) (by rw [pe.length_eq];exact hdl)
 refine ⟨_,rfl,dp,rfl,⟨_,SqL.of ((s16.trans s7) _ _ e2)⟩,xAbs (xs:=des) (fun j σ Z=>∃ pvs u5 u7 u8 u9 u10 u11,σ=[some (.ref sp),some (.ref rp),some (.ref dp),some (.ref x),some (.ref kp),u5,some (.ref pp),u7,u8,u9,u10,u11]/\Same H6 Z/\Z pp=some (.dG pvs)/\ND (fun v d=>PV (del Z pp) ws (ss.filter (Hs.inC d.hd)) v) (del Z pp) ws pvs (ds.take j)) ⟨[],_,_,_,_,_,_,rfl,s7,e7,.nil⟩ (fun j σ Z _ ⟨_,_,_,_,_,_,_,_,s,_⟩=>SqL.of ((s16.trans s) _ _ e2)) ?_ ?_⟩
 ·rintro j v σ Z hx ⟨pvs,u5,u7,u8,u9,u10,u11,rfl,sZ,ep,np⟩
  obtain ⟨dd,ed,da0⟩:=an.at hx;have hm:dd∈ds:=qo ed;have hms:dd∈ss:=pe.mem_iff.mpr hm;have hw:=W.who dd hm;obtain ⟨q,hq,b,y,rfl,eq1,eq2⟩:=DeedAt.out (da0.mono (s16.trans sZ));refine ⟨_,rfl,q,_,0,_,rfl,rfl,SqT.of eq1,rfl,_,rfl,q,_,1,_,rfl,rfl,SqT.of eq1,rfl,szOk rfl,fun nq B1 gn sn en=>?_⟩;refine ⟨szOk rfl,fun uq B2 gu su eu0=>?_⟩;have nmB:NmV B1 ws (.ref nq) (nm dd):=xAgi en;have s61:Same H6 B1:=sZ.trans sn;refine ⟨_,rfl,dp,rfl,⟨_,SqL.of ((s16.trans (s61.trans su)) _ _ e2)⟩,xAbs (xs:=des) (fun i σ Y=>∃ dues u9,σ=[some (.ref sp),some (.ref rp),some (.ref dp),some (.ref x),some (.ref kp),some (.ref q),some (.ref pp),some (.ref nq),some (.ref uq),u9,u10,u11]/\Same B1 Y/\Y uq=some (.lst dues)/\A2 (DuAt Y ws hn) dues ((ds.take i).filter (Hs.inC dd.hd))) ⟨[],_,rfl,su,eu0,.nil⟩ (fun i σ Y _ ⟨_,_,_,s,_⟩=>SqL.of ((s16.trans (s61.trans s)) _ _ e2)) ?_ ?_⟩
  ·rintro i v σ Y hx2 ⟨dues,u9,rfl,sY,eu,du⟩
   obtain ⟨e,ee,de0⟩:=an.at hx2;have hme:e∈ds:=qo ee;have hwe:=W.who e hme;have s6Y:=s61.trans sY;have s1Y:=s16.trans s6Y;obtain ⟨q2,hq2,b2,y2,rfl,f1,f2⟩:=DeedAt.out (de0.mono s1Y);obtain ⟨i1,i2⟩:=xAvk nd hwe;obtain ⟨kv,ekv,hkv⟩:=ND.get nd W.who nk6 W.uniq hme;refine ⟨_,rfl,q2,_,1,_,rfl,rfl,SqT.of f1,rfl,_,rfl,q,_,2,_,rfl,rfl,SqT.of ((sn.trans sY) _ _ eq1),rfl,_,rfl,.inl ⟨rfl,_,SqL.of (s1Y _ _ rl.at')⟩,_,rfl,q2,_,0,_,rfl,rfl,SqT.of f1,rfl,_,_,rp,_,_,e.who,rfl,rfl,.str _,SqL.of (s1Y _ _ rl.at'),rl_dvs ws,xAbw (rl.wd _ (w_mem hwe)),rl_lay rl.wd,qu _,i1,i2,?_⟩;refine ⟨hq,_,(e.who:Int),_,rfl,rfl,SqT.of ((sn.trans sY) _ _ eq2),xAcp (xAvf (by rw [W.len dd hm];exact hwe)),_,_,rfl,rfl,_,rfl,ite2 (fun h0=>?_) (fun h0=>?_)⟩
   ·have h1:Hs.inC dd.hd e=true:=decide_eq_true (Int.ofNat_le.mp (of_decide_eq_true h0))
    refine ⟨_,rfl,.inl ⟨rfl,_,SqL.of eu⟩,_,rfl,_,rfl,q2,_,0,_,rfl,rfl,SqT.of f1,rfl,_,rfl,q2,_,1,_,rfl,rfl,SqT.of f1,rfl,szOk rfl,fun n3 Y3 g3' s3' e3'=>?_⟩;refine ⟨kp,kvs,kD ws e,kv,rfl,.inl ((s6Y.trans s3') _ _ ek6),xAgi e3',ekv,_,rfl,q2,_,0,_,rfl,rfl,SqT.of (s3' _ _ f1),rfl,_,rfl,q2,_,1,_,rfl,rfl,SqT.of (s3' _ _ f1),rfl,szOk rfl,fun n4 Y4 g4' s4' e4'=>?_⟩;refine ⟨szOk rfl,fun n5 Y5 g5' s5' e5'=>?_⟩;have sY5:=(s3'.trans s4').trans s5';have eu5:=sY5 _ _ eu
    have hul:dues.length≤63:=by
     rw [du.1];exact qm (vk _ _) (by rw [z0];omega)
    have tu:Tups Y5 (upd Y5 uq (.lst (dues++[.ref n5]))):=xAcm eu5 fun _ z=>by cases z
    refine ⟨uq,dues,_,rfl,rfl,eu5,xAak (by omega),dues++[.ref n5],_,rfl,(sY.trans sY5).wr gu,xAae,?_⟩;rw [tk ee,jh,ji h1];exact (du.imp fun _ _ _ g=>g.tups fun b xs h=>tu _ _ (sY5 _ _ h)).snoc ⟨n5,kv,.ref n4,rfl,tu _ _ e5',DT.tups tu (hkv.same (s6Y.trans sY5)),xAck (xAgi (s5' _ _ e4')) tu⟩
   ·have h1:¬ Hs.inC dd.hd e=true:=fun z=>h0 (decide_eq_true (Int.ofNat_le.mpr (of_decide_eq_true z)))
    refine ⟨dues,_,rfl,sY,eu,?_⟩;rw [tk ee,jh,j8 h1];exact (vm _).symm▸du
  rintro σ Y ⟨dues,u9,rfl,sY,eu,du⟩;rw [hdes,z9] at du;have s6Y:=s61.trans sY;have hfl:(ds.filter (Hs.inC dd.hd)).length≤63:=qm (vk _ _) hdl;refine ⟨_,rfl,x,dz,_,rfl,s6Y _ _ ob6,no _ (by decide +kernel),_,rfl,x,_,ws,hn,ss,dd,rfl,fk6.same s6Y,xAaw sY nmB,hms,fun Y1 fq fns s1' gf ef na=>?_⟩;have pf:PV Y1 ws (ss.filter (Hs.inC dd.hd)) (.ref fq):=⟨fq,fns,rfl,ef,na.ofmap⟩;refine ⟨_,rfl,_,_,_,true,rfl,.lst ef,if_pos (by rfl),_,rfl,itF rfl ?_⟩;refine ⟨_,rfl,_,rfl,uq,dues,(ds.filter (Hs.inC dd.hd)).map (duD ws hn),4,rfl,SqL.of (s1' _ _ eu),A2.dvs (A2.mapr (du.imp fun _ _ _ g=>(g.tups fun b xs h=>s1' _ _ h).dv)),xAvz rl.wd hn _ (fun d hd=>W.who d (zd.mp hd).1),by rw [du.1];omega,fun zq Y2 ix gz s2' six ez=>?_⟩
  have hix:∀ i∈ix,i<(ds.filter (Hs.inC dd.hd)).length:=fun i hi=>by
   have:=zp.mp (six.1.mem_iff.mp hi)
   rwa [qg] at this
  have so:=Hs.sorted_of (W.within (W.past dd hm)) (hg.sub fun d hd=>(zd.mp hd).1) (six_of (fun a b h=>du_lt h) six) dd;have ejs:(ix.map fun i=>(ds.filter (Hs.inC dd.hd)).getD i dd)=ss.filter (Hs.inC dd.hd):=Hs.klt.eq so.2 (fk.upw.filter _) (so.1.trans (pe.symm.filter _));have ad:=(du.imp (R':=DuAt Y2 ws hn) fun _ _ _ g=>g.tups fun b xs h=>(s1'.trans s2') _ _ h).ix (a:=.non) (b:=dd) ix hix;rw [ejs] at ad;refine ⟨zq,rfl,⟨_,SqL.of ez⟩,lc_A3 (α:=Hs.Dd) (js:=ss.filter (Hs.inC dd.hd)) (fun H v e=>DuAt H ws hn v e) (fun H v e=>NmV H ws v (nm e)) (fun _ _ _ _ s g=>g.tups fun b xs h=>s _ _ h) (fun _ _ _ _ s g=>xAaw s g) (SqL.of ez) (by rw [ad.1];have:=fl dd;omega) ad ?_ ?_⟩
  ·intro v e Y3 K1 hme s3' hv k1
   obtain ⟨b3,kv,nv,rfl,eb,_,hnv⟩:=id hv;exact ⟨_,rfl,b3,_,1,_,rfl,rfl,SqT.of eb,rfl,k1 _ _ (Same.refl _) hnv⟩
  intro Y3 lq lns s3' gl el al;have s13':=s2'.trans s3';refine ⟨_,_,(pf.same s13').dv,PV.dv ⟨lq,lns,rfl,el,al⟩,(gN dd).lay,(gN dd).lay,dep (gN dd) (by decide),_,rfl,itF (fin (gN dd)) ?_⟩;refine ⟨_,rfl,fq,fns,rfl,.inl (SqL.of (s13' _ _ ef)),fun cq Y4 gc s4' ec=>?_⟩;have s14':=s13'.trans s4';have sY4:=s1'.trans s14';have sZ4:=(sn.trans sY).trans sY4;have ep4:=sZ4 _ _ ep
  have hpl:pvs.length≤63:=by rw [np.1,z0];omega
  have nm4:NmV Y4 ws (.ref nq) (nm dd):=xAaw (sY.trans sY4) nmB;refine ⟨_,rfl,_,rfl,pp,pvs,kD ws dd,rfl,ep4,nm4,xAak (by omega),?_⟩
  have nfp:fq≠pp:=fun z=>by rw [z,(sn.trans sY) _ _ ep] at gf;cases gf
  have nfu:fq≠uq:=fun z=>by rw [z,eu] at gf;cases gf
  have ncf:cq≠fq:=fun z=>by rw [z,s13' _ _ ef] at gc;cases gc
  have ncp:cq≠pp:=fun z=>by rw [z,((sn.trans sY).trans (s1'.trans s13')) _ _ ep] at gc;cases gc
  have nup:uq≠pp:=ne_of (sY4 _ _ eu) ep4 fun z=>by cases z
  have ef5:(upd Y4 pp (.dG (pG pvs (kD ws dd) (.ref nq) (.ref cq)))) fq=some (.lst fns):=by
   rw [xAah nfp];exact s14' _ _ ef
  have hfn:fns.length≤63:=by rw [na.1,qg];exact fl dd
  refine ⟨_,rfl,.inl ⟨rfl,_,SqL.of ef5⟩,_,rfl,fq,fns,_,rfl,rfl,ef5,xAak (by omega),?_⟩;have f6:H6 fq=none:=s6Y.free gf;have s66:Same H6 (upd (upd Y4 pp (.dG (pG pvs (kD ws dd) (.ref nq) (.ref cq)))) fq (.lst (fns++[.ref nq]))):=(((sZ.trans sZ4).wr g7).wr f6)
  have t46:Tups Y4 (upd (upd Y4 pp (.dG (pG pvs (kD ws dd) (.ref nq) (.ref cq)))) fq (.lst (fns++[.ref nq]))):=fun b xs h=>xAcm ef5 (fun _ z=>by cases z) _ _ (xAcm ep4 (fun _ z=>by cases z) _ _ h)
  have ep6:(upd (upd Y4 pp (.dG (pG pvs (kD ws dd) (.ref nq) (.ref cq)))) fq (.lst (fns++[.ref nq]))) pp=some (.dG (pG pvs (kD ws dd) (.ref nq) (.ref cq))):=by rw [xAah nfp.symm];exact xAae
  have eu6:(upd (upd Y4 pp (.dG (pG pvs (kD ws dd) (.ref nq) (.ref cq)))) fq (.lst (fns++[.ref nq]))) uq=some (.lst dues):=by rw [xAah nfu.symm,xAah nup];exact sY4 _ _ eu
  have ec6:(upd (upd Y4 pp (.dG (pG pvs (kD ws dd) (.ref nq) (.ref cq)))) fq (.lst (fns++[.ref nq]))) cq=some (.lst fns):=by rw [xAah ncf,xAah ncp];exact ec
  have sd:Same (del Z pp) (del (upd (upd Y4 pp (.dG (pG pvs (kD ws dd) (.ref nq) (.ref cq)))) fq (.lst (fns++[.ref nq]))) pp):=xArq fun b o hb h=>by
   have:b≠fq:=fun z=>by rw [z,(sn.trans sY).free gf] at h;cases h
   rw [xAah this,xAah hb];exact sZ4 _ _ h
  show tSeq _ _ _ _ (upd (upd Y4 pp (.dG (pG pvs (kD ws dd) (.ref nq) (.ref cq)))) fq (.lst (fns++[.ref nq])));generalize upd (upd Y4 pp (.dG (pG pvs (kD ws dd) (.ref nq) (.ref cq)))) fq (.lst (fns++[.ref nq]))=Y6 at s66 t46 ep6 eu6 ec6 sd;have nm6:=xAck nm4 t46
  have td:Tups Y6 (del Y6 pp):=xArm ep6 fun _ z=>by cases z
  have pc:PV (del Y6 pp) ws (ss.filter (Hs.inC dd.hd)) (.ref cq):=⟨cq,fns,rfl,xAnw ec6 ncp,na.ofmap.imp fun _ _ _ g=>xAck (xAck (xAaw s14' g) t46) td⟩
  have np6:ND (fun v d=>PV (del Y6 pp) ws (ss.filter (Hs.inC d.hd)) v) (del Y6 pp) ws (pG pvs (kD ws dd) (.ref nq) (.ref cq)) (ds.take (j+1)):=by
   rw [tk ed];exact ND.put nd (tw j) (np.go (fun b xs h=>sd _ _ h) fun v d h=>h.same sd) hw (tn ed) (xAck nm6 td) pc
  have du6:=du.imp (R':=DuAt Y6 ws hn) fun _ _ _ g=>g.tups fun b xs h=>t46 _ _ (sY4 _ _ h)
  have vp:vG (pG pvs (kD ws dd) (.ref nq) (.ref cq)) (kD ws dd)=some (.ref cq):=by rw [xAuf,if_pos rfl]
  generalize pG pvs (kD ws dd) (.ref nq) (.ref cq)=pvs' at ep6 np6 vp;refine ⟨_,rfl,x,dz,_,rfl,s66 _ _ ob6,no _ (by decide +kernel),_,rfl,x,_,ws,hn,ss,dd,rfl,fk6.same s66,nm6,hms,fun Y7 fq2 fns2 s7' gf2 ef2 na2=>?_⟩;refine ⟨_,rfl,_,rfl,pp,pvs',kD ws dd,.ref cq,rfl,.inl (s7' _ _ ep6),xAaw s7' nm6,vp,_,_,PV.dv ⟨fq2,fns2,rfl,ef2,na2.ofmap⟩,((pc.same (xAbx _ _)).same s7').dv,(gN dd).lay,(gN dd).lay,dep (gN dd) (by decide),_,rfl,itF (fin (gN dd)) ?_⟩;obtain ⟨kv,ekv,hkv⟩:=ND.get nd W.who nk6 W.uniq hm;refine ⟨_,rfl,uq,rfl,⟨_,SqL.of (s7' _ _ eu6)⟩,xAbs (xs:=dues) (fun i σ Y=>∃ u9 u11,σ=[some (.ref sp),some (.ref rp),some (.ref dp),some (.ref x),some (.ref kp),some (.ref q),some (.ref pp),some (.ref nq),some (.ref uq),u9,some (.ref fq),u11]/\Same Y6 Y) ⟨_,_,rfl,s7'⟩ (fun i σ Y _ ⟨_,_,_,s⟩=>SqL.of (s _ _ eu6)) ?_ ?_⟩
  ·rintro i v σ Y' hx3 ⟨u9,u11,rfl,s8⟩
   obtain ⟨e,ee,hv⟩:=du6.at hx3;have hef:=zd.mp (qo ee);obtain ⟨b3,kv3,nv3,rfl,eb3,hk3,hn3⟩:=id hv;obtain ⟨c3,rfl,ec3⟩:=dt_ky (hk3.same s8);obtain ⟨c4,rfl,ec4⟩:=dt_ky (hkv.same (s66.trans s8));refine ⟨b3,_,rfl,SqT.of (s8 _ _ eb3),rfl,_,_,rfl,_,_,rfl,rfl,?_⟩;refine ⟨_,rfl,_,rfl,_,rfl,kp,kvs,kD ws dd,_,rfl,.inl ((s66.trans s8) _ _ ek6),xAaw s8 nm6,ekv,c3,c4,[_,_],[_,_],rfl,rfl,SqT.of ec3,SqT.of ec4,_,rfl,itF ?_ ⟨_,_,rfl,s8⟩⟩;rw [xArp (xAro W hg hm hef.1 hef.2)];rfl
  rintro σ Y' ⟨u9,u11,rfl,s8⟩;exact ⟨pvs',_,_,_,_,_,_,rfl,s66.trans s8,s8 _ _ ep6,np6.go (fun b xs h=>s8.cuts _ _ h) fun v d h=>h.same s8.cuts⟩
 rintro σ Z ⟨pvs,u5,u7,u8,u9,u10,u11,rfl,sZ,ep,np⟩;rw [hdes,z9] at np;refine ⟨_,rfl,pp,pvs,rfl,.inl ⟨ep,fun o=>xAnj (fun i σ Y=>∃ u7 u9,σ=[some (.ref sp),some (.ref rp),some (.ref dp),some (.ref x),some (.ref kp),u5,some (.ref pp),u7,u8,u9,u10,u11]/\Y pp=some (.frz o (.dG pvs))/\Same H6 Y/\Same (del Z pp) (del Y pp)) ⟨_,_,rfl,xAae,sZ.wr g7,by rw [xAdp];exact Same.refl _⟩ (fun i σ Y ⟨_,_,_,h,_⟩=>h) ?_ ?_⟩⟩
 ·rintro i e σ Y hk ⟨u7,u9,rfl,ey,sY,sd⟩
  obtain ⟨d,ed,h1,h2,_⟩:=np.at hk;have hd:d∈ds:=qo ed;have sD:Same (del Z pp) Y:=sd.trans (xAbx _ _);obtain ⟨v,ev,p1,ns1,rfl,ep1,an1⟩:=ND.get nd W.who np W.uniq hd;have nmY:NmV Y ws e.2.1 (nm d):=xAaw sD h2;refine ⟨_,rfl,_,rfl,pp,pvs,kD ws d,_,rfl,.inr ⟨o,ey⟩,nmY,ev,p1,rfl,⟨_,SqL.of (sD _ _ ep1)⟩,xAbs (xs:=ns1) (fun i σ Y'=>∃ u9,σ=[some (.ref sp),some (.ref rp),some (.ref dp),some (.ref x),some (.ref kp),u5,some (.ref pp),some e.2.1,u8,u9,u10,u11]/\Same Y Y') ⟨_,rfl,Same.refl _⟩ (fun i σ Y' _ ⟨_,_,s⟩=>SqL.of ((sD.trans s) _ _ ep1)) ?_ ?_⟩
  ·rintro i v σ Y' hx ⟨u9,rfl,s8⟩
   obtain ⟨f,ef,hv⟩:=an1.at hx;have hf:=zd.mp (qo ef);have hfd:f∈ds:=pe.mem_iff.mp hf.1;obtain ⟨v2,ev2,p2,ns2,rfl,ep2,an2⟩:=ND.get nd W.who np W.uniq hfd;have sD8:=sD.trans s8;refine ⟨_,rfl,_,rfl,pp,pvs,kD ws f,_,rfl,.inr ⟨o,s8 _ _ ey⟩,xAaw sD8 hv,ev2,p2,rfl,⟨_,SqL.of (sD8 _ _ ep2)⟩,lc_A2 (α:=Hs.Dd) (β:=Hs.Dd) (js:=ss.filter (Hs.inC f.hd)) (fun H v e=>NmV H ws v (nm e)) (fun _ _ _=>False) (fun _=>none) (fun _ _ _ _ s g=>xAaw s g) (fun _ _ _ _ _ g=>g) (SqL.of (sD8 _ _ ep2)) (by rw [an2.1];have:=fl f;omega) (an2.imp fun _ _ _ g=>xAaw sD8 g) ?_ ?_⟩
   ·intro v g Y9 K1 K0 hg9 s9 hv9 k1 k0
    have hg:=zd.mp hg9;have hgd:g∈ds:=pe.mem_iff.mp hg.1;have hgw:=W.who g hgd;have sD9:=sD8.trans s9;refine ⟨_,rfl,_,rfl,_,rfl,pp,pvs,kD ws d,_,rfl,.inr ⟨o,(s8.trans s9) _ _ ey⟩,xAaw (s8.trans s9) nmY,ev,_,p1,(ss.filter (Hs.inC d.hd)).map (nmD ws),_,(NmV.dt hv9).dv,rfl,.inl (SqL.of (sD9 _ _ ep1)),A2.dvs (A2.mapr (an1.imp fun _ _ _ g=>(NmV.dt (xAaw sD9 g)).dv)),(gc_nm rl.wd hgw).lay,(gN d).lay,qm (gc_nm rl.wd hgw).dep (by decide),_,rfl,itF ?_ (k0 _ rfl (Same.refl _))⟩;rw [in_pv rl.wd (zd.mpr ⟨hg.1,xAwa W hd hfd hgd hf.2 hg.2⟩) hgw];rfl
   intro Y9 zq zs s9 gz ez az;obtain rfl:zs=[]:=List.eq_nil_of_length_eq_zero (by rw [az.1];simp);refine ⟨szOk rfl,fun lq Y10 gl s10 el=>?_⟩;exact ⟨.list [],.list [],.lst (SqL.of (s10 _ _ ez)) .nil,.lst (SqL.of el) .nil,rfl,rfl,by decide,_,rfl,itF rfl ⟨_,rfl,(s8.trans s9).trans s10⟩⟩
  rintro σ Y' ⟨u9,rfl,s8⟩;exact ⟨_,_,rfl,s8 _ _ ey,sY.trans s8,sd.trans s8.cuts⟩
 rintro σ Y ⟨u7,u9,rfl,ey,sY,sd⟩;exact kk Y (s1.trans (s16.trans sY))
end
inductive FX (K:PySem.W.Frag) (n:Str) (s:Stmt):Prop
 | mk {a:Addr} {od an:Option Addr} {sl:Array (Option Value)} {oc kV dc pm cd ct:Value} (z1:PySem.W.nsIn K mainGlobals n=some (some (.ref a))) (z2:K.lookup a=some ⟨oc,od,.func (PySem.W.fnOf n n (defArgs s) (defBody s) (defScope s) .none kV dc pm an cd ct),sl⟩) (z3:PySem.W.codeIn K cd n=true) (z4:PySem.W.keepIn K (.ref a)=true):FX K n s
theorem FX.out {K:PySem.W.Frag} {n:Str} {s:Stmt} (h:FX K n s):∃ a kV dc pm an cd ct,PySem.W.nsIn K mainGlobals n=some (some (.ref a))/\Fun K n n s a (PySem.W.fnOf n n (defArgs s) (defBody s) (defScope s) .none kV dc pm an cd ct)/\PySem.W.keepIn K (.ref a)=true:=by
 obtain ⟨z1,z2,z3,z4⟩:=h;exact ⟨_,_,_,_,_,_,_,z1,xAsp (st:=s) z2 z3 z4,z4⟩
inductive CX (K:PySem.W.Frag) (C:Addr):Prop
 | mk (z1:PySem.W.plainGet K C Str.empty=true) (z2:PySem.W.hasDictIn K C=true) (z3:PySem.W.plainOver K C=true) (z4:PySem.W.findIn K (.ref C) "__setattr__"=some (some (.builtin "object.__setattr__"))) (z5:PySem.W.makesIn K C=true) (z6:PySem.W.keepIn K (.ref C)=true):CX K C
theorem CX.out {K:PySem.W.Frag} {C:Addr} (h:CX K C):Cls K C/\PySem.W.makesIn K C=true/\PySem.W.keepIn K (.ref C)=true:=by
 obtain ⟨z1,z2,z3,z4,z5,z6⟩:=h;exact ⟨⟨z1,z2,z3,z4⟩,z5,z6⟩
inductive MX (K:PySem.W.Frag) (C:Addr) (n q:Str) (b:Bool) (s:Stmt):Prop
 | mk {a:Addr} {od an:Option Addr} {sl:Array (Option Value)} {oc kV dc pm cd ct:Value} (z1:PySem.W.findIn K (.ref C) n=some (some (.ref a))) (z2:K.lookup a=some ⟨oc,od,.func (PySem.W.fnOf n q (defArgs s) (defBody s) (defScope s) .none kV dc pm an cd ct),sl⟩) (z3:PySem.W.codeIn K cd q=true) (z4:PySem.W.keepIn K (.ref a)=true) (z5:PySem.W.isFn K (.ref a)=true) (z6:b=true->PySem.W.specialIn K (.ref a) "__get__"=some (some (.builtin "function.__get__"))/\PySem.W.takesIn K (.ref a)=some false):MX K C n q b s
theorem MX.out {K:PySem.W.Frag} {C:Addr} {n q:Str} {b:Bool} {s:Stmt} (h:MX K C n q b s):∃ a kV dc pm an cd ct,Meth K C n a/\Fun K n q s a (PySem.W.fnOf n q (defArgs s) (defBody s) (defScope s) .none kV dc pm an cd ct)/\PySem.W.keepIn K (.ref a)=true/\(b=true->PySem.W.specialIn K (.ref a) "__get__"=some (some (.builtin "function.__get__"))/\PySem.W.takesIn K (.ref a)=some false):=by
 obtain ⟨z1,z2,z3,z4,z5,z6⟩:=h;exact ⟨_,_,_,_,_,_,_,⟨z1,z5,z4⟩,xAsp (st:=s) z2 z3 z4,z4,z6⟩
theorem all_mk {l:PySem.W.OpenLaw} {w:World} {K:PySem.W.Frag} {h:Heap} {mg:Str->Option Value} {fa:Addr} (X:K.In h) (G:h.Ns mainGlobals mg) (hfa:mg "law"=some (.ref fa))
  {ac_Folk:Addr}
  (zb_all:PySem.W.nsIn K mainGlobals "all"=some none)
  (zb_dict:PySem.W.nsIn K mainGlobals "dict"=some none)
  (zb_enumerate:PySem.W.nsIn K mainGlobals "enumerate"=some none)
  (zb_int:PySem.W.nsIn K mainGlobals "int"=some none)
  (zb_isinstance:PySem.W.nsIn K mainGlobals "isinstance"=some none)
  (zb_len:PySem.W.nsIn K mainGlobals "len"=some none)
  (zb_list:PySem.W.nsIn K mainGlobals "list"=some none)
  (zb_max:PySem.W.nsIn K mainGlobals "max"=some none)
  (zb_range:PySem.W.nsIn K mainGlobals "range"=some none)
  (zb_set:PySem.W.nsIn K mainGlobals "set"=some none)
  (zb_sorted:PySem.W.nsIn K mainGlobals "sorted"=some none)
  (zb_sum:PySem.W.nsIn K mainGlobals "sum"=some none)
  (zb_tuple:PySem.W.nsIn K mainGlobals "tuple"=some none)
  (zb_zip:PySem.W.nsIn K mainGlobals "zip"=some none)
  (zg_Folk:PySem.W.nsIn K mainGlobals "Folk"=some (some (.ref ac_Folk)))
  (zk_Folk:CX K ac_Folk)
  (zn_Folk_hands:PySem.W.findIn K (.ref ac_Folk) "hands"=some none)
  (zn_Folk_heights:PySem.W.findIn K (.ref ac_Folk) "heights"=some none)
  (zn_Folk_kept_book:PySem.W.findIn K (.ref ac_Folk) "kept_book"=some none)
  (zn_Folk_seats:PySem.W.findIn K (.ref ac_Folk) "seats"=some none)
  (zn_Folk_sorted_names:PySem.W.findIn K (.ref ac_Folk) "sorted_names"=some none)
  (zn_Folk_told:PySem.W.findIn K (.ref ac_Folk) "told"=some none)
  (z_fBa:FX K "name_of" s_fBa)
  (z_fAz:FX K "by_names" s_fAz)
  (z_fAl:FX K "last_heard" s_fAl)
  (z_fAd:FX K "had_heard_as_much" s_fAd)
  (z_fAn:FX K "check_past" s_fAn)
  (z_fAf:FX K "how_many_heard" s_fAf)
  (z_fAo:FX K "heights_of" s_fAo)
  (z_fAx:FX K "seats_of" s_fAx)
  (z_fAm:FX K "_law_draws" s_fAm)
  (z_fAr:FX K "_law_word" s_fAr)
  (z_fAq:FX K "_law_roll" s_fAq)
  (z_fAw:FX K "_law_name" s_fAw)
  (z_fAt:FX K "_law_part" s_fAt)
  (z_fAg:FX K "_law_sign_name" s_fAg)
  (z_fAu:FX K "_law_side" s_fAu)
  (z_fAv:FX K "_law_sign" s_fAv)
  (z_fAk:FX K "_law_signs" s_fAk)
  (z_fAe:FX K "_law_sign_names" s_fAe)
  (z_fAb:FX K "_law_what_of_signs" s_fAb)
  (z_fAa:FX K "_law_what_of_marks" s_fAa)
  (z_fAs:FX K "_law_what" s_fAs)
  (z_fAi:FX K "_law_branch" s_fAi)
  (z_fAj:FX K "_law_house" s_fAj)
  (z_fBb:FX K "law" s_fBb)
  (z_fAh:MX K ac_Folk "__init__" "Folk.__init__" false s_fAh)
  (z_fAy:MX K ac_Folk "key" "Folk.key" true s_fAy)
  (z_fAp:MX K ac_Folk "past" "Folk.past" false s_fAp)
  (z_fAc:MX K ac_Folk "names_within" "Folk.names_within" false s_fAc) :
  ∃ fd:FuncData,(∀ (s:Shared) (v:Value),BindsTo s fd ⟨[v],[]⟩ [("_law_script",v)])/\∀ base:Heap,K.In base->base.Ns mainGlobals mg->FnOk l.prog w K mg base CX0 8 fa fd ["_law_script"] (sp_fBb K):=by
 obtain rfl:cC K "Folk"=ac_Folk:=by unfold cC;rw [zg_Folk]
 obtain ⟨c1_Folk,c2_Folk,c3_Folk⟩:=zk_Folk.out;obtain ⟨a_fBa,_,_,_,_,_,_,y_fBa,F_fBa,k_fBa⟩:=z_fBa.out;obtain ⟨a_fAz,_,_,_,_,_,_,y_fAz,F_fAz,k_fAz⟩:=z_fAz.out;obtain ⟨a_fAl,_,_,_,_,_,_,y_fAl,F_fAl,k_fAl⟩:=z_fAl.out;obtain ⟨a_fAd,_,_,_,_,_,_,y_fAd,F_fAd,k_fAd⟩:=z_fAd.out;obtain ⟨a_fAn,_,_,_,_,_,_,y_fAn,F_fAn,k_fAn⟩:=z_fAn.out;obtain ⟨a_fAf,_,_,_,_,_,_,y_fAf,F_fAf,k_fAf⟩:=z_fAf.out;obtain ⟨a_fAo,_,_,_,_,_,_,y_fAo,F_fAo,k_fAo⟩:=z_fAo.out;obtain ⟨a_fAx,_,_,_,_,_,_,y_fAx,F_fAx,k_fAx⟩:=z_fAx.out;obtain ⟨a_fAm,_,_,_,_,_,_,y_fAm,F_fAm,k_fAm⟩:=z_fAm.out;obtain ⟨a_fAr,_,_,_,_,_,_,y_fAr,F_fAr,k_fAr⟩:=z_fAr.out;obtain ⟨a_fAq,_,_,_,_,_,_,y_fAq,F_fAq,k_fAq⟩:=z_fAq.out;obtain ⟨a_fAw,_,_,_,_,_,_,y_fAw,F_fAw,k_fAw⟩:=z_fAw.out;obtain ⟨a_fAt,_,_,_,_,_,_,y_fAt,F_fAt,k_fAt⟩:=z_fAt.out;obtain ⟨a_fAg,_,_,_,_,_,_,y_fAg,F_fAg,k_fAg⟩:=z_fAg.out;obtain ⟨a_fAu,_,_,_,_,_,_,y_fAu,F_fAu,k_fAu⟩:=z_fAu.out;obtain ⟨a_fAv,_,_,_,_,_,_,y_fAv,F_fAv,k_fAv⟩:=z_fAv.out;obtain ⟨a_fAk,_,_,_,_,_,_,y_fAk,F_fAk,k_fAk⟩:=z_fAk.out;obtain ⟨a_fAe,_,_,_,_,_,_,y_fAe,F_fAe,k_fAe⟩:=z_fAe.out;obtain ⟨a_fAb,_,_,_,_,_,_,y_fAb,F_fAb,k_fAb⟩:=z_fAb.out;obtain ⟨a_fAa,_,_,_,_,_,_,y_fAa,F_fAa,k_fAa⟩:=z_fAa.out;obtain ⟨a_fAs,_,_,_,_,_,_,y_fAs,F_fAs,k_fAs⟩:=z_fAs.out;obtain ⟨a_fAi,_,_,_,_,_,_,y_fAi,F_fAi,k_fAi⟩:=z_fAi.out;obtain ⟨a_fAj,_,_,_,_,_,_,y_fAj,F_fAj,k_fAj⟩:=z_fAj.out;obtain ⟨a_fBb,qa,qb,qc,qd,qe,qf,y_fBb,F_fBb,k_fBb⟩:=z_fBb.out;obtain ⟨a_fAh,_,_,_,_,_,_,y_fAh,F_fAh,k_fAh,b_fAh⟩:=z_fAh.out;obtain ⟨a_fAy,_,_,_,_,_,_,y_fAy,F_fAy,k_fAy,b_fAy⟩:=z_fAy.out;obtain ⟨a_fAp,_,_,_,_,_,_,y_fAp,F_fAp,k_fAp,b_fAp⟩:=z_fAp.out;obtain ⟨a_fAc,_,_,_,_,_,_,y_fAc,F_fAc,k_fAc,b_fAc⟩:=z_fAc.out;have e:=hfa.symm.trans (PySem.W.mg_of X G y_fBb);cases e
 have T:=@Txt.mk K mg ⟨a_fBa,_,a_fAz,_,a_fAl,_,a_fAd,_,a_fAn,_,a_fAf,_,a_fAo,_,a_fAx,_,a_fAm,_,a_fAr,_,a_fAq,_,a_fAw,_,a_fAt,_,a_fAg,_,a_fAu,_,a_fAv,_,a_fAk,_,a_fAe,_,a_fAb,_,a_fAa,_,a_fAs,_,a_fAi,_,a_fAj,_,fa,_,a_fAh,_,a_fAy,_,a_fAp,_,a_fAc,_⟩ (fun x=>0)
  (PySem.W.mg_none_of X G zb_all)
  (PySem.W.mg_none_of X G zb_dict)
  (PySem.W.mg_none_of X G zb_enumerate)
  (PySem.W.mg_none_of X G zb_int)
  (PySem.W.mg_none_of X G zb_isinstance)
  (PySem.W.mg_none_of X G zb_len)
  (PySem.W.mg_none_of X G zb_list)
  (PySem.W.mg_none_of X G zb_max)
  (PySem.W.mg_none_of X G zb_range)
  (PySem.W.mg_none_of X G zb_set)
  (PySem.W.mg_none_of X G zb_sorted)
  (PySem.W.mg_none_of X G zb_sum)
  (PySem.W.mg_none_of X G zb_tuple)
  (PySem.W.mg_none_of X G zb_zip)
  (PySem.W.mg_of X G zg_Folk) c1_Folk ⟨c2_Folk,y_fAh.at_,y_fAh.fn,c3_Folk⟩ zn_Folk_hands zn_Folk_heights zn_Folk_kept_book zn_Folk_seats zn_Folk_sorted_names zn_Folk_told
  F_fBa (PySem.W.mg_of X G y_fBa) k_fBa (F_fBa.binds fun _ _ _ _ _ _ u l=>match u,l with | [_],_=>rfl)
  F_fAz (PySem.W.mg_of X G y_fAz) k_fAz (F_fAz.binds fun _ _ _ _ _ _ u l=>match u,l with | [_],_=>rfl)
  F_fAl (PySem.W.mg_of X G y_fAl) k_fAl (F_fAl.binds fun _ _ _ _ _ _ u l=>match u,l with | [_,_],_=>rfl)
  F_fAd (PySem.W.mg_of X G y_fAd) k_fAd (F_fAd.binds fun _ _ _ _ _ _ u l=>match u,l with | [_,_],_=>rfl)
  F_fAn (PySem.W.mg_of X G y_fAn) k_fAn (F_fAn.binds fun _ _ _ _ _ _ u l=>match u,l with | [_,_,_],_=>rfl)
  F_fAf (PySem.W.mg_of X G y_fAf) k_fAf (F_fAf.binds fun _ _ _ _ _ _ u l=>match u,l with | [_],_=>rfl)
  F_fAo (PySem.W.mg_of X G y_fAo) k_fAo (F_fAo.binds fun _ _ _ _ _ _ u l=>match u,l with | [_,_],_=>rfl)
  F_fAx (PySem.W.mg_of X G y_fAx) k_fAx (F_fAx.binds fun _ _ _ _ _ _ u l=>match u,l with | [_],_=>rfl)
  F_fAm (PySem.W.mg_of X G y_fAm) k_fAm (F_fAm.binds fun _ _ _ _ _ _ u l=>match u,l with | [_,_],_=>rfl)
  F_fAr (PySem.W.mg_of X G y_fAr) k_fAr (F_fAr.binds fun _ _ _ _ _ _ u l=>match u,l with | [_],_=>rfl)
  F_fAq (PySem.W.mg_of X G y_fAq) k_fAq (F_fAq.binds fun _ _ _ _ _ _ u l=>match u,l with | [_],_=>rfl)
  F_fAw (PySem.W.mg_of X G y_fAw) k_fAw (F_fAw.binds fun _ _ _ _ _ _ u l=>match u,l with | [_,_],_=>rfl)
  F_fAt (PySem.W.mg_of X G y_fAt) k_fAt (F_fAt.binds fun _ _ _ _ _ _ u l=>match u,l with | [_,_],_=>rfl)
  F_fAg (PySem.W.mg_of X G y_fAg) k_fAg (F_fAg.binds fun _ _ _ _ _ _ u l=>match u,l with | [_,_],_=>rfl)
  F_fAu (PySem.W.mg_of X G y_fAu) k_fAu (F_fAu.binds fun _ _ _ _ _ _ u l=>match u,l with | [_,_],_=>rfl)
  F_fAv (PySem.W.mg_of X G y_fAv) k_fAv (F_fAv.binds fun _ _ _ _ _ _ u l=>match u,l with | [_,_],_=>rfl)
  F_fAk (PySem.W.mg_of X G y_fAk) k_fAk (F_fAk.binds fun _ _ _ _ _ _ u l=>match u,l with | [_,_],_=>rfl)
  F_fAe (PySem.W.mg_of X G y_fAe) k_fAe (F_fAe.binds fun _ _ _ _ _ _ u l=>match u,l with | [_,_],_=>rfl)
  F_fAb (PySem.W.mg_of X G y_fAb) k_fAb (F_fAb.binds fun _ _ _ _ _ _ u l=>match u,l with | [_,_,_],_=>rfl)
  F_fAa (PySem.W.mg_of X G y_fAa) k_fAa (F_fAa.binds fun _ _ _ _ _ _ u l=>match u,l with | [_,_,_],_=>rfl)
  F_fAs (PySem.W.mg_of X G y_fAs) k_fAs (F_fAs.binds fun _ _ _ _ _ _ u l=>match u,l with | [_,_,_],_=>rfl)
  F_fAi (PySem.W.mg_of X G y_fAi) k_fAi (F_fAi.binds fun _ _ _ _ _ _ u l=>match u,l with | [_,_],_=>rfl)
  F_fAj (PySem.W.mg_of X G y_fAj) k_fAj (F_fAj.binds fun _ _ _ _ _ _ u l=>match u,l with | [_,_],_=>rfl)
  F_fBb (PySem.W.mg_of X G y_fBb) k_fBb (F_fBb.binds fun _ _ _ _ _ _ u l=>match u,l with | [_],_=>rfl)
  F_fAh y_fAh k_fAh (F_fAh.binds fun _ _ _ _ _ _ u l=>match u,l with | [_,_,_],_=>rfl)
  F_fAy y_fAy ⟨y_fAy,(b_fAy rfl).1,(b_fAy rfl).2,by decide +kernel⟩ k_fAy (F_fAy.binds fun _ _ _ _ _ _ u l=>match u,l with | [_,_],_=>rfl)
  F_fAp y_fAp k_fAp (F_fAp.binds fun _ _ _ _ _ _ u l=>match u,l with | [_,_],_=>rfl)
  F_fAc y_fAc k_fAc (F_fAc.binds fun _ _ _ _ _ _ u l=>match u,l with | [_,_],_=>rfl)
 refine ⟨PySem.W.fnOf "law" "law" (defArgs s_fBb) (defBody s_fBb) (defScope s_fBb) .none qa qb qc qd qe qf,fun s v=>.of_eq rfl,fun base _ _=>?_⟩;have r_fBa:=ok_fBa (P:=l.prog) (w:=w) (base:=base) T;have r_fAl:=ok_fAl (P:=l.prog) (w:=w) (base:=base) T;have r_fAd:=ok_fAd (P:=l.prog) (w:=w) (base:=base) T;have r_fAf:=ok_fAf (P:=l.prog) (w:=w) (base:=base) T;have r_fAx:=ok_fAx (P:=l.prog) (w:=w) (base:=base) T;have r_fAy:=ok_fAy (P:=l.prog) (w:=w) (base:=base) T;have r_fAc:=ok_fAc (P:=l.prog) (w:=w) (base:=base) T;have r_fAm:=ok_fAm (P:=l.prog) (w:=w) (base:=base) T;have r_fAr:=ok_fAr (P:=l.prog) (w:=w) (base:=base) T;have r_fAw:=ok_fAw (P:=l.prog) (w:=w) (base:=base) T;have r_fAz:=ok_fAz (P:=l.prog) (w:=w) (base:=base) T r_fBa;have r_fAn:=ok_fAn (P:=l.prog) (w:=w) (base:=base) T r_fAd r_fAl r_fBa;have r_fAp:=ok_fAp (P:=l.prog) (w:=w) (base:=base) T r_fAc;have r_fAq:=ok_fAq (P:=l.prog) (w:=w) (base:=base) T r_fAm r_fAr;have r_fAt:=ok_fAt (P:=l.prog) (w:=w) (base:=base) T r_fAw;have r_fAg:=ok_fAg (P:=l.prog) (w:=w) (base:=base) T r_fAw;have r_fAi:=ok_fAi (P:=l.prog) (w:=w) (base:=base) T r_fAr;have r_fAo:=ok_fAo (P:=l.prog) (w:=w) (base:=base) T r_fAf r_fAl r_fBa;have r_fAu:=ok_fAu (P:=l.prog) (w:=w) (base:=base) T r_fAg;have r_fAv:=ok_fAv (P:=l.prog) (w:=w) (base:=base) T r_fAt r_fAr;have r_fAe:=ok_fAe (P:=l.prog) (w:=w) (base:=base) T r_fAg;have r_fAh:=ok_fAh (P:=l.prog) (w:=w) (base:=base) T r_fAy r_fAz r_fAn r_fAo r_fAx;have r_fAk:=ok_fAk (P:=l.prog) (w:=w) (base:=base) T r_fAv;have r_fAa:=ok_fAa (P:=l.prog) (w:=w) (base:=base) T r_fAw r_fAt r_fAu r_fAr;have r_fAb:=ok_fAb (P:=l.prog) (w:=w) (base:=base) T r_fAw r_fAt r_fAg r_fAe r_fAk;have r_fAs:=ok_fAs (P:=l.prog) (w:=w) (base:=base) T r_fAt r_fAa r_fAb r_fAr;have r_fAj:=ok_fAj (P:=l.prog) (w:=w) (base:=base) T r_fAi r_fAm r_fAq r_fAs;exact ok_fBb T r_fAh r_fAy r_fAp r_fAj
end My
namespace PySem.W.Fast
def tw13834373412184214752:=()
def tw17702302673542947200:=()
def tw7432427090151042560:=()
def tw16825344284294167136:=()
def tw4446265796682562240:=()
def tw2076386290595881824:=()
def tw13492424171714278272:=()
def tw1846640683313892545:=()
def tw6892335010489877729:=()
def tw14788949254475490689:=()
def tw4478860524141475361:=()
def tw7797794403611033249:=()
def tw1772636283305482977:=()
def tw3670143996648558465:=()
def tw1597927770935357409:=()
def tw1464147161545101602:=()
def tw2489883550703073826:=()
def tw18073504208251153282:=()
def tw12039361847463804834:=()
def tw1335800322431294434:=()
def tw1748686197782845410:=()
def tw972157748847297539:=()
def tw18163823283166297219:=()
def tw15651573876258992259:=()
def tw138511801751595203:=()
def tw6877027871848811811:=()
def tw7938440626265950531:=()
def tw6978565093977532835:=()
def tw852573009901628835:=()
def tw13890714414052466211:=()
def tw16695652251967495075:=()
def tw13162716754344846243:=()
def tw6230907417131604996:=()
def tw6436208398107903076:=()
def tw5322858755640953220:=()
def tw5965566920731482596:=()
def tw14185060399566233092:=()
def tw17451505730681616068:=()
def tw13705903738155543268:=()
def tw4500720616162871172:=()
def tw6974415015958968485:=()
def tw1289709691383232741:=()
def tw17338974778130347237:=()
def tw10345601096704951717:=()
def tw12197012256656441797:=()
def tw17118982483633520133:=()
def tw11924971015082753829:=()
def tw2126657719132664870:=()
def tw16063266405366211814:=()
def tw8722795937277602086:=()
def tw15027729035703056774:=()
def tw6487008442910665286:=()
def tw1530156734014633702:=()
def tw8292040011382223654:=()
def tw14206092915856892742:=()
def tw1342821439702318087:=()
def tw2606560382156972071:=()
def tw11668114088990520583:=()
def tw14071810253210295591:=()
def tw8004250097132897639:=()
def tw13667902435377763687:=()
def tw4699382851062280647:=()
def tw10011534079246252615:=()
def tw2498584660191295143:=()
def tw9112708695895153479:=()
def tw8821714584171310023:=()
def tw4771902500160944168:=()
def tw10327491301696261160:=()
def tw15054141695509662952:=()
def tw12310928812444569992:=()
def tw15175371064668194344:=()
def tw16625198249388492552:=()
def tw14199938855802473705:=()
def tw16094736353367249193:=()
def tw16685571325407116617:=()
def tw8891439313802530153:=()
def tw10026357042594182537:=()
def tw8949263459739507209:=()
def tw10877999544395549193:=()
def tw8875841826416999049:=()
def tw7829651803655233193:=()
def tw12820324321625895881:=()
def tw990187714667450378:=()
def tw5641155345921549610:=()
def tw8180793299613667658:=()
def tw16593420559261274666:=()
def tw6411503375851697130:=()
def tw12782630309171279947:=()
def tw11706494570169719275:=()
def tw4974434063650020939:=()
def tw11102562937687556715:=()
def tw16369548005135244939:=()
def tw15255904398334275275:=()
def tw14215830375583242987:=()
def tw4283958966734743339:=()
def tw5328531647173088203:=()
def tw1669925617354598379:=()
def tw15561672460952389676:=()
def tw13690756078767034572:=()
def tw7325207336522552684:=()
def tw2783213004445572524:=()
def tw12346524592144814540:=()
def tw18345947243150103020:=()
def tw2508367798520950316:=()
def tw1989676785326502476:=()
def tw12265944675105194604:=()
def tw10602161390700134060:=()
def tw15629486466819256108:=()
def tw7312397961057358668:=()
def tw14566422030355401708:=()
def tw1120151901650554925:=()
def tw431153790382323853:=()
def tw15503403229647465133:=()
def tw17743972861558330061:=()
def tw17537869950242641805:=()
def tw4504995585969020813:=()
def tw1895346311338772429:=()
def tw17108567796764696557:=()
def tw1277664554465730862:=()
def tw8323287825419702638:=()
def tw8400682467986008430:=()
def tw797660341922670254:=()
def tw12201502245004119790:=()
def tw5768645951947620302:=()
def tw5007451296992934191:=()
def tw10346320027056772431:=()
def tw2685667400552394159:=()
def tw4342229472771382767:=()
def tw1055373990755562223:=()
def tw920383350988889007:=()
def tw3602109070958589008:=()
def tw11062091990319629776:=()
def tw3835033503823706768:=()
def tw11965772902517423760:=()
def tw12743540151443779248:=()
def tw15530389179940878064:=()
def tw11889091221235470128:=()
def tw8764802973928947568:=()
def tw17887646597070712688:=()
def tw11699847291561952208:=()
def tw11424977628821876720:=()
def tw10874164658573564945:=()
def tw1598059566659530993:=()
def tw17845950211699950897:=()
def tw10265154681735101745:=()
def tw2509276781770056049:=()
def tw642896678127343313:=()
def tw11009397793835829041:=()
def tw10543682509648804689:=()
def tw17634071380516141969:=()
def tw1873499151299638193:=()
def tw3564087872087626802:=()
def tw6294563406039603282:=()
def tw565085044166573138:=()
def tw13406030398054716722:=()
def tw13311097500763562322:=()
def tw3879007709215504786:=()
def tw14440988142692309394:=()
def tw16297654036551123538:=()
def tw468663376231904914:=()
def tw16296352038950178578:=()
def tw6002948293316062002:=()
def tw14145258955797726002:=()
def tw4903630890841023410:=()
def tw7424638033353510834:=()
def tw14799214247888808946:=()
def tw4933316766178821139:=()
def tw8323480203350804563:=()
def tw4622805729776156819:=()
def tw13056636061369078963:=()
def tw17431108041325058259:=()
def tw640060327742707955:=()
def tw8055846212247652787:=()
def tw1085390959051607539:=()
def tw12610326703220721331:=()
def tw9535508501014561555:=()
def tw15406444931954740083:=()
def tw14699014432875702195:=()
def tw16628481727140734292:=()
def tw14618276193793524084:=()
def tw18294746894458102228:=()
def tw14931888244322771572:=()
def tw3297988599572777652:=()
def tw7374859878808412148:=()
def tw6280005600283063317:=()
def tw4841974903936463893:=()
def tw4067680811765169429:=()
def tw17473821693572688309:=()
def tw7718242517205271189:=()
def tw940723655868253109:=()
def tw13070564309858763990:=()
def tw10838849586772907318:=()
def tw4871515923303146390:=()
def tw821709385421238230:=()
def tw11507757833003078871:=()
def tw1634840953159460311:=()
def tw4044185828921477687:=()
def tw4771833124484624023:=()
def tw3392317713789867895:=()
def tw2215240208629013431:=()
def tw4786697796287413239:=()
def tw18044011933906471927:=()
def tw9395400027407671287:=()
def tw10054912987076034616:=()
def tw6950028198706480376:=()
def tw4804280507257498008:=()
def tw2733681635134156280:=()
def tw6111077526553652760:=()
def tw14067484453018331992:=()
def tw15597138370066231192:=()
def tw15584026722301359609:=()
def tw8420224041928236569:=()
def tw4482579809616051897:=()
def tw7075575049542312857:=()
def tw13317673561658991674:=()
def tw10331207149366745274:=()
def tw13881259925899898234:=()
def tw1581580363929365882:=()
def tw10916631578805688794:=()
def tw11384144049263192634:=()
def tw3724771806490598106:=()
def tw905567928458729242:=()
def tw6399807255288234906:=()
def tw1300759165267088378:=()
def tw6801171119419078683:=()
def tw2457566885334191163:=()
def tw18329567475411929179:=()
def tw14696172203627639995:=()
def tw1025196726889667835:=()
def tw12956911399964515643:=()
def tw6620769448225109531:=()
def tw11381115788911850139:=()
def tw9224172360336803579:=()
def tw597964199656390555:=()
def tw6732619101470902267:=()
def tw8910876942413169724:=()
def tw15776241191746750588:=()
def tw14724313064542632124:=()
def tw17392049655603116476:=()
def tw4579570158250220988:=()
def tw11081680605180547548:=()
def tw9582770347929716444:=()
def tw17487752835995992860:=()
def tw11548409911148055420:=()
def tw10595293210009788509:=()
def tw3807578762200176765:=()
def tw17551020522702276957:=()
def tw13992167047155228125:=()
def tw3252412615098317373:=()
def tw15149439542962704093:=()
def tw9517540044341843837:=()
def tw6074342011127048414:=()
def tw12246658323649293662:=()
def tw14560391507382301214:=()
def tw13675173294415744095:=()
def tw13488007123070624319:=()
def tw3676622357212161663:=()
def tw9047383556030928607:=()
def tw14819154963913135831:=()
end PySem.W.Fast
open PySem PySem.W PyProof.Rows
set_option maxRecDepth 100000 in
set_option maxHeartbeats 0 in
theorem PySem.Challenge.cw_pagefolk_k04_pasts_and_keys_holds : PySem.Challenge.rw_pagefolk_k04_pasts_and_keys.Holds := by
 w_on;o_law;k_head;(case hw=>w_witness2)
 k_fill
 refine L2.walk_ofK (l:=PySem.Challenge.rw_pagefolk_k04_pasts_and_keys) (n:=63) (k:=8) (x:="_law_script") (CX:=L2.CX0) (sp:=My.sp_fBb) rfl (by decide) rfl ⟨rfl,by decide,by decide⟩ (fun w h Y=>PySem.W.kIn_of Y) ?F My.law_spec (fun _ _ _ _ z=>z)
 case F =>
  intro w mg fa h KX G hmg;refine' My.all_mk KX G hmg ?_ ?_ ?_ ?_ ?_ ?_ ?_ ?_ ?_ ?_ ?_ ?_ ?_ ?_ ?zg_Folk ?_ ?_ ?_ ?_ ?_ ?_ ?_ ?_ ?_ ?_ ?_ ?_ ?_ ?_ ?_ ?_ ?_ ?_ ?_ ?_ ?_ ?_ ?_ ?_ ?_ ?_ ?_ ?_ ?_ ?_ ?_ ?_ ?_ ?_ ?_
  (case zg_Folk=>k_is)
  all_goals first | k_is | (refine' My.FX.mk ?z1 ?z2 ?z3 ?z4;(case z1=>k_is);(case z2=>k_is);(case z3=>k_is);(case z4=>k_is)) | (refine' My.CX.mk ?z1 ?z2 ?z3 ?z4 ?z5 ?z6;(case z1=>k_is);(case z2=>k_is);(case z3=>k_is);(case z4=>k_is);(case z5=>k_is);(case z6=>k_is)) | (refine' My.MX.mk ?z1 ?z2 ?z3 ?z4 ?z5 ?z6;(case z1=>k_is);(case z2=>k_is);(case z3=>k_is);(case z4=>k_is);(case z5=>k_is);(case z6=>first | exact (fun h=>absurd h qp) | exact (fun _=>⟨by kernel_rfl,by kernel_rfl⟩)))