import PyProof.Rows.All
import Wide.All
import OpenK.AllK
import Wide.FinOn
import Lean
import PyProof.EqAt
import PyProof.EqKinds
import PyProof.TupleCall
import KE.KSortTup
import KE.KDictOf
import PyProof.AttrMissHeap
import KE.KSortKey
import KE.KEqDict
import KE.KNestM
import KE.KLam
import PySem.Challenge.RW_pagefolk_k29_parts_shown
set_option Elab.async false
set_option linter.all false
set_option maxRecDepth 100000
def qc:=@Nat.le_refl
def qd:=@List.mem_map
def qe:=@List.getElem?_eq_getElem
def qf:=@List.length_map
def qg:=@List.length_append
def qh:=@List.mem_cons_self
def qi:=@Nat.ne_of_lt
def qj:=@List.mem_singleton
def qk:=@Nat.le_trans
def ql:=@List.length_singleton
def qm:=@Bool.false_ne_true
def qo:=@List.mem_of_getElem?
def qq:=@Nat.lt_of_lt_of_le
def qr:=@List.mem_cons_of_mem
def qt:=@List.mem_iff_getElem
def qu:=@List.getElem?_map
def qv:=@List.getElem?_eq_some_iff
def qw:=@List.mem_append
def qx:=@List.length_cons
def qy:=@List.mem_cons
def qz:=@List.map_cons
def q5:=@Nat.zero_le
def q9:=@Array.length_toList
def za:=@Bool.and_eq_true
def zb:=@List.getD_eq_getElem?_getD
def zd:=@List.take_add_one
def ze:=@List.nodup_cons
def zf:=@List.size_toArray
def zg:=@List.map_append
def zh:=@List.take_length
def zi:=@Nat.ne_of_gt
def zj:=@List.mem_append_right
def zk:=@Nat.not_lt_zero
def zm:=@Nat.lt_irrefl
def zn:=@List.getElem?_append_left
def zo:=@List.length_take
def zp:=@List.nodup_append
def zq:=@Nat.min_le_left
def zr:=@List.length_drop
def zt:=@Option.map_eq_some_iff
def zu:=@List.mem_range
def zv:=@Nat.le_of_lt
def zw:=@List.getElem_mem
def zx:=@Array.getElem?_eq_getElem
def zy:=@List.nodup_nil
def z3:=@Array.getElem?_toList
def z4:=@List.map_map
def z5:=@List.map_congr_left
def z6:=@List.mem_append_left
def z7:=@Nat.lt_succ_of_lt
def z8:=@Nat.lt_or_ge
def z9:=@List.drop_eq_getElem_cons
def wb:=@List.nil_append
def wc:=@List.mem_filter
def we:=@List.append_nil
def wf:=@List.length_nil
def wg:=@List.any_eq_true
def wj:=@List.pairwise_iff_getElem
def wm:=@List.find?_cons
def wn:=@List.filter_nil
def wt:=@Nat.lt_succ_self
def wu:=@Bool.eq_false_iff
def ww:=@List.filter_append
def wx:=@Bool.eq_iff_iff
def wy:=@Nat.le_succ
def wz:=@Array.getD_eq_getD_getElem?
def w5:=@List.ext_getElem?
def w6:=@Nat.lt_of_succ_lt_succ
def vd:=@Nat.le_of_ble_eq_true
def ve:=@List.length_filter_le
def vf:=@List.pairwise_cons
def vg:=@List.take_sublist
def vq:=@Nat.lt_trans
def vt:=@Nat.sub_zero
def vw:=@List.getElem?_eq_none
def vx:=@Nat.succ_ne_self
def vy:=@List.filter_sublist
def v4:=@Option.ne_none_iff_exists'
def v5:=@List.getElem?_set_ne
def v6:=@List.mem_filterMap
def v7:=@List.map_nil
def v8:=@Nat.lt_of_le_of_lt
def v9:=@List.lookup_cons
def yb:=@List.any_toArray
def yc:=@Nat.zero_add
def yd:=@List.drop_of_length_le
def ye:=@List.find?_eq_none
def yf:=@List.append_assoc
def yg:=@Nat.not_lt
def yh:=@List.eq_nil_or_concat
def yi:=@List.concat_eq_append
def yj:=@List.getElem_append_left
def yk:=@List.nodup_iff_pairwise_ne
def ym:=@List.mem_of_mem_drop
def yn:=@List.mem_of_mem_head?
def yo:=@List.filter_cons_of_pos
def yp:=@List.filter_cons_of_neg
def yq:=@List.take_append_drop
def yr:=@List.forall_mem_cons
def yt:=@List.filterMap_cons
def yu:=@Array.mem_toList_iff
def yv:=@List.of_mem_zip
def yw:=@List.any_cons
def yx:=@List.forIn_cons
def yy:=@List.not_lt
def yz:=@Array.toList_inj
def y0:=@List.getElem_map
def y7:=@Array.forIn_toList
def y8:=@List.getElem?_toArray
def y9:=@List.pairwise_append
def ja:=@List.getElem_drop
def jb:=@List.map_id
def jc:=@List.append_of_mem
def jd:=@Array.append_assoc
def je:=@List.getElem?_set_self
def jf:=@Option.isSome_iff_exists
def jg:=@List.zip_cons_cons
def jh:=@List.getElem_toArray
def ji:=@List.range_succ_eq_map
def jj:=@List.findIdx?_eq_some_iff_getElem
def jk:=@List.getElem?_inj
def jl:=@List.findIdx?_eq_none_iff
def jm:=@List.range_eq_range'
def jn:=@List.filter_eq_nil_iff
def jo:=@List.mem_range'_1
def jp:=@List.length_eq_zero_iff
def jq:=@Array.getElem?_eq_none
def jr:=@List.pairwise_singleton
def jt:=@Nat.lt_trichotomy
def ju:=@List.countP_pos_iff
def jv:=@List.getElem?_range
def jw:=@List.pairwise_map
def jx:=@List.length_range
def jy:=@List.mem_of_elem_eq_true
namespace L2
open PySem PySem.Spec PyProof.Rows
abbrev Key:=Sum Int Str
def keyIs:Key->Value->Bool
 | .inl k,v=>Value.isInt k v
 | .inr x,v=>Value.isStrOf x v
def keyH (w:World):Key->Int
 | .inl k=>hashInt k
 | .inr x=>hashStr w x
theorem xAap:∀ {k:Key} {v:Value},keyIs k v=true->(∃ i t,k=Sum.inl i/\v=Value.int i t)\/(∃ x t,k=Sum.inr x/\v=Value.str x t)
 | .inl i,v,h=>by
  obtain ⟨t,e⟩:=Value.isInt_shape (k:=i) (v:=v) h;exact .inl ⟨i,t,rfl,e⟩
 | .inr x,v,h=>by
  obtain ⟨t,e⟩:=Value.isStrOf_shape (x:=x) (v:=v) h;exact .inr ⟨x,t,rfl,e⟩
theorem xAmu (i:Int) (t:Tok):keyIs (.inl i) (.int i t)=true:=by simp [keyIs,Value.isInt]
theorem xAmv (x:Str) (t:Tok):keyIs (.inr x) (.str x t)=true:=by simp [keyIs,Value.isStrOf]
theorem key_ll (a b:Int):decide ((Sum.inl a:Key)=Sum.inl b)=(a==b):=by
 by_cases e:a=b
 ·subst e;simp
 ·have h:¬ (Sum.inl a:Key)=Sum.inl b:=fun q=>e (Sum.inl.inj q)
  rw [decide_eq_false h];exact (beq_eq_false_iff_ne.mpr e).symm
theorem key_rr (a b:Str):decide ((Sum.inr a:Key)=Sum.inr b)=decide (a=b):=by
 by_cases e:a=b
 ·subst e;simp
 ·have h:¬ (Sum.inr a:Key)=Sum.inr b:=fun q=>e (Sum.inr.inj q)
  rw [decide_eq_false h,decide_eq_false e]
theorem key_lr (a:Int) (b:Str):decide ((Sum.inl a:Key)=Sum.inr b)=false:=decide_eq_false (fun q=>nomatch q)
theorem key_rl (a:Str) (b:Int):decide ((Sum.inr a:Key)=Sum.inl b)=false:=decide_eq_false (fun q=>nomatch q)
def mixKind (prog:Program) (w:World):PySem.KeyKind prog w Key where
 is:=keyIs
 hash:=keyH w
 inj:=fun v a b ha hb=>by
  rcases xAap ha with ⟨i,t,rfl,rfl⟩ | ⟨x,t,rfl,rfl⟩
  ·rcases xAap hb with ⟨j,u,rfl,e⟩ | ⟨y,u,rfl,e⟩
   ·injection e with e1 _;rw [e1]
   ·exact nomatch e
  ·rcases xAap hb with ⟨j,u,rfl,e⟩ | ⟨y,u,rfl,e⟩
   ·exact nomatch e
   ·injection e with e1 _;rw [e1]
 byValue:=fun k v h=>by
  rcases xAap h with ⟨i,t,rfl,rfl⟩ | ⟨x,t,rfl,rfl⟩ <;> rfl
 pyHash:=fun hv h=>by
  rcases xAap hv with ⟨i,t,rfl,rfl⟩ | ⟨x,t,rfl,rfl⟩
  ·exact wpAny_pyHash_int h
  ·exact wpAny_pyHash_str h
 eqBool:=fun hu hv h=>by
  rcases xAap hu with ⟨i,t,rfl,rfl⟩ | ⟨x,t,rfl,rfl⟩
  ·rcases xAap hv with ⟨j,u,rfl,rfl⟩ | ⟨y,u,rfl,rfl⟩
   ·rw [key_ll] at h;exact wpAny_eqBool_int h
   ·rw [key_lr] at h;exact SeqAt.EqAt.int_str i t y u _ _ _ _ h
  ·rcases xAap hv with ⟨j,u,rfl,rfl⟩ | ⟨y,u,rfl,rfl⟩
   ·rw [key_rl] at h;exact SeqAt.EqAt.str_int x t j u _ _ _ _ h
   ·rw [key_rr] at h;exact wpAny_eqBool_str h
 «strs»:=fun k x t v h=>by
  rcases xAap h with ⟨i,u,rfl,e⟩ | ⟨y,u,rfl,e⟩
  ·exact nomatch e
  ·injection e with e1 _
   subst e1;cases v <;> rfl
theorem xAiy (prog:Program) (w:World) (i:Int) (t:Tok):(mixKind prog w).is (.inl i) (.int i t)=true:=xAmu i t
theorem xAiz (prog:Program) (w:World) (x:Str) (t:Tok):(mixKind prog w).is (.inr x) (.str x t)=true:=xAmv x t
inductive V where
 | non | bl (b:Bool) | int (i:Int) | str (x:Str) | byt (b:Array UInt8) | flt (b:UInt64) | ref (a:Addr) | ty (n:String)
 deriving DecidableEq
def RelV:V->Value->Prop
 | .non,u=>u=Value.none
 | .bl b,u=>u=Value.bool b
 | .int i,u=>∃ t,u=Value.int i t
 | .str x,u=>∃ t,u=Value.str x t
 | .byt b,u=>∃ t,u=Value.bytes b t
 | .flt b,u=>∃ t,u=Value.float b t
 | .ref a,u=>u=Value.ref a
 | .ty n,u=>u=Value.type n
abbrev Vals:List V->List Value->Prop:=Paired RelV
theorem Vals.length {xs:List V} {us:List Value} (r:Vals xs us):xs.length=us.length:=Paired.length r
theorem Vals.get:∀ {xs:List V} {us:List Value} {i:Nat} {x:V},Vals xs us->xs[i]?=some x->∃ u,us[i]?=some u/\RelV x u
 | _,_,_,_,.nil,e=>by simp at e
 | _,_,0,_,.cons r _,e=>by simp at e;subst e;exact ⟨_,rfl,r⟩
 | _,_,i+1,x,.cons _ t,e=>by
  obtain ⟨u,h1,h2⟩:=Vals.get (i:=i) (x:=x) t (by simpa using e);exact ⟨u,by simpa using h1,h2⟩
theorem Vals.set {x:V} {u:Value} (r:RelV x u):∀ {xs:List V} {us:List Value} (i:Nat),Vals xs us->Vals (xs.set i x) (us.set i u)
 | _,_,_,.nil=>.nil
 | _,_,0,.cons _ t=>.cons r t
 | _,_,i+1,.cons q t=>.cons q (Vals.set r i t)
theorem Vals.append:∀ {xs ys:List V} {us ws:List Value},Vals xs us->Vals ys ws->Vals (xs++ys) (us++ws)
 | _,_,_,_,.nil,s=>s
 | _,_,_,_,.cons r t,s=>.cons r (Vals.append t s)
theorem Vals.take:∀ {xs:List V} {us:List Value} (n:Nat),Vals xs us->Vals (xs.take n) (us.take n)
 | _,_,0,_=>.nil
 | _,_,_+1,.nil=>.nil
 | _,_,n+1,.cons r t=>.cons r (Vals.take n t)
theorem Vals.drop:∀ {xs:List V} {us:List Value} (n:Nat),Vals xs us->Vals (xs.drop n) (us.drop n)
 | _,_,0,r=>r
 | _,_,_+1,.nil=>.nil
 | _,_,n+1,.cons _ t=>Vals.drop n t
def RelO:Option V->Option Value->Prop
 | some v,some u=>RelV v u
 | none,none=>True
 | _,_=>False
def KV {κ:Type}:List (κ×V)->List (κ×Value)->Prop:=Paired fun (p:κ×V) (q:κ×Value)=>p.1=q.1/\RelV p.2 q.2
def kV:Key->V
 | .inl i=>.int i
 | .inr x=>.str x
inductive KD where
 | non
 | int (i:Int)
 | tup (ks:List Key)
 | two (ks ls:List Key)
deriving DecidableEq
def gHash (P:Program) (w:World):KD->Int
 | .non=>4238894112
 | .int i=>hashInt i
 | .tup ks=>(tupleKind (mixKind P w)).hash ks
 | .two ks ls=>reduceHash (Builtin.Tuple.tupleHashOf [(tupleKind (mixKind P w)).hash ks,(tupleKind (mixKind P w)).hash ls])
def gEnt (P:Program) (w:World) (x:KD×Value×Value):DictEntry:=⟨gHash P w x.1,x.2.1,x.2.2⟩
inductive HO where
 | lst (xs:List V)
 | tup (xs:List V)
 | dK (kvs:List (Key×V)) | dT (kvs:List (List Key×V))
 | dG (kvs:List (KD×V×V))
 | set (S:Int->Bool) (n:Nat)
 | ins (C dx:Addr) (fs:List (Str×V))
 | own (x:Addr)
 | xd (fs:List (Str×V))
 | met (f x:Addr)
 | rng (lo hi:Int)
 | frz (o:Obj) (u:HO)
 | tbl (ps:Array Value)
 | ext (φ:Heap->Prop)
abbrev Hp:=Addr->Option HO
def GK (H:Hp):KD->V->Prop
 | .non,v=>v=.non
 | .int i,v=>v=.int i
 | .tup ks,v=>∃ b,v=.ref b/\H b=some (.tup (ks.map kV))
 | .two ks ls,v=>∃ b c d,v=.ref b/\H b=some (.tup [.ref c,.ref d])/\H c=some (.tup (ks.map kV))/\H d=some (.tup (ls.map kV))
def upd (H:Hp) (a:Addr) (o:HO):Hp:=fun b=>if b=a then some o else H b
theorem xAad {H:Hp} {a:Addr} {o:HO}:upd H a o a=some o:=by unfold upd;rw [if_pos rfl]
theorem xAae {H:Hp} {a b:Addr} {o:HO} (h:b≠a):upd H a o b=H b:=by unfold upd;rw [if_neg h]
theorem ne_of {H:Hp} {a b:Addr} {o u:HO} (h:H a=some o) (h':H b=some u) (d:o≠u):a≠b:=by
 intro e;subst e;rw [h] at h';exact d (Option.some.inj h')
theorem xAab {H:Hp} {a b:Addr} {o:HO} (h:H a=some o) (h':H b=none):a≠b:=by
 intro e;subst e;rw [h] at h';cases h'
section
variable (P:Program) (w:World)
def ObjOk (H:Hp) (h:Heap) (a:Addr):HO->Prop
 | .lst xs=>xs.length≤sizeLine/\∃ (its:List Value) (n:Nat),Vals xs its/\h.get? a=some { cls:=.type "list",data:=.seq its.toArray n }
 | .tup xs=>xs.length≤sizeLine/\∃ its:List Value,Vals xs its/\IsTup h a its.toArray
 | .dK kvs=>kvs.length≤sizeLine/\(a==sysModules)=false/\∃ vs,KV kvs vs/\h.DictOf (mixKind P w) a vs
 | .dT kvs=>kvs.length≤sizeLine/\(a==sysModules)=false/\∃ xs:List (List Key×Addr×Value),
   Paired (fun (p:List Key×V) (q:List Key×Addr×Value)=>p.1=q.1/\H q.2.1=some (.tup (p.1.map kV))/\RelV p.2 q.2.2) kvs xs ∧
   ∃ o es ep,h.get? a=some o/\o.ExactDict/\o.data=.dict es ep/\es.toList=xs.map (entryOfKey (tupleKind (mixKind P w)))/\(xs.map (·.1)).Nodup
 | .dG kvs=>kvs.length≤sizeLine/\(a==sysModules)=false/\∃ xs:List (KD×Value×Value),
   Paired (fun (p:KD×V×V) (q:KD×Value×Value)=>p.1=q.1/\GK H p.1 p.2.1/\RelV p.2.1 q.2.1/\RelV p.2.2 q.2.2) kvs xs ∧
   ∃ o es ep,h.get? a=some o/\o.ExactDict/\o.data=.dict es ep/\es.toList=xs.map (gEnt P w)/\(xs.map (·.1)).Nodup
 | .set S n=>h.SetOf (intKind P w) a S n
 | .ins C dx fs=>H dx=some (.own a)/\fs.length≤1000/\dx≠a/\h.get? a=some (PySem.W.instObj C dx) ∧
   ∃ mA,h.Ns1 dx mA/\(∀ f,RelO (fs.lookup f) (mA f))/\PySem.Within mA (fs.map (·.1))
 | .own _=>∃ o,h.get? a=some o
 | .xd fs=>∃ mA,h.Ns1 a mA/\∀ f,RelO (fs.lookup f) (mA f)
 | .rng lo hi=>∃ t u v,h.get? a=some { cls:=.type "range",data:=.fields #[.int lo t,.int hi u,.int 1 v] }
 | .frz o u=>h.get? a=some o/\ObjOk H h a u
 | .tbl ps=>h.get? a=some { cls:=.none,data:=.fields ps }
 | .met f x=>h.get? a=some (PySem.W.methodObj (.ref f) (.ref x))
 | .ext φ=>φ h/\(∃ o,h.get? a=some o)/\∀ h1 h2:Heap,φ h1->(∀ o,h1.get? a=some o->h2.get? a=some o)->φ h2
def HOk (H:Hp) (h:Heap):Prop:=∀ a o,H a=some o->ObjOk P w H h a o
end
section
variable {P:Program} {w:World} {H H':Hp} {h h':Heap} {a:Addr} {o:HO}
theorem ObjOk.lt (x:ObjOk P w H h a o):a<h.objs.size:=by
 cases o with
 | lst xs=>obtain ⟨_,_,_,_,e⟩:=x;exact Heap.lt_size e
 | tup xs=>obtain ⟨_,_,_,p⟩:=x;exact p.lt
 | dK kvs=>obtain ⟨_,_,_,_,o,_,_,e,_⟩:=x;exact Heap.lt_size e
 | dT kvs=>obtain ⟨_,_,_,_,o,_,_,e,_⟩:=x;exact Heap.lt_size e
 | dG kvs=>obtain ⟨_,_,_,_,o,_,_,e,_⟩:=x;exact Heap.lt_size e
 | set S n=>obtain ⟨o,_,_,_,e,_⟩:=x;exact Heap.lt_size e
 | ins C dx fs=>obtain ⟨_,_,_,e,_⟩:=x;exact Heap.lt_size e
 | own y=>obtain ⟨_,e⟩:=x;exact Heap.lt_size e
 | xd fs=>obtain ⟨_,⟨_,_,_,e,_⟩,_⟩:=x;exact Heap.lt_size e
 | rng lo hi=>obtain ⟨_,_,_,e⟩:=x;exact Heap.lt_size e
 | frz ob u=>obtain ⟨e,_⟩:=x;exact Heap.lt_size e
 | tbl ps=>exact Heap.lt_size (show h.get? a=some _ from x)
 | met f y=>exact Heap.lt_size (show h.get? a=some _ from x)
 | ext φ=>obtain ⟨_,⟨_,e⟩,_⟩:=x;exact Heap.lt_size e
theorem Paired.mapP {α β:Type} {F G:α->β->Prop}:∀ {l₁:List α} {l₂:List β},Paired F l₁ l₂->(∀ a b,F a b->G a b)->Paired G l₁ l₂
 | _,_,.nil,_=>.nil
 | _,_,.cons r t,f=>.cons (f _ _ r) (Paired.mapP t f)
theorem GK.stay {H H':Hp} {k:KD} {v:V} (g:GK H k v) (ht:∀ b xs,H b=some (.tup xs)->H' b=some (.tup xs)):GK H' k v:=by
 cases k with
 | non=>exact g
 | int i=>exact g
 | tup ks=>obtain ⟨b,e,h⟩:=g;exact ⟨b,e,ht _ _ h⟩
 | two ks ls=>obtain ⟨b,c,d,e,h1,h2,h3⟩:=g;exact ⟨b,c,d,e,ht _ _ h1,ht _ _ h2,ht _ _ h3⟩
theorem ObjOk.stay (x:ObjOk P w H h a o) (k:∀ b u,(b=a\/H b=some (.own a))->h.get? b=some u->h'.get? b=some u)
  (ho:∀ b,H b=some (.own a)->H' b=some (.own a)) (ht:∀ b xs,H b=some (.tup xs)->H' b=some (.tup xs)):ObjOk P w H' h' a o:=by
 induction o with
 | lst xs=>obtain ⟨z,its,n,r,e⟩:=x;exact ⟨z,its,n,r,k _ _ (.inl rfl) e⟩
 | tup xs=>obtain ⟨z,its,r,ob,e,c⟩:=x;exact ⟨z,its,r,ob,k _ _ (.inl rfl) e,c⟩
 | dK kvs=>obtain ⟨z,y,vs,r,ob,es,ep,e,c⟩:=x;exact ⟨z,y,vs,r,ob,es,ep,k _ _ (.inl rfl) e,c⟩
 | dT kvs =>
  obtain ⟨z,y,xs,r,ob,es,ep,e,c⟩:=x;exact ⟨z,y,xs,Paired.mapP r fun p q z=>⟨z.1,ht _ _ z.2.1,z.2.2⟩,ob,es,ep,k _ _ (.inl rfl) e,c⟩
 | dG kvs =>
  obtain ⟨z,y,xs,r,ob,es,ep,e,c⟩:=x;exact ⟨z,y,xs,Paired.mapP r fun p q z=>⟨z.1,z.2.1.stay ht,z.2.2⟩,ob,es,ep,k _ _ (.inl rfl) e,c⟩
 | set S n=>obtain ⟨ob,es,ep,t,e,c⟩:=x;exact ⟨ob,es,ep,t,k _ _ (.inl rfl) e,c⟩
 | ins C dx fs =>
  obtain ⟨d,z,ne,e,mA,⟨od,es,ep,e2,c⟩,r⟩:=x;exact ⟨ho _ d,z,ne,k _ _ (.inl rfl) e,mA,⟨od,es,ep,k _ _ (.inr d) e2,c⟩,r⟩
 | own y=>obtain ⟨ob,e⟩:=x;exact ⟨ob,k _ _ (.inl rfl) e⟩
 | xd fs=>obtain ⟨mA,⟨od,es,ep,e,c⟩,r⟩:=x;exact ⟨mA,⟨od,es,ep,k _ _ (.inl rfl) e,c⟩,r⟩
 | rng lo hi=>obtain ⟨t,u,v,e⟩:=x;exact ⟨t,u,v,k _ _ (.inl rfl) e⟩
 | frz ob u ih=>obtain ⟨e,q⟩:=x;exact ⟨k _ _ (.inl rfl) e,ih q⟩
 | tbl ps =>
  have e:h.get? a=some { cls:=.none,data:=.fields ps }:=x;show h'.get? a=some { cls:=.none,data:=.fields ps };exact k a _ (.inl rfl) e
 | met f y =>
  have e:h.get? a=some (PySem.W.methodObj (.ref f) (.ref y)):=x;show h'.get? a=some (PySem.W.methodObj (.ref f) (.ref y));exact k a _ (.inl rfl) e
 | ext φ=>obtain ⟨p,⟨o,e⟩,st⟩:=x;exact ⟨st _ _ p fun o q=>k _ _ (.inl rfl) q,⟨o,k _ _ (.inl rfl) e⟩,st⟩
theorem HOk.lt (x:HOk P w H h) (e:H a=some o):a<h.objs.size:=(x a o e).lt
theorem HOk.fresh (x:HOk P w H h) (e:h.objs.size≤a):H a=none:=by
 cases q:H a with
 | none=>rfl
 | some u=>exact absurd (qq (x.lt q) e) (zm _)
theorem HOk.kept (x:HOk P w H h) (k:∀ b u,h.get? b=some u->h'.get? b=some u):HOk P w H h':=fun a o e =>
 (x a o e).stay (fun b u _ q=>k b u q) (fun _ q=>q) fun _ _ q=>q
theorem HOk.laid (x:HOk P w H h) (k:∀ b u,h.get? b=some u->h'.get? b=some u) (hp:h.objs.size≤a) (new:ObjOk P w (upd H a o) h' a o):HOk P w (upd H a o) h':=fun b u e=>by
 have hn:=x.fresh hp
 by_cases hb:b=a
 ·subst hb;rw [xAad] at e;cases e;exact new
 ·rw [xAae hb] at e
  exact (x b u e).stay (fun c v _ q=>k c v q) (fun c q=>by rw [xAae (xAab q hn)];exact q) fun c xs q=>by rw [xAae (xAab q hn)];exact q
end
def Rd (H:Hp) (a:Addr) (u:HO):Prop:=H a=some u\/∃ o,H a=some (.frz o u)
theorem Rd.ok {P:Program} {w:World} {H:Hp} {h:Heap} {a:Addr} {u:HO} (r:Rd H a u) (x:HOk P w H h):ObjOk P w H h a u:=by
 rcases r with r | ⟨o,r⟩
 ·exact x a u r
 ·obtain ⟨_,q⟩:=x a _ r
  exact q
def Mut:Option HO->Prop
 | some (.lst _)=>True
 | some (.dK _)=>True
 | some (.dT _)=>True
 | some (.dG _)=>True
 | some (.set _ _)=>True
 | some (.ins _ _ _)=>True
 | some (.ext _)=>True
 | _=>False
section
variable {P:Program} {w:World} {H:Hp} {h h':Heap} {x e:Addr} {o':HO}
theorem HOk.write (ok:HOk P w H h) (mu:Mut (H x)) (he:e=x\/H e=some (.own x)) (k:∀ b u,b≠e->h.get? b=some u->h'.get? b=some u) (heo:∃ u,h'.get? e=some u)
  (new:ObjOk P w (upd H x o') h' x o'):HOk P w (upd H x o') h':=fun b u q=>by
 have nown:∀ c y,H c=some (.own y)->c≠x:=fun c y r z=>by subst z;rw [r] at mu;exact mu
 have ntup:∀ c xs,H c=some (.tup xs)->c≠x:=fun c xs r z=>by subst z;rw [r] at mu;exact mu
 by_cases hb:b=x
 ·subst hb;rw [xAad] at q;cases q;exact new
 ·rw [xAae hb] at q
  by_cases hbe:b=e
  ·have q':H b=some (.own x):=by
    rcases he with z | z
    ·exact absurd (hbe.trans z) hb
    ·rw [hbe];exact z
   rw [q] at q';cases q';obtain ⟨v,hv⟩:=heo;exact ⟨v,by rw [hbe];exact hv⟩
  ·refine (ok b u q).stay (fun c v hc r=>k c v ?_ r) (fun c r=>by rw [xAae (nown c b r)];exact r) fun c xs r=>by rw [xAae (ntup c xs r)];exact r
   rcases hc with rfl | hc
   ·exact hbe
   ·rintro rfl
    rcases he with z | z
    ·exact nown c b hc z
    ·rw [hc] at z;cases z;exact hb rfl
end
structure Un (fs ex:List Addr) (H H':Hp) (h h':Heap):Prop where
 keep:∀ b o,h.get? b=some o->H b=none->b∉fs->b∉ex->h'.get? b=some o
 slot:∀ b o,h.get? b=some o->H b=none->b∈fs->b∉ex->∃ sl,h'.get? b=some { o with slots:=sl }
 free:∀ b o,h.get? b=some o->H b=none->b∉ex->H' b=none
 there:∀ b o,h.get? b=some o->b∉ex->∃ o',h'.get? b=some o'
 tups:∀ b xs,H b=some (.tup xs)->H' b=some (.tup xs)
 frzs:∀ b o u,H b=some (.frz o u)->H' b=some (.frz o u)
 tbls:∀ b ps,H b=some (.tbl ps)->∃ more,H' b=some (.tbl (ps++more))
 tupo:∀ b o xs,h.get? b=some o->H b=some (.tup xs)->h'.get? b=some o
section
variable {fs fs' ex ex':List Addr} {H H1 H2:Hp} {h h1 h2 h':Heap} {a x e:Addr} {o:HO}
theorem Un.any (u:Un fs ex H H1 h h1) {b:Addr} {ob:Obj} (q:h.get? b=some ob) (n:H b=none) (hx:b∉ex):∃ sl,h1.get? b=some { ob with slots:=sl }:=by
 by_cases hb:b∈fs
 ·exact u.slot b ob q n hb hx
 ·exact ⟨ob.slots,u.keep b ob q n hb hx⟩
theorem Un.trans (a:Un fs ex H H1 h h1) (b:Un fs ex H1 H2 h1 h2):Un fs ex H H2 h h2 where
 keep:=fun c ob q n hc hx=>b.keep c ob (a.keep c ob q n hc hx) (a.free c ob q n hx) hc hx
 slot:=fun c ob q n hc hx=>by
  obtain ⟨sl,e1⟩:=a.slot c ob q n hc hx;obtain ⟨sl',e2⟩:=b.slot c _ e1 (a.free c ob q n hx) hc hx;exact ⟨sl',e2⟩
 free:=fun c ob q n hx=>by
  obtain ⟨o',e1⟩:=a.there c ob q hx;exact b.free c o' e1 (a.free c ob q n hx) hx
 there:=fun c ob q hx=>by
  obtain ⟨o',e1⟩:=a.there c ob q hx;exact b.there c o' e1 hx
 tups:=fun c xs q=>b.tups c xs (a.tups c xs q)
 frzs:=fun c ob xs q=>b.frzs c ob xs (a.frzs c ob xs q)
 tbls:=fun c ps q=>by
  obtain ⟨m1,e1⟩:=a.tbls c ps q;obtain ⟨m2,e2⟩:=b.tbls c _ e1;exact ⟨m1++m2,by rw [e2,jd]⟩
 tupo:=fun c ob xs q n=>b.tupo c ob xs (a.tupo c ob xs q n) (a.tups c xs n)
theorem Un.kept (k:∀ b u,h.get? b=some u->h'.get? b=some u):Un fs ex H H h h' :=
 ⟨fun b ob q _ _ _=>k b ob q,fun b ob q _ _ _=>⟨ob.slots,k b ob q⟩,fun _ _ _ n _=>n,fun b ob q _=>⟨ob,k b ob q⟩,fun _ _ q=>q,fun _ _ _ q=>q,fun _ ps q=>⟨#[],by rw [q];simp⟩,fun b ob _ q _=>k b ob q⟩
theorem Un.refl:Un fs ex H H h h:=Un.kept fun _ _ q=>q
theorem Un.laid (k:∀ b u,h.get? b=some u->h'.get? b=some u) (hp:h.objs.size≤a) (hn:H a=none):Un fs ex H (upd H a o) h h' where
 keep:=fun b u q _ _ _=>k b u q
 slot:=fun b u q _ _ _=>⟨u.slots,k b u q⟩
 free:=fun b u q n _=>by rw [xAae (qi (qq (Heap.lt_size q) hp))];exact n
 there:=fun b u q _=>⟨u,k b u q⟩
 tups:=fun b xs q=>by rw [xAae (xAab q hn)];exact q
 frzs:=fun b u xs q=>by rw [xAae (xAab q hn)];exact q
 tbls:=fun b ps q=>⟨#[],by rw [xAae (xAab q hn),q];simp⟩
 tupo:=fun b u _ q _=>k b u q
theorem Un.write (mu:Mut (H x)) (he:e=x\/H e=some (.own x)) (k:∀ b u,b≠e->h.get? b=some u->h'.get? b=some u) (heo:∃ u,h'.get? e=some u):Un fs ex H (upd H x o) h h':=by
 have hx:∀ b,H b=none->b≠x:=fun b n z=>by subst z;rw [n] at mu;exact mu
 have hb:∀ b,H b=none->b≠e:=fun b n z=>by
  subst z;rcases he with r | r
  ·exact hx b n r
  ·rw [n] at r;cases r
 have hm:∀ b u,H b=some u->¬ Mut (some u)->b≠x:=fun b u q nm z=>by subst z;rw [q] at mu;exact nm mu
 refine ⟨fun b u q n _ _=>k b u (hb b n) q,fun b u q n _ _=>⟨u.slots,k b u (hb b n) q⟩,fun b u q n _=>by rw [xAae (hx b n)];exact n,fun b u q _=>?_,
  fun b xs q=>by rw [xAae (hm b _ q fun z=>z)];exact q,fun b u xs q=>by rw [xAae (hm b _ q fun z=>z)];exact q,fun b ps q=>⟨#[],by rw [xAae (hm b _ q fun z=>z),q];simp⟩,fun b u xs q n=>k b u (fun z=>by
   subst z;rcases he with r | r
   ·exact hm b _ n (fun z=>z) r
   ·rw [n] at r;cases r) q⟩
 by_cases hbe:b=e
 ·subst hbe;exact heo
 ·exact ⟨u,k b u hbe q⟩
end
def trk (h:Heap) (H:Hp):List Addr:=(List.range h.objs.size).filter fun a=>(H a).isSome
def hidT (h:Heap) (H:Hp):Heap:=PySem.W.hideAll h (trk h H)
theorem xAmw (h:Heap) (H:Hp):(hidT h H).objs.size=h.objs.size:=PySem.W.hideAll_size _ _
theorem xAps {h:Heap} {H:Hp} {b:Addr} {o:Obj} (e:h.get? b=some o) (n:H b=none):(hidT h H).get? b=some o :=
 PySem.W.hideAll_get _ e fun hm=>by
  have q:(H b).isSome=true:=(wc.mp hm).2;rw [n] at q;simp at q
theorem xArs {h:Heap} {H:Hp} {b:Addr} {o:Obj} (e:(hidT h H).get? b=some o):h.get? b=some o/\H b=none:=by
 have e':h.get? b=some o:=PySem.W.of_hideAll (trk h H) e;refine ⟨e',?_⟩
 cases q:H b with
 | none=>rfl
 | some x =>
  have hm:b∈trk h H:=List.mem_filter.mpr ⟨List.mem_range.mpr (Heap.lt_size e'),by simp [q]⟩;have z:(hidT h H).get? b=none:=PySem.W.hideAll_none (trk h H) hm;rw [z] at e;cases e
structure Mod (K:PySem.W.Frag) (mg:Str->Option Value) (base:Heap):Prop where
 kin:K.In base
 glob:base.Ns mainGlobals mg
 blt:∃ mb,base.Ns builtinsNs mb/\∀ x:Str,x≠"__name__"->mb x=bootBuiltins x
 nolimit:base.NoLimit
structure Cx where
 prog:Program
 w:World
 K:PySem.W.Frag
 mg:Str->Option Value
 base:Heap
 A:Around
 N:List Str
 s₀:Shared
 H₀:Hp
 env:Env
 outer:List Env
 stack:List Env
 ex:List Addr
 fn:Str->Bool
 calm:Bool
 pn:List (Addr×Obj)
 xe:Value->Shared->Prop
def frs (l:List Env):List Addr:=l.filterMap (·.frame)
abbrev Cx.fs (X:Cx):List Addr:=frs X.outer
def Vis (sc:Scope) (x:Str):Prop:=sc.names.lookup x=some .local\/sc.names.lookup x=some .cell\/sc.names.lookup x=some .free
def Loc (sc:Scope) (x:Str):Prop:=sc.names.lookup x=some .local\/sc.names.lookup x=some .cell
def Look (env:Env) (h:Heap) (m:Str->Option Value) (x:Str) (u:Value):Prop :=
 (env.kindOf x=some .local/\m x=some u)\/((env.kindOf x=some .cell\/env.kindOf x=some .free)/\∃ c,env.cells.lookup x=some c/\h.IsCell c (some u))
structure Cx.Ok (X:Cx):Prop where
 mod:Mod X.K X.mg X.base
 kind:X.env.scope.kind=.function
 glob:X.env.globals=mainGlobals
 blt:X.env.builtins=builtinsNs
 above:X.s₀.heap.objs.size≤X.env.locals
 inj:∀ x y c,X.env.cells.lookup x=some c->X.env.cells.lookup y=some c->x=y
 has:∀ x,(X.env.kindOf x=some .cell\/X.env.kindOf x=some .free)->∃ c,X.env.cells.lookup x=some c
 cab:∀ x c,X.fn x=true->X.env.cells.lookup x=some c->X.s₀.heap.objs.size≤c
 hd:X.calm=true->X.A.handled=none
 frames:X.A.frames=some X.stack
 stk:X.stack=X.outer\/(X.stack=X.env::X.outer/\X.env.frame=some X.env.locals)
 exf:∀ b∈X.ex,b≠X.env.locals/\∀ x c,X.env.cells.lookup x=some c->c≠b
 bs:∀ b o,X.base.get? b=some o->X.s₀.heap.get? b=some o/\(X.H₀ b=none\/∃ xs,X.H₀ b=some (.tup xs))
 bsz:X.base.objs.size≤X.s₀.heap.objs.size
 noex:∀ b o,X.base.get? b=some o->b∉X.ex
 exfs:∀ b∈X.ex,b∉X.fs
 funs:X.s₀.heap.FunFrames X.base X.outer
 frf:∀ b∈X.fs,X.H₀ b=none
structure Inv (X:Cx) (pins:List (Addr×Obj)) (σ:List (Option V)) (H:Hp) (s:Shared):Prop where
 ok:X.Ok
 os:s.os=X.s₀.os
 bare:AllBare s.gens
 base:Un X.fs X.ex X.H₀ H X.s₀.heap s.heap
 loc:∃ m,s.heap.Ns X.env.locals m/\∀ (i:Nat) (x:Str) (v:V),X.N[i]?=some x->σ[i]?=some (some v)->Vis X.env.scope x->∃ u,RelV v u/\Look X.env s.heap m x u
 cell:∀ x c,X.env.cells.lookup x=some c->∃ v,s.heap.IsCell c v
 free:H X.env.locals=none
 freeC:∀ x c,X.env.cells.lookup x=some c->H c=none
 pin:∀ p∈X.pn++pins,s.heap.get? p.1=some p.2/\H p.1=none/\p.1≠X.env.locals/\p.1∉X.fs/\∀ v,p.2.data≠.cell v
 hok:HOk X.prog X.w H s.heap
 len:σ.length=X.N.length
section
variable {X:Cx} {pins:List (Addr×Obj)} {σ:List (Option V)} {H H':Hp} {s:Shared} {h':Heap}
theorem Cx.Ok.nofr (ok:X.Ok) {b:Addr} {o:Obj} (e:X.base.get? b=some o):b∉X.fs:=fun hb=>by
 have:=(ok.funs.mem hb).1;rw [e] at this;cases this
theorem Inv.bs (I:Inv X pins σ H s):∀ b o,X.base.get? b=some o->s.heap.get? b=some o/\(H b=none\/∃ xs,H b=some (.tup xs)):=fun b o e =>
 match I.ok.bs b o e with
 | ⟨h1,.inl h2⟩=>⟨I.base.keep b o h1 h2 (I.ok.nofr e) (I.ok.noex b o e),.inl (I.base.free b o h1 h2 (I.ok.noex b o e))⟩
 | ⟨h1,.inr ⟨xs,h2⟩⟩=>⟨I.base.tupo b o xs h1 h2,.inr ⟨xs,I.base.tups b xs h2⟩⟩
theorem Inv.bk (I:Inv X pins σ H s):∀ b o,X.base.get? b=some o->s.heap.get? b=some o:=fun b o e=>(I.bs b o e).1
theorem Inv.mod (I:Inv X pins σ H s):Mod X.K X.mg X.base:=I.ok.mod
theorem Inv.kIn (I:Inv X pins σ H s):X.K.In s.heap:=I.ok.mod.kin.keeps I.bk
theorem Inv.lt (I:Inv X pins σ H s):X.env.locals<s.heap.objs.size:=let ⟨_,hn,_⟩:=I.loc;hn.lt
theorem Inv.sz (I:Inv X pins σ H s):X.s₀.heap.objs.size≤s.heap.objs.size:=qk I.ok.above (zv I.lt)
theorem Inv.nofs (I:Inv X pins σ H s) {a:Addr} (h:s.heap.objs.size≤a):a∉X.fs:=fun hb=>by
 obtain ⟨_,o,ho,_⟩:=I.ok.funs.mem hb;exact absurd (qq (Heap.lt_size ho) (qk I.sz h)) (zm _)
theorem Inv.cne (I:Inv X pins σ H s):∀ x c,X.env.cells.lookup x=some c->c≠X.env.locals:=fun x c e z=>by
 obtain ⟨v,o,ho,hd⟩:=I.cell x c e;obtain ⟨m,⟨o',es,ep,ho',hd',_⟩,_⟩:=I.loc;rw [z,ho'] at ho;cases ho;rw [hd'] at hd;cases hd
theorem Inv.funs (I:Inv X pins σ H s):s.heap.FunFrames X.base X.outer:=by
 have all:∀ (l:List Env),(∀ b∈frs l,b∈X.fs)->X.s₀.heap.FunFrames X.base l->s.heap.FunFrames X.base l:=by
  intro l
  induction l with
  | nil=>intro _ _;trivial
  | cons env r ih =>
   intro hs hl;obtain ⟨hk,⟨L,o,hf,hn,ho,hd⟩,hr⟩:=hl;have hL:L∈X.fs:=hs L (by unfold frs;rw [yt,hf];exact qh);obtain ⟨sl,e⟩:=I.base.slot L o ho (I.ok.frf L hL) hL fun z=>I.ok.exfs L z hL;exact ⟨hk,⟨L,_,hf,hn,e,hd⟩,ih (fun b hb=>hs b (by unfold frs;rw [yt,hf];exact qr _ hb)) hr⟩
 exact all X.outer (fun _ hb=>hb) I.ok.funs
theorem Inv.stack (I:Inv X pins σ H s):s.heap.FunFrames X.base X.stack:=by
 rcases I.ok.stk with e | ⟨e,hf⟩
 ·rw [e];exact I.funs
 ·rw [e]
  obtain ⟨m,hn,_⟩:=I.loc;refine .cons (by rw [I.ok.kind];decide) hf hn ?_ I.funs;exact Heap.get?_none_of_le (qk I.ok.bsz I.ok.above)
theorem Inv.stkSub (I:Inv X pins σ H s):∀ b∈frs X.stack,b∈X.env.locals::X.fs:=fun b hb=>by
 rcases I.ok.stk with e | ⟨e,hf⟩
 ·rw [e] at hb;exact qr _ hb
 ·rw [e] at hb
  unfold frs at hb;rw [yt,hf] at hb;exact hb
theorem Inv.stkFree (I:Inv X pins σ H s):∀ b∈frs X.stack,H b=none:=fun b hb=>by
 rcases qy.mp (I.stkSub b hb) with e | hb
 ·rw [e];exact I.free
 ·obtain ⟨_,o,ho,_⟩:=I.ok.funs.mem hb
  exact I.base.free b o ho (I.ok.frf b hb) fun z=>I.ok.exfs b z hb
theorem Inv.step {g':Array GenState} {t':Nat} {d':Drawn} {ch:List Addr} (I:Inv X pins σ H s)
  (hch:∀ b∈ch,(b∈X.ex\/X.s₀.heap.objs.size≤b)/\b≠X.env.locals/\(∀ x c,X.env.cells.lookup x=some c->c≠b)/\∀ p∈X.pn++pins,p.1≠b)
  (keep:∀ b o,b≠X.env.locals->b∉X.fs->b∉ch->s.heap.get? b=some o->H b=none->h'.get? b=some o)
  (slot:∀ b o,b≠X.env.locals->b∈X.fs->b∉ch->s.heap.get? b=some o->H b=none->∃ sl,h'.get? b=some { o with slots:=sl }) (free:∀ b o,b∉ch->s.heap.get? b=some o->H b=none->H' b=none)
  (there:∀ b o,b∉ch->s.heap.get? b=some o->∃ o',h'.get? b=some o')
  (tups:∀ b xs,H b=some (.tup xs)->H' b=some (.tup xs)) (frzs:∀ b o u,H b=some (.frz o u)->H' b=some (.frz o u)) (tbls:∀ b ps,H b=some (.tbl ps)->∃ more,H' b=some (.tbl (ps++more))) (tupo:∀ b o xs,s.heap.get? b=some o->H b=some (.tup xs)->h'.get? b=some o)
  (ns:∀ m,s.heap.Ns X.env.locals m->h'.Ns X.env.locals m) (hok:HOk X.prog X.w H' h') (hg:AllBare g') :
  Inv X pins σ H' { s with heap:=h',gens:=g',drawn:=d',toks:=t' }:=by
 have neL:∀ b o,X.s₀.heap.get? b=some o->b≠X.env.locals:=fun b o e=>qi (qq (Heap.lt_size e) I.ok.above)
 have neC:∀ b o,X.s₀.heap.get? b=some o->b∉X.ex->b∉ch:=fun b o e hx hb=>by
  rcases (hch b hb).1 with z | z
  ·exact hx z
  ·exact absurd (qq (Heap.lt_size e) z) (zm _)
 have cellK:∀ x c,X.env.cells.lookup x=some c->∀ v,s.heap.IsCell c v->h'.IsCell c v:=fun x c e v ⟨o,ho,hd⟩=>by
  have nch:c∉ch:=fun z=>(hch c z).2.2.1 x c e rfl
  by_cases hc:c∈X.fs
  ·obtain ⟨sl,q⟩:=slot c o (I.cne x c e) hc nch ho (I.freeC x c e)
   exact ⟨_,q,hd⟩
  ·exact ⟨o,keep c o (I.cne x c e) hc nch ho (I.freeC x c e),hd⟩
 refine ⟨I.ok,I.os,hg,⟨fun b o e n hb hx=>?_,fun b o e n hb hx=>?_,fun b o e n hx=>?_,fun b o e hx=>?_,fun b xs e=>tups b xs (I.base.tups b xs e),fun b o xs e=>frzs b o xs (I.base.frzs b o xs e),fun b ps e=>?_,fun b o xs e n=>tupo b o xs (I.base.tupo b o xs e n) (I.base.tups b xs n)⟩,?_,fun x c e=>?_,?_,fun x c e=>?_,fun p hp=>?_,hok,I.len⟩
 ·exact keep b o (neL b o e) hb (neC b o e hx) (I.base.keep b o e n hb hx) (I.base.free b o e n hx)
 ·obtain ⟨sl,e1⟩:=I.base.slot b o e n hb hx
  obtain ⟨sl',e2⟩:=slot b _ (neL b o e) hb (neC b o e hx) e1 (I.base.free b o e n hx);exact ⟨sl',e2⟩
 ·obtain ⟨o',e1⟩:=I.base.there b o e hx
  exact free b o' (neC b o e hx) e1 (I.base.free b o e n hx)
 ·obtain ⟨o',e1⟩:=I.base.there b o e hx
  exact there b o' (neC b o e hx) e1
 ·obtain ⟨m1,e1⟩:=I.base.tbls b ps e
  obtain ⟨m2,e2⟩:=tbls b _ e1;exact ⟨m1++m2,by rw [e2,jd]⟩
 ·obtain ⟨m,hn,hl⟩:=I.loc
  refine ⟨m,ns m hn,fun i x v e1 e2 e3=>?_⟩;obtain ⟨u,r,l⟩:=hl i x v e1 e2 e3;refine ⟨u,r,?_⟩;rcases l with l | ⟨k,c,e,z⟩
  ·exact .inl l
  ·exact .inr ⟨k,c,e,cellK x c e _ z⟩
 ·obtain ⟨v,z⟩:=I.cell x c e
  exact ⟨v,cellK x c e v z⟩
 ·obtain ⟨m,⟨o,_,_,ho,_⟩,_⟩:=I.loc
  exact free _ o (fun z=>(hch _ z).2.1 rfl) ho I.free
 ·obtain ⟨v,o,ho,hd⟩:=I.cell x c e
  exact free c o (fun z=>(hch c z).2.2.1 x c e rfl) ho (I.freeC x c e)
 ·obtain ⟨e,n,ne,nf,d⟩:=I.pin p hp
  have nch:p.1∉ch:=fun z=>(hch p.1 z).2.2.2 p hp rfl;exact ⟨keep p.1 p.2 ne nf nch e n,free p.1 p.2 nch e n,ne,nf,d⟩
theorem Inv.un {t':Nat} (I:Inv X pins σ H s) (u:Un X.fs [] H H' s.heap h') (hok:HOk X.prog X.w H' h'):Inv X pins σ H' { s with heap:=h',toks:=t' }:=by
 obtain ⟨m,⟨o,es,ep,ho,r⟩,_⟩:=id I.loc;obtain ⟨sl,hL⟩:=u.any ho I.free (by simp)
 exact I.step (g':=s.gens) (d':=s.drawn) (ch:=[]) (fun _ z=>nomatch z) (fun b o _ hb _ e n=>u.keep b o e n hb (by simp)) (fun b o _ hb _ e n=>u.slot b o e n hb (by simp)) (fun b o _ e n=>u.free b o e n (by simp)) (fun b o _ e=>u.there b o e (by simp)) u.tups u.frzs u.tbls u.tupo (fun m' hm=>by
  obtain ⟨o',es',ep',ho',r'⟩:=hm;rw [ho] at ho';cases ho'
  exact ⟨_,es',ep',hL,r'⟩) hok I.bare
theorem Inv.call {g':Array GenState} {t':Nat} {d':Drawn} {ch:List Addr} (I:Inv X pins σ H s) (u:Un (frs X.stack) ch H H' s.heap h') (hok:HOk X.prog X.w H' h') (hg:AllBare g')
  (hch:∀ b∈ch,(b∈X.ex\/X.s₀.heap.objs.size≤b)/\b≠X.env.locals/\(∀ x c,X.env.cells.lookup x=some c->c≠b)/\∀ p∈X.pn++pins,p.1≠b) :
  Inv X pins σ H' { s with heap:=h',gens:=g',drawn:=d',toks:=t' }:=by
 obtain ⟨m,⟨o,es,ep,ho,r⟩,_⟩:=id I.loc;obtain ⟨sl,hL⟩:=u.any ho I.free fun z=>(hch _ z).2.1 rfl
 exact I.step (ch:=ch) hch (fun b o hL hb hc e n=>u.keep b o e n (fun z=>(qy.mp (I.stkSub b z)).elim hL hb) hc) (fun b o _ _ hc e n=>u.any e n hc) (fun b o hc e n=>u.free b o e n hc) (fun b o hc e=>u.there b o e hc) u.tups u.frzs u.tbls u.tupo (fun m' hm=>by
  obtain ⟨o',es',ep',ho',r'⟩:=hm;rw [ho] at ho';cases ho'
  exact ⟨_,es',ep',hL,r'⟩) hok hg
theorem Inv.turned {t':Nat} {it:Addr} (I:Inv X pins σ H s) (k:∀ b o,b≠it->s.heap.get? b=some o->h'.get? b=some o) (hn:H it=none) (hL:it≠X.env.locals)
  (h1:it∈X.ex\/X.s₀.heap.objs.size≤it) (h2:∀ x c,X.env.cells.lookup x=some c->c≠it) (h3:∀ p∈X.pn++pins,p.1≠it):Inv X pins σ H { s with heap:=h',toks:=t' }:=by
 have nit:∀ b u,H b=some u->b≠it:=fun b u e z=>by rw [z,hn] at e;cases e
 refine I.step (g':=s.gens) (d':=s.drawn) (ch:=[it]) (fun b hb=>?_) (fun b o _ _ hc e _=>k b o (fun z=>hc (by simp [z])) e) (fun b o _ _ hc e _=>⟨o.slots,k b o (fun z=>hc (by simp [z])) e⟩) (fun _ _ _ _ n=>n)
  (fun b o hc e=>⟨o,k b o (fun z=>hc (by simp [z])) e⟩) (fun _ _ e=>e) (fun _ _ _ e=>e) (fun b ps e=>⟨#[],by rw [e];simp⟩) (fun b o xs e n=>k b o (nit b _ n) e) (fun m hm=>?_) (fun b u e=>?_) I.bare
 ·have e:b=it:=by simpa using hb
  subst e;exact ⟨h1,hL,h2,h3⟩
 ·obtain ⟨o,es,ep,ho,r⟩:=hm
  exact ⟨o,es,ep,k _ o (Ne.symm hL) ho,r⟩
 ·refine (I.hok b u e).stay (fun c v hc q=>k c v ?_ q) (fun _ q=>q) fun _ _ q=>q
  rcases hc with z | z
  ·rw [z];exact nit b u e
  ·exact nit c _ z
theorem Inv.tok (I:Inv X pins σ H s) (t:Nat):Inv X pins σ H { s with toks:=t }:=I.un (h':=s.heap) (t':=t) Un.refl I.hok
theorem Inv.kept {t':Nat} (I:Inv X pins σ H s) (k:∀ b u,s.heap.get? b=some u->h'.get? b=some u):Inv X pins σ H { s with heap:=h',toks:=t' }:=I.un (Un.kept k) (I.hok.kept k)
theorem Inv.laid {a:Addr} {o:HO} {t':Nat} (I:Inv X pins σ H s) (k:∀ b u,s.heap.get? b=some u->h'.get? b=some u) (hp:s.heap.objs.size≤a) (new:ObjOk X.prog X.w (upd H a o) h' a o) :
  Inv X pins σ (upd H a o) { s with heap:=h',toks:=t' }:=I.un (Un.laid k hp (I.hok.fresh hp)) (I.hok.laid k hp new)
theorem Inv.write {x e:Addr} {o:HO} {t':Nat} (I:Inv X pins σ H s) (mu:Mut (H x)) (he:e=x\/H e=some (.own x)) (k:∀ b u,b≠e->s.heap.get? b=some u->h'.get? b=some u) (heo:∃ u,h'.get? e=some u)
  (new:ObjOk X.prog X.w (upd H x o) h' x o):Inv X pins σ (upd H x o) { s with heap:=h',toks:=t' }:=I.un (Un.write mu he k heo) (I.hok.write mu he k heo new)
theorem Inv.weak {σ':List (Option V)} (I:Inv X pins σ H s) (hl:σ'.length=σ.length) (w:∀ (i:Nat) v,σ'[i]?=some (some v)->σ[i]?=some (some v)):Inv X pins σ' H s :=
 ⟨I.ok,I.os,I.bare,I.base,let ⟨m,hn,hl'⟩:=I.loc;⟨m,hn,fun i x v e1 e2 e3=>hl' i x v e1 (w i v e2) e3⟩,I.cell,I.free,I.freeC,I.pin,I.hok,hl.trans I.len⟩
theorem Inv.pins_of {pins':List (Addr×Obj)} (I:Inv X pins σ H s) (h:∀ p∈pins',s.heap.get? p.1=some p.2/\H p.1=none/\p.1≠X.env.locals/\p.1∉X.fs/\∀ v,p.2.data≠.cell v):Inv X pins' σ H s :=
 ⟨I.ok,I.os,I.bare,I.base,I.loc,I.cell,I.free,I.freeC,fun p hp=>(qw.mp hp).elim (fun z=>I.pin p (z6 _ z)) (h p),I.hok,I.len⟩
theorem xAjy {N:List Str} (hN:N.Nodup) {i j:Nat} {x:Str} (a:N[i]?=some x) (b:N[j]?=some x):i=j:=by
 obtain ⟨h1,e1⟩:=qv.mp a;obtain ⟨h2,e2⟩:=qv.mp b;exact (List.getElem_inj hN).mp (e1.trans e2.symm)
theorem xAhi {M:Model} {A:Around} {E:Value->Shared->Prop} {i:Nat} {x:Str} {v:V} {u:Value} {Q:Unit->Shared->Prop} (I:Inv X pins σ H s) (hN:X.N.Nodup) (hi:X.N[i]?=some x) (hx:Loc X.env.scope x) (r:RelV v u)
  (h:∀ s',Inv X pins (σ.set i (some v)) H s'->(∃ a,Heap.SameBut a s.heap s'.heap/\(a=X.env.locals\/X.env.cells.lookup x=some a))->Q () s') (hf:X.fn x=true\/X.env.scope.names.lookup x=some .local:=by first | exact .inl rfl | exact .inr rfl | assumption):wpAny M A (storeName X.env x u) Q E s:=by
 obtain ⟨m,hn,hl⟩:=id I.loc
 have hcls:(X.env.scope.kind==.class||(X.env.scope.kind==.module&&X.env.locals != X.env.globals))=false:=by rw [I.ok.kind];rfl
 have hiσ:i<σ.length:=by rw [I.len];exact (qv.mp hi).1
 have cne:=I.cne
 have tracked:∀ {a:Addr} {h':Heap},(∃ o,s.heap.get? a=some o/\H a=none)->Heap.SameBut a s.heap h'->HOk X.prog X.w H h':=fun {a h'} ha hs b ob e=>by
  obtain ⟨_,_,hfree⟩:=ha;refine (I.hok b ob e).stay (fun c w' hc q=>(hs.2 c ?_).trans q) (fun _ q=>q) fun _ _ q=>q;rintro rfl;rcases hc with rfl | hc
  ·rw [hfree] at e;cases e
  ·rw [hfree] at hc;cases hc
 rcases hx with hk | hk
 ·refine wpAny_storeName_local hk hn (fun h' hn' hs=>?_) hcls
  obtain ⟨oL,_,_,hoL,_⟩:=id hn;refine h _ ⟨I.ok,I.os,I.bare,⟨fun b o e n hb hx=>?_,fun b o e n hb hx=>?_,I.base.free,fun b o e hx=>?_,I.base.tups,I.base.frzs,I.base.tbls,fun b o xs e n=>(hs.2 b (Nat.ne_of_lt (Nat.lt_of_lt_of_le (Heap.lt_size e) I.ok.above))).trans (I.base.tupo b o xs e n)⟩,⟨_,hn',fun j y v' e1 e2 e3=>?_⟩,fun y c e=>?_,I.free,I.freeC,fun p hp=>?_,tracked ⟨oL,hoL,I.free⟩ hs,by simpa using I.len⟩ ⟨_,hs,.inl rfl⟩
  ·exact (hs.2 b (qi (qq (Heap.lt_size e) I.ok.above))).trans (I.base.keep b o e n hb hx)
  ·obtain ⟨sl,e1⟩:=I.base.slot b o e n hb hx
   exact ⟨sl,(hs.2 b (qi (qq (Heap.lt_size e) I.ok.above))).trans e1⟩
  ·obtain ⟨o',e1⟩:=I.base.there b o e hx
   exact ⟨o',(hs.2 b (qi (qq (Heap.lt_size e) I.ok.above))).trans e1⟩
  ·by_cases hj:j=i
   ·subst hj
    rw [hi] at e1;cases e1;rw [je hiσ] at e2;cases e2;exact ⟨u,r,.inl ⟨hk,by simp⟩⟩
   ·rw [v5 (Ne.symm hj)] at e2
    obtain ⟨u',r',q⟩:=hl j y v' e1 e2 e3;refine ⟨u',r',?_⟩;rcases q with ⟨k,e⟩ | ⟨k,c,e,z⟩
    ·refine .inl ⟨k,?_⟩
     have:y≠x:=fun e=>hj (xAjy hN e1 (e▸hi))
     simp [this,e]
    ·exact .inr ⟨k,c,e,z.sameBut hs (cne y c e)⟩
  ·obtain ⟨w',z⟩:=I.cell y c e
   exact ⟨w',z.sameBut hs (cne y c e)⟩
  ·obtain ⟨e,n,ne,nf,d⟩:=I.pin p hp
   exact ⟨(hs.2 p.1 ne).trans e,n,ne,nf,d⟩
 ·have hfn:X.fn x=true:=by
   rcases hf with z | z
   ·exact z
   ·rw [z] at hk;cases hk
  obtain ⟨c,hc⟩:=I.ok.has x (.inl hk);obtain ⟨w',z⟩:=I.cell x c hc;refine wpAny_storeName_cell I.ok.kind hk hc z (fun h' hc' hs=>?_);obtain ⟨oc,hoc,hocd⟩:=id z;refine h { s with heap:=h' } ⟨I.ok,I.os,I.bare,⟨fun b o e n hb hx=>?_,fun b o e n hb hx=>?_,I.base.free,fun b o e hx=>?_,I.base.tups,I.base.frzs,I.base.tbls,fun b o xs e n=>(hs.2 b (Nat.ne_of_lt (Nat.lt_of_lt_of_le (Heap.lt_size e) (I.ok.cab x c hfn hc)))).trans (I.base.tupo b o xs e n)⟩,⟨m,hn.sameBut hs (Ne.symm (cne x c hc)),fun j y v' e1 e2 e3=>?_⟩,fun y c' e=>?_,I.free,I.freeC,fun p hp=>?_,tracked ⟨oc,hoc,I.freeC x c hc⟩ hs,by simpa using I.len⟩ ⟨c,hs,.inr hc⟩
  ·exact (hs.2 b (qi (qq (Heap.lt_size e) (I.ok.cab x c hfn hc)))).trans (I.base.keep b o e n hb hx)
  ·obtain ⟨sl,e1⟩:=I.base.slot b o e n hb hx
   exact ⟨sl,(hs.2 b (qi (qq (Heap.lt_size e) (I.ok.cab x c hfn hc)))).trans e1⟩
  ·obtain ⟨o',e1⟩:=I.base.there b o e hx
   exact ⟨o',(hs.2 b (qi (qq (Heap.lt_size e) (I.ok.cab x c hfn hc)))).trans e1⟩
  ·by_cases hj:j=i
   ·subst hj
    rw [hi] at e1;cases e1;rw [je hiσ] at e2;cases e2;exact ⟨u,r,.inr ⟨.inl hk,c,hc,hc'⟩⟩
   ·rw [v5 (Ne.symm hj)] at e2
    obtain ⟨u',r',q⟩:=hl j y v' e1 e2 e3;refine ⟨u',r',?_⟩;rcases q with q | ⟨k,c',e,z'⟩
    ·exact .inl q
    ·refine .inr ⟨k,c',e,z'.sameBut hs ?_⟩
     rintro rfl;exact hj (xAjy hN e1 (I.ok.inj _ _ _ e hc▸hi))
  ·by_cases hcc:c'=c
   ·subst hcc;exact ⟨_,hc'⟩
   ·obtain ⟨w2,z2⟩:=I.cell y c' e
    exact ⟨w2,z2.sameBut hs hcc⟩
  ·obtain ⟨e,n,ne,nf,d⟩:=I.pin p hp
   refine ⟨(hs.2 p.1 ?_).trans e,n,ne,nf,d⟩;intro q;rw [q,hoc] at e;have q':oc=p.2:=Option.some.inj e;exact d w' (by rw [← q'];exact hocd)
theorem xAjz {M:Model} {A:Around} {E:Value->Shared->Prop} {i:Nat} {x:Str} {v:V} {u:Value} {Q:Unit->Shared->Prop} (I:Inv X pins σ H s) (hN:X.N.Nodup) (hi:X.N[i]?=some x) (hx:Loc X.env.scope x) (r:RelV v u)
  (h:∀ s',Inv X pins (σ.set i (some v)) H s'->Q () s') (hf:X.fn x=true\/X.env.scope.names.lookup x=some .local:=by first | exact .inl rfl | exact .inr rfl | assumption):wpAny M A (storeName X.env x u) Q E s :=
 xAhi I hN hi hx r (fun s' I' _=>h s' I') hf
theorem Inv.call' {s':Shared} {ch:List Addr} (I:Inv X pins σ H s) (ho:s'.os=s.os) (u:Un (frs X.stack) ch H H' s.heap s'.heap) (hok:HOk X.prog X.w H' s'.heap) (hg:AllBare s'.gens)
  (hch:∀ b∈ch,(b∈X.ex\/X.s₀.heap.objs.size≤b)/\b≠X.env.locals/\(∀ x c,X.env.cells.lookup x=some c->c≠b)/\∀ p∈X.pn++pins,p.1≠b):Inv X pins σ H' s':=by
 obtain ⟨h',g',d',t',o'⟩:=s';have e:o'=s.os:=ho;subst e;exact I.call (g':=g') (t':=t') (d':=d') u hok hg hch
end
abbrev XK:=Value->Option Addr->Hp->Prop
abbrev St:=List (Option V)
abbrev VK:=V->Hp->Prop
abbrev TE:=St->Hp->VK->Prop
abbrev TT:=St->Hp->(Bool->Hp->Prop)->Prop
abbrev TA:=St->Hp->(List V->Hp->Prop)->Prop
structure Ends where
 nx:St->Hp->Prop
 rt:VK
 bk:St->Hp->Prop:=fun _ _=>False
 ct:St->Hp->Prop:=fun _ _=>False
abbrev TS:=Ends->St->Hp->Prop
def EP (X:Cx) (pins:List (Addr×Obj)) (σ:St) (Q:VK) (u:Value) (s':Shared):Prop:=∃ v H',Inv X pins σ H' s'/\RelV v u/\Q v H'
def TP (X:Cx) (pins:List (Addr×Obj)) (σ:St) (Q:Bool->Hp->Prop) (b:Bool) (s':Shared):Prop:=∃ H',Inv X pins σ H' s'/\Q b H'
def AP (X:Cx) (pins:List (Addr×Obj)) (σ:St) (Q:List V->Hp->Prop) (us:List Value) (s':Shared):Prop:=∃ vs H',Inv X pins σ H' s'/\Vals vs us/\Q vs H'
def SP (X:Cx) (pins:List (Addr×Obj)) (D:Ends) (f:Flow) (s':Shared):Prop :=
 match f with
 | .next=>∃ σ' H',Inv X pins σ' H' s'/\D.nx σ' H'
 | .brk=>∃ σ' H',Inv X pins σ' H' s'/\D.bk σ' H'
 | .cont=>∃ σ' H',Inv X pins σ' H' s'/\D.ct σ' H'
 | .ret u=>∃ v σ' H',Inv X pins σ' H' s'/\RelV v u/\D.rt v H'
def PE (X:Cx) (e:Expr) (t:TE):Prop :=
 ∀ (pins:List (Addr×Obj)) (s:Shared) (σ:St) (H:Hp) (Q:VK),Inv X pins σ H s->t σ H Q->wpAny (model X.prog X.w) X.A (eval e X.env) (EP X pins σ Q) X.xe s
def PT (X:Cx) (e:Expr) (t:TT):Prop :=
 ∀ (pins:List (Addr×Obj)) (s:Shared) (σ:St) (H:Hp) (Q:Bool->Hp->Prop),Inv X pins σ H s->t σ H Q->wpAny (model X.prog X.w) X.A (isTrue e X.env (eval e X.env)) (TP X pins σ Q) X.xe s
def PW (X:Cx) (e:Expr) (t:TT):Prop :=
 ∀ (whole:Sem Value) (pins:List (Addr×Obj)) (s:Shared) (σ:St) (H:Hp) (Q:Bool->Hp->Prop),Inv X pins σ H s->t σ H Q->wpAny (model X.prog X.w) X.A (isTrue e X.env whole) (TP X pins σ Q) X.xe s
theorem PW.pt {X:Cx} {e:Expr} {t:TT} (h:PW X e t):PT X e t:=h _
def PA (X:Cx) (es:List Expr) (t:TA):Prop :=
 ∀ (pos:Pos) (pins:List (Addr×Obj)) (s:Shared) (σ:St) (H:Hp) (Q:List V->Hp->Prop),Inv X pins σ H s->t σ H Q->wpAny (model X.prog X.w) X.A (spliced (backTo pos (starEach es X.env))) (AP X pins σ Q) X.xe s
def PS (X:Cx) (st:Stmt) (t:TS):Prop :=
 ∀ (pins:List (Addr×Obj)) (s:Shared) (σ:St) (H:Hp) (D:Ends),Inv X pins σ H s->t D σ H->wpAny (model X.prog X.w) X.A (exec st X.env) (SP X pins D) X.xe s
def PSs (X:Cx) (st:List Stmt) (t:TS):Prop :=
 ∀ (pins:List (Addr×Obj)) (s:Shared) (σ:St) (H:Hp) (D:Ends),Inv X pins σ H s->t D σ H->wpAny (model X.prog X.w) X.A (execs st X.env) (SP X pins D) X.xe s
theorem thn {α:Type} {t:Sem α} {Q Q':α->Shared->Prop} {M:Model} {A:Around} {E:Value->Shared->Prop} {s:Shared} (h:wpAny M A t Q E s) (hQ:∀ a s,Q a s->Q' a s):wpAny M A t Q' E s:=wpAny_mono h hQ fun _ _ x=>x
section
variable {X:Cx}
def tVar (i:Nat):TE:=fun σ H Q=>∃ v,σ[i]?=some (some v)/\Q v H
def tC (v:V):TE:=fun _ H Q=>Q v H
theorem pe_var {i:Nat} {x:Str} {pos:Pos} (hN:X.N[i]?=some x) (hv:Vis X.env.scope x) (hd:(x==("__debug__":Str))=false:=by decide) (hcd:(x==("__classdict__":Str))=false:=by decide):PE X (.Name x pos) (tVar i):=by
 intro pins s σ H Q I h;obtain ⟨v,e,h⟩:=h;obtain ⟨m,hn,hl⟩:=I.loc;obtain ⟨u,r,l⟩:=hl i x v hN e hv;have fin:EP X pins σ Q u s:=⟨v,H,I,r,h⟩;rcases l with ⟨hk,hm⟩ | ⟨hk,c,hc,hcell⟩
 ·exact wpAny_Name (wpAny_loadName_local I.ok.kind hk hn hm fin) hd
 ·rcases hk with hk | hk
  ·exact wpAny_Name (wpAny_loadName_cell I.ok.kind hk hc hcell fin) hd
  ·exact wpAny_Name (wpAny_loadName_free I.ok.kind hk hc hcell fin hcd) hd
theorem xAah {i j pos}:PE X (.Constant (.int i) j pos) (tC (.int i)):=fun _ _ _ H _ I h=>wpAny_Constant_int ⟨.int i,H,I.tok _,⟨_,rfl⟩,h⟩
theorem pe_bl {b j pos}:PE X (.Constant (.bool b) j pos) (tC (.bl b)):=fun _ _ _ H _ I h=>Constant_bool ⟨.bl b,H,I,rfl,h⟩
theorem xArt {j pos}:PE X (.Constant .none j pos) (tC .non):=fun _ _ _ H _ I h=>Constant_none ⟨.non,H,I,rfl,h⟩
theorem xAar {x j pos}:PE X (.Constant (.str x) j pos) (tC (.str x)):=fun _ _ _ H _ I h=>Calls.Constant_str ⟨.str x,H,I.tok _,⟨_,rfl⟩,h⟩
def Gl (X:Cx) (x:Str):Prop:=X.env.kindOf x=some .globalImplicit
theorem xAka {E:Value->Shared->Prop} {pins:List (Addr×Obj)} {s:Shared} {σ:St} {H:Hp} {x:Str} {u:Value} {pos:Pos} {Q:Value->Shared->Prop} (I:Inv X pins σ H s) (hg:Gl X x) (hm:X.mg x=some u) (h:Q u s)
  (hd:(x==("__debug__":Str))=false:=by decide):wpAny (model X.prog X.w) X.A (eval (.Name x pos) X.env) Q E s :=
 Calls.Name_function_global I.ok.kind hg (Calls.loadGlobal_global (by rw [I.ok.glob];exact I.mod.glob.keeps I.bk) hm h) hd
theorem xAja {E:Value->Shared->Prop} {pins:List (Addr×Obj)} {s:Shared} {σ:St} {H:Hp} {x:Str} {u:Value} {pos:Pos} {Q:Value->Shared->Prop} (I:Inv X pins σ H s) (hg:Gl X x) (hm:X.mg x=none) (hv:bootBuiltins x=some u) (h:Q u s)
  (hn:x≠"__name__":=by decide) (hd:(x==("__debug__":Str))=false:=by decide):wpAny (model X.prog X.w) X.A (eval (.Name x pos) X.env) Q E s:=by
 obtain ⟨mb,h1,h2⟩:=I.mod.blt;exact Calls.Name_function_global I.ok.kind hg (Calls.loadGlobal_builtin (by rw [I.ok.glob];exact I.mod.glob.keeps I.bk) hm (by rw [I.ok.blt];exact h1.keeps I.bk) ((h2 x hn).trans hv) h) hd
theorem xAov {x:Str} {v:V} {u:Value} {pos:Pos} (hg:Gl X x) (hm:X.mg x=some u) (r:RelV v u) (hd:(x==("__debug__":Str))=false:=by decide):PE X (.Name x pos) (tC v) :=
 fun _ _ _ H _ I h=>xAka I hg hm ⟨v,H,I,r,h⟩ hd
theorem xAow {x:Str} {v:V} {u:Value} {pos:Pos} (hg:Gl X x) (hm:X.mg x=none) (hv:bootBuiltins x=some u) (r:RelV v u) (hn:x≠"__name__":=by decide) (hd:(x==("__debug__":Str))=false:=by decide):PE X (.Name x pos) (tC v) :=
 fun _ _ _ H _ I h=>xAja I hg hm hv ⟨v,H,I,r,h⟩ hn hd
variable {a b:Expr} {ta tb:TE} {pos:Pos}
def tB (t:TE):TT:=fun σ H Q=>t σ H fun x H1=>∃ c,x=.bl c/\Q c H1
theorem xAfl {e:Expr} {t:TE} (h:PE X e t) (he:∀ whole,isTrue e X.env whole=(do let v ← whole;standAt e.pos;holding [v] (truthy v)):=by intro _;rfl):PT X e (tB t):=by
 intro pins s σ H Q I hw;refine isTrue_plain (thn (h pins s σ H _ I hw) fun v s1 ⟨x,H1,I1,r1,q1⟩=>?_) (he _);obtain ⟨d,rfl,q⟩:=q1;cases r1;exact wpAny_truthy_bool ⟨H1,I1,q⟩
variable {tA tB':TT} {rest:List Expr}
def tAnd (t u:TT):TT:=fun σ H Q=>t σ H fun c H1=>if c=true then u σ H1 Q else Q false H1
def tOr (t u:TT):TT:=fun σ H Q=>t σ H fun c H1=>if c=true then Q true H1 else u σ H1 Q
def tNot (t:TT):TT:=fun σ H Q=>t σ H fun c H1=>Q (!c) H1
theorem xAdj (ha:PT X a tA):PW X (.BoolOp .And [a] pos) tA:=by
 intro wh pins s σ H Q I h;refine isTrue_and (thn (ha pins s σ H Q I h) fun c s1 e=>?_)
 cases c with
 | true=>exact isTrue_and_nil e
 | false=>exact e
theorem xAgf (ha:PT X a tA):PW X (.BoolOp .Or [a] pos) tA:=by
 intro wh pins s σ H Q I h;refine isTrue_or (thn (ha pins s σ H Q I h) fun c s1 e=>?_)
 cases c with
 | false=>exact isTrue_or_nil e
 | true=>exact e
theorem xAgg (ha:PT X a tA) (hb:PW X (.BoolOp .And (b::rest) pos) tB'):PW X (.BoolOp .And (a::b::rest) pos) (tAnd tA tB'):=by
 intro wh pins s σ H Q I h;refine isTrue_and (thn (ha pins s σ H _ I h) fun c s1 ⟨H1,I1,q1⟩=>?_)
 cases c with
 | true=>exact hb wh pins s1 σ H1 Q I1 q1
 | false=>exact ⟨H1,I1,q1⟩
theorem pw_or (ha:PT X a tA) (hb:PW X (.BoolOp .Or (b::rest) pos) tB'):PW X (.BoolOp .Or (a::b::rest) pos) (tOr tA tB'):=by
 intro wh pins s σ H Q I h;refine isTrue_or (thn (ha pins s σ H _ I h) fun c s1 ⟨H1,I1,q1⟩=>?_)
 cases c with
 | true=>exact ⟨H1,I1,q1⟩
 | false=>exact hb wh pins s1 σ H1 Q I1 q1
theorem xAkb (ha:PT X a tA):PT X (.UnaryOp .Not a pos) (tNot tA):=by
 intro pins s σ H Q I h;exact isTrue_not (ha pins s σ H (fun c H1=>Q (!c) H1) I h)
def tAndV (ta tb:TE):TE:=fun σ H Q=>ta σ H fun x H1=>∃ c,x=.bl c/\if c=true then tb σ H1 Q else Q (.bl false) H1
theorem xAru {op} {t:TE} (h:PE X a t):PE X (.BoolOp op [a] pos) t:=fun pins s σ H Q I hw=>BoolOp_one (h pins s σ H Q I hw)
theorem xArv (ha:PE X a ta) (hb:PE X (.BoolOp .And (b::rest) pos) tb):PE X (.BoolOp .And (a::b::rest) pos) (tAndV ta tb):=by
 intro pins s σ H Q I h;refine BoolOp_and (thn (ha pins s σ H _ I h) fun v s1 ⟨x,H1,I1,r1,q1⟩=>?_);obtain ⟨c,rfl,q1⟩:=q1;cases r1;refine wpAny_truthy_bool ?_
 cases c with
 | true=>exact hb pins s1 σ H1 Q I1 q1
 | false=>exact ⟨.bl false,H1,I1,rfl,q1⟩
def tIf (t:TT) (ta tb:TE):TE:=fun σ H Q=>t σ H fun c H1=>if c=true then ta σ H1 Q else tb σ H1 Q
theorem xAkc {c:Expr} (hc:PT X c tA) (ha:PE X a ta) (hb:PE X b tb):PE X (.IfExp c a b pos) (tIf tA ta tb):=by
 intro pins s σ H Q I h;refine wpAny_IfExp (thn (hc pins s σ H _ I h) fun d s1 ⟨H1,I1,q1⟩=>?_)
 cases d with
 | true=>exact ha pins s1 σ H1 Q I1 q1
 | false=>exact hb pins s1 σ H1 Q I1 q1
end
def SqL (K:PySem.W.Frag) (H:Hp) (a:Addr) (xs:List V):Prop :=
 Rd H a (.lst xs) ∨
  ∃ (o:Obj) (its:Array Value) (n:Nat),K.lookup a=some o/\o.cls=.type "list" /\ o.dict=none/\o.data=.seq its n/\its.size≤sizeLine/\Vals xs its.toList
def SqT (K:PySem.W.Frag) (H:Hp) (a:Addr) (xs:List V):Prop :=
 Rd H a (.tup xs) ∨
  ∃ (o:Obj) (its:Array Value) (n:Nat),K.lookup a=some o/\o.cls=.type "tuple" /\ o.data=.seq its n/\its.size≤sizeLine/\Vals xs its.toList
def absV:Value->Option V
 | .none=>some .non
 | .bool b=>some (.bl b)
 | .int i _=>some (.int i)
 | .str x _=>some (.str x)
 | .bytes b _=>some (.byt b)
 | .float b _=>some (.flt b)
 | .ref a=>some (.ref a)
 | .type n=>some (.ty n)
 | _=>none
theorem RelV.abs {x:V} {u:Value} (r:RelV x u):absV u=some x:=by
 cases x with
 | non=>cases r;rfl
 | bl _=>cases r;rfl
 | int _=>obtain ⟨t,rfl⟩:=r;rfl
 | str _=>obtain ⟨t,rfl⟩:=r;rfl
 | byt _=>obtain ⟨t,rfl⟩:=r;rfl
 | flt _=>obtain ⟨t,rfl⟩:=r;rfl
 | ref _=>cases r;rfl
 | ty _=>cases r;rfl
theorem RelV.inj {x y:V} {u:Value} (r:RelV x u) (q:RelV y u):x=y:=Option.some.inj (r.abs.symm.trans q.abs)
theorem Vals.inj:∀ {xs ys:List V} {us:List Value},Vals xs us->Vals ys us->xs=ys
 | _,_,_,.nil,.nil=>rfl
 | _,_,_,.cons r t,.cons r' t'=>by rw [r.inj r',Vals.inj t t']
section
variable {X:Cx} {pins:List (Addr×Obj)} {σ:St} {H:Hp} {s:Shared} {a:Addr} {xs ys:List V}
theorem SqL.of {K:PySem.W.Frag} (h:H a=some (.lst xs)):SqL K H a xs:=.inl (.inl h)
theorem SqT.of {K:PySem.W.Frag} (h:H a=some (.tup xs)):SqT K H a xs:=.inl (.inl h)
theorem Inv.list (I:Inv X pins σ H s) (h:SqL X.K H a xs):∃ its:List Value,Vals xs its/\PlainL s.heap a its.toArray/\xs.length≤sizeLine:=by
 rcases h with h | ⟨o,its,n,hk,hc,hd,hs,hz,r⟩
 ·obtain ⟨z,its,n,r,e⟩:=h.ok I.hok
  exact ⟨its,r,⟨_,n,e,rfl,rfl,rfl⟩,z⟩
 ·refine ⟨its.toList,r,⟨o,n,I.kIn a o hk,hc,hd,by simpa using hs⟩,?_⟩
  have e:=r.length
  simp only [Array.length_toList] at e
  omega
theorem Inv.tuple (I:Inv X pins σ H s) (h:SqT X.K H a xs):∃ its:List Value,Vals xs its/\IsTup s.heap a its.toArray/\xs.length≤sizeLine:=by
 rcases h with h | ⟨o,its,n,hk,hc,hs,hz,r⟩
 ·obtain ⟨z,its,r,p⟩:=h.ok I.hok
  exact ⟨its,r,p,z⟩
 ·refine ⟨its.toList,r,⟨o,I.kIn a o hk,hc,n,by simpa using hs⟩,?_⟩
  have e:=r.length
  simp only [Array.length_toList] at e
  omega
theorem Inv.list_inj (I:Inv X pins σ H s) (h:SqL X.K H a xs) (h':SqL X.K H a ys):xs=ys:=by
 obtain ⟨its,r,⟨o,n,e,_,_,d⟩,_⟩:=I.list h;obtain ⟨its',r',⟨o',n',e',_,_,d'⟩,_⟩:=I.list h';rw [e] at e';cases e';rw [d] at d';injection d' with d1 _
 have:its=its':=by simpa using congrArg Array.toList d1
 subst this;exact r.inj r'
end
abbrev Cx.wish (X:Cx) (E:Value->Shared->Prop):Cx:={ X with xe:=E }
abbrev Cx.nox (X:Cx):Cx:=X.wish fun _ _=>False
theorem Cx.Ok.wish {X:Cx} (ok:X.Ok) (E:Value->Shared->Prop):(X.wish E).Ok :=
 ⟨ok.mod,ok.kind,ok.glob,ok.blt,ok.above,ok.inj,ok.has,ok.cab,ok.hd,ok.frames,ok.stk,ok.exf,ok.bs,ok.bsz,ok.noex,ok.exfs,ok.funs,ok.frf⟩
theorem Cx.Ok.unwish {X:Cx} {E:Value->Shared->Prop} (ok:(X.wish E).Ok):X.Ok :=
 ⟨ok.mod,ok.kind,ok.glob,ok.blt,ok.above,ok.inj,ok.has,ok.cab,ok.hd,ok.frames,ok.stk,ok.exf,ok.bs,ok.bsz,ok.noex,ok.exfs,ok.funs,ok.frf⟩
section
variable {X:Cx} {pins:List (Addr×Obj)} {σ:St} {H:Hp} {s:Shared} {E:Value->Shared->Prop}
theorem Inv.wish (I:Inv X pins σ H s) (E:Value->Shared->Prop):Inv (X.wish E) pins σ H s:=⟨I.ok.wish E,I.os,I.bare,I.base,I.loc,I.cell,I.free,I.freeC,I.pin,I.hok,I.len⟩
theorem Inv.unwish (I:Inv (X.wish E) pins σ H s):Inv X pins σ H s:=⟨I.ok.unwish,I.os,I.bare,I.base,I.loc,I.cell,I.free,I.freeC,I.pin,I.hok,I.len⟩
theorem SP.unwish {D:Ends} {f:Flow} {s':Shared} (h:SP (X.wish E) pins D f s'):SP X pins D f s':=by
 cases f with
 | next=>obtain ⟨σ',H',I,q⟩:=h;exact ⟨σ',H',I.unwish,q⟩
 | brk=>obtain ⟨σ',H',I,q⟩:=h;exact ⟨σ',H',I.unwish,q⟩
 | cont=>obtain ⟨σ',H',I,q⟩:=h;exact ⟨σ',H',I.unwish,q⟩
 | ret u=>obtain ⟨v,σ',H',I,r,q⟩:=h;exact ⟨v,σ',H',I.unwish,r,q⟩
theorem PSs.nox {st:List Stmt} {t:TS} (h:PSs X.nox st t):PSs X st t:=fun pins s σ H D I hw =>
 wpAny_mono (h pins s σ H D (I.wish _) hw) (fun _ _ q=>q.unwish) fun _ _ z=>False.elim z
end
section
variable {X:Cx} {st:Stmt} {rest:List Stmt} {t u:TS} {e:Expr} {te:TE} {pos:Pos}
def tNext:TS:=fun D σ H=>D.nx σ H
def tSeq (t u:TS):TS:=fun D σ H=>t { D with nx:=u D } σ H
theorem xAav:PSs X [] tNext:=fun _ _ σ H _ I h=>wpAny_execs_nil ⟨σ,H,I,h⟩
theorem xAac (h1:PS X st t) (h2:PSs X rest u):PSs X (st::rest) (tSeq t u):=by
 intro pins s σ H D I h;refine wpAny_execs_cons (thn (h1 pins s σ H { D with nx:=u D } I h) fun f s1 q=>?_)
 cases f with
 | next =>
  obtain ⟨σ',H',I',q⟩:=q;exact h2 pins s1 σ' H' D I' q
 | ret v=>exact q
 | brk=>exact q
 | cont=>exact q
theorem xAag (h1:PS X st t):PSs X [st] t:=by
 intro pins s σ H D I h;refine wpAny_execs_cons (thn (h1 pins s σ H D I h) fun f s1 q=>?_)
 cases f with
 | next=>exact wpAny_execs_nil q
 | ret v=>exact q
 | brk=>exact q
 | cont=>exact q
theorem Inv.quiet {pins:List (Addr×Obj)} {σ:St} {H:Hp} {s:Shared} (I:Inv X pins σ H s):interactive X.env=false:=by simp [interactive,I.ok.kind]
def tDrop (te:TE):TS:=fun D σ H=>te σ H fun _ H1=>D.nx σ H1
theorem xAbm (he:PE X e te) (hs:swapsWith e none pos.line X.env=pure false:=by rfl):PS X (.Expr e pos) (tDrop te):=by
 intro pins s σ H D I h;exact wpAny_Expr_any (thn (he pins s σ H _ I h) fun v s1 ⟨x,H1,I1,r1,q1⟩=>⟨σ,H1,I1,q1⟩) I.quiet hs
def tRet (te:TE):TS:=fun D σ H=>te σ H D.rt
theorem xAat (he:PE X e te):PS X (.Return (some e) pos) (tRet te):=by
 intro pins s σ H D I h;exact wpAny_Return_some (thn (he pins s σ H _ I h) fun v s1 ⟨x,H1,I1,r1,q1⟩=>⟨x,σ,H1,I1,r1,q1⟩)
def tRetN:TS:=fun D _ H=>D.rt .non H
theorem xArw:PS X (.Return none pos) tRetN:=fun _ _ σ H _ I h=>wpAny_Return_none ⟨.non,σ,H,I,rfl,h⟩
def tIfS (c:TT) (t u:TS):TS:=fun D σ H=>c σ H fun b H1=>if b=true then t D σ H1 else u D σ H1
theorem ps_if {c:Expr} {a b:List Stmt} {tc:TT} (hc:PT X c tc) (ha:PSs X a t) (hb:PSs X b u):PS X (.If c a b pos) (tIfS tc t u):=by
 intro pins s σ H D I h;refine wpAny_If (thn (hc pins s σ H _ I h) fun d s1 ⟨H1,I1,q1⟩=>?_)
 cases d with
 | true=>exact ha pins s1 σ H1 D I1 q1
 | false=>exact hb pins s1 σ H1 D I1 q1
end
abbrev TG:=V->St->Hp->(St->Hp->Prop)->Prop
abbrev TGs:=List V->St->Hp->(St->Hp->Prop)->Prop
def PG (X:Cx) (target:Expr) (t:TG):Prop :=
 ∀ (pins:List (Addr×Obj)) (s:Shared) (σ:St) (H:Hp) (v:V) (u:Value) (Q:St->Hp->Prop),Inv X pins σ H s->RelV v u->t v σ H Q →
  wpAny (model X.prog X.w) X.A (assign target X.env u) (fun _ s'=>∃ σ' H',Inv X pins σ' H' s'/\Q σ' H') X.xe s
def PGs (X:Cx) (ts:List Expr) (t:TGs):Prop :=
 ∀ (pins:List (Addr×Obj)) (s:Shared) (σ:St) (H:Hp) (vs:List V) (us:List Value) (Q:St->Hp->Prop),Inv X pins σ H s->Vals vs us->t vs σ H Q →
  wpAny (model X.prog X.w) X.A (assignInOrder ((assignEach ts X.env).map (·.2)) us) (fun _ s'=>∃ σ' H',Inv X pins σ' H' s'/\Q σ' H') X.xe s
abbrev TSet:=V->V->V->Hp->(Hp->Prop)->Prop
def PSet (X:Cx) (t:TSet):Prop :=
 ∀ (pins:List (Addr×Obj)) (s:Shared) (σ:St) (H:Hp) (o i v:V) (ov iv u:Value) (Q:Hp->Prop),Inv X pins σ H s->RelV o ov->RelV i iv->RelV v u->t o i v H Q →
  wpAny (model X.prog X.w) X.A (setItem ov iv u) (fun _ s'=>∃ H',Inv X pins σ H' s'/\Q H') X.xe s
section
variable {X:Cx} {pos:Pos}
def gName (i:Nat):TG:=fun v σ H Q=>Q (σ.set i (some v)) H
theorem xAal {i:Nat} {x:Str} (hN:X.N.Nodup) (hi:X.N[i]?=some x) (hx:Loc X.env.scope x) (hf:X.fn x=true\/X.env.scope.names.lookup x=some .local:=by first | exact .inl rfl | exact .inr rfl | assumption):PG X (.Name x pos) (gName i):=by
 intro pins s σ H v u Q I r h;exact wpAny_assign_Name (xAjz I hN hi hx r (fun s' I'=>⟨_,H,I',h⟩) hf)
def gNil:TGs:=fun vs σ H Q=>vs=[]/\Q σ H
def gCons (t:TG) (u:TGs):TGs:=fun vs σ H Q=>∃ v r,vs=v::r/\t v σ H fun σ' H'=>u r σ' H' Q
theorem xAdb:PGs X [] gNil:=by
 intro pins s σ H vs us Q I r h;obtain ⟨e,h⟩:=h;subst e;cases r;exact assignInOrder_nil ⟨σ,H,I,h⟩
theorem xAaq {e:Expr} {es:List Expr} {t:TG} {u:TGs} (h1:PG X e t) (h2:PGs X es u)
  (hs:(assignEach (e::es) X.env).map (·.2)=assign e X.env::(assignEach es X.env).map (·.2):=by rfl):PGs X (e::es) (gCons t u):=by
 intro pins s σ H vs us Q I r h;obtain ⟨v,vr,e1,h⟩:=h;subst e1
 cases r with
 | cons r rr =>
  rw [hs];refine assignInOrder_cons (thn (h1 pins s σ H _ _ _ I r h) fun _ s1 ⟨σ1,H1,I1,q1⟩=>?_);exact h2 pins s1 σ1 H1 _ _ Q I1 rr q1
def gTup (K:PySem.W.Frag) (n:Nat) (t:TGs):TG:=fun v σ H Q=>∃ a xs,v=.ref a/\SqT K H a xs/\xs.length=n/\t xs σ H Q
theorem xAfm {es:List Expr} {k:Nat} {t:TGs} {n:Nat} (hc:X.calm=true) (h:PGs X es t)
  (hn:(assignEach es X.env).length=n:=by rfl) (hst:(assignEach es X.env).findIdx? (·.1)=none:=by rfl):PG X (.Tuple es k pos) (gTup X.K n t):=by
 intro pins s σ H v u Q I r hw;obtain ⟨a,xs,e1,hq,hl,hw⟩:=hw;subst e1;cases r;obtain ⟨its,rv,ht,hz⟩:=I.tuple hq;refine assign_Tuple_tuple (I.ok.hd hc) ht (by simp [hn,← hl,rv.length]) hst fun h' hx=>?_;have I1:Inv X pins σ H { s with heap:=h' }:=I.kept (t':=s.toks) fun b o e=>hx b o (qi (Heap.lt_size e)) e;exact h pins _ σ H xs _ Q I1 (by simpa using rv) hw
def gSub (to ti:TE) (t:TSet):TG:=fun v σ H Q=>to σ H fun o H1=>ti σ H1 fun i H2=>t o i v H2 fun H3=>Q σ H3
theorem xAjb {o i:Expr} {to ti:TE} {t:TSet} (ho:PE X o to) (hi:PE X i ti) (hs:PSet X t)
  (ha:∀ v,assign (.Subscript o i pos) X.env v=(do
   let ov ← holding [v] (eval o X.env)
   let iv ← holding [v,ov] (eval i X.env)
   standAt pos
   holding [v,ov,iv] (setItem ov iv v)
   release [v,ov,iv] []):=by intro _;rfl):PG X (.Subscript o i pos) (gSub to ti t):=by
 intro pins s σ H v u Q I r h;rw [ha];refine wpAny_bind (wpAny_holding (thn (ho pins s σ H _ I h) fun ov s1 ⟨x,H1,I1,r1,q1⟩=>?_));refine wpAny_bind (wpAny_holding (thn (hi pins s1 σ H1 _ I1 q1) fun iv s2 ⟨y,H2,I2,r2,q2⟩=>?_));refine wpAny_bind (wpAny_standAt (wpAny_bind (wpAny_holding (thn (hs pins s2 σ H2 x y v ov iv u _ I2 r1 r2 r q2) fun _ s3 ⟨H3,I3,q3⟩=>?_))));exact wpAny_release ⟨σ,H3,I3,q3⟩
def tAsg (te:TE) (g:TG):TS:=fun D σ H=>te σ H fun x H1=>g x σ H1 D.nx
theorem xAjc {tg e:Expr} {te:TE} {g:TG} (he:PE X e te) (hg:PG X tg g) (hs:swapsWithSole [tg] e pos.line X.env=pure false:=by rfl) (hw:swappedStores [tg] e X.env=pure none:=by rfl)
  (h1:(assignEach [tg] X.env).map (·.2)=[assign tg X.env]:=by rfl):PS X (.Assign [tg] e pos) (tAsg te g):=by
 intro pins s σ H D I h;refine wpAny_Assign_stores (thn (he pins s σ H _ I h) fun v s1 ⟨x,H1,I1,r1,q1⟩=>?_) hs hw;rw [h1];exact thn (hg pins s1 σ H1 x v _ I1 r1 q1) fun _ s2 q=>q
theorem xAak {i:Nat} {x:Str} {e:Expr} {te:TE} {pos':Pos} (hN:X.N.Nodup) (hi:X.N[i]?=some x) (hx:Loc X.env.scope x) (he:PE X e te) (hs:swapsWith e (some (.Name x pos')) pos.line X.env=pure false:=by rfl) (hf:X.fn x=true\/X.env.scope.names.lookup x=some .local:=by first | exact .inl rfl | exact .inr rfl | assumption) :
  PS X (.Assign [.Name x pos'] e pos) (tAsg te (gName i)):=by
 intro pins s σ H D I h;refine wpAny_Assign_Name (thn (he pins s σ H _ I h) fun v s1 ⟨y,H1,I1,r1,q1⟩=>?_) hs;exact xAjz I1 hN hi hx r1 (fun s2 I2=>⟨_,H1,I2,q1⟩) hf
end
section
variable {X:Cx} {pos:Pos}
def tWhile (c:TT) (tb:TS):TS:=fun D σ H=>∃ W:Nat->St->Hp->Prop,(∃ m,W m σ H)/\∀ m σ H,W m σ H →
 c σ H fun b H1=>if b=true then ∃ N:St->Hp->Prop,(∀ σ' H',N σ' H'->∃ m',m'<m/\W m' σ' H')/\tb { D with nx:=N,ct:=N,bk:=D.nx } σ H1 else D.nx σ H1
theorem xAdk {c:Expr} {body:List Stmt} {tc:TT} {tb:TS} (hp:PassesOwn (model X.prog X.w) X.A X.env X.xe) (hc:PT X c tc) (hb:PSs X body tb):PS X (.While c body [] pos) (tWhile tc tb):=by
 intro pins s σ H D I h;obtain ⟨W,⟨m0,w0⟩,turn⟩:=h;refine wpAny_While (codeAny_whileLoop (fun n s'=>∃ σ' H',Inv X pins σ' H' s'/\W n σ' H') ?_ m0 ⟨σ,H,I,w0⟩);rintro n s1 ⟨σ1,H1,I1,w1⟩;refine wpAny_passesOwn hp (thn (hc pins s1 σ1 H1 _ I1 (turn n σ1 H1 w1)) fun b s2 ⟨H2,I2,q2⟩=>?_)
 cases b with
 | true =>
  obtain ⟨N,hN,q2⟩:=q2;rw [if_pos rfl];refine wpAny_passesOwn hp (thn (hb pins s2 σ1 H2 _ I2 q2) fun f s3 q3=>?_)
  cases f with
  | next =>
   obtain ⟨σ3,H3,I3,n3⟩:=q3;obtain ⟨m',hm,w3⟩:=hN σ3 H3 n3;exact ⟨m',hm,σ3,H3,I3,w3⟩
  | cont =>
   obtain ⟨σ3,H3,I3,n3⟩:=q3;obtain ⟨m',hm,w3⟩:=hN σ3 H3 n3;exact ⟨m',hm,σ3,H3,I3,w3⟩
  | brk=>exact q3
  | ret v=>exact q3
 | false =>
  rw [if_neg qm];exact wpAny_execs_nil ⟨σ1,H2,I2,q2⟩
end
structure It where
 go:Nat->Hp->Prop
 yld:Nat->Hp->V->Hp->Prop
 stop:Nat->Hp->Prop
def FpOk (X:Cx) (pins:List (Addr×Obj)) (H:Hp) (b:Addr):Prop :=
 H b=none/\b≠X.env.locals/\b∉X.fs/\(b∈X.ex\/X.s₀.heap.objs.size≤b)/\(∀ x c,X.env.cells.lookup x=some c->c≠b)/\∀ p∈X.pn++pins,p.1≠b
theorem Inv.fpOk {X:Cx} {pins:List (Addr×Obj)} {σ:St} {H H':Hp} {s:Shared} {b:Addr} (I:Inv X pins σ H s) (hb:s.heap.objs.size≤b) (hn:H' b=none):FpOk X pins H' b:=by
 refine ⟨hn,zi (qq I.lt hb),I.nofs hb,.inr (qk I.sz hb),fun x c e z=>?_,fun p hp z=>?_⟩
 ·obtain ⟨v,q⟩:=I.cell x c e
  exact absurd (qq q.lt (by rw [z];exact hb)) (zm _)
 ·exact absurd (qq (Heap.lt_size (I.pin p hp).1) (by rw [z];exact hb)) (zm _)
structure Turn (P:Program) (w:World) (K:PySem.W.Frag) (tg:Expr) (J:It) (fp:List Addr) (it:Addr) (tn:Nat->Heap->Prop):Prop where
 mem:it∈fp
 obj:∀ i h,tn i h->∀ b∈fp,∃ o,h.get? b=some o/\∀ v,o.data≠.cell v
 keep:∀ i h h',tn i h->(∀ b∈fp,∀ o,h.get? b=some o->h'.get? b=some o)->tn i h'
 item:∀ (X:Cx),X.prog=P->X.w=w->X.K=K->X.calm=true->∀ (i:Nat) (pins:List (Addr×Obj)) (s:Shared) (σ:St) (H:Hp) (E:Value->Shared->Prop),Inv X pins σ H s->(∀ b∈fp,FpOk X pins H b)->tn i s.heap->J.go i H →
  wpAny (model P w) X.A (pyNext (.ref it)) (fun r s1=>∃ u,r=some u ∧
   wpAny (model P w) X.A (letOwnedTupleGo tg (.ref it) u) (fun _ s2=>∃ x H',Inv X pins σ H' s2/\RelV x u/\J.yld i H x H'/\tn (i+1) s2.heap/\∀ b∈fp,H' b=none) E s1) E s
 done:∀ (X:Cx),X.prog=P->X.w=w->X.K=K->X.calm=true->∀ (i:Nat) (pins:List (Addr×Obj)) (s:Shared) (σ:St) (H:Hp) (E:Value->Shared->Prop),Inv X pins σ H s->(∀ b∈fp,FpOk X pins H b)->tn i s.heap->J.stop i H →
  wpAny (model P w) X.A (pyNext (.ref it)) (fun r s1=>r=none/\Inv X pins σ H s1) E s
 self:∀ (A:Around) (i:Nat) (s:Shared) (Q:Value->Shared->Prop) (E:Value->Shared->Prop),tn i s.heap->Q (.ref it) s->wpAny (model P w) A (pyIter (.ref it)) Q E s
abbrev TI:=St->Hp->(It->Hp->Prop)->Prop
def PIE (X:Cx) (pins:List (Addr×Obj)) (σ:St) (tg:Expr) (R:It->Hp->Prop) (itv:Value) (s2:Shared):Prop :=
 ∃ (it:Addr) (fp:List Addr) (tn:Nat->Heap->Prop) (J:It) (H':Hp),itv=.ref it/\Inv X pins σ H' s2/\Turn X.prog X.w X.K tg J fp it tn/\tn 0 s2.heap/\(∀ b∈fp,FpOk X pins H' b)/\R J H'
def PI (X:Cx) (tg iter:Expr) (wi:TI):Prop :=
 ∀ (pins:List (Addr×Obj)) (s:Shared) (σ:St) (H:Hp) (R:It->Hp->Prop),Inv X pins σ H s->wi σ H R →
  wpAny (model X.prog X.w) X.A (eval iter X.env) (fun v s1=>wpAny (model X.prog X.w) X.A (pyIter v) (PIE X pins σ tg R) X.xe s1) X.xe s
theorem go_of {M:Model} {A:Around} {E:Value->Shared->Prop} {s:Shared} {tg:Expr} {it:Addr} {u:Value} {o:Obj} {n:String} {vs:Array Value} {Q:Unit->Shared->Prop} (ho:s.heap.get? it=some o) (hc:o.cls=.type n) (hd:o.data=.fields vs)
  (hn:["enumerate","zip","dict_itemiterator","dict_reverseitemiterator","odict_iterator","itertools.zip_longest","itertools.pairwise"].contains n=false) (hQ:Q () s):wpAny M A (letOwnedTupleGo tg (.ref it) u) Q E s:=by
 unfold letOwnedTupleGo
 cases tg <;> first
  | exact wpAny_pure hQ
  | (cases u <;> first
    | exact wpAny_pure hQ
    | (refine wpAny_bind (wpAny_load ho ?_)
       rw [hc,hd];show wpAny M A (if (["enumerate","zip","dict_itemiterator","dict_reverseitemiterator","odict_iterator","itertools.zip_longest","itertools.pairwise"].contains n&&vs[0]?==some (rawInt _))=true then _ else _) Q E s;rw [if_neg (by intro h;rw [hn,Bool.false_and] at h;cases h)]
       exact wpAny_pure hQ))
def Itl (K:PySem.W.Frag) (a:Addr):It :=
 ⟨fun i H=>∃ xs x,SqL K H a xs/\xs[i]?=some x,fun i H x H'=>H'=H/\∀ xs,SqL K H a xs->xs[i]?=some x,fun i H=>∃ xs,SqL K H a xs/\xs.length≤i⟩
def Itr (lo:Int) (n:Nat):It:=⟨fun i _=>i<n,fun i H x H'=>H'=H/\x=.int (lo+i),fun i _=>n≤i⟩
theorem xAmx {P:Program} {w:World} {K:PySem.W.Frag} {tg:Expr} (a it:Addr):Turn P w K tg (Itl K a) [it] it (fun i h=>h.IsListIter it a i) where
 mem:=by simp
 obj:=fun i h st b hb=>by
  have e:b=it:=by simpa using hb
  subst e;obtain ⟨o,e,c,d⟩:=st;exact ⟨o,e,fun v z=>by rw [d] at z;cases z⟩
 keep:=fun i h h' st k=>st.at fun o e=>k it (by simp) o e
 item:=by
  intro X hP hw hK hc i pins s σ H E I hf st hg;subst hP hw hK;obtain ⟨xs,x,hq,hx⟩:=hg;obtain ⟨its,rv,p,hz⟩:=I.list hq;obtain ⟨u,hu,ru⟩:=rv.get hx;obtain ⟨f0,f1,f2,f3,f4,f5⟩:=hf it (by simp);refine wpAny_pyNext_list_item st p.isList (x:=u) (by simpa using hu) fun h' st' sb=>?_;have I1:Inv X pins σ H { s with heap:=h' }:=I.turned (t':=s.toks) (fun b o hb e=>(sb.2 b hb).trans e) f0 f1 f3 f4 f5;obtain ⟨o,e,c,d⟩:=id st';exact ⟨u,rfl,go_of (s:={ s with heap:=h' }) e c d (by decide) ⟨x,H,I1,ru,⟨rfl,fun ys hy=>by rw [I.list_inj hy hq];exact hx⟩,st',fun b hb=>(hf b hb).1⟩⟩
 done:=by
  intro X hP hw hK hc i pins s σ H E I hf st hg;subst hP hw hK;obtain ⟨xs,hq,hx⟩:=hg;obtain ⟨its,rv,p,hz⟩:=I.list hq;obtain ⟨f0,f1,f2,f3,f4,f5⟩:=hf it (by simp);have hl:=rv.length;exact wpAny_pyNext_list_end (I.ok.hd hc) st p.isList (by simp;omega) fun h' eb=>⟨rfl,I.turned (t':=s.toks) (fun b o hb e=>eb b o hb e) f0 f1 f3 f4 f5⟩
 self:=fun _ _ _ _ _ st h=>wpAny_pyIter_listiter st h
theorem xAkd {P:Program} {w:World} {K:PySem.W.Frag} {tg:Expr} (it:Addr) (lo:Int) (n:Nat):Turn P w K tg (Itr lo n) [it] it (fun i h=>IsRangeIter h it (lo+(i:Nat) * 1) ((n:Int) - (i:Nat)) 1) where
 mem:=by simp
 obj:=fun i h st b hb=>by
  have e:b=it:=by simpa using hb
  subst e
  exact ⟨_,st,fun v z=>by
   have z':Data.fields _=Data.cell v:=z
   cases z'⟩
 keep:=fun i h h' st k=>k it (by simp) _ st
 item:=by
  intro X hP hw hK hc i pins s σ H E I hf st hg;subst hP hw hK;obtain ⟨f0,f1,f2,f3,f4,f5⟩:=hf it (by simp);have W:=Walks.range (prog:=X.prog) (w:=X.w) (I.ok.hd hc) it lo 1 n;refine W.item i s _ _ hg st fun v h' tk hv st' kk=>?_;obtain ⟨t,rfl⟩:=hv;have I1:Inv X pins σ H { s with heap:=h',toks:=tk }:=I.turned (fun b o hb e=>kk b o (by simpa using hb) e) f0 f1 f3 f4 f5;refine ⟨_,rfl,go_of (s:={ s with heap:=h',toks:=tk }) (n:="range_iterator") st' rfl rfl (by decide) ⟨.int (lo+i),H,I1,⟨t,?_⟩,⟨rfl,rfl⟩,st',fun b hb=>(hf b hb).1⟩⟩;rw [Int.mul_one]
 done:=by
  intro X hP hw hK hc i pins s σ H E I hf st hg;subst hP hw hK;obtain ⟨f0,f1,f2,f3,f4,f5⟩:=hf it (by simp);exact wpAny_pyNext_range_end (I.ok.hd hc) st (by have:n≤i:=hg;omega) fun h' eb=>⟨rfl,I.turned (t':=s.toks) (fun b o hb e=>eb b o hb e) f0 f1 f3 f4 f5⟩
 self:=fun _ _ _ _ _ st h=>wpAny_pyIter_rangeiter st h
section
variable {X:Cx} {tg:Expr}
def iList (K:PySem.W.Frag) (tl:TE):TI:=fun σ H R=>tl σ H fun x H1=>∃ a,x=.ref a/\(∃ xs,SqL K H1 a xs)/\R (Itl K a) H1
theorem xAbf {l:Expr} {tl:TE} (hl:PE X l tl):PI X tg l (iList X.K tl):=by
 intro pins s σ H R I h;refine thn (hl pins s σ H _ I h) fun v s1 ⟨x,H1,I1,r1,q1⟩=>?_;obtain ⟨a,e,⟨xs,hq⟩,q⟩:=q1;subst e;cases r1;obtain ⟨its,rv,p,hz⟩:=I1.list hq;refine wpAny_pyIter_list p.isList ?_;refine ⟨s1.heap.objs.size,[s1.heap.objs.size],_,_,H1,rfl,I1.kept (t':=s1.toks) fun b o e=>Heap.get?_push_of_some _ e,xAmx a _,⟨_,Heap.get?_push_size _ rfl,rfl,rfl⟩,fun b hb=>?_,q⟩
 have e:b=s1.heap.objs.size:=by simpa using hb
 subst e;exact I1.fpOk (qc _) (I1.hok.fresh (qc _))
theorem xApt {pins:List (Addr×Obj)} {σ:St} {H:Hp} {s:Shared} {R:It->Hp->Prop} {E:Value->Shared->Prop} {lo hi:Int} {t u v:Tok} {tk:Nat} (I:Inv X pins σ H s) (h1:-(2 ^ 62)≤lo) (h2:lo<2 ^ 62) (h3:-(2 ^ 62)≤hi) (h4:hi<2 ^ 62)
  (q:R (Itr lo (hi - lo).toNat) H):wpAny (model X.prog X.w) X.A (pyIter (.ref s.heap.objs.size)) (PIE X pins σ tg R) E { s with heap:=s.heap.push { cls:=.type "range",data:=.fields #[.int lo t,.int hi u,.int 1 v] },toks:=tk }:=by
 refine wpAny_pyIter_range (IsRange.new ..) (small_one h1 h2 h3 h4) ?_;have I1:Inv X pins σ H { s with heap:=s.heap.push { cls:=.type "range",data:=.fields #[.int lo t,.int hi u,.int 1 v] },toks:=tk }:=I.kept fun b o e=>Heap.get?_push_of_some _ e
 refine ⟨(s.heap.push { cls:=.type "range",data:=.fields #[.int lo t,.int hi u,.int 1 v] }).objs.size,[(s.heap.push { cls:=.type "range",data:=.fields #[.int lo t,.int hi u,.int 1 v] }).objs.size],_,_,H,rfl,
  I1.kept (t':=tk) fun b o e=>Heap.get?_push_of_some _ e,xAkd _ lo (hi - lo).toNat,?_,fun b hb=>?_,q⟩
 ·have e1:lo+((0:Nat):Int) * 1=lo:=by simp
  have e2:(((hi - lo).toNat:Nat):Int) - ((0:Nat):Int)=Builtin.Range.rangeSize lo hi 1:=by rw [rangeSize_one];split <;> omega
  show IsRangeIter _ _ (lo+((0:Nat):Int) * 1) ((((hi - lo).toNat:Nat):Int) - ((0:Nat):Int)) 1;rw [e1,e2];exact Heap.get?_push_size _ rfl
 ·have e:b=(s.heap.push { cls:=.type "range",data:=.fields #[.int lo t,.int hi u,.int 1 v] }).objs.size:=by simpa using hb
  subst e;exact I1.fpOk (qc _) (I1.hok.fresh (qc _))
def iRng2 (ta:TA):TI:=fun σ H R=>ta σ H fun vs H1=>∃ i j:Int,vs=[.int i,.int j]/\(-(2 ^ 62)≤i/\i<2 ^ 62/\-(2 ^ 62)≤j/\j<2 ^ 62)/\R (Itr i (j - i).toNat) H1
theorem xAmy {a b:Expr} {ta:TA} {p pos:Pos} (hg:Gl X "range") (hm:X.mg "range"=none) (ha:PA X [a,b] ta) (hs:starEach [a,b] X.env=[(false,eval a X.env),(false,eval b X.env)]:=by rfl) (hs2:starEach [b] X.env=[(false,eval b X.env)]:=by rfl) :
  PI X tg (.Call (.Name "range" p) [a,b] [] pos) (iRng2 ta):=by
 intro pins s σ H R I h;refine Call_ (xAja I hg hm boot_range (PyProof.Rows.callWith_type1 (thn (ha pos pins s σ H _ I h) fun us s1 ⟨vs,H1,I1,r1,q1⟩=>?_) (by rw [hs,hs2]) (by rw [hs2];rfl)));obtain ⟨i,j,e,⟨q1,q2,q3,q4⟩,q⟩:=q1;subst e
 cases r1 with
 | cons r rr =>
  cases rr with
  | cons r' rr =>
   cases rr;obtain ⟨t,rfl⟩:=r;obtain ⟨t',rfl⟩:=r';exact call_range_2 (xApt I1 q1 q2 q3 q4 q)
def tFor (wi:TI) (g:TG) (tb:TS):TS:=fun D σ H=>wi σ H fun J H1=>∃ W:Nat->Nat->St->Hp->Prop,(∃ m,W 0 m σ H1)/\∀ i m σ H,W i m σ H →
 (J.stop i H/\D.nx σ H)\/(J.go i H/\∃ N:St->Hp->Prop,(∀ σ' H',N σ' H'->∃ m',m'<m/\W (i+1) m' σ' H')/\∀ x H',J.yld i H x H'->g x σ H' fun σ2 H2=>tb { D with nx:=N,ct:=N,bk:=D.nx } σ2 H2)
def pinsAt (fp:List Addr) (h:Heap):List (Addr×Obj):=fp.filterMap fun b=>(h.get? b).map fun o=>(b,o)
theorem xAdl {fp:List Addr} {h:Heap} {b:Addr} {o:Obj} (hb:b∈fp) (e:h.get? b=some o):(b,o)∈pinsAt fp h:=v6.mpr ⟨b,hb,by rw [e];rfl⟩
theorem xAhj {fp:List Addr} {h:Heap} {p:Addr×Obj} (hp:p∈pinsAt fp h):p.1∈fp/\h.get? p.1=some p.2:=by
 obtain ⟨b,hb,e⟩:=v6.mp hp
 cases q:h.get? b with
 | none=>rw [q] at e;cases e
 | some o =>
  rw [q] at e;have e':(b,o)=p:=Option.some.inj e;subst e';exact ⟨hb,q⟩
theorem Inv.pinned {pins:List (Addr×Obj)} {σ:St} {H:Hp} {s:Shared} {fp:List Addr} (I:Inv X pins σ H s) (hf:∀ b∈fp,FpOk X pins H b) (ho:∀ b∈fp,∃ o,s.heap.get? b=some o/\∀ v,o.data≠.cell v):Inv X (pins++pinsAt fp s.heap) σ H s :=
 I.pins_of fun p hp=>(qw.mp hp).elim (fun z=>I.pin p (zj _ z)) fun z=>by
  obtain ⟨hb,e⟩:=xAhj z;obtain ⟨f0,f1,f2,_⟩:=hf p.1 hb;obtain ⟨o,e',d⟩:=ho p.1 hb;rw [e] at e';cases e';exact ⟨e,f0,f1,f2,d⟩
theorem Inv.unpinned {pins pl:List (Addr×Obj)} {σ:St} {H:Hp} {s:Shared} (I:Inv X (pins++pl) σ H s):Inv X pins σ H s:=I.pins_of fun p hp=>I.pin p (zj _ (z6 _ hp))
theorem xAcd {iter:Expr} {body:List Stmt} {wi:TI} {g:TG} {tb:TS} {pos:Pos} (hp:PassesOwn (model X.prog X.w) X.A X.env X.xe) (hc:X.calm=true) (hi:PI X tg iter wi) (hg:PG X tg g) (hb:PSs X body tb)
  (hs:∀ x,foldedSetIterable iter X.env x=pure x:=by intro _;rfl):PS X (.For tg iter body [] pos) (tFor wi g tb):=by
 intro pins s σ H D I h;refine wpAny_For (thn (hi pins s σ H _ I h) fun v s1 h1=>thn h1 fun itv s2 h2=>?_) hs;obtain ⟨it,fp,tn,J,H2,e,I2,T,st2,f2,W,⟨m0,w0⟩,turn⟩:=h2;subst e;have stat:∀ {H':Hp},(∀ b∈fp,H' b=none)->∀ b∈fp,FpOk X pins H' b:=fun hn b hb=>⟨hn b hb,(f2 b hb).2⟩;refine codeAny_forLoop_any (fun n s'=>∃ i σ' H',Inv X pins σ' H' s'/\tn i s'.heap/\(∀ b∈fp,H' b=none)/\W i n σ' H') ?_ m0 ⟨0,σ,H2,I2,st2,fun b hb=>(f2 b hb).1,w0⟩;rintro n s3 ⟨i,σ3,H3,I3,st3,fr3,w3⟩;rcases turn i n σ3 H3 w3 with ⟨stop,qn⟩ | ⟨go,N,hN,step⟩
 ·refine wpAny_passesOwn hp (thn (T.done X rfl rfl rfl hc i pins s3 σ3 H3 X.xe I3 (stat fr3) st3 stop) fun r s4 ⟨hr,I4⟩=>?_)
  subst hr;exact wpAny_execs_nil ⟨σ3,H3,I4,qn⟩
 ·refine wpAny_passesOwn hp (thn (T.item X rfl rfl rfl hc i pins s3 σ3 H3 X.xe I3 (stat fr3) st3 go) fun r s4 ⟨u,hr,h4⟩=>?_)
  subst hr;refine wpAny_passesOwn hp (thn h4 fun _ s5 ⟨x,H5,I5,r5,y5,st5,fr5⟩=>?_);have I5':=I5.pinned (stat fr5) (T.obj _ _ st5);refine wpAny_passesOwn hp (thn (hg _ s5 σ3 H5 x u _ I5' r5 (step x H5 y5)) fun _ s6 ⟨σ6,H6,I6,q6⟩=>?_);refine wpAny_passesOwn hp (thn (hb _ s6 σ6 H6 _ I6 q6) fun f s7 q7=>?_)
  have again:∀ {σ7:St} {H7:Hp},Inv X (pins++pinsAt fp s5.heap) σ7 H7 s7->N σ7 H7->∃ m,m<n/\∃ i σ' H',Inv X pins σ' H' s7/\tn i s7.heap/\(∀ b∈fp,H' b=none)/\W i m σ' H':=fun {σ7 H7} I7 n7=>by
   obtain ⟨m',hm,w7⟩:=hN σ7 H7 n7;refine ⟨m',hm,i+1,σ7,H7,I7.unpinned,T.keep _ _ _ st5 fun b hb o e=>(I7.pin (b,o) (zj _ (zj _ (xAdl hb e)))).1,fun b hb=>?_,w7⟩;obtain ⟨o,e,d⟩:=T.obj _ _ st5 b hb;exact (I7.pin (b,o) (zj _ (zj _ (xAdl hb e)))).2.1
  cases f with
  | next=>obtain ⟨σ7,H7,I7,n7⟩:=q7;exact again I7 n7
  | cont=>obtain ⟨σ7,H7,I7,n7⟩:=q7;exact again I7 n7
  | brk=>obtain ⟨σ7,H7,I7,q7⟩:=q7;exact ⟨σ7,H7,I7.unpinned,q7⟩
  | ret v=>obtain ⟨x7,σ7,H7,I7,r7,q7⟩:=q7;exact ⟨x7,σ7,H7,I7.unpinned,r7,q7⟩
end
theorem xAce {K:PySem.W.Frag} {a:Addr} {xs:List V} {g:TG} {tb:TS} {D:Ends} {σ:St} {H:Hp} (Pv:Nat->St->Hp->Prop) (h0:Pv 0 σ H) (hl:∀ i σ H,i≤xs.length->Pv i σ H->SqL K H a xs)
  (hs:∀ i x σ H,xs[i]?=some x->Pv i σ H->g x σ H fun σ2 H2=>tb { D with nx:=Pv (i+1),ct:=Pv (i+1),bk:=D.nx } σ2 H2) (hd:∀ σ H,Pv xs.length σ H->D.nx σ H) :
  ∃ W:Nat->Nat->St->Hp->Prop,(∃ m,W 0 m σ H)/\∀ i m σ H,W i m σ H →
   ((Itl K a).stop i H/\D.nx σ H)\/((Itl K a).go i H/\∃ N:St->Hp->Prop,(∀ σ' H',N σ' H'->∃ m',m'<m/\W (i+1) m' σ' H')/\∀ x H',(Itl K a).yld i H x H'->g x σ H' fun σ2 H2=>tb { D with nx:=N,ct:=N,bk:=D.nx } σ2 H2):=by
 refine ⟨fun i m σ H=>m=xs.length - i/\i≤xs.length/\Pv i σ H,⟨xs.length,by simp,Nat.zero_le _,h0⟩,?_⟩;rintro i m σ H ⟨rfl,hi,p⟩;have q:=hl i σ H hi p
 by_cases hlt:i<xs.length
 ·refine .inr ⟨⟨xs,xs[i],q,by simp [hlt]⟩,Pv (i+1),fun σ' H' p'=>⟨xs.length - (i+1),by omega,rfl,hlt,p'⟩,fun x H' y=>?_⟩
  obtain ⟨e,y⟩:=y;subst e;exact hs i x σ _ (y xs q) p
 ·have e:i=xs.length:=by omega
  subst e;exact .inl ⟨⟨xs,q,qc _⟩,hd σ H p⟩
theorem xAmz {lo:Int} {n:Nat} {g:TG} {tb:TS} {D:Ends} {σ:St} {H:Hp} (Pv:Nat->St->Hp->Prop) (h0:Pv 0 σ H)
  (hs:∀ i σ H,i<n->Pv i σ H->g (.int (lo+i)) σ H fun σ2 H2=>tb { D with nx:=Pv (i+1),ct:=Pv (i+1),bk:=D.nx } σ2 H2) (hd:∀ σ H,Pv n σ H->D.nx σ H) :
  ∃ W:Nat->Nat->St->Hp->Prop,(∃ m,W 0 m σ H)/\∀ i m σ H,W i m σ H →
   ((Itr lo n).stop i H/\D.nx σ H)\/((Itr lo n).go i H/\∃ N:St->Hp->Prop,(∀ σ' H',N σ' H'->∃ m',m'<m/\W (i+1) m' σ' H')/\∀ x H',(Itr lo n).yld i H x H'->g x σ H' fun σ2 H2=>tb { D with nx:=N,ct:=N,bk:=D.nx } σ2 H2):=by
 refine ⟨fun i m σ H=>m=n - i/\i≤n/\Pv i σ H,⟨n,by simp,Nat.zero_le _,h0⟩,?_⟩;rintro i m σ H ⟨rfl,hi,p⟩
 by_cases hlt:i<n
 ·refine .inr ⟨hlt,Pv (i+1),fun σ' H' p'=>⟨n - (i+1),by omega,rfl,hlt,p'⟩,fun x H' y=>?_⟩
  obtain ⟨e,y⟩:=y;subst e y;exact hs i σ _ hlt p
 ·have e:i=n:=by omega
  subst e;exact .inl ⟨qc _,hd σ H p⟩
abbrev R2:=V->V->Hp->VK->Prop
def OpR (X:Cx) (f:Value->Value->Sem Value) (r:R2):Prop :=
 ∀ (pins:List (Addr×Obj)) (s:Shared) (σ:St) (H:Hp) (x y:V) (v u:Value) (Q:VK),Inv X pins σ H s->RelV x v->RelV y u->r x y H Q →
  wpAny (model X.prog X.w) X.A (f v u) (EP X pins σ Q) X.xe s
def UnR (X:Cx) (f:Value->Sem Value) (r:V->Hp->VK->Prop):Prop :=
 ∀ (pins:List (Addr×Obj)) (s:Shared) (σ:St) (H:Hp) (x:V) (v:Value) (Q:VK),Inv X pins σ H s->RelV x v->r x H Q →
  wpAny (model X.prog X.w) X.A (f v) (EP X pins σ Q) X.xe s
def CallR (X:Cx) (f:Value) (r:List V->Hp->VK->Prop):Prop :=
 ∀ (pins:List (Addr×Obj)) (s:Shared) (σ:St) (H:Hp) (xs:List V) (us:List Value) (Q:VK),Inv X pins σ H s->Vals xs us->r xs H Q →
  wpAny (model X.prog X.w) X.A (call f us) (EP X pins σ Q) X.xe s
def tOp (r:R2) (ta tb:TE):TE:=fun σ H Q=>ta σ H fun x H1=>tb σ H1 fun y H2=>r x y H2 Q
def tUn (r:V->Hp->VK->Prop) (ta:TE):TE:=fun σ H Q=>ta σ H fun x H1=>r x H1 Q
def rI (C:Int->Int->Prop) (g:Int->Int->V):R2:=fun x y H Q=>∃ i j,x=.int i/\y=.int j/\C i j/\Q (g i j) H
def rI0 (g:Int->Int->V):R2:=fun x y H Q=>∃ i j,x=.int i/\y=.int j/\Q (g i j) H
def rU (g:Int->V):V->Hp->VK->Prop:=fun x H Q=>∃ i,x=.int i/\Q (g i) H
section
variable {X:Cx} {a b c:Expr} {ta tb tc:TE} {pos:Pos}
theorem binT (ha:PE X a ta) (hb:PE X b tb) {pins:List (Addr×Obj)} {s:Shared} {σ:St} {H:Hp} {R:V->V->Hp->Prop} (I:Inv X pins σ H s)
  (h:ta σ H fun x H1=>tb σ H1 fun y H2=>R x y H2) {Q:Value->Shared->Prop} {f:Value->Value->Sem Value}
  (hf:∀ v u s2 x y H2,Inv X pins σ H2 s2->RelV x v->RelV y u->R x y H2->wpAny (model X.prog X.w) X.A (f v u) Q X.xe s2) :
  wpAny (model X.prog X.w) X.A (eval a X.env) (fun v s₁=>wpAny (model X.prog X.w) X.A (eval b X.env) (fun u s₂=>wpAny (model X.prog X.w) X.A (f v u) Q X.xe s₂) X.xe s₁) X.xe s:=by
 refine thn (ha pins s σ H _ I h) fun v s1 ⟨x,H1,I1,r1,q1⟩=>?_;refine thn (hb pins s1 σ H1 _ I1 q1) fun u s2 ⟨y,H2,I2,r2,q2⟩=>?_;exact hf v u s2 x y H2 I2 r1 r2 q2
theorem pe_op {op:Operator} {r:R2} (ho:OpR X (binaryOp op) r) (ha:PE X a ta) (hb:PE X b tb):PE X (.BinOp a op b pos) (tOp r ta tb):=by
 intro pins s σ H Q I h;exact wpAny_BinOp (binT ha hb I h fun v u s2 x y H2 I2 rx ry q=>ho pins s2 σ H2 x y v u Q I2 rx ry q)
theorem pe_un {op:UnaryOp} {r:V->Hp->VK->Prop} (ho:UnR X (unaryOp op) r) (ha:PE X a ta):PE X (.UnaryOp op a pos) (tUn r ta):=by
 intro pins s σ H Q I h;exact UnaryOp_ (thn (ha pins s σ H _ I h) fun v s1 ⟨x,H1,I1,r1,q1⟩=>ho pins s1 σ H1 x v Q I1 r1 q1)
theorem opI {f:Value->Value->Sem Value} {C:Int->Int->Prop} {g:Int->Int->Int}
  (rule:∀ (i j:Int) (t u:Tok) (s:Shared) (Q:Value->Shared->Prop) (E:Value->Shared->Prop),C i j->Q (.int (g i j) s.toks) { s with toks:=s.toks+1 }->wpAny (model X.prog X.w) X.A (f (.int i t) (.int j u)) Q E s) :
  OpR X f (rI C fun i j=>.int (g i j)):=by
 intro pins s σ H x y v u Q I rx ry h;obtain ⟨i,j,rfl,rfl,hc,q⟩:=h;obtain ⟨t,rfl⟩:=rx;obtain ⟨t',rfl⟩:=ry;exact rule i j t t' s _ _ hc ⟨.int (g i j),H,I.tok _,⟨_,rfl⟩,q⟩
theorem opI0 {f:Value->Value->Sem Value} {g:Int->Int->Int}
  (rule:∀ (i j:Int) (t u:Tok) (s:Shared) (Q:Value->Shared->Prop) (E:Value->Shared->Prop),Q (.int (g i j) s.toks) { s with toks:=s.toks+1 }->wpAny (model X.prog X.w) X.A (f (.int i t) (.int j u)) Q E s) :
  OpR X f (rI0 fun i j=>.int (g i j)):=by
 intro pins s σ H x y v u Q I rx ry h;obtain ⟨i,j,rfl,rfl,q⟩:=h;obtain ⟨t,rfl⟩:=rx;obtain ⟨t',rfl⟩:=ry;exact rule i j t t' s _ _ ⟨.int (g i j),H,I.tok _,⟨_,rfl⟩,q⟩
theorem opB0 {f:Value->Value->Sem Value} {g:Int->Int->Bool}
  (rule:∀ (i j:Int) (t u:Tok) (s:Shared) (Q:Value->Shared->Prop) (E:Value->Shared->Prop),Q (.bool (g i j)) s->wpAny (model X.prog X.w) X.A (f (.int i t) (.int j u)) Q E s) :
  OpR X f (rI0 fun i j=>.bl (g i j)):=by
 intro pins s σ H x y v u Q I rx ry h;obtain ⟨i,j,rfl,rfl,q⟩:=h;obtain ⟨t,rfl⟩:=rx;obtain ⟨t',rfl⟩:=ry;exact rule i j t t' s _ _ ⟨.bl (g i j),H,I,rfl,q⟩
def CDiv (i j:Int):Prop:=0<j/\j<1073741824
def CPow (i j:Int):Prop:=0≤j/\j≤1000000/\i.natAbs<2 ^ 64
def CMul (i j:Int):Prop:=(-(2 ^ 64)<i/\i<2 ^ 64)\/(-(2 ^ 64)<j/\j<2 ^ 64)
theorem CMul.ok {i j:Int} (h:CMul i j):IntMulOk i j:=by
 rcases h with ⟨h1,h2⟩ | ⟨h1,h2⟩
 ·exact .of_left (intBits_le_64 h1 h2)
 ·exact .of_right (intBits_le_64 h1 h2)
theorem xAjd:OpR X (binaryOp .Add) (rI0 fun i j=>.int (i+j)):=opI0 fun _ _ _ _ _ _ _ q=>add_int q
theorem xArx:OpR X (binaryOp .Sub) (rI0 fun i j=>.int (i - j)):=opI0 fun _ _ _ _ _ _ _ q=>sub_int q
theorem xAje:OpR X (binaryOp .Mult) (rI CMul fun i j=>.int (i * j)):=opI fun _ _ _ _ _ _ _ hc q=>mul_int q hc.ok
theorem xAox:OpR X (binaryOp .FloorDiv) (rI CDiv fun i j=>.int (i / j)):=opI fun i j _ _ _ _ _ hc q=>by
 have h1:(0:Int)<j:=hc.1;have h2:j<1073741824:=hc.2;exact floordiv_int (by omega) (by rw [Int.fdiv_eq_ediv_of_nonneg i (by omega)];exact q) (.inl (PyProof.noPylong_small (by omega)))
theorem xAej:OpR X (binaryOp .Mod) (rI (fun _ j=>0<j) fun i j=>.int (i % j)):=opI fun i j _ _ _ _ _ hc q=>by
 have h1:(0:Int)<j:=hc;exact mod_int' (by omega) (by rw [Int.fmod_eq_emod_of_nonneg i (by omega)];exact q)
theorem op_pow:OpR X (binaryOp .Pow) (rI CPow fun i j=>.int (i ^ j.toNat)):=opI fun _ _ _ _ _ _ _ hc q=>pow_int_small hc.1 hc.2.1 hc.2.2 q
theorem unI {f:Value->Sem Value} {g:Int->Int}
  (rule:∀ (i:Int) (t:Tok) (s:Shared) (Q:Value->Shared->Prop) (E:Value->Shared->Prop),Q (.int (g i) s.toks) { s with toks:=s.toks+1 }->wpAny (model X.prog X.w) X.A (f (.int i t)) Q E s) :
  UnR X f (rU fun i=>.int (g i)):=by
 intro pins s σ H x v Q I rx h;obtain ⟨i,rfl,q⟩:=h;obtain ⟨t,rfl⟩:=rx;exact rule i t s _ _ ⟨.int (g i),H,I.tok _,⟨_,rfl⟩,q⟩
theorem xAgh:UnR X (unaryOp .USub) (rU fun i=>.int (-i)):=unI fun _ _ _ _ _ q=>neg_int q
end
def scal:V->V->Bool
 | .non,.non=>true | .non,.int _=>true | .int _,.non=>true | .non,.bl _=>true | .bl _,.non=>true | .non,.str _=>true | .str _,.non=>true
 | .int _,.int _=>true | .bl _,.bl _=>true | .str _,.str _=>true | .byt _,.byt _=>true
 | .int _,.str _=>true | .str _,.int _=>true | .bl _,.str _=>true | .str _,.bl _=>true
 | _,_=>false
def rEq:R2:=fun x y H Q=>scal x y=true/\Q (.bl (decide (x=y))) H
theorem xAry {i j:Int}:decide (V.int i=V.int j)=(i==j):=by
 rw [wx]
 simp
theorem dec_bl {i j:Bool}:decide (V.bl i=V.bl j)=(i==j):=by
 rw [wx]
 simp
theorem xArz {i j:Str}:decide (V.str i=V.str j)=(i==j):=by
 rw [wx]
 simp
theorem xAsa {i j:Array UInt8}:decide (V.byt i=V.byt j)=(i.toList==j.toList):=by
 rw [wx];cases i;cases j
 simp
section
variable {X:Cx} {a b c:Expr} {ta tb tc:TE} {pos:Pos}
theorem xAcn {pins:List (Addr×Obj)} {σ:St} {H:Hp} {s:Shared} {Q:VK} {k k':Bool} (I:Inv X pins σ H s) (q:Q (.bl k) H) (e:k=k'):EP X pins σ Q (.bool k') s:=by
 subst e;exact ⟨.bl k,H,I,rfl,q⟩
theorem op_eq:OpR X (compareOp .Eq) rEq:=by
 intro pins s σ H x y v u Q I rx ry h;obtain ⟨hs,q⟩:=h
 cases x with
 | non =>
  cases rx
  cases y with
  | non=>cases ry;exact PySem.EqNone.eq_none_none (xAcn I q (by simp))
  | bl j=>cases ry;exact PySem.EqNone.eq_none_bool (xAcn I q (by simp))
  | int j=>obtain ⟨t',rfl⟩:=ry;exact PySem.EqNone.eq_none_int (xAcn I q (by simp))
  | str j=>obtain ⟨t',rfl⟩:=ry;exact PySem.EqNone.eq_none_str (xAcn I q (by simp))
  | _=>exact absurd (show false=true from hs) qm
 | bl i =>
  cases rx
  cases y with
  | non=>cases ry;exact PySem.EqNone.eq_bool_none (xAcn I q (by simp))
  | bl j=>cases ry;exact eq_bool (xAcn I q dec_bl)
  | str j=>obtain ⟨t',rfl⟩:=ry;exact PySem.EqMixed.eq_bool_str (xAcn I q (by simp))
  | _=>exact absurd (show false=true from hs) qm
 | int i =>
  obtain ⟨t,rfl⟩:=rx
  cases y with
  | non=>cases ry;exact PySem.EqNone.eq_int_none (xAcn I q (by simp))
  | int j=>obtain ⟨t',rfl⟩:=ry;exact eq_int (xAcn I q xAry)
  | str j=>obtain ⟨t',rfl⟩:=ry;exact PySem.EqMixed.eq_int_str (xAcn I q (by simp))
  | _=>exact absurd (show false=true from hs) qm
 | str i =>
  obtain ⟨t,rfl⟩:=rx
  cases y with
  | non=>cases ry;exact PySem.EqNone.eq_str_none (xAcn I q (by simp))
  | bl j=>cases ry;exact PySem.EqMixed.eq_str_bool (xAcn I q (by simp))
  | int j=>obtain ⟨t',rfl⟩:=ry;exact PySem.EqMixed.eq_str_int (xAcn I q (by simp))
  | str j=>obtain ⟨t',rfl⟩:=ry;exact eq_str (xAcn I q xArz)
  | _=>exact absurd (show false=true from hs) qm
 | byt i =>
  obtain ⟨t,rfl⟩:=rx
  cases y with
  | byt j=>obtain ⟨t',rfl⟩:=ry;exact PySem.W.eq_bytes (xAcn I q xAsa)
  | _=>exact absurd (show false=true from hs) qm
 | _=>cases y <;> exact absurd (show false=true from hs) qm
theorem op_lt:OpR X (compareOp .Lt) (rI0 fun i j=>.bl (decide (i<j))):=opB0 fun _ _ _ _ _ _ _ q=>lt_int q
theorem op_le:OpR X (compareOp .LtE) (rI0 fun i j=>.bl (decide (i≤j))):=opB0 fun _ _ _ _ _ _ _ q=>le_int q
theorem op_gt:OpR X (compareOp .Gt) (rI0 fun i j=>.bl (decide (j<i))):=opB0 fun _ _ _ _ _ _ _ q=>gt_int q
theorem xAbb (b:Expr) {op:CmpOp} (h:op≠.In:=by decide) (h2:op≠.NotIn:=by decide):behindInMarks op b=false:=by
 have e1:(op==CmpOp.In)=false:=by cases op <;> first | rfl | exact absurd rfl h
 have e2:(op==CmpOp.NotIn)=false:=by cases op <;> first | rfl | exact absurd rfl h2
 cases b <;> simp [behindInMarks,e1,e2]
theorem xAhk {op:CmpOp} {r:R2} (ho:OpR X (compareOp op) r) (ha:PE X a ta) (hb:PE X b tb) (hm:behindInMarks op b=false):PE X (.Compare a [op] [b] pos) (tOp r ta tb):=by
 intro pins s σ H Q I h;exact wpAny_Compare1 (binT ha hb I h fun v u s2 x y H2 I2 rx ry q=>ho pins s2 σ H2 x y v u Q I2 rx ry q) hm
def tTest (t:TE):TT:=fun σ H Q=>t σ H fun x H'=>∃ k,x=.bl k/\Q k H'
theorem xAam {op:CmpOp} {r:R2} (ho:OpR X (compareOp op) r) (ha:PE X a ta) (hb:PE X b tb) (hm:behindInMarks op b=false):PT X (.Compare a [op] [b] pos) (tTest (tOp r ta tb)):=by
 intro pins s σ H Q I h
 refine wpAny_isTrue_Compare1 (thn (ha pins s σ H _ I h) fun v s1 ⟨x,H1,I1,r1,q1⟩=>thn (hb pins s1 σ H1 _ I1 q1) fun u s2 ⟨y,H2,I2,r2,q2⟩ =>
  thn (ho pins s2 σ H2 x y v u _ I2 r1 r2 q2) fun c s3 ⟨z,H3,I3,r3,k,e,q3⟩=>?_) hm
 subst e;cases r3;exact wpAny_truthy_bool ⟨H3,I3,q3⟩
theorem xAna:(sizeLine:Nat)<2 ^ 63:=by rw [sizeLine_eq];decide
theorem vals1 {x:V} {us:List Value} (r:Vals [x] us):∃ u,us=[u]/\RelV x u:=by
 cases r with
 | cons r1 r2=>cases r2;exact ⟨_,rfl,r1⟩
theorem vals2 {x y:V} {us:List Value} (r:Vals [x,y] us):∃ u w',us=[u,w']/\RelV x u/\RelV y w':=by
 cases r with
 | cons r1 r2 =>
  cases r2 with
  | cons r3 r4=>cases r4;exact ⟨_,_,rfl,r1,r3⟩
theorem xApu:CallR X (.builtin "abs") (fun xs H Q=>∃ i,xs=[.int i]/\Q (.int (if i<0 then -i else i)) H):=by
 intro pins s σ H xs us Q I r h;obtain ⟨i,rfl,q⟩:=h;obtain ⟨u,rfl,t,rfl⟩:=vals1 r;exact call_abs_int fun u tk=>⟨.int (if i<0 then -i else i),H,I.tok _,⟨_,rfl⟩,q⟩
theorem xAnb (hc:X.calm=true):CallR X (.builtin "min") (fun xs H Q=>∃ i j,xs=[.int i,.int j]/\Q (.int (if j<i then j else i)) H):=by
 intro pins s σ H xs us Q I r h;obtain ⟨i,j,rfl,q⟩:=h;obtain ⟨u,w',rfl,⟨t,rfl⟩,⟨t',rfl⟩⟩:=vals2 r;refine min_two_ints (I.ok.hd hc) fun h' tk k=>⟨_,H,I.kept k,?_,q⟩
 by_cases hj:j<i
 ·rw [if_pos hj,if_pos hj];exact ⟨_,rfl⟩
 ·rw [if_neg hj,if_neg hj];exact ⟨_,rfl⟩
end
structure ObjM (h:Heap) (x dx C:Addr) (mA:Str->Option Value):Prop where
 obj:h.get? x=some (PySem.W.instObj C dx)
 ns:h.Ns1 dx mA
 ne:dx≠x
theorem xAnc {h:Heap} {dx:Addr} {mA:Str->Option Value} (n:h.Ns1 dx mA):∃ od,h.get? dx=some od/\∀ name,PySem.W.lookIn name od=some (mA name):=by
 obtain ⟨o,es,ep,ho,hd,hk,_,hm⟩:=n;refine ⟨o,ho,fun name=>?_⟩;have e:=hm name;unfold nsFind findBy at e;rw [← Array.find?_toList] at e;unfold PySem.W.lookIn;rw [hd];dsimp only
 split
 ·rename_i y q
  rw [q] at e;exact congrArg some e
 ·rename_i q
  rw [q] at e
  have a:es.toList.any (·.refKey)=false:=by
   rw [List.any_eq_false];intro y hy;obtain ⟨z,t,hkey⟩:=hk y (yu.mp hy)
   simp [DictEntry.refKey,hkey]
  have a':¬ es.toList.any (·.refKey)=true:=by rw [a];exact qm
  rw [if_neg a'];exact congrArg some e
theorem ObjM.look {h:Heap} {x dx C:Addr} {mA:Str->Option Value} (I:ObjM h x dx C mA):∃ od,PySem.W.InstAt h x (PySem.W.instObj C dx) C (some od)/\∀ name,PySem.W.lookIn name od=some (mA name) :=
 let ⟨od,ho,hl⟩:=xAnc I.ns
 ⟨od,⟨I.obj,rfl,rfl,ho⟩,hl⟩
section
variable {prog:Program} {w:World} {A:Around} {E:Value->Shared->Prop} {s:Shared} {K:PySem.W.Frag} {x dx C f:Addr} {mA:Str->Option Value} {name:Str} {v:Value}
end
theorem RelO.some_of {v:V} {o:Option Value} (r:RelO (some v) o):∃ u,o=some u/\RelV v u:=by
 cases o with
 | none=>exact (show False from r).elim
 | some u=>exact ⟨u,rfl,r⟩
section
variable {P:Program} {w:World} {H H':Hp} {h h':Heap} {a C dx:Addr} {fs fs':List (Str×V)}
theorem xAsb (hok:HOk P w H h) (e:H a=some (.ins C dx fs)):∃ mA,ObjM h a dx C mA/\(∀ f,RelO (fs.lookup f) (mA f))/\PySem.Within mA (fs.map (·.1))/\fs.length≤1000/\H dx=some (.own a):=by
 obtain ⟨d,z,ne,ob,mA,n,r,q⟩:=(show ObjOk P w H h a (.ins C dx fs) from hok a _ e);exact ⟨mA,⟨ob,n,ne⟩,r,q,z,d⟩
end
structure Cls (K:PySem.W.Frag) (C:Addr):Prop where
 pg:PySem.W.plainGet K C Str.empty=true
 hd:PySem.W.hasDictIn K C=true
 po:PySem.W.plainOver K C=true
 sa:PySem.W.findIn K (.ref C) "__setattr__"=some (some (.builtin "object.__setattr__"))
theorem Cls.get {K:PySem.W.Frag} {C:Addr} (c:Cls K C) (f:Str):PySem.W.plainGet K C f=true:=c.pg
section
variable {X:Cx} {pins:List (Addr×Obj)} {σ:St} {H:Hp} {s:Shared} {a C dx:Addr} {fs:List (Str×V)} {f:Str} {v:V} {A:Around} {E:Value->Shared->Prop}
end
section
variable {X:Cx} {o e value:Expr} {f:Str} {pos pos' tpos:Pos} {ta tv:TE}
end
section
variable {X:Cx} {pins:List (Addr×Obj)} {σ:St} {H:Hp} {s:Shared} {A:Around} {E:Value->Shared->Prop} {Q:Value->Shared->Prop} {c:Value} {b:Bool}
inductive TyOf (K:PySem.W.Frag) (H:Hp):V->Value->Prop where
 | non:TyOf K H .non (.type "NoneType")
 | bl (x:Bool):TyOf K H (.bl x) (.type "bool")
 | int (i:Int):TyOf K H (.int i) (.type "int")
 | str (x:Str):TyOf K H (.str x) (.type "str")
 | flt (x:UInt64):TyOf K H (.flt x) (.type "float")
 | lst {a:Addr} {xs:List V} (e:H a=some (.lst xs)):TyOf K H (.ref a) (.type "list")
 | frz {a:Addr} {o:Obj} {xs:List V} (e:H a=some (.frz o (.lst xs))):TyOf K H (.ref a) (.type "list")
 | tup {a:Addr} {xs:List V} (e:H a=some (.tup xs)):TyOf K H (.ref a) (.type "tuple")
 | dK {a:Addr} {kvs:List (Key×V)} (e:H a=some (.dK kvs)):TyOf K H (.ref a) (.type "dict")
 | dT {a:Addr} {kvs:List (List Key×V)} (e:H a=some (.dT kvs)):TyOf K H (.ref a) (.type "dict")
 | dG {a:Addr} {kvs:List (KD×V×V)} (e:H a=some (.dG kvs)):TyOf K H (.ref a) (.type "dict")
 | ins {a C dx:Addr} {fs:List (Str×V)} (e:H a=some (.ins C dx fs)) (cl:Cls K C) (ha:PySem.W.findIn K (.ref C) "__class__"=some (some (.builtin "object.__class__")))
   (hn:PySem.W.specialIn K (.builtin "object.__class__") "__get__"=some (some (.builtin "getset_descriptor.__get__"))) (htk:PySem.W.takesIn K (.builtin "object.__class__")=some true)
   (hm:PySem.W.mroIn K C (.type "object")=some true):TyOf K H (.ref a) (.ref C)
theorem xAnd {x:V} {u t:Value} (I:Inv X pins σ H s) (rx:RelV x u) (ty:TyOf X.K H x t) (e:PySem.W.kitOne X.K t c=some b) (h:∀ tk,Q (.bool b) { s with toks:=tk }) :
  wpAny (model X.prog X.w) A (call (.builtin "isinstance") [u,c]) Q E s:=by
 cases ty with
 | non=>cases (show u=Value.none from rx);exact PySem.W.kia_one PySem.W.kitx_none I.kIn True.intro e (fun z=>nomatch z) h
 | bl y=>cases (show u=Value.bool y from rx);exact PySem.W.kia_one PySem.W.kitx_bool I.kIn True.intro e (fun z=>nomatch z) h
 | int i=>obtain ⟨t,q⟩:=(show ∃ t,u=Value.int i t from rx);cases q;exact PySem.W.kia_one PySem.W.kitx_int I.kIn True.intro e (fun z=>nomatch z) h
 | str y=>obtain ⟨t,q⟩:=(show ∃ t,u=Value.str y t from rx);cases q;exact PySem.W.kia_one PySem.W.kitx_str I.kIn True.intro e (fun z=>nomatch z) h
 | flt y=>obtain ⟨t,q⟩:=(show ∃ t,u=Value.float y t from rx);cases q;exact PySem.W.kia_one PySem.W.kitx_float I.kIn True.intro e (fun z=>nomatch z) h
 | @lst a xs ea =>
  cases (show u=Value.ref a from rx);obtain ⟨_,_,n,_,h1⟩:=(show ObjOk X.prog X.w H s.heap a (.lst xs) from I.hok a _ ea);exact PySem.W.kia_one PySem.W.kitx_list I.kIn ⟨_,h1,rfl⟩ e (fun z=>nomatch z) h
 | @frz a ob xs ea =>
  cases (show u=Value.ref a from rx);obtain ⟨_,_,_,n,_,h1⟩:=(show ObjOk X.prog X.w H s.heap a (.frz ob (.lst xs)) from I.hok a _ ea);exact PySem.W.kia_one PySem.W.kitx_list I.kIn ⟨_,h1,rfl⟩ e (fun z=>nomatch z) h
 | @tup a xs ea =>
  cases (show u=Value.ref a from rx);obtain ⟨_,_,_,p⟩:=(show ObjOk X.prog X.w H s.heap a (.tup xs) from I.hok a _ ea);obtain ⟨o,h1,h2,_⟩:=p;exact PySem.W.kia_one PySem.W.kitx_tuple I.kIn ⟨o,h1,h2⟩ e (fun z=>nomatch z) h
 | @dK a kvs ea =>
  cases (show u=Value.ref a from rx);obtain ⟨_,_,vs,_,p⟩:=(show ObjOk X.prog X.w H s.heap a (.dK kvs) from I.hok a _ ea);obtain ⟨o,es,ep,h1,h2,_⟩:=p;exact PySem.W.kia_one PySem.W.kitx_dict I.kIn ⟨o,h1,h2.1⟩ e (fun z=>nomatch z) h
 | @dT a kvs ea =>
  cases (show u=Value.ref a from rx);obtain ⟨_,_,xs,_,o,es,ep,h1,h2,_⟩:=(show ObjOk X.prog X.w H s.heap a (.dT kvs) from I.hok a _ ea);exact PySem.W.kia_one PySem.W.kitx_dict I.kIn ⟨o,h1,h2.1⟩ e (fun z=>nomatch z) h
 | @dG a kvs ea =>
  cases (show u=Value.ref a from rx);obtain ⟨_,_,xs,_,o,es,ep,h1,h2,_⟩:=(show ObjOk X.prog X.w H s.heap a (.dG kvs) from I.hok a _ ea);exact PySem.W.kia_one PySem.W.kitx_dict I.kIn ⟨o,h1,h2.1⟩ e (fun z=>nomatch z) h
 | @ins a C dx fs ea cl ha hn htk hm =>
  cases (show u=Value.ref a from rx);obtain ⟨mA,O,_⟩:=xAsb I.hok ea;obtain ⟨od,J,_⟩:=O.look;exact PySem.W.kia_one (PySem.W.kitx_own (cl.get _) cl.hd ha hn htk hm) I.kIn J e (fun z=>nomatch z) h
end
structure Room (k:Nat) (A:Around):Prop where
 hd:A.handled=none
 dp:A.depth+3 * k+5<recursionLimit
 un:A.units+16 * k+200<cLine
theorem Room.mono {j k:Nat} {A:Around} (r:Room k A) (h:j≤k):Room j A:=⟨r.hd,by have:=r.dp;omega,by have:=r.un;omega⟩
theorem Room.deeper {k:Nat} {A:Around} (r:Room (k+1) A) (env:Env):Room k (A.deeper env) :=
 ⟨r.hd,by have:=r.dp;show A.depth+1+3 * k+5<_;omega,by have:=r.un;show A.units+3+16 * k+200<_;omega⟩
theorem Room.in1 {k:Nat} {A:Around} (r:Room (k+1) A):Room k A.in1 :=
 ⟨r.hd,by have:=r.dp;show A.depth+3 * k+5<_;omega,by have:=r.un;show A.units+1+16 * k+200<_;omega⟩
theorem Room.depth {k:Nat} {A:Around} (r:Room k A):A.depth<recursionLimit:=by have:=r.dp;omega
theorem Room.units {k:Nat} {A:Around} (r:Room k A):A.units+64<cLine:=by have:=r.un;omega
theorem Room.units0 {k:Nat} {A:Around} (r:Room k A):A.units<cLine:=by have:=r.un;omega
def tNil:TA:=fun _ H Q=>Q [] H
def tCons (ta:TE) (tr:TA):TA:=fun σ H Q=>ta σ H fun x H1=>tr σ H1 fun xs H2=>Q (x::xs) H2
section
variable {X:Cx} {e:Expr} {es:List Expr} {te:TE} {t:TA} {pos:Pos}
theorem xAaf:PA X [] tNil:=fun _ _ _ _ H Q I h=>Calls.spliced_nil ⟨[],H,I,.nil,h⟩
theorem xAaa (ha:PE X e te) (hr:PA X es t) (hs:starEach (e::es) X.env=(false,eval e X.env)::starEach es X.env:=by rfl):PA X (e::es) (tCons te t):=by
 intro pos pins s σ H Q I h;rw [hs];show wpAny _ _ (spliced ((false,eval e X.env)::backTo pos (starEach es X.env))) _ _ s;refine Calls.spliced_cons (thn (ha pins s σ H _ I h) fun u s1 ⟨x,H1,I1,r1,q1⟩=>?_);exact thn (hr pos pins s1 σ H1 _ I1 q1) fun us s2 ⟨xs,H2,I2,r2,q2⟩=>⟨x::xs,H2,I2,.cons r1 r2,q2⟩
end
abbrev Sp:=List V->Hp->VK->XK->Prop
abbrev CXT:=List Env->Hp->Shared->XK->Value->Shared->Prop
structure Env0 (P:Program) (w:World) (K:PySem.W.Frag) (mg:Str->Option Value) (base:Heap) (A:Around) (outer:List Env) (s:Shared) (H:Hp):Prop where
 frames:A.frames=some outer
 mod:Mod K mg base
 bs:∀ b o,base.get? b=some o->s.heap.get? b=some o/\(H b=none\/∃ xs,H b=some (.tup xs))
 bsz:base.objs.size≤s.heap.objs.size
 funs:s.heap.FunFrames base outer
 frf:∀ b∈frs outer,H b=none
 hok:HOk P w H s.heap
 bare:AllBare s.gens
def CE (outer:List Env) (P:Program) (w:World) (H:Hp) (s:Shared) (Q:VK) (u:Value) (s':Shared):Prop :=
 ∃ v H',s'.os=s.os/\AllBare s'.gens/\Un (frs outer) [] H H' s.heap s'.heap/\HOk P w H' s'.heap/\RelV v u/\Q v H'
def CR (CX:CXT) (outer:List Env) (P:Program) (w:World) (H:Hp) (s:Shared) (Q:VK) (E:XK) (r:Result) (s':Shared):Prop :=
 match r with
 | .ok (.ret u)=>CE outer P w H s Q u s'
 | .ok _=>False
 | .error e=>CX outer H s E e s'
structure FnOk (P:Program) (w:World) (K:PySem.W.Frag) (mg:Str->Option Value) (base:Heap) (CX:CXT) (k:Nat) (f:Addr) (fd:FuncData) (ps:List Str) (sp:Sp):Prop where
 len:∀ vs H Q E,sp vs H Q E->vs.length=ps.length
 run:∀ (A:Around) (outer:List Env) (s:Shared) (H:Hp) (args:Args) (us:List Value) (vs:List V) (Q:VK) (E:XK),Room k A->Env0 P w K mg base A outer s H->BindsTo s fd args (ps.zip us)->Vals vs us->sp vs H Q E →
  codeAny (model P w) A (.call (.ref f) args) (CR CX outer P w H s Q E) s
section
variable {X:Cx} {pins:List (Addr×Obj)} {σ:St} {H:Hp} {s s':Shared}
theorem Inv.env0 (I:Inv X pins σ H s):Env0 X.prog X.w X.K X.mg X.base X.A X.stack s H :=
 ⟨I.ok.frames,I.ok.mod,I.bs,qk I.ok.bsz I.sz,I.stack,I.stkFree,I.hok,I.bare⟩
theorem Inv.after {Q:VK} {u:Value} (I:Inv X pins σ H s) (h:CE X.stack X.prog X.w H s Q u s'):EP X pins σ Q u s':=by
 obtain ⟨v,H',os,bare,un,hok,r,q⟩:=h;obtain ⟨hh,g,d,t,os'⟩:=s';obtain rfl:os'=s.os:=os;exact ⟨v,H',I.call (h':=hh) (g':=g) (d':=d) (t':=t) (ch:=[]) un hok bare (fun b z=>absurd z (by simp)),r,q⟩
end
def tCall (sp:Sp) (dvs:List V) (E:XK) (t:TA):TE:=fun σ H Q=>t σ H fun vs H1=>sp (vs++dvs) H1 Q E
def Binds (K:PySem.W.Frag) (fd:FuncData) (ps:List Str) (ds:List Value):Prop :=
 ∀ (s:Shared) (us:List Value),K.In s.heap->(us++ds).length=ps.length->BindsTo s fd ⟨us,[]⟩ (ps.zip (us++ds))
theorem Binds.all {K:PySem.W.Frag} {fd:FuncData} {ps:List Str} (h:∀ us:List Value,us.length=ps.length->bindArgs fd ⟨us,[]⟩=pure (ps.zip us)):Binds K fd ps []:=fun s us _ hl=>by
 rw [we] at hl ⊢;exact .of_eq (h us hl)
def Passes (CX:CXT) (X:Cx) (E:XK):Prop:=∀ (pins:List (Addr×Obj)) (σ:St) (H:Hp) (s:Shared) (e:Value) (s':Shared),Inv X pins σ H s->CX X.stack H s E e s'->X.xe e s'
section
variable {X:Cx} {CX:CXT} {k:Nat} {f C:Addr} {fd:FuncData} {ps:List Str} {sp:Sp} {dvs:List V} {ds:List Value} {E:XK} {x m:Str} {p pos apos:Pos} {e o:Expr} {es:List Expr} {ta:TE} {t:TA}
theorem xAsc {pins:List (Addr×Obj)} {σ:St} {H:Hp} {s:Shared} {Q:VK} {us:List Value} {vs:List V} (F:FnOk X.prog X.w X.K X.mg X.base CX k f fd ps sp) (hr:Room k X.A) (hb:Binds X.K fd ps ds) (hd:Vals dvs ds) (hx:Passes CX X E)
  (I:Inv X pins σ H s) (r:Vals vs us) (h:sp (vs++dvs) H Q E):wpAny (model X.prog X.w) X.A (call (.ref f) us) (EP X pins σ Q) X.xe s:=by
 have r2:Vals (vs++dvs) (us++ds):=r.append hd
 have hl:(us++ds).length=ps.length:=by rw [← r2.length];exact F.len _ _ _ _ h
 refine wpAny_call (codeAny_mono (F.run X.A X.stack s H ⟨us,[]⟩ (us++ds) (vs++dvs) Q E hr I.env0 (hb s us I.kIn hl) r2 h) fun r s' hq=>?_)
 cases r with
 | error e=>exact hx pins σ H s e s' I hq
 | ok fl =>
  cases fl with
  | ret u=>exact I.after hq
  | next=>exact False.elim hq
  | brk=>exact False.elim hq
  | cont=>exact False.elim hq
theorem xAai (F:FnOk X.prog X.w X.K X.mg X.base CX k f fd ps sp) (hr:Room k X.A) (hg:Gl X x) (hm:X.mg x=some (.ref f)) (hk:PySem.W.keepIn X.K (.ref f)=true) (hb:Binds X.K fd ps ds) (hd:Vals dvs ds) (hx:Passes CX X E)
  (ha:PA X (e::es) t) (hdb:(x==("__debug__":Str))=false:=by decide) (he:starEach (e::es) X.env=(false,eval e X.env)::starEach es X.env:=by rfl) (hpl:(backTo pos (starEach es X.env)).any (·.1)=false:=by rfl) :
  PE X (.Call (.Name x p) (e::es) [] pos) (tCall sp dvs E t):=by
 intro pins s σ H Q I h;refine wpAny_Call_Name_kw (xAka I hg hm ?_ hdb);refine PySem.W.callWith_K (h₀:=X.base) I.ok.mod.kin hk (thn (ha pos pins s σ H _ I h) fun us s1 ⟨vs,H1,I1,r,q⟩=>⟨I1.kIn,?_⟩) he hpl;exact xAsc F hr hb hd hx I1 r q
theorem xAke (F:FnOk X.prog X.w X.K X.mg X.base CX k f fd ps sp) (hr:Room k X.A) (hg:Gl X x) (hm:X.mg x=some (.ref f)) (hk:PySem.W.keepIn X.K (.ref f)=true) (hb:Binds X.K fd ps ds) (hd:Vals dvs ds) (hx:Passes CX X E)
  (hdb:(x==("__debug__":Str))=false:=by decide):PE X (.Call (.Name x p) [] [] pos) (tCall sp dvs E tNil):=by
 intro pins s σ H Q I h;refine wpAny_Call_Name_kw (xAka I hg hm ?_ hdb);exact PySem.W.callWith_K0 I.kIn hk (xAsc (us:=[]) F hr hb hd hx I .nil h)
end
section
variable {X:Cx} {CX:CXT} {k:Nat} {f C:Addr} {fd:FuncData} {ps ks:List Str} {sp:Sp} {E:XK} {x m:Str} {p pos apos kpos:Pos} {e o:Expr} {es:List Expr} {kws:List Keyword} {te ta:TE} {t tk:TA} {nm:Option Str}
variable {g:List Value->List Value->List Value} {gV:List V->List V->List V}
end
structure FnScope (N P:List Str) (sc:Scope):Prop where
 kind:sc.kind=.function
 co:sc.isCoroutine=false
 gen:sc.isGenerator=false
 nd:N.Nodup
 pre:N.take P.length=P
 par:∀ x∈P,sc.names.lookup x=some .local\/sc.names.lookup x=some .cell
 nofree:∀ y∈sc.names,y.2≠.free
theorem xAhl {kindOf:Str->Option NameKind} {x:Str}:∀ {binds:List (Str×Value)} {m:Str->Option Value},(∀ v,(x,v)∉binds)->bindL kindOf binds m x=m x
 | [],_,_=>rfl
 | (n,v)::r,m,h=>by
  unfold bindL;rw [xAhl fun w hw=>h w (qr _ hw)]
  split
  ·have:x≠n:=by rintro rfl;exact h v qh
   simp [this]
  ·rfl
theorem xAhm {kindOf:Str->Option NameKind} {x:Str}:∀ {binds:List (Str×Value)} {m:Str->Option Value},(∀ v,(x,v)∉binds)->bindC kindOf binds m x=m x
 | [],_,_=>rfl
 | (n,v)::r,m,h=>by
  unfold bindC;rw [xAhm fun w hw=>h w (qr _ hw)]
  split
  ·rfl
  ·have:x≠n:=by rintro rfl;exact h v qh
   simp [this]
theorem xAhn {kindOf:Str->Option NameKind} {x:Str} {v:Value}:∀ {P:List Str} {vs:List Value} {i:Nat} {m:Str->Option Value},P.Nodup->P[i]?=some x->vs[i]?=some v->kindOf x=some .local →
  bindL kindOf (P.zip vs) m x=some v
 | [],_,_,_,_,h,_,_=>by simp at h
 | _::_,[],_,_,_,_,h,_=>by simp at h
 | p::P,w::vs,0,m,nd,h1,h2,hk=>by
  simp at h1 h2;subst h1;subst h2
  show bindL kindOf ((p,w)::P.zip vs) m p=_;unfold bindL;rw [xAhl fun v hv=>(ze.mp nd).1 (yv hv).1,if_pos hk]
  simp
 | p::P,w::vs,i+1,m,nd,h1,h2,hk=>by
  show bindL kindOf ((p,w)::P.zip vs) m x=_;unfold bindL;exact xAhn (i:=i) (List.nodup_cons.mp nd).2 (by simpa using h1) (by simpa using h2) hk
theorem xAho {kindOf:Str->Option NameKind} {x:Str} {v:Value}:∀ {P:List Str} {vs:List Value} {i:Nat} {m:Str->Option Value},P.Nodup->P[i]?=some x->vs[i]?=some v->kindOf x≠some .local →
  bindC kindOf (P.zip vs) m x=some v
 | [],_,_,_,_,h,_,_=>by simp at h
 | _::_,[],_,_,_,_,h,_=>by simp at h
 | p::P,w::vs,0,m,nd,h1,h2,hk=>by
  simp at h1 h2;subst h1;subst h2
  show bindC kindOf ((p,w)::P.zip vs) m p=_;unfold bindC;rw [xAhm fun v hv=>(ze.mp nd).1 (yv hv).1,if_neg hk]
  simp
 | p::P,w::vs,i+1,m,nd,h1,h2,hk=>by
  show bindC kindOf ((p,w)::P.zip vs) m x=_;unfold bindC;exact xAho (i:=i) (List.nodup_cons.mp nd).2 (by simpa using h1) (by simpa using h2) hk
def start (N:List Str) (vs:List V):St:=vs.map some++List.replicate (N.length - vs.length) none
def cxOf (CX:CXT) (P:Program) (w:World) (K:PySem.W.Frag) (mg:Str->Option Value) (base:Heap) (N:List Str) (qual:Str) (scope:Scope) (f:Addr) (cd:Value) (A:Around) (outer:List Env) (s:Shared) (H:Hp) (E:XK):Cx where
 prog:=P
 w:=w
 K:=K
 mg:=mg
 base:=base
 A:=A.deeper (envOfC qual scope s.heap.objs.size f cd)
 N:=N
 s₀:=s
 H₀:=H
 env:=envOfC qual scope s.heap.objs.size f cd
 outer:=outer
 stack:=envOfC qual scope s.heap.objs.size f cd::outer
 ex:=[]
 calm:=true
 fn:=fun _=>true
 pn:=[]
 xe:=fun e s'=>wpAny (model P w) (A.deeper (envOfC qual scope s.heap.objs.size f cd)) (leaving (envOfC qual scope s.heap.objs.size f cd) e) (fun _ s''=>CX outer H s E e s'') (fun e' s''=>CX outer H s E e' s'') s'
theorem xAbw {sc:Scope} {n:Nat} {x:Str} (h:sc.names.lookup x=some .cell):∃ c,(cellsFrom n sc.names []).lookup x=some c:=by
 have q:=PySem.W.cellsFrom_some sc.names n [] (.inl h);exact jf.mp q
theorem xAne {CX:CXT} {P:Program} {w:World} {K:PySem.W.Frag} {mg:Str->Option Value} {base:Heap} {N ps:List Str} {qual:Str} {scope:Scope} {f:Addr} {cd:Value} {A:Around} {outer:List Env} {s s1:Shared} {H:Hp} {E:XK} {us:List Value} {vs:List V}
  (S:FnScope N ps scope) (hd:A.handled=none) (e0:Env0 P w K mg base A outer s H) (hl:vs.length=ps.length) (r:Vals vs us)
  (x:InCallC s s.heap.objs.size (bindL (envOfC qual scope s.heap.objs.size f cd).kindOf (ps.zip us) fun _=>none) (cellsFrom (s.heap.objs.size+1) scope.names []) (bindC (envOfC qual scope s.heap.objs.size f cd).kindOf (ps.zip us) fun _=>none) s1) :
  Inv (cxOf CX P w K mg base N qual scope f cd A outer s H E) [] (start N vs) H s1:=by
 have hpl:ps.length≤N.length:=by have:=congrArg List.length S.pre;rw [zo] at this;omega
 obtain ⟨h1,tk,rfl,hk⟩:=x.done
 have noA:∀ b:Addr,b∉(cxOf CX P w K mg base N qual scope f cd A outer s H E).ex:=fun b z=>absurd (show b∈([]:List Addr) from z) (by simp)
 refine ⟨⟨e0.mod,S.kind,rfl,rfl,qc _,fun y z c h1 h2=>?_,fun y hy=>?_,fun y c _ h=>?_,fun _=>hd,Around.frames_deeper e0.frames,.inr ⟨rfl,rfl⟩,fun b z=>absurd z (noA b),e0.bs,e0.bsz,fun b _ _=>noA b,fun b z=>absurd z (noA b),e0.funs,e0.frf⟩,
  rfl,e0.bare,Un.kept hk,⟨_,x.toInCall.ns,fun i y v h1 h2 h3=>?_⟩,fun y c h=>⟨_,x.cell y c h⟩,e0.hok.fresh (Nat.le_refl _),fun y c h=>?_,fun p hp=>absurd (show p∈([]:List (Addr×Obj)) from hp) (by simp),e0.hok.kept hk,?_⟩
 ·exact name_of_addr x.apart (PySem.mem_of_lookup h1) (PySem.mem_of_lookup h2)
 ·have hy:scope.names.lookup y=some .cell\/scope.names.lookup y=some .free:=hy
  rcases hy with hy | hy
  ·exact xAbw hy
  ·exact absurd rfl (S.nofree _ (PySem.mem_of_lookup hy))
 ·exact zv (x.above y c (PySem.mem_of_lookup h))
 ·have hi:i<vs.length:=by
   unfold start at h2
   by_cases hi:i<vs.length
   ·exact hi
   ·rw [List.getElem?_append_right (by simpa using hi)] at h2
    rw [List.getElem?_replicate] at h2
    split at h2 <;> cases h2
  have ha:vs[i]?=some v:=by
   unfold start at h2;rw [List.getElem?_append_left (by simpa using hi),List.getElem?_map] at h2
   cases e:vs[i]? with
   | none=>rw [e] at h2;cases h2
   | some a=>rw [e] at h2;cases h2;rfl
  obtain ⟨u,hu,rv⟩:=r.get ha
  have hp:ps[i]?=some y:=by
   rw [← S.pre,List.getElem?_take_of_lt (by omega)];exact h1
  have ndP:ps.Nodup:=by rw [← S.pre];exact S.nd.sublist (vg _ _)
  refine ⟨u,rv,?_⟩;rcases S.par y (qo hp) with k | k
  ·exact .inl ⟨k,xAhn ndP hp hu k⟩
  ·obtain ⟨c,e⟩:=xAbw (n:=s.heap.objs.size+1) k
   refine .inr ⟨.inl k,c,e,?_⟩;have q:=x.cell y c e;rw [xAho ndP hp hu (by show scope.names.lookup y≠_;rw [k];decide)] at q;exact q
 ·exact e0.hok.fresh (zv (x.above y c (PySem.mem_of_lookup h)))
 ·unfold start
  show _=N.length;rw [qg,qf,List.length_replicate];omega
theorem fn_of {CX:CXT} {P:Program} {w:World} {K:PySem.W.Frag} {mg:Str->Option Value} {base:Heap} {k:Nat} {f:Addr} {name qual:Str} {params:Arguments} {body:List Stmt} {scope:Scope} {dV kV doc pm cdv ct oc:Value} {an od:Option Addr}
  {osl:Array (Option Value)} {N ps:List Str} {sp:Sp} (lk:K.lookup f=some ⟨oc,od,.func (PySem.W.fnOf name qual params body scope dV kV doc pm an cdv ct),osl⟩) (hcd:PySem.W.codeIn K cdv qual=true) (S:FnScope N ps scope)
  (len:∀ vs H Q E,sp vs H Q E->vs.length=ps.length)
  (hbody:∀ (A:Around) (outer:List Env) (s:Shared) (H:Hp) (vs:List V) (Q:VK) (E:XK),Room k (A.deeper (envOfC qual scope s.heap.objs.size f cdv))->sp vs H Q E →
   ∃ t,PSs (cxOf CX P w K mg base N qual scope f cdv A outer s H E) body t/\t { nx:=fun _ H'=>Q .non H',rt:=Q } (start N vs) H) :
  FnOk P w K mg base CX (k+1) f (PySem.W.fnOf name qual params body scope dV kV doc pm an cdv ct) ps sp:=by
 refine ⟨len,fun A outer s H args us vs Q E hr e0 hb r hsp=>?_⟩;have hl:=len _ _ _ _ hsp;have KX:K.In s.heap:=e0.mod.kin.keeps fun b o e=>(e0.bs b o e).1;have lim:s.heap.NoLimit:=e0.mod.nolimit.keeps fun b o e=>(e0.bs b o e).1
 have hkind:∀ y∈ps.zip us,scope.names.lookup y.1=some .local\/(scope.names.lookup y.1=some .cell/\((cellsFrom (s.heap.objs.size+1) scope.names []).lookup y.1).isSome=true):=fun ⟨n,v⟩ hy=>by
  rcases S.par n (yv hy).1 with q | q
  ·exact .inl q
  ·exact .inr ⟨q,PySem.W.cellsFrom_some _ _ _ (.inl q)⟩
 refine codeAny_call_function hr.depth (KX _ _ lk) rfl S.co S.gen rfl (PySem.W.codeRec_of KX hcd) (hb _ _ _ _ ?_);refine wpAny_newFunctionEnv_cells S.kind hkind fun env he s1 x=>?_;subst he;refine ⟨lim.keeps x.toInCall.keep,codeAny_func ?_⟩;obtain ⟨t,ht,hq⟩:=hbody A outer s H vs Q E (hr.deeper _) hsp;have I:Inv (cxOf CX P w K mg base N qual scope f cdv A outer s H E) [] (start N vs) H s1:=xAne S hr.hd e0 hl r x;refine wpAny_mono (ht [] s1 (start N vs) H _ I hq) (fun fl s' hs=>?_) fun e s' hs=>hs
 have fin:∀ {σ':St} {H':Hp} {v:V} {u:Value},Inv (cxOf CX P w K mg base N qual scope f cdv A outer s H E) [] σ' H' s'->RelV v u->Q v H'->CE outer P w H s Q u s' :=
  fun {σ' H' v u} J rv q=>⟨v,H',J.os,J.bare,J.base,J.hok,rv,q⟩
 cases fl with
 | ret u =>
  obtain ⟨v,σ',H',J,rv,q⟩:=hs;exact fin J rv q
 | next =>
  obtain ⟨σ',H',J,q⟩:=hs;exact fin (v:=V.non) (u:=Value.none) J rfl q
 | brk =>
  obtain ⟨_,_,_,q⟩:=hs;exact False.elim q
 | cont =>
  obtain ⟨_,_,_,q⟩:=hs;exact False.elim q
section
variable {X:Cx} {x:Str} {p pos:Pos} {e:Expr} {es:List Expr} {t:TA} {id T:String} {r:List V->Hp->VK->Prop}
def tCB (r:List V->Hp->VK->Prop) (t:TA):TE:=fun σ H Q=>t σ H fun vs H1=>r vs H1 Q
theorem xAaz (hc:CallR X (.builtin id) r) (hg:Gl X x) (hm:X.mg x=none) (hv:bootBuiltins x=some (.builtin id)) (ha:PA X (e::es) t) (hn:x≠"__name__":=by decide) (hdb:(x==("__debug__":Str))=false:=by decide)
  (he:starEach (e::es) X.env=(false,eval e X.env)::starEach es X.env:=by rfl) (hpl:(backTo pos (starEach es X.env)).any (·.1)=false:=by rfl):PE X (.Call (.Name x p) (e::es) [] pos) (tCB r t):=by
 intro pins s σ H Q I h;refine wpAny_Call_Name_kw (xAja I hg hm hv ?_ hn hdb);exact PyProof.Rows.callWith_builtin1 (thn (ha pos pins s σ H _ I h) fun us s1 ⟨vs,H1,I1,r1,q1⟩=>hc pins s1 σ H1 vs us Q I1 r1 q1) he hpl
theorem xAbx (hc:CallR X (.type T) r) (hg:Gl X x) (hm:X.mg x=none) (hv:bootBuiltins x=some (.type T)) (ha:PA X (e::es) t) (hn:x≠"__name__":=by decide) (hdb:(x==("__debug__":Str))=false:=by decide)
  (he:starEach (e::es) X.env=(false,eval e X.env)::starEach es X.env:=by rfl) (hpl:(backTo pos (starEach es X.env)).any (·.1)=false:=by rfl):PE X (.Call (.Name x p) (e::es) [] pos) (tCB r t):=by
 intro pins s σ H Q I h;refine wpAny_Call_Name_kw (xAja I hg hm hv ?_ hn hdb);exact PyProof.Rows.callWith_type1 (thn (ha pos pins s σ H _ I h) fun us s1 ⟨vs,H1,I1,r1,q1⟩=>hc pins s1 σ H1 vs us Q I1 r1 q1) he hpl
end
end L2
namespace HT
open PySem PyProof.Rows
def lexLt:List Int->List Int->Bool
 | [],[]=>false
 | [],_::_=>true
 | _::_,[]=>false
 | x::xs,y::ys=>if x=y then lexLt xs ys else decide (x<y)
theorem lexLt_cons (x y:Int) (xs ys:List Int):lexLt (x::xs) (y::ys)=if x=y then lexLt xs ys else decide (x<y):=rfl
theorem xAfn:lexLt [] []=false:=rfl
theorem xAek (y:Int) (ys:List Int):lexLt [] (y::ys)=true:=rfl
theorem xAel (x:Int) (xs:List Int):lexLt (x::xs) []=false:=rfl
theorem xApv (A:Around) (s:Shared) (a:Int) (t:Tok) (c:Int) (u:Tok):∃ e,SeqAt.EqAt A s (.int a t) (.int c u) e/\(e=true↔a=c) :=
 ⟨(a==c),SeqAt.EqAt.int_int a t c u,by simp⟩
theorem xApw (A:Around) (s:Shared) (a:Int) (t:Tok) (c:Int) (u:Tok) (prog:Program) (w:World) (E:Value->Shared->Prop) (Q:Value->Shared->Prop) (h:Q (.bool (decide (a<c))) s) :
  wpAny (model prog w) A (richCompare .Lt (.int a t) (.int c u)) Q E s :=
 (PyProof.Rows.lt_int h:wpAny (model prog w) A (compareOp .Lt (.int a t) (.int c u)) Q E s)
section
open PySem.SeqAt
open PySem.AutoSeq1 (wpAny_loadPart')
open PySem.MeetsSeq PySem.MeetsSeq2 PySem.MeetsSeq3
theorem xAfo (l b:Addr) (items items2:Array Value) (n n2:Nat) (dd dd2:Option Addr) (sl sl2:Array (Option Value)) (ns ms:List Int) (hi:IntsAre items.toList ns) (hj:IntsAre items2.toList ms) :
  Meets (Builtin.«tuple.__lt__» ⟨[.ref l,.ref b],[]⟩)
   (fun _ R s=>s.heap.get? l=some { cls:=.type "tuple",dict:=dd,data:=.seq items n,slots:=sl }/\s.heap.get? b=some { cls:=.type "tuple",dict:=dd2,data:=.seq items2 n2,slots:=sl2 } ∧
    R (.ok (.ret (.bool (lexLt ns ms)))) s) :=
 .of_wp fun prog w A R s h=>by
  obtain ⟨hp,g,d,tk,os⟩:=s;obtain ⟨hl,hb,h⟩:=h;have f2:=AutoSeq1.sub_tuple_tuple
  have z1:items.size=ns.length:=by rw [← hi.length];simp
  have z2:items2.size=ms.length:=by rw [← hj.length];simp
  wp_walk using wpAny_loadPart' hl,wpAny_loadPart' hb,wpAny_forIn_list _ (fun rest b s'=>b.1=none/\s'=⟨hp,g,d,tk,os⟩/\∃ (vs ws:List Value) (ns' ms':List Int),rest=vs.zip ws ∧
   IntsAre vs ns'/\IntsAre ws ms'/\ns'.length+items2.size=ms'.length+items.size/\R (.ok (.ret (.bool (lexLt ns' ms')))) ⟨hp,g,d,tk,os⟩) _
  case turn =>
   rintro ⟨y,x⟩ rest b s' ⟨hb',rfl,vs,ws,ns',ms',hz,hvi,hwi,hlen,hR⟩
   cases hvi with
   | nil=>rw [List.zip_nil_left] at hz;cases hz
   | cons a t hvi' =>
    cases hwi with
    | nil=>rw [List.zip_nil_right] at hz;cases hz
    | cons c u hwi' =>
     rw [jg] at hz;injection hz with hyx hrest;injection hyx with hy hx;subst hy hx;rw [lexLt_cons] at hR
     simp only [List.length_cons] at hlen
     obtain ⟨e,he,hiff⟩:=xApv A.in1 ⟨hp,g,d,tk,os⟩ a t c u;refine wpAny_bind (he prog w _ _ ?_)
     cases e with
     | true =>
      rw [if_pos (hiff.mp rfl)] at hR
      wp_walk
      exact ⟨rfl,rfl,_,_,_,_,hrest,hvi',hwi',by omega,hR⟩
     | false =>
      rw [if_neg (fun q=>absurd (hiff.mpr q) qm)] at hR;have hri:=xApw A.in1 ⟨hp,g,d,tk,os⟩ a t c u prog w
      wp_walk using hri
      exact ⟨_,rfl,by simpa using hR⟩
  case fin =>
   rintro ⟨b1,b2⟩ s' ⟨hb',rfl,vs,ws,ns',ms',hz,hvi,hwi,hlen,hR⟩
   simp only at hb'
   subst hb'
   have hv:lexLt ns' ms'=decide (items.size<items2.size):=by
    cases hvi with
    | nil =>
     cases hwi with
     | nil =>
      simp only [List.length_nil] at hlen
      rw [xAfn];exact (decide_eq_false (by omega)).symm
     | cons c u hw =>
      simp only [List.length_nil,List.length_cons] at hlen
      rw [xAek];exact (decide_eq_true (by omega)).symm
    | cons a t hv =>
     cases hwi with
     | nil =>
      simp only [List.length_nil,List.length_cons] at hlen
      rw [xAel];exact (decide_eq_false (by omega)).symm
     | cons c u hw =>
      rw [jg] at hz;cases hz
   rw [hv] at hR
   wp_walk
   exact ⟨_,rfl,by simpa [Builtin.Tuple.tupleCompareSizes] using hR⟩
  case h =>
   exact ⟨rfl,rfl,items.toList,items2.toList,ns,ms,rfl,hi,hj,by omega,h⟩
end
section
variable {prog:Program} {w:World} {A:Around} {E:Value->Shared->Prop} {s:Shared}
theorem lt_tupInts {l b:Addr} {items items2:Array Value} {ns ms:List Int} {Q:Value->Shared->Prop} (hl:IsTup s.heap l items) (hb:IsTup s.heap b items2) (hi:IntsAre items.toList ns) (hj:IntsAre items2.toList ms)
  (hu:A.units<cLine) (h:Q (.bool (lexLt ns ms)) s):wpAny (model prog w) A (compareOp .Lt (.ref l) (.ref b)) Q E s:=by
 obtain ⟨⟨cls,dd,data,sl⟩,ho,hc,n,hd⟩:=id hl;obtain ⟨⟨cls2,dd2,data2,sl2⟩,ho2,hc2,n2,hd2⟩:=id hb
 simp only at hc hd hc2 hd2
 subst hc hd hc2 hd2
 exact richCompare_meets_room (op:=.Lt) ⟨_,ho,rfl⟩ ⟨_,ho2,rfl⟩ PySem.F.slot_tuple_lt PySem.F.entry_tuple_lt (PySem.F.args_tuple_lt_2 _ _) (xAfo l b items items2 n n2 dd dd2 sl sl2 ns ms hi hj)
  ⟨ho,ho2,show Value.bool (lexLt ns ms)≠Value.notImplemented/\Q (.bool (lexLt ns ms)) s from ⟨(fun x=>nomatch x),h⟩⟩ hu
def sIx (n d:Nat):Option Int->Nat
 | none=>d
 | some v=>if v<0 then (v+(n:Int)).toNat else min v.toNat n
theorem sIx_nat (n d k:Nat):sIx n d (some (k:Int))=min k n:=by
 show (if (k:Int)<0 then ((k:Int)+(n:Int)).toNat else min (k:Int).toNat n)=min k n;rw [if_neg (by omega),Int.toNat_natCast]
end
end HT
namespace L2
open PySem PySem.Spec PyProof.Rows
abbrev TO:=St->Hp->(Option Int->Hp->Prop)->Prop
def PO (X:Cx) (e:Option Expr) (t:TO):Prop :=
 ∀ (pins:List (Addr×Obj)) (s:Shared) (σ:St) (H:Hp) (Q:Option Int->Hp->Prop),Inv X pins σ H s->t σ H Q →
  wpAny (model X.prog X.w) X.A (evalPart e X.env) (fun u s'=>∃ o H',Inv X pins σ H' s'/\IsPart u o/\Q o H') X.xe s
def tNoPart:TO:=fun _ H Q=>Q none H
def tPart (t:TE):TO:=fun σ H Q=>t σ H fun x H1=>∃ i,x=.int i/\Q (some i) H1
theorem xAfp {ns:List Int}:∀ {us:List Value},Vals (ns.map V.int) us->IntsAre us ns:=by
 induction ns with
 | nil=>intro us r;rw [v7] at r;cases r;exact .nil
 | cons n ns ih =>
  intro us r;rw [qz] at r
  cases r with
  | cons r1 r2 =>
   obtain ⟨t,e⟩:=r1;subst e;exact .cons n t (ih r2)
section
variable {X:Cx} {e:Expr} {te:TE} {lo hi:Option Expr} {tl th:TO} {pos p2:Pos}
theorem xAsd:PO X none tNoPart:=by
 intro pins s σ H Q I h;rw [evalPart_none];exact wpAny_pure ⟨none,H,I,.none,h⟩
theorem xAkf (h:PE X e te):PO X (some e) (tPart te):=by
 intro pins s σ H Q I hw;rw [evalPart_some];refine thn (h pins s σ H _ I hw) fun u s1 ⟨x,H1,I1,r1,q1⟩=>?_;obtain ⟨i,rfl,q⟩:=q1;obtain ⟨t,rfl⟩:=r1;exact ⟨some i,H1,I1,.int i t,q⟩
def SlR (X:Cx) (r:V->Option Int->Option Int->Hp->VK->Prop):Prop :=
 ∀ (pins:List (Addr×Obj)) (s:Shared) (σ:St) (H:Hp) (x:V) (v vl vu:Value) (lo hi:Option Int) (sl:Addr) (Q:VK),Inv X pins σ H s->RelV x v->s.heap.IsSliceOf sl vl vu .none->IsPart vl lo->IsPart vu hi->r x lo hi H Q →
  ∃ T id,typeLookup (.type T) "__getitem__"=pure (some (.builtin id))/\s.TypeIs v T/\wpAny (model X.prog X.w) X.A (getItem v (.ref sl)) (EP X pins σ Q) X.xe s
def tSl (r:V->Option Int->Option Int->Hp->VK->Prop) (te:TE) (tl th:TO):TE:=fun σ H Q=>te σ H fun x H1=>tl σ H1 fun l H2=>th σ H2 fun u H3=>r x l u H3 Q
theorem xAkg {r:V->Option Int->Option Int->Hp->VK->Prop} (hr:SlR X r) (he:PE X e te) (hl:PO X lo tl) (hu:PO X hi th):PE X (.Subscript e (.Slice lo hi none p2) pos) (tSl r te tl th):=by
 intro pins s σ H Q I h;refine Subscript_ (thn (he pins s σ H _ I h) fun v s1 ⟨x,H1,I1,r1,q1⟩=>?_);refine wpAny_Slice (thn (hl pins s1 σ H1 _ I1 q1) fun vl s2 ⟨l,H2,I2,pl,q2⟩=>thn (hu pins s2 σ H2 _ I2 q2) fun vu s3 ⟨u,H3,I3,pu,q3⟩=>?_);rw [evalPart_none];refine wpAny_pure ?_;have I4:Inv X pins σ H3 { s3 with heap:=s3.heap.push { cls:=.type "slice",data:=.fields #[vl,vu,.none] } }:=I3.kept (t':=s3.toks) fun b ob q=>Heap.get?_push_of_some _ q;obtain ⟨T,id,hT,ht,hg⟩:=hr pins { s3 with heap:=s3.heap.push { cls:=.type "slice",data:=.fields #[vl,vu,.none] } } σ H3 x v vl vu l u s3.heap.objs.size Q I4 r1 (Heap.IsSliceOf.new ..) pl pu q3;show wpAny (model X.prog X.w) X.A (subscriptTail e (.Slice lo hi none p2) v (.ref s3.heap.objs.size)) (EP X pins σ Q) X.xe { s3 with heap:=s3.heap.push { cls:=.type "slice",data:=.fields #[vl,vu,.none] } };exact tail_any (ops:=[.ref s3.heap.objs.size,v]) ht hT hg (by with_unfolding_all rfl)
def cutV (xs:List V) (lo hi:Option Int):List V:=(xs.drop (HT.sIx xs.length 0 lo)).take (HT.sIx xs.length xs.length hi - HT.sIx xs.length 0 lo)
theorem xAjf (xs:List V) (lo hi:Option Int):(cutV xs lo hi).length≤xs.length:=by
 unfold cutV;rw [zo,zr];omega
def rLtT (K:PySem.W.Frag):R2:=fun x y H Q=>∃ a b ns ms,x=.ref a/\y=.ref b/\SqT K H a (ns.map V.int)/\SqT K H b (ms.map V.int)/\Q (.bl (HT.lexLt ns ms)) H
theorem op_ltT (hu:X.A.units<cLine):OpR X (compareOp .Lt) (rLtT X.K):=by
 intro pins s σ H x y v u Q I rx ry h;obtain ⟨a,b,ns,ms,rfl,rfl,ha,hb,q⟩:=h;cases rx;cases ry;obtain ⟨its,r1,p1,_⟩:=I.tuple ha;obtain ⟨its2,r2,p2,_⟩:=I.tuple hb;have i1:IntsAre its.toArray.toList ns:=xAfp r1;have i2:IntsAre its2.toArray.toList ms:=xAfp r2;exact HT.lt_tupInts p1 p2 i1 i2 hu ⟨.bl (HT.lexLt ns ms),H,I,rfl,q⟩
end
def ixN (n:Nat) (i:Int):Option Nat:=if 0≤i then (if i<n then some i.toNat else none) else if -(n:Int)≤i then some (i+n).toNat else none
def atI {α:Type} (xs:List α) (i:Int):Option α:=(ixN xs.length i).bind fun j=>xs[j]?
theorem xAoy {n:Nat} {i:Int} {j:Nat} (h:ixN n i=some j):seqIndex? i n=some j/\j<n/\-(n:Int)≤i/\i<n:=by
 unfold ixN at h
 by_cases h0:0≤i
 ·rw [if_pos h0] at h
  by_cases h1:i<n
  ·rw [if_pos h1] at h
   have e:i.toNat=j:=Option.some.inj h;exact ⟨by rw [seqIndex_of h0 h1,e],by omega,by omega,h1⟩
  ·rw [if_neg h1] at h;cases h
 ·rw [if_neg h0] at h
  by_cases h1:-(n:Int)≤i
  ·rw [if_pos h1] at h
   have e:(i+n).toNat=j:=Option.some.inj h;exact ⟨by rw [seqIndex_neg (by omega) h1,e],by omega,h1,by omega⟩
  ·rw [if_neg h1] at h;cases h
theorem xAoz {α:Type} {xs:List α} {i:Int} {v:α} (h:atI xs i=some v):∃ j,seqIndex? i xs.length=some j/\xs[j]?=some v/\j<xs.length/\-(xs.length:Int)≤i/\i<xs.length:=by
 unfold atI at h
 cases e:ixN xs.length i with
 | none=>rw [e] at h;cases h
 | some j =>
  rw [e] at h;obtain ⟨h1,h2,h3,h4⟩:=xAoy e;exact ⟨j,h1,h,h2,h3,h4⟩
theorem xAkh {α:Type} {xs:List α} {j:Nat} {v:α} (h:xs[j]?=some v):atI xs (j:Int)=some v:=by
 have hj:j<xs.length:=(qv.mp h).1
 have e:ixN xs.length (j:Int)=some j:=by
  unfold ixN;rw [if_pos (by omega),if_pos (by omega)];simp
 unfold atI;rw [e];exact h
def PlainIx (b:Expr):Prop:=∀ o i,subscripted b false o i=operate [o,i] (getItem o i)
def IxR (X:Cx) (r:R2):Prop :=
 ∀ (value slice:Expr) (pins:List (Addr×Obj)) (s:Shared) (σ:St) (H:Hp) (x y:V) (v u:Value) (Q:VK),Inv X pins σ H s->RelV x v->RelV y u->r x y H Q →
  subscripted slice false v u=operate [v,u] (getItem v u)->wpAny (model X.prog X.w) X.A (subscriptTail value slice v u) (EP X pins σ Q) X.xe s
def MtR (X:Cx) (id:String) (r:V->List V->Hp->VK->Prop):Prop :=
 ∀ (pins:List (Addr×Obj)) (s:Shared) (σ:St) (H:Hp) (x:V) (xs:List V) (v:Value) (us:List Value) (Q:VK),Inv X pins σ H s->RelV x v->Vals xs us->r x xs H Q →
  wpAny (model X.prog X.w) X.A (call (.builtin id) (v::us)) (EP X pins σ Q) X.xe s
section
variable {X:Cx} {a b:Expr} {ta tb:TE} {pos:Pos}
theorem pe_ix {r:R2} (hr:IxR X r) (ha:PE X a ta) (hb:PE X b tb) (hs:PlainIx b):PE X (.Subscript a b pos) (tOp r ta tb):=by
 intro pins s σ H Q I h;exact Subscript_ (binT ha hb I h fun v u s2 x y H2 I2 rx ry q=>hr a b pins s2 σ H2 x y v u Q I2 rx ry q (hs _ _))
def rIxL (K:PySem.W.Frag):R2:=fun x y H Q=>∃ p xs i v,x=.ref p/\y=.int i/\SqL K H p xs/\atI xs i=some v/\Q v H
def rIxT (K:PySem.W.Frag):R2:=fun x y H Q=>∃ p xs i v,x=.ref p/\y=.int i/\SqT K H p xs/\atI xs i=some v/\Q v H
theorem xAaw:IxR X (rIxL X.K):=by
 intro value slice pins s σ H x y v u Q I rx ry h hs;obtain ⟨p,xs,i,z,rfl,rfl,hq,he,q⟩:=h;cases rx;obtain ⟨t,rfl⟩:=ry;obtain ⟨its,r,pl,hz⟩:=I.list hq;obtain ⟨j,h1,h2,h3,h4,h5⟩:=xAoz he;obtain ⟨w,ew,rw'⟩:=r.get h2;have hl:=r.length;have hn:=xAna;have fin:EP X pins σ Q w s:=⟨z,H,I,rw',q⟩
 by_cases h0:0≤i
 ·have hj:i.toNat=j:=by
   rw [seqIndex_of h0 h5] at h1;exact Option.some.inj h1
  exact item_listR pl.isList h0 (by omega) (by rw [hj];simpa using ew) fin hs
 ·have hj:(i+(its.toArray.size:Int)).toNat=j:=by
   rw [seqIndex_neg (by omega) h4] at h1;rw [zf,← hl];exact Option.some.inj h1
  exact subscriptTail_builtinR (x:=w) pl.isList.typeIs slot_list_getitem.lookup
   (wpAny_getItem_list_neg (Q:=fun r s'=>r=w/\EP X pins σ Q r s') pl.isList (by omega) (by rw [List.size_toArray] <;> omega) (by omega) (by rw [hj];simpa using ew) ⟨rfl,fin⟩) hs
theorem xAdd:IxR X (rIxT X.K):=by
 intro value slice pins s σ H x y v u Q I rx ry h hs;obtain ⟨p,xs,i,z,rfl,rfl,hq,he,q⟩:=h;cases rx;obtain ⟨t,rfl⟩:=ry;obtain ⟨its,r,pl,hz⟩:=I.tuple hq;obtain ⟨j,h1,h2,h3,h4,h5⟩:=xAoz he;obtain ⟨w,ew,rw'⟩:=r.get h2;have hl:=r.length;have hn:=xAna;have fin:EP X pins σ Q w s:=⟨z,H,I,rw',q⟩
 exact subscriptTail_builtinR (x:=w) pl.typeIs slot_tuple_getitem.lookup
  (getItem_tuple (j:=j) (Q:=fun r s'=>r=w/\EP X pins σ Q r s') pl (by omega) (by omega) (by rw [List.size_toArray,← hl];exact h1) (by simpa using ew) ⟨rfl,fin⟩) hs
theorem xAki (its:List Value) (n j:Nat) (u:Value):Obj.mapSeq (·.setIfInBounds j u) { cls:=.type "list",data:=.seq its.toArray n }={ cls:=.type "list",data:=.seq (its.set j u).toArray n }:=by
 simp [Obj.mapSeq]
theorem Inv.lst {pins:List (Addr×Obj)} {σ:St} {H:Hp} {s:Shared} {p:Addr} {xs:List V} (I:Inv X pins σ H s) (h:H p=some (.lst xs)) :
  ∃ (its:List Value) (n:Nat),Vals xs its/\s.heap.get? p=some { cls:=.type "list",data:=.seq its.toArray n }/\xs.length≤sizeLine:=by
 obtain ⟨z,its,n,r,e⟩:=I.hok p _ h;exact ⟨its,n,r,e,z⟩
theorem Inv.lstUpd {pins:List (Addr×Obj)} {σ:St} {H:Hp} {s:Shared} {p:Addr} {xs ys:List V} {its its':List Value} {n n':Nat} {f:Obj->Obj} (I:Inv X pins σ H s) (h:H p=some (.lst xs))
  (ho:s.heap.get? p=some { cls:=.type "list",data:=.seq its.toArray n }) (hf:f { cls:=.type "list",data:=.seq its.toArray n }={ cls:=.type "list",data:=.seq its'.toArray n' }) (r:Vals ys its') (hz:ys.length≤sizeLine) (t:Nat) :
  Inv X pins σ (upd H p (.lst ys)) { s with heap:=s.heap.update p f,toks:=t }:=by
 have e:(s.heap.update p f).get? p=some { cls:=.type "list",data:=.seq its'.toArray n' }:=by
  rw [Heap.get?_update_self f ho (by rw [hf] <;> rfl),hf]
 refine I.write (x:=p) (e:=p) (by rw [h];trivial) (.inl rfl) (fun b u hb q=>(Heap.get?_update_other _ _ (Ne.symm hb)).trans q) ⟨_,e⟩ ?_;exact ⟨hz,its',n',r,e⟩
def rSetL:V->V->V->Hp->(Hp->Prop)->Prop:=fun o i v H Q=>∃ p xs k j,o=.ref p/\i=.int k/\H p=some (.lst xs)/\ixN xs.length k=some j/\Q (upd H p (.lst (xs.set j v)))
theorem xAcv:PSet X rSetL:=by
 intro pins s σ H o i v ov iv u Q I ro ri rv h;obtain ⟨p,xs,k,j,rfl,rfl,hp,hj,q⟩:=h;cases ro;obtain ⟨t,rfl⟩:=ri;obtain ⟨its,n,r,ho,hz⟩:=I.lst hp;obtain ⟨h1,h2,h3,h4⟩:=xAoy hj;have hl:=r.length;have hn:=xAna
 have I':Inv X pins σ (upd H p (.lst (xs.set j v))) { s with heap:=s.heap.update p (Obj.mapSeq (·.setIfInBounds j u)) } :=
  I.lstUpd hp ho (xAki its n j u) (r.set rv j) (by rw [List.length_set];exact hz) s.toks
 by_cases h0:0≤k
 ·have hk:k.toNat=j:=by
   rw [seqIndex_of h0 h4] at h1;exact Option.some.inj h1
  exact PySem.W.ki_setAt ho h0 (by omega) (by rw [zf,← hl];exact h4) (by rw [hk];exact ⟨_,I',q⟩)
 ·have hk:(k+(its.toArray.size:Int)).toNat=j:=by
   rw [seqIndex_neg (by omega) h3] at h1;rw [zf,← hl];exact Option.some.inj h1
  exact PySem.W.ki_setBack ho (by omega) (by rw [zf,← hl];exact h3) (by omega) (by rw [hk];exact ⟨_,I',q⟩)
theorem xAgi (lo hi:Option Int) (n:Nat):(sliceBounds lo hi none n).1=((HT.sIx n 0 lo:Nat):Int)/\(sliceBounds lo hi none n).2.1=((HT.sIx n n hi:Nat):Int)/\(sliceBounds lo hi none n).2.2=1:=by
 refine ⟨?_,?_,rfl⟩
 ·cases lo with
  | none=>simp [sliceBounds,HT.sIx]
  | some i =>
   simp only [sliceBounds,HT.sIx,Option.getD_none,show (1:Int)>0 by decide,if_true]
   by_cases h:i<0
   ·simp only [h,if_true] <;> omega
   ·simp only [h,if_false] <;> omega
 ·cases hi with
  | none=>simp [sliceBounds,HT.sIx]
  | some i =>
   simp only [sliceBounds,HT.sIx,Option.getD_none,show (1:Int)>0 by decide,if_true]
   by_cases h:i<0
   ·simp only [h,if_true] <;> omega
   ·simp only [h,if_false] <;> omega
theorem xAfq (its:List Value) (lo hi:Option Int):slicePick its.toArray lo hi none=((its.drop (HT.sIx its.length 0 lo)).take (HT.sIx its.length its.length hi - HT.sIx its.length 0 lo)).toArray:=by
 obtain ⟨h1,h2,h3⟩:=xAgi lo hi its.toArray.size;unfold slicePick;rw [h1,h2,h3]
 simp only [sliceRange_one,pick_run,List.size_toArray] <;> rfl
def rSlL (K:PySem.W.Frag):V->Option Int->Option Int->Hp->VK->Prop:=fun x lo hi H Q=>∃ a xs,x=.ref a/\SqL K H a xs/\∀ p,H p=none->Q (.ref p) (upd H p (.lst (cutV xs lo hi)))
theorem xAse:SlR X (rSlL X.K):=by
 intro pins s σ H x v vl vu lo hi sl Q I rx hs pl pu h;obtain ⟨a,xs,rfl,hx,q⟩:=h;cases rx;obtain ⟨its,r,ht,hz⟩:=I.list hx;have hlen:=r.length;refine ⟨"list",_,slot_list_getitem.lookup,ht.isList.typeIs,?_⟩;refine wpAny_getItem_list_slice ht.isList hs pl pu .none (by simp) ?_ (by rw [List.size_toArray] <;> omega);rw [xAfq,← hlen];refine ⟨.ref s.heap.objs.size,_,I.laid (t':=s.toks) (o:=.lst (cutV xs lo hi)) (fun b ob q=>Heap.get?_push_of_some _ q) (qc _) ?_,rfl,q _ (I.hok.fresh (qc _))⟩;exact ⟨qk (xAjf xs lo hi) hz,_,0,(r.drop (HT.sIx xs.length 0 lo)).take (HT.sIx xs.length xs.length hi - HT.sIx xs.length 0 lo),Heap.get?_push_size _ rfl⟩
theorem xAbc:CallR X (.builtin "len") (fun xs H Q=>∃ p ys,xs=[.ref p]/\(SqL X.K H p ys\/SqT X.K H p ys)/\Q (.int ys.length) H):=by
 intro pins s σ H xs us Q I r h;obtain ⟨p,ys,rfl,hq,q⟩:=h;obtain ⟨u,rfl,rx⟩:=vals1 r;cases rx;have hn:=xAna;rcases hq with hq | hq
 ·obtain ⟨its,r',pl,hz⟩:=I.list hq
  have hlen:=r'.length;exact Calls.call_len_list pl.isList (by simp only [List.size_toArray] <;> omega) ⟨.int ys.length,H,I.tok _,⟨s.toks+1,by rw [List.size_toArray,hlen]⟩,q⟩
 ·obtain ⟨its,r',pl,hz⟩:=I.tuple hq
  have hlen:=r'.length;exact len_tuple pl (by simp only [List.size_toArray] <;> omega) ⟨.int ys.length,H,I.tok _,⟨s.toks+1,by rw [List.size_toArray,hlen]⟩,q⟩
theorem xAgj:CallR X (.type "list") (fun xs H Q=>∃ p ys,xs=[.ref p]/\(SqL X.K H p ys\/SqT X.K H p ys)/\∀ l,H l=none->Q (.ref l) (upd H l (.lst ys))):=by
 intro pins s σ H xs us Q I r h;obtain ⟨p,ys,rfl,hq,q⟩:=h;obtain ⟨u,rfl,rx⟩:=vals1 r;cases rx
 have fin:∀ (its:List Value),Vals ys its->ys.length≤sizeLine->∀ (h':Heap) (c':Nat),(∀ b o',s.heap.get? b=some o'->h'.get? b=some o') →
   h'.get? s.heap.objs.size=some { cls:=.type "list",dict:=none,data:=.seq its.toArray c',slots:=#[] }->EP X pins σ Q (.ref s.heap.objs.size) { s with heap:=h' }:=fun its r' hz h' c' kp e =>
  ⟨.ref s.heap.objs.size,_,I.laid (t':=s.toks) kp (qc _) (show ObjOk X.prog X.w _ h' _ (.lst ys) from ⟨hz,its,c',r',e⟩),rfl,q _ (I.hok.fresh (qc _))⟩
 rcases hq with hq | hq
 ·obtain ⟨its,r',pl,hz⟩:=I.list hq
  have hlen:=r'.length;obtain ⟨o,ho,hc,n,hd⟩:=pl.isList;exact call_list_seq p (.inl rfl) ho hc hd (fun h' c' kp e=>fin its r' hz h' c' kp e) (by simp only [List.size_toArray] <;> omega)
 ·obtain ⟨its,r',pl,hz⟩:=I.tuple hq
  have hlen:=r'.length;obtain ⟨o,ho,hc,n,hd⟩:=pl;exact call_list_seq p (.inr rfl) ho hc hd (fun h' c' kp e=>fin its r' hz h' c' kp e) (by simp only [List.size_toArray] <;> omega)
def tyV (K:PySem.W.Frag) (T:String) (x:V) (H:Hp):Prop:=match x with
 | .str _=>T = "str"
 | .int _=>T = "int"
 | .ref p=>(T = "list" /\ ∃ xs,SqL K H p xs)\/(T = "tuple" /\ ∃ o,K.lookup p=some o/\o.cls=.type "tuple" /\ o.dict=none) ∨
   (T = "dict" /\ ((∃ kvs,H p=some (.dK kvs))\/(∃ kvs,H p=some (.dT kvs))\/∃ kvs,H p=some (.dG kvs)))\/(T = "set" /\ ∃ S n,H p=some (.set S n))
 | _=>False
theorem xAsf {pins:List (Addr×Obj)} {σ:St} {H:Hp} {s:Shared} {T:String} {x:V} {v:Value} (I:Inv X pins σ H s) (r:RelV x v) (ty:tyV X.K T x H) :
  s.TypeIs v T/\∀ a,v=.ref a->∃ ob,s.heap.get? a=some ob/\ob.dict=none:=by
 cases x with
 | str z =>
  obtain ⟨t,rfl⟩:=r;cases (show T = "str" from ty);exact ⟨typeIs_str s z t,fun _ e=>nomatch e⟩
 | int i =>
  obtain ⟨t,rfl⟩:=r;cases (show T = "int" from ty);exact ⟨typeIs_int s i t,fun _ e=>nomatch e⟩
 | ref p =>
  cases r;rcases ty with ⟨rfl,xs,hq⟩ | ⟨rfl,o,hk,hc,hd⟩ | ⟨rfl,hk⟩ | ⟨rfl,S,n,hk⟩
  ·obtain ⟨its,_,pl,_⟩:=I.list hq
   refine ⟨pl.isList.typeIs,fun a e=>?_⟩;cases e;obtain ⟨o,n,e,c,hd,_⟩:=pl;exact ⟨o,e,hd⟩
  ·refine ⟨⟨o,I.kIn p o hk,hc⟩,fun a e=>?_⟩
   cases e;exact ⟨o,I.kIn _ o hk,hd⟩
  ·have z:∃ o,s.heap.get? p=some o/\o.ExactDict:=by
    rcases hk with ⟨kvs,hk⟩ | ⟨kvs,hk⟩ | ⟨kvs,hk⟩
    ·obtain ⟨_,_,_,_,o,_,_,e,ex,_⟩:=I.hok p _ hk
     exact ⟨o,e,ex⟩
    ·obtain ⟨_,_,_,_,o,_,_,e,ex,_⟩:=I.hok p _ hk
     exact ⟨o,e,ex⟩
    ·obtain ⟨_,_,_,_,o,_,_,e,ex,_⟩:=I.hok p _ hk
     exact ⟨o,e,ex⟩
   obtain ⟨o,e,ex⟩:=z;refine ⟨⟨o,e,ex.1⟩,fun a e2=>?_⟩;cases e2;exact ⟨o,e,ex.2.1⟩
  ·obtain ⟨o,_,_,_,e,ex,_⟩:=I.hok p _ hk
   refine ⟨⟨o,e,ex.1⟩,fun a e2=>?_⟩;cases e2;exact ⟨o,e,ex.2.1⟩
 | _=>exact False.elim ty
def tBM0 (K:PySem.W.Frag) (T:String) (r:V->List V->Hp->VK->Prop) (to:TE):TE:=fun σ H Q=>to σ H fun x H1=>tyV K T x H1/\r x [] H1 Q
def tBM (K:PySem.W.Frag) (T:String) (r:V->List V->Hp->VK->Prop) (to:TE) (t:TA):TE:=fun σ H Q=>to σ H fun x H1=>tyV K T x H1/\t σ H1 fun xs H2=>r x xs H2 Q
variable {o e:Expr} {es:List Expr} {to:TE} {t:TA} {name:Str} {apos cpos:Pos} {T id:String} {r:V->List V->Hp->VK->Prop}
theorem pe_bm0 (pa:PlainAttrs T) (slot:Slot T name id) (hty:typeOf (.builtin id)=pure (.type "method_descriptor")) (hm:MtR X id r) (ho:PE X o to)
  (hbase:attributeBase o name X.env (eval o X.env)=eval o X.env:=by rfl) (hline:(apos.endLine==cpos.line)=true:=by rfl):PE X (.Call (.Attribute o name apos) [] [] cpos) (tBM0 X.K T r to):=by
 intro pins s σ H Q I h;refine wpAny_Call_method0_late hbase hline (thn (ho pins s σ H _ I h) fun v s1 ⟨x,H1,I1,r1,ty,q1⟩=>?_);obtain ⟨h1,h2⟩:=xAsf I1 r1 ty;exact ⟨T,id,pa,slot,hty,h1,h2,Calls.callWith_builtin rfl (PySem.evalArgs_none (hm pins s1 σ H1 x [] v [] Q I1 r1 .nil q1))⟩
theorem pe_bm (pa:PlainAttrs T) (slot:Slot T name id) (hty:typeOf (.builtin id)=pure (.type "method_descriptor")) (hm:MtR X id r) (ho:PE X o to) (ha:PA X (e::es) t)
  (hbase:attributeBase o name X.env (eval o X.env)=eval o X.env:=by rfl)
  (hfew:((backTo cpos (starEach (e::es) X.env)).all (fun x=>!x.1)&&(backToKw cpos (keywordEach [] X.env)).all (fun x=>x.1.isSome)
   && decide ((e::es).length+([]:List Keyword).length+(if ([]:List Keyword).isEmpty then 0 else 1)<30))=true:=by rfl)
  (hline:(apos.endLine==cpos.line)=true:=by rfl) (hs:starEach (e::es) X.env=(false,eval e X.env)::starEach es X.env:=by rfl) (hplain:(backTo cpos (starEach es X.env)).any (·.1)=false:=by rfl) :
  PE X (.Call (.Attribute o name apos) (e::es) [] cpos) (tBM X.K T r to t):=by
 intro pins s σ H Q I h;refine wpAny_Call_method_late hbase hfew hline rfl (thn (ho pins s σ H _ I h) fun v s1 ⟨x,H1,I1,r1,ty,q1⟩=>?_);obtain ⟨h1,h2⟩:=xAsf I1 r1 ty;refine ⟨T,id,pa,slot,hty,h1,h2,?_⟩;have hA:=ha cpos pins s1 σ H1 _ I1 q1;rw [hs] at hA ⊢;refine Calls.callWith_builtin (by show (false||(backTo cpos (starEach es X.env)).any (·.1))=false;rw [hplain] <;> rfl) (Calls.evalArgs_plain ?_);exact thn hA fun us s2 ⟨vs,H2,I2,r2,q2⟩=>hm pins s2 σ H2 x vs v us Q I2 r1 r2 q2
end
def MtM (X:Cx) (id:String) (r:V->List V->Hp->VK->Prop):Prop :=
 ∀ (pins:List (Addr×Obj)) (s:Shared) (σ:St) (H:Hp) (x:V) (xs:List V) (v:Value) (us:List Value) (Q:VK),Inv X pins σ H s->RelV x v->Vals xs us->r x xs H Q →
  wpAny (model X.prog X.w) X.A (call (.builtin id) (v::us)) (EP X pins σ Q) X.xe s
theorem Vals.tl {x:V} {xs:List V} {us:List Value} (h:Vals (x::xs) us):∃ u vs,us=u::vs/\RelV x u/\Vals xs vs:=by
 cases h with
 | cons r t=>exact ⟨_,_,rfl,r,t⟩
theorem Vals.one:∀ {x:V} {us:List Value},Vals [x] us->∃ u,us=[u]/\RelV x u:=by
 intro x us h
 cases h with
 | cons r t=>cases t;exact ⟨_,rfl,r⟩
theorem Vals.two:∀ {x y:V} {us:List Value},Vals [x,y] us->∃ u v,us=[u,v]/\RelV x u/\RelV y v:=by
 intro x y us h;obtain ⟨u,vs,rfl,r,t⟩:=Vals.tl h;obtain ⟨v,rfl,q⟩:=Vals.one t;exact ⟨u,v,rfl,r,q⟩
theorem Vals.zero:∀ {us:List Value},Vals [] us->us=[]
 | _,.nil=>rfl
section
variable {X:Cx} {pins:List (Addr×Obj)} {σ:St} {H:Hp} {s:Shared} {l b:Addr} {xs ys zs:List V}
theorem Inv.lset {its its':List Value} {n:Nat} {f:Array Value->Array Value} {t':Nat} (I:Inv X pins σ H s) (hH:H l=some (.lst xs))
  (e:s.heap.get? l=some { cls:=.type "list",data:=.seq its.toArray n }) (hf:f its.toArray=its'.toArray) (hv:Vals ys its') (hz:ys.length≤sizeLine) :
  Inv X pins σ (upd H l (.lst ys)) { s with heap:=s.heap.update l (Obj.mapSeq f),toks:=t' }:=by
 have q:=PySem.IsL.update e f;rw [hf] at q;refine I.write (x:=l) (e:=l) (by rw [hH];exact trivial) (.inl rfl) (fun b' u hb hu=>(Heap.get?_update_other s.heap (Obj.mapSeq f) (Ne.symm hb)).trans hu) ⟨_,q⟩ ?_;exact ⟨hz,its',_,hv,q⟩
theorem Inv.lnew {its:List Value} {t':Nat} (I:Inv X pins σ H s) (hv:Vals ys its) (hz:ys.length≤sizeLine) :
  Inv X pins σ (upd H s.heap.objs.size (.lst ys)) { s with heap:=s.heap.push { cls:=.type "list",data:=.seq its.toArray },toks:=t' } :=
 I.laid (fun _ _ q=>Heap.get?_push_of_some _ q) (qc _) ⟨hz,its,0,hv,Heap.get?_push_size _ rfl⟩
theorem Inv.fresh (I:Inv X pins σ H s):H s.heap.objs.size=none:=I.hok.fresh (qc _)
theorem Inv.lstM (I:Inv X pins σ H s) (hH:H l=some (.lst xs)):xs.length≤sizeLine/\∃ (its:List Value) (n:Nat),Vals xs its/\xs.length=its.length/\s.heap.get? l=some { cls:=.type "list",data:=.seq its.toArray n }:=by
 obtain ⟨z,its,n,r,e⟩:=I.hok l _ hH;exact ⟨z,its,n,r,r.length,e⟩
end
section
variable {X:Cx}
def rAppend:V->List V->Hp->VK->Prop:=fun x vs H Q=>∃ l xs y,x=.ref l/\vs=[y]/\H l=some (.lst xs)/\xs.length<sizeLine/\Q .non (upd H l (.lst (xs++[y])))
theorem xAay:MtM X "list.append" rAppend:=by
 intro pins s σ H x vs v us Q I rx rv h;obtain ⟨l,xs,y,rfl,rfl,hH,hz,q⟩:=h;cases rx;obtain ⟨u,rfl,ru⟩:=rv.one;obtain ⟨z,its,n,r,hl,e⟩:=I.lstM hH;refine call_meets F.slot_list_append ⟨_,e,rfl⟩ F.entry_list_append (F.args_list_append_2 _ _) (PySem.list_append l its.toArray n u (by rw [zf];omega)) ⟨e,?_⟩;refine ⟨.non,_,I.lset (its':=its++[u]) hH e (by simp) (r.append (.cons ru .nil)) ?_,rfl,q⟩;rw [qg,ql];omega
def rClear:V->List V->Hp->VK->Prop:=fun x vs H Q=>∃ l xs,x=.ref l/\vs=[]/\H l=some (.lst xs)/\Q .non (upd H l (.lst []))
theorem xApx:MtM X "list.clear" rClear:=by
 intro pins s σ H x vs v us Q I rx rv h;obtain ⟨l,xs,rfl,rfl,hH,q⟩:=h;cases rx;have hus:=rv.zero;subst hus;obtain ⟨z,its,n,r,hl,e⟩:=I.lstM hH;refine call_meets F.slot_list_clear ⟨_,e,rfl⟩ F.entry_list_clear (F.args_list_clear_1 _) (AutoSeq1.list_clear_list_0 l its.toArray n (by rw [zf];omega)) ⟨e,?_⟩;exact ⟨.non,_,I.lset (its':=[]) (ys:=[]) hH e rfl .nil (q5 _),rfl,q⟩
def rCat:R2:=fun x y H Q=>∃ l b xs zs,x=.ref l/\y=.ref b/\H l=some (.lst xs)/\H b=some (.lst zs)/\xs.length+zs.length≤sizeLine/\∀ p,H p=none->Q (.ref p) (upd H p (.lst (xs++zs)))
theorem op_cat:OpR X (binaryOp .Add) rCat:=by
 intro pins s σ H x y v u Q I rx ry h;obtain ⟨l,b,xs,zs,rfl,rfl,hH,hB,hz,q⟩:=h;cases rx;cases ry;obtain ⟨z,its,n,r,hl,e⟩:=I.lstM hH;obtain ⟨z2,its2,n2,r2,hl2,e2⟩:=I.lstM hB;refine PySem.P.add_list e e2 ?_ (by rw [zf,zf];omega)
 have ea:its.toArray++its2.toArray=(its++its2).toArray:=by simp
 rw [ea];exact ⟨.ref _,_,I.lnew (t':=s.toks) (r.append r2) (by rw [qg];omega),rfl,q _ I.fresh⟩
end
section
variable {prog:Program} {w:World} {A:Around} {E:Value->Shared->Prop} {s:Shared}
end
section
variable {X:Cx}
end
section
variable {κ:Type} [DecidableEq κ]
def valV (kvs:List (κ×V)) (k:κ):Option V:=(kvs.find? fun kv=>decide (kv.1=k)).map (·.2)
def putK (kvs:List (κ×V)) (k:κ) (v:V):List (κ×V) :=
 if (kvs.any fun kv=>decide (kv.1=k))=true then kvs.map (fun kv=>if kv.1=k then (kv.1,v) else kv) else kvs++[(k,v)]
theorem xAem {p:κ×V} {r:List (κ×V)} {k:κ} (e:p.1=k):valV (p::r) k=some p.2:=by simp [valV,List.find?_cons,e]
theorem xAen {p:κ×V} {r:List (κ×V)} {k:κ} (e:¬ p.1=k):valV (p::r) k=valV r k:=by simp [valV,List.find?_cons,e]
theorem xAeo (k:κ):∀ kvs:List (κ×V),(kvs.any fun kv=>decide (kv.1=k))=(valV kvs k).isSome
 | []=>rfl
 | p::r=>by
  rw [yw]
  by_cases e:p.1=k
  ·simp only [xAem e,decide_eq_true e,Bool.true_or,Option.isSome_some]
  ·rw [xAen e,decide_eq_false e,Bool.false_or];exact xAeo k r
theorem xAdy (kvs:List (κ×V)) (k:κ) (v:V):(putK kvs k v).length≤kvs.length+1:=by
 unfold putK
 split
 ·rw [qf];omega
 ·rw [qg,qx,wf];omega
theorem xApy {kvs:List (κ×V)} {k:κ} (v:V) (h:valV kvs k=none):putK kvs k v=kvs++[(k,v)]:=by
 unfold putK;rw [xAeo,h];exact if_neg (by decide)
theorem RelO.isSome_eq {o:Option V} {u:Option Value} (r:RelO o u):o.isSome=u.isSome:=by
 cases o with
 | none=>cases u with
  | none=>rfl
  | some _=>exact (show False from r).elim
 | some _=>cases u with
  | none=>exact (show False from r).elim
  | some _=>rfl
theorem KV.val {kvs:List (κ×V)} {vs:List (κ×Value)} (r:KV kvs vs) (k:κ):RelO (valV kvs k) (valueAt vs k):=by
 unfold KV at r
 induction r with
 | nil=>exact True.intro
 | @cons p q ps qs h t ih =>
  obtain ⟨h1,h2⟩:=h
  by_cases e:p.1=k
  ·have e':q.1=k:=h1.symm.trans e
   have b:valueAt (q::qs) k=some q.2:=by simp [valueAt,List.find?_cons,e']
   rw [xAem e,b];exact h2
  ·have e':¬ q.1=k:=fun z=>e (h1.trans z)
   have b:valueAt (q::qs) k=valueAt qs k:=by simp [valueAt,List.find?_cons,e']
   rw [xAen e,b];exact ih
theorem KV.any {kvs:List (κ×V)} {vs:List (κ×Value)} (r:KV kvs vs) (k:κ):(kvs.any fun kv=>decide (kv.1=k))=vs.any fun kv=>decide (kv.1=k):=by
 unfold KV at r
 induction r with
 | nil=>rfl
 | cons h t ih=>rw [yw,yw,ih,h.1]
theorem KV.repl {kvs:List (κ×V)} {vs:List (κ×Value)} (r:KV kvs vs) (k:κ) {y:V} {u:Value} (ry:RelV y u) :
  KV (kvs.map fun kv=>if kv.1=k then (kv.1,y) else kv) (vs.map fun kv=>if kv.1=k then (kv.1,u) else kv):=by
 unfold KV at r ⊢
 induction r with
 | nil=>exact .nil
 | @cons p q ps qs h t ih =>
  rw [qz,qz];refine .cons ?_ ih;obtain ⟨h1,h2⟩:=h
  by_cases e:p.1=k
  ·rw [if_pos e,if_pos (h1.symm.trans e)];exact ⟨h1,ry⟩
  ·rw [if_neg e,if_neg (fun z=>e (h1.trans z))];exact ⟨h1,h2⟩
theorem KV.put {kvs:List (κ×V)} {vs:List (κ×Value)} (r:KV kvs vs) (k:κ) {y:V} {u:Value} (ry:RelV y u):KV (putK kvs k y) (stored vs k u):=by
 unfold putK stored;rw [r.any k]
 by_cases e:(vs.any fun kv=>decide (kv.1=k))=true
 ·rw [if_pos e,if_pos e];exact r.repl k ry
 ·rw [if_neg e,if_neg e];exact Paired.snoc r ⟨rfl,ry⟩
theorem KV.length {kvs:List (κ×V)} {vs:List (κ×Value)} (r:KV kvs vs):kvs.length=vs.length:=Paired.length r
end
theorem kV_is {P:Program} {w:World} {k:Key} {u:Value} (r:RelV (kV k) u):(mixKind P w).is k u=true:=by
 cases k with
 | inl i=>obtain ⟨t,e⟩:=(show ∃ t,u=Value.int i t from r);subst e;exact xAiy P w i t
 | inr x=>obtain ⟨t,e⟩:=(show ∃ t,u=Value.str x t from r);subst e;exact xAiz P w x t
theorem xAhp {P:Program} {w:World}:∀ {ks:List Key} {us:List Value},Vals (ks.map kV) us->ItemsAre (mixKind P w) ks us
 | [],_,r=>by rw [v7] at r;cases r;exact .nil
 | k::ks,_,r=>by
  rw [qz] at r
  cases r with
  | cons h t=>exact .cons (kV_is h) (xAhp t)
abbrev KT (H:Hp):List (List Key×V)->List (List Key×Addr×Value)->Prop:=Paired fun p q=>p.1=q.1/\H q.2.1=some (.tup (p.1.map kV))/\RelV p.2 q.2.2
theorem KT.val {H:Hp} {kvs:List (List Key×V)} {xs:List (List Key×Addr×Value)} (r:KT H kvs xs) (k:List Key):RelO (valV kvs k) ((atKey xs k).map (·.2)):=by
 induction r with
 | nil=>exact True.intro
 | @cons p q ps qs h t ih =>
  obtain ⟨h1,_,h2⟩:=h
  by_cases e:p.1=k
  ·have e':q.1=k:=h1.symm.trans e
   have b:atKey (q::qs) k=some q.2:=by simp [atKey,List.find?_cons,e']
   rw [xAem e,b];exact h2
  ·have e':¬ q.1=k:=fun z=>e (h1.trans z)
   have b:atKey (q::qs) k=atKey qs k:=by simp [atKey,List.find?_cons,e']
   rw [xAen e,b];exact ih
theorem KT.repl {H:Hp} {kvs:List (List Key×V)} {xs:List (List Key×Addr×Value)} (r:KT H kvs xs) (k:List Key) {y:V} {u:Value} (ry:RelV y u) :
  KT H (kvs.map fun kv=>if kv.1=k then (kv.1,y) else kv) (xs.map (putAt k u)):=by
 induction r with
 | nil=>exact .nil
 | @cons p q ps qs h t ih =>
  rw [qz,qz];refine .cons ?_ ih;obtain ⟨h1,h2,h3⟩:=h;unfold putAt
  by_cases e:p.1=k
  ·rw [if_pos e,if_pos (h1.symm.trans e)];exact ⟨h1,h2,ry⟩
  ·rw [if_neg e,if_neg (fun z=>e (h1.trans z))];exact ⟨h1,h2,h3⟩
theorem KT.put {H:Hp} {kvs:List (List Key×V)} {xs:List (List Key×Addr×Value)} (r:KT H kvs xs) (k:List Key) {b:Addr} {y:V} {u:Value} (hb:H b=some (.tup (k.map kV))) (ry:RelV y u) :
  KT H (putK kvs k y) (storedH xs k b u):=by
 have e:(kvs.any fun kv=>decide (kv.1=k))=(atKey xs k).isSome:=by
  rw [xAeo,(r.val k).isSome_eq,Option.isSome_map]
 unfold putK storedH;rw [e]
 by_cases q:(atKey xs k).isSome=true
 ·rw [if_pos q,if_pos q];exact r.repl k ry
 ·rw [if_neg q,if_neg q];exact Paired.snoc r ⟨rfl,hb,ry⟩
theorem KT.keeps {H H':Hp} {kvs:List (List Key×V)} {xs:List (List Key×Addr×Value)} (r:KT H kvs xs) (ht:∀ b ys,H b=some (.tup ys)->H' b=some (.tup ys)):KT H' kvs xs :=
 Paired.mapP r fun _ _ z=>⟨z.1,ht _ _ z.2.1,z.2.2⟩
section
variable {P:Program} {w:World} {H:Hp} {h:Heap} {a:Addr}
theorem rd_of {u:HO} (ok:HOk P w H h) (e:Rd H a u):ObjOk P w H h a u:=e.ok ok
theorem dk_rd {kvs:List (Key×V)} (ok:HOk P w H h) (e:Rd H a (.dK kvs)):kvs.length≤sizeLine/\(a==sysModules)=false/\∃ vs,KV kvs vs/\h.DictOf (mixKind P w) a vs :=
 show ObjOk P w H h a (.dK kvs) from rd_of ok e
theorem dk_of {kvs:List (Key×V)} (ok:HOk P w H h) (e:H a=some (.dK kvs)):kvs.length≤sizeLine/\(a==sysModules)=false/\∃ vs,KV kvs vs/\h.DictOf (mixKind P w) a vs:=dk_rd ok (.inl e)
theorem xAjg {ks:List Key} (ok:HOk P w H h) (e:H a=some (.tup (ks.map kV))):(tupleKind (mixKind P w)).is h ks a:=by
 obtain ⟨_,its,r,o,h1,h2,n,h3⟩:=(show ObjOk P w H h a (.tup (ks.map kV)) from ok a _ e);exact ⟨o,its.toArray,n,h1,h2,h3,by simpa using xAhp r⟩
theorem dt_rd {kvs:List (List Key×V)} (ok:HOk P w H h) (e:Rd H a (.dT kvs)):kvs.length≤sizeLine/\(a==sysModules)=false ∧
  ∃ xs,KT H kvs xs/\h.DictOfH (tupleKind (mixKind P w)) a xs:=by
 obtain ⟨z,y,xs,r,o,es,ep,h1,h2,h3,h4,h5⟩:=(show ObjOk P w H h a (.dT kvs) from rd_of ok e);refine ⟨z,y,xs,r,o,es,ep,h1,h2,h3,h4,fun x hx=>?_,h5⟩
 have all:∀ {l:List (List Key×V)} {m:List (List Key×Addr×Value)},KT H l m->∀ x∈m,(tupleKind (mixKind P w)).is h x.1 x.2.1:=by
  intro l m q
  induction q with
  | nil=>intro x hx;exact nomatch hx
  | @cons p q ps qs hq t ih =>
   intro x hx;rcases qy.mp hx with e | hx
   ·subst e
    exact xAjg ok (by rw [← hq.1];exact hq.2.1)
   ·exact ih x hx
 exact all r x hx
theorem dt_of {kvs:List (List Key×V)} (ok:HOk P w H h) (e:H a=some (.dT kvs)):kvs.length≤sizeLine/\(a==sysModules)=false ∧
  ∃ xs,KT H kvs xs/\h.DictOfH (tupleKind (mixKind P w)) a xs:=dt_rd ok (.inl e)
end
def DGet (H:Hp) (a:Addr) (y:V) (r:Option V):Prop :=
 (∃ kvs k,Rd H a (.dK kvs)/\y=kV k/\r=valV kvs k)\/∃ kvs k b,Rd H a (.dT kvs)/\y=.ref b/\H b=some (.tup (k.map kV))/\r=valV kvs k
def DPut (H:Hp) (a:Addr) (y v:V) (H':Hp):Prop :=
 (∃ kvs k,H a=some (.dK kvs)/\y=kV k/\kvs.length<sizeLine/\H'=upd H a (.dK (putK kvs k v))) ∨
 ∃ kvs k b,H a=some (.dT kvs)/\y=.ref b/\H b=some (.tup (k.map kV))/\kvs.length<sizeLine/\H'=upd H a (.dT (putK kvs k v))
section
variable {X:Cx} {pins:List (Addr×Obj)} {σ:St} {H:Hp} {s:Shared} {a:Addr} {y v:V} {u r:Value} {o:Option V} {A:Around} {E:Value->Shared->Prop}
theorem Inv.big (I:Inv X pins σ H s):sysModules<s.heap.objs.size:=by
 have h:mainGlobals<s.heap.objs.size:=(I.mod.glob.keeps I.bk).lt;exact vq (by decide) h
theorem xAnf {Q:Value->Shared->Prop} (hu:A.units+1<cLine) (I:Inv X pins σ H s) (g:DGet H a y (some v)) (ry:RelV y u) (h:∀ w' s',Inv X pins σ H s'->RelV v w'->Q w' s') :
  wpAny (model X.prog X.w) A (getItem (.ref a) u) Q E s:=by
 rcases g with ⟨kvs,k,e,ey,l⟩ | ⟨kvs,k,b,e,ey,eb,l⟩
 ·subst ey
  obtain ⟨z,hd,vs,rel,dd⟩:=dk_rd I.hok e;obtain ⟨w',hw,rw'⟩:=RelO.some_of (v:=v) (o:=valueAt vs k) (by rw [l];exact rel.val k);exact wpAny_getItem_of (kV_is ry) dd.mapOf hw (h w' _ (I.tok _) rw')
 ·subst ey
  cases (show u=Value.ref b from ry);obtain ⟨z,hd,xs,rel,dd⟩:=dt_rd I.hok e;obtain ⟨w',hw,rw'⟩:=RelO.some_of (v:=v) (o:=(atKey xs k).map (·.2)) (by rw [l];exact rel.val k);obtain ⟨p,hp,hp2⟩:=zt.mp hw;refine wpAny_getItem_heap (tupleKind_room_in1 hu) (xAjg I.hok eb) dd hp ?_;rw [hp2];exact h w' _ (I.tok _) rw'
theorem xAfr {h':Heap} {t':Nat} {ob:HO} (I:Inv X pins σ H s) (mu:Mut (H a)) (hs:Heap.SameBut a s.heap h') (he:∃ q,h'.get? a=some q) (new:ObjOk X.prog X.w (upd H a ob) h' a ob) :
  Inv X pins σ (upd H a ob) { s with heap:=h',toks:=t' } :=
 I.write (x:=a) (e:=a) mu (.inl rfl) (fun b q hb z=>(hs.2 b hb).trans z) he new
theorem dk_new {P:Program} {w:World} {H':Hp} {h':Heap} {kvs:List (Key×V)} {vs:List (Key×Value)} (z:kvs.length≤sizeLine) (hd:(a==sysModules)=false) (rel:KV kvs vs) (dd:h'.DictOf (mixKind P w) a vs) :
  ObjOk P w H' h' a (.dK kvs):=⟨z,hd,vs,rel,dd⟩
theorem xAng {H':Hp} {Q:Unit->Shared->Prop} (hu:A.units+1<cLine) (I:Inv X pins σ H s) (g:DPut H a y v H') (ry:RelV y u) (rv:RelV v r) (h:∀ s',Inv X pins σ H' s'->Q () s') :
  wpAny (model X.prog X.w) A (setItem (.ref a) u r) Q E s:=by
 rcases g with ⟨kvs,k,e,ey,l,eH⟩ | ⟨kvs,k,b,e,ey,eb,l,eH⟩
 ·subst ey eH
  obtain ⟨z,hd,vs,rel,dd⟩:=dk_of I.hok e
  have hz:vs.length≤sizeLine:=by rw [← rel.length];exact z
  have hl:(putK kvs k v).length≤sizeLine:=by have:=xAdy kvs k v;omega
  refine wpAny_setItem_pairs (hsz:=hz) (kV_is ry) dd fun h' dd' hs=>h _ ?_
  have he:∃ q,h'.get? a=some q:=let ⟨q,_,_,hq,_⟩:=dd';⟨q,hq⟩
  exact xAfr I (by rw [e];exact True.intro) hs he (dk_new hl hd (rel.put k rv) dd')
 ·subst ey eH
  cases (show u=Value.ref b from ry);obtain ⟨z,hd,xs,rel,dd⟩:=dt_of I.hok e
  have hz:xs.length≤sizeLine:=by rw [← Paired.length rel];exact z
  have hl:(putK kvs k v).length≤sizeLine:=by have:=xAdy kvs k v;omega
  refine wpAny_setItem_heap (hsz:=hz) (tupleKind_room_in1 hu) (xAjg I.hok eb) dd fun h' dd' hs=>h _ ?_;obtain ⟨q,es,ep,hq,h2,h3,h4,_,h5⟩:=dd';refine xAfr I (by rw [e];exact True.intro) hs ⟨q,hq⟩ ⟨hl,hd,_,(rel.put k eb rv).keeps fun c ys ec=>?_,q,es,ep,hq,h2,h3,h4,h5⟩;rw [xAae (ne_of ec e (fun z=>nomatch z))];exact ec
end
section
variable {X:Cx} {pins:List (Addr×Obj)} {σ:St} {H:Hp} {s:Shared} {a:Addr} {kvs:List (Key×V)} {k:Key} {u:Value} {A:Around} {E:Value->Shared->Prop}
end
def NoSl (i:Expr):Prop:=∀ ov iv,subscripted i false ov iv=operate [ov,iv] (getItem ov iv)
theorem xApa {prog:Program} {w:World} {A:Around} {E:Value->Shared->Prop} {s:Shared} {env:Env} {value slice:Expr} {pos:Pos} {T id:String} {Q:Value->Shared->Prop}
  (hl:typeLookup (.type T) "__getitem__"=pure (some (.builtin id))) (hs:NoSl slice)
  (h:wpAny (model prog w) A (eval value env) (fun o s₁=>wpAny (model prog w) A (eval slice env) (fun i s₂=>s₂.TypeIs o T/\wpAny (model prog w) A (getItem o i) Q E s₂) E s₁) E s) :
  wpAny (model prog w) A (eval (.Subscript value slice pos) env) Q E s:=by
 refine Subscript_ (wpAny_mono h (fun o s₁ h₁=>wpAny_mono h₁ (fun i s₂ h₂=>?_) fun _ _ x=>x) fun _ _ x=>x);obtain ⟨hT,h₂⟩:=h₂;unfold subscriptTail;refine wpAny_bind ?_;rw [getitemInPython_of_ne hT.not_modules];refine wpAny_bind (wpAny_specialOf hT hl ?_)
 have fin:wpAny (model prog w) A (subscripted slice false o i) (fun r s₃=>wpAny (model prog w) A (letTemporaryGo value o r >>= fun _=>pure r) Q E s₃) E s₂:=by
  rw [hs o i];exact wpAny_operating (wpAny_mono h₂ (fun r s₃ h₃=>wpAny_bind (wpAny_letTemporaryGo (wpAny_pure h₃))) fun _ _ x=>x)
 first
  | exact wpAny_pure (wpAny_bind fin)
  | exact wpAny_bind (wpAny_pure (wpAny_bind fin))
  | exact wpAny_bind fin
theorem xAjh {X:Cx} {pins:List (Addr×Obj)} {σ:St} {H:Hp} {s:Shared} {a:Addr} {y:V} {o:Option V} (I:Inv X pins σ H s) (g:DGet H a y o):s.TypeIs (.ref a) "dict":=by
 rcases g with ⟨kvs,k,e,_,_⟩ | ⟨kvs,k,b,e,_,_,_⟩
 ·obtain ⟨_,_,vs,_,dd⟩:=dk_rd I.hok e
  exact dd.typeIs
 ·obtain ⟨_,_,xs,_,dd⟩:=dt_rd I.hok e
  exact dd.typeIs
def tDGet (td ty:TE):TE:=fun σ H Q=>td σ H fun x H1=>ty σ H1 fun y H2=>∃ a v,x=.ref a/\DGet H2 a y (some v)/\Q v H2
def sDPut (td ty tv:TE):TS:=fun D σ H=>tv σ H fun v H1=>td σ H1 fun x H2=>ty σ H2 fun y H3=>∃ a H4,x=.ref a/\DPut H3 a y v H4/\D.nx σ H4
section
variable {X:Cx} {o i e value:Expr} {pos pos' tpos:Pos} {td ty tv:TE}
theorem xAbr (hu:X.A.units+1<cLine) (ho:PE X o td) (hi:PE X i ty) (hs:NoSl i):PE X (.Subscript o i pos) (tDGet td ty):=by
 intro pins s σ H Q I h;refine xApa PySem.F.slot_dict_getitem.lookup hs (thn (ho pins s σ H _ I h) fun u s1 ⟨x,H1,I1,rx,q1⟩=>thn (hi pins s1 σ H1 _ I1 q1) fun iv s2 ⟨y,H2,I2,ry,a,v,ex,g,q2⟩=>?_);subst ex;obtain rfl:u=Value.ref a:=rx;exact ⟨xAjh I2 g,xAnf hu I2 g ry fun w' s3 I3 rw'=>⟨v,H2,I3,rw',q2⟩⟩
theorem xAsg (hu:X.A.units+1<cLine) (ho:PE X o td) (hi:PE X i ty) (hv:PE X value tv) (hs:swapsWith value (some (.Subscript o i pos')) pos.line X.env=pure false) :
  PS X (.Assign [.Subscript o i pos'] value pos) (sDPut td ty tv):=by
 intro pins s σ H D I h;refine wpAny_Assign_Subscript (thn (hv pins s σ H _ I h) fun r s1 ⟨v,H1,I1,rv,q1⟩=>thn (ho pins s1 σ H1 _ I1 q1) fun u s2 ⟨x,H2,I2,rx,q2⟩=>thn (hi pins s2 σ H2 _ I2 q2) fun iv s3 ⟨y,H3,I3,ry,a,H4,ex,g,q3⟩=>?_) hs;subst ex;obtain rfl:u=Value.ref a:=rx;exact xAng hu I3 g ry rv fun s4 I4=>⟨σ,H4,I4,q3⟩
end
theorem xApz {P:Program} {w:World} {H:Hp} (h:Heap) (hb:sysModules<h.objs.size):ObjOk P w H (h.push { cls:=.type "dict",data:=.dict #[] }) h.objs.size (.dK []) :=
 ⟨q5 _,beq_eq_false_iff_ne.mpr (Ne.symm (qi hb)),[],.nil,Heap.DictOf.new h⟩
def tDNewK:TE:=fun _ H Q=>∀ p,H p=none->Q (.ref p) (upd H p (.dK []))
section
variable {X:Cx} {pos:Pos}
theorem xAqa:PE X (.Dict [] [] pos) tDNewK:=fun pins s σ H Q I h =>
 wpAny_Dict_empty ⟨.ref s.heap.objs.size,_,I.laid (a:=s.heap.objs.size) (o:=.dK []) (t':=s.toks) (fun _ _ q=>Heap.get?_push_of_some _ q) (qc _) (xApz s.heap I.big),rfl,h _ (I.hok.fresh (qc _))⟩
end
section
variable {X:Cx} {pins:List (Addr×Obj)} {σ:St} {H:Hp} {s:Shared} {a:Addr} {y d:V} {u r:Value} {o:Option V} {A:Around} {E:Value->Shared->Prop}
end
section
variable {X:Cx} {o e f:Expr} {apos cpos:Pos} {td ty tx:TE}
end
section
variable {X:Cx} {pins:List (Addr×Obj)} {σ:St} {H:Hp} {s:Shared} {a:Addr} {kvs:List (Key×V)} {A:Around} {E:Value->Shared->Prop}
end
section
variable {X:Cx} {pins:List (Addr×Obj)} {σ:St} {H:Hp} {s:Shared} {a:Addr} {y:V} {u:Value} {A:Around} {E:Value->Shared->Prop}
end
end L2
namespace Att
open PySem PySem.W PySem.Calls PyProof.Rows
theorem xAdx {P:Params} {h:Heap}:∀ (ns:List Int) (vs:List Value),WellAll P h vs (ns.map WData.int)->IntsAre vs ns:=by
 intro ns
 induction ns with
 | nil =>
  intro vs w;rw [v7] at w;cases w;exact .nil
 | cons n ns ih =>
  intro vs w;rw [qz] at w
  cases w with
  | cons a b =>
   cases a;exact .cons _ _ (ih _ b)
theorem xAnh {l:OpenLaw} {n:Nat} (hn:l.most=some n) {P:Params} {h:Heap} {args:List WData} {vals:List Value}
  (hpre:l.row.toRowW.claim.pre args=true) (hwl:WellAll P h vals args) :
  ∃ a vs ns,vals=[Value.ref a]/\args=[WData.list (ns.map WData.int)]/\h.get? a=some { cls:=.type "list",data:=.seq vs.toArray }/\IntsAre vs ns/\ns.length≤n:=by
 have hsh:WShape.hasAll [] args [.list .int]=true:=(pre_splitW hpre).1;have hc:l.pre.holds [] { args:=args }=true:=(pre_splitW hpre).2;obtain ⟨d,r,rfl,h1,h2⟩:=hasAllW_cons hsh;obtain rfl:=hasAllW_nil h2;obtain ⟨xs,rfl,h3⟩:=hasW_list h1;obtain ⟨ns,rfl⟩:=items_int h3
 have hlen:ns.length≤n:=by
  unfold OpenLaw.pre at hc
  have h4:(WTm.not (.lt (.lit (.int (n:Int))) (.len (.arg 0)))).holds [] { args:=[.list (ns.map .int)] }=true:=by
   have h4:=(holds_andW hc).1;rw [hn] at h4;exact h4
  have h5:=condW_of h4 (w_not (w_lt w_lit (w_len_list (w_arg rfl))));rw [qf] at h5;refine Nat.le_of_not_lt fun q=>?_
  have q':(n:Int)<((ns.length:Nat):Int):=by omega
  first
   | (rw [decide_eq_true q'] at h5;exact absurd h5 (by decide))
   | (simp at h5;omega)
 cases hwl with
 | cons w1 w2 =>
  cases w2
  cases w1 with
  | list ho hall=>exact ⟨_,_,ns,rfl,rfl,ho,xAdx ns _ hall,hlen⟩
theorem xAni (l:OpenLaw) (args:List WData):l.row.toRowW.claim.post args (.bool true) args=true :=
 postW_of (r:=l.row.toRowW) (X:=(true==true))
  (show WShape.has [] (.bool true) .bool=true by first | rfl | decide | simp [WShape.has,WShape.arms,WShape.armsAll])
  (show (WTm.eq .res (.lit (.bool true))).value [] { args:=args,res:=some (.bool true),after:=args }=some (.bool (true==true)) from w_eq_bool (w_res rfl) w_lit) rfl
theorem attach_call {l:OpenLaw} {n:Nat} {q:Program} {loose:List Str} {XP:(Str->Option Value)->Heap->Prop} {YP:World->Heap->Prop} {d:DefRec}
  (hn:l.most=some n) (hdf:d.params.defaults=[])
  (call:∀ (w:World) (s₀ s₁:Shared) (mg mb:Str->Option Value) (fa:Addr) (o:Obj) (pm cd doc:Value) (a:Addr) (vs:List Value) (ns:List Int),
   Ground q loose [] XP w s₀ mg mb s₁.heap->YP w s₁.heap →
   s₁.heap.get? fa=some o->o.data=.func (docDef d.name d.params d.body d.scope pm cd doc)->s₁.heap.CodeRec cd d.name->mg d.name=some (.ref fa) →
   s₁.heap.get? a=some { cls:=.type "list",data:=.seq vs.toArray }->IntsAre vs ns->ns.length≤n->s₁.gens=#[] →
   codeAny (model l.prog w) callerA (.call (.ref fa) ⟨[.ref a],[]⟩) (fun r s'=>r=.ok (.ret (.bool true))/\OldK s₁.heap s'.heap/\s'.os=s₁.os/\AllBare s'.gens) s₁) :
  WalkO q loose XP YP l.row.toRowW d [] (fun f vs=>PySem.call f vs):=by
 intro w s₀ s₁ mg mb G Y fa o pm cd doc dV kV ho hd hcd hD hmg hg args vals as hpre hlay hrd hwl hlo;obtain rfl:dV=.none:=Dflts.none hD hdf;obtain rfl:kV=.none:=Dflts.noKw hD;obtain ⟨a,vs,ns,rfl,rfl,hobj,hints,hlen⟩:=xAnh hn hpre hwl;refine enter_call (codeAny_mono (call w s₀ s₁ mg mb fa o pm cd doc a vs ns G Y ho (fd_plain hd) hcd hmg hobj hints hlen hg) fun r s' hq=>?_);obtain ⟨rfl,h2,h3,h4⟩:=hq;exact ⟨.inl ⟨.bool true,.bool true,[],rfl,fun _=>rfl,.bool true,xAni l _,fun _=>⟨List.Pairwise.nil,fun _ hm=>(nomatch hm)⟩⟩,h2,h3,h4⟩
section
variable {prog:Program} {w:World} {A:Around} {E:Value->Shared->Prop} {s:Shared} {K:Frag}
end
end Att
namespace L2
open PySem PySem.Spec PyProof.Rows
theorem xAhq:∀ {vs:List Value} {ns:List Int},IntsAre vs ns->Vals (ns.map V.int) vs
 | _,_,.nil=>.nil
 | _,_,.cons n t h=>.cons ⟨t,rfl⟩ (xAhq h)
def defArgs (s:Stmt):Arguments:=match s with
 | .FunctionDef _ a _ _ _ _ _ _ _ _=>a
 | _=>{ posonlyargs:=[],args:=[],vararg:=none,kwonlyargs:=[],kw_defaults:=[],kwarg:=none,defaults:=[] }
def defBody (s:Stmt):List Stmt:=match s with
 | .FunctionDef _ _ b _ _ _ _ _ _ _=>b
 | _=>[]
def defScope (s:Stmt):Scope:=match s with
 | .FunctionDef _ _ _ _ _ _ sc _ _ _=>sc
 | _=>{ kind:=.function,names:=[],isGenerator:=false,isCoroutine:=false }
abbrev CX0:CXT:=fun _ _ _ _ _ _=>False
abbrev E0:XK:=fun _ _ _=>False
theorem pass0 {X:Cx}:Passes CX0 X E0:=fun _ _ _ _ _ _ _ h=>h.elim
structure Fun (K:PySem.W.Frag) (x qual:Str) (st:Stmt) (f:Addr) (fd:FuncData):Prop where
 ex:∃ (oc:Value) (od:Option Addr) (kV doc pm:Value) (an:Option Addr) (cdv ct:Value) (osl:Array (Option Value)),
  fd=PySem.W.fnOf x qual (defArgs st) (defBody st) (defScope st) .none kV doc pm an cdv ct/\K.lookup f=some ⟨oc,od,.func fd,osl⟩/\PySem.W.codeIn K cdv qual=true
 kp:PySem.W.keepIn K (.ref f)=true
section
variable {P:Program} {w:World} {K:PySem.W.Frag} {mg:Str->Option Value} {base:Heap}
theorem Fun.ok {x qual:Str} {st:Stmt} {f:Addr} {fd:FuncData} {N ps:List Str} {k:Nat} {sp:Sp} (F:Fun K x qual st f fd) (S:FnScope N ps (defScope st)) (len:∀ vs H Q E,sp vs H Q E->vs.length=ps.length)
  (hbody:∀ (cdv:Value) (A:Around) (outer:List Env) (s:Shared) (H:Hp) (vs:List V) (Q:VK) (E:XK),Room k (A.deeper (envOfC qual (defScope st) s.heap.objs.size f cdv))->sp vs H Q E →
   ∃ t,PSs (cxOf CX0 P w K mg base N qual (defScope st) f cdv A outer s H E).nox (defBody st) t/\t { nx:=fun _ H'=>Q .non H',rt:=Q } (start N vs) H):FnOk P w K mg base CX0 (k+1) f fd ps sp:=by
 obtain ⟨oc,od,kV,doc,pm,an,cdv,ct,osl,rfl,lk,hcd⟩:=F.ex;refine fn_of lk hcd S len fun A outer s H vs Q E hr hsp=>?_;obtain ⟨t,h,q⟩:=hbody cdv A outer s H vs Q E hr hsp;exact ⟨t,h.nox,q⟩
theorem Fun.binds {x qual:Str} {st:Stmt} {f:Addr} {fd:FuncData} {ps:List Str} (F:Fun K x qual st f fd)
  (h:∀ (kV doc pm:Value) (an:Option Addr) (cdv ct:Value) (us:List Value),us.length=ps.length->bindArgs (PySem.W.fnOf x qual (defArgs st) (defBody st) (defScope st) .none kV doc pm an cdv ct) ⟨us,[]⟩=pure (ps.zip us)):Binds K fd ps []:=by
 obtain ⟨oc,od,kV,doc,pm,an,cdv,ct,osl,rfl,lk,hcd⟩:=F.ex;exact .all (h kV doc pm an cdv ct)
theorem xAan {x qual:Str} {st:Stmt} {f:Addr} {oc:Value} {od an:Option Addr} {osl:Array (Option Value)} {kV doc pm cdv ct:Value} (l:K.lookup f=some ⟨oc,od,.func (PySem.W.fnOf x qual (defArgs st) (defBody st) (defScope st) .none kV doc pm an cdv ct),osl⟩)
  (c:PySem.W.codeIn K cdv qual=true) (k:PySem.W.keepIn K (.ref f)=true):Fun K x qual st f (PySem.W.fnOf x qual (defArgs st) (defBody st) (defScope st) .none kV doc pm an cdv ct):=⟨⟨oc,od,kV,doc,pm,an,cdv,ct,osl,rfl,l,c⟩,k⟩
end
theorem hu_of {A:Around} {k:Nat} (hr:Room k A):A.units+1<cLine:=v8 (Nat.add_le_add_left (by decide:1≤64) _) hr.units
theorem xAba {n:Nat} (h:n≤1000):n<sizeLine:=v8 h (by decide)
section
variable {X:Cx}
theorem pv (i:Nat) {x:Str} {pos:Pos} (hN:X.N[i]?=some x:=by rfl) (hv:Vis X.env.scope x:=by first | exact Or.inl rfl | exact Or.inr (Or.inl rfl) | exact Or.inr (Or.inr rfl)) (hd:(x==("__debug__":Str))=false:=by decide)
  (hcd:(x==("__classdict__":Str))=false:=by decide):PE X (.Name x pos) (tVar i):=pe_var hN hv hd hcd
end
theorem iteT {A B:Prop} (h:A):if true=true then A else B:=by
 rw [if_pos rfl];exact h
def Same (H H':Hp):Prop:=∀ b o,H b=some o->H' b=some o
theorem Same.refl (H:Hp):Same H H:=fun _ _ h=>h
theorem Same.trans {H H1 H2:Hp} (a:Same H H1) (b:Same H1 H2):Same H H2:=fun c o h=>b c o (a c o h)
theorem Same.free {H H':Hp} (e:Same H H') {l:Addr} (h:H' l=Option.none):H l=Option.none:=by
 cases q:H l with
 | none=>rfl
 | some o =>
  rw [e l o q] at h;cases h
section
variable {κ:Type} [DecidableEq κ]
theorem xAsh {kvs:List (κ×V)} {k:κ} {v:V} (h:valV kvs k=some v):k∈kvs.map (·.1):=by
 have q:(kvs.any fun kv=>decide (kv.1=k))=true:=by
  rw [xAeo,h]
  all_goals rfl
 obtain ⟨p,hp,e⟩:=wg.mp q;exact qd.mpr ⟨p,hp,of_decide_eq_true e⟩
end
section
variable {prog:Program} {w:World} {A:Around} {R:Result->Shared->Prop} {s:Shared}
theorem xAnj {elt tg iter:Expr} {ifs:List Expr} {sc:Scope} {pos:Pos} {it acc:Value} {ce:Env} (J:Nat->Shared->Prop)
  (turn:∀ n s,J n s->wpAny (model prog w) A (pyNext it) (fun r s1=>match r with
   | none=>R (.ok .next) s1
   | some v=>wpAny (model prog w) A (letOwnedTupleGo tg it v) (fun _ s2=>wpAny (model prog w) A (assign tg ce v) (fun _ s3 =>
     wpAny (model prog w) A (forIn ifs true fun c r=>if r=true then do let ok ← isTrue c ce (eval c ce);pure (ForInStep.yield ok) else pure (ForInStep.yield r)) (fun ok s4 =>
      if ok=true then
       wpAny (model prog w) A (eval elt ce) (fun x s5=>wpAny (model prog w) A (call (.builtin "list.append") [acc,x]) (fun _ s6=>∃ m,m<n/\J m s6) (fun _ _=>False) s5) (fun _ _=>False) s4
      else ∃ m,m<n/\J m s4) (fun _ _=>False) s3) (fun _ _=>False) s2) (fun _ _=>False) s1) (fun _ _=>False) s)
  (n:Nat) (h:J n s):codeAny (model prog w) A (.compLoop (.ListComp elt [⟨tg,iter,ifs,0⟩] sc pos) 0 it acc ce) R s:=by
 refine codeAny_loop rfl J (fun n s hJ=>?_) n h;show wpAny _ A ((compTurn (.ListComp elt [⟨tg,iter,ifs,0⟩] sc pos) 0 it acc ce).onRaise (fun x=>do noteFrame x ce;theTreesLotGoes x)) _ _ s;refine wpAny_noted ?_;rw [compTurn_list];refine wpAny_bind (wpAny_standAt (wpAny_bind (wpAny_mono (turn n s hJ) (fun r s1 h1=>?_) fun _ _ f=>f.elim)))
 cases r with
 | none=>exact wpAny_pure h1
 | some v =>
  refine wpAny_bind (wpAny_mono h1 (fun _ s2 h2=>?_) fun _ _ f=>f.elim);refine wpAny_bind (wpAny_mono h2 (fun _ s3 h3=>?_) fun _ _ f=>f.elim);refine wpAny_bind (wpAny_mono h3 (fun ok s4 h4=>?_) fun _ _ f=>f.elim)
  cases ok with
  | false=>exact wpAny_pure ⟨rfl,h4⟩
  | true =>
   refine wpAny_bind (wpAny_bind (wpAny_mono h4 (fun x s5 h5=>?_) fun _ _ f=>f.elim));exact wpAny_bind (wpAny_mono h5 (fun _ s6 h6=>wpAny_pure (wpAny_pure ⟨rfl,h6⟩)) fun _ _ f=>f.elim)
end
def compCx (X:Cx) (N:List Str) (sc:Scope) (cl:List (Str×Addr)) (s:Shared) (H:Hp) (fp:List Addr):Cx where
 prog:=X.prog
 w:=X.w
 K:=X.K
 mg:=X.mg
 base:=X.base
 A:=X.A
 N:=N
 s₀:=s
 H₀:=H
 env:=compEnvC sc cl (s.heap.objs.size+1) X.env
 outer:=X.stack
 stack:=X.stack
 ex:=fp
 fn:=fun _=>false
 calm:=X.calm
 pn:=[]
 xe:=fun _ _=>False
def compSt (own:List Str) (fr:List (Str×Nat)) (σ:St):St:=own.map (fun _=>none)++fr.map fun p=>(σ[p.2]?).join
def KeepS (σ σ':St):Prop:=σ.length=σ'.length/\∀ (i:Nat) v,σ[i]?=some (some v)->σ'[i]?=some (some v)
def Fresh (g:TG) (σ:St):Prop:=∀ x H (Q:St->Hp->Prop),g x σ H Q->g x σ H fun σ' H'=>KeepS σ σ'/\Q σ' H'
theorem KeepS.set {σ:St} {i:Nat} (h:σ[i]?=some none) (v:V):KeepS σ (σ.set i (some v)):=by
 refine ⟨by simp,fun j u e=>?_⟩
 by_cases hj:i=j
 ·subst hj;rw [h] at e;cases e
 ·rw [v5 hj];exact e
theorem xAbd {σ:St} {i:Nat} (h:σ[i]?=some none):Fresh (gName i) σ:=fun x H Q q=>⟨KeepS.set h x,q⟩
theorem xAcf {K:PySem.W.Frag} {σ:St} {i j n:Nat} (hi:σ[i]?=some none) (hj:σ[j]?=some none) (hij:i≠j):Fresh (gTup K n (gCons (gName i) (gCons (gName j) gNil))) σ:=by
 intro x H Q q;obtain ⟨a,xs,e1,e2,e3,v,r,e4,w,r',e5,e6,q⟩:=q;refine ⟨a,xs,e1,e2,e3,v,r,e4,w,r',e5,e6,?_,q⟩;have h1:=KeepS.set hi v;have h2:=KeepS.set (σ:=σ.set i (some v)) (i:=j) (by rw [v5 hij];exact hj) w;exact ⟨h1.1.trans h2.1,fun k u e=>h2.2 k u (h1.2 k u e)⟩
def PTs (X:Cx) (ifs:List Expr) (t:TT):Prop :=
 ∀ (pins:List (Addr×Obj)) (s:Shared) (σ:St) (H:Hp) (Q:Bool->Hp->Prop),Inv X pins σ H s->t σ H Q →
  wpAny (model X.prog X.w) X.A (forIn ifs true fun c r=>if r=true then do let ok ← isTrue c X.env (eval c X.env);pure (ForInStep.yield ok) else pure (ForInStep.yield r)) (TP X pins σ Q) X.xe s
theorem xAcl {X:Cx}:PTs X [] (fun _ H Q=>Q true H):=fun _ _ _ H _ I h=>wpAny_tests_nil ⟨H,I,h⟩
theorem xAkj {X:Cx} {c:Expr} {t:TT} (h:PT X c t):PTs X [c] t:=fun pins s σ H Q I q=>wpAny_tests_one (h pins s σ H Q I q)
def LCb (own:List Str) (fr:List (Str×Nat)) (g:TG) (tt:TT) (te:TE) (σ:St) (Q:VK) (J:It) (H1:Hp):Prop:=∃ W:Nat->Nat->List V->Hp->Prop,(∃ m,W 0 m [] H1)/\∀ i m ys H,W i m ys H →
 (J.stop i H/\∀ p,H p=none->Q (.ref p) (upd H p (.lst ys)))\/(J.go i H/\ys.length<sizeLine/\∀ x H',J.yld i H x H'->g x (compSt own fr σ) H' fun σ2 H2=>tt σ2 H2 fun b H3 =>
  if b=true then te σ2 H3 fun y H4=>∃ m',m'<m/\W (i+1) m' (ys++[y]) H4 else ∃ m',m'<m/\W (i+1) m' ys H3)
def tLC (own:List Str) (fr:List (Str×Nat)) (wi:TI) (g:TG) (tt:TT) (te:TE):TE:=fun σ H Q=>wi σ H fun J H1=>LCb own fr g tt te σ Q J H1
abbrev accObj (us:List Value):Obj:={ cls:=.type "list",data:=.seq us.toArray us.length }
theorem xAqb (us:List Value) (u:Value):({ cls:=.type "list",data:=.seq (us.toArray.push u) (us.length+1) }:Obj)=accObj (us++[u]):=by
 unfold accObj;rw [qg,ql,List.push_toArray]
structure Caps (X:Cx) (sc:Scope) (cl:List (Str×Addr)) (fr:List (Str×Nat)):Prop where
 clos:closureFor sc X.env=pure cl
 sub:∀ x c,cl.lookup x=some c->X.env.cells.lookup x=some c
 has:∀ x,((relabel sc X.env).names.lookup x=some .cell\/(relabel sc X.env).names.lookup x=some .free)->∃ c,cl.lookup x=some c
 cap:∀ p∈fr,X.N[p.2]?=some p.1/\X.env.kindOf p.1≠some .local/\Vis X.env.scope p.1/\((relabel sc X.env).names.lookup p.1=some .cell\/(relabel sc X.env).names.lookup p.1=some .free)
structure CompSc (sc:Scope):Prop where
 kind:sc.kind=.function
 cell:∀ y∈sc.names,y.2≠.cell
 nms:∀ y∈sc.names,y.2=.local->sc.names.lookup y.1=some .local
section
variable {X:Cx}
theorem Inv.stkNot {pins:List (Addr×Obj)} {σ:St} {H:Hp} {s:Shared} (I:Inv X pins σ H s) {b:Addr} (h1:b≠X.env.locals) (h2:b∉X.fs):b∉frs X.stack:=fun z=>by
 rcases qy.mp (I.stkSub b z) with e | e
 ·exact h1 e
 ·exact h2 e
theorem xAkk {own:List Str} {fr:List (Str×Nat)} {σ:St} {N:List Str} (hN:N=own++fr.map (·.1)) {i:Nat} {x:Str} {v:V} (h1:N[i]?=some x) (h2:(compSt own fr σ)[i]?=some (some v)) :
  ∃ p∈fr,p.1=x/\σ[p.2]?=some (some v):=by
 unfold compSt at h2;subst hN
 by_cases hi:i<own.length
 ·rw [List.getElem?_append_left (by simpa using hi),List.getElem?_map] at h2
  rw [qe hi] at h2;cases h2
 ·rw [List.getElem?_append_right (by simpa using hi),List.length_map,List.getElem?_map] at h2
  rw [List.getElem?_append_right (by simpa using hi),List.getElem?_map] at h1
  cases e:fr[i - own.length]? with
  | none=>rw [e] at h1;cases h1
  | some p =>
   rw [e] at h1 h2;refine ⟨p,qo e,Option.some.inj h1,?_⟩;have h2':(σ[p.2]?).join=some v:=Option.some.inj h2
   cases e3:σ[p.2]? with
   | none=>rw [e3] at h2';cases h2'
   | some o=>rw [e3] at h2';rw [show o=some v from h2']
theorem Inv.block {pins:List (Addr×Obj)} {σ:St} {H:Hp} {s:Shared} {own:List Str} {fr:List (Str×Nat)} {sc:Scope} {cl:List (Str×Addr)} {fp:List Addr} {h1:Heap} {m:Str->Option Value} {tk:Nat}
  (I:Inv X pins σ H s) (hf:∀ b∈fp,FpOk X pins H b) (hfl:∀ b∈fp,b<s.heap.objs.size) (S:CompSc sc) (C:Caps X sc cl fr)
  (old:∀ b o,s.heap.get? b=some o->h1.get? b=some o) (hn:h1.Ns (s.heap.objs.size+1) m) (hD:h1.get? s.heap.objs.size=some (accObj [])) :
  Inv (compCx X (own++fr.map (·.1)) sc cl s H fp) [(s.heap.objs.size,accObj [])] (compSt own fr σ) H { s with heap:=h1,toks:=tk }:=by
 have cellLt:∀ x c,cl.lookup x=some c->c<s.heap.objs.size:=fun x c e=>by
  obtain ⟨v,z⟩:=I.cell x c (C.sub x c e);exact z.lt
 have sizeC:s.heap.objs.size≤s.heap.objs.size+1:=wy _
 refine ⟨⟨I.ok.mod,S.kind,I.ok.glob,I.ok.blt,sizeC,fun x y c e1 e2=>I.ok.inj x y c (C.sub x c e1) (C.sub y c e2),fun x hx=>C.has x hx,fun _ _ z=>(by cases z),I.ok.hd,I.ok.frames,.inl rfl,fun b hb=>⟨?_,fun x c e z=>?_⟩,
  I.bs,qk I.ok.bsz I.sz,fun b o e hb=>?_,fun b hb z=>?_,I.stack,I.stkFree⟩,rfl,I.bare,Un.kept old,⟨m,hn,fun i x v e1 e2 e3=>?_⟩,fun x c e=>?_,I.hok.fresh sizeC,fun x c e=>I.freeC x c (C.sub x c e),fun p hp=>?_,I.hok.kept old,?_⟩
 ·exact qi (z7 (hfl b hb))
 ·exact (hf b hb).2.2.2.2.1 x c (C.sub x c e) z
 ·rcases (hf b hb).2.2.2.1 with z | z
  ·exact I.ok.noex b o e z
  ·exact absurd (qq (Heap.lt_size e) (qk I.ok.bsz z)) (zm _)
 ·exact I.stkNot (hf b hb).2.1 (hf b hb).2.2.1 z
 ·obtain ⟨p,hp,rfl,e4⟩:=xAkk rfl e1 e2
  obtain ⟨c1,c2,c3,c4⟩:=C.cap p hp;obtain ⟨m0,hn0,hl⟩:=I.loc;obtain ⟨u,r,l⟩:=hl p.2 p.1 v c1 e4 c3;refine ⟨u,r,.inr ⟨c4,?_⟩⟩;rcases l with ⟨k,_⟩ | ⟨_,c,hc,ho,hoe,hod⟩
  ·exact absurd k c2
  ·obtain ⟨c',hc'⟩:=C.has p.1 c4
   have:=C.sub p.1 c' hc';rw [hc] at this;cases this;exact ⟨c,hc',ho,old _ _ hoe,hod⟩
 ·obtain ⟨v,o,ho,hd⟩:=I.cell x c (C.sub x c e)
  exact ⟨v,o,old _ _ ho,hd⟩
 ·have hp':p=(s.heap.objs.size,accObj []):=by simpa [compCx] using hp
  subst hp';refine ⟨hD,I.hok.fresh (qc _),?_,?_,fun v z=>by cases z⟩
  ·exact qi (wt _)
  ·exact I.stkNot (zi I.lt) (I.nofs (qc _))
 ·show (compSt own fr σ).length=(own++fr.map (·.1)).length
  unfold compSt;rw [qg,qg,qf,qf,qf]
theorem HOk.track {P:Program} {w:World} {H:Hp} {h:Heap} {a:Addr} {o:HO} (x:HOk P w H h) (hn:H a=none) (new:ObjOk P w (upd H a o) h a o):HOk P w (upd H a o) h:=fun b u e=>by
 by_cases hb:b=a
 ·subst hb;rw [xAad] at e;cases e;exact new
 ·rw [xAae hb] at e
  exact (x b u e).stay (fun c v _ q=>q) (fun c q=>by rw [xAae (xAab q hn)];exact q) fun c xs q=>by rw [xAae (xAab q hn)];exact q
theorem Inv.unblock {pins:List (Addr×Obj)} {σ:St} {H H3:Hp} {s s4:Shared} {N:List Str} {σ3:St} {sc:Scope} {cl:List (Str×Addr)} {fp:List Addr} {h':Heap} {ys:List V} {us:List Value}
  (I:Inv X pins σ H s) (hf:∀ b∈fp,FpOk X pins H b) (I4:Inv (compCx X N sc cl s H fp) [(s.heap.objs.size,accObj us)] σ3 H3 s4) (hv:Vals ys us) (hz:ys.length≤sizeLine)
  (hs:Heap.SameBut (s.heap.objs.size+1) s4.heap h'):Inv X pins σ (upd H3 s.heap.objs.size (.lst ys)) { s4 with heap:=h' }:=by
 obtain ⟨eD,nD,neD,_,_⟩:=I4.pin (s.heap.objs.size,accObj us) (List.mem_append_right _ (by simp));have eD:s4.heap.get? s.heap.objs.size=some (accObj us):=eD;have nD:H3 s.heap.objs.size=none:=nD;have b4:Un (frs X.stack) fp H H3 s.heap s4.heap:=I4.base;have nC:H3 (s.heap.objs.size+1)=none:=I4.free;have neC:∀ b o,s.heap.get? b=some o->b≠s.heap.objs.size+1:=fun b o e=>qi (z7 (Heap.lt_size e));have neD':∀ b o,s.heap.get? b=some o->b≠s.heap.objs.size:=fun b o e=>qi (Heap.lt_size e);have k4:∀ b o,b≠s.heap.objs.size+1->s4.heap.get? b=some o->h'.get? b=some o:=fun b o hb e=>hs.extBut b o hb e
 refine I.call' (s':={ s4 with heap:=h' }) (ch:=fp) I4.os ⟨fun b o e n h1 h2=>k4 b o (neC b o e) (b4.keep b o e n h1 h2),fun b o e n h1 h2=>?_,fun b o e n h2=>?_,fun b o e h2=>?_,
  fun b xs e=>?_,fun b o u e=>?_,fun b ps e=>?_,fun b o xs e n=>k4 b o (neC b o e) (b4.tupo b o xs e n)⟩ ?_ I4.bare fun b hb=>⟨(hf b hb).2.2.2.1,(hf b hb).2.1,(hf b hb).2.2.2.2.1,(hf b hb).2.2.2.2.2⟩
 ·obtain ⟨sl,q⟩:=b4.slot b o e n h1 h2
  exact ⟨sl,k4 b _ (neC b o e) q⟩
 ·rw [xAae (neD' b o e)];exact b4.free b o e n h2
 ·obtain ⟨o',q⟩:=b4.there b o e h2
  exact ⟨o',k4 b _ (neC b o e) q⟩
 ·have q:=b4.tups b xs e
  rw [xAae (xAab q nD)];exact q
 ·have q:=b4.frzs b o u e
  rw [xAae (xAab q nD)];exact q
 ·obtain ⟨more,q⟩:=b4.tbls b ps e
  exact ⟨more,by rw [xAae (xAab q nD)];exact q⟩
 ·have hk:HOk X.prog X.w H3 h':=fun b u e=>(I4.hok b u e).stay (fun c v hc q=>k4 c v (fun z=>by
   subst z;rcases hc with hc | hc
   ·subst hc;rw [nC] at e;cases e
   ·rw [nC] at hc;cases hc) q) (fun _ q=>q) fun _ _ q=>q
  refine hk.track nD ⟨hz,us,us.length,hv,k4 _ _ (qi (wt _)) eD⟩
theorem xAhr {elt tg iter:Expr} {ifs:List Expr} {sc:Scope} {pos:Pos} {own:List Str} {fr:List (Str×Nat)} {cl:List (Str×Addr)} {g:TG} {tt:TT} {te:TE} {RR:Value->Addr->Result->Shared->Prop} {E:Value->Shared->Prop}
  {pins:List (Addr×Obj)} {σ:St} {H2:Hp} {s2:Shared} {Q:VK} {it:Addr} {fp:List Addr} {tn:Nat->Heap->Prop} {J:It} (hc:X.calm=true) (S:CompSc sc) (C:Caps X sc cl fr)
  (hg:∀ s H fp,PG (compCx X (own++fr.map (·.1)) sc cl s H fp) tg g) (hfr:∀ σ,Fresh g (compSt own fr σ)) (ht:∀ s H fp,PTs (compCx X (own++fr.map (·.1)) sc cl s H fp) ifs tt)
  (he:∀ s H fp,PE (compCx X (own++fr.map (·.1)) sc cl s H fp) elt te) (I2:Inv X pins σ H2 s2) (T:Turn X.prog X.w X.K tg J fp it tn) (st2:tn 0 s2.heap) (f2:∀ b∈fp,FpOk X pins H2 b) (hW:LCb own fr g tt te σ Q J H2)
  (hRR:∀ s5 H4 ys us,Inv (compCx X (own++fr.map (·.1)) sc cl s2 H2 fp) [(s2.heap.objs.size,accObj us)] (compSt own fr σ) H4 s5->Vals ys us->ys.length≤sizeLine->(∀ p,H4 p=none->Q (.ref p) (upd H4 p (.lst ys))) →
   RR (.ref s2.heap.objs.size) (s2.heap.objs.size+1) (.ok .next) s5) :
  wpAny (model X.prog X.w) X.A (newList []) (fun acc s3=>wpAny (model X.prog X.w) X.A (newFunctionEnv sc X.env.globals cl [] X.env.qual none .none (some X.env)) (fun ce s4 =>
   codeAny (model X.prog X.w) X.A (.compStart (.ListComp elt [⟨tg,iter,ifs,0⟩] sc pos) 0 (.ref it) acc { ce with scope:=relabel sc X.env }) (RR acc ce.locals) s4) E s3) E s2:=by
 obtain ⟨W,⟨m0,w0⟩,turn⟩:=hW
 have fpl:∀ b∈fp,b<s2.heap.objs.size:=fun b hb=>by
  obtain ⟨o,e,_⟩:=T.obj _ _ st2 b hb;exact Heap.lt_size e
 refine wpAny_newObj_type (wpAny_newFunctionEnv S.cell (by intro y hy;simp at hy) (fun h₁ hns₁ hsb₁=>?_) S.kind);dsimp only at hns₁ hsb₁ ⊢;generalize hH2:s2.heap.push { cls:=.type "list",dict:=none,data:=.seq ([]:List Value).toArray }=G at hns₁ hsb₁ ⊢
 have hC:G.objs.size=s2.heap.objs.size+1:=by rw [← hH2,Heap.size_push]
 rw [hC] at hns₁ hsb₁ ⊢
 have old:∀ b o,s2.heap.get? b=some o->h₁.get? b=some o:=fun b o e=>by
  exact hsb₁.extBut b o (qi (z7 (Heap.lt_size e))) (Heap.get?_push_of_some _ (hH2▸Heap.get?_push_of_some _ e))
 have hacc:h₁.get? s2.heap.objs.size=some (accObj []):=hsb₁.extBut _ _ (qi (wt _)) (Heap.get?_push_of_some _ (hH2▸Heap.get?_push_size _ rfl));have I3:=I2.block (own:=own) (tk:=s2.toks+([]:List (Str×Value)).length) f2 fpl S C old hns₁ hacc
 have stat:∀ {H':Hp} {us:List Value},(∀ b∈fp,H' b=none)->∀ b∈fp,FpOk (compCx X (own++fr.map (·.1)) sc cl s2 H2 fp) [(s2.heap.objs.size,accObj us)] H' b:=fun {H' us} hn b hb=>by
  obtain ⟨_,g1,g2,g3,g4,g5⟩:=f2 b hb;have hbl:=fpl b hb;refine ⟨hn b hb,?_,I2.stkNot g1 g2,.inl hb,fun x c e=>g4 x c (C.sub x c e),fun p hp=>?_⟩
  ·exact qi (z7 hbl)
  ·have hp':p=(s2.heap.objs.size,accObj us):=by simpa [compCx] using hp
   subst hp';exact zi hbl
 have loop:∀ s3:Shared,s3={ s2 with heap:=h₁,toks:=s2.toks+([]:List (Str×Value)).length } →
   codeAny (model X.prog X.w) X.A (.compLoop (.ListComp elt [⟨tg,iter,ifs,0⟩] sc pos) 0 (.ref it) (.ref s2.heap.objs.size) (compEnvC sc cl (s2.heap.objs.size+1) X.env))
    (RR (.ref s2.heap.objs.size) (s2.heap.objs.size+1)) s3:=by
  rintro s3 rfl
  refine xAnj (fun n s'=>∃ i ys us H',Vals ys us/\Inv (compCx X (own++fr.map (·.1)) sc cl s2 H2 fp) [(s2.heap.objs.size,accObj us)] (compSt own fr σ) H' s'/\tn i s'.heap/\(∀ b∈fp,H' b=none)/\ys.length≤sizeLine/\W i n ys H') ?_ m0
   ⟨0,[],[],H2,.nil,I3,T.keep _ _ _ st2 fun b _ o e=>old b o e,fun b hb=>(f2 b hb).1,q5 _,w0⟩
  rintro n s4 ⟨i,ys,us,H4,hv,I4,st4,fr4,hz,w4⟩;rcases turn i n ys H4 w4 with ⟨stop,fin⟩ | ⟨go,hlt,step⟩
  ·refine thn (T.done (compCx X (own++fr.map (·.1)) sc cl s2 H2 fp) rfl rfl rfl hc i _ s4 _ H4 _ I4 (stat fr4) st4 stop) fun r s5 ⟨hr,I5⟩=>?_
   subst hr;exact hRR s5 H4 ys us I5 hv hz fin
  ·refine thn (T.item (compCx X (own++fr.map (·.1)) sc cl s2 H2 fp) rfl rfl rfl hc i _ s4 _ H4 _ I4 (stat fr4) st4 go) fun r s5 ⟨u,hr,h5⟩=>?_
   subst hr;refine thn h5 fun _ s6 ⟨x,H6,I6,r6,y6,st6,fr6⟩=>?_;have I6':=I6.pinned (stat fr6) (T.obj _ _ st6);refine thn (hg s2 H2 fp _ s6 _ H6 x u _ I6' r6 (hfr σ x H6 _ (step x H6 y6))) fun _ s7 ⟨σ7,H7,I7,k7,q7⟩=>?_;refine thn (ht s2 H2 fp _ s7 σ7 H7 _ I7 q7) fun ok s8 ⟨H8,I8,q8⟩=>?_
   have fps:∀ {pins':List (Addr×Obj)} {σ':St} {H':Hp} {s':Shared},Inv (compCx X (own++fr.map (·.1)) sc cl s2 H2 fp) ([(s2.heap.objs.size,accObj us)]++pinsAt fp s6.heap) σ' H' s'->∀ b∈fp,(∀ o,s6.heap.get? b=some o->s'.heap.get? b=some o)/\H' b=none:=fun {pins' σ' H' s'} I' b hb=>by
    obtain ⟨o,e,_⟩:=T.obj _ _ st6 b hb;have z:=I'.pin (b,o) (zj _ (zj _ (xAdl hb e)));exact ⟨fun o' e'=>by rw [e] at e';cases e';exact z.1,z.2.1⟩
   cases ok with
   | false =>
    rw [if_neg qm] at q8;obtain ⟨m',hm,w8⟩:=q8;rw [if_neg qm];exact ⟨m',hm,i+1,ys,us,H8,hv,(I8.unpinned).weak k7.1 k7.2,T.keep _ _ _ st6 fun b hb o e=>(fps (pins':=[]) I8 b hb).1 o e,fun b hb=>(fps (pins':=[]) I8 b hb).2,hz,w8⟩
   | true =>
    rw [if_pos rfl] at q8;rw [if_pos rfl];refine thn (he s2 H2 fp _ s8 σ7 H8 _ I8 q8) fun y s9 ⟨v,H9,I9,r9,m',hm,w9⟩=>?_;have pD:=I9.pin (s2.heap.objs.size,accObj us) (List.mem_append_right _ (List.mem_append_left _ (by simp)));have zD:s9.heap.get? s2.heap.objs.size=some (accObj us):=pD.1;have nD:H9 s2.heap.objs.size=none:=pD.2.1;refine append_at (hsz:=by show us.toArray.size≤sizeLine;rw [zf,← hv.length];exact hz) zD fun h5 hs5 hD5=>?_;have Ia:Inv (compCx X (own++fr.map (·.1)) sc cl s2 H2 fp) (pinsAt fp s6.heap) σ7 H9 s9:=I9.pins_of fun p hp=>I9.pin p (zj _ (zj _ hp));have neD:s2.heap.objs.size≠s2.heap.objs.size+1:=qi (wt _)
    have Ib:Inv (compCx X (own++fr.map (·.1)) sc cl s2 H2 fp) (pinsAt fp s6.heap) σ7 H9 { s9 with heap:=h5,toks:=s9.toks }:=Ia.turned (it:=s2.heap.objs.size) (fun b o hb e=>hs5.extBut b o hb e) nD neD (.inr (qc _)) (fun x c e z=>by
      obtain ⟨v',q⟩:=I2.cell x c (C.sub x c e);have q':=q.lt;rw [z] at q'
      exact zm _ q') fun p hp z=>by
      have hp':p∈pinsAt fp s6.heap:=by simpa [compCx] using hp
      have q':=fpl p.1 (xAhj hp').1;rw [z] at q';exact zm _ q'
    have Ic:Inv (compCx X (own++fr.map (·.1)) sc cl s2 H2 fp) [(s2.heap.objs.size,accObj (us++[y]))] σ7 H9 { s9 with heap:=h5,toks:=s9.toks }:=Ib.pins_of fun p hp=>by
     have hp':p=(s2.heap.objs.size,accObj (us++[y])):=by simpa using hp
     subst hp';exact ⟨hD5.trans (congrArg some (xAqb us y)),nD,neD,pD.2.2.2.1,fun v z=>by cases z⟩
    refine ⟨m',hm,i+1,ys++[v],us++[y],H9,hv.append (.cons r9 .nil),Ic.weak k7.1 k7.2,T.keep _ _ _ st6 fun b hb o e=>?_,fun b hb=>(fps (pins':=[]) I9 b hb).2,?_,w9⟩
    ·exact hs5.extBut b o (qi (fpl b hb)) ((fps (pins':=[]) I9 b hb).1 o e)
    ·rw [qg];exact hlt
 exact codeAny_compStart_list (loop _ rfl) (T.self _ 0 _ _ _ (T.keep _ _ _ st2 fun b _ o e=>old b o e) (loop _ rfl))
theorem xAbo {elt tg iter:Expr} {ifs:List Expr} {sc:Scope} {pos:Pos} {own:List Str} {fr:List (Str×Nat)} {cl:List (Str×Addr)} {wi:TI} {g:TG} {tt:TT} {te:TE} (hc:X.calm=true) (hi:PI X tg iter wi) (S:CompSc sc) (C:Caps X sc cl fr)
  (hg:∀ s H fp,PG (compCx X (own++fr.map (·.1)) sc cl s H fp) tg g) (hfr:∀ σ,Fresh g (compSt own fr σ)) (ht:∀ s H fp,PTs (compCx X (own++fr.map (·.1)) sc cl s H fp) ifs tt)
  (he:∀ s H fp,PE (compCx X (own++fr.map (·.1)) sc cl s H fp) elt te) (hs:∀ x,foldedSetIterable iter X.env x=pure x:=by intro _;rfl) :
  PE X (.ListComp elt [⟨tg,iter,ifs,0⟩] sc pos) (tLC own fr wi g tt te):=by
 intro pins s σ H Q I h;rw [eval_ListComp];refine wpAny_comprehension_free (use:=none) rfl hs C.clos S.kind S.nms (thn (hi pins s σ H _ I h) fun xv s1 h1=>thn h1 fun itv s2 h2=>?_);obtain ⟨it,fp,tn,J,H2,e,I2,T,st2,f2,hW⟩:=h2;subst e;refine xAhr (RR:=fun acc A=>compPost (model X.prog X.w) X.A X.xe none (EP X pins σ Q) acc A) hc S C hg hfr ht he I2 T st2 f2 hW fun s5 H4 ys us I5 hv hz fin=>?_;obtain ⟨m5,hn5,_⟩:=id I5.loc;have nD:H4 s2.heap.objs.size=none:=(I5.pin (s2.heap.objs.size,accObj us) (List.mem_append_right _ (by simp))).2.1;exact ⟨m5,hn5,fun h' hs'=>⟨.ref s2.heap.objs.size,upd H4 s2.heap.objs.size (.lst ys),I2.unblock f2 I5 hv hz hs',rfl,fin _ nD⟩⟩
theorem xAkl {i:Nat} {y:Str} {py spos:Pos} {elt tg iter:Expr} {ifs:List Expr} {sc:Scope} {pos:Pos} {own:List Str} {fr:List (Str×Nat)} {cl:List (Str×Addr)} {wi:TI} {g:TG} {tt:TT} {te:TE} (hN:X.N.Nodup) (hy:X.N[i]?=some y)
  (hx:Loc X.env.scope y) (hc:X.calm=true) (hi:PI X tg iter wi) (S:CompSc sc) (C:Caps X sc cl fr)
  (hg:∀ s H fp,PG (compCx X (own++fr.map (·.1)) sc cl s H fp) tg g) (hfr:∀ σ,Fresh g (compSt own fr σ)) (ht:∀ s H fp,PTs (compCx X (own++fr.map (·.1)) sc cl s H fp) ifs tt)
  (he:∀ s H fp,PE (compCx X (own++fr.map (·.1)) sc cl s H fp) elt te) (hs:∀ x,foldedSetIterable iter X.env x=pure x:=by intro _;rfl)
  (hsw:swapsWith (.ListComp elt [⟨tg,iter,ifs,0⟩] sc pos) (some (.Name y py)) spos.line X.env=pure true:=by rfl) (hf:X.fn y=true\/X.env.scope.names.lookup y=some .local:=by first | exact .inl rfl | exact .inr rfl | assumption) :
  PS X (.Assign [.Name y py] (.ListComp elt [⟨tg,iter,ifs,0⟩] sc pos) spos) (tAsg (tLC own fr wi g tt te) (gName i)):=by
 intro pins s σ H D I h;rw [exec_Assign_Name_used _ _ _ _ hsw];refine wpAny_bind (wpAny_standAt (wpAny_bind ?_));show wpAny _ X.A (do let _ ← comprehension (.ListComp elt [⟨tg,iter,ifs,0⟩] sc pos) sc X.env _ (newList []) false (eval iter X.env) (some (assign (.Name y py) X.env))) _ _ s
 refine wpAny_bind (thn (wpAny_comprehension_free (use:=some (assign (.Name y py) X.env)) (Q:=fun _ s'=>SP X pins D .next s') rfl hs C.clos S.kind S.nms
  (thn (hi pins s σ H _ I h) fun xv s1 h1=>thn h1 fun itv s2 h2=>?_)) fun _ s' hq=>wpAny_pure (wpAny_pure hq))
 obtain ⟨it,fp,tn,J,H2,e,I2,T,st2,f2,hW⟩:=h2;subst e;refine xAhr (RR:=fun acc A=>compPost (model X.prog X.w) X.A X.xe (some (assign (.Name y py) X.env)) (fun _ s'=>SP X pins D .next s') acc A) hc S C hg hfr ht he I2 T st2 f2 hW fun s5 H4 ys us I5 hv hz fin=>?_;obtain ⟨m5,hn5,_⟩:=id I5.loc;have nD:H4 s2.heap.objs.size=none:=(I5.pin (s2.heap.objs.size,accObj us) (List.mem_append_right _ (by simp))).2.1;have nC:H4 (s2.heap.objs.size+1)=none:=I5.free;have I6:Inv X pins σ (upd H4 s2.heap.objs.size (.lst ys)) s5:=I2.unblock f2 I5 hv hz (Heap.SameBut.refl _ _);show wpAny _ X.A (assign (.Name y py) X.env (.ref s2.heap.objs.size)) _ _ s5;refine wpAny_assign_Name (xAhi (v:=.ref s2.heap.objs.size) I6 hN hy hx rfl (fun s7 I7 ⟨a,hsb,ha⟩=>?_) hf);have Clt:s2.heap.objs.size<s2.heap.objs.size+1:=wt _;have neL:s2.heap.objs.size+1≠X.env.locals:=zi (vq I2.lt Clt)
 have neCell:∀ x c,X.env.cells.lookup x=some c->c≠s2.heap.objs.size+1:=fun x c e=>by
  obtain ⟨v',q⟩:=I2.cell x c e;exact qi (vq q.lt Clt)
 have neA:s2.heap.objs.size+1≠a:=by
  rcases ha with rfl | ha
  ·exact neL
  ·exact Ne.symm (neCell _ _ ha)
 refine ⟨m5,hn5.sameBut hsb neA,fun h' hs'=>⟨_,_,?_,fin _ nD⟩⟩
 exact I7.turned (it:=s2.heap.objs.size+1) (t':=s7.toks) (fun b o hb e=>hs'.extBut b o hb e) (by rw [xAae (zi Clt)];exact nC) neL (.inr (qk I2.sz (zv Clt))) neCell fun p hp z=>by
  have q:=Heap.lt_size (I2.pin p hp).1;rw [z] at q;exact absurd (vq Clt q) (zm _)
end
section
variable {X:Cx} {tg:Expr}
end
section
variable {X:Cx}
theorem xAdz:CallR X (.builtin "isinstance") (fun xs H Q=>∃ x T t b,xs=[x,.ty T]/\TyOf X.K H x t/\PySem.W.kitOne X.K t (.type T)=some b/\Q (.bl b) H):=by
 intro pins s σ H xs us Q I r h;obtain ⟨x,T,t,b,rfl,ty,e,q⟩:=h;obtain ⟨u,v,rfl,ru,rv⟩:=vals2 r;cases (show v=Value.type T from rv);exact xAnd I ru ty e fun tk=>⟨.bl b,H,I.tok tk,rfl,q⟩
end
section
variable {X:Cx} {pins:List (Addr×Obj)} {σ σ':St} {H H':Hp} {s s':Shared}
theorem Inv.track {a:Addr} {o:HO} (I0:Inv X pins σ H s) (I:Inv X pins σ' H' s') (ha:s.heap.objs.size≤a) (hn:H' a=none) (new:ObjOk X.prog X.w (upd H' a o) s'.heap a o):Inv X pins σ' (upd H' a o) s':=by
 have ne:∀ b,b<s.heap.objs.size->b≠a:=fun b hb z=>by omega
 refine ⟨I.ok,I.os,I.bare,⟨I.base.keep,I.base.slot,fun b u e n hx=>?_,I.base.there,fun b xs e=>?_,fun b u xs e=>?_,fun b ps e=>?_,I.base.tupo⟩,I.loc,I.cell,?_,fun x c e=>?_,fun p hp=>?_,I.hok.track hn new,I.len⟩
 ·rw [xAae (ne b (qq (Heap.lt_size e) I0.sz))]
  exact I.base.free b u e n hx
 ·have q:=I.base.tups b xs e
  rw [xAae (xAab q hn)];exact q
 ·have q:=I.base.frzs b u xs e
  rw [xAae (xAab q hn)];exact q
 ·obtain ⟨more,q⟩:=I.base.tbls b ps e
  exact ⟨more,by rw [xAae (xAab q hn)];exact q⟩
 ·rw [xAae (ne _ I0.lt)];exact I.free
 ·obtain ⟨v,q⟩:=I0.cell x c e
  rw [xAae (ne _ q.lt)];exact I.freeC x c e
 ·obtain ⟨h1,h2,h3⟩:=I.pin p hp
  refine ⟨h1,?_,h3⟩;rw [xAae (ne _ (Heap.lt_size (I0.pin p hp).1))];exact h2
theorem Inv.turnedN {t':Nat} {h':Heap} {ch:List Addr} (I:Inv X pins σ H s) (hf:∀ b∈ch,FpOk X pins H b) (k:∀ b o,b∉ch->s.heap.get? b=some o->h'.get? b=some o):Inv X pins σ H { s with heap:=h',toks:=t' }:=by
 have nch:∀ b u,H b=some u->b∉ch:=fun b u e z=>by rw [(hf b z).1] at e;cases e
 refine I.step (g':=s.gens) (d':=s.drawn) (ch:=ch) (fun b hb=>⟨(hf b hb).2.2.2.1,(hf b hb).2.1,(hf b hb).2.2.2.2.1,(hf b hb).2.2.2.2.2⟩) (fun b o _ _ hc e _=>k b o hc e) (fun b o _ _ hc e _=>⟨o.slots,k b o hc e⟩) (fun _ _ _ _ n=>n)
  (fun b o hc e=>⟨o,k b o hc e⟩) (fun _ _ e=>e) (fun _ _ _ e=>e) (fun b ps e=>⟨#[],by rw [e];simp⟩) (fun b o xs e n=>k b o (nch b _ n) e) (fun m hm=>?_) (fun b u e=>?_) I.bare
 ·obtain ⟨o,es,ep,ho,r⟩:=hm
  exact ⟨o,es,ep,k _ o (fun z=>(hf _ z).2.1 rfl) ho,r⟩
 ·refine (I.hok b u e).stay (fun c v hc q=>k c v ?_ q) (fun _ q=>q) fun _ _ q=>q
  rcases hc with z | z
  ·rw [z];exact nch b u e
  ·exact nch c _ z
end
section
variable {X:Cx}
end
theorem xAgk {sc:Scope} {env:Env} {x:Str} {k:NameKind} (h:(relabel sc env).names.lookup x=some k):∃ y∈sc.names,y.2=k\/y.2=.free:=by
 have hm:=PySem.mem_of_lookup h;obtain ⟨y,hy,e⟩:=qd.mp hm;refine ⟨y,hy,?_⟩;obtain ⟨n,k0⟩:=y;dsimp only at e
 split at e
 ·rename_i hc
  rw [za,za] at hc;exact .inr (beq_iff_eq.mp hc.1.1)
 ·cases e
  exact .inl rfl
theorem caps0 {X:Cx} {sc:Scope} (h:∀ y∈sc.names,y.2≠.free/\y.2≠.cell):Caps X sc [] [] where
 clos:=closureFor_none fun y hy=>(h y hy).1
 sub:=fun x c e=>by cases e
 has:=fun x e=>by
  exfalso;rcases e with e | e <;> obtain ⟨y,hy,z⟩:=xAgk e <;> rcases z with z | z
  ·exact (h y hy).2 z
  ·exact (h y hy).1 z
  ·exact (h y hy).1 z
  ·exact (h y hy).1 z
 cap:=fun p hp=>nomatch hp
theorem Same.up {H H':Hp} {p:Addr} {o:HO} (e:Same H H') (h:H' p=none):Same H (upd H' p o):=fun b u q=>by
 rw [xAae (xAab (e b u q) h)];exact e b u q
theorem Same.new {H:Hp} {p:Addr} {o:HO} (h:H p=none):Same H (upd H p o):=(Same.refl H).up h
theorem Same.wr {H H':Hp} {p:Addr} {o:HO} (e:Same H H') (h:H p=none):Same H (upd H' p o):=fun b u q=>by
 rw [xAae (xAab q h)];exact e b u q
section
variable {X:Cx}
def rIxA (K:PySem.W.Frag):R2:=fun x y H Q=>∃ p xs i,x=.ref p/\y=.int i/\SqL K H p xs/\0≤i/\i<(xs.length:Int)/\∀ v∈xs,Q v H
theorem xAkm:IxR X (rIxA X.K):=by
 intro value slice pins s σ H x y v u Q I rx ry h hs;obtain ⟨p,xs,i,ex,ey,hq,h0,h1,q⟩:=h;obtain ⟨j,rfl⟩:=Int.eq_ofNat_of_zero_le h0
 have hj:j<xs.length:=by omega
 exact xAaw value slice pins s σ H x y v u Q I rx ry ⟨p,xs,j,xs[j],ex,ey,hq,xAkh (qe hj),q _ (zw hj)⟩ hs
end
theorem xAji (x:Int) {m:Int} (h:0<m):0≤x % m:=Int.emod_nonneg _ (by omega)
theorem xAgl (x:Int) {m:Int} (h:0<m):x % m<m:=Int.emod_lt_of_pos _ h
section
variable {X:Cx} {es:List Expr} {t:TA} {pos:Pos}
def tTupA (t:TA):TE:=fun σ H Q=>t σ H fun xs H1=>xs.length≤sizeLine/\∀ p H',H1 p=none->Same H1 H'->H' p=some (.tup xs)->Q (.ref p) H'
def tLstA (t:TA):TE:=fun σ H Q=>t σ H fun xs H1=>xs.length≤sizeLine/\∀ p H',H1 p=none->Same H1 H'->H' p=some (.lst xs)->Q (.ref p) H'
def tDctA:TE:=fun _ H Q=>∀ p H',H p=none->Same H H'->H' p=some (.dK [])->Q (.ref p) H'
theorem xAao {x1} (h:PA X es t):PE X (.Tuple es x1 pos) (tTupA t):=by
 intro pins s σ H Q I hq;refine wpAny_Tuple_spliced (thn (h pos pins s σ H _ I hq) fun us s1 ⟨xs,H1,I1,r,z,q⟩=>⟨by rw [← r.length];exact z,?_⟩);have hf:H1 s1.heap.objs.size=none:=I1.hok.fresh (qc _);refine ⟨.ref s1.heap.objs.size,upd H1 s1.heap.objs.size (.tup xs),I1.laid (t':=s1.toks) (fun b u e=>Heap.get?_push_of_some _ e) (qc _) ?_,rfl,q _ _ hf (Same.new hf) xAad⟩;exact ⟨z,us,r,⟨_,Heap.get?_push_size _ rfl,rfl,_,rfl⟩⟩
theorem xAas (h:PA X es t):PE X (.List es pos) (tLstA t):=by
 intro pins s σ H Q I hq;refine wpAny_List_spliced (thn (h pos pins s σ H _ I hq) fun us s1 ⟨xs,H1,I1,r,z,q⟩=>⟨by rw [← r.length];exact z,?_⟩);have hf:H1 s1.heap.objs.size=none:=I1.hok.fresh (qc _);refine ⟨.ref s1.heap.objs.size,upd H1 s1.heap.objs.size (.lst xs),I1.laid (t':=s1.toks) (fun b u e=>Heap.get?_push_of_some _ e) (qc _) ?_,rfl,q _ _ hf (Same.new hf) xAad⟩;exact ⟨z,us,0,r,Heap.get?_push_size _ rfl⟩
theorem xAsi:PE X (.Dict [] [] pos) tDctA:=fun pins s σ H Q I h=>xAqa pins s σ H Q I fun p hp=>h p _ hp (Same.new hp) xAad
theorem OpR.imp {f:Value->Value->Sem Value} {r r':R2} (h:OpR X f r) (i:∀ x y H Q,r' x y H Q->r x y H Q):OpR X f r':=fun pins s σ H x y v u Q I rx ry q=>h pins s σ H x y v u Q I rx ry (i x y H Q q)
theorem SlR.imp {r r':V->Option Int->Option Int->Hp->VK->Prop} (h:SlR X r) (i:∀ x lo hi H Q,r' x lo hi H Q->r x lo hi H Q):SlR X r':=fun pins s σ H x v vl vu lo hi sl Q I rx hs pl pu q=>h pins s σ H x v vl vu lo hi sl Q I rx hs pl pu (i x lo hi H Q q)
def rCatA:R2:=fun x y H Q=>∃ l b xs zs,x=.ref l/\y=.ref b/\H l=some (.lst xs)/\H b=some (.lst zs)/\xs.length+zs.length≤sizeLine/\∀ p H',H p=none->Same H H'->H' p=some (.lst (xs++zs))->Q (.ref p) H'
theorem xAkn:OpR X (binaryOp .Add) rCatA:=op_cat.imp fun _ _ _ _ ⟨l,b,xs,zs,h1,h2,h3,h4,h5,q⟩=>⟨l,b,xs,zs,h1,h2,h3,h4,h5,fun p hp=>q p _ hp (Same.new hp) xAad⟩
def rSlLA (K:PySem.W.Frag):V->Option Int->Option Int->Hp->VK->Prop:=fun x lo hi H Q=>∃ a xs,x=.ref a/\SqL K H a xs/\∀ p H',H p=none->Same H H'->H' p=some (.lst (cutV xs lo hi))->Q (.ref p) H'
theorem xAko:SlR X (rSlLA X.K):=xAse.imp fun _ _ _ _ _ ⟨a,xs,h1,h2,q⟩=>⟨a,xs,h1,h2,fun p hp=>q p _ hp (Same.new hp) xAad⟩
end
def clo (env:Env):List (Str×NameKind)->List (Str×Addr)->List (Str×Addr)
 | [],acc=>acc
 | (n,k)::r,acc=>clo env r (if k==.free then (n,(env.cells.lookup n).getD 0)::acc else acc)
theorem xAcw {env:Env} {sc:Scope} (h:∀ y∈sc.names,y.2=.free->∃ c,env.cells.lookup y.1=some c):closureFor sc env=pure (clo env sc.names []):=by
 have all:∀ (names:List (Str×NameKind)) (acc:List (Str×Addr)),(∀ y∈names,y.2=.free->∃ c,env.cells.lookup y.1=some c) →
   (forIn names acc fun x r=>(match x with
    | (name,kind)=>if (kind==NameKind.free)=true then do
      let a ← cellOf env name
      pure (ForInStep.yield ((name,a)::r))
     else pure (ForInStep.yield r):Sem (ForInStep (List (Str×Addr)))))=pure (clo env names acc):=by
  intro names
  induction names with
  | nil=>intro acc _;rfl
  | cons x r ih =>
   intro acc hx;obtain ⟨n,k⟩:=x;rw [yx]
   cases hk:(k==NameKind.free) with
   | true =>
    obtain ⟨c,hc⟩:=hx (n,k) qh (beq_iff_eq.mp hk)
    have e:cellOf env n=pure c:=by unfold cellOf;rw [hc]
    dsimp only;rw [if_pos hk,e];refine Eq.trans (by first | rfl | simp) ((ih ((n,c)::acc) fun y hy=>hx y (List.mem_cons_of_mem _ hy)).trans ?_);show _=pure (clo env r (if (k==NameKind.free)=true then (n,(env.cells.lookup n).getD 0)::acc else acc));rw [if_pos hk,show env.cells.lookup n=some c from hc];rfl
   | false =>
    dsimp only;rw [if_neg (by rw [hk];exact qm)];refine Eq.trans (by first | rfl | simp) ((ih acc fun y hy=>hx y (List.mem_cons_of_mem _ hy)).trans ?_);show _=pure (clo env r (if (k==NameKind.free)=true then (n,(env.cells.lookup n).getD 0)::acc else acc));rw [if_neg (by rw [hk];exact qm)]
 have e:=all sc.names [] h
 show ((forIn sc.names [] fun x r=>(match x with
       | (name,kind)=>if (kind==NameKind.free)=true then do
         let a ← cellOf env name
         pure (ForInStep.yield ((name,a)::r))
        else pure (ForInStep.yield r):Sem (ForInStep (List (Str×Addr))))) >>= fun cs=>pure cs)=_
 rw [e];rfl
theorem xAhs {env:Env}:∀ {names:List (Str×NameKind)} {acc:List (Str×Addr)},(∀ y∈names,y.2=.free->∃ c,env.cells.lookup y.1=some c)->(∀ x c,acc.lookup x=some c->env.cells.lookup x=some c) →
  ∀ x c,(clo env names acc).lookup x=some c->env.cells.lookup x=some c
 | [],_,_,h=>h
 | (n,k)::r,acc,hx,h=>by
  refine xAhs (names:=r) (fun y hy=>hx y (qr _ hy)) fun x c e=>?_
  cases hk:(k==NameKind.free) with
  | true =>
   rw [hk,if_pos rfl] at e;obtain ⟨c',hc⟩:=hx (n,k) qh (beq_iff_eq.mp hk);rw [v9] at e
   cases hxn:(x==n) with
   | true =>
    rw [hxn] at e;have q:=beq_iff_eq.mp hxn;subst q;have e':(env.cells.lookup x).getD 0=c:=Option.some.inj e;have hc':env.cells.lookup x=some c':=hc;rw [hc'] at e' ⊢;exact congrArg some e'
   | false=>rw [hxn] at e;exact h x c e
  | false=>rw [hk,if_neg qm] at e;exact h x c e
theorem xAht {env:Env} {x:Str}:∀ {names:List (Str×NameKind)} {acc:List (Str×Addr)},((x,NameKind.free)∈names\/∃ c,acc.lookup x=some c)->∃ c,(clo env names acc).lookup x=some c
 | [],_,h=>h.elim (fun z=>nomatch z) id
 | (n,k)::r,acc,h=>by
  refine xAht (names:=r) ?_
  have put:∀ c',∃ c,((n,c')::acc).lookup x=some c\/(x≠n/\acc.lookup x=none):=fun c'=>by
   rw [v9]
   cases hxn:(x==n) with
   | true=>exact ⟨c',.inl rfl⟩
   | false =>
    cases ha:acc.lookup x with
    | some c=>exact ⟨c,.inl rfl⟩
    | none=>exact ⟨0,.inr ⟨fun z=>by subst z;simp at hxn,rfl⟩⟩
  rcases h with h | ⟨c,h⟩
  ·rcases qy.mp h with q | q
   ·cases q
    refine .inr ?_;rw [if_pos (by rfl),v9]
    simp
   ·exact .inl q
  ·refine .inr ?_
   cases hk:(k==NameKind.free) with
   | true =>
    rw [if_pos (by rfl)];obtain ⟨c1,q | q⟩:=put ((env.cells.lookup n).getD 0)
    ·exact ⟨c1,q⟩
    ·rw [q.2] at h;cases h
   | false=>rw [if_neg qm];exact ⟨c,h⟩
theorem xAkp {sc:Scope} {env:Env} {x:Str} {k:NameKind} (h:(relabel sc env).names.lookup x=some k):∃ y∈sc.names,y.1=x/\(y.2=k\/y.2=.free):=by
 have hm:=PySem.mem_of_lookup h;obtain ⟨y,hy,e⟩:=qd.mp hm;refine ⟨y,hy,?_⟩;obtain ⟨n,k0⟩:=y;dsimp only at e
 split at e
 ·rename_i hc
  rw [za,za] at hc;cases e;exact ⟨rfl,.inr (beq_iff_eq.mp hc.1.1)⟩
 ·cases e
  exact ⟨rfl,.inl rfl⟩
theorem xAsj {X:Cx} {sc:Scope} {fr:List (Str×Nat)} (hX:∀ x,X.env.kindOf x=some .cell->∃ c,X.env.cells.lookup x=some c) (hcell:∀ y∈sc.names,y.2≠.cell)
  (hfree:∀ y∈sc.names,y.2=.free->X.env.kindOf y.1=some .cell)
  (hcap:∀ p∈fr,X.N[p.2]?=some p.1/\X.env.kindOf p.1=some .cell/\(relabel sc X.env).names.lookup p.1=some .cell):Caps X sc (clo X.env sc.names []) fr where
 clos:=xAcw fun y hy e=>hX _ (hfree y hy e)
 sub:=xAhs (fun y hy e=>hX _ (hfree y hy e)) fun x c e=>by cases e
 has:=fun x e=>by
  refine xAht (.inl ?_);rcases e with e | e <;> obtain ⟨y,hy,rfl,z⟩:=xAkp e <;> rcases z with z | z
  ·exact absurd z (hcell y hy)
  ·rw [← z];exact hy
  ·rw [← z];exact hy
  ·rw [← z];exact hy
 cap:=fun p hp=>by
  obtain ⟨h1,h2,h3⟩:=hcap p hp;exact ⟨h1,by rw [h2];decide,.inr (.inl h2),.inl h3⟩
theorem xAdm {X:Cx} {sc:Scope} {fr:List (Str×Nat)} (scX:Scope) (N:List Str) (h1:X.env.scope=scX) (h2:X.N=N) (hX:∀ x,X.env.kindOf x=some .cell->∃ c,X.env.cells.lookup x=some c)
  (hcell:∀ y∈sc.names,y.2≠.cell) (hfree:∀ y∈sc.names,y.2=.free->scX.names.lookup y.1=some .cell)
  (hcap:∀ p∈fr,N[p.2]?=some p.1/\scX.names.lookup p.1=some .cell/\(relabel sc { scope:=scX,locals:=0,globals:=0,cells:=[] }).names.lookup p.1=some .cell):Caps X sc (clo X.env sc.names []) fr:=by
 refine xAsj hX hcell (fun y hy e=>?_) fun p hp=>?_
 ·show X.env.scope.names.lookup y.1=some .cell
  rw [h1];exact hfree y hy e
 ·obtain ⟨a,b,c⟩:=hcap p hp
  refine ⟨by rw [h2];exact a,?_,?_⟩
  ·show X.env.scope.names.lookup p.1=some .cell
   rw [h1];exact b
  ·have e:relabel sc X.env=relabel sc { scope:=scX,locals:=0,globals:=0,cells:=[] }:=by
    unfold relabel Env.kindOf;rw [h1]
   rw [e];exact c
section
variable {X:Cx}
theorem CallR.imp {f:Value} {r r':List V->Hp->VK->Prop} (h:CallR X f r) (i:∀ xs H Q,r' xs H Q->r xs H Q):CallR X f r':=fun pins s σ H xs us Q I rv q=>h pins s σ H xs us Q I rv (i xs H Q q)
def rLstA (K:PySem.W.Frag):List V->Hp->VK->Prop:=fun xs H Q=>∃ p ys,xs=[.ref p]/\(SqL K H p ys\/SqT K H p ys)/\∀ l H',H l=none->Same H H'->H' l=some (.lst ys)->Q (.ref l) H'
theorem xAnk:CallR X (.type "list") (rLstA X.K):=xAgj.imp fun _ _ _ ⟨p,ys,h1,h2,q⟩=>⟨p,ys,h1,h2,fun l hl=>q l _ hl (Same.new hl) xAad⟩
end
theorem xAfs {K:PySem.W.Frag} {a:Addr} {xs:List V} {own:List Str} {fr:List (Str×Nat)} {g:TG} {tt:TT} {te:TE} {σ:St} {H:Hp} {Q:VK} (hz:xs.length≤sizeLine) (Pv:Nat->List V->Hp->Prop) (h0:Pv 0 [] H) (hl:∀ i ys H,Pv i ys H->SqL K H a xs)
  (hs:∀ i x ys H' (K1:V->Hp->Prop) (K0:Hp->Prop),xs[i]?=some x->Pv i ys H'->(∀ y H4,Pv (i+1) (ys++[y]) H4->K1 y H4)->(∀ H3,Pv (i+1) ys H3->K0 H3) →
   g x (compSt own fr σ) H' fun σ2 H2=>tt σ2 H2 fun b H3=>if b=true then te σ2 H3 K1 else K0 H3)
  (hd:∀ H' p ys,Pv xs.length ys H'->ys.length≤xs.length->H' p=none->Q (.ref p) (upd H' p (.lst ys))):LCb own fr g tt te σ Q (Itl K a) H:=by
 refine ⟨fun i m ys H=>m=xs.length - i/\i≤xs.length/\ys.length≤i/\Pv i ys H,⟨xs.length,by simp,Nat.zero_le _,Nat.zero_le _,h0⟩,?_⟩;rintro i m ys H ⟨rfl,hi,hy,p⟩
 by_cases hlt:i<xs.length
 ·refine .inr ⟨⟨xs,xs[i],hl _ _ H p,by simp [hlt]⟩,by omega,fun x H' y=>?_⟩
  obtain ⟨rfl,y⟩:=y;have hc:=y xs (hl _ _ _ p)
  refine hs i x ys H' _ _ hc p (fun y H4 p4=>⟨xs.length - (i+1),by omega,rfl,hlt,?_,p4⟩) fun H3 p3=>⟨xs.length - (i+1),by omega,rfl,hlt,by omega,p3⟩
  rw [qg,ql];omega
 ·have e:i=xs.length:=by omega
  subst e;exact .inl ⟨⟨xs,hl _ _ H p,qc _⟩,fun q hq=>hd H q ys p hy hq⟩
section
variable {X:Cx} {pins:List (Addr×Obj)} {σ:St} {H:Hp} {s:Shared}
end
section
variable {X:Cx} {K:PySem.W.Frag}
theorem xAqc (h:X.K=K):IxR X (rIxL K):=h▸xAaw
theorem xAcp (h:X.K=K):IxR X (rIxT K):=h▸xAdd
end
theorem SqL.same {K:PySem.W.Frag} {H H':Hp} {a:Addr} {xs:List V} (h:SqL K H a xs) (s:Same H H'):SqL K H' a xs:=by
 rcases h with (h | ⟨o,h⟩) | h
 ·exact .inl (.inl (s _ _ h))
 ·exact .inl (.inr ⟨o,s _ _ h⟩)
 ·exact .inr h
section
variable {X:Cx}
end
mutual
inductive DV (K:PySem.W.Frag) (H:Hp):V->PyData->Prop
 | non:DV K H .non .none
 | bl (b:Bool):DV K H (.bl b) (.bool b)
 | int (i:Int):DV K H (.int i) (.int i)
 | str (z:Str):DV K H (.str z) (.str z)
 | lst {p:Addr} {xs:List V} {ds:List PyData}:SqL K H p xs->DVs K H xs ds->DV K H (.ref p) (.list ds)
 | tup {p:Addr} {xs:List V} {ds:List PyData}:SqT K H p xs->DVs K H xs ds->DV K H (.ref p) (.tuple ds)
inductive DVs (K:PySem.W.Frag) (H:Hp):List V->List PyData->Prop
 | nil:DVs K H [] []
 | cons {x:V} {xs:List V} {d:PyData} {ds:List PyData}:DV K H x d->DVs K H xs ds->DVs K H (x::xs) (d::ds)
end
section
variable {X:Cx} {pins:List (Addr×Obj)} {σ:St} {H H':Hp} {s:Shared} {K:PySem.W.Frag}
theorem SqT.same {a:Addr} {xs:List V} (h:SqT K H a xs) (s:Same H H'):SqT K H' a xs:=by
 rcases h with (h | ⟨o,h⟩) | h
 ·exact .inl (.inl (s _ _ h))
 ·exact .inl (.inr ⟨o,s _ _ h⟩)
 ·exact .inr h
mutual
theorem DV.same (e:Same H H'):∀ {x:V} {d:PyData},DV K H x d->DV K H' x d
 | _,_,.non=>.non
 | _,_,.bl b=>.bl b
 | _,_,.int i=>.int i
 | _,_,.str z=>.str z
 | _,_,.lst h t=>.lst (h.same e) (DVs.same e t)
 | _,_,.tup h t=>.tup (h.same e) (DVs.same e t)
theorem DVs.same (e:Same H H'):∀ {xs:List V} {ds:List PyData},DVs K H xs ds->DVs K H' xs ds
 | _,_,.nil=>.nil
 | _,_,.cons h t=>.cons (DV.same e h) (DVs.same e t)
end
mutual
theorem DV.reads (I:Inv X pins σ H s):∀ {x:V} {d:PyData} {v:Value},DV X.K H x d->RelV x v->∃ as,Reads s.heap v d as
 | _,_,_,.non,r=>by cases r;exact ⟨_,.none⟩
 | _,_,_,.bl b,r=>by cases r;exact ⟨_,.bool b⟩
 | _,_,_,.int i,r=>by obtain ⟨t,rfl⟩:=r;exact ⟨_,.int i t⟩
 | _,_,_,.str z,r=>by obtain ⟨t,rfl⟩:=r;exact ⟨_,.str z t⟩
 | _,_,_,.lst h t,r=>by
  cases r;obtain ⟨its,rv,⟨o,n,e1,e2,_,e3⟩,_⟩:=I.list h;obtain ⟨as,ra⟩:=DVs.reads I t rv;exact ⟨_,.list e1 e2 e3 (by simpa using ra)⟩
 | _,_,_,.tup h t,r=>by
  cases r;obtain ⟨its,rv,⟨o,e1,e2,n,e3⟩,_⟩:=I.tuple h;obtain ⟨as,ra⟩:=DVs.reads I t rv;exact ⟨_,.tuple e1 e2 e3 (by simpa using ra)⟩
theorem DVs.reads (I:Inv X pins σ H s):∀ {xs:List V} {ds:List PyData} {vs:List Value},DVs X.K H xs ds->Vals xs vs->∃ as,ReadsAll s.heap vs ds as
 | _,_,_,.nil,r=>by cases r;exact ⟨_,.nil⟩
 | _,_,_,.cons h t,r=>by
  cases r with
  | cons r1 r2 =>
   obtain ⟨as,a⟩:=DV.reads I h r1;obtain ⟨bs,b⟩:=DVs.reads I t r2;exact ⟨_,.cons a b⟩
end
def rEqD (K:PySem.W.Frag) (u:Nat) (neg:Bool):R2:=fun x y H Q=>∃ dx dy,DV K H x dx/\DV K H y dy/\dx.canLay0=true/\dy.canLay0=true/\min dx.depth dy.depth≤u/\Q (.bl (if neg then !PyData.eqv dx dy else PyData.eqv dx dy)) H
theorem xAep {u:Nat} (hu:X.A.units+u<cLine):OpR X (compareOp .Eq) (rEqD X.K u false):=by
 intro pins s σ H x y v w Q I rx ry h;obtain ⟨dx,dy,hx,hy,cx,cy,hd,q⟩:=h;obtain ⟨as,ra⟩:=hx.reads I rx;obtain ⟨bs,rb⟩:=hy.reads I ry;exact SeqAt.compareEq_reads ra rb cx cy (by omega) ⟨.bl _,H,I,rfl,q⟩
theorem xAkq {u:Nat} (hu:X.A.units+u<cLine):OpR X (compareOp .NotEq) (rEqD X.K u true):=by
 intro pins s σ H x y v w Q I rx ry h;obtain ⟨dx,dy,hx,hy,cx,cy,hd,q⟩:=h;obtain ⟨as,ra⟩:=hx.reads I rx;obtain ⟨bs,rb⟩:=hy.reads I ry;exact SeqAt.compareNe_reads ra rb cx cy (by omega) ⟨.bl _,H,I,rfl,q⟩
theorem xAbh {h:Heap}:∀ {vs:List Value} {ds:List PyData} {as:List Addr} {j:Nat} {v:Value},ReadsAll h vs ds as->vs[j]?=some v->∃ d bs,ds[j]?=some d/\Reads h v d bs
 | _,_,_,_,_,.nil,e=>by cases e
 | _,_,_,0,_,.cons r t,e=>by cases e;exact ⟨_,_,rfl,r⟩
 | _,_,_,j+1,_,.cons r t,e=>by
  obtain ⟨d,bs,h1,h2⟩:=xAbh (j:=j) t (by simpa using e);exact ⟨d,bs,by simpa using h1,h2⟩
theorem xAdc:∀ {ds:List PyData} {j:Nat} {d:PyData},PyData.canLayAll0 ds=true->ds[j]?=some d->d.canLay0=true
 | [],_,_,_,e=>by cases e
 | d::ds,0,_,h,e=>by
  cases e;have h':(d.canLay0&&PyData.canLayAll0 ds)=true:=h;rw [za] at h';exact h'.1
 | d::ds,j+1,d',h,e=>by
  have h':(d.canLay0&&PyData.canLayAll0 ds)=true:=h;rw [za] at h';exact xAdc h'.2 (by simpa using e)
open Classical in
noncomputable def alike (vs:List Value) (ds:List PyData) (dx:PyData) (y:Value):Bool:=decide (∃ (j:Nat) (d:PyData),vs[j]?=some y/\ds[j]?=some d/\PyData.eqv d dx=true)
open Classical in
theorem xAby {h:Heap} {vs:List Value} {ds:List PyData} {as:List Addr} {dx:PyData} (r:ReadsAll h vs ds as) (c:PyData.canLayAll0 ds=true) {j:Nat} {y:Value} {d:PyData} (e:vs[j]?=some y) (ed:ds[j]?=some d):alike vs ds dx y=PyData.eqv d dx:=by
 unfold alike
 cases q:PyData.eqv d dx with
 | true=>exact decide_eq_true ⟨j,d,e,ed,q⟩
 | false =>
  refine decide_eq_false fun ⟨j',d',e',ed',q'⟩=>?_;obtain ⟨d1,b1,x1,r1⟩:=xAbh r e;obtain ⟨d2,b2,x2,r2⟩:=xAbh r e';rw [ed] at x1;cases x1;rw [ed'] at x2;cases x2;have:=SeqAt.Reads.unique _ _ _ _ _ (xAdc c ed) r1 r2;rw [← this,q] at q';cases q'
theorem xAhu {h:Heap} {dx:PyData} {vs:List Value} {ds:List PyData} {as:List Addr} (r:ReadsAll h vs ds as) (c:PyData.canLayAll0 ds=true):vs.any (alike vs ds dx)=ds.any fun d=>PyData.eqv d dx:=by
 have hl:=SeqAt.ReadsAll.length _ _ _ r;rw [wx,wg,wg];constructor
 ·rintro ⟨y,hy,q⟩
  obtain ⟨j,hj,e⟩:=qt.mp hy;obtain ⟨d,_,ed,_⟩:=xAbh r (j:=j) (by rw [qe hj,e]);rw [xAby r c (by rw [qe hj,e]) ed] at q;exact ⟨d,qo ed,q⟩
 ·rintro ⟨d,hd,q⟩
  obtain ⟨j,hj,e⟩:=qt.mp hd
  have hj':j<vs.length:=by omega
  refine ⟨vs[j],zw hj',?_⟩;rw [xAby r c (qe hj') (by rw [qe hj,e])];exact q
def rInD (K:PySem.W.Frag) (u:Nat) (neg:Bool):R2:=fun x y H Q=>∃ dx p ds xs,DV K H x dx/\y=.ref p/\(SqL K H p xs\/SqT K H p xs)/\DVs K H xs ds/\dx.canLay0=true/\PyData.canLayAll0 ds=true/\dx.depth≤u ∧
 Q (.bl (if neg then !(ds.any fun d=>PyData.eqv d dx) else ds.any fun d=>PyData.eqv d dx)) H
theorem xAqd {u:Nat} (hu:X.A.units+1+u<cLine):OpR X (compareOp .In) (rInD X.K u false):=by
 intro pins s σ H x y v w Q I rx ry h;obtain ⟨dx,p,ds,xs,hx,rfl,hq,hs,cx,cs,hd,q⟩:=h;cases ry;obtain ⟨as,ra⟩:=hx.reads I rx
 have key:∀ {its:List Value},Vals xs its->(∀ y∈its,SeqAt.EqAt X.A.in1 s y v (alike its ds dx y))/\its.any (alike its ds dx)=ds.any fun d=>PyData.eqv d dx:=fun {its} rv=>by
  obtain ⟨bs,rb⟩:=hs.reads I rv;refine ⟨fun y hy=>?_,xAhu rb cs⟩;obtain ⟨j,hj,e⟩:=qt.mp hy
  have ej:its[j]?=some y:=by rw [qe hj,e]
  obtain ⟨d,_,ed,rd⟩:=xAbh rb ej;rw [xAby rb cs ej ed];exact SeqAt.eqAt_reads d dx _ s y v _ _ rd ra (xAdc cs ed) cx (by show X.A.units+1+_<cLine;omega)
 rcases hq with hq | hq
 ·obtain ⟨its,r,pl,hz⟩:=I.list hq
  obtain ⟨k1,k2⟩:=key r;refine SeqAt.in_listAt (alike its ds dx) pl.isList (fun w hw=>k1 w (by simpa using hw)) ⟨.bl _,H,I,rfl,?_⟩;rw [yb,k2];exact q
 ·obtain ⟨its,r,pl,hz⟩:=I.tuple hq
  obtain ⟨k1,k2⟩:=key r;refine SeqAt.in_tupleAt (alike its ds dx) pl (fun w hw=>k1 w (by simpa using hw)) ⟨.bl _,H,I,rfl,?_⟩;rw [yb,k2];exact q
theorem xAhv {u:Nat} (hu:X.A.units+1+u<cLine):OpR X (compareOp .NotIn) (rInD X.K u true):=by
 intro pins s σ H x y v w Q I rx ry h;obtain ⟨dx,p,ds,xs,hx,rfl,hq,hs,cx,cs,hd,q⟩:=h;cases ry;obtain ⟨as,ra⟩:=hx.reads I rx
 have key:∀ {its:List Value},Vals xs its->(∀ y∈its,SeqAt.EqAt X.A.in1 s y v (alike its ds dx y))/\its.any (alike its ds dx)=ds.any fun d=>PyData.eqv d dx:=fun {its} rv=>by
  obtain ⟨bs,rb⟩:=hs.reads I rv;refine ⟨fun y hy=>?_,xAhu rb cs⟩;obtain ⟨j,hj,e⟩:=qt.mp hy
  have ej:its[j]?=some y:=by rw [qe hj,e]
  obtain ⟨d,_,ed,rd⟩:=xAbh rb ej;rw [xAby rb cs ej ed];exact SeqAt.eqAt_reads d dx _ s y v _ _ rd ra (xAdc cs ed) cx (by show X.A.units+1+_<cLine;omega)
 rcases hq with hq | hq
 ·obtain ⟨its,r,pl,hz⟩:=I.list hq
  obtain ⟨k1,k2⟩:=key r;refine SeqAt.notIn_listAt (alike its ds dx) pl.isList (fun w hw=>k1 w (by simpa using hw)) ⟨.bl _,H,I,rfl,?_⟩;rw [yb,k2];exact q
 ·obtain ⟨its,r,pl,hz⟩:=I.tuple hq
  obtain ⟨k1,k2⟩:=key r;refine SeqAt.notIn_tupleAt (alike its ds dx) pl (fun w hw=>k1 w (by simpa using hw)) ⟨.bl _,H,I,rfl,?_⟩;rw [yb,k2];exact q
def rIndexD (K:PySem.W.Frag) (u:Nat):V->List V->Hp->VK->Prop:=fun o vs H Q=>∃ x dx p ds xs,∃ j:Nat,vs=[x]/\o=.ref p/\DV K H x dx/\SqL K H p xs/\DVs K H xs ds/\dx.canLay0=true/\PyData.canLayAll0 ds=true/\dx.depth≤u ∧
 (∃ d,ds[j]?=some d/\PyData.eqv d dx=true)/\(∀ (m:Nat) d,m<j->ds[m]?=some d->PyData.eqv d dx=false)/\Q (.int (j:Int)) H
theorem xAnl {u:Nat} (hu:X.A.units+3+u<cLine):MtM X "list.index" (rIndexD X.K u):=by
 intro pins s σ H o vs v us Q I ro rv h;obtain ⟨x,dx,p,ds,xs,j,rfl,rfl,hx,hq,hs,cx,cs,hd,⟨d,hj,ed⟩,hno,q⟩:=h;cases ro;obtain ⟨w,rfl,rw'⟩:=rv.one;obtain ⟨as,ra⟩:=hx.reads I rw';obtain ⟨its,r,pl,hz⟩:=I.list hq;obtain ⟨⟨cls,dict,data,sl⟩,n,e,c1,c2,c3⟩:=pl;dsimp only at c1 c2 c3;subst c1 c2 c3;obtain ⟨bs,rb⟩:=hs.reads I r;have hlen:=SeqAt.ReadsAll.length _ _ _ rb
 have hj':j<its.length:=by
  have:=(qv.mp hj).1;omega
 have hl:=r.length
 have hbig:sizeLine<2 ^ 63 - 1:=by decide
 refine call_meets F.slot_list_index ⟨_,e,rfl⟩ F.entry_list_index (F.args_list_index_2 _ _) (SeqAt.list_indexAt p its.toArray n none sl w (alike its ds dx) j (by simpa using hj') (by omega) ?_ ?_) ⟨e,fun y hy=>?_,?_⟩
 ·rw [jh,xAby rb cs (qe hj') hj]
  exact ed
 ·intro m hm hmj
  have hm':m<its.length:=by simpa using hm
  obtain ⟨d',_,ed',_⟩:=xAbh rb (qe hm');rw [jh,xAby rb cs (qe hm') ed'];exact hno m d' hmj ed'
 ·have hy:y∈its:=by simpa using hy
  obtain ⟨m,hm,em⟩:=qt.mp hy
  have ej:its[m]?=some y:=by rw [qe hm,em]
  obtain ⟨d',_,ed',rd⟩:=xAbh rb ej;rw [xAby rb cs ej ed'];exact SeqAt.eqAt_reads d' dx _ s y w _ _ rd ra (xAdc cs ed') cx (by show X.A.units+1+_<cLine;omega)
 ·exact ⟨.int j,H,I.tok _,⟨_,rfl⟩,q⟩
def rCountD (K:PySem.W.Frag) (u:Nat):V->List V->Hp->VK->Prop:=fun o vs H Q=>∃ x dx p ds xs,vs=[x]/\o=.ref p/\DV K H x dx/\SqL K H p xs/\DVs K H xs ds/\dx.canLay0=true/\PyData.canLayAll0 ds=true/\dx.depth≤u ∧
 Q (.int ((ds.countP fun d=>PyData.eqv d dx:Nat):Int)) H
theorem xAgm {h:Heap} {dx:PyData} {vs:List Value} {ds:List PyData} {as:List Addr} (f:Value->Bool) (r:ReadsAll h vs ds as):(∀ (j:Nat) y d,vs[j]?=some y->ds[j]?=some d->f y=PyData.eqv d dx)->vs.countP f=ds.countP fun d=>PyData.eqv d dx:=by
 intro hf
 induction vs generalizing ds as with
 | nil=>cases r;rfl
 | cons v vs ih =>
  cases r with
  | cons r1 r2 =>
   rw [List.countP_cons,List.countP_cons,hf 0 _ _ rfl rfl,ih r2 fun j y d e1 e2=>hf (j+1) y d (by simpa using e1) (by simpa using e2)]
theorem xAnm {u:Nat} (hu:X.A.units+3+u<cLine):MtM X "list.count" (rCountD X.K u):=by
 intro pins s σ H o vs v us Q I ro rv h;obtain ⟨x,dx,p,ds,xs,rfl,rfl,hx,hq,hs,cx,cs,hd,q⟩:=h;cases ro;obtain ⟨w,rfl,rw'⟩:=rv.one;obtain ⟨as,ra⟩:=hx.reads I rw';obtain ⟨its,r,pl,hz⟩:=I.list hq;obtain ⟨⟨cls,dict,data,sl⟩,n,e,c1,c2,c3⟩:=pl;dsimp only at c1 c2 c3;subst c1 c2 c3;obtain ⟨bs,rb⟩:=hs.reads I r;refine call_meets F.slot_list_count ⟨_,e,rfl⟩ F.entry_list_count (F.args_list_count_2 _ _) (SeqAt.list_countAt p its.toArray n none sl w (alike its ds dx)) ⟨e,fun y hy=>?_,?_⟩
 ·have hy:y∈its:=by simpa using hy
  obtain ⟨m,hm,em⟩:=qt.mp hy
  have ej:its[m]?=some y:=by rw [qe hm,em]
  obtain ⟨d',_,ed',rd⟩:=xAbh rb ej;rw [xAby rb cs ej ed'];exact SeqAt.eqAt_reads d' dx _ s y w _ _ rd ra (xAdc cs ed') cx (by show X.A.units+1+_<cLine;omega)
 ·refine ⟨.int _,H,I.tok _,⟨_,rfl⟩,?_⟩
  rw [List.toList_toArray,xAgm (dx:=dx) _ rb fun j y d e1 e2=>xAby rb cs e1 e2];exact q
end
section
variable {X:Cx}
end
section
variable {X:Cx} {K:PySem.W.Frag} {u:Nat}
theorem xAsk (h:X.K=K) (hu:X.A.units+1+u<cLine):OpR X (compareOp .In) (rInD K u false):=h▸xAqd hu
end
theorem hu64 {A:Around} {k:Nat} (hr:Room k A):A.units+64<cLine:=hr.units
theorem hu63 {A:Around} {k:Nat} (hr:Room k A):A.units+1+63<cLine:=by have:=hr.units;omega
theorem hu61 {A:Around} {k:Nat} (hr:Room k A):A.units+3+61<cLine:=by have:=hr.units;omega
section
variable {X:Cx}
end
section
variable {X:Cx}
end
section
variable {X:Cx} {tg:Expr}
end
section
variable {P:Program} {w:World} {A:Around} {E:Value->Shared->Prop} {s:Shared}
end
section
variable {X:Cx}
end
theorem xAkr {X:Cx} {K:PySem.W.Frag} (h:X.K=K):CallR X (.type "list") (rLstA K):=h▸xAnk
section
variable {X:Cx}
end
section
variable {X:Cx}
end
section
variable {X:Cx}
end
end L2
set_option maxHeartbeats 40000000
namespace Srt
open PySem PySem.W PyProof.Rows
def Ok {α:Type} (n:Nat) (lt:Nat->Nat->Bool) (P:α->Prop):KasT α->Prop
 | .ret a=>P a
 | .ask i j k=>i<n/\j<n/\Ok n lt P (k (lt i j))
section
variable {α β:Type} {n:Nat} {lt:Nat->Nat->Bool}
theorem Ok.mono {P R:α->Prop} (h:∀ a,P a->R a):∀ {t:KasT α},Ok n lt P t->Ok n lt R t
 | .ret _,q=>h _ q
 | .ask _ _ _,q=>⟨q.1,q.2.1,Ok.mono h q.2.2⟩
theorem Ok.bind {R:β->Prop} {f:α->KasT β}:∀ {t:KasT α},Ok n lt (fun a=>Ok n lt R (f a)) t->Ok n lt R (t.bind f)
 | .ret _,q=>q
 | .ask _ _ k,q=>⟨q.1,q.2.1,Ok.bind (t:=k _) q.2.2⟩
theorem Ok.wp {P:α->Prop} {cmp:Nat->Nat->(Bool->Shared->Prop)->Shared->Prop} {s:Shared} {Q:α->Shared->Prop} (hc:∀ i j C,i<n->j<n->C (lt i j) s->cmp i j C s) (hq:∀ a,P a->Q a s) :
  ∀ {t:KasT α},Ok n lt P t->t.kasWp cmp Q s
 | .ret _,q=>hq _ q
 | .ask i j k,q=>hc i j _ q.1 q.2.1 (Ok.wp hc hq (t:=k _) q.2.2)
end
structure Swo (lt:Nat->Nat->Bool):Prop where
 irr:∀ a,lt a a=false
 tr:∀ a b c,lt a b=true->lt b c=true->lt a c=true
 nt:∀ a b c,lt a c=true->lt a b=true\/lt b c=true
section
variable {n:Nat} {lt:Nat->Nat->Bool} (W:Swo lt)
include W
theorem Swo.le_of_lt {a b:Nat} (h:lt a b=true):lt b a=false:=by
 cases e:lt b a with
 | false=>rfl
 | true=>rw [← W.irr a,← W.tr a b a h e]
theorem Swo.le_tr {a b c:Nat} (h1:lt b a=false) (h2:lt c b=false):lt c a=false:=by
 cases e:lt c a with
 | false=>rfl
 | true=>rcases W.nt c b a e with q | q
         ·rw [q] at h2;cases h2
         ·rw [q] at h1;cases h1
theorem Swo.lt_le {a b c:Nat} (h1:lt a b=true) (h2:lt c b=false):lt a c=true:=by
 rcases W.nt a c b h1 with q | q
 ·exact q
 ·rw [q] at h2;cases h2
end
abbrev g (p:Array Nat) (i:Nat):Nat:=p.getD i 0
def Up (lt:Nat->Nat->Bool) (p:Array Nat) (n:Nat):Prop:=∀ i j,i≤j->j<n->lt (g p j) (g p i)=false
def Dn (lt:Nat->Nat->Bool) (p:Array Nat) (n:Nat):Prop:=∀ i j,i≤j->j<n->lt (g p i) (g p j)=false
def Bd (n:Nat) (p:Array Nat):Prop:=p.size=n/\∀ i,g p i<n
theorem g_of {p q:Array Nat} {i j:Nat} (h:p[i]?=q[j]?):g p i=g q j:=by
 unfold g;rw [wz,wz,h]
theorem xAdn {n:Nat} {p q:Array Nat} (hn:0<n) (h:q.Perm p) (b:Bd n p):Bd n q:=by
 refine ⟨by rw [h.size_eq];exact b.1,fun i=>?_⟩;unfold g;rw [wz]
 cases e:q[i]? with
 | none=>exact hn
 | some x =>
  have hx:x∈q:=Array.mem_of_getElem? e;have hx2:x∈p:=(h.mem_iff).mp hx;obtain ⟨j,hj,ej⟩:=Array.mem_iff_getElem.mp hx2;have:=b.2 j;unfold g at this;rw [wz,zx hj,ej] at this;exact this
section
variable {n:Nat} {lt:Nat->Nat->Bool} (W:Swo lt) (hn:0<n)
theorem xAsl {p:Array Nat} {k:Nat} (W:Swo lt) (h0:1≤k) (h:Up lt p k) (hk:lt (g p k) (g p (k - 1))=false):Up lt p (k+1):=by
 intro i j hij hj
 by_cases e:j=k
 ·subst e
  by_cases e2:i=j
  ·subst e2;exact W.irr _
  ·exact W.le_tr (h i (j - 1) (by omega) (by omega)) hk
 ·exact h i j hij (by omega)
theorem xAft {p:Array Nat} {k:Nat} (W:Swo lt) (h0:1≤k) (h:Dn lt p k) (hk:lt (g p (k - 1)) (g p k)=false):Dn lt p (k+1):=by
 intro i j hij hj
 by_cases e:j=k
 ·subst e
  by_cases e2:i=j
  ·subst e2;exact W.irr _
  ·exact W.le_tr hk (h i (j - 1) (by omega) (by omega))
 ·exact h i j hij (by omega)
theorem xAqe (W:Swo lt) {p:Array Nat} (b:Bd n p):∀ (f k:Nat),1≤k->Up lt p k->Ok n lt (fun m=>k≤m/\m≤k+f/\Up lt p m/\(m<k+f->lt (g p m) (g p (m - 1))=true)) (kas_asc p f k)
 | 0,k,_,h=>⟨Nat.le_refl _,Nat.le_refl _,h,fun z=>absurd z (by simp)⟩
 | f+1,k,h0,h=>by
  refine ⟨b.2 _,b.2 _,?_⟩
  cases e:lt (p.getD k 0) (p.getD (k - 1) 0) with
  | true =>
   show Ok n lt _ (if true=true then _ else _);rw [if_pos rfl];exact ⟨qc _,Nat.le_add_right _ _,h,fun _=>e⟩
  | false =>
   show Ok n lt _ (if false=true then _ else _);rw [if_neg (by decide)]
   exact (xAqe W b f (k+1) (by omega) (xAsl W h0 h e)).mono fun m hm=>⟨by omega,by omega,hm.2.2.1,fun z=>hm.2.2.2 (by omega)⟩
theorem xAgn {p:Array Nat} {i j:Nat} (W:Swo lt) (hj:j≤p.size) (he:∀ k,i≤k->k<j->lt (g p k) (g p (j - 1))=false/\lt (g p (j - 1)) (g p k)=false) (k:Nat) :
  lt (g (kas_rev p i j) k) (g p k)=false/\lt (g p k) (g (kas_rev p i j) k)=false:=by
 have e:=getElem?_mirror_all (i:=i) hj k
 by_cases h:i≤k/\k<j
 ·rw [if_pos h] at e
  have e':g (kas_rev p i j) k=g p (i+j - 1 - k):=g_of e;rw [e'];have a:=he (i+j - 1 - k) (by omega) (by omega);have c:=he k h.1 h.2;exact ⟨W.le_tr c.2 a.1,W.le_tr a.2 c.1⟩
 ·rw [if_neg h] at e
  have e':g (kas_rev p i j) k=g p k:=g_of e;rw [e'];exact ⟨W.irr _,W.irr _⟩
theorem xAks {p q:Array Nat} {k:Nat} (W:Swo lt) (hl:∀ i,lt (g q i) (g p i)=false/\lt (g p i) (g q i)=false) (h:Dn lt p k):Dn lt q k:=fun i j hij hj =>
 W.le_tr (W.le_tr (hl j).2 (h i j hij hj)) (hl i).1
theorem rev_up {p:Array Nat} {k:Nat} (hk:k≤p.size) (h:Dn lt p k):Up lt (kas_rev p 0 k) k:=by
 intro i j hij hj;have e1:=getElem?_mirror_all (i:=0) hk i;have e2:=getElem?_mirror_all (i:=0) hk j;rw [if_pos ⟨q5 _,by omega⟩] at e1 e2;have e1':g (kas_rev p 0 k) i=g p (0+k - 1 - i):=g_of e1;have e2':g (kas_rev p 0 k) j=g p (0+k - 1 - j):=g_of e2;rw [e1',e2'];exact h _ _ (by omega) (by omega)
theorem xAeq (p:Array Nat) (i j:Nat):(kas_rev p i j).Perm p:=mirror_perm p i j _
def Like (lt:Nat->Nat->Bool) (p:Array Nat) (k q:Nat):Prop:=q+1≤k/\∀ m,k - (q+1)≤m->m<k->lt (g p m) (g p (k - 1))=false/\lt (g p (k - 1)) (g p m)=false
theorem like0 {p:Array Nat} {k:Nat} (W:Swo lt) (h:1≤k):Like lt p k 0:=⟨by omega,fun m h1 h2=>by
 have:m=k - 1:=by omega
 subst this
 exact ⟨W.irr _,W.irr _⟩⟩
theorem xAhw (W:Swo lt) (hn:0<n):∀ (f:Nat) (p:Array Nat) (k q:Nat),Bd n p->1≤k->k+f≤n->Dn lt p k->Like lt p k q →
  Ok n lt (fun r=>r.1.Perm p/\k≤r.2.1/\r.2.1≤k+f/\Dn lt r.1 r.2.1/\Like lt r.1 r.2.1 r.2.2) (kas_desc f p k q)
 | 0,p,k,q,_,_,_,hd,hl=>⟨.refl _,qc _,qc _,hd,hl⟩
 | f+1,p,k,q,b,h0,hf,hd,hl=>by
  refine ⟨b.2 _,b.2 _,?_⟩
  cases e:lt (p.getD k 0) (p.getD (k - 1) 0) with
  | true =>
   show Ok n lt _ (if true=true then _ else _);rw [if_pos rfl]
   by_cases hq:q>0
   ·rw [if_pos hq]
    have hk:k≤p.size:=by rw [b.1];omega
    have lk:=xAgn W hk hl.2;have pm:=xAeq p (k - (q+1)) k
    have ek:g (kas_rev p (k - (q+1)) k) k=g p k:=g_of (by
     have:=getElem?_mirror_all (i:=k - (q+1)) hk k;rw [if_neg (by omega)] at this
     exact this)
    have d1:Dn lt (kas_rev p (k - (q+1)) k) (k+1):=xAft W h0 (xAks W lk hd) (by
     rw [ek]
     exact W.le_tr (W.le_of_lt e) (lk (k - 1)).1)
    exact (xAhw W hn f _ (k+1) 0 (xAdn hn pm b) (by omega) (by omega) d1 (like0 W (by omega))).mono fun r hr=>⟨hr.1.trans pm,by omega,by omega,hr.2.2.2⟩
   ·rw [if_neg hq]
    exact (xAhw W hn f p (k+1) 0 b (by omega) (by omega) (xAft W h0 hd (W.le_of_lt e)) (like0 W (by omega))).mono fun r hr=>⟨hr.1,by omega,by omega,hr.2.2.2⟩
  | false =>
   show Ok n lt _ (if false=true then _ else _);rw [if_neg (by decide)];refine ⟨b.2 _,b.2 _,?_⟩
   cases e2:lt (p.getD (k - 1) 0) (p.getD k 0) with
   | true =>
    show Ok n lt _ (if true=true then _ else _);rw [if_pos rfl];exact ⟨.refl _,qc _,Nat.le_add_right _ _,hd,hl⟩
   | false =>
    show Ok n lt _ (if false=true then _ else _);rw [if_neg (by decide)]
    refine (xAhw W hn f p (k+1) (q+1) b (by omega) (by omega) (xAft W h0 hd e2) ⟨by have:=hl.1;omega,fun m h1 h2=>?_⟩).mono fun r hr=>⟨hr.1,by omega,by omega,hr.2.2.2⟩
    show lt (g p m) (g p k)=false/\lt (g p k) (g p m)=false
    by_cases em:m=k
    ·subst em;exact ⟨W.irr _,W.irr _⟩
    ·have:=hl.2 m (by omega) (by omega)
     exact ⟨W.le_tr e2 this.1,W.le_tr this.2 e⟩
theorem xAkt (W:Swo lt) (hn:0<n) {p:Array Nat} {k:Nat} (b:Bd n p) (h1:1≤k) (hk:k≤n) (hd:Dn lt p k):Ok n lt (fun r=>1≤r.1/\r.1≤n/\r.2.Perm p/\Up lt r.2 r.1) (kas_tail3 k n p):=by
 unfold kas_tail3;have pm:=xAeq p 0 k;refine Ok.bind ((xAqe W (xAdn hn pm b) (n - k) k h1 (rev_up (by rw [b.1];exact hk) hd)).mono fun m hm=>?_);exact ⟨by omega,by omega,pm,hm.2.2.1⟩
theorem xAea (W:Swo lt) (hn:0<n) {p:Array Nat} {k:Nat} (b:Bd n p) (h1:1≤k) (hk:k+1≤n) (hd:Dn lt p (k+1)):Ok n lt (fun r=>1≤r.1/\r.1≤n/\r.2.Perm p/\Up lt r.2 r.1) (kas_descPart k n p):=by
 unfold kas_descPart;refine Ok.bind ((xAhw W hn (n - (k+1)) p (k+1) 0 b (by omega) (by omega) hd (like0 W (by omega))).mono fun r hr=>?_);obtain ⟨pm,a1,a2,dn,lk⟩:=hr;have br:=xAdn hn pm b
 split
 ·have hk':r.2.1≤r.1.size:=by rw [br.1];omega
  have pm2:=xAeq r.1 (r.2.1 - (r.2.2+1)) r.2.1;exact (xAkt W hn (xAdn hn pm2 br) (by omega) (by omega) (xAks W (xAgn W hk' lk.2) dn)).mono fun x hx=>⟨hx.1,hx.2.1,(hx.2.2.1.trans pm2).trans pm,hx.2.2.2⟩
 ·exact (xAkt W hn br (by omega) (by omega) dn).mono fun x hx=>⟨hx.1,hx.2.1,hx.2.2.1.trans pm,hx.2.2.2⟩
theorem xAku {p:Array Nat} {k:Nat} (W:Swo lt) (h:Up lt p k) (h0:lt (g p 0) (g p (k - 1))=false):Dn lt p k:=fun i j hij hj=>by
 have a:=h 0 i (by omega) (by omega);have c:=h j (k - 1) (by omega) (by omega);exact W.le_tr (W.le_tr c h0) a
theorem xAqf (W:Swo lt) (hn:0<n) {p:Array Nat} (b:Bd n p):Ok n lt (fun r=>1≤r.1/\r.1≤n/\r.2.Perm p/\Up lt r.2 r.1) (kas_count n p):=by
 unfold kas_count
 have u1:Up lt p 1:=fun i j hij hj=>by
  have:i=j:=by omega
  subst this;exact W.irr _
 refine Ok.bind ((xAqe W b (n - 1) 1 (by omega) u1).mono fun k hk=>?_);obtain ⟨h1,h2,up,h3⟩:=hk
 by_cases e:(k==n)=true
 ·rw [if_pos e]
  exact ⟨h1,by omega,.refl _,up⟩
 ·rw [if_neg e]
  have hne:k≠n:=fun z=>e (by rw [z];simp)
  have hlt:=h3 (by omega)
  by_cases hk1:k>1
  ·rw [if_pos hk1]
   refine ⟨b.2 _,b.2 _,?_⟩
   cases e2:lt (p.getD 0 0) (p.getD (k - 1) 0) with
   | true =>
    show Ok n lt _ (if true=true then _ else _);rw [if_pos rfl];exact ⟨h1,by show k≤n;omega,.refl _,up⟩
   | false =>
    show Ok n lt _ (if false=true then _ else _);rw [if_neg (by decide)]
    have hks:k≤p.size:=by rw [b.1];omega
    have dn:=xAku W up e2;have pm:=xAeq p 0 k
    have lk:=xAgn (i:=0) W hks fun m _ hm=>⟨dn m (k - 1) (by omega) (by omega) |> fun z=>z,up m (k - 1) (by omega) (by omega)⟩
    have ek:g (kas_rev p 0 k) k=g p k:=g_of (by
     have:=getElem?_mirror_all (i:=0) hks k;rw [if_neg (by omega)] at this
     exact this)
    have d1:Dn lt (kas_rev p 0 k) (k+1):=xAft W h1 (xAks W lk dn) (by
     rw [ek]
     exact W.le_tr (W.le_of_lt hlt) (lk (k - 1)).1)
    exact (xAea W hn (xAdn hn pm b) h1 (by omega) d1).mono fun r hr=>⟨hr.1,hr.2.1,hr.2.2.1.trans pm,hr.2.2.2⟩
  ·rw [if_neg hk1]
   have:k=1:=by omega
   subst this
   have d1:Dn lt p 1:=fun i j hij hj=>by
    have:i=j:=by omega
    subst this;exact W.irr _
   exact xAea W hn b h1 (by omega) (xAft W h1 d1 (W.le_of_lt hlt))
theorem xAgo (W:Swo lt) {p:Array Nat} {k:Nat} (b:Bd n p) (up:Up lt p k):∀ (f l r:Nat),l≤r->r≤k->r - l≤f->(∀ i,i<l->lt (g p k) (g p i)=false)->(∀ i,r≤i->i<k->lt (g p k) (g p i)=true) →
  Ok n lt (fun m=>m≤k/\(∀ i,i<m->lt (g p k) (g p i)=false)/\∀ i,m≤i->i<k->lt (g p k) (g p i)=true) (kas_place p k f l r)
 | 0,l,r,h1,h2,h3,hl,hr=>⟨by omega,hl,fun i hi hk=>hr i (by omega) hk⟩
 | f+1,l,r,h1,h2,h3,hl,hr=>by
  unfold kas_place
  by_cases e:l≥r
  ·rw [if_pos e]
   exact ⟨by omega,hl,fun i hi hk=>hr i (by omega) hk⟩
  ·rw [if_neg e]
   refine ⟨b.2 _,b.2 _,?_⟩
   cases e2:lt (p.getD k 0) (p.getD ((l+r) / 2) 0) with
   | true =>
    show Ok n lt _ (if true=true then _ else _);rw [if_pos rfl];exact xAgo W b up f l ((l+r) / 2) (by omega) (by omega) (by omega) hl fun i hi hk=>W.lt_le e2 (up _ i hi hk)
   | false =>
    show Ok n lt _ (if false=true then _ else _);rw [if_neg (by decide)];exact xAgo W b up f ((l+r) / 2+1) r (by omega) h2 (by omega) (fun i hi=>W.le_tr (up i ((l+r) / 2) (by omega) (by omega)) e2) hr
theorem xAsm (W:Swo lt) (hn:0<n):∀ (f:Nat) (p:Array Nat) (k:Nat),Bd n p->k+f=n->Up lt p k->Ok n lt (fun q=>q.Perm p/\Up lt q n) (kas_bin f p k)
 | 0,p,k,_,hk,up=>⟨.refl _,by rw [← hk];exact up⟩
 | f+1,p,k,b,hk,up=>by
  unfold kas_bin;refine Ok.bind ((xAgo W b up k 0 k (q5 _) (qc _) (by omega) (fun i hi=>absurd hi (by omega)) fun i h1 h2=>absurd h2 (by omega)).mono fun l hl=>?_);obtain ⟨l1,l2,l3⟩:=hl;have pm:=bubble_perm p k (k - l)
  have hs:k<p.size:=by rw [b.1];omega
  have at':∀ i,g (bubble p k (k - l)) i=if i=l then g p k else if l<i/\i≤k then g p (i - 1) else g p i:=fun i=>by
   have e:=getElem?_bubble hs (k - l) (by omega) i;rw [show k - (k - l)=l by omega] at e
   by_cases h1:i=l
   ·rw [if_pos h1] at e ⊢;exact g_of e
   ·rw [if_neg h1] at e ⊢
    by_cases h2:l<i/\i≤k
    ·rw [if_pos h2] at e ⊢;exact g_of e
    ·rw [if_neg h2] at e ⊢;exact g_of e
  have up2:Up lt (bubble p k (k - l)) (k+1):=by
   intro i j hij hj;rw [at' i,at' j]
   by_cases i1:i=l
   ·rw [if_pos i1]
    by_cases j1:j=l
    ·rw [if_pos j1];exact W.irr _
    ·rw [if_neg j1,if_pos ⟨by omega,by omega⟩]
     exact W.le_of_lt (l3 (j - 1) (by omega) (by omega))
   ·rw [if_neg i1]
    by_cases i2:l<i/\i≤k
    ·rw [if_pos i2,if_neg (by omega),if_pos ⟨by omega,by omega⟩]
     exact up _ _ (by omega) (by omega)
    ·rw [if_neg i2]
     by_cases j1:j=l
     ·rw [if_pos j1];exact l2 i (by omega)
     ·rw [if_neg j1]
      by_cases j2:l<j/\j≤k
      ·rw [if_pos j2];exact up _ _ (by omega) (by omega)
      ·rw [if_neg j2];exact up _ _ (by omega) (by omega)
  exact (xAsm W hn f _ (k+1) (xAdn hn pm b) (by omega) up2).mono fun q hq=>⟨hq.1.trans pm,hq.2⟩
theorem sort_ok (W:Swo lt) (hn:0<n):Ok n lt (fun q=>q.Perm (List.toArray (List.range n))/\Up lt q n) (kas_sort n):=by
 unfold kas_sort
 have b:Bd n (List.toArray (List.range n)):=by
  refine ⟨by simp,fun i=>?_⟩;unfold g;rw [wz]
  by_cases h:i<n
  ·simp [h]
  ·simp [h,hn]
 refine Ok.bind ((xAqf W hn b).mono fun r hr=>?_);obtain ⟨h1,h2,pm,up⟩:=hr
 split
 ·rename_i hlt
  have e:max r.1 1=r.1:=by omega
  rw [e];exact (xAsm W hn _ _ _ (xAdn hn pm b) (by omega) up).mono fun q hq=>⟨hq.1.trans pm,hq.2⟩
 ·have e:r.1=n:=by omega
  exact ⟨pm,by rw [← e];exact up⟩
end
end Srt
namespace Tim
open PySem PySem.W PyProof.Rows Srt
abbrev S (κ:SortKind) (it:Array Keyed) (p:Array Nat) (pd:Array (Nat×Nat×Nat)) (m:Nat):SortSt:=SortSt.mk' κ (p.map (kas_item it)) pd m none
def Ans (prog:Program) (w:World) (A:Around) (s:Shared) (κ:SortKind) (it:Array Keyed) (n:Nat) (lt:Nat->Nat->Bool):Prop :=
 ∀ i j (C:Bool->Shared->Prop),i<n->j<n->C (lt i j) s->kas_cmp prog w A κ it i j C s
def In (n:Nat) (p:Array Nat):Prop:=∀ i,i<p.size->g p i<n
section
variable {prog:Program} {w:World} {A:Around} {E:Value->Shared->Prop} {s:Shared} {κ:SortKind} {it:Array Keyed} {n:Nat} {lt:Nat->Nat->Bool} {p:Array Nat} {pd:Array (Nat×Nat×Nat)} {mg:Nat}
theorem lt_ok (hq:Ans prog w A s κ it n lt) {i j:Nat} {st:SortSt} {Q:Option Bool->SortSt->Prop} (hk:kindOf st=κ) (hi:i<n) (hj:j<n) (h:Q (some (lt i j)) st):wpS (model prog w) A E s (lt' (kas_item it i) (kas_item it j)) Q st:=by
 rw [lt'_eq];refine wpS_bind (wpS_get ?_);rw [hk];refine wpS_bind (wpS_lift (wpAny_attempt (wpAny_mono (hq i j (fun b s'=>s'=s/\b=lt i j) hi hj ⟨rfl,rfl⟩) (fun c s' hc=>?_) fun _ _ hF=>hF.elim)));obtain ⟨rfl,rfl⟩:=hc;exact ⟨rfl,wpS_pure h⟩
theorem map_at {i:Nat} (hi:i<p.size):(p.map (kas_item it))[i]?=some (kas_item it (g p i)):=by
 have e:g p i=p[i]:=by unfold g;simp [Array.getD,hi]
 rw [e]
 simp [hi]
theorem xApb {i:Nat} {st:SortSt} {Q:Keyed->SortSt->Prop} (hi:i<p.size) (h:Q (kas_item it (g p i)) st):wpS (model prog w) A E s (elem' (p.map (kas_item it)) i) Q st:=by
 rw [elem'_eq,map_at hi];exact wpS_pure h
theorem xAsn (hq:Ans prog w A s κ it n lt) (hb:In n p) {i j:Nat} {Q:Option Bool->SortSt->Prop} (hi:i<p.size) (hj:j<p.size) (h:Q (some (lt (g p i) (g p j))) (S κ it p pd mg)):wpS (model prog w) A E s (ltAt' i j) Q (S κ it p pd mg):=by
 rw [ltAt'_eq];refine wpS_bind (wpS_get ?_);exact wpS_bind (xApb hi (wpS_bind (xApb hj (lt_ok hq rfl (hb i hi) (hb j hj) h))))
end
def UpL (lt:Nat->Nat->Bool) (lo:Nat) (p:Array Nat) (k:Nat):Prop:=∀ i j,lo≤i->i≤j->j<k->lt (g p j) (g p i)=false
section
variable {lt:Nat->Nat->Bool} {lo:Nat} {p:Array Nat}
theorem up1 (W:Swo lt):UpL lt lo p (lo+1):=fun i j h1 h2 h3=>by
 have:i=j:=by omega
 subst this;exact W.irr _
theorem xAqg {k:Nat} (W:Swo lt) (h0:lo+1≤k) (h:UpL lt lo p k) (hk:lt (g p k) (g p (k - 1))=false):UpL lt lo p (k+1):=by
 intro i j h1 hij hj
 by_cases e:j=k
 ·subst e
  by_cases e2:i=j
  ·subst e2;exact W.irr _
  ·exact W.le_tr (h i (j - 1) h1 (by omega) (by omega)) hk
 ·exact h i j h1 hij (by omega)
end
section
variable {prog:Program} {w:World} {A:Around} {E:Value->Shared->Prop} {s:Shared} {κ:SortKind} {it:Array Keyed} {n:Nat} {lt:Nat->Nat->Bool} {p:Array Nat} {pd:Array (Nat×Nat×Nat)} {mg:Nat} {lo nrem:Nat}
theorem xAqh (W:Swo lt) (hq:Ans prog w A s κ it n lt) (hb:In n p) {a:Nat} {Q:AscSt->SortSt->Prop} {f:Nat->AscSt->StateT SortSt Sem (ForInStep AscSt)} (hf:∀ x (k:Nat),f x (none,k)=(do
      let r ← ltAt' (lo+k) (lo+k - 1)
      match r with
      | some b=>if b=true then pure (ForInStep.done (none,k)) else pure (ForInStep.yield (none,k+1))
      | _=>pure (ForInStep.done (some none,k)))) (ha:1≤a) (han:a≤nrem) (hz:lo+nrem≤p.size) (hu:UpL lt lo p (lo+a))
  (h:∀ k,a≤k->k≤nrem->UpL lt lo p (lo+k)->(k<nrem->lt (g p (lo+k)) (g p (lo+k - 1))=true)->Q (none,k) (S κ it p pd mg)) :
  wpS (model prog w) A E s (forIn [a:nrem] ((none,a):AscSt) f) Q (S κ it p pd mg):=by
 refine wpS_forRange (I:=fun x c st'=>st'=S κ it p pd mg/\c=(none,x)/\UpL lt lo p (lo+x)) ?step ?fin ⟨rfl,rfl,hu⟩
 case fin =>
  rintro c st' ⟨rfl,rfl,hs'⟩;rw [show max a nrem=nrem by omega] at hs' ⊢;exact h nrem han (qc _) hs' fun z=>absurd z (zm _)
 case step =>
  rintro x c st' hax hxn ⟨rfl,rfl,hs'⟩;rw [hf];refine wpS_bind (xAsn hq hb (by omega) (by omega) ?_)
  cases e:lt (g p (lo+x)) (g p (lo+x - 1)) with
  | true =>
   dsimp only;rw [if_pos rfl];exact wpS_pure (h x hax (by omega) hs' fun _=>e)
  | false =>
   dsimp only;rw [if_neg (by decide)];exact wpS_pure ⟨rfl,rfl,xAqg (k:=lo+x) W (by omega) hs' e⟩
theorem wp_if {α:Type} {c:Prop} [Decidable c] {m1 m2:StateT SortSt Sem α} {Q:α->SortSt->Prop} {st:SortSt} (h1:c->wpS (model prog w) A E s m1 Q st) (h2:¬ c->wpS (model prog w) A E s m2 Q st):wpS (model prog w) A E s (if c then m1 else m2) Q st:=by
 by_cases h:c
 ·rw [if_pos h];exact h1 h
 ·rw [if_neg h];exact h2 h
end
section
variable {prog:Program} {w:World} {A:Around} {E:Value->Shared->Prop} {s:Shared} {κ:SortKind} {it:Array Keyed} {n:Nat} {lt:Nat->Nat->Bool} {p:Array Nat} {pd:Array (Nat×Nat×Nat)} {mg:Nat}
theorem xAhx:∀ (f n r:Nat),r≤1->minRun' f n r≤n+r
 | 0,n,r,_=>qc _
 | f+1,n,r,hr=>by
  rw [minRun'_succ]
  split
  ·exact qc _
  ·have:=xAhx f (n / 2) (max r (n % 2)) (by omega)
   omega
theorem xAnn (W:Swo lt) (hq:Ans prog w A s κ it n lt) (hb:In n p) {nrem:Nat} {Q:Option Nat->SortSt->Prop} (h1:1≤nrem) (hz:0+nrem≤p.size) (hu:UpL lt 0 p (0+nrem)) (h:Q (some nrem) (S κ it p pd mg)):wpS (model prog w) A E s (countRun' 0 nrem) Q (S κ it p pd mg):=by
 rw [countRun'_eq];refine wpS_bind (xAqh W hq hb (fun x k=>rfl) (qc 1) h1 hz (up1 W) fun k k1 k2 up hlt=>?_);dsimp only
 have hk:k=nrem:=by
  by_cases e:k=nrem
  ·exact e
  ·have:=hlt (by omega)
   rw [hu (0+k - 1) (0+k) (by omega) (by omega) (by omega)] at this;cases this
 rw [if_pos (by simpa using hk),hk];exact wpS_pure h
theorem runs_asc (W:Swo lt) (hq:Ans prog w A s κ it n lt) (hb:In n p) (hz:2≤p.size) (hu:UpL lt 0 p (0+p.size)) {Q:Unit->SortSt->Prop} (h:∀ pd m,Q () (S κ it p pd m)) :
  wpS (model prog w) A E s sortRuns' Q (S κ it p #[] 7):=by
 rw [sortRuns'_eq];refine wpS_bind (wpS_get ?_);have hs:(arrOf (S κ it p #[] 7)).size=p.size:=Array.size_map ..;dsimp only;rw [hs]
 refine wpS_bind (wpS_mono (wpS_forRange (I:=fun x c st'=>(x=0/\c=(none,0)/\st'=S κ it p #[] 7)\/(c=(none,p.size)/\st'=S κ it p #[(0,p.size,0)] 7))
  (Q:=fun c st'=>c=(none,p.size)/\st'=S κ it p #[(0,p.size,0)] 7) ?s0 ?f0 (.inl ⟨rfl,rfl,rfl⟩)) ?p0)
 case f0 =>
  rintro c st' (⟨hx,_,_⟩ | hh)
  ·omega
  ·exact hh
 case s0 =>
  rintro x c st' _ hx (⟨rfl,rfl,rfl⟩ | ⟨rfl,rfl⟩)
  ·dsimp only
   refine wp_if (fun hge=>absurd hge (by omega)) fun hlt=>?_;refine wpS_bind (xAnn W hq hb (by omega) (by omega) (by rw [vt];exact hu) ?_);dsimp only;refine wp_if (fun hlt2=>absurd hlt2 (by have:=xAhx p.size p.size 0 (by decide);omega)) fun hge2=>?_;refine wpS_bind (wpS_get ?_)
   split
   ·rename_i hc
    have hc:(none:Option (Nat×Nat×Nat))=_:=hc;cases hc
   ·refine wpS_bind (wpS_modify (wpS_pure (.inr ⟨?_,?_⟩)))
    ·rw [vt,yc]
    ·rw [vt];rfl
  ·dsimp only
   refine wp_if (fun hge=>wpS_pure ⟨rfl,rfl⟩) fun hlt=>absurd hlt (by omega)
 case p0 =>
  rintro c st' ⟨rfl,rfl⟩;dsimp only;refine wpS_bind (wpS_mono (wpS_forRange (I:=fun x c st'=>c=(none,())/\st'=S κ it p #[(0,p.size,0)] 7) (Q:=fun c st'=>c=(none,())/\st'=S κ it p #[(0,p.size,0)] 7) ?s1 (fun c st' z=>z) ⟨rfl,rfl⟩) ?p1)
  case s1 =>
   rintro y c st' _ hy ⟨rfl,rfl⟩;refine wpS_bind (wpS_get ?_);refine wp_if (fun hle=>wpS_pure ⟨rfl,rfl⟩) fun hgt=>absurd (show (1:Nat)≤1 from qc 1) hgt
  case p1 =>
   rintro c st' ⟨rfl,rfl⟩;exact wpS_pure (h _ _)
end
end Tim
namespace L2
open PySem PySem.Spec PyProof.Rows
mutual
inductive DT (H:Hp):V->PyData->Prop
 | non:DT H .non .none
 | bl (b:Bool):DT H (.bl b) (.bool b)
 | int (i:Int):DT H (.int i) (.int i)
 | str (z:Str):DT H (.str z) (.str z)
 | tup {p:Addr} {xs:List V} {ds:List PyData}:H p=some (.tup xs)->DTs H xs ds->DT H (.ref p) (.tuple ds)
inductive DTs (H:Hp):List V->List PyData->Prop
 | nil:DTs H [] []
 | cons {x:V} {xs:List V} {d:PyData} {ds:List PyData}:DT H x d->DTs H xs ds->DTs H (x::xs) (d::ds)
end
mutual
theorem DT.dv {K:PySem.W.Frag} {H:Hp}:∀ {x:V} {d:PyData},DT H x d->DV K H x d
 | _,_,.non=>.non
 | _,_,.bl b=>.bl b
 | _,_,.int i=>.int i
 | _,_,.str z=>.str z
 | _,_,.tup h t=>.tup (SqT.of h) (DTs.dv t)
theorem DTs.dv {K:PySem.W.Frag} {H:Hp}:∀ {xs:List V} {ds:List PyData},DTs H xs ds->DVs K H xs ds
 | _,_,.nil=>.nil
 | _,_,.cons h t=>.cons (DT.dv h) (DTs.dv t)
end
section
variable {H:Hp}
theorem xApc:∀ {xs:List V} {ds:List PyData},DTs H xs ds->xs.length=ds.length
 | _,_,.nil=>rfl
 | _,_,.cons _ t=>by rw [qx,qx,xApc t]
end
theorem xAso {H:Hp} {a b:Addr} {xs:List V} {o:HO} (ha:H a=some (.tup xs)) (hb:H b=some o) (ho:∀ ys,o≠.tup ys):a≠b:=fun e=>by
 subst e;rw [ha] at hb;exact ho xs (Option.some.inj hb).symm
mutual
def noB:PyData->Bool
 | .none=>true
 | .bool _=>false
 | .int _=>true
 | .str _=>true
 | .list xs=>noBs xs
 | .tuple xs=>noBs xs
 | .dict _=>false
def noBs:List PyData->Bool
 | []=>true
 | x::xs=>noB x&&noBs xs
end
mutual
theorem xAfu:∀ (a b:PyData),noB a=true->noB b=true->(PyData.eqv a b=true↔a=b)
 | .list xs,b,ha,hb=>by
  cases b with
  | list ys =>
   have:=xAgp xs ys (by simpa [noB] using ha) (by simpa [noB] using hb)
   simp only [PyData.eqv,this,PyData.list.injEq]
  | _=>simp [PyData.eqv]
 | .tuple xs,b,ha,hb=>by
  cases b with
  | tuple ys =>
   have:=xAgp xs ys (by simpa [noB] using ha) (by simpa [noB] using hb)
   simp only [PyData.eqv,this,PyData.tuple.injEq]
  | _=>simp [PyData.eqv]
 | .dict _,_,ha,_=>by simp [noB] at ha
 | .bool _,_,ha,_=>by simp [noB] at ha
 | .none,b,_,hb=>by cases b <;> simp_all [PyData.eqv,noB]
 | .int i,b,_,hb=>by cases b <;> simp_all [PyData.eqv,noB]
 | .str i,b,_,hb=>by cases b <;> simp_all [PyData.eqv,noB]
theorem xAgp:∀ (xs ys:List PyData),noBs xs=true->noBs ys=true->(PyData.eqvAll xs ys=true↔xs=ys)
 | [],ys,_,_=>by cases ys <;> simp [PyData.eqvAll]
 | x::xs,ys,ha,hb=>by
  cases ys with
  | nil=>simp [PyData.eqvAll]
  | cons y ys =>
   rw [noBs,za] at ha hb;have h1:=xAfu x y ha.1 hb.1;have h2:=xAgp xs ys ha.2 hb.2
   simp only [PyData.eqvAll,Bool.and_eq_true,h1,h2,List.cons.injEq]
end
theorem xAkv:∀ {xs:List PyData},(∀ x∈xs,noB x=true)->noBs xs=true
 | [],_=>rfl
 | x::xs,h=>by
  rw [noBs,h x qh,xAkv fun y hy=>h y (qr _ hy)];rfl
theorem xAbz:∀ {xs:List PyData},(∀ x∈xs,x.canLay0=true)->PyData.canLayAll0 xs=true
 | [],_=>rfl
 | x::xs,h=>by
  show (x.canLay0&&PyData.canLayAll0 xs)=true;rw [h x qh,xAbz fun y hy=>h y (qr _ hy)];rfl
theorem nd_add {α:Type} {l:List α} {x:α} (h:l.Nodup) (hx:x∉l):(l++[x]).Nodup :=
 zp.mpr ⟨h,ze.mpr ⟨fun z=>(List.not_mem_nil z).elim,zy⟩,fun a ha b hb e=>hx (by rw [qj.mp hb] at e;rw [← e];exact ha)⟩
mutual
def sk:PyData->PyData->Bool
 | .none,.none=>true
 | .bool _,.bool _=>true
 | .int _,.int _=>true
 | .str _,.str _=>true
 | .tuple xs,.tuple ys=>sks xs ys
 | _,_=>false
def sks:List PyData->List PyData->Bool
 | [],_=>true
 | _::_,[]=>true
 | x::xs,y::ys=>sk x y&&sks xs ys
end
mutual
def ltD:PyData->PyData->Bool
 | .bool a,.bool b=>!a&&b
 | .int i,.int j=>decide (i<j)
 | .str x,.str y=>decide (x.cps.toList<y.cps.toList)
 | .tuple xs,.tuple ys=>ltDs xs ys
 | _,_=>false
def ltDs:List PyData->List PyData->Bool
 | [],[]=>false
 | [],_::_=>true
 | _::_,[]=>false
 | x::xs,y::ys=>if PyData.eqv x y=true then ltDs xs ys else ltD x y
end
mutual
theorem sk_eq:∀ (a b:PyData),sk a b=true->(PyData.eqv a b=true↔a=b)
 | .tuple xs,b,h=>by
  cases b with
  | tuple ys=>simp only [PyData.eqv,PyData.tuple.injEq];exact xAqi xs ys (by simpa [sk] using h)
  | _=>simp [sk] at h
 | .none,b,h=>by cases b <;> simp_all [sk,PyData.eqv]
 | .bool _,b,h=>by cases b <;> simp_all [sk,PyData.eqv]
 | .int _,b,h=>by cases b <;> simp_all [sk,PyData.eqv]
 | .str _,b,h=>by cases b <;> simp_all [sk,PyData.eqv]
 | .list _,b,h=>by cases b <;> simp [sk] at h
 | .dict _,b,h=>by cases b <;> simp [sk] at h
theorem xAqi:∀ (xs ys:List PyData),sks xs ys=true->(PyData.eqvAll xs ys=true↔xs=ys)
 | [],ys,_=>by cases ys <;> simp [PyData.eqvAll]
 | x::xs,[],_=>by simp [PyData.eqvAll]
 | x::xs,y::ys,h=>by
  rw [sks,za] at h
  simp only [PyData.eqvAll,Bool.and_eq_true,sk_eq x y h.1,xAqi xs ys h.2,List.cons.injEq]
end
theorem xAsp {x y:Str} (h:x.cps.toList=y.cps.toList):x=y:=by
 obtain ⟨a⟩:=x;obtain ⟨b⟩:=y;exact congrArg Str.mk (Array.ext' h)
mutual
theorem xAcq:∀ a:PyData,ltD a a=false
 | .tuple xs=>by rw [ltD];exact xAkw xs
 | .none=>rfl
 | .bool b=>by cases b <;> rfl
 | .int i=>by simp [ltD]
 | .str x=>by simp [ltD,List.lt_irrefl]
 | .list _=>rfl
 | .dict _=>rfl
theorem xAkw:∀ xs:List PyData,ltDs xs xs=false
 | []=>rfl
 | x::xs=>by
  rw [ltDs,xAkw xs,xAcq x]
  split <;> rfl
end
mutual
theorem xAkx:∀ (a b:PyData),sk a b=true->ltD a b=false->ltD b a=false->a=b
 | .tuple xs,b,h,h1,h2=>by
  cases b with
  | tuple ys=>exact congrArg PyData.tuple (xAky xs ys (by simpa [sk] using h) (by simpa [ltD] using h1) (by simpa [ltD] using h2))
  | _=>simp [sk] at h
 | .none,b,h,_,_=>by cases b <;> simp_all [sk]
 | .bool a,b,h,h1,h2=>by
  cases b with
  | bool c=>cases a <;> cases c <;> simp_all [ltD]
  | _=>simp [sk] at h
 | .int i,b,h,h1,h2=>by
  cases b with
  | int j=>simp only [ltD,decide_eq_false_iff_not] at h1 h2;exact congrArg _ (by omega)
  | _=>simp [sk] at h
 | .str x,b,h,h1,h2=>by
  cases b with
  | str y =>
   simp only [ltD,decide_eq_false_iff_not] at h1 h2
   exact congrArg _ (xAsp (List.le_antisymm (yy.mp h2) (yy.mp h1)))
  | _=>simp [sk] at h
 | .list _,b,h,_,_=>by cases b <;> simp [sk] at h
 | .dict _,b,h,_,_=>by cases b <;> simp [sk] at h
theorem xAky:∀ (xs ys:List PyData),sks xs ys=true->ltDs xs ys=false->ltDs ys xs=false->xs=ys
 | [],[],_,_,_=>rfl
 | [],_::_,_,h,_=>by simp [ltDs] at h
 | _::_,[],_,_,h=>by simp [ltDs] at h
 | x::xs,y::ys,h,h1,h2=>by
  rw [sks,za] at h
  by_cases e:x=y
  ·subst e
   have ex:PyData.eqv x x=true:=(sk_eq x x h.1).mpr rfl;rw [ltDs,if_pos ex] at h1 h2;rw [xAky xs ys h.2 h1 h2]
  ·have e1:¬ PyData.eqv x y=true:=fun z=>e ((sk_eq x y h.1).mp z)
   have hs:sk y x=true:=xApd x y h.1;have e2:¬ PyData.eqv y x=true:=fun z=>e ((sk_eq y x hs).mp z).symm;rw [ltDs,if_neg e1] at h1;rw [ltDs,if_neg e2] at h2;exact absurd (xAkx x y h.1 h1 h2) e
theorem xApd:∀ (a b:PyData),sk a b=true->sk b a=true
 | .tuple xs,b,h=>by
  cases b with
  | tuple ys=>rw [sk];exact xAkz xs ys (by simpa [sk] using h)
  | _=>simp [sk] at h
 | .none,b,h=>by cases b <;> simp_all [sk]
 | .bool _,b,h=>by cases b <;> simp_all [sk]
 | .int _,b,h=>by cases b <;> simp_all [sk]
 | .str _,b,h=>by cases b <;> simp_all [sk]
 | .list _,b,h=>by cases b <;> simp [sk] at h
 | .dict _,b,h=>by cases b <;> simp [sk] at h
theorem xAkz:∀ (xs ys:List PyData),sks xs ys=true->sks ys xs=true
 | [],[],_=>rfl
 | [],_::_,_=>rfl
 | _::_,[],_=>rfl
 | x::xs,y::ys,h=>by
  rw [sks,za] at h ⊢;exact ⟨xApd x y h.1,xAkz xs ys h.2⟩
end
mutual
theorem xAno:∀ (a b c:PyData),sk a b=true->sk b c=true->sk a c=true->ltD a b=true->ltD b c=true->ltD a c=true
 | .tuple xs,b,c,h1,h2,h3,l1,l2=>by
  cases b with
  | tuple ys =>
   cases c with
   | tuple zs=>rw [ltD];exact xApe xs ys zs (by simpa [sk] using h1) (by simpa [sk] using h2) (by simpa [sk] using h3) (by simpa [ltD] using l1) (by simpa [ltD] using l2)
   | _=>simp [sk] at h3
  | _=>simp [sk] at h1
 | .none,b,c,_,_,_,l1,_=>by cases b <;> simp [ltD] at l1
 | .bool a,b,c,h1,h2,h3,l1,l2=>by
  cases b with
  | bool y =>
   cases c with
   | bool z=>cases a <;> cases y <;> cases z <;> simp_all [ltD]
   | _=>simp [sk] at h3
  | _=>simp [sk] at h1
 | .int i,b,c,h1,h2,h3,l1,l2=>by
  cases b with
  | int y =>
   cases c with
   | int z=>simp only [ltD,decide_eq_true_eq] at *;omega
   | _=>simp [sk] at h3
  | _=>simp [sk] at h1
 | .str i,b,c,h1,h2,h3,l1,l2=>by
  cases b with
  | str y =>
   cases c with
   | str z=>simp only [ltD,decide_eq_true_eq] at *;exact List.lt_trans l1 l2
   | _=>simp [sk] at h3
  | _=>simp [sk] at h1
 | .list _,b,c,_,_,_,l1,_=>by cases b <;> simp [ltD] at l1
 | .dict _,b,c,_,_,_,l1,_=>by cases b <;> simp [ltD] at l1
theorem xApe:∀ (xs ys zs:List PyData),sks xs ys=true->sks ys zs=true->sks xs zs=true->ltDs xs ys=true->ltDs ys zs=true->ltDs xs zs=true
 | _,_,[],_,_,_,_,l2=>by
  rename_i ys _ _ _ _
  cases ys <;> simp [ltDs] at l2
 | [],_,_::_,_,_,_,_,_=>rfl
 | x::xs,[],_::_,_,_,_,l1,_=>by simp [ltDs] at l1
 | x::xs,y::ys,z::zs,h1,h2,h3,l1,l2=>by
  rw [sks,za] at h1 h2 h3
  by_cases e1:x=y
  ·subst e1
   have q1:PyData.eqv x x=true:=(sk_eq x x h1.1).mpr rfl;rw [ltDs,if_pos q1] at l1
   by_cases e2:x=z
   ·subst e2
    rw [ltDs,if_pos q1] at l2 ⊢;exact xApe xs ys zs h1.2 h2.2 h3.2 l1 l2
   ·have q2:¬ PyData.eqv x z=true:=fun w=>e2 ((sk_eq x z h3.1).mp w)
    rw [ltDs,if_neg q2] at l2 ⊢;exact l2
  ·have q1:¬ PyData.eqv x y=true:=fun w=>e1 ((sk_eq x y h1.1).mp w)
   rw [ltDs,if_neg q1] at l1
   by_cases e2:y=z
   ·subst e2
    rw [ltDs,if_neg q1];exact l1
   ·have q2:¬ PyData.eqv y z=true:=fun w=>e2 ((sk_eq y z h2.1).mp w)
    rw [ltDs,if_neg q2] at l2;have l3:=xAno x y z h1.1 h2.1 h3.1 l1 l2
    have q3:¬ PyData.eqv x z=true:=fun w=>by
     have:=(sk_eq x z h3.1).mp w;subst this;rw [xAcq] at l3;cases l3
    rw [ltDs,if_neg q3];exact l3
end
mutual
theorem xAsq:∀ (a b c:PyData),sk a b=true->sk b c=true->sk a c=true->ltD a c=true->ltD a b=true\/ltD b c=true
 | .tuple xs,b,c,h1,h2,h3,l=>by
  cases b with
  | tuple ys =>
   cases c with
   | tuple zs=>rw [ltD,ltD];exact xApf xs ys zs (by simpa [sk] using h1) (by simpa [sk] using h2) (by simpa [sk] using h3) (by simpa [ltD] using l)
   | _=>simp [sk] at h3
  | _=>simp [sk] at h1
 | .none,b,c,_,_,_,l=>by cases c <;> simp [ltD] at l
 | .bool a,b,c,h1,h2,h3,l=>by
  cases b with
  | bool y =>
   cases c with
   | bool z=>cases a <;> cases y <;> cases z <;> simp_all [ltD]
   | _=>simp [sk] at h3
  | _=>simp [sk] at h1
 | .int i,b,c,h1,h2,h3,l=>by
  cases b with
  | int y =>
   cases c with
   | int z=>simp only [ltD,decide_eq_true_eq] at *;omega
   | _=>simp [sk] at h3
  | _=>simp [sk] at h1
 | .str i,b,c,h1,h2,h3,l=>by
  cases b with
  | str y =>
   cases c with
   | str z =>
    simp only [ltD,decide_eq_true_eq] at *
    by_cases hab:i.cps.toList<y.cps.toList
    ·exact .inl hab
    ·exact .inr (List.lt_of_le_of_lt (yy.mp hab) l)
   | _=>simp [sk] at h3
  | _=>simp [sk] at h1
 | .list _,b,c,_,_,_,l=>by cases c <;> simp [ltD] at l
 | .dict _,b,c,_,_,_,l=>by cases c <;> simp [ltD] at l
theorem xApf:∀ (xs ys zs:List PyData),sks xs ys=true->sks ys zs=true->sks xs zs=true->ltDs xs zs=true->ltDs xs ys=true\/ltDs ys zs=true
 | xs,_,[],_,_,_,l=>by cases xs <;> simp [ltDs] at l
 | [],[],_::_,_,_,_,_=>.inr rfl
 | [],_::_,_::_,_,_,_,_=>.inl rfl
 | x::xs,[],_::_,_,_,_,_=>.inr rfl
 | x::xs,y::ys,z::zs,h1,h2,h3,l=>by
  rw [sks,za] at h1 h2 h3
  by_cases e3:x=z
  ·subst e3
   have q3:PyData.eqv x x=true:=(sk_eq x x h3.1).mpr rfl;rw [ltDs,if_pos q3] at l
   by_cases e1:x=y
   ·subst e1
    rw [ltDs,if_pos q3,ltDs,if_pos q3];exact xApf xs ys zs h1.2 h2.2 h3.2 l
   ·have q1:¬ PyData.eqv x y=true:=fun w=>e1 ((sk_eq x y h1.1).mp w)
    have q2:¬ PyData.eqv y x=true:=fun w=>e1 ((sk_eq y x h2.1).mp w).symm;rw [ltDs,if_neg q1,ltDs,if_neg q2]
    cases p1:ltD x y with
    | true=>exact .inl rfl
    | false =>
     cases p2:ltD y x with
     | true=>exact .inr rfl
     | false=>exact absurd (xAkx x y h1.1 p1 p2) e1
  ·have q3:¬ PyData.eqv x z=true:=fun w=>e3 ((sk_eq x z h3.1).mp w)
   rw [ltDs,if_neg q3] at l;rcases xAsq x y z h1.1 h2.1 h3.1 l with p | p
   ·left
    have q1:¬ PyData.eqv x y=true:=fun w=>by
     have:=(sk_eq x y h1.1).mp w;subst this;rw [xAcq] at p;cases p
    rw [ltDs,if_neg q1];exact p
   ·right
    have q2:¬ PyData.eqv y z=true:=fun w=>by
     have:=(sk_eq y z h2.1).mp w;subst this;rw [xAcq] at p;cases p
    rw [ltDs,if_neg q2];exact p
end
def LtAt (A:Around) (s:Shared) (x y:Value) (b:Bool):Prop:=∀ (prog:Program) (w:World) (E:Value->Shared->Prop) (Q:Value->Shared->Prop),Q (.bool b) s->wpAny (model prog w) A (richCompare .Lt x y) Q E s
open SeqAt in
theorem xAla (l b:Addr) (us vs:Array Value) (n n2:Nat) (dd dd2:Option Addr) (sl sl2:Array (Option Value)) (e:Nat->Bool) (c:Bool) :
  Meets (Builtin.«tuple.__lt__» ⟨[.ref l,.ref b],[]⟩)
   (fun A R s=>s.heap.get? l=some { cls:=.type "tuple",dict:=dd,data:=.seq us n,slots:=sl }/\s.heap.get? b=some { cls:=.type "tuple",dict:=dd2,data:=.seq vs n2,slots:=sl2 } ∧
    (∀ j (h1:j<us.size) (h2:j<vs.size),EqAt A.in1 s us[j] vs[j] (e j)) ∧
    (∀ i (h1:i<us.size) (h2:i<vs.size),(∀ j,j<i->e j=true)->e i=false->LtAt A.in1 s us[i] vs[i] c) ∧
    ((∀ j,j<min us.size vs.size->e j=true)->c=decide (us.size<vs.size))/\R (.ok (.ret (.bool c))) s) :=
 .of_wp fun prog w A R s h=>by
  obtain ⟨hp,g,d,tk,os⟩:=s;obtain ⟨hl,hb,he,hlt,hall,h⟩:=h;have f2:=AutoSeq1.sub_tuple_tuple
  have hZ:(us.toList.zip vs.toList).length=min us.size vs.size:=by simp
  wp_walk using wpAny_loadPart' hl,wpAny_loadPart' hb,wpAny_forIn_list _ (fun rest b s'=>b.1=none/\s'=⟨hp,g,d,tk,os⟩/\∃ i,rest=(us.toList.zip vs.toList).drop i/\∀ j,j<i->e j=true) _
  case turn =>
   rintro ⟨y,x⟩ rest b s' ⟨hb',rfl,i,hz,hi⟩
   have hlt':i<(us.toList.zip vs.toList).length:=by
    rcases z8 i (us.toList.zip vs.toList).length with h' | h'
    ·exact h'
    ·rw [yd h'] at hz;cases hz
   have h1:i<us.size:=by omega
   have h2:i<vs.size:=by omega
   rw [z9 hlt'] at hz;injection hz with hyx hrest
   have hy:y=us[i]:=by have:=congrArg Prod.fst hyx;simpa using this
   have hx:x=vs[i]:=by have:=congrArg Prod.snd hyx;simpa using this
   subst hy hx;refine wpAny_bind (he i h1 h2 prog w _ _ ?_)
   cases hy:e i with
   | true =>
    wp_walk
    exact ⟨rfl,rfl,i+1,hrest,fun j hj=>by
     by_cases z:j=i
     ·rw [z];exact hy
     ·exact hi j (by omega)⟩
   | false =>
    have q:=hlt i h1 h2 hi hy;dsimp only;rw [if_pos (by rfl)];refine wpAny_bind (wpAny_rule (wpAny_bind (q prog w _ _ ?_)));exact wpAny_bind (wpAny_pure (wpAny_pure (wpAny_pure ⟨_,rfl,h⟩)))
  case fin =>
   rintro ⟨b1,b2⟩ s' ⟨hb',rfl,i,hz,hi⟩
   simp only at hb'
   subst hb'
   have hge:min us.size vs.size≤i:=by
    rcases z8 i (us.toList.zip vs.toList).length with h' | h'
    ·rw [z9 h'] at hz;cases hz
    ·omega
   have:=hall fun j hj=>hi j (by omega)
   wp_walk
   exact ⟨_,rfl,by rw [this] at h;simpa [Builtin.Tuple.tupleCompareSizes] using h⟩
  case h =>
   exact ⟨rfl,rfl,0,rfl,fun j hj=>absurd hj (zk _)⟩
theorem LtAt.tuples {A:Around} {s:Shared} {l b:Addr} {us vs:Array Value} {e:Nat->Bool} {c:Bool} (hl:s.heap.IsTuple l us) (hb:s.heap.IsTuple b vs) (hu:A.units<cLine)
  (he:∀ j (h1:j<us.size) (h2:j<vs.size),SeqAt.EqAt A.in1 s us[j] vs[j] (e j)) (hlt:∀ i (h1:i<us.size) (h2:i<vs.size),(∀ j,j<i->e j=true)->e i=false->LtAt A.in1 s us[i] vs[i] c)
  (hall:(∀ j,j<min us.size vs.size->e j=true)->c=decide (us.size<vs.size)):LtAt A s (.ref l) (.ref b) c:=fun prog w E Q h=>by
 obtain ⟨⟨cls,dd,data,sl⟩,ho,hc,n,hd⟩:=id hl;obtain ⟨⟨cls2,dd2,data2,sl2⟩,ho2,hc2,n2,hd2⟩:=id hb
 simp only at hc hd hc2 hd2
 subst hc hd hc2 hd2
 exact richCompare_meets_room (op:=.Lt) ⟨_,ho,rfl⟩ ⟨_,ho2,rfl⟩ F.slot_tuple_lt F.entry_tuple_lt (F.args_tuple_lt_2 _ _) (xAla l b us vs n n2 dd dd2 sl sl2 e c)
  ⟨ho,ho2,he,hlt,hall,show Value.bool c≠Value.notImplemented/\Q (.bool c) s from ⟨(fun x=>nomatch x),h⟩⟩ hu
theorem LtAt.ints {A:Around} {s:Shared} (i j:Int) (t u:Tok):LtAt A s (.int i t) (.int j u) (decide (i<j)):=fun prog w E Q h=>PyProof.Rows.lt_int h
theorem LtAt.strs {A:Around} {s:Shared} (i j:Str) (t u:Tok):LtAt A s (.str i t) (.str j u) (decide (i.cps.toList<j.cps.toList)):=fun prog w E Q h=>PyProof.Rows.lt_str h
theorem LtAt.bools {A:Around} {s:Shared} (i j:Bool):LtAt A s (.bool i) (.bool j) (!i&&j):=fun prog w E Q h=>by
 refine PyProof.Rows.lt_bool ?_;cases i <;> cases j <;> exact h
open SeqAt in
theorem xAlb:∀ (xs ys:List PyData) (i:Nat),i<xs.length->i<ys.length->(∀ j,j<i->pairEq xs ys j=true)->pairEq xs ys i=false->ltDs xs ys=ltD (xs.getD i .none) (ys.getD i .none)
 | x::xs,y::ys,0,_,_,_,h=>by
  have h':PyData.eqv x y=false:=h;rw [ltDs,if_neg (by rw [h'];decide)];rfl
 | x::xs,y::ys,i+1,h1,h2,hj,h=>by
  have h':PyData.eqv x y=true:=hj 0 (by omega);rw [ltDs,if_pos h'];exact xAlb xs ys i (by simpa using h1) (by simpa using h2) (fun j hlt=>hj (j+1) (by omega)) h
 | [],_,_,h1,_,_,_=>absurd h1 (zk _)
 | _::_,[],_,_,h2,_,_=>absurd h2 (zk _)
open SeqAt in
theorem xAgq:∀ (xs ys:List PyData),(∀ j,j<min xs.length ys.length->pairEq xs ys j=true)->ltDs xs ys=decide (xs.length<ys.length)
 | [],[],_=>rfl
 | [],_::_,_=>by simp [ltDs]
 | _::_,[],_=>by simp [ltDs]
 | x::xs,y::ys,h=>by
  have h':PyData.eqv x y=true:=h 0 (by simp);rw [ltDs,if_pos h',xAgq xs ys fun j hj=>h (j+1) (by simp only [List.length_cons];omega)]
  simp
theorem xAsr:∀ (xs ys:List PyData) (i:Nat),i<xs.length->i<ys.length->sks xs ys=true->sk (xs.getD i .none) (ys.getD i .none)=true
 | x::xs,y::ys,0,_,_,h=>by rw [sks,za] at h;exact h.1
 | x::xs,y::ys,i+1,h1,h2,h=>by
  rw [sks,za] at h;exact xAsr xs ys i (by simpa using h1) (by simpa using h2) h.2
 | [],_,_,h1,_,_=>absurd h1 (zk _)
 | _::_,[],_,_,h2,_=>absurd h2 (zk _)
theorem xAer:∀ (xs:List PyData) (i:Nat),i<xs.length->(xs.getD i .none).depth≤PyData.depthAll xs
 | x::xs,0,_=>by show x.depth≤max x.depth _;omega
 | x::xs,i+1,h=>by
  have:=xAer xs i (by simpa using h);show (xs.getD i .none).depth≤max x.depth (PyData.depthAll xs);omega
 | [],_,h=>absurd h (zk _)
theorem xAbi {h:Heap}:∀ {vs:List Value} {ds:List PyData} {as:List Addr} {i:Nat} (hi:i<vs.length),ReadsAll h vs ds as->∃ bs,Reads h vs[i] (ds.getD i .none) bs
 | _,_,_,0,_,.cons r _=>⟨_,r⟩
 | _,_,_,i+1,hi,.cons _ t=>xAbi (i:=i) (by simpa using hi) t
theorem xAeb {ds:List PyData} {i:Nat} (h:PyData.canLayAll0 ds=true) (hi:i<ds.length):(ds.getD i .none).canLay0=true :=
 xAdc (j:=i) h (by rw [zb,qe hi];rfl)
open SeqAt in
theorem xAlc:∀ (n:Nat) (da db:PyData) (A:Around) (s:Shared) (a b:Value) (as bs:List Addr),da.depth≤n->Reads s.heap a da as->Reads s.heap b db bs->da.canLay0=true->db.canLay0=true->sk da db=true->da≠.none →
  A.units+n<cLine->LtAt A s a b (ltD da db)
 | n,.int i,db,A,s,a,b,as,bs,_,ra,rb,_,_,hk,_,_=>by
  cases db <;> simp [sk] at hk;cases ra;cases rb;exact LtAt.ints _ _ _ _
 | n,.str i,db,A,s,a,b,as,bs,_,ra,rb,_,_,hk,_,_=>by
  cases db <;> simp [sk] at hk;cases ra;cases rb;exact LtAt.strs _ _ _ _
 | n,.bool i,db,A,s,a,b,as,bs,_,ra,rb,_,_,hk,_,_=>by
  cases db <;> simp [sk] at hk;cases ra;cases rb;exact LtAt.bools _ _
 | n,.none,db,A,s,a,b,as,bs,_,_,_,_,_,_,hn,_=>absurd rfl hn
 | n,.list _,db,A,s,a,b,as,bs,_,_,_,_,_,hk,_,_=>by cases db <;> simp [sk] at hk
 | n,.dict _,db,A,s,a,b,as,bs,_,_,_,_,_,hk,_,_=>by cases db <;> simp [sk] at hk
 | 0,.tuple xs,db,A,s,a,b,as,bs,hd,_,_,_,_,_,_,_=>by
  have:PyData.depthAll xs+1≤0:=hd;omega
 | n+1,.tuple xs,db,A,s,a,b,as,bs,hd,ra,rb,ca,cb,hk,_,hu=>by
  cases db with
  | tuple ys =>
   have hks:sks xs ys=true:=by simpa [sk] using hk
   have hd':PyData.depthAll xs≤n:=by
    have:PyData.depthAll xs+1≤n+1:=hd;omega
   cases ra with
   | tuple h1 h2 h3 h4 =>
    cases rb with
    | tuple k1 k2 k3 k4 =>
     rename_i l o us m b' o' vs m'
     have lx:=ReadsAll.length _ _ _ h4;have ly:=ReadsAll.length _ _ _ k4;rw [q9] at lx ly
     have e:ltD (.tuple xs) (.tuple ys)=ltDs xs ys:=by rw [ltD]
     rw [e]
     have eq':∀ j (g1:j<us.size) (g2:j<vs.size),EqAt A.in1 s us[j] vs[j] (pairEq xs ys j):=fun j g1 g2=>by
      obtain ⟨p1,r1⟩:=xAbi (i:=j) (by rw [q9];exact g1) h4;obtain ⟨p2,r2⟩:=xAbi (i:=j) (by rw [q9];exact g2) k4;have dj:=xAer xs j (by omega);have:=eqAt_reads (xs.getD j .none) (ys.getD j .none) A.in1 s _ _ _ _ r1 r2 (xAeb ca (by omega)) (xAeb cb (by omega)) (by show A.units+1+_<cLine;omega)
      simp only [Array.getElem_toList] at this
      exact this
     refine LtAt.tuples ⟨_,h1,h2,_,h3⟩ ⟨_,k1,k2,_,k3⟩ (by omega) eq' (fun i g1 g2 hj hf=>?_) fun hj=>?_
     ·obtain ⟨p1,r1⟩:=xAbi (i:=i) (by rw [q9];exact g1) h4
      obtain ⟨p2,r2⟩:=xAbi (i:=i) (by rw [q9];exact g2) k4;rw [xAlb xs ys i (by omega) (by omega) hj hf];have ski:=xAsr xs ys i (by omega) (by omega) hks
      have:=xAlc n (xs.getD i .none) (ys.getD i .none) A.in1 s _ _ _ _ (qk (xAer xs i (by omega)) hd') r1 r2 (xAeb ca (by omega)) (xAeb cb (by omega)) ski (fun z=>by
       have hf':PyData.eqv (xs.getD i .none) (ys.getD i .none)=false:=hf;rw [z] at ski hf'
       cases e2:ys.getD i .none <;> rw [e2] at ski hf' <;> simp [sk,PyData.eqv] at ski hf') (by show A.units+1+_<cLine;omega)
      simpa using this
     ·rw [xAgq xs ys fun j h=>hj j (by omega),lx,ly]
  | _=>simp [sk] at hk
end L2
namespace L2
open PySem PySem.Spec PySem.W PyProof.Rows
section
variable {prog:Program} {w:World} {A:Around} {E:Value->Shared->Prop} {s:Shared}
def Ext (h h':Heap):Prop:=∀ b o,h.get? b=some o->h'.get? b=some o
theorem Ext.trans {h h' h'':Heap} (a:Ext h h') (b:Ext h' h''):Ext h h'':=fun c o e=>b c o (a c o e)
theorem Ext.push (h:Heap) (o:Obj):Ext h (h.push o):=fun _ _ e=>Heap.get?_push_of_some _ e
theorem Ext.upd {h h':Heap} {a:Addr} {f:Obj->Obj} (x:Ext h h') (ha:h.objs.size≤a):Ext h (h'.update a f):=fun b o e=>by
 rw [Heap.get?_update_ne _ _ _ _ (qi (qq (Heap.lt_size e) ha))];exact x b o e
def Answers (prog:Program) (w:World) (A:Around) (s:Shared) (ks:List Value) (lt:Nat->Nat->Bool):Prop :=
 ∃ κ,(∀ (Q:SortKind->Shared->Prop),Q κ s->wpAny (model prog w) A (keyKind' ks.toArray) Q (fun _ _=>False) s)/\∀ i j C,i<ks.length->j<ks.length->C (lt i j) s->kas_ask prog w A κ ks i j C s
def Arr (n:Nat) (lt:Nat->Nat->Bool) (p:Array Nat):Prop:=p.Perm (List.toArray (List.range n))/\Srt.Up lt p n
theorem xAhy {n:Nat} {lt:Nat->Nat->Bool} (W:Srt.Swo lt) (h:n<2):Arr n lt (List.toArray (List.range n)):=by
 refine ⟨.refl _,fun i j hij hj=>?_⟩
 have:i=j:=by omega
 subst this;exact W.irr _
def Few (lt:Nat->Nat->Bool) (n:Nat):Prop:=n<64\/∀ i j,i≤j->j<n->lt j i=false
theorem xAld {vs ks:List Value} {lt:Nat->Nat->Bool} (W:Srt.Swo lt) (hl:ks.length=vs.length) (h64:Few lt vs.length) (h2:¬ vs.length<2) {κ:SortKind} (hq:∀ i j C,i<ks.length->j<ks.length->C (lt i j) s->kas_ask prog w A κ ks i j C s) {R:SortSt->Shared->Prop}
  (hR:∀ st p,Arr vs.length lt p->(arrOf st).map (·.2)=List.toArray (p.toList.map fun i=>vs.getD i Value.none)->failedOf st=none->R st s) :
  wpAny (model prog w) A ((sortRuns').run (SortSt.mk' κ (ks.toArray.zip vs.toArray) #[] 7 none)) (fun r s'=>R r.2 s') E s:=by
 rcases h64 with h64 | up
 ·refine kat_run (G:=fun p s'=>s'=s/\Arr vs.length lt p) hl (by omega) h64 (fun p st s' _ a2 a3 a4=>?_) ?_
  ·obtain ⟨rfl,ar⟩:=a4
   exact hR st p ar (kat_snds hl a2) a3
  ·exact (Srt.sort_ok W (by omega)).wp (fun i j C h1 h2' c=>hq i j C (by omega) (by omega) c) fun p hp=>⟨rfl,hp⟩
 have hz:(List.toArray (List.range vs.length)).size=vs.length:=by simp
 have hq':Tim.Ans prog w A s κ (ks.toArray.zip vs.toArray) vs.length lt:=fun i j C h1 h2 c=>by
  have:=hq i j C (by omega) (by omega) c;rw [kat_ask_eq hl] at this;exact this
 have gi:∀ i,i<vs.length->Srt.g (List.toArray (List.range vs.length)) i=i:=fun i hi=>by
  unfold Srt.g;rw [wz]
  simp [hi]
 have hin:Tim.In vs.length (List.toArray (List.range vs.length)):=fun i hi=>by
  rw [hz] at hi;rw [gi i hi];exact hi
 have run:=Tim.runs_asc (E:=E) (Q:=fun _ st=>R st s) W hq' hin (by rw [hz];omega) (fun i j _ hij hj=>by rw [hz] at hj;rw [gi i (by omega),gi j (by omega)];exact up i j hij (by omega)) fun pd m=>?_
 ·have est:SortSt.mk' κ (ks.toArray.zip vs.toArray) #[] 7 none=Tim.S κ (ks.toArray.zip vs.toArray) (List.toArray (List.range vs.length)) #[] 7:=by
   have e:=kas_range (ks.toArray.zip vs.toArray);rw [show (ks.toArray.zip vs.toArray).size=vs.length by simp [hl]] at e;rw [Tim.S,e]
  rw [est];refine wpAny_mono run (fun r s' h=>?_) fun _ _ e=>e;rw [h.1];exact h.2
 ·exact hR _ _ ⟨.refl _,fun i j hij hj=>by rw [gi i (by omega),gi j hj];exact up i j hij hj⟩ (kat_snds hl rfl) rfl
theorem xAdo {a:Addr} {vs:List Value} {n:Nat} {P:PySem.Fin->Shared->Prop} {lt:Nat->Nat->Bool} (W:Srt.Swo lt) (ho:s.heap.get? a=some (seqObj "list" vs.toArray n)) (hz2:vs.length≤2000) (h64:Few lt vs.length) {h0:Heap} (ha0:h0.objs.size≤a) (x0:Ext h0 s.heap)
  (hans:∀ h',Ext h0 h'->2≤vs.length->Answers prog w A { s with heap:=h' } vs lt)
  (h:∀ h' p c,Ext h0 h'->Arr vs.length lt p->h'.get? a=some (seqObj "list" (List.toArray (p.toList.map fun i=>vs.getD i Value.none)) c)->P (.done (.ret .none)) { s with heap:=h' }) :
  wpAny (model prog w) A (Builtin.«list.sort» ⟨[.ref a],[]⟩) P E s:=by
 obtain ⟨c1,o1⟩:∃ c1,(s.heap.update a (Obj.mapSeq fun _=>#[])).get? a=some (seqObj "list" #[] c1):=⟨_,get?_update_seq ho (fun _=>#[])⟩;have x1:Ext h0 (((s.heap.update a (Obj.mapSeq fun _=>#[])).push (seqObj "tuple" vs.toArray 0)).push (seqObj "list" #[] 0)):=(((x0.upd ha0).trans (.push _ _)).trans (.push _ _));have o3:(((s.heap.update a (Obj.mapSeq fun _=>#[])).push (seqObj "tuple" vs.toArray 0)).push (seqObj "list" #[] 0)).get? a=some (seqObj "list" #[] c1):=Heap.get?_push_of_some _ (Heap.get?_push_of_some _ o1)
 have zl:vs.length≤sizeLine:=by rw [sizeLine_eq];omega
 have last:∀ p,Arr vs.length lt p->∀ (out:Array Value),out=List.toArray (p.toList.map fun i=>vs.getD i Value.none)->out.size≤sizeLine+1/\P (.done (.ret .none)) { s with heap:=(((s.heap.update a (Obj.mapSeq fun _=>#[])).push (seqObj "tuple" vs.toArray 0)).push (seqObj "list" #[] 0)).update a (Obj.mapSeq fun _=>out) }:=fun p ar out eo=>by
  obtain ⟨c2,o2⟩:∃ c2,((((s.heap.update a (Obj.mapSeq fun _=>#[])).push (seqObj "tuple" vs.toArray 0)).push (seqObj "list" #[] 0)).update a (Obj.mapSeq fun _=>out)).get? a=some (seqObj "list" out c2):=⟨_,get?_update_seq o3 (fun _=>out)⟩;refine ⟨?_,h _ p c2 (x1.upd ha0) ar (by rw [← eo];exact o2)⟩;rw [eo,zf,qf,q9,ar.1.size_eq]
  simp
  omega
 rw [list_sort_plain];refine wpAny_bind (listItems_at ho rfl (wpAny_bind (listUpdate_at ho rfl (wpAny_bind (seqEpoch_at o1 rfl (wpAny_bind (wpAny_newTuple (wpAny_bind (wpAny_newList (wpAny_holding ?_) (q5 _))) zl)))) (by rw [zf];exact zl) (q5 _))));show wpAny (model prog w) A _ P E { s with heap:=((s.heap.update a (Obj.mapSeq fun _=>#[])).push (seqObj "tuple" vs.toArray 0)).push (seqObj "list" #[] 0) };dsimp only
 by_cases h2:vs.toArray.size<2
 ·rw [if_pos h2,if_pos h2]
  have h2':vs.length<2:=by simpa using h2
  have l:=last _ (xAhy W h2') (vs.toArray) (by
   apply yz.mp
   simp only [List.toList_toArray]
   apply w5;intro i
   by_cases hi:i<vs.length
   ·simp [hi]
   ·simp [hi])
  refine wpAny_bind (wpAny_pure ?_);rw [StateT.run_pure];refine wpAny_bind (wpAny_pure ?_);dsimp only
  have e1:(arrOf (SortSt.mk' general' (vs.toArray.zip vs.toArray) #[] 7 none)).map (·.2)=vs.toArray:=by
   apply yz.mp;show ((vs.toArray.zip vs.toArray).map (·.2)).toList=vs;rw [Array.toList_map,Array.toList_zip];exact List.map_snd_zip (qc _)
  rw [e1];refine wpAny_bind (seqEpoch_at o3 rfl (wpAny_bind (listUpdate_at o3 rfl ?_ (q5 _) l.1)))
  simp only [bne_self_eq_false,Bool.false_eq_true,if_false]
  exact wpAny_pure l.2
 ·rw [if_neg h2,if_neg h2]
  have h2':¬ vs.length<2:=by simpa using h2
  obtain ⟨κ,hk,hq⟩:=hans _ x1 (by omega);refine wpAny_bind (wpAny_mono (hk (fun k s'=>k=κ/\s'={ s with heap:=((s.heap.update a (Obj.mapSeq fun _=>#[])).push (seqObj "tuple" vs.toArray 0)).push (seqObj "list" #[] 0) }) ⟨rfl,rfl⟩) ?_ fun _ _ z=>z.elim);rintro k s' ⟨rfl,rfl⟩;refine wpAny_bind (wpAny_mono (xAld (E:=E) (R:=fun st s'=>s'={ s with heap:=((s.heap.update a (Obj.mapSeq fun _=>#[])).push (seqObj "tuple" vs.toArray 0)).push (seqObj "list" #[] 0) }/\∃ p,Arr vs.length lt p/\(arrOf st).map (·.2)=List.toArray (p.toList.map fun i=>vs.getD i Value.none)/\failedOf st=none) W rfl h64 h2' hq fun st p a1 a2 a3=>⟨rfl,p,a1,a2,a3⟩) ?_ fun _ _ z=>z);rintro ⟨⟨⟩,st⟩ s' ⟨rfl,p,ar,eo,hf⟩;have l:=last p ar _ eo;dsimp only;refine wpAny_bind (seqEpoch_at o3 rfl (wpAny_bind (listUpdate_at o3 rfl ?_ (q5 _) l.1)));rw [hf]
  simp only [bne_self_eq_false,Bool.false_eq_true,if_false]
  exact wpAny_pure l.2
theorem xAnp {l:Addr} {vs:List Value} {Q:Value->Shared->Prop} {lt:Nat->Nat->Bool} (W:Srt.Swo lt) (hl:s.heap.IsList l vs.toArray) (hz2:vs.length≤2000) (h64:Few lt vs.length)
  (hans:∀ h',Ext s.heap h'->2≤vs.length->Answers prog w A.in1.in1 { s with heap:=h' } vs lt)
  (h:∀ h' a p c,Ext s.heap h'->s.heap.objs.size≤a->Arr vs.length lt p->h'.get? a=some (seqObj "list" (List.toArray (p.toList.map fun i=>vs.getD i Value.none)) c)->Q (.ref a) { s with heap:=h' }) :
  wpAny (model prog w) A (call (.builtin "sorted") [.ref l]) Q E s:=by
 have zl:vs.length≤sizeLine:=by rw [sizeLine_eq];omega
 refine Calls.call_function_entry kind_sorted plain_sorted entry_sorted (args_sorted1 _) ?_;unfold Builtin.«sorted»;refine wpAny_bind (m:=checkCount "sorted" 1 1 _) (wpAny_pure (wpAny_bind (collect_list hl (wpAny_bind (wpAny_newList ?_ zl)) zl)));have hsz:((s.heap.push (seqObj "list" #[] 0)).update s.heap.objs.size (Obj.mapSeq (·++vs.toArray))).objs.size=s.heap.objs.size+1:=(Heap.size_update _ _ _).trans (size_push' _ _);have x1:Ext s.heap (((s.heap.push (seqObj "list" #[] 0)).update s.heap.objs.size (Obj.mapSeq (·++vs.toArray))).push (seqObj "list" vs.toArray 0)):=((Ext.push _ _).upd (qc _)).trans (.push _ _);have o1:(((s.heap.push (seqObj "list" #[] 0)).update s.heap.objs.size (Obj.mapSeq (·++vs.toArray))).push (seqObj "list" vs.toArray 0)).get? (s.heap.objs.size+1)=some (seqObj "list" vs.toArray 0):=hsz▸Heap.get?_push_size _ rfl;show wpAny (model prog w) _ _ _ _ { s with heap:=((s.heap.push (seqObj "list" #[] 0)).update s.heap.objs.size (Obj.mapSeq (·++vs.toArray))).push (seqObj "list" vs.toArray 0) };rw [hsz];refine wpAny_bind (wpAny_holding (wpAny_call_entry slot_list_sort ⟨_,o1,rfl⟩ entry_list_sort (xAdo W o1 hz2 h64 (h0:=s.heap) (wy _) x1 hans fun h' p c x ar e=>?_) (args_list_sort _)));exact ⟨_,rfl,wpAny_pure ⟨_,rfl,h h' _ p c x (wy _) ar e⟩⟩
end
theorem xAhz {n:Nat} (h:n≤2000):n<sizeLine:=v8 h (by decide)
def isK:Nat->PyData->Prop
 | 0,.int _=>True
 | 1,.str _=>True
 | 2,.tuple (.int _::_)=>True
 | 3,.tuple (.str _::_)=>True
 | 4,.tuple (.tuple _::_)=>True
 | _,_=>False
theorem xAss (t:Nat) (d:PyData):¬ isK (t+5) d:=by
 intro h
 cases d with
 | tuple xs =>
  cases xs with
  | nil=>exact h
  | cons x xs=>cases x <;> exact h
 | _=>exact h
section
variable {prog:Program} {w:World} {A:Around} {s:Shared}
theorem xAqj {x y:Value} {c:Bool} (h:LtAt A s x y c) {Q:Bool->Shared->Prop} {E:Value->Shared->Prop} (q:Q c s):wpAny (model prog w) A (oneLt' false x y) Q E s :=
 kat_one x y (h prog w E _ q)
theorem katlex {b fin:Bool} {Q:Bool->Shared->Prop}:∀ (us vs:List Value) (xs ys:List PyData) (as bs:List Addr) (i:Nat),ReadsAll s.heap us xs as->ReadsAll s.heap vs ys bs->PyData.canLayAll0 xs=true->PyData.canLayAll0 ys=true->sks xs ys=true →
  PyData.depthAll xs≤60->A.units+60<cLine->(i=0->b=true->(∃ p q r r',xs=.int p::r/\ys=.int q::r')\/∃ p q r r',xs=.str p::r/\ys=.str q::r')->fin=decide (us.length<vs.length)->Q (ltDs xs ys) s->KatLex prog w A b fin Q (us.zip vs) i s:=by
 intro us
 induction us with
 | nil =>
  intro vs xs ys as bs i ra rb _ _ _ _ _ _ hf q;cases ra;have ly:=SeqAt.ReadsAll.length _ _ _ rb;show Q fin s;rw [hf]
  cases ys with
  | nil=>rw [wf] at ly ⊢;rw [ly];exact q
  | cons y ys=>rw [ly];exact q
 | cons u us ih =>
  intro vs xs ys as bs i ra rb ca cb hk hd hu h0 hf q
  cases vs with
  | nil =>
   cases rb;cases ra;show Q fin s;rw [hf];exact q
  | cons v vs =>
   cases ra with
   | @cons _ _ x xs _ _ r1 t1 =>
    cases rb with
    | @cons _ _ y ys _ _ r2 t2 =>
     have ca':(x.canLay0&&PyData.canLayAll0 xs)=true:=ca;have cb':(y.canLay0&&PyData.canLayAll0 ys)=true:=cb;rw [za] at ca' cb';rw [sks,za] at hk
     have hdx:x.depth≤60/\PyData.depthAll xs≤60:=by
      have:max x.depth (PyData.depthAll xs)≤60:=hd;omega
     have eq':=SeqAt.eqAt_reads x y A s u v _ _ r1 r2 ca'.1 cb'.1 (by omega);refine kat_cons (eq' prog w _ _ ?_)
     cases e:PyData.eqv x y with
     | true =>
      rw [ltDs,if_pos e] at q;refine kat_yes (ih vs xs ys _ _ (i+1) t1 t2 ca'.2 cb'.2 hk.2 hdx.2 hu (fun z=>by omega) ?_ q);rw [hf]
      simp
     | false =>
      rw [ltDs,if_neg (by rw [e];decide)] at q;refine kat_no ?_
      by_cases hb:(b&&i==0)=true
      ·rw [hb]
       rw [za] at hb;rcases h0 (by simpa using hb.2) hb.1 with ⟨p,p',r,r',e1,e2⟩ | ⟨p,p',r,r',e1,e2⟩
       ·cases e1;cases e2
        cases r1;cases r2;exact oneLt_int q
       ·cases e1;cases e2
        cases r1;cases r2;exact oneLt_str q
      ·rw [Bool.not_eq_true] at hb
       rw [hb]
       exact xAqj (xAlc 60 x y A s u v _ _ hdx.1 r1 r2 ca'.1 cb'.1 hk.1 (fun z=>by
        subst z;have:=hk.1
        cases y <;> simp [sk,PyData.eqv] at this e) hu) q
theorem xAia {s:Shared}:∀ {vs:List Value} {ds:List PyData} {as:List Addr},ReadsAll s.heap vs ds as->(∀ d∈ds,∃ f r,d=.tuple (f::r))->∃ fs,KatTups s.heap vs fs/\fs.length=vs.length/\∀ v∈fs,∃ f r bs,PyData.tuple (f::r)∈ds/\Reads s.heap v f bs
 | [],_,_,.nil,_=>⟨[],trivial,rfl,fun _ z=>nomatch z⟩
 | v::vs,_,_,.cons (d:=d) (ds:=ds) r t,h=>by
  obtain ⟨fs,k1,k2,k3⟩:=xAia t fun x hx=>h x (qr _ hx);obtain ⟨f,r',e⟩:=h d qh;subst e
  cases r with
  | tuple h1 h2 h3 h4 =>
   rename_i a o us n
   cases e:us.toList with
   | nil=>rw [e] at h4;cases h4
   | cons u ut =>
    rw [e] at h4
    cases h4 with
    | cons q1 q2 =>
     refine ⟨u::fs,KatTups.cons h1 h2 h3 (by rw [← z3,e];rfl) k1,by rw [qx,qx,k2],fun v hv=>?_⟩;rcases qy.mp hv with rfl | hv
     ·exact ⟨f,r',_,qh,q1⟩
     ·obtain ⟨f',r'',bs,m,q⟩:=k3 v hv
      exact ⟨f',r'',bs,qr _ m,q⟩
def keyAt (ds:List PyData) (i:Nat):PyData:=ds.getD i (ds.headD .none)
theorem xAib {ds:List PyData} (h:ds≠[]) (i:Nat):keyAt ds i∈ds:=by
 unfold keyAt;rw [zb]
 cases e:ds[i]? with
 | some x=>exact qo e
 | none =>
  cases ds with
  | nil=>exact absurd rfl h
  | cons a b=>exact qh
def ltK (ds:List PyData) (i j:Nat):Bool:=ltD (keyAt ds i) (keyAt ds j)
theorem xAqk {ds:List PyData} (h:∀ a∈ds,∀ b∈ds,sk a b=true):Srt.Swo (ltK ds):=by
 by_cases e:ds=[]
 ·subst e
  exact ⟨fun _=>rfl,fun _ _ _ z=>(by cases z),fun _ _ _ z=>(by cases z)⟩
 ·have m:=xAib e
  exact ⟨fun _=>xAcq _,fun a b c=>xAno _ _ _ (h _ (m a) _ (m b)) (h _ (m b) _ (m c)) (h _ (m a) _ (m c)),fun a b c=>xAsq _ _ _ (h _ (m a) _ (m b)) (h _ (m b) _ (m c)) (h _ (m a) _ (m c))⟩
structure KeysAre (ds:List PyData) (t:Nat):Prop where
 lay:PyData.canLayAll0 ds=true
 kind:∀ d∈ds,isK t d
 one:∀ a∈ds,∀ b∈ds,sk a b=true
 deep:∀ d∈ds,d.depth≤60
theorem xAql {h:Heap} {v:Value} {i:Int} {as:List Addr} (r:Reads h v (.int i) as):∃ t,v=.int i t:=by cases r;exact ⟨_,rfl⟩
theorem xAqm {h:Heap} {v:Value} {i:Str} {as:List Addr} (r:Reads h v (.str i) as):∃ t,v=.str i t:=by cases r;exact ⟨_,rfl⟩
theorem xAst {h:Heap} {v:Value} {xs:List PyData} {as:List Addr} (r:Reads h v (.tuple xs) as):∃ a o vs n,v=.ref a/\h.get? a=some o/\o.cls=.type "tuple" /\ o.data=.seq vs n/\ReadsAll h vs.toList xs as:=by
 cases r with
 | tuple x1 x2 x3 x4=>exact ⟨_,_,_,_,rfl,x1,x2,x3,x4⟩
theorem isK_0 {d:PyData} (h:isK 0 d):∃ i,d=.int i:=by cases d <;> first | exact ⟨_,rfl⟩ | exact h.elim
theorem isK_1 {d:PyData} (h:isK 1 d):∃ i,d=.str i:=by cases d <;> first | exact ⟨_,rfl⟩ | exact h.elim
theorem isK_t {t:Nat} {d:PyData} (h:isK t d) (ht:2≤t):∃ f r,d=.tuple (f::r):=by
 unfold isK at h
 split at h <;> first | exact ⟨_,_,rfl⟩ | omega | exact h.elim
theorem isK_2 {d:PyData} (h:isK 2 d):∃ p r,d=.tuple (.int p::r):=by
 obtain ⟨f,r,rfl⟩:=isK_t h (by decide)
 cases f <;> first | exact ⟨_,_,rfl⟩ | exact h.elim
theorem isK_3 {d:PyData} (h:isK 3 d):∃ p r,d=.tuple (.str p::r):=by
 obtain ⟨f,r,rfl⟩:=isK_t h (by decide)
 cases f <;> first | exact ⟨_,_,rfl⟩ | exact h.elim
theorem isK_4 {d:PyData} (h:isK 4 d):∃ p r,d=.tuple (.tuple p::r):=by
 obtain ⟨f,r,rfl⟩:=isK_t h (by decide)
 cases f <;> first | exact ⟨_,_,rfl⟩ | exact h.elim
theorem xAdp {ks:List Value} {ds:List PyData} {as:List Addr} {t:Nat} (r:ReadsAll s.heap ks ds as) (K:KeysAre ds t) (h2:2≤ks.length) (hu:A.units+60<cLine):Answers prog w A s ks (ltK ds):=by
 have hl:=SeqAt.ReadsAll.length _ _ _ r
 have look:∀ i,i<ks.length->∃ bs,Reads s.heap (ks.getD i Value.none) (keyAt ds i) bs/\keyAt ds i∈ds:=fun i hi=>by
  obtain ⟨bs,q⟩:=xAbi hi r
  have e1:ks.getD i Value.none=ks[i]:=by simp [hi]
  have e2:keyAt ds i=ds.getD i .none:=by
   have hi':i<ds.length:=by omega
   unfold keyAt;rw [zb,zb,qe hi'];rfl
  refine ⟨bs,by rw [e1,e2];exact q,xAib (fun z=>?_) i⟩;rw [z,wf] at hl;omega
 have memo:∀ v∈ks,∃ d bs,d∈ds/\Reads s.heap v d bs:=fun v hv=>by
  obtain ⟨i,hi,e⟩:=qt.mp hv;obtain ⟨bs,q,m⟩:=look i hi;exact ⟨_,bs,m,by rw [← e];simpa [hi] using q⟩
 have lays:∀ d∈ds,d.canLay0=true:=fun d hd=>by
  obtain ⟨i,hi,e⟩:=qt.mp hd;exact xAdc (j:=i) K.lay (by rw [qe hi,e])
 have tups:(∀ d∈ds,∃ f r,d=.tuple (f::r))->(T:Value)->(∀ v f bs r,Reads s.heap v f bs->PyData.tuple (f::r)∈ds->Looks (model prog w) s.heap (typeOf v) T)->(T==T)=true →
   ((T != Value.type "tuple")=true->∀ d∈ds,∀ d'∈ds,(∃ p q r r',d=.tuple (.int p::r)/\d'=.tuple (.int q::r'))\/∃ p q r r',d=.tuple (.str p::r)/\d'=.tuple (.str q::r'))->Answers prog w A s ks (ltK ds):=fun h1 T h2' h3 h4=>by
  obtain ⟨fs,k1,k2,k3⟩:=xAia r h1;refine ⟨tuples' (T != Value.type "tuple"),fun Q q=>kat_kind k1 (by omega) (fun v hv=>?_) h3 q,fun i j C hi hj c=>?_⟩
  ·obtain ⟨f,r',bs,m,q⟩:=k3 v hv
   exact h2' v f bs r' q m
  ·obtain ⟨b1,q1,m1⟩:=look i hi
   obtain ⟨b2,q2,m2⟩:=look j hj;unfold ltK at c;obtain ⟨f1,r1,e1⟩:=h1 _ m1;obtain ⟨f2,r2,e2⟩:=h1 _ m2;have d1:=K.deep _ m1;have kk:=K.one _ m1 _ m2;have lay1:=lays _ m1;have lay2:=lays _ m2;have hb:=fun z=>h4 z _ m1 _ m2;rw [e1] at q1 d1 kk lay1 hb c;rw [e2] at q2 kk lay2 hb c;unfold kas_ask;obtain ⟨a1,o1,v1,n1,ev1,x1,x2,x3,x4⟩:=xAst q1;obtain ⟨a2,o2,v2,n2,ev2,y1,y2,y3,y4⟩:=xAst q2;rw [ev1,ev2];refine kat_lt x1 x3 y1 y3 (katlex _ _ _ _ _ _ 0 x4 y4 lay1 lay2 (by simpa [sk] using kk) ?_ hu (fun _ z=>?_) (by simp) (by rw [ltD] at c;exact c))
   ·have:PyData.depthAll (f1::r1)+1≤60:=d1
    omega
   ·rcases hb z with ⟨p,q,r,r',g1,g2⟩ | ⟨p,q,r,r',g1,g2⟩
    ·exact .inl ⟨p,q,r,r',PyData.tuple.inj g1,PyData.tuple.inj g2⟩
    ·exact .inr ⟨p,q,r,r',PyData.tuple.inj g1,PyData.tuple.inj g2⟩
 match t,K.kind with
 | 0,hk =>
  refine ⟨oneType',fun Q q=>kas_kind (T:=Value.type "int") h2 (fun v hv=>?_) rfl rfl q,fun i j C hi hj c=>?_⟩
  ·obtain ⟨d,bs,m,q⟩:=memo v hv
   obtain ⟨_,rfl⟩:=isK_0 (hk d m);obtain ⟨_,rfl⟩:=xAql q;exact Looks.of_pure rfl
  ·obtain ⟨b1,q1,m1⟩:=look i hi
   obtain ⟨b2,q2,m2⟩:=look j hj;unfold ltK at c;unfold kas_ask;obtain ⟨_,e1⟩:=isK_0 (hk _ m1);obtain ⟨_,e2⟩:=isK_0 (hk _ m2);rw [e1] at q1 c;rw [e2] at q2 c;obtain ⟨_,ev1⟩:=xAql q1;obtain ⟨_,ev2⟩:=xAql q2;rw [ev1,ev2,keyLt'_oneType];exact oneLt_int c
 | 1,hk =>
  refine ⟨oneType',fun Q q=>kas_kind (T:=Value.type "str") h2 (fun v hv=>?_) rfl rfl q,fun i j C hi hj c=>?_⟩
  ·obtain ⟨d,bs,m,q⟩:=memo v hv
   obtain ⟨_,rfl⟩:=isK_1 (hk d m);obtain ⟨_,rfl⟩:=xAqm q;exact Looks.of_pure rfl
  ·obtain ⟨b1,q1,m1⟩:=look i hi
   obtain ⟨b2,q2,m2⟩:=look j hj;unfold ltK at c;unfold kas_ask;obtain ⟨_,e1⟩:=isK_1 (hk _ m1);obtain ⟨_,e2⟩:=isK_1 (hk _ m2);rw [e1] at q1 c;rw [e2] at q2 c;obtain ⟨_,ev1⟩:=xAqm q1;obtain ⟨_,ev2⟩:=xAqm q2;rw [ev1,ev2,keyLt'_oneType];exact oneLt_str c
 | 2,hk =>
  have sh:∀ d∈ds,∃ p r,d=.tuple (.int p::r):=fun d hd=>isK_2 (hk d hd);refine tups (fun d hd=>let ⟨p,r,e⟩:=sh d hd;⟨_,r,e⟩) (Value.type "int") (fun v f bs r' q m=>?_) rfl fun _ d hd d' hd'=>?_
  ·obtain ⟨p,r2,e⟩:=sh _ m
   cases e;cases q;exact Looks.of_pure rfl
  ·obtain ⟨p,r1,e1⟩:=sh d hd
   obtain ⟨q,r2,e2⟩:=sh d' hd';exact .inl ⟨p,q,r1,r2,e1,e2⟩
 | 3,hk =>
  have sh:∀ d∈ds,∃ p r,d=.tuple (.str p::r):=fun d hd=>isK_3 (hk d hd);refine tups (fun d hd=>let ⟨p,r,e⟩:=sh d hd;⟨_,r,e⟩) (Value.type "str") (fun v f bs r' q m=>?_) rfl fun _ d hd d' hd'=>?_
  ·obtain ⟨p,r2,e⟩:=sh _ m
   cases e;cases q;exact Looks.of_pure rfl
  ·obtain ⟨p,r1,e1⟩:=sh d hd
   obtain ⟨q,r2,e2⟩:=sh d' hd';exact .inr ⟨p,q,r1,r2,e1,e2⟩
 | 4,hk =>
  have sh:∀ d∈ds,∃ p r,d=.tuple (.tuple p::r):=fun d hd=>isK_4 (hk d hd)
  refine tups (fun d hd=>let ⟨p,r,e⟩:=sh d hd;⟨_,r,e⟩) (Value.type "tuple") (fun v f bs r' q m=>?_) rfl fun z=>absurd z (by decide)
  obtain ⟨p,r2,e⟩:=sh _ m;cases e
  cases q with
  | tuple h1 h2 h3 h4 =>
   have:=(Looks.ld (M:=model prog w) (part:=none) h1);rw [← h2];exact (Looks.ld h1).andThen .now
 | t+5,hk =>
  exfalso;obtain ⟨bs,q,m⟩:=look 0 (by omega);exact xAss t _ (hk _ m)
end
def SortIx (ds:List PyData) (ix:List Nat):Prop:=ix.Perm (List.range ds.length)/\(ix.map (keyAt ds)).Pairwise fun a b=>ltD b a=false
theorem xAes {ds:List PyData} {p:Array Nat} (h:Arr ds.length (ltK ds) p):SortIx ds p.toList:=by
 have hs:p.size=ds.length:=by rw [h.1.size_eq];simp
 refine ⟨by simpa using h.1.toList,?_⟩;rw [wj];intro i j hi hj hij;rw [qf,q9] at hi hj;have:=h.2 i j (by omega) (by omega);unfold ltK Srt.g at this;rw [y0,y0];simpa [Array.getD,hi,hj] using this
theorem xAet {ys:List V} {us:List Value} (r:Vals ys us) (ix:List Nat) (h:∀ i∈ix,i<ys.length):Vals (ix.map fun i=>ys.getD i .non) (ix.map fun i=>us.getD i Value.none):=by
 induction ix with
 | nil=>exact .nil
 | cons i ix ih =>
  have hi:=h i qh;obtain ⟨u,hu,ru⟩:=r.get (i:=i) (x:=ys[i]) (qe hi);refine .cons ?_ (ih fun j hj=>h j (qr _ hj));show RelV (ys.getD i .non) (us.getD i Value.none);rw [zb,zb,hu,qe hi];exact ru
def rSortD (K:PySem.W.Frag):List V->Hp->VK->Prop:=fun xs H Q=>∃ p ys ds t,xs=[.ref p]/\SqL K H p ys/\DVs K H ys ds/\KeysAre ds t/\ys.length<64 ∧
 ∀ q H' ix,H q=none->Same H H'->SortIx ds ix->H' q=some (.lst (ix.map fun i=>ys.getD i .non))->Q (.ref q) H'
theorem xAcr {K:PySem.W.Frag} {H:Hp}:∀ {xs:List V} {ds:List PyData},DVs K H xs ds->xs.length=ds.length
 | _,_,.nil=>rfl
 | _,_,.cons _ t=>by rw [qx,qx,xAcr t]
mutual
theorem xAnq {h h':Heap} (x:Ext h h'):∀ {v:Value} {d:PyData} {as:List Addr},Reads h v d as->Reads h' v d as
 | _,_,_,.none=>.none
 | _,_,_,.bool b=>.bool b
 | _,_,_,.int i t=>.int i t
 | _,_,_,.str z t=>.str z t
 | _,_,_,.list h1 h2 h3 h4=>.list (x _ _ h1) h2 h3 (xAbe x h4)
 | _,_,_,.tuple h1 h2 h3 h4=>.tuple (x _ _ h1) h2 h3 (xAbe x h4)
 | _,_,_,.dict h1 h2 h3 h4 h5=>.dict (x _ _ h1) h2 h3 (xAbe x h4) (xAbe x h5)
theorem xAbe {h h':Heap} (x:Ext h h'):∀ {v:List Value} {d:List PyData} {as:List Addr},ReadsAll h v d as->ReadsAll h' v d as
 | _,_,_,.nil=>.nil
 | _,_,_,.cons a b=>.cons (xAnq x a) (xAbe x b)
end
section
variable {X:Cx}
theorem xAdq (hu:X.A.units+3+61<cLine):CallR X (.builtin "sorted") (rSortD X.K):=by
 intro pins s σ H xs us Q I r h;obtain ⟨p,ys,ds,t,rfl,hq,hd,hk,h64,q⟩:=h;obtain ⟨u,rfl,ru⟩:=vals1 r;cases ru;obtain ⟨its,rv,pl,hz⟩:=I.list hq;have hl:=rv.length;have hdl:=xAcr hd;obtain ⟨as,ra⟩:=hd.reads I rv;refine xAnp (vs:=its) (lt:=ltK ds) (xAqk hk.one) pl.isList (by omega) (.inl (by omega)) (fun h' x h2=>?_) fun h' a pm c x ha ar e=>?_
 ·exact xAdp (xAbe x ra) hk h2 (by show X.A.units+1+1+60<cLine;omega)
 ·have hix:∀ i∈pm.toList,i<ys.length:=fun i hi=>by
   have:=(ar.1.toList.mem_iff).mp hi
   simp at this
   omega
  refine ⟨.ref a,upd H a (.lst (pm.toList.map fun i=>ys.getD i .non)),I.laid x ha ⟨?_,_,c,xAet rv _ hix,e⟩,rfl,q a _ pm.toList (I.hok.fresh ha) (Same.new (I.hok.fresh ha)) (xAes (by rw [← hdl,hl];exact ar)) xAad⟩;rw [qf,q9,ar.1.size_eq]
  simp
  omega
end
section
variable {P:Program} {w:World} {A:Around} {E:Value->Shared->Prop} {s:Shared}
def IsTwo (P:Program) (w:World) (h:Heap) (ks ls:List Key) (a:Addr):Prop:=∃ o c d n,h.get? a=some o/\o.cls=.type "tuple" /\ o.data=.seq #[.ref c,.ref d] n/\(tupleKind (mixKind P w)).is h ks c/\(tupleKind (mixKind P w)).is h ls d
def GIs (P:Program) (w:World) (h:Heap):KD->Value->Prop
 | .non,v=>v=.none
 | .int i,v=>∃ t,v=.int i t
 | .tup ks,v=>∃ a,v=.ref a/\(tupleKind (mixKind P w)).is h ks a
 | .two ks ls,v=>∃ a,v=.ref a/\IsTwo P w h ks ls a
def gDraws (P:Program) (w:World):KD->Nat
 | .non=>1
 | .int _=>1
 | .tup ks=>(tupleKind (mixKind P w)).draws ks
 | .two ks ls=>(tupleKind (mixKind P w)).draws ks+(tupleKind (mixKind P w)).draws ls+1
theorem xApg {h:Heap} {a:Addr} {ks ls ks' ls':List Key} (x:IsTwo P w h ks ls a) (y:IsTwo P w h ks' ls' a):ks=ks'/\ls=ls':=by
 obtain ⟨o,c,d,n,h1,h2,h3,h4,h5⟩:=x;obtain ⟨o',c',d',n',k1,k2,k3,k4,k5⟩:=y;rw [h1] at k1;cases k1;rw [h3] at k3;injection k3 with e _
 have e1:c=c':=by have:=congrArg (fun z:Array Value=>z[0]?) e;simpa using this
 have e2:d=d':=by have:=congrArg (fun z:Array Value=>z[1]?) e;simpa using this
 subst e1 e2;exact ⟨(tupleKind (mixKind P w)).inj h4 k4,(tupleKind (mixKind P w)).inj h5 k5⟩
theorem xAic {h:Heap} {a:Addr} {ks ls js:List Key} (x:IsTwo P w h ks ls a) (y:(tupleKind (mixKind P w)).is h js a):False:=by
 obtain ⟨o,c,d,n,h1,h2,h3,h4,h5⟩:=x;obtain ⟨o',its,n',k1,k2,k3,k4⟩:=y;rw [h1] at k1;cases k1;rw [h3] at k3;injection k3 with e _;subst e;have:=k4.byValue (.ref c) (by simp);cases this
theorem xAle {P':Program} {w':World} {ks:List Key} {vs:List Value} (x:ItemsAre (mixKind P w) ks vs):ItemsAre (mixKind P' w') ks vs:=by
 induction x with
 | nil=>exact .nil
 | cons h _ ih=>exact .cons h ih
theorem xAid {P':Program} {w':World} {h:Heap} {ks:List Key} {a:Addr} (x:(tupleKind (mixKind P w)).is h ks a):(tupleKind (mixKind P' w')).is h ks a:=by
 obtain ⟨o,its,n,h1,h2,h3,h4⟩:=x;exact ⟨o,its,n,h1,h2,h3,xAle h4⟩
theorem xAie {ks ls:List Key} {a b:Addr} (hu:A.units<cLine) (x:(tupleKind (mixKind P w)).is s.heap ks a) (y:(tupleKind (mixKind P w)).is s.heap ls b):SeqAt.EqAt A s (.ref a) (.ref b) (decide (ks=ls)):=fun P' w' E Q q=>(tupleKind (mixKind P' w')).eqBool hu (xAid x) (xAid y) q
theorem IsTwo.tuple {h:Heap} {ks ls:List Key} {a:Addr} (x:IsTwo P w h ks ls a):∃ c d,h.IsTuple a #[.ref c,.ref d]/\(tupleKind (mixKind P w)).is h ks c/\(tupleKind (mixKind P w)).is h ls d:=by
 obtain ⟨o,c,d,n,h1,h2,h3,h4,h5⟩:=x;exact ⟨c,d,⟨o,h1,h2,n,h3⟩,h4,h5⟩
theorem xAbs {h:Heap} {ks:List Key} {a:Addr} (x:(tupleKind (mixKind P w)).is h ks a):∃ its,h.IsTuple a its/\ItemsAre (mixKind P w) ks its.toList:=by
 obtain ⟨o,its,n,h1,h2,h3,h4⟩:=x;exact ⟨its,⟨o,h1,h2,n,h3⟩,h4⟩
theorem xAqn {ks ls ks' ls':List Key} {a b:Addr} (hu:A.units+1<cLine) (x:IsTwo P w s.heap ks ls a) (y:IsTwo P w s.heap ks' ls' b):SeqAt.EqAt A s (.ref a) (.ref b) (decide (KD.two ks ls=KD.two ks' ls')):=by
 by_cases hab:a=b
 ·subst hab
  obtain ⟨rfl,rfl⟩:=xApg x y;rw [decide_eq_true rfl];exact SeqAt.EqAt.same _
 ·obtain ⟨c,d,t1,h1,h2⟩:=x.tuple
  obtain ⟨c',d',t2,k1,k2⟩:=y.tuple
  have e:decide (KD.two ks ls=KD.two ks' ls')=((List.range (min (#[Value.ref c,.ref d]:Array Value).size (#[Value.ref c',.ref d']:Array Value).size)).all (fun j=>if j=0 then decide (ks=ks') else decide (ls=ls'))&&(#[Value.ref c,.ref d]:Array Value).size==(#[Value.ref c',.ref d']:Array Value).size):=by
   show _=((if 0=0 then decide (ks=ks') else decide (ls=ls'))&&((if 1=0 then decide (ks=ks') else decide (ls=ls'))&&true)&&true);rw [if_pos rfl,if_neg (by decide),Bool.and_true,Bool.and_true,wx]
   simp
  rw [e];refine SeqAt.EqAt.of_refs hab (SeqAt.RcAt.tuples t1 t2 (by omega) fun j j1 j2=>?_)
  match j,j1,j2 with
  | 0,_,_=>exact xAie (show A.in1.units<cLine from hu) h1 k1
  | 1,_,_=>exact xAie (show A.in1.units<cLine from hu) h2 k2
theorem all_no {n m:Nat} (h:0<m):((List.range (min m n)).all (fun _=>false)&&m==n)=false:=by
 by_cases e:m=n
 ·subst e
  rw [Nat.min_self]
  cases m with
  | zero=>omega
  | succ m=>rw [ji];rfl
 ·rw [show (m==n)=false from beq_eq_false_iff_ne.mpr e,Bool.and_false]
theorem xAsu {n m:Nat} (h:0<m):((List.range (min n m)).all (fun _=>false)&&n==m)=false:=by
 by_cases e:n=m
 ·subst e
  rw [Nat.min_self]
  cases n with
  | zero=>omega
  | succ m=>rw [ji];rfl
 ·rw [show (n==m)=false from beq_eq_false_iff_ne.mpr e,Bool.and_false]
theorem xAfv {ks:List Key} {vs:List Value} (x:ItemsAre (mixKind P w) ks vs):∀ (j:Nat) v,vs[j]?=some v->(∃ i t,v=.int i t)\/∃ z t,v=.str z t:=by
 induction x with
 | nil=>intro j v e;cases e
 | cons h _ ih =>
  intro j v e
  cases j with
  | zero =>
   cases e;rcases xAap (show keyIs _ _=true from h) with ⟨i,t,_,e⟩ | ⟨z,t,_,e⟩
   ·exact .inl ⟨i,t,e⟩
   ·exact .inr ⟨z,t,e⟩
  | succ j=>exact ih j v (by simpa using e)
theorem xAjj {ks ls js:List Key} {a b:Addr} (hu:A.units+1<cLine) (x:IsTwo P w s.heap ks ls a) (y:(tupleKind (mixKind P w)).is s.heap js b):SeqAt.EqAt A s (.ref a) (.ref b) false:=by
 have hab:a≠b:=fun z=>by subst z;exact xAic x y
 obtain ⟨c,d,t1,h1,h2⟩:=x.tuple;obtain ⟨its,t2,k1⟩:=xAbs y;have e:false=((List.range (min (#[Value.ref c,.ref d]:Array Value).size its.size)).all (fun _=>false)&&(#[Value.ref c,.ref d]:Array Value).size==its.size):=(all_no (m:=2) (by decide)).symm;rw [e];refine SeqAt.EqAt.of_refs hab (SeqAt.RcAt.tuples t1 t2 (by omega) fun j j1 j2=>?_);obtain ⟨i1,q1,_⟩:=xAbs h1;obtain ⟨i2,q2,_⟩:=xAbs h2;have hv:=xAfv k1 j its[j] (by rw [z3,zx j2]);have hin:A.in1.units<cLine:=hu
 match j,j1,j2,hv with
 | 0,_,_,hv =>
  rcases hv with ⟨i,t,e⟩ | ⟨z,t,e⟩
  ·rw [e];exact SeqAt.EqAt.tuple_int i t q1 hin
  ·rw [e];exact SeqAt.EqAt.tuple_str z t q1 hin
 | 1,_,_,hv =>
  rcases hv with ⟨i,t,e⟩ | ⟨z,t,e⟩
  ·rw [e];exact SeqAt.EqAt.tuple_int i t q2 hin
  ·rw [e];exact SeqAt.EqAt.tuple_str z t q2 hin
theorem xAjk {ks ls js:List Key} {a b:Addr} (hu:A.units+1<cLine) (y:(tupleKind (mixKind P w)).is s.heap js a) (x:IsTwo P w s.heap ks ls b):SeqAt.EqAt A s (.ref a) (.ref b) false:=by
 have hab:a≠b:=fun z=>by subst z;exact xAic x y
 obtain ⟨c,d,t1,h1,h2⟩:=x.tuple;obtain ⟨its,t2,k1⟩:=xAbs y;have e:false=((List.range (min its.size (#[Value.ref c,.ref d]:Array Value).size)).all (fun _=>false)&&its.size==(#[Value.ref c,.ref d]:Array Value).size):=(xAsu (m:=2) (by decide)).symm;rw [e];refine SeqAt.EqAt.of_refs hab (SeqAt.RcAt.tuples t2 t1 (by omega) fun j j2 j1=>?_);obtain ⟨i1,q1,_⟩:=xAbs h1;obtain ⟨i2,q2,_⟩:=xAbs h2;have hv:=xAfv k1 j its[j] (by rw [z3,zx j2]);have hin:A.in1.units<cLine:=hu
 match j,j1,j2,hv with
 | 0,_,_,hv =>
  rcases hv with ⟨i,t,e⟩ | ⟨z,t,e⟩
  ·rw [e];exact SeqAt.EqAt.int_tuple i t q1 hin
  ·rw [e];exact SeqAt.EqAt.str_tuple z t q1 hin
 | 1,_,_,hv =>
  rcases hv with ⟨i,t,e⟩ | ⟨z,t,e⟩
  ·rw [e];exact SeqAt.EqAt.int_tuple i t q2 hin
  ·rw [e];exact SeqAt.EqAt.str_tuple z t q2 hin
theorem xAqo {ks ls:List Key} {a:Addr} {Q:Int->Shared->Prop} (hu:A.units+1<cLine) (hk:IsTwo P w s.heap ks ls a) (h:Q (gHash P w (.two ks ls)) { s with toks:=s.toks+((tupleKind (mixKind P w)).draws ks+(tupleKind (mixKind P w)).draws ls+1) }):wpAny (model P w) A (pyHash (.ref a)) Q E s:=by
 obtain ⟨o,c,d,n,ho,hc,hd,h1,h2⟩:=hk;have hT:s.TypeIs (.ref a) "tuple":=⟨o,ho,hc⟩;unfold pyHash;unfold pyHashByItsType;refine wpAny_bind (wpAny_cRoomFor_or (.inr (by omega)) ?_);refine wpAny_bind (wpAny_specialOf hT F.slot_tuple_hash.lookup ?_);show wpAny _ _ (if (some (Value.builtin "tuple.__hash__")==some Value.none)=true then _ else _) Q E s;rw [if_neg (by rw [beq_builtin_none];exact qm)];refine wpAny_bind (wpAny_specialOf hT F.slot_tuple_hash.lookup ?_);show wpAny _ _ (callSpecialIfBoundUnlessNone? (.ref a) "__hash__" _ >>= _) Q E s;refine wpAny_bind (wpAny_callSpecialIfBoundUnlessNone?_slot hT F.slot_tuple_hash (wpAny_call_entry F.slot_tuple_hash hT F.entry_tuple_hash ?_ (F.args_tuple_hash_1 _)));show wpAny _ _ (Builtin.Tuple.tupleItemsOf (.ref a) >>= _) _ _ s;refine wpAny_bind (wpAny_tupleItemsOf ho hd ?_);refine wpAny_bind ?_;rw [← y7]
 refine wpAny_forIn_list _
  (fun rest (b:Array Int) s'=>(rest=[.ref c,.ref d]/\b.toList=[]/\s'=s)\/(rest=[.ref d]/\b.toList=[(tupleKind (mixKind P w)).hash ks]/\s'={ s with toks:=s.toks+(tupleKind (mixKind P w)).draws ks })\/(rest=[]/\b.toList=[(tupleKind (mixKind P w)).hash ks,(tupleKind (mixKind P w)).hash ls]/\s'={ s with toks:=s.toks+(tupleKind (mixKind P w)).draws ks+(tupleKind (mixKind P w)).draws ls }))
  _ ?_ ?_ _ _ (.inl ⟨rfl,rfl,rfl⟩)
 ·rintro x rest b s' (⟨e,hb,rfl⟩ | ⟨e,hb,rfl⟩ | ⟨e,hb,rfl⟩)
  ·cases e
   refine wpAny_bind ((tupleKind (mixKind P w)).pyHash (show _<cLine by first | exact hu | (show A.units+1<cLine;exact hu)) h1 ?_)
   first
    | exact wpAny_pure (.inr (.inl ⟨rfl,by simp [hb],rfl⟩))
    | exact wpAny_bind (wpAny_pure (wpAny_pure (.inr (.inl ⟨rfl,by simp [hb],rfl⟩))))
  ·cases e
   refine wpAny_bind ((tupleKind (mixKind P w)).pyHash (s:={ s with toks:=s.toks+(tupleKind (mixKind P w)).draws ks }) (show _<cLine by first | exact hu | (show A.units+1<cLine;exact hu)) h2 ?_)
   first
    | exact wpAny_pure (.inr (.inr ⟨rfl,by simp [hb],rfl⟩))
    | exact wpAny_bind (wpAny_pure (wpAny_pure (.inr (.inr ⟨rfl,by simp [hb],rfl⟩))))
  ·cases e
 ·rintro b s' (⟨e,hb,rfl⟩ | ⟨e,hb,rfl⟩ | ⟨e,hb,rfl⟩)
  ·cases e
  ·cases e
  ·show wpAny _ _ (retInt (Builtin.Tuple.tupleHashOf b.toList)) _ _ _
   rw [hb];refine wpAny_ret_mkInt ?_;show wpAny _ _ (if (decide (-(2:Int) ^ 63≤Builtin.Tuple.tupleHashOf [(tupleKind (mixKind P w)).hash ks,(tupleKind (mixKind P w)).hash ls])&&decide (Builtin.Tuple.tupleHashOf [(tupleKind (mixKind P w)).hash ks,(tupleKind (mixKind P w)).hash ls]<2 ^ 63))=true then _ else _) Q E _;have h:Q (reduceHash (Builtin.Tuple.tupleHashOf [(tupleKind (mixKind P w)).hash ks,(tupleKind (mixKind P w)).hash ls])) { s with toks:=s.toks+((tupleKind (mixKind P w)).draws ks+(tupleKind (mixKind P w)).draws ls+1) }:=h;unfold reduceHash at h
   by_cases hr:(decide (-(2:Int) ^ 63≤Builtin.Tuple.tupleHashOf [(tupleKind (mixKind P w)).hash ks,(tupleKind (mixKind P w)).hash ls])&&decide (Builtin.Tuple.tupleHashOf [(tupleKind (mixKind P w)).hash ks,(tupleKind (mixKind P w)).hash ls]<2 ^ 63))=true
   ·rw [if_pos hr]
    rw [if_pos hr] at h;exact wpAny_pure (by simpa [Nat.add_assoc] using h)
   ·rw [if_neg hr]
    rw [if_neg hr] at h;exact wpAny_bind (wpAny_rule (wpAny_pure (by simpa [Nat.add_assoc] using h)))
theorem xAfw {ks:List Key} {a:Addr} {m:Nat} {Q:Bool->Shared->Prop} (hk:(tupleKind (mixKind P w)).is s.heap ks a) (h:Q true s):wpAny (model P w) A (eqIsQuiet (m+1) (.ref a)) Q E s:=by
 obtain ⟨o,items,n,ho,hc,hd,hi⟩:=hk;have hT:s.TypeIs (.ref a) "tuple":=⟨o,ho,hc⟩;unfold eqIsQuiet;refine wpAny_bind (wpAny_specialOf hT F.slot_tuple_eq.lookup ?_);show wpAny _ _ (isInstance (.ref a) (.type "tuple") >>= _) _ _ s;refine wpAny_bind (wpAny_isInstance hT isSubtype_tuple_tuple ?_)
 simp only [Bool.not_true,Bool.false_eq_true,if_false]
 refine wpAny_bind (wpAny_seqItems ho hd ?_);refine wpAny_bind ?_;show wpAny _ _ (forIn items _ _) _ _ s;rw [← y7];refine wpAny_forIn_list _ (fun rest r s'=>r.1=none/\s'=s/\∀ v∈rest,carriedByValue v=true) _ ?_ ?_ _ _ ⟨rfl,rfl,hi.byValue⟩
 ·rintro v rest r s' ⟨hr,rfl,hall⟩
  rw [eqIsQuiet_byValue _ (hall v qh)];refine wpAny_bind (wpAny_pure ?_)
  simp only [Bool.not_true,Bool.false_eq_true,if_false]
  exact wpAny_pure ⟨rfl,rfl,fun u hu'=>hall u (qr _ hu')⟩
 ·rintro ⟨r1,r2⟩ s' ⟨hr,rfl,_⟩
  simp only at hr
  subst hr;exact wpAny_pure h
theorem xAnr {ks ls:List Key} {a:Addr} {Q:Bool->Shared->Prop} (hk:IsTwo P w s.heap ks ls a) (h:Q true s):wpAny (model P w) A (eqIsQuiet 8 (.ref a)) Q E s:=by
 obtain ⟨o,c,d,n,ho,hc,hd,h1,h2⟩:=hk;have hT:s.TypeIs (.ref a) "tuple":=⟨o,ho,hc⟩;unfold eqIsQuiet;refine wpAny_bind (wpAny_specialOf hT F.slot_tuple_eq.lookup ?_);show wpAny _ _ (isInstance (.ref a) (.type "tuple") >>= _) _ _ s;refine wpAny_bind (wpAny_isInstance hT isSubtype_tuple_tuple ?_)
 simp only [Bool.not_true,Bool.false_eq_true,if_false]
 refine wpAny_bind (wpAny_seqItems ho hd ?_);refine wpAny_bind ?_;show wpAny _ _ (forIn (#[.ref c,.ref d]:Array Value) _ _) _ _ s;rw [← y7];refine wpAny_forIn_list _ (fun rest r s'=>r.1=none/\s'=s/\∀ v∈rest,v=.ref c\/v=.ref d) _ ?_ ?_ _ _ ⟨rfl,rfl,fun v hv=>by simpa using hv⟩
 ·rintro v rest r s' ⟨hr,rfl,hall⟩
  have hq:∀ {Q':Bool->Shared->Prop},Q' true s'->wpAny (model P w) A (eqIsQuiet 7 v) Q' E s':=fun q=>by
   rcases hall v qh with rfl | rfl
   ·exact xAfw (m:=6) h1 q
   ·exact xAfw (m:=6) h2 q
  refine wpAny_bind (hq ?_)
  simp only [Bool.not_true,Bool.false_eq_true,if_false]
  exact wpAny_pure ⟨rfl,rfl,fun u hu'=>hall u (qr _ hu')⟩
 ·rintro ⟨r1,r2⟩ s' ⟨hr,rfl,_⟩
  simp only at hr
  subst hr;exact wpAny_pure h
theorem GIs.inj {h:Heap} {x y:KD} {v:Value} (a:GIs P w h x v) (b:GIs P w h y v):x=y:=by
 cases x with
 | non =>
  cases a
  cases y with
  | non=>rfl
  | int j=>obtain ⟨_,e⟩:=b;cases e
  | tup ks=>obtain ⟨_,e,_⟩:=b;cases e
  | two ks ls=>obtain ⟨_,e,_⟩:=b;cases e
 | int i =>
  obtain ⟨t,rfl⟩:=a
  cases y with
  | non=>cases b
  | int j=>obtain ⟨_,e⟩:=b;cases e;rfl
  | tup ks=>obtain ⟨_,e,_⟩:=b;cases e
  | two ks ls=>obtain ⟨_,e,_⟩:=b;cases e
 | tup ks =>
  obtain ⟨p,rfl,q⟩:=a
  cases y with
  | non=>cases b
  | int j=>obtain ⟨_,e⟩:=b;cases e
  | tup ks' =>
   obtain ⟨_,e,q'⟩:=b;cases e;exact congrArg KD.tup ((tupleKind (mixKind P w)).inj q q')
  | two ks' ls' =>
   obtain ⟨_,e,q'⟩:=b;cases e;exact (xAic q' q).elim
 | two ks ls =>
  obtain ⟨p,rfl,q⟩:=a
  cases y with
  | non=>cases b
  | int j=>obtain ⟨_,e⟩:=b;cases e
  | tup ks' =>
   obtain ⟨_,e,q'⟩:=b;cases e;exact (xAic q q').elim
  | two ks' ls' =>
   obtain ⟨_,e,q'⟩:=b;cases e;obtain ⟨rfl,rfl⟩:=xApg q q';rfl
theorem GIs.ext {h h':Heap} {k:KD} {v:Value} (a:GIs P w h k v) (x:∀ b o,h.get? b=some o->o.cls=.type "tuple"->h'.get? b=some o):GIs P w h' k v:=by
 cases k with
 | non=>exact a
 | int i=>exact a
 | tup ks =>
  obtain ⟨p,e,o,its,n,h1,h2,h3,h4⟩:=a;exact ⟨p,e,o,its,n,x _ _ h1 h2,h2,h3,h4⟩
 | two ks ls =>
  obtain ⟨p,e,o,c,d,n,h1,h2,h3,⟨o1,i1,n1,k1,k2,k3⟩,⟨o2,i2,n2,l1,l2,l3⟩⟩:=a;exact ⟨p,e,o,c,d,n,x _ _ h1 h2,h2,h3,⟨o1,i1,n1,x _ _ k1 k2,k2,k3⟩,⟨o2,i2,n2,x _ _ l1 l2,l2,l3⟩⟩
theorem xAns {Q:Int->Shared->Prop} (h:Q 4238894112 { s with toks:=s.toks+1 }):wpAny (model P w) A (pyHash .none) Q E s:=by
 unfold pyHash;have hT:s.TypeIs Value.none "NoneType":=rfl;have hv:[Value.none].any Value.onHeap=false:=rfl;unfold pyHashByItsType;refine wpAny_bind ?_;rw [cRoomFor,if_neg (by rw [hv];exact qm)];refine wpAny_pure (wpAny_bind (wpAny_specialOf hT F.slot_NoneType_hash.lookup ?_));show wpAny _ _ (if (some (Value.builtin "NoneType.__hash__")==some Value.none)=true then _ else _) Q E s;rw [if_neg (by rw [beq_builtin_none];exact qm)];refine wpAny_bind (wpAny_specialOf hT F.slot_NoneType_hash.lookup ?_);show wpAny _ _ (callSpecialIfBoundUnlessNone? .none "__hash__" _ >>= _) Q E s;refine wpAny_bind (wpAny_callSpecialIfBoundUnlessNone?_slot hT F.slot_NoneType_hash (wpAny_call_entry F.slot_NoneType_hash hT F.entry_NoneType_hash (show wpAny _ _ (do ret (← mkInt 4238894112)) _ _ s from wpAny_ret_mkInt ?_) (F.args_NoneType_hash_1 _)));show wpAny _ _ (if (decide (-(2:Int) ^ 63≤4238894112)&&decide ((4238894112:Int)<2 ^ 63))=true then _ else _) Q E _;rw [if_pos (by decide)];exact wpAny_pure h
theorem GIs.hash {k:KD} {v:Value} (hu:A.units+1<cLine) (a:GIs P w s.heap k v) {Q:Int->Shared->Prop} (h:Q (gHash P w k) { s with toks:=s.toks+gDraws P w k }):wpAny (model P w) A (pyHash v) Q E s:=by
 cases k with
 | non=>cases a;exact xAns h
 | int i=>obtain ⟨t,rfl⟩:=a;exact wpAny_pyHash_int h
 | tup ks=>obtain ⟨p,rfl,q⟩:=a;exact (tupleKind (mixKind P w)).pyHash (show A.units<cLine by omega) q h
 | two ks ls=>obtain ⟨p,rfl,q⟩:=a;exact xAqo hu q h
theorem GIs.tuple {h:Heap} {ks:List Key} {v:Value} (a:GIs P w h (.tup ks) v):∃ p its,v=.ref p/\h.IsTuple p its:=by
 obtain ⟨p,e,o,its,n,h1,h2,h3,_⟩:=a;exact ⟨p,its,e,o,h1,h2,n,h3⟩
theorem GIs.tuple2 {h:Heap} {ks ls:List Key} {v:Value} (a:GIs P w h (.two ks ls) v):∃ p its,v=.ref p/\h.IsTuple p its:=by
 obtain ⟨p,e,q⟩:=a;obtain ⟨c,d,t,_⟩:=q.tuple;exact ⟨p,_,e,t⟩
theorem GIs.eq {x y:KD} {u v:Value} (hu1:A.units+1<cLine) (a:GIs P w s.heap x u) (b:GIs P w s.heap y v) {Q:Bool->Shared->Prop} (h:Q (decide (x=y)) s):wpAny (model P w) A (eqBool u v) Q E s:=by
 have ne:∀ {z z':KD},z≠z'->decide (z=z')=false:=fun q=>decide_eq_false q
 have hu:A.units<cLine:=by omega
 cases x with
 | non =>
  cases a
  cases y with
  | non=>cases b;exact SeqAt.EqAt.same _ _ _ _ _ h
  | int j =>
   obtain ⟨t,rfl⟩:=b;rw [ne (by intro z;cases z)] at h;exact SeqAt.EqAt.none_int _ _ _ _ _ _ h
  | tup ks =>
   obtain ⟨p,its,rfl,q⟩:=b.tuple;rw [ne (by intro z;cases z)] at h;exact SeqAt.EqAt.none_tuple q hu _ _ _ _ h
  | two ks ls =>
   obtain ⟨p,its,rfl,q⟩:=b.tuple2;rw [ne (by intro z;cases z)] at h;exact SeqAt.EqAt.none_tuple q hu _ _ _ _ h
 | int i =>
  obtain ⟨t,rfl⟩:=a
  cases y with
  | non =>
   cases b;rw [ne (by intro z;cases z)] at h;exact SeqAt.EqAt.int_none _ _ _ _ _ _ h
  | int j =>
   obtain ⟨t,rfl⟩:=b;refine SeqAt.EqAt.int_int _ _ _ _ _ _ _ _ ?_;rw [show (i==j)=decide (KD.int i=KD.int j) from by by_cases z:i=j <;> simp [z]];exact h
  | tup ks =>
   obtain ⟨p,its,rfl,q⟩:=b.tuple;rw [ne (by intro z;cases z)] at h;exact SeqAt.EqAt.int_tuple _ _ q hu _ _ _ _ h
  | two ks ls =>
   obtain ⟨p,its,rfl,q⟩:=b.tuple2;rw [ne (by intro z;cases z)] at h;exact SeqAt.EqAt.int_tuple _ _ q hu _ _ _ _ h
 | tup ks =>
  cases y with
  | non =>
   cases b;obtain ⟨p,its,rfl,q⟩:=a.tuple;rw [ne (by intro z;cases z)] at h;exact SeqAt.EqAt.tuple_none q hu _ _ _ _ h
  | int j =>
   obtain ⟨t,rfl⟩:=b;obtain ⟨p,its,rfl,q⟩:=a.tuple;rw [ne (by intro z;cases z)] at h;exact SeqAt.EqAt.tuple_int _ _ q hu _ _ _ _ h
  | tup ks' =>
   obtain ⟨p,rfl,q⟩:=a;obtain ⟨p',rfl,q'⟩:=b;refine (tupleKind (mixKind P w)).eqBool hu q q' ?_;rw [show decide (ks=ks')=decide (KD.tup ks=KD.tup ks') from by by_cases z:ks=ks' <;> simp [z]];exact h
  | two ks' ls' =>
   obtain ⟨p,rfl,q⟩:=a;obtain ⟨p',rfl,q'⟩:=b;rw [ne (by intro z;cases z)] at h;exact xAjk hu1 q q' _ _ _ _ h
 | two ks ls =>
  cases y with
  | non =>
   cases b;obtain ⟨p,its,rfl,q⟩:=a.tuple2;rw [ne (by intro z;cases z)] at h;exact SeqAt.EqAt.tuple_none q hu _ _ _ _ h
  | int j =>
   obtain ⟨t,rfl⟩:=b;obtain ⟨p,its,rfl,q⟩:=a.tuple2;rw [ne (by intro z;cases z)] at h;exact SeqAt.EqAt.tuple_int _ _ q hu _ _ _ _ h
  | tup ks' =>
   obtain ⟨p,rfl,q⟩:=a;obtain ⟨p',rfl,q'⟩:=b;rw [ne (by intro z;cases z)] at h;exact xAjj hu1 q q' _ _ _ _ h
  | two ks' ls' =>
   obtain ⟨p,rfl,q⟩:=a;obtain ⟨p',rfl,q'⟩:=b;exact xAqn hu1 q q' _ _ _ _ h
theorem GIs.quiet {k:KD} {v:Value} (a:GIs P w s.heap k v) {Q:Bool->Shared->Prop} (h:Q true s):wpAny (model P w) A (eqIsQuiet 8 v) Q E s:=by
 cases k with
 | non=>cases a;exact wpAny_pure h
 | int i=>obtain ⟨t,rfl⟩:=a;exact wpAny_pure h
 | tup ks=>obtain ⟨p,rfl,q⟩:=a;exact (tupleKind (mixKind P w)).quiet q h
 | two ks ls=>obtain ⟨p,rfl,q⟩:=a;exact xAnr q h
theorem g_tell {k:KD} {v:Value} {l:List Value} (a:GIs P w s.heap k v) (hl:∀ u∈l,∃ k',GIs P w s.heap k' u) {Q:Bool->Shared->Prop} (h:Q false s):wpAny (model P w) A (tableMayTell v l) Q E s:=by
 unfold tableMayTell
 split
 ·exact wpAny_pure h
 ·refine wpAny_bind (a.quiet ?_)
  rw [if_neg (by decide)];refine wpAny_bind (wpAny_forIn_list _ (fun r b s'=>s'=s/\b=(none,())/\∀ u∈r,∃ k',GIs P w s.heap k' u) _ ?_ ?_ _ _ ⟨rfl,rfl,hl⟩)
  ·rintro u r b s' ⟨rfl,rfl,hr⟩
   obtain ⟨k',hk⟩:=hr u qh;refine wpAny_bind (hk.quiet ?_);rw [if_neg (by decide)];exact wpAny_pure ⟨rfl,rfl,fun x hx=>hr x (qr _ hx)⟩
  ·rintro b s' ⟨rfl,rfl,_⟩
   exact wpAny_pure h
def gIdx (xs:List (KD×Value×Value)) (k:KD):Option Nat:=xs.findIdx? fun x=>decide (x.1=k)
theorem xAeu {xs:List (KD×Value×Value)} {k:KD} {j:Nat} {x:KD×Value×Value} (hn:(xs.map (·.1)).Nodup) (h:xs[j]?=some x) (e:x.1=k):gIdx xs k=some j:=by
 unfold gIdx;rw [jj];obtain ⟨hj,ej⟩:=qv.mp h;refine ⟨hj,by rw [ej,e];simp,fun i hi=>?_⟩
 have:¬ xs[i].1=k:=fun z=>by
  have e1:(xs.map (·.1))[i]?=some k:=by rw [List.getElem?_map,List.getElem?_eq_getElem (by omega)];simp [z]
  have e2:(xs.map (·.1))[j]?=some k:=by rw [List.getElem?_map,h];simp [e]
  have:=(jk (by rw [qf];omega) hn).mp (e1.trans e2.symm);omega
 simpa using this
theorem xAif {xs:List (KD×Value×Value)} {k:KD} (h:∀ (j:Nat) x,xs[j]?=some x->x.1≠k):gIdx xs k=none:=by
 unfold gIdx;rw [jl];intro x hx;obtain ⟨j,hj,e⟩:=qt.mp hx;exact decide_eq_false (h j x (by rw [qe hj,e]))
theorem g_loop {xs:List (KD×Value×Value)} {k:KD} {es:Array DictEntry} (at':∀ j:Nat,es[j]?=(xs[j]?).map (gEnt P w)) (sz:es.size=xs.length) (hn:(xs.map (·.1)).Nodup) {body:Nat->Option (Option Nat)×Option Nat->Sem (ForInStep (Option (Option Nat)×Option Nat))} {R:Option (Option Nat)×Option Nat->Shared->Prop}
  (B:∀ (i:Nat) b hit (R':ForInStep (Option (Option Nat)×Option Nat)->Shared->Prop),xs[i]?=some b->(b.1=k->hit=none/\R' (.done (some (some i),hit)) s/\R' (.yield (none,some i)) s)->(b.1≠k->R' (.yield (none,hit)) s)->wpAny (model P w) A (body i (none,hit)) R' E s)
  (R0:(∀ (j:Nat) x,xs[j]?=some x->x.1≠k)->R (none,none) s) (R1:∀ (j:Nat) x,xs[j]?=some x->x.1=k->R (some (some j),none) s/\R (none,some j) s) :
  wpAny (model P w) A (forIn (placesWithHash es.size (fun i=>es[i]?.map (·.hash)) (gHash P w k)) (none,none) body) R E s:=by
 have has:∀ (j:Nat) x,xs[j]?=some x->x.1=k->((es[j]?.map (·.hash))==some (gHash P w k))=true:=fun j x hj e=>by
  rw [at' j,hj];show (some (gHash P w x.1)==some (gHash P w k))=true;rw [e]
  simp
 have one:∀ {i j:Nat} {x y:KD×Value×Value},xs[i]?=some x->xs[j]?=some y->x.1=k->y.1=k->i=j:=fun {i j x y} h1 h2 e1 e2=>by
  have q1:(xs.map (·.1))[i]?=some k:=by rw [qu,h1];exact congrArg some e1
  have q2:(xs.map (·.1))[j]?=some k:=by rw [qu,h2];exact congrArg some e2
  exact (jk (qv.mp q1).1 hn).mp (q1.trans q2.symm)
 refine wpAny_forIn_list _ (fun rest b s'=>s'=s/\∃ i hit,b=(none,hit)/\rest=(List.range' i (es.size - i)).filter (fun i=>(es[i]?.map (·.hash))==some (gHash P w k))/\i≤es.size ∧
   ((hit=none/\∀ (j:Nat) x,j<i->xs[j]?=some x->x.1≠k)\/∃ j x,hit=some j/\j<i/\xs[j]?=some x/\x.1=k)) _ ?_ ?_ _ _
  ⟨rfl,0,none,rfl,by rw [placesWithHash,jm,vt],q5 _,.inl ⟨rfl,fun j x hj=>absurd hj (zk _)⟩⟩
 ·rintro x rest b s' ⟨rfl,i,hit,rfl,hr,hi,hH⟩
  obtain ⟨hix,hxn,hpx,hskip,hrest⟩:=filter_range'_cons _ _ _ _ _ hr.symm
  have hlt:x<es.size:=by omega
  have hrest':rest=(List.range' (x+1) (es.size - (x+1))).filter (fun i=>(es[i]?.map (·.hash))==some (gHash P w k)):=by
   rw [hrest]
   congr 2
   omega
  have hx:xs[x]?=some (xs[x]'(by omega)):=qe _;generalize xs[x]'(by omega)=b at hx
  have gap:∀ (j:Nat) y,i≤j->j<x->xs[j]?=some y->y.1≠k:=fun j y h1 h2 hj e=>by
   have:=hskip j h1 h2;rw [has j y hj e] at this;exact absurd this (by decide)
  refine B x b hit _ hx (fun e=>?_) fun e=>?_
  ·rcases hH with ⟨rfl,hno⟩ | ⟨j,y,_,hj,hy,ey⟩
   ·exact ⟨rfl,(R1 x b hx e).1,rfl,x+1,some x,rfl,hrest',hlt,.inr ⟨x,b,rfl,wt x,hx,e⟩⟩
   ·have:=one hy hx ey e
    omega
  ·refine ⟨rfl,x+1,hit,rfl,hrest',hlt,?_⟩
   rcases hH with ⟨h0,hno⟩ | ⟨j,y,h1,hj,hy,ey⟩
   ·refine .inl ⟨h0,fun j y hjx hj=>?_⟩
    by_cases c1:j<i
    ·exact hno j y c1 hj
    ·by_cases c2:j<x
     ·exact gap j y (by omega) c2 hj
     ·have:j=x:=by omega
      subst this;rw [hx] at hj;cases hj;exact e
   ·exact .inr ⟨j,y,h1,by omega,hy,ey⟩
 ·rintro b s' ⟨rfl,i,hit,rfl,hr,hi,hH⟩
  rcases hH with ⟨rfl,hno⟩ | ⟨j,y,rfl,hj,hy,ey⟩
  ·refine R0 fun j x hj e=>?_
   by_cases c1:j<i
   ·exact hno j x c1 hj e
   ·have hjl:j<es.size:=by rw [sz];exact (qv.mp hj).1
    have:=jn.mp hr.symm j (jo.mpr ⟨by omega,by omega⟩);exact this (has j x hj e)
  ·exact (R1 j y hy ey).2
theorem xAph {d:Addr} {o:Obj} {es:Array DictEntry} {ep:Nat} {xs:List (KD×Value×Value)} {k:KD} {v:Value} {Q:Option Nat->Shared->Prop} (hu:A.units+1<cLine) (a:GIs P w s.heap k v) (ho:s.heap.get? d=some o) (hd:o.data=.dict es ep)
  (at':∀ j:Nat,es[j]?=(xs[j]?).map (gEnt P w)) (sz:es.size=xs.length) (his:∀ x∈xs,GIs P w s.heap x.1 x.2.1) (hn:(xs.map (·.1)).Nodup) (hQ:Q (gIdx xs k) s):wpAny (model P w) A (dictWalkPlain d v (gHash P w k) es (placesWithHash es.size (fun i=>es[i]?.map (·.hash)) (gHash P w k))) Q E s:=by
 unfold dictWalkPlain
 have has:∀ (j:Nat) x,xs[j]?=some x->x.1=k->((es[j]?.map (·.hash))==some (gHash P w k))=true:=fun j x hj e=>by
  rw [at' j,hj];show (some (gHash P w x.1)==some (gHash P w k))=true;rw [e]
  simp
 refine wpAny_bind (wpAny_forIn_list _ (fun rest b s'=>s'=s/\b=(none,())/\∃ i,rest=(List.range' i (es.size - i)).filter (fun i=>(es[i]?.map (·.hash))==some (gHash P w k))/\i≤es.size/\∀ (j:Nat) x,j<i->xs[j]?=some x->x.1≠k) _ ?_ ?_ _ _
  ⟨rfl,rfl,0,by rw [placesWithHash,jm,vt],q5 _,fun j x hj=>absurd hj (zk _)⟩)
 ·rintro x rest b s' ⟨rfl,rfl,i,hr,hi,hno⟩
  obtain ⟨hix,hxn,hpx,hskip,hrest⟩:=filter_range'_cons _ _ _ _ _ hr.symm
  have hlt:x<es.size:=by omega
  have hx:xs[x]?=some (xs[x]'(by omega)):=qe _;generalize xs[x]'(by omega)=b at hx
  have hex:es[x]?=some (gEnt P w b):=by rw [at' x,hx];rfl
  have more:b.1≠k->∃ i,rest=(List.range' i (es.size - i)).filter (fun i=>(es[i]?.map (·.hash))==some (gHash P w k))/\i≤es.size/\∀ (j:Nat) x,j<i->xs[j]?=some x->x.1≠k:=fun e=>⟨x+1,by rw [hrest];congr 2;omega,hlt,fun j y hjx hj=>by
   by_cases c1:j<i
   ·exact hno j y c1 hj
   ·by_cases c2:j<x
    ·intro z
     have:=hskip j (by omega) c2;rw [has j y hj z] at this;exact absurd this (by decide)
    ·have:j=x:=by omega
     subst this;rw [hx] at hj;cases hj
     exact e⟩
  rw [hex]
  try dsimp only
  have hh:((gEnt P w b).hash==gHash P w k)=true:=by
   have:=hpx;rw [hex] at this;simpa using this
  rw [if_pos hh];refine wpAny_bind (wpAny_dictEpoch ho hd (wpAny_bind ((his b (qo hx)).eq hu a (wpAny_bind (wpAny_dictEpoch ho hd ?_)))))
  try dsimp only
  rw [if_neg (by simp)]
  by_cases e:b.1=k
  ·rw [decide_eq_true e,if_pos rfl]
   refine wpAny_bind (wpAny_rule (wpAny_pure (wpAny_pure ?_)));rw [← xAeu hn hx e];exact hQ
  ·rw [decide_eq_false e,if_neg (by decide)]
   exact wpAny_bind (wpAny_rule (wpAny_pure ⟨rfl,rfl,more e⟩))
 ·rintro b s' ⟨rfl,rfl,i,hr,hi,hno⟩
  refine wpAny_pure ?_;rw [← xAif (xs:=xs) (k:=k) fun j x hj e=>?_]
  ·exact hQ
  ·by_cases c1:j<i
   ·exact hno j x c1 hj e
   ·have hjl:j<es.size:=by rw [sz];exact (qv.mp hj).1
    exact jn.mp hr.symm j (jo.mpr ⟨by omega,by omega⟩) (has j x hj e)
theorem xAnt {d:Addr} {o:Obj} {es:Array DictEntry} {ep:Nat} {xs:List (KD×Value×Value)} {k:KD} {v:Value} {Q:Option Nat->Shared->Prop} (hu:A.units+1<cLine) (a:GIs P w s.heap k v) (ho:s.heap.get? d=some o) (hd:o.data=.dict es ep)
  (he:es.toList=xs.map (gEnt P w)) (his:∀ x∈xs,GIs P w s.heap x.1 x.2.1) (hn:(xs.map (·.1)).Nodup) (hQ:Q (gIdx xs k) s):wpAny (model P w) A (dictFind d v (gHash P w k)) Q E s:=by
 have at':∀ j:Nat,es[j]?=(xs[j]?).map (gEnt P w):=fun j=>by rw [← z3,he,qu]
 have sz:es.size=xs.length:=by rw [← q9,he,qf]
 have key:∀ (j:Nat) x,xs[j]?=some x->x.1=k->((es[j]?.map (·.hash))==some (gHash P w k))=true:=fun j x hj e=>by
  rw [at' j,hj];show (some (gHash P w x.1)==some (gHash P w k))=true;rw [e]
  simp
 have mem:∀ e∈es,∃ x∈xs,e=gEnt P w x:=fun e hin=>by
  obtain ⟨x,hx,z⟩:=qd.mp (show e∈xs.map (gEnt P w) from he▸yu.mpr hin);exact ⟨x,hx,z.symm⟩
 have nostr:∀ z t,v≠.str z t:=fun z t e=>by
  rw [e] at a
  cases k with
  | non=>cases a
  | int i=>obtain ⟨_,q⟩:=a;cases q
  | tup ks=>obtain ⟨_,q,_⟩:=a;cases q
  | two ks ls=>obtain ⟨_,q,_⟩:=a;cases q
 have anyF:¬ (es.any fun e=>e.key==v&&e.hash != gHash P w k)=true:=by
  rw [← Array.any_toList,wg];rintro ⟨e,hin,hc⟩;obtain ⟨x,hx,rfl⟩:=mem e (yu.mp hin);rw [za] at hc;have e1:x.2.1=v:=eq_of_beq hc.1;have e2:=his x hx;rw [e1] at e2;have e3:=e2.inj a;have e4:(gHash P w x.1 != gHash P w k)=true:=hc.2;rw [e3] at e4
  simp at e4
 have st:∀ u∈(placesWithHash es.size (fun i=>es[i]?.map (·.hash)) (gHash P w k)).filterMap (fun i=>es[i]?.map (·.key)),∃ k',GIs P w s.heap k' u:=fun u hu'=>by
  obtain ⟨i,_,hi⟩:=v6.mp hu';rw [at' i] at hi
  cases e:xs[i]? with
  | none=>rw [e] at hi;cases hi
  | some x =>
   rw [e] at hi
   have e2:x.2.1=u:=by simpa [gEnt] using hi
   exact ⟨x.1,e2▸his x (qo e)⟩
 have look:∀ (x:Nat) (b:KD×Value×Value) {R:Bool->Shared->Prop},xs[x]?=some b->R (decide (b.1=k)) s->wpAny (model P w) A (eqBool b.2.1 v) R E s:=fun x b R hx r=>(his b (qo hx)).eq hu a r
 have noneQ:(∀ (j:Nat) x,xs[j]?=some x->x.1≠k)->Q none s:=fun h=>by rw [← xAif h];exact hQ
 have someQ:∀ (j:Nat) x,xs[j]?=some x->x.1=k->Q (some j) s:=fun j x hj e=>by rw [← xAeu hn hj e];exact hQ
 unfold dictFind
 try with_reducible refine wpAny_holding ?_
 refine wpAny_bind (wpAny_dictEntries ho hd ?_)
 have vc:v=.none\/(∃ i t,v=.int i t)\/∃ p,v=.ref p:=by
  cases k with
  | non=>exact .inl a
  | int i=>exact .inr (.inl ⟨i,a⟩)
  | tup ks=>exact .inr (.inr ⟨a.choose,a.choose_spec.1⟩)
  | two ks ls=>exact .inr (.inr ⟨a.choose,a.choose_spec.1⟩)
 by_cases hv:(v::(placesWithHash es.size (fun i=>es[i]?.map (·.hash)) (gHash P w k)).filterMap (fun i=>es[i]?.map (·.key))).all carriedByValue=true
 ·rcases vc with rfl | ⟨i,t,rfl⟩ | ⟨p,rfl⟩
  ·dsimp only
   rw [if_pos hv];exact xAph hu a ho hd at' sz his hn hQ
  ·dsimp only
   rw [if_pos hv];exact xAph hu a ho hd at' sz his hn hQ
  ·exact absurd hv (by simp [carriedByValue])
 ·rcases vc with rfl | ⟨i,t,rfl⟩ | ⟨p,rfl⟩ <;> dsimp only <;> rw [if_neg hv] <;> (try rw [if_neg anyF]) <;> refine wpAny_ite_split (fun _=>?_) (fun _=>?_) <;> (first | refine wpAny_bind (wpAny_pure ?_) | refine wpAny_bind (g_tell a st ?_)) <;> (
   rw [if_neg (by simp)];refine wpAny_bind (g_loop at' sz hn (fun i b hit R' hx y n=>?_) (fun h=>wpAny_pure (noneQ h)) fun j x hj e=>⟨wpAny_pure (someQ j x hj e),wpAny_pure (someQ j x hj e)⟩)
   have hex:es[i]?=some (gEnt P w b):=by rw [at' i,hx];rfl
   rw [hex];dsimp only
   by_cases hh:((gEnt P w b).hash==gHash P w k)=true
   ·rw [if_pos hh]
    refine wpAny_bind (wpAny_dictEpoch ho hd (wpAny_bind (look i b hx (wpAny_bind (wpAny_dictEpoch ho hd ?_)))));rw [if_neg (by simp)]
    by_cases e:b.1=k
    ·obtain ⟨rfl,y1,y2⟩:=y e
     rw [decide_eq_true e,if_pos rfl,if_neg (by decide)];refine wpAny_bind (wpAny_rule ?_)
     split
     ·exact wpAny_pure y1
     ·exact wpAny_pure y2
    ·rw [decide_eq_false e,if_neg (by decide)]
     refine wpAny_bind (wpAny_rule ?_);rw [if_neg (by simp)];exact wpAny_pure (n e)
   ·rw [if_neg hh]
    exact wpAny_pure (n fun e=>hh (by
     show (gHash P w b.1==gHash P w k)=true;rw [e]
     simp)))
end
section
variable {α β:Type}
def vG (kvs:List (KD×α×β)) (k:KD):Option β:=(kvs.find? fun e=>decide (e.1=k)).map (·.2.2)
def pG (kvs:List (KD×α×β)) (k:KD) (key:α) (v:β):List (KD×α×β):=if (vG kvs k).isSome=true then kvs.map (fun e=>if e.1=k then (e.1,e.2.1,v) else e) else kvs++[(k,key,v)]
theorem xAdr {kvs:List (KD×α×β)} {k:KD} {i:Nat} {e:KD×α×β} (hn:(kvs.map (·.1)).Nodup) (h:kvs[i]?=some e) (he:e.1=k):vG kvs k=some e.2.2:=by
 unfold vG
 induction kvs generalizing i with
 | nil=>cases h
 | cons x r ih =>
  rw [qz,ze] at hn;rw [wm]
  cases i with
  | zero=>cases h;rw [decide_eq_true he];rfl
  | succ i =>
   have h':r[i]?=some e:=by simpa using h
   have hx:¬ x.1=k:=fun z=>hn.1 (by rw [z,← he];exact qd.mpr ⟨e,qo h',rfl⟩)
   rw [decide_eq_false hx];exact ih hn.2 h'
theorem xAec {kvs:List (KD×α×β)} {k:KD} (h:∀ e∈kvs,e.1≠k):vG kvs k=none:=by
 unfold vG;rw [ye.mpr fun e he=>by rw [decide_eq_true_eq];exact h e he];rfl
theorem vG_no {kvs:List (KD×α×β)} {k:KD} (h:vG kvs k=none):∀ e∈kvs,e.1≠k:=fun e he z=>by
 unfold vG at h;rw [Option.map_eq_none_iff,ye] at h;exact h e he (decide_eq_true z)
theorem xAfx (kvs:List (KD×α×β)) (k k':KD) (key:α) (v:β):vG (pG kvs k key v) k'=if k'=k then some v else vG kvs k':=by
 unfold pG
 by_cases hs:(vG kvs k).isSome=true
 ·rw [if_pos hs]
  obtain ⟨u,hu⟩:=jf.mp hs;clear hs;unfold vG at *
  induction kvs with
  | nil=>simp at hu
  | cons x r ih =>
   rw [qz,wm];rw [wm] at hu ⊢
   by_cases hx:x.1=k
   ·rw [if_pos hx]
    by_cases hk:k'=k
    ·subst hk
     rw [if_pos rfl]
     simp [hx]
    ·rw [if_neg hk]
     have:¬ x.1=k':=fun z=>hk (z.symm.trans hx)
     simp only [this,decide_false]
     clear hu ih
     induction r with
     | nil=>rfl
     | cons y r ih2 =>
      rw [qz,wm,wm]
      by_cases hy:y.1=k
      ·have hy':¬ y.1=k':=fun z=>hk (z.symm.trans hy)
       rw [if_pos hy]
       simp only [hy',decide_false]
       exact ih2
      ·rw [if_neg hy]
       by_cases hy':y.1=k'
       ·simp [hy']
       ·simp only [hy',decide_false]
        exact ih2
   ·rw [if_neg hx]
    simp only [hx,decide_false] at hu
    by_cases hx':x.1=k'
    ·have:¬ k'=k:=fun z=>hx (hx'.trans z)
     rw [if_neg this]
     simp [hx']
    ·simp only [hx',decide_false]
     exact ih hu
 ·rw [if_neg hs]
  have hno:=vG_no (kvs:=kvs) (k:=k) (by cases e:vG kvs k with
   | none=>rfl
   | some u=>rw [e] at hs;exact absurd rfl hs)
  unfold vG;rw [List.find?_append]
  by_cases hk:k'=k
  ·subst hk
   rw [if_pos rfl,ye.mpr fun e he=>by rw [decide_eq_true_eq];exact hno e he]
   simp
  ·rw [if_neg hk]
   cases e:List.find? (fun e=>decide (e.1=k')) kvs with
   | some x=>rfl
   | none =>
    have:¬ k=k':=fun z=>hk z.symm
    simp [this]
theorem pG_keys (kvs:List (KD×α×β)) (k:KD) (key:α) (v:β):(pG kvs k key v).map (·.1)=if (vG kvs k).isSome=true then kvs.map (·.1) else kvs.map (·.1)++[k]:=by
 unfold pG
 split
 ·rw [z4]
  refine z5 fun e _=>?_;show (if e.1=k then (e.1,e.2.1,v) else e).1=e.1
  split <;> rfl
 ·rw [zg]
  rfl
theorem xAev (kvs:List (KD×α×β)) (k:KD) (key:α) (v:β):(pG kvs k key v).length≤kvs.length+1:=by
 unfold pG
 split
 ·rw [qf];omega
 ·rw [qg,ql];exact qc _
theorem pG_nodup {kvs:List (KD×α×β)} {k:KD} {key:α} {v:β} (h:(kvs.map (·.1)).Nodup):((pG kvs k key v).map (·.1)).Nodup:=by
 rw [pG_keys]
 split
 ·exact h
 ·rename_i hs
  refine nd_add h fun hm=>?_;obtain ⟨e,he,rfl⟩:=qd.mp hm
  exact vG_no (kvs:=kvs) (k:=e.1) (by cases e':vG kvs e.1 with
   | none=>rfl
   | some u=>rw [e'] at hs;exact absurd rfl hs) e he rfl
end
section
variable {P:Program} {w:World} {A:Around} {E:Value->Shared->Prop} {s:Shared}
def GDict (P:Program) (w:World) (h:Heap) (d:Addr) (xs:List (KD×Value×Value)):Prop :=
 ∃ o es ep,h.get? d=some o/\o.ExactDict/\o.data=.dict es ep/\es.toList=xs.map (gEnt P w)/\(∀ x∈xs,GIs P w h x.1 x.2.1)/\(xs.map (·.1)).Nodup
theorem GDict.typeIs {d:Addr} {xs:List (KD×Value×Value)} (g:GDict P w s.heap d xs):s.TypeIs (.ref d) "dict":=let ⟨o,_,_,ho,hc,_⟩:=g;⟨o,ho,hc.1⟩
theorem xAgr {xs:List (KD×Value×Value)} {k:KD} {j:Nat} (h:gIdx xs k=some j):∃ x,xs[j]?=some x/\x.1=k:=by
 unfold gIdx at h;rw [jj] at h;obtain ⟨hj,h1,_⟩:=h;exact ⟨xs[j],List.getElem?_eq_getElem hj,by simpa using h1⟩
theorem xAlf {xs:List (KD×Value×Value)} {k:KD} (h:gIdx xs k=none):∀ e∈xs,e.1≠k:=fun e he=>by
 unfold gIdx at h;rw [jl] at h;simpa using h e he
theorem xAlg {d:Addr} {xs:List (KD×Value×Value)} {k:KD} {v:Value} {Q:Option Value->Shared->Prop} (hu:A.units+1<cLine) (a:GIs P w s.heap k v) (g:GDict P w s.heap d xs) (h:Q (vG xs k) { s with toks:=s.toks+gDraws P w k }):wpAny (model P w) A (dictGet d v) Q E s:=by
 obtain ⟨o,es,ep,ho,_,hd,he,his,hn⟩:=g;unfold dictGet
 try with_reducible refine wpAny_holding ?_
 refine wpAny_bind (a.hash hu (wpAny_bind (xAnt (s:={ s with toks:=s.toks+gDraws P w k }) hu a ho hd he his hn ?_)))
 cases e:gIdx xs k with
 | none =>
  rw [xAec (xAlf e)] at h;exact wpAny_pure h
 | some j =>
  obtain ⟨x,hx,ex⟩:=xAgr e;rw [xAdr hn hx ex] at h;refine wpAny_bind (wpAny_dictEntries (s:={ s with toks:=s.toks+gDraws P w k }) ho hd ?_);rw [← z3,he,qu,hx];exact wpAny_pure h
theorem xAnu {xs:List (KD×Value×Value)} {k:KD} {v:Value} {j:Nat} {x:KD×Value×Value} (hn:(xs.map (·.1)).Nodup) (hx:xs[j]?=some x) (ex:x.1=k) :
  (xs.map (gEnt P w)).modify j (fun e=>{ e with val:=v })=(xs.map fun e=>if e.1=k then (e.1,e.2.1,v) else e).map (gEnt P w):=by
 apply w5;intro i;rw [List.getElem?_modify,qu,qu,qu]
 cases hi:xs[i]? with
 | none=>simp
 | some y =>
  by_cases e:j=i
  ·subst e
   rw [hx] at hi;cases hi
   simp [ex,gEnt]
  ·have hy:¬ y.1=k:=fun z=>e ((List.getElem?_inj (by rw [List.length_map];exact (List.getElem?_eq_some_iff.mp hx).1) hn).mp (by rw [List.getElem?_map,List.getElem?_map,hx,hi];simp [ex,z]))
   simp [e,hy]
theorem xAds {h h':Heap} {d:Addr} {o:Obj} {es:Array DictEntry} {ep:Nat} (ho:h.get? d=some o) (hc:o.ExactDict) (hs:Heap.SameBut d h h') {k:KD} {v:Value} (a:GIs P w h k v):GIs P w h' k v:=a.ext fun b o' hb hcl=>(hs.2 b (fun z=>by
 rw [z,ho] at hb;cases hb;rw [hc.1] at hcl
 exact absurd hcl (by decide))).trans hb
theorem xAlh {d:Addr} {xs:List (KD×Value×Value)} {k:KD} {v val:Value} {Q:Unit->Shared->Prop} (hu:A.units+1<cLine) (a:GIs P w s.heap k v) (g:GDict P w s.heap d xs) (hsz:xs.length≤sizeLine)
  (hQ:∀ h',GDict P w h' d (pG xs k v val)->Heap.SameBut d s.heap h'->Q () { s with heap:=h',toks:=s.toks+gDraws P w k }):wpAny (model P w) A (dictSet d v val) Q E s:=by
 obtain ⟨o,es,ep,ho,hc,hd,he,his,hn⟩:=g
 have sz:es.size=xs.length:=by rw [← q9,he,qf]
 have keep:∀ h',Heap.SameBut d s.heap h'->∀ x∈pG xs k v val,GIs P w h' x.1 x.2.1:=fun h' hs x hx=>by
  unfold pG at hx
  split at hx
  ·obtain ⟨y,hy,rfl⟩:=qd.mp hx
   have:=xAds (es:=es) (ep:=ep) ho hc hs (his y hy)
   split <;> exact this
  ·rcases qw.mp hx with hx | hx
   ·exact xAds (es:=es) (ep:=ep) ho hc hs (his x hx)
   ·rw [qj.mp hx]
    exact xAds (es:=es) (ep:=ep) ho hc hs a
 unfold dictSet
 try with_reducible refine wpAny_holding ?_
 refine wpAny_bind (a.hash hu ?_);unfold dictSetHashed
 try with_reducible refine wpAny_holding ?_
 refine wpAny_bind (xAnt (s:={ s with toks:=s.toks+gDraws P w k }) hu a ho hd he his hn ?_)
 cases e:gIdx xs k with
 | none =>
  have hv:=xAec (xAlf e);refine wpAny_bind (wpAny_rule (wpAny_updateDictKeys (hz:=by omega) (s:={ s with toks:=s.toks+gDraws P w k }) ho hd (hQ _ ⟨_,_,ep+1,Heap.get?_update_self _ ho (Obj.isFreed_of_dict (Obj.data_mapDictKeys hd _)),hc.mapDictKeys _,Obj.data_mapDictKeys hd _,?_,keep _ (Heap.SameBut.update ..),pG_nodup hn⟩ (Heap.SameBut.update ..))));unfold pG;rw [hv,if_neg (by decide)]
  simp [he,gEnt]
 | some j =>
  obtain ⟨x,hx,ex⟩:=xAgr e;have hv:=xAdr hn hx ex;refine wpAny_bind (wpAny_rule (wpAny_bind (wpAny_updateDict (s:={ s with toks:=s.toks+gDraws P w k }) ho hd (wpAny_point (hQ _ ⟨_,_,ep,Heap.get?_update_self _ ho (Obj.isFreed_of_dict (Obj.data_mapDict hd _)),hc.mapDict _,Obj.data_mapDict hd _,?_,keep _ (Heap.SameBut.update ..),pG_nodup hn⟩ (Heap.SameBut.update ..))))));unfold pG;rw [hv,if_pos (show (some x.2.2).isSome=true from rfl)];have:=xAnu (P:=P) (w:=w) (v:=val) hn hx ex;rw [← he] at this;obtain ⟨l⟩:=es;simpa using this
end
abbrev GP (H:Hp):KD×V×V->KD×Value×Value->Prop:=fun p q=>p.1=q.1/\GK H p.1 p.2.1/\RelV p.2.1 q.2.1/\RelV p.2.2 q.2.2
section
variable {X:Cx} {pins:List (Addr×Obj)} {σ:St} {H:Hp} {s:Shared} {a:Addr} {y v:V} {u r:Value} {k:KD} {kvs:List (KD×V×V)} {A:Around} {E:Value->Shared->Prop}
theorem GK.is (I:Inv X pins σ H s) (g:GK H k y) (ry:RelV y u):GIs X.prog X.w s.heap k u:=by
 cases k with
 | non=>cases g;exact ry
 | int i=>cases g;exact ry
 | tup ks =>
  obtain ⟨b,rfl,hb⟩:=g;exact ⟨b,ry,xAjg I.hok hb⟩
 | two ks ls =>
  obtain ⟨b,c,d,rfl,hb,hc,hd⟩:=g;obtain ⟨its,rv,⟨o,e1,e2,n,e3⟩,_⟩:=I.tuple (SqT.of hb);obtain ⟨u1,u2,rfl,r1,r2⟩:=rv.two;cases r1;cases r2;exact ⟨b,ry,o,c,d,n,e1,e2,e3,xAjg I.hok hc,xAjg I.hok hd⟩
theorem xAsv {F:KD×V×V->KD×Value×Value->Prop}:∀ {l:List (KD×V×V)} {m:List (KD×Value×Value)},Paired F l m->∀ x∈m,∃ p∈l,F p x
 | _,_,.nil,x,h=>nomatch h
 | _,_,.cons f t,x,h=>by
  rcases qy.mp h with rfl | h
  ·exact ⟨_,qh,f⟩
  ·obtain ⟨p,hp,q⟩:=xAsv t x h
   exact ⟨p,qr _ hp,q⟩
theorem xAjl:∀ {l:List (KD×V×V)} {m:List (KD×Value×Value)},Paired (GP H) l m->RelO (vG l k) (vG m k)
 | _,_,.nil=>trivial
 | _,_,.cons (a:=p) (b:=q) f t=>by
  have ih:=xAjl t;unfold vG at ih ⊢;rw [wm,wm,← f.1]
  by_cases e:p.1=k
  ·rw [decide_eq_true e];exact f.2.2.2
  ·rw [decide_eq_false e];exact ih
theorem xAsw (rv:RelV v r):∀ {l:List (KD×V×V)} {m:List (KD×Value×Value)},Paired (GP H) l m->Paired (GP H) (l.map fun e=>if e.1=k then (e.1,e.2.1,v) else e) (m.map fun e=>if e.1=k then (e.1,e.2.1,r) else e)
 | _,_,.nil=>.nil
 | _,_,.cons (a:=p) (b:=q) f t=>by
  refine .cons ?_ (xAsw rv t);show GP H (if p.1=k then (p.1,p.2.1,v) else p) (if q.1=k then (q.1,q.2.1,r) else q);rw [← f.1]
  split
  ·exact ⟨rfl,f.2.1,f.2.2.1,rv⟩
  ·exact f
theorem xAnv {l:List (KD×V×V)} {m:List (KD×Value×Value)} (t:Paired (GP H) l m) (g:GK H k y) (ry:RelV y u) (rv:RelV v r):Paired (GP H) (pG l k y v) (pG m k u r):=by
 have e:(vG l k).isSome=(vG m k).isSome:=(xAjl t).isSome_eq;unfold pG;rw [e]
 split
 ·exact xAsw rv t
 ·exact Paired.snoc t ⟨rfl,g,ry,rv⟩
theorem xAnw:∀ {l:List (KD×V×V)} {m:List (KD×Value×Value)},Paired (GP H) l m->l.length=m.length
 | _,_,.nil=>rfl
 | _,_,.cons _ t=>by rw [qx,qx,xAnw t]
theorem gd_rd (I:Inv X pins σ H s) (e:Rd H a (.dG kvs)):kvs.length≤sizeLine/\(a==sysModules)=false/\∃ xs,Paired (GP H) kvs xs/\GDict X.prog X.w s.heap a xs:=by
 obtain ⟨z,y,xs,r,o,es,ep,h1,h2,h3,h4,h5⟩:=(show ObjOk X.prog X.w H s.heap a (.dG kvs) from e.ok I.hok);refine ⟨z,y,xs,r,o,es,ep,h1,h2,h3,h4,fun x hx=>?_,h5⟩;obtain ⟨p,hp,f⟩:=xAsv r x hx;rw [← f.1];exact f.2.1.is I f.2.2.1
theorem xAli {Q:Value->Shared->Prop} (hu:A.units+2<cLine) (I:Inv X pins σ H s) (e:Rd H a (.dG kvs)) (g:GK H k y) (l:vG kvs k=some v) (ry:RelV y u) (h:∀ w' s',Inv X pins σ H s'->RelV v w'->Q w' s') :
  wpAny (model X.prog X.w) A (getItem (.ref a) u) Q E s:=by
 obtain ⟨z,hd,xs,rel,dd⟩:=gd_rd I e;obtain ⟨w',hw,rw'⟩:=RelO.some_of (v:=v) (o:=vG xs k) (by rw [← l];exact xAjl rel);unfold getItem
 try with_reducible refine wpAny_holding ?_
 refine wpAny_bind (wpAny_sequenceKey dd.typeIs (by decide) (wpAny_bind (wpAny_callSpecial?_slot (name:=Str.ofString "__getitem__") dd.typeIs F.slot_dict_getitem (wpAny_call_entry F.slot_dict_getitem dd.typeIs F.entry_dict_getitem ?_ (F.args_dict_getitem_2 _ _)))));show wpAny (model X.prog X.w) _ (dictGet a u >>= _) _ _ s;refine wpAny_bind (xAlg (show A.in1.units+1<cLine from (by show A.units+1+1<cLine;omega)) (g.is I ry) dd ?_);rw [hw];exact wpAny_pure ⟨w',rfl,wpAny_pure (h w' _ (I.tok _) rw')⟩
theorem xAed {Q:Bool->Shared->Prop} (hu:A.units+2<cLine) (I:Inv X pins σ H s) (e:Rd H a (.dG kvs)) (g:GK H k y) (ry:RelV y u) (h:∀ s',Inv X pins σ H s'->Q (vG kvs k).isSome s') :
  wpAny (model X.prog X.w) A (contains (.ref a) u) Q E s:=by
 obtain ⟨z,hd,xs,rel,dd⟩:=gd_rd I e;have eo:(vG kvs k).isSome=(vG xs k).isSome:=(xAjl rel).isSome_eq;unfold contains
 try with_reducible refine wpAny_holding ?_
 refine wpAny_bind (wpAny_specialOf dd.typeIs F.slot_dict_contains.lookup ?_);show wpAny (model X.prog X.w) A (if (some (Value.builtin "dict.__contains__")==some Value.none)=true then _ else _) _ E s;rw [if_neg (by rw [beq_builtin_none];decide)];refine wpAny_bind (wpAny_callSpecialUnlessNone?_slot (name:=Str.ofString "__contains__") dd.typeIs F.slot_dict_contains (wpAny_call_entry F.slot_dict_contains dd.typeIs F.entry_dict_contains ?_ (F.args_dict_contains_2 _ _)));show wpAny (model X.prog X.w) _ (dictGet a u >>= _) _ _ s;refine wpAny_bind (xAlg (show A.in1.units+1<cLine from (by show A.units+1+1<cLine;omega)) (g.is I ry) dd ?_)
 cases hf:vG xs k with
 | some p =>
  rw [hf] at eo;refine wpAny_pure ⟨Value.bool true,rfl,wpAny_truthy_bool ?_⟩;have:=h _ (I.tok (s.toks+gDraws X.prog X.w k));rw [eo] at this;exact this
 | none =>
  rw [hf] at eo;show wpAny (model X.prog X.w) _ (Builtin.Dict.pendingKey? a u >>= _) _ _ _;refine wpAny_bind (wpAny_pendingKey_other hd (wpAny_pure ⟨Value.bool false,rfl,wpAny_truthy_bool ?_⟩));have:=h _ (I.tok (s.toks+gDraws X.prog X.w k));rw [eo] at this;exact this
theorem xAlj {Q:Unit->Shared->Prop} (hu:A.units+2<cLine) (I:Inv X pins σ H s) (e:H a=some (.dG kvs)) (g:GK H k y) (hl:kvs.length<sizeLine) (ry:RelV y u) (rv:RelV v r) (h:∀ s',Inv X pins σ (upd H a (.dG (pG kvs k y v))) s'->Q () s') :
  wpAny (model X.prog X.w) A (setItem (.ref a) u r) Q E s:=by
 obtain ⟨z,hd,xs,rel,dd⟩:=gd_rd I (.inl e);unfold setItem
 try with_reducible refine wpAny_holding ?_
 refine wpAny_bind (wpAny_sequenceKey dd.typeIs (by decide) (wpAny_bind (wpAny_callSpecial?_slot (name:=Str.ofString "__setitem__") dd.typeIs F.slot_dict_setitem (wpAny_call_entry F.slot_dict_setitem dd.typeIs F.entry_dict_setitem ?_ (F.args_dict_setitem_3 _ _ _)))));show wpAny (model X.prog X.w) _ (Builtin.Dict.notOrdered "__setitem__" ⟨[.ref a,u,r],[]⟩ >>= _) _ _ s;refine wpAny_bind (wpAny_notOrdered_dict dd.typeIs ?_);show wpAny (model X.prog X.w) _ (dictSet a u r >>= _) _ _ s;refine wpAny_bind (xAlh (show A.in1.units+1<cLine from (by show A.units+1+1<cLine;omega)) (g.is I ry) dd (by rw [← xAnw rel];exact z) fun h' dd' hs'=>wpAny_pure ⟨Value.none,rfl,wpAny_pure (h _ ?_)⟩);obtain ⟨q,es,ep,hq,h2,h3,h4,_,h5⟩:=dd';have hlen:=xAev kvs k y v;refine xAfr I (by rw [e];exact True.intro) hs' ⟨q,hq⟩ ⟨by omega,hd,_,Paired.mapP (xAnv rel g ry rv) fun p q z=>⟨z.1,z.2.1.stay fun b xs hb=>?_,z.2.2⟩,q,es,ep,hq,h2,h3,h4,h5⟩;rw [xAae (ne_of hb e (fun z=>nomatch z))];exact hb
end
def tDGetG (td ty:TE):TE:=fun σ H Q=>td σ H fun x H1=>ty σ H1 fun y H2=>∃ a kvs k v,x=.ref a/\Rd H2 a (.dG kvs)/\GK H2 k y/\vG kvs k=some v/\Q v H2
def rInG (neg:Bool):R2:=fun y x H Q=>∃ a kvs k,x=.ref a/\Rd H a (.dG kvs)/\GK H k y/\Q (.bl (if neg then !(vG kvs k).isSome else (vG kvs k).isSome)) H
def sDPutG (td ty tv:TE):TS:=fun D σ H=>tv σ H fun v H1=>td σ H1 fun x H2=>ty σ H2 fun y H3=>∃ a kvs k,x=.ref a/\H3 a=some (.dG kvs)/\GK H3 k y/\kvs.length<sizeLine/\D.nx σ (upd H3 a (.dG (pG kvs k y v)))
section
variable {X:Cx} {o i e value:Expr} {pos pos' tpos:Pos} {td ty tv:TE}
theorem xAau (hu:X.A.units+2<cLine) (ho:PE X o td) (hi:PE X i ty) (hs:NoSl i):PE X (.Subscript o i pos) (tDGetG td ty):=by
 intro pins s σ H Q I h;refine xApa PySem.F.slot_dict_getitem.lookup hs (thn (ho pins s σ H _ I h) fun u s1 ⟨x,H1,I1,rx,q1⟩=>thn (hi pins s1 σ H1 _ I1 q1) fun iv s2 ⟨y,H2,I2,ry,a,kvs,k,v,ex,rd,g,l,q2⟩=>?_);subst ex;obtain rfl:u=Value.ref a:=rx;obtain ⟨_,_,xs,_,dd⟩:=gd_rd I2 rd;exact ⟨dd.typeIs,xAli hu I2 rd g l ry fun w' s3 I3 rw'=>⟨v,H2,I3,rw',q2⟩⟩
theorem xAfy (hu:X.A.units+2<cLine):OpR X (compareOp .In) (rInG false):=by
 intro pins s σ H x y v u Q I rx ry h;obtain ⟨a,kvs,k,rfl,rd,g,q⟩:=h;cases ry;show wpAny (model X.prog X.w) X.A (do return Value.bool (← contains (.ref a) v)) _ _ s;exact wpAny_bind (xAed hu I rd g rx fun s' I'=>wpAny_pure ⟨.bl _,H,I',rfl,q⟩)
theorem xAew (hu:X.A.units+2<cLine):OpR X (compareOp .NotIn) (rInG true):=by
 intro pins s σ H x y v u Q I rx ry h;obtain ⟨a,kvs,k,rfl,rd,g,q⟩:=h;cases ry;show wpAny (model X.prog X.w) X.A (do return Value.bool (!(← contains (.ref a) v))) _ _ s;exact wpAny_bind (xAed hu I rd g rx fun s' I'=>wpAny_pure ⟨.bl _,H,I',rfl,q⟩)
theorem xAbj (hu:X.A.units+2<cLine) (ho:PE X o td) (hi:PE X i ty) (hv:PE X value tv) (hs:swapsWith value (some (.Subscript o i pos')) pos.line X.env=pure false) :
  PS X (.Assign [.Subscript o i pos'] value pos) (sDPutG td ty tv):=by
 intro pins s σ H D I h;refine wpAny_Assign_Subscript (thn (hv pins s σ H _ I h) fun r s1 ⟨v,H1,I1,rv,q1⟩=>thn (ho pins s1 σ H1 _ I1 q1) fun u s2 ⟨x,H2,I2,rx,q2⟩=>thn (hi pins s2 σ H2 _ I2 q2) fun iv s3 ⟨y,H3,I3,ry,a,kvs,k,ex,e,g,hl,q3⟩=>?_) hs;subst ex;obtain rfl:u=Value.ref a:=rx;exact xAlj hu I3 e g hl ry rv fun s4 I4=>⟨σ,_,I4,q3⟩
def tDctG:TE:=fun _ H Q=>∀ p H',H p=none->Same H H'->H' p=some (.dG [])->Q (.ref p) H'
theorem xAlk {P:Program} {w:World} {H:Hp} (h:Heap) (hb:sysModules<h.objs.size):ObjOk P w H (h.push { cls:=.type "dict",data:=.dict #[] }) h.objs.size (.dG []) :=
 ⟨q5 _,beq_eq_false_iff_ne.mpr (Ne.symm (qi hb)),[],.nil,_,#[],0,Heap.get?_push_size _ rfl,⟨rfl,rfl,rfl⟩,rfl,rfl,zy⟩
theorem xAcs:PE X (.Dict [] [] pos) tDctG:=fun pins s σ H Q I h =>
 wpAny_Dict_empty ⟨.ref s.heap.objs.size,_,I.laid (a:=s.heap.objs.size) (o:=.dG []) (t':=s.toks) (fun _ _ q=>Heap.get?_push_of_some _ q) (qc _) (xAlk s.heap I.big),rfl,h _ _ (I.hok.fresh (qc _)) (Same.new (I.hok.fresh (qc _))) xAad⟩
end
theorem xAgs:typeLookup (.type "list") "keys"=pure none:=by rw [typeLookup_type,builtinLookup_eq_fast];kernel_rfl
section
variable {prog:Program} {w:World} {A:Around} {E:Value->Shared->Prop}
theorem xAsx {s:Shared} {a:Addr} {xs:Array Value} {k:Nat} {sl:Array (Option Value)} {Q:Option Value->Shared->Prop} (hx:s.heap.get? a=some { cls:=.type "list",dict:=none,data:=.seq xs k,slots:=sl }) (hA:A.handled=none)
  (h:∀ h' tk,Ext s.heap h'->Q none { s with heap:=h',toks:=tk }):wpAny (model prog w) A (getAttr? (.ref a) "keys") Q E s:=by
 obtain ⟨hp,g,d,tk,os⟩:=s;have hT:∀ tk',(⟨hp,g,d,tk',os⟩:Shared).TypeIs (.ref a) "list":=fun _=>⟨_,hx,rfl⟩;have f1:=sub_AttributeError;have f3:=F.slot_list_getattribute.lookup;have f4:=F.slot_list_getattribute.bind (.ref a);have f5:=am_list_getattr_none
 have z:(Str.ofString "keys").length+100≤sizeLine:=by
  have:=xAba (n:=1000) (qc _);have e:(Str.ofString "keys").length=4:=rfl;omega
 unfold getAttr? getAttrBy? getAttrBy
 repeat (any_goals (first | assumption | exact hT _ | ((with_reducible show wpAny _ _ (call (Value.builtin "list.__getattribute__") _ _) _ _ _);refine call_meets F.slot_list_getattribute (hT _) am_entry_list_getattribute (F.args_list_getattribute_2 _ _) (meets_getattribute_miss_list a xs k sl "keys" _ xAgs (by decide +kernel) z) ⟨hx,hA,fun h' tk' e hx'=>?_⟩) | wp_step))
 obtain ⟨t',u',he⟩:=hx'.there;show wpAny (model prog w) A (getattributeRaised _ _ _ _ _ _ _) _ _ _;unfold getattributeRaised
 repeat (any_goals (first | assumption | wp_step))
 exact h _ _ hx'.keeps
end
theorem xAig:entryFor table "dict.update.loop"=some Builtin.«dict.update.loop»:=entryFor_of_tree (by kernel_rfl)
theorem xAdg:plainId "dict.update.loop"=true:=by decide +kernel
def Tst (h h':Heap):Prop:=∀ b o,h.get? b=some o->o.cls=.type "tuple"->h'.get? b=some o
section
variable {P:Program} {w:World} {A:Around}
theorem xAjm {M:Model} {E:Value->Shared->Prop} {s:Shared} {b:Addr} {o:Obj} {xs:Array Value} {n:Nat} {Q:Option (Array Value)->Shared->Prop} (ho:s.heap.get? b=some o) (hd:o.data=.seq xs n) (q:Q (some xs) s):wpAny M A (seqItems? (.ref b)) Q E s:=by
 unfold seqItems?;refine wpAny_bind (wpAny_load ho ?_);rw [hd];exact wpAny_pure q
def putAll {α β:Type} (xs:List (KD×α×β)):List (KD×α×β)->List (KD×α×β)
 | []=>xs
 | e::r=>putAll (pG xs e.1 e.2.1 e.2.2) r
theorem xAll {α β:Type} (ps:List (KD×α×β)):∀ xs,(putAll xs ps).length≤xs.length+ps.length:=by
 induction ps with
 | nil=>intro xs;exact qc _
 | cons e r ih =>
  intro xs;have h1:=ih (pG xs e.1 e.2.1 e.2.2);have h2:=xAev xs e.1 e.2.1 e.2.2;show (putAll (pG xs e.1 e.2.1 e.2.2) r).length≤_;rw [qx];omega
def PairAt (P:Program) (w:World) (h:Heap) (v:Value) (e:KD×Value×Value):Prop:=∃ b,v=.ref b/\h.IsTuple b #[e.2.1,e.2.2]/\GIs P w h e.1 e.2.1
theorem PairAt.stay {h h':Heap} {v:Value} {e:KD×Value×Value} (p:PairAt P w h v e) (t:Tst h h'):PairAt P w h' v e:=by
 obtain ⟨b,rfl,⟨o,h1,h2,h3⟩,g⟩:=p;exact ⟨b,rfl,⟨o,t _ _ h1 h2,h2,h3⟩,g.ext t⟩
theorem GDict.keep {h h':Heap} {d:Addr} {xs:List (KD×Value×Value)} (g:GDict P w h d xs) (k:∀ o,h.get? d=some o->h'.get? d=some o) (t:Tst h h'):GDict P w h' d xs:=by
 obtain ⟨o,es,ep,h1,h2,h3,h4,h5,h6⟩:=g;exact ⟨o,es,ep,k o h1,h2,h3,h4,fun x hx=>(h5 x hx).ext t,h6⟩
theorem xAlm {h h':Heap} {I l:Addr} {i:Nat} (hit:h.IsListIter I l i) (k:∀ b o,b≠I->h.get? b=some o->h'.get? b=some o):Tst h h':=fun b o e c=>k b o (fun z=>by
 obtain ⟨o',e',c',_⟩:=hit;rw [z,e'] at e;cases e;rw [c'] at c
 exact absurd c (by decide)) e
theorem xAqp {D I l:Addr} {items:Array Value} {R:Result->Shared->Prop} (hh:A.handled=none) (hu:A.units+2<cLine) (hIl:l≠I) (hDI:D≠I) (hDl:D≠l) :
  ∀ (ps:List (KD×Value×Value)) (i:Nat) (xs:List (KD×Value×Value)) (s:Shared) (j:Int) (u:Tok),i+ps.length=items.size->s.heap.IsListIter I l i->s.heap.IsList l items->GDict P w s.heap D xs->xs.length+ps.length≤sizeLine →
   (∀ (m:Nat) e,ps[m]?=some e->∃ v,items[i+m]?=some v/\PairAt P w s.heap v e) →
   (∀ s':Shared,(∀ b o,b≠I->b≠D->s.heap.get? b=some o->s'.heap.get? b=some o)->GDict P w s'.heap D (putAll xs ps)->(∃ tk,s'={ s with heap:=s'.heap,toks:=tk })->R (.ok (.ret .none)) s') →
   codeAny (model P w) A (.builtin "dict.update.loop" ⟨[.ref D,.ref I,.int j u,.none],[]⟩) R s:=by
 have W:=Walks.list (prog:=P) (w:=w) (A:=A.in1) (by simpa using hh) I l hIl items;intro ps
 induction ps with
 | nil =>
  intro i xs s j u hi hit hl hd hz hp hR
  have hi':i=items.size:=by simpa using hi
  subst hi';refine codeAny_builtin xAig ?_;rw [Around.under_plainId xAdg _];show wpAny (model P w) A.in1 (pyNext (.ref I) >>= _) _ _ s;refine wpAny_bind (W.done s _ _ ⟨hit,hl⟩ fun h' tk hk=>?_)
  have kI:∀ b o,b≠I->s.heap.get? b=some o->h'.get? b=some o:=fun b o hb e=>hk b o (by simpa using hb) e
  exact wpAny_bind (wpAny_pure (wpAny_pure (hR ⟨h',s.gens,s.drawn,tk,s.os⟩ (fun b o h1 _ e=>kI b o h1 e) (hd.keep (fun o e=>kI D o hDI e) (xAlm hit kI)) ⟨tk,rfl⟩)))
 | cons e ps ih =>
  intro i xs s j u hi hit hl hd hz hp hR;refine codeAny_builtin xAig ?_;rw [Around.under_plainId xAdg _];show wpAny (model P w) A.in1 (pyNext (.ref I) >>= _) _ _ s;refine wpAny_bind (W.item i s _ _ (by rw [qx] at hi;omega) ⟨hit,hl⟩ fun v h' tk hv st hk=>?_)
  have kI:∀ b o,b≠I->s.heap.get? b=some o->h'.get? b=some o:=fun b o hb e=>hk b o (by simpa using hb) e
  have ts:=xAlm hit kI;obtain ⟨v',hv',pv⟩:=hp 0 e rfl
  have ev:v'=v:=by
   rw [Nat.add_zero] at hv';rw [hv] at hv';exact (Option.some.inj hv').symm
  subst ev;have hd':=hd.keep (h':=h') (fun o e=>kI D o hDI e) ts;have pv':=pv.stay ts;obtain ⟨b,rfl,hb,ge⟩:=id pv'
  have hT:Shared.TypeIs ⟨h',s.gens,s.drawn,tk,s.os⟩ (.ref b) "tuple":=by
   obtain ⟨o,h1,h2,_⟩:=hb;exact ⟨o,h1,h2⟩
  obtain ⟨ob,hb1,hb2,nb,hb3⟩:=id hb
  have pr:∀ {Q:List Value->Shared->Prop} {E:Value->Shared->Prop},Q [e.2.1,e.2.2] ⟨h',s.gens,s.drawn,tk,s.os⟩->wpAny (model P w) A.in1 (Builtin.Dict.pairItems (.ref b)) Q E ⟨h',s.gens,s.drawn,tk,s.os⟩:=fun {Q E} q=>by
   unfold Builtin.Dict.pairItems;refine wpAny_bind (wpAny_typeOf hT ?_);rw [if_pos (by decide)];exact wpAny_bind (xAjm hb1 hb3 (wpAny_pure q))
  refine wpAny_bind (wpAny_holding (wpAny_bind (wpAny_tryCatch (pr ?_))));refine wpAny_holding (xAlh (show A.in1.units+1<cLine from (by show A.units+1+1<cLine;omega)) ge hd' (by rw [qx] at hz;omega) fun h2 hd2 hs2=>?_)
  have tD:Tst h' h2:=fun b o e1 c=>(hs2.2 b (fun z=>by
   obtain ⟨o',_,_,e2,e3,_⟩:=hd';rw [z,e2] at e1;cases e1;rw [e3.1] at c
   exact absurd c (by decide))).trans e1
  refine wpAny_pure ⟨plainId_quiet xAdg _,ih (i+1) _ _ _ _ (by rw [qx] at hi;omega) ?_ ?_ hd2 ?_ (fun m e2 he2=>?_) fun s' hk' hd3 hs3=>?_⟩
  ·obtain ⟨o,h1,h2',h3⟩:=st.1
   exact ⟨o,(hs2.2 I (fun z=>hDI z.symm)).trans h1,h2',h3⟩
  ·obtain ⟨o,h1,h2',n,h3⟩:=st.2
   exact ⟨o,(hs2.2 l (fun z=>hDl z.symm)).trans h1,h2',n,h3⟩
  ·have:=xAev xs e.1 e.2.1 e.2.2
   rw [qx] at hz;omega
  ·obtain ⟨v2,hv2,pv2⟩:=hp (m+1) e2 (by simpa using he2)
   exact ⟨v2,by rw [← hv2];congr 1;omega,(pv2.stay ts).stay tD⟩
  ·refine hR s' (fun b o h1 h2' e3=>hk' b o h1 h2' ((hs2.2 b h2').trans (kI b o h1 e3))) hd3 ?_
   obtain ⟨tk',e3⟩:=hs3;exact ⟨tk',by rw [e3]⟩
theorem xAln {s:Shared} {l:Addr} {items:Array Value} {n:Nat} {sl:Array (Option Value)} {E:Value->Shared->Prop} {Q:Value->Shared->Prop} {ps:List (KD×Value×Value)} (hh:A.handled=none) (hu:A.units+4<cLine) (hl:s.heap.get? l=some { cls:=.type "list",dict:=none,data:=.seq items n,slots:=sl })
  (hn:ps.length=items.size) (hz:ps.length≤sizeLine) (hp:∀ (m:Nat) e,ps[m]?=some e->∃ v,items[m]?=some v/\PairAt P w s.heap v e)
  (h:∀ h' tk d,Ext s.heap h'->s.heap.objs.size≤d->GDict P w h' d (putAll [] ps)->Q (.ref d) { s with heap:=h',toks:=tk }):wpAny (model P w) A (call (.type "dict") [.ref l]) Q E s:=by
 refine callType_codes (Q₁:=fun obj s₁=>obj=.ref s.heap.objs.size/\s₁={ s with heap:=s.heap.push { cls:=.type "dict",data:=.dict #[] } }) F.kt_called_dict (F.kt_typeCall_dict_1 _) F.entry_dict_init (kt_code_dict_new _ ⟨rfl,rfl⟩) ?_;rintro obj s₁ ⟨rfl,rfl⟩;have new:GDict P w (s.heap.push { cls:=.type "dict",data:=.dict #[] }) s.heap.objs.size []:=⟨_,#[],0,Heap.get?_push_size _ rfl,⟨rfl,rfl,rfl⟩,rfl,rfl,fun x hx=>(nomatch hx),zy⟩;have hl1:(s.heap.push { cls:=.type "dict",data:=.dict #[] }).get? l=some { cls:=.type "list",dict:=none,data:=.seq items n,slots:=sl }:=Heap.get?_push_of_some _ hl;have hT:Shared.TypeIs { s with heap:=s.heap.push { cls:=.type "dict",data:=.dict #[] } } (.ref s.heap.objs.size) "dict":=GDict.typeIs (P:=P) (w:=w) (s:={ s with heap:=s.heap.push { cls:=.type "dict",data:=.dict #[] } }) new;refine ⟨hT,F.args_dict_init_2 _ _,?_⟩;unfold Builtin.«dict.__init__»;refine wpAny_bind ?_;unfold Builtin.Dict.selfAndRest;refine wpAny_bind (wpAny_notOrdered_dict hT (wpAny_pure ?_));show wpAny (model P w) _ (Builtin.Dict.updateFrom "dict.__init__" s.heap.objs.size (.ref l) [] .none) _ _ _;unfold Builtin.Dict.updateFrom;refine wpAny_bind (wpAny_typeOf (show Shared.TypeIs { s with heap:=s.heap.push { cls:=.type "dict",data:=.dict #[] } } (.ref l) "list" from ⟨_,hl1,rfl⟩) ?_);rw [if_pos (by decide)];refine wpAny_bind (xAsx hl1 (by simpa using hh) fun h1 t1 x1=>?_);rw [if_pos (by rfl)];have hl2:h1.IsList l items:=⟨_,x1 _ _ hl1,rfl,n,rfl⟩;refine wpAny_bind (wpAny_rule (wpAny_bind (wpAny_pyIter_list hl2 ?_)))
 have lD:s.heap.objs.size<h1.objs.size:=by
  obtain ⟨o,_,_,e,_⟩:=new;exact Heap.lt_size (x1 _ _ e)
 have lI:l<h1.objs.size:=Heap.lt_size (x1 _ _ hl1);have lS:l<s.heap.objs.size:=Heap.lt_size hl
 have nS:∀ b o,s.heap.get? b=some o->b≠h1.objs.size/\b≠s.heap.objs.size:=fun b o e=>by
  have:=Heap.lt_size e;exact ⟨qi (vq this lD),qi this⟩
 have t1':Tst (s.heap.push { cls:=.type "dict",data:=.dict #[] }) (h1.push { cls:=.type "list_iterator",data:=.fields #[.ref l,.int 0 0] }):=fun b o e _=>Heap.get?_push_of_some _ (x1 _ _ e);refine wpAny_pure ⟨plainId_quiet xAdg _,xAqp (A:=A.in1) (l:=l) (items:=items) (by simpa using hh) (show A.units+1+2<cLine by omega) (Nat.ne_of_lt lI) (Nat.ne_of_lt lD) (Nat.ne_of_gt lS) ps 0 [] _ _ _ (by rw [Nat.zero_add];exact hn) ⟨_,Heap.get?_push_size _ rfl,rfl,rfl⟩ (hl2.push _) (new.keep (fun o e=>Heap.get?_push_of_some _ (x1 _ _ e)) t1') (by simpa using hz) (fun m e he=>?_) fun s' hk hd hs=>?_⟩
 ·obtain ⟨v,hv,pv⟩:=hp m e he
  exact ⟨v,by rw [yc];exact hv,(pv.stay (fun b o e _=>Heap.get?_push_of_some _ e)).stay t1'⟩
 ·obtain ⟨tk,es⟩:=hs
  rw [es] at hd ⊢;exact ⟨rfl,h _ tk _ (fun b o e=>hk b o (nS b o e).1 (nS b o e).2 (Heap.get?_push_of_some _ (x1 _ _ (Heap.get?_push_of_some _ e)))) (qc _) hd⟩
end
def PrsV (H:Hp):List V->List (KD×V×V)->Prop
 | [],[]=>True
 | y::ys,e::es=>(∃ b,y=.ref b/\H b=some (.tup [e.2.1,e.2.2])/\GK H e.1 e.2.1)/\PrsV H ys es
 | _,_=>False
section
variable {X:Cx} {pins:List (Addr×Obj)} {σ:St} {H:Hp} {s:Shared}
theorem xAsy (I:Inv X pins σ H s):∀ {ys:List V} {us:List Value} {kvs:List (KD×V×V)},Vals ys us->PrsV H ys kvs->∃ ps,Paired (GP H) kvs ps/\ps.length=us.length/\∀ (m:Nat) e,ps[m]?=some e->∃ v,us[m]?=some v/\PairAt X.prog X.w s.heap v e
 | [],_,[],.nil,_=>⟨[],.nil,rfl,fun m e z=>by cases z⟩
 | [],_,_::_,.nil,h=>h.elim
 | _::_,_,[],.cons _ _,h=>h.elim
 | y::ys,_,e::es,.cons r t,h=>by
  obtain ⟨⟨b,rfl,hb,g⟩,h2⟩:=h;obtain ⟨ps,p1,p2,p3⟩:=xAsy I t h2;cases r;obtain ⟨its,rv,⟨o,e1,e2,n,e3⟩,_⟩:=I.tuple (SqT.of hb);obtain ⟨u1,u2,rfl,r1,r2⟩:=rv.two;refine ⟨(e.1,u1,u2)::ps,.cons ⟨rfl,g,r1,r2⟩ p1,by rw [qx,qx,p2],fun m e' he'=>?_⟩
  cases m with
  | zero =>
   cases he';exact ⟨_,rfl,b,rfl,⟨o,e1,e2,n,e3⟩,g.is I r1⟩
  | succ m =>
   obtain ⟨v,h1,h2⟩:=p3 m e' (by simpa using he');exact ⟨v,by simpa using h1,h2⟩
theorem xAih:∀ {l:List (KD×V×V)} {m:List (KD×Value×Value)},Paired (GP H) l m->∀ {a:List (KD×V×V)} {b:List (KD×Value×Value)},Paired (GP H) a b->Paired (GP H) (putAll a l) (putAll b m)
 | _,_,.nil,_,_,t=>t
 | _,_,.cons (a:=p) (b:=q) f t,a,b,t2=>by
  show Paired (GP H) (putAll (pG a p.1 p.2.1 p.2.2) _) (putAll (pG b q.1 q.2.1 q.2.2) _);rw [← f.1];exact xAih t (xAnv t2 f.2.1 f.2.2.1 f.2.2.2)
def rDictG (K:PySem.W.Frag):List V->Hp->VK->Prop:=fun xs H Q=>∃ p ys kvs,xs=[.ref p]/\SqL K H p ys/\PrsV H ys kvs/\ys.length≤2000/\∀ q H',H q=none->Same H H'->H' q=some (.dG (putAll [] kvs))->Q (.ref q) H'
theorem xAcg (hh:X.A.handled=none) (hu:X.A.units+4<cLine):CallR X (.type "dict") (rDictG X.K):=by
 intro pins s σ H xs us Q I r h;obtain ⟨p,ys,kvs,rfl,hq,hp,hz,q⟩:=h;obtain ⟨u,rfl,ru⟩:=vals1 r;cases ru;obtain ⟨its,rv,⟨o,n,e,c1,c2,c3⟩,_⟩:=I.list hq;obtain ⟨cls,dict,data,sl⟩:=o;dsimp only at c1 c2 c3;subst c1 c2 c3;obtain ⟨ps,p1,p2,p3⟩:=xAsy I rv hp;have hl:=rv.length
 have zz:2000≤sizeLine:=by decide
 refine xAln hh hu e (by rw [zf];exact p2) (by omega) (fun m e' he'=>?_) fun h' tk d x hd g=>?_
 ·obtain ⟨v,h1,h2⟩:=p3 m e' he'
  exact ⟨v,by simpa using h1,h2⟩
 ·obtain ⟨o',es,ep,g1,g2,g3,g4,_,g6⟩:=g
  have fr:H d=none:=I.hok.fresh hd;have ln:=xAll kvs [];have lk:=xAnw p1;refine ⟨.ref d,upd H d (.dG (putAll [] kvs)),I.laid x hd ⟨?_,?_,_,Paired.mapP (xAih p1 .nil) fun a b z=>⟨z.1,z.2.1.stay fun b xs hb=>?_,z.2.2⟩,o',es,ep,g1,g2,g3,g4,g6⟩,rfl,q d _ fr (Same.new fr) xAad⟩
  ·rw [wf] at ln
   omega
  ·exact beq_eq_false_iff_ne.mpr (Ne.symm (qi (qq I.big hd)))
  ·rw [xAae (xAab hb fr)]
   exact hb
end
section
variable {P:Program} {w:World} {A:Around} {E:Value->Shared->Prop} {s:Shared}
theorem xAsz {d:Addr} {v dflt:Value} (hd:(d==sysModules)=false):MeetsIn P w (Builtin.«dict.get» ⟨[.ref d,v,dflt],[]⟩) (fun A R s=>A.in1.units+1<cLine/\∃ k xs,GIs P w s.heap k v/\GDict P w s.heap d xs/\R (.ok (.ret ((vG xs k).getD dflt))) { s with toks:=s.toks+gDraws P w k }) :=
 .of_wp fun A R s ⟨hu,k,xs,a,g,h⟩=>by
  show wpAny (model P w) _ (dictGet d v >>= _) _ _ s;refine wpAny_bind (xAlg hu a g ?_)
  cases e:vG xs k with
  | some u=>rw [e] at h;exact wpAny_pure ⟨u,rfl,h⟩
  | none =>
   rw [e] at h;show wpAny (model P w) _ (Builtin.Dict.missed d v >>= _) _ _ _;exact wpAny_bind (wpAny_missed_other hd (wpAny_pure ⟨dflt,rfl,h⟩))
theorem xAlo {d:Addr} {xs:List (KD×Value×Value)} {k:KD} {v val:Value} {Q:Value->Shared->Prop} (hu:A.units+1<cLine) (a:GIs P w s.heap k v) (g:GDict P w s.heap d xs) (hsz:xs.length≤sizeLine)
  (h1:∀ u,vG xs k=some u->Q u { s with toks:=s.toks+gDraws P w k })
  (h2:vG xs k=none->∀ h',GDict P w h' d (pG xs k v val)->Heap.SameBut d s.heap h'->Q val { s with heap:=h',toks:=s.toks+gDraws P w k }):wpAny (model P w) A (dictSetDefault d v val) Q E s:=by
 obtain ⟨o,es,ep,ho,hc,hd,he,his,hn⟩:=g
 have sz:es.size=xs.length:=by rw [← q9,he,qf]
 unfold dictSetDefault
 try with_reducible refine wpAny_holding ?_
 refine wpAny_bind (a.hash hu (wpAny_bind (xAnt (s:={ s with toks:=s.toks+gDraws P w k }) hu a ho hd he his hn ?_)))
 cases e:gIdx xs k with
 | none =>
  have hv:=xAec (xAlf e);refine wpAny_bind (wpAny_rule (wpAny_bind (wpAny_updateDictKeys (hz:=by omega) (s:={ s with toks:=s.toks+gDraws P w k }) ho hd (wpAny_pure (h2 hv _ ⟨_,_,ep+1,Heap.get?_update_self _ ho (Obj.isFreed_of_dict (Obj.data_mapDictKeys hd _)),hc.mapDictKeys _,Obj.data_mapDictKeys hd _,?_,fun x hx=>?_,pG_nodup hn⟩ (Heap.SameBut.update ..))))))
  ·unfold pG
   rw [hv,if_neg (by decide)]
   simp [he,gEnt]
  ·unfold pG at hx
   rw [hv,if_neg (by decide)] at hx;rcases qw.mp hx with hx | hx
   ·exact xAds (es:=es) (ep:=ep) ho hc (Heap.SameBut.update ..) (his x hx)
   ·rw [qj.mp hx]
    exact xAds (es:=es) (ep:=ep) ho hc (Heap.SameBut.update ..) a
 | some j =>
  obtain ⟨x,hx,ex⟩:=xAgr e;have hv:=xAdr hn hx ex;refine wpAny_bind (wpAny_dictEntries (s:={ s with toks:=s.toks+gDraws P w k }) ho hd ?_);rw [← z3,he,qu,hx];exact wpAny_bind (wpAny_rule (wpAny_pure (h1 _ hv)))
theorem xAnx {d:Addr} {v dflt:Value} (hd:(d==sysModules)=false):MeetsIn P w (Builtin.«dict.setdefault» ⟨[.ref d,v,dflt],[]⟩) (fun A R s=>A.in1.units+1<cLine/\∃ k xs,GIs P w s.heap k v/\GDict P w s.heap d xs/\xs.length≤sizeLine ∧
      (∀ u,vG xs k=some u->R (.ok (.ret u)) { s with toks:=s.toks+gDraws P w k })/\(vG xs k=none->∀ h',GDict P w h' d (pG xs k v dflt)->Heap.SameBut d s.heap h'->R (.ok (.ret dflt)) { s with heap:=h',toks:=s.toks+gDraws P w k })) :=
 .of_wp fun A R s ⟨hu,k,xs,a,g,hz,h1,h2⟩=>by
  unfold Builtin.«dict.setdefault»;refine wpAny_bind ?_;unfold Builtin.Dict.keyAndDefault;refine wpAny_bind (wpAny_notOrdered_dict g.typeIs (wpAny_pure ?_));show wpAny (model P w) _ (if (d==sysModules)=true then _ else (dictSetDefault d v dflt >>= _)) _ _ s;rw [if_neg (by rw [hd];decide)];exact wpAny_bind (xAlo hu a g hz (fun u hv=>wpAny_pure ⟨u,rfl,h1 u hv⟩) fun hv h' g' hs'=>wpAny_pure ⟨dflt,rfl,h2 hv h' g' hs'⟩)
end
theorem xAqq {a:Option V} {b:Option Value} {x:V} {u:Value} (h:RelO a b) (r:RelV x u):RelV (a.getD x) (b.getD u):=by
 cases a <;> cases b <;> first | exact h | exact r | exact h.elim
section
variable {X:Cx}
def rGet2:V->List V->Hp->VK->Prop:=fun x vs H Q=>∃ a kvs k y d,x=.ref a/\vs=[y,d]/\H a=some (.dG kvs)/\GK H k y/\Q ((vG kvs k).getD d) H
def rSetDef:V->List V->Hp->VK->Prop:=fun x vs H Q=>∃ a kvs k y d,x=.ref a/\vs=[y,d]/\H a=some (.dG kvs)/\GK H k y/\kvs.length<sizeLine/\(∀ u,vG kvs k=some u->Q u H)/\(vG kvs k=none->Q d (upd H a (.dG (pG kvs k y d))))
theorem xAlp (hu:X.A.units+2<cLine):MtM X "dict.get" rGet2:=by
 intro pins s σ H x xs v us Q I rx rv h;obtain ⟨a,kvs,k,y,d,rfl,rfl,ha,g,q⟩:=h;obtain ⟨u,u2,rfl,ru,ru2⟩:=rv.two;cases rx;obtain ⟨z,hd,ys,rel,dd⟩:=gd_rd I (.inl ha);exact call_meetsIn F.slot_dict_get dd.typeIs F.entry_dict_get (F.args_dict_get_3 _ _ _) (xAsz hd) ⟨hu,k,ys,g.is I ru,dd,⟨_,H,I.tok _,xAqq (xAjl rel) ru2,q⟩⟩
theorem xAlq (hu:X.A.units+2<cLine):MtM X "dict.setdefault" rSetDef:=by
 intro pins s σ H x xs v us Q I rx rv h;obtain ⟨a,kvs,k,y,d,rfl,rfl,ha,g,hl,q1,q2⟩:=h;obtain ⟨u,u2,rfl,ru,ru2⟩:=rv.two;cases rx;obtain ⟨z,hd,ys,rel,dd⟩:=gd_rd I (.inl ha);have eo:=xAjl (k:=k) rel;refine call_meetsIn F.slot_dict_setdefault dd.typeIs F.entry_dict_setdefault (F.args_dict_setdefault_3 _ _ _) (xAnx hd) ⟨hu,k,ys,g.is I ru,dd,by rw [← xAnw rel];exact z,fun w' hw=>?_,fun hw h' dd' hs'=>?_⟩
 ·rw [hw] at eo
  cases e:vG kvs k with
  | none=>rw [e] at eo;exact eo.elim
  | some v=>rw [e] at eo;exact ⟨v,H,I.tok _,eo,q1 v e⟩
 ·rw [hw] at eo
  cases e:vG kvs k with
  | some v=>rw [e] at eo;exact eo.elim
  | none =>
   obtain ⟨q,es,ep,hq,h2,h3,h4,_,h5⟩:=dd';have hlen:=xAev kvs k y d;refine ⟨d,upd H a (.dG (pG kvs k y d)),xAfr I (by rw [ha];exact True.intro) hs' ⟨q,hq⟩ ⟨by omega,hd,_,Paired.mapP (xAnv rel g ru ru2) fun p q z=>⟨z.1,z.2.1.stay fun b xs hb=>?_,z.2.2⟩,q,es,ep,hq,h2,h3,h4,h5⟩,ru2,q2 e⟩;rw [xAae (ne_of hb ha (fun z=>nomatch z))];exact hb
end
theorem hu4 {A:Around} {k:Nat} (hr:Room k A):A.units+4<cLine:=by have:=hr.units;omega
theorem hu2 {A:Around} {k:Nat} (hr:Room k A):A.units+2<cLine:=by have:=hr.units;omega
section
variable {X:Cx}
end
theorem xAee {α:Type} (xs:List α) (x:α):atI (xs++[x]) (-1)=some x:=by
 unfold atI
 have e:ixN (xs++[x]).length (-1)=some xs.length:=by
  unfold ixN;rw [qg,ql,if_neg (by omega),if_pos (by omega)]
  congr 1
  omega
 rw [e]
 simp
theorem xAcx:∀ {ds:List PyData} {k:Nat},(∀ d∈ds,d.depth≤k)->PyData.depthAll ds≤k
 | [],_,_=>q5 _
 | d::ds,k,h=>by
  have a:=h d qh;have b:=xAcx (ds:=ds) fun x hx=>h x (qr _ hx);show max d.depth (PyData.depthAll ds)≤k;omega
section
variable {P:Program} {w:World} {fs:List Addr} {H H1:Hp} {h h1 h2:Heap}
theorem Un.later (u:Un fs [] H H1 h h1) (k:∀ b o,b<h.objs.size->h1.get? b=some o->h2.get? b=some o):Un fs [] H H1 h h2 where
 keep:=fun b o q n hb hx=>k b o (Heap.lt_size q) (u.keep b o q n hb hx)
 slot:=fun b o q n hb hx=>let ⟨sl,e⟩:=u.slot b o q n hb hx;⟨sl,k b _ (Heap.lt_size q) e⟩
 free:=u.free
 there:=fun b o q hx=>let ⟨o',e⟩:=u.there b o q hx;⟨o',k b o' (Heap.lt_size q) e⟩
 tups:=u.tups
 frzs:=u.frzs
 tbls:=u.tbls
 tupo:=fun b o xs q n=>k b o (Heap.lt_size q) (u.tupo b o xs q n)
theorem HOk.other {a:Addr} (x:HOk P w H h) (k:∀ b u,b≠a->h.get? b=some u->h2.get? b=some u) (hn:H a=none):HOk P w H h2:=fun b o e=>by
 have ne:∀ {c u},H c=some u->c≠a:=fun q z=>by rw [z,hn] at q;cases q
 refine (x b o e).stay (fun c u hc q=>k c u ?_ q) (fun _ q=>q) fun _ _ q=>q;rcases hc with rfl | hc
 ·exact ne e
 ·exact ne hc
theorem HOk.adopt {a:Addr} {o:HO} (x:HOk P w H h) (hn:H a=none) (new:ObjOk P w (upd H a o) h a o):HOk P w (upd H a o) h:=fun b u e=>by
 by_cases hb:b=a
 ·subst hb;rw [xAad] at e;cases e;exact new
 ·rw [xAae hb] at e
  refine (x b u e).stay (fun _ _ _ q=>q) (fun c q=>?_) fun c xs q=>?_
  ·rw [xAae (fun z=>by rw [z,hn] at q;cases q)];exact q
  ·rw [xAae (fun z=>by rw [z,hn] at q;cases q)];exact q
theorem Un.adopt {a:Addr} {o:HO} (u:Un fs [] H H1 h h1) (ha:h.objs.size≤a) (hn:H1 a=none):Un fs [] H (upd H1 a o) h h1 where
 keep:=u.keep
 slot:=u.slot
 free:=fun b ob q n hx=>by
  rw [xAae (qi (qq (Heap.lt_size q) ha))];exact u.free b ob q n hx
 there:=u.there
 tups:=fun b xs q=>by
  have:=u.tups b xs q;rw [xAae (fun z=>by rw [z,hn] at this;cases this)];exact this
 frzs:=fun b ob v q=>by
  have:=u.frzs b ob v q;rw [xAae (fun z=>by rw [z,hn] at this;cases this)];exact this
 tbls:=fun b ps q=>by
  obtain ⟨m,this⟩:=u.tbls b ps q;exact ⟨m,by rw [xAae (fun z=>by rw [z,hn] at this;cases this)];exact this⟩
 tupo:=u.tupo
end
def SrtOk (n:Nat) (ds:List PyData):Prop:=n≤2000/\(n<64\/ds.Pairwise fun a b=>ltD a b=true)
theorem SrtOk.few {n:Nat} {ds:List PyData} (h:SrtOk n ds) (hl:ds.length=n) (W:Srt.Swo (ltK ds)):Few (ltK ds) n:=by
 rcases h.2 with h | h
 ·exact .inl h
 ·refine .inr fun i j hij hj=>?_
  by_cases e:i=j
  ·subst e;exact W.irr _
  ·refine W.le_of_lt ?_
   have:=wj.mp h i j (by omega) (by omega) (by omega);unfold ltK keyAt;rw [zb,zb,qe (by omega),qe (by omega)];exact this
def rSortK (K:PySem.W.Frag) (sp:Sp):List V->Hp->VK->Prop:=fun xs H Q=>∃ p ys ds t,xs=[.ref p]/\SqL K H p ys/\ds.length=ys.length/\KeysAre ds t/\SrtOk ys.length ds ∧
 (∀ (m:Nat) y d H' (Q':VK),ys[m]?=some y->ds[m]?=some d->Same H H'->(∀ H'' kv,Same H' H''->DV K H'' kv d->Q' kv H'')->sp [y] H' Q' E0) ∧
 ∀ q H' ix,H q=none->Same H H'->SortIx ds ix->H' q=some (.lst (ix.map fun i=>ys.getD i .non))->Q (.ref q) H'
section
variable {X:Cx} {pins:List (Addr×Obj)} {σ:St} {H:Hp} {s:Shared} {k:Nat} {fa:Addr} {fd:FuncData} {ps:List Str} {sp:Sp}
structure KSt (X:Cx) (H:Hp) (s:Shared) (a kS:Addr) (e1:Nat) (Hm:Hp) (s':Shared) (ks:List Value) (kvs:List V) (ds:List PyData):Prop where
 un:Un (frs X.stack) [] H Hm s.heap s'.heap
 hok:HOk X.prog X.w Hm s'.heap
 os:s'.os=s.os
 bare:AllBare s'.gens
 same:Same H Hm
 fa':Hm a=none
 fk:Hm kS=none
 ga:s'.heap.get? a=some (seqObj "list" #[] e1)
 gk:∃ e,s'.heap.get? kS=some (seqObj "list" ks.toArray e)
 vals:Vals kvs ks
 dv:DVs X.K Hm kvs ds
theorem xAlr {K:PySem.W.Frag} {H:Hp} {x:V} {d:PyData} (h:DV K H x d):∀ {xs:List V} {ds:List PyData},DVs K H xs ds->DVs K H (xs++[x]) (ds++[d])
 | _,_,.nil=>.cons h .nil
 | _,_,.cons a t=>.cons a (xAlr h t)
theorem xAls {A':Around} {a kS:Addr} {e1:Nat} {E:Value->Shared->Prop} {R:Shared->Prop} (hcall:∀ (s':Shared) (Hm:Hp) (x:Value) (y:V) (Q:VK),Env0 X.prog X.w X.K X.mg X.base A' X.stack s' Hm->Un (frs X.stack) [] H Hm s.heap s'.heap->Same H Hm->RelV y x->sp [y] Hm Q E0->codeAny (model X.prog X.w) A' (.call (.ref fa) ⟨[x],[]⟩) (CR CX0 X.stack X.prog X.w Hm s' Q E0) s') (hfr:A'.frames=X.A.frames) (I:Inv X pins σ H s) (ha:s.heap.objs.size≤a) (hk:s.heap.objs.size≤kS) (hak:a≠kS) (nfa:a∉frs X.stack) (nfk:kS∉frs X.stack)
  {body:Value->PUnit->Sem (ForInStep PUnit)} (hbody:∀ x (s':Shared) (R':ForInStep PUnit->Shared->Prop),wpAny (model X.prog X.w) A' (call (.ref fa) [x]) (fun kv s2=>wpAny (model X.prog X.w) A' (Builtin.List.listUpdate (.ref kS) (·.push kv)) (fun _ s3=>R' (.yield ⟨⟩) s3) E s2) (fun _ _=>False) s'->wpAny (model X.prog X.w) A' (body x ⟨⟩) R' E s') :
  ∀ (r:List Value) (ry:List V) (rd:List PyData) (ks:List Value) (kvs:List V) (dd:List PyData) (Hm:Hp) (s':Shared),Vals ry r->rd.length=ry.length →
   (∀ (m:Nat) y d H' (Q':VK),ry[m]?=some y->rd[m]?=some d->Same H H'->(∀ H'' kv,Same H' H''->DV X.K H'' kv d->Q' kv H'')->sp [y] H' Q' E0) →
   ks.length+r.length≤2000->KSt X H s a kS e1 Hm s' ks kvs dd →
   (∀ Hn s'' ks' kvs',KSt X H s a kS e1 Hn s'' ks' kvs' (dd++rd)->ks'.length=ks.length+r.length->R s'')->wpAny (model X.prog X.w) A' (forIn r PUnit.unit body) (fun _ s''=>R s'') E s'
 | [],ry,rd,ks,kvs,dd,Hm,s',rv,hl,hsp,hz,st,fin=>by
  cases rv;rw [wf] at hl;rw [jp.mp hl] at fin;rw [List.forIn_nil];refine wpAny_pure (fin Hm s' ks kvs ?_ rfl);rw [we];exact st
 | x::r,_,[],ks,kvs,dd,Hm,s',.cons _ _,hl,hsp,hz,st,fin=>absurd hl (by simp)
 | x::r,_,d::rd,ks,kvs,dd,Hm,s',.cons (a:=y) (l₁:=ry) r1 rv,hl,hsp,hz,st,fin=>by
  rw [yx];have I':Inv X pins σ Hm s':=I.call' st.os st.un st.hok st.bare (fun b z=>absurd z (by simp));have e0:=I'.env0;obtain ⟨ek,gk⟩:=st.gk;refine wpAny_bind (hbody x s' _ ?_);refine wpAny_call (codeAny_mono (hcall s' Hm x y (fun kv H2=>Same Hm H2/\DV X.K H2 kv d) ⟨hfr.trans e0.frames,e0.mod,e0.bs,e0.bsz,e0.funs,e0.frf,e0.hok,e0.bare⟩ st.un st.same r1 (hsp 0 y d Hm _ rfl rfl st.same fun H2 kv a1 a2=>⟨a1,a2⟩)) fun res s2 hq=>?_)
  cases res with
  | error e=>exact hq.elim
  | ok fl =>
   cases fl with
   | next=>exact hq.elim
   | brk=>exact hq.elim
   | cont=>exact hq.elim
   | ret u =>
    obtain ⟨v,H2,os2,bare2,un2,hok2,rel,same2,dv2⟩:=hq;have gk2:=un2.keep kS _ gk st.fk nfk (by simp);have ga2:=un2.keep a _ st.ga st.fa' nfa (by simp);have fk2:=un2.free kS _ gk st.fk (by simp);have fa2:=un2.free a _ st.ga st.fa' (by simp);have hz':ks.length+(r.length+1)≤2000:=hz;have z64:2000≤sizeLine:=zv (xAhz (by decide));refine listUpdate_at gk2 rfl ?_ (by rw [zf];omega) (by rw [Array.size_push,zf];omega)
    obtain ⟨c2,g2⟩:∃ c2,(s2.heap.update kS (Obj.mapSeq (·.push u))).get? kS=some (seqObj "list" ((ks++[u]).toArray) c2):=by
     have ea:ks.toArray.push u=(ks++[u]).toArray:=by simp
     exact ⟨_,by rw [← ea];exact get?_update_seq gk2 (·.push u)⟩
    have sb:=Heap.SameBut.update s2.heap kS (Obj.mapSeq (·.push u));refine xAls hcall hfr I ha hk hak nfa nfk hbody r ry rd (ks++[u]) (kvs++[v]) (dd++[d]) H2 _ rv (by simpa using hl) (fun m y' d' H' Q' h1 h2 h3 h4=>hsp (m+1) y' d' H' Q' (by simpa using h1) (by simpa using h2) h3 h4) (by rw [List.length_append,List.length_singleton];omega) ⟨?_,?_,os2.trans st.os,bare2,st.same.trans same2,fa2,fk2,(sb.2 a hak).trans ga2,⟨c2,g2⟩,?_,?_⟩ fun Hn s'' ks' kvs' st' hl'=>fin Hn s'' ks' kvs' ?_ ?_
    ·exact (st.un.trans un2).later fun b o hb' e=>(sb.2 b (qi (qq hb' hk))).trans e
    ·exact hok2.other (fun b u' hb' e=>(sb.2 b hb').trans e) fk2
    ·exact st.vals.append (.cons rel .nil)
    ·exact xAlr dv2 (st.dv.same same2)
    ·rw [yf] at st'
     exact st'
    ·rw [hl',qg,ql,qx]
     omega
theorem xAqr {A':Around} {a kS:Addr} {e1:Nat} {E:Value->Shared->Prop} {P:PySem.Fin->Shared->Prop} {Hn:Hp} {s':Shared} {ks:List Value} {kvs:List V} {ds:List PyData} {st:SortSt} {out:List Value} {ov:List V} (hk:s.heap.objs.size≤kS) (ha:s.heap.objs.size≤a) (hak:a≠kS) (S:KSt X H s a kS e1 Hn s' ks kvs ds) (hz:ks.length≤2000) (ho:out.length≤2000) (hout:(arrOf st).map (·.2)=out.toArray) (hf:failedOf st=none) (rov:Vals ov out)
  (fin:∀ s2 H2,Un (frs X.stack) [] H H2 s.heap s2.heap->HOk X.prog X.w H2 s2.heap->s2.os=s.os->AllBare s2.gens->Same H H2->H2 a=some (.lst ov)->P (.done (.ret .none)) s2):wpAny (model X.prog X.w) A' (ksk_tail a false e1 (.ref kS) st) P E s':=by
 obtain ⟨ek,gk⟩:=S.gk;have z64:2000≤sizeLine:=zv (xAhz (by decide));unfold ksk_tail
 try dsimp only
 rw [hout];have sb:=Heap.SameBut.update s'.heap kS (Obj.mapSeq fun _=>(#[]:Array Value));have ga1:=(sb.2 a hak).trans S.ga;refine wpAny_bind (listUpdate_at gk rfl (wpAny_bind (wpAny_letGo (wpAny_bind (seqEpoch_at ga1 rfl (wpAny_bind (listUpdate_at ga1 rfl ?_ (q5 _) (by show out.toArray.size≤_;rw [zf];omega))))))) (by rw [zf];omega) (q5 _));rw [hf]
 simp only [bne_self_eq_false,Bool.false_eq_true,if_false]
 have sb2:=Heap.SameBut.update (s'.heap.update kS (Obj.mapSeq fun _=>(#[]:Array Value))) a (Obj.mapSeq fun _=>out.toArray);obtain ⟨c2,g2⟩:∃ c2,((s'.heap.update kS (Obj.mapSeq fun _=>(#[]:Array Value))).update a (Obj.mapSeq fun _=>out.toArray)).get? a=some (seqObj "list" out.toArray c2):=⟨_,get?_update_seq ga1 fun _=>out.toArray⟩;refine wpAny_pure (fin _ (upd Hn a (.lst ov)) ?_ ?_ S.os S.bare (S.same.trans (Same.new S.fa')) xAad)
 ·refine (S.un.later fun b o hb e=>?_).adopt ha S.fa'
  have h1:b≠kS:=qi (qq hb hk);have h2:b≠a:=qi (qq hb ha);exact (sb2.2 b h2).trans ((sb.2 b h1).trans e)
 ·refine HOk.adopt ((S.hok.other (fun b u hb e=>(sb.2 b hb).trans e) S.fk).other (fun b u hb e=>(sb2.2 b hb).trans e) S.fa') S.fa' ⟨?_,out,c2,rov,g2⟩
  rw [rov.length];omega
theorem xAjn {Q:VK} {us:List Value} {xs:List V} (hcall:∀ (s':Shared) (Hm:Hp) (x:Value) (y:V) (Q:VK),Env0 X.prog X.w X.K X.mg X.base X.A.in1.in1 X.stack s' Hm->Un (frs X.stack) [] H Hm s.heap s'.heap->Same H Hm->RelV y x->sp [y] Hm Q E0->codeAny (model X.prog X.w) X.A.in1.in1 (.call (.ref fa) ⟨[x],[]⟩) (CR CX0 X.stack X.prog X.w Hm s' Q E0) s') (hu:X.A.units+3+61<cLine) (I:Inv X pins σ H s) (rx:Vals xs us) (hh:rSortK X.K sp xs H Q) :
  wpAny (model X.prog X.w) X.A (call (.builtin "sorted") us [(Str.ofString "key",.ref fa)]) (EP X pins σ Q) X.xe s:=by
 obtain ⟨p,ys,ds,t,rfl,hq,hdl,hk,hso,hsp,q⟩:=hh;have h64:=hso.1;obtain ⟨u,rfl,ru⟩:=vals1 rx;cases ru;obtain ⟨vs,rv,pl,hz⟩:=I.list hq;have hl:=rv.length
 have zl:vs.length≤sizeLine:=by omega
 refine call_function_entry_kw kind_sorted plain_sorted entry_sorted (ksk_s1 _ _) ?_;unfold Builtin.«sorted»;refine wpAny_bind (m:=checkCount "sorted" 1 1 _) (wpAny_pure (wpAny_bind (collect_list pl.isList (wpAny_bind (wpAny_newList ?_ zl)) zl)));have hsz:((s.heap.push (seqObj "list" #[] 0)).update s.heap.objs.size (Obj.mapSeq (·++vs.toArray))).objs.size=s.heap.objs.size+1:=(Heap.size_update _ _ _).trans (size_push' _ _);have x1:Ext s.heap (((s.heap.push (seqObj "list" #[] 0)).update s.heap.objs.size (Obj.mapSeq (·++vs.toArray))).push (seqObj "list" vs.toArray 0)):=((Ext.push _ _).upd (qc _)).trans (.push _ _);have o1:(((s.heap.push (seqObj "list" #[] 0)).update s.heap.objs.size (Obj.mapSeq (·++vs.toArray))).push (seqObj "list" vs.toArray 0)).get? (s.heap.objs.size+1)=some (seqObj "list" vs.toArray 0):=hsz▸Heap.get?_push_size _ rfl;show wpAny (model X.prog X.w) _ _ _ _ { s with heap:=((s.heap.push (seqObj "list" #[] 0)).update s.heap.objs.size (Obj.mapSeq (·++vs.toArray))).push (seqObj "list" vs.toArray 0) };rw [hsz];generalize ((s.heap.push (seqObj "list" #[] 0)).update s.heap.objs.size (Obj.mapSeq (·++vs.toArray))).push (seqObj "list" vs.toArray 0)=h1 at x1 o1 ⊢;have ha:s.heap.objs.size≤s.heap.objs.size+1:=wy _;generalize s.heap.objs.size+1=a at ha o1 ⊢;refine wpAny_bind (wpAny_holding (wpAny_call_entry_kw slot_list_sort ⟨_,o1,rfl⟩ entry_list_sort ?_ (ksk_l1 _ _)));show wpAny (model X.prog X.w) X.A.in1.in1 (Builtin.«list.sort» ⟨[.ref a],[(Str.ofString "key",.ref fa)]⟩) _ _ _;rw [ksk_t1];unfold ksk_tree;obtain ⟨e1,o2⟩:∃ e1,(h1.update a (Obj.mapSeq fun _=>(#[]:Array Value))).get? a=some (seqObj "list" #[] e1):=⟨_,get?_update_seq o1 fun _=>#[]⟩;have x2:Ext s.heap (h1.update a (Obj.mapSeq fun _=>(#[]:Array Value))):=x1.upd ha;refine wpAny_bind (listItems_at o1 rfl (wpAny_bind (listUpdate_at o1 rfl (wpAny_bind (seqEpoch_at o2 rfl (wpAny_bind (wpAny_newTuple (wpAny_bind (wpAny_newList (wpAny_holding ?_) (q5 _))) zl)))) (by rw [zf];exact zl) (q5 _))))
 have hkS:s.heap.objs.size≤((h1.update a (Obj.mapSeq fun _=>(#[]:Array Value))).push (seqObj "tuple" vs.toArray 0)).objs.size:=by
  rw [size_push',Heap.size_update];have:a<h1.objs.size:=Heap.lt_size o1;omega
 have hak:a≠((h1.update a (Obj.mapSeq fun _=>(#[]:Array Value))).push (seqObj "tuple" vs.toArray 0)).objs.size:=by
  rw [size_push',Heap.size_update];have:a<h1.objs.size:=Heap.lt_size o1;omega
 have o3:(((h1.update a (Obj.mapSeq fun _=>(#[]:Array Value))).push (seqObj "tuple" vs.toArray 0)).push (seqObj "list" #[] 0)).get? a=some (seqObj "list" #[] e1):=Heap.get?_push_of_some _ (Heap.get?_push_of_some _ o2);have ok3:(((h1.update a (Obj.mapSeq fun _=>(#[]:Array Value))).push (seqObj "tuple" vs.toArray 0)).push (seqObj "list" #[] 0)).get? ((h1.update a (Obj.mapSeq fun _=>(#[]:Array Value))).push (seqObj "tuple" vs.toArray 0)).objs.size=some (seqObj "list" #[] 0):=Heap.get?_push_size _ rfl;have x3:Ext s.heap (((h1.update a (Obj.mapSeq fun _=>(#[]:Array Value))).push (seqObj "tuple" vs.toArray 0)).push (seqObj "list" #[] 0)):=(x2.trans (.push _ _)).trans (.push _ _);show wpAny (model X.prog X.w) X.A.in1.in1 (ksk_rest a (.ref fa) false vs.toArray e1 (.ref ((h1.update a (Obj.mapSeq fun _=>(#[]:Array Value))).push (seqObj "tuple" vs.toArray 0)).objs.size)) _ _ { s with heap:=((h1.update a (Obj.mapSeq fun _=>(#[]:Array Value))).push (seqObj "tuple" vs.toArray 0)).push (seqObj "list" #[] 0) };generalize ((h1.update a (Obj.mapSeq fun _=>(#[]:Array Value))).push (seqObj "tuple" vs.toArray 0)).objs.size=kS at hkS hak ok3 ⊢;generalize ((h1.update a (Obj.mapSeq fun _=>(#[]:Array Value))).push (seqObj "tuple" vs.toArray 0)).push (seqObj "list" #[] 0)=h3 at o3 ok3 x3 ⊢
 have nst:∀ b,s.heap.objs.size≤b->b∉frs X.stack:=fun b hb' hm=>by
  rcases qy.mp (I.stkSub b hm) with z | z
  ·exact absurd (qq I.lt hb') (by rw [z];exact zm _)
  ·exact I.nofs hb' z
 have S0:KSt X H s a kS e1 H { s with heap:=h3 } [] [] []:=⟨Un.kept x3,I.hok.kept x3,rfl,I.bare,Same.refl H,I.hok.fresh ha,I.hok.fresh hkS,o3,⟨0,ok3⟩,.nil,.nil⟩;unfold ksk_rest;refine wpAny_bind (wpAny_rule ?_)
 first
  | rw [List.forIn_toArray]
  | (rw [← Array.forIn_toList];simp only [List.toList_toArray])
 refine wpAny_bind (xAls (R:=fun s''=>wpAny (model X.prog X.w) X.A.in1.in1 (do let keys ← Builtin.List.listItems (.ref kS);ksk_end a false vs.toArray e1 (.ref kS) keys) _ _ s'') hcall rfl I ha hkS hak (nst a ha) (nst kS hkS) (fun x s' R' hx=>?_) vs ys ds [] [] [] H _ rv hdl hsp (by rw [wf];omega) S0 fun Hn s'' ks kvs S hks=>?_)
 ·refine wpAny_bind (wpAny_attempt (wpAny_mono hx (fun kv s2 h2=>?_) fun _ _ z=>z.elim))
  exact wpAny_bind (wpAny_mono h2 (fun _ s3 h3=>wpAny_pure h3) fun _ _ z=>z)
 ·rw [wb] at S
  rw [wf,yc] at hks;obtain ⟨ek,gk⟩:=S.gk
  have hkl:ks.length=ds.length:=by rw [hks,hdl,hl]
  have I':Inv X pins σ Hn s'':=I.call' S.os S.un S.hok S.bare (fun b z=>absurd z (by simp));obtain ⟨as,ra⟩:=S.dv.reads I' S.vals;have W:=xAqk hk.one;refine wpAny_bind (listItems_at gk rfl ?_)
  have fin:∀ (pm:Array Nat),Arr vs.length (ltK ds) pm->∀ st:SortSt,(arrOf st).map (·.2)=List.toArray (pm.toList.map fun i=>vs.getD i Value.none)->failedOf st=none->wpAny (model X.prog X.w) X.A.in1.in1 (ksk_tail a false e1 (.ref kS) st) (fun fin s'=>∃ v,fin=PySem.Fin.done (.ret v)/\wpAny (model X.prog X.w) X.A.in1 (ret (Value.ref a)) (fun fin s'=>∃ v,fin=.done (.ret v)/\EP X pins σ Q v s') X.xe s') X.xe s'':=fun pm ar st ho hf=>by
   have hix:∀ i∈pm.toList,i<ys.length:=fun i hi=>by
    have:=(ar.1.toList.mem_iff).mp hi
    simp at this
    omega
   have hpl:pm.size=vs.length:=by rw [ar.1.size_eq];simp
   refine xAqr hkS ha hak S (by omega) (by rw [qf,q9,hpl];omega) ho hf (xAet rv _ hix) fun s2 H2 un hok os bare same e2=>?_;refine ⟨_,rfl,wpAny_pure ⟨_,rfl,.ref a,H2,I.call' os un hok bare (fun b z=>absurd z (by simp)),rfl,q a H2 pm.toList (I.hok.fresh ha) same (xAes (by rw [← hkl,hks];exact ar)) e2⟩⟩
  unfold ksk_end
  try dsimp only
  rw [if_neg (by decide)]
  by_cases h2:vs.toArray.size<2
  ·rw [if_pos h2,if_pos h2]
   have h2':vs.length<2:=by simpa using h2
   refine wpAny_bind (wpAny_pure ?_);rw [StateT.run_pure];refine wpAny_bind (wpAny_pure ?_);refine fin _ (xAhy W h2') _ ?_ rfl;show ((ks.toArray.zip vs.toArray).map (·.2))=_;apply yz.mp;rw [Array.toList_map,Array.toList_zip];have e1:List.map (·.2) (ks.zip vs)=vs:=List.map_snd_zip (by omega)
   have e2:(List.toArray (List.range vs.length)).toList.map (fun i=>vs.getD i Value.none)=vs:=by
    apply w5;intro i
    by_cases hi:i<vs.length
    ·simp [hi]
    ·simp [hi]
   show List.map (·.2) (ks.zip vs)=(List.toArray (List.range vs.length)).toList.map (fun i=>vs.getD i Value.none);rw [e1,e2]
  ·rw [if_neg h2,if_neg h2]
   have h2':¬ vs.length<2:=by simpa using h2
   obtain ⟨κ,hkk,hqq⟩:=xAdp (prog:=X.prog) (w:=X.w) (A:=X.A.in1.in1) ra hk (by omega) (by show X.A.units+1+1+60<cLine;omega);refine wpAny_bind (wpAny_mono (hkk (fun k s'=>k=κ/\s'=s'') ⟨rfl,rfl⟩) ?_ fun _ _ z=>z.elim);rintro k' s' ⟨rfl,rfl⟩;rw [if_neg (by decide)];refine wpAny_bind (wpAny_mono (xAld (E:=X.xe) (R:=fun st s3=>s3=s'/\∃ pm,Arr vs.length (ltK ds) pm/\(arrOf st).map (·.2)=List.toArray (pm.toList.map fun i=>vs.getD i Value.none)/\failedOf st=none) W hks (by have:=hso.few hdl W;rw [hl] at this;exact this) h2' hqq fun st pm a1 a2 a3=>⟨rfl,pm,a1,a2,a3⟩) ?_ fun _ _ z=>z);rintro ⟨⟨⟩,st⟩ s3 ⟨rfl,pm,ar,eo,hf⟩;exact fin pm ar st eo hf
theorem Room.in2 {k:Nat} {A:Around} (r:Room (k+1) A):Room k A.in1.in1 :=
 ⟨r.hd,by have:=r.dp;show A.depth+3 * k+5<_;omega,by have:=r.un;show A.units+1+1+16 * k+200<_;omega⟩
end
section
variable {X:Cx} {K:PySem.W.Frag}
end
theorem xAqs {a b:PyData} {x y:PyData} (hs:sk a b=true) (h:ltD a b=true):ltD (.tuple [a,x]) (.tuple [b,y])=true:=by
 have hn:¬ PyData.eqv a b=true:=fun z=>by
  rw [(sk_eq a b hs).mp z,xAcq] at h;cases h
 rw [ltD,ltDs,if_neg hn];exact h
section
variable {wd:Nat->Str} {L:List Lf} {H H':Hp} {v:V} {k:Nat}
end
section
variable {wd:Nat->Str} {L:List Lf} {H H':Hp} {vs:List V} {js:List Nat}
end
theorem sks_self:∀ {ds:List PyData},(∀ d∈ds,sk d d=true)->sks ds ds=true
 | [],_=>rfl
 | d::ds,h=>by
  rw [sks,h d qh,sks_self fun x hx=>h x (qr _ hx)];rfl
theorem xAlt {ds:List PyData} (h:∀ d∈ds,sk d d=true):PyData.eqv (.list ds) (.list ds)=true:=by
 show PyData.eqvAll ds ds=true;exact (xAqi ds ds (sks_self h)).mpr rfl
end L2
namespace Rga
end Rga
namespace L2
open PySem PySem.Spec PySem.W PyProof.Rows
def Tups (H H':Hp):Prop:=∀ b xs,H b=some (.tup xs)->H' b=some (.tup xs)
section
variable {H H1 H':Hp}
theorem Same.tups (s:Same H H'):Tups H H':=fun b xs e=>s b _ e
theorem Tups.trans (a:Tups H H1) (b:Tups H1 H'):Tups H H':=fun c xs e=>b c xs (a c xs e)
theorem Tups.refl (H:Hp):Tups H H:=fun _ _ e=>e
theorem Tups.wr {a:Addr} {o o':HO} (e:H a=some o) (ho:∀ ys,o≠.tup ys):Tups H (upd H a o'):=fun b xs q=>by rw [xAae (xAso q e ho)];exact q
theorem Tups.wl {a:Addr} {xs:List V} {o':HO} (e:H a=some (.lst xs)):Tups H (upd H a o'):=Tups.wr e fun ys z=>by cases z
theorem Tups.wd {a:Addr} {kvs:List (KD×V×V)} {o':HO} (e:H a=some (.dG kvs)):Tups H (upd H a o'):=Tups.wr e fun ys z=>by cases z
mutual
theorem DT.tups (t:Tups H H'):∀ {x:V} {d:PyData},DT H x d->DT H' x d
 | _,_,.non=>.non
 | _,_,.bl b=>.bl b
 | _,_,.int i=>.int i
 | _,_,.str z=>.str z
 | _,_,.tup e h=>.tup (t _ _ e) (DTs.tups t h)
theorem DTs.tups (t:Tups H H'):∀ {x:List V} {d:List PyData},DTs H x d->DTs H' x d
 | _,_,.nil=>.nil
 | _,_,.cons a b=>.cons (DT.tups t a) (DTs.tups t b)
end
theorem GK.tups {k:KD} {v:V} (g:GK H k v) (t:Tups H H'):GK H' k v:=g.stay t
end
section
variable {P P':V->Nat->Prop} {vs us:List V} {js ks:List Nat}
end
section
variable {nk:Nat->List Key} {bh:Nat->Option Nat} {D:Nat->PyData} {H H' H0:Hp} {v:V} {k:Nat}
end
end L2
namespace Rga
end Rga
namespace L2
open PySem PySem.Spec PySem.W PyProof.Rows
def del (H:Hp) (p:Addr):Hp:=fun b=>if b=p then none else H b
theorem xAbk {H:Hp} {p:Addr}:del H p p=none:=if_pos rfl
theorem xAaj {H:Hp} {p b:Addr} (h:b≠p):del H p b=H b:=if_neg h
theorem xAlu {H:Hp} {p b:Addr} (h:H b=none):del H p b=none:=by
 by_cases e:b=p
 ·subst e;exact xAbk
 ·rw [xAaj e];exact h
theorem xAbp {H:Hp} {p:Addr}:Same (del H p) H:=fun b u q=>by
 by_cases e:b=p
 ·subst e;rw [xAbk] at q;cases q
 ·rw [xAaj e] at q;exact q
theorem Tups.cut {H H':Hp} {p:Addr} {xs:List V} (e:H p=some (.lst xs)) (s:Same (del H p) H'):Tups H H':=fun b ys q=>s _ _ (by rw [xAaj (xAso q e fun zs z=>by cases z)];exact q)
end L2
namespace Rga
end Rga
namespace L2
open PySem PySem.Spec PySem.W PyProof.Rows Rga
section
variable {P:V->Nat->Prop} {vs:List V} {js:List Nat}
end
theorem xAlv {x y:Int} {r r':List PyData} (h:x<y):ltDs (.int x::r) (.int y::r')=true:=by
 rw [ltDs,if_neg (fun z=>by
  have:=(sk_eq _ _ rfl).mp z;injection this with this
  omega)]
 exact decide_eq_true h
theorem xAqt {x:Int} {r r':List PyData} (h:ltDs r r'=true):ltDs (.int x::r) (.int x::r')=true:=by
 rw [ltDs,if_pos ((sk_eq _ _ rfl).mpr rfl)];exact h
end L2
namespace L2
open PySem PySem.Spec PySem.W PyProof.Rows
def GtAt (A:Around) (s:Shared) (x y:Value) (b:Bool):Prop:=∀ (prog:Program) (w:World) (E:Value->Shared->Prop) (Q:Value->Shared->Prop),Q (.bool b) s->wpAny (model prog w) A (richCompare .Gt x y) Q E s
open SeqAt in
theorem xAlw (l b:Addr) (us vs:Array Value) (n n2:Nat) (dd dd2:Option Addr) (sl sl2:Array (Option Value)) (e:Nat->Bool) (c:Bool) :
  Meets (Builtin.«tuple.__gt__» ⟨[.ref l,.ref b],[]⟩)
   (fun A R s=>s.heap.get? l=some { cls:=.type "tuple",dict:=dd,data:=.seq us n,slots:=sl }/\s.heap.get? b=some { cls:=.type "tuple",dict:=dd2,data:=.seq vs n2,slots:=sl2 } ∧
    (∀ j (h1:j<us.size) (h2:j<vs.size),EqAt A.in1 s us[j] vs[j] (e j)) ∧
    (∀ i (h1:i<us.size) (h2:i<vs.size),(∀ j,j<i->e j=true)->e i=false->GtAt A.in1 s us[i] vs[i] c) ∧
    ((∀ j,j<min us.size vs.size->e j=true)->c=decide (vs.size<us.size))/\R (.ok (.ret (.bool c))) s) :=
 .of_wp fun prog w A R s h=>by
  obtain ⟨hp,g,d,tk,os⟩:=s;obtain ⟨hl,hb,he,hlt,hall,h⟩:=h;have f2:=AutoSeq1.sub_tuple_tuple
  have hZ:(us.toList.zip vs.toList).length=min us.size vs.size:=by simp
  wp_walk using wpAny_loadPart' hl,wpAny_loadPart' hb,wpAny_forIn_list _ (fun rest b s'=>b.1=none/\s'=⟨hp,g,d,tk,os⟩/\∃ i,rest=(us.toList.zip vs.toList).drop i/\∀ j,j<i->e j=true) _
  case turn =>
   rintro ⟨y,x⟩ rest b s' ⟨hb',rfl,i,hz,hi⟩
   have hlt':i<(us.toList.zip vs.toList).length:=by
    rcases z8 i (us.toList.zip vs.toList).length with h' | h'
    ·exact h'
    ·rw [yd h'] at hz;cases hz
   have h1:i<us.size:=by omega
   have h2:i<vs.size:=by omega
   rw [z9 hlt'] at hz;injection hz with hyx hrest
   have hy:y=us[i]:=by have:=congrArg Prod.fst hyx;simpa using this
   have hx:x=vs[i]:=by have:=congrArg Prod.snd hyx;simpa using this
   subst hy hx;refine wpAny_bind (he i h1 h2 prog w _ _ ?_)
   cases hy:e i with
   | true =>
    wp_walk
    exact ⟨rfl,rfl,i+1,hrest,fun j hj=>by
     by_cases z:j=i
     ·rw [z];exact hy
     ·exact hi j (by omega)⟩
   | false =>
    have q:=hlt i h1 h2 hi hy;dsimp only;rw [if_pos (by rfl)];refine wpAny_bind (wpAny_rule (wpAny_bind (q prog w _ _ ?_)));exact wpAny_bind (wpAny_pure (wpAny_pure (wpAny_pure ⟨_,rfl,h⟩)))
  case fin =>
   rintro ⟨b1,b2⟩ s' ⟨hb',rfl,i,hz,hi⟩
   simp only at hb'
   subst hb'
   have hge:min us.size vs.size≤i:=by
    rcases z8 i (us.toList.zip vs.toList).length with h' | h'
    ·rw [z9 h'] at hz;cases hz
    ·omega
   have:=hall fun j hj=>hi j (by omega)
   wp_walk
   exact ⟨_,rfl,by rw [this] at h;simpa [Builtin.Tuple.tupleCompareSizes] using h⟩
  case h =>
   exact ⟨rfl,rfl,0,rfl,fun j hj=>absurd hj (zk _)⟩
theorem GtAt.tuples {A:Around} {s:Shared} {l b:Addr} {us vs:Array Value} {e:Nat->Bool} {c:Bool} (hl:s.heap.IsTuple l us) (hb:s.heap.IsTuple b vs) (hu:A.units<cLine)
  (he:∀ j (h1:j<us.size) (h2:j<vs.size),SeqAt.EqAt A.in1 s us[j] vs[j] (e j)) (hlt:∀ i (h1:i<us.size) (h2:i<vs.size),(∀ j,j<i->e j=true)->e i=false->GtAt A.in1 s us[i] vs[i] c)
  (hall:(∀ j,j<min us.size vs.size->e j=true)->c=decide (vs.size<us.size)):GtAt A s (.ref l) (.ref b) c:=fun prog w E Q h=>by
 obtain ⟨⟨cls,dd,data,sl⟩,ho,hc,n,hd⟩:=id hl;obtain ⟨⟨cls2,dd2,data2,sl2⟩,ho2,hc2,n2,hd2⟩:=id hb
 simp only at hc hd hc2 hd2
 subst hc hd hc2 hd2
 exact richCompare_meets_room (op:=.Gt) ⟨_,ho,rfl⟩ ⟨_,ho2,rfl⟩ F.slot_tuple_gt F.entry_tuple_gt (F.args_tuple_gt_2 _ _) (xAlw l b us vs n n2 dd dd2 sl sl2 e c)
  ⟨ho,ho2,he,hlt,hall,show Value.bool c≠Value.notImplemented/\Q (.bool c) s from ⟨(fun x=>nomatch x),h⟩⟩ hu
theorem GtAt.ints {A:Around} {s:Shared} (i j:Int) (t u:Tok):GtAt A s (.int i t) (.int j u) (decide (j<i)):=fun prog w E Q h =>
 richCompare_gives (op:=.Gt) (typeIs_int s _ t) (typeIs_int s _ u) F.slot_int_gt F.entry_int_gt (F.args_int_gt_2 _ _) (gives_int_gt _ _ t u) (fun x=>nomatch x) h
theorem xAlx {ns:List Int} {i:Nat} (h:i<(ns.map PyData.int).length):∃ k,(ns.map PyData.int).getD i .none=.int k:=by
 rw [qf] at h;exact ⟨ns[i],by rw [zb,qu,qe h];rfl⟩
theorem xAgt:∀ ns:List Int,PyData.canLayAll0 (ns.map PyData.int)=true
 | []=>rfl
 | n::ns=>by
  show (true&&PyData.canLayAll0 (ns.map PyData.int))=true;rw [xAgt ns];rfl
theorem xAii:∀ ns:List Int,PyData.depthAll (ns.map PyData.int)=0
 | []=>rfl
 | n::ns=>by
  show max 0 (PyData.depthAll (ns.map PyData.int))=0;rw [xAii ns];rfl
theorem xAdt:∀ ns ms:List Int,sks (ns.map PyData.int) (ms.map PyData.int)=true
 | [],_=>rfl
 | _::_,[]=>rfl
 | n::ns,m::ms=>by
  show (true&&sks (ns.map PyData.int) (ms.map PyData.int))=true;rw [xAdt ns ms];rfl
open SeqAt in
theorem xAjo:∀ (ns ms:List Int) (j:Nat),pairEq (ns.map PyData.int) (ms.map PyData.int) j=pairEq (ms.map PyData.int) (ns.map PyData.int) j:=fun ns ms j=>by
 unfold pairEq
 have sd:∀ a b:PyData,(∃ x,a=.int x)\/a=.none->(∃ x,b=.int x)\/b=.none->PyData.eqv a b=PyData.eqv b a:=fun a b ha hb=>by
  rcases ha with ⟨x,rfl⟩ | rfl <;> rcases hb with ⟨y,rfl⟩ | rfl
  ·by_cases e:x=y
   ·rw [e]
   ·have h1:PyData.eqv (.int x) (.int y)=false:=by
     cases q:PyData.eqv (.int x) (.int y) with
     | false=>rfl
     | true=>have:=(sk_eq _ _ rfl).mp q;injection this with this;exact absurd this e
    have h2:PyData.eqv (.int y) (.int x)=false:=by
     cases q:PyData.eqv (.int y) (.int x) with
     | false=>rfl
     | true=>have:=(sk_eq _ _ rfl).mp q;injection this with this;exact absurd this.symm e
    rw [h1,h2]
  ·rfl
  ·rfl
  ·rfl
 have kind:∀ l:List Int,(∃ x,(l.map PyData.int).getD j .none=.int x)\/(l.map PyData.int).getD j .none=.none:=fun l=>by
  by_cases h:j<(l.map PyData.int).length
  ·exact .inl (xAlx h)
  ·exact .inr (by rw [zb,vw (by omega)];rfl)
 exact sd _ _ (kind ns) (kind ms)
open SeqAt in
theorem xAly {A:Around} {s:Shared} {a b:Value} {as bs:List Addr} {ns ms:List Int} (ra:Reads s.heap a (.tuple (ns.map PyData.int)) as) (rb:Reads s.heap b (.tuple (ms.map PyData.int)) bs) (hu:A.units+2<cLine) :
  GtAt A s a b (ltD (.tuple (ms.map PyData.int)) (.tuple (ns.map PyData.int))):=by
 cases ra with
 | tuple h1 h2 h3 h4 =>
  cases rb with
  | tuple k1 k2 k3 k4 =>
   rename_i l o us m b' o' vs m'
   have lx:=ReadsAll.length _ _ _ h4;have ly:=ReadsAll.length _ _ _ k4;rw [q9] at lx ly;rw [ltD]
   have eq':∀ j (g1:j<us.size) (g2:j<vs.size),EqAt A.in1 s us[j] vs[j] (pairEq (ms.map PyData.int) (ns.map PyData.int) j):=fun j g1 g2=>by
    obtain ⟨p1,r1⟩:=xAbi (i:=j) (by rw [q9];exact g1) h4;obtain ⟨p2,r2⟩:=xAbi (i:=j) (by rw [q9];exact g2) k4;have dj:=xAer (ns.map PyData.int) j (by omega);rw [xAii] at dj;have:=eqAt_reads ((ns.map PyData.int).getD j .none) ((ms.map PyData.int).getD j .none) A.in1 s _ _ _ _ r1 r2 (xAeb (xAgt ns) (by omega)) (xAeb (xAgt ms) (by omega)) (by show A.units+1+_<cLine;omega)
    simp only [Array.getElem_toList] at this
    rw [← xAjo];exact this
   refine GtAt.tuples ⟨_,h1,h2,_,h3⟩ ⟨_,k1,k2,_,k3⟩ (by omega) eq' (fun i g1 g2 hj hf=>?_) fun hj=>?_
   ·obtain ⟨p1,r1⟩:=xAbi (i:=i) (by rw [q9];exact g1) h4
    obtain ⟨p2,r2⟩:=xAbi (i:=i) (by rw [q9];exact g2) k4;rw [xAlb _ _ i (by omega) (by omega) hj hf];obtain ⟨x,ex⟩:=xAlx (ns:=ns) (i:=i) (by omega);obtain ⟨y,ey⟩:=xAlx (ns:=ms) (i:=i) (by omega);rw [ex] at r1 ⊢;rw [ey] at r2 ⊢
    simp only [Array.getElem_toList] at r1 r2
    generalize us[i]=u0 at r1 ⊢;generalize vs[i]=v0 at r2 ⊢;cases r1;cases r2;exact GtAt.ints _ _ _ _
   ·rw [xAgq _ _ fun j h=>hj j (by omega),lx,ly]
section
variable {prog:Program} {w:World} {A:Around} {R:Result->Shared->Prop} {I:Addr} {fp wr:List Addr} {n:Nat} {P:Nat->Value->Prop} {St:Nat->Heap->Prop} {G:Heap->Prop}
theorem xAny (W:Walks prog w A.in1 I fp wr n P St) (bt:Nat->Nat->Bool) (S:Addr) (hSf:S∉fp) (hG:∀ h h',G h->(∀ b o,b∉wr->b≠S->h.get? b=some o->h'.get? b=some o)->G h') (hcmp:∀ i j vi vj s,G s.heap->P i vi->P j vj->GtAt A.in1 s vi vj (bt i j)) :
  ∀ (k j:Nat) (s:Shared) (vb:Value) (c:Nat),n - (j+1)=k->j+1≤n->St (j+1) s.heap->G s.heap->P (argBest bt j) vb →
  s.heap.get? S=some { cls:=.type "list",dict:=none,data:=.seq #[vb,vb] c,slots:=#[] } →
  (∀ v h' tk,P (argBest bt (n - 1)) v->(∀ b o,b∉wr->b≠S->s.heap.get? b=some o->h'.get? b=some o)->R (.ok (.ret v)) { s with heap:=h',toks:=tk }) →
  codeAny (model prog w) A (.builtin "max.loop" ⟨[.ref I,.none,.ref S],[]⟩) R s:=by
 have hSw:S∉wr:=fun h=>hSf (W.sub _ h)
 have hname:(toString "max"++toString ".loop":String) = "max.loop":=by decide
 intro k
 induction k with
 | zero =>
  intro j s vb c hk hj hst hg hPb hS hR
  have hin:j+1=n:=by omega
  refine codeAny_builtin F.entry_max_loop ?_;rw [Around.under_plainId F.plain_max_loop _];show wpAny _ A.in1 (seqItems? (.ref S) >>= _) _ _ s;refine wpAny_bind (wpAny_seqItems hS rfl ?_);show wpAny _ A.in1 (tryCatch (pyNext (.ref I)) _ >>= _) _ _ s;refine wpAny_bind (wpAny_tryCatch (W.done s _ _ (hin▸hst) fun h' tk hk'=>?_));have hS':=hk' S _ hSw hS;show wpAny _ A.in1 (updateSeq S (fun _=>#[]) >>= _) _ _ _;refine wpAny_bind ?_;refine wpAny_updateSeq hS' rfl (wpAny_bind (wpAny_letGo (wpAny_pure ?_)));refine hR vb _ tk (by rw [← hin];exact hPb) fun b o hbw hbS e=>(Heap.get?_update_other _ _ (Ne.symm hbS)).trans (hk' b o hbw e)
 | succ k ih =>
  intro j s vb c hk hj hst hg hPb hS hR
  have hlt:j+1<n:=by omega
  refine codeAny_builtin F.entry_max_loop ?_;rw [Around.under_plainId F.plain_max_loop _];show wpAny _ A.in1 (seqItems? (.ref S) >>= _) _ _ s;refine wpAny_bind (wpAny_seqItems hS rfl ?_);show wpAny _ A.in1 (tryCatch (pyNext (.ref I)) _ >>= _) _ _ s;refine wpAny_bind (wpAny_tryCatch (W.item (j+1) s _ _ hlt hst fun v h' tk hP hst' hk'=>?_));have hS':=hk' S _ hSw hS;have hg':G h':=hG _ _ hg fun b o hb _ e=>hk' b o hb e;show wpAny _ A.in1 (tryCatch (holding [v,v] (richCompare .Gt v vb >>= _)) _ >>= _) _ _ _;refine wpAny_bind (wpAny_tryCatch (wpAny_holding (wpAny_bind (hcmp (j+1) (argBest bt j) v vb { s with heap:=h',toks:=tk } hg' hP hPb prog w _ _ ?_))));refine wpAny_bind (wpAny_holding (wpAny_truthy_bool ?_));refine wpAny_bind (wpAny_letGo (wpAny_pure ?_))
  cases hb:bt (j+1) (argBest bt j) with
  | true =>
   simp only [if_true]
   refine wpAny_bind ?_;refine wpAny_updateSeq hS' rfl (wpAny_bind (wpAny_letGo ?_));rw [hname]
   refine wpAny_pure ⟨plainId_quiet F.plain_max_loop _,ih (j+1) _ v _ (by omega) hlt (W.frame _ _ _ hst' fun b hbf o e=>?_) (hG _ _ hg' fun b o _ hbS e=>(Heap.get?_update_other _ _ (Ne.symm hbS)).trans e) (by simp only [argBest,hb,if_true];exact hP) (Heap.get?_update_self _ hS' rfl)
    fun v' h'' tk'' hP' hk''=>?_⟩
   ·exact (Heap.get?_update_other _ _ (fun h:S=b=>hSf (by rw [h];exact hbf))).trans e
   ·exact hR v' h'' tk'' hP' fun b o hbw hbS e=>hk'' b o hbw hbS ((Heap.get?_update_other _ _ (Ne.symm hbS)).trans (hk' b o hbw e))
  | false =>
   simp only [Bool.false_eq_true,if_false]
   refine wpAny_bind (wpAny_letGo ?_);rw [hname];refine wpAny_pure ⟨plainId_quiet F.plain_max_loop _,ih (j+1) _ vb c (by omega) hlt hst' hg' (by simp only [argBest,hb,Bool.false_eq_true,if_false];exact hPb) hS' fun v' h'' tk'' hP' hk''=>?_⟩;exact hR v' h'' tk'' hP' fun b o hbw hbS e=>hk'' b o hbw hbS (hk' b o hbw e)
theorem xAnz (W:Walks prog w A.in1 I fp wr n P St) (bt:Nat->Nat->Bool) (S:Addr) (hSf:S∉fp) (hG:∀ h h',G h->(∀ b o,b∉wr->b≠S->h.get? b=some o->h'.get? b=some o)->G h') (hcmp:∀ i j vi vj s,G s.heap->P i vi->P j vj->GtAt A.in1 s vi vj (bt i j)) (hn:0<n) {s:Shared} {c:Nat} (hst:St 0 s.heap) (hg:G s.heap)
  (hS:s.heap.get? S=some { cls:=.type "list",dict:=none,data:=.seq #[] c,slots:=#[] })
  (hR:∀ v h' tk,P (argBest bt (n - 1)) v->(∀ b o,b∉wr->b≠S->s.heap.get? b=some o->h'.get? b=some o)->R (.ok (.ret v)) { s with heap:=h',toks:=tk }) :
  codeAny (model prog w) A (.builtin "max.loop" ⟨[.ref I,.none,.ref S],[]⟩) R s:=by
 have hSw:S∉wr:=fun h=>hSf (W.sub _ h)
 have hname:(toString "max"++toString ".loop":String) = "max.loop":=by decide
 refine codeAny_builtin F.entry_max_loop ?_;rw [Around.under_plainId F.plain_max_loop _];show wpAny _ A.in1 (seqItems? (.ref S) >>= _) _ _ s;refine wpAny_bind (wpAny_seqItems hS rfl ?_);show wpAny _ A.in1 (tryCatch (pyNext (.ref I)) _ >>= _) _ _ s;refine wpAny_bind (wpAny_tryCatch (W.item 0 s _ _ hn hst fun v h' tk hP hst' hk'=>?_));have hS':=hk' S _ hSw hS;have hg':G h':=hG _ _ hg fun b o hb _ e=>hk' b o hb e;show wpAny _ A.in1 (updateSeq S (fun _=>#[v,v]) >>= _) _ _ _;refine wpAny_bind ?_;refine wpAny_updateSeq hS' rfl ?_;rw [hname];refine wpAny_pure ⟨plainId_quiet F.plain_max_loop _,xAny W bt S hSf hG hcmp _ 0 _ v _ rfl hn (W.frame _ _ _ hst' fun b hbf o e=>?_) (hG _ _ hg' fun b o _ hbS e=>(Heap.get?_update_other _ _ (Ne.symm hbS)).trans e) hP (Heap.get?_update_self _ hS' rfl) fun v' h'' tk'' hP' hk''=>?_⟩
 ·exact (Heap.get?_update_other _ _ (fun h:S=b=>hSf (by rw [h];exact hbf))).trans e
 ·exact hR v' h'' tk'' hP' fun b o hbw hbS e=>hk'' b o hbw hbS ((Heap.get?_update_other _ _ (Ne.symm hbS)).trans (hk' b o hbw e))
end
theorem xAgu {bt:Nat->Nat->Bool} (irr:∀ i,bt i i=false) (tr:∀ i j k,bt i j=true->bt j k=true->bt i k=true):∀ k j,j≤k->bt j (argBest bt k)=false
 | 0,j,h=>by
  obtain rfl:j=0:=by omega
  exact irr 0
 | k+1,j,h=>by
  unfold argBest
  cases hb:bt (k+1) (argBest bt k) with
  | true =>
   rw [if_pos rfl]
   by_cases z:j=k+1
   ·rw [z];exact irr _
   ·have:=xAgu irr tr k j (by omega)
    cases q:bt j (k+1) with
    | false=>rfl
    | true=>rw [tr _ _ _ q hb] at this;cases this
  | false =>
   rw [if_neg (by decide)]
   by_cases z:j=k+1
   ·rw [z];exact hb
   ·exact xAgu irr tr k j (by omega)
theorem xApi (bt:Nat->Nat->Bool):∀ k,argBest bt k≤k
 | 0=>qc _
 | k+1=>by
  unfold argBest;have:=xApi bt k
  split <;> omega
def rMaxT (K:PySem.W.Frag):List V->Hp->VK->Prop:=fun xs H Q=>∃ p ys,∃ nss:List (List Int),xs=[.ref p]/\SqL K H p ys/\DVs K H ys (nss.map fun ns=>.tuple (ns.map PyData.int))/\0<ys.length ∧
 ∀ (m:Nat) v ns,ys[m]?=some v->nss[m]?=some ns->(∀ ks∈nss,ltD (.tuple (ns.map PyData.int)) (.tuple (ks.map PyData.int))=false)->Q v H
section
variable {X:Cx}
theorem xAoa (hc:X.calm=true) (hu:X.A.units+3+61<cLine):CallR X (.builtin "max") (rMaxT X.K):=by
 intro pins s σ H xs us Q I r h;obtain ⟨p,ys,nss,rfl,hq,hd,hn,q⟩:=h;obtain ⟨u,rfl,ru⟩:=vals1 r;cases ru;obtain ⟨its,rv,pl,hz⟩:=I.list hq;have hl:=rv.length;have hdl:=xAcr hd;rw [qf] at hdl;obtain ⟨as,ra⟩:=hd.reads I rv;have hh:=I.ok.hd hc;have hil:=pl.isList
 have hlt:p<s.heap.objs.size:=by obtain ⟨_,e,_⟩:=hil;exact Heap.lt_size e
 have hname:(toString "max"++toString ".loop":String) = "max.loop":=by decide
 let D:Nat->PyData:=fun i=>.tuple ((nss.getD i []).map PyData.int)
 have look:∀ (h':Heap),Ext s.heap h'->∀ i v,its.toArray[i]?=some v->∃ bs,Reads h' v (D i) bs:=fun h' x i v e=>by
  rw [y8] at e;obtain ⟨hi,e⟩:=qv.mp e;obtain ⟨bs,z⟩:=xAbi hi (xAbe x ra)
  have ed:(nss.map fun ns=>PyData.tuple (ns.map PyData.int)).getD i .none=D i:=by
   rw [zb,qu,qe (by omega:i<nss.length)];show _=PyData.tuple ((nss.getD i []).map PyData.int);rw [zb,qe (by omega:i<nss.length)];rfl
  rw [e,ed] at z;exact ⟨bs,z⟩
 refine call_function_tree F.kind_max F.plain_max F.entry_max (F.args_max1 _) ?_;show wpAny _ X.A.in1 (Builtin.Builtins.bindParams "max" ["key","default"] 0 ⟨[],[]⟩ >>= _) _ _ s;refine wpAny_bind (wpAny_of_eq (show Builtin.Builtins.bindParams "max" ["key","default"] 0 ⟨[],[]⟩=pure [none,none] from rfl) ?_);refine wpAny_bind (wpAny_pure ?_);refine wpAny_bind (wpAny_pyIter_list hil (wpAny_bind (wpAny_newObj_type ?_)));rw [hname]
 have e0:∀ b o,s.heap.get? b=some o->b≠s.heap.objs.size/\b≠(s.heap.push { cls:=.type "list_iterator",data:=.fields #[.ref p,.int 0 0] }).objs.size:=fun b o e=>by
  have:=Heap.lt_size e;have hz':(s.heap.push { cls:=.type "list_iterator",data:=.fields #[.ref p,.int 0 0] }).objs.size=s.heap.objs.size+1:=Heap.size_push ..;rw [hz'];exact ⟨qi this,qi (z7 this)⟩
 have hSf:(s.heap.push { cls:=.type "list_iterator",data:=.fields #[.ref p,.int 0 0] }).objs.size∉[s.heap.objs.size,p]:=fun hm=>by
  have hz':(s.heap.push { cls:=.type "list_iterator",data:=.fields #[.ref p,.int 0 0] }).objs.size=s.heap.objs.size+1:=Heap.size_push ..;rw [hz'] at hm;rcases qy.mp hm with z | z
  ·exact absurd z (vx _)
  ·rw [← qj.mp z] at hlt
   exact absurd hlt (yg.mpr (wy _))
 have x2:Ext s.heap ((s.heap.push { cls:=.type "list_iterator",data:=.fields #[.ref p,.int 0 0] }).push { cls:=.type "list",data:=.seq #[] }):=(Ext.push _ _).trans (.push _ _);have W:=Walks.list (prog:=X.prog) (w:=X.w) (A:=X.A.in1) hh s.heap.objs.size p (qi hlt) its.toArray;have hsz:its.toArray.size=its.length:=zf ..;have irr:∀ i,ltD (D i) (D i)=false:=fun i=>xAcq _
 refine wpAny_pure ⟨plainId_quiet F.plain_max_loop _,xAnz (G:=fun h'=>Ext s.heap h') W (fun i j=>ltD (D j) (D i)) _ hSf (fun h h' g k b o e=>k b o (by simpa using (e0 b o e).1) (e0 b o e).2 (g b o e)) (fun i j vi vj s' g hi hj=>?_) (by omega)
  ⟨⟨_,Heap.get?_push_of_some _ (Heap.get?_push_size _ rfl),rfl,rfl⟩,(hil.push _).push _⟩ x2 (Heap.get?_push_size _ rfl) fun v h' tk hP hk=>?_⟩
 ·obtain ⟨b1,r1⟩:=look _ g i vi hi
  obtain ⟨b2,r2⟩:=look _ g j vj hj;exact xAly r1 r2 (by show X.A.units+1+2<cLine;omega)
 ·have x3:Ext s.heap h':=fun b o e=>hk b o (by simpa using (e0 b o e).1) (e0 b o e).2 (x2 b o e)
  have ba:=xAgu irr (fun i j k h1 h2=>xAno _ _ _ (by rw [sk];exact xAdt _ _) (by rw [sk];exact xAdt _ _) (by rw [sk];exact xAdt _ _) h2 h1) (its.toArray.size - 1) (bt:=fun i j=>ltD (D j) (D i));have bl:=xApi (fun i j=>ltD (D j) (D i)) (its.toArray.size - 1);have hP:its.toArray[argBest (fun i j=>ltD (D j) (D i)) (its.toArray.size - 1)]?=some v:=hP;generalize argBest (fun i j=>ltD (D j) (D i)) (its.toArray.size - 1)=m at ba bl hP;rw [y8] at hP
  have hm:m<ys.length:=by omega
  obtain ⟨u',hu',ru'⟩:=rv.get (i:=m) (x:=ys[m]) (qe hm);rw [hP] at hu';cases hu';refine ⟨ys[m],H,I.kept x3,ru',q m _ (nss.getD m []) (qe hm) (by rw [zb,qe (by omega:m<nss.length)];rfl) fun ks hks=>?_⟩;obtain ⟨j,hj,ej⟩:=qt.mp hks;have:=ba j (by omega);show ltD (D m) _=false
  have ek:D j=.tuple (ks.map PyData.int):=by
   show PyData.tuple ((nss.getD j []).map PyData.int)=_;rw [zb,qe hj,ej];rfl
  rw [← ek];exact this
end
theorem xApj {ka:List (Key×V)} {va:List (Key×Value)} (h:KV ka va):va.map (·.1)=ka.map (·.1):=by
 induction h with
 | nil=>rfl
 | cons a _ ih=>rw [qz,qz,ih,a.1]
section
variable {X:Cx}
end
section
variable {X:Cx} {pins:List (Addr×Obj)} {σ:St} {H:Hp} {s:Shared}
theorem Inv.freeze {a:Addr} {o:Obj} {kvs:List (Key×V)} (I:Inv X pins σ H s) (e:H a=some (.dK kvs)) (ho:s.heap.get? a=some o):Inv X pins σ (upd H a (.frz o (.dK kvs))) s:=by
 refine I.un (t':=s.toks) (h':=s.heap) ⟨fun b ob q _ _ _=>q,fun b ob q _ _ _=>⟨ob.slots,q⟩,fun b ob q n _=>?_,fun b ob q _=>⟨ob,q⟩,fun b xs q=>?_,fun b ob u q=>?_,fun b ps q=>?_,fun b ob xs q n=>q⟩ fun b u q=>?_
 ·rw [xAae (fun z=>by rw [z,e] at n;cases n)];exact n
 ·rw [xAae (fun z=>by rw [z,e] at q;cases q)];exact q
 ·rw [xAae (fun z=>by rw [z,e] at q;cases q)];exact q
 ·exact ⟨#[],by rw [xAae (fun z=>by rw [z,e] at q;cases q),q];simp⟩
 ·by_cases hb:b=a
  ·subst hb
   rw [xAad] at q;cases q;exact ⟨ho,I.hok b _ e⟩
  ·rw [xAae hb] at q
   refine (I.hok b u q).stay (fun _ _ _ q=>q) (fun c q=>?_) fun c xs q=>?_
   ·rw [xAae (fun z=>by rw [z,e] at q;cases q)];exact q
   ·rw [xAae (fun z=>by rw [z,e] at q;cases q)];exact q
end
def Itk (a:Addr) (o:Obj) (kvs:List (Key×V)):It :=
 ⟨fun i H=>H a=some (.frz o (.dK kvs))/\i<kvs.length,fun i H x H'=>H'=H/\∃ k v,kvs[i]?=some (k,v)/\x=kV k,fun i H=>H a=some (.frz o (.dK kvs))/\kvs.length≤i⟩
theorem xAqu {X:Cx} {pins:List (Addr×Obj)} {σ:St} {H:Hp} {s:Shared} {a:Addr} {o:Obj} {es:Array DictEntry} {ep:Nat} {kvs:List (Key×V)} (hd:o.data=.dict es ep) (I:Inv X pins σ H s) (e:H a=some (.frz o (.dK kvs))):∃ vs,KV kvs vs/\vs.length=kvs.length/\s.heap.DictAt (mixKind X.prog X.w) a vs ep:=by
 obtain ⟨ho,_,_,vs,kv,o',es',ep',ho',r⟩:s.heap.get? a=some o/\kvs.length≤sizeLine/\(a==sysModules)=false/\∃ vs,KV kvs vs/\s.heap.DictOf (mixKind X.prog X.w) a vs:=I.hok a _ e;rw [ho] at ho';cases ho'
 have:ep'=ep:=by
  have:=r.2.1;rw [hd] at this;injection this with _ h;exact h.symm
 subst this;refine ⟨vs,kv,?_,o,es',ho,r⟩;have:=congrArg List.length (xApj kv);simpa using this
theorem xAob {P:Program} {w:World} {K:PySem.W.Frag} {tg:Expr} (a it:Addr) {o:Obj} {es:Array DictEntry} {ep:Nat} {kvs:List (Key×V)} (hd:o.data=.dict es ep):Turn P w K tg (Itk a o kvs) [it] it (fun i h=>h.IsKeyIter it a i kvs.length ep) where
 mem:=by simp
 obj:=fun i h st b hb=>by
  have e:b=it:=by simpa using hb
  subst e;obtain ⟨o,e,c,d⟩:=st;exact ⟨o,e,fun v z=>by rw [d] at z;cases z⟩
 keep:=fun i h h' st k=>st.at fun o e=>k it (by simp) o e
 item:=by
  intro X hP hw hK hc i pins s σ H E I hf st hg;subst hP hw hK;obtain ⟨he,hi⟩:=hg;obtain ⟨vs,kv,hl,da⟩:=xAqu hd I he;have hx:vs[i]?=some (vs[i].1,vs[i].2):=qe (by omega);obtain ⟨f0,f1,f2,f3,f4,f5⟩:=hf it (by simp);rw [← hl] at st;refine wpAny_pyNext_dict_item st da hx fun key h' hkey st' sb=>?_;have I1:Inv X pins σ H { s with heap:=h' }:=I.turned (t':=s.toks) (fun b o hb e=>(sb.2 b hb).trans e) f0 f1 f3 f4 f5;obtain ⟨ob,e,c,d⟩:=id st'
  have ek:vs[i].1=kvs[i].1:=by
   have:=congrArg (fun l=>l[i]?) (xApj kv);simpa [hi,hl] using this
  have rk:RelV (kV kvs[i].1) key:=by
   rw [← ek];rcases xAap (show keyIs vs[i].1 key=true from hkey) with ⟨j,t,e1,e2⟩ | ⟨x,t,e1,e2⟩
   ·rw [e1,e2];exact ⟨t,rfl⟩
   ·rw [e1,e2];exact ⟨t,rfl⟩
  rw [hl] at st';exact ⟨key,rfl,go_of (s:={ s with heap:=h' }) e c d (by decide) ⟨kV kvs[i].1,H,I1,rk,⟨rfl,kvs[i].1,kvs[i].2,qe hi,rfl⟩,st',fun b hb=>(hf b hb).1⟩⟩
 done:=by
  intro X hP hw hK hc i pins s σ H E I hf st hg;subst hP hw hK;obtain ⟨he,hi⟩:=hg;obtain ⟨vs,kv,hl,da⟩:=xAqu hd I he;obtain ⟨f0,f1,f2,f3,f4,f5⟩:=hf it (by simp);rw [← hl] at st;exact wpAny_pyNext_dict_end (I.ok.hd hc) st da (vw (by omega)) fun h' eb=>⟨rfl,I.turned (t':=s.toks) (fun b o hb e=>eb b o hb e) f0 f1 f3 f4 f5⟩
 self:=fun _ _ _ _ _ st h=>wpAny_pyIter_keyiter st h
def iKeys (tl:TE):TI:=fun σ H R=>tl σ H fun x H1=>∃ a kvs,x=.ref a/\((H1 a=some (.dK kvs)/\∀ o,R (Itk a o kvs) (upd H1 a (.frz o (.dK kvs))))\/∃ o,H1 a=some (.frz o (.dK kvs))/\R (Itk a o kvs) H1)
section
variable {X:Cx} {tg:Expr}
theorem xAta {l:Expr} {tl:TE} (hl:PE X l tl):PI X tg l (iKeys tl):=by
 intro pins s σ H R I h;refine thn (hl pins s σ H _ I h) fun v s1 ⟨x,H1,I1,r1,q1⟩=>?_;obtain ⟨a,kvs,e,q⟩:=q1;subst e;cases r1
 have main:∀ (H2:Hp) (o:Obj),Inv X pins σ H2 s1->H2 a=some (.frz o (.dK kvs))->R (Itk a o kvs) H2->wpAny (model X.prog X.w) X.A (pyIter (.ref a)) (PIE X pins σ tg R) X.xe s1:=fun H2 o I2 e2 q2=>by
  obtain ⟨ho,_,hsm,vs0,_,o',es,ep,ho',hc,hd,r⟩:s1.heap.get? a=some o/\kvs.length≤sizeLine/\(a==sysModules)=false/\∃ vs,KV kvs vs/\s1.heap.DictOf (mixKind X.prog X.w) a vs:=I2.hok a _ e2;rw [ho] at ho';cases ho';obtain ⟨vs,kv,hlen,da⟩:=xAqu hd I2 e2;refine wpAny_pyIter_dict hsm da ?_;refine ⟨s1.heap.objs.size,[s1.heap.objs.size],_,_,H2,rfl,I2.kept (t':=s1.toks) fun b o e=>Heap.get?_push_of_some _ e,xAob a _ hd,⟨_,Heap.get?_push_size _ rfl,rfl,by rw [hlen];rfl⟩,fun b hb=>?_,q2⟩
  have e:b=s1.heap.objs.size:=by simpa using hb
  subst e;exact I2.fpOk (qc _) (I2.hok.fresh (qc _))
 rcases q with ⟨ea,q⟩ | ⟨o,ea,q⟩
 ·obtain ⟨_,_,vs,_,o,es,ep,ho,_⟩:=dk_of I1.hok ea
  exact main _ o (I1.freeze ea ho) xAad (q o)
 ·exact main _ o I1 ea q
end
theorem xAtb {a:Addr} {o:Obj} {kvs:List (Key×V)} {own:List Str} {fr:List (Str×Nat)} {g:TG} {tt:TT} {te:TE} {σ:St} {H:Hp} {Q:VK} (hz:kvs.length≤sizeLine) (Pv:Nat->List V->Hp->Prop) (h0:Pv 0 [] H) (hl:∀ i ys H,Pv i ys H->H a=some (.frz o (.dK kvs)))
  (hs:∀ i k v ys H' (K1:V->Hp->Prop) (K0:Hp->Prop),kvs[i]?=some (k,v)->Pv i ys H'->(∀ y H4,Pv (i+1) (ys++[y]) H4->K1 y H4)->(∀ H3,Pv (i+1) ys H3->K0 H3) →
   g (kV k) (compSt own fr σ) H' fun σ2 H2=>tt σ2 H2 fun b H3=>if b=true then te σ2 H3 K1 else K0 H3)
  (hd:∀ H' p ys,Pv kvs.length ys H'->ys.length≤kvs.length->H' p=none->Q (.ref p) (upd H' p (.lst ys))):LCb own fr g tt te σ Q (Itk a o kvs) H:=by
 refine ⟨fun i m ys H=>m=kvs.length - i/\i≤kvs.length/\ys.length≤i/\Pv i ys H,⟨kvs.length,by simp,Nat.zero_le _,Nat.zero_le _,h0⟩,?_⟩;rintro i m ys H ⟨rfl,hi,hy,p⟩
 by_cases hlt:i<kvs.length
 ·refine .inr ⟨⟨hl _ _ H p,hlt⟩,by omega,fun x H' y=>?_⟩
  obtain ⟨e,k,v,hk,rfl⟩:=y;subst e
  refine hs i k v ys _ _ _ hk p (fun y H4 p4=>⟨kvs.length - (i+1),by omega,rfl,hlt,?_,p4⟩) fun H3 p3=>⟨kvs.length - (i+1),by omega,rfl,hlt,by omega,p3⟩
  rw [qg,ql];omega
 ·have e:i=kvs.length:=by omega
  subst e;exact .inl ⟨⟨hl _ _ H p,qc _⟩,fun q hq=>hd H q ys p hy hq⟩
section
variable {P:Program} {w:World} {A:Around}
end
def PrsK (H:Hp):List V->List (Key×V)->Prop
 | [],[]=>True
 | y::ys,e::es=>(∃ b,y=.ref b/\H b=some (.tup [kV e.1,e.2]))/\PrsK H ys es
 | _,_=>False
section
variable {X:Cx} {pins:List (Addr×Obj)} {σ:St} {H:Hp} {s:Shared}
end
def codO (c:Addr) (q:Str):HO:=.ext fun h=>h.CodeRec (.ref c) q
def Tb (ln cl:Nat) (q:Str) (P:Addr) (H:Hp):Prop:=H P=some (.tbl #[])\/∃ c,H P=some (.tbl #[rawInt ln,rawInt cl,.ref c])/\H c=some (codO c q)
theorem Tb.same {ln cl:Nat} {q:Str} {P:Addr} {H H':Hp} (t:Tb ln cl q P H) (s:Same H H'):Tb ln cl q P H':=by
 rcases t with t | ⟨c,t,u⟩
 ·exact .inl (s _ _ t)
 ·exact .inr ⟨c,s _ _ t,s _ _ u⟩
theorem Tb.tbl {ln cl:Nat} {q:Str} {P:Addr} {H:Hp} (t:Tb ln cl q P H):∃ ps,H P=some (.tbl ps):=by
 rcases t with t | ⟨c,t,u⟩
 ·exact ⟨_,t⟩
 ·exact ⟨_,t⟩
theorem Tb.keep {ln cl:Nat} {q:Str} {P:Addr} {H H':Hp} (t:Tb ln cl q P H) (k:∀ b u,H b=some u->((∃ ps,u=.tbl ps)\/∃ φ,u=.ext φ)->H' b=some u):Tb ln cl q P H':=by
 rcases t with t | ⟨c,t,u⟩
 ·exact .inl (k _ _ t (.inl ⟨_,rfl⟩))
 ·exact .inr ⟨c,k _ _ t (.inl ⟨_,rfl⟩),k _ _ u (.inr ⟨_,rfl⟩)⟩
theorem Tb.cut {ln cl:Nat} {q:Str} {P a:Addr} {H H':Hp} {o:HO} (t:Tb ln cl q P H) (e:H a=some o) (h1:∀ ps,o≠.tbl ps) (h2:∀ φ,o≠.ext φ) (s:Same (del H a) H'):Tb ln cl q P H' :=
 t.keep fun b u e' hu=>s _ _ (by
  rw [xAaj (fun z=>?_)]
  ·exact e'
  ·subst z
   rw [e] at e';cases e';rcases hu with ⟨ps,z⟩ | ⟨φ,z⟩
   ·exact h1 _ z
   ·exact h2 _ z)
theorem Tb.wr {ln cl:Nat} {q:Str} {P a:Addr} {H:Hp} {o o':HO} (t:Tb ln cl q P H) (e:H a=some o) (h1:∀ ps,o≠.tbl ps) (h2:∀ φ,o≠.ext φ):Tb ln cl q P (upd H a o') :=
 t.cut e h1 h2 fun b u q=>by
  by_cases z:b=a
  ·subst z;rw [xAbk] at q;cases q
  ·rw [xAaj z] at q
   rw [xAae z];exact q
theorem xAtc {P:Program} {w:World} {H:Hp} {h:Heap} {c:Addr} {q:Str} (r:h.CodeRec (.ref c) q):ObjOk P w H h c (codO c q):=by
 have st:∀ h1 h2:Heap,h1.CodeRec (.ref c) q->(∀ o,h1.get? c=some o->h2.get? c=some o)->h2.CodeRec (.ref c) q:=by
  rintro h1 h2 ⟨c',oc,vs,tq,e,ho,r⟩ k;cases e;exact ⟨_,_,_,_,rfl,k _ ho,r⟩
 obtain ⟨c',oc,vs,tq,e,ho,r'⟩:=id r;cases e;exact ⟨r,⟨_,ho⟩,st⟩
def tabP (K:PySem.W.Frag) (x:Str):Addr:=match tabIn K x with
 | some (_,P)=>P
 | none=>0
def tabC (K:PySem.W.Frag) (x:Str):Addr:=match tabIn K x with
 | some (c,_)=>c
 | none=>0
section
variable {X:Cx} {pins:List (Addr×Obj)} {σ:St} {H:Hp} {s:Shared}
theorem Inv.nstk (I:Inv X pins σ H s) {b:Addr} (hb:s.heap.objs.size≤b):b∉frs X.stack:=fun hm=>by
 rcases qy.mp (I.stkSub b hm) with z | z
 ·exact absurd (qq I.lt hb) (by rw [z];exact zm _)
 ·exact I.nofs hb z
theorem Inv.tabbed {P c':Addr} {q:Str} {h':Heap} {tk:Nat} {more:Array Value} (I:Inv X pins σ H s) (hP:H P=some (.tbl #[])) (hx:∀ b o,b≠P->s.heap.get? b=some o->h'.get? b=some o) (hc:s.heap.objs.size≤c') (hr:h'.CodeRec (.ref c') q) (ht:h'.get? P=some (tabObj more)) :
  Inv X pins σ (upd (upd H P (.tbl more)) c' (codO c' q)) { s with heap:=h',toks:=tk }:=by
 have fc:H c'=none:=I.hok.fresh hc;have lP:P<s.heap.objs.size:=I.hok.lt hP;have nPc:P≠c':=qi (qq lP hc)
 have oth:∀ b,b≠P->b≠c'->(upd (upd H P (.tbl more)) c' (codO c' q)) b=H b:=fun b h1 h2=>by rw [xAae h2,xAae h1]
 have nt:∀ {b u},H b=some u->(∀ ps,u≠.tbl ps)->b≠P/\b≠c':=fun {b u} e hu=>⟨fun z=>by
  subst z;rw [e] at hP
  exact hu _ (Option.some.inj hP),fun z=>by
  subst z;rw [e] at fc
  cases fc⟩
 refine I.un ⟨fun b o e n _ _=>hx b o (fun z=>by subst z;rw [n] at hP;cases hP) e,fun b o e n _ _=>⟨o.slots,hx b o (fun z=>by subst z;rw [n] at hP;cases hP) e⟩,fun b o e n _=>?_,fun b o e _=>?_,fun b xs e=>?_,fun b o u e=>?_,fun b ps e=>?_,fun b o xs e n=>hx b o (nt n fun ps z=>by cases z).1 e⟩ fun b u e=>?_
 ·rw [oth b (fun z=>by subst z;rw [n] at hP;cases hP) (qi (qq (Heap.lt_size e) hc))];exact n
 ·by_cases z:b=P
  ·subst z;exact ⟨_,ht⟩
  ·exact ⟨o,hx b o z e⟩
 ·obtain ⟨n1,n2⟩:=nt e fun ps z=>by cases z
  rw [oth b n1 n2];exact e
 ·obtain ⟨n1,n2⟩:=nt e fun ps z=>by cases z
  rw [oth b n1 n2];exact e
 ·by_cases z:b=P
  ·subst z
   rw [hP] at e;cases e;exact ⟨more,by rw [xAae nPc,xAad];simp⟩
  ·refine ⟨#[],?_⟩
   rw [oth b z (fun y=>by subst y;rw [fc] at e;cases e),e]
   simp
 ·by_cases zc:b=c'
  ·subst zc
   rw [xAad] at e;cases e;exact xAtc hr
  ·rw [xAae zc] at e
   by_cases z:b=P
   ·subst z
    rw [xAad] at e;cases e;exact ht
   ·rw [xAae z] at e
    refine (I.hok b u e).stay (fun d v hd g=>hx d v ?_ g) (fun d g=>?_) fun d xs g=>?_
    ·rcases hd with hd | hd
     ·rw [hd];exact z
     ·exact (nt hd fun ps y=>by cases y).1
    ·obtain ⟨n1,n2⟩:=nt g fun ps y=>by cases y
     rw [oth d n1 n2];exact g
    ·obtain ⟨n1,n2⟩:=nt g fun ps y=>by cases y
     rw [oth d n1 n2];exact g
end
section
variable {X:Cx} {k:Nat}
end
theorem Fun.okC {P:Program} {w:World} {K:PySem.W.Frag} {mg:Str->Option Value} {base:Heap} {x qual:Str} {st:Stmt} {f:Addr} {fd:FuncData} {N ps:List Str} {k:Nat} {sp:Sp} (F:Fun K x qual st f fd) (S:FnScope N ps (defScope st)) (len:∀ vs H Q E,sp vs H Q E->vs.length=ps.length)
  (hbody:∀ (cdv:Value) (A:Around) (outer:List Env) (s:Shared) (H:Hp) (vs:List V) (Q:VK) (E:XK),fd.code=cdv->Room k (A.deeper (envOfC qual (defScope st) s.heap.objs.size f cdv))->sp vs H Q E →
   ∃ t,PSs (cxOf CX0 P w K mg base N qual (defScope st) f cdv A outer s H E).nox (defBody st) t/\t { nx:=fun _ H'=>Q .non H',rt:=Q } (start N vs) H):FnOk P w K mg base CX0 (k+1) f fd ps sp:=by
 obtain ⟨oc,od,kV,doc,pm,an,cdv,ct,osl,rfl,lk,hcd⟩:=F.ex;refine fn_of lk hcd S len fun A outer s H vs Q E hr hsp=>?_;obtain ⟨t,h,q⟩:=hbody cdv A outer s H vs Q E rfl hr hsp;exact ⟨t,h.nox,q⟩
end L2
namespace Rga
end Rga
namespace L2
open PySem PySem.Spec PySem.W PyProof.Rows
theorem PrsV.tups {H H':Hp} (t:Tups H H'):∀ {ys:List V} {es:List (KD×V×V)},PrsV H ys es->PrsV H' ys es
 | [],[],_=>trivial
 | [],_::_,h=>h.elim
 | _::_,[],h=>h.elim
 | _::_,_::_,h=>⟨let ⟨b,e,h1,h2⟩:=h.1;⟨b,e,t _ _ h1,h2.tups t⟩,PrsV.tups t h.2⟩
theorem PrsV.snoc {H:Hp} {y:V} {e:KD×V×V} (hy:∃ b,y=.ref b/\H b=some (.tup [e.2.1,e.2.2])/\GK H e.1 e.2.1):∀ {ys:List V} {es:List (KD×V×V)},PrsV H ys es->PrsV H (ys++[y]) (es++[e])
 | [],[],_=>⟨hy,trivial⟩
 | [],_::_,h=>h.elim
 | _::_,[],h=>h.elim
 | _::_,_::_,h=>⟨h.1,PrsV.snoc hy h.2⟩
end L2
namespace Rga
end Rga
namespace L2
open PySem PySem.Spec PySem.W PyProof.Rows
section
variable {X:Cx} {tg:Expr}
end
end L2
namespace Rga
open L2
section
variable {bh:Nat->Option Nat} {D:Nat->PySem.PyData} {a b c d x:Nat}
end
end Rga
namespace L2
open PySem PySem.Spec PySem.W PyProof.Rows
def tCut (t u:TS):TS:=fun D σ H=>∃ P:St->Hp->Prop,t { D with nx:=P } σ H/\∀ σ' H',P σ' H'->u D σ' H'
def tPost (t:TT):TT:=fun σ H Q=>∃ P:Bool->Hp->Prop,t σ H P/\∀ b H',P b H'->Q b H'
section
variable {X:Cx} {st:Stmt} {rest:List Stmt} {t u:TS}
theorem xAij (h1:PS X st t) (h2:PSs X rest u):PSs X (st::rest) (tCut t u):=by
 intro pins s σ H D I h;obtain ⟨P,h,k⟩:=h;refine wpAny_execs_cons (thn (h1 pins s σ H { D with nx:=P } I h) fun f s1 q=>?_)
 cases f with
 | next =>
  obtain ⟨σ',H',I',q⟩:=q;exact h2 pins s1 σ' H' D I' (k σ' H' q)
 | ret v=>exact q
 | brk=>exact q
 | cont=>exact q
theorem xAcm {e:Expr} {t:TT} (h:PT X e t):PT X e (tPost t):=by
 intro pins s σ H Q I q;obtain ⟨P,h1,h2⟩:=q;exact thn (h pins s σ H P I h1) fun b s1 ⟨H',I',q⟩=>⟨H',I',h2 _ _ q⟩
end
end L2
namespace L2
open PySem PySem.Spec PyProof.Rows
section
variable {X:Cx}
end
end L2
namespace L2
open PySem PySem.Spec PySem.W PyProof.Rows
section
variable {X:Cx} {pins:List (Addr×Obj)} {σ:St} {H:Hp} {s:Shared}
end
section
variable {prog:Program} {w:World} {A:Around} {E:Value->Shared->Prop} {s:Shared}
theorem xAgv {d:Addr} {od:Obj} {es:Array DictEntry} {ep:Nat} {Q:Value->Shared->Prop} (hs:(d==sysModules)=false) (ho:s.heap.get? d=some od) (hc:od.ExactDict) (hdat:od.data=.dict es ep)
  (hQ:Q (.ref s.heap.objs.size) { s with heap:=s.heap.push { cls:=.type "dict_keyiterator",data:=.fields #[.ref d,.int 0 0,.int es.size 0,.int ep 0] } }):wpAny (model prog w) A (pyIter (.ref d)) Q E s:=by
 have hT:s.TypeIs (.ref d) "dict":=⟨od,ho,hc.1⟩;refine wpAny_pyIter_slot hT F.slot_dict_iter (wpAny_call_entry F.slot_dict_iter hT F.entry_dict_iter ?_ (F.args_dict_iter_1 _));unfold Builtin.«dict.__iter__» Builtin.Dict.dictSlotNone;refine wpAny_bind (wpAny_bind (wpAny_notOrdered_dict hT ?_));refine wpAny_pure (a:=Value.ref d) ?_;show wpAny _ _ (Builtin.Dict.showsAll d >>= _) _ _ s;unfold Builtin.Dict.showsAll;rw [if_neg (by rw [hs];decide)];refine wpAny_bind (wpAny_pure (wpAny_bind (wpAny_dictEntries ho hdat (wpAny_bind (wpAny_dictEpoch ho hdat ?_)))));exact wpAny_bind (wpAny_newObj_type (wpAny_pure ⟨_,rfl,"dict_keyiterator",_,⟨_,Heap.get?_push_size _ rfl,rfl⟩,F.slot_dict_keyiterator_next.lookup,by simpa [rawInt] using hQ⟩))
theorem xAex {it d:Addr} {i n ep:Nat} {od:Obj} {es:Array DictEntry} {Q:Option Value->Shared->Prop} (hh:A.handled=none) (hit:s.heap.IsKeyIter it d i n ep) (hod:s.heap.get? d=some od) (hdd:od.data=.dict es ep) (hn:es.size=n)
  (h1:∀ (hi:i<es.size) h',h'.IsKeyIter it d (i+1) n ep->Heap.SameBut it s.heap h'->Q (some es[i].key) { s with heap:=h' })
  (h2:es.size≤i->∀ h',Heap.ExtBut it s.heap h'->Q none { s with heap:=h' }):wpAny (model prog w) A (pyNext (.ref it)) Q E s:=by
 obtain ⟨o,ho,hc,hd⟩:=id hit;subst hn;unfold pyNext
 refine wpAny_bind (wpAny_attempt (wpAny_callSpecial?_slot (name:=Str.ofString "__next__") hit.typeIs F.slot_dict_keyiterator_next
  (wpAny_call_entry F.slot_dict_keyiterator_next hit.typeIs F.entry_dict_keyiterator_next ?_ (F.args_dict_keyiterator_next_1 _))))
 refine wpAny_bind (wpAny_pure (wpAny_bind (wpAny_bind ?_)))
 first | refine wpAny_bind (wpAny_typeNameOfWhole_keyiter hit.typeIs (wpAny_pure ?_)) | refine wpAny_bind (wpAny_typeNameOf_keyiter hit.typeIs (wpAny_pure ?_))
 refine wpAny_bind (wpAny_fieldsOf ho hd ?_)
 simp only [show Builtin.Dict_items.ownsTuple "dict_keyiterator"=false by decide,Bool.false_eq_true,if_false]
 show wpAny _ _ (if (Value.ref d==Value.none)=true then _ else _) _ _ s;rw [if_neg (show ¬ ((Value.ref d==Value.none)=true) from qm)];refine wpAny_bind (wpAny_pure (wpAny_bind (wpAny_dictEntries hod hdd ?_)));rw [if_neg (by simp)];refine wpAny_bind (wpAny_pure (wpAny_bind (wpAny_dictEpoch hod hdd ?_)));rw [if_neg (by simp)];refine wpAny_pure ?_
 by_cases hi:i<es.size
 ·simp only [show ¬ ((i:Int)<0) from by omega,if_false,Int.toNat_natCast,Array.getElem?_eq_getElem hi]
  refine wpAny_bind ?_
  first | refine wpAny_bind (wpAny_typeNameOfWhole_keyiter hit.typeIs (wpAny_pure ?_)) | refine wpAny_bind (wpAny_typeNameOf_keyiter hit.typeIs (wpAny_pure ?_))
  refine wpAny_bind (wpAny_isOneOf_keyiter hit.typeIs ?_);show wpAny _ _ (setField (.ref it) 1 (rawInt ((i:Int)+1)) >>= _) _ _ s;refine wpAny_bind (wpAny_setField ho hd (by simp) ?_)
  have hit':(s.heap.update it (Obj.mapFields (·.setIfInBounds 1 (rawInt ((i:Int)+1))))).IsKeyIter it d (i+1) es.size ep :=
   ⟨_,Heap.get?_update_self _ ho (Obj.isFreed_of_fields (Obj.data_mapFields hd _)),(Obj.cls_mapFields ..).trans hc,by rw [Obj.data_mapFields hd];simp [rawInt]⟩
  refine wpAny_bind (wpAny_holding (wpAny_bind (wpAny_isOneOf_keyiter (s:={ s with heap:=s.heap.update it (Obj.mapFields (·.setIfInBounds 1 (rawInt ((i:Int)+1)))) }) hit'.typeIs ?_)));show wpAny _ _ (pure es[i].key) _ _ _;exact wpAny_pure (wpAny_pure ⟨_,rfl,wpAny_pure (h1 hi _ hit' (Heap.SameBut.update ..))⟩)
 ·have hge:es.size≤i:=by omega
  simp only [show ¬ ((i:Int)<0) from by omega,if_false,Int.toNat_natCast,Array.getElem?_eq_none hge]
  refine wpAny_bind ?_
  first | refine wpAny_bind (wpAny_typeNameOfWhole_keyiter hit.typeIs (wpAny_pure ?_)) | refine wpAny_bind (wpAny_typeNameOf_keyiter hit.typeIs (wpAny_pure ?_))
  show wpAny _ _ (setField (.ref it) 0 .none >>= _) _ _ s;refine wpAny_bind (wpAny_setField ho hd (by simp) ?_);show wpAny _ _ (newExc (.type "StopIteration") [] >>= _) _ _ _;refine wpAny_bind ?_
  simp only [newExc,newTuple]
  refine wpAny_bind (wpAny_newObj_type ?_ (by size_fits));refine wpAny_bind (m:=firstArgMember _ _) (wpAny_of_eq (a:=Value.none) (by first | rfl | (simp only [firstArgMember];rfl)) ?_);refine wpAny_newObj_type ?_ (by size_fits)
  simp only [raiseNew]
  refine wpAny_bind (wpAny_handled ?_);rw [show A.in1.handled=none from hh];refine wpAny_bind (wpAny_pure (wpAny_throw ?_));refine wpAny_bind (wpAny_isInstance (T:="StopIteration") (b:=true) ⟨_,Heap.get?_push_size _ rfl,rfl⟩ isSubtype_stop ?_);exact wpAny_pure (h2 hge _ (((Heap.SameBut.update ..).extBut.push _).push _))
end
theorem xAey {α β:Type} {F:α->β->Prop}:∀ {l₁:List α} {l₂:List β},Paired F l₁ l₂->∀ (i:Nat) (h1:i<l₁.length) (h2:i<l₂.length),F l₁[i] l₂[i]
 | _,_,.cons r _,0,_,_=>r
 | _,_,.cons _ t,i+1,h1,h2=>xAey t i (w6 h1) (w6 h2)
section
variable {X:Cx} {pins:List (Addr×Obj)} {σ:St} {H:Hp} {s:Shared}
theorem Inv.freezeG {a:Addr} {o:Obj} {kvs:List (KD×V×V)} (I:Inv X pins σ H s) (e:H a=some (.dG kvs)) (ho:s.heap.get? a=some o):Inv X pins σ (upd H a (.frz o (.dG kvs))) s:=by
 refine I.un (t':=s.toks) (h':=s.heap) ⟨fun b ob q _ _ _=>q,fun b ob q _ _ _=>⟨ob.slots,q⟩,fun b ob q n _=>?_,fun b ob q _=>⟨ob,q⟩,fun b xs q=>?_,fun b ob u q=>?_,fun b ps q=>?_,fun b ob xs q n=>q⟩ fun b u q=>?_
 ·rw [xAae (fun z=>by rw [z,e] at n;cases n)];exact n
 ·rw [xAae (fun z=>by rw [z,e] at q;cases q)];exact q
 ·rw [xAae (fun z=>by rw [z,e] at q;cases q)];exact q
 ·exact ⟨#[],by rw [xAae (fun z=>by rw [z,e] at q;cases q),q];simp⟩
 ·have ho':∀ c {d:Addr},H c=some (.own d)->(upd H a (.frz o (.dG kvs))) c=some (.own d):=fun c d q=>by rw [xAae (fun z=>by rw [z,e] at q;cases q)];exact q
  have ht:∀ c xs,H c=some (.tup xs)->(upd H a (.frz o (.dG kvs))) c=some (.tup xs):=fun c xs q=>by rw [xAae (fun z=>by rw [z,e] at q;cases q)];exact q
  by_cases hb:b=a
  ·subst hb
   rw [xAad] at q;cases q;exact ⟨ho,(show ObjOk X.prog X.w H s.heap b (.dG kvs) from I.hok b _ e).stay (fun _ _ _ q=>q) (fun c q=>ho' c q) ht⟩
  ·rw [xAae hb] at q
   exact (I.hok b u q).stay (fun _ _ _ q=>q) (fun c q=>ho' c q) ht
theorem xAef {a:Addr} {o:Obj} {es:Array DictEntry} {ep:Nat} {kvs:List (KD×V×V)} (hd:o.data=.dict es ep) (I:Inv X pins σ H s) (e:H a=some (.frz o (.dG kvs))):s.heap.get? a=some o/\es.size=kvs.length/\∀ i (hi:i<es.size) (hk:i<kvs.length),RelV kvs[i].2.1 es[i].key:=by
 obtain ⟨ho,_,_,xs,pr,o',es',ep',ho',_,hd',he,_⟩:s.heap.get? a=some o/\ObjOk X.prog X.w H s.heap a (.dG kvs):=I.hok a _ e;rw [ho] at ho';cases ho';rw [hd] at hd';injection hd' with hd' _;subst hd'
 have hl:es.toList.length=kvs.length:=by rw [he,qf,pr.length]
 refine ⟨ho,by simpa using hl,fun i hi hk=>?_⟩
 have hx:i<xs.length:=by rw [← pr.length];exact hk
 have rel:=xAey pr i hk hx
 have ek:es[i].key=xs[i].2.1:=by
  have h1:es.toList[i]?=some es[i]:=by simp [hi]
  rw [he,qu,qe hx] at h1;rw [← Option.some.inj h1];rfl
 rw [ek];exact rel.2.2.1
end
def ItG (a:Addr) (o:Obj) (kvs:List (KD×V×V)):It :=
 ⟨fun i H=>H a=some (.frz o (.dG kvs))/\i<kvs.length,fun i H x H'=>H'=H/\∃ e,kvs[i]?=some e/\x=e.2.1,fun i H=>H a=some (.frz o (.dG kvs))/\kvs.length≤i⟩
theorem xAlz {P:Program} {w:World} {K:PySem.W.Frag} {tg:Expr} (a it:Addr) {o:Obj} {es:Array DictEntry} {ep:Nat} {kvs:List (KD×V×V)} (hd:o.data=.dict es ep):Turn P w K tg (ItG a o kvs) [it] it (fun i h=>h.IsKeyIter it a i kvs.length ep) where
 mem:=by simp
 obj:=fun i h st b hb=>by
  have e:b=it:=by simpa using hb
  subst e;obtain ⟨o,e,c,d⟩:=st;exact ⟨o,e,fun v z=>by rw [d] at z;cases z⟩
 keep:=fun i h h' st k=>st.at fun o e=>k it (by simp) o e
 item:=by
  intro X hP hw hK hc i pins s σ H E I hf st hg;subst hP hw hK;obtain ⟨he,hi⟩:=hg;obtain ⟨ho,hl,rel⟩:=xAef hd I he;obtain ⟨f0,f1,f2,f3,f4,f5⟩:=hf it (by simp)
  refine xAex (I.ok.hd hc) st ho hd hl (fun hi' h' st' sb=>?_) fun z=>absurd hi (by omega)
  have I1:Inv X pins σ H { s with heap:=h' }:=I.turned (t':=s.toks) (fun b o hb e=>(sb.2 b hb).trans e) f0 f1 f3 f4 f5;obtain ⟨ob,e,c,d⟩:=id st';exact ⟨es[i].key,rfl,go_of (s:={ s with heap:=h' }) e c d (by decide) ⟨kvs[i].2.1,H,I1,rel i hi' hi,⟨rfl,kvs[i],qe hi,rfl⟩,st',fun b hb=>(hf b hb).1⟩⟩
 done:=by
  intro X hP hw hK hc i pins s σ H E I hf st hg;subst hP hw hK;obtain ⟨he,hi⟩:=hg;obtain ⟨ho,hl,rel⟩:=xAef hd I he;obtain ⟨f0,f1,f2,f3,f4,f5⟩:=hf it (by simp);exact xAex (I.ok.hd hc) st ho hd hl (fun hi'=>absurd hi' (by omega)) fun _ h' eb=>⟨rfl,I.turned (t':=s.toks) (fun b o hb e=>eb b o hb e) f0 f1 f3 f4 f5⟩
 self:=fun _ _ _ _ _ st h=>wpAny_pyIter_keyiter st h
def iKeysG (tl:TE):TI:=fun σ H R=>tl σ H fun x H1=>∃ a kvs,x=.ref a/\((H1 a=some (.dG kvs)/\∀ o,R (ItG a o kvs) (upd H1 a (.frz o (.dG kvs))))\/∃ o,H1 a=some (.frz o (.dG kvs))/\R (ItG a o kvs) H1)
section
variable {X:Cx} {tg:Expr}
theorem xAco {l:Expr} {tl:TE} (hl:PE X l tl):PI X tg l (iKeysG tl):=by
 intro pins s σ H R I h;refine thn (hl pins s σ H _ I h) fun v s1 ⟨x,H1,I1,r1,q1⟩=>?_;obtain ⟨a,kvs,e,q⟩:=q1;subst e;cases r1
 have main:∀ (H2:Hp) (o:Obj),Inv X pins σ H2 s1->H2 a=some (.frz o (.dG kvs))->R (ItG a o kvs) H2->wpAny (model X.prog X.w) X.A (pyIter (.ref a)) (PIE X pins σ tg R) X.xe s1:=fun H2 o I2 e2 q2=>by
  obtain ⟨ho,_,hsm,xs,_,o',es,ep,ho',hc,hd,_,_⟩:s1.heap.get? a=some o/\ObjOk X.prog X.w H2 s1.heap a (.dG kvs):=I2.hok a _ e2;rw [ho] at ho';cases ho';obtain ⟨_,hlen,_⟩:=xAef hd I2 e2;refine xAgv hsm ho hc hd ?_;refine ⟨s1.heap.objs.size,[s1.heap.objs.size],_,_,H2,rfl,I2.kept (t':=s1.toks) fun b o e=>Heap.get?_push_of_some _ e,xAlz a _ hd,⟨_,Heap.get?_push_size _ rfl,rfl,by rw [hlen];rfl⟩,fun b hb=>?_,q2⟩
  have e:b=s1.heap.objs.size:=by simpa using hb
  subst e;exact I2.fpOk (qc _) (I2.hok.fresh (qc _))
 rcases q with ⟨ea,q⟩ | ⟨o,ea,q⟩
 ·obtain ⟨_,_,xs,_,o,es,ep,ho,_⟩:=(show ObjOk X.prog X.w H1 s1.heap a (.dG kvs) from I1.hok a _ ea)
  exact main _ o (I1.freezeG ea ho) xAad (q o)
 ·exact main _ o I1 ea q
end
theorem xAca {a:Addr} {o:Obj} {kvs:List (KD×V×V)} {g:TG} {tb:TS} {D:Ends} {σ:St} {H:Hp} (Pv:Nat->St->Hp->Prop) (h0:Pv 0 σ H) (hl:∀ i σ H,Pv i σ H->H a=some (.frz o (.dG kvs)))
  (hs:∀ i e σ H,kvs[i]?=some e->Pv i σ H->g e.2.1 σ H fun σ2 H2=>tb { D with nx:=Pv (i+1),ct:=Pv (i+1),bk:=D.nx } σ2 H2) (hd:∀ σ H,Pv kvs.length σ H->D.nx σ H) :
  ∃ W:Nat->Nat->St->Hp->Prop,(∃ m,W 0 m σ H)/\∀ i m σ H,W i m σ H →
   ((ItG a o kvs).stop i H/\D.nx σ H)\/((ItG a o kvs).go i H/\∃ N:St->Hp->Prop,(∀ σ' H',N σ' H'->∃ m',m'<m/\W (i+1) m' σ' H')/\∀ x H',(ItG a o kvs).yld i H x H'->g x σ H' fun σ2 H2=>tb { D with nx:=N,ct:=N,bk:=D.nx } σ2 H2):=by
 refine ⟨fun i m σ H=>m=kvs.length - i/\i≤kvs.length/\Pv i σ H,⟨kvs.length,by simp,Nat.zero_le _,h0⟩,?_⟩;rintro i m σ H ⟨rfl,hi,p⟩
 by_cases hlt:i<kvs.length
 ·refine .inr ⟨⟨hl i σ H p,hlt⟩,Pv (i+1),fun σ' H' p'=>⟨kvs.length - (i+1),by omega,rfl,hlt,p'⟩,fun x H' y=>?_⟩
  obtain ⟨e,k,hk,rfl⟩:=y;subst e;exact hs i k σ _ hk p
 ·have e:i=kvs.length:=by omega
  subst e;exact .inl ⟨⟨hl _ σ H p,qc _⟩,hd σ H p⟩
section
variable {P:Program} {w:World} {A:Around} {E:Value->Shared->Prop} {s:Shared}
theorem xAik {α:Type} {l:List α} {i:Nat} (h:i<l.length):l.drop i=l[i]::l.drop (i+1):=z9 h
theorem xAeg {h:Heap}:∀ {vs:List Value} {ds:List PyData} {as:List Addr},ReadsAll h vs ds as->vs.length=ds.length/\∀ (i:Nat) (h1:i<vs.length) (h2:i<ds.length),∃ bs,Reads h vs[i] ds[i] bs
 | _,_,_,.nil=>⟨rfl,fun i h1=>absurd h1 (zk i)⟩
 | _,_,_,.cons r t=>⟨by rw [qx,qx,(xAeg t).1],fun i h1 h2=>by
  cases i with
  | zero=>exact ⟨_,r⟩
  | succ i=>exact (xAeg t).2 i (w6 h1) (w6 h2)⟩
theorem xAez:∀ {ds:List PyData},PyData.canLayAll0 ds=true->∀ {i:Nat} (h:i<ds.length),ds[i].canLay0=true
 | d::ds,l,i,h=>by
  have l:(d.canLay0&&PyData.canLayAll0 ds)=true:=l;rw [za] at l
  cases i with
  | zero=>exact l.1
  | succ i=>exact xAez l.2 (w6 h)
theorem xAil:∀ {ds:List PyData} {i:Nat} (h:i<ds.length),ds[i].depth≤PyData.depthAll ds
 | d::ds,i,h=>by
  show _≤max d.depth (PyData.depthAll ds)
  cases i with
  | zero=>exact Nat.le_max_left _ _
  | succ i=>exact qk (xAil (w6 h)) (Nat.le_max_right _ _)
theorem pairsG {nm:String} {a b:Addr} {xa xb:List (KD×Value×Value)} {da db:List PyData} {as bs:List Addr} {Q:Bool->Shared->Prop} (hu:A.units+1<cLine) (ha:(a==sysModules)=false) (hb:(b==sysModules)=false)
  (ga:GDict P w s.heap a xa) (gb:GDict P w s.heap b xb) (hk:xa.map (·.1)=xb.map (·.1)) (ra:ReadsAll s.heap (xa.map (·.2.2)) da as) (rb:ReadsAll s.heap (xb.map (·.2.2)) db bs)
  (la:PyData.canLayAll0 da=true) (lb:PyData.canLayAll0 db=true) (hd:A.units+PyData.depthAll da<cLine) (h:Q (PyData.eqvAll da db) s):wpAny (model P w) A (Builtin.Dict.samePairs nm a b) Q E s:=by
 obtain ⟨oa,es,ep,hoa,_,hda,hea,hia,hna⟩:=ga;obtain ⟨ob,es',ep',hob,_,hdb,heb,hib,hnb⟩:=gb
 have sza:es.size=xa.length:=by rw [← q9,hea,qf]
 have szb:es'.size=xb.length:=by rw [← q9,heb,qf]
 have hl:xa.length=xb.length:=by simpa using congrArg List.length hk
 have la1:xa.length=da.length:=by simpa using (xAeg ra).1
 have lb1:xb.length=db.length:=by simpa using (xAeg rb).1
 have ata:∀ i (hi:i<xa.length) (hi':i<es.size),es[i]=gEnt P w xa[i]:=fun i hi hi'=>by
  have:es.toList[i]?=(xa.map (gEnt P w))[i]?:=by rw [hea]
  rw [qu,qe hi,z3,zx hi'] at this;exact Option.some.inj this
 have atb:∀ i (hi:i<xb.length) (hi':i<es'.size),es'[i]=gEnt P w xb[i]:=fun i hi hi'=>by
  have:es'.toList[i]?=(xb.map (gEnt P w))[i]?:=by rw [heb]
  rw [qu,qe hi,z3,zx hi'] at this;exact Option.some.inj this
 have alike:∀ i (h1:i<xa.length) (h2:i<xb.length) (h3:i<da.length) (h4:i<db.length),SeqAt.EqAt A s xa[i].2.2 xb[i].2.2 (PyData.eqv da[i] db[i]):=fun i h1 h2 h3 h4=>by
  obtain ⟨_,r1⟩:=(xAeg ra).2 i (by simpa using h1) h3;obtain ⟨_,r2⟩:=(xAeg rb).2 i (by simpa using h2) h4;rw [y0] at r1 r2;have l1:da[i].canLay0=true:=xAez la h3;have l2:db[i].canLay0=true:=xAez lb h4;exact SeqAt.eqAt_reads _ _ A s _ _ _ _ r1 r2 l1 l2 (by have:=xAil h3;omega)
 unfold Builtin.Dict.samePairs Builtin.Dict.showsAll;rw [if_neg (by rw [ha];decide),if_neg (by rw [hb];decide)];refine wpAny_bind (wpAny_pure (wpAny_bind (wpAny_pure (wpAny_bind (wpAny_dictEntries hoa hda ?_)))));dsimp only;refine wpAny_bind (wpAny_dictEntries hob hdb ?_);rw [if_neg (by rw [sza,szb,hl];simp)];refine wpAny_bind (wpAny_dictEpoch hoa hda (wpAny_bind ?_));rw [Std.Legacy.Range.forIn_eq_forIn_range']
 simp only [Std.Legacy.Range.size,Nat.sub_zero,Nat.add_sub_cancel,Nat.div_one]
 refine wpAny_forIn_list _ (fun rest q s'=>s'=s/\q=(none,())/\∃ i,rest=List.range' i (es.size - i)/\i≤es.size/\PyData.eqvAll (da.drop i) (db.drop i)=PyData.eqvAll da db) _ ?_ ?_ _ _ ⟨rfl,rfl,0,by simp,Nat.zero_le _,rfl⟩
 ·rintro x rest q s' ⟨rfl,rfl,i,hr,hi,hpre⟩
  have hlt:i<es.size:=by
   rcases z8 i es.size with h | h
   ·exact h
   ·rw [Nat.sub_eq_zero_of_le h] at hr;simp at hr
  obtain ⟨rfl,hrest⟩:x=i/\rest=List.range' (i+1) (es.size - (i+1)):=by
   rw [show es.size - i=(es.size - (i+1))+1 by omega,List.range'_succ] at hr;injection hr with h1 h2;exact ⟨h1,h2⟩
  have i1:x<xa.length:=by omega
  have i2:x<xb.length:=by omega
  have i3:x<da.length:=by omega
  have i4:x<db.length:=by omega
  refine wpAny_bind (wpAny_dictEntries hoa hda ?_);rw [zx hlt];show wpAny _ _ (holding [es[x].key,es[x].val] _ >>= _) _ _ _;rw [ata x i1 hlt];refine wpAny_bind (wpAny_holding (wpAny_bind (xAnt hu (hia _ (zw i1)) hob hdb heb hib hnb ?_)))
  have ek:xb[x].1=xa[x].1:=by
   have:=congrArg (fun l=>l[x]?) hk
   simp only [List.getElem?_map,List.getElem?_eq_getElem i1,List.getElem?_eq_getElem i2,Option.map_some,Option.some.injEq] at this
   exact this.symm
  rw [xAeu hnb (qe i2) ek];refine wpAny_bind (wpAny_dictEntries hob hdb ?_)
  have i2':x<es'.size:=by omega
  rw [zx i2',atb x i2 i2'];rw [xAik i3,xAik i4] at hpre;have hpre:(PyData.eqv da[x] db[x]&&PyData.eqvAll (da.drop (x+1)) (db.drop (x+1)))=PyData.eqvAll da db:=hpre;refine wpAny_holding (alike x i1 i2 i3 i4 P w _ _ ?_)
  cases e:PyData.eqv da[x] db[x] with
  | false =>
   rw [e,Bool.false_and] at hpre;rw [← hpre] at h;show wpAny _ _ (if (!false)=true then _ else _) _ _ _;rw [if_pos (by decide)];exact wpAny_pure (wpAny_pure h)
  | true =>
   rw [e,Bool.true_and] at hpre;show wpAny _ _ (if (!true)=true then _ else _) _ _ _;rw [if_neg (by decide)];refine wpAny_bind (wpAny_dictEpoch hoa hda ?_);rw [if_neg (by simp)];exact wpAny_pure ⟨rfl,rfl,x+1,hrest,hlt,hpre⟩
 ·rintro q s' ⟨rfl,rfl,i,hr,hi,hpre⟩
  have hin:i=es.size:=by
   rcases z8 i es.size with h | h
   ·rw [show es.size - i=(es.size - (i+1))+1 by omega,List.range'_succ] at hr
    exact nomatch hr
   ·exact Nat.le_antisymm hi h
  refine wpAny_pure ?_;rw [hin,yd (by omega),yd (by omega)] at hpre;rw [← hpre] at h;exact h
theorem xAoc {nm:String} {a b:Addr} {xa xb:List (KD×Value×Value)} {Q:Bool->Shared->Prop} (ha:(a==sysModules)=false) (hb:(b==sysModules)=false)
  (ga:GDict P w s.heap a xa) (gb:GDict P w s.heap b xb) (hl:xa.length≠xb.length) (h:Q false s):wpAny (model P w) A (Builtin.Dict.samePairs nm a b) Q E s:=by
 obtain ⟨oa,es,ep,hoa,_,hda,hea,_⟩:=ga;obtain ⟨ob,es',ep',hob,_,hdb,heb,_⟩:=gb
 have sza:es.size=xa.length:=by rw [← q9,hea,qf]
 have szb:es'.size=xb.length:=by rw [← q9,heb,qf]
 unfold Builtin.Dict.samePairs Builtin.Dict.showsAll;rw [if_neg (by rw [ha];decide),if_neg (by rw [hb];decide)];refine wpAny_bind (wpAny_pure (wpAny_bind (wpAny_pure (wpAny_bind (wpAny_dictEntries hoa hda ?_)))));dsimp only;refine wpAny_bind (wpAny_dictEntries hob hdb ?_);rw [if_pos (by rw [sza,szb];simpa using hl)];exact wpAny_bind (wpAny_rule (wpAny_pure h))
theorem neG {a b:Addr} {xa xb:List (KD×Value×Value)} {r:Bool} {Q:Value->Shared->Prop} (hu:A.units<cLine) (ga:GDict P w s.heap a xa) (gb:GDict P w s.heap b xb)
  (hp:∀ (nm:String) (Q':Bool->Shared->Prop) E',Q' r s->wpAny (model P w) A.in1 (Builtin.Dict.samePairs nm a b) Q' E' s) (h:Q (.bool (!r)) s):wpAny (model P w) A (compareOp .NotEq (.ref a) (.ref b)) Q E s:=by
 refine wpAny_richCompare_same_room (op:=.NotEq) ga.typeIs gb.typeIs PySem.F.slot_dict_ne (wpAny_call_entry PySem.F.slot_dict_ne ga.typeIs PySem.F.entry_dict_ne ?_ (PySem.F.args_dict_ne_2 _ _)) hu;show wpAny _ _ (Builtin.Dict.dictSlotArgs "__ne__" ⟨[.ref a,.ref b],[]⟩ >>= _) _ _ s;unfold Builtin.Dict.dictSlotArgs;refine wpAny_bind (wpAny_bind (wpAny_notOrdered_dict ga.typeIs ?_));refine wpAny_pure (a:=(Value.ref a,Value.ref b)) ?_;refine wpAny_bind (wpAny_isInstance (T:="dict") gb.typeIs PySem.F.sub_dict_dict ?_)
 simp only [Bool.not_true,Bool.false_eq_true,if_false]
 refine wpAny_bind (wpAny_pure (wpAny_bind (wpAny_pure (wpAny_bind (hp _ _ _ ?_)))));exact wpAny_pure ⟨_,rfl,(fun x=>nomatch x),by simpa using h⟩
end
theorem xAim {H:Hp} {ka:List (KD×V×V)} {xa:List (KD×Value×Value)} (h:Paired (GP H) ka xa):Vals (ka.map (·.2.2)) (xa.map (·.2.2))/\xa.map (·.1)=ka.map (·.1):=by
 induction h with
 | nil=>exact ⟨.nil,rfl⟩
 | cons a _ ih=>exact ⟨.cons a.2.2.2 ih.1,by rw [qz,qz,ih.2,a.1]⟩
def rDictEqG (K:PySem.W.Frag) (u:Nat) (neg:Bool):R2:=fun x y H Q=>∃ a b ka kb,x=.ref a/\y=.ref b/\Rd H a (.dG ka)/\Rd H b (.dG kb) ∧
 ((ka.length≠kb.length/\Q (.bl neg) H)\/∃ da db,ka.map (·.1)=kb.map (·.1)/\DVs K H (ka.map (·.2.2)) da/\DVs K H (kb.map (·.2.2)) db/\PyData.canLayAll0 da=true/\PyData.canLayAll0 db=true/\PyData.depthAll da+1≤u ∧
  Q (.bl (if neg then !PyData.eqvAll da db else PyData.eqvAll da db)) H)
section
variable {X:Cx}
theorem op_neG {u:Nat} (hu2:X.A.units+2<cLine) (hu:X.A.units+u<cLine):OpR X (compareOp .NotEq) (rDictEqG X.K u true):=by
 intro pins s σ H x y v w Q I rx ry h;obtain ⟨a,b,ka,kb,rfl,rfl,ea,eb,h⟩:=h;cases rx;cases ry;obtain ⟨_,ha,xa,pa,ga⟩:=gd_rd I ea;obtain ⟨_,hb,xb,pb,gb⟩:=gd_rd I eb;have la:=pa.length;have lb:=pb.length;rcases h with ⟨hl,q⟩ | ⟨da,db,hk,va,vb,l1,l2,hd,q⟩
 ·exact neG (r:=false) (by omega) ga gb (fun nm Q' E' h'=>xAoc ha hb ga gb (by omega) h') ⟨.bl true,H,I,rfl,q⟩
 ·obtain ⟨as,qa⟩:=va.reads I (xAim pa).1
  obtain ⟨bs,qb⟩:=vb.reads I (xAim pb).1;exact neG (by omega) ga gb (fun nm Q' E' h'=>pairsG (by show X.A.units+1+1<cLine;omega) ha hb ga gb ((xAim pa).2.trans (hk.trans (xAim pb).2.symm)) qa qb l1 l2 (by show X.A.units+1+_<cLine;omega) h') ⟨.bl _,H,I,rfl,q⟩
end
section
variable {P:Program} {w:World} {A:Around} {E:Value->Shared->Prop} {s:Shared}
end
section
variable {X:Cx}
end
section
variable {prog:Program} {w:World} {A:Around} {E:Value->Shared->Prop} {s:Shared}
theorem xAin {it d:Addr} {od:Obj} {es:Array DictEntry} {ep:Nat} (hh:A.handled=none) (hne:it≠d) (hdat:od.data=.dict es ep) :
  WalksS prog w A it [it,d] [it] Eq es.size (fun j v=>(es[j]?).map (·.key)=some v) (fun i s=>s.heap.IsKeyIter it d i es.size ep/\s.heap.get? d=some od) where
 sub:=fun b hb=>by rw [qj.mp hb];exact qh
 grefl:=fun _=>rfl
 gtrans:=fun _ _ _ h1 h2=>h1.trans h2
 frame:=fun i s h' tk ⟨⟨o,e,c,dd⟩,e2⟩ _ k=>⟨⟨o,k it qh o e,c,dd⟩,k d (qr _ qh) od e2⟩
 item:=fun i s Q E hi ⟨st,e2⟩ k=>xAex hh st e2 hdat rfl (fun hi' h' st' sb=>k _ _ (by rw [zx hi'];rfl) ⟨st',(sb.2 d hne.symm).trans e2⟩ ⟨fun b o hb e=>(sb.2 b (fun z=>hb (by rw [z];exact qh))).trans e,rfl,rfl,rfl,qc _⟩) fun z=>absurd hi (by omega)
 done:=fun s Q E ⟨st,e2⟩ k=>xAex hh st e2 hdat rfl (fun hi'=>absurd hi' (by omega)) fun _ h' eb=>k _ ⟨fun b o hb e=>eb b o (fun z=>hb (by rw [z];exact qh)) e,rfl,rfl,rfl,qc _⟩
 self:=fun i s Q E ⟨st,_⟩ h=>wpAny_pyIter_keyiter st h
theorem xAfz {es:Array DictEntry} {acc:Array Value} (h:ItemsOf (fun j v=>(es[j]?).map (·.key)=some v) acc es.size):acc.toList=es.toList.map (·.key):=by
 apply w5;intro j
 by_cases hj:j<acc.size
 ·have hj':j<es.size:=by rw [← h.1];exact hj
  have:=h.2 j acc[j] (zx hj);rw [z3,zx hj,qu,z3];exact this.symm
 ·have hj':¬ j<es.size:=by rw [← h.1];exact hj
  rw [vw (by rw [q9];omega),vw (by rw [qf,q9];omega)]
theorem xAgw {d:Addr} {od:Obj} {es:Array DictEntry} {ep:Nat} {Q:List Value->Shared->Prop} (hh:A.handled=none) (hs:(d==sysModules)=false) (ho:s.heap.get? d=some od) (hc:od.ExactDict) (hdat:od.data=.dict es ep) (hz:es.size≤sizeLine)
  (hQ:∀ s',Moved [] Eq s s'->Q (es.toList.map (·.key)) s'):wpAny (model prog w) A (collect (.ref d)) Q E s:=by
 unfold collect;refine wpAny_bind (wpAny_runValue (codeAny_builtin F.entry_proto_collect ?_));rw [Around.under_plainId F.plain_proto_collect _];show wpAny _ A.in1 (newList [] >>= fun l=>again (.builtin "list.__iadd__" ⟨[l,.ref d],[]⟩)) _ _ s;refine wpAny_bind (wpAny_newObj_type ?_);refine wpAny_pure ⟨plainId_quiet F.plain_list_iadd _,codeAny_builtin F.entry_list_iadd ?_⟩;rw [Around.under_plainId F.plain_list_iadd _];have ho1:(s.heap.push { cls:=.type "list",data:=.seq ([]:List Value).toArray }).get? d=some od:=Heap.get?_push_of_some _ ho;have hT:Shared.TypeIs { s with heap:=s.heap.push { cls:=.type "list",data:=.seq ([]:List Value).toArray } } (.ref d) "dict":=⟨od,ho1,hc.1⟩
 have hlt:d<s.heap.objs.size:=by
  rcases z8 d s.heap.objs.size with h | h
  ·exact h
  ·exfalso
   have:s.heap.get? d=none:=by
    unfold Heap.get?;rw [jq h]
   rw [this] at ho;cases ho
 have h1:Builtin.List.listSameRef (.ref s.heap.objs.size) (.ref d)=false:=by
  show (s.heap.objs.size==d)=false;exact beq_eq_false_iff_ne.mpr (zi hlt)
 show wpAny _ A.in1 (Builtin.List.listExtendWith (.ref s.heap.objs.size) (.ref d) (.ref s.heap.objs.size)) _ _ _;unfold Builtin.List.listExtendWith;refine wpAny_bind (wpAny_typeOf hT ?_);rw [if_neg (by rw [h1];decide)];refine wpAny_bind (xAgv hs ho1 hc hdat ?_);refine wpAny_bind (wpAny_holding ?_);generalize hp2:(s.heap.push { cls:=.type "list",data:=.seq ([]:List Value).toArray }).push { cls:=.type "dict_keyiterator",data:=.fields #[.ref d,.int 0 0,.int es.size 0,.int ep 0] }=h2
 have ho2:h2.get? d=some od:=by rw [← hp2];exact Heap.get?_push_of_some _ ho1
 have hT2:Shared.TypeIs { s with heap:=h2 } (.ref d) "dict":=⟨od,ho2,hc.1⟩;unfold Builtin.List.listLengthHint;refine wpAny_bind (wpAny_specialOf (name:=Str.ofString "__len__") hT2 F.slot_dict_len.lookup ?_);generalize hid:("dict.__len__":String)=id0
 wp_delta
 rw [show splitId id0=some ("dict","__len__") from by subst hid;decide +kernel];subst hid;refine wpAny_bind (wpAny_isInstance (T:="dict") hT2 PySem.F.sub_dict_dict ?_);rw [if_neg (by decide)]
 wp_delta
 rw [if_pos (by decide +kernel)];refine wpAny_bind (wpAny_typeOf hT2 (wpAny_pure ?_));rw [if_pos (by decide +kernel)]
 have hS2:h2.get? s.heap.objs.size=some { cls:=.type "list",data:=.seq ([]:List Value).toArray }:=by rw [← hp2];exact Heap.get?_push_of_some _ (Heap.get?_push_size _ rfl)
 refine wpAny_bind (wpAny_rule (wpAny_bind ?_));unfold Builtin.List.listTouch;refine wpAny_bind (listUpdate_at hS2 rfl ?_);obtain ⟨c1,hS3⟩:∃ c1,(h2.update s.heap.objs.size (Obj.mapSeq (·.push Value.none))).get? s.heap.objs.size=some (seqObj "list" #[Value.none] c1):=⟨_,get?_update_seq hS2 _⟩;have keep3:∀ b o,b≠s.heap.objs.size->h2.get? b=some o->(h2.update s.heap.objs.size (Obj.mapSeq (·.push Value.none))).get? b=some o:=fun b o hb e=>(Heap.get?_update_other _ _ (fun z=>hb z.symm)).trans e;generalize h2.update s.heap.objs.size (Obj.mapSeq (·.push Value.none))=h3 at hS3 keep3;refine listUpdate_at (s:={ s with heap:=h3 }) hS3 rfl ?_;obtain ⟨c2,hS4⟩:∃ c2,(h3.update s.heap.objs.size (Obj.mapSeq (·.pop))).get? s.heap.objs.size=some (seqObj "list" #[] c2):=⟨_,get?_update_seq hS3 _⟩;have keep4:∀ b o,b≠s.heap.objs.size->h2.get? b=some o->(h3.update s.heap.objs.size (Obj.mapSeq (·.pop))).get? b=some o:=fun b o hb e=>(Heap.get?_update_other _ _ (fun z=>hb z.symm)).trans (keep3 b o hb e);show wpAny _ _ _ _ _ { s with heap:=h3.update s.heap.objs.size (Obj.mapSeq (·.pop)) };generalize h3.update s.heap.objs.size (Obj.mapSeq (·.pop))=h4 at hS4 keep4;have hsz:(s.heap.push { cls:=.type "list",data:=.seq ([]:List Value).toArray }).objs.size=s.heap.objs.size+1:=size_push' _ _
 have hit2:h2.get? (s.heap.objs.size+1)=some { cls:=.type "dict_keyiterator",data:=.fields #[.ref d,.int 0 0,.int es.size 0,.int ep 0] }:=by rw [← hp2,← hsz];exact Heap.get?_push_size _ rfl
 show wpAny _ _ (again (Code.builtin "list.extend.loop" ⟨[Value.ref s.heap.objs.size,Value.ref (s.heap.push { cls:=.type "list",data:=.seq ([]:List Value).toArray }).objs.size,Value.ref s.heap.objs.size],[]⟩)) _ _ _;rw [hsz];have W:=xAin (prog:=prog) (w:=w) (A:=A.in1) (it:=s.heap.objs.size+1) (d:=d) (od:=od) (es:=es) (ep:=ep) hh (zi (z7 hlt)) hdat;refine wpAny_pure ⟨plainId_quiet F.plain_extend_loop _,codeAny_extend_loopS W hz s.heap.objs.size (fun z=>?_) _ es.size 0 { s with heap:=h4 } #[] c2 rfl (q5 _) ⟨⟨_,keep4 _ _ (vx _) hit2,rfl,rfl⟩,keep4 _ _ (qi hlt) ho2⟩ hS4 (ItemsOf.nil _) fun s' acc' c' hm hS' hacc=>?_⟩
 ·simp only [List.mem_cons,List.not_mem_nil,or_false] at z
  rcases z with z | z
  ·exact vx _ z.symm
  ·exact zi hlt z
 ·show wpAny _ A (load s.heap.objs.size >>= _) _ _ s'
  refine wpAny_bind (wpAny_load hS' ?_);show wpAny _ _ (pure acc'.toList) Q E s';rw [xAfz hacc];refine wpAny_pure (hQ s' ⟨fun b o _ e=>?_,hm.gens,hm.drawn,hm.os,hm.toks⟩)
  have hb:b<s.heap.objs.size:=by
   rcases z8 b s.heap.objs.size with h | h
   ·exact h
   ·exfalso
    have:s.heap.get? b=none:=by
     unfold Heap.get?;rw [jq h]
    rw [this] at e;cases e
  refine hm.heap b o (fun z=>?_) (keep4 b o (qi hb) ?_)
  ·simp only [List.mem_cons,List.not_mem_nil,or_false] at z
   rcases z with z | z
   ·exact qi hb z
   ·exact qi (z7 hb) z
  ·rw [← hp2]
   exact Heap.get?_push_of_some _ (Heap.get?_push_of_some _ e)
theorem xAjp {d:Addr} {od:Obj} {es:Array DictEntry} {ep:Nat} {vs:List Value} {Q:Value->Shared->Prop} {lt:Nat->Nat->Bool} (W:Srt.Swo lt) (hh:A.handled=none) (hs:(d==sysModules)=false) (ho:s.heap.get? d=some od) (hc:od.ExactDict) (hdat:od.data=.dict es ep) (hv:es.toList.map (·.key)=vs)
  (hz2:vs.length≤2000) (h64:Few lt vs.length)
  (hans:∀ s',Moved [] Eq s s'->∀ h',Ext s'.heap h'->2≤vs.length->Answers prog w A.in1.in1 { s' with heap:=h' } vs lt)
  (h:∀ s' h' a p c,Moved [] Eq s s'->Ext s'.heap h'->s'.heap.objs.size≤a->Arr vs.length lt p->h'.get? a=some (seqObj "list" (List.toArray (p.toList.map fun i=>vs.getD i Value.none)) c)->Q (.ref a) { s' with heap:=h' }) :
  wpAny (model prog w) A (call (.builtin "sorted") [.ref d]) Q E s:=by
 have hl:es.size=vs.length:=by rw [← hv,qf,q9]
 have zl:vs.length≤sizeLine:=by rw [sizeLine_eq];omega
 refine Calls.call_function_entry kind_sorted plain_sorted entry_sorted (args_sorted1 _) ?_;unfold Builtin.«sorted»;refine wpAny_bind (m:=checkCount "sorted" 1 1 _) (wpAny_pure (wpAny_bind (xAgw hh hs ho hc hdat (by omega) fun s' hm=>?_)));rw [hv];refine wpAny_bind (wpAny_newList ?_ zl);have x1:Ext s'.heap (s'.heap.push (seqObj "list" vs.toArray 0)):=.push _ _;have o1:(s'.heap.push (seqObj "list" vs.toArray 0)).get? s'.heap.objs.size=some (seqObj "list" vs.toArray 0):=Heap.get?_push_size _ rfl;show wpAny (model prog w) _ _ _ _ { s' with heap:=s'.heap.push (seqObj "list" vs.toArray 0) };refine wpAny_bind (wpAny_holding (wpAny_call_entry slot_list_sort ⟨_,o1,rfl⟩ entry_list_sort (xAdo W o1 hz2 h64 (h0:=s'.heap) (qc _) x1 (hans s' hm) fun h' p c x ar e=>?_) (args_list_sort _)));exact ⟨_,rfl,wpAny_pure ⟨_,rfl,h s' h' _ p c hm x (qc _) ar e⟩⟩
end
theorem Inv.moved {X:Cx} {pins:List (Addr×Obj)} {σ:St} {H:Hp} {s s':Shared} (I:Inv X pins σ H s) (m:Moved [] Eq s s'):Inv X pins σ H s':=by
 have e:s'={ s with heap:=s'.heap,toks:=s'.toks }:=by
  obtain ⟨h1,h2,h3,h4,h5⟩:=m;cases s;cases s';cases h2;cases h3;cases h4;rfl
 rw [e]
 exact I.kept (t':=s'.toks) fun b o q=>m.heap b o (by simp) q
def rSortG (K:PySem.W.Frag):List V->Hp->VK->Prop:=fun xs H Q=>∃ p kvs ds t,xs=[.ref p]/\Rd H p (.dG kvs)/\DVs K H (kvs.map (·.2.1)) ds/\KeysAre ds t/\kvs.length<64 ∧
 ∀ q H' ix,H q=none->Same H H'->SortIx ds ix->H' q=some (.lst (ix.map fun i=>(kvs.map (·.2.1)).getD i .non))->Q (.ref q) H'
section
variable {X:Cx}
theorem xAjq {pins:List (Addr×Obj)} {σ:St} {H:Hp} {s:Shared} {p:Addr} {od:Obj} {es:Array DictEntry} {ep:Nat} {ys:List V} {its:List Value} {ds:List PyData} {t:_} {Q:VK} (hu:X.A.units+3+61<cLine) (hh:X.A.handled=none) (I:Inv X pins σ H s)
  (hs:(p==sysModules)=false) (ho:s.heap.get? p=some od) (hc:od.ExactDict) (hdat:od.data=.dict es ep) (hv:es.toList.map (·.key)=its) (rv:Vals ys its) (hd:DVs X.K H ys ds) (hk:KeysAre ds t) (h64:ys.length<64)
  (q:∀ q H' ix,H q=none->Same H H'->SortIx ds ix->H' q=some (.lst (ix.map fun i=>ys.getD i .non))->Q (.ref q) H') :
  wpAny (model X.prog X.w) X.A (call (.builtin "sorted") [.ref p]) (fun v s'=>∃ x H',Inv X pins σ H' s'/\RelV x v/\Q x H') X.xe s:=by
 have hl:=rv.length;have hdl:=xAcr hd;refine xAjp (lt:=ltK ds) (xAqk hk.one) hh hs ho hc hdat hv (by omega) (.inl (by omega)) (fun s' m h' x h2=>?_) fun s' h' a pm c m x ha ar e=>?_
 ·obtain ⟨as,ra⟩:=hd.reads (I.moved m) rv
  exact xAdp (s:={ s' with heap:=h' }) (xAbe x ra) hk h2 (by show X.A.units+1+1+60<cLine;omega)
 ·have I':=I.moved m
  have hix:∀ i∈pm.toList,i<ys.length:=fun i hi=>by
   have:=(ar.1.toList.mem_iff).mp hi
   simp at this
   omega
  refine ⟨.ref a,upd H a (.lst (pm.toList.map fun i=>ys.getD i .non)),I'.laid x ha ⟨?_,_,c,xAet rv _ hix,e⟩,rfl,q a _ pm.toList (I'.hok.fresh ha) (Same.new (I'.hok.fresh ha)) (xAes (by rw [← hdl,hl];exact ar)) xAad⟩;have hz:its.length≤sizeLine:=zv (xAba (by omega));rw [qf,q9,ar.1.size_eq]
  simp
  omega
theorem xApk {H:Hp} {ka:List (KD×V×V)} {xa:List (KD×Value×Value)} (h:Paired (GP H) ka xa):Vals (ka.map (·.2.1)) (xa.map (·.2.1)):=by
 induction h with
 | nil=>exact .nil
 | cons a _ ih=>exact .cons a.2.2.1 ih
theorem xAdu (hu:X.A.units+3+61<cLine) (hh:X.A.handled=none):CallR X (.builtin "sorted") (rSortG X.K):=by
 intro pins s σ H xs us Q I r h;obtain ⟨p,kvs,ds,t,rfl,rd,hd,hk,h64,q⟩:=h;obtain ⟨u,rfl,ru⟩:=vals1 r;cases ru;obtain ⟨_,hsm,ya,pr,o,es,ep,ho,hc,hdat,he,his,hn⟩:=gd_rd I rd;exact xAjq hu hh I hsm ho hc hdat (its:=ya.map (·.2.1)) (by rw [he,z4];rfl) (xApk pr) hd hk (by rw [qf];exact h64) q
end
section
variable {prog:Program} {w:World} {A:Around} {E:Value->Shared->Prop} {s:Shared}
end
section
variable {X:Cx} {o value:Expr} {lo hi:Option Expr} {pos pos' p2:Pos} {to tv:TE} {tl th:TO}
end
theorem xAde:entryFor table "dict_itemiterator.__iter__"=some Builtin.«dict_keyiterator.__iter__»:=entryFor_alias (id':="dict_keyiterator.__iter__") (by kernel_rfl) rfl (by decide +kernel) (by kernel_rfl)
section
variable {prog:Program} {w:World} {A:Around} {E:Value->Shared->Prop} {s:Shared}
theorem xAod {d:Addr} {od:Obj} {Q:Value->Shared->Prop} (hs:(d==sysModules)=false) (ho:s.heap.get? d=some od) (hc:od.ExactDict)
  (hQ:Q (.ref s.heap.objs.size) { s with heap:=s.heap.push { cls:=.type "dict_items",data:=.fields #[.ref d] } }):wpAny (model prog w) A (call (.builtin "dict.items") [.ref d]) Q E s:=by
 have hT:s.TypeIs (.ref d) "dict":=⟨od,ho,hc.1⟩;refine wpAny_call_entry F.slot_dict_items hT F.entry_dict_items ?_ (F.args_dict_items_1 _);unfold Builtin.«dict.items»;refine wpAny_bind ?_;unfold Builtin.Dict.noArgs;refine wpAny_bind (wpAny_notOrdered_dict hT ?_);show wpAny _ _ (pure d) _ _ s;refine wpAny_pure ?_;show wpAny _ _ (Builtin.Dict.showsAll d >>= _) _ _ s;unfold Builtin.Dict.showsAll;rw [if_neg (by rw [hs];exact qm)];refine wpAny_bind (wpAny_pure ?_);exact wpAny_bind (wpAny_newObj_type (wpAny_pure ⟨_,rfl,hQ⟩))
theorem xAgx {v d:Addr} {od:Obj} {es:Array DictEntry} {ep:Nat} {Q:Value->Shared->Prop} (hv:s.heap.IsItemsView v d) (ho:s.heap.get? d=some od) (hdat:od.data=.dict es ep)
  (hQ:Q (.ref s.heap.objs.size) { s with heap:=s.heap.push { cls:=.type "dict_itemiterator",data:=.fields #[.none,.bool false,.ref d,.int 0 0,.int es.size 0,.int ep 0,.none,.none] } }) :
  wpAny (model prog w) A (pyIter (.ref v)) Q E s:=by
 obtain ⟨ov,hov,hcv,hdv⟩:=id hv;refine wpAny_pyIter_slot hv.typeIs F.slot_dict_items_iter (wpAny_call_entry F.slot_dict_items_iter hv.typeIs F.entry_dict_items_iter ?_ (F.args_dict_items_iter_1 _));unfold Builtin.«dict_items.__iter__»;refine wpAny_bind (wpAny_pure ?_);refine wpAny_bind ?_;unfold Builtin.Dict_items.dictOf;refine wpAny_bind (wpAny_field hov hdv (x:=.ref d) rfl (wpAny_pure ?_));refine wpAny_bind ?_;unfold Builtin.Dict_items.newIterator;refine wpAny_bind (wpAny_dictEntries ho hdat ?_);refine wpAny_bind (wpAny_dictEpoch ho hdat ?_)
 have hown:Builtin.Dict_items.ownsTuple "dict_itemiterator"=true:=by decide
 simp only [hown,if_true]
 refine wpAny_newObj_type (wpAny_pure ⟨_,rfl,"dict_itemiterator",_,⟨_,Heap.get?_push_size _ rfl,rfl⟩,F.slot_dict_itemiterator_next.lookup,?_⟩)
  (by simp only [sizeOk,Builtin.Dict_items.ownedTupleFields,List.size_toArray,List.length_append,List.length_cons,List.length_nil,sizeLine_eq];omega)
 simpa [rawInt,Builtin.Dict_items.ownedTupleFields] using hQ
theorem xAgy {it d:Addr} {i n ep:Nat} {od:Obj} {es:Array DictEntry} {ok ov:Value} {Q:Option Value->Shared->Prop} (hit:IsItemIter s.heap it d i n ep ok ov) (hod:s.heap.get? d=some od) (hdd:od.data=.dict es ep) (hn:es.size=n) (hlt':i<es.size)
  (hQ:∀ h',IsItemIterOut h' it d (i+1) n ep es[i].key es[i].val s.heap.objs.size →
   h'.get? s.heap.objs.size=some { cls:=.type "tuple",data:=.seq #[es[i].key,es[i].val] }->h'.objs.size=s.heap.objs.size+1 →
   (∀ b o,b≠it->s.heap.get? b=some o->h'.get? b=some o)->Q (some (.ref s.heap.objs.size)) { s with heap:=h' }) :
  wpAny (model prog w) A (pyNext (.ref it)) Q E s:=by
 obtain ⟨hp,g,dr,tk,os⟩:=s;subst hn;have hT:Shared.TypeIs ⟨hp,g,dr,tk,os⟩ (.ref it) "dict_itemiterator":=⟨_,hit,rfl⟩;unfold pyNext
 refine wpAny_bind (wpAny_attempt (wpAny_callSpecial?_slot (name:=Str.ofString "__next__") hT F.slot_dict_itemiterator_next
  (wpAny_call_entry F.slot_dict_itemiterator_next hT F.entry_dict_itemiterator_next ?_ (F.args_dict_itemiterator_next_1 _))))
 refine wpAny_bind (wpAny_pure ?_);refine wpAny_bind ?_;refine wpAny_bind ?_
 first | refine wpAny_bind (wpAny_typeNameOfWhole_itemiter hT (wpAny_pure ?_)) | refine wpAny_bind (wpAny_typeNameOf_itemiter hT (wpAny_pure ?_))
 refine wpAny_bind (wpAny_fieldsOf hit rfl ?_)
 have hown:Builtin.Dict_items.ownsTuple "dict_itemiterator"=true:=by decide
 simp only [hown,if_true]
 show wpAny _ _ (if (Value.ref d==Value.none)=true then _ else _) _ _ _;rw [if_neg (show ¬ ((Value.ref d==Value.none)=true) from qm)];refine wpAny_bind (wpAny_pure ?_);refine wpAny_bind (wpAny_dictEntries hod hdd ?_);rw [if_neg (by simp)];refine wpAny_bind (wpAny_pure ?_);refine wpAny_bind (wpAny_dictEpoch hod hdd ?_);rw [if_neg (by simp)];refine wpAny_pure ?_
 simp only [show ¬ ((i:Int)<0) from by omega,if_false,Int.toNat_natCast,Array.getElem?_eq_getElem hlt']
 refine wpAny_bind ?_
 first | refine wpAny_bind (wpAny_typeNameOfWhole_itemiter hT (wpAny_pure ?_)) | refine wpAny_bind (wpAny_typeNameOf_itemiter hT (wpAny_pure ?_))
 refine wpAny_bind (wpAny_isOneOf_itemiter hT ?_);show wpAny _ _ (setField (.ref it) 3 (rawInt ((i:Int)+1)) >>= _) _ _ ⟨hp,g,dr,tk,os⟩;refine wpAny_bind (wpAny_setField_rec hit (by simp) fun h₁ he₁ hs₁=>?_);replace hs₁:Heap.SameBut it hp h₁:=hs₁
 replace he₁:IsItemIter h₁ it d (i+1) es.size ep ok ov:=by
  have e:((i+1:Nat):Int)=(i:Int)+1:=by omega
  unfold IsItemIter;rw [e];simpa [rawInt] using he₁
 have hT₁:Shared.TypeIs ⟨h₁,g,dr,tk,os⟩ (.ref it) "dict_itemiterator":=⟨_,he₁,rfl⟩;refine wpAny_bind (wpAny_holding ?_);refine wpAny_bind (wpAny_isOneOf_itemiter hT₁ ?_);refine wpAny_bind (wpAny_isOneOf_itemiter hT₁ ?_);show wpAny _ _ (Builtin.Dict_items.pairFromOwner (.ref it) 6 es[i].key es[i].val) _ _ ⟨h₁,g,dr,tk,os⟩;unfold Builtin.Dict_items.pairFromOwner;refine wpAny_bind (wpAny_newTuple ?_);have he₂:IsItemIter (h₁.push { cls:=.type "tuple",data:=.seq #[es[i].key,es[i].val] }) it d (i+1) es.size ep ok ov:=Heap.get?_push_of_some _ he₁;generalize hh₂:h₁.push { cls:=.type "tuple",data:=.seq #[es[i].key,es[i].val] }=h₂ at he₂;have hz₁:h₁.objs.size=hp.objs.size:=hs₁.1;have hil:it<hp.objs.size:=Heap.lt_size hit
 have ht₂:h₂.get? hp.objs.size=some { cls:=.type "tuple",data:=.seq #[es[i].key,es[i].val] }:=by rw [← hh₂,← hz₁];exact Heap.get?_push_size _ rfl
 have hz₂:h₂.objs.size=hp.objs.size+1:=by rw [← hh₂,Heap.size_push,hz₁]
 have hk₂:∀ b o,b≠it->hp.get? b=some o->h₂.get? b=some o:=fun b o hb e=>by rw [← hh₂];exact Heap.get?_push_of_some _ (hs₁.extBut b o hb e)
 show wpAny _ _ (Builtin.Dict_items.ownedTupleIsFree (.ref it) >>= _) _ _ ⟨h₂,g,dr,tk,os⟩;rw [hz₁];clear hh₂ he₁ hs₁ hT₁ hz₁ h₁;refine wpAny_bind ?_;unfold Builtin.Dict_items.ownedTupleIsFree;refine wpAny_bind (wpAny_field he₂ rfl (x:=.none) rfl (wpAny_pure ?_))
 simp only [if_true]
 refine wpAny_bind (wpAny_field he₂ rfl (x:=ok) rfl ?_);refine wpAny_bind (wpAny_field he₂ rfl (x:=ov) rfl ?_);refine wpAny_bind (wpAny_setField_rec he₂ (by simp) fun h₃ he₃ hs₃=>?_);replace hs₃:Heap.SameBut it h₂ h₃:=hs₃;replace he₃:IsItemIter h₃ it d (i+1) es.size ep es[i].key ov:=he₃;refine wpAny_bind (wpAny_setField_rec he₃ (by simp) fun h₄ he₄ hs₄=>?_);replace hs₄:Heap.SameBut it h₃ h₄:=hs₄;replace he₄:IsItemIter h₄ it d (i+1) es.size ep es[i].key es[i].val:=he₄;refine wpAny_bind (wpAny_setField_rec he₄ (by simp) fun h₅ he₅ hs₅=>?_);replace hs₅:Heap.SameBut it h₄ h₅:=hs₅;replace he₅:IsItemIterOut h₅ it d (i+1) es.size ep es[i].key es[i].val hp.objs.size:=he₅;refine wpAny_bind (wpAny_setField_rec he₅ (by simp) fun h₆ he₆ hs₆=>?_);replace hs₆:Heap.SameBut it h₅ h₆:=hs₆;replace he₆:IsItemIterOut h₆ it d (i+1) es.size ep es[i].key es[i].val hp.objs.size:=he₆;refine wpAny_bind (wpAny_letGo (wpAny_pure (wpAny_pure ⟨_,rfl,wpAny_pure (hQ h₆ he₆ ?_ ?_ ?_)⟩)))
 ·exact hs₆.extBut _ _ (zi hil) (hs₅.extBut _ _ (zi hil) (hs₄.extBut _ _ (zi hil) (hs₃.extBut _ _ (zi hil) ht₂)))
 ·show h₆.objs.size=hp.objs.size+1
  rw [hs₆.1,hs₅.1,hs₄.1,hs₃.1,hz₂]
 ·exact fun b o hb e=>hs₆.extBut b o hb (hs₅.extBut b o hb (hs₄.extBut b o hb (hs₃.extBut b o hb (hk₂ b o hb e))))
theorem xAjr {it d:Addr} {i n ep:Nat} {od:Obj} {es:Array DictEntry} {ok ov:Value} {Q:Option Value->Shared->Prop} (hh:A.handled=none) (hit:IsItemIter s.heap it d i n ep ok ov) (hod:s.heap.get? d=some od) (hdd:od.data=.dict es ep) (hn:es.size=n) (hge:es.size≤i)
  (hQ:∀ h',Heap.ExtBut it s.heap h'->Q none { s with heap:=h' }):wpAny (model prog w) A (pyNext (.ref it)) Q E s:=by
 subst hn;have hT:s.TypeIs (.ref it) "dict_itemiterator":=⟨_,hit,rfl⟩;unfold pyNext
 refine wpAny_bind (wpAny_attempt (wpAny_callSpecial?_slot (name:=Str.ofString "__next__") hT F.slot_dict_itemiterator_next
  (wpAny_call_entry F.slot_dict_itemiterator_next hT F.entry_dict_itemiterator_next ?_ (F.args_dict_itemiterator_next_1 _))))
 refine wpAny_bind (wpAny_pure ?_);refine wpAny_bind ?_;refine wpAny_bind ?_
 first | refine wpAny_bind (wpAny_typeNameOfWhole_itemiter hT (wpAny_pure ?_)) | refine wpAny_bind (wpAny_typeNameOf_itemiter hT (wpAny_pure ?_))
 refine wpAny_bind (wpAny_fieldsOf hit rfl ?_)
 have hown:Builtin.Dict_items.ownsTuple "dict_itemiterator"=true:=by decide
 simp only [hown,if_true]
 show wpAny _ _ (if (Value.ref d==Value.none)=true then _ else _) _ _ s;rw [if_neg (show ¬ ((Value.ref d==Value.none)=true) from qm)];refine wpAny_bind (wpAny_pure ?_);refine wpAny_bind (wpAny_dictEntries hod hdd ?_);rw [if_neg (by simp)];refine wpAny_bind (wpAny_pure ?_);refine wpAny_bind (wpAny_dictEpoch hod hdd ?_);rw [if_neg (by simp)];refine wpAny_pure ?_
 simp only [show ¬ ((i:Int)<0) from by omega,if_false,Int.toNat_natCast,Array.getElem?_eq_none hge]
 refine wpAny_bind ?_
 first | refine wpAny_bind (wpAny_typeNameOfWhole_itemiter hT (wpAny_pure ?_)) | refine wpAny_bind (wpAny_typeNameOf_itemiter hT (wpAny_pure ?_))
 show wpAny _ _ (setField (.ref it) 2 .none >>= _) _ _ s;refine wpAny_bind (wpAny_setField hit rfl (by simp) ?_);show wpAny _ _ (newExc (.type "StopIteration") [] >>= _) _ _ _;refine wpAny_bind ?_
 simp only [newExc,newTuple]
 refine wpAny_bind (wpAny_newObj_type ?_ (by size_fits));refine wpAny_bind (m:=firstArgMember _ _) (wpAny_of_eq (a:=Value.none) (by first | rfl | (simp only [firstArgMember];rfl)) ?_);refine wpAny_newObj_type ?_ (by size_fits)
 simp only [raiseNew]
 refine wpAny_bind (wpAny_handled ?_);rw [show A.in1.handled=none from hh];refine wpAny_bind (wpAny_pure (wpAny_throw ?_));refine wpAny_bind (wpAny_isInstance (T:="StopIteration") (b:=true) ⟨_,Heap.get?_push_size _ rfl,rfl⟩ isSubtype_stop ?_);exact wpAny_pure (hQ _ (((Heap.SameBut.update ..).extBut.push _).push _))
end
section
variable {X:Cx} {pins:List (Addr×Obj)} {σ:St} {H:Hp} {s:Shared}
theorem xAqv {a:Addr} {o:Obj} {es:Array DictEntry} {ep:Nat} {kvs:List (KD×V×V)} (hd:o.data=.dict es ep) (I:Inv X pins σ H s) (e:H a=some (.frz o (.dG kvs))):∀ i (hi:i<es.size) (hk:i<kvs.length),RelV kvs[i].2.2 es[i].val:=by
 obtain ⟨ho,_,_,xs,pr,o',es',ep',ho',_,hd',he,_⟩:s.heap.get? a=some o/\ObjOk X.prog X.w H s.heap a (.dG kvs):=I.hok a _ e;rw [ho] at ho';cases ho';rw [hd] at hd';injection hd' with hd' _;subst hd';intro i hi hk
 have hx:i<xs.length:=by rw [← pr.length];exact hk
 have rel:=xAey pr i hk hx
 have ek:es[i].val=xs[i].2.2:=by
  have h1:es.toList[i]?=some es[i]:=by simp [hi]
  rw [he,qu,qe hx] at h1;rw [← Option.some.inj h1];rfl
 rw [ek];exact rel.2.2.2
end
def ItI (a:Addr) (o:Obj) (kvs:List (KD×V×V)):It :=
 ⟨fun i H=>H a=some (.frz o (.dG kvs))/\i<kvs.length,fun i H x H'=>∃ p e,H p=none/\kvs[i]?=some e/\x=.ref p/\H'=upd H p (.tup [e.2.1,e.2.2]),fun i H=>H a=some (.frz o (.dG kvs))/\kvs.length≤i⟩
theorem xAjs {P:Program} {w:World} {K:PySem.W.Frag} {es':List Expr} {k:Nat} {tp:Pos} (a it:Addr) {o:Obj} {es:Array DictEntry} {ep:Nat} {kvs:List (KD×V×V)} (hd:o.data=.dict es ep) :
  Turn P w K (.Tuple es' k tp) (ItI a o kvs) [it] it (fun i h=>∃ ok ov,IsItemIter h it a i kvs.length ep ok ov) where
 mem:=by simp
 obj:=fun i h st b hb=>by
  have e:b=it:=by simpa using hb
  subst e;obtain ⟨ok,ov,e⟩:=st;exact ⟨_,e,fun v z=>by cases z⟩
 keep:=fun i h h' st k=>by
  obtain ⟨ok,ov,e⟩:=st;exact ⟨ok,ov,k it (by simp) _ e⟩
 item:=by
  intro X hP hw hK hc i pins s σ H E I hf st hg;subst hP hw hK;obtain ⟨he,hi⟩:=hg;obtain ⟨ok,ov,st⟩:=st;obtain ⟨ho,hl,rel⟩:=xAef hd I he;have relv:=xAqv hd I he
  have hi':i<es.size:=by omega
  have zlt:it<s.heap.objs.size:=Heap.lt_size st;refine xAgy st ho hd hl hi' fun h' a1 a2 a3 a4=>⟨_,rfl,wpAny_letOwnedTupleGo_items a1 fun h'' b1 bs=>?_⟩
  have I1:Inv X pins σ H { s with heap:=h'' }:=I.turnedN (t':=s.toks) hf fun c o hc q=>bs.extBut c o (fun e=>hc (by simp [e])) (a4 c o (fun e=>hc (by simp [e])) q)
  have eT:h''.get? s.heap.objs.size=some { cls:=.type "tuple",data:=.seq #[es[i].key,es[i].val] }:=bs.extBut _ _ (zi zlt) a2;have nT:H s.heap.objs.size=none:=I.hok.fresh (qc _);refine ⟨.ref s.heap.objs.size,upd H s.heap.objs.size (.tup [kvs[i].2.1,kvs[i].2.2]),I.track I1 (qc _) nT ⟨?_,[es[i].key,es[i].val],.cons (rel i hi' hi) (.cons (relv i hi' hi) .nil),⟨_,eT,rfl,_,rfl⟩⟩,rfl,⟨_,kvs[i],nT,qe hi,rfl,rfl⟩,⟨_,_,b1⟩,fun c hc=>?_⟩
  ·show 2≤sizeLine
   decide
  ·have e:c=it:=by simpa using hc
   subst e;rw [xAae (qi zlt)];exact (hf c (by simp)).1
 done:=by
  intro X hP hw hK hc i pins s σ H E I hf st hg;subst hP hw hK;obtain ⟨he,hi⟩:=hg;obtain ⟨ok,ov,st⟩:=st;obtain ⟨ho,hl,rel⟩:=xAef hd I he
  exact xAjr (I.ok.hd hc) st ho hd hl (by omega) fun h' eb=>⟨rfl,I.turnedN (t':=s.toks) hf fun c o hc q=>eb c o (fun e=>hc (by simp [e])) q⟩
 self:=fun A i s Q E st h=>by
  obtain ⟨ok,ov,st⟩:=st;have hT:s.TypeIs (.ref it) "dict_itemiterator":=⟨_,st,rfl⟩;refine wpAny_pyIter_slot hT F.slot_dict_itemiterator_iter (wpAny_call_entry F.slot_dict_itemiterator_iter hT xAde ?_ (F.args_dict_itemiterator_iter_1 _));show wpAny _ _ (ret (.ref it)) _ _ s;exact wpAny_pure ⟨_,rfl,"dict_itemiterator",_,hT,F.slot_dict_itemiterator_next.lookup,h⟩
def iItemsG (tl:TE):TI:=fun σ H R=>tl σ H fun x H1=>∃ a kvs,x=.ref a/\((H1 a=some (.dG kvs)/\∀ o,R (ItI a o kvs) (upd H1 a (.frz o (.dG kvs))))\/∃ o,H1 a=some (.frz o (.dG kvs))/\R (ItI a o kvs) H1)
section
variable {X:Cx}
theorem xAct {l:Expr} {tl:TE} {es':List Expr} {k:Nat} {tp apos cpos:Pos} (hl:PE X l tl)
  (hbase:attributeBase l "items" X.env (eval l X.env)=eval l X.env:=by rfl) (hline:(apos.endLine==cpos.line)=true:=by rfl):PI X (.Tuple es' k tp) (.Call (.Attribute l "items" apos) [] [] cpos) (iItemsG tl):=by
 intro pins s σ H R I h;refine wpAny_Call_method0_late hbase hline (thn (hl pins s σ H _ I h) fun v s1 ⟨x,H1,I1,r1,q1⟩=>?_);obtain ⟨a,kvs,e,q⟩:=q1;subst e;cases r1
 obtain ⟨H2,o,I2,e2,q2⟩:∃ (H2:Hp) (o:Obj),Inv X pins σ H2 s1/\H2 a=some (.frz o (.dG kvs))/\R (ItI a o kvs) H2:=by
  rcases q with ⟨ea,q⟩ | ⟨o,ea,q⟩
  ·obtain ⟨_,_,xs,_,o,es,ep,ho,_⟩:=(show ObjOk X.prog X.w H1 s1.heap a (.dG kvs) from I1.hok a _ ea)
   exact ⟨_,o,I1.freezeG ea ho,xAad,q o⟩
  ·exact ⟨_,o,I1,ea,q⟩
 ·obtain ⟨ho,_,hsm,xs,_,o',es,ep,ho',hc,hd,_,_⟩:s1.heap.get? a=some o/\ObjOk X.prog X.w H2 s1.heap a (.dG kvs):=I2.hok a _ e2
  rw [ho] at ho';cases ho';obtain ⟨_,hlen,_⟩:=xAef hd I2 e2;refine ⟨"dict","dict.items",PySem.F.plainAttrs_dict,PySem.F.slot_dict_items,PySem.F.type_dict_items,⟨o,ho,hc.1⟩,fun b z=>?_,Calls.callWith_builtin rfl (PySem.evalArgs_none (xAod hsm ho hc ?_))⟩
  ·cases z
   exact ⟨o,ho,hc.2.1⟩
  have ho1:(s1.heap.push { cls:=.type "dict_items",data:=.fields #[.ref a] }).get? a=some o:=Heap.get?_push_of_some _ ho;refine xAgx (s:={ s1 with heap:=s1.heap.push { cls:=.type "dict_items",data:=.fields #[.ref a] } }) (v:=s1.heap.objs.size) ⟨_,Heap.get?_push_size _ rfl,rfl,rfl⟩ ho1 hd ?_;have I3:Inv X pins σ H2 { s1 with heap:=s1.heap.push { cls:=.type "dict_items",data:=.fields #[.ref a] } }:=I2.kept (t':=s1.toks) fun b o e=>Heap.get?_push_of_some _ e;refine ⟨(s1.heap.push { cls:=.type "dict_items",data:=.fields #[.ref a] }).objs.size,[(s1.heap.push { cls:=.type "dict_items",data:=.fields #[.ref a] }).objs.size],_,_,H2,rfl,I3.kept (t':=s1.toks) fun b o e=>Heap.get?_push_of_some _ e,xAjs a _ hd,⟨_,_,by rw [← hlen];exact Heap.get?_push_size _ rfl⟩,fun b hb=>?_,q2⟩
  have e:b=(s1.heap.push { cls:=.type "dict_items",data:=.fields #[.ref a] }).objs.size:=by simpa using hb
  subst e;exact I3.fpOk (qc _) (I3.hok.fresh (qc _))
end
theorem xAma {a:Addr} {o:Obj} {kvs:List (KD×V×V)} {g:TG} {tb:TS} {D:Ends} {σ:St} {H:Hp} (Pv:Nat->St->Hp->Prop) (h0:Pv 0 σ H) (hl:∀ i σ H,Pv i σ H->H a=some (.frz o (.dG kvs)))
  (hs:∀ i e σ H p,kvs[i]?=some e->Pv i σ H->H p=none->g (.ref p) σ (upd H p (.tup [e.2.1,e.2.2])) fun σ2 H2=>tb { D with nx:=Pv (i+1),ct:=Pv (i+1),bk:=D.nx } σ2 H2) (hd:∀ σ H,Pv kvs.length σ H->D.nx σ H) :
  ∃ W:Nat->Nat->St->Hp->Prop,(∃ m,W 0 m σ H)/\∀ i m σ H,W i m σ H →
   ((ItI a o kvs).stop i H/\D.nx σ H)\/((ItI a o kvs).go i H/\∃ N:St->Hp->Prop,(∀ σ' H',N σ' H'->∃ m',m'<m/\W (i+1) m' σ' H')/\∀ x H',(ItI a o kvs).yld i H x H'->g x σ H' fun σ2 H2=>tb { D with nx:=N,ct:=N,bk:=D.nx } σ2 H2):=by
 refine ⟨fun i m σ H=>m=kvs.length - i/\i≤kvs.length/\Pv i σ H,⟨kvs.length,by simp,Nat.zero_le _,h0⟩,?_⟩;rintro i m σ H ⟨rfl,hi,p⟩
 by_cases hlt:i<kvs.length
 ·refine .inr ⟨⟨hl i σ H p,hlt⟩,Pv (i+1),fun σ' H' p'=>⟨kvs.length - (i+1),by omega,rfl,hlt,p'⟩,fun x H' y=>?_⟩
  obtain ⟨q,e,hn,hk,rfl,rfl⟩:=y;exact hs i e σ _ q hk p hn
 ·have e:i=kvs.length:=by omega
  subst e;exact .inl ⟨⟨hl _ σ H p,qc _⟩,hd σ H p⟩
theorem xAdh {a:Addr} {o:Obj} {kvs:List (KD×V×V)} {own:List Str} {fr:List (Str×Nat)} {g:TG} {tt:TT} {te:TE} {σ:St} {H:Hp} {Q:VK} (hz:kvs.length≤sizeLine) (Pv:Nat->List V->Hp->Prop) (h0:Pv 0 [] H) (hl:∀ i ys H,Pv i ys H->H a=some (.frz o (.dG kvs)))
  (hs:∀ i e ys H' p (K1:V->Hp->Prop) (K0:Hp->Prop),kvs[i]?=some e->Pv i ys H'->H' p=none->(∀ y H4,Pv (i+1) (ys++[y]) H4->K1 y H4)->(∀ H3,Pv (i+1) ys H3->K0 H3) →
   g (.ref p) (compSt own fr σ) (upd H' p (.tup [e.2.1,e.2.2])) fun σ2 H2=>tt σ2 H2 fun b H3=>if b=true then te σ2 H3 K1 else K0 H3)
  (hd:∀ H' p ys,Pv kvs.length ys H'->ys.length≤kvs.length->H' p=none->Q (.ref p) (upd H' p (.lst ys))):LCb own fr g tt te σ Q (ItI a o kvs) H:=by
 refine ⟨fun i m ys H=>m=kvs.length - i/\i≤kvs.length/\ys.length≤i/\Pv i ys H,⟨kvs.length,by simp,Nat.zero_le _,Nat.zero_le _,h0⟩,?_⟩;rintro i m ys H ⟨rfl,hi,hy,p⟩
 by_cases hlt:i<kvs.length
 ·refine .inr ⟨⟨hl _ _ H p,hlt⟩,by omega,fun x H' y=>?_⟩
  obtain ⟨q,e,hn,hk,rfl,rfl⟩:=y
  refine hs i e ys _ q _ _ hk p hn (fun y H4 p4=>⟨kvs.length - (i+1),by omega,rfl,hlt,?_,p4⟩) fun H3 p3=>⟨kvs.length - (i+1),by omega,rfl,hlt,by omega,p3⟩
  rw [qg,ql];omega
 ·have e:i=kvs.length:=by omega
  subst e;exact .inl ⟨⟨hl _ _ H p,qc _⟩,fun q hq=>hd H q ys p hy hq⟩
section
variable {X:Cx} {pins:List (Addr×Obj)} {σ:St} {H:Hp} {s:Shared}
end
theorem xAmb (a v:Value):argsOk "max" ⟨[a],[(Str.ofString "key",v)]⟩:=by unfold argsOk;kernel_rfl
theorem xAgz {prog:Program} {w:World} {A:Around} {E:Value->Shared->Prop} {s:Shared} {id:String} {b:Builtin} {args:List Value} {kw:List (Str×Value)} {Q:Value->Shared->Prop} (hk:builtinKind id=none) (hp:plainId id=true)
  (hb:entryFor table id=some b) (ha:argsOk id ⟨args,kw⟩)
  (hc:wpAny (model prog w) A.in1 (b ⟨args,kw⟩) (fun fin s'=>match fin with
   | .done f=>(match (Except.ok f:Result) with | .ok (.ret v)=>Q v s' | .ok _=>False | .error e=>E e s')
   | .again c'=>c'.quiet=true/\codeAny (model prog w) A c' (fun r s'=>match r with | .ok (.ret v)=>Q v s' | .ok _=>False | .error e=>E e s') s') E s) :
  wpAny (model prog w) A (call (.builtin id) args kw) Q E s:=by
 refine wpAny_call (codeAny_call_builtin hp hb ?_)
 simp only [checkBuiltinCall,hk]
 cases hsig:Manifest.signature? id with
 | none=>exact wpAny_pure hc
 | some sig =>
  have ha':Bind.checkArgs id sig ⟨args,kw⟩=pure ():=by simpa only [argsOk,hsig] using ha
  simp only [ha']
  exact wpAny_pure hc
theorem xAha {env:Env} {x:Str} {c:Addr}:∀ {names:List (Str×NameKind)} {acc:List (Str×Addr)},(clo env names acc).lookup x=some c->(x,NameKind.free)∈names\/acc.lookup x=some c
 | [],_,h=>.inr h
 | (n,k)::r,acc,h=>by
  rcases xAha (names:=r) h with q | q
  ·exact .inl (qr _ q)
  ·cases hk:(k==NameKind.free) with
   | false=>rw [hk,if_neg qm] at q;exact .inr q
   | true =>
    rw [hk,if_pos rfl,v9] at q
    cases hxn:(x==n) with
    | true =>
     have:=beq_iff_eq.mp hxn;subst this;have:=beq_iff_eq.mp hk;subst this;exact .inl qh
    | false=>rw [hxn] at q;exact .inr q
structure LamSc (y z:Str) (sc:Scope):Prop where
 kind:sc.kind=.function
 co:sc.isCoroutine=false
 gen:sc.isGenerator=false
 cell:∀ p∈sc.names,p.2≠.cell
 ly:sc.names.lookup y=some .local
 lz:sc.names.lookup z=some .free
 fr:∀ p∈sc.names,p.2=.free->p.1=z
def lamEnv (qual:Str) (sc:Scope) (cl:List (Str×Addr)) (L f:Addr) (cd:Value):Env :=
 { scope:=sc,locals:=L,globals:=mainGlobals,cells:=cl,qual:=qual++".<locals>.",func:=some f,code:=cd,frame:=some L,builtins:=builtinsNs }
def cxLam (P:Program) (w:World) (K:PySem.W.Frag) (mg:Str->Option Value) (base:Heap) (y z qual:Str) (scope:Scope) (cl:List (Str×Addr)) (f:Addr) (cd:Value) (A:Around) (outer:List Env) (s:Shared) (H:Hp):Cx where
 prog:=P
 w:=w
 K:=K
 mg:=mg
 base:=base
 A:=A.deeper (lamEnv qual scope cl s.heap.objs.size f cd)
 N:=[y,z]
 s₀:=s
 H₀:=H
 env:=lamEnv qual scope cl s.heap.objs.size f cd
 outer:=outer
 stack:=lamEnv qual scope cl s.heap.objs.size f cd::outer
 ex:=[]
 calm:=true
 fn:=fun _=>false
 pn:=[]
 xe:=fun _ _=>False
theorem xAtd {P:Program} {w:World} {K:PySem.W.Frag} {mg:Str->Option Value} {base:Heap} {y z qual:Str} {sc:Scope} {cl:List (Str×Addr)} {f c:Addr} {cd x u:Value} {A:Around} {outer:List Env} {s:Shared} {H:Hp} {v vz:V} {h':Heap} {tk:Nat}
  (S:LamSc y z sc) (hd:A.handled=none) (e0:Env0 P w K mg base A outer s H) (rx:RelV v x) (hcl:∀ n a,cl.lookup n=some a->n=z/\a=c) (hz:cl.lookup z=some c) (hc:s.heap.IsCell c (some u)) (hcn:H c=none) (ru:RelV vz u)
  (hn:h'.Ns s.heap.objs.size (fun n=>[(y,x)].reverse.lookup n)) (old:∀ b o,s.heap.get? b=some o->h'.get? b=some o):Inv (cxLam P w K mg base y z qual sc cl f cd A outer s H) [] [some v,some vz] H { s with heap:=h',toks:=tk }:=by
 have noA:∀ b:Addr,b∉(cxLam P w K mg base y z qual sc cl f cd A outer s H).ex:=fun b z=>absurd (show b∈([]:List Addr) from z) (by simp)
 have hc':h'.IsCell c (some u):=let ⟨o,e,d⟩:=hc;⟨o,old _ _ e,d⟩
 refine ⟨⟨e0.mod,S.kind,rfl,rfl,qc _,fun n m a h1 h2=>(hcl n a h1).1.trans (hcl m a h2).1.symm,fun n hn=>?_,fun n a z=>(by cases z),fun _=>hd,Around.frames_deeper e0.frames,.inr ⟨rfl,rfl⟩,fun b z=>absurd z (noA b),e0.bs,e0.bsz,fun b _ _=>noA b,fun b z=>absurd z (noA b),e0.funs,e0.frf⟩,
  rfl,e0.bare,Un.kept old,⟨_,hn,fun i n v' h1 h2 h3=>?_⟩,fun n a h=>?_,e0.hok.fresh (Nat.le_refl _),fun n a h=>?_,fun p hp=>absurd (show p∈([]:List (Addr×Obj)) from hp) (by simp),e0.hok.kept old,rfl⟩
 ·have hn:sc.names.lookup n=some .cell\/sc.names.lookup n=some .free:=hn
  rcases hn with hn | hn
  ·exact absurd rfl (S.cell _ (PySem.mem_of_lookup hn))
  ·have:=S.fr _ (PySem.mem_of_lookup hn) rfl
   have this:n=z:=this;rw [this];exact ⟨c,hz⟩
 ·match i,h1,h2 with
  | 0,h1,h2 =>
   cases h1;cases h2;exact ⟨x,rx,.inl ⟨S.ly,by simp⟩⟩
  | 1,h1,h2 =>
   cases h1;cases h2;exact ⟨u,ru,.inr ⟨.inr S.lz,c,hz,hc'⟩⟩
  | i+2,h1,h2=>cases h1
 ·obtain ⟨_,e⟩:=hcl n a h
  rw [e];exact ⟨_,hc'⟩
 ·obtain ⟨_,e⟩:=hcl n a h
  rw [e];exact hcn
theorem xAio {P:Program} {w:World} {K:PySem.W.Frag} {mg:Str->Option Value} {base:Heap} {A:Around} {outer:List Env} {s:Shared} {H:Hp} {k:Nat} {f c' c:Addr} {q:Str} {params:Arguments} {body:Expr} {scope:Scope} {cl:List (Str×Addr)} {pm ctv x u:Value} {y z:Str} {v vz:V} {Q:VK} {tb:TE}
  (hr:Room k A) (e0:Env0 P w K mg base A outer s H) (ho:s.heap.get? f=some (kla_obj "<lambda>" q params body scope cl pm c' ctv)) (hcd:s.heap.CodeRec (.ref c') q) (S:LamSc y z scope)
  (hbind:bindArgs (kla_fn "<lambda>" q params body scope cl pm (.ref c') ctv) ⟨[x],[]⟩=pure [(y,x)]) (rx:RelV v x)
  (hcl:∀ n a,cl.lookup n=some a->n=z/\a=c) (hz:cl.lookup z=some c) (hc:s.heap.IsCell c (some u)) (hcn:H c=none) (ru:RelV vz u)
  (hb:PE (cxLam P w K mg base y z q scope cl f (.ref c') A outer s H) body tb) (hq:tb [some v,some vz] H Q) :
  codeAny (model P w) A (.call (.ref f) ⟨[x],[]⟩) (CR CX0 outer P w H s Q E0) s:=by
 have lim:s.heap.NoLimit:=e0.mod.nolimit.keeps fun b o e=>(e0.bs b o e).1;refine kla_callFunE hr.depth ho rfl S.co S.gen rfl hcd ?_;rw [hbind];refine wpAny_pure ?_;refine wpAny_newFunctionEnv S.cell (fun n hn=>by rw [qj.mp hn];exact S.ly) (fun h' hns hsb=>?_) S.kind;have old:∀ b o,s.heap.get? b=some o->h'.get? b=some o:=fun b o e=>hsb.extBut b o (qi (Heap.lt_size e)) (Heap.get?_push_of_some _ e);refine ⟨lim.keeps old,kla_codeExpr ?_⟩;have I:=xAtd (f:=f) (cd:=.ref c') (qual:=q) (tk:=s.toks+[(y,x)].length) S hr.hd e0 rx hcl hz hc hcn ru hns old;refine wpAny_mono (hb [] _ [some v,some vz] H Q I hq) (fun u s' hs=>?_) fun e s' hs=>False.elim hs;obtain ⟨v',H',J,rv,q'⟩:=hs;exact ⟨v',H',J.os,J.bare,J.base,J.hok,rv,q'⟩
section
variable {X:Cx} {pins:List (Addr×Obj)} {σ:St} {H:Hp} {s:Shared}
theorem xApl {Q:Value->Shared->Prop} {c P:Addr} {params:Arguments} {body:Expr} {scope:Scope} {lpos:Pos} {cl:List (Str×Addr)} (I:Inv X pins σ H s) (hcode:X.env.code=.ref c) (hC:codeHdIn X.K c P=true) (hB:X.base.BuiltinsAt X.mg P) (hT:Tb lpos.line lpos.col (X.env.qual++"<lambda>") P H)
  (hdef:defaultsOf params X.env=([],[])) (hcl:closureFor scope X.env=pure cl)
  (h:∀ f c' ctv pm s' H',Inv X pins σ H' s'->Tb lpos.line lpos.col (X.env.qual++"<lambda>") P H'->H' c'=some (codO c' (X.env.qual++"<lambda>"))->Same (del H P) (del H' P)->H' f=none->f∉frs X.stack->s'.heap.get? f=some (kla_obj "<lambda>" (X.env.qual++"<lambda>") params body scope cl pm c' ctv)->Q (.ref f) s') :
  wpAny (model X.prog X.w) X.A (eval (.Lambda params body scope lpos) X.env) Q X.xe s:=by
 have hgm:s.heap.Ns mainGlobals X.mg:=I.mod.glob.keeps I.bk;have C:CodeHd s.heap c P:=codeHd_of_K I.kIn hC;have hb:s.heap.BuiltinsAt X.mg P:=hB.keeps I.bk
 have hgP:mainGlobals≠P:=fun z=>by
  obtain ⟨o,es,ep,e,_⟩:=I.mod.glob;obtain ⟨ps,t⟩:=hT.tbl;rw [← z] at t;rcases (I.bs _ _ e).2 with y | ⟨xs,y⟩ <;> rw [y] at t <;> cases t
 refine kla_eval hdef ?_;rcases hT with hT | ⟨c',hT,hc'⟩
 ·have hP:s.heap.get? P=some (tabObj #[]):=I.hok P _ hT
  refine kla_makeFunction hcl I.ok.glob hgm hcode C hP trivial rfl hgP hb fun c' ctv h' tk hx hge hlt hrec htb=>?_;have lP:P<s.heap.objs.size:=I.hok.lt hT;have nPc:P≠c':=qi (qq lP hge);have szs:s.heap.objs.size≤h'.objs.size:=zv (v8 hge hlt)
  have e0:(#[]:Array Value)++#[rawInt lpos.line,rawInt lpos.col,.ref c']=#[rawInt lpos.line,rawInt lpos.col,.ref c']:=by simp
  rw [e0] at htb;have nfc:h'.objs.size≠c':=zi hlt;have nfP:h'.objs.size≠P:=zi (qq lP szs);refine h _ c' ctv _ _ _ (Inv.tabbed (q:=X.env.qual++"<lambda>") (more:=#[rawInt lpos.line,rawInt lpos.col,.ref c']) I hT (fun b o nb e=>Heap.get?_push_of_some _ (hx b o nb e)) hge ?_ (Heap.get?_push_of_some _ htb)) (.inr ⟨c',by rw [xAae nPc,xAad],xAad⟩) xAad (fun b u e=>?_) ?_ (I.nstk szs) (Heap.get?_push_size _ rfl)
  ·obtain ⟨c2,oc,vs,tq,e,ho,r⟩:=hrec
   exact ⟨c2,oc,vs,tq,e,Heap.get?_push_of_some _ ho,r⟩
  ·by_cases z:b=P
   ·subst z;rw [xAbk] at e;cases e
   ·rw [xAaj z] at e ⊢
    rw [xAae (fun y=>by subst y;rw [I.hok.fresh hge] at e;cases e),xAae z];exact e
  ·rw [xAae nfc,xAae nfP]
   exact I.hok.fresh szs
 ·have hP:s.heap.get? P=some (tabObj #[rawInt lpos.line,rawInt lpos.col,.ref c']):=I.hok P _ hT
  refine kla_makeFunctionHit (cv:=.ref c') hcl I.ok.glob hgm hcode C hP (by simp [TriplesOk,rawInt]) (by simp [codeAmong,rawInt]) hb fun ctv h' tk hk hsz=>?_;refine h _ c' ctv _ _ H ?_ (.inr ⟨c',hT,hc'⟩) hc' (Same.refl _) (I.hok.fresh hsz) (I.nstk hsz) (Heap.get?_push_size _ rfl);exact I.un (Un.kept fun b o e=>Heap.get?_push_of_some _ (hk b o e)) (I.hok.kept fun b o e=>Heap.get?_push_of_some _ (hk b o e))
abbrev bstObj (xs:Array Value) (c:Nat):Obj:={ cls:=.type "list",dict:=none,data:=.seq xs c,slots:=#[] }
structure MSt (X:Cx) (H:Hp) (s:Shared) (it S p:Addr) (Hm:Hp) (s':Shared) (j:Nat) (bst:Array Value):Prop where
 un:Un (frs X.stack) [] H Hm s.heap s'.heap
 hok:HOk X.prog X.w Hm s'.heap
 os:s'.os=s.os
 bare:AllBare s'.gens
 same:Same H Hm
 fI:Hm it=none
 fS:Hm S=none
 gI:s'.heap.IsListIter it p j
 gS:∃ c,s'.heap.get? S=some (bstObj bst c)
theorem MSt.inv {it S p:Addr} {Hm:Hp} {s':Shared} {j:Nat} {bst:Array Value} (M:MSt X H s it S p Hm s' j bst) (I:Inv X pins σ H s):Inv X pins σ Hm s':=I.call' M.os M.un M.hok M.bare (fun b z=>absurd z (by simp))
theorem xAip {fa it S p:Addr} {ys:List V} {D:Nat->List Int} {C:Hp->V->VK->Prop} {Hm:Hp} {s':Shared} {j:Nat} {bst:Array Value} {E:Value->Shared->Prop}
  (hcall:∀ (s':Shared) (Hm:Hp) (x:Value) (y:V) (Q:VK),Env0 X.prog X.w X.K X.mg X.base X.A.in1 X.stack s' Hm->Un (frs X.stack) [] H Hm s.heap s'.heap->Same H Hm->RelV y x->C Hm y Q->codeAny (model X.prog X.w) X.A.in1 (.call (.ref fa) ⟨[x],[]⟩) (CR CX0 X.stack X.prog X.w Hm s' Q E0) s')
  (hsp:∀ (m:Nat) y H' (Q':VK),ys[m]?=some y->Same H H'->(∀ H'' kv,Same H' H''->DV X.K H'' kv (.tuple ((D m).map PyData.int))->Q' kv H'')->C H' y Q')
  (hh:X.A.handled=none) (I:Inv X pins σ H s) (hp:SqL X.K H p ys) (hi:s.heap.objs.size≤it) (hS:s.heap.objs.size≤S) (hIS:it≠S) (nI:it∉frs X.stack) (nS:S∉frs X.stack) (hj:j<ys.length) (M:MSt X H s it S p Hm s' j bst) :
  wpAny (model X.prog X.w) X.A.in1 (pyNext (.ref it)) (fun r s1=>∃ item,r=some item/\∀ E',wpAny (model X.prog X.w) X.A.in1 (call (.ref fa) [item]) (fun val s2=>∃ y kv H2,ys[j]?=some y/\RelV y item/\RelV kv val/\DV X.K H2 kv (.tuple ((D j).map PyData.int))/\Same Hm H2/\MSt X H s it S p H2 s2 (j+1) bst) E' s1) E s':=by
 have I':=M.inv I;have hq:=hp.same M.same;obtain ⟨its,rv,pl,hz⟩:=I'.list hq;have hl:=rv.length
 have hlt:p<s'.heap.objs.size:=by obtain ⟨_,e,_⟩:=pl.isList;exact Heap.lt_size e
 have hip:p≠it:=fun z=>by
  obtain ⟨o1,e1,c1,d1⟩:=pl.isList;obtain ⟨o2,e2,c2,d2⟩:=M.gI;rw [z,e2] at e1;cases e1;rw [c1] at c2;injection c2 with z;exact absurd z (by decide)
 have hpS:p≠S:=fun z=>by
  rcases hp with (e | ⟨o,e⟩) | ⟨o,_,_,e,_⟩
  ·have:=I.hok.lt e
   exact absurd this (by rw [z];exact yg.mpr hS)
  ·have:=I.hok.lt e
   exact absurd this (by rw [z];exact yg.mpr hS)
  ·have:=Heap.lt_size (I.kIn _ _ e)
   exact absurd this (by rw [z];exact yg.mpr hS)
 have W:=Walks.list (prog:=X.prog) (w:=X.w) (A:=X.A.in1) hh it p hip its.toArray;refine W.item j s' _ _ (by rw [zf];omega) ⟨M.gI,pl.isList⟩ fun v h' tk hP hst' hk'=>⟨v,rfl,fun E'=>?_⟩;have hP:its.toArray[j]?=some v:=hP;rw [y8] at hP;have hyj:ys[j]?=some ys[j]:=qe hj;obtain ⟨u',hu',ru'⟩:=rv.get hyj;rw [hP] at hu';cases hu'
 have wr:∀ b o,b≠it->s'.heap.get? b=some o->h'.get? b=some o:=fun b o hb e=>hk' b o (by simpa using hb) e
 have un1:Un (frs X.stack) [] H Hm s.heap h':=M.un.later fun b o hb e=>wr b o (qi (qq hb hi)) e;have hok1:HOk X.prog X.w Hm h':=M.hok.other wr M.fI;have I1:Inv X pins σ Hm { s' with heap:=h',toks:=tk }:=I.call' (s':={ s' with heap:=h',toks:=tk }) M.os un1 hok1 M.bare (fun b z=>absurd z (by simp));have e0:=I1.env0;refine wpAny_call (codeAny_mono (hcall { s' with heap:=h',toks:=tk } Hm v ys[j] (fun kv H2=>Same Hm H2/\DV X.K H2 kv (.tuple ((D j).map PyData.int))) ⟨e0.frames,e0.mod,e0.bs,e0.bsz,e0.funs,e0.frf,e0.hok,e0.bare⟩ un1 M.same ru' (hsp j ys[j] Hm _ hyj M.same fun H2 kv a1 a2=>⟨a1,a2⟩)) fun res s2 hq=>?_)
 cases res with
 | error e=>exact hq.elim
 | ok fl =>
  cases fl with
  | next=>exact hq.elim
  | brk=>exact hq.elim
  | cont=>exact hq.elim
  | ret u =>
   obtain ⟨kv,H2,os2,bare2,un2,hok2,rel,same2,dv2⟩:=hq;obtain ⟨c,gS⟩:=M.gS;obtain ⟨oi,gi,ci,di⟩:=hst'.1;have gS1:=wr S _ hIS.symm gS;refine ⟨ys[j],kv,H2,hyj,ru',rel,dv2,same2,un1.trans un2,hok2,os2.trans M.os,bare2,M.same.trans same2,un2.free it _ gi M.fI (by simp),un2.free S _ gS1 M.fS (by simp),⟨oi,un2.keep it _ gi M.fI nI (by simp),ci,di⟩,c,un2.keep S _ gS1 M.fS nS (by simp)⟩
theorem xAmc {fa it S p:Addr} {ys:List V} {D:Nat->List Int} {C:Hp->V->VK->Prop} {R:Result->Shared->Prop}
  (hcall:∀ (s':Shared) (Hm:Hp) (x:Value) (y:V) (Q:VK),Env0 X.prog X.w X.K X.mg X.base X.A.in1 X.stack s' Hm->Un (frs X.stack) [] H Hm s.heap s'.heap->Same H Hm->RelV y x->C Hm y Q->codeAny (model X.prog X.w) X.A.in1 (.call (.ref fa) ⟨[x],[]⟩) (CR CX0 X.stack X.prog X.w Hm s' Q E0) s')
  (hsp:∀ (m:Nat) y H' (Q':VK),ys[m]?=some y->Same H H'->(∀ H'' kv,Same H' H''->DV X.K H'' kv (.tuple ((D m).map PyData.int))->Q' kv H'')->C H' y Q')
  (hu:X.A.units+3+61<cLine) (hh:X.A.handled=none) (I:Inv X pins σ H s) (hp:SqL X.K H p ys) (hi:s.heap.objs.size≤it) (hS:s.heap.objs.size≤S) (hIS:it≠S) (nI:it∉frs X.stack) (nS:S∉frs X.stack)
  (fin:∀ (m:Nat) (y:V) (u:Value) Hn s'',ys[m]?=some y->RelV y u->(∀ i,i<ys.length->ltD (.tuple ((D m).map PyData.int)) (.tuple ((D i).map PyData.int))=false)->Inv X pins σ Hn s''->Same H Hn->R (.ok (.ret u)) s'') :
  ∀ (k j:Nat) (Hm:Hp) (s':Shared) (b:Nat) (y:V) (item val:Value) (kv:V),ys.length - j=k->1≤j->j≤ys.length->MSt X H s it S p Hm s' j #[item,val]->b<j->ys[b]?=some y->RelV y item->RelV kv val->DV X.K Hm kv (.tuple ((D b).map PyData.int)) →
   (∀ i,i<j->ltD (.tuple ((D b).map PyData.int)) (.tuple ((D i).map PyData.int))=false)->codeAny (model X.prog X.w) X.A (.builtin "max.loop" ⟨[.ref it,.ref fa,.ref S],[]⟩) R s':=by
 have hname:(toString "max"++toString ".loop":String) = "max.loop":=by decide
 intro k
 induction k with
 | zero =>
  intro j Hm s' b y item val kv hk h1 hj M hb hy ry rk dk hmx
  have hjl:j=ys.length:=by omega
  obtain ⟨c,gS⟩:=id M.gS;have I':=M.inv I;obtain ⟨its,rv,pl,hz⟩:=I'.list (hp.same M.same);have hl:=rv.length
  have hip:p≠it:=fun z=>by
   obtain ⟨o1,e1,c1,d1⟩:=pl.isList;obtain ⟨o2,e2,c2,d2⟩:=M.gI;rw [z,e2] at e1;cases e1;rw [c1] at c2;injection c2 with z;exact absurd z (by decide)
  have W:=Walks.list (prog:=X.prog) (w:=X.w) (A:=X.A.in1) hh it p hip its.toArray;refine codeAny_builtin F.entry_max_loop ?_;rw [Around.under_plainId F.plain_max_loop _];show wpAny _ X.A.in1 (seqItems? (.ref S) >>= _) _ _ s';refine wpAny_bind (wpAny_seqItems gS rfl ?_);show wpAny _ X.A.in1 (tryCatch (pyNext (.ref it)) _ >>= _) _ _ s';refine wpAny_bind (wpAny_tryCatch (W.done s' _ _ ⟨by rw [zf,← hl,← hjl];exact M.gI,pl.isList⟩ fun h' tk hk'=>?_))
  have wr:∀ b o,b≠it->s'.heap.get? b=some o->h'.get? b=some o:=fun b o hb e=>hk' b o (by simpa using hb) e
  have gS':=wr S _ hIS.symm gS;show wpAny _ X.A.in1 (updateSeq S (fun _=>#[]) >>= _) _ _ _;refine wpAny_bind ?_;refine wpAny_updateSeq gS' rfl (wpAny_bind (wpAny_letGo (wpAny_pure ?_)));have wr2:∀ b o,b≠it->b≠S->s'.heap.get? b=some o->(h'.update S (Obj.mapSeq fun _=>(#[]:Array Value))).get? b=some o:=fun b o h1 h2 e=>(Heap.get?_update_other _ _ (Ne.symm h2)).trans (wr b o h1 e);refine fin b y item Hm _ hy ry (fun i hi'=>hmx i (by omega)) ?_ M.same;refine I.call' (s':={ s' with heap:=h'.update S (Obj.mapSeq fun _=>(#[]:Array Value)),toks:=tk }) M.os (M.un.later fun b o hb e=>wr2 b o (Nat.ne_of_lt (Nat.lt_of_lt_of_le hb hi)) (Nat.ne_of_lt (Nat.lt_of_lt_of_le hb hS)) e) ?_ M.bare (fun b z=>absurd z (by simp));exact (M.hok.other wr M.fI).other (fun b u hb e=>(Heap.get?_update_other _ _ (Ne.symm hb)).trans e) M.fS
 | succ k ih =>
  intro j Hm s' b y item val kv hk h1 hj M hb hy ry rk dk hmx
  have hlt:j<ys.length:=by omega
  obtain ⟨c,gS⟩:=id M.gS;refine codeAny_builtin F.entry_max_loop ?_;rw [Around.under_plainId F.plain_max_loop _];show wpAny _ X.A.in1 (seqItems? (.ref S) >>= _) _ _ s';refine wpAny_bind (wpAny_seqItems gS rfl ?_);show wpAny _ X.A.in1 (tryCatch (pyNext (.ref it)) _ >>= _) _ _ s';refine wpAny_bind (wpAny_tryCatch (wpAny_mono (xAip hcall hsp hh I hp hi hS hIS nI nS hlt M) (fun r s1 hr=>?_) (fun _ _ z=>z)));obtain ⟨item2,rfl,hr⟩:=hr;show wpAny _ X.A.in1 (tryCatch (holding [item2] (call (.ref fa) [item2])) _ >>= _) _ _ s1;refine wpAny_bind (wpAny_tryCatch (wpAny_holding (wpAny_mono (hr (fun _ _=>False)) (fun val2 s2 hR=>?_) (fun _ _ z=>z.elim))));obtain ⟨y2,kv2,H2,hy2,ry2,rk2,dk2,same2,M2⟩:=hR;have I2:=M2.inv I;obtain ⟨as1,r1⟩:=dk2.reads I2 rk2;obtain ⟨as2,r2⟩:=(dk.same same2).reads I2 rk;obtain ⟨c2,gS2⟩:=id M2.gS;have irr:∀ i,ltD (.tuple ((D i).map PyData.int)) (.tuple ((D i).map PyData.int))=false:=fun i=>xAcq _
  have tr:∀ a b c:Nat,ltD (.tuple ((D a).map PyData.int)) (.tuple ((D b).map PyData.int))=true->ltD (.tuple ((D b).map PyData.int)) (.tuple ((D c).map PyData.int))=true->ltD (.tuple ((D a).map PyData.int)) (.tuple ((D c).map PyData.int))=true:=fun a b c h1 h2=>xAno _ _ _ (by rw [sk];exact xAdt _ _) (by rw [sk];exact xAdt _ _) (by rw [sk];exact xAdt _ _) h1 h2
  show wpAny _ X.A.in1 (tryCatch (holding [item2,val2] (richCompare .Gt val2 val >>= _)) _ >>= _) _ _ s2;refine wpAny_bind (wpAny_tryCatch (wpAny_holding (wpAny_bind (xAly r1 r2 (by show X.A.units+1+2<cLine;omega) X.prog X.w _ _ ?_))));refine wpAny_bind (wpAny_holding (wpAny_truthy_bool ?_));refine wpAny_bind (wpAny_letGo (wpAny_pure ?_))
  cases hb':ltD (.tuple ((D b).map PyData.int)) (.tuple ((D j).map PyData.int)) with
  | true =>
   simp only [if_true]
   refine wpAny_bind ?_;refine wpAny_updateSeq gS2 rfl (wpAny_bind (wpAny_letGo ?_));rw [hname];have ot:∀ b o,b≠S->s2.heap.get? b=some o->(s2.heap.update S (Obj.mapSeq fun _=>#[item2,val2])).get? b=some o:=fun b o h2 e=>(Heap.get?_update_other _ _ (Ne.symm h2)).trans e;obtain ⟨oi,gi,ci,di⟩:=id M2.gI;refine wpAny_pure ⟨plainId_quiet F.plain_max_loop _,ih (j+1) H2 _ j y2 item2 val2 kv2 (by omega) (by omega) (by omega) ⟨M2.un.later fun b o hb e=>ot b o (qi (qq hb hS)) e,M2.hok.other (fun b u hb e=>ot b u hb e) M2.fS,M2.os,M2.bare,M2.same,M2.fI,M2.fS,⟨oi,ot _ _ hIS gi,ci,di⟩,_,Heap.get?_update_self _ gS2 rfl⟩ (by omega) hy2 ry2 rk2 dk2 fun i hi'=>?_⟩
   by_cases z:i=j
   ·rw [z];exact irr j
   ·have:=hmx i (by omega)
    cases q:ltD (.tuple ((D j).map PyData.int)) (.tuple ((D i).map PyData.int)) with
    | false=>rfl
    | true=>rw [tr _ _ _ hb' q] at this;cases this
  | false =>
   simp only [Bool.false_eq_true,if_false]
   refine wpAny_bind (wpAny_letGo ?_);rw [hname];refine wpAny_pure ⟨plainId_quiet F.plain_max_loop _,ih (j+1) H2 _ b y item val kv (by omega) (by omega) (by omega) M2 (by omega) hy ry rk (dk.same same2) fun i hi'=>?_⟩
   by_cases z:i=j
   ·rw [z];exact hb'
   ·exact hmx i (by omega)
theorem xAoe {fa p:Addr} {ys:List V} {D:Nat->List Int} {C:Hp->V->VK->Prop} {Q:VK}
  (hcall:∀ (s':Shared) (Hm:Hp) (x:Value) (y:V) (Q:VK),Env0 X.prog X.w X.K X.mg X.base X.A.in1 X.stack s' Hm->Un (frs X.stack) [] H Hm s.heap s'.heap->Same H Hm->RelV y x->C Hm y Q->codeAny (model X.prog X.w) X.A.in1 (.call (.ref fa) ⟨[x],[]⟩) (CR CX0 X.stack X.prog X.w Hm s' Q E0) s')
  (hsp:∀ (m:Nat) y H' (Q':VK),ys[m]?=some y->Same H H'->(∀ H'' kv,Same H' H''->DV X.K H'' kv (.tuple ((D m).map PyData.int))->Q' kv H'')->C H' y Q')
  (hu:X.A.units+3+61<cLine) (hh:X.A.handled=none) (I:Inv X pins σ H s) (hp:SqL X.K H p ys) (hn:0<ys.length)
  (fin:∀ (m:Nat) (y:V) Hn,ys[m]?=some y->(∀ i,i<ys.length->ltD (.tuple ((D m).map PyData.int)) (.tuple ((D i).map PyData.int))=false)->Same H Hn->Q y Hn) :
  wpAny (model X.prog X.w) X.A (call (.builtin "max") [.ref p] [(Str.ofString "key",.ref fa)]) (EP X pins σ Q) X.xe s:=by
 have hname:(toString "max"++toString ".loop":String) = "max.loop":=by decide
 obtain ⟨its,rv,pl,hz⟩:=I.list hp;have hil:=pl.isList
 have hlt:p<s.heap.objs.size:=by obtain ⟨_,e,_⟩:=hil;exact Heap.lt_size e
 refine xAgz F.kind_max F.plain_max F.entry_max (xAmb _ _) ?_;show wpAny _ X.A.in1 (Builtin.Builtins.bindParams "max" ["key","default"] 0 ⟨[],[(Str.ofString "key",.ref fa)]⟩ >>= _) _ _ s;refine wpAny_bind (wpAny_of_eq (show Builtin.Builtins.bindParams "max" ["key","default"] 0 ⟨[],[(Str.ofString "key",.ref fa)]⟩=pure [some (.ref fa),none] from rfl) ?_);refine wpAny_bind (wpAny_pure ?_);refine wpAny_bind (wpAny_pyIter_list hil (wpAny_bind (wpAny_newObj_type ?_)));rw [hname];have hz':(s.heap.push { cls:=.type "list_iterator",data:=.fields #[.ref p,.int 0 0] }).objs.size=s.heap.objs.size+1:=Heap.size_push ..;have x2:∀ b o,s.heap.get? b=some o->((s.heap.push { cls:=.type "list_iterator",data:=.fields #[.ref p,.int 0 0] }).push (bstObj #[] 0)).get? b=some o:=fun b o e=>Heap.get?_push_of_some _ (Heap.get?_push_of_some _ e);have gI:((s.heap.push { cls:=.type "list_iterator",data:=.fields #[.ref p,.int 0 0] }).push (bstObj #[] 0)).IsListIter s.heap.objs.size p 0:=⟨_,Heap.get?_push_of_some _ (Heap.get?_push_size _ rfl),rfl,rfl⟩;have gS:((s.heap.push { cls:=.type "list_iterator",data:=.fields #[.ref p,.int 0 0] }).push (bstObj #[] 0)).get? (s.heap.push { cls:=.type "list_iterator",data:=.fields #[.ref p,.int 0 0] }).objs.size=some (bstObj #[] 0):=Heap.get?_push_size _ rfl;refine wpAny_pure ⟨plainId_quiet F.plain_max_loop _,?_⟩;show codeAny _ X.A (.builtin "max.loop" ⟨[.ref s.heap.objs.size,.ref fa,.ref (s.heap.push { cls:=.type "list_iterator",data:=.fields #[.ref p,.int 0 0] }).objs.size],[]⟩) _ { s with heap:=(s.heap.push { cls:=.type "list_iterator",data:=.fields #[.ref p,.int 0 0] }).push (bstObj #[] 0) };rw [hz'] at gS ⊢;generalize (s.heap.push { cls:=.type "list_iterator",data:=.fields #[.ref p,.int 0 0] }).push (bstObj #[] 0)=h2 at x2 gI gS ⊢;have hi:s.heap.objs.size≤s.heap.objs.size:=qc _;have hS:s.heap.objs.size≤s.heap.objs.size+1:=wy _;have hIS:s.heap.objs.size≠s.heap.objs.size+1:=qi (wt _);have nI:=I.nstk hi;have nS:=I.nstk hS;have fI:=I.hok.fresh hi;have fS:=I.hok.fresh hS;generalize s.heap.objs.size+1=S at gS hS hIS nS fS ⊢;have M0:MSt X H s s.heap.objs.size S p H { s with heap:=h2 } 0 #[]:=⟨Un.kept x2,I.hok.kept x2,rfl,I.bare,Same.refl _,fI,fS,gI,0,gS⟩;have fin':∀ (m:Nat) (y:V) (u:Value) Hn s'',ys[m]?=some y->RelV y u->(∀ i,i<ys.length->ltD (.tuple ((D m).map PyData.int)) (.tuple ((D i).map PyData.int))=false)->Inv X pins σ Hn s''->Same H Hn->(fun (r:Result) s'=>match r with | .ok (.ret v)=>EP X pins σ Q v s' | .ok _=>False | .error e=>X.xe e s') (.ok (.ret u)) s'':=fun m y u Hn s'' h1 h2 h3 h4 h5=>⟨y,Hn,h4,h2,fin m y Hn h1 h3 h5⟩;refine codeAny_builtin F.entry_max_loop ?_;rw [Around.under_plainId F.plain_max_loop _];show wpAny _ X.A.in1 (seqItems? (.ref S) >>= _) _ _ { s with heap:=h2 };refine wpAny_bind (wpAny_seqItems gS rfl ?_);show wpAny _ X.A.in1 (tryCatch (pyNext (.ref s.heap.objs.size)) _ >>= _) _ _ { s with heap:=h2 };refine wpAny_bind (wpAny_tryCatch (wpAny_mono (xAip hcall hsp hh I hp hi hS hIS nI nS hn M0) (fun r s1 hr=>?_) (fun _ _ z=>z)));obtain ⟨item2,rfl,hr⟩:=hr;show wpAny _ X.A.in1 (tryCatch (holding [item2] (call (.ref fa) [item2])) _ >>= _) _ _ s1;refine wpAny_bind (wpAny_tryCatch (wpAny_holding (wpAny_mono (hr (fun _ _=>False)) (fun val2 s2 hR=>?_) (fun _ _ z=>z.elim))));obtain ⟨y2,kv2,H2,hy2,ry2,rk2,dk2,same2,M2⟩:=hR;obtain ⟨c2,gS2⟩:=id M2.gS;show wpAny _ X.A.in1 (updateSeq S (fun _=>#[item2,val2]) >>= _) _ _ s2;refine wpAny_bind ?_;refine wpAny_updateSeq gS2 rfl ?_;rw [hname];have ot:∀ b o,b≠S->s2.heap.get? b=some o->(s2.heap.update S (Obj.mapSeq fun _=>#[item2,val2])).get? b=some o:=fun b o h2 e=>(Heap.get?_update_other _ _ (Ne.symm h2)).trans e;obtain ⟨oi,gi,ci,di⟩:=id M2.gI;refine wpAny_pure ⟨plainId_quiet F.plain_max_loop _,xAmc hcall hsp hu hh I hp hi hS hIS nI nS fin' _ 1 H2 _ 0 y2 item2 val2 kv2 rfl (by omega) (by omega) ⟨M2.un.later fun b o hb e=>ot b o (qi (qq hb hS)) e,M2.hok.other (fun b u hb e=>ot b u hb e) M2.fS,M2.os,M2.bare,M2.same,M2.fI,M2.fS,⟨oi,ot _ _ hIS gi,ci,di⟩,_,Heap.get?_update_self _ gS2 rfl⟩ (by omega) hy2 ry2 rk2 dk2 fun i hi'=>?_⟩
 have:i=0:=by omega
 rw [this];exact xAcq _
def tMaxL (K:PySem.W.Frag) (ln cl:Nat) (q:Str) (P:Addr) (i:Nat) (tb:TE) (t:TA):TE:=fun σ H Q=>t σ H fun vs H1=>Tb ln cl q P H1/\∀ H2,Tb ln cl q P H2->Same (del H1 P) (del H2 P)->∃ p ys vz,∃ D:Nat->List Int,vs=[.ref p]/\SqL K H2 p ys/\0<ys.length/\σ[i]?=some (some vz) ∧
 (∀ (m:Nat) y H' (Q':VK),ys[m]?=some y->Same H2 H'->(∀ H'' kv,Same H' H''->DV K H'' kv (.tuple ((D m).map PyData.int))->Q' kv H'')->tb [some y,some vz] H' Q') ∧
 ∀ (m:Nat) y Hn,ys[m]?=some y->(∀ j,j<ys.length->ltD (.tuple ((D m).map PyData.int)) (.tuple ((D j).map PyData.int))=false)->Same H2 Hn->Q y Hn
end
section
variable {X:Cx} {k:Nat}
theorem xAte {x y z:Str} {i:Nat} {e body:Expr} {params:Arguments} {scope:Scope} {c P:Addr} {p lpos kp pos:Pos} {t:TA} {tb:TE} (hcode:X.env.code=.ref c) (hC:codeHdIn X.K c P=true) (hB:X.base.BuiltinsAt X.mg P) (hr:Room (k+2) X.A)
  (hg:Gl X x) (hm:X.mg x=none) (hv:bootBuiltins x=some (.builtin "max"))
  (S:LamSc y z scope) (hN:X.N[i]?=some z) (hk:X.env.kindOf z=some .cell) (hX:∀ x,X.env.kindOf x=some .cell->∃ c,X.env.cells.lookup x=some c) (hcm:X.calm=true) (hfn:X.fn z=true) (hbind:∀ cl pm cd ctv x,bindArgs (kla_fn "<lambda>" (X.env.qual++"<lambda>") params body scope cl pm cd ctv) ⟨[x],[]⟩=pure [(y,x)])
  (hb:∀ cl f cd A outer s H,Room k (cxLam X.prog X.w X.K X.mg X.base y z (X.env.qual++"<lambda>") scope cl f cd A outer s H).A->PE (cxLam X.prog X.w X.K X.mg X.base y z (X.env.qual++"<lambda>") scope cl f cd A outer s H) body tb) (ha:PA X [e] t)
  (hdef:defaultsOf params X.env=([],[]):=by rfl)
  (hn:x≠"__name__":=by decide) (hdb:(x==("__debug__":Str))=false:=by decide)
  (he:starEach [e] X.env=(false,eval e X.env)::starEach [] X.env:=by rfl):PE X (.Call (.Name x p) [e] [⟨some "key",.Lambda params body scope lpos,kp⟩] pos) (tMaxL X.K lpos.line lpos.col (X.env.qual++"<lambda>") P i tb t):=by
 intro pins s σ H Q I h;obtain ⟨cz,hcz⟩:=hX z hk
 have hfree:∀ y∈scope.names,y.2=.free->∃ c,X.env.cells.lookup y.1=some c:=fun n hn e=>by rw [S.fr n hn e];exact ⟨cz,hcz⟩
 have hcl:=xAcw hfree;have hsub:=xAhs hfree (acc:=[]) (fun x c e=>by cases e)
 have honly:∀ n a,(clo X.env scope.names []).lookup n=some a->n=z/\a=cz:=fun n a e=>by
  rcases xAha e with q | q
  ·have hnz:n=z:=S.fr _ q rfl
   have:=hsub n a e;rw [hnz,hcz] at this;exact ⟨hnz,(Option.some.inj this).symm⟩
  ·cases q
 have hzc:(clo X.env scope.names []).lookup z=some cz:=by
  obtain ⟨c',hc'⟩:=xAht (env:=X.env) (acc:=[]) (.inl (PySem.mem_of_lookup S.lz));rw [hc',(honly z c' hc').2]
 refine wpAny_Call_Name_kw (xAja I hg hm hv ?_ hn hdb);refine callWith_kw (thn (ha pos pins s σ H _ I h) fun us s1 ⟨vs,H1,I1,r1,hT,q1⟩=>kws_cons (xApl I1 hcode hC hB hT hdef hcl fun f c' ctv pm s2 H2 I2 hT2 hc2 sm hf nf of=>kws_nil ?_)) (by rw [he];rfl) (by rw [he];rfl);obtain ⟨p,ys,vz,D,rfl,hq,hn0,hσ,hsp,fin⟩:=q1 H2 hT2 sm;obtain ⟨u0,rfl,ru0⟩:=vals1 r1;cases ru0;obtain ⟨m0,hn1,hl⟩:=I2.loc;obtain ⟨uz,ruz,look⟩:=hl i z vz hN hσ (.inr (.inl hk))
 have hcell:s2.heap.IsCell cz (some uz):=by
  rcases look with ⟨kk,_⟩ | ⟨_,c2,hc2',hcell⟩
  ·rw [hk] at kk;cases kk
  ·rw [hcz] at hc2';cases hc2';exact hcell
 have hczn:=I2.freeC z cz hcz
 have nstk:cz∉frs X.stack:=I2.stkNot (I2.cne z cz hcz) (fun hm=>by
  obtain ⟨_,o,ho,_⟩:=I2.ok.funs.mem hm
  exact absurd (qq (Heap.lt_size ho) (I2.ok.cab z cz hfn hcz)) (zm _))
 refine xAoe (C:=fun Hm y Q=>tb [some y,some vz] Hm Q) (fun s' Hm x y Q e0 un same r1 hsp=>?_) hsp (by have:=hr.un;omega) (I2.ok.hd hcm) I2 hq hn0 fin;have hcr:s'.heap.CodeRec (.ref c') (X.env.qual++"<lambda>"):=(e0.hok c' _ (same _ _ hc2)).1;obtain ⟨oc,ec,dc⟩:=hcell;exact xAio hr.in1 e0 (un.keep f _ of hf nf (by simp)) hcr S (hbind _ _ _ _ _) r1 honly hzc ⟨oc,un.keep cz _ ec hczn nstk (by simp),dc⟩ (un.free cz _ ec hczn (by simp)) ruz (hb _ _ _ _ _ _ _ (hr.in1.deeper _)) hsp
end
def tDisp1G (tk tv:TE):TE:=fun σ H Q=>∀ p H0,H p=none->Same H H0->H0 p=some (.dG [])->tk σ H0 fun x H1=>tv σ H1 fun y H2=>H2 p=some (.dG [])/\∃ k,GK H2 k x/\Q (.ref p) (upd H2 p (.dG [(k,x,y)]))
section
variable {X:Cx}
theorem xAiq {k v:Expr} {tk tv:TE} {pos:Pos} (hu:X.A.units+2<cLine) (hk:PE X k tk) (hv:PE X v tv):PE X (.Dict [some k] [v] pos) (tDisp1G tk tv):=by
 intro pins s σ H Q I q;have hn:=I.hok.fresh (qc s.heap.objs.size);have I1:=I.laid (a:=s.heap.objs.size) (o:=.dG []) (h':=s.heap.push { cls:=.type "dict",data:=.dict #[] }) (t':=s.toks) (fun _ _ q=>Heap.get?_push_of_some _ q) (qc _) (xAlk s.heap I.big);rw [arm_eval_Dict,zip_pairTrees [some k] [v] X.env pos rfl rfl,dictDisplay_pairs (pairTrees [some k] [v] X.env pos) (by simp [pairTrees]) (by rw [pairTrees_length [some k] [v] X.env pos rfl rfl];exact Nat.le_of_ble_eq_true rfl)];refine wpAny_bind (wpAny_standAt (wpAny_bind ?_));unfold subDict;refine wpAny_bind (wpAny_alloc ?_);refine wpAny_bind (wpAny_holding ?_);rw [if_pos (by rw [pairTrees_length [some k] [v] X.env pos rfl rfl];exact vd rfl)];refine wpAny_bind (pairTrees_cons_walk (thn (hk pins _ σ _ _ I1 (q _ _ hn (Same.new hn) xAad)) fun u s1 ⟨x,H1,I2,rx,q1⟩=>thn (hv pins s1 σ H1 _ I2 q1) fun w2 s2 ⟨y,H2,I3,ry,e,kd,gk,q2⟩=>pairTrees_nil_walk ?_));obtain ⟨z,hd,xs,rel,dd⟩:=gd_rd I3 (.inl e);cases rel;refine wpAny_holding ?_;refine wpAny_bind ?_;rw [yx];refine wpAny_bind (wpAny_bind (xAlh (by omega) (gk.is I3 rx) dd (q5 _) fun h' dd' hs'=>wpAny_pure ?_));show wpAny _ _ (forIn [] _ _) _ _ _;rw [List.forIn_nil];refine wpAny_pure (wpAny_pure (wpAny_pure (wpAny_pure ?_)));obtain ⟨o,es,ep,hq,h2,h3,h4,_,h5⟩:=dd';refine ⟨.ref s.heap.objs.size,_,xAfr (ob:=.dG [(kd,x,y)]) I3 (by rw [e];exact True.intro) hs' ⟨o,hq⟩ ⟨by show 1≤sizeLine;decide,hd,_,Paired.mapP (xAnv (l:=[]) (m:=[]) .nil gk rx ry) fun p q z=>⟨z.1,z.2.1.stay fun b xs hb=>?_,z.2.2⟩,o,es,ep,hq,h2,h3,h4,h5⟩,rfl,q2⟩;rw [xAae (ne_of hb e (fun z=>nomatch z))];exact hb
end
def cadr (K:PySem.W.Frag) (x:Str):Addr:=match nsIn K mainGlobals x with
 | some (some (.ref a))=>a
 | _=>0
theorem xAtf {K:PySem.W.Frag} {x:Str} {a:Addr} (h:nsIn K mainGlobals x=some (some (.ref a))):cadr K x=a:=by unfold cadr;rw [h]
theorem xAtg {K:PySem.W.Frag} {h:Heap} {mg:Str->Option Value} {x:Str} {a:Addr} (X:K.In h) (G:h.Ns mainGlobals mg) (z:nsIn K mainGlobals x=some (some (.ref a))):mg x=some (.ref (cadr K x)):=by rw [xAtf z];exact PySem.W.mg_of X G z
def keyV:Key->Value->Bool
 | .inl i,.int j _=>decide (i=j)
 | .inr z,.str y _=>decide (z=y)
 | _,_=>false
def keysV:List Key->List Value->Bool
 | [],[]=>true
 | k::ks,v::vs=>keyV k v&&keysV ks vs
 | _,_=>false
def tupIs (o:Obj) (ks:List Key):Bool:=match o with
 | ⟨.type t,none,.seq its _,_⟩=>t=="tuple"&&keysV ks its.toList
 | _=>false
def cstOk (K:PySem.W.Frag) (x:Str) (ks:List Key):Bool:=match K.lookup (cadr K x) with
 | some o=>tupIs o ks
 | none=>false
theorem xAga:∀ {ks:List Key} {vs:List Value},keysV ks vs=true->Vals (ks.map kV) vs
 | [],[],_=>.nil
 | [],_::_,h=>by cases h
 | _::_,[],h=>by cases h
 | k::ks,v::vs,h=>by
  have h:(keyV k v&&keysV ks vs)=true:=h;rw [za] at h;refine .cons ?_ (xAga h.2)
  cases k with
  | inl i=>cases v <;> first | (have:=of_decide_eq_true h.1;subst this;exact ⟨_,rfl⟩) | exact absurd h.1 qm
  | inr z=>cases v <;> first | (have:=of_decide_eq_true h.1;subst this;exact ⟨_,rfl⟩) | exact absurd h.1 qm
theorem xAqw {P:Program} {w:World} {H:Hp} {h:Heap} {a:Addr} {o:Obj} {ks:List Key} (e:h.get? a=some o) (t:tupIs o ks=true) (hl:ks.length≤sizeLine):ObjOk P w H h a (.tup (ks.map kV)):=by
 obtain ⟨c,d,dt,sl⟩:=o
 cases c <;> cases d <;> cases dt <;> first | exact absurd t qm | skip
 rename_i ty its n
 have t:(ty=="tuple"&&keysV ks its.toList)=true:=t;rw [za] at t;have e1:=beq_iff_eq.mp t.1;subst e1;exact ⟨by rw [List.length_map];exact hl,its.toList,xAga t.2,⟨_,e,rfl,n,by simp⟩⟩
theorem xAir:∀ {ks ls:List Key} {vs:List Value},keysV ks vs=true->keysV ls vs=true->ks=ls
 | [],[],_,_,_=>rfl
 | [],_::_,[],_,h=>by cases h
 | [],_::_,_::_,h,_=>by cases h
 | _::_,[],[],h,_=>by cases h
 | _::_,[],_::_,_,h=>by cases h
 | _::_,_::_,[],h,_=>by cases h
 | k::ks,l::ls,v::vs,h,g=>by
  have h:(keyV k v&&keysV ks vs)=true:=h;have g:(keyV l v&&keysV ls vs)=true:=g;rw [za] at h g;rw [xAir h.2 g.2]
  congr 1
  cases k <;> cases l <;> cases v <;> first
   | exact absurd h.1 qm
   | exact absurd g.1 qm
   | (have a:=of_decide_eq_true h.1;have b:=of_decide_eq_true g.1;rw [a,b])
theorem xAof {o:Obj} {ks ls:List Key} (h:tupIs o ks=true) (g:tupIs o ls=true):ks.map kV=ls.map kV:=by
 obtain ⟨c,d,dt,sl⟩:=o
 cases c <;> cases d <;> cases dt <;> first | exact absurd h qm | skip
 rename_i ty its n
 have h:(ty=="tuple"&&keysV ks its.toList)=true:=h;have g:(ty=="tuple"&&keysV ls its.toList)=true:=g;rw [za] at h g;rw [xAir h.2 g.2]
def OnlyM (Ps:List Addr) (M:Addr->Option (List V)) (H:Hp):Prop:=∀ b,(b∈Ps/\H b=some (.tbl #[]))\/(b∉Ps/\∃ xs,M b=some xs/\H b=some (.tup xs))\/(b∉Ps/\M b=none/\(H b=none\/∃ o xs,H b=some (.frz o (.lst xs))))
theorem xAog {P:Program} {w:World} {K:PySem.W.Frag} {mg mb:Str->Option Value} {CX:CXT} {k:Nat} {fa a:Addr} {fd:FuncData} {x:Str} {sp:Sp} {s₁:Shared} {vs:List Value} {ns:List Int} {Ps:List Addr} {M:Addr->Option (List V)}
  (KX:K.In s₁.heap) (hns:s₁.heap.Ns mainGlobals mg) (hb:s₁.heap.Ns builtinsNs mb) (hbb:∀ x:Str,x≠"__name__"->mb x=bootBuiltins x) (hlim:s₁.heap.NoLimit) (hg:s₁.gens=#[])
  (hnt:noTabs K=true) (hPs:∀ Q∈Ps,s₁.heap.get? Q=some (tabObj #[])/\isCodeTable s₁.heap Q) (hbm:∀ Q∈Ps,s₁.heap.BuiltinsAt mg Q)
  (hMt:∀ b xs,M b=some xs->∃ o ks,K.lookup b=some o/\tupIs o ks=true/\ks.length≤sizeLine/\xs=ks.map kV)
  (ha:s₁.heap.get? a=some { cls:=.type "list",data:=.seq vs.toArray }) (hi:IntsAre vs ns) (hl:ns.length≤sizeLine) (hr:Room k callerA)
  (F:∀ base:Heap,K.In base->base.Ns mainGlobals mg->(∀ Q∈Ps,base.BuiltinsAt mg Q)->FnOk P w K mg base CX k fa fd [x] sp) (hbind:∀ (s:Shared) (u:Value),BindsTo s fd ⟨[u],[]⟩ [(x,u)])
  (hsp:∀ H:Hp,OnlyM Ps M H->SqL K H a (ns.map V.int)->sp [.ref a] H (fun v _=>v=.bl true) fun _ _ _=>False)
  (hCX:∀ H e s',CX [] H s₁ (fun _ _ _=>False) e s'->False) :
  codeAny (model P w) callerA (.call (.ref fa) ⟨[.ref a],[]⟩) (fun r s'=>r=.ok (.ret (.bool true))/\OldK s₁.heap s'.heap/\s'.os=s₁.os/\AllBare s'.gens) s₁:=by
 have rv:=xAhq hi;have lenV:=hi.length
 have naP:a∉Ps:=fun z=>by
  have:=(hPs a z).1;rw [ha] at this;cases this
 have kP:∀ Q∈Ps,K.lookup Q=none:=fun Q hQ=>by
  cases q:K.lookup Q with
  | none=>rfl
  | some o =>
   have e:=KX Q o q;rw [(hPs Q hQ).1] at e;cases e;have h2:=List.all_eq_true.mp hnt (Q,_) (mem_of_lookupK q);exact absurd (show false=true from h2) qm
 have mP:∀ b xs,M b=some xs->b∉Ps:=fun b xs e z=>by
  obtain ⟨o,ks,h1,_⟩:=hMt b xs e;rw [kP b z] at h1;cases h1
 have ma:M a=none:=by
  cases q:M a with
  | none=>rfl
  | some xs =>
   obtain ⟨o,ks,h1,h2,_⟩:=hMt a xs q;have e:=KX a o h1;rw [ha] at e;cases e;have h2:(("list"=="tuple")&&keysV ks vs.toArray.toList)=true:=h2;rw [za] at h2;exact absurd h2.1 (by decide)
 have core:∀ H:Hp,OnlyM Ps M H->SqL K H a (ns.map V.int)->HOk P w H s₁.heap->(∀ b,H b≠none->b=a\/b∈Ps\/∃ xs,M b=some xs)->(H a≠none->K.lookup a=none) →
   codeAny (model P w) callerA (.call (.ref fa) ⟨[.ref a],[]⟩) (fun r s'=>r=.ok (.ret (.bool true))/\OldK s₁.heap s'.heap/\s'.os=s₁.os/\AllBare s'.gens) s₁:=by
  intro H hO hS hok hA hK
  let H0:Hp:=fun b=>if (M b).isSome=true then none else H b
  have H0n:∀ b,H b=none->H0 b=none:=fun b e=>by
   show (if (M b).isSome=true then none else H b)=none
   split
   ·rfl
   ·exact e
  have H0m:∀ b xs,M b=some xs->H0 b=none:=fun b xs e=>by
   show (if (M b).isSome=true then none else H b)=none;rw [e];rfl
  have base_of:∀ {b:Addr} {o:Obj},s₁.heap.get? b=some o->H0 b=none->(hidT s₁.heap H0).get? b=some o:=fun e n=>xAps e n
  have none_of:∀ {b:Addr} {o:Obj},s₁.heap.get? b=some o->(∀ xs y,o.data≠.seq xs y)->o.data≠.fields #[]->H b=none:=fun {b o} e d1 d2=>by
   cases q:H b with
   | none=>rfl
   | some u =>
    rcases hA b (by rw [q];simp) with e' | e' | ⟨xs,e'⟩
    ·subst e'
     rw [ha] at e;cases e;exact absurd rfl (d1 _ _)
    ·rw [(hPs b e').1] at e;cases e
     exact absurd rfl d2
    ·rcases hO b with ⟨_,z⟩ | ⟨_,ys,_,z⟩ | ⟨_,z,_⟩
     ·exact absurd (by assumption) (mP b xs e')
     ·obtain ⟨_,its,_,o',ho',_,n,hd'⟩:=(show ObjOk P w H s₁.heap b (.tup ys) from hok b _ z)
      rw [e] at ho';cases ho';exact absurd hd' (d1 _ _)
     ·rw [e'] at z;cases z
  have nsK:∀ {b:Addr} {m:Str->Option Value},s₁.heap.Ns b m->(hidT s₁.heap H0).Ns b m:=fun {b m} ⟨o,es,ep,e,d,r⟩=>⟨o,es,ep,base_of e (H0n _ (none_of e (fun xs y z=>by rw [d] at z;cases z) (fun z=>by rw [d] at z;cases z))),d,r⟩
  have hKb:K.In (hidT s₁.heap H0):=fun b o e=>base_of (KX b o e) (by
   cases q:H b with
   | none=>exact H0n b q
   | some u =>
    rcases hA b (by rw [q];simp) with e' | e' | ⟨xs,e'⟩
    ·subst e'
     rw [hK (by rw [q];simp)] at e;cases e
    ·rw [kP b e'] at e;cases e
    ·exact H0m b xs e')
  have hBb:∀ Q∈Ps,(hidT s₁.heap H0).BuiltinsAt mg Q:=fun Q hQ=>by
   obtain ⟨bm,ob,b1,b2,b3,b4,b5,b6,b7,b8⟩:=hbm Q hQ;exact ⟨bm,ob,b1,b2,b3,b4,base_of b5 (H0n _ (none_of b5 (fun xs y z=>by rw [b8] at z;cases z) (fun z=>by rw [b8] at z;cases z))),b6,b7,b8⟩
  have hM:Mod K mg (hidT s₁.heap H0):=⟨hKb,nsK hns,⟨mb,nsK hb,hbb⟩,let ⟨mc,h1,h2⟩:=hlim;⟨mc,nsK h1,h2⟩⟩
  have hbs:∀ b o,(hidT s₁.heap H0).get? b=some o->s₁.heap.get? b=some o/\(H b=none\/∃ xs,H b=some (.tup xs)):=fun b o e=>by
   obtain ⟨h1,h2⟩:=xArs e;refine ⟨h1,?_⟩;rcases hO b with ⟨hbP,z⟩ | ⟨_,xs,_,z⟩ | ⟨_,z,_⟩
   ·have h2':(if (M b).isSome=true then none else H b)=none:=h2
    have mb:M b=none:=by
     cases q:M b with
     | none=>rfl
     | some xs=>exact absurd hbP (mP b xs q)
    rw [mb,if_neg (by decide),z] at h2';cases h2'
   ·exact .inr ⟨xs,z⟩
   ·have h2':(if (M b).isSome=true then none else H b)=none:=h2
    rw [z,if_neg (by decide)] at h2';exact .inl h2'
  have e0:Env0 P w K mg (hidT s₁.heap H0) callerA [] s₁ H:=⟨rfl,hM,hbs,Nat.le_of_eq (xAmw _ _),trivial,fun b hb=>absurd (show b∈([]:List Addr) from hb) (by simp),hok,.of_eq hg⟩;refine codeAny_mono ((F _ hKb (nsK hns) hBb).run callerA [] s₁ H ⟨[.ref a],[]⟩ [.ref a] [.ref a] _ _ hr e0 (hbind s₁ (.ref a)) (.cons rfl .nil) (hsp H hO hS)) fun r s' h=>?_
  cases r with
  | error e=>exact (hCX H e s' h).elim
  | ok fl =>
   cases fl with
   | next=>exact False.elim h
   | brk=>exact False.elim h
   | cont=>exact False.elim h
   | ret u =>
    obtain ⟨v,H',os,bare,un,hok',r',q⟩:=h;have q':v=.bl true:=q;subst q';obtain rfl:u=Value.bool true:=r';refine ⟨rfl,⟨fun b o e=>?_,fun b o e=>un.there b o e (by simp)⟩,os,bare⟩;rcases hO b with ⟨hbP,z⟩ | ⟨_,xs,_,z⟩ | ⟨_,_,z | ⟨ob,xs,z⟩⟩
    ·obtain ⟨more,z2⟩:=un.tbls b _ z
     have e2:s'.heap.get? b=some { cls:=.none,data:=.fields (#[]++more) }:=hok' b _ z2;rw [(hPs b hbP).1] at e;cases e;exact .inr (.inl ⟨(hPs b hbP).2,rfl,#[],more,rfl,e2⟩)
    ·exact .inl (un.tupo b o xs e z)
    ·exact .inl (un.keep b o e z (by intro y;exact absurd (show b∈([]:List Addr) from y) (by simp)) (by simp))
    ·have z2:=un.frzs b ob _ z
     obtain ⟨e1,_⟩:=hok b _ z;obtain ⟨e2,_⟩:=hok' b _ z2;rw [e] at e1;cases e1;exact .inl e2
 have start_ok:∀ sc:Option HO,(∀ u,sc=some u->ObjOk P w (fun b=>if b∈Ps then some (.tbl #[]) else match M b with | some xs=>some (.tup xs) | none=>if b=a then sc else none) s₁.heap a u) →
   HOk P w (fun b=>if b∈Ps then some (.tbl #[]) else match M b with | some xs=>some (.tup xs) | none=>if b=a then sc else none) s₁.heap:=fun sc hsc b u z=>by
  by_cases hb:b∈Ps
  ·have z':=(if_pos hb).symm.trans z
   cases z';exact (hPs b hb).1
  ·have z1:=(if_neg hb).symm.trans z
   cases hm:M b with
   | some xs =>
    simp only [hm] at z1
    cases z1;obtain ⟨o,ks,h1,h2,h3,rfl⟩:=hMt b xs hm;exact xAqw (KX b o h1) h2 h3
   | none =>
    simp only [hm] at z1
    by_cases hba:b=a
    ·rw [if_pos hba] at z1
     subst hba;exact hsc u z1
    ·rw [if_neg hba] at z1;cases z1
 have start_only:∀ sc:Option HO,(sc=none\/∃ o xs,sc=some (.frz o (.lst xs)))->OnlyM Ps M (fun b=>if b∈Ps then some (.tbl #[]) else match M b with | some xs=>some (.tup xs) | none=>if b=a then sc else none):=fun sc hsc b=>by
  by_cases hb:b∈Ps
  ·exact .inl ⟨hb,if_pos hb⟩
  ·cases hm:M b with
   | some xs=>exact .inr (.inl ⟨hb,xs,rfl,(if_neg hb).trans (by simp only [hm])⟩)
   | none =>
    refine .inr (.inr ⟨hb,rfl,?_⟩)
    by_cases hba:b=a
    ·have:(if b∈Ps then some (.tbl #[]) else match M b with | some xs=>some (.tup xs) | none=>if b=a then sc else none)=sc:=(if_neg hb).trans (by simp only [hm];rw [if_pos hba])
     rcases hsc with z | ⟨o,xs,z⟩
     ·exact .inl (this.trans z)
     ·exact .inr ⟨o,xs,this.trans z⟩
    ·exact .inl ((if_neg hb).trans (by simp only [hm];rw [if_neg hba]))
 have start_in:∀ sc:Option HO,∀ b,(if b∈Ps then some (.tbl #[]) else match M b with | some xs=>some (.tup xs) | none=>if b=a then sc else none)≠none->b=a\/b∈Ps\/∃ xs,M b=some xs:=fun sc b z=>by
  by_cases hb:b∈Ps
  ·exact .inr (.inl hb)
  ·cases hm:M b with
   | some xs=>exact .inr (.inr ⟨xs,rfl⟩)
   | none =>
    by_cases hba:b=a
    ·exact .inl hba
    ·exact absurd ((if_neg hb).trans (by simp only [hm];rw [if_neg hba])) z
 have start_a:∀ sc:Option HO,(if a∈Ps then some (.tbl #[]) else match M a with | some xs=>some (.tup xs) | none=>if a=a then sc else none)=sc:=fun sc=>(if_neg naP).trans (by simp only [ma];exact if_pos trivial)
 cases hk:K.lookup a with
 | some o =>
  have e:=KX a o hk;rw [ha] at e;cases e;exact core _ (start_only none (.inl rfl)) (.inr ⟨_,vs.toArray,_,hk,rfl,rfl,rfl,by rw [List.size_toArray,lenV];exact hl,by simpa using rv⟩) (start_ok none fun u z=>by cases z) (start_in none) fun z=>absurd (start_a none) z
 | none =>
  exact core _ (start_only (some (.frz { cls:=.type "list",data:=.seq vs.toArray } (.lst (ns.map V.int)))) (.inr ⟨_,_,rfl⟩)) (.inl (.inr ⟨{ cls:=.type "list",data:=.seq vs.toArray },start_a _⟩)) (start_ok _ fun u z=>by
   cases z
   exact ⟨ha,by rw [qf];exact hl,vs,_,rv,ha⟩) (start_in _) fun _=>hk
theorem walk_ofM {l:PySem.W.OpenLaw} {n k:Nat} {q:Program} {loose:List Str} {XP:(Str->Option Value)->Heap->Prop} {YP:World->Heap->Prop} {d:DefRec} {K:Params->PySem.W.Frag} {CX:CXT} {sp:PySem.W.Frag->Sp} {x:Str} {Ps:List Addr} (ts:List Str) (cs:List (Str×List Key))
  (hn:l.most=some n) (hn2:n≤sizeLine) (hdf:d.params.defaults=[]) (hr:Room k callerA)
  (hY:∀ (w:World) (h:Heap),YP w h->(K w.params).In h) (hYT:∀ (w:World) (h:Heap),YP w h->∀ Q∈Ps,h.get? Q=some (tabObj #[]))
  (hC:∀ w:World,∀ Q∈Ps,∃ t∈ts,codeHdIn (K w.params) (tabC (K w.params) t) Q=true) (hnt:∀ w:World,noTabs (K w.params)=true) (htp:∀ w:World,∀ t∈ts,tabP (K w.params) t∈Ps)
  (hcs:∀ w:World,∀ c∈cs,cstOk (K w.params) c.1 c.2=true) (hcl:∀ c∈cs,c.2.length≤sizeLine)
  (F:∀ (w:World) (mg:Str->Option Value) (fa:Addr) (h:Heap),(K w.params).In h->h.Ns mainGlobals mg->mg d.name=some (.ref fa) →
   ∃ fd:FuncData,(∀ (s:Shared) (u:Value),BindsTo s fd ⟨[u],[]⟩ [(x,u)]) ∧
    ∀ base:Heap,(K w.params).In base->base.Ns mainGlobals mg->(∀ t∈ts,base.BuiltinsAt mg (tabP (K w.params) t))->FnOk l.prog w (K w.params) mg base CX k fa fd [x] (sp (K w.params)))
  (hsp:∀ (K:PySem.W.Frag) (H:Hp) (a:Addr) (ns:List Int),ns.length≤n->(∀ t∈ts,H (tabP K t)=some (.tbl #[]))->(∀ c∈cs,H (cadr K c.1)=some (.tup (c.2.map kV)))->SqL K H a (ns.map V.int)->sp K [.ref a] H (fun v _=>v=.bl true) fun _ _ _=>False)
  (hCX:∀ (H:Hp) (s:Shared) (e:Value) (s':Shared),CX [] H s (fun _ _ _=>False) e s'->False) :
  PySem.W.WalkO q loose XP YP l.row.toRowW d [] (fun f vs=>PySem.call f vs):=by
 refine Att.attach_call hn hdf fun w s₀ s₁ mg mb fa o pm cd doc a vs ns G Y ho hd hcd hmg hobj hints hlen hg=>?_;have KX:=hY w _ Y;obtain ⟨fd,hb,hF⟩:=F w mg fa _ KX G.T.g hmg;have hT:=hYT w _ Y
 have hbm:∀ Q∈Ps,s₁.heap.BuiltinsAt mg Q:=fun Q hQ=>by
  obtain ⟨bm,ob,b1,b2,b3,b4,b5,b6⟩:=G.T.bmain;refine ⟨bm,ob,b1,b2,fun q=>?_,fun q=>?_,b3,b4,b5,b6⟩
  ·obtain ⟨o,es,ep,e,hd,_⟩:=G.T.g
   rw [q,e] at b3;cases b3;rw [hd] at b6;cases b6
  ·rw [q,hT Q hQ] at b3;cases b3;cases b4
 let M:Addr->Option (List V):=fun b=>(cs.find? fun c=>decide (cadr (K w.params) c.1=b)).map fun c=>c.2.map kV
 have hMc:∀ b xs,M b=some xs->∃ c∈cs,cadr (K w.params) c.1=b/\xs=c.2.map kV:=fun b xs e=>by
  obtain ⟨c,hc,rfl⟩:=zt.mp e;exact ⟨c,List.mem_of_find?_eq_some hc,by simpa using List.find?_some hc,rfl⟩
 have look:∀ c∈cs,∃ o,(K w.params).lookup (cadr (K w.params) c.1)=some o/\tupIs o c.2=true:=fun c hc=>by
  have h:=hcs w c hc;unfold cstOk at h
  cases q:(K w.params).lookup (cadr (K w.params) c.1) with
  | none=>rw [q] at h;exact absurd h qm
  | some o=>rw [q] at h;exact ⟨o,rfl,h⟩
 refine xAog (M:=M) KX G.T.g G.T.b G.T.builtins G.T.nolimit hg (hnt w) (fun Q hQ=>⟨hT Q hQ,(((codeHd_of_K KX (hC w Q hQ).choose_spec.2)).tab (hT Q hQ)).isCodeTable⟩) hbm (fun b xs e=>?_) hobj hints (qk hlen hn2) hr (fun base h1 h2 h3=>hF base h1 h2 fun t ht=>h3 _ (htp w t ht)) hb (fun H hO hS=>hsp (K w.params) H a ns hlen (fun t ht=>?_) (fun c hc=>?_) hS) fun H e s'=>hCX H s₁ e s'
 ·obtain ⟨c,hc,rfl,rfl⟩:=hMc b xs e
  obtain ⟨o,h1,h2⟩:=look c hc;exact ⟨o,c.2,h1,h2,hcl c hc,rfl⟩
 ·rcases hO (tabP (K w.params) t) with z | z | z
  ·exact z.2
  ·exact absurd (htp w t ht) z.1
  ·exact absurd (htp w t ht) z.1
 ·obtain ⟨o,h1,h2⟩:=look c hc
  have nP:cadr (K w.params) c.1∉Ps:=fun z=>by
   have e:=KX _ _ h1;rw [hT _ z] at e;cases e;exact absurd h2 qm
  obtain ⟨xs,hM⟩:∃ xs,M (cadr (K w.params) c.1)=some xs:=by
   cases q:cs.find? (fun c'=>decide (cadr (K w.params) c'.1=cadr (K w.params) c.1)) with
   | none=>exact absurd (List.find?_eq_none.mp q c hc) (by simp)
   | some c'=>exact ⟨_,congrArg (Option.map _) q⟩
  obtain ⟨c',hc',e1,rfl⟩:=hMc _ _ hM;obtain ⟨o',h1',h2'⟩:=look c' hc';rw [e1,h1] at h1';cases h1';have ek:c'.2.map kV=c.2.map kV:=xAof h2' h2;rcases hO (cadr (K w.params) c.1) with z | ⟨_,ys,hy,z⟩ | ⟨_,z,_⟩
  ·exact absurd z.1 nP
  ·rw [hM] at hy
   cases hy;rw [z,ek]
  ·rw [hM] at z;cases z
end L2
namespace My
open PySem L2 PyProof.Rows
theorem szOk {n:Nat} (h:Nat.ble n 1000=true):n≤sizeLine:=zv (xAba (vd h))
theorem big {n:Nat} (h:n≤1000):n≤sizeLine:=zv (xAba h)
theorem itT {c:Bool} {A B:Prop} (h:c=true) (a:A):if c=true then A else B:=by rw [if_pos h];exact a
theorem itF {c:Bool} {A B:Prop} (h:c=false) (b:B):if c=true then A else B:=by rw [if_neg (by rw [h];decide)];exact b
def kP:Key->PyData
 | .inl i=>.int i
 | .inr s=>.str s
theorem xAqx {H:Hp}:∀ ks:List Key,DTs H (ks.map kV) (ks.map kP)
 | []=>.nil
 | .inl i::ks=>.cons (.int i) (xAqx ks)
 | .inr s::ks=>.cons (.str s) (xAqx ks)
theorem xApm {H:Hp}:∀ {vs:List V} {ds:List PyData} {m:Nat} {v:V} {d:PyData},DTs H vs ds->vs[m]?=some v->ds[m]?=some d->DT H v d
 | _,_,0,_,_,.cons a _,e1,e2=>by cases e1;cases e2;exact a
 | _,_,m+1,_,_,.cons _ b,e1,e2=>xApm (m:=m) b (by simpa using e1) (by simpa using e2)
theorem xAhb {H:Hp} {x:V} {d:PyData} (h:DT H x d):∀ {xs:List V} {ds:List PyData},DTs H xs ds->DTs H (xs++[x]) (ds++[d])
 | _,_,.nil=>.cons h .nil
 | _,_,.cons a t=>.cons a (xAhb h t)
theorem xAch {α β:Type}:∀ (es xs:List (KD×α×β)),((xs++es).map (·.1)).Nodup->putAll xs es=xs++es
 | [],xs,_=>(we xs).symm
 | e::es,xs,h=>by
  have hn:∀ x∈xs,x.1≠e.1:=fun x hx z=>by
   rw [zg,qz] at h;exact (zp.mp h).2.2 x.1 (qd.mpr ⟨x,hx,rfl⟩) e.1 qh z
  have hv:=xAec hn
  have hp:pG xs e.1 e.2.1 e.2.2=xs++[e]:=by
   unfold pG;rw [hv,if_neg (fun z=>nomatch z)]
  show putAll (pG xs e.1 e.2.1 e.2.2) es=_;rw [hp,xAch es (xs++[e]) (by rw [yf];exact h),yf];rfl
def tD (ks:List Key):PyData:=.tuple (ks.map kP)
theorem noB_kP:∀ k:Key,noB (kP k)=true
 | .inl _=>rfl
 | .inr _=>rfl
theorem xAoh (ks:List Key):noB (tD ks)=true:=by
 show noB (.tuple (ks.map kP))=true;rw [noB]
 exact xAkv fun d hd=>by obtain ⟨k,_,rfl⟩:=qd.mp hd;exact noB_kP k
theorem xAbt (ks:List Key):(tD ks).depth≤1:=by
 have:PyData.depthAll (ks.map kP)≤0:=xAcx fun d hd=>by
  obtain ⟨k,_,rfl⟩:=qd.mp hd;cases k <;> exact qc 0
 show PyData.depthAll (ks.map kP)+1≤1;omega
theorem kP_inj:∀ {a b:Key},kP a=kP b->a=b
 | .inl _,.inl _,h=>by injection h with h;rw [h]
 | .inl _,.inr _,h=>by cases h
 | .inr _,.inl _,h=>by cases h
 | .inr _,.inr _,h=>by injection h with h;rw [h]
theorem xApn:∀ {a b:List Key},a.map kP=b.map kP->a=b
 | [],[],_=>rfl
 | [],_::_,h=>by cases h
 | _::_,[],h=>by cases h
 | x::a,y::b,h=>by
  rw [qz,qz] at h;injection h with h1 h2;rw [kP_inj h1,xApn h2]
theorem tD_inj {a b:List Key} (h:tD a=tD b):a=b:=xApn (PyData.tuple.inj h)
theorem xAdf (a b:List Key):PyData.eqv (tD a) (tD b)=decide (a=b):=by
 by_cases h:a=b
 ·rw [decide_eq_true h,h]
  exact (xAfu _ _ (xAoh b) (xAoh b)).mpr rfl
 ·rw [decide_eq_false h]
  cases q:PyData.eqv (tD a) (tD b) with
  | false=>rfl
  | true=>exact absurd (tD_inj ((xAfu _ _ (xAoh a) (xAoh b)).mp q)) h
theorem gk_td {H:Hp} {ks:List Key} {v:V} (h:GK H (.tup ks) v):DT H v (tD ks):=by
 obtain ⟨b,rfl,h⟩:=h;exact .tup h (xAqx _)
theorem skk_kP:∀ k:Key,sk (kP k) (kP k)=true
 | .inl _=>rfl
 | .inr _=>rfl
theorem sks_self:∀ ks:List Key,sks (ks.map kP) (ks.map kP)=true
 | []=>rfl
 | k::ks=>by
  show (sk (kP k) (kP k)&&sks (ks.map kP) (ks.map kP))=true;rw [skk_kP,sks_self ks];rfl
theorem sk_tD (ks:List Key):sk (tD ks) (tD ks)=true:=sks_self ks
def Lay (ks:List Key):Prop:=(tD ks).canLay0=true
def Lt2 (a b c d:Int):Prop:=a<c\/(a=c/\b<d)
theorem lt2_D {a b c d:Int} (h:Lt2 a b c d):ltD (.tuple [.int a,.int b]) (.tuple [.int c,.int d])=true:=by
 rw [ltD];rcases h with h | ⟨rfl,h⟩
 ·exact xAlv h
 ·exact xAqt (xAlv h)
theorem Rd.same {H H':Hp} {a:Addr} {u:HO} (r:Rd H a u) (s:Same H H'):Rd H' a u:=by
 rcases r with r | ⟨o,r⟩
 ·exact .inl (s _ _ r)
 ·exact .inr ⟨o,s _ _ r⟩
def kN (i:Nat):Key:=.inr ((["births","places","cuts","signs","marks","notes","lines","cells","leaves"]:List Str).getD i "")
def fkv (F:Nat->Addr) (n:Nat):List (Key×V):=(List.range n).map fun i=>(kN i,.ref (F i))
theorem xAth:∀ i,i<9->∀ j,j<9->kN i=kN j->i=j:=by decide +kernel
theorem xAcy (F:Nat->Addr) (i:Nat) (h:i<9):valV (fkv F 9) (kN i)=some (.ref (F i)):=by
 have go:∀ (l:List Nat),(∀ j∈l,j<9)->i∈l->valV (l.map fun i=>(kN i,V.ref (F i))) (kN i)=some (.ref (F i)):=fun l=>by
  induction l with
  | nil=>intro _ z;cases z
  | cons j l ih =>
   intro hl hi;rw [qz]
   by_cases e:j=i
   ·subst e;exact xAem rfl
   ·rw [xAen (fun z=>e (xAth j (hl j qh) i h z))]
    rcases qy.mp hi with z | z
    ·exact absurd z.symm e
    ·exact ih (fun j hj=>hl j (qr _ hj)) z
 exact go _ (fun j hj=>zu.mp hj) (zu.mpr h)
def OkD (H:Hp) (v:V):Prop:=∃ d,DT H v d/\d.canLay0=true/\sk d d=true/\d.depth≤5
theorem rd_ne {H:Hp} {a b:Addr} {kvs:List (Key×V)} {xs:List V} (r:Rd H a (.dK kvs)) (e:H b=some (.lst xs)):a≠b:=fun z=>by
 subst z;rcases r with r | ⟨o,r⟩ <;> rw [e] at r <;> cases r
theorem Rd.wr {H:Hp} {a b:Addr} {u o:HO} (r:Rd H a u) (h:a≠b):Rd (upd H b o) a u:=by
 rcases r with r | ⟨o,r⟩
 ·exact .inl (by rw [xAae h];exact r)
 ·exact .inr ⟨o,by rw [xAae h];exact r⟩
theorem xAti {z:Str} (h:PyData.strOk z=true) (x:Int):Lay [.inr z,.inl x]:=by
 show (PyData.strOk z&&(true&&true))=true;rw [h];rfl
theorem xAtj:∀ {ds:List PyData},(∀ d∈ds,sk d d=true)->sks ds ds=true
 | [],_=>rfl
 | d::ds,h=>by
  show (sk d d&&sks ds ds)=true;rw [h d qh,xAtj fun x hx=>h x (qr _ hx)];rfl
theorem xAmd {H:Hp} {q:Addr} {xs:List V} {ds:List PyData} (e:H q=some (.tup xs)) (h:DTs H xs ds) (ok:∀ d∈ds,d.canLay0=true/\sk d d=true/\d.depth≤1):OkD H (.ref q):=by
 refine ⟨.tuple ds,.tup e h,xAbz fun d hd=>(ok d hd).1,xAtj fun d hd=>(ok d hd).2.1,?_⟩;have:=xAcx fun d hd=>(ok d hd).2.2;show PyData.depthAll ds+1≤5;omega
theorem ok_tD {ks:List Key} (h:Lay ks):(tD ks).canLay0=true/\sk (tD ks) (tD ks)=true/\(tD ks).depth≤1:=⟨h,sk_tD ks,xAbt ks⟩
theorem ok_key (a b:Int):(PyData.tuple [.int a,.int b]).canLay0=true/\sk (.tuple [.int a,.int b]) (.tuple [.int a,.int b])=true/\(PyData.tuple [.int a,.int b]).depth≤1:=⟨rfl,rfl,qc 1⟩
theorem xAdi {H H':Hp} (t:Tups H H'):∀ {ys:List V} {es:List (Key×V)},PrsK H ys es->PrsK H' ys es
 | [],[],_=>trivial
 | [],_::_,h=>h.elim
 | _::_,[],h=>h.elim
 | _::_,_::_,h=>⟨let ⟨b,e,h1⟩:=h.1;⟨b,e,t _ _ h1⟩,xAdi t h.2⟩
theorem xAis {H:Hp} {y:V} {e:Key×V} (hy:∃ b,y=.ref b/\H b=some (.tup [kV e.1,e.2])):∀ {ys:List V} {es:List (Key×V)},PrsK H ys es->PrsK H (ys++[y]) (es++[e])
 | [],[],_=>⟨hy,trivial⟩
 | [],_::_,h=>h.elim
 | _::_,[],h=>h.elim
 | _::_,_::_,h=>⟨h.1,xAis hy h.2⟩
theorem okds {H:Hp}:∀ {zs:List V},(∀ z∈zs,OkD H z)->∃ ds,DTs H zs ds/\∀ d∈ds,d.canLay0=true/\sk d d=true/\d.depth≤5
 | [],_=>⟨[],.nil,fun d z=>nomatch z⟩
 | z::zs,h=>by
  obtain ⟨d,h1,h2⟩:=h z qh;obtain ⟨ds,h3,h4⟩:=okds fun x hx=>h x (qr _ hx)
  exact ⟨d::ds,.cons h1 h3,fun x hx=>by
   rcases qy.mp hx with rfl | q
   ·exact h2
   ·exact h4 x q⟩
structure OkL (d:PyData):Prop where
 lay:d.canLay0=true
 self:PyData.eqv d d=true
 deep:d.depth≤6
theorem okl {ds:List PyData} (h:∀ d∈ds,d.canLay0=true/\sk d d=true/\d.depth≤5):OkL (.list ds) :=
 ⟨xAbz fun d hd=>(h d hd).1,xAlt fun d hd=>(h d hd).2.1,by have:=xAcx fun d hd=>(h d hd).2.2;show PyData.depthAll ds+1≤6;omega⟩
theorem xAqy {C:Nat->Addr} {j:Nat} {c:Addr}:fkv (fun i=>if i=j then c else C i) (j+1)=fkv C j++[(kN j,.ref c)]:=by
 unfold fkv;rw [List.range_succ,zg]
 have:(List.range j).map (fun i=>(kN i,V.ref (if i=j then c else C i)))=(List.range j).map (fun i=>(kN i,V.ref (C i))):=z5 fun i hi=>by
  have:=zu.mp hi;rw [if_neg (by omega)]
 rw [this]
 simp
theorem xAqz {a:Addr} {kvs:List (Key×V)} {H:Hp} {R:It->Hp->Prop} (r:Rd H a (.dK kvs)) (k:∀ (o:Obj) (Y:Hp),(∀ b u,b≠a->H b=some u->Y b=some u)->(∀ b,Y b=none->H b=none)->Y a=some (.frz o (.dK kvs))->R (Itk a o kvs) Y) :
  (H a=some (.dK kvs)/\∀ o,R (Itk a o kvs) (upd H a (.frz o (.dK kvs))))\/∃ o,H a=some (.frz o (.dK kvs))/\R (Itk a o kvs) H:=by
 rcases r with e | ⟨o,e⟩
 ·refine .inl ⟨e,fun o=>k o _ (fun b u n e=>by rw [xAae n];exact e) (fun b q=>?_) xAad⟩
  by_cases z:b=a
  ·subst z;rw [xAad] at q;cases q
  ·rw [xAae z] at q;exact q
 ·exact .inr ⟨o,e,k o H (fun _ _ _ e=>e) (fun _ e=>e) e⟩
def AL {β α:Type} (P:β->α->Prop) (vs:List β) (rs:List α):Prop:=vs.length=rs.length/\∀ (m:Nat) v r,vs[m]?=some v->rs[m]?=some r->P v r
section
variable {β α:Type} {P P':β->α->Prop} {vs us:List β} {rs ts:List α}
theorem AL.imp (h:AL P vs rs) (f:∀ v r,P v r->P' v r):AL P' vs rs:=⟨h.1,fun m v r e1 e2=>f _ _ (h.2 m v r e1 e2)⟩
theorem AL.impM (h:AL P vs rs) (f:∀ v r,v∈vs->r∈rs->P v r->P' v r):AL P' vs rs:=⟨h.1,fun m v r e1 e2=>f _ _ (qo e1) (qo e2) (h.2 m v r e1 e2)⟩
theorem AL.nil:AL P [] []:=⟨rfl,fun m v r z=>nomatch z⟩
theorem AL.cons {v:β} {r:α} (h:P v r) (g:AL P vs rs):AL P (v::vs) (r::rs):=by
 refine ⟨by rw [qx,qx,g.1],fun m v' r' e1 e2=>?_⟩
 cases m with
 | zero=>cases e1;cases e2;exact h
 | succ m=>exact g.2 m _ _ e1 e2
theorem AL.head {v:β} {r:α} (g:AL P (v::vs) (r::rs)):P v r:=g.2 0 _ _ rfl rfl
theorem AL.tail {v:β} {r:α} (g:AL P (v::vs) (r::rs)):AL P vs rs:=⟨by have:=g.1;simpa using this,fun m v' r' e1 e2=>g.2 (m+1) _ _ e1 e2⟩
theorem AL.none {r:α} (g:AL P [] (r::rs)):False:=by have:=g.1;simp at this
theorem AL.nothing {v:β} (g:AL P (v::vs) []):False:=by have:=g.1;simp at this
theorem AL.app (h:AL P vs rs) (g:AL P us ts):AL P (vs++us) (rs++ts):=by
 induction vs generalizing rs with
 | nil=>cases rs with
  | nil=>exact g
  | cons r rs=>exact h.none.elim
 | cons v vs ih=>cases rs with
  | nil=>exact h.nothing.elim
  | cons r rs=>exact .cons h.head (ih h.tail)
theorem AL.snoc {v:β} {r:α} (h:AL P vs rs) (hv:P v r):AL P (vs++[v]) (rs++[r]):=h.app (.cons hv .nil)
theorem AL.at {m:Nat} {v:β} (h:AL P vs rs) (e:vs[m]?=some v):∃ r,rs[m]?=some r/\P v r:=by
 have hm:m<rs.length:=by rw [← h.1];exact (qv.mp e).1
 exact ⟨rs[m],qe hm,h.2 m v _ e (qe hm)⟩
theorem AL.at' {m:Nat} {r:α} (h:AL P vs rs) (e:rs[m]?=some r):∃ v,vs[m]?=some v/\P v r:=by
 have hm:m<vs.length:=by rw [h.1];exact (qv.mp e).1
 exact ⟨vs[m],qe hm,h.2 m _ r (qe hm) e⟩
theorem AL.mem {v:β} (h:AL P vs rs) (e:v∈vs):∃ r,r∈rs/\P v r:=by
 obtain ⟨m,hm,rfl⟩:=qt.mp e;obtain ⟨r,hr,p⟩:=h.at (qe hm);exact ⟨r,qo hr,p⟩
theorem AL.mem' {r:α} (h:AL P vs rs) (e:r∈rs):∃ v,v∈vs/\P v r:=by
 obtain ⟨m,hm,rfl⟩:=qt.mp e;obtain ⟨v,hv,p⟩:=h.at' (qe hm);exact ⟨v,qo hv,p⟩
theorem AL.map (h:AL P vs rs) {γ:Type} {f:β->γ} {P2:γ->α->Prop} (k:∀ v r,v∈vs->r∈rs->P v r->P2 (f v) r):AL P2 (vs.map f) rs:=by
 refine ⟨by rw [qf,h.1],fun m v r e1 e2=>?_⟩;rw [qu] at e1;obtain ⟨u,hu,rfl⟩:=zt.mp e1;exact k _ _ (qo hu) (qo e2) (h.2 m u r hu e2)
end
theorem AL.dts {α:Type} {P:V->α->Prop} {H:Hp} {D:α->PyData} (hD:∀ v r,P v r->DT H v (D r)):∀ {vs:List V} {rs:List α},AL P vs rs->DTs H vs (rs.map D)
 | [],[],_=>.nil
 | [],_::_,h=>h.none.elim
 | _::_,[],h=>h.nothing.elim
 | _::_,_::_,h=>.cons (hD _ _ h.head) (AL.dts hD h.tail)
def mainK:List Key:=[.inr "",.inl 0]
def Nm (ks:List Key):Prop:=∃ w x,ks=[.inr w,.inl x]/\(w = "ann" \/ w = "bo" \/ w = "cyan")
def Pn (ks:List Key):Prop:=ks=mainK\/Nm ks
theorem Nm.lay {ks:List Key} (h:Nm ks):Lay ks:=by
 obtain ⟨w,x,rfl,h⟩:=h;refine xAti ?_ x;rcases h with rfl | rfl | rfl <;> decide +kernel
theorem xAfa:Lay mainK:=by unfold Lay mainK;decide +kernel
theorem Pn.lay {ks:List Key} (h:Pn ks):Lay ks:=by
 rcases h with rfl | h
 ·exact xAfa
 ·exact h.lay
theorem Nm.main {ks:List Key} (h:Nm ks):ks≠mainK:=by
 obtain ⟨w,x,rfl,h⟩:=h;intro z;unfold mainK at z;injection z with z _;injection z with z;subst z;revert h
 decide +kernel
theorem Pn.two {ks:List Key} (h:Pn ks):∃ w x,ks=[.inr w,.inl x]:=by
 rcases h with rfl | ⟨w,x,rfl,_⟩
 ·exact ⟨_,_,rfl⟩
 ·exact ⟨_,_,rfl⟩
theorem xAit {ls:List (List Key)} (h:∀ k∈ls,Pn k):KeysAre (ls.map tD) 3:=by
 have two:∀ d∈ls.map tD,∃ w x,d=.tuple [.str w,.int x]/\d.canLay0=true:=fun d hd=>by
  obtain ⟨k,hk,rfl⟩:=qd.mp hd;have hl:(tD k).canLay0=true:=(h k hk).lay;obtain ⟨w,x,rfl⟩:=(h k hk).two;exact ⟨w,x,rfl,hl⟩
 refine ⟨xAbz fun d hd=>?_,fun d hd=>?_,fun a ha b hb=>?_,fun d hd=>?_⟩
 ·obtain ⟨_,_,_,h⟩:=two d hd;exact h
 ·obtain ⟨_,_,rfl,_⟩:=two d hd;trivial
 ·obtain ⟨_,_,rfl,_⟩:=two a ha
  obtain ⟨_,_,rfl,_⟩:=two b hb;rfl
 ·obtain ⟨_,_,rfl,_⟩:=two d hd
  exact (by decide:1≤60)
structure Pc where
 pt:List Key
 ou:List Key
 nm:List Key
 ka:Int
 kb:Int
def PC (H:Hp) (v:V) (r:Pc):Prop:=∃ b vp vo vn kq,v=.ref b/\H b=some (.tup [vp,vo,vn,.ref kq])/\GK H (.tup r.pt) vp/\GK H (.tup r.ou) vo/\GK H (.tup r.nm) vn/\H kq=some (.tup [.int r.ka,.int r.kb])
theorem PC.tups {H H':Hp} {v:V} {r:Pc} (h:PC H v r) (t:Tups H H'):PC H' v r:=by
 obtain ⟨b,vp,vo,vn,kq,e,h1,h2,h3,h4,h5⟩:=h;exact ⟨b,vp,vo,vn,kq,e,t _ _ h1,h2.tups t,h3.tups t,h4.tups t,t _ _ h5⟩
structure PcW (r:Pc):Prop where
 pt:Nm r.pt
 ou:Pn r.ou
 nm:Nm r.nm
theorem PC.okd {H:Hp} {v:V} {r:Pc} (h:PC H v r) (w:PcW r):OkD H v:=by
 obtain ⟨b,vp,vo,vn,kq,rfl,h1,h2,h3,h4,h5⟩:=h;refine xAmd h1 (.cons (gk_td h2) (.cons (gk_td h3) (.cons (gk_td h4) (.cons (.tup h5 (.cons (.int _) (.cons (.int _) .nil))) .nil)))) fun d hd=>?_
 simp only [List.mem_cons,List.not_mem_nil,or_false] at hd
 rcases hd with rfl | rfl | rfl | rfl
 ·exact ok_tD w.pt.lay
 ·exact ok_tD w.ou.lay
 ·exact ok_tD w.nm.lay
 ·exact ok_key _ _
def hp (xs:List Pc) (k:List Key):Bool:=xs.any fun x=>decide (x.pt=k)
def putP (xs:List Pc) (r:Pc):List Pc:=if hp xs r.pt=true then xs.map (fun x=>if x.pt=r.pt then r else x) else xs++[r]
def tl (rs:List Pc):List Pc:=rs.foldl putP []
theorem xAdv (rs:List Pc) (r:Pc):tl (rs++[r])=putP (tl rs) r:=by unfold tl;rw [List.foldl_append];rfl
theorem xAbq {xs:List Pc} {k:List Key}:hp xs k=true↔k∈xs.map (·.pt):=by
 unfold hp;rw [wg];constructor
 ·rintro ⟨x,hx,h⟩
  exact qd.mpr ⟨x,hx,of_decide_eq_true h⟩
 ·intro h
  obtain ⟨x,hx,h⟩:=qd.mp h;exact ⟨x,hx,decide_eq_true h⟩
theorem xAhc (xs:List Pc) (r:Pc):(putP xs r).map (·.pt)=if hp xs r.pt=true then xs.map (·.pt) else xs.map (·.pt)++[r.pt]:=by
 unfold putP
 by_cases h:hp xs r.pt=true
 ·rw [if_pos h,if_pos h,z4]
  refine z5 fun x _=>?_;show (if x.pt=r.pt then r else x).pt=x.pt
  by_cases z:x.pt=r.pt
  ·rw [if_pos z,z]
  ·rw [if_neg z]
 ·rw [if_neg h,if_neg h,zg]
  rfl
theorem xAra {xs:List Pc} {r x:Pc} (h:x∈putP xs r):x=r\/(x∈xs/\x.pt≠r.pt):=by
 unfold putP at h
 by_cases q:hp xs r.pt=true
 ·rw [if_pos q] at h
  obtain ⟨y,hy,rfl⟩:=qd.mp h
  by_cases z:y.pt=r.pt
  ·rw [if_pos z];exact .inl rfl
  ·rw [if_neg z];exact .inr ⟨hy,z⟩
 ·rw [if_neg q] at h
  rcases qw.mp h with z | z
  ·exact .inr ⟨z,fun e=>q (xAbq.mpr (e▸qd.mpr ⟨x,z,rfl⟩))⟩
  ·exact .inl (qj.mp z)
theorem xAfb (rs:List Pc):((tl rs).map (·.pt)).Nodup:=by
 rcases yh rs with rfl | ⟨us,r,rfl⟩
 ·exact zy
 ·rw [yi,xAdv,xAhc]
  have ih:=xAfb us
  split
  ·exact ih
  ·rename_i h
   rw [zp];exact ⟨ih,ze.mpr ⟨(fun z=>nomatch z),zy⟩,fun a ha b hb e=>h (xAbq.mpr (by rw [← qj.mp hb,← e];exact ha))⟩
termination_by rs.length
decreasing_by all_goals (subst_vars;simp)
theorem xAhd {rs:List Pc} {x:Pc} (h:x∈tl rs):x∈rs:=by
 rcases yh rs with rfl | ⟨us,r,rfl⟩
 ·exact h
 ·rw [yi] at h ⊢
  rw [xAdv] at h;rcases xAra h with rfl | ⟨z,_⟩
  ·exact zj _ (qj.mpr rfl)
  ·exact z6 _ (xAhd z)
termination_by rs.length
decreasing_by all_goals (subst_vars;simp)
theorem xAme (rs:List Pc):(tl rs).length≤rs.length:=by
 rcases yh rs with rfl | ⟨us,r,rfl⟩
 ·exact qc _
 ·rw [yi,xAdv]
  have ih:=xAme us;have e:=congrArg List.length (xAhc (tl us) r);rw [qf] at e;rw [e,qg,ql]
  split
  ·rw [qf];omega
  ·rw [qg,qf,ql];omega
termination_by rs.length
decreasing_by all_goals (subst_vars;simp)
def EK (R:V->Pc->Prop) (H:Hp) (e:KD×V×V) (x:Pc):Prop:=e.1=.tup x.pt/\GK H (.tup x.pt) e.2.1/\R e.2.2 x
theorem EK.imp {R R':V->Pc->Prop} {H H':Hp} {e:KD×V×V} {x:Pc} (h:EK R H e x) (t:Tups H H') (f:R e.2.2 x->R' e.2.2 x):EK R' H' e x:=⟨h.1,h.2.1.tups t,f h.2.2⟩
section
variable {R:V->Pc->Prop} {H:Hp} {kvs:List (KD×V×V)} {xs:List Pc}
theorem xAtk (h:AL (EK R H) kvs xs):kvs.map (·.1)=(xs.map (·.pt)).map KD.tup:=by
 apply w5;intro m;rw [qu,qu,qu]
 cases e:kvs[m]? with
 | none =>
  have:xs[m]?=none:=vw (by rw [← h.1];exact List.getElem?_eq_none_iff.mp e);rw [this];rfl
 | some v =>
  obtain ⟨r,hr,p⟩:=h.at e;rw [hr];show some v.1=some (KD.tup r.pt);rw [p.1]
theorem xAjt {a b:List Key} (h:KD.tup a=KD.tup b):a=b:=by injection h
theorem xAcz (h:AL (EK R H) kvs xs) (hn:(xs.map (·.pt)).Nodup):(kvs.map (·.1)).Nodup:=by
 rw [xAtk h];exact List.Pairwise.map _ (fun a b hab z=>hab (xAjt z)) hn
theorem xAcb {x:Pc} (h:AL (EK R H) kvs xs) (hn:(xs.map (·.pt)).Nodup) (hx:x∈xs):∃ v,vG kvs (.tup x.pt)=some v/\R v x:=by
 obtain ⟨m,hm,rfl⟩:=qt.mp hx;obtain ⟨e,he,p⟩:=h.at' (qe hm);exact ⟨e.2.2,xAdr (xAcz h hn) he p.1,p.2.2⟩
theorem xApo {k:List Key} (h:AL (EK R H) kvs xs) (hk:k∉xs.map (·.pt)):vG kvs (.tup k)=none:=xAec fun e he z=>by
 obtain ⟨r,hr,p⟩:=h.mem he;rw [p.1] at z;exact hk (qd.mpr ⟨r,hr,xAjt z⟩)
theorem xAfc {k:List Key} (h:AL (EK R H) kvs xs) (hn:(xs.map (·.pt)).Nodup):(vG kvs (.tup k)).isSome=hp xs k:=by
 by_cases hk:hp xs k=true
 ·obtain ⟨x,hx,rfl⟩:=qd.mp (xAbq.mp hk)
  obtain ⟨v,hv,_⟩:=xAcb h hn hx;rw [hv,hk];rfl
 ·rw [xApo h (fun z=>hk (xAbq.mpr z)),wu.mpr hk];rfl
theorem xAgb {r:Pc} {y v:V} (h:AL (EK R H) kvs xs) (hn:(xs.map (·.pt)).Nodup) (gk:GK H (.tup r.pt) y) (hv:R v r):AL (EK R H) (pG kvs (.tup r.pt) y v) (putP xs r):=by
 unfold pG putP;rw [xAfc h hn]
 by_cases hk:hp xs r.pt=true
 ·rw [if_pos hk,if_pos hk]
  refine ⟨by rw [qf,qf,h.1],fun m e x e1 e2=>?_⟩;rw [qu] at e1 e2;obtain ⟨e',he',rfl⟩:=zt.mp e1;obtain ⟨x',hx',rfl⟩:=zt.mp e2;obtain ⟨p1,p2,p3⟩:=h.2 m e' x' he' hx'
  by_cases z:x'.pt=r.pt
  ·rw [if_pos (by rw [p1,z]),if_pos z]
   refine ⟨by rw [← z];exact p1,by rw [← z];exact p2,hv⟩
  ·rw [if_neg (by rw [p1];exact fun y=>z (xAjt y)),if_neg z]
   exact ⟨p1,p2,p3⟩
 ·rw [if_neg hk,if_neg hk]
  exact h.snoc ⟨rfl,gk,hv⟩
end
theorem xArb {R:V->Pc->Prop} {H:Hp} {kvs:List (KD×V×V)} {xs:List Pc} (h:AL (EK R H) kvs xs):DTs H (kvs.map (·.2.1)) ((xs.map (·.pt)).map tD):=by
 rw [z4];exact AL.dts (P:=fun v x=>DT H v (tD x.pt)) (fun _ _ z=>z) (h.map fun e x _ _ p=>gk_td p.2.1)
def BT (H:Hp) (v:V):Prop:=∃ b vn vo x y,v=.ref b/\H b=some (.tup [vn,vo])/\GK H (.tup x) vn/\Nm x/\GK H (.tup y) vo/\Pn y
theorem BT.tups {H H':Hp} {v:V} (h:BT H v) (t:Tups H H'):BT H' v:=by
 obtain ⟨b,vn,vo,x,y,e,h1,h2,h3,h4,h5⟩:=h;exact ⟨b,vn,vo,x,y,e,t _ _ h1,h2.tups t,h3,h4.tups t,h5⟩
theorem BT.okd {H:Hp} {v:V} (h:BT H v):OkD H v:=by
 obtain ⟨b,vn,vo,x,y,rfl,h1,h2,h3,h4,h5⟩:=h;refine xAmd h1 (.cons (gk_td h2) (.cons (gk_td h4) .nil)) fun d hd=>?_
 simp only [List.mem_cons,List.not_mem_nil,or_false] at hd
 rcases hd with rfl | rfl
 ·exact ok_tD h3.lay
 ·exact ok_tD h5.lay
def CT (H:Hp) (v:V) (k:List Key):Prop:=∃ b vp vn y,v=.ref b/\H b=some (.tup [vp,vn])/\GK H (.tup k) vp/\Pn k/\GK H (.tup y) vn/\Nm y
theorem CT.tups {H H':Hp} {v:V} {k:List Key} (h:CT H v k) (t:Tups H H'):CT H' v k:=by
 obtain ⟨b,vp,vn,y,e,h1,h2,h3,h4,h5⟩:=h;exact ⟨b,vp,vn,y,e,t _ _ h1,h2.tups t,h3,h4.tups t,h5⟩
theorem CT.okd {H:Hp} {v:V} {k:List Key} (h:CT H v k):OkD H v:=by
 obtain ⟨b,vp,vn,y,rfl,h1,h2,h3,h4,h5⟩:=h;refine xAmd h1 (.cons (gk_td h2) (.cons (gk_td h4) .nil)) fun d hd=>?_
 simp only [List.mem_cons,List.not_mem_nil,or_false] at hd
 rcases hd with rfl | rfl
 ·exact ok_tD h3.lay
 ·exact ok_tD h5.lay
structure FI (H:Hp) (bs vs cs:List V) (rs:List Pc) (cu:List (List Key)) (k:Nat):Prop where
 bt:∀ v∈bs,BT H v
 pc:AL (PC H) vs rs
 ct:AL (CT H) cs cu
 w:∀ r∈rs,PcW r
 up:rs.Pairwise fun a b=>Lt2 a.ka a.kb b.ka b.kb
 bl:bs.length≤k
 vl:vs.length≤k
 cl:cs.length≤k
theorem FI.tups {H H':Hp} {bs vs cs:List V} {rs:List Pc} {cu:List (List Key)} {k:Nat} (h:FI H bs vs cs rs cu k) (t:Tups H H'):FI H' bs vs cs rs cu k :=
 ⟨fun v hv=>(h.bt v hv).tups t,h.pc.imp fun v r p=>p.tups t,h.ct.imp fun v r p=>p.tups t,h.w,h.up,h.bl,h.vl,h.cl⟩
theorem FI.mono {H:Hp} {bs vs cs:List V} {rs:List Pc} {cu:List (List Key)} {k k':Nat} (h:FI H bs vs cs rs cu k) (hk:k≤k'):FI H bs vs cs rs cu k' :=
 ⟨h.bt,h.pc,h.ct,h.w,h.up,qk h.bl hk,qk h.vl hk,qk h.cl hk⟩
theorem FI.birth {H:Hp} {bs vs cs:List V} {rs:List Pc} {cu:List (List Key)} {k:Nat} {v:V} (h:FI H bs vs cs rs cu k) (hv:BT H v):FI H (bs++[v]) vs cs rs cu (k+1) :=
 ⟨fun u hu=>by
  rcases qw.mp hu with z | z
  ·exact h.bt u z
  ·rw [qj.mp z];exact hv,h.pc,h.ct,h.w,h.up,by rw [qg,ql];have:=h.bl;omega,by have:=h.vl;omega,by have:=h.cl;omega⟩
theorem FI.place {H:Hp} {bs vs cs:List V} {rs:List Pc} {cu:List (List Key)} {k:Nat} {v:V} {r:Pc} (h:FI H bs vs cs rs cu k) (hv:PC H v r) (hw:PcW r) (lt:∀ x∈rs,Lt2 x.ka x.kb r.ka r.kb) (hk:vs.length<k):FI H bs (vs++[v]) cs (rs++[r]) cu k :=
 ⟨h.bt,h.pc.snoc hv,h.ct,fun x hx=>by
  rcases qw.mp hx with z | z
  ·exact h.w x z
  ·rw [qj.mp z];exact hw,y9.mpr ⟨h.up,jr _ _,fun a ha b hb=>by rw [qj.mp hb];exact lt a ha⟩,h.bl,by rw [qg,ql];omega,h.cl⟩
theorem FI.cut {H:Hp} {bs vs cs:List V} {rs:List Pc} {cu:List (List Key)} {k:Nat} {v:V} {r:List Key} (h:FI H bs vs cs rs cu k) (hv:CT H v r):FI H bs vs (cs++[v]) rs (cu++[r]) (k+1) :=
 ⟨h.bt,h.pc,h.ct.snoc hv,h.w,h.up,by have:=h.bl;omega,by have:=h.vl;omega,by rw [qg,ql];have:=h.cl;omega⟩
structure FB (H:Hp) (fa:Addr) (F:Nat->Addr) (bs vs cs:List V) (rs:List Pc) (cu:List (List Key)) (k:Nat):Prop where
 dk:Rd H fa (.dK (fkv F 9))
 inj:∀ i,i<9->∀ j,j<9->F i=F j->i=j
 rest:∀ i,i<9->3≤i->H (F i)=some (.lst [])
 eb:H (F 0)=some (.lst bs)
 ev:H (F 1)=some (.lst vs)
 ec:H (F 2)=some (.lst cs)
 fi:FI H bs vs cs rs cu k
theorem FB.same {H H':Hp} {fa:Addr} {F:Nat->Addr} {bs vs cs:List V} {rs:List Pc} {cu:List (List Key)} {k:Nat} (h:FB H fa F bs vs cs rs cu k) (s:Same H H'):FB H' fa F bs vs cs rs cu k :=
 ⟨Rd.same h.dk s,h.inj,fun i h1 h2=>s _ _ (h.rest i h1 h2),s _ _ h.eb,s _ _ h.ev,s _ _ h.ec,h.fi.tups s.tups⟩
def xsF (bs vs cs:List V) (i:Nat):List V:=if i=0 then bs else if i=1 then vs else if i=2 then cs else []
theorem FB.at {H:Hp} {fa:Addr} {F:Nat->Addr} {bs vs cs:List V} {rs:List Pc} {cu:List (List Key)} {k:Nat} (h:FB H fa F bs vs cs rs cu k) (i:Nat) (hi:i<9):H (F i)=some (.lst (xsF bs vs cs i)):=by
 unfold xsF
 by_cases h0:i=0
 ·rw [if_pos h0,h0];exact h.eb
 ·by_cases h1:i=1
  ·rw [if_neg h0,if_pos h1,h1];exact h.ev
  ·by_cases h2:i=2
   ·rw [if_neg h0,if_neg h1,if_pos h2,h2];exact h.ec
   ·rw [if_neg h0,if_neg h1,if_neg h2];exact h.rest i hi (by omega)
theorem FI.okd {H:Hp} {bs vs cs:List V} {rs:List Pc} {cu:List (List Key)} {k:Nat} (h:FI H bs vs cs rs cu k) (i:Nat):∀ z∈xsF bs vs cs i,OkD H z:=fun z hz=>by
 unfold xsF at hz
 by_cases h0:i=0
 ·rw [if_pos h0] at hz;exact (h.bt z hz).okd
 ·by_cases h1:i=1
  ·rw [if_neg h0,if_pos h1] at hz
   obtain ⟨r,hr,p⟩:=h.pc.mem hz;exact p.okd (h.w r hr)
  ·by_cases h2:i=2
   ·rw [if_neg h0,if_neg h1,if_pos h2] at hz
    obtain ⟨r,hr,p⟩:=h.ct.mem hz;exact p.okd
   ·rw [if_neg h0,if_neg h1,if_neg h2] at hz;exact nomatch hz
theorem FI.data {H:Hp} {bs vs cs:List V} {rs:List Pc} {cu:List (List Key)} {k:Nat} (h:FI H bs vs cs rs cu k):∃ dF:Nat->List PyData,∀ i,DTs H (xsF bs vs cs i) (dF i)/\∀ d∈dF i,d.canLay0=true/\sk d d=true/\d.depth≤5 :=
 ⟨fun i=>Classical.choose (okds (h.okd i)),fun i=>Classical.choose_spec (okds (h.okd i))⟩
structure KP (H:Hp) (kp:Addr) (ps:List V) (C:Nat->Addr) (xs:Nat->List V):Prop where
 ek:H kp=some (.lst ps)
 pr:PrsK H ps (fkv C 9)
 at_:∀ i,i<9->H (C i)=some (.lst (xs i))
def keptD (dF:Nat->List PyData):PyData:=.list ((List.range 9).map fun i=>.tuple [kP (kN i),.list (dF i)])
theorem kN_ok:∀ i,i<9->(kP (kN i)).canLay0=true/\PyData.eqv (kP (kN i)) (kP (kN i))=true/\(kP (kN i)).depth≤0:=by decide +kernel
theorem kV_dv {K:PySem.W.Frag} {H:Hp}:∀ k:Key,DV K H (kV k) (kP k)
 | .inl i=>.int i
 | .inr z=>.str z
theorem xArc {dF:Nat->List PyData} (h:∀ i,∀ d∈dF i,d.canLay0=true/\sk d d=true/\d.depth≤5):(keptD dF).canLay0=true/\PyData.eqv (keptD dF) (keptD dF)=true/\(keptD dF).depth≤8:=by
 have one:∀ d∈(List.range 9).map (fun i=>PyData.tuple [kP (kN i),.list (dF i)]),d.canLay0=true/\PyData.eqv d d=true/\d.depth≤7:=fun d hd=>by
  obtain ⟨i,hi,rfl⟩:=qd.mp hd;obtain ⟨k1,k2,k3⟩:=kN_ok i (zu.mp hi);have o:=okl (h i);refine ⟨?_,?_,?_⟩
  ·show ((kP (kN i)).canLay0&&((PyData.list (dF i)).canLay0&&true))=true
   rw [k1,o.lay];rfl
  ·show (PyData.eqv (kP (kN i)) (kP (kN i))&&(PyData.eqv (.list (dF i)) (.list (dF i))&&true))=true
   rw [k2,o.self];rfl
  ·have:=o.deep
   show max (kP (kN i)).depth (max (PyData.list (dF i)).depth 0)+1≤7;omega
 have all:∀ l:List PyData,(∀ d∈l,d.canLay0=true/\PyData.eqv d d=true/\d.depth≤7)->PyData.eqvAll l l=true:=fun l=>by
  induction l with
  | nil=>intro _;rfl
  | cons d l ih =>
   intro hl;show (PyData.eqv d d&&PyData.eqvAll l l)=true;rw [(hl d qh).2.1,ih fun x hx=>hl x (qr _ hx)];rfl
 refine ⟨xAbz fun d hd=>(one d hd).1,all _ one,?_⟩;have:=xAcx fun d hd=>(one d hd).2.2;show PyData.depthAll _+1≤8;omega
theorem KP.dv {K:PySem.W.Frag} {H:Hp} {kp:Addr} {ps:List V} {C:Nat->Addr} {xs:Nat->List V} {dF:Nat->List PyData} (h:KP H kp ps C xs) (hd:∀ i,i<9->DTs H (xs i) (dF i)):DV K H (.ref kp) (keptD dF):=by
 have go:∀ (l:List Nat) (ps:List V),(∀ i∈l,i<9)->PrsK H ps (l.map fun i=>(kN i,V.ref (C i)))->DVs K H ps (l.map fun i=>PyData.tuple [kP (kN i),.list (dF i)]):=fun l=>by
  induction l with
  | nil =>
   intro ps _ pr
   cases ps with
   | nil=>exact .nil
   | cons p ps=>exact pr.elim
  | cons i l ih =>
   intro ps hl pr
   cases ps with
   | nil=>exact pr.elim
   | cons p ps =>
    obtain ⟨⟨b,rfl,hb⟩,pr⟩:=pr;have hi:=hl i qh;exact .cons (.tup (SqT.of hb) (.cons (kV_dv _) (.cons (.lst (SqL.of (h.at_ i hi)) (hd i hi).dv) .nil))) (ih ps (fun j hj=>hl j (qr _ hj)) pr)
 exact .lst (SqL.of h.ek) (go _ _ (fun i hi=>zu.mp hi) h.pr)
open Classical in
noncomputable def dels (H:Hp) (S:Addr->Prop):Hp:=fun b=>if S b then none else H b
section
open Classical
variable {H H':Hp} {S:Addr->Prop}
theorem xAax {b:Addr} (h:S b):dels H S b=none:=if_pos h
theorem xAbg {b:Addr} (h:¬ S b):dels H S b=H b:=if_neg h
theorem xAfd:Same (dels H S) H:=fun b o e=>by
 by_cases h:S b
 ·rw [xAax h] at e;cases e
 ·rw [xAbg h] at e;exact e
theorem xAci {b:Addr} {o:HO} (s:Same (dels H S) H') (e:H b=some o) (h:¬ S b):H' b=some o:=s _ _ (by rw [xAbg h];exact e)
theorem xAoi (s:Same (dels H S) H') (h:∀ b,S b->∀ xs,H b≠some (.tup xs)):Tups H H':=fun b xs e=>xAci s e fun z=>h b z xs e
theorem xAfe {b:Addr} (h:H b=none):dels H S b=none:=by
 by_cases z:S b
 ·exact xAax z
 ·rw [xAbg z];exact h
end
theorem lex2 {a b c d:Int} (h:Lt2 a b c d):HT.lexLt [a,b] [c,d]=true:=by
 rw [HT.lexLt_cons,HT.lexLt_cons];rcases h with h | ⟨rfl,h⟩
 ·rw [if_neg (by omega)];exact decide_eq_true h
 ·rw [if_pos rfl,if_neg (by omega)];exact decide_eq_true h
def Le2 (a b c d:Int):Prop:=a<c\/(a=c/\b≤d)
theorem Le2.lt {a b c d e f:Int} (h:Le2 a b c d) (g:Lt2 c d e f):Lt2 a b e f:=by unfold Le2 Lt2 at *;omega
theorem Lt2.le {a b c d:Int} (h:Lt2 a b c d):Le2 a b c d:=by unfold Le2 Lt2 at *;omega
theorem Le2.refl (a b:Int):Le2 a b a b:=.inr ⟨rfl,by omega⟩
end My
namespace Rnd
variable {α:Type}
def itr (g:α->Option α):Nat->α->Option α
 | 0,a=>some a
 | n+1,a=>(g a).bind (itr g n)
theorem xAbn (g:α->Option α):∀ (n m:Nat) (a:α),itr g (n+m) a=(itr g n a).bind (itr g m)
 | 0,m,a=>by rw [yc];rfl
 | n+1,m,a=>by
  rw [Nat.succ_add];show (g a).bind (itr g (n+m))=((g a).bind (itr g n)).bind (itr g m)
  cases g a with
  | none=>rfl
  | some b=>exact xAbn g n m b
theorem xAmf {g:α->Option α} {n:Nat} {a b c:α} (h:itr g n a=some b) (e:g b=some c):itr g (n+1) a=some c:=by
 rw [xAbn g n 1 a,h];show (g b).bind (itr g 0)=some c;rw [e];rfl
theorem stay {g:α->Option α} {D:α->Prop} (hD:∀ a b,D a->g a=some b->D b):∀ (n:Nat) (a b:α),D a->itr g n a=some b->D b
 | 0,a,b,h,e=>by cases e;exact h
 | n+1,a,b,h,e=>by
  have e:(g a).bind (itr g n)=some b:=e
  cases q:g a with
  | none=>rw [q] at e;cases e
  | some c=>rw [q] at e;exact stay hD n c b (hD a c h q) e
def onC (g:α->Option α) (a:α):Prop:=∃ n,itr g (n+1) a=some a
def Top (g:α->Option α) (lt:α->α->Prop) (a:α):Prop:=onC g a/\∀ n b,itr g n a=some b->¬ lt a b
theorem onC.some {g:α->Option α} {a:α} (h:onC g a):g a≠none:=fun z=>by
 obtain ⟨n,h⟩:=h;have h:(g a).bind (itr g n)=_:=h;rw [z] at h;cases h
theorem notC {g:α->Option α} {D:α->Prop} {a:α} (h1:∀ b,g a=some b->D b) (hD:∀ b c,D b->g b=some c->D c) (ha:¬ D a):¬ onC g a:=fun ⟨n,h⟩=>by
 have h:(g a).bind (itr g n)=some a:=h
 cases q:g a with
 | none=>rw [q] at h;cases h
 | some b=>rw [q] at h;exact ha (stay hD n b a (h1 b q) h)
structure WO (g:α->Option α) (E:α->Prop) (p:α) (ini:List α) (las:α):Prop where
 hd:(ini++[las]).head?=some p
 ch:∀ (i:Nat) a b,(ini++[las])[i]?=some a->(ini++[las])[i+1]?=some b->g a=some b
 nd:ini.Nodup
 out:∀ a∈ini,¬ E a
 en:las∈ini\/(las∉ini/\(g las=none\/E las))
section
variable {g:α->Option α} {E:α->Prop} {p las:α} {ini:List α}
theorem WO.dom (w:WO g E p ini las) {a:α} (h:a∈ini):g a≠none:=fun z=>by
 obtain ⟨i,hi,rfl⟩:=qt.mp h
 have e1:(ini++[las])[i]?=some ini[i]:=by rw [zn hi,qe hi]
 have hl:i+1<(ini++[las]).length:=by rw [qg,ql];omega
 have:=w.ch i _ _ e1 (qe hl);rw [z] at this;cases this
theorem WO.next (w:WO g E p ini las) {i:Nat} (hi:i<ini.length) {b:α} (e:g ini[i]=some b):(∃ h:i+1<ini.length,b=ini[i+1])\/(i+1=ini.length/\b=las):=by
 have e1:(ini++[las])[i]?=some ini[i]:=by rw [zn hi,qe hi]
 have hl:i+1<(ini++[las]).length:=by rw [qg,ql];omega
 have e2:=w.ch i _ _ e1 (qe hl);rw [e] at e2;have e3:b=(ini++[las])[i+1]:=Option.some.inj e2
 by_cases z:i+1<ini.length
 ·exact .inl ⟨z,by rw [e3,yj z]⟩
 ·refine .inr ⟨by omega,?_⟩
  rw [e3,List.getElem_append_right (by omega)]
  simp
theorem WO.step (w:WO g E p ini las) {i:Nat} (hi:i≤ini.length):∀ (n:Nat),i+n≤ini.length->itr g n ((ini++[las])[i]'(by rw [qg,ql];omega))=(ini++[las])[i+n]?
 | 0,_=>by
  exact (qe _).symm
 | n+1,h=>by
  have ih:=WO.step w hi n (by omega)
  have hl:i+n<(ini++[las]).length:=by rw [qg,ql];omega
  have hl2:i+n+1<(ini++[las]).length:=by rw [qg,ql];omega
  rw [qe hl] at ih;have:=w.ch (i+n) _ _ (qe hl) (qe hl2);rw [xAmf ih this,← Nat.add_assoc,qe hl2]
theorem WO.comes (w:WO g E p ini las) {a:α} (h:a∈ini):∃ n,itr g n a=some las/\∀ m,m<n->∃ b∈ini,itr g m a=some b:=by
 obtain ⟨i,hi,rfl⟩:=qt.mp h;have e:(ini++[las])[i]'(by rw [qg,ql];omega)=ini[i]:=yj hi;refine ⟨ini.length - i,?_,fun m hm=>?_⟩
 ·have:=w.step (i:=i) (by omega) (ini.length - i) (by omega)
  rw [e,show i+(ini.length - i)=ini.length by omega] at this;rw [this]
  simp
 ·have:=w.step (i:=i) (by omega) m (by omega)
  have hl:i+m<ini.length:=by omega
  rw [e,zn hl,qe hl] at this;exact ⟨_,zw hl,this⟩
theorem xAgc {l:List α} (h:l.Nodup) {i:Nat} (hi:i<l.length):l[i]∉l.drop (i+1):=fun z=>by
 obtain ⟨j,hj,e⟩:=qt.mp z;rw [ja] at e;rw [zr] at hj;have:=(yk.mp h);have:=wj.mp this i (i+1+j) hi (by omega) (by omega);exact this e.symm
theorem mem_dropS {l:List α} {i j:Nat} (h:i≤j) (hj:j<l.length):l[j]∈l.drop i:=by
 rw [qt];exact ⟨j - i,by rw [zr];omega,by rw [ja];congr 1;omega⟩
theorem xAbu {l:List α} {i:Nat} {a:α} (h:a∈l.drop i):∃ j,∃ hj:j<l.length,i≤j/\l[j]=a:=by
 obtain ⟨j,hj,e⟩:=qt.mp h;rw [zr] at hj;rw [ja] at e;exact ⟨i+j,by omega,by omega,e⟩
theorem WO.closed (w:WO g E p ini las) (hE:∀ a b,E a->g a=some b->E b) {i:Nat} (hl:las∈ini.drop i\/g las=none\/E las):∀ a b,(a∈ini.drop i\/a=las\/E a)->g a=some b->(b∈ini.drop i\/b=las\/E b):=by
 have one:∀ a b,a∈ini.drop i->g a=some b->(b∈ini.drop i\/b=las\/E b):=fun a b h e=>by
  obtain ⟨j,hj,hij,rfl⟩:=xAbu h;rcases w.next hj e with ⟨h1,rfl⟩ | ⟨_,rfl⟩
  ·exact .inl (mem_dropS (by omega) h1)
  ·exact .inr (.inl rfl)
 intro a b h e;rcases h with h | rfl | h
 ·exact one a b h e
 ·rcases hl with hl | hl | hl
  ·exact one a b hl e
  ·rw [hl] at e;cases e
  ·exact .inr (.inr (hE a b hl e))
 ·exact .inr (.inr (hE a b h e))
theorem WO.not_on (w:WO g E p ini las) (hE:∀ a b,E a->g a=some b->E b) {i:Nat} (hi:i<ini.length) (hl:las∈ini.drop (i+1)\/(las∉ini/\(g las=none\/E las))):¬ onC g ini[i]:=by
 have hl':las∈ini.drop (i+1)\/g las=none\/E las:=by
  rcases hl with h | ⟨_,h | h⟩
  ·exact .inl h
  ·exact .inr (.inl h)
  ·exact .inr (.inr h)
 refine notC (D:=fun a=>a∈ini.drop (i+1)\/a=las\/E a) (fun b e=>?_) (w.closed hE hl') fun z=>?_
 ·rcases w.next hi e with ⟨h1,rfl⟩ | ⟨_,rfl⟩
  ·exact .inl (mem_dropS (qc _) h1)
  ·exact .inr (.inl rfl)
 ·rcases z with z | z | z
  ·exact xAgc w.nd hi z
  ·rcases hl with h | ⟨h,_⟩
   ·rw [← z] at h
    exact xAgc w.nd hi h
   ·exact h (by rw [← z];exact zw hi)
  ·exact w.out _ (zw hi) z
end
section
variable {g:α->Option α} {E:α->Prop} {p las:α} {ini:List α} {lt:α->α->Prop}
theorem WO.round (w:WO g E p ini las) {r:Nat} (hr:r<ini.length) (e:ini[r]=las):(∀ a∈ini.drop r,onC g a)/\(∀ a∈ini.drop r,∀ n b,itr g n a=some b->b∈ini.drop r)/\∀ a∈ini.drop r,∀ b∈ini.drop r,∃ n,itr g n a=some b:=by
 have cl:∀ a b,a∈ini.drop r->g a=some b->b∈ini.drop r:=fun a b h q=>by
  obtain ⟨j,hj,hij,rfl⟩:=xAbu h;rcases w.next hj q with ⟨h1,rfl⟩ | ⟨_,rfl⟩
  ·exact mem_dropS (by omega) h1
  ·rw [← e];exact mem_dropS (qc _) hr
 have to:∀ j,(hj:j<ini.length)->∀ k,(hk:k<ini.length)->r≤k->∃ n,itr g (n+1) ini[j]=some ini[k]:=fun j hj k hk hrk=>by
  have e1:(ini++[las])[j]'(by rw [qg,ql];omega)=ini[j]:=yj hj;have e2:(ini++[las])[r]'(by rw [qg,ql];omega)=ini[r]:=yj hr;have s1:=w.step (i:=j) (by omega) (ini.length - j) (by omega);rw [e1,show j+(ini.length - j)=ini.length by omega] at s1
  have s1:itr g (ini.length - j) ini[j]=some las:=by rw [s1];simp
  have s2:=w.step (i:=r) (by omega) (k - r) (by omega);rw [e2,show r+(k - r)=k by omega,zn hk,qe hk,e] at s2;refine ⟨(ini.length - j - 1)+(k - r),?_⟩;rw [show (ini.length - j - 1)+(k - r)+1=(ini.length - j)+(k - r) by omega,xAbn,s1];exact s2
 refine ⟨fun a h=>?_,fun a h n b q=>stay (D:=fun a=>a∈ini.drop r) (fun a b h q=>cl a b h q) n a b h q,fun a h b h'=>?_⟩
 ·obtain ⟨j,hj,hij,rfl⟩:=xAbu h
  exact to j hj j hj hij
 ·obtain ⟨j,hj,hij,rfl⟩:=xAbu h
  obtain ⟨k,hk,hik,rfl⟩:=xAbu h';obtain ⟨n,hn⟩:=to j hj k hk hik;exact ⟨n+1,hn⟩
theorem WO.top (w:WO g E p ini las) {r:Nat} (hr:r<ini.length) (e:ini[r]=las) {a:α} (ha:a∈ini.drop r):Top g lt a↔∀ b∈ini.drop r,¬ lt a b:=by
 obtain ⟨h1,h2,h3⟩:=w.round hr e;constructor
 ·intro ⟨_,t⟩ b hb
  obtain ⟨n,hn⟩:=h3 a ha b hb;exact t n b hn
 ·exact fun t=>⟨h1 a ha,fun n b q=>t b (h2 a ha n b q)⟩
theorem WO.self (w:WO g (fun _=>False) p ini las) (hp:g p≠none):Top g lt p↔(las=p/\∀ b∈ini,¬ lt p b):=by
 have h0:0<ini.length:=by
  rcases Nat.eq_zero_or_pos ini.length with z | z
  ·have hi:=jp.mp z
   have hh:=w.hd;subst hi
   have:las=p:=by simpa using hh
   rcases w.en with q | ⟨_,q | q⟩
   ·cases q
   ·rw [this] at q;exact absurd q hp
   ·exact q.elim
  ·exact z
 have e0:ini[0]=p:=by
  have hh:=w.hd;rw [List.head?_eq_getElem?,zn h0,qe h0] at hh;exact Option.some.inj hh
 by_cases hl:las=p
 ·have:=w.top (lt:=lt) h0 (e0.trans hl.symm) (a:=p) (by rw [← e0];exact mem_dropS (qc _) h0)
  rw [List.drop_zero] at this;rw [this];exact ⟨fun h=>⟨hl,h⟩,fun h=>h.2⟩
 ·refine ⟨fun h=>?_,fun h=>absurd h.1 hl⟩
  refine absurd h.1 ?_;rw [← e0];refine w.not_on (fun _ _ z=>z.elim) h0 ?_;rcases w.en with q | q
  ·refine .inl ?_
   obtain ⟨j,hj,ej⟩:=qt.mp q
   have:j≠0:=fun z=>by subst z;exact hl (ej.symm.trans e0)
   rw [← ej];exact mem_dropS (by omega) hj
  ·exact .inr q
theorem grow {T T':α->Prop} (irr:∀ a,¬ lt a a) (tot:∀ a b,g a≠none->g b≠none->a=b\/lt a b\/lt b a) (hE:∀ a b,E a->g a=some b->E b) (hT:∀ a,T a↔(E a/\Top g lt a)) (w:WO g E p ini las)
  (hT':(las∉ini/\∀ a,T' a↔T a)\/∃ r,∃ hr:r<ini.length,ini[r]=las/\∃ m∈ini.drop r,(∀ b∈ini.drop r,¬ lt m b)/\∀ a,T' a↔(a=m\/T a)) :
  (∀ a b,(E a\/a∈ini++[las])->g a=some b->(E b\/b∈ini++[las]))/\∀ a,T' a↔((E a\/a∈ini++[las])/\Top g lt a):=by
 refine ⟨fun a b h e=>?_,fun a=>?_⟩
 ·have one:∀ a b,a∈ini->g a=some b->(E b\/b∈ini++[las]):=fun a b h e=>by
   obtain ⟨j,hj,rfl⟩:=qt.mp h;rcases w.next hj e with ⟨h1,rfl⟩ | ⟨_,rfl⟩
   ·exact .inr (z6 _ (zw h1))
   ·exact .inr (zj _ (qj.mpr rfl))
  rcases h with h | h
  ·exact .inl (hE a b h e)
  ·rcases qw.mp h with h | h
   ·exact one a b h e
   ·rw [qj.mp h] at e
    rcases w.en with q | ⟨_,q | q⟩
    ·exact one las b q e
    ·rw [q] at e;cases e
    ·exact .inl (hE las b q e)
 ·rcases hT' with ⟨hl,hT'⟩ | ⟨r,hr,er,m,hm,hmax,hT'⟩
  ·rw [hT',hT]
   refine ⟨fun h=>⟨.inl h.1,h.2⟩,fun h=>⟨?_,h.2⟩⟩;rcases h.1 with q | q
   ·exact q
   ·rcases qw.mp q with q | q
    ·obtain ⟨j,hj,rfl⟩:=qt.mp q
     refine absurd h.2.1 (w.not_on hE hj (.inr ⟨hl,?_⟩));rcases w.en with z | ⟨_,z⟩
     ·exact absurd z hl
     ·exact z
    ·have ea:=qj.mp q
     rcases w.en with z | ⟨_,z | z⟩
     ·exact absurd z hl
     ·rw [ea] at h;exact absurd z h.2.1.some
     ·rw [ea];exact z
  ·rw [hT',hT]
   have hdom:∀ b∈ini.drop r,g b≠none:=fun b hb=>w.dom (ym hb);have hmT:Top g lt m:=(w.top hr er hm).mpr hmax;constructor
   ·rintro (rfl | h)
    ·exact ⟨.inr (z6 _ (ym hm)),hmT⟩
    ·exact ⟨.inl h.1,h.2⟩
   ·rintro ⟨q | q,t⟩
    ·exact .inr ⟨q,t⟩
    ·have hin:a∈ini:=by
      rcases qw.mp q with q | q
      ·exact q
      ·rw [qj.mp q,← er];exact zw hr
     obtain ⟨j,hj,rfl⟩:=qt.mp hin
     by_cases z:r≤j
     ·have hd:=mem_dropS (l:=ini) z hj
      have ht:=(w.top (lt:=lt) hr er hd).mp t;rcases tot ini[j] m (hdom _ hd) (hdom _ hm) with y | y | y
      ·exact .inl y
      ·exact absurd y (ht m hm)
      ·exact absurd y (hmax _ hd)
     ·exact absurd t.1 (w.not_on hE hj (.inl (by rw [← er];exact mem_dropS (by omega) hr)))
end
section
variable {g g':α->Option α} {lt:α->α->Prop} {mn:α}
theorem xAmg (irr:∀ a,¬ lt a a) (tr:∀ a b c,lt a b->lt b c->lt a c):∀ (l:List α),l≠[]->∃ m∈l,∀ b∈l,¬ lt m b
 | [],h=>absurd rfl h
 | [a],_=>⟨a,qj.mpr rfl,fun b hb=>by rw [qj.mp hb];exact irr a⟩
 | a::b::l,_=>by
  obtain ⟨m,hm,h⟩:=xAmg irr tr (b::l) (List.cons_ne_nil _ _)
  by_cases z:lt m a
  ·exact ⟨a,qh,fun c hc=>by
    rcases qy.mp hc with rfl | hc
    ·exact irr _
    ·exact fun y=>h c hc (tr _ _ _ z y)⟩
  ·exact ⟨m,qr _ hm,fun c hc=>by
    rcases qy.mp hc with rfl | hc
    ·exact z
    ·exact h c hc⟩
theorem top_of (irr:∀ a,¬ lt a a) (tr:∀ a b c,lt a b->lt b c->lt a c) {n:Nat} {a:α} (h:itr g (n+1) a=some a):∃ m b,m≤n/\itr g m a=some b/\Top g lt b:=by
 have mul:∀ k,itr g (k * (n+1)) a=some a:=fun k=>by
  induction k with
  | zero=>rw [Nat.zero_mul];rfl
  | succ k ih=>rw [Nat.succ_mul,xAbn,ih];exact h
 have red:∀ m b,itr g m a=some b->itr g (m % (n+1)) a=some b:=fun m b e=>by
  have h1:=Nat.div_add_mod m (n+1);rw [← h1,Nat.mul_comm,xAbn,mul] at e;exact e
 have all:∀ m,m≤n->∃ b,itr g m a=some b:=fun m hm=>by
  cases q:itr g m a with
  | some b=>exact ⟨b,rfl⟩
  | none =>
   rw [show n+1=m+(n+1 - m) by omega,xAbn,q] at h;cases h
 let l:=(List.range (n+1)).filterMap fun m=>itr g m a
 have hl:∀ b,b∈l↔∃ m,m≤n/\itr g m a=some b:=fun b=>by
  show b∈(List.range (n+1)).filterMap _↔_;rw [v6];exact ⟨fun ⟨m,h1,h2⟩=>⟨m,by have:=zu.mp h1;omega,h2⟩,fun ⟨m,h1,h2⟩=>⟨m,zu.mpr (by omega),h2⟩⟩
 have hne:l≠[]:=fun z=>by
  have:=(hl a).mpr ⟨0,q5 _,rfl⟩;rw [z] at this;cases this
 obtain ⟨b,hb,hmax⟩:=xAmg irr tr l hne;obtain ⟨m,hm,e⟩:=(hl b).mp hb
 have back:itr g (n+1 - m) b=some a:=by
  rw [show n+1=m+(n+1 - m) by omega,xAbn,e] at h;exact h
 refine ⟨m,b,hm,e,⟨n,?_⟩,fun k c q=>hmax c ((hl c).mpr ⟨(m+k) % (n+1),?_,?_⟩)⟩
 ·rw [show n+1=(n+1 - m)+m by omega,xAbn,back]
  exact e
 ·exact Nat.le_of_lt_succ (Nat.mod_lt (m+k) (Nat.succ_pos n))
 ·refine red _ _ ?_
  rw [xAbn,e];exact q
structure Opened (g g':α->Option α) (lt:α->α->Prop) (mn:α):Prop where
 nm:g' mn=none
 top:∀ a,Top g lt a->g' a=some mn
 els:∀ a,¬ Top g lt a->g' a=g a
theorem Opened.no_round (o:Opened g g' lt mn) (irr:∀ a,¬ lt a a) (tr:∀ a b c,lt a b->lt b c->lt a c) (a:α):¬ onC g' a:=fun ⟨n,h⟩=>by
 have no:∀ m b,m≤n->itr g' m a=some b->¬ Top g lt b:=fun m b hm e t=>by
  have h1:=xAmf e (o.top b t);rw [show n+1=(m+1)+(n - m) by omega,xAbn,h1] at h;have h:itr g' (n - m) mn=some a:=h
  cases q:n - m with
  | succ k =>
   rw [q] at h;have h:(g' mn).bind (itr g' k)=some a:=h;rw [o.nm] at h;cases h
  | zero =>
   rw [q] at h;cases h
   have h0:itr g' (n+1) mn=some mn:=by rw [show n+1=m+1 by omega];exact h1
   have h0:(g' mn).bind (itr g' n)=some mn:=h0;rw [o.nm] at h0;cases h0
 have same:∀ m,m≤n+1->itr g m a=itr g' m a:=fun m=>by
  induction m with
  | zero=>intro _;rfl
  | succ m ih =>
   intro hm;rw [xAbn g m 1,xAbn g' m 1,ih (by omega)]
   cases q:itr g' m a with
   | none=>rfl
   | some b =>
    show (g b).bind _=(g' b).bind _;rw [o.els b (no m b (by omega) q)];rfl
 obtain ⟨m,b,hm,e,t⟩:=top_of irr tr (g:=g) (lt:=lt) ((same (n+1) (qc _)).trans h);exact no m b hm ((same m (by omega)).symm.trans e) t
end
def Comes (g:α->Option α) (mn a:α):Prop:=∃ n,itr g n a=some mn
theorem comes_iff {g:α->Option α} {mn a las:α} {n:Nat} (hm:g mn=none) (h:itr g n a=some las) (dom:∀ m,m<n->∃ b,itr g m a=some b/\g b≠none):Comes g mn a↔Comes g mn las:=by
 constructor
 ·rintro ⟨k,e⟩
  rcases z8 k n with z | z
  ·obtain ⟨b,e1,e2⟩:=dom k z
   rw [e] at e1;cases e1;exact absurd hm e2
  ·refine ⟨k - n,?_⟩
   rw [show k=n+(k - n) by omega,xAbn,h] at e;exact e
 ·rintro ⟨k,e⟩
  exact ⟨n+k,by rw [xAbn,h];exact e⟩
theorem comes_end {g:α->Option α} {mn a:α} (h:g a=none):Comes g mn a↔a=mn:=by
 constructor
 ·rintro ⟨n,e⟩
  cases n with
  | zero=>cases e;rfl
  | succ n =>
   have e:(g a).bind (itr g n)=some mn:=e;rw [h] at e;cases e
 ·rintro rfl
  exact ⟨0,rfl⟩
end Rnd
namespace My
open PySem L2 PyProof.Rows
def fX (xs:List Pc) (k:List Key):Option Pc:=xs.find? fun x=>decide (x.pt=k)
def gX (xs:List Pc) (k:List Key):Option (List Key):=(fX xs k).map (·.ou)
def ltX (xs:List Pc) (a b:List Key):Prop:=∃ x y,fX xs a=some x/\fX xs b=some y/\Lt2 x.ka x.kb y.ka y.kb
section
variable {xs:List Pc}
theorem fX_in {k:List Key} {x:Pc} (h:fX xs k=some x):x∈xs/\x.pt=k:=⟨List.mem_of_find?_eq_some h,by simpa using List.find?_some h⟩
theorem fX_of (hn:(xs.map (·.pt)).Nodup) {x:Pc} (h:x∈xs):fX xs x.pt=some x:=by
 induction xs with
 | nil=>cases h
 | cons y xs ih =>
  rw [qz,ze] at hn;unfold fX;rw [wm]
  by_cases z:y.pt=x.pt
  ·rw [decide_eq_true z]
   rcases qy.mp h with rfl | h
   ·rfl
   ·exact absurd (qd.mpr ⟨x,h,z.symm⟩) hn.1
  ·rw [decide_eq_false z]
   rcases qy.mp h with rfl | h
   ·exact absurd rfl z
   ·exact ih hn.2 h
theorem xAtl {k:List Key} (h:k∉xs.map (·.pt)):fX xs k=none:=ye.mpr fun x hx z=>h (qd.mpr ⟨x,hx,of_decide_eq_true z⟩)
theorem fX_hp (k:List Key):(fX xs k).isSome=hp xs k:=by
 cases q:fX xs k with
 | some x =>
  obtain ⟨h1,h2⟩:=fX_in q;rw [xAbq.mpr (qd.mpr ⟨x,h1,h2⟩)];rfl
 | none =>
  cases z:hp xs k with
  | false=>rfl
  | true =>
   obtain ⟨x,hx,e⟩:=qd.mp (xAbq.mp z);exact absurd (List.find?_eq_none.mp q x hx) (by simp [e])
theorem gX_hp {k:List Key}:gX xs k≠none↔hp xs k=true:=by
 rw [← fX_hp];unfold gX;cases fX xs k <;> simp
theorem gX_of (hn:(xs.map (·.pt)).Nodup) {x:Pc} (h:x∈xs):gX xs x.pt=some x.ou:=by unfold gX;rw [fX_of hn h];rfl
theorem gX_in {k o:List Key} (h:gX xs k=some o):∃ x∈xs,x.pt=k/\x.ou=o:=by
 obtain ⟨x,h1,h2⟩:=zt.mp h;exact ⟨x,(fX_in h1).1,(fX_in h1).2,h2⟩
theorem xAcj {k:List Key} (h:k∉xs.map (·.pt)):gX xs k=none:=by unfold gX;rw [xAtl h];rfl
end
structure XW (xs:List Pc):Prop where
 nd:(xs.map (·.pt)).Nodup
 w:∀ x∈xs,PcW x
 tri:∀ x∈xs,∀ y∈xs,x=y\/Lt2 x.ka x.kb y.ka y.kb\/Lt2 y.ka y.kb x.ka x.kb
 few:xs.length≤100
theorem xApp (a b:Int):¬ Lt2 a b a b:=by unfold Lt2;omega
theorem lt2_tr {a b c d e f:Int} (h:Lt2 a b c d) (g:Lt2 c d e f):Lt2 a b e f:=by unfold Lt2 at *;omega
section
variable {xs:List Pc}
theorem xAmh (a:List Key):¬ ltX xs a a:=fun ⟨x,y,h1,h2,h⟩=>by rw [h1] at h2;cases h2;exact xApp _ _ h
theorem ltX_tr (a b c:List Key) (h:ltX xs a b) (g:ltX xs b c):ltX xs a c:=by
 obtain ⟨x,y,h1,h2,h3⟩:=h;obtain ⟨y',z,g1,g2,g3⟩:=g;rw [h2] at g1;cases g1;exact ⟨x,z,h1,g2,lt2_tr h3 g3⟩
theorem XW.tot (W:XW xs) (a b:List Key) (ha:gX xs a≠none) (hb:gX xs b≠none):a=b\/ltX xs a b\/ltX xs b a:=by
 obtain ⟨x,hx,rfl⟩:=qd.mp (xAbq.mp (gX_hp.mp ha));obtain ⟨y,hy,rfl⟩:=qd.mp (xAbq.mp (gX_hp.mp hb));rcases W.tri x hx y hy with rfl | h | h
 ·exact .inl rfl
 ·exact .inr (.inl ⟨x,y,fX_of W.nd hx,fX_of W.nd hy,h⟩)
 ·exact .inr (.inr ⟨y,x,fX_of W.nd hy,fX_of W.nd hx,h⟩)
theorem XW.main (W:XW xs):mainK∉xs.map (·.pt):=fun z=>by
 obtain ⟨x,hx,e⟩:=qd.mp z;exact (W.w x hx).pt.main e
theorem XW.pn (W:XW xs) {k o:List Key} (h:gX xs k=some o):Pn o:=by
 obtain ⟨x,hx,_,rfl⟩:=gX_in h;exact (W.w x hx).ou
end
theorem pw_tri {rs:List Pc} (h:rs.Pairwise fun a b=>Lt2 a.ka a.kb b.ka b.kb) {x y:Pc} (hx:x∈rs) (hy:y∈rs):x=y\/Lt2 x.ka x.kb y.ka y.kb\/Lt2 y.ka y.kb x.ka x.kb:=by
 obtain ⟨i,hi,rfl⟩:=qt.mp hx;obtain ⟨j,hj,rfl⟩:=qt.mp hy;have hp:=wj.mp h;rcases jt i j with z | z | z
 ·exact .inr (.inl (hp i j hi hj z))
 ·subst z;exact .inl rfl
 ·exact .inr (.inr (hp j i hj hi z))
theorem tl_xw {rs:List Pc} (hw:∀ r∈rs,PcW r) (up:rs.Pairwise fun a b=>Lt2 a.ka a.kb b.ka b.kb) (hl:rs.length≤100):XW (tl rs) :=
 ⟨xAfb rs,fun x hx=>hw x (xAhd hx),fun x hx y hy=>pw_tri up (xAhd hx) (xAhd hy),qk (xAme rs) hl⟩
abbrev TopX (xs:List Pc) (k:List Key):Prop:=Rnd.Top (gX xs) (ltX xs) k
open Classical in
noncomputable def opW (T:List Key->Prop) (x:Pc):Pc:=if T x.pt then { x with ou:=mainK } else x
noncomputable def opn (xs:List Pc):List Pc:=xs.map (opW (TopX xs))
section
variable {T:List Key->Prop} {xs:List Pc}
theorem xAff (x:Pc):(opW T x).pt=x.pt:=by unfold opW;split <;> rfl
theorem xAmi {x:Pc} (h:T x.pt):opW T x={ x with ou:=mainK }:=by unfold opW;rw [if_pos h]
theorem xArd {x:Pc} (h:¬ T x.pt):opW T x=x:=by unfold opW;rw [if_neg h]
theorem opW_w {x:Pc} (w:PcW x):PcW (opW T x):=by
 unfold opW
 split
 ·exact ⟨w.pt,.inl rfl,w.nm⟩
 ·exact w
theorem xAiu (l:List Pc):(l.map (opW T)).map (·.pt)=l.map (·.pt):=by
 rw [z4];exact z5 fun x _=>xAff x
theorem xAiv:(opn xs).map (·.pt)=xs.map (·.pt):=xAiu xs
theorem xAeh:(opn xs).length=xs.length:=by unfold opn;rw [qf]
theorem xAmj (W:XW xs):Rnd.Opened (gX xs) (gX (opn xs)) (ltX xs) mainK:=by
 have nd':((opn xs).map (·.pt)).Nodup:=by rw [xAiv];exact W.nd
 have at_:∀ x∈xs,gX (opn xs) x.pt=some (opW (TopX xs) x).ou:=fun x hx=>by
  have:=gX_of nd' (qd.mpr ⟨x,hx,rfl⟩:opW (TopX xs) x∈opn xs);rw [xAff] at this;exact this
 refine ⟨xAcj (by rw [xAiv];exact W.main),fun a t=>?_,fun a t=>?_⟩
 ·obtain ⟨x,hx,rfl⟩:=qd.mp (xAbq.mp (gX_hp.mp t.1.some))
  rw [at_ x hx,xAmi t]
 ·by_cases z:hp xs a=true
  ·obtain ⟨x,hx,rfl⟩:=qd.mp (xAbq.mp z)
   rw [at_ x hx,xArd t,gX_of W.nd hx]
  ·have h1:a∉xs.map (·.pt):=fun y=>z (xAbq.mpr y)
   rw [xAcj h1,xAcj (by rw [xAiv];exact h1)]
theorem xAre (W:XW xs) (a:List Key):¬ Rnd.onC (gX (opn xs)) a:=(xAmj W).no_round xAmh ltX_tr a
end
structure AW (ys:List Pc):Prop where
 nd:(ys.map (·.pt)).Nodup
 w:∀ x∈ys,PcW x
 few:ys.length≤100
 acyc:∀ a,¬ Rnd.onC (gX ys) a
theorem xAfg {xs:List Pc} (W:XW xs):AW (opn xs):=⟨by rw [xAiv];exact W.nd,fun x hx=>by
 obtain ⟨y,hy,rfl⟩:=qd.mp hx
 exact opW_w (W.w y hy),by rw [xAeh];exact W.few,xAre W⟩
theorem AW.main {ys:List Pc} (W:AW ys):mainK∉ys.map (·.pt):=fun z=>by
 obtain ⟨x,hx,e⟩:=qd.mp z;exact (W.w x hx).pt.main e
theorem AW.pn {ys:List Pc} (W:AW ys) {k o:List Key} (h:gX ys k=some o):Pn o:=by
 obtain ⟨x,hx,_,rfl⟩:=gX_in h;exact (W.w x hx).ou
theorem AW.way {ys:List Pc} (W:AW ys) {E:List Key->Prop} {p las:List Key} {ini:List (List Key)} (w:Rnd.WO (gX ys) E p ini las):las∉ini:=fun z=>by
 obtain ⟨r,hr,e⟩:=qt.mp z;exact W.acyc las ((w.round hr e).1 las (by rw [← e];exact Rnd.mem_dropS (qc _) hr))
def NmK (H:Hp) (v:V) (k:List Key):Prop:=GK H (.tup k) v
def OuR (H:Hp) (v:V) (x:Pc):Prop:=GK H (.tup x.ou) v
theorem OuR.tups {H H':Hp} {v:V} {x:Pc} (h:OuR H v x) (t:Tups H H'):OuR H' v x:=GK.tups h t
theorem NmK.tups {H H':Hp} {v:V} {k:List Key} (h:NmK H v k) (t:Tups H H'):NmK H' v k:=GK.tups h t
def SM (kvs:List (KD×V×V)) (S:List Key->Prop):Prop:=∀ k,(vG kvs (.tup k)).isSome=true↔S k
theorem SM.nil:SM [] (fun _=>False):=fun k=>⟨fun z=>absurd z qm,fun z=>z.elim⟩
theorem SM.put {kvs:List (KD×V×V)} {S S':List Key->Prop} {p:List Key} (h:SM kvs S) (y v:V) (hs:∀ k,S' k↔(k=p\/S k)):SM (pG kvs (.tup p) y v) S':=fun k=>by
 rw [xAfx,hs]
 by_cases z:k=p
 ·subst z;rw [if_pos rfl];exact ⟨fun _=>.inl rfl,fun _=>rfl⟩
 ·rw [if_neg (fun y=>z (xAjt y)),h k]
  exact ⟨.inr,fun y=>y.resolve_left z⟩
theorem SM.imp {kvs:List (KD×V×V)} {S S':List Key->Prop} (h:SM kvs S) (hs:∀ k,S k↔S' k):SM kvs S':=fun k=>(h k).trans (hs k)
theorem SM.yes {kvs:List (KD×V×V)} {S:List Key->Prop} {k:List Key} (h:SM kvs S) (hs:S k):(vG kvs (.tup k)).isSome=true:=(h k).mpr hs
theorem SM.no {kvs:List (KD×V×V)} {S:List Key->Prop} {k:List Key} (h:SM kvs S) (hs:¬ S k):(vG kvs (.tup k)).isSome=false:=wu.mpr fun z=>hs ((h k).mp z)
theorem xArf {R:V->Pc->Prop} {H:Hp} {kvs:List (KD×V×V)} {xs:List Pc} {k:List Key} (h:AL (EK R H) kvs xs) (hn:(xs.map (·.pt)).Nodup):(vG kvs (.tup k)).isSome=(gX xs k).isSome:=by
 rw [xAfc h hn,← fX_hp];unfold gX;cases fX xs k <;> rfl
theorem al_g {H:Hp} {kvs:List (KD×V×V)} {xs:List Pc} {k o:List Key} (h:AL (EK (OuR H) H) kvs xs) (hn:(xs.map (·.pt)).Nodup) (e:gX xs k=some o):∃ v,vG kvs (.tup k)=some v/\GK H (.tup o) v:=by
 obtain ⟨x,hx,rfl,rfl⟩:=gX_in e;exact xAcb h hn hx
theorem xAtm {A B:List Pc} {x r:Pc} (e:r.pt=x.pt) (hn:((A++x::B).map (·.pt)).Nodup):putP (A++x::B) r=A++r::B:=by
 have hin:hp (A++x::B) r.pt=true:=xAbq.mpr (by rw [e];exact qd.mpr ⟨x,zj _ qh,rfl⟩);unfold putP;rw [if_pos hin,zg,qz,if_pos e.symm]
 have hn':(A.map (·.pt)++(x.pt::B.map (·.pt))).Nodup:=by rw [← qz,← zg];exact hn
 rw [zp,ze] at hn';obtain ⟨h1,⟨h2,h3⟩,h4⟩:=hn'
 have ha:A.map (fun y=>if y.pt=r.pt then r else y)=A:=by
  rw [z5 (g:=id) fun y hy=>?_,jb];rw [if_neg fun z=>h4 y.pt (qd.mpr ⟨y,hy,rfl⟩) x.pt qh (z.trans e)];rfl
 have hb:B.map (fun y=>if y.pt=r.pt then r else y)=B:=by
  rw [z5 (g:=id) fun y hy=>?_,jb];rw [if_neg fun z=>h2 (qd.mpr ⟨y,hy,z.trans e⟩)];rfl
 rw [ha,hb]
theorem xAhe {A:List Pc} {r:Pc} (h:r.pt∉A.map (·.pt)):putP A r=A++[r]:=by
 unfold putP;rw [if_neg fun z=>h (xAbq.mp z)]
theorem xAgd {l:List (List Key)} {xs:List Pc} (hn:l.Nodup) (h:∀ a∈l,hp xs a=true):l.length≤xs.length:=by
 have:l.length≤(xs.map (·.pt)).length:=by
  have sub:∀ (l m:List (List Key)),l.Nodup->(∀ a∈l,a∈m)->l.length≤m.length:=fun l=>by
   induction l with
   | nil=>intro m _ _;exact q5 _
   | cons a l ih =>
    intro m hn hs;obtain ⟨A,B,e⟩:=jc (hs a qh)
    have:=ih (A++B) (ze.mp hn).2 fun b hb=>by
     have h1:=hs b (qr _ hb);rw [e] at h1;rcases qw.mp h1 with z | z
     ·exact z6 _ z
     ·rcases qy.mp z with rfl | z
      ·exact absurd hb (ze.mp hn).1
      ·exact zj _ z
    rw [e,qg,qx];rw [qg] at this;rw [qx];omega
  exact sub l _ hn fun a ha=>xAbq.mp (h a ha)
 rwa [qf] at this
theorem huge {n:Nat} (h:n≤100000):n<sizeLine:=by rw [sizeLine_eq];omega
def StR (ys:List Pc) (H:Hp) (v:V) (x:Pc):Prop:=(Rnd.Comes (gX ys) mainK x.pt/\GK H (.tup x.ou) v)\/(¬ Rnd.Comes (gX ys) mainK x.pt/\v=.non)
theorem StR.tups {ys:List Pc} {H H':Hp} {v:V} {x:Pc} (h:StR ys H v x) (t:Tups H H'):StR ys H' v x:=by
 rcases h with ⟨h1,h2⟩ | h
 ·exact .inl ⟨h1,h2.tups t⟩
 ·exact .inr h
theorem xAmk {β α:Type} {P:β->α->Prop} {ws:List β} {ini:List α} {las:α} (h:AL P ws (ini++[las])):∃ us v,ws=us++[v]/\AL P us ini/\P v las:=by
 have hl:=h.1;rw [qg,ql] at hl;rcases yh ws with z | ⟨us,v,z⟩
 ·rw [z] at hl;exact absurd hl (by simp)
 ·rw [yi] at z
  subst z
  have hu:us.length=ini.length:=by rw [qg,ql] at hl;omega
  refine ⟨us,v,rfl,⟨hu,fun m v r e1 e2=>h.2 m v r ?_ ?_⟩,h.2 us.length v las (by simp) (by rw [hu];simp)⟩
  ·rw [zn (qv.mp e1).1];exact e1
  ·rw [zn (qv.mp e2).1];exact e2
theorem xAtn {β α:Type} {P:β->α->Prop} {ws:List β} {ls:List α} (h:AL P ws ls) (r:Nat):AL P (ws.drop r) (ls.drop r) :=
 ⟨by rw [zr,zr,h.1],fun m v k e1 e2=>by rw [List.getElem?_drop] at e1 e2;exact h.2 _ v k e1 e2⟩
theorem xAiw {a:Addr} {kvs:List (KD×V×V)} {H:Hp} {R:It->Hp->Prop} (r:Rd H a (.dG kvs)) (k:∀ (o:Obj) (Y:Hp),(∀ b u,b≠a->H b=some u->Y b=some u)->(∀ b,Y b=none->H b=none)->Y a=some (.frz o (.dG kvs))->R (ItG a o kvs) Y) :
  (H a=some (.dG kvs)/\∀ o,R (ItG a o kvs) (upd H a (.frz o (.dG kvs))))\/∃ o,H a=some (.frz o (.dG kvs))/\R (ItG a o kvs) H:=by
 rcases r with e | ⟨o,e⟩
 ·refine .inl ⟨e,fun o=>k o _ (fun b u n e=>by rw [xAae n];exact e) (fun b q=>?_) xAad⟩
  by_cases z:b=a
  ·subst z;rw [xAad] at q;cases q
  ·rw [xAae z] at q;exact q
 ·exact .inr ⟨o,e,k o H (fun _ _ _ e=>e) (fun _ e=>e) e⟩
theorem xAck {a:Addr} {kvs:List (KD×V×V)} {H:Hp} {R:It->Hp->Prop} (r:Rd H a (.dG kvs)) (k:∀ (o:Obj) (Y:Hp),(∀ b u,b≠a->H b=some u->Y b=some u)->(∀ b,Y b=none->H b=none)->Y a=some (.frz o (.dG kvs))->R (ItI a o kvs) Y) :
  (H a=some (.dG kvs)/\∀ o,R (ItI a o kvs) (upd H a (.frz o (.dG kvs))))\/∃ o,H a=some (.frz o (.dG kvs))/\R (ItI a o kvs) H:=by
 rcases r with e | ⟨o,e⟩
 ·refine .inl ⟨e,fun o=>k o _ (fun b u n e=>by rw [xAae n];exact e) (fun b q=>?_) xAad⟩
  by_cases z:b=a
  ·subst z;rw [xAad] at q;cases q
  ·rw [xAae z] at q;exact q
 ·exact .inr ⟨o,e,k o H (fun _ _ _ e=>e) (fun _ e=>e) e⟩
theorem xAto {us:List V} {v:V} {r:Nat} (h:r≤us.length):cutV (us++[v]) (some (r:Int)) (some (-1))=us.drop r:=by
 unfold cutV;rw [HT.sIx_nat]
 have e:HT.sIx (us++[v]).length (us++[v]).length (some (-1))=us.length:=by
  unfold HT.sIx;rw [qg,ql]
  simp only [show ((-1:Int)<0) from by decide,if_true]
  omega
 rw [e,qg,ql,Nat.min_eq_left (by omega),List.drop_append_of_le_length h];rw [List.take_append_of_le_length (by rw [zr];exact qc _),List.take_of_length_le (by rw [zr];exact qc _)]
theorem xAbv {H:Hp} {ws:List V} {ls:List (List Key)} (h:AL (NmK H) ws ls):DTs H ws (ls.map tD):=AL.dts (fun _ _ z=>gk_td z) h
theorem xArg (ls:List (List Key)) (k:List Key):((ls.map tD).countP fun d=>PyData.eqv d (tD k))=ls.countP fun a=>decide (a=k):=by
 rw [List.countP_map]
 exact List.countP_congr fun a _=>by
  show PyData.eqv (tD a) (tD k)=true↔_;rw [xAdf]
theorem xAix {ini:List (List Key)} {las:List Key} (hn:ini.Nodup):((((ini++[las]).map tD).countP fun d=>PyData.eqv d (tD las))>1)↔las∈ini:=by
 rw [xArg,List.countP_append]
 have h1:List.countP (fun a=>decide (a=las)) [las]=1:=by simp
 rw [h1];constructor
 ·intro h
  have:0<List.countP (fun a=>decide (a=las)) ini:=by omega
  obtain ⟨a,ha,e⟩:=ju.mp this;rw [← of_decide_eq_true e];exact ha
 ·intro h
  have:0<List.countP (fun a=>decide (a=las)) ini:=ju.mpr ⟨las,h,decide_eq_true rfl⟩;omega
structure WP (g:List Key->Option (List Key)) (E:List Key->Prop) (p:List Key) (ini:List (List Key)) (las:List Key):Prop where
 hd:(ini++[las]).head?=some p
 ch:∀ (i:Nat) a b,(ini++[las])[i]?=some a->(ini++[las])[i+1]?=some b->g a=some b
 nd:(ini++[las]).Nodup
 out:∀ a∈ini,¬ E a
section
variable {g:List Key->Option (List Key)} {E:List Key->Prop} {p las o:List Key} {ini:List (List Key)}
theorem WP.one:WP g E p [] p:=⟨rfl,fun i a b h1 h2=>by simp at h2,List.nodup_cons.mpr ⟨(fun z=>nomatch z),List.nodup_nil⟩,fun a z=>nomatch z⟩
theorem WP.niD (w:WP g E p ini las):ini.Nodup:=(zp.mp w.nd).1
theorem WP.las_no (w:WP g E p ini las):las∉ini:=fun z=>(zp.mp w.nd).2.2 las z las (qj.mpr rfl) rfl
theorem WP.stop (w:WP g E p ini las) (h:g las=none\/E las):Rnd.WO g E p ini las:=⟨w.hd,w.ch,w.niD,w.out,.inr ⟨w.las_no,h⟩⟩
theorem WP.hd2 (w:WP g E p ini las) (o:List Key):((ini++[las])++[o]).head?=some p:=by
 have:=w.hd;rw [List.head?_append,this];rfl
theorem WP.ch2 (w:WP g E p ini las) (e:g las=some o):∀ (i:Nat) a b,((ini++[las])++[o])[i]?=some a->((ini++[las])++[o])[i+1]?=some b->g a=some b:=fun i a b h1 h2=>by
 have hl:(ini++[las]).length=ini.length+1:=by rw [qg,ql]
 by_cases z:i+1<(ini++[las]).length
 ·rw [zn (by omega)] at h1
  rw [zn z] at h2;exact w.ch i a b h1 h2
 ·have hb:=(qv.mp h2).1
  rw [qg,ql] at hb
  have hi:i=ini.length:=by omega
  subst hi;rw [zn (by omega)] at h1;rw [List.getElem?_append_right (by omega)] at h2
  have h1:las=a:=by simpa using h1
  have h2:o=b:=by simpa [hl] using h2
  rw [← h1,← h2];exact e
theorem WP.again (w:WP g E p ini las) (e:g las=some o) (hE:¬ E las) (h:o∈ini++[las]):Rnd.WO g E p (ini++[las]) o:=⟨w.hd2 o,w.ch2 e,w.nd,fun a ha=>by
 rcases qw.mp ha with z | z
 ·exact w.out a z
 ·rw [qj.mp z];exact hE,.inl h⟩
theorem WP.on (w:WP g E p ini las) (e:g las=some o) (hE:¬ E las) (h:o∉ini++[las]):WP g E p (ini++[las]) o:=⟨w.hd2 o,w.ch2 e,zp.mpr ⟨w.nd,ze.mpr ⟨(fun z=>nomatch z),zy⟩,fun a ha b hb z=>h (by rw [← qj.mp hb,← z];exact ha)⟩,fun a ha=>by
 rcases qw.mp ha with z | z
 ·exact w.out a z
 ·rw [qj.mp z];exact hE⟩
theorem WP.dom (w:WP g E p ini las) {a:List Key} (h:a∈ini):g a≠none:=fun z=>by
 obtain ⟨i,hi,rfl⟩:=qt.mp h
 have e1:(ini++[las])[i]?=some ini[i]:=by rw [zn hi,qe hi]
 have hl:i+1<(ini++[las]).length:=by rw [qg,ql];omega
 have:=w.ch i _ _ e1 (qe hl);rw [z] at this;cases this
theorem WP.fits {ys:List Pc} (w:WP (gX ys) E p ini las):ini.length≤ys.length:=xAgd w.niD fun a ha=>gX_hp.mp (w.dom ha)
end
def FRb (g:TG) (tb:TS) (D:Ends) (σ:L2.St) (J:It) (H1:Hp):Prop:=∃ W:Nat->Nat->L2.St->Hp->Prop,(∃ m,W 0 m σ H1)/\∀ i m σ H,W i m σ H →
 (J.stop i H/\D.nx σ H)\/(J.go i H/\∃ N:L2.St->Hp->Prop,(∀ σ' H',N σ' H'->∃ m',m'<m/\W (i+1) m' σ' H')/\∀ x H',J.yld i H x H'->g x σ H' fun σ2 H2=>tb { D with nx:=N,ct:=N,bk:=D.nx } σ2 H2)
theorem xAml {wi:TI} {g:TG} {tb:TS} {D:Ends} {σ:L2.St} {H:Hp} (h:wi σ H (FRb g tb D σ)):tFor wi g tb D σ H:=h
theorem xAbl {H H':Hp} {a:Addr} {o:HO} (e:H a=some o) (ho:∀ ys,o≠.tup ys) (s:Same (del H a) H'):Tups H H':=fun b xs q=>s _ _ (by rw [xAaj (fun z=>by rw [z,e] at q;exact ho xs (Option.some.inj q))];exact q)
theorem pG_pG {kvs:List (KD×V×V)} {k:KD} {y y' v w:V} (h:vG kvs k=none):pG (pG kvs k y v) k y' w=pG kvs k y w:=by
 have e1:∀ u,pG kvs k y u=kvs++[(k,y,u)]:=fun u=>by
  unfold pG;rw [h];rfl
 rw [e1,e1];unfold pG
 have hs:(vG (kvs++[(k,y,v)]) k).isSome=true:=by
  rw [← e1,xAfx,if_pos rfl];rfl
 rw [if_pos hs,zg,qz,v7,if_pos rfl]
 congr 1
 have:=vG_no h;rw [z5 (g:=id) fun e he=>?_,jb];rw [if_neg (this e he)];rfl
structure WQ (g:List Key->Option (List Key)) (p:List Key) (ini:List (List Key)) (las:List Key):Prop where
 hd:(ini++[las]).head?=some p
 ch:∀ (i:Nat) a b,(ini++[las])[i]?=some a->(ini++[las])[i+1]?=some b->g a=some b
 nd:ini.Nodup
section
variable {g:List Key->Option (List Key)} {p las o:List Key} {ini:List (List Key)}
theorem WQ.one:WQ g p [] p:=⟨rfl,fun i a b h1 h2=>by simp at h2,List.nodup_nil⟩
theorem WQ.on (w:WQ g p ini las) (e:g las=some o) (h:las∉ini):WQ g p (ini++[las]) o:=by
 have W:WP g (fun _=>False) p ini las:=⟨w.hd,w.ch,zp.mpr ⟨w.nd,ze.mpr ⟨(fun z=>nomatch z),zy⟩,fun a ha b hb z=>h (by rw [← qj.mp hb,← z];exact ha)⟩,fun a _ z=>z⟩;exact ⟨W.hd2 o,W.ch2 e,W.nd⟩
theorem WQ.stop (w:WQ g p ini las) (h:las∈ini\/g las=none):Rnd.WO g (fun _=>False) p ini las:=⟨w.hd,w.ch,w.nd,fun a _ z=>z,by
 by_cases z:las∈ini
 ·exact .inl z
 ·exact .inr ⟨z,.inl (h.resolve_left z)⟩⟩
theorem WQ.fits {ys:List Pc} (w:WQ (gX ys) p ini las):ini.length≤ys.length:=xAgd w.nd fun a ha=>gX_hp.mp (by
 obtain ⟨i,hi,rfl⟩:=qt.mp ha;intro z
 have e1:(ini++[las])[i]?=some ini[i]:=by rw [zn hi,qe hi]
 have hl:i+1<(ini++[las]).length:=by rw [qg,ql];omega
 have:=w.ch i _ _ e1 (qe hl);rw [z] at this
 cases this)
theorem WQ.las_no {ys:List Pc} (w:WQ (gX ys) p ini las) (W:AW ys):las∉ini:=fun z=>W.way (w.stop (.inl z)) z
theorem WQ.comes {ys:List Pc} (w:WQ (gX ys) p ini las) (W:AW ys) (h:gX ys las=none):Rnd.Comes (gX ys) mainK p↔las=mainK:=by
 have wo:=w.stop (.inr h);rw [← Rnd.comes_end h];have hp:p∈ini++[las]:=yn w.hd;rcases qw.mp hp with z | z
 ·obtain ⟨n,h1,h2⟩:=wo.comes z
  exact Rnd.comes_iff (xAcj W.main) h1 fun m hm=>by
   obtain ⟨b,hb,e⟩:=h2 m hm;exact ⟨b,e,wo.dom hb⟩
 ·rw [qj.mp z]
end
theorem xArh (a b c d:Int):PyData.eqv (.tuple [.int a,.int b]) (.tuple [.int c,.int d])=decide (a=c/\b=d):=by
 by_cases h:a=c/\b=d
 ·obtain ⟨rfl,rfl⟩:=h
  rw [decide_eq_true ⟨rfl,rfl⟩];exact (xAfu _ _ rfl rfl).mpr rfl
 ·rw [decide_eq_false h]
  cases q:PyData.eqv (.tuple [.int a,.int b]) (.tuple [.int c,.int d]) with
  | false=>rfl
  | true =>
   have:=(xAfu _ _ rfl rfl).mp q;injection this with this;injection this with h1 h2;injection h1 with h1;injection h2 with h2 _;injection h2 with h2;exact absurd ⟨h1,h2⟩ h
theorem xAtp {xs:List Pc} (W:XW xs) {ini:List (List Key)} {r:Pc} (hr:r∈xs) (hin:r.pt∈ini) (hdom:∀ a∈ini,hp xs a=true) {x:Pc} (hx:x∈xs) (hxi:x.pt∈ini)
  (hmax:∀ y∈xs,y.pt∈ini->¬ Lt2 x.ka x.kb y.ka y.kb):(x.ka=r.ka/\x.kb=r.kb)↔∀ b∈ini,¬ ltX xs r.pt b:=by
 constructor
 ·rintro ⟨h1,h2⟩ b hb ⟨y,z,q1,q2,q3⟩
  rw [fX_of W.nd hr] at q1;cases q1;obtain ⟨hz,rfl⟩:=fX_in q2;rw [← h1,← h2] at q3;exact hmax z hz hb q3
 ·intro h
  have h1:=hmax r hr hin;have h2:¬ Lt2 r.ka r.kb x.ka x.kb:=fun q=>h x.pt hxi ⟨r,x,fX_of W.nd hr,fX_of W.nd hx,q⟩;unfold Lt2 at h1 h2;omega
end My
namespace L2
open PySem PySem.Spec PySem.W PyProof.Rows
section
variable {prog:Program} {w:World} {A:Around} {E:Value->Shared->Prop} {s:Shared}
theorem xAmm {d:Addr} {od:Obj} {es:Array DictEntry} {ep:Nat} {Q:Value->Shared->Prop} (hh:A.handled=none) (hs:(d==sysModules)=false) (ho:s.heap.get? d=some od) (hc:od.ExactDict) (hdat:od.data=.dict es ep) (hz:es.size≤sizeLine)
  (hQ:∀ s' acc c,Moved [] Eq s s'->s'.heap.get? s.heap.objs.size=some { cls:=.type "list",dict:=none,data:=.seq acc c,slots:=#[] }->acc.toList=es.toList.map (·.key)->Q (.ref s.heap.objs.size) s') :
  wpAny (model prog w) A (call (.type "list") [.ref d]) Q E s:=by
 refine callType_codes (Q₁:=fun obj s₁=>obj=.ref s.heap.objs.size/\s₁={ s with heap:=s.heap.push { cls:=.type "list",data:=.seq #[] } }) F.called_list (F.typeCall_list_1 _) F.entry_list_init
  (code_list_new _ ⟨rfl,rfl⟩) fun obj s₁ h₁=>?_
 obtain ⟨rfl,rfl⟩:=h₁;have hS:(s.heap.push { cls:=.type "list",data:=.seq #[] }).get? s.heap.objs.size=some { cls:=.type "list",data:=.seq #[] }:=Heap.get?_push_size _ rfl;refine ⟨⟨_,hS,rfl⟩,F.args_list_init_2 _ _,?_⟩;have hld:d<s.heap.objs.size:=Heap.lt_size ho;generalize hp1:s.heap.push { cls:=.type "list",data:=.seq #[] }=h1 at hS
 have k1:∀ b o,s.heap.get? b=some o->h1.get? b=some o:=fun b o e=>by rw [← hp1];exact Heap.get?_push_of_some _ e
 show wpAny _ A.in1.in1 (do let old ← Builtin.List.listItems (.ref s.heap.objs.size);Builtin.List.listUpdate (.ref s.heap.objs.size) (fun _=>#[]);letGo old.toList.reverse;Builtin.List.listExtendWith (.ref s.heap.objs.size) (.ref d) .none) _ _ { s with heap:=h1 };refine wpAny_bind ?_;unfold Builtin.List.listItems;refine wpAny_bind (wpAny_seqItems (s:={ s with heap:=h1 }) hS rfl (wpAny_pure ?_));show wpAny _ A.in1.in1 (updateSeq s.heap.objs.size (fun _=>#[]) >>= fun _=>letGo (#[]:Array Value).toList.reverse >>= fun _=>Builtin.List.listExtendWith (.ref s.heap.objs.size) (.ref d) .none) _ _ { s with heap:=h1 };refine wpAny_bind (wpAny_updateSeq (s:={ s with heap:=h1 }) hS rfl ?_);have hS2:=Heap.get?_update_self (Obj.mapSeq (fun _=>(#[]:Array Value))) hS rfl
 have k2:∀ b o,s.heap.get? b=some o->(h1.update s.heap.objs.size (Obj.mapSeq (fun _=>(#[]:Array Value)))).get? b=some o :=
  fun b o e=>(Heap.get?_update_other _ _ (zi (Heap.lt_size e))).trans (k1 b o e)
 have hz2:(h1.update s.heap.objs.size (Obj.mapSeq (fun _=>(#[]:Array Value)))).objs.size=s.heap.objs.size+1:=by rw [Heap.size_update,← hp1,Heap.size_push]
 show wpAny _ _ _ _ _ { s with heap:=h1.update s.heap.objs.size (Obj.mapSeq (fun _=>(#[]:Array Value))) };generalize h1.update s.heap.objs.size (Obj.mapSeq (fun _=>(#[]:Array Value)))=h2 at hS2 k2 hz2;refine wpAny_bind (wpAny_letGo ?_);have hT2:Shared.TypeIs { s with heap:=h2 } (.ref d) "dict":=⟨od,k2 _ _ ho,hc.1⟩
 have e1:Builtin.List.listSameRef (.ref s.heap.objs.size) (.ref d)=false:=by
  show (s.heap.objs.size==d)=false;exact beq_eq_false_iff_ne.mpr (zi hld)
 unfold Builtin.List.listExtendWith;refine wpAny_bind (wpAny_typeOf hT2 ?_);rw [if_neg (by rw [e1];decide)];refine wpAny_bind (xAgv (s:={ s with heap:=h2 }) hs (k2 _ _ ho) hc hdat ?_);refine wpAny_bind (wpAny_holding ?_);show wpAny _ _ _ _ _ { s with heap:=h2.push { cls:=.type "dict_keyiterator",data:=.fields #[.ref d,.int 0 0,.int es.size 0,.int ep 0] } };have hi3:(h2.push { cls:=.type "dict_keyiterator",data:=.fields #[.ref d,.int 0 0,.int es.size 0,.int ep 0] }).IsKeyIter h2.objs.size d 0 es.size ep:=⟨_,Heap.get?_push_size _ rfl,rfl,rfl⟩;have k3:∀ b o,h2.get? b=some o->(h2.push { cls:=.type "dict_keyiterator",data:=.fields #[.ref d,.int 0 0,.int es.size 0,.int ep 0] }).get? b=some o:=fun b o e=>Heap.get?_push_of_some _ e;generalize h2.push { cls:=.type "dict_keyiterator",data:=.fields #[.ref d,.int 0 0,.int es.size 0,.int ep 0] }=h3 at hi3 k3;have hT3:Shared.TypeIs { s with heap:=h3 } (.ref d) "dict":=⟨od,k3 _ _ (k2 _ _ ho),hc.1⟩;unfold Builtin.List.listLengthHint;refine wpAny_bind (wpAny_specialOf (name:=Str.ofString "__len__") hT3 F.slot_dict_len.lookup ?_);generalize hid:("dict.__len__":String)=id0
 wp_delta
 rw [show splitId id0=some ("dict","__len__") from by subst hid;decide +kernel];subst hid;refine wpAny_bind (wpAny_isInstance (T:="dict") hT3 PySem.F.sub_dict_dict ?_);rw [if_neg (by decide)]
 wp_delta
 rw [if_pos (by decide +kernel)];refine wpAny_bind (wpAny_typeOf hT3 (wpAny_pure ?_));rw [if_pos (by decide +kernel)];have hS3:=k3 _ _ hS2;refine wpAny_bind (wpAny_rule (wpAny_bind ?_));unfold Builtin.List.listTouch;refine wpAny_bind (listUpdate_at (s:={ s with heap:=h3 }) hS3 rfl ?_);obtain ⟨c1,hS4⟩:∃ c1,(h3.update s.heap.objs.size (Obj.mapSeq (·.push Value.none))).get? s.heap.objs.size=some (seqObj "list" #[Value.none] c1):=⟨_,get?_update_seq hS3 _⟩;have k4:∀ b o,b≠s.heap.objs.size->h3.get? b=some o->(h3.update s.heap.objs.size (Obj.mapSeq (·.push Value.none))).get? b=some o:=fun b o hb e=>(Heap.get?_update_other _ _ (fun z=>hb z.symm)).trans e;show wpAny _ _ _ _ _ { s with heap:=h3.update s.heap.objs.size (Obj.mapSeq (·.push Value.none)) };generalize h3.update s.heap.objs.size (Obj.mapSeq (·.push Value.none))=h4 at hS4 k4;refine listUpdate_at (s:={ s with heap:=h4 }) hS4 rfl ?_;obtain ⟨c2,hS5⟩:∃ c2,(h4.update s.heap.objs.size (Obj.mapSeq (·.pop))).get? s.heap.objs.size=some (seqObj "list" #[] c2):=⟨_,get?_update_seq hS4 _⟩;have k5:∀ b o,b≠s.heap.objs.size->h3.get? b=some o->(h4.update s.heap.objs.size (Obj.mapSeq (·.pop))).get? b=some o:=fun b o hb e=>(Heap.get?_update_other _ _ (fun z=>hb z.symm)).trans (k4 b o hb e);show wpAny _ _ _ _ _ { s with heap:=h4.update s.heap.objs.size (Obj.mapSeq (·.pop)) };generalize h4.update s.heap.objs.size (Obj.mapSeq (·.pop))=h5 at hS5 k5;show wpAny _ _ (again (Code.builtin "list.extend.loop" ⟨[Value.ref s.heap.objs.size,Value.ref h2.objs.size,Value.none],[]⟩)) _ _ _;rw [hz2] at hi3 ⊢;have W:=xAin (prog:=prog) (w:=w) (A:=A.in1.in1) (it:=s.heap.objs.size+1) (d:=d) (od:=od) (es:=es) (ep:=ep) hh (zi (z7 hld)) hdat;obtain ⟨oi,ei,ci,di⟩:=hi3;refine wpAny_pure ⟨plainId_quiet F.plain_extend_loop _,codeAny_extend_loopS W hz s.heap.objs.size (fun z=>?_) _ es.size 0 { s with heap:=h5 } #[] c2 rfl (q5 _) ⟨⟨oi,k5 _ _ (vx _) ei,ci,di⟩,k5 _ _ (qi hld) (k3 _ _ (k2 _ _ ho))⟩ hS5 (ItemsOf.nil _) fun s' acc' c' hm hS' hacc=>?_⟩
 ·simp only [List.mem_cons,List.not_mem_nil,or_false] at z
  rcases z with z | z
  ·exact vx _ z.symm
  ·exact zi hld z
 ·refine ⟨rfl,hQ s' acc' c' ⟨fun b o _ e=>?_,hm.gens,hm.drawn,hm.os,hm.toks⟩ hS' (xAfz hacc)⟩
  have hb:b<s.heap.objs.size:=Heap.lt_size e;refine hm.heap b o (fun z=>?_) (k5 b o (qi hb) (k3 _ _ (k2 _ _ e)))
  simp only [List.mem_cons,List.not_mem_nil,or_false] at z
  rcases z with z | z
  ·exact qi hb z
  ·exact qi (z7 hb) z
end
def tLKeys:List V->Hp->VK->Prop:=fun xs H1 Q=>∃ a kvs,xs=[.ref a]/\Rd H1 a (.dG kvs)/\kvs.length≤1000/\∀ p H',H1 p=none->Same H1 H'->H' p=some (.lst (kvs.map (·.2.1)))->Q (.ref p) H'
section
variable {X:Cx}
theorem xAmn (hh:X.A.handled=none):CallR X (.type "list") tLKeys:=by
 intro pins s σ H xs us Q I r h;obtain ⟨a,kvs,rfl,rd,hz,q⟩:=h;obtain ⟨u,rfl,ru⟩:=vals1 r;cases ru;obtain ⟨_,hsm,ya,pr,o,es,ep,ho,hc,hdat,he,his,hn⟩:=gd_rd I rd
 have hlen:es.size=kvs.length:=by
  have:es.toList.length=kvs.length:=by rw [he,qf,pr.length]
  simpa using this
 refine xAmm hh hsm ho hc hdat (by rw [hlen,sizeLine_eq];omega) fun s' acc c m eS ea=>?_
 have e':s'={ s with heap:=s'.heap,toks:=s'.toks }:=by
  obtain ⟨g1,g2,g3,g4,g5⟩:=m;cases s';cases g2;cases g3;cases g4;rfl
 have hf:=I.hok.fresh (a:=s.heap.objs.size) (qc _)
 have I3:Inv X pins σ (upd H s.heap.objs.size (.lst (kvs.map (·.2.1)))) s':=by
  rw [e'];refine I.laid (t':=s'.toks) (h':=s'.heap) (fun b u e=>m.heap b u (by simp) e) (Nat.le_refl _) ⟨?_,acc.toList,c,?_,by simpa using eS⟩
  ·show (kvs.map (·.2.1)).length≤sizeLine
   rw [qf,sizeLine_eq];omega
  ·rw [ea,he,z4]
   exact xApk pr
 exact ⟨.ref _,_,I3,rfl,q _ _ hf (Same.new hf) xAad⟩
end
def tSortF (K:PySem.W.Frag) (ln cl:Nat) (q:Str) (P:Addr) (i:Nat) (tb:TE) (t:TA):TE:=fun σ H Q=>t σ H fun vs H1=>Tb ln cl q P H1/\∀ H2,Tb ln cl q P H2->Same (del H1 P) (del H2 P)->∃ vz,σ[i]?=some (some vz)/\rSortK K (fun vs H Q _=>∃ y,vs=[y]/\tb [some y,some vz] H Q) vs H2 Q
section
variable {X:Cx} {k:Nat}
theorem xAri {x y z:Str} {i:Nat} {e body:Expr} {params:Arguments} {scope:Scope} {c P:Addr} {p lpos kp pos:Pos} {t:TA} {tb:TE} (hcode:X.env.code=.ref c) (hC:codeHdIn X.K c P=true) (hB:X.base.BuiltinsAt X.mg P) (hr:Room (k+2) X.A)
  (hg:Gl X x) (hm:X.mg x=none) (hv:bootBuiltins x=some (.builtin "sorted"))
  (S:LamSc y z scope) (hN:X.N[i]?=some z) (hk:X.env.kindOf z=some .cell) (hX:∀ x,X.env.kindOf x=some .cell->∃ c,X.env.cells.lookup x=some c) (hcm:X.calm=true) (hfn:X.fn z=true) (hbind:∀ cl pm cd ctv x,bindArgs (kla_fn "<lambda>" (X.env.qual++"<lambda>") params body scope cl pm cd ctv) ⟨[x],[]⟩=pure [(y,x)])
  (hb:∀ cl f cd A outer s H,Room k (cxLam X.prog X.w X.K X.mg X.base y z (X.env.qual++"<lambda>") scope cl f cd A outer s H).A->PE (cxLam X.prog X.w X.K X.mg X.base y z (X.env.qual++"<lambda>") scope cl f cd A outer s H) body tb) (ha:PA X [e] t)
  (hdef:defaultsOf params X.env=([],[]):=by rfl)
  (hn:x≠"__name__":=by decide) (hdb:(x==("__debug__":Str))=false:=by decide)
  (he:starEach [e] X.env=(false,eval e X.env)::starEach [] X.env:=by rfl):PE X (.Call (.Name x p) [e] [⟨some "key",.Lambda params body scope lpos,kp⟩] pos) (tSortF X.K lpos.line lpos.col (X.env.qual++"<lambda>") P i tb t):=by
 intro pins s σ H Q I h;obtain ⟨cz,hcz⟩:=hX z hk
 have hfree:∀ y∈scope.names,y.2=.free->∃ c,X.env.cells.lookup y.1=some c:=fun n hn e=>by rw [S.fr n hn e];exact ⟨cz,hcz⟩
 have hcl:=xAcw hfree;have hsub:=xAhs hfree (acc:=[]) (fun x c e=>by cases e)
 have honly:∀ n a,(clo X.env scope.names []).lookup n=some a->n=z/\a=cz:=fun n a e=>by
  rcases xAha e with q | q
  ·have hnz:n=z:=S.fr _ q rfl
   have:=hsub n a e;rw [hnz,hcz] at this;exact ⟨hnz,(Option.some.inj this).symm⟩
  ·cases q
 have hzc:(clo X.env scope.names []).lookup z=some cz:=by
  obtain ⟨c',hc'⟩:=xAht (env:=X.env) (acc:=[]) (.inl (PySem.mem_of_lookup S.lz));rw [hc',(honly z c' hc').2]
 refine wpAny_Call_Name_kw (xAja I hg hm hv ?_ hn hdb);refine callWith_kw (thn (ha pos pins s σ H _ I h) fun us s1 ⟨vs,H1,I1,r1,hT,q1⟩=>kws_cons (xApl I1 hcode hC hB hT hdef hcl fun f c' ctv pm s2 H2 I2 hT2 hc2 sm hf nf of=>kws_nil ?_)) (by rw [he];rfl) (by rw [he];rfl);obtain ⟨vz,hσ,q2⟩:=q1 H2 hT2 sm;obtain ⟨m0,hn1,hl⟩:=I2.loc;obtain ⟨uz,ruz,look⟩:=hl i z vz hN hσ (.inr (.inl hk))
 have hcell:s2.heap.IsCell cz (some uz):=by
  rcases look with ⟨kk,_⟩ | ⟨_,c2,hc2',hcell⟩
  ·rw [hk] at kk;cases kk
  ·rw [hcz] at hc2';cases hc2';exact hcell
 have hczn:=I2.freeC z cz hcz
 have nstk:cz∉frs X.stack:=I2.stkNot (I2.cne z cz hcz) (fun hm=>by
  obtain ⟨_,o,ho,_⟩:=I2.ok.funs.mem hm
  exact absurd (qq (Heap.lt_size ho) (I2.ok.cab z cz hfn hcz)) (zm _))
 refine xAjn (fun s' Hm x y Q e0 un same r1 hsp=>?_) (by have:=hr.un;omega) I2 r1 q2;obtain ⟨y',hy,hsp⟩:=hsp;cases hy;have hcr:s'.heap.CodeRec (.ref c') (X.env.qual++"<lambda>"):=(e0.hok c' _ (same _ _ hc2)).1;obtain ⟨oc,ec,dc⟩:=hcell;exact xAio hr.in2 e0 (un.keep f _ of hf nf (by simp)) hcr S (hbind _ _ _ _ _) r1 honly hzc ⟨oc,un.keep cz _ ec hczn nstk (by simp),dc⟩ (un.free cz _ ec hczn (by simp)) ruz (hb _ _ _ _ _ _ _ (hr.in2.deeper _)) hsp
end
theorem pq {X:Cx} (i:Nat) {x:Str} {pos:Pos} (h:(X.N[i]?,X.env.scope.names.lookup x,(x==("__debug__":Str)),(x==("__classdict__":Str)))=(some x,some NameKind.local,false,false)):PE X (.Name x pos) (tVar i) :=
 pv i (congrArg (·.1) h) (.inl (congrArg (·.2.1) h)) (congrArg (·.2.2.1) h) (congrArg (·.2.2.2) h)
end L2
namespace My
open PySem L2 PyProof.Rows
def nd:List Key->KD
 | []=>.non
 | a::r=>.tup (a::r)
theorem xAhf {k:List Key} (h:k≠[]):nd k=.tup k:=by
 cases k with
 | nil=>exact absurd rfl h
 | cons a r=>rfl
theorem xAju {a b:List Key} (h:nd a=nd b):a=b:=by
 cases a with
 | nil=>cases b with
  | nil=>rfl
  | cons b r=>cases h
 | cons a r=>cases b with
  | nil=>cases h
  | cons b q=>injection h
theorem Nm.ne {k:List Key} (h:Nm k):k≠[]:=by obtain ⟨w,x,rfl,_⟩:=h;exact fun z=>nomatch z
theorem Pn.ne {k:List Key} (h:Pn k):k≠[]:=by obtain ⟨w,x,rfl⟩:=h.two;exact fun z=>nomatch z
def Qn (k:List Key):Prop:=k=[]\/Pn k
def NmN (H:Hp) (v:V) (k:List Key):Prop:=GK H (nd k) v
def OuN (H:Hp) (v:V) (x:Pc):Prop:=GK H (nd x.ou) v
theorem OuN.tups {H H':Hp} {v:V} {x:Pc} (h:OuN H v x) (t:Tups H H'):OuN H' v x:=GK.tups h t
theorem NmN.tups {H H':Hp} {v:V} {k:List Key} (h:NmN H v k) (t:Tups H H'):NmN H' v k:=GK.tups h t
theorem gk_nd {H:Hp} {v:V} {k:List Key} (h:k≠[]) (g:GK H (.tup k) v):GK H (nd k) v:=by rw [xAhf h];exact g
theorem gk_dn {H:Hp} {v:V} {k:List Key} (h:k≠[]) (g:GK H (nd k) v):GK H (.tup k) v:=by rw [xAhf h] at g;exact g
def SN (kvs:List (KD×V×V)) (S:List Key->Prop):Prop:=∀ k,(vG kvs (nd k)).isSome=true↔S k
theorem SN.nil:SN [] (fun _=>False):=fun k=>⟨fun z=>absurd z qm,fun z=>z.elim⟩
theorem SN.put {kvs:List (KD×V×V)} {S S':List Key->Prop} {p:List Key} (h:SN kvs S) (y v:V) (hs:∀ k,S' k↔(k=p\/S k)):SN (pG kvs (nd p) y v) S':=fun k=>by
 rw [xAfx,hs]
 by_cases z:k=p
 ·subst z;rw [if_pos rfl];exact ⟨fun _=>.inl rfl,fun _=>rfl⟩
 ·rw [if_neg (fun y=>z (xAju y)),h k]
  exact ⟨.inr,fun y=>y.resolve_left z⟩
theorem SN.putT {kvs:List (KD×V×V)} {S S':List Key->Prop} {p:List Key} (h:SN kvs S) (hp:p≠[]) (y v:V) (hs:∀ k,S' k↔(k=p\/S k)):SN (pG kvs (.tup p) y v) S':=by rw [← xAhf hp];exact h.put y v hs
theorem SN.yes {kvs:List (KD×V×V)} {S:List Key->Prop} {k:List Key} (h:SN kvs S) (hs:S k):(vG kvs (nd k)).isSome=true:=(h k).mpr hs
theorem SN.no {kvs:List (KD×V×V)} {S:List Key->Prop} {k:List Key} (h:SN kvs S) (hs:¬ S k):(vG kvs (nd k)).isSome=false:=wu.mpr fun z=>hs ((h k).mp z)
section
variable {R:V->Pc->Prop} {H:Hp} {kvs:List (KD×V×V)} {xs:List Pc} {k:List Key}
theorem xAtq (hz:∀ x∈xs,x.pt≠[]):gX xs []=none:=xAcj fun z=>by
 obtain ⟨x,hx,e⟩:=qd.mp z;exact hz x hx e
theorem xAtr (h:AL (EK R H) kvs xs) (hn:(xs.map (·.pt)).Nodup) (hz:∀ x∈xs,x.pt≠[]):(vG kvs (nd k)).isSome=(gX xs k).isSome:=by
 by_cases e:k=[]
 ·subst e
  rw [xAtq hz,show nd []=KD.non from rfl,xAec fun e he z=>?_]
  ·rfl
  ·obtain ⟨r,_,p⟩:=h.mem he
   rw [p.1] at z;cases z
 ·rw [xAhf e];exact xArf h hn
theorem al_gn {o:List Key} (h:AL (EK (OuN H) H) kvs xs) (hn:(xs.map (·.pt)).Nodup) (hz:∀ x∈xs,x.pt≠[]) (e:gX xs k=some o):∃ v,vG kvs (nd k)=some v/\GK H (nd o) v:=by
 obtain ⟨x,hx,rfl,rfl⟩:=gX_in e;rw [xAhf (hz x hx)];exact xAcb h hn hx
end
theorem AL.mapR {β α γ:Type} {P:β->α->Prop} {P2:β->γ->Prop} {f:α->γ} {vs:List β} {rs:List α} (h:AL P vs rs) (k:∀ v r,v∈vs->r∈rs->P v r->P2 v (f r)):AL P2 vs (rs.map f):=by
 refine ⟨by rw [qf,h.1],fun m v r e1 e2=>?_⟩;rw [qu] at e2;obtain ⟨u,hu,rfl⟩:=zt.mp e2;exact k _ _ (qo e1) (qo hu) (h.2 m v u e1 hu)
theorem xAfh {α:Type}:∀ (l m:List α),l.Nodup->(∀ a∈l,a∈m)->l.length≤m.length
 | [],m,_,_=>q5 _
 | a::l,m,hn,hs=>by
  obtain ⟨A,B,e⟩:=jc (hs a qh)
  have:=xAfh l (A++B) (ze.mp hn).2 fun b hb=>by
   have h1:=hs b (qr _ hb);rw [e] at h1;rcases qw.mp h1 with z | z
   ·exact z6 _ z
   ·rcases qy.mp z with rfl | z
    ·exact absurd hb (ze.mp hn).1
    ·exact zj _ z
  rw [e,qg,qx];rw [qg] at this;rw [qx];omega
structure LW (ys:List Pc):Prop where
 nd:(ys.map (·.pt)).Nodup
 pt:∀ x∈ys,Nm x.pt
 ou:∀ x∈ys,Qn x.ou
 few:ys.length≤100
 acyc:∀ a,¬ Rnd.onC (gX ys) a
section
variable {ys:List Pc}
theorem AW.lw (W:AW ys):LW ys:=⟨W.nd,fun x hx=>(W.w x hx).pt,fun x hx=>.inr (W.w x hx).ou,W.few,W.acyc⟩
theorem LW.main (W:LW ys):mainK∉ys.map (·.pt):=fun z=>by
 obtain ⟨x,hx,e⟩:=qd.mp z;exact (W.pt x hx).main e
theorem LW.nz (W:LW ys):∀ x∈ys,x.pt≠[]:=fun x hx=>(W.pt x hx).ne
theorem LW.way (W:LW ys) {E:List Key->Prop} {p las:List Key} {ini:List (List Key)} (w:Rnd.WO (gX ys) E p ini las):las∉ini:=fun z=>by
 obtain ⟨r,hr,e⟩:=qt.mp z;exact W.acyc las ((w.round hr e).1 las (by rw [← e];exact Rnd.mem_dropS (qc _) hr))
theorem LW.las_no (W:LW ys) {p las:List Key} {ini:List (List Key)} (w:WQ (gX ys) p ini las):las∉ini:=fun z=>W.way (w.stop (.inl z)) z
theorem LW.comes (W:LW ys) {p las:List Key} {ini:List (List Key)} (w:WQ (gX ys) p ini las) (h:gX ys las=none):Rnd.Comes (gX ys) mainK p↔las=mainK:=by
 have wo:=w.stop (.inr h);rw [← Rnd.comes_end h];have hp:p∈ini++[las]:=yn w.hd;rcases qw.mp hp with z | z
 ·obtain ⟨n,h1,h2⟩:=wo.comes z
  exact Rnd.comes_iff (xAcj W.main) h1 fun m hm=>by
   obtain ⟨b,hb,e⟩:=h2 m hm;exact ⟨b,e,wo.dom hb⟩
 ·rw [qj.mp z]
end
def nodes (ys:List Pc):List (List Key):=mainK::(ys.map (·.pt)++ys.map (·.ou))
theorem xAts {ys:List Pc} {x:Pc} (h:x∈ys):x.pt∈nodes ys:=qr _ (z6 _ (qd.mpr ⟨x,h,rfl⟩))
theorem xAtt {ys:List Pc} {k o:List Key} (h:gX ys k=some o):o∈nodes ys:=by
 obtain ⟨x,hx,_,rfl⟩:=gX_in h;exact qr _ (zj _ (qd.mpr ⟨x,hx,rfl⟩))
structure RM (H:Hp) (ys:List Pc) (f:List Key->Option Bool) (kr:List (KD×V×V)):Prop where
 kn:(kr.map (·.1)).Nodup
 ent:∀ e∈kr,∃ k,k∈nodes ys/\e.1=nd k/\GK H (nd k) e.2.1
 at_:∀ k,vG kr (nd k)=(f k).map V.bl
 main:f mainK=some true
 val:∀ k b,f k=some b->(b=true↔Rnd.Comes (gX ys) mainK k)
section
variable {H H':Hp} {ys:List Pc} {f:List Key->Option Bool} {kr:List (KD×V×V)}
theorem RM.tups (h:RM H ys f kr) (t:Tups H H'):RM H' ys f kr:=⟨h.kn,fun e he=>let ⟨k,h1,h2,h3⟩:=h.ent e he;⟨k,h1,h2,h3.tups t⟩,h.at_,h.main,h.val⟩
theorem RM.few (h:RM H ys f kr) (hy:ys.length≤100):kr.length≤201:=by
 have:=xAfh (kr.map (·.1)) ((nodes ys).map My.nd) h.kn fun a ha=>by
  obtain ⟨e,he,rfl⟩:=qd.mp ha;obtain ⟨k,h1,h2,_⟩:=h.ent e he;exact qd.mpr ⟨k,h1,h2.symm⟩
 rw [qf,qf] at this;unfold nodes at this;rw [qx,qg,qf,qf] at this;omega
theorem pG_keys {α β:Type} (kvs:List (KD×α×β)) (k:KD) (y:α) (v:β):(pG kvs k y v).map (·.1)=if (vG kvs k).isSome=true then kvs.map (·.1) else kvs.map (·.1)++[k]:=by
 unfold pG
 by_cases h:(vG kvs k).isSome=true
 ·rw [if_pos h,if_pos h,z4]
  refine z5 fun e _=>?_;show (if e.1=k then (e.1,e.2.1,v) else e).1=e.1
  split <;> rfl
 ·rw [if_neg h,if_neg h,zg];rfl
theorem pG_nodup {α β:Type} {kvs:List (KD×α×β)} (h:(kvs.map (·.1)).Nodup) (k:KD) (y:α) (v:β):((pG kvs k y v).map (·.1)).Nodup:=by
 rw [pG_keys]
 by_cases q:(vG kvs k).isSome=true
 ·rw [if_pos q];exact h
 ·rw [if_neg q,zp]
  have hn:vG kvs k=none:=by
   cases z:vG kvs k with
   | none=>rfl
   | some u=>rw [z] at q;exact absurd rfl q
  refine ⟨h,ze.mpr ⟨(fun z=>nomatch z),zy⟩,fun a ha b hb e=>?_⟩;obtain ⟨x,hx,rfl⟩:=qd.mp ha;exact vG_no hn x hx (e.trans (qj.mp hb))
theorem pG_mem {α β:Type} {kvs:List (KD×α×β)} {k:KD} {y:α} {v:β} {e:KD×α×β} (h:e∈pG kvs k y v):(e=(k,y,v))\/∃ e'∈kvs,e'.1=e.1/\e'.2.1=e.2.1:=by
 unfold pG at h
 by_cases q:(vG kvs k).isSome=true
 ·rw [if_pos q] at h
  obtain ⟨e',he,rfl⟩:=qd.mp h;refine .inr ⟨e',he,?_⟩
  by_cases z:e'.1=k
  ·rw [if_pos z];exact ⟨rfl,rfl⟩
  ·rw [if_neg z];exact ⟨rfl,rfl⟩
 ·rw [if_neg q] at h
  rcases qw.mp h with z | z
  ·exact .inr ⟨e,z,rfl,rfl⟩
  ·exact .inl (qj.mp z)
theorem RM.put (h:RM H ys f kr) {k:List Key} {y:V} {c:Bool} (hk:k∈nodes ys) (g:GK H (My.nd k) y) (hc:c=true↔Rnd.Comes (gX ys) mainK k):RM H ys (fun a=>if a=k then some c else f a) (pG kr (My.nd k) y (.bl c)) where
 kn:=pG_nodup h.kn _ _ _
 ent:=fun e he=>by
  rcases pG_mem he with rfl | ⟨e',he',h1,h2⟩
  ·exact ⟨k,hk,rfl,g⟩
  ·obtain ⟨k',q1,q2,q3⟩:=h.ent e' he'
   exact ⟨k',q1,h1.symm.trans q2,by rw [← h2];exact q3⟩
 at_:=fun a=>by
  rw [xAfx];show _=(if a=k then some c else f a).map V.bl
  by_cases z:a=k
  ·subst z;rw [if_pos rfl,if_pos rfl];rfl
  ·rw [if_neg (fun y=>z (xAju y)),if_neg z];exact h.at_ a
 main:=by
  show (if mainK=k then some c else f mainK)=some true
  by_cases z:mainK=k
  ·rw [if_pos z,hc.mpr (by rw [← z];exact ⟨0,rfl⟩)]
  ·rw [if_neg z];exact h.main
 val:=fun a b q=>by
  have q:(if a=k then some c else f a)=some b:=q
  by_cases z:a=k
  ·rw [if_pos z] at q
   cases q;rw [z];exact hc
  ·rw [if_neg z] at q;exact h.val a b q
theorem RM.sn (h:RM H ys f kr):SN kr (fun k=>f k≠none):=fun k=>by
 show _↔f k≠none;rw [h.at_ k]
 cases q:f k with
 | none=>exact ⟨fun z=>absurd z qm,fun z=>absurd rfl z⟩
 | some b=>exact ⟨(fun _ z=>nomatch z),fun _=>rfl⟩
theorem RM.one {y:V} (g:GK H (.tup mainK) y):RM H ys (fun k=>if k=mainK then some true else none) [((.tup mainK,y,.bl true):KD×V×V)] where
 kn:=ze.mpr ⟨(fun z=>nomatch z),zy⟩
 ent:=fun e he=>by rw [qj.mp he];exact ⟨mainK,qh,rfl,g⟩
 at_:=fun k=>by
  have h:=xAfx ([]:List (KD×V×V)) (.tup mainK) (My.nd k) y (.bl true);rw [show pG ([]:List (KD×V×V)) (.tup mainK) y (.bl true)=[(.tup mainK,y,.bl true)] from rfl] at h;rw [h];show _=(if k=mainK then some true else none:Option Bool).map V.bl
  by_cases z:k=mainK
  ·rw [if_pos z,if_pos (by rw [z];rfl)];rfl
  ·rw [if_neg z,if_neg (fun q:My.nd k=KD.tup mainK=>z (xAju (a:=k) (b:=mainK) q))];rfl
 main:=if_pos rfl
 val:=fun k b e=>by
  have e:(if k=mainK then some true else none:Option Bool)=some b:=e
  by_cases z:k=mainK
  ·rw [if_pos z] at e
   cases e;rw [z];exact ⟨fun _=>⟨0,rfl⟩,fun _=>rfl⟩
  ·rw [if_neg z] at e;cases e
end
open Classical in
noncomputable def stP (ys:List Pc) (x:Pc):Pc:=if Rnd.Comes (gX ys) mainK x.pt then x else { x with ou:=[] }
noncomputable def st (ys:List Pc):List Pc:=ys.map (stP ys)
open Classical in
noncomputable def lfp (cu:List (List Key)) (x:Pc):Bool:=decide (x.pt∉cu)
theorem lfp_t {cu:List (List Key)} {x:Pc} (h:x.pt∉cu):lfp cu x=true:=by unfold lfp;simpa using h
theorem lfp_f {cu:List (List Key)} {x:Pc} (h:x.pt∈cu):lfp cu x=false:=by unfold lfp;simpa using h
theorem xAtu {cu:List (List Key)} {x:Pc}:lfp cu x=true↔x.pt∉cu:=by unfold lfp;simp
noncomputable def lf (ys:List Pc) (cu:List (List Key)):List Pc:=(st ys).filter (lfp cu)
section
variable {ys:List Pc} {cu:List (List Key)}
theorem xAmo (x:Pc):(stP ys x).pt=x.pt:=by unfold stP;split <;> rfl
theorem stP_ka (x:Pc):(stP ys x).ka=x.ka/\(stP ys x).kb=x.kb:=by unfold stP;split <;> exact ⟨rfl,rfl⟩
theorem st_pts:(st ys).map (·.pt)=ys.map (·.pt):=by
 unfold st;rw [z4];exact z5 fun x _=>xAmo x
theorem st_al {H:Hp} {kd:List (KD×V×V)} (W:AW ys) (h:AL (EK (StR ys H) H) kd ys):AL (EK (OuN H) H) kd (st ys):=h.mapR fun e x _ hx p=>by
 refine ⟨by rw [xAmo];exact p.1,by rw [xAmo];exact p.2.1,?_⟩;rcases p.2.2 with ⟨h1,h2⟩ | ⟨h1,h2⟩
 ·unfold OuN stP
  rw [if_pos h1];exact gk_nd (W.w x hx).ou.ne h2
 ·unfold OuN stP
  rw [if_neg h1];exact h2
theorem lf_in {x:Pc} (h:x∈lf ys cu):x∈st ys/\x.pt∉cu:=by
 have:=wc.mp h;exact ⟨this.1,xAtu.mp this.2⟩
theorem st_in {x:Pc} (h:x∈st ys):∃ y∈ys,x.pt=y.pt/\(x.ou=y.ou\/x.ou=[]):=by
 obtain ⟨y,hy,rfl⟩:=qd.mp h;refine ⟨y,hy,xAmo y,?_⟩;unfold stP
 split
 ·exact .inl rfl
 ·exact .inr rfl
theorem xArj {g g':List Key->Option (List Key)} (h:∀ k o,g' k=some o->o≠[]->g k=some o) (h0:g' []=none) (ha:∀ a,¬ Rnd.onC g a) (a:List Key):¬ Rnd.onC g' a:=by
 have go:∀ (n:Nat) (a b:List Key),b≠[]->Rnd.itr g' n a=some b->Rnd.itr g n a=some b:=fun n=>by
  induction n with
  | zero=>intro a b _ e;exact e
  | succ n ih =>
   intro a b hb e;have e:(g' a).bind (Rnd.itr g' n)=some b:=e
   cases q:g' a with
   | none=>rw [q] at e;cases e
   | some c =>
    rw [q] at e;have e:Rnd.itr g' n c=some b:=e
    have hc:c≠[]:=fun z=>by
     subst z
     cases n with
     | zero=>cases e;exact hb rfl
     | succ n =>
      have e:(g' []).bind (Rnd.itr g' n)=some b:=e;rw [h0] at e;cases e
    show (g a).bind (Rnd.itr g n)=some b;rw [h a c q hc];exact ih c b hb e
 rintro ⟨n,e⟩;refine ha a ⟨n,go (n+1) a a (fun z=>?_) e⟩;subst z;have e:(g' []).bind (Rnd.itr g' n)=_:=e;rw [h0] at e;cases e
theorem xAtv (W:AW ys) {zs:List Pc} (hs:∀ x∈zs,x∈st ys) (hn:(zs.map (·.pt)).Nodup) (hl:zs.length≤100):LW zs:=by
 have hp:∀ x∈zs,Nm x.pt:=fun x hx=>by
  obtain ⟨y,hy,e,_⟩:=st_in (hs x hx);rw [e];exact (W.w y hy).pt
 refine ⟨hn,hp,fun x hx=>?_,hl,xArj (g:=gX ys) (fun k o e ho=>?_) (xAtq fun x hx=>(hp x hx).ne) W.acyc⟩
 ·obtain ⟨y,hy,_,e | e⟩:=st_in (hs x hx)
  ·rw [e];exact .inr (W.w y hy).ou
  ·rw [e];exact .inl rfl
 ·obtain ⟨x,hx,rfl,rfl⟩:=gX_in e
  obtain ⟨y,hy,e1,e2⟩:=st_in (hs x hx);rcases e2 with e2 | e2
  ·rw [e1,e2];exact gX_of W.nd hy
  ·exact absurd e2 ho
theorem st_lw (W:AW ys):LW (st ys):=xAtv W (fun _ h=>h) (by rw [st_pts];exact W.nd) (by unfold st;rw [qf];exact W.few)
theorem lf_lw (W:AW ys):LW (lf ys cu):=by
 have h:=st_lw W;refine xAtv W (fun x hx=>(lf_in hx).1) (h.nd.sublist ((vy).map _)) (qk (ve _ _) h.few)
def Sh (ys:List Pc) (cu:List (List Key)) (k:List Key):Prop:=k=mainK\/(k∈(lf ys cu).map (·.pt)/\Rnd.Comes (gX (lf ys cu)) mainK k)
theorem Sh.iff (W:AW ys) (k:List Key):Rnd.Comes (gX (lf ys cu)) mainK k↔Sh ys cu k:=by
 constructor
 ·intro h
  by_cases z:k∈(lf ys cu).map (·.pt)
  ·exact .inr ⟨z,h⟩
  ·exact .inl ((Rnd.comes_end (xAcj z)).mp h)
 ·rintro (rfl | h)
  ·exact ⟨0,rfl⟩
  ·exact h.2
theorem Sh.pn (W:AW ys) {k:List Key} (h:Sh ys cu k):Pn k:=by
 rcases h with rfl | ⟨h,_⟩
 ·exact .inl rfl
 ·obtain ⟨x,hx,rfl⟩:=qd.mp h
  exact .inr ((lf_lw W).pt x hx)
end
theorem xAoj {es:List (KD×V×V)}:∀ {ks:List (List Key)} {xs:List (KD×V×V)} {S:List Key->Prop},AL (fun e k=>e.1=nd k) es ks->SN xs S->SN (putAll xs es) (fun k=>S k\/k∈ks):=by
 induction es with
 | nil =>
  intro ks xs S h g
  cases ks with
  | nil=>exact fun k=>(g k).trans ⟨.inl,fun z=>z.resolve_right (fun y=>nomatch y)⟩
  | cons k ks=>exact h.none.elim
 | cons e es ih =>
  intro ks xs S h g
  cases ks with
  | nil=>exact h.nothing.elim
  | cons k ks =>
   have h1:=ih (xs:=pG xs e.1 e.2.1 e.2.2) (S:=fun a=>a=k\/S a) h.tail (by rw [h.head];exact g.put _ _ fun a=>Iff.rfl);refine fun a=>(h1 a).trans ?_;show ((a=k\/S a)\/a∈ks)↔(S a\/a∈k::ks);rw [qy];constructor
   ·rintro ((z | z) | z)
    ·exact .inr (.inl z)
    ·exact .inl z
    ·exact .inr (.inr z)
   ·rintro (z | z | z)
    ·exact .inl (.inr z)
    ·exact .inl (.inl z)
    ·exact .inr z
theorem al_ex {β α:Type} {P:β->α->Prop}:∀ {vs:List β},(∀ v∈vs,∃ r,P v r)->∃ rs,AL P vs rs
 | [],_=>⟨[],.nil⟩
 | v::vs,h=>by
  obtain ⟨r,hr⟩:=h v qh;obtain ⟨rs,h2⟩:=al_ex fun x hx=>h x (qr _ hx);exact ⟨r::rs,.cons hr h2⟩
theorem xAfi {β α γ:Type} {P:β->α->Prop} {f:β->γ} {g:α->γ}:∀ {vs:List β} {rs:List α},AL P vs rs->(∀ v r,P v r->f v=g r)->vs.map f=rs.map g
 | [],[],_,_=>rfl
 | [],_::_,h,_=>h.none.elim
 | _::_,[],h,_=>h.nothing.elim
 | _::_,_::_,h,k=>by rw [qz,qz,k _ _ h.head,xAfi h.tail k]
theorem vG_ex {kvs:List (KD×V×V)} {k:KD} {v:V} (h:vG kvs k=some v):∃ e∈kvs,e.1=k:=by
 obtain ⟨e,he,_⟩:=zt.mp h;exact ⟨e,List.mem_of_find?_eq_some he,by simpa using List.find?_some he⟩
def top (i:Nat):Stmt:=PySem.Challenge.pw_pagefolk_k29_parts_shown.main.body.getD i (.Pass ⟨0,0,0,0⟩)
abbrev s_fAd:Stmt:=top 2
abbrev s_fAz:Stmt:=top 3
abbrev s_fAe:Stmt:=top 4
abbrev s_fAs:Stmt:=top 5
abbrev s_fAy:Stmt:=top 6
abbrev s_fAf:Stmt:=top 7
abbrev s_fAv:Stmt:=top 8
abbrev s_fAl:Stmt:=top 9
abbrev s_fAk:Stmt:=top 10
abbrev s_fAc:Stmt:=top 11
abbrev s_fAj:Stmt:=top 12
abbrev s_fAg:Stmt:=top 14
abbrev s_fAw:Stmt:=top 15
abbrev s_fAu:Stmt:=top 16
abbrev s_fAn:Stmt:=top 17
abbrev s_fAx:Stmt:=top 18
abbrev s_fAp:Stmt:=top 19
abbrev s_fAm:Stmt:=top 20
abbrev s_fAh:Stmt:=top 21
abbrev s_fAq:Stmt:=top 22
abbrev s_fAt:Stmt:=top 23
abbrev s_fAi:Stmt:=top 24
abbrev s_fAr:Stmt:=top 25
abbrev s_fAo:Stmt:=top 26
abbrev s_fAa:Stmt:=top 27
abbrev s_fAb:Stmt:=top 28
abbrev s_fBa:Stmt:=top 29
structure Adr where
 fAd:Addr
 fAdd:FuncData
 fAz:Addr
 fAzd:FuncData
 fAe:Addr
 fAed:FuncData
 fgreatest_placec:Addr
 fAs:Addr
 fAsd:FuncData
 fAy:Addr
 fAyd:FuncData
 fAf:Addr
 fAfd:FuncData
 fAv:Addr
 fAvd:FuncData
 fAl:Addr
 fAld:FuncData
 fAk:Addr
 fAkd:FuncData
 fAc:Addr
 fAcd:FuncData
 fall_inner_partsc:Addr
 fAj:Addr
 fAjd:FuncData
 fAg:Addr
 fAgd:FuncData
 fAw:Addr
 fAwd:FuncData
 fAu:Addr
 fAud:FuncData
 fAn:Addr
 fAnd:FuncData
 fAx:Addr
 fAxd:FuncData
 fAp:Addr
 fApd:FuncData
 fAm:Addr
 fAmd:FuncData
 fAh:Addr
 fAhd:FuncData
 fAq:Addr
 fAqd:FuncData
 fAt:Addr
 fAtd:FuncData
 fAi:Addr
 fAid:FuncData
 fAr:Addr
 fArd:FuncData
 fAo:Addr
 fAod:FuncData
 fAa:Addr
 fAad:FuncData
 fAb:Addr
 fAbd:FuncData
 fBa:Addr
 fBad:FuncData
structure Txt (K:PySem.W.Frag) (mg:Str->Option Value) (d:Adr) (tk:Str->Tok):Prop where
 b_abs:mg "abs"=none
 b_dict:mg "dict"=none
 b_isinstance:mg "isinstance"=none
 b_len:mg "len"=none
 b_list:mg "list"=none
 b_max:mg "max"=none
 b_min:mg "min"=none
 b_range:mg "range"=none
 b_sorted:mg "sorted"=none
 c_MAIN:mg "MAIN"=some (.ref (cadr K "MAIN"))
 F_fAd:Fun K "telling_places" "telling_places" s_fAd d.fAd d.fAdd
 m_fAd:mg "telling_places"=some (.ref d.fAd)
 k_fAd:PySem.W.keepIn K (.ref d.fAd)=true
 d_fAd:Binds K d.fAdd ["facts"] []
 F_fAz:Fun K "way_out" "way_out" s_fAz d.fAz d.fAzd
 m_fAz:mg "way_out"=some (.ref d.fAz)
 k_fAz:PySem.W.keepIn K (.ref d.fAz)=true
 d_fAz:Binds K d.fAzd ["outer_of","part","ended"] []
 F_fAe:Fun K "greatest_place" "greatest_place" s_fAe d.fAe d.fAed
 m_fAe:mg "greatest_place"=some (.ref d.fAe)
 k_fAe:PySem.W.keepIn K (.ref d.fAe)=true
 d_fAe:Binds K d.fAed ["telling","parts"] []
 LE_fAe:d.fAed.code=.ref d.fgreatest_placec
 LC_fAe:PySem.W.codeHdIn K d.fgreatest_placec (tabP K "greatest_place")=true
 F_fAs:Fun K "turned_in" "turned_in" s_fAs d.fAs d.fAsd
 m_fAs:mg "turned_in"=some (.ref d.fAs)
 k_fAs:PySem.W.keepIn K (.ref d.fAs)=true
 d_fAs:Binds K d.fAsd ["telling"] []
 F_fAy:Fun K "stood_in" "stood_in" s_fAy d.fAy d.fAyd
 m_fAy:mg "stood_in"=some (.ref d.fAy)
 k_fAy:PySem.W.keepIn K (.ref d.fAy)=true
 d_fAy:Binds K d.fAyd ["telling"] []
 F_fAf:Fun K "reaching_main" "reaching_main" s_fAf d.fAf d.fAfd
 m_fAf:mg "reaching_main"=some (.ref d.fAf)
 k_fAf:PySem.W.keepIn K (.ref d.fAf)=true
 d_fAf:Binds K d.fAfd ["outer_of"] []
 F_fAv:Fun K "stands_in" "stands_in" s_fAv d.fAv d.fAvd
 m_fAv:mg "stands_in"=some (.ref d.fAv)
 k_fAv:PySem.W.keepIn K (.ref d.fAv)=true
 d_fAv:Binds K d.fAvd ["facts"] []
 F_fAl:Fun K "shown_among" "shown_among" s_fAl d.fAl d.fAld
 m_fAl:mg "shown_among"=some (.ref d.fAl)
 k_fAl:PySem.W.keepIn K (.ref d.fAl)=true
 d_fAl:Binds K d.fAld ["facts","stands"] []
 F_fAk:Fun K "shown_parts" "shown_parts" s_fAk d.fAk d.fAkd
 m_fAk:mg "shown_parts"=some (.ref d.fAk)
 k_fAk:PySem.W.keepIn K (.ref d.fAk)=true
 d_fAk:Binds K d.fAkd ["facts"] []
 F_fAc:Fun K "all_inner_parts" "all_inner_parts" s_fAc d.fAc d.fAcd
 m_fAc:mg "all_inner_parts"=some (.ref d.fAc)
 k_fAc:PySem.W.keepIn K (.ref d.fAc)=true
 d_fAc:Binds K d.fAcd ["facts"] []
 LE_fAc:d.fAcd.code=.ref d.fall_inner_partsc
 LC_fAc:PySem.W.codeHdIn K d.fall_inner_partsc (tabP K "all_inner_parts")=true
 F_fAj:Fun K "inner_parts" "inner_parts" s_fAj d.fAj d.fAjd
 m_fAj:mg "inner_parts"=some (.ref d.fAj)
 k_fAj:PySem.W.keepIn K (.ref d.fAj)=true
 d_fAj:Binds K d.fAjd ["facts","part"] []
 F_fAg:Fun K "_law_cell_at" "_law_cell_at" s_fAg d.fAg d.fAgd
 m_fAg:mg "_law_cell_at"=some (.ref d.fAg)
 k_fAg:PySem.W.keepIn K (.ref d.fAg)=true
 d_fAg:Binds K d.fAgd ["_law_script","_law_k"] []
 F_fAw:Fun K "_law_pool" "_law_pool" s_fAw d.fAw d.fAwd
 m_fAw:mg "_law_pool"=some (.ref d.fAw)
 k_fAw:PySem.W.keepIn K (.ref d.fAw)=true
 d_fAw:Binds K d.fAwd ["_law_script","_law_k"] []
 F_fAu:Fun K "_law_take" "_law_take" s_fAu d.fAu d.fAud
 m_fAu:mg "_law_take"=some (.ref d.fAu)
 k_fAu:PySem.W.keepIn K (.ref d.fAu)=true
 d_fAu:Binds K d.fAud ["_law_pool_here","_law_many"] []
 F_fAn:Fun K "_law_facts" "_law_facts" s_fAn d.fAn d.fAnd
 m_fAn:mg "_law_facts"=some (.ref d.fAn)
 k_fAn:PySem.W.keepIn K (.ref d.fAn)=true
 d_fAn:Binds K d.fAnd [] []
 F_fAx:Fun K "_law_key" "_law_key" s_fAx d.fAx d.fAxd
 m_fAx:mg "_law_key"=some (.ref d.fAx)
 k_fAx:PySem.W.keepIn K (.ref d.fAx)=true
 d_fAx:Binds K d.fAxd ["_law_last","_law_name","_law_hand","_law_named"] []
 F_fAp:Fun K "_law_event" "_law_event" s_fAp d.fAp d.fApd
 m_fAp:mg "_law_event"=some (.ref d.fAp)
 k_fAp:PySem.W.keepIn K (.ref d.fAp)=true
 d_fAp:Binds K d.fApd ["_law_facts_here","_law_pool_here","_law_k","_law_last","_law_rounds"] []
 F_fAm:Fun K "_law_outers" "_law_outers" s_fAm d.fAm d.fAmd
 m_fAm:mg "_law_outers"=some (.ref d.fAm)
 k_fAm:PySem.W.keepIn K (.ref d.fAm)=true
 d_fAm:Binds K d.fAmd ["_law_facts_here"] []
 F_fAh:Fun K "_law_beneath" "_law_beneath" s_fAh d.fAh d.fAhd
 m_fAh:mg "_law_beneath"=some (.ref d.fAh)
 k_fAh:PySem.W.keepIn K (.ref d.fAh)=true
 d_fAh:Binds K d.fAhd ["_law_facts_here","_law_one","_law_part"] []
 F_fAq:Fun K "_law_drawn" "_law_drawn" s_fAq d.fAq d.fAqd
 m_fAq:mg "_law_drawn"=some (.ref d.fAq)
 k_fAq:PySem.W.keepIn K (.ref d.fAq)=true
 d_fAq:Binds K d.fAqd ["_law_script","_law_rounds"] []
 F_fAt:Fun K "_law_kept" "_law_kept" s_fAt d.fAt d.fAtd
 m_fAt:mg "_law_kept"=some (.ref d.fAt)
 k_fAt:PySem.W.keepIn K (.ref d.fAt)=true
 d_fAt:Binds K d.fAtd ["_law_facts_here"] []
 F_fAi:Fun K "_law_stands" "_law_stands" s_fAi d.fAi d.fAid
 m_fAi:mg "_law_stands"=some (.ref d.fAi)
 k_fAi:PySem.W.keepIn K (.ref d.fAi)=true
 d_fAi:Binds K d.fAid ["_law_facts_here"] []
 F_fAr:Fun K "_law_shown" "_law_shown" s_fAr d.fAr d.fArd
 m_fAr:mg "_law_shown"=some (.ref d.fAr)
 k_fAr:PySem.W.keepIn K (.ref d.fAr)=true
 d_fAr:Binds K d.fArd ["_law_facts_here"] []
 F_fAo:Fun K "_law_inner" "_law_inner" s_fAo d.fAo d.fAod
 m_fAo:mg "_law_inner"=some (.ref d.fAo)
 k_fAo:PySem.W.keepIn K (.ref d.fAo)=true
 d_fAo:Binds K d.fAod ["_law_facts_here","_law_stands_here","_law_seen","_law_part"] []
 F_fAa:Fun K "_law_shown_right" "_law_shown_right" s_fAa d.fAa d.fAad
 m_fAa:mg "_law_shown_right"=some (.ref d.fAa)
 k_fAa:PySem.W.keepIn K (.ref d.fAa)=true
 d_fAa:Binds K d.fAad ["_law_facts_here"] []
 F_fAb:Fun K "_law_inner_right" "_law_inner_right" s_fAb d.fAb d.fAbd
 m_fAb:mg "_law_inner_right"=some (.ref d.fAb)
 k_fAb:PySem.W.keepIn K (.ref d.fAb)=true
 d_fAb:Binds K d.fAbd ["_law_facts_here","_law_most"] []
 F_fBa:Fun K "law" "law" s_fBa d.fBa d.fBad
 m_fBa:mg "law"=some (.ref d.fBa)
 k_fBa:PySem.W.keepIn K (.ref d.fBa)=true
 d_fBa:Binds K d.fBad ["_law_script"] []
 LD:decide (([tabP K "greatest_place",tabP K "all_inner_parts"]:List Addr).Nodup)=true
def PO (c m:Int):Prop:=0≤c/\0≤m/\m<2147483647
def sp_fAg (K:PySem.W.Frag):Sp:=fun vs H Q _=>∃ sp ns k,vs=[.ref sp,.int k]/\SqL K H sp (List.map V.int ns)/\0≤k/\∀ c,Q (.int c) H
def sp_fAw (K:PySem.W.Frag):Sp:=fun vs H Q _=>∃ sp ns k,vs=[.ref sp,.int k]/\SqL K H sp (List.map V.int ns)/\0≤k/\k≤63/\∀ H' p c m,Same H H'->H p=none->H' p=some (.lst [.int c,.int m])->PO c m->Q (.ref p) H'
def sp_fAu (_:PySem.W.Frag):Sp:=fun vs H Q _=>∃ p c m k,vs=[.ref p,.int k]/\H p=some (.lst [.int c,.int m])/\PO c m/\0<k/\k<1073741824/\∀ r c' m',PO c' m'->0≤r->r<k->Q (.int r) (upd H p (.lst [.int c',.int m']))
def sp_fAn (_:PySem.W.Frag):Sp:=fun vs H Q _=>vs=[]/\∀ H' fa F,Same H H'->H fa=none->(∀ i,i<9->H (F i)=none)->H' fa=some (.dK (fkv F 9))->(∀ i,i<9->∀ j,j<9->F i=F j->i=j)->(∀ i,i<9->H' (F i)=some (.lst []))->Q (.ref fa) H'
def NmV (H:Hp) (v:V):Prop:=∃ k,GK H (.tup k) v/\Pn k
theorem NmV.tups {H H':Hp} {v:V} (h:NmV H v) (t:Tups H H'):NmV H' v:=let ⟨k,g,n⟩:=h;⟨k,g.tups t,n⟩
theorem nmvs {H:Hp}:∀ {ys:List V},(∀ y∈ys,NmV H y)->∃ ls:List (List Key),DTs H ys (ls.map tD)/\∀ k∈ls,Pn k
 | [],_=>⟨[],.nil,fun k z=>nomatch z⟩
 | y::ys,h=>by
  obtain ⟨k,g,n⟩:=h y qh;obtain ⟨ls,h1,h2⟩:=nmvs fun x hx=>h x (qr _ hx)
  exact ⟨k::ls,.cons (gk_td g) h1,fun x hx=>by
   rcases qy.mp hx with rfl | z
   ·exact n
   ·exact h2 x z⟩
theorem xAei {ls:List (List Key)} (h:∀ k∈ls,Pn k):PyData.canLayAll0 (ls.map tD)=true/\PyData.depthAll (ls.map tD)≤1 :=
 ⟨xAbz fun d hd=>by obtain ⟨k,hk,rfl⟩:=qd.mp hd;exact (h k hk).lay,xAcx fun d hd=>by obtain ⟨k,hk,rfl⟩:=qd.mp hd;exact xAbt k⟩
structure LT (H:Hp) (lp q:Addr) (h g:Int) (ys:List V):Prop where
 el:H lp=some (.lst [.int h,.int g,.ref q])
 eq:H q=some (.lst ys)
 ok:∀ y∈ys,NmV H y
 yl:ys.length≤3
 nq:q≠lp
def sp_fAx (_:PySem.W.Frag):Sp:=fun vs H Q _=>∃ lp q h g ys vn nm hand np zs,vs=[.ref lp,vn,.int hand,.ref np]/\LT H lp q h g ys/\GK H (.tup nm) vn/\Nm nm/\H np=some (.lst zs)/\(∀ z∈zs,NmV H z)/\zs.length≤3/\np≠lp ∧
 ∀ H' kq q' h' ys',Same (del H lp) H'->LT H' lp q' h' hand ys'->H q'=none->H' kq=some (.tup [.int h',.int hand])->Lt2 h g h' hand->h'≤h+1->Q (.ref kq) H'
structure EN (H:Hp) (fa:Addr) (F:Nat->Addr) (p lp:Addr):Prop where
 pl:p≠lp
 pF:∀ i,i<9->p≠F i
 lF:∀ i,i<9->lp≠F i
 pa:p≠fa
 la:lp≠fa
def evS (F:Nat->Addr) (p lp:Addr) (b:Addr):Prop:=b=p\/b=lp\/b=F 0\/b=F 1\/b=F 2
structure EC (Hd:Hp) (F:Nat->Addr) (p lp:Addr):Prop where
 dp:Hd p=none
 dl:Hd lp=none
 d0:Hd (F 0)=none
 d1:Hd (F 1)=none
 d2:Hd (F 2)=none
 pl:p≠lp
 p0:p≠F 0
 p1:p≠F 1
 p2:p≠F 2
 l0:lp≠F 0
 l1:lp≠F 1
 l2:lp≠F 2
 f01:F 0≠F 1
 f02:F 0≠F 2
 f12:F 1≠F 2
structure ES (Hd X:Hp) (F:Nat->Addr) (p lp q:Addr) (c m h g:Int) (ys bs es cs:List V):Prop where
 sd:Same Hd X
 ep:X p=some (.lst [.int c,.int m])
 po:PO c m
 lt:LT X lp q h g ys
 eb:X (F 0)=some (.lst bs)
 ev:X (F 1)=some (.lst es)
 ec:X (F 2)=some (.lst cs)
 qp:q≠p
 q0:q≠F 0
 q1:q≠F 1
 q2:q≠F 2
section
variable {Hd X X':Hp} {F:Nat->Addr} {p lp q:Addr} {c m h g:Int} {ys bs es cs:List V}
theorem LT.to (l:LT X lp q h g ys) (t:Tups X X') (e1:X' lp=some (.lst [.int h,.int g,.ref q])) (e2:X' q=some (.lst ys)):LT X' lp q h g ys:=⟨e1,e2,fun y hy=>(l.ok y hy).tups t,l.yl,l.nq⟩
theorem ES.same (e:ES Hd X F p lp q c m h g ys bs es cs) (s:Same X X'):ES Hd X' F p lp q c m h g ys bs es cs :=
 ⟨e.sd.trans s,s _ _ e.ep,e.po,e.lt.to s.tups (s _ _ e.lt.el) (s _ _ e.lt.eq),s _ _ e.eb,s _ _ e.ev,s _ _ e.ec,e.qp,e.q0,e.q1,e.q2⟩
theorem ES.take (e:ES Hd X F p lp q c m h g ys bs es cs) (C:EC Hd F p lp) {c' m':Int} (po:PO c' m'):ES Hd (upd X p (.lst [.int c',.int m'])) F p lp q c' m' h g ys bs es cs/\Tups X (upd X p (.lst [.int c',.int m'])) :=
 have t:Tups X (upd X p (.lst [.int c',.int m'])):=Tups.wl e.ep
 ⟨⟨e.sd.wr C.dp,xAad,po,e.lt.to t (by rw [xAae C.pl.symm];exact e.lt.el) (by rw [xAae e.qp];exact e.lt.eq),by rw [xAae C.p0.symm];exact e.eb,by rw [xAae C.p1.symm];exact e.ev,by rw [xAae C.p2.symm];exact e.ec,e.qp,e.q0,e.q1,e.q2⟩,t⟩
theorem ES.key (e:ES Hd X F p lp q c m h g ys bs es cs) (C:EC Hd F p lp) {q':Addr} {h' g':Int} {ys':List V} (s:Same (del X lp) X') (l:LT X' lp q' h' g' ys') (n:X q'=none):ES Hd X' F p lp q' c m h' g' ys' bs es cs/\Tups X X' :=
 have to:∀ {b:Addr} {o:HO},b≠lp->X b=some o->X' b=some o:=fun hb e=>s _ _ (by rw [xAaj hb];exact e)
 ⟨⟨fun b o z=>to (xAab z C.dl) (e.sd _ _ z),to C.pl e.ep,e.po,l,to C.l0.symm e.eb,to C.l1.symm e.ev,to C.l2.symm e.ec,(xAab e.ep n).symm,(xAab e.eb n).symm,(xAab e.ev n).symm,(xAab e.ec n).symm⟩,Tups.cut e.lt.el s⟩
theorem ES.birth (e:ES Hd X F p lp q c m h g ys bs es cs) (C:EC Hd F p lp) (bs':List V):ES Hd (upd X (F 0) (.lst bs')) F p lp q c m h g ys bs' es cs/\Tups X (upd X (F 0) (.lst bs')) :=
 have t:Tups X (upd X (F 0) (.lst bs')):=Tups.wl e.eb
 ⟨⟨e.sd.wr C.d0,by rw [xAae C.p0];exact e.ep,e.po,e.lt.to t (by rw [xAae C.l0];exact e.lt.el) (by rw [xAae e.q0];exact e.lt.eq),xAad,by rw [xAae C.f01.symm];exact e.ev,by rw [xAae C.f02.symm];exact e.ec,e.qp,e.q0,e.q1,e.q2⟩,t⟩
theorem ES.place (e:ES Hd X F p lp q c m h g ys bs es cs) (C:EC Hd F p lp) (es':List V):ES Hd (upd X (F 1) (.lst es')) F p lp q c m h g ys bs es' cs/\Tups X (upd X (F 1) (.lst es')) :=
 have t:Tups X (upd X (F 1) (.lst es')):=Tups.wl e.ev
 ⟨⟨e.sd.wr C.d1,by rw [xAae C.p1];exact e.ep,e.po,e.lt.to t (by rw [xAae C.l1];exact e.lt.el) (by rw [xAae e.q1];exact e.lt.eq),by rw [xAae C.f01];exact e.eb,xAad,by rw [xAae C.f12.symm];exact e.ec,e.qp,e.q0,e.q1,e.q2⟩,t⟩
theorem ES.cut (e:ES Hd X F p lp q c m h g ys bs es cs) (C:EC Hd F p lp) (cs':List V):ES Hd (upd X (F 2) (.lst cs')) F p lp q c m h g ys bs es cs'/\Tups X (upd X (F 2) (.lst cs')) :=
 have t:Tups X (upd X (F 2) (.lst cs')):=Tups.wl e.ec
 ⟨⟨e.sd.wr C.d2,by rw [xAae C.p2];exact e.ep,e.po,e.lt.to t (by rw [xAae C.l2];exact e.lt.el) (by rw [xAae e.q2];exact e.lt.eq),by rw [xAae C.f02];exact e.eb,by rw [xAae C.f12];exact e.ev,xAad,e.qp,e.q0,e.q1,e.q2⟩,t⟩
end
def sp_fAp (_:PySem.W.Frag):Sp:=fun vs H Q _=>∃ fa F p lp q c m h g ys bs es cs rs cu,∃ k:Nat,vs=[.ref fa,.ref p,.int (k:Int),.ref lp,.bl true]/\FB H fa F bs es cs rs cu k/\EN H fa F p lp/\H p=some (.lst [.int c,.int m])/\PO c m/\LT H lp q h g ys/\q≠F 0/\q≠F 1/\q≠F 2/\q≠p/\(∀ r∈rs,Le2 r.ka r.kb h g)/\h+1≤k/\k≤62 ∧
 ∀ H' q' h' g' ys' bs' es' cs' rs' cu',Same (dels H (evS F p lp)) H'->FB H' fa F bs' es' cs' rs' cu' (k+1)->LT H' lp q' h' g' ys'->q'≠F 0->q'≠F 1->q'≠F 2->(∀ r∈rs',Le2 r.ka r.kb h' g')->h'≤k->Q .non H'
def sp_fAq (K:PySem.W.Frag):Sp:=fun vs H Q _=>∃ sp ns,vs=[.ref sp,.bl true]/\SqL K H sp (List.map V.int ns)/\ns.length≤63 ∧
 ∀ H' fa F bs es cs rs cu,Same H H'->H fa=none->H' fa=some (.dK (fkv F 9))->(∀ i,i<9->H (F i)=none)->FB H' fa F bs es cs rs cu 62->(∀ r∈rs,r.ka≤63)->Q (.ref fa) H'
def sp_fAt (_:PySem.W.Frag):Sp:=fun vs H Q _=>∃ fa F bs es cs rs cu k,vs=[.ref fa]/\FB H fa F bs es cs rs cu k ∧
 ∀ H' kp ps C o,Same (del H fa) H'->H' fa=some (.frz o (.dK (fkv F 9)))->H kp=none->(∀ i,i<9->H (C i)=none)->KP H' kp ps C (xsF bs es cs)->Q (.ref kp) H'
section
variable {K:PySem.W.Frag} {vs:List V} {H:Hp} {Q:VK} {E:XK}
theorem xAtw (h:sp_fAg K vs H Q E):vs.length=2:=by obtain ⟨_,_,_,rfl,_⟩:=h;rfl
theorem xAtx (h:sp_fAw K vs H Q E):vs.length=2:=by obtain ⟨_,_,_,rfl,_⟩:=h;rfl
theorem xAty (h:sp_fAu K vs H Q E):vs.length=2:=by obtain ⟨_,_,_,_,rfl,_⟩:=h;rfl
theorem xAtz (h:sp_fAn K vs H Q E):vs.length=0:=by obtain ⟨rfl,_⟩:=h;rfl
theorem xAua (h:sp_fAx K vs H Q E):vs.length=4:=by obtain ⟨_,_,_,_,_,_,_,_,_,_,rfl,_⟩:=h;rfl
theorem xAub (h:sp_fAp K vs H Q E):vs.length=5:=by obtain ⟨_,_,_,_,_,_,_,_,_,_,_,_,_,_,_,_,rfl,_⟩:=h;rfl
theorem xAuc (h:sp_fAq K vs H Q E):vs.length=2:=by obtain ⟨_,_,rfl,_⟩:=h;rfl
theorem xAud (h:sp_fAt K vs H Q E):vs.length=1:=by obtain ⟨_,_,_,_,_,_,_,_,rfl,_⟩:=h;rfl
end
def FQ (H:Hp) (fa:Addr) (es:List V) (rs:List Pc):Prop:=∃ F:Nat->Addr,Rd H fa (.dK (fkv F 9))/\H (F 1)=some (.lst es)/\AL (PC H) es rs/\(∀ r∈rs,PcW r)/\(rs.Pairwise fun a b=>Lt2 a.ka a.kb b.ka b.kb)/\es.length≤100
theorem FB.fq {H:Hp} {fa:Addr} {F:Nat->Addr} {bs vs cs:List V} {rs:List Pc} {cu:List (List Key)} {k:Nat} (h:FB H fa F bs vs cs rs cu k) (hk:k≤100):FQ H fa vs rs:=⟨F,h.dk,h.ev,h.fi.pc,h.fi.w,h.fi.up,qk h.fi.vl hk⟩
theorem FQ.xw {H:Hp} {fa:Addr} {es:List V} {rs:List Pc} (h:FQ H fa es rs):XW (tl rs):=by
 obtain ⟨F,_,_,h3,h4,h5,h6⟩:=h;exact tl_xw h4 h5 (by rw [← h3.1];exact h6)
abbrev lamQ:Str:=(("greatest_place":Str)++".<locals>.")++"<lambda>"
abbrev PTa (K:PySem.W.Frag):Addr:=tabP K "greatest_place"
abbrev TBL (K:PySem.W.Frag) (H:Hp):Prop:=Tb 21 26 lamQ (PTa K) H
abbrev MA (K:PySem.W.Frag) (H:Hp):Prop:=H (cadr K "MAIN")=some (.tup [.str "",.int 0])
theorem keepT {K:PySem.W.Frag} {H H':Hp} (t:TBL K H) (s:Same (del H (PTa K)) H') {b:Addr} {o:HO} (e:H b=some o) (h:∀ ps,o≠.tbl ps):H' b=some o:=s _ _ (by
 rw [xAaj (fun z=>?_)]
 ·exact e
 ·obtain ⟨ps,t⟩:=t.tbl
  rw [z,t] at e
  exact h ps (Option.some.inj e).symm)
theorem tupsT {K:PySem.W.Frag} {H H':Hp} (t:TBL K H) (s:Same (del H (PTa K)) H'):Tups H H':=fun b xs e=>keepT t s e (fun ps z=>nomatch z)
theorem rdT {K:PySem.W.Frag} {H H':Hp} {a:Addr} {u:HO} (t:TBL K H) (s:Same (del H (PTa K)) H') (r:Rd H a u) (h:∀ ps,u≠.tbl ps):Rd H' a u:=by
 rcases r with e | ⟨o,e⟩
 ·exact .inl (keepT t s e h)
 ·exact .inr ⟨o,keepT t s e (fun ps z=>nomatch z)⟩
def sS (K:PySem.W.Frag) (tq:Addr):Addr->Prop:=fun b=>b=tq\/b=PTa K
def sp_fAd (_:PySem.W.Frag):Sp:=fun vs H Q _=>∃ fa es rs,vs=[.ref fa]/\FQ H fa es rs/\∀ H' dq kvs,Same H H'->H dq=none->H' dq=some (.dG kvs)->AL (EK (PC H') H') kvs (tl rs)->Q (.ref dq) H'
def sp_fAz (_:PySem.W.Frag):Sp:=fun vs H Q _=>∃ oa vp ea ko ys ke E p,∃ C:List Key->Prop,vs=[.ref oa,vp,.ref ea]/\Rd H oa (.dG ko)/\AL (EK (OuN H) H) ko ys/\(ys.map (·.pt)).Nodup/\(∀ x∈ys,x.pt≠[])/\ys.length≤100/\Rd H ea (.dG ke)/\SN ke E/\GK H (nd p) vp/\C p/\(∀ k o,gX ys k=some o->C o) ∧
 ∀ H' wa ws ini las,Same H H'->H wa=none->H' wa=some (.lst ws)->AL (NmN H') ws (ini++[las])->Rnd.WO (gX ys) E p ini las->ini.length≤101->(∀ k∈ini++[las],C k)->Q (.ref wa) H'
def sp_fAe (K:PySem.W.Frag):Sp:=fun vs H Q _=>∃ tq la kt xs ws ls,vs=[.ref tq,.ref la]/\Rd H tq (.dG kt)/\AL (EK (PC H) H) kt xs/\(xs.map (·.pt)).Nodup/\H la=some (.lst ws)/\AL (NmK H) ws ls/\ls≠[]/\(∀ k∈ls,hp xs k=true)/\TBL K H ∧
 ∀ H' v m,Same (del H (PTa K)) H'->TBL K H'->m∈ls->(∀ b∈ls,¬ ltX xs m b)->GK H' (.tup m) v->Q v H'
def sp_fAs (K:PySem.W.Frag):Sp:=fun vs H Q _=>∃ tq kt xs,vs=[.ref tq]/\Rd H tq (.dG kt)/\AL (EK (PC H) H) kt xs/\XW xs/\TBL K H ∧
 ∀ H' ta ku,Same (dels H (sS K tq)) H'->Rd H' tq (.dG kt)->TBL K H'->H ta=none->H' ta=some (.dG ku)->SM ku (TopX xs)->Q (.ref ta) H'
def sp_fAy (K:PySem.W.Frag):Sp:=fun vs H Q _=>∃ tq kt xs,vs=[.ref tq]/\Rd H tq (.dG kt)/\AL (EK (PC H) H) kt xs/\XW xs/\TBL K H/\MA K H ∧
 ∀ H' sa ks,Same (dels H (sS K tq)) H'->TBL K H'->H sa=none->H' sa=some (.dG ks)->AL (EK (OuR H') H') ks (opn xs)->Q (.ref sa) H'
def sp_fAf (K:PySem.W.Frag):Sp:=fun vs H Q _=>∃ oa ko ys,vs=[.ref oa]/\Rd H oa (.dG ko)/\AL (EK (OuN H) H) ko ys/\LW ys/\MA K H ∧
 ∀ H' ra kr f,Same (del H oa) H'->Rd H' oa (.dG ko)->H ra=none->H' ra=some (.dG kr)->RM H' ys f kr->(∀ x∈ys,f x.pt≠none)->Q (.ref ra) H'
def sp_fAv (K:PySem.W.Frag):Sp:=fun vs H Q _=>∃ fa es rs,vs=[.ref fa]/\FQ H fa es rs/\TBL K H/\MA K H ∧
 ∀ H' da kd,Same (del H (PTa K)) H'->TBL K H'->H da=none->H' da=some (.dG kd)->AL (EK (StR (opn (tl rs)) H') H') kd (opn (tl rs))->Q (.ref da) H'
def O3 (H:Hp) (v:V) (x:Pc):Prop:=∃ b vo vn kq,v=.ref b/\H b=some (.tup [vo,vn,.ref kq])/\GK H (.tup x.ou) vo/\H kq=some (.tup [.int x.ka,.int x.kb])
theorem O3.tups {H H':Hp} {v:V} {x:Pc} (h:O3 H v x) (t:Tups H H'):O3 H' v x:=by
 obtain ⟨b,vo,vn,kq,e,h1,h2,h3⟩:=h;exact ⟨b,vo,vn,kq,e,t _ _ h1,h2.tups t,t _ _ h3⟩
def sp_fAm (_:PySem.W.Frag):Sp:=fun vs H Q _=>∃ fa es rs,vs=[.ref fa]/\FQ H fa es rs/\∀ H' dq kvs,Same H H'->H dq=none->H' dq=some (.dG kvs)->AL (EK (O3 H') H') kvs (tl rs)->Q (.ref dq) H'
def sp_fAh (_:PySem.W.Frag):Sp:=fun vs _ _ _=>vs.length=3/\False
def sp_fAi (_:PySem.W.Frag):Sp:=fun vs H Q _=>∃ fa es rs,vs=[.ref fa]/\FQ H fa es rs/\∀ H' da kd,Same H H'->H da=none->H' da=some (.dG kd)->AL (EK (StR (opn (tl rs)) H') H') kd (opn (tl rs))->Q (.ref da) H'
abbrev lamR:Str:=(("all_inner_parts":Str)++".<locals>.")++"<lambda>"
abbrev PTb (K:PySem.W.Frag):Addr:=tabP K "all_inner_parts"
structure TT (K:PySem.W.Frag) (H:Hp):Prop where
 ne:PTa K≠PTb K
 a:TBL K H
 b:Tb 63 41 lamR (PTb K) H
def s2 (K:PySem.W.Frag):Addr->Prop:=fun b=>b=PTa K\/b=PTb K
section
variable {K:PySem.W.Frag} {H H':Hp}
theorem TT.same (t:TT K H) (s:Same H H'):TT K H':=⟨t.ne,t.a.same s,t.b.same s⟩
theorem TT.keep (t:TT K H) (k:∀ b u,H b=some u->((∃ ps,u=.tbl ps)\/∃ φ,u=.ext φ)->H' b=some u):TT K H':=⟨t.ne,t.a.keep k,t.b.keep k⟩
theorem TT.cut {a:Addr} {o:HO} (t:TT K H) (e:H a=some o) (h1:∀ ps,o≠.tbl ps) (h2:∀ φ,o≠.ext φ) (s:Same (del H a) H'):TT K H':=⟨t.ne,t.a.cut e h1 h2 s,t.b.cut e h1 h2 s⟩
theorem TT.wr {a:Addr} {o o':HO} (t:TT K H) (e:H a=some o) (h1:∀ ps,o≠.tbl ps) (h2:∀ φ,o≠.ext φ):TT K (upd H a o'):=⟨t.ne,t.a.wr e h1 h2,t.b.wr e h1 h2⟩
theorem TT.no (t:TT K H) {b:Addr} (h:s2 K b):∃ ps,H b=some (.tbl ps):=by
 rcases h with rfl | rfl
 ·exact t.a.tbl
 ·exact t.b.tbl
theorem keepTT (t:TT K H) (s:Same (dels H (s2 K)) H') {b:Addr} {o:HO} (e:H b=some o) (h:∀ ps,o≠.tbl ps):H' b=some o:=xAci s e fun z=>by
 obtain ⟨ps,q⟩:=t.no z;rw [q] at e;exact h ps (Option.some.inj e).symm
theorem xAcc (t:TT K H) (s:Same (dels H (s2 K)) H'):Tups H H':=fun b xs e=>keepTT t s e (fun ps z=>nomatch z)
theorem rdTT {a:Addr} {u:HO} (t:TT K H) (s:Same (dels H (s2 K)) H') (r:Rd H a u) (h:∀ ps,u≠.tbl ps):Rd H' a u:=by
 rcases r with e | ⟨o,e⟩
 ·exact .inl (keepTT t s e h)
 ·exact .inr ⟨o,keepTT t s e (fun ps z=>nomatch z)⟩
theorem FB.keepTT {fa:Addr} {F:Nat->Addr} {bs vs cs:List V} {rs:List Pc} {cu:List (List Key)} {k:Nat} (h:FB H fa F bs vs cs rs cu k) (t:TT K H) (s:Same (dels H (s2 K)) H'):FB H' fa F bs vs cs rs cu k :=
 ⟨rdTT t s h.dk (fun ps z=>nomatch z),h.inj,fun i h1 h2=>My.keepTT t s (h.rest i h1 h2) (fun ps z=>nomatch z),My.keepTT t s h.eb (fun ps z=>nomatch z),My.keepTT t s h.ev (fun ps z=>nomatch z),My.keepTT t s h.ec (fun ps z=>nomatch z),h.fi.tups (xAcc t s)⟩
theorem TT.free (t:TT K H) (s:Same (dels H (s2 K)) H') (t':TT K H') {b:Addr} (h:H' b=none):H b=none:=by
 have:=s.free h
 by_cases z:s2 K b
 ·obtain ⟨ps,q⟩:=t'.no z
  rw [q] at h;cases h
 ·rw [xAbg z] at this;exact this
theorem TT.trans {H2:Hp} (s:Same (dels H (s2 K)) H') (s':Same (dels H' (s2 K)) H2):Same (dels H (s2 K)) H2:=fun b u e=>by
 have nb:¬ s2 K b:=fun z=>by rw [xAax z] at e;cases e
 exact xAci s' (s _ _ e) nb
theorem xAue (s:Same H H'):Same (dels H (s2 K)) H':=fun b u e=>s _ _ (xAfd _ _ e)
theorem TT.ofA (t:TT K H) (s:Same (del H (PTa K)) H') (a:TBL K H'):TT K H'/\Same (dels H (s2 K)) H':=by
 refine ⟨⟨t.ne,a,?_⟩,fun b u e=>?_⟩
 ·have to:∀ {b u},b≠PTa K->H b=some u->H' b=some u:=fun n e=>s _ _ (by rw [xAaj n];exact e)
  rcases t.b with e | ⟨c,e1,e2⟩
  ·exact .inl (to t.ne.symm e)
  ·refine .inr ⟨c,to t.ne.symm e1,to (fun z=>?_) e2⟩
   obtain ⟨ps,q⟩:=t.a.tbl;rw [← z,e2] at q;cases q
 ·have nb:¬ s2 K b:=fun z=>by rw [xAax z] at e;cases e
  rw [xAbg nb] at e;exact s _ _ (by rw [xAaj fun z=>nb (.inl z)];exact e)
theorem TT.ofB (t:TT K H) (s:Same (del H (PTb K)) (del H' (PTb K))) (b':Tb 63 41 lamR (PTb K) H'):TT K H'/\Same (dels H (s2 K)) H':=by
 have to:∀ {b u},b≠PTb K->H b=some u->H' b=some u:=fun {b u} n e=>by
  have:=s b u (by rw [xAaj n];exact e);rw [xAaj n] at this;exact this
 refine ⟨⟨t.ne,?_,b'⟩,fun b u e=>?_⟩
 ·rcases t.a with e | ⟨c,e1,e2⟩
  ·exact .inl (to t.ne e)
  ·refine .inr ⟨c,to t.ne e1,to (fun z=>?_) e2⟩
   obtain ⟨ps,q⟩:=t.b.tbl;rw [← z,e2] at q;cases q
 ·have nb:¬ s2 K b:=fun z=>by rw [xAax z] at e;cases e
  rw [xAbg nb] at e;exact to (fun z=>nb (.inr z)) e
end
def SD (H:Hp) (kq:List (KD×V×V)) (ls:List (List Key)):Prop:=AL (fun e k=>e.1=.tup k/\GK H (.tup k) e.2.1) kq ls
theorem SD.tups {H H':Hp} {kq:List (KD×V×V)} {ls:List (List Key)} (h:SD H kq ls) (t:Tups H H'):SD H' kq ls:=AL.imp h fun e k p=>⟨p.1,p.2.tups t⟩
def WK (ls:List (List Key)):Prop:=(ls.map tD).Pairwise fun a b=>ltD b a=false
theorem xAmp {α:Type}:∀ {l m:List α},l.Nodup->m.Nodup->(∀ a,a∈l↔a∈m)->l.Perm m
 | [],m,_,_,h=>by
  cases m with
  | nil=>exact .nil
  | cons b m=>exact absurd ((h b).mpr List.mem_cons_self) (by simp)
 | a::l,m,h1,h2,h=>by
  obtain ⟨A,B,rfl⟩:=jc ((h a).mp qh);have n:=ze.mp h1;have hp:(A++a::B).Perm (a::(A++B)):=List.perm_middle;have n2:=ze.mp (hp.nodup_iff.mp h2);refine (List.Perm.cons a (xAmp n.2 n2.2 fun b=>?_)).trans hp.symm;have:=(h b).trans hp.mem_iff;rw [qy,qy] at this;constructor
  ·intro hb
   exact (this.mp (.inr hb)).resolve_left fun z=>n.1 (z▸hb)
  ·intro hb
   exact (this.mpr (.inr hb)).resolve_left fun z=>n2.1 (z▸hb)
theorem xApq:∀ {xs ys:List PyData},xs.Perm ys->(xs.Pairwise fun a b=>ltD b a=false)->(ys.Pairwise fun a b=>ltD b a=false)->(∀ a∈xs,∀ b∈xs,sk a b=true)->xs=ys
 | [],ys,p,_,_,_=>(List.nil_perm.mp p).symm
 | x::xs,[],p,_,_,_=>absurd p.length_eq (by simp)
 | x::xs,y::ys,p,hx,hy,hk=>by
  have e:x=y:=by
   have my:=p.mem_iff.mpr (qh (a:=y) (l:=ys));have mx:=p.mem_iff.mp (qh (a:=x) (l:=xs));rcases qy.mp my with z | z
   ·exact z.symm
   ·rcases qy.mp mx with w | w
    ·exact w
    ·exact xAkx x y (hk _ qh _ my) ((vf.mp hy).1 x w) ((vf.mp hx).1 y z)
  subst e;rw [xApq ((List.perm_cons x).mp p) (vf.mp hx).2 (vf.mp hy).2 fun a ha b hb=>hk a (qr _ ha) b (qr _ hb)]
theorem wk_eq {l m:List (List Key)} (h1:l.Nodup) (h2:m.Nodup) (h:∀ a,a∈l↔a∈m) (hp:∀ a∈l,Pn a) (w1:WK l) (w2:WK m):l.map tD=m.map tD :=
 xApq ((xAmp h1 h2 h).map tD) w1 w2 (xAit hp).one
theorem up_eq {α:Type} {lt:α->α->Prop} (as:∀ a b,lt a b->¬ lt b a):∀ {xs ys:List α},xs.Pairwise lt->ys.Pairwise lt->(∀ a,a∈xs↔a∈ys)->xs=ys
 | [],ys,_,_,h=>by
  cases ys with
  | nil=>rfl
  | cons b m=>exact absurd ((h b).mpr List.mem_cons_self) (by simp)
 | x::xs,[],_,_,h=>absurd ((h x).mp List.mem_cons_self) (by simp)
 | x::xs,y::ys,hx,hy,h=>by
  have px:=vf.mp hx;have py:=vf.mp hy
  have e:x=y:=by
   rcases qy.mp ((h x).mp qh) with z | z
   ·exact z
   ·rcases qy.mp ((h y).mpr qh) with w | w
    ·exact w.symm
    ·exact absurd (py.1 x z) (as _ _ (px.1 y w))
  subst e;have irr:¬ lt x x:=fun z=>as _ _ z z;rw [up_eq as px.2 py.2 fun a=>?_];have:=h a;rw [qy,qy] at this;constructor
  ·intro ha
   exact (this.mp (.inr ha)).resolve_left fun z=>irr (by have:=px.1 a ha;rw [z] at this;exact this)
  ·intro ha
   exact (this.mpr (.inr ha)).resolve_left fun z=>irr (by have:=py.1 a ha;rw [z] at this;exact this)
theorem SD.keysV {H:Hp} {kq:List (KD×V×V)} {ls:List (List Key)} (h:SD H kq ls):AL (NmK H) (kq.map (·.2.1)) ls:=AL.map h fun e k _ _ p=>p.2
theorem xArk {α:Type} (js:List α) (d:α):(List.range js.length).map (fun i=>js.getD i d)=js:=by
 apply w5;intro i;rw [qu]
 by_cases hi:i<js.length
 ·rw [jv hi,qe hi]
  show some (js.getD i d)=_;rw [zb,qe hi];rfl
 ·rw [List.getElem?_eq_none (by simpa using hi),List.getElem?_eq_none (by omega)];rfl
theorem xAfj {α:Type} {P:V->α->Prop} {D:α->PyData} (d:α) {vs:List V} {ls:List α} {ix:List Nat} (h:AL P vs ls) (six:SortIx (ls.map D) ix):∃ ms,AL P (ix.map fun i=>vs.getD i .non) ms/\((ms.map D).Pairwise fun a b=>ltD b a=false)/\ms.Perm ls:=by
 have p1:ix.Perm (List.range ls.length):=by have:=six.1;rwa [qf] at this
 have hlt:∀ i∈ix,i<ls.length:=fun i hi=>zu.mp (p1.mem_iff.mp hi);refine ⟨ix.map fun i=>ls.getD i d,⟨by rw [qf,qf],fun m v r e1 e2=>?_⟩,?_,(p1.map _).trans (.of_eq (xArk ls d))⟩
 ·rw [qu] at e1 e2
  obtain ⟨i,hi,rfl⟩:=zt.mp e1;rw [hi] at e2;cases e2;have hi':=hlt i (qo hi)
  have hi2:i<vs.length:=by rw [h.1];exact hi'
  refine h.2 i _ _ ?_ ?_
  ·rw [zb,qe hi2];rfl
  ·show ls[i]?=some (ls.getD i d)
   rw [zb,qe hi'];rfl
 ·rw [z4]
  have h2:=six.2;rw [jw] at h2 ⊢;refine h2.imp_of_mem fun {a b} ha hb hab=>?_
  have ka:∀ i,i∈ix->keyAt (ls.map D) i=D (ls.getD i d):=fun i hi=>by
   have:=hlt i hi;unfold keyAt;rw [zb,qu,zb,qe this];rfl
  rw [ka a ha,ka b hb] at hab;exact hab
theorem xAmq {H:Hp} {vs:List V} {ls:List (List Key)} {ix:List Nat} (h:AL (NmK H) vs ls) (hn:ls.Nodup) (six:SortIx (ls.map tD) ix):∃ ms,AL (NmK H) (ix.map fun i=>vs.getD i .non) ms/\WK ms/\ms.Nodup/\∀ a,a∈ms↔a∈ls:=by
 obtain ⟨ms,h1,h2,h3⟩:=xAfj [] h six;exact ⟨ms,h1,h2,h3.nodup_iff.mpr hn,fun a=>h3.mem_iff⟩
theorem xAuf {ys:List Pc} {cu ls:List (List Key)} (h:ls.Nodup) (hm:∀ a,a∈ls↔Sh ys cu a):ls.length≤ys.length+1:=by
 have:=xAfh ls (mainK::(lf ys cu).map (·.pt)) h fun a ha=>by
  rcases (hm a).mp ha with rfl | h
  ·exact qh
  ·exact qr _ h.1
 rw [qx,qf] at this;have h2:(lf ys cu).length≤(st ys).length:=ve _ _
 have h3:(st ys).length=ys.length:=by unfold st;rw [qf]
 omega
theorem xArl {ys:List Pc} {cu:List (List Key)} {k:List Key} (h:k∈cu):gX (lf ys cu) k=none:=xAcj fun z=>by
 obtain ⟨x,hx,rfl⟩:=qd.mp z;exact (lf_in hx).2 h
theorem xArm {ys:List Pc} {cu:List (List Key)} {k:List Key} (W:AW ys) (h:k∉cu):gX (lf ys cu) k=gX (st ys) k:=by
 by_cases z:k∈(st ys).map (·.pt)
 ·obtain ⟨x,hx,rfl⟩:=qd.mp z
  rw [gX_of (st_lw W).nd hx,gX_of (lf_lw W).nd (wc.mpr ⟨hx,lfp_t h⟩)]
 ·rw [xAcj z,xAcj fun y=>?_]
  obtain ⟨x,hx,rfl⟩:=qd.mp y;exact z (qd.mpr ⟨x,(lf_in hx).1,rfl⟩)
open Classical in
noncomputable def shq (ys:List Pc) (cu:List (List Key)) (k:List Key):Bool:=decide (Rnd.Comes (gX (lf ys cu)) mainK k)
theorem xAmr {ys:List Pc} {cu:List (List Key)} {k:List Key}:shq ys cu k=true↔Rnd.Comes (gX (lf ys cu)) mainK k:=by unfold shq;simp
theorem shq_no {ys:List Pc} {cu:List (List Key)} {k:List Key} (h:¬ Rnd.Comes (gX (lf ys cu)) mainK k):shq ys cu k=false:=wu.mpr fun z=>h (xAmr.mp z)
theorem xAok {ls:List (List Key)} {k:List Key}:((ls.map tD).any fun d=>PyData.eqv d (tD k))=true↔k∈ls:=by
 rw [wg];constructor
 ·rintro ⟨d,hd,q⟩
  obtain ⟨k',hk,rfl⟩:=qd.mp hd;rw [xAdf] at q;rw [← of_decide_eq_true q];exact hk
 ·intro h
  exact ⟨tD k,qd.mpr ⟨k,h,rfl⟩,by rw [xAdf];exact decide_eq_true rfl⟩
structure InP (ys:List Pc) (cu:List (List Key)) (p:List Key) (l:List Pc):Prop where
 up:l.Pairwise fun a b=>Lt2 a.ka a.kb b.ka b.kb
 mem:∀ x,x∈l↔(x∈st ys/\x.ou=p/\Sh ys cu x.pt)
theorem InP.eq {ys:List Pc} {cu:List (List Key)} {p:List Key} {l m:List Pc} (h:InP ys cu p l) (g:InP ys cu p m):l=m :=
 up_eq (lt:=fun a b:Pc=>Lt2 a.ka a.kb b.ka b.kb) (fun a b h1 h2=>by unfold Lt2 at h1 h2;omega) h.up g.up fun x=>(h.mem x).trans (g.mem x).symm
def NP (H:Hp) (v:V) (x:Pc):Prop:=GK H (.tup x.pt) v
theorem NP.tups {H H':Hp} {v:V} {x:Pc} (h:NP H v x) (t:Tups H H'):NP H' v x:=GK.tups h t
theorem opW_ka {T:List Key->Prop} (x:Pc):(opW T x).ka=x.ka/\(opW T x).kb=x.kb:=by unfold opW;split <;> exact ⟨rfl,rfl⟩
theorem st_of {xs:List Pc} {x:Pc} (h:x∈st (opn xs)):∃ z∈xs,x=stP (opn xs) (opW (TopX xs) z)/\x.pt=z.pt/\x.ka=z.ka/\x.kb=z.kb:=by
 obtain ⟨y,hy,rfl⟩:=qd.mp h;obtain ⟨z,hz,rfl⟩:=qd.mp hy;have h1:=stP_ka (ys:=opn xs) (opW (TopX xs) z);have h2:=opW_ka (T:=TopX xs) z;exact ⟨z,hz,rfl,(xAmo _).trans (xAff z),h1.1.trans h2.1,h1.2.trans h2.2⟩
theorem st_tri {xs:List Pc} (W:XW xs) {x y:Pc} (hx:x∈st (opn xs)) (hy:y∈st (opn xs)):x=y\/Lt2 x.ka x.kb y.ka y.kb\/Lt2 y.ka y.kb x.ka x.kb:=by
 obtain ⟨a,ha,e1,_,k1,k2⟩:=st_of hx;obtain ⟨b,hb,e2,_,k3,k4⟩:=st_of hy;rw [k1,k2,k3,k4];rcases W.tri a ha b hb with h | h
 ·subst h;exact .inl (e1.trans e2.symm)
 ·exact .inr h
theorem xAms {xs:List Pc} (W:XW xs):(st (opn xs)).Nodup:=List.Pairwise.of_map (·.pt) (fun a b h z=>h (by rw [z])) (st_lw (xAfg W)).nd
theorem up_of {xs:List Pc} (W:XW xs) {D:Pc->PyData} (hD:∀ a b:Pc,Lt2 a.ka a.kb b.ka b.kb->ltD (D a) (D b)=true) {ms:List Pc} (hw:(ms.map D).Pairwise fun a b=>ltD b a=false) (hn:ms.Nodup) (hs:∀ x∈ms,x∈st (opn xs)):ms.Pairwise fun a b=>Lt2 a.ka a.kb b.ka b.kb:=by
 rw [jw] at hw;rw [wj] at hw ⊢;have hn:=wj.mp (yk.mp hn);intro i j hi hj hij;rcases st_tri W (hs _ (zw hi)) (hs _ (zw hj)) with h | h | h
 ·exact absurd h (hn i j hi hj hij)
 ·exact h
 ·have:=hw i j hi hj hij
  rw [hD _ _ h] at this;cases this
def kkD (x:Pc):PyData:=.tuple [.int x.ka,.int x.kb]
def knD (x:Pc):PyData:=.tuple [.tuple [.int x.ka,.int x.kb],tD x.pt]
theorem kkD_up (a b:Pc) (h:Lt2 a.ka a.kb b.ka b.kb):ltD (kkD a) (kkD b)=true:=lt2_D h
theorem knD_up (a b:Pc) (h:Lt2 a.ka a.kb b.ka b.kb):ltD (knD a) (knD b)=true:=xAqs rfl (lt2_D h)
theorem xAug (ls:List Pc):KeysAre (ls.map kkD) 2:=by
 refine ⟨xAbz fun d hd=>?_,fun d hd=>?_,fun a ha b hb=>?_,fun d hd=>?_⟩
 ·obtain ⟨x,_,rfl⟩:=qd.mp hd;rfl
 ·obtain ⟨x,_,rfl⟩:=qd.mp hd;trivial
 ·obtain ⟨x,_,rfl⟩:=qd.mp ha
  obtain ⟨y,_,rfl⟩:=qd.mp hb;rfl
 ·obtain ⟨x,_,rfl⟩:=qd.mp hd
  exact (by decide:1≤60)
theorem xAuh {ls:List Pc} (h:∀ x∈ls,Nm x.pt):KeysAre (ls.map knD) 4:=by
 refine ⟨xAbz fun d hd=>?_,fun d hd=>?_,fun a ha b hb=>?_,fun d hd=>?_⟩
 ·obtain ⟨x,hx,rfl⟩:=qd.mp hd
  show (PyData.canLay0 (.tuple [.int x.ka,.int x.kb])&&((tD x.pt).canLay0&&true))=true;rw [show (tD x.pt).canLay0=true from (h x hx).lay];rfl
 ·obtain ⟨x,_,rfl⟩:=qd.mp hd;trivial
 ·obtain ⟨x,hx,rfl⟩:=qd.mp ha
  obtain ⟨y,hy,rfl⟩:=qd.mp hb;obtain ⟨w,i,e,_⟩:=h x hx;obtain ⟨w',i',e',_⟩:=h y hy;unfold knD;rw [e,e'];rfl
 ·obtain ⟨x,hx,rfl⟩:=qd.mp hd
  obtain ⟨w,i,e,_⟩:=h x hx;unfold knD;rw [e];exact (by decide:2≤60)
open Classical in
noncomputable def inq (ys:List Pc) (cu:List (List Key)) (p:List Key) (x:Pc):Bool:=decide (x.ou=p/\Sh ys cu x.pt)
theorem xAdw {ys:List Pc} {cu:List (List Key)} {p:List Key} {x:Pc}:inq ys cu p x=true↔(x.ou=p/\Sh ys cu x.pt):=by unfold inq;simp
theorem xArn {ys:List Pc} {cu:List (List Key)} {p:List Key} {x:Pc} (h:¬ (x.ou=p/\Sh ys cu x.pt)):inq ys cu p x=false:=wu.mpr fun z=>h (xAdw.mp z)
theorem xAcu (P:Pc->Bool) (ms:List Pc) (x:Pc):(ms++[x]).filter P=if P x=true then ms.filter P++[x] else ms.filter P:=by
 rw [ww]
 by_cases h:P x=true
 ·rw [if_pos h,yo h,wn]
 ·rw [if_neg h,yp h,wn,we]
structure ID (ys:List Pc) (cu:List (List Key)) (ms:List Pc) (H0 H:Hp) (dq:Addr) (kvs:List (KD×V×V)):Prop where
 has:H dq=some (.dG kvs)
 each:∀ p,(vG kvs (nd p)=none/\ms.filter (inq ys cu p)=[])\/∃ q vs,vG kvs (nd p)=some (.ref q)/\H q=some (.lst vs)/\AL (NP H) vs (ms.filter (inq ys cu p))/\H0 q=none
 inj:∀ k k' q,vG kvs k=some (.ref q)->vG kvs k'=some (.ref q)->k=k'
 live:∀ k q,vG kvs k=some (.ref q)->∃ xs,H q=some (.lst xs)
section
variable {ys ms:List Pc} {cu:List (List Key)} {H0 H H':Hp} {dq q:Addr} {kvs:List (KD×V×V)} {x:Pc} {vn vk:V} {vs:List V}
theorem ID.same (h:ID ys cu ms H0 H dq kvs) (s:Same H H'):ID ys cu ms H0 H' dq kvs where
 has:=s _ _ h.has
 each:=fun k=>by
  rcases h.each k with z | ⟨q,vs,h1,h2,h3,h4⟩
  ·exact .inl z
  ·exact .inr ⟨q,vs,h1,s _ _ h2,h3.imp fun v i g=>NP.tups g s.tups,h4⟩
 inj:=h.inj
 live:=fun k q e=>let ⟨xs,z⟩:=h.live k q e;⟨xs,s _ _ z⟩
theorem ID.skip (h:ID ys cu ms H0 H dq kvs) (hx:¬ Sh ys cu x.pt):ID ys cu (ms++[x]) H0 H dq kvs :=
 ⟨h.has,fun p=>by rw [xAcu,if_neg (by rw [xArn fun z=>hx z.2];exact qm)];exact h.each p,h.inj,h.live⟩
theorem ID.old (h:ID ys cu ms H0 H dq kvs) (hx:Sh ys cu x.pt) (e:vG kvs (nd x.ou)=some (.ref q)) (eq:H q=some (.lst vs)) (hv:NP H vn x):ID ys cu (ms++[x]) H0 (upd H q (.lst (vs++[vn]))) dq kvs where
 has:=by rw [xAae (fun z=>by rw [← z,h.has] at eq;cases eq)];exact h.has
 inj:=h.inj
 live:=fun k q' e'=>by
  by_cases z:q'=q
  ·subst z;exact ⟨_,xAad⟩
  ·obtain ⟨xs,y⟩:=h.live k q' e'
   exact ⟨xs,by rw [xAae z];exact y⟩
 each:=fun k=>by
  have tw:Tups H (upd H q (.lst (vs++[vn]))):=Tups.wl eq;rw [xAcu]
  by_cases ek:x.ou=k
  ·subst ek
   rw [if_pos (xAdw.mpr ⟨rfl,hx⟩)];rcases h.each x.ou with ⟨z,_⟩ | ⟨q',vs',h1,h2,h3,h4⟩
   ·rw [z] at e;cases e
   ·rw [e] at h1
    cases h1;rw [eq] at h2;cases h2;exact .inr ⟨q,_,e,xAad,(h3.snoc hv).imp fun v i g=>NP.tups g tw,h4⟩
  ·rw [if_neg (by rw [xArn fun z=>ek z.1];exact qm)]
   rcases h.each k with z | ⟨q',vs',h1,h2,h3,h4⟩
   ·exact .inl z
   ·refine .inr ⟨q',vs',h1,?_,h3.imp fun v i g=>NP.tups g tw,h4⟩
    have nq:q'≠q:=fun z=>ek (xAju (h.inj _ _ q e (by rw [← z];exact h1)))
    rw [xAae nq];exact h2
theorem ID.first (h:ID ys cu ms H0 H dq kvs) (hx:Sh ys cu x.pt) (e:vG kvs (nd x.ou)=none) (hq0:H0 q=none) (eq:H q=some (.lst [])) (hqn:∀ k,vG kvs k≠some (.ref q)) (hv:NP H vn x):ID ys cu (ms++[x]) H0 (upd (upd H dq (.dG (pG kvs (nd x.ou) vk (.ref q)))) q (.lst [vn])) dq (pG kvs (nd x.ou) vk (.ref q)) where
 has:=by rw [xAae (fun z=>by rw [← z,h.has] at eq;cases eq),xAad]
 inj:=fun k k' q' h1 h2=>by
  rw [xAfx] at h1 h2
  by_cases e1:k=nd x.ou
  ·by_cases e2:k'=nd x.ou
   ·rw [e1,e2]
   ·rw [if_pos e1] at h1
    rw [if_neg e2] at h2;cases h1;exact absurd h2 (hqn k')
  ·rw [if_neg e1] at h1
   by_cases e2:k'=nd x.ou
   ·rw [if_pos e2] at h2
    cases h2;exact absurd h1 (hqn k)
   ·rw [if_neg e2] at h2
    exact h.inj _ _ _ h1 h2
 live:=fun k q' e'=>by
  by_cases z:q'=q
  ·subst z;exact ⟨_,xAad⟩
  ·rw [xAfx] at e'
   by_cases ek:k=nd x.ou
   ·rw [if_pos ek] at e'
    cases e';exact absurd rfl z
   ·rw [if_neg ek] at e'
    obtain ⟨xs,y⟩:=h.live k q' e'
    have n2:q'≠dq:=fun z=>by rw [z,h.has] at y;cases y
    exact ⟨xs,by rw [xAae z,xAae n2];exact y⟩
 each:=fun k=>by
  have nq:q≠dq:=fun z=>by rw [z,h.has] at eq;cases eq
  have t1:Tups H (upd H dq (.dG (pG kvs (nd x.ou) vk (.ref q)))):=Tups.wd h.has
  have eq1:(upd H dq (.dG (pG kvs (nd x.ou) vk (.ref q)))) q=some (.lst []):=by rw [xAae nq];exact eq
  have tw:=t1.trans (Tups.wl (o':=.lst [vn]) eq1);rw [xAcu,xAfx]
  by_cases ek:x.ou=k
  ·subst ek
   rw [if_pos rfl,if_pos (xAdw.mpr ⟨rfl,hx⟩)];rcases h.each x.ou with ⟨_,z⟩ | ⟨q',vs',h1,_⟩
   ·rw [z]
    exact .inr ⟨q,[vn],rfl,xAad,.cons (hv.tups tw) .nil,hq0⟩
   ·rw [e] at h1;cases h1
  ·rw [if_neg (fun z:nd k=nd x.ou=>ek (xAju z.symm)),if_neg (show ¬ inq ys cu k x=true by rw [xArn fun z=>ek z.1];exact qm)]
   rcases h.each k with z | ⟨q',vs',h1,h2,h3,h4⟩
   ·exact .inl z
   ·refine .inr ⟨q',vs',h1,?_,h3.imp fun v i g=>NP.tups g tw,h4⟩
    have n1:q'≠q:=fun z=>hqn _ (z▸h1)
    have n2:q'≠dq:=fun z=>by rw [z,h.has] at h2;cases h2
    rw [xAae n1,xAae n2];exact h2
end
def PKN (H:Hp) (v:V) (x:Pc):Prop:=∃ b kq vn,v=.ref b/\H b=some (.tup [.ref kq,vn])/\H kq=some (.tup [.int x.ka,.int x.kb])/\GK H (.tup x.pt) vn
theorem PKN.tups {H H':Hp} {v:V} {x:Pc} (h:PKN H v x) (t:Tups H H'):PKN H' v x:=by
 obtain ⟨b,kq,vn,e,h1,h2,h3⟩:=h;exact ⟨b,kq,vn,e,t _ _ h1,t _ _ h2,h3.tups t⟩
theorem PKN.dt {H:Hp} {v:V} {x:Pc} (h:PKN H v x):DT H v (knD x):=by
 obtain ⟨b,kq,vn,rfl,h1,h2,h3⟩:=h;exact .tup h1 (.cons (.tup h2 (.cons (.int _) (.cons (.int _) .nil))) (.cons (gk_td h3) .nil))
theorem xApr {H:Hp} {kq:List (KD×V×V)} {ls:List (List Key)} {k:List Key} (h:SD H kq ls):(vG kq (.tup k)).isSome=true↔k∈ls:=by
 constructor
 ·intro z
  cases q:vG kq (.tup k) with
  | none=>rw [q] at z;exact absurd z qm
  | some v =>
   obtain ⟨e,he,e1⟩:=vG_ex q;obtain ⟨k',hk,p⟩:=AL.mem h he;rw [xAjt (e1.symm.trans p.1)];exact hk
 ·intro z
  obtain ⟨e,he,p⟩:=AL.mem' h z
  cases q:vG kq (.tup k) with
  | none=>exact absurd p.1 (vG_no q e he)
  | some v=>rfl
theorem xAui {R:V->Pc->Prop} {H:Hp} {kd:List (KD×V×V)} {xs:List Pc} (h:AL (EK R H) kd xs):AL (NP H) (kd.map (·.2.1)) xs:=h.map fun e x _ _ p=>p.2.1
theorem xAro {xs:List Pc} {cu:List (List Key)} {p:List Key} {ms:List Pc} (hup:ms.Pairwise fun a b=>Lt2 a.ka a.kb b.ka b.kb) (hm:∀ x,x∈ms↔x∈st xs):InP xs cu p (ms.filter (inq xs cu p)) :=
 ⟨hup.sublist vy,fun x=>by rw [wc,hm,xAdw]⟩
theorem xAol {ls:List (List Key)} (h:∀ a∈ls,Pn a):OkL (.list (ls.map tD)):=okl fun d hd=>by
 obtain ⟨k,hk,rfl⟩:=qd.mp hd;have:=ok_tD (h k hk).lay;exact ⟨this.1,this.2.1,qk this.2.2 (by decide)⟩
theorem xAuj {H:Hp} {fa:Addr} {F:Nat->Addr} (e:H fa=some (.dK (fkv F 9))) (inj:∀ i,i<9->∀ j,j<9->F i=F j->i=j) (eF:∀ i,i<9->H (F i)=some (.lst [])):FB H fa F [] [] [] [] [] 0 :=
 ⟨.inl e,inj,fun i hi _=>eF i hi,eF 0 (by decide),eF 1 (by decide),eF 2 (by decide),(fun v z=>nomatch z),.nil,.nil,(fun r z=>nomatch z),.nil,qc _,qc _,qc _⟩
theorem xAom {ls:List (List Key)} (h:ls.Nodup) (hm:∀ a,a∈ls↔Sh (opn (tl [])) [] a):ls=[mainK] :=
 List.perm_singleton.mp (xAmp h (ze.mpr ⟨(fun z=>nomatch z),zy⟩) fun a=>(hm a).trans (by
  rw [qj]
  exact ⟨fun z=>z.resolve_right fun y=>(nomatch y.1),.inl⟩))
theorem InP.few {ys:List Pc} {cu:List (List Key)} {p:List Key} {l:List Pc} (h:InP ys cu p l):l.length≤(st ys).length :=
 xAfh _ _ (yk.mpr (h.up.imp fun {a b} z e=>by rw [e] at z;exact xApp _ _ z)) fun x hx=>((h.mem x).mp hx).1
structure En where
 t:Addr
 a:Addr
 b:Addr
 l:List Pc
def LsOk (X:Hp) (a:Addr) (l:List Pc):Prop:=∃ us,X a=some (.lst us)/\AL (NP X) us l
theorem LsOk.to {X X':Hp} {a:Addr} {l:List Pc} (h:LsOk X a l) (t:Tups X X') (k:∀ us,X a=some (.lst us)->X' a=some (.lst us)):LsOk X' a l:=by
 obtain ⟨us,h1,h2⟩:=h;exact ⟨us,k us h1,h2.imp fun v x z=>NP.tups z t⟩
theorem LsOk.dv {K:PySem.W.Frag} {X:Hp} {a:Addr} {l:List Pc} (h:LsOk X a l):DV K X (.ref a) (.list ((l.map (·.pt)).map tD)):=by
 obtain ⟨us,h1,h2⟩:=h;have a:AL (NmK X) us (l.map fun x=>x.pt):=AL.mapR h2 fun v x _ _ z=>z;exact .lst (SqL.of h1) (xAbv a).dv
structure EN2 (X:Hp) (se:Addr) (en:List En):Prop where
 tp:∀ e∈en,X e.t=some (.tup [.ref e.a,.ref e.b])
 lb:∀ e∈en,LsOk X e.b e.l
 ns:∀ e∈en,e.a≠se/\e.b≠se/\e.a≠e.b
 nm:∀ e∈en,(∀ x∈e.l,Nm x.pt)/\e.l.length≤62
 pw:en.Pairwise fun e f=>e.a≠f.a/\e.a≠f.b/\e.b≠f.a
theorem EN2.ab {X:Hp} {se:Addr} {en:List En} (h:EN2 X se en) {e f:En} {i j:Nat} (hi:en[i]?=some e) (hj:en[j]?=some f):f.b≠e.a/\(i≠j->f.a≠e.a):=by
 obtain ⟨hi',ei⟩:=qv.mp hi;obtain ⟨hj',ej⟩:=qv.mp hj;have p:=wj.mp h.pw;rcases jt i j with z | z | z
 ·have:=p i j hi' hj' z
  rw [ei,ej] at this;exact ⟨this.2.1.symm,fun _=>this.1.symm⟩
 ·subst z
  rw [hi] at hj;cases hj;exact ⟨(h.ns e (qo hi)).2.2.symm,fun z=>absurd rfl z⟩
 ·have:=p j i hj' hi' z
  rw [ei,ej] at this;exact ⟨this.2.2,fun _=>this.1⟩
theorem EN2.to {X X':Hp} {se:Addr} {en:List En} (h:EN2 X se en) (t:Tups X X') (k:∀ e∈en,∀ us,X e.b=some (.lst us)->X' e.b=some (.lst us)):EN2 X' se en :=
 ⟨fun e he=>t _ _ (h.tp e he),fun e he=>(h.lb e he).to t (k e he),h.ns,h.nm,h.pw⟩
def sp_fAl (K:PySem.W.Frag):Sp:=fun vs H Q _=>∃ fa F bs es cs rs cu k da kd ys,vs=[.ref fa,.ref da]/\FB H fa F bs es cs rs cu k/\k≤100/\Rd H da (.dG kd)/\AL (EK (OuN H) H) kd (st ys)/\AW ys/\MA K H ∧
 ∀ H' qa kq ls,Same (del H da) H'->Rd H' da (.dG kd)->H qa=none->H' qa=some (.dG kq)->SD H' kq ls->ls.Nodup->(∀ a,a∈ls↔Sh ys cu a)->Q (.ref qa) H'
def sp_fAk (K:PySem.W.Frag):Sp:=fun vs H Q _=>∃ fa F bs es cs rs cu k,vs=[.ref fa]/\FB H fa F bs es cs rs cu k/\k≤63/\(tl rs).length≤62/\TT K H/\MA K H ∧
 ∀ H' q ws ls,Same (dels H (s2 K)) H'->TT K H'->H q=none->H' q=some (.lst ws)->AL (NmK H') ws ls->WK ls->ls.Nodup->(∀ a,a∈ls↔Sh (opn (tl rs)) cu a)->Q (.ref q) H'
def sp_fAc (K:PySem.W.Frag):Sp:=fun vs H Q _=>∃ fa F bs es cs rs cu k,vs=[.ref fa]/\FB H fa F bs es cs rs cu k/\k≤63/\(tl rs).length≤62/\TT K H/\MA K H ∧
 ∀ H' da kd,Same (dels H (s2 K)) H'->TT K H'->H da=none->H' da=some (.dG kd)->(∀ p,Pn p->(vG kd (.tup p)=none/\InP (opn (tl rs)) cu p [])\/∃ q ws l,vG kd (.tup p)=some (.ref q)/\H q=none/\H' q=some (.lst ws)/\AL (NP H') ws l/\InP (opn (tl rs)) cu p l)->Q (.ref da) H'
def sp_fAj (K:PySem.W.Frag):Sp:=fun vs H Q _=>∃ fa F bs es cs rs cu k vp p,vs=[.ref fa,vp]/\FB H fa F bs es cs rs cu k/\k≤63/\(tl rs).length≤62/\TT K H/\MA K H/\GK H (.tup p) vp/\Pn p ∧
 ∀ H' q ws l,Same (dels H (s2 K)) H'->TT K H'->H q=none->H' q=some (.lst ws)->AL (NP H') ws l->InP (opn (tl rs)) cu p l->Q (.ref q) H'
def sp_fAr (_:PySem.W.Frag):Sp:=fun vs H Q _=>∃ fa F bs es cs rs cu k,vs=[.ref fa]/\FB H fa F bs es cs rs cu k/\k≤63/\(tl rs).length≤62 ∧
 ∀ H' q ws ls,Same H H'->H q=none->H' q=some (.lst ws)->AL (NmK H') ws ls->WK ls->ls.Nodup->(∀ a,a∈ls↔Sh (opn (tl rs)) cu a)->Q (.ref q) H'
def sp_fAo (_:PySem.W.Frag):Sp:=fun vs H Q _=>∃ fa F bs es cs rs cu k da kd sa ws ls vp p,vs=[.ref fa,.ref da,.ref sa,vp]/\FB H fa F bs es cs rs cu k/\k≤63/\(tl rs).length≤62/\Rd H da (.dG kd)/\AL (EK (OuN H) H) kd (st (opn (tl rs)))/\H sa=some (.lst ws)/\AL (NmK H) ws ls/\(∀ a,a∈ls↔Sh (opn (tl rs)) cu a)/\GK H (.tup p) vp/\Pn p ∧
 ∀ H' q ws' l,Same (del H da) H'->Rd H' da (.dG kd)->H q=none->H' q=some (.lst ws')->AL (NP H') ws' l->InP (opn (tl rs)) cu p l->Q (.ref q) H'
def sp_fAa (K:PySem.W.Frag):Sp:=fun vs H Q _=>∃ fa F bs es cs rs cu k,vs=[.ref fa]/\FB H fa F bs es cs rs cu k/\k≤63/\(tl rs).length≤62/\TT K H/\MA K H/\∀ H',Same (dels H (s2 K)) H'->TT K H'->Q (.bl true) H'
def sp_fAb (K:PySem.W.Frag):Sp:=fun vs H Q _=>∃ fa F bs es cs rs cu k,∃ m:Int,vs=[.ref fa,.int m]/\0≤m/\FB H fa F bs es cs rs cu k/\k≤63/\(tl rs).length≤62/\TT K H/\MA K H/\∀ H',Same (dels H (s2 K)) H'->TT K H'->Q (.bl true) H'
def sp_fBa (K:PySem.W.Frag):Sp:=fun vs H Q _=>∃ sp ns,vs=[.ref sp]/\SqL K H sp (List.map V.int ns)/\ns.length≤63/\TBL K H/\Tb 63 41 lamR (PTb K) H/\MA K H/\∀ H',Q (.bl true) H'
section
variable {K:PySem.W.Frag} {vs:List V} {H:Hp} {Q:VK} {E:XK}
theorem xAuk (h:sp_fAd K vs H Q E):vs.length=1:=by obtain ⟨_,_,_,rfl,_⟩:=h;rfl
theorem xAul (h:sp_fAz K vs H Q E):vs.length=3:=by obtain ⟨_,_,_,_,_,_,_,_,_,rfl,_⟩:=h;rfl
theorem xAum (h:sp_fAe K vs H Q E):vs.length=2:=by obtain ⟨_,_,_,_,_,_,rfl,_⟩:=h;rfl
theorem xAun (h:sp_fAs K vs H Q E):vs.length=1:=by obtain ⟨_,_,_,rfl,_⟩:=h;rfl
theorem xAuo (h:sp_fAy K vs H Q E):vs.length=1:=by obtain ⟨_,_,_,rfl,_⟩:=h;rfl
theorem xAup (h:sp_fAf K vs H Q E):vs.length=1:=by obtain ⟨_,_,_,rfl,_⟩:=h;rfl
theorem xAuq (h:sp_fAv K vs H Q E):vs.length=1:=by obtain ⟨_,_,_,rfl,_⟩:=h;rfl
theorem xAur (h:sp_fAm K vs H Q E):vs.length=1:=by obtain ⟨_,_,_,rfl,_⟩:=h;rfl
theorem xAus (h:sp_fAh K vs H Q E):vs.length=3:=h.1
theorem xAut (h:sp_fAi K vs H Q E):vs.length=1:=by obtain ⟨_,_,_,rfl,_⟩:=h;rfl
theorem xAuu (h:sp_fAl K vs H Q E):vs.length=2:=by obtain ⟨_,_,_,_,_,_,_,_,_,_,_,rfl,_⟩:=h;rfl
theorem xAuv (h:sp_fAk K vs H Q E):vs.length=1:=by obtain ⟨_,_,_,_,_,_,_,_,rfl,_⟩:=h;rfl
theorem xAuw (h:sp_fAc K vs H Q E):vs.length=1:=by obtain ⟨_,_,_,_,_,_,_,_,rfl,_⟩:=h;rfl
theorem xAux (h:sp_fAj K vs H Q E):vs.length=2:=by obtain ⟨_,_,_,_,_,_,_,_,_,_,rfl,_⟩:=h;rfl
theorem xAuy (h:sp_fAr K vs H Q E):vs.length=1:=by obtain ⟨_,_,_,_,_,_,_,_,rfl,_⟩:=h;rfl
theorem xAuz (h:sp_fAo K vs H Q E):vs.length=4:=by obtain ⟨_,_,_,_,_,_,_,_,_,_,_,_,_,_,_,rfl,_⟩:=h;rfl
theorem xAva (h:sp_fAa K vs H Q E):vs.length=1:=by obtain ⟨_,_,_,_,_,_,_,_,rfl,_⟩:=h;rfl
theorem xAvb (h:sp_fAb K vs H Q E):vs.length=2:=by obtain ⟨_,_,_,_,_,_,_,_,_,rfl,_⟩:=h;rfl
theorem xAvc (h:sp_fBa K vs H Q E):vs.length=1:=by obtain ⟨_,_,rfl,_⟩:=h;rfl
end
theorem law_spec:∀ (K:PySem.W.Frag) (H:Hp) (a:Addr) (ns:List Int),ns.length≤63->(∀ t∈[("greatest_place":Str),"all_inner_parts"],H (tabP K t)=some (.tbl #[]))->(∀ c∈[(("MAIN":Str),([.inr "",.inl 0]:List Key))],H (cadr K c.1)=some (.tup (c.2.map kV)))->SqL K H a (ns.map V.int)->sp_fBa K [.ref a] H (fun v _=>v=.bl true) fun _ _ _=>False :=
 fun K H a ns h1 h2 h3 h4=>⟨a,ns,rfl,h4,h1,.inl (h2 _ qh),.inl (h2 _ (qr _ qh)),h3 _ qh,fun _=>rfl⟩
theorem xAon:FnScope ["facts","telling","place","part"] ["facts"] (defScope s_fAd):=⟨rfl,rfl,rfl,by decide +kernel,rfl,by decide +kernel,by decide +kernel⟩
theorem xAoo:FnScope ["outer_of","part","ended","way","on_way","outer"] ["outer_of","part","ended"] (defScope s_fAz):=⟨rfl,rfl,rfl,by decide +kernel,rfl,by decide +kernel,by decide +kernel⟩
theorem sc_fAg:FnScope ["_law_script","_law_k"] ["_law_script","_law_k"] (defScope s_fAg):=⟨rfl,rfl,rfl,by decide +kernel,rfl,by decide +kernel,by decide +kernel⟩
theorem xAvd:FnScope ["_law_pool_here","_law_many","_law_found"] ["_law_pool_here","_law_many"] (defScope s_fAu):=⟨rfl,rfl,rfl,by decide +kernel,rfl,by decide +kernel,by decide +kernel⟩
theorem xArp:FnScope ["_law_facts_here","_law_word"] [] (defScope s_fAn):=⟨rfl,rfl,rfl,by decide +kernel,rfl,by decide +kernel,by decide +kernel⟩
theorem xAve:FnScope ["_law_last","_law_name","_law_hand","_law_named","_law_told"] ["_law_last","_law_name","_law_hand","_law_named"] (defScope s_fAx):=⟨rfl,rfl,rfl,by decide +kernel,rfl,by decide +kernel,by decide +kernel⟩
theorem xAjv:FnScope ["_law_facts_here","_law_outers_here","_law_part","_law_outer","_law_name","_law_key_here"] ["_law_facts_here"] (defScope s_fAm):=⟨rfl,rfl,rfl,by decide +kernel,rfl,by decide +kernel,by decide +kernel⟩
theorem sc_fAt:FnScope ["_law_facts_here"] ["_law_facts_here"] (defScope s_fAt):=⟨rfl,rfl,rfl,by decide +kernel,rfl,by decide +kernel,by decide +kernel⟩
theorem xAjw:FnScope ["outer_of","reaching","part","way","comes","one"] ["outer_of"] (defScope s_fAf):=⟨rfl,rfl,rfl,by decide +kernel,rfl,by decide +kernel,by decide +kernel⟩
theorem xAop:FnScope ["_law_script","_law_k","_law_cell","_law_number"] ["_law_script","_law_k"] (defScope s_fAw):=⟨rfl,rfl,rfl,by decide +kernel,rfl,by decide +kernel,by decide +kernel⟩
theorem xArq:FnScope ["_law_facts_here","_law_one","_law_part","_law_outers_here"] ["_law_facts_here","_law_one","_law_part"] (defScope s_fAh):=⟨rfl,rfl,rfl,by decide +kernel,rfl,by decide +kernel,by decide +kernel⟩
theorem xAda:FnScope ["_law_facts_here","_law_outers_here","_law_told","_law_part","_law_around","_law_here","_law_keys","_law_found"] ["_law_facts_here"] (defScope s_fAi):=⟨rfl,rfl,rfl,by decide +kernel,rfl,by decide +kernel,by decide +kernel⟩
theorem xAoq:FnScope ["_law_facts_here","_law_stands_here","_law_seen","_law_part","_law_outers_here","_law_some","_law_one"] ["_law_facts_here","_law_stands_here","_law_seen","_law_part"] (defScope s_fAo):=⟨rfl,rfl,rfl,by decide +kernel,rfl,by decide +kernel,by decide +kernel⟩
theorem sc_fAe:FnScope ["telling","parts"] ["telling","parts"] (defScope s_fAe):=⟨rfl,rfl,rfl,by decide +kernel,rfl,by decide +kernel,by decide +kernel⟩
theorem xAor:FnScope ["facts","stands","cut","left","reaching"] ["facts","stands"] (defScope s_fAl):=⟨rfl,rfl,rfl,by decide +kernel,rfl,by decide +kernel,by decide +kernel⟩
theorem xAfk:FnScope ["_law_facts_here","_law_pool_here","_law_k","_law_last","_law_rounds","_law_way","_law_hand","_law_name","_law_parts","_law_outer","_law_key_here","_law_part"] ["_law_facts_here","_law_pool_here","_law_k","_law_last","_law_rounds"] (defScope s_fAp):=⟨rfl,rfl,rfl,by decide +kernel,rfl,by decide +kernel,by decide +kernel⟩
theorem xAhg:FnScope ["_law_facts_here","_law_stands_here","_law_cut","_law_seen","_law_part","_law_here"] ["_law_facts_here"] (defScope s_fAr):=⟨rfl,rfl,rfl,by decide +kernel,rfl,by decide +kernel,by decide +kernel⟩
theorem xAhh:FnScope ["telling","outer_of","turned","ended","part","way","one"] ["telling"] (defScope s_fAs):=⟨rfl,rfl,rfl,by decide +kernel,rfl,by decide +kernel,by decide +kernel⟩
theorem xAos:FnScope ["_law_script","_law_rounds","_law_facts_here","_law_last","_law_k"] ["_law_script","_law_rounds"] (defScope s_fAq):=⟨rfl,rfl,rfl,by decide +kernel,rfl,by decide +kernel,by decide +kernel⟩
theorem xAmt:FnScope ["telling","turned","stands","part","place"] ["telling"] (defScope s_fAy):=⟨rfl,rfl,rfl,by decide +kernel,rfl,by decide +kernel,by decide +kernel⟩
theorem xArr:FnScope ["facts","outer_of","reaching"] ["facts"] (defScope s_fAv):=⟨rfl,rfl,rfl,by decide +kernel,rfl,by decide +kernel,by decide +kernel⟩
theorem sc_fAk:FnScope ["facts"] ["facts"] (defScope s_fAk):=⟨rfl,rfl,rfl,by decide +kernel,rfl,by decide +kernel,by decide +kernel⟩
theorem xAjx:FnScope ["facts","telling","stands","shown","inner","part"] ["facts"] (defScope s_fAc):=⟨rfl,rfl,rfl,by decide +kernel,rfl,by decide +kernel,by decide +kernel⟩
theorem sc_fAj:FnScope ["facts","part"] ["facts","part"] (defScope s_fAj):=⟨rfl,rfl,rfl,by decide +kernel,rfl,by decide +kernel,by decide +kernel⟩
theorem xAot:FnScope ["_law_facts_here","_law_seen","_law_found"] ["_law_facts_here"] (defScope s_fAa):=⟨rfl,rfl,rfl,by decide +kernel,rfl,by decide +kernel,by decide +kernel⟩
theorem xAge:FnScope ["_law_facts_here","_law_most","_law_seen","_law_stands_here","_law_some","_law_part","_law_told","_law_due"] ["_law_facts_here","_law_most"] (defScope s_fAb):=⟨rfl,rfl,rfl,by decide +kernel,rfl,by decide +kernel,by decide +kernel⟩
theorem xAou:FnScope ["_law_script","_law_facts_here","_law_kept_here","_law_placed"] ["_law_script"] (defScope s_fBa):=⟨rfl,rfl,rfl,by decide +kernel,rfl,by decide +kernel,by decide +kernel⟩
section
variable {P:Program} {w:World} {K:PySem.W.Frag} {mg:Str->Option Value} {base:Heap} {d:Adr} {tk:Str->Tok}
theorem ok_fAd (T:Txt K mg d tk):FnOk P w K mg base CX0 1 d.fAd d.fAdd ["facts"] (sp_fAd K):=by
 refine T.F_fAd.ok xAon (fun vs H Q E h=>xAuk h) (fun cdv A outer s H vs Q E hr h=>?_);have hu:(A.deeper (envOfC "telling_places" (defScope s_fAd) s.heap.objs.size d.fAd cdv)).units<cLine:=hr.units0;have hu1:(A.deeper (envOfC "telling_places" (defScope s_fAd) s.heap.objs.size d.fAd cdv)).units+1<cLine:=hu_of hr;refine ⟨_,(@xAac _ _ _ _ _ (@xAak _ _ (1) _ _ _ _ xAon.nd rfl (Or.inl rfl) (@xAcs _ _) rfl (.inl rfl)) (@xAac _ _ _ _ _ (@xAcd _ _ _ _ _ _ _ _ PassesOwn.never rfl (@xAbf _ _ _ _ (@xAbr _ _ _ _ _ _ hu1 (@pq _ 0 _ _ rfl) (@xAar _ _ _ _) (fun _ _=>rfl))) (@xAal _ _ (2) _ xAon.nd rfl (Or.inl rfl) (.inl rfl)) (@xAac _ _ _ _ _ (@xAak _ _ (3) _ _ _ _ xAon.nd rfl (Or.inl rfl) (@pe_ix _ _ _ _ _ _ _ xAdd (@pq _ 2 _ _ rfl) (@xAah _ _ _ _) (fun _ _=>rfl)) rfl (.inl rfl)) (@xAag _ _ _ (@ps_if _ _ _ _ _ _ _ _ (@PW.pt _ _ _ (@pw_or _ _ _ _ _ _ _ (@xAam _ _ _ _ _ _ _ _ (xAew (hu2 hr)) (@pq _ 3 _ _ rfl) (@pq _ 1 _ _ rfl) rfl) (@xAgf _ _ _ _ (@xAam _ _ _ _ _ _ _ _ (op_ltT hu) (@pe_ix _ _ _ _ _ _ _ xAdd (@xAau _ _ _ _ _ _ (hu2 hr) (@pq _ 1 _ _ rfl) (@pq _ 3 _ _ rfl) (fun _ _=>rfl)) (@xAah _ _ _ _) (fun _ _=>rfl)) (@pe_ix _ _ _ _ _ _ _ xAdd (@pq _ 2 _ _ rfl) (@xAah _ _ _ _) (fun _ _=>rfl)) (xAbb _))))) (@xAag _ _ _ (@xAbj _ _ _ _ _ _ _ _ _ (hu2 hr) (@pq _ 1 _ _ rfl) (@pq _ 3 _ _ rfl) (@pq _ 2 _ _ rfl) rfl)) (@xAav _)))) (by intro _;rfl)) (@xAag _ _ _ (@xAat _ _ _ _ (@pq _ 1 _ _ rfl))))),?_⟩;obtain ⟨fa,es,rs,rfl,fq,kk⟩:=h;obtain ⟨F,dk,e1,al,hw,up,hl⟩:=id fq;intro dq H1 g1 s1 ed;refine ⟨_,rfl,fa,.ref (F 1),rfl,.inl ⟨fkv F 9,.inr "places",Rd.same dk s1,rfl,(xAcy F 1 (by decide)).symm⟩,?_⟩;refine ⟨F 1,rfl,⟨_,SqL.of (s1 _ _ e1)⟩,xAce (xs:=es) (fun j σ X=>∃ (kvs:List (KD×V×V)) (u2 u3:Option V),σ=[some (.ref fa),some (.ref dq),u2,u3]/\Same H X/\X dq=some (.dG kvs)/\AL (EK (PC X) X) kvs (tl (rs.take j))) ⟨[],none,none,rfl,s1,ed,.nil⟩ (fun j σ X _ ⟨_,_,_,_,s,_⟩=>SqL.of (s _ _ e1)) ?_ ?_⟩
 ·rintro j x σ X hx ⟨kvs,u2,u3,rfl,sX,eX,ak⟩
  obtain ⟨r,hr,px0⟩:=al.at hx;have px:=px0.tups sX.tups;have hnd:=xAfb (rs.take j);have hjl:j<rs.length:=(qv.mp hr).1
  have etk:rs.take (j+1)=rs.take j++[r]:=by rw [zd,hr];rfl
  obtain ⟨b,vp,vo,vn,kq,rfl,h1,h2,h3,h4,h5⟩:=id px;have hkl:kvs.length<sizeLine:=xAba (by rw [ak.1];have:=xAme (rs.take j);rw [zo] at this;have:=al.1;omega)
  have fin:∀ kvs',AL (EK (PC X) X) kvs' (tl (rs.take j++[r]))->∃ (kvs:List (KD×V×V)) (u2 u3:Option V),[some (V.ref fa),some (V.ref dq),some (V.ref b),some vp]=[some (.ref fa),some (.ref dq),u2,u3]/\Same H (upd X dq (.dG kvs'))/\(upd X dq (.dG kvs')) dq=some (.dG kvs)/\AL (EK (PC (upd X dq (.dG kvs'))) (upd X dq (.dG kvs'))) kvs (tl (rs.take (j+1))):=fun kvs' a' =>
   ⟨kvs',_,_,rfl,sX.wr g1,xAad,by rw [etk];exact a'.imp fun e x p=>p.imp (Tups.wd eX) fun q=>q.tups (Tups.wd eX)⟩
  refine ⟨_,rfl,b,_,0,vp,rfl,rfl,SqT.of h1,rfl,?_⟩;have body:∀ D:Ends,(∀ σ X,(∃ (kvs:List (KD×V×V)) (u2 u3:Option V),σ=[some (.ref fa),some (.ref dq),u2,u3]/\Same H X/\X dq=some (.dG kvs)/\AL (EK (PC X) X) kvs (tl (rs.take (j+1))))->D.nx σ X)->True:=fun _ _=>trivial;refine ⟨_,rfl,_,rfl,dq,kvs,.tup r.pt,rfl,.inl eX,h2,_,rfl,?_⟩;rw [if_pos rfl,xAfc ak hnd]
  cases hb:hp (tl (rs.take j)) r.pt with
  | false =>
   refine itT rfl ?_;refine ⟨_,rfl,_,rfl,_,rfl,dq,kvs,.tup r.pt,rfl,eX,h2,hkl,?_⟩;exact fin _ (by rw [xAdv];exact xAgb ak hnd h2 px)
  | true =>
   refine itF rfl ?_;obtain ⟨x',hx',ex'⟩:=qd.mp (xAbq.mp hb);obtain ⟨v,hv,pv⟩:=xAcb ak hnd hx';rw [ex'] at hv;obtain ⟨b',vp',vo',vn',kq',rfl,h1',h2',h3',h4',h5'⟩:=pv;refine ⟨_,rfl,_,rfl,dq,kvs,.tup r.pt,_,rfl,.inl eX,h2,hv,b',_,3,.ref kq',rfl,rfl,SqT.of h1',rfl,_,rfl,b,_,3,.ref kq,rfl,rfl,SqT.of h1,rfl,kq',kq,[x'.ka,x'.kb],[r.ka,r.kb],rfl,rfl,SqT.of h5',SqT.of h5,_,rfl,?_⟩
   have hlt:Lt2 x'.ka x'.kb r.ka r.kb:=by
    have hm:=xAhd hx';have:=y9.mp (etk▸(up.sublist (vg (j+1) rs)));exact this.2.2 x' hm r (qj.mpr rfl)
   refine itT (lex2 hlt) ?_;refine ⟨_,rfl,_,rfl,_,rfl,dq,kvs,.tup r.pt,rfl,eX,h2,hkl,?_⟩;exact fin _ (by rw [xAdv];exact xAgb ak hnd h2 px)
 ·rintro σ X ⟨kvs,u2,u3,rfl,sX,eX,ak⟩
  rw [al.1,zh] at ak;exact ⟨_,rfl,kk X dq kvs sX g1 eX ak⟩
theorem ok_fAz (T:Txt K mg d tk):FnOk P w K mg base CX0 1 d.fAz d.fAzd ["outer_of","part","ended"] (sp_fAz K):=by
 refine T.F_fAz.ok xAoo (fun vs H Q E h=>xAul h) (fun cdv A outer s H vs Q E hr h=>?_);have hu:(A.deeper (envOfC "way_out" (defScope s_fAz) s.heap.objs.size d.fAz cdv)).units<cLine:=hr.units0;refine ⟨_,(@xAac _ _ _ _ _ (@xAak _ _ (3) _ _ _ _ xAoo.nd rfl (Or.inl rfl) (@xAas _ _ _ _ (@xAaa _ _ _ _ _ (@pq _ 1 _ _ rfl) (@xAaf _) rfl)) rfl (.inl rfl)) (@xAac _ _ _ _ _ (@xAak _ _ (4) _ _ _ _ xAoo.nd rfl (Or.inl rfl) (@xAiq _ _ _ _ _ _ (hu2 hr) (@pq _ 1 _ _ rfl) (@pe_bl _ _ _ _)) rfl (.inl rfl)) (@xAac _ _ _ _ _ (@xAdk _ _ _ _ _ _ PassesOwn.never (@xAcm _ _ _ (@PW.pt _ _ _ (@xAgg _ _ _ _ _ _ _ (@xAam _ _ _ _ _ _ _ _ (xAfy (hu2 hr)) (@pe_ix _ _ _ _ _ _ _ xAaw (@pq _ 3 _ _ rfl) (@pe_un _ _ _ _ _ _ xAgh (@xAah _ _ _ _)) (fun _ _=>rfl)) (@pq _ 0 _ _ rfl) rfl) (@xAdj _ _ _ _ (@xAam _ _ _ _ _ _ _ _ (xAew (hu2 hr)) (@pe_ix _ _ _ _ _ _ _ xAaw (@pq _ 3 _ _ rfl) (@pe_un _ _ _ _ _ _ xAgh (@xAah _ _ _ _)) (fun _ _=>rfl)) (@pq _ 2 _ _ rfl) rfl))))) (@xAac _ _ _ _ _ (@xAak _ _ (5) _ _ _ _ xAoo.nd rfl (Or.inl rfl) (@xAau _ _ _ _ _ _ (hu2 hr) (@pq _ 0 _ _ rfl) (@pe_ix _ _ _ _ _ _ _ xAaw (@pq _ 3 _ _ rfl) (@pe_un _ _ _ _ _ _ xAgh (@xAah _ _ _ _)) (fun _ _=>rfl)) (fun _ _=>rfl)) rfl (.inl rfl)) (@xAac _ _ _ _ _ (@xAbm _ _ _ _ (@pe_bm _ _ _ _ _ _ _ _ _ _ _ _ PySem.F.plainAttrs_list PySem.F.slot_list_append PySem.F.type_list_append xAay (@pq _ 3 _ _ rfl) (@xAaa _ _ _ _ _ (@pq _ 5 _ _ rfl) (@xAaf _) rfl) rfl rfl rfl rfl rfl) rfl) (@xAac _ _ _ _ _ (@ps_if _ _ _ _ _ _ _ _ (@xAam _ _ _ _ _ _ _ _ (xAfy (hu2 hr)) (@pq _ 5 _ _ rfl) (@pq _ 4 _ _ rfl) rfl) (@xAag _ _ _ (@xAat _ _ _ _ (@pq _ 3 _ _ rfl))) (@xAav _)) (@xAag _ _ _ (@xAbj _ _ _ _ _ _ _ _ _ (hu2 hr) (@pq _ 4 _ _ rfl) (@pq _ 5 _ _ rfl) (@pe_bl _ _ _ _) rfl)))))) (@xAag _ _ _ (@xAat _ _ _ _ (@pq _ 3 _ _ rfl)))))),?_⟩;obtain ⟨oa,vp,ea,ko,ys,ke,E',p,C,rfl,hoa,ako,hnd,hnz,hfew,hea,sme,gp,hpp,hpn,kk⟩:=h;refine ⟨_,rfl,szOk rfl,fun wa H1 g1 s1 e1=>?_⟩;intro onw H2 g2 s2 e2;have s12:=s1.trans s2;refine ⟨_,rfl,e2,nd p,gp.tups s12.tups,?_⟩;have s3:Same H (upd H2 onw (.dG [(nd p,vp,.bl true)])):=s12.wr (s1.free g2);have nwo:wa≠onw:=xAab e1 g2
 have e3:(upd H2 onw (.dG [(nd p,vp,.bl true)])) wa=some (.lst [vp]):=by rw [xAae nwo];exact s2 _ _ e1
 have o3:(upd H2 onw (.dG [(nd p,vp,.bl true)])) onw=some (.dG [(nd p,vp,.bl true)]):=xAad;have gon:H onw=none:=s1.free g2;generalize upd H2 onw (.dG [(nd p,vp,.bl true)])=H3 at s3 e3 o3
 have sm0:SN [((nd p,vp,.bl true):KD×V×V)] (fun k=>k∈[]++[p]):=by
  have:=SN.nil.put (S':=fun k=>k∈([]:List (List Key))++[p]) (p:=p) vp (.bl true) fun k=>by simp
  exact this
 refine ⟨fun m σ X=>∃ (ini:List (List Key)) (las:List Key) (ws:List V) (kw:List (KD×V×V)) (u5:Option V),σ=[some (.ref oa),some vp,some (.ref ea),some (.ref wa),some (.ref onw),u5]/\Same H X/\X wa=some (.lst ws)/\AL (NmN X) ws (ini++[las])/\X onw=some (.dG kw)/\SN kw (fun k=>k∈ini++[las])/\kw.length≤ini.length+1/\WP (gX ys) E' p ini las/\(∀ k∈ini++[las],C k)/\m=102 - ini.length,
  ⟨102,[],p,[vp],_,none,rfl,s3,e3,.cons (gp.tups s3.tups) .nil,o3,sm0,qc _,.one,fun k hk=>by rw [qj.mp hk];exact hpp,rfl⟩,?_⟩
 rintro m σ X ⟨ini,las,ws,kw,u5,rfl,sX,eX,aX,oX,smX,hkl,wp,hpns,rfl⟩;have hfit:=wp.fits;obtain ⟨us,v,rfl,aU,hv⟩:=xAmk aX;have hul:us.length=ini.length:=aU.1;have akX:=ako.imp fun e x q=>q.imp (R':=OuN X) sX.tups fun r=>r.tups sX.tups;have hoX:=Rd.same hoa sX;have heX:=Rd.same hea sX;refine ⟨fun b X1=>X1=X/\(b=true->gX ys las≠none/\¬ E' las)/\(b=false->gX ys las=none\/E' las),?_,?_⟩
 ·refine ⟨_,rfl,1,rfl,wa,_,-1,v,rfl,rfl,SqL.of eX,xAee us v,_,rfl,oa,ko,nd las,rfl,hoX,hv,_,rfl,?_⟩
  rw [if_neg (by decide),xAtr akX hnd hnz]
  cases hg:gX ys las with
  | none=>exact itF rfl ⟨rfl,(fun z=>by cases z),fun _=>.inl rfl⟩
  | some o =>
   refine itT rfl ?_;refine ⟨_,rfl,1,rfl,wa,_,-1,v,rfl,rfl,SqL.of eX,xAee us v,_,rfl,ea,ke,nd las,rfl,heX,hv,_,rfl,?_⟩;rw [if_pos rfl];refine ⟨rfl,fun z=>⟨(fun y=>by cases y),fun y=>?_⟩,fun z=>.inr ((sme las).mp ?_)⟩
   ·rw [sme.yes y] at z;cases z
   ·cases q:(vG ke (nd las)).isSome with
    | true=>rfl
    | false=>rw [q] at z;cases z
 rintro b X1 ⟨rfl,hT,hF⟩
 cases b with
 | false =>
  refine itF rfl ?_;exact ⟨_,rfl,kk X1 wa (us++[v]) ini las sX g1 eX aX (wp.stop (hF rfl)) (by omega) hpns⟩
 | true =>
  refine itT rfl ?_;obtain ⟨hg,hE⟩:=hT rfl;obtain ⟨o,ho⟩:=v4.mp hg;obtain ⟨v',hv',gv'⟩:=al_gn akX hnd hnz ho;refine ⟨fun σ' H'=>∃ m',m'<102 - ini.length/\∃ (ini:List (List Key)) (las:List Key) (ws:List V) (kw:List (KD×V×V)) (u5:Option V),σ'=[some (.ref oa),some vp,some (.ref ea),some (.ref wa),some (.ref onw),u5]/\Same H H'/\H' wa=some (.lst ws)/\AL (NmN H') ws (ini++[las])/\H' onw=some (.dG kw)/\SN kw (fun k=>k∈ini++[las])/\kw.length≤ini.length+1/\WP (gX ys) E' p ini las/\(∀ k∈ini++[las],C k)/\m'=102 - ini.length,fun _ _ z=>z,?_⟩;refine ⟨_,rfl,_,rfl,1,rfl,wa,_,-1,v,rfl,rfl,SqL.of eX,xAee us v,oa,ko,nd las,v',rfl,hoX,hv,hv',?_⟩;refine ⟨_,rfl,.inl ⟨rfl,_,SqL.of eX⟩,_,rfl,wa,_,_,rfl,rfl,eX,huge (by rw [qg,ql];omega),?_⟩;have tw:Tups X1 (upd X1 wa (.lst ((us++[v])++[v']))):=Tups.wl eX;have sW:Same H (upd X1 wa (.lst ((us++[v])++[v']))):=sX.wr g1;have eW:(upd X1 wa (.lst ((us++[v])++[v']))) wa=some (.lst ((us++[v])++[v'])):=xAad
  have oW:(upd X1 wa (.lst ((us++[v])++[v']))) onw=some (.dG kw):=by rw [xAae nwo.symm];exact oX
  have aW:AL (NmN (upd X1 wa (.lst ((us++[v])++[v'])))) ((us++[v])++[v']) ((ini++[las])++[o]):=(aX.imp fun v k q=>q.tups tw).snoc (GK.tups gv' tw);have gW:=GK.tups gv' tw;generalize upd X1 wa (.lst ((us++[v])++[v']))=Y at tw sW eW oW aW gW;have hpo:C o:=hpn las o ho
  have hpns':∀ k∈(ini++[las])++[o],C k:=fun k hk=>by
   rcases qw.mp hk with z | z
   ·exact hpns k z
   ·rw [qj.mp z];exact hpo
  refine ⟨_,rfl,_,rfl,onw,kw,nd o,rfl,.inl oW,gW,_,rfl,?_⟩;rw [if_neg (by decide)]
  by_cases hin:o∈ini++[las]
  ·rw [smX.yes hin]
   refine itT rfl ?_;exact ⟨_,rfl,kk Y wa _ (ini++[las]) o sW g1 eW aW (wp.again ho hE hin) (by rw [qg,ql];omega) hpns'⟩
  ·rw [smX.no hin]
   refine itF rfl ?_;have wp':=wp.on ho hE hin;have hfit':=wp'.fits;rw [qg,ql] at hfit';refine ⟨_,rfl,_,rfl,onw,kw,nd o,rfl,oW,gW,huge (by omega),?_⟩;have t2:Tups Y (upd Y onw (.dG (pG kw (nd o) v' (.bl true)))):=Tups.wd oW;refine ⟨102 - (ini.length+1),by omega,ini++[las],o,(us++[v])++[v'],_,_,rfl,sW.wr gon,by rw [xAae nwo];exact eW,aW.imp fun v k q=>q.tups t2,xAad,smX.put _ _ fun k=>?_,?_,wp',hpns',by rw [qg,ql]⟩
   ·rw [qw,qj];exact ⟨fun z=>z.symm,fun z=>z.symm⟩
   ·have:=xAev kw (nd o) v' (.bl true)
    rw [qg,ql];omega
theorem ok_fAg (T:Txt K mg d tk):FnOk P w K mg base CX0 1 d.fAg d.fAgd ["_law_script","_law_k"] (sp_fAg K):=by
 refine T.F_fAg.ok sc_fAg (fun vs H Q E h=>xAtw h) (fun cdv A outer s H vs Q E hr h=>?_);have hu:(A.deeper (envOfC "_law_cell_at" (defScope s_fAg) s.heap.objs.size d.fAg cdv)).units<cLine:=hr.units0;refine ⟨_,(@xAac _ _ _ _ _ (@ps_if _ _ _ _ _ _ _ _ (@xAam _ _ _ _ _ _ _ _ op_lt (@pq _ 1 _ _ rfl) (@xAaz _ _ _ _ _ _ _ _ _ xAbc rfl T.b_len boot_len (@xAaa _ _ _ _ _ (@pq _ 0 _ _ rfl) (@xAaf _) rfl) (by decide) (by decide) rfl rfl) (xAbb _)) (@xAag _ _ _ (@xAat _ _ _ _ (@pe_ix _ _ _ _ _ _ _ xAkm (@pq _ 0 _ _ rfl) (@pq _ 1 _ _ rfl) (fun _ _=>rfl)))) (@xAav _)) (@xAag _ _ _ (@xAat _ _ _ _ (@xAah _ _ _ _)))),?_⟩;obtain ⟨sp,ns,k,rfl,hs,hk,kk⟩:=h;refine ⟨_,rfl,_,rfl,sp,_,rfl,.inl hs,_,_,rfl,rfl,_,rfl,?_⟩
 by_cases hl:k<((List.map V.int ns).length:Nat)
 ·refine itT (decide_eq_true hl) ?_
  refine ⟨_,rfl,_,rfl,sp,_,_,rfl,rfl,hs,hk,hl,fun v hv=>?_⟩;obtain ⟨m,_,rfl⟩:=qd.mp hv;exact kk m
 ·exact itF (decide_eq_false hl) (kk 0)
theorem ok_fAu (T:Txt K mg d tk):FnOk P w K mg base CX0 1 d.fAu d.fAud ["_law_pool_here","_law_many"] (sp_fAu K):=by
 refine T.F_fAu.ok xAvd (fun vs H Q E h=>xAty h) (fun cdv A outer s H vs Q E hr h=>?_);have hu:(A.deeper (envOfC "_law_take" (defScope s_fAu) s.heap.objs.size d.fAu cdv)).units<cLine:=hr.units0;refine ⟨_,(@xAac _ _ _ _ _ (@ps_if _ _ _ _ _ _ _ _ (@xAam _ _ _ _ _ _ _ _ op_gt (@pe_ix _ _ _ _ _ _ _ xAaw (@pq _ 0 _ _ rfl) (@xAah _ _ _ _) (fun _ _=>rfl)) (@xAah _ _ _ _) (xAbb _)) (@xAac _ _ _ _ _ (@xAak _ _ (2) _ _ _ _ xAvd.nd rfl (Or.inl rfl) (@pe_op _ _ _ _ _ _ _ _ xAej (@pe_ix _ _ _ _ _ _ _ xAaw (@pq _ 0 _ _ rfl) (@xAah _ _ _ _) (fun _ _=>rfl)) (@pq _ 1 _ _ rfl)) rfl (.inl rfl)) (@xAac _ _ _ _ _ (@xAjc _ _ _ _ _ _ (@pe_op _ _ _ _ _ _ _ _ xAox (@pe_ix _ _ _ _ _ _ _ xAaw (@pq _ 0 _ _ rfl) (@xAah _ _ _ _) (fun _ _=>rfl)) (@pq _ 1 _ _ rfl)) (@xAjb _ _ _ _ _ _ _ (@pq _ 0 _ _ rfl) (@xAah _ _ _ _) xAcv (by intro _;rfl)) rfl rfl rfl) (@xAag _ _ _ (@xAat _ _ _ _ (@pq _ 2 _ _ rfl))))) (@xAav _)) (@xAac _ _ _ _ _ (@xAjc _ _ _ _ _ _ (@pe_op _ _ _ _ _ _ _ _ xAej (@pe_op _ _ _ _ _ _ _ _ xAjd (@pe_op _ _ _ _ _ _ _ _ xAje (@pe_ix _ _ _ _ _ _ _ xAaw (@pq _ 0 _ _ rfl) (@xAah _ _ _ _) (fun _ _=>rfl)) (@xAah _ _ _ _)) (@xAah _ _ _ _)) (@xAah _ _ _ _)) (@xAjb _ _ _ _ _ _ _ (@pq _ 0 _ _ rfl) (@xAah _ _ _ _) xAcv (by intro _;rfl)) rfl rfl rfl) (@xAag _ _ _ (@xAat _ _ _ _ (@pe_op _ _ _ _ _ _ _ _ xAej (@pe_op _ _ _ _ _ _ _ _ xAox (@pe_op _ _ _ _ _ _ _ _ xAej (@pe_op _ _ _ _ _ _ _ _ xAje (@pe_ix _ _ _ _ _ _ _ xAaw (@pq _ 0 _ _ rfl) (@xAah _ _ _ _) (fun _ _=>rfl)) (@pe_ix _ _ _ _ _ _ _ xAaw (@pq _ 0 _ _ rfl) (@xAah _ _ _ _) (fun _ _=>rfl))) (@xAah _ _ _ _)) (@xAah _ _ _ _)) (@pq _ 1 _ _ rfl)))))),?_⟩;obtain ⟨p,c,m,k,rfl,hp,⟨hc,hm0,hm1⟩,hk,hk2,kk⟩:=h;refine ⟨_,rfl,p,_,0,.int c,rfl,rfl,SqL.of hp,rfl,_,_,rfl,rfl,_,rfl,?_⟩
 by_cases h0:c>0
 ·refine itT (decide_eq_true h0) ?_
  refine ⟨_,rfl,p,_,0,.int c,rfl,rfl,SqL.of hp,rfl,_,rfl,_,_,rfl,rfl,hk,?_⟩;refine ⟨_,rfl,p,_,0,.int c,rfl,rfl,SqL.of hp,rfl,_,rfl,_,_,rfl,rfl,⟨hk,hk2⟩,_,rfl,p,_,0,0,rfl,rfl,hp,rfl,?_⟩;exact ⟨_,rfl,kk _ _ _ ⟨Int.ediv_nonneg hc (by omega),hm0,hm1⟩ (xAji _ hk) (xAgl _ hk)⟩
 refine itF (decide_eq_false h0) ?_;refine ⟨_,rfl,p,_,1,.int m,rfl,rfl,SqL.of hp,rfl,_,_,rfl,rfl,.inr ⟨by decide,by decide⟩,_,_,rfl,rfl,_,_,rfl,rfl,(by show (0:Int)<2147483647;decide),_,rfl,p,_,1,1,rfl,rfl,hp,rfl,?_⟩;have hn0:0≤(m * 69621+48271) % 2147483647:=xAji _ (by decide);have hn1:(m * 69621+48271) % 2147483647<2147483647:=xAgl _ (by decide);refine ⟨_,rfl,p,_,1,.int ((m * 69621+48271) % 2147483647),rfl,rfl,SqL.of xAad,rfl,_,rfl,p,_,1,.int ((m * 69621+48271) % 2147483647),rfl,rfl,SqL.of xAad,rfl,_,_,rfl,rfl,.inl ⟨by omega,by omega⟩,_,_,rfl,rfl,(by show (0:Int)<2147483629;decide),_,_,rfl,rfl,⟨by decide,by decide⟩,_,rfl,_,_,rfl,rfl,hk,?_⟩;exact kk _ c _ ⟨hc,hn0,hn1⟩ (xAji _ hk) (xAgl _ hk)
theorem ok_fAn (T:Txt K mg d tk):FnOk P w K mg base CX0 1 d.fAn d.fAnd [] (sp_fAn K):=by
 refine T.F_fAn.ok xArp (fun vs H Q E h=>xAtz h) (fun cdv A outer s H vs Q E hr h=>?_);have hu:(A.deeper (envOfC "_law_facts" (defScope s_fAn) s.heap.objs.size d.fAn cdv)).units<cLine:=hr.units0;have hu1:(A.deeper (envOfC "_law_facts" (defScope s_fAn) s.heap.objs.size d.fAn cdv)).units+1<cLine:=hu_of hr;refine ⟨_,(@xAac _ _ _ _ _ (@xAak _ _ (0) _ _ _ _ xArp.nd rfl (Or.inl rfl) (@xAsi _ _) rfl (.inl rfl)) (@xAac _ _ _ _ _ (@xAcd _ _ _ _ _ _ _ _ PassesOwn.never rfl (@xAbf _ _ _ _ (@xAas _ _ _ _ (@xAaa _ _ _ _ _ (@xAar _ _ _ _) (@xAaa _ _ _ _ _ (@xAar _ _ _ _) (@xAaa _ _ _ _ _ (@xAar _ _ _ _) (@xAaa _ _ _ _ _ (@xAar _ _ _ _) (@xAaa _ _ _ _ _ (@xAar _ _ _ _) (@xAaa _ _ _ _ _ (@xAar _ _ _ _) (@xAaa _ _ _ _ _ (@xAar _ _ _ _) (@xAaa _ _ _ _ _ (@xAar _ _ _ _) (@xAaa _ _ _ _ _ (@xAar _ _ _ _) (@xAaf _) rfl) rfl) rfl) rfl) rfl) rfl) rfl) rfl) rfl))) (@xAal _ _ (1) _ xArp.nd rfl (Or.inl rfl) (.inl rfl)) (@xAag _ _ _ (@xAsg _ _ _ _ _ _ _ _ _ hu1 (@pq _ 0 _ _ rfl) (@pq _ 1 _ _ rfl) (@xAas _ _ _ _ (@xAaf _)) rfl)) (by intro _;rfl)) (@xAag _ _ _ (@xAat _ _ _ _ (@pq _ 0 _ _ rfl))))),?_⟩;obtain ⟨rfl,kk⟩:=h;intro dq H1 g1 s1 e1;refine ⟨szOk rfl,fun lp H2 g2 s2 e2=>?_⟩;have s02:=s1.trans s2
 refine ⟨lp,rfl,⟨_,SqL.of e2⟩,xAce (xs:=(["births","places","cuts","signs","marks","notes","lines","cells","leaves"]:List Str).map V.str) (fun j σ H3=>∃ (F:Nat->Addr) (u1:Option V),σ=[some (.ref dq),u1]/\Same H H3/\H3 lp=some (.lst ((["births","places","cuts","signs","marks","notes","lines","cells","leaves"]:List Str).map V.str))/\H3 dq=some (.dK (fkv F j))/\(∀ i,i<j->H (F i)=none/\H3 (F i)=some (.lst []))/\∀ i,i<j->∀ i',i'<j->F i=F i'->i=i')
  ⟨fun _=>dq,none,rfl,s02,e2,s2 _ _ e1,fun i z=>absurd z (zk i),fun i z=>absurd z (zk i)⟩ (fun j σ H3 _ ⟨_,_,_,_,e,_⟩=>SqL.of e) ?_ ?_⟩
 ·rintro j x σ H3 hx ⟨F,u1,rfl,s3,el,ed,hF,hi⟩
  have hj:j<9:=(qv.mp hx).1
  have ex:x=kV (kN j):=by
   rw [qu] at hx;show x=.str _;rw [zb]
   cases q:(["births","places","cuts","signs","marks","notes","lines","cells","leaves"]:List Str)[j]? with
   | none=>rw [q] at hx;cases hx
   | some z=>rw [q] at hx;exact (Option.some.inj hx).symm
  refine ⟨szOk rfl,fun q H4 g4 s4 e4=>?_⟩;have nq:q≠dq:=(xAab ed g4).symm
  have hv:valV (fkv F j) (kN j)=none:=by
   cases e:valV (fkv F j) (kN j) with
   | none=>rfl
   | some v =>
    have:=xAsh e;unfold fkv at this;rw [z4] at this;obtain ⟨i,hi1,hi2⟩:=qd.mp this;have hi3:=zu.mp hi1;exact absurd (xAth i (by omega) j hj hi2) (by omega)
  refine ⟨_,rfl,_,rfl,dq,_,rfl,.inl ⟨fkv F j,kN j,s4 _ _ ed,ex,xAba (by unfold fkv;rw [qf,jx];omega),rfl⟩,?_⟩
  have F0:∀ i,i<j->(if i=j then q else F i)=F i:=fun i h=>if_neg (by omega)
  have ne:∀ i,i<j->F i≠q:=fun i h=>xAab (hF i h).2 g4
  have neq:∀ i,i<j->F i≠dq:=fun i h z=>by
   have:=(hF i h).2;rw [z,ed] at this;cases this
  refine ⟨fun i=>if i=j then q else F i,_,rfl,(s3.trans s4).wr g1,?_,?_,fun i h=>?_,fun i h i' h' e=>?_⟩
  ·rw [xAae (fun z=>by rw [z,ed] at el;cases el)]
   exact s4 _ _ el
  ·rw [xAad,xApy _ hv]
   unfold fkv;rw [List.range_succ,zg]
   have:(List.range j).map (fun i=>(kN i,V.ref (if i=j then q else F i)))=(List.range j).map (fun i=>(kN i,V.ref (F i))):=z5 fun i hi=>by rw [F0 i (zu.mp hi)]
   rw [this]
   simp
  ·show H (if i=j then q else F i)=none/\(upd H4 dq _) (if i=j then q else F i)=_
   by_cases z:i=j
   ·subst z
    rw [if_pos rfl];exact ⟨s3.free g4,by rw [xAae nq];exact e4⟩
   ·rw [if_neg z]
    have hij:i<j:=by omega
    exact ⟨(hF i hij).1,by rw [xAae (neq i hij)];exact s4 _ _ (hF i hij).2⟩
  ·have e:(if i=j then q else F i)=(if i'=j then q else F i'):=e
   by_cases z:i=j
   ·by_cases z':i'=j
    ·omega
    ·rw [if_pos z,if_neg z'] at e
     exact absurd e.symm (ne i' (by omega))
   ·by_cases z':i'=j
    ·rw [if_neg z,if_pos z'] at e
     exact absurd e (ne i (by omega))
    ·rw [if_neg z,if_neg z'] at e
     exact hi i (by omega) i' (by omega) e
 ·rintro σ H3 ⟨F,u1,rfl,s3,el,ed,hF,hi⟩
  exact ⟨_,rfl,kk H3 dq F s3 g1 (fun i h=>(hF i h).1) ed hi fun i h=>(hF i h).2⟩
theorem ok_fAx (T:Txt K mg d tk):FnOk P w K mg base CX0 1 d.fAx d.fAxd ["_law_last","_law_name","_law_hand","_law_named"] (sp_fAx K):=by
 refine T.F_fAx.ok xAve (fun vs H Q E h=>xAua h) (fun cdv A outer s H vs Q E hr h=>?_);have hu:(A.deeper (envOfC "_law_key" (defScope s_fAx) s.heap.objs.size d.fAx cdv)).units<cLine:=hr.units0;refine ⟨_,(@xAac _ _ _ _ _ (@xAkl _ (4) _ _ _ _ _ _ _ _ _ (["_law_one"]) ([("_law_last",0)]) _ _ _ _ _ xAve.nd rfl (Or.inl rfl) rfl (@xAbf _ _ _ _ (@pq _ 3 _ _ rfl)) ⟨rfl,by decide +kernel,by decide +kernel⟩ (xAdm (defScope s_fAx) ["_law_last","_law_name","_law_hand","_law_named","_law_told"] rfl rfl (fun _ h=>xAbw h) (by decide +kernel) (by decide +kernel) (by decide +kernel)) (fun _ _ _=>(@xAal _ _ (0) _ (by show List.Nodup (["_law_one","_law_last"]:List Str);decide +kernel) rfl (Or.inl rfl) (.inr rfl))) (fun _=>xAbd rfl) (fun _ _ _=>(@xAkj _ _ _ (@xAam _ _ _ _ _ _ _ _ (xAsk (K:=K) rfl (hu63 hr)) (@pq _ 0 _ _ rfl) (@pe_ix _ _ _ _ _ _ _ (xAqc (K:=K) rfl) (@pv _ 1 _ _ rfl (Or.inr (Or.inl rfl)) rfl rfl) (@xAah _ _ _ _) (fun _ _=>rfl)) rfl))) (fun _ _ _=>(@pq _ 0 _ _ rfl)) (by intro _;rfl) rfl (.inl rfl)) (@xAij _ _ _ _ _ (@ps_if _ _ _ _ _ _ _ _ (@xAcm _ _ _ (@PW.pt _ _ _ (@pw_or _ _ _ _ _ _ _ (@xAam _ _ _ _ _ _ _ _ op_le (@pq _ 2 _ _ rfl) (@pe_ix _ _ _ _ _ _ _ xAaw (@pv _ 0 _ _ rfl (Or.inr (Or.inl rfl)) rfl rfl) (@xAah _ _ _ _) (fun _ _=>rfl)) (xAbb _)) (@pw_or _ _ _ _ _ _ _ (@xAam _ _ _ _ _ _ _ _ (xAkq (hu64 hr)) (@pq _ 4 _ _ rfl) (@xAas _ _ _ _ (@xAaf _)) (xAbb _)) (@xAgf _ _ _ _ (@xAam _ _ _ _ _ _ _ _ op_gt (@xAaz _ _ _ _ _ _ _ _ _ xAbc rfl T.b_len boot_len (@xAaa _ _ _ _ _ (@pe_ix _ _ _ _ _ _ _ xAaw (@pv _ 0 _ _ rfl (Or.inr (Or.inl rfl)) rfl rfl) (@xAah _ _ _ _) (fun _ _=>rfl)) (@xAaf _) rfl) (by decide) (by decide) rfl rfl) (@pe_op _ _ _ _ _ _ _ _ xAjd (@xAah _ _ _ _) (@pe_op _ _ _ _ _ _ _ _ xAej (@pe_ix _ _ _ _ _ _ _ xAdd (@pq _ 1 _ _ rfl) (@xAah _ _ _ _) (fun _ _=>rfl)) (@xAah _ _ _ _))) (xAbb _))))))) (@xAac _ _ _ _ _ (@xAjc _ _ _ _ _ _ (@pe_op _ _ _ _ _ _ _ _ xAjd (@pe_ix _ _ _ _ _ _ _ xAaw (@pv _ 0 _ _ rfl (Or.inr (Or.inl rfl)) rfl rfl) (@xAah _ _ _ _) (fun _ _=>rfl)) (@xAah _ _ _ _)) (@xAjb _ _ _ _ _ _ _ (@pv _ 0 _ _ rfl (Or.inr (Or.inl rfl)) rfl rfl) (@xAah _ _ _ _) xAcv (by intro _;rfl)) rfl rfl rfl) (@xAag _ _ _ (@xAjc _ _ _ _ _ _ (@xAas _ _ _ _ (@xAaf _)) (@xAjb _ _ _ _ _ _ _ (@pv _ 0 _ _ rfl (Or.inr (Or.inl rfl)) rfl rfl) (@xAah _ _ _ _) xAcv (by intro _;rfl)) rfl rfl rfl))) (@xAav _)) (@xAac _ _ _ _ _ (@xAjc _ _ _ _ _ _ (@pq _ 2 _ _ rfl) (@xAjb _ _ _ _ _ _ _ (@pv _ 0 _ _ rfl (Or.inr (Or.inl rfl)) rfl rfl) (@xAah _ _ _ _) xAcv (by intro _;rfl)) rfl rfl rfl) (@xAac _ _ _ _ _ (@xAjc _ _ _ _ _ _ (@pe_op _ _ _ _ _ _ _ _ xAkn (@pe_ix _ _ _ _ _ _ _ xAaw (@pv _ 0 _ _ rfl (Or.inr (Or.inl rfl)) rfl rfl) (@xAah _ _ _ _) (fun _ _=>rfl)) (@xAas _ _ _ _ (@xAaa _ _ _ _ _ (@pq _ 1 _ _ rfl) (@xAaf _) rfl))) (@xAjb _ _ _ _ _ _ _ (@pv _ 0 _ _ rfl (Or.inr (Or.inl rfl)) rfl rfl) (@xAah _ _ _ _) xAcv (by intro _;rfl)) rfl rfl rfl) (@xAag _ _ _ (@xAat _ _ _ _ (@xAao _ _ _ _ _ (@xAaa _ _ _ _ _ (@pe_ix _ _ _ _ _ _ _ xAaw (@pv _ 0 _ _ rfl (Or.inr (Or.inl rfl)) rfl rfl) (@xAah _ _ _ _) (fun _ _=>rfl)) (@xAaa _ _ _ _ _ (@pq _ 2 _ _ rfl) (@xAaf _) rfl) rfl)))))))),?_⟩;obtain ⟨lp,q,h,g,ys,vn,nm,hand,np,zs,rfl,lt,gvn,hnm,enp,okz,zl,nnp,kk⟩:=h;obtain ⟨ls,dys,hls⟩:=nmvs lt.ok;have lys:=xAei hls;have hyl:=lt.yl
 have eqd:del H lp q=some (.lst ys):=by rw [xAaj lt.nq];exact lt.eq
 refine ⟨_,rfl,np,rfl,⟨_,SqL.of enp⟩,xAfs (xs:=zs) (big (by omega)) (fun j ts H'=>H'=H/\(∀ y∈ts,NmV H y)/\ts.length≤j) ⟨rfl,(fun y z=>nomatch z),qc _⟩ (fun _ _ H' s'=>by rw [s'.1];exact SqL.of enp) (fun j x ts H' K1 K0 hx s' k1 k0=>?_) fun H' tq ts s' hy hq=>?_⟩
 ·obtain ⟨rfl,okt,htl⟩:=s'
  have hxm:=okz x (qo hx);obtain ⟨kx,gx,hkx⟩:=id hxm
  have yes:K1 x H':=k1 _ _ ⟨rfl,fun y hy=>by
   rcases qw.mp hy with z | z
   ·exact okt y z
   ·rw [qj.mp z];exact hxm,by rw [qg,ql];omega⟩
  have no:K0 H':=k0 _ ⟨rfl,okt,by omega⟩;refine ⟨_,rfl,_,rfl,lp,_,2,.ref q,rfl,rfl,SqL.of lt.el,rfl,tD kx,q,_,ys,(gk_td gx).dv,rfl,.inl (SqL.of lt.eq),dys.dv,hkx.lay,lys.1,qk (xAbt kx) (by decide),_,rfl,?_⟩
  cases hb:((ls.map tD).any fun d=>PyData.eqv d (tD kx)) with
  | true=>exact itT rfl ⟨_,rfl,yes⟩
  | false=>exact itF rfl no
 obtain ⟨rfl,okt,htl⟩:=s';have nH:Same H' (upd H' tq (.lst ts)):=Same.new hq;have etq:(upd H' tq (.lst ts)) tq=some (.lst ts):=xAad;generalize upd H' tq (.lst ts)=H1 at nH etq;have sD:Same (del H' lp) H1:=fun b o e=>nH _ _ (xAbp _ _ e);obtain ⟨lt',dts',hlt'⟩:=nmvs fun y hy=>(okt y hy).tups nH.tups;have lts:=xAei hlt';obtain ⟨w,xn,rfl,hw⟩:=id hnm;obtain ⟨bn,rfl,ebn⟩:=id gvn;have ebn1:=nH _ _ ebn;refine ⟨fun σ' X=>∃ (q':Addr) (h':Int) (ys':List V),σ'=[some (.ref lp),some (.ref bn),some (.int hand),some (.ref np),some (.ref tq)]/\Same (del H' lp) X/\X lp=some (.lst [.int h',.int g,.ref q'])/\X q'=some (.lst ys')/\(∀ y∈ys',NmV X y)/\ys'.length≤2/\Lt2 h g h' hand/\h'≤h+1/\q'≠lp,?_,?_⟩
 ·refine ⟨fun b X=>Same H1 X/\(b=false->g<hand/\ys.length≤2),?_,?_⟩
  ·refine ⟨_,rfl,_,rfl,lp,_,1,.int g,rfl,rfl,SqL.of (nH _ _ lt.el),rfl,_,_,rfl,rfl,_,rfl,?_⟩
   by_cases h1:hand≤g
   ·exact itT (decide_eq_true h1) ⟨Same.refl _,fun z=>by cases z⟩
   refine itF (decide_eq_false h1) ?_;refine ⟨_,rfl,szOk rfl,fun nq X1 gn sn en=>?_⟩;refine ⟨.list (lt'.map tD),.list [],.lst (SqL.of (sn _ _ etq)) (dts'.tups sn.tups).dv,.lst (SqL.of en) .nil,lts.1,rfl,qk (Nat.min_le_right _ _) (by decide),_,rfl,?_⟩
   cases hb:(!PyData.eqv (.list (lt'.map tD)) (.list [])) with
   | true=>exact itT rfl ⟨sn,fun z=>by cases z⟩
   | false =>
    refine itF rfl ?_;refine ⟨_,rfl,lp,_,2,.ref q,rfl,rfl,SqL.of (sn _ _ (nH _ _ lt.el)),rfl,q,ys,rfl,.inl (SqL.of (sn _ _ (nH _ _ lt.eq))),_,rfl,bn,_,1,.int xn,rfl,rfl,SqT.of (sn _ _ ebn1),rfl,_,_,rfl,rfl,(by show (0:Int)<2;decide),_,_,rfl,rfl,_,_,rfl,rfl,_,rfl,?_⟩;have hm:xn % 2<2:=xAgl _ (by decide);refine ⟨sn,fun z=>?_⟩;have h2:¬ (ys.length:Int)>1+xn % 2:=of_decide_eq_false z;exact ⟨by omega,by omega⟩
  ·rintro b X ⟨sX,hb⟩
   have s0X:=nH.trans sX;have elX:=s0X _ _ lt.el;have sDX:=sD.trans sX
   cases b with
   | true =>
    refine itT rfl ?_;refine ⟨_,rfl,lp,_,0,.int h,rfl,rfl,SqL.of elX,rfl,_,_,rfl,rfl,_,rfl,lp,_,0,0,rfl,rfl,elX,rfl,?_⟩;have el1:(upd X lp (.lst [.int (h+1),.int g,.ref q])) lp=some (.lst [.int (h+1),.int g,.ref q]):=xAad;have sD1:Same (del H' lp) (upd X lp (.lst [.int (h+1),.int g,.ref q])):=sDX.wr xAbk;refine ⟨szOk rfl,fun q' Y gy sy ey=>?_⟩;have nq':q'≠lp:=(xAab el1 gy).symm;have elY:=sy _ _ el1;refine ⟨_,rfl,lp,_,2,2,rfl,rfl,elY,rfl,?_⟩;refine ⟨q',h+1,[],rfl,(sD1.trans sy).wr xAbk,xAad,by rw [xAae nq'];exact ey,(fun y z=>nomatch z),by decide,.inl (by omega),by omega,nq'⟩
   | false =>
    refine itF rfl ?_;obtain ⟨h1,h2⟩:=hb rfl;exact ⟨q,h,ys,rfl,sDX,elX,s0X _ _ lt.eq,fun y hy=>(lt.ok y hy).tups s0X.tups,h2,.inr ⟨rfl,h1⟩,by omega,lt.nq⟩
 rintro σ' X ⟨q',h',ys',rfl,sX,elX,eqX,okX,yl',lt2,hh,nq'⟩;refine ⟨_,rfl,_,rfl,lp,_,1,1,rfl,rfl,elX,rfl,?_⟩;have el1:(upd X lp (.lst [.int h',.int hand,.ref q'])) lp=some (.lst [.int h',.int hand,.ref q']):=xAad;have s1:Same (del H' lp) (upd X lp (.lst [.int h',.int hand,.ref q'])):=sX.wr xAbk;have t1:Tups X (upd X lp (.lst [.int h',.int hand,.ref q'])):=Tups.wl elX
 have eq1:(upd X lp (.lst [.int h',.int hand,.ref q'])) q'=some (.lst ys'):=by rw [xAae nq'];exact eqX
 refine ⟨_,rfl,lp,_,2,.ref q',rfl,rfl,SqL.of el1,rfl,_,rfl,szOk rfl,fun b1 Y1 gy1 sy1 ey1=>?_⟩;refine ⟨q',b1,ys',_,rfl,rfl,sy1 _ _ eq1,ey1,big (by show ys'.length+1≤1000;omega),fun q2 Y2 gy2 sy2 ey2=>?_⟩;have s12:=sy1.trans sy2;have elY:=s12 _ _ el1;have nq2:q2≠lp:=(xAab (sy1 _ _ el1) gy2).symm;refine ⟨_,rfl,lp,_,2,2,rfl,rfl,elY,rfl,?_⟩;have el3:(upd Y2 lp (.lst [.int h',.int hand,.ref q2])) lp=some (.lst [.int h',.int hand,.ref q2]):=xAad;have s3:Same (del H' lp) (upd Y2 lp (.lst [.int h',.int hand,.ref q2])):=(s1.trans s12).wr xAbk;have t3:Tups Y2 (upd Y2 lp (.lst [.int h',.int hand,.ref q2])):=Tups.wl elY
 have eq3:(upd Y2 lp (.lst [.int h',.int hand,.ref q2])) q2=some (.lst (ys'++[.ref bn])):=by rw [xAae nq2];exact ey2
 have f2:H' q2=none:=by
  have:=(s1.trans sy1).free gy2;rw [xAaj nq2] at this;exact this
 have tall:Tups X (upd Y2 lp (.lst [.int h',.int hand,.ref q2])):=(t1.trans s12.tups).trans t3;have tH:Tups H' (upd Y2 lp (.lst [.int h',.int hand,.ref q2])):=Tups.cut lt.el s3;refine ⟨_,rfl,lp,_,0,.int h',rfl,rfl,SqL.of el3,rfl,_,rfl,szOk rfl,fun kq Z1 gz sz0 ez=>?_⟩;have sz:Same (upd Y2 lp (.lst [.int h',.int hand,.ref q2])) Z1:=sz0;refine kk Z1 kq q2 h' (ys'++[.ref bn]) (s3.trans sz) ⟨sz _ _ el3,sz _ _ eq3,fun y hy=>?_,by rw [qg,ql];omega,nq2⟩ f2 ez lt2 hh;rcases qw.mp hy with z | z
 ·exact ((okX y z).tups tall).tups sz.tups
 ·rw [qj.mp z]
  exact ⟨_,(gvn.tups tH).tups sz.tups,.inr hnm⟩
theorem ok_fAm (T:Txt K mg d tk):FnOk P w K mg base CX0 1 d.fAm d.fAmd ["_law_facts_here"] (sp_fAm K):=by
 refine T.F_fAm.ok xAjv (fun vs H Q E h=>xAur h) (fun cdv A outer s H vs Q E hr h=>?_);have hu:(A.deeper (envOfC "_law_outers" (defScope s_fAm) s.heap.objs.size d.fAm cdv)).units<cLine:=hr.units0;have hu1:(A.deeper (envOfC "_law_outers" (defScope s_fAm) s.heap.objs.size d.fAm cdv)).units+1<cLine:=hu_of hr;refine ⟨_,(@xAac _ _ _ _ _ (@xAak _ _ (1) _ _ _ _ xAjv.nd rfl (Or.inl rfl) (@xAcs _ _) rfl (.inl rfl)) (@xAac _ _ _ _ _ (@xAcd _ _ _ _ _ _ _ _ PassesOwn.never rfl (@xAbf _ _ _ _ (@xAbr _ _ _ _ _ _ hu1 (@pq _ 0 _ _ rfl) (@xAar _ _ _ _) (fun _ _=>rfl))) (@xAfm _ _ _ _ _ _ rfl (@xAaq _ _ _ _ _ (@xAal _ _ (2) _ xAjv.nd rfl (Or.inl rfl) (.inl rfl)) (@xAaq _ _ _ _ _ (@xAal _ _ (3) _ xAjv.nd rfl (Or.inl rfl) (.inl rfl)) (@xAaq _ _ _ _ _ (@xAal _ _ (4) _ xAjv.nd rfl (Or.inl rfl) (.inl rfl)) (@xAaq _ _ _ _ _ (@xAal _ _ (5) _ xAjv.nd rfl (Or.inl rfl) (.inl rfl)) (@xAdb _) rfl) rfl) rfl) rfl) rfl rfl) (@xAag _ _ _ (@xAbj _ _ _ _ _ _ _ _ _ (hu2 hr) (@pq _ 1 _ _ rfl) (@pq _ 2 _ _ rfl) (@xAao _ _ _ _ _ (@xAaa _ _ _ _ _ (@pq _ 3 _ _ rfl) (@xAaa _ _ _ _ _ (@pq _ 4 _ _ rfl) (@xAaa _ _ _ _ _ (@pq _ 5 _ _ rfl) (@xAaf _) rfl) rfl) rfl)) rfl)) (by intro _;rfl)) (@xAag _ _ _ (@xAat _ _ _ _ (@pq _ 1 _ _ rfl))))),?_⟩;obtain ⟨fa,es,rs,rfl,fq,kk⟩:=h;obtain ⟨F,dk,e1,al,hw,up,hl⟩:=id fq;intro dq H1 g1 s1 ed;refine ⟨_,rfl,fa,.ref (F 1),rfl,.inl ⟨fkv F 9,.inr "places",Rd.same dk s1,rfl,(xAcy F 1 (by decide)).symm⟩,F 1,rfl,⟨_,SqL.of (s1 _ _ e1)⟩,xAce (xs:=es) (fun j σ X=>∃ (kvs:List (KD×V×V)) (u2 u3 u4 u5:Option V),σ=[some (.ref fa),some (.ref dq),u2,u3,u4,u5]/\Same H X/\X dq=some (.dG kvs)/\AL (EK (O3 X) X) kvs (tl (rs.take j))) ⟨[],none,none,none,none,rfl,s1,ed,.nil⟩ (fun j σ X _ ⟨_,_,_,_,_,_,s,_⟩=>SqL.of (s _ _ e1)) ?_ ?_⟩
 ·rintro j x σ X hx ⟨kvs,u2,u3,u4,u5,rfl,sX,eX,ak⟩
  obtain ⟨r,hr,px0⟩:=al.at hx;obtain ⟨b,vp,vo,vn,kq,rfl,h1,h2,h3,h4,h5⟩:=px0.tups sX.tups;have hjl:j<rs.length:=(qv.mp hr).1
  have etk:rs.take (j+1)=rs.take j++[r]:=by rw [zd,hr];rfl
  have hrl:=al.1;have hkl:kvs.length<sizeLine:=huge (by rw [ak.1];have:=xAme (rs.take j);rw [zo] at this;omega);refine ⟨b,_,rfl,SqT.of h1,rfl,_,_,rfl,_,_,rfl,_,_,rfl,_,_,rfl,rfl,?_⟩;refine ⟨_,rfl,_,rfl,_,rfl,szOk rfl,fun tq Y gy sy ey=>?_⟩;have eY:=sy _ _ eX;refine ⟨_,rfl,_,rfl,dq,kvs,.tup r.pt,rfl,eY,h2.tups sy.tups,hkl,?_⟩;have aY:=ak.imp fun e x p=>p.imp (R':=O3 Y) sy.tups fun q=>q.tups sy.tups;have o3:O3 Y (.ref tq) r:=⟨tq,vo,vn,kq,rfl,ey,h3.tups sy.tups,sy _ _ h5⟩;have aP:=xAgb aY (xAfb _) (h2.tups sy.tups) o3;rw [← xAdv,← etk] at aP;exact ⟨_,_,_,_,_,rfl,(sX.trans sy).wr g1,xAad,aP.imp fun e x p=>p.imp (Tups.wd eY) fun q=>q.tups (Tups.wd eY)⟩
 ·rintro σ X ⟨kvs,u2,u3,u4,u5,rfl,sX,eX,ak⟩
  rw [al.1,zh] at ak;exact ⟨_,rfl,kk X dq kvs sX g1 eX ak⟩
theorem ok_fAt (T:Txt K mg d tk):FnOk P w K mg base CX0 1 d.fAt d.fAtd ["_law_facts_here"] (sp_fAt K):=by
 refine T.F_fAt.ok sc_fAt (fun vs H Q E h=>xAud h) (fun cdv A outer s H vs Q E hr h=>?_);have hu:(A.deeper (envOfC "_law_kept" (defScope s_fAt) s.heap.objs.size d.fAt cdv)).units<cLine:=hr.units0;have hu1:(A.deeper (envOfC "_law_kept" (defScope s_fAt) s.heap.objs.size d.fAt cdv)).units+1<cLine:=hu_of hr;refine ⟨_,(@xAag _ _ _ (@xAat _ _ _ _ (@xAbo _ _ _ _ _ _ _ (["_law_word"]) ([("_law_facts_here",0)]) _ _ _ _ _ rfl (@xAta _ _ _ _ (@pv _ 0 _ _ rfl (Or.inr (Or.inl rfl)) rfl rfl)) ⟨rfl,by decide +kernel,by decide +kernel⟩ (xAdm (defScope s_fAt) ["_law_facts_here"] rfl rfl (fun _ h=>xAbw h) (by decide +kernel) (by decide +kernel) (by decide +kernel)) (fun _ _ _=>(@xAal _ _ (0) _ (by show List.Nodup (["_law_word","_law_facts_here"]:List Str);decide +kernel) rfl (Or.inl rfl) (.inr rfl))) (fun _=>xAbd rfl) (fun _ _ _=>(@xAcl _)) (fun _ _ _=>(@xAao _ _ _ _ _ (@xAaa _ _ _ _ _ (@pq _ 0 _ _ rfl) (@xAaa _ _ _ _ _ (@xAbx _ _ _ _ _ _ _ _ _ (xAkr (K:=K) rfl) rfl T.b_list boot_list (@xAaa _ _ _ _ _ (@xAbr _ _ _ _ _ _ hu1 (@pv _ 1 _ _ rfl (Or.inr (Or.inl rfl)) rfl rfl) (@pq _ 0 _ _ rfl) (fun _ _=>rfl)) (@xAaf _) rfl) (by decide) (by decide) rfl rfl) (@xAaf _) rfl) rfl))) (by intro _;rfl)))),?_⟩;obtain ⟨fa,F,bs,es,cs,rs,cu,k,rfl,fb,kk⟩:=h
 have exs:=fb.at
 have nF:∀ i,i<9->F i≠fa:=fun i hi=>(rd_ne fb.dk (exs i hi)).symm;refine ⟨_,rfl,fa,fkv F 9,rfl,xAqz fb.dk fun o Y hY fY eY=>?_⟩
 have sY:Same (del H fa) Y:=fun b u e=>by
  have nb:b≠fa:=fun z=>by rw [z,xAbk] at e;cases e
  rw [xAaj nb] at e;exact hY b u nb e
 have exY:∀ i,i<9->Y (F i)=some (.lst (xsF bs es cs i)):=fun i hi=>hY _ _ (nF i hi) (exs i hi);refine xAtb (by show 9≤_;exact szOk rfl) (fun j ys H'=>Same Y H'/\∃ C:Nat->Addr,PrsK H' ys (fkv C j)/\∀ i,i<j->Y (C i)=none/\H' (C i)=some (.lst (xsF bs es cs i))) ⟨Same.refl _,fun _=>fa,trivial,fun i z=>absurd z (zk i)⟩ (fun _ _ H' s'=>s'.1 _ _ eY) (fun j k v ys H' K1 K0 hx s' k1 k0=>?_) fun H' np ys s' hy hq=>?_
 ·obtain ⟨s',C,pr,hC⟩:=s'
  have hj:j<9:=(qv.mp hx).1
  have hk:k=kN j:=by
   unfold fkv at hx;rw [qu,jv hj] at hx;exact (congrArg Prod.fst (Option.some.inj hx)).symm
  subst hk;refine iteT (B:=K0 H') ?_;refine ⟨_,rfl,_,rfl,_,rfl,fa,.ref (F j),rfl,.inl ⟨fkv F 9,kN j,.inr ⟨o,s' _ _ eY⟩,rfl,(xAcy F j hj).symm⟩,F j,xsF bs es cs j,rfl,.inl (SqL.of (s' _ _ (exY j hj))),fun q H2 g2 s2 e2=>?_⟩;refine ⟨szOk rfl,fun tq H3 g3 s3 e3=>k1 _ _ ⟨(s'.trans s2).trans s3,fun i=>if i=j then q else C i,?_,fun i hi=>?_⟩⟩
  ·rw [xAqy]
   exact xAis (e:=(kN j,.ref q)) ⟨tq,rfl,e3⟩ (xAdi (s2.trans s3).tups pr)
  ·show Y (if i=j then q else C i)=none/\H3 (if i=j then q else C i)=_
   by_cases z:i=j
   ·rw [if_pos z,z];exact ⟨s'.free g2,s3 _ _ e2⟩
   ·rw [if_neg z];exact ⟨(hC i (by omega)).1,(s2.trans s3) _ _ (hC i (by omega)).2⟩
 obtain ⟨s',C,pr,hC⟩:=s';have hC:∀ i,i<9->Y (C i)=none/\H' (C i)=some (.lst (xsF bs es cs i)):=hC;have pr:PrsK H' ys (fkv C 9):=pr;have nH:Same H' (upd H' np (.lst ys)):=Same.new hq;refine kk _ np ys C o ((sY.trans s').trans nH) (nH _ _ (s' _ _ eY)) (fY _ (s'.free hq)) (fun i hi=>fY _ (hC i hi).1) ⟨xAad,xAdi nH.tups pr,fun i hi=>nH _ _ (hC i hi).2⟩
theorem ok_fAf (T:Txt K mg d tk) (gfAz:FnOk P w K mg base CX0 1 d.fAz d.fAzd ["outer_of","part","ended"] (sp_fAz K)):FnOk P w K mg base CX0 2 d.fAf d.fAfd ["outer_of"] (sp_fAf K):=by
 refine T.F_fAf.ok xAjw (fun vs H Q E h=>xAup h) (fun cdv A outer s H vs Q E hr h=>?_);have hu:(A.deeper (envOfC "reaching_main" (defScope s_fAf) s.heap.objs.size d.fAf cdv)).units<cLine:=hr.units0;refine ⟨_,(@xAac _ _ _ _ _ (@xAak _ _ (1) _ _ _ _ xAjw.nd rfl (Or.inl rfl) (@xAiq _ _ _ _ _ _ (hu2 hr) (@xAov _ _ (.ref (cadr K "MAIN")) _ _ rfl T.c_MAIN rfl (by decide)) (@pe_bl _ _ _ _)) rfl (.inl rfl)) (@xAac _ _ _ _ _ (@xAcd _ _ _ _ _ _ _ _ PassesOwn.never rfl (@xAco _ _ _ _ (@pq _ 0 _ _ rfl)) (@xAal _ _ (2) _ xAjw.nd rfl (Or.inl rfl) (.inl rfl)) (@xAac _ _ _ _ _ (@xAak _ _ (3) _ _ _ _ xAjw.nd rfl (Or.inl rfl) (@xAai _ _ _ _ _ _ _ _ _ _ _ _ _ _ _ _ gfAz (hr.mono (by decide)) rfl T.m_fAz T.k_fAz T.d_fAz .nil pass0 (@xAaa _ _ _ _ _ (@pq _ 0 _ _ rfl) (@xAaa _ _ _ _ _ (@pq _ 2 _ _ rfl) (@xAaa _ _ _ _ _ (@pq _ 1 _ _ rfl) (@xAaf _) rfl) rfl) rfl) (by decide) rfl rfl) rfl (.inl rfl)) (@xAac _ _ _ _ _ (@xAak _ _ (4) _ _ _ _ xAjw.nd rfl (Or.inl rfl) (@pe_bm _ _ _ _ _ _ _ _ _ _ _ _ PySem.F.plainAttrs_dict PySem.F.slot_dict_get PySem.F.type_dict_get (xAlp (hu2 hr)) (@pq _ 1 _ _ rfl) (@xAaa _ _ _ _ _ (@pe_ix _ _ _ _ _ _ _ xAaw (@pq _ 3 _ _ rfl) (@pe_un _ _ _ _ _ _ xAgh (@xAah _ _ _ _)) (fun _ _=>rfl)) (@xAaa _ _ _ _ _ (@pe_bl _ _ _ _) (@xAaf _) rfl) rfl) rfl rfl rfl rfl rfl) rfl (.inl rfl)) (@xAag _ _ _ (@xAcd _ _ _ _ _ _ _ _ PassesOwn.never rfl (@xAbf _ _ _ _ (@pq _ 3 _ _ rfl)) (@xAal _ _ (5) _ xAjw.nd rfl (Or.inl rfl) (.inl rfl)) (@xAag _ _ _ (@xAbj _ _ _ _ _ _ _ _ _ (hu2 hr) (@pq _ 1 _ _ rfl) (@pq _ 5 _ _ rfl) (@pq _ 4 _ _ rfl) rfl)) (by intro _;rfl))))) (by intro _;rfl)) (@xAag _ _ _ (@xAat _ _ _ _ (@pq _ 1 _ _ rfl))))),?_⟩;obtain ⟨oa,ko,ys,rfl,hoa,ako,W,ma,kk⟩:=h;have hfew:=W.few;intro ra H1 g1 s1 e1;have ma1:=s1 _ _ ma;refine ⟨e1,.tup mainK,⟨_,rfl,ma1⟩,?_⟩;have s2:Same H (upd H1 ra (.dG [(.tup mainK,.ref (cadr K "MAIN"),.bl true)])):=s1.wr g1;have e2:(upd H1 ra (.dG [(.tup mainK,.ref (cadr K "MAIN"),.bl true)])) ra=some (.dG [(.tup mainK,.ref (cadr K "MAIN"),.bl true)]):=xAad;generalize upd H1 ra (.dG [(.tup mainK,.ref (cadr K "MAIN"),.bl true)])=H2 at s2 e2;have hoa2:=Rd.same hoa s2;dsimp only [gName,tSeq];refine xAml ?_;refine ⟨_,rfl,oa,ko,rfl,xAiw hoa2 fun o Y hY fY eY=>?_⟩
 have tY:Tups H2 Y:=fun b us e=>hY b _ (fun z=>by
  subst z
  rcases hoa2 with q | ⟨o',q⟩ <;> rw [q] at e <;> cases e) e
 have nra:ra≠oa:=fun z=>by
  rw [z] at g1;rcases hoa with q | ⟨o',q⟩ <;> rw [g1] at q <;> cases q
 have eraY:=hY ra _ nra e2;have tHY:=s2.tups.trans tY;have aY:=ako.imp fun e x q=>q.imp (R':=OuN Y) tHY fun r=>r.tups tHY;have hmn:gX ys mainK=none:=xAcj W.main;have rm0:RM Y ys _ [((.tup mainK,.ref (cadr K "MAIN"),.bl true):KD×V×V)]:=RM.one ⟨_,rfl,tHY _ _ ma⟩
 refine xAca (fun j σ X=>∃ (f:List Key->Option Bool) (kr:List (KD×V×V)) (u2 u3 u4 u5:Option V),σ=[some (.ref oa),some (.ref ra),u2,u3,u4,u5]/\Same (del Y ra) X/\X ra=some (.dG kr)/\RM X ys f kr/\∀ i x,i<j->ys[i]?=some x->f x.pt≠none)
  ⟨_,_,none,none,none,none,rfl,(fun b u e=>xAbp _ _ e),eraY,rm0,fun i x z=>absurd z (zk i)⟩ (fun j σ X ⟨_,_,_,_,_,_,_,s,_⟩=>s _ _ (by rw [xAaj nra.symm];exact eY)) ?_ ?_
 ·rintro j e σ X hx ⟨f,kr,u2,u3,u4,u5,rfl,sX,eX,rm,hdone⟩
  have hkl:=rm.few hfew;have hf:=rm.at_;have hfm:=rm.main;have hval:=rm.val;have tX:Tups Y X:=xAbl eraY (fun ys z=>nomatch z) sX;obtain ⟨r,hr,p1,p2,p3⟩:=aY.at hx;have hjl:j<ys.length:=(qv.mp hr).1;have hrm:=qo hr;have aX:=aY.imp fun e x q=>q.imp (R':=OuN X) tX fun r=>r.tups tX;have eoX:X oa=some (.frz o (.dG ko)):=sX _ _ (by rw [xAaj nra.symm];exact eY);refine ⟨_,rfl,_,rfl,_,rfl,oa,e.2.1,ra,ko,ys,kr,fun k=>f k≠none,r.pt,fun k=>k∈nodes ys,rfl,.inr ⟨o,eoX⟩,aX,W.nd,W.nz,hfew,.inl eX,rm.sn,gk_nd (W.pt r hrm).ne (p2.tups tX),xAts hrm,fun k o h=>xAtt h,fun Z wa ws ini las sz gwa ewa aws wo hil hpns=>?_⟩;obtain ⟨us,v,rfl,aus,hv⟩:=xAmk aws;have hul:us.length=ini.length:=aus.1;have eraZ:=sz _ _ eX;have nwr:wa≠ra:=(xAab eX gwa).symm;refine ⟨_,rfl,.inr (.inr (.inl ⟨rfl,.inr (.inr ⟨kr,eraZ⟩)⟩)),_,rfl,1,rfl,wa,_,-1,v,rfl,rfl,SqL.of ewa,xAee us v,ra,kr,nd las,v,.bl false,rfl,rfl,eraZ,hv,?_⟩
  obtain ⟨c,hc,hcv⟩:∃ c:Bool,(vG kr (nd las)).getD (.bl false)=.bl c/\(c=true↔Rnd.Comes (gX ys) mainK las):=by
   rw [hf las]
   cases q:f las with
   | some b=>exact ⟨b,rfl,hval las b q⟩
   | none =>
    refine ⟨false,rfl,⟨(fun z=>by cases z),fun z=>?_⟩⟩
    have hnl:gX ys las=none:=by
     rcases wo.en with y | ⟨_,y | y⟩
     ·exact absurd y (W.way wo)
     ·exact y
     ·exact absurd q y
    rw [(Rnd.comes_end hnl).mp z,hfm] at q;cases q
  rw [hc]
  have hway:∀ k∈ini++[las],(c=true↔Rnd.Comes (gX ys) mainK k):=fun k hk=>by
   rcases qw.mp hk with z | z
   ·obtain ⟨n,h1,h2⟩:=wo.comes z
    rw [hcv,Rnd.comes_iff hmn h1 fun m hm=>by
     obtain ⟨b,hb,e⟩:=h2 m hm
     exact ⟨b,e,wo.dom hb⟩]
   ·rw [qj.mp z];exact hcv
  have swX:Same (del Y ra) Z:=sX.trans sz
  refine ⟨_,rfl,wa,rfl,⟨_,SqL.of ewa⟩,xAce (xs:=us++[v]) (fun i σ Z5=>∃ (f5:List Key->Option Bool) (kr5:List (KD×V×V)) (u5:Option V),σ=[some (.ref oa),some (.ref ra),some e.2.1,some (.ref wa),some (.bl c),u5]/\Same (del Y ra) Z5/\Z5 ra=some (.dG kr5)/\Z5 wa=some (.lst (us++[v]))/\Tups Z Z5/\RM Z5 ys f5 kr5/\(∀ k,f k≠none->f5 k≠none)/\∀ k∈(ini++[las]).take i,f5 k≠none)
   ⟨f,kr,u5,rfl,swX,eraZ,ewa,Tups.refl _,rm.tups sz.tups,(fun k z=>z),fun k z=>by simp at z⟩ (fun i σ Z5 _ ⟨_,_,_,_,_,_,e,_⟩=>SqL.of e) ?_ ?_⟩
  ·rintro i x σ Z5 hx' ⟨f5,kr5,u5',rfl,s5,er5,ew5,t5,rm5,hk5,hd5⟩
   obtain ⟨k,hk,gx⟩:=aws.at hx';have hkm:=qo hk;refine ⟨_,rfl,_,rfl,_,rfl,ra,kr5,nd k,rfl,er5,GK.tups gx t5,huge (by have:=rm5.few hfew;omega),?_⟩;have t6:Tups Z5 (upd Z5 ra (.dG (pG kr5 (nd k) x (.bl c)))):=Tups.wd er5;have rm6:=(rm5.put (hpns k hkm) (GK.tups gx t5) (hway k hkm)).tups t6;refine ⟨fun a=>if a=k then some c else f5 a,_,_,rfl,s5.wr xAbk,xAad,by rw [xAae nwr];exact ew5,t5.trans t6,rm6,fun a q=>?_,fun a q=>?_⟩
   ·show (if a=k then some c else f5 a)≠none
    by_cases z:a=k
    ·rw [if_pos z];exact fun y=>nomatch y
    ·rw [if_neg z];exact hk5 a q
   ·show (if a=k then some c else f5 a)≠none
    rw [zd,hk] at q
    by_cases z:a=k
    ·rw [if_pos z];exact fun y=>nomatch y
    ·rw [if_neg z]
     rcases qw.mp q with y | y
     ·exact hd5 a y
     ·exact absurd (qj.mp y) z
  ·rintro σ Z5 ⟨f5,kr5,u5',rfl,s5,er5,ew5,t5,rm5,hk5,hd5⟩
   have hwl:(us++[v]).length=(ini++[las]).length:=aws.1;rw [hwl,zh] at hd5;refine ⟨f5,kr5,_,_,_,_,rfl,s5,er5,rm5,fun i x hi hx'=>?_⟩
   by_cases z:i<j
   ·exact hk5 _ (hdone i x z hx')
   ·have:i=j:=by omega
    subst this;rw [hr] at hx';cases hx';exact hd5 _ (yn wo.hd)
 ·rintro σ X ⟨f,kr,u2,u3,u4,u5,rfl,sX,eX,rm,hdone⟩
  refine ⟨_,rfl,kk X ra kr f (fun b u e=>sX _ _ ?_) (.inr ⟨o,sX _ _ (by rw [xAaj nra.symm];exact eY)⟩) g1 eX rm fun x hx=>?_⟩
  ·have nb:b≠oa:=fun z=>by rw [z,xAbk] at e;cases e
   rw [xAaj nb] at e;rw [xAaj (fun z=>by rw [z,g1] at e;cases e)];exact hY b u nb (s2 _ _ e)
  ·obtain ⟨i,hi,ei⟩:=qt.mp hx
   exact hdone i x (by rw [ako.1];exact hi) (by rw [qe hi,ei])
theorem ok_fAw (T:Txt K mg d tk) (gfAg:FnOk P w K mg base CX0 1 d.fAg d.fAgd ["_law_script","_law_k"] (sp_fAg K)):FnOk P w K mg base CX0 2 d.fAw d.fAwd ["_law_script","_law_k"] (sp_fAw K):=by
 refine T.F_fAw.ok xAop (fun vs H Q E h=>xAtx h) (fun cdv A outer s H vs Q E hr h=>?_);have hu:(A.deeper (envOfC "_law_pool" (defScope s_fAw) s.heap.objs.size d.fAw cdv)).units<cLine:=hr.units0;refine ⟨_,(@xAac _ _ _ _ _ (@xAak _ _ (2) _ _ _ _ xAop.nd rfl (Or.inl rfl) (@xAaz _ _ _ _ _ _ _ _ _ xApu rfl T.b_abs boot_abs (@xAaa _ _ _ _ _ (@xAai _ _ _ _ _ _ _ _ _ _ _ _ _ _ _ _ gfAg (hr.mono (by decide)) rfl T.m_fAg T.k_fAg T.d_fAg .nil pass0 (@xAaa _ _ _ _ _ (@pq _ 0 _ _ rfl) (@xAaa _ _ _ _ _ (@pq _ 1 _ _ rfl) (@xAaf _) rfl) rfl) (by decide) rfl rfl) (@xAaf _) rfl) (by decide) (by decide) rfl rfl) rfl (.inl rfl)) (@xAac _ _ _ _ _ (@xAak _ _ (3) _ _ _ _ xAop.nd rfl (Or.inl rfl) (@pe_op _ _ _ _ _ _ _ _ xAej (@pe_op _ _ _ _ _ _ _ _ xAje (@pe_op _ _ _ _ _ _ _ _ xAjd (@pe_op _ _ _ _ _ _ _ _ xAjd (@pe_op _ _ _ _ _ _ _ _ xAej (@pq _ 2 _ _ rfl) (@xAah _ _ _ _)) (@pe_op _ _ _ _ _ _ _ _ xAje (@pe_op _ _ _ _ _ _ _ _ xAje (@xAah _ _ _ _) (@pq _ 1 _ _ rfl)) (@pq _ 1 _ _ rfl))) (@xAah _ _ _ _)) (@xAah _ _ _ _)) (@xAah _ _ _ _)) rfl (.inl rfl)) (@xAij _ _ _ _ _ (@ps_if _ _ _ _ _ _ _ _ (@xAcm _ _ _ (@PW.pt _ _ _ (@pw_or _ _ _ _ _ _ _ (@xAam _ _ _ _ _ _ _ _ op_eq (@pe_op _ _ _ _ _ _ _ _ xAej (@xAai _ _ _ _ _ _ _ _ _ _ _ _ _ _ _ _ gfAg (hr.mono (by decide)) rfl T.m_fAg T.k_fAg T.d_fAg .nil pass0 (@xAaa _ _ _ _ _ (@pq _ 0 _ _ rfl) (@xAaa _ _ _ _ _ (@xAah _ _ _ _) (@xAaf _) rfl) rfl) (by decide) rfl rfl) (@xAah _ _ _ _)) (@xAah _ _ _ _) (xAbb _)) (@xAgf _ _ _ _ (@xAam _ _ _ _ _ _ _ _ op_lt (@pq _ 2 _ _ rfl) (@pe_op _ _ _ _ _ _ _ _ op_pow (@xAah _ _ _ _) (@xAah _ _ _ _)) (xAbb _)))))) (@xAag _ _ _ (@xAak _ _ (2) _ _ _ _ xAop.nd rfl (Or.inl rfl) (@xAah _ _ _ _) rfl (.inl rfl))) (@xAav _)) (@xAag _ _ _ (@xAat _ _ _ _ (@xAas _ _ _ _ (@xAaa _ _ _ _ _ (@pq _ 2 _ _ rfl) (@xAaa _ _ _ _ _ (@pe_op _ _ _ _ _ _ _ _ xAej (@pe_op _ _ _ _ _ _ _ _ xAje (@pq _ 3 _ _ rfl) (@pq _ 3 _ _ rfl)) (@xAah _ _ _ _)) (@xAaf _) rfl) rfl))))))),?_⟩;obtain ⟨sp,ns,k,rfl,hs,k0,k1,kk⟩:=h;refine ⟨_,rfl,_,rfl,sp,ns,k,rfl,hs,k0,fun c0=>?_⟩;refine ⟨_,rfl,?_⟩
 have hc:0≤(if c0<0 then -c0 else c0):=by split <;> omega
 generalize (if c0<0 then -c0 else c0)=c at hc;have hm0:0≤c % 2147483629:=xAji _ (by decide);have hm1:c % 2147483629<2147483629:=xAgl _ (by decide);refine ⟨_,rfl,_,_,rfl,rfl,(by show (0:Int)<2147483629;decide),_,rfl,_,_,rfl,rfl,.inl ⟨by decide,by decide⟩,_,rfl,_,_,rfl,rfl,.inr ⟨by omega,by omega⟩,_,_,rfl,rfl,_,_,rfl,rfl,_,_,rfl,rfl,.inr ⟨by decide,by decide⟩,_,_,rfl,rfl,(by show (0:Int)<2147483647;decide),?_⟩;have hn0:0≤(c % 2147483629+7919 * k * k+1) * 48271 % 2147483647:=xAji _ (by decide);have hn1:(c % 2147483629+7919 * k * k+1) * 48271 % 2147483647<2147483647:=xAgl _ (by decide);refine ⟨fun σ' H'=>∃ c' n:Int,0≤c'/\0≤n/\n<2147483647/\σ'=[some (.ref sp),some (.int k),some (.int c'),some (.int n)]/\H'=H,?_,?_⟩
 ·refine ⟨fun b H'=>H'=H,?_,?_⟩
  ·refine ⟨_,rfl,sp,ns,0,rfl,hs,by decide,fun c1=>?_⟩
   refine ⟨_,_,rfl,rfl,(by show (0:Int)<2;decide),rfl,_,rfl,?_⟩
   by_cases h2:V.int (c1 % 2)=.int 1
   ·exact itT (decide_eq_true h2) rfl
   ·refine itF (decide_eq_false h2) ?_
    exact ⟨_,rfl,_,_,rfl,rfl,⟨by decide,by decide,by decide⟩,_,_,rfl,rfl,_,rfl,rfl⟩
  ·rintro b H' rfl
   cases b with
   | true=>exact itT rfl ⟨0,_,by decide,hn0,hn1,rfl,rfl⟩
   | false=>exact itF rfl ⟨c,_,hc,hn0,hn1,rfl,rfl⟩
 clear hn0 hn1;rintro σ' H' ⟨c',n,hc',hn0,hn1,rfl,rfl⟩;refine ⟨_,rfl,_,rfl,_,rfl,_,_,rfl,rfl,.inl ⟨by omega,by omega⟩,_,_,rfl,rfl,(by show (0:Int)<2147483629;decide),szOk rfl,fun p H1 g s e=>kk H1 p _ _ s g e ⟨hc',xAji _ (by decide),?_⟩⟩;have:=xAgl (n * n) (show (0:Int)<2147483629 by decide);omega
theorem ok_fAh (T:Txt K mg d tk) (gfAm:FnOk P w K mg base CX0 1 d.fAm d.fAmd ["_law_facts_here"] (sp_fAm K)):FnOk P w K mg base CX0 2 d.fAh d.fAhd ["_law_facts_here","_law_one","_law_part"] (sp_fAh K):=by
 refine T.F_fAh.ok xArq (fun vs H Q E h=>xAus h) (fun cdv A outer s H vs Q E hr h=>?_);have hu:(A.deeper (envOfC "_law_beneath" (defScope s_fAh) s.heap.objs.size d.fAh cdv)).units<cLine:=hr.units0;refine ⟨_,(@xAac _ _ _ _ _ (@xAak _ _ (3) _ _ _ _ xArq.nd rfl (Or.inl rfl) (@xAai _ _ _ _ _ _ _ _ _ _ _ _ _ _ _ _ gfAm (hr.mono (by decide)) rfl T.m_fAm T.k_fAm T.d_fAm .nil pass0 (@xAaa _ _ _ _ _ (@pq _ 0 _ _ rfl) (@xAaf _) rfl) (by decide) rfl rfl) rfl (.inl rfl)) (@xAac _ _ _ _ _ (@xAdk _ _ _ _ _ _ PassesOwn.never (@PW.pt _ _ _ (@xAgg _ _ _ _ _ _ _ (@xAam _ _ _ _ _ _ _ _ (xAfy (hu2 hr)) (@pq _ 1 _ _ rfl) (@pq _ 3 _ _ rfl) rfl) (@xAdj _ _ _ _ (@xAam _ _ _ _ _ _ _ _ (xAkq (hu64 hr)) (@pq _ 1 _ _ rfl) (@pq _ 2 _ _ rfl) (xAbb _))))) (@xAag _ _ _ (@xAak _ _ (1) _ _ _ _ xArq.nd rfl (Or.inl rfl) (@pe_ix _ _ _ _ _ _ _ xAdd (@xAau _ _ _ _ _ _ (hu2 hr) (@pq _ 3 _ _ rfl) (@pq _ 1 _ _ rfl) (fun _ _=>rfl)) (@xAah _ _ _ _) (fun _ _=>rfl)) rfl (.inl rfl)))) (@xAag _ _ _ (@xAat _ _ _ _ (@xAhk _ _ _ _ _ _ _ _ (xAep (hu64 hr)) (@pq _ 1 _ _ rfl) (@pq _ 2 _ _ rfl) (xAbb _)))))),?_⟩;exact h.2.elim
theorem ok_fAi (T:Txt K mg d tk) (gfAm:FnOk P w K mg base CX0 1 d.fAm d.fAmd ["_law_facts_here"] (sp_fAm K)):FnOk P w K mg base CX0 2 d.fAi d.fAid ["_law_facts_here"] (sp_fAi K):=by
 refine T.F_fAi.ok xAda (fun vs H Q E h=>xAut h) (fun cdv A outer s H vs Q E hr h=>?_);have hu:(A.deeper (envOfC "_law_stands" (defScope s_fAi) s.heap.objs.size d.fAi cdv)).units<cLine:=hr.units0;refine ⟨_,(@xAac _ _ _ _ _ (@xAak _ _ (1) _ _ _ _ xAda.nd rfl (Or.inr rfl) (@xAai _ _ _ _ _ _ _ _ _ _ _ _ _ _ _ _ gfAm (hr.mono (by decide)) rfl T.m_fAm T.k_fAm T.d_fAm .nil pass0 (@xAaa _ _ _ _ _ (@pq _ 0 _ _ rfl) (@xAaf _) rfl) (by decide) rfl rfl) rfl (.inl rfl)) (@xAac _ _ _ _ _ (@xAak _ _ (2) _ _ _ _ xAda.nd rfl (Or.inl rfl) (@xAcs _ _) rfl (.inl rfl)) (@xAac _ _ _ _ _ (@xAcd _ _ _ _ _ _ _ _ PassesOwn.never rfl (@xAco _ _ _ _ (@pv _ 1 _ _ rfl (Or.inr (Or.inl rfl)) rfl rfl)) (@xAal _ _ (3) _ xAda.nd rfl (Or.inl rfl) (.inl rfl)) (@xAag _ _ _ (@xAbj _ _ _ _ _ _ _ _ _ (hu2 hr) (@pq _ 2 _ _ rfl) (@pq _ 3 _ _ rfl) (@pe_ix _ _ _ _ _ _ _ xAdd (@xAau _ _ _ _ _ _ (hu2 hr) (@pv _ 1 _ _ rfl (Or.inr (Or.inl rfl)) rfl rfl) (@pq _ 3 _ _ rfl) (fun _ _=>rfl)) (@xAah _ _ _ _) (fun _ _=>rfl)) rfl)) (by intro _;rfl)) (@xAac _ _ _ _ _ (@xAcd _ _ _ _ _ _ _ _ PassesOwn.never rfl (@xAco _ _ _ _ (@pv _ 1 _ _ rfl (Or.inr (Or.inl rfl)) rfl rfl)) (@xAal _ _ (3) _ xAda.nd rfl (Or.inl rfl) (.inl rfl)) (@xAac _ _ _ _ _ (@xAak _ _ (4) _ _ _ _ xAda.nd rfl (Or.inl rfl) (@xAas _ _ _ _ (@xAaf _)) rfl (.inl rfl)) (@xAac _ _ _ _ _ (@xAak _ _ (5) _ _ _ _ xAda.nd rfl (Or.inl rfl) (@pq _ 3 _ _ rfl) rfl (.inl rfl)) (@xAac _ _ _ _ _ (@xAdk _ _ _ _ _ _ PassesOwn.never (@xAcm _ _ _ (@PW.pt _ _ _ (@xAgg _ _ _ _ _ _ _ (@xAam _ _ _ _ _ _ _ _ (xAfy (hu2 hr)) (@pq _ 5 _ _ rfl) (@pv _ 1 _ _ rfl (Or.inr (Or.inl rfl)) rfl rfl) rfl) (@xAdj _ _ _ _ (@xAam _ _ _ _ _ _ _ _ (xAhv (hu63 hr)) (@pq _ 5 _ _ rfl) (@pq _ 4 _ _ rfl) rfl))))) (@xAac _ _ _ _ _ (@xAbm _ _ _ _ (@pe_bm _ _ _ _ _ _ _ _ _ _ _ _ PySem.F.plainAttrs_list PySem.F.slot_list_append PySem.F.type_list_append xAay (@pq _ 4 _ _ rfl) (@xAaa _ _ _ _ _ (@pq _ 5 _ _ rfl) (@xAaf _) rfl) rfl rfl rfl rfl rfl) rfl) (@xAag _ _ _ (@xAak _ _ (5) _ _ _ _ xAda.nd rfl (Or.inl rfl) (@pe_ix _ _ _ _ _ _ _ xAdd (@xAau _ _ _ _ _ _ (hu2 hr) (@pv _ 1 _ _ rfl (Or.inr (Or.inl rfl)) rfl rfl) (@pq _ 5 _ _ rfl) (fun _ _=>rfl)) (@xAah _ _ _ _) (fun _ _=>rfl)) rfl (.inl rfl))))) (@xAac _ _ _ _ _ (@xAkl _ (6) _ _ _ _ _ _ _ _ _ (["_law_one"]) ([("_law_outers_here",1)]) _ _ _ _ _ xAda.nd rfl (Or.inl rfl) rfl (@xAbf _ _ _ _ (@pq _ 4 _ _ rfl)) ⟨rfl,by decide +kernel,by decide +kernel⟩ (xAdm (defScope s_fAi) ["_law_facts_here","_law_outers_here","_law_told","_law_part","_law_around","_law_here","_law_keys","_law_found"] rfl rfl (fun _ h=>xAbw h) (by decide +kernel) (by decide +kernel) (by decide +kernel)) (fun _ _ _=>(@xAal _ _ (0) _ (by show List.Nodup (["_law_one","_law_outers_here"]:List Str);decide +kernel) rfl (Or.inl rfl) (.inr rfl))) (fun _=>xAbd rfl) (fun _ _ _=>(@xAcl _)) (fun _ _ _=>(@pe_ix _ _ _ _ _ _ _ (xAcp (K:=K) rfl) (@xAau _ _ _ _ _ _ (hu2 hr) (@pv _ 1 _ _ rfl (Or.inr (Or.inl rfl)) rfl rfl) (@pq _ 0 _ _ rfl) (fun _ _=>rfl)) (@xAah _ _ _ _) (fun _ _=>rfl))) (by intro _;rfl) rfl (.inl rfl)) (@xAag _ _ _ (@ps_if _ _ _ _ _ _ _ _ (@xAcm _ _ _ (@PW.pt _ _ _ (@xAgg _ _ _ _ _ _ _ (@xAam _ _ _ _ _ _ _ _ (xAep (hu64 hr)) (@pq _ 5 _ _ rfl) (@pq _ 3 _ _ rfl) (xAbb _)) (@xAdj _ _ _ _ (@xAam _ _ _ _ _ _ _ _ (xAep (hu64 hr)) (@xAaz _ _ _ _ _ _ _ _ _ (xAoa rfl (hu61 hr)) rfl T.b_max boot_max (@xAaa _ _ _ _ _ (@pq _ 6 _ _ rfl) (@xAaf _) rfl) (by decide) (by decide) rfl rfl) (@pe_ix _ _ _ _ _ _ _ xAdd (@xAau _ _ _ _ _ _ (hu2 hr) (@pv _ 1 _ _ rfl (Or.inr (Or.inl rfl)) rfl rfl) (@pq _ 3 _ _ rfl) (fun _ _=>rfl)) (@xAah _ _ _ _) (fun _ _=>rfl)) (xAbb _)))))) (@xAag _ _ _ (@xAbj _ _ _ _ _ _ _ _ _ (hu2 hr) (@pq _ 2 _ _ rfl) (@pq _ 3 _ _ rfl) (@xAao _ _ _ _ _ (@xAaa _ _ _ _ _ (@xAar _ _ _ _) (@xAaa _ _ _ _ _ (@xAah _ _ _ _) (@xAaf _) rfl) rfl)) rfl)) (@xAav _))))))) (by intro _;rfl)) (@xAac _ _ _ _ _ (@xAak _ _ (7) _ _ _ _ xAda.nd rfl (Or.inl rfl) (@xAcs _ _) rfl (.inl rfl)) (@xAac _ _ _ _ _ (@xAcd _ _ _ _ _ _ _ _ PassesOwn.never rfl (@xAco _ _ _ _ (@pq _ 2 _ _ rfl)) (@xAal _ _ (3) _ xAda.nd rfl (Or.inl rfl) (.inl rfl)) (@xAac _ _ _ _ _ (@xAak _ _ (5) _ _ _ _ xAda.nd rfl (Or.inl rfl) (@pq _ 3 _ _ rfl) rfl (.inl rfl)) (@xAac _ _ _ _ _ (@xAdk _ _ _ _ _ _ PassesOwn.never (@xAam _ _ _ _ _ _ _ _ (xAfy (hu2 hr)) (@pq _ 5 _ _ rfl) (@pq _ 2 _ _ rfl) rfl) (@xAag _ _ _ (@xAak _ _ (5) _ _ _ _ xAda.nd rfl (Or.inl rfl) (@xAau _ _ _ _ _ _ (hu2 hr) (@pq _ 2 _ _ rfl) (@pq _ 5 _ _ rfl) (fun _ _=>rfl)) rfl (.inl rfl)))) (@xAac _ _ _ _ _ (@xAbj _ _ _ _ _ _ _ _ _ (hu2 hr) (@pq _ 7 _ _ rfl) (@pq _ 3 _ _ rfl) (@xArt _ _ _) rfl) (@xAag _ _ _ (@ps_if _ _ _ _ _ _ _ _ (@xAam _ _ _ _ _ _ _ _ (xAep (hu64 hr)) (@pq _ 5 _ _ rfl) (@xAao _ _ _ _ _ (@xAaa _ _ _ _ _ (@xAar _ _ _ _) (@xAaa _ _ _ _ _ (@xAah _ _ _ _) (@xAaf _) rfl) rfl)) (xAbb _)) (@xAag _ _ _ (@xAbj _ _ _ _ _ _ _ _ _ (hu2 hr) (@pq _ 7 _ _ rfl) (@pq _ 3 _ _ rfl) (@xAau _ _ _ _ _ _ (hu2 hr) (@pq _ 2 _ _ rfl) (@pq _ 3 _ _ rfl) (fun _ _=>rfl)) rfl)) (@xAav _)))))) (by intro _;rfl)) (@xAag _ _ _ (@xAat _ _ _ _ (@pq _ 7 _ _ rfl))))))))),?_⟩;obtain ⟨fa,es,rs,rfl,fq,kk⟩:=h;have W:=fq.xw;have Wa:=xAfg W;have hfew:=W.few;refine ⟨_,rfl,fa,es,rs,rfl,fq,fun H1 oa ko s1 g1 e1 ak1=>?_⟩;generalize hxs:tl rs=xs at W Wa hfew ak1 kk;clear hxs;intro td H2 g2 s2 e2;have e12:=s2 _ _ e1;have ndo:td≠oa:=(xAab e1 g2).symm;refine ⟨_,rfl,oa,ko,rfl,.inl ⟨e12,fun o=>?_⟩⟩;have sY:Same H (upd H2 oa (.frz o (.dG ko))):=(s1.trans s2).wr g1;have tY:Tups H2 (upd H2 oa (.frz o (.dG ko))):=Tups.wd e12;have eY:(upd H2 oa (.frz o (.dG ko))) oa=some (.frz o (.dG ko)):=xAad
 have etY:(upd H2 oa (.frz o (.dG ko))) td=some (.dG []):=by rw [xAae ndo];exact e2
 have gtd:H td=none:=s1.free g2;generalize upd H2 oa (.frz o (.dG ko))=Y at sY tY eY etY;have aY:=ak1.imp fun e x q=>q.imp (R':=O3 Y) (s2.tups.trans tY) fun r=>r.tups (s2.tups.trans tY);refine xAca (fun j σ X=>∃ (kt:List (KD×V×V)) (u3:Option V),σ=[some (.ref fa),some (.ref oa),some (.ref td),u3,none,none,none,none]/\Same (del Y td) X/\X td=some (.dG kt)/\AL (EK (OuR X) X) kt (xs.take j)) ⟨[],none,rfl,(fun b u e=>xAbp _ _ e),etY,.nil⟩ (fun j σ X ⟨_,_,_,s,_⟩=>s _ _ (by rw [xAaj ndo.symm];exact eY)) ?_ ?_
 ·rintro j e σ X hx ⟨kt,u3,rfl,sX,eX,ak⟩
  have tX:Tups Y X:=xAbl etY (fun ys z=>nomatch z) sX;obtain ⟨r,hr,p1,p2,p3⟩:=aY.at hx;have hjl:j<xs.length:=(qv.mp hr).1;have eoX:X oa=some (.frz o (.dG ko)):=sX _ _ (by rw [xAaj ndo.symm];exact eY);obtain ⟨b,vo,vn,kq,hbv,h1,h3,h5⟩:=p3.tups tX;have hvg:=xAdr (xAcz aY W.nd) hx p1;rw [hbv] at hvg;have gp:=p2.tups tX;refine ⟨_,rfl,_,rfl,oa,ko,.tup r.pt,.ref b,rfl,.inr ⟨o,eoX⟩,gp,hvg,b,_,0,vo,rfl,rfl,SqT.of h1,rfl,?_⟩;refine ⟨_,rfl,_,rfl,td,kt,.tup r.pt,rfl,eX,gp,huge (by rw [ak.1,zo];omega),?_⟩
  have hnew:r.pt∉(xs.take j).map (·.pt):=fun z=>by
   have hn:=W.nd
   have e1:xs=xs.take j++r::xs.drop (j+1):=by
    have:=yq j xs;rw [z9 hjl] at this;rw [← Option.some.inj ((qe hjl).symm.trans hr)];exact this.symm
   rw [e1,zg,qz] at hn;exact (zp.mp hn).2.2 r.pt z r.pt qh rfl
  have aP:=xAgb (R:=OuR X) (y:=e.2.1) (v:=vo) ak (W.nd.sublist ((vg j xs).map _)) gp h3;rw [xAhe hnew] at aP;refine ⟨_,_,rfl,sX.wr xAbk,xAad,?_⟩;rw [zd,hr];exact aP.imp fun e x q=>q.imp (Tups.wd eX) fun r=>r.tups (Tups.wd eX)
 rintro σ X ⟨kt,u3,rfl,sX,eX,ak⟩;rw [aY.1,zh] at ak;refine ⟨_,rfl,oa,ko,rfl,.inr ⟨o,sX _ _ (by rw [xAaj ndo.symm];exact eY),?_⟩⟩;refine xAca (fun j σ X=>∃ (kt:List (KD×V×V)) (u3 u4 u5 u6:Option V),σ=[some (.ref fa),some (.ref oa),some (.ref td),u3,u4,u5,u6,none]/\Same (del Y td) X/\X td=some (.dG kt)/\AL (EK (OuR X) X) kt ((xs.take j).map (opW (TopX xs))++xs.drop j)) ⟨kt,u3,none,none,none,rfl,sX,eX,by rw [List.take_zero,List.drop_zero];exact ak⟩ (fun j σ X ⟨_,_,_,_,_,_,s,_⟩=>s _ _ (by rw [xAaj ndo.symm];exact eY)) ?_ ?_
 ·rintro j e σ X hx ⟨kt,u3,u4,u5,u6,rfl,sX,eX,ak⟩
  have tX:Tups Y X:=xAbl etY (fun ys z=>nomatch z) sX;obtain ⟨r,hr,p1,p2,p3⟩:=aY.at hx;have hjl:j<xs.length:=(qv.mp hr).1;have hrm:=qo hr;have gp:=p2.tups tX;have eoX:X oa=some (.frz o (.dG ko)):=sX _ _ (by rw [xAaj ndo.symm];exact eY);refine ⟨szOk rfl,fun ra X1 gr sr er=>?_⟩;refine ⟨_,rfl,?_⟩
  refine ⟨fun m σ Z=>∃ (ini:List (List Key)) (las:List Key) (ws:List V) (vh:V),σ=[some (.ref fa),some (.ref oa),some (.ref td),some e.2.1,some (.ref ra),some vh,u6,none]/\Same (del X1 ra) Z/\Z ra=some (.lst ws)/\AL (NmK Z) ws ini/\GK Z (.tup las) vh/\WQ (gX xs) r.pt ini las/\(∀ k∈ini++[las],Pn k)/\m=102 - ini.length,
   ⟨102,[],r.pt,[],e.2.1,rfl,(fun b u e=>xAbp _ _ e),er,.nil,gp.tups sr.tups,.one,(fun k hk=>by rw [qj.mp hk];exact .inr (W.w r hrm).pt),rfl⟩,?_⟩
  rintro m σ Z ⟨ini,las,ws,vh,rfl,sZ,eZ,aZ,gh,wq,hpns,rfl⟩;have hfit:=wq.fits;have tZ:Tups X1 Z:=Tups.cut er sZ;have tYZ:=(tX.trans sr.tups).trans tZ;have aZo:=aY.imp fun e x q=>q.imp (R':=O3 Z) tYZ fun r=>r.tups tYZ;have nro:oa≠ra:=xAab eoX gr;have ntr:td≠ra:=xAab eX gr;have eoZ:Z oa=some (.frz o (.dG ko)):=sZ _ _ (by rw [xAaj nro];exact sr _ _ eoX);have etZ:Z td=some (.dG kt):=sZ _ _ (by rw [xAaj ntr];exact sr _ _ eX);have llas:Pn las:=hpns las (zj _ (qj.mpr rfl));have hpi:∀ k∈ini,Pn k:=fun k hk=>hpns k (z6 _ hk);refine ⟨fun b Z1=>Z1=Z/\(b=true->gX xs las≠none/\las∉ini)/\(b=false->las∈ini\/gX xs las=none),?_,?_⟩
  ·refine ⟨_,rfl,_,rfl,oa,ko,.tup las,rfl,.inr ⟨o,eoZ⟩,gh,_,rfl,?_⟩
   rw [if_neg (by decide),xArf aZo W.nd]
   cases hg:gX xs las with
   | none=>exact itF rfl ⟨rfl,(fun z=>by cases z),fun _=>.inr rfl⟩
   | some q =>
    refine itT rfl ?_;refine ⟨_,rfl,_,rfl,tD las,ra,_,ws,(gk_td gh).dv,rfl,.inl (SqL.of eZ),(xAbv aZ).dv,llas.lay,(xAei hpi).1,qk (xAbt las) (by decide),_,rfl,?_⟩;rw [if_pos rfl]
    have hany:((ini.map tD).any fun d=>PyData.eqv d (tD las))=true↔las∈ini:=by
     rw [wg];constructor
     ·rintro ⟨d,hd,q⟩
      obtain ⟨k,hk,rfl⟩:=qd.mp hd;rw [xAdf] at q;rw [← of_decide_eq_true q];exact hk
     ·intro h
      exact ⟨tD las,qd.mpr ⟨las,h,rfl⟩,by rw [xAdf];exact decide_eq_true rfl⟩
    refine ⟨rfl,fun z=>⟨(fun y=>nomatch y),fun y=>?_⟩,fun z=>.inl (hany.mp ?_)⟩
    ·rw [hany.mpr y] at z;cases z
    ·cases q:((ini.map tD).any fun d=>PyData.eqv d (tD las)) with
     | true=>rfl
     | false=>rw [q] at z;cases z
  rintro b Z1 ⟨rfl,hT,hF⟩
  cases b with
  | true =>
   refine itT rfl ?_;obtain ⟨hg,hni⟩:=hT rfl;obtain ⟨q,hq⟩:=v4.mp hg;obtain ⟨x,hx',ex,eo⟩:=gX_in hq;obtain ⟨v',hv',b',vo,vn,kq,rfl,h1,h3,h5⟩:=xAcb aZo W.nd hx';rw [ex] at hv';rw [eo] at h3;refine ⟨fun σ' Z'=>∃ m',m'<102 - ini.length/\∃ (ini:List (List Key)) (las:List Key) (ws:List V) (vh:V),σ'=[some (.ref fa),some (.ref oa),some (.ref td),some e.2.1,some (.ref ra),some vh,u6,none]/\Same (del X1 ra) Z'/\Z' ra=some (.lst ws)/\AL (NmK Z') ws ini/\GK Z' (.tup las) vh/\WQ (gX xs) r.pt ini las/\(∀ k∈ini++[las],Pn k)/\m'=102 - ini.length,fun _ _ z=>z,?_⟩;refine ⟨_,rfl,.inl ⟨rfl,_,SqL.of eZ⟩,_,rfl,ra,ws,_,rfl,rfl,eZ,huge (by rw [aZ.1];omega),?_⟩;have tw:Tups Z1 (upd Z1 ra (.lst (ws++[vh]))):=Tups.wl eZ
   have eoW:(upd Z1 ra (.lst (ws++[vh]))) oa=some (.frz o (.dG ko)):=by rw [xAae nro];exact eoZ
   refine ⟨_,rfl,_,rfl,oa,ko,.tup las,.ref b',rfl,.inr ⟨o,eoW⟩,gh.tups tw,hv',b',_,0,vo,rfl,rfl,SqT.of (tw _ _ h1),rfl,?_⟩;have wq':=wq.on hq hni;have hfit':=wq'.fits;rw [qg,ql] at hfit';refine ⟨102 - (ini.length+1),by omega,ini++[las],q,ws++[vh],vo,rfl,sZ.wr xAbk,xAad,(aZ.imp fun v k z=>NmK.tups z tw).snoc (gh.tups tw),h3.tups tw,wq',fun k hk=>?_,by rw [qg,ql]⟩;rcases qw.mp hk with z | z
   ·exact hpns k z
   ·rw [qj.mp z];exact W.pn hq
  | false =>
   refine itF rfl ?_;have wo:=wq.stop (hF rfl);have hdom:∀ a∈ini,hp xs a=true:=fun a ha=>gX_hp.mp (wo.dom ha);have hself:=wo.self (lt:=ltX xs) (gX_hp.mpr (xAbq.mpr (qd.mpr ⟨r,hrm,rfl⟩)));refine ⟨_,rfl,ra,rfl,⟨_,SqL.of eZ⟩,xAfs (xs:=ws) (big (by rw [aZ.1];omega)) (fun i zs H'=>H'=Z1/\∃ ps:List Pc,DTs Z1 zs ((ps.map fun x=>[x.ka,x.kb]).map fun ns=>.tuple (ns.map PyData.int))/\AL (fun x k=>x∈xs/\x.pt=k) ps (ini.take i)) ⟨rfl,[],.nil,.nil⟩ (fun _ _ H' s'=>by rw [s'.1];exact SqL.of eZ) (fun i y zs H' K1 K0 hy s' k1 k0=>?_) fun H' kl zs s' hy hq=>?_⟩
   ·obtain ⟨rfl,ps,dz,ap⟩:=s'
    obtain ⟨k,hk,gy⟩:=aZ.at hy;obtain ⟨x,hx',ex⟩:=qd.mp (xAbq.mp (hdom k (qo hk)));obtain ⟨v',hv',b',vo,vn,kq,rfl,h1,h3,h5⟩:=xAcb aZo W.nd hx';rw [← ex] at gy;refine iteT (B:=K0 H') ?_;refine ⟨_,rfl,_,rfl,oa,ko,.tup x.pt,.ref b',rfl,.inr ⟨o,eoZ⟩,gy,hv',b',_,2,.ref kq,rfl,rfl,SqT.of h1,rfl,k1 _ _ ⟨rfl,ps++[x],?_,?_⟩⟩
    ·rw [zg,zg]
     exact xAhb (.tup h5 (.cons (.int _) (.cons (.int _) .nil))) dz
    ·rw [zd,hk]
     exact ap.snoc ⟨hx',ex⟩
   obtain ⟨rfl,ps,dz,ap⟩:=s';rw [aZ.1,zh] at ap;have nH:Same H' (upd H' kl (.lst zs)):=Same.new hq;have ekl:(upd H' kl (.lst zs)) kl=some (.lst zs):=xAad;generalize upd H' kl (.lst zs)=Z2 at nH ekl
   have hzl:zs.length=ini.length:=by
    have h1:=xApc dz;rw [qf,qf] at h1;rw [h1,ap.1]
   have tZ2:=tYZ.trans nH.tups;have aZ2:=aY.imp fun e x q=>q.imp (R':=O3 Z2) tZ2 fun r=>r.tups tZ2;have eoZ2:=nH _ _ eoZ;have etZ2:=nH _ _ etZ;have gp2:=p2.tups tZ2;refine ⟨fun b Z3=>Z3=Z2/\(b=true↔TopX xs r.pt),?_,?_⟩
   ·refine ⟨_,rfl,_,rfl,tD las,tD r.pt,(gk_td (gh.tups nH.tups)).dv,(gk_td gp2).dv,llas.lay,(W.w r hrm).pt.lay,qk (zq _ _) (qk (xAbt las) (by decide)),_,rfl,?_⟩
    rw [if_neg (by decide),xAdf]
    by_cases hlr:las=r.pt
    ·refine itT (decide_eq_true hlr) ?_
     have hin:r.pt∈ini:=by
      rcases wo.en with z | ⟨_,z | z⟩
      ·rw [← hlr];exact z
      ·rw [hlr] at z
       exact absurd z (gX_hp.mpr (xAbq.mpr (qd.mpr ⟨r,hrm,rfl⟩)))
      ·exact z.elim
     have hil:0<ini.length:=List.length_pos_of_mem hin;refine ⟨_,rfl,kl,zs,ps.map fun x=>[x.ka,x.kb],rfl,SqL.of ekl,(dz.tups nH.tups).dv,by omega,fun mi v ns hv hns hmax=>?_⟩;rw [qu] at hns;obtain ⟨x,hxp,rfl⟩:=zt.mp hns;obtain ⟨kx,hkx,hxx,exx⟩:=ap.at hxp;have dtv:=xApm (dz.tups nH.tups) hv (d:=.tuple [.int x.ka,.int x.kb]) (by rw [qu,qu,hxp];rfl);obtain ⟨b',vo,vn,kq,hbv,h1,h3,h5⟩:=(aZ2.2 j e r hx hr).2.2;have hvg:=xAdr (xAcz aZ2 W.nd) hx p1;rw [hbv] at hvg;refine ⟨_,rfl,_,rfl,oa,ko,.tup r.pt,.ref b',rfl,.inr ⟨o,eoZ2⟩,gp2,hvg,b',_,2,.ref kq,rfl,rfl,SqT.of h1,rfl,.tuple [.int x.ka,.int x.kb],.tuple [.int r.ka,.int r.kb],dtv.dv,.tup (SqT.of h5) (.cons (.int _) (.cons (.int _) .nil)),rfl,rfl,vd rfl,_,rfl,rfl,?_⟩;rw [if_neg (by decide),xArh,decide_eq_true_iff];rw [xAtp W hrm hin hdom hxx (by rw [exx];exact qo hkx) fun y hy hyi=>?_]
     ·exact ⟨fun h=>hself.mpr ⟨hlr,h⟩,fun h=>(hself.mp h).2⟩
     ·intro hlt
      obtain ⟨y',hy',hyx,eyy⟩:=ap.mem' hyi
      have e3:y'=y:=by
       rcases W.tri y' hyx y hy with z | z | z
       ·exact z
       ·have f1:=fX_of W.nd hyx
        have f2:=fX_of W.nd hy;rw [eyy,f2] at f1;exact (Option.some.inj f1).symm
       ·have f1:=fX_of W.nd hyx
        have f2:=fX_of W.nd hy;rw [eyy,f2] at f1;exact (Option.some.inj f1).symm
      have:=hmax [y.ka,y.kb] (qd.mpr ⟨y',hy',by rw [e3]⟩);rw [show ltD (.tuple ([x.ka,x.kb].map PyData.int)) (.tuple ([y.ka,y.kb].map PyData.int))=true from lt2_D hlt] at this;cases this
    ·refine itF (decide_eq_false hlr) ⟨rfl,⟨(fun z=>by cases z),fun z=>absurd (hself.mp z).1 hlr⟩⟩
   rintro b Z3 ⟨rfl,hb⟩
   have sYZ:Same (del Y td) Z3:=fun b u e=>by
    have e1:=sr _ _ (sX _ _ e);refine nH _ _ (sZ _ _ ?_);rw [xAaj (fun z=>?_)]
    ·exact e1
    ·subst z
     have:=sX _ _ e;rw [gr] at this;cases this
   have tXZ:=(sr.tups.trans tZ).trans nH.tups;have akZ:=ak.imp fun e x q=>q.imp (R':=OuR Z3) tXZ fun r=>r.tups tXZ
   have edr:xs.drop j=r::xs.drop (j+1):=by
    rw [z9 hjl,Option.some.inj ((qe hjl).symm.trans hr)]
   have etk:(xs.take (j+1)).map (opW (TopX xs))++xs.drop (j+1)=(xs.take j).map (opW (TopX xs))++opW (TopX xs) r::xs.drop (j+1):=by
    rw [zd,hr,zg,yf];rfl
   rw [edr] at akZ
   cases b with
   | false =>
    refine itF rfl ?_;refine ⟨kt,_,_,_,_,rfl,sYZ,etZ2,?_⟩;rw [etk,xArd (fun z=>absurd (hb.mpr z) qm)];exact akZ
   | true =>
    refine itT rfl ?_;refine ⟨szOk rfl,fun tm Z4 g4 s4 e4=>?_⟩;have etZ4:=s4 _ _ etZ2;refine ⟨_,rfl,_,rfl,td,kt,.tup r.pt,rfl,etZ4,gp2.tups s4.tups,huge (by rw [akZ.1,qg,qf,qx,zo,zr];omega),?_⟩
    have hn:(((xs.take j).map (opW (TopX xs))++r::xs.drop (j+1)).map (·.pt)).Nodup:=by
     rw [zg,xAiu,← zg,← edr,yq];exact W.nd
    have ak4:=akZ.imp fun e x q=>q.imp (R':=OuR Z4) s4.tups fun r=>r.tups s4.tups;have eop:opW (TopX xs) r={ r with ou:=mainK }:=xAmi (hb.mp rfl);have aP:=xAgb (r:=opW (TopX xs) r) (y:=e.2.1) (v:=.ref tm) ak4 hn (by rw [xAff];exact gp2.tups s4.tups) (by rw [eop];exact ⟨tm,rfl,e4⟩);rw [xAff,xAtm (xAff r) hn,← etk] at aP;exact ⟨_,_,_,_,_,rfl,(sYZ.trans s4).wr xAbk,xAad,aP.imp fun e x q=>q.imp (Tups.wd etZ4) fun r=>r.tups (Tups.wd etZ4)⟩
 rintro σ X ⟨kt,u3,u4,u5,u6,rfl,sX,eX,ak⟩;rw [aY.1,zh,List.drop_length,we] at ak;have ak:AL (EK (OuR X) X) kt (opn xs):=ak
 have sHX:Same H X:=fun b u e=>sX _ _ (by rw [xAaj (xAab e gtd)];exact sY _ _ e)
 clear sX aY;intro fd X1 gf sf ef;have eX1:=sf _ _ eX;have nft:fd≠td:=(xAab eX gf).symm;have gfd:H fd=none:=sHX.free gf;refine ⟨_,rfl,td,kt,rfl,.inl ⟨eX1,fun o2=>?_⟩⟩;have sT:Same H (upd X1 td (.frz o2 (.dG kt))):=(sHX.trans sf).wr gtd;have tT:Tups X1 (upd X1 td (.frz o2 (.dG kt))):=Tups.wd eX1;have eT:(upd X1 td (.frz o2 (.dG kt))) td=some (.frz o2 (.dG kt)):=xAad
 have efT:(upd X1 td (.frz o2 (.dG kt))) fd=some (.dG []):=by rw [xAae nft];exact ef
 generalize upd X1 td (.frz o2 (.dG kt))=U at sT tT eT efT;have aU:=ak.imp fun e x q=>q.imp (R':=OuR U) (sf.tups.trans tT) fun r=>r.tups (sf.tups.trans tT);have hol:(opn xs).length≤100:=Wa.few;generalize hys:opn xs=ys at aU Wa hol kk;clear hys ak;refine xAca (fun j σ Z=>∃ (kf:List (KD×V×V)) (u3 u5:Option V),σ=[some (.ref fa),some (.ref oa),some (.ref td),u3,u4,u5,u6,some (.ref fd)]/\Same (del U fd) Z/\Z fd=some (.dG kf)/\AL (EK (StR ys Z) Z) kf (ys.take j)) ⟨[],u3,u5,rfl,(fun b u e=>xAbp _ _ e),efT,.nil⟩ (fun j σ Z ⟨_,_,_,_,s,_⟩=>s _ _ (by rw [xAaj nft.symm];exact eT)) ?_ ?_
 ·rintro j e σ Z hx ⟨kf,u3,u5,rfl,sZ,eZ,akf⟩
  have tZ:Tups U Z:=xAbl efT (fun ys z=>nomatch z) sZ;obtain ⟨r,hr,p1,p2,p3⟩:=aU.at hx;have hjl:j<ys.length:=(qv.mp hr).1;have hrm:=qo hr;have gp:=p2.tups tZ;have aZ:=aU.imp fun e x q=>q.imp (R':=OuR Z) tZ fun r=>r.tups tZ;have etZ:Z td=some (.frz o2 (.dG kt)):=sZ _ _ (by rw [xAaj nft.symm];exact eT);refine ⟨_,rfl,?_⟩;refine ⟨fun m σ Z'=>∃ (ini:List (List Key)) (las:List Key) (vh:V),σ=[some (.ref fa),some (.ref oa),some (.ref td),some e.2.1,u4,some vh,u6,some (.ref fd)]/\Z'=Z/\GK Z (.tup las) vh/\WQ (gX ys) r.pt ini las/\Pn las/\m=102 - ini.length,⟨102,[],r.pt,e.2.1,rfl,rfl,gp,.one,.inr (Wa.w r hrm).pt,rfl⟩,?_⟩;rintro m σ Z' ⟨ini,las,vh,rfl,rfl,gh,wq,hpl,rfl⟩;have hfit:=wq.fits;refine ⟨_,rfl,_,rfl,td,kt,.tup las,rfl,.inr ⟨o2,etZ⟩,gh,_,rfl,?_⟩;rw [if_neg (by decide),xArf aZ Wa.nd]
  cases hg:gX ys las with
  | some q =>
   refine itT rfl ?_;obtain ⟨v',hv',gv'⟩:=al_g aZ Wa.nd hg;have wq':=wq.on hg (wq.las_no Wa);have hfit':=wq'.fits;rw [qg,ql] at hfit';refine ⟨fun σ' H'=>∃ m',m'<102 - ini.length/\∃ (ini:List (List Key)) (las:List Key) (vh:V),σ'=[some (.ref fa),some (.ref oa),some (.ref td),some e.2.1,u4,some vh,u6,some (.ref fd)]/\H'=Z'/\GK Z' (.tup las) vh/\WQ (gX ys) r.pt ini las/\Pn las/\m'=102 - ini.length,fun _ _ z=>z,?_⟩;exact ⟨_,rfl,_,rfl,td,kt,.tup las,v',rfl,.inr ⟨o2,etZ⟩,gh,hv',102 - (ini.length+1),by omega,ini++[las],q,v',rfl,rfl,gv',wq',Wa.pn hg,by rw [qg,ql]⟩
  | none =>
   refine itF rfl ?_;have hcm:=wq.comes Wa hg;have hnd:((ys.take j).map (·.pt)).Nodup:=Wa.nd.sublist ((vg j ys).map _)
   have hnew:r.pt∉(ys.take j).map (·.pt):=fun z=>by
    have hn:=Wa.nd
    have e1:ys=ys.take j++r::ys.drop (j+1):=by
     have:=yq j ys;rw [z9 hjl] at this;rw [← Option.some.inj ((qe hjl).symm.trans hr)];exact this.symm
    rw [e1,zg,qz] at hn;exact (zp.mp hn).2.2 r.pt z r.pt qh rfl
   have hvn:vG kf (.tup r.pt)=none:=xApo akf hnew
   have etk:ys.take (j+1)=putP (ys.take j) r:=by rw [xAhe hnew,zd,hr];rfl
   have hkl:kf.length≤100:=by rw [akf.1,zo];omega
   refine ⟨_,rfl,_,rfl,fd,kf,.tup r.pt,rfl,eZ,gp,huge (by omega),?_⟩;have s1:Same (del U fd) (upd Z' fd (.dG (pG kf (.tup r.pt) e.2.1 .non))):=sZ.wr xAbk;have t1:Tups Z' (upd Z' fd (.dG (pG kf (.tup r.pt) e.2.1 .non))):=Tups.wd eZ;have ef1:(upd Z' fd (.dG (pG kf (.tup r.pt) e.2.1 .non))) fd=some (.dG (pG kf (.tup r.pt) e.2.1 .non)):=xAad
   have et1:(upd Z' fd (.dG (pG kf (.tup r.pt) e.2.1 .non))) td=some (.frz o2 (.dG kt)):=by rw [xAae nft.symm];exact etZ
   generalize upd Z' fd (.dG (pG kf (.tup r.pt) e.2.1 .non))=Z1 at s1 t1 ef1 et1;refine ⟨_,rfl,szOk rfl,fun tm Z2 g2 s2 e2=>?_⟩;have t2:=t1.trans s2.tups;refine ⟨tD las,tD mainK,(gk_td (gh.tups t2)).dv,(gk_td (ks:=mainK) ⟨tm,rfl,e2⟩).dv,hpl.lay,xAfa,qk (zq _ _) (qk (xAbt las) (by decide)),_,rfl,?_⟩;rw [if_neg (by decide),xAdf];have ef2:=s2 _ _ ef1;have et2:=s2 _ _ et1;have akf2:=akf.imp fun e x q=>q.imp (R':=StR ys Z2) t2 fun r=>r.tups t2;have gp2:=gp.tups t2
   by_cases hl:las=mainK
   ·refine itT (decide_eq_true hl) ?_
    obtain ⟨v',hv',gv'⟩:=xAcb aZ Wa.nd hrm;refine ⟨_,rfl,_,rfl,td,kt,.tup r.pt,v',rfl,.inr ⟨o2,et2⟩,gp2,hv',?_⟩;refine ⟨_,rfl,_,rfl,fd,_,.tup r.pt,rfl,ef2,gp2,huge (by have:=xAev kf (.tup r.pt) e.2.1 .non;omega),?_⟩;rw [pG_pG hvn];have aP:=xAgb (R:=StR ys Z2) (r:=r) (y:=e.2.1) (v:=v') akf2 hnd gp2 (.inl ⟨hcm.mpr hl,GK.tups gv' t2⟩);rw [← etk] at aP;exact ⟨_,_,_,rfl,(s1.trans s2).wr xAbk,xAad,aP.imp fun e x q=>q.imp (Tups.wd ef2) fun r=>r.tups (Tups.wd ef2)⟩
   ·refine itF (decide_eq_false hl) ?_
    have aP:=xAgb (R:=StR ys Z2) (r:=r) (y:=e.2.1) (v:=.non) akf2 hnd gp2 (.inr ⟨fun z=>hl (hcm.mp z),rfl⟩);rw [← etk] at aP;exact ⟨_,_,_,rfl,s1.trans s2,ef2,aP⟩
 ·rintro σ Z ⟨kf,u3,u5,rfl,sZ,eZ,akf⟩
  rw [aU.1,zh] at akf;refine ⟨_,rfl,kk Z fd kf (fun b u e=>sZ _ _ ?_) gfd eZ akf⟩;rw [xAaj (xAab e gfd)];exact sT _ _ e
theorem ok_fAo (T:Txt K mg d tk) (gfAm:FnOk P w K mg base CX0 1 d.fAm d.fAmd ["_law_facts_here"] (sp_fAm K)):FnOk P w K mg base CX0 2 d.fAo d.fAod ["_law_facts_here","_law_stands_here","_law_seen","_law_part"] (sp_fAo K):=by
 refine T.F_fAo.ok xAoq (fun vs H Q E h=>xAuz h) (fun cdv A outer s H vs Q E hr h=>?_);have hu:(A.deeper (envOfC "_law_inner" (defScope s_fAo) s.heap.objs.size d.fAo cdv)).units<cLine:=hr.units0;refine ⟨_,(@xAac _ _ _ _ _ (@xAak _ _ (4) _ _ _ _ xAoq.nd rfl (Or.inl rfl) (@xAai _ _ _ _ _ _ _ _ _ _ _ _ _ _ _ _ gfAm (hr.mono (by decide)) rfl T.m_fAm T.k_fAm T.d_fAm .nil pass0 (@xAaa _ _ _ _ _ (@pq _ 0 _ _ rfl) (@xAaf _) rfl) (by decide) rfl rfl) rfl (.inl rfl)) (@xAac _ _ _ _ _ (@xAak _ _ (5) _ _ _ _ xAoq.nd rfl (Or.inl rfl) (@xAas _ _ _ _ (@xAaf _)) rfl (.inl rfl)) (@xAac _ _ _ _ _ (@xAcd _ _ _ _ _ _ _ _ PassesOwn.never rfl (@xAco _ _ _ _ (@pq _ 1 _ _ rfl)) (@xAal _ _ (6) _ xAoq.nd rfl (Or.inl rfl) (.inl rfl)) (@xAag _ _ _ (@ps_if _ _ _ _ _ _ _ _ (@xAcm _ _ _ (@PW.pt _ _ _ (@xAgg _ _ _ _ _ _ _ (@xAam _ _ _ _ _ _ _ _ (xAep (hu64 hr)) (@xAau _ _ _ _ _ _ (hu2 hr) (@pq _ 1 _ _ rfl) (@pq _ 6 _ _ rfl) (fun _ _=>rfl)) (@pq _ 3 _ _ rfl) (xAbb _)) (@xAdj _ _ _ _ (@xAam _ _ _ _ _ _ _ _ (xAqd (hu63 hr)) (@pq _ 6 _ _ rfl) (@pq _ 2 _ _ rfl) rfl))))) (@xAag _ _ _ (@xAbm _ _ _ _ (@pe_bm _ _ _ _ _ _ _ _ _ _ _ _ PySem.F.plainAttrs_list PySem.F.slot_list_append PySem.F.type_list_append xAay (@pq _ 5 _ _ rfl) (@xAaa _ _ _ _ _ (@xAao _ _ _ _ _ (@xAaa _ _ _ _ _ (@pe_ix _ _ _ _ _ _ _ xAdd (@xAau _ _ _ _ _ _ (hu2 hr) (@pq _ 4 _ _ rfl) (@pq _ 6 _ _ rfl) (fun _ _=>rfl)) (@xAah _ _ _ _) (fun _ _=>rfl)) (@xAaa _ _ _ _ _ (@pq _ 6 _ _ rfl) (@xAaf _) rfl) rfl)) (@xAaf _) rfl) rfl rfl rfl rfl rfl) rfl)) (@xAav _))) (by intro _;rfl)) (@xAag _ _ _ (@xAat _ _ _ _ (@xAbo _ _ _ _ _ _ _ (["_law_key_here","_law_one"]) ([]) _ _ _ _ _ rfl (@xAbf _ _ _ _ (@xAaz _ _ _ _ _ _ _ _ _ (xAdq (hu61 hr)) rfl T.b_sorted boot_sorted (@xAaa _ _ _ _ _ (@pq _ 5 _ _ rfl) (@xAaf _) rfl) (by decide) (by decide) rfl rfl)) ⟨rfl,by decide +kernel,by decide +kernel⟩ (caps0 (by decide +kernel)) (fun _ _ _=>(@xAfm _ _ _ _ _ (2) rfl (@xAaq _ _ _ _ _ (@xAal _ _ (0) _ (by show List.Nodup (["_law_key_here","_law_one"]:List Str);decide +kernel) rfl (Or.inl rfl) (.inr rfl)) (@xAaq _ _ _ _ _ (@xAal _ _ (1) _ (by show List.Nodup (["_law_key_here","_law_one"]:List Str);decide +kernel) rfl (Or.inl rfl) (.inr rfl)) (@xAdb _) rfl) rfl) rfl rfl)) (fun _=>xAcf rfl rfl (by decide)) (fun _ _ _=>(@xAcl _)) (fun _ _ _=>(@pq _ 1 _ _ rfl)) (by intro _;rfl))))))),?_⟩;obtain ⟨fa,F,bs,es,cs,rs,cu,k,da,kd,sa,sws,sls,vp,p,rfl,fb,hk,hl,hda,akd,esa,asa,hsh,gvp,hpp,kk⟩:=h;have fq:=fb.fq (by omega:k≤100);have XWt:=fq.xw;have W:=xAfg XWt;have S:=st_lw W
 have hstl:(st (opn (tl rs))).length≤62:=by unfold st;rw [qf,xAeh];exact hl
 have hspn:∀ a∈sls,Pn a:=fun a ha=>((hsh a).mp ha).pn W;refine ⟨_,rfl,fa,es,rs,rfl,fq,fun H1 oa ko s1 goa eoa ako=>?_⟩;refine ⟨szOk rfl,fun se H2 gse s2' ese=>?_⟩;have s02:=s1.trans s2';have fse:H se=none:=s1.free gse;have hda2:=Rd.same hda s02;dsimp only [gName,tSeq];refine xAml ?_;refine ⟨_,rfl,da,kd,rfl,xAiw hda2 fun o Y hY fY eY=>?_⟩
 have tY:Tups H2 Y:=fun b us e=>hY b _ (fun z=>by
  subst z
  rcases hda2 with q | ⟨o',q⟩ <;> rw [q] at e <;> cases e) e
 have nd1:oa≠da:=fun z=>by
  rw [z] at goa;rcases hda with q | ⟨o',q⟩ <;> rw [goa] at q <;> cases q
 have nd2:se≠da:=fun z=>by
  rw [z] at fse;rcases hda with q | ⟨o',q⟩ <;> rw [fse] at q <;> cases q
 have nd3:sa≠da:=fun z=>by
  rw [z] at esa;rcases hda with q | ⟨o',q⟩ <;> rw [esa] at q <;> cases q
 have eoY:=hY oa _ nd1 (s2' _ _ eoa);have eseY:=hY se _ nd2 ese;have esaY:=hY sa _ nd3 (s02 _ _ esa);have nos:oa≠se:=xAab eoa gse;have nss:sa≠se:=xAab esa fse;have tHY:=s02.tups.trans tY;have aY:=akd.imp fun e x q=>q.imp (R':=OuN Y) tHY fun r=>r.tups tHY;have aoY:=(ako.imp fun e x q=>q.imp (R':=O3 H2) s2'.tups fun r=>r.tups s2'.tups).imp fun e x q=>q.imp (R':=O3 Y) tY fun r=>r.tups tY;have asY:=asa.imp fun v k z=>NmK.tups z tHY;have gpY:=gvp.tups tHY;refine xAca (fun j σ X=>∃ (ws:List V) (u6:Option V),σ=[some (.ref fa),some (.ref da),some (.ref sa),some vp,some (.ref oa),some (.ref se),u6]/\Same (del Y se) X/\X se=some (.lst ws)/\AL (PKN X) ws (((st (opn (tl rs))).take j).filter (inq (opn (tl rs)) cu p))) ⟨[],none,rfl,(fun b u e=>xAbp _ _ e),eseY,.nil⟩ (fun j σ X ⟨_,_,_,s,_⟩=>s _ _ (by rw [xAaj nd2.symm];exact eY)) ?_ ?_
 ·rintro j e σ X hx ⟨ws,u6,rfl,sX,eX,aX⟩
  have tX:Tups Y X:=xAbl eseY (fun ys z=>nomatch z) sX;obtain ⟨r,hr,p1,p2,p3⟩:=aY.at hx;have hrm:=qo hr;have gp:=p2.tups tX;have edX:X da=some (.frz o (.dG kd)):=sX _ _ (by rw [xAaj nd2.symm];exact eY);have eoX:X oa=some (.dG ko):=sX _ _ (by rw [xAaj nos];exact eoY);have esX:X sa=some (.lst sws):=sX _ _ (by rw [xAaj nss];exact esaY);have aXd:=aY.imp fun e x q=>q.imp (R':=OuN X) tX fun r=>r.tups tX;have asX:=asY.imp fun v k z=>NmK.tups z tX;have hpt:=S.pt r hrm;obtain ⟨v',hv',gv'⟩:=xAcb aXd S.nd hrm
  have hws:ws.length≤62:=by
   rw [aX.1];have:=ve (inq (opn (tl rs)) cu p) ((st (opn (tl rs))).take j);rw [zo] at this;omega
  have tk:(st (opn (tl rs))).take (j+1)=(st (opn (tl rs))).take j++[r]:=by rw [zd,hr];rfl
  refine ⟨fun b Z1=>Z1=X/\(b=true↔(r.ou=p/\Sh (opn (tl rs)) cu r.pt)),?_,?_⟩
  ·refine ⟨_,rfl,_,rfl,da,kd,.tup r.pt,v',rfl,.inr ⟨o,edX⟩,gp,hv',_,rfl,?_⟩
   by_cases h0:r.ou=[]
   ·have hv0:v'=.non:=by have:=gv';unfold OuN at this;rw [h0] at this;exact this
    subst hv0;refine ⟨.none,tD p,.non,(gk_td (gpY.tups tX)).dv,rfl,hpp.lay,qk (zq _ _) (by decide),_,rfl,?_⟩;exact itF rfl ⟨rfl,(fun z=>by cases z),fun z=>absurd (h0.symm.trans z.1) hpp.ne.symm⟩
   have hpo:Pn r.ou:=(S.ou r hrm).resolve_left h0;refine ⟨tD r.ou,tD p,(gk_td (gk_dn h0 gv')).dv,(gk_td (gpY.tups tX)).dv,hpo.lay,hpp.lay,qk (zq _ _) (qk (xAbt _) (by decide)),_,rfl,?_⟩;rw [if_neg (by decide),xAdf]
   by_cases hou:r.ou=p
   ·refine itT (decide_eq_true hou) ?_
    refine ⟨_,rfl,_,rfl,tD r.pt,sa,_,sws,(gk_td gp).dv,rfl,.inl (SqL.of esX),(xAbv asX).dv,hpt.lay,(xAei hspn).1,qk (xAbt _) (by decide),_,rfl,?_⟩;rw [if_neg (by decide)];refine ⟨rfl,fun z=>⟨hou,(hsh _).mp (xAok.mp z)⟩,fun z=>xAok.mpr ((hsh _).mpr z.2)⟩
   ·exact itF (decide_eq_false hou) ⟨rfl,(fun z=>by cases z),fun z=>absurd z.1 hou⟩
  rintro b Z1 ⟨rfl,hb⟩
  cases b with
  | false =>
   refine itF rfl ⟨ws,_,rfl,sX,eX,?_⟩;rw [tk,xAcu,if_neg fun z=>qm (hb.mpr (xAdw.mp z))];exact aX
  | true =>
   refine itT rfl ?_;have hin:=xAdw.mpr (hb.mp rfl);obtain ⟨z,hz,_,ez,ka,kb⟩:=st_of hrm;have aoX:=aoY.imp fun e x q=>q.imp (R':=O3 Z1) tX fun r=>r.tups tX;obtain ⟨v3,hv3,b3,vo,vn,kq,rfl,h1,h2,h3⟩:=xAcb aoX XWt.nd hz;rw [← ez] at hv3;refine ⟨_,rfl,.inl ⟨rfl,_,SqL.of eX⟩,_,rfl,_,rfl,oa,ko,.tup r.pt,.ref b3,rfl,.inl eoX,gp,hv3,b3,_,2,.ref kq,rfl,rfl,SqT.of h1,rfl,_,rfl,szOk rfl,fun tq Z gz sz ez'=>?_⟩;refine ⟨se,ws,_,rfl,rfl,sz _ _ eX,huge (by omega),?_⟩;have tw:Tups Z (upd Z se (.lst (ws++[.ref tq]))):=Tups.wl (sz _ _ eX);have t2:=sz.tups.trans tw;refine ⟨_,_,rfl,(sX.trans sz).wr xAbk,xAad,?_⟩;rw [tk,xAcu,if_pos hin];exact (aX.imp fun v k z=>PKN.tups z t2).snoc ⟨tq,kq,e.2.1,rfl,tw _ _ ez',by rw [ka,kb];exact t2 _ _ h3,gp.tups t2⟩
 rintro σ X ⟨ws,u6,rfl,sX,eX,aX⟩;rw [aY.1,zh] at aX;have hnd:((st (opn (tl rs))).filter (inq (opn (tl rs)) cu p)).Nodup:=(xAms XWt).sublist vy
 have hmem:∀ x,x∈(st (opn (tl rs))).filter (inq (opn (tl rs)) cu p)↔(x∈st (opn (tl rs))/\x.ou=p/\Sh (opn (tl rs)) cu x.pt):=fun x=>by rw [wc,xAdw]
 have hlen:((st (opn (tl rs))).filter (inq (opn (tl rs)) cu p)).length≤62:=qk (ve _ _) hstl;generalize (st (opn (tl rs))).filter (inq (opn (tl rs)) cu p)=l0 at aX hnd hmem hlen;refine ⟨_,rfl,se,ws,_,4,rfl,SqL.of eX,(AL.dts (D:=knD) (fun _ _ z=>PKN.dt z) aX).dv,xAuh (fun x hx=>S.pt x ((hmem x).mp hx).1),by have:=aX.1;omega,fun q X4 ix gq s4 six e4=>?_⟩;obtain ⟨ms,am,hw,hperm⟩:=xAfj ⟨[],[],[],0,0⟩ aX six;have hms:∀ x,x∈ms↔_:=fun x=>(hperm.mem_iff).trans (hmem x);have hup:=up_of XWt knD_up hw (hperm.nodup_iff.mpr hnd) fun x hx=>((hms x).mp hx).1;have am4:=am.imp fun v k z=>PKN.tups z s4.tups
 have hml:ms.length≤62:=by rw [hperm.length_eq];exact hlen
 generalize ix.map (fun i=>ws.getD i .non)=zs at e4 am4 am;refine ⟨q,rfl,⟨_,SqL.of e4⟩,xAfs (xs:=zs) (big (by rw [am4.1];omega)) (fun j us Z=>Z=X4/\AL (NP Z) us (ms.take j)) ⟨rfl,.nil⟩ (fun _ _ Z s=>by rw [s.1];exact SqL.of e4) (fun j x us Z K1 K0 hx s' k1 k0=>?_) fun Z np us s' hu hq=>?_⟩
 ·obtain ⟨rfl,ae⟩:=s'
  obtain ⟨m,hm,b,kq,vn,rfl,h1,h2,h3⟩:=am4.at hx;refine ⟨b,_,rfl,SqT.of h1,rfl,_,_,rfl,_,_,rfl,rfl,?_⟩;refine iteT (B:=K0 Z) ?_;refine ⟨_,rfl,k1 _ _ ⟨rfl,?_⟩⟩;rw [zd,hm];exact ae.snoc h3
 obtain ⟨rfl,ae⟩:=s';rw [am4.1,zh] at ae;have nH:Same Z (upd Z np (.lst us)):=Same.new hq
 have sHZ:Same (del H da) Z:=fun b u e=>s4 _ _ (sX _ _ (by
  have nb:b≠da:=fun z=>by rw [z,xAbk] at e;cases e
  rw [xAaj nb] at e;rw [xAaj (xAab e fse)]
  exact hY b u nb (s02 _ _ e)))
 have edZ:Z da=some (.frz o (.dG kd)):=s4 _ _ (sX _ _ (by rw [xAaj nd2.symm];exact eY));refine kk _ np us ms (sHZ.trans nH) (.inr ⟨o,nH _ _ edZ⟩) ?_ xAad (ae.imp fun v k z=>NP.tups z nH.tups) ⟨hup,hms⟩;have:=sHZ.free hq
 by_cases z:np=da
 ·rw [z,edZ] at hq;cases hq
 ·rw [xAaj z] at this;exact this
theorem ok_fAe (T:Txt K mg d tk) (hB:base.BuiltinsAt mg (tabP K "greatest_place")):FnOk P w K mg base CX0 3 d.fAe d.fAed ["telling","parts"] (sp_fAe K):=by
 refine T.F_fAe.okC sc_fAe (fun vs H Q E h=>xAum h) (fun cdv A outer s H vs Q E hcv hr h=>?_);have hcode:(envOfC "greatest_place" (defScope s_fAe) s.heap.objs.size d.fAe cdv).code=.ref d.fgreatest_placec:=hcv.symm.trans T.LE_fAe;have hu:(A.deeper (envOfC "greatest_place" (defScope s_fAe) s.heap.objs.size d.fAe cdv)).units<cLine:=hr.units0;refine ⟨_,(@xAag _ _ _ (@xAat _ _ _ _ (@xAte _ (0) _ ("one") ("telling") (0) _ _ _ _ _ _ _ _ _ _ _ _ hcode T.LC_fAe hB (hr.mono (by decide)) rfl T.b_max boot_max ⟨rfl,rfl,rfl,by decide +kernel,rfl,rfl,by decide +kernel⟩ rfl rfl (fun _ h=>xAbw h) rfl rfl (fun _ _ _ _ _=>rfl) (fun _ _ _ _ _ _ _ hr=>(@pe_ix _ _ _ _ _ _ _ (xAcp (K:=K) rfl) (@xAau _ _ _ _ _ _ (hu2 hr) (@pv _ 1 _ _ rfl (Or.inr (Or.inr rfl)) rfl rfl) (@pq _ 0 _ _ rfl) (fun _ _=>rfl)) (@xAah _ _ _ _) (fun _ _=>rfl))) (@xAaa _ _ _ _ _ (@pq _ 1 _ _ rfl) (@xAaf _) rfl) rfl (by decide) (by decide) rfl))),?_⟩;obtain ⟨tq,la,kt,xs,ws,ls,rfl,htq,akt,hnd,ela,als,hne,hin,tb,kk⟩:=h
 have nla:la≠PTa K:=fun z=>by
  obtain ⟨ps,t⟩:=tb.tbl;rw [← z,ela] at t;cases t
 refine ⟨_,rfl,tb,fun H2 t2 sd=>?_⟩;have s2:Same (del H (PTa K)) H2:=fun b o e=>xAbp _ _ (sd _ _ e);have ela2:=My.keepT tb s2 ela fun ps z=>nomatch z;have tt:=tupsT tb s2;have akt2:=akt.imp fun e x q=>q.imp (R':=PC H2) tt fun r=>r.tups tt;have htq2:=rdT tb s2 htq fun ps z=>nomatch z;have als2:=als.imp fun v k q=>NmK.tups q tt;have hwl:ws.length=ls.length:=als.1;have hl0:0<ls.length:=List.length_pos_iff.mpr hne;refine ⟨la,ws,.ref tq,fun m=>match fX xs (ls.getD m []) with | some x=>[x.ka,x.kb] | none=>[],rfl,SqL.of ela2,by omega,rfl,fun m y H' Q' hy s' k=>?_,fun m y Hn hy hmax sn=>?_⟩
 ·obtain ⟨km,hkm,gy⟩:=als2.at hy
  have hmem:=qo hkm;obtain ⟨x,hx,ex⟩:=qd.mp (xAbq.mp (hin km hmem));have akt':=akt2.imp fun e x q=>q.imp (R':=PC H') s'.tups fun r=>r.tups s'.tups;obtain ⟨v,hv,b,vp,vo,vn,kq,rfl,h1,h2,h3,h4,h5⟩:=xAcb akt' hnd hx
  have eD:ls.getD m []=x.pt:=by rw [zb,hkm];exact ex.symm
  rw [← ex] at gy;refine ⟨_,rfl,_,rfl,tq,kt,.tup x.pt,.ref b,rfl,Rd.same htq2 s',GK.tups gy s'.tups,hv,b,_,3,.ref kq,rfl,rfl,SqT.of h1,rfl,k H' _ (Same.refl _) ?_⟩;show DV K H' (.ref kq) (.tuple ((match fX xs (ls.getD m []) with | some x=>[x.ka,x.kb] | none=>[]).map PyData.int));rw [eD,fX_of hnd hx];exact .tup (SqT.of h5) (.cons (.int _) (.cons (.int _) .nil))
 ·obtain ⟨km,hkm,gy⟩:=als2.at hy
  have hmem:=qo hkm;refine kk Hn y km (s2.trans sn) (t2.same sn) hmem (fun b hb=>?_) (NmK.tups gy sn.tups);rintro ⟨x,z,h1,h2,h3⟩;obtain ⟨j,hj,ej⟩:=qt.mp hb;have:=hmax j (by rw [hwl];exact hj)
  have e1:ls.getD m []=km:=by rw [zb,hkm];rfl
  have e2:ls.getD j []=b:=by rw [zb,qe hj,ej];rfl
  simp only [e1,e2,h1,h2] at this
  rw [show ltD (.tuple ([x.ka,x.kb].map PyData.int)) (.tuple ([z.ka,z.kb].map PyData.int))=true from lt2_D h3] at this;cases this
theorem ok_fAl (T:Txt K mg d tk) (gfAf:FnOk P w K mg base CX0 2 d.fAf d.fAfd ["outer_of"] (sp_fAf K)):FnOk P w K mg base CX0 3 d.fAl d.fAld ["facts","stands"] (sp_fAl K):=by
 refine T.F_fAl.ok xAor (fun vs H Q E h=>xAuu h) (fun cdv A outer s H vs Q E hr h=>?_);have hu:(A.deeper (envOfC "shown_among" (defScope s_fAl) s.heap.objs.size d.fAl cdv)).units<cLine:=hr.units0;have hu1:(A.deeper (envOfC "shown_among" (defScope s_fAl) s.heap.objs.size d.fAl cdv)).units+1<cLine:=hu_of hr;refine ⟨_,(@xAac _ _ _ _ _ (@xAak _ _ (2) _ _ _ _ xAor.nd rfl (Or.inr rfl) (@xAbx _ _ _ _ _ _ _ _ _ (xAcg hr.hd (hu4 hr)) rfl T.b_dict boot_dict (@xAaa _ _ _ _ _ (@xAbo _ _ _ _ _ _ _ (["fact"]) ([]) _ _ _ _ _ rfl (@xAbf _ _ _ _ (@xAbr _ _ _ _ _ _ hu1 (@pq _ 0 _ _ rfl) (@xAar _ _ _ _) (fun _ _=>rfl))) ⟨rfl,by decide +kernel,by decide +kernel⟩ (caps0 (by decide +kernel)) (fun _ _ _=>(@xAal _ _ (0) _ (by show List.Nodup (["fact"]:List Str);decide +kernel) rfl (Or.inl rfl) (.inr rfl))) (fun _=>xAbd rfl) (fun _ _ _=>(@xAcl _)) (fun _ _ _=>(@xAao _ _ _ _ _ (@xAaa _ _ _ _ _ (@pe_ix _ _ _ _ _ _ _ (xAcp (K:=K) rfl) (@pq _ 0 _ _ rfl) (@xAah _ _ _ _) (fun _ _=>rfl)) (@xAaa _ _ _ _ _ (@pe_bl _ _ _ _) (@xAaf _) rfl) rfl))) (by intro _;rfl)) (@xAaf _) rfl) (by decide) (by decide) rfl rfl) rfl (.inl rfl)) (@xAac _ _ _ _ _ (@xAak _ _ (3) _ _ _ _ xAor.nd rfl (Or.inl rfl) (@xAbx _ _ _ _ _ _ _ _ _ (xAcg hr.hd (hu4 hr)) rfl T.b_dict boot_dict (@xAaa _ _ _ _ _ (@xAbo _ _ _ _ _ _ _ (["part","outer"]) ([("cut",2)]) _ _ _ _ _ rfl (@xAct _ _ _ _ _ _ _ _ (@pq _ 1 _ _ rfl) rfl rfl) ⟨rfl,by decide +kernel,by decide +kernel⟩ (xAdm (defScope s_fAl) ["facts","stands","cut","left","reaching"] rfl rfl (fun _ h=>xAbw h) (by decide +kernel) (by decide +kernel) (by decide +kernel)) (fun _ _ _=>(@xAfm _ _ _ _ _ (2) rfl (@xAaq _ _ _ _ _ (@xAal _ _ (0) _ (by show List.Nodup (["part","outer","cut"]:List Str);decide +kernel) rfl (Or.inl rfl) (.inr rfl)) (@xAaq _ _ _ _ _ (@xAal _ _ (1) _ (by show List.Nodup (["part","outer","cut"]:List Str);decide +kernel) rfl (Or.inl rfl) (.inr rfl)) (@xAdb _) rfl) rfl) rfl rfl)) (fun _=>xAcf rfl rfl (by decide)) (fun _ _ _=>(@xAkj _ _ _ (@xAam _ _ _ _ _ _ _ _ (xAew (hu2 hr)) (@pq _ 0 _ _ rfl) (@pv _ 2 _ _ rfl (Or.inr (Or.inl rfl)) rfl rfl) rfl))) (fun _ _ _=>(@xAao _ _ _ _ _ (@xAaa _ _ _ _ _ (@pq _ 0 _ _ rfl) (@xAaa _ _ _ _ _ (@pq _ 1 _ _ rfl) (@xAaf _) rfl) rfl))) (by intro _;rfl)) (@xAaf _) rfl) (by decide) (by decide) rfl rfl) rfl (.inl rfl)) (@xAac _ _ _ _ _ (@xAak _ _ (4) _ _ _ _ xAor.nd rfl (Or.inl rfl) (@xAai _ _ _ _ _ _ _ _ _ _ _ _ _ _ _ _ gfAf (hr.mono (by decide)) rfl T.m_fAf T.k_fAf T.d_fAf .nil pass0 (@xAaa _ _ _ _ _ (@pq _ 3 _ _ rfl) (@xAaf _) rfl) (by decide) rfl rfl) rfl (.inl rfl)) (@xAag _ _ _ (@xAat _ _ _ _ (@xAbx _ _ _ _ _ _ _ _ _ (xAcg hr.hd (hu4 hr)) rfl T.b_dict boot_dict (@xAaa _ _ _ _ _ (@xAbo _ _ _ _ _ _ _ (["part","comes"]) ([]) _ _ _ _ _ rfl (@xAct _ _ _ _ _ _ _ _ (@pq _ 4 _ _ rfl) rfl rfl) ⟨rfl,by decide +kernel,by decide +kernel⟩ (caps0 (by decide +kernel)) (fun _ _ _=>(@xAfm _ _ _ _ _ (2) rfl (@xAaq _ _ _ _ _ (@xAal _ _ (0) _ (by show List.Nodup (["part","comes"]:List Str);decide +kernel) rfl (Or.inl rfl) (.inr rfl)) (@xAaq _ _ _ _ _ (@xAal _ _ (1) _ (by show List.Nodup (["part","comes"]:List Str);decide +kernel) rfl (Or.inl rfl) (.inr rfl)) (@xAdb _) rfl) rfl) rfl rfl)) (fun _=>xAcf rfl rfl (by decide)) (fun _ _ _=>(@xAkj _ _ _ (@xAfl _ _ _ (@pq _ 1 _ _ rfl) (by intro _;rfl)))) (fun _ _ _=>(@xAao _ _ _ _ _ (@xAaa _ _ _ _ _ (@pq _ 0 _ _ rfl) (@xAaa _ _ _ _ _ (@pe_bl _ _ _ _) (@xAaf _) rfl) rfl))) (by intro _;rfl)) (@xAaf _) rfl) (by decide) (by decide) rfl rfl)))))),?_⟩;obtain ⟨fa,F,bs,es,cs,rs,cu,k,da,kd,ys,rfl,fb,hk,hda,akd,W,ma,kk⟩:=h;have hcl:=fb.fi.cl;have hfew:=W.few;have L:=lf_lw (cu:=cu) W
 have hstl:(st ys).length=ys.length:=by unfold st;rw [qf]
 refine ⟨_,rfl,fa,.ref (F 2),rfl,.inl ⟨fkv F 9,.inr "cuts",fb.dk,rfl,(xAcy F 2 (by decide)).symm⟩,F 2,rfl,⟨_,SqL.of fb.ec⟩,xAfs (xs:=cs) (big (by omega)) (fun j us X=>Same H X/\∃ es:List (KD×V×V),PrsV X us es/\AL (fun e k=>e.1=nd k) es (cu.take j)) ⟨Same.refl _,[],trivial,.nil⟩ (fun _ _ X s=>SqL.of (s.1 _ _ fb.ec)) (fun j x us X K1 K0 hx s' k1 k0=>?_) fun X np us s' hu hq=>?_⟩
 ·obtain ⟨sX,es',pr,ae⟩:=s'
  obtain ⟨c,hc,p⟩:=fb.fi.ct.at hx;obtain ⟨b,vp,vn,y,rfl,h1,h2,h3,h4,h5⟩:=p.tups sX.tups;refine iteT (B:=K0 X) ?_;refine ⟨_,rfl,b,_,0,vp,rfl,rfl,SqT.of h1,rfl,szOk rfl,fun tq X4 g4 s4 e4=>k1 _ _ ⟨sX.trans s4,es'++[(nd c,vp,.bl true)],PrsV.snoc (e:=(nd c,vp,.bl true)) ⟨tq,rfl,e4,gk_nd h3.ne (h2.tups s4.tups)⟩ (pr.tups s4.tups),?_⟩⟩;rw [zd,hc];exact ae.snoc rfl
 obtain ⟨sX,es',pr,ae⟩:=s';rw [fb.fi.ct.1,zh] at ae;have nH:Same X (upd X np (.lst us)):=Same.new hq;refine ⟨np,us,es',rfl,SqL.of xAad,pr.tups nH.tups,by omega,fun ca X2 g2 s2 e2=>?_⟩;have smC:SN (putAll [] es') (fun k=>k∈cu):=fun a=>(xAoj ae SN.nil a).trans ⟨fun z=>z.resolve_left id,.inr⟩;generalize putAll [] es'=kc at e2 smC;have sH2:=(sX.trans nH).trans s2;have fca:H ca=none:=(sX.trans nH).free g2;clear pr ae hq hu nH s2 g2 sX
 have nca:ca≠da:=fun z=>by
  rw [z] at fca;rcases hda with q | ⟨o',q⟩ <;> rw [fca] at q <;> cases q
 have hda2:=Rd.same hda sH2;refine ⟨_,rfl,da,kd,rfl,xAck hda2 fun o Y hY fY eY=>?_⟩
 have tY:Tups X2 Y:=fun b us e=>hY b _ (fun z=>by
  subst z
  rcases hda2 with q | ⟨o',q⟩ <;> rw [q] at e <;> cases e) e
 have tHY:=sH2.tups.trans tY;have ecY:=hY ca _ nca e2;have aY:=akd.imp fun e x q=>q.imp (R':=OuN Y) tHY fun r=>r.tups tHY;refine xAdh (big (by rw [aY.1];omega)) (fun j us X=>Same Y X/\∃ es:List (KD×V×V),PrsV X us es/\AL (EK (OuN X) X) es (((st ys).take j).filter (lfp cu))) ⟨Same.refl _,[],trivial,.nil⟩ (fun _ _ X s'=>s'.1 _ _ eY) (fun j e us X p K1 K0 hx s' hp k1 k0=>?_) fun X3 np us s' hy hq=>?_
 ·obtain ⟨sX,es',pr,ae⟩:=s'
  obtain ⟨r,hr,p1,p2,p3⟩:=aY.at hx;have sp:Same X (upd X p (.tup [e.2.1,e.2.2])):=Same.new hp;have ep:(upd X p (.tup [e.2.1,e.2.2])) p=some (.tup [e.2.1,e.2.2]):=xAad;generalize upd X p (.tup [e.2.1,e.2.2])=X1 at sp ep;have sX1:=sX.trans sp;have hpt:r.pt≠[]:=(st_lw W).nz r (qo hr);refine ⟨p,_,rfl,SqT.of ep,rfl,_,_,rfl,_,_,rfl,rfl,?_⟩;refine ⟨_,rfl,_,rfl,ca,kc,nd r.pt,rfl,.inl (sX1 _ _ ecY),gk_nd hpt (p2.tups sX1.tups),_,rfl,?_⟩;rw [if_pos rfl]
  by_cases hin:r.pt∈cu
  ·rw [smC.yes hin]
   refine itF rfl (k0 _ ⟨sX1,es',pr.tups sp.tups,?_⟩);rw [zd,hr,ww,show (some r).toList=[r] from rfl,yp (by rw [lfp_f hin];exact qm),wn,we];exact ae.imp fun e x p=>p.imp sp.tups fun q=>q.tups sp.tups
  ·rw [smC.no hin]
   refine itT rfl ?_;refine ⟨_,rfl,_,rfl,szOk rfl,fun t3 X3 g3 s3 e3=>?_⟩;have sX3:=sp.trans s3;refine k1 _ _ ⟨sX.trans sX3,es'++[(.tup r.pt,e.2.1,e.2.2)],?_,?_⟩
   ·exact PrsV.snoc (e:=(.tup r.pt,e.2.1,e.2.2)) ⟨t3,rfl,e3,(p2.tups sX1.tups).tups s3.tups⟩ (pr.tups sX3.tups)
   ·rw [zd,hr,ww,show (some r).toList=[r] from rfl,yo (lfp_t hin),wn]
    exact (ae.imp fun e x p=>p.imp sX3.tups fun q=>q.tups sX3.tups).snoc ⟨rfl,(p2.tups sX1.tups).tups s3.tups,(OuN.tups p3 sX1.tups).tups s3.tups⟩
 obtain ⟨sX,es',pr,ae⟩:=s';rw [aY.1,zh] at ae;have nH:Same X3 (upd X3 np (.lst us)):=Same.new hq;refine ⟨np,us,es',rfl,SqL.of xAad,pr.tups nH.tups,?_,fun la X4 g4 s4 e4=>?_⟩
 ·have:us.length≤kd.length:=hy
  have:=aY.1;omega
 rw [xAch _ [] (by rw [wb];exact xAcz ae L.nd),wb] at e4;have sY4:=(sX.trans nH).trans s4;have al4:AL (EK (OuN X4) X4) es' (lf ys cu):=ae.imp fun e x p=>p.imp (nH.trans s4).tups fun q=>q.tups (nH.trans s4).tups;have fla:Y la=none:=(sX.trans nH).free g4;clear ae pr hq hy nH s4 g4 sX;have fla2:=fY _ fla;have flaH:=sH2.free fla2;have ma4:MA K X4:=sY4.tups _ _ (tHY _ _ ma);refine ⟨_,rfl,la,es',lf ys cu,rfl,.inl e4,al4,L,ma4,fun X5 ra kr f s5 hla5 gra era rm hkf=>?_⟩;have fra4:=sY4.free gra;have fra2:=fY _ fra4;have fraH:=sH2.free fra2
 have s5o:∀ {b u},X4 b=some u->b≠la->X5 b=some u:=fun e n=>s5 _ _ (by rw [xAaj n];exact e)
 have hkl:=rm.few L.few;refine ⟨_,rfl,ra,kr,rfl,xAck (.inl era) fun o2 U hU fU eU=>?_⟩
 have tU:Tups X5 U:=fun b us e=>hU b _ (fun z=>by
  subst z
  rw [era] at e;cases e) e
 have rmU:=rm.tups tU;obtain ⟨ks,aks⟩:=al_ex rmU.ent
 have hks:ks.Nodup:=by
  have h1:=rmU.kn;rw [xAfi (g:=nd) aks fun e k p=>p.2.1] at h1;exact List.Pairwise.of_map nd (fun a b h z=>h (by rw [z])) h1
 refine xAdh (big (by omega)) (fun j us X=>Same U X/\∃ es:List (KD×V×V),PrsV X us es/\SD X es ((ks.take j).filter fun k=>decide (f k=some true))) ⟨Same.refl _,[],trivial,.nil⟩ (fun _ _ X s'=>s'.1 _ _ eU) (fun j e us X p K1 K0 hx s' hp k1 k0=>?_) fun X6 np us s' hy hq=>?_
 ·obtain ⟨sX,es',pr,ae⟩:=s'
  obtain ⟨a,ha,p1,p2,p3⟩:=aks.at hx;have hv:=xAdr rmU.kn hx p2;rw [rmU.at_] at hv;obtain ⟨b,hb,hbv⟩:=zt.mp hv;obtain ⟨e1,e21,e22⟩:=e;have hbv:V.bl b=e22:=hbv;subst hbv;have sp:Same X (upd X p (.tup [e21,.bl b])):=Same.new hp;have ep:(upd X p (.tup [e21,.bl b])) p=some (.tup [e21,.bl b]):=xAad;show _;generalize upd X p (.tup [e21,.bl b])=X1 at sp ep;have sX1:=sX.trans sp;refine ⟨p,_,rfl,SqT.of ep,rfl,_,_,rfl,_,_,rfl,rfl,?_⟩
  cases b with
  | false =>
   refine ⟨_,rfl,_,rfl,itF rfl (k0 _ ⟨sX1,es',pr.tups sp.tups,?_⟩)⟩;rw [zd,ha,ww,show (some a).toList=[a] from rfl,yp (by rw [hb];decide),wn,we];exact SD.tups ae sp.tups
  | true =>
   refine ⟨_,rfl,_,rfl,itT rfl ⟨_,rfl,szOk rfl,fun t3 X3 g3 s3 e3=>?_⟩⟩;have sX3:=sp.trans s3;have hpn:Pn a:=((Sh.iff W a).mp ((rm.val a true hb).mp rfl)).pn W;have g3:GK X3 (.tup a) e21:=gk_dn hpn.ne ((GK.tups p3 sX1.tups).tups s3.tups);refine k1 _ _ ⟨sX.trans sX3,es'++[(.tup a,e21,.bl true)],?_,?_⟩
   ·exact PrsV.snoc (e:=(.tup a,e21,.bl true)) ⟨t3,rfl,e3,g3⟩ (pr.tups sX3.tups)
   ·rw [zd,ha,ww,show (some a).toList=[a] from rfl,yo (by rw [hb];decide),wn]
    exact AL.snoc (SD.tups ae sX3.tups) ⟨rfl,g3⟩
 obtain ⟨sX,es',pr,ae⟩:=s';rw [aks.1,zh] at ae;have nH:Same X6 (upd X6 np (.lst us)):=Same.new hq;have hnd:(ks.filter fun k=>decide (f k=some true)).Nodup:=hks.sublist vy;refine ⟨np,us,es',rfl,SqL.of xAad,pr.tups nH.tups,?_,fun qa X7 g7 s7 e7=>?_⟩
 ·have:us.length≤kr.length:=hy
  omega
 rw [xAch _ [] (by rw [wb,xAfi (g:=KD.tup) ae fun e k p=>p.1];exact List.Pairwise.map _ (fun a b hab z=>hab (xAjt z)) hnd),wb] at e7;have sU7:=(sX.trans nH).trans s7;have fqa:U qa=none:=(sX.trans nH).free g7;have toU:∀ {b u},H b=some u->b≠da->X7 b=some u:=fun e n=>sU7 _ _ (hU _ _ (xAab e fraH) (s5o (sY4 _ _ (hY _ _ n (sH2 _ _ e))) (xAab e flaH)));have eda7:X7 da=some (.frz o (.dG kd)):=sU7 _ _ (hU _ _ (xAab eY fra4) (s5o (sY4 _ _ eY) (xAab eY fla)))
 have fqH:H qa=none:=by
  have h5:=fU _ fqa
  cases q:H qa with
  | none=>rfl
  | some u =>
   by_cases z:qa=da
   ·rw [z] at fqa
    rw [hU _ _ (xAab eY fra4) (s5o (sY4 _ _ eY) (xAab eY fla))] at fqa;cases fqa
   ·rw [s5o (sY4 _ _ (hY _ _ z (sH2 _ _ q))) (xAab q flaH)] at h5
    cases h5
 refine kk X7 qa es' _ (fun b u e=>?_) (.inr ⟨o,eda7⟩) fqH e7 (SD.tups ae (nH.trans s7).tups) hnd fun a=>?_
 ·have nb:b≠da:=fun z=>by rw [z,xAbk] at e;cases e
  rw [xAaj nb] at e;exact toU e nb
 rw [wc];constructor
 ·rintro ⟨_,h2⟩
  exact (Sh.iff W a).mp ((rm.val a true (of_decide_eq_true h2)).mp rfl)
 ·intro h
  have hc:=(Sh.iff W a).mpr h
  have hf:f a≠none:=by
   rcases h with rfl | ⟨h,_⟩
   ·rw [rm.main];exact fun z=>nomatch z
   ·obtain ⟨x,hx,rfl⟩:=qd.mp h
    exact hkf x hx
  obtain ⟨b,hb⟩:=v4.mp hf;have:b=true:=(rm.val a b hb).mpr hc;subst this;refine ⟨?_,decide_eq_true hb⟩;have hv:=rmU.at_ a;rw [hb] at hv;obtain ⟨e,he,e1⟩:=vG_ex hv;obtain ⟨k',hk',p⟩:=aks.mem he;rw [← xAju (p.2.1.symm.trans e1)];exact hk'
theorem ok_fAp (T:Txt K mg d tk) (gfAh:FnOk P w K mg base CX0 2 d.fAh d.fAhd ["_law_facts_here","_law_one","_law_part"] (sp_fAh K)) (gfAx:FnOk P w K mg base CX0 1 d.fAx d.fAxd ["_law_last","_law_name","_law_hand","_law_named"] (sp_fAx K)) (gfAu:FnOk P w K mg base CX0 1 d.fAu d.fAud ["_law_pool_here","_law_many"] (sp_fAu K)):FnOk P w K mg base CX0 3 d.fAp d.fApd ["_law_facts_here","_law_pool_here","_law_k","_law_last","_law_rounds"] (sp_fAp K):=by
 refine T.F_fAp.ok xAfk (fun vs H Q E h=>xAub h) (fun cdv A outer s H vs Q E hr h=>?_);have hu:(A.deeper (envOfC "_law_event" (defScope s_fAp) s.heap.objs.size d.fAp cdv)).units<cLine:=hr.units0;have hu1:(A.deeper (envOfC "_law_event" (defScope s_fAp) s.heap.objs.size d.fAp cdv)).units+1<cLine:=hu_of hr;refine ⟨_,(@xAac _ _ _ _ _ (@xAak _ _ (5) _ _ _ _ xAfk.nd rfl (Or.inl rfl) (@xAai _ _ _ _ _ _ _ _ _ _ _ _ _ _ _ _ gfAu (hr.mono (by decide)) rfl T.m_fAu T.k_fAu T.d_fAu .nil pass0 (@xAaa _ _ _ _ _ (@pq _ 1 _ _ rfl) (@xAaa _ _ _ _ _ (@xAah _ _ _ _) (@xAaf _) rfl) rfl) (by decide) rfl rfl) rfl (.inl rfl)) (@xAac _ _ _ _ _ (@xAak _ _ (6) _ _ _ _ xAfk.nd rfl (Or.inl rfl) (@xAai _ _ _ _ _ _ _ _ _ _ _ _ _ _ _ _ gfAu (hr.mono (by decide)) rfl T.m_fAu T.k_fAu T.d_fAu .nil pass0 (@xAaa _ _ _ _ _ (@pq _ 1 _ _ rfl) (@xAaa _ _ _ _ _ (@xAah _ _ _ _) (@xAaf _) rfl) rfl) (by decide) rfl rfl) rfl (.inl rfl)) (@xAac _ _ _ _ _ (@xAak _ _ (7) _ _ _ _ xAfk.nd rfl (Or.inl rfl) (@xAao _ _ _ _ _ (@xAaa _ _ _ _ _ (@pe_ix _ _ _ _ _ _ _ xAkm (@xAas _ _ _ _ (@xAaa _ _ _ _ _ (@xAar _ _ _ _) (@xAaa _ _ _ _ _ (@xAar _ _ _ _) (@xAaa _ _ _ _ _ (@xAar _ _ _ _) (@xAaf _) rfl) rfl) rfl)) (@pq _ 6 _ _ rfl) (fun _ _=>rfl)) (@xAaa _ _ _ _ _ (@pe_ix _ _ _ _ _ _ _ xAkm (@xAas _ _ _ _ (@xAaa _ _ _ _ _ (@pq _ 2 _ _ rfl) (@xAaa _ _ _ _ _ (@pe_op _ _ _ _ _ _ _ _ xArx (@xAah _ _ _ _) (@pq _ 2 _ _ rfl)) (@xAaa _ _ _ _ _ (@pq _ 2 _ _ rfl) (@xAaf _) rfl) rfl) rfl)) (@pq _ 6 _ _ rfl) (fun _ _=>rfl)) (@xAaf _) rfl) rfl)) rfl (.inl rfl)) (@xAac _ _ _ _ _ (@xAak _ _ (8) _ _ _ _ xAfk.nd rfl (Or.inl rfl) (@pe_op _ _ _ _ _ _ _ _ xAkn (@xAas _ _ _ _ (@xAaa _ _ _ _ _ (@xAao _ _ _ _ _ (@xAaa _ _ _ _ _ (@xAar _ _ _ _) (@xAaa _ _ _ _ _ (@xAah _ _ _ _) (@xAaf _) rfl) rfl)) (@xAaf _) rfl)) (@xAbo _ _ _ _ _ _ _ (["_law_one"]) ([]) _ _ _ _ _ rfl (@xAbf _ _ _ _ (@xAbr _ _ _ _ _ _ hu1 (@pq _ 0 _ _ rfl) (@xAar _ _ _ _) (fun _ _=>rfl))) ⟨rfl,by decide +kernel,by decide +kernel⟩ (caps0 (by decide +kernel)) (fun _ _ _=>(@xAal _ _ (0) _ (by show List.Nodup (["_law_one"]:List Str);decide +kernel) rfl (Or.inl rfl) (.inr rfl))) (fun _=>xAbd rfl) (fun _ _ _=>(@xAcl _)) (fun _ _ _=>(@pe_ix _ _ _ _ _ _ _ (xAcp (K:=K) rfl) (@pq _ 0 _ _ rfl) (@xAah _ _ _ _) (fun _ _=>rfl))) (by intro _;rfl))) rfl (.inl rfl)) (@xAac _ _ _ _ _ (@xAak _ _ (9) _ _ _ _ xAfk.nd rfl (Or.inl rfl) (@pe_ix _ _ _ _ _ _ _ xAkm (@pq _ 8 _ _ rfl) (@xAai _ _ _ _ _ _ _ _ _ _ _ _ _ _ _ _ gfAu (hr.mono (by decide)) rfl T.m_fAu T.k_fAu T.d_fAu .nil pass0 (@xAaa _ _ _ _ _ (@pq _ 1 _ _ rfl) (@xAaa _ _ _ _ _ (@xAaz _ _ _ _ _ _ _ _ _ xAbc rfl T.b_len boot_len (@xAaa _ _ _ _ _ (@pq _ 8 _ _ rfl) (@xAaf _) rfl) (by decide) (by decide) rfl rfl) (@xAaf _) rfl) rfl) (by decide) rfl rfl) (fun _ _=>rfl)) rfl (.inl rfl)) (@xAac _ _ _ _ _ (@ps_if _ _ _ _ _ _ _ _ (@xAcm _ _ _ (@PW.pt _ _ _ (@pw_or _ _ _ _ _ _ _ (@xAam _ _ _ _ _ _ _ _ op_lt (@pq _ 5 _ _ rfl) (@xAah _ _ _ _) (xAbb _)) (@xAgf _ _ _ _ (@xAam _ _ _ _ _ _ _ _ op_eq (@xAaz _ _ _ _ _ _ _ _ _ xAbc rfl T.b_len boot_len (@xAaa _ _ _ _ _ (@pq _ 8 _ _ rfl) (@xAaf _) rfl) (by decide) (by decide) rfl rfl) (@xAah _ _ _ _) (xAbb _)))))) (@xAac _ _ _ _ _ (@xAak _ _ (10) _ _ _ _ xAfk.nd rfl (Or.inl rfl) (@xAai _ _ _ _ _ _ _ _ _ _ _ _ _ _ _ _ gfAx (hr.mono (by decide)) rfl T.m_fAx T.k_fAx T.d_fAx .nil pass0 (@xAaa _ _ _ _ _ (@pq _ 3 _ _ rfl) (@xAaa _ _ _ _ _ (@pq _ 7 _ _ rfl) (@xAaa _ _ _ _ _ (@pq _ 6 _ _ rfl) (@xAaa _ _ _ _ _ (@xAas _ _ _ _ (@xAaa _ _ _ _ _ (@pq _ 9 _ _ rfl) (@xAaf _) rfl)) (@xAaf _) rfl) rfl) rfl) rfl) (by decide) rfl rfl) rfl (.inl rfl)) (@xAac _ _ _ _ _ (@xAbm _ _ _ _ (@pe_bm _ _ _ _ _ _ _ _ _ _ _ _ PySem.F.plainAttrs_list PySem.F.slot_list_append PySem.F.type_list_append xAay (@xAbr _ _ _ _ _ _ hu1 (@pq _ 0 _ _ rfl) (@xAar _ _ _ _) (fun _ _=>rfl)) (@xAaa _ _ _ _ _ (@xAao _ _ _ _ _ (@xAaa _ _ _ _ _ (@pq _ 7 _ _ rfl) (@xAaa _ _ _ _ _ (@pq _ 9 _ _ rfl) (@xAaf _) rfl) rfl)) (@xAaf _) rfl) rfl rfl rfl rfl rfl) rfl) (@xAac _ _ _ _ _ (@ps_if _ _ _ _ _ _ _ _ (@xAam _ _ _ _ _ _ _ _ op_gt (@xAai _ _ _ _ _ _ _ _ _ _ _ _ _ _ _ _ gfAu (hr.mono (by decide)) rfl T.m_fAu T.k_fAu T.d_fAu .nil pass0 (@xAaa _ _ _ _ _ (@pq _ 1 _ _ rfl) (@xAaa _ _ _ _ _ (@xAah _ _ _ _) (@xAaf _) rfl) rfl) (by decide) rfl rfl) (@xAah _ _ _ _) (xAbb _)) (@xAag _ _ _ (@xAbm _ _ _ _ (@pe_bm _ _ _ _ _ _ _ _ _ _ _ _ PySem.F.plainAttrs_list PySem.F.slot_list_append PySem.F.type_list_append xAay (@xAbr _ _ _ _ _ _ hu1 (@pq _ 0 _ _ rfl) (@xAar _ _ _ _) (fun _ _=>rfl)) (@xAaa _ _ _ _ _ (@xAao _ _ _ _ _ (@xAaa _ _ _ _ _ (@pq _ 7 _ _ rfl) (@xAaa _ _ _ _ _ (@pq _ 9 _ _ rfl) (@xAaa _ _ _ _ _ (@pq _ 7 _ _ rfl) (@xAaa _ _ _ _ _ (@pq _ 10 _ _ rfl) (@xAaf _) rfl) rfl) rfl) rfl)) (@xAaf _) rfl) rfl rfl rfl rfl rfl) rfl)) (@xAav _)) (@xAag _ _ _ (@xArw _ _))))) (@xAav _)) (@xAac _ _ _ _ _ (@xAak _ _ (11) _ _ _ _ xAfk.nd rfl (Or.inl rfl) (@pe_ix _ _ _ _ _ _ _ xAkm (@pq _ 8 _ _ rfl) (@pe_op _ _ _ _ _ _ _ _ xAjd (@xAah _ _ _ _) (@xAai _ _ _ _ _ _ _ _ _ _ _ _ _ _ _ _ gfAu (hr.mono (by decide)) rfl T.m_fAu T.k_fAu T.d_fAu .nil pass0 (@xAaa _ _ _ _ _ (@pq _ 1 _ _ rfl) (@xAaa _ _ _ _ _ (@pe_op _ _ _ _ _ _ _ _ xArx (@xAaz _ _ _ _ _ _ _ _ _ xAbc rfl T.b_len boot_len (@xAaa _ _ _ _ _ (@pq _ 8 _ _ rfl) (@xAaf _) rfl) (by decide) (by decide) rfl rfl) (@xAah _ _ _ _)) (@xAaf _) rfl) rfl) (by decide) rfl rfl)) (fun _ _=>rfl)) rfl (.inl rfl)) (@xAac _ _ _ _ _ (@xAak _ _ (10) _ _ _ _ xAfk.nd rfl (Or.inl rfl) (@xAai _ _ _ _ _ _ _ _ _ _ _ _ _ _ _ _ gfAx (hr.mono (by decide)) rfl T.m_fAx T.k_fAx T.d_fAx .nil pass0 (@xAaa _ _ _ _ _ (@pq _ 3 _ _ rfl) (@xAaa _ _ _ _ _ (@pq _ 7 _ _ rfl) (@xAaa _ _ _ _ _ (@pq _ 6 _ _ rfl) (@xAaa _ _ _ _ _ (@xAas _ _ _ _ (@xAaa _ _ _ _ _ (@pq _ 11 _ _ rfl) (@xAaa _ _ _ _ _ (@pq _ 9 _ _ rfl) (@xAaf _) rfl) rfl)) (@xAaf _) rfl) rfl) rfl) rfl) (by decide) rfl rfl) rfl (.inl rfl)) (@xAag _ _ _ (@ps_if _ _ _ _ _ _ _ _ (@xAcm _ _ _ (@PW.pt _ _ _ (@xAgg _ _ _ _ _ _ _ (@xAam _ _ _ _ _ _ _ _ op_eq (@pq _ 5 _ _ rfl) (@xAah _ _ _ _) (xAbb _)) (@xAdj _ _ _ _ (@xAam _ _ _ _ _ _ _ _ op_eq (@xAai _ _ _ _ _ _ _ _ _ _ _ _ _ _ _ _ gfAu (hr.mono (by decide)) rfl T.m_fAu T.k_fAu T.d_fAu .nil pass0 (@xAaa _ _ _ _ _ (@pq _ 1 _ _ rfl) (@xAaa _ _ _ _ _ (@xAah _ _ _ _) (@xAaf _) rfl) rfl) (by decide) rfl rfl) (@xAah _ _ _ _) (xAbb _)))))) (@xAag _ _ _ (@xAbm _ _ _ _ (@pe_bm _ _ _ _ _ _ _ _ _ _ _ _ PySem.F.plainAttrs_list PySem.F.slot_list_append PySem.F.type_list_append xAay (@xAbr _ _ _ _ _ _ hu1 (@pq _ 0 _ _ rfl) (@xAar _ _ _ _) (fun _ _=>rfl)) (@xAaa _ _ _ _ _ (@xAao _ _ _ _ _ (@xAaa _ _ _ _ _ (@pq _ 11 _ _ rfl) (@xAaa _ _ _ _ _ (@pq _ 7 _ _ rfl) (@xAaf _) rfl) rfl)) (@xAaf _) rfl) rfl rfl rfl rfl rfl) rfl)) (@xAag _ _ _ (@ps_if _ _ _ _ _ _ _ _ (@xAam _ _ _ _ _ _ _ _ (xAqd (hu63 hr)) (@pq _ 11 _ _ rfl) (@xAbo _ _ _ _ _ _ _ (["_law_one"]) ([]) _ _ _ _ _ rfl (@xAbf _ _ _ _ (@xAbr _ _ _ _ _ _ hu1 (@pq _ 0 _ _ rfl) (@xAar _ _ _ _) (fun _ _=>rfl))) ⟨rfl,by decide +kernel,by decide +kernel⟩ (caps0 (by decide +kernel)) (fun _ _ _=>(@xAal _ _ (0) _ (by show List.Nodup (["_law_one"]:List Str);decide +kernel) rfl (Or.inl rfl) (.inr rfl))) (fun _=>xAbd rfl) (fun _ _ _=>(@xAcl _)) (fun _ _ _=>(@pe_ix _ _ _ _ _ _ _ (xAcp (K:=K) rfl) (@pq _ 0 _ _ rfl) (@xAah _ _ _ _) (fun _ _=>rfl))) (by intro _;rfl)) rfl) (@xAag _ _ _ (@ps_if _ _ _ _ _ _ _ _ (@xAcm _ _ _ (@PW.pt _ _ _ (@pw_or _ _ _ _ _ _ _ (@xAfl _ _ _ (@pq _ 4 _ _ rfl) (by intro _;rfl)) (@xAgf _ _ _ _ (@xAkb _ _ _ _ (@xAfl _ _ _ (@xAai _ _ _ _ _ _ _ _ _ _ _ _ _ _ _ _ gfAh (hr.mono (by decide)) rfl T.m_fAh T.k_fAh T.d_fAh .nil pass0 (@xAaa _ _ _ _ _ (@pq _ 0 _ _ rfl) (@xAaa _ _ _ _ _ (@pq _ 9 _ _ rfl) (@xAaa _ _ _ _ _ (@pq _ 11 _ _ rfl) (@xAaf _) rfl) rfl) rfl) (by decide) rfl rfl) (by intro _;rfl))))))) (@xAag _ _ _ (@xAbm _ _ _ _ (@pe_bm _ _ _ _ _ _ _ _ _ _ _ _ PySem.F.plainAttrs_list PySem.F.slot_list_append PySem.F.type_list_append xAay (@xAbr _ _ _ _ _ _ hu1 (@pq _ 0 _ _ rfl) (@xAar _ _ _ _) (fun _ _=>rfl)) (@xAaa _ _ _ _ _ (@xAao _ _ _ _ _ (@xAaa _ _ _ _ _ (@pq _ 11 _ _ rfl) (@xAaa _ _ _ _ _ (@pq _ 9 _ _ rfl) (@xAaa _ _ _ _ _ (@pq _ 7 _ _ rfl) (@xAaa _ _ _ _ _ (@pq _ 10 _ _ rfl) (@xAaf _) rfl) rfl) rfl) rfl)) (@xAaf _) rfl) rfl rfl rfl rfl rfl) rfl)) (@xAav _))) (@xAav _))))))))))))),?_⟩;obtain ⟨fa,F,p,lp,q,c,m,h,g,ys,bs,es,cs,rs,cu,k,rfl,fb,en,ep,po,lt,q0,q1,q2,qp,le,hh,hk,kk⟩:=h
 have nfa:¬ evS F p lp fa:=by
  rintro (z | z | z | z | z)
  ·exact en.pa z.symm
  ·exact en.la z.symm
  ·exact rd_ne fb.dk fb.eb z
  ·exact rd_ne fb.dk fb.ev z
  ·exact rd_ne fb.dk fb.ec z
 have rdD:Rd (dels H (evS F p lp)) fa (.dK (fkv F 9)):=by
  rcases fb.dk with e | ⟨o,e⟩
  ·exact .inl (by rw [xAbg nfa];exact e)
  ·exact .inr ⟨o,by rw [xAbg nfa];exact e⟩
 have inj:=fb.inj
 have restD:∀ i,i<9->3≤i->dels H (evS F p lp) (F i)=some (.lst []):=fun i hi h3=>by
  rw [xAbg]
  ·exact fb.rest i hi h3
  ·rintro (z | z | z | z | z)
   ·exact en.pF i hi z.symm
   ·exact en.lF i hi z.symm
   ·exact absurd (inj i hi 0 (by decide) z) (by omega)
   ·exact absurd (inj i hi 1 (by decide) z) (by omega)
   ·exact absurd (inj i hi 2 (by decide) z) (by omega)
 have C:EC (dels H (evS F p lp)) F p lp:=⟨xAax (.inl rfl),xAax (.inr (.inl rfl)),xAax (.inr (.inr (.inl rfl))),xAax (.inr (.inr (.inr (.inl rfl)))),xAax (.inr (.inr (.inr (.inr rfl)))),en.pl,en.pF 0 (by decide),en.pF 1 (by decide),en.pF 2 (by decide),en.lF 0 (by decide),en.lF 1 (by decide),en.lF 2 (by decide),fun z=>absurd (inj 0 (by decide) 1 (by decide) z) (by decide),fun z=>absurd (inj 0 (by decide) 2 (by decide) z) (by decide),fun z=>absurd (inj 1 (by decide) 2 (by decide) z) (by decide)⟩;have hbl:=fb.fi.bl;have hvl:=fb.fi.vl;have hcl:=fb.fi.cl;have fin:∀ {X:Hp} {q':Addr} {c' m' h' g':Int} {ys' bs' es' cs':List V} {rs':List Pc} {cu':List (List Key)},ES (dels H (evS F p lp)) X F p lp q' c' m' h' g' ys' bs' es' cs'->FI X bs' es' cs' rs' cu' (k+1)->(∀ r∈rs',Le2 r.ka r.kb h' g')->h'≤k->Q .non X:=fun e fi le hh=>kk _ _ _ _ _ _ _ _ _ _ e.sd ⟨Rd.same rdD e.sd,inj,fun i hi h3=>e.sd _ _ (restD i hi h3),e.eb,e.ev,e.ec,fi⟩ e.lt e.q0 e.q1 e.q2 le hh;have E0:ES (dels H (evS F p lp)) H F p lp q c m h g ys bs es cs:=⟨xAfd,ep,po,lt,fb.eb,fb.ev,fb.ec,qp,q0,q1,q2⟩;have fi0:=fb.fi;generalize dels H (evS F p lp)=Hd at C rdD restD fin E0;clear kk fb lt nfa en ep po q0 q1 q2 qp;refine ⟨_,rfl,p,c,m,6,rfl,E0.ep,E0.po,by decide,by decide,fun way c1 m1 po1 w0 w1=>?_⟩;obtain ⟨E1,t1⟩:=E0.take C po1;have fi1:=fi0.tups t1;generalize upd H p (.lst [.int c1,.int m1])=X1 at E1 fi1;clear E0 fi0 t1;refine ⟨_,rfl,p,c1,m1,3,rfl,E1.ep,E1.po,by decide,by decide,fun hand c2 m2 po2 hd0 hd1=>?_⟩;obtain ⟨E2,t2⟩:=E1.take C po2;have fi2:=fi1.tups t2;generalize upd X1 p (.lst [.int c2,.int m2])=X2 at E2 fi2;clear E1 fi1 t2;refine ⟨szOk rfl,fun wl Xa ga sa ea=>⟨_,rfl,wl,_,_,rfl,rfl,SqL.of ea,hd0,hd1,fun wv hw=>?_⟩⟩;refine ⟨_,rfl,_,rfl,_,_,rfl,rfl,_,rfl,szOk rfl,fun nl Xb gb sb eb=>⟨_,rfl,nl,_,_,rfl,rfl,SqL.of eb,hd0,hd1,fun xv hx=>?_⟩⟩
 obtain ⟨w,rfl,hw'⟩:∃ w:Str,wv=.str w/\(w = "ann" \/ w = "bo" \/ w = "cyan"):=by
  simp only [List.mem_cons,List.not_mem_nil,or_false] at hw
  rcases hw with rfl | rfl | rfl
  ·exact ⟨_,rfl,.inl rfl⟩
  ·exact ⟨_,rfl,.inr (.inl rfl)⟩
  ·exact ⟨_,rfl,.inr (.inr rfl)⟩
 obtain ⟨x,rfl⟩:∃ x:Int,xv=.int x:=by
  simp only [List.mem_cons,List.not_mem_nil,or_false] at hx
  rcases hx with rfl | rfl | rfl <;> exact ⟨_,rfl⟩
 refine ⟨szOk rfl,fun nq X3 g3 s3 e3=>?_⟩;have s23:=(sa.trans sb).trans s3;have E3:=E2.same s23;have fi3:=fi2.tups s23.tups;have hnm:Nm [.inr w,.inl x]:=⟨w,x,rfl,hw'⟩;have gnm:GK X3 (.tup [.inr w,.inl x]) (.ref nq):=⟨nq,rfl,e3⟩;clear E2 fi2 sa sb s3 s23 ea eb e3 hx ga gb g3;refine ⟨szOk rfl,fun t1 Xa ga sa ea=>⟨szOk rfl,fun l1 Xb gb sb eb=>?_⟩⟩;have s34:=sa.trans sb;have E4:=E3.same s34;have fi4:=fi3.tups s34.tups;have gnm4:=gnm.tups s34.tups;have main4:NmV Xb (.ref t1):=⟨mainK,⟨t1,rfl,sb _ _ ea⟩,.inl rfl⟩;refine ⟨_,rfl,fa,.ref (F 0),rfl,.inl ⟨fkv F 9,.inr "births",Rd.same rdD E4.sd,rfl,(xAcy F 0 (by decide)).symm⟩,F 0,rfl,⟨_,SqL.of E4.eb⟩,xAfs (xs:=bs) (big (by omega)) (fun j zs H'=>H'=Xb/\(∀ z∈zs,NmV Xb z)/\zs.length≤j) ⟨rfl,(fun z y=>nomatch y),qc _⟩ (fun _ _ H' s'=>by rw [s'.1];exact SqL.of E4.eb) (fun j y zs H' K1 K0 hy s' k1 k0=>?_) fun H' l2 zs s' hy hq=>?_⟩
 ·obtain ⟨rfl,okz,hzl⟩:=s'
  obtain ⟨b,vn,vo,x',y',rfl,h1,h2,h3,h4,h5⟩:=fi4.bt y (qo hy);refine iteT (B:=K0 H') ?_;refine ⟨_,rfl,b,_,0,vn,rfl,rfl,SqT.of h1,rfl,k1 _ _ ⟨rfl,fun z hz=>?_,by rw [qg,ql];omega⟩⟩;rcases qw.mp hz with z' | z'
  ·exact okz z z'
  ·rw [qj.mp z'];exact ⟨x',h2,.inr h3⟩
 obtain ⟨rfl,okz,hzl⟩:=s';have nH:Same H' (upd H' l2 (.lst zs)):=Same.new hq;have e2:(upd H' l2 (.lst zs)) l2=some (.lst zs):=xAad;generalize upd H' l2 (.lst zs)=Xc at nH e2;refine ⟨l1,l2,[.ref t1],zs,rfl,rfl,nH _ _ eb,e2,big (by show 1+zs.length≤1000;omega),fun pq X5 g5 s5 e5=>?_⟩;have s45:=nH.trans s5;have E5:=E4.same s45;have fi5:=fi4.tups s45.tups;have gnm5:=gnm4.tups s45.tups
 have okp:∀ z∈[V.ref t1]++zs,NmV X5 z:=fun z hz=>by
  rcases qw.mp hz with y | y
  ·rw [qj.mp y];exact main4.tups s45.tups
  ·exact (okz z y).tups s45.tups
 have hpl:([V.ref t1]++zs).length≤100:=by rw [qg,ql];omega
 have hp1:1≤([V.ref t1]++zs).length:=by rw [qg,ql];omega
 have npq:pq≠p:=(xAab (nH _ _ E4.ep) g5).symm;have npl:pq≠lp:=(xAab (nH _ _ E4.lt.el) g5).symm;have np0:pq≠F 0:=(xAab (nH _ _ E4.eb) g5).symm;generalize [V.ref t1]++zs=pts at okp hpl hp1 e5;clear E4 fi4 gnm4 main4 E3 fi3 gnm s34 sa sb ea eb ga gb nH e2 s5 s45 okz hy hzl hq g5;refine ⟨_,rfl,_,rfl,_,rfl,pq,pts,rfl,.inl (SqL.of e5),p,c2,m2,(pts.length:Int),rfl,E5.ep,E5.po,by omega,by omega,fun r c3 m3 po3 r0 r1=>?_⟩;obtain ⟨E6,t6⟩:=E5.take C po3;have fi6:=fi5.tups t6;have gnm6:=gnm5.tups t6;have okp6:∀ z∈pts,NmV _ z:=fun z hz=>(okp z hz).tups t6
 have e6:(upd X5 p (.lst [.int c3,.int m3])) pq=some (.lst pts):=by rw [xAae npq];exact e5
 generalize upd X5 p (.lst [.int c3,.int m3])=X6 at E6 fi6 gnm6 okp6 e6;clear E5 fi5 gnm5 okp e5 t6;refine ⟨pq,pts,_,rfl,rfl,SqL.of e6,r0,r1,fun vo hvo=>?_⟩;obtain ⟨ou,gou,hou⟩:=okp6 vo hvo;refine ⟨fun b X=>X=X6/\(b=false->pts.length≠1),?_,?_⟩
 ·refine ⟨_,rfl,_,_,rfl,rfl,_,rfl,?_⟩
  by_cases hw3:way<3
  ·exact itT (decide_eq_true hw3) ⟨rfl,fun z=>by cases z⟩
  ·refine itF (decide_eq_false hw3) ?_
   refine ⟨_,rfl,pq,pts,rfl,.inl (SqL.of e6),rfl,_,rfl,rfl,fun z=>?_⟩;have:=of_decide_eq_false z;intro y;exact this (by rw [y];rfl)
 rintro b X ⟨rfl,hb⟩
 cases b with
 | true =>
  refine itT rfl ?_;refine ⟨_,rfl,_,rfl,_,rfl,_,rfl,szOk rfl,fun ol X7 g7 s7 e7=>?_⟩;have E7:=E6.same s7;refine ⟨lp,q,h,g,ys,.ref nq,_,hand,ol,[vo],rfl,E7.lt,gnm6.tups s7.tups,hnm,e7,fun z hz=>by rw [qj.mp hz];exact ⟨ou,gou.tups s7.tups,hou⟩,vd rfl,(xAab E6.lt.el g7).symm,fun X8 kq q' h' ys' s8 lt' gq' ek lt2 hh'=>?_⟩;obtain ⟨E8,t8⟩:=E7.key C s8 lt' gq';have t68:=s7.tups.trans t8;have fi8:=fi6.tups t68;have gnm8:=gnm6.tups t68;have gou8:=gou.tups t68;have lt8:∀ r∈rs,Lt2 r.ka r.kb h' hand:=fun r hr=>(le r hr).lt lt2;clear E6 E7 fi6 gnm6 gou okp6 e6 e7 s7 s8 t8 t68 lt' gq';refine ⟨_,rfl,fa,.ref (F 0),rfl,.inl ⟨fkv F 9,.inr "births",Rd.same rdD E8.sd,rfl,(xAcy F 0 (by decide)).symm⟩,.inl ⟨rfl,_,SqL.of E8.eb⟩,_,rfl,_,rfl,szOk rfl,fun bq X9 g9 s9 e9=>?_⟩;have E9:=E8.same s9;refine ⟨F 0,bs,_,rfl,rfl,E9.eb,xAba (by omega),?_⟩;obtain ⟨E10,t10⟩:=E9.birth C (bs++[.ref bq]);have t810:=s9.tups.trans t10;have fi10:=(fi8.tups t810).birth (v:=.ref bq) ⟨bq,.ref nq,vo,_,ou,rfl,t10 _ _ e9,gnm8.tups t810,hnm,gou8.tups t810,hou⟩;have gnm10:=gnm8.tups t810;have gou10:=gou8.tups t810;have ek10:=t810 _ _ ek;generalize upd X9 (F 0) (.lst (bs++[.ref bq]))=Y at E10 fi10 gnm10 gou10 ek10;clear E8 E9 fi8 gnm8 gou8 s9 e9 t10 t810 ek;refine ⟨_,rfl,p,c3,m3,5,rfl,E10.ep,E10.po,by decide,by decide,fun r5 c4 m4 po4 r50 r51=>?_⟩;obtain ⟨E11,t11⟩:=E10.take C po4;have fi11:=fi10.tups t11;have gnm11:=gnm10.tups t11;have gou11:=gou10.tups t11;have ek11:=t11 _ _ ek10;generalize upd Y p (.lst [.int c4,.int m4])=Y1 at E11 fi11 gnm11 gou11 ek11;clear E10 fi10 gnm10 gou10 ek10 t11;refine ⟨_,_,rfl,rfl,_,rfl,?_⟩
  by_cases h5:r5>0
  ·refine itT (decide_eq_true h5) ?_
   refine ⟨_,rfl,fa,.ref (F 1),rfl,.inl ⟨fkv F 9,.inr "places",Rd.same rdD E11.sd,rfl,(xAcy F 1 (by decide)).symm⟩,.inl ⟨rfl,_,SqL.of E11.ev⟩,_,rfl,_,rfl,_,rfl,_,rfl,szOk rfl,fun tq Z1 gz sz ez=>?_⟩;have E12:=E11.same sz;refine ⟨F 1,es,_,rfl,rfl,E12.ev,xAba (by omega),?_⟩;obtain ⟨E13,t13⟩:=E12.place C (es++[.ref tq]);have tt:=sz.tups.trans t13;refine fin E13 (FI.place (r:=⟨_,ou,_,h',hand⟩) (fi11.tups tt) ⟨tq,.ref nq,vo,.ref nq,kq,rfl,t13 _ _ ez,gnm11.tups tt,gou11.tups tt,gnm11.tups tt,tt _ _ ek11⟩ ⟨hnm,hou,hnm⟩ lt8 (by omega)) (fun r hr=>?_) (by omega);rcases qw.mp hr with z | z
   ·exact (lt8 r z).le
   ·rw [qj.mp z];exact Le2.refl _ _
  ·refine itF (decide_eq_false h5) ?_
   exact fin E11 fi11 (fun r hr=>(lt8 r hr).le) (by omega)
 | false =>
  refine itF rfl ?_;have hp2:=hb rfl;refine ⟨_,rfl,_,rfl,_,rfl,pq,pts,rfl,.inl (SqL.of e6),_,_,rfl,rfl,p,c3,m3,(pts.length:Int) - 1,rfl,E6.ep,E6.po,by omega,by omega,fun r2 c4 m4 po4 r20 r21=>?_⟩;obtain ⟨E7,t7⟩:=E6.take C po4;have fi7:=fi6.tups t7;have gnm7:=gnm6.tups t7;have gou7:=gou.tups t7;have okp7:∀ z∈pts,NmV _ z:=fun z hz=>(okp6 z hz).tups t7
  have e7:(upd X p (.lst [.int c4,.int m4])) pq=some (.lst pts):=by rw [xAae npq];exact e6
  generalize upd X p (.lst [.int c4,.int m4])=X7 at E7 fi7 gnm7 gou7 okp7 e7;clear E6 fi6 gnm6 gou okp6 e6 t7;refine ⟨_,_,rfl,rfl,pq,pts,_,rfl,rfl,SqL.of e7,by omega,by omega,fun vp hvp=>?_⟩;obtain ⟨pt,gpt,hpt⟩:=okp7 vp hvp;refine ⟨_,rfl,_,rfl,_,rfl,_,rfl,_,rfl,szOk rfl,fun ol X8 g8 s8 e8=>?_⟩;have E8:=E7.same s8;refine ⟨lp,q,h,g,ys,.ref nq,_,hand,ol,[vp,vo],rfl,E8.lt,gnm7.tups s8.tups,hnm,e8,fun z hz=>?_,vd rfl,(xAab E7.lt.el g8).symm,fun X9 kq q' h' ys' s9 lt' gq' ek lt2 hh'=>?_⟩
  ·simp only [List.mem_cons,List.not_mem_nil,or_false] at hz
   rcases hz with rfl | rfl
   ·exact ⟨pt,gpt.tups s8.tups,hpt⟩
   ·exact ⟨ou,gou7.tups s8.tups,hou⟩
  obtain ⟨E9,t9⟩:=E8.key C s9 lt' gq';have t79:=s8.tups.trans t9;have fi9:=fi7.tups t79;have gnm9:=gnm7.tups t79;have gou9:=gou7.tups t79;have gpt9:=gpt.tups t79;have lt9:∀ r∈rs,Lt2 r.ka r.kb h' hand:=fun r hr=>(le r hr).lt lt2;clear E7 E8 fi7 gnm7 gou7 gpt okp7 e7 e8 s8 s9 t9 t79 lt' gq';refine ⟨fun b Y=>∃ c' m':Int,ES Hd Y F p lp q' c' m' h' hand ys' bs es cs/\Tups X9 Y,?_,?_⟩
  ·refine ⟨_,rfl,rfl,_,rfl,?_⟩
   by_cases h5:V.int way=.int 5
   ·refine itT (decide_eq_true h5) ?_
    refine ⟨_,rfl,p,c4,m4,2,rfl,E9.ep,E9.po,by decide,by decide,fun r5 c5 m5 po5 r50 r51=>?_⟩;obtain ⟨E10,t10⟩:=E9.take C po5;exact ⟨rfl,_,rfl,c5,m5,E10,t10⟩
   ·refine itF (decide_eq_false h5) ?_
    exact ⟨c4,m4,E9,Tups.refl _⟩
  rintro b Y ⟨c5,m5,E10,t10⟩;have fi10:=fi9.tups t10;have gnm10:=gnm9.tups t10;have gou10:=gou9.tups t10;have gpt10:=gpt9.tups t10;have ek10:=t10 _ _ ek;clear E9 fi9 gnm9 gou9 gpt9 ek t10
  cases b with
  | true =>
   refine itT rfl ?_;refine ⟨_,rfl,fa,.ref (F 2),rfl,.inl ⟨fkv F 9,.inr "cuts",Rd.same rdD E10.sd,rfl,(xAcy F 2 (by decide)).symm⟩,.inl ⟨rfl,_,SqL.of E10.ec⟩,_,rfl,_,rfl,szOk rfl,fun tq Z1 gz sz ez=>?_⟩;have E12:=E10.same sz;refine ⟨F 2,cs,_,rfl,rfl,E12.ec,xAba (by omega),?_⟩;obtain ⟨E13,t13⟩:=E12.cut C (cs++[.ref tq]);have tt:=sz.tups.trans t13;exact fin E13 ((fi10.tups tt).cut (r:=pt) ⟨tq,vp,.ref nq,_,rfl,t13 _ _ ez,gpt10.tups tt,hpt,gnm10.tups tt,hnm⟩) (fun r hr=>(lt9 r hr).le) (by omega)
  | false =>
   refine itF rfl ?_;refine ⟨_,rfl,_,rfl,fa,.ref (F 1),rfl,.inl ⟨fkv F 9,.inr "places",Rd.same rdD E10.sd,rfl,(xAcy F 1 (by decide)).symm⟩,F 1,rfl,⟨_,SqL.of E10.ev⟩,xAfs (xs:=es) (big (by omega)) (fun j zs H'=>H'=Y/\DTs Y zs ((rs.take j).map fun r=>tD r.pt)/\zs.length≤j) ⟨rfl,.nil,qc _⟩ (fun _ _ H' s'=>by rw [s'.1];exact SqL.of E10.ev) (fun j y zs H' K1 K0 hy s' k1 k0=>?_) fun H' l2 zs s' hy hq=>?_⟩
   ·obtain ⟨rfl,dz,hzl⟩:=s'
    obtain ⟨r,hr,b,vp',vo',vn',kq',rfl,h1,h2,h3,h4,h5⟩:=fi10.pc.at hy;refine iteT (B:=K0 H') ?_;refine ⟨_,rfl,b,_,0,vp',rfl,rfl,SqT.of h1,rfl,k1 _ _ ⟨rfl,?_,by rw [qg,ql];omega⟩⟩;rw [zd,hr,zg];exact xAhb (gk_td h2) dz
   obtain ⟨rfl,dz,hzl⟩:=s';rw [fi10.pc.1,zh] at dz;have nH:Same H' (upd H' l2 (.lst zs)):=Same.new hq;have e2:(upd H' l2 (.lst zs)) l2=some (.lst zs):=xAad;generalize upd H' l2 (.lst zs)=Z at nH e2
   have hlay:PyData.canLayAll0 (rs.map fun r=>tD r.pt)=true:=xAbz fun d hd=>by
    obtain ⟨r,hr,rfl⟩:=qd.mp hd;exact (fi10.w r hr).pt.lay
   have E11:=E10.same nH;have fi11:=fi10.tups nH.tups;refine ⟨tD pt,l2,_,zs,(gk_td (gpt10.tups nH.tups)).dv,rfl,.inl (SqL.of e2),(dz.tups nH.tups).dv,hpt.lay,hlay,qk (xAbt pt) (by decide),_,rfl,?_⟩;rw [if_neg (by decide)]
   cases hb:((rs.map fun r=>tD r.pt).any fun d=>PyData.eqv d (tD pt)) with
   | false =>
    refine itF rfl ?_;exact fin E11 (fi11.mono (by omega)) (fun r hr=>(lt9 r hr).le) (by omega)
   | true =>
    refine itT rfl ?_;obtain ⟨d,hd,hde⟩:=wg.mp hb;obtain ⟨r,hr,rfl⟩:=qd.mp hd;rw [xAdf] at hde;have hptr:pt=r.pt:=(of_decide_eq_true hde).symm
    have hNm:Nm pt:=by rw [hptr];exact (fi10.w r hr).pt
    refine ⟨fun b Y=>b=true/\Y=Z,⟨_,rfl,true,rfl,itT rfl ⟨rfl,rfl⟩⟩,?_⟩;rintro b Y' ⟨rfl,rfl⟩;refine itT rfl ?_;refine ⟨_,rfl,fa,.ref (F 1),rfl,.inl ⟨fkv F 9,.inr "places",Rd.same rdD E11.sd,rfl,(xAcy F 1 (by decide)).symm⟩,.inl ⟨rfl,_,SqL.of E11.ev⟩,_,rfl,_,rfl,_,rfl,_,rfl,szOk rfl,fun tq Z1 gz sz ez=>?_⟩;have E12:=E11.same sz;refine ⟨F 1,es,_,rfl,rfl,E12.ev,xAba (by omega),?_⟩;obtain ⟨E13,t13⟩:=E12.place C (es++[.ref tq]);have tt:=(nH.trans sz).tups.trans t13;refine fin E13 (FI.place (r:=⟨pt,ou,_,h',hand⟩) ((fi10.tups tt).mono (by omega)) ⟨tq,vp,vo,.ref nq,kq,rfl,t13 _ _ ez,gpt10.tups tt,gou10.tups tt,gnm10.tups tt,tt _ _ ek10⟩ ⟨hNm,hou,hnm⟩ lt9 (by omega)) (fun r hr=>?_) (by omega);rcases qw.mp hr with z | z
    ·exact (lt9 r z).le
    ·rw [qj.mp z];exact Le2.refl _ _
theorem ok_fAr (T:Txt K mg d tk) (gfAi:FnOk P w K mg base CX0 2 d.fAi d.fAid ["_law_facts_here"] (sp_fAi K)):FnOk P w K mg base CX0 3 d.fAr d.fArd ["_law_facts_here"] (sp_fAr K):=by
 refine T.F_fAr.ok xAhg (fun vs H Q E h=>xAuy h) (fun cdv A outer s H vs Q E hr h=>?_);have hu:(A.deeper (envOfC "_law_shown" (defScope s_fAr) s.heap.objs.size d.fAr cdv)).units<cLine:=hr.units0;have hu1:(A.deeper (envOfC "_law_shown" (defScope s_fAr) s.heap.objs.size d.fAr cdv)).units+1<cLine:=hu_of hr;refine ⟨_,(@xAac _ _ _ _ _ (@xAak _ _ (1) _ _ _ _ xAhg.nd rfl (Or.inl rfl) (@xAai _ _ _ _ _ _ _ _ _ _ _ _ _ _ _ _ gfAi (hr.mono (by decide)) rfl T.m_fAi T.k_fAi T.d_fAi .nil pass0 (@xAaa _ _ _ _ _ (@pq _ 0 _ _ rfl) (@xAaf _) rfl) (by decide) rfl rfl) rfl (.inl rfl)) (@xAac _ _ _ _ _ (@xAkl _ (2) _ _ _ _ _ _ _ _ _ (["_law_one"]) ([]) _ _ _ _ _ xAhg.nd rfl (Or.inl rfl) rfl (@xAbf _ _ _ _ (@xAbr _ _ _ _ _ _ hu1 (@pq _ 0 _ _ rfl) (@xAar _ _ _ _) (fun _ _=>rfl))) ⟨rfl,by decide +kernel,by decide +kernel⟩ (caps0 (by decide +kernel)) (fun _ _ _=>(@xAal _ _ (0) _ (by show List.Nodup (["_law_one"]:List Str);decide +kernel) rfl (Or.inl rfl) (.inr rfl))) (fun _=>xAbd rfl) (fun _ _ _=>(@xAcl _)) (fun _ _ _=>(@pe_ix _ _ _ _ _ _ _ (xAcp (K:=K) rfl) (@pq _ 0 _ _ rfl) (@xAah _ _ _ _) (fun _ _=>rfl))) (by intro _;rfl) rfl (.inl rfl)) (@xAac _ _ _ _ _ (@xAak _ _ (3) _ _ _ _ xAhg.nd rfl (Or.inl rfl) (@xAas _ _ _ _ (@xAaa _ _ _ _ _ (@xAao _ _ _ _ _ (@xAaa _ _ _ _ _ (@xAar _ _ _ _) (@xAaa _ _ _ _ _ (@xAah _ _ _ _) (@xAaf _) rfl) rfl)) (@xAaf _) rfl)) rfl (.inl rfl)) (@xAac _ _ _ _ _ (@xAcd _ _ _ _ _ _ _ _ PassesOwn.never rfl (@xAco _ _ _ _ (@pq _ 1 _ _ rfl)) (@xAal _ _ (4) _ xAhg.nd rfl (Or.inl rfl) (.inl rfl)) (@xAac _ _ _ _ _ (@xAak _ _ (5) _ _ _ _ xAhg.nd rfl (Or.inl rfl) (@pq _ 4 _ _ rfl) rfl (.inl rfl)) (@xAac _ _ _ _ _ (@xAdk _ _ _ _ _ _ PassesOwn.never (@xAcm _ _ _ (@PW.pt _ _ _ (@xAgg _ _ _ _ _ _ _ (@xAam _ _ _ _ _ _ _ _ (xAfy (hu2 hr)) (@pq _ 5 _ _ rfl) (@pq _ 1 _ _ rfl) rfl) (@xAdj _ _ _ _ (@xAam _ _ _ _ _ _ _ _ (xAhv (hu63 hr)) (@pq _ 5 _ _ rfl) (@pq _ 2 _ _ rfl) rfl))))) (@xAag _ _ _ (@xAak _ _ (5) _ _ _ _ xAhg.nd rfl (Or.inl rfl) (@xAau _ _ _ _ _ _ (hu2 hr) (@pq _ 1 _ _ rfl) (@pq _ 5 _ _ rfl) (fun _ _=>rfl)) rfl (.inl rfl)))) (@xAag _ _ _ (@ps_if _ _ _ _ _ _ _ _ (@xAam _ _ _ _ _ _ _ _ (xAep (hu64 hr)) (@pq _ 5 _ _ rfl) (@xAao _ _ _ _ _ (@xAaa _ _ _ _ _ (@xAar _ _ _ _) (@xAaa _ _ _ _ _ (@xAah _ _ _ _) (@xAaf _) rfl) rfl)) (xAbb _)) (@xAag _ _ _ (@xAbm _ _ _ _ (@pe_bm _ _ _ _ _ _ _ _ _ _ _ _ PySem.F.plainAttrs_list PySem.F.slot_list_append PySem.F.type_list_append xAay (@pq _ 3 _ _ rfl) (@xAaa _ _ _ _ _ (@pq _ 4 _ _ rfl) (@xAaf _) rfl) rfl rfl rfl rfl rfl) rfl)) (@xAav _))))) (by intro _;rfl)) (@xAag _ _ _ (@xAat _ _ _ _ (@xAaz _ _ _ _ _ _ _ _ _ (xAdq (hu61 hr)) rfl T.b_sorted boot_sorted (@xAaa _ _ _ _ _ (@pq _ 3 _ _ rfl) (@xAaf _) rfl) (by decide) (by decide) rfl rfl))))))),?_⟩;obtain ⟨fa,F,bs,es,cs,rs,cu,k,rfl,fb,hk,hl,kk⟩:=h;have fq:=fb.fq (by omega:k≤100);have W:=xAfg fq.xw;have hcl:=fb.fi.cl;generalize hys:opn (tl rs)=ys at W kk;have L:=lf_lw (cu:=cu) W;have S:=st_lw W
 have hyl:ys.length≤62:=by rw [← hys,xAeh];exact hl
 have hstl:(st ys).length=ys.length:=by unfold st;rw [qf]
 refine ⟨_,rfl,fa,es,rs,rfl,fq,fun H1 da kd s1 gda eda akd=>?_⟩;rw [hys] at akd;have akd:=st_al W akd;have fb1:=fb.same s1;refine ⟨_,rfl,fa,.ref (F 2),rfl,.inl ⟨fkv F 9,.inr "cuts",fb1.dk,rfl,(xAcy F 2 (by decide)).symm⟩,F 2,rfl,⟨_,SqL.of fb1.ec⟩,xAfs (xs:=cs) (big (by omega)) (fun j us X=>X=H1/\AL (NmK X) us (cu.take j)) ⟨rfl,.nil⟩ (fun _ _ X s=>by rw [s.1];exact SqL.of fb1.ec) (fun j x us X K1 K0 hx s' k1 k0=>?_) fun X np us s' hu hq=>?_⟩
 ·obtain ⟨rfl,ae⟩:=s'
  obtain ⟨c,hc,p⟩:=fb1.fi.ct.at hx;obtain ⟨b,vp,vn,y,rfl,h1,h2,h3,h4,h5⟩:=p;refine iteT (B:=K0 X) ?_;refine ⟨_,rfl,b,_,0,vp,rfl,rfl,SqT.of h1,rfl,k1 _ _ ⟨rfl,?_⟩⟩;rw [zd,hc];exact ae.snoc h2
 obtain ⟨rfl,ac⟩:=s';rw [fb1.fi.ct.1,zh] at ac
 have hcpn:∀ c∈cu,Pn c:=fun c hc=>by
  obtain ⟨v,_,b,vp,vn,y,_,_,_,h3,_⟩:=fb1.fi.ct.mem' hc;exact h3
 have sC:Same X (upd X np (.lst us)):=Same.new hq;have eC:(upd X np (.lst us)) np=some (.lst us):=xAad;generalize upd X np (.lst us)=X1 at sC eC;refine ⟨szOk rfl,fun tm X2 g2 s2 e2=>⟨szOk rfl,fun sa X3 g3 s3 e3=>?_⟩⟩;have s13:=(sC.trans s2).trans s3;have s03:=s1.trans s13;have ed3:=s13 _ _ eda;have fsa:H sa=none:=(s1.trans (sC.trans s2)).free g3;refine ⟨_,rfl,da,kd,rfl,.inl ⟨ed3,fun o=>?_⟩⟩;have nds:da≠sa:=xAab ((sC.trans s2) _ _ eda) g3;have eY:(upd X3 da (.frz o (.dG kd))) da=some (.frz o (.dG kd)):=xAad
 have toY:∀ {b u},H b=some u->(upd X3 da (.frz o (.dG kd))) b=some u:=fun e=>by rw [xAae (xAab e gda)];exact s03 _ _ e
 have tY:Tups X3 (upd X3 da (.frz o (.dG kd))):=fun b xs e=>by rw [xAae (fun z=>by rw [z,ed3] at e;cases e)];exact e
 have eSY:(upd X3 da (.frz o (.dG kd))) sa=some (.lst [.ref tm]):=by rw [xAae nds.symm];exact e3
 have ncd:np≠da:=fun z=>by rw [z,eda] at hq;cases hq
 have ncs:np≠sa:=xAab (s2 _ _ eC) g3
 have eCY:(upd X3 da (.frz o (.dG kd))) np=some (.lst us):=by rw [xAae ncd];exact s3 _ _ (s2 _ _ eC)
 have gm:GK (upd X3 da (.frz o (.dG kd))) (.tup mainK) (.ref tm):=⟨tm,rfl,tY _ _ (s3 _ _ e2)⟩;have aY:=(akd.imp fun e x q=>q.imp (R':=OuN X3) s13.tups fun r=>r.tups s13.tups).imp fun e x q=>q.imp (R':=OuN (upd X3 da (.frz o (.dG kd)))) tY fun r=>r.tups tY;have acY:AL (NmK (upd X3 da (.frz o (.dG kd)))) us cu:=(ac.imp fun v k z=>NmK.tups z s13.tups).imp fun v k z=>NmK.tups z tY;generalize upd X3 da (.frz o (.dG kd))=Y at eY toY eSY eCY gm aY acY;refine xAca (fun j σ X=>∃ (ws:List V) (u4 u5:Option V),σ=[some (.ref fa),some (.ref da),some (.ref np),some (.ref sa),u4,u5]/\Same (del Y sa) X/\X sa=some (.lst ws)/\AL (NmK X) ws (mainK::(((st ys).take j).map (·.pt)).filter (shq ys cu))) ⟨[.ref tm],none,none,rfl,(fun b u e=>xAbp _ _ e),eSY,.cons gm .nil⟩ (fun j σ X ⟨_,_,_,_,s,_⟩=>s _ _ (by rw [xAaj nds];exact eY)) ?_ ?_
 ·rintro j e σ X hx ⟨ws,u4,u5,rfl,sX,eX,aX⟩
  have tX:Tups Y X:=xAbl eSY (fun ys z=>nomatch z) sX;obtain ⟨r,hr,p1,p2,p3⟩:=aY.at hx;have hrm:=qo hr;have hjl:j<(st ys).length:=(qv.mp hr).1;have gp:=p2.tups tX;have edX:X da=some (.frz o (.dG kd)):=sX _ _ (by rw [xAaj nds];exact eY);have ecX:X np=some (.lst us):=sX _ _ (by rw [xAaj ncs];exact eCY);have aXd:=aY.imp fun e x q=>q.imp (R':=OuN X) tX fun r=>r.tups tX;have acX:=acY.imp fun v k z=>NmK.tups z tX
  have hws:ws.length≤63:=by
   rw [aX.1,qx];have:=ve (shq ys cu) (((st ys).take j).map (·.pt));rw [qf,zo] at this;omega
  refine ⟨_,rfl,?_⟩
  refine ⟨fun m σ Z=>∃ (ini:List (List Key)) (las:List Key) (vh:V),σ=[some (.ref fa),some (.ref da),some (.ref np),some (.ref sa),some e.2.1,some vh]/\Z=X/\GK X (nd las) vh/\WQ (gX (lf ys cu)) r.pt ini las/\Qn las/\m=102 - ini.length,
   ⟨102,[],r.pt,e.2.1,rfl,rfl,gk_nd (S.pt r hrm).ne gp,.one,.inr (.inr (S.pt r hrm)),rfl⟩,?_⟩
  rintro m σ Z ⟨ini,las,vh,rfl,rfl,gh,wq,hqn,rfl⟩;have hfit:=wq.fits;have hlf:(lf ys cu).length≤100:=L.few;refine ⟨fun b Z1=>Z1=Z/\(b=true↔gX (lf ys cu) las≠none),?_,?_⟩
  ·refine ⟨_,rfl,_,rfl,da,kd,nd las,rfl,.inr ⟨o,edX⟩,gh,_,rfl,?_⟩
   rw [if_neg (by decide),xAtr aXd S.nd S.nz]
   cases hg:gX (st ys) las with
   | none =>
    refine itF rfl ⟨rfl,⟨(fun z=>by cases z),fun z=>?_⟩⟩
    by_cases y:las∈cu
    ·exact absurd (xArl y) z
    ·rw [xArm W y,hg] at z;exact absurd rfl z
   | some q =>
    have hpl:Pn las:=by
     obtain ⟨x,hx',ex,_⟩:=gX_in hg;rw [← ex];exact .inr (S.pt x hx')
    refine itT rfl ?_;refine ⟨_,rfl,_,rfl,tD las,np,_,us,(gk_td (gk_dn hpl.ne gh)).dv,rfl,.inl (SqL.of ecX),(xAbv acX).dv,hpl.lay,(xAei hcpn).1,qk (xAbt las) (by decide),_,rfl,?_⟩;rw [if_pos rfl];refine ⟨rfl,?_⟩
    by_cases y:las∈cu
    ·rw [xAok.mpr y,xArl y]
     exact ⟨fun z=>(by cases z),fun z=>absurd rfl z⟩
    ·rw [wu.mpr fun z=>y (xAok.mp z),xArm W y,hg]
     exact ⟨(fun _ z=>nomatch z),fun _=>rfl⟩
  rintro b Z1 ⟨rfl,hb⟩
  cases b with
  | true =>
   refine itT rfl ?_;obtain ⟨q,hq'⟩:=v4.mp (hb.mp rfl)
   have hst:gX (st ys) las=some q:=by
    by_cases y:las∈cu
    ·rw [xArl y] at hq';cases hq'
    ·rw [← xArm W y];exact hq'
   obtain ⟨v',hv',gv'⟩:=al_gn aXd S.nd S.nz hst;have wq':=wq.on hq' (L.las_no wq);have hfit':=wq'.fits;rw [qg,ql] at hfit';refine ⟨fun σ' Z'=>∃ m',m'<102 - ini.length/\∃ (ini:List (List Key)) (las:List Key) (vh:V),σ'=[some (.ref fa),some (.ref da),some (.ref np),some (.ref sa),some e.2.1,some vh]/\Z'=Z1/\GK Z1 (nd las) vh/\WQ (gX (lf ys cu)) r.pt ini las/\Qn las/\m'=102 - ini.length,fun _ _ z=>z,?_⟩;refine ⟨_,rfl,_,rfl,da,kd,nd las,v',rfl,.inr ⟨o,edX⟩,gh,hv',102 - (ini.length+1),by omega,ini++[las],q,v',rfl,rfl,gv',wq',?_,by rw [qg,ql]⟩;obtain ⟨x,hx',_,eo⟩:=gX_in hst;rw [← eo];exact S.ou x hx'
  | false =>
   refine itF rfl ?_
   have hend:gX (lf ys cu) las=none:=by
    cases q:gX (lf ys cu) las with
    | none=>rfl
    | some u=>exact absurd (hb.mpr (by rw [q];exact fun z=>nomatch z)) qm
   have hcm:=L.comes wq hend
   have tk:((st ys).take (j+1)).map (·.pt)=((st ys).take j).map (·.pt)++[r.pt]:=by rw [zd,hr,zg];rfl
   refine ⟨_,rfl,szOk rfl,fun tq Z2 g2' s2' e2'=>?_⟩;have t2:=s2'.tups
   have skip:¬ las=mainK->(∃ (ws:List V) (u4 u5:Option V),[some (V.ref fa),some (.ref da),some (.ref np),some (.ref sa),some e.2.1,some vh]=[some (.ref fa),some (.ref da),some (.ref np),some (.ref sa),u4,u5]/\Same (del Y sa) Z2/\Z2 sa=some (.lst ws)/\AL (NmK Z2) ws (mainK::(((st ys).take (j+1)).map (·.pt)).filter (shq ys cu))):=fun hl=>by
    refine ⟨ws,_,_,rfl,sX.trans s2',s2' _ _ eX,?_⟩;rw [tk,ww,yp (by rw [shq_no fun z=>hl (hcm.mp z)];exact qm),wn,we];exact aX.imp fun v k z=>NmK.tups z t2
   by_cases h0:las=[]
   ·have hv0:vh=.non:=by rw [h0] at gh;exact gh
    subst hv0;refine ⟨.none,tD mainK,.non,(gk_td (ks:=mainK) ⟨tq,rfl,e2'⟩).dv,rfl,xAfa,qk (zq _ _) (by decide),_,rfl,?_⟩;refine itF rfl (skip fun z=>by rw [h0] at z;cases z)
   have hpl:Pn las:=hqn.resolve_left h0;refine ⟨tD las,tD mainK,(gk_td (gk_dn h0 (gh.tups t2))).dv,(gk_td (ks:=mainK) ⟨tq,rfl,e2'⟩).dv,hpl.lay,xAfa,qk (zq _ _) (qk (xAbt las) (by decide)),_,rfl,?_⟩;rw [if_neg (by decide),xAdf]
   by_cases hl:las=mainK
   ·refine itT (decide_eq_true hl) ?_
    refine ⟨_,rfl,.inl ⟨rfl,_,SqL.of (s2' _ _ eX)⟩,_,rfl,sa,ws,_,rfl,rfl,s2' _ _ eX,huge (by omega),?_⟩;have tw:Tups Z2 (upd Z2 sa (.lst (ws++[e.2.1]))):=Tups.wl (s2' _ _ eX);refine ⟨_,_,_,rfl,(sX.trans s2').wr xAbk,xAad,?_⟩;rw [tk,ww,yo (xAmr.mpr (hcm.mpr hl)),wn];exact ((aX.imp fun v k z=>NmK.tups z t2).imp fun v k z=>NmK.tups z tw).snoc ((gp.tups t2).tups tw)
   ·exact itF (decide_eq_false hl) (skip hl)
 rintro σ X' ⟨ws,u4,u5,rfl,sX,eX,aX⟩;have:kd.length=(st ys).length:=aY.1;rw [this,zh] at aX;have hnd:(mainK::((st ys).map (·.pt)).filter (shq ys cu)).Nodup:=ze.mpr ⟨fun z=>S.main (wc.mp z).1,S.nd.sublist vy⟩
 have hm:∀ a,a∈mainK::((st ys).map (·.pt)).filter (shq ys cu)↔Sh ys cu a:=fun a=>by
  rw [qy,wc,xAmr];constructor
  ·rintro (h | ⟨_,h⟩)
   ·exact .inl h
   ·exact (Sh.iff W a).mp h
  ·rintro (h | ⟨h1,h2⟩)
   ·exact .inl h
   ·obtain ⟨x,hx,rfl⟩:=qd.mp h1
    exact .inr ⟨qd.mpr ⟨x,(lf_in hx).1,rfl⟩,h2⟩
 have hpn:∀ a∈mainK::((st ys).map (·.pt)).filter (shq ys cu),Pn a:=fun a ha=>((hm a).mp ha).pn W;have hll:=xAuf hnd hm;generalize mainK::((st ys).map (·.pt)).filter (shq ys cu)=ls at aX hnd hm hpn hll;refine ⟨_,rfl,sa,ws,_,3,rfl,SqL.of eX,(xAbv aX).dv,xAit hpn,by have:=aX.1;omega,fun q X4 ix gq s4 six e4=>?_⟩;obtain ⟨ms,am,wk,nd',hm'⟩:=xAmq aX hnd six
 have sHX:Same H X':=fun b u e=>sX _ _ (by rw [xAaj (xAab e fsa)];exact toY e)
 exact kk X4 q _ ms (sHX.trans s4) (sHX.free gq) e4 (am.imp fun v k z=>NmK.tups z s4.tups) wk nd' fun a=>(hm' a).trans (hm a)
theorem ok_fAs (T:Txt K mg d tk) (gfAe:FnOk P w K mg base CX0 3 d.fAe d.fAed ["telling","parts"] (sp_fAe K)) (gfAz:FnOk P w K mg base CX0 1 d.fAz d.fAzd ["outer_of","part","ended"] (sp_fAz K)):FnOk P w K mg base CX0 4 d.fAs d.fAsd ["telling"] (sp_fAs K):=by
 refine T.F_fAs.ok xAhh (fun vs H Q E h=>xAun h) (fun cdv A outer s H vs Q E hr h=>?_);have hu:(A.deeper (envOfC "turned_in" (defScope s_fAs) s.heap.objs.size d.fAs cdv)).units<cLine:=hr.units0;refine ⟨_,(@xAac _ _ _ _ _ (@xAak _ _ (1) _ _ _ _ xAhh.nd rfl (Or.inl rfl) (@xAbx _ _ _ _ _ _ _ _ _ (xAcg hr.hd (hu4 hr)) rfl T.b_dict boot_dict (@xAaa _ _ _ _ _ (@xAbo _ _ _ _ _ _ _ (["part","place"]) ([]) _ _ _ _ _ rfl (@xAct _ _ _ _ _ _ _ _ (@pq _ 0 _ _ rfl) rfl rfl) ⟨rfl,by decide +kernel,by decide +kernel⟩ (caps0 (by decide +kernel)) (fun _ _ _=>(@xAfm _ _ _ _ _ (2) rfl (@xAaq _ _ _ _ _ (@xAal _ _ (0) _ (by show List.Nodup (["part","place"]:List Str);decide +kernel) rfl (Or.inl rfl) (.inr rfl)) (@xAaq _ _ _ _ _ (@xAal _ _ (1) _ (by show List.Nodup (["part","place"]:List Str);decide +kernel) rfl (Or.inl rfl) (.inr rfl)) (@xAdb _) rfl) rfl) rfl rfl)) (fun _=>xAcf rfl rfl (by decide)) (fun _ _ _=>(@xAcl _)) (fun _ _ _=>(@xAao _ _ _ _ _ (@xAaa _ _ _ _ _ (@pq _ 0 _ _ rfl) (@xAaa _ _ _ _ _ (@pe_ix _ _ _ _ _ _ _ (xAcp (K:=K) rfl) (@pq _ 1 _ _ rfl) (@xAah _ _ _ _) (fun _ _=>rfl)) (@xAaf _) rfl) rfl))) (by intro _;rfl)) (@xAaf _) rfl) (by decide) (by decide) rfl rfl) rfl (.inl rfl)) (@xAac _ _ _ _ _ (@xAak _ _ (2) _ _ _ _ xAhh.nd rfl (Or.inl rfl) (@xAcs _ _) rfl (.inl rfl)) (@xAac _ _ _ _ _ (@xAak _ _ (3) _ _ _ _ xAhh.nd rfl (Or.inl rfl) (@xAcs _ _) rfl (.inl rfl)) (@xAac _ _ _ _ _ (@xAcd _ _ _ _ _ _ _ _ PassesOwn.never rfl (@xAco _ _ _ _ (@pq _ 0 _ _ rfl)) (@xAal _ _ (4) _ xAhh.nd rfl (Or.inl rfl) (.inl rfl)) (@xAac _ _ _ _ _ (@xAak _ _ (5) _ _ _ _ xAhh.nd rfl (Or.inl rfl) (@xAai _ _ _ _ _ _ _ _ _ _ _ _ _ _ _ _ gfAz (hr.mono (by decide)) rfl T.m_fAz T.k_fAz T.d_fAz .nil pass0 (@xAaa _ _ _ _ _ (@pq _ 1 _ _ rfl) (@xAaa _ _ _ _ _ (@pq _ 4 _ _ rfl) (@xAaa _ _ _ _ _ (@pq _ 3 _ _ rfl) (@xAaf _) rfl) rfl) rfl) (by decide) rfl rfl) rfl (.inl rfl)) (@xAij _ _ _ _ _ (@ps_if _ _ _ _ _ _ _ _ (@xAam _ _ _ _ _ _ _ _ op_gt (@pe_bm _ _ _ _ _ _ _ _ _ _ _ _ PySem.F.plainAttrs_list PySem.F.slot_list_count PySem.F.type_list_count (xAnm (hu61 hr)) (@pq _ 5 _ _ rfl) (@xAaa _ _ _ _ _ (@pe_ix _ _ _ _ _ _ _ xAaw (@pq _ 5 _ _ rfl) (@pe_un _ _ _ _ _ _ xAgh (@xAah _ _ _ _)) (fun _ _=>rfl)) (@xAaf _) rfl) rfl rfl rfl rfl rfl) (@xAah _ _ _ _) (xAbb _)) (@xAag _ _ _ (@xAbj _ _ _ _ _ _ _ _ _ (hu2 hr) (@pq _ 2 _ _ rfl) (@xAai _ _ _ _ _ _ _ _ _ _ _ _ _ _ _ _ gfAe (hr.mono (by decide)) rfl T.m_fAe T.k_fAe T.d_fAe .nil pass0 (@xAaa _ _ _ _ _ (@pq _ 0 _ _ rfl) (@xAaa _ _ _ _ _ (@xAkg _ _ _ _ _ _ _ _ _ _ xAko (@pq _ 5 _ _ rfl) (@xAkf _ _ _ (@pe_bm _ _ _ _ _ _ _ _ _ _ _ _ PySem.F.plainAttrs_list PySem.F.slot_list_index PySem.F.type_list_index (xAnl (hu61 hr)) (@pq _ 5 _ _ rfl) (@xAaa _ _ _ _ _ (@pe_ix _ _ _ _ _ _ _ xAaw (@pq _ 5 _ _ rfl) (@pe_un _ _ _ _ _ _ xAgh (@xAah _ _ _ _)) (fun _ _=>rfl)) (@xAaf _) rfl) rfl rfl rfl rfl rfl)) (@xAkf _ _ _ (@pe_un _ _ _ _ _ _ xAgh (@xAah _ _ _ _)))) (@xAaf _) rfl) rfl) (by decide) rfl rfl) (@pe_bl _ _ _ _) rfl)) (@xAav _)) (@xAag _ _ _ (@xAcd _ _ _ _ _ _ _ _ PassesOwn.never rfl (@xAbf _ _ _ _ (@pq _ 5 _ _ rfl)) (@xAal _ _ (6) _ xAhh.nd rfl (Or.inl rfl) (.inl rfl)) (@xAag _ _ _ (@xAbj _ _ _ _ _ _ _ _ _ (hu2 hr) (@pq _ 3 _ _ rfl) (@pq _ 6 _ _ rfl) (@pe_bl _ _ _ _) rfl)) (by intro _;rfl))))) (by intro _;rfl)) (@xAag _ _ _ (@xAat _ _ _ _ (@pq _ 2 _ _ rfl))))))),?_⟩;obtain ⟨tq,kt,xs,rfl,htq,akt,W,tb,kk⟩:=h;have hfew:=W.few
 have ntP:tq≠PTa K:=fun z=>by
  obtain ⟨ps,t⟩:=tb.tbl;rcases htq with e | ⟨o,e⟩ <;> rw [z,t] at e <;> cases e
 refine ⟨_,rfl,tq,kt,rfl,xAck htq fun o Y hY fY eY=>?_⟩
 have sS0:Same (dels H (sS K tq)) Y:=fun b u e=>by
  have nb:¬ sS K tq b:=fun z=>by rw [xAax z] at e;cases e
  rw [xAbg nb] at e;exact hY b u (fun z=>nb (.inl z)) e
 have tbY:TBL K Y:=tb.keep fun b u e hu=>hY b u (fun z=>by
  subst z;rcases htq with q | ⟨o',q⟩
  ·rw [q] at e;cases e;rcases hu with ⟨ps,y⟩ | ⟨φ,y⟩ <;> cases y
  ·rw [q] at e;cases e;rcases hu with ⟨ps,y⟩ | ⟨φ,y⟩ <;> cases y) e
 have tY:Tups H Y:=fun b us e=>hY b _ (fun z=>by
  subst z
  rcases htq with q | ⟨o',q⟩ <;> rw [q] at e <;> cases e) e
 have aY:=akt.imp fun e x q=>q.imp (R':=PC Y) tY fun r=>r.tups tY;refine xAdh (big (by rw [aY.1];omega)) (fun j ys X=>Same Y X/\∃ es:List (KD×V×V),PrsV X ys es/\AL (EK (OuR X) X) es (xs.take j)) ⟨Same.refl _,[],trivial,.nil⟩ (fun _ _ X s'=>s'.1 _ _ eY) (fun j e ys X p K1 K0 hx s' hp k1 k0=>?_) fun X np ys s' hy hq=>?_
 ·obtain ⟨sX,es',pr,ae⟩:=s'
  obtain ⟨r,hr,p1,p2,p3⟩:=aY.at hx;have sp:Same X (upd X p (.tup [e.2.1,e.2.2])):=Same.new hp;have ep:(upd X p (.tup [e.2.1,e.2.2])) p=some (.tup [e.2.1,e.2.2]):=xAad;generalize upd X p (.tup [e.2.1,e.2.2])=X1 at sp ep;have sX1:=sX.trans sp;obtain ⟨b,vp,vo,vn,kq,hbv,h1,h2,h3,h4,h5⟩:=p3.tups sX1.tups;refine ⟨p,_,rfl,SqT.of ep,rfl,_,_,rfl,_,_,rfl,rfl,?_⟩;refine iteT (B:=K0 X1) ?_;refine ⟨_,rfl,_,rfl,b,_,1,vo,hbv,rfl,SqT.of h1,rfl,szOk rfl,fun t3 X3 g3 s3 e3=>?_⟩;have sX3:=sp.trans s3;refine k1 _ _ ⟨sX.trans sX3,es'++[(.tup r.pt,e.2.1,vo)],?_,?_⟩
  ·exact PrsV.snoc (e:=(.tup r.pt,e.2.1,vo)) ⟨t3,rfl,e3,(p2.tups sX1.tups).tups s3.tups⟩ (pr.tups sX3.tups)
  ·rw [zd,hr]
   exact (ae.imp fun e x p=>p.imp sX3.tups fun q=>q.tups sX3.tups).snoc ⟨rfl,(p2.tups sX1.tups).tups s3.tups,GK.tups h3 s3.tups⟩
 obtain ⟨sX,es',pr,ae⟩:=s';rw [aY.1,zh] at ae;have nH:Same X (upd X np (.lst ys)):=Same.new hq;refine ⟨np,ys,es',rfl,SqL.of xAad,pr.tups nH.tups,?_,fun oa X2 g2 s2 e2=>?_⟩
 ·have:ys.length≤kt.length:=hy
  have:=aY.1;omega
 rw [xAch _ [] (by rw [wb];exact xAcz ae W.nd),wb] at e2;have sY2:=(sX.trans nH).trans s2;have ao:AL (EK (OuR X2) X2) es' xs:=ae.imp fun e x p=>p.imp (nH.trans s2).tups fun q=>q.tups (nH.trans s2).tups;have foa:Y oa=none:=(sX.trans nH).free g2;clear ae pr hq hy nH;intro tu X3 g3 s3 e3;intro en X4 g4 s4 e4;have s24:=s3.trans s4;have sY4:=sY2.trans s24;have ftu:Y tu=none:=sY2.free g3;have fen:Y en=none:=(sY2.trans s3).free g4;have nte:tu≠en:=xAab e3 g4
 have ntP':tu≠PTa K:=fun z=>by
  obtain ⟨ps,t⟩:=tbY.tbl;rw [← z,ftu] at t;cases t
 have neP':en≠PTa K:=fun z=>by
  obtain ⟨ps,t⟩:=tbY.tbl;rw [← z,fen] at t;cases t
 let S2:Addr->Prop:=fun b=>b=tu\/b=en\/b=PTa K
 have fix:∀ {Z:Hp} {b:Addr} {u:HO},Same (dels X4 S2) Z->X4 b=some u->(∀ ps,u≠.tbl ps)->b≠tu->b≠en->Z b=some u:=fun {Z b u} s e hu h1 h2=>xAci s e fun z=>by
  rcases z with z | z | z
  ·exact h1 z
  ·exact h2 z
  ·obtain ⟨ps,t⟩:=(tbY.same sY4).tbl
   rw [z,t] at e;exact hu ps (Option.some.inj e).symm
 have tb4:=tbY.same sY4
 have fixT:∀ {Z:Hp},Same (dels X4 S2) Z->Tups X4 Z:=fun {Z} s b us e=>fix s e (fun ps z=>nomatch z) (fun z=>by rw [z,s4 _ _ e3] at e;cases e) (fun z=>by rw [z,e4] at e;cases e)
 have etq4:X4 tq=some (.frz o (.dG kt)):=sY4 _ _ eY;have noe:oa≠en:=xAab (s3 _ _ e2) g4;have noo:oa≠tu:=xAab e2 g3
 have ntqt:tq≠tu:=fun z=>by rw [z,s4 _ _ e3] at etq4;cases etq4
 have ntqe:tq≠en:=fun z=>by rw [z,e4] at etq4;cases etq4
 have back:∀ {Z:Hp},Same (dels X4 S2) Z->Same (dels H (sS K tq)) Z:=fun {Z} s b u e=>by
  have nb:¬ sS K tq b:=fun z=>by rw [xAax z] at e;cases e
  rw [xAbg nb] at e;have e':=sY4 _ _ (hY b u (fun z=>nb (.inl z)) e);refine xAci s e' fun z=>?_;rcases z with z | z | z
  ·exact absurd (fY _ ftu) (by rw [← z,e];exact fun y=>nomatch y)
  ·exact absurd (fY _ fen) (by rw [← z,e];exact fun y=>nomatch y)
  ·exact nb (.inr z)
 refine ⟨_,rfl,tq,kt,rfl,.inr ⟨o,etq4,?_⟩⟩
 refine xAca (fun j σ Z=>∃ (E' T':List Key->Prop) (ku ke:List (KD×V×V)) (u4 u5 u6:Option V),σ=[some (.ref tq),some (.ref oa),some (.ref tu),some (.ref en),u4,u5,u6]/\Same (dels X4 S2) Z/\Z tu=some (.dG ku)/\SM ku T'/\Z en=some (.dG ke)/\SN ke E'/\TBL K Z/\ku.length≤j/\ke.length≤200 * j/\(∀ a b,E' a->gX xs a=some b->E' b)/\(∀ a,T' a↔(E' a/\TopX xs a))/\∀ i x,i<j->xs[i]?=some x->E' x.pt)
  ⟨fun _=>False,fun _=>False,[],[],none,none,none,rfl,xAfd,s4 _ _ e3,SM.nil,e4,SN.nil,tb4,qc _,q5 _,(fun a b z=>z.elim),(fun a=>⟨fun z=>z.elim,fun z=>z.1⟩),fun i x z=>absurd z (zk i)⟩ (fun j σ Z ⟨_,_,_,_,_,_,_,_,s,_⟩=>fix s etq4 (fun ps z=>nomatch z) ntqt ntqe) ?_ ?_
 ·rintro j e σ Z hx ⟨E',T',ku,ke,u4,u5,u6,rfl,sZ,etZ,smT,eeZ,smE,tbZ,hkul,hkel,hE,hT,hdone⟩
  have a4:=aY.imp fun e x q=>q.imp (R':=PC X4) sY4.tups fun r=>r.tups sY4.tups;obtain ⟨r,hr,p1,p2,p3⟩:=a4.at hx;have hjl:j<xs.length:=(qv.mp hr).1;have hrm:=qo hr;have tZ:=fixT sZ;have ao4:=ao.imp fun e x q=>q.imp (R':=OuR X4) s24.tups fun r=>r.tups s24.tups;have aoZ:=ao4.imp fun e x q=>q.imp (R':=OuR Z) tZ fun r=>r.tups tZ;have eoZ:=fix sZ (s24 _ _ e2) (fun ps z=>nomatch z) noo noe;refine ⟨_,rfl,_,rfl,_,rfl,oa,e.2.1,en,es',xs,ke,E',r.pt,Pn,rfl,.inl eoZ,aoZ.impM fun e x _ hx q=>⟨q.1,q.2.1,gk_nd (W.w x hx).ou.ne q.2.2⟩,W.nd,fun x hx=>(W.w x hx).pt.ne,hfew,.inl eeZ,smE,gk_nd (W.w r hrm).pt.ne (p2.tups tZ),.inr (W.w r hrm).pt,fun k o h=>W.pn h,fun Z1 wa ws ini las s1 gwa ewa aws wo hil hpns=>?_⟩;have aws:AL (NmK Z1) ws (ini++[las]):=aws.impM fun v k _ hk q=>gk_dn (hpns k hk).ne q;obtain ⟨us,v,rfl,aus,hv⟩:=xAmk aws;have hul:us.length=ini.length:=aus.1;have lay:PyData.canLayAll0 ((ini++[las]).map tD)=true:=(xAei hpns).1;have llas:Pn las:=hpns las (zj _ (qj.mpr rfl));have tb1:=tbZ.same s1;have nwt:wa≠tu:=(xAab etZ gwa).symm;have nwe:wa≠en:=(xAab eeZ gwa).symm
  have nwP:wa≠PTa K:=fun z=>by
   obtain ⟨ps,t⟩:=tbZ.tbl;rw [← z,gwa] at t;cases t
  refine ⟨fun σ' Z2=>∃ (T2:List Key->Prop) (ku2:List (KD×V×V)),σ'=[some (.ref tq),some (.ref oa),some (.ref tu),some (.ref en),some e.2.1,some (.ref wa),u6]/\Same (dels X4 S2) Z2/\Z2 tu=some (.dG ku2)/\SM ku2 T2/\Z2 en=some (.dG ke)/\TBL K Z2/\ku2.length≤j+1/\Z2 wa=some (.lst (us++[v]))/\Tups Z1 Z2/\(∀ a b,(E' a\/a∈ini++[las])->gX xs a=some b->(E' b\/b∈ini++[las]))/\∀ a,T2 a↔((E' a\/a∈ini++[las])/\TopX xs a),?_,?_⟩
  ·have d1:=(xAbv aws).dv (K:=K)
   refine ⟨_,rfl,.inl ⟨rfl,_,SqL.of ewa⟩,_,rfl,1,rfl,wa,_,-1,v,rfl,rfl,SqL.of ewa,xAee us v,v,tD las,wa,_,_,rfl,rfl,(gk_td hv).dv,SqL.of ewa,d1,llas.lay,lay,qk (xAbt las) (by decide),_,_,rfl,rfl,_,rfl,?_⟩;have sZ1:Same (dels X4 S2) Z1:=sZ.trans s1
   by_cases hin:las∈ini
   ·refine itT (decide_eq_true (by have:=(xAix (las:=las) wo.nd).mpr hin;omega)) ?_
    obtain ⟨r0,hr0,er0⟩:∃ r0,∃ h:r0<ini.length,ini[r0]=las:=qt.mp hin
    have dd:∀ (m:Nat) d,m<r0->((ini++[las]).map tD)[m]?=some d->PyData.eqv d (tD las)=false:=fun m d hm hd=>by
     rw [qu,zn (by omega),qe (by omega:m<ini.length)] at hd;cases hd;show PyData.eqv (tD _) (tD las)=false;rw [xAdf];refine decide_eq_false fun z=>?_;have:=wj.mp (yk.mp wo.nd) m r0 (by omega) hr0 hm;exact this (z.trans er0.symm)
    have atr:((ini++[las]).map tD)[r0]?=some (tD las):=by
     rw [qu,zn hr0,qe hr0,er0];rfl
    refine ⟨_,rfl,_,rfl,_,rfl,_,rfl,.inl ⟨rfl,_,SqL.of ewa⟩,_,rfl,1,rfl,wa,_,-1,v,rfl,rfl,SqL.of ewa,xAee us v,v,tD las,wa,_,_,r0,rfl,rfl,(gk_td hv).dv,SqL.of ewa,d1,llas.lay,lay,qk (xAbt las) (by decide),⟨tD las,atr,by rw [xAdf];exact decide_eq_true rfl⟩,dd,?_⟩;refine ⟨_,rfl,1,rfl,_,rfl,wa,_,rfl,SqL.of ewa,fun la Z3 g3' s3' e3'=>?_⟩;rw [xAto (by omega)] at e3';have s13:=s1.trans s3';have tZ3:=(fixT sZ).trans s13.tups;have a3:=(aY.imp fun e x q=>q.imp (R':=PC X4) sY4.tups fun r=>r.tups sY4.tups).imp fun e x q=>q.imp (R':=PC Z3) tZ3 fun r=>r.tups tZ3;have etq3:=s13 _ _ (fix sZ etq4 (fun ps z=>nomatch z) ntqt ntqe);have tb3:=tb1.same s3';have adr:=(xAtn aus r0).imp fun v k q=>NmK.tups q s3'.tups
    have hdne:ini.drop r0≠[]:=fun z=>by
     have:=congrArg List.length z;rw [zr,wf] at this;omega
    refine ⟨tq,la,kt,xs,us.drop r0,ini.drop r0,rfl,.inr ⟨o,etq3⟩,a3,W.nd,e3',adr,hdne,fun k hk=>gX_hp.mp (wo.dom (ym hk)),tb3,fun Z4 vm m s4' tb4' hm hmax gm=>?_⟩;have t34:=tupsT tb3 s4';have k34:∀ {b:Addr} {u:HO},Z3 b=some u->(∀ ps,u≠.tbl ps)->Z4 b=some u:=fun e h=>My.keepT tb3 s4' e h;have et4:=k34 (s13 _ _ etZ) fun ps z=>nomatch z;have ee4:=k34 (s13 _ _ eeZ) fun ps z=>nomatch z;have ew4:=k34 (s3' _ _ ewa) fun ps z=>nomatch z;refine ⟨tu,ku,.tup m,rfl,et4,gm,huge (by omega),?_⟩;have t4:Tups Z4 (upd Z4 tu (.dG (pG ku (.tup m) vm (.bl true)))):=Tups.wd et4
    have sZ4:Same (dels X4 S2) Z4:=fun b u e=>by
     have e':=(sZ.trans s13) _ _ e;refine s4' _ _ ?_;rw [xAaj (fun z=>?_)]
     ·exact e'
     ·subst z
      rw [xAax (.inr (.inr rfl))] at e;cases e
    obtain ⟨q1,q2⟩:=Rnd.grow (T':=fun a=>a=m\/T' a) xAmh W.tot hE hT wo (.inr ⟨r0,hr0,er0,m,hm,hmax,fun a=>Iff.rfl⟩);refine ⟨fun a=>a=m\/T' a,_,rfl,sZ4.wr (xAax (.inl rfl)),xAad,smT.put _ _ fun k=>Iff.rfl,by rw [xAae nte.symm];exact ee4,tb4'.wr et4 (fun ps z=>nomatch z) (fun φ z=>nomatch z),qk (xAev _ _ _ _) (by omega),by rw [xAae nwt];exact ew4,(s3'.tups.trans t34).trans t4,q1,q2⟩
   ·refine itF (decide_eq_false (by have:=(not_congr (xAix (las:=las) wo.nd)).mpr hin;omega)) ?_
    obtain ⟨g1,g2⟩:=Rnd.grow (T':=T') xAmh W.tot hE hT wo (.inl ⟨hin,fun a=>Iff.rfl⟩);exact ⟨T',ku,rfl,sZ1,s1 _ _ etZ,smT,s1 _ _ eeZ,tb1,by omega,ewa,Tups.refl _,g1,g2⟩
  rintro σ' Z2 ⟨T2,ku2,rfl,s2',et2,sm2,ee2,tb2,hl2,ew2,t12,hgE,hgT⟩;have aw2:=aws.imp fun v k q=>NmK.tups q t12
  refine ⟨_,rfl,wa,rfl,⟨_,SqL.of ew2⟩,xAce (xs:=us++[v]) (fun i σ Z5=>∃ (E5:List Key->Prop) (ke5:List (KD×V×V)) (u6:Option V),σ=[some (.ref tq),some (.ref oa),some (.ref tu),some (.ref en),some e.2.1,some (.ref wa),u6]/\Same (dels X4 S2) Z5/\Z5 tu=some (.dG ku2)/\Z5 en=some (.dG ke5)/\SN ke5 E5/\ke5.length≤ke.length+i/\TBL K Z5/\Z5 wa=some (.lst (us++[v]))/\Tups Z2 Z5/\∀ k,E5 k↔(E' k\/k∈(ini++[las]).take i))
   ⟨E',ke,u6,rfl,s2',et2,ee2,smE,Nat.le_refl _,tb2,ew2,Tups.refl _,fun k=>by simp⟩ (fun i σ Z5 _ ⟨_,_,_,_,_,_,_,_,_,_,e,_⟩=>SqL.of e) ?_ ?_⟩
  ·rintro i x σ Z5 hx' ⟨E5,ke5,u6',rfl,s5,et5,ee5,sm5,hl5,tb5,ew5,t5,hE5⟩
   obtain ⟨k,hk,gx⟩:=aw2.at hx';have hi:i<(ini++[las]).length:=(qv.mp hk).1;rw [qg,ql] at hi;refine ⟨_,rfl,_,rfl,en,ke5,.tup k,rfl,ee5,GK.tups gx t5,huge (by omega),?_⟩;have t6:Tups Z5 (upd Z5 en (.dG (pG ke5 (.tup k) x (.bl true)))):=Tups.wd ee5;refine ⟨fun a=>a=k\/E5 a,_,_,rfl,s5.wr (xAax (.inr (.inl rfl))),by rw [xAae nte];exact et5,xAad,sm5.putT (hpns k (qo hk)).ne _ _ fun a=>Iff.rfl,qk (xAev _ _ _ _) (by omega),tb5.wr ee5 (fun ps z=>nomatch z) (fun φ z=>nomatch z),by rw [xAae nwe];exact ew5,t5.trans t6,fun a=>?_⟩;show (a=k\/E5 a)↔_;rw [hE5,zd,hk]
   simp only [Option.toList_some,List.mem_append,List.mem_singleton]
   constructor
   ·rintro (h | h | h)
    ·exact .inr (.inr h)
    ·exact .inl h
    ·exact .inr (.inl h)
   ·rintro (h | h | h)
    ·exact .inr (.inl h)
    ·exact .inr (.inr h)
    ·exact .inl h
  ·rintro σ Z5 ⟨E5,ke5,u6',rfl,s5,et5,ee5,sm5,hl5,tb5,ew5,t5,hE5⟩
   have hwl:(us++[v]).length=(ini++[las]).length:=aws.1;rw [hwl,zh] at hE5
   have hwl2:(us++[v]).length=ini.length+1:=by rw [qg,ql,hul]
   refine ⟨E5,T2,ku2,ke5,_,_,_,rfl,s5,et5,sm2,ee5,sm5,tb5,hl2,by rw [hwl2] at hl5;omega,fun a b h q=>?_,fun a=>?_,fun i x hi hx'=>?_⟩
   ·exact (hE5 b).mpr (hgE a b ((hE5 a).mp h) q)
   ·rw [hgT a,hE5 a]
   ·rw [hE5]
    by_cases z:i<j
    ·exact .inl (hdone i x z hx')
    ·have:i=j:=by omega
     subst this;rw [hr] at hx';cases hx';refine .inr ?_;have hh:=wo.hd;exact yn hh
 rintro σ Z ⟨E',T',ku,ke,u4,u5,u6,rfl,sZ,etZ,smT,eeZ,smE,tbZ,hkul,hkel,hE,hT,hdone⟩;refine ⟨_,rfl,kk Z tu ku (back sZ) (.inr ⟨o,fix sZ etq4 (fun ps z=>nomatch z) ntqt ntqe⟩) tbZ (fY _ ftu) etZ (smT.imp fun k=>?_)⟩;rw [hT];refine ⟨fun h=>h.2,fun h=>⟨?_,h⟩⟩;obtain ⟨x,hx,rfl⟩:=qd.mp (xAbq.mp (gX_hp.mp h.1.some));obtain ⟨i,hi,ei⟩:=qt.mp hx;exact hdone i x (by rw [akt.1];exact hi) (by rw [qe hi,ei])
theorem ok_fAq (T:Txt K mg d tk) (gfAp:FnOk P w K mg base CX0 3 d.fAp d.fApd ["_law_facts_here","_law_pool_here","_law_k","_law_last","_law_rounds"] (sp_fAp K)) (gfAn:FnOk P w K mg base CX0 1 d.fAn d.fAnd [] (sp_fAn K)) (gfAw:FnOk P w K mg base CX0 2 d.fAw d.fAwd ["_law_script","_law_k"] (sp_fAw K)):FnOk P w K mg base CX0 4 d.fAq d.fAqd ["_law_script","_law_rounds"] (sp_fAq K):=by
 refine T.F_fAq.ok xAos (fun vs H Q E h=>xAuc h) (fun cdv A outer s H vs Q E hr h=>?_);have hu:(A.deeper (envOfC "_law_drawn" (defScope s_fAq) s.heap.objs.size d.fAq cdv)).units<cLine:=hr.units0;refine ⟨_,(@xAac _ _ _ _ _ (@xAak _ _ (2) _ _ _ _ xAos.nd rfl (Or.inl rfl) (@xAke _ _ _ _ _ _ _ _ _ _ _ _ _ gfAn (hr.mono (by decide)) rfl T.m_fAn T.k_fAn T.d_fAn .nil pass0 (by decide)) rfl (.inl rfl)) (@xAac _ _ _ _ _ (@xAak _ _ (3) _ _ _ _ xAos.nd rfl (Or.inl rfl) (@xAas _ _ _ _ (@xAaa _ _ _ _ _ (@xAah _ _ _ _) (@xAaa _ _ _ _ _ (@xAah _ _ _ _) (@xAaa _ _ _ _ _ (@xAas _ _ _ _ (@xAaf _)) (@xAaf _) rfl) rfl) rfl)) rfl (.inl rfl)) (@xAac _ _ _ _ _ (@xAcd _ _ _ _ _ _ _ _ PassesOwn.never rfl (@xAmy _ _ _ _ _ _ _ rfl T.b_range (@xAaa _ _ _ _ _ (@xAah _ _ _ _) (@xAaa _ _ _ _ _ (@xAaz _ _ _ _ _ _ _ _ _ (xAnb rfl) rfl T.b_min boot_min (@xAaa _ _ _ _ _ (@xAaz _ _ _ _ _ _ _ _ _ xAbc rfl T.b_len boot_len (@xAaa _ _ _ _ _ (@pq _ 0 _ _ rfl) (@xAaf _) rfl) (by decide) (by decide) rfl rfl) (@xAaa _ _ _ _ _ (@xAah _ _ _ _) (@xAaf _) rfl) rfl) (by decide) (by decide) rfl rfl) (@xAaf _) rfl) rfl) rfl rfl) (@xAal _ _ (4) _ xAos.nd rfl (Or.inl rfl) (.inl rfl)) (@xAag _ _ _ (@xAbm _ _ _ _ (@xAai _ _ _ _ _ _ _ _ _ _ _ _ _ _ _ _ gfAp (hr.mono (by decide)) rfl T.m_fAp T.k_fAp T.d_fAp .nil pass0 (@xAaa _ _ _ _ _ (@pq _ 2 _ _ rfl) (@xAaa _ _ _ _ _ (@xAai _ _ _ _ _ _ _ _ _ _ _ _ _ _ _ _ gfAw (hr.mono (by decide)) rfl T.m_fAw T.k_fAw T.d_fAw .nil pass0 (@xAaa _ _ _ _ _ (@pq _ 0 _ _ rfl) (@xAaa _ _ _ _ _ (@pq _ 4 _ _ rfl) (@xAaf _) rfl) rfl) (by decide) rfl rfl) (@xAaa _ _ _ _ _ (@pq _ 4 _ _ rfl) (@xAaa _ _ _ _ _ (@pq _ 3 _ _ rfl) (@xAaa _ _ _ _ _ (@pq _ 1 _ _ rfl) (@xAaf _) rfl) rfl) rfl) rfl) rfl) (by decide) rfl rfl) rfl)) (by intro _;rfl)) (@xAag _ _ _ (@xAat _ _ _ _ (@pq _ 2 _ _ rfl)))))),?_⟩;obtain ⟨sp,ns,rfl,hs,hl,kk⟩:=h;refine ⟨rfl,fun H1 fa F s1 g1 gF e1 inj eF=>?_⟩;refine ⟨szOk rfl,fun q0 H2 g2 s2 e2=>⟨szOk rfl,fun lp H3 g3 s3 e3=>?_⟩⟩;have s13:=s2.trans s3;have s03:=s1.trans s13
 have hsl:(List.map V.int ns).length≤63:=by rw [qf];exact hl
 have fb0:FB H3 fa F [] [] [] [] [] 1:=⟨.inl (s13 _ _ e1),inj,fun i hi _=>s13 _ _ (eF i hi),s13 _ _ (eF 0 (by decide)),s13 _ _ (eF 1 (by decide)),s13 _ _ (eF 2 (by decide)),⟨(fun v z=>nomatch z),.nil,.nil,(fun r z=>nomatch z),.nil,q5 _,q5 _,q5 _⟩⟩;have glp:H1 lp=none:=s2.free g3;have gq0:H1 q0=none:=g2;have lF:∀ i,i<9->lp≠F i:=fun i hi=>(xAab (eF i hi) glp).symm;have qF:∀ i,i<9->q0≠F i:=fun i hi=>(xAab (eF i hi) gq0).symm;have la:lp≠fa:=(xAab e1 glp).symm;have lt0:LT H3 lp q0 0 3 []:=⟨e3,s3 _ _ e2,(fun y z=>nomatch z),by decide,xAab e2 g3⟩;refine ⟨_,rfl,sp,_,rfl,.inl (hs.same s03),_,_,rfl,?_⟩;have hN:(1:Int)≤(if (61:Int)<((List.map V.int ns).length:Nat) then (61:Int) else ((List.map V.int ns).length:Nat))\/True:=.inr trivial;refine ⟨_,_,rfl,?_,?_⟩
 ·split <;> omega
 have hN:((if (61:Int)<((List.map V.int ns).length:Nat) then (61:Int) else ((List.map V.int ns).length:Nat)) - 1:Int).toNat≤60:=by
  split <;> omega
 refine xAmz (lo:=1) (fun j σ X=>∃ (bs es cs:List V) (rs:List Pc) (cu:List (List Key)) (q:Addr) (h g:Int) (ys:List V) (u4:Option V),σ=[some (.ref sp),some (.bl true),some (.ref fa),some (.ref lp),u4]/\Same H X/\X fa=some (.dK (fkv F 9))/\FB X fa F bs es cs rs cu (j+1)/\LT X lp q h g ys/\q≠F 0/\q≠F 1/\q≠F 2/\(∀ r∈rs,Le2 r.ka r.kb h g)/\h≤j) ⟨[],[],[],[],[],q0,0,3,[],none,rfl,s03,s13 _ _ e1,fb0,lt0,qF 0 (by decide),qF 1 (by decide),qF 2 (by decide),(fun r z=>nomatch z),by decide⟩ ?_ ?_
 ·rintro j σ X hj ⟨bs,es,cs,rs,cu,q,h,g,ys,u4,rfl,sX,eX,fb,lt,qF0,qF1,qF2,le,hh⟩
  have hj:j<60:=qq hj hN;refine ⟨_,rfl,_,rfl,_,rfl,sp,ns,1+(j:Int),rfl,hs.same sX,by omega,by omega,fun X1 p c m s1' gp ep po=>?_⟩;have fb1:=fb.same s1';have lt1:LT X1 lp q h g ys:=⟨s1' _ _ lt.el,s1' _ _ lt.eq,fun y hy=>(lt.ok y hy).tups s1'.tups,lt.yl,lt.nq⟩;have en:EN X1 fa F p lp:=⟨(xAab lt.el gp).symm,fun i hi=>(xAab (fb.at i hi) gp).symm,lF,(xAab eX gp).symm,la⟩;refine ⟨_,rfl,_,rfl,_,rfl,fa,F,p,lp,q,c,m,h,g,ys,bs,es,cs,rs,cu,j+1,by rw [show (1+(j:Int))=((j+1:Nat):Int) by omega];rfl,fb1,en,ep,po,lt1,qF0,qF1,qF2,(xAab lt.eq gp).symm.symm,le,by omega,by omega,fun X2 q' h' g' ys' bs' es' cs' rs' cu' s2' fb' lt' qF0' qF1' qF2' le' hh'=>?_⟩
  have nfa:¬ evS F p lp fa:=by
   rintro (z | z | z | z | z)
   ·exact en.pa z.symm
   ·exact la z.symm
   ·exact rd_ne fb.dk fb.eb z
   ·exact rd_ne fb.dk fb.ev z
   ·exact rd_ne fb.dk fb.ec z
  refine ⟨bs',es',cs',rs',cu',q',h',g',ys',_,rfl,fun b o e=>xAci s2' (s1' _ _ (sX _ _ e)) ?_,xAci s2' (s1' _ _ eX) nfa,fb',lt',qF0',qF1',qF2',le',by omega⟩;rintro (z | z | z | z | z)
  ·exact xAab (sX _ _ e) gp z
  ·exact xAab e (s1.free glp) z
  ·exact xAab e (gF 0 (by decide)) z
  ·exact xAab e (gF 1 (by decide)) z
  ·exact xAab e (gF 2 (by decide)) z
 ·rintro σ X ⟨bs,es,cs,rs,cu,q,h,g,ys,u4,rfl,sX,eX,fb,lt,qF0,qF1,qF2,le,hh⟩
  refine ⟨_,rfl,kk X fa F bs es cs rs cu sX g1 eX gF ⟨fb.dk,fb.inj,fb.rest,fb.eb,fb.ev,fb.ec,fb.fi.mono (by omega)⟩ fun r hr=>?_⟩;have:=le r hr;unfold Le2 at this;omega
theorem ok_fAy (T:Txt K mg d tk) (gfAs:FnOk P w K mg base CX0 4 d.fAs d.fAsd ["telling"] (sp_fAs K)):FnOk P w K mg base CX0 5 d.fAy d.fAyd ["telling"] (sp_fAy K):=by
 refine T.F_fAy.ok xAmt (fun vs H Q E h=>xAuo h) (fun cdv A outer s H vs Q E hr h=>?_);have hu:(A.deeper (envOfC "stood_in" (defScope s_fAy) s.heap.objs.size d.fAy cdv)).units<cLine:=hr.units0;refine ⟨_,(@xAac _ _ _ _ _ (@xAak _ _ (1) _ _ _ _ xAmt.nd rfl (Or.inl rfl) (@xAai _ _ _ _ _ _ _ _ _ _ _ _ _ _ _ _ gfAs (hr.mono (by decide)) rfl T.m_fAs T.k_fAs T.d_fAs .nil pass0 (@xAaa _ _ _ _ _ (@pq _ 0 _ _ rfl) (@xAaf _) rfl) (by decide) rfl rfl) rfl (.inl rfl)) (@xAac _ _ _ _ _ (@xAak _ _ (2) _ _ _ _ xAmt.nd rfl (Or.inl rfl) (@xAcs _ _) rfl (.inl rfl)) (@xAac _ _ _ _ _ (@xAcd _ _ _ _ _ _ _ _ PassesOwn.never rfl (@xAct _ _ _ _ _ _ _ _ (@pq _ 0 _ _ rfl) rfl rfl) (@xAfm _ _ _ _ _ _ rfl (@xAaq _ _ _ _ _ (@xAal _ _ (3) _ xAmt.nd rfl (Or.inl rfl) (.inl rfl)) (@xAaq _ _ _ _ _ (@xAal _ _ (4) _ xAmt.nd rfl (Or.inl rfl) (.inl rfl)) (@xAdb _) rfl) rfl) rfl rfl) (@xAag _ _ _ (@xAbj _ _ _ _ _ _ _ _ _ (hu2 hr) (@pq _ 2 _ _ rfl) (@pq _ 3 _ _ rfl) (@xAkc _ _ _ _ _ _ _ _ (@xAam _ _ _ _ _ _ _ _ (xAfy (hu2 hr)) (@pq _ 3 _ _ rfl) (@pq _ 1 _ _ rfl) rfl) (@xAov _ _ (.ref (cadr K "MAIN")) _ _ rfl T.c_MAIN rfl (by decide)) (@pe_ix _ _ _ _ _ _ _ xAdd (@pq _ 4 _ _ rfl) (@xAah _ _ _ _) (fun _ _=>rfl))) rfl)) (by intro _;rfl)) (@xAag _ _ _ (@xAat _ _ _ _ (@pq _ 2 _ _ rfl)))))),?_⟩;obtain ⟨tq,kt,xs,rfl,htq,akt,W,tb,ma,kk⟩:=h;have hfew:=W.few
 have ntup:∀ b,sS K tq b->∀ us,H b≠some (.tup us):=fun b z us e=>by
  rcases z with rfl | rfl
  ·rcases htq with q | ⟨o',q⟩ <;> rw [q] at e <;> cases e
  ·obtain ⟨ps,t⟩:=tb.tbl
   rw [t] at e;cases e
 refine ⟨_,rfl,tq,kt,xs,rfl,htq,akt,W,tb,fun H1 tu ku s1 htq1 tb1 gtu etu smT=>?_⟩;have t01:=xAoi s1 ntup;intro st H2 g2 s2 e2;have htq2:=Rd.same htq1 s2;have t02:=t01.trans s2.tups;have nst:st≠tu:=(xAab etu g2).symm
 have gst:H st=none:=by
  have:=s1.free g2
  by_cases z:sS K tq st
  ·rcases z with z | z
   ·rw [z] at g2
    rcases htq1 with q | ⟨o',q⟩ <;> rw [q] at g2 <;> cases g2
   ·obtain ⟨ps,t⟩:=tb1.tbl
    rw [← z,g2] at t;cases t
  ·rw [xAbg z] at this;exact this
 dsimp only [gName,tSeq];refine xAml ?_;refine ⟨_,rfl,tq,kt,rfl,xAck htq2 fun o Y hY fY eY=>?_⟩
 have tY:Tups H2 Y:=fun b us e=>hY b _ (fun z=>by
  subst z
  rcases htq2 with q | ⟨o',q⟩ <;> rw [q] at e <;> cases e) e
 have nqu:tu≠tq:=fun z=>by
  have:=s2 _ _ etu;rw [z] at this;have f:=xAax (H:=H) (S:=sS K tq) (b:=tq) (.inl rfl);rw [z] at gtu;rcases htq with q | ⟨o',q⟩ <;> rw [gtu] at q <;> cases q
 have nqs:st≠tq:=fun z=>by
  rw [z] at e2;rw [z] at gst;rcases htq with q | ⟨o',q⟩ <;> rw [gst] at q <;> cases q
 have sYd:Same (dels H (sS K tq)) Y:=fun b u e=>by
  have nb:¬ sS K tq b:=fun z=>by rw [xAax z] at e;cases e
  exact hY b u (fun z=>nb (.inl z)) (s2 _ _ (s1 _ _ e))
 have tbY:TBL K Y:=(tb1.same s2).keep fun b u e hu=>hY b u (fun z=>by
  subst z;rcases htq2 with q | ⟨o',q⟩
  ·rw [q] at e;cases e;rcases hu with ⟨ps,y⟩ | ⟨φ,y⟩ <;> cases y
  ·rw [q] at e;cases e;rcases hu with ⟨ps,y⟩ | ⟨φ,y⟩ <;> cases y) e
 have etuY:=hY tu _ nqu (s2 _ _ etu);have estY:=hY st _ nqs e2;have tHY:=t02.trans tY;have aY:=akt.imp fun e x q=>q.imp (R':=PC Y) tHY fun r=>r.tups tHY;have maY:=tHY _ _ ma;refine xAma (fun j σ X=>∃ (ks:List (KD×V×V)) (u3 u4:Option V),σ=[some (.ref tq),some (.ref tu),some (.ref st),u3,u4]/\Same (del Y st) X/\X st=some (.dG ks)/\AL (EK (OuR X) X) ks ((xs.take j).map (opW (TopX xs)))) ⟨[],none,none,rfl,(fun b u e=>xAbp _ _ e),estY,.nil⟩ (fun j σ X ⟨_,_,_,_,s,_⟩=>s _ _ (by rw [xAaj nqs.symm];exact eY)) ?_ ?_
 ·rintro j e σ X p hx ⟨ks,u3,u4,rfl,sX,eX,ak⟩ hp
  have tX:Tups Y X:=xAbl estY (fun ys z=>nomatch z) sX;obtain ⟨r,hr,p1,p2,p3⟩:=aY.at hx;have hjl:j<xs.length:=(qv.mp hr).1;have sp:Same X (upd X p (.tup [e.2.1,e.2.2])):=Same.new hp;have ep:(upd X p (.tup [e.2.1,e.2.2])) p=some (.tup [e.2.1,e.2.2]):=xAad;generalize upd X p (.tup [e.2.1,e.2.2])=X1 at sp ep;have tX1:=tX.trans sp.tups;obtain ⟨b,vp,vo,vn,kq,hbv,h1,h2,h3,h4,h5⟩:=p3.tups tX1;have etu1:=sp _ _ (sX _ _ (by rw [xAaj nst.symm];exact etuY));have est1:=sp _ _ eX;have gp1:=p2.tups tX1;have ak1:=ak.imp fun e x q=>q.imp (R':=OuR X1) sp.tups fun r=>r.tups sp.tups;have hkl:ks.length<sizeLine:=huge (by rw [ak.1,qf,zo];omega)
  have hnd:(((xs.take j).map (opW (TopX xs))).map (·.pt)).Nodup:=by rw [xAiu];exact (W.nd.sublist ((vg j xs).map _))
  have hnew:(opW (TopX xs) r).pt∉((xs.take j).map (opW (TopX xs))).map (·.pt):=by
   rw [xAiu,xAff];intro z;have hn:=W.nd
   have e1:xs=xs.take j++r::xs.drop (j+1):=by
    have:=yq j xs;rw [z9 hjl] at this;rw [← Option.some.inj ((qe hjl).symm.trans hr)];exact this.symm
   rw [e1,zg,qz] at hn;exact (zp.mp hn).2.2 r.pt z r.pt qh rfl
  have etk:(xs.take (j+1)).map (opW (TopX xs))=putP ((xs.take j).map (opW (TopX xs))) (opW (TopX xs) r):=by
   rw [xAhe hnew,zd,hr,zg];rfl
  have fin:∀ vv,GK X1 (.tup (opW (TopX xs) r).ou) vv->∃ (ks':List (KD×V×V)) (u3 u4:Option V),[some (V.ref tq),some (V.ref tu),some (V.ref st),some e.2.1,some e.2.2]=[some (.ref tq),some (.ref tu),some (.ref st),u3,u4]/\Same (del Y st) (upd X1 st (.dG (pG ks (.tup r.pt) e.2.1 vv)))/\(upd X1 st (.dG (pG ks (.tup r.pt) e.2.1 vv))) st=some (.dG ks')/\AL (EK (OuR (upd X1 st (.dG (pG ks (.tup r.pt) e.2.1 vv)))) (upd X1 st (.dG (pG ks (.tup r.pt) e.2.1 vv)))) ks' ((xs.take (j+1)).map (opW (TopX xs))):=fun vv gv=>by
   have aP:=xAgb (r:=opW (TopX xs) r) (y:=e.2.1) (v:=vv) ak1 hnd (by rw [xAff];exact gp1) gv;rw [xAff,← etk] at aP;exact ⟨_,_,_,rfl,(sX.trans sp).wr xAbk,xAad,aP.imp fun e x q=>q.imp (Tups.wd est1) fun r=>r.tups (Tups.wd est1)⟩
  refine ⟨p,_,rfl,SqT.of ep,rfl,_,_,rfl,_,_,rfl,rfl,?_⟩;refine ⟨_,rfl,_,rfl,tu,ku,.tup r.pt,rfl,.inl etu1,gp1,_,rfl,?_⟩;rw [if_neg (by decide)]
  by_cases ht:TopX xs r.pt
  ·rw [smT.yes ht]
   refine itT rfl ?_;refine ⟨_,rfl,_,rfl,st,ks,.tup r.pt,rfl,est1,gp1,hkl,fin _ ?_⟩;rw [xAmi ht];exact ⟨_,rfl,tX1 _ _ maY⟩
  ·rw [smT.no ht]
   refine itF rfl ?_;refine ⟨_,rfl,b,_,1,vo,hbv,rfl,SqT.of h1,rfl,_,rfl,_,rfl,st,ks,.tup r.pt,rfl,est1,gp1,hkl,fin _ ?_⟩;rw [xArd ht];exact h3
 ·rintro σ X ⟨ks,u3,u4,rfl,sX,eX,ak⟩
  rw [aY.1,zh] at ak;refine ⟨_,rfl,kk X st ks (fun b u e=>sX _ _ ?_) (tbY.cut estY (fun ps z=>nomatch z) (fun φ z=>nomatch z) sX) gst eX ak⟩;rw [xAaj (fun z=>?_)]
  ·exact sYd _ _ e
  ·subst z
   rw [xAfe gst] at e;cases e
theorem ok_fAv (T:Txt K mg d tk) (gfAf:FnOk P w K mg base CX0 2 d.fAf d.fAfd ["outer_of"] (sp_fAf K)) (gfAy:FnOk P w K mg base CX0 5 d.fAy d.fAyd ["telling"] (sp_fAy K)) (gfAd:FnOk P w K mg base CX0 1 d.fAd d.fAdd ["facts"] (sp_fAd K)):FnOk P w K mg base CX0 6 d.fAv d.fAvd ["facts"] (sp_fAv K):=by
 refine T.F_fAv.ok xArr (fun vs H Q E h=>xAuq h) (fun cdv A outer s H vs Q E hr h=>?_);have hu:(A.deeper (envOfC "stands_in" (defScope s_fAv) s.heap.objs.size d.fAv cdv)).units<cLine:=hr.units0;refine ⟨_,(@xAac _ _ _ _ _ (@xAak _ _ (1) _ _ _ _ xArr.nd rfl (Or.inl rfl) (@xAai _ _ _ _ _ _ _ _ _ _ _ _ _ _ _ _ gfAy (hr.mono (by decide)) rfl T.m_fAy T.k_fAy T.d_fAy .nil pass0 (@xAaa _ _ _ _ _ (@xAai _ _ _ _ _ _ _ _ _ _ _ _ _ _ _ _ gfAd (hr.mono (by decide)) rfl T.m_fAd T.k_fAd T.d_fAd .nil pass0 (@xAaa _ _ _ _ _ (@pq _ 0 _ _ rfl) (@xAaf _) rfl) (by decide) rfl rfl) (@xAaf _) rfl) (by decide) rfl rfl) rfl (.inl rfl)) (@xAac _ _ _ _ _ (@xAak _ _ (2) _ _ _ _ xArr.nd rfl (Or.inr rfl) (@xAai _ _ _ _ _ _ _ _ _ _ _ _ _ _ _ _ gfAf (hr.mono (by decide)) rfl T.m_fAf T.k_fAf T.d_fAf .nil pass0 (@xAaa _ _ _ _ _ (@pq _ 1 _ _ rfl) (@xAaf _) rfl) (by decide) rfl rfl) rfl (.inl rfl)) (@xAag _ _ _ (@xAat _ _ _ _ (@xAbx _ _ _ _ _ _ _ _ _ (xAcg hr.hd (hu4 hr)) rfl T.b_dict boot_dict (@xAaa _ _ _ _ _ (@xAbo _ _ _ _ _ _ _ (["part","outer"]) ([("reaching",2)]) _ _ _ _ _ rfl (@xAct _ _ _ _ _ _ _ _ (@pq _ 1 _ _ rfl) rfl rfl) ⟨rfl,by decide +kernel,by decide +kernel⟩ (xAdm (defScope s_fAv) ["facts","outer_of","reaching"] rfl rfl (fun _ h=>xAbw h) (by decide +kernel) (by decide +kernel) (by decide +kernel)) (fun _ _ _=>(@xAfm _ _ _ _ _ (2) rfl (@xAaq _ _ _ _ _ (@xAal _ _ (0) _ (by show List.Nodup (["part","outer","reaching"]:List Str);decide +kernel) rfl (Or.inl rfl) (.inr rfl)) (@xAaq _ _ _ _ _ (@xAal _ _ (1) _ (by show List.Nodup (["part","outer","reaching"]:List Str);decide +kernel) rfl (Or.inl rfl) (.inr rfl)) (@xAdb _) rfl) rfl) rfl rfl)) (fun _=>xAcf rfl rfl (by decide)) (fun _ _ _=>(@xAcl _)) (fun _ _ _=>(@xAao _ _ _ _ _ (@xAaa _ _ _ _ _ (@pq _ 0 _ _ rfl) (@xAaa _ _ _ _ _ (@xAkc _ _ _ _ _ _ _ _ (@xAfl _ _ _ (@xAau _ _ _ _ _ _ (hu2 hr) (@pv _ 2 _ _ rfl (Or.inr (Or.inl rfl)) rfl rfl) (@pq _ 0 _ _ rfl) (fun _ _=>rfl)) (by intro _;rfl)) (@pq _ 1 _ _ rfl) (@xArt _ _ _)) (@xAaf _) rfl) rfl))) (by intro _;rfl)) (@xAaf _) rfl) (by decide) (by decide) rfl rfl))))),?_⟩;obtain ⟨fa,es,rs,rfl,fq,tb,ma,kk⟩:=h;have W:=fq.xw;have Wa:=xAfg W;have hfew:=Wa.few;refine ⟨_,rfl,fa,es,rs,rfl,fq,fun H1 tq kt s1 g1 e1 ak1=>?_⟩;have tb1:=tb.same s1;refine ⟨tq,kt,tl rs,rfl,.inl e1,ak1,W,tb1,s1 _ _ ma,fun H2 sa ks s2 tb2 gsa esa ak2=>?_⟩
 have ntP:tq≠PTa K:=fun z=>by
  obtain ⟨ps,t⟩:=tb1.tbl;rw [← z,e1] at t;cases t
 have s02:Same (del H (PTa K)) H2:=fun b u e=>by
  have nb:b≠PTa K:=fun z=>by rw [z,xAbk] at e;cases e
  rw [xAaj nb] at e;refine xAci s2 (s1 _ _ e) fun z=>?_;rcases z with z | z
  ·rw [z,g1] at e;cases e
  ·exact nb z
 have fsa:H sa=none:=s1.free gsa;have ma2:MA K H2:=My.keepT tb s02 ma fun ps z=>nomatch z;refine ⟨_,rfl,sa,ks,opn (tl rs),rfl,.inl esa,ak2.impM fun e x _ hx q=>⟨q.1,q.2.1,gk_nd (Wa.w x hx).ou.ne q.2.2⟩,Wa.lw,ma2,fun H3 ra kr f s3 hsa3 gra era rm hkf=>?_⟩
 have hkr:∀ x∈opn (tl rs),∃ b:Bool,vG kr (.tup x.pt)=some (.bl b)/\(b=true↔Rnd.Comes (gX (opn (tl rs))) mainK x.pt):=fun x hx=>by
  obtain ⟨b,hb⟩:=v4.mp (hkf x hx);have:=rm.at_ x.pt;rw [xAhf (Wa.w x hx).pt.ne,hb] at this;exact ⟨b,this,rm.val _ _ hb⟩
 have t23:Tups H2 H3:=xAbl esa (fun ys z=>nomatch z) s3
 have s03:Same (del H (PTa K)) H3:=fun b u e=>s3 _ _ (by
  rw [xAaj (fun z=>?_)]
  ·exact s02 _ _ e
  ·subst z
   rw [xAlu fsa] at e
   cases e)
 have tb3:TBL K H3:=tb2.cut esa (fun ps z=>nomatch z) (fun φ z=>nomatch z) s3
 have fra:H ra=none:=by
  have:=s02.free gra
  by_cases z:ra=PTa K
  ·obtain ⟨ps,t⟩:=tb2.tbl
   rw [← z,gra] at t;cases t
  ·rw [xAaj z] at this;exact this
 have ak3:=ak2.imp fun e x q=>q.imp (R':=OuR H3) t23 fun r=>r.tups t23;have nrs:ra≠sa:=(xAab esa gra).symm;refine ⟨_,rfl,sa,ks,rfl,xAck hsa3 fun o Y hY fY eY=>?_⟩
 have tY:Tups H3 Y:=fun b us e=>hY b _ (fun z=>by
  subst z
  rcases hsa3 with q | ⟨o',q⟩ <;> rw [q] at e <;> cases e) e
 have eraY:=hY ra _ nrs era
 have s0Y:Same (del H (PTa K)) Y:=fun b u e=>hY b u (fun z=>by
  subst z
  rw [xAlu fsa] at e;cases e) (s03 _ _ e)
 have tbY:TBL K Y:=tb3.keep fun b u e hu=>hY b u (fun z=>by
  subst z;rcases hsa3 with q | ⟨o',q⟩
  ·rw [q] at e;cases e;rcases hu with ⟨ps,y⟩ | ⟨φ,y⟩ <;> cases y
  ·rw [q] at e;cases e;rcases hu with ⟨ps,y⟩ | ⟨φ,y⟩ <;> cases y) e
 have aY:=ak3.imp fun e x q=>q.imp (R':=OuR Y) tY fun r=>r.tups tY;refine xAdh (big (by rw [aY.1];omega)) (fun j ys X=>Same Y X/\∃ es:List (KD×V×V),PrsV X ys es/\AL (EK (StR (opn (tl rs)) X) X) es ((opn (tl rs)).take j)) ⟨Same.refl _,[],trivial,.nil⟩ (fun _ _ X s'=>s'.1 _ _ eY) (fun j e ys X p K1 K0 hx s' hp k1 k0=>?_) fun X np ys s' hy hq=>?_
 ·obtain ⟨sX,es',pr,ae⟩:=s'
  obtain ⟨r,hr,p1,p2,p3⟩:=aY.at hx;have sp:Same X (upd X p (.tup [e.2.1,e.2.2])):=Same.new hp;have ep:(upd X p (.tup [e.2.1,e.2.2])) p=some (.tup [e.2.1,e.2.2]):=xAad;generalize upd X p (.tup [e.2.1,e.2.2])=X1 at sp ep;have sX1:=sX.trans sp;obtain ⟨b,hb,hbv⟩:=hkr r (qo hr)
  have fin:∀ vv,StR (opn (tl rs)) X1 vv r->∀ (t3:Addr) X3,X1 t3=none->Same X1 X3->X3 t3=some (.tup [e.2.1,vv])->K1 (.ref t3) X3:=fun vv hvv t3 X3 g3 s3 e3=>by
   have sX3:=sp.trans s3;refine k1 _ _ ⟨sX.trans sX3,es'++[(.tup r.pt,e.2.1,vv)],?_,?_⟩
   ·exact PrsV.snoc (e:=(.tup r.pt,e.2.1,vv)) ⟨t3,rfl,e3,(p2.tups sX1.tups).tups s3.tups⟩ (pr.tups sX3.tups)
   ·rw [zd,hr]
    exact (ae.imp fun e x p=>p.imp sX3.tups fun q=>q.tups sX3.tups).snoc ⟨rfl,(p2.tups sX1.tups).tups s3.tups,hvv.tups s3.tups⟩
  refine ⟨p,_,rfl,SqT.of ep,rfl,_,_,rfl,_,_,rfl,rfl,?_⟩;refine iteT (B:=K0 X1) ?_;refine ⟨_,rfl,_,rfl,_,rfl,ra,kr,.tup r.pt,.bl b,rfl,.inl (sX1 _ _ eraY),p2.tups sX1.tups,hb,_,rfl,?_⟩
  cases b with
  | true =>
   refine itT rfl ?_;exact ⟨_,rfl,szOk rfl,fun t3 X3 g3 s3 e3=>fin _ (.inl ⟨hbv.mp rfl,GK.tups p3 sX1.tups⟩) t3 X3 g3 s3 e3⟩
  | false =>
   refine itF rfl ?_;exact ⟨szOk rfl,fun t3 X3 g3 s3 e3=>fin _ (.inr ⟨fun z=>absurd (hbv.mpr z) qm,rfl⟩) t3 X3 g3 s3 e3⟩
 obtain ⟨sX,es',pr,ae⟩:=s';rw [aY.1,zh] at ae;have nH:Same X (upd X np (.lst ys)):=Same.new hq;refine ⟨np,ys,es',rfl,SqL.of xAad,pr.tups nH.tups,?_,fun q X2 g2 s2 e2=>?_⟩
 ·have:ys.length≤ks.length:=hy
  have:=aY.1;omega
 rw [xAch _ [] (by rw [wb];exact xAcz ae Wa.nd),wb] at e2;have s0:=nH.trans s2
 have fq':H q=none:=by
  have h1:=sX.free (nH.free g2);have:=s0Y.free h1
  by_cases z:q=PTa K
  ·obtain ⟨ps,t⟩:=tbY.tbl
   rw [← z,h1] at t;cases t
  ·rw [xAaj z] at this;exact this
 exact kk X2 q es' ((s0Y.trans sX).trans s0) (tbY.same (sX.trans s0)) fq' e2 (ae.imp fun e x p=>p.imp s0.tups fun q=>q.tups s0.tups)
theorem ok_fAk (T:Txt K mg d tk) (gfAl:FnOk P w K mg base CX0 3 d.fAl d.fAld ["facts","stands"] (sp_fAl K)) (gfAv:FnOk P w K mg base CX0 6 d.fAv d.fAvd ["facts"] (sp_fAv K)):FnOk P w K mg base CX0 7 d.fAk d.fAkd ["facts"] (sp_fAk K):=by
 refine T.F_fAk.ok sc_fAk (fun vs H Q E h=>xAuv h) (fun cdv A outer s H vs Q E hr h=>?_);have hu:(A.deeper (envOfC "shown_parts" (defScope s_fAk) s.heap.objs.size d.fAk cdv)).units<cLine:=hr.units0;refine ⟨_,(@xAag _ _ _ (@xAat _ _ _ _ (@xAaz _ _ _ _ _ _ _ _ _ (xAdu (hu61 hr) hr.hd) rfl T.b_sorted boot_sorted (@xAaa _ _ _ _ _ (@xAai _ _ _ _ _ _ _ _ _ _ _ _ _ _ _ _ gfAl (hr.mono (by decide)) rfl T.m_fAl T.k_fAl T.d_fAl .nil pass0 (@xAaa _ _ _ _ _ (@pq _ 0 _ _ rfl) (@xAaa _ _ _ _ _ (@xAai _ _ _ _ _ _ _ _ _ _ _ _ _ _ _ _ gfAv (hr.mono (by decide)) rfl T.m_fAv T.k_fAv T.d_fAv .nil pass0 (@xAaa _ _ _ _ _ (@pq _ 0 _ _ rfl) (@xAaf _) rfl) (by decide) rfl rfl) (@xAaf _) rfl) rfl) (by decide) rfl rfl) (@xAaf _) rfl) (by decide) (by decide) rfl rfl))),?_⟩;obtain ⟨fa,F,bs,es,cs,rs,cu,k,rfl,fb,hk,hl,tt,ma,kk⟩:=h;have fq:=fb.fq (by omega:k≤100);have W:=xAfg fq.xw;refine ⟨_,rfl,_,rfl,fa,es,rs,rfl,fq,tt.a,ma,fun H1 da kd s1 tb1 gda eda akd=>?_⟩;obtain ⟨tt1,s1'⟩:=tt.ofA s1 tb1;have fb1:=fb.keepTT tt s1';refine ⟨fa,F,bs,es,cs,rs,cu,k,da,kd,opn (tl rs),rfl,fb1,by omega,.inl eda,st_al W akd,W,My.keepTT tt s1' ma (fun ps z=>nomatch z),fun H2 qa kq ls s2' hda2 gqa eqa sd hnd hm=>?_⟩;have hpn:∀ a∈ls,Pn a:=fun a ha=>((hm a).mp ha).pn W;have hll:=xAuf hnd hm;rw [xAeh] at hll;have ak:=sd.keysV;refine ⟨qa,kq,_,3,rfl,.inl eqa,(xAbv ak).dv,xAit hpn,by have:=sd.1;omega,fun q H3 ix gq s3 six e3=>?_⟩;obtain ⟨ms,am,wk,nd',hm'⟩:=xAmq ak hnd six;have tt2:=tt1.cut eda (fun ps z=>nomatch z) (fun φ z=>nomatch z) s2'
 have sA:Same (dels H (s2 K)) H2:=fun b u e=>s2' _ _ (by
  rw [xAaj (fun z=>?_)]
  ·exact s1' _ _ e
  ·rw [z,xAfe gda] at e;cases e)
 have tt3:=tt2.same s3;refine kk H3 q _ ms (sA.trans s3) tt3 (tt.free sA tt2 gq) e3 (am.imp fun v k z=>NmK.tups z s3.tups) wk nd' fun a=>(hm' a).trans (hm a)
theorem ok_fAc (T:Txt K mg d tk) (hB:base.BuiltinsAt mg (tabP K "all_inner_parts")) (gfAl:FnOk P w K mg base CX0 3 d.fAl d.fAld ["facts","stands"] (sp_fAl K)) (gfAv:FnOk P w K mg base CX0 6 d.fAv d.fAvd ["facts"] (sp_fAv K)) (gfAd:FnOk P w K mg base CX0 1 d.fAd d.fAdd ["facts"] (sp_fAd K)):FnOk P w K mg base CX0 7 d.fAc d.fAcd ["facts"] (sp_fAc K):=by
 refine T.F_fAc.okC xAjx (fun vs H Q E h=>xAuw h) (fun cdv A outer s H vs Q E hcv hr h=>?_);have hcode:(envOfC "all_inner_parts" (defScope s_fAc) s.heap.objs.size d.fAc cdv).code=.ref d.fall_inner_partsc:=hcv.symm.trans T.LE_fAc;have hu:(A.deeper (envOfC "all_inner_parts" (defScope s_fAc) s.heap.objs.size d.fAc cdv)).units<cLine:=hr.units0;refine ⟨_,(@xAac _ _ _ _ _ (@xAak _ _ (1) _ _ _ _ xAjx.nd rfl (Or.inr rfl) (@xAai _ _ _ _ _ _ _ _ _ _ _ _ _ _ _ _ gfAd (hr.mono (by decide)) rfl T.m_fAd T.k_fAd T.d_fAd .nil pass0 (@xAaa _ _ _ _ _ (@pq _ 0 _ _ rfl) (@xAaf _) rfl) (by decide) rfl rfl) rfl (.inl rfl)) (@xAac _ _ _ _ _ (@xAak _ _ (2) _ _ _ _ xAjx.nd rfl (Or.inl rfl) (@xAai _ _ _ _ _ _ _ _ _ _ _ _ _ _ _ _ gfAv (hr.mono (by decide)) rfl T.m_fAv T.k_fAv T.d_fAv .nil pass0 (@xAaa _ _ _ _ _ (@pq _ 0 _ _ rfl) (@xAaf _) rfl) (by decide) rfl rfl) rfl (.inl rfl)) (@xAac _ _ _ _ _ (@xAak _ _ (3) _ _ _ _ xAjx.nd rfl (Or.inl rfl) (@xAai _ _ _ _ _ _ _ _ _ _ _ _ _ _ _ _ gfAl (hr.mono (by decide)) rfl T.m_fAl T.k_fAl T.d_fAl .nil pass0 (@xAaa _ _ _ _ _ (@pq _ 0 _ _ rfl) (@xAaa _ _ _ _ _ (@pq _ 2 _ _ rfl) (@xAaf _) rfl) rfl) (by decide) rfl rfl) rfl (.inl rfl)) (@xAac _ _ _ _ _ (@xAak _ _ (4) _ _ _ _ xAjx.nd rfl (Or.inl rfl) (@xAcs _ _) rfl (.inl rfl)) (@xAac _ _ _ _ _ (@xAcd _ _ _ _ _ _ _ _ PassesOwn.never rfl (@xAbf _ _ _ _ (xAri (k:=0) (y:="one") (z:="telling") (i:=1) hcode T.LC_fAc hB (hr.mono (by decide)) rfl T.b_sorted boot_sorted ⟨rfl,rfl,rfl,by decide +kernel,rfl,rfl,by decide +kernel⟩ rfl rfl (fun _ h=>xAbw h) rfl rfl (fun _ _ _ _ _=>rfl) (fun _ _ _ _ _ _ _ hr=>(@pe_ix _ _ _ _ _ _ _ (xAcp (K:=K) rfl) (@xAau _ _ _ _ _ _ (hu2 hr) (@pv _ 1 _ _ rfl (Or.inr (Or.inr rfl)) rfl rfl) (@pq _ 0 _ _ rfl) (fun _ _=>rfl)) (@xAah _ _ _ _) (fun _ _=>rfl))) (@xAaa _ _ _ _ _ (@xAbx _ _ _ _ _ _ _ _ _ (xAmn hr.hd) rfl T.b_list boot_list (@xAaa _ _ _ _ _ (@pq _ 2 _ _ rfl) (@xAaf _) rfl) (by decide) (by decide) rfl rfl) (@xAaf _) rfl))) (@xAal _ _ (5) _ xAjx.nd rfl (Or.inl rfl) (.inl rfl)) (@xAag _ _ _ (@ps_if _ _ _ _ _ _ _ _ (@xAam _ _ _ _ _ _ _ _ (xAfy (hu2 hr)) (@pq _ 5 _ _ rfl) (@pq _ 3 _ _ rfl) rfl) (@xAag _ _ _ (@xAbm _ _ _ _ (@pe_bm _ _ _ _ _ _ _ _ _ _ _ _ PySem.F.plainAttrs_list PySem.F.slot_list_append PySem.F.type_list_append xAay (@pe_bm _ _ _ _ _ _ _ _ _ _ _ _ PySem.F.plainAttrs_dict PySem.F.slot_dict_setdefault PySem.F.type_dict_setdefault (xAlq (hu2 hr)) (@pq _ 4 _ _ rfl) (@xAaa _ _ _ _ _ (@xAau _ _ _ _ _ _ (hu2 hr) (@pq _ 2 _ _ rfl) (@pq _ 5 _ _ rfl) (fun _ _=>rfl)) (@xAaa _ _ _ _ _ (@xAas _ _ _ _ (@xAaf _)) (@xAaf _) rfl) rfl) rfl rfl rfl rfl rfl) (@xAaa _ _ _ _ _ (@pq _ 5 _ _ rfl) (@xAaf _) rfl) rfl rfl rfl rfl rfl) rfl)) (@xAav _))) (by intro _;rfl)) (@xAag _ _ _ (@xAat _ _ _ _ (@pq _ 4 _ _ rfl)))))))),?_⟩;obtain ⟨fa,F,bs,es,cs,rs,cu,k,rfl,fb,hk,hl,tt,ma,kk⟩:=h;have fq:=fb.fq (by omega:k≤100);have XWt:=fq.xw;have W:=xAfg XWt;have S:=st_lw W
 have hstl:(st (opn (tl rs))).length≤62:=by unfold st;rw [qf,xAeh];exact hl
 refine ⟨_,rfl,fa,es,rs,rfl,fq,fun H1 tq kt s1 gtq etq akt=>?_⟩;have tt1:=tt.same s1;have fb1:=fb.same s1;refine ⟨_,rfl,fa,es,rs,rfl,fb1.fq (by omega),tt1.a,s1 _ _ ma,fun H2 da kd s2a tb2 gda eda akd=>?_⟩;obtain ⟨tt2,s2'⟩:=tt1.ofA s2a tb2;have fb2:=fb1.keepTT tt1 s2';have ma2:MA K H2:=xAcc tt1 s2' _ _ (s1 _ _ ma);have akd:=st_al W akd;refine ⟨_,rfl,_,rfl,fa,F,bs,es,cs,rs,cu,k,da,kd,opn (tl rs),rfl,fb2,by omega,.inl eda,akd,W,ma2,fun H3 qa kq ls s3 hda3 gqa eqa sd hnd hm=>?_⟩;have tt3:=tt2.cut eda (fun ps z=>nomatch z) (fun φ z=>nomatch z) s3;have t23:Tups H2 H3:=xAbl eda (fun ys z=>nomatch z) s3;have etq2:=keepTT tt1 s2' etq fun ps z=>nomatch z;have etq3:H3 tq=some (.dG kt):=s3 _ _ (by rw [xAaj (xAab etq gda)];exact etq2);have akt3:=((akt.imp fun e x q=>q.imp (R':=PC H2) (xAcc tt1 s2') fun r=>r.tups (xAcc tt1 s2'))).imp fun e x q=>q.imp (R':=PC H3) t23 fun r=>r.tups t23;have akd3:=akd.imp fun e x q=>q.imp (R':=OuN H3) t23 fun r=>r.tups t23
 have sH3:Same (dels H (s2 K)) H3:=fun b u e=>by
  have nb:¬ s2 K b:=fun z=>by rw [xAax z] at e;cases e
  rw [xAbg nb] at e;exact s3 _ _ (by rw [xAaj (xAab (s1 _ _ e) gda)];exact xAci s2' (s1 _ _ e) nb)
 clear s3 t23 akd akt etq2 etq s2' s2a tb2 tt2 fb2 ma2 fb1 tt1 s1;intro inn H4 g4 s4 e4;refine ⟨_,rfl,da,kd,rfl,Rd.same hda3 s4,by have:=akd3.1;omega,fun lp H5 g5 s5 e5=>?_⟩;have s35:=s4.trans s5;have tt5:=tt3.same s35;refine ⟨tt5.b,fun H6 tb6 sd6=>?_⟩;obtain ⟨tt6,s56⟩:=tt5.ofB sd6 tb6;have k56:∀ {b:Addr} {u:HO},H5 b=some u->(∀ ps,u≠.tbl ps)->H6 b=some u:=fun e h=>keepTT tt5 s56 e h;have t56:=xAcc tt5 s56;have t36:=s35.tups.trans t56;have e6:=k56 e5 fun ps z=>nomatch z;have akt6:=akt3.imp fun e x q=>q.imp (R':=PC H6) t36 fun r=>r.tups t36;have akd6:=akd3.imp fun e x q=>q.imp (R':=OuN H6) t36 fun r=>r.tups t36;have etq6:=k56 (s35 _ _ etq3) fun ps z=>nomatch z;have an6:=xAui akd6;refine ⟨.ref tq,rfl,lp,_,(st (opn (tl rs))).map kkD,2,rfl,SqL.of e6,by rw [qf];exact an6.1.symm,xAug _,⟨by rw [an6.1];omega,.inl (by rw [an6.1];omega)⟩,fun m y d H' Q' hy hd s' kq'=>⟨y,rfl,?_⟩,fun q H7 ix gq s7 six e7=>?_⟩
 ·obtain ⟨x,hx,gy⟩:=an6.at hy
  rw [qu,hx] at hd;cases hd;obtain ⟨z,hz,_,ez,ka,kb⟩:=st_of (qo hx);have akt':=akt6.imp fun e x q=>q.imp (R':=PC H') s'.tups fun r=>r.tups s'.tups;obtain ⟨v,hv,b,vp,vo,vn,kq2,rfl,h1,h2,h3,h4,h5⟩:=xAcb akt' XWt.nd hz;have gy:GK H6 (.tup x.pt) y:=gy;rw [ez] at gy;refine ⟨_,rfl,_,rfl,tq,kt,.tup z.pt,.ref b,rfl,.inl (s' _ _ etq6),gy.tups s'.tups,hv,b,_,3,.ref kq2,rfl,rfl,SqT.of h1,rfl,kq' H' _ (Same.refl _) ?_⟩;show DV K H' (.ref kq2) (.tuple [.int x.ka,.int x.kb]);rw [ka,kb];exact .tup (SqT.of h5) (.cons (.int _) (.cons (.int _) .nil))
 obtain ⟨ms,am,hw,hperm⟩:=xAfj ⟨[],[],[],0,0⟩ an6 six;have hms:∀ x,x∈ms↔x∈st (opn (tl rs)):=fun x=>hperm.mem_iff;have hup:=up_of XWt kkD_up hw (hperm.nodup_iff.mpr (xAms XWt)) fun x hx=>(hms x).mp hx
 have hml:ms.length≤62:=by rw [hperm.length_eq];exact hstl
 have am7:=am.imp fun v k z=>NP.tups z s7.tups;generalize ix.map (fun i=>(kd.map (·.2.1)).getD i .non)=zs at e7 am7 am;have t37:=t36.trans s7.tups;have k37:∀ {b:Addr} {u:HO},H3 b=some u->(∀ ps,u≠.tbl ps)->H7 b=some u:=fun e h=>s7 _ _ (k56 (s35 _ _ e) h);have eqa7:=k37 eqa fun ps z=>nomatch z;have einn7:H7 inn=some (.dG []):=s7 _ _ (k56 (s5 _ _ e4) fun ps z=>nomatch z);have sd7:=sd.tups t37;have akd7:=akd3.imp fun e x q=>q.imp (R':=OuN H7) t37 fun r=>r.tups t37
 have nda:da≠inn:=fun z=>by
  rw [z] at hda3;rcases hda3 with y | ⟨o',y⟩ <;> rw [g4] at y <;> cases y
 have hda7:Rd H7 da (.dG kd):=by
  rcases hda3 with y | ⟨o',y⟩
  ·exact .inl (k37 y fun ps z=>nomatch z)
  ·exact .inr ⟨o',k37 y fun ps z=>nomatch z⟩
 have nqa:qa≠inn:=xAab eqa g4
 have nqi:q≠inn:=fun z=>by rw [z,k56 (s5 _ _ e4) fun ps z=>nomatch z] at gq;cases gq
 have tt7:=tt6.same s7
 have b0:∀ {b u},H7 b=some u->b≠inn->(del H7 inn) b=some u:=fun e n=>by rw [xAaj n];exact e
 refine ⟨q,rfl,⟨_,SqL.of e7⟩,xAce (xs:=zs) (fun j σ X=>∃ kvs u5,σ=[some (.ref fa),some (.ref tq),some (.ref da),some (.ref qa),some (.ref inn),u5]/\Same (del H7 inn) X/\ID (opn (tl rs)) cu (ms.take j) (del H7 inn) X inn kvs/\kvs.length≤j)
  ⟨[],none,rfl,(fun b u e=>xAbp _ _ e),⟨einn7,fun p=>.inl ⟨rfl,rfl⟩,fun k k' q z=>(by cases z),fun k q z=>(by cases z)⟩,qc _⟩ (fun j σ X _ ⟨_,_,_,s,_⟩=>SqL.of (s _ _ (b0 e7 nqi))) ?_ ?_⟩
 ·rintro j x σ X hx ⟨kvs,u5,rfl,sX,id,hkl⟩
  obtain ⟨m,em,gx7⟩:=am7.at hx;have hj:j<ms.length:=(qv.mp em).1;have hmm:=(hms m).mp (qo em)
  have htk:ms.take (j+1)=ms.take j++[m]:=by rw [zd,em];rfl
  have tX:Tups H7 X:=xAbl einn7 (fun ys z=>nomatch z) sX;have gx:GK X (.tup m.pt) x:=GK.tups gx7 tX;refine ⟨_,rfl,_,rfl,qa,kq,.tup m.pt,rfl,.inl (sX _ _ (b0 eqa7 nqa)),gx,_,rfl,?_⟩;rw [if_neg (by decide)]
  by_cases hsh:Sh (opn (tl rs)) cu m.pt
  ·refine itT ((xApr sd7).mpr ((hm _).mpr hsh)) ?_
   have akX:=akd7.imp fun e x q=>q.imp (R':=OuN X) tX fun r=>r.tups tX;obtain ⟨v',hv',gv'⟩:=xAcb akX S.nd hmm
   have hdX:Rd X da (.dG kd):=by
    rcases hda7 with y | ⟨o',y⟩
    ·exact .inl (sX _ _ (b0 y nda))
    ·exact .inr ⟨o',sX _ _ (b0 y nda)⟩
   refine ⟨_,rfl,.inr (.inr (.inl ⟨rfl,.inr (.inr ⟨kvs,id.has⟩)⟩)),_,rfl,_,rfl,da,kd,.tup m.pt,v',rfl,hdX,gx,hv',szOk rfl,fun z0 X4 gz sz ez=>?_⟩;have id4:=id.same sz;have s74:=sX.trans sz;have f0:(del H7 inn) z0=none:=sX.free gz;have gv4:GK X4 (nd m.ou) v':=GK.tups gv' sz.tups;refine ⟨inn,kvs,nd m.ou,v',.ref z0,rfl,rfl,id4.has,gv4,huge (by omega),fun u hu=>?_,fun hu=>?_⟩
   ·rcases id4.each m.ou with ⟨h1,_⟩ | ⟨q',vs,h1,h2,h3,h4⟩
    ·rw [h1] at hu;cases hu
    ·rw [h1] at hu
     cases hu
     have vl:vs.length≤62:=by
      rw [h3.1];exact qk (ve _ _) (by rw [zo];omega)
     refine ⟨.inl ⟨rfl,_,SqL.of h2⟩,_,rfl,q',vs,_,rfl,rfl,h2,huge (by omega),?_⟩;refine ⟨kvs,_,rfl,s74.wr h4,?_,by omega⟩;rw [htk];exact id4.old hsh h1 h2 (GK.tups gx sz.tups)
   ·have nz:z0≠inn:=fun z=>by rw [z,id.has] at gz;cases gz
    have ez1:(upd X4 inn (.dG (pG kvs (nd m.ou) v' (.ref z0)))) z0=some (.lst []):=by rw [xAae nz];exact ez
    refine ⟨.inl ⟨rfl,_,SqL.of ez1⟩,_,rfl,z0,_,_,rfl,rfl,ez1,huge (by show 0≤_;omega),?_⟩
    have hqn:∀ k,vG kvs k≠some (.ref z0):=fun k z=>by
     obtain ⟨xs,y⟩:=id.live k z0 z;rw [y] at gz;cases gz
    refine ⟨pG kvs (nd m.ou) v' (.ref z0),_,rfl,(s74.wr xAbk).wr f0,?_,qk (xAev kvs _ _ _) (Nat.succ_le_succ hkl)⟩;rw [htk];exact id4.first hsh hu f0 ez hqn (GK.tups gx sz.tups)
  ·refine itF (wu.mpr fun z=>hsh ((hm _).mp ((xApr sd7).mp z))) ⟨kvs,_,rfl,sX,?_,by omega⟩
   rw [htk];exact id.skip hsh
 ·rintro σ X ⟨kvs,u5,rfl,sX,id,hkl⟩
  rw [am7.1,zh] at id
  have fr7:∀ {b},H7 b=none->H b=none:=fun {b} e=>by
   have h6:=s7.free e;have h5:=tt5.free s56 tt6 h6;exact tt.free sH3 tt3 (s35.free h5)
  have finn:H inn=none:=tt.free sH3 tt3 g4;refine ⟨_,rfl,kk X inn kvs (fun b u e=>?_) (tt7.cut einn7 (fun ps z=>nomatch z) (fun φ z=>nomatch z) sX) finn id.has fun p hp=>?_⟩
  ·have nb:¬ s2 K b:=fun z=>by rw [xAax z] at e;cases e
   have e3:=s35 _ _ (sH3 _ _ e);rw [xAbg nb] at e;exact sX _ _ (b0 (s7 _ _ (xAci s56 e3 nb)) (xAab e finn))
  ·have hI:=xAro (cu:=cu) (p:=p) hup hms
   have:=id.each p;rw [xAhf hp.ne] at this;rcases this with ⟨h1,h2⟩ | ⟨q',vs,h1,h2,h3,h4⟩
   ·rw [h2] at hI
    exact .inl ⟨h1,hI⟩
   ·refine .inr ⟨q',vs,_,h1,fr7 ?_,h2,h3,hI⟩
    have nq:q'≠inn:=fun z=>by rw [z,id.has] at h2;cases h2
    rw [xAaj nq] at h4;exact h4
theorem ok_fAj (T:Txt K mg d tk) (gfAc:FnOk P w K mg base CX0 7 d.fAc d.fAcd ["facts"] (sp_fAc K)):FnOk P w K mg base CX0 8 d.fAj d.fAjd ["facts","part"] (sp_fAj K):=by
 refine T.F_fAj.ok sc_fAj (fun vs H Q E h=>xAux h) (fun cdv A outer s H vs Q E hr h=>?_);have hu:(A.deeper (envOfC "inner_parts" (defScope s_fAj) s.heap.objs.size d.fAj cdv)).units<cLine:=hr.units0;refine ⟨_,(@xAag _ _ _ (@xAat _ _ _ _ (@pe_bm _ _ _ _ _ _ _ _ _ _ _ _ PySem.F.plainAttrs_dict PySem.F.slot_dict_get PySem.F.type_dict_get (xAlp (hu2 hr)) (@xAai _ _ _ _ _ _ _ _ _ _ _ _ _ _ _ _ gfAc (hr.mono (by decide)) rfl T.m_fAc T.k_fAc T.d_fAc .nil pass0 (@xAaa _ _ _ _ _ (@pq _ 0 _ _ rfl) (@xAaf _) rfl) (by decide) rfl rfl) (@xAaa _ _ _ _ _ (@pq _ 1 _ _ rfl) (@xAaa _ _ _ _ _ (@xAas _ _ _ _ (@xAaf _)) (@xAaf _) rfl) rfl) rfl rfl rfl rfl rfl))),?_⟩;obtain ⟨fa,F,bs,es,cs,rs,cu,k,vp,p,rfl,fb,hk,hl,tt,ma,gp,hp,kk⟩:=h;refine ⟨_,rfl,fa,F,bs,es,cs,rs,cu,k,rfl,fb,hk,hl,tt,ma,fun H1 da kd s1 tt1 gda eda hin=>?_⟩;refine ⟨.inr (.inr (.inl ⟨rfl,.inr (.inr ⟨kd,eda⟩)⟩)),_,rfl,szOk rfl,fun z0 H2 g2 s2' e2=>?_⟩;have sA:Same (dels H (s2 K)) H2:=s1.trans s2';have tt2:=tt1.same s2';refine ⟨da,kd,.tup p,vp,.ref z0,rfl,rfl,s2' _ _ eda,(gp.tups (xAcc tt s1)).tups s2'.tups,?_⟩;rcases hin p hp with ⟨h1,h2⟩ | ⟨q,ws,l,h1,h2,h3,h4,h5⟩
 ·rw [h1]
  exact kk H2 z0 [] [] sA tt2 (tt.free s1 tt1 g2) e2 .nil h2
 ·rw [h1]
  exact kk H2 q ws l sA tt2 h2 (s2' _ _ h3) (h4.imp fun v x z=>NP.tups z s2'.tups) h5
theorem ok_fAa (T:Txt K mg d tk) (gfAn:FnOk P w K mg base CX0 1 d.fAn d.fAnd [] (sp_fAn K)) (gfAr:FnOk P w K mg base CX0 3 d.fAr d.fArd ["_law_facts_here"] (sp_fAr K)) (gfAk:FnOk P w K mg base CX0 7 d.fAk d.fAkd ["facts"] (sp_fAk K)):FnOk P w K mg base CX0 8 d.fAa d.fAad ["_law_facts_here"] (sp_fAa K):=by
 refine T.F_fAa.ok xAot (fun vs H Q E h=>xAva h) (fun cdv A outer s H vs Q E hr h=>?_);have hu:(A.deeper (envOfC "_law_shown_right" (defScope s_fAa) s.heap.objs.size d.fAa cdv)).units<cLine:=hr.units0;refine ⟨_,(@xAac _ _ _ _ _ (@xAak _ _ (1) _ _ _ _ xAot.nd rfl (Or.inl rfl) (@xAai _ _ _ _ _ _ _ _ _ _ _ _ _ _ _ _ gfAr (hr.mono (by decide)) rfl T.m_fAr T.k_fAr T.d_fAr .nil pass0 (@xAaa _ _ _ _ _ (@pq _ 0 _ _ rfl) (@xAaf _) rfl) (by decide) rfl rfl) rfl (.inl rfl)) (@xAac _ _ _ _ _ (@xAak _ _ (2) _ _ _ _ xAot.nd rfl (Or.inl rfl) (@xAai _ _ _ _ _ _ _ _ _ _ _ _ _ _ _ _ gfAk (hr.mono (by decide)) rfl T.m_fAk T.k_fAk T.d_fAk .nil pass0 (@xAaa _ _ _ _ _ (@pq _ 0 _ _ rfl) (@xAaf _) rfl) (by decide) rfl rfl) rfl (.inl rfl)) (@xAac _ _ _ _ _ (@ps_if _ _ _ _ _ _ _ _ (@PW.pt _ _ _ (@pw_or _ _ _ _ _ _ _ (@xAkb _ _ _ _ (@xAfl _ _ _ (@xAaz _ _ _ _ _ _ _ _ _ xAdz rfl T.b_isinstance boot_isinstance (@xAaa _ _ _ _ _ (@pq _ 2 _ _ rfl) (@xAaa _ _ _ _ _ (@xAow _ _ (.ty "list") _ _ rfl T.b_list boot_list rfl (by decide) (by decide)) (@xAaf _) rfl) rfl) (by decide) (by decide) rfl rfl) (by intro _;rfl))) (@xAgf _ _ _ _ (@xAam _ _ _ _ _ _ _ _ (xAkq (hu64 hr)) (@pq _ 2 _ _ rfl) (@pq _ 1 _ _ rfl) (xAbb _))))) (@xAag _ _ _ (@xAat _ _ _ _ (@pe_bl _ _ _ _))) (@xAav _)) (@xAac _ _ _ _ _ (@xAbm _ _ _ _ (@pe_bm0 _ _ _ _ _ _ _ _ _ PySem.F.plainAttrs_list PySem.F.slot_list_clear PySem.F.type_list_clear xApx (@pq _ 2 _ _ rfl) rfl rfl) rfl) (@xAac _ _ _ _ _ (@xAak _ _ (2) _ _ _ _ xAot.nd rfl (Or.inl rfl) (@xAai _ _ _ _ _ _ _ _ _ _ _ _ _ _ _ _ gfAk (hr.mono (by decide)) rfl T.m_fAk T.k_fAk T.d_fAk .nil pass0 (@xAaa _ _ _ _ _ (@pq _ 0 _ _ rfl) (@xAaf _) rfl) (by decide) rfl rfl) rfl (.inl rfl)) (@xAag _ _ _ (@xAat _ _ _ _ (@xArv _ _ _ _ _ _ _ (@xAhk _ _ _ _ _ _ _ _ (xAep (hu64 hr)) (@xAai _ _ _ _ _ _ _ _ _ _ _ _ _ _ _ _ gfAk (hr.mono (by decide)) rfl T.m_fAk T.k_fAk T.d_fAk .nil pass0 (@xAaa _ _ _ _ _ (@xAke _ _ _ _ _ _ _ _ _ _ _ _ _ gfAn (hr.mono (by decide)) rfl T.m_fAn T.k_fAn T.d_fAn .nil pass0 (by decide)) (@xAaf _) rfl) (by decide) rfl rfl) (@xAas _ _ _ _ (@xAaa _ _ _ _ _ (@xAao _ _ _ _ _ (@xAaa _ _ _ _ _ (@xAar _ _ _ _) (@xAaa _ _ _ _ _ (@xAah _ _ _ _) (@xAaf _) rfl) rfl)) (@xAaf _) rfl)) (xAbb _)) (@xAru _ _ _ _ _ (@xAhk _ _ _ _ _ _ _ _ (xAep (hu64 hr)) (@pq _ 2 _ _ rfl) (@pq _ 1 _ _ rfl) (xAbb _))))))))))),?_⟩;obtain ⟨fa,F,bs,es,cs,rs,cu,k,rfl,fb,hk,hl,tt,ma,kk⟩:=h;have W:=xAfg (fb.fq (by omega:k≤100)).xw;refine ⟨_,rfl,fa,F,bs,es,cs,rs,cu,k,rfl,fb,hk,hl,fun H1 sa sws sls s1 gsa esa asa wks nds hms=>?_⟩;have tt1:=tt.same s1;have fb1:=fb.same s1;have ma1:=s1 _ _ ma;have hpn:∀ a∈sls,Pn a:=fun a ha=>((hms a).mp ha).pn W;have oks:=xAol hpn;refine ⟨_,rfl,fa,F,bs,es,cs,rs,cu,k,rfl,fb1,hk,hl,tt1,ma1,fun H2 fo fws fls s2' tt2 gfo efo afo wkf ndf hmf=>?_⟩;have t12:=xAcc tt1 s2';have esa2:=keepTT tt1 s2' esa fun ps z=>nomatch z;have asa2:=asa.imp fun v k z=>NmK.tups z t12;have fb2:=fb1.keepTT tt1 s2';have hpf:∀ a∈fls,Pn a:=fun a ha=>((hmf a).mp ha).pn W;have eqd:fls.map tD=sls.map tD:=wk_eq ndf nds (fun a=>(hmf a).trans (hms a).symm) hpf wkf wks
 have dvf:DV K H2 (.ref fo) (.list (sls.map tD)):=by rw [← eqd];exact .lst (SqL.of efo) (xAbv afo).dv
 have dvs:DV K H2 (.ref sa) (.list (sls.map tD)):=.lst (SqL.of esa2) (xAbv asa2).dv;refine ⟨_,rfl,_,"list",_,true,rfl,.lst efo,by rfl,_,rfl,itF rfl ?_⟩;refine ⟨_,rfl,_,rfl,_,_,dvf,dvs,oks.lay,oks.lay,qk (zq _ _) (by have:=oks.deep;omega),_,rfl,itF (by rw [oks.self];rfl) ?_⟩;refine ⟨_,rfl,.inl ⟨rfl,_,SqL.of efo⟩,fo,fws,rfl,rfl,efo,?_⟩;have nfs:sa≠fo:=xAab esa gfo;have tw:Tups H2 (upd H2 fo (.lst [])):=Tups.wl efo;have tt3:TT K (upd H2 fo (.lst [])):=tt2.wr efo (fun ps z=>nomatch z) (fun φ z=>nomatch z)
 have esa3:(upd H2 fo (.lst [])) sa=some (.lst sws):=by rw [xAae nfs];exact esa2
 have s03:Same (dels H (s2 K)) (upd H2 fo (.lst [])):=fun b u e=>by
  have nb:¬ s2 K b:=fun z=>by rw [xAax z] at e;cases e
  rw [xAbg nb] at e;rw [xAae (xAab (s1 _ _ e) gfo)];exact xAci s2' (s1 _ _ e) nb
 generalize upd H2 fo (.lst [])=H3 at tw tt3 esa3 s03;have fb3:=fb.keepTT tt s03;have ma3:MA K H3:=xAcc tt s03 _ _ ma;have asa3:=asa2.imp fun v k z=>NmK.tups z tw;refine ⟨_,rfl,fa,F,bs,es,cs,rs,cu,k,rfl,fb3,hk,hl,tt3,ma3,fun H4 fo2 fws2 fls2 s4 tt4 gfo2 efo2 afo2 wkf2 ndf2 hmf2=>?_⟩;have hpf2:∀ a∈fls2,Pn a:=fun a ha=>((hmf2 a).mp ha).pn W;have eqd2:fls2.map tD=sls.map tD:=wk_eq ndf2 nds (fun a=>(hmf2 a).trans (hms a).symm) hpf2 wkf2 wks;have esa4:=keepTT tt3 s4 esa3 fun ps z=>nomatch z;have asa4:=asa3.imp fun v k z=>NmK.tups z (xAcc tt3 s4);have s04:=TT.trans s03 s4;refine ⟨rfl,fun H5 fa' F' s5 g5 gF' e5 inj' eF'=>?_⟩;have tt5:=tt4.same s5;have ma5:MA K H5:=s5 _ _ (xAcc tt s04 _ _ ma);refine ⟨fa',F',[],[],[],[],[],0,rfl,xAuj e5 inj' eF',by decide,by decide,tt5,ma5,fun H6 q6 ws6 ls6 s6 tt6 g6 e6 a6 _ nd6 hm6=>?_⟩;have h6:=xAom nd6 hm6;subst h6;refine ⟨szOk rfl,fun tm H7 g7 s7 e7=>⟨szOk rfl,fun lm H8 g8 s8 e8=>?_⟩⟩;have s68:=s7.trans s8
 have okm:=xAol (ls:=[mainK]) fun a ha=>by rw [qj.mp ha];exact .inl rfl
 have s08:Same (dels H (s2 K)) H8:=(TT.trans (s04.trans s5) s6).trans s68;have k48:∀ {b:Addr} {u:HO},H4 b=some u->(∀ ps,u≠.tbl ps)->H8 b=some u:=fun e h=>s68 _ _ (keepTT tt5 s6 (s5 _ _ e) h);have t48:Tups H4 H8:=fun b xs e=>k48 e fun ps z=>nomatch z;refine ⟨.list ([mainK].map tD),.list ([mainK].map tD),.lst (SqL.of (s68 _ _ e6)) (xAbv (a6.imp fun v k z=>NmK.tups z s68.tups)).dv,.lst (SqL.of e8) (xAbv (.cons (show NmK H8 (.ref tm) mainK from ⟨tm,rfl,s8 _ _ e7⟩) .nil)).dv,okm.lay,okm.lay,qk (zq _ _) (by have:=okm.deep;omega),?_⟩;refine ⟨_,rfl,itT (by rw [okm.self];rfl) ?_⟩
 have dvf8:DV K H8 (.ref fo2) (.list (sls.map tD)):=by rw [← eqd2];exact .lst (SqL.of (k48 efo2 fun ps z=>nomatch z)) (xAbv (afo2.imp fun v k z=>NmK.tups z t48)).dv
 have dvs8:DV K H8 (.ref sa) (.list (sls.map tD)):=.lst (SqL.of (k48 esa4 fun ps z=>nomatch z)) (xAbv (asa4.imp fun v k z=>NmK.tups z t48)).dv;refine ⟨_,rfl,_,rfl,_,_,dvf8,dvs8,oks.lay,oks.lay,qk (zq _ _) (by have:=oks.deep;omega),?_⟩;rw [if_neg (by decide),oks.self];exact kk H8 s08 (tt6.same s68)
theorem ok_fAb (T:Txt K mg d tk) (gfAo:FnOk P w K mg base CX0 2 d.fAo d.fAod ["_law_facts_here","_law_stands_here","_law_seen","_law_part"] (sp_fAo K)) (gfAr:FnOk P w K mg base CX0 3 d.fAr d.fArd ["_law_facts_here"] (sp_fAr K)) (gfAi:FnOk P w K mg base CX0 2 d.fAi d.fAid ["_law_facts_here"] (sp_fAi K)) (gfAj:FnOk P w K mg base CX0 8 d.fAj d.fAjd ["facts","part"] (sp_fAj K)):FnOk P w K mg base CX0 9 d.fAb d.fAbd ["_law_facts_here","_law_most"] (sp_fAb K):=by
 refine T.F_fAb.ok xAge (fun vs H Q E h=>xAvb h) (fun cdv A outer s H vs Q E hr h=>?_);have hu:(A.deeper (envOfC "_law_inner_right" (defScope s_fAb) s.heap.objs.size d.fAb cdv)).units<cLine:=hr.units0;have hu1:(A.deeper (envOfC "_law_inner_right" (defScope s_fAb) s.heap.objs.size d.fAb cdv)).units+1<cLine:=hu_of hr;refine ⟨_,(@xAac _ _ _ _ _ (@xAak _ _ (2) _ _ _ _ xAge.nd rfl (Or.inl rfl) (@xAai _ _ _ _ _ _ _ _ _ _ _ _ _ _ _ _ gfAr (hr.mono (by decide)) rfl T.m_fAr T.k_fAr T.d_fAr .nil pass0 (@xAaa _ _ _ _ _ (@pq _ 0 _ _ rfl) (@xAaf _) rfl) (by decide) rfl rfl) rfl (.inl rfl)) (@xAac _ _ _ _ _ (@xAak _ _ (3) _ _ _ _ xAge.nd rfl (Or.inl rfl) (@xAai _ _ _ _ _ _ _ _ _ _ _ _ _ _ _ _ gfAi (hr.mono (by decide)) rfl T.m_fAi T.k_fAi T.d_fAi .nil pass0 (@xAaa _ _ _ _ _ (@pq _ 0 _ _ rfl) (@xAaf _) rfl) (by decide) rfl rfl) rfl (.inl rfl)) (@xAac _ _ _ _ _ (@xAak _ _ (4) _ _ _ _ xAge.nd rfl (Or.inl rfl) (@xAas _ _ _ _ (@xAaf _)) rfl (.inl rfl)) (@xAac _ _ _ _ _ (@xAcd _ _ _ _ _ _ _ _ PassesOwn.never rfl (@xAbf _ _ _ _ (@pe_op _ _ _ _ _ _ _ _ xAkn (@xAas _ _ _ _ (@xAaa _ _ _ _ _ (@xAao _ _ _ _ _ (@xAaa _ _ _ _ _ (@xAar _ _ _ _) (@xAaa _ _ _ _ _ (@xAah _ _ _ _) (@xAaf _) rfl) rfl)) (@xAaf _) rfl)) (@xAkg _ _ _ _ _ _ _ _ _ _ xAko (@xAbo _ _ _ _ _ _ _ (["_law_one"]) ([]) _ _ _ _ _ rfl (@xAbf _ _ _ _ (@xAbr _ _ _ _ _ _ hu1 (@pq _ 0 _ _ rfl) (@xAar _ _ _ _) (fun _ _=>rfl))) ⟨rfl,by decide +kernel,by decide +kernel⟩ (caps0 (by decide +kernel)) (fun _ _ _=>(@xAal _ _ (0) _ (by show List.Nodup (["_law_one"]:List Str);decide +kernel) rfl (Or.inl rfl) (.inr rfl))) (fun _=>xAbd rfl) (fun _ _ _=>(@xAcl _)) (fun _ _ _=>(@pe_ix _ _ _ _ _ _ _ (xAcp (K:=K) rfl) (@pq _ 0 _ _ rfl) (@xAah _ _ _ _) (fun _ _=>rfl))) (by intro _;rfl)) (@xAsd _) (@xAkf _ _ _ (@pq _ 1 _ _ rfl))))) (@xAal _ _ (5) _ xAge.nd rfl (Or.inl rfl) (.inl rfl)) (@xAac _ _ _ _ _ (@xAak _ _ (6) _ _ _ _ xAge.nd rfl (Or.inl rfl) (@xAai _ _ _ _ _ _ _ _ _ _ _ _ _ _ _ _ gfAj (hr.mono (by decide)) rfl T.m_fAj T.k_fAj T.d_fAj .nil pass0 (@xAaa _ _ _ _ _ (@pq _ 0 _ _ rfl) (@xAaa _ _ _ _ _ (@pq _ 5 _ _ rfl) (@xAaf _) rfl) rfl) (by decide) rfl rfl) rfl (.inl rfl)) (@xAac _ _ _ _ _ (@ps_if _ _ _ _ _ _ _ _ (@xAkb _ _ _ _ (@xAfl _ _ _ (@xAaz _ _ _ _ _ _ _ _ _ xAdz rfl T.b_isinstance boot_isinstance (@xAaa _ _ _ _ _ (@pq _ 6 _ _ rfl) (@xAaa _ _ _ _ _ (@xAow _ _ (.ty "list") _ _ rfl T.b_list boot_list rfl (by decide) (by decide)) (@xAaf _) rfl) rfl) (by decide) (by decide) rfl rfl) (by intro _;rfl))) (@xAag _ _ _ (@xAat _ _ _ _ (@pe_bl _ _ _ _))) (@xAav _)) (@xAag _ _ _ (@xAbm _ _ _ _ (@pe_bm _ _ _ _ _ _ _ _ _ _ _ _ PySem.F.plainAttrs_list PySem.F.slot_list_append PySem.F.type_list_append xAay (@pq _ 4 _ _ rfl) (@xAaa _ _ _ _ _ (@xAao _ _ _ _ _ (@xAaa _ _ _ _ _ (@pq _ 6 _ _ rfl) (@xAaa _ _ _ _ _ (@xAai _ _ _ _ _ _ _ _ _ _ _ _ _ _ _ _ gfAo (hr.mono (by decide)) rfl T.m_fAo T.k_fAo T.d_fAo .nil pass0 (@xAaa _ _ _ _ _ (@pq _ 0 _ _ rfl) (@xAaa _ _ _ _ _ (@pq _ 3 _ _ rfl) (@xAaa _ _ _ _ _ (@pq _ 2 _ _ rfl) (@xAaa _ _ _ _ _ (@pq _ 5 _ _ rfl) (@xAaf _) rfl) rfl) rfl) rfl) (by decide) rfl rfl) (@xAaf _) rfl) rfl)) (@xAaf _) rfl) rfl rfl rfl rfl rfl) rfl)))) (by intro _;rfl)) (@xAac _ _ _ _ _ (@xAcd _ _ _ _ _ _ _ _ PassesOwn.never rfl (@xAbf _ _ _ _ (@pq _ 4 _ _ rfl)) (@xAfm _ _ _ _ _ _ rfl (@xAaq _ _ _ _ _ (@xAal _ _ (6) _ xAge.nd rfl (Or.inl rfl) (.inl rfl)) (@xAaq _ _ _ _ _ (@xAal _ _ (7) _ xAge.nd rfl (Or.inl rfl) (.inl rfl)) (@xAdb _) rfl) rfl) rfl rfl) (@xAac _ _ _ _ _ (@ps_if _ _ _ _ _ _ _ _ (@xAam _ _ _ _ _ _ _ _ (xAkq (hu64 hr)) (@pq _ 6 _ _ rfl) (@pq _ 7 _ _ rfl) (xAbb _)) (@xAag _ _ _ (@xAat _ _ _ _ (@pe_bl _ _ _ _))) (@xAav _)) (@xAag _ _ _ (@xAbm _ _ _ _ (@pe_bm _ _ _ _ _ _ _ _ _ _ _ _ PySem.F.plainAttrs_list PySem.F.slot_list_append PySem.F.type_list_append xAay (@pq _ 6 _ _ rfl) (@xAaa _ _ _ _ _ (@xAao _ _ _ _ _ (@xAaa _ _ _ _ _ (@xAar _ _ _ _) (@xAaa _ _ _ _ _ (@xAah _ _ _ _) (@xAaf _) rfl) rfl)) (@xAaf _) rfl) rfl rfl rfl rfl rfl) rfl))) (by intro _;rfl)) (@xAag _ _ _ (@xAat _ _ _ _ (@xAhk _ _ _ _ _ _ _ _ (xAep (hu64 hr)) (@xAai _ _ _ _ _ _ _ _ _ _ _ _ _ _ _ _ gfAj (hr.mono (by decide)) rfl T.m_fAj T.k_fAj T.d_fAj .nil pass0 (@xAaa _ _ _ _ _ (@pq _ 0 _ _ rfl) (@xAaa _ _ _ _ _ (@xAao _ _ _ _ _ (@xAaa _ _ _ _ _ (@xAar _ _ _ _) (@xAaa _ _ _ _ _ (@xAah _ _ _ _) (@xAaf _) rfl) rfl)) (@xAaf _) rfl) rfl) (by decide) rfl rfl) (@pe_ix _ _ _ _ _ _ _ xAdd (@pe_ix _ _ _ _ _ _ _ xAaw (@pq _ 4 _ _ rfl) (@xAah _ _ _ _) (fun _ _=>rfl)) (@xAah _ _ _ _) (fun _ _=>rfl)) (xAbb _))))))))),?_⟩;obtain ⟨fa,F,bs,es,cs,rs,cu,k,m,rfl,hm0,fb,hk,hl,tt,ma,kk⟩:=h;have fq:=fb.fq (by omega:k≤100);have W:=xAfg fq.xw;have S:=st_lw W;have hbl:=fb.fi.bl;refine ⟨_,rfl,fa,F,bs,es,cs,rs,cu,k,rfl,fb,hk,hl,fun H1 sa sws sls s1 gsa esa asa _ _ hms=>?_⟩;have fb1:=fb.same s1;refine ⟨_,rfl,fa,es,rs,rfl,fb1.fq (by omega),fun H2 da kd s2' gda eda akd=>?_⟩;have akd:=st_al W akd;refine ⟨szOk rfl,fun se H3 gse s3 ese=>?_⟩;have s03:=(s1.trans s2').trans s3;have fb3:=fb.same s03;refine ⟨szOk rfl,fun tm H4 g4 s4 e4=>⟨szOk rfl,fun p1 H5 g5 s5 e5=>?_⟩⟩;have s35:=s4.trans s5;have fb5:=fb3.same s35;refine ⟨_,rfl,fa,.ref (F 0),rfl,.inl ⟨fkv F 9,.inr "births",fb5.dk,rfl,(xAcy F 0 (by decide)).symm⟩,F 0,rfl,⟨_,SqL.of fb5.eb⟩,xAfs (xs:=bs) (big (by omega)) (fun j us X=>X=H5/\∀ v∈us,∃ k,NmK X v k/\Pn k) ⟨rfl,fun v z=>nomatch z⟩ (fun _ _ X s=>by rw [s.1];exact SqL.of fb5.eb) (fun j x us X K1 K0 hx s' k1 k0=>?_) fun X np us s' hu hq=>?_⟩
 ·obtain ⟨rfl,ae⟩:=s'
  obtain ⟨b,vn,vo,x1,y1,rfl,h1,h2,h3,h4,h5⟩:=fb5.fi.bt x (qo hx);refine iteT (B:=K0 X) ?_;refine ⟨_,rfl,b,_,0,vn,rfl,rfl,SqT.of h1,rfl,k1 _ _ ⟨rfl,fun v hv=>?_⟩⟩;rcases qw.mp hv with z | z
  ·exact ae v z
  ·rw [qj.mp z];exact ⟨x1,h2,.inr h3⟩
 obtain ⟨rfl,ae⟩:=s';have s6:Same X (upd X np (.lst us)):=Same.new hq;have e6:(upd X np (.lst us)) np=some (.lst us):=xAad;generalize upd X np (.lst us)=H6 at s6 e6;refine ⟨_,rfl,m,rfl,np,us,rfl,SqL.of e6,fun sl H7 g7 s7 e7=>?_⟩
 have hcut:∀ v∈cutV us none (some m),∃ k,NmK X v k/\Pn k:=fun v hv=>ae v (by
  unfold cutV at hv
  exact ym (List.mem_of_mem_take hv))
 have hcl:(cutV us none (some m)).length≤us.length:=by
  unfold cutV;rw [zo,zr];omega
 generalize cutV us none (some m)=cw at hcut hcl e7;obtain ⟨cls,acl⟩:=al_ex hcut;refine ⟨p1,sl,[.ref tm],cw,rfl,rfl,s7 _ _ (s6 _ _ e5),e7,big (by simp only [List.length_cons,List.length_nil];omega),fun pl H8 g8 s8 e8=>?_⟩;have s38:=((s35.trans s6).trans s7).trans s8;have s08:=s03.trans s38;have esa8:=((s2'.trans s3).trans s38) _ _ esa;have eda8:=(s3.trans s38) _ _ eda;have ese8:=s38 _ _ ese;have apl:AL (fun v k=>NmK H8 v k/\Pn k) ([.ref tm]++cw) (mainK::cls):=.cons ⟨⟨tm,rfl,(((s5.trans s6).trans s7).trans s8) _ _ e4⟩,.inl rfl⟩ (acl.imp fun v k z=>⟨NmK.tups z.1 ((s6.trans s7).trans s8).tups,z.2⟩)
 have hpl:([V.ref tm]++cw).length≤100:=by rw [List.length_append];simp only [List.length_cons,List.length_nil];omega
 generalize [V.ref tm]++cw=pvs at e8 apl hpl;have nps:pl≠se:=(xAab (((s35.trans s6).trans s7) _ _ ese) g8).symm;have nss:sa≠se:=xAab (s2' _ _ esa) gse;have nds:da≠se:=xAab eda gse;have fse:H se=none:=(s1.trans s2').free gse;have fda:H da=none:=s1.free gda;have akd8:=akd.imp fun e x q=>q.imp (R':=OuN H8) (s3.trans s38).tups fun r=>r.tups (s3.trans s38).tups;have asa8:=asa.imp fun v k z=>NmK.tups z ((s2'.trans s3).trans s38).tups;have tt8:=tt.same s08;clear acl hcut ae e7 e6 hq e5 e4 s4 s5 g4 g5 g7 g8 s6 s7 s8 s35 fb5 fb3 s38 ese eda akd asa esa s2' s3 gda gse gsa s1 fb1 s03;have sH8:Same (dels H (s2 K)) H8:=xAue s08
 have hstl:(st (opn (tl rs))).length≤62:=by unfold st;rw [qf,xAeh];exact hl
 refine ⟨pl,rfl,⟨_,SqL.of e8⟩,xAce (xs:=pvs) (fun j σ X=>∃ (ws:List V) (en:List En) (u5 u6:Option V),σ=[some (.ref fa),some (.int m),some (.ref sa),some (.ref da),some (.ref se),u5,u6,none]/\Same (dels H (s2 K)) X/\TT K X/\Tups H8 X/\X sa=some (.lst sws)/\X pl=some (.lst pvs)/\Rd X da (.dG kd)/\X se=some (.lst ws)/\AL (fun v e=>v=V.ref e.t) ws en/\EN2 X se en/\(∀ e∈en,LsOk X e.a e.l)/\(∀ e∈en,H e.a=none)/\en.length=j/\∀ e0,en[0]?=some e0->InP (opn (tl rs)) cu mainK e0.l)
  ⟨[],[],none,none,rfl,sH8,tt8,Tups.refl _,esa8,e8,.inl eda8,ese8,.nil,⟨(fun e z=>nomatch z),(fun e z=>nomatch z),(fun e z=>nomatch z),(fun e z=>nomatch z),.nil⟩,(fun e z=>nomatch z),(fun e z=>nomatch z),rfl,fun e z=>nomatch z⟩ (fun j σ X _ ⟨_,_,_,_,_,_,_,_,_,e,_⟩=>SqL.of e) ?_ ?_⟩
 ·rintro j x σ X hx ⟨ws,en,u5,u6,rfl,sX,ttX,tX,esX,epX,hdX,eseX,aws,e2,la,fra,hen,h0⟩
  obtain ⟨p,hp,gx8,hpn⟩:=apl.at hx;have hj:j<pvs.length:=(qv.mp hx).1;have gx:GK X (.tup p) x:=GK.tups gx8 tX;have fbX:=fb.keepTT tt sX;have maX:MA K X:=xAcc tt sX _ _ ma;refine ⟨_,rfl,_,rfl,fa,F,bs,es,cs,rs,cu,k,x,p,rfl,fbX,hk,hl,ttX,maX,gx,hpn,fun Y a ws1 l sY ttY ga ea al inp=>?_⟩;have tXY:=xAcc ttX sY;have kXY:∀ {b:Addr} {u:HO},X b=some u->(∀ ps,u≠.tbl ps)->Y b=some u:=fun e h=>keepTT ttX sY e h;refine ⟨_,rfl,_,"list",_,true,rfl,.lst ea,by rfl,_,rfl,itF rfl ?_⟩;have hdY:=rdTT ttX sY hdX fun ps z=>nomatch z;have eseY:=kXY eseX fun ps z=>nomatch z;have esY:=kXY esX fun ps z=>nomatch z;have t8Y:=tX.trans tXY;have fbY:=fbX.keepTT ttX sY;refine ⟨_,rfl,.inl ⟨rfl,_,SqL.of eseY⟩,_,rfl,_,rfl,_,rfl,_,rfl,_,rfl,fa,F,bs,es,cs,rs,cu,k,da,kd,sa,sws,sls,x,p,rfl,fbY,hk,hl,hdY,akd8.imp fun e x q=>q.imp (R':=OuN Y) t8Y fun r=>r.tups t8Y,esY,asa8.imp fun v k z=>NmK.tups z t8Y,hms,gx.tups tXY,hpn,fun Z b ws2 l2 sZ hdZ gb eb bl inp2=>?_⟩;have el:=inp2.eq inp;subst el;refine ⟨szOk rfl,fun tq Z1 gt st' et=>?_⟩
  have ndY:∀ {c:Addr} {us:List V},Y c=some (.lst us)->c≠da:=fun e z=>by
   subst z;rcases hdY with y | ⟨o',y⟩ <;> rw [y] at e <;> cases e
  have kYZ:∀ {c:Addr} {us:List V},Y c=some (.lst us)->Z1 c=some (.lst us):=fun e=>st' _ _ (sZ _ _ (by rw [xAaj (ndY e)];exact e))
  have tYZ:Tups Y Z:=fun c us e=>sZ _ _ (by
   rw [xAaj (fun z=>by
    subst z
    rcases hdY with y | ⟨o',y⟩ <;> rw [y] at e <;> cases e)]
   exact e)
  have eseZ:=kYZ eseY;refine ⟨se,ws,_,rfl,rfl,eseZ,huge (by rw [aws.1,hen];omega),?_⟩;have tw:Tups Z1 (upd Z1 se (.lst (ws++[.ref tq]))):=Tups.wl eseZ;have tXW:=((tXY.trans tYZ).trans st'.tups).trans tw;have nas:a≠se:=(xAab eseX ga).symm;have nbs:b≠se:=(xAab eseY gb).symm;have nab:a≠b:=xAab ea gb
  have kl:∀ {c:Addr} {us:List V},c≠se->Y c=some (.lst us)->(upd Z1 se (.lst (ws++[.ref tq]))) c=some (.lst us):=fun n e=>by rw [xAae n];exact kYZ e
  have kx:∀ {c:Addr} {us:List V},c≠se->X c=some (.lst us)->(upd Z1 se (.lst (ws++[.ref tq]))) c=some (.lst us):=fun n e=>kl n (kXY e fun ps z=>nomatch z)
  have sW:Same (dels H (s2 K)) (upd Z1 se (.lst (ws++[.ref tq]))):=fun c u e=>by
   have nc:¬ s2 K c:=fun z=>by rw [xAax z] at e;cases e
   have e1:=TT.trans sX sY _ _ e;rw [xAbg nc] at e;rw [xAae (xAab e fse)];exact st' _ _ (sZ _ _ (by rw [xAaj (xAab e fda)];exact e1))
  have ttZ:TT K Z:=by
   rcases hdY with y | ⟨o',y⟩
   ·exact ttY.cut y (fun ps z=>nomatch z) (fun φ z=>nomatch z) sZ
   ·exact ttY.cut y (fun ps z=>nomatch z) (fun φ z=>nomatch z) sZ
  have ttW:=(ttZ.same st').wr (o':=.lst (ws++[.ref tq])) eseZ (fun ps z=>nomatch z) (fun φ z=>nomatch z);have e2':=e2.to tXW fun e he us=>kx (e2.ns e he).2.1;have lbb:LsOk (upd Z1 se (.lst (ws++[.ref tq]))) b l2:=⟨ws2,by rw [xAae nbs];exact st' _ _ eb,bl.imp fun v x z=>(NP.tups z st'.tups).tups tw⟩;have laa:LsOk (upd Z1 se (.lst (ws++[.ref tq]))) a l2:=⟨ws1,kl nas ea,al.imp fun v x z=>NP.tups z ((tYZ.trans st'.tups).trans tw)⟩
  have mem:∀ {P:En->Prop},(∀ e∈en,P e)->P ⟨tq,a,b,l2⟩->∀ e∈en++[⟨tq,a,b,l2⟩],P e:=fun h1 h2 e he=>by
   rcases qw.mp he with z | z
   ·exact h1 e z
   ·rw [qj.mp z];exact h2
  refine ⟨ws++[.ref tq],en++[⟨tq,a,b,l2⟩],_,_,rfl,sW,ttW,tX.trans tXW,kx nss esX,kx nps epX,?_,xAad,aws.snoc rfl,⟨mem e2'.tp (tw _ _ et),mem e2'.lb lbb,mem e2.ns ⟨nas,nbs,nab⟩,mem e2.nm ⟨fun x hx=>S.pt x ((inp2.mem x).mp hx).1,qk inp2.few hstl⟩,y9.mpr ⟨e2.pw,jr _ _,fun e he f hf=>?_⟩⟩,mem (fun e he=>(la e he).to tXW fun us=>kx (e2.ns e he).1) laa,mem fra (tt.free sX ttX ga),by rw [qg,hen];rfl,fun e0 he0=>?_⟩
  ·rcases hdZ with y | ⟨o',y⟩
   ·exact .inl (by rw [xAae nds];exact st' _ _ y)
   ·exact .inr ⟨o',by rw [xAae nds];exact st' _ _ y⟩
  ·rw [qj.mp hf]
   obtain ⟨ua,xa,_⟩:=la e he;obtain ⟨ub,xb,_⟩:=e2.lb e he;exact ⟨xAab xa ga,xAab (kXY xa fun ps z=>nomatch z) gb,xAab xb ga⟩
  ·cases en with
   | cons e1 en=>exact h0 e0 he0
   | nil =>
    have hj0:j=0:=hen.symm;subst hj0;cases he0
    have:p=mainK:=by cases hp;rfl
    rw [← this];exact inp2
 rintro σ X ⟨ws,en,u5,u6,rfl,sX,ttX,tX,esX,epX,hdX,eseX,aws,e2,la,fra,hen,h0⟩
 have hne:0<en.length:=by rw [hen,apl.1,qx];omega
 clear esX epX hdX akd8 asa8 esa8 eda8 ese8
 refine ⟨_,rfl,se,rfl,⟨_,SqL.of eseX⟩,xAce (xs:=ws) (fun j σ Y=>∃ (u5 u6 u7:Option V),σ=[some (.ref fa),some (.int m),some (.ref sa),some (.ref da),some (.ref se),u5,u6,u7]/\Same (dels H (s2 K)) Y/\TT K Y/\Y se=some (.lst ws)/\EN2 Y se en/\∀ i e,j≤i->en[i]?=some e->LsOk Y e.a e.l)
  ⟨_,_,_,rfl,sX,ttX,eseX,e2,fun i e _ he=>la e (qo he)⟩ (fun j σ Y _ ⟨_,_,_,_,_,_,e,_⟩=>SqL.of e) ?_ ?_⟩
 ·rintro j x σ Y hx ⟨u5,u6,u7,rfl,sY,ttY,eseY,e2,la⟩
  obtain ⟨e,he,rfl⟩:=aws.at hx;have hem:=qo he;have l1:=la j e (qc _) he;have l2:=e2.lb e hem
  have okd:=xAol (ls:=e.l.map (·.pt)) fun a ha=>by
   obtain ⟨y,hy,rfl⟩:=qd.mp ha;exact .inr ((e2.nm e hem).1 y hy)
  refine ⟨e.t,_,rfl,SqT.of (e2.tp e hem),rfl,_,_,rfl,_,_,rfl,rfl,?_⟩;refine ⟨_,rfl,_,rfl,_,_,l1.dv,l2.dv,okd.lay,okd.lay,qk (zq _ _) (by have:=okd.deep;omega),_,rfl,itF (by rw [okd.self];rfl) ?_⟩;obtain ⟨us,ea,al⟩:=l1;refine ⟨_,rfl,.inl ⟨rfl,_,SqL.of ea⟩,szOk rfl,fun t3 Y2 g3 s3 e3=>?_⟩;refine ⟨e.a,us,_,rfl,rfl,s3 _ _ ea,huge (by rw [al.1];have:=(e2.nm e hem).2;omega),?_⟩;have tw:Tups Y2 (upd Y2 e.a (.lst (us++[.ref t3]))):=Tups.wl (s3 _ _ ea);have t2:=s3.tups.trans tw
  have kl:∀ {c:Addr} {vs:List V},c≠e.a->Y c=some (.lst vs)->(upd Y2 e.a (.lst (us++[.ref t3]))) c=some (.lst vs):=fun n z=>by rw [xAae n];exact s3 _ _ z
  refine ⟨_,_,_,rfl,(sY.trans s3).wr (xAfe (fra e hem)),(ttY.same s3).wr (s3 _ _ ea) (fun ps z=>nomatch z) (fun φ z=>nomatch z),kl (e2.ns e hem).1.symm eseY,e2.to t2 fun f hf vs=>?_,fun i f hi hf=>?_⟩
  ·obtain ⟨i,hi,rfl⟩:=qt.mp hf
   exact kl (e2.ab he (qe hi)).1
  ·exact (la i f (by omega) hf).to t2 fun vs=>kl ((e2.ab he hf).2 (by omega))
 ·rintro σ Y ⟨u5,u6,u7,rfl,sY,ttY,eseY,e2,_⟩
  obtain ⟨e0,he0⟩:∃ e0,en[0]?=some e0:=⟨_,qe hne⟩;have hem:=qo he0;refine ⟨_,rfl,szOk rfl,fun tm2 Y2 g2 s2' e2t=>?_⟩;have ttY2:=ttY.same s2';have sY2:=sY.trans s2';refine ⟨fa,F,bs,es,cs,rs,cu,k,.ref tm2,mainK,rfl,fb.keepTT tt sY2,hk,hl,ttY2,xAcc tt sY2 _ _ ma,⟨tm2,rfl,e2t⟩,.inl rfl,fun Y3 a ws1 l s3 tt3 ga ea al inp=>?_⟩;have el:=inp.eq (h0 e0 he0);subst el;have kl:∀ {c:Addr} {u:HO},Y c=some u->(∀ ps,u≠.tbl ps)->Y3 c=some u:=fun e h=>keepTT ttY2 s3 (s2' _ _ e) h;have t3:Tups Y Y3:=s2'.tups.trans (xAcc ttY2 s3)
  have okd:=xAol (ls:=e0.l.map (·.pt)) fun a ha=>by
   obtain ⟨y,hy,rfl⟩:=qd.mp ha;exact .inr ((e2.nm e0 hem).1 y hy)
  have lb:=(e2.lb e0 hem).to t3 fun us h=>kl h fun ps z=>nomatch z;have l1:LsOk Y3 a e0.l:=⟨ws1,ea,al⟩;obtain ⟨v0,hv0,rfl⟩:=aws.at' he0;refine ⟨_,rfl,se,ws,0,.ref e0.t,rfl,rfl,SqL.of (kl eseY fun ps z=>nomatch z),xAkh (j:=0) hv0,e0.t,_,1,.ref e0.b,rfl,rfl,SqT.of (t3 _ _ (e2.tp e0 hem)),rfl,_,_,l1.dv,lb.dv,okd.lay,okd.lay,qk (zq _ _) (by have:=okd.deep;omega),?_⟩;rw [if_neg (by decide),okd.self];exact kk Y3 (TT.trans sY2 s3) tt3
theorem ok_fBa (T:Txt K mg d tk) (gfAq:FnOk P w K mg base CX0 4 d.fAq d.fAqd ["_law_script","_law_rounds"] (sp_fAq K)) (gfAb:FnOk P w K mg base CX0 9 d.fAb d.fAbd ["_law_facts_here","_law_most"] (sp_fAb K)) (gfAt:FnOk P w K mg base CX0 1 d.fAt d.fAtd ["_law_facts_here"] (sp_fAt K)) (gfAm:FnOk P w K mg base CX0 1 d.fAm d.fAmd ["_law_facts_here"] (sp_fAm K)) (gfAa:FnOk P w K mg base CX0 8 d.fAa d.fAad ["_law_facts_here"] (sp_fAa K)):FnOk P w K mg base CX0 10 d.fBa d.fBad ["_law_script"] (sp_fBa K):=by
 refine T.F_fBa.ok xAou (fun vs H Q E h=>xAvc h) (fun cdv A outer s H vs Q E hr h=>?_);have hu:(A.deeper (envOfC "law" (defScope s_fBa) s.heap.objs.size d.fBa cdv)).units<cLine:=hr.units0;have hu1:(A.deeper (envOfC "law" (defScope s_fBa) s.heap.objs.size d.fBa cdv)).units+1<cLine:=hu_of hr;refine ⟨_,(@xAac _ _ _ _ _ (@xAak _ _ (1) _ _ _ _ xAou.nd rfl (Or.inl rfl) (@xAai _ _ _ _ _ _ _ _ _ _ _ _ _ _ _ _ gfAq (hr.mono (by decide)) rfl T.m_fAq T.k_fAq T.d_fAq .nil pass0 (@xAaa _ _ _ _ _ (@pq _ 0 _ _ rfl) (@xAaa _ _ _ _ _ (@pe_bl _ _ _ _) (@xAaf _) rfl) rfl) (by decide) rfl rfl) rfl (.inl rfl)) (@xAac _ _ _ _ _ (@xAak _ _ (2) _ _ _ _ xAou.nd rfl (Or.inl rfl) (@xAai _ _ _ _ _ _ _ _ _ _ _ _ _ _ _ _ gfAt (hr.mono (by decide)) rfl T.m_fAt T.k_fAt T.d_fAt .nil pass0 (@xAaa _ _ _ _ _ (@pq _ 1 _ _ rfl) (@xAaf _) rfl) (by decide) rfl rfl) rfl (.inl rfl)) (@xAac _ _ _ _ _ (@ps_if _ _ _ _ _ _ _ _ (@PW.pt _ _ _ (@pw_or _ _ _ _ _ _ _ (@xAkb _ _ _ _ (@xAfl _ _ _ (@xAai _ _ _ _ _ _ _ _ _ _ _ _ _ _ _ _ gfAa (hr.mono (by decide)) rfl T.m_fAa T.k_fAa T.d_fAa .nil pass0 (@xAaa _ _ _ _ _ (@pq _ 1 _ _ rfl) (@xAaf _) rfl) (by decide) rfl rfl) (by intro _;rfl))) (@pw_or _ _ _ _ _ _ _ (@xAkb _ _ _ _ (@xAfl _ _ _ (@xAai _ _ _ _ _ _ _ _ _ _ _ _ _ _ _ _ gfAb (hr.mono (by decide)) rfl T.m_fAb T.k_fAb T.d_fAb .nil pass0 (@xAaa _ _ _ _ _ (@pq _ 1 _ _ rfl) (@xAaa _ _ _ _ _ (@xAah _ _ _ _) (@xAaf _) rfl) rfl) (by decide) rfl rfl) (by intro _;rfl))) (@xAgf _ _ _ _ (@xAam _ _ _ _ _ _ _ _ (xAkq (hu64 hr)) (@xAai _ _ _ _ _ _ _ _ _ _ _ _ _ _ _ _ gfAt (hr.mono (by decide)) rfl T.m_fAt T.k_fAt T.d_fAt .nil pass0 (@xAaa _ _ _ _ _ (@pq _ 1 _ _ rfl) (@xAaf _) rfl) (by decide) rfl rfl) (@pq _ 2 _ _ rfl) (xAbb _)))))) (@xAag _ _ _ (@xAat _ _ _ _ (@pe_bl _ _ _ _))) (@xAav _)) (@xAac _ _ _ _ _ (@xAak _ _ (3) _ _ _ _ xAou.nd rfl (Or.inl rfl) (@xAai _ _ _ _ _ _ _ _ _ _ _ _ _ _ _ _ gfAm (hr.mono (by decide)) rfl T.m_fAm T.k_fAm T.d_fAm .nil pass0 (@xAaa _ _ _ _ _ (@pq _ 1 _ _ rfl) (@xAaf _) rfl) (by decide) rfl rfl) rfl (.inl rfl)) (@xAij _ _ _ _ _ (@ps_if _ _ _ _ _ _ _ _ (@xAam _ _ _ _ _ _ _ _ (op_neG (hu2 hr) (hu64 hr)) (@pq _ 3 _ _ rfl) (@xAcs _ _) (xAbb _)) (@xAag _ _ _ (@xAbm _ _ _ _ (@pe_bm _ _ _ _ _ _ _ _ _ _ _ _ PySem.F.plainAttrs_list PySem.F.slot_list_append PySem.F.type_list_append xAay (@xAbr _ _ _ _ _ _ hu1 (@pq _ 1 _ _ rfl) (@xAar _ _ _ _) (fun _ _=>rfl)) (@xAaa _ _ _ _ _ (@xAao _ _ _ _ _ (@xAaa _ _ _ _ _ (@pe_ix _ _ _ _ _ _ _ xAaw (@xAaz _ _ _ _ _ _ _ _ _ (xAdu (hu61 hr) hr.hd) rfl T.b_sorted boot_sorted (@xAaa _ _ _ _ _ (@pq _ 3 _ _ rfl) (@xAaf _) rfl) (by decide) (by decide) rfl rfl) (@xAah _ _ _ _) (fun _ _=>rfl)) (@xAaa _ _ _ _ _ (@xAao _ _ _ _ _ (@xAaa _ _ _ _ _ (@xAar _ _ _ _) (@xAaa _ _ _ _ _ (@xAah _ _ _ _) (@xAaf _) rfl) rfl)) (@xAaa _ _ _ _ _ (@xAao _ _ _ _ _ (@xAaa _ _ _ _ _ (@xAar _ _ _ _) (@xAaa _ _ _ _ _ (@xAah _ _ _ _) (@xAaf _) rfl) rfl)) (@xAaa _ _ _ _ _ (@xAao _ _ _ _ _ (@xAaa _ _ _ _ _ (@xAah _ _ _ _) (@xAaa _ _ _ _ _ (@xAah _ _ _ _) (@xAaf _) rfl) rfl)) (@xAaf _) rfl) rfl) rfl) rfl)) (@xAaf _) rfl) rfl rfl rfl rfl rfl) rfl)) (@xAav _)) (@xAag _ _ _ (@xAat _ _ _ _ (@xArv _ _ _ _ _ _ _ (@xAai _ _ _ _ _ _ _ _ _ _ _ _ _ _ _ _ gfAa (hr.mono (by decide)) rfl T.m_fAa T.k_fAa T.d_fAa .nil pass0 (@xAaa _ _ _ _ _ (@pq _ 1 _ _ rfl) (@xAaf _) rfl) (by decide) rfl rfl) (@xAru _ _ _ _ _ (@xAai _ _ _ _ _ _ _ _ _ _ _ _ _ _ _ _ gfAb (hr.mono (by decide)) rfl T.m_fAb T.k_fAb T.d_fAb .nil pass0 (@xAaa _ _ _ _ _ (@pq _ 1 _ _ rfl) (@xAaa _ _ _ _ _ (@xAah _ _ _ _) (@xAaf _) rfl) rfl) (by decide) rfl rfl)))))))))),?_⟩;obtain ⟨sp,ns,rfl,hs,hl,tba,tbb,ma,kk⟩:=h
 have hne:PTa K≠PTb K:=by
  have h:=of_decide_eq_true T.LD
  exact fun z=>(ze.mp h).1 (by rw [show tabP K "greatest_place"=tabP K "all_inner_parts" from z];exact qh)
 have tt:TT K H:=⟨hne,tba,tbb⟩;refine ⟨_,rfl,sp,ns,rfl,hs,hl,fun H1 fa F bs es cs rs cu s1 g1 e1 gF fb1 hka=>?_⟩;refine ⟨_,rfl,fa,F,bs,es,cs,rs,cu,62,rfl,fb1,fun H2 kp ps Ck o s2' e2 gkp gC kp2=>?_⟩;have nfF:∀ i,i<9->F i≠fa:=fun i hi=>(rd_ne fb1.dk (fb1.at i hi)).symm;have t12:Tups H1 H2:=xAbl e1 (fun ys z=>nomatch z) s2'
 have at2:∀ i,i<9->H2 (F i)=some (.lst (xsF bs es cs i)):=fun i hi=>s2' _ _ (by rw [xAaj (nfF i hi)];exact fb1.at i hi)
 have fb2:FB H2 fa F bs es cs rs cu 62:=⟨.inr ⟨o,e2⟩,fb1.inj,fun i hi h3=>s2' _ _ (by rw [xAaj (nfF i hi)];exact fb1.rest i hi h3),at2 0 (by decide),at2 1 (by decide),at2 2 (by decide),fb1.fi.tups t12⟩
 have s02:Same H H2:=fun b u e=>s2' _ _ (by rw [xAaj (xAab e g1)];exact s1 _ _ e)
 have tt2:=tt.same s02;have ma2:=s02 _ _ ma;clear s2' t12 at2 e1 fb1 s1;have hvl:=fb2.fi.vl;have hrl:=fb2.fi.pc.1
 have htl:(tl rs).length≤62:=by have:=xAme rs;omega
 refine ⟨_,rfl,fa,F,bs,es,cs,rs,cu,62,rfl,fb2,by decide,htl,tt2,ma2,fun H3 s3 tt3=>⟨_,rfl,itF rfl ?_⟩⟩;have fb3:=fb2.keepTT tt2 s3;have ma3:MA K H3:=xAcc tt2 s3 _ _ ma2;refine ⟨_,rfl,fa,F,bs,es,cs,rs,cu,62,24,rfl,by decide,fb3,by decide,htl,tt3,ma3,fun H4 s34 tt4=>⟨_,rfl,itF rfl ?_⟩⟩;have s4:=TT.trans s3 s34;have fb4:=fb2.keepTT tt2 s4;have ma4:MA K H4:=xAcc tt2 s4 _ _ ma2;refine ⟨_,rfl,fa,F,bs,es,cs,rs,cu,62,rfl,fb4,fun H5 kp' ps' Ck' o' s5 e5 gkp' gC' kp5=>?_⟩
 have nfa:∀ {b:Addr} {u:HO},H4 b=some u->(∀ o,u≠.frz o (.dK (fkv F 9)))->u≠.dK (fkv F 9)->b≠fa:=fun e n1 n2 z=>by
  subst z;rcases fb4.dk with y | ⟨o,y⟩
  ·rw [y] at e;exact n2 (Option.some.inj e).symm
  ·rw [y] at e;exact n1 o (Option.some.inj e).symm
 have s45:∀ {b:Addr} {u:HO},b≠fa->H4 b=some u->H5 b=some u:=fun n e=>s5 _ _ (by rw [xAaj n];exact e)
 have t45:Tups H4 H5:=fun b xs e=>s45 (nfa e (fun o z=>nomatch z) (fun z=>nomatch z)) e;have l45:∀ {b:Addr} {xs:List V},H4 b=some (.lst xs)->H5 b=some (.lst xs):=fun e=>s45 (nfa e (fun o z=>nomatch z) (fun z=>nomatch z)) e;have fb5:FB H5 fa F bs es cs rs cu 62:=⟨.inr ⟨o',e5⟩,fb4.inj,fun i hi h3=>l45 (fb4.rest i hi h3),l45 fb4.eb,l45 fb4.ev,l45 fb4.ec,fb4.fi.tups t45⟩
 have tt5:TT K H5:=tt4.keep fun b u e hu=>s45 (nfa e (fun o z=>by rcases hu with ⟨ps,y⟩ | ⟨φ,y⟩ <;> rw [y] at z <;> cases z) (fun z=>by rcases hu with ⟨ps,y⟩ | ⟨φ,y⟩ <;> rw [y] at z <;> cases z)) e
 have kp5':KP H5 kp ps Ck (xsF bs es cs):=⟨l45 (My.keepTT tt2 s4 kp2.ek (fun ps z=>nomatch z)),xAdi ((xAcc tt2 s4).trans t45) kp2.pr,fun i hi=>l45 (My.keepTT tt2 s4 (kp2.at_ i hi) (fun ps z=>nomatch z))⟩;obtain ⟨dF,hdF⟩:=fb5.fi.data;have kok:=xArc fun i=>(hdF i).2;refine ⟨_,rfl,keptD dF,keptD dF,kp5.dv fun i _=>(hdF i).1,kp5'.dv fun i _=>(hdF i).1,kok.1,kok.1,qk (zq _ _) (by have:=kok.2.2;omega),_,rfl,itF (by rw [kok.2.1];rfl) ?_⟩;have ma5:=t45 _ _ ma4;clear kp5 kp5' kok hdF s45 nfa t45 l45 fb4 s5 kp2 s4 s34 s3 fb3 ma3 tt3 tt4 ma4;refine ⟨_,rfl,fa,es,rs,rfl,fb5.fq (by decide),fun H6 dq kd s6 gdq edq ad=>?_⟩;have fb6:=fb5.same s6;have tt6:=tt5.same s6;have ma6:=s6 _ _ ma5;refine ⟨fun σ' X=>∃ (es':List V) (rs':List Pc),σ'=[some (.ref sp),some (.ref fa),some (.ref kp),some (.ref dq)]/\FB X fa F bs es' cs rs' cu 63/\(tl rs').length≤62/\TT K X/\MA K X,?_,?_⟩
 ·refine ⟨_,rfl,fun nq2 Y g12 s12 e12=>?_⟩
  have edY:=s12 _ _ edq;have adY:=ad.imp fun e x p=>p.imp (R':=O3 Y) s12.tups fun q=>q.tups s12.tups;have fbY:=fb6.same s12;have ttY:=tt6.same s12;have maY:=s12 _ _ ma6
  have up63:∀ {X:Hp},FB X fa F bs es cs rs cu 62->FB X fa F bs es cs rs cu 63:=fun h=>⟨h.dk,h.inj,h.rest,h.eb,h.ev,h.ec,h.fi.mono (by decide)⟩
  cases kd with
  | nil =>
   exact ⟨dq,nq2,[],[],rfl,rfl,.inl edY,.inl e12,.inr ⟨[],[],rfl,.nil,.nil,rfl,rfl,vd rfl,_,rfl,itF rfl ⟨es,rs,rfl,up63 fbY,htl,ttY,maY⟩⟩⟩
  | cons ke kr =>
   refine ⟨dq,nq2,ke::kr,[],rfl,rfl,.inl edY,.inl e12,.inl ⟨(by simp),_,rfl,itT rfl ?_⟩⟩;refine ⟨_,rfl,fa,.ref (F 1),rfl,.inl ⟨fkv F 9,.inr "places",fbY.dk,rfl,(xAcy F 1 (by decide)).symm⟩,.inl ⟨rfl,_,SqL.of fbY.ev⟩,?_⟩
   have hpn:∀ k∈(tl rs).map (·.pt),Pn k:=fun k hk=>by
    obtain ⟨r,hr,rfl⟩:=qd.mp hk;exact .inr (fbY.fi.w r (xAhd hr)).pt
   refine ⟨_,rfl,dq,ke::kr,_,3,rfl,.inl edY,(xArb adY).dv,xAit hpn,by rw [adY.1];omega,fun sq Z ix gs ss hix eS=>?_⟩
   obtain ⟨i0,ixr,hie⟩:∃ i0 ixr,ix=i0::ixr:=by
    cases ix with
    | nil =>
     have:=hix.1.length_eq;rw [jx,qf,qf,← adY.1] at this
     simp at this
    | cons i r=>exact ⟨i,r,rfl⟩
   have hi0:i0<(ke::kr).length:=by
    have:=zu.mp (hix.1.mem_iff.mp (by rw [hie];exact qh));rw [qf,qf,← adY.1] at this;exact this
   obtain ⟨r,hr,p1,p2,_⟩:=adY.at (qe hi0)
   have ev0:((ke::kr).map (·.2.1)).getD i0 .non=((ke::kr)[i0]).2.1:=by
    rw [zb,qu,qe hi0];rfl
   have hrm:=qo hr;have hrW:=fbY.fi.w r (xAhd hrm);refine ⟨sq,_,0,((ke::kr)[i0]).2.1,rfl,rfl,SqL.of eS,by rw [hie,qz,ev0];exact xAkh (j:=0) rfl,?_⟩;have gp:=p2.tups ss.tups;have fbZ:=fbY.same ss;have ttZ:=ttY.same ss;have maZ:=ss _ _ maY;generalize ((ke::kr)[i0]).2.1=vpt at gp;refine ⟨szOk rfl,fun ta Xa ga sa ea=>⟨szOk rfl,fun tb' Xb gb sb eb=>⟨szOk rfl,fun tc Xc gc sc ec=>⟨szOk rfl,fun tq Xd gd sd' ed'=>?_⟩⟩⟩⟩;have sZd:=((sa.trans sb).trans sc).trans sd';have fbd:=fbZ.same sZd;refine ⟨F 1,es,_,rfl,rfl,fbd.ev,xAba (by omega),?_⟩;have tw:Tups Xd (upd Xd (F 1) (.lst (es++[.ref tq]))):=Tups.wl fbd.ev;have tZ:=sZd.tups.trans tw;have nr:PcW ⟨r.pt,mainK,[.inr "ann",.inl 99],1000,0⟩:=⟨hrW.pt,.inl rfl,"ann",99,rfl,.inl rfl⟩;have pc9:PC (upd Xd (F 1) (.lst (es++[.ref tq]))) (.ref tq) ⟨r.pt,mainK,[.inr "ann",.inl 99],1000,0⟩:=⟨tq,vpt,.ref ta,.ref tb',tc,rfl,tw _ _ ed',gp.tups tZ,⟨ta,rfl,tw _ _ (sd' _ _ (sc _ _ (sb _ _ ea)))⟩,⟨tb',rfl,tw _ _ (sd' _ _ (sc _ _ eb))⟩,tw _ _ (sd' _ _ ec)⟩;have inj:=fbd.inj
   have n1:∀ i,i<9->i≠1->F i≠F 1:=fun i hi n z=>n (inj i hi 1 (by decide) z)
   have fi':=((fbZ.fi.tups tZ).mono (by decide:62≤63)).place pc9 nr (fun x hx=>.inl (by have:=hka x hx;show x.ka<1000;omega)) (by omega)
   have hlen:(tl (rs++[⟨r.pt,mainK,[.inr "ann",.inl 99],1000,0⟩])).length≤62:=by
    have e:=congrArg List.length (xAhc (tl rs) ⟨r.pt,mainK,[.inr "ann",.inl 99],1000,0⟩);rw [if_pos (xAbq.mpr (qd.mpr ⟨r,hrm,rfl⟩)),qf,qf] at e;rw [xAdv,e];exact htl
   exact ⟨es++[.ref tq],rs++[⟨r.pt,mainK,[.inr "ann",.inl 99],1000,0⟩],rfl,⟨Rd.wr fbd.dk (rd_ne fbd.dk fbd.ev),inj,fun i hi h3=>by rw [xAae (n1 i hi (by omega))];exact fbd.rest i hi h3,by rw [xAae (n1 0 (by decide) (by decide))];exact fbd.eb,xAad,by rw [xAae (n1 2 (by decide) (by decide))];exact fbd.ec,fi'⟩,hlen,(ttZ.same sZd).wr fbd.ev (fun ps z=>nomatch z) (fun φ z=>nomatch z),tZ _ _ maZ⟩
 rintro σ' X' ⟨es',rs',rfl,fb',htl',tt',ma'⟩;refine ⟨_,rfl,fa,F,bs,es',cs,rs',cu,63,rfl,fb',by decide,htl',tt',ma',fun H13 s13 tt13=>⟨_,rfl,itT rfl ?_⟩⟩;exact ⟨_,rfl,fa,F,bs,es',cs,rs',cu,63,4,rfl,by decide,fb'.keepTT tt' s13,by decide,htl',tt13,xAcc tt' s13 _ _ ma',fun H14 _ _=>kk _⟩
end
theorem all_mk {l:PySem.W.OpenLaw} {w:World} {K:PySem.W.Frag} {h:Heap} {mg:Str->Option Value} {fa:Addr} (X:K.In h) (G:h.Ns mainGlobals mg) (hfa:mg "law"=some (.ref fa))
  {ta_MAIN:Addr} {a_fAd:Addr} {od_fAd an_fAd:Option Addr} {sl_fAd:Array (Option Value)} {oc_fAd kV_fAd dc_fAd pm_fAd cd_fAd ct_fAd:Value} {a_fAz:Addr} {od_fAz an_fAz:Option Addr} {sl_fAz:Array (Option Value)} {oc_fAz kV_fAz dc_fAz pm_fAz cd_fAz ct_fAz:Value} {a_fAe:Addr} {od_fAe an_fAe:Option Addr} {sl_fAe:Array (Option Value)} {oc_fAe kV_fAe dc_fAe pm_fAe ct_fAe:Value} {lc_fAe:Addr} {a_fAs:Addr} {od_fAs an_fAs:Option Addr} {sl_fAs:Array (Option Value)} {oc_fAs kV_fAs dc_fAs pm_fAs cd_fAs ct_fAs:Value} {a_fAy:Addr} {od_fAy an_fAy:Option Addr} {sl_fAy:Array (Option Value)} {oc_fAy kV_fAy dc_fAy pm_fAy cd_fAy ct_fAy:Value} {a_fAf:Addr} {od_fAf an_fAf:Option Addr} {sl_fAf:Array (Option Value)} {oc_fAf kV_fAf dc_fAf pm_fAf cd_fAf ct_fAf:Value} {a_fAv:Addr} {od_fAv an_fAv:Option Addr} {sl_fAv:Array (Option Value)} {oc_fAv kV_fAv dc_fAv pm_fAv cd_fAv ct_fAv:Value} {a_fAl:Addr} {od_fAl an_fAl:Option Addr} {sl_fAl:Array (Option Value)} {oc_fAl kV_fAl dc_fAl pm_fAl cd_fAl ct_fAl:Value} {a_fAk:Addr} {od_fAk an_fAk:Option Addr} {sl_fAk:Array (Option Value)} {oc_fAk kV_fAk dc_fAk pm_fAk cd_fAk ct_fAk:Value} {a_fAc:Addr} {od_fAc an_fAc:Option Addr} {sl_fAc:Array (Option Value)} {oc_fAc kV_fAc dc_fAc pm_fAc ct_fAc:Value} {lc_fAc:Addr} {a_fAj:Addr} {od_fAj an_fAj:Option Addr} {sl_fAj:Array (Option Value)} {oc_fAj kV_fAj dc_fAj pm_fAj cd_fAj ct_fAj:Value} {a_fAg:Addr} {od_fAg an_fAg:Option Addr} {sl_fAg:Array (Option Value)} {oc_fAg kV_fAg dc_fAg pm_fAg cd_fAg ct_fAg:Value} {a_fAw:Addr} {od_fAw an_fAw:Option Addr} {sl_fAw:Array (Option Value)} {oc_fAw kV_fAw dc_fAw pm_fAw cd_fAw ct_fAw:Value} {a_fAu:Addr} {od_fAu an_fAu:Option Addr} {sl_fAu:Array (Option Value)} {oc_fAu kV_fAu dc_fAu pm_fAu cd_fAu ct_fAu:Value} {a_fAn:Addr} {od_fAn an_fAn:Option Addr} {sl_fAn:Array (Option Value)} {oc_fAn kV_fAn dc_fAn pm_fAn cd_fAn ct_fAn:Value} {a_fAx:Addr} {od_fAx an_fAx:Option Addr} {sl_fAx:Array (Option Value)} {oc_fAx kV_fAx dc_fAx pm_fAx cd_fAx ct_fAx:Value} {a_fAp:Addr} {od_fAp an_fAp:Option Addr} {sl_fAp:Array (Option Value)} {oc_fAp kV_fAp dc_fAp pm_fAp cd_fAp ct_fAp:Value} {a_fAm:Addr} {od_fAm an_fAm:Option Addr} {sl_fAm:Array (Option Value)} {oc_fAm kV_fAm dc_fAm pm_fAm cd_fAm ct_fAm:Value} {a_fAh:Addr} {od_fAh an_fAh:Option Addr} {sl_fAh:Array (Option Value)} {oc_fAh kV_fAh dc_fAh pm_fAh cd_fAh ct_fAh:Value} {a_fAq:Addr} {od_fAq an_fAq:Option Addr} {sl_fAq:Array (Option Value)} {oc_fAq kV_fAq dc_fAq pm_fAq cd_fAq ct_fAq:Value} {a_fAt:Addr} {od_fAt an_fAt:Option Addr} {sl_fAt:Array (Option Value)} {oc_fAt kV_fAt dc_fAt pm_fAt cd_fAt ct_fAt:Value} {a_fAi:Addr} {od_fAi an_fAi:Option Addr} {sl_fAi:Array (Option Value)} {oc_fAi kV_fAi dc_fAi pm_fAi cd_fAi ct_fAi:Value} {a_fAr:Addr} {od_fAr an_fAr:Option Addr} {sl_fAr:Array (Option Value)} {oc_fAr kV_fAr dc_fAr pm_fAr cd_fAr ct_fAr:Value} {a_fAo:Addr} {od_fAo an_fAo:Option Addr} {sl_fAo:Array (Option Value)} {oc_fAo kV_fAo dc_fAo pm_fAo cd_fAo ct_fAo:Value} {a_fAa:Addr} {od_fAa an_fAa:Option Addr} {sl_fAa:Array (Option Value)} {oc_fAa kV_fAa dc_fAa pm_fAa cd_fAa ct_fAa:Value} {a_fAb:Addr} {od_fAb an_fAb:Option Addr} {sl_fAb:Array (Option Value)} {oc_fAb kV_fAb dc_fAb pm_fAb cd_fAb ct_fAb:Value} {a_fBa:Addr} {od_fBa an_fBa:Option Addr} {sl_fBa:Array (Option Value)} {oc_fBa kV_fBa dc_fBa pm_fBa cd_fBa ct_fBa:Value}
  (zb_abs:PySem.W.nsIn K mainGlobals "abs"=some none)
  (zb_dict:PySem.W.nsIn K mainGlobals "dict"=some none)
  (zb_isinstance:PySem.W.nsIn K mainGlobals "isinstance"=some none)
  (zb_len:PySem.W.nsIn K mainGlobals "len"=some none)
  (zb_list:PySem.W.nsIn K mainGlobals "list"=some none)
  (zb_max:PySem.W.nsIn K mainGlobals "max"=some none)
  (zb_min:PySem.W.nsIn K mainGlobals "min"=some none)
  (zb_range:PySem.W.nsIn K mainGlobals "range"=some none)
  (zb_sorted:PySem.W.nsIn K mainGlobals "sorted"=some none)
  (zt_MAIN:PySem.W.nsIn K mainGlobals "MAIN"=some (some (.ref ta_MAIN)))
  (z1_fAd:PySem.W.nsIn K mainGlobals "telling_places"=some (some (.ref a_fAd)))
  (z2_fAd:K.lookup a_fAd=some ⟨oc_fAd,od_fAd,.func (PySem.W.fnOf "telling_places" "telling_places" (defArgs s_fAd) (defBody s_fAd) (defScope s_fAd) .none kV_fAd dc_fAd pm_fAd an_fAd cd_fAd ct_fAd),sl_fAd⟩)
  (z3_fAd:PySem.W.codeIn K cd_fAd "telling_places"=true) (z4_fAd:PySem.W.keepIn K (.ref a_fAd)=true)
  (z1_fAz:PySem.W.nsIn K mainGlobals "way_out"=some (some (.ref a_fAz)))
  (z2_fAz:K.lookup a_fAz=some ⟨oc_fAz,od_fAz,.func (PySem.W.fnOf "way_out" "way_out" (defArgs s_fAz) (defBody s_fAz) (defScope s_fAz) .none kV_fAz dc_fAz pm_fAz an_fAz cd_fAz ct_fAz),sl_fAz⟩)
  (z3_fAz:PySem.W.codeIn K cd_fAz "way_out"=true) (z4_fAz:PySem.W.keepIn K (.ref a_fAz)=true)
  (z1_fAe:PySem.W.nsIn K mainGlobals "greatest_place"=some (some (.ref a_fAe)))
  (z2_fAe:K.lookup a_fAe=some ⟨oc_fAe,od_fAe,.func (PySem.W.fnOf "greatest_place" "greatest_place" (defArgs s_fAe) (defBody s_fAe) (defScope s_fAe) .none kV_fAe dc_fAe pm_fAe an_fAe (.ref lc_fAe) ct_fAe),sl_fAe⟩)
  (z3_fAe:PySem.W.codeIn K (.ref lc_fAe) "greatest_place"=true) (z4_fAe:PySem.W.keepIn K (.ref a_fAe)=true)
  (z5_fAe:PySem.W.codeHdIn K lc_fAe (tabP K "greatest_place")=true)
  (z1_fAs:PySem.W.nsIn K mainGlobals "turned_in"=some (some (.ref a_fAs)))
  (z2_fAs:K.lookup a_fAs=some ⟨oc_fAs,od_fAs,.func (PySem.W.fnOf "turned_in" "turned_in" (defArgs s_fAs) (defBody s_fAs) (defScope s_fAs) .none kV_fAs dc_fAs pm_fAs an_fAs cd_fAs ct_fAs),sl_fAs⟩)
  (z3_fAs:PySem.W.codeIn K cd_fAs "turned_in"=true) (z4_fAs:PySem.W.keepIn K (.ref a_fAs)=true)
  (z1_fAy:PySem.W.nsIn K mainGlobals "stood_in"=some (some (.ref a_fAy)))
  (z2_fAy:K.lookup a_fAy=some ⟨oc_fAy,od_fAy,.func (PySem.W.fnOf "stood_in" "stood_in" (defArgs s_fAy) (defBody s_fAy) (defScope s_fAy) .none kV_fAy dc_fAy pm_fAy an_fAy cd_fAy ct_fAy),sl_fAy⟩)
  (z3_fAy:PySem.W.codeIn K cd_fAy "stood_in"=true) (z4_fAy:PySem.W.keepIn K (.ref a_fAy)=true)
  (z1_fAf:PySem.W.nsIn K mainGlobals "reaching_main"=some (some (.ref a_fAf)))
  (z2_fAf:K.lookup a_fAf=some ⟨oc_fAf,od_fAf,.func (PySem.W.fnOf "reaching_main" "reaching_main" (defArgs s_fAf) (defBody s_fAf) (defScope s_fAf) .none kV_fAf dc_fAf pm_fAf an_fAf cd_fAf ct_fAf),sl_fAf⟩)
  (z3_fAf:PySem.W.codeIn K cd_fAf "reaching_main"=true) (z4_fAf:PySem.W.keepIn K (.ref a_fAf)=true)
  (z1_fAv:PySem.W.nsIn K mainGlobals "stands_in"=some (some (.ref a_fAv)))
  (z2_fAv:K.lookup a_fAv=some ⟨oc_fAv,od_fAv,.func (PySem.W.fnOf "stands_in" "stands_in" (defArgs s_fAv) (defBody s_fAv) (defScope s_fAv) .none kV_fAv dc_fAv pm_fAv an_fAv cd_fAv ct_fAv),sl_fAv⟩)
  (z3_fAv:PySem.W.codeIn K cd_fAv "stands_in"=true) (z4_fAv:PySem.W.keepIn K (.ref a_fAv)=true)
  (z1_fAl:PySem.W.nsIn K mainGlobals "shown_among"=some (some (.ref a_fAl)))
  (z2_fAl:K.lookup a_fAl=some ⟨oc_fAl,od_fAl,.func (PySem.W.fnOf "shown_among" "shown_among" (defArgs s_fAl) (defBody s_fAl) (defScope s_fAl) .none kV_fAl dc_fAl pm_fAl an_fAl cd_fAl ct_fAl),sl_fAl⟩)
  (z3_fAl:PySem.W.codeIn K cd_fAl "shown_among"=true) (z4_fAl:PySem.W.keepIn K (.ref a_fAl)=true)
  (z1_fAk:PySem.W.nsIn K mainGlobals "shown_parts"=some (some (.ref a_fAk)))
  (z2_fAk:K.lookup a_fAk=some ⟨oc_fAk,od_fAk,.func (PySem.W.fnOf "shown_parts" "shown_parts" (defArgs s_fAk) (defBody s_fAk) (defScope s_fAk) .none kV_fAk dc_fAk pm_fAk an_fAk cd_fAk ct_fAk),sl_fAk⟩)
  (z3_fAk:PySem.W.codeIn K cd_fAk "shown_parts"=true) (z4_fAk:PySem.W.keepIn K (.ref a_fAk)=true)
  (z1_fAc:PySem.W.nsIn K mainGlobals "all_inner_parts"=some (some (.ref a_fAc)))
  (z2_fAc:K.lookup a_fAc=some ⟨oc_fAc,od_fAc,.func (PySem.W.fnOf "all_inner_parts" "all_inner_parts" (defArgs s_fAc) (defBody s_fAc) (defScope s_fAc) .none kV_fAc dc_fAc pm_fAc an_fAc (.ref lc_fAc) ct_fAc),sl_fAc⟩)
  (z3_fAc:PySem.W.codeIn K (.ref lc_fAc) "all_inner_parts"=true) (z4_fAc:PySem.W.keepIn K (.ref a_fAc)=true)
  (z5_fAc:PySem.W.codeHdIn K lc_fAc (tabP K "all_inner_parts")=true)
  (z1_fAj:PySem.W.nsIn K mainGlobals "inner_parts"=some (some (.ref a_fAj)))
  (z2_fAj:K.lookup a_fAj=some ⟨oc_fAj,od_fAj,.func (PySem.W.fnOf "inner_parts" "inner_parts" (defArgs s_fAj) (defBody s_fAj) (defScope s_fAj) .none kV_fAj dc_fAj pm_fAj an_fAj cd_fAj ct_fAj),sl_fAj⟩)
  (z3_fAj:PySem.W.codeIn K cd_fAj "inner_parts"=true) (z4_fAj:PySem.W.keepIn K (.ref a_fAj)=true)
  (z1_fAg:PySem.W.nsIn K mainGlobals "_law_cell_at"=some (some (.ref a_fAg)))
  (z2_fAg:K.lookup a_fAg=some ⟨oc_fAg,od_fAg,.func (PySem.W.fnOf "_law_cell_at" "_law_cell_at" (defArgs s_fAg) (defBody s_fAg) (defScope s_fAg) .none kV_fAg dc_fAg pm_fAg an_fAg cd_fAg ct_fAg),sl_fAg⟩)
  (z3_fAg:PySem.W.codeIn K cd_fAg "_law_cell_at"=true) (z4_fAg:PySem.W.keepIn K (.ref a_fAg)=true)
  (z1_fAw:PySem.W.nsIn K mainGlobals "_law_pool"=some (some (.ref a_fAw)))
  (z2_fAw:K.lookup a_fAw=some ⟨oc_fAw,od_fAw,.func (PySem.W.fnOf "_law_pool" "_law_pool" (defArgs s_fAw) (defBody s_fAw) (defScope s_fAw) .none kV_fAw dc_fAw pm_fAw an_fAw cd_fAw ct_fAw),sl_fAw⟩)
  (z3_fAw:PySem.W.codeIn K cd_fAw "_law_pool"=true) (z4_fAw:PySem.W.keepIn K (.ref a_fAw)=true)
  (z1_fAu:PySem.W.nsIn K mainGlobals "_law_take"=some (some (.ref a_fAu)))
  (z2_fAu:K.lookup a_fAu=some ⟨oc_fAu,od_fAu,.func (PySem.W.fnOf "_law_take" "_law_take" (defArgs s_fAu) (defBody s_fAu) (defScope s_fAu) .none kV_fAu dc_fAu pm_fAu an_fAu cd_fAu ct_fAu),sl_fAu⟩)
  (z3_fAu:PySem.W.codeIn K cd_fAu "_law_take"=true) (z4_fAu:PySem.W.keepIn K (.ref a_fAu)=true)
  (z1_fAn:PySem.W.nsIn K mainGlobals "_law_facts"=some (some (.ref a_fAn)))
  (z2_fAn:K.lookup a_fAn=some ⟨oc_fAn,od_fAn,.func (PySem.W.fnOf "_law_facts" "_law_facts" (defArgs s_fAn) (defBody s_fAn) (defScope s_fAn) .none kV_fAn dc_fAn pm_fAn an_fAn cd_fAn ct_fAn),sl_fAn⟩)
  (z3_fAn:PySem.W.codeIn K cd_fAn "_law_facts"=true) (z4_fAn:PySem.W.keepIn K (.ref a_fAn)=true)
  (z1_fAx:PySem.W.nsIn K mainGlobals "_law_key"=some (some (.ref a_fAx)))
  (z2_fAx:K.lookup a_fAx=some ⟨oc_fAx,od_fAx,.func (PySem.W.fnOf "_law_key" "_law_key" (defArgs s_fAx) (defBody s_fAx) (defScope s_fAx) .none kV_fAx dc_fAx pm_fAx an_fAx cd_fAx ct_fAx),sl_fAx⟩)
  (z3_fAx:PySem.W.codeIn K cd_fAx "_law_key"=true) (z4_fAx:PySem.W.keepIn K (.ref a_fAx)=true)
  (z1_fAp:PySem.W.nsIn K mainGlobals "_law_event"=some (some (.ref a_fAp)))
  (z2_fAp:K.lookup a_fAp=some ⟨oc_fAp,od_fAp,.func (PySem.W.fnOf "_law_event" "_law_event" (defArgs s_fAp) (defBody s_fAp) (defScope s_fAp) .none kV_fAp dc_fAp pm_fAp an_fAp cd_fAp ct_fAp),sl_fAp⟩)
  (z3_fAp:PySem.W.codeIn K cd_fAp "_law_event"=true) (z4_fAp:PySem.W.keepIn K (.ref a_fAp)=true)
  (z1_fAm:PySem.W.nsIn K mainGlobals "_law_outers"=some (some (.ref a_fAm)))
  (z2_fAm:K.lookup a_fAm=some ⟨oc_fAm,od_fAm,.func (PySem.W.fnOf "_law_outers" "_law_outers" (defArgs s_fAm) (defBody s_fAm) (defScope s_fAm) .none kV_fAm dc_fAm pm_fAm an_fAm cd_fAm ct_fAm),sl_fAm⟩)
  (z3_fAm:PySem.W.codeIn K cd_fAm "_law_outers"=true) (z4_fAm:PySem.W.keepIn K (.ref a_fAm)=true)
  (z1_fAh:PySem.W.nsIn K mainGlobals "_law_beneath"=some (some (.ref a_fAh)))
  (z2_fAh:K.lookup a_fAh=some ⟨oc_fAh,od_fAh,.func (PySem.W.fnOf "_law_beneath" "_law_beneath" (defArgs s_fAh) (defBody s_fAh) (defScope s_fAh) .none kV_fAh dc_fAh pm_fAh an_fAh cd_fAh ct_fAh),sl_fAh⟩)
  (z3_fAh:PySem.W.codeIn K cd_fAh "_law_beneath"=true) (z4_fAh:PySem.W.keepIn K (.ref a_fAh)=true)
  (z1_fAq:PySem.W.nsIn K mainGlobals "_law_drawn"=some (some (.ref a_fAq)))
  (z2_fAq:K.lookup a_fAq=some ⟨oc_fAq,od_fAq,.func (PySem.W.fnOf "_law_drawn" "_law_drawn" (defArgs s_fAq) (defBody s_fAq) (defScope s_fAq) .none kV_fAq dc_fAq pm_fAq an_fAq cd_fAq ct_fAq),sl_fAq⟩)
  (z3_fAq:PySem.W.codeIn K cd_fAq "_law_drawn"=true) (z4_fAq:PySem.W.keepIn K (.ref a_fAq)=true)
  (z1_fAt:PySem.W.nsIn K mainGlobals "_law_kept"=some (some (.ref a_fAt)))
  (z2_fAt:K.lookup a_fAt=some ⟨oc_fAt,od_fAt,.func (PySem.W.fnOf "_law_kept" "_law_kept" (defArgs s_fAt) (defBody s_fAt) (defScope s_fAt) .none kV_fAt dc_fAt pm_fAt an_fAt cd_fAt ct_fAt),sl_fAt⟩)
  (z3_fAt:PySem.W.codeIn K cd_fAt "_law_kept"=true) (z4_fAt:PySem.W.keepIn K (.ref a_fAt)=true)
  (z1_fAi:PySem.W.nsIn K mainGlobals "_law_stands"=some (some (.ref a_fAi)))
  (z2_fAi:K.lookup a_fAi=some ⟨oc_fAi,od_fAi,.func (PySem.W.fnOf "_law_stands" "_law_stands" (defArgs s_fAi) (defBody s_fAi) (defScope s_fAi) .none kV_fAi dc_fAi pm_fAi an_fAi cd_fAi ct_fAi),sl_fAi⟩)
  (z3_fAi:PySem.W.codeIn K cd_fAi "_law_stands"=true) (z4_fAi:PySem.W.keepIn K (.ref a_fAi)=true)
  (z1_fAr:PySem.W.nsIn K mainGlobals "_law_shown"=some (some (.ref a_fAr)))
  (z2_fAr:K.lookup a_fAr=some ⟨oc_fAr,od_fAr,.func (PySem.W.fnOf "_law_shown" "_law_shown" (defArgs s_fAr) (defBody s_fAr) (defScope s_fAr) .none kV_fAr dc_fAr pm_fAr an_fAr cd_fAr ct_fAr),sl_fAr⟩)
  (z3_fAr:PySem.W.codeIn K cd_fAr "_law_shown"=true) (z4_fAr:PySem.W.keepIn K (.ref a_fAr)=true)
  (z1_fAo:PySem.W.nsIn K mainGlobals "_law_inner"=some (some (.ref a_fAo)))
  (z2_fAo:K.lookup a_fAo=some ⟨oc_fAo,od_fAo,.func (PySem.W.fnOf "_law_inner" "_law_inner" (defArgs s_fAo) (defBody s_fAo) (defScope s_fAo) .none kV_fAo dc_fAo pm_fAo an_fAo cd_fAo ct_fAo),sl_fAo⟩)
  (z3_fAo:PySem.W.codeIn K cd_fAo "_law_inner"=true) (z4_fAo:PySem.W.keepIn K (.ref a_fAo)=true)
  (z1_fAa:PySem.W.nsIn K mainGlobals "_law_shown_right"=some (some (.ref a_fAa)))
  (z2_fAa:K.lookup a_fAa=some ⟨oc_fAa,od_fAa,.func (PySem.W.fnOf "_law_shown_right" "_law_shown_right" (defArgs s_fAa) (defBody s_fAa) (defScope s_fAa) .none kV_fAa dc_fAa pm_fAa an_fAa cd_fAa ct_fAa),sl_fAa⟩)
  (z3_fAa:PySem.W.codeIn K cd_fAa "_law_shown_right"=true) (z4_fAa:PySem.W.keepIn K (.ref a_fAa)=true)
  (z1_fAb:PySem.W.nsIn K mainGlobals "_law_inner_right"=some (some (.ref a_fAb)))
  (z2_fAb:K.lookup a_fAb=some ⟨oc_fAb,od_fAb,.func (PySem.W.fnOf "_law_inner_right" "_law_inner_right" (defArgs s_fAb) (defBody s_fAb) (defScope s_fAb) .none kV_fAb dc_fAb pm_fAb an_fAb cd_fAb ct_fAb),sl_fAb⟩)
  (z3_fAb:PySem.W.codeIn K cd_fAb "_law_inner_right"=true) (z4_fAb:PySem.W.keepIn K (.ref a_fAb)=true)
  (z1_fBa:PySem.W.nsIn K mainGlobals "law"=some (some (.ref a_fBa)))
  (z2_fBa:K.lookup a_fBa=some ⟨oc_fBa,od_fBa,.func (PySem.W.fnOf "law" "law" (defArgs s_fBa) (defBody s_fBa) (defScope s_fBa) .none kV_fBa dc_fBa pm_fBa an_fBa cd_fBa ct_fBa),sl_fBa⟩)
  (z3_fBa:PySem.W.codeIn K cd_fBa "law"=true) (z4_fBa:PySem.W.keepIn K (.ref a_fBa)=true)
  (z5_LD:decide (([tabP K "greatest_place",tabP K "all_inner_parts"]:List Addr).Nodup)=true) :
  ∃ fd:FuncData,(∀ (s:Shared) (v:Value),BindsTo s fd ⟨[v],[]⟩ [("_law_script",v)])/\∀ base:Heap,K.In base->base.Ns mainGlobals mg->(∀ t∈[("greatest_place":Str),("all_inner_parts":Str)],base.BuiltinsAt mg (tabP K t))->FnOk l.prog w K mg base CX0 10 fa fd ["_law_script"] (sp_fBa K):=by
 have e:=hfa.symm.trans (PySem.W.mg_of X G z1_fBa);cases e
 have T:Txt K mg ⟨a_fAd,PySem.W.fnOf "telling_places" "telling_places" (defArgs s_fAd) (defBody s_fAd) (defScope s_fAd) .none kV_fAd dc_fAd pm_fAd an_fAd cd_fAd ct_fAd,a_fAz,PySem.W.fnOf "way_out" "way_out" (defArgs s_fAz) (defBody s_fAz) (defScope s_fAz) .none kV_fAz dc_fAz pm_fAz an_fAz cd_fAz ct_fAz,a_fAe,PySem.W.fnOf "greatest_place" "greatest_place" (defArgs s_fAe) (defBody s_fAe) (defScope s_fAe) .none kV_fAe dc_fAe pm_fAe an_fAe (.ref lc_fAe) ct_fAe,lc_fAe,a_fAs,PySem.W.fnOf "turned_in" "turned_in" (defArgs s_fAs) (defBody s_fAs) (defScope s_fAs) .none kV_fAs dc_fAs pm_fAs an_fAs cd_fAs ct_fAs,a_fAy,PySem.W.fnOf "stood_in" "stood_in" (defArgs s_fAy) (defBody s_fAy) (defScope s_fAy) .none kV_fAy dc_fAy pm_fAy an_fAy cd_fAy ct_fAy,a_fAf,PySem.W.fnOf "reaching_main" "reaching_main" (defArgs s_fAf) (defBody s_fAf) (defScope s_fAf) .none kV_fAf dc_fAf pm_fAf an_fAf cd_fAf ct_fAf,a_fAv,PySem.W.fnOf "stands_in" "stands_in" (defArgs s_fAv) (defBody s_fAv) (defScope s_fAv) .none kV_fAv dc_fAv pm_fAv an_fAv cd_fAv ct_fAv,a_fAl,PySem.W.fnOf "shown_among" "shown_among" (defArgs s_fAl) (defBody s_fAl) (defScope s_fAl) .none kV_fAl dc_fAl pm_fAl an_fAl cd_fAl ct_fAl,a_fAk,PySem.W.fnOf "shown_parts" "shown_parts" (defArgs s_fAk) (defBody s_fAk) (defScope s_fAk) .none kV_fAk dc_fAk pm_fAk an_fAk cd_fAk ct_fAk,a_fAc,PySem.W.fnOf "all_inner_parts" "all_inner_parts" (defArgs s_fAc) (defBody s_fAc) (defScope s_fAc) .none kV_fAc dc_fAc pm_fAc an_fAc (.ref lc_fAc) ct_fAc,lc_fAc,a_fAj,PySem.W.fnOf "inner_parts" "inner_parts" (defArgs s_fAj) (defBody s_fAj) (defScope s_fAj) .none kV_fAj dc_fAj pm_fAj an_fAj cd_fAj ct_fAj,a_fAg,PySem.W.fnOf "_law_cell_at" "_law_cell_at" (defArgs s_fAg) (defBody s_fAg) (defScope s_fAg) .none kV_fAg dc_fAg pm_fAg an_fAg cd_fAg ct_fAg,a_fAw,PySem.W.fnOf "_law_pool" "_law_pool" (defArgs s_fAw) (defBody s_fAw) (defScope s_fAw) .none kV_fAw dc_fAw pm_fAw an_fAw cd_fAw ct_fAw,a_fAu,PySem.W.fnOf "_law_take" "_law_take" (defArgs s_fAu) (defBody s_fAu) (defScope s_fAu) .none kV_fAu dc_fAu pm_fAu an_fAu cd_fAu ct_fAu,a_fAn,PySem.W.fnOf "_law_facts" "_law_facts" (defArgs s_fAn) (defBody s_fAn) (defScope s_fAn) .none kV_fAn dc_fAn pm_fAn an_fAn cd_fAn ct_fAn,a_fAx,PySem.W.fnOf "_law_key" "_law_key" (defArgs s_fAx) (defBody s_fAx) (defScope s_fAx) .none kV_fAx dc_fAx pm_fAx an_fAx cd_fAx ct_fAx,a_fAp,PySem.W.fnOf "_law_event" "_law_event" (defArgs s_fAp) (defBody s_fAp) (defScope s_fAp) .none kV_fAp dc_fAp pm_fAp an_fAp cd_fAp ct_fAp,a_fAm,PySem.W.fnOf "_law_outers" "_law_outers" (defArgs s_fAm) (defBody s_fAm) (defScope s_fAm) .none kV_fAm dc_fAm pm_fAm an_fAm cd_fAm ct_fAm,a_fAh,PySem.W.fnOf "_law_beneath" "_law_beneath" (defArgs s_fAh) (defBody s_fAh) (defScope s_fAh) .none kV_fAh dc_fAh pm_fAh an_fAh cd_fAh ct_fAh,a_fAq,PySem.W.fnOf "_law_drawn" "_law_drawn" (defArgs s_fAq) (defBody s_fAq) (defScope s_fAq) .none kV_fAq dc_fAq pm_fAq an_fAq cd_fAq ct_fAq,a_fAt,PySem.W.fnOf "_law_kept" "_law_kept" (defArgs s_fAt) (defBody s_fAt) (defScope s_fAt) .none kV_fAt dc_fAt pm_fAt an_fAt cd_fAt ct_fAt,a_fAi,PySem.W.fnOf "_law_stands" "_law_stands" (defArgs s_fAi) (defBody s_fAi) (defScope s_fAi) .none kV_fAi dc_fAi pm_fAi an_fAi cd_fAi ct_fAi,a_fAr,PySem.W.fnOf "_law_shown" "_law_shown" (defArgs s_fAr) (defBody s_fAr) (defScope s_fAr) .none kV_fAr dc_fAr pm_fAr an_fAr cd_fAr ct_fAr,a_fAo,PySem.W.fnOf "_law_inner" "_law_inner" (defArgs s_fAo) (defBody s_fAo) (defScope s_fAo) .none kV_fAo dc_fAo pm_fAo an_fAo cd_fAo ct_fAo,a_fAa,PySem.W.fnOf "_law_shown_right" "_law_shown_right" (defArgs s_fAa) (defBody s_fAa) (defScope s_fAa) .none kV_fAa dc_fAa pm_fAa an_fAa cd_fAa ct_fAa,a_fAb,PySem.W.fnOf "_law_inner_right" "_law_inner_right" (defArgs s_fAb) (defBody s_fAb) (defScope s_fAb) .none kV_fAb dc_fAb pm_fAb an_fAb cd_fAb ct_fAb,fa,PySem.W.fnOf "law" "law" (defArgs s_fBa) (defBody s_fBa) (defScope s_fBa) .none kV_fBa dc_fBa pm_fBa an_fBa cd_fBa ct_fBa⟩ (fun x=>0):=by
  refine ⟨PySem.W.mg_none_of X G zb_abs,PySem.W.mg_none_of X G zb_dict,PySem.W.mg_none_of X G zb_isinstance,PySem.W.mg_none_of X G zb_len,PySem.W.mg_none_of X G zb_list,PySem.W.mg_none_of X G zb_max,PySem.W.mg_none_of X G zb_min,PySem.W.mg_none_of X G zb_range,PySem.W.mg_none_of X G zb_sorted,xAtg X G zt_MAIN,xAan (st:=s_fAd) z2_fAd z3_fAd z4_fAd,PySem.W.mg_of X G z1_fAd,z4_fAd,(xAan (st:=s_fAd) z2_fAd z3_fAd z4_fAd).binds (ps:=["facts"]) fun _ _ _ _ _ _ us hl=>match us,hl with | [_],_=>rfl,xAan (st:=s_fAz) z2_fAz z3_fAz z4_fAz,PySem.W.mg_of X G z1_fAz,z4_fAz,(xAan (st:=s_fAz) z2_fAz z3_fAz z4_fAz).binds (ps:=["outer_of","part","ended"]) fun _ _ _ _ _ _ us hl=>match us,hl with | [_,_,_],_=>rfl,xAan (st:=s_fAe) z2_fAe z3_fAe z4_fAe,PySem.W.mg_of X G z1_fAe,z4_fAe,(xAan (st:=s_fAe) z2_fAe z3_fAe z4_fAe).binds (ps:=["telling","parts"]) fun _ _ _ _ _ _ us hl=>match us,hl with | [_,_],_=>rfl,rfl,z5_fAe,xAan (st:=s_fAs) z2_fAs z3_fAs z4_fAs,PySem.W.mg_of X G z1_fAs,z4_fAs,(xAan (st:=s_fAs) z2_fAs z3_fAs z4_fAs).binds (ps:=["telling"]) fun _ _ _ _ _ _ us hl=>match us,hl with | [_],_=>rfl,xAan (st:=s_fAy) z2_fAy z3_fAy z4_fAy,PySem.W.mg_of X G z1_fAy,z4_fAy,(xAan (st:=s_fAy) z2_fAy z3_fAy z4_fAy).binds (ps:=["telling"]) fun _ _ _ _ _ _ us hl=>match us,hl with | [_],_=>rfl,xAan (st:=s_fAf) z2_fAf z3_fAf z4_fAf,PySem.W.mg_of X G z1_fAf,z4_fAf,(xAan (st:=s_fAf) z2_fAf z3_fAf z4_fAf).binds (ps:=["outer_of"]) fun _ _ _ _ _ _ us hl=>match us,hl with | [_],_=>rfl,xAan (st:=s_fAv) z2_fAv z3_fAv z4_fAv,PySem.W.mg_of X G z1_fAv,z4_fAv,(xAan (st:=s_fAv) z2_fAv z3_fAv z4_fAv).binds (ps:=["facts"]) fun _ _ _ _ _ _ us hl=>match us,hl with | [_],_=>rfl,xAan (st:=s_fAl) z2_fAl z3_fAl z4_fAl,PySem.W.mg_of X G z1_fAl,z4_fAl,(xAan (st:=s_fAl) z2_fAl z3_fAl z4_fAl).binds (ps:=["facts","stands"]) fun _ _ _ _ _ _ us hl=>match us,hl with | [_,_],_=>rfl,xAan (st:=s_fAk) z2_fAk z3_fAk z4_fAk,PySem.W.mg_of X G z1_fAk,z4_fAk,(xAan (st:=s_fAk) z2_fAk z3_fAk z4_fAk).binds (ps:=["facts"]) fun _ _ _ _ _ _ us hl=>match us,hl with | [_],_=>rfl,xAan (st:=s_fAc) z2_fAc z3_fAc z4_fAc,PySem.W.mg_of X G z1_fAc,z4_fAc,(xAan (st:=s_fAc) z2_fAc z3_fAc z4_fAc).binds (ps:=["facts"]) fun _ _ _ _ _ _ us hl=>match us,hl with | [_],_=>rfl,rfl,z5_fAc,xAan (st:=s_fAj) z2_fAj z3_fAj z4_fAj,PySem.W.mg_of X G z1_fAj,z4_fAj,(xAan (st:=s_fAj) z2_fAj z3_fAj z4_fAj).binds (ps:=["facts","part"]) fun _ _ _ _ _ _ us hl=>match us,hl with | [_,_],_=>rfl,xAan (st:=s_fAg) z2_fAg z3_fAg z4_fAg,PySem.W.mg_of X G z1_fAg,z4_fAg,(xAan (st:=s_fAg) z2_fAg z3_fAg z4_fAg).binds (ps:=["_law_script","_law_k"]) fun _ _ _ _ _ _ us hl=>match us,hl with | [_,_],_=>rfl,xAan (st:=s_fAw) z2_fAw z3_fAw z4_fAw,PySem.W.mg_of X G z1_fAw,z4_fAw,(xAan (st:=s_fAw) z2_fAw z3_fAw z4_fAw).binds (ps:=["_law_script","_law_k"]) fun _ _ _ _ _ _ us hl=>match us,hl with | [_,_],_=>rfl,xAan (st:=s_fAu) z2_fAu z3_fAu z4_fAu,PySem.W.mg_of X G z1_fAu,z4_fAu,(xAan (st:=s_fAu) z2_fAu z3_fAu z4_fAu).binds (ps:=["_law_pool_here","_law_many"]) fun _ _ _ _ _ _ us hl=>match us,hl with | [_,_],_=>rfl,xAan (st:=s_fAn) z2_fAn z3_fAn z4_fAn,PySem.W.mg_of X G z1_fAn,z4_fAn,(xAan (st:=s_fAn) z2_fAn z3_fAn z4_fAn).binds (ps:=[]) fun _ _ _ _ _ _ us hl=>match us,hl with | [],_=>rfl,xAan (st:=s_fAx) z2_fAx z3_fAx z4_fAx,PySem.W.mg_of X G z1_fAx,z4_fAx,(xAan (st:=s_fAx) z2_fAx z3_fAx z4_fAx).binds (ps:=["_law_last","_law_name","_law_hand","_law_named"]) fun _ _ _ _ _ _ us hl=>match us,hl with | [_,_,_,_],_=>rfl,xAan (st:=s_fAp) z2_fAp z3_fAp z4_fAp,PySem.W.mg_of X G z1_fAp,z4_fAp,(xAan (st:=s_fAp) z2_fAp z3_fAp z4_fAp).binds (ps:=["_law_facts_here","_law_pool_here","_law_k","_law_last","_law_rounds"]) fun _ _ _ _ _ _ us hl=>match us,hl with | [_,_,_,_,_],_=>rfl,xAan (st:=s_fAm) z2_fAm z3_fAm z4_fAm,PySem.W.mg_of X G z1_fAm,z4_fAm,(xAan (st:=s_fAm) z2_fAm z3_fAm z4_fAm).binds (ps:=["_law_facts_here"]) fun _ _ _ _ _ _ us hl=>match us,hl with | [_],_=>rfl,xAan (st:=s_fAh) z2_fAh z3_fAh z4_fAh,PySem.W.mg_of X G z1_fAh,z4_fAh,(xAan (st:=s_fAh) z2_fAh z3_fAh z4_fAh).binds (ps:=["_law_facts_here","_law_one","_law_part"]) fun _ _ _ _ _ _ us hl=>match us,hl with | [_,_,_],_=>rfl,xAan (st:=s_fAq) z2_fAq z3_fAq z4_fAq,PySem.W.mg_of X G z1_fAq,z4_fAq,(xAan (st:=s_fAq) z2_fAq z3_fAq z4_fAq).binds (ps:=["_law_script","_law_rounds"]) fun _ _ _ _ _ _ us hl=>match us,hl with | [_,_],_=>rfl,xAan (st:=s_fAt) z2_fAt z3_fAt z4_fAt,PySem.W.mg_of X G z1_fAt,z4_fAt,(xAan (st:=s_fAt) z2_fAt z3_fAt z4_fAt).binds (ps:=["_law_facts_here"]) fun _ _ _ _ _ _ us hl=>match us,hl with | [_],_=>rfl,xAan (st:=s_fAi) z2_fAi z3_fAi z4_fAi,PySem.W.mg_of X G z1_fAi,z4_fAi,(xAan (st:=s_fAi) z2_fAi z3_fAi z4_fAi).binds (ps:=["_law_facts_here"]) fun _ _ _ _ _ _ us hl=>match us,hl with | [_],_=>rfl,xAan (st:=s_fAr) z2_fAr z3_fAr z4_fAr,PySem.W.mg_of X G z1_fAr,z4_fAr,(xAan (st:=s_fAr) z2_fAr z3_fAr z4_fAr).binds (ps:=["_law_facts_here"]) fun _ _ _ _ _ _ us hl=>match us,hl with | [_],_=>rfl,xAan (st:=s_fAo) z2_fAo z3_fAo z4_fAo,PySem.W.mg_of X G z1_fAo,z4_fAo,(xAan (st:=s_fAo) z2_fAo z3_fAo z4_fAo).binds (ps:=["_law_facts_here","_law_stands_here","_law_seen","_law_part"]) fun _ _ _ _ _ _ us hl=>match us,hl with | [_,_,_,_],_=>rfl,xAan (st:=s_fAa) z2_fAa z3_fAa z4_fAa,PySem.W.mg_of X G z1_fAa,z4_fAa,(xAan (st:=s_fAa) z2_fAa z3_fAa z4_fAa).binds (ps:=["_law_facts_here"]) fun _ _ _ _ _ _ us hl=>match us,hl with | [_],_=>rfl,xAan (st:=s_fAb) z2_fAb z3_fAb z4_fAb,PySem.W.mg_of X G z1_fAb,z4_fAb,(xAan (st:=s_fAb) z2_fAb z3_fAb z4_fAb).binds (ps:=["_law_facts_here","_law_most"]) fun _ _ _ _ _ _ us hl=>match us,hl with | [_,_],_=>rfl,xAan (st:=s_fBa) z2_fBa z3_fBa z4_fBa,PySem.W.mg_of X G z1_fBa,z4_fBa,(xAan (st:=s_fBa) z2_fBa z3_fBa z4_fBa).binds (ps:=["_law_script"]) fun _ _ _ _ _ _ us hl=>match us,hl with | [_],_=>rfl,z5_LD⟩
 refine ⟨PySem.W.fnOf "law" "law" (defArgs s_fBa) (defBody s_fBa) (defScope s_fBa) .none kV_fBa dc_fBa pm_fBa an_fBa cd_fBa ct_fBa,fun s v=>.of_eq rfl,fun base _ _ hBs=>?_⟩;have r_fAd:=ok_fAd (P:=l.prog) (w:=w) (base:=base) T;have r_fAz:=ok_fAz (P:=l.prog) (w:=w) (base:=base) T;have r_fAg:=ok_fAg (P:=l.prog) (w:=w) (base:=base) T;have r_fAu:=ok_fAu (P:=l.prog) (w:=w) (base:=base) T;have r_fAn:=ok_fAn (P:=l.prog) (w:=w) (base:=base) T;have r_fAx:=ok_fAx (P:=l.prog) (w:=w) (base:=base) T;have r_fAm:=ok_fAm (P:=l.prog) (w:=w) (base:=base) T;have r_fAt:=ok_fAt (P:=l.prog) (w:=w) (base:=base) T;have r_fAf:=ok_fAf (P:=l.prog) (w:=w) (base:=base) T r_fAz;have r_fAw:=ok_fAw (P:=l.prog) (w:=w) (base:=base) T r_fAg;have r_fAh:=ok_fAh (P:=l.prog) (w:=w) (base:=base) T r_fAm;have r_fAi:=ok_fAi (P:=l.prog) (w:=w) (base:=base) T r_fAm;have r_fAo:=ok_fAo (P:=l.prog) (w:=w) (base:=base) T r_fAm;have r_fAe:=ok_fAe (P:=l.prog) (w:=w) (base:=base) T (hBs "greatest_place" (by simp));have r_fAl:=ok_fAl (P:=l.prog) (w:=w) (base:=base) T r_fAf;have r_fAp:=ok_fAp (P:=l.prog) (w:=w) (base:=base) T r_fAh r_fAx r_fAu;have r_fAr:=ok_fAr (P:=l.prog) (w:=w) (base:=base) T r_fAi;have r_fAs:=ok_fAs (P:=l.prog) (w:=w) (base:=base) T r_fAe r_fAz;have r_fAq:=ok_fAq (P:=l.prog) (w:=w) (base:=base) T r_fAp r_fAn r_fAw;have r_fAy:=ok_fAy (P:=l.prog) (w:=w) (base:=base) T r_fAs;have r_fAv:=ok_fAv (P:=l.prog) (w:=w) (base:=base) T r_fAf r_fAy r_fAd;have r_fAk:=ok_fAk (P:=l.prog) (w:=w) (base:=base) T r_fAl r_fAv;have r_fAc:=ok_fAc (P:=l.prog) (w:=w) (base:=base) T (hBs "all_inner_parts" (by simp)) r_fAl r_fAv r_fAd;have r_fAj:=ok_fAj (P:=l.prog) (w:=w) (base:=base) T r_fAc;have r_fAa:=ok_fAa (P:=l.prog) (w:=w) (base:=base) T r_fAn r_fAr r_fAk;have r_fAb:=ok_fAb (P:=l.prog) (w:=w) (base:=base) T r_fAo r_fAr r_fAi r_fAj;exact ok_fBa T r_fAq r_fAb r_fAt r_fAm r_fAa
end My
namespace PySem.W.Fast
def tw8157402294196553728:=()
def tw8413470711504012640:=()
def tw15810818529017938848:=()
def tw4993941135301836801:=()
def tw8589052089290802337:=()
def tw5684317918748323073:=()
def tw15800605281183254849:=()
def tw5906719672949234113:=()
def tw273379134304115585:=()
def tw6332880350232377378:=()
def tw304589894125033954:=()
def tw18127853677876601346:=()
def tw3777618600327509506:=()
def tw3592447540247672514:=()
def tw16111490742255371970:=()
def tw11139207804820567874:=()
def tw15603996021455085474:=()
def tw7233084712697431235:=()
def tw12300231589141372515:=()
def tw8694581770552299748:=()
def tw3630785498797577508:=()
def tw15178541827872114020:=()
def tw10149385637022785092:=()
def tw12132213233210066532:=()
def tw12481249325148908132:=()
def tw5220922375050884900:=()
def tw14741744801529588357:=()
def tw9782152844901877477:=()
def tw17419126188941581189:=()
def tw14663515060648072326:=()
def tw4679214099135251654:=()
def tw7018736852321780294:=()
def tw7384361297870810247:=()
def tw14155498704055886087:=()
def tw5736645785476539975:=()
def tw15643997700222258951:=()
def tw18024448193223361447:=()
def tw10685879440188651816:=()
def tw6265185650243104232:=()
def tw10371578197647159784:=()
def tw8454345117568279048:=()
def tw15445358505777676936:=()
def tw1653226341070123720:=()
def tw13243033447782295464:=()
def tw7110885870460316041:=()
def tw304864416029805033:=()
def tw1053058766544381641:=()
def tw8190642675227647721:=()
def tw9714788174051824682:=()
def tw14627658670246397322:=()
def tw15244297516665746922:=()
def tw12010039415047336426:=()
def tw3019452258150796042:=()
def tw15125786937762409258:=()
def tw15004530679353470123:=()
def tw12955111937181339051:=()
def tw5833950257093537355:=()
def tw466821023563381419:=()
def tw16944889416359018187:=()
def tw15140836293829721835:=()
def tw9589972045633613739:=()
def tw14828402871336765548:=()
def tw7565373237191454892:=()
def tw9666038001425204716:=()
def tw8470028646473501516:=()
def tw9352128116347447148:=()
def tw13025232441390459309:=()
def tw14424105859129694733:=()
def tw6961943110278486541:=()
def tw17091979794649395821:=()
def tw13639319399757767437:=()
def tw12156943815644449966:=()
def tw122490361510854862:=()
def tw17040462587741582798:=()
def tw283305662974019118:=()
def tw14708268582505035502:=()
def tw10369160279230645134:=()
def tw10878402053729597551:=()
def tw17066614156732165327:=()
def tw2449600624168042927:=()
def tw9766298417110280655:=()
def tw12065913017570470447:=()
def tw14150156230869057135:=()
def tw12408402948257384175:=()
def tw11712752398009526255:=()
def tw14662935736651482320:=()
def tw3709153375719174833:=()
def tw6596096616085998610:=()
def tw5124380025551593682:=()
def tw15138410036079775282:=()
def tw1347175568612788850:=()
def tw2566625604838520562:=()
def tw12665791671094597522:=()
def tw14823038322729830611:=()
def tw1934901353052665075:=()
def tw7847882466768026163:=()
def tw14715069358596289523:=()
def tw10896506459462622324:=()
def tw4695503824869300404:=()
def tw5506549270501001524:=()
def tw3597012395415104852:=()
def tw7511430739385755124:=()
def tw13922908188634014260:=()
def tw3327082721903095668:=()
def tw2672608753397885940:=()
def tw5024741073561936341:=()
def tw4574437980583066101:=()
def tw10422019169933896245:=()
def tw5865899468325834581:=()
def tw3924585660667530966:=()
def tw17257649557321667414:=()
def tw17057272672432079895:=()
def tw15129229000691976247:=()
def tw2646686064609545335:=()
def tw1214058976985119959:=()
def tw197137132540499447:=()
def tw12583417808647844439:=()
def tw3199253117329108599:=()
def tw16477286663551733463:=()
def tw15038254070406324312:=()
def tw8354926115153715384:=()
def tw5246917359866336248:=()
def tw3023306533033265209:=()
def tw14121616832744935545:=()
def tw2410836285616329177:=()
def tw10768658870668553753:=()
def tw7175825012620120665:=()
def tw7155513560852686681:=()
def tw6360009406912455545:=()
def tw15036474454237680601:=()
def tw8885776680150288506:=()
def tw7496304098398222490:=()
def tw18322835086320248058:=()
def tw15335241316999032314:=()
def tw7241974069135181370:=()
def tw11017500694569573306:=()
def tw82579748402296794:=()
def tw5781456249964305435:=()
def tw8559682077153475739:=()
def tw3778591474467491579:=()
def tw5627452759746892124:=()
def tw8657192313548095836:=()
def tw1382093804011986332:=()
def tw409575545244858300:=()
def tw17650830358409440317:=()
def tw18396406097157273853:=()
def tw13994200496954602781:=()
def tw15241484389605405021:=()
def tw3003155885633663613:=()
def tw228238550747687933:=()
def tw4952401902844329374:=()
def tw15524597166129480158:=()
def tw8739281055466675934:=()
def tw7781456736938143550:=()
def tw16918071816095081535:=()
def tw942118941092573567:=()
def tw12998114872602877343:=()
def tw16172921913473488383:=()
def tw13320472510417085951:=()
def tw1535423165512996383:=()
def tw7733672485210846207:=()
def tw3964584568133693916:=()
end PySem.W.Fast
open PySem PySem.W PyProof.Rows
set_option maxRecDepth 100000 in
set_option maxHeartbeats 0 in
theorem PySem.Challenge.cw_pagefolk_k29_parts_shown_holds : PySem.Challenge.rw_pagefolk_k29_parts_shown.Holds := by
 w_on;o_law;k_head;(case hw=>w_witness2)
 k_fill
 refine L2.walk_ofM (l:=PySem.Challenge.rw_pagefolk_k29_parts_shown) (n:=63) (k:=10) (x:="_law_script") (CX:=L2.CX0) (sp:=My.sp_fBa) [("greatest_place":Str),("all_inner_parts":Str)] [(("MAIN":Str),([.inr "",.inl 0]:List L2.Key))] rfl (by decide) rfl ⟨rfl,by decide,by decide⟩ (fun w h Y=>PySem.W.km_in_of Y) (fun w h Y=>PySem.W.km_tabs_of Y) ?hC ?hnt ?htp ?hcs ?hcl ?F My.law_spec (fun _ _ _ _ z=>z)
 case hC=>exact fun w=>List.forall_mem_cons.mpr ⟨⟨"all_inner_parts",by simp,by kernel_rfl⟩,List.forall_mem_cons.mpr ⟨⟨"greatest_place",by simp,by kernel_rfl⟩,fun _ h=>nomatch h⟩⟩
 case htp=>(intro w;exact yr.mpr ⟨(by refine jy ?_;kernel_rfl),yr.mpr ⟨(by refine jy ?_;kernel_rfl),fun _ h=>nomatch h⟩⟩)
 case hnt=>(intro w;kernel_rfl)
 case hcs=>(intro w;exact yr.mpr ⟨by kernel_rfl,fun _ h=>nomatch h⟩)
 case hcl=>exact yr.mpr ⟨by decide,fun _ h=>nomatch h⟩
 case F =>
  intro w mg fa h KX G hmg;refine' My.all_mk KX G hmg ?zb_abs ?zb_dict ?zb_isinstance ?zb_len ?zb_list ?zb_max ?zb_min ?zb_range ?zb_sorted ?zt_MAIN ?z1_fAd ?z2_fAd ?z3_fAd ?z4_fAd ?z1_fAz ?z2_fAz ?z3_fAz ?z4_fAz ?z1_fAe ?z2_fAe ?z3_fAe ?z4_fAe ?z5_fAe ?z1_fAs ?z2_fAs ?z3_fAs ?z4_fAs ?z1_fAy ?z2_fAy ?z3_fAy ?z4_fAy ?z1_fAf ?z2_fAf ?z3_fAf ?z4_fAf ?z1_fAv ?z2_fAv ?z3_fAv ?z4_fAv ?z1_fAl ?z2_fAl ?z3_fAl ?z4_fAl ?z1_fAk ?z2_fAk ?z3_fAk ?z4_fAk ?z1_fAc ?z2_fAc ?z3_fAc ?z4_fAc ?z5_fAc ?z1_fAj ?z2_fAj ?z3_fAj ?z4_fAj ?z1_fAg ?z2_fAg ?z3_fAg ?z4_fAg ?z1_fAw ?z2_fAw ?z3_fAw ?z4_fAw ?z1_fAu ?z2_fAu ?z3_fAu ?z4_fAu ?z1_fAn ?z2_fAn ?z3_fAn ?z4_fAn ?z1_fAx ?z2_fAx ?z3_fAx ?z4_fAx ?z1_fAp ?z2_fAp ?z3_fAp ?z4_fAp ?z1_fAm ?z2_fAm ?z3_fAm ?z4_fAm ?z1_fAh ?z2_fAh ?z3_fAh ?z4_fAh ?z1_fAq ?z2_fAq ?z3_fAq ?z4_fAq ?z1_fAt ?z2_fAt ?z3_fAt ?z4_fAt ?z1_fAi ?z2_fAi ?z3_fAi ?z4_fAi ?z1_fAr ?z2_fAr ?z3_fAr ?z4_fAr ?z1_fAo ?z2_fAo ?z3_fAo ?z4_fAo ?z1_fAa ?z2_fAa ?z3_fAa ?z4_fAa ?z1_fAb ?z2_fAb ?z3_fAb ?z4_fAb ?z1_fBa ?z2_fBa ?z3_fBa ?z4_fBa ?z5_LD
  (case zb_abs=>k_is)
  (case zb_dict=>k_is)
  (case zb_isinstance=>k_is)
  (case zb_len=>k_is)
  (case zb_list=>k_is)
  (case zb_max=>k_is)
  (case zb_min=>k_is)
  (case zb_range=>k_is)
  (case zb_sorted=>k_is)
  (case zt_MAIN=>k_is)
  (case z1_fAd=>k_is)
  (case z2_fAd=>k_is)
  (case z3_fAd=>k_is)
  (case z4_fAd=>k_is)
  (case z1_fAz=>k_is)
  (case z2_fAz=>k_is)
  (case z3_fAz=>k_is)
  (case z4_fAz=>k_is)
  (case z1_fAe=>k_is)
  (case z2_fAe=>k_is)
  (case z3_fAe=>k_is)
  (case z4_fAe=>k_is)
  (case z5_fAe=>kernel_rfl)
  (case z1_fAs=>k_is)
  (case z2_fAs=>k_is)
  (case z3_fAs=>k_is)
  (case z4_fAs=>k_is)
  (case z1_fAy=>k_is)
  (case z2_fAy=>k_is)
  (case z3_fAy=>k_is)
  (case z4_fAy=>k_is)
  (case z1_fAf=>k_is)
  (case z2_fAf=>k_is)
  (case z3_fAf=>k_is)
  (case z4_fAf=>k_is)
  (case z1_fAv=>k_is)
  (case z2_fAv=>k_is)
  (case z3_fAv=>k_is)
  (case z4_fAv=>k_is)
  (case z1_fAl=>k_is)
  (case z2_fAl=>k_is)
  (case z3_fAl=>k_is)
  (case z4_fAl=>k_is)
  (case z1_fAk=>k_is)
  (case z2_fAk=>k_is)
  (case z3_fAk=>k_is)
  (case z4_fAk=>k_is)
  (case z1_fAc=>k_is)
  (case z2_fAc=>k_is)
  (case z3_fAc=>k_is)
  (case z4_fAc=>k_is)
  (case z5_fAc=>kernel_rfl)
  (case z1_fAj=>k_is)
  (case z2_fAj=>k_is)
  (case z3_fAj=>k_is)
  (case z4_fAj=>k_is)
  (case z1_fAg=>k_is)
  (case z2_fAg=>k_is)
  (case z3_fAg=>k_is)
  (case z4_fAg=>k_is)
  (case z1_fAw=>k_is)
  (case z2_fAw=>k_is)
  (case z3_fAw=>k_is)
  (case z4_fAw=>k_is)
  (case z1_fAu=>k_is)
  (case z2_fAu=>k_is)
  (case z3_fAu=>k_is)
  (case z4_fAu=>k_is)
  (case z1_fAn=>k_is)
  (case z2_fAn=>k_is)
  (case z3_fAn=>k_is)
  (case z4_fAn=>k_is)
  (case z1_fAx=>k_is)
  (case z2_fAx=>k_is)
  (case z3_fAx=>k_is)
  (case z4_fAx=>k_is)
  (case z1_fAp=>k_is)
  (case z2_fAp=>k_is)
  (case z3_fAp=>k_is)
  (case z4_fAp=>k_is)
  (case z1_fAm=>k_is)
  (case z2_fAm=>k_is)
  (case z3_fAm=>k_is)
  (case z4_fAm=>k_is)
  (case z1_fAh=>k_is)
  (case z2_fAh=>k_is)
  (case z3_fAh=>k_is)
  (case z4_fAh=>k_is)
  (case z1_fAq=>k_is)
  (case z2_fAq=>k_is)
  (case z3_fAq=>k_is)
  (case z4_fAq=>k_is)
  (case z1_fAt=>k_is)
  (case z2_fAt=>k_is)
  (case z3_fAt=>k_is)
  (case z4_fAt=>k_is)
  (case z1_fAi=>k_is)
  (case z2_fAi=>k_is)
  (case z3_fAi=>k_is)
  (case z4_fAi=>k_is)
  (case z1_fAr=>k_is)
  (case z2_fAr=>k_is)
  (case z3_fAr=>k_is)
  (case z4_fAr=>k_is)
  (case z1_fAo=>k_is)
  (case z2_fAo=>k_is)
  (case z3_fAo=>k_is)
  (case z4_fAo=>k_is)
  (case z1_fAa=>k_is)
  (case z2_fAa=>k_is)
  (case z3_fAa=>k_is)
  (case z4_fAa=>k_is)
  (case z1_fAb=>k_is)
  (case z2_fAb=>k_is)
  (case z3_fAb=>k_is)
  (case z4_fAb=>k_is)
  (case z1_fBa=>k_is)
  (case z2_fBa=>k_is)
  (case z3_fBa=>k_is)
  (case z4_fBa=>k_is)
  (case z5_LD=>kernel_rfl)