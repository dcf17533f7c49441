import PyProof.Rows.All
import Wide.All
import OpenK.AllK
import Wide.FinOn
import Lean
import PyProof.EqAt
import PyProof.EqKinds
import PyProof.TupleCall
import KE.KSortTup
import KE.KDictOf
import PyProof.AttrMissHeap
import KE.KSortKey
import KE.KEqDict
import KE.KNestM
import KE.KLam
import PySem.Challenge.RW_pagefolk_k37_whole_one_mark_more
set_option Elab.async false
set_option linter.all false
set_option maxRecDepth 100000
def qg:=@Nat.le_refl
def qh:=@Nat.le_trans
def qi:=@List.getElem?_eq_getElem
def qj:=@List.length_map
def qk:=@List.mem_map
def ql:=@List.mem_range
def qm:=@List.length_append
def qo:=@List.getD_eq_getElem?_getD
def qp:=@List.mem_cons_self
def qr:=@List.mem_cons_of_mem
def qt:=@List.getElem?_map
def qu:=@Nat.ne_of_lt
def qv:=@List.mem_filter
def qw:=@List.mem_cons
def qx:=@List.length_cons
def qy:=@Array.length_toList
def qz:=@List.mem_append
def q9:=@List.length_range
def za:=@List.map_cons
def zb:=@List.mem_singleton
def zc:=@Nat.not_lt_zero
def zd:=@List.size_toArray
def ze:=@List.getElem?_eq_some_iff
def zh:=@Bool.false_ne_true
def zk:=@List.mem_of_getElem?
def zm:=@Nat.zero_le
def zn:=@Nat.lt_of_lt_of_le
def zo:=@List.append_assoc
def zt:=@List.length_take
def zu:=@Bool.and_eq_true
def zv:=@Nat.le_of_lt
def zw:=@List.pairwise_cons
def zx:=@List.map_append
def zy:=@List.append_nil
def z5:=@List.length_drop
def z6:=@Array.getElem?_toList
def z7:=@List.take_length
def z8:=@List.take_add_one
def z9:=@List.mem_append_right
def wa:=@List.getElem?_range
def wb:=@List.length_filter_le
def wc:=@List.length_singleton
def we:=@Array.getElem?_eq_getElem
def wg:=@Nat.lt_irrefl
def wj:=@List.foldl_cons
def wk:=@List.mem_iff_getElem
def wo:=@List.getElem?_append_left
def wp:=@List.ext_getElem?
def wt:=@List.map_map
def wu:=@List.nodup_cons
def ww:=@Nat.min_le_left
def wx:=@Nat.ne_of_gt
def wy:=@List.take_append_drop
def wz:=@List.getElem?_append_right
def w5:=@List.pairwise_map
def w6:=@Nat.lt_of_succ_lt_succ
def vd:=@List.flatten_cons
def vf:=@List.nil_append
def vh:=@List.any_eq_true
def vi:=@Nat.le_succ
def vj:=@List.range_succ
def vm:=@List.length_nil
def vt:=@Nat.lt_succ_of_lt
def vy:=@Nat.lt_succ_self
def vz:=@Array.getD_eq_getD_getElem?
def v9:=@List.take_of_length_le
def yb:=@List.getElem?_eq_none
def yc:=@List.map_congr_left
def yd:=@List.filter_append
def yf:=@List.mem_reverse
def yg:=@Bool.eq_iff_iff
def yh:=@List.mem_of_mem_drop
def yi:=@Nat.succ_le_succ
def yj:=@List.mem_of_mem_take
def yk:=@List.length_eq_zero_iff
def ym:=@List.find?_cons
def yn:=@List.mem_append_left
def yo:=@List.replicate_succ
def yq:=@Nat.lt_trans
def yr:=@List.getElem_mem
def yt:=@List.drop_eq_nil_of_le
def yu:=@Nat.zero_add
def yv:=@Nat.lt_or_ge
def yw:=@List.cons_ne_nil
def yx:=@List.filterMap_cons
def yy:=@List.mem_filterMap
def yz:=@Option.map_some
def y0:=@Nat.lt_of_le_of_lt
def y7:=@List.length_reverse
def y8:=@List.perm_append_comm
def ja:=@List.drop_eq_getElem_cons
def jb:=@List.getElem?_drop
def jc:=@Nat.min_eq_left
def jd:=@List.getElem?_take
def je:=@Array.toList_inj
def jf:=@List.nodup_nil
def jg:=@List.filter_cons_of_pos
def jh:=@List.filter_cons_of_neg
def ji:=@List.filter_congr
def jk:=@List.getElem?_set_ne
def jl:=@List.length_replicate
def jm:=@List.map_nil
def jn:=@List.any_toArray
def jo:=@List.reverse_cons
def jp:=@List.pairwise_iff_getElem
def jq:=@List.getElem_take
def jr:=@List.pairwise_append
def jt:=@List.drop_drop
def ju:=@List.reverse_append
def jv:=@List.range_succ_eq_map
def jw:=@List.find?_eq_none
def jx:=@List.nil_perm
def jy:=@List.perm_cons
def jz:=@Nat.le_of_ble_eq_true
def j0:=@Nat.succ_pos
def j3:=@List.of_mem_zip
def j4:=@Option.isSome_iff_exists
def j5:=@List.getElem?_take_of_lt
def j6:=@List.take_sublist
def j7:=@Bool.and_false
def j8:=@List.any_cons
def j9:=@Nat.le_of_eq
def gc:=@List.lookup_cons
def gg:=@Nat.lt_succ_of_le
def gh:=@List.take_take
def gi:=@List.reverse_reverse
def gj:=@List.take_zero
def gm:=@List.nodup_append
def gq:=@List.not_lt
def gr:=@List.drop_of_length_le
def gt:=@List.getElem_map
def gu:=@Array.forIn_toList
def gy:=@List.findIdx?_eq_some_iff_getElem
def gz:=@List.filter_eq_nil_iff
def ke:=@Array.mem_toList_iff
def kf:=@Nat.add_zero
def kg:=@List.filter_map
def kh:=@List.sum_cons
def ki:=@List.filterMap_cons_none
def kj:=@Nat.lt_trichotomy
def km:=@Array.append_assoc
def ko:=@List.getElem?_set_self
def kr:=@List.eraseIdxIfInBounds_toArray
def kt:=@List.push_toArray
def ku:=@Nat.le_succ_of_le
def kw:=@List.setIfInBounds_toArray
def ky:=@List.take_append_of_le_length
def kz:=@List.drop_sublist
def k6:=@List.getElem?_modify
def k8:=@List.getElem?_inj
def k9:=@List.findIdx?_eq_none_iff
def md:=@List.range_eq_range'
def me:=@List.mem_range'_1
def mf:=@List.eq_nil_or_concat
def mh:=@List.concat_eq_append
def mi:=@List.filter_reverse
def mj:=@Array.getElem?_eq_none
def mo:=@List.idxOf_lt_length_of_mem
def mr:=@List.filter_filter
def mv:=@List.foldl_append
def mw:=@List.filterMap_append
def mx:=@Option.toList_some
def my:=@List.filterMap_cons_some
def mz:=@List.getElem?_of_mem
def m6:=@List.perm_ext_iff_of_nodup
def m7:=@List.filter_eq_self
def m8:=@Bool.eq_false_iff
def m9:=@Nat.lt_succ_iff_lt_or_eq
def ng:=@List.eq_nil_of_length_eq_zero
namespace L2
open PySem PySem.Spec PyProof.Rows
abbrev Key:=Sum Int Str
def keyIs:Key->Value->Bool
 | .inl k,v=>Value.isInt k v
 | .inr x,v=>Value.isStrOf x v
def keyH (w:World):Key->Int
 | .inl k=>hashInt k
 | .inr x=>hashStr w x
theorem xAap:∀ {k:Key} {v:Value},keyIs k v=true->(∃ i t,k=Sum.inl i/\v=Value.int i t)\/(∃ x t,k=Sum.inr x/\v=Value.str x t)
 | .inl i,v,h=>by
  obtain ⟨t,e⟩:=Value.isInt_shape (k:=i) (v:=v) h;exact .inl ⟨i,t,rfl,e⟩
 | .inr x,v,h=>by
  obtain ⟨t,e⟩:=Value.isStrOf_shape (x:=x) (v:=v) h;exact .inr ⟨x,t,rfl,e⟩
theorem xAnk (i:Int) (t:Tok):keyIs (.inl i) (.int i t)=true:=by simp [keyIs,Value.isInt]
theorem xAnl (x:Str) (t:Tok):keyIs (.inr x) (.str x t)=true:=by simp [keyIs,Value.isStrOf]
theorem key_ll (a b:Int):decide ((Sum.inl a:Key)=Sum.inl b)=(a==b):=by
 by_cases e:a=b
 ·subst e;simp
 ·have h:¬ (Sum.inl a:Key)=Sum.inl b:=fun q=>e (Sum.inl.inj q)
  rw [decide_eq_false h];exact (beq_eq_false_iff_ne.mpr e).symm
theorem key_rr (a b:Str):decide ((Sum.inr a:Key)=Sum.inr b)=decide (a=b):=by
 by_cases e:a=b
 ·subst e;simp
 ·have h:¬ (Sum.inr a:Key)=Sum.inr b:=fun q=>e (Sum.inr.inj q)
  rw [decide_eq_false h,decide_eq_false e]
theorem key_lr (a:Int) (b:Str):decide ((Sum.inl a:Key)=Sum.inr b)=false:=decide_eq_false (fun q=>nomatch q)
theorem key_rl (a:Str) (b:Int):decide ((Sum.inr a:Key)=Sum.inl b)=false:=decide_eq_false (fun q=>nomatch q)
def mixKind (prog:Program) (w:World):PySem.KeyKind prog w Key where
 is:=keyIs
 hash:=keyH w
 inj:=fun v a b ha hb=>by
  rcases xAap ha with ⟨i,t,rfl,rfl⟩ | ⟨x,t,rfl,rfl⟩
  ·rcases xAap hb with ⟨j,u,rfl,e⟩ | ⟨y,u,rfl,e⟩
   ·injection e with e1 _;rw [e1]
   ·exact nomatch e
  ·rcases xAap hb with ⟨j,u,rfl,e⟩ | ⟨y,u,rfl,e⟩
   ·exact nomatch e
   ·injection e with e1 _;rw [e1]
 byValue:=fun k v h=>by
  rcases xAap h with ⟨i,t,rfl,rfl⟩ | ⟨x,t,rfl,rfl⟩ <;> rfl
 pyHash:=fun hv h=>by
  rcases xAap hv with ⟨i,t,rfl,rfl⟩ | ⟨x,t,rfl,rfl⟩
  ·exact wpAny_pyHash_int h
  ·exact wpAny_pyHash_str h
 eqBool:=fun hu hv h=>by
  rcases xAap hu with ⟨i,t,rfl,rfl⟩ | ⟨x,t,rfl,rfl⟩
  ·rcases xAap hv with ⟨j,u,rfl,rfl⟩ | ⟨y,u,rfl,rfl⟩
   ·rw [key_ll] at h;exact wpAny_eqBool_int h
   ·rw [key_lr] at h;exact SeqAt.EqAt.int_str i t y u _ _ _ _ h
  ·rcases xAap hv with ⟨j,u,rfl,rfl⟩ | ⟨y,u,rfl,rfl⟩
   ·rw [key_rl] at h;exact SeqAt.EqAt.str_int x t j u _ _ _ _ h
   ·rw [key_rr] at h;exact wpAny_eqBool_str h
 «strs»:=fun k x t v h=>by
  rcases xAap h with ⟨i,u,rfl,e⟩ | ⟨y,u,rfl,e⟩
  ·exact nomatch e
  ·injection e with e1 _
   subst e1;cases v <;> rfl
theorem xAje (prog:Program) (w:World) (i:Int) (t:Tok):(mixKind prog w).is (.inl i) (.int i t)=true:=xAnk i t
theorem xAjf (prog:Program) (w:World) (x:Str) (t:Tok):(mixKind prog w).is (.inr x) (.str x t)=true:=xAnl x t
inductive V where
 | non | bl (b:Bool) | int (i:Int) | str (x:Str) | byt (b:Array UInt8) | flt (b:UInt64) | ref (a:Addr) | ty (n:String)
 deriving DecidableEq
def RelV:V->Value->Prop
 | .non,u=>u=Value.none
 | .bl b,u=>u=Value.bool b
 | .int i,u=>∃ t,u=Value.int i t
 | .str x,u=>∃ t,u=Value.str x t
 | .byt b,u=>∃ t,u=Value.bytes b t
 | .flt b,u=>∃ t,u=Value.float b t
 | .ref a,u=>u=Value.ref a
 | .ty n,u=>u=Value.type n
abbrev Vals:List V->List Value->Prop:=Paired RelV
theorem Vals.length {xs:List V} {us:List Value} (r:Vals xs us):xs.length=us.length:=Paired.length r
theorem Vals.get:∀ {xs:List V} {us:List Value} {i:Nat} {x:V},Vals xs us->xs[i]?=some x->∃ u,us[i]?=some u/\RelV x u
 | _,_,_,_,.nil,e=>by simp at e
 | _,_,0,_,.cons r _,e=>by simp at e;subst e;exact ⟨_,rfl,r⟩
 | _,_,i+1,x,.cons _ t,e=>by
  obtain ⟨u,h1,h2⟩:=Vals.get (i:=i) (x:=x) t (by simpa using e);exact ⟨u,by simpa using h1,h2⟩
theorem Vals.append:∀ {xs ys:List V} {us ws:List Value},Vals xs us->Vals ys ws->Vals (xs++ys) (us++ws)
 | _,_,_,_,.nil,s=>s
 | _,_,_,_,.cons r t,s=>.cons r (Vals.append t s)
theorem Vals.take:∀ {xs:List V} {us:List Value} (n:Nat),Vals xs us->Vals (xs.take n) (us.take n)
 | _,_,0,_=>.nil
 | _,_,_+1,.nil=>.nil
 | _,_,n+1,.cons r t=>.cons r (Vals.take n t)
theorem Vals.drop:∀ {xs:List V} {us:List Value} (n:Nat),Vals xs us->Vals (xs.drop n) (us.drop n)
 | _,_,0,r=>r
 | _,_,_+1,.nil=>.nil
 | _,_,n+1,.cons _ t=>Vals.drop n t
def RelO:Option V->Option Value->Prop
 | some v,some u=>RelV v u
 | none,none=>True
 | _,_=>False
def KV {κ:Type}:List (κ×V)->List (κ×Value)->Prop:=Paired fun (p:κ×V) (q:κ×Value)=>p.1=q.1/\RelV p.2 q.2
def kV:Key->V
 | .inl i=>.int i
 | .inr x=>.str x
inductive KD where
 | non
 | int (i:Int)
 | tup (ks:List Key)
 | two (ks ls:List Key)
deriving DecidableEq
def gHash (P:Program) (w:World):KD->Int
 | .non=>4238894112
 | .int i=>hashInt i
 | .tup ks=>(tupleKind (mixKind P w)).hash ks
 | .two ks ls=>reduceHash (Builtin.Tuple.tupleHashOf [(tupleKind (mixKind P w)).hash ks,(tupleKind (mixKind P w)).hash ls])
def gEnt (P:Program) (w:World) (x:KD×Value×Value):DictEntry:=⟨gHash P w x.1,x.2.1,x.2.2⟩
inductive HO where
 | lst (xs:List V)
 | tup (xs:List V)
 | dK (kvs:List (Key×V)) | dT (kvs:List (List Key×V))
 | dG (kvs:List (KD×V×V))
 | set (S:Int->Bool) (n:Nat)
 | ins (C dx:Addr) (fs:List (Str×V))
 | own (x:Addr)
 | xd (fs:List (Str×V))
 | met (f x:Addr)
 | rng (lo hi:Int)
 | frz (o:Obj) (u:HO)
 | tbl (ps:Array Value)
 | ext (φ:Heap->Prop)
abbrev Hp:=Addr->Option HO
def GK (H:Hp):KD->V->Prop
 | .non,v=>v=.non
 | .int i,v=>v=.int i
 | .tup ks,v=>∃ b,v=.ref b/\H b=some (.tup (ks.map kV))
 | .two ks ls,v=>∃ b c d,v=.ref b/\H b=some (.tup [.ref c,.ref d])/\H c=some (.tup (ks.map kV))/\H d=some (.tup (ls.map kV))
def upd (H:Hp) (a:Addr) (o:HO):Hp:=fun b=>if b=a then some o else H b
theorem xAae {H:Hp} {a:Addr} {o:HO}:upd H a o a=some o:=by unfold upd;rw [if_pos rfl]
theorem xAag {H:Hp} {a b:Addr} {o:HO} (h:b≠a):upd H a o b=H b:=by unfold upd;rw [if_neg h]
theorem ne_of {H:Hp} {a b:Addr} {o u:HO} (h:H a=some o) (h':H b=some u) (d:o≠u):a≠b:=by
 intro e;subst e;rw [h] at h';exact d (Option.some.inj h')
theorem xAab {H:Hp} {a b:Addr} {o:HO} (h:H a=some o) (h':H b=none):a≠b:=by
 intro e;subst e;rw [h] at h';cases h'
section
variable (P:Program) (w:World)
def ObjOk (H:Hp) (h:Heap) (a:Addr):HO->Prop
 | .lst xs=>xs.length≤sizeLine/\∃ (its:List Value) (n:Nat),Vals xs its/\h.get? a=some { cls:=.type "list",data:=.seq its.toArray n }
 | .tup xs=>xs.length≤sizeLine/\∃ its:List Value,Vals xs its/\IsTup h a its.toArray
 | .dK kvs=>kvs.length≤sizeLine/\(a==sysModules)=false/\∃ vs,KV kvs vs/\h.DictOf (mixKind P w) a vs
 | .dT kvs=>kvs.length≤sizeLine/\(a==sysModules)=false/\∃ xs:List (List Key×Addr×Value),
   Paired (fun (p:List Key×V) (q:List Key×Addr×Value)=>p.1=q.1/\H q.2.1=some (.tup (p.1.map kV))/\RelV p.2 q.2.2) kvs xs ∧
   ∃ o es ep,h.get? a=some o/\o.ExactDict/\o.data=.dict es ep/\es.toList=xs.map (entryOfKey (tupleKind (mixKind P w)))/\(xs.map (·.1)).Nodup
 | .dG kvs=>kvs.length≤sizeLine/\(a==sysModules)=false/\∃ xs:List (KD×Value×Value),
   Paired (fun (p:KD×V×V) (q:KD×Value×Value)=>p.1=q.1/\GK H p.1 p.2.1/\RelV p.2.1 q.2.1/\RelV p.2.2 q.2.2) kvs xs ∧
   ∃ o es ep,h.get? a=some o/\o.ExactDict/\o.data=.dict es ep/\es.toList=xs.map (gEnt P w)/\(xs.map (·.1)).Nodup
 | .set S n=>h.SetOf (intKind P w) a S n
 | .ins C dx fs=>H dx=some (.own a)/\fs.length≤1000/\dx≠a/\h.get? a=some (PySem.W.instObj C dx) ∧
   ∃ mA,h.Ns1 dx mA/\(∀ f,RelO (fs.lookup f) (mA f))/\PySem.Within mA (fs.map (·.1))
 | .own _=>∃ o,h.get? a=some o
 | .xd fs=>∃ mA,h.Ns1 a mA/\∀ f,RelO (fs.lookup f) (mA f)
 | .rng lo hi=>∃ t u v,h.get? a=some { cls:=.type "range",data:=.fields #[.int lo t,.int hi u,.int 1 v] }
 | .frz o u=>h.get? a=some o/\ObjOk H h a u
 | .tbl ps=>h.get? a=some { cls:=.none,data:=.fields ps }
 | .met f x=>h.get? a=some (PySem.W.methodObj (.ref f) (.ref x))
 | .ext φ=>φ h/\(∃ o,h.get? a=some o)/\∀ h1 h2:Heap,φ h1->(∀ o,h1.get? a=some o->h2.get? a=some o)->φ h2
def HOk (H:Hp) (h:Heap):Prop:=∀ a o,H a=some o->ObjOk P w H h a o
end
section
variable {P:Program} {w:World} {H H':Hp} {h h':Heap} {a:Addr} {o:HO}
theorem ObjOk.lt (x:ObjOk P w H h a o):a<h.objs.size:=by
 cases o with
 | lst xs=>obtain ⟨_,_,_,_,e⟩:=x;exact Heap.lt_size e
 | tup xs=>obtain ⟨_,_,_,p⟩:=x;exact p.lt
 | dK kvs=>obtain ⟨_,_,_,_,o,_,_,e,_⟩:=x;exact Heap.lt_size e
 | dT kvs=>obtain ⟨_,_,_,_,o,_,_,e,_⟩:=x;exact Heap.lt_size e
 | dG kvs=>obtain ⟨_,_,_,_,o,_,_,e,_⟩:=x;exact Heap.lt_size e
 | set S n=>obtain ⟨o,_,_,_,e,_⟩:=x;exact Heap.lt_size e
 | ins C dx fs=>obtain ⟨_,_,_,e,_⟩:=x;exact Heap.lt_size e
 | own y=>obtain ⟨_,e⟩:=x;exact Heap.lt_size e
 | xd fs=>obtain ⟨_,⟨_,_,_,e,_⟩,_⟩:=x;exact Heap.lt_size e
 | rng lo hi=>obtain ⟨_,_,_,e⟩:=x;exact Heap.lt_size e
 | frz ob u=>obtain ⟨e,_⟩:=x;exact Heap.lt_size e
 | tbl ps=>exact Heap.lt_size (show h.get? a=some _ from x)
 | met f y=>exact Heap.lt_size (show h.get? a=some _ from x)
 | ext φ=>obtain ⟨_,⟨_,e⟩,_⟩:=x;exact Heap.lt_size e
theorem Paired.mapP {α β:Type} {F G:α->β->Prop}:∀ {l₁:List α} {l₂:List β},Paired F l₁ l₂->(∀ a b,F a b->G a b)->Paired G l₁ l₂
 | _,_,.nil,_=>.nil
 | _,_,.cons r t,f=>.cons (f _ _ r) (Paired.mapP t f)
theorem GK.stay {H H':Hp} {k:KD} {v:V} (g:GK H k v) (ht:∀ b xs,H b=some (.tup xs)->H' b=some (.tup xs)):GK H' k v:=by
 cases k with
 | non=>exact g
 | int i=>exact g
 | tup ks=>obtain ⟨b,e,h⟩:=g;exact ⟨b,e,ht _ _ h⟩
 | two ks ls=>obtain ⟨b,c,d,e,h1,h2,h3⟩:=g;exact ⟨b,c,d,e,ht _ _ h1,ht _ _ h2,ht _ _ h3⟩
theorem ObjOk.stay (x:ObjOk P w H h a o) (k:∀ b u,(b=a\/H b=some (.own a))->h.get? b=some u->h'.get? b=some u)
  (ho:∀ b,H b=some (.own a)->H' b=some (.own a)) (ht:∀ b xs,H b=some (.tup xs)->H' b=some (.tup xs)):ObjOk P w H' h' a o:=by
 induction o with
 | lst xs=>obtain ⟨z,its,n,r,e⟩:=x;exact ⟨z,its,n,r,k _ _ (.inl rfl) e⟩
 | tup xs=>obtain ⟨z,its,r,ob,e,c⟩:=x;exact ⟨z,its,r,ob,k _ _ (.inl rfl) e,c⟩
 | dK kvs=>obtain ⟨z,y,vs,r,ob,es,ep,e,c⟩:=x;exact ⟨z,y,vs,r,ob,es,ep,k _ _ (.inl rfl) e,c⟩
 | dT kvs =>
  obtain ⟨z,y,xs,r,ob,es,ep,e,c⟩:=x;exact ⟨z,y,xs,Paired.mapP r fun p q z=>⟨z.1,ht _ _ z.2.1,z.2.2⟩,ob,es,ep,k _ _ (.inl rfl) e,c⟩
 | dG kvs =>
  obtain ⟨z,y,xs,r,ob,es,ep,e,c⟩:=x;exact ⟨z,y,xs,Paired.mapP r fun p q z=>⟨z.1,z.2.1.stay ht,z.2.2⟩,ob,es,ep,k _ _ (.inl rfl) e,c⟩
 | set S n=>obtain ⟨ob,es,ep,t,e,c⟩:=x;exact ⟨ob,es,ep,t,k _ _ (.inl rfl) e,c⟩
 | ins C dx fs =>
  obtain ⟨d,z,ne,e,mA,⟨od,es,ep,e2,c⟩,r⟩:=x;exact ⟨ho _ d,z,ne,k _ _ (.inl rfl) e,mA,⟨od,es,ep,k _ _ (.inr d) e2,c⟩,r⟩
 | own y=>obtain ⟨ob,e⟩:=x;exact ⟨ob,k _ _ (.inl rfl) e⟩
 | xd fs=>obtain ⟨mA,⟨od,es,ep,e,c⟩,r⟩:=x;exact ⟨mA,⟨od,es,ep,k _ _ (.inl rfl) e,c⟩,r⟩
 | rng lo hi=>obtain ⟨t,u,v,e⟩:=x;exact ⟨t,u,v,k _ _ (.inl rfl) e⟩
 | frz ob u ih=>obtain ⟨e,q⟩:=x;exact ⟨k _ _ (.inl rfl) e,ih q⟩
 | tbl ps =>
  have e:h.get? a=some { cls:=.none,data:=.fields ps }:=x;show h'.get? a=some { cls:=.none,data:=.fields ps };exact k a _ (.inl rfl) e
 | met f y =>
  have e:h.get? a=some (PySem.W.methodObj (.ref f) (.ref y)):=x;show h'.get? a=some (PySem.W.methodObj (.ref f) (.ref y));exact k a _ (.inl rfl) e
 | ext φ=>obtain ⟨p,⟨o,e⟩,st⟩:=x;exact ⟨st _ _ p fun o q=>k _ _ (.inl rfl) q,⟨o,k _ _ (.inl rfl) e⟩,st⟩
theorem HOk.lt (x:HOk P w H h) (e:H a=some o):a<h.objs.size:=(x a o e).lt
theorem HOk.fresh (x:HOk P w H h) (e:h.objs.size≤a):H a=none:=by
 cases q:H a with
 | none=>rfl
 | some u=>exact absurd (zn (x.lt q) e) (wg _)
theorem HOk.kept (x:HOk P w H h) (k:∀ b u,h.get? b=some u->h'.get? b=some u):HOk P w H h':=fun a o e =>
 (x a o e).stay (fun b u _ q=>k b u q) (fun _ q=>q) fun _ _ q=>q
theorem HOk.laid (x:HOk P w H h) (k:∀ b u,h.get? b=some u->h'.get? b=some u) (hp:h.objs.size≤a) (new:ObjOk P w (upd H a o) h' a o):HOk P w (upd H a o) h':=fun b u e=>by
 have hn:=x.fresh hp
 by_cases hb:b=a
 ·subst hb;rw [xAae] at e;cases e;exact new
 ·rw [xAag hb] at e
  exact (x b u e).stay (fun c v _ q=>k c v q) (fun c q=>by rw [xAag (xAab q hn)];exact q) fun c xs q=>by rw [xAag (xAab q hn)];exact q
end
def Rd (H:Hp) (a:Addr) (u:HO):Prop:=H a=some u\/∃ o,H a=some (.frz o u)
theorem Rd.ok {P:Program} {w:World} {H:Hp} {h:Heap} {a:Addr} {u:HO} (r:Rd H a u) (x:HOk P w H h):ObjOk P w H h a u:=by
 rcases r with r | ⟨o,r⟩
 ·exact x a u r
 ·obtain ⟨_,q⟩:=x a _ r
  exact q
def Mut:Option HO->Prop
 | some (.lst _)=>True
 | some (.dK _)=>True
 | some (.dT _)=>True
 | some (.dG _)=>True
 | some (.set _ _)=>True
 | some (.ins _ _ _)=>True
 | some (.ext _)=>True
 | _=>False
section
variable {P:Program} {w:World} {H:Hp} {h h':Heap} {x e:Addr} {o':HO}
theorem HOk.write (ok:HOk P w H h) (mu:Mut (H x)) (he:e=x\/H e=some (.own x)) (k:∀ b u,b≠e->h.get? b=some u->h'.get? b=some u) (heo:∃ u,h'.get? e=some u)
  (new:ObjOk P w (upd H x o') h' x o'):HOk P w (upd H x o') h':=fun b u q=>by
 have nown:∀ c y,H c=some (.own y)->c≠x:=fun c y r z=>by subst z;rw [r] at mu;exact mu
 have ntup:∀ c xs,H c=some (.tup xs)->c≠x:=fun c xs r z=>by subst z;rw [r] at mu;exact mu
 by_cases hb:b=x
 ·subst hb;rw [xAae] at q;cases q;exact new
 ·rw [xAag hb] at q
  by_cases hbe:b=e
  ·have q':H b=some (.own x):=by
    rcases he with z | z
    ·exact absurd (hbe.trans z) hb
    ·rw [hbe];exact z
   rw [q] at q';cases q';obtain ⟨v,hv⟩:=heo;exact ⟨v,by rw [hbe];exact hv⟩
  ·refine (ok b u q).stay (fun c v hc r=>k c v ?_ r) (fun c r=>by rw [xAag (nown c b r)];exact r) fun c xs r=>by rw [xAag (ntup c xs r)];exact r
   rcases hc with rfl | hc
   ·exact hbe
   ·rintro rfl
    rcases he with z | z
    ·exact nown c b hc z
    ·rw [hc] at z;cases z;exact hb rfl
end
structure Un (fs ex:List Addr) (H H':Hp) (h h':Heap):Prop where
 keep:∀ b o,h.get? b=some o->H b=none->b∉fs->b∉ex->h'.get? b=some o
 slot:∀ b o,h.get? b=some o->H b=none->b∈fs->b∉ex->∃ sl,h'.get? b=some { o with slots:=sl }
 free:∀ b o,h.get? b=some o->H b=none->b∉ex->H' b=none
 there:∀ b o,h.get? b=some o->b∉ex->∃ o',h'.get? b=some o'
 tups:∀ b xs,H b=some (.tup xs)->H' b=some (.tup xs)
 frzs:∀ b o u,H b=some (.frz o u)->H' b=some (.frz o u)
 tbls:∀ b ps,H b=some (.tbl ps)->∃ more,H' b=some (.tbl (ps++more))
section
variable {fs fs' ex ex':List Addr} {H H1 H2:Hp} {h h1 h2 h':Heap} {a x e:Addr} {o:HO}
theorem Un.any (u:Un fs ex H H1 h h1) {b:Addr} {ob:Obj} (q:h.get? b=some ob) (n:H b=none) (hx:b∉ex):∃ sl,h1.get? b=some { ob with slots:=sl }:=by
 by_cases hb:b∈fs
 ·exact u.slot b ob q n hb hx
 ·exact ⟨ob.slots,u.keep b ob q n hb hx⟩
theorem Un.trans (a:Un fs ex H H1 h h1) (b:Un fs ex H1 H2 h1 h2):Un fs ex H H2 h h2 where
 keep:=fun c ob q n hc hx=>b.keep c ob (a.keep c ob q n hc hx) (a.free c ob q n hx) hc hx
 slot:=fun c ob q n hc hx=>by
  obtain ⟨sl,e1⟩:=a.slot c ob q n hc hx;obtain ⟨sl',e2⟩:=b.slot c _ e1 (a.free c ob q n hx) hc hx;exact ⟨sl',e2⟩
 free:=fun c ob q n hx=>by
  obtain ⟨o',e1⟩:=a.there c ob q hx;exact b.free c o' e1 (a.free c ob q n hx) hx
 there:=fun c ob q hx=>by
  obtain ⟨o',e1⟩:=a.there c ob q hx;exact b.there c o' e1 hx
 tups:=fun c xs q=>b.tups c xs (a.tups c xs q)
 frzs:=fun c ob xs q=>b.frzs c ob xs (a.frzs c ob xs q)
 tbls:=fun c ps q=>by
  obtain ⟨m1,e1⟩:=a.tbls c ps q;obtain ⟨m2,e2⟩:=b.tbls c _ e1;exact ⟨m1++m2,by rw [e2,km]⟩
theorem Un.kept (k:∀ b u,h.get? b=some u->h'.get? b=some u):Un fs ex H H h h' :=
 ⟨fun b ob q _ _ _=>k b ob q,fun b ob q _ _ _=>⟨ob.slots,k b ob q⟩,fun _ _ _ n _=>n,fun b ob q _=>⟨ob,k b ob q⟩,fun _ _ q=>q,fun _ _ _ q=>q,fun _ ps q=>⟨#[],by rw [q];simp⟩⟩
theorem Un.refl:Un fs ex H H h h:=Un.kept fun _ _ q=>q
theorem Un.laid (k:∀ b u,h.get? b=some u->h'.get? b=some u) (hp:h.objs.size≤a) (hn:H a=none):Un fs ex H (upd H a o) h h' where
 keep:=fun b u q _ _ _=>k b u q
 slot:=fun b u q _ _ _=>⟨u.slots,k b u q⟩
 free:=fun b u q n _=>by rw [xAag (qu (zn (Heap.lt_size q) hp))];exact n
 there:=fun b u q _=>⟨u,k b u q⟩
 tups:=fun b xs q=>by rw [xAag (xAab q hn)];exact q
 frzs:=fun b u xs q=>by rw [xAag (xAab q hn)];exact q
 tbls:=fun b ps q=>⟨#[],by rw [xAag (xAab q hn),q];simp⟩
theorem Un.write (mu:Mut (H x)) (he:e=x\/H e=some (.own x)) (k:∀ b u,b≠e->h.get? b=some u->h'.get? b=some u) (heo:∃ u,h'.get? e=some u):Un fs ex H (upd H x o) h h':=by
 have hx:∀ b,H b=none->b≠x:=fun b n z=>by subst z;rw [n] at mu;exact mu
 have hb:∀ b,H b=none->b≠e:=fun b n z=>by
  subst z;rcases he with r | r
  ·exact hx b n r
  ·rw [n] at r;cases r
 have hm:∀ b u,H b=some u->¬ Mut (some u)->b≠x:=fun b u q nm z=>by subst z;rw [q] at mu;exact nm mu
 refine ⟨fun b u q n _ _=>k b u (hb b n) q,fun b u q n _ _=>⟨u.slots,k b u (hb b n) q⟩,fun b u q n _=>by rw [xAag (hx b n)];exact n,fun b u q _=>?_,
  fun b xs q=>by rw [xAag (hm b _ q fun z=>z)];exact q,fun b u xs q=>by rw [xAag (hm b _ q fun z=>z)];exact q,fun b ps q=>⟨#[],by rw [xAag (hm b _ q fun z=>z),q];simp⟩⟩
 by_cases hbe:b=e
 ·subst hbe;exact heo
 ·exact ⟨u,k b u hbe q⟩
end
def trk (h:Heap) (H:Hp):List Addr:=(List.range h.objs.size).filter fun a=>(H a).isSome
def hidT (h:Heap) (H:Hp):Heap:=PySem.W.hideAll h (trk h H)
theorem xAnm (h:Heap) (H:Hp):(hidT h H).objs.size=h.objs.size:=PySem.W.hideAll_size _ _
theorem xAqn {h:Heap} {H:Hp} {b:Addr} {o:Obj} (e:h.get? b=some o) (n:H b=none):(hidT h H).get? b=some o :=
 PySem.W.hideAll_get _ e fun hm=>by
  have q:(H b).isSome=true:=(qv.mp hm).2;rw [n] at q;simp at q
theorem xAsq {h:Heap} {H:Hp} {b:Addr} {o:Obj} (e:(hidT h H).get? b=some o):h.get? b=some o/\H b=none:=by
 have e':h.get? b=some o:=PySem.W.of_hideAll (trk h H) e;refine ⟨e',?_⟩
 cases q:H b with
 | none=>rfl
 | some x =>
  have hm:b∈trk h H:=List.mem_filter.mpr ⟨List.mem_range.mpr (Heap.lt_size e'),by simp [q]⟩;have z:(hidT h H).get? b=none:=PySem.W.hideAll_none (trk h H) hm;rw [z] at e;cases e
structure Mod (K:PySem.W.Frag) (mg:Str->Option Value) (base:Heap):Prop where
 kin:K.In base
 glob:base.Ns mainGlobals mg
 blt:∃ mb,base.Ns builtinsNs mb/\∀ x:Str,x≠"__name__"->mb x=bootBuiltins x
 nolimit:base.NoLimit
structure Cx where
 prog:Program
 w:World
 K:PySem.W.Frag
 mg:Str->Option Value
 base:Heap
 A:Around
 N:List Str
 s₀:Shared
 H₀:Hp
 env:Env
 outer:List Env
 stack:List Env
 ex:List Addr
 fn:Str->Bool
 calm:Bool
 pn:List (Addr×Obj)
 xe:Value->Shared->Prop
def frs (l:List Env):List Addr:=l.filterMap (·.frame)
abbrev Cx.fs (X:Cx):List Addr:=frs X.outer
def Vis (sc:Scope) (x:Str):Prop:=sc.names.lookup x=some .local\/sc.names.lookup x=some .cell\/sc.names.lookup x=some .free
def Loc (sc:Scope) (x:Str):Prop:=sc.names.lookup x=some .local\/sc.names.lookup x=some .cell
def Look (env:Env) (h:Heap) (m:Str->Option Value) (x:Str) (u:Value):Prop :=
 (env.kindOf x=some .local/\m x=some u)\/((env.kindOf x=some .cell\/env.kindOf x=some .free)/\∃ c,env.cells.lookup x=some c/\h.IsCell c (some u))
structure Cx.Ok (X:Cx):Prop where
 mod:Mod X.K X.mg X.base
 kind:X.env.scope.kind=.function
 glob:X.env.globals=mainGlobals
 blt:X.env.builtins=builtinsNs
 above:X.s₀.heap.objs.size≤X.env.locals
 inj:∀ x y c,X.env.cells.lookup x=some c->X.env.cells.lookup y=some c->x=y
 has:∀ x,(X.env.kindOf x=some .cell\/X.env.kindOf x=some .free)->∃ c,X.env.cells.lookup x=some c
 cab:∀ x c,X.fn x=true->X.env.cells.lookup x=some c->X.s₀.heap.objs.size≤c
 hd:X.calm=true->X.A.handled=none
 frames:X.A.frames=some X.stack
 stk:X.stack=X.outer\/(X.stack=X.env::X.outer/\X.env.frame=some X.env.locals)
 exf:∀ b∈X.ex,b≠X.env.locals/\∀ x c,X.env.cells.lookup x=some c->c≠b
 bs:∀ b o,X.base.get? b=some o->X.s₀.heap.get? b=some o/\X.H₀ b=none
 bsz:X.base.objs.size≤X.s₀.heap.objs.size
 noex:∀ b o,X.base.get? b=some o->b∉X.ex
 exfs:∀ b∈X.ex,b∉X.fs
 funs:X.s₀.heap.FunFrames X.base X.outer
 frf:∀ b∈X.fs,X.H₀ b=none
structure Inv (X:Cx) (pins:List (Addr×Obj)) (σ:List (Option V)) (H:Hp) (s:Shared):Prop where
 ok:X.Ok
 os:s.os=X.s₀.os
 bare:AllBare s.gens
 base:Un X.fs X.ex X.H₀ H X.s₀.heap s.heap
 loc:∃ m,s.heap.Ns X.env.locals m/\∀ (i:Nat) (x:Str) (v:V),X.N[i]?=some x->σ[i]?=some (some v)->Vis X.env.scope x->∃ u,RelV v u/\Look X.env s.heap m x u
 cell:∀ x c,X.env.cells.lookup x=some c->∃ v,s.heap.IsCell c v
 free:H X.env.locals=none
 freeC:∀ x c,X.env.cells.lookup x=some c->H c=none
 pin:∀ p∈X.pn++pins,s.heap.get? p.1=some p.2/\H p.1=none/\p.1≠X.env.locals/\p.1∉X.fs/\∀ v,p.2.data≠.cell v
 hok:HOk X.prog X.w H s.heap
 len:σ.length=X.N.length
section
variable {X:Cx} {pins:List (Addr×Obj)} {σ:List (Option V)} {H H':Hp} {s:Shared} {h':Heap}
theorem Cx.Ok.nofr (ok:X.Ok) {b:Addr} {o:Obj} (e:X.base.get? b=some o):b∉X.fs:=fun hb=>by
 have:=(ok.funs.mem hb).1;rw [e] at this;cases this
theorem Inv.bs (I:Inv X pins σ H s):∀ b o,X.base.get? b=some o->s.heap.get? b=some o/\H b=none:=fun b o e =>
 ⟨I.base.keep b o (I.ok.bs b o e).1 (I.ok.bs b o e).2 (I.ok.nofr e) (I.ok.noex b o e),I.base.free b o (I.ok.bs b o e).1 (I.ok.bs b o e).2 (I.ok.noex b o e)⟩
theorem Inv.bk (I:Inv X pins σ H s):∀ b o,X.base.get? b=some o->s.heap.get? b=some o:=fun b o e=>(I.bs b o e).1
theorem Inv.mod (I:Inv X pins σ H s):Mod X.K X.mg X.base:=I.ok.mod
theorem Inv.kIn (I:Inv X pins σ H s):X.K.In s.heap:=I.ok.mod.kin.keeps I.bk
theorem Inv.lt (I:Inv X pins σ H s):X.env.locals<s.heap.objs.size:=let ⟨_,hn,_⟩:=I.loc;hn.lt
theorem Inv.sz (I:Inv X pins σ H s):X.s₀.heap.objs.size≤s.heap.objs.size:=qh I.ok.above (zv I.lt)
theorem Inv.nofs (I:Inv X pins σ H s) {a:Addr} (h:s.heap.objs.size≤a):a∉X.fs:=fun hb=>by
 obtain ⟨_,o,ho,_⟩:=I.ok.funs.mem hb;exact absurd (zn (Heap.lt_size ho) (qh I.sz h)) (wg _)
theorem Inv.cne (I:Inv X pins σ H s):∀ x c,X.env.cells.lookup x=some c->c≠X.env.locals:=fun x c e z=>by
 obtain ⟨v,o,ho,hd⟩:=I.cell x c e;obtain ⟨m,⟨o',es,ep,ho',hd',_⟩,_⟩:=I.loc;rw [z,ho'] at ho;cases ho;rw [hd'] at hd;cases hd
theorem Inv.funs (I:Inv X pins σ H s):s.heap.FunFrames X.base X.outer:=by
 have all:∀ (l:List Env),(∀ b∈frs l,b∈X.fs)->X.s₀.heap.FunFrames X.base l->s.heap.FunFrames X.base l:=by
  intro l
  induction l with
  | nil=>intro _ _;trivial
  | cons env r ih =>
   intro hs hl;obtain ⟨hk,⟨L,o,hf,hn,ho,hd⟩,hr⟩:=hl;have hL:L∈X.fs:=hs L (by unfold frs;rw [yx,hf];exact qp);obtain ⟨sl,e⟩:=I.base.slot L o ho (I.ok.frf L hL) hL fun z=>I.ok.exfs L z hL;exact ⟨hk,⟨L,_,hf,hn,e,hd⟩,ih (fun b hb=>hs b (by unfold frs;rw [yx,hf];exact qr _ hb)) hr⟩
 exact all X.outer (fun _ hb=>hb) I.ok.funs
theorem Inv.stack (I:Inv X pins σ H s):s.heap.FunFrames X.base X.stack:=by
 rcases I.ok.stk with e | ⟨e,hf⟩
 ·rw [e];exact I.funs
 ·rw [e]
  obtain ⟨m,hn,_⟩:=I.loc;refine .cons (by rw [I.ok.kind];decide) hf hn ?_ I.funs;exact Heap.get?_none_of_le (qh I.ok.bsz I.ok.above)
theorem Inv.stkSub (I:Inv X pins σ H s):∀ b∈frs X.stack,b∈X.env.locals::X.fs:=fun b hb=>by
 rcases I.ok.stk with e | ⟨e,hf⟩
 ·rw [e] at hb;exact qr _ hb
 ·rw [e] at hb
  unfold frs at hb;rw [yx,hf] at hb;exact hb
theorem Inv.stkFree (I:Inv X pins σ H s):∀ b∈frs X.stack,H b=none:=fun b hb=>by
 rcases qw.mp (I.stkSub b hb) with e | hb
 ·rw [e];exact I.free
 ·obtain ⟨_,o,ho,_⟩:=I.ok.funs.mem hb
  exact I.base.free b o ho (I.ok.frf b hb) fun z=>I.ok.exfs b z hb
theorem Inv.step {g':Array GenState} {t':Nat} {d':Drawn} {ch:List Addr} (I:Inv X pins σ H s)
  (hch:∀ b∈ch,(b∈X.ex\/X.s₀.heap.objs.size≤b)/\b≠X.env.locals/\(∀ x c,X.env.cells.lookup x=some c->c≠b)/\∀ p∈X.pn++pins,p.1≠b)
  (keep:∀ b o,b≠X.env.locals->b∉X.fs->b∉ch->s.heap.get? b=some o->H b=none->h'.get? b=some o)
  (slot:∀ b o,b≠X.env.locals->b∈X.fs->b∉ch->s.heap.get? b=some o->H b=none->∃ sl,h'.get? b=some { o with slots:=sl }) (free:∀ b o,b∉ch->s.heap.get? b=some o->H b=none->H' b=none)
  (there:∀ b o,b∉ch->s.heap.get? b=some o->∃ o',h'.get? b=some o')
  (tups:∀ b xs,H b=some (.tup xs)->H' b=some (.tup xs)) (frzs:∀ b o u,H b=some (.frz o u)->H' b=some (.frz o u)) (tbls:∀ b ps,H b=some (.tbl ps)->∃ more,H' b=some (.tbl (ps++more)))
  (ns:∀ m,s.heap.Ns X.env.locals m->h'.Ns X.env.locals m) (hok:HOk X.prog X.w H' h') (hg:AllBare g') :
  Inv X pins σ H' { s with heap:=h',gens:=g',drawn:=d',toks:=t' }:=by
 have neL:∀ b o,X.s₀.heap.get? b=some o->b≠X.env.locals:=fun b o e=>qu (zn (Heap.lt_size e) I.ok.above)
 have neC:∀ b o,X.s₀.heap.get? b=some o->b∉X.ex->b∉ch:=fun b o e hx hb=>by
  rcases (hch b hb).1 with z | z
  ·exact hx z
  ·exact absurd (zn (Heap.lt_size e) z) (wg _)
 have cellK:∀ x c,X.env.cells.lookup x=some c->∀ v,s.heap.IsCell c v->h'.IsCell c v:=fun x c e v ⟨o,ho,hd⟩=>by
  have nch:c∉ch:=fun z=>(hch c z).2.2.1 x c e rfl
  by_cases hc:c∈X.fs
  ·obtain ⟨sl,q⟩:=slot c o (I.cne x c e) hc nch ho (I.freeC x c e)
   exact ⟨_,q,hd⟩
  ·exact ⟨o,keep c o (I.cne x c e) hc nch ho (I.freeC x c e),hd⟩
 refine ⟨I.ok,I.os,hg,⟨fun b o e n hb hx=>?_,fun b o e n hb hx=>?_,fun b o e n hx=>?_,fun b o e hx=>?_,fun b xs e=>tups b xs (I.base.tups b xs e),fun b o xs e=>frzs b o xs (I.base.frzs b o xs e),fun b ps e=>?_⟩,?_,fun x c e=>?_,?_,fun x c e=>?_,fun p hp=>?_,hok,I.len⟩
 ·exact keep b o (neL b o e) hb (neC b o e hx) (I.base.keep b o e n hb hx) (I.base.free b o e n hx)
 ·obtain ⟨sl,e1⟩:=I.base.slot b o e n hb hx
  obtain ⟨sl',e2⟩:=slot b _ (neL b o e) hb (neC b o e hx) e1 (I.base.free b o e n hx);exact ⟨sl',e2⟩
 ·obtain ⟨o',e1⟩:=I.base.there b o e hx
  exact free b o' (neC b o e hx) e1 (I.base.free b o e n hx)
 ·obtain ⟨o',e1⟩:=I.base.there b o e hx
  exact there b o' (neC b o e hx) e1
 ·obtain ⟨m1,e1⟩:=I.base.tbls b ps e
  obtain ⟨m2,e2⟩:=tbls b _ e1;exact ⟨m1++m2,by rw [e2,km]⟩
 ·obtain ⟨m,hn,hl⟩:=I.loc
  refine ⟨m,ns m hn,fun i x v e1 e2 e3=>?_⟩;obtain ⟨u,r,l⟩:=hl i x v e1 e2 e3;refine ⟨u,r,?_⟩;rcases l with l | ⟨k,c,e,z⟩
  ·exact .inl l
  ·exact .inr ⟨k,c,e,cellK x c e _ z⟩
 ·obtain ⟨v,z⟩:=I.cell x c e
  exact ⟨v,cellK x c e v z⟩
 ·obtain ⟨m,⟨o,_,_,ho,_⟩,_⟩:=I.loc
  exact free _ o (fun z=>(hch _ z).2.1 rfl) ho I.free
 ·obtain ⟨v,o,ho,hd⟩:=I.cell x c e
  exact free c o (fun z=>(hch c z).2.2.1 x c e rfl) ho (I.freeC x c e)
 ·obtain ⟨e,n,ne,nf,d⟩:=I.pin p hp
  have nch:p.1∉ch:=fun z=>(hch p.1 z).2.2.2 p hp rfl;exact ⟨keep p.1 p.2 ne nf nch e n,free p.1 p.2 nch e n,ne,nf,d⟩
theorem Inv.un {t':Nat} (I:Inv X pins σ H s) (u:Un X.fs [] H H' s.heap h') (hok:HOk X.prog X.w H' h'):Inv X pins σ H' { s with heap:=h',toks:=t' }:=by
 obtain ⟨m,⟨o,es,ep,ho,r⟩,_⟩:=id I.loc;obtain ⟨sl,hL⟩:=u.any ho I.free (by simp)
 exact I.step (g':=s.gens) (d':=s.drawn) (ch:=[]) (fun _ z=>nomatch z) (fun b o _ hb _ e n=>u.keep b o e n hb (by simp)) (fun b o _ hb _ e n=>u.slot b o e n hb (by simp)) (fun b o _ e n=>u.free b o e n (by simp)) (fun b o _ e=>u.there b o e (by simp)) u.tups u.frzs u.tbls (fun m' hm=>by
  obtain ⟨o',es',ep',ho',r'⟩:=hm;rw [ho] at ho';cases ho'
  exact ⟨_,es',ep',hL,r'⟩) hok I.bare
theorem Inv.call {g':Array GenState} {t':Nat} {d':Drawn} {ch:List Addr} (I:Inv X pins σ H s) (u:Un (frs X.stack) ch H H' s.heap h') (hok:HOk X.prog X.w H' h') (hg:AllBare g')
  (hch:∀ b∈ch,(b∈X.ex\/X.s₀.heap.objs.size≤b)/\b≠X.env.locals/\(∀ x c,X.env.cells.lookup x=some c->c≠b)/\∀ p∈X.pn++pins,p.1≠b) :
  Inv X pins σ H' { s with heap:=h',gens:=g',drawn:=d',toks:=t' }:=by
 obtain ⟨m,⟨o,es,ep,ho,r⟩,_⟩:=id I.loc;obtain ⟨sl,hL⟩:=u.any ho I.free fun z=>(hch _ z).2.1 rfl
 exact I.step (ch:=ch) hch (fun b o hL hb hc e n=>u.keep b o e n (fun z=>(qw.mp (I.stkSub b z)).elim hL hb) hc) (fun b o _ _ hc e n=>u.any e n hc) (fun b o hc e n=>u.free b o e n hc) (fun b o hc e=>u.there b o e hc) u.tups u.frzs u.tbls (fun m' hm=>by
  obtain ⟨o',es',ep',ho',r'⟩:=hm;rw [ho] at ho';cases ho'
  exact ⟨_,es',ep',hL,r'⟩) hok hg
theorem Inv.turned {t':Nat} {it:Addr} (I:Inv X pins σ H s) (k:∀ b o,b≠it->s.heap.get? b=some o->h'.get? b=some o) (hn:H it=none) (hL:it≠X.env.locals)
  (h1:it∈X.ex\/X.s₀.heap.objs.size≤it) (h2:∀ x c,X.env.cells.lookup x=some c->c≠it) (h3:∀ p∈X.pn++pins,p.1≠it):Inv X pins σ H { s with heap:=h',toks:=t' }:=by
 have nit:∀ b u,H b=some u->b≠it:=fun b u e z=>by rw [z,hn] at e;cases e
 refine I.step (g':=s.gens) (d':=s.drawn) (ch:=[it]) (fun b hb=>?_) (fun b o _ _ hc e _=>k b o (fun z=>hc (by simp [z])) e) (fun b o _ _ hc e _=>⟨o.slots,k b o (fun z=>hc (by simp [z])) e⟩) (fun _ _ _ _ n=>n)
  (fun b o hc e=>⟨o,k b o (fun z=>hc (by simp [z])) e⟩) (fun _ _ e=>e) (fun _ _ _ e=>e) (fun b ps e=>⟨#[],by rw [e];simp⟩) (fun m hm=>?_) (fun b u e=>?_) I.bare
 ·have e:b=it:=by simpa using hb
  subst e;exact ⟨h1,hL,h2,h3⟩
 ·obtain ⟨o,es,ep,ho,r⟩:=hm
  exact ⟨o,es,ep,k _ o (Ne.symm hL) ho,r⟩
 ·refine (I.hok b u e).stay (fun c v hc q=>k c v ?_ q) (fun _ q=>q) fun _ _ q=>q
  rcases hc with z | z
  ·rw [z];exact nit b u e
  ·exact nit c _ z
theorem Inv.tok (I:Inv X pins σ H s) (t:Nat):Inv X pins σ H { s with toks:=t }:=I.un (h':=s.heap) (t':=t) Un.refl I.hok
theorem Inv.kept {t':Nat} (I:Inv X pins σ H s) (k:∀ b u,s.heap.get? b=some u->h'.get? b=some u):Inv X pins σ H { s with heap:=h',toks:=t' }:=I.un (Un.kept k) (I.hok.kept k)
theorem Inv.laid {a:Addr} {o:HO} {t':Nat} (I:Inv X pins σ H s) (k:∀ b u,s.heap.get? b=some u->h'.get? b=some u) (hp:s.heap.objs.size≤a) (new:ObjOk X.prog X.w (upd H a o) h' a o) :
  Inv X pins σ (upd H a o) { s with heap:=h',toks:=t' }:=I.un (Un.laid k hp (I.hok.fresh hp)) (I.hok.laid k hp new)
theorem Inv.write {x e:Addr} {o:HO} {t':Nat} (I:Inv X pins σ H s) (mu:Mut (H x)) (he:e=x\/H e=some (.own x)) (k:∀ b u,b≠e->s.heap.get? b=some u->h'.get? b=some u) (heo:∃ u,h'.get? e=some u)
  (new:ObjOk X.prog X.w (upd H x o) h' x o):Inv X pins σ (upd H x o) { s with heap:=h',toks:=t' }:=I.un (Un.write mu he k heo) (I.hok.write mu he k heo new)
theorem Inv.weak {σ':List (Option V)} (I:Inv X pins σ H s) (hl:σ'.length=σ.length) (w:∀ (i:Nat) v,σ'[i]?=some (some v)->σ[i]?=some (some v)):Inv X pins σ' H s :=
 ⟨I.ok,I.os,I.bare,I.base,let ⟨m,hn,hl'⟩:=I.loc;⟨m,hn,fun i x v e1 e2 e3=>hl' i x v e1 (w i v e2) e3⟩,I.cell,I.free,I.freeC,I.pin,I.hok,hl.trans I.len⟩
theorem Inv.pins_of {pins':List (Addr×Obj)} (I:Inv X pins σ H s) (h:∀ p∈pins',s.heap.get? p.1=some p.2/\H p.1=none/\p.1≠X.env.locals/\p.1∉X.fs/\∀ v,p.2.data≠.cell v):Inv X pins' σ H s :=
 ⟨I.ok,I.os,I.bare,I.base,I.loc,I.cell,I.free,I.freeC,fun p hp=>(qz.mp hp).elim (fun z=>I.pin p (yn _ z)) (h p),I.hok,I.len⟩
theorem xAkd {N:List Str} (hN:N.Nodup) {i j:Nat} {x:Str} (a:N[i]?=some x) (b:N[j]?=some x):i=j:=by
 obtain ⟨h1,e1⟩:=ze.mp a;obtain ⟨h2,e2⟩:=ze.mp b;exact (List.getElem_inj hN).mp (e1.trans e2.symm)
theorem xAhk {M:Model} {A:Around} {E:Value->Shared->Prop} {i:Nat} {x:Str} {v:V} {u:Value} {Q:Unit->Shared->Prop} (I:Inv X pins σ H s) (hN:X.N.Nodup) (hi:X.N[i]?=some x) (hx:Loc X.env.scope x) (r:RelV v u)
  (h:∀ s',Inv X pins (σ.set i (some v)) H s'->(∃ a,Heap.SameBut a s.heap s'.heap/\(a=X.env.locals\/X.env.cells.lookup x=some a))->Q () s') (hf:X.fn x=true\/X.env.scope.names.lookup x=some .local:=by first | exact .inl rfl | exact .inr rfl | assumption):wpAny M A (storeName X.env x u) Q E s:=by
 obtain ⟨m,hn,hl⟩:=id I.loc
 have hcls:(X.env.scope.kind==.class||(X.env.scope.kind==.module&&X.env.locals != X.env.globals))=false:=by rw [I.ok.kind];rfl
 have hiσ:i<σ.length:=by rw [I.len];exact (ze.mp hi).1
 have cne:=I.cne
 have tracked:∀ {a:Addr} {h':Heap},(∃ o,s.heap.get? a=some o/\H a=none)->Heap.SameBut a s.heap h'->HOk X.prog X.w H h':=fun {a h'} ha hs b ob e=>by
  obtain ⟨_,_,hfree⟩:=ha;refine (I.hok b ob e).stay (fun c w' hc q=>(hs.2 c ?_).trans q) (fun _ q=>q) fun _ _ q=>q;rintro rfl;rcases hc with rfl | hc
  ·rw [hfree] at e;cases e
  ·rw [hfree] at hc;cases hc
 rcases hx with hk | hk
 ·refine wpAny_storeName_local hk hn (fun h' hn' hs=>?_) hcls
  obtain ⟨oL,_,_,hoL,_⟩:=id hn;refine h _ ⟨I.ok,I.os,I.bare,⟨fun b o e n hb hx=>?_,fun b o e n hb hx=>?_,I.base.free,fun b o e hx=>?_,I.base.tups,I.base.frzs,I.base.tbls⟩,⟨_,hn',fun j y v' e1 e2 e3=>?_⟩,fun y c e=>?_,I.free,I.freeC,fun p hp=>?_,tracked ⟨oL,hoL,I.free⟩ hs,by simpa using I.len⟩ ⟨_,hs,.inl rfl⟩
  ·exact (hs.2 b (qu (zn (Heap.lt_size e) I.ok.above))).trans (I.base.keep b o e n hb hx)
  ·obtain ⟨sl,e1⟩:=I.base.slot b o e n hb hx
   exact ⟨sl,(hs.2 b (qu (zn (Heap.lt_size e) I.ok.above))).trans e1⟩
  ·obtain ⟨o',e1⟩:=I.base.there b o e hx
   exact ⟨o',(hs.2 b (qu (zn (Heap.lt_size e) I.ok.above))).trans e1⟩
  ·by_cases hj:j=i
   ·subst hj
    rw [hi] at e1;cases e1;rw [ko hiσ] at e2;cases e2;exact ⟨u,r,.inl ⟨hk,by simp⟩⟩
   ·rw [jk (Ne.symm hj)] at e2
    obtain ⟨u',r',q⟩:=hl j y v' e1 e2 e3;refine ⟨u',r',?_⟩;rcases q with ⟨k,e⟩ | ⟨k,c,e,z⟩
    ·refine .inl ⟨k,?_⟩
     have:y≠x:=fun e=>hj (xAkd hN e1 (e▸hi))
     simp [this,e]
    ·exact .inr ⟨k,c,e,z.sameBut hs (cne y c e)⟩
  ·obtain ⟨w',z⟩:=I.cell y c e
   exact ⟨w',z.sameBut hs (cne y c e)⟩
  ·obtain ⟨e,n,ne,nf,d⟩:=I.pin p hp
   exact ⟨(hs.2 p.1 ne).trans e,n,ne,nf,d⟩
 ·have hfn:X.fn x=true:=by
   rcases hf with z | z
   ·exact z
   ·rw [z] at hk;cases hk
  obtain ⟨c,hc⟩:=I.ok.has x (.inl hk);obtain ⟨w',z⟩:=I.cell x c hc;refine wpAny_storeName_cell I.ok.kind hk hc z (fun h' hc' hs=>?_);obtain ⟨oc,hoc,hocd⟩:=id z;refine h { s with heap:=h' } ⟨I.ok,I.os,I.bare,⟨fun b o e n hb hx=>?_,fun b o e n hb hx=>?_,I.base.free,fun b o e hx=>?_,I.base.tups,I.base.frzs,I.base.tbls⟩,⟨m,hn.sameBut hs (Ne.symm (cne x c hc)),fun j y v' e1 e2 e3=>?_⟩,fun y c' e=>?_,I.free,I.freeC,fun p hp=>?_,tracked ⟨oc,hoc,I.freeC x c hc⟩ hs,by simpa using I.len⟩ ⟨c,hs,.inr hc⟩
  ·exact (hs.2 b (qu (zn (Heap.lt_size e) (I.ok.cab x c hfn hc)))).trans (I.base.keep b o e n hb hx)
  ·obtain ⟨sl,e1⟩:=I.base.slot b o e n hb hx
   exact ⟨sl,(hs.2 b (qu (zn (Heap.lt_size e) (I.ok.cab x c hfn hc)))).trans e1⟩
  ·obtain ⟨o',e1⟩:=I.base.there b o e hx
   exact ⟨o',(hs.2 b (qu (zn (Heap.lt_size e) (I.ok.cab x c hfn hc)))).trans e1⟩
  ·by_cases hj:j=i
   ·subst hj
    rw [hi] at e1;cases e1;rw [ko hiσ] at e2;cases e2;exact ⟨u,r,.inr ⟨.inl hk,c,hc,hc'⟩⟩
   ·rw [jk (Ne.symm hj)] at e2
    obtain ⟨u',r',q⟩:=hl j y v' e1 e2 e3;refine ⟨u',r',?_⟩;rcases q with q | ⟨k,c',e,z'⟩
    ·exact .inl q
    ·refine .inr ⟨k,c',e,z'.sameBut hs ?_⟩
     rintro rfl;exact hj (xAkd hN e1 (I.ok.inj _ _ _ e hc▸hi))
  ·by_cases hcc:c'=c
   ·subst hcc;exact ⟨_,hc'⟩
   ·obtain ⟨w2,z2⟩:=I.cell y c' e
    exact ⟨w2,z2.sameBut hs hcc⟩
  ·obtain ⟨e,n,ne,nf,d⟩:=I.pin p hp
   refine ⟨(hs.2 p.1 ?_).trans e,n,ne,nf,d⟩;intro q;rw [q,hoc] at e;have q':oc=p.2:=Option.some.inj e;exact d w' (by rw [← q'];exact hocd)
theorem xAke {M:Model} {A:Around} {E:Value->Shared->Prop} {i:Nat} {x:Str} {v:V} {u:Value} {Q:Unit->Shared->Prop} (I:Inv X pins σ H s) (hN:X.N.Nodup) (hi:X.N[i]?=some x) (hx:Loc X.env.scope x) (r:RelV v u)
  (h:∀ s',Inv X pins (σ.set i (some v)) H s'->Q () s') (hf:X.fn x=true\/X.env.scope.names.lookup x=some .local:=by first | exact .inl rfl | exact .inr rfl | assumption):wpAny M A (storeName X.env x u) Q E s :=
 xAhk I hN hi hx r (fun s' I' _=>h s' I') hf
theorem Inv.call' {s':Shared} {ch:List Addr} (I:Inv X pins σ H s) (ho:s'.os=s.os) (u:Un (frs X.stack) ch H H' s.heap s'.heap) (hok:HOk X.prog X.w H' s'.heap) (hg:AllBare s'.gens)
  (hch:∀ b∈ch,(b∈X.ex\/X.s₀.heap.objs.size≤b)/\b≠X.env.locals/\(∀ x c,X.env.cells.lookup x=some c->c≠b)/\∀ p∈X.pn++pins,p.1≠b):Inv X pins σ H' s':=by
 obtain ⟨h',g',d',t',o'⟩:=s';have e:o'=s.os:=ho;subst e;exact I.call (g':=g') (t':=t') (d':=d') u hok hg hch
end
abbrev XK:=Value->Option Addr->Hp->Prop
abbrev St:=List (Option V)
abbrev VK:=V->Hp->Prop
abbrev TE:=St->Hp->VK->Prop
abbrev TT:=St->Hp->(Bool->Hp->Prop)->Prop
abbrev TA:=St->Hp->(List V->Hp->Prop)->Prop
structure Ends where
 nx:St->Hp->Prop
 rt:VK
 bk:St->Hp->Prop:=fun _ _=>False
 ct:St->Hp->Prop:=fun _ _=>False
abbrev TS:=Ends->St->Hp->Prop
def EP (X:Cx) (pins:List (Addr×Obj)) (σ:St) (Q:VK) (u:Value) (s':Shared):Prop:=∃ v H',Inv X pins σ H' s'/\RelV v u/\Q v H'
def TP (X:Cx) (pins:List (Addr×Obj)) (σ:St) (Q:Bool->Hp->Prop) (b:Bool) (s':Shared):Prop:=∃ H',Inv X pins σ H' s'/\Q b H'
def AP (X:Cx) (pins:List (Addr×Obj)) (σ:St) (Q:List V->Hp->Prop) (us:List Value) (s':Shared):Prop:=∃ vs H',Inv X pins σ H' s'/\Vals vs us/\Q vs H'
def SP (X:Cx) (pins:List (Addr×Obj)) (D:Ends) (f:Flow) (s':Shared):Prop :=
 match f with
 | .next=>∃ σ' H',Inv X pins σ' H' s'/\D.nx σ' H'
 | .brk=>∃ σ' H',Inv X pins σ' H' s'/\D.bk σ' H'
 | .cont=>∃ σ' H',Inv X pins σ' H' s'/\D.ct σ' H'
 | .ret u=>∃ v σ' H',Inv X pins σ' H' s'/\RelV v u/\D.rt v H'
def PE (X:Cx) (e:Expr) (t:TE):Prop :=
 ∀ (pins:List (Addr×Obj)) (s:Shared) (σ:St) (H:Hp) (Q:VK),Inv X pins σ H s->t σ H Q->wpAny (model X.prog X.w) X.A (eval e X.env) (EP X pins σ Q) X.xe s
def PT (X:Cx) (e:Expr) (t:TT):Prop :=
 ∀ (pins:List (Addr×Obj)) (s:Shared) (σ:St) (H:Hp) (Q:Bool->Hp->Prop),Inv X pins σ H s->t σ H Q->wpAny (model X.prog X.w) X.A (isTrue e X.env (eval e X.env)) (TP X pins σ Q) X.xe s
def PW (X:Cx) (e:Expr) (t:TT):Prop :=
 ∀ (whole:Sem Value) (pins:List (Addr×Obj)) (s:Shared) (σ:St) (H:Hp) (Q:Bool->Hp->Prop),Inv X pins σ H s->t σ H Q->wpAny (model X.prog X.w) X.A (isTrue e X.env whole) (TP X pins σ Q) X.xe s
theorem PW.pt {X:Cx} {e:Expr} {t:TT} (h:PW X e t):PT X e t:=h _
def PA (X:Cx) (es:List Expr) (t:TA):Prop :=
 ∀ (pos:Pos) (pins:List (Addr×Obj)) (s:Shared) (σ:St) (H:Hp) (Q:List V->Hp->Prop),Inv X pins σ H s->t σ H Q->wpAny (model X.prog X.w) X.A (spliced (backTo pos (starEach es X.env))) (AP X pins σ Q) X.xe s
def PS (X:Cx) (st:Stmt) (t:TS):Prop :=
 ∀ (pins:List (Addr×Obj)) (s:Shared) (σ:St) (H:Hp) (D:Ends),Inv X pins σ H s->t D σ H->wpAny (model X.prog X.w) X.A (exec st X.env) (SP X pins D) X.xe s
def PSs (X:Cx) (st:List Stmt) (t:TS):Prop :=
 ∀ (pins:List (Addr×Obj)) (s:Shared) (σ:St) (H:Hp) (D:Ends),Inv X pins σ H s->t D σ H->wpAny (model X.prog X.w) X.A (execs st X.env) (SP X pins D) X.xe s
theorem thn {α:Type} {t:Sem α} {Q Q':α->Shared->Prop} {M:Model} {A:Around} {E:Value->Shared->Prop} {s:Shared} (h:wpAny M A t Q E s) (hQ:∀ a s,Q a s->Q' a s):wpAny M A t Q' E s:=wpAny_mono h hQ fun _ _ x=>x
section
variable {X:Cx}
def tVar (i:Nat):TE:=fun σ H Q=>∃ v,σ[i]?=some (some v)/\Q v H
def tC (v:V):TE:=fun _ H Q=>Q v H
theorem pe_var {i:Nat} {x:Str} {pos:Pos} (hN:X.N[i]?=some x) (hv:Vis X.env.scope x) (hd:(x==("__debug__":Str))=false:=by decide) (hcd:(x==("__classdict__":Str))=false:=by decide):PE X (.Name x pos) (tVar i):=by
 intro pins s σ H Q I h;obtain ⟨v,e,h⟩:=h;obtain ⟨m,hn,hl⟩:=I.loc;obtain ⟨u,r,l⟩:=hl i x v hN e hv;have fin:EP X pins σ Q u s:=⟨v,H,I,r,h⟩;rcases l with ⟨hk,hm⟩ | ⟨hk,c,hc,hcell⟩
 ·exact wpAny_Name (wpAny_loadName_local I.ok.kind hk hn hm fin) hd
 ·rcases hk with hk | hk
  ·exact wpAny_Name (wpAny_loadName_cell I.ok.kind hk hc hcell fin) hd
  ·exact wpAny_Name (wpAny_loadName_free I.ok.kind hk hc hcell fin hcd) hd
theorem xAah {i j pos}:PE X (.Constant (.int i) j pos) (tC (.int i)):=fun _ _ _ H _ I h=>wpAny_Constant_int ⟨.int i,H,I.tok _,⟨_,rfl⟩,h⟩
theorem pe_bl {b j pos}:PE X (.Constant (.bool b) j pos) (tC (.bl b)):=fun _ _ _ H _ I h=>Constant_bool ⟨.bl b,H,I,rfl,h⟩
theorem xAcx {j pos}:PE X (.Constant .none j pos) (tC .non):=fun _ _ _ H _ I h=>Constant_none ⟨.non,H,I,rfl,h⟩
theorem xAal {x j pos}:PE X (.Constant (.str x) j pos) (tC (.str x)):=fun _ _ _ H _ I h=>Calls.Constant_str ⟨.str x,H,I.tok _,⟨_,rfl⟩,h⟩
def Gl (X:Cx) (x:Str):Prop:=X.env.kindOf x=some .globalImplicit
theorem xApc {E:Value->Shared->Prop} {pins:List (Addr×Obj)} {s:Shared} {σ:St} {H:Hp} {x:Str} {u:Value} {pos:Pos} {Q:Value->Shared->Prop} (I:Inv X pins σ H s) (hg:Gl X x) (hm:X.mg x=some u) (h:Q u s)
  (hd:(x==("__debug__":Str))=false:=by decide):wpAny (model X.prog X.w) X.A (eval (.Name x pos) X.env) Q E s :=
 Calls.Name_function_global I.ok.kind hg (Calls.loadGlobal_global (by rw [I.ok.glob];exact I.mod.glob.keeps I.bk) hm h) hd
theorem xAjg {E:Value->Shared->Prop} {pins:List (Addr×Obj)} {s:Shared} {σ:St} {H:Hp} {x:Str} {u:Value} {pos:Pos} {Q:Value->Shared->Prop} (I:Inv X pins σ H s) (hg:Gl X x) (hm:X.mg x=none) (hv:bootBuiltins x=some u) (h:Q u s)
  (hn:x≠"__name__":=by decide) (hd:(x==("__debug__":Str))=false:=by decide):wpAny (model X.prog X.w) X.A (eval (.Name x pos) X.env) Q E s:=by
 obtain ⟨mb,h1,h2⟩:=I.mod.blt;exact Calls.Name_function_global I.ok.kind hg (Calls.loadGlobal_builtin (by rw [I.ok.glob];exact I.mod.glob.keeps I.bk) hm (by rw [I.ok.blt];exact h1.keeps I.bk) ((h2 x hn).trans hv) h) hd
variable {a b:Expr} {ta tb:TE} {pos:Pos}
def tB (t:TE):TT:=fun σ H Q=>t σ H fun x H1=>∃ c,x=.bl c/\Q c H1
theorem xAnn {e:Expr} {t:TE} (h:PE X e t) (he:∀ whole,isTrue e X.env whole=(do let v ← whole;standAt e.pos;holding [v] (truthy v)):=by intro _;rfl):PT X e (tB t):=by
 intro pins s σ H Q I hw;refine isTrue_plain (thn (h pins s σ H _ I hw) fun v s1 ⟨x,H1,I1,r1,q1⟩=>?_) (he _);obtain ⟨d,rfl,q⟩:=q1;cases r1;exact wpAny_truthy_bool ⟨H1,I1,q⟩
variable {tA tB':TT} {rest:List Expr}
def tAnd (t u:TT):TT:=fun σ H Q=>t σ H fun c H1=>if c=true then u σ H1 Q else Q false H1
def tOr (t u:TT):TT:=fun σ H Q=>t σ H fun c H1=>if c=true then Q true H1 else u σ H1 Q
def tNot (t:TT):TT:=fun σ H Q=>t σ H fun c H1=>Q (!c) H1
theorem xAft (ha:PT X a tA):PW X (.BoolOp .And [a] pos) tA:=by
 intro wh pins s σ H Q I h;refine isTrue_and (thn (ha pins s σ H Q I h) fun c s1 e=>?_)
 cases c with
 | true=>exact isTrue_and_nil e
 | false=>exact e
theorem xAqo (ha:PT X a tA):PW X (.BoolOp .Or [a] pos) tA:=by
 intro wh pins s σ H Q I h;refine isTrue_or (thn (ha pins s σ H Q I h) fun c s1 e=>?_)
 cases c with
 | false=>exact isTrue_or_nil e
 | true=>exact e
theorem xAjh (ha:PT X a tA) (hb:PW X (.BoolOp .And (b::rest) pos) tB'):PW X (.BoolOp .And (a::b::rest) pos) (tAnd tA tB'):=by
 intro wh pins s σ H Q I h;refine isTrue_and (thn (ha pins s σ H _ I h) fun c s1 ⟨H1,I1,q1⟩=>?_)
 cases c with
 | true=>exact hb wh pins s1 σ H1 Q I1 q1
 | false=>exact ⟨H1,I1,q1⟩
theorem pw_or (ha:PT X a tA) (hb:PW X (.BoolOp .Or (b::rest) pos) tB'):PW X (.BoolOp .Or (a::b::rest) pos) (tOr tA tB'):=by
 intro wh pins s σ H Q I h;refine isTrue_or (thn (ha pins s σ H _ I h) fun c s1 ⟨H1,I1,q1⟩=>?_)
 cases c with
 | true=>exact ⟨H1,I1,q1⟩
 | false=>exact hb wh pins s1 σ H1 Q I1 q1
theorem xAsr (ha:PT X a tA):PT X (.UnaryOp .Not a pos) (tNot tA):=by
 intro pins s σ H Q I h;exact isTrue_not (ha pins s σ H (fun c H1=>Q (!c) H1) I h)
def tAndV (ta tb:TE):TE:=fun σ H Q=>ta σ H fun x H1=>∃ c,x=.bl c/\if c=true then tb σ H1 Q else Q (.bl false) H1
theorem pe_one {op} {t:TE} (h:PE X a t):PE X (.BoolOp op [a] pos) t:=fun pins s σ H Q I hw=>BoolOp_one (h pins s σ H Q I hw)
theorem pe_and (ha:PE X a ta) (hb:PE X (.BoolOp .And (b::rest) pos) tb):PE X (.BoolOp .And (a::b::rest) pos) (tAndV ta tb):=by
 intro pins s σ H Q I h;refine BoolOp_and (thn (ha pins s σ H _ I h) fun v s1 ⟨x,H1,I1,r1,q1⟩=>?_);obtain ⟨c,rfl,q1⟩:=q1;cases r1;refine wpAny_truthy_bool ?_
 cases c with
 | true=>exact hb pins s1 σ H1 Q I1 q1
 | false=>exact ⟨.bl false,H1,I1,rfl,q1⟩
def tIf (t:TT) (ta tb:TE):TE:=fun σ H Q=>t σ H fun c H1=>if c=true then ta σ H1 Q else tb σ H1 Q
theorem xAkf {c:Expr} (hc:PT X c tA) (ha:PE X a ta) (hb:PE X b tb):PE X (.IfExp c a b pos) (tIf tA ta tb):=by
 intro pins s σ H Q I h;refine wpAny_IfExp (thn (hc pins s σ H _ I h) fun d s1 ⟨H1,I1,q1⟩=>?_)
 cases d with
 | true=>exact ha pins s1 σ H1 Q I1 q1
 | false=>exact hb pins s1 σ H1 Q I1 q1
end
def SqL (K:PySem.W.Frag) (H:Hp) (a:Addr) (xs:List V):Prop :=
 Rd H a (.lst xs) ∨
  ∃ (o:Obj) (its:Array Value) (n:Nat),K.lookup a=some o/\o.cls=.type "list" /\ o.dict=none/\o.data=.seq its n/\its.size≤sizeLine/\Vals xs its.toList
def SqT (K:PySem.W.Frag) (H:Hp) (a:Addr) (xs:List V):Prop :=
 Rd H a (.tup xs) ∨
  ∃ (o:Obj) (its:Array Value) (n:Nat),K.lookup a=some o/\o.cls=.type "tuple" /\ o.data=.seq its n/\its.size≤sizeLine/\Vals xs its.toList
def absV:Value->Option V
 | .none=>some .non
 | .bool b=>some (.bl b)
 | .int i _=>some (.int i)
 | .str x _=>some (.str x)
 | .bytes b _=>some (.byt b)
 | .float b _=>some (.flt b)
 | .ref a=>some (.ref a)
 | .type n=>some (.ty n)
 | _=>none
theorem RelV.abs {x:V} {u:Value} (r:RelV x u):absV u=some x:=by
 cases x with
 | non=>cases r;rfl
 | bl _=>cases r;rfl
 | int _=>obtain ⟨t,rfl⟩:=r;rfl
 | str _=>obtain ⟨t,rfl⟩:=r;rfl
 | byt _=>obtain ⟨t,rfl⟩:=r;rfl
 | flt _=>obtain ⟨t,rfl⟩:=r;rfl
 | ref _=>cases r;rfl
 | ty _=>cases r;rfl
theorem RelV.inj {x y:V} {u:Value} (r:RelV x u) (q:RelV y u):x=y:=Option.some.inj (r.abs.symm.trans q.abs)
theorem Vals.inj:∀ {xs ys:List V} {us:List Value},Vals xs us->Vals ys us->xs=ys
 | _,_,_,.nil,.nil=>rfl
 | _,_,_,.cons r t,.cons r' t'=>by rw [r.inj r',Vals.inj t t']
section
variable {X:Cx} {pins:List (Addr×Obj)} {σ:St} {H:Hp} {s:Shared} {a:Addr} {xs ys:List V}
theorem SqL.of {K:PySem.W.Frag} (h:H a=some (.lst xs)):SqL K H a xs:=.inl (.inl h)
theorem SqT.of {K:PySem.W.Frag} (h:H a=some (.tup xs)):SqT K H a xs:=.inl (.inl h)
theorem Inv.list (I:Inv X pins σ H s) (h:SqL X.K H a xs):∃ its:List Value,Vals xs its/\PlainL s.heap a its.toArray/\xs.length≤sizeLine:=by
 rcases h with h | ⟨o,its,n,hk,hc,hd,hs,hz,r⟩
 ·obtain ⟨z,its,n,r,e⟩:=h.ok I.hok
  exact ⟨its,r,⟨_,n,e,rfl,rfl,rfl⟩,z⟩
 ·refine ⟨its.toList,r,⟨o,n,I.kIn a o hk,hc,hd,by simpa using hs⟩,?_⟩
  have e:=r.length
  simp only [Array.length_toList] at e
  omega
theorem Inv.tuple (I:Inv X pins σ H s) (h:SqT X.K H a xs):∃ its:List Value,Vals xs its/\IsTup s.heap a its.toArray/\xs.length≤sizeLine:=by
 rcases h with h | ⟨o,its,n,hk,hc,hs,hz,r⟩
 ·obtain ⟨z,its,r,p⟩:=h.ok I.hok
  exact ⟨its,r,p,z⟩
 ·refine ⟨its.toList,r,⟨o,I.kIn a o hk,hc,n,by simpa using hs⟩,?_⟩
  have e:=r.length
  simp only [Array.length_toList] at e
  omega
theorem Inv.list_inj (I:Inv X pins σ H s) (h:SqL X.K H a xs) (h':SqL X.K H a ys):xs=ys:=by
 obtain ⟨its,r,⟨o,n,e,_,_,d⟩,_⟩:=I.list h;obtain ⟨its',r',⟨o',n',e',_,_,d'⟩,_⟩:=I.list h';rw [e] at e';cases e';rw [d] at d';injection d' with d1 _
 have:its=its':=by simpa using congrArg Array.toList d1
 subst this;exact r.inj r'
end
abbrev Cx.wish (X:Cx) (E:Value->Shared->Prop):Cx:={ X with xe:=E }
abbrev Cx.nox (X:Cx):Cx:=X.wish fun _ _=>False
theorem Cx.Ok.wish {X:Cx} (ok:X.Ok) (E:Value->Shared->Prop):(X.wish E).Ok :=
 ⟨ok.mod,ok.kind,ok.glob,ok.blt,ok.above,ok.inj,ok.has,ok.cab,ok.hd,ok.frames,ok.stk,ok.exf,ok.bs,ok.bsz,ok.noex,ok.exfs,ok.funs,ok.frf⟩
theorem Cx.Ok.unwish {X:Cx} {E:Value->Shared->Prop} (ok:(X.wish E).Ok):X.Ok :=
 ⟨ok.mod,ok.kind,ok.glob,ok.blt,ok.above,ok.inj,ok.has,ok.cab,ok.hd,ok.frames,ok.stk,ok.exf,ok.bs,ok.bsz,ok.noex,ok.exfs,ok.funs,ok.frf⟩
section
variable {X:Cx} {pins:List (Addr×Obj)} {σ:St} {H:Hp} {s:Shared} {E:Value->Shared->Prop}
theorem Inv.wish (I:Inv X pins σ H s) (E:Value->Shared->Prop):Inv (X.wish E) pins σ H s:=⟨I.ok.wish E,I.os,I.bare,I.base,I.loc,I.cell,I.free,I.freeC,I.pin,I.hok,I.len⟩
theorem Inv.unwish (I:Inv (X.wish E) pins σ H s):Inv X pins σ H s:=⟨I.ok.unwish,I.os,I.bare,I.base,I.loc,I.cell,I.free,I.freeC,I.pin,I.hok,I.len⟩
theorem SP.unwish {D:Ends} {f:Flow} {s':Shared} (h:SP (X.wish E) pins D f s'):SP X pins D f s':=by
 cases f with
 | next=>obtain ⟨σ',H',I,q⟩:=h;exact ⟨σ',H',I.unwish,q⟩
 | brk=>obtain ⟨σ',H',I,q⟩:=h;exact ⟨σ',H',I.unwish,q⟩
 | cont=>obtain ⟨σ',H',I,q⟩:=h;exact ⟨σ',H',I.unwish,q⟩
 | ret u=>obtain ⟨v,σ',H',I,r,q⟩:=h;exact ⟨v,σ',H',I.unwish,r,q⟩
theorem PSs.nox {st:List Stmt} {t:TS} (h:PSs X.nox st t):PSs X st t:=fun pins s σ H D I hw =>
 wpAny_mono (h pins s σ H D (I.wish _) hw) (fun _ _ q=>q.unwish) fun _ _ z=>False.elim z
end
section
variable {X:Cx} {st:Stmt} {rest:List Stmt} {t u:TS} {e:Expr} {te:TE} {pos:Pos}
def tNext:TS:=fun D σ H=>D.nx σ H
def tSeq (t u:TS):TS:=fun D σ H=>t { D with nx:=u D } σ H
theorem xAbl:PSs X [] tNext:=fun _ _ σ H _ I h=>wpAny_execs_nil ⟨σ,H,I,h⟩
theorem xAad (h1:PS X st t) (h2:PSs X rest u):PSs X (st::rest) (tSeq t u):=by
 intro pins s σ H D I h;refine wpAny_execs_cons (thn (h1 pins s σ H { D with nx:=u D } I h) fun f s1 q=>?_)
 cases f with
 | next =>
  obtain ⟨σ',H',I',q⟩:=q;exact h2 pins s1 σ' H' D I' q
 | ret v=>exact q
 | brk=>exact q
 | cont=>exact q
theorem xAai (h1:PS X st t):PSs X [st] t:=by
 intro pins s σ H D I h;refine wpAny_execs_cons (thn (h1 pins s σ H D I h) fun f s1 q=>?_)
 cases f with
 | next=>exact wpAny_execs_nil q
 | ret v=>exact q
 | brk=>exact q
 | cont=>exact q
theorem Inv.quiet {pins:List (Addr×Obj)} {σ:St} {H:Hp} {s:Shared} (I:Inv X pins σ H s):interactive X.env=false:=by simp [interactive,I.ok.kind]
def tDrop (te:TE):TS:=fun D σ H=>te σ H fun _ H1=>D.nx σ H1
theorem xAbm (he:PE X e te) (hs:swapsWith e none pos.line X.env=pure false:=by rfl):PS X (.Expr e pos) (tDrop te):=by
 intro pins s σ H D I h;exact wpAny_Expr_any (thn (he pins s σ H _ I h) fun v s1 ⟨x,H1,I1,r1,q1⟩=>⟨σ,H1,I1,q1⟩) I.quiet hs
def tRet (te:TE):TS:=fun D σ H=>te σ H D.rt
theorem xAar (he:PE X e te):PS X (.Return (some e) pos) (tRet te):=by
 intro pins s σ H D I h;exact wpAny_Return_some (thn (he pins s σ H _ I h) fun v s1 ⟨x,H1,I1,r1,q1⟩=>⟨x,σ,H1,I1,r1,q1⟩)
def tIfS (c:TT) (t u:TS):TS:=fun D σ H=>c σ H fun b H1=>if b=true then t D σ H1 else u D σ H1
theorem ps_if {c:Expr} {a b:List Stmt} {tc:TT} (hc:PT X c tc) (ha:PSs X a t) (hb:PSs X b u):PS X (.If c a b pos) (tIfS tc t u):=by
 intro pins s σ H D I h;refine wpAny_If (thn (hc pins s σ H _ I h) fun d s1 ⟨H1,I1,q1⟩=>?_)
 cases d with
 | true=>exact ha pins s1 σ H1 D I1 q1
 | false=>exact hb pins s1 σ H1 D I1 q1
end
abbrev TG:=V->St->Hp->(St->Hp->Prop)->Prop
abbrev TGs:=List V->St->Hp->(St->Hp->Prop)->Prop
def PG (X:Cx) (target:Expr) (t:TG):Prop :=
 ∀ (pins:List (Addr×Obj)) (s:Shared) (σ:St) (H:Hp) (v:V) (u:Value) (Q:St->Hp->Prop),Inv X pins σ H s->RelV v u->t v σ H Q →
  wpAny (model X.prog X.w) X.A (assign target X.env u) (fun _ s'=>∃ σ' H',Inv X pins σ' H' s'/\Q σ' H') X.xe s
def PGs (X:Cx) (ts:List Expr) (t:TGs):Prop :=
 ∀ (pins:List (Addr×Obj)) (s:Shared) (σ:St) (H:Hp) (vs:List V) (us:List Value) (Q:St->Hp->Prop),Inv X pins σ H s->Vals vs us->t vs σ H Q →
  wpAny (model X.prog X.w) X.A (assignInOrder ((assignEach ts X.env).map (·.2)) us) (fun _ s'=>∃ σ' H',Inv X pins σ' H' s'/\Q σ' H') X.xe s
section
variable {X:Cx} {pos:Pos}
def gName (i:Nat):TG:=fun v σ H Q=>Q (σ.set i (some v)) H
theorem xAaq {i:Nat} {x:Str} (hN:X.N.Nodup) (hi:X.N[i]?=some x) (hx:Loc X.env.scope x) (hf:X.fn x=true\/X.env.scope.names.lookup x=some .local:=by first | exact .inl rfl | exact .inr rfl | assumption):PG X (.Name x pos) (gName i):=by
 intro pins s σ H v u Q I r h;exact wpAny_assign_Name (xAke I hN hi hx r (fun s' I'=>⟨_,H,I',h⟩) hf)
def gNil:TGs:=fun vs σ H Q=>vs=[]/\Q σ H
def gCons (t:TG) (u:TGs):TGs:=fun vs σ H Q=>∃ v r,vs=v::r/\t v σ H fun σ' H'=>u r σ' H' Q
theorem xAss:PGs X [] gNil:=by
 intro pins s σ H vs us Q I r h;obtain ⟨e,h⟩:=h;subst e;cases r;exact assignInOrder_nil ⟨σ,H,I,h⟩
theorem xAkg {e:Expr} {es:List Expr} {t:TG} {u:TGs} (h1:PG X e t) (h2:PGs X es u)
  (hs:(assignEach (e::es) X.env).map (·.2)=assign e X.env::(assignEach es X.env).map (·.2):=by rfl):PGs X (e::es) (gCons t u):=by
 intro pins s σ H vs us Q I r h;obtain ⟨v,vr,e1,h⟩:=h;subst e1
 cases r with
 | cons r rr =>
  rw [hs];refine assignInOrder_cons (thn (h1 pins s σ H _ _ _ I r h) fun _ s1 ⟨σ1,H1,I1,q1⟩=>?_);exact h2 pins s1 σ1 H1 _ _ Q I1 rr q1
def gTup (K:PySem.W.Frag) (n:Nat) (t:TGs):TG:=fun v σ H Q=>∃ a xs,v=.ref a/\SqT K H a xs/\xs.length=n/\t xs σ H Q
theorem pg_tup {es:List Expr} {k:Nat} {t:TGs} {n:Nat} (hc:X.calm=true) (h:PGs X es t)
  (hn:(assignEach es X.env).length=n:=by rfl) (hst:(assignEach es X.env).findIdx? (·.1)=none:=by rfl):PG X (.Tuple es k pos) (gTup X.K n t):=by
 intro pins s σ H v u Q I r hw;obtain ⟨a,xs,e1,hq,hl,hw⟩:=hw;subst e1;cases r;obtain ⟨its,rv,ht,hz⟩:=I.tuple hq;refine assign_Tuple_tuple (I.ok.hd hc) ht (by simp [hn,← hl,rv.length]) hst fun h' hx=>?_;have I1:Inv X pins σ H { s with heap:=h' }:=I.kept (t':=s.toks) fun b o e=>hx b o (qu (Heap.lt_size e)) e;exact h pins _ σ H xs _ Q I1 (by simpa using rv) hw
def tAsg (te:TE) (g:TG):TS:=fun D σ H=>te σ H fun x H1=>g x σ H1 D.nx
theorem xAaj {i:Nat} {x:Str} {e:Expr} {te:TE} {pos':Pos} (hN:X.N.Nodup) (hi:X.N[i]?=some x) (hx:Loc X.env.scope x) (he:PE X e te) (hs:swapsWith e (some (.Name x pos')) pos.line X.env=pure false:=by rfl) (hf:X.fn x=true\/X.env.scope.names.lookup x=some .local:=by first | exact .inl rfl | exact .inr rfl | assumption) :
  PS X (.Assign [.Name x pos'] e pos) (tAsg te (gName i)):=by
 intro pins s σ H D I h;refine wpAny_Assign_Name (thn (he pins s σ H _ I h) fun v s1 ⟨y,H1,I1,r1,q1⟩=>?_) hs;exact xAke I1 hN hi hx r1 (fun s2 I2=>⟨_,H1,I2,q1⟩) hf
end
section
variable {X:Cx} {pos:Pos}
def tWhile (c:TT) (tb:TS):TS:=fun D σ H=>∃ W:Nat->St->Hp->Prop,(∃ m,W m σ H)/\∀ m σ H,W m σ H →
 c σ H fun b H1=>if b=true then ∃ N:St->Hp->Prop,(∀ σ' H',N σ' H'->∃ m',m'<m/\W m' σ' H')/\tb { D with nx:=N,ct:=N,bk:=D.nx } σ H1 else D.nx σ H1
theorem xAqp {c:Expr} {body:List Stmt} {tc:TT} {tb:TS} (hp:PassesOwn (model X.prog X.w) X.A X.env X.xe) (hc:PT X c tc) (hb:PSs X body tb):PS X (.While c body [] pos) (tWhile tc tb):=by
 intro pins s σ H D I h;obtain ⟨W,⟨m0,w0⟩,turn⟩:=h;refine wpAny_While (codeAny_whileLoop (fun n s'=>∃ σ' H',Inv X pins σ' H' s'/\W n σ' H') ?_ m0 ⟨σ,H,I,w0⟩);rintro n s1 ⟨σ1,H1,I1,w1⟩;refine wpAny_passesOwn hp (thn (hc pins s1 σ1 H1 _ I1 (turn n σ1 H1 w1)) fun b s2 ⟨H2,I2,q2⟩=>?_)
 cases b with
 | true =>
  obtain ⟨N,hN,q2⟩:=q2;rw [if_pos rfl];refine wpAny_passesOwn hp (thn (hb pins s2 σ1 H2 _ I2 q2) fun f s3 q3=>?_)
  cases f with
  | next =>
   obtain ⟨σ3,H3,I3,n3⟩:=q3;obtain ⟨m',hm,w3⟩:=hN σ3 H3 n3;exact ⟨m',hm,σ3,H3,I3,w3⟩
  | cont =>
   obtain ⟨σ3,H3,I3,n3⟩:=q3;obtain ⟨m',hm,w3⟩:=hN σ3 H3 n3;exact ⟨m',hm,σ3,H3,I3,w3⟩
  | brk=>exact q3
  | ret v=>exact q3
 | false =>
  rw [if_neg zh];exact wpAny_execs_nil ⟨σ1,H2,I2,q2⟩
end
structure It where
 go:Nat->Hp->Prop
 yld:Nat->Hp->V->Hp->Prop
 stop:Nat->Hp->Prop
def FpOk (X:Cx) (pins:List (Addr×Obj)) (H:Hp) (b:Addr):Prop :=
 H b=none/\b≠X.env.locals/\b∉X.fs/\(b∈X.ex\/X.s₀.heap.objs.size≤b)/\(∀ x c,X.env.cells.lookup x=some c->c≠b)/\∀ p∈X.pn++pins,p.1≠b
theorem Inv.fpOk {X:Cx} {pins:List (Addr×Obj)} {σ:St} {H H':Hp} {s:Shared} {b:Addr} (I:Inv X pins σ H s) (hb:s.heap.objs.size≤b) (hn:H' b=none):FpOk X pins H' b:=by
 refine ⟨hn,wx (zn I.lt hb),I.nofs hb,.inr (qh I.sz hb),fun x c e z=>?_,fun p hp z=>?_⟩
 ·obtain ⟨v,q⟩:=I.cell x c e
  exact absurd (zn q.lt (by rw [z];exact hb)) (wg _)
 ·exact absurd (zn (Heap.lt_size (I.pin p hp).1) (by rw [z];exact hb)) (wg _)
structure Turn (P:Program) (w:World) (K:PySem.W.Frag) (tg:Expr) (J:It) (fp:List Addr) (it:Addr) (tn:Nat->Heap->Prop):Prop where
 mem:it∈fp
 obj:∀ i h,tn i h->∀ b∈fp,∃ o,h.get? b=some o/\∀ v,o.data≠.cell v
 keep:∀ i h h',tn i h->(∀ b∈fp,∀ o,h.get? b=some o->h'.get? b=some o)->tn i h'
 item:∀ (X:Cx),X.prog=P->X.w=w->X.K=K->X.calm=true->∀ (i:Nat) (pins:List (Addr×Obj)) (s:Shared) (σ:St) (H:Hp) (E:Value->Shared->Prop),Inv X pins σ H s->(∀ b∈fp,FpOk X pins H b)->tn i s.heap->J.go i H →
  wpAny (model P w) X.A (pyNext (.ref it)) (fun r s1=>∃ u,r=some u ∧
   wpAny (model P w) X.A (letOwnedTupleGo tg (.ref it) u) (fun _ s2=>∃ x H',Inv X pins σ H' s2/\RelV x u/\J.yld i H x H'/\tn (i+1) s2.heap/\∀ b∈fp,H' b=none) E s1) E s
 done:∀ (X:Cx),X.prog=P->X.w=w->X.K=K->X.calm=true->∀ (i:Nat) (pins:List (Addr×Obj)) (s:Shared) (σ:St) (H:Hp) (E:Value->Shared->Prop),Inv X pins σ H s->(∀ b∈fp,FpOk X pins H b)->tn i s.heap->J.stop i H →
  wpAny (model P w) X.A (pyNext (.ref it)) (fun r s1=>r=none/\Inv X pins σ H s1) E s
 self:∀ (A:Around) (i:Nat) (s:Shared) (Q:Value->Shared->Prop) (E:Value->Shared->Prop),tn i s.heap->Q (.ref it) s->wpAny (model P w) A (pyIter (.ref it)) Q E s
abbrev TI:=St->Hp->(It->Hp->Prop)->Prop
def PIE (X:Cx) (pins:List (Addr×Obj)) (σ:St) (tg:Expr) (R:It->Hp->Prop) (itv:Value) (s2:Shared):Prop :=
 ∃ (it:Addr) (fp:List Addr) (tn:Nat->Heap->Prop) (J:It) (H':Hp),itv=.ref it/\Inv X pins σ H' s2/\Turn X.prog X.w X.K tg J fp it tn/\tn 0 s2.heap/\(∀ b∈fp,FpOk X pins H' b)/\R J H'
def PI (X:Cx) (tg iter:Expr) (wi:TI):Prop :=
 ∀ (pins:List (Addr×Obj)) (s:Shared) (σ:St) (H:Hp) (R:It->Hp->Prop),Inv X pins σ H s->wi σ H R →
  wpAny (model X.prog X.w) X.A (eval iter X.env) (fun v s1=>wpAny (model X.prog X.w) X.A (pyIter v) (PIE X pins σ tg R) X.xe s1) X.xe s
theorem go_of {M:Model} {A:Around} {E:Value->Shared->Prop} {s:Shared} {tg:Expr} {it:Addr} {u:Value} {o:Obj} {n:String} {vs:Array Value} {Q:Unit->Shared->Prop} (ho:s.heap.get? it=some o) (hc:o.cls=.type n) (hd:o.data=.fields vs)
  (hn:["enumerate","zip","dict_itemiterator","dict_reverseitemiterator","odict_iterator","itertools.zip_longest","itertools.pairwise"].contains n=false) (hQ:Q () s):wpAny M A (letOwnedTupleGo tg (.ref it) u) Q E s:=by
 unfold letOwnedTupleGo
 cases tg <;> first
  | exact wpAny_pure hQ
  | (cases u <;> first
    | exact wpAny_pure hQ
    | (refine wpAny_bind (wpAny_load ho ?_)
       rw [hc,hd];show wpAny M A (if (["enumerate","zip","dict_itemiterator","dict_reverseitemiterator","odict_iterator","itertools.zip_longest","itertools.pairwise"].contains n&&vs[0]?==some (rawInt _))=true then _ else _) Q E s;rw [if_neg (by intro h;rw [hn,Bool.false_and] at h;cases h)]
       exact wpAny_pure hQ))
def Itl (K:PySem.W.Frag) (a:Addr):It :=
 ⟨fun i H=>∃ xs x,SqL K H a xs/\xs[i]?=some x,fun i H x H'=>H'=H/\∀ xs,SqL K H a xs->xs[i]?=some x,fun i H=>∃ xs,SqL K H a xs/\xs.length≤i⟩
def Itr (lo:Int) (n:Nat):It:=⟨fun i _=>i<n,fun i H x H'=>H'=H/\x=.int (lo+i),fun i _=>n≤i⟩
theorem xAno {P:Program} {w:World} {K:PySem.W.Frag} {tg:Expr} (a it:Addr):Turn P w K tg (Itl K a) [it] it (fun i h=>h.IsListIter it a i) where
 mem:=by simp
 obj:=fun i h st b hb=>by
  have e:b=it:=by simpa using hb
  subst e;obtain ⟨o,e,c,d⟩:=st;exact ⟨o,e,fun v z=>by rw [d] at z;cases z⟩
 keep:=fun i h h' st k=>st.at fun o e=>k it (by simp) o e
 item:=by
  intro X hP hw hK hc i pins s σ H E I hf st hg;subst hP hw hK;obtain ⟨xs,x,hq,hx⟩:=hg;obtain ⟨its,rv,p,hz⟩:=I.list hq;obtain ⟨u,hu,ru⟩:=rv.get hx;obtain ⟨f0,f1,f2,f3,f4,f5⟩:=hf it (by simp);refine wpAny_pyNext_list_item st p.isList (x:=u) (by simpa using hu) fun h' st' sb=>?_;have I1:Inv X pins σ H { s with heap:=h' }:=I.turned (t':=s.toks) (fun b o hb e=>(sb.2 b hb).trans e) f0 f1 f3 f4 f5;obtain ⟨o,e,c,d⟩:=id st';exact ⟨u,rfl,go_of (s:={ s with heap:=h' }) e c d (by decide) ⟨x,H,I1,ru,⟨rfl,fun ys hy=>by rw [I.list_inj hy hq];exact hx⟩,st',fun b hb=>(hf b hb).1⟩⟩
 done:=by
  intro X hP hw hK hc i pins s σ H E I hf st hg;subst hP hw hK;obtain ⟨xs,hq,hx⟩:=hg;obtain ⟨its,rv,p,hz⟩:=I.list hq;obtain ⟨f0,f1,f2,f3,f4,f5⟩:=hf it (by simp);have hl:=rv.length;exact wpAny_pyNext_list_end (I.ok.hd hc) st p.isList (by simp;omega) fun h' eb=>⟨rfl,I.turned (t':=s.toks) (fun b o hb e=>eb b o hb e) f0 f1 f3 f4 f5⟩
 self:=fun _ _ _ _ _ st h=>wpAny_pyIter_listiter st h
theorem xAkh {P:Program} {w:World} {K:PySem.W.Frag} {tg:Expr} (it:Addr) (lo:Int) (n:Nat):Turn P w K tg (Itr lo n) [it] it (fun i h=>IsRangeIter h it (lo+(i:Nat) * 1) ((n:Int) - (i:Nat)) 1) where
 mem:=by simp
 obj:=fun i h st b hb=>by
  have e:b=it:=by simpa using hb
  subst e
  exact ⟨_,st,fun v z=>by
   have z':Data.fields _=Data.cell v:=z
   cases z'⟩
 keep:=fun i h h' st k=>k it (by simp) _ st
 item:=by
  intro X hP hw hK hc i pins s σ H E I hf st hg;subst hP hw hK;obtain ⟨f0,f1,f2,f3,f4,f5⟩:=hf it (by simp);have W:=Walks.range (prog:=X.prog) (w:=X.w) (I.ok.hd hc) it lo 1 n;refine W.item i s _ _ hg st fun v h' tk hv st' kk=>?_;obtain ⟨t,rfl⟩:=hv;have I1:Inv X pins σ H { s with heap:=h',toks:=tk }:=I.turned (fun b o hb e=>kk b o (by simpa using hb) e) f0 f1 f3 f4 f5;refine ⟨_,rfl,go_of (s:={ s with heap:=h',toks:=tk }) (n:="range_iterator") st' rfl rfl (by decide) ⟨.int (lo+i),H,I1,⟨t,?_⟩,⟨rfl,rfl⟩,st',fun b hb=>(hf b hb).1⟩⟩;rw [Int.mul_one]
 done:=by
  intro X hP hw hK hc i pins s σ H E I hf st hg;subst hP hw hK;obtain ⟨f0,f1,f2,f3,f4,f5⟩:=hf it (by simp);exact wpAny_pyNext_range_end (I.ok.hd hc) st (by have:n≤i:=hg;omega) fun h' eb=>⟨rfl,I.turned (t':=s.toks) (fun b o hb e=>eb b o hb e) f0 f1 f3 f4 f5⟩
 self:=fun _ _ _ _ _ st h=>wpAny_pyIter_rangeiter st h
section
variable {X:Cx} {tg:Expr}
def iList (K:PySem.W.Frag) (tl:TE):TI:=fun σ H R=>tl σ H fun x H1=>∃ a,x=.ref a/\(∃ xs,SqL K H1 a xs)/\R (Itl K a) H1
theorem xAav {l:Expr} {tl:TE} (hl:PE X l tl):PI X tg l (iList X.K tl):=by
 intro pins s σ H R I h;refine thn (hl pins s σ H _ I h) fun v s1 ⟨x,H1,I1,r1,q1⟩=>?_;obtain ⟨a,e,⟨xs,hq⟩,q⟩:=q1;subst e;cases r1;obtain ⟨its,rv,p,hz⟩:=I1.list hq;refine wpAny_pyIter_list p.isList ?_;refine ⟨s1.heap.objs.size,[s1.heap.objs.size],_,_,H1,rfl,I1.kept (t':=s1.toks) fun b o e=>Heap.get?_push_of_some _ e,xAno a _,⟨_,Heap.get?_push_size _ rfl,rfl,rfl⟩,fun b hb=>?_,q⟩
 have e:b=s1.heap.objs.size:=by simpa using hb
 subst e;exact I1.fpOk (qg _) (I1.hok.fresh (qg _))
theorem xAki {pins:List (Addr×Obj)} {σ:St} {H:Hp} {s:Shared} {R:It->Hp->Prop} {E:Value->Shared->Prop} {lo hi:Int} {t u v:Tok} {tk:Nat} (I:Inv X pins σ H s) (h1:-(2 ^ 62)≤lo) (h2:lo<2 ^ 62) (h3:-(2 ^ 62)≤hi) (h4:hi<2 ^ 62)
  (q:R (Itr lo (hi - lo).toNat) H):wpAny (model X.prog X.w) X.A (pyIter (.ref s.heap.objs.size)) (PIE X pins σ tg R) E { s with heap:=s.heap.push { cls:=.type "range",data:=.fields #[.int lo t,.int hi u,.int 1 v] },toks:=tk }:=by
 refine wpAny_pyIter_range (IsRange.new ..) (small_one h1 h2 h3 h4) ?_;have I1:Inv X pins σ H { s with heap:=s.heap.push { cls:=.type "range",data:=.fields #[.int lo t,.int hi u,.int 1 v] },toks:=tk }:=I.kept fun b o e=>Heap.get?_push_of_some _ e
 refine ⟨(s.heap.push { cls:=.type "range",data:=.fields #[.int lo t,.int hi u,.int 1 v] }).objs.size,[(s.heap.push { cls:=.type "range",data:=.fields #[.int lo t,.int hi u,.int 1 v] }).objs.size],_,_,H,rfl,
  I1.kept (t':=tk) fun b o e=>Heap.get?_push_of_some _ e,xAkh _ lo (hi - lo).toNat,?_,fun b hb=>?_,q⟩
 ·have e1:lo+((0:Nat):Int) * 1=lo:=by simp
  have e2:(((hi - lo).toNat:Nat):Int) - ((0:Nat):Int)=Builtin.Range.rangeSize lo hi 1:=by rw [rangeSize_one];split <;> omega
  show IsRangeIter _ _ (lo+((0:Nat):Int) * 1) ((((hi - lo).toNat:Nat):Int) - ((0:Nat):Int)) 1;rw [e1,e2];exact Heap.get?_push_size _ rfl
 ·have e:b=(s.heap.push { cls:=.type "range",data:=.fields #[.int lo t,.int hi u,.int 1 v] }).objs.size:=by simpa using hb
  subst e;exact I1.fpOk (qg _) (I1.hok.fresh (qg _))
def iRng1 (ta:TA):TI:=fun σ H R=>ta σ H fun vs H1=>∃ j:Int,vs=[.int j]/\-(2 ^ 62)≤j/\j<2 ^ 62/\R (Itr 0 j.toNat) H1
def iRng2 (ta:TA):TI:=fun σ H R=>ta σ H fun vs H1=>∃ i j:Int,vs=[.int i,.int j]/\(-(2 ^ 62)≤i/\i<2 ^ 62/\-(2 ^ 62)≤j/\j<2 ^ 62)/\R (Itr i (j - i).toNat) H1
theorem xAey {a:Expr} {ta:TA} {p pos:Pos} (hg:Gl X "range") (hm:X.mg "range"=none) (ha:PA X [a] ta) (hs:starEach [a] X.env=[(false,eval a X.env)]:=by rfl):PI X tg (.Call (.Name "range" p) [a] [] pos) (iRng1 ta):=by
 intro pins s σ H R I h;refine Call_ (xAjg I hg hm boot_range (PyProof.Rows.callWith_type1 (thn (ha pos pins s σ H _ I h) fun us s1 ⟨vs,H1,I1,r1,q1⟩=>?_) hs rfl));obtain ⟨j,e,q1,q2,q⟩:=q1;subst e
 cases r1 with
 | cons r rr =>
  cases rr;obtain ⟨t,rfl⟩:=r;exact call_range_1 (xAki I1 (by omega) (by omega) q1 q2 (by simpa using q))
theorem xAnp {a b:Expr} {ta:TA} {p pos:Pos} (hg:Gl X "range") (hm:X.mg "range"=none) (ha:PA X [a,b] ta) (hs:starEach [a,b] X.env=[(false,eval a X.env),(false,eval b X.env)]:=by rfl) (hs2:starEach [b] X.env=[(false,eval b X.env)]:=by rfl) :
  PI X tg (.Call (.Name "range" p) [a,b] [] pos) (iRng2 ta):=by
 intro pins s σ H R I h;refine Call_ (xAjg I hg hm boot_range (PyProof.Rows.callWith_type1 (thn (ha pos pins s σ H _ I h) fun us s1 ⟨vs,H1,I1,r1,q1⟩=>?_) (by rw [hs,hs2]) (by rw [hs2];rfl)));obtain ⟨i,j,e,⟨q1,q2,q3,q4⟩,q⟩:=q1;subst e
 cases r1 with
 | cons r rr =>
  cases rr with
  | cons r' rr =>
   cases rr;obtain ⟨t,rfl⟩:=r;obtain ⟨t',rfl⟩:=r';exact call_range_2 (xAki I1 q1 q2 q3 q4 q)
def tFor (wi:TI) (g:TG) (tb:TS):TS:=fun D σ H=>wi σ H fun J H1=>∃ W:Nat->Nat->St->Hp->Prop,(∃ m,W 0 m σ H1)/\∀ i m σ H,W i m σ H →
 (J.stop i H/\D.nx σ H)\/(J.go i H/\∃ N:St->Hp->Prop,(∀ σ' H',N σ' H'->∃ m',m'<m/\W (i+1) m' σ' H')/\∀ x H',J.yld i H x H'->g x σ H' fun σ2 H2=>tb { D with nx:=N,ct:=N,bk:=D.nx } σ2 H2)
def pinsAt (fp:List Addr) (h:Heap):List (Addr×Obj):=fp.filterMap fun b=>(h.get? b).map fun o=>(b,o)
theorem xAdm {fp:List Addr} {h:Heap} {b:Addr} {o:Obj} (hb:b∈fp) (e:h.get? b=some o):(b,o)∈pinsAt fp h:=yy.mpr ⟨b,hb,by rw [e];rfl⟩
theorem xAhl {fp:List Addr} {h:Heap} {p:Addr×Obj} (hp:p∈pinsAt fp h):p.1∈fp/\h.get? p.1=some p.2:=by
 obtain ⟨b,hb,e⟩:=yy.mp hp
 cases q:h.get? b with
 | none=>rw [q] at e;cases e
 | some o =>
  rw [q] at e;have e':(b,o)=p:=Option.some.inj e;subst e';exact ⟨hb,q⟩
theorem Inv.pinned {pins:List (Addr×Obj)} {σ:St} {H:Hp} {s:Shared} {fp:List Addr} (I:Inv X pins σ H s) (hf:∀ b∈fp,FpOk X pins H b) (ho:∀ b∈fp,∃ o,s.heap.get? b=some o/\∀ v,o.data≠.cell v):Inv X (pins++pinsAt fp s.heap) σ H s :=
 I.pins_of fun p hp=>(qz.mp hp).elim (fun z=>I.pin p (z9 _ z)) fun z=>by
  obtain ⟨hb,e⟩:=xAhl z;obtain ⟨f0,f1,f2,_⟩:=hf p.1 hb;obtain ⟨o,e',d⟩:=ho p.1 hb;rw [e] at e';cases e';exact ⟨e,f0,f1,f2,d⟩
theorem Inv.unpinned {pins pl:List (Addr×Obj)} {σ:St} {H:Hp} {s:Shared} (I:Inv X (pins++pl) σ H s):Inv X pins σ H s:=I.pins_of fun p hp=>I.pin p (z9 _ (yn _ hp))
theorem xAcn {iter:Expr} {body:List Stmt} {wi:TI} {g:TG} {tb:TS} {pos:Pos} (hp:PassesOwn (model X.prog X.w) X.A X.env X.xe) (hc:X.calm=true) (hi:PI X tg iter wi) (hg:PG X tg g) (hb:PSs X body tb)
  (hs:∀ x,foldedSetIterable iter X.env x=pure x:=by intro _;rfl):PS X (.For tg iter body [] pos) (tFor wi g tb):=by
 intro pins s σ H D I h;refine wpAny_For (thn (hi pins s σ H _ I h) fun v s1 h1=>thn h1 fun itv s2 h2=>?_) hs;obtain ⟨it,fp,tn,J,H2,e,I2,T,st2,f2,W,⟨m0,w0⟩,turn⟩:=h2;subst e;have stat:∀ {H':Hp},(∀ b∈fp,H' b=none)->∀ b∈fp,FpOk X pins H' b:=fun hn b hb=>⟨hn b hb,(f2 b hb).2⟩;refine codeAny_forLoop_any (fun n s'=>∃ i σ' H',Inv X pins σ' H' s'/\tn i s'.heap/\(∀ b∈fp,H' b=none)/\W i n σ' H') ?_ m0 ⟨0,σ,H2,I2,st2,fun b hb=>(f2 b hb).1,w0⟩;rintro n s3 ⟨i,σ3,H3,I3,st3,fr3,w3⟩;rcases turn i n σ3 H3 w3 with ⟨stop,qn⟩ | ⟨go,N,hN,step⟩
 ·refine wpAny_passesOwn hp (thn (T.done X rfl rfl rfl hc i pins s3 σ3 H3 X.xe I3 (stat fr3) st3 stop) fun r s4 ⟨hr,I4⟩=>?_)
  subst hr;exact wpAny_execs_nil ⟨σ3,H3,I4,qn⟩
 ·refine wpAny_passesOwn hp (thn (T.item X rfl rfl rfl hc i pins s3 σ3 H3 X.xe I3 (stat fr3) st3 go) fun r s4 ⟨u,hr,h4⟩=>?_)
  subst hr;refine wpAny_passesOwn hp (thn h4 fun _ s5 ⟨x,H5,I5,r5,y5,st5,fr5⟩=>?_);have I5':=I5.pinned (stat fr5) (T.obj _ _ st5);refine wpAny_passesOwn hp (thn (hg _ s5 σ3 H5 x u _ I5' r5 (step x H5 y5)) fun _ s6 ⟨σ6,H6,I6,q6⟩=>?_);refine wpAny_passesOwn hp (thn (hb _ s6 σ6 H6 _ I6 q6) fun f s7 q7=>?_)
  have again:∀ {σ7:St} {H7:Hp},Inv X (pins++pinsAt fp s5.heap) σ7 H7 s7->N σ7 H7->∃ m,m<n/\∃ i σ' H',Inv X pins σ' H' s7/\tn i s7.heap/\(∀ b∈fp,H' b=none)/\W i m σ' H':=fun {σ7 H7} I7 n7=>by
   obtain ⟨m',hm,w7⟩:=hN σ7 H7 n7;refine ⟨m',hm,i+1,σ7,H7,I7.unpinned,T.keep _ _ _ st5 fun b hb o e=>(I7.pin (b,o) (z9 _ (z9 _ (xAdm hb e)))).1,fun b hb=>?_,w7⟩;obtain ⟨o,e,d⟩:=T.obj _ _ st5 b hb;exact (I7.pin (b,o) (z9 _ (z9 _ (xAdm hb e)))).2.1
  cases f with
  | next=>obtain ⟨σ7,H7,I7,n7⟩:=q7;exact again I7 n7
  | cont=>obtain ⟨σ7,H7,I7,n7⟩:=q7;exact again I7 n7
  | brk=>obtain ⟨σ7,H7,I7,q7⟩:=q7;exact ⟨σ7,H7,I7.unpinned,q7⟩
  | ret v=>obtain ⟨x7,σ7,H7,I7,r7,q7⟩:=q7;exact ⟨x7,σ7,H7,I7.unpinned,r7,q7⟩
end
theorem xAbr {K:PySem.W.Frag} {a:Addr} {xs:List V} {g:TG} {tb:TS} {D:Ends} {σ:St} {H:Hp} (Pv:Nat->St->Hp->Prop) (h0:Pv 0 σ H) (hl:∀ i σ H,i≤xs.length->Pv i σ H->SqL K H a xs)
  (hs:∀ i x σ H,xs[i]?=some x->Pv i σ H->g x σ H fun σ2 H2=>tb { D with nx:=Pv (i+1),ct:=Pv (i+1),bk:=D.nx } σ2 H2) (hd:∀ σ H,Pv xs.length σ H->D.nx σ H) :
  ∃ W:Nat->Nat->St->Hp->Prop,(∃ m,W 0 m σ H)/\∀ i m σ H,W i m σ H →
   ((Itl K a).stop i H/\D.nx σ H)\/((Itl K a).go i H/\∃ N:St->Hp->Prop,(∀ σ' H',N σ' H'->∃ m',m'<m/\W (i+1) m' σ' H')/\∀ x H',(Itl K a).yld i H x H'->g x σ H' fun σ2 H2=>tb { D with nx:=N,ct:=N,bk:=D.nx } σ2 H2):=by
 refine ⟨fun i m σ H=>m=xs.length - i/\i≤xs.length/\Pv i σ H,⟨xs.length,by simp,Nat.zero_le _,h0⟩,?_⟩;rintro i m σ H ⟨rfl,hi,p⟩;have q:=hl i σ H hi p
 by_cases hlt:i<xs.length
 ·refine .inr ⟨⟨xs,xs[i],q,by simp [hlt]⟩,Pv (i+1),fun σ' H' p'=>⟨xs.length - (i+1),by omega,rfl,hlt,p'⟩,fun x H' y=>?_⟩
  obtain ⟨e,y⟩:=y;subst e;exact hs i x σ _ (y xs q) p
 ·have e:i=xs.length:=by omega
  subst e;exact .inl ⟨⟨xs,q,qg _⟩,hd σ H p⟩
theorem xAez {lo:Int} {n:Nat} {g:TG} {tb:TS} {D:Ends} {σ:St} {H:Hp} (Pv:Nat->St->Hp->Prop) (h0:Pv 0 σ H)
  (hs:∀ i σ H,i<n->Pv i σ H->g (.int (lo+i)) σ H fun σ2 H2=>tb { D with nx:=Pv (i+1),ct:=Pv (i+1),bk:=D.nx } σ2 H2) (hd:∀ σ H,Pv n σ H->D.nx σ H) :
  ∃ W:Nat->Nat->St->Hp->Prop,(∃ m,W 0 m σ H)/\∀ i m σ H,W i m σ H →
   ((Itr lo n).stop i H/\D.nx σ H)\/((Itr lo n).go i H/\∃ N:St->Hp->Prop,(∀ σ' H',N σ' H'->∃ m',m'<m/\W (i+1) m' σ' H')/\∀ x H',(Itr lo n).yld i H x H'->g x σ H' fun σ2 H2=>tb { D with nx:=N,ct:=N,bk:=D.nx } σ2 H2):=by
 refine ⟨fun i m σ H=>m=n - i/\i≤n/\Pv i σ H,⟨n,by simp,Nat.zero_le _,h0⟩,?_⟩;rintro i m σ H ⟨rfl,hi,p⟩
 by_cases hlt:i<n
 ·refine .inr ⟨hlt,Pv (i+1),fun σ' H' p'=>⟨n - (i+1),by omega,rfl,hlt,p'⟩,fun x H' y=>?_⟩
  obtain ⟨e,y⟩:=y;subst e y;exact hs i σ _ hlt p
 ·have e:i=n:=by omega
  subst e;exact .inl ⟨qg _,hd σ H p⟩
abbrev R2:=V->V->Hp->VK->Prop
def OpR (X:Cx) (f:Value->Value->Sem Value) (r:R2):Prop :=
 ∀ (pins:List (Addr×Obj)) (s:Shared) (σ:St) (H:Hp) (x y:V) (v u:Value) (Q:VK),Inv X pins σ H s->RelV x v->RelV y u->r x y H Q →
  wpAny (model X.prog X.w) X.A (f v u) (EP X pins σ Q) X.xe s
def UnR (X:Cx) (f:Value->Sem Value) (r:V->Hp->VK->Prop):Prop :=
 ∀ (pins:List (Addr×Obj)) (s:Shared) (σ:St) (H:Hp) (x:V) (v:Value) (Q:VK),Inv X pins σ H s->RelV x v->r x H Q →
  wpAny (model X.prog X.w) X.A (f v) (EP X pins σ Q) X.xe s
def CallR (X:Cx) (f:Value) (r:List V->Hp->VK->Prop):Prop :=
 ∀ (pins:List (Addr×Obj)) (s:Shared) (σ:St) (H:Hp) (xs:List V) (us:List Value) (Q:VK),Inv X pins σ H s->Vals xs us->r xs H Q →
  wpAny (model X.prog X.w) X.A (call f us) (EP X pins σ Q) X.xe s
def tOp (r:R2) (ta tb:TE):TE:=fun σ H Q=>ta σ H fun x H1=>tb σ H1 fun y H2=>r x y H2 Q
def tUn (r:V->Hp->VK->Prop) (ta:TE):TE:=fun σ H Q=>ta σ H fun x H1=>r x H1 Q
def rI (C:Int->Int->Prop) (g:Int->Int->V):R2:=fun x y H Q=>∃ i j,x=.int i/\y=.int j/\C i j/\Q (g i j) H
def rI0 (g:Int->Int->V):R2:=fun x y H Q=>∃ i j,x=.int i/\y=.int j/\Q (g i j) H
def rU (g:Int->V):V->Hp->VK->Prop:=fun x H Q=>∃ i,x=.int i/\Q (g i) H
section
variable {X:Cx} {a b c:Expr} {ta tb tc:TE} {pos:Pos}
theorem binT (ha:PE X a ta) (hb:PE X b tb) {pins:List (Addr×Obj)} {s:Shared} {σ:St} {H:Hp} {R:V->V->Hp->Prop} (I:Inv X pins σ H s)
  (h:ta σ H fun x H1=>tb σ H1 fun y H2=>R x y H2) {Q:Value->Shared->Prop} {f:Value->Value->Sem Value}
  (hf:∀ v u s2 x y H2,Inv X pins σ H2 s2->RelV x v->RelV y u->R x y H2->wpAny (model X.prog X.w) X.A (f v u) Q X.xe s2) :
  wpAny (model X.prog X.w) X.A (eval a X.env) (fun v s₁=>wpAny (model X.prog X.w) X.A (eval b X.env) (fun u s₂=>wpAny (model X.prog X.w) X.A (f v u) Q X.xe s₂) X.xe s₁) X.xe s:=by
 refine thn (ha pins s σ H _ I h) fun v s1 ⟨x,H1,I1,r1,q1⟩=>?_;refine thn (hb pins s1 σ H1 _ I1 q1) fun u s2 ⟨y,H2,I2,r2,q2⟩=>?_;exact hf v u s2 x y H2 I2 r1 r2 q2
theorem pe_op {op:Operator} {r:R2} (ho:OpR X (binaryOp op) r) (ha:PE X a ta) (hb:PE X b tb):PE X (.BinOp a op b pos) (tOp r ta tb):=by
 intro pins s σ H Q I h;exact wpAny_BinOp (binT ha hb I h fun v u s2 x y H2 I2 rx ry q=>ho pins s2 σ H2 x y v u Q I2 rx ry q)
theorem pe_un {op:UnaryOp} {r:V->Hp->VK->Prop} (ho:UnR X (unaryOp op) r) (ha:PE X a ta):PE X (.UnaryOp op a pos) (tUn r ta):=by
 intro pins s σ H Q I h;exact UnaryOp_ (thn (ha pins s σ H _ I h) fun v s1 ⟨x,H1,I1,r1,q1⟩=>ho pins s1 σ H1 x v Q I1 r1 q1)
theorem opI {f:Value->Value->Sem Value} {C:Int->Int->Prop} {g:Int->Int->Int}
  (rule:∀ (i j:Int) (t u:Tok) (s:Shared) (Q:Value->Shared->Prop) (E:Value->Shared->Prop),C i j->Q (.int (g i j) s.toks) { s with toks:=s.toks+1 }->wpAny (model X.prog X.w) X.A (f (.int i t) (.int j u)) Q E s) :
  OpR X f (rI C fun i j=>.int (g i j)):=by
 intro pins s σ H x y v u Q I rx ry h;obtain ⟨i,j,rfl,rfl,hc,q⟩:=h;obtain ⟨t,rfl⟩:=rx;obtain ⟨t',rfl⟩:=ry;exact rule i j t t' s _ _ hc ⟨.int (g i j),H,I.tok _,⟨_,rfl⟩,q⟩
theorem opI0 {f:Value->Value->Sem Value} {g:Int->Int->Int}
  (rule:∀ (i j:Int) (t u:Tok) (s:Shared) (Q:Value->Shared->Prop) (E:Value->Shared->Prop),Q (.int (g i j) s.toks) { s with toks:=s.toks+1 }->wpAny (model X.prog X.w) X.A (f (.int i t) (.int j u)) Q E s) :
  OpR X f (rI0 fun i j=>.int (g i j)):=by
 intro pins s σ H x y v u Q I rx ry h;obtain ⟨i,j,rfl,rfl,q⟩:=h;obtain ⟨t,rfl⟩:=rx;obtain ⟨t',rfl⟩:=ry;exact rule i j t t' s _ _ ⟨.int (g i j),H,I.tok _,⟨_,rfl⟩,q⟩
theorem opB0 {f:Value->Value->Sem Value} {g:Int->Int->Bool}
  (rule:∀ (i j:Int) (t u:Tok) (s:Shared) (Q:Value->Shared->Prop) (E:Value->Shared->Prop),Q (.bool (g i j)) s->wpAny (model X.prog X.w) X.A (f (.int i t) (.int j u)) Q E s) :
  OpR X f (rI0 fun i j=>.bl (g i j)):=by
 intro pins s σ H x y v u Q I rx ry h;obtain ⟨i,j,rfl,rfl,q⟩:=h;obtain ⟨t,rfl⟩:=rx;obtain ⟨t',rfl⟩:=ry;exact rule i j t t' s _ _ ⟨.bl (g i j),H,I,rfl,q⟩
def CDiv (i j:Int):Prop:=0<j/\j<1073741824
def CPow (i j:Int):Prop:=0≤j/\j≤1000000/\i.natAbs<2 ^ 64
def CMul (i j:Int):Prop:=(-(2 ^ 64)<i/\i<2 ^ 64)\/(-(2 ^ 64)<j/\j<2 ^ 64)
theorem CMul.ok {i j:Int} (h:CMul i j):IntMulOk i j:=by
 rcases h with ⟨h1,h2⟩ | ⟨h1,h2⟩
 ·exact .of_left (intBits_le_64 h1 h2)
 ·exact .of_right (intBits_le_64 h1 h2)
theorem xAfa:OpR X (binaryOp .Add) (rI0 fun i j=>.int (i+j)):=opI0 fun _ _ _ _ _ _ _ q=>add_int q
theorem op_sub:OpR X (binaryOp .Sub) (rI0 fun i j=>.int (i - j)):=opI0 fun _ _ _ _ _ _ _ q=>sub_int q
theorem xAji:OpR X (binaryOp .Mult) (rI CMul fun i j=>.int (i * j)):=opI fun _ _ _ _ _ _ _ hc q=>mul_int q hc.ok
theorem xAst:OpR X (binaryOp .FloorDiv) (rI CDiv fun i j=>.int (i / j)):=opI fun i j _ _ _ _ _ hc q=>by
 have h1:(0:Int)<j:=hc.1;have h2:j<1073741824:=hc.2;exact floordiv_int (by omega) (by rw [Int.fdiv_eq_ediv_of_nonneg i (by omega)];exact q) (.inl (PyProof.noPylong_small (by omega)))
theorem xAbk:OpR X (binaryOp .Mod) (rI (fun _ j=>0<j) fun i j=>.int (i % j)):=opI fun i j _ _ _ _ _ hc q=>by
 have h1:(0:Int)<j:=hc;exact mod_int' (by omega) (by rw [Int.fmod_eq_emod_of_nonneg i (by omega)];exact q)
theorem op_pow:OpR X (binaryOp .Pow) (rI CPow fun i j=>.int (i ^ j.toNat)):=opI fun _ _ _ _ _ _ _ hc q=>pow_int_small hc.1 hc.2.1 hc.2.2 q
theorem unI {f:Value->Sem Value} {g:Int->Int}
  (rule:∀ (i:Int) (t:Tok) (s:Shared) (Q:Value->Shared->Prop) (E:Value->Shared->Prop),Q (.int (g i) s.toks) { s with toks:=s.toks+1 }->wpAny (model X.prog X.w) X.A (f (.int i t)) Q E s) :
  UnR X f (rU fun i=>.int (g i)):=by
 intro pins s σ H x v Q I rx h;obtain ⟨i,rfl,q⟩:=h;obtain ⟨t,rfl⟩:=rx;exact rule i t s _ _ ⟨.int (g i),H,I.tok _,⟨_,rfl⟩,q⟩
theorem xAqq:UnR X (unaryOp .USub) (rU fun i=>.int (-i)):=unI fun _ _ _ _ _ q=>neg_int q
end
def scal:V->V->Bool
 | .non,.non=>true | .non,.int _=>true | .int _,.non=>true | .non,.bl _=>true | .bl _,.non=>true | .non,.str _=>true | .str _,.non=>true
 | .int _,.int _=>true | .bl _,.bl _=>true | .str _,.str _=>true | .byt _,.byt _=>true
 | .int _,.str _=>true | .str _,.int _=>true | .bl _,.str _=>true | .str _,.bl _=>true
 | _,_=>false
def rEq:R2:=fun x y H Q=>scal x y=true/\Q (.bl (decide (x=y))) H
def rNe:R2:=fun x y H Q=>scal x y=true/\Q (.bl (!decide (x=y))) H
theorem xApd {i j:Int}:decide (V.int i=V.int j)=(i==j):=by
 rw [yg]
 simp
theorem xAsu {i j:Bool}:decide (V.bl i=V.bl j)=(i==j):=by
 rw [yg]
 simp
theorem xApe {i j:Str}:decide (V.str i=V.str j)=(i==j):=by
 rw [yg]
 simp
theorem xApf {i j:Array UInt8}:decide (V.byt i=V.byt j)=(i.toList==j.toList):=by
 rw [yg];cases i;cases j
 simp
section
variable {X:Cx} {a b c:Expr} {ta tb tc:TE} {pos:Pos}
theorem xAaw {pins:List (Addr×Obj)} {σ:St} {H:Hp} {s:Shared} {Q:VK} {k k':Bool} (I:Inv X pins σ H s) (q:Q (.bl k) H) (e:k=k'):EP X pins σ Q (.bool k') s:=by
 subst e;exact ⟨.bl k,H,I,rfl,q⟩
theorem op_eq:OpR X (compareOp .Eq) rEq:=by
 intro pins s σ H x y v u Q I rx ry h;obtain ⟨hs,q⟩:=h
 cases x with
 | non =>
  cases rx
  cases y with
  | non=>cases ry;exact PySem.EqNone.eq_none_none (xAaw I q (by simp))
  | bl j=>cases ry;exact PySem.EqNone.eq_none_bool (xAaw I q (by simp))
  | int j=>obtain ⟨t',rfl⟩:=ry;exact PySem.EqNone.eq_none_int (xAaw I q (by simp))
  | str j=>obtain ⟨t',rfl⟩:=ry;exact PySem.EqNone.eq_none_str (xAaw I q (by simp))
  | _=>exact absurd (show false=true from hs) zh
 | bl i =>
  cases rx
  cases y with
  | non=>cases ry;exact PySem.EqNone.eq_bool_none (xAaw I q (by simp))
  | bl j=>cases ry;exact eq_bool (xAaw I q xAsu)
  | str j=>obtain ⟨t',rfl⟩:=ry;exact PySem.EqMixed.eq_bool_str (xAaw I q (by simp))
  | _=>exact absurd (show false=true from hs) zh
 | int i =>
  obtain ⟨t,rfl⟩:=rx
  cases y with
  | non=>cases ry;exact PySem.EqNone.eq_int_none (xAaw I q (by simp))
  | int j=>obtain ⟨t',rfl⟩:=ry;exact eq_int (xAaw I q xApd)
  | str j=>obtain ⟨t',rfl⟩:=ry;exact PySem.EqMixed.eq_int_str (xAaw I q (by simp))
  | _=>exact absurd (show false=true from hs) zh
 | str i =>
  obtain ⟨t,rfl⟩:=rx
  cases y with
  | non=>cases ry;exact PySem.EqNone.eq_str_none (xAaw I q (by simp))
  | bl j=>cases ry;exact PySem.EqMixed.eq_str_bool (xAaw I q (by simp))
  | int j=>obtain ⟨t',rfl⟩:=ry;exact PySem.EqMixed.eq_str_int (xAaw I q (by simp))
  | str j=>obtain ⟨t',rfl⟩:=ry;exact eq_str (xAaw I q xApe)
  | _=>exact absurd (show false=true from hs) zh
 | byt i =>
  obtain ⟨t,rfl⟩:=rx
  cases y with
  | byt j=>obtain ⟨t',rfl⟩:=ry;exact PySem.W.eq_bytes (xAaw I q xApf)
  | _=>exact absurd (show false=true from hs) zh
 | _=>cases y <;> exact absurd (show false=true from hs) zh
theorem op_ne:OpR X (compareOp .NotEq) rNe:=by
 intro pins s σ H x y v u Q I rx ry h;obtain ⟨hs,q⟩:=h
 cases x with
 | non =>
  cases rx
  cases y with
  | non=>cases ry;exact PySem.EqNone.ne_none_none (xAaw I q (by simp))
  | bl j=>cases ry;exact PySem.EqNone.ne_none_bool (xAaw I q (by simp))
  | int j=>obtain ⟨t',rfl⟩:=ry;exact PySem.EqNone.ne_none_int (xAaw I q (by simp))
  | str j=>obtain ⟨t',rfl⟩:=ry;exact PySem.EqNone.ne_none_str (xAaw I q (by simp))
  | _=>exact absurd (show false=true from hs) zh
 | bl i =>
  cases rx
  cases y with
  | non=>cases ry;exact PySem.EqNone.ne_bool_none (xAaw I q (by simp))
  | bl j=>cases ry;exact ne_bool (xAaw I q (congrArg not xAsu))
  | str j=>obtain ⟨t',rfl⟩:=ry;exact PySem.EqMixed.ne_bool_str (xAaw I q (by simp))
  | _=>exact absurd (show false=true from hs) zh
 | int i =>
  obtain ⟨t,rfl⟩:=rx
  cases y with
  | non=>cases ry;exact PySem.EqNone.ne_int_none (xAaw I q (by simp))
  | int j=>obtain ⟨t',rfl⟩:=ry;exact ne_int (xAaw I q (congrArg not xApd))
  | str j=>obtain ⟨t',rfl⟩:=ry;exact PySem.EqMixed.ne_int_str (xAaw I q (by simp))
  | _=>exact absurd (show false=true from hs) zh
 | str i =>
  obtain ⟨t,rfl⟩:=rx
  cases y with
  | non=>cases ry;exact PySem.EqNone.ne_str_none (xAaw I q (by simp))
  | bl j=>cases ry;exact PySem.EqMixed.ne_str_bool (xAaw I q (by simp))
  | int j=>obtain ⟨t',rfl⟩:=ry;exact PySem.EqMixed.ne_str_int (xAaw I q (by simp))
  | str j=>obtain ⟨t',rfl⟩:=ry;exact ne_str (xAaw I q (congrArg not xApe))
  | _=>exact absurd (show false=true from hs) zh
 | byt i =>
  obtain ⟨t,rfl⟩:=rx
  cases y with
  | byt j=>obtain ⟨t',rfl⟩:=ry;exact PySem.W.ne_bytes (xAaw I q (congrArg not xApf))
  | _=>exact absurd (show false=true from hs) zh
 | _=>cases y <;> exact absurd (show false=true from hs) zh
theorem op_lt:OpR X (compareOp .Lt) (rI0 fun i j=>.bl (decide (i<j))):=opB0 fun _ _ _ _ _ _ _ q=>lt_int q
theorem op_le:OpR X (compareOp .LtE) (rI0 fun i j=>.bl (decide (i≤j))):=opB0 fun _ _ _ _ _ _ _ q=>le_int q
theorem op_gt:OpR X (compareOp .Gt) (rI0 fun i j=>.bl (decide (j<i))):=opB0 fun _ _ _ _ _ _ _ q=>gt_int q
theorem op_ge:OpR X (compareOp .GtE) (rI0 fun i j=>.bl (decide (j≤i))):=opB0 fun _ _ _ _ _ _ _ q=>ge_int q
theorem op_isN:OpR X (compareOp .Is) (fun x y H Q=>y=.non/\Q (.bl (decide (x=.non))) H):=by
 intro pins s σ H x y v u Q I rx ry h;obtain ⟨rfl,q⟩:=h;cases ry;refine is_none_gen (xAaw I q ?_)
 cases x <;> first
  | (cases rx;rfl)
  | (obtain ⟨t,rfl⟩:=rx;rfl)
theorem xAfu:OpR X (compareOp .IsNot) (fun x y H Q=>y=.non/\Q (.bl (!decide (x=.non))) H):=by
 intro pins s σ H x y v u Q I rx ry h;obtain ⟨rfl,q⟩:=h;cases ry;refine isnot_none_gen (xAaw I q ?_)
 cases x <;> first
  | (cases rx;rfl)
  | (obtain ⟨t,rfl⟩:=rx;rfl)
theorem xAat (b:Expr) {op:CmpOp} (h:op≠.In:=by decide) (h2:op≠.NotIn:=by decide):behindInMarks op b=false:=by
 have e1:(op==CmpOp.In)=false:=by cases op <;> first | rfl | exact absurd rfl h
 have e2:(op==CmpOp.NotIn)=false:=by cases op <;> first | rfl | exact absurd rfl h2
 cases b <;> simp [behindInMarks,e1,e2]
theorem xAco {op:CmpOp} {r:R2} (ho:OpR X (compareOp op) r) (ha:PE X a ta) (hb:PE X b tb) (hm:behindInMarks op b=false):PE X (.Compare a [op] [b] pos) (tOp r ta tb):=by
 intro pins s σ H Q I h;exact wpAny_Compare1 (binT ha hb I h fun v u s2 x y H2 I2 rx ry q=>ho pins s2 σ H2 x y v u Q I2 rx ry q) hm
def tTest (t:TE):TT:=fun σ H Q=>t σ H fun x H'=>∃ k,x=.bl k/\Q k H'
theorem xAao {op:CmpOp} {r:R2} (ho:OpR X (compareOp op) r) (ha:PE X a ta) (hb:PE X b tb) (hm:behindInMarks op b=false):PT X (.Compare a [op] [b] pos) (tTest (tOp r ta tb)):=by
 intro pins s σ H Q I h
 refine wpAny_isTrue_Compare1 (thn (ha pins s σ H _ I h) fun v s1 ⟨x,H1,I1,r1,q1⟩=>thn (hb pins s1 σ H1 _ I1 q1) fun u s2 ⟨y,H2,I2,r2,q2⟩ =>
  thn (ho pins s2 σ H2 x y v u _ I2 r1 r2 q2) fun c s3 ⟨z,H3,I3,r3,k,e,q3⟩=>?_) hm
 subst e;cases r3;exact wpAny_truthy_bool ⟨H3,I3,q3⟩
def tChain (r r':R2) (ta tb tc:TE):TE:=fun σ H Q=>ta σ H fun x H1=>tb σ H1 fun y H2=>r x y H2 fun z H3=>∃ k,z=.bl k ∧
 (if k=true then tc σ H3 fun w' H4=>r' y w' H4 Q else Q (.bl false) H3)
theorem xAqr {op op':CmpOp} {r r':R2} (ho:OpR X (compareOp op) r) (ho':OpR X (compareOp op') r') (ha:PE X a ta) (hb:PE X b tb) (hc:PE X c tc)
  (hm:lastMarks [op,op'] [b,c]=false:=by with_unfolding_all rfl):PT X (.Compare a [op,op'] [b,c] pos) (tTest (tChain r r' ta tb tc)):=by
 intro pins s σ H Q I h
 refine isTrue_chain (thn (ha pins s σ H _ I h) fun v s1 ⟨x,H1,I1,r1,q1⟩=>test_link (thn (hb pins s1 σ H1 _ I1 q1) fun u s2 ⟨y,H2,I2,r2,q2⟩ =>
  thn (ho pins s2 σ H2 x y v u _ I2 r1 r2 q2) fun d s3 ⟨z,H3,I3,r3,k,e,q3⟩=>?_)) hm
 subst e;cases r3;refine wpAny_truthy_bool ?_
 cases k with
 | false =>
  obtain ⟨k',e',q'⟩:=q3;cases e';exact ite_ff ⟨H3,I3,q'⟩
 | true =>
  refine ite_tt (test_last (thn (hc pins s3 σ H3 _ I3 q3) fun w' s4 ⟨z',H4,I4,r4,q4⟩=>thn (ho' pins s4 σ H4 y z' u w' _ I4 r2 r4 q4) fun d' s5 ⟨z2,H5,I5,r5,k2,e2,q5⟩=>?_));subst e2;cases r5;exact wpAny_truthy_bool ⟨H5,I5,q5⟩
theorem xAnq:(sizeLine:Nat)<2 ^ 63:=by rw [sizeLine_eq];decide
theorem xAdn:OpR X (binaryOp .Add) (fun x y H Q=>∃ i j,x=.str i/\y=.str j/\i.length+j.length≤sizeLine/\Q (.str (i++j)) H):=by
 intro pins s σ H x y v u Q I rx ry h;obtain ⟨i,j,rfl,rfl,hz,q⟩:=h;obtain ⟨t,rfl⟩:=rx;obtain ⟨t',rfl⟩:=ry;exact add_str (fun t' tk=>⟨.str (i++j),H,I.tok _,⟨_,rfl⟩,q⟩) hz
theorem vals1 {x:V} {us:List Value} (r:Vals [x] us):∃ u,us=[u]/\RelV x u:=by
 cases r with
 | cons r1 r2=>cases r2;exact ⟨_,rfl,r1⟩
theorem vals2 {x y:V} {us:List Value} (r:Vals [x,y] us):∃ u w',us=[u,w']/\RelV x u/\RelV y w':=by
 cases r with
 | cons r1 r2 =>
  cases r2 with
  | cons r3 r4=>cases r4;exact ⟨_,_,rfl,r1,r3⟩
theorem xAnr (hc:X.calm=true):CallR X (.builtin "max") (fun xs H Q=>∃ i j,xs=[.int i,.int j]/\Q (.int (if j>i then j else i)) H):=by
 intro pins s σ H xs us Q I r h;obtain ⟨i,j,rfl,q⟩:=h;obtain ⟨u,w',rfl,⟨t,rfl⟩,⟨t',rfl⟩⟩:=vals2 r;refine max_two_ints (I.ok.hd hc) fun h' tk k=>⟨_,H,I.kept k,?_,q⟩
 by_cases hj:j>i
 ·rw [if_pos hj,if_pos hj];exact ⟨_,rfl⟩
 ·rw [if_neg hj,if_neg hj];exact ⟨_,rfl⟩
theorem xAns (hc:X.calm=true):CallR X (.builtin "min") (fun xs H Q=>∃ i j,xs=[.int i,.int j]/\Q (.int (if j<i then j else i)) H):=by
 intro pins s σ H xs us Q I r h;obtain ⟨i,j,rfl,q⟩:=h;obtain ⟨u,w',rfl,⟨t,rfl⟩,⟨t',rfl⟩⟩:=vals2 r;refine min_two_ints (I.ok.hd hc) fun h' tk k=>⟨_,H,I.kept k,?_,q⟩
 by_cases hj:j<i
 ·rw [if_pos hj,if_pos hj];exact ⟨_,rfl⟩
 ·rw [if_neg hj,if_neg hj];exact ⟨_,rfl⟩
theorem xAfb:CallR X (.type "int") (fun xs H Q=>(∃ i,xs=[.int i]/\Q (.int i) H)\/∃ k,xs=[.bl k]/\Q (.int (if k then 1 else 0)) H):=by
 intro pins s σ H xs us Q I r h;rcases h with ⟨i,rfl,q⟩ | ⟨k,rfl,q⟩
 ·obtain ⟨u,rfl,t,rfl⟩:=vals1 r
  exact call_int_int ⟨.int i,H,I,⟨_,rfl⟩,q⟩
 ·obtain ⟨u,rfl,r1⟩:=vals1 r
  cases r1;exact call_int_bool ⟨.int (if k then 1 else 0),H,I.tok _,⟨_,rfl⟩,q⟩
end
section
variable {prog:Program} {w:World} {A:Around} {E:Value->Shared->Prop} {s:Shared} {K:PySem.W.Frag} {x dx C f:Addr} {mA:Str->Option Value} {name:Str} {v:Value}
end
theorem RelO.some_of {v:V} {o:Option Value} (r:RelO (some v) o):∃ u,o=some u/\RelV v u:=by
 cases o with
 | none=>exact (show False from r).elim
 | some u=>exact ⟨u,rfl,r⟩
section
variable {P:Program} {w:World} {H H':Hp} {h h':Heap} {a C dx:Addr} {fs fs':List (Str×V)}
end
section
variable {X:Cx} {pins:List (Addr×Obj)} {σ:St} {H:Hp} {s:Shared} {a C dx:Addr} {fs:List (Str×V)} {f:Str} {v:V} {A:Around} {E:Value->Shared->Prop}
end
section
variable {X:Cx} {o e value:Expr} {f:Str} {pos pos' tpos:Pos} {ta tv:TE}
end
section
variable {X:Cx} {pins:List (Addr×Obj)} {σ:St} {H:Hp} {s:Shared} {A:Around} {E:Value->Shared->Prop} {Q:Value->Shared->Prop} {c:Value} {b:Bool}
end
structure Room (k:Nat) (A:Around):Prop where
 hd:A.handled=none
 dp:A.depth+3 * k+5<recursionLimit
 un:A.units+16 * k+200<cLine
theorem Room.mono {j k:Nat} {A:Around} (r:Room k A) (h:j≤k):Room j A:=⟨r.hd,by have:=r.dp;omega,by have:=r.un;omega⟩
theorem Room.deeper {k:Nat} {A:Around} (r:Room (k+1) A) (env:Env):Room k (A.deeper env) :=
 ⟨r.hd,by have:=r.dp;show A.depth+1+3 * k+5<_;omega,by have:=r.un;show A.units+3+16 * k+200<_;omega⟩
theorem Room.depth {k:Nat} {A:Around} (r:Room k A):A.depth<recursionLimit:=by have:=r.dp;omega
theorem Room.units {k:Nat} {A:Around} (r:Room k A):A.units+64<cLine:=by have:=r.un;omega
theorem Room.units0 {k:Nat} {A:Around} (r:Room k A):A.units<cLine:=by have:=r.un;omega
def tNil:TA:=fun _ H Q=>Q [] H
def tCons (ta:TE) (tr:TA):TA:=fun σ H Q=>ta σ H fun x H1=>tr σ H1 fun xs H2=>Q (x::xs) H2
section
variable {X:Cx} {e:Expr} {es:List Expr} {te:TE} {t:TA} {pos:Pos}
theorem xAac:PA X [] tNil:=fun _ _ _ _ H Q I h=>Calls.spliced_nil ⟨[],H,I,.nil,h⟩
theorem xAaa (ha:PE X e te) (hr:PA X es t) (hs:starEach (e::es) X.env=(false,eval e X.env)::starEach es X.env:=by rfl):PA X (e::es) (tCons te t):=by
 intro pos pins s σ H Q I h;rw [hs];show wpAny _ _ (spliced ((false,eval e X.env)::backTo pos (starEach es X.env))) _ _ s;refine Calls.spliced_cons (thn (ha pins s σ H _ I h) fun u s1 ⟨x,H1,I1,r1,q1⟩=>?_);exact thn (hr pos pins s1 σ H1 _ I1 q1) fun us s2 ⟨xs,H2,I2,r2,q2⟩=>⟨x::xs,H2,I2,.cons r1 r2,q2⟩
end
abbrev Sp:=List V->Hp->VK->XK->Prop
abbrev CXT:=List Env->Hp->Shared->XK->Value->Shared->Prop
structure Env0 (P:Program) (w:World) (K:PySem.W.Frag) (mg:Str->Option Value) (base:Heap) (A:Around) (outer:List Env) (s:Shared) (H:Hp):Prop where
 frames:A.frames=some outer
 mod:Mod K mg base
 bs:∀ b o,base.get? b=some o->s.heap.get? b=some o/\H b=none
 bsz:base.objs.size≤s.heap.objs.size
 funs:s.heap.FunFrames base outer
 frf:∀ b∈frs outer,H b=none
 hok:HOk P w H s.heap
 bare:AllBare s.gens
def CE (outer:List Env) (P:Program) (w:World) (H:Hp) (s:Shared) (Q:VK) (u:Value) (s':Shared):Prop :=
 ∃ v H',s'.os=s.os/\AllBare s'.gens/\Un (frs outer) [] H H' s.heap s'.heap/\HOk P w H' s'.heap/\RelV v u/\Q v H'
def CR (CX:CXT) (outer:List Env) (P:Program) (w:World) (H:Hp) (s:Shared) (Q:VK) (E:XK) (r:Result) (s':Shared):Prop :=
 match r with
 | .ok (.ret u)=>CE outer P w H s Q u s'
 | .ok _=>False
 | .error e=>CX outer H s E e s'
structure FnOk (P:Program) (w:World) (K:PySem.W.Frag) (mg:Str->Option Value) (base:Heap) (CX:CXT) (k:Nat) (f:Addr) (fd:FuncData) (ps:List Str) (sp:Sp):Prop where
 len:∀ vs H Q E,sp vs H Q E->vs.length=ps.length
 run:∀ (A:Around) (outer:List Env) (s:Shared) (H:Hp) (args:Args) (us:List Value) (vs:List V) (Q:VK) (E:XK),Room k A->Env0 P w K mg base A outer s H->BindsTo s fd args (ps.zip us)->Vals vs us->sp vs H Q E →
  codeAny (model P w) A (.call (.ref f) args) (CR CX outer P w H s Q E) s
section
variable {X:Cx} {pins:List (Addr×Obj)} {σ:St} {H:Hp} {s s':Shared}
theorem Inv.env0 (I:Inv X pins σ H s):Env0 X.prog X.w X.K X.mg X.base X.A X.stack s H :=
 ⟨I.ok.frames,I.ok.mod,I.bs,qh I.ok.bsz I.sz,I.stack,I.stkFree,I.hok,I.bare⟩
theorem Inv.after {Q:VK} {u:Value} (I:Inv X pins σ H s) (h:CE X.stack X.prog X.w H s Q u s'):EP X pins σ Q u s':=by
 obtain ⟨v,H',os,bare,un,hok,r,q⟩:=h;obtain ⟨hh,g,d,t,os'⟩:=s';obtain rfl:os'=s.os:=os;exact ⟨v,H',I.call (h':=hh) (g':=g) (d':=d) (t':=t) (ch:=[]) un hok bare (fun b z=>absurd z (by simp)),r,q⟩
end
def tCall (sp:Sp) (dvs:List V) (E:XK) (t:TA):TE:=fun σ H Q=>t σ H fun vs H1=>sp (vs++dvs) H1 Q E
def Binds (K:PySem.W.Frag) (fd:FuncData) (ps:List Str) (ds:List Value):Prop :=
 ∀ (s:Shared) (us:List Value),K.In s.heap->(us++ds).length=ps.length->BindsTo s fd ⟨us,[]⟩ (ps.zip (us++ds))
theorem Binds.all {K:PySem.W.Frag} {fd:FuncData} {ps:List Str} (h:∀ us:List Value,us.length=ps.length->bindArgs fd ⟨us,[]⟩=pure (ps.zip us)):Binds K fd ps []:=fun s us _ hl=>by
 rw [zy] at hl ⊢;exact .of_eq (h us hl)
def Passes (CX:CXT) (X:Cx) (E:XK):Prop:=∀ (pins:List (Addr×Obj)) (σ:St) (H:Hp) (s:Shared) (e:Value) (s':Shared),Inv X pins σ H s->CX X.stack H s E e s'->X.xe e s'
section
variable {X:Cx} {CX:CXT} {k:Nat} {f C:Addr} {fd:FuncData} {ps:List Str} {sp:Sp} {dvs:List V} {ds:List Value} {E:XK} {x m:Str} {p pos apos:Pos} {e o:Expr} {es:List Expr} {ta:TE} {t:TA}
theorem run_fn {pins:List (Addr×Obj)} {σ:St} {H:Hp} {s:Shared} {Q:VK} {us:List Value} {vs:List V} (F:FnOk X.prog X.w X.K X.mg X.base CX k f fd ps sp) (hr:Room k X.A) (hb:Binds X.K fd ps ds) (hd:Vals dvs ds) (hx:Passes CX X E)
  (I:Inv X pins σ H s) (r:Vals vs us) (h:sp (vs++dvs) H Q E):wpAny (model X.prog X.w) X.A (call (.ref f) us) (EP X pins σ Q) X.xe s:=by
 have r2:Vals (vs++dvs) (us++ds):=r.append hd
 have hl:(us++ds).length=ps.length:=by rw [← r2.length];exact F.len _ _ _ _ h
 refine wpAny_call (codeAny_mono (F.run X.A X.stack s H ⟨us,[]⟩ (us++ds) (vs++dvs) Q E hr I.env0 (hb s us I.kIn hl) r2 h) fun r s' hq=>?_)
 cases r with
 | error e=>exact hx pins σ H s e s' I hq
 | ok fl =>
  cases fl with
  | ret u=>exact I.after hq
  | next=>exact False.elim hq
  | brk=>exact False.elim hq
  | cont=>exact False.elim hq
theorem xAaf (F:FnOk X.prog X.w X.K X.mg X.base CX k f fd ps sp) (hr:Room k X.A) (hg:Gl X x) (hm:X.mg x=some (.ref f)) (hk:PySem.W.keepIn X.K (.ref f)=true) (hb:Binds X.K fd ps ds) (hd:Vals dvs ds) (hx:Passes CX X E)
  (ha:PA X (e::es) t) (hdb:(x==("__debug__":Str))=false:=by decide) (he:starEach (e::es) X.env=(false,eval e X.env)::starEach es X.env:=by rfl) (hpl:(backTo pos (starEach es X.env)).any (·.1)=false:=by rfl) :
  PE X (.Call (.Name x p) (e::es) [] pos) (tCall sp dvs E t):=by
 intro pins s σ H Q I h;refine wpAny_Call_Name_kw (xApc I hg hm ?_ hdb);refine PySem.W.callWith_K (h₀:=X.base) I.ok.mod.kin hk (thn (ha pos pins s σ H _ I h) fun us s1 ⟨vs,H1,I1,r,q⟩=>⟨I1.kIn,?_⟩) he hpl;exact run_fn F hr hb hd hx I1 r q
end
section
variable {X:Cx} {CX:CXT} {k:Nat} {f C:Addr} {fd:FuncData} {ps ks:List Str} {sp:Sp} {E:XK} {x m:Str} {p pos apos kpos:Pos} {e o:Expr} {es:List Expr} {kws:List Keyword} {te ta:TE} {t tk:TA} {nm:Option Str}
variable {g:List Value->List Value->List Value} {gV:List V->List V->List V}
end
structure FnScope (N P:List Str) (sc:Scope):Prop where
 kind:sc.kind=.function
 co:sc.isCoroutine=false
 gen:sc.isGenerator=false
 nd:N.Nodup
 pre:N.take P.length=P
 par:∀ x∈P,sc.names.lookup x=some .local\/sc.names.lookup x=some .cell
 nofree:∀ y∈sc.names,y.2≠.free
theorem xAhm {kindOf:Str->Option NameKind} {x:Str}:∀ {binds:List (Str×Value)} {m:Str->Option Value},(∀ v,(x,v)∉binds)->bindL kindOf binds m x=m x
 | [],_,_=>rfl
 | (n,v)::r,m,h=>by
  unfold bindL;rw [xAhm fun w hw=>h w (qr _ hw)]
  split
  ·have:x≠n:=by rintro rfl;exact h v qp
   simp [this]
  ·rfl
theorem xAhn {kindOf:Str->Option NameKind} {x:Str}:∀ {binds:List (Str×Value)} {m:Str->Option Value},(∀ v,(x,v)∉binds)->bindC kindOf binds m x=m x
 | [],_,_=>rfl
 | (n,v)::r,m,h=>by
  unfold bindC;rw [xAhn fun w hw=>h w (qr _ hw)]
  split
  ·rfl
  ·have:x≠n:=by rintro rfl;exact h v qp
   simp [this]
theorem xAho {kindOf:Str->Option NameKind} {x:Str} {v:Value}:∀ {P:List Str} {vs:List Value} {i:Nat} {m:Str->Option Value},P.Nodup->P[i]?=some x->vs[i]?=some v->kindOf x=some .local →
  bindL kindOf (P.zip vs) m x=some v
 | [],_,_,_,_,h,_,_=>by simp at h
 | _::_,[],_,_,_,_,h,_=>by simp at h
 | p::P,w::vs,0,m,nd,h1,h2,hk=>by
  simp at h1 h2;subst h1;subst h2
  show bindL kindOf ((p,w)::P.zip vs) m p=_;unfold bindL;rw [xAhm fun v hv=>(wu.mp nd).1 (j3 hv).1,if_pos hk]
  simp
 | p::P,w::vs,i+1,m,nd,h1,h2,hk=>by
  show bindL kindOf ((p,w)::P.zip vs) m x=_;unfold bindL;exact xAho (i:=i) (List.nodup_cons.mp nd).2 (by simpa using h1) (by simpa using h2) hk
theorem xAhp {kindOf:Str->Option NameKind} {x:Str} {v:Value}:∀ {P:List Str} {vs:List Value} {i:Nat} {m:Str->Option Value},P.Nodup->P[i]?=some x->vs[i]?=some v->kindOf x≠some .local →
  bindC kindOf (P.zip vs) m x=some v
 | [],_,_,_,_,h,_,_=>by simp at h
 | _::_,[],_,_,_,_,h,_=>by simp at h
 | p::P,w::vs,0,m,nd,h1,h2,hk=>by
  simp at h1 h2;subst h1;subst h2
  show bindC kindOf ((p,w)::P.zip vs) m p=_;unfold bindC;rw [xAhn fun v hv=>(wu.mp nd).1 (j3 hv).1,if_neg hk]
  simp
 | p::P,w::vs,i+1,m,nd,h1,h2,hk=>by
  show bindC kindOf ((p,w)::P.zip vs) m x=_;unfold bindC;exact xAhp (i:=i) (List.nodup_cons.mp nd).2 (by simpa using h1) (by simpa using h2) hk
def start (N:List Str) (vs:List V):St:=vs.map some++List.replicate (N.length - vs.length) none
def cxOf (CX:CXT) (P:Program) (w:World) (K:PySem.W.Frag) (mg:Str->Option Value) (base:Heap) (N:List Str) (qual:Str) (scope:Scope) (f:Addr) (cd:Value) (A:Around) (outer:List Env) (s:Shared) (H:Hp) (E:XK):Cx where
 prog:=P
 w:=w
 K:=K
 mg:=mg
 base:=base
 A:=A.deeper (envOfC qual scope s.heap.objs.size f cd)
 N:=N
 s₀:=s
 H₀:=H
 env:=envOfC qual scope s.heap.objs.size f cd
 outer:=outer
 stack:=envOfC qual scope s.heap.objs.size f cd::outer
 ex:=[]
 calm:=true
 fn:=fun _=>true
 pn:=[]
 xe:=fun e s'=>wpAny (model P w) (A.deeper (envOfC qual scope s.heap.objs.size f cd)) (leaving (envOfC qual scope s.heap.objs.size f cd) e) (fun _ s''=>CX outer H s E e s'') (fun e' s''=>CX outer H s E e' s'') s'
theorem xAbi {sc:Scope} {n:Nat} {x:Str} (h:sc.names.lookup x=some .cell):∃ c,(cellsFrom n sc.names []).lookup x=some c:=by
 have q:=PySem.W.cellsFrom_some sc.names n [] (.inl h);exact j4.mp q
theorem xAnt {CX:CXT} {P:Program} {w:World} {K:PySem.W.Frag} {mg:Str->Option Value} {base:Heap} {N ps:List Str} {qual:Str} {scope:Scope} {f:Addr} {cd:Value} {A:Around} {outer:List Env} {s s1:Shared} {H:Hp} {E:XK} {us:List Value} {vs:List V}
  (S:FnScope N ps scope) (hd:A.handled=none) (e0:Env0 P w K mg base A outer s H) (hl:vs.length=ps.length) (r:Vals vs us)
  (x:InCallC s s.heap.objs.size (bindL (envOfC qual scope s.heap.objs.size f cd).kindOf (ps.zip us) fun _=>none) (cellsFrom (s.heap.objs.size+1) scope.names []) (bindC (envOfC qual scope s.heap.objs.size f cd).kindOf (ps.zip us) fun _=>none) s1) :
  Inv (cxOf CX P w K mg base N qual scope f cd A outer s H E) [] (start N vs) H s1:=by
 have hpl:ps.length≤N.length:=by have:=congrArg List.length S.pre;rw [zt] at this;omega
 obtain ⟨h1,tk,rfl,hk⟩:=x.done
 have noA:∀ b:Addr,b∉(cxOf CX P w K mg base N qual scope f cd A outer s H E).ex:=fun b z=>absurd (show b∈([]:List Addr) from z) (by simp)
 refine ⟨⟨e0.mod,S.kind,rfl,rfl,qg _,fun y z c h1 h2=>?_,fun y hy=>?_,fun y c _ h=>?_,fun _=>hd,Around.frames_deeper e0.frames,.inr ⟨rfl,rfl⟩,fun b z=>absurd z (noA b),e0.bs,e0.bsz,fun b _ _=>noA b,fun b z=>absurd z (noA b),e0.funs,e0.frf⟩,
  rfl,e0.bare,Un.kept hk,⟨_,x.toInCall.ns,fun i y v h1 h2 h3=>?_⟩,fun y c h=>⟨_,x.cell y c h⟩,e0.hok.fresh (Nat.le_refl _),fun y c h=>?_,fun p hp=>absurd (show p∈([]:List (Addr×Obj)) from hp) (by simp),e0.hok.kept hk,?_⟩
 ·exact name_of_addr x.apart (PySem.mem_of_lookup h1) (PySem.mem_of_lookup h2)
 ·have hy:scope.names.lookup y=some .cell\/scope.names.lookup y=some .free:=hy
  rcases hy with hy | hy
  ·exact xAbi hy
  ·exact absurd rfl (S.nofree _ (PySem.mem_of_lookup hy))
 ·exact zv (x.above y c (PySem.mem_of_lookup h))
 ·have hi:i<vs.length:=by
   unfold start at h2
   by_cases hi:i<vs.length
   ·exact hi
   ·rw [List.getElem?_append_right (by simpa using hi)] at h2
    rw [List.getElem?_replicate] at h2
    split at h2 <;> cases h2
  have ha:vs[i]?=some v:=by
   unfold start at h2;rw [List.getElem?_append_left (by simpa using hi),List.getElem?_map] at h2
   cases e:vs[i]? with
   | none=>rw [e] at h2;cases h2
   | some a=>rw [e] at h2;cases h2;rfl
  obtain ⟨u,hu,rv⟩:=r.get ha
  have hp:ps[i]?=some y:=by
   rw [← S.pre,j5 (by omega)];exact h1
  have ndP:ps.Nodup:=by rw [← S.pre];exact S.nd.sublist (j6 _ _)
  refine ⟨u,rv,?_⟩;rcases S.par y (zk hp) with k | k
  ·exact .inl ⟨k,xAho ndP hp hu k⟩
  ·obtain ⟨c,e⟩:=xAbi (n:=s.heap.objs.size+1) k
   refine .inr ⟨.inl k,c,e,?_⟩;have q:=x.cell y c e;rw [xAhp ndP hp hu (by show scope.names.lookup y≠_;rw [k];decide)] at q;exact q
 ·exact e0.hok.fresh (zv (x.above y c (PySem.mem_of_lookup h)))
 ·unfold start
  show _=N.length;rw [qm,qj,jl];omega
theorem fn_of {CX:CXT} {P:Program} {w:World} {K:PySem.W.Frag} {mg:Str->Option Value} {base:Heap} {k:Nat} {f:Addr} {name qual:Str} {params:Arguments} {body:List Stmt} {scope:Scope} {dV kV doc pm cdv ct oc:Value} {an od:Option Addr}
  {osl:Array (Option Value)} {N ps:List Str} {sp:Sp} (lk:K.lookup f=some ⟨oc,od,.func (PySem.W.fnOf name qual params body scope dV kV doc pm an cdv ct),osl⟩) (hcd:PySem.W.codeIn K cdv qual=true) (S:FnScope N ps scope)
  (len:∀ vs H Q E,sp vs H Q E->vs.length=ps.length)
  (hbody:∀ (A:Around) (outer:List Env) (s:Shared) (H:Hp) (vs:List V) (Q:VK) (E:XK),Room k (A.deeper (envOfC qual scope s.heap.objs.size f cdv))->sp vs H Q E →
   ∃ t,PSs (cxOf CX P w K mg base N qual scope f cdv A outer s H E) body t/\t { nx:=fun _ H'=>Q .non H',rt:=Q } (start N vs) H) :
  FnOk P w K mg base CX (k+1) f (PySem.W.fnOf name qual params body scope dV kV doc pm an cdv ct) ps sp:=by
 refine ⟨len,fun A outer s H args us vs Q E hr e0 hb r hsp=>?_⟩;have hl:=len _ _ _ _ hsp;have KX:K.In s.heap:=e0.mod.kin.keeps fun b o e=>(e0.bs b o e).1;have lim:s.heap.NoLimit:=e0.mod.nolimit.keeps fun b o e=>(e0.bs b o e).1
 have hkind:∀ y∈ps.zip us,scope.names.lookup y.1=some .local\/(scope.names.lookup y.1=some .cell/\((cellsFrom (s.heap.objs.size+1) scope.names []).lookup y.1).isSome=true):=fun ⟨n,v⟩ hy=>by
  rcases S.par n (j3 hy).1 with q | q
  ·exact .inl q
  ·exact .inr ⟨q,PySem.W.cellsFrom_some _ _ _ (.inl q)⟩
 refine codeAny_call_function hr.depth (KX _ _ lk) rfl S.co S.gen rfl (PySem.W.codeRec_of KX hcd) (hb _ _ _ _ ?_);refine wpAny_newFunctionEnv_cells S.kind hkind fun env he s1 x=>?_;subst he;refine ⟨lim.keeps x.toInCall.keep,codeAny_func ?_⟩;obtain ⟨t,ht,hq⟩:=hbody A outer s H vs Q E (hr.deeper _) hsp;have I:Inv (cxOf CX P w K mg base N qual scope f cdv A outer s H E) [] (start N vs) H s1:=xAnt S hr.hd e0 hl r x;refine wpAny_mono (ht [] s1 (start N vs) H _ I hq) (fun fl s' hs=>?_) fun e s' hs=>hs
 have fin:∀ {σ':St} {H':Hp} {v:V} {u:Value},Inv (cxOf CX P w K mg base N qual scope f cdv A outer s H E) [] σ' H' s'->RelV v u->Q v H'->CE outer P w H s Q u s' :=
  fun {σ' H' v u} J rv q=>⟨v,H',J.os,J.bare,J.base,J.hok,rv,q⟩
 cases fl with
 | ret u =>
  obtain ⟨v,σ',H',J,rv,q⟩:=hs;exact fin J rv q
 | next =>
  obtain ⟨σ',H',J,q⟩:=hs;exact fin (v:=V.non) (u:=Value.none) J rfl q
 | brk =>
  obtain ⟨_,_,_,q⟩:=hs;exact False.elim q
 | cont =>
  obtain ⟨_,_,_,q⟩:=hs;exact False.elim q
section
variable {X:Cx} {x:Str} {p pos:Pos} {e:Expr} {es:List Expr} {t:TA} {id T:String} {r:List V->Hp->VK->Prop}
def tCB (r:List V->Hp->VK->Prop) (t:TA):TE:=fun σ H Q=>t σ H fun vs H1=>r vs H1 Q
theorem xAay (hc:CallR X (.builtin id) r) (hg:Gl X x) (hm:X.mg x=none) (hv:bootBuiltins x=some (.builtin id)) (ha:PA X (e::es) t) (hn:x≠"__name__":=by decide) (hdb:(x==("__debug__":Str))=false:=by decide)
  (he:starEach (e::es) X.env=(false,eval e X.env)::starEach es X.env:=by rfl) (hpl:(backTo pos (starEach es X.env)).any (·.1)=false:=by rfl):PE X (.Call (.Name x p) (e::es) [] pos) (tCB r t):=by
 intro pins s σ H Q I h;refine wpAny_Call_Name_kw (xAjg I hg hm hv ?_ hn hdb);exact PyProof.Rows.callWith_builtin1 (thn (ha pos pins s σ H _ I h) fun us s1 ⟨vs,H1,I1,r1,q1⟩=>hc pins s1 σ H1 vs us Q I1 r1 q1) he hpl
theorem xAbn (hc:CallR X (.type T) r) (hg:Gl X x) (hm:X.mg x=none) (hv:bootBuiltins x=some (.type T)) (ha:PA X (e::es) t) (hn:x≠"__name__":=by decide) (hdb:(x==("__debug__":Str))=false:=by decide)
  (he:starEach (e::es) X.env=(false,eval e X.env)::starEach es X.env:=by rfl) (hpl:(backTo pos (starEach es X.env)).any (·.1)=false:=by rfl):PE X (.Call (.Name x p) (e::es) [] pos) (tCB r t):=by
 intro pins s σ H Q I h;refine wpAny_Call_Name_kw (xAjg I hg hm hv ?_ hn hdb);exact PyProof.Rows.callWith_type1 (thn (ha pos pins s σ H _ I h) fun us s1 ⟨vs,H1,I1,r1,q1⟩=>hc pins s1 σ H1 vs us Q I1 r1 q1) he hpl
end
end L2
namespace HT
open PySem PyProof.Rows
section
open PySem.SeqAt
open PySem.AutoSeq1 (wpAny_loadPart')
open PySem.MeetsSeq PySem.MeetsSeq2 PySem.MeetsSeq3
end
section
variable {prog:Program} {w:World} {A:Around} {E:Value->Shared->Prop} {s:Shared}
theorem cat_tup {t b:Addr} {vs ws:List Value} {Q:Value->Shared->Prop} (ht:IsTup s.heap t vs.toArray) (hb:IsTup s.heap b ws.toArray) (hv:vs≠[])
  (h1:ws=[]->Q (.ref t) s) (h2:ws≠[]->Q (.ref s.heap.objs.size) { s with heap:=s.heap.push { cls:=.type "tuple",data:=.seq (vs++ws).toArray } })
  (hsz:vs.length+ws.length≤sizeLine):wpAny (model prog w) A (binaryOp .Add (.ref t) (.ref b)) Q E s:=by
 obtain ⟨⟨cls,dd,data,sl⟩,ho,hc,n,hd⟩:=id ht;obtain ⟨⟨cls2,dd2,data2,sl2⟩,ho2,hc2,n2,hd2⟩:=id hb
 simp only at hc hd hc2 hd2
 subst hc hd hc2 hd2
 have e:vs.toArray++ws.toArray=(vs++ws).toArray:=by simp
 by_cases hw:ws=[]
 ·exact concat_meets ⟨_,ho,rfl⟩ ⟨_,ho2,rfl⟩ noFill_tuple_add seq_tuple_add PySem.F.slot_tuple_add PySem.F.entry_tuple_add (PySem.F.args_tuple_add_2 _ _)
   (tuple_addW1 t b vs.toArray ws.toArray n n2 dd dd2 sl sl2 (by simpa using hv) (by simp [hw])) ⟨ho,ho2,h1 hw⟩
 ·refine concat_meets ⟨_,ho,rfl⟩ ⟨_,ho2,rfl⟩ noFill_tuple_add seq_tuple_add PySem.F.slot_tuple_add PySem.F.entry_tuple_add (PySem.F.args_tuple_add_2 _ _)
   (tuple_addW2 t b vs.toArray ws.toArray n n2 dd dd2 sl sl2 (by simpa using hv) (by simpa using hw) (by rw [List.size_toArray,List.size_toArray];exact hsz)) ⟨ho,ho2,?_⟩
  rw [e];exact h2 hw
def sIx (n d:Nat):Option Int->Nat
 | none=>d
 | some v=>if v<0 then (v+(n:Int)).toNat else min v.toNat n
theorem sIx_nat (n d k:Nat):sIx n d (some (k:Int))=min k n:=by
 show (if (k:Int)<0 then ((k:Int)+(n:Int)).toNat else min (k:Int).toNat n)=min k n;rw [if_neg (by omega),Int.toNat_natCast]
theorem sIx_le (n d:Nat) (hd:d≤n) (o:Option Int):sIx n d o≤n:=by
 cases o with
 | none=>exact hd
 | some v =>
  show (if v<0 then (v+(n:Int)).toNat else min v.toNat n)≤n
  by_cases hv:v<0
  ·rw [if_pos hv];omega
  ·rw [if_neg hv];exact Nat.min_le_right _ _
theorem xApg (v:Int) (n d:Nat):(if v<0 then max (v+(n:Int)) 0 else min v (n:Int))=((sIx n d (some v):Nat):Int):=by
 show (if v<0 then max (v+(n:Int)) 0 else min v (n:Int))=(((if v<0 then (v+(n:Int)).toNat else min v.toNat n):Nat):Int)
 by_cases hv:v<0
 ·simp only [if_pos hv];omega
 ·simp only [if_neg hv];omega
theorem xAkj (lo hi:Option Int) (n:Nat):Builtin.Slice.sliceAdjust lo hi 1 (n:Int)=(((sIx n 0 lo:Nat):Int),((sIx n n hi:Nat):Int)):=by
 have h1:¬ ((1:Int)<0):=by omega
 unfold Builtin.Slice.sliceAdjust
 simp only [h1,if_false]
 refine Prod.ext ?_ ?_
 ·cases lo with
  | none=>rfl
  | some v=>exact xApg v n 0
 ·cases hi with
  | none=>rfl
  | some v=>exact xApg v n n
theorem xAkk (i j:Nat):Builtin.Slice.slicePlaces (i:Int) (j:Int) 1=j - i:=by
 unfold Builtin.Slice.slicePlaces
 have h1:(1:Int)>0:=by omega
 simp only [h1,if_true,Int.ediv_one]
 split <;> omega
theorem xAfv {v:Value} {o:Option Int} {Q:Option Int->Shared->Prop} (p:IsPart v o) (h:Q o s):wpAny (model prog w) A (Builtin.Slice.slicePartIndex v) Q E s:=by
 cases p with
 | none=>exact slicePart_none h
 | int i t=>exact slicePart_int h
theorem xAdo {sl:Addr} {vl vu:Value} {lo hi:Option Int} {n:Nat} {Q:Int×Int×Nat->Shared->Prop} (hs:s.heap.IsSliceOf sl vl vu .none) (pl:IsPart vl lo) (pu:IsPart vu hi)
  (h:Q (((sIx n 0 lo:Nat):Int),1,sIx n n hi - sIx n 0 lo) s):wpAny (model prog w) A (Builtin.Slice.sliceApplied (.ref sl) (pure (n:Int))) Q E s:=by
 obtain ⟨os,hos,hcs,hds⟩:=id hs;unfold Builtin.Slice.sliceApplied Builtin.Slice.sliceFields;refine wpAny_bind (wpAny_bind (wpAny_field hos hds (x:=vl) rfl (wpAny_bind (wpAny_field hos hds (x:=vu) rfl (wpAny_bind (wpAny_field hos hds (x:=.none) rfl (wpAny_pure ?_)))))));refine wpAny_bind (slicePart_none ?_);show wpAny _ _ (if ((1:Int)==0)=true then _ else _) _ _ s;rw [if_neg (by decide)];refine wpAny_bind (xAfv pl (wpAny_bind (xAfv pu (wpAny_bind (wpAny_pure ?_)))));show wpAny _ _ (match Builtin.Slice.sliceAdjust lo hi 1 (n:Int) with | (lo,hi)=>pure (lo,(1:Int),Builtin.Slice.slicePlaces lo hi 1)) _ _ s;rw [xAkj lo hi n];show wpAny _ _ (pure (((sIx n 0 lo:Nat):Int),(1:Int),Builtin.Slice.slicePlaces ((sIx n 0 lo:Nat):Int) ((sIx n n hi:Nat):Int) 1)) _ _ s;rw [xAkk];exact wpAny_pure h
theorem xAqs (xs:Array Value) (i k:Nat):((List.range k).filterMap fun (m:Nat)=>xs[((i:Int)+(m:Int) * 1).toNat]?).toArray=((xs.toList.drop i).take k).toArray:=by
 have e:(fun (m:Nat)=>xs[((i:Int)+(m:Int) * 1).toNat]?)=fun m=>xs[i+m]?:=by
  funext m
  have:((i:Int)+(m:Int) * 1).toNat=i+m:=by omega
  rw [this]
 rw [e];have:=pick_run xs i k;rw [List.filterMap_map] at this;have e2:((fun x=>xs[x]?)∘fun x=>i+x)=fun m=>xs[i+m]?:=rfl;rw [e2] at this;rw [this]
theorem getItem_tuple_cut {t sl:Addr} {items:Array Value} {vl vu:Value} {lo hi:Option Int} {Q:Value->Shared->Prop} (ht:IsTup s.heap t items) (hs:s.heap.IsSliceOf sl vl vu .none) (pl:IsPart vl lo) (pu:IsPart vu hi)
  (hw:¬ (sIx items.size 0 lo=0/\sIx items.size items.size hi=items.size))
  (h:Q (.ref s.heap.objs.size) { s with heap:=s.heap.push { cls:=.type "tuple",data:=.seq ((items.toList.drop (sIx items.size 0 lo)).take (sIx items.size items.size hi - sIx items.size 0 lo)).toArray } })
  (hsz:items.size≤sizeLine):wpAny (model prog w) A (getItem (.ref t) (.ref sl)) Q E s:=by
 have htake:sizeOk (.seq ((items.toList.drop (sIx items.size 0 lo)).take (sIx items.size items.size hi - sIx items.size 0 lo)).toArray):=by
  show ((items.toList.drop (sIx items.size 0 lo)).take (sIx items.size items.size hi - sIx items.size 0 lo)).toArray.size≤sizeLine;rw [zd,zt,z5,qy];omega
 have hj:sIx items.size items.size hi≤items.size:=sIx_le _ _ (qg _) hi;obtain ⟨os,hos,hcs,hds⟩:=id hs;have hTs:s.TypeIs (.ref sl) "slice":=⟨os,hos,hcs⟩;unfold getItem
 try with_reducible refine wpAny_holding ?_
 first | refine wpAny_bind (wpAny_pure ?_) | skip
 refine wpAny_bind (wpAny_sequenceKey ht.typeIs (by decide) ?_)
 refine wpAny_bind (wpAny_callSpecial?_slot (name:=Str.ofString "__getitem__") ht.typeIs PyProof.Rows.slot_tuple_getitem
  (wpAny_call_entry PyProof.Rows.slot_tuple_getitem ht.typeIs entry_tuple_getitem ?_ (args_tuple_getitem _ _)))
 show wpAny _ _ (Builtin.Tuple.tupleItemsOf (.ref t) >>= _) _ _ s;refine wpAny_bind (tupleItemsOf_ ht ?_);refine wpAny_bind (wpAny_typeOf hTs ?_);rw [if_pos (by decide)];refine wpAny_bind (xAdo hs pl pu ?_)
 have hno:¬ ((((sIx items.size 0 lo:Nat):Int)==0&&(1:Int)==1&&(sIx items.size items.size hi - sIx items.size 0 lo)==items.size)=true):=by
  intro q;rw [zu,zu] at q;have q1:((sIx items.size 0 lo:Nat):Int)=0:=eq_of_beq q.1.1;have q2:sIx items.size items.size hi - sIx items.size 0 lo=items.size:=eq_of_beq q.2;exact hw ⟨by omega,by omega⟩
 show wpAny _ _ (if (((sIx items.size 0 lo:Nat):Int)==0&&(1:Int)==1&&(sIx items.size items.size hi - sIx items.size 0 lo)==items.size)=true then _ else _) _ _ s;rw [if_neg hno,xAqs]
 first
  | exact wpAny_bind (m:=Builtin.Tuple.tupleExact _) (wpAny_newObj_type (wpAny_pure ⟨_,rfl,wpAny_pure h⟩) htake)
  | exact wpAny_bind (m:=Builtin.Tuple.tupleExact _) (wpAny_newObj_type (wpAny_bind (wpAny_pure (wpAny_pure ⟨_,rfl,wpAny_pure h⟩))) htake)
  | exact wpAny_bind (wpAny_bind (m:=Builtin.Tuple.tupleExact _) (wpAny_newObj_type (wpAny_pure (wpAny_pure ⟨_,rfl,wpAny_pure h⟩)) htake))
  | exact wpAny_bind (wpAny_bind (m:=Builtin.Tuple.tupleExact _) (wpAny_newObj_type (wpAny_pure ⟨_,rfl,wpAny_pure h⟩) htake))
end
end HT
namespace L2
open PySem PySem.Spec PyProof.Rows
abbrev TO:=St->Hp->(Option Int->Hp->Prop)->Prop
def PO (X:Cx) (e:Option Expr) (t:TO):Prop :=
 ∀ (pins:List (Addr×Obj)) (s:Shared) (σ:St) (H:Hp) (Q:Option Int->Hp->Prop),Inv X pins σ H s->t σ H Q →
  wpAny (model X.prog X.w) X.A (evalPart e X.env) (fun u s'=>∃ o H',Inv X pins σ H' s'/\IsPart u o/\Q o H') X.xe s
def tNoPart:TO:=fun _ H Q=>Q none H
def tPart (t:TE):TO:=fun σ H Q=>t σ H fun x H1=>∃ i,x=.int i/\Q (some i) H1
section
variable {X:Cx} {e:Expr} {te:TE} {lo hi:Option Expr} {tl th:TO} {pos p2:Pos}
theorem xAsv:PO X none tNoPart:=by
 intro pins s σ H Q I h;rw [evalPart_none];exact wpAny_pure ⟨none,H,I,.none,h⟩
theorem xAdf (h:PE X e te):PO X (some e) (tPart te):=by
 intro pins s σ H Q I hw;rw [evalPart_some];refine thn (h pins s σ H _ I hw) fun u s1 ⟨x,H1,I1,r1,q1⟩=>?_;obtain ⟨i,rfl,q⟩:=q1;obtain ⟨t,rfl⟩:=r1;exact ⟨some i,H1,I1,.int i t,q⟩
def SlR (X:Cx) (r:V->Option Int->Option Int->Hp->VK->Prop):Prop :=
 ∀ (pins:List (Addr×Obj)) (s:Shared) (σ:St) (H:Hp) (x:V) (v vl vu:Value) (lo hi:Option Int) (sl:Addr) (Q:VK),Inv X pins σ H s->RelV x v->s.heap.IsSliceOf sl vl vu .none->IsPart vl lo->IsPart vu hi->r x lo hi H Q →
  ∃ T id,typeLookup (.type T) "__getitem__"=pure (some (.builtin id))/\s.TypeIs v T/\wpAny (model X.prog X.w) X.A (getItem v (.ref sl)) (EP X pins σ Q) X.xe s
def tSl (r:V->Option Int->Option Int->Hp->VK->Prop) (te:TE) (tl th:TO):TE:=fun σ H Q=>te σ H fun x H1=>tl σ H1 fun l H2=>th σ H2 fun u H3=>r x l u H3 Q
theorem xAgs {r:V->Option Int->Option Int->Hp->VK->Prop} (hr:SlR X r) (he:PE X e te) (hl:PO X lo tl) (hu:PO X hi th):PE X (.Subscript e (.Slice lo hi none p2) pos) (tSl r te tl th):=by
 intro pins s σ H Q I h;refine Subscript_ (thn (he pins s σ H _ I h) fun v s1 ⟨x,H1,I1,r1,q1⟩=>?_);refine wpAny_Slice (thn (hl pins s1 σ H1 _ I1 q1) fun vl s2 ⟨l,H2,I2,pl,q2⟩=>thn (hu pins s2 σ H2 _ I2 q2) fun vu s3 ⟨u,H3,I3,pu,q3⟩=>?_);rw [evalPart_none];refine wpAny_pure ?_;have I4:Inv X pins σ H3 { s3 with heap:=s3.heap.push { cls:=.type "slice",data:=.fields #[vl,vu,.none] } }:=I3.kept (t':=s3.toks) fun b ob q=>Heap.get?_push_of_some _ q;obtain ⟨T,id,hT,ht,hg⟩:=hr pins { s3 with heap:=s3.heap.push { cls:=.type "slice",data:=.fields #[vl,vu,.none] } } σ H3 x v vl vu l u s3.heap.objs.size Q I4 r1 (Heap.IsSliceOf.new ..) pl pu q3;show wpAny (model X.prog X.w) X.A (subscriptTail e (.Slice lo hi none p2) v (.ref s3.heap.objs.size)) (EP X pins σ Q) X.xe { s3 with heap:=s3.heap.push { cls:=.type "slice",data:=.fields #[vl,vu,.none] } };exact tail_any (ops:=[.ref s3.heap.objs.size,v]) ht hT hg (by with_unfolding_all rfl)
def cutV (xs:List V) (lo hi:Option Int):List V:=(xs.drop (HT.sIx xs.length 0 lo)).take (HT.sIx xs.length xs.length hi - HT.sIx xs.length 0 lo)
theorem xAen (xs:List V) (lo hi:Option Int):(cutV xs lo hi).length≤xs.length:=by
 unfold cutV;rw [zt,z5];omega
def rSlT (K:PySem.W.Frag):V->Option Int->Option Int->Hp->VK->Prop:=fun x lo hi H Q=>∃ a xs,x=.ref a/\SqT K H a xs ∧
 ¬ (HT.sIx xs.length 0 lo=0/\HT.sIx xs.length xs.length hi=xs.length)/\∀ p,H p=none->Q (.ref p) (upd H p (.tup (cutV xs lo hi)))
theorem sl_tup:SlR X (rSlT X.K):=by
 intro pins s σ H x v vl vu lo hi sl Q I rx hs pl pu h;obtain ⟨a,xs,rfl,hx,hw,q⟩:=h;cases rx;obtain ⟨its,r,ht,hz⟩:=I.tuple hx
 have hlen:its.toArray.size=xs.length:=by rw [zd];exact r.length.symm
 refine ⟨"tuple",_,PyProof.Rows.slot_tuple_getitem.lookup,ht.typeIs,?_⟩;refine HT.getItem_tuple_cut ht hs pl pu (by rw [hlen];exact hw) ?_ (by rw [hlen];exact hz);rw [hlen];refine ⟨.ref s.heap.objs.size,_,I.laid (t':=s.toks) (o:=.tup (cutV xs lo hi)) (fun b ob q=>Heap.get?_push_of_some _ q) (qg _) ?_,rfl,q _ (I.hok.fresh (qg _))⟩;exact ⟨qh (xAen xs lo hi) hz,_,(r.drop (HT.sIx xs.length 0 lo)).take (HT.sIx xs.length xs.length hi - HT.sIx xs.length 0 lo),IsTup.new _ _⟩
def rCatT (K:PySem.W.Frag):R2:=fun x y H Q=>∃ a b xs ys,x=.ref a/\y=.ref b/\SqT K H a xs/\SqT K H b ys/\xs≠[]/\xs.length+ys.length≤sizeLine ∧
 (ys=[]->Q (.ref a) H)/\(ys≠[]->∀ p,H p=none->Q (.ref p) (upd H p (.tup (xs++ys))))
theorem Vals.nil_iff {xs:List V} {us:List Value} (r:Vals xs us):us=[]↔xs=[]:=by
 cases r with
 | nil=>simp
 | cons _ _=>simp
theorem xAsw:OpR X (binaryOp .Add) (rCatT X.K):=by
 intro pins s σ H x y v u Q I rx ry h;obtain ⟨a,b,xs,ys,rfl,rfl,ha,hb,hx,hz,q1,q2⟩:=h;cases rx;cases ry;obtain ⟨its,r1,p1,_⟩:=I.tuple ha;obtain ⟨its2,r2,p2,_⟩:=I.tuple hb;refine HT.cat_tup p1 p2 (fun z=>hx (r1.nil_iff.mp z)) (fun z=>⟨.ref a,H,I,rfl,q1 (r2.nil_iff.mp z)⟩) (fun z=>?_) (by rw [← r1.length,← r2.length];exact hz);refine ⟨.ref s.heap.objs.size,_,I.laid (t':=s.toks) (o:=.tup (xs++ys)) (fun b ob q=>Heap.get?_push_of_some _ q) (qg _) ?_,rfl,q2 (fun w=>z (r2.nil_iff.mpr w)) _ (I.hok.fresh (qg _))⟩;exact ⟨by rw [qm];exact hz,_,r1.append r2,IsTup.new _ _⟩
end
def ixN (n:Nat) (i:Int):Option Nat:=if 0≤i then (if i<n then some i.toNat else none) else if -(n:Int)≤i then some (i+n).toNat else none
def atI {α:Type} (xs:List α) (i:Int):Option α:=(ixN xs.length i).bind fun j=>xs[j]?
theorem xAsx {n:Nat} {i:Int} {j:Nat} (h:ixN n i=some j):seqIndex? i n=some j/\j<n/\-(n:Int)≤i/\i<n:=by
 unfold ixN at h
 by_cases h0:0≤i
 ·rw [if_pos h0] at h
  by_cases h1:i<n
  ·rw [if_pos h1] at h
   have e:i.toNat=j:=Option.some.inj h;exact ⟨by rw [seqIndex_of h0 h1,e],by omega,by omega,h1⟩
  ·rw [if_neg h1] at h;cases h
 ·rw [if_neg h0] at h
  by_cases h1:-(n:Int)≤i
  ·rw [if_pos h1] at h
   have e:(i+n).toNat=j:=Option.some.inj h;exact ⟨by rw [seqIndex_neg (by omega) h1,e],by omega,h1,by omega⟩
  ·rw [if_neg h1] at h;cases h
theorem xAkl {α:Type} {xs:List α} {i:Int} {v:α} (h:atI xs i=some v):∃ j,seqIndex? i xs.length=some j/\xs[j]?=some v/\j<xs.length/\-(xs.length:Int)≤i/\i<xs.length:=by
 unfold atI at h
 cases e:ixN xs.length i with
 | none=>rw [e] at h;cases h
 | some j =>
  rw [e] at h;obtain ⟨h1,h2,h3,h4⟩:=xAsx e;exact ⟨j,h1,h,h2,h3,h4⟩
theorem xAdp {α:Type} {xs:List α} {j:Nat} {v:α} (h:xs[j]?=some v):atI xs (j:Int)=some v:=by
 have hj:j<xs.length:=(ze.mp h).1
 have e:ixN xs.length (j:Int)=some j:=by
  unfold ixN;rw [if_pos (by omega),if_pos (by omega)];simp
 unfold atI;rw [e];exact h
theorem xAkm {α:Type} (xs:List α) (v:α):atI (xs++[v]) (-1)=some v:=by
 have hl:(xs++[v]).length=xs.length+1:=by simp
 have e:ixN (xs++[v]).length (-1)=some xs.length:=by
  unfold ixN;rw [hl,if_neg (by decide),if_pos (by omega)]
  congr 1
  omega
 unfold atI;rw [e];show (xs++[v])[xs.length]?=some v
 simp
def PlainIx (b:Expr):Prop:=∀ o i,subscripted b false o i=operate [o,i] (getItem o i)
def IxR (X:Cx) (r:R2):Prop :=
 ∀ (value slice:Expr) (pins:List (Addr×Obj)) (s:Shared) (σ:St) (H:Hp) (x y:V) (v u:Value) (Q:VK),Inv X pins σ H s->RelV x v->RelV y u->r x y H Q →
  subscripted slice false v u=operate [v,u] (getItem v u)->wpAny (model X.prog X.w) X.A (subscriptTail value slice v u) (EP X pins σ Q) X.xe s
def MtR (X:Cx) (id:String) (r:V->List V->Hp->VK->Prop):Prop :=
 ∀ (pins:List (Addr×Obj)) (s:Shared) (σ:St) (H:Hp) (x:V) (xs:List V) (v:Value) (us:List Value) (Q:VK),Inv X pins σ H s->RelV x v->Vals xs us->r x xs H Q →
  wpAny (model X.prog X.w) X.A (call (.builtin id) (v::us)) (EP X pins σ Q) X.xe s
section
variable {X:Cx} {a b:Expr} {ta tb:TE} {pos:Pos}
theorem pe_ix {r:R2} (hr:IxR X r) (ha:PE X a ta) (hb:PE X b tb) (hs:PlainIx b):PE X (.Subscript a b pos) (tOp r ta tb):=by
 intro pins s σ H Q I h;exact Subscript_ (binT ha hb I h fun v u s2 x y H2 I2 rx ry q=>hr a b pins s2 σ H2 x y v u Q I2 rx ry q (hs _ _))
def rIxL (K:PySem.W.Frag):R2:=fun x y H Q=>∃ p xs i v,x=.ref p/\y=.int i/\SqL K H p xs/\atI xs i=some v/\Q v H
def rIxT (K:PySem.W.Frag):R2:=fun x y H Q=>∃ p xs i v,x=.ref p/\y=.int i/\SqT K H p xs/\atI xs i=some v/\Q v H
def rIxS:R2:=fun x y H Q=>∃ z i c,x=.str z/\y=.int i/\z.length≤sizeLine/\atI z.cps.toList i=some c/\Q (.str ⟨#[c]⟩) H
theorem xAcb:IxR X (rIxL X.K):=by
 intro value slice pins s σ H x y v u Q I rx ry h hs;obtain ⟨p,xs,i,z,rfl,rfl,hq,he,q⟩:=h;cases rx;obtain ⟨t,rfl⟩:=ry;obtain ⟨its,r,pl,hz⟩:=I.list hq;obtain ⟨j,h1,h2,h3,h4,h5⟩:=xAkl he;obtain ⟨w,ew,rw'⟩:=r.get h2;have hl:=r.length;have hn:=xAnq;have fin:EP X pins σ Q w s:=⟨z,H,I,rw',q⟩
 by_cases h0:0≤i
 ·have hj:i.toNat=j:=by
   rw [seqIndex_of h0 h5] at h1;exact Option.some.inj h1
  exact item_listR pl.isList h0 (by omega) (by rw [hj];simpa using ew) fin hs
 ·have hj:(i+(its.toArray.size:Int)).toNat=j:=by
   rw [seqIndex_neg (by omega) h4] at h1;rw [zd,← hl];exact Option.some.inj h1
  exact subscriptTail_builtinR (x:=w) pl.isList.typeIs slot_list_getitem.lookup
   (wpAny_getItem_list_neg (Q:=fun r s'=>r=w/\EP X pins σ Q r s') pl.isList (by omega) (by rw [List.size_toArray] <;> omega) (by omega) (by rw [hj];simpa using ew) ⟨rfl,fin⟩) hs
theorem xAsy:IxR X (rIxT X.K):=by
 intro value slice pins s σ H x y v u Q I rx ry h hs;obtain ⟨p,xs,i,z,rfl,rfl,hq,he,q⟩:=h;cases rx;obtain ⟨t,rfl⟩:=ry;obtain ⟨its,r,pl,hz⟩:=I.tuple hq;obtain ⟨j,h1,h2,h3,h4,h5⟩:=xAkl he;obtain ⟨w,ew,rw'⟩:=r.get h2;have hl:=r.length;have hn:=xAnq;have fin:EP X pins σ Q w s:=⟨z,H,I,rw',q⟩
 exact subscriptTail_builtinR (x:=w) pl.typeIs slot_tuple_getitem.lookup
  (getItem_tuple (j:=j) (Q:=fun r s'=>r=w/\EP X pins σ Q r s') pl (by omega) (by omega) (by rw [List.size_toArray,← hl];exact h1) (by simpa using ew) ⟨rfl,fin⟩) hs
theorem ix_str:IxR X rIxS:=by
 intro value slice pins s σ H x y v u Q I rx ry h hs;obtain ⟨z,i,c,rfl,rfl,hz,he,q⟩:=h;obtain ⟨t,rfl⟩:=rx;obtain ⟨t',rfl⟩:=ry;obtain ⟨j,h1,h2,h3,h4,h5⟩:=xAkl he
 have hl:z.cps.toList.length=z.length:=by simp [Str.length]
 rw [hl] at h1 h4 h5;have hn:=xAnq
 exact tail_any (typeIs_str s z t) slot_str_getitem.lookup (getItem_str (c:=c) (by
  have e1:decide (i < -(2 ^ 63:Int))=false:=decide_eq_false (by omega);have e2:decide (i≥2 ^ 63)=false:=decide_eq_false (by omega)
  rw [e1,e2,Bool.or_false]) (by rw [h1];simpa using h2) ⟨.str ⟨#[c]⟩,H,I.tok _,⟨_,rfl⟩,q⟩) hs
theorem Inv.lst {pins:List (Addr×Obj)} {σ:St} {H:Hp} {s:Shared} {p:Addr} {xs:List V} (I:Inv X pins σ H s) (h:H p=some (.lst xs)) :
  ∃ (its:List Value) (n:Nat),Vals xs its/\s.heap.get? p=some { cls:=.type "list",data:=.seq its.toArray n }/\xs.length≤sizeLine:=by
 obtain ⟨z,its,n,r,e⟩:=I.hok p _ h;exact ⟨its,n,r,e,z⟩
theorem Inv.lstUpd {pins:List (Addr×Obj)} {σ:St} {H:Hp} {s:Shared} {p:Addr} {xs ys:List V} {its its':List Value} {n n':Nat} {f:Obj->Obj} (I:Inv X pins σ H s) (h:H p=some (.lst xs))
  (ho:s.heap.get? p=some { cls:=.type "list",data:=.seq its.toArray n }) (hf:f { cls:=.type "list",data:=.seq its.toArray n }={ cls:=.type "list",data:=.seq its'.toArray n' }) (r:Vals ys its') (hz:ys.length≤sizeLine) (t:Nat) :
  Inv X pins σ (upd H p (.lst ys)) { s with heap:=s.heap.update p f,toks:=t }:=by
 have e:(s.heap.update p f).get? p=some { cls:=.type "list",data:=.seq its'.toArray n' }:=by
  rw [Heap.get?_update_self f ho (by rw [hf] <;> rfl),hf]
 refine I.write (x:=p) (e:=p) (by rw [h];trivial) (.inl rfl) (fun b u hb q=>(Heap.get?_update_other _ _ (Ne.symm hb)).trans q) ⟨_,e⟩ ?_;exact ⟨hz,its',n',r,e⟩
theorem xAgt (lo hi:Option Int) (n:Nat):(sliceBounds lo hi none n).1=((HT.sIx n 0 lo:Nat):Int)/\(sliceBounds lo hi none n).2.1=((HT.sIx n n hi:Nat):Int)/\(sliceBounds lo hi none n).2.2=1:=by
 refine ⟨?_,?_,rfl⟩
 ·cases lo with
  | none=>simp [sliceBounds,HT.sIx]
  | some i =>
   simp only [sliceBounds,HT.sIx,Option.getD_none,show (1:Int)>0 by decide,if_true]
   by_cases h:i<0
   ·simp only [h,if_true] <;> omega
   ·simp only [h,if_false] <;> omega
 ·cases hi with
  | none=>simp [sliceBounds,HT.sIx]
  | some i =>
   simp only [sliceBounds,HT.sIx,Option.getD_none,show (1:Int)>0 by decide,if_true]
   by_cases h:i<0
   ·simp only [h,if_true] <;> omega
   ·simp only [h,if_false] <;> omega
theorem xAfw (its:List Value) (lo hi:Option Int):slicePick its.toArray lo hi none=((its.drop (HT.sIx its.length 0 lo)).take (HT.sIx its.length its.length hi - HT.sIx its.length 0 lo)).toArray:=by
 obtain ⟨h1,h2,h3⟩:=xAgt lo hi its.toArray.size;unfold slicePick;rw [h1,h2,h3]
 simp only [sliceRange_one,pick_run,List.size_toArray] <;> rfl
def rSlL (K:PySem.W.Frag):V->Option Int->Option Int->Hp->VK->Prop:=fun x lo hi H Q=>∃ a xs,x=.ref a/\SqL K H a xs/\∀ p,H p=none->Q (.ref p) (upd H p (.lst (cutV xs lo hi)))
theorem xAsz:SlR X (rSlL X.K):=by
 intro pins s σ H x v vl vu lo hi sl Q I rx hs pl pu h;obtain ⟨a,xs,rfl,hx,q⟩:=h;cases rx;obtain ⟨its,r,ht,hz⟩:=I.list hx;have hlen:=r.length;refine ⟨"list",_,slot_list_getitem.lookup,ht.isList.typeIs,?_⟩;refine wpAny_getItem_list_slice ht.isList hs pl pu .none (by simp) ?_ (by rw [List.size_toArray] <;> omega);rw [xAfw,← hlen];refine ⟨.ref s.heap.objs.size,_,I.laid (t':=s.toks) (o:=.lst (cutV xs lo hi)) (fun b ob q=>Heap.get?_push_of_some _ q) (qg _) ?_,rfl,q _ (I.hok.fresh (qg _))⟩;exact ⟨qh (xAen xs lo hi) hz,_,0,(r.drop (HT.sIx xs.length 0 lo)).take (HT.sIx xs.length xs.length hi - HT.sIx xs.length 0 lo),Heap.get?_push_size _ rfl⟩
theorem xAbc:CallR X (.builtin "len") (fun xs H Q=>∃ p ys,xs=[.ref p]/\(SqL X.K H p ys\/SqT X.K H p ys)/\Q (.int ys.length) H):=by
 intro pins s σ H xs us Q I r h;obtain ⟨p,ys,rfl,hq,q⟩:=h;obtain ⟨u,rfl,rx⟩:=vals1 r;cases rx;have hn:=xAnq;rcases hq with hq | hq
 ·obtain ⟨its,r',pl,hz⟩:=I.list hq
  have hlen:=r'.length;exact Calls.call_len_list pl.isList (by simp only [List.size_toArray] <;> omega) ⟨.int ys.length,H,I.tok _,⟨s.toks+1,by rw [List.size_toArray,hlen]⟩,q⟩
 ·obtain ⟨its,r',pl,hz⟩:=I.tuple hq
  have hlen:=r'.length;exact len_tuple pl (by simp only [List.size_toArray] <;> omega) ⟨.int ys.length,H,I.tok _,⟨s.toks+1,by rw [List.size_toArray,hlen]⟩,q⟩
theorem xAgu:CallR X (.type "list") (fun xs H Q=>∃ p ys,xs=[.ref p]/\(SqL X.K H p ys\/SqT X.K H p ys)/\∀ l,H l=none->Q (.ref l) (upd H l (.lst ys))):=by
 intro pins s σ H xs us Q I r h;obtain ⟨p,ys,rfl,hq,q⟩:=h;obtain ⟨u,rfl,rx⟩:=vals1 r;cases rx
 have fin:∀ (its:List Value),Vals ys its->ys.length≤sizeLine->∀ (h':Heap) (c':Nat),(∀ b o',s.heap.get? b=some o'->h'.get? b=some o') →
   h'.get? s.heap.objs.size=some { cls:=.type "list",dict:=none,data:=.seq its.toArray c',slots:=#[] }->EP X pins σ Q (.ref s.heap.objs.size) { s with heap:=h' }:=fun its r' hz h' c' kp e =>
  ⟨.ref s.heap.objs.size,_,I.laid (t':=s.toks) kp (qg _) (show ObjOk X.prog X.w _ h' _ (.lst ys) from ⟨hz,its,c',r',e⟩),rfl,q _ (I.hok.fresh (qg _))⟩
 rcases hq with hq | hq
 ·obtain ⟨its,r',pl,hz⟩:=I.list hq
  have hlen:=r'.length;obtain ⟨o,ho,hc,n,hd⟩:=pl.isList;exact call_list_seq p (.inl rfl) ho hc hd (fun h' c' kp e=>fin its r' hz h' c' kp e) (by simp only [List.size_toArray] <;> omega)
 ·obtain ⟨its,r',pl,hz⟩:=I.tuple hq
  have hlen:=r'.length;obtain ⟨o,ho,hc,n,hd⟩:=pl;exact call_list_seq p (.inr rfl) ho hc hd (fun h' c' kp e=>fin its r' hz h' c' kp e) (by simp only [List.size_toArray] <;> omega)
def tyV (K:PySem.W.Frag) (T:String) (x:V) (H:Hp):Prop:=match x with
 | .str _=>T = "str"
 | .int _=>T = "int"
 | .ref p=>(T = "list" /\ ∃ xs,SqL K H p xs)\/(T = "tuple" /\ ∃ o,K.lookup p=some o/\o.cls=.type "tuple" /\ o.dict=none) ∨
   (T = "dict" /\ ((∃ kvs,H p=some (.dK kvs))\/(∃ kvs,H p=some (.dT kvs))\/∃ kvs,H p=some (.dG kvs)))\/(T = "set" /\ ∃ S n,H p=some (.set S n))
 | _=>False
theorem xAta {pins:List (Addr×Obj)} {σ:St} {H:Hp} {s:Shared} {T:String} {x:V} {v:Value} (I:Inv X pins σ H s) (r:RelV x v) (ty:tyV X.K T x H) :
  s.TypeIs v T/\∀ a,v=.ref a->∃ ob,s.heap.get? a=some ob/\ob.dict=none:=by
 cases x with
 | str z =>
  obtain ⟨t,rfl⟩:=r;cases (show T = "str" from ty);exact ⟨typeIs_str s z t,fun _ e=>nomatch e⟩
 | int i =>
  obtain ⟨t,rfl⟩:=r;cases (show T = "int" from ty);exact ⟨typeIs_int s i t,fun _ e=>nomatch e⟩
 | ref p =>
  cases r;rcases ty with ⟨rfl,xs,hq⟩ | ⟨rfl,o,hk,hc,hd⟩ | ⟨rfl,hk⟩ | ⟨rfl,S,n,hk⟩
  ·obtain ⟨its,_,pl,_⟩:=I.list hq
   refine ⟨pl.isList.typeIs,fun a e=>?_⟩;cases e;obtain ⟨o,n,e,c,hd,_⟩:=pl;exact ⟨o,e,hd⟩
  ·refine ⟨⟨o,I.kIn p o hk,hc⟩,fun a e=>?_⟩
   cases e;exact ⟨o,I.kIn _ o hk,hd⟩
  ·have z:∃ o,s.heap.get? p=some o/\o.ExactDict:=by
    rcases hk with ⟨kvs,hk⟩ | ⟨kvs,hk⟩ | ⟨kvs,hk⟩
    ·obtain ⟨_,_,_,_,o,_,_,e,ex,_⟩:=I.hok p _ hk
     exact ⟨o,e,ex⟩
    ·obtain ⟨_,_,_,_,o,_,_,e,ex,_⟩:=I.hok p _ hk
     exact ⟨o,e,ex⟩
    ·obtain ⟨_,_,_,_,o,_,_,e,ex,_⟩:=I.hok p _ hk
     exact ⟨o,e,ex⟩
   obtain ⟨o,e,ex⟩:=z;refine ⟨⟨o,e,ex.1⟩,fun a e2=>?_⟩;cases e2;exact ⟨o,e,ex.2.1⟩
  ·obtain ⟨o,_,_,_,e,ex,_⟩:=I.hok p _ hk
   refine ⟨⟨o,e,ex.1⟩,fun a e2=>?_⟩;cases e2;exact ⟨o,e,ex.2.1⟩
 | _=>exact False.elim ty
def tBM0 (K:PySem.W.Frag) (T:String) (r:V->List V->Hp->VK->Prop) (to:TE):TE:=fun σ H Q=>to σ H fun x H1=>tyV K T x H1/\r x [] H1 Q
def tBM (K:PySem.W.Frag) (T:String) (r:V->List V->Hp->VK->Prop) (to:TE) (t:TA):TE:=fun σ H Q=>to σ H fun x H1=>tyV K T x H1/\t σ H1 fun xs H2=>r x xs H2 Q
variable {o e:Expr} {es:List Expr} {to:TE} {t:TA} {name:Str} {apos cpos:Pos} {T id:String} {r:V->List V->Hp->VK->Prop}
theorem xAtb (pa:PlainAttrs T) (slot:Slot T name id) (hty:typeOf (.builtin id)=pure (.type "method_descriptor")) (hm:MtR X id r) (ho:PE X o to)
  (hbase:attributeBase o name X.env (eval o X.env)=eval o X.env:=by rfl) (hline:(apos.endLine==cpos.line)=true:=by rfl):PE X (.Call (.Attribute o name apos) [] [] cpos) (tBM0 X.K T r to):=by
 intro pins s σ H Q I h;refine wpAny_Call_method0_late hbase hline (thn (ho pins s σ H _ I h) fun v s1 ⟨x,H1,I1,r1,ty,q1⟩=>?_);obtain ⟨h1,h2⟩:=xAta I1 r1 ty;exact ⟨T,id,pa,slot,hty,h1,h2,Calls.callWith_builtin rfl (PySem.evalArgs_none (hm pins s1 σ H1 x [] v [] Q I1 r1 .nil q1))⟩
theorem pe_bm (pa:PlainAttrs T) (slot:Slot T name id) (hty:typeOf (.builtin id)=pure (.type "method_descriptor")) (hm:MtR X id r) (ho:PE X o to) (ha:PA X (e::es) t)
  (hbase:attributeBase o name X.env (eval o X.env)=eval o X.env:=by rfl)
  (hfew:((backTo cpos (starEach (e::es) X.env)).all (fun x=>!x.1)&&(backToKw cpos (keywordEach [] X.env)).all (fun x=>x.1.isSome)
   && decide ((e::es).length+([]:List Keyword).length+(if ([]:List Keyword).isEmpty then 0 else 1)<30))=true:=by rfl)
  (hline:(apos.endLine==cpos.line)=true:=by rfl) (hs:starEach (e::es) X.env=(false,eval e X.env)::starEach es X.env:=by rfl) (hplain:(backTo cpos (starEach es X.env)).any (·.1)=false:=by rfl) :
  PE X (.Call (.Attribute o name apos) (e::es) [] cpos) (tBM X.K T r to t):=by
 intro pins s σ H Q I h;refine wpAny_Call_method_late hbase hfew hline rfl (thn (ho pins s σ H _ I h) fun v s1 ⟨x,H1,I1,r1,ty,q1⟩=>?_);obtain ⟨h1,h2⟩:=xAta I1 r1 ty;refine ⟨T,id,pa,slot,hty,h1,h2,?_⟩;have hA:=ha cpos pins s1 σ H1 _ I1 q1;rw [hs] at hA ⊢;refine Calls.callWith_builtin (by show (false||(backTo cpos (starEach es X.env)).any (·.1))=false;rw [hplain] <;> rfl) (Calls.evalArgs_plain ?_);exact thn hA fun us s2 ⟨vs,H2,I2,r2,q2⟩=>hm pins s2 σ H2 x vs v us Q I2 r1 r2 q2
end
def MtM (X:Cx) (id:String) (r:V->List V->Hp->VK->Prop):Prop :=
 ∀ (pins:List (Addr×Obj)) (s:Shared) (σ:St) (H:Hp) (x:V) (xs:List V) (v:Value) (us:List Value) (Q:VK),Inv X pins σ H s->RelV x v->Vals xs us->r x xs H Q →
  wpAny (model X.prog X.w) X.A (call (.builtin id) (v::us)) (EP X pins σ Q) X.xe s
theorem Vals.tl {x:V} {xs:List V} {us:List Value} (h:Vals (x::xs) us):∃ u vs,us=u::vs/\RelV x u/\Vals xs vs:=by
 cases h with
 | cons r t=>exact ⟨_,_,rfl,r,t⟩
theorem Vals.one:∀ {x:V} {us:List Value},Vals [x] us->∃ u,us=[u]/\RelV x u:=by
 intro x us h
 cases h with
 | cons r t=>cases t;exact ⟨_,rfl,r⟩
theorem Vals.two:∀ {x y:V} {us:List Value},Vals [x,y] us->∃ u v,us=[u,v]/\RelV x u/\RelV y v:=by
 intro x y us h;obtain ⟨u,vs,rfl,r,t⟩:=Vals.tl h;obtain ⟨v,rfl,q⟩:=Vals.one t;exact ⟨u,v,rfl,r,q⟩
theorem Vals.zero:∀ {us:List Value},Vals [] us->us=[]
 | _,.nil=>rfl
theorem Vals.dropLast {xs:List V} {us:List Value} (h:Vals xs us):Vals xs.dropLast us.dropLast:=by
 induction h with
 | nil=>exact .nil
 | cons r t ih =>
  cases t with
  | nil=>exact .nil
  | cons q t'=>exact .cons r ih
theorem Vals.rep {xs:List V} {us:List Value} (h:Vals xs us):∀ k:Nat,Vals (List.replicate k xs).flatten (List.replicate k us).flatten
 | 0=>.nil
 | k+1=>by
  rw [yo,yo,vd,vd];exact Vals.append h (Vals.rep h k)
theorem xAkn {α:Type} (l:List α):l.eraseIdx (l.length - 1)=l.dropLast:=by
 induction l with
 | nil=>rfl
 | cons a r ih =>
  cases r with
  | nil=>rfl
  | cons b r =>
   have e:(a::b::r).length - 1=((b::r).length - 1)+1:=by
    have h1:(a::b::r).length=r.length+2:=rfl;have h2:(b::r).length=r.length+1:=rfl;omega
   rw [e,List.eraseIdx_cons_succ,ih]
   all_goals rfl
theorem xAhq (its:List Value):∀ (k:Nat) (acc:List Value),
  List.foldl (fun x1 x2=>x1++x2) acc.toArray (List.replicate k its.toArray)=(acc++(List.replicate k its).flatten).toArray
 | 0,acc=>by simp
 | k+1,acc=>by
  have e:acc.toArray++its.toArray=(acc++its).toArray:=by simp
  have e2:(acc++its)++(List.replicate k its).flatten=acc++(List.replicate (k+1) its).flatten:=by
   rw [yo,vd,zo]
  rw [← e2,← xAhq its k (acc++its),← e,yo,wj]
section
variable {X:Cx} {pins:List (Addr×Obj)} {σ:St} {H:Hp} {s:Shared} {l b:Addr} {xs ys zs:List V}
theorem Inv.lset {its its':List Value} {n:Nat} {f:Array Value->Array Value} {t':Nat} (I:Inv X pins σ H s) (hH:H l=some (.lst xs))
  (e:s.heap.get? l=some { cls:=.type "list",data:=.seq its.toArray n }) (hf:f its.toArray=its'.toArray) (hv:Vals ys its') (hz:ys.length≤sizeLine) :
  Inv X pins σ (upd H l (.lst ys)) { s with heap:=s.heap.update l (Obj.mapSeq f),toks:=t' }:=by
 have q:=PySem.IsL.update e f;rw [hf] at q;refine I.write (x:=l) (e:=l) (by rw [hH];exact trivial) (.inl rfl) (fun b' u hb hu=>(Heap.get?_update_other s.heap (Obj.mapSeq f) (Ne.symm hb)).trans hu) ⟨_,q⟩ ?_;exact ⟨hz,its',_,hv,q⟩
theorem Inv.lnew {its:List Value} {t':Nat} (I:Inv X pins σ H s) (hv:Vals ys its) (hz:ys.length≤sizeLine) :
  Inv X pins σ (upd H s.heap.objs.size (.lst ys)) { s with heap:=s.heap.push { cls:=.type "list",data:=.seq its.toArray },toks:=t' } :=
 I.laid (fun _ _ q=>Heap.get?_push_of_some _ q) (qg _) ⟨hz,its,0,hv,Heap.get?_push_size _ rfl⟩
theorem Inv.fresh (I:Inv X pins σ H s):H s.heap.objs.size=none:=I.hok.fresh (qg _)
theorem Inv.lstM (I:Inv X pins σ H s) (hH:H l=some (.lst xs)):xs.length≤sizeLine/\∃ (its:List Value) (n:Nat),Vals xs its/\xs.length=its.length/\s.heap.get? l=some { cls:=.type "list",data:=.seq its.toArray n }:=by
 obtain ⟨z,its,n,r,e⟩:=I.hok l _ hH;exact ⟨z,its,n,r,r.length,e⟩
theorem xAko {n:Nat} (h:n≤sizeLine):Builtin.List.listTooLong n=false:=by
 unfold Builtin.List.listTooLong;exact decide_eq_false (by omega)
end
section
variable {X:Cx}
def rAppend:V->List V->Hp->VK->Prop:=fun x vs H Q=>∃ l xs y,x=.ref l/\vs=[y]/\H l=some (.lst xs)/\xs.length<sizeLine/\Q .non (upd H l (.lst (xs++[y])))
theorem xAba:MtM X "list.append" rAppend:=by
 intro pins s σ H x vs v us Q I rx rv h;obtain ⟨l,xs,y,rfl,rfl,hH,hz,q⟩:=h;cases rx;obtain ⟨u,rfl,ru⟩:=rv.one;obtain ⟨z,its,n,r,hl,e⟩:=I.lstM hH;refine call_meets F.slot_list_append ⟨_,e,rfl⟩ F.entry_list_append (F.args_list_append_2 _ _) (PySem.list_append l its.toArray n u (by rw [zd];omega)) ⟨e,?_⟩;refine ⟨.non,_,I.lset (its':=its++[u]) hH e (by simp) (r.append (.cons ru .nil)) ?_,rfl,q⟩;rw [qm,wc];omega
def rExtend:V->List V->Hp->VK->Prop:=fun x vs H Q=>∃ l b xs zs,x=.ref l/\vs=[.ref b]/\H l=some (.lst xs)/\H b=some (.lst zs)/\xs.length+zs.length≤sizeLine/\Q .non (upd H l (.lst (xs++zs)))
theorem xAnu:MtM X "list.extend" rExtend:=by
 intro pins s σ H x vs v us Q I rx rv h;obtain ⟨l,b,xs,zs,rfl,rfl,hH,hB,hz,q⟩:=h;cases rx;obtain ⟨u,rfl,ru⟩:=rv.one;cases ru;obtain ⟨z,its,n,r,hl,e⟩:=I.lstM hH;obtain ⟨z2,its2,n2,r2,hl2,e2⟩:=I.lstM hB
 have hsz:its.toArray.size+its2.toArray.size≤sizeLine:=by rw [zd,zd];omega
 have hlong:¬ (!its.toArray.isEmpty&&Builtin.List.listTooLong (its.toArray.size+its2.toArray.size))=true:=by
  rw [xAko hsz,j7];exact zh
 refine call_meets F.slot_list_extend ⟨_,e,rfl⟩ F.entry_list_extend (F.args_list_extend_2 _ _)
  (AutoSeq1.list_extend_list_list_0 l its.toArray n b its2.toArray n2 hlong (by rw [zd];omega) (by omega)) ⟨e,e2,?_⟩
 refine ⟨.non,_,I.lset (its':=its++its2) hH e (by simp) (r.append r2) ?_,rfl,q⟩;rw [qm];omega
def rPop:V->List V->Hp->VK->Prop:=fun x vs H Q=>∃ l xs y,x=.ref l/\vs=[]/\H l=some (.lst xs)/\xs[xs.length - 1]?=some y/\Q y (upd H l (.lst xs.dropLast))
theorem xAtc:MtM X "list.pop" rPop:=by
 intro pins s σ H x vs v us Q I rx rv h;obtain ⟨l,xs,y,rfl,rfl,hH,hy,q⟩:=h;cases rx;have hus:=rv.zero;subst hus;obtain ⟨z,its,n,r,hl,e⟩:=I.lstM hH;obtain ⟨u,hu,ru⟩:=r.get hy
 have hy':its.toArray[its.toArray.size - 1]?=some u:=by
  show its.toArray[its.length - 1]?=some u;rw [← z6,← hl];exact hu
 refine call_meets F.slot_list_pop ⟨_,e,rfl⟩ F.entry_list_pop (F.args_list_pop_1 _) (MeetsSeq.list_pop_last l its.toArray n u hy' (by rw [zd];omega)) ⟨e,?_⟩;refine ⟨y,_,I.lset (its':=its.dropLast) hH e ?_ r.dropLast ?_,ru,q⟩
 ·show its.toArray.eraseIdxIfInBounds (its.toArray.size - 1)=its.dropLast.toArray
  rw [zd,kr,xAkn]
 ·rw [List.length_dropLast]
  omega
def rCat:R2:=fun x y H Q=>∃ l b xs zs,x=.ref l/\y=.ref b/\H l=some (.lst xs)/\H b=some (.lst zs)/\xs.length+zs.length≤sizeLine/\∀ p,H p=none->Q (.ref p) (upd H p (.lst (xs++zs)))
theorem op_cat:OpR X (binaryOp .Add) rCat:=by
 intro pins s σ H x y v u Q I rx ry h;obtain ⟨l,b,xs,zs,rfl,rfl,hH,hB,hz,q⟩:=h;cases rx;cases ry;obtain ⟨z,its,n,r,hl,e⟩:=I.lstM hH;obtain ⟨z2,its2,n2,r2,hl2,e2⟩:=I.lstM hB;refine PySem.P.add_list e e2 ?_ (by rw [zd,zd];omega)
 have ea:its.toArray++its2.toArray=(its++its2).toArray:=by simp
 rw [ea];exact ⟨.ref _,_,I.lnew (t':=s.toks) (r.append r2) (by rw [qm];omega),rfl,q _ I.fresh⟩
def rRep:R2:=fun x y H Q=>∃ l k xs,x=.ref l/\y=.int k/\H l=some (.lst xs)/\-(2 ^ 63)≤k/\k<2 ^ 63/\xs.length * k.toNat≤sizeLine ∧
 ∀ p,H p=none->Q (.ref p) (upd H p (.lst (List.replicate k.toNat xs).flatten))
theorem xAtd {α:Type} (xs:List α) (k:Nat):(List.replicate k xs).flatten.length=k * xs.length:=by
 induction k with
 | zero=>simp
 | succ k ih=>rw [yo,vd,qm,ih,Nat.succ_mul,Nat.add_comm]
theorem op_rep:OpR X (binaryOp .Mult) rRep:=by
 intro pins s σ H x y v u Q I rx ry h;obtain ⟨l,k,xs,rfl,rfl,hH,h1,h2,hz,q⟩:=h;cases rx;obtain ⟨t,rfl⟩:=ry;obtain ⟨z,its,n,r,hl,e⟩:=I.lstM hH
 have hlen:its.toArray.size * k.toNat≤sizeLine:=by rw [zd,← hl];exact hz
 have hcap:¬ its.toArray.size * k.toNat>(2 ^ 63 - 1) / 8:=by
  have:(sizeLine:Nat)≤(2 ^ 63 - 1) / 8:=by decide
  omega
 have hfit:¬ (!Builtin.List.listFitsIndex k)=true:=by
  rw [fitsIndex_both h1 h2];exact zh
 have hlong:¬ Builtin.List.listTooLong (its.toArray.size * k.toNat)=true:=by
  rw [xAko hlen];exact zh
 have hnew:List.foldl (fun x1 x2=>x1++x2) #[] (List.replicate (if its.toArray.isEmpty=true then 0 else k.toNat) its.toArray)=(List.replicate k.toNat its).flatten.toArray:=by
  have f0:∀ m:Nat,List.foldl (fun x1 x2=>x1++x2) #[] (List.replicate m its.toArray)=(List.replicate m its).flatten.toArray:=fun m=>by
   have:=xAhq its m [];rw [vf] at this;exact this
  rw [f0]
  cases its with
  | nil=>simp
  | cons a r'=>rw [if_neg (by simp)]
 refine wpAny_binaryOp_repeat_ref (T:="list") (U:="int") (by decide) ⟨_,e,rfl⟩ (fun s'=>typeIs_int s' k t) noFill_list_mul F.fills_int_mul F.slot_int_rmul repeat_list F.slot_int_index.lookup
  (call_meets F.slot_int_rmul (typeIs_int s k t) F.entry_int_rmul (F.args_int_rmul_2 _ _) (int___rmul___int_list k t l its.toArray n)
   ⟨e,rfl,⟨_,e,rfl⟩,call_meets F.slot_list_mul ⟨_,e,rfl⟩ F.entry_list_mul (F.args_list_mul_2 _ _) (AutoListH.list___mul___list_int_3 l its.toArray n k t hfit hcap hlong) ⟨e,?_⟩⟩)
 rw [hnew];exact ⟨.ref _,_,I.lnew (t':=s.toks) (r.rep k.toNat) (by rw [xAtd,Nat.mul_comm];exact hz),rfl,q _ I.fresh⟩
end
section
variable {prog:Program} {w:World} {A:Around} {E:Value->Shared->Prop} {s:Shared}
end
section
variable {X:Cx}
end
section
variable {κ:Type} [DecidableEq κ]
def valV (kvs:List (κ×V)) (k:κ):Option V:=(kvs.find? fun kv=>decide (kv.1=k)).map (·.2)
def putK (kvs:List (κ×V)) (k:κ) (v:V):List (κ×V) :=
 if (kvs.any fun kv=>decide (kv.1=k))=true then kvs.map (fun kv=>if kv.1=k then (kv.1,v) else kv) else kvs++[(k,v)]
theorem xAbf {p:κ×V} {r:List (κ×V)} {k:κ} (e:p.1=k):valV (p::r) k=some p.2:=by simp [valV,List.find?_cons,e]
theorem xAbg {p:κ×V} {r:List (κ×V)} {k:κ} (e:¬ p.1=k):valV (p::r) k=valV r k:=by simp [valV,List.find?_cons,e]
theorem xAch (k:κ):∀ kvs:List (κ×V),(kvs.any fun kv=>decide (kv.1=k))=(valV kvs k).isSome
 | []=>rfl
 | p::r=>by
  rw [j8]
  by_cases e:p.1=k
  ·simp only [xAbf e,decide_eq_true e,Bool.true_or,Option.isSome_some]
  ·rw [xAbg e,decide_eq_false e,Bool.false_or];exact xAch k r
theorem xAkp (k j:κ) (y:V):∀ kvs:List (κ×V),valV (kvs.map fun kv=>if kv.1=k then (kv.1,y) else kv) j=(valV kvs j).map fun x=>if j=k then y else x
 | []=>rfl
 | p::r=>by
  have ih:=xAkp k j y r;rw [za]
  by_cases h:p.1=k
  ·rw [if_pos h]
   by_cases e:p.1=j
   ·rw [xAbf (p:=(p.1,y)) e,xAbf e,yz,if_pos (e.symm.trans h)]
   ·rw [xAbg (p:=(p.1,y)) e,xAbg e,ih]
  ·rw [if_neg h]
   by_cases e:p.1=j
   ·rw [xAbf (p:=p) e,xAbf e,yz,if_neg (fun z=>h (e.trans z))]
   ·rw [xAbg (p:=p) e,xAbg e,ih]
theorem xAhr (k j:κ) (y:V):∀ kvs:List (κ×V),valV kvs k=none->valV (kvs++[(k,y)]) j=if j=k then some y else valV kvs j
 | [],_=>by
  by_cases e:k=j
  ·rw [if_pos e.symm];exact xAbf (p:=(k,y)) e
  ·rw [if_neg (fun z=>e z.symm)];exact xAbg (p:=(k,y)) e
 | p::r,hn=>by
  rw [List.cons_append]
  have hk:¬ p.1=k:=fun z=>by rw [xAbf z] at hn;cases hn
  rw [xAbg hk] at hn;have ih:=xAhr k j y r hn
  by_cases e:p.1=j
  ·rw [xAbf e,xAbf e,if_neg (fun z=>hk (e.trans z))]
  ·rw [xAbg e,xAbg e,ih]
theorem xAqt (kvs:List (κ×V)) (k j:κ) (y:V):valV (putK kvs k y) j=if j=k then some y else valV kvs j:=by
 unfold putK
 by_cases a:(kvs.any fun kv=>decide (kv.1=k))=true
 ·rw [if_pos a,xAkp]
  rw [xAch] at a
  by_cases e:j=k
  ·obtain ⟨x,hx⟩:=j4.mp a
   rw [if_pos e,e,hx,yz,if_pos rfl]
  ·rw [if_neg e]
   cases valV kvs j with
   | none=>rfl
   | some x=>rw [yz,if_neg e]
 ·rw [if_neg a]
  refine xAhr k j y kvs ?_;rw [xAch] at a
  cases q:valV kvs k with
  | none=>rfl
  | some x=>rw [q] at a;exact (a rfl).elim
theorem xAcd (kvs:List (κ×V)) (k:κ) (v:V):(putK kvs k v).length≤kvs.length+1:=by
 unfold putK
 split
 ·rw [qj];omega
 ·rw [qm,qx,vm];omega
theorem xAgv {kvs:List (κ×V)} {k:κ} (v:V) (h:valV kvs k=none):putK kvs k v=kvs++[(k,v)]:=by
 unfold putK;rw [xAch,h];exact if_neg (by decide)
theorem RelO.isSome_eq {o:Option V} {u:Option Value} (r:RelO o u):o.isSome=u.isSome:=by
 cases o with
 | none=>cases u with
  | none=>rfl
  | some _=>exact (show False from r).elim
 | some _=>cases u with
  | none=>exact (show False from r).elim
  | some _=>rfl
theorem KV.val {kvs:List (κ×V)} {vs:List (κ×Value)} (r:KV kvs vs) (k:κ):RelO (valV kvs k) (valueAt vs k):=by
 unfold KV at r
 induction r with
 | nil=>exact True.intro
 | @cons p q ps qs h t ih =>
  obtain ⟨h1,h2⟩:=h
  by_cases e:p.1=k
  ·have e':q.1=k:=h1.symm.trans e
   have b:valueAt (q::qs) k=some q.2:=by simp [valueAt,List.find?_cons,e']
   rw [xAbf e,b];exact h2
  ·have e':¬ q.1=k:=fun z=>e (h1.trans z)
   have b:valueAt (q::qs) k=valueAt qs k:=by simp [valueAt,List.find?_cons,e']
   rw [xAbg e,b];exact ih
theorem KV.any {kvs:List (κ×V)} {vs:List (κ×Value)} (r:KV kvs vs) (k:κ):(kvs.any fun kv=>decide (kv.1=k))=vs.any fun kv=>decide (kv.1=k):=by
 unfold KV at r
 induction r with
 | nil=>rfl
 | cons h t ih=>rw [j8,j8,ih,h.1]
theorem KV.repl {kvs:List (κ×V)} {vs:List (κ×Value)} (r:KV kvs vs) (k:κ) {y:V} {u:Value} (ry:RelV y u) :
  KV (kvs.map fun kv=>if kv.1=k then (kv.1,y) else kv) (vs.map fun kv=>if kv.1=k then (kv.1,u) else kv):=by
 unfold KV at r ⊢
 induction r with
 | nil=>exact .nil
 | @cons p q ps qs h t ih =>
  rw [za,za];refine .cons ?_ ih;obtain ⟨h1,h2⟩:=h
  by_cases e:p.1=k
  ·rw [if_pos e,if_pos (h1.symm.trans e)];exact ⟨h1,ry⟩
  ·rw [if_neg e,if_neg (fun z=>e (h1.trans z))];exact ⟨h1,h2⟩
theorem KV.put {kvs:List (κ×V)} {vs:List (κ×Value)} (r:KV kvs vs) (k:κ) {y:V} {u:Value} (ry:RelV y u):KV (putK kvs k y) (stored vs k u):=by
 unfold putK stored;rw [r.any k]
 by_cases e:(vs.any fun kv=>decide (kv.1=k))=true
 ·rw [if_pos e,if_pos e];exact r.repl k ry
 ·rw [if_neg e,if_neg e];exact Paired.snoc r ⟨rfl,ry⟩
theorem KV.length {kvs:List (κ×V)} {vs:List (κ×Value)} (r:KV kvs vs):kvs.length=vs.length:=Paired.length r
end
theorem kV_is {P:Program} {w:World} {k:Key} {u:Value} (r:RelV (kV k) u):(mixKind P w).is k u=true:=by
 cases k with
 | inl i=>obtain ⟨t,e⟩:=(show ∃ t,u=Value.int i t from r);subst e;exact xAje P w i t
 | inr x=>obtain ⟨t,e⟩:=(show ∃ t,u=Value.str x t from r);subst e;exact xAjf P w x t
theorem xAhs {P:Program} {w:World}:∀ {ks:List Key} {us:List Value},Vals (ks.map kV) us->ItemsAre (mixKind P w) ks us
 | [],_,r=>by rw [jm] at r;cases r;exact .nil
 | k::ks,_,r=>by
  rw [za] at r
  cases r with
  | cons h t=>exact .cons (kV_is h) (xAhs t)
abbrev KT (H:Hp):List (List Key×V)->List (List Key×Addr×Value)->Prop:=Paired fun p q=>p.1=q.1/\H q.2.1=some (.tup (p.1.map kV))/\RelV p.2 q.2.2
theorem KT.val {H:Hp} {kvs:List (List Key×V)} {xs:List (List Key×Addr×Value)} (r:KT H kvs xs) (k:List Key):RelO (valV kvs k) ((atKey xs k).map (·.2)):=by
 induction r with
 | nil=>exact True.intro
 | @cons p q ps qs h t ih =>
  obtain ⟨h1,_,h2⟩:=h
  by_cases e:p.1=k
  ·have e':q.1=k:=h1.symm.trans e
   have b:atKey (q::qs) k=some q.2:=by simp [atKey,List.find?_cons,e']
   rw [xAbf e,b];exact h2
  ·have e':¬ q.1=k:=fun z=>e (h1.trans z)
   have b:atKey (q::qs) k=atKey qs k:=by simp [atKey,List.find?_cons,e']
   rw [xAbg e,b];exact ih
theorem KT.repl {H:Hp} {kvs:List (List Key×V)} {xs:List (List Key×Addr×Value)} (r:KT H kvs xs) (k:List Key) {y:V} {u:Value} (ry:RelV y u) :
  KT H (kvs.map fun kv=>if kv.1=k then (kv.1,y) else kv) (xs.map (putAt k u)):=by
 induction r with
 | nil=>exact .nil
 | @cons p q ps qs h t ih =>
  rw [za,za];refine .cons ?_ ih;obtain ⟨h1,h2,h3⟩:=h;unfold putAt
  by_cases e:p.1=k
  ·rw [if_pos e,if_pos (h1.symm.trans e)];exact ⟨h1,h2,ry⟩
  ·rw [if_neg e,if_neg (fun z=>e (h1.trans z))];exact ⟨h1,h2,h3⟩
theorem KT.put {H:Hp} {kvs:List (List Key×V)} {xs:List (List Key×Addr×Value)} (r:KT H kvs xs) (k:List Key) {b:Addr} {y:V} {u:Value} (hb:H b=some (.tup (k.map kV))) (ry:RelV y u) :
  KT H (putK kvs k y) (storedH xs k b u):=by
 have e:(kvs.any fun kv=>decide (kv.1=k))=(atKey xs k).isSome:=by
  rw [xAch,(r.val k).isSome_eq,Option.isSome_map]
 unfold putK storedH;rw [e]
 by_cases q:(atKey xs k).isSome=true
 ·rw [if_pos q,if_pos q];exact r.repl k ry
 ·rw [if_neg q,if_neg q];exact Paired.snoc r ⟨rfl,hb,ry⟩
theorem KT.keeps {H H':Hp} {kvs:List (List Key×V)} {xs:List (List Key×Addr×Value)} (r:KT H kvs xs) (ht:∀ b ys,H b=some (.tup ys)->H' b=some (.tup ys)):KT H' kvs xs :=
 Paired.mapP r fun _ _ z=>⟨z.1,ht _ _ z.2.1,z.2.2⟩
section
variable {P:Program} {w:World} {H:Hp} {h:Heap} {a:Addr}
theorem rd_of {u:HO} (ok:HOk P w H h) (e:Rd H a u):ObjOk P w H h a u:=e.ok ok
theorem dk_rd {kvs:List (Key×V)} (ok:HOk P w H h) (e:Rd H a (.dK kvs)):kvs.length≤sizeLine/\(a==sysModules)=false/\∃ vs,KV kvs vs/\h.DictOf (mixKind P w) a vs :=
 show ObjOk P w H h a (.dK kvs) from rd_of ok e
theorem dk_of {kvs:List (Key×V)} (ok:HOk P w H h) (e:H a=some (.dK kvs)):kvs.length≤sizeLine/\(a==sysModules)=false/\∃ vs,KV kvs vs/\h.DictOf (mixKind P w) a vs:=dk_rd ok (.inl e)
theorem xAjj {ks:List Key} (ok:HOk P w H h) (e:H a=some (.tup (ks.map kV))):(tupleKind (mixKind P w)).is h ks a:=by
 obtain ⟨_,its,r,o,h1,h2,n,h3⟩:=(show ObjOk P w H h a (.tup (ks.map kV)) from ok a _ e);exact ⟨o,its.toArray,n,h1,h2,h3,by simpa using xAhs r⟩
theorem dt_rd {kvs:List (List Key×V)} (ok:HOk P w H h) (e:Rd H a (.dT kvs)):kvs.length≤sizeLine/\(a==sysModules)=false ∧
  ∃ xs,KT H kvs xs/\h.DictOfH (tupleKind (mixKind P w)) a xs:=by
 obtain ⟨z,y,xs,r,o,es,ep,h1,h2,h3,h4,h5⟩:=(show ObjOk P w H h a (.dT kvs) from rd_of ok e);refine ⟨z,y,xs,r,o,es,ep,h1,h2,h3,h4,fun x hx=>?_,h5⟩
 have all:∀ {l:List (List Key×V)} {m:List (List Key×Addr×Value)},KT H l m->∀ x∈m,(tupleKind (mixKind P w)).is h x.1 x.2.1:=by
  intro l m q
  induction q with
  | nil=>intro x hx;exact nomatch hx
  | @cons p q ps qs hq t ih =>
   intro x hx;rcases qw.mp hx with e | hx
   ·subst e
    exact xAjj ok (by rw [← hq.1];exact hq.2.1)
   ·exact ih x hx
 exact all r x hx
theorem dt_of {kvs:List (List Key×V)} (ok:HOk P w H h) (e:H a=some (.dT kvs)):kvs.length≤sizeLine/\(a==sysModules)=false ∧
  ∃ xs,KT H kvs xs/\h.DictOfH (tupleKind (mixKind P w)) a xs:=dt_rd ok (.inl e)
end
def DGet (H:Hp) (a:Addr) (y:V) (r:Option V):Prop :=
 (∃ kvs k,Rd H a (.dK kvs)/\y=kV k/\r=valV kvs k)\/∃ kvs k b,Rd H a (.dT kvs)/\y=.ref b/\H b=some (.tup (k.map kV))/\r=valV kvs k
def DPut (H:Hp) (a:Addr) (y v:V) (H':Hp):Prop :=
 (∃ kvs k,H a=some (.dK kvs)/\y=kV k/\kvs.length<sizeLine/\H'=upd H a (.dK (putK kvs k v))) ∨
 ∃ kvs k b,H a=some (.dT kvs)/\y=.ref b/\H b=some (.tup (k.map kV))/\kvs.length<sizeLine/\H'=upd H a (.dT (putK kvs k v))
theorem DPut.k {H:Hp} {a:Addr} {kvs:List (Key×V)} {k:Key} {v:V} (e:H a=some (.dK kvs)) (hl:kvs.length<sizeLine):DPut H a (kV k) v (upd H a (.dK (putK kvs k v))):=.inl ⟨kvs,k,e,rfl,hl,rfl⟩
section
variable {X:Cx} {pins:List (Addr×Obj)} {σ:St} {H:Hp} {s:Shared} {a:Addr} {y v:V} {u r:Value} {o:Option V} {A:Around} {E:Value->Shared->Prop}
theorem Inv.big (I:Inv X pins σ H s):sysModules<s.heap.objs.size:=by
 have h:mainGlobals<s.heap.objs.size:=(I.mod.glob.keeps I.bk).lt;exact yq (by decide) h
theorem xAnv {Q:Value->Shared->Prop} (hu:A.units+1<cLine) (I:Inv X pins σ H s) (g:DGet H a y (some v)) (ry:RelV y u) (h:∀ w' s',Inv X pins σ H s'->RelV v w'->Q w' s') :
  wpAny (model X.prog X.w) A (getItem (.ref a) u) Q E s:=by
 rcases g with ⟨kvs,k,e,ey,l⟩ | ⟨kvs,k,b,e,ey,eb,l⟩
 ·subst ey
  obtain ⟨z,hd,vs,rel,dd⟩:=dk_rd I.hok e;obtain ⟨w',hw,rw'⟩:=RelO.some_of (v:=v) (o:=valueAt vs k) (by rw [l];exact rel.val k);exact wpAny_getItem_of (kV_is ry) dd.mapOf hw (h w' _ (I.tok _) rw')
 ·subst ey
  cases (show u=Value.ref b from ry);obtain ⟨z,hd,xs,rel,dd⟩:=dt_rd I.hok e;obtain ⟨w',hw,rw'⟩:=RelO.some_of (v:=v) (o:=(atKey xs k).map (·.2)) (by rw [l];exact rel.val k);obtain ⟨p,hp,hp2⟩:=Option.map_eq_some_iff.mp hw;refine wpAny_getItem_heap (tupleKind_room_in1 hu) (xAjj I.hok eb) dd hp ?_;rw [hp2];exact h w' _ (I.tok _) rw'
theorem xAeo {h':Heap} {t':Nat} {ob:HO} (I:Inv X pins σ H s) (mu:Mut (H a)) (hs:Heap.SameBut a s.heap h') (he:∃ q,h'.get? a=some q) (new:ObjOk X.prog X.w (upd H a ob) h' a ob) :
  Inv X pins σ (upd H a ob) { s with heap:=h',toks:=t' } :=
 I.write (x:=a) (e:=a) mu (.inl rfl) (fun b q hb z=>(hs.2 b hb).trans z) he new
theorem xAqu {P:Program} {w:World} {H':Hp} {h':Heap} {kvs:List (Key×V)} {vs:List (Key×Value)} (z:kvs.length≤sizeLine) (hd:(a==sysModules)=false) (rel:KV kvs vs) (dd:h'.DictOf (mixKind P w) a vs) :
  ObjOk P w H' h' a (.dK kvs):=⟨z,hd,vs,rel,dd⟩
theorem xAnw {H':Hp} {Q:Unit->Shared->Prop} (hu:A.units+1<cLine) (I:Inv X pins σ H s) (g:DPut H a y v H') (ry:RelV y u) (rv:RelV v r) (h:∀ s',Inv X pins σ H' s'->Q () s') :
  wpAny (model X.prog X.w) A (setItem (.ref a) u r) Q E s:=by
 rcases g with ⟨kvs,k,e,ey,l,eH⟩ | ⟨kvs,k,b,e,ey,eb,l,eH⟩
 ·subst ey eH
  obtain ⟨z,hd,vs,rel,dd⟩:=dk_of I.hok e
  have hz:vs.length≤sizeLine:=by rw [← rel.length];exact z
  have hl:(putK kvs k v).length≤sizeLine:=by have:=xAcd kvs k v;omega
  refine wpAny_setItem_pairs (hsz:=hz) (kV_is ry) dd fun h' dd' hs=>h _ ?_
  have he:∃ q,h'.get? a=some q:=let ⟨q,_,_,hq,_⟩:=dd';⟨q,hq⟩
  exact xAeo I (by rw [e];exact True.intro) hs he (xAqu hl hd (rel.put k rv) dd')
 ·subst ey eH
  cases (show u=Value.ref b from ry);obtain ⟨z,hd,xs,rel,dd⟩:=dt_of I.hok e
  have hz:xs.length≤sizeLine:=by rw [← Paired.length rel];exact z
  have hl:(putK kvs k v).length≤sizeLine:=by have:=xAcd kvs k v;omega
  refine wpAny_setItem_heap (hsz:=hz) (tupleKind_room_in1 hu) (xAjj I.hok eb) dd fun h' dd' hs=>h _ ?_;obtain ⟨q,es,ep,hq,h2,h3,h4,_,h5⟩:=dd';refine xAeo I (by rw [e];exact True.intro) hs ⟨q,hq⟩ ⟨hl,hd,_,(rel.put k eb rv).keeps fun c ys ec=>?_,q,es,ep,hq,h2,h3,h4,h5⟩;rw [xAag (ne_of ec e (fun z=>nomatch z))];exact ec
end
section
variable {X:Cx} {pins:List (Addr×Obj)} {σ:St} {H:Hp} {s:Shared} {a:Addr} {kvs:List (Key×V)} {k:Key} {u:Value} {A:Around} {E:Value->Shared->Prop}
end
def NoSl (i:Expr):Prop:=∀ ov iv,subscripted i false ov iv=operate [ov,iv] (getItem ov iv)
theorem xAph {prog:Program} {w:World} {A:Around} {E:Value->Shared->Prop} {s:Shared} {env:Env} {value slice:Expr} {pos:Pos} {T id:String} {Q:Value->Shared->Prop}
  (hl:typeLookup (.type T) "__getitem__"=pure (some (.builtin id))) (hs:NoSl slice)
  (h:wpAny (model prog w) A (eval value env) (fun o s₁=>wpAny (model prog w) A (eval slice env) (fun i s₂=>s₂.TypeIs o T/\wpAny (model prog w) A (getItem o i) Q E s₂) E s₁) E s) :
  wpAny (model prog w) A (eval (.Subscript value slice pos) env) Q E s:=by
 refine Subscript_ (wpAny_mono h (fun o s₁ h₁=>wpAny_mono h₁ (fun i s₂ h₂=>?_) fun _ _ x=>x) fun _ _ x=>x);obtain ⟨hT,h₂⟩:=h₂;unfold subscriptTail;refine wpAny_bind ?_;rw [getitemInPython_of_ne hT.not_modules];refine wpAny_bind (wpAny_specialOf hT hl ?_)
 have fin:wpAny (model prog w) A (subscripted slice false o i) (fun r s₃=>wpAny (model prog w) A (letTemporaryGo value o r >>= fun _=>pure r) Q E s₃) E s₂:=by
  rw [hs o i];exact wpAny_operating (wpAny_mono h₂ (fun r s₃ h₃=>wpAny_bind (wpAny_letTemporaryGo (wpAny_pure h₃))) fun _ _ x=>x)
 first
  | exact wpAny_pure (wpAny_bind fin)
  | exact wpAny_bind (wpAny_pure (wpAny_bind fin))
  | exact wpAny_bind fin
theorem xAjk {X:Cx} {pins:List (Addr×Obj)} {σ:St} {H:Hp} {s:Shared} {a:Addr} {y:V} {o:Option V} (I:Inv X pins σ H s) (g:DGet H a y o):s.TypeIs (.ref a) "dict":=by
 rcases g with ⟨kvs,k,e,_,_⟩ | ⟨kvs,k,b,e,_,_,_⟩
 ·obtain ⟨_,_,vs,_,dd⟩:=dk_rd I.hok e
  exact dd.typeIs
 ·obtain ⟨_,_,xs,_,dd⟩:=dt_rd I.hok e
  exact dd.typeIs
def tDGet (td ty:TE):TE:=fun σ H Q=>td σ H fun x H1=>ty σ H1 fun y H2=>∃ a v,x=.ref a/\DGet H2 a y (some v)/\Q v H2
def sDPut (td ty tv:TE):TS:=fun D σ H=>tv σ H fun v H1=>td σ H1 fun x H2=>ty σ H2 fun y H3=>∃ a H4,x=.ref a/\DPut H3 a y v H4/\D.nx σ H4
section
variable {X:Cx} {o i e value:Expr} {pos pos' tpos:Pos} {td ty tv:TE}
theorem xAbo (hu:X.A.units+1<cLine) (ho:PE X o td) (hi:PE X i ty) (hs:NoSl i):PE X (.Subscript o i pos) (tDGet td ty):=by
 intro pins s σ H Q I h;refine xAph PySem.F.slot_dict_getitem.lookup hs (thn (ho pins s σ H _ I h) fun u s1 ⟨x,H1,I1,rx,q1⟩=>thn (hi pins s1 σ H1 _ I1 q1) fun iv s2 ⟨y,H2,I2,ry,a,v,ex,g,q2⟩=>?_);subst ex;obtain rfl:u=Value.ref a:=rx;exact ⟨xAjk I2 g,xAnv hu I2 g ry fun w' s3 I3 rw'=>⟨v,H2,I3,rw',q2⟩⟩
theorem xAkq (hu:X.A.units+1<cLine) (ho:PE X o td) (hi:PE X i ty) (hv:PE X value tv) (hs:swapsWith value (some (.Subscript o i pos')) pos.line X.env=pure false) :
  PS X (.Assign [.Subscript o i pos'] value pos) (sDPut td ty tv):=by
 intro pins s σ H D I h;refine wpAny_Assign_Subscript (thn (hv pins s σ H _ I h) fun r s1 ⟨v,H1,I1,rv,q1⟩=>thn (ho pins s1 σ H1 _ I1 q1) fun u s2 ⟨x,H2,I2,rx,q2⟩=>thn (hi pins s2 σ H2 _ I2 q2) fun iv s3 ⟨y,H3,I3,ry,a,H4,ex,g,q3⟩=>?_) hs;subst ex;obtain rfl:u=Value.ref a:=rx;exact xAnw hu I3 g ry rv fun s4 I4=>⟨σ,H4,I4,q3⟩
end
theorem xAkr {P:Program} {w:World} {H:Hp} (h:Heap) (hb:sysModules<h.objs.size):ObjOk P w H (h.push { cls:=.type "dict",data:=.dict #[] }) h.objs.size (.dK []) :=
 ⟨zm _,beq_eq_false_iff_ne.mpr (Ne.symm (qu hb)),[],.nil,Heap.DictOf.new h⟩
def tDNewK:TE:=fun _ H Q=>∀ p,H p=none->Q (.ref p) (upd H p (.dK []))
section
variable {X:Cx} {pos:Pos}
theorem xAqv:PE X (.Dict [] [] pos) tDNewK:=fun pins s σ H Q I h =>
 wpAny_Dict_empty ⟨.ref s.heap.objs.size,_,I.laid (a:=s.heap.objs.size) (o:=.dK []) (t':=s.toks) (fun _ _ q=>Heap.get?_push_of_some _ q) (qg _) (xAkr s.heap I.big),rfl,h _ (I.hok.fresh (qg _))⟩
end
def tPairs:List (TE×TE)->St->Hp->(List (V×V)->Hp->Prop)->Prop
 | [],_,H,Q=>Q [] H
 | (tk,tv)::r,σ,H,Q=>tk σ H fun x H1=>tv σ H1 fun y H2=>tPairs r σ H2 fun ps H3=>Q ((x,y)::ps) H3
abbrev VV:List (V×V)->List (Value×Value)->Prop:=Paired fun p q=>RelV p.1 q.1/\RelV p.2 q.2
def PPs (X:Cx) (pos:Pos) (keys:List (Option Expr)) (values:List Expr) (trs:List (TE×TE)):Prop :=
 ∀ (pins:List (Addr×Obj)) (s:Shared) (σ:St) (H:Hp) (Q:List (V×V)->Hp->Prop),Inv X pins σ H s->tPairs trs σ H Q →
  wpAny (model X.prog X.w) X.A (evalPairs (pairTrees keys values X.env pos)) (fun vs s'=>∃ ps H',Inv X pins σ H' s'/\VV ps vs/\Q ps H') X.xe s
theorem xAte {X:Cx} {pos:Pos}:PPs X pos [] [] []:=fun pins s σ H Q I h=>pairTrees_nil_walk ⟨[],H,I,.nil,h⟩
theorem xAcy {X:Cx} {pos:Pos} {k v:Expr} {ks:List (Option Expr)} {vs:List Expr} {tk tv:TE} {trs:List (TE×TE)} (hk:PE X k tk) (hv:PE X v tv) (hr:PPs X pos ks vs trs) :
  PPs X pos (some k::ks) (v::vs) ((tk,tv)::trs):=fun pins s σ H Q I h =>
 pairTrees_cons_walk (thn (hk pins s σ H _ I h) fun u s1 ⟨x,H1,I1,rx,q1⟩=>thn (hv pins s1 σ H1 _ I1 q1) fun w2 s2 ⟨y,H2,I2,ry,q2⟩ =>
  thn (hr pins s2 σ H2 _ I2 q2) fun ws s3 ⟨ps,H3,I3,rel,q3⟩=>⟨(x,y)::ps,H3,I3,.cons ⟨rx,ry⟩ rel,q3⟩)
def mergeK (kvs more:List (Key×V)):List (Key×V):=more.foldl (fun acc kv=>putK acc kv.1 kv.2) kvs
theorem KV.merge:∀ {more:List (Key×V)} {rs:List (Key×Value)} {kvs:List (Key×V)} {vs:List (Key×Value)},KV more rs->KV kvs vs->KV (mergeK kvs more) (merged vs rs):=by
 intro more rs kvs vs r;unfold KV at r
 induction r generalizing kvs vs with
 | nil=>intro q;exact q
 | @cons p q ps qs h t ih =>
  intro r0
  have e:KV (putK kvs p.1 p.2) (stored vs q.1 q.2):=by
   have:=r0.put p.1 h.2;rw [← h.1];exact this
  exact ih e
theorem xAdg:∀ (more kvs:List (Key×V)),(mergeK kvs more).length≤kvs.length+more.length
 | [],kvs=>by show kvs.length≤kvs.length+0;omega
 | p::r,kvs=>by
  have h1:=xAdg r (putK kvs p.1 p.2);have h2:=xAcd kvs p.1 p.2;show (mergeK (putK kvs p.1 p.2) r).length≤_;rw [qx];omega
theorem xAfx {P:Program} {w:World}:∀ {kvs:List (Key×V)} {ws:List (Value×Value)},VV (kvs.map fun kv=>(kV kv.1,kv.2)) ws->∃ rs,Carries (mixKind P w) ws rs/\KV kvs rs
 | [],_,r=>by rw [jm] at r;cases r;exact ⟨[],True.intro,.nil⟩
 | p::kvs,_,r=>by
  rw [za] at r
  cases r with
  | @cons a b as bs h t =>
   obtain ⟨rs,c,q⟩:=xAfx (P:=P) (w:=w) t;obtain ⟨b1,b2⟩:=b;exact ⟨(p.1,b2)::rs,⟨kV_is h.1,rfl,c⟩,.cons ⟨rfl,h.2⟩ q⟩
def tDisp (trs:List (TE×TE)):TE:=fun σ H Q=>∀ p,H p=none->tPairs trs σ (upd H p (.dK [])) fun ps H2=>H2 p=some (.dK [])/\∃ kvs:List (Key×V),ps=kvs.map (fun kv=>(kV kv.1,kv.2))/\kvs.length≤15/\Q (.ref p) (upd H2 p (.dK (mergeK [] kvs)))
theorem xAtf {X:Cx} {pos:Pos} {keys:List (Option Expr)} {values:List Expr} {trs:List (TE×TE)} (h:PPs X pos keys values trs) (hall:keys.all (·.isSome)=true) (hl:keys.length=values.length) (h0:keys≠[])
  (h15:keys.length≤15):PE X (.Dict keys values pos) (tDisp trs):=by
 intro pins s σ H Q I q;have hn:=I.hok.fresh (qg s.heap.objs.size);have I1:=I.laid (a:=s.heap.objs.size) (o:=.dK []) (h':=s.heap.push { cls:=.type "dict",data:=.dict #[] }) (t':=s.toks) (fun _ _ q=>Heap.get?_push_of_some _ q) (qg _) (xAkr s.heap I.big);refine wpAny_Dict_walk (knd:=mixKind X.prog X.w) hall hl h0 h15 (thn (h pins _ σ _ _ I1 (q _ hn)) fun ws s2 ⟨ps,H2,I2,rel,e,kvs,ep,lk,q2⟩=>?_);subst ep;obtain ⟨rs,c,rk⟩:=xAfx (P:=X.prog) (w:=X.w) rel;obtain ⟨z,hd,vs0,r0,dd⟩:=dk_of I2.hok e;cases r0;refine ⟨rs,c,dd,fun h' dd' hs=>⟨.ref s.heap.objs.size,_,?_,rfl,q2⟩⟩
 have hz:(mergeK [] kvs).length≤sizeLine:=by
  have h1:=xAdg kvs [];rw [vm] at h1;rw [sizeLine_eq];omega
 have he:∃ q,h'.get? s.heap.objs.size=some q:=let ⟨q,_,_,hq,_⟩:=dd';⟨q,hq⟩
 exact xAeo I2 (by rw [e];exact True.intro) hs he (xAqu hz hd (rk.merge .nil) dd')
section
variable {X:Cx} {pins:List (Addr×Obj)} {σ:St} {H:Hp} {s:Shared} {a:Addr} {y d:V} {u r:Value} {o:Option V} {A:Around} {E:Value->Shared->Prop}
end
section
variable {X:Cx} {o e f:Expr} {apos cpos:Pos} {td ty tx:TE}
end
section
variable {X:Cx} {pins:List (Addr×Obj)} {σ:St} {H:Hp} {s:Shared} {a:Addr} {kvs:List (Key×V)} {A:Around} {E:Value->Shared->Prop}
end
section
variable {X:Cx} {pins:List (Addr×Obj)} {σ:St} {H:Hp} {s:Shared} {a:Addr} {y:V} {u:Value} {A:Around} {E:Value->Shared->Prop}
end
end L2
namespace Att
open PySem PySem.W PySem.Calls PyProof.Rows
theorem xAej {P:Params} {h:Heap}:∀ (ns:List Int) (vs:List Value),WellAll P h vs (ns.map WData.int)->IntsAre vs ns:=by
 intro ns
 induction ns with
 | nil =>
  intro vs w;rw [jm] at w;cases w;exact .nil
 | cons n ns ih =>
  intro vs w;rw [za] at w
  cases w with
  | cons a b =>
   cases a;exact .cons _ _ (ih _ b)
theorem xAnx {l:OpenLaw} {n:Nat} (hn:l.most=some n) {P:Params} {h:Heap} {args:List WData} {vals:List Value}
  (hpre:l.row.toRowW.claim.pre args=true) (hwl:WellAll P h vals args) :
  ∃ a vs ns,vals=[Value.ref a]/\args=[WData.list (ns.map WData.int)]/\h.get? a=some { cls:=.type "list",data:=.seq vs.toArray }/\IntsAre vs ns/\ns.length≤n:=by
 have hsh:WShape.hasAll [] args [.list .int]=true:=(pre_splitW hpre).1;have hc:l.pre.holds [] { args:=args }=true:=(pre_splitW hpre).2;obtain ⟨d,r,rfl,h1,h2⟩:=hasAllW_cons hsh;obtain rfl:=hasAllW_nil h2;obtain ⟨xs,rfl,h3⟩:=hasW_list h1;obtain ⟨ns,rfl⟩:=items_int h3
 have hlen:ns.length≤n:=by
  unfold OpenLaw.pre at hc
  have h4:(WTm.not (.lt (.lit (.int (n:Int))) (.len (.arg 0)))).holds [] { args:=[.list (ns.map .int)] }=true:=by
   have h4:=(holds_andW hc).1;rw [hn] at h4;exact h4
  have h5:=condW_of h4 (w_not (w_lt w_lit (w_len_list (w_arg rfl))));rw [qj] at h5;refine Nat.le_of_not_lt fun q=>?_
  have q':(n:Int)<((ns.length:Nat):Int):=by omega
  first
   | (rw [decide_eq_true q'] at h5;exact absurd h5 (by decide))
   | (simp at h5;omega)
 cases hwl with
 | cons w1 w2 =>
  cases w2
  cases w1 with
  | list ho hall=>exact ⟨_,_,ns,rfl,rfl,ho,xAej ns _ hall,hlen⟩
theorem xAny (l:OpenLaw) (args:List WData):l.row.toRowW.claim.post args (.bool true) args=true :=
 postW_of (r:=l.row.toRowW) (X:=(true==true))
  (show WShape.has [] (.bool true) .bool=true by first | rfl | decide | simp [WShape.has,WShape.arms,WShape.armsAll])
  (show (WTm.eq .res (.lit (.bool true))).value [] { args:=args,res:=some (.bool true),after:=args }=some (.bool (true==true)) from w_eq_bool (w_res rfl) w_lit) rfl
theorem attach_call {l:OpenLaw} {n:Nat} {q:Program} {loose:List Str} {XP:(Str->Option Value)->Heap->Prop} {YP:World->Heap->Prop} {d:DefRec}
  (hn:l.most=some n) (hdf:d.params.defaults=[])
  (call:∀ (w:World) (s₀ s₁:Shared) (mg mb:Str->Option Value) (fa:Addr) (o:Obj) (pm cd doc:Value) (a:Addr) (vs:List Value) (ns:List Int),
   Ground q loose [] XP w s₀ mg mb s₁.heap->YP w s₁.heap →
   s₁.heap.get? fa=some o->o.data=.func (docDef d.name d.params d.body d.scope pm cd doc)->s₁.heap.CodeRec cd d.name->mg d.name=some (.ref fa) →
   s₁.heap.get? a=some { cls:=.type "list",data:=.seq vs.toArray }->IntsAre vs ns->ns.length≤n->s₁.gens=#[] →
   codeAny (model l.prog w) callerA (.call (.ref fa) ⟨[.ref a],[]⟩) (fun r s'=>r=.ok (.ret (.bool true))/\OldK s₁.heap s'.heap/\s'.os=s₁.os/\AllBare s'.gens) s₁) :
  WalkO q loose XP YP l.row.toRowW d [] (fun f vs=>PySem.call f vs):=by
 intro w s₀ s₁ mg mb G Y fa o pm cd doc dV kV ho hd hcd hD hmg hg args vals as hpre hlay hrd hwl hlo;obtain rfl:dV=.none:=Dflts.none hD hdf;obtain rfl:kV=.none:=Dflts.noKw hD;obtain ⟨a,vs,ns,rfl,rfl,hobj,hints,hlen⟩:=xAnx hn hpre hwl;refine enter_call (codeAny_mono (call w s₀ s₁ mg mb fa o pm cd doc a vs ns G Y ho (fd_plain hd) hcd hmg hobj hints hlen hg) fun r s' hq=>?_);obtain ⟨rfl,h2,h3,h4⟩:=hq;exact ⟨.inl ⟨.bool true,.bool true,[],rfl,fun _=>rfl,.bool true,xAny l _,fun _=>⟨List.Pairwise.nil,fun _ hm=>(nomatch hm)⟩⟩,h2,h3,h4⟩
section
variable {prog:Program} {w:World} {A:Around} {E:Value->Shared->Prop} {s:Shared} {K:Frag}
end
end Att
namespace L2
open PySem PySem.Spec PyProof.Rows
theorem xAht:∀ {vs:List Value} {ns:List Int},IntsAre vs ns->Vals (ns.map V.int) vs
 | _,_,.nil=>.nil
 | _,_,.cons n t h=>.cons ⟨t,rfl⟩ (xAht h)
def Only (H:Hp):Prop:=∀ b,H b=none\/∃ o xs,H b=some (.frz o (.lst xs))
theorem xAqw {P:Program} {w:World} {K:PySem.W.Frag} {mg mb:Str->Option Value} {CX:CXT} {k:Nat} {fa a:Addr} {fd:FuncData} {x:Str} {sp:Sp} {s₁:Shared} {vs:List Value} {ns:List Int}
  (KX:K.In s₁.heap) (hns:s₁.heap.Ns mainGlobals mg) (hb:s₁.heap.Ns builtinsNs mb) (hbb:∀ x:Str,x≠"__name__"->mb x=bootBuiltins x) (hlim:s₁.heap.NoLimit) (hg:s₁.gens=#[])
  (ha:s₁.heap.get? a=some { cls:=.type "list",data:=.seq vs.toArray }) (hi:IntsAre vs ns) (hl:ns.length≤sizeLine) (hr:Room k callerA)
  (F:∀ base:Heap,K.In base->base.Ns mainGlobals mg->FnOk P w K mg base CX k fa fd [x] sp) (hbind:∀ (s:Shared) (u:Value),BindsTo s fd ⟨[u],[]⟩ [(x,u)])
  (hsp:∀ H:Hp,Only H->SqL K H a (ns.map V.int)->sp [.ref a] H (fun v _=>v=.bl true) fun _ _ _=>False)
  (hCX:∀ H e s',CX [] H s₁ (fun _ _ _=>False) e s'->False) :
  codeAny (model P w) callerA (.call (.ref fa) ⟨[.ref a],[]⟩) (fun r s'=>r=.ok (.ret (.bool true))/\OldK s₁.heap s'.heap/\s'.os=s₁.os/\AllBare s'.gens) s₁:=by
 have rv:=xAht hi;have lenV:=hi.length
 have core:∀ H:Hp,Only H->SqL K H a (ns.map V.int)->HOk P w H s₁.heap->(∀ b,H b≠none->b=a)->(H a≠none->K.lookup a=none) →
   codeAny (model P w) callerA (.call (.ref fa) ⟨[.ref a],[]⟩) (fun r s'=>r=.ok (.ret (.bool true))/\OldK s₁.heap s'.heap/\s'.os=s₁.os/\AllBare s'.gens) s₁:=by
  intro H hO hS hok hA hK;have base_of:∀ {b:Addr} {o:Obj},s₁.heap.get? b=some o->H b=none->(hidT s₁.heap H).get? b=some o:=fun e n=>xAqn e n
  have noA:∀ {b:Addr} {o:Obj} {es:Array DictEntry} {ep:Nat},s₁.heap.get? b=some o->o.data=.dict es ep->H b=none:=fun {b o es ep} e d=>by
   cases q:H b with
   | none=>rfl
   | some u =>
    have e':b=a:=hA b (by rw [q];simp);subst e';rw [ha] at e;cases e;have d':Data.seq vs.toArray _=Data.dict es ep:=d;cases d'
  have nsK:∀ {b:Addr} {m:Str->Option Value},s₁.heap.Ns b m->(hidT s₁.heap H).Ns b m:=fun {b m} ⟨o,es,ep,e,d,r⟩=>⟨o,es,ep,base_of e (noA e d),d,r⟩
  have hKb:K.In (hidT s₁.heap H):=fun b o e=>base_of (KX b o e) (by
   cases q:H b with
   | none=>rfl
   | some u =>
    have e':b=a:=hA b (by rw [q];simp);subst e'
    rw [hK (by rw [q];simp)] at e;cases e)
  have hM:Mod K mg (hidT s₁.heap H):=⟨hKb,nsK hns,⟨mb,nsK hb,hbb⟩,let ⟨mc,h1,h2⟩:=hlim;⟨mc,nsK h1,h2⟩⟩;have e0:Env0 P w K mg (hidT s₁.heap H) callerA [] s₁ H:=⟨rfl,hM,fun b o e=>xAsq e,Nat.le_of_eq (xAnm _ _),trivial,fun b hb=>absurd (show b∈([]:List Addr) from hb) (by simp),hok,.of_eq hg⟩;refine codeAny_mono ((F _ hKb (nsK hns)).run callerA [] s₁ H ⟨[.ref a],[]⟩ [.ref a] [.ref a] _ _ hr e0 (hbind s₁ (.ref a)) (.cons rfl .nil) (hsp H hO hS)) fun r s' h=>?_
  cases r with
  | error e=>exact (hCX H e s' h).elim
  | ok fl =>
   cases fl with
   | next=>exact False.elim h
   | brk=>exact False.elim h
   | cont=>exact False.elim h
   | ret u =>
    obtain ⟨v,H',os,bare,un,hok',r',q⟩:=h;have q':v=.bl true:=q;subst q';obtain rfl:u=Value.bool true:=r';refine ⟨rfl,OldK.of_keep fun b o e=>?_,os,bare⟩
    cases q:H b with
    | none=>exact un.keep b o e q (by intro z;exact absurd (show b∈([]:List Addr) from z) (by simp)) (by simp)
    | some u =>
     rcases hO b with z | ⟨ob,xs,z⟩
     ·rw [q] at z;cases z
     ·have z2:=un.frzs b ob _ z
      obtain ⟨e1,_⟩:=hok b _ z;obtain ⟨e2,_⟩:=hok' b _ z2;rw [e] at e1;cases e1;exact e2
 cases hk:K.lookup a with
 | some o =>
  have e:=KX a o hk;rw [ha] at e;cases e;refine core (fun _=>none) (fun _=>.inl rfl) (.inr ⟨_,vs.toArray,_,hk,rfl,rfl,rfl,by rw [List.size_toArray,lenV];exact hl,by simpa using rv⟩) (fun b u z=>by have z':(none:Option HO)=some u:=z;cases z') (fun b z=>absurd rfl z) fun z=>absurd rfl z
 | none =>
  refine core (fun b=>if b=a then some (.frz { cls:=.type "list",data:=.seq vs.toArray } (.lst (ns.map V.int))) else none) (fun b=>?_) (.inl (.inr ⟨{ cls:=.type "list",data:=.seq vs.toArray },if_pos rfl⟩)) (fun b u z=>?_) (fun b z=>?_) fun _=>hk
  ·by_cases hb:b=a
   ·exact .inr ⟨_,_,if_pos hb⟩
   ·exact .inl (if_neg hb)
  ·by_cases hb:b=a
   ·have z':=(if_pos hb).symm.trans z
    cases z';subst hb;exact ⟨ha,by rw [qj];exact hl,vs,_,rv,ha⟩
   ·have z':=(if_neg hb).symm.trans z
    cases z'
  ·by_cases hb:b=a
   ·exact hb
   ·exact absurd (if_neg hb) z
theorem xAtg {l:PySem.W.OpenLaw} {n k:Nat} {q:Program} {loose:List Str} {XP:(Str->Option Value)->Heap->Prop} {YP:World->Heap->Prop} {d:DefRec} {K:Params->PySem.W.Frag} {CX:World->CXT} {sp:World->Sp} {x:Str}
  (hn:l.most=some n) (hn2:n≤sizeLine) (hdf:d.params.defaults=[]) (hr:Room k callerA)
  (hY:∀ (w:World) (h:Heap),YP w h->(K w.params).In h)
  (F:∀ (w:World) (mg:Str->Option Value) (fa:Addr) (h:Heap),(K w.params).In h->h.Ns mainGlobals mg->mg d.name=some (.ref fa) →
   ∃ fd:FuncData,(∀ (s:Shared) (u:Value),BindsTo s fd ⟨[u],[]⟩ [(x,u)]) ∧
    ∀ base:Heap,(K w.params).In base->base.Ns mainGlobals mg->FnOk l.prog w (K w.params) mg base (CX w) k fa fd [x] (sp w))
  (hsp:∀ (w:World) (H:Hp) (a:Addr) (ns:List Int),ns.length≤n->Only H->SqL (K w.params) H a (ns.map V.int)->sp w [.ref a] H (fun v _=>v=.bl true) fun _ _ _=>False)
  (hCX:∀ (w:World) (H:Hp) (s:Shared) (e:Value) (s':Shared),CX w [] H s (fun _ _ _=>False) e s'->False) :
  PySem.W.WalkO q loose XP YP l.row.toRowW d [] (fun f vs=>PySem.call f vs):=by
 refine Att.attach_call hn hdf fun w s₀ s₁ mg mb fa o pm cd doc a vs ns G Y ho hd hcd hmg hobj hints hlen hg=>?_;have KX:=hY w _ Y;obtain ⟨fd,hb,hF⟩:=F w mg fa _ KX G.T.g hmg;exact xAqw KX G.T.g G.T.b G.T.builtins G.T.nolimit hg hobj hints (qh hlen hn2) hr hF hb (fun H hO hS=>hsp w H a ns hlen hO hS) fun H e s'=>hCX w H s₁ e s'
theorem walk_ofK {l:PySem.W.OpenLaw} {n k:Nat} {q:Program} {loose:List Str} {XP:(Str->Option Value)->Heap->Prop} {YP:World->Heap->Prop} {d:DefRec} {K:Params->PySem.W.Frag} {CX:CXT} {sp:PySem.W.Frag->Sp} {x:Str}
  (hn:l.most=some n) (hn2:n≤sizeLine) (hdf:d.params.defaults=[]) (hr:Room k callerA)
  (hY:∀ (w:World) (h:Heap),YP w h->(K w.params).In h)
  (F:∀ (w:World) (mg:Str->Option Value) (fa:Addr) (h:Heap),(K w.params).In h->h.Ns mainGlobals mg->mg d.name=some (.ref fa) →
   ∃ fd:FuncData,(∀ (s:Shared) (u:Value),BindsTo s fd ⟨[u],[]⟩ [(x,u)]) ∧
    ∀ base:Heap,(K w.params).In base->base.Ns mainGlobals mg->FnOk l.prog w (K w.params) mg base CX k fa fd [x] (sp (K w.params)))
  (hsp:∀ (K:PySem.W.Frag) (H:Hp) (a:Addr) (ns:List Int),ns.length≤n->Only H->SqL K H a (ns.map V.int)->sp K [.ref a] H (fun v _=>v=.bl true) fun _ _ _=>False)
  (hCX:∀ (H:Hp) (s:Shared) (e:Value) (s':Shared),CX [] H s (fun _ _ _=>False) e s'->False) :
  PySem.W.WalkO q loose XP YP l.row.toRowW d [] (fun f vs=>PySem.call f vs) :=
 xAtg (K:=K) (CX:=fun _=>CX) (sp:=fun w=>sp (K w.params)) hn hn2 hdf hr hY F (fun w H a ns h1 h2 h3=>hsp (K w.params) H a ns h1 h2 h3) fun _ H s e s'=>hCX H s e s'
def defArgs (s:Stmt):Arguments:=match s with
 | .FunctionDef _ a _ _ _ _ _ _ _ _=>a
 | _=>{ posonlyargs:=[],args:=[],vararg:=none,kwonlyargs:=[],kw_defaults:=[],kwarg:=none,defaults:=[] }
def defBody (s:Stmt):List Stmt:=match s with
 | .FunctionDef _ _ b _ _ _ _ _ _ _=>b
 | _=>[]
def defScope (s:Stmt):Scope:=match s with
 | .FunctionDef _ _ _ _ _ _ sc _ _ _=>sc
 | _=>{ kind:=.function,names:=[],isGenerator:=false,isCoroutine:=false }
abbrev CX0:CXT:=fun _ _ _ _ _ _=>False
abbrev E0:XK:=fun _ _ _=>False
theorem pass0 {X:Cx}:Passes CX0 X E0:=fun _ _ _ _ _ _ _ h=>h.elim
structure Fun (K:PySem.W.Frag) (x qual:Str) (st:Stmt) (f:Addr) (fd:FuncData):Prop where
 ex:∃ (oc:Value) (od:Option Addr) (kV doc pm:Value) (an:Option Addr) (cdv ct:Value) (osl:Array (Option Value)),
  fd=PySem.W.fnOf x qual (defArgs st) (defBody st) (defScope st) .none kV doc pm an cdv ct/\K.lookup f=some ⟨oc,od,.func fd,osl⟩/\PySem.W.codeIn K cdv qual=true
 kp:PySem.W.keepIn K (.ref f)=true
section
variable {P:Program} {w:World} {K:PySem.W.Frag} {mg:Str->Option Value} {base:Heap}
theorem Fun.ok {x qual:Str} {st:Stmt} {f:Addr} {fd:FuncData} {N ps:List Str} {k:Nat} {sp:Sp} (F:Fun K x qual st f fd) (S:FnScope N ps (defScope st)) (len:∀ vs H Q E,sp vs H Q E->vs.length=ps.length)
  (hbody:∀ (cdv:Value) (A:Around) (outer:List Env) (s:Shared) (H:Hp) (vs:List V) (Q:VK) (E:XK),Room k (A.deeper (envOfC qual (defScope st) s.heap.objs.size f cdv))->sp vs H Q E →
   ∃ t,PSs (cxOf CX0 P w K mg base N qual (defScope st) f cdv A outer s H E).nox (defBody st) t/\t { nx:=fun _ H'=>Q .non H',rt:=Q } (start N vs) H):FnOk P w K mg base CX0 (k+1) f fd ps sp:=by
 obtain ⟨oc,od,kV,doc,pm,an,cdv,ct,osl,rfl,lk,hcd⟩:=F.ex;refine fn_of lk hcd S len fun A outer s H vs Q E hr hsp=>?_;obtain ⟨t,h,q⟩:=hbody cdv A outer s H vs Q E hr hsp;exact ⟨t,h.nox,q⟩
theorem Fun.binds {x qual:Str} {st:Stmt} {f:Addr} {fd:FuncData} {ps:List Str} (F:Fun K x qual st f fd)
  (h:∀ (kV doc pm:Value) (an:Option Addr) (cdv ct:Value) (us:List Value),us.length=ps.length->bindArgs (PySem.W.fnOf x qual (defArgs st) (defBody st) (defScope st) .none kV doc pm an cdv ct) ⟨us,[]⟩=pure (ps.zip us)):Binds K fd ps []:=by
 obtain ⟨oc,od,kV,doc,pm,an,cdv,ct,osl,rfl,lk,hcd⟩:=F.ex;exact .all (h kV doc pm an cdv ct)
theorem fun_mk {x qual:Str} {st:Stmt} {f:Addr} {oc:Value} {od an:Option Addr} {osl:Array (Option Value)} {kV doc pm cdv ct:Value} (l:K.lookup f=some ⟨oc,od,.func (PySem.W.fnOf x qual (defArgs st) (defBody st) (defScope st) .none kV doc pm an cdv ct),osl⟩)
  (c:PySem.W.codeIn K cdv qual=true) (k:PySem.W.keepIn K (.ref f)=true):Fun K x qual st f (PySem.W.fnOf x qual (defArgs st) (defBody st) (defScope st) .none kV doc pm an cdv ct):=⟨⟨oc,od,kV,doc,pm,an,cdv,ct,osl,rfl,l,c⟩,k⟩
end
theorem hu_of {A:Around} {k:Nat} (hr:Room k A):A.units+1<cLine:=y0 (Nat.add_le_add_left (by decide:1≤64) _) hr.units
theorem xAak {n:Nat} (h:n≤1000):n<sizeLine:=y0 h (by decide)
section
variable {X:Cx}
theorem pv (i:Nat) {x:Str} {pos:Pos} (hN:X.N[i]?=some x:=by rfl) (hv:Vis X.env.scope x:=by first | exact Or.inl rfl | exact Or.inr (Or.inl rfl) | exact Or.inr (Or.inr rfl)) (hd:(x==("__debug__":Str))=false:=by decide)
  (hcd:(x==("__classdict__":Str))=false:=by decide):PE X (.Name x pos) (tVar i):=pe_var hN hv hd hcd
end
theorem iteT {A B:Prop} (h:A):if true=true then A else B:=by
 rw [if_pos rfl];exact h
theorem ite2 {c A B:Prop} [Decidable c] (h1:c->A) (h2:¬ c->B):if c then A else B:=by
 by_cases h:c
 ·rw [if_pos h]
  exact h1 h
 ·rw [if_neg h]
  exact h2 h
def Same (H H':Hp):Prop:=∀ b o,H b=some o->H' b=some o
theorem Same.refl (H:Hp):Same H H:=fun _ _ h=>h
theorem Same.trans {H H1 H2:Hp} (a:Same H H1) (b:Same H1 H2):Same H H2:=fun c o h=>b c o (a c o h)
theorem Same.free {H H':Hp} (e:Same H H') {l:Addr} (h:H' l=Option.none):H l=Option.none:=by
 cases q:H l with
 | none=>rfl
 | some o =>
  rw [e l o q] at h;cases h
section
variable {κ:Type} [DecidableEq κ]
theorem xAth {kvs:List (κ×V)} {k:κ} {v:V} (h:valV kvs k=some v):k∈kvs.map (·.1):=by
 have q:(kvs.any fun kv=>decide (kv.1=k))=true:=by
  rw [xAch,h]
  all_goals rfl
 obtain ⟨p,hp,e⟩:=vh.mp q;exact qk.mpr ⟨p,hp,of_decide_eq_true e⟩
end
section
variable {prog:Program} {w:World} {A:Around} {R:Result->Shared->Prop} {s:Shared}
theorem xAnz {elt tg iter:Expr} {ifs:List Expr} {sc:Scope} {pos:Pos} {it acc:Value} {ce:Env} (J:Nat->Shared->Prop)
  (turn:∀ n s,J n s->wpAny (model prog w) A (pyNext it) (fun r s1=>match r with
   | none=>R (.ok .next) s1
   | some v=>wpAny (model prog w) A (letOwnedTupleGo tg it v) (fun _ s2=>wpAny (model prog w) A (assign tg ce v) (fun _ s3 =>
     wpAny (model prog w) A (forIn ifs true fun c r=>if r=true then do let ok ← isTrue c ce (eval c ce);pure (ForInStep.yield ok) else pure (ForInStep.yield r)) (fun ok s4 =>
      if ok=true then
       wpAny (model prog w) A (eval elt ce) (fun x s5=>wpAny (model prog w) A (call (.builtin "list.append") [acc,x]) (fun _ s6=>∃ m,m<n/\J m s6) (fun _ _=>False) s5) (fun _ _=>False) s4
      else ∃ m,m<n/\J m s4) (fun _ _=>False) s3) (fun _ _=>False) s2) (fun _ _=>False) s1) (fun _ _=>False) s)
  (n:Nat) (h:J n s):codeAny (model prog w) A (.compLoop (.ListComp elt [⟨tg,iter,ifs,0⟩] sc pos) 0 it acc ce) R s:=by
 refine codeAny_loop rfl J (fun n s hJ=>?_) n h;show wpAny _ A ((compTurn (.ListComp elt [⟨tg,iter,ifs,0⟩] sc pos) 0 it acc ce).onRaise (fun x=>do noteFrame x ce;theTreesLotGoes x)) _ _ s;refine wpAny_noted ?_;rw [compTurn_list];refine wpAny_bind (wpAny_standAt (wpAny_bind (wpAny_mono (turn n s hJ) (fun r s1 h1=>?_) fun _ _ f=>f.elim)))
 cases r with
 | none=>exact wpAny_pure h1
 | some v =>
  refine wpAny_bind (wpAny_mono h1 (fun _ s2 h2=>?_) fun _ _ f=>f.elim);refine wpAny_bind (wpAny_mono h2 (fun _ s3 h3=>?_) fun _ _ f=>f.elim);refine wpAny_bind (wpAny_mono h3 (fun ok s4 h4=>?_) fun _ _ f=>f.elim)
  cases ok with
  | false=>exact wpAny_pure ⟨rfl,h4⟩
  | true =>
   refine wpAny_bind (wpAny_bind (wpAny_mono h4 (fun x s5 h5=>?_) fun _ _ f=>f.elim));exact wpAny_bind (wpAny_mono h5 (fun _ s6 h6=>wpAny_pure (wpAny_pure ⟨rfl,h6⟩)) fun _ _ f=>f.elim)
end
def compCx (X:Cx) (N:List Str) (sc:Scope) (cl:List (Str×Addr)) (s:Shared) (H:Hp) (fp:List Addr):Cx where
 prog:=X.prog
 w:=X.w
 K:=X.K
 mg:=X.mg
 base:=X.base
 A:=X.A
 N:=N
 s₀:=s
 H₀:=H
 env:=compEnvC sc cl (s.heap.objs.size+1) X.env
 outer:=X.stack
 stack:=X.stack
 ex:=fp
 fn:=fun _=>false
 calm:=X.calm
 pn:=[]
 xe:=fun _ _=>False
def compSt (own:List Str) (fr:List (Str×Nat)) (σ:St):St:=own.map (fun _=>none)++fr.map fun p=>(σ[p.2]?).join
def KeepS (σ σ':St):Prop:=σ.length=σ'.length/\∀ (i:Nat) v,σ[i]?=some (some v)->σ'[i]?=some (some v)
def Fresh (g:TG) (σ:St):Prop:=∀ x H (Q:St->Hp->Prop),g x σ H Q->g x σ H fun σ' H'=>KeepS σ σ'/\Q σ' H'
theorem KeepS.set {σ:St} {i:Nat} (h:σ[i]?=some none) (v:V):KeepS σ (σ.set i (some v)):=by
 refine ⟨by simp,fun j u e=>?_⟩
 by_cases hj:i=j
 ·subst hj;rw [h] at e;cases e
 ·rw [jk hj];exact e
theorem xAas {σ:St} {i:Nat} (h:σ[i]?=some none):Fresh (gName i) σ:=fun x H Q q=>⟨KeepS.set h x,q⟩
theorem xAks {K:PySem.W.Frag} {σ:St} {i j n:Nat} (hi:σ[i]?=some none) (hj:σ[j]?=some none) (hij:i≠j):Fresh (gTup K n (gCons (gName i) (gCons (gName j) gNil))) σ:=by
 intro x H Q q;obtain ⟨a,xs,e1,e2,e3,v,r,e4,w,r',e5,e6,q⟩:=q;refine ⟨a,xs,e1,e2,e3,v,r,e4,w,r',e5,e6,?_,q⟩;have h1:=KeepS.set hi v;have h2:=KeepS.set (σ:=σ.set i (some v)) (i:=j) (by rw [jk hij];exact hj) w;exact ⟨h1.1.trans h2.1,fun k u e=>h2.2 k u (h1.2 k u e)⟩
def PTs (X:Cx) (ifs:List Expr) (t:TT):Prop :=
 ∀ (pins:List (Addr×Obj)) (s:Shared) (σ:St) (H:Hp) (Q:Bool->Hp->Prop),Inv X pins σ H s->t σ H Q →
  wpAny (model X.prog X.w) X.A (forIn ifs true fun c r=>if r=true then do let ok ← isTrue c X.env (eval c X.env);pure (ForInStep.yield ok) else pure (ForInStep.yield r)) (TP X pins σ Q) X.xe s
theorem xAfy {X:Cx}:PTs X [] (fun _ H Q=>Q true H):=fun _ _ _ H _ I h=>wpAny_tests_nil ⟨H,I,h⟩
theorem xAdh {X:Cx} {c:Expr} {t:TT} (h:PT X c t):PTs X [c] t:=fun pins s σ H Q I q=>wpAny_tests_one (h pins s σ H Q I q)
def LCb (own:List Str) (fr:List (Str×Nat)) (g:TG) (tt:TT) (te:TE) (σ:St) (Q:VK) (J:It) (H1:Hp):Prop:=∃ W:Nat->Nat->List V->Hp->Prop,(∃ m,W 0 m [] H1)/\∀ i m ys H,W i m ys H →
 (J.stop i H/\∀ p,H p=none->Q (.ref p) (upd H p (.lst ys)))\/(J.go i H/\ys.length<sizeLine/\∀ x H',J.yld i H x H'->g x (compSt own fr σ) H' fun σ2 H2=>tt σ2 H2 fun b H3 =>
  if b=true then te σ2 H3 fun y H4=>∃ m',m'<m/\W (i+1) m' (ys++[y]) H4 else ∃ m',m'<m/\W (i+1) m' ys H3)
def tLC (own:List Str) (fr:List (Str×Nat)) (wi:TI) (g:TG) (tt:TT) (te:TE):TE:=fun σ H Q=>wi σ H fun J H1=>LCb own fr g tt te σ Q J H1
abbrev accObj (us:List Value):Obj:={ cls:=.type "list",data:=.seq us.toArray us.length }
theorem xAqx (us:List Value) (u:Value):({ cls:=.type "list",data:=.seq (us.toArray.push u) (us.length+1) }:Obj)=accObj (us++[u]):=by
 unfold accObj;rw [qm,wc,kt]
structure Caps (X:Cx) (sc:Scope) (cl:List (Str×Addr)) (fr:List (Str×Nat)):Prop where
 clos:closureFor sc X.env=pure cl
 sub:∀ x c,cl.lookup x=some c->X.env.cells.lookup x=some c
 has:∀ x,((relabel sc X.env).names.lookup x=some .cell\/(relabel sc X.env).names.lookup x=some .free)->∃ c,cl.lookup x=some c
 cap:∀ p∈fr,X.N[p.2]?=some p.1/\X.env.kindOf p.1≠some .local/\Vis X.env.scope p.1/\((relabel sc X.env).names.lookup p.1=some .cell\/(relabel sc X.env).names.lookup p.1=some .free)
structure CompSc (sc:Scope):Prop where
 kind:sc.kind=.function
 cell:∀ y∈sc.names,y.2≠.cell
 nms:∀ y∈sc.names,y.2=.local->sc.names.lookup y.1=some .local
section
variable {X:Cx}
theorem Inv.stkNot {pins:List (Addr×Obj)} {σ:St} {H:Hp} {s:Shared} (I:Inv X pins σ H s) {b:Addr} (h1:b≠X.env.locals) (h2:b∉X.fs):b∉frs X.stack:=fun z=>by
 rcases qw.mp (I.stkSub b z) with e | e
 ·exact h1 e
 ·exact h2 e
theorem xAkt {own:List Str} {fr:List (Str×Nat)} {σ:St} {N:List Str} (hN:N=own++fr.map (·.1)) {i:Nat} {x:Str} {v:V} (h1:N[i]?=some x) (h2:(compSt own fr σ)[i]?=some (some v)) :
  ∃ p∈fr,p.1=x/\σ[p.2]?=some (some v):=by
 unfold compSt at h2;subst hN
 by_cases hi:i<own.length
 ·rw [List.getElem?_append_left (by simpa using hi),List.getElem?_map] at h2
  rw [qi hi] at h2;cases h2
 ·rw [List.getElem?_append_right (by simpa using hi),List.length_map,List.getElem?_map] at h2
  rw [List.getElem?_append_right (by simpa using hi),List.getElem?_map] at h1
  cases e:fr[i - own.length]? with
  | none=>rw [e] at h1;cases h1
  | some p =>
   rw [e] at h1 h2;refine ⟨p,zk e,Option.some.inj h1,?_⟩;have h2':(σ[p.2]?).join=some v:=Option.some.inj h2
   cases e3:σ[p.2]? with
   | none=>rw [e3] at h2';cases h2'
   | some o=>rw [e3] at h2';rw [show o=some v from h2']
theorem Inv.block {pins:List (Addr×Obj)} {σ:St} {H:Hp} {s:Shared} {own:List Str} {fr:List (Str×Nat)} {sc:Scope} {cl:List (Str×Addr)} {fp:List Addr} {h1:Heap} {m:Str->Option Value} {tk:Nat}
  (I:Inv X pins σ H s) (hf:∀ b∈fp,FpOk X pins H b) (hfl:∀ b∈fp,b<s.heap.objs.size) (S:CompSc sc) (C:Caps X sc cl fr)
  (old:∀ b o,s.heap.get? b=some o->h1.get? b=some o) (hn:h1.Ns (s.heap.objs.size+1) m) (hD:h1.get? s.heap.objs.size=some (accObj [])) :
  Inv (compCx X (own++fr.map (·.1)) sc cl s H fp) [(s.heap.objs.size,accObj [])] (compSt own fr σ) H { s with heap:=h1,toks:=tk }:=by
 have cellLt:∀ x c,cl.lookup x=some c->c<s.heap.objs.size:=fun x c e=>by
  obtain ⟨v,z⟩:=I.cell x c (C.sub x c e);exact z.lt
 have sizeC:s.heap.objs.size≤s.heap.objs.size+1:=vi _
 refine ⟨⟨I.ok.mod,S.kind,I.ok.glob,I.ok.blt,sizeC,fun x y c e1 e2=>I.ok.inj x y c (C.sub x c e1) (C.sub y c e2),fun x hx=>C.has x hx,fun _ _ z=>(by cases z),I.ok.hd,I.ok.frames,.inl rfl,fun b hb=>⟨?_,fun x c e z=>?_⟩,
  I.bs,qh I.ok.bsz I.sz,fun b o e hb=>?_,fun b hb z=>?_,I.stack,I.stkFree⟩,rfl,I.bare,Un.kept old,⟨m,hn,fun i x v e1 e2 e3=>?_⟩,fun x c e=>?_,I.hok.fresh sizeC,fun x c e=>I.freeC x c (C.sub x c e),fun p hp=>?_,I.hok.kept old,?_⟩
 ·exact qu (vt (hfl b hb))
 ·exact (hf b hb).2.2.2.2.1 x c (C.sub x c e) z
 ·rcases (hf b hb).2.2.2.1 with z | z
  ·exact I.ok.noex b o e z
  ·exact absurd (zn (Heap.lt_size e) (qh I.ok.bsz z)) (wg _)
 ·exact I.stkNot (hf b hb).2.1 (hf b hb).2.2.1 z
 ·obtain ⟨p,hp,rfl,e4⟩:=xAkt rfl e1 e2
  obtain ⟨c1,c2,c3,c4⟩:=C.cap p hp;obtain ⟨m0,hn0,hl⟩:=I.loc;obtain ⟨u,r,l⟩:=hl p.2 p.1 v c1 e4 c3;refine ⟨u,r,.inr ⟨c4,?_⟩⟩;rcases l with ⟨k,_⟩ | ⟨_,c,hc,ho,hoe,hod⟩
  ·exact absurd k c2
  ·obtain ⟨c',hc'⟩:=C.has p.1 c4
   have:=C.sub p.1 c' hc';rw [hc] at this;cases this;exact ⟨c,hc',ho,old _ _ hoe,hod⟩
 ·obtain ⟨v,o,ho,hd⟩:=I.cell x c (C.sub x c e)
  exact ⟨v,o,old _ _ ho,hd⟩
 ·have hp':p=(s.heap.objs.size,accObj []):=by simpa [compCx] using hp
  subst hp';refine ⟨hD,I.hok.fresh (qg _),?_,?_,fun v z=>by cases z⟩
  ·exact qu (vy _)
  ·exact I.stkNot (wx I.lt) (I.nofs (qg _))
 ·show (compSt own fr σ).length=(own++fr.map (·.1)).length
  unfold compSt;rw [qm,qm,qj,qj,qj]
theorem HOk.track {P:Program} {w:World} {H:Hp} {h:Heap} {a:Addr} {o:HO} (x:HOk P w H h) (hn:H a=none) (new:ObjOk P w (upd H a o) h a o):HOk P w (upd H a o) h:=fun b u e=>by
 by_cases hb:b=a
 ·subst hb;rw [xAae] at e;cases e;exact new
 ·rw [xAag hb] at e
  exact (x b u e).stay (fun c v _ q=>q) (fun c q=>by rw [xAag (xAab q hn)];exact q) fun c xs q=>by rw [xAag (xAab q hn)];exact q
theorem Inv.unblock {pins:List (Addr×Obj)} {σ:St} {H H3:Hp} {s s4:Shared} {N:List Str} {σ3:St} {sc:Scope} {cl:List (Str×Addr)} {fp:List Addr} {h':Heap} {ys:List V} {us:List Value}
  (I:Inv X pins σ H s) (hf:∀ b∈fp,FpOk X pins H b) (I4:Inv (compCx X N sc cl s H fp) [(s.heap.objs.size,accObj us)] σ3 H3 s4) (hv:Vals ys us) (hz:ys.length≤sizeLine)
  (hs:Heap.SameBut (s.heap.objs.size+1) s4.heap h'):Inv X pins σ (upd H3 s.heap.objs.size (.lst ys)) { s4 with heap:=h' }:=by
 obtain ⟨eD,nD,neD,_,_⟩:=I4.pin (s.heap.objs.size,accObj us) (List.mem_append_right _ (by simp));have eD:s4.heap.get? s.heap.objs.size=some (accObj us):=eD;have nD:H3 s.heap.objs.size=none:=nD;have b4:Un (frs X.stack) fp H H3 s.heap s4.heap:=I4.base;have nC:H3 (s.heap.objs.size+1)=none:=I4.free;have neC:∀ b o,s.heap.get? b=some o->b≠s.heap.objs.size+1:=fun b o e=>qu (vt (Heap.lt_size e));have neD':∀ b o,s.heap.get? b=some o->b≠s.heap.objs.size:=fun b o e=>qu (Heap.lt_size e);have k4:∀ b o,b≠s.heap.objs.size+1->s4.heap.get? b=some o->h'.get? b=some o:=fun b o hb e=>hs.extBut b o hb e
 refine I.call' (s':={ s4 with heap:=h' }) (ch:=fp) I4.os ⟨fun b o e n h1 h2=>k4 b o (neC b o e) (b4.keep b o e n h1 h2),fun b o e n h1 h2=>?_,fun b o e n h2=>?_,fun b o e h2=>?_,
  fun b xs e=>?_,fun b o u e=>?_,fun b ps e=>?_⟩ ?_ I4.bare fun b hb=>⟨(hf b hb).2.2.2.1,(hf b hb).2.1,(hf b hb).2.2.2.2.1,(hf b hb).2.2.2.2.2⟩
 ·obtain ⟨sl,q⟩:=b4.slot b o e n h1 h2
  exact ⟨sl,k4 b _ (neC b o e) q⟩
 ·rw [xAag (neD' b o e)];exact b4.free b o e n h2
 ·obtain ⟨o',q⟩:=b4.there b o e h2
  exact ⟨o',k4 b _ (neC b o e) q⟩
 ·have q:=b4.tups b xs e
  rw [xAag (xAab q nD)];exact q
 ·have q:=b4.frzs b o u e
  rw [xAag (xAab q nD)];exact q
 ·obtain ⟨more,q⟩:=b4.tbls b ps e
  exact ⟨more,by rw [xAag (xAab q nD)];exact q⟩
 ·have hk:HOk X.prog X.w H3 h':=fun b u e=>(I4.hok b u e).stay (fun c v hc q=>k4 c v (fun z=>by
   subst z;rcases hc with hc | hc
   ·subst hc;rw [nC] at e;cases e
   ·rw [nC] at hc;cases hc) q) (fun _ q=>q) fun _ _ q=>q
  refine hk.track nD ⟨hz,us,us.length,hv,k4 _ _ (qu (vy _)) eD⟩
theorem xAhu {elt tg iter:Expr} {ifs:List Expr} {sc:Scope} {pos:Pos} {own:List Str} {fr:List (Str×Nat)} {cl:List (Str×Addr)} {g:TG} {tt:TT} {te:TE} {RR:Value->Addr->Result->Shared->Prop} {E:Value->Shared->Prop}
  {pins:List (Addr×Obj)} {σ:St} {H2:Hp} {s2:Shared} {Q:VK} {it:Addr} {fp:List Addr} {tn:Nat->Heap->Prop} {J:It} (hc:X.calm=true) (S:CompSc sc) (C:Caps X sc cl fr)
  (hg:∀ s H fp,PG (compCx X (own++fr.map (·.1)) sc cl s H fp) tg g) (hfr:∀ σ,Fresh g (compSt own fr σ)) (ht:∀ s H fp,PTs (compCx X (own++fr.map (·.1)) sc cl s H fp) ifs tt)
  (he:∀ s H fp,PE (compCx X (own++fr.map (·.1)) sc cl s H fp) elt te) (I2:Inv X pins σ H2 s2) (T:Turn X.prog X.w X.K tg J fp it tn) (st2:tn 0 s2.heap) (f2:∀ b∈fp,FpOk X pins H2 b) (hW:LCb own fr g tt te σ Q J H2)
  (hRR:∀ s5 H4 ys us,Inv (compCx X (own++fr.map (·.1)) sc cl s2 H2 fp) [(s2.heap.objs.size,accObj us)] (compSt own fr σ) H4 s5->Vals ys us->ys.length≤sizeLine->(∀ p,H4 p=none->Q (.ref p) (upd H4 p (.lst ys))) →
   RR (.ref s2.heap.objs.size) (s2.heap.objs.size+1) (.ok .next) s5) :
  wpAny (model X.prog X.w) X.A (newList []) (fun acc s3=>wpAny (model X.prog X.w) X.A (newFunctionEnv sc X.env.globals cl [] X.env.qual none .none (some X.env)) (fun ce s4 =>
   codeAny (model X.prog X.w) X.A (.compStart (.ListComp elt [⟨tg,iter,ifs,0⟩] sc pos) 0 (.ref it) acc { ce with scope:=relabel sc X.env }) (RR acc ce.locals) s4) E s3) E s2:=by
 obtain ⟨W,⟨m0,w0⟩,turn⟩:=hW
 have fpl:∀ b∈fp,b<s2.heap.objs.size:=fun b hb=>by
  obtain ⟨o,e,_⟩:=T.obj _ _ st2 b hb;exact Heap.lt_size e
 refine wpAny_newObj_type (wpAny_newFunctionEnv S.cell (by intro y hy;simp at hy) (fun h₁ hns₁ hsb₁=>?_) S.kind);dsimp only at hns₁ hsb₁ ⊢;generalize hH2:s2.heap.push { cls:=.type "list",dict:=none,data:=.seq ([]:List Value).toArray }=G at hns₁ hsb₁ ⊢
 have hC:G.objs.size=s2.heap.objs.size+1:=by rw [← hH2,Heap.size_push]
 rw [hC] at hns₁ hsb₁ ⊢
 have old:∀ b o,s2.heap.get? b=some o->h₁.get? b=some o:=fun b o e=>by
  exact hsb₁.extBut b o (qu (vt (Heap.lt_size e))) (Heap.get?_push_of_some _ (hH2▸Heap.get?_push_of_some _ e))
 have hacc:h₁.get? s2.heap.objs.size=some (accObj []):=hsb₁.extBut _ _ (qu (vy _)) (Heap.get?_push_of_some _ (hH2▸Heap.get?_push_size _ rfl));have I3:=I2.block (own:=own) (tk:=s2.toks+([]:List (Str×Value)).length) f2 fpl S C old hns₁ hacc
 have stat:∀ {H':Hp} {us:List Value},(∀ b∈fp,H' b=none)->∀ b∈fp,FpOk (compCx X (own++fr.map (·.1)) sc cl s2 H2 fp) [(s2.heap.objs.size,accObj us)] H' b:=fun {H' us} hn b hb=>by
  obtain ⟨_,g1,g2,g3,g4,g5⟩:=f2 b hb;have hbl:=fpl b hb;refine ⟨hn b hb,?_,I2.stkNot g1 g2,.inl hb,fun x c e=>g4 x c (C.sub x c e),fun p hp=>?_⟩
  ·exact qu (vt hbl)
  ·have hp':p=(s2.heap.objs.size,accObj us):=by simpa [compCx] using hp
   subst hp';exact wx hbl
 have loop:∀ s3:Shared,s3={ s2 with heap:=h₁,toks:=s2.toks+([]:List (Str×Value)).length } →
   codeAny (model X.prog X.w) X.A (.compLoop (.ListComp elt [⟨tg,iter,ifs,0⟩] sc pos) 0 (.ref it) (.ref s2.heap.objs.size) (compEnvC sc cl (s2.heap.objs.size+1) X.env))
    (RR (.ref s2.heap.objs.size) (s2.heap.objs.size+1)) s3:=by
  rintro s3 rfl
  refine xAnz (fun n s'=>∃ i ys us H',Vals ys us/\Inv (compCx X (own++fr.map (·.1)) sc cl s2 H2 fp) [(s2.heap.objs.size,accObj us)] (compSt own fr σ) H' s'/\tn i s'.heap/\(∀ b∈fp,H' b=none)/\ys.length≤sizeLine/\W i n ys H') ?_ m0
   ⟨0,[],[],H2,.nil,I3,T.keep _ _ _ st2 fun b _ o e=>old b o e,fun b hb=>(f2 b hb).1,zm _,w0⟩
  rintro n s4 ⟨i,ys,us,H4,hv,I4,st4,fr4,hz,w4⟩;rcases turn i n ys H4 w4 with ⟨stop,fin⟩ | ⟨go,hlt,step⟩
  ·refine thn (T.done (compCx X (own++fr.map (·.1)) sc cl s2 H2 fp) rfl rfl rfl hc i _ s4 _ H4 _ I4 (stat fr4) st4 stop) fun r s5 ⟨hr,I5⟩=>?_
   subst hr;exact hRR s5 H4 ys us I5 hv hz fin
  ·refine thn (T.item (compCx X (own++fr.map (·.1)) sc cl s2 H2 fp) rfl rfl rfl hc i _ s4 _ H4 _ I4 (stat fr4) st4 go) fun r s5 ⟨u,hr,h5⟩=>?_
   subst hr;refine thn h5 fun _ s6 ⟨x,H6,I6,r6,y6,st6,fr6⟩=>?_;have I6':=I6.pinned (stat fr6) (T.obj _ _ st6);refine thn (hg s2 H2 fp _ s6 _ H6 x u _ I6' r6 (hfr σ x H6 _ (step x H6 y6))) fun _ s7 ⟨σ7,H7,I7,k7,q7⟩=>?_;refine thn (ht s2 H2 fp _ s7 σ7 H7 _ I7 q7) fun ok s8 ⟨H8,I8,q8⟩=>?_
   have fps:∀ {pins':List (Addr×Obj)} {σ':St} {H':Hp} {s':Shared},Inv (compCx X (own++fr.map (·.1)) sc cl s2 H2 fp) ([(s2.heap.objs.size,accObj us)]++pinsAt fp s6.heap) σ' H' s'->∀ b∈fp,(∀ o,s6.heap.get? b=some o->s'.heap.get? b=some o)/\H' b=none:=fun {pins' σ' H' s'} I' b hb=>by
    obtain ⟨o,e,_⟩:=T.obj _ _ st6 b hb;have z:=I'.pin (b,o) (z9 _ (z9 _ (xAdm hb e)));exact ⟨fun o' e'=>by rw [e] at e';cases e';exact z.1,z.2.1⟩
   cases ok with
   | false =>
    rw [if_neg zh] at q8;obtain ⟨m',hm,w8⟩:=q8;rw [if_neg zh];exact ⟨m',hm,i+1,ys,us,H8,hv,(I8.unpinned).weak k7.1 k7.2,T.keep _ _ _ st6 fun b hb o e=>(fps (pins':=[]) I8 b hb).1 o e,fun b hb=>(fps (pins':=[]) I8 b hb).2,hz,w8⟩
   | true =>
    rw [if_pos rfl] at q8;rw [if_pos rfl];refine thn (he s2 H2 fp _ s8 σ7 H8 _ I8 q8) fun y s9 ⟨v,H9,I9,r9,m',hm,w9⟩=>?_;have pD:=I9.pin (s2.heap.objs.size,accObj us) (List.mem_append_right _ (List.mem_append_left _ (by simp)));have zD:s9.heap.get? s2.heap.objs.size=some (accObj us):=pD.1;have nD:H9 s2.heap.objs.size=none:=pD.2.1;refine append_at (hsz:=by show us.toArray.size≤sizeLine;rw [zd,← hv.length];exact hz) zD fun h5 hs5 hD5=>?_;have Ia:Inv (compCx X (own++fr.map (·.1)) sc cl s2 H2 fp) (pinsAt fp s6.heap) σ7 H9 s9:=I9.pins_of fun p hp=>I9.pin p (z9 _ (z9 _ hp));have neD:s2.heap.objs.size≠s2.heap.objs.size+1:=qu (vy _)
    have Ib:Inv (compCx X (own++fr.map (·.1)) sc cl s2 H2 fp) (pinsAt fp s6.heap) σ7 H9 { s9 with heap:=h5,toks:=s9.toks }:=Ia.turned (it:=s2.heap.objs.size) (fun b o hb e=>hs5.extBut b o hb e) nD neD (.inr (qg _)) (fun x c e z=>by
      obtain ⟨v',q⟩:=I2.cell x c (C.sub x c e);have q':=q.lt;rw [z] at q'
      exact wg _ q') fun p hp z=>by
      have hp':p∈pinsAt fp s6.heap:=by simpa [compCx] using hp
      have q':=fpl p.1 (xAhl hp').1;rw [z] at q';exact wg _ q'
    have Ic:Inv (compCx X (own++fr.map (·.1)) sc cl s2 H2 fp) [(s2.heap.objs.size,accObj (us++[y]))] σ7 H9 { s9 with heap:=h5,toks:=s9.toks }:=Ib.pins_of fun p hp=>by
     have hp':p=(s2.heap.objs.size,accObj (us++[y])):=by simpa using hp
     subst hp';exact ⟨hD5.trans (congrArg some (xAqx us y)),nD,neD,pD.2.2.2.1,fun v z=>by cases z⟩
    refine ⟨m',hm,i+1,ys++[v],us++[y],H9,hv.append (.cons r9 .nil),Ic.weak k7.1 k7.2,T.keep _ _ _ st6 fun b hb o e=>?_,fun b hb=>(fps (pins':=[]) I9 b hb).2,?_,w9⟩
    ·exact hs5.extBut b o (qu (fpl b hb)) ((fps (pins':=[]) I9 b hb).1 o e)
    ·rw [qm];exact hlt
 exact codeAny_compStart_list (loop _ rfl) (T.self _ 0 _ _ _ (T.keep _ _ _ st2 fun b _ o e=>old b o e) (loop _ rfl))
theorem xAbs {elt tg iter:Expr} {ifs:List Expr} {sc:Scope} {pos:Pos} {own:List Str} {fr:List (Str×Nat)} {cl:List (Str×Addr)} {wi:TI} {g:TG} {tt:TT} {te:TE} (hc:X.calm=true) (hi:PI X tg iter wi) (S:CompSc sc) (C:Caps X sc cl fr)
  (hg:∀ s H fp,PG (compCx X (own++fr.map (·.1)) sc cl s H fp) tg g) (hfr:∀ σ,Fresh g (compSt own fr σ)) (ht:∀ s H fp,PTs (compCx X (own++fr.map (·.1)) sc cl s H fp) ifs tt)
  (he:∀ s H fp,PE (compCx X (own++fr.map (·.1)) sc cl s H fp) elt te) (hs:∀ x,foldedSetIterable iter X.env x=pure x:=by intro _;rfl) :
  PE X (.ListComp elt [⟨tg,iter,ifs,0⟩] sc pos) (tLC own fr wi g tt te):=by
 intro pins s σ H Q I h;rw [eval_ListComp];refine wpAny_comprehension_free (use:=none) rfl hs C.clos S.kind S.nms (thn (hi pins s σ H _ I h) fun xv s1 h1=>thn h1 fun itv s2 h2=>?_);obtain ⟨it,fp,tn,J,H2,e,I2,T,st2,f2,hW⟩:=h2;subst e;refine xAhu (RR:=fun acc A=>compPost (model X.prog X.w) X.A X.xe none (EP X pins σ Q) acc A) hc S C hg hfr ht he I2 T st2 f2 hW fun s5 H4 ys us I5 hv hz fin=>?_;obtain ⟨m5,hn5,_⟩:=id I5.loc;have nD:H4 s2.heap.objs.size=none:=(I5.pin (s2.heap.objs.size,accObj us) (List.mem_append_right _ (by simp))).2.1;exact ⟨m5,hn5,fun h' hs'=>⟨.ref s2.heap.objs.size,upd H4 s2.heap.objs.size (.lst ys),I2.unblock f2 I5 hv hz hs',rfl,fin _ nD⟩⟩
theorem xAku {i:Nat} {y:Str} {py spos:Pos} {elt tg iter:Expr} {ifs:List Expr} {sc:Scope} {pos:Pos} {own:List Str} {fr:List (Str×Nat)} {cl:List (Str×Addr)} {wi:TI} {g:TG} {tt:TT} {te:TE} (hN:X.N.Nodup) (hy:X.N[i]?=some y)
  (hx:Loc X.env.scope y) (hc:X.calm=true) (hi:PI X tg iter wi) (S:CompSc sc) (C:Caps X sc cl fr)
  (hg:∀ s H fp,PG (compCx X (own++fr.map (·.1)) sc cl s H fp) tg g) (hfr:∀ σ,Fresh g (compSt own fr σ)) (ht:∀ s H fp,PTs (compCx X (own++fr.map (·.1)) sc cl s H fp) ifs tt)
  (he:∀ s H fp,PE (compCx X (own++fr.map (·.1)) sc cl s H fp) elt te) (hs:∀ x,foldedSetIterable iter X.env x=pure x:=by intro _;rfl)
  (hsw:swapsWith (.ListComp elt [⟨tg,iter,ifs,0⟩] sc pos) (some (.Name y py)) spos.line X.env=pure true:=by rfl) (hf:X.fn y=true\/X.env.scope.names.lookup y=some .local:=by first | exact .inl rfl | exact .inr rfl | assumption) :
  PS X (.Assign [.Name y py] (.ListComp elt [⟨tg,iter,ifs,0⟩] sc pos) spos) (tAsg (tLC own fr wi g tt te) (gName i)):=by
 intro pins s σ H D I h;rw [exec_Assign_Name_used _ _ _ _ hsw];refine wpAny_bind (wpAny_standAt (wpAny_bind ?_));show wpAny _ X.A (do let _ ← comprehension (.ListComp elt [⟨tg,iter,ifs,0⟩] sc pos) sc X.env _ (newList []) false (eval iter X.env) (some (assign (.Name y py) X.env))) _ _ s
 refine wpAny_bind (thn (wpAny_comprehension_free (use:=some (assign (.Name y py) X.env)) (Q:=fun _ s'=>SP X pins D .next s') rfl hs C.clos S.kind S.nms
  (thn (hi pins s σ H _ I h) fun xv s1 h1=>thn h1 fun itv s2 h2=>?_)) fun _ s' hq=>wpAny_pure (wpAny_pure hq))
 obtain ⟨it,fp,tn,J,H2,e,I2,T,st2,f2,hW⟩:=h2;subst e;refine xAhu (RR:=fun acc A=>compPost (model X.prog X.w) X.A X.xe (some (assign (.Name y py) X.env)) (fun _ s'=>SP X pins D .next s') acc A) hc S C hg hfr ht he I2 T st2 f2 hW fun s5 H4 ys us I5 hv hz fin=>?_;obtain ⟨m5,hn5,_⟩:=id I5.loc;have nD:H4 s2.heap.objs.size=none:=(I5.pin (s2.heap.objs.size,accObj us) (List.mem_append_right _ (by simp))).2.1;have nC:H4 (s2.heap.objs.size+1)=none:=I5.free;have I6:Inv X pins σ (upd H4 s2.heap.objs.size (.lst ys)) s5:=I2.unblock f2 I5 hv hz (Heap.SameBut.refl _ _);show wpAny _ X.A (assign (.Name y py) X.env (.ref s2.heap.objs.size)) _ _ s5;refine wpAny_assign_Name (xAhk (v:=.ref s2.heap.objs.size) I6 hN hy hx rfl (fun s7 I7 ⟨a,hsb,ha⟩=>?_) hf);have Clt:s2.heap.objs.size<s2.heap.objs.size+1:=vy _;have neL:s2.heap.objs.size+1≠X.env.locals:=wx (yq I2.lt Clt)
 have neCell:∀ x c,X.env.cells.lookup x=some c->c≠s2.heap.objs.size+1:=fun x c e=>by
  obtain ⟨v',q⟩:=I2.cell x c e;exact qu (yq q.lt Clt)
 have neA:s2.heap.objs.size+1≠a:=by
  rcases ha with rfl | ha
  ·exact neL
  ·exact Ne.symm (neCell _ _ ha)
 refine ⟨m5,hn5.sameBut hsb neA,fun h' hs'=>⟨_,_,?_,fin _ nD⟩⟩
 exact I7.turned (it:=s2.heap.objs.size+1) (t':=s7.toks) (fun b o hb e=>hs'.extBut b o hb e) (by rw [xAag (wx Clt)];exact nC) neL (.inr (qh I2.sz (zv Clt))) neCell fun p hp z=>by
  have q:=Heap.lt_size (I2.pin p hp).1;rw [z] at q;exact absurd (yq Clt q) (wg _)
end
section
variable {X:Cx} {tg:Expr}
end
section
variable {X:Cx}
theorem xAgw (hu:X.A.units<cLine):OpR X (compareOp .Eq) (fun x y H Q=>∃ a b xs,x=.ref a/\y=.ref b/\SqL X.K H a xs/\SqL X.K H b []/\Q (.bl (decide (xs=[]))) H):=by
 intro pins s σ H x y v u Q I rx ry h;obtain ⟨a,b,xs,rfl,rfl,ha,hb,q⟩:=h;cases rx;cases ry;obtain ⟨its,rv,p,hz⟩:=I.list ha;obtain ⟨its2,rv2,p2,_⟩:=I.list hb;cases rv2
 cases rv with
 | nil=>exact PySem.SeqAt.eq_listAt (e:=fun _=>true) p.isList p2.isList rfl hu (fun j h1 _=>absurd h1 (by simp)) ⟨.bl true,H,I,rfl,by simpa using q⟩
 | cons r1 r2=>exact PySem.SeqAt.eq_list_lengthsAt p.isList p2.isList (by simp) hu ⟨.bl false,H,I,rfl,by simpa using q⟩
end
section
variable {X:Cx} {pins:List (Addr×Obj)} {σ σ':St} {H H':Hp} {s s':Shared}
theorem Inv.track {a:Addr} {o:HO} (I0:Inv X pins σ H s) (I:Inv X pins σ' H' s') (ha:s.heap.objs.size≤a) (hn:H' a=none) (new:ObjOk X.prog X.w (upd H' a o) s'.heap a o):Inv X pins σ' (upd H' a o) s':=by
 have ne:∀ b,b<s.heap.objs.size->b≠a:=fun b hb z=>by omega
 refine ⟨I.ok,I.os,I.bare,⟨I.base.keep,I.base.slot,fun b u e n hx=>?_,I.base.there,fun b xs e=>?_,fun b u xs e=>?_,fun b ps e=>?_⟩,I.loc,I.cell,?_,fun x c e=>?_,fun p hp=>?_,I.hok.track hn new,I.len⟩
 ·rw [xAag (ne b (zn (Heap.lt_size e) I0.sz))]
  exact I.base.free b u e n hx
 ·have q:=I.base.tups b xs e
  rw [xAag (xAab q hn)];exact q
 ·have q:=I.base.frzs b u xs e
  rw [xAag (xAab q hn)];exact q
 ·obtain ⟨more,q⟩:=I.base.tbls b ps e
  exact ⟨more,by rw [xAag (xAab q hn)];exact q⟩
 ·rw [xAag (ne _ I0.lt)];exact I.free
 ·obtain ⟨v,q⟩:=I0.cell x c e
  rw [xAag (ne _ q.lt)];exact I.freeC x c e
 ·obtain ⟨h1,h2,h3⟩:=I.pin p hp
  refine ⟨h1,?_,h3⟩;rw [xAag (ne _ (Heap.lt_size (I0.pin p hp).1))];exact h2
theorem Inv.turnedN {t':Nat} {h':Heap} {ch:List Addr} (I:Inv X pins σ H s) (hf:∀ b∈ch,FpOk X pins H b) (k:∀ b o,b∉ch->s.heap.get? b=some o->h'.get? b=some o):Inv X pins σ H { s with heap:=h',toks:=t' }:=by
 have nch:∀ b u,H b=some u->b∉ch:=fun b u e z=>by rw [(hf b z).1] at e;cases e
 refine I.step (g':=s.gens) (d':=s.drawn) (ch:=ch) (fun b hb=>⟨(hf b hb).2.2.2.1,(hf b hb).2.1,(hf b hb).2.2.2.2.1,(hf b hb).2.2.2.2.2⟩) (fun b o _ _ hc e _=>k b o hc e) (fun b o _ _ hc e _=>⟨o.slots,k b o hc e⟩) (fun _ _ _ _ n=>n)
  (fun b o hc e=>⟨o,k b o hc e⟩) (fun _ _ e=>e) (fun _ _ _ e=>e) (fun b ps e=>⟨#[],by rw [e];simp⟩) (fun m hm=>?_) (fun b u e=>?_) I.bare
 ·obtain ⟨o,es,ep,ho,r⟩:=hm
  exact ⟨o,es,ep,k _ o (fun z=>(hf _ z).2.1 rfl) ho,r⟩
 ·refine (I.hok b u e).stay (fun c v hc q=>k c v ?_ q) (fun _ q=>q) fun _ _ q=>q
  rcases hc with z | z
  ·rw [z];exact nch b u e
  ·exact nch c _ z
end
def Ite (K:PySem.W.Frag) (a:Addr):It :=
 ⟨fun i H=>∃ xs x,SqL K H a xs/\xs[i]?=some x,fun i H x H'=>∃ p v,H p=none/\(∀ xs,SqL K H a xs->xs[i]?=some v)/\x=.ref p/\H'=upd H p (.tup [.int i,v]),fun i H=>∃ xs,SqL K H a xs/\xs.length=i⟩
theorem xAoa {P:Program} {w:World} {K:PySem.W.Frag} {es:List Expr} {k:Nat} {tp:Pos} (a it e:Addr) (hae:a≠e) (hai:a≠it) (hei:e≠it) :
  Turn P w K (.Tuple es k tp) (Ite K a) [e,it] e (fun i h=>(∃ old,IsEnum h e it i old)/\h.IsListIter it a i) where
 mem:=by simp
 obj:=fun i h st b hb=>by
  rcases qw.mp hb with rfl | hb
  ·obtain ⟨⟨old,q⟩,_⟩:=st
   exact ⟨_,q,fun v z=>by cases z⟩
  ·have q:b=it:=by simpa using hb
   subst q;obtain ⟨_,o,q,c,d⟩:=st;exact ⟨o,q,fun v z=>by rw [d] at z;cases z⟩
 keep:=fun i h h' st kk=>⟨let ⟨old,q⟩:=st.1;⟨old,kk e (by simp) _ q⟩,st.2.at fun o q=>kk it (by simp) o q⟩
 item:=by
  intro X hP hw hK hc i pins s σ H E I hf st hg;subst hP hw hK;obtain ⟨xs,x,hq,hx⟩:=hg;obtain ⟨its,rv,p,hz⟩:=I.list hq;obtain ⟨u,hu,ru⟩:=rv.get hx;obtain ⟨⟨old,he⟩,hit⟩:=st
  have hil:i<its.toArray.size:=by
   have:=(ze.mp hu).1;simpa using this
  refine wpAny_pyNext_enum_itemD (Draws.list (show X.A.in1.handled=none from I.ok.hd hc) it a hai its.toArray) he ⟨hit,p.isList⟩ hil hei (by simp [hei,Ne.symm hae]) fun x' h' tk hP' ho st' hT hsz hk=>?_
  have ex:x'=u:=by
   have q:its.toArray[i]?=some x':=hP'
   have q':its[i]?=some x':=by simpa using q
   rw [hu] at q';exact (Option.some.inj q').symm
  subst ex;refine ⟨_,rfl,wpAny_letOwnedTupleGo_enum ho fun h'' he'' hs''=>?_⟩
  have I1:Inv X pins σ H { s with heap:=h'',toks:=tk+1 }:=I.turnedN hf fun b o hb q=>hs''.extBut b o (fun z=>hb (by simp [z])) (hk b o (fun z=>hb (by simp [z])) (fun z=>hb (by simp [z])) q)
  have hTe:s.heap.objs.size≠e:=wx (Heap.lt_size he);have eT:h''.get? s.heap.objs.size=some { cls:=.type "tuple",data:=.seq #[.int i tk,x'] }:=hs''.extBut _ _ hTe hT;have nT:H s.heap.objs.size=none:=I.hok.fresh (qg _);refine ⟨.ref s.heap.objs.size,upd H s.heap.objs.size (.tup [.int i,x]),I.track I1 (Nat.le_refl _) nT ⟨?_,[.int i tk,x'],.cons ⟨tk,rfl⟩ (.cons ru .nil),⟨_,eT,rfl,_,rfl⟩⟩,rfl,⟨_,x,nT,fun ys hy=>by rw [I.list_inj hy hq];exact hx,rfl,rfl⟩,⟨⟨_,by simpa using he''⟩,?_⟩,fun b hb=>?_⟩
  ·show 2≤sizeLine
   decide
  ·obtain ⟨o,q,r⟩:=st'.1
   exact ⟨o,hs''.extBut _ _ (Ne.symm hei) q,r⟩
  ·obtain ⟨o,q⟩:∃ o,s.heap.get? b=some o:=by
    rcases qw.mp hb with rfl | hb
    ·exact ⟨_,he⟩
    ·have q:b=it:=by simpa using hb
     subst q;obtain ⟨o,q,_⟩:=hit;exact ⟨o,q⟩
   rw [xAag (qu (Heap.lt_size q))];exact (hf b hb).1
 done:=by
  intro X hP hw hK hc i pins s σ H E I hf st hg;subst hP hw hK;obtain ⟨xs,hq,hx⟩:=hg;obtain ⟨its,rv,p,hz⟩:=I.list hq;obtain ⟨⟨old,he⟩,hit⟩:=st;have hl:=rv.length
  have hi:i=its.toArray.size:=by rw [zd];omega
  have hD:=Draws.list (prog:=X.prog) (w:=X.w) (show X.A.in1.handled=none from I.ok.hd hc) it a hai its.toArray;rw [hi] at hit
  exact wpAny_pyNext_enum_endD hD he ⟨hit,p.isList⟩ fun h' eb=>⟨rfl,I.turnedN hf fun b o hb q=>eb b o (fun z=>hb (by simp [z])) q⟩
 self:=fun _ _ _ _ _ st h=>let ⟨old,q⟩:=st.1;wpAny_pyIter_enum q h
section
variable {X:Cx}
def iEnum (K:PySem.W.Frag) (ta:TA):TI:=fun σ H R=>ta σ H fun vs H1=>∃ a,vs=[.ref a]/\(∃ xs,SqL K H1 a xs)/\R (Ite K a) H1
theorem xAti {es:List Expr} {k:Nat} {tp:Pos} {a:Expr} {ta:TA} {p pos:Pos} (hg:Gl X "enumerate") (hm:X.mg "enumerate"=none) (ha:PA X [a] ta) (hs:starEach [a] X.env=[(false,eval a X.env)]:=by rfl) :
  PI X (.Tuple es k tp) (.Call (.Name "enumerate" p) [a] [] pos) (iEnum X.K ta):=by
 intro pins s σ H R I h;refine Call_ (xAjg I hg hm boot_enumerate (PyProof.Rows.callWith_type1 (thn (ha pos pins s σ H _ I h) fun us s1 ⟨vs,H1,I1,r1,q1⟩=>?_) hs rfl));obtain ⟨l,e,⟨xs,hq⟩,q⟩:=q1;subst e;obtain ⟨u,rfl,ru⟩:=vals1 r1;cases ru;obtain ⟨its,rv,pl,hz⟩:=I1.list hq
 have hlt:l<s1.heap.objs.size:=by obtain ⟨_,e,_⟩:=pl.isList;exact Heap.lt_size e
 refine call_enumerate_list pl.isList fun h' he hit hsz hk=>?_;refine wpAny_pyIter_enum he ?_;have I2:Inv X pins σ H1 { s1 with heap:=h' }:=I1.kept (t':=s1.toks) hk;refine ⟨s1.heap.objs.size+1,[s1.heap.objs.size+1,s1.heap.objs.size],_,_,H1,rfl,I2,xAoa l s1.heap.objs.size (s1.heap.objs.size+1) (qu (vt hlt)) (qu hlt) (wx (vy _)),⟨⟨_,he⟩,hit⟩,fun b hb=>?_,q⟩
 have hb':s1.heap.objs.size≤b:=by
  rcases qw.mp hb with rfl | hb
  ·exact vi _
  ·have e:b=s1.heap.objs.size:=by simpa using hb
   exact j9 e.symm
 exact I1.fpOk hb' (I1.hok.fresh hb')
end
theorem xAgx {sc:Scope} {env:Env} {x:Str} {k:NameKind} (h:(relabel sc env).names.lookup x=some k):∃ y∈sc.names,y.2=k\/y.2=.free:=by
 have hm:=PySem.mem_of_lookup h;obtain ⟨y,hy,e⟩:=qk.mp hm;refine ⟨y,hy,?_⟩;obtain ⟨n,k0⟩:=y;dsimp only at e
 split at e
 ·rename_i hc
  rw [zu,zu] at hc;exact .inr (beq_iff_eq.mp hc.1.1)
 ·cases e
  exact .inl rfl
theorem caps0 {X:Cx} {sc:Scope} (h:∀ y∈sc.names,y.2≠.free/\y.2≠.cell):Caps X sc [] [] where
 clos:=closureFor_none fun y hy=>(h y hy).1
 sub:=fun x c e=>by cases e
 has:=fun x e=>by
  exfalso;rcases e with e | e <;> obtain ⟨y,hy,z⟩:=xAgx e <;> rcases z with z | z
  ·exact (h y hy).2 z
  ·exact (h y hy).1 z
  ·exact (h y hy).1 z
  ·exact (h y hy).1 z
 cap:=fun p hp=>nomatch hp
theorem Same.up {H H':Hp} {p:Addr} {o:HO} (e:Same H H') (h:H' p=none):Same H (upd H' p o):=fun b u q=>by
 rw [xAag (xAab (e b u q) h)];exact e b u q
theorem Same.new {H:Hp} {p:Addr} {o:HO} (h:H p=none):Same H (upd H p o):=(Same.refl H).up h
theorem Same.wr {H H':Hp} {p:Addr} {o:HO} (e:Same H H') (h:H p=none):Same H (upd H' p o):=fun b u q=>by
 rw [xAag (xAab q h)];exact e b u q
section
variable {X:Cx}
def rIxA (K:PySem.W.Frag):R2:=fun x y H Q=>∃ p xs i,x=.ref p/\y=.int i/\SqL K H p xs/\0≤i/\i<(xs.length:Int)/\∀ v∈xs,Q v H
theorem xAek:IxR X (rIxA X.K):=by
 intro value slice pins s σ H x y v u Q I rx ry h hs;obtain ⟨p,xs,i,ex,ey,hq,h0,h1,q⟩:=h;obtain ⟨j,rfl⟩:=Int.eq_ofNat_of_zero_le h0
 have hj:j<xs.length:=by omega
 exact xAcb value slice pins s σ H x y v u Q I rx ry ⟨p,xs,j,xs[j],ex,ey,hq,xAdp (qi hj),q _ (yr hj)⟩ hs
end
theorem atI_in {α:Type} (xs:List α) (i:Int) (h0:0≤i) (h1:i<(xs.length:Int)):∃ v,atI xs i=some v:=by
 obtain ⟨j,rfl⟩:=Int.eq_ofNat_of_zero_le h0
 have hj:j<xs.length:=by omega
 exact ⟨xs[j],xAdp (qi hj)⟩
theorem xAci (x:Int) {m:Int} (h:0<m):0≤x % m:=Int.emod_nonneg _ (by omega)
theorem xAcp (x:Int) {m:Int} (h:0<m):x % m<m:=Int.emod_lt_of_pos _ h
section
variable {X:Cx} {es:List Expr} {t:TA} {pos:Pos}
def tTupA (t:TA):TE:=fun σ H Q=>t σ H fun xs H1=>xs.length≤sizeLine/\∀ p H',H1 p=none->Same H1 H'->H' p=some (.tup xs)->Q (.ref p) H'
def tLstA (t:TA):TE:=fun σ H Q=>t σ H fun xs H1=>xs.length≤sizeLine/\∀ p H',H1 p=none->Same H1 H'->H' p=some (.lst xs)->Q (.ref p) H'
def tDctA:TE:=fun _ H Q=>∀ p H',H p=none->Same H H'->H' p=some (.dK [])->Q (.ref p) H'
theorem xAam {x1} (h:PA X es t):PE X (.Tuple es x1 pos) (tTupA t):=by
 intro pins s σ H Q I hq;refine wpAny_Tuple_spliced (thn (h pos pins s σ H _ I hq) fun us s1 ⟨xs,H1,I1,r,z,q⟩=>⟨by rw [← r.length];exact z,?_⟩);have hf:H1 s1.heap.objs.size=none:=I1.hok.fresh (qg _);refine ⟨.ref s1.heap.objs.size,upd H1 s1.heap.objs.size (.tup xs),I1.laid (t':=s1.toks) (fun b u e=>Heap.get?_push_of_some _ e) (qg _) ?_,rfl,q _ _ hf (Same.new hf) xAae⟩;exact ⟨z,us,r,⟨_,Heap.get?_push_size _ rfl,rfl,_,rfl⟩⟩
theorem xAan (h:PA X es t):PE X (.List es pos) (tLstA t):=by
 intro pins s σ H Q I hq;refine wpAny_List_spliced (thn (h pos pins s σ H _ I hq) fun us s1 ⟨xs,H1,I1,r,z,q⟩=>⟨by rw [← r.length];exact z,?_⟩);have hf:H1 s1.heap.objs.size=none:=I1.hok.fresh (qg _);refine ⟨.ref s1.heap.objs.size,upd H1 s1.heap.objs.size (.lst xs),I1.laid (t':=s1.toks) (fun b u e=>Heap.get?_push_of_some _ e) (qg _) ?_,rfl,q _ _ hf (Same.new hf) xAae⟩;exact ⟨z,us,0,r,Heap.get?_push_size _ rfl⟩
theorem xApi:PE X (.Dict [] [] pos) tDctA:=fun pins s σ H Q I h=>xAqv pins s σ H Q I fun p hp=>h p _ hp (Same.new hp) xAae
theorem OpR.imp {f:Value->Value->Sem Value} {r r':R2} (h:OpR X f r) (i:∀ x y H Q,r' x y H Q->r x y H Q):OpR X f r':=fun pins s σ H x y v u Q I rx ry q=>h pins s σ H x y v u Q I rx ry (i x y H Q q)
theorem SlR.imp {r r':V->Option Int->Option Int->Hp->VK->Prop} (h:SlR X r) (i:∀ x lo hi H Q,r' x lo hi H Q->r x lo hi H Q):SlR X r':=fun pins s σ H x v vl vu lo hi sl Q I rx hs pl pu q=>h pins s σ H x v vl vu lo hi sl Q I rx hs pl pu (i x lo hi H Q q)
def rCatA:R2:=fun x y H Q=>∃ l b xs zs,x=.ref l/\y=.ref b/\H l=some (.lst xs)/\H b=some (.lst zs)/\xs.length+zs.length≤sizeLine/\∀ p H',H p=none->Same H H'->H' p=some (.lst (xs++zs))->Q (.ref p) H'
theorem xAfz:OpR X (binaryOp .Add) rCatA:=op_cat.imp fun _ _ _ _ ⟨l,b,xs,zs,h1,h2,h3,h4,h5,q⟩=>⟨l,b,xs,zs,h1,h2,h3,h4,h5,fun p hp=>q p _ hp (Same.new hp) xAae⟩
def rSlLA (K:PySem.W.Frag):V->Option Int->Option Int->Hp->VK->Prop:=fun x lo hi H Q=>∃ a xs,x=.ref a/\SqL K H a xs/\∀ p H',H p=none->Same H H'->H' p=some (.lst (cutV xs lo hi))->Q (.ref p) H'
theorem xAkv:SlR X (rSlLA X.K):=xAsz.imp fun _ _ _ _ _ ⟨a,xs,h1,h2,q⟩=>⟨a,xs,h1,h2,fun p hp=>q p _ hp (Same.new hp) xAae⟩
end
def clo (env:Env):List (Str×NameKind)->List (Str×Addr)->List (Str×Addr)
 | [],acc=>acc
 | (n,k)::r,acc=>clo env r (if k==.free then (n,(env.cells.lookup n).getD 0)::acc else acc)
theorem xAjl {env:Env} {sc:Scope} (h:∀ y∈sc.names,y.2=.free->∃ c,env.cells.lookup y.1=some c):closureFor sc env=pure (clo env sc.names []):=by
 have all:∀ (names:List (Str×NameKind)) (acc:List (Str×Addr)),(∀ y∈names,y.2=.free->∃ c,env.cells.lookup y.1=some c) →
   (forIn names acc fun x r=>(match x with
    | (name,kind)=>if (kind==NameKind.free)=true then do
      let a ← cellOf env name
      pure (ForInStep.yield ((name,a)::r))
     else pure (ForInStep.yield r):Sem (ForInStep (List (Str×Addr)))))=pure (clo env names acc):=by
  intro names
  induction names with
  | nil=>intro acc _;rfl
  | cons x r ih =>
   intro acc hx;obtain ⟨n,k⟩:=x;rw [List.forIn_cons]
   cases hk:(k==NameKind.free) with
   | true =>
    obtain ⟨c,hc⟩:=hx (n,k) qp (beq_iff_eq.mp hk)
    have e:cellOf env n=pure c:=by unfold cellOf;rw [hc]
    dsimp only;rw [if_pos hk,e];refine Eq.trans (by first | rfl | simp) ((ih ((n,c)::acc) fun y hy=>hx y (List.mem_cons_of_mem _ hy)).trans ?_);show _=pure (clo env r (if (k==NameKind.free)=true then (n,(env.cells.lookup n).getD 0)::acc else acc));rw [if_pos hk,show env.cells.lookup n=some c from hc];rfl
   | false =>
    dsimp only;rw [if_neg (by rw [hk];exact zh)];refine Eq.trans (by first | rfl | simp) ((ih acc fun y hy=>hx y (List.mem_cons_of_mem _ hy)).trans ?_);show _=pure (clo env r (if (k==NameKind.free)=true then (n,(env.cells.lookup n).getD 0)::acc else acc));rw [if_neg (by rw [hk];exact zh)]
 have e:=all sc.names [] h
 show ((forIn sc.names [] fun x r=>(match x with
       | (name,kind)=>if (kind==NameKind.free)=true then do
         let a ← cellOf env name
         pure (ForInStep.yield ((name,a)::r))
        else pure (ForInStep.yield r):Sem (ForInStep (List (Str×Addr))))) >>= fun cs=>pure cs)=_
 rw [e];rfl
theorem xApj {env:Env}:∀ {names:List (Str×NameKind)} {acc:List (Str×Addr)},(∀ y∈names,y.2=.free->∃ c,env.cells.lookup y.1=some c)->(∀ x c,acc.lookup x=some c->env.cells.lookup x=some c) →
  ∀ x c,(clo env names acc).lookup x=some c->env.cells.lookup x=some c
 | [],_,_,h=>h
 | (n,k)::r,acc,hx,h=>by
  refine xApj (names:=r) (fun y hy=>hx y (qr _ hy)) fun x c e=>?_
  cases hk:(k==NameKind.free) with
  | true =>
   rw [hk,if_pos rfl] at e;obtain ⟨c',hc⟩:=hx (n,k) qp (beq_iff_eq.mp hk);rw [gc] at e
   cases hxn:(x==n) with
   | true =>
    rw [hxn] at e;have q:=beq_iff_eq.mp hxn;subst q;have e':(env.cells.lookup x).getD 0=c:=Option.some.inj e;have hc':env.cells.lookup x=some c':=hc;rw [hc'] at e' ⊢;exact congrArg some e'
   | false=>rw [hxn] at e;exact h x c e
  | false=>rw [hk,if_neg zh] at e;exact h x c e
theorem xApk {env:Env} {x:Str}:∀ {names:List (Str×NameKind)} {acc:List (Str×Addr)},((x,NameKind.free)∈names\/∃ c,acc.lookup x=some c)->∃ c,(clo env names acc).lookup x=some c
 | [],_,h=>h.elim (fun z=>nomatch z) id
 | (n,k)::r,acc,h=>by
  refine xApk (names:=r) ?_
  have put:∀ c',∃ c,((n,c')::acc).lookup x=some c\/(x≠n/\acc.lookup x=none):=fun c'=>by
   rw [gc]
   cases hxn:(x==n) with
   | true=>exact ⟨c',.inl rfl⟩
   | false =>
    cases ha:acc.lookup x with
    | some c=>exact ⟨c,.inl rfl⟩
    | none=>exact ⟨0,.inr ⟨fun z=>by subst z;simp at hxn,rfl⟩⟩
  rcases h with h | ⟨c,h⟩
  ·rcases qw.mp h with q | q
   ·cases q
    refine .inr ?_;rw [if_pos (by rfl),gc]
    simp
   ·exact .inl q
  ·refine .inr ?_
   cases hk:(k==NameKind.free) with
   | true =>
    rw [if_pos (by rfl)];obtain ⟨c1,q | q⟩:=put ((env.cells.lookup n).getD 0)
    ·exact ⟨c1,q⟩
    ·rw [q.2] at h;cases h
   | false=>rw [if_neg zh];exact ⟨c,h⟩
theorem xAkw {sc:Scope} {env:Env} {x:Str} {k:NameKind} (h:(relabel sc env).names.lookup x=some k):∃ y∈sc.names,y.1=x/\(y.2=k\/y.2=.free):=by
 have hm:=PySem.mem_of_lookup h;obtain ⟨y,hy,e⟩:=qk.mp hm;refine ⟨y,hy,?_⟩;obtain ⟨n,k0⟩:=y;dsimp only at e
 split at e
 ·rename_i hc
  rw [zu,zu] at hc;cases e;exact ⟨rfl,.inr (beq_iff_eq.mp hc.1.1)⟩
 ·cases e
  exact ⟨rfl,.inl rfl⟩
theorem xAtj {X:Cx} {sc:Scope} {fr:List (Str×Nat)} (hX:∀ x,X.env.kindOf x=some .cell->∃ c,X.env.cells.lookup x=some c) (hcell:∀ y∈sc.names,y.2≠.cell)
  (hfree:∀ y∈sc.names,y.2=.free->X.env.kindOf y.1=some .cell)
  (hcap:∀ p∈fr,X.N[p.2]?=some p.1/\X.env.kindOf p.1=some .cell/\(relabel sc X.env).names.lookup p.1=some .cell):Caps X sc (clo X.env sc.names []) fr where
 clos:=xAjl fun y hy e=>hX _ (hfree y hy e)
 sub:=xApj (fun y hy e=>hX _ (hfree y hy e)) fun x c e=>by cases e
 has:=fun x e=>by
  refine xApk (.inl ?_);rcases e with e | e <;> obtain ⟨y,hy,rfl,z⟩:=xAkw e <;> rcases z with z | z
  ·exact absurd z (hcell y hy)
  ·rw [← z];exact hy
  ·rw [← z];exact hy
  ·rw [← z];exact hy
 cap:=fun p hp=>by
  obtain ⟨h1,h2,h3⟩:=hcap p hp;exact ⟨h1,by rw [h2];decide,.inr (.inl h2),.inl h3⟩
theorem xAca {X:Cx} {sc:Scope} {fr:List (Str×Nat)} (scX:Scope) (N:List Str) (h1:X.env.scope=scX) (h2:X.N=N) (hX:∀ x,X.env.kindOf x=some .cell->∃ c,X.env.cells.lookup x=some c)
  (hcell:∀ y∈sc.names,y.2≠.cell) (hfree:∀ y∈sc.names,y.2=.free->scX.names.lookup y.1=some .cell)
  (hcap:∀ p∈fr,N[p.2]?=some p.1/\scX.names.lookup p.1=some .cell/\(relabel sc { scope:=scX,locals:=0,globals:=0,cells:=[] }).names.lookup p.1=some .cell):Caps X sc (clo X.env sc.names []) fr:=by
 refine xAtj hX hcell (fun y hy e=>?_) fun p hp=>?_
 ·show X.env.scope.names.lookup y.1=some .cell
  rw [h1];exact hfree y hy e
 ·obtain ⟨a,b,c⟩:=hcap p hp
  refine ⟨by rw [h2];exact a,?_,?_⟩
  ·show X.env.scope.names.lookup p.1=some .cell
   rw [h1];exact b
  ·have e:relabel sc X.env=relabel sc { scope:=scX,locals:=0,globals:=0,cells:=[] }:=by
    unfold relabel Env.kindOf;rw [h1]
   rw [e];exact c
section
variable {X:Cx}
theorem CallR.imp {f:Value} {r r':List V->Hp->VK->Prop} (h:CallR X f r) (i:∀ xs H Q,r' xs H Q->r xs H Q):CallR X f r':=fun pins s σ H xs us Q I rv q=>h pins s σ H xs us Q I rv (i xs H Q q)
def rLstA (K:PySem.W.Frag):List V->Hp->VK->Prop:=fun xs H Q=>∃ p ys,xs=[.ref p]/\(SqL K H p ys\/SqT K H p ys)/\∀ l H',H l=none->Same H H'->H' l=some (.lst ys)->Q (.ref l) H'
theorem xAfc:CallR X (.type "list") (rLstA X.K):=xAgu.imp fun _ _ _ ⟨p,ys,h1,h2,q⟩=>⟨p,ys,h1,h2,fun l hl=>q l _ hl (Same.new hl) xAae⟩
def rRepA:R2:=fun x y H Q=>∃ l k xs,x=.ref l/\y=.int k/\H l=some (.lst xs)/\-(2 ^ 63)≤k/\k<2 ^ 63/\xs.length * k.toNat≤sizeLine/\∀ p H',H p=none->Same H H'->H' p=some (.lst (List.replicate k.toNat xs).flatten)->Q (.ref p) H'
theorem xAhv:OpR X (binaryOp .Mult) rRepA:=op_rep.imp fun _ _ _ _ ⟨l,k,xs,h1,h2,h3,h4,h5,h6,q⟩=>⟨l,k,xs,h1,h2,h3,h4,h5,h6,fun p hp=>q p _ hp (Same.new hp) xAae⟩
end
theorem xAdq {K:PySem.W.Frag} {a:Addr} {xs:List V} {own:List Str} {fr:List (Str×Nat)} {g:TG} {tt:TT} {te:TE} {σ:St} {H:Hp} {Q:VK} (hz:xs.length≤sizeLine) (Pv:Nat->List V->Hp->Prop) (h0:Pv 0 [] H) (hl:∀ i ys H,Pv i ys H->SqL K H a xs)
  (hs:∀ i x ys H' (K1:V->Hp->Prop) (K0:Hp->Prop),xs[i]?=some x->Pv i ys H'->(∀ y H4,Pv (i+1) (ys++[y]) H4->K1 y H4)->(∀ H3,Pv (i+1) ys H3->K0 H3) →
   g x (compSt own fr σ) H' fun σ2 H2=>tt σ2 H2 fun b H3=>if b=true then te σ2 H3 K1 else K0 H3)
  (hd:∀ H' p ys,Pv xs.length ys H'->ys.length≤xs.length->H' p=none->Q (.ref p) (upd H' p (.lst ys))):LCb own fr g tt te σ Q (Itl K a) H:=by
 refine ⟨fun i m ys H=>m=xs.length - i/\i≤xs.length/\ys.length≤i/\Pv i ys H,⟨xs.length,by simp,Nat.zero_le _,Nat.zero_le _,h0⟩,?_⟩;rintro i m ys H ⟨rfl,hi,hy,p⟩
 by_cases hlt:i<xs.length
 ·refine .inr ⟨⟨xs,xs[i],hl _ _ H p,by simp [hlt]⟩,by omega,fun x H' y=>?_⟩
  obtain ⟨rfl,y⟩:=y;have hc:=y xs (hl _ _ _ p)
  refine hs i x ys H' _ _ hc p (fun y H4 p4=>⟨xs.length - (i+1),by omega,rfl,hlt,?_,p4⟩) fun H3 p3=>⟨xs.length - (i+1),by omega,rfl,hlt,by omega,p3⟩
  rw [qm,wc];omega
 ·have e:i=xs.length:=by omega
  subst e;exact .inl ⟨⟨xs,hl _ _ H p,qg _⟩,fun q hq=>hd H q ys p hy hq⟩
theorem xAqy {lo:Int} {n:Nat} {own:List Str} {fr:List (Str×Nat)} {g:TG} {tt:TT} {te:TE} {σ:St} {H:Hp} {Q:VK} (hz:n≤sizeLine) (Pv:Nat->List V->Hp->Prop) (h0:Pv 0 [] H)
  (hs:∀ i ys H' (K1:V->Hp->Prop) (K0:Hp->Prop),i<n->Pv i ys H'->(∀ y H4,Pv (i+1) (ys++[y]) H4->K1 y H4)->(∀ H3,Pv (i+1) ys H3->K0 H3) →
   g (.int (lo+i)) (compSt own fr σ) H' fun σ2 H2=>tt σ2 H2 fun b H3=>if b=true then te σ2 H3 K1 else K0 H3)
  (hd:∀ H' p ys,Pv n ys H'->ys.length≤n->H' p=none->Q (.ref p) (upd H' p (.lst ys))):LCb own fr g tt te σ Q (Itr lo n) H:=by
 refine ⟨fun i m ys H=>m=n - i/\i≤n/\ys.length≤i/\Pv i ys H,⟨n,by simp,Nat.zero_le _,Nat.zero_le _,h0⟩,?_⟩;rintro i m ys H ⟨rfl,hi,hy,p⟩
 by_cases hlt:i<n
 ·refine .inr ⟨hlt,by omega,fun x H' y=>?_⟩
  obtain ⟨rfl,rfl⟩:=y
  refine hs i ys H' _ _ hlt p (fun y H4 p4=>⟨n - (i+1),by omega,rfl,hlt,?_,p4⟩) fun H3 p3=>⟨n - (i+1),by omega,rfl,hlt,by omega,p3⟩
  rw [qm,wc];omega
 ·have e:i=n:=by omega
  subst e;exact .inl ⟨qg _,fun q hq=>hd H q ys p hy hq⟩
section
variable {X:Cx} {pins:List (Addr×Obj)} {σ:St} {H:Hp} {s:Shared}
end
section
variable {X:Cx} {K:PySem.W.Frag}
theorem xAqz (h:X.K=K):IxR X (rIxL K):=h▸xAcb
theorem xAbv (h:X.K=K):IxR X (rIxT K):=h▸xAsy
end
theorem SqL.same {K:PySem.W.Frag} {H H':Hp} {a:Addr} {xs:List V} (h:SqL K H a xs) (s:Same H H'):SqL K H' a xs:=by
 rcases h with (h | ⟨o,h⟩) | h
 ·exact .inl (.inl (s _ _ h))
 ·exact .inl (.inr ⟨o,s _ _ h⟩)
 ·exact .inr h
section
variable {X:Cx}
theorem xApl:∀ {ys:List Str} {us:List Value},Vals (ys.map V.str) us->StrsAre us ys
 | [],_,h=>by cases h;exact .nil
 | y::ys,_,h=>by
  cases h with
  | cons r t =>
   obtain ⟨k,rfl⟩:=r;exact .cons y k (xApl t)
def rJoin (K:PySem.W.Frag):V->List V->Hp->VK->Prop:=fun x vs H Q=>∃ sep p ys,x=.str sep/\vs=[.ref p]/\SqL K H p (List.map V.str ys)/\(ys.map (·.length)).sum+ys.length * sep.length≤16777216/\Q (.str (Txt.join sep ys)) H
theorem xAtk:MtM X "str.join" (rJoin X.K):=by
 intro pins s σ H x vs v us Q I rx rv h;obtain ⟨sep,p,ys,rfl,rfl,hq,hz,q⟩:=h;obtain ⟨t,rfl⟩:=rx;obtain ⟨u,rfl,ru⟩:=rv.one;cases ru;obtain ⟨its,r,pl,_⟩:=I.list hq;exact join_list pl.isList (xApl r) hz fun t' k=>⟨.str (Txt.join sep ys),H,I.tok _,⟨_,rfl⟩,q⟩
end
mutual
inductive DV (K:PySem.W.Frag) (H:Hp):V->PyData->Prop
 | non:DV K H .non .none
 | bl (b:Bool):DV K H (.bl b) (.bool b)
 | int (i:Int):DV K H (.int i) (.int i)
 | str (z:Str):DV K H (.str z) (.str z)
 | lst {p:Addr} {xs:List V} {ds:List PyData}:SqL K H p xs->DVs K H xs ds->DV K H (.ref p) (.list ds)
 | tup {p:Addr} {xs:List V} {ds:List PyData}:SqT K H p xs->DVs K H xs ds->DV K H (.ref p) (.tuple ds)
inductive DVs (K:PySem.W.Frag) (H:Hp):List V->List PyData->Prop
 | nil:DVs K H [] []
 | cons {x:V} {xs:List V} {d:PyData} {ds:List PyData}:DV K H x d->DVs K H xs ds->DVs K H (x::xs) (d::ds)
end
section
variable {X:Cx} {pins:List (Addr×Obj)} {σ:St} {H H':Hp} {s:Shared} {K:PySem.W.Frag}
theorem SqT.same {a:Addr} {xs:List V} (h:SqT K H a xs) (s:Same H H'):SqT K H' a xs:=by
 rcases h with (h | ⟨o,h⟩) | h
 ·exact .inl (.inl (s _ _ h))
 ·exact .inl (.inr ⟨o,s _ _ h⟩)
 ·exact .inr h
mutual
theorem DV.same (e:Same H H'):∀ {x:V} {d:PyData},DV K H x d->DV K H' x d
 | _,_,.non=>.non
 | _,_,.bl b=>.bl b
 | _,_,.int i=>.int i
 | _,_,.str z=>.str z
 | _,_,.lst h t=>.lst (h.same e) (DVs.same e t)
 | _,_,.tup h t=>.tup (h.same e) (DVs.same e t)
theorem DVs.same (e:Same H H'):∀ {xs:List V} {ds:List PyData},DVs K H xs ds->DVs K H' xs ds
 | _,_,.nil=>.nil
 | _,_,.cons h t=>.cons (DV.same e h) (DVs.same e t)
end
mutual
theorem DV.reads (I:Inv X pins σ H s):∀ {x:V} {d:PyData} {v:Value},DV X.K H x d->RelV x v->∃ as,Reads s.heap v d as
 | _,_,_,.non,r=>by cases r;exact ⟨_,.none⟩
 | _,_,_,.bl b,r=>by cases r;exact ⟨_,.bool b⟩
 | _,_,_,.int i,r=>by obtain ⟨t,rfl⟩:=r;exact ⟨_,.int i t⟩
 | _,_,_,.str z,r=>by obtain ⟨t,rfl⟩:=r;exact ⟨_,.str z t⟩
 | _,_,_,.lst h t,r=>by
  cases r;obtain ⟨its,rv,⟨o,n,e1,e2,_,e3⟩,_⟩:=I.list h;obtain ⟨as,ra⟩:=DVs.reads I t rv;exact ⟨_,.list e1 e2 e3 (by simpa using ra)⟩
 | _,_,_,.tup h t,r=>by
  cases r;obtain ⟨its,rv,⟨o,e1,e2,n,e3⟩,_⟩:=I.tuple h;obtain ⟨as,ra⟩:=DVs.reads I t rv;exact ⟨_,.tuple e1 e2 e3 (by simpa using ra)⟩
theorem DVs.reads (I:Inv X pins σ H s):∀ {xs:List V} {ds:List PyData} {vs:List Value},DVs X.K H xs ds->Vals xs vs->∃ as,ReadsAll s.heap vs ds as
 | _,_,_,.nil,r=>by cases r;exact ⟨_,.nil⟩
 | _,_,_,.cons h t,r=>by
  cases r with
  | cons r1 r2 =>
   obtain ⟨as,a⟩:=DV.reads I h r1;obtain ⟨bs,b⟩:=DVs.reads I t r2;exact ⟨_,.cons a b⟩
end
def rEqD (K:PySem.W.Frag) (u:Nat) (neg:Bool):R2:=fun x y H Q=>∃ dx dy,DV K H x dx/\DV K H y dy/\dx.canLay0=true/\dy.canLay0=true/\min dx.depth dy.depth≤u/\Q (.bl (if neg then !PyData.eqv dx dy else PyData.eqv dx dy)) H
theorem xAra {u:Nat} (hu:X.A.units+u<cLine):OpR X (compareOp .Eq) (rEqD X.K u false):=by
 intro pins s σ H x y v w Q I rx ry h;obtain ⟨dx,dy,hx,hy,cx,cy,hd,q⟩:=h;obtain ⟨as,ra⟩:=hx.reads I rx;obtain ⟨bs,rb⟩:=hy.reads I ry;exact SeqAt.compareEq_reads ra rb cx cy (by omega) ⟨.bl _,H,I,rfl,q⟩
theorem xAkx {u:Nat} (hu:X.A.units+u<cLine):OpR X (compareOp .NotEq) (rEqD X.K u true):=by
 intro pins s σ H x y v w Q I rx ry h;obtain ⟨dx,dy,hx,hy,cx,cy,hd,q⟩:=h;obtain ⟨as,ra⟩:=hx.reads I rx;obtain ⟨bs,rb⟩:=hy.reads I ry;exact SeqAt.compareNe_reads ra rb cx cy (by omega) ⟨.bl _,H,I,rfl,q⟩
theorem xAce {h:Heap}:∀ {vs:List Value} {ds:List PyData} {as:List Addr} {j:Nat} {v:Value},ReadsAll h vs ds as->vs[j]?=some v->∃ d bs,ds[j]?=some d/\Reads h v d bs
 | _,_,_,_,_,.nil,e=>by cases e
 | _,_,_,0,_,.cons r t,e=>by cases e;exact ⟨_,_,rfl,r⟩
 | _,_,_,j+1,_,.cons r t,e=>by
  obtain ⟨d,bs,h1,h2⟩:=xAce (j:=j) t (by simpa using e);exact ⟨d,bs,by simpa using h1,h2⟩
theorem xAep:∀ {ds:List PyData} {j:Nat} {d:PyData},PyData.canLayAll0 ds=true->ds[j]?=some d->d.canLay0=true
 | [],_,_,_,e=>by cases e
 | d::ds,0,_,h,e=>by
  cases e;have h':(d.canLay0&&PyData.canLayAll0 ds)=true:=h;rw [zu] at h';exact h'.1
 | d::ds,j+1,d',h,e=>by
  have h':(d.canLay0&&PyData.canLayAll0 ds)=true:=h;rw [zu] at h';exact xAep h'.2 (by simpa using e)
open Classical in
noncomputable def alike (vs:List Value) (ds:List PyData) (dx:PyData) (y:Value):Bool:=decide (∃ (j:Nat) (d:PyData),vs[j]?=some y/\ds[j]?=some d/\PyData.eqv d dx=true)
open Classical in
theorem xAfd {h:Heap} {vs:List Value} {ds:List PyData} {as:List Addr} {dx:PyData} (r:ReadsAll h vs ds as) (c:PyData.canLayAll0 ds=true) {j:Nat} {y:Value} {d:PyData} (e:vs[j]?=some y) (ed:ds[j]?=some d):alike vs ds dx y=PyData.eqv d dx:=by
 unfold alike
 cases q:PyData.eqv d dx with
 | true=>exact decide_eq_true ⟨j,d,e,ed,q⟩
 | false =>
  refine decide_eq_false fun ⟨j',d',e',ed',q'⟩=>?_;obtain ⟨d1,b1,x1,r1⟩:=xAce r e;obtain ⟨d2,b2,x2,r2⟩:=xAce r e';rw [ed] at x1;cases x1;rw [ed'] at x2;cases x2;have:=SeqAt.Reads.unique _ _ _ _ _ (xAep c ed) r1 r2;rw [← this,q] at q';cases q'
theorem xAhw {h:Heap} {dx:PyData} {vs:List Value} {ds:List PyData} {as:List Addr} (r:ReadsAll h vs ds as) (c:PyData.canLayAll0 ds=true):vs.any (alike vs ds dx)=ds.any fun d=>PyData.eqv d dx:=by
 have hl:=SeqAt.ReadsAll.length _ _ _ r;rw [yg,vh,vh];constructor
 ·rintro ⟨y,hy,q⟩
  obtain ⟨j,hj,e⟩:=wk.mp hy;obtain ⟨d,_,ed,_⟩:=xAce r (j:=j) (by rw [qi hj,e]);rw [xAfd r c (by rw [qi hj,e]) ed] at q;exact ⟨d,zk ed,q⟩
 ·rintro ⟨d,hd,q⟩
  obtain ⟨j,hj,e⟩:=wk.mp hd
  have hj':j<vs.length:=by omega
  refine ⟨vs[j],yr hj',?_⟩;rw [xAfd r c (qi hj') (by rw [qi hj,e])];exact q
def rInD (K:PySem.W.Frag) (u:Nat) (neg:Bool):R2:=fun x y H Q=>∃ dx p ds xs,DV K H x dx/\y=.ref p/\(SqL K H p xs\/SqT K H p xs)/\DVs K H xs ds/\dx.canLay0=true/\PyData.canLayAll0 ds=true/\dx.depth≤u ∧
 Q (.bl (if neg then !(ds.any fun d=>PyData.eqv d dx) else ds.any fun d=>PyData.eqv d dx)) H
theorem xAtl {u:Nat} (hu:X.A.units+1+u<cLine):OpR X (compareOp .In) (rInD X.K u false):=by
 intro pins s σ H x y v w Q I rx ry h;obtain ⟨dx,p,ds,xs,hx,rfl,hq,hs,cx,cs,hd,q⟩:=h;cases ry;obtain ⟨as,ra⟩:=hx.reads I rx
 have key:∀ {its:List Value},Vals xs its->(∀ y∈its,SeqAt.EqAt X.A.in1 s y v (alike its ds dx y))/\its.any (alike its ds dx)=ds.any fun d=>PyData.eqv d dx:=fun {its} rv=>by
  obtain ⟨bs,rb⟩:=hs.reads I rv;refine ⟨fun y hy=>?_,xAhw rb cs⟩;obtain ⟨j,hj,e⟩:=wk.mp hy
  have ej:its[j]?=some y:=by rw [qi hj,e]
  obtain ⟨d,_,ed,rd⟩:=xAce rb ej;rw [xAfd rb cs ej ed];exact SeqAt.eqAt_reads d dx _ s y v _ _ rd ra (xAep cs ed) cx (by show X.A.units+1+_<cLine;omega)
 rcases hq with hq | hq
 ·obtain ⟨its,r,pl,hz⟩:=I.list hq
  obtain ⟨k1,k2⟩:=key r;refine SeqAt.in_listAt (alike its ds dx) pl.isList (fun w hw=>k1 w (by simpa using hw)) ⟨.bl _,H,I,rfl,?_⟩;rw [jn,k2];exact q
 ·obtain ⟨its,r,pl,hz⟩:=I.tuple hq
  obtain ⟨k1,k2⟩:=key r;refine SeqAt.in_tupleAt (alike its ds dx) pl (fun w hw=>k1 w (by simpa using hw)) ⟨.bl _,H,I,rfl,?_⟩;rw [jn,k2];exact q
theorem xAob {u:Nat} (hu:X.A.units+1+u<cLine):OpR X (compareOp .NotIn) (rInD X.K u true):=by
 intro pins s σ H x y v w Q I rx ry h;obtain ⟨dx,p,ds,xs,hx,rfl,hq,hs,cx,cs,hd,q⟩:=h;cases ry;obtain ⟨as,ra⟩:=hx.reads I rx
 have key:∀ {its:List Value},Vals xs its->(∀ y∈its,SeqAt.EqAt X.A.in1 s y v (alike its ds dx y))/\its.any (alike its ds dx)=ds.any fun d=>PyData.eqv d dx:=fun {its} rv=>by
  obtain ⟨bs,rb⟩:=hs.reads I rv;refine ⟨fun y hy=>?_,xAhw rb cs⟩;obtain ⟨j,hj,e⟩:=wk.mp hy
  have ej:its[j]?=some y:=by rw [qi hj,e]
  obtain ⟨d,_,ed,rd⟩:=xAce rb ej;rw [xAfd rb cs ej ed];exact SeqAt.eqAt_reads d dx _ s y v _ _ rd ra (xAep cs ed) cx (by show X.A.units+1+_<cLine;omega)
 rcases hq with hq | hq
 ·obtain ⟨its,r,pl,hz⟩:=I.list hq
  obtain ⟨k1,k2⟩:=key r;refine SeqAt.notIn_listAt (alike its ds dx) pl.isList (fun w hw=>k1 w (by simpa using hw)) ⟨.bl _,H,I,rfl,?_⟩;rw [jn,k2];exact q
 ·obtain ⟨its,r,pl,hz⟩:=I.tuple hq
  obtain ⟨k1,k2⟩:=key r;refine SeqAt.notIn_tupleAt (alike its ds dx) pl (fun w hw=>k1 w (by simpa using hw)) ⟨.bl _,H,I,rfl,?_⟩;rw [jn,k2];exact q
end
section
variable {X:Cx}
end
theorem xAtm {K:PySem.W.Frag} {a:Addr} {xs:List V} {own:List Str} {fr:List (Str×Nat)} {g:TG} {tt:TT} {te:TE} {σ:St} {H:Hp} {Q:VK} (hz:xs.length≤sizeLine) (Pv:Nat->List V->Hp->Prop) (h0:Pv 0 [] H) (hl:∀ i zs H,Pv i zs H->SqL K H a xs)
  (hs:∀ i x zs H' p (K1:V->Hp->Prop) (K0:Hp->Prop),xs[i]?=some x->Pv i zs H'->H' p=none->(∀ v H4,Pv (i+1) (zs++[v]) H4->K1 v H4)->(∀ H3,Pv (i+1) zs H3->K0 H3) →
   g (.ref p) (compSt own fr σ) (upd H' p (.tup [.int i,x])) fun σ2 H2=>tt σ2 H2 fun b H3=>if b=true then te σ2 H3 K1 else K0 H3)
  (hd:∀ H' p zs,Pv xs.length zs H'->zs.length≤xs.length->H' p=none->Q (.ref p) (upd H' p (.lst zs))):LCb own fr g tt te σ Q (Ite K a) H:=by
 refine ⟨fun i m zs H=>m=xs.length - i/\i≤xs.length/\zs.length≤i/\Pv i zs H,⟨xs.length,by simp,Nat.zero_le _,Nat.zero_le _,h0⟩,?_⟩;rintro i m zs H ⟨rfl,hi,hy,p⟩;have q1:=hl _ _ H p
 by_cases hlt:i<xs.length
 ·refine .inr ⟨⟨xs,xs[i],q1,by simp [hlt]⟩,by omega,fun v H' y=>?_⟩
  obtain ⟨r,x,hn,e1,rfl,rfl⟩:=y
  refine hs i x zs H r _ _ (e1 xs q1) p hn (fun v H4 p4=>⟨xs.length - (i+1),by omega,rfl,hlt,?_,p4⟩) fun H3 p3=>⟨xs.length - (i+1),by omega,rfl,hlt,by omega,p3⟩
  rw [qm,wc];omega
 ·have e:i=xs.length:=by omega
  subst e;exact .inl ⟨⟨xs,q1,rfl⟩,fun q hq=>hd H q zs p hy hq⟩
section
variable {X:Cx} {K:PySem.W.Frag} {u:Nat}
theorem xAhx (h:X.K=K) (hu:X.A.units+u<cLine):OpR X (compareOp .Eq) (rEqD K u false):=h▸xAra hu
end
theorem hu64 {A:Around} {k:Nat} (hr:Room k A):A.units+64<cLine:=hr.units
theorem hu63 {A:Around} {k:Nat} (hr:Room k A):A.units+1+63<cLine:=by have:=hr.units;omega
theorem hu61 {A:Around} {k:Nat} (hr:Room k A):A.units+3+61<cLine:=by have:=hr.units;omega
section
variable {X:Cx}
end
section
variable {X:Cx}
end
section
variable {X:Cx} {tg:Expr}
theorem xAky:∀ {xs:List V} {us:List Value},Vals xs us->Vals xs.reverse us.reverse
 | [],_,h=>by cases h;exact .nil
 | x::xs,_,h=>by
  cases h with
  | cons r t =>
   rw [jo,jo];exact (xAky t).append (.cons r .nil)
def tRevL (K:PySem.W.Frag) (te:TE) (ts:TO):TE:=fun σ H Q=>te σ H fun x H1=>ts σ H1 fun o H2=>o=some (-1)/\∃ a xs,x=.ref a/\SqL K H2 a xs/\∀ p H',H2 p=none->Same H2 H'->H' p=some (.lst xs.reverse)->Q (.ref p) H'
theorem xAtn {e:Expr} {st:Expr} {te:TE} {ts:TO} {pos p2:Pos} (he:PE X e te) (hst:PO X (some st) ts):PE X (.Subscript e (.Slice none none (some st) p2) pos) (tRevL X.K te ts):=by
 intro pins s σ H Q I h;refine Subscript_ (thn (he pins s σ H _ I h) fun v s1 ⟨x,H1,I1,r1,q1⟩=>?_);refine wpAny_Slice ?_;rw [evalPart_none];refine wpAny_pure ?_;refine wpAny_pure ?_;refine thn (hst pins s1 σ H1 _ I1 q1) fun vs s3 ⟨o,H3,I3,ps,e1,q2⟩=>?_;subst e1;obtain ⟨a,xs,rfl,hx,q⟩:=q2;have I4:Inv X pins σ H3 { s3 with heap:=s3.heap.push { cls:=.type "slice",data:=.fields #[.none,.none,vs] } }:=I3.kept (t':=s3.toks) fun b ob q=>Heap.get?_push_of_some _ q;cases r1;obtain ⟨its,r,ht,hz⟩:=I4.list hx;have hlen:=r.length;show wpAny (model X.prog X.w) X.A (subscriptTail e (.Slice none none (some st) p2) (.ref a) (.ref s3.heap.objs.size)) (EP X pins σ Q) X.xe { s3 with heap:=s3.heap.push { cls:=.type "slice",data:=.fields #[.none,.none,vs] } };refine tail_any (ops:=[.ref a,.ref s3.heap.objs.size]) ht.isList.typeIs slot_list_getitem.lookup ?_ (by with_unfolding_all rfl);refine wpAny_getItem_list_slice ht.isList (Heap.IsSliceOf.new ..) .none .none ps (by simp) ?_ (by rw [List.size_toArray] <;> omega);rw [PySem.W.krv_pick];have hf:=I4.hok.fresh (qg _);refine ⟨.ref _,_,I4.laid (t':=s3.toks) (o:=.lst xs.reverse) (fun b ob q=>Heap.get?_push_of_some _ q) (qg _) ?_,rfl,q _ _ hf (Same.new hf) xAae⟩;refine ⟨by rw [y7];exact hz,its.reverse,0,?_,?_⟩
 ·exact xAky r
 ·exact Heap.get?_push_size _ rfl
end
section
variable {P:Program} {w:World} {A:Around} {E:Value->Shared->Prop} {s:Shared}
end
section
variable {X:Cx}
end
section
variable {X:Cx}
end
section
variable {X:Cx}
end
section
variable {X:Cx}
end
end L2
set_option maxHeartbeats 40000000
namespace Srt
open PySem PySem.W PyProof.Rows
section
variable {α β:Type} {n:Nat} {lt:Nat->Nat->Bool}
end
structure Swo (lt:Nat->Nat->Bool):Prop where
 irr:∀ a,lt a a=false
 tr:∀ a b c,lt a b=true->lt b c=true->lt a c=true
 nt:∀ a b c,lt a c=true->lt a b=true\/lt b c=true
section
variable {n:Nat} {lt:Nat->Nat->Bool} (W:Swo lt)
include W
theorem Swo.le_of_lt {a b:Nat} (h:lt a b=true):lt b a=false:=by
 cases e:lt b a with
 | false=>rfl
 | true=>rw [← W.irr a,← W.tr a b a h e]
theorem Swo.le_tr {a b c:Nat} (h1:lt b a=false) (h2:lt c b=false):lt c a=false:=by
 cases e:lt c a with
 | false=>rfl
 | true=>rcases W.nt c b a e with q | q
         ·rw [q] at h2;cases h2
         ·rw [q] at h1;cases h1
theorem Swo.lt_le {a b c:Nat} (h1:lt a b=true) (h2:lt c b=false):lt a c=true:=by
 rcases W.nt a c b h1 with q | q
 ·exact q
 ·rw [q] at h2;cases h2
end
abbrev g (p:Array Nat) (i:Nat):Nat:=p.getD i 0
def Up (lt:Nat->Nat->Bool) (p:Array Nat) (n:Nat):Prop:=∀ i j,i≤j->j<n->lt (g p j) (g p i)=false
theorem g_of {p q:Array Nat} {i j:Nat} (h:p[i]?=q[j]?):g p i=g q j:=by
 unfold g;rw [vz,vz,h]
section
variable {n:Nat} {lt:Nat->Nat->Bool} (W:Swo lt) (hn:0<n)
theorem xAfe {p:Array Nat} {i j:Nat} (W:Swo lt) (hj:j≤p.size) (he:∀ k,i≤k->k<j->lt (g p k) (g p (j - 1))=false/\lt (g p (j - 1)) (g p k)=false) (k:Nat) :
  lt (g (kas_rev p i j) k) (g p k)=false/\lt (g p k) (g (kas_rev p i j) k)=false:=by
 have e:=getElem?_mirror_all (i:=i) hj k
 by_cases h:i≤k/\k<j
 ·rw [if_pos h] at e
  have e':g (kas_rev p i j) k=g p (i+j - 1 - k):=g_of e;rw [e'];have a:=he (i+j - 1 - k) (by omega) (by omega);have c:=he k h.1 h.2;exact ⟨W.le_tr c.2 a.1,W.le_tr a.2 c.1⟩
 ·rw [if_neg h] at e
  have e':g (kas_rev p i j) k=g p k:=g_of e;rw [e'];exact ⟨W.irr _,W.irr _⟩
theorem xArb (p:Array Nat) (i j:Nat):(kas_rev p i j).Perm p:=mirror_perm p i j _
end
end Srt
namespace Tim
open PySem PySem.W PyProof.Rows Srt
abbrev S (κ:SortKind) (it:Array Keyed) (p:Array Nat) (pd:Array (Nat×Nat×Nat)) (m:Nat):SortSt:=SortSt.mk' κ (p.map (kas_item it)) pd m none
def Ans (prog:Program) (w:World) (A:Around) (s:Shared) (κ:SortKind) (it:Array Keyed) (n:Nat) (lt:Nat->Nat->Bool):Prop :=
 ∀ i j (C:Bool->Shared->Prop),i<n->j<n->C (lt i j) s->kas_cmp prog w A κ it i j C s
def In (n:Nat) (p:Array Nat):Prop:=∀ i,i<p.size->g p i<n
theorem xAbw {n:Nat} {p q:Array Nat} (h:q.Perm p) (b:In n p):In n q:=fun i hi=>by
 unfold g;rw [vz,we hi];have hx2:q[i]∈p:=(h.mem_iff).mp (Array.getElem_mem hi);obtain ⟨j,hj,ej⟩:=Array.mem_iff_getElem.mp hx2;have:=b j hj;unfold g at this;rw [vz,we hj,ej] at this;exact this
section
variable {prog:Program} {w:World} {A:Around} {E:Value->Shared->Prop} {s:Shared} {κ:SortKind} {it:Array Keyed} {n:Nat} {lt:Nat->Nat->Bool} {p:Array Nat} {pd:Array (Nat×Nat×Nat)} {mg:Nat}
theorem lt_ok (hq:Ans prog w A s κ it n lt) {i j:Nat} {st:SortSt} {Q:Option Bool->SortSt->Prop} (hk:kindOf st=κ) (hi:i<n) (hj:j<n) (h:Q (some (lt i j)) st):wpS (model prog w) A E s (lt' (kas_item it i) (kas_item it j)) Q st:=by
 rw [lt'_eq];refine wpS_bind (wpS_get ?_);rw [hk];refine wpS_bind (wpS_lift (wpAny_attempt (wpAny_mono (hq i j (fun b s'=>s'=s/\b=lt i j) hi hj ⟨rfl,rfl⟩) (fun c s' hc=>?_) fun _ _ hF=>hF.elim)));obtain ⟨rfl,rfl⟩:=hc;exact ⟨rfl,wpS_pure h⟩
theorem map_at {i:Nat} (hi:i<p.size):(p.map (kas_item it))[i]?=some (kas_item it (g p i)):=by
 have e:g p i=p[i]:=by unfold g;simp [Array.getD,hi]
 rw [e]
 simp [hi]
theorem xApm {i:Nat} {st:SortSt} {Q:Keyed->SortSt->Prop} (hi:i<p.size) (h:Q (kas_item it (g p i)) st):wpS (model prog w) A E s (elem' (p.map (kas_item it)) i) Q st:=by
 rw [elem'_eq,map_at hi];exact wpS_pure h
theorem xAga (hq:Ans prog w A s κ it n lt) (hb:In n p) {i j:Nat} {Q:Option Bool->SortSt->Prop} (hi:i<p.size) (hj:j<p.size) (h:Q (some (lt (g p i) (g p j))) (S κ it p pd mg)):wpS (model prog w) A E s (ltAt' i j) Q (S κ it p pd mg):=by
 rw [ltAt'_eq];refine wpS_bind (wpS_get ?_);exact wpS_bind (xApm hi (wpS_bind (xApm hj (lt_ok hq rfl (hb i hi) (hb j hj) h))))
theorem xAgb {i j:Nat} {Q:Unit->SortSt->Prop} (h:Q () (S κ it (kas_rev p i j) pd mg)):wpS (model prog w) A E s (reverseSlice' i j) Q (S κ it p pd mg):=by
 rw [reverseSlice'_eq];refine wpS_modify ?_;have e1:mirror (p.map (kas_item it)) i j ((j - i) / 2)=(mirror p i j ((j - i) / 2)).map (kas_item it):=kas_swaps_map (kas_item it) (fun k=>i+k) (fun k=>j - 1 - k) _ p;show Q () (SortSt.mk' κ (mirror (p.map (kas_item it)) i j ((j - i) / 2)) pd mg none);rw [e1];exact h
theorem xAto {k l:Nat} {Q:Unit->SortSt->Prop} (h:Q () (S κ it (bubble p k (k - l)) pd mg)):wpS (model prog w) A E s (moveDown' k l) Q (S κ it p pd mg):=by
 rw [moveDown'_eq];refine wpS_modify ?_;have e1:bubble (p.map (kas_item it)) k (k - l)=(bubble p k (k - l)).map (kas_item it):=kas_swaps_map (kas_item it) (fun i=>k - i) (fun i=>k - i - 1) _ p;show Q () (SortSt.mk' κ (bubble (p.map (kas_item it)) k (k - l)) pd mg none);rw [e1];exact h
end
def UpL (lt:Nat->Nat->Bool) (lo:Nat) (p:Array Nat) (k:Nat):Prop:=∀ i j,lo≤i->i≤j->j<k->lt (g p j) (g p i)=false
def DnL (lt:Nat->Nat->Bool) (lo:Nat) (p:Array Nat) (k:Nat):Prop:=∀ i j,lo≤i->i≤j->j<k->lt (g p i) (g p j)=false
def LikeL (lt:Nat->Nat->Bool) (lo:Nat) (p:Array Nat) (k q:Nat):Prop:=lo+q+1≤k/\∀ m,k - (q+1)≤m->m<k->lt (g p m) (g p (k - 1))=false/\lt (g p (k - 1)) (g p m)=false
structure Bh (lo:Nat) (p q:Array Nat):Prop where
 perm:q.Perm p
 pre:∀ i,i<lo->q[i]?=p[i]?
theorem Bh.refl (lo:Nat) (p:Array Nat):Bh lo p p:=⟨.refl _,fun _ _=>rfl⟩
theorem Bh.trans {lo:Nat} {p q r:Array Nat} (a:Bh lo p q) (b:Bh lo q r):Bh lo p r:=⟨b.perm.trans a.perm,fun i h=>(b.pre i h).trans (a.pre i h)⟩
section
variable {lt:Nat->Nat->Bool} {lo:Nat} {p:Array Nat}
theorem up1 (W:Swo lt):UpL lt lo p (lo+1):=fun i j h1 h2 h3=>by
 have:i=j:=by omega
 subst this;exact W.irr _
theorem dn1 (W:Swo lt):DnL lt lo p (lo+1):=fun i j h1 h2 h3=>by
 have:i=j:=by omega
 subst this;exact W.irr _
theorem xArc {k:Nat} (W:Swo lt) (h0:lo+1≤k) (h:UpL lt lo p k) (hk:lt (g p k) (g p (k - 1))=false):UpL lt lo p (k+1):=by
 intro i j h1 hij hj
 by_cases e:j=k
 ·subst e
  by_cases e2:i=j
  ·subst e2;exact W.irr _
  ·exact W.le_tr (h i (j - 1) h1 (by omega) (by omega)) hk
 ·exact h i j h1 hij (by omega)
theorem xAdr {k:Nat} (W:Swo lt) (h0:lo+1≤k) (h:DnL lt lo p k) (hk:lt (g p (k - 1)) (g p k)=false):DnL lt lo p (k+1):=by
 intro i j h1 hij hj
 by_cases e:j=k
 ·subst e
  by_cases e2:i=j
  ·subst e2;exact W.irr _
  ·exact W.le_tr hk (h i (j - 1) h1 (by omega) (by omega))
 ·exact h i j h1 hij (by omega)
theorem xAff {q:Array Nat} {k:Nat} (W:Swo lt) (hl:∀ i,lt (g q i) (g p i)=false/\lt (g p i) (g q i)=false) (h:DnL lt lo p k):DnL lt lo q k:=fun i j h1 hij hj =>
 W.le_tr (W.le_tr (hl j).2 (h i j h1 hij hj)) (hl i).1
theorem xArd {k:Nat} (W:Swo lt) (h:lo+1≤k):LikeL lt lo p k 0:=⟨by omega,fun m h1 h2=>by
 have:m=k - 1:=by omega
 subst this
 exact ⟨W.irr _,W.irr _⟩⟩
theorem xAkz {i j:Nat} (hi:lo≤i) (hj:j≤p.size):Bh lo p (kas_rev p i j):=⟨xArb p i j,fun k hk=>by
 have:=getElem?_mirror_all (i:=i) hj k;rw [if_neg (by omega)] at this
 exact this⟩
theorem xApn {i j k:Nat} (hj:j≤p.size) (hk:j≤k):g (kas_rev p i j) k=g p k:=g_of (by
 have:=getElem?_mirror_all (i:=i) hj k;rw [if_neg (by omega)] at this
 exact this)
theorem xAtp {k:Nat} (hk:k≤p.size) (h:DnL lt lo p k):UpL lt lo (kas_rev p lo k) k:=by
 intro i j h1 hij hj;have e1:=getElem?_mirror_all (i:=lo) hk i;have e2:=getElem?_mirror_all (i:=lo) hk j;rw [if_pos ⟨by omega,by omega⟩] at e1 e2;have e1':g (kas_rev p lo k) i=g p (lo+k - 1 - i):=g_of e1;have e2':g (kas_rev p lo k) j=g p (lo+k - 1 - j):=g_of e2;rw [e1',e2'];exact h _ _ (by omega) (by omega) (by omega)
end
section
variable {prog:Program} {w:World} {A:Around} {E:Value->Shared->Prop} {s:Shared} {κ:SortKind} {it:Array Keyed} {n:Nat} {lt:Nat->Nat->Bool} {p:Array Nat} {pd:Array (Nat×Nat×Nat)} {mg:Nat} {lo nrem:Nat}
theorem xAds (W:Swo lt) (hq:Ans prog w A s κ it n lt) (hb:In n p) {a:Nat} {Q:AscSt->SortSt->Prop} {f:Nat->AscSt->StateT SortSt Sem (ForInStep AscSt)} (hf:∀ x (k:Nat),f x (none,k)=(do
      let r ← ltAt' (lo+k) (lo+k - 1)
      match r with
      | some b=>if b=true then pure (ForInStep.done (none,k)) else pure (ForInStep.yield (none,k+1))
      | _=>pure (ForInStep.done (some none,k)))) (ha:1≤a) (han:a≤nrem) (hz:lo+nrem≤p.size) (hu:UpL lt lo p (lo+a))
  (h:∀ k,a≤k->k≤nrem->UpL lt lo p (lo+k)->(k<nrem->lt (g p (lo+k)) (g p (lo+k - 1))=true)->Q (none,k) (S κ it p pd mg)) :
  wpS (model prog w) A E s (forIn [a:nrem] ((none,a):AscSt) f) Q (S κ it p pd mg):=by
 refine wpS_forRange (I:=fun x c st'=>st'=S κ it p pd mg/\c=(none,x)/\UpL lt lo p (lo+x)) ?step ?fin ⟨rfl,rfl,hu⟩
 case fin =>
  rintro c st' ⟨rfl,rfl,hs'⟩;rw [show max a nrem=nrem by omega] at hs' ⊢;exact h nrem han (qg _) hs' fun z=>absurd z (wg _)
 case step =>
  rintro x c st' hax hxn ⟨rfl,rfl,hs'⟩;rw [hf];refine wpS_bind (xAga hq hb (by omega) (by omega) ?_)
  cases e:lt (g p (lo+x)) (g p (lo+x - 1)) with
  | true =>
   dsimp only;rw [if_pos rfl];exact wpS_pure (h x hax (by omega) hs' fun _=>e)
  | false =>
   dsimp only;rw [if_neg (by decide)];exact wpS_pure ⟨rfl,rfl,xArc (k:=lo+x) W (by omega) hs' e⟩
theorem xAhy (W:Swo lt) (hq:Ans prog w A s κ it n lt) (hb:In n p) {a:Nat} {Q:DescSt->SortSt->Prop} {f:Nat->DescSt->StateT SortSt Sem (ForInStep DescSt)} (hf:∀ x (k q:Nat),f x (none,k,q)=(ltAt' (lo+k) (lo+k - 1) >>= fun r=>match r with
      | some b=>(if b=true then (if q>0 then (reverseSlice' (lo+k - (q+1)) (lo+k) >>= fun _=>pure (ForInStep.yield (none,k+1,0))) else pure (ForInStep.yield (none,k+1,0))) else (ltAt' (lo+k - 1) (lo+k) >>= fun r=>match r with
            | some b=>if b=true then pure (ForInStep.done (none,k,q)) else pure (ForInStep.yield (none,k+1,q+1))
            | _=>pure (ForInStep.done (some none,k,q))))
      | _=>pure (ForInStep.done (some none,k,q)))) (ha:1≤a) (han:a≤nrem) (hz:lo+nrem≤p.size) (hu:DnL lt lo p (lo+a))
  (h:∀ q k m,Bh lo p q->a≤k->k≤nrem->DnL lt lo q (lo+k)->LikeL lt lo q (lo+k) m->Q (none,k,m) (S κ it q pd mg)) :
  wpS (model prog w) A E s (forIn [a:nrem] ((none,a,0):DescSt) f) Q (S κ it p pd mg):=by
 refine wpS_forRange (I:=fun x c st'=>∃ q m,st'=S κ it q pd mg/\c=(none,x,m)/\Bh lo p q/\DnL lt lo q (lo+x)/\LikeL lt lo q (lo+x) m) ?step ?fin ⟨p,0,rfl,rfl,.refl _ _,hu,xArd W (by omega)⟩
 case fin =>
  rintro c st' ⟨q,m,rfl,rfl,b,d,l⟩;rw [show max a nrem=nrem by omega] at d l ⊢;exact h q nrem m b han (qg _) d l
 case step =>
  rintro x c st' hax hxn ⟨q,m,rfl,rfl,b,d,l⟩;have hbq:=xAbw b.perm hb;have zq:q.size=p.size:=b.perm.size_eq;rw [hf];refine wpS_bind (xAga hq hbq (by omega) (by omega) ?_)
  cases e:lt (g q (lo+x)) (g q (lo+x - 1)) with
  | true =>
   dsimp only;rw [if_pos rfl]
   by_cases hm:m>0
   ·rw [if_pos hm]
    refine wpS_bind (xAgb (wpS_pure ⟨_,0,rfl,rfl,b.trans (xAkz (by have:=l.1;omega) (by omega)),?_,xArd W (by omega)⟩));have lk:=xAfe W (p:=q) (i:=lo+x - (m+1)) (j:=lo+x) (by omega) l.2;refine xAdr (k:=lo+x) W (by omega) (xAff W lk d) ?_;rw [xApn (k:=lo+x) (by omega) (qg _)];exact W.le_tr (W.le_of_lt e) (lk (lo+x - 1)).1
   ·rw [if_neg hm]
    exact wpS_pure ⟨q,0,rfl,rfl,b,xAdr (k:=lo+x) W (by omega) d (W.le_of_lt e),xArd W (by omega)⟩
  | false =>
   dsimp only;rw [if_neg (by decide)];refine wpS_bind (xAga hq hbq (by omega) (by omega) ?_)
   cases e2:lt (g q (lo+x - 1)) (g q (lo+x)) with
   | true =>
    dsimp only;rw [if_pos rfl];exact wpS_pure (h q x m b hax (by omega) d l)
   | false =>
    dsimp only;rw [if_neg (by decide)];refine wpS_pure ⟨q,m+1,rfl,rfl,b,xAdr (k:=lo+x) W (by omega) d e2,by have:=l.1;omega,fun i h1 h2=>?_⟩;show lt (g q i) (g q (lo+x))=false/\lt (g q (lo+x)) (g q i)=false
    by_cases em:i=lo+x
    ·subst em;exact ⟨W.irr _,W.irr _⟩
    ·have:=l.2 i (by omega) (by omega)
     exact ⟨W.le_tr e2 this.1,W.le_tr this.2 e⟩
theorem wp_if {α:Type} {c:Prop} [Decidable c] {m1 m2:StateT SortSt Sem α} {Q:α->SortSt->Prop} {st:SortSt} (h1:c->wpS (model prog w) A E s m1 Q st) (h2:¬ c->wpS (model prog w) A E s m2 Q st):wpS (model prog w) A E s (if c then m1 else m2) Q st:=by
 by_cases h:c
 ·rw [if_pos h];exact h1 h
 ·rw [if_neg h];exact h2 h
theorem xAre (W:Swo lt) (hq:Ans prog w A s κ it n lt) (hb:In n p) {Q:Option Nat->SortSt->Prop} (h1:1≤nrem) (hz:lo+nrem≤p.size)
  (h:∀ q m,Bh lo p q->1≤m->m≤nrem->UpL lt lo q (lo+m)->Q (some m) (S κ it q pd mg)):wpS (model prog w) A E s (countRun' lo nrem) Q (S κ it p pd mg):=by
 rw [countRun'_eq]
 have tail:∀ (q:Array Nat) (k:Nat),Bh lo p q->1≤k->k≤nrem->DnL lt lo q (lo+k)->UpL lt lo (kas_rev q lo (lo+k)) (lo+k)/\Bh lo p (kas_rev q lo (lo+k)):=fun q k b k1 k2 d=>by
  have zq:lo+k≤q.size:=by rw [b.perm.size_eq];omega
  exact ⟨xAtp zq d,b.trans (xAkz (qg _) zq)⟩
 refine wpS_bind (xAds W hq hb (fun x k=>rfl) (qg 1) h1 hz (up1 W) fun k k1 k2 up hlt=>?_);dsimp only
 by_cases hnn:k=nrem
 ·rw [if_pos (by simpa using hnn)]
  exact wpS_pure (h p k (.refl _ _) k1 k2 up)
 ·rw [if_neg (by simpa using hnn)]
  have hlt:=hlt (by omega);refine wp_if (fun hgt=>?_) fun hle=>?_
  ·refine wpS_bind (xAga hq hb (by omega) (by omega) ?_)
   cases e2:lt (g p lo) (g p (lo+k - 1)) with
   | true =>
    dsimp only;rw [if_pos rfl];exact wpS_pure (h p k (.refl _ _) k1 k2 up)
   | false =>
    dsimp only;rw [if_neg (by decide)];refine wpS_bind (xAgb ?_)
    have dn:DnL lt lo p (lo+k):=fun i j a1 a2 a3=>W.le_tr (W.le_tr (up j (lo+k - 1) (by omega) (by omega) (by omega)) e2) (up lo i (qg _) a1 (by omega))
    have lk:=xAfe W (p:=p) (i:=lo) (j:=lo+k) (by omega) fun m a1 a2=>⟨dn m (lo+k - 1) a1 (by omega) (by omega),up m (lo+k - 1) a1 (by omega) (by omega)⟩
    obtain ⟨q,eq,b,d⟩:∃ q,q=kas_rev p lo (lo+k)/\Bh lo p q/\DnL lt lo q (lo+(k+1)):=⟨_,rfl,xAkz (qg _) (by omega),xAdr (k:=lo+k) W (by omega) (xAff W lk dn) (by
     rw [xApn (k:=lo+k) (by omega) (qg _)]
     exact W.le_tr (W.le_of_lt hlt) (lk (lo+k - 1)).1)⟩
    rw [← eq];have hbq:=xAbw b.perm hb;have zq:q.size=p.size:=b.perm.size_eq;refine wpS_bind (wpS_lift (wpAny_rule ⟨rfl,?_⟩));refine wpS_bind (xAhy W hq hbq (fun x k q=>rfl) (by omega) (by omega) (by omega) d fun q' k' m' b' a1 a2 d' l'=>?_);dsimp only;have b2:=b.trans b';have z2:q'.size=p.size:=b2.perm.size_eq;refine wp_if (fun hm=>?_) fun hm=>?_
    ·have lk':=xAfe W (p:=q') (i:=lo+k' - (m'+1)) (j:=lo+k') (by omega) l'.2
     have b3:=b2.trans (xAkz (p:=q') (i:=lo+k' - (m'+1)) (j:=lo+k') (by have:=l'.1;omega) (by omega));obtain ⟨u3,b4⟩:=tail _ k' b3 (by omega) a2 (xAff W lk' d');have z4:=b4.perm.size_eq;exact wpS_bind (xAgb (wpS_bind (xAgb (wpS_bind (xAds W hq (xAbw b4.perm hb) (fun x k=>rfl) (by omega) a2 (by omega) u3 fun k4 a3 a4 u4 _=>wpS_pure (h _ k4 b4 (by omega) a4 u4))))))
    ·obtain ⟨u3,b4⟩:=tail _ k' b2 (by omega) a2 d'
     have z4:=b4.perm.size_eq;exact wpS_bind (xAgb (wpS_bind (xAds W hq (xAbw b4.perm hb) (fun x k=>rfl) (by omega) a2 (by omega) u3 fun k4 a3 a4 u4 _=>wpS_pure (h _ k4 b4 (by omega) a4 u4))))
  ·have e1:k=1:=by omega
   subst e1;obtain ⟨q,eq,b,d⟩:∃ q,q=p/\Bh lo p q/\DnL lt lo q (lo+(1+1)):=⟨p,rfl,.refl _ _,xAdr (k:=lo+1) W (by omega) (dn1 W) (W.le_of_lt hlt)⟩;rw [← eq];have hbq:=xAbw b.perm hb;have zq:q.size=p.size:=b.perm.size_eq;refine wpS_bind (wpS_lift (wpAny_rule ⟨rfl,?_⟩));refine wpS_bind (xAhy W hq hbq (fun x k q=>rfl) (by omega) (by omega) (by omega) d fun q' k' m' b' a1 a2 d' l'=>?_);dsimp only;have b2:=b.trans b';have z2:q'.size=p.size:=b2.perm.size_eq;refine wp_if (fun hm=>?_) fun hm=>?_
   ·have lk':=xAfe W (p:=q') (i:=lo+k' - (m'+1)) (j:=lo+k') (by omega) l'.2
    have b3:=b2.trans (xAkz (p:=q') (i:=lo+k' - (m'+1)) (j:=lo+k') (by have:=l'.1;omega) (by omega));obtain ⟨u3,b4⟩:=tail _ k' b3 (by omega) a2 (xAff W lk' d');have z4:=b4.perm.size_eq;exact wpS_bind (xAgb (wpS_bind (xAgb (wpS_bind (xAds W hq (xAbw b4.perm hb) (fun x k=>rfl) (by omega) a2 (by omega) u3 fun k4 a3 a4 u4 _=>wpS_pure (h _ k4 b4 (by omega) a4 u4))))))
   ·obtain ⟨u3,b4⟩:=tail _ k' b2 (by omega) a2 d'
    have z4:=b4.perm.size_eq;exact wpS_bind (xAgb (wpS_bind (xAds W hq (xAbw b4.perm hb) (fun x k=>rfl) (by omega) a2 (by omega) u3 fun k4 a3 a4 u4 _=>wpS_pure (h _ k4 b4 (by omega) a4 u4))))
theorem bin_ok (W:Swo lt) (hq:Ans prog w A s κ it n lt) (hb:In n p) {ok:Nat} {Q:Bool->SortSt->Prop} (h1:1≤ok) (hok:ok≤nrem) (hz:lo+nrem≤p.size) (hu:UpL lt lo p (lo+ok))
  (h:∀ q,Bh lo p q->UpL lt lo q (lo+nrem)->Q true (S κ it q pd mg)):wpS (model prog w) A E s (binarySort' lo nrem ok) Q (S κ it p pd mg):=by
 rw [binarySort'_eq]
 refine wpS_bind (wpS_mono (wpS_forRange (I:=fun k c st'=>c=(none,())/\∃ q,st'=S κ it q pd mg/\Bh lo p q/\UpL lt lo q (lo+k))
  (Q:=fun c st'=>c=(none,())/\∃ q,st'=S κ it q pd mg/\Bh lo p q/\UpL lt lo q (lo+nrem)) ?step ?fin ?init) ?post)
 case post =>
  rintro c st' ⟨rfl,q,rfl,b,u⟩;exact wpS_pure (h q b u)
 case init=>exact ⟨rfl,p,rfl,.refl _ _,by rw [show max ok 1=ok by omega];exact hu⟩
 case fin =>
  rintro c st' ⟨hc,q,e,b,u⟩;rw [show max (max ok 1) nrem=nrem by omega] at u;exact ⟨hc,q,e,b,u⟩
 case step =>
  rintro k c st' hk1 hk2 ⟨rfl,q,rfl,b,u⟩;have hbq:=xAbw b.perm hb;have zq:q.size=p.size:=b.perm.size_eq;dsimp only
  refine wpS_bind (wpS_mono (wpS_forRange (I:=fun x c st''=>st''=S κ it q pd mg/\∃ l r,c=(none,l,r)/\l≤r/\r≤k/\r - l≤k - x/\(∀ i,i<l->lt (g q (lo+k)) (g q (lo+i))=false)/\∀ i,r≤i->i<k->lt (g q (lo+k)) (g q (lo+i))=true)
   (Q:=fun c st''=>st''=S κ it q pd mg/\∃ l r,c=(none,l,r)/\l≤k/\(∀ i,i<l->lt (g q (lo+k)) (g q (lo+i))=false)/\∀ i,l≤i->i<k->lt (g q (lo+k)) (g q (lo+i))=true) ?step2 ?fin2 ⟨rfl,0,k,rfl,zm _,qg _,by omega,fun i z=>absurd z (by omega),fun i a1 a2=>absurd a2 (by omega)⟩) ?post2)
  case fin2 =>
   rintro c st' ⟨rfl,l,r,rfl,a1,a2,a3,a4,a5⟩;exact ⟨rfl,l,r,rfl,by omega,a4,fun i b1 b2=>a5 i (by omega) b2⟩
  case step2 =>
   rintro x c st' _ hx ⟨rfl,l,r,rfl,a1,a2,a3,a4,a5⟩;dsimp only;refine wp_if (fun hlr=>?_) fun hlr=>?_
   ·exact wpS_pure ⟨rfl,l,r,rfl,by omega,a4,fun i b1 b2=>a5 i (by omega) b2⟩
   ·refine wpS_bind (xAga hq hbq (by omega) (by omega) ?_)
    cases e2:lt (g q (lo+k)) (g q (lo+(l+r) / 2)) with
    | true =>
     dsimp only;rw [if_pos rfl];exact wpS_pure ⟨rfl,l,(l+r) / 2,rfl,by omega,by omega,by omega,a4,fun i b1 b2=>W.lt_le e2 (u _ _ (by omega) (by omega) (by omega))⟩
    | false =>
     dsimp only;rw [if_neg (by decide)];exact wpS_pure ⟨rfl,(l+r) / 2+1,r,rfl,by omega,by omega,by omega,fun i b1=>W.le_tr (u (lo+i) (lo+(l+r) / 2) (by omega) (by omega) (by omega)) e2,a5⟩
  case post2 =>
   rintro c st' ⟨rfl,l,r,rfl,a1,l2,l3⟩;dsimp only;refine wpS_bind (xAto (wpS_pure ⟨rfl,_,rfl,?_,?_⟩))
   ·refine b.trans ⟨bubble_perm _ _ _,fun i hi=>?_⟩
    rw [getElem?_bubble (by omega) _ (by omega),if_neg (by omega),if_neg (by omega)]
   ·have at':∀ i,g (bubble q (lo+k) (lo+k - (lo+l))) i=if i=lo+l then g q (lo+k) else if lo+l<i/\i≤lo+k then g q (i - 1) else g q i:=fun i=>by
     have e:=getElem?_bubble (xs:=q) (src:=lo+k) (by omega) (lo+k - (lo+l)) (by omega) i;rw [show lo+k - (lo+k - (lo+l))=lo+l by omega] at e
     by_cases h1:i=lo+l
     ·rw [if_pos h1] at e ⊢;exact g_of e
     ·rw [if_neg h1] at e ⊢
      by_cases h2:lo+l<i/\i≤lo+k
      ·rw [if_pos h2] at e ⊢;exact g_of e
      ·rw [if_neg h2] at e ⊢;exact g_of e
    intro i j h0 hij hj;rw [at' i,at' j]
    have low:∀ i,lo≤i->i<lo+l->lt (g q (lo+k)) (g q i)=false:=fun i c1 c2=>by
     have:=l2 (i - lo) (by omega)
     rwa [show lo+(i - lo)=i by omega] at this
    have hig:∀ i,lo+l≤i->i<lo+k->lt (g q (lo+k)) (g q i)=true:=fun i c1 c2=>by
     have:=l3 (i - lo) (by omega) (by omega)
     rwa [show lo+(i - lo)=i by omega] at this
    by_cases i1:i=lo+l
    ·rw [if_pos i1]
     by_cases j1:j=lo+l
     ·rw [if_pos j1];exact W.irr _
     ·rw [if_neg j1,if_pos ⟨by omega,by omega⟩]
      exact W.le_of_lt (hig (j - 1) (by omega) (by omega))
    ·rw [if_neg i1]
     by_cases i2:lo+l<i/\i≤lo+k
     ·rw [if_pos i2,if_neg (by omega),if_pos ⟨by omega,by omega⟩]
      exact u _ _ (by omega) (by omega) (by omega)
     ·rw [if_neg i2]
      by_cases j1:j=lo+l
      ·rw [if_pos j1];exact low i h0 (by omega)
      ·rw [if_neg j1]
       by_cases j2:lo+l<j/\j≤lo+k
       ·rw [if_pos j2];exact u _ _ (by omega) (by omega) (by omega)
       ·rw [if_neg j2];exact u _ _ (by omega) (by omega) (by omega)
end
def gallop':Bool->Keyed->Array Keyed->Nat->Nat->Nat->StateT SortSt Sem (Option Nat):=sortPriv% PySem.Builtin.gallop
def fl (it:Array Keyed) (L:List Nat):Array Keyed:=(L.map (kas_item it)).toArray
def Le (lt:Nat->Nat->Bool) (L:List Nat):Prop:=L.Pairwise fun x y=>lt y x=false
def bv (lt:Nat->Nat->Bool) (left:Bool) (k x:Nat):Bool:=if left=true then lt x k else !(lt k x)
section
variable {it:Array Keyed}
theorem xAcq (O:List Nat) (z:Nat):(fl it O).push (kas_item it z)=fl it (O++[z]):=by unfold fl;simp
theorem xAcj (O K:List Nat):fl it O++fl it K=fl it (O++K):=by unfold fl;simp
theorem xAax (L:List Nat):(fl it L).size=L.length:=by unfold fl;simp
theorem xAla (L:List Nat) (i j:Nat):(fl it L).extract i j=fl it ((L.drop i).take (j - i)):=by
 unfold fl;simp [List.extract_eq_drop_take,List.map_take,List.map_drop]
theorem xAjm (L:List Nat) (i:Nat):(fl it L).extract i=fl it (L.drop i):=by
 rw [xAla,xAax,v9 (by rw [z5];omega)]
theorem xAlb (L:List Nat) (i k:Nat):(fl it L).extract i (i+k)=fl it ((L.drop i).take k):=by
 rw [xAla,show i+k - i=k by omega]
theorem xAoc (L:List Nat):(fl it L).reverse=fl it L.reverse:=by unfold fl;simp
theorem fl_at (L:List Nat) {i:Nat} (h:i<L.length):(fl it L)[i]?=some (kas_item it (L.getD i 0)):=by unfold fl;simp [h]
end
section
variable {prog:Program} {w:World} {A:Around} {E:Value->Shared->Prop} {s:Shared} {κ:SortKind} {it:Array Keyed} {n:Nat} {lt:Nat->Nat->Bool}
theorem elemL {L:List Nat} {i:Nat} {st:SortSt} {Q:Keyed->SortSt->Prop} (hi:i<L.length) (h:Q (kas_item it (L.getD i 0)) st):wpS (model prog w) A E s (elem' (fl it L) i) Q st:=by
 rw [elem'_eq,fl_at L hi];exact wpS_pure h
theorem xAcf (W:Swo lt) (hq:Ans prog w A s κ it n lt) {left:Bool} {kx cnt base hint:Nat} {L M:List Nat} {st:SortSt} {Q:Option Nat->SortSt->Prop} (hst:kindOf st=κ) (hk:kx<n) (hb:∀ x∈M,x<n) (hl:M.length=cnt)
  (hM:∀ i,i<cnt->L[base+i]?=M[i]?) (sM:Le lt M) (hh:hint<cnt) (h:∀ k,k≤cnt->(∀ x∈M.take k,bv lt left kx x=true)->(∀ x∈M.drop k,bv lt left kx x=false)->Q (some k) st) :
  wpS (model prog w) A E s (gallop' left (kas_item it kx) (fl it L) base cnt hint) Q st:=by
 let bey:Nat->Bool:=fun i=>bv lt left kx (M.getD i 0)
 have gM:∀ i,i<cnt->L.getD (base+i) 0=M.getD i 0/\base+i<L.length:=fun i hi=>by
  have e:=hM i hi;refine ⟨by rw [qo,qo,e],?_⟩;rw [qi (by omega:i<M.length)] at e;exact (ze.mp e).1
 have inM:∀ i,i<cnt->M.getD i 0∈M:=fun i hi=>by
  rw [qo,qi (by omega:i<M.length)];exact yr _
 have le:∀ i j,i≤j->j<cnt->lt (M.getD j 0) (M.getD i 0)=false:=fun i j hij hj=>by
  by_cases e:i=j
  ·subst e;exact W.irr _
  ·have:=jp.mp sM i j (by omega) (by omega) (by omega)
   rw [qo,qo,qi (by omega:i<M.length),qi (by omega:j<M.length)];exact this
 have mono:∀ i j,i≤j->j<cnt->bey j=true->bey i=true:=fun i j hij hj hb'=>by
  have l:=le i j hij hj;show bv lt left kx (M.getD i 0)=true;have hb':bv lt left kx (M.getD j 0)=true:=hb';unfold bv at hb' ⊢
  cases left with
  | true =>
   rw [if_pos rfl] at hb' ⊢;rcases W.nt _ (M.getD i 0) _ hb' with q | q
   ·rw [l] at q;cases q
   ·exact q
  | false =>
   rw [if_neg (by decide)] at hb' ⊢
   cases e:lt kx (M.getD i 0) with
   | false=>rfl
   | true=>rw [W.lt_le e l] at hb';cases hb'
 have mono':∀ i j,i≤j->j<cnt->bey i=false->bey j=false:=fun i j hij hj hb'=>by
  cases e:bey j with
  | false=>rfl
  | true=>rw [mono i j hij hj e] at hb';cases hb'
 have bo:∀ i (R:Option Bool->SortSt->Prop),i<cnt->R (some (bey i)) st->wpS (model prog w) A E s (elem' (fl it L) (base+i) >>= fun x=>if left=true then lt' x (kas_item it kx) else (lt' (kas_item it kx) x >>= fun r=>pure (r.map fun b=>!b))) R st:=fun i R hi hR=>by
  obtain ⟨e1,e2⟩:=gM i hi;refine wpS_bind (elemL e2 ?_);rw [e1];have hn:=hb _ (inM i hi);have hR:R (some (bv lt left kx (M.getD i 0))) st:=hR;unfold bv at hR
  cases left with
  | true =>
   rw [if_pos rfl] at hR ⊢;exact lt_ok hq hst hn hk hR
  | false =>
   rw [if_neg (by decide)] at hR ⊢;exact wpS_bind (lt_ok hq hst hk hn (wpS_pure hR))
 have out:∀ k,k≤cnt->(∀ i,i<k->bey i=true)->(∀ i,k≤i->i<cnt->bey i=false)->Q (some k) st:=fun k hk h1 h2=>h k hk (fun x hx=>by
   obtain ⟨i,hi,e⟩:=wk.mp hx;rw [zt] at hi;have:=h1 i (by omega)
   have e2:M.getD i 0=x:=by
    rw [qo,qi (by omega:i<M.length),← e,jq];rfl
   rw [← e2];exact this) fun x hx=>by
   obtain ⟨i,hi,e⟩:=wk.mp hx;rw [z5] at hi;have:=h2 (k+i) (by omega) (by omega)
   have e2:M.getD (k+i) 0=x:=by
    rw [qo,qi (by omega:k+i<M.length),← e,List.getElem_drop];rfl
   rw [← e2];exact this
 have fin:∀ (lo hi:Nat) (f:Nat->Option (Option Nat)×Nat×Nat->StateT SortSt Sem (ForInStep (Option (Option Nat)×Nat×Nat))),lo≤hi->hi≤cnt->(∀ i,i<lo->bey i=true)->(∀ i,hi≤i->i<cnt->bey i=false) →
   (∀ x lo hi,f x (none,lo,hi)=if lo≥hi then pure (ForInStep.done (none,lo,hi)) else ((elem' (fl it L) (base+(lo+(hi - lo) / 2)) >>= fun x=>if left=true then lt' x (kas_item it kx) else (lt' (kas_item it kx) x >>= fun r=>pure (r.map fun b=>!b))) >>= fun r=>match r with
    | some more=>if more=true then pure (ForInStep.yield (none,lo+(hi - lo) / 2+1,hi)) else pure (ForInStep.yield (none,lo,lo+(hi - lo) / 2))
    | _=>pure (ForInStep.done (some none,lo,hi)))) →
   wpS (model prog w) A E s (forIn [0:cnt] ((none,lo,hi):Option (Option Nat)×Nat×Nat) f) (fun c st'=>st'=st/\∃ lo hi,c=(none,lo,hi)/\Q (some hi) st) st:=fun lo hi f a1 a2 a3 a4 hf=>by
  refine wpS_forRange (I:=fun x c st'=>st'=st/\∃ lo hi,c=(none,lo,hi)/\lo≤hi/\hi≤cnt/\hi - lo≤cnt - x/\(∀ i,i<lo->bey i=true)/\∀ i,hi≤i->i<cnt->bey i=false) ?step ?fend ⟨rfl,lo,hi,rfl,a1,a2,by omega,a3,a4⟩
  case fend =>
   rintro c st' ⟨rfl,lo,hi,rfl,a1,a2,a3,a4,a5⟩
   have:lo=hi:=by omega
   subst this;exact ⟨rfl,lo,lo,rfl,out lo a2 a4 a5⟩
  case step =>
   rintro x c st' _ hx ⟨rfl,lo,hi,rfl,a1,a2,a3,a4,a5⟩;rw [hf];refine wp_if (fun hlr=>?_) fun hlr=>?_
   ·have:lo=hi:=by omega
    subst this;exact wpS_pure ⟨rfl,lo,lo,rfl,out lo a2 a4 a5⟩
   ·refine wpS_bind (bo _ _ (by omega) ?_)
    cases e:bey (lo+(hi - lo) / 2) with
    | true =>
     dsimp only;rw [if_pos rfl];exact wpS_pure ⟨rfl,_,hi,rfl,by omega,by omega,by omega,fun i hi'=>mono i _ (by omega) (by omega) e,a5⟩
    | false =>
     dsimp only;rw [if_neg (by decide)];exact wpS_pure ⟨rfl,lo,_,rfl,by omega,by omega,by omega,a4,fun i b1 b2=>mono' _ i b1 b2 e⟩
 refine wpS_bind (bo hint _ hh ?_)
 cases e0:bey hint with
 | true =>
  dsimp only;rw [if_pos rfl]
  refine wpS_bind (wpS_mono (wpS_forRange (I:=fun x c st'=>st'=st/\∃ last ofs,c=(none,last,ofs)/\last<ofs/\hint+last<cnt/\x+1≤ofs/\bey (hint+last)=true)
   (Q:=fun c st'=>st'=st/\∃ last ofs,c=(none,last,ofs)/\last<ofs/\hint+last<cnt/\bey (hint+last)=true/\(cnt - hint≤ofs\/bey (hint+ofs)=false)) ?s1 ?f1 ⟨rfl,0,1,rfl,by omega,by omega,by omega,e0⟩) ?p1)
  case f1 =>
   rintro c st' ⟨rfl,last,ofs,rfl,a1,a2,a3,a4⟩;exact ⟨rfl,last,ofs,rfl,a1,a2,a4,.inl (by omega)⟩
  case s1 =>
   rintro x c st' _ hx ⟨rfl,last,ofs,rfl,a1,a2,a3,a4⟩;refine wp_if (fun hlr=>?_) fun hlr=>?_
   ·exact wpS_pure ⟨rfl,last,ofs,rfl,a1,a2,a4,.inl hlr⟩
   ·dsimp only at hlr
    refine wpS_bind (bo (hint+ofs) _ (by omega) ?_)
    cases e:bey (hint+ofs) with
    | true=>exact wpS_pure ⟨rfl,ofs,2 * ofs+1,rfl,by omega,by omega,by omega,e⟩
    | false=>exact wpS_pure ⟨rfl,last,ofs,rfl,a1,a2,a4,.inr e⟩
  case p1 =>
   rintro c st' ⟨rfl,last,ofs,rfl,a1,a2,a3,a4⟩;refine wpS_bind (wpS_mono (fin _ _ _ (by dsimp only;omega) (by dsimp only;omega) (fun i hi=>mono i (hint+last) (by dsimp only at hi;omega) a2 a3) (fun i b1 b2=>?_) fun x lo hi=>rfl) ?_)
   ·dsimp only at b1
    rcases a4 with a4 | a4
    ·omega
    ·exact mono' (hint+ofs) i (by omega) b2 a4
   ·rintro c st' ⟨rfl,lo,hi,rfl,q⟩
    exact wpS_pure q
 | false =>
  dsimp only;rw [if_neg (by decide)]
  refine wpS_bind (wpS_mono (wpS_forRange (I:=fun x c st'=>st'=st/\∃ last ofs,c=(none,last,ofs)/\last<ofs/\last≤hint/\x+1≤ofs/\bey (hint - last)=false)
   (Q:=fun c st'=>st'=st/\∃ last ofs,c=(none,last,ofs)/\last<ofs/\last≤hint/\bey (hint - last)=false/\(hint+1≤ofs\/bey (hint - ofs)=true)) ?s1 ?f1 ⟨rfl,0,1,rfl,by omega,by omega,by omega,e0⟩) ?p1)
  case f1 =>
   rintro c st' ⟨rfl,last,ofs,rfl,a1,a2,a3,a4⟩;exact ⟨rfl,last,ofs,rfl,a1,a2,a4,.inl (by omega)⟩
  case s1 =>
   rintro x c st' _ hx ⟨rfl,last,ofs,rfl,a1,a2,a3,a4⟩;refine wp_if (fun hlr=>?_) fun hlr=>?_
   ·exact wpS_pure ⟨rfl,last,ofs,rfl,a1,a2,a4,.inl hlr⟩
   ·dsimp only at hlr
    refine wpS_bind (bo (hint - ofs) _ (by omega) ?_)
    cases e:bey (hint - ofs) with
    | true=>exact wpS_pure ⟨rfl,last,ofs,rfl,a1,a2,a4,.inr e⟩
    | false=>exact wpS_pure ⟨rfl,ofs,2 * ofs+1,rfl,by omega,by omega,by omega,e⟩
  case p1 =>
   rintro c st' ⟨rfl,last,ofs,rfl,a1,a2,a3,a4⟩;refine wpS_bind (wpS_mono (fin _ _ _ (by dsimp only;omega) (by dsimp only;omega) (fun i hi=>?_) (fun i b1 b2=>mono' (hint - last) i b1 b2 a3) fun x lo hi=>rfl) ?_)
   ·dsimp only at hi
    rcases a4 with a4 | a4
    ·omega
    ·exact mono i (hint - ofs) (by omega) (by omega) a4
   ·rintro c st' ⟨rfl,lo,hi,rfl,q⟩
    exact wpS_pure q
end
def mergeLo':Array Keyed->Array Keyed->StateT SortSt Sem (Array Keyed):=sortPriv% PySem.Builtin.mergeLo
def setMG':Nat->StateT SortSt Sem Unit:=sortPriv% PySem.Builtin.setMinGallop
def Dn (lt:Nat->Nat->Bool) (it:Array Keyed) (A B:List Nat) (r:Array Keyed):Prop:=∃ R,r=fl it R/\R.Perm (A++B)/\Le lt R
structure Mi (lt:Nat->Nat->Bool) (A B O:List Nat) (ia ib:Nat):Prop where
 la:Le lt (O++A.drop ia)
 lb:Le lt (O++B.drop ib)
 pm:(O++(A.drop ia++B.drop ib)).Perm (A++B)
 ls:∀ A' y,A.drop ia=A'++[y]->∀ z∈B.drop ib,lt y z=false
section
variable {lt:Nat->Nat->Bool} {it:Array Keyed} {A B O:List Nat} {ia ib:Nat} {o:Array Keyed}
theorem Le.app {X Y:List Nat} (h1:Le lt X) (h2:Le lt Y) (h:∀ x∈X,∀ y∈Y,lt y x=false):Le lt (X++Y):=jr.mpr ⟨h1,h2,h⟩
theorem Le.left {X Y:List Nat} (h:Le lt (X++Y)):Le lt X:=(jr.mp h).1
theorem Le.right {X Y:List Nat} (h:Le lt (X++Y)):Le lt Y:=(jr.mp h).2.1
theorem Le.between {X Y:List Nat} (h:Le lt (X++Y)):∀ x∈X,∀ y∈Y,lt y x=false:=(jr.mp h).2.2
theorem Mi.a (M:Mi lt A B O ia ib) (k:Nat) (h:∀ x∈(A.drop ia).take k,∀ z∈B.drop ib,lt z x=false):Mi lt A B (O++(A.drop ia).take k) (ia+k) ib:=by
 have e:(A.drop ia).take k++A.drop (ia+k)=A.drop ia:=by rw [← jt,wy]
 have la:Le lt (O++(A.drop ia).take k++A.drop (ia+k)):=by rw [zo,e];exact M.la
 refine ⟨la,la.left.app M.lb.right fun x hx z hz=>?_,?_,fun A' y he z hz=>M.ls ((A.drop ia).take k++A') y (by rw [zo,← he,e]) z hz⟩
 ·rcases qz.mp hx with hx | hx
  ·exact M.lb.between x hx z hz
  ·exact h x hx z hz
 ·have:=M.pm
  rw [← e] at this;simpa [List.append_assoc] using this
theorem Mi.b (M:Mi lt A B O ia ib) (k:Nat) (h:∀ x∈(B.drop ib).take k,∀ z∈A.drop ia,lt z x=false):Mi lt A B (O++(B.drop ib).take k) ia (ib+k):=by
 have e:(B.drop ib).take k++B.drop (ib+k)=B.drop ib:=by rw [← jt,wy]
 have lb:Le lt (O++(B.drop ib).take k++B.drop (ib+k)):=by rw [zo,e];exact M.lb
 refine ⟨lb.left.app M.la.right fun x hx z hz=>?_,lb,?_,fun A' y he z hz=>M.ls A' y he z (by rw [← e];exact z9 _ hz)⟩
 ·rcases qz.mp hx with hx | hx
  ·exact M.la.between x hx z hz
  ·exact h x hx z hz
 ·have pm:=M.pm
  rw [← e] at pm;refine List.Perm.trans ?_ pm;rw [zo];refine List.Perm.append_left O ?_;rw [← zo,← zo];exact List.Perm.append_right _ y8
theorem drop_cons {L:List Nat} {i:Nat} (h:i<L.length):L.drop i=L.getD i 0::L.drop (i+1):=by
 rw [ja h,qo,qi h];rfl
theorem take1 {L:List Nat} {i:Nat} (h:i<L.length):(L.drop i).take 1=[L.getD i 0]:=by rw [drop_cons h];rfl
theorem Mi.a1 (M:Mi lt A B O ia ib) (hi:ia<A.length) (h:∀ z∈B.drop ib,lt z (A.getD ia 0)=false):Mi lt A B (O++[A.getD ia 0]) (ia+1) ib:=by
 have:=M.a 1 (by rw [take1 hi];intro x hx;rw [zb.mp hx];exact h)
 rwa [take1 hi] at this
theorem Mi.b1 (M:Mi lt A B O ia ib) (hi:ib<B.length) (h:∀ z∈A.drop ia,lt z (B.getD ib 0)=false):Mi lt A B (O++[B.getD ib 0]) ia (ib+1):=by
 have:=M.b 1 (by rw [take1 hi];intro x hx;rw [zb.mp hx];exact h)
 rwa [take1 hi] at this
theorem xAeq (W:Swo lt) {L:List Nat} {i:Nat} (h:Le lt (L.drop i)) (hi:i<L.length):∀ z∈L.drop i,lt z (L.getD i 0)=false:=fun z hz=>by
 rw [drop_cons hi] at h hz;rcases qw.mp hz with rfl | hz
 ·exact W.irr _
 ·exact (zw.mp h).1 z hz
theorem Mi.doneB (ho:o=fl it O) (M:Mi lt A B O ia ib) (e:B.length≤ib):Dn lt it A B (o++(fl it A).extract ia++(fl it B).extract ib):=by
 have eb:B.drop ib=[]:=yt e;refine ⟨O++A.drop ia++B.drop ib,by rw [ho,xAjm,xAjm,xAcj,xAcj],by rw [zo];exact M.pm,?_⟩;rw [eb,zy];exact M.la
theorem Mi.doneA (ho:o=fl it O) (M:Mi lt A B O ia ib) (e:A.length≤ia):Dn lt it A B (o++(fl it A).extract ia++(fl it B).extract ib):=by
 have eb:A.drop ia=[]:=yt e;refine ⟨O++A.drop ia++B.drop ib,by rw [ho,xAjm,xAjm,xAcj,xAcj],by rw [zo];exact M.pm,?_⟩;rw [eb,zy];exact M.lb
theorem Mi.last (W:Swo lt) (ho:o=fl it O) (M:Mi lt A B O ia ib) (e:ia+1=A.length):Dn lt it A B (o++(fl it B).extract ib++(fl it A).extract ia):=by
 have ea:A.drop ia=[A.getD ia 0]:=by rw [drop_cons (by omega),yt (by omega)]
 refine ⟨O++B.drop ib++A.drop ia,by rw [ho,xAjm,xAjm,xAcj,xAcj],?_,?_⟩
 ·rw [zo]
  exact (List.Perm.append_left O y8).trans M.pm
 ·refine M.lb.app M.la.right fun x hx y hy=>?_
  rcases qz.mp hx with hx | hx
  ·exact M.la.between x hx y hy
  ·rw [ea] at hy
   rw [zb.mp hy];exact M.ls [] _ (by rw [ea];rfl) x hx
theorem Mi.len (M:Mi lt A B O ia ib):O.length+((A.length - ia)+(B.length - ib))=A.length+B.length:=by
 have:=M.pm.length_eq;simpa using this
theorem szE {L:List Nat} {i:Nat} (e:(i==(fl it L).size)=true):i=L.length:=by simpa [xAax] using e
theorem xAbt {L:List Nat} {i:Nat} (h:i<L.length):L.getD i 0∈L:=by
 rw [qo,qi h];exact yr h
end
def gOf:SortSt->Nat:=sortPriv% PySem.Builtin.SortState.minGallop
abbrev Lr:=Option (Array Keyed)×Array Keyed×Nat×Nat×Nat×Nat×Nat
abbrev Ls:=Option (Array Keyed)×Array Keyed×Nat×Nat×Nat×Nat
abbrev Lo:=Option (Array Keyed)×Array Keyed×Nat×Nat×Nat
def lo3 (a b:Array Keyed) (mg ac bc:Nat) (out:Array Keyed) (ia ib:Nat):StateT SortSt Sem (ForInStep Lr):=do
 let out:=out.push (← elem' a ia)
 if ia+1+1==a.size then return .done (some (out++b.extract ib++a.extract (ia+1)),out,ia+1,ib,mg,ac,bc)
 if ac<7&&bc<7 then return .done (none,out,ia+1,ib,mg,ac,bc)
 return .yield (none,out,ia+1,ib,mg,ac,bc)
def lo2 (a b:Array Keyed) (mg ac bc:Nat) (out:Array Keyed) (ia ib:Nat):StateT SortSt Sem (ForInStep Lr):=do
 let out:=out.push (← elem' b ib)
 if ib+1==b.size then return .done (some (out++a.extract ia++b.extract (ib+1)),out,ia,ib+1,mg,ac,bc)
 let some k ← gallop' true (← elem' a ia) b (ib+1) (b.size - (ib+1)) 0 | return .done (some (out++a.extract ia++b.extract (ib+1)),out,ia,ib+1,mg,ac,bc)
 if k>0 then
  let out:=out++b.extract (ib+1) (ib+1+k)
  if ib+1+k==b.size then return .done (some (out++a.extract ia++b.extract (ib+1+k)),out,ia,ib+1+k,mg,ac,k)
  lo3 a b mg ac k out ia (ib+1+k)
 else lo3 a b mg ac k out ia (ib+1)
def lo1 (a b:Array Keyed) (mg ac bc:Nat) (out:Array Keyed) (ia ib:Nat):StateT SortSt Sem (ForInStep Lr):=do
 setMG' mg
 let some k ← gallop' false (← elem' b ib) a ia (a.size - ia) 0 | return .done (some (out++a.extract ia++b.extract ib),out,ia,ib,mg,ac,bc)
 if k>0 then
  let out:=out++a.extract ia (ia+k)
  if ia+k+1==a.size then return .done (some (out++b.extract ib++a.extract (ia+k)),out,ia+k,ib,mg,k,bc)
  if ia+k==a.size then return .done (some (out++a.extract (ia+k)++b.extract ib),out,ia+k,ib,mg,k,bc)
  lo2 a b mg k bc out (ia+k) ib
 else lo2 a b mg k bc out ia ib
def loA (a b:Array Keyed) (mg:Nat) (out:Array Keyed) (ia ib ac bc:Nat):StateT SortSt Sem (ForInStep Ls):=do
 let some bw ← lt' (← elem' b ib) (← elem' a ia) | return .done (some (out++a.extract ia++b.extract ib),out,ia,ib,ac,bc)
 if bw then
  let out:=out.push (← elem' b ib)
  if ib+1==b.size then return .done (some (out++a.extract ia++b.extract (ib+1)),out,ia,ib+1,0,bc+1)
  if bc+1≥mg then return .done (none,out,ia,ib+1,0,bc+1)
  return .yield (none,out,ia,ib+1,0,bc+1)
 else
  let out:=out.push (← elem' a ia)
  if ia+1+1==a.size then return .done (some (out++b.extract ib++a.extract (ia+1)),out,ia+1,ib,ac+1,0)
  if ac+1≥mg then return .done (none,out,ia+1,ib,ac+1,0)
  return .yield (none,out,ia+1,ib,ac+1,0)
def loG (a b:Array Keyed) (mg ac bc:Nat) (out:Array Keyed) (ia ib:Nat):StateT SortSt Sem (ForInStep Lr):=if mg>1 then lo1 a b (mg - 1) ac bc out ia ib else lo1 a b mg ac bc out ia ib
def loE (c:Lr):StateT SortSt Sem (ForInStep Lo) :=
 match c.1 with
 | some r=>pure (.done (some r,c.2.1,c.2.2.1,c.2.2.2.1,c.2.2.2.2.1))
 | none=>do
  setMG' (c.2.2.2.2.1+1)
  pure (.yield (none,c.2.1,c.2.2.1,c.2.2.2.1,c.2.2.2.2.1+1))
def loM (a b:Array Keyed) (t mg:Nat) (c:Ls):StateT SortSt Sem (ForInStep Lo) :=
 match c.1 with
 | some r=>pure (.done (some r,c.2.1,c.2.2.1,c.2.2.2.1,mg))
 | none=>do
  rule "list.sort.gallop"
  let c ← forIn [0:t] ((none:Option (Array Keyed)),c.2.1,c.2.2.1,c.2.2.2.1,mg+1,c.2.2.2.2.1,c.2.2.2.2.2) fun _ c=>loG a b c.2.2.2.2.1 c.2.2.2.2.2.1 c.2.2.2.2.2.2 c.2.1 c.2.2.1 c.2.2.2.1
  loE c
def loO (a b:Array Keyed) (t:Nat) (out:Array Keyed) (ia ib mg:Nat):StateT SortSt Sem (ForInStep Lo):=do
 let c ← forIn [0:t] ((none:Option (Array Keyed)),out,ia,ib,0,0) fun _ c=>loA a b mg c.2.1 c.2.2.1 c.2.2.2.1 c.2.2.2.2.1 c.2.2.2.2.2
 loM a b t mg c
def loZ (a b:Array Keyed) (x:Keyed):StateT SortSt Sem (Array Keyed):=do
 let st ← get
 let c ← forIn [0:a.size+b.size] ((none:Option (Array Keyed)),#[x],0,1,gOf st) fun _ c=>loO a b (a.size+b.size) c.2.1 c.2.2.1 c.2.2.2.1 c.2.2.2.2
 match c.1 with
 | some r=>pure r
 | none=>unsupported "internal:list.sort.merge-bound"
theorem bnd2 {α β:Type} {x y:StateT SortSt Sem α} {f g:α->StateT SortSt Sem β} (h:x=y) (h':f=g):bind x f=bind y g:=by rw [h,h']
theorem xAlc (a b:Array Keyed):mergeLo' a b=(do
 rule "list.sort.merge-lo"
 let x ← elem' b 0
 if 1==b.size then pure (#[x]++a.extract 0++b.extract 1)
 else if 0+1==a.size then pure (#[x]++b.extract 1++a.extract 0)
 else loZ a b x):=by
 refine congrArg (bind (liftM (rule "list.sort.merge-lo"))) (funext fun _=>congrArg (bind (elem' b 0)) (funext fun x=>?_));refine ite_congr rfl (fun _=>rfl) fun _=>ite_congr rfl (fun _=>rfl) fun _=>congrArg (bind get) (funext fun st=>?_);refine bnd2 (congrArg (forIn _ _) (funext fun _=>funext fun c=>bnd2 (congrArg (forIn _ _) (funext fun _=>funext fun c=>rfl)) ?_)) ?_
 ·funext c
  obtain ⟨c1,c2⟩:=c
  cases c1 with
  | some r=>rfl
  | none =>
   refine congrArg (bind _) (funext fun _=>bnd2 (congrArg (forIn _ _) (funext fun _=>funext fun c=>rfl)) (funext fun c=>?_));obtain ⟨_ | _,_⟩:=c <;> rfl
 ·funext c
  obtain ⟨_ | _,_⟩:=c <;> rfl
section
variable {prog:Program} {w:World} {A₀:Around} {E:Value->Shared->Prop} {s:Shared} {κ:SortKind} {it:Array Keyed} {n:Nat} {lt:Nat->Nat->Bool} {A B:List Nat} {p:Array Nat} {pd:Array (Nat×Nat×Nat)} {mg:Nat}
theorem xAod {m:Nat} {Q:Unit->SortSt->Prop} (h:Q () (S κ it p pd m)):wpS (model prog w) A₀ E s (setMG' m) Q (S κ it p pd mg):=wpS_modify h
structure LQ (κ:SortKind) (it:Array Keyed) (p:Array Nat) (pd:Array (Nat×Nat×Nat)) (lt:Nat->Nat->Bool) (A B:List Nat) (l:Nat) (Q:ForInStep Lr->SortSt->Prop):Prop where
 don:∀ {r i j o m a b m'},Dn lt it A B r->Q (.done (some r,o,i,j,m,a,b)) (S κ it p pd m')
 brk:∀ {O i j o m a b m'},o=fl it O->Mi lt A B O i j->i+1<A.length->j<B.length->l<O.length->Q (.done (none,o,i,j,m,a,b)) (S κ it p pd m')/\Q (.yield (none,o,i,j,m,a,b)) (S κ it p pd m')
section
variable {Q:ForInStep Lr->SortSt->Prop} {l m a b i j:Nat} {O:List Nat} {o:Array Keyed} (W:Swo lt) (hq:Ans prog w A₀ s κ it n lt) (nA:∀ x∈A,x<n) (nB:∀ x∈B,x<n) (h:LQ κ it p pd lt A B l Q) (ho:o=fl it O) (M:Mi lt A B O i j) (h1:i+1<A.length) (h2:j<B.length) (hl:l≤O.length)
include W h ho M h1 h2 hl
theorem xAtq (hd:∀ z∈B.drop j,lt z (A.getD i 0)=false):wpS (model prog w) A₀ E s (lo3 (fl it A) (fl it B) m a b o i j) Q (S κ it p pd mg):=by
 have M7:=M.a1 (by omega) hd;subst ho;refine wpS_bind (elemL (by omega) ?_);refine wp_if (fun e=>wpS_pure (h.don (M7.last W (xAcq _ _) (by have:=szE e;omega)))) fun e8=>?_
 have e8:¬ i+1+1=A.length:=by simpa [xAax] using e8
 have hh:=fun {m a b m'}=>h.brk (m:=m) (a:=a) (b:=b) (m':=m') (xAcq O (A.getD i 0)) M7 (by omega) h2 (by rw [qm];exact gg hl)
 exact wp_if (fun _=>wpS_pure hh.1) fun _=>wpS_pure hh.2
include hq nA nB
theorem xAtr (hd:∀ z∈A.drop i,lt (B.getD j 0) z=true):wpS (model prog w) A₀ E s (lo2 (fl it A) (fl it B) m a b o i j) Q (S κ it p pd mg):=by
 have M4:=M.b1 h2 fun z hz=>W.le_of_lt (hd z hz);subst ho;have er:=xAcq (it:=it) O (B.getD j 0)
 have hl2:l≤(O++[B.getD j 0]).length:=by rw [qm];exact ku hl
 refine wpS_bind (elemL h2 ?_);refine wp_if (fun e=>wpS_pure (h.don (M4.doneB er (by have:=szE e;omega)))) fun e5=>?_
 have e5:¬ j+1=B.length:=by simpa [xAax] using e5
 refine wpS_bind (elemL (by omega) (wpS_bind (xAcf W hq (M:=B.drop (j+1)) rfl (nA _ (xAbt (by omega))) (fun x hx=>nB x (yh hx)) (by rw [z5,xAax]) (fun i' hi'=>by rw [jb]) M4.lb.right (by rw [xAax];omega) fun k2 hk2 ht2 hdd=>?_)))
 have hdd2:∀ z∈B.drop (j+1+k2),lt z (A.getD i 0)=false:=fun z hz=>by
  have:=hdd z (by rw [jt];exact hz);unfold bv at this;rwa [if_pos rfl] at this
 refine wp_if (fun hk0=>?_) fun hk0=>?_
 ·have M5:=M4.b k2 fun x hx z hz=>W.le_of_lt (W.lt_le (by have:=ht2 x hx;unfold bv at this;rwa [if_pos rfl] at this) (xAeq W M4.la.right (by omega) z hz))
  have er5:(fl it O).push (kas_item it (B.getD j 0))++(fl it B).extract (j+1) (j+1+k2)=fl it (O++[B.getD j 0]++(B.drop (j+1)).take k2):=by rw [xAcq,xAlb,xAcj]
  refine wp_if (fun e=>wpS_pure (h.don (M5.doneB er5 (by have:=szE e;omega)))) fun e6=>?_
  have e6:¬ j+1+k2=B.length:=by simpa [xAax] using e6
  have hk2':k2≤B.length - (j+1):=by rw [xAax] at hk2;exact hk2
  exact xAtq W h er5 M5 h1 (by omega) (by rw [qm];omega) hdd2
 ·have k0:k2=0:=by omega
  rw [k0] at hdd2;exact xAtq W h er M4 h1 (by omega) hl2 hdd2
theorem xAts:wpS (model prog w) A₀ E s (lo1 (fl it A) (fl it B) m a b o i j) Q (S κ it p pd mg):=by
 subst ho;refine wpS_bind (xAod (wpS_bind (elemL h2 (wpS_bind (xAcf W hq (M:=A.drop i) rfl (nB _ (xAbt h2)) (fun x hx=>nA x (yh hx)) (by rw [z5,xAax]) (fun i' hi'=>by rw [jb]) M.la.right (by rw [xAax];omega) fun k hk ht hd=>?_)))))
 have hd2:∀ z∈A.drop (i+k),lt (B.getD j 0) z=true:=fun z hz=>by
  have:=hd z (by rw [jt];exact hz);unfold bv at this;rw [if_neg (by decide)] at this;simpa using this
 refine wp_if (fun hk0=>?_) fun hk0=>?_
 ·have M2:=M.a k fun x hx z hz=>W.le_tr (by have:=ht x hx;unfold bv at this;rw [if_neg (by decide)] at this;simpa using this) (xAeq W M.lb.right h2 z hz)
  have er:fl it O++(fl it A).extract i (i+k)=fl it (O++(A.drop i).take k):=by rw [xAlb,xAcj]
  refine wp_if (fun e=>wpS_pure (h.don (M2.last W er (by have:=szE e;omega)))) fun e3=>?_;refine wp_if (fun e=>wpS_pure (h.don (M2.doneA er (by have:=szE e;omega)))) fun e4=>?_
  have e3:¬ i+k+1=A.length:=by simpa [xAax] using e3
  have e4:¬ i+k=A.length:=by simpa [xAax] using e4
  have hk':k≤A.length - i:=by rw [xAax] at hk;exact hk
  exact xAtr W hq nA nB h er M2 (by omega) h2 (by rw [qm];omega) hd2
 ·have k0:k=0:=by omega
  rw [k0] at hd2;exact xAtr W hq nA nB h rfl M h1 h2 hl hd2
end
inductive JA (κ:SortKind) (it:Array Keyed) (p:Array Nat) (pd:Array (Nat×Nat×Nat)) (lt:Nat->Nat->Bool) (A B:List Nat) (m l:Nat):Ls->SortSt->Prop
 | mk {O:List Nat} {i j a b:Nat}:Mi lt A B O i j->i+1<A.length->j<B.length->l≤O.length->JA κ it p pd lt A B m l (none,fl it O,i,j,a,b) (S κ it p pd m)
inductive EA (κ:SortKind) (it:Array Keyed) (p:Array Nat) (pd:Array (Nat×Nat×Nat)) (lt:Nat->Nat->Bool) (A B:List Nat) (m:Nat):Ls->SortSt->Prop
 | mk {r o:Array Keyed} {i j a b:Nat}:Dn lt it A B r->EA κ it p pd lt A B m (some r,o,i,j,a,b) (S κ it p pd m)
inductive JG (κ:SortKind) (it:Array Keyed) (p:Array Nat) (pd:Array (Nat×Nat×Nat)) (lt:Nat->Nat->Bool) (A B:List Nat) (l:Nat):Lr->SortSt->Prop
 | mk {O:List Nat} {i j a b m m':Nat}:Mi lt A B O i j->i+1<A.length->j<B.length->l≤O.length->JG κ it p pd lt A B l (none,fl it O,i,j,m,a,b) (S κ it p pd m')
inductive EG (κ:SortKind) (it:Array Keyed) (p:Array Nat) (pd:Array (Nat×Nat×Nat)) (lt:Nat->Nat->Bool) (A B:List Nat):Lr->SortSt->Prop
 | mk {r o:Array Keyed} {i j a b m m':Nat}:Dn lt it A B r->EG κ it p pd lt A B (some r,o,i,j,m,a,b) (S κ it p pd m')
inductive JO (κ:SortKind) (it:Array Keyed) (p:Array Nat) (pd:Array (Nat×Nat×Nat)) (lt:Nat->Nat->Bool) (A B:List Nat) (l:Nat):Lo->SortSt->Prop
 | mk {O:List Nat} {i j m m':Nat}:Mi lt A B O i j->i+1<A.length->j<B.length->l≤O.length->JO κ it p pd lt A B l (none,fl it O,i,j,m) (S κ it p pd m')
inductive EO (κ:SortKind) (it:Array Keyed) (p:Array Nat) (pd:Array (Nat×Nat×Nat)) (lt:Nat->Nat->Bool) (A B:List Nat):Lo->SortSt->Prop
 | mk {r o:Array Keyed} {i j m m':Nat}:Dn lt it A B r->EO κ it p pd lt A B (some r,o,i,j,m) (S κ it p pd m')
section
variable (W:Swo lt) (hq:Ans prog w A₀ s κ it n lt) (nA:∀ x∈A,x<n) (nB:∀ x∈B,x<n)
include W hq nA nB
theorem loA_ok {Q:ForInStep Ls->SortSt->Prop} {O:List Nat} {i j a b m l:Nat} (M:Mi lt A B O i j) (h1:i+1<A.length) (h2:j<B.length) (hl:l≤O.length)
  (hd:∀ {c},EA κ it p pd lt A B mg c (S κ it p pd mg)->Q (.done c) (S κ it p pd mg)) (hi:∀ {c},JA κ it p pd lt A B mg (l+1) c (S κ it p pd mg)->Q (.done c) (S κ it p pd mg)/\Q (.yield c) (S κ it p pd mg)) :
  wpS (model prog w) A₀ E s (loA (fl it A) (fl it B) m (fl it O) i j a b) Q (S κ it p pd mg):=by
 have zz:∀ x,l+1≤(O++[x]).length:=fun x=>by rw [qm];exact yi hl
 refine wpS_bind (elemL h2 (wpS_bind (elemL (by omega) (wpS_bind (lt_ok hq rfl (nB _ (xAbt h2)) (nA _ (xAbt (by omega))) ?_)))))
 cases e:lt (B.getD j 0) (A.getD i 0) with
 | true =>
  have M2:=M.b1 h2 fun z hz=>W.le_of_lt (W.lt_le e (xAeq W M.la.right (by omega) z hz))
  refine wp_if (fun _=>wpS_bind (elemL h2 ?_)) fun z=>absurd rfl z;refine wp_if (fun e=>wpS_pure (hd (.mk (M2.doneB (xAcq _ _) (by have:=szE e;omega))))) fun e3=>?_
  have e3:¬ j+1=B.length:=by simpa [xAax] using e3
  have hh:=fun {a b}=>hi (.mk (a:=a) (b:=b) M2 h1 (by omega) (zz _))
  rw [← xAcq] at hh;exact wp_if (fun _=>wpS_pure hh.1) fun _=>wpS_pure hh.2
 | false =>
  have M2:=M.a1 (by omega) fun z hz=>W.le_tr e (xAeq W M.lb.right h2 z hz)
  refine wp_if (fun z=>absurd z (by decide)) fun _=>wpS_bind (elemL (by omega) ?_)
  refine wp_if (fun e=>wpS_pure (hd (.mk (M2.last W (xAcq _ _) (by have:=szE e;omega))))) fun e3=>?_
  have e3:¬ i+1+1=A.length:=by simpa [xAax] using e3
  have hh:=fun {a b}=>hi (.mk (a:=a) (b:=b) M2 (by omega) h2 (zz _))
  rw [← xAcq] at hh;exact wp_if (fun _=>wpS_pure hh.1) fun _=>wpS_pure hh.2
theorem loM_ok {Q:ForInStep Lo->SortSt->Prop} {t m l:Nat} {c:Ls} {st:SortSt} (hc:EA κ it p pd lt A B mg c st\/JA κ it p pd lt A B mg l c st) (hd:∀ {c st},EO κ it p pd lt A B c st->Q (.done c) st) (hi:∀ {c st},JO κ it p pd lt A B l c st->Q (.yield c) st) :
  wpS (model prog w) A₀ E s (loM (fl it A) (fl it B) t m c) Q st:=by
 rcases hc with d | ⟨M,h1,h2,h3⟩
 ·cases d with
  | mk d=>exact wpS_pure (hd (.mk d))
 refine wpS_bind (wpS_lift (wpAny_rule ⟨rfl,?_⟩));refine wpS_bind (wpS_mono (wpS_forRange (I:=fun _=>JG κ it p pd lt A B l) (Q:=fun c st=>EG κ it p pd lt A B c st\/JG κ it p pd lt A B l c st) ?_ (fun _ _ q=>.inr q) (.mk M h1 h2 h3)) ?_)
 ·rintro y c st' _ _ ⟨M,h1,h2,h3⟩
  refine (fun {Q:ForInStep Lr->SortSt->Prop} (H:LQ κ it p pd lt A B l Q)=>wp_if (fun _=>xAts W hq nA nB H rfl M h1 h2 h3) fun _=>xAts W hq nA nB H rfl M h1 h2 h3) ⟨fun d=>.inl (.mk d),fun eo m x1 x2 x3=>?_⟩;subst eo;exact ⟨.inr (.mk m x1 x2 (zv x3)),.mk m x1 x2 (zv x3)⟩
 ·rintro c st' (d | ⟨M,h1,h2,h3⟩)
  ·cases d with
   | mk d=>exact wpS_pure (hd (.mk d))
  ·exact wpS_bind (xAod (wpS_pure (hi (.mk M h1 h2 h3))))
theorem loO_ok {Q:ForInStep Lo->SortSt->Prop} {O:List Nat} {i j m t:Nat} (ht:A.length+B.length≤t) (M:Mi lt A B O i j) (h1:i+1<A.length) (h2:j<B.length) (hd:∀ {c st},EO κ it p pd lt A B c st->Q (.done c) st) (hi:∀ {c st},JO κ it p pd lt A B (O.length+1) c st->Q (.yield c) st) :
  wpS (model prog w) A₀ E s (loO (fl it A) (fl it B) t (fl it O) i j m) Q (S κ it p pd mg):=by
 refine wpS_bind (wpS_mono (wpS_forRange (I:=fun y=>JA κ it p pd lt A B mg (O.length+y)) (Q:=fun c st=>EA κ it p pd lt A B mg c st\/JA κ it p pd lt A B mg (O.length+1) c st) ?_ ?_ (.mk M h1 h2 (qg _))) fun c st hc=>loM_ok W hq nA nB hc hd hi)
 ·rintro y c st' _ _ ⟨M,h1,h2,h3⟩
  refine loA_ok W hq nA nB M h1 h2 h3 (fun h=>.inl h) fun h=>⟨.inr ?_,h⟩
  cases h with
  | mk M h1 h2 h3=>exact .mk M h1 h2 (by omega)
 ·rintro c st' ⟨M,h1,h2,h3⟩
  have:=M.len;omega
end
theorem xAld (W:Swo lt) (hq:Ans prog w A₀ s κ it n lt) (nA:∀ x∈A,x<n) (nB:∀ x∈B,x<n) (lA:Le lt A) (lB:Le lt B) (zA:1≤A.length) (zB:1≤B.length) (hf:∀ z∈A,lt z (B.getD 0 0)=false) (hl:∀ A' y,A=A'++[y]->∀ z∈B,lt y z=false) {Q:Array Keyed->SortSt->Prop}
  (h:∀ r m,Dn lt it A B r->Q r (S κ it p pd m)):wpS (model prog w) A₀ E s (mergeLo' (fl it A) (fl it B)) Q (S κ it p pd mg):=by
 have M0:Mi lt A B [] 0 0:=⟨lA,lB,.refl _,hl⟩;have M1:Mi lt A B [B.getD 0 0] 0 1:=M0.b1 (by omega) hf;rw [xAlc];refine wpS_bind (wpS_lift (wpAny_rule ⟨rfl,?_⟩));refine wpS_bind (elemL (by omega) ?_);refine wp_if (fun e=>wpS_pure (h _ _ (M1.doneB rfl (by have:=szE e;omega)))) fun e1=>?_;refine wp_if (fun e=>wpS_pure (h _ _ (M1.last W rfl (by have:=szE e;omega)))) fun e2=>?_
 have e1:¬ 1=B.length:=by simpa [xAax] using e1
 have e2:¬ 0+1=A.length:=by simpa [xAax] using e2
 refine wpS_bind (wpS_get ?_);rw [xAax,xAax];refine wpS_bind (wpS_mono (wpS_forRange (I:=JO κ it p pd lt A B) (Q:=EO κ it p pd lt A B) ?_ ?_ (.mk (O:=[B.getD 0 0]) M1 (by omega) (by omega) (zm _))) ?_)
 ·rintro x c st' _ _ ⟨M,h1,h2,h3⟩
  refine loO_ok W hq nA nB (qg _) M h1 h2 (fun h=>h) fun h=>?_
  cases h with
  | mk M h1 h2 h4=>exact .mk M h1 h2 (by omega)
 ·rintro c st' ⟨M,h1,h2,h3⟩
  have:=M.len;omega
 ·intro c st' d
  cases d with
  | mk d=>exact wpS_pure (h _ _ d)
end
def mergeHi':Array Keyed->Array Keyed->StateT SortSt Sem (Array Keyed):=sortPriv% PySem.Builtin.mergeHi
structure Mh (lt:Nat->Nat->Bool) (A B O:List Nat) (na nb:Nat):Prop where
 la:Le lt (A.take na++O)
 lb:Le lt (B.take nb++O)
 pm:((A.take na++B.take nb)++O).Perm (A++B)
 fs:∀ y B',B.take nb=y::B'->∀ z∈A.take na,lt z y=false
section
variable {lt:Nat->Nat->Bool} {it:Array Keyed} {A B O:List Nat} {na nb:Nat} {o:Array Keyed}
theorem xAdt {L:List Nat} {k m:Nat} (h:k≤m):L.take k++(L.take m).drop k=L.take m:=by
 have:=wy k (L.take m)
 rwa [gh,jc h] at this
theorem Mh.a (M:Mh lt A B O na nb) {k:Nat} (hk:k≤na) (h:∀ x∈(A.take na).drop k,∀ z∈B.take nb,lt x z=false):Mh lt A B ((A.take na).drop k++O) k nb:=by
 have e:=xAdt (L:=A) hk
 have la:Le lt (A.take k++((A.take na).drop k++O)):=by rw [← zo,e];exact M.la
 refine ⟨la,M.lb.left.app la.right fun x hx z hz=>?_,?_,fun y B' he z hz=>M.fs y B' he z (by rw [← e];exact yn _ hz)⟩
 ·rcases qz.mp hz with hz | hz
  ·exact h z hz x hx
  ·exact M.lb.between x hx z hz
 ·have pm:=M.pm
  rw [← e] at pm;refine List.Perm.trans ?_ pm;rw [← zo];refine List.Perm.append_right O ?_;rw [zo,zo];exact List.Perm.append_left _ y8
theorem Mh.b (M:Mh lt A B O na nb) {k:Nat} (hk:k≤nb) (h:∀ x∈(B.take nb).drop k,∀ z∈A.take na,lt x z=false):Mh lt A B ((B.take nb).drop k++O) na k:=by
 have e:=xAdt (L:=B) hk
 have lb:Le lt (B.take k++((B.take nb).drop k++O)):=by rw [← zo,e];exact M.lb
 refine ⟨M.la.left.app lb.right fun x hx z hz=>?_,lb,?_,fun y B' he z hz=>M.fs y (B'++(B.take nb).drop k) (e.symm.trans (by rw [he];rfl)) z hz⟩
 ·rcases qz.mp hz with hz | hz
  ·exact h z hz x hx
  ·exact M.la.between x hx z hz
 ·have pm:=M.pm
  rw [← e] at pm;simpa [List.append_assoc] using pm
theorem xAcr {L:List Nat} {k:Nat} (h1:1≤k) (h2:k≤L.length):(L.take k).drop (k - 1)=[L.getD (k - 1) 0]:=by
 have e:(L.take k).length=k:=by rw [zt];omega
 rw [ja (by omega),yt (by omega),jq,qo,qi (by omega)];rfl
theorem Mh.a1 (M:Mh lt A B O na nb) (h1:1≤na) (h2:na≤A.length) (h:∀ z∈B.take nb,lt (A.getD (na - 1) 0) z=false):Mh lt A B (A.getD (na - 1) 0::O) (na - 1) nb:=by
 have:=M.a (k:=na - 1) (by omega) (by rw [xAcr h1 h2];intro x hx;rw [zb.mp hx];exact h)
 rwa [xAcr h1 h2] at this
theorem Mh.b1 (M:Mh lt A B O na nb) (h1:1≤nb) (h2:nb≤B.length) (h:∀ z∈A.take na,lt (B.getD (nb - 1) 0) z=false):Mh lt A B (B.getD (nb - 1) 0::O) na (nb - 1):=by
 have:=M.b (k:=nb - 1) (by omega) (by rw [xAcr h1 h2];intro x hx;rw [zb.mp hx];exact h)
 rwa [xAcr h1 h2] at this
theorem xAgc (W:Swo lt) {L:List Nat} {k:Nat} (h:Le lt (L.take k)) (h1:1≤k) (h2:k≤L.length):∀ z∈L.take k,lt (L.getD (k - 1) 0) z=false:=fun z hz=>by
 rw [← xAdt (L:=L) (show k - 1≤k by omega),xAcr h1 h2] at h hz;rcases qz.mp hz with hz | hz
 ·exact h.between z hz _ (zb.mpr rfl)
 ·rw [zb.mp hz];exact W.irr _
theorem xAcz (L:List Nat) (k:Nat):(fl it L).extract 0 k=fl it (L.take k):=by rw [xAla];rfl
theorem xAck (O:List Nat) (x:Nat):(fl it O.reverse).push (kas_item it x)=fl it (x::O).reverse:=by rw [xAcq,jo]
theorem xApo (O L:List Nat) (k m:Nat):fl it O.reverse++((fl it L).extract k m).reverse=fl it ((L.take m).drop k++O).reverse:=by
 rw [xAla,xAoc,xAcj,ju,List.drop_take]
theorem Mh.doneA (ho:o=fl it O.reverse) (M:Mh lt A B O na nb) (e:na=0):Dn lt it A B ((fl it A).extract 0 na++(fl it B).extract 0 nb++o.reverse):=by
 subst e;refine ⟨A.take 0++B.take nb++O,by rw [ho,xAcz,xAcz,xAoc,gi,xAcj,xAcj],M.pm,?_⟩;rw [gj,vf];exact M.lb
theorem Mh.doneB (ho:o=fl it O.reverse) (M:Mh lt A B O na nb) (e:nb=0):Dn lt it A B ((fl it A).extract 0 na++(fl it B).extract 0 nb++o.reverse):=by
 subst e;refine ⟨A.take na++B.take 0++O,by rw [ho,xAcz,xAcz,xAoc,gi,xAcj,xAcj],M.pm,?_⟩;rw [gj,zy];exact M.la
theorem Mh.first (ho:o=fl it O.reverse) (zB:1≤B.length) (M:Mh lt A B O na nb) (e:nb=1):Dn lt it A B ((fl it B).extract 0 nb++(fl it A).extract 0 na++o.reverse):=by
 subst e
 obtain ⟨y,B',rfl⟩:∃ y B',B=y::B':=by
  cases B with
  | nil=>simp at zB
  | cons y B'=>exact ⟨y,B',rfl⟩
 refine ⟨(y::B').take 1++A.take na++O,by rw [ho,xAcz,xAcz,xAoc,gi,xAcj,xAcj],(List.Perm.append_right O y8).trans M.pm,?_⟩;rw [zo];refine M.lb.left.app M.la fun x hx z hz=>?_;rcases qz.mp hz with hz | hz
 ·have:x=y:=by simpa using hx
  rw [this];exact M.fs y [] rfl z hz
 ·exact M.lb.between x hx z hz
theorem Mh.len (M:Mh lt A B O na nb) (h1:na≤A.length) (h2:nb≤B.length):na+nb+O.length=A.length+B.length:=by
 have:=M.pm.length_eq
 simp at this
 omega
end
abbrev Rs:=ForInStep (Option (Array Keyed)×Nat×Nat×Array Keyed×Nat×Nat×Nat)
def hi3 (a b:Array Keyed) (mg ac bc na nb:Nat) (out:Array Keyed):StateT SortSt Sem Rs:=do
 let na:=na - 1
 let out:=out.push (← elem' a na)
 if na==0 then return .done (some (a.extract 0 na++b.extract 0 nb++out.reverse),na,nb,out,mg,ac,bc)
 if ac<7&&bc<7 then return .done (none,na,nb,out,mg,ac,bc)
 return .yield (none,na,nb,out,mg,ac,bc)
def hi2 (a b:Array Keyed) (mg ac bc na nb:Nat) (out:Array Keyed):StateT SortSt Sem Rs:=do
 let nb:=nb - 1
 let out:=out.push (← elem' b nb)
 if nb==1 then return .done (some (b.extract 0 nb++a.extract 0 na++out.reverse),na,nb,out,mg,ac,bc)
 let some at_ ← gallop' true (← elem' a (na - 1)) b 0 nb (nb - 1) | return .done (some (a.extract 0 na++b.extract 0 nb++out.reverse),na,nb,out,mg,ac,bc)
 if nb - at_>0 then
  if at_==1 then return .done (some (b.extract 0 at_++a.extract 0 na++(out++(b.extract at_ nb).reverse).reverse),na,at_,out++(b.extract at_ nb).reverse,mg,ac,nb - at_)
  if at_==0 then return .done (some (a.extract 0 na++b.extract 0 at_++(out++(b.extract at_ nb).reverse).reverse),na,at_,out++(b.extract at_ nb).reverse,mg,ac,nb - at_)
  hi3 a b mg ac (nb - at_) na at_ (out++(b.extract at_ nb).reverse)
 else hi3 a b mg ac (nb - at_) na nb out
def hi1 (a b:Array Keyed) (mg ac bc na nb:Nat) (out:Array Keyed):StateT SortSt Sem Rs:=do
 setMG' mg
 let some at_ ← gallop' false (← elem' b (nb - 1)) a 0 na (na - 1) | return .done (some (a.extract 0 na++b.extract 0 nb++out.reverse),na,nb,out,mg,ac,bc)
 if na - at_>0 then
  if at_==0 then return .done (some (a.extract 0 at_++b.extract 0 nb++(out++(a.extract at_ na).reverse).reverse),at_,nb,out++(a.extract at_ na).reverse,mg,na - at_,bc)
  hi2 a b mg (na - at_) bc at_ nb (out++(a.extract at_ na).reverse)
 else hi2 a b mg (na - at_) bc na nb out
abbrev Cs:=Option (Array Keyed)×Nat×Nat×Array Keyed×Nat×Nat
abbrev Co:=Option (Array Keyed)×Nat×Nat×Array Keyed×Nat
def hiA (a b:Array Keyed) (mg na nb:Nat) (out:Array Keyed) (ac bc:Nat):StateT SortSt Sem (ForInStep Cs):=do
 let some aw ← lt' (← elem' b (nb - 1)) (← elem' a (na - 1)) | return .done (some (a.extract 0 na++b.extract 0 nb++out.reverse),na,nb,out,ac,bc)
 if aw then
  let out:=out.push (← elem' a (na - 1))
  if na - 1==0 then return .done (some (a.extract 0 (na - 1)++b.extract 0 nb++out.reverse),na - 1,nb,out,ac+1,0)
  if ac+1≥mg then return .done (none,na - 1,nb,out,ac+1,0)
  return .yield (none,na - 1,nb,out,ac+1,0)
 else
  let out:=out.push (← elem' b (nb - 1))
  if nb - 1==1 then return .done (some (b.extract 0 (nb - 1)++a.extract 0 na++out.reverse),na,nb - 1,out,0,bc+1)
  if bc+1≥mg then return .done (none,na,nb - 1,out,0,bc+1)
  return .yield (none,na,nb - 1,out,0,bc+1)
def hiG (a b:Array Keyed) (mg ac bc na nb:Nat) (out:Array Keyed):StateT SortSt Sem Rs:=if mg>1 then hi1 a b (mg - 1) ac bc na nb out else hi1 a b mg ac bc na nb out
def hiE (c:Option (Array Keyed)×Nat×Nat×Array Keyed×Nat×Nat×Nat):StateT SortSt Sem (ForInStep Co) :=
 match c.1 with
 | some r=>pure (.done (some r,c.2.1,c.2.2.1,c.2.2.2.1,c.2.2.2.2.1))
 | none=>do
  setMG' (c.2.2.2.2.1+1)
  pure (.yield (none,c.2.1,c.2.2.1,c.2.2.2.1,c.2.2.2.2.1+1))
def hiM (a b:Array Keyed) (t mg:Nat) (c:Cs):StateT SortSt Sem (ForInStep Co) :=
 match c.1 with
 | some r=>pure (.done (some r,c.2.1,c.2.2.1,c.2.2.2.1,mg))
 | none=>do
  rule "list.sort.gallop"
  let c ← forIn [0:t] ((none:Option (Array Keyed)),c.2.1,c.2.2.1,c.2.2.2.1,mg+1,c.2.2.2.2.1,c.2.2.2.2.2) fun _ c=>hiG a b c.2.2.2.2.1 c.2.2.2.2.2.1 c.2.2.2.2.2.2 c.2.1 c.2.2.1 c.2.2.2.1
  hiE c
def hiO (a b:Array Keyed) (t na nb:Nat) (out:Array Keyed) (mg:Nat):StateT SortSt Sem (ForInStep Co):=do
 let c ← forIn [0:t] ((none:Option (Array Keyed)),na,nb,out,0,0) fun _ c=>hiA a b mg c.2.1 c.2.2.1 c.2.2.2.1 c.2.2.2.2.1 c.2.2.2.2.2
 hiM a b t mg c
def hiZ (a b:Array Keyed) (x:Keyed):StateT SortSt Sem (Array Keyed):=do
 let st ← get
 let c ← forIn [0:a.size+b.size] ((none:Option (Array Keyed)),a.size - 1,b.size,#[x],gOf st) fun _ c=>hiO a b (a.size+b.size) c.2.1 c.2.2.1 c.2.2.2.1 c.2.2.2.2
 match c.1 with
 | some r=>pure r
 | none=>unsupported "internal:list.sort.merge-bound"
theorem xAle (a b:Array Keyed):mergeHi' a b=(do
 rule "list.sort.merge-hi"
 let x ← elem' a (a.size - 1)
 if a.size - 1==0 then pure (a.extract 0 (a.size - 1)++b.extract 0 b.size++#[x].reverse)
 else if b.size==1 then pure (b.extract 0 b.size++a.extract 0 (a.size - 1)++#[x].reverse)
 else hiZ a b x):=by
 refine congrArg (bind (liftM (rule "list.sort.merge-hi"))) (funext fun _=>congrArg (bind (elem' a (a.size - 1))) (funext fun x=>?_));refine ite_congr rfl (fun _=>rfl) fun _=>ite_congr rfl (fun _=>rfl) fun _=>congrArg (bind get) (funext fun st=>?_);refine bnd2 (congrArg (forIn _ _) (funext fun _=>funext fun c=>bnd2 (congrArg (forIn _ _) (funext fun _=>funext fun c=>rfl)) ?_)) ?_
 ·funext c
  obtain ⟨c1,c2⟩:=c
  cases c1 with
  | some r=>rfl
  | none =>
   refine congrArg (bind _) (funext fun _=>bnd2 (congrArg (forIn _ _) (funext fun _=>funext fun c=>rfl)) (funext fun c=>?_));obtain ⟨_ | _,_⟩:=c <;> rfl
 ·funext c
  obtain ⟨_ | _,_⟩:=c <;> rfl
section
variable {prog:Program} {w:World} {A₀:Around} {E:Value->Shared->Prop} {s:Shared} {κ:SortKind} {it:Array Keyed} {n:Nat} {lt:Nat->Nat->Bool} {A B:List Nat} {p:Array Nat} {pd:Array (Nat×Nat×Nat)} {mg:Nat}
structure HQ (κ:SortKind) (it:Array Keyed) (p:Array Nat) (pd:Array (Nat×Nat×Nat)) (lt:Nat->Nat->Bool) (A B:List Nat) (l:Nat) (Q:Rs->SortSt->Prop):Prop where
 don:∀ {r i j o m a b m'},Dn lt it A B r->Q (.done (some r,i,j,o,m,a,b)) (S κ it p pd m')
 brk:∀ {O i j o m a b m'},o=fl it O.reverse->Mh lt A B O i j->1≤i/\i≤A.length->2≤j/\j≤B.length->l<O.length->Q (.done (none,i,j,o,m,a,b)) (S κ it p pd m')/\Q (.yield (none,i,j,o,m,a,b)) (S κ it p pd m')
section
variable {Q:Rs->SortSt->Prop} {l m a b i j:Nat} {O:List Nat} {o:Array Keyed} (W:Swo lt) (hq:Ans prog w A₀ s κ it n lt) (nA:∀ x∈A,x<n) (nB:∀ x∈B,x<n) (zB:1≤B.length) (h:HQ κ it p pd lt A B l Q) (ho:o=fl it O.reverse) (M:Mh lt A B O i j) (h1:1≤i/\i≤A.length) (h2:2≤j/\j≤B.length) (hl:l≤O.length)
include h ho M h1 h2 hl
theorem xAtt (hd:∀ z∈B.take j,lt (A.getD (i - 1) 0) z=false):wpS (model prog w) A₀ E s (hi3 (fl it A) (fl it B) m a b i j o) Q (S κ it p pd mg):=by
 have M7:=M.a1 h1.1 h1.2 hd;subst ho;refine wpS_bind (elemL (by omega) ?_);refine wp_if (fun e=>wpS_pure (h.don (M7.doneA (xAck _ _) (by simpa using e)))) fun e8=>?_
 have e8:¬ i - 1=0:=by simpa using e8
 have hh:=fun {m a b m'}=>h.brk (m:=m) (a:=a) (b:=b) (m':=m') (xAck O (A.getD (i - 1) 0)) M7 (by omega) h2 (gg hl)
 exact wp_if (fun _=>wpS_pure hh.1) fun _=>wpS_pure hh.2
include W hq nB zB
theorem xAtu (nA:∀ x∈A,x<n) (hd:∀ z∈A.take i,lt (B.getD (j - 1) 0) z=false):wpS (model prog w) A₀ E s (hi2 (fl it A) (fl it B) m a b i j o) Q (S κ it p pd mg):=by
 have M4:=M.b1 (by omega) h2.2 hd;subst ho;have er:=xAck (it:=it) O (B.getD (j - 1) 0);refine wpS_bind (elemL (by omega) ?_);refine wp_if (fun e=>wpS_pure (h.don (M4.first er zB (by simpa using e)))) fun e5=>?_
 have e5:¬ j - 1=1:=by simpa using e5
 refine wpS_bind (elemL (by omega) (wpS_bind (xAcf W hq (M:=B.take (j - 1)) rfl (nA _ (xAbt (by omega))) (fun x hx=>nB x (yj hx)) (by rw [zt];omega) (fun i' hi'=>by rw [yu,jd,if_pos hi']) M4.lb.left (by omega) fun k2 hk2 ht2 hdd=>?_)));dsimp only
 have htt2:∀ z∈B.take k2,lt (A.getD (i - 1) 0) z=false:=fun z hz=>by
  have:=ht2 z (by rw [gh,jc hk2];exact hz);unfold bv at this;rw [if_pos rfl] at this;exact W.le_of_lt this
 have hl2:l≤(B.getD (j - 1) 0::O).length:=ku hl;refine wp_if (fun hk0=>?_) fun hk0=>?_
 ·have M5:=M4.b hk2 fun x hx z hz=>W.le_tr (xAgc W M4.la.left h1.1 h1.2 z hz) (by have:=hdd x hx;unfold bv at this;rwa [if_pos rfl] at this)
  have er5:=xApo (it:=it) (B.getD (j - 1) 0::O) B k2 (j - 1);rw [← er] at er5;refine wp_if (fun e=>wpS_pure (h.don (M5.first er5 zB (by simpa using e)))) fun e6=>?_;refine wp_if (fun e=>wpS_pure (h.don (M5.doneB er5 (by simpa using e)))) fun e7=>?_
  have e6:¬ k2=1:=by simpa using e6
  have e7:¬ k2=0:=by simpa using e7
  exact xAtt h er5 M5 h1 (by omega) (by rw [qm];omega) htt2
 ·have k0:k2=j - 1:=by omega
  rw [k0] at htt2;exact xAtt h er M4 h1 (by omega) hl2 htt2
include nA
theorem xAtv:wpS (model prog w) A₀ E s (hi1 (fl it A) (fl it B) m a b i j o) Q (S κ it p pd mg):=by
 subst ho;refine wpS_bind (xAod (wpS_bind (elemL (by omega) (wpS_bind (xAcf W hq (M:=A.take i) rfl (nB _ (xAbt (by omega))) (fun x hx=>nA x (yj hx)) (by rw [zt];omega) (fun i' hi'=>by rw [yu,jd,if_pos hi']) M.la.left (by omega) fun k hk ht hd=>?_)))));dsimp only
 have ht2:∀ z∈A.take k,lt (B.getD (j - 1) 0) z=false:=fun z hz=>by
  have:=ht z (by rw [gh,jc hk];exact hz);unfold bv at this;rw [if_neg (by decide)] at this;simpa using this
 refine wp_if (fun hk0=>?_) fun hk0=>?_
 ·have M2:=M.a hk fun x hx z hz=>W.le_tr (xAgc W M.lb.left (by omega) h2.2 z hz) (W.le_of_lt (by have:=hd x hx;unfold bv at this;rw [if_neg (by decide)] at this;simpa using this))
  have er:=xApo (it:=it) O A k i;refine wp_if (fun e=>wpS_pure (h.don (M2.doneA er (by simpa using e)))) fun e3=>?_
  have e3:¬ k=0:=by simpa using e3
  exact xAtu W hq nB zB h er M2 (by omega) h2 (by rw [qm];omega) nA ht2
 ·have k0:k=i:=by omega
  rw [k0] at ht2;exact xAtu W hq nB zB h rfl M h1 h2 hl nA ht2
end
inductive IA (κ:SortKind) (it:Array Keyed) (p:Array Nat) (pd:Array (Nat×Nat×Nat)) (lt:Nat->Nat->Bool) (A B:List Nat) (m l:Nat):Cs->SortSt->Prop
 | mk {O:List Nat} {i j a b:Nat}:Mh lt A B O i j->1≤i/\i≤A.length->2≤j/\j≤B.length->l≤O.length->IA κ it p pd lt A B m l (none,i,j,fl it O.reverse,a,b) (S κ it p pd m)
inductive DA (κ:SortKind) (it:Array Keyed) (p:Array Nat) (pd:Array (Nat×Nat×Nat)) (lt:Nat->Nat->Bool) (A B:List Nat) (m:Nat):Cs->SortSt->Prop
 | mk {r o:Array Keyed} {i j a b:Nat}:Dn lt it A B r->DA κ it p pd lt A B m (some r,i,j,o,a,b) (S κ it p pd m)
inductive IG (κ:SortKind) (it:Array Keyed) (p:Array Nat) (pd:Array (Nat×Nat×Nat)) (lt:Nat->Nat->Bool) (A B:List Nat) (l:Nat):(Option (Array Keyed)×Nat×Nat×Array Keyed×Nat×Nat×Nat)->SortSt->Prop
 | mk {O:List Nat} {i j a b m m':Nat}:Mh lt A B O i j->1≤i/\i≤A.length->2≤j/\j≤B.length->l≤O.length->IG κ it p pd lt A B l (none,i,j,fl it O.reverse,m,a,b) (S κ it p pd m')
inductive DG (κ:SortKind) (it:Array Keyed) (p:Array Nat) (pd:Array (Nat×Nat×Nat)) (lt:Nat->Nat->Bool) (A B:List Nat):(Option (Array Keyed)×Nat×Nat×Array Keyed×Nat×Nat×Nat)->SortSt->Prop
 | mk {r o:Array Keyed} {i j a b m m':Nat}:Dn lt it A B r->DG κ it p pd lt A B (some r,i,j,o,m,a,b) (S κ it p pd m')
inductive IO' (κ:SortKind) (it:Array Keyed) (p:Array Nat) (pd:Array (Nat×Nat×Nat)) (lt:Nat->Nat->Bool) (A B:List Nat) (l:Nat):Co->SortSt->Prop
 | mk {O:List Nat} {i j m m':Nat}:Mh lt A B O i j->1≤i/\i≤A.length->2≤j/\j≤B.length->l≤O.length->IO' κ it p pd lt A B l (none,i,j,fl it O.reverse,m) (S κ it p pd m')
inductive DO (κ:SortKind) (it:Array Keyed) (p:Array Nat) (pd:Array (Nat×Nat×Nat)) (lt:Nat->Nat->Bool) (A B:List Nat):Co->SortSt->Prop
 | mk {r o:Array Keyed} {i j m m':Nat}:Dn lt it A B r->DO κ it p pd lt A B (some r,i,j,o,m) (S κ it p pd m')
section
variable (W:Swo lt) (hq:Ans prog w A₀ s κ it n lt) (nA:∀ x∈A,x<n) (nB:∀ x∈B,x<n) (zB:1≤B.length)
include W hq nA nB zB
theorem hiA_ok {Q:ForInStep Cs->SortSt->Prop} {O:List Nat} {i j a b m l:Nat} (M:Mh lt A B O i j) (h1:1≤i/\i≤A.length) (h2:2≤j/\j≤B.length) (hl:l≤O.length)
  (hd:∀ {c},DA κ it p pd lt A B mg c (S κ it p pd mg)->Q (.done c) (S κ it p pd mg)) (hi:∀ {c},IA κ it p pd lt A B mg (l+1) c (S κ it p pd mg)->Q (.done c) (S κ it p pd mg)/\Q (.yield c) (S κ it p pd mg)) :
  wpS (model prog w) A₀ E s (hiA (fl it A) (fl it B) m i j (fl it O.reverse) a b) Q (S κ it p pd mg):=by
 refine wpS_bind (elemL (by omega) (wpS_bind (elemL (by omega) (wpS_bind (lt_ok hq rfl (nB _ (xAbt (by omega))) (nA _ (xAbt (by omega))) ?_)))))
 cases e:lt (B.getD (j - 1) 0) (A.getD (i - 1) 0) with
 | true =>
  have M2:=M.a1 h1.1 h1.2 fun z hz=>W.le_tr (xAgc W M.lb.left (by omega) h2.2 z hz) (W.le_of_lt e)
  refine wp_if (fun _=>wpS_bind (elemL (by omega) ?_)) fun z=>absurd rfl z;refine wp_if (fun e=>wpS_pure (hd (.mk (M2.doneA (xAck _ _) (by simpa using e))))) fun e3=>?_
  have e3:¬ i - 1=0:=by simpa using e3
  have hh:=fun {a b}=>hi (.mk (a:=a) (b:=b) M2 (by omega) h2 (yi hl))
  rw [← xAck] at hh;exact wp_if (fun _=>wpS_pure hh.1) fun _=>wpS_pure hh.2
 | false =>
  have M2:=M.b1 (by omega) h2.2 fun z hz=>W.le_tr (xAgc W M.la.left h1.1 h1.2 z hz) e
  refine wp_if (fun z=>absurd z (by decide)) fun _=>wpS_bind (elemL (by omega) ?_)
  refine wp_if (fun e=>wpS_pure (hd (.mk (M2.first (xAck _ _) zB (by simpa using e))))) fun e3=>?_
  have e3:¬ j - 1=1:=by simpa using e3
  have hh:=fun {a b}=>hi (.mk (a:=a) (b:=b) M2 h1 (by omega) (yi hl))
  rw [← xAck] at hh;exact wp_if (fun _=>wpS_pure hh.1) fun _=>wpS_pure hh.2
theorem hiM_ok {Q:ForInStep Co->SortSt->Prop} {t m l:Nat} {c:Cs} {st:SortSt} (hc:DA κ it p pd lt A B mg c st\/IA κ it p pd lt A B mg l c st) (hd:∀ {c st},DO κ it p pd lt A B c st->Q (.done c) st) (hi:∀ {c st},IO' κ it p pd lt A B l c st->Q (.yield c) st) :
  wpS (model prog w) A₀ E s (hiM (fl it A) (fl it B) t m c) Q st:=by
 rcases hc with d | ⟨M,h1,h2,h3⟩
 ·cases d with
  | mk d=>exact wpS_pure (hd (.mk d))
 refine wpS_bind (wpS_lift (wpAny_rule ⟨rfl,?_⟩));refine wpS_bind (wpS_mono (wpS_forRange (I:=fun _=>IG κ it p pd lt A B l) (Q:=fun c st=>DG κ it p pd lt A B c st\/IG κ it p pd lt A B l c st) ?_ (fun _ _ q=>.inr q) (.mk M h1 h2 h3)) ?_)
 ·rintro y c st' _ _ ⟨M,h1,h2,h3⟩
  refine (fun {Q:Rs->SortSt->Prop} (H:HQ κ it p pd lt A B l Q)=>wp_if (fun _=>xAtv W hq nA nB zB H rfl M h1 h2 h3) fun _=>xAtv W hq nA nB zB H rfl M h1 h2 h3) ⟨fun d=>.inl (.mk d),fun eo m x1 x2 x3=>?_⟩;subst eo;exact ⟨.inr (.mk m x1 x2 (zv x3)),.mk m x1 x2 (zv x3)⟩
 ·rintro c st' (d | ⟨M,h1,h2,h3⟩)
  ·cases d with
   | mk d=>exact wpS_pure (hd (.mk d))
  ·exact wpS_bind (xAod (wpS_pure (hi (.mk M h1 h2 h3))))
theorem hiO_ok {Q:ForInStep Co->SortSt->Prop} {O:List Nat} {i j m t:Nat} (ht:A.length+B.length≤t) (M:Mh lt A B O i j) (h1:1≤i/\i≤A.length) (h2:2≤j/\j≤B.length) (hd:∀ {c st},DO κ it p pd lt A B c st->Q (.done c) st) (hi:∀ {c st},IO' κ it p pd lt A B (O.length+1) c st->Q (.yield c) st) :
  wpS (model prog w) A₀ E s (hiO (fl it A) (fl it B) t i j (fl it O.reverse) m) Q (S κ it p pd mg):=by
 refine wpS_bind (wpS_mono (wpS_forRange (I:=fun y=>IA κ it p pd lt A B mg (O.length+y)) (Q:=fun c st=>DA κ it p pd lt A B mg c st\/IA κ it p pd lt A B mg (O.length+1) c st) ?_ ?_ (.mk M h1 h2 (qg _))) fun c st hc=>hiM_ok W hq nA nB zB hc hd hi)
 ·rintro y c st' _ _ ⟨M,h1,h2,h3⟩
  refine hiA_ok W hq nA nB zB M h1 h2 h3 (fun h=>.inl h) fun h=>⟨.inr ?_,h⟩
  cases h with
  | mk M h1 h2 h3=>exact .mk M h1 h2 (by omega)
 ·rintro c st' ⟨M,h1,h2,h3⟩
  have:=M.len h1.2 h2.2;omega
end
theorem xAlf (W:Swo lt) (hq:Ans prog w A₀ s κ it n lt) (nA:∀ x∈A,x<n) (nB:∀ x∈B,x<n) (lA:Le lt A) (lB:Le lt B) (zA:1≤A.length) (zB:1≤B.length) (hf:∀ z∈A,lt z (B.getD 0 0)=false) (hl:∀ z∈B,lt (A.getD (A.length - 1) 0) z=false) {Q:Array Keyed->SortSt->Prop}
  (h:∀ r m,Dn lt it A B r->Q r (S κ it p pd m)):wpS (model prog w) A₀ E s (mergeHi' (fl it A) (fl it B)) Q (S κ it p pd mg):=by
 have zA':(fl it A).size=A.length:=xAax _;have zB':(fl it B).size=B.length:=xAax _
 have M0:Mh lt A B [] A.length B.length:=⟨by simpa using lA,by simpa using lB,by simp,fun y B' e z hz=>by
  rw [z7] at e hz;have:=hf z hz;rw [e] at this
  exact this⟩
 have M1:=M0.a1 zA (qg _) (by rw [z7];exact hl);rw [xAle,zA',zB'];refine wpS_bind (wpS_lift (wpAny_rule ⟨rfl,?_⟩));refine wpS_bind (elemL (L:=A) (by omega) ?_);refine wp_if (fun e=>wpS_pure (h _ _ (M1.doneA rfl (by simpa using e)))) fun e1=>?_;refine wp_if (fun e=>wpS_pure (h _ _ (M1.first rfl zB (by simpa using e)))) fun e2=>?_
 have e1:¬ A.length - 1=0:=by simpa using e1
 have e2:¬ B.length=1:=by simpa using e2
 refine wpS_bind (wpS_get ?_);rw [zA',zB'];refine wpS_bind (wpS_mono (wpS_forRange (I:=IO' κ it p pd lt A B) (Q:=DO κ it p pd lt A B) ?_ ?_ (.mk M1 (by omega) (by omega) (zm _))) ?_)
 ·rintro x c st' _ _ ⟨M,h1,h2,h3⟩
  refine hiO_ok W hq nA nB zB (qg _) M h1 h2 (fun h=>h) fun h=>?_
  cases h with
  | mk M h1 h2 h4=>exact .mk M h1 h2 (by omega)
 ·rintro c st' ⟨M,h1,h2,h3⟩
  have:=M.len h1.2 h2.2;omega
 ·intro c st' d
  cases d with
  | mk d=>exact wpS_pure (h _ _ d)
end
theorem xApp {α:Type} (sa:Nat):∀ (ms U P R:List α) (k:Nat),U.length=ms.length->P.length=sa+k->(ms.zipIdx k).foldl (fun (a:Array α) x=>a.setIfInBounds (sa+x.2) x.1) (P++(U++R)).toArray=(P++(ms++R)).toArray
 | [],U,P,R,k,hu,hp=>by
  have:U=[]:=yk.mp hu;subst this;rfl
 | m::ms,[],P,R,k,hu,hp=>absurd hu (by simp)
 | m::ms,u::U,P,R,k,hu,hp=>by
  rw [List.zipIdx_cons,wj]
  have e:(P++(u::U++R)).toArray.setIfInBounds (sa+k) m=((P++[m])++(U++R)).toArray:=by
   rw [kw,← hp]
   simp
  show (ms.zipIdx (k+1)).foldl _ ((P++(u::U++R)).toArray.setIfInBounds (sa+k) m)=_;rw [e,xApp sa ms U (P++[m]) R (k+1) (by simpa using hu) (by simp;omega)]
  simp
section
variable {prog:Program} {w:World} {A₀:Around} {E:Value->Shared->Prop} {s:Shared} {κ:SortKind} {it:Array Keyed} {n:Nat} {lt:Nat->Nat->Bool} {p:Array Nat} {pd:Array (Nat×Nat×Nat)} {mg:Nat}
theorem xAtw {st st':SortSt} {Q:PUnit->SortSt->Prop} (h:Q ⟨⟩ st'):wpS (model prog w) A₀ E s (set st':StateT SortSt Sem PUnit) Q st:=by
 unfold wpS;rw [StateT.run_set];exact wpAny_pure ⟨rfl,h⟩
theorem xAoe (p:Array Nat):p.map (kas_item it)=fl it p.toList:=by
 apply je.mp;unfold fl
 simp
theorem fl_map (L:List Nat):(L.toArray).map (kas_item it)=fl it L:=by rw [xAoe]
theorem xAtx (l1 tx dx ty dy l2:List Nat):l1++((tx++dx)++((ty++dy)++l2))=(l1++tx)++((dx++ty)++(dy++l2)):=by simp
theorem xAty {X Y:List Nat} (W:Swo lt) (zY:1≤Y.length) (lX:Le lt X) (lY:Le lt Y) (h:∀ x∈X,lt (Y.getD 0 0) x=false):Le lt (X++Y) :=
 lX.app lY fun x hx y hy=>W.le_tr (h x hx) (xAeq (i:=0) W lY (by omega) y hy)
theorem xAlg (W:Swo lt) (hq:Ans prog w A₀ s κ it n lt) {i pw pw2:Nat} {P1 P2:List (Nat×Nat×Nat)} {L1 X Y L2:List Nat} (hp:p.toList=L1++(X++(Y++L2))) (hn:∀ x∈p.toList,x<n) (hi:P1.length=i)
  (hpd:pd=(P1++(L1.length,X.length,pw)::(L1.length+X.length,Y.length,pw2)::P2).toArray) (zX:1≤X.length) (zY:1≤Y.length) (lX:Le lt X) (lY:Le lt Y) {Q:Bool->SortSt->Prop}
  (h:∀ Z (q:Array Nat) m,Z.Perm (X++Y)->Le lt Z->q.toList=L1++(Z++L2)->Q true (S κ it q (P1++(L1.length,X.length+Y.length,pw)::P2).toArray m)) :
  wpS (model prog w) A₀ E s (mergeAt' i) Q (S κ it p pd mg):=by
 have e1:pd[i]?=some (L1.length,X.length,pw):=by rw [hpd,← hi];simp
 have e2:pd[i+1]?=some (L1.length+X.length,Y.length,pw2):=by rw [hpd,← hi];simp
 have e3:(pd.setIfInBounds i (L1.length,X.length+Y.length,pw)).eraseIdxIfInBounds (i+1)=(P1++(L1.length,X.length+Y.length,pw)::P2).toArray:=by
  rw [hpd,← hi,kw,kr]
  congr 1
  have a1:(P1++(L1.length,X.length,pw)::(L1.length+X.length,Y.length,pw2)::P2).set P1.length (L1.length,X.length+Y.length,pw)=P1++(L1.length,X.length+Y.length,pw)::(L1.length+X.length,Y.length,pw2)::P2:=by simp
  rw [a1,List.eraseIdx_append_of_length_le (by omega),show P1.length+1 - P1.length=1 by omega];rfl
 have nX:∀ x∈X,x<n:=fun x hx=>hn x (by rw [hp];simp [hx])
 have nY:∀ x∈Y,x<n:=fun x hx=>hn x (by rw [hp];simp [hx])
 have aX:∀ j,j<X.length->p.toList[L1.length+j]?=X[j]?:=fun j hj=>by
  rw [hp,wz (by omega),wo (by omega)]
  congr 1
  omega
 have aY:∀ j,j<Y.length->p.toList[L1.length+X.length+j]?=Y[j]?:=fun j hj=>by
  rw [hp,wz (by omega),wz (by omega),wo (by omega)]
  congr 1
  omega
 have zp:p.toList.length=L1.length+(X.length+(Y.length+L2.length)):=by rw [hp];simp
 refine wpS_bind (wpS_get ?_);show wpS (model prog w) A₀ E s (match (pd[i]?,pd[i+1]?) with | (some (sa,na,power),some (sb,nb,_))=>_ | _=>_) Q (S κ it p pd mg);rw [e1,e2];dsimp only;refine wpS_bind (xAtw ?_);rw [e3];rw [xAoe]
 have k0:p.toList.getD (L1.length+X.length) 0=Y.getD 0 0:=by
  have:=aY 0 (by omega);rw [qo,qo,← this];rfl
 refine wpS_bind (elemL (by omega) ?_);rw [k0];refine wpS_bind (xAcf W hq (M:=X) rfl (nY _ (xAbt (by omega))) nX rfl aX lX (by omega) fun k hk ht hd=>?_);dsimp only
 have ht':∀ x∈X.take k,lt (Y.getD 0 0) x=false:=fun x hx=>by
  have:=ht x hx;unfold bv at this;rw [if_neg (by decide)] at this;simpa using this
 have hd':∀ x∈X.drop k,lt (Y.getD 0 0) x=true:=fun x hx=>by
  have:=hd x hx;unfold bv at this;rw [if_neg (by decide)] at this;simpa using this
 have same:∀ m,Le lt (X++Y)->Q true (SortSt.mk' κ (fl it p.toList) (P1++(L1.length,X.length+Y.length,pw)::P2).toArray m none):=fun m hle=>by
  have:=h (X++Y) p m (.refl _) hle (by rw [hp,zo]);rw [S,xAoe] at this;exact this
 refine wp_if (fun e=>wpS_pure ?_) fun e4=>?_
 ·have e:X.length - k=0:=by simpa using e
  refine same _ (xAty W zY lX lY fun x hx=>ht' x ?_);rw [v9 (by omega)];exact hx
 have e4:¬ X.length - k=0:=by simpa using e4
 have k1:p.toList.getD (L1.length+k+(X.length - k) - 1) 0=X.getD (X.length - 1) 0:=by
  have:=aX (X.length - 1) (by omega);rw [show L1.length+k+(X.length - k) - 1=L1.length+(X.length - 1) by omega,qo,qo,← this]
 refine wpS_bind (elemL (by omega) ?_);rw [k1];refine wpS_bind (xAcf W hq (M:=Y) rfl (nX _ (xAbt (by omega))) nY rfl aY lY (by omega) fun k2 hk2 ht2 hd2=>?_);dsimp only
 have lastX:∀ z∈X,lt (X.getD (X.length - 1) 0) z=false:=fun z hz=>xAgc (k:=X.length) W (by rw [z7];exact lX) zX (qg _) z (by rw [z7];exact hz)
 have ht2':∀ y∈Y.take k2,lt y (X.getD (X.length - 1) 0)=true:=fun x hx=>by
  have:=ht2 x hx;unfold bv at this;rwa [if_pos rfl] at this
 have hd2':∀ y∈Y.drop k2,lt y (X.getD (X.length - 1) 0)=false:=fun x hx=>by
  have:=hd2 x hx;unfold bv at this;rwa [if_pos rfl] at this
 refine wp_if (fun e=>wpS_pure ?_) fun e5=>?_
 ·have e:k2=0:=by simpa using e
  subst e;exact same _ (lX.app lY fun x hx y hy=>W.le_tr (lastX x hx) (hd2' y hy))
 have e5:¬ k2=0:=by simpa using e5
 have xe:(fl it p.toList).extract (L1.length+k) (L1.length+X.length)=fl it (X.drop k):=by
  rw [xAla,hp]
  congr 1
  rw [List.drop_append,yt (by omega),vf,List.drop_append_of_le_length (by omega),ky (by rw [z5];omega),v9 (by rw [z5];omega)]
  congr 1
  omega
 have ye:(fl it p.toList).extract (L1.length+X.length) (L1.length+X.length+k2)=fl it (Y.take k2):=by
  rw [xAlb,hp]
  congr 1
  rw [← zo,List.drop_append,yt (by rw [qm];omega),vf,qm,Nat.sub_self,List.drop_zero,ky hk2]
 rw [xe,ye];have lXd:Le lt (X.drop k):=List.Pairwise.sublist (kz _ _) lX;have lYt:Le lt (Y.take k2):=List.Pairwise.sublist (j6 _ _) lY
 have gY:(Y.take k2).getD 0 0=Y.getD 0 0:=by
  rw [qo,qo,jd,if_pos (by omega)]
 have gX:(X.drop k).getD ((X.drop k).length - 1) 0=X.getD (X.length - 1) 0:=by
  rw [z5,qo,qo,jb]
  congr 2
  omega
 have hl1:∀ z∈Y.take k2,lt (X.getD (X.length - 1) 0) z=false:=fun z hz=>W.le_of_lt (ht2' z hz)
 have hf1:∀ z∈X.drop k,lt z ((Y.take k2).getD 0 0)=false:=fun z hz=>by rw [gY];exact W.le_of_lt (hd' z hz)
 have post:∀ r m,Dn lt it (X.drop k) (Y.take k2) r->Q true (SortSt.mk' κ (r.toList.zipIdx.foldl (fun (a:Array Keyed) x=>a.setIfInBounds (L1.length+k+x.2) x.1) (fl it p.toList)) (P1++(L1.length,X.length+Y.length,pw)::P2).toArray m none):=by
  rintro r m ⟨R,rfl,pm,le⟩;have zR:R.length=(X.drop k++Y.take k2).length:=pm.length_eq
  have ep:p.toList=(L1++X.take k)++((X.drop k++Y.take k2)++(Y.drop k2++L2)):=by
   have:=xAtx L1 (X.take k) (X.drop k) (Y.take k2) (Y.drop k2) L2;rw [wy,wy] at this;rw [hp,this]
  have ef:(fl it R).toList.zipIdx.foldl (fun (a:Array Keyed) x=>a.setIfInBounds (L1.length+k+x.2) x.1) (fl it p.toList)=fl it ((L1++X.take k)++(R++(Y.drop k2++L2))):=by
   have:=xApp (L1.length+k) (R.map (kas_item it)) ((X.drop k++Y.take k2).map (kas_item it)) ((L1++X.take k).map (kas_item it)) ((Y.drop k2++L2).map (kas_item it)) 0 (by rw [qj,qj,zR]) (by rw [qj,qm,zt];omega);rw [← zx,← zx,← zx,← zx,← ep] at this;exact this
  rw [ef,← fl_map];refine h (X.take k++(R++Y.drop k2)) _ m ?_ ?_ (by simp [List.append_assoc])
  ·have a1:(X.take k++(R++Y.drop k2)).Perm (X.take k++((X.drop k++Y.take k2)++Y.drop k2)):=List.Perm.append_left _ (List.Perm.append_right _ pm)
   refine a1.trans (List.Perm.of_eq ?_);have:=xAtx [] (X.take k) (X.drop k) (Y.take k2) (Y.drop k2) [];rw [wy,wy] at this;simpa using this.symm
  ·have lXY:∀ x∈X.take k,∀ y∈Y,lt y x=false:=fun x hx y hy=>W.le_tr (ht' x hx) (xAeq (i:=0) W lY (by omega) y hy)
   refine Le.app (List.Pairwise.sublist (j6 _ _) lX) (Le.app le (List.Pairwise.sublist (kz _ _) lY) fun x hx y hy=>?_) fun x hx y hy=>?_
   ·rcases qz.mp (pm.mem_iff.mp hx) with hx | hx
    ·exact W.le_tr (lastX x (yh hx)) (hd2' y hy)
    ·have:=lY
     rw [← wy k2 Y] at this;exact this.between x hx y hy
   ·rcases qz.mp hy with hy | hy
    ·rcases qz.mp (pm.mem_iff.mp hy) with hy | hy
     ·have:=lX
      rw [← wy k X] at this;exact this.between x hx y hy
     ·exact lXY x hx y (yj hy)
    ·exact lXY x hx y (yh hy)
 rw [← xAoe p] at post ⊢;refine wp_if (fun _=>?_) fun _=>?_
 ·refine wpS_bind (xAld W hq (fun x hx=>nX x (yh hx)) (fun x hx=>nY x (yj hx)) lXd lYt (by rw [z5];omega) (by rw [zt];omega) hf1 (fun A' y e z hz=>?_) fun r m d=>?_)
  ·have:y=X.getD (X.length - 1) 0:=by
    rw [← gX,e]
    simp
   rw [this];exact hl1 z hz
  ·exact wpS_bind (wpS_modify (wpS_bind (wpS_get (wpS_pure (post r m d)))))
 ·refine wpS_bind (xAlf W hq (fun x hx=>nX x (yh hx)) (fun x hx=>nY x (yj hx)) lXd lYt (by rw [z5];omega) (by rw [zt];omega) hf1 (by rw [gX];exact hl1) fun r m d=>?_)
  exact wpS_bind (wpS_modify (wpS_bind (wpS_get (wpS_pure (post r m d)))))
end
def Rn (lt:Nat->Nat->Bool):Nat->List (Nat×Nat×Nat)->List (List Nat)->Prop
 | _,[],[]=>True
 | k,x::ps,X::gs=>x.1=k/\x.2.1=X.length/\1≤X.length/\Le lt X/\Rn lt (k+X.length) ps gs
 | _,[],_::_=>False
 | _,_::_,[]=>False
section
variable {lt:Nat->Nat->Bool}
theorem xAlh:∀ (i k:Nat) (ps:List (Nat×Nat×Nat)) (gs:List (List Nat)),Rn lt k ps gs->i+1<ps.length->∃ P1 pw pw2 P2 S1 X Y S2,ps=P1++(k+S1.flatten.length,X.length,pw)::(k+S1.flatten.length+X.length,Y.length,pw2)::P2/\gs=S1++X::Y::S2/\P1.length=i ∧
  1≤X.length/\1≤Y.length/\Le lt X/\Le lt Y/\∀ Z,Z.length=X.length+Y.length->Le lt Z->Rn lt k (P1++(k+S1.flatten.length,X.length+Y.length,pw)::P2) (S1++Z::S2)
 | 0,k,(a1,a2,pw)::(b1,b2,pw2)::P2,X::Y::S2,h,_=>by
  obtain ⟨e1,e2,z1,l1,f1,f2,z2,l2,r⟩:=h;dsimp only at e1 e2 f1 f2;subst e1 e2 f1 f2;refine ⟨[],pw,pw2,P2,[],X,Y,S2,rfl,rfl,rfl,z1,z2,l1,l2,fun Z hz lz=>⟨rfl,by simpa using hz.symm,by omega,lz,?_⟩⟩;rw [hz,← Nat.add_assoc];exact r
 | i+1,k,x::ps,X::gs,h,hi=>by
  obtain ⟨e1,e2,z1,l1,r⟩:=h;obtain ⟨P1,pw,pw2,P2,S1,X',Y,S2,q1,q2,q3,q4,q5,q6,q7,q8⟩:=xAlh i (k+X.length) ps gs r (by simpa using hi)
  have ef:k+(X::S1).flatten.length=k+X.length+S1.flatten.length:=by rw [vd,qm];omega
  refine ⟨x::P1,pw,pw2,P2,X::S1,X',Y,S2,by rw [q1,ef];rfl,by rw [q2];rfl,by simp [q3],q4,q5,q6,q7,fun Z hz lz=>?_⟩;rw [ef];exact ⟨e1,e2,z1,l1,q8 Z hz lz⟩
 | 0,k,[x],_,_,hi=>absurd hi (by simp)
 | i,k,[],_,_,hi=>absurd hi (by simp)
 | 0,k,_::_::_,[],h,_=>h.elim
 | 0,k,_::_::_,[_],h,_=>h.2.2.2.2.elim
 | i+1,k,_::_,[],h,_=>h.elim
theorem xApq {X:List Nat} {pw:Nat} (hx:1≤X.length) (lx:Le lt X):∀ {k:Nat} {ps:List (Nat×Nat×Nat)} {gs:List (List Nat)},Rn lt k ps gs->Rn lt k (ps++[(k+gs.flatten.length,X.length,pw)]) (gs++[X])
 | k,[],[],_=>⟨by simp,rfl,hx,lx,trivial⟩
 | k,x::ps,Y::gs,h=>by
  obtain ⟨e1,e2,z1,l1,r⟩:=h;refine ⟨e1,e2,z1,l1,?_⟩;have:=xApq hx lx r (pw:=pw)
  have ef:k+(Y::gs).flatten.length=k+Y.length+gs.flatten.length:=by rw [vd,qm];omega
  rw [ef];exact this
 | k,[],_::_,h=>h.elim
 | k,_::_,[],h=>h.elim
theorem xAli:∀ {k:Nat} {ps qs:List (Nat×Nat×Nat)} {gs:List (List Nat)},ps.map (fun x=>(x.1,x.2.1))=qs.map (fun x=>(x.1,x.2.1))->Rn lt k ps gs->Rn lt k qs gs
 | k,[],[],_,_,h=>h
 | k,x::ps,y::qs,Y::gs,e,h=>by
  obtain ⟨e1,e2,z1,l1,r⟩:=h;rw [za,za] at e;obtain ⟨ea,eb⟩:=List.cons.inj e;obtain ⟨ea1,ea2⟩:=Prod.mk.inj ea;exact ⟨ea1▸e1,ea2▸e2,z1,l1,xAli eb r⟩
 | k,[],_::_,_,e,_=>absurd e (by simp)
 | k,_::_,[],_,e,_=>absurd e (by simp)
 | k,_::_,_::_,[],_,h=>h.elim
theorem xArf:∀ {k:Nat} {ps:List (Nat×Nat×Nat)} {gs:List (List Nat)},Rn lt k ps gs->ps.length=gs.length/\gs.length≤gs.flatten.length
 | k,[],[],_=>⟨rfl,zm _⟩
 | k,x::ps,Y::gs,h=>by
  have:=xArf h.2.2.2.2;have:=h.2.2.1;rw [vd,qm,qx,qx];omega
 | k,[],_::_,h=>h.elim
 | k,_::_,[],h=>h.elim
theorem xAlj {α β:Type} (f:α->β) (g:α->α) (h:∀ x,f (g x)=f x) (l:List α) (i:Nat):(l.modify i g).map f=l.map f:=by
 apply wp;intro j;rw [qt,qt,k6]
 by_cases e:i=j
 ·simp [e,h,Function.comp_def]
 ·simp [e]
theorem xArg {lo:Nat} {p q:Array Nat} {F r:List Nat} (b:Bh lo p q) (hp:p.toList=F++r) (hF:F.length=lo):∃ r',q.toList=F++r'/\r'.length=r.length:=by
 have hz:q.toList.length=F.length+r.length:=by
  have:=b.perm.size_eq;rw [qy,this,← qy,hp,qm]
 refine ⟨q.toList.drop lo,?_,by rw [z5];omega⟩
 have:q.toList.take lo=F:=by
  apply wp;intro j;rw [jd]
  by_cases e:j<lo
  ·rw [if_pos e]
   have:=b.pre j e;rw [z6,this,← z6,hp,wo (by omega)]
  ·rw [if_neg e,yb (by omega)]
 conv=>lhs;rw [← wy lo q.toList,this]
theorem up_le {lo m:Nat} {q:Array Nat} {F r:List Nat} (hu:UpL lt lo q (lo+m)) (hp:q.toList=F++r) (hF:F.length=lo) (hm:m≤r.length):Le lt (r.take m):=by
 have at':∀ i,i<r.length->g q (lo+i)=r.getD i 0:=fun i hi=>by
  unfold g;rw [vz,← z6,hp,wz (by omega),qo,show lo+i - F.length=i by omega]
 refine jp.mpr fun i j hi hj hij=>?_;rw [zt] at hi hj;have:=hu (lo+i) (lo+j) (by omega) (by omega) (by omega);rw [at' i (by omega),at' j (by omega),qo,qo,qi (by omega),qi (by omega)] at this;rw [jq,jq];exact this
end
section
variable {prog:Program} {w:World} {A₀:Around} {E:Value->Shared->Prop} {s:Shared} {κ:SortKind} {it:Array Keyed} {n:Nat} {lt:Nat->Nat->Bool} {p:Array Nat} {mg:Nat}
theorem xAlk (W:Swo lt) (hq:Ans prog w A₀ s κ it n lt) {i:Nat} {ps:List (Nat×Nat×Nat)} {gs:List (List Nat)} {r:List Nat} (R:Rn lt 0 ps gs) (hp:p.toList=gs.flatten++r) (hn:∀ x∈p.toList,x<n) (hi:i+1<ps.length) {Q:Bool->SortSt->Prop}
  (h:∀ (q:Array Nat) ps' gs' m,ps'.length+1=ps.length->Rn lt 0 ps' gs'->q.toList=gs'.flatten++r->gs'.flatten.length=gs.flatten.length->q.Perm p->Q true (S κ it q ps'.toArray m)):wpS (model prog w) A₀ E s (mergeAt' i) Q (S κ it p ps.toArray mg):=by
 obtain ⟨P1,pw,pw2,P2,S1,X,Y,S2,e1,e2,e3,zX,zY,lX,lY,hR⟩:=xAlh i 0 ps gs R hi
 simp only [Nat.zero_add] at e1 hR
 refine xAlg W hq (L1:=S1.flatten) (X:=X) (Y:=Y) (L2:=S2.flatten++r) (P1:=P1) (P2:=P2) (pw:=pw) (pw2:=pw2) (by rw [hp,e2];simp [List.append_assoc]) hn e3 (by rw [e1]) zX zY lX lY fun Z q m pm lZ eq=>?_
 have zZ:Z.length=X.length+Y.length:=by rw [pm.length_eq,qm]
 refine h q _ (S1++Z::S2) m (by rw [e1];simp;omega) (hR Z zZ lZ) (by rw [eq];simp [List.append_assoc]) (by rw [e2];simp [zZ];omega) ?_;refine Array.perm_iff_toList_perm.mpr ?_;rw [eq,hp,e2]
 have:(S1++X::Y::S2).flatten++r=S1.flatten++((X++Y)++(S2.flatten++r)):=by simp [List.append_assoc]
 rw [this];exact List.Perm.append_left _ (List.Perm.append_right _ pm)
theorem runs_ok (W:Swo lt) (hq:Ans prog w A₀ s κ it n lt) (hb:In n p) (hz:2≤p.size) {Q:Unit->SortSt->Prop} (h:∀ (q:Array Nat) pd m,q.Perm p->Le lt q.toList->Q () (S κ it q pd m)) :
  wpS (model prog w) A₀ E s sortRuns' Q (S κ it p #[] 7):=by
 rw [sortRuns'_eq];refine wpS_bind (wpS_get ?_);have hs:(arrOf (S κ it p #[] 7)).size=p.size:=Array.size_map ..;dsimp only;rw [hs]
 refine wpS_bind (wpS_mono (wpS_forRange (I:=fun x c st'=>∃ (q:Array Nat) (ps:List (Nat×Nat×Nat)) (gs:List (List Nat)) (r:List Nat) (m:Nat),c=(none,gs.flatten.length)/\st'=S κ it q ps.toArray m/\Rn lt 0 ps gs/\q.toList=gs.flatten++r/\q.Perm p/\x≤gs.flatten.length)
  (Q:=fun c st'=>∃ (q:Array Nat) (ps:List (Nat×Nat×Nat)) (gs:List (List Nat)) (m:Nat),c=(none,p.size)/\st'=S κ it q ps.toArray m/\Rn lt 0 ps gs/\q.toList=gs.flatten/\q.Perm p) ?s0 ?f0 ⟨p,[],[],p.toList,7,rfl,rfl,trivial,rfl,.refl _,zm _⟩) ?p0)
 case f0 =>
  rintro c st' ⟨q,ps,gs,r,m,rfl,rfl,R,eq,pm,hx⟩
  have zq:gs.flatten.length+r.length=p.size:=by rw [← pm.size_eq,← qy,eq,qm]
  have:r=[]:=yk.mp (by omega);subst this;rw [zy] at eq;exact ⟨q,ps,gs,m,by rw [← zq];rfl,rfl,R,eq,pm⟩
 case s0 =>
  rintro x c st' _ hx ⟨q,ps,gs,r,m,rfl,rfl,R,eq,pm,hx'⟩
  have zq:gs.flatten.length+r.length=p.size:=by rw [← pm.size_eq,← qy,eq,qm]
  dsimp only;refine wp_if (fun hge=>wpS_pure ?_) fun hlt=>?_
  ·have:r=[]:=yk.mp (by omega)
   subst this;rw [zy] at eq;exact ⟨q,ps,gs,m,by rw [← zq];rfl,rfl,R,eq,pm⟩
  ·have hbq:=xAbw pm hb
   have sq:q.size=p.size:=pm.size_eq;refine wpS_bind (xAre W hq hbq (by omega) (by omega) fun q1 k b1 k1 k2 u1=>?_);dsimp only
   have rest:∀ (q2:Array Nat) (k':Nat),Bh gs.flatten.length q q2->1≤k'->k'≤p.size - gs.flatten.length->UpL lt gs.flatten.length q2 (gs.flatten.length+k')->∃ r',q2.toList=gs.flatten++r'/\∀ (q3:Array Nat) (ps3:List (Nat×Nat×Nat)) (gs3:List (List Nat)) (m3:Nat),Rn lt 0 ps3 gs3->q3.toList=gs3.flatten++r'->gs3.flatten.length=gs.flatten.length->q3.Perm q2 →
     ∃ (q:Array Nat) (ps:List (Nat×Nat×Nat)) (gs':List (List Nat)) (r:List Nat) (m:Nat),((none,gs.flatten.length+k'):Option Unit×Nat)=(none,gs'.flatten.length)/\SortSt.mk' κ (q3.map (kas_item it)) (ps3.toArray.push (gs.flatten.length,k',0)) m3 none=S κ it q ps.toArray m/\Rn lt 0 ps gs'/\q.toList=gs'.flatten++r/\q.Perm p/\x+1≤gs'.flatten.length:=fun q2 k' b2 f1 f2 u2=>by
    obtain ⟨r',er,zr⟩:=xArg b2 eq rfl;refine ⟨r',er,fun q3 ps3 gs3 m3 R3 e3 z3 pm3=>?_⟩;have lX:=up_le u2 er rfl (by omega)
    have zX:(r'.take k').length=k':=by rw [zt];omega
    have R4:=xApq (X:=r'.take k') (pw:=0) (by omega) lX R3;rw [zX,yu,z3] at R4
    have zf:(gs3++[r'.take k']).flatten.length=gs.flatten.length+k':=by rw [List.flatten_append,List.length_append,z3];simp;omega
    refine ⟨q3,_,_,r'.drop k',m3,by rw [zf],by rw [S,← kt],R4,?_,(pm3.trans b2.perm).trans pm,by omega⟩;rw [e3,List.flatten_append]
    simp [List.append_assoc]
   refine wp_if (fun hlt2=>wpS_bind (wpS_lift (wpAny_rule ⟨rfl,wpS_bind (bin_ok W hq (xAbw b1.perm hbq) k1 (by omega) (by have:=b1.perm.size_eq;omega) u1 fun q2 b2 u2=>?_)⟩))) fun hge2=>?_
   all_goals first
    | (have b2':=b1.trans b2
       rw [if_neg (by decide)]
       have f2:min (p.size - gs.flatten.length) (minRun' p.size p.size 0)≤p.size - gs.flatten.length:=by omega
       have f1:1≤min (p.size - gs.flatten.length) (minRun' p.size p.size 0):=by omega
       generalize min (p.size - gs.flatten.length) (minRun' p.size p.size 0)=k' at f1 f2 u2 ⊢)
    | (obtain ⟨q2,k',eq2,ek,b2',f1,f2,u2⟩:∃ q2 k',q2=q1/\k'=k/\Bh gs.flatten.length q q2/\1≤k'/\k'≤p.size - gs.flatten.length/\UpL lt gs.flatten.length q2 (gs.flatten.length+k'):=⟨q1,k,rfl,rfl,b1,k1,k2,u1⟩
       rw [← eq2,← ek])
   all_goals
    obtain ⟨r',er,fin⟩:=rest q2 k' b2' f1 f2 u2;have hb2:=xAbw b2'.perm hbq;refine wpS_bind (wpS_get ?_)
    split
    ·refine wpS_bind (wpS_mono (wpS_forRange (I:=fun _ c st'=>c=(none,())/\∃ (q3:Array Nat) (ps3:List (Nat×Nat×Nat)) (gs3:List (List Nat)) (m3:Nat),st'=S κ it q3 ps3.toArray m3/\Rn lt 0 ps3 gs3/\q3.toList=gs3.flatten++r'/\gs3.flatten.length=gs.flatten.length/\q3.Perm q2)
      (Q:=fun c st'=>c=(none,())/\∃ (q3:Array Nat) (ps3:List (Nat×Nat×Nat)) (gs3:List (List Nat)) (m3:Nat),st'=S κ it q3 ps3.toArray m3/\Rn lt 0 ps3 gs3/\q3.toList=gs3.flatten++r'/\gs3.flatten.length=gs.flatten.length/\q3.Perm q2) ?_ (fun c st' q=>q) ⟨rfl,q2,ps,gs,m,rfl,R,er,rfl,.refl _⟩) ?_)
     ·rintro y c st' _ hy ⟨rfl,q3,ps3,gs3,m3,rfl,R3,e3,z3,pm3⟩
      refine wpS_bind (wpS_get ?_)
      split
      ·rename_i hc
       have hsz:ps3.length>1:=by
        by_cases hh:ps3.length>1
        ·exact hh
        ·rw [if_neg (show ¬ ps3.toArray.size>1 by simpa using hh)] at hc
         cases hc
       refine wp_if (fun _=>wpS_pure ⟨rfl,q3,ps3,gs3,m3,rfl,R3,e3,z3,pm3⟩) fun _=>?_;refine wpS_bind (xAlk W hq R3 e3 (fun x hx=>?_) ?_ fun q4 ps4 gs4 m4 a1 a2 a3 a4 a5=>?_)
       ·obtain ⟨j,hj,ej⟩:=wk.mp hx
        have:=xAbw pm3 hb2 j (by simpa using hj);unfold g at this;rw [vz,← z6,qi hj,ej] at this;exact this
       ·show ps3.toArray.size - 2+1<ps3.length
        rw [zd];omega
       ·rw [if_neg (by decide)]
        exact wpS_pure ⟨rfl,q4,ps4,gs4,m4,rfl,a2,a3,a4.trans z3,a5.trans pm3⟩
      ·exact wpS_pure ⟨rfl,q3,ps3,gs3,m3,rfl,R3,e3,z3,pm3⟩
     ·rintro c st' ⟨rfl,q3,ps3,gs3,m3,rfl,R3,e3,z3,pm3⟩
      dsimp only;refine wpS_bind (wpS_modify (wpS_bind (wpS_modify (wpS_pure ?_))))
      have em:∀ pw,(ps3.toArray.modify (ps3.toArray.size - 1) fun x=>(x.1,x.2.1,pw))=((ps3.modify (ps3.toArray.size - 1) fun x=>(x.1,x.2.1,pw))).toArray:=fun pw=>by
       apply je.mp;rw [Array.toList_modify]
      have fin2:=fun pw:Nat=>fin q3 (ps3.modify (ps3.toArray.size - 1) fun x=>(x.1,x.2.1,pw)) gs3 m3 (xAli (xAlj (fun x=>(x.1,x.2.1)) (fun x=>(x.1,x.2.1,pw)) (fun x=>rfl) _ _).symm R3) e3 z3 pm3
      simp only [← em] at fin2
      exact fin2 _
    ·exact wpS_bind (wpS_modify (wpS_pure (fin q2 ps gs m R er rfl (.refl _))))
 case p0 =>
  rintro c st' ⟨q,ps,gs,m,rfl,rfl,R,eq,pm⟩;dsimp only
  have zq:gs.flatten.length=p.size:=by rw [← pm.size_eq,← qy,eq]
  have zl:=xArf R
  refine wpS_bind (wpS_mono (wpS_forRange (I:=fun x c st'=>c=(none,())/\∃ (q3:Array Nat) (ps3:List (Nat×Nat×Nat)) (gs3:List (List Nat)) (m3:Nat),st'=S κ it q3 ps3.toArray m3/\Rn lt 0 ps3 gs3/\q3.toList=gs3.flatten/\q3.Perm p/\ps3.length+x≤p.size)
   (Q:=fun c st'=>c=(none,())/\∃ (q3:Array Nat) (ps3:List (Nat×Nat×Nat)) (gs3:List (List Nat)) (m3:Nat),st'=S κ it q3 ps3.toArray m3/\Rn lt 0 ps3 gs3/\q3.toList=gs3.flatten/\q3.Perm p/\ps3.length≤1) ?s1 ?f1 ⟨rfl,q,ps,gs,m,rfl,R,eq,pm,by omega⟩) ?p1)
  case f1 =>
   rintro c st' ⟨rfl,q3,ps3,gs3,m3,rfl,R3,e3,pm3,hx⟩;exact ⟨rfl,q3,ps3,gs3,m3,rfl,R3,e3,pm3,by omega⟩
  case s1 =>
   rintro y c st' _ hy ⟨rfl,q3,ps3,gs3,m3,rfl,R3,e3,pm3,hx⟩;refine wpS_bind (wpS_get ?_);have hsz:(pendingOf (S κ it q3 ps3.toArray m3)).size=ps3.length:=zd;rw [hsz];refine wp_if (fun hle=>wpS_pure ⟨rfl,q3,ps3,gs3,m3,rfl,R3,e3,pm3,hle⟩) fun hgt=>?_;refine wpS_bind (xAlk W hq R3 (r:=[]) (by rw [zy];exact e3) (fun x hx=>?_) ?_ fun q4 ps4 gs4 m4 a1 a2 a3 a4 a5=>?_)
   ·obtain ⟨j,hj,ej⟩:=wk.mp hx
    have:=xAbw pm3 hb j (by simpa using hj);unfold g at this;rw [vz,← z6,qi hj,ej] at this;exact this
   ·have two:∀ (c:Prop) [Decidable c],(if c then ps3.length - 2 - 1 else ps3.length - 2)+1<ps3.length:=by
     intro c _
     split <;> omega
    exact two _
   ·rw [if_neg (by decide)]
    rw [zy] at a3;exact wpS_pure ⟨rfl,q4,ps4,gs4,m4,rfl,a2,a3,a5.trans pm3,by omega⟩
  case p1 =>
   rintro c st' ⟨rfl,q3,ps3,gs3,m3,rfl,R3,e3,pm3,hx⟩;refine wpS_pure (h q3 _ m3 pm3 ?_);rw [e3];have zg:=(xArf R3).1
   match gs3,ps3,R3,zg with
   | [],_,_,_=>exact List.Pairwise.nil
   | [X],_::_,R3,_=>rw [vd,List.flatten_nil,zy];exact R3.2.2.2.1
   | X::Y::gs,ps3,_,zg=>rw [zg] at hx;simp at hx
end
end Tim
namespace L2
open PySem PySem.Spec PyProof.Rows
mutual
inductive DT (H:Hp):V->PyData->Prop
 | non:DT H .non .none
 | bl (b:Bool):DT H (.bl b) (.bool b)
 | int (i:Int):DT H (.int i) (.int i)
 | str (z:Str):DT H (.str z) (.str z)
 | tup {p:Addr} {xs:List V} {ds:List PyData}:H p=some (.tup xs)->DTs H xs ds->DT H (.ref p) (.tuple ds)
inductive DTs (H:Hp):List V->List PyData->Prop
 | nil:DTs H [] []
 | cons {x:V} {xs:List V} {d:PyData} {ds:List PyData}:DT H x d->DTs H xs ds->DTs H (x::xs) (d::ds)
end
mutual
theorem DT.same {H H':Hp} (e:Same H H'):∀ {x:V} {d:PyData},DT H x d->DT H' x d
 | _,_,.non=>.non
 | _,_,.bl b=>.bl b
 | _,_,.int i=>.int i
 | _,_,.str z=>.str z
 | _,_,.tup h t=>.tup (e _ _ h) (DTs.same e t)
theorem DTs.same {H H':Hp} (e:Same H H'):∀ {xs:List V} {ds:List PyData},DTs H xs ds->DTs H' xs ds
 | _,_,.nil=>.nil
 | _,_,.cons h t=>.cons (DT.same e h) (DTs.same e t)
end
mutual
theorem DT.dv {K:PySem.W.Frag} {H:Hp}:∀ {x:V} {d:PyData},DT H x d->DV K H x d
 | _,_,.non=>.non
 | _,_,.bl b=>.bl b
 | _,_,.int i=>.int i
 | _,_,.str z=>.str z
 | _,_,.tup h t=>.tup (SqT.of h) (DTs.dv t)
theorem DTs.dv {K:PySem.W.Frag} {H:Hp}:∀ {xs:List V} {ds:List PyData},DTs H xs ds->DVs K H xs ds
 | _,_,.nil=>.nil
 | _,_,.cons h t=>.cons (DT.dv h) (DTs.dv t)
end
section
variable {H:Hp}
end
theorem xAtz {H:Hp} {a b:Addr} {xs:List V} {o:HO} (ha:H a=some (.tup xs)) (hb:H b=some o) (ho:∀ ys,o≠.tup ys):a≠b:=fun e=>by
 subst e;rw [ha] at hb;exact ho xs (Option.some.inj hb).symm
mutual
def noB:PyData->Bool
 | .none=>true
 | .bool _=>false
 | .int _=>true
 | .str _=>true
 | .list xs=>noBs xs
 | .tuple xs=>noBs xs
 | .dict _=>false
def noBs:List PyData->Bool
 | []=>true
 | x::xs=>noB x&&noBs xs
end
mutual
theorem xAhz:∀ (a b:PyData),noB a=true->noB b=true->(PyData.eqv a b=true↔a=b)
 | .list xs,b,ha,hb=>by
  cases b with
  | list ys =>
   have:=xAgy xs ys (by simpa [noB] using ha) (by simpa [noB] using hb)
   simp only [PyData.eqv,this,PyData.list.injEq]
  | _=>simp [PyData.eqv]
 | .tuple xs,b,ha,hb=>by
  cases b with
  | tuple ys =>
   have:=xAgy xs ys (by simpa [noB] using ha) (by simpa [noB] using hb)
   simp only [PyData.eqv,this,PyData.tuple.injEq]
  | _=>simp [PyData.eqv]
 | .dict _,_,ha,_=>by simp [noB] at ha
 | .bool _,_,ha,_=>by simp [noB] at ha
 | .none,b,_,hb=>by cases b <;> simp_all [PyData.eqv,noB]
 | .int i,b,_,hb=>by cases b <;> simp_all [PyData.eqv,noB]
 | .str i,b,_,hb=>by cases b <;> simp_all [PyData.eqv,noB]
theorem xAgy:∀ (xs ys:List PyData),noBs xs=true->noBs ys=true->(PyData.eqvAll xs ys=true↔xs=ys)
 | [],ys,_,_=>by cases ys <;> simp [PyData.eqvAll]
 | x::xs,ys,ha,hb=>by
  cases ys with
  | nil=>simp [PyData.eqvAll]
  | cons y ys =>
   rw [noBs,zu] at ha hb;have h1:=xAhz x y ha.1 hb.1;have h2:=xAgy xs ys ha.2 hb.2
   simp only [PyData.eqvAll,Bool.and_eq_true,h1,h2,List.cons.injEq]
end
theorem xAdu:∀ {xs:List PyData},(∀ x∈xs,noB x=true)->noBs xs=true
 | [],_=>rfl
 | x::xs,h=>by
  rw [noBs,h x qp,xAdu fun y hy=>h y (qr _ hy)];rfl
theorem xAbh:∀ {xs:List PyData},(∀ x∈xs,x.canLay0=true)->PyData.canLayAll0 xs=true
 | [],_=>rfl
 | x::xs,h=>by
  show (x.canLay0&&PyData.canLayAll0 xs)=true;rw [h x qp,xAbh fun y hy=>h y (qr _ hy)];rfl
theorem nd_add {α:Type} {l:List α} {x:α} (h:l.Nodup) (hx:x∉l):(l++[x]).Nodup :=
 gm.mpr ⟨h,wu.mpr ⟨fun z=>(List.not_mem_nil z).elim,jf⟩,fun a ha b hb e=>hx (by rw [zb.mp hb] at e;rw [← e];exact ha)⟩
mutual
def sk:PyData->PyData->Bool
 | .none,.none=>true
 | .bool _,.bool _=>true
 | .int _,.int _=>true
 | .str _,.str _=>true
 | .tuple xs,.tuple ys=>sks xs ys
 | _,_=>false
def sks:List PyData->List PyData->Bool
 | [],_=>true
 | _::_,[]=>true
 | x::xs,y::ys=>sk x y&&sks xs ys
end
mutual
def ltD:PyData->PyData->Bool
 | .bool a,.bool b=>!a&&b
 | .int i,.int j=>decide (i<j)
 | .str x,.str y=>decide (x.cps.toList<y.cps.toList)
 | .tuple xs,.tuple ys=>ltDs xs ys
 | _,_=>false
def ltDs:List PyData->List PyData->Bool
 | [],[]=>false
 | [],_::_=>true
 | _::_,[]=>false
 | x::xs,y::ys=>if PyData.eqv x y=true then ltDs xs ys else ltD x y
end
mutual
theorem sk_eq:∀ (a b:PyData),sk a b=true->(PyData.eqv a b=true↔a=b)
 | .tuple xs,b,h=>by
  cases b with
  | tuple ys=>simp only [PyData.eqv,PyData.tuple.injEq];exact xAua xs ys (by simpa [sk] using h)
  | _=>simp [sk] at h
 | .none,b,h=>by cases b <;> simp_all [sk,PyData.eqv]
 | .bool _,b,h=>by cases b <;> simp_all [sk,PyData.eqv]
 | .int _,b,h=>by cases b <;> simp_all [sk,PyData.eqv]
 | .str _,b,h=>by cases b <;> simp_all [sk,PyData.eqv]
 | .list _,b,h=>by cases b <;> simp [sk] at h
 | .dict _,b,h=>by cases b <;> simp [sk] at h
theorem xAua:∀ (xs ys:List PyData),sks xs ys=true->(PyData.eqvAll xs ys=true↔xs=ys)
 | [],ys,_=>by cases ys <;> simp [PyData.eqvAll]
 | x::xs,[],_=>by simp [PyData.eqvAll]
 | x::xs,y::ys,h=>by
  rw [sks,zu] at h
  simp only [PyData.eqvAll,Bool.and_eq_true,sk_eq x y h.1,xAua xs ys h.2,List.cons.injEq]
end
theorem xAub {x y:Str} (h:x.cps.toList=y.cps.toList):x=y:=by
 obtain ⟨a⟩:=x;obtain ⟨b⟩:=y;exact congrArg Str.mk (Array.ext' h)
mutual
theorem xAer:∀ a:PyData,ltD a a=false
 | .tuple xs=>by rw [ltD];exact xAll xs
 | .none=>rfl
 | .bool b=>by cases b <;> rfl
 | .int i=>by simp [ltD]
 | .str x=>by simp [ltD,List.lt_irrefl]
 | .list _=>rfl
 | .dict _=>rfl
theorem xAll:∀ xs:List PyData,ltDs xs xs=false
 | []=>rfl
 | x::xs=>by
  rw [ltDs,xAll xs,xAer x]
  split <;> rfl
end
mutual
theorem xAia:∀ (a b:PyData),sk a b=true->ltD a b=false->ltD b a=false->a=b
 | .tuple xs,b,h,h1,h2=>by
  cases b with
  | tuple ys=>exact congrArg PyData.tuple (xAlm xs ys (by simpa [sk] using h) (by simpa [ltD] using h1) (by simpa [ltD] using h2))
  | _=>simp [sk] at h
 | .none,b,h,_,_=>by cases b <;> simp_all [sk]
 | .bool a,b,h,h1,h2=>by
  cases b with
  | bool c=>cases a <;> cases c <;> simp_all [ltD]
  | _=>simp [sk] at h
 | .int i,b,h,h1,h2=>by
  cases b with
  | int j=>simp only [ltD,decide_eq_false_iff_not] at h1 h2;exact congrArg _ (by omega)
  | _=>simp [sk] at h
 | .str x,b,h,h1,h2=>by
  cases b with
  | str y =>
   simp only [ltD,decide_eq_false_iff_not] at h1 h2
   exact congrArg _ (xAub (List.le_antisymm (gq.mp h2) (gq.mp h1)))
  | _=>simp [sk] at h
 | .list _,b,h,_,_=>by cases b <;> simp [sk] at h
 | .dict _,b,h,_,_=>by cases b <;> simp [sk] at h
theorem xAlm:∀ (xs ys:List PyData),sks xs ys=true->ltDs xs ys=false->ltDs ys xs=false->xs=ys
 | [],[],_,_,_=>rfl
 | [],_::_,_,h,_=>by simp [ltDs] at h
 | _::_,[],_,_,h=>by simp [ltDs] at h
 | x::xs,y::ys,h,h1,h2=>by
  rw [sks,zu] at h
  by_cases e:x=y
  ·subst e
   have ex:PyData.eqv x x=true:=(sk_eq x x h.1).mpr rfl;rw [ltDs,if_pos ex] at h1 h2;rw [xAlm xs ys h.2 h1 h2]
  ·have e1:¬ PyData.eqv x y=true:=fun z=>e ((sk_eq x y h.1).mp z)
   have hs:sk y x=true:=xApr x y h.1;have e2:¬ PyData.eqv y x=true:=fun z=>e ((sk_eq y x hs).mp z).symm;rw [ltDs,if_neg e1] at h1;rw [ltDs,if_neg e2] at h2;exact absurd (xAia x y h.1 h1 h2) e
theorem xApr:∀ (a b:PyData),sk a b=true->sk b a=true
 | .tuple xs,b,h=>by
  cases b with
  | tuple ys=>rw [sk];exact xAln xs ys (by simpa [sk] using h)
  | _=>simp [sk] at h
 | .none,b,h=>by cases b <;> simp_all [sk]
 | .bool _,b,h=>by cases b <;> simp_all [sk]
 | .int _,b,h=>by cases b <;> simp_all [sk]
 | .str _,b,h=>by cases b <;> simp_all [sk]
 | .list _,b,h=>by cases b <;> simp [sk] at h
 | .dict _,b,h=>by cases b <;> simp [sk] at h
theorem xAln:∀ (xs ys:List PyData),sks xs ys=true->sks ys xs=true
 | [],[],_=>rfl
 | [],_::_,_=>rfl
 | _::_,[],_=>rfl
 | x::xs,y::ys,h=>by
  rw [sks,zu] at h ⊢;exact ⟨xApr x y h.1,xAln xs ys h.2⟩
end
mutual
theorem xArh:∀ (a b c:PyData),sk a b=true->sk b c=true->sk a c=true->ltD a b=true->ltD b c=true->ltD a c=true
 | .tuple xs,b,c,h1,h2,h3,l1,l2=>by
  cases b with
  | tuple ys =>
   cases c with
   | tuple zs=>rw [ltD];exact xAps xs ys zs (by simpa [sk] using h1) (by simpa [sk] using h2) (by simpa [sk] using h3) (by simpa [ltD] using l1) (by simpa [ltD] using l2)
   | _=>simp [sk] at h3
  | _=>simp [sk] at h1
 | .none,b,c,_,_,_,l1,_=>by cases b <;> simp [ltD] at l1
 | .bool a,b,c,h1,h2,h3,l1,l2=>by
  cases b with
  | bool y =>
   cases c with
   | bool z=>cases a <;> cases y <;> cases z <;> simp_all [ltD]
   | _=>simp [sk] at h3
  | _=>simp [sk] at h1
 | .int i,b,c,h1,h2,h3,l1,l2=>by
  cases b with
  | int y =>
   cases c with
   | int z=>simp only [ltD,decide_eq_true_eq] at *;omega
   | _=>simp [sk] at h3
  | _=>simp [sk] at h1
 | .str i,b,c,h1,h2,h3,l1,l2=>by
  cases b with
  | str y =>
   cases c with
   | str z=>simp only [ltD,decide_eq_true_eq] at *;exact List.lt_trans l1 l2
   | _=>simp [sk] at h3
  | _=>simp [sk] at h1
 | .list _,b,c,_,_,_,l1,_=>by cases b <;> simp [ltD] at l1
 | .dict _,b,c,_,_,_,l1,_=>by cases b <;> simp [ltD] at l1
theorem xAps:∀ (xs ys zs:List PyData),sks xs ys=true->sks ys zs=true->sks xs zs=true->ltDs xs ys=true->ltDs ys zs=true->ltDs xs zs=true
 | _,_,[],_,_,_,_,l2=>by
  rename_i ys _ _ _ _
  cases ys <;> simp [ltDs] at l2
 | [],_,_::_,_,_,_,_,_=>rfl
 | x::xs,[],_::_,_,_,_,l1,_=>by simp [ltDs] at l1
 | x::xs,y::ys,z::zs,h1,h2,h3,l1,l2=>by
  rw [sks,zu] at h1 h2 h3
  by_cases e1:x=y
  ·subst e1
   have q1:PyData.eqv x x=true:=(sk_eq x x h1.1).mpr rfl;rw [ltDs,if_pos q1] at l1
   by_cases e2:x=z
   ·subst e2
    rw [ltDs,if_pos q1] at l2 ⊢;exact xAps xs ys zs h1.2 h2.2 h3.2 l1 l2
   ·have q2:¬ PyData.eqv x z=true:=fun w=>e2 ((sk_eq x z h3.1).mp w)
    rw [ltDs,if_neg q2] at l2 ⊢;exact l2
  ·have q1:¬ PyData.eqv x y=true:=fun w=>e1 ((sk_eq x y h1.1).mp w)
   rw [ltDs,if_neg q1] at l1
   by_cases e2:y=z
   ·subst e2
    rw [ltDs,if_neg q1];exact l1
   ·have q2:¬ PyData.eqv y z=true:=fun w=>e2 ((sk_eq y z h2.1).mp w)
    rw [ltDs,if_neg q2] at l2;have l3:=xArh x y z h1.1 h2.1 h3.1 l1 l2
    have q3:¬ PyData.eqv x z=true:=fun w=>by
     have:=(sk_eq x z h3.1).mp w;subst this;rw [xAer] at l3;cases l3
    rw [ltDs,if_neg q3];exact l3
end
mutual
theorem xAuc:∀ (a b c:PyData),sk a b=true->sk b c=true->sk a c=true->ltD a c=true->ltD a b=true\/ltD b c=true
 | .tuple xs,b,c,h1,h2,h3,l=>by
  cases b with
  | tuple ys =>
   cases c with
   | tuple zs=>rw [ltD,ltD];exact xApt xs ys zs (by simpa [sk] using h1) (by simpa [sk] using h2) (by simpa [sk] using h3) (by simpa [ltD] using l)
   | _=>simp [sk] at h3
  | _=>simp [sk] at h1
 | .none,b,c,_,_,_,l=>by cases c <;> simp [ltD] at l
 | .bool a,b,c,h1,h2,h3,l=>by
  cases b with
  | bool y =>
   cases c with
   | bool z=>cases a <;> cases y <;> cases z <;> simp_all [ltD]
   | _=>simp [sk] at h3
  | _=>simp [sk] at h1
 | .int i,b,c,h1,h2,h3,l=>by
  cases b with
  | int y =>
   cases c with
   | int z=>simp only [ltD,decide_eq_true_eq] at *;omega
   | _=>simp [sk] at h3
  | _=>simp [sk] at h1
 | .str i,b,c,h1,h2,h3,l=>by
  cases b with
  | str y =>
   cases c with
   | str z =>
    simp only [ltD,decide_eq_true_eq] at *
    by_cases hab:i.cps.toList<y.cps.toList
    ·exact .inl hab
    ·exact .inr (List.lt_of_le_of_lt (gq.mp hab) l)
   | _=>simp [sk] at h3
  | _=>simp [sk] at h1
 | .list _,b,c,_,_,_,l=>by cases c <;> simp [ltD] at l
 | .dict _,b,c,_,_,_,l=>by cases c <;> simp [ltD] at l
theorem xApt:∀ (xs ys zs:List PyData),sks xs ys=true->sks ys zs=true->sks xs zs=true->ltDs xs zs=true->ltDs xs ys=true\/ltDs ys zs=true
 | xs,_,[],_,_,_,l=>by cases xs <;> simp [ltDs] at l
 | [],[],_::_,_,_,_,_=>.inr rfl
 | [],_::_,_::_,_,_,_,_=>.inl rfl
 | x::xs,[],_::_,_,_,_,_=>.inr rfl
 | x::xs,y::ys,z::zs,h1,h2,h3,l=>by
  rw [sks,zu] at h1 h2 h3
  by_cases e3:x=z
  ·subst e3
   have q3:PyData.eqv x x=true:=(sk_eq x x h3.1).mpr rfl;rw [ltDs,if_pos q3] at l
   by_cases e1:x=y
   ·subst e1
    rw [ltDs,if_pos q3,ltDs,if_pos q3];exact xApt xs ys zs h1.2 h2.2 h3.2 l
   ·have q1:¬ PyData.eqv x y=true:=fun w=>e1 ((sk_eq x y h1.1).mp w)
    have q2:¬ PyData.eqv y x=true:=fun w=>e1 ((sk_eq y x h2.1).mp w).symm;rw [ltDs,if_neg q1,ltDs,if_neg q2]
    cases p1:ltD x y with
    | true=>exact .inl rfl
    | false =>
     cases p2:ltD y x with
     | true=>exact .inr rfl
     | false=>exact absurd (xAia x y h1.1 p1 p2) e1
  ·have q3:¬ PyData.eqv x z=true:=fun w=>e3 ((sk_eq x z h3.1).mp w)
   rw [ltDs,if_neg q3] at l;rcases xAuc x y z h1.1 h2.1 h3.1 l with p | p
   ·left
    have q1:¬ PyData.eqv x y=true:=fun w=>by
     have:=(sk_eq x y h1.1).mp w;subst this;rw [xAer] at p;cases p
    rw [ltDs,if_neg q1];exact p
   ·right
    have q2:¬ PyData.eqv y z=true:=fun w=>by
     have:=(sk_eq y z h2.1).mp w;subst this;rw [xAer] at p;cases p
    rw [ltDs,if_neg q2];exact p
end
def LtAt (A:Around) (s:Shared) (x y:Value) (b:Bool):Prop:=∀ (prog:Program) (w:World) (E:Value->Shared->Prop) (Q:Value->Shared->Prop),Q (.bool b) s->wpAny (model prog w) A (richCompare .Lt x y) Q E s
open SeqAt in
theorem xAlo (l b:Addr) (us vs:Array Value) (n n2:Nat) (dd dd2:Option Addr) (sl sl2:Array (Option Value)) (e:Nat->Bool) (c:Bool) :
  Meets (Builtin.«tuple.__lt__» ⟨[.ref l,.ref b],[]⟩)
   (fun A R s=>s.heap.get? l=some { cls:=.type "tuple",dict:=dd,data:=.seq us n,slots:=sl }/\s.heap.get? b=some { cls:=.type "tuple",dict:=dd2,data:=.seq vs n2,slots:=sl2 } ∧
    (∀ j (h1:j<us.size) (h2:j<vs.size),EqAt A.in1 s us[j] vs[j] (e j)) ∧
    (∀ i (h1:i<us.size) (h2:i<vs.size),(∀ j,j<i->e j=true)->e i=false->LtAt A.in1 s us[i] vs[i] c) ∧
    ((∀ j,j<min us.size vs.size->e j=true)->c=decide (us.size<vs.size))/\R (.ok (.ret (.bool c))) s) :=
 .of_wp fun prog w A R s h=>by
  obtain ⟨hp,g,d,tk,os⟩:=s;obtain ⟨hl,hb,he,hlt,hall,h⟩:=h;have f2:=AutoSeq1.sub_tuple_tuple
  have hZ:(us.toList.zip vs.toList).length=min us.size vs.size:=by simp
  wp_walk using wpAny_loadPart' hl,wpAny_loadPart' hb,wpAny_forIn_list _ (fun rest b s'=>b.1=none/\s'=⟨hp,g,d,tk,os⟩/\∃ i,rest=(us.toList.zip vs.toList).drop i/\∀ j,j<i->e j=true) _
  case turn =>
   rintro ⟨y,x⟩ rest b s' ⟨hb',rfl,i,hz,hi⟩
   have hlt':i<(us.toList.zip vs.toList).length:=by
    rcases yv i (us.toList.zip vs.toList).length with h' | h'
    ·exact h'
    ·rw [gr h'] at hz;cases hz
   have h1:i<us.size:=by omega
   have h2:i<vs.size:=by omega
   rw [ja hlt'] at hz;injection hz with hyx hrest
   have hy:y=us[i]:=by have:=congrArg Prod.fst hyx;simpa using this
   have hx:x=vs[i]:=by have:=congrArg Prod.snd hyx;simpa using this
   subst hy hx;refine wpAny_bind (he i h1 h2 prog w _ _ ?_)
   cases hy:e i with
   | true =>
    wp_walk
    exact ⟨rfl,rfl,i+1,hrest,fun j hj=>by
     by_cases z:j=i
     ·rw [z];exact hy
     ·exact hi j (by omega)⟩
   | false =>
    have q:=hlt i h1 h2 hi hy;dsimp only;rw [if_pos (by rfl)];refine wpAny_bind (wpAny_rule (wpAny_bind (q prog w _ _ ?_)));exact wpAny_bind (wpAny_pure (wpAny_pure (wpAny_pure ⟨_,rfl,h⟩)))
  case fin =>
   rintro ⟨b1,b2⟩ s' ⟨hb',rfl,i,hz,hi⟩
   simp only at hb'
   subst hb'
   have hge:min us.size vs.size≤i:=by
    rcases yv i (us.toList.zip vs.toList).length with h' | h'
    ·rw [ja h'] at hz;cases hz
    ·omega
   have:=hall fun j hj=>hi j (by omega)
   wp_walk
   exact ⟨_,rfl,by rw [this] at h;simpa [Builtin.Tuple.tupleCompareSizes] using h⟩
  case h =>
   exact ⟨rfl,rfl,0,rfl,fun j hj=>absurd hj (zc _)⟩
theorem LtAt.tuples {A:Around} {s:Shared} {l b:Addr} {us vs:Array Value} {e:Nat->Bool} {c:Bool} (hl:s.heap.IsTuple l us) (hb:s.heap.IsTuple b vs) (hu:A.units<cLine)
  (he:∀ j (h1:j<us.size) (h2:j<vs.size),SeqAt.EqAt A.in1 s us[j] vs[j] (e j)) (hlt:∀ i (h1:i<us.size) (h2:i<vs.size),(∀ j,j<i->e j=true)->e i=false->LtAt A.in1 s us[i] vs[i] c)
  (hall:(∀ j,j<min us.size vs.size->e j=true)->c=decide (us.size<vs.size)):LtAt A s (.ref l) (.ref b) c:=fun prog w E Q h=>by
 obtain ⟨⟨cls,dd,data,sl⟩,ho,hc,n,hd⟩:=id hl;obtain ⟨⟨cls2,dd2,data2,sl2⟩,ho2,hc2,n2,hd2⟩:=id hb
 simp only at hc hd hc2 hd2
 subst hc hd hc2 hd2
 exact richCompare_meets_room (op:=.Lt) ⟨_,ho,rfl⟩ ⟨_,ho2,rfl⟩ F.slot_tuple_lt F.entry_tuple_lt (F.args_tuple_lt_2 _ _) (xAlo l b us vs n n2 dd dd2 sl sl2 e c)
  ⟨ho,ho2,he,hlt,hall,show Value.bool c≠Value.notImplemented/\Q (.bool c) s from ⟨(fun x=>nomatch x),h⟩⟩ hu
theorem LtAt.ints {A:Around} {s:Shared} (i j:Int) (t u:Tok):LtAt A s (.int i t) (.int j u) (decide (i<j)):=fun prog w E Q h=>PyProof.Rows.lt_int h
theorem LtAt.strs {A:Around} {s:Shared} (i j:Str) (t u:Tok):LtAt A s (.str i t) (.str j u) (decide (i.cps.toList<j.cps.toList)):=fun prog w E Q h=>PyProof.Rows.lt_str h
theorem LtAt.bools {A:Around} {s:Shared} (i j:Bool):LtAt A s (.bool i) (.bool j) (!i&&j):=fun prog w E Q h=>by
 refine PyProof.Rows.lt_bool ?_;cases i <;> cases j <;> exact h
open SeqAt in
theorem xApu:∀ (xs ys:List PyData) (i:Nat),i<xs.length->i<ys.length->(∀ j,j<i->pairEq xs ys j=true)->pairEq xs ys i=false->ltDs xs ys=ltD (xs.getD i .none) (ys.getD i .none)
 | x::xs,y::ys,0,_,_,_,h=>by
  have h':PyData.eqv x y=false:=h;rw [ltDs,if_neg (by rw [h'];decide)];rfl
 | x::xs,y::ys,i+1,h1,h2,hj,h=>by
  have h':PyData.eqv x y=true:=hj 0 (by omega);rw [ltDs,if_pos h'];exact xApu xs ys i (by simpa using h1) (by simpa using h2) (fun j hlt=>hj (j+1) (by omega)) h
 | [],_,_,h1,_,_,_=>absurd h1 (zc _)
 | _::_,[],_,_,h2,_,_=>absurd h2 (zc _)
open SeqAt in
theorem xAlp:∀ (xs ys:List PyData),(∀ j,j<min xs.length ys.length->pairEq xs ys j=true)->ltDs xs ys=decide (xs.length<ys.length)
 | [],[],_=>rfl
 | [],_::_,_=>by simp [ltDs]
 | _::_,[],_=>by simp [ltDs]
 | x::xs,y::ys,h=>by
  have h':PyData.eqv x y=true:=h 0 (by simp);rw [ltDs,if_pos h',xAlp xs ys fun j hj=>h (j+1) (by simp only [List.length_cons];omega)]
  simp
theorem xAud:∀ (xs ys:List PyData) (i:Nat),i<xs.length->i<ys.length->sks xs ys=true->sk (xs.getD i .none) (ys.getD i .none)=true
 | x::xs,y::ys,0,_,_,h=>by rw [sks,zu] at h;exact h.1
 | x::xs,y::ys,i+1,h1,h2,h=>by
  rw [sks,zu] at h;exact xAud xs ys i (by simpa using h1) (by simpa using h2) h.2
 | [],_,_,h1,_,_=>absurd h1 (zc _)
 | _::_,[],_,_,h2,_=>absurd h2 (zc _)
theorem xAgz:∀ (xs:List PyData) (i:Nat),i<xs.length->(xs.getD i .none).depth≤PyData.depthAll xs
 | x::xs,0,_=>by show x.depth≤max x.depth _;omega
 | x::xs,i+1,h=>by
  have:=xAgz xs i (by simpa using h);show (xs.getD i .none).depth≤max x.depth (PyData.depthAll xs);omega
 | [],_,h=>absurd h (zc _)
theorem xAda {h:Heap}:∀ {vs:List Value} {ds:List PyData} {as:List Addr} {i:Nat} (hi:i<vs.length),ReadsAll h vs ds as->∃ bs,Reads h vs[i] (ds.getD i .none) bs
 | _,_,_,0,_,.cons r _=>⟨_,r⟩
 | _,_,_,i+1,hi,.cons _ t=>xAda (i:=i) (by simpa using hi) t
theorem xAib {ds:List PyData} {i:Nat} (h:PyData.canLayAll0 ds=true) (hi:i<ds.length):(ds.getD i .none).canLay0=true :=
 xAep (j:=i) h (by rw [qo,qi hi];rfl)
open SeqAt in
theorem xAlq:∀ (n:Nat) (da db:PyData) (A:Around) (s:Shared) (a b:Value) (as bs:List Addr),da.depth≤n->Reads s.heap a da as->Reads s.heap b db bs->da.canLay0=true->db.canLay0=true->sk da db=true->da≠.none →
  A.units+n<cLine->LtAt A s a b (ltD da db)
 | n,.int i,db,A,s,a,b,as,bs,_,ra,rb,_,_,hk,_,_=>by
  cases db <;> simp [sk] at hk;cases ra;cases rb;exact LtAt.ints _ _ _ _
 | n,.str i,db,A,s,a,b,as,bs,_,ra,rb,_,_,hk,_,_=>by
  cases db <;> simp [sk] at hk;cases ra;cases rb;exact LtAt.strs _ _ _ _
 | n,.bool i,db,A,s,a,b,as,bs,_,ra,rb,_,_,hk,_,_=>by
  cases db <;> simp [sk] at hk;cases ra;cases rb;exact LtAt.bools _ _
 | n,.none,db,A,s,a,b,as,bs,_,_,_,_,_,_,hn,_=>absurd rfl hn
 | n,.list _,db,A,s,a,b,as,bs,_,_,_,_,_,hk,_,_=>by cases db <;> simp [sk] at hk
 | n,.dict _,db,A,s,a,b,as,bs,_,_,_,_,_,hk,_,_=>by cases db <;> simp [sk] at hk
 | 0,.tuple xs,db,A,s,a,b,as,bs,hd,_,_,_,_,_,_,_=>by
  have:PyData.depthAll xs+1≤0:=hd;omega
 | n+1,.tuple xs,db,A,s,a,b,as,bs,hd,ra,rb,ca,cb,hk,_,hu=>by
  cases db with
  | tuple ys =>
   have hks:sks xs ys=true:=by simpa [sk] using hk
   have hd':PyData.depthAll xs≤n:=by
    have:PyData.depthAll xs+1≤n+1:=hd;omega
   cases ra with
   | tuple h1 h2 h3 h4 =>
    cases rb with
    | tuple k1 k2 k3 k4 =>
     rename_i l o us m b' o' vs m'
     have lx:=ReadsAll.length _ _ _ h4;have ly:=ReadsAll.length _ _ _ k4;rw [qy] at lx ly
     have e:ltD (.tuple xs) (.tuple ys)=ltDs xs ys:=by rw [ltD]
     rw [e]
     have eq':∀ j (g1:j<us.size) (g2:j<vs.size),EqAt A.in1 s us[j] vs[j] (pairEq xs ys j):=fun j g1 g2=>by
      obtain ⟨p1,r1⟩:=xAda (i:=j) (by rw [qy];exact g1) h4;obtain ⟨p2,r2⟩:=xAda (i:=j) (by rw [qy];exact g2) k4;have dj:=xAgz xs j (by omega);have:=eqAt_reads (xs.getD j .none) (ys.getD j .none) A.in1 s _ _ _ _ r1 r2 (xAib ca (by omega)) (xAib cb (by omega)) (by show A.units+1+_<cLine;omega)
      simp only [Array.getElem_toList] at this
      exact this
     refine LtAt.tuples ⟨_,h1,h2,_,h3⟩ ⟨_,k1,k2,_,k3⟩ (by omega) eq' (fun i g1 g2 hj hf=>?_) fun hj=>?_
     ·obtain ⟨p1,r1⟩:=xAda (i:=i) (by rw [qy];exact g1) h4
      obtain ⟨p2,r2⟩:=xAda (i:=i) (by rw [qy];exact g2) k4;rw [xApu xs ys i (by omega) (by omega) hj hf];have ski:=xAud xs ys i (by omega) (by omega) hks
      have:=xAlq n (xs.getD i .none) (ys.getD i .none) A.in1 s _ _ _ _ (qh (xAgz xs i (by omega)) hd') r1 r2 (xAib ca (by omega)) (xAib cb (by omega)) ski (fun z=>by
       have hf':PyData.eqv (xs.getD i .none) (ys.getD i .none)=false:=hf;rw [z] at ski hf'
       cases e2:ys.getD i .none <;> rw [e2] at ski hf' <;> simp [sk,PyData.eqv] at ski hf') (by show A.units+1+_<cLine;omega)
      simpa using this
     ·rw [xAlp xs ys fun j h=>hj j (by omega),lx,ly]
  | _=>simp [sk] at hk
end L2
namespace L2
open PySem PySem.Spec PySem.W PyProof.Rows
section
variable {prog:Program} {w:World} {A:Around} {E:Value->Shared->Prop} {s:Shared}
def Ext (h h':Heap):Prop:=∀ b o,h.get? b=some o->h'.get? b=some o
theorem Ext.trans {h h' h'':Heap} (a:Ext h h') (b:Ext h' h''):Ext h h'':=fun c o e=>b c o (a c o e)
theorem Ext.push (h:Heap) (o:Obj):Ext h (h.push o):=fun _ _ e=>Heap.get?_push_of_some _ e
theorem Ext.upd {h h':Heap} {a:Addr} {f:Obj->Obj} (x:Ext h h') (ha:h.objs.size≤a):Ext h (h'.update a f):=fun b o e=>by
 rw [Heap.get?_update_ne _ _ _ _ (qu (zn (Heap.lt_size e) ha))];exact x b o e
def Answers (prog:Program) (w:World) (A:Around) (s:Shared) (ks:List Value) (lt:Nat->Nat->Bool):Prop :=
 ∃ κ,(∀ (Q:SortKind->Shared->Prop),Q κ s->wpAny (model prog w) A (keyKind' ks.toArray) Q (fun _ _=>False) s)/\∀ i j C,i<ks.length->j<ks.length->C (lt i j) s->kas_ask prog w A κ ks i j C s
def Arr (n:Nat) (lt:Nat->Nat->Bool) (p:Array Nat):Prop:=p.Perm (List.toArray (List.range n))/\Srt.Up lt p n
theorem xAic {n:Nat} {lt:Nat->Nat->Bool} (W:Srt.Swo lt) (h:n<2):Arr n lt (List.toArray (List.range n)):=by
 refine ⟨.refl _,fun i j hij hj=>?_⟩
 have:i=j:=by omega
 subst this;exact W.irr _
def Few (lt:Nat->Nat->Bool) (n:Nat):Prop:=n<64\/True
theorem xAri {lt:Nat->Nat->Bool} (W:Srt.Swo lt) {q:Array Nat} {n:Nat} (hs:q.size=n) (h:Tim.Le lt q.toList):Srt.Up lt q n:=fun i j hij hj=>by
 by_cases e:i=j
 ·subst e;exact W.irr _
 ·have:=jp.mp h i j (by rw [qy];omega) (by rw [qy];omega) (by omega)
  have a:∀ k (hk:k<q.size),Srt.g q k=q.toList[k]'(by rw [Array.length_toList];exact hk):=fun k hk=>by unfold Srt.g;simp [Array.getD,hk]
  rw [a i (by omega),a j (by omega)];exact this
theorem xAlr {vs ks:List Value} {lt:Nat->Nat->Bool} (W:Srt.Swo lt) (hl:ks.length=vs.length) (_:Few lt vs.length) (h2:¬ vs.length<2) {κ:SortKind} (hq:∀ i j C,i<ks.length->j<ks.length->C (lt i j) s->kas_ask prog w A κ ks i j C s) {R:SortSt->Shared->Prop}
  (hR:∀ st p,Arr vs.length lt p->(arrOf st).map (·.2)=List.toArray (p.toList.map fun i=>vs.getD i Value.none)->failedOf st=none->R st s) :
  wpAny (model prog w) A ((sortRuns').run (SortSt.mk' κ (ks.toArray.zip vs.toArray) #[] 7 none)) (fun r s'=>R r.2 s') E s:=by
 have hz:(List.toArray (List.range vs.length)).size=vs.length:=by simp
 have hq':Tim.Ans prog w A s κ (ks.toArray.zip vs.toArray) vs.length lt:=fun i j C h1 h2 c=>by
  have:=hq i j C (by omega) (by omega) c;rw [kat_ask_eq hl] at this;exact this
 have hin:Tim.In vs.length (List.toArray (List.range vs.length)):=fun i hi=>by
  rw [hz] at hi;unfold Srt.g;rw [vz]
  simp [hi]
 have run:=Tim.runs_ok (E:=E) (Q:=fun _ st=>R st s) W hq' hin (by rw [hz];omega) fun q pd m pm le=>?_
 ·have est:SortSt.mk' κ (ks.toArray.zip vs.toArray) #[] 7 none=Tim.S κ (ks.toArray.zip vs.toArray) (List.toArray (List.range vs.length)) #[] 7:=by
   have e:=kas_range (ks.toArray.zip vs.toArray);rw [show (ks.toArray.zip vs.toArray).size=vs.length by simp [hl]] at e;rw [Tim.S,e]
  rw [est];refine wpAny_mono run (fun r s' h=>?_) fun _ _ e=>e;rw [h.1];exact h.2
 ·exact hR _ q ⟨pm,xAri W (by rw [pm.size_eq,hz]) le⟩ (kat_snds hl rfl) rfl
theorem xAdv {a:Addr} {vs:List Value} {n:Nat} {P:PySem.Fin->Shared->Prop} {lt:Nat->Nat->Bool} (W:Srt.Swo lt) (ho:s.heap.get? a=some (seqObj "list" vs.toArray n)) (hz2:vs.length≤2000) (h64:Few lt vs.length) {h0:Heap} (ha0:h0.objs.size≤a) (x0:Ext h0 s.heap)
  (hans:∀ h',Ext h0 h'->2≤vs.length->Answers prog w A { s with heap:=h' } vs lt)
  (h:∀ h' p c,Ext h0 h'->Arr vs.length lt p->h'.get? a=some (seqObj "list" (List.toArray (p.toList.map fun i=>vs.getD i Value.none)) c)->P (.done (.ret .none)) { s with heap:=h' }) :
  wpAny (model prog w) A (Builtin.«list.sort» ⟨[.ref a],[]⟩) P E s:=by
 obtain ⟨c1,o1⟩:∃ c1,(s.heap.update a (Obj.mapSeq fun _=>#[])).get? a=some (seqObj "list" #[] c1):=⟨_,get?_update_seq ho (fun _=>#[])⟩;have x1:Ext h0 (((s.heap.update a (Obj.mapSeq fun _=>#[])).push (seqObj "tuple" vs.toArray 0)).push (seqObj "list" #[] 0)):=(((x0.upd ha0).trans (.push _ _)).trans (.push _ _));have o3:(((s.heap.update a (Obj.mapSeq fun _=>#[])).push (seqObj "tuple" vs.toArray 0)).push (seqObj "list" #[] 0)).get? a=some (seqObj "list" #[] c1):=Heap.get?_push_of_some _ (Heap.get?_push_of_some _ o1)
 have zl:vs.length≤sizeLine:=by rw [sizeLine_eq];omega
 have last:∀ p,Arr vs.length lt p->∀ (out:Array Value),out=List.toArray (p.toList.map fun i=>vs.getD i Value.none)->out.size≤sizeLine+1/\P (.done (.ret .none)) { s with heap:=(((s.heap.update a (Obj.mapSeq fun _=>#[])).push (seqObj "tuple" vs.toArray 0)).push (seqObj "list" #[] 0)).update a (Obj.mapSeq fun _=>out) }:=fun p ar out eo=>by
  obtain ⟨c2,o2⟩:∃ c2,((((s.heap.update a (Obj.mapSeq fun _=>#[])).push (seqObj "tuple" vs.toArray 0)).push (seqObj "list" #[] 0)).update a (Obj.mapSeq fun _=>out)).get? a=some (seqObj "list" out c2):=⟨_,get?_update_seq o3 (fun _=>out)⟩;refine ⟨?_,h _ p c2 (x1.upd ha0) ar (by rw [← eo];exact o2)⟩;rw [eo,zd,qj,qy,ar.1.size_eq]
  simp
  omega
 rw [list_sort_plain];refine wpAny_bind (listItems_at ho rfl (wpAny_bind (listUpdate_at ho rfl (wpAny_bind (seqEpoch_at o1 rfl (wpAny_bind (wpAny_newTuple (wpAny_bind (wpAny_newList (wpAny_holding ?_) (zm _))) zl)))) (by rw [zd];exact zl) (zm _))));show wpAny (model prog w) A _ P E { s with heap:=((s.heap.update a (Obj.mapSeq fun _=>#[])).push (seqObj "tuple" vs.toArray 0)).push (seqObj "list" #[] 0) };dsimp only
 by_cases h2:vs.toArray.size<2
 ·rw [if_pos h2,if_pos h2]
  have h2':vs.length<2:=by simpa using h2
  have l:=last _ (xAic W h2') (vs.toArray) (by
   apply je.mp
   simp only [List.toList_toArray]
   apply wp;intro i
   by_cases hi:i<vs.length
   ·simp [hi]
   ·simp [hi])
  refine wpAny_bind (wpAny_pure ?_);rw [StateT.run_pure];refine wpAny_bind (wpAny_pure ?_);dsimp only
  have e1:(arrOf (SortSt.mk' general' (vs.toArray.zip vs.toArray) #[] 7 none)).map (·.2)=vs.toArray:=by
   apply je.mp;show ((vs.toArray.zip vs.toArray).map (·.2)).toList=vs;rw [Array.toList_map,Array.toList_zip];exact List.map_snd_zip (qg _)
  rw [e1];refine wpAny_bind (seqEpoch_at o3 rfl (wpAny_bind (listUpdate_at o3 rfl ?_ (zm _) l.1)))
  simp only [bne_self_eq_false,Bool.false_eq_true,if_false]
  exact wpAny_pure l.2
 ·rw [if_neg h2,if_neg h2]
  have h2':¬ vs.length<2:=by simpa using h2
  obtain ⟨κ,hk,hq⟩:=hans _ x1 (by omega);refine wpAny_bind (wpAny_mono (hk (fun k s'=>k=κ/\s'={ s with heap:=((s.heap.update a (Obj.mapSeq fun _=>#[])).push (seqObj "tuple" vs.toArray 0)).push (seqObj "list" #[] 0) }) ⟨rfl,rfl⟩) ?_ fun _ _ z=>z.elim);rintro k s' ⟨rfl,rfl⟩;refine wpAny_bind (wpAny_mono (xAlr (E:=E) (R:=fun st s'=>s'={ s with heap:=((s.heap.update a (Obj.mapSeq fun _=>#[])).push (seqObj "tuple" vs.toArray 0)).push (seqObj "list" #[] 0) }/\∃ p,Arr vs.length lt p/\(arrOf st).map (·.2)=List.toArray (p.toList.map fun i=>vs.getD i Value.none)/\failedOf st=none) W rfl h64 h2' hq fun st p a1 a2 a3=>⟨rfl,p,a1,a2,a3⟩) ?_ fun _ _ z=>z);rintro ⟨⟨⟩,st⟩ s' ⟨rfl,p,ar,eo,hf⟩;have l:=last p ar _ eo;dsimp only;refine wpAny_bind (seqEpoch_at o3 rfl (wpAny_bind (listUpdate_at o3 rfl ?_ (zm _) l.1)));rw [hf]
  simp only [bne_self_eq_false,Bool.false_eq_true,if_false]
  exact wpAny_pure l.2
theorem xAof {l:Addr} {vs:List Value} {Q:Value->Shared->Prop} {lt:Nat->Nat->Bool} (W:Srt.Swo lt) (hl:s.heap.IsList l vs.toArray) (hz2:vs.length≤2000) (h64:Few lt vs.length)
  (hans:∀ h',Ext s.heap h'->2≤vs.length->Answers prog w A.in1.in1 { s with heap:=h' } vs lt)
  (h:∀ h' a p c,Ext s.heap h'->s.heap.objs.size≤a->Arr vs.length lt p->h'.get? a=some (seqObj "list" (List.toArray (p.toList.map fun i=>vs.getD i Value.none)) c)->Q (.ref a) { s with heap:=h' }) :
  wpAny (model prog w) A (call (.builtin "sorted") [.ref l]) Q E s:=by
 have zl:vs.length≤sizeLine:=by rw [sizeLine_eq];omega
 refine Calls.call_function_entry kind_sorted plain_sorted entry_sorted (args_sorted1 _) ?_;unfold Builtin.«sorted»;refine wpAny_bind (m:=checkCount "sorted" 1 1 _) (wpAny_pure (wpAny_bind (collect_list hl (wpAny_bind (wpAny_newList ?_ zl)) zl)));have hsz:((s.heap.push (seqObj "list" #[] 0)).update s.heap.objs.size (Obj.mapSeq (·++vs.toArray))).objs.size=s.heap.objs.size+1:=(Heap.size_update _ _ _).trans (size_push' _ _);have x1:Ext s.heap (((s.heap.push (seqObj "list" #[] 0)).update s.heap.objs.size (Obj.mapSeq (·++vs.toArray))).push (seqObj "list" vs.toArray 0)):=((Ext.push _ _).upd (qg _)).trans (.push _ _);have o1:(((s.heap.push (seqObj "list" #[] 0)).update s.heap.objs.size (Obj.mapSeq (·++vs.toArray))).push (seqObj "list" vs.toArray 0)).get? (s.heap.objs.size+1)=some (seqObj "list" vs.toArray 0):=hsz▸Heap.get?_push_size _ rfl;show wpAny (model prog w) _ _ _ _ { s with heap:=((s.heap.push (seqObj "list" #[] 0)).update s.heap.objs.size (Obj.mapSeq (·++vs.toArray))).push (seqObj "list" vs.toArray 0) };rw [hsz];refine wpAny_bind (wpAny_holding (wpAny_call_entry slot_list_sort ⟨_,o1,rfl⟩ entry_list_sort (xAdv W o1 hz2 h64 (h0:=s.heap) (vi _) x1 hans fun h' p c x ar e=>?_) (args_list_sort _)));exact ⟨_,rfl,wpAny_pure ⟨_,rfl,h h' _ p c x (vi _) ar e⟩⟩
end
theorem xAbp {n:Nat} (h:n≤2000):n<sizeLine:=y0 h (by decide)
def isK:Nat->PyData->Prop
 | 0,.int _=>True
 | 1,.str _=>True
 | 2,.tuple (.int _::_)=>True
 | 3,.tuple (.str _::_)=>True
 | 4,.tuple (.tuple _::_)=>True
 | _,_=>False
theorem xAue (t:Nat) (d:PyData):¬ isK (t+5) d:=by
 intro h
 cases d with
 | tuple xs =>
  cases xs with
  | nil=>exact h
  | cons x xs=>cases x <;> exact h
 | _=>exact h
section
variable {prog:Program} {w:World} {A:Around} {s:Shared}
theorem xArj {x y:Value} {c:Bool} (h:LtAt A s x y c) {Q:Bool->Shared->Prop} {E:Value->Shared->Prop} (q:Q c s):wpAny (model prog w) A (oneLt' false x y) Q E s :=
 kat_one x y (h prog w E _ q)
theorem katlex {b fin:Bool} {Q:Bool->Shared->Prop}:∀ (us vs:List Value) (xs ys:List PyData) (as bs:List Addr) (i:Nat),ReadsAll s.heap us xs as->ReadsAll s.heap vs ys bs->PyData.canLayAll0 xs=true->PyData.canLayAll0 ys=true->sks xs ys=true →
  PyData.depthAll xs≤60->A.units+60<cLine->(i=0->b=true->(∃ p q r r',xs=.int p::r/\ys=.int q::r')\/∃ p q r r',xs=.str p::r/\ys=.str q::r')->fin=decide (us.length<vs.length)->Q (ltDs xs ys) s->KatLex prog w A b fin Q (us.zip vs) i s:=by
 intro us
 induction us with
 | nil =>
  intro vs xs ys as bs i ra rb _ _ _ _ _ _ hf q;cases ra;have ly:=SeqAt.ReadsAll.length _ _ _ rb;show Q fin s;rw [hf]
  cases ys with
  | nil=>rw [vm] at ly ⊢;rw [ly];exact q
  | cons y ys=>rw [ly];exact q
 | cons u us ih =>
  intro vs xs ys as bs i ra rb ca cb hk hd hu h0 hf q
  cases vs with
  | nil =>
   cases rb;cases ra;show Q fin s;rw [hf];exact q
  | cons v vs =>
   cases ra with
   | @cons _ _ x xs _ _ r1 t1 =>
    cases rb with
    | @cons _ _ y ys _ _ r2 t2 =>
     have ca':(x.canLay0&&PyData.canLayAll0 xs)=true:=ca;have cb':(y.canLay0&&PyData.canLayAll0 ys)=true:=cb;rw [zu] at ca' cb';rw [sks,zu] at hk
     have hdx:x.depth≤60/\PyData.depthAll xs≤60:=by
      have:max x.depth (PyData.depthAll xs)≤60:=hd;omega
     have eq':=SeqAt.eqAt_reads x y A s u v _ _ r1 r2 ca'.1 cb'.1 (by omega);refine kat_cons (eq' prog w _ _ ?_)
     cases e:PyData.eqv x y with
     | true =>
      rw [ltDs,if_pos e] at q;refine kat_yes (ih vs xs ys _ _ (i+1) t1 t2 ca'.2 cb'.2 hk.2 hdx.2 hu (fun z=>by omega) ?_ q);rw [hf]
      simp
     | false =>
      rw [ltDs,if_neg (by rw [e];decide)] at q;refine kat_no ?_
      by_cases hb:(b&&i==0)=true
      ·rw [hb]
       rw [zu] at hb;rcases h0 (by simpa using hb.2) hb.1 with ⟨p,p',r,r',e1,e2⟩ | ⟨p,p',r,r',e1,e2⟩
       ·cases e1;cases e2
        cases r1;cases r2;exact oneLt_int q
       ·cases e1;cases e2
        cases r1;cases r2;exact oneLt_str q
      ·rw [Bool.not_eq_true] at hb
       rw [hb]
       exact xArj (xAlq 60 x y A s u v _ _ hdx.1 r1 r2 ca'.1 cb'.1 hk.1 (fun z=>by
        subst z;have:=hk.1
        cases y <;> simp [sk,PyData.eqv] at this e) hu) q
theorem xAid {s:Shared}:∀ {vs:List Value} {ds:List PyData} {as:List Addr},ReadsAll s.heap vs ds as->(∀ d∈ds,∃ f r,d=.tuple (f::r))->∃ fs,KatTups s.heap vs fs/\fs.length=vs.length/\∀ v∈fs,∃ f r bs,PyData.tuple (f::r)∈ds/\Reads s.heap v f bs
 | [],_,_,.nil,_=>⟨[],trivial,rfl,fun _ z=>nomatch z⟩
 | v::vs,_,_,.cons (d:=d) (ds:=ds) r t,h=>by
  obtain ⟨fs,k1,k2,k3⟩:=xAid t fun x hx=>h x (qr _ hx);obtain ⟨f,r',e⟩:=h d qp;subst e
  cases r with
  | tuple h1 h2 h3 h4 =>
   rename_i a o us n
   cases e:us.toList with
   | nil=>rw [e] at h4;cases h4
   | cons u ut =>
    rw [e] at h4
    cases h4 with
    | cons q1 q2 =>
     refine ⟨u::fs,KatTups.cons h1 h2 h3 (by rw [← z6,e];rfl) k1,by rw [qx,qx,k2],fun v hv=>?_⟩;rcases qw.mp hv with rfl | hv
     ·exact ⟨f,r',_,qp,q1⟩
     ·obtain ⟨f',r'',bs,m,q⟩:=k3 v hv
      exact ⟨f',r'',bs,qr _ m,q⟩
def keyAt (ds:List PyData) (i:Nat):PyData:=ds.getD i (ds.headD .none)
theorem xAie {ds:List PyData} (h:ds≠[]) (i:Nat):keyAt ds i∈ds:=by
 unfold keyAt;rw [qo]
 cases e:ds[i]? with
 | some x=>exact zk e
 | none =>
  cases ds with
  | nil=>exact absurd rfl h
  | cons a b=>exact qp
def ltK (ds:List PyData) (i j:Nat):Bool:=ltD (keyAt ds i) (keyAt ds j)
theorem xArk {ds:List PyData} (h:∀ a∈ds,∀ b∈ds,sk a b=true):Srt.Swo (ltK ds):=by
 by_cases e:ds=[]
 ·subst e
  exact ⟨fun _=>rfl,fun _ _ _ z=>(by cases z),fun _ _ _ z=>(by cases z)⟩
 ·have m:=xAie e
  exact ⟨fun _=>xAer _,fun a b c=>xArh _ _ _ (h _ (m a) _ (m b)) (h _ (m b) _ (m c)) (h _ (m a) _ (m c)),fun a b c=>xAuc _ _ _ (h _ (m a) _ (m b)) (h _ (m b) _ (m c)) (h _ (m a) _ (m c))⟩
structure KeysAre (ds:List PyData) (t:Nat):Prop where
 lay:PyData.canLayAll0 ds=true
 kind:∀ d∈ds,isK t d
 one:∀ a∈ds,∀ b∈ds,sk a b=true
 deep:∀ d∈ds,d.depth≤60
theorem xArl {h:Heap} {v:Value} {i:Int} {as:List Addr} (r:Reads h v (.int i) as):∃ t,v=.int i t:=by cases r;exact ⟨_,rfl⟩
theorem xArm {h:Heap} {v:Value} {i:Str} {as:List Addr} (r:Reads h v (.str i) as):∃ t,v=.str i t:=by cases r;exact ⟨_,rfl⟩
theorem xAuf {h:Heap} {v:Value} {xs:List PyData} {as:List Addr} (r:Reads h v (.tuple xs) as):∃ a o vs n,v=.ref a/\h.get? a=some o/\o.cls=.type "tuple" /\ o.data=.seq vs n/\ReadsAll h vs.toList xs as:=by
 cases r with
 | tuple x1 x2 x3 x4=>exact ⟨_,_,_,_,rfl,x1,x2,x3,x4⟩
theorem isK_0 {d:PyData} (h:isK 0 d):∃ i,d=.int i:=by cases d <;> first | exact ⟨_,rfl⟩ | exact h.elim
theorem isK_1 {d:PyData} (h:isK 1 d):∃ i,d=.str i:=by cases d <;> first | exact ⟨_,rfl⟩ | exact h.elim
theorem isK_t {t:Nat} {d:PyData} (h:isK t d) (ht:2≤t):∃ f r,d=.tuple (f::r):=by
 unfold isK at h
 split at h <;> first | exact ⟨_,_,rfl⟩ | omega | exact h.elim
theorem isK_2 {d:PyData} (h:isK 2 d):∃ p r,d=.tuple (.int p::r):=by
 obtain ⟨f,r,rfl⟩:=isK_t h (by decide)
 cases f <;> first | exact ⟨_,_,rfl⟩ | exact h.elim
theorem isK_3 {d:PyData} (h:isK 3 d):∃ p r,d=.tuple (.str p::r):=by
 obtain ⟨f,r,rfl⟩:=isK_t h (by decide)
 cases f <;> first | exact ⟨_,_,rfl⟩ | exact h.elim
theorem isK_4 {d:PyData} (h:isK 4 d):∃ p r,d=.tuple (.tuple p::r):=by
 obtain ⟨f,r,rfl⟩:=isK_t h (by decide)
 cases f <;> first | exact ⟨_,_,rfl⟩ | exact h.elim
theorem xAdw {ks:List Value} {ds:List PyData} {as:List Addr} {t:Nat} (r:ReadsAll s.heap ks ds as) (K:KeysAre ds t) (h2:2≤ks.length) (hu:A.units+60<cLine):Answers prog w A s ks (ltK ds):=by
 have hl:=SeqAt.ReadsAll.length _ _ _ r
 have look:∀ i,i<ks.length->∃ bs,Reads s.heap (ks.getD i Value.none) (keyAt ds i) bs/\keyAt ds i∈ds:=fun i hi=>by
  obtain ⟨bs,q⟩:=xAda hi r
  have e1:ks.getD i Value.none=ks[i]:=by simp [hi]
  have e2:keyAt ds i=ds.getD i .none:=by
   have hi':i<ds.length:=by omega
   unfold keyAt;rw [qo,qo,qi hi'];rfl
  refine ⟨bs,by rw [e1,e2];exact q,xAie (fun z=>?_) i⟩;rw [z,vm] at hl;omega
 have memo:∀ v∈ks,∃ d bs,d∈ds/\Reads s.heap v d bs:=fun v hv=>by
  obtain ⟨i,hi,e⟩:=wk.mp hv;obtain ⟨bs,q,m⟩:=look i hi;exact ⟨_,bs,m,by rw [← e];simpa [hi] using q⟩
 have lays:∀ d∈ds,d.canLay0=true:=fun d hd=>by
  obtain ⟨i,hi,e⟩:=wk.mp hd;exact xAep (j:=i) K.lay (by rw [qi hi,e])
 have tups:(∀ d∈ds,∃ f r,d=.tuple (f::r))->(T:Value)->(∀ v f bs r,Reads s.heap v f bs->PyData.tuple (f::r)∈ds->Looks (model prog w) s.heap (typeOf v) T)->(T==T)=true →
   ((T != Value.type "tuple")=true->∀ d∈ds,∀ d'∈ds,(∃ p q r r',d=.tuple (.int p::r)/\d'=.tuple (.int q::r'))\/∃ p q r r',d=.tuple (.str p::r)/\d'=.tuple (.str q::r'))->Answers prog w A s ks (ltK ds):=fun h1 T h2' h3 h4=>by
  obtain ⟨fs,k1,k2,k3⟩:=xAid r h1;refine ⟨tuples' (T != Value.type "tuple"),fun Q q=>kat_kind k1 (by omega) (fun v hv=>?_) h3 q,fun i j C hi hj c=>?_⟩
  ·obtain ⟨f,r',bs,m,q⟩:=k3 v hv
   exact h2' v f bs r' q m
  ·obtain ⟨b1,q1,m1⟩:=look i hi
   obtain ⟨b2,q2,m2⟩:=look j hj;unfold ltK at c;obtain ⟨f1,r1,e1⟩:=h1 _ m1;obtain ⟨f2,r2,e2⟩:=h1 _ m2;have d1:=K.deep _ m1;have kk:=K.one _ m1 _ m2;have lay1:=lays _ m1;have lay2:=lays _ m2;have hb:=fun z=>h4 z _ m1 _ m2;rw [e1] at q1 d1 kk lay1 hb c;rw [e2] at q2 kk lay2 hb c;unfold kas_ask;obtain ⟨a1,o1,v1,n1,ev1,x1,x2,x3,x4⟩:=xAuf q1;obtain ⟨a2,o2,v2,n2,ev2,y1,y2,y3,y4⟩:=xAuf q2;rw [ev1,ev2];refine kat_lt x1 x3 y1 y3 (katlex _ _ _ _ _ _ 0 x4 y4 lay1 lay2 (by simpa [sk] using kk) ?_ hu (fun _ z=>?_) (by simp) (by rw [ltD] at c;exact c))
   ·have:PyData.depthAll (f1::r1)+1≤60:=d1
    omega
   ·rcases hb z with ⟨p,q,r,r',g1,g2⟩ | ⟨p,q,r,r',g1,g2⟩
    ·exact .inl ⟨p,q,r,r',PyData.tuple.inj g1,PyData.tuple.inj g2⟩
    ·exact .inr ⟨p,q,r,r',PyData.tuple.inj g1,PyData.tuple.inj g2⟩
 match t,K.kind with
 | 0,hk =>
  refine ⟨oneType',fun Q q=>kas_kind (T:=Value.type "int") h2 (fun v hv=>?_) rfl rfl q,fun i j C hi hj c=>?_⟩
  ·obtain ⟨d,bs,m,q⟩:=memo v hv
   obtain ⟨_,rfl⟩:=isK_0 (hk d m);obtain ⟨_,rfl⟩:=xArl q;exact Looks.of_pure rfl
  ·obtain ⟨b1,q1,m1⟩:=look i hi
   obtain ⟨b2,q2,m2⟩:=look j hj;unfold ltK at c;unfold kas_ask;obtain ⟨_,e1⟩:=isK_0 (hk _ m1);obtain ⟨_,e2⟩:=isK_0 (hk _ m2);rw [e1] at q1 c;rw [e2] at q2 c;obtain ⟨_,ev1⟩:=xArl q1;obtain ⟨_,ev2⟩:=xArl q2;rw [ev1,ev2,keyLt'_oneType];exact oneLt_int c
 | 1,hk =>
  refine ⟨oneType',fun Q q=>kas_kind (T:=Value.type "str") h2 (fun v hv=>?_) rfl rfl q,fun i j C hi hj c=>?_⟩
  ·obtain ⟨d,bs,m,q⟩:=memo v hv
   obtain ⟨_,rfl⟩:=isK_1 (hk d m);obtain ⟨_,rfl⟩:=xArm q;exact Looks.of_pure rfl
  ·obtain ⟨b1,q1,m1⟩:=look i hi
   obtain ⟨b2,q2,m2⟩:=look j hj;unfold ltK at c;unfold kas_ask;obtain ⟨_,e1⟩:=isK_1 (hk _ m1);obtain ⟨_,e2⟩:=isK_1 (hk _ m2);rw [e1] at q1 c;rw [e2] at q2 c;obtain ⟨_,ev1⟩:=xArm q1;obtain ⟨_,ev2⟩:=xArm q2;rw [ev1,ev2,keyLt'_oneType];exact oneLt_str c
 | 2,hk =>
  have sh:∀ d∈ds,∃ p r,d=.tuple (.int p::r):=fun d hd=>isK_2 (hk d hd);refine tups (fun d hd=>let ⟨p,r,e⟩:=sh d hd;⟨_,r,e⟩) (Value.type "int") (fun v f bs r' q m=>?_) rfl fun _ d hd d' hd'=>?_
  ·obtain ⟨p,r2,e⟩:=sh _ m
   cases e;cases q;exact Looks.of_pure rfl
  ·obtain ⟨p,r1,e1⟩:=sh d hd
   obtain ⟨q,r2,e2⟩:=sh d' hd';exact .inl ⟨p,q,r1,r2,e1,e2⟩
 | 3,hk =>
  have sh:∀ d∈ds,∃ p r,d=.tuple (.str p::r):=fun d hd=>isK_3 (hk d hd);refine tups (fun d hd=>let ⟨p,r,e⟩:=sh d hd;⟨_,r,e⟩) (Value.type "str") (fun v f bs r' q m=>?_) rfl fun _ d hd d' hd'=>?_
  ·obtain ⟨p,r2,e⟩:=sh _ m
   cases e;cases q;exact Looks.of_pure rfl
  ·obtain ⟨p,r1,e1⟩:=sh d hd
   obtain ⟨q,r2,e2⟩:=sh d' hd';exact .inr ⟨p,q,r1,r2,e1,e2⟩
 | 4,hk =>
  have sh:∀ d∈ds,∃ p r,d=.tuple (.tuple p::r):=fun d hd=>isK_4 (hk d hd)
  refine tups (fun d hd=>let ⟨p,r,e⟩:=sh d hd;⟨_,r,e⟩) (Value.type "tuple") (fun v f bs r' q m=>?_) rfl fun z=>absurd z (by decide)
  obtain ⟨p,r2,e⟩:=sh _ m;cases e
  cases q with
  | tuple h1 h2 h3 h4 =>
   have:=(Looks.ld (M:=model prog w) (part:=none) h1);rw [← h2];exact (Looks.ld h1).andThen .now
 | t+5,hk =>
  exfalso;obtain ⟨bs,q,m⟩:=look 0 (by omega);exact xAue t _ (hk _ m)
end
def SortIx (ds:List PyData) (ix:List Nat):Prop:=ix.Perm (List.range ds.length)/\(ix.map (keyAt ds)).Pairwise fun a b=>ltD b a=false
theorem xAfg {ds:List PyData} {p:Array Nat} (h:Arr ds.length (ltK ds) p):SortIx ds p.toList:=by
 have hs:p.size=ds.length:=by rw [h.1.size_eq];simp
 refine ⟨by simpa using h.1.toList,?_⟩;rw [jp];intro i j hi hj hij;rw [qj,qy] at hi hj;have:=h.2 i j (by omega) (by omega);unfold ltK Srt.g at this;rw [gt,gt];simpa [Array.getD,hi,hj] using this
theorem xAfh {ys:List V} {us:List Value} (r:Vals ys us) (ix:List Nat) (h:∀ i∈ix,i<ys.length):Vals (ix.map fun i=>ys.getD i .non) (ix.map fun i=>us.getD i Value.none):=by
 induction ix with
 | nil=>exact .nil
 | cons i ix ih =>
  have hi:=h i qp;obtain ⟨u,hu,ru⟩:=r.get (i:=i) (x:=ys[i]) (qi hi);refine .cons ?_ (ih fun j hj=>h j (qr _ hj));show RelV (ys.getD i .non) (us.getD i Value.none);rw [qo,qo,hu,qi hi];exact ru
def rSortD (K:PySem.W.Frag):List V->Hp->VK->Prop:=fun xs H Q=>∃ p ys ds t,xs=[.ref p]/\SqL K H p ys/\DVs K H ys ds/\KeysAre ds t/\ys.length<64 ∧
 ∀ q H' ix,H q=none->Same H H'->SortIx ds ix->H' q=some (.lst (ix.map fun i=>ys.getD i .non))->Q (.ref q) H'
theorem xAdx {K:PySem.W.Frag} {H:Hp}:∀ {xs:List V} {ds:List PyData},DVs K H xs ds->xs.length=ds.length
 | _,_,.nil=>rfl
 | _,_,.cons _ t=>by rw [qx,qx,xAdx t]
mutual
theorem xAog {h h':Heap} (x:Ext h h'):∀ {v:Value} {d:PyData} {as:List Addr},Reads h v d as->Reads h' v d as
 | _,_,_,.none=>.none
 | _,_,_,.bool b=>.bool b
 | _,_,_,.int i t=>.int i t
 | _,_,_,.str z t=>.str z t
 | _,_,_,.list h1 h2 h3 h4=>.list (x _ _ h1) h2 h3 (xAbj x h4)
 | _,_,_,.tuple h1 h2 h3 h4=>.tuple (x _ _ h1) h2 h3 (xAbj x h4)
 | _,_,_,.dict h1 h2 h3 h4 h5=>.dict (x _ _ h1) h2 h3 (xAbj x h4) (xAbj x h5)
theorem xAbj {h h':Heap} (x:Ext h h'):∀ {v:List Value} {d:List PyData} {as:List Addr},ReadsAll h v d as->ReadsAll h' v d as
 | _,_,_,.nil=>.nil
 | _,_,_,.cons a b=>.cons (xAog x a) (xAbj x b)
end
section
variable {X:Cx}
theorem xAcl (hu:X.A.units+3+61<cLine):CallR X (.builtin "sorted") (rSortD X.K):=by
 intro pins s σ H xs us Q I r h;obtain ⟨p,ys,ds,t,rfl,hq,hd,hk,h64,q⟩:=h;obtain ⟨u,rfl,ru⟩:=vals1 r;cases ru;obtain ⟨its,rv,pl,hz⟩:=I.list hq;have hl:=rv.length;have hdl:=xAdx hd;obtain ⟨as,ra⟩:=hd.reads I rv;refine xAof (vs:=its) (lt:=ltK ds) (xArk hk.one) pl.isList (by omega) (.inl (by omega)) (fun h' x h2=>?_) fun h' a pm c x ha ar e=>?_
 ·exact xAdw (xAbj x ra) hk h2 (by show X.A.units+1+1+60<cLine;omega)
 ·have hix:∀ i∈pm.toList,i<ys.length:=fun i hi=>by
   have:=(ar.1.toList.mem_iff).mp hi
   simp at this
   omega
  refine ⟨.ref a,upd H a (.lst (pm.toList.map fun i=>ys.getD i .non)),I.laid x ha ⟨?_,_,c,xAfh rv _ hix,e⟩,rfl,q a _ pm.toList (I.hok.fresh ha) (Same.new (I.hok.fresh ha)) (xAfg (by rw [← hdl,hl];exact ar)) xAae⟩;rw [qj,qy,ar.1.size_eq]
  simp
  omega
end
section
variable {P:Program} {w:World} {A:Around} {E:Value->Shared->Prop} {s:Shared}
def IsTwo (P:Program) (w:World) (h:Heap) (ks ls:List Key) (a:Addr):Prop:=∃ o c d n,h.get? a=some o/\o.cls=.type "tuple" /\ o.data=.seq #[.ref c,.ref d] n/\(tupleKind (mixKind P w)).is h ks c/\(tupleKind (mixKind P w)).is h ls d
def GIs (P:Program) (w:World) (h:Heap):KD->Value->Prop
 | .non,v=>v=.none
 | .int i,v=>∃ t,v=.int i t
 | .tup ks,v=>∃ a,v=.ref a/\(tupleKind (mixKind P w)).is h ks a
 | .two ks ls,v=>∃ a,v=.ref a/\IsTwo P w h ks ls a
def gDraws (P:Program) (w:World):KD->Nat
 | .non=>1
 | .int _=>1
 | .tup ks=>(tupleKind (mixKind P w)).draws ks
 | .two ks ls=>(tupleKind (mixKind P w)).draws ks+(tupleKind (mixKind P w)).draws ls+1
theorem xApv {h:Heap} {a:Addr} {ks ls ks' ls':List Key} (x:IsTwo P w h ks ls a) (y:IsTwo P w h ks' ls' a):ks=ks'/\ls=ls':=by
 obtain ⟨o,c,d,n,h1,h2,h3,h4,h5⟩:=x;obtain ⟨o',c',d',n',k1,k2,k3,k4,k5⟩:=y;rw [h1] at k1;cases k1;rw [h3] at k3;injection k3 with e _
 have e1:c=c':=by have:=congrArg (fun z:Array Value=>z[0]?) e;simpa using this
 have e2:d=d':=by have:=congrArg (fun z:Array Value=>z[1]?) e;simpa using this
 subst e1 e2;exact ⟨(tupleKind (mixKind P w)).inj h4 k4,(tupleKind (mixKind P w)).inj h5 k5⟩
theorem xAif {h:Heap} {a:Addr} {ks ls js:List Key} (x:IsTwo P w h ks ls a) (y:(tupleKind (mixKind P w)).is h js a):False:=by
 obtain ⟨o,c,d,n,h1,h2,h3,h4,h5⟩:=x;obtain ⟨o',its,n',k1,k2,k3,k4⟩:=y;rw [h1] at k1;cases k1;rw [h3] at k3;injection k3 with e _;subst e;have:=k4.byValue (.ref c) (by simp);cases this
theorem xAls {P':Program} {w':World} {ks:List Key} {vs:List Value} (x:ItemsAre (mixKind P w) ks vs):ItemsAre (mixKind P' w') ks vs:=by
 induction x with
 | nil=>exact .nil
 | cons h _ ih=>exact .cons h ih
theorem xAig {P':Program} {w':World} {h:Heap} {ks:List Key} {a:Addr} (x:(tupleKind (mixKind P w)).is h ks a):(tupleKind (mixKind P' w')).is h ks a:=by
 obtain ⟨o,its,n,h1,h2,h3,h4⟩:=x;exact ⟨o,its,n,h1,h2,h3,xAls h4⟩
theorem xAih {ks ls:List Key} {a b:Addr} (hu:A.units<cLine) (x:(tupleKind (mixKind P w)).is s.heap ks a) (y:(tupleKind (mixKind P w)).is s.heap ls b):SeqAt.EqAt A s (.ref a) (.ref b) (decide (ks=ls)):=fun P' w' E Q q=>(tupleKind (mixKind P' w')).eqBool hu (xAig x) (xAig y) q
theorem IsTwo.tuple {h:Heap} {ks ls:List Key} {a:Addr} (x:IsTwo P w h ks ls a):∃ c d,h.IsTuple a #[.ref c,.ref d]/\(tupleKind (mixKind P w)).is h ks c/\(tupleKind (mixKind P w)).is h ls d:=by
 obtain ⟨o,c,d,n,h1,h2,h3,h4,h5⟩:=x;exact ⟨c,d,⟨o,h1,h2,n,h3⟩,h4,h5⟩
theorem xAbx {h:Heap} {ks:List Key} {a:Addr} (x:(tupleKind (mixKind P w)).is h ks a):∃ its,h.IsTuple a its/\ItemsAre (mixKind P w) ks its.toList:=by
 obtain ⟨o,its,n,h1,h2,h3,h4⟩:=x;exact ⟨its,⟨o,h1,h2,n,h3⟩,h4⟩
theorem xArn {ks ls ks' ls':List Key} {a b:Addr} (hu:A.units+1<cLine) (x:IsTwo P w s.heap ks ls a) (y:IsTwo P w s.heap ks' ls' b):SeqAt.EqAt A s (.ref a) (.ref b) (decide (KD.two ks ls=KD.two ks' ls')):=by
 by_cases hab:a=b
 ·subst hab
  obtain ⟨rfl,rfl⟩:=xApv x y;rw [decide_eq_true rfl];exact SeqAt.EqAt.same _
 ·obtain ⟨c,d,t1,h1,h2⟩:=x.tuple
  obtain ⟨c',d',t2,k1,k2⟩:=y.tuple
  have e:decide (KD.two ks ls=KD.two ks' ls')=((List.range (min (#[Value.ref c,.ref d]:Array Value).size (#[Value.ref c',.ref d']:Array Value).size)).all (fun j=>if j=0 then decide (ks=ks') else decide (ls=ls'))&&(#[Value.ref c,.ref d]:Array Value).size==(#[Value.ref c',.ref d']:Array Value).size):=by
   show _=((if 0=0 then decide (ks=ks') else decide (ls=ls'))&&((if 1=0 then decide (ks=ks') else decide (ls=ls'))&&true)&&true);rw [if_pos rfl,if_neg (by decide),Bool.and_true,Bool.and_true,yg]
   simp
  rw [e];refine SeqAt.EqAt.of_refs hab (SeqAt.RcAt.tuples t1 t2 (by omega) fun j j1 j2=>?_)
  match j,j1,j2 with
  | 0,_,_=>exact xAih (show A.in1.units<cLine from hu) h1 k1
  | 1,_,_=>exact xAih (show A.in1.units<cLine from hu) h2 k2
theorem all_no {n m:Nat} (h:0<m):((List.range (min m n)).all (fun _=>false)&&m==n)=false:=by
 by_cases e:m=n
 ·subst e
  rw [Nat.min_self]
  cases m with
  | zero=>omega
  | succ m=>rw [jv];rfl
 ·rw [show (m==n)=false from beq_eq_false_iff_ne.mpr e,j7]
theorem xAug {n m:Nat} (h:0<m):((List.range (min n m)).all (fun _=>false)&&n==m)=false:=by
 by_cases e:n=m
 ·subst e
  rw [Nat.min_self]
  cases n with
  | zero=>omega
  | succ m=>rw [jv];rfl
 ·rw [show (n==m)=false from beq_eq_false_iff_ne.mpr e,j7]
theorem xAgd {ks:List Key} {vs:List Value} (x:ItemsAre (mixKind P w) ks vs):∀ (j:Nat) v,vs[j]?=some v->(∃ i t,v=.int i t)\/∃ z t,v=.str z t:=by
 induction x with
 | nil=>intro j v e;cases e
 | cons h _ ih =>
  intro j v e
  cases j with
  | zero =>
   cases e;rcases xAap (show keyIs _ _=true from h) with ⟨i,t,_,e⟩ | ⟨z,t,_,e⟩
   ·exact .inl ⟨i,t,e⟩
   ·exact .inr ⟨z,t,e⟩
  | succ j=>exact ih j v (by simpa using e)
theorem xAjn {ks ls js:List Key} {a b:Addr} (hu:A.units+1<cLine) (x:IsTwo P w s.heap ks ls a) (y:(tupleKind (mixKind P w)).is s.heap js b):SeqAt.EqAt A s (.ref a) (.ref b) false:=by
 have hab:a≠b:=fun z=>by subst z;exact xAif x y
 obtain ⟨c,d,t1,h1,h2⟩:=x.tuple;obtain ⟨its,t2,k1⟩:=xAbx y;have e:false=((List.range (min (#[Value.ref c,.ref d]:Array Value).size its.size)).all (fun _=>false)&&(#[Value.ref c,.ref d]:Array Value).size==its.size):=(all_no (m:=2) (by decide)).symm;rw [e];refine SeqAt.EqAt.of_refs hab (SeqAt.RcAt.tuples t1 t2 (by omega) fun j j1 j2=>?_);obtain ⟨i1,q1,_⟩:=xAbx h1;obtain ⟨i2,q2,_⟩:=xAbx h2;have hv:=xAgd k1 j its[j] (by rw [z6,we j2]);have hin:A.in1.units<cLine:=hu
 match j,j1,j2,hv with
 | 0,_,_,hv =>
  rcases hv with ⟨i,t,e⟩ | ⟨z,t,e⟩
  ·rw [e];exact SeqAt.EqAt.tuple_int i t q1 hin
  ·rw [e];exact SeqAt.EqAt.tuple_str z t q1 hin
 | 1,_,_,hv =>
  rcases hv with ⟨i,t,e⟩ | ⟨z,t,e⟩
  ·rw [e];exact SeqAt.EqAt.tuple_int i t q2 hin
  ·rw [e];exact SeqAt.EqAt.tuple_str z t q2 hin
theorem xAjo {ks ls js:List Key} {a b:Addr} (hu:A.units+1<cLine) (y:(tupleKind (mixKind P w)).is s.heap js a) (x:IsTwo P w s.heap ks ls b):SeqAt.EqAt A s (.ref a) (.ref b) false:=by
 have hab:a≠b:=fun z=>by subst z;exact xAif x y
 obtain ⟨c,d,t1,h1,h2⟩:=x.tuple;obtain ⟨its,t2,k1⟩:=xAbx y;have e:false=((List.range (min its.size (#[Value.ref c,.ref d]:Array Value).size)).all (fun _=>false)&&its.size==(#[Value.ref c,.ref d]:Array Value).size):=(xAug (m:=2) (by decide)).symm;rw [e];refine SeqAt.EqAt.of_refs hab (SeqAt.RcAt.tuples t2 t1 (by omega) fun j j2 j1=>?_);obtain ⟨i1,q1,_⟩:=xAbx h1;obtain ⟨i2,q2,_⟩:=xAbx h2;have hv:=xAgd k1 j its[j] (by rw [z6,we j2]);have hin:A.in1.units<cLine:=hu
 match j,j1,j2,hv with
 | 0,_,_,hv =>
  rcases hv with ⟨i,t,e⟩ | ⟨z,t,e⟩
  ·rw [e];exact SeqAt.EqAt.int_tuple i t q1 hin
  ·rw [e];exact SeqAt.EqAt.str_tuple z t q1 hin
 | 1,_,_,hv =>
  rcases hv with ⟨i,t,e⟩ | ⟨z,t,e⟩
  ·rw [e];exact SeqAt.EqAt.int_tuple i t q2 hin
  ·rw [e];exact SeqAt.EqAt.str_tuple z t q2 hin
theorem xAro {ks ls:List Key} {a:Addr} {Q:Int->Shared->Prop} (hu:A.units+1<cLine) (hk:IsTwo P w s.heap ks ls a) (h:Q (gHash P w (.two ks ls)) { s with toks:=s.toks+((tupleKind (mixKind P w)).draws ks+(tupleKind (mixKind P w)).draws ls+1) }):wpAny (model P w) A (pyHash (.ref a)) Q E s:=by
 obtain ⟨o,c,d,n,ho,hc,hd,h1,h2⟩:=hk;have hT:s.TypeIs (.ref a) "tuple":=⟨o,ho,hc⟩;unfold pyHash;unfold pyHashByItsType;refine wpAny_bind (wpAny_cRoomFor_or (.inr (by omega)) ?_);refine wpAny_bind (wpAny_specialOf hT F.slot_tuple_hash.lookup ?_);show wpAny _ _ (if (some (Value.builtin "tuple.__hash__")==some Value.none)=true then _ else _) Q E s;rw [if_neg (by rw [beq_builtin_none];exact zh)];refine wpAny_bind (wpAny_specialOf hT F.slot_tuple_hash.lookup ?_);show wpAny _ _ (callSpecialIfBoundUnlessNone? (.ref a) "__hash__" _ >>= _) Q E s;refine wpAny_bind (wpAny_callSpecialIfBoundUnlessNone?_slot hT F.slot_tuple_hash (wpAny_call_entry F.slot_tuple_hash hT F.entry_tuple_hash ?_ (F.args_tuple_hash_1 _)));show wpAny _ _ (Builtin.Tuple.tupleItemsOf (.ref a) >>= _) _ _ s;refine wpAny_bind (wpAny_tupleItemsOf ho hd ?_);refine wpAny_bind ?_;rw [← gu]
 refine wpAny_forIn_list _
  (fun rest (b:Array Int) s'=>(rest=[.ref c,.ref d]/\b.toList=[]/\s'=s)\/(rest=[.ref d]/\b.toList=[(tupleKind (mixKind P w)).hash ks]/\s'={ s with toks:=s.toks+(tupleKind (mixKind P w)).draws ks })\/(rest=[]/\b.toList=[(tupleKind (mixKind P w)).hash ks,(tupleKind (mixKind P w)).hash ls]/\s'={ s with toks:=s.toks+(tupleKind (mixKind P w)).draws ks+(tupleKind (mixKind P w)).draws ls }))
  _ ?_ ?_ _ _ (.inl ⟨rfl,rfl,rfl⟩)
 ·rintro x rest b s' (⟨e,hb,rfl⟩ | ⟨e,hb,rfl⟩ | ⟨e,hb,rfl⟩)
  ·cases e
   refine wpAny_bind ((tupleKind (mixKind P w)).pyHash (show _<cLine by first | exact hu | (show A.units+1<cLine;exact hu)) h1 ?_)
   first
    | exact wpAny_pure (.inr (.inl ⟨rfl,by simp [hb],rfl⟩))
    | exact wpAny_bind (wpAny_pure (wpAny_pure (.inr (.inl ⟨rfl,by simp [hb],rfl⟩))))
  ·cases e
   refine wpAny_bind ((tupleKind (mixKind P w)).pyHash (s:={ s with toks:=s.toks+(tupleKind (mixKind P w)).draws ks }) (show _<cLine by first | exact hu | (show A.units+1<cLine;exact hu)) h2 ?_)
   first
    | exact wpAny_pure (.inr (.inr ⟨rfl,by simp [hb],rfl⟩))
    | exact wpAny_bind (wpAny_pure (wpAny_pure (.inr (.inr ⟨rfl,by simp [hb],rfl⟩))))
  ·cases e
 ·rintro b s' (⟨e,hb,rfl⟩ | ⟨e,hb,rfl⟩ | ⟨e,hb,rfl⟩)
  ·cases e
  ·cases e
  ·show wpAny _ _ (retInt (Builtin.Tuple.tupleHashOf b.toList)) _ _ _
   rw [hb];refine wpAny_ret_mkInt ?_;show wpAny _ _ (if (decide (-(2:Int) ^ 63≤Builtin.Tuple.tupleHashOf [(tupleKind (mixKind P w)).hash ks,(tupleKind (mixKind P w)).hash ls])&&decide (Builtin.Tuple.tupleHashOf [(tupleKind (mixKind P w)).hash ks,(tupleKind (mixKind P w)).hash ls]<2 ^ 63))=true then _ else _) Q E _;have h:Q (reduceHash (Builtin.Tuple.tupleHashOf [(tupleKind (mixKind P w)).hash ks,(tupleKind (mixKind P w)).hash ls])) { s with toks:=s.toks+((tupleKind (mixKind P w)).draws ks+(tupleKind (mixKind P w)).draws ls+1) }:=h;unfold reduceHash at h
   by_cases hr:(decide (-(2:Int) ^ 63≤Builtin.Tuple.tupleHashOf [(tupleKind (mixKind P w)).hash ks,(tupleKind (mixKind P w)).hash ls])&&decide (Builtin.Tuple.tupleHashOf [(tupleKind (mixKind P w)).hash ks,(tupleKind (mixKind P w)).hash ls]<2 ^ 63))=true
   ·rw [if_pos hr]
    rw [if_pos hr] at h;exact wpAny_pure (by simpa [Nat.add_assoc] using h)
   ·rw [if_neg hr]
    rw [if_neg hr] at h;exact wpAny_bind (wpAny_rule (wpAny_pure (by simpa [Nat.add_assoc] using h)))
theorem xAge {ks:List Key} {a:Addr} {m:Nat} {Q:Bool->Shared->Prop} (hk:(tupleKind (mixKind P w)).is s.heap ks a) (h:Q true s):wpAny (model P w) A (eqIsQuiet (m+1) (.ref a)) Q E s:=by
 obtain ⟨o,items,n,ho,hc,hd,hi⟩:=hk;have hT:s.TypeIs (.ref a) "tuple":=⟨o,ho,hc⟩;unfold eqIsQuiet;refine wpAny_bind (wpAny_specialOf hT F.slot_tuple_eq.lookup ?_);show wpAny _ _ (isInstance (.ref a) (.type "tuple") >>= _) _ _ s;refine wpAny_bind (wpAny_isInstance hT isSubtype_tuple_tuple ?_)
 simp only [Bool.not_true,Bool.false_eq_true,if_false]
 refine wpAny_bind (wpAny_seqItems ho hd ?_);refine wpAny_bind ?_;show wpAny _ _ (forIn items _ _) _ _ s;rw [← gu];refine wpAny_forIn_list _ (fun rest r s'=>r.1=none/\s'=s/\∀ v∈rest,carriedByValue v=true) _ ?_ ?_ _ _ ⟨rfl,rfl,hi.byValue⟩
 ·rintro v rest r s' ⟨hr,rfl,hall⟩
  rw [eqIsQuiet_byValue _ (hall v qp)];refine wpAny_bind (wpAny_pure ?_)
  simp only [Bool.not_true,Bool.false_eq_true,if_false]
  exact wpAny_pure ⟨rfl,rfl,fun u hu'=>hall u (qr _ hu')⟩
 ·rintro ⟨r1,r2⟩ s' ⟨hr,rfl,_⟩
  simp only at hr
  subst hr;exact wpAny_pure h
theorem xAoh {ks ls:List Key} {a:Addr} {Q:Bool->Shared->Prop} (hk:IsTwo P w s.heap ks ls a) (h:Q true s):wpAny (model P w) A (eqIsQuiet 8 (.ref a)) Q E s:=by
 obtain ⟨o,c,d,n,ho,hc,hd,h1,h2⟩:=hk;have hT:s.TypeIs (.ref a) "tuple":=⟨o,ho,hc⟩;unfold eqIsQuiet;refine wpAny_bind (wpAny_specialOf hT F.slot_tuple_eq.lookup ?_);show wpAny _ _ (isInstance (.ref a) (.type "tuple") >>= _) _ _ s;refine wpAny_bind (wpAny_isInstance hT isSubtype_tuple_tuple ?_)
 simp only [Bool.not_true,Bool.false_eq_true,if_false]
 refine wpAny_bind (wpAny_seqItems ho hd ?_);refine wpAny_bind ?_;show wpAny _ _ (forIn (#[.ref c,.ref d]:Array Value) _ _) _ _ s;rw [← gu];refine wpAny_forIn_list _ (fun rest r s'=>r.1=none/\s'=s/\∀ v∈rest,v=.ref c\/v=.ref d) _ ?_ ?_ _ _ ⟨rfl,rfl,fun v hv=>by simpa using hv⟩
 ·rintro v rest r s' ⟨hr,rfl,hall⟩
  have hq:∀ {Q':Bool->Shared->Prop},Q' true s'->wpAny (model P w) A (eqIsQuiet 7 v) Q' E s':=fun q=>by
   rcases hall v qp with rfl | rfl
   ·exact xAge (m:=6) h1 q
   ·exact xAge (m:=6) h2 q
  refine wpAny_bind (hq ?_)
  simp only [Bool.not_true,Bool.false_eq_true,if_false]
  exact wpAny_pure ⟨rfl,rfl,fun u hu'=>hall u (qr _ hu')⟩
 ·rintro ⟨r1,r2⟩ s' ⟨hr,rfl,_⟩
  simp only at hr
  subst hr;exact wpAny_pure h
theorem GIs.inj {h:Heap} {x y:KD} {v:Value} (a:GIs P w h x v) (b:GIs P w h y v):x=y:=by
 cases x with
 | non =>
  cases a
  cases y with
  | non=>rfl
  | int j=>obtain ⟨_,e⟩:=b;cases e
  | tup ks=>obtain ⟨_,e,_⟩:=b;cases e
  | two ks ls=>obtain ⟨_,e,_⟩:=b;cases e
 | int i =>
  obtain ⟨t,rfl⟩:=a
  cases y with
  | non=>cases b
  | int j=>obtain ⟨_,e⟩:=b;cases e;rfl
  | tup ks=>obtain ⟨_,e,_⟩:=b;cases e
  | two ks ls=>obtain ⟨_,e,_⟩:=b;cases e
 | tup ks =>
  obtain ⟨p,rfl,q⟩:=a
  cases y with
  | non=>cases b
  | int j=>obtain ⟨_,e⟩:=b;cases e
  | tup ks' =>
   obtain ⟨_,e,q'⟩:=b;cases e;exact congrArg KD.tup ((tupleKind (mixKind P w)).inj q q')
  | two ks' ls' =>
   obtain ⟨_,e,q'⟩:=b;cases e;exact (xAif q' q).elim
 | two ks ls =>
  obtain ⟨p,rfl,q⟩:=a
  cases y with
  | non=>cases b
  | int j=>obtain ⟨_,e⟩:=b;cases e
  | tup ks' =>
   obtain ⟨_,e,q'⟩:=b;cases e;exact (xAif q q').elim
  | two ks' ls' =>
   obtain ⟨_,e,q'⟩:=b;cases e;obtain ⟨rfl,rfl⟩:=xApv q q';rfl
theorem GIs.ext {h h':Heap} {k:KD} {v:Value} (a:GIs P w h k v) (x:∀ b o,h.get? b=some o->o.cls=.type "tuple"->h'.get? b=some o):GIs P w h' k v:=by
 cases k with
 | non=>exact a
 | int i=>exact a
 | tup ks =>
  obtain ⟨p,e,o,its,n,h1,h2,h3,h4⟩:=a;exact ⟨p,e,o,its,n,x _ _ h1 h2,h2,h3,h4⟩
 | two ks ls =>
  obtain ⟨p,e,o,c,d,n,h1,h2,h3,⟨o1,i1,n1,k1,k2,k3⟩,⟨o2,i2,n2,l1,l2,l3⟩⟩:=a;exact ⟨p,e,o,c,d,n,x _ _ h1 h2,h2,h3,⟨o1,i1,n1,x _ _ k1 k2,k2,k3⟩,⟨o2,i2,n2,x _ _ l1 l2,l2,l3⟩⟩
theorem xAoi {Q:Int->Shared->Prop} (h:Q 4238894112 { s with toks:=s.toks+1 }):wpAny (model P w) A (pyHash .none) Q E s:=by
 unfold pyHash;have hT:s.TypeIs Value.none "NoneType":=rfl;have hv:[Value.none].any Value.onHeap=false:=rfl;unfold pyHashByItsType;refine wpAny_bind ?_;rw [cRoomFor,if_neg (by rw [hv];exact zh)];refine wpAny_pure (wpAny_bind (wpAny_specialOf hT F.slot_NoneType_hash.lookup ?_));show wpAny _ _ (if (some (Value.builtin "NoneType.__hash__")==some Value.none)=true then _ else _) Q E s;rw [if_neg (by rw [beq_builtin_none];exact zh)];refine wpAny_bind (wpAny_specialOf hT F.slot_NoneType_hash.lookup ?_);show wpAny _ _ (callSpecialIfBoundUnlessNone? .none "__hash__" _ >>= _) Q E s;refine wpAny_bind (wpAny_callSpecialIfBoundUnlessNone?_slot hT F.slot_NoneType_hash (wpAny_call_entry F.slot_NoneType_hash hT F.entry_NoneType_hash (show wpAny _ _ (do ret (← mkInt 4238894112)) _ _ s from wpAny_ret_mkInt ?_) (F.args_NoneType_hash_1 _)));show wpAny _ _ (if (decide (-(2:Int) ^ 63≤4238894112)&&decide ((4238894112:Int)<2 ^ 63))=true then _ else _) Q E _;rw [if_pos (by decide)];exact wpAny_pure h
theorem GIs.hash {k:KD} {v:Value} (hu:A.units+1<cLine) (a:GIs P w s.heap k v) {Q:Int->Shared->Prop} (h:Q (gHash P w k) { s with toks:=s.toks+gDraws P w k }):wpAny (model P w) A (pyHash v) Q E s:=by
 cases k with
 | non=>cases a;exact xAoi h
 | int i=>obtain ⟨t,rfl⟩:=a;exact wpAny_pyHash_int h
 | tup ks=>obtain ⟨p,rfl,q⟩:=a;exact (tupleKind (mixKind P w)).pyHash (show A.units<cLine by omega) q h
 | two ks ls=>obtain ⟨p,rfl,q⟩:=a;exact xAro hu q h
theorem GIs.tuple {h:Heap} {ks:List Key} {v:Value} (a:GIs P w h (.tup ks) v):∃ p its,v=.ref p/\h.IsTuple p its:=by
 obtain ⟨p,e,o,its,n,h1,h2,h3,_⟩:=a;exact ⟨p,its,e,o,h1,h2,n,h3⟩
theorem GIs.tuple2 {h:Heap} {ks ls:List Key} {v:Value} (a:GIs P w h (.two ks ls) v):∃ p its,v=.ref p/\h.IsTuple p its:=by
 obtain ⟨p,e,q⟩:=a;obtain ⟨c,d,t,_⟩:=q.tuple;exact ⟨p,_,e,t⟩
theorem GIs.eq {x y:KD} {u v:Value} (hu1:A.units+1<cLine) (a:GIs P w s.heap x u) (b:GIs P w s.heap y v) {Q:Bool->Shared->Prop} (h:Q (decide (x=y)) s):wpAny (model P w) A (eqBool u v) Q E s:=by
 have ne:∀ {z z':KD},z≠z'->decide (z=z')=false:=fun q=>decide_eq_false q
 have hu:A.units<cLine:=by omega
 cases x with
 | non =>
  cases a
  cases y with
  | non=>cases b;exact SeqAt.EqAt.same _ _ _ _ _ h
  | int j =>
   obtain ⟨t,rfl⟩:=b;rw [ne (by intro z;cases z)] at h;exact SeqAt.EqAt.none_int _ _ _ _ _ _ h
  | tup ks =>
   obtain ⟨p,its,rfl,q⟩:=b.tuple;rw [ne (by intro z;cases z)] at h;exact SeqAt.EqAt.none_tuple q hu _ _ _ _ h
  | two ks ls =>
   obtain ⟨p,its,rfl,q⟩:=b.tuple2;rw [ne (by intro z;cases z)] at h;exact SeqAt.EqAt.none_tuple q hu _ _ _ _ h
 | int i =>
  obtain ⟨t,rfl⟩:=a
  cases y with
  | non =>
   cases b;rw [ne (by intro z;cases z)] at h;exact SeqAt.EqAt.int_none _ _ _ _ _ _ h
  | int j =>
   obtain ⟨t,rfl⟩:=b;refine SeqAt.EqAt.int_int _ _ _ _ _ _ _ _ ?_;rw [show (i==j)=decide (KD.int i=KD.int j) from by by_cases z:i=j <;> simp [z]];exact h
  | tup ks =>
   obtain ⟨p,its,rfl,q⟩:=b.tuple;rw [ne (by intro z;cases z)] at h;exact SeqAt.EqAt.int_tuple _ _ q hu _ _ _ _ h
  | two ks ls =>
   obtain ⟨p,its,rfl,q⟩:=b.tuple2;rw [ne (by intro z;cases z)] at h;exact SeqAt.EqAt.int_tuple _ _ q hu _ _ _ _ h
 | tup ks =>
  cases y with
  | non =>
   cases b;obtain ⟨p,its,rfl,q⟩:=a.tuple;rw [ne (by intro z;cases z)] at h;exact SeqAt.EqAt.tuple_none q hu _ _ _ _ h
  | int j =>
   obtain ⟨t,rfl⟩:=b;obtain ⟨p,its,rfl,q⟩:=a.tuple;rw [ne (by intro z;cases z)] at h;exact SeqAt.EqAt.tuple_int _ _ q hu _ _ _ _ h
  | tup ks' =>
   obtain ⟨p,rfl,q⟩:=a;obtain ⟨p',rfl,q'⟩:=b;refine (tupleKind (mixKind P w)).eqBool hu q q' ?_;rw [show decide (ks=ks')=decide (KD.tup ks=KD.tup ks') from by by_cases z:ks=ks' <;> simp [z]];exact h
  | two ks' ls' =>
   obtain ⟨p,rfl,q⟩:=a;obtain ⟨p',rfl,q'⟩:=b;rw [ne (by intro z;cases z)] at h;exact xAjo hu1 q q' _ _ _ _ h
 | two ks ls =>
  cases y with
  | non =>
   cases b;obtain ⟨p,its,rfl,q⟩:=a.tuple2;rw [ne (by intro z;cases z)] at h;exact SeqAt.EqAt.tuple_none q hu _ _ _ _ h
  | int j =>
   obtain ⟨t,rfl⟩:=b;obtain ⟨p,its,rfl,q⟩:=a.tuple2;rw [ne (by intro z;cases z)] at h;exact SeqAt.EqAt.tuple_int _ _ q hu _ _ _ _ h
  | tup ks' =>
   obtain ⟨p,rfl,q⟩:=a;obtain ⟨p',rfl,q'⟩:=b;rw [ne (by intro z;cases z)] at h;exact xAjn hu1 q q' _ _ _ _ h
  | two ks' ls' =>
   obtain ⟨p,rfl,q⟩:=a;obtain ⟨p',rfl,q'⟩:=b;exact xArn hu1 q q' _ _ _ _ h
theorem GIs.quiet {k:KD} {v:Value} (a:GIs P w s.heap k v) {Q:Bool->Shared->Prop} (h:Q true s):wpAny (model P w) A (eqIsQuiet 8 v) Q E s:=by
 cases k with
 | non=>cases a;exact wpAny_pure h
 | int i=>obtain ⟨t,rfl⟩:=a;exact wpAny_pure h
 | tup ks=>obtain ⟨p,rfl,q⟩:=a;exact (tupleKind (mixKind P w)).quiet q h
 | two ks ls=>obtain ⟨p,rfl,q⟩:=a;exact xAoh q h
theorem g_tell {k:KD} {v:Value} {l:List Value} (a:GIs P w s.heap k v) (hl:∀ u∈l,∃ k',GIs P w s.heap k' u) {Q:Bool->Shared->Prop} (h:Q false s):wpAny (model P w) A (tableMayTell v l) Q E s:=by
 unfold tableMayTell
 split
 ·exact wpAny_pure h
 ·refine wpAny_bind (a.quiet ?_)
  rw [if_neg (by decide)];refine wpAny_bind (wpAny_forIn_list _ (fun r b s'=>s'=s/\b=(none,())/\∀ u∈r,∃ k',GIs P w s.heap k' u) _ ?_ ?_ _ _ ⟨rfl,rfl,hl⟩)
  ·rintro u r b s' ⟨rfl,rfl,hr⟩
   obtain ⟨k',hk⟩:=hr u qp;refine wpAny_bind (hk.quiet ?_);rw [if_neg (by decide)];exact wpAny_pure ⟨rfl,rfl,fun x hx=>hr x (qr _ hx)⟩
  ·rintro b s' ⟨rfl,rfl,_⟩
   exact wpAny_pure h
def gIdx (xs:List (KD×Value×Value)) (k:KD):Option Nat:=xs.findIdx? fun x=>decide (x.1=k)
theorem xAfi {xs:List (KD×Value×Value)} {k:KD} {j:Nat} {x:KD×Value×Value} (hn:(xs.map (·.1)).Nodup) (h:xs[j]?=some x) (e:x.1=k):gIdx xs k=some j:=by
 unfold gIdx;rw [gy];obtain ⟨hj,ej⟩:=ze.mp h;refine ⟨hj,by rw [ej,e];simp,fun i hi=>?_⟩
 have:¬ xs[i].1=k:=fun z=>by
  have e1:(xs.map (·.1))[i]?=some k:=by rw [List.getElem?_map,List.getElem?_eq_getElem (by omega)];simp [z]
  have e2:(xs.map (·.1))[j]?=some k:=by rw [List.getElem?_map,h];simp [e]
  have:=(k8 (by rw [qj];omega) hn).mp (e1.trans e2.symm);omega
 simpa using this
theorem xAii {xs:List (KD×Value×Value)} {k:KD} (h:∀ (j:Nat) x,xs[j]?=some x->x.1≠k):gIdx xs k=none:=by
 unfold gIdx;rw [k9];intro x hx;obtain ⟨j,hj,e⟩:=wk.mp hx;exact decide_eq_false (h j x (by rw [qi hj,e]))
theorem g_loop {xs:List (KD×Value×Value)} {k:KD} {es:Array DictEntry} (at':∀ j:Nat,es[j]?=(xs[j]?).map (gEnt P w)) (sz:es.size=xs.length) (hn:(xs.map (·.1)).Nodup) {body:Nat->Option (Option Nat)×Option Nat->Sem (ForInStep (Option (Option Nat)×Option Nat))} {R:Option (Option Nat)×Option Nat->Shared->Prop}
  (B:∀ (i:Nat) b hit (R':ForInStep (Option (Option Nat)×Option Nat)->Shared->Prop),xs[i]?=some b->(b.1=k->hit=none/\R' (.done (some (some i),hit)) s/\R' (.yield (none,some i)) s)->(b.1≠k->R' (.yield (none,hit)) s)->wpAny (model P w) A (body i (none,hit)) R' E s)
  (R0:(∀ (j:Nat) x,xs[j]?=some x->x.1≠k)->R (none,none) s) (R1:∀ (j:Nat) x,xs[j]?=some x->x.1=k->R (some (some j),none) s/\R (none,some j) s) :
  wpAny (model P w) A (forIn (placesWithHash es.size (fun i=>es[i]?.map (·.hash)) (gHash P w k)) (none,none) body) R E s:=by
 have has:∀ (j:Nat) x,xs[j]?=some x->x.1=k->((es[j]?.map (·.hash))==some (gHash P w k))=true:=fun j x hj e=>by
  rw [at' j,hj];show (some (gHash P w x.1)==some (gHash P w k))=true;rw [e]
  simp
 have one:∀ {i j:Nat} {x y:KD×Value×Value},xs[i]?=some x->xs[j]?=some y->x.1=k->y.1=k->i=j:=fun {i j x y} h1 h2 e1 e2=>by
  have q1:(xs.map (·.1))[i]?=some k:=by rw [qt,h1];exact congrArg some e1
  have q2:(xs.map (·.1))[j]?=some k:=by rw [qt,h2];exact congrArg some e2
  exact (k8 (ze.mp q1).1 hn).mp (q1.trans q2.symm)
 refine wpAny_forIn_list _ (fun rest b s'=>s'=s/\∃ i hit,b=(none,hit)/\rest=(List.range' i (es.size - i)).filter (fun i=>(es[i]?.map (·.hash))==some (gHash P w k))/\i≤es.size ∧
   ((hit=none/\∀ (j:Nat) x,j<i->xs[j]?=some x->x.1≠k)\/∃ j x,hit=some j/\j<i/\xs[j]?=some x/\x.1=k)) _ ?_ ?_ _ _
  ⟨rfl,0,none,rfl,by rw [placesWithHash,md,Nat.sub_zero],zm _,.inl ⟨rfl,fun j x hj=>absurd hj (zc _)⟩⟩
 ·rintro x rest b s' ⟨rfl,i,hit,rfl,hr,hi,hH⟩
  obtain ⟨hix,hxn,hpx,hskip,hrest⟩:=filter_range'_cons _ _ _ _ _ hr.symm
  have hlt:x<es.size:=by omega
  have hrest':rest=(List.range' (x+1) (es.size - (x+1))).filter (fun i=>(es[i]?.map (·.hash))==some (gHash P w k)):=by
   rw [hrest]
   congr 2
   omega
  have hx:xs[x]?=some (xs[x]'(by omega)):=qi _;generalize xs[x]'(by omega)=b at hx
  have gap:∀ (j:Nat) y,i≤j->j<x->xs[j]?=some y->y.1≠k:=fun j y h1 h2 hj e=>by
   have:=hskip j h1 h2;rw [has j y hj e] at this;exact absurd this (by decide)
  refine B x b hit _ hx (fun e=>?_) fun e=>?_
  ·rcases hH with ⟨rfl,hno⟩ | ⟨j,y,_,hj,hy,ey⟩
   ·exact ⟨rfl,(R1 x b hx e).1,rfl,x+1,some x,rfl,hrest',hlt,.inr ⟨x,b,rfl,vy x,hx,e⟩⟩
   ·have:=one hy hx ey e
    omega
  ·refine ⟨rfl,x+1,hit,rfl,hrest',hlt,?_⟩
   rcases hH with ⟨h0,hno⟩ | ⟨j,y,h1,hj,hy,ey⟩
   ·refine .inl ⟨h0,fun j y hjx hj=>?_⟩
    by_cases c1:j<i
    ·exact hno j y c1 hj
    ·by_cases c2:j<x
     ·exact gap j y (by omega) c2 hj
     ·have:j=x:=by omega
      subst this;rw [hx] at hj;cases hj;exact e
   ·exact .inr ⟨j,y,h1,by omega,hy,ey⟩
 ·rintro b s' ⟨rfl,i,hit,rfl,hr,hi,hH⟩
  rcases hH with ⟨rfl,hno⟩ | ⟨j,y,rfl,hj,hy,ey⟩
  ·refine R0 fun j x hj e=>?_
   by_cases c1:j<i
   ·exact hno j x c1 hj e
   ·have hjl:j<es.size:=by rw [sz];exact (ze.mp hj).1
    have:=gz.mp hr.symm j (me.mpr ⟨by omega,by omega⟩);exact this (has j x hj e)
  ·exact (R1 j y hy ey).2
theorem xApw {d:Addr} {o:Obj} {es:Array DictEntry} {ep:Nat} {xs:List (KD×Value×Value)} {k:KD} {v:Value} {Q:Option Nat->Shared->Prop} (hu:A.units+1<cLine) (a:GIs P w s.heap k v) (ho:s.heap.get? d=some o) (hd:o.data=.dict es ep)
  (at':∀ j:Nat,es[j]?=(xs[j]?).map (gEnt P w)) (sz:es.size=xs.length) (his:∀ x∈xs,GIs P w s.heap x.1 x.2.1) (hn:(xs.map (·.1)).Nodup) (hQ:Q (gIdx xs k) s):wpAny (model P w) A (dictWalkPlain d v (gHash P w k) es (placesWithHash es.size (fun i=>es[i]?.map (·.hash)) (gHash P w k))) Q E s:=by
 unfold dictWalkPlain
 have has:∀ (j:Nat) x,xs[j]?=some x->x.1=k->((es[j]?.map (·.hash))==some (gHash P w k))=true:=fun j x hj e=>by
  rw [at' j,hj];show (some (gHash P w x.1)==some (gHash P w k))=true;rw [e]
  simp
 refine wpAny_bind (wpAny_forIn_list _ (fun rest b s'=>s'=s/\b=(none,())/\∃ i,rest=(List.range' i (es.size - i)).filter (fun i=>(es[i]?.map (·.hash))==some (gHash P w k))/\i≤es.size/\∀ (j:Nat) x,j<i->xs[j]?=some x->x.1≠k) _ ?_ ?_ _ _
  ⟨rfl,rfl,0,by rw [placesWithHash,md,Nat.sub_zero],zm _,fun j x hj=>absurd hj (zc _)⟩)
 ·rintro x rest b s' ⟨rfl,rfl,i,hr,hi,hno⟩
  obtain ⟨hix,hxn,hpx,hskip,hrest⟩:=filter_range'_cons _ _ _ _ _ hr.symm
  have hlt:x<es.size:=by omega
  have hx:xs[x]?=some (xs[x]'(by omega)):=qi _;generalize xs[x]'(by omega)=b at hx
  have hex:es[x]?=some (gEnt P w b):=by rw [at' x,hx];rfl
  have more:b.1≠k->∃ i,rest=(List.range' i (es.size - i)).filter (fun i=>(es[i]?.map (·.hash))==some (gHash P w k))/\i≤es.size/\∀ (j:Nat) x,j<i->xs[j]?=some x->x.1≠k:=fun e=>⟨x+1,by rw [hrest];congr 2;omega,hlt,fun j y hjx hj=>by
   by_cases c1:j<i
   ·exact hno j y c1 hj
   ·by_cases c2:j<x
    ·intro z
     have:=hskip j (by omega) c2;rw [has j y hj z] at this;exact absurd this (by decide)
    ·have:j=x:=by omega
     subst this;rw [hx] at hj;cases hj
     exact e⟩
  rw [hex]
  try dsimp only
  have hh:((gEnt P w b).hash==gHash P w k)=true:=by
   have:=hpx;rw [hex] at this;simpa using this
  rw [if_pos hh];refine wpAny_bind (wpAny_dictEpoch ho hd (wpAny_bind ((his b (zk hx)).eq hu a (wpAny_bind (wpAny_dictEpoch ho hd ?_)))))
  try dsimp only
  rw [if_neg (by simp)]
  by_cases e:b.1=k
  ·rw [decide_eq_true e,if_pos rfl]
   refine wpAny_bind (wpAny_rule (wpAny_pure (wpAny_pure ?_)));rw [← xAfi hn hx e];exact hQ
  ·rw [decide_eq_false e,if_neg (by decide)]
   exact wpAny_bind (wpAny_rule (wpAny_pure ⟨rfl,rfl,more e⟩))
 ·rintro b s' ⟨rfl,rfl,i,hr,hi,hno⟩
  refine wpAny_pure ?_;rw [← xAii (xs:=xs) (k:=k) fun j x hj e=>?_]
  ·exact hQ
  ·by_cases c1:j<i
   ·exact hno j x c1 hj e
   ·have hjl:j<es.size:=by rw [sz];exact (ze.mp hj).1
    exact gz.mp hr.symm j (me.mpr ⟨by omega,by omega⟩) (has j x hj e)
theorem xAoj {d:Addr} {o:Obj} {es:Array DictEntry} {ep:Nat} {xs:List (KD×Value×Value)} {k:KD} {v:Value} {Q:Option Nat->Shared->Prop} (hu:A.units+1<cLine) (a:GIs P w s.heap k v) (ho:s.heap.get? d=some o) (hd:o.data=.dict es ep)
  (he:es.toList=xs.map (gEnt P w)) (his:∀ x∈xs,GIs P w s.heap x.1 x.2.1) (hn:(xs.map (·.1)).Nodup) (hQ:Q (gIdx xs k) s):wpAny (model P w) A (dictFind d v (gHash P w k)) Q E s:=by
 have at':∀ j:Nat,es[j]?=(xs[j]?).map (gEnt P w):=fun j=>by rw [← z6,he,qt]
 have sz:es.size=xs.length:=by rw [← qy,he,qj]
 have key:∀ (j:Nat) x,xs[j]?=some x->x.1=k->((es[j]?.map (·.hash))==some (gHash P w k))=true:=fun j x hj e=>by
  rw [at' j,hj];show (some (gHash P w x.1)==some (gHash P w k))=true;rw [e]
  simp
 have mem:∀ e∈es,∃ x∈xs,e=gEnt P w x:=fun e hin=>by
  obtain ⟨x,hx,z⟩:=qk.mp (show e∈xs.map (gEnt P w) from he▸ke.mpr hin);exact ⟨x,hx,z.symm⟩
 have nostr:∀ z t,v≠.str z t:=fun z t e=>by
  rw [e] at a
  cases k with
  | non=>cases a
  | int i=>obtain ⟨_,q⟩:=a;cases q
  | tup ks=>obtain ⟨_,q,_⟩:=a;cases q
  | two ks ls=>obtain ⟨_,q,_⟩:=a;cases q
 have anyF:¬ (es.any fun e=>e.key==v&&e.hash != gHash P w k)=true:=by
  rw [← Array.any_toList,vh];rintro ⟨e,hin,hc⟩;obtain ⟨x,hx,rfl⟩:=mem e (ke.mp hin);rw [zu] at hc;have e1:x.2.1=v:=eq_of_beq hc.1;have e2:=his x hx;rw [e1] at e2;have e3:=e2.inj a;have e4:(gHash P w x.1 != gHash P w k)=true:=hc.2;rw [e3] at e4
  simp at e4
 have st:∀ u∈(placesWithHash es.size (fun i=>es[i]?.map (·.hash)) (gHash P w k)).filterMap (fun i=>es[i]?.map (·.key)),∃ k',GIs P w s.heap k' u:=fun u hu'=>by
  obtain ⟨i,_,hi⟩:=yy.mp hu';rw [at' i] at hi
  cases e:xs[i]? with
  | none=>rw [e] at hi;cases hi
  | some x =>
   rw [e] at hi
   have e2:x.2.1=u:=by simpa [gEnt] using hi
   exact ⟨x.1,e2▸his x (zk e)⟩
 have look:∀ (x:Nat) (b:KD×Value×Value) {R:Bool->Shared->Prop},xs[x]?=some b->R (decide (b.1=k)) s->wpAny (model P w) A (eqBool b.2.1 v) R E s:=fun x b R hx r=>(his b (zk hx)).eq hu a r
 have noneQ:(∀ (j:Nat) x,xs[j]?=some x->x.1≠k)->Q none s:=fun h=>by rw [← xAii h];exact hQ
 have someQ:∀ (j:Nat) x,xs[j]?=some x->x.1=k->Q (some j) s:=fun j x hj e=>by rw [← xAfi hn hj e];exact hQ
 unfold dictFind
 try with_reducible refine wpAny_holding ?_
 refine wpAny_bind (wpAny_dictEntries ho hd ?_)
 have vc:v=.none\/(∃ i t,v=.int i t)\/∃ p,v=.ref p:=by
  cases k with
  | non=>exact .inl a
  | int i=>exact .inr (.inl ⟨i,a⟩)
  | tup ks=>exact .inr (.inr ⟨a.choose,a.choose_spec.1⟩)
  | two ks ls=>exact .inr (.inr ⟨a.choose,a.choose_spec.1⟩)
 by_cases hv:(v::(placesWithHash es.size (fun i=>es[i]?.map (·.hash)) (gHash P w k)).filterMap (fun i=>es[i]?.map (·.key))).all carriedByValue=true
 ·rcases vc with rfl | ⟨i,t,rfl⟩ | ⟨p,rfl⟩
  ·dsimp only
   rw [if_pos hv];exact xApw hu a ho hd at' sz his hn hQ
  ·dsimp only
   rw [if_pos hv];exact xApw hu a ho hd at' sz his hn hQ
  ·exact absurd hv (by simp [carriedByValue])
 ·rcases vc with rfl | ⟨i,t,rfl⟩ | ⟨p,rfl⟩ <;> dsimp only <;> rw [if_neg hv] <;> (try rw [if_neg anyF]) <;> refine wpAny_ite_split (fun _=>?_) (fun _=>?_) <;> (first | refine wpAny_bind (wpAny_pure ?_) | refine wpAny_bind (g_tell a st ?_)) <;> (
   rw [if_neg (by simp)];refine wpAny_bind (g_loop at' sz hn (fun i b hit R' hx y n=>?_) (fun h=>wpAny_pure (noneQ h)) fun j x hj e=>⟨wpAny_pure (someQ j x hj e),wpAny_pure (someQ j x hj e)⟩)
   have hex:es[i]?=some (gEnt P w b):=by rw [at' i,hx];rfl
   rw [hex];dsimp only
   by_cases hh:((gEnt P w b).hash==gHash P w k)=true
   ·rw [if_pos hh]
    refine wpAny_bind (wpAny_dictEpoch ho hd (wpAny_bind (look i b hx (wpAny_bind (wpAny_dictEpoch ho hd ?_)))));rw [if_neg (by simp)]
    by_cases e:b.1=k
    ·obtain ⟨rfl,y1,y2⟩:=y e
     rw [decide_eq_true e,if_pos rfl,if_neg (by decide)];refine wpAny_bind (wpAny_rule ?_)
     split
     ·exact wpAny_pure y1
     ·exact wpAny_pure y2
    ·rw [decide_eq_false e,if_neg (by decide)]
     refine wpAny_bind (wpAny_rule ?_);rw [if_neg (by simp)];exact wpAny_pure (n e)
   ·rw [if_neg hh]
    exact wpAny_pure (n fun e=>hh (by
     show (gHash P w b.1==gHash P w k)=true;rw [e]
     simp)))
end
section
variable {α β:Type}
def vG (kvs:List (KD×α×β)) (k:KD):Option β:=(kvs.find? fun e=>decide (e.1=k)).map (·.2.2)
def pG (kvs:List (KD×α×β)) (k:KD) (key:α) (v:β):List (KD×α×β):=if (vG kvs k).isSome=true then kvs.map (fun e=>if e.1=k then (e.1,e.2.1,v) else e) else kvs++[(k,key,v)]
theorem xAgf {kvs:List (KD×α×β)} {k:KD} {i:Nat} {e:KD×α×β} (hn:(kvs.map (·.1)).Nodup) (h:kvs[i]?=some e) (he:e.1=k):vG kvs k=some e.2.2:=by
 unfold vG
 induction kvs generalizing i with
 | nil=>cases h
 | cons x r ih =>
  rw [za,wu] at hn;rw [ym]
  cases i with
  | zero=>cases h;rw [decide_eq_true he];rfl
  | succ i =>
   have h':r[i]?=some e:=by simpa using h
   have hx:¬ x.1=k:=fun z=>hn.1 (by rw [z,← he];exact qk.mpr ⟨e,zk h',rfl⟩)
   rw [decide_eq_false hx];exact ih hn.2 h'
theorem xAgg {kvs:List (KD×α×β)} {k:KD} (h:∀ e∈kvs,e.1≠k):vG kvs k=none:=by
 unfold vG;rw [jw.mpr fun e he=>by rw [decide_eq_true_eq];exact h e he];rfl
theorem vG_no {kvs:List (KD×α×β)} {k:KD} (h:vG kvs k=none):∀ e∈kvs,e.1≠k:=fun e he z=>by
 unfold vG at h;rw [Option.map_eq_none_iff,jw] at h;exact h e he (decide_eq_true z)
theorem xAlt (kvs:List (KD×α×β)) (k k':KD) (key:α) (v:β):vG (pG kvs k key v) k'=if k'=k then some v else vG kvs k':=by
 unfold pG
 by_cases hs:(vG kvs k).isSome=true
 ·rw [if_pos hs]
  obtain ⟨u,hu⟩:=j4.mp hs;clear hs;unfold vG at *
  induction kvs with
  | nil=>simp at hu
  | cons x r ih =>
   rw [za,ym];rw [ym] at hu ⊢
   by_cases hx:x.1=k
   ·rw [if_pos hx]
    by_cases hk:k'=k
    ·subst hk
     rw [if_pos rfl]
     simp [hx]
    ·rw [if_neg hk]
     have:¬ x.1=k':=fun z=>hk (z.symm.trans hx)
     simp only [this,decide_false]
     clear hu ih
     induction r with
     | nil=>rfl
     | cons y r ih2 =>
      rw [za,ym,ym]
      by_cases hy:y.1=k
      ·have hy':¬ y.1=k':=fun z=>hk (z.symm.trans hy)
       rw [if_pos hy]
       simp only [hy',decide_false]
       exact ih2
      ·rw [if_neg hy]
       by_cases hy':y.1=k'
       ·simp [hy']
       ·simp only [hy',decide_false]
        exact ih2
   ·rw [if_neg hx]
    simp only [hx,decide_false] at hu
    by_cases hx':x.1=k'
    ·have:¬ k'=k:=fun z=>hx (hx'.trans z)
     rw [if_neg this]
     simp [hx']
    ·simp only [hx',decide_false]
     exact ih hu
 ·rw [if_neg hs]
  have hno:=vG_no (kvs:=kvs) (k:=k) (by cases e:vG kvs k with
   | none=>rfl
   | some u=>rw [e] at hs;exact absurd rfl hs)
  unfold vG;rw [List.find?_append]
  by_cases hk:k'=k
  ·subst hk
   rw [if_pos rfl,jw.mpr fun e he=>by rw [decide_eq_true_eq];exact hno e he]
   simp
  ·rw [if_neg hk]
   cases e:List.find? (fun e=>decide (e.1=k')) kvs with
   | some x=>rfl
   | none =>
    have:¬ k=k':=fun z=>hk z.symm
    simp [this]
theorem xAuh (kvs:List (KD×α×β)) (k:KD) (key:α) (v:β):(pG kvs k key v).map (·.1)=if (vG kvs k).isSome=true then kvs.map (·.1) else kvs.map (·.1)++[k]:=by
 unfold pG
 split
 ·rw [wt]
  refine yc fun e _=>?_;show (if e.1=k then (e.1,e.2.1,v) else e).1=e.1
  split <;> rfl
 ·rw [zx]
  rfl
theorem xAlu (kvs:List (KD×α×β)) (k:KD) (key:α) (v:β):(pG kvs k key v).length≤kvs.length+1:=by
 unfold pG
 split
 ·rw [qj];omega
 ·rw [qm,wc];exact qg _
theorem xAha {kvs:List (KD×α×β)} {k:KD} {key:α} {v:β} (h:(kvs.map (·.1)).Nodup):((pG kvs k key v).map (·.1)).Nodup:=by
 rw [xAuh]
 split
 ·exact h
 ·rename_i hs
  refine nd_add h fun hm=>?_;obtain ⟨e,he,rfl⟩:=qk.mp hm
  exact vG_no (kvs:=kvs) (k:=e.1) (by cases e':vG kvs e.1 with
   | none=>rfl
   | some u=>rw [e'] at hs;exact absurd rfl hs) e he rfl
end
section
variable {P:Program} {w:World} {A:Around} {E:Value->Shared->Prop} {s:Shared}
def GDict (P:Program) (w:World) (h:Heap) (d:Addr) (xs:List (KD×Value×Value)):Prop :=
 ∃ o es ep,h.get? d=some o/\o.ExactDict/\o.data=.dict es ep/\es.toList=xs.map (gEnt P w)/\(∀ x∈xs,GIs P w h x.1 x.2.1)/\(xs.map (·.1)).Nodup
theorem GDict.typeIs {d:Addr} {xs:List (KD×Value×Value)} (g:GDict P w s.heap d xs):s.TypeIs (.ref d) "dict":=let ⟨o,_,_,ho,hc,_⟩:=g;⟨o,ho,hc.1⟩
theorem xAhb {xs:List (KD×Value×Value)} {k:KD} {j:Nat} (h:gIdx xs k=some j):∃ x,xs[j]?=some x/\x.1=k:=by
 unfold gIdx at h;rw [gy] at h;obtain ⟨hj,h1,_⟩:=h;exact ⟨xs[j],List.getElem?_eq_getElem hj,by simpa using h1⟩
theorem xAlv {xs:List (KD×Value×Value)} {k:KD} (h:gIdx xs k=none):∀ e∈xs,e.1≠k:=fun e he=>by
 unfold gIdx at h;rw [k9] at h;simpa using h e he
theorem xAlw {d:Addr} {xs:List (KD×Value×Value)} {k:KD} {v:Value} {Q:Option Value->Shared->Prop} (hu:A.units+1<cLine) (a:GIs P w s.heap k v) (g:GDict P w s.heap d xs) (h:Q (vG xs k) { s with toks:=s.toks+gDraws P w k }):wpAny (model P w) A (dictGet d v) Q E s:=by
 obtain ⟨o,es,ep,ho,_,hd,he,his,hn⟩:=g;unfold dictGet
 try with_reducible refine wpAny_holding ?_
 refine wpAny_bind (a.hash hu (wpAny_bind (xAoj (s:={ s with toks:=s.toks+gDraws P w k }) hu a ho hd he his hn ?_)))
 cases e:gIdx xs k with
 | none =>
  rw [xAgg (xAlv e)] at h;exact wpAny_pure h
 | some j =>
  obtain ⟨x,hx,ex⟩:=xAhb e;rw [xAgf hn hx ex] at h;refine wpAny_bind (wpAny_dictEntries (s:={ s with toks:=s.toks+gDraws P w k }) ho hd ?_);rw [← z6,he,qt,hx];exact wpAny_pure h
theorem xAok {xs:List (KD×Value×Value)} {k:KD} {v:Value} {j:Nat} {x:KD×Value×Value} (hn:(xs.map (·.1)).Nodup) (hx:xs[j]?=some x) (ex:x.1=k) :
  (xs.map (gEnt P w)).modify j (fun e=>{ e with val:=v })=(xs.map fun e=>if e.1=k then (e.1,e.2.1,v) else e).map (gEnt P w):=by
 apply wp;intro i;rw [k6,qt,qt,qt]
 cases hi:xs[i]? with
 | none=>simp
 | some y =>
  by_cases e:j=i
  ·subst e
   rw [hx] at hi;cases hi
   simp [ex,gEnt]
  ·have hy:¬ y.1=k:=fun z=>e ((List.getElem?_inj (by rw [List.length_map];exact (List.getElem?_eq_some_iff.mp hx).1) hn).mp (by rw [List.getElem?_map,List.getElem?_map,hx,hi];simp [ex,z]))
   simp [e,hy]
theorem xAdy {h h':Heap} {d:Addr} {o:Obj} {es:Array DictEntry} {ep:Nat} (ho:h.get? d=some o) (hc:o.ExactDict) (hs:Heap.SameBut d h h') {k:KD} {v:Value} (a:GIs P w h k v):GIs P w h' k v:=a.ext fun b o' hb hcl=>(hs.2 b (fun z=>by
 rw [z,ho] at hb;cases hb;rw [hc.1] at hcl
 exact absurd hcl (by decide))).trans hb
theorem xApx {d:Addr} {xs:List (KD×Value×Value)} {k:KD} {v val:Value} {Q:Unit->Shared->Prop} (hu:A.units+1<cLine) (a:GIs P w s.heap k v) (g:GDict P w s.heap d xs) (hsz:xs.length≤sizeLine)
  (hQ:∀ h',GDict P w h' d (pG xs k v val)->Heap.SameBut d s.heap h'->Q () { s with heap:=h',toks:=s.toks+gDraws P w k }):wpAny (model P w) A (dictSet d v val) Q E s:=by
 obtain ⟨o,es,ep,ho,hc,hd,he,his,hn⟩:=g
 have sz:es.size=xs.length:=by rw [← qy,he,qj]
 have keep:∀ h',Heap.SameBut d s.heap h'->∀ x∈pG xs k v val,GIs P w h' x.1 x.2.1:=fun h' hs x hx=>by
  unfold pG at hx
  split at hx
  ·obtain ⟨y,hy,rfl⟩:=qk.mp hx
   have:=xAdy (es:=es) (ep:=ep) ho hc hs (his y hy)
   split <;> exact this
  ·rcases qz.mp hx with hx | hx
   ·exact xAdy (es:=es) (ep:=ep) ho hc hs (his x hx)
   ·rw [zb.mp hx]
    exact xAdy (es:=es) (ep:=ep) ho hc hs a
 unfold dictSet
 try with_reducible refine wpAny_holding ?_
 refine wpAny_bind (a.hash hu ?_);unfold dictSetHashed
 try with_reducible refine wpAny_holding ?_
 refine wpAny_bind (xAoj (s:={ s with toks:=s.toks+gDraws P w k }) hu a ho hd he his hn ?_)
 cases e:gIdx xs k with
 | none =>
  have hv:=xAgg (xAlv e);refine wpAny_bind (wpAny_rule (wpAny_updateDictKeys (hz:=by omega) (s:={ s with toks:=s.toks+gDraws P w k }) ho hd (hQ _ ⟨_,_,ep+1,Heap.get?_update_self _ ho (Obj.isFreed_of_dict (Obj.data_mapDictKeys hd _)),hc.mapDictKeys _,Obj.data_mapDictKeys hd _,?_,keep _ (Heap.SameBut.update ..),xAha hn⟩ (Heap.SameBut.update ..))));unfold pG;rw [hv,if_neg (by decide)]
  simp [he,gEnt]
 | some j =>
  obtain ⟨x,hx,ex⟩:=xAhb e;have hv:=xAgf hn hx ex;refine wpAny_bind (wpAny_rule (wpAny_bind (wpAny_updateDict (s:={ s with toks:=s.toks+gDraws P w k }) ho hd (wpAny_point (hQ _ ⟨_,_,ep,Heap.get?_update_self _ ho (Obj.isFreed_of_dict (Obj.data_mapDict hd _)),hc.mapDict _,Obj.data_mapDict hd _,?_,keep _ (Heap.SameBut.update ..),xAha hn⟩ (Heap.SameBut.update ..))))));unfold pG;rw [hv,if_pos (show (some x.2.2).isSome=true from rfl)];have:=xAok (P:=P) (w:=w) (v:=val) hn hx ex;rw [← he] at this;obtain ⟨l⟩:=es;simpa using this
end
abbrev GP (H:Hp):KD×V×V->KD×Value×Value->Prop:=fun p q=>p.1=q.1/\GK H p.1 p.2.1/\RelV p.2.1 q.2.1/\RelV p.2.2 q.2.2
section
variable {X:Cx} {pins:List (Addr×Obj)} {σ:St} {H:Hp} {s:Shared} {a:Addr} {y v:V} {u r:Value} {k:KD} {kvs:List (KD×V×V)} {A:Around} {E:Value->Shared->Prop}
theorem GK.is (I:Inv X pins σ H s) (g:GK H k y) (ry:RelV y u):GIs X.prog X.w s.heap k u:=by
 cases k with
 | non=>cases g;exact ry
 | int i=>cases g;exact ry
 | tup ks =>
  obtain ⟨b,rfl,hb⟩:=g;exact ⟨b,ry,xAjj I.hok hb⟩
 | two ks ls =>
  obtain ⟨b,c,d,rfl,hb,hc,hd⟩:=g;obtain ⟨its,rv,⟨o,e1,e2,n,e3⟩,_⟩:=I.tuple (SqT.of hb);obtain ⟨u1,u2,rfl,r1,r2⟩:=rv.two;cases r1;cases r2;exact ⟨b,ry,o,c,d,n,e1,e2,e3,xAjj I.hok hc,xAjj I.hok hd⟩
theorem xAui {F:KD×V×V->KD×Value×Value->Prop}:∀ {l:List (KD×V×V)} {m:List (KD×Value×Value)},Paired F l m->∀ x∈m,∃ p∈l,F p x
 | _,_,.nil,x,h=>nomatch h
 | _,_,.cons f t,x,h=>by
  rcases qw.mp h with rfl | h
  ·exact ⟨_,qp,f⟩
  ·obtain ⟨p,hp,q⟩:=xAui t x h
   exact ⟨p,qr _ hp,q⟩
theorem xAjp:∀ {l:List (KD×V×V)} {m:List (KD×Value×Value)},Paired (GP H) l m->RelO (vG l k) (vG m k)
 | _,_,.nil=>trivial
 | _,_,.cons (a:=p) (b:=q) f t=>by
  have ih:=xAjp t;unfold vG at ih ⊢;rw [ym,ym,← f.1]
  by_cases e:p.1=k
  ·rw [decide_eq_true e];exact f.2.2.2
  ·rw [decide_eq_false e];exact ih
theorem xAuj (rv:RelV v r):∀ {l:List (KD×V×V)} {m:List (KD×Value×Value)},Paired (GP H) l m->Paired (GP H) (l.map fun e=>if e.1=k then (e.1,e.2.1,v) else e) (m.map fun e=>if e.1=k then (e.1,e.2.1,r) else e)
 | _,_,.nil=>.nil
 | _,_,.cons (a:=p) (b:=q) f t=>by
  refine .cons ?_ (xAuj rv t);show GP H (if p.1=k then (p.1,p.2.1,v) else p) (if q.1=k then (q.1,q.2.1,r) else q);rw [← f.1]
  split
  ·exact ⟨rfl,f.2.1,f.2.2.1,rv⟩
  ·exact f
theorem xArp {l:List (KD×V×V)} {m:List (KD×Value×Value)} (t:Paired (GP H) l m) (g:GK H k y) (ry:RelV y u) (rv:RelV v r):Paired (GP H) (pG l k y v) (pG m k u r):=by
 have e:(vG l k).isSome=(vG m k).isSome:=(xAjp t).isSome_eq;unfold pG;rw [e]
 split
 ·exact xAuj rv t
 ·exact Paired.snoc t ⟨rfl,g,ry,rv⟩
theorem xAlx:∀ {l:List (KD×V×V)} {m:List (KD×Value×Value)},Paired (GP H) l m->l.length=m.length
 | _,_,.nil=>rfl
 | _,_,.cons _ t=>by rw [qx,qx,xAlx t]
theorem gd_rd (I:Inv X pins σ H s) (e:Rd H a (.dG kvs)):kvs.length≤sizeLine/\(a==sysModules)=false/\∃ xs,Paired (GP H) kvs xs/\GDict X.prog X.w s.heap a xs:=by
 obtain ⟨z,y,xs,r,o,es,ep,h1,h2,h3,h4,h5⟩:=(show ObjOk X.prog X.w H s.heap a (.dG kvs) from e.ok I.hok);refine ⟨z,y,xs,r,o,es,ep,h1,h2,h3,h4,fun x hx=>?_,h5⟩;obtain ⟨p,hp,f⟩:=xAui r x hx;rw [← f.1];exact f.2.1.is I f.2.2.1
theorem xAly {Q:Value->Shared->Prop} (hu:A.units+2<cLine) (I:Inv X pins σ H s) (e:Rd H a (.dG kvs)) (g:GK H k y) (l:vG kvs k=some v) (ry:RelV y u) (h:∀ w' s',Inv X pins σ H s'->RelV v w'->Q w' s') :
  wpAny (model X.prog X.w) A (getItem (.ref a) u) Q E s:=by
 obtain ⟨z,hd,xs,rel,dd⟩:=gd_rd I e;obtain ⟨w',hw,rw'⟩:=RelO.some_of (v:=v) (o:=vG xs k) (by rw [← l];exact xAjp rel);unfold getItem
 try with_reducible refine wpAny_holding ?_
 refine wpAny_bind (wpAny_sequenceKey dd.typeIs (by decide) (wpAny_bind (wpAny_callSpecial?_slot (name:=Str.ofString "__getitem__") dd.typeIs F.slot_dict_getitem (wpAny_call_entry F.slot_dict_getitem dd.typeIs F.entry_dict_getitem ?_ (F.args_dict_getitem_2 _ _)))));show wpAny (model X.prog X.w) _ (dictGet a u >>= _) _ _ s;refine wpAny_bind (xAlw (show A.in1.units+1<cLine from (by show A.units+1+1<cLine;omega)) (g.is I ry) dd ?_);rw [hw];exact wpAny_pure ⟨w',rfl,wpAny_pure (h w' _ (I.tok _) rw')⟩
theorem xAjq {Q:Bool->Shared->Prop} (hu:A.units+2<cLine) (I:Inv X pins σ H s) (e:Rd H a (.dG kvs)) (g:GK H k y) (ry:RelV y u) (h:∀ s',Inv X pins σ H s'->Q (vG kvs k).isSome s') :
  wpAny (model X.prog X.w) A (contains (.ref a) u) Q E s:=by
 obtain ⟨z,hd,xs,rel,dd⟩:=gd_rd I e;have eo:(vG kvs k).isSome=(vG xs k).isSome:=(xAjp rel).isSome_eq;unfold contains
 try with_reducible refine wpAny_holding ?_
 refine wpAny_bind (wpAny_specialOf dd.typeIs F.slot_dict_contains.lookup ?_);show wpAny (model X.prog X.w) A (if (some (Value.builtin "dict.__contains__")==some Value.none)=true then _ else _) _ E s;rw [if_neg (by rw [beq_builtin_none];decide)];refine wpAny_bind (wpAny_callSpecialUnlessNone?_slot (name:=Str.ofString "__contains__") dd.typeIs F.slot_dict_contains (wpAny_call_entry F.slot_dict_contains dd.typeIs F.entry_dict_contains ?_ (F.args_dict_contains_2 _ _)));show wpAny (model X.prog X.w) _ (dictGet a u >>= _) _ _ s;refine wpAny_bind (xAlw (show A.in1.units+1<cLine from (by show A.units+1+1<cLine;omega)) (g.is I ry) dd ?_)
 cases hf:vG xs k with
 | some p =>
  rw [hf] at eo;refine wpAny_pure ⟨Value.bool true,rfl,wpAny_truthy_bool ?_⟩;have:=h _ (I.tok (s.toks+gDraws X.prog X.w k));rw [eo] at this;exact this
 | none =>
  rw [hf] at eo;show wpAny (model X.prog X.w) _ (Builtin.Dict.pendingKey? a u >>= _) _ _ _;refine wpAny_bind (wpAny_pendingKey_other hd (wpAny_pure ⟨Value.bool false,rfl,wpAny_truthy_bool ?_⟩));have:=h _ (I.tok (s.toks+gDraws X.prog X.w k));rw [eo] at this;exact this
theorem xAlz {Q:Unit->Shared->Prop} (hu:A.units+2<cLine) (I:Inv X pins σ H s) (e:H a=some (.dG kvs)) (g:GK H k y) (hl:kvs.length<sizeLine) (ry:RelV y u) (rv:RelV v r) (h:∀ s',Inv X pins σ (upd H a (.dG (pG kvs k y v))) s'->Q () s') :
  wpAny (model X.prog X.w) A (setItem (.ref a) u r) Q E s:=by
 obtain ⟨z,hd,xs,rel,dd⟩:=gd_rd I (.inl e);unfold setItem
 try with_reducible refine wpAny_holding ?_
 refine wpAny_bind (wpAny_sequenceKey dd.typeIs (by decide) (wpAny_bind (wpAny_callSpecial?_slot (name:=Str.ofString "__setitem__") dd.typeIs F.slot_dict_setitem (wpAny_call_entry F.slot_dict_setitem dd.typeIs F.entry_dict_setitem ?_ (F.args_dict_setitem_3 _ _ _)))));show wpAny (model X.prog X.w) _ (Builtin.Dict.notOrdered "__setitem__" ⟨[.ref a,u,r],[]⟩ >>= _) _ _ s;refine wpAny_bind (wpAny_notOrdered_dict dd.typeIs ?_);show wpAny (model X.prog X.w) _ (dictSet a u r >>= _) _ _ s;refine wpAny_bind (xApx (show A.in1.units+1<cLine from (by show A.units+1+1<cLine;omega)) (g.is I ry) dd (by rw [← xAlx rel];exact z) fun h' dd' hs'=>wpAny_pure ⟨Value.none,rfl,wpAny_pure (h _ ?_)⟩);obtain ⟨q,es,ep,hq,h2,h3,h4,_,h5⟩:=dd';have hlen:=xAlu kvs k y v;refine xAeo I (by rw [e];exact True.intro) hs' ⟨q,hq⟩ ⟨by omega,hd,_,Paired.mapP (xArp rel g ry rv) fun p q z=>⟨z.1,z.2.1.stay fun b xs hb=>?_,z.2.2⟩,q,es,ep,hq,h2,h3,h4,h5⟩;rw [xAag (ne_of hb e (fun z=>nomatch z))];exact hb
end
def tDGetG (td ty:TE):TE:=fun σ H Q=>td σ H fun x H1=>ty σ H1 fun y H2=>∃ a kvs k v,x=.ref a/\Rd H2 a (.dG kvs)/\GK H2 k y/\vG kvs k=some v/\Q v H2
def rInG (neg:Bool):R2:=fun y x H Q=>∃ a kvs k,x=.ref a/\Rd H a (.dG kvs)/\GK H k y/\Q (.bl (if neg then !(vG kvs k).isSome else (vG kvs k).isSome)) H
def sDPutG (td ty tv:TE):TS:=fun D σ H=>tv σ H fun v H1=>td σ H1 fun x H2=>ty σ H2 fun y H3=>∃ a kvs k,x=.ref a/\H3 a=some (.dG kvs)/\GK H3 k y/\kvs.length<sizeLine/\D.nx σ (upd H3 a (.dG (pG kvs k y v)))
section
variable {X:Cx} {o i e value:Expr} {pos pos' tpos:Pos} {td ty tv:TE}
theorem xAbd (hu:X.A.units+2<cLine) (ho:PE X o td) (hi:PE X i ty) (hs:NoSl i):PE X (.Subscript o i pos) (tDGetG td ty):=by
 intro pins s σ H Q I h;refine xAph PySem.F.slot_dict_getitem.lookup hs (thn (ho pins s σ H _ I h) fun u s1 ⟨x,H1,I1,rx,q1⟩=>thn (hi pins s1 σ H1 _ I1 q1) fun iv s2 ⟨y,H2,I2,ry,a,kvs,k,v,ex,rd,g,l,q2⟩=>?_);subst ex;obtain rfl:u=Value.ref a:=rx;obtain ⟨_,_,xs,_,dd⟩:=gd_rd I2 rd;exact ⟨dd.typeIs,xAly hu I2 rd g l ry fun w' s3 I3 rw'=>⟨v,H2,I3,rw',q2⟩⟩
theorem xAol (hu:X.A.units+2<cLine):OpR X (compareOp .NotIn) (rInG true):=by
 intro pins s σ H x y v u Q I rx ry h;obtain ⟨a,kvs,k,rfl,rd,g,q⟩:=h;cases ry;show wpAny (model X.prog X.w) X.A (do return Value.bool (!(← contains (.ref a) v))) _ _ s;exact wpAny_bind (xAjq hu I rd g rx fun s' I'=>wpAny_pure ⟨.bl _,H,I',rfl,q⟩)
theorem xAma (hu:X.A.units+2<cLine) (ho:PE X o td) (hi:PE X i ty) (hv:PE X value tv) (hs:swapsWith value (some (.Subscript o i pos')) pos.line X.env=pure false) :
  PS X (.Assign [.Subscript o i pos'] value pos) (sDPutG td ty tv):=by
 intro pins s σ H D I h;refine wpAny_Assign_Subscript (thn (hv pins s σ H _ I h) fun r s1 ⟨v,H1,I1,rv,q1⟩=>thn (ho pins s1 σ H1 _ I1 q1) fun u s2 ⟨x,H2,I2,rx,q2⟩=>thn (hi pins s2 σ H2 _ I2 q2) fun iv s3 ⟨y,H3,I3,ry,a,kvs,k,ex,e,g,hl,q3⟩=>?_) hs;subst ex;obtain rfl:u=Value.ref a:=rx;exact xAlz hu I3 e g hl ry rv fun s4 I4=>⟨σ,_,I4,q3⟩
def tDctG:TE:=fun _ H Q=>∀ p H',H p=none->Same H H'->H' p=some (.dG [])->Q (.ref p) H'
theorem xArq {P:Program} {w:World} {H:Hp} (h:Heap) (hb:sysModules<h.objs.size):ObjOk P w H (h.push { cls:=.type "dict",data:=.dict #[] }) h.objs.size (.dG []) :=
 ⟨zm _,beq_eq_false_iff_ne.mpr (Ne.symm (qu hb)),[],.nil,_,#[],0,Heap.get?_push_size _ rfl,⟨rfl,rfl,rfl⟩,rfl,rfl,jf⟩
theorem xAij:PE X (.Dict [] [] pos) tDctG:=fun pins s σ H Q I h =>
 wpAny_Dict_empty ⟨.ref s.heap.objs.size,_,I.laid (a:=s.heap.objs.size) (o:=.dG []) (t':=s.toks) (fun _ _ q=>Heap.get?_push_of_some _ q) (qg _) (xArq s.heap I.big),rfl,h _ _ (I.hok.fresh (qg _)) (Same.new (I.hok.fresh (qg _))) xAae⟩
end
theorem xAhc:typeLookup (.type "list") "keys"=pure none:=by rw [typeLookup_type,builtinLookup_eq_fast];kernel_rfl
section
variable {prog:Program} {w:World} {A:Around} {E:Value->Shared->Prop}
theorem xAuk {s:Shared} {a:Addr} {xs:Array Value} {k:Nat} {sl:Array (Option Value)} {Q:Option Value->Shared->Prop} (hx:s.heap.get? a=some { cls:=.type "list",dict:=none,data:=.seq xs k,slots:=sl }) (hA:A.handled=none)
  (h:∀ h' tk,Ext s.heap h'->Q none { s with heap:=h',toks:=tk }):wpAny (model prog w) A (getAttr? (.ref a) "keys") Q E s:=by
 obtain ⟨hp,g,d,tk,os⟩:=s;have hT:∀ tk',(⟨hp,g,d,tk',os⟩:Shared).TypeIs (.ref a) "list":=fun _=>⟨_,hx,rfl⟩;have f1:=sub_AttributeError;have f3:=F.slot_list_getattribute.lookup;have f4:=F.slot_list_getattribute.bind (.ref a);have f5:=am_list_getattr_none
 have z:(Str.ofString "keys").length+100≤sizeLine:=by
  have:=xAak (n:=1000) (qg _);have e:(Str.ofString "keys").length=4:=rfl;omega
 unfold getAttr? getAttrBy? getAttrBy
 repeat (any_goals (first | assumption | exact hT _ | ((with_reducible show wpAny _ _ (call (Value.builtin "list.__getattribute__") _ _) _ _ _);refine call_meets F.slot_list_getattribute (hT _) am_entry_list_getattribute (F.args_list_getattribute_2 _ _) (meets_getattribute_miss_list a xs k sl "keys" _ xAhc (by decide +kernel) z) ⟨hx,hA,fun h' tk' e hx'=>?_⟩) | wp_step))
 obtain ⟨t',u',he⟩:=hx'.there;show wpAny (model prog w) A (getattributeRaised _ _ _ _ _ _ _) _ _ _;unfold getattributeRaised
 repeat (any_goals (first | assumption | wp_step))
 exact h _ _ hx'.keeps
end
theorem xAik:entryFor table "dict.update.loop"=some Builtin.«dict.update.loop»:=entryFor_of_tree (by kernel_rfl)
theorem xAdk:plainId "dict.update.loop"=true:=by decide +kernel
def Tst (h h':Heap):Prop:=∀ b o,h.get? b=some o->o.cls=.type "tuple"->h'.get? b=some o
section
variable {P:Program} {w:World} {A:Around}
theorem xAjr {M:Model} {E:Value->Shared->Prop} {s:Shared} {b:Addr} {o:Obj} {xs:Array Value} {n:Nat} {Q:Option (Array Value)->Shared->Prop} (ho:s.heap.get? b=some o) (hd:o.data=.seq xs n) (q:Q (some xs) s):wpAny M A (seqItems? (.ref b)) Q E s:=by
 unfold seqItems?;refine wpAny_bind (wpAny_load ho ?_);rw [hd];exact wpAny_pure q
def putAll {α β:Type} (xs:List (KD×α×β)):List (KD×α×β)->List (KD×α×β)
 | []=>xs
 | e::r=>putAll (pG xs e.1 e.2.1 e.2.2) r
theorem xAmb {α β:Type} (ps:List (KD×α×β)):∀ xs,(putAll xs ps).length≤xs.length+ps.length:=by
 induction ps with
 | nil=>intro xs;exact qg _
 | cons e r ih =>
  intro xs;have h1:=ih (pG xs e.1 e.2.1 e.2.2);have h2:=xAlu xs e.1 e.2.1 e.2.2;show (putAll (pG xs e.1 e.2.1 e.2.2) r).length≤_;rw [qx];omega
def PairAt (P:Program) (w:World) (h:Heap) (v:Value) (e:KD×Value×Value):Prop:=∃ b,v=.ref b/\h.IsTuple b #[e.2.1,e.2.2]/\GIs P w h e.1 e.2.1
theorem PairAt.stay {h h':Heap} {v:Value} {e:KD×Value×Value} (p:PairAt P w h v e) (t:Tst h h'):PairAt P w h' v e:=by
 obtain ⟨b,rfl,⟨o,h1,h2,h3⟩,g⟩:=p;exact ⟨b,rfl,⟨o,t _ _ h1 h2,h2,h3⟩,g.ext t⟩
theorem GDict.keep {h h':Heap} {d:Addr} {xs:List (KD×Value×Value)} (g:GDict P w h d xs) (k:∀ o,h.get? d=some o->h'.get? d=some o) (t:Tst h h'):GDict P w h' d xs:=by
 obtain ⟨o,es,ep,h1,h2,h3,h4,h5,h6⟩:=g;exact ⟨o,es,ep,k o h1,h2,h3,h4,fun x hx=>(h5 x hx).ext t,h6⟩
theorem xAmc {h h':Heap} {I l:Addr} {i:Nat} (hit:h.IsListIter I l i) (k:∀ b o,b≠I->h.get? b=some o->h'.get? b=some o):Tst h h':=fun b o e c=>k b o (fun z=>by
 obtain ⟨o',e',c',_⟩:=hit;rw [z,e'] at e;cases e;rw [c'] at c
 exact absurd c (by decide)) e
theorem xArr {D I l:Addr} {items:Array Value} {R:Result->Shared->Prop} (hh:A.handled=none) (hu:A.units+2<cLine) (hIl:l≠I) (hDI:D≠I) (hDl:D≠l) :
  ∀ (ps:List (KD×Value×Value)) (i:Nat) (xs:List (KD×Value×Value)) (s:Shared) (j:Int) (u:Tok),i+ps.length=items.size->s.heap.IsListIter I l i->s.heap.IsList l items->GDict P w s.heap D xs->xs.length+ps.length≤sizeLine →
   (∀ (m:Nat) e,ps[m]?=some e->∃ v,items[i+m]?=some v/\PairAt P w s.heap v e) →
   (∀ s':Shared,(∀ b o,b≠I->b≠D->s.heap.get? b=some o->s'.heap.get? b=some o)->GDict P w s'.heap D (putAll xs ps)->(∃ tk,s'={ s with heap:=s'.heap,toks:=tk })->R (.ok (.ret .none)) s') →
   codeAny (model P w) A (.builtin "dict.update.loop" ⟨[.ref D,.ref I,.int j u,.none],[]⟩) R s:=by
 have W:=Walks.list (prog:=P) (w:=w) (A:=A.in1) (by simpa using hh) I l hIl items;intro ps
 induction ps with
 | nil =>
  intro i xs s j u hi hit hl hd hz hp hR
  have hi':i=items.size:=by simpa using hi
  subst hi';refine codeAny_builtin xAik ?_;rw [Around.under_plainId xAdk _];show wpAny (model P w) A.in1 (pyNext (.ref I) >>= _) _ _ s;refine wpAny_bind (W.done s _ _ ⟨hit,hl⟩ fun h' tk hk=>?_)
  have kI:∀ b o,b≠I->s.heap.get? b=some o->h'.get? b=some o:=fun b o hb e=>hk b o (by simpa using hb) e
  exact wpAny_bind (wpAny_pure (wpAny_pure (hR ⟨h',s.gens,s.drawn,tk,s.os⟩ (fun b o h1 _ e=>kI b o h1 e) (hd.keep (fun o e=>kI D o hDI e) (xAmc hit kI)) ⟨tk,rfl⟩)))
 | cons e ps ih =>
  intro i xs s j u hi hit hl hd hz hp hR;refine codeAny_builtin xAik ?_;rw [Around.under_plainId xAdk _];show wpAny (model P w) A.in1 (pyNext (.ref I) >>= _) _ _ s;refine wpAny_bind (W.item i s _ _ (by rw [qx] at hi;omega) ⟨hit,hl⟩ fun v h' tk hv st hk=>?_)
  have kI:∀ b o,b≠I->s.heap.get? b=some o->h'.get? b=some o:=fun b o hb e=>hk b o (by simpa using hb) e
  have ts:=xAmc hit kI;obtain ⟨v',hv',pv⟩:=hp 0 e rfl
  have ev:v'=v:=by
   rw [kf] at hv';rw [hv] at hv';exact (Option.some.inj hv').symm
  subst ev;have hd':=hd.keep (h':=h') (fun o e=>kI D o hDI e) ts;have pv':=pv.stay ts;obtain ⟨b,rfl,hb,ge⟩:=id pv'
  have hT:Shared.TypeIs ⟨h',s.gens,s.drawn,tk,s.os⟩ (.ref b) "tuple":=by
   obtain ⟨o,h1,h2,_⟩:=hb;exact ⟨o,h1,h2⟩
  obtain ⟨ob,hb1,hb2,nb,hb3⟩:=id hb
  have pr:∀ {Q:List Value->Shared->Prop} {E:Value->Shared->Prop},Q [e.2.1,e.2.2] ⟨h',s.gens,s.drawn,tk,s.os⟩->wpAny (model P w) A.in1 (Builtin.Dict.pairItems (.ref b)) Q E ⟨h',s.gens,s.drawn,tk,s.os⟩:=fun {Q E} q=>by
   unfold Builtin.Dict.pairItems;refine wpAny_bind (wpAny_typeOf hT ?_);rw [if_pos (by decide)];exact wpAny_bind (xAjr hb1 hb3 (wpAny_pure q))
  refine wpAny_bind (wpAny_holding (wpAny_bind (wpAny_tryCatch (pr ?_))));refine wpAny_holding (xApx (show A.in1.units+1<cLine from (by show A.units+1+1<cLine;omega)) ge hd' (by rw [qx] at hz;omega) fun h2 hd2 hs2=>?_)
  have tD:Tst h' h2:=fun b o e1 c=>(hs2.2 b (fun z=>by
   obtain ⟨o',_,_,e2,e3,_⟩:=hd';rw [z,e2] at e1;cases e1;rw [e3.1] at c
   exact absurd c (by decide))).trans e1
  refine wpAny_pure ⟨plainId_quiet xAdk _,ih (i+1) _ _ _ _ (by rw [qx] at hi;omega) ?_ ?_ hd2 ?_ (fun m e2 he2=>?_) fun s' hk' hd3 hs3=>?_⟩
  ·obtain ⟨o,h1,h2',h3⟩:=st.1
   exact ⟨o,(hs2.2 I (fun z=>hDI z.symm)).trans h1,h2',h3⟩
  ·obtain ⟨o,h1,h2',n,h3⟩:=st.2
   exact ⟨o,(hs2.2 l (fun z=>hDl z.symm)).trans h1,h2',n,h3⟩
  ·have:=xAlu xs e.1 e.2.1 e.2.2
   rw [qx] at hz;omega
  ·obtain ⟨v2,hv2,pv2⟩:=hp (m+1) e2 (by simpa using he2)
   exact ⟨v2,by rw [← hv2];congr 1;omega,(pv2.stay ts).stay tD⟩
  ·refine hR s' (fun b o h1 h2' e3=>hk' b o h1 h2' ((hs2.2 b h2').trans (kI b o h1 e3))) hd3 ?_
   obtain ⟨tk',e3⟩:=hs3;exact ⟨tk',by rw [e3]⟩
theorem xAmd {s:Shared} {l:Addr} {items:Array Value} {n:Nat} {sl:Array (Option Value)} {E:Value->Shared->Prop} {Q:Value->Shared->Prop} {ps:List (KD×Value×Value)} (hh:A.handled=none) (hu:A.units+4<cLine) (hl:s.heap.get? l=some { cls:=.type "list",dict:=none,data:=.seq items n,slots:=sl })
  (hn:ps.length=items.size) (hz:ps.length≤sizeLine) (hp:∀ (m:Nat) e,ps[m]?=some e->∃ v,items[m]?=some v/\PairAt P w s.heap v e)
  (h:∀ h' tk d,Ext s.heap h'->s.heap.objs.size≤d->GDict P w h' d (putAll [] ps)->Q (.ref d) { s with heap:=h',toks:=tk }):wpAny (model P w) A (call (.type "dict") [.ref l]) Q E s:=by
 refine callType_codes (Q₁:=fun obj s₁=>obj=.ref s.heap.objs.size/\s₁={ s with heap:=s.heap.push { cls:=.type "dict",data:=.dict #[] } }) F.kt_called_dict (F.kt_typeCall_dict_1 _) F.entry_dict_init (kt_code_dict_new _ ⟨rfl,rfl⟩) ?_;rintro obj s₁ ⟨rfl,rfl⟩;have new:GDict P w (s.heap.push { cls:=.type "dict",data:=.dict #[] }) s.heap.objs.size []:=⟨_,#[],0,Heap.get?_push_size _ rfl,⟨rfl,rfl,rfl⟩,rfl,rfl,fun x hx=>(nomatch hx),jf⟩;have hl1:(s.heap.push { cls:=.type "dict",data:=.dict #[] }).get? l=some { cls:=.type "list",dict:=none,data:=.seq items n,slots:=sl }:=Heap.get?_push_of_some _ hl;have hT:Shared.TypeIs { s with heap:=s.heap.push { cls:=.type "dict",data:=.dict #[] } } (.ref s.heap.objs.size) "dict":=GDict.typeIs (P:=P) (w:=w) (s:={ s with heap:=s.heap.push { cls:=.type "dict",data:=.dict #[] } }) new;refine ⟨hT,F.args_dict_init_2 _ _,?_⟩;unfold Builtin.«dict.__init__»;refine wpAny_bind ?_;unfold Builtin.Dict.selfAndRest;refine wpAny_bind (wpAny_notOrdered_dict hT (wpAny_pure ?_));show wpAny (model P w) _ (Builtin.Dict.updateFrom "dict.__init__" s.heap.objs.size (.ref l) [] .none) _ _ _;unfold Builtin.Dict.updateFrom;refine wpAny_bind (wpAny_typeOf (show Shared.TypeIs { s with heap:=s.heap.push { cls:=.type "dict",data:=.dict #[] } } (.ref l) "list" from ⟨_,hl1,rfl⟩) ?_);rw [if_pos (by decide)];refine wpAny_bind (xAuk hl1 (by simpa using hh) fun h1 t1 x1=>?_);rw [if_pos (by rfl)];have hl2:h1.IsList l items:=⟨_,x1 _ _ hl1,rfl,n,rfl⟩;refine wpAny_bind (wpAny_rule (wpAny_bind (wpAny_pyIter_list hl2 ?_)))
 have lD:s.heap.objs.size<h1.objs.size:=by
  obtain ⟨o,_,_,e,_⟩:=new;exact Heap.lt_size (x1 _ _ e)
 have lI:l<h1.objs.size:=Heap.lt_size (x1 _ _ hl1);have lS:l<s.heap.objs.size:=Heap.lt_size hl
 have nS:∀ b o,s.heap.get? b=some o->b≠h1.objs.size/\b≠s.heap.objs.size:=fun b o e=>by
  have:=Heap.lt_size e;exact ⟨qu (yq this lD),qu this⟩
 have t1':Tst (s.heap.push { cls:=.type "dict",data:=.dict #[] }) (h1.push { cls:=.type "list_iterator",data:=.fields #[.ref l,.int 0 0] }):=fun b o e _=>Heap.get?_push_of_some _ (x1 _ _ e);refine wpAny_pure ⟨plainId_quiet xAdk _,xArr (A:=A.in1) (l:=l) (items:=items) (by simpa using hh) (show A.units+1+2<cLine by omega) (Nat.ne_of_lt lI) (Nat.ne_of_lt lD) (Nat.ne_of_gt lS) ps 0 [] _ _ _ (by rw [Nat.zero_add];exact hn) ⟨_,Heap.get?_push_size _ rfl,rfl,rfl⟩ (hl2.push _) (new.keep (fun o e=>Heap.get?_push_of_some _ (x1 _ _ e)) t1') (by simpa using hz) (fun m e he=>?_) fun s' hk hd hs=>?_⟩
 ·obtain ⟨v,hv,pv⟩:=hp m e he
  exact ⟨v,by rw [yu];exact hv,(pv.stay (fun b o e _=>Heap.get?_push_of_some _ e)).stay t1'⟩
 ·obtain ⟨tk,es⟩:=hs
  rw [es] at hd ⊢;exact ⟨rfl,h _ tk _ (fun b o e=>hk b o (nS b o e).1 (nS b o e).2 (Heap.get?_push_of_some _ (x1 _ _ (Heap.get?_push_of_some _ e)))) (qg _) hd⟩
end
def PrsV (H:Hp):List V->List (KD×V×V)->Prop
 | [],[]=>True
 | y::ys,e::es=>(∃ b,y=.ref b/\H b=some (.tup [e.2.1,e.2.2])/\GK H e.1 e.2.1)/\PrsV H ys es
 | _,_=>False
section
variable {X:Cx} {pins:List (Addr×Obj)} {σ:St} {H:Hp} {s:Shared}
theorem xAul (I:Inv X pins σ H s):∀ {ys:List V} {us:List Value} {kvs:List (KD×V×V)},Vals ys us->PrsV H ys kvs->∃ ps,Paired (GP H) kvs ps/\ps.length=us.length/\∀ (m:Nat) e,ps[m]?=some e->∃ v,us[m]?=some v/\PairAt X.prog X.w s.heap v e
 | [],_,[],.nil,_=>⟨[],.nil,rfl,fun m e z=>by cases z⟩
 | [],_,_::_,.nil,h=>h.elim
 | _::_,_,[],.cons _ _,h=>h.elim
 | y::ys,_,e::es,.cons r t,h=>by
  obtain ⟨⟨b,rfl,hb,g⟩,h2⟩:=h;obtain ⟨ps,p1,p2,p3⟩:=xAul I t h2;cases r;obtain ⟨its,rv,⟨o,e1,e2,n,e3⟩,_⟩:=I.tuple (SqT.of hb);obtain ⟨u1,u2,rfl,r1,r2⟩:=rv.two;refine ⟨(e.1,u1,u2)::ps,.cons ⟨rfl,g,r1,r2⟩ p1,by rw [qx,qx,p2],fun m e' he'=>?_⟩
  cases m with
  | zero =>
   cases he';exact ⟨_,rfl,b,rfl,⟨o,e1,e2,n,e3⟩,g.is I r1⟩
  | succ m =>
   obtain ⟨v,h1,h2⟩:=p3 m e' (by simpa using he');exact ⟨v,by simpa using h1,h2⟩
theorem xAil:∀ {l:List (KD×V×V)} {m:List (KD×Value×Value)},Paired (GP H) l m->∀ {a:List (KD×V×V)} {b:List (KD×Value×Value)},Paired (GP H) a b->Paired (GP H) (putAll a l) (putAll b m)
 | _,_,.nil,_,_,t=>t
 | _,_,.cons (a:=p) (b:=q) f t,a,b,t2=>by
  show Paired (GP H) (putAll (pG a p.1 p.2.1 p.2.2) _) (putAll (pG b q.1 q.2.1 q.2.2) _);rw [← f.1];exact xAil t (xArp t2 f.2.1 f.2.2.1 f.2.2.2)
def rDictG (K:PySem.W.Frag):List V->Hp->VK->Prop:=fun xs H Q=>∃ p ys kvs,xs=[.ref p]/\SqL K H p ys/\PrsV H ys kvs/\ys.length≤2000/\∀ q H',H q=none->Same H H'->H' q=some (.dG (putAll [] kvs))->Q (.ref q) H'
theorem xAgh (hh:X.A.handled=none) (hu:X.A.units+4<cLine):CallR X (.type "dict") (rDictG X.K):=by
 intro pins s σ H xs us Q I r h;obtain ⟨p,ys,kvs,rfl,hq,hp,hz,q⟩:=h;obtain ⟨u,rfl,ru⟩:=vals1 r;cases ru;obtain ⟨its,rv,⟨o,n,e,c1,c2,c3⟩,_⟩:=I.list hq;obtain ⟨cls,dict,data,sl⟩:=o;dsimp only at c1 c2 c3;subst c1 c2 c3;obtain ⟨ps,p1,p2,p3⟩:=xAul I rv hp;have hl:=rv.length
 have zz:2000≤sizeLine:=by decide
 refine xAmd hh hu e (by rw [zd];exact p2) (by omega) (fun m e' he'=>?_) fun h' tk d x hd g=>?_
 ·obtain ⟨v,h1,h2⟩:=p3 m e' he'
  exact ⟨v,by simpa using h1,h2⟩
 ·obtain ⟨o',es,ep,g1,g2,g3,g4,_,g6⟩:=g
  have fr:H d=none:=I.hok.fresh hd;have ln:=xAmb kvs [];have lk:=xAlx p1;refine ⟨.ref d,upd H d (.dG (putAll [] kvs)),I.laid x hd ⟨?_,?_,_,Paired.mapP (xAil p1 .nil) fun a b z=>⟨z.1,z.2.1.stay fun b xs hb=>?_,z.2.2⟩,o',es,ep,g1,g2,g3,g4,g6⟩,rfl,q d _ fr (Same.new fr) xAae⟩
  ·rw [vm] at ln
   omega
  ·exact beq_eq_false_iff_ne.mpr (Ne.symm (qu (zn I.big hd)))
  ·rw [xAag (xAab hb fr)]
   exact hb
end
section
variable {P:Program} {w:World} {A:Around} {E:Value->Shared->Prop} {s:Shared}
theorem gm_len {d:Addr} (hd:(d==sysModules)=false):MeetsIn P w (Builtin.«dict.__len__» ⟨[.ref d],[]⟩) (fun _ R s=>∃ xs,GDict P w s.heap d xs/\R (.ok (.ret (.int xs.length s.toks))) { s with toks:=s.toks+1 }) :=
 .of_wp fun A R s ⟨xs,g,h⟩=>by
  obtain ⟨o,es,ep,ho,hc,hdat,he,_,_⟩:=g;show wpAny (model P w) _ (dictSize d >>= _) _ _ s;unfold dictSize;refine wpAny_bind (wpAny_bind (wpAny_dictEntries ho hdat (wpAny_pure ?_)));refine wpAny_bind (wpAny_pendingCount_other hd (wpAny_ret_mkInt ?_))
  have e:es.size=xs.length:=by rw [← qy,he,qj]
  rw [kf,e];exact h
theorem gd_len {d:Addr} {xs:List (KD×Value×Value)} {Q:Value->Shared->Prop} (hd:(d==sysModules)=false) (g:GDict P w s.heap d xs) (hz:xs.length≤sizeLine) (h:Q (.int xs.length (s.toks+1)) { s with toks:=s.toks+1+1 }):wpAny (model P w) A (call (.builtin "len") [.ref d]) Q E s:=by
 refine Calls.call_function_entry kind_len plain_len entry_len (args_len1 _) ?_;unfold Builtin.«len»;refine wpAny_bind (m:=oneArg "len" _) (wpAny_pure (wpAny_bind (m:=callSpecial? (.ref d) (Str.ofString "__len__")) (wpAny_callSpecial?_slot (name:=Str.ofString "__len__") g.typeIs F.slot_dict_len (call_meetsIn F.slot_dict_len g.typeIs F.entry_dict_len (F.args_dict_len_1 _) (gm_len hd) ⟨xs,g,?_⟩))));show wpAny (model P w) _ _ _ _ { s with toks:=s.toks+1 };refine wpAny_bind (wpAny_holding (wpAny_pure (wpAny_bind (wpAny_letGo ?_))));rw [sizeLine_eq] at hz;show wpAny (model P w) _ (if ((xs.length:Nat):Int)<0 then _ else _) _ _ _;rw [if_neg (by omega)];show wpAny (model P w) _ (if ((xs.length:Nat):Int)≥2 ^ 63 then _ else _) _ _ _;rw [if_neg (by omega)];exact wpAny_bind (wpAny_mkInt (wpAny_pure ⟨_,rfl,h⟩))
theorem xAum {d:Addr} {v dflt:Value} (hd:(d==sysModules)=false):MeetsIn P w (Builtin.«dict.get» ⟨[.ref d,v,dflt],[]⟩) (fun A R s=>A.in1.units+1<cLine/\∃ k xs,GIs P w s.heap k v/\GDict P w s.heap d xs/\R (.ok (.ret ((vG xs k).getD dflt))) { s with toks:=s.toks+gDraws P w k }) :=
 .of_wp fun A R s ⟨hu,k,xs,a,g,h⟩=>by
  show wpAny (model P w) _ (dictGet d v >>= _) _ _ s;refine wpAny_bind (xAlw hu a g ?_)
  cases e:vG xs k with
  | some u=>rw [e] at h;exact wpAny_pure ⟨u,rfl,h⟩
  | none =>
   rw [e] at h;show wpAny (model P w) _ (Builtin.Dict.missed d v >>= _) _ _ _;exact wpAny_bind (wpAny_missed_other hd (wpAny_pure ⟨dflt,rfl,h⟩))
theorem xAme {d:Addr} {xs:List (KD×Value×Value)} {k:KD} {v val:Value} {Q:Value->Shared->Prop} (hu:A.units+1<cLine) (a:GIs P w s.heap k v) (g:GDict P w s.heap d xs) (hsz:xs.length≤sizeLine)
  (h1:∀ u,vG xs k=some u->Q u { s with toks:=s.toks+gDraws P w k })
  (h2:vG xs k=none->∀ h',GDict P w h' d (pG xs k v val)->Heap.SameBut d s.heap h'->Q val { s with heap:=h',toks:=s.toks+gDraws P w k }):wpAny (model P w) A (dictSetDefault d v val) Q E s:=by
 obtain ⟨o,es,ep,ho,hc,hd,he,his,hn⟩:=g
 have sz:es.size=xs.length:=by rw [← qy,he,qj]
 unfold dictSetDefault
 try with_reducible refine wpAny_holding ?_
 refine wpAny_bind (a.hash hu (wpAny_bind (xAoj (s:={ s with toks:=s.toks+gDraws P w k }) hu a ho hd he his hn ?_)))
 cases e:gIdx xs k with
 | none =>
  have hv:=xAgg (xAlv e);refine wpAny_bind (wpAny_rule (wpAny_bind (wpAny_updateDictKeys (hz:=by omega) (s:={ s with toks:=s.toks+gDraws P w k }) ho hd (wpAny_pure (h2 hv _ ⟨_,_,ep+1,Heap.get?_update_self _ ho (Obj.isFreed_of_dict (Obj.data_mapDictKeys hd _)),hc.mapDictKeys _,Obj.data_mapDictKeys hd _,?_,fun x hx=>?_,xAha hn⟩ (Heap.SameBut.update ..))))))
  ·unfold pG
   rw [hv,if_neg (by decide)]
   simp [he,gEnt]
  ·unfold pG at hx
   rw [hv,if_neg (by decide)] at hx;rcases qz.mp hx with hx | hx
   ·exact xAdy (es:=es) (ep:=ep) ho hc (Heap.SameBut.update ..) (his x hx)
   ·rw [zb.mp hx]
    exact xAdy (es:=es) (ep:=ep) ho hc (Heap.SameBut.update ..) a
 | some j =>
  obtain ⟨x,hx,ex⟩:=xAhb e;have hv:=xAgf hn hx ex;refine wpAny_bind (wpAny_dictEntries (s:={ s with toks:=s.toks+gDraws P w k }) ho hd ?_);rw [← z6,he,qt,hx];exact wpAny_bind (wpAny_rule (wpAny_pure (h1 _ hv)))
theorem xAom {d:Addr} {v dflt:Value} (hd:(d==sysModules)=false):MeetsIn P w (Builtin.«dict.setdefault» ⟨[.ref d,v,dflt],[]⟩) (fun A R s=>A.in1.units+1<cLine/\∃ k xs,GIs P w s.heap k v/\GDict P w s.heap d xs/\xs.length≤sizeLine ∧
      (∀ u,vG xs k=some u->R (.ok (.ret u)) { s with toks:=s.toks+gDraws P w k })/\(vG xs k=none->∀ h',GDict P w h' d (pG xs k v dflt)->Heap.SameBut d s.heap h'->R (.ok (.ret dflt)) { s with heap:=h',toks:=s.toks+gDraws P w k })) :=
 .of_wp fun A R s ⟨hu,k,xs,a,g,hz,h1,h2⟩=>by
  unfold Builtin.«dict.setdefault»;refine wpAny_bind ?_;unfold Builtin.Dict.keyAndDefault;refine wpAny_bind (wpAny_notOrdered_dict g.typeIs (wpAny_pure ?_));show wpAny (model P w) _ (if (d==sysModules)=true then _ else (dictSetDefault d v dflt >>= _)) _ _ s;rw [if_neg (by rw [hd];decide)];exact wpAny_bind (xAme hu a g hz (fun u hv=>wpAny_pure ⟨u,rfl,h1 u hv⟩) fun hv h' g' hs'=>wpAny_pure ⟨dflt,rfl,h2 hv h' g' hs'⟩)
end
theorem xArs {a:Option V} {b:Option Value} {x:V} {u:Value} (h:RelO a b) (r:RelV x u):RelV (a.getD x) (b.getD u):=by
 cases a <;> cases b <;> first | exact h | exact r | exact h.elim
section
variable {X:Cx}
theorem xAon:CallR X (.builtin "len") (fun xs H Q=>∃ a kvs,xs=[V.ref a]/\H a=some (.dG kvs)/\Q (.int kvs.length) H):=by
 intro pins s σ H xs us Q I r h;obtain ⟨a,kvs,rfl,ha,q⟩:=h;obtain ⟨u,rfl,ru⟩:=vals1 r;cases ru;obtain ⟨z,hd,ys,rel,dd⟩:=gd_rd I (.inl ha);have e:=xAlx rel;refine gd_len hd dd (by omega) ⟨.int kvs.length,H,I.tok _,⟨_,by rw [e]⟩,q⟩
def rGet2:V->List V->Hp->VK->Prop:=fun x vs H Q=>∃ a kvs k y d,x=.ref a/\vs=[y,d]/\H a=some (.dG kvs)/\GK H k y/\Q ((vG kvs k).getD d) H
def rSetDef:V->List V->Hp->VK->Prop:=fun x vs H Q=>∃ a kvs k y d,x=.ref a/\vs=[y,d]/\H a=some (.dG kvs)/\GK H k y/\kvs.length<sizeLine/\(∀ u,vG kvs k=some u->Q u H)/\(vG kvs k=none->Q d (upd H a (.dG (pG kvs k y d))))
theorem xAmf (hu:X.A.units+2<cLine):MtM X "dict.get" rGet2:=by
 intro pins s σ H x xs v us Q I rx rv h;obtain ⟨a,kvs,k,y,d,rfl,rfl,ha,g,q⟩:=h;obtain ⟨u,u2,rfl,ru,ru2⟩:=rv.two;cases rx;obtain ⟨z,hd,ys,rel,dd⟩:=gd_rd I (.inl ha);exact call_meetsIn F.slot_dict_get dd.typeIs F.entry_dict_get (F.args_dict_get_3 _ _ _) (xAum hd) ⟨hu,k,ys,g.is I ru,dd,⟨_,H,I.tok _,xArs (xAjp rel) ru2,q⟩⟩
theorem xAmg (hu:X.A.units+2<cLine):MtM X "dict.setdefault" rSetDef:=by
 intro pins s σ H x xs v us Q I rx rv h;obtain ⟨a,kvs,k,y,d,rfl,rfl,ha,g,hl,q1,q2⟩:=h;obtain ⟨u,u2,rfl,ru,ru2⟩:=rv.two;cases rx;obtain ⟨z,hd,ys,rel,dd⟩:=gd_rd I (.inl ha);have eo:=xAjp (k:=k) rel;refine call_meetsIn F.slot_dict_setdefault dd.typeIs F.entry_dict_setdefault (F.args_dict_setdefault_3 _ _ _) (xAom hd) ⟨hu,k,ys,g.is I ru,dd,by rw [← xAlx rel];exact z,fun w' hw=>?_,fun hw h' dd' hs'=>?_⟩
 ·rw [hw] at eo
  cases e:vG kvs k with
  | none=>rw [e] at eo;exact eo.elim
  | some v=>rw [e] at eo;exact ⟨v,H,I.tok _,eo,q1 v e⟩
 ·rw [hw] at eo
  cases e:vG kvs k with
  | some v=>rw [e] at eo;exact eo.elim
  | none =>
   obtain ⟨q,es,ep,hq,h2,h3,h4,_,h5⟩:=dd';have hlen:=xAlu kvs k y d;refine ⟨d,upd H a (.dG (pG kvs k y d)),xAeo I (by rw [ha];exact True.intro) hs' ⟨q,hq⟩ ⟨by omega,hd,_,Paired.mapP (xArp rel g ru ru2) fun p q z=>⟨z.1,z.2.1.stay fun b xs hb=>?_,z.2.2⟩,q,es,ep,hq,h2,h3,h4,h5⟩,ru2,q2 e⟩;rw [xAag (ne_of hb ha (fun z=>nomatch z))];exact hb
end
theorem hu4 {A:Around} {k:Nat} (hr:Room k A):A.units+4<cLine:=by have:=hr.units;omega
theorem hu2 {A:Around} {k:Nat} (hr:Room k A):A.units+2<cLine:=by have:=hr.units;omega
section
variable {X:Cx}
end
theorem xAun {js:List Nat} {ix:List Nat} (h:ix.Perm (List.range js.length)):(ix.map fun i=>js.getD i 0).Perm js:=by
 have:=h.map fun i=>js.getD i 0;refine this.trans (.of_eq ?_);apply wp;intro i;rw [qt]
 by_cases hi:i<js.length
 ·rw [wa hi,qi hi]
  show some (js.getD i 0)=_;rw [qo,qi hi];rfl
 ·rw [List.getElem?_eq_none (by simpa using hi),List.getElem?_eq_none (by omega)];rfl
theorem xAoo {ds:List PyData} (h:∀ d∈ds,noB d=true):PyData.eqv (.list ds) (.list ds)=true:=(xAhz _ _ (by rw [noB];exact xAdu h) (by rw [noB];exact xAdu h)).mpr rfl
theorem xAdz:∀ {ds:List PyData} {k:Nat},(∀ d∈ds,d.depth≤k)->PyData.depthAll ds≤k
 | [],_,_=>zm _
 | d::ds,k,h=>by
  have a:=h d qp;have b:=xAdz (ds:=ds) fun x hx=>h x (qr _ hx);show max d.depth (PyData.depthAll ds)≤k;omega
section
variable {P:Program} {w:World} {fs:List Addr} {H H1:Hp} {h h1 h2:Heap}
theorem Un.later (u:Un fs [] H H1 h h1) (k:∀ b o,b<h.objs.size->h1.get? b=some o->h2.get? b=some o):Un fs [] H H1 h h2 where
 keep:=fun b o q n hb hx=>k b o (Heap.lt_size q) (u.keep b o q n hb hx)
 slot:=fun b o q n hb hx=>let ⟨sl,e⟩:=u.slot b o q n hb hx;⟨sl,k b _ (Heap.lt_size q) e⟩
 free:=u.free
 there:=fun b o q hx=>let ⟨o',e⟩:=u.there b o q hx;⟨o',k b o' (Heap.lt_size q) e⟩
 tups:=u.tups
 frzs:=u.frzs
 tbls:=u.tbls
theorem HOk.other {a:Addr} (x:HOk P w H h) (k:∀ b u,b≠a->h.get? b=some u->h2.get? b=some u) (hn:H a=none):HOk P w H h2:=fun b o e=>by
 have ne:∀ {c u},H c=some u->c≠a:=fun q z=>by rw [z,hn] at q;cases q
 refine (x b o e).stay (fun c u hc q=>k c u ?_ q) (fun _ q=>q) fun _ _ q=>q;rcases hc with rfl | hc
 ·exact ne e
 ·exact ne hc
theorem HOk.adopt {a:Addr} {o:HO} (x:HOk P w H h) (hn:H a=none) (new:ObjOk P w (upd H a o) h a o):HOk P w (upd H a o) h:=fun b u e=>by
 by_cases hb:b=a
 ·subst hb;rw [xAae] at e;cases e;exact new
 ·rw [xAag hb] at e
  refine (x b u e).stay (fun _ _ _ q=>q) (fun c q=>?_) fun c xs q=>?_
  ·rw [xAag (fun z=>by rw [z,hn] at q;cases q)];exact q
  ·rw [xAag (fun z=>by rw [z,hn] at q;cases q)];exact q
theorem Un.adopt {a:Addr} {o:HO} (u:Un fs [] H H1 h h1) (ha:h.objs.size≤a) (hn:H1 a=none):Un fs [] H (upd H1 a o) h h1 where
 keep:=u.keep
 slot:=u.slot
 free:=fun b ob q n hx=>by
  rw [xAag (qu (zn (Heap.lt_size q) ha))];exact u.free b ob q n hx
 there:=u.there
 tups:=fun b xs q=>by
  have:=u.tups b xs q;rw [xAag (fun z=>by rw [z,hn] at this;cases this)];exact this
 frzs:=fun b ob v q=>by
  have:=u.frzs b ob v q;rw [xAag (fun z=>by rw [z,hn] at this;cases this)];exact this
 tbls:=fun b ps q=>by
  obtain ⟨m,this⟩:=u.tbls b ps q;exact ⟨m,by rw [xAag (fun z=>by rw [z,hn] at this;cases this)];exact this⟩
end
def SrtOk (n:Nat) (ds:List PyData):Prop:=n≤2000/\(n<64\/ds.Pairwise fun a b=>ltD a b=true)
theorem SrtOk.few {n:Nat} {ds:List PyData} (h:SrtOk n ds) (hl:ds.length=n) (W:Srt.Swo (ltK ds)):Few (ltK ds) n:=.inr trivial
def rSortK (K:PySem.W.Frag) (sp:Sp):List V->Hp->VK->Prop:=fun xs H Q=>∃ p ys ds t,xs=[.ref p]/\SqL K H p ys/\ds.length=ys.length/\KeysAre ds t/\SrtOk ys.length ds ∧
 (∀ (m:Nat) y d H' (Q':VK),ys[m]?=some y->ds[m]?=some d->Same H H'->(∀ H'' kv,Same H' H''->DV K H'' kv d->Q' kv H'')->sp [y] H' Q' E0) ∧
 ∀ q H' ix,H q=none->Same H H'->SortIx ds ix->H' q=some (.lst (ix.map fun i=>ys.getD i .non))->Q (.ref q) H'
section
variable {X:Cx} {pins:List (Addr×Obj)} {σ:St} {H:Hp} {s:Shared} {k:Nat} {fa:Addr} {fd:FuncData} {ps:List Str} {sp:Sp}
structure KSt (X:Cx) (H:Hp) (s:Shared) (a kS:Addr) (e1:Nat) (Hm:Hp) (s':Shared) (ks:List Value) (kvs:List V) (ds:List PyData):Prop where
 un:Un (frs X.stack) [] H Hm s.heap s'.heap
 hok:HOk X.prog X.w Hm s'.heap
 os:s'.os=s.os
 bare:AllBare s'.gens
 same:Same H Hm
 fa':Hm a=none
 fk:Hm kS=none
 ga:s'.heap.get? a=some (seqObj "list" #[] e1)
 gk:∃ e,s'.heap.get? kS=some (seqObj "list" ks.toArray e)
 vals:Vals kvs ks
 dv:DVs X.K Hm kvs ds
theorem xAmh {K:PySem.W.Frag} {H:Hp} {x:V} {d:PyData} (h:DV K H x d):∀ {xs:List V} {ds:List PyData},DVs K H xs ds->DVs K H (xs++[x]) (ds++[d])
 | _,_,.nil=>.cons h .nil
 | _,_,.cons a t=>.cons a (xAmh h t)
theorem xAmi {A':Around} {a kS:Addr} {e1:Nat} {E:Value->Shared->Prop} {R:Shared->Prop} (hcall:∀ (s':Shared) (Hm:Hp) (x:Value) (y:V) (Q:VK),Env0 X.prog X.w X.K X.mg X.base A' X.stack s' Hm->Un (frs X.stack) [] H Hm s.heap s'.heap->Same H Hm->RelV y x->sp [y] Hm Q E0->codeAny (model X.prog X.w) A' (.call (.ref fa) ⟨[x],[]⟩) (CR CX0 X.stack X.prog X.w Hm s' Q E0) s') (hfr:A'.frames=X.A.frames) (I:Inv X pins σ H s) (ha:s.heap.objs.size≤a) (hk:s.heap.objs.size≤kS) (hak:a≠kS) (nfa:a∉frs X.stack) (nfk:kS∉frs X.stack)
  {body:Value->PUnit->Sem (ForInStep PUnit)} (hbody:∀ x (s':Shared) (R':ForInStep PUnit->Shared->Prop),wpAny (model X.prog X.w) A' (call (.ref fa) [x]) (fun kv s2=>wpAny (model X.prog X.w) A' (Builtin.List.listUpdate (.ref kS) (·.push kv)) (fun _ s3=>R' (.yield ⟨⟩) s3) E s2) (fun _ _=>False) s'->wpAny (model X.prog X.w) A' (body x ⟨⟩) R' E s') :
  ∀ (r:List Value) (ry:List V) (rd:List PyData) (ks:List Value) (kvs:List V) (dd:List PyData) (Hm:Hp) (s':Shared),Vals ry r->rd.length=ry.length →
   (∀ (m:Nat) y d H' (Q':VK),ry[m]?=some y->rd[m]?=some d->Same H H'->(∀ H'' kv,Same H' H''->DV X.K H'' kv d->Q' kv H'')->sp [y] H' Q' E0) →
   ks.length+r.length≤2000->KSt X H s a kS e1 Hm s' ks kvs dd →
   (∀ Hn s'' ks' kvs',KSt X H s a kS e1 Hn s'' ks' kvs' (dd++rd)->ks'.length=ks.length+r.length->R s'')->wpAny (model X.prog X.w) A' (forIn r PUnit.unit body) (fun _ s''=>R s'') E s'
 | [],ry,rd,ks,kvs,dd,Hm,s',rv,hl,hsp,hz,st,fin=>by
  cases rv;rw [vm] at hl;rw [yk.mp hl] at fin;rw [List.forIn_nil];refine wpAny_pure (fin Hm s' ks kvs ?_ rfl);rw [zy];exact st
 | x::r,_,[],ks,kvs,dd,Hm,s',.cons _ _,hl,hsp,hz,st,fin=>absurd hl (by simp)
 | x::r,_,d::rd,ks,kvs,dd,Hm,s',.cons (a:=y) (l₁:=ry) r1 rv,hl,hsp,hz,st,fin=>by
  rw [List.forIn_cons];have I':Inv X pins σ Hm s':=I.call' st.os st.un st.hok st.bare (fun b z=>absurd z (by simp));have e0:=I'.env0;obtain ⟨ek,gk⟩:=st.gk;refine wpAny_bind (hbody x s' _ ?_);refine wpAny_call (codeAny_mono (hcall s' Hm x y (fun kv H2=>Same Hm H2/\DV X.K H2 kv d) ⟨hfr.trans e0.frames,e0.mod,e0.bs,e0.bsz,e0.funs,e0.frf,e0.hok,e0.bare⟩ st.un st.same r1 (hsp 0 y d Hm _ rfl rfl st.same fun H2 kv a1 a2=>⟨a1,a2⟩)) fun res s2 hq=>?_)
  cases res with
  | error e=>exact hq.elim
  | ok fl =>
   cases fl with
   | next=>exact hq.elim
   | brk=>exact hq.elim
   | cont=>exact hq.elim
   | ret u =>
    obtain ⟨v,H2,os2,bare2,un2,hok2,rel,same2,dv2⟩:=hq;have gk2:=un2.keep kS _ gk st.fk nfk (by simp);have ga2:=un2.keep a _ st.ga st.fa' nfa (by simp);have fk2:=un2.free kS _ gk st.fk (by simp);have fa2:=un2.free a _ st.ga st.fa' (by simp);have hz':ks.length+(r.length+1)≤2000:=hz;have z64:2000≤sizeLine:=zv (xAbp (by decide));refine listUpdate_at gk2 rfl ?_ (by rw [zd];omega) (by rw [Array.size_push,zd];omega)
    obtain ⟨c2,g2⟩:∃ c2,(s2.heap.update kS (Obj.mapSeq (·.push u))).get? kS=some (seqObj "list" ((ks++[u]).toArray) c2):=by
     have ea:ks.toArray.push u=(ks++[u]).toArray:=by simp
     exact ⟨_,by rw [← ea];exact get?_update_seq gk2 (·.push u)⟩
    have sb:=Heap.SameBut.update s2.heap kS (Obj.mapSeq (·.push u));refine xAmi hcall hfr I ha hk hak nfa nfk hbody r ry rd (ks++[u]) (kvs++[v]) (dd++[d]) H2 _ rv (by simpa using hl) (fun m y' d' H' Q' h1 h2 h3 h4=>hsp (m+1) y' d' H' Q' (by simpa using h1) (by simpa using h2) h3 h4) (by rw [List.length_append,List.length_singleton];omega) ⟨?_,?_,os2.trans st.os,bare2,st.same.trans same2,fa2,fk2,(sb.2 a hak).trans ga2,⟨c2,g2⟩,?_,?_⟩ fun Hn s'' ks' kvs' st' hl'=>fin Hn s'' ks' kvs' ?_ ?_
    ·exact (st.un.trans un2).later fun b o hb' e=>(sb.2 b (qu (zn hb' hk))).trans e
    ·exact hok2.other (fun b u' hb' e=>(sb.2 b hb').trans e) fk2
    ·exact st.vals.append (.cons rel .nil)
    ·exact xAmh dv2 (st.dv.same same2)
    ·rw [zo] at st'
     exact st'
    ·rw [hl',qm,wc,qx]
     omega
theorem xArt {A':Around} {a kS:Addr} {e1:Nat} {E:Value->Shared->Prop} {P:PySem.Fin->Shared->Prop} {Hn:Hp} {s':Shared} {ks:List Value} {kvs:List V} {ds:List PyData} {st:SortSt} {out:List Value} {ov:List V} (hk:s.heap.objs.size≤kS) (ha:s.heap.objs.size≤a) (hak:a≠kS) (S:KSt X H s a kS e1 Hn s' ks kvs ds) (hz:ks.length≤2000) (ho:out.length≤2000) (hout:(arrOf st).map (·.2)=out.toArray) (hf:failedOf st=none) (rov:Vals ov out)
  (fin:∀ s2 H2,Un (frs X.stack) [] H H2 s.heap s2.heap->HOk X.prog X.w H2 s2.heap->s2.os=s.os->AllBare s2.gens->Same H H2->H2 a=some (.lst ov)->P (.done (.ret .none)) s2):wpAny (model X.prog X.w) A' (ksk_tail a false e1 (.ref kS) st) P E s':=by
 obtain ⟨ek,gk⟩:=S.gk;have z64:2000≤sizeLine:=zv (xAbp (by decide));unfold ksk_tail
 try dsimp only
 rw [hout];have sb:=Heap.SameBut.update s'.heap kS (Obj.mapSeq fun _=>(#[]:Array Value));have ga1:=(sb.2 a hak).trans S.ga;refine wpAny_bind (listUpdate_at gk rfl (wpAny_bind (wpAny_letGo (wpAny_bind (seqEpoch_at ga1 rfl (wpAny_bind (listUpdate_at ga1 rfl ?_ (zm _) (by show out.toArray.size≤_;rw [zd];omega))))))) (by rw [zd];omega) (zm _));rw [hf]
 simp only [bne_self_eq_false,Bool.false_eq_true,if_false]
 have sb2:=Heap.SameBut.update (s'.heap.update kS (Obj.mapSeq fun _=>(#[]:Array Value))) a (Obj.mapSeq fun _=>out.toArray);obtain ⟨c2,g2⟩:∃ c2,((s'.heap.update kS (Obj.mapSeq fun _=>(#[]:Array Value))).update a (Obj.mapSeq fun _=>out.toArray)).get? a=some (seqObj "list" out.toArray c2):=⟨_,get?_update_seq ga1 fun _=>out.toArray⟩;refine wpAny_pure (fin _ (upd Hn a (.lst ov)) ?_ ?_ S.os S.bare (S.same.trans (Same.new S.fa')) xAae)
 ·refine (S.un.later fun b o hb e=>?_).adopt ha S.fa'
  have h1:b≠kS:=qu (zn hb hk);have h2:b≠a:=qu (zn hb ha);exact (sb2.2 b h2).trans ((sb.2 b h1).trans e)
 ·refine HOk.adopt ((S.hok.other (fun b u hb e=>(sb.2 b hb).trans e) S.fk).other (fun b u hb e=>(sb2.2 b hb).trans e) S.fa') S.fa' ⟨?_,out,c2,rov,g2⟩
  rw [rov.length];omega
theorem xAop {Q:VK} {vs:List Value} {ys:List V} {ds:List PyData} {t:Nat} {h1:Heap} {a:Nat} (hcall:∀ (s':Shared) (Hm:Hp) (x:Value) (y:V) (Q:VK),Env0 X.prog X.w X.K X.mg X.base X.A.in1.in1 X.stack s' Hm->Un (frs X.stack) [] H Hm s.heap s'.heap->Same H Hm->RelV y x->sp [y] Hm Q E0->codeAny (model X.prog X.w) X.A.in1.in1 (.call (.ref fa) ⟨[x],[]⟩) (CR CX0 X.stack X.prog X.w Hm s' Q E0) s') (hu:X.A.units+3+61<cLine) (I:Inv X pins σ H s)
  (rv:Vals ys vs) (hdl:ds.length=ys.length) (hk:KeysAre ds t) (hso:SrtOk ys.length ds) (hsp:∀ (m:Nat) y d H' (Q':VK),ys[m]?=some y->ds[m]?=some d->Same H H'->(∀ H'' kv,Same H' H''->DV X.K H'' kv d->Q' kv H'')->sp [y] H' Q' E0)
  (q:∀ q H' ix,H q=none->Same H H'->SortIx ds ix->H' q=some (.lst (ix.map fun i=>ys.getD i .non))->Q (.ref q) H') (x1:Ext s.heap h1) (o1:h1.get? a=some (seqObj "list" vs.toArray 0)) (ha:s.heap.objs.size≤a) :
  wpAny (model X.prog X.w) X.A.in1 (holding [Value.ref a] (call (.builtin "list.sort") [.ref a] [(Str.ofString "key",.ref fa)]) >>= fun _=>ret (.ref a)) (fun fin s'=>∃ v,fin=.done (.ret v)/\EP X pins σ Q v s') X.xe { s with heap:=h1 }:=by
 have h64:=hso.1;have hl:=rv.length
 have hz:ys.length≤sizeLine:=by rw [sizeLine_eq];omega
 have zl:vs.length≤sizeLine:=by omega
 refine wpAny_bind (wpAny_holding (wpAny_call_entry_kw slot_list_sort ⟨_,o1,rfl⟩ entry_list_sort ?_ (ksk_l1 _ _)));show wpAny (model X.prog X.w) X.A.in1.in1 (Builtin.«list.sort» ⟨[.ref a],[(Str.ofString "key",.ref fa)]⟩) _ _ _;rw [ksk_t1];unfold ksk_tree;obtain ⟨e1,o2⟩:∃ e1,(h1.update a (Obj.mapSeq fun _=>(#[]:Array Value))).get? a=some (seqObj "list" #[] e1):=⟨_,get?_update_seq o1 fun _=>#[]⟩;have x2:Ext s.heap (h1.update a (Obj.mapSeq fun _=>(#[]:Array Value))):=x1.upd ha;refine wpAny_bind (listItems_at o1 rfl (wpAny_bind (listUpdate_at o1 rfl (wpAny_bind (seqEpoch_at o2 rfl (wpAny_bind (wpAny_newTuple (wpAny_bind (wpAny_newList (wpAny_holding ?_) (zm _))) zl)))) (by rw [zd];exact zl) (zm _))))
 have hkS:s.heap.objs.size≤((h1.update a (Obj.mapSeq fun _=>(#[]:Array Value))).push (seqObj "tuple" vs.toArray 0)).objs.size:=by
  rw [size_push',Heap.size_update];have:a<h1.objs.size:=Heap.lt_size o1;omega
 have hak:a≠((h1.update a (Obj.mapSeq fun _=>(#[]:Array Value))).push (seqObj "tuple" vs.toArray 0)).objs.size:=by
  rw [size_push',Heap.size_update];have:a<h1.objs.size:=Heap.lt_size o1;omega
 have o3:(((h1.update a (Obj.mapSeq fun _=>(#[]:Array Value))).push (seqObj "tuple" vs.toArray 0)).push (seqObj "list" #[] 0)).get? a=some (seqObj "list" #[] e1):=Heap.get?_push_of_some _ (Heap.get?_push_of_some _ o2);have ok3:(((h1.update a (Obj.mapSeq fun _=>(#[]:Array Value))).push (seqObj "tuple" vs.toArray 0)).push (seqObj "list" #[] 0)).get? ((h1.update a (Obj.mapSeq fun _=>(#[]:Array Value))).push (seqObj "tuple" vs.toArray 0)).objs.size=some (seqObj "list" #[] 0):=Heap.get?_push_size _ rfl;have x3:Ext s.heap (((h1.update a (Obj.mapSeq fun _=>(#[]:Array Value))).push (seqObj "tuple" vs.toArray 0)).push (seqObj "list" #[] 0)):=(x2.trans (.push _ _)).trans (.push _ _);show wpAny (model X.prog X.w) X.A.in1.in1 (ksk_rest a (.ref fa) false vs.toArray e1 (.ref ((h1.update a (Obj.mapSeq fun _=>(#[]:Array Value))).push (seqObj "tuple" vs.toArray 0)).objs.size)) _ _ { s with heap:=((h1.update a (Obj.mapSeq fun _=>(#[]:Array Value))).push (seqObj "tuple" vs.toArray 0)).push (seqObj "list" #[] 0) };generalize ((h1.update a (Obj.mapSeq fun _=>(#[]:Array Value))).push (seqObj "tuple" vs.toArray 0)).objs.size=kS at hkS hak ok3 ⊢;generalize ((h1.update a (Obj.mapSeq fun _=>(#[]:Array Value))).push (seqObj "tuple" vs.toArray 0)).push (seqObj "list" #[] 0)=h3 at o3 ok3 x3 ⊢
 have nst:∀ b,s.heap.objs.size≤b->b∉frs X.stack:=fun b hb' hm=>by
  rcases qw.mp (I.stkSub b hm) with z | z
  ·exact absurd (zn I.lt hb') (by rw [z];exact wg _)
  ·exact I.nofs hb' z
 have S0:KSt X H s a kS e1 H { s with heap:=h3 } [] [] []:=⟨Un.kept x3,I.hok.kept x3,rfl,I.bare,Same.refl H,I.hok.fresh ha,I.hok.fresh hkS,o3,⟨0,ok3⟩,.nil,.nil⟩;unfold ksk_rest;refine wpAny_bind (wpAny_rule ?_)
 first
  | rw [List.forIn_toArray]
  | (rw [← Array.forIn_toList];simp only [List.toList_toArray])
 refine wpAny_bind (xAmi (R:=fun s''=>wpAny (model X.prog X.w) X.A.in1.in1 (do let keys ← Builtin.List.listItems (.ref kS);ksk_end a false vs.toArray e1 (.ref kS) keys) _ _ s'') hcall rfl I ha hkS hak (nst a ha) (nst kS hkS) (fun x s' R' hx=>?_) vs ys ds [] [] [] H _ rv hdl hsp (by rw [vm];omega) S0 fun Hn s'' ks kvs S hks=>?_)
 ·refine wpAny_bind (wpAny_attempt (wpAny_mono hx (fun kv s2 h2=>?_) fun _ _ z=>z.elim))
  exact wpAny_bind (wpAny_mono h2 (fun _ s3 h3=>wpAny_pure h3) fun _ _ z=>z)
 ·rw [vf] at S
  rw [vm,yu] at hks;obtain ⟨ek,gk⟩:=S.gk
  have hkl:ks.length=ds.length:=by rw [hks,hdl,hl]
  have I':Inv X pins σ Hn s'':=I.call' S.os S.un S.hok S.bare (fun b z=>absurd z (by simp));obtain ⟨as,ra⟩:=S.dv.reads I' S.vals;have W:=xArk hk.one;refine wpAny_bind (listItems_at gk rfl ?_)
  have fin:∀ (pm:Array Nat),Arr vs.length (ltK ds) pm->∀ st:SortSt,(arrOf st).map (·.2)=List.toArray (pm.toList.map fun i=>vs.getD i Value.none)->failedOf st=none->wpAny (model X.prog X.w) X.A.in1.in1 (ksk_tail a false e1 (.ref kS) st) (fun fin s'=>∃ v,fin=PySem.Fin.done (.ret v)/\wpAny (model X.prog X.w) X.A.in1 (ret (Value.ref a)) (fun fin s'=>∃ v,fin=.done (.ret v)/\EP X pins σ Q v s') X.xe s') X.xe s'':=fun pm ar st ho hf=>by
   have hix:∀ i∈pm.toList,i<ys.length:=fun i hi=>by
    have:=(ar.1.toList.mem_iff).mp hi
    simp at this
    omega
   have hpl:pm.size=vs.length:=by rw [ar.1.size_eq];simp
   refine xArt hkS ha hak S (by omega) (by rw [qj,qy,hpl];omega) ho hf (xAfh rv _ hix) fun s2 H2 un hok os bare same e2=>?_;refine ⟨_,rfl,wpAny_pure ⟨_,rfl,.ref a,H2,I.call' os un hok bare (fun b z=>absurd z (by simp)),rfl,q a H2 pm.toList (I.hok.fresh ha) same (xAfg (by rw [← hkl,hks];exact ar)) e2⟩⟩
  unfold ksk_end
  try dsimp only
  rw [if_neg (by decide)]
  by_cases h2:vs.toArray.size<2
  ·rw [if_pos h2,if_pos h2]
   have h2':vs.length<2:=by simpa using h2
   refine wpAny_bind (wpAny_pure ?_);rw [StateT.run_pure];refine wpAny_bind (wpAny_pure ?_);refine fin _ (xAic W h2') _ ?_ rfl;show ((ks.toArray.zip vs.toArray).map (·.2))=_;apply je.mp;rw [Array.toList_map,Array.toList_zip];have e1:List.map (·.2) (ks.zip vs)=vs:=List.map_snd_zip (by omega)
   have e2:(List.toArray (List.range vs.length)).toList.map (fun i=>vs.getD i Value.none)=vs:=by
    apply wp;intro i
    by_cases hi:i<vs.length
    ·simp [hi]
    ·simp [hi]
   show List.map (·.2) (ks.zip vs)=(List.toArray (List.range vs.length)).toList.map (fun i=>vs.getD i Value.none);rw [e1,e2]
  ·rw [if_neg h2,if_neg h2]
   have h2':¬ vs.length<2:=by simpa using h2
   obtain ⟨κ,hkk,hqq⟩:=xAdw (prog:=X.prog) (w:=X.w) (A:=X.A.in1.in1) ra hk (by omega) (by show X.A.units+1+1+60<cLine;omega);refine wpAny_bind (wpAny_mono (hkk (fun k s'=>k=κ/\s'=s'') ⟨rfl,rfl⟩) ?_ fun _ _ z=>z.elim);rintro k' s' ⟨rfl,rfl⟩;rw [if_neg (by decide)];refine wpAny_bind (wpAny_mono (xAlr (E:=X.xe) (R:=fun st s3=>s3=s'/\∃ pm,Arr vs.length (ltK ds) pm/\(arrOf st).map (·.2)=List.toArray (pm.toList.map fun i=>vs.getD i Value.none)/\failedOf st=none) W hks (by have:=hso.few hdl W;rw [hl] at this;exact this) h2' hqq fun st pm a1 a2 a3=>⟨rfl,pm,a1,a2,a3⟩) ?_ fun _ _ z=>z);rintro ⟨⟨⟩,st⟩ s3 ⟨rfl,pm,ar,eo,hf⟩;exact fin pm ar st eo hf
theorem xAjs {Q:VK} {us:List Value} {xs:List V} (hcall:∀ (s':Shared) (Hm:Hp) (x:Value) (y:V) (Q:VK),Env0 X.prog X.w X.K X.mg X.base X.A.in1.in1 X.stack s' Hm->Un (frs X.stack) [] H Hm s.heap s'.heap->Same H Hm->RelV y x->sp [y] Hm Q E0->codeAny (model X.prog X.w) X.A.in1.in1 (.call (.ref fa) ⟨[x],[]⟩) (CR CX0 X.stack X.prog X.w Hm s' Q E0) s') (hu:X.A.units+3+61<cLine) (I:Inv X pins σ H s) (rx:Vals xs us) (hh:rSortK X.K sp xs H Q) :
  wpAny (model X.prog X.w) X.A (call (.builtin "sorted") us [(Str.ofString "key",.ref fa)]) (EP X pins σ Q) X.xe s:=by
 obtain ⟨p,ys,ds,t,rfl,hq,hdl,hk,hso,hsp,q⟩:=hh;have h64:=hso.1;obtain ⟨u,rfl,ru⟩:=vals1 rx;cases ru;obtain ⟨vs,rv,pl,hz⟩:=I.list hq;have hl:=rv.length
 have zl:vs.length≤sizeLine:=by omega
 refine call_function_entry_kw kind_sorted plain_sorted entry_sorted (ksk_s1 _ _) ?_;unfold Builtin.«sorted»;refine wpAny_bind (m:=checkCount "sorted" 1 1 _) (wpAny_pure (wpAny_bind (collect_list pl.isList (wpAny_bind (wpAny_newList ?_ zl)) zl)));have hsz:((s.heap.push (seqObj "list" #[] 0)).update s.heap.objs.size (Obj.mapSeq (·++vs.toArray))).objs.size=s.heap.objs.size+1:=(Heap.size_update _ _ _).trans (size_push' _ _);have x1:Ext s.heap (((s.heap.push (seqObj "list" #[] 0)).update s.heap.objs.size (Obj.mapSeq (·++vs.toArray))).push (seqObj "list" vs.toArray 0)):=((Ext.push _ _).upd (qg _)).trans (.push _ _);have o1:(((s.heap.push (seqObj "list" #[] 0)).update s.heap.objs.size (Obj.mapSeq (·++vs.toArray))).push (seqObj "list" vs.toArray 0)).get? (s.heap.objs.size+1)=some (seqObj "list" vs.toArray 0):=hsz▸Heap.get?_push_size _ rfl;show wpAny (model X.prog X.w) _ _ _ _ { s with heap:=((s.heap.push (seqObj "list" #[] 0)).update s.heap.objs.size (Obj.mapSeq (·++vs.toArray))).push (seqObj "list" vs.toArray 0) };rw [hsz];generalize ((s.heap.push (seqObj "list" #[] 0)).update s.heap.objs.size (Obj.mapSeq (·++vs.toArray))).push (seqObj "list" vs.toArray 0)=h1 at x1 o1 ⊢;have ha:s.heap.objs.size≤s.heap.objs.size+1:=vi _;generalize s.heap.objs.size+1=a at ha o1 ⊢;exact xAop hcall hu I rv hdl hk hso hsp q x1 o1 ha
theorem xAmj {Q:VK} {us:List Value} {xs:List V} (F:FnOk X.prog X.w X.K X.mg X.base CX0 k fa fd ps sp) (hr:Room k X.A.in1.in1) (hb:Binds X.K fd ps []) (hps:ps.length=1) (hu:X.A.units+3+61<cLine) (I:Inv X pins σ H s) (rx:Vals xs us) (hh:rSortK X.K sp xs H Q) :
  wpAny (model X.prog X.w) X.A (call (.builtin "sorted") us [(Str.ofString "key",.ref fa)]) (EP X pins σ Q) X.xe s :=
 xAjs (fun s' Hm x y Q e0 _ _ r1 hsp=>F.run X.A.in1.in1 X.stack s' Hm ⟨[x],[]⟩ [x] [y] Q E0 hr e0 (by
  have:=hb s' [x] (e0.mod.kin.keeps fun b o e=>(e0.bs b o e).1) (by rw [hps];rfl)
  simpa using this) (.cons r1 .nil) hsp) hu I rx hh
theorem Room.in2 {k:Nat} {A:Around} (r:Room (k+1) A):Room k A.in1.in1 :=
 ⟨r.hd,by have:=r.dp;show A.depth+3 * k+5<_;omega,by have:=r.un;show A.units+1+1+16 * k+200<_;omega⟩
theorem xAhd {x y:Str} {e:Expr} {p yp kp pos:Pos} {t:TA} (F:FnOk X.prog X.w X.K X.mg X.base CX0 k fa fd ps sp) (hr:Room (k+1) X.A) (hg:Gl X x) (hm:X.mg x=none) (hv:bootBuiltins x=some (.builtin "sorted")) (hgf:Gl X y) (hmf:X.mg y=some (.ref fa)) (hb:Binds X.K fd ps []) (hps:ps.length=1) (ha:PA X [e] t) (hn:x≠"__name__":=by decide) (hdb:(x==("__debug__":Str))=false:=by decide) (hdf:(y==("__debug__":Str))=false:=by decide)
  (he:starEach [e] X.env=(false,eval e X.env)::starEach [] X.env:=by rfl):PE X (.Call (.Name x p) [e] [⟨some "key",.Name y yp,kp⟩] pos) (tCB (rSortK X.K sp) t):=by
 intro pins s σ H Q I h;refine wpAny_Call_Name_kw (xAjg I hg hm hv ?_ hn hdb);refine callWith_kw (thn (ha pos pins s σ H _ I h) fun us s1 ⟨vs,H1,I1,r1,q1⟩=>kws_cons (xApc I1 hgf hmf (kws_nil ?_) hdf)) (by rw [he];rfl) (by rw [he];rfl);exact xAmj F hr.in2 hb hps (by have:=hr.un;omega) I1 r1 q1
end
section
variable {X:Cx} {K:PySem.W.Frag}
def rSlTA (K:PySem.W.Frag):V->Option Int->Option Int->Hp->VK->Prop:=fun x lo hi H Q=>∃ a xs,x=.ref a/\SqT K H a xs ∧
 ¬ (HT.sIx xs.length 0 lo=0/\HT.sIx xs.length xs.length hi=xs.length)/\∀ p H',H p=none->Same H H'->H' p=some (.tup (cutV xs lo hi))->Q (.ref p) H'
theorem xAuo:SlR X (rSlTA X.K):=sl_tup.imp fun _ _ _ _ _ ⟨a,xs,h1,h2,h3,q⟩=>⟨a,xs,h1,h2,h3,fun p hp=>q p _ hp (Same.new hp) xAae⟩
theorem xAru (h:X.K=K):SlR X (rSlTA K):=h▸xAuo
end
section
variable {wd:Nat->Str} {L:List Lf} {H H':Hp} {v:V} {k:Nat}
end
section
variable {wd:Nat->Str} {L:List Lf} {H H':Hp} {vs:List V} {js:List Nat}
end
end L2
namespace Rga
def after (b a:Nat):List Nat->List Nat
 | []=>[]
 | x::xs=>if x=b then x::a::xs else x::after b a xs
abbrev Pl:=Nat×Option Nat
def ins (p:Pl) (row:List Nat):List Nat:=match p.2 with
 | none=>p.1::row
 | some b=>after b p.1 row
def rowR:List Pl->List Nat
 | []=>[]
 | p::qs=>ins p (rowR qs)
def nms (qs:List Pl):List Nat:=qs.map (·.1)
def WF:List Pl->Prop
 | []=>True
 | p::qs=>p.1∉nms qs/\(∀ b,p.2=some b->b∈nms qs)/\WF qs
def rk (qs:List Pl) (k:Option Nat):List Nat:=(qs.filter fun p=>decide (p.2=k)).map (·.1)
inductive Dfs (f:Option Nat->List Nat):List Nat->List Nat->Prop
 | nil:Dfs f [] []
 | cons {x:Nat} {st out:List Nat}:Dfs f (f (some x)++st) out->Dfs f (x::st) (x::out)
theorem xAgi {b a:Nat}:∀ {row:List Nat},b∈row->(after b a row).Perm (a::row)
 | x::xs,h=>by
  unfold after
  by_cases e:x=b
  ·rw [if_pos e];exact .swap _ _ _
  ·rw [if_neg e]
   rcases qw.mp h with z | z
   ·exact absurd z.symm e
   ·exact ((xAgi z).cons x).trans (.swap _ _ _)
theorem row_perm:∀ {qs:List Pl},WF qs->(rowR qs).Perm (nms qs)
 | [],_=>.refl _
 | (a,none)::qs,h=>(row_perm h.2.2).cons a
 | (a,some b)::qs,h=>(xAgi ((row_perm h.2.2).mem_iff.mpr (h.2.1 b rfl))).trans ((row_perm h.2.2).cons a)
theorem xAmk:∀ {qs:List Pl},WF qs->(nms qs).Nodup
 | [],_=>jf
 | _::_,h=>wu.mpr ⟨h.1,xAmk h.2.2⟩
theorem row_nodup {qs:List Pl} (h:WF qs):(rowR qs).Nodup:=(row_perm h).nodup_iff.mpr (xAmk h)
theorem xAea (p:Pl) (qs:List Pl) (k:Option Nat):rk (p::qs) k=if p.2=k then p.1::rk qs k else rk qs k:=by
 unfold rk
 by_cases e:p.2=k
 ·rw [if_pos e,List.filter_cons_of_pos (by simpa using e)];rfl
 ·rw [if_neg e,List.filter_cons_of_neg (by simpa using e)]
theorem xApy {qs:List Pl} (h:WF qs) {a:Nat} (ha:a∉nms qs):rk qs (some a)=[]:=by
 induction qs with
 | nil=>rfl
 | cons p qs ih =>
  have ha':a∉nms qs:=fun z=>ha (qr _ z);rw [xAea,if_neg (fun e=>ha' (h.2.1 a e)),ih h.2.2 ha']
theorem xAfj {f g:Option Nat->List Nat}:∀ {st out:List Nat},Dfs f st out->(∀ x∈out,g (some x)=f (some x))->Dfs g st out
 | _,_,.nil,_=>.nil
 | _,_,.cons (x:=x) d,h=>.cons (by
  rw [h x qp]
  exact xAfj d fun y hy=>h y (qr _ hy))
theorem xAim {f g:Option Nat->List Nat} {a b:Nat} (hg:∀ x,x≠b->g (some x)=f (some x)) (hb:g (some b)=a::f (some b)) (ha:g (some a)=[]) :
  ∀ {st out:List Nat},Dfs f st out->out.Nodup->Dfs g st (after b a out)
 | _,_,.nil,_=>.nil
 | _,_,.cons (x:=x) (st:=st) (out:=out) d,hn=>by
  have hx:=wu.mp hn;unfold after
  by_cases e:x=b
  ·rw [if_pos e]
   subst e;refine .cons ?_;rw [hb];refine .cons ?_;rw [ha];exact xAfj d fun y hy=>hg y fun z=>hx.1 (z▸hy)
  ·rw [if_neg e]
   refine .cons ?_;rw [hg x e];exact xAim hg hb ha d hx.2
theorem dfs_row:∀ {qs:List Pl},WF qs->Dfs (rk qs) (rk qs none) (rowR qs)
 | [],_=>.nil
 | (a,none)::qs,h=>by
  have ih:=dfs_row h.2.2
  have hs:∀ x,rk ((a,none)::qs) (some x)=rk qs (some x):=fun x=>by rw [xAea,if_neg (fun z=>by cases z)]
  rw [xAea,if_pos rfl];refine .cons ?_;rw [hs a,xApy h.2.2 h.1];exact xAfj ih fun x _=>hs x
 | (a,some b)::qs,h=>by
  have ih:=dfs_row h.2.2;have hab:a≠b:=fun z=>h.1 (z▸h.2.1 b rfl);rw [xAea,if_neg (fun z=>by cases z)];refine xAim (f:=rk qs) (g:=rk ((a,some b)::qs)) ?_ ?_ ?_ ih (row_nodup h.2.2)
  ·intro x hx
   rw [xAea,if_neg (fun z=>hx (Option.some.inj z).symm)]
  ·rw [xAea,if_pos rfl]
  ·rw [xAea,if_neg (fun z=>hab (Option.some.inj z).symm),xApy h.2.2 h.1]
theorem Dfs.nil_inv {f:Option Nat->List Nat} {out:List Nat} (d:Dfs f [] out):out=[]:=by cases d;rfl
theorem Dfs.cons_inv {f:Option Nat->List Nat} {x:Nat} {st out:List Nat} (d:Dfs f (x::st) out):∃ out',out=x::out'/\Dfs f (f (some x)++st) out':=by
 cases d with
 | cons d=>exact ⟨_,rfl,d⟩
theorem eq_by {R:Nat->Nat->Bool}:∀ {xs ys:List Nat},xs.Perm ys->(xs.Pairwise fun a b=>R b a=false)->(ys.Pairwise fun a b=>R a b=true)->xs=ys
 | [],ys,p,_,_=>(jx.mp p).symm
 | x::xs,[],p,_,_=>absurd p.length_eq (by simp)
 | x::xs,y::ys,p,hx,hy=>by
  by_cases e:x=y
  ·subst e
   rw [eq_by ((jy x).mp p) (zw.mp hx).2 (zw.mp hy).2]
  ·have h1:y∈xs:=by
    rcases qw.mp (p.mem_iff.mpr qp) with z | z
    ·exact absurd z.symm e
    ·exact z
   have h2:x∈ys:=by
    rcases qw.mp (p.mem_iff.mp qp) with z | z
    ·exact absurd z e
    ·exact z
   have a1:=(zw.mp hx).1 y h1;have a2:=(zw.mp hy).1 x h2;rw [a2] at a1;cases a1
end Rga
namespace L2
open PySem PySem.Spec PySem.W PyProof.Rows
theorem xAml {D:Nat->PyData} {js ms ix:List Nat} (hp:js.Perm ms) (hm:ms.Pairwise fun a b=>ltD (D a) (D b)=true) (h:SortIx (js.map D) ix):(ix.map fun i=>js.getD i 0)=ms:=by
 have p1:ix.Perm (List.range js.length):=by have:=h.1;rwa [qj] at this
 refine Rga.eq_by (R:=fun a b=>ltD (D a) (D b)) ((xAun p1).trans hp) ?_ hm;have h2:=h.2;rw [w5] at h2 ⊢;refine h2.imp_of_mem fun {a b} ha hb hab=>?_
 have ka:∀ i,i∈ix->keyAt (js.map D) i=D (js.getD i 0):=fun i hi=>by
  have:i<js.length:=ql.mp (p1.mem_iff.mp hi);unfold keyAt;rw [qo,qt,qo,qi this];rfl
 rw [ka a ha,ka b hb] at hab;exact hab
def Tups (H H':Hp):Prop:=∀ b xs,H b=some (.tup xs)->H' b=some (.tup xs)
section
variable {H H1 H':Hp}
theorem Same.tups (s:Same H H'):Tups H H':=fun b xs e=>s b _ e
theorem Tups.trans (a:Tups H H1) (b:Tups H1 H'):Tups H H':=fun c xs e=>b c xs (a c xs e)
theorem Tups.wr {a:Addr} {o o':HO} (e:H a=some o) (ho:∀ ys,o≠.tup ys):Tups H (upd H a o'):=fun b xs q=>by rw [xAag (xAtz q e ho)];exact q
theorem Tups.wl {a:Addr} {xs:List V} {o':HO} (e:H a=some (.lst xs)):Tups H (upd H a o'):=Tups.wr e fun ys z=>by cases z
theorem Tups.wd {a:Addr} {kvs:List (KD×V×V)} {o':HO} (e:H a=some (.dG kvs)):Tups H (upd H a o'):=Tups.wr e fun ys z=>by cases z
mutual
theorem DT.tups (t:Tups H H'):∀ {x:V} {d:PyData},DT H x d->DT H' x d
 | _,_,.non=>.non
 | _,_,.bl b=>.bl b
 | _,_,.int i=>.int i
 | _,_,.str z=>.str z
 | _,_,.tup e h=>.tup (t _ _ e) (DTs.tups t h)
theorem DTs.tups (t:Tups H H'):∀ {x:List V} {d:List PyData},DTs H x d->DTs H' x d
 | _,_,.nil=>.nil
 | _,_,.cons a b=>.cons (DT.tups t a) (DTs.tups t b)
end
theorem GK.tups {k:KD} {v:V} (g:GK H k v) (t:Tups H H'):GK H' k v:=g.stay t
end
def AN (P:V->Nat->Prop) (vs:List V) (js:List Nat):Prop:=vs.length=js.length/\∀ (m:Nat) v i,vs[m]?=some v->js[m]?=some i->P v i
section
variable {P P':V->Nat->Prop} {vs us:List V} {js ks:List Nat}
theorem AN.imp (h:AN P vs js) (f:∀ v i,P v i->P' v i):AN P' vs js:=⟨h.1,fun m v i e1 e2=>f _ _ (h.2 m v i e1 e2)⟩
theorem AN.nil:AN P [] []:=⟨rfl,fun m v i z=>by cases z⟩
theorem AN.app (h:AN P vs js) (g:AN P us ks):AN P (vs++us) (js++ks):=by
 refine ⟨by rw [qm,qm,h.1,g.1],fun m v i e1 e2=>?_⟩
 by_cases hm:m<vs.length
 ·rw [wo hm] at e1
  rw [wo (by rw [← h.1];exact hm)] at e2;exact h.2 m v i e1 e2
 ·rw [wz (by omega)] at e1
  rw [wz (by rw [← h.1];omega),← h.1] at e2;exact g.2 _ v i e1 e2
theorem AN.one {v:V} {i:Nat} (h:P v i):AN P [v] [i]:=⟨rfl,fun m v' i' e1 e2=>by
 cases m with
 | zero=>cases e1;cases e2;exact h
 | succ m=>cases e1⟩
theorem AN.snoc {v:V} {i:Nat} (h:AN P vs js) (hv:P v i):AN P (vs++[v]) (js++[i]):=h.app (.one hv)
theorem AN.ix (h:AN P vs js) (ix:List Nat) (hix:∀ i∈ix,i<vs.length):AN P (ix.map fun i=>vs.getD i .non) (ix.map fun i=>js.getD i 0):=by
 refine ⟨by rw [qj,qj],fun m v i e1 e2=>?_⟩;rw [qt] at e1 e2
 cases e:ix[m]? with
 | none=>rw [e] at e1;cases e1
 | some k =>
  rw [e] at e1 e2;have hk:=hix k (zk e)
  have hk':k<js.length:=by rw [← h.1];exact hk
  refine h.2 k v i ?_ ?_
  ·rw [← Option.some.inj e1,qi hk]
   show some vs[k]=some (vs.getD k .non);rw [qo,qi hk];rfl
  ·rw [← Option.some.inj e2,qi hk']
   show some js[k]=some (js.getD k 0);rw [qo,qi hk'];rfl
theorem AN.at {m:Nat} {v:V} (h:AN P vs js) (e:vs[m]?=some v):∃ i,js[m]?=some i/\P v i:=by
 have hm:m<js.length:=by rw [← h.1];exact (ze.mp e).1
 exact ⟨js[m],qi hm,h.2 m v _ e (qi hm)⟩
theorem AN.last {i:Nat} (h:AN P vs (js++[i])):∃ us x,vs=us++[x]/\AN P us js/\P x i:=by
 have hl:=h.1;rw [qm,wc] at hl;rcases mf vs with z | ⟨us,x,z⟩
 ·rw [z] at hl;exact absurd hl (by simp)
 ·rw [mh] at z
  subst z
  have hu:us.length=js.length:=by rw [qm,wc] at hl;omega
  refine ⟨us,x,rfl,⟨hu,fun m v i e1 e2=>h.2 m v i ?_ ?_⟩,h.2 us.length x i (by simp) (by rw [hu];simp)⟩
  ·rw [wo (ze.mp e1).1];exact e1
  ·rw [wo (ze.mp e2).1];exact e2
theorem AN.dts {H:Hp} {D:Nat->PyData} (hD:∀ v i,P v i->DT H v (D i)):∀ {vs:List V} {js:List Nat},AN P vs js->DTs H vs (js.map D)
 | [],[],_=>.nil
 | [],_::_,h=>absurd h.1 (by simp)
 | _::_,[],h=>absurd h.1 (by simp)
 | v::vs,j::js,h=>.cons (hD _ _ (h.2 0 v j rfl rfl)) (AN.dts hD ⟨by have:=h.1;simpa using this,fun m v i e1 e2=>h.2 (m+1) v i (by simpa using e1) (by simpa using e2)⟩)
end
def kd (nk:Nat->List Key):Option Nat->KD
 | none=>.non
 | some i=>.tup (nk i)
def NM (nk:Nat->List Key) (H:Hp) (v:V) (i:Nat):Prop:=GK H (.tup (nk i)) v
def PL (nk:Nat->List Key) (bh:Nat->Option Nat) (D:Nat->PyData) (H:Hp) (v:V) (k:Nat):Prop:=∃ b vn vb vk,v=.ref b/\H b=some (.tup [vn,vb,vk])/\NM nk H vn k/\GK H (kd nk (bh k)) vb/\DT H vk (D k)
section
variable {nk:Nat->List Key} {bh:Nat->Option Nat} {D:Nat->PyData} {H H' H0:Hp} {v:V} {k:Nat}
theorem NM.tups (h:NM nk H v k) (t:Tups H H'):NM nk H' v k:=GK.tups h t
theorem PL.tups (h:PL nk bh D H v k) (t:Tups H H'):PL nk bh D H' v k:=by
 obtain ⟨b,vn,vb,vk,e,h1,h2,h3,h4⟩:=h;exact ⟨b,vn,vb,vk,e,t _ _ h1,h2.tups t,h3.tups t,h4.tups t⟩
structure PLW (nk:Nat->List Key) (bh:Nat->Option Nat) (D:Nat->PyData) (ms:List Nat) (t:Nat):Prop where
 few:ms.length≤2000
 up:ms.Pairwise fun a b=>ltD (D a) (D b)=true
 inj:∀ i∈ms,∀ j∈ms,nk i=nk j->i=j
 wf:Rga.WF (ms.reverse.map fun k=>(k,bh k))
 keys:KeysAre (ms.map D) t
def kids (bh:Nat->Option Nat) (ms:List Nat) (k:Option Nat):List Nat:=ms.filter fun m=>decide (bh m=k)
theorem xAin (bh:Nat->Option Nat) (ms:List Nat) (m:Nat) (k:Option Nat):kids bh (ms++[m]) k=if bh m=k then kids bh ms k++[m] else kids bh ms k:=by
 unfold kids;rw [yd]
 by_cases e:bh m=k
 ·rw [if_pos e,List.filter_cons_of_pos (by simpa using e)];rfl
 ·rw [if_neg e,List.filter_cons_of_neg (by simpa using e),List.filter_nil,List.append_nil]
theorem xApz (bh:Nat->Option Nat) (ms:List Nat) (k:Option Nat):Rga.rk (ms.reverse.map fun m=>(m,bh m)) k=(kids bh ms k).reverse:=by
 unfold Rga.rk kids;rw [kg,wt,← mi];show List.map (fun x=>x) _=_;rw [List.map_id'];rfl
structure FD (nk:Nat->List Key) (bh:Nat->Option Nat) (all ms:List Nat) (H0 H:Hp) (dq:Addr) (kvs:List (KD×V×V)):Prop where
 has:H dq=some (.dG kvs)
 new:H0 dq=none
 each:∀ k:Option Nat,(∀ i,k=some i->i∈all)->(vG kvs (kd nk k)=none/\kids bh ms k=[])\/∃ q vs,vG kvs (kd nk k)=some (.ref q)/\H q=some (.lst vs)/\AN (NM nk H) vs (kids bh ms k)/\H0 q=none
 inj:∀ k k' q,vG kvs k=some (.ref q)->vG kvs k'=some (.ref q)->k=k'
 live:∀ k q,vG kvs k=some (.ref q)->∃ xs,H q=some (.lst xs)
theorem FD.same {all ms:List Nat} {dq:Addr} {kvs:List (KD×V×V)} (h:FD nk bh all ms H0 H dq kvs) (s:Same H H'):FD nk bh all ms H0 H' dq kvs where
 has:=s _ _ h.has
 new:=h.new
 each:=fun k hk=>by
  rcases h.each k hk with z | ⟨q,vs,h1,h2,h3,h4⟩
  ·exact .inl z
  ·exact .inr ⟨q,vs,h1,s _ _ h2,h3.imp fun v i g=>g.tups s.tups,h4⟩
 inj:=h.inj
 live:=fun k q e=>let ⟨xs,z⟩:=h.live k q e;⟨xs,s _ _ z⟩
theorem xAup {all:List Nat} (hi:∀ i∈all,∀ j∈all,nk i=nk j->i=j) {k k':Option Nat} (h1:∀ i,k=some i->i∈all) (h2:∀ i,k'=some i->i∈all) (e:kd nk k=kd nk k'):k=k':=by
 cases k with
 | none=>cases k' with
  | none=>rfl
  | some j=>cases e
 | some i=>cases k' with
  | none=>cases e
  | some j=>rw [hi i (h1 i rfl) j (h2 j rfl) (KD.tup.inj e)]
theorem FD.old {all ms:List Nat} {dq q:Addr} {kvs:List (KD×V×V)} {m:Nat} {vn:V} {vs:List V} (h:FD nk bh all ms H0 H dq kvs) (hi:∀ i∈all,∀ j∈all,nk i=nk j->i=j) (hm:∀ i,bh m=some i->i∈all)
  (e:vG kvs (kd nk (bh m))=some (.ref q)) (eq:H q=some (.lst vs)) (hv:NM nk H vn m):FD nk bh all (ms++[m]) H0 (upd H q (.lst (vs++[vn]))) dq kvs where
 has:=by rw [xAag (fun z=>by rw [← z,h.has] at eq;cases eq)];exact h.has
 new:=h.new
 inj:=h.inj
 live:=fun k q' e'=>by
  by_cases z:q'=q
  ·subst z;exact ⟨_,xAae⟩
  ·obtain ⟨xs,y⟩:=h.live k q' e'
   exact ⟨xs,by rw [xAag z];exact y⟩
 each:=fun k hk=>by
  have tw:Tups H (upd H q (.lst (vs++[vn]))):=Tups.wl eq;rw [xAin]
  by_cases ek:bh m=k
  ·subst ek
   rw [if_pos rfl];rcases h.each _ hk with ⟨z,_⟩ | ⟨q',vs',h1,h2,h3,h4⟩
   ·rw [z] at e;cases e
   ·rw [e] at h1
    cases h1;rw [eq] at h2;cases h2;exact .inr ⟨q,_,e,xAae,(h3.snoc hv).imp fun v i g=>g.tups tw,h4⟩
  ·rw [if_neg ek]
   rcases h.each k hk with z | ⟨q',vs',h1,h2,h3,h4⟩
   ·exact .inl z
   ·refine .inr ⟨q',vs',h1,?_,h3.imp fun v i g=>g.tups tw,h4⟩
    have nq:q'≠q:=fun z=>ek (xAup hi hm hk (h.inj _ _ q e (by rw [← z];exact h1)))
    rw [xAag nq];exact h2
theorem FD.first {all ms:List Nat} {dq q:Addr} {kvs:List (KD×V×V)} {m:Nat} {vn vk:V} (h:FD nk bh all ms H0 H dq kvs) (hi:∀ i∈all,∀ j∈all,nk i=nk j->i=j) (hm:∀ i,bh m=some i->i∈all)
  (e:vG kvs (kd nk (bh m))=none) (hq0:H0 q=none) (eq:H q=some (.lst [])) (hqn:∀ k,vG kvs k≠some (.ref q)) (hv:NM nk H vn m):FD nk bh all (ms++[m]) H0 (upd (upd H dq (.dG (pG kvs (kd nk (bh m)) vk (.ref q)))) q (.lst [vn])) dq (pG kvs (kd nk (bh m)) vk (.ref q)) where
 has:=by rw [xAag (fun z=>by rw [← z,h.has] at eq;cases eq),xAae]
 new:=h.new
 inj:=fun k k' q' h1 h2=>by
  rw [xAlt] at h1 h2
  by_cases e1:k=kd nk (bh m)
  ·by_cases e2:k'=kd nk (bh m)
   ·rw [e1,e2]
   ·rw [if_pos e1] at h1
    rw [if_neg e2] at h2;cases h1;exact absurd h2 (hqn k')
  ·rw [if_neg e1] at h1
   by_cases e2:k'=kd nk (bh m)
   ·rw [if_pos e2] at h2
    cases h2;exact absurd h1 (hqn k)
   ·rw [if_neg e2] at h2
    exact h.inj _ _ _ h1 h2
 live:=fun k q' e'=>by
  by_cases z:q'=q
  ·subst z;exact ⟨_,xAae⟩
  ·rw [xAlt] at e'
   by_cases ek:k=kd nk (bh m)
   ·rw [if_pos ek] at e'
    cases e';exact absurd rfl z
   ·rw [if_neg ek] at e'
    obtain ⟨xs,y⟩:=h.live k q' e'
    have n2:q'≠dq:=fun z=>by rw [z,h.has] at y;cases y
    exact ⟨xs,by rw [xAag z,xAag n2];exact y⟩
 each:=fun k hk=>by
  have nq:q≠dq:=fun z=>by rw [z,h.has] at eq;cases eq
  have t1:Tups H (upd H dq (.dG (pG kvs (kd nk (bh m)) vk (.ref q)))):=Tups.wd h.has
  have eq1:(upd H dq (.dG (pG kvs (kd nk (bh m)) vk (.ref q)))) q=some (.lst []):=by rw [xAag nq];exact eq
  have tw:=t1.trans (Tups.wl (o':=.lst [vn]) eq1);rw [xAin,xAlt]
  by_cases ek:bh m=k
  ·subst ek
   rw [if_pos rfl,if_pos rfl];rcases h.each _ hk with ⟨_,z⟩ | ⟨q',vs',h1,_⟩
   ·rw [z]
    exact .inr ⟨q,[vn],rfl,xAae,.one (hv.tups tw),hq0⟩
   ·rw [e] at h1;cases h1
  ·rw [if_neg ek,if_neg (fun z=>ek (xAup hi hm hk z.symm))]
   rcases h.each k hk with z | ⟨q',vs',h1,h2,h3,h4⟩
   ·exact .inl z
   ·refine .inr ⟨q',vs',h1,?_,h3.imp fun v i g=>g.tups tw,h4⟩
    have n1:q'≠q:=fun z=>hqn _ (z▸h1)
    have n2:q'≠dq:=fun z=>by rw [z,h.has] at h2;cases h2
    rw [xAag n1,xAag n2];exact h2
theorem FD.get {all ms:List Nat} {dq z:Addr} {kvs:List (KD×V×V)} (h:FD nk bh all ms H0 H dq kvs) (ez:H z=some (.lst [])) (k:Option Nat) (hk:∀ i,k=some i->i∈all):∃ a vs,(vG kvs (kd nk k)).getD (.ref z)=.ref a/\H a=some (.lst vs)/\AN (NM nk H) vs (kids bh ms k):=by
 rcases h.each k hk with ⟨h1,h2⟩ | ⟨q,vs,h1,h2,h3,_⟩
 ·exact ⟨z,[],by rw [h1];rfl,ez,by rw [h2];exact .nil⟩
 ·exact ⟨q,vs,by rw [h1];rfl,h2,h3⟩
end
end L2
namespace Rga
theorem wf_in:∀ {qs:List Pl},WF qs->∀ {k b:Nat},(k,some b)∈qs->b∈nms qs
 | p::qs,h,k,b,hm=>by
  rcases qw.mp hm with z | z
  ·exact qr _ (h.2.1 b (by rw [← z]))
  ·exact qr _ (wf_in h.2.2 z)
theorem dfs_len {f:Option Nat->List Nat}:∀ {st out:List Nat},Dfs f st out->st.length≤out.length
 | _,_,.nil=>qg _
 | _,_,.cons (x:=x) d=>by
  have:=dfs_len d;rw [qm] at this;rw [qx,qx];omega
def qsOf (bh:Nat->Option Nat) (ms:List Nat):List Pl:=ms.reverse.map fun k=>(k,bh k)
theorem nms_qs (bh:Nat->Option Nat) (ms:List Nat):nms (qsOf bh ms)=ms.reverse:=by
 unfold nms qsOf;rw [wt];show List.map (fun x=>x) _=_;rw [List.map_id']
theorem qs_mem {bh:Nat->Option Nat} {ms:List Nat} {m:Nat} (h:m∈ms):(m,bh m)∈qsOf bh ms:=qk.mpr ⟨m,yf.mpr h,rfl⟩
theorem bh_in {bh:Nat->Option Nat} {ms:List Nat} (w:WF (qsOf bh ms)) {m i:Nat} (hm:m∈ms) (e:bh m=some i):i∈ms:=by
 have:=wf_in w (k:=m) (b:=i) (by rw [← e];exact qs_mem hm);rw [nms_qs] at this;exact yf.mp this
theorem row_mem {bh:Nat->Option Nat} {ms:List Nat} (w:WF (qsOf bh ms)) {x:Nat} (h:x∈rowR (qsOf bh ms)):x∈ms:=by
 have:=(row_perm w).mem_iff.mp h;rw [nms_qs] at this;exact yf.mp this
theorem row_len {bh:Nat->Option Nat} {ms:List Nat} (w:WF (qsOf bh ms)):(rowR (qsOf bh ms)).length=ms.length:=by
 rw [(row_perm w).length_eq,nms_qs,y7]
end Rga
namespace L2
open PySem PySem.Spec PySem.W PyProof.Rows
def del (H:Hp) (p:Addr):Hp:=fun b=>if b=p then none else H b
theorem xAhe {H:Hp} {p:Addr}:del H p p=none:=if_pos rfl
theorem xAel {H:Hp} {p b:Addr} (h:b≠p):del H p b=H b:=if_neg h
theorem xAfk {H:Hp} {p:Addr}:Same (del H p) H:=fun b u q=>by
 by_cases e:b=p
 ·subst e;rw [xAhe] at q;cases q
 ·rw [xAel e] at q;exact q
theorem Tups.cut {H H':Hp} {p:Addr} {xs:List V} (e:H p=some (.lst xs)) (s:Same (del H p) H'):Tups H H':=fun b ys q=>s _ _ (by rw [xAel (xAtz q e fun zs z=>by cases z)];exact q)
def IsT (z:Str):Prop:=∀ c∈z.cps.toList,c≤122
theorem xAjt {z:Str} (h:IsT z):PyData.strOk z=true:=by
 unfold PyData.strOk;rw [← Array.all_toList,List.all_eq_true];intro c hc;have:=h c hc;exact decide_eq_true (by omega)
theorem xAgj {x y:Str} (hx:IsT x) (hy:IsT y):IsT (x++y):=fun c hc=>by
 have e:(x++y).cps.toList=x.cps.toList++y.cps.toList:=by
  show (x.cps++y.cps).toList=_
  simp
 rw [e] at hc;rcases qz.mp hc with q | q
 ·exact hx c q
 ·exact hy c q
theorem xAio {sep:Str} (hs:IsT sep):∀ {ys:List Str},(∀ y∈ys,IsT y)->IsT (Str.join sep ys)
 | [],_=>fun _ z=>nomatch z
 | [x],h=>h x (by simp)
 | x::y::r,h=>by
  show IsT (x++sep++Str.join sep (y::r));exact xAgj (xAgj (h x (by simp)) hs) (xAio hs fun z hz=>h z (List.mem_cons_of_mem _ hz))
theorem xArv {sep:Str} (hs:IsT sep) {ys:List Str} (h:∀ y∈ys,IsT y):IsT (Txt.join sep ys):=by
 show IsT (Builtin.Str.glued sep ys);rw [StrLaws.glued_eq_join];exact xAio hs h
theorem xAuq {α:Type} {xs:List α} {i:Int} {v:α} (h:atI xs i=some v):v∈xs:=by
 unfold atI at h
 cases e:ixN xs.length i with
 | none=>rw [e] at h;cases h
 | some j=>rw [e] at h;exact zk h
theorem xAur {c:Nat} (h:c≤122):IsT ⟨#[c]⟩:=fun d hd=>by
 have:d=c:=by simpa using hd
 omega
end L2
namespace Rga
theorem wf_range {bh:Nat->Option Nat}:∀ {n:Nat},(∀ i,i<n->∀ b,bh i=some b->b<i)->WF (qsOf bh (List.range n))
 | 0,_=>trivial
 | n+1,h=>by
  have e:qsOf bh (List.range (n+1))=(n,bh n)::qsOf bh (List.range n):=by
   unfold qsOf;rw [vj,ju];rfl
  rw [e];refine ⟨?_,fun b hb=>?_,wf_range fun i hi=>h i (by omega)⟩
  ·rw [nms_qs,yf,ql]
   exact wg n
  ·rw [nms_qs,yf,ql]
   exact h n (by omega) b hb
end Rga
namespace L2
open PySem PySem.Spec PySem.W PyProof.Rows Rga
section
variable {P:V->Nat->Prop} {vs:List V} {js:List Nat}
theorem AN.take (h:AN P vs js) (r:Nat):AN P (vs.take r) (js.take r):=by
 refine ⟨by rw [zt,zt,h.1],fun m v i e1 e2=>?_⟩;rw [jd] at e1 e2
 by_cases hm:m<r
 ·rw [if_pos hm] at e1 e2;exact h.2 m v i e1 e2
 ·rw [if_neg hm] at e1;cases e1
theorem AN.drop (h:AN P vs js) (r:Nat):AN P (vs.drop r) (js.drop r):=by
 refine ⟨by rw [z5,z5,h.1],fun m v i e1 e2=>?_⟩;rw [jb] at e1 e2;exact h.2 _ v i e1 e2
end
theorem xAeb {x y:Int} {r r':List PyData} (h:x<y):ltDs (.int x::r) (.int y::r')=true:=by
 rw [ltDs,if_neg (fun z=>by
  have:=(sk_eq _ _ rfl).mp z;injection this with this
  omega)]
 exact decide_eq_true h
theorem xAfl {x:Int} {r r':List PyData} (h:ltDs r r'=true):ltDs (.int x::r) (.int x::r')=true:=by
 rw [ltDs,if_pos ((sk_eq _ _ rfl).mpr rfl)];exact h
def RkD (d:PyData):Prop:=(∃ a b:Int,d=.tuple [.int a,.int b])\/∃ a b c:Int,d=.tuple [.int a,.int b,.int c]
theorem xAmm {ds:List PyData} (h:∀ d∈ds,RkD d):KeysAre ds 2:=by
 refine ⟨xAbh fun d hd=>?_,fun d hd=>?_,fun x hx y hy=>?_,fun d hd=>?_⟩
 ·rcases h d hd with ⟨_,_,rfl⟩ | ⟨_,_,_,rfl⟩ <;> rfl
 ·rcases h d hd with ⟨_,_,rfl⟩ | ⟨_,_,_,rfl⟩ <;> trivial
 ·rcases h x hx with ⟨_,_,rfl⟩ | ⟨_,_,_,rfl⟩ <;> rcases h y hy with ⟨_,_,rfl⟩ | ⟨_,_,_,rfl⟩ <;> rfl
 ·rcases h d hd with ⟨_,_,rfl⟩ | ⟨_,_,_,rfl⟩ <;> exact (by decide:1≤60)
end L2
namespace L2
open PySem PySem.Spec PySem.W PyProof.Rows
section
variable {prog:Program} {w:World} {A:Around} {R:Result->Shared->Prop} {I:Addr} {fp wr:List Addr} {n:Nat} {P:Nat->Value->Prop} {St:Nat->Heap->Prop} {G:Heap->Prop}
end
section
variable {X:Cx}
end
theorem xAqa {ka:List (Key×V)} {va:List (Key×Value)} (h:KV ka va):va.map (·.1)=ka.map (·.1):=by
 induction h with
 | nil=>rfl
 | cons a _ ih=>rw [za,za,ih,a.1]
section
variable {X:Cx}
end
section
variable {X:Cx} {pins:List (Addr×Obj)} {σ:St} {H:Hp} {s:Shared}
theorem Inv.freeze {a:Addr} {o:Obj} {kvs:List (Key×V)} (I:Inv X pins σ H s) (e:H a=some (.dK kvs)) (ho:s.heap.get? a=some o):Inv X pins σ (upd H a (.frz o (.dK kvs))) s:=by
 refine I.un (t':=s.toks) (h':=s.heap) ⟨fun b ob q _ _ _=>q,fun b ob q _ _ _=>⟨ob.slots,q⟩,fun b ob q n _=>?_,fun b ob q _=>⟨ob,q⟩,fun b xs q=>?_,fun b ob u q=>?_,fun b ps q=>?_⟩ fun b u q=>?_
 ·rw [xAag (fun z=>by rw [z,e] at n;cases n)];exact n
 ·rw [xAag (fun z=>by rw [z,e] at q;cases q)];exact q
 ·rw [xAag (fun z=>by rw [z,e] at q;cases q)];exact q
 ·exact ⟨#[],by rw [xAag (fun z=>by rw [z,e] at q;cases q),q];simp⟩
 ·by_cases hb:b=a
  ·subst hb
   rw [xAae] at q;cases q;exact ⟨ho,I.hok b _ e⟩
  ·rw [xAag hb] at q
   refine (I.hok b u q).stay (fun _ _ _ q=>q) (fun c q=>?_) fun c xs q=>?_
   ·rw [xAag (fun z=>by rw [z,e] at q;cases q)];exact q
   ·rw [xAag (fun z=>by rw [z,e] at q;cases q)];exact q
end
def Itk (a:Addr) (o:Obj) (kvs:List (Key×V)):It :=
 ⟨fun i H=>H a=some (.frz o (.dK kvs))/\i<kvs.length,fun i H x H'=>H'=H/\∃ k v,kvs[i]?=some (k,v)/\x=kV k,fun i H=>H a=some (.frz o (.dK kvs))/\kvs.length≤i⟩
theorem xArw {X:Cx} {pins:List (Addr×Obj)} {σ:St} {H:Hp} {s:Shared} {a:Addr} {o:Obj} {es:Array DictEntry} {ep:Nat} {kvs:List (Key×V)} (hd:o.data=.dict es ep) (I:Inv X pins σ H s) (e:H a=some (.frz o (.dK kvs))):∃ vs,KV kvs vs/\vs.length=kvs.length/\s.heap.DictAt (mixKind X.prog X.w) a vs ep:=by
 obtain ⟨ho,_,_,vs,kv,o',es',ep',ho',r⟩:s.heap.get? a=some o/\kvs.length≤sizeLine/\(a==sysModules)=false/\∃ vs,KV kvs vs/\s.heap.DictOf (mixKind X.prog X.w) a vs:=I.hok a _ e;rw [ho] at ho';cases ho'
 have:ep'=ep:=by
  have:=r.2.1;rw [hd] at this;injection this with _ h;exact h.symm
 subst this;refine ⟨vs,kv,?_,o,es',ho,r⟩;have:=congrArg List.length (xAqa kv);simpa using this
theorem xAoq {P:Program} {w:World} {K:PySem.W.Frag} {tg:Expr} (a it:Addr) {o:Obj} {es:Array DictEntry} {ep:Nat} {kvs:List (Key×V)} (hd:o.data=.dict es ep):Turn P w K tg (Itk a o kvs) [it] it (fun i h=>h.IsKeyIter it a i kvs.length ep) where
 mem:=by simp
 obj:=fun i h st b hb=>by
  have e:b=it:=by simpa using hb
  subst e;obtain ⟨o,e,c,d⟩:=st;exact ⟨o,e,fun v z=>by rw [d] at z;cases z⟩
 keep:=fun i h h' st k=>st.at fun o e=>k it (by simp) o e
 item:=by
  intro X hP hw hK hc i pins s σ H E I hf st hg;subst hP hw hK;obtain ⟨he,hi⟩:=hg;obtain ⟨vs,kv,hl,da⟩:=xArw hd I he;have hx:vs[i]?=some (vs[i].1,vs[i].2):=qi (by omega);obtain ⟨f0,f1,f2,f3,f4,f5⟩:=hf it (by simp);rw [← hl] at st;refine wpAny_pyNext_dict_item st da hx fun key h' hkey st' sb=>?_;have I1:Inv X pins σ H { s with heap:=h' }:=I.turned (t':=s.toks) (fun b o hb e=>(sb.2 b hb).trans e) f0 f1 f3 f4 f5;obtain ⟨ob,e,c,d⟩:=id st'
  have ek:vs[i].1=kvs[i].1:=by
   have:=congrArg (fun l=>l[i]?) (xAqa kv);simpa [hi,hl] using this
  have rk:RelV (kV kvs[i].1) key:=by
   rw [← ek];rcases xAap (show keyIs vs[i].1 key=true from hkey) with ⟨j,t,e1,e2⟩ | ⟨x,t,e1,e2⟩
   ·rw [e1,e2];exact ⟨t,rfl⟩
   ·rw [e1,e2];exact ⟨t,rfl⟩
  rw [hl] at st';exact ⟨key,rfl,go_of (s:={ s with heap:=h' }) e c d (by decide) ⟨kV kvs[i].1,H,I1,rk,⟨rfl,kvs[i].1,kvs[i].2,qi hi,rfl⟩,st',fun b hb=>(hf b hb).1⟩⟩
 done:=by
  intro X hP hw hK hc i pins s σ H E I hf st hg;subst hP hw hK;obtain ⟨he,hi⟩:=hg;obtain ⟨vs,kv,hl,da⟩:=xArw hd I he;obtain ⟨f0,f1,f2,f3,f4,f5⟩:=hf it (by simp);rw [← hl] at st;exact wpAny_pyNext_dict_end (I.ok.hd hc) st da (yb (by omega)) fun h' eb=>⟨rfl,I.turned (t':=s.toks) (fun b o hb e=>eb b o hb e) f0 f1 f3 f4 f5⟩
 self:=fun _ _ _ _ _ st h=>wpAny_pyIter_keyiter st h
def iKeys (tl:TE):TI:=fun σ H R=>tl σ H fun x H1=>∃ a kvs,x=.ref a/\((H1 a=some (.dK kvs)/\∀ o,R (Itk a o kvs) (upd H1 a (.frz o (.dK kvs))))\/∃ o,H1 a=some (.frz o (.dK kvs))/\R (Itk a o kvs) H1)
section
variable {X:Cx} {tg:Expr}
theorem xAus {l:Expr} {tl:TE} (hl:PE X l tl):PI X tg l (iKeys tl):=by
 intro pins s σ H R I h;refine thn (hl pins s σ H _ I h) fun v s1 ⟨x,H1,I1,r1,q1⟩=>?_;obtain ⟨a,kvs,e,q⟩:=q1;subst e;cases r1
 have main:∀ (H2:Hp) (o:Obj),Inv X pins σ H2 s1->H2 a=some (.frz o (.dK kvs))->R (Itk a o kvs) H2->wpAny (model X.prog X.w) X.A (pyIter (.ref a)) (PIE X pins σ tg R) X.xe s1:=fun H2 o I2 e2 q2=>by
  obtain ⟨ho,_,hsm,vs0,_,o',es,ep,ho',hc,hd,r⟩:s1.heap.get? a=some o/\kvs.length≤sizeLine/\(a==sysModules)=false/\∃ vs,KV kvs vs/\s1.heap.DictOf (mixKind X.prog X.w) a vs:=I2.hok a _ e2;rw [ho] at ho';cases ho';obtain ⟨vs,kv,hlen,da⟩:=xArw hd I2 e2;refine wpAny_pyIter_dict hsm da ?_;refine ⟨s1.heap.objs.size,[s1.heap.objs.size],_,_,H2,rfl,I2.kept (t':=s1.toks) fun b o e=>Heap.get?_push_of_some _ e,xAoq a _ hd,⟨_,Heap.get?_push_size _ rfl,rfl,by rw [hlen];rfl⟩,fun b hb=>?_,q2⟩
  have e:b=s1.heap.objs.size:=by simpa using hb
  subst e;exact I2.fpOk (qg _) (I2.hok.fresh (qg _))
 rcases q with ⟨ea,q⟩ | ⟨o,ea,q⟩
 ·obtain ⟨_,_,vs,_,o,es,ep,ho,_⟩:=dk_of I1.hok ea
  exact main _ o (I1.freeze ea ho) xAae (q o)
 ·exact main _ o I1 ea q
end
theorem xArx {a:Addr} {o:Obj} {kvs:List (Key×V)} {g:TG} {tb:TS} {D:Ends} {σ:St} {H:Hp} (Pv:Nat->St->Hp->Prop) (h0:Pv 0 σ H) (hl:∀ i σ H,Pv i σ H->H a=some (.frz o (.dK kvs)))
  (hs:∀ i k v σ H,kvs[i]?=some (k,v)->Pv i σ H->g (kV k) σ H fun σ2 H2=>tb { D with nx:=Pv (i+1),ct:=Pv (i+1),bk:=D.nx } σ2 H2) (hd:∀ σ H,Pv kvs.length σ H->D.nx σ H) :
  ∃ W:Nat->Nat->St->Hp->Prop,(∃ m,W 0 m σ H)/\∀ i m σ H,W i m σ H →
   ((Itk a o kvs).stop i H/\D.nx σ H)\/((Itk a o kvs).go i H/\∃ N:St->Hp->Prop,(∀ σ' H',N σ' H'->∃ m',m'<m/\W (i+1) m' σ' H')/\∀ x H',(Itk a o kvs).yld i H x H'->g x σ H' fun σ2 H2=>tb { D with nx:=N,ct:=N,bk:=D.nx } σ2 H2):=by
 refine ⟨fun i m σ H=>m=kvs.length - i/\i≤kvs.length/\Pv i σ H,⟨kvs.length,by simp,Nat.zero_le _,h0⟩,?_⟩;rintro i m σ H ⟨rfl,hi,p⟩
 by_cases hlt:i<kvs.length
 ·refine .inr ⟨⟨hl i σ H p,hlt⟩,Pv (i+1),fun σ' H' p'=>⟨kvs.length - (i+1),by omega,rfl,hlt,p'⟩,fun x H' y=>?_⟩
  obtain ⟨e,k,v,hk,rfl⟩:=y;subst e;exact hs i k v σ _ hk p
 ·have e:i=kvs.length:=by omega
  subst e;exact .inl ⟨⟨hl _ σ H p,qg _⟩,hd σ H p⟩
def putAllK (xs:List (Key×V)):List (Key×V)->List (Key×V)
 | []=>xs
 | e::r=>putAllK (putK xs e.1 e.2) r
theorem xAes:∀ (ps xs:List (Key×V)),(ps.map (·.1)).Nodup->(∀ e∈ps,∀ x∈xs,x.1≠e.1)->putAllK xs ps=xs++ps
 | [],xs,_,_=>by rw [zy];rfl
 | e::r,xs,nd,h=>by
  rw [za,wu] at nd
  have e1:putK xs e.1 e.2=xs++[e]:=by
   unfold putK
   have:¬ (xs.any fun kv=>decide (kv.1=e.1))=true:=by
    rw [vh];rintro ⟨x,hx,z⟩;exact h e qp x hx (of_decide_eq_true z)
   rw [if_neg this]
  show putAllK (putK xs e.1 e.2) r=_;rw [e1,xAes r (xs++[e]) nd.2 fun y hy x hx=>?_,zo]
  ·rfl
  ·rcases qz.mp hx with q | q
   ·exact h y (qr _ hy) x q
   ·rw [zb.mp q]
    exact fun z=>nd.1 (qk.mpr ⟨y,hy,z.symm⟩)
section
variable {P:Program} {w:World} {A:Around}
end
section
variable {X:Cx} {pins:List (Addr×Obj)} {σ:St} {H:Hp} {s:Shared}
end
section
variable {X:Cx} {pins:List (Addr×Obj)} {σ:St} {H:Hp} {s:Shared}
end
section
variable {X:Cx} {k:Nat}
end
end L2
namespace Rga
theorem fpos {P:Nat->Bool} {p:Pl} {qs:List Pl} (h:P p.1=true):(p::qs).filter (fun p=>P p.1)=p::qs.filter fun p=>P p.1:=jg (p:=fun p:Pl=>P p.1) h
theorem fneg {P:Nat->Bool} {p:Pl} {qs:List Pl} (h:¬ P p.1=true):(p::qs).filter (fun p=>P p.1)=qs.filter fun p=>P p.1:=jh (p:=fun p:Pl=>P p.1) h
def Clo (P:Nat->Bool) (qs:List Pl):Prop:=∀ k b,(k,some b)∈qs->P k=true->P b=true
theorem Clo.tail {P:Nat->Bool} {p:Pl} {qs:List Pl} (h:Clo P (p::qs)):Clo P qs:=fun k b hm=>h k b (qr _ hm)
theorem xAgk {P:Nat->Bool} {qs:List Pl} {x:Nat}:x∈nms (qs.filter fun p=>P p.1)↔x∈nms qs/\P x=true:=by
 unfold nms;constructor
 ·intro h
  obtain ⟨p,hp,rfl⟩:=qk.mp h;have:=qv.mp hp;exact ⟨qk.mpr ⟨p,this.1,rfl⟩,this.2⟩
 ·rintro ⟨h,hx⟩
  obtain ⟨p,hp,rfl⟩:=qk.mp h;exact qk.mpr ⟨p,qv.mpr ⟨hp,hx⟩,rfl⟩
theorem wf_filter {P:Nat->Bool}:∀ {qs:List Pl},WF qs->Clo P qs->WF (qs.filter fun p=>P p.1)
 | [],_,_=>trivial
 | (a,o)::qs,h,c=>by
  have ih:=wf_filter h.2.2 c.tail
  by_cases ha:P a=true
  ·rw [fpos (p:=(a,o)) ha]
   refine ⟨fun z=>h.1 (xAgk.mp z).1,fun b hb=>xAgk.mpr ⟨h.2.1 b hb,?_⟩,ih⟩;have hb':o=some b:=hb;subst hb';exact c a b qp ha
  ·rw [fneg (p:=(a,o)) ha];exact ih
theorem qs_filter (P:Nat->Bool) (bh:Nat->Option Nat) (ms:List Nat):qsOf bh (ms.filter P)=(qsOf bh ms).filter fun p=>P p.1:=by
 unfold qsOf;rw [kg,← mi];rfl
theorem clo_qs {P:Nat->Bool} {bh:Nat->Option Nat} {ms:List Nat} (h:∀ k∈ms,P k=true->∀ b,bh k=some b->P b=true):Clo P (qsOf bh ms):=fun k b hm hk=>by
 obtain ⟨j,hj,e⟩:=qk.mp hm;have e1:j=k:=congrArg Prod.fst e;have e2:bh j=some b:=congrArg Prod.snd e;subst e1;exact h _ (yf.mp hj) hk b e2
end Rga
namespace L2
open PySem PySem.Spec PySem.W PyProof.Rows
theorem AN.mem {P:V->Nat->Prop} {vs:List V} {js:List Nat} (h:AN P vs js) {v:V} (hv:v∈vs):∃ i∈js,P v i:=by
 obtain ⟨m,hm,e⟩:=wk.mp hv;obtain ⟨i,hi,p⟩:=h.at (m:=m) (v:=v) (by rw [qi hm,e]);exact ⟨i,zk hi,p⟩
theorem xAut {d:PyData}:∀ {ds:List PyData},PyData.canLayAll0 ds=true->d∈ds->d.canLay0=true
 | e::ds,h,hm=>by
  have hc:(e.canLay0&&PyData.canLayAll0 ds)=true:=h;rw [zu] at hc;rcases qw.mp hm with rfl | hm
  ·exact hc.1
  ·exact xAut hc.2 hm
theorem KeysAre.sub {ds es:List PyData} {t:Nat} (h:KeysAre ds t) (p:∀ x∈es,x∈ds):KeysAre es t :=
 ⟨xAbh fun x hx=>xAut h.lay (p x hx),fun d hd=>h.kind d (p d hd),fun a ha b hb=>h.one a (p a ha) b (p b hb),fun d hd=>h.deep d (p d hd)⟩
theorem PLW.filter {nk:Nat->List Key} {bh:Nat->Option Nat} {D:Nat->PyData} {ms:List Nat} {t:Nat} (W:PLW nk bh D ms t) {P:Nat->Bool} (c:∀ k∈ms,P k=true->∀ b,bh k=some b->P b=true):PLW nk bh D (ms.filter P) t where
 few:=qh (wb _ _) W.few
 up:=W.up.filter _
 inj:=fun i hi j hj e=>W.inj i (qv.mp hi).1 j (qv.mp hj).1 e
 wf:=by
  have:=Rga.wf_filter W.wf (Rga.clo_qs c);show Rga.WF (Rga.qsOf bh (ms.filter P));rw [Rga.qs_filter];exact this
 keys:=W.keys.sub fun x hx=>by
  obtain ⟨i,hi,rfl⟩:=qk.mp hx;exact qk.mpr ⟨i,(qv.mp hi).1,rfl⟩
theorem AN.pick {P:V->Nat->Prop} {f:Nat->Bool}:∀ {vs:List V} {js:List Nat} {us:List V},AN P us (js.filter f)->∀ {v:V} {i:Nat},P v i->f i=true->AN P (us++[v]) ((js++[i]).filter f):=fun {vs js us} h {v i} hv hi=>by
 rw [yd,jg hi];exact h.snoc hv
theorem AN.skip {P:V->Nat->Prop} {f:Nat->Bool} {js:List Nat} {us:List V} (h:AN P us (js.filter f)) {i:Nat} (hi:¬ f i=true):AN P us ((js++[i]).filter f):=by
 rw [yd,jh hi,List.filter_nil,zy];exact h
def PKs (nk:Nat->List Key) (G:V->Nat->Prop):List (KD×V×V)->List Nat->Prop
 | [],[]=>True
 | e::es,i::is=>(e.1=.tup (nk i)/\G e.2.2 i)/\PKs nk G es is
 | _,_=>False
theorem PKs.snoc {nk:Nat->List Key} {G:V->Nat->Prop} {e:KD×V×V} {i:Nat} (h1:e.1=.tup (nk i)) (h2:G e.2.2 i):∀ {kvs:List (KD×V×V)} {js:List Nat},PKs nk G kvs js->PKs nk G (kvs++[e]) (js++[i])
 | [],[],_=>⟨⟨h1,h2⟩,trivial⟩
 | [],_::_,h=>h.elim
 | _::_,[],h=>h.elim
 | _::_,_::_,h=>⟨h.1,PKs.snoc h1 h2 h.2⟩
theorem PKs.get {nk:Nat->List Key} {G:V->Nat->Prop} {all:List Nat} (inj:∀ i∈all,∀ j∈all,nk i=nk j->i=j):∀ {kvs:List (KD×V×V)} {js done:List Nat} {acc:List (KD×V×V)},PKs nk G kvs js->(∀ i∈done,i∈all)->(∀ i∈js,i∈all) →
  (∀ i∈done,∃ v,vG acc (.tup (nk i))=some v/\G v i)->∀ i,i∈done\/i∈js->∃ v,vG (putAll acc kvs) (.tup (nk i))=some v/\G v i
 | [],[],done,acc,_,_,_,h,i,hi=>by
  rcases hi with hi | hi
  ·exact h i hi
  ·cases hi
 | [],_::_,_,_,h,_,_,_,_,_=>h.elim
 | _::_,[],_,_,h,_,_,_,_,_=>h.elim
 | e::es,j::js,done,acc,h,hd,hj,ha,i,hi=>by
  have hja:=hj j qp;refine PKs.get inj (done:=done++[j]) (acc:=pG acc e.1 e.2.1 e.2.2) h.2 (fun k hk=>?_) (fun k hk=>hj k (qr _ hk)) (fun k hk=>?_) i ?_
  ·rcases qz.mp hk with z | z
   ·exact hd k z
   ·rw [zb.mp z];exact hja
  ·rw [xAlt,h.1.1]
   by_cases ek:nk k=nk j
   ·rw [if_pos (by rw [ek])]
    have hka:k∈all:=by
     rcases qz.mp hk with z | z
     ·exact hd k z
     ·rw [zb.mp z];exact hja
    rw [inj k hka j hja ek];exact ⟨_,rfl,h.1.2⟩
   ·rw [if_neg (fun z=>ek (KD.tup.inj z))]
    rcases qz.mp hk with z | z
    ·exact ha k z
    ·exact absurd (by rw [zb.mp z]) ek
  ·rcases hi with z | z
   ·exact .inl (yn _ z)
   ·rcases qw.mp z with rfl | z
    ·exact .inl (z9 _ (zb.mpr rfl))
    ·exact .inr z
theorem PrsV.tups {H H':Hp} (t:Tups H H'):∀ {ys:List V} {es:List (KD×V×V)},PrsV H ys es->PrsV H' ys es
 | [],[],_=>trivial
 | [],_::_,h=>h.elim
 | _::_,[],h=>h.elim
 | _::_,_::_,h=>⟨let ⟨b,e,h1,h2⟩:=h.1;⟨b,e,t _ _ h1,h2.tups t⟩,PrsV.tups t h.2⟩
theorem PrsV.snoc {H:Hp} {y:V} {e:KD×V×V} (hy:∃ b,y=.ref b/\H b=some (.tup [e.2.1,e.2.2])/\GK H e.1 e.2.1):∀ {ys:List V} {es:List (KD×V×V)},PrsV H ys es->PrsV H (ys++[y]) (es++[e])
 | [],[],_=>⟨hy,trivial⟩
 | [],_::_,h=>h.elim
 | _::_,[],h=>h.elim
 | _::_,_::_,h=>⟨h.1,PrsV.snoc hy h.2⟩
end L2
namespace Rga
end Rga
namespace L2
open PySem PySem.Spec PySem.W PyProof.Rows
section
variable {X:Cx} {tg:Expr}
def rCatU:R2:=fun x y H Q=>∃ a b xs ys,x=.ref a/\y=.ref b/\H a=some (.tup xs)/\H b=some (.tup ys)/\xs≠[]/\xs.length+ys.length≤sizeLine/\∀ p H',Same H H'->H' p=some (.tup (xs++ys))->Q (.ref p) H'
theorem xAmn:OpR X (binaryOp .Add) rCatU:=xAsw.imp fun _ _ H _ ⟨a,b,xs,ys,h1,h2,h3,h4,h5,h6,q⟩=>⟨a,b,xs,ys,h1,h2,SqT.of h3,SqT.of h4,h5,h6,fun z=>q a H (Same.refl _) (by rw [z,zy];exact h3),fun _ p hp=>q p _ (Same.new hp) xAae⟩
end
end L2
namespace Rga
open L2
section
variable {bh:Nat->Option Nat} {D:Nat->PySem.PyData} {a b c d x:Nat}
end
end Rga
namespace L2
open PySem PySem.Spec PySem.W PyProof.Rows
def tCut (t u:TS):TS:=fun D σ H=>∃ P:St->Hp->Prop,t { D with nx:=P } σ H/\∀ σ' H',P σ' H'->u D σ' H'
def tPost (t:TT):TT:=fun σ H Q=>∃ P:Bool->Hp->Prop,t σ H P/\∀ b H',P b H'->Q b H'
section
variable {X:Cx} {st:Stmt} {rest:List Stmt} {t u:TS}
theorem xAdi (h1:PS X st t) (h2:PSs X rest u):PSs X (st::rest) (tCut t u):=by
 intro pins s σ H D I h;obtain ⟨P,h,k⟩:=h;refine wpAny_execs_cons (thn (h1 pins s σ H { D with nx:=P } I h) fun f s1 q=>?_)
 cases f with
 | next =>
  obtain ⟨σ',H',I',q⟩:=q;exact h2 pins s1 σ' H' D I' (k σ' H' q)
 | ret v=>exact q
 | brk=>exact q
 | cont=>exact q
theorem xAec {e:Expr} {t:TT} (h:PT X e t):PT X e (tPost t):=by
 intro pins s σ H Q I q;obtain ⟨P,h1,h2⟩:=q;exact thn (h pins s σ H P I h1) fun b s1 ⟨H',I',q⟩=>⟨H',I',h2 _ _ q⟩
end
end L2
namespace L2
open PySem PySem.Spec PyProof.Rows
section
variable {X:Cx}
end
end L2
namespace L2
open PySem PySem.Spec PySem.W PyProof.Rows
section
variable {X:Cx} {pins:List (Addr×Obj)} {σ:St} {H:Hp} {s:Shared}
end
end L2
namespace My
open PySem L2 PyProof.Rows
theorem szOk {n:Nat} (h:Nat.ble n 1000=true):n≤sizeLine:=zv (xAak (jz h))
theorem big {n:Nat} (h:n≤1000):n≤sizeLine:=zv (xAak h)
theorem itT {c:Bool} {A B:Prop} (h:c=true) (a:A):if c=true then A else B:=by rw [if_pos h];exact a
theorem itF {c:Bool} {A B:Prop} (h:c=false) (b:B):if c=true then A else B:=by rw [if_neg (by rw [h];decide)];exact b
def kP:Key->PyData
 | .inl i=>.int i
 | .inr s=>.str s
theorem xAor {H:Hp}:∀ ks:List Key,DTs H (ks.map kV) (ks.map kP)
 | []=>.nil
 | .inl i::ks=>.cons (.int i) (xAor ks)
 | .inr s::ks=>.cons (.str s) (xAor ks)
def dN (nk:Nat->List Key) (i:Nat):PyData:=.tuple ((nk i).map kP)
theorem NM.dt {nk:Nat->List Key} {H:Hp} {v:V} {i:Nat} (h:NM nk H v i):DT H v (dN nk i):=by
 obtain ⟨b,rfl,h⟩:=h;exact .tup h (xAor _)
theorem xAmo {H:Hp}:∀ {vs:List V} {ds:List PyData} {m:Nat} {v:V} {d:PyData},DTs H vs ds->vs[m]?=some v->ds[m]?=some d->DT H v d
 | _,_,0,_,_,.cons a _,e1,e2=>by cases e1;cases e2;exact a
 | _,_,m+1,_,_,.cons _ b,e1,e2=>xAmo (m:=m) b (by simpa using e1) (by simpa using e2)
theorem xAfm {H:Hp} {x:V} {d:PyData} (h:DT H x d):∀ {xs:List V} {ds:List PyData},DTs H xs ds->DTs H (xs++[x]) (ds++[d])
 | _,_,.nil=>.cons h .nil
 | _,_,.cons a t=>.cons a (xAfm h t)
theorem xAgl {α β:Type}:∀ (es xs:List (KD×α×β)),((xs++es).map (·.1)).Nodup->putAll xs es=xs++es
 | [],xs,_=>(zy xs).symm
 | e::es,xs,h=>by
  have hn:∀ x∈xs,x.1≠e.1:=fun x hx z=>by
   rw [zx,za] at h;exact (gm.mp h).2.2 x.1 (qk.mpr ⟨x,hx,rfl⟩) e.1 qp z
  have hv:=xAgg hn
  have hp:pG xs e.1 e.2.1 e.2.2=xs++[e]:=by
   unfold pG;rw [hv,if_neg (fun z=>nomatch z)]
  show putAll (pG xs e.1 e.2.1 e.2.2) es=_;rw [hp,xAgl es (xs++[e]) (by rw [zo];exact h),zo];rfl
def sp_fAh (K:PySem.W.Frag):Sp:=fun vs H Q _=>∃ v nk bh D k,vs=[v]/\PL nk bh D H v k/\∀ kv,DT H kv (D k)->Q kv H
theorem xAuu {K:PySem.W.Frag} {vs:List V} {H:Hp} {Q:VK} {E:XK} (h:sp_fAh K vs H Q E):vs.length=1:=by obtain ⟨_,_,_,_,_,rfl,_⟩:=h;rfl
def sp_fAg (K:PySem.W.Frag):Sp:=fun vs H Q _=>∃ p ys nk bh D ms js t,vs=[.ref p]/\SqL K H p ys/\AN (PL nk bh D H) ys js/\ms=js/\PLW nk bh D ms t/\∀ H' dq kvs,Same H H'->FD nk bh ms ms H H' dq kvs->Q (.ref dq) H'
theorem xAuv {K:PySem.W.Frag} {vs:List V} {H:Hp} {Q:VK} {E:XK} (h:sp_fAg K vs H Q E):vs.length=1:=by obtain ⟨_,_,_,_,_,_,_,_,rfl,_⟩:=h;rfl
def sp_fBb (K:PySem.W.Frag):Sp:=fun vs H Q _=>∃ p ys nk bh D ms js t,vs=[.ref p]/\SqL K H p ys/\AN (PL nk bh D H) ys js/\ms=js/\PLW nk bh D ms t/\∀ H' q zs,Same H H'->H q=none->H' q=some (.lst zs)->AN (NM nk H') zs (Rga.rowR (Rga.qsOf bh ms))->Q (.ref q) H'
theorem xAuw {K:PySem.W.Frag} {vs:List V} {H:Hp} {Q:VK} {E:XK} (h:sp_fBb K vs H Q E):vs.length=1:=by obtain ⟨_,_,_,_,_,_,_,_,rfl,_⟩:=h;rfl
theorem big2 {n:Nat} (h:n≤2000):n≤sizeLine:=zv (xAbp h)
theorem xAed {P P':V->Nat->Prop} {vs:List V} {js:List Nat} (h:AN P vs js) (f:∀ v i,i∈js->P v i->P' v i):AN P' vs js:=⟨h.1,fun m v i e1 e2=>f _ _ (zk e2) (h.2 m v i e1 e2)⟩
def tD (ks:List Key):PyData:=.tuple (ks.map kP)
theorem noB_kP:∀ k:Key,noB (kP k)=true
 | .inl _=>rfl
 | .inr _=>rfl
theorem xAju (ks:List Key):noB (tD ks)=true:=by
 show noB (.tuple (ks.map kP))=true;rw [noB]
 exact xAdu fun d hd=>by obtain ⟨k,_,rfl⟩:=qk.mp hd;exact noB_kP k
theorem xAcc (ks:List Key):(tD ks).depth≤1:=by
 have:PyData.depthAll (ks.map kP)≤0:=xAdz fun d hd=>by
  obtain ⟨k,_,rfl⟩:=qk.mp hd;cases k <;> exact qg 0
 show PyData.depthAll (ks.map kP)+1≤1;omega
theorem kP_inj:∀ {a b:Key},kP a=kP b->a=b
 | .inl _,.inl _,h=>by injection h with h;rw [h]
 | .inl _,.inr _,h=>by cases h
 | .inr _,.inl _,h=>by cases h
 | .inr _,.inr _,h=>by injection h with h;rw [h]
theorem xAqb:∀ {a b:List Key},a.map kP=b.map kP->a=b
 | [],[],_=>rfl
 | [],_::_,h=>by cases h
 | _::_,[],h=>by cases h
 | x::a,y::b,h=>by
  rw [za,za] at h;injection h with h1 h2;rw [kP_inj h1,xAqb h2]
theorem tD_inj {a b:List Key} (h:tD a=tD b):a=b:=xAqb (PyData.tuple.inj h)
theorem xAem (a b:List Key):PyData.eqv (tD a) (tD b)=decide (a=b):=by
 by_cases h:a=b
 ·rw [decide_eq_true h,h]
  exact (xAhz _ _ (xAju b) (xAju b)).mpr rfl
 ·rw [decide_eq_false h]
  cases q:PyData.eqv (tD a) (tD b) with
  | false=>rfl
  | true=>exact absurd (tD_inj ((xAhz _ _ (xAju a) (xAju b)).mp q)) h
theorem gk_td {H:Hp} {ks:List Key} {v:V} (h:GK H (.tup ks) v):DT H v (tD ks):=by
 obtain ⟨b,rfl,h⟩:=h;exact .tup h (xAor _)
def Lay (ks:List Key):Prop:=(tD ks).canLay0=true
def Lt2 (a b c d:Int):Prop:=a<c\/(a=c/\b<d)
theorem lt2_D {a b c d:Int} (h:Lt2 a b c d):ltD (.tuple [.int a,.int b]) (.tuple [.int c,.int d])=true:=by
 rw [ltD];rcases h with h | ⟨rfl,h⟩
 ·exact xAeb h
 ·exact xAfl (xAeb h)
theorem xAee (n:Nat):(List.range n).Pairwise fun a b=>a<b:=List.pairwise_lt_range
theorem Rd.same {H H':Hp} {a:Addr} {u:HO} (r:Rd H a u) (s:Same H H'):Rd H' a u:=by
 rcases r with r | ⟨o,r⟩
 ·exact .inl (s _ _ r)
 ·exact .inr ⟨o,s _ _ r⟩
def kN (i:Nat):Key:=.inr ((["births","places","cuts","signs","marks","notes","lines","cells","leaves"]:List Str).getD i "")
def fkv (F:Nat->Addr) (n:Nat):List (Key×V):=(List.range n).map fun i=>(kN i,.ref (F i))
theorem xAos:∀ i,i<9->∀ j,j<9->kN i=kN j->i=j:=by decide +kernel
theorem xAdb (F:Nat->Addr) (i:Nat) (h:i<9):valV (fkv F 9) (kN i)=some (.ref (F i)):=by
 have go:∀ (l:List Nat),(∀ j∈l,j<9)->i∈l->valV (l.map fun i=>(kN i,V.ref (F i))) (kN i)=some (.ref (F i)):=fun l=>by
  induction l with
  | nil=>intro _ z;cases z
  | cons j l ih =>
   intro hl hi;rw [za]
   by_cases e:j=i
   ·subst e;exact xAbf rfl
   ·rw [xAbg (fun z=>e (xAos j (hl j qp) i h z))]
    rcases qw.mp hi with z | z
    ·exact absurd z.symm e
    ·exact ih (fun j hj=>hl j (qr _ hj)) z
 exact go _ (fun j hj=>ql.mp hj) (ql.mpr h)
theorem rd_ne {H:Hp} {a b:Addr} {kvs:List (Key×V)} {xs:List V} (r:Rd H a (.dK kvs)) (e:H b=some (.lst xs)):a≠b:=fun z=>by
 subst z;rcases r with r | ⟨o,r⟩ <;> rw [e] at r <;> cases r
theorem Rd.wr {H:Hp} {a b:Addr} {u o:HO} (r:Rd H a u) (h:a≠b):Rd (upd H b o) a u:=by
 rcases r with r | ⟨o,r⟩
 ·exact .inl (by rw [xAag h];exact r)
 ·exact .inr ⟨o,by rw [xAag h];exact r⟩
theorem xAef {z:Str} (h:PyData.strOk z=true) (x:Int):Lay [.inr z,.inl x]:=by
 show (PyData.strOk z&&(true&&true))=true;rw [h];rfl
theorem xAmp {C:Nat->Addr} {j:Nat} {c:Addr}:fkv (fun i=>if i=j then c else C i) (j+1)=fkv C j++[(kN j,.ref c)]:=by
 unfold fkv;rw [vj,zx]
 have:(List.range j).map (fun i=>(kN i,V.ref (if i=j then c else C i)))=(List.range j).map (fun i=>(kN i,V.ref (C i))):=yc fun i hi=>by
  have:=ql.mp hi;rw [if_neg (by omega)]
 rw [this]
 simp
def Rest (H H':Hp) (S:Addr->Prop):Prop:=∀ b o,H b=some o->¬ S b->H' b=some o
theorem xAqc (F:Nat->Addr):(fkv F 9).length=9:=by unfold fkv;rw [qj,q9]
structure Sg where
 pt:List Key
 nk:List Key
 bh:Option Nat
 ka:Int
 kb:Int
 kc:Int
 sg:PyData
 lv:Bool
def nkS (S:Nat->Sg) (i:Nat):List Key:=(S i).nk
def bhS (S:Nat->Sg) (i:Nat):Option Nat:=(S i).bh
def DS (S:Nat->Sg) (i:Nat):PyData:=.tuple [.int (S i).ka,.int (S i).kb,.int (S i).kc]
inductive SN (S:Nat->Sg) (H:Hp) (v:V) (i:Nat):Prop
 | mk (b:Addr) (vp vn vb:V) (kq:Addr) (vs:V) (h0:v=.ref b) (h1:H b=some (.tup [vp,vn,vb,.ref kq,vs,.bl (S i).lv])) (h2:GK H (.tup (S i).pt) vp) (h3:NM (nkS S) H vn i) (h4:GK H (kd (nkS S) (bhS S i)) vb) (h5:H kq=some (.tup [.int (S i).ka,.int (S i).kb,.int (S i).kc])) (h6:DT H vs (S i).sg):SN S H v i
theorem SN.tups {S:Nat->Sg} {H H':Hp} {v:V} {i:Nat} (h:SN S H v i) (t:Tups H H'):SN S H' v i:=by
 obtain ⟨b,vp,vn,vb,kq,vs,e,h1,h2,h3,h4,h5,h6⟩:=h;exact ⟨b,vp,vn,vb,kq,vs,e,t _ _ h1,h2.tups t,h3.tups t,h4.tups t,t _ _ h5,h6.tups t⟩
def Lt3 (x y:Sg):Prop:=x.ka<y.ka\/(x.ka=y.ka/\(x.kb<y.kb\/(x.kb=y.kb/\x.kc<y.kc)))
theorem lt3_D {S:Nat->Sg} {i j:Nat} (h:Lt3 (S i) (S j)):ltD (DS S i) (DS S j)=true:=by
 unfold DS;rw [ltD];rcases h with h | ⟨e,h | ⟨e',h⟩⟩
 ·exact xAeb h
 ·rw [e];exact xAfl (xAeb h)
 ·rw [e,e'];exact xAfl (xAfl (xAeb h))
def OkS (d:PyData):Prop:=d.canLay0=true/\sk d d=true/\d.depth≤3
structure WS (S:Nat->Sg) (n:Nat):Prop where
 few:n≤1400
 up:∀ i j,i<j->j<n->Lt3 (S i) (S j)
 inj:∀ i,i<n->∀ j,j<n->(S i).nk=(S j).nk->i=j
 back:∀ i,i<n->∀ j,(S i).bh=some j->j<i/\(S j).pt=(S i).pt
 lay:∀ i,i<n->Lay (S i).nk/\Lay (S i).pt
 sgn:∀ i,i<n->OkS (S i).sg
def mineS (S:Nat->Sg) (pt:List Key) (i:Nat):Bool:=decide ((S i).pt=pt)
theorem xAau {S:Nat->Sg} {pt:List Key} {i:Nat}:mineS S pt i=true↔(S i).pt=pt:=decide_eq_true_iff
def minesS (S:Nat->Sg) (n:Nat) (pt:List Key):List Nat:=(List.range n).filter (mineS S pt)
def rowS (S:Nat->Sg) (n:Nat) (pt:List Key):List Nat:=Rga.rowR (Rga.qsOf (bhS S) (minesS S n pt))
def aliveS (S:Nat->Sg) (n:Nat) (pt:List Key):List Nat:=(rowS S n pt).filter fun i=>(S i).lv
theorem WS.plw {S:Nat->Sg} {n:Nat} (W:WS S n) (pt:List Key):PLW (nkS S) (bhS S) (DS S) (minesS S n pt) 2:=by
 have W0:PLW (nkS S) (bhS S) (DS S) (List.range n) 2:=by
  refine ⟨by rw [q9];have:=W.few;omega,?_,fun i hi j hj e=>W.inj i (ql.mp hi) j (ql.mp hj) e,Rga.wf_range fun i hi b e=>(W.back i hi b e).1,xAmm fun d hd=>?_⟩
  ·exact (xAee n).imp_of_mem fun {a b} ha hb h=>lt3_D (W.up a b h (ql.mp hb))
  ·obtain ⟨i,_,rfl⟩:=qk.mp hd
   exact .inr ⟨_,_,_,rfl⟩
 refine W0.filter fun k hk hP b e=>?_;obtain ⟨h1,h2⟩:=W.back k (ql.mp hk) b e;exact xAau.mpr (h2.trans (xAau.mp hP))
theorem xAjv {S:Nat->Sg} {j:Nat} {pt:List Key} (h:mineS S pt j=true):minesS S (j+1) pt=minesS S j pt++[j]:=by
 unfold minesS;rw [vj,yd,jg h];rfl
theorem xAjw {S:Nat->Sg} {j:Nat} {pt:List Key} (h:¬ mineS S pt j=true):minesS S (j+1) pt=minesS S j pt:=by
 unfold minesS;rw [vj,yd,jh h,List.filter_nil,zy]
theorem xAcs {S:Nat->Sg} {n i:Nat} {pt:List Key} (h:i∈minesS S n pt):i<n/\(S i).pt=pt:=⟨ql.mp (qv.mp h).1,xAau.mp (qv.mp h).2⟩
theorem xAcm {S:Nat->Sg} {n i:Nat} {pt:List Key} (W:WS S n):i∈rowS S n pt↔i<n/\(S i).pt=pt:=by
 have e:=Rga.nms_qs (bhS S) (minesS S n pt);have h:i∈rowS S n pt↔i∈Rga.nms (Rga.qsOf (bhS S) (minesS S n pt)):=(Rga.row_perm (W.plw pt).wf).mem_iff;rw [h,e,yf];exact ⟨xAcs,fun z=>qv.mpr ⟨ql.mpr z.1,xAau.mpr z.2⟩⟩
theorem xAaz {S:Nat->Sg} {n i:Nat} {pt:List Key} (W:WS S n) (h:i∈rowS S n pt):i<n:=((xAcm W).mp h).1
theorem xAbe {S:Nat->Sg} {n:Nat} {pt:List Key} (W:WS S n):(rowS S n pt).Nodup:=Rga.row_nodup (W.plw pt).wf
theorem xAbu {S:Nat->Sg} {n:Nat} {pt:List Key} (W:WS S n):(rowS S n pt).length≤n:=by
 unfold rowS;rw [Rga.row_len (W.plw pt).wf];exact qh (wb _ _) (by rw [q9];exact qg _)
def FG (H:Hp) (fa:Addr) (S:Nat->Sg) (n:Nat):Prop:=∃ kvs la vs,Rd H fa (.dK kvs)/\valV kvs (.inr "signs")=some (.ref la)/\H la=some (.lst vs)/\AN (SN S H) vs (List.range n)/\WS S n
theorem FG.same {H H':Hp} {fa:Addr} {S:Nat->Sg} {n:Nat} (h:FG H fa S n) (s:Same H H'):FG H' fa S n:=by
 obtain ⟨kvs,la,vs,h1,h2,h3,h4,h5⟩:=h;exact ⟨kvs,la,vs,Rd.same h1 s,h2,s _ _ h3,h4.imp fun v i g=>g.tups s.tups,h5⟩
def extS (S:Nat->Sg) (n:Nat) (r:Sg):Nat->Sg:=fun i=>if i=n then r else S i
theorem xAbq {S:Nat->Sg} {n:Nat} {r:Sg} {i:Nat} (h:i<n):extS S n r i=S i:=if_neg (by omega)
theorem xAct {S:Nat->Sg} {n:Nat} {r:Sg}:extS S n r n=r:=if_pos rfl
def Agr (S S':Nat->Sg) (n:Nat):Prop:=∀ i,i<n->S' i=S i
theorem Agr.refl (S:Nat->Sg) (n:Nat):Agr S S n:=fun _ _=>rfl
theorem Agr.trans {S S' S'':Nat->Sg} {n m:Nat} (h:Agr S S' n) (g:Agr S' S'' m) (hn:n≤m):Agr S S'' n:=fun i hi=>(g i (by omega)).trans (h i hi)
theorem Agr.ext (S:Nat->Sg) (n:Nat) (r:Sg):Agr S (extS S n r) n:=fun i hi=>xAbq hi
theorem NM.agr {S S':Nat->Sg} {n:Nat} {H:Hp} {v:V} {i:Nat} (a:Agr S S' n) (hi:i<n) (h:NM (nkS S) H v i):NM (nkS S') H v i:=by
 unfold NM nkS at h ⊢;rw [a i hi];exact h
theorem SN.agr {S S':Nat->Sg} {n:Nat} {H:Hp} {v:V} {i:Nat} (a:Agr S S' n) (hi:i<n) (hb:∀ j,(S i).bh=some j->j<n) (h:SN S H v i):SN S' H v i:=by
 obtain ⟨b,vp,vn,vb,kq,vs,e,h1,h2,h3,h4,h5,h6⟩:=h;have ei:S' i=S i:=a i hi;refine ⟨b,vp,vn,vb,kq,vs,e,by rw [ei];exact h1,by rw [ei];exact h2,NM.agr a hi h3,?_,by rw [ei];exact h5,by rw [ei];exact h6⟩;unfold bhS at h4 ⊢;rw [ei]
 cases z:(S i).bh with
 | none=>rw [z] at h4;exact h4
 | some j =>
  rw [z] at h4;exact NM.agr a (hb j z) h4
theorem xAgm {S S':Nat->Sg} {n:Nat} (a:Agr S S' n) (pt:List Key):minesS S' n pt=minesS S n pt:=by
 unfold minesS;refine ji fun i hi=>?_;unfold mineS;rw [a i (ql.mp hi)]
theorem WS.ext {S:Nat->Sg} {n:Nat} {r:Sg} (W:WS S n) (hn:n<1400) (up:∀ i,i<n->Lt3 (S i) r) (ne:∀ i,i<n->(S i).nk≠r.nk) (bk:∀ j,r.bh=some j->j<n/\(S j).pt=r.pt) (l1:Lay r.nk) (l2:Lay r.pt) (l3:OkS r.sg):WS (extS S n r) (n+1) where
 few:=hn
 up:=fun i j h1 h2=>by
  by_cases z:j=n
  ·subst z
   rw [xAct,xAbq h1];exact up i h1
  ·rw [xAbq (show j<n by omega),xAbq (show i<n by omega)]
   exact W.up i j h1 (by omega)
 inj:=fun i hi j hj e=>by
  by_cases zi:i=n
  ·by_cases zj:j=n
   ·omega
   ·rw [zi,xAct,xAbq (show j<n by omega)] at e
    exact absurd e.symm (ne j (by omega))
  ·by_cases zj:j=n
   ·rw [zj,xAct,xAbq (show i<n by omega)] at e
    exact absurd e (ne i (by omega))
   ·rw [xAbq (show i<n by omega),xAbq (show j<n by omega)] at e
    exact W.inj i (by omega) j (by omega) e
 back:=fun i hi j e=>by
  by_cases z:i=n
  ·subst z
   rw [xAct] at e ⊢;obtain ⟨h1,h2⟩:=bk j e;rw [xAbq h1];exact ⟨h1,h2⟩
  ·rw [xAbq (show i<n by omega)] at e ⊢
   obtain ⟨h1,h2⟩:=W.back i (by omega) j e;rw [xAbq (show j<n by omega)];exact ⟨h1,h2⟩
 lay:=fun i hi=>by
  by_cases z:i=n
  ·subst z;rw [xAct];exact ⟨l1,l2⟩
  ·rw [xAbq (show i<n by omega)];exact W.lay i (by omega)
 sgn:=fun i hi=>by
  by_cases z:i=n
  ·subst z;rw [xAct];exact l3
  ·rw [xAbq (show i<n by omega)];exact W.sgn i (by omega)
abbrev Sd:=Option (Nat×Bool)
def sdW (b:Bool):Str:=if b then "behind" else "ahead"
def SdV (S:Nat->Sg) (H:Hp):Sd->V->Prop
 | none,v=>v=.non
 | some (i,b),v=>∃ a vn,v=.ref a/\H a=some (.tup [vn,.str (sdW b)])/\NM (nkS S) H vn i
theorem SdV.tups {S:Nat->Sg} {H H':Hp} {d:Sd} {v:V} (h:SdV S H d v) (t:Tups H H'):SdV S H' d v:=by
 match d,h with
 | none,h=>exact h
 | some (i,b),⟨a,vn,e,h1,h2⟩=>exact ⟨a,vn,e,t _ _ h1,h2.tups t⟩
def SdOk (S:Nat->Sg) (n:Nat) (pt:List Key) (d:Sd):Prop:=∀ i b,d=some (i,b)->i<n/\(S i).pt=pt
theorem SdV.agr {S S':Nat->Sg} {n:Nat} {pt:List Key} {H:Hp} {d:Sd} {v:V} (a:Agr S S' n) (o:SdOk S n pt d) (h:SdV S H d v):SdV S' H d v:=by
 match d,h with
 | none,h=>exact h
 | some (i,b),⟨c,vn,e,h1,h2⟩=>exact ⟨c,vn,e,h1,NM.agr a (o i b rfl).1 h2⟩
theorem SdOk.agr {S S':Nat->Sg} {n m:Nat} {pt:List Key} {d:Sd} (a:Agr S S' n) (h:n≤m) (o:SdOk S n pt d):SdOk S' m pt d:=fun i b e=>by
 obtain ⟨h1,h2⟩:=o i b e;exact ⟨by omega,by rw [a i h1];exact h2⟩
structure Mk where
 pt:List Key
 b:Sd
 e:Sd
 kd:Str
 vl:Option Str
 nm:List Key
 ka:Int
 kb:Int
def vlV:Option Str->V
 | none=>.non
 | some z=>.str z
inductive MN (S:Nat->Sg) (M:Nat->Mk) (H:Hp) (v:V) (i:Nat):Prop
 | mk (b:Addr) (vp vb ve vn:V) (kq:Addr) (h0:v=.ref b) (h1:H b=some (.tup [vp,vb,ve,.str (M i).kd,vlV (M i).vl,vn,.ref kq])) (h2:GK H (.tup (M i).pt) vp) (h3:SdV S H (M i).b vb) (h4:SdV S H (M i).e ve) (h5:GK H (.tup (M i).nm) vn) (h6:H kq=some (.tup [.int (M i).ka,.int (M i).kb])):MN S M H v i
theorem MN.tups {S:Nat->Sg} {M:Nat->Mk} {H H':Hp} {v:V} {i:Nat} (h:MN S M H v i) (t:Tups H H'):MN S M H' v i:=by
 obtain ⟨b,vp,vb,ve,vn,kq,e,h1,h2,h3,h4,h5,h6⟩:=h;exact ⟨b,vp,vb,ve,vn,kq,e,t _ _ h1,h2.tups t,h3.tups t,h4.tups t,h5.tups t,t _ _ h6⟩
structure WK (S:Nat->Sg) (n:Nat) (M:Nat->Mk) (m:Nat):Prop where
 few:m≤70
 up:∀ i j,i<j->j<m->Lt2 (M i).ka (M i).kb (M j).ka (M j).kb
 sd:∀ i,i<m->SdOk S n (M i).pt (M i).b/\SdOk S n (M i).pt (M i).e
 lay:∀ i,i<m->Lay (M i).pt/\Lay (M i).nm/\PyData.strOk (M i).kd=true/\∀ z,(M i).vl=some z->PyData.strOk z=true
theorem WK.agr {S S':Nat->Sg} {n n':Nat} {M:Nat->Mk} {m:Nat} (a:Agr S S' n) (h:n≤n') (W:WK S n M m):WK S' n' M m :=
 ⟨W.few,W.up,fun i hi=>⟨(W.sd i hi).1.agr a h,(W.sd i hi).2.agr a h⟩,W.lay⟩
theorem MN.agr {S S':Nat->Sg} {n:Nat} {M:Nat->Mk} {m:Nat} {H:Hp} {v:V} {i:Nat} (a:Agr S S' n) (W:WK S n M m) (hi:i<m) (h:MN S M H v i):MN S' M H v i:=by
 obtain ⟨b,vp,vb,ve,vn,kq,e,h1,h2,h3,h4,h5,h6⟩:=h;exact ⟨b,vp,vb,ve,vn,kq,e,h1,h2,h3.agr a (W.sd i hi).1,h4.agr a (W.sd i hi).2,h5,h6⟩
def extM (M:Nat->Mk) (n:Nat) (r:Mk):Nat->Mk:=fun i=>if i=n then r else M i
theorem xAby {M:Nat->Mk} {n:Nat} {r:Mk} {i:Nat} (h:i<n):extM M n r i=M i:=if_neg (by omega)
theorem xAcu {M:Nat->Mk} {n:Nat} {r:Mk}:extM M n r n=r:=if_pos rfl
theorem MN.ext {S:Nat->Sg} {M:Nat->Mk} {n:Nat} {r:Mk} {H:Hp} {v:V} {i:Nat} (hi:i<n) (h:MN S M H v i):MN S (extM M n r) H v i:=by
 have e:extM M n r i=M i:=xAby hi;obtain ⟨b,vp,vb,ve,vn,kq,h0,h1,h2,h3,h4,h5,h6⟩:=h;exact ⟨b,vp,vb,ve,vn,kq,h0,by rw [e];exact h1,by rw [e];exact h2,by rw [e];exact h3,by rw [e];exact h4,by rw [e];exact h5,by rw [e];exact h6⟩
theorem WK.ext {S:Nat->Sg} {n:Nat} {M:Nat->Mk} {m:Nat} {r:Mk} (W:WK S n M m) (hm:m<70) (up:∀ i,i<m->Lt2 (M i).ka (M i).kb r.ka r.kb) (sd:SdOk S n r.pt r.b/\SdOk S n r.pt r.e) (l:Lay r.pt/\Lay r.nm/\PyData.strOk r.kd=true/\∀ z,r.vl=some z->PyData.strOk z=true):WK S n (extM M m r) (m+1) where
 few:=hm
 up:=fun i j h1 h2=>by
  by_cases z:j=m
  ·subst z
   rw [xAcu,xAby h1];exact up i h1
  ·rw [xAby (show j<m by omega),xAby (show i<m by omega)]
   exact W.up i j h1 (by omega)
 sd:=fun i hi=>by
  by_cases z:i=m
  ·subst z;rw [xAcu];exact sd
  ·rw [xAby (show i<m by omega)];exact W.sd i (by omega)
 lay:=fun i hi=>by
  by_cases z:i=m
  ·subst z;rw [xAcu];exact l
  ·rw [xAby (show i<m by omega)];exact W.lay i (by omega)
inductive NN (S:Nat->Sg) (M:Nat->Mk) (H:Hp) (v:V) (i:Nat):Prop
 | mk (b:Addr) (vp vb ve vn:V) (kq:Addr) (h0:v=.ref b) (h1:H b=some (.tup [vp,vb,ve,.str (M i).kd,vn,.ref kq])) (h2:GK H (.tup (M i).pt) vp) (h3:SdV S H (M i).b vb) (h4:SdV S H (M i).e ve) (h5:GK H (.tup (M i).nm) vn) (h6:H kq=some (.tup [.int (M i).ka,.int (M i).kb])):NN S M H v i
theorem NN.tups {S:Nat->Sg} {M:Nat->Mk} {H H':Hp} {v:V} {i:Nat} (h:NN S M H v i) (t:Tups H H'):NN S M H' v i:=by
 obtain ⟨b,vp,vb,ve,vn,kq,e,h1,h2,h3,h4,h5,h6⟩:=h;exact ⟨b,vp,vb,ve,vn,kq,e,t _ _ h1,h2.tups t,h3.tups t,h4.tups t,h5.tups t,t _ _ h6⟩
theorem NN.agr {S S':Nat->Sg} {n:Nat} {M:Nat->Mk} {m:Nat} {H:Hp} {v:V} {i:Nat} (a:Agr S S' n) (W:WK S n M m) (hi:i<m) (h:NN S M H v i):NN S' M H v i:=by
 obtain ⟨b,vp,vb,ve,vn,kq,e,h1,h2,h3,h4,h5,h6⟩:=h;exact ⟨b,vp,vb,ve,vn,kq,e,h1,h2,h3.agr a (W.sd i hi).1,h4.agr a (W.sd i hi).2,h5,h6⟩
theorem NN.ext {S:Nat->Sg} {M:Nat->Mk} {n:Nat} {r:Mk} {H:Hp} {v:V} {i:Nat} (hi:i<n) (h:NN S M H v i):NN S (extM M n r) H v i:=by
 have e:extM M n r i=M i:=xAby hi;obtain ⟨b,vp,vb,ve,vn,kq,h0,h1,h2,h3,h4,h5,h6⟩:=h;exact ⟨b,vp,vb,ve,vn,kq,h0,by rw [e];exact h1,by rw [e];exact h2,by rw [e];exact h3,by rw [e];exact h4,by rw [e];exact h5,by rw [e];exact h6⟩
structure FS (H:Hp) (fa:Addr) (F:Nat->Addr) (S:Nat->Sg) (n:Nat) (M:Nat->Mk) (m:Nat) (N:Nat->Mk) (q:Nat) (vs ms ns:List V):Prop where
 dk:Rd H fa (.dK (fkv F 9))
 inj:∀ i,i<9->∀ j,j<9->F i=F j->i=j
 rest:∀ i,i<9->i≠3->i≠4->i≠5->H (F i)=some (.lst [])
 sl:H (F 3)=some (.lst vs)
 sa:AN (SN S H) vs (List.range n)
 ws:WS S n
 ml:H (F 4)=some (.lst ms)
 ma:AN (MN S M H) ms (List.range m)
 wm:WK S n M m
 nl:H (F 5)=some (.lst ns)
 na:AN (NN S N H) ns (List.range q)
 wn:WK S n N q
section
variable {H H':Hp} {fa:Addr} {F:Nat->Addr} {S S':Nat->Sg} {n n':Nat} {M:Nat->Mk} {m:Nat} {N:Nat->Mk} {q:Nat} {vs ms ns:List V}
theorem FS.fg (h:FS H fa F S n M m N q vs ms ns):FG H fa S n:=⟨fkv F 9,F 3,vs,h.dk,xAdb F 3 (by decide),h.sl,h.sa,h.ws⟩
theorem FS.to (h:FS H fa F S n M m N q vs ms ns) (t:Tups H H') (hf:Rd H' fa (.dK (fkv F 9))) (hl:∀ i,i<9->∀ xs,H (F i)=some (.lst xs)->H' (F i)=some (.lst xs)):FS H' fa F S n M m N q vs ms ns where
 dk:=hf
 inj:=h.inj
 rest:=fun i h1 h2 h3 h4=>hl i h1 _ (h.rest i h1 h2 h3 h4)
 sl:=hl 3 (by decide) _ h.sl
 sa:=h.sa.imp fun v i g=>g.tups t
 ws:=h.ws
 ml:=hl 4 (by decide) _ h.ml
 ma:=h.ma.imp fun v i g=>g.tups t
 wm:=h.wm
 nl:=hl 5 (by decide) _ h.nl
 na:=h.na.imp fun v i g=>g.tups t
 wn:=h.wn
theorem FS.same (h:FS H fa F S n M m N q vs ms ns) (s:Same H H'):FS H' fa F S n M m N q vs ms ns:=h.to s.tups (Rd.same h.dk s) fun _ _ _ e=>s _ _ e
theorem FS.lst (h:FS H fa F S n M m N q vs ms ns) {i:Nat} (hi:i<9):∃ xs,H (F i)=some (.lst xs):=by
 by_cases h3:i=3
 ·rw [h3];exact ⟨_,h.sl⟩
 ·by_cases h4:i=4
  ·rw [h4];exact ⟨_,h.ml⟩
  ·by_cases h5:i=5
   ·rw [h5];exact ⟨_,h.nl⟩
   ·exact ⟨_,h.rest i hi h3 h4 h5⟩
theorem FS.wr (h:FS H fa F S n M m N q vs ms ns) {p:Addr} {xs:List V} {o:HO} (e:H p=some (.lst xs)) (hp:∀ i,i<9->p≠F i):FS (upd H p o) fa F S n M m N q vs ms ns :=
 h.to (Tups.wl e) (Rd.wr h.dk (rd_ne h.dk e)) fun i hi ys ey=>by rw [xAag (hp i hi).symm];exact ey
theorem FS.sign (h:FS H fa F S n M m N q vs ms ns) {p kq:Addr} {vp vn vb vg:V} {r:Sg} (e:H p=some (.tup [vp,vn,vb,.ref kq,vg,.bl r.lv])) (g1:GK H (.tup r.pt) vp) (g2:GK H (.tup r.nk) vn) (g3:GK H (kd (nkS S) r.bh) vb) (g4:H kq=some (.tup [.int r.ka,.int r.kb,.int r.kc])) (g5:DT H vg r.sg)
  (W:WS (extS S n r) (n+1)):FS (upd H (F 3) (.lst (vs++[.ref p]))) fa F (extS S n r) (n+1) M m N q (vs++[.ref p]) ms ns:=by
 have t:Tups H (upd H (F 3) (.lst (vs++[.ref p]))):=Tups.wl h.sl;have a:=Agr.ext S n r
 have nF:∀ i,i<9->i≠3->F i≠F 3:=fun i h1 h2 z=>h2 (h.inj i h1 3 (by decide) z)
 have bk:∀ j,r.bh=some j->j<n:=fun j z=>(W.back n (vy n) j (by rw [xAct];exact z)).1
 refine ⟨Rd.wr h.dk (rd_ne h.dk h.sl),h.inj,fun i h1 h2 h3 h4=>by rw [xAag (nF i h1 h2)];exact h.rest i h1 h2 h3 h4,xAae,?_,W,by rw [xAag (nF 4 (by decide) (by decide))];exact h.ml,xAed h.ma fun v i hi g=>(g.tups t).agr a h.wm (ql.mp hi),h.wm.agr a (vi n),by rw [xAag (nF 5 (by decide) (by decide))];exact h.nl,xAed h.na fun v i hi g=>(g.tups t).agr a h.wn (ql.mp hi),h.wn.agr a (vi n)⟩;rw [vj];refine AN.snoc (xAed h.sa fun v i hi g=>(g.tups t).agr a (ql.mp hi) fun j z=>?_) ?_
 ·have hi:=ql.mp hi
  have:=(h.ws.back i hi j z).1;omega
 ·have ex:extS S n r n=r:=xAct
  refine ⟨p,vp,vn,vb,kq,vg,rfl,by rw [ex];exact t _ _ e,by rw [ex];exact g1.tups t,by unfold NM nkS;rw [ex];exact g2.tups t,?_,by rw [ex];exact t _ _ g4,by rw [ex];exact g5.tups t⟩;unfold bhS;rw [ex]
  cases z:r.bh with
  | none=>rw [z] at g3;exact g3
  | some j =>
   rw [z] at g3;exact NM.tups (NM.agr a (bk j z) g3) t
theorem FS.mark (h:FS H fa F S n M m N q vs ms ns) {p kq:Addr} {vp vb ve vn:V} {r:Mk} (e:H p=some (.tup [vp,vb,ve,.str r.kd,vlV r.vl,vn,.ref kq])) (g1:GK H (.tup r.pt) vp) (g2:SdV S H r.b vb) (g3:SdV S H r.e ve) (g4:GK H (.tup r.nm) vn) (g5:H kq=some (.tup [.int r.ka,.int r.kb]))
  (W:WK S n (extM M m r) (m+1)):FS (upd H (F 4) (.lst (ms++[.ref p]))) fa F S n (extM M m r) (m+1) N q vs (ms++[.ref p]) ns:=by
 have t:Tups H (upd H (F 4) (.lst (ms++[.ref p]))):=Tups.wl h.ml
 have nF:∀ i,i<9->i≠4->F i≠F 4:=fun i h1 h2 z=>h2 (h.inj i h1 4 (by decide) z)
 refine ⟨Rd.wr h.dk (rd_ne h.dk h.ml),h.inj,fun i h1 h2 h3 h4=>by rw [xAag (nF i h1 h3)];exact h.rest i h1 h2 h3 h4,by rw [xAag (nF 3 (by decide) (by decide))];exact h.sl,h.sa.imp fun v i g=>g.tups t,h.ws,xAae,?_,W,by rw [xAag (nF 5 (by decide) (by decide))];exact h.nl,h.na.imp fun v i g=>g.tups t,h.wn⟩;rw [vj];refine AN.snoc (xAed h.ma fun v i hi g=>(g.tups t).ext (ql.mp hi)) ?_;have ex:∀ {m:Nat} {M:Nat->Mk},extM M m r m=r:=xAcu;exact ⟨p,vp,vb,ve,vn,kq,rfl,by rw [ex];exact t _ _ e,by rw [ex];exact g1.tups t,by rw [ex];exact g2.tups t,by rw [ex];exact g3.tups t,by rw [ex];exact g4.tups t,by rw [ex];exact t _ _ g5⟩
theorem FS.note (h:FS H fa F S n M m N q vs ms ns) {p kq:Addr} {vp vb ve vn:V} {r:Mk} (e:H p=some (.tup [vp,vb,ve,.str r.kd,vn,.ref kq])) (g1:GK H (.tup r.pt) vp) (g2:SdV S H r.b vb) (g3:SdV S H r.e ve) (g4:GK H (.tup r.nm) vn) (g5:H kq=some (.tup [.int r.ka,.int r.kb]))
  (W:WK S n (extM N q r) (q+1)):FS (upd H (F 5) (.lst (ns++[.ref p]))) fa F S n M m (extM N q r) (q+1) vs ms (ns++[.ref p]):=by
 have t:Tups H (upd H (F 5) (.lst (ns++[.ref p]))):=Tups.wl h.nl
 have nF:∀ i,i<9->i≠5->F i≠F 5:=fun i h1 h2 z=>h2 (h.inj i h1 5 (by decide) z)
 refine ⟨Rd.wr h.dk (rd_ne h.dk h.nl),h.inj,fun i h1 h2 h3 h4=>by rw [xAag (nF i h1 h4)];exact h.rest i h1 h2 h3 h4,by rw [xAag (nF 3 (by decide) (by decide))];exact h.sl,h.sa.imp fun v i g=>g.tups t,h.ws,by rw [xAag (nF 4 (by decide) (by decide))];exact h.ml,h.ma.imp fun v i g=>g.tups t,h.wm,xAae,?_,W⟩;rw [vj];refine AN.snoc (xAed h.na fun v i hi g=>(g.tups t).ext (ql.mp hi)) ?_;have ex:∀ {m:Nat} {M:Nat->Mk},extM M m r m=r:=xAcu;exact ⟨p,vp,vb,ve,vn,kq,rfl,by rw [ex];exact t _ _ e,by rw [ex];exact g1.tups t,by rw [ex];exact g2.tups t,by rw [ex];exact g3.tups t,by rw [ex];exact g4.tups t,by rw [ex];exact t _ _ g5⟩
end
end My
namespace L2
open PySem PySem.Spec PySem.W PyProof.Rows
section
variable {prog:Program} {w:World} {A:Around} {E:Value->Shared->Prop} {s:Shared}
theorem xAry {d:Addr} {od:Obj} {es:Array DictEntry} {ep:Nat} {Q:Value->Shared->Prop} (hs:(d==sysModules)=false) (ho:s.heap.get? d=some od) (hc:od.ExactDict) (hdat:od.data=.dict es ep)
  (hQ:Q (.ref s.heap.objs.size) { s with heap:=s.heap.push { cls:=.type "dict_keyiterator",data:=.fields #[.ref d,.int 0 0,.int es.size 0,.int ep 0] } }):wpAny (model prog w) A (pyIter (.ref d)) Q E s:=by
 have hT:s.TypeIs (.ref d) "dict":=⟨od,ho,hc.1⟩;refine wpAny_pyIter_slot hT F.slot_dict_iter (wpAny_call_entry F.slot_dict_iter hT F.entry_dict_iter ?_ (F.args_dict_iter_1 _));unfold Builtin.«dict.__iter__» Builtin.Dict.dictSlotNone;refine wpAny_bind (wpAny_bind (wpAny_notOrdered_dict hT ?_));refine wpAny_pure (a:=Value.ref d) ?_;show wpAny _ _ (Builtin.Dict.showsAll d >>= _) _ _ s;unfold Builtin.Dict.showsAll;rw [if_neg (by rw [hs];decide)];refine wpAny_bind (wpAny_pure (wpAny_bind (wpAny_dictEntries ho hdat (wpAny_bind (wpAny_dictEpoch ho hdat ?_)))));exact wpAny_bind (wpAny_newObj_type (wpAny_pure ⟨_,rfl,"dict_keyiterator",_,⟨_,Heap.get?_push_size _ rfl,rfl⟩,F.slot_dict_keyiterator_next.lookup,by simpa [rawInt] using hQ⟩))
theorem xAmq {it d:Addr} {i n ep:Nat} {od:Obj} {es:Array DictEntry} {Q:Option Value->Shared->Prop} (hh:A.handled=none) (hit:s.heap.IsKeyIter it d i n ep) (hod:s.heap.get? d=some od) (hdd:od.data=.dict es ep) (hn:es.size=n)
  (h1:∀ (hi:i<es.size) h',h'.IsKeyIter it d (i+1) n ep->Heap.SameBut it s.heap h'->Q (some es[i].key) { s with heap:=h' })
  (h2:es.size≤i->∀ h',Heap.ExtBut it s.heap h'->Q none { s with heap:=h' }):wpAny (model prog w) A (pyNext (.ref it)) Q E s:=by
 obtain ⟨o,ho,hc,hd⟩:=id hit;subst hn;unfold pyNext
 refine wpAny_bind (wpAny_attempt (wpAny_callSpecial?_slot (name:=Str.ofString "__next__") hit.typeIs F.slot_dict_keyiterator_next
  (wpAny_call_entry F.slot_dict_keyiterator_next hit.typeIs F.entry_dict_keyiterator_next ?_ (F.args_dict_keyiterator_next_1 _))))
 refine wpAny_bind (wpAny_pure (wpAny_bind (wpAny_bind ?_)))
 first | refine wpAny_bind (wpAny_typeNameOfWhole_keyiter hit.typeIs (wpAny_pure ?_)) | refine wpAny_bind (wpAny_typeNameOf_keyiter hit.typeIs (wpAny_pure ?_))
 refine wpAny_bind (wpAny_fieldsOf ho hd ?_)
 simp only [show Builtin.Dict_items.ownsTuple "dict_keyiterator"=false by decide,Bool.false_eq_true,if_false]
 show wpAny _ _ (if (Value.ref d==Value.none)=true then _ else _) _ _ s;rw [if_neg (show ¬ ((Value.ref d==Value.none)=true) from zh)];refine wpAny_bind (wpAny_pure (wpAny_bind (wpAny_dictEntries hod hdd ?_)));rw [if_neg (by simp)];refine wpAny_bind (wpAny_pure (wpAny_bind (wpAny_dictEpoch hod hdd ?_)));rw [if_neg (by simp)];refine wpAny_pure ?_
 by_cases hi:i<es.size
 ·simp only [show ¬ ((i:Int)<0) from by omega,if_false,Int.toNat_natCast,Array.getElem?_eq_getElem hi]
  refine wpAny_bind ?_
  first | refine wpAny_bind (wpAny_typeNameOfWhole_keyiter hit.typeIs (wpAny_pure ?_)) | refine wpAny_bind (wpAny_typeNameOf_keyiter hit.typeIs (wpAny_pure ?_))
  refine wpAny_bind (wpAny_isOneOf_keyiter hit.typeIs ?_);show wpAny _ _ (setField (.ref it) 1 (rawInt ((i:Int)+1)) >>= _) _ _ s;refine wpAny_bind (wpAny_setField ho hd (by simp) ?_)
  have hit':(s.heap.update it (Obj.mapFields (·.setIfInBounds 1 (rawInt ((i:Int)+1))))).IsKeyIter it d (i+1) es.size ep :=
   ⟨_,Heap.get?_update_self _ ho (Obj.isFreed_of_fields (Obj.data_mapFields hd _)),(Obj.cls_mapFields ..).trans hc,by rw [Obj.data_mapFields hd];simp [rawInt]⟩
  refine wpAny_bind (wpAny_holding (wpAny_bind (wpAny_isOneOf_keyiter (s:={ s with heap:=s.heap.update it (Obj.mapFields (·.setIfInBounds 1 (rawInt ((i:Int)+1)))) }) hit'.typeIs ?_)));show wpAny _ _ (pure es[i].key) _ _ _;exact wpAny_pure (wpAny_pure ⟨_,rfl,wpAny_pure (h1 hi _ hit' (Heap.SameBut.update ..))⟩)
 ·have hge:es.size≤i:=by omega
  simp only [show ¬ ((i:Int)<0) from by omega,if_false,Int.toNat_natCast,Array.getElem?_eq_none hge]
  refine wpAny_bind ?_
  first | refine wpAny_bind (wpAny_typeNameOfWhole_keyiter hit.typeIs (wpAny_pure ?_)) | refine wpAny_bind (wpAny_typeNameOf_keyiter hit.typeIs (wpAny_pure ?_))
  show wpAny _ _ (setField (.ref it) 0 .none >>= _) _ _ s;refine wpAny_bind (wpAny_setField ho hd (by simp) ?_);show wpAny _ _ (newExc (.type "StopIteration") [] >>= _) _ _ _;refine wpAny_bind ?_
  simp only [newExc,newTuple]
  refine wpAny_bind (wpAny_newObj_type ?_ (by size_fits));refine wpAny_bind (m:=firstArgMember _ _) (wpAny_of_eq (a:=Value.none) (by first | rfl | (simp only [firstArgMember];rfl)) ?_);refine wpAny_newObj_type ?_ (by size_fits)
  simp only [raiseNew]
  refine wpAny_bind (wpAny_handled ?_);rw [show A.in1.handled=none from hh];refine wpAny_bind (wpAny_pure (wpAny_throw ?_));refine wpAny_bind (wpAny_isInstance (T:="StopIteration") (b:=true) ⟨_,Heap.get?_push_size _ rfl,rfl⟩ isSubtype_stop ?_);exact wpAny_pure (h2 hge _ (((Heap.SameBut.update ..).extBut.push _).push _))
end
section
variable {X:Cx} {pins:List (Addr×Obj)} {σ:St} {H:Hp} {s:Shared}
end
section
variable {X:Cx} {tg:Expr}
end
section
variable {P:Program} {w:World} {A:Around} {E:Value->Shared->Prop} {s:Shared}
theorem drop_cons {α:Type} {l:List α} {i:Nat} (h:i<l.length):l.drop i=l[i]::l.drop (i+1):=ja h
theorem xAet {h:Heap}:∀ {vs:List Value} {ds:List PyData} {as:List Addr},ReadsAll h vs ds as->vs.length=ds.length/\∀ (i:Nat) (h1:i<vs.length) (h2:i<ds.length),∃ bs,Reads h vs[i] ds[i] bs
 | _,_,_,.nil=>⟨rfl,fun i h1=>absurd h1 (zc i)⟩
 | _,_,_,.cons r t=>⟨by rw [qx,qx,(xAet t).1],fun i h1 h2=>by
  cases i with
  | zero=>exact ⟨_,r⟩
  | succ i=>exact (xAet t).2 i (w6 h1) (w6 h2)⟩
theorem xAfn:∀ {ds:List PyData},PyData.canLayAll0 ds=true->∀ {i:Nat} (h:i<ds.length),ds[i].canLay0=true
 | d::ds,l,i,h=>by
  have l:(d.canLay0&&PyData.canLayAll0 ds)=true:=l;rw [zu] at l
  cases i with
  | zero=>exact l.1
  | succ i=>exact xAfn l.2 (w6 h)
theorem xAip:∀ {ds:List PyData} {i:Nat} (h:i<ds.length),ds[i].depth≤PyData.depthAll ds
 | d::ds,i,h=>by
  show _≤max d.depth (PyData.depthAll ds)
  cases i with
  | zero=>exact Nat.le_max_left _ _
  | succ i=>exact qh (xAip (w6 h)) (Nat.le_max_right _ _)
theorem xAux {nm:String} {a b:Addr} {xa xb:List (KD×Value×Value)} {da db:List PyData} {as bs:List Addr} {Q:Bool->Shared->Prop} (hu:A.units+1<cLine) (ha:(a==sysModules)=false) (hb:(b==sysModules)=false)
  (ga:GDict P w s.heap a xa) (gb:GDict P w s.heap b xb) (hk:xa.map (·.1)=xb.map (·.1)) (ra:ReadsAll s.heap (xa.map (·.2.2)) da as) (rb:ReadsAll s.heap (xb.map (·.2.2)) db bs)
  (la:PyData.canLayAll0 da=true) (lb:PyData.canLayAll0 db=true) (hd:A.units+PyData.depthAll da<cLine) (h:Q (PyData.eqvAll da db) s):wpAny (model P w) A (Builtin.Dict.samePairs nm a b) Q E s:=by
 obtain ⟨oa,es,ep,hoa,_,hda,hea,hia,hna⟩:=ga;obtain ⟨ob,es',ep',hob,_,hdb,heb,hib,hnb⟩:=gb
 have sza:es.size=xa.length:=by rw [← qy,hea,qj]
 have szb:es'.size=xb.length:=by rw [← qy,heb,qj]
 have hl:xa.length=xb.length:=by simpa using congrArg List.length hk
 have la1:xa.length=da.length:=by simpa using (xAet ra).1
 have lb1:xb.length=db.length:=by simpa using (xAet rb).1
 have ata:∀ i (hi:i<xa.length) (hi':i<es.size),es[i]=gEnt P w xa[i]:=fun i hi hi'=>by
  have:es.toList[i]?=(xa.map (gEnt P w))[i]?:=by rw [hea]
  rw [qt,qi hi,z6,we hi'] at this;exact Option.some.inj this
 have atb:∀ i (hi:i<xb.length) (hi':i<es'.size),es'[i]=gEnt P w xb[i]:=fun i hi hi'=>by
  have:es'.toList[i]?=(xb.map (gEnt P w))[i]?:=by rw [heb]
  rw [qt,qi hi,z6,we hi'] at this;exact Option.some.inj this
 have alike:∀ i (h1:i<xa.length) (h2:i<xb.length) (h3:i<da.length) (h4:i<db.length),SeqAt.EqAt A s xa[i].2.2 xb[i].2.2 (PyData.eqv da[i] db[i]):=fun i h1 h2 h3 h4=>by
  obtain ⟨_,r1⟩:=(xAet ra).2 i (by simpa using h1) h3;obtain ⟨_,r2⟩:=(xAet rb).2 i (by simpa using h2) h4;rw [gt] at r1 r2;have l1:da[i].canLay0=true:=xAfn la h3;have l2:db[i].canLay0=true:=xAfn lb h4;exact SeqAt.eqAt_reads _ _ A s _ _ _ _ r1 r2 l1 l2 (by have:=xAip h3;omega)
 unfold Builtin.Dict.samePairs Builtin.Dict.showsAll;rw [if_neg (by rw [ha];decide),if_neg (by rw [hb];decide)];refine wpAny_bind (wpAny_pure (wpAny_bind (wpAny_pure (wpAny_bind (wpAny_dictEntries hoa hda ?_)))));dsimp only;refine wpAny_bind (wpAny_dictEntries hob hdb ?_);rw [if_neg (by rw [sza,szb,hl];simp)];refine wpAny_bind (wpAny_dictEpoch hoa hda (wpAny_bind ?_));rw [Std.Legacy.Range.forIn_eq_forIn_range']
 simp only [Std.Legacy.Range.size,Nat.sub_zero,Nat.add_sub_cancel,Nat.div_one]
 refine wpAny_forIn_list _ (fun rest q s'=>s'=s/\q=(none,())/\∃ i,rest=List.range' i (es.size - i)/\i≤es.size/\PyData.eqvAll (da.drop i) (db.drop i)=PyData.eqvAll da db) _ ?_ ?_ _ _ ⟨rfl,rfl,0,by simp,Nat.zero_le _,rfl⟩
 ·rintro x rest q s' ⟨rfl,rfl,i,hr,hi,hpre⟩
  have hlt:i<es.size:=by
   rcases yv i es.size with h | h
   ·exact h
   ·rw [Nat.sub_eq_zero_of_le h] at hr;simp at hr
  obtain ⟨rfl,hrest⟩:x=i/\rest=List.range' (i+1) (es.size - (i+1)):=by
   rw [show es.size - i=(es.size - (i+1))+1 by omega,List.range'_succ] at hr;injection hr with h1 h2;exact ⟨h1,h2⟩
  have i1:x<xa.length:=by omega
  have i2:x<xb.length:=by omega
  have i3:x<da.length:=by omega
  have i4:x<db.length:=by omega
  refine wpAny_bind (wpAny_dictEntries hoa hda ?_);rw [we hlt];show wpAny _ _ (holding [es[x].key,es[x].val] _ >>= _) _ _ _;rw [ata x i1 hlt];refine wpAny_bind (wpAny_holding (wpAny_bind (xAoj hu (hia _ (yr i1)) hob hdb heb hib hnb ?_)))
  have ek:xb[x].1=xa[x].1:=by
   have:=congrArg (fun l=>l[x]?) hk
   simp only [List.getElem?_map,List.getElem?_eq_getElem i1,List.getElem?_eq_getElem i2,Option.map_some,Option.some.injEq] at this
   exact this.symm
  rw [xAfi hnb (qi i2) ek];refine wpAny_bind (wpAny_dictEntries hob hdb ?_)
  have i2':x<es'.size:=by omega
  rw [we i2',atb x i2 i2'];rw [drop_cons i3,drop_cons i4] at hpre;have hpre:(PyData.eqv da[x] db[x]&&PyData.eqvAll (da.drop (x+1)) (db.drop (x+1)))=PyData.eqvAll da db:=hpre;refine wpAny_holding (alike x i1 i2 i3 i4 P w _ _ ?_)
  cases e:PyData.eqv da[x] db[x] with
  | false =>
   rw [e,Bool.false_and] at hpre;rw [← hpre] at h;show wpAny _ _ (if (!false)=true then _ else _) _ _ _;rw [if_pos (by decide)];exact wpAny_pure (wpAny_pure h)
  | true =>
   rw [e,Bool.true_and] at hpre;show wpAny _ _ (if (!true)=true then _ else _) _ _ _;rw [if_neg (by decide)];refine wpAny_bind (wpAny_dictEpoch hoa hda ?_);rw [if_neg (by simp)];exact wpAny_pure ⟨rfl,rfl,x+1,hrest,hlt,hpre⟩
 ·rintro q s' ⟨rfl,rfl,i,hr,hi,hpre⟩
  have hin:i=es.size:=by
   rcases yv i es.size with h | h
   ·rw [show es.size - i=(es.size - (i+1))+1 by omega,List.range'_succ] at hr
    exact nomatch hr
   ·exact Nat.le_antisymm hi h
  refine wpAny_pure ?_;rw [hin,gr (by omega),gr (by omega)] at hpre;rw [← hpre] at h;exact h
theorem xAiq {nm:String} {a b:Addr} {xa xb:List (KD×Value×Value)} {Q:Bool->Shared->Prop} (ha:(a==sysModules)=false) (hb:(b==sysModules)=false)
  (ga:GDict P w s.heap a xa) (gb:GDict P w s.heap b xb) (hl:xa.length≠xb.length) (h:Q false s):wpAny (model P w) A (Builtin.Dict.samePairs nm a b) Q E s:=by
 obtain ⟨oa,es,ep,hoa,_,hda,hea,_⟩:=ga;obtain ⟨ob,es',ep',hob,_,hdb,heb,_⟩:=gb
 have sza:es.size=xa.length:=by rw [← qy,hea,qj]
 have szb:es'.size=xb.length:=by rw [← qy,heb,qj]
 unfold Builtin.Dict.samePairs Builtin.Dict.showsAll;rw [if_neg (by rw [ha];decide),if_neg (by rw [hb];decide)];refine wpAny_bind (wpAny_pure (wpAny_bind (wpAny_pure (wpAny_bind (wpAny_dictEntries hoa hda ?_)))));dsimp only;refine wpAny_bind (wpAny_dictEntries hob hdb ?_);rw [if_pos (by rw [sza,szb];simpa using hl)];exact wpAny_bind (wpAny_rule (wpAny_pure h))
theorem eqG {a b:Addr} {xa xb:List (KD×Value×Value)} {r:Bool} {Q:Value->Shared->Prop} (hu:A.units<cLine) (ga:GDict P w s.heap a xa) (gb:GDict P w s.heap b xb)
  (hp:∀ (nm:String) (Q':Bool->Shared->Prop) E',Q' r s->wpAny (model P w) A.in1 (Builtin.Dict.samePairs nm a b) Q' E' s) (h:Q (.bool r) s):wpAny (model P w) A (compareOp .Eq (.ref a) (.ref b)) Q E s:=by
 refine wpAny_richCompare_same_room (op:=.Eq) ga.typeIs gb.typeIs PySem.F.slot_dict_eq (wpAny_call_entry PySem.F.slot_dict_eq ga.typeIs PySem.F.entry_dict_eq ?_ (PySem.F.args_dict_eq_2 _ _)) hu;show wpAny _ _ (Builtin.Dict.dictSlotArgs "__eq__" ⟨[.ref a,.ref b],[]⟩ >>= _) _ _ s;unfold Builtin.Dict.dictSlotArgs;refine wpAny_bind (wpAny_bind (wpAny_notOrdered_dict ga.typeIs ?_));refine wpAny_pure (a:=(Value.ref a,Value.ref b)) ?_;refine wpAny_bind (wpAny_isInstance (T:="dict") gb.typeIs PySem.F.sub_dict_dict ?_)
 simp only [Bool.not_true,Bool.false_eq_true,if_false]
 refine wpAny_bind (wpAny_pure (wpAny_bind (wpAny_pure (wpAny_bind (hp _ _ _ ?_)))));exact wpAny_pure ⟨_,rfl,(fun x=>nomatch x),by simpa using h⟩
theorem neG {a b:Addr} {xa xb:List (KD×Value×Value)} {r:Bool} {Q:Value->Shared->Prop} (hu:A.units<cLine) (ga:GDict P w s.heap a xa) (gb:GDict P w s.heap b xb)
  (hp:∀ (nm:String) (Q':Bool->Shared->Prop) E',Q' r s->wpAny (model P w) A.in1 (Builtin.Dict.samePairs nm a b) Q' E' s) (h:Q (.bool (!r)) s):wpAny (model P w) A (compareOp .NotEq (.ref a) (.ref b)) Q E s:=by
 refine wpAny_richCompare_same_room (op:=.NotEq) ga.typeIs gb.typeIs PySem.F.slot_dict_ne (wpAny_call_entry PySem.F.slot_dict_ne ga.typeIs PySem.F.entry_dict_ne ?_ (PySem.F.args_dict_ne_2 _ _)) hu;show wpAny _ _ (Builtin.Dict.dictSlotArgs "__ne__" ⟨[.ref a,.ref b],[]⟩ >>= _) _ _ s;unfold Builtin.Dict.dictSlotArgs;refine wpAny_bind (wpAny_bind (wpAny_notOrdered_dict ga.typeIs ?_));refine wpAny_pure (a:=(Value.ref a,Value.ref b)) ?_;refine wpAny_bind (wpAny_isInstance (T:="dict") gb.typeIs PySem.F.sub_dict_dict ?_)
 simp only [Bool.not_true,Bool.false_eq_true,if_false]
 refine wpAny_bind (wpAny_pure (wpAny_bind (wpAny_pure (wpAny_bind (hp _ _ _ ?_)))));exact wpAny_pure ⟨_,rfl,(fun x=>nomatch x),by simpa using h⟩
end
theorem xAdj {H:Hp} {ka:List (KD×V×V)} {xa:List (KD×Value×Value)} (h:Paired (GP H) ka xa):Vals (ka.map (·.2.2)) (xa.map (·.2.2))/\xa.map (·.1)=ka.map (·.1):=by
 induction h with
 | nil=>exact ⟨.nil,rfl⟩
 | cons a _ ih=>exact ⟨.cons a.2.2.2 ih.1,by rw [za,za,ih.2,a.1]⟩
def rDictEqG (K:PySem.W.Frag) (u:Nat) (neg:Bool):R2:=fun x y H Q=>∃ a b ka kb,x=.ref a/\y=.ref b/\Rd H a (.dG ka)/\Rd H b (.dG kb) ∧
 ((ka.length≠kb.length/\Q (.bl neg) H)\/∃ da db,ka.map (·.1)=kb.map (·.1)/\DVs K H (ka.map (·.2.2)) da/\DVs K H (kb.map (·.2.2)) db/\PyData.canLayAll0 da=true/\PyData.canLayAll0 db=true/\PyData.depthAll da+1≤u ∧
  Q (.bl (if neg then !PyData.eqvAll da db else PyData.eqvAll da db)) H)
section
variable {X:Cx}
theorem op_eqG {u:Nat} (hu2:X.A.units+2<cLine) (hu:X.A.units+u<cLine):OpR X (compareOp .Eq) (rDictEqG X.K u false):=by
 intro pins s σ H x y v w Q I rx ry h;obtain ⟨a,b,ka,kb,rfl,rfl,ea,eb,h⟩:=h;cases rx;cases ry;obtain ⟨_,ha,xa,pa,ga⟩:=gd_rd I ea;obtain ⟨_,hb,xb,pb,gb⟩:=gd_rd I eb;have la:=pa.length;have lb:=pb.length;rcases h with ⟨hl,q⟩ | ⟨da,db,hk,va,vb,l1,l2,hd,q⟩
 ·exact eqG (r:=false) (by omega) ga gb (fun nm Q' E' h'=>xAiq ha hb ga gb (by omega) h') ⟨.bl false,H,I,rfl,q⟩
 ·obtain ⟨as,qa⟩:=va.reads I (xAdj pa).1
  obtain ⟨bs,qb⟩:=vb.reads I (xAdj pb).1;exact eqG (by omega) ga gb (fun nm Q' E' h'=>xAux (by show X.A.units+1+1<cLine;omega) ha hb ga gb ((xAdj pa).2.trans (hk.trans (xAdj pb).2.symm)) qa qb l1 l2 (by show X.A.units+1+_<cLine;omega) h') ⟨.bl _,H,I,rfl,q⟩
theorem op_neG {u:Nat} (hu2:X.A.units+2<cLine) (hu:X.A.units+u<cLine):OpR X (compareOp .NotEq) (rDictEqG X.K u true):=by
 intro pins s σ H x y v w Q I rx ry h;obtain ⟨a,b,ka,kb,rfl,rfl,ea,eb,h⟩:=h;cases rx;cases ry;obtain ⟨_,ha,xa,pa,ga⟩:=gd_rd I ea;obtain ⟨_,hb,xb,pb,gb⟩:=gd_rd I eb;have la:=pa.length;have lb:=pb.length;rcases h with ⟨hl,q⟩ | ⟨da,db,hk,va,vb,l1,l2,hd,q⟩
 ·exact neG (r:=false) (by omega) ga gb (fun nm Q' E' h'=>xAiq ha hb ga gb (by omega) h') ⟨.bl true,H,I,rfl,q⟩
 ·obtain ⟨as,qa⟩:=va.reads I (xAdj pa).1
  obtain ⟨bs,qb⟩:=vb.reads I (xAdj pb).1;exact neG (by omega) ga gb (fun nm Q' E' h'=>xAux (by show X.A.units+1+1<cLine;omega) ha hb ga gb ((xAdj pa).2.trans (hk.trans (xAdj pb).2.symm)) qa qb l1 l2 (by show X.A.units+1+_<cLine;omega) h') ⟨.bl _,H,I,rfl,q⟩
end
section
variable {P:Program} {w:World} {A:Around} {E:Value->Shared->Prop} {s:Shared}
theorem xAmr {d:Addr} {vs:List (Key×Value)} {k:Key} {v val:Value} {Q:Value->Shared->Prop} (hkey:(mixKind P w).is k v=true) (g:s.heap.DictOf (mixKind P w) d vs) (hsz:vs.length≤sizeLine)
  (h1:∀ u,valueAt vs k=some u->Q u { s with toks:=s.toks+1 })
  (h2:valueAt vs k=none->∀ h',h'.DictOf (mixKind P w) d (stored vs k val)->Heap.SameBut d s.heap h'->Q val { s with heap:=h',toks:=s.toks+1 }):wpAny (model P w) A (dictSetDefault d v val) Q E s:=by
 obtain ⟨o,es,ep,ho,hc,hd,hk,hp,hn⟩:=g
 have hes:es.size≤sizeLine:=by have e1:=hp.length;rw [qy] at e1;omega
 have hl:(es.findIdx? fun e=>(mixKind P w).is k e.key)=vs.findIdx? fun kv=>decide (kv.1=k):=by
  rw [← hp.findIdx k];obtain ⟨l⟩:=es;simp
 unfold dictSetDefault
 try with_reducible refine wpAny_holding ?_
 refine wpAny_bind ((mixKind P w).pyHash hkey (wpAny_bind (wpAny_dictFind_of (s:={ s with toks:=s.toks+1 }) hkey ho hd hk ?_)))
 cases hi:es.findIdx? fun e=>(mixKind P w).is k e.key with
 | none =>
  have hnot:k∉vs.map (·.1):=not_mem_of_findIdx_none (hl▸hi)
  have hany:¬ (vs.any fun kv=>decide (kv.1=k))=true:=fun z=>by
   obtain ⟨kv,hkv,he⟩:=vh.mp z;exact hnot (qk.mpr ⟨kv,hkv,of_decide_eq_true he⟩)
  have hv:valueAt vs k=none:=by
   rw [← hp.find k]
   have:es.toList.find? (fun e=>(mixKind P w).is k e.key)=none:=by
    rw [jw];intro e he z;have hf:=Array.findIdx?_eq_none_iff.mp hi e (ke.mp he);rw [hf] at z;cases z
   rw [this];rfl
  refine wpAny_bind (wpAny_rule (wpAny_bind (wpAny_updateDictKeys (hz:=hes) (s:={ s with toks:=s.toks+1 }) ho hd (wpAny_pure (h2 hv _ ⟨_,_,ep+1,Heap.get?_update_self _ ho (Obj.isFreed_of_dict (Obj.data_mapDictKeys hd _)),hc.mapDictKeys _,Obj.data_mapDictKeys hd _,hk.push hkey _,?_,?_⟩ (Heap.SameBut.update ..))))))
  ·rw [stored,if_neg hany]
   have:=hp.append hkey ((mixKind P w).hash k) val;obtain ⟨l⟩:=es;simpa using this
  ·rw [stored,if_neg hany,zx,gm]
   refine ⟨hn,by simp,fun x hx y hy z=>?_⟩;rw [z] at hx;rw [zb.mp hy] at hx;exact hnot hx
 | some i =>
  obtain ⟨hilt,_,_⟩:=Array.findIdx?_eq_some_iff_getElem.mp hi;have hi2:vs.findIdx? (fun kv=>decide (kv.1=k))=some i:=hl▸hi;obtain ⟨hlt,hki,_⟩:=gy.mp hi2;have hki:vs[i].1=k:=of_decide_eq_true hki
  have hg:vs[i]?=some (k,vs[i].2):=by rw [qi hlt,← hki]
  obtain ⟨_,hval⟩:=hp.get? (i:=i) (e:=es[i]) (k:=k) (v:=vs[i].2) (by rw [z6];exact we hilt) hg;refine wpAny_bind (wpAny_dictEntries (s:={ s with toks:=s.toks+1 }) ho hd ?_);rw [we hilt];refine wpAny_bind (wpAny_rule (wpAny_pure ?_));rw [hval];exact h1 _ (valueAt_of_get hn hg)
theorem xAot {d:Addr} {v dflt:Value} (hd:(d==sysModules)=false):MeetsIn P w (Builtin.«dict.setdefault» ⟨[.ref d,v,dflt],[]⟩) (fun A R s=>∃ k vs,(mixKind P w).is k v=true/\s.heap.DictOf (mixKind P w) d vs/\vs.length≤sizeLine ∧
      (∀ u,valueAt vs k=some u->R (.ok (.ret u)) { s with toks:=s.toks+1 })/\(valueAt vs k=none->∀ h',h'.DictOf (mixKind P w) d (stored vs k dflt)->Heap.SameBut d s.heap h'->R (.ok (.ret dflt)) { s with heap:=h',toks:=s.toks+1 })) :=
 .of_wp fun A R s ⟨k,vs,a,g,hz,h1,h2⟩=>by
  unfold Builtin.«dict.setdefault»;refine wpAny_bind ?_;unfold Builtin.Dict.keyAndDefault;refine wpAny_bind (wpAny_notOrdered_dict g.typeIs (wpAny_pure ?_));show wpAny (model P w) _ (if (d==sysModules)=true then _ else (dictSetDefault d v dflt >>= _)) _ _ s;rw [if_neg (by rw [hd];decide)];exact wpAny_bind (xAmr a g hz (fun u hv=>wpAny_pure ⟨u,rfl,h1 u hv⟩) fun hv h' g' hs'=>wpAny_pure ⟨dflt,rfl,h2 hv h' g' hs'⟩)
end
def rSetDefK:V->List V->Hp->VK->Prop:=fun x vs H Q=>∃ a kvs k d,x=.ref a/\vs=[kV k,d]/\H a=some (.dK kvs)/\kvs.length<sizeLine/\(∀ u,valV kvs k=some u->Q u H)/\(valV kvs k=none->Q d (upd H a (.dK (putK kvs k d))))
section
variable {X:Cx}
theorem xAms:MtM X "dict.setdefault" rSetDefK:=by
 intro pins s σ H x xs v us Q I rx rv h;obtain ⟨a,kvs,k,d,rfl,rfl,ha,hl,q1,q2⟩:=h;obtain ⟨u,u2,rfl,ru,ru2⟩:=rv.two;cases rx;obtain ⟨z,hd,ys,rel,dd⟩:=dk_of I.hok ha;have eo:=rel.val k;refine call_meetsIn F.slot_dict_setdefault dd.typeIs F.entry_dict_setdefault (F.args_dict_setdefault_3 _ _ _) (xAot hd) ⟨k,ys,kV_is ru,dd,by rw [← rel.length];exact z,fun w' hw=>?_,fun hw h' dd' hs'=>?_⟩
 ·rw [hw] at eo
  cases e:valV kvs k with
  | none=>rw [e] at eo;exact eo.elim
  | some v=>rw [e] at eo;exact ⟨v,H,I.tok _,eo,q1 v e⟩
 ·rw [hw] at eo
  cases e:valV kvs k with
  | some v=>rw [e] at eo;exact eo.elim
  | none =>
   have hl':(putK kvs k d).length≤sizeLine:=by have:=xAcd kvs k d;omega
   have he:∃ q,h'.get? a=some q:=let ⟨q,_,_,hq,_⟩:=dd';⟨q,hq⟩
   exact ⟨d,upd H a (.dK (putK kvs k d)),xAeo I (by rw [ha];exact True.intro) hs' he (xAqu hl' hd (rel.put k ru2) dd'),ru2,q2 e⟩
end
section
variable {prog:Program} {w:World} {A:Around} {E:Value->Shared->Prop} {s:Shared}
theorem xAou {it d:Addr} {od:Obj} {es:Array DictEntry} {ep:Nat} (hh:A.handled=none) (hne:it≠d) (hdat:od.data=.dict es ep) :
  WalksS prog w A it [it,d] [it] Eq es.size (fun j v=>(es[j]?).map (·.key)=some v) (fun i s=>s.heap.IsKeyIter it d i es.size ep/\s.heap.get? d=some od) where
 sub:=fun b hb=>by rw [zb.mp hb];exact qp
 grefl:=fun _=>rfl
 gtrans:=fun _ _ _ h1 h2=>h1.trans h2
 frame:=fun i s h' tk ⟨⟨o,e,c,dd⟩,e2⟩ _ k=>⟨⟨o,k it qp o e,c,dd⟩,k d (qr _ qp) od e2⟩
 item:=fun i s Q E hi ⟨st,e2⟩ k=>xAmq hh st e2 hdat rfl (fun hi' h' st' sb=>k _ _ (by rw [we hi'];rfl) ⟨st',(sb.2 d hne.symm).trans e2⟩ ⟨fun b o hb e=>(sb.2 b (fun z=>hb (by rw [z];exact qp))).trans e,rfl,rfl,rfl,qg _⟩) fun z=>absurd hi (by omega)
 done:=fun s Q E ⟨st,e2⟩ k=>xAmq hh st e2 hdat rfl (fun hi'=>absurd hi' (by omega)) fun _ h' eb=>k _ ⟨fun b o hb e=>eb b o (fun z=>hb (by rw [z];exact qp)) e,rfl,rfl,rfl,qg _⟩
 self:=fun i s Q E ⟨st,_⟩ h=>wpAny_pyIter_keyiter st h
theorem xAmt {es:Array DictEntry} {acc:Array Value} (h:ItemsOf (fun j v=>(es[j]?).map (·.key)=some v) acc es.size):acc.toList=es.toList.map (·.key):=by
 apply wp;intro j
 by_cases hj:j<acc.size
 ·have hj':j<es.size:=by rw [← h.1];exact hj
  have:=h.2 j acc[j] (we hj);rw [z6,we hj,qt,z6];exact this.symm
 ·have hj':¬ j<es.size:=by rw [← h.1];exact hj
  rw [yb (by rw [qy];omega),yb (by rw [qj,qy];omega)]
theorem xAhf {d:Addr} {od:Obj} {es:Array DictEntry} {ep:Nat} {Q:List Value->Shared->Prop} (hh:A.handled=none) (hs:(d==sysModules)=false) (ho:s.heap.get? d=some od) (hc:od.ExactDict) (hdat:od.data=.dict es ep) (hz:es.size≤sizeLine)
  (hQ:∀ s',Moved [] Eq s s'->Q (es.toList.map (·.key)) s'):wpAny (model prog w) A (collect (.ref d)) Q E s:=by
 unfold collect;refine wpAny_bind (wpAny_runValue (codeAny_builtin F.entry_proto_collect ?_));rw [Around.under_plainId F.plain_proto_collect _];show wpAny _ A.in1 (newList [] >>= fun l=>again (.builtin "list.__iadd__" ⟨[l,.ref d],[]⟩)) _ _ s;refine wpAny_bind (wpAny_newObj_type ?_);refine wpAny_pure ⟨plainId_quiet F.plain_list_iadd _,codeAny_builtin F.entry_list_iadd ?_⟩;rw [Around.under_plainId F.plain_list_iadd _];have ho1:(s.heap.push { cls:=.type "list",data:=.seq ([]:List Value).toArray }).get? d=some od:=Heap.get?_push_of_some _ ho;have hT:Shared.TypeIs { s with heap:=s.heap.push { cls:=.type "list",data:=.seq ([]:List Value).toArray } } (.ref d) "dict":=⟨od,ho1,hc.1⟩
 have hlt:d<s.heap.objs.size:=by
  rcases yv d s.heap.objs.size with h | h
  ·exact h
  ·exfalso
   have:s.heap.get? d=none:=by
    unfold Heap.get?;rw [mj h]
   rw [this] at ho;cases ho
 have h1:Builtin.List.listSameRef (.ref s.heap.objs.size) (.ref d)=false:=by
  show (s.heap.objs.size==d)=false;exact beq_eq_false_iff_ne.mpr (wx hlt)
 show wpAny _ A.in1 (Builtin.List.listExtendWith (.ref s.heap.objs.size) (.ref d) (.ref s.heap.objs.size)) _ _ _;unfold Builtin.List.listExtendWith;refine wpAny_bind (wpAny_typeOf hT ?_);rw [if_neg (by rw [h1];decide)];refine wpAny_bind (xAry hs ho1 hc hdat ?_);refine wpAny_bind (wpAny_holding ?_);generalize hp2:(s.heap.push { cls:=.type "list",data:=.seq ([]:List Value).toArray }).push { cls:=.type "dict_keyiterator",data:=.fields #[.ref d,.int 0 0,.int es.size 0,.int ep 0] }=h2
 have ho2:h2.get? d=some od:=by rw [← hp2];exact Heap.get?_push_of_some _ ho1
 have hT2:Shared.TypeIs { s with heap:=h2 } (.ref d) "dict":=⟨od,ho2,hc.1⟩;unfold Builtin.List.listLengthHint;refine wpAny_bind (wpAny_specialOf (name:=Str.ofString "__len__") hT2 F.slot_dict_len.lookup ?_);generalize hid:("dict.__len__":String)=id0
 wp_delta
 rw [show splitId id0=some ("dict","__len__") from by subst hid;decide +kernel];subst hid;refine wpAny_bind (wpAny_isInstance (T:="dict") hT2 PySem.F.sub_dict_dict ?_);rw [if_neg (by decide)]
 wp_delta
 rw [if_pos (by decide +kernel)];refine wpAny_bind (wpAny_typeOf hT2 (wpAny_pure ?_));rw [if_pos (by decide +kernel)]
 have hS2:h2.get? s.heap.objs.size=some { cls:=.type "list",data:=.seq ([]:List Value).toArray }:=by rw [← hp2];exact Heap.get?_push_of_some _ (Heap.get?_push_size _ rfl)
 refine wpAny_bind (wpAny_rule (wpAny_bind ?_));unfold Builtin.List.listTouch;refine wpAny_bind (listUpdate_at hS2 rfl ?_);obtain ⟨c1,hS3⟩:∃ c1,(h2.update s.heap.objs.size (Obj.mapSeq (·.push Value.none))).get? s.heap.objs.size=some (seqObj "list" #[Value.none] c1):=⟨_,get?_update_seq hS2 _⟩;have keep3:∀ b o,b≠s.heap.objs.size->h2.get? b=some o->(h2.update s.heap.objs.size (Obj.mapSeq (·.push Value.none))).get? b=some o:=fun b o hb e=>(Heap.get?_update_other _ _ (fun z=>hb z.symm)).trans e;generalize h2.update s.heap.objs.size (Obj.mapSeq (·.push Value.none))=h3 at hS3 keep3;refine listUpdate_at (s:={ s with heap:=h3 }) hS3 rfl ?_;obtain ⟨c2,hS4⟩:∃ c2,(h3.update s.heap.objs.size (Obj.mapSeq (·.pop))).get? s.heap.objs.size=some (seqObj "list" #[] c2):=⟨_,get?_update_seq hS3 _⟩;have keep4:∀ b o,b≠s.heap.objs.size->h2.get? b=some o->(h3.update s.heap.objs.size (Obj.mapSeq (·.pop))).get? b=some o:=fun b o hb e=>(Heap.get?_update_other _ _ (fun z=>hb z.symm)).trans (keep3 b o hb e);show wpAny _ _ _ _ _ { s with heap:=h3.update s.heap.objs.size (Obj.mapSeq (·.pop)) };generalize h3.update s.heap.objs.size (Obj.mapSeq (·.pop))=h4 at hS4 keep4;have hsz:(s.heap.push { cls:=.type "list",data:=.seq ([]:List Value).toArray }).objs.size=s.heap.objs.size+1:=size_push' _ _
 have hit2:h2.get? (s.heap.objs.size+1)=some { cls:=.type "dict_keyiterator",data:=.fields #[.ref d,.int 0 0,.int es.size 0,.int ep 0] }:=by rw [← hp2,← hsz];exact Heap.get?_push_size _ rfl
 show wpAny _ _ (again (Code.builtin "list.extend.loop" ⟨[Value.ref s.heap.objs.size,Value.ref (s.heap.push { cls:=.type "list",data:=.seq ([]:List Value).toArray }).objs.size,Value.ref s.heap.objs.size],[]⟩)) _ _ _;rw [hsz];have W:=xAou (prog:=prog) (w:=w) (A:=A.in1) (it:=s.heap.objs.size+1) (d:=d) (od:=od) (es:=es) (ep:=ep) hh (wx (vt hlt)) hdat;refine wpAny_pure ⟨plainId_quiet F.plain_extend_loop _,codeAny_extend_loopS W hz s.heap.objs.size (fun z=>?_) _ es.size 0 { s with heap:=h4 } #[] c2 rfl (zm _) ⟨⟨_,keep4 _ _ (Nat.succ_ne_self _) hit2,rfl,rfl⟩,keep4 _ _ (qu hlt) ho2⟩ hS4 (ItemsOf.nil _) fun s' acc' c' hm hS' hacc=>?_⟩
 ·simp only [List.mem_cons,List.not_mem_nil,or_false] at z
  rcases z with z | z
  ·exact Nat.succ_ne_self _ z.symm
  ·exact wx hlt z
 ·show wpAny _ A (load s.heap.objs.size >>= _) _ _ s'
  refine wpAny_bind (wpAny_load hS' ?_);show wpAny _ _ (pure acc'.toList) Q E s';rw [xAmt hacc];refine wpAny_pure (hQ s' ⟨fun b o _ e=>?_,hm.gens,hm.drawn,hm.os,hm.toks⟩)
  have hb:b<s.heap.objs.size:=by
   rcases yv b s.heap.objs.size with h | h
   ·exact h
   ·exfalso
    have:s.heap.get? b=none:=by
     unfold Heap.get?;rw [mj h]
    rw [this] at e;cases e
  refine hm.heap b o (fun z=>?_) (keep4 b o (qu hb) ?_)
  ·simp only [List.mem_cons,List.not_mem_nil,or_false] at z
   rcases z with z | z
   ·exact qu hb z
   ·exact qu (vt hb) z
  ·rw [← hp2]
   exact Heap.get?_push_of_some _ (Heap.get?_push_of_some _ e)
theorem xAjx {d:Addr} {od:Obj} {es:Array DictEntry} {ep:Nat} {vs:List Value} {Q:Value->Shared->Prop} {lt:Nat->Nat->Bool} (W:Srt.Swo lt) (hh:A.handled=none) (hs:(d==sysModules)=false) (ho:s.heap.get? d=some od) (hc:od.ExactDict) (hdat:od.data=.dict es ep) (hv:es.toList.map (·.key)=vs)
  (hz2:vs.length≤2000) (h64:Few lt vs.length)
  (hans:∀ s',Moved [] Eq s s'->∀ h',Ext s'.heap h'->2≤vs.length->Answers prog w A.in1.in1 { s' with heap:=h' } vs lt)
  (h:∀ s' h' a p c,Moved [] Eq s s'->Ext s'.heap h'->s'.heap.objs.size≤a->Arr vs.length lt p->h'.get? a=some (seqObj "list" (List.toArray (p.toList.map fun i=>vs.getD i Value.none)) c)->Q (.ref a) { s' with heap:=h' }) :
  wpAny (model prog w) A (call (.builtin "sorted") [.ref d]) Q E s:=by
 have hl:es.size=vs.length:=by rw [← hv,qj,qy]
 have zl:vs.length≤sizeLine:=by rw [sizeLine_eq];omega
 refine Calls.call_function_entry kind_sorted plain_sorted entry_sorted (args_sorted1 _) ?_;unfold Builtin.«sorted»;refine wpAny_bind (m:=checkCount "sorted" 1 1 _) (wpAny_pure (wpAny_bind (xAhf hh hs ho hc hdat (by omega) fun s' hm=>?_)));rw [hv];refine wpAny_bind (wpAny_newList ?_ zl);have x1:Ext s'.heap (s'.heap.push (seqObj "list" vs.toArray 0)):=.push _ _;have o1:(s'.heap.push (seqObj "list" vs.toArray 0)).get? s'.heap.objs.size=some (seqObj "list" vs.toArray 0):=Heap.get?_push_size _ rfl;show wpAny (model prog w) _ _ _ _ { s' with heap:=s'.heap.push (seqObj "list" vs.toArray 0) };refine wpAny_bind (wpAny_holding (wpAny_call_entry slot_list_sort ⟨_,o1,rfl⟩ entry_list_sort (xAdv W o1 hz2 h64 (h0:=s'.heap) (qg _) x1 (hans s' hm) fun h' p c x ar e=>?_) (args_list_sort _)));exact ⟨_,rfl,wpAny_pure ⟨_,rfl,h s' h' _ p c hm x (qg _) ar e⟩⟩
end
theorem Inv.moved {X:Cx} {pins:List (Addr×Obj)} {σ:St} {H:Hp} {s s':Shared} (I:Inv X pins σ H s) (m:Moved [] Eq s s'):Inv X pins σ H s':=by
 have e:s'={ s with heap:=s'.heap,toks:=s'.toks }:=by
  obtain ⟨h1,h2,h3,h4,h5⟩:=m;cases s;cases s';cases h2;cases h3;cases h4;rfl
 rw [e]
 exact I.kept (t':=s'.toks) fun b o q=>m.heap b o (by simp) q
def rSortG (K:PySem.W.Frag):List V->Hp->VK->Prop:=fun xs H Q=>∃ p kvs ds t,xs=[.ref p]/\Rd H p (.dG kvs)/\DVs K H (kvs.map (·.2.1)) ds/\KeysAre ds t/\kvs.length≤1000 ∧
 ∀ q H' ix,H q=none->Same H H'->SortIx ds ix->H' q=some (.lst (ix.map fun i=>(kvs.map (·.2.1)).getD i .non))->Q (.ref q) H'
def rSortKd (K:PySem.W.Frag):List V->Hp->VK->Prop:=fun xs H Q=>∃ p kvs ds t,xs=[.ref p]/\Rd H p (.dK kvs)/\DVs K H (kvs.map fun e=>kV e.1) ds/\KeysAre ds t/\kvs.length<64 ∧
 ∀ q H' ix,H q=none->Same H H'->SortIx ds ix->H' q=some (.lst (ix.map fun i=>(kvs.map fun e=>kV e.1).getD i .non))->Q (.ref q) H'
section
variable {X:Cx}
theorem xAeu {pins:List (Addr×Obj)} {σ:St} {H:Hp} {s:Shared} {p:Addr} {od:Obj} {es:Array DictEntry} {ep:Nat} {ys:List V} {its:List Value} {ds:List PyData} {t:_} {Q:VK} (hu:X.A.units+3+61<cLine) (hh:X.A.handled=none) (I:Inv X pins σ H s)
  (hs:(p==sysModules)=false) (ho:s.heap.get? p=some od) (hc:od.ExactDict) (hdat:od.data=.dict es ep) (hv:es.toList.map (·.key)=its) (rv:Vals ys its) (hd:DVs X.K H ys ds) (hk:KeysAre ds t) (h64:ys.length≤1000)
  (q:∀ q H' ix,H q=none->Same H H'->SortIx ds ix->H' q=some (.lst (ix.map fun i=>ys.getD i .non))->Q (.ref q) H') :
  wpAny (model X.prog X.w) X.A (call (.builtin "sorted") [.ref p]) (fun v s'=>∃ x H',Inv X pins σ H' s'/\RelV x v/\Q x H') X.xe s:=by
 have hl:=rv.length;have hdl:=xAdx hd;refine xAjx (lt:=ltK ds) (xArk hk.one) hh hs ho hc hdat hv (by omega) (.inr trivial) (fun s' m h' x h2=>?_) fun s' h' a pm c m x ha ar e=>?_
 ·obtain ⟨as,ra⟩:=hd.reads (I.moved m) rv
  exact xAdw (s:={ s' with heap:=h' }) (xAbj x ra) hk h2 (by show X.A.units+1+1+60<cLine;omega)
 ·have I':=I.moved m
  have hix:∀ i∈pm.toList,i<ys.length:=fun i hi=>by
   have:=(ar.1.toList.mem_iff).mp hi
   simp at this
   omega
  refine ⟨.ref a,upd H a (.lst (pm.toList.map fun i=>ys.getD i .non)),I'.laid x ha ⟨?_,_,c,xAfh rv _ hix,e⟩,rfl,q a _ pm.toList (I'.hok.fresh ha) (Same.new (I'.hok.fresh ha)) (xAfg (by rw [← hdl,hl];exact ar)) xAae⟩;have hz:its.length≤sizeLine:=zv (xAak (by omega));rw [qj,qy,ar.1.size_eq]
  simp
  omega
theorem xAuy {H:Hp} {ka:List (KD×V×V)} {xa:List (KD×Value×Value)} (h:Paired (GP H) ka xa):Vals (ka.map (·.2.1)) (xa.map (·.2.1)):=by
 induction h with
 | nil=>exact .nil
 | cons a _ ih=>exact .cons a.2.2.1 ih
theorem xAmu {P:Program} {w:World} {es:List DictEntry} {vs:List (Key×Value)} (h:Pairs (mixKind P w) es vs):∀ {kvs:List (Key×V)},KV kvs vs->Vals (kvs.map fun e=>kV e.1) (es.map (·.key)):=by
 induction h with
 | nil=>intro kvs r;cases r;exact .nil
 | @cons e0 _ _ _ hk _ _ ih =>
  intro kvs r
  cases r with
  | @cons p0 _ _ _ a t =>
   refine .cons ?_ (ih t);show RelV (kV p0.1) e0.key;rw [a.1];rcases xAap hk with ⟨j,u,e1,e2⟩ | ⟨x,u,e1,e2⟩
   ·rw [e1,e2];exact ⟨u,rfl⟩
   ·rw [e1,e2];exact ⟨u,rfl⟩
theorem xAeg (hu:X.A.units+3+61<cLine) (hh:X.A.handled=none):CallR X (.builtin "sorted") (rSortG X.K):=by
 intro pins s σ H xs us Q I r h;obtain ⟨p,kvs,ds,t,rfl,rd,hd,hk,h64,q⟩:=h;obtain ⟨u,rfl,ru⟩:=vals1 r;cases ru;obtain ⟨_,hsm,ya,pr,o,es,ep,ho,hc,hdat,he,his,hn⟩:=gd_rd I rd;exact xAeu hu hh I hsm ho hc hdat (its:=ya.map (·.2.1)) (by rw [he,wt];rfl) (xAuy pr) hd hk (by rw [qj];exact h64) q
theorem xAgn (hu:X.A.units+3+61<cLine) (hh:X.A.handled=none):CallR X (.builtin "sorted") (rSortKd X.K):=by
 intro pins s σ H xs us Q I r h;obtain ⟨p,kvs,ds,t,rfl,rd,hd,hk,h64,q⟩:=h;obtain ⟨u,rfl,ru⟩:=vals1 r;cases ru;obtain ⟨_,hsm,vs,rel,o,es,ep,ho,hc,hdat,_,hp,_⟩:=dk_rd I.hok rd;exact xAeu hu hh I hsm ho hc hdat rfl (xAmu hp rel) hd hk (by rw [qj];omega) q
end
section
variable {prog:Program} {w:World} {A:Around} {E:Value->Shared->Prop} {s:Shared}
theorem xAjy {l m sl:Addr} {xs ys:Array Value} {vl vu:Value} {lo hi:Nat} {Q:Unit->Shared->Prop} (hl:s.heap.IsList l xs) (hm:s.heap.IsList m ys) (hne:l≠m) (hs:s.heap.IsSliceOf sl vl vu .none) (pl:IsPart vl (some (lo:Int))) (pu:IsPart vu (some (hi:Int)))
  (h1:lo≤hi) (h2:hi≤xs.size) (hz:xs.size+ys.size≤sizeLine)
  (hQ:Q () { s with heap:=s.heap.update l (Obj.mapSeq fun xs=>xs.extract 0 lo++ys++xs.extract hi) }) :
  wpAny (model prog w) A (setItem (.ref l) (.ref sl) (.ref m)) Q E s:=by
 obtain ⟨o,ho,hc,ne,hd⟩:=id hl;obtain ⟨om,hom,hcm,nm,hdm⟩:=id hm;obtain ⟨os,hos,hcs,hds⟩:=id hs;have hTs:s.TypeIs (.ref sl) "slice":=⟨os,hos,hcs⟩;unfold setItem
 try with_reducible refine wpAny_holding ?_
 first | refine wpAny_bind (wpAny_pure ?_) | skip
 refine wpAny_bind (wpAny_sequenceKey hl.typeIs (by decide) ?_)
 refine wpAny_bind (wpAny_callSpecial?_slot (name:=Str.ofString "__setitem__") hl.typeIs slot_list_setitem
  (wpAny_call_entry slot_list_setitem hl.typeIs entry_list_setitem ?_ (args_list_setitem _ _ _)))
 show wpAny _ _ (Builtin.List.listSubscript? (.ref sl) >>= _) _ _ s;unfold Builtin.List.listSubscript?;refine wpAny_bind (wpAny_bind (wpAny_specialOf hTs slice_no_index ?_))
 simp only [Option.isNone_none,if_true]
 refine wpAny_pure ?_;show wpAny _ _ (typeOf (.ref sl) >>= _) _ _ s;refine wpAny_bind (wpAny_typeOf hTs ?_);rw [if_neg (by decide)];rw [listSliceParts_eq];refine wpAny_bind (wpAny_bind (wpAny_field hos hds (x:=.none) rfl (wpAny_bind (wpAny_listPart .none ?_))));rw [if_neg (by decide)];refine wpAny_bind (wpAny_field hos hds (x:=vl) rfl (wpAny_bind (wpAny_listPart pl ?_)));refine wpAny_bind (wpAny_field hos hds (x:=vu) rfl (wpAny_bind (wpAny_listPart pu (wpAny_pure ?_))));have hsame:Builtin.List.listSameRef (.ref l) (.ref m)=false:=beq_eq_false_iff_ne.mpr hne;rw [if_neg (by rw [hsame];decide)];unfold Builtin.List.listAllItems;refine wpAny_bind (wpAny_bind (wpAny_typeOf hm.typeIs ?_));rw [if_pos (by decide)];refine listItems_at hom hdm ?_;refine wpAny_bind (listItems_at ho hd ?_);refine wpAny_bind (wpAny_of_eq (sliceIndices_raw (some (lo:Int)) (some (hi:Int)) none xs.size (by simp)) ?_)
 have hb:sliceBounds (some (lo:Int)) (some (hi:Int)) none xs.size=((lo:Int),(hi:Int),1):=by
  unfold sliceBounds
  simp only [Option.getD_none]
  have a1:¬ ((lo:Int)<0):=by omega
  have a2:¬ ((hi:Int)<0):=by omega
  rw [if_neg a1,if_neg a2,if_pos (by decide),if_pos (by decide)]
  congr 1
  ·omega
  ·congr 1
   omega
 rw [hb]
 have hmax:(max (lo:Int) (hi:Int)).toNat=hi:=by omega
 have hmin:((lo:Int)).toNat=lo:=Int.toNat_natCast lo
 simp only [hmax,hmin]
 rw [if_pos (by decide)];refine wpAny_bind (wpAny_rule ?_);rw [if_neg (by show ¬ (decide (xs.size+ys.size>sizeLine))=true;simp;omega)];refine wpAny_bind (listUpdate_at ho hd ?_ (by omega) (by simp;omega));exact wpAny_bind (wpAny_letGo (wpAny_pure ⟨.none,rfl,wpAny_pure hQ⟩))
end
theorem xAmv (its:List Value) (n lo hi:Nat) (ys:List Value):∃ n',Obj.mapSeq (fun xs=>xs.extract 0 lo++ys.toArray++xs.extract hi) { cls:=.type "list",data:=.seq its.toArray n }={ cls:=.type "list",data:=.seq (its.take lo++ys++its.drop hi).toArray n' }:=by
 have e:its.toArray.extract 0 lo++ys.toArray++its.toArray.extract hi=(its.take lo++ys++its.drop hi).toArray:=by
  simp
  exact v9 (by rw [z5];exact qg _)
 unfold Obj.mapSeq
 simp only [e]
 exact ⟨_,rfl⟩
def sSlPut (K:PySem.W.Frag) (to:TE) (tl th:TO) (tv:TE):TS:=fun D σ H=>tv σ H fun v H1=>to σ H1 fun x H2=>tl σ H2 fun lo H3=>th σ H3 fun hi H4=>∃ a b xs ys,∃ i j:Nat,x=.ref a/\v=.ref b/\a≠b/\H4 a=some (.lst xs)/\SqL K H4 b ys/\lo=some (i:Int)/\hi=some (j:Int)/\i≤j/\j≤xs.length/\xs.length+ys.length≤sizeLine ∧
 D.nx σ (upd H4 a (.lst (xs.take i++ys++xs.drop j)))
section
variable {X:Cx} {o value:Expr} {lo hi:Option Expr} {pos pos' p2:Pos} {to tv:TE} {tl th:TO}
theorem xArz (ho:PE X o to) (hl:PO X lo tl) (hu:PO X hi th) (hv:PE X value tv) (hs:swapsWith value (some (.Subscript o (.Slice lo hi none p2) pos')) pos.line X.env=pure false):PS X (.Assign [.Subscript o (.Slice lo hi none p2) pos'] value pos) (sSlPut X.K to tl th tv):=by
 intro pins s σ H D I h;refine wpAny_Assign_Subscript (thn (hv pins s σ H _ I h) fun r s1 ⟨v,H1,I1,rv,q1⟩=>thn (ho pins s1 σ H1 _ I1 q1) fun u s2 ⟨x,H2,I2,rx,q2⟩=>?_) hs;refine wpAny_Slice (thn (hl pins s2 σ H2 _ I2 q2) fun vl s3 ⟨l,H3,I3,pl,q3⟩=>thn (hu pins s3 σ H3 _ I3 q3) fun vu s4 ⟨u',H4,I4,pu,q4⟩=>?_);rw [evalPart_none];refine wpAny_pure ?_;obtain ⟨a,b,xs,ys,i,j,rfl,rfl,hne,ea,hb,rfl,rfl,h1,h2,hz,q⟩:=q4;cases rx;cases rv;have I5:Inv X pins σ H4 { s4 with heap:=s4.heap.push { cls:=.type "slice",data:=.fields #[vl,vu,.none] } }:=I4.kept (t':=s4.toks) fun b ob q=>Heap.get?_push_of_some _ q;obtain ⟨its,n,r,hoa,hza⟩:=I5.lst ea;obtain ⟨its',r',pb,hzb⟩:=I5.list hb;have la:=r.length;have lb:=r'.length;obtain ⟨n',hf⟩:=xAmv its n i j its';have I6:=I5.lstUpd ea hoa hf ((r.take i).append r' |>.append (r.drop j)) (by rw [qm,qm,zt,z5];omega) s4.toks;refine xAjy (xs:=its.toArray) (ys:=its'.toArray) ⟨_,hoa,rfl,n,rfl⟩ pb.isList hne (Heap.IsSliceOf.new ..) pl pu h1 (by rw [zd];omega) (by rw [zd,zd];omega) ⟨_,_,I6,q⟩
end
section
variable {X:Cx}
end
theorem pq {X:Cx} (i:Nat) {x:Str} {pos:Pos} (h:(X.N[i]?,X.env.scope.names.lookup x,(x==("__debug__":Str)),(x==("__classdict__":Str)))=(some x,some NameKind.local,false,false)):PE X (.Name x pos) (tVar i) :=
 pv i (congrArg (·.1) h) (.inl (congrArg (·.2.1) h)) (congrArg (·.2.2.1) h) (congrArg (·.2.2.2) h)
theorem pxt {X:Cx} {a:Expr} {ta:TE} {i:Int} {j:Nat} {p pos:Pos} (ha:PE X a ta):PE X (.Subscript a (.Constant (.int i) j p) pos) (tOp (rIxT X.K) ta (tC (.int i))):=pe_ix xAsy ha xAah (fun _ _=>rfl)
end L2
namespace My
open PySem L2 PyProof.Rows
def top (i:Nat):Stmt:=PySem.Challenge.pw_pagefolk_k37_whole_one_mark_more.main.body.getD i (.Pass ⟨0,0,0,0⟩)
abbrev s_fAh:Stmt:=top 1
abbrev s_fAg:Stmt:=top 2
abbrev s_fBb:Stmt:=top 3
abbrev s_fAz:Stmt:=top 5
abbrev s_fBe:Stmt:=top 6
abbrev s_fBd:Stmt:=top 7
abbrev s_fAb:Stmt:=top 9
abbrev s_fBa:Stmt:=top 10
abbrev s_fAy:Stmt:=top 11
abbrev s_fBc:Stmt:=top 12
abbrev s_fAi:Stmt:=top 13
abbrev s_fAa:Stmt:=top 14
abbrev s_fAd:Stmt:=top 15
abbrev s_fAc:Stmt:=top 16
abbrev s_fAv:Stmt:=top 17
abbrev s_fAj:Stmt:=top 18
abbrev s_fAu:Stmt:=top 19
abbrev s_fAe:Stmt:=top 21
abbrev s_fAx:Stmt:=top 22
abbrev s_fAw:Stmt:=top 23
abbrev s_fAp:Stmt:=top 24
abbrev s_fAs:Stmt:=top 25
abbrev s_fAt:Stmt:=top 26
abbrev s_fAq:Stmt:=top 27
abbrev s_fAo:Stmt:=top 28
abbrev s_fAf:Stmt:=top 29
abbrev s_fAn:Stmt:=top 30
abbrev s_fAr:Stmt:=top 31
abbrev s_fAl:Stmt:=top 32
abbrev s_fAk:Stmt:=top 33
abbrev s_fAm:Stmt:=top 34
abbrev s_fBf:Stmt:=top 35
structure Adr where
 fAh:Addr
 fAhd:FuncData
 fAg:Addr
 fAgd:FuncData
 fBb:Addr
 fBbd:FuncData
 fAz:Addr
 fAzd:FuncData
 fBe:Addr
 fBed:FuncData
 fBd:Addr
 fBdd:FuncData
 fAb:Addr
 fAbd:FuncData
 fBa:Addr
 fBad:FuncData
 fAy:Addr
 fAyd:FuncData
 fBc:Addr
 fBcd:FuncData
 fAi:Addr
 fAid:FuncData
 fAa:Addr
 fAad:FuncData
 fAd:Addr
 fAdd:FuncData
 fAc:Addr
 fAcd:FuncData
 fAv:Addr
 fAvd:FuncData
 fAj:Addr
 fAjd:FuncData
 fAu:Addr
 fAud:FuncData
 fAe:Addr
 fAed:FuncData
 fAx:Addr
 fAxd:FuncData
 fAw:Addr
 fAwd:FuncData
 fAp:Addr
 fApd:FuncData
 fAs:Addr
 fAsd:FuncData
 fAt:Addr
 fAtd:FuncData
 fAq:Addr
 fAqd:FuncData
 fAo:Addr
 fAod:FuncData
 fAf:Addr
 fAfd:FuncData
 fAn:Addr
 fAnd:FuncData
 fAr:Addr
 fArd:FuncData
 fAl:Addr
 fAld:FuncData
 fAk:Addr
 fAkd:FuncData
 fAm:Addr
 fAmd:FuncData
 fBf:Addr
 fBfd:FuncData
structure Txt (K:PySem.W.Frag) (mg:Str->Option Value) (d:Adr) (tk:Str->Tok):Prop where
 b_dict:mg "dict"=none
 b_enumerate:mg "enumerate"=none
 b_int:mg "int"=none
 b_len:mg "len"=none
 b_list:mg "list"=none
 b_max:mg "max"=none
 b_min:mg "min"=none
 b_range:mg "range"=none
 b_sorted:mg "sorted"=none
 F_fAh:Fun K "key_of_place" "key_of_place" s_fAh d.fAh d.fAhd
 m_fAh:mg "key_of_place"=some (.ref d.fAh)
 k_fAh:PySem.W.keepIn K (.ref d.fAh)=true
 d_fAh:Binds K d.fAhd ["place"] []
 F_fAg:Fun K "followers_of" "followers_of" s_fAg d.fAg d.fAgd
 m_fAg:mg "followers_of"=some (.ref d.fAg)
 k_fAg:PySem.W.keepIn K (.ref d.fAg)=true
 d_fAg:Binds K d.fAgd ["places"] []
 F_fBb:Fun K "ordered" "ordered" s_fBb d.fBb d.fBbd
 m_fBb:mg "ordered"=some (.ref d.fBb)
 k_fBb:PySem.W.keepIn K (.ref d.fBb)=true
 d_fBb:Binds K d.fBbd ["places"] []
 F_fAz:Fun K "signs_in" "signs_in" s_fAz d.fAz d.fAzd
 m_fAz:mg "signs_in"=some (.ref d.fAz)
 k_fAz:PySem.W.keepIn K (.ref d.fAz)=true
 d_fAz:Binds K d.fAzd ["facts","part"] []
 F_fBe:Fun K "row_of" "row_of" s_fBe d.fBe d.fBed
 m_fBe:mg "row_of"=some (.ref d.fBe)
 k_fBe:PySem.W.keepIn K (.ref d.fBe)=true
 d_fBe:Binds K d.fBed ["facts","part"] []
 F_fBd:Fun K "living" "living" s_fBd d.fBd d.fBdd
 m_fBd:mg "living"=some (.ref d.fBd)
 k_fBd:PySem.W.keepIn K (.ref d.fBd)=true
 d_fBd:Binds K d.fBdd ["facts","part"] []
 F_fAb:Fun K "place_of_side" "place_of_side" s_fAb d.fAb d.fAbd
 m_fAb:mg "place_of_side"=some (.ref d.fAb)
 k_fAb:PySem.W.keepIn K (.ref d.fAb)=true
 d_fAb:Binds K d.fAbd ["seats","side"] []
 F_fBa:Fun K "stretch" "stretch" s_fBa d.fBa d.fBad
 m_fBa:mg "stretch"=some (.ref d.fBa)
 k_fBa:PySem.W.keepIn K (.ref d.fBa)=true
 d_fBa:Binds K d.fBad ["seats","begin","end"] []
 F_fAy:Fun K "seats_in" "seats_in" s_fAy d.fAy d.fAyd
 m_fAy:mg "seats_in"=some (.ref d.fAy)
 k_fAy:PySem.W.keepIn K (.ref d.fAy)=true
 d_fAy:Binds K d.fAyd ["row"] []
 F_fBc:Fun K "covered" "covered" s_fBc d.fBc d.fBcd
 m_fBc:mg "covered"=some (.ref d.fBc)
 k_fBc:PySem.W.keepIn K (.ref d.fBc)=true
 d_fBc:Binds K d.fBcd ["facts","part","begin","end"] []
 F_fAi:Fun K "key_of_mark" "key_of_mark" s_fAi d.fAi d.fAid
 m_fAi:mg "key_of_mark"=some (.ref d.fAi)
 k_fAi:PySem.W.keepIn K (.ref d.fAi)=true
 d_fAi:Binds K d.fAid ["mark"] []
 F_fAa:Fun K "telling_in_row" "telling_in_row" s_fAa d.fAa d.fAad
 m_fAa:mg "telling_in_row"=some (.ref d.fAa)
 k_fAa:PySem.W.keepIn K (.ref d.fAa)=true
 d_fAa:Binds K d.fAad ["facts","part","row"] []
 F_fAd:Fun K "told_of_signs" "told_of_signs" s_fAd d.fAd d.fAdd
 m_fAd:mg "told_of_signs"=some (.ref d.fAd)
 k_fAd:PySem.W.keepIn K (.ref d.fAd)=true
 d_fAd:Binds K d.fAdd ["facts","part","place"] []
 F_fAc:Fun K "telling_marks" "telling_marks" s_fAc d.fAc d.fAcd
 m_fAc:mg "telling_marks"=some (.ref d.fAc)
 k_fAc:PySem.W.keepIn K (.ref d.fAc)=true
 d_fAc:Binds K d.fAcd ["facts","part"] []
 F_fAv:Fun K "marks_of" "marks_of" s_fAv d.fAv d.fAvd
 m_fAv:mg "marks_of"=some (.ref d.fAv)
 k_fAv:PySem.W.keepIn K (.ref d.fAv)=true
 d_fAv:Binds K d.fAvd ["facts","part"] []
 F_fAj:Fun K "key_of_note" "key_of_note" s_fAj d.fAj d.fAjd
 m_fAj:mg "key_of_note"=some (.ref d.fAj)
 k_fAj:PySem.W.keepIn K (.ref d.fAj)=true
 d_fAj:Binds K d.fAjd ["note"] []
 F_fAu:Fun K "notes_of" "notes_of" s_fAu d.fAu d.fAud
 m_fAu:mg "notes_of"=some (.ref d.fAu)
 k_fAu:PySem.W.keepIn K (.ref d.fAu)=true
 d_fAu:Binds K d.fAud ["facts","part"] []
 F_fAe:Fun K "_law_cell_at" "_law_cell_at" s_fAe d.fAe d.fAed
 m_fAe:mg "_law_cell_at"=some (.ref d.fAe)
 k_fAe:PySem.W.keepIn K (.ref d.fAe)=true
 d_fAe:Binds K d.fAed ["_law_script","_law_k"] []
 F_fAx:Fun K "_law_mix" "_law_mix" s_fAx d.fAx d.fAxd
 m_fAx:mg "_law_mix"=some (.ref d.fAx)
 k_fAx:PySem.W.keepIn K (.ref d.fAx)=true
 d_fAx:Binds K d.fAxd ["_law_cell","_law_k"] []
 F_fAw:Fun K "_law_row" "_law_row" s_fAw d.fAw d.fAwd
 m_fAw:mg "_law_row"=some (.ref d.fAw)
 k_fAw:PySem.W.keepIn K (.ref d.fAw)=true
 d_fAw:Binds K d.fAwd ["_law_number","_law_k","_law_free"] []
 F_fAp:Fun K "_law_next" "_law_next" s_fAp d.fAp d.fApd
 m_fAp:mg "_law_next"=some (.ref d.fAp)
 k_fAp:PySem.W.keepIn K (.ref d.fAp)=true
 d_fAp:Binds K d.fApd ["_law_digits"] []
 F_fAs:Fun K "_law_pick" "_law_pick" s_fAs d.fAs d.fAsd
 m_fAs:mg "_law_pick"=some (.ref d.fAs)
 k_fAs:PySem.W.keepIn K (.ref d.fAs)=true
 d_fAs:Binds K d.fAsd ["_law_digits","_law_some"] []
 F_fAt:Fun K "_law_roll" "_law_roll" s_fAt d.fAt d.fAtd
 m_fAt:mg "_law_roll"=some (.ref d.fAt)
 k_fAt:PySem.W.keepIn K (.ref d.fAt)=true
 d_fAt:Binds K d.fAtd ["_law_cell"] []
 F_fAq:Fun K "_law_side" "_law_side" s_fAq d.fAq d.fAqd
 m_fAq:mg "_law_side"=some (.ref d.fAq)
 k_fAq:PySem.W.keepIn K (.ref d.fAq)=true
 d_fAq:Binds K d.fAqd ["_law_digits","_law_names"] []
 F_fAo:Fun K "_law_signs" "_law_signs" s_fAo d.fAo d.fAod
 m_fAo:mg "_law_signs"=some (.ref d.fAo)
 k_fAo:PySem.W.keepIn K (.ref d.fAo)=true
 d_fAo:Binds K d.fAod ["_law_digits","_law_facts_here","_law_part","_law_name","_law_key","_law_names"] []
 F_fAf:Fun K "_law_stretch" "_law_stretch" s_fAf d.fAf d.fAfd
 m_fAf:mg "_law_stretch"=some (.ref d.fAf)
 k_fAf:PySem.W.keepIn K (.ref d.fAf)=true
 d_fAf:Binds K d.fAfd ["_law_digits","_law_facts_here","_law_part","_law_name","_law_key","_law_names"] []
 F_fAn:Fun K "_law_facts" "_law_facts" s_fAn d.fAn d.fAnd
 m_fAn:mg "_law_facts"=some (.ref d.fAn)
 k_fAn:PySem.W.keepIn K (.ref d.fAn)=true
 d_fAn:Binds K d.fAnd ["_law_script","_law_first","_law_roll_here","_law_parts"] []
 F_fAr:Fun K "_law_copy" "_law_copy" s_fAr d.fAr d.fArd
 m_fAr:mg "_law_copy"=some (.ref d.fAr)
 k_fAr:PySem.W.keepIn K (.ref d.fAr)=true
 d_fAr:Binds K d.fArd ["_law_facts_here"] []
 F_fAl:Fun K "_law_others" "_law_others" s_fAl d.fAl d.fAld
 m_fAl:mg "_law_others"=some (.ref d.fAl)
 k_fAl:PySem.W.keepIn K (.ref d.fAl)=true
 d_fAl:Binds K d.fAld ["_law_some","_law_kind"] []
 F_fAk:Fun K "_law_newest" "_law_newest" s_fAk d.fAk d.fAkd
 m_fAk:mg "_law_newest"=some (.ref d.fAk)
 k_fAk:PySem.W.keepIn K (.ref d.fAk)=true
 d_fAk:Binds K d.fAkd ["_law_facts_here","_law_later","_law_mark"] []
 F_fAm:Fun K "_law_eldest" "_law_eldest" s_fAm d.fAm d.fAmd
 m_fAm:mg "_law_eldest"=some (.ref d.fAm)
 k_fAm:PySem.W.keepIn K (.ref d.fAm)=true
 d_fAm:Binds K d.fAmd ["_law_facts_here","_law_later","_law_mark"] []
 F_fBf:Fun K "law" "law" s_fBf d.fBf d.fBfd
 m_fBf:mg "law"=some (.ref d.fBf)
 k_fBf:PySem.W.keepIn K (.ref d.fBf)=true
 d_fBf:Binds K d.fBfd ["_law_script"] []
theorem Rest.refl {H:Hp} {S:Addr->Prop}:Rest H H S:=fun _ _ e _=>e
theorem Rest.same {H Z Z':Hp} {S:Addr->Prop} (h:Rest H Z S) (s:Same Z Z'):Rest H Z' S:=fun b o e n=>s _ _ (h b o e n)
theorem Rest.del {H Z Z':Hp} {S:Addr->Prop} {p:Addr} (h:Rest H Z S) (hp:S p) (s:Same (del Z p) Z'):Rest H Z' S:=fun b o e n=>s _ _ (by rw [xAel (fun z=>n (by rw [z];exact hp))];exact h b o e n)
theorem Rest.wr {H Z:Hp} {S:Addr->Prop} {p:Addr} {o:HO} (h:Rest H Z S) (hp:S p):Rest H (upd Z p o) S:=fun b u e n=>by
 rw [xAag (fun z=>n (by rw [z];exact hp))];exact h b u e n
theorem Rest.tups {H Z:Hp} {S:Addr->Prop} (h:Rest H Z S) (hl:∀ b,S b->∃ xs,H b=some (.lst xs)):Tups H Z:=fun b ys e=>h b _ e fun z=>by
 obtain ⟨xs,e'⟩:=hl b z;rw [e] at e';cases e'
theorem Rest.fresh {H H' Z:Hp} {S:Addr->Prop} (h:Rest H' Z S) (s:Same H H') (f:∀ b,S b->H b=none):Same H Z:=fun b o e=>h b o (s _ _ e) fun z=>by rw [f b z] at e;cases e
def DP (H:Hp) (p:Addr):Prop:=∃ ds:List Int,H p=some (.lst (ds.map V.int))/\∀ d∈ds,0≤d/\d<60
theorem DP.same {H H':Hp} {p:Addr} (h:DP H p) (s:Same H H'):DP H' p:=let ⟨ds,e,l⟩:=h;⟨ds,s _ _ e,l⟩
theorem DP.ne {H H':Hp} {p q:Addr} (h:DP H p) (g:H q=none):p≠q:=let ⟨_,e,_⟩:=h;xAab e g
theorem DP.tups {H H':Hp} {p:Addr} (h:DP H p) (s:Same (del H p) H'):Tups H H':=let ⟨_,e,_⟩:=h;Tups.cut e s
theorem DP.to {H H':Hp} {p b:Addr} {o:HO} (s:Same (del H p) H') (h:H b=some o) (n:b≠p):H' b=some o:=s _ _ (by rw [xAel n];exact h)
theorem Same.dtrans {H H' H'':Hp} {p:Addr} (a:Same (del H p) H') (b:Same (del H' p) H''):Same (del H p) H'':=fun c o e=>by
 by_cases z:c=p
 ·subst z;rw [xAhe] at e;cases e
 ·exact b _ _ (by rw [xAel z];exact a _ _ e)
theorem Same.sd {H H' H'':Hp} {p:Addr} (a:Same H H') (b:Same (del H' p) H''):Same (del H p) H'':=fun c o e=>by
 by_cases z:c=p
 ·subst z;rw [xAhe] at e;cases e
 ·exact b _ _ (by rw [xAel z] at e ⊢;exact a _ _ e)
theorem xAuz:∀ c∈("abcdefghijklmnopqrstuvwxyz":Str).cps.toList,c≤122:=by decide +kernel
theorem xAev (x y:Str):(x++y).length=x.length+y.length:=by
 show (x.cps++y.cps).size=_;rw [Array.size_append];rfl
theorem xAir:∀ ys:List Str,(Str.join "" ys).length=(ys.map (·.length)).sum
 | []=>rfl
 | [x]=>by rw [za,jm,kh,List.sum_nil,kf];rfl
 | x::y::r=>by
  show (x++""++Str.join "" (y::r)).length=_;rw [xAev,xAev,xAir (y::r),za,kh];rfl
theorem xAsa {zs:List Str} {n:Nat} (h:∀ z∈zs,z.length=1) (hn:zs.length≤n):(Txt.join "" zs).length≤n/\(zs.map (·.length)).sum≤n:=by
 have e:(zs.map (·.length)).sum=zs.length:=by
  clear hn
  induction zs with
  | nil=>rfl
  | cons z l ih=>rw [za,kh,ih fun y hy=>h y (qr _ hy),h z qp,qx];omega
 refine ⟨?_,by omega⟩;show (Builtin.Str.glued "" zs).length≤n;rw [StrLaws.glued_eq_join,xAir];omega
def sp_fAe (K:PySem.W.Frag):Sp:=fun vs H Q _=>∃ sp ns k,vs=[.ref sp,.int k]/\SqL K H sp (List.map V.int ns)/\0≤k/\∀ c,Q (.int c) H
def sp_fAx (_:PySem.W.Frag):Sp:=fun vs H Q _=>∃ c k,vs=[.int c,.int k]/\0≤k/\k≤1000/\∀ r,0≤r->Q (.int r) H
def sp_fAw (_:PySem.W.Frag):Sp:=fun vs H Q _=>∃ c k b,vs=[.int c,.int k,.bl b]/\0≤k/\k≤1000/\∀ H' p,Same H H'->H p=none->DP H' p->Q (.ref p) H'
def sp_fAp (_:PySem.W.Frag):Sp:=fun vs H Q _=>∃ p,vs=[.ref p]/\DP H p/\∀ H' r,Same (del H p) H'->DP H' p->0≤r->r<60->Q (.int r) H'
def sp_fAs (_:PySem.W.Frag):Sp:=fun vs H Q _=>∃ p l xs,vs=[.ref p,.ref l]/\DP H p/\l≠p/\H l=some (.lst xs)/\0<xs.length/\∀ H' v,Same (del H p) H'->DP H' p->v∈xs->Q v H'
def sp_fAt (_:PySem.W.Frag):Sp:=fun vs H Q _=>∃ c,vs=[.int c]/\∀ H' q w0 w1 w2,Same H H'->H q=none->H' q=some (.lst [.str w0,.str w1,.str w2])->IsT w0->IsT w1->IsT w2->Q (.ref q) H'
inductive Isp_fAq (K:PySem.W.Frag) (vs:List V) (H:Hp) (Q:VK):Prop
 | mk (p:_) (l:_) (us:_) (S:_) (js:_) (h0:vs=[.ref p,.ref l]) (h1:DP H p) (h2:l≠p) (h3:H l=some (.lst us)) (h4:AN (NM (nkS S) H) us js) (h5:0<us.length) (h6:∀ H' v d,Same (del H p) H'->DP H' p->SdV S H' d v->(∀ i b,d=some (i,b)->i∈js)->Q v H'):Isp_fAq K vs H Q
def sp_fAq (K:PySem.W.Frag):Sp:=fun vs H Q _=>Isp_fAq K vs H Q
def Le2 (a b c d:Int):Prop:=a<c\/(a=c/\b≤d)
inductive Isp_fAo (K:PySem.W.Frag) (vs:List V) (H:Hp) (Q:VK):Prop
 | mk (p:_) (fa:_) (F:_) (S:_) (n:_) (M:_) (m:_) (N:_) (q:_) (xs:_) (ms:_) (ns:_) (vp:_) (pt:_) (nq:_) (w:_) (x:_) (kq:_) (a:_) (b:_) (l:_) (us:_) (h0:vs=[.ref p,.ref fa,vp,.ref nq,.ref kq,.ref l]) (h1:FS H fa F S n M m N q xs ms ns) (h2:DP H p) (h3:GK H (.tup pt) vp) (h4:Lay pt) (h5:H nq=some (.tup [.str w,.int x])) (h6:PyData.strOk w=true) (h7:H kq=some (.tup [.int a,.int b])) (h8:H l=some (.lst us)) (h9:AN (NM (nkS S) H) us (minesS S n pt)) (h10:p≠l) (h11:(∀ i,i<9->p≠F i/\l≠F i)) (h12:(∀ i,i<n->∀ c,(S i).nk≠[.inr w,.inl x,.inl c])) (h13:(∀ i,i<n->Lt2 (S i).ka (S i).kb a b)) (h14:n+4≤300) (h15:∀ H' S' n' xs' us',FS H' fa F S' n' M m N q xs' ms ns->DP H' p->H' l=some (.lst us')->AN (NM (nkS S') H') us' (minesS S' n' pt)->Agr S S' n->n≤n'->n'≤n+4->(∀ i,n≤i->i<n'->(S' i).pt=pt/\(∃ c,(S' i).nk=[.inr w,.inl x,.inl c])/\(S' i).ka=a/\(S' i).kb=b)->Rest H H' (fun c=>c=p\/c=l\/c=F 3)->Q .non H'):Isp_fAo K vs H Q
def sp_fAo (K:PySem.W.Frag):Sp:=fun vs H Q _=>Isp_fAo K vs H Q
inductive Isp_fAf (K:PySem.W.Frag) (vs:List V) (H:Hp) (Q:VK):Prop
 | mk (p:_) (fa:_) (F:_) (S:_) (n:_) (M:_) (m:_) (N:_) (q:_) (xs:_) (ms:_) (ns:_) (vp:_) (pt:_) (nq:_) (w:_) (x:_) (kq:_) (a:_) (b:_) (l:_) (us:_) (h0:vs=[.ref p,.ref fa,vp,.ref nq,.ref kq,.ref l]) (h1:FS H fa F S n M m N q xs ms ns) (h2:DP H p) (h3:GK H (.tup pt) vp) (h4:Lay pt) (h5:H nq=some (.tup [.str w,.int x])) (h6:PyData.strOk w=true) (h7:H kq=some (.tup [.int a,.int b])) (h8:H l=some (.lst us)) (h9:AN (NM (nkS S) H) us (minesS S n pt)) (h10:0<us.length) (h11:p≠l) (h12:(∀ i,i<9->p≠F i/\l≠F i)) (h13:(∀ i,i<m->Lt2 (M i).ka (M i).kb a b)) (h14:(∀ i,i<q->Lt2 (N i).ka (N i).kb a b)) (h15:m<70) (h16:q<70) (h17:∀ H' M' m' N' q' ms' ns',FS H' fa F S n M' m' N' q' xs ms' ns'->DP H' p->m'≤m+1->q'≤q+1->(∀ i,i<m'->Le2 (M' i).ka (M' i).kb a b/\(i<m->M' i=M i)/\(m≤i->(M' i).ka=a/\(M' i).nm=[.inr w,.inl x]))->(∀ i,i<q'->Le2 (N' i).ka (N' i).kb a b/\(i<q->N' i=N i)/\(q≤i->(N' i).ka=a))->Rest H H' (fun c=>c=p\/c=F 4\/c=F 5)->Q .non H'):Isp_fAf K vs H Q
def sp_fAf (K:PySem.W.Frag):Sp:=fun vs H Q _=>Isp_fAf K vs H Q
theorem xAov (ps:List (Key×V)) (nd:(ps.map (·.1)).Nodup):mergeK [] ps=ps:=by
 have e:∀ (ps xs:List (Key×V)),mergeK xs ps=putAllK xs ps:=fun ps=>by
  induction ps with
  | nil=>intro xs;rfl
  | cons p r ih=>intro xs;exact ih _
 rw [e,xAes ps [] nd (fun e _ x z=>nomatch z),vf]
theorem fkv_nd {F:Nat->Addr} {n:Nat} (hn:n≤9):((fkv F n).map (·.1)).Nodup:=by
 unfold fkv;rw [wt];refine w5.mpr ((xAee n).imp_of_mem fun {a b} ha hb h e=>?_);have h1:=ql.mp ha;have h2:=ql.mp hb;exact absurd (xAos a (by omega) b (by omega) e) (by omega)
theorem xAmw {F:Nat->Addr} {n i:Nat} (hn:n≤i) (hi:i<9):valV (fkv F n) (kN i)=none:=by
 cases e:valV (fkv F n) (kN i) with
 | none=>rfl
 | some v =>
  have:=xAth e;unfold fkv at this;rw [wt] at this;obtain ⟨j,hj1,hj2⟩:=qk.mp this;have hj3:=ql.mp hj1;exact absurd (xAos j (by omega) i hi hj2) (by omega)
def fn6 (a b c d e f:Addr):Nat->Addr:=fun i=>if i=0 then a else if i=1 then b else if i=2 then c else if i=3 then d else if i=4 then e else f
def ptsD (w1 w2:Str) (c:Nat):List Key:=if c=0 then [.inr "",.inl 0] else if c=1 then [.inr w1,.inl 1] else [.inr w2,.inl 2]
def nkv (P:Nat->List Key) (t l:Nat->Addr) (n:Nat):List (KD×V×V):=(List.range n).map fun c=>(.tup (P c),.ref (t c),.ref (l c))
theorem xAhg {w1 w2:Str} {c d:Nat} (hc:c<3) (hd:d<3) (e:ptsD w1 w2 c=ptsD w1 w2 d):c=d:=by
 have key:∀ c,c<3->∃ z:Str,ptsD w1 w2 c=[.inr z,.inl (c:Int)]:=fun c hc=>by
  unfold ptsD
  match c,hc with
  | 0,_=>exact ⟨_,rfl⟩
  | 1,_=>exact ⟨_,rfl⟩
  | 2,_=>exact ⟨_,rfl⟩
 obtain ⟨z,hz⟩:=key c hc;obtain ⟨y,hy⟩:=key d hd;rw [hz,hy] at e;injection e with _ e;injection e with e _;injection e with e;omega
theorem xAmx {w1 w2:Str} (h1:IsT w1) (h2:IsT w2) {c:Nat} (hc:c<3):Lay (ptsD w1 w2 c):=by
 match c,hc with
 | 0,_=>exact xAef (z:="") (by decide +kernel) 0
 | 1,_=>exact xAef (xAjt h1) 1
 | 2,_=>exact xAef (xAjt h2) 2
theorem nkv_at {P:Nat->List Key} {t l:Nat->Addr} {n c:Nat} (inj:∀ c,c<n->∀ d,d<n->P c=P d->c=d) (hc:c<n):vG (nkv P t l n) (.tup (P c))=some (.ref (l c)):=by
 refine xAgf (i:=c) (e:=(KD.tup (P c),V.ref (t c),V.ref (l c))) ?_ (by unfold nkv;rw [qt,wa hc];rfl) rfl;unfold nkv;rw [wt];refine w5.mpr ((xAee n).imp_of_mem fun {a b} ha hb h e=>?_);have h1:=ql.mp ha;have h2:=ql.mp hb;exact absurd (inj a h1 b h2 (KD.tup.inj e)) (by omega)
theorem xAva {kvs:List (KD×V×V)} {k:KD} (y v:V) (h:∀ x∈kvs,x.1≠k):pG kvs k y v=kvs++[(k,y,v)]:=by
 unfold pG;rw [xAgg h,if_neg (fun z=>nomatch z)]
theorem xAhh {S S':Nat->Sg} {n n':Nat} {pt:List Key} (ag:Agr S S' n) (hn:n≤n') (h:∀ i,n≤i->i<n'->(S' i).pt≠pt):minesS S' n' pt=minesS S n pt:=by
 obtain ⟨k,rfl⟩:=Nat.le.dest hn;clear hn
 induction k with
 | zero=>exact xAgm ag pt
 | succ k ih=>rw [show n+(k+1)=n+k+1 from rfl,xAjw (fun z=>h (n+k) (by omega) (by omega) (xAau.mp z)),ih fun i h1 h2=>h i h1 (by omega)]
structure Bd (S:Nat->Sg) (n:Nat) (M:Nat->Mk) (m:Nat) (N:Nat->Mk) (q:Nat):Prop where
 nb:n≤250
 mb:m≤62
 qb:q≤62
 nm:∀ i,i<n->∃ w x c,(S i).nk=[.inr w,.inl x,.inl c]/\x≤80
 sk:∀ i,i<n->10≤(S i).ka/\(S i).ka≤80
 mm:∀ i,i<m->10≤(M i).ka/\(M i).ka≤80
 nq:∀ i,i<q->10≤(N i).ka/\(N i).ka≤80
 mn:∀ i,i<m->∃ w x,(M i).nm=[.inr w,.inl x]
def PtL (H:Hp) (lp:Addr) (t:Nat->Addr) (w1 w2:Str):Prop:=H lp=some (.lst [.ref (t 0),.ref (t 1),.ref (t 2)])/\∀ c,c<3->H (t c)=some (.tup ((ptsD w1 w2 c).map kV))
inductive FLp (H:Hp) (sp rq lp:Addr) (free:Bool) (fa:Addr) (u6:Option V) (dq:Addr) (F t l:Nat->Addr) (w1 w2:Str) (j:Nat) (σ:L2.St) (U:Hp):Prop
 | mk (S:Nat->Sg) (n:Nat) (M:Nat->Mk) (m:Nat) (N:Nat->Mk) (q:Nat) (xs ms ns:List V) (us:Nat->List V) (kq:Addr) (a b:Int) (u8 u10 u11 u12 u13:Option V) (h0:σ=[some (.ref sp),some (.int 1),some (.ref rq),some (.ref lp),some (.bl free),some (.ref fa),u6,some (.ref dq),u8,some (.ref kq),u10,u11,u12,u13]) (h1:Same H U) (h2:FS U fa F S n M m N q xs ms ns) (h3:U fa=some (.dK (fkv F 9))) (h4:U dq=some (.dG (nkv (ptsD w1 w2) t l 3))) (h5:∀ c,c<3->U (l c)=some (.lst (us c))/\AN (NM (nkS S) U) (us c) (minesS S n (ptsD w1 w2 c))) (h6:U kq=some (.tup [.int a,.int b])) (h7:9≤a/\a≤9+(j:Int)/\0≤b/\b≤2/\(a=9->b=2)) (h8:∀ i,i<n->Le2 (S i).ka (S i).kb a b/\10≤(S i).ka/\∃ w x c,(S i).nk=[.inr w,.inl x,.inl c]/\x≤10+(j:Int)) (h9:∀ i,i<m->Le2 (M i).ka (M i).kb a b/\10≤(M i).ka/\∃ w x,(M i).nm=[.inr w,.inl x]) (ha:∀ i,i<q->Le2 (N i).ka (N i).kb a b/\10≤(N i).ka) (hb:n≤4 * j) (hc:m≤j) (hd:q≤j):FLp H sp rq lp free fa u6 dq F t l w1 w2 j σ U
inductive SLp (H:Hp) (p fa:Addr) (F:Nat->Addr) (vp:V) (nq kq l:Addr) (S:Nat->Sg) (n:Nat) (M:Nat->Mk) (m:Nat) (N:Nat->Mk) (q:Nat) (ms ns:List V) (pt:List Key) (w:Str) (x a b:Int) (j:Nat) (σ:L2.St) (Z:Hp):Prop
 | mk (S':Nat->Sg) (zs us':List V) (vb':V) (bh':Option Nat) (u7 u8 u9:Option V) (h0:σ=[some (.ref p),some (.ref fa),some vp,some (.ref nq),some (.ref kq),some (.ref l),some vb',u7,u8,u9]) (h1:FS Z fa F S' (n+j) M m N q zs ms ns) (h2:DP Z p) (h3:Z l=some (.lst us')) (h4:AN (NM (nkS S') Z) us' (minesS S' (n+j) pt)) (h5:Agr S S' n) (h6:∀ i,n≤i->i<n+j->(S' i).pt=pt/\(S' i).nk=[.inr w,.inl x,.inl ((i - n:Nat):Int)]/\(S' i).ka=a/\(S' i).kb=b/\(S' i).kc=((i - n:Nat):Int)) (h7:GK Z (kd (nkS S') bh') vb') (h8:∀ i,bh'=some i->i<n+j/\(S' i).pt=pt) (h9:Rest H Z (fun c=>c=p\/c=l\/c=F 3)):SLp H p fa F vp nq kq l S n M m N q ms ns pt w x a b j σ Z
inductive Isp_fAn (K:PySem.W.Frag) (vs:List V) (H:Hp) (Q:VK):Prop
 | mk (sp:_) (zs:_) (rq:_) (lp:_) (w0:_) (w1:_) (w2:_) (t:_) (h0:vs=[.ref sp,.int 1,.ref rq,.ref lp]) (h1:SqL K H sp (List.map V.int zs)) (h2:H rq=some (.lst [.str w0,.str w1,.str w2])) (h3:IsT w0) (h4:IsT w1) (h5:IsT w2) (h6:PtL H lp t w1 w2) (h7:∀ H' fa F S n M m N q xs ms ns,Same H H'->FS H' fa F S n M m N q xs ms ns->H' fa=some (.dK (fkv F 9))->H fa=none->(∀ i,i<9->H (F i)=none)->Bd S n M m N q->(0<n->0<zs.length)->Q (.ref fa) H'):Isp_fAn K vs H Q
def sp_fAn (K:PySem.W.Frag):Sp:=fun vs H Q _=>Isp_fAn K vs H Q
section
variable {K:PySem.W.Frag} {vs:List V} {H:Hp} {Q:VK} {E:XK}
theorem xAvb (h:sp_fAe K vs H Q E):vs.length=2:=by obtain ⟨_,_,_,rfl,_⟩:=h;rfl
theorem xAvc (h:sp_fAx K vs H Q E):vs.length=2:=by obtain ⟨_,_,rfl,_⟩:=h;rfl
theorem xAvd (h:sp_fAw K vs H Q E):vs.length=3:=by obtain ⟨_,_,_,rfl,_⟩:=h;rfl
theorem xAve (h:sp_fAp K vs H Q E):vs.length=1:=by obtain ⟨_,rfl,_⟩:=h;rfl
theorem xAvf (h:sp_fAs K vs H Q E):vs.length=2:=by obtain ⟨_,_,_,rfl,_⟩:=h;rfl
theorem xAvg (h:sp_fAt K vs H Q E):vs.length=1:=by obtain ⟨_,rfl,_⟩:=h;rfl
theorem xAvh (h:sp_fAq K vs H Q E):vs.length=2:=by obtain ⟨_,_,_,_,_,rfl,_⟩:=h;rfl
theorem xAvi (h:sp_fAo K vs H Q E):vs.length=6:=by obtain ⟨_,_,_,_,_,_,_,_,_,_,_,_,_,_,_,_,_,_,_,_,_,_,rfl,_⟩:=h;rfl
theorem xAvj (h:sp_fAf K vs H Q E):vs.length=6:=by obtain ⟨_,_,_,_,_,_,_,_,_,_,_,_,_,_,_,_,_,_,_,_,_,_,rfl,_⟩:=h;rfl
theorem xAvk (h:sp_fAn K vs H Q E):vs.length=4:=by obtain ⟨_,_,_,_,_,_,_,_,rfl,_⟩:=h;rfl
end
def seat (js:List Nat):Sd->Nat
 | none=>js.length
 | some (i,b)=>js.idxOf i+if b then 1 else 0
def cov (js:List Nat) (b e:Sd):List Nat:=(js.drop (seat js b)).take (seat js e - seat js b)
def Seats (nk:Nat->List Key) (js:List Nat) (kvs:List (KD×V×V)):Prop:=kvs.length=js.length/\∀ i∈js,vG kvs (.tup (nk i))=some (.int ((js.idxOf i:Nat):Int))
def SdIn (js:List Nat) (d:Sd):Prop:=∀ i b,d=some (i,b)->i∈js
def Inj (nk:Nat->List Key) (js:List Nat):Prop:=∀ i∈js,∀ j∈js,nk i=nk j->i=j
theorem xAsb {js:List Nat} (nd:js.Nodup) {j i:Nat} (h:js[j]?=some i):js.idxOf i=j:=by
 obtain ⟨h1,h2⟩:=ze.mp h;rw [← h2];exact List.Nodup.idxOf_getElem nd j h1
theorem xAis {js:List Nat} {d:Sd} (h:SdIn js d):seat js d≤js.length:=by
 match d,h with
 | none,_=>exact qg _
 | some (i,b),h =>
  have:=mo (h i b rfl);show js.idxOf i+(if b then 1 else 0)≤_
  split <;> omega
theorem xAqd {nk:Nat->List Key} {G:V->Nat->Prop}:∀ {kvs:List (KD×V×V)} {js:List Nat},PKs nk G kvs js->kvs.length=js.length
 | [],[],_=>rfl
 | [],_::_,h=>h.elim
 | _::_,[],h=>h.elim
 | _::_,_::_,h=>by rw [qx,qx,xAqd h.2]
theorem xAmy {nk:Nat->List Key} {G:V->Nat->Prop}:∀ {kvs:List (KD×V×V)} {js:List Nat},PKs nk G kvs js->kvs.map (·.1)=js.map fun i=>KD.tup (nk i)
 | [],[],_=>rfl
 | [],_::_,h=>h.elim
 | _::_,[],h=>h.elim
 | _::_,_::_,h=>by rw [za,za,xAmy h.2,h.1.1]
theorem xAvl {zs:List V} {f l:Nat} (hf:f≤zs.length) (hl:l≤zs.length):cutV zs (some (f:Int)) (some ((max f l:Nat):Int))=(zs.drop f).take (l - f):=by
 unfold cutV;rw [HT.sIx_nat,HT.sIx_nat,jc hf,jc (by omega)]
 congr 1
 omega
def xsF (xs ms ns:List V) (i:Nat):List V:=if i=3 then xs else if i=4 then ms else if i=5 then ns else []
theorem FS.all {H:Hp} {fa:Addr} {F:Nat->Addr} {S:Nat->Sg} {n:Nat} {M:Nat->Mk} {m:Nat} {N:Nat->Mk} {q:Nat} {vs ms ns:List V} (h:FS H fa F S n M m N q vs ms ns) {i:Nat} (hi:i<9):H (F i)=some (.lst (xsF vs ms ns i)):=by
 unfold xsF
 by_cases h3:i=3
 ·rw [if_pos h3,h3];exact h.sl
 ·rw [if_neg h3]
  by_cases h4:i=4
  ·rw [if_pos h4,h4];exact h.ml
  ·rw [if_neg h4]
   by_cases h5:i=5
   ·rw [if_pos h5,h5];exact h.nl
   ·rw [if_neg h5];exact h.rest i hi h3 h4 h5
theorem xAew {js:List Nat} {b e:Sd} {i:Nat} (h:i∈cov js b e):i∈js:=yh (yj h)
theorem xAvm {js:List Nat} {b e:Sd}:(cov js b e).length≤js.length:=by
 unfold cov;rw [zt,z5];omega
def sp_fAz (_:PySem.W.Frag):Sp:=fun vs H Q _=>∃ fa vp pt S n,vs=[.ref fa,vp]/\FG H fa S n/\GK H (.tup pt) vp/\Lay pt/\∀ H' q zs,Same H H'->H q=none->H' q=some (.lst zs)->AN (SN S H') zs (minesS S n pt)->Q (.ref q) H'
def sp_fBe (_:PySem.W.Frag):Sp:=fun vs H Q _=>∃ fa vp pt S n,vs=[.ref fa,vp]/\FG H fa S n/\GK H (.tup pt) vp/\Lay pt/\∀ H' q zs,Same H H'->H q=none->H' q=some (.lst zs)->AN (NM (nkS S) H') zs (rowS S n pt)->Q (.ref q) H'
inductive Isp_fAy (K:PySem.W.Frag) (vs:List V) (H:Hp) (Q:VK):Prop
 | mk (p:_) (zs:_) (nk:_) (js:_) (h0:vs=[.ref p]) (h1:H p=some (.lst zs)) (h2:AN (NM nk H) zs js) (h3:js.Nodup) (h4:Inj nk js) (h5:js.length≤1400) (h6:∀ H' dq kvs,Same H H'->H dq=none->H' dq=some (.dG kvs)->Seats nk js kvs->Q (.ref dq) H'):Isp_fAy K vs H Q
def sp_fAy (K:PySem.W.Frag):Sp:=fun vs H Q _=>Isp_fAy K vs H Q
inductive Isp_fAb (K:PySem.W.Frag) (vs:List V) (H:Hp) (Q:VK):Prop
 | mk (dq:_) (kvs:_) (S:_) (js:_) (v:_) (d:_) (h0:vs=[.ref dq,v]) (h1:H dq=some (.dG kvs)) (h2:Seats (nkS S) js kvs) (h3:SdV S H d v) (h4:SdIn js d) (h5:Q (.int ((seat js d:Nat):Int)) H):Isp_fAb K vs H Q
def sp_fAb (K:PySem.W.Frag):Sp:=fun vs H Q _=>Isp_fAb K vs H Q
inductive Isp_fBa (K:PySem.W.Frag) (vs:List V) (H:Hp) (Q:VK):Prop
 | mk (dq:_) (kvs:_) (S:_) (js:_) (vb:_) (ve:_) (b:_) (e:_) (h0:vs=[.ref dq,vb,ve]) (h1:H dq=some (.dG kvs)) (h2:Seats (nkS S) js kvs) (h3:SdV S H b vb) (h4:SdIn js b) (h5:SdV S H e ve) (h6:SdIn js e) (h7:∀ H' q,Same H H'->H' q=some (.tup [.int ((seat js b:Nat):Int),.int ((max (seat js b) (seat js e):Nat):Int)])->Q (.ref q) H'):Isp_fBa K vs H Q
def sp_fBa (K:PySem.W.Frag):Sp:=fun vs H Q _=>Isp_fBa K vs H Q
inductive Isp_fBc (K:PySem.W.Frag) (vs:List V) (H:Hp) (Q:VK):Prop
 | mk (fa:_) (vp:_) (pt:_) (S:_) (n:_) (vb:_) (ve:_) (b:_) (e:_) (h0:vs=[.ref fa,vp,vb,ve]) (h1:FG H fa S n) (h2:GK H (.tup pt) vp) (h3:Lay pt) (h4:SdV S H b vb) (h5:SdOk S n pt b) (h6:SdV S H e ve) (h7:SdOk S n pt e) (h8:∀ H' q zs,Same H H'->H q=none->H' q=some (.lst zs)->AN (NM (nkS S) H') zs (cov (rowS S n pt) b e)->Q (.ref q) H'):Isp_fBc K vs H Q
def sp_fBc (K:PySem.W.Frag):Sp:=fun vs H Q _=>Isp_fBc K vs H Q
def sp_fAr (_:PySem.W.Frag):Sp:=fun vs H Q _=>∃ fa F,∃ X:Nat->List V,vs=[.ref fa]/\Rd H fa (.dK (fkv F 9))/\(∀ i,i<9->H (F i)=some (.lst (X i))) ∧
 ∀ H' kq C o,(∀ a u,a≠fa->H a=some u->H' a=some u)->H' fa=some (.frz o (.dK (fkv F 9)))->H kq=none->H' kq=some (.dK (fkv C 9))->(∀ i,i<9->H (C i)=none/\H' (C i)=some (.lst (X i)))->(∀ i,i<9->∀ j,j<9->C i=C j->i=j)->Q (.ref kq) H'
def sp_fBf (K:PySem.W.Frag):Sp:=fun vs H Q _=>∃ sp ns,vs=[.ref sp]/\SqL K H sp (List.map V.int ns)/\ns.length≤63/\∀ H',Q (.bl true) H'
section
variable {K:PySem.W.Frag} {vs:List V} {H:Hp} {Q:VK} {E:XK}
theorem xAvn (h:sp_fAz K vs H Q E):vs.length=2:=by obtain ⟨_,_,_,_,_,rfl,_⟩:=h;rfl
theorem xAvo (h:sp_fBe K vs H Q E):vs.length=2:=by obtain ⟨_,_,_,_,_,rfl,_⟩:=h;rfl
theorem xAvp (h:sp_fAy K vs H Q E):vs.length=1:=by obtain ⟨_,_,_,_,rfl,_⟩:=h;rfl
theorem xAvq (h:sp_fAb K vs H Q E):vs.length=2:=by obtain ⟨_,_,_,_,_,_,rfl,_⟩:=h;rfl
theorem xAvr (h:sp_fBa K vs H Q E):vs.length=3:=by obtain ⟨_,_,_,_,_,_,_,_,rfl,_⟩:=h;rfl
theorem xAvs (h:sp_fBc K vs H Q E):vs.length=4:=by obtain ⟨_,_,_,_,_,_,_,_,_,rfl,_⟩:=h;rfl
theorem xAvt (h:sp_fAr K vs H Q E):vs.length=1:=by obtain ⟨_,_,_,rfl,_⟩:=h;rfl
theorem xAvu (h:sp_fBf K vs H Q E):vs.length=1:=by obtain ⟨_,_,rfl,_⟩:=h;rfl
end
theorem law_spec:∀ (K:PySem.W.Frag) (H:Hp) (a:Addr) (ns:List Int),ns.length≤63->Only H->SqL K H a (ns.map V.int)->sp_fBf K [.ref a] H (fun v _=>v=.bl true) fun _ _ _=>False :=
 fun K H a ns h1 _ h3=>⟨a,ns,rfl,h3,h1,fun _=>rfl⟩
theorem xAeh:∀ (js:List Nat),js.Nodup->∀ f l:Nat,js.filter (fun k=>decide (f≤js.idxOf k/\js.idxOf k<l))=(js.drop f).take (l - f)
 | [],_,f,l=>by rw [List.drop_nil,List.take_nil];rfl
 | x::xs,nd,f,l=>by
  obtain ⟨hx,nd'⟩:=wu.mp nd
  have ix:∀ k∈xs,(x::xs).idxOf k=xs.idxOf k+1:=fun k hk=>by
   have:(x==k)=false:=by
    rw [beq_eq_false_iff_ne]
    exact fun z=>hx (by rw [z];exact hk)
   rw [List.idxOf_cons,this];rfl
  have i0:(x::xs).idxOf x=0:=List.idxOf_cons_self
  cases l with
  | zero =>
   rw [gz.mpr (fun k _ z=>by have:=of_decide_eq_true z;omega),Nat.zero_sub,gj]
  | succ l =>
   have tail:∀ f',xs.filter (fun k=>decide (f'+1≤(x::xs).idxOf k/\(x::xs).idxOf k<l+1))=(xs.drop f').take (l - f'):=fun f'=>by
    rw [← xAeh xs nd' f' l];refine ji fun k hk=>?_;rw [ix k hk];exact decide_eq_decide.mpr (by omega)
   cases f with
   | zero =>
    rw [jg (by rw [i0];exact decide_eq_true ⟨qg 0,j0 l⟩)];have:=tail 0
    have e:xs.filter (fun k=>decide (0≤(x::xs).idxOf k/\(x::xs).idxOf k<l+1))=xs.filter (fun k=>decide (0+1≤(x::xs).idxOf k/\(x::xs).idxOf k<l+1)):=ji fun k hk=>by
     rw [ix k hk];exact decide_eq_decide.mpr (by omega)
    rw [e,this];rfl
   | succ f =>
    rw [jh (by rw [i0];exact fun z=>absurd (of_decide_eq_true z).1 (by omega)),tail f,Nat.succ_sub_succ];rfl
def covA (S:Nat->Sg) (js:List Nat) (b e:Sd):List Nat:=(cov js b e).filter fun i=>(S i).lv
theorem xAsc {S:Nat->Sg} {js:List Nat} (nd:js.Nodup) {b e:Sd}:(js.filter fun i=>(S i).lv).filter (fun k=>decide (seat js b≤js.idxOf k/\js.idxOf k<max (seat js b) (seat js e)))=covA S js b e:=by
 unfold covA cov;rw [mr];have h:=xAeh js nd (seat js b) (max (seat js b) (seat js e));rw [show max (seat js b) (seat js e) - seat js b=seat js e - seat js b by omega] at h;rw [← h,mr];exact ji fun k _=>Bool.and_comm _ _
def notesP (N:Nat->Mk) (q:Nat) (pt:List Key):List Nat:=(List.range q).filter fun i=>decide ((N i).pt=pt)
def undD (S:Nat->Sg):Option Nat->PyData
 | none=>.none
 | some k=>tD (nkS S k)
def ntD (S:Nat->Sg) (js:List Nat) (N:Nat->Mk) (i:Nat):PyData:=.tuple [tD (N i).nm,.str (N i).kd,undD S (covA S js (N i).b (N i).e).head?]
theorem nt_ok {S:Nat->Sg} {n:Nat} {N:Nat->Mk} {q:Nat} {pt:List Key} (W:WS S n) (WN:WK S n N q):PyData.canLayAll0 ((notesP N q pt).map (ntD S (rowS S n pt) N))=true/\PyData.depthAll ((notesP N q pt).map (ntD S (rowS S n pt) N))≤2/\PyData.eqv (.list ((notesP N q pt).map (ntD S (rowS S n pt) N))) (.list ((notesP N q pt).map (ntD S (rowS S n pt) N)))=true:=by
 have und:∀ i,(undD S (covA S (rowS S n pt) (N i).b (N i).e).head?).canLay0=true/\noB (undD S (covA S (rowS S n pt) (N i).b (N i).e).head?)=true/\(undD S (covA S (rowS S n pt) (N i).b (N i).e).head?).depth≤1:=fun i=>by
  cases h:(covA S (rowS S n pt) (N i).b (N i).e).head? with
  | none=>exact ⟨rfl,rfl,zm 1⟩
  | some k =>
   have hk:k∈rowS S n pt:=xAew (qv.mp (List.mem_of_mem_head? h)).1;exact ⟨(W.lay k (xAaz W hk)).1,xAju _,xAcc _⟩
 refine ⟨xAbh fun d hd=>?_,xAdz fun d hd=>?_,xAoo fun d hd=>?_⟩
 ·obtain ⟨i,hi,rfl⟩:=qk.mp hd
  have hi:=ql.mp (qv.mp hi).1;obtain ⟨_,l2,l3,_⟩:=WN.lay i hi;show ((tD (N i).nm).canLay0&&(PyData.strOk (N i).kd&&((undD S _).canLay0&&true)))=true;rw [show (tD (N i).nm).canLay0=true from l2,l3,(und i).1];rfl
 ·obtain ⟨i,hi,rfl⟩:=qk.mp hd
  have h1:=xAcc (N i).nm;have h2:=(und i).2.2;show max (tD (N i).nm).depth (max 0 (max (undD S _).depth 0))+1≤2;omega
 ·obtain ⟨i,hi,rfl⟩:=qk.mp hd
  rw [ntD,noB];refine xAdu fun d hd=>?_
  simp only [List.mem_cons,List.not_mem_nil,or_false] at hd
  rcases hd with rfl | rfl | rfl
  ·exact xAju _
  ·rfl
  ·exact (und i).2.1
theorem xAsd {nk:Nat->List Key} {js:List Nat} {i:Nat} (inj:∀ k∈js,nk k=nk i->k=i):(if false=true then !(js.map (dN nk)).any (fun d=>PyData.eqv d (tD (nk i))) else (js.map (dN nk)).any (fun d=>PyData.eqv d (tD (nk i))))=decide (i∈js):=by
 show (js.map (dN nk)).any (fun d=>PyData.eqv d (tD (nk i)))=decide (i∈js);rw [yg,vh,decide_eq_true_iff];constructor
 ·rintro ⟨d,hd,e⟩
  obtain ⟨k,hk,rfl⟩:=qk.mp hd;have:=(xAem (nk k) (nk i)).symm.trans e;rw [← inj k hk (of_decide_eq_true this)];exact hk
 ·intro h
  exact ⟨_,qk.mpr ⟨i,h,rfl⟩,(xAem _ _).trans (decide_eq_true rfl)⟩
theorem DTs.len {H:Hp}:∀ {xs:List V} {ds:List PyData},DTs H xs ds->xs.length=ds.length
 | _,_,.nil=>rfl
 | _,_,.cons _ t=>by rw [qx,qx,DTs.len t]
def sp_fBd (_:PySem.W.Frag):Sp:=fun vs H Q _=>∃ fa vp pt S n,vs=[.ref fa,vp]/\FG H fa S n/\GK H (.tup pt) vp/\Lay pt/\∀ H' q zs,Same H H'->H q=none->H' q=some (.lst zs)->AN (NM (nkS S) H') zs (aliveS S n pt)->Q (.ref q) H'
def sp_fAj (_:PySem.W.Frag):Sp:=fun vs H Q _=>∃ v S N i,vs=[v]/\NN S N H v i/\∀ kv,DT H kv (.tuple [.int (N i).ka,.int (N i).kb])->Q kv H
inductive Isp_fAu (K:PySem.W.Frag) (vs:List V) (H:Hp) (Q:VK):Prop
 | mk (fa:_) (F:_) (S:_) (n:_) (M:_) (m:_) (N:_) (q:_) (xs:_) (ms:_) (ns:_) (vp:_) (pt:_) (h0:vs=[.ref fa,vp]) (h1:FS H fa F S n M m N q xs ms ns) (h2:GK H (.tup pt) vp) (h3:Lay pt) (h4:∀ H' qq zs,Same H H'->H qq=none->H' qq=some (.lst zs)->DTs H' zs ((notesP N q pt).map (ntD S (rowS S n pt) N))->Q (.ref qq) H'):Isp_fAu K vs H Q
def sp_fAu (K:PySem.W.Frag):Sp:=fun vs H Q _=>Isp_fAu K vs H Q
section
variable {K:PySem.W.Frag} {vs:List V} {H:Hp} {Q:VK} {E:XK}
theorem xAvv (h:sp_fBd K vs H Q E):vs.length=2:=by obtain ⟨_,_,_,_,_,rfl,_⟩:=h;rfl
theorem xAvw (h:sp_fAj K vs H Q E):vs.length=1:=by obtain ⟨_,_,_,_,rfl,_⟩:=h;rfl
theorem xAvx (h:sp_fAu K vs H Q E):vs.length=2:=by obtain ⟨_,_,_,_,_,_,_,_,_,_,_,_,_,rfl,_⟩:=h;rfl
end
def marksP (M:Nat->Mk) (m:Nat) (pt:List Key):List Nat:=(List.range m).filter fun i=>decide ((M i).pt=pt)
def cvr (js:List Nat) (k:Mk) (p:Nat):Bool:=decide (seat js k.b≤p/\p<max (seat js k.b) (seat js k.e))
def tell (M:Nat->Mk) (js:List Nat) (l:List Nat) (kd:Str) (p:Nat):Option Nat:=l.foldl (fun acc i=>if (M i).kd=kd/\cvr js (M i) p=true then some i else acc) none
def kinds (M:Nat->Mk) (l:List Nat):List Str:=l.foldl (fun ks i=>if (M i).kd∈ks then ks else ks++[(M i).kd]) []
theorem xAfo {M:Nat->Mk} {js l:List Nat} {i:Nat} {kd:Str} {p:Nat}:tell M js (l++[i]) kd p=if (M i).kd=kd/\cvr js (M i) p=true then some i else tell M js l kd p:=by
 unfold tell;rw [mv];rfl
theorem xAgo {M:Nat->Mk} {l:List Nat} {i:Nat}:kinds M (l++[i])=if (M i).kd∈kinds M l then kinds M l else kinds M l++[(M i).kd]:=by
 unfold kinds;rw [mv];rfl
theorem xAbz {M:Nat->Mk}:∀ (l:List Nat) (ks:List Str),ks.Nodup->(l.foldl (fun ks i=>if (M i).kd∈ks then ks else ks++[(M i).kd]) ks).Nodup
 | [],_,h=>h
 | i::l,ks,h=>by
  refine xAbz l _ ?_;show (if (M i).kd∈ks then ks else ks++[(M i).kd]).Nodup
  by_cases z:(M i).kd∈ks
  ·rw [if_pos z];exact h
  ·rw [if_neg z]
   refine List.nodup_append.mpr ⟨h,by simp,fun x hx y hy e=>?_⟩;rw [zb.mp hy] at e;exact z (e▸hx)
theorem xAdl {M:Nat->Mk}:∀ (l:List Nat) (ks:List Str),(l.foldl (fun ks i=>if (M i).kd∈ks then ks else ks++[(M i).kd]) ks).length≤ks.length+l.length
 | [],_=>qg _
 | i::l,ks=>by
  refine qh (xAdl l _) ?_;show (if (M i).kd∈ks then ks else ks++[(M i).kd]).length+l.length≤_
  by_cases z:(M i).kd∈ks
  ·rw [if_pos z,qx];omega
  ·rw [if_neg z,qm,wc,qx];omega
theorem xAqe {M:Nat->Mk} {js:List Nat} {kd:Str} {p k:Nat}:∀ (l:List Nat) (acc:Option Nat),l.foldl (fun acc i=>if (M i).kd=kd/\cvr js (M i) p=true then some i else acc) acc=some k->acc=some k\/(k∈l/\(M k).kd=kd)
 | [],_,h=>.inl h
 | i::l,acc,h=>by
  rcases xAqe l _ h with z | z
  ·have z:(if (M i).kd=kd/\cvr js (M i) p=true then some i else acc)=some k:=z
   by_cases q:(M i).kd=kd/\cvr js (M i) p=true
   ·rw [if_pos q] at z
    cases z;exact .inr ⟨qp,q.1⟩
   ·rw [if_neg q] at z
    exact .inl z
  ·exact .inr ⟨qr _ z.1,z.2⟩
theorem xAdc {M:Nat->Mk} {js l:List Nat} {kd:Str} {p k:Nat} (h:tell M js l kd p=some k):k∈l/\(M k).kd=kd:=by
 rcases xAqe l none h with z | z
 ·cases z
 ·exact z
theorem xAfp {M:Nat->Mk} {js:List Nat} {kd:Str} {p:Nat}:∀ (l:List Nat) (acc:Option Nat),(∀ i∈l,(M i).kd≠kd)->l.foldl (fun acc i=>if (M i).kd=kd/\cvr js (M i) p=true then some i else acc) acc=acc
 | [],_,_=>rfl
 | i::l,acc,h=>by
  rw [wj,if_neg fun z=>h i qp z.1];exact xAfp l acc fun j hj=>h j (qr _ hj)
theorem xAcv {M:Nat->Mk} {kd:Str}:∀ (l:List Nat) (ks:List Str),kd∈l.foldl (fun ks i=>if (M i).kd∈ks then ks else ks++[(M i).kd]) ks↔kd∈ks\/∃ i∈l,(M i).kd=kd
 | [],ks=>⟨.inl,fun h=>h.elim id fun ⟨_,z,_⟩=>nomatch z⟩
 | i::l,ks=>by
  rw [wj,xAcv l]
  by_cases z:(M i).kd∈ks
  ·rw [if_pos z]
   constructor
   ·rintro (h | ⟨j,h1,h2⟩)
    ·exact .inl h
    ·exact .inr ⟨j,qr _ h1,h2⟩
   ·rintro (h | ⟨j,h1,h2⟩)
    ·exact .inl h
    ·rcases qw.mp h1 with y | y
     ·subst y;exact .inl (h2▸z)
     ·exact .inr ⟨j,y,h2⟩
  ·rw [if_neg z]
   constructor
   ·rintro (h | ⟨j,h1,h2⟩)
    ·rcases qz.mp h with y | y
     ·exact .inl y
     ·exact .inr ⟨i,qp,(zb.mp y).symm⟩
    ·exact .inr ⟨j,qr _ h1,h2⟩
   ·rintro (h | ⟨j,h1,h2⟩)
    ·exact .inl (yn _ h)
    ·rcases qw.mp h1 with y | y
     ·subst y;exact .inl (z9 _ (zb.mpr h2.symm))
     ·exact .inr ⟨j,y,h2⟩
def mV (ms:List V):Option Nat->V
 | none=>.non
 | some i=>ms.getD i .non
def ovr (M:Nat->Mk) (js l:List Nat) (ms:List V) (kd:Str):List V:=(List.range js.length).map fun p=>mV ms (tell M js l kd p)
theorem xAex {M:Nat->Mk} {js l:List Nat} {ms:List V} {kd:Str}:(ovr M js l ms kd).length=js.length:=by unfold ovr;rw [qj,q9]
theorem xAqf {M:Nat->Mk} {js l:List Nat} {ms:List V} {i b e:Nat} (hb:seat js (M i).b=b) (he:max (seat js (M i).b) (seat js (M i).e)=e) (hbe:b≤e) (hel:e≤js.length):((ovr M js l ms (M i).kd).take b++List.replicate (e - b) (ms.getD i .non))++(ovr M js l ms (M i).kd).drop e=ovr M js (l++[i]) ms (M i).kd:=by
 apply wp;intro p
 have hc:cvr js (M i) p=decide (b≤p/\p<e):=by unfold cvr;rw [he,hb]
 have hl:(ovr M js l ms (M i).kd).length=js.length:=xAex
 have l1:((ovr M js l ms (M i).kd).take b).length=b:=by rw [zt,hl];omega
 have l2:((ovr M js l ms (M i).kd).take b++List.replicate (e - b) (ms.getD i .non)).length=e:=by rw [qm,l1,jl];omega
 have rhs:p<js.length->(ovr M js (l++[i]) ms (M i).kd)[p]?=some (mV ms (if b≤p/\p<e then some i else tell M js l (M i).kd p)):=fun hp=>by
  unfold ovr;rw [qt,wa hp,yz,xAfo,hc]
  by_cases z:b≤p/\p<e
  ·rw [if_pos z,if_pos ⟨rfl,decide_eq_true z⟩]
  ·rw [if_neg z,if_neg (fun y=>z (of_decide_eq_true y.2))]
 have old:p<js.length->(ovr M js l ms (M i).kd)[p]?=some (mV ms (tell M js l (M i).kd p)):=fun hp=>by
  unfold ovr;rw [qt,wa hp];rfl
 by_cases h1:p<b
 ·rw [wo (by rw [l2];omega),wo (by rw [l1];exact h1),j5 h1,old (by omega),rhs (by omega),if_neg (by omega)]
 ·by_cases h2:p<e
  ·rw [wo (by rw [l2];exact h2),wz (by rw [l1];omega),l1,List.getElem?_replicate_of_lt (by omega),rhs (by omega),if_pos ⟨by omega,h2⟩]
   rfl
  ·rw [wz (by rw [l2];omega),l2,jb,show e+(p - e)=p by omega]
   by_cases h3:p<js.length
   ·rw [old h3,rhs h3,if_neg (by omega)]
   ·rw [yb (by rw [hl];omega),yb (by rw [xAex];omega)]
theorem xAvy {M:Nat->Mk} {js l:List Nat} {ms:List V} {kd:Str} (h:kd∉kinds M l):ovr M js l ms kd=List.replicate js.length .non:=by
 unfold ovr;rw [List.eq_replicate_iff];refine ⟨by rw [qj,q9],fun x hx=>?_⟩;obtain ⟨p,_,rfl⟩:=qk.mp hx;have:tell M js l kd p=none:=xAfp l none fun i hi z=>h ((xAcv l []).mpr (.inr ⟨i,hi,z⟩));rw [this];rfl
theorem xAit {M:Nat->Mk} {js l:List Nat} {ms:List V} {i:Nat} {kd:Str} (h:(M i).kd≠kd):ovr M js (l++[i]) ms kd=ovr M js l ms kd:=by
 unfold ovr;refine yc fun p _=>?_;rw [xAfo,if_neg fun z=>h z.1]
structure TK (M:Nat->Mk) (js l:List Nat) (ms:List V) (S:Addr->Prop) (Z:Hp) (kvs:List (Key×V)):Prop where
 keys:kvs.map (·.1)=(kinds M l).map .inr
 val:∀ kd∈kinds M l,∃ a,valV kvs (.inr kd)=some (.ref a)/\S a/\Z a=some (.lst (ovr M js l ms kd))
 ne:∀ kd∈kinds M l,∀ kd'∈kinds M l,valV kvs (.inr kd)=valV kvs (.inr kd')->kd=kd'
theorem TK.same {M:Nat->Mk} {js l:List Nat} {ms:List V} {S:Addr->Prop} {Z Z':Hp} {kvs:List (Key×V)} (h:TK M js l ms S Z kvs) (s:Same Z Z'):TK M js l ms S Z' kvs:=⟨h.keys,fun kd hk=>let ⟨a,h1,h2,h3⟩:=h.val kd hk;⟨a,h1,h2,s _ _ h3⟩,h.ne⟩
theorem TK.no {M:Nat->Mk} {js l:List Nat} {ms:List V} {S:Addr->Prop} {Z:Hp} {kvs:List (Key×V)} (h:TK M js l ms S Z kvs) {kd:Str}:valV kvs (.inr kd)=none↔kd∉kinds M l:=by
 constructor
 ·intro z hk
  obtain ⟨a,h1,_⟩:=h.val kd hk;rw [z] at h1;cases h1
 ·intro hk
  cases e:valV kvs (.inr kd) with
  | none=>rfl
  | some v =>
   exfalso;have:=(xAch (kvs:=kvs) (k:=.inr kd)).trans (by rw [e];rfl:(valV kvs (.inr kd)).isSome=true);obtain ⟨x,hx,ex⟩:=vh.mp this;have hm:x.1∈kvs.map (·.1):=qk.mpr ⟨x,hx,rfl⟩;rw [h.keys] at hm;obtain ⟨k',hk',e'⟩:=qk.mp hm;rw [of_decide_eq_true ex] at e';exact hk (Sum.inr.inj e'▸hk')
theorem TK.old {M:Nat->Mk} {js l:List Nat} {ms:List V} {S:Addr->Prop} {Z:Hp} {kvs:List (Key×V)} (h:TK M js l ms S Z kvs) {i:Nat} {a:Addr} (hk:(M i).kd∈kinds M l) (ea:valV kvs (.inr (M i).kd)=some (.ref a)) {xs:List V} (hx:xs=ovr M js (l++[i]) ms (M i).kd):TK M js (l++[i]) ms S (upd Z a (.lst xs)) kvs:=by
 have hki:kinds M (l++[i])=kinds M l:=by rw [xAgo,if_pos hk]
 refine ⟨by rw [hki];exact h.keys,fun kd hkd=>?_,by rw [hki];exact h.ne⟩;rw [hki] at hkd;obtain ⟨c,h1,h2,h3⟩:=h.val kd hkd
 by_cases z:(M i).kd=kd
 ·subst z
  rw [ea] at h1;cases h1;exact ⟨_,ea,h2,by rw [xAae,hx]⟩
 ·have nc:c≠a:=fun y=>z (h.ne _ hk kd hkd (by rw [ea,h1,y]))
  exact ⟨c,h1,h2,by rw [xAag nc,xAit z];exact h3⟩
theorem TK.new {M:Nat->Mk} {js l:List Nat} {ms:List V} {S:Addr->Prop} {Z:Hp} {kvs:List (Key×V)} (h:TK M js l ms S Z kvs) {i:Nat} {a:Addr} (hk:(M i).kd∉kinds M l) (sa:S a) (na:∀ kd c,valV kvs (.inr kd)=some (.ref c)->c≠a) {xs:List V} (hx:xs=ovr M js (l++[i]) ms (M i).kd) (he:Z a=some (.lst xs)):TK M js (l++[i]) ms S Z (putK kvs (.inr (M i).kd) (.ref a)):=by
 have hki:kinds M (l++[i])=kinds M l++[(M i).kd]:=by rw [xAgo,if_neg hk]
 have hput:putK kvs (.inr (M i).kd) (.ref a)=kvs++[(.inr (M i).kd,.ref a)]:=xAgv _ (h.no.mpr hk)
 have hv:∀ kd,valV (putK kvs (.inr (M i).kd) (.ref a)) (.inr kd)=if (M i).kd=kd then some (.ref a) else valV kvs (.inr kd):=fun kd=>by
  rw [xAqt]
  by_cases z:(M i).kd=kd
  ·rw [if_pos z,if_pos (by rw [z])]
  ·rw [if_neg z,if_neg (fun y=>z (Sum.inr.inj y).symm)]
 refine ⟨by rw [hput,zx,h.keys,hki,zx];rfl,fun kd hkd=>?_,fun kd hkd kd' hkd' e=>?_⟩
 ·rw [hv]
  by_cases z:(M i).kd=kd
  ·rw [if_pos z,← z]
   exact ⟨a,rfl,sa,by rw [he,hx]⟩
  ·rw [if_neg z,xAit z]
   rw [hki] at hkd;rcases qz.mp hkd with y | y
   ·exact h.val kd y
   ·exact absurd (zb.mp y).symm z
 ·rw [hv,hv] at e
  rw [hki] at hkd hkd'
  by_cases z:(M i).kd=kd
  ·by_cases z':(M i).kd=kd'
   ·exact z.symm.trans z'
   ·rw [if_pos z,if_neg z'] at e
    exact absurd rfl (na kd' a e.symm)
  ·by_cases z':(M i).kd=kd'
   ·rw [if_neg z,if_pos z'] at e
    exact absurd rfl (na kd a e)
   ·rw [if_neg z,if_neg z'] at e
    rcases qz.mp hkd with y | y
    ·rcases qz.mp hkd' with y' | y'
     ·exact h.ne kd y kd' y' e
     ·exact absurd (zb.mp y').symm z'
    ·exact absurd (zb.mp y).symm z
theorem xAfq {x:V}:∀ n:Nat,(List.replicate n [x]).flatten=List.replicate n x
 | 0=>rfl
 | n+1=>by rw [yo,vd,xAfq n];rfl
def sp_fAi (_:PySem.W.Frag):Sp:=fun vs H Q _=>∃ v S M i,vs=[v]/\MN S M H v i/\∀ kv,DT H kv (.tuple [.int (M i).ka,.int (M i).kb])->Q kv H
inductive Isp_fAa (vs:List V) (H:Hp) (Q:VK):Prop
 | mk (fa:Addr) (F:Nat->Addr) (S:Nat->Sg) (n:Nat) (M:Nat->Mk) (m:Nat) (N:Nat->Mk) (q:Nat) (xs ms ns:List V) (vp:V) (pt:List Key) (rp:Addr) (rv:List V) (h0:vs=[.ref fa,vp,.ref rp]) (h1:FS H fa F S n M m N q xs ms ns) (h2:GK H (.tup pt) vp) (h3:Lay pt) (h4:H rp=some (.lst rv)) (h5:AN (NM (nkS S) H) rv (rowS S n pt))
  (h6:∀ H' tq kvs,Same H H'->H tq=none->H' tq=some (.dK kvs)->TK M (rowS S n pt) (marksP M m pt) ms (fun a=>H a=none/\a≠tq) H' kvs->Q (.ref tq) H'):Isp_fAa vs H Q
def sp_fAa (_:PySem.W.Frag):Sp:=fun vs H Q _=>Isp_fAa vs H Q
section
variable {K:PySem.W.Frag} {vs:List V} {H:Hp} {Q:VK} {E:XK}
theorem xAvz (h:sp_fAi K vs H Q E):vs.length=1:=by obtain ⟨_,_,_,_,rfl,_⟩:=h;rfl
theorem xAwa (h:sp_fAa K vs H Q E):vs.length=3:=by obtain ⟨_,_,_,_,_,_,_,_,_,_,_,_,_,_,_,rfl,_⟩:=h;rfl
end
def insK (x:Str):List Str->List Str
 | []=>[x]
 | y::ys=>if ltD (.str x) (.str y)=true then x::y::ys else y::insK x ys
def srtK (l:List Str):List Str:=l.foldr insK []
theorem xAfr (x:Str):∀ l,(insK x l).Perm (x::l)
 | []=>.refl _
 | y::ys=>by
  unfold insK
  split
  ·exact .refl _
  ·exact ((xAfr x ys).cons y).trans (.swap x y ys)
theorem xAbb:∀ l,(srtK l).Perm l
 | []=>.refl _
 | x::l=>(xAfr x _).trans ((xAbb l).cons x)
abbrev UpK (l:List Str):Prop:=l.Pairwise fun a b=>ltD (.str a) (.str b)=true
theorem xAwb {x y:Str} (h:¬ ltD (.str x) (.str y)=true) (n:x≠y):ltD (.str y) (.str x)=true:=by
 cases q:ltD (.str y) (.str x) with
 | true=>rfl
 | false=>exact absurd (PyData.str.inj (xAia (.str x) (.str y) rfl (by simpa using h) q)) n
theorem xAqg {x:Str}:∀ {l:List Str},UpK l->x∉l->UpK (insK x l)
 | [],_,_=>List.pairwise_singleton ..
 | y::ys,h,hx=>by
  obtain ⟨h1,h2⟩:=zw.mp h;unfold insK
  split
  ·rename_i z
   refine zw.mpr ⟨fun b hb=>?_,h⟩;rcases qw.mp hb with rfl | hb
   ·exact z
   ·exact xArh _ _ _ rfl rfl rfl z (h1 b hb)
  ·rename_i z
   refine zw.mpr ⟨fun b hb=>?_,xAqg h2 fun q=>hx (qr _ q)⟩;rcases qw.mp ((xAfr x ys).mem_iff.mp hb) with rfl | hb
   ·exact xAwb z fun e=>hx (e▸qp)
   ·exact h1 b hb
theorem xAmz:∀ {l:List Str},l.Nodup->UpK (srtK l)
 | [],_=>.nil
 | x::l,h=>xAqg (xAmz (wu.mp h).2) fun z=>(wu.mp h).1 ((xAbb l).mem_iff.mp z)
theorem xAwc:∀ {xs ys:List Str},xs.Perm ys->(xs.Pairwise fun a b=>ltD (.str b) (.str a)=false)->UpK ys->xs=ys
 | [],ys,p,_,_=>(jx.mp p).symm
 | x::xs,[],p,_,_=>absurd p.length_eq (by simp)
 | x::xs,y::ys,p,hx,hy=>by
  by_cases e:x=y
  ·subst e
   rw [xAwc ((jy x).mp p) (zw.mp hx).2 (zw.mp hy).2]
  ·have h1:y∈xs:=by
    rcases qw.mp (p.mem_iff.mpr qp) with z | z
    ·exact absurd z.symm e
    ·exact z
   have h2:x∈ys:=by
    rcases qw.mp (p.mem_iff.mp qp) with z | z
    ·exact absurd z e
    ·exact z
   have a1:=(zw.mp hx).1 y h1;have a2:=(zw.mp hy).1 x h2;rw [a2] at a1;cases a1
theorem xAjz (js:List Str):(List.range js.length).map (fun i=>js.getD i "")=js:=by
 apply wp;intro i;rw [qt]
 by_cases hi:i<js.length
 ·rw [wa hi,qi hi]
  show some (js.getD i "")=_;rw [qo,qi hi];rfl
 ·rw [List.getElem?_eq_none (by simpa using hi),List.getElem?_eq_none (by omega)];rfl
theorem sort_K {js:List Str} {ix:List Nat} (nd:js.Nodup) (h:SortIx (js.map .str) ix):(ix.map fun i=>(js.map V.str).getD i .non)=(srtK js).map V.str:=by
 have p1:ix.Perm (List.range js.length):=by have:=h.1;rwa [qj] at this
 have hlt:∀ i∈ix,i<js.length:=fun i hi=>ql.mp (p1.mem_iff.mp hi)
 have e1:(ix.map fun i=>(js.map V.str).getD i .non)=(ix.map fun i=>js.getD i "").map V.str:=by
  rw [wt];refine yc fun i hi=>?_;show _=V.str (js.getD i "");rw [qo,qt,qo,qi (hlt i hi)];rfl
 rw [e1]
 congr 1
 refine xAwc (((p1.map _).trans (.of_eq (xAjz js))).trans (xAbb js).symm) ?_ (xAmz nd);have h2:=h.2;rw [w5] at h2 ⊢;refine h2.imp_of_mem fun {a b} ha hb hab=>?_
 have ka:∀ i,i∈ix->keyAt (js.map .str) i=.str (js.getD i ""):=fun i hi=>by
  unfold keyAt;rw [qo,qt,qo,qi (hlt i hi)];rfl
 rw [ka a ha,ka b hb] at hab;exact hab
theorem xAqh {f:Str->Option PyData} {l:List Str} {j:Nat} {kd:Str} (h:l[j]?=some kd):(l.take (j+1)).filterMap f=(l.take j).filterMap f++(f kd).toList:=by
 rw [z8,h,mw]
 cases e:f kd with
 | none=>rw [mx,ki e];rfl
 | some d=>rw [mx,my e];rfl
def plD (M:Nat->Mk) (pl:Bool) (k:Nat):PyData:=if pl then tD (M k).nm else match (M k).vl with | none=>.none | some z=>.str z
def tlO (M:Nat->Mk) (pl:Bool):Option Nat->Option PyData
 | none=>none
 | some k=>if (M k).vl=none then none else some (.tuple [.str (M k).kd,plD M pl k])
def tlD (M:Nat->Mk) (pl:Bool) (js l:List Nat) (p:Nat):List PyData:=(srtK (kinds M l)).filterMap fun kd=>tlO M pl (tell M js l kd p)
structure TDk (nk:Nat->List Key) (f:Nat->List PyData) (B:Addr->Prop) (Z:Hp) (kvs:List (KD×V×V)) (js:List Nat):Prop where
 len:kvs.length=js.length
 ent:∀ (j:Nat) e i,kvs[j]?=some e->js[j]?=some i->e.1=.tup (nk i)/\NM nk Z e.2.1 i/\∃ a zs,e.2.2=.ref a/\B a/\Z a=some (.lst zs)/\DTs Z zs (f i)
theorem TDk.to {nk:Nat->List Key} {f:Nat->List PyData} {B B':Addr->Prop} {Z Z':Hp} {kvs:List (KD×V×V)} {js:List Nat} (h:TDk nk f B Z kvs js) (t:Tups Z Z') (s:∀ a zs,B a->Z a=some (.lst zs)->Z' a=some (.lst zs)) (b:∀ a,B a->B' a):TDk nk f B' Z' kvs js :=
 ⟨h.len,fun j e i h1 h2=>by
  obtain ⟨q1,q2,a,zs,q3,q4,q5,q6⟩:=h.ent j e i h1 h2
  exact ⟨q1,NM.tups q2 t,a,zs,q3,b a q4,s a zs q4 q5,q6.tups t⟩⟩
theorem TDk.same {nk:Nat->List Key} {f:Nat->List PyData} {B:Addr->Prop} {Z Z':Hp} {kvs:List (KD×V×V)} {js:List Nat} (h:TDk nk f B Z kvs js) (s:Same Z Z'):TDk nk f B Z' kvs js:=h.to s.tups (fun _ _ _ e=>s _ _ e) fun _ b=>b
theorem TDk.snoc {nk:Nat->List Key} {f:Nat->List PyData} {B:Addr->Prop} {Z:Hp} {kvs:List (KD×V×V)} {js:List Nat} (h:TDk nk f B Z kvs js) {k:V} {i:Nat} {a:Addr} {zs:List V} (h2:NM nk Z k i) (h4:B a) (h5:Z a=some (.lst zs)) (h6:DTs Z zs (f i)):TDk nk f B Z (kvs++[(.tup (nk i),k,.ref a)]) (js++[i]):=by
 refine ⟨by rw [qm,qm,h.len];rfl,fun j e i' e1 e2=>?_⟩
 by_cases hj:j<js.length
 ·rw [wo (by rw [h.len];exact hj)] at e1
  rw [wo hj] at e2;exact h.ent j e i' e1 e2
 ·rw [wz (by omega)] at e2
  rw [wz (by rw [h.len];omega),h.len] at e1
  cases q:j - js.length with
  | zero =>
   rw [q] at e1 e2;cases e1;cases e2;exact ⟨rfl,h2,a,zs,rfl,h4,h5,h6⟩
  | succ x=>rw [q] at e2;cases e2
theorem TDk.keys {nk:Nat->List Key} {f:Nat->List PyData} {B:Addr->Prop} {Z:Hp} {kvs:List (KD×V×V)} {js:List Nat} (h:TDk nk f B Z kvs js):kvs.map (·.1)=js.map fun i=>KD.tup (nk i):=by
 apply wp;intro j;rw [qt,qt]
 by_cases hj:j<js.length
 ·have hj':j<kvs.length:=by rw [h.len];exact hj
  rw [qi hj,qi hj'];exact congrArg some (h.ent j _ _ (qi hj') (qi hj)).1
 ·rw [yb (by rw [h.len];omega),yb (by omega)];rfl
theorem xAse {nk:Nat->List Key} {js:List Nat} (nd:js.Nodup) (inj:Inj nk js):(js.map fun i=>KD.tup (nk i)).Nodup :=
 w5.mpr (nd.imp_of_mem fun {a b} ha hb h e=>h (inj a ha b hb (KD.tup.inj e)))
theorem TDk.get {nk:Nat->List Key} {f:Nat->List PyData} {B:Addr->Prop} {Z:Hp} {kvs:List (KD×V×V)} {js:List Nat} (h:TDk nk f B Z kvs js) (nd:js.Nodup) (inj:Inj nk js) {i:Nat} (hi:i∈js):∃ a zs,vG kvs (.tup (nk i))=some (.ref a)/\B a/\Z a=some (.lst zs)/\DTs Z zs (f i):=by
 obtain ⟨j,hj⟩:=mz hi
 have hl:j<kvs.length:=by rw [h.len];exact (ze.mp hj).1
 obtain ⟨q1,q2,a,zs,q3,q4,q5,q6⟩:=h.ent j _ i (qi hl) hj;refine ⟨a,zs,?_,q4,q5,q6⟩;rw [← q3];exact xAgf (by rw [h.keys];exact xAse nd inj) (qi hl) q1
theorem xAna {H:Hp}:∀ l:List Str,DTs H (l.map V.str) (l.map .str)
 | []=>.nil
 | x::l=>.cons (.str x) (xAna l)
inductive Isp_fAd (vs:List V) (H:Hp) (Q:VK):Prop
 | mk (fa:Addr) (F:Nat->Addr) (S:Nat->Sg) (n:Nat) (M:Nat->Mk) (m:Nat) (N:Nat->Mk) (q:Nat) (xs ms ns:List V) (vp:V) (pt:List Key) (pl:Bool) (h0:vs=[.ref fa,vp,.int (if pl then 5 else 4)]) (h1:FS H fa F S n M m N q xs ms ns) (h2:GK H (.tup pt) vp) (h3:Lay pt) (h4:m≤63)
  (h5:∀ H' tq kvs,Same H H'->H tq=none->H' tq=some (.dG kvs)->TDk (nkS S) (fun i=>tlD M pl (rowS S n pt) (marksP M m pt) ((rowS S n pt).idxOf i)) (fun a=>H a=none/\a≠tq) H' kvs (aliveS S n pt)->Q (.ref tq) H'):Isp_fAd vs H Q
def sp_fAd (_:PySem.W.Frag):Sp:=fun vs H Q _=>Isp_fAd vs H Q
inductive Isp_fAv (pl:Bool) (vs:List V) (H:Hp) (Q:VK):Prop
 | mk (fa:Addr) (F:Nat->Addr) (S:Nat->Sg) (n:Nat) (M:Nat->Mk) (m:Nat) (N:Nat->Mk) (q:Nat) (xs ms ns:List V) (vp:V) (pt:List Key) (h0:vs=[.ref fa,vp]) (h1:FS H fa F S n M m N q xs ms ns) (h2:GK H (.tup pt) vp) (h3:Lay pt) (h4:m≤63)
  (h5:∀ H' tq kvs,Same H H'->H tq=none->H' tq=some (.dG kvs)->TDk (nkS S) (fun i=>tlD M pl (rowS S n pt) (marksP M m pt) ((rowS S n pt).idxOf i)) (fun a=>H a=none/\a≠tq) H' kvs (aliveS S n pt)->Q (.ref tq) H'):Isp_fAv pl vs H Q
def sp_fAv (_:PySem.W.Frag):Sp:=fun vs H Q _=>Isp_fAv false vs H Q
section
variable {K:PySem.W.Frag} {vs:List V} {H:Hp} {Q:VK} {E:XK}
theorem xAwd (h:sp_fAd K vs H Q E):vs.length=3:=by obtain ⟨_,_,_,_,_,_,_,_,_,_,_,_,_,_,rfl,_⟩:=h;rfl
theorem xAwe (h:sp_fAv K vs H Q E):vs.length=2:=by obtain ⟨_,_,_,_,_,_,_,_,_,_,_,_,_,rfl,_⟩:=h;rfl
end
def pr (x:Str×PyData):PyData:=.tuple [.str x.1,x.2]
def tlQ (M:Nat->Mk) (pl:Bool):Option Nat->Option PyData
 | none=>none
 | some k=>if (M k).vl=none then none else some (plD M pl k)
def tlF (M:Nat->Mk) (pl:Bool) (js l:List Nat) (p:Nat) (kd:Str):Option (Str×PyData):=(tlQ M pl (tell M js l kd p)).map fun d=>(kd,d)
def tlP (M:Nat->Mk) (pl:Bool) (js l:List Nat) (p:Nat):List (Str×PyData):=(srtK (kinds M l)).filterMap (tlF M pl js l p)
theorem xAsf {M:Nat->Mk} {pl:Bool} {js l:List Nat} {p:Nat}:tlD M pl js l p=(tlP M pl js l p).map pr:=by
 unfold tlD tlP;rw [List.map_filterMap]
 congr 1
 funext kd
 unfold tlF
 cases e:tell M js l kd p with
 | none=>rfl
 | some k =>
  have h:=(xAdc e).2;show (if (M k).vl=none then none else some (PyData.tuple [.str (M k).kd,plD M pl k]))=Option.map pr (Option.map _ (if (M k).vl=none then none else some (plD M pl k)))
  by_cases z:(M k).vl=none
  ·rw [if_pos z,if_pos z];rfl
  ·rw [if_neg z,if_neg z,h];rfl
abbrev UpP (l:List (Str×PyData)):Prop:=l.Pairwise fun a b=>ltD (.str a.1) (.str b.1)=true
theorem xAiu {M:Nat->Mk} {pl:Bool} {js l:List Nat} {p:Nat} {kd:Str} {x:Str×PyData} (h:tlF M pl js l p kd=some x):x.1=kd:=by
 unfold tlF at h
 cases e:tlQ M pl (tell M js l kd p) with
 | none=>rw [e] at h;cases h
 | some d=>rw [e] at h;cases h;rfl
theorem fm_up {f:Str->Option (Str×PyData)} (hf:∀ k x,f k=some x->x.1=k) {l:List Str} (h:UpK l):UpP (l.filterMap f) :=
 List.pairwise_filterMap.mpr (h.imp fun {a b} hab x hx y hy=>by rw [hf a x hx,hf b y hy];exact hab)
theorem tlP_up {M:Nat->Mk} {pl:Bool} {js l:List Nat} {p:Nat}:UpP (tlP M pl js l p):=fm_up (fun _ _ h=>xAiu h) (xAmz (xAbz l [] .nil))
theorem xAwf:∀ {xs ys:List (Str×PyData)},xs.Perm ys->(xs.Pairwise fun a b=>ltD (.str b.1) (.str a.1)=false)->UpP ys->xs=ys
 | [],ys,p,_,_=>(jx.mp p).symm
 | x::xs,[],p,_,_=>absurd p.length_eq (by simp)
 | x::xs,y::ys,p,hx,hy=>by
  by_cases e:x=y
  ·subst e
   rw [xAwf ((jy x).mp p) (zw.mp hx).2 (zw.mp hy).2]
  ·have h1:y∈xs:=by
    rcases qw.mp (p.mem_iff.mpr qp) with z | z
    ·exact absurd z.symm e
    ·exact z
   have h2:x∈ys:=by
    rcases qw.mp (p.mem_iff.mp qp) with z | z
    ·exact absurd z e
    ·exact z
   have a1:=(zw.mp hx).1 y h1;have a2:=(zw.mp hy).1 x h2;rw [a2] at a1;cases a1
theorem pr_lt {a b:Str×PyData} (h:ltD (.str a.1) (.str b.1)=true):ltD (pr a) (pr b)=true:=by
 unfold pr;rw [ltD,ltDs,if_neg]
 ·exact h
 ·intro z
  rw [(sk_eq (.str a.1) (.str b.1) rfl).mp z,xAer] at h;cases h
theorem sort_P {ps qs:List (Str×PyData)} {ix:List Nat} (p:ps.Perm qs) (up:UpP qs) (h:SortIx (ps.map pr) ix):(ix.map fun i=>(ps.map pr).getD i .none)=qs.map pr:=by
 have p1:ix.Perm (List.range ps.length):=by have:=h.1;rwa [qj] at this
 have hlt:∀ i∈ix,i<ps.length:=fun i hi=>ql.mp (p1.mem_iff.mp hi)
 have e1:(ix.map fun i=>(ps.map pr).getD i .none)=(ix.map fun i=>ps.getD i ("",.none)).map pr:=by
  rw [wt];refine yc fun i hi=>?_;show _=pr (ps.getD i ("",.none));rw [qo,qt,qo,qi (hlt i hi)];rfl
 rw [e1]
 congr 1
 refine xAwf (((p1.map _).trans (.of_eq ?_)).trans p) ?_ up
 ·apply wp
  intro i;rw [qt]
  by_cases hi:i<ps.length
  ·rw [wa hi,qi hi]
   show some (ps.getD i ("",.none))=_;rw [qo,qi hi];rfl
  ·rw [List.getElem?_eq_none (by simpa using hi),List.getElem?_eq_none (by omega)];rfl
 have h2:=h.2;rw [w5] at h2 ⊢;refine h2.imp_of_mem fun {a b} ha hb hab=>?_
 have ka:∀ i,i∈ix->keyAt (ps.map pr) i=pr (ps.getD i ("",.none)):=fun i hi=>by
  unfold keyAt;rw [qo,qt,qo,qi (hlt i hi)];rfl
 rw [ka a ha,ka b hb] at hab
 cases e:ltD (.str (ps.getD b ("",.none)).1) (.str (ps.getD a ("",.none)).1) with
 | false=>rfl
 | true=>rw [pr_lt e] at hab;cases hab
theorem xAgp {M M':Nat->Mk} {l l':List Nat} {k:Str} (h:∀ kd,(∃ i∈l',(M' i).kd=kd)↔kd=k\/∃ i∈l,(M i).kd=kd):(srtK (kinds M' l')).Perm (if k∈kinds M l then srtK (kinds M l) else k::srtK (kinds M l)):=by
 have mem:∀ (M:Nat->Mk) l kd,kd∈kinds M l↔∃ i∈l,(M i).kd=kd:=fun M l kd=>(xAcv l []).trans ⟨fun z=>z.elim (fun z=>nomatch z) id,.inr⟩;have nd:∀ (M:Nat->Mk) l,(srtK (kinds M l)).Nodup:=fun M l=>(xAbb _).symm.nodup (xAbz l [] .nil);have ms:∀ (M:Nat->Mk) l kd,kd∈srtK (kinds M l)↔∃ i∈l,(M i).kd=kd:=fun M l kd=>(xAbb _).mem_iff.trans (mem M l kd)
 by_cases z:k∈kinds M l
 ·rw [if_pos z]
  refine (m6 (nd _ _) (nd _ _)).mpr fun kd=>?_;rw [ms,ms,h];exact ⟨fun q=>q.elim (fun q=>by rw [q];exact (mem M l k).mp z) id,.inr⟩
 ·rw [if_neg z]
  refine (m6 (nd _ _) (wu.mpr ⟨fun q=>z ((xAbb _).mem_iff.mp q),nd _ _⟩)).mpr fun kd=>?_;rw [ms,qw,ms,h]
theorem xAiv {f:Str->Option (Str×PyData)} (hf:∀ k x,f k=some x->x.1=k) (k:Str):∀ l:List Str,(l.filterMap f).filter (fun x=>decide (x.1≠k))=(l.filter fun x=>decide (x≠k)).filterMap f
 | []=>rfl
 | a::l=>by
  have ih:=xAiv hf k l
  cases e:f a with
  | none =>
   rw [ki e,ih]
   by_cases z:a=k
   ·rw [List.filter_cons_of_neg (by simp [z])]
   ·rw [List.filter_cons_of_pos (by simp [z]),List.filterMap_cons_none e]
  | some x =>
   rw [my e];have hx:=hf a x e
   by_cases z:a=k
   ·rw [List.filter_cons_of_neg (by simp [hx,z]),List.filter_cons_of_neg (by simp [z]),ih]
   ·rw [List.filter_cons_of_pos (by simp [hx,z]),List.filter_cons_of_pos (by simp [z]),List.filterMap_cons_some e,ih]
theorem xAnb {α β:Type} {f g:α->Option β}:∀ {l:List α},(∀ x∈l,f x=g x)->l.filterMap f=l.filterMap g
 | [],_=>rfl
 | a::l,h=>by
  rw [yx,yx,h a qp,xAnb fun x hx=>h x (qr _ hx)]
theorem xAow {f g:Str->Option (Str×PyData)} {k:Str} {L L':List Str} (nd:L.Nodup) (hf:∀ k x,f k=some x->x.1=k) (hg:∀ kd,kd≠k->g kd=f kd) (hL:L'.Perm (if k∈L then L else k::L)):(L'.filterMap g).Perm ((L.filterMap f).filter (fun x=>decide (x.1≠k))++(g k).toList):=by
 have e1:((L.filter fun x=>decide (x≠k))++[k]).Perm (if k∈L then L else k::L):=by
  refine y8.trans ?_
  by_cases z:k∈L
  ·rw [if_pos z]
   refine (List.perm_ext_iff_of_nodup (List.nodup_cons.mpr ⟨by simp,nd.filter _⟩) nd).mpr fun x=>?_;rw [qw,qv]
   by_cases q:x=k
   ·subst q;simp [z]
   ·simp [q]
  ·have ef:(L.filter fun x=>decide (x≠k))=L:=m7.mpr fun a ha=>decide_eq_true fun q=>z (q▸ha)
   rw [if_neg z,ef];exact .refl _
 refine ((hL.trans e1.symm).filterMap g).trans (.of_eq ?_);rw [mw,xAiv hf]
 congr 1
 refine xAnb fun x hx=>hg x ?_;exact of_decide_eq_true (qv.mp hx).2
section
variable {M M':Nat->Mk} {js l:List Nat} {m p:Nat} {pl:Bool} {kd:Str}
theorem xAgq (h:∀ i∈l,M' i=M i) (acc:Option Nat):l.foldl (fun acc i=>if (M' i).kd=kd/\cvr js (M' i) p=true then some i else acc) acc=l.foldl (fun acc i=>if (M i).kd=kd/\cvr js (M i) p=true then some i else acc) acc:=by
 induction l generalizing acc with
 | nil=>rfl
 | cons i l ih =>
  rw [wj,wj,h i qp];exact ih (fun j hj=>h j (qr _ hj)) _
theorem xAiw {o:Option Nat} (h:∀ i,o=some i->M' i=M i):tlQ M' pl o=tlQ M pl o:=by
 cases o with
 | none=>rfl
 | some i =>
  unfold tlQ plD;dsimp only;rw [h i rfl]
theorem xAox {M:Nat->Mk} {l:List Nat} {k:Str}:k∈kinds M l↔∃ i∈l,(M i).kd=k:=(xAcv l []).trans ⟨fun z=>z.elim (fun z=>nomatch z) id,.inr⟩
theorem xAqi {M:Nat->Mk} {l:List Nat} {k:Str}:k∈srtK (kinds M l)↔k∈kinds M l:=(xAbb _).mem_iff
theorem xAsg {k:Str} (h:k∉kinds M l):tlF M pl js l p k=none:=by
 unfold tlF tell;rw [xAfp l none fun i hi z=>h (xAox.mpr ⟨i,hi,z⟩)];rfl
theorem xAnc {l':List Nat} {k:Str} (hk:∀ kd,(∃ i∈l',(M' i).kd=kd)↔kd=k\/∃ i∈l,(M i).kd=kd) (hg:∀ kd,tlF M' pl js l' p kd=tlF M pl js l p kd):(tlP M' pl js l' p).Perm (tlP M pl js l p):=by
 unfold tlP;refine ((xAgp hk).filterMap _).trans (.of_eq ?_);rw [show tlF M' pl js l' p=tlF M pl js l p from funext hg]
 by_cases z:k∈kinds M l
 ·rw [if_pos z]
 ·rw [if_neg z,ki (xAsg z)]
theorem xAix {l':List Nat} {k:Str} (hk:∀ kd,(∃ i∈l',(M' i).kd=kd)↔kd=k\/∃ i∈l,(M i).kd=kd) (hg:∀ kd,kd≠k->tlF M' pl js l' p kd=tlF M pl js l p kd):(tlP M' pl js l' p).Perm ((tlP M pl js l p).filter (fun x=>decide (x.1≠k))++(tlF M' pl js l' p k).toList):=by
 unfold tlP;refine xAow ((xAbb _).symm.nodup (xAbz l [] .nil)) (fun _ _ h=>xAiu h) hg ?_;refine (xAgp hk).trans (.of_eq ?_)
 by_cases z:k∈kinds M l
 ·rw [if_pos z,if_pos (xAqi.mpr z)]
 ·rw [if_neg z,if_neg fun q=>z (xAqi.mp q)]
section
variable (hM:∀ i∈l,M' i=M i)
include hM
theorem xAiy (kd:Str):(∃ i∈l++[m],(M' i).kd=kd)↔kd=(M' m).kd\/∃ i∈l,(M i).kd=kd:=by
 constructor
 ·rintro ⟨i,hi,e⟩
  rcases qz.mp hi with hi | hi
  ·exact .inr ⟨i,hi,by rw [← hM i hi];exact e⟩
  ·rw [zb.mp hi] at e
   exact .inl e.symm
 ·rintro (e | ⟨i,hi,e⟩)
  ·exact ⟨m,by simp,e.symm⟩
  ·exact ⟨i,yn _ hi,by rw [hM i hi];exact e⟩
theorem xAnd:tell M' js (l++[m]) kd p=if (M' m).kd=kd/\cvr js (M' m) p=true then some m else tell M js l kd p:=by
 rw [xAfo]
 congr 1
 exact xAgq hM none
theorem xAne (h:¬ ((M' m).kd=kd/\cvr js (M' m) p=true)):tlF M' pl js (l++[m]) p kd=tlF M pl js l p kd:=by
 unfold tlF;rw [xAnd hM,if_neg h,xAiw fun i hi=>hM i (xAdc hi).1]
theorem xAqj (h:¬ cvr js (M' m) p=true):(tlP M' pl js (l++[m]) p).Perm (tlP M pl js l p):=xAnc (xAiy hM) fun kd=>xAne hM fun z=>h z.2
theorem xAwg (h:cvr js (M' m) p=true):(tlP M' pl js (l++[m]) p).Perm ((tlP M pl js l p).filter (fun x=>decide (x.1≠(M' m).kd))++((tlQ M' pl (some m)).map fun d=>((M' m).kd,d)).toList):=by
 have:=xAix (pl:=pl) (js:=js) (p:=p) (xAiy (m:=m) hM) fun kd hk=>xAne hM fun z=>hk z.1.symm;unfold tlF at this;rw [xAnd hM,if_pos ⟨rfl,h⟩] at this;exact this
end
section
variable (hM:∀ i,M' (i+1)=M i)
include hM
theorem xAiz (kd:Str):(∃ i∈0::l.map (·+1),(M' i).kd=kd)↔kd=(M' 0).kd\/∃ i∈l,(M i).kd=kd:=by
 constructor
 ·rintro ⟨i,hi,e⟩
  rcases qw.mp hi with hi | hi
  ·rw [hi] at e
   exact .inl e.symm
  ·obtain ⟨j,hj,rfl⟩:=qk.mp hi
   exact .inr ⟨j,hj,by rw [← hM j];exact e⟩
 ·rintro (e | ⟨i,hi,e⟩)
  ·exact ⟨0,by simp,e.symm⟩
  ·exact ⟨i+1,qr _ (qk.mpr ⟨i,hi,rfl⟩),by rw [hM];exact e⟩
theorem xAsh (acc:Option Nat):∀ (a:Option Nat),(l.map (·+1)).foldl (fun acc i=>if (M' i).kd=kd/\cvr js (M' i) p=true then some i else acc) (match a with | some i=>some (i+1) | none=>acc)=match l.foldl (fun acc i=>if (M i).kd=kd/\cvr js (M i) p=true then some i else acc) a with | some i=>some (i+1) | none=>acc:=by
 induction l with
 | nil=>exact fun _=>rfl
 | cons i l ih =>
  intro a;rw [za,wj,wj,hM i]
  by_cases z:(M i).kd=kd/\cvr js (M i) p=true
  ·rw [if_pos z,if_pos z]
   exact ih (some i)
  ·rw [if_neg z,if_neg z]
   exact ih a
theorem xAnf:tell M' js (0::l.map (·+1)) kd p=match tell M js l kd p with | some i=>some (i+1) | none=>if (M' 0).kd=kd/\cvr js (M' 0) p=true then some 0 else none:=by
 unfold tell;rw [wj];exact xAsh hM _ none
theorem xAng (h:(tell M js l kd p).isSome=true\/¬ ((M' 0).kd=kd/\cvr js (M' 0) p=true)):tlF M' pl js (0::l.map (·+1)) p kd=tlF M pl js l p kd:=by
 unfold tlF;rw [xAnf hM]
 cases e:tell M js l kd p with
 | some i =>
  show Option.map _ (tlQ M' pl (some (i+1)))=_;unfold tlQ plD;dsimp only;rw [hM]
 | none =>
  rw [e] at h;dsimp only;rw [if_neg (h.resolve_left (by decide))];rfl
theorem xAwh (h:(tell M js l (M' 0).kd p).isSome=true\/¬ cvr js (M' 0) p=true):(tlP M' pl js (0::l.map (·+1)) p).Perm (tlP M pl js l p):=xAnc (xAiz hM) fun kd=>xAng hM (by
 by_cases z:(M' 0).kd=kd
 ·rw [← z]
  exact h.imp id fun h q=>h q.2
 ·exact .inr fun q=>z q.1)
theorem xAwi (h0:tell M js l (M' 0).kd p=none) (h:cvr js (M' 0) p=true):(tlP M' pl js (0::l.map (·+1)) p).Perm (tlP M pl js l p++((tlQ M' pl (some 0)).map fun d=>((M' 0).kd,d)).toList):=by
 have t:=xAix (pl:=pl) (js:=js) (p:=p) (xAiz (l:=l) hM) fun kd hk=>xAng hM (.inr fun z=>hk z.1.symm);unfold tlF at t;rw [xAnf hM,h0] at t;dsimp only at t;rw [if_pos ⟨rfl,h⟩] at t;refine t.trans (.of_eq ?_)
 congr 1
 refine m7.mpr fun x hx=>decide_eq_true fun e=>?_;obtain ⟨kd,_,h2⟩:=yy.mp hx;have e2:=xAiu h2;rw [← e2,e] at h2;unfold tlF at h2;rw [h0] at h2;cases h2
end
end
theorem xAja {M M':Nat->Mk} {m:Nat} {pt:List Key} (hM:∀ i,i<m->M' i=M i):marksP M' (m+1) pt=marksP M m pt++if (M' m).pt=pt then [m] else []:=by
 unfold marksP;rw [vj,yd]
 congr 1
 ·exact ji fun i hi=>by rw [hM i (ql.mp hi)]
 ·by_cases z:(M' m).pt=pt
  ·rw [if_pos z,List.filter_cons_of_pos (by simp [z])];rfl
  ·rw [if_neg z,List.filter_cons_of_neg (by simp [z])];rfl
theorem xAoy {M M':Nat->Mk} {m:Nat} {pt:List Key} (hM:∀ i,M' (i+1)=M i):marksP M' (m+1) pt=(if (M' 0).pt=pt then [0] else [])++(marksP M m pt).map (·+1):=by
 unfold marksP;rw [jv,List.filter_cons,kg]
 have e:(fun i=>decide ((M' i).pt=pt))∘Nat.succ=fun i=>decide ((M i).pt=pt):=funext fun i=>by
  show decide ((M' (i+1)).pt=pt)=_;rw [hM]
 rw [e]
 by_cases z:(M' 0).pt=pt
 ·rw [if_pos z,if_pos (decide_eq_true z)];rfl
 ·rw [if_neg z,if_neg (by simp [z])];rfl
theorem xAjb {js:List Nat} (nd:js.Nodup) {k:Mk} {i:Nat} (hi:i∈js):decide (i∈cov js k.b k.e)=cvr js k (js.idxOf i):=by
 have e:cov js k.b k.e=js.filter fun x=>decide (seat js k.b≤js.idxOf x/\js.idxOf x<seat js k.e):=(xAeh js nd _ _).symm;unfold cvr;refine decide_eq_decide.mpr ?_;rw [e,qv,decide_eq_true_iff];constructor
 ·rintro ⟨_,h⟩;omega
 ·intro h;exact ⟨hi,by omega⟩
def sp_fAc (_:PySem.W.Frag):Sp:=fun vs H Q _=>Isp_fAv true vs H Q
inductive Isp_fAl (vs:List V) (H:Hp) (Q:VK):Prop
 | mk (sp:Addr) (xs:List V) (ps:List (Str×PyData)) (kd:Str) (h0:vs=[.ref sp,.str kd]) (h1:H sp=some (.lst xs)) (h2:DTs H xs (ps.map pr)) (h3:ps.length≤100)
  (h4:∀ H' q zs,Same H H'->H q=none->H' q=some (.lst zs)->DTs H' zs ((ps.filter fun x=>decide (x.1≠kd)).map pr)->Q (.ref q) H'):Isp_fAl vs H Q
def sp_fAl (_:PySem.W.Frag):Sp:=fun vs H Q _=>Isp_fAl vs H Q
inductive Isp_fAk (vs:List V) (H:Hp) (Q:VK):Prop
 | mk (fa la:Addr) (F F':Nat->Addr) (S:Nat->Sg) (n:Nat) (M M':Nat->Mk) (m:Nat) (N:Nat->Mk) (q:Nat) (xs ms ns xs' ms' ns':List V) (v:V) (h0:vs=[.ref fa,.ref la,v]) (h1:FS H fa F S n M m N q xs ms ns) (h2:FS H la F' S n M' (m+1) N q xs' ms' ns') (h3:MN S M' H v m) (h4:∀ i,i<m->M' i=M i) (h5:m+1≤63) (hmn:∀ i,i<m+1->∃ w x,(M' i).nm=[.inr w,.inl x]) (hsn:∀ i,i<n->∃ w x c,(S i).nk=[.inr w,.inl x,.inl c]) (hnn:n≤250)
  (h6:∀ H',Same H H'->Q (.bl true) H'):Isp_fAk vs H Q
def sp_fAk (_:PySem.W.Frag):Sp:=fun vs H Q _=>Isp_fAk vs H Q
inductive Isp_fAm (vs:List V) (H:Hp) (Q:VK):Prop
 | mk (fa la:Addr) (F F':Nat->Addr) (S:Nat->Sg) (n:Nat) (M M':Nat->Mk) (m:Nat) (N:Nat->Mk) (q:Nat) (xs ms ns xs' ms' ns':List V) (v:V) (h0:vs=[.ref fa,.ref la,v]) (h1:FS H fa F S n M m N q xs ms ns) (h2:FS H la F' S n M' (m+1) N q xs' ms' ns') (h3:MN S M' H v 0) (h4:∀ i,M' (i+1)=M i) (h5:m+1≤63) (hmn:∀ i,i<m+1->∃ w x,(M' i).nm=[.inr w,.inl x]) (hsn:∀ i,i<n->∃ w x c,(S i).nk=[.inr w,.inl x,.inl c]) (hnn:n≤250)
  (h6:∀ H',Same H H'->Q (.bl true) H'):Isp_fAm vs H Q
def sp_fAm (_:PySem.W.Frag):Sp:=fun vs H Q _=>Isp_fAm vs H Q
section
variable {K:PySem.W.Frag} {vs:List V} {H:Hp} {Q:VK} {E:XK}
theorem xAwj (h:sp_fAc K vs H Q E):vs.length=2:=by obtain ⟨_,_,_,_,_,_,_,_,_,_,_,_,_,rfl,_⟩:=h;rfl
theorem xAwk (h:sp_fAl K vs H Q E):vs.length=2:=by obtain ⟨_,_,_,_,rfl,_⟩:=h;rfl
theorem xAwl (h:sp_fAk K vs H Q E):vs.length=3:=by obtain ⟨_,_,_,_,_,_,_,_,_,_,_,_,_,_,_,_,_,_,rfl,_⟩:=h;rfl
theorem xAwm (h:sp_fAm K vs H Q E):vs.length=3:=by obtain ⟨_,_,_,_,_,_,_,_,_,_,_,_,_,_,_,_,_,_,rfl,_⟩:=h;rfl
end
theorem xAqk {H:Hp} {M':Nat->Mk} {m:Nat} {pl:Bool} {w:Addr} (h:∀ z,(M' m).vl=some z->DT H (.ref w) (pr ((M' m).kd,plD M' pl m))):DTs H (List.replicate (if (!decide (vlV (M' m).vl=V.non))=true then (1:Int) else 0).toNat [V.ref w]).flatten ((((tlQ M' pl (some m)).map fun d=>((M' m).kd,d)).toList).map pr):=by
 unfold tlQ;dsimp only
 cases e:(M' m).vl with
 | none=>exact .nil
 | some z=>exact .cons (h z e) .nil
theorem xAjc {H:Hp} {ys:List V} {es:List PyData} (h:DTs H ys es):∀ {xs:List V} {ds:List PyData},DTs H xs ds->DTs H (xs++ys) (ds++es)
 | _,_,.nil=>h
 | _,_,.cons a t=>.cons a (xAjc h t)
theorem xAql {c:Bool} {w:Addr}:(List.replicate (if c=true then (1:Int) else 0).toNat [V.ref w]).flatten.length≤1:=by cases c <;> exact jz rfl
theorem tlP_el {M:Nat->Mk} {pl:Bool} {js l:List Nat} {p:Nat} {x:Str×PyData} (h:x∈tlP M pl js l p):∃ k∈l,x=((M k).kd,plD M pl k)/\(M k).vl≠none:=by
 obtain ⟨kd,_,h2⟩:=yy.mp h;have e1:=xAiu h2;unfold tlF at h2
 cases ht:tell M js l kd p with
 | none=>rw [ht] at h2;cases h2
 | some k =>
  rw [ht] at h2;have h2:Option.map (fun d=>(kd,d)) (if (M k).vl=none then none else some (plD M pl k))=some x:=h2
  by_cases z:(M k).vl=none
  ·rw [if_pos z] at h2;cases h2
  ·rw [if_neg z] at h2
   cases h2;exact ⟨k,(xAdc ht).1,by rw [(xAdc ht).2],z⟩
structure PrOk (pl:Bool) (x:Str×PyData):Prop where
 str:PyData.strOk x.1=true
 lay:x.2.canLay0=true
 dep:x.2.depth≤1
 kind:if pl then ∃ w i,x.2=.tuple [.str w,.int i] else ∃ z,x.2=.str z
theorem xAgr {pl:Bool} {ps:List (Str×PyData)} (h:∀ x∈ps,PrOk pl x):KeysAre (ps.map pr) 3:=by
 refine ⟨xAbh fun d hd=>?_,fun d hd=>?_,fun a ha b hb=>?_,fun d hd=>?_⟩
 ·obtain ⟨x,hx,rfl⟩:=qk.mp hd
  show (PyData.strOk x.1&&(x.2.canLay0&&true))=true;rw [(h x hx).str,(h x hx).lay];rfl
 ·obtain ⟨x,hx,rfl⟩:=qk.mp hd
  exact trivial
 ·obtain ⟨x,hx,rfl⟩:=qk.mp ha
  obtain ⟨y,hy,rfl⟩:=qk.mp hb;have h1:=(h x hx).kind;have h2:=(h y hy).kind;unfold pr
  cases pl with
  | true =>
   obtain ⟨w,i,e1⟩:=h1;obtain ⟨w',i',e2⟩:=h2;rw [e1,e2];rfl
  | false =>
   obtain ⟨w,e1⟩:=h1;obtain ⟨w',e2⟩:=h2;rw [e1,e2];rfl
 ·obtain ⟨x,hx,rfl⟩:=qk.mp hd
  have:=(h x hx).dep;show PyData.depthAll [.str x.1,x.2]+1≤60
  simp only [PyData.depthAll,PyData.depth]
  omega
theorem xAoz {H:Hp} {xs:List V} {ds:List PyData} (h:DTs H xs ds):∀ {ix:List Nat},(∀ i∈ix,i<ds.length)->DTs H (ix.map fun i=>xs.getD i .non) (ix.map fun i=>ds.getD i .none)
 | [],_=>.nil
 | i::ix,hi=>by
  have h1:i<ds.length:=hi i qp
  have h2:i<xs.length:=by rw [DTs.len h];exact h1
  refine .cons ?_ (xAoz h fun j hj=>hi j (qr _ hj));have:=xAmo h (qi h2) (qi h1);show DT H (xs.getD i .non) (ds.getD i .none);rw [qo,qo,qi h2,qi h1];exact this
theorem xAcg {pl:Bool} {ps:List (Str×PyData)} (h:∀ x∈ps,PrOk pl x):(PyData.list (ps.map pr)).canLay0=true:=(xAgr h).lay
theorem xAqm {l:List PyData} (h:∀ d∈l,d.depth≤60):(PyData.list l).depth≤64:=by
 have:PyData.depthAll l≤60:=by
  induction l with
  | nil=>exact zm _
  | cons a l ih =>
   have h1:=h a qp;have h2:=ih fun d hd=>h d (qr _ hd)
   simp only [PyData.depthAll]
   omega
 show PyData.depthAll _+1≤64;omega
theorem xAnh {pl:Bool} {ps:List (Str×PyData)} (h:∀ x∈ps,PrOk pl x):(PyData.list (ps.map pr)).depth≤64:=xAqm (xAgr h).deep
theorem xAwn:∀ {xs ys:List PyData},xs.Perm ys->(∀ a∈ys,∀ b∈ys,sk a b=true)->(xs.Pairwise fun a b=>ltD b a=false)->(ys.Pairwise fun a b=>ltD b a=false)->xs=ys
 | [],ys,p,_,_,_=>(jx.mp p).symm
 | x::xs,[],p,_,_,_=>absurd p.length_eq (by simp)
 | x::xs,y::ys,p,hs,hx,hy=>by
  have e:x=y:=by
   by_cases e:x=y
   ·exact e
   have h1:y∈xs:=by
    rcases qw.mp (p.mem_iff.mpr qp) with z | z
    ·exact absurd z.symm e
    ·exact z
   have h2:x∈ys:=by
    rcases qw.mp (p.mem_iff.mp qp) with z | z
    ·exact absurd z e
    ·exact z
   exact xAia x y (hs x (qr _ h2) y qp) ((zw.mp hy).1 x h2) ((zw.mp hx).1 y h1)
  subst e;rw [xAwn ((jy x).mp p) (fun a ha b hb=>hs a (qr _ ha) b (qr _ hb)) (zw.mp hx).2 (zw.mp hy).2]
theorem xAsi {ds:List PyData} {ix ix2:List Nat} (one:∀ a∈ds,∀ b∈ds,sk a b=true) (h1:SortIx ds ix) (h2:SortIx ds ix2):(ix.map fun i=>ds.getD i .none)=ix2.map fun i=>ds.getD i .none:=by
 have key:∀ {ix:List Nat},SortIx ds ix->(ix.map fun i=>ds.getD i .none)=ix.map (keyAt ds):=fun h=>yc fun i hi=>by
  have:i<ds.length:=ql.mp (h.1.mem_iff.mp hi);unfold keyAt;rw [qo,qo,qi this];rfl
 have pm:∀ {ix:List Nat},SortIx ds ix->(ix.map (keyAt ds)).Perm ds:=fun {ix} h=>by
  rw [← key h];refine (h.1.map _).trans (.of_eq ?_);apply wp;intro i;rw [qt]
  by_cases hi:i<ds.length
  ·rw [wa hi,qi hi]
   show some (ds.getD i .none)=_;rw [qo,qi hi];rfl
  ·rw [List.getElem?_eq_none (by simpa using hi),List.getElem?_eq_none (by omega)];rfl
 rw [key h1,key h2];have p2:=pm h2;exact xAwn ((pm h1).trans p2.symm) (fun a ha b hb=>one a (p2.mem_iff.mp ha) b (p2.mem_iff.mp hb)) h1.2 h2.2
theorem TDk.an {nk:Nat->List Key} {f:Nat->List PyData} {B:Addr->Prop} {Z:Hp} {kvs:List (KD×V×V)} {js:List Nat} (h:TDk nk f B Z kvs js):AN (NM nk Z) (kvs.map (·.2.1)) js:=by
 refine ⟨by rw [qj,h.len],fun j v i h1 h2=>?_⟩;rw [qt] at h1
 cases e:kvs[j]? with
 | none=>rw [e] at h1;cases h1
 | some x =>
  rw [e] at h1;cases h1;exact (h.ent j x i e h2).2.1
theorem xAjd {M:Nat->Mk} {js:List Nat} {kd:Str} {p:Nat}:∀ (l:List Nat) (acc:Option Nat),(l.foldl (fun acc i=>if (M i).kd=kd/\cvr js (M i) p=true then some i else acc) acc).isSome=true↔acc.isSome=true\/∃ k∈l,(M k).kd=kd/\cvr js (M k) p=true
 | [],acc=>⟨.inl,fun h=>h.elim id fun ⟨_,z,_⟩=>nomatch z⟩
 | i::l,acc=>by
  rw [wj,xAjd l]
  by_cases z:(M i).kd=kd/\cvr js (M i) p=true
  ·rw [if_pos z]
   exact ⟨fun _=>.inr ⟨i,qp,z⟩,fun _=>.inl rfl⟩
  ·rw [if_neg z]
   constructor
   ·rintro (h | ⟨k,h1,h2⟩)
    ·exact .inl h
    ·exact .inr ⟨k,qr _ h1,h2⟩
   ·rintro (h | ⟨k,h1,h2⟩)
    ·exact .inl h
    ·rcases qw.mp h1 with y | y
     ·subst y;exact absurd h2 z
     ·exact .inr ⟨k,y,h2⟩
theorem xAsj {M:Nat->Mk} {js:List Nat} {kd:Str} {p m:Nat} {pt:List Key}:(tell M js (marksP M m pt) kd p).isSome=true↔∃ k,k<m/\(M k).pt=pt/\(M k).kd=kd/\cvr js (M k) p=true:=by
 unfold tell;rw [xAjd];constructor
 ·rintro (h | ⟨k,h1,h2,h3⟩)
  ·cases h
  ·obtain ⟨h4,h5⟩:=qv.mp h1
   exact ⟨k,ql.mp h4,of_decide_eq_true h5,h2,h3⟩
 ·rintro ⟨k,h1,h2,h3,h4⟩
  exact .inr ⟨k,qv.mpr ⟨ql.mpr h1,decide_eq_true h2⟩,h3,h4⟩
theorem xAsk {S:Nat->Sg} {n m:Nat} {M':Nat->Mk} {js l:List Nat} {p:Nat} (wm:WK S n M' m) (hmn:∀ i,i<m->∃ w x,(M' i).nm=[.inr w,.inl x]) (hl:∀ k∈l,k<m) {pl:Bool} (x:Str×PyData) (hx:x∈tlP M' pl js l p):PrOk pl x:=by
 obtain ⟨k,hk,rfl,hz⟩:=tlP_el hx;obtain ⟨_,l2,l3,l4⟩:=wm.lay k (hl k hk);obtain ⟨w,x,en⟩:=hmn k (hl k hk)
 cases pl with
 | true=>exact ⟨l3,l2,xAcc _,w,x,by show tD (M' k).nm=_;rw [en];rfl⟩
 | false =>
  cases e:(M' k).vl with
  | none=>exact absurd e hz
  | some z =>
   have ep:plD M' false k=.str z:=by unfold plD;rw [if_neg (by decide),e]
   exact ⟨l3,by rw [ep];exact l4 z e,by rw [ep];exact zm _,z,ep⟩
theorem xApa {M:Nat->Mk} {pl:Bool} {js l:List Nat} {p:Nat} {ps:List (Str×PyData)} (pm:ps.Perm (tlP M pl js l p)):ps.length≤l.length:=by
 rw [pm.length_eq];refine qh (List.length_filterMap_le _ _) ?_;rw [(xAbb _).length_eq];exact qh (xAdl _ []) (j9 (yu _))
theorem xAsl {K:PySem.W.Frag} {M:Nat->Mk} {pl:Bool} {js l:List Nat} {p:Nat} {Y Y1:Hp} {z1:Addr} {y:List V} {ps:List (Str×PyData)} {ix:List Nat} (dy:DTs Y y (ps.map pr)) (pm:ps.Perm (tlP M pl js l p)) (s:Same Y Y1) (six:SortIx (ps.map pr) ix) (e:Y1 z1=some (.lst (ix.map fun i=>y.getD i .non))):DV K Y1 (.ref z1) (.list ((tlP M pl js l p).map pr)):=by
 have dd:=xAoz (dy.same s) (ix:=ix) fun i hi=>ql.mp (six.1.mem_iff.mp hi);rw [sort_P pm tlP_up six] at dd;exact .lst (SqL.of e) dd.dv
theorem xAcw {M:Nat->Mk} {m:Nat} {pt:List Key}:(marksP M m pt).length≤m:=qh (wb _ _) (j9 q9)
theorem xApb {M M':Nat->Mk} {pl:Bool} {js l:List Nat} {p:Nat} (h:∀ i∈l,M' i=M i):tlP M' pl js l p=tlP M pl js l p:=by
 have hk:∀ (l:List Nat) (acc:List Str),(∀ i∈l,M' i=M i)->l.foldl (fun ks i=>if (M' i).kd∈ks then ks else ks++[(M' i).kd]) acc=l.foldl (fun ks i=>if (M i).kd∈ks then ks else ks++[(M i).kd]) acc:=fun l=>by
  induction l with
  | nil=>exact fun _ _=>rfl
  | cons i l ih =>
   intro acc h;rw [wj,wj,h i qp];exact ih _ fun j hj=>h j (qr _ hj)
 have e:tlF M' pl js l p=tlF M pl js l p:=funext fun kd=>by
  unfold tlF;rw [show tell M' js l kd p=tell M js l kd p from xAgq h none,xAiw fun i hi=>h i (xAdc hi).1]
 unfold tlP kinds;rw [e,hk l [] h]
theorem lst_ok {pl:Bool} {l:List Nat} {g:Nat->List (Str×PyData)} (h:∀ i∈l,∀ x∈g i,PrOk pl x):PyData.canLayAll0 (l.map fun i=>.list ((g i).map pr))=true/\PyData.depthAll (l.map fun i=>.list ((g i).map pr))≤3:=by
 refine ⟨xAbh fun d hd=>?_,xAdz fun d hd=>?_⟩
 ·obtain ⟨i,hi,rfl⟩:=qk.mp hd
  exact xAcg (h i hi)
 ·obtain ⟨i,hi,rfl⟩:=qk.mp hd
  show PyData.depthAll _+1≤3;refine yi (xAdz fun d hd=>?_);obtain ⟨x,hx,rfl⟩:=qk.mp hd;have:=(h i hi x hx).dep;show PyData.depthAll [.str x.1,x.2]+1≤2
  simp only [PyData.depthAll,PyData.depth]
  omega
theorem TDk.dvs {K:PySem.W.Frag} {nk:Nat->List Key} {f:Nat->List PyData} {B:Addr->Prop} {Z:Hp} {kvs:List (KD×V×V)} {js:List Nat} (h:TDk nk f B Z kvs js):DVs K Z (kvs.map (·.2.2)) (js.map fun i=>.list (f i)):=by
 have key:∀ (js:List Nat) (kvs:List (KD×V×V)),TDk nk f B Z kvs js->DVs K Z (kvs.map (·.2.2)) (js.map fun i=>.list (f i)):=fun js=>by
  induction js with
  | nil =>
   intro kvs h;have:kvs=[]:=yk.mp h.len;subst this;exact .nil
  | cons i js ih =>
   intro kvs h
   cases kvs with
   | nil=>exact absurd h.len (by simp)
   | cons e kvs =>
    obtain ⟨_,_,a,zs,q3,_,q5,q6⟩:=h.ent 0 e i rfl rfl;refine .cons ?_ (ih kvs ⟨by have:=h.len;simpa using this,fun j e' i' h1 h2=>h.ent (j+1) e' i' (by simpa using h1) (by simpa using h2)⟩);show DV K Z e.2.2 (.list (f i));rw [q3];exact .lst (SqL.of q5) q6.dv
 exact key js kvs h
def oldM (M:Nat->Mk) (r:Mk):Nat->Mk
 | 0=>r
 | i+1=>M i
theorem WK.old {S:Nat->Sg} {n:Nat} {M:Nat->Mk} {m:Nat} {r:Mk} (W:WK S n M m) (hm:m<70) (up:∀ i,i<m->Lt2 r.ka r.kb (M i).ka (M i).kb) (sd:SdOk S n r.pt r.b/\SdOk S n r.pt r.e) (l:Lay r.pt/\Lay r.nm/\PyData.strOk r.kd=true/\∀ z,r.vl=some z->PyData.strOk z=true):WK S n (oldM M r) (m+1) where
 few:=hm
 up:=fun i j h1 h2=>match i,j,h1,h2 with
  | 0,j+1,_,h2=>up j (w6 h2)
  | i+1,j+1,h1,h2=>W.up i j (w6 h1) (w6 h2)
 sd:=fun i hi=>match i,hi with
  | 0,_=>sd
  | i+1,hi=>W.sd i (w6 hi)
 lay:=fun i hi=>match i,hi with
  | 0,_=>l
  | i+1,hi=>W.lay i (w6 hi)
theorem old_an {S:Nat->Sg} {M:Nat->Mk} {H:Hp} {r:Mk} {v:V} {ms:List V} {m:Nat} (h0:MN S (oldM M r) H v 0) (h:AN (MN S M H) ms (List.range m)):AN (MN S (oldM M r) H) ([v]++ms) (List.range (m+1)):=by
 rw [jv];refine AN.app (js:=[0]) (AN.snoc .nil h0) ⟨by rw [qj];exact h.1,fun j v i h1 h2=>?_⟩;rw [qt] at h2
 cases e:(List.range m)[j]? with
 | none=>rw [e] at h2;cases h2
 | some k =>
  rw [e] at h2;cases h2;obtain ⟨b,vp,vb,ve,vn,kq,q1,q2,q3,q4,q5,q6,q7⟩:=h.2 j v k h1 e;exact ⟨b,vp,vb,ve,vn,kq,q1,q2,q3,q4,q5,q6,q7⟩
theorem xAwo {C:Nat->Addr} {l:Addr}:putK (fkv C 9) (.inr "marks") (.ref l)=fkv (fun i=>if i=4 then l else C i) 9:=by
 unfold putK;have h:((fkv C 9).any fun kv=>decide (kv.1=.inr "marks"))=true:=vh.mpr ⟨(kN 4,.ref (C 4)),qk.mpr ⟨4,ql.mpr (by decide),rfl⟩,decide_eq_true rfl⟩;rw [if_pos h];unfold fkv;rw [wt];refine yc fun i hi=>?_;have hi:=ql.mp hi;show (if kN i=kN 4 then (kN i,V.ref l) else (kN i,V.ref (C i)))=(kN i,V.ref (if i=4 then l else C i))
 by_cases z:i=4
 ·subst z;rw [if_pos rfl,if_pos rfl]
 ·rw [if_neg (fun q=>z (xAos i hi 4 (by decide) q)),if_neg z]
theorem sc_fAh:FnScope ["place"] ["place"] (defScope s_fAh):=⟨rfl,rfl,rfl,by decide +kernel,rfl,by decide +kernel,by decide +kernel⟩
theorem sc_fAz:FnScope ["facts","part"] ["facts","part"] (defScope s_fAz):=⟨rfl,rfl,rfl,by decide +kernel,rfl,by decide +kernel,by decide +kernel⟩
theorem sc_fAb:FnScope ["seats","side"] ["seats","side"] (defScope s_fAb):=⟨rfl,rfl,rfl,by decide +kernel,rfl,by decide +kernel,by decide +kernel⟩
theorem sc_fAy:FnScope ["row"] ["row"] (defScope s_fAy):=⟨rfl,rfl,rfl,by decide +kernel,rfl,by decide +kernel,by decide +kernel⟩
theorem sc_fAi:FnScope ["mark"] ["mark"] (defScope s_fAi):=⟨rfl,rfl,rfl,by decide +kernel,rfl,by decide +kernel,by decide +kernel⟩
theorem sc_fAj:FnScope ["note"] ["note"] (defScope s_fAj):=⟨rfl,rfl,rfl,by decide +kernel,rfl,by decide +kernel,by decide +kernel⟩
theorem sc_fAe:FnScope ["_law_script","_law_k"] ["_law_script","_law_k"] (defScope s_fAe):=⟨rfl,rfl,rfl,by decide +kernel,rfl,by decide +kernel,by decide +kernel⟩
theorem xAwp:FnScope ["_law_cell","_law_k","_law_figure"] ["_law_cell","_law_k"] (defScope s_fAx):=⟨rfl,rfl,rfl,by decide +kernel,rfl,by decide +kernel,by decide +kernel⟩
theorem sc_fAp:FnScope ["_law_digits"] ["_law_digits"] (defScope s_fAp):=⟨rfl,rfl,rfl,by decide +kernel,rfl,by decide +kernel,by decide +kernel⟩
theorem xAsm:FnScope ["_law_facts_here","_law_found","_law_key"] ["_law_facts_here"] (defScope s_fAr):=⟨rfl,rfl,rfl,by decide +kernel,rfl,by decide +kernel,by decide +kernel⟩
theorem sc_fAl:FnScope ["_law_some","_law_kind"] ["_law_some","_law_kind"] (defScope s_fAl):=⟨rfl,rfl,rfl,by decide +kernel,rfl,by decide +kernel,by decide +kernel⟩
theorem xAwq:FnScope ["seats","begin","end","first"] ["seats","begin","end"] (defScope s_fBa):=⟨rfl,rfl,rfl,by decide +kernel,rfl,by decide +kernel,by decide +kernel⟩
theorem xAka:FnScope ["_law_number","_law_k","_law_free","_law_found","_law_mixed_up","_law_by_digits","_law_at"] ["_law_number","_law_k","_law_free"] (defScope s_fAw):=⟨rfl,rfl,rfl,by decide +kernel,rfl,by decide +kernel,by decide +kernel⟩
theorem xAwr:FnScope ["_law_digits","_law_some","_law_place"] ["_law_digits","_law_some"] (defScope s_fAs):=⟨rfl,rfl,rfl,by decide +kernel,rfl,by decide +kernel,by decide +kernel⟩
theorem xAsn:FnScope ["_law_cell","_law_letters","_law_word"] ["_law_cell"] (defScope s_fAt):=⟨rfl,rfl,rfl,by decide +kernel,rfl,by decide +kernel,by decide +kernel⟩
theorem xAso:FnScope ["places","followers","place"] ["places"] (defScope s_fAg):=⟨rfl,rfl,rfl,by decide +kernel,rfl,by decide +kernel,by decide +kernel⟩
theorem xAkb:FnScope ["facts","part","row","seats","telling","mark","over","between"] ["facts","part","row"] (defScope s_fAa):=⟨rfl,rfl,rfl,by decide +kernel,rfl,by decide +kernel,by decide +kernel⟩
theorem sc_fAq:FnScope ["_law_digits","_law_names"] ["_law_digits","_law_names"] (defScope s_fAq):=⟨rfl,rfl,rfl,by decide +kernel,rfl,by decide +kernel,by decide +kernel⟩
theorem xAkc:FnScope ["_law_digits","_law_facts_here","_law_part","_law_name","_law_key","_law_names","_law_behind","_law_k","_law_sign","_law_lives"] ["_law_digits","_law_facts_here","_law_part","_law_name","_law_key","_law_names"] (defScope s_fAo):=⟨rfl,rfl,rfl,by decide +kernel,rfl,by decide +kernel,by decide +kernel⟩
theorem xAni:FnScope ["places","followers","row","to_come","name"] ["places"] (defScope s_fBb):=⟨rfl,rfl,rfl,by decide +kernel,rfl,by decide +kernel,by decide +kernel⟩
theorem xAnj:FnScope ["_law_digits","_law_facts_here","_law_part","_law_name","_law_key","_law_names","_law_begin","_law_end","_law_word","_law_value"] ["_law_digits","_law_facts_here","_law_part","_law_name","_law_key","_law_names"] (defScope s_fAf):=⟨rfl,rfl,rfl,by decide +kernel,rfl,by decide +kernel,by decide +kernel⟩
theorem sc_fBe:FnScope ["facts","part"] ["facts","part"] (defScope s_fBe):=⟨rfl,rfl,rfl,by decide +kernel,rfl,by decide +kernel,by decide +kernel⟩
theorem xAdd:FnScope ["_law_script","_law_first","_law_roll_here","_law_parts","_law_free","_law_facts_here","_law_word","_law_names","_law_part","_law_key","_law_k","_law_digits","_law_number","_law_name"] ["_law_script","_law_first","_law_roll_here","_law_parts"] (defScope s_fAn):=⟨rfl,rfl,rfl,by decide +kernel,rfl,by decide +kernel,by decide +kernel⟩
theorem xAws:FnScope ["facts","part","lives"] ["facts","part"] (defScope s_fBd):=⟨rfl,rfl,rfl,by decide +kernel,rfl,by decide +kernel,by decide +kernel⟩
theorem xAsp:FnScope ["facts","part","begin","end","row","between"] ["facts","part","begin","end"] (defScope s_fBc):=⟨rfl,rfl,rfl,by decide +kernel,rfl,by decide +kernel,by decide +kernel⟩
theorem xAhi:FnScope ["facts","part","place","row","seats","telling","told","name","marks"] ["facts","part","place"] (defScope s_fAd):=⟨rfl,rfl,rfl,by decide +kernel,rfl,by decide +kernel,by decide +kernel⟩
theorem xAhj:FnScope ["facts","part","seats","alive","told","note","between","under"] ["facts","part"] (defScope s_fAu):=⟨rfl,rfl,rfl,by decide +kernel,rfl,by decide +kernel,by decide +kernel⟩
theorem sc_fAc:FnScope ["facts","part"] ["facts","part"] (defScope s_fAc):=⟨rfl,rfl,rfl,by decide +kernel,rfl,by decide +kernel,by decide +kernel⟩
theorem sc_fAv:FnScope ["facts","part"] ["facts","part"] (defScope s_fAv):=⟨rfl,rfl,rfl,by decide +kernel,rfl,by decide +kernel,by decide +kernel⟩
theorem xAei:FnScope ["_law_facts_here","_law_later","_law_mark","_law_before","_law_told_values","_law_told_names","_law_names_before","_law_stretch_here","_law_name","_law_due","_law_due_names"] ["_law_facts_here","_law_later","_law_mark"] (defScope s_fAk):=⟨rfl,rfl,rfl,by decide +kernel,rfl,by decide +kernel,by decide +kernel⟩
theorem xAfs:FnScope ["_law_facts_here","_law_later","_law_mark","_law_before","_law_told_values","_law_stretch_here","_law_elder","_law_one","_law_name","_law_due"] ["_law_facts_here","_law_later","_law_mark"] (defScope s_fAm):=⟨rfl,rfl,rfl,by decide +kernel,rfl,by decide +kernel,by decide +kernel⟩
theorem xAde:FnScope ["_law_script","_law_roll_here","_law_parts","_law_facts_here","_law_names","_law_digits","_law_begin","_law_end","_law_kind","_law_value","_law_later","_law_elder","_law_part"] ["_law_script"] (defScope s_fBf):=⟨rfl,rfl,rfl,by decide +kernel,rfl,by decide +kernel,by decide +kernel⟩
section
variable {P:Program} {w:World} {K:PySem.W.Frag} {mg:Str->Option Value} {base:Heap} {d:Adr} {tk:Str->Tok}
theorem ok_fAh (T:Txt K mg d tk):FnOk P w K mg base CX0 1 d.fAh d.fAhd ["place"] (sp_fAh K):=by
 refine T.F_fAh.ok sc_fAh (fun vs H Q E h=>xAuu h) (fun cdv A outer s H vs Q E hr h=>?_);have hu:(A.deeper (envOfC "key_of_place" (defScope s_fAh) s.heap.objs.size d.fAh cdv)).units<cLine:=hr.units0;refine ⟨_,(@xAai _ _ _ (@xAar _ _ _ _ (@pxt _ _ _ _ _ _ _ (@pq _ 0 _ _ rfl)))),?_⟩;obtain ⟨v,nk,bh,D,k,rfl,pl,kk⟩:=h;obtain ⟨b,vn,vb,vk,rfl,e1,e2,e3,e4⟩:=pl;exact ⟨_,rfl,b,_,2,_,rfl,rfl,SqT.of e1,rfl,kk vk e4⟩
theorem ok_fAz (T:Txt K mg d tk):FnOk P w K mg base CX0 1 d.fAz d.fAzd ["facts","part"] (sp_fAz K):=by
 refine T.F_fAz.ok sc_fAz (fun vs H Q E h=>xAvn h) (fun cdv A outer s H vs Q E hr h=>?_);have hu:(A.deeper (envOfC "signs_in" (defScope s_fAz) s.heap.objs.size d.fAz cdv)).units<cLine:=hr.units0;have hu1:(A.deeper (envOfC "signs_in" (defScope s_fAz) s.heap.objs.size d.fAz cdv)).units+1<cLine:=hu_of hr;refine ⟨_,(@xAai _ _ _ (@xAar _ _ _ _ (@xAbs _ _ _ _ _ _ _ (["fact"]) ([("part",1)]) _ _ _ _ _ rfl (@xAav _ _ _ _ (@xAbo _ _ _ _ _ _ hu1 (@pq _ 0 _ _ rfl) (@xAal _ _ _ _) (fun _ _=>rfl))) ⟨rfl,by decide +kernel,by decide +kernel⟩ (xAca (defScope s_fAz) ["facts","part"] rfl rfl (fun _ h=>xAbi h) (by decide +kernel) (by decide +kernel) (by decide +kernel)) (fun _ _ _=>(@xAaq _ _ (0) _ (by show List.Nodup (["fact","part"]:List Str);decide +kernel) rfl (Or.inl rfl) (.inr rfl))) (fun _=>xAas rfl) (fun _ _ _=>(@xAdh _ _ _ (@xAao _ _ _ _ _ _ _ _ (xAhx (K:=K) rfl (hu64 hr)) (@pe_ix _ _ _ _ _ _ _ (xAbv (K:=K) rfl) (@pq _ 0 _ _ rfl) (@xAah _ _ _ _) (fun _ _=>rfl)) (@pv _ 1 _ _ rfl (Or.inr (Or.inl rfl)) rfl rfl) (xAat _)))) (fun _ _ _=>(@pq _ 0 _ _ rfl)) (by intro _;rfl)))),?_⟩;obtain ⟨fa,vp,pt,S,n,rfl,⟨kvs0,la,vs,rd,hval,hla,an,W⟩,gvp,hlay,kk⟩:=h
 have hvl:vs.length=n:=by rw [an.1,q9]
 have few:=W.few;refine ⟨_,rfl,fa,.ref la,rfl,.inl ⟨kvs0,.inr "signs",rd,rfl,hval.symm⟩,la,rfl,⟨_,SqL.of hla⟩,xAdq (xs:=vs) (big2 (by omega)) (fun j ys H'=>H'=H/\AN (SN S H) ys (((List.range n).take j).filter (mineS S pt))) ⟨rfl,.nil⟩ (fun _ _ H' s'=>by rw [s'.1];exact SqL.of hla) (fun j x ys H' K1 K0 hx s' k1 k0=>?_) fun H1 lp ys s' hy hq=>?_⟩
 ·obtain ⟨rfl,ay⟩:=s'
  obtain ⟨i,ei,sn⟩:=an.at hx;have hin:i<n:=ql.mp (zk ei);have sn':=sn;obtain ⟨b,vq,vn,vb,kq,vg,rfl,h1,h2,h3,h4,h5,h6⟩:=sn
  have tk:(List.range n).take (j+1)=(List.range n).take j++[i]:=by rw [z8,ei];rfl
  refine ⟨_,rfl,b,_,0,_,rfl,rfl,SqT.of h1,rfl,_,rfl,tD (S i).pt,tD pt,(gk_td h2).dv,(gk_td gvp).dv,(W.lay i hin).2,hlay,qh (ww _ _) (qh (xAcc _) (by decide)),_,rfl,?_⟩;have eqp:(if false=true then !PyData.eqv (tD (S i).pt) (tD pt) else PyData.eqv (tD (S i).pt) (tD pt))=decide ((S i).pt=pt):=xAem _ _
  by_cases hp:(S i).pt=pt
  ·refine itT (by rw [eqp];exact decide_eq_true hp) ?_
   refine ⟨_,rfl,k1 _ _ ⟨rfl,?_⟩⟩;rw [tk];exact AN.pick (vs:=vs) ay sn' (xAau.mpr hp)
  ·refine itF (by rw [eqp];exact decide_eq_false hp) ?_
   refine k0 _ ⟨rfl,?_⟩;rw [tk];exact ay.skip fun z=>hp (xAau.mp z)
 obtain ⟨rfl,ay⟩:=s';rw [hvl,v9 (by rw [q9];exact qg _)] at ay;have n1:Same H1 (upd H1 lp (.lst ys)):=Same.new hq;exact kk _ lp ys n1 hq xAae (ay.imp fun v i g=>SN.tups g n1.tups)
theorem ok_fAb (T:Txt K mg d tk):FnOk P w K mg base CX0 1 d.fAb d.fAbd ["seats","side"] (sp_fAb K):=by
 refine T.F_fAb.ok sc_fAb (fun vs H Q E h=>xAvq h) (fun cdv A outer s H vs Q E hr h=>?_);have hu:(A.deeper (envOfC "place_of_side" (defScope s_fAb) s.heap.objs.size d.fAb cdv)).units<cLine:=hr.units0;refine ⟨_,(@xAdi _ _ _ _ _ (@ps_if _ _ _ _ _ _ _ _ (@xAec _ _ _ (@PW.pt _ _ _ (@pw_or _ _ _ _ _ _ _ (@xAao _ _ _ _ _ _ _ _ op_isN (@pq _ 1 _ _ rfl) (@xAcx _ _ _) (xAat _)) (@xAqo _ _ _ _ (@xAao _ _ _ _ _ _ _ _ (xAol (hu2 hr)) (@pxt _ _ _ _ _ _ _ (@pq _ 1 _ _ rfl)) (@pq _ 0 _ _ rfl) rfl))))) (@xAai _ _ _ (@xAar _ _ _ _ (@xAay _ _ _ _ _ _ _ _ _ xAon rfl T.b_len boot_len (@xAaa _ _ _ _ _ (@pq _ 0 _ _ rfl) (@xAac _) rfl) (by decide) (by decide) rfl rfl))) (@xAbl _)) (@xAai _ _ _ (@xAar _ _ _ _ (@pe_op _ _ _ _ _ _ _ _ xAfa (@xAbd _ _ _ _ _ _ (hu2 hr) (@pq _ 0 _ _ rfl) (@pxt _ _ _ _ _ _ _ (@pq _ 1 _ _ rfl)) (fun _ _=>rfl)) (@xAkf _ _ _ _ _ _ _ _ (@xAao _ _ _ _ _ _ _ _ op_eq (@pxt _ _ _ _ _ _ _ (@pq _ 1 _ _ rfl)) (@xAal _ _ _ _) (xAat _)) (@xAah _ _ _ _) (@xAah _ _ _ _)))))),?_⟩;obtain ⟨dq,kvs,S,js,v,d,rfl,edq,⟨hlen,hse⟩,gv,hin,kk⟩:=h
 match d,gv,hin with
 | none,gv,_ =>
  have gv:v=.non:=gv;subst gv;refine ⟨fun _ _=>False,⟨fun b H'=>b=true/\H'=H,⟨_,rfl,rfl,_,rfl,itT rfl ⟨rfl,rfl⟩⟩,?_⟩,fun _ _ z=>z.elim⟩;rintro b H' ⟨rfl,rfl⟩;refine itT rfl ⟨_,rfl,dq,kvs,rfl,edq,?_⟩;rw [hlen];exact kk
 | some (i,b),gv,hin =>
  obtain ⟨a,vn,rfl,ea,nm⟩:=gv;have hi:=hin i b rfl;have hv:=hse i hi;refine ⟨fun σ' H'=>σ'=[some (.ref dq),some (.ref a)]/\H'=H,⟨fun b H'=>b=false/\H'=H,⟨_,rfl,rfl,_,rfl,itF rfl ⟨_,rfl,a,_,0,_,rfl,rfl,SqT.of ea,rfl,_,rfl,dq,kvs,.tup (nkS S i),rfl,.inl edq,nm,_,rfl,?_,rfl⟩⟩,?_⟩,?_⟩
  ·rw [hv];rfl
  ·rintro b' H' ⟨rfl,rfl⟩
   exact itF rfl ⟨rfl,rfl⟩
  rintro σ' H' ⟨rfl,rfl⟩;refine ⟨_,rfl,_,rfl,a,_,0,_,rfl,rfl,SqT.of ea,rfl,dq,kvs,.tup (nkS S i),_,rfl,.inl edq,nm,hv,_,rfl,a,_,1,_,rfl,rfl,SqT.of ea,rfl,rfl,_,rfl,?_⟩
  cases b with
  | true=>exact itT (decide_eq_true rfl) ⟨_,_,rfl,rfl,kk⟩
  | false=>exact itF (decide_eq_false (fun z=>absurd (V.str.inj z) (by decide +kernel))) ⟨_,_,rfl,rfl,by show Q (V.int ((js.idxOf i:Int)+0)) _;rw [Int.add_zero];exact kk⟩
theorem ok_fAy (T:Txt K mg d tk):FnOk P w K mg base CX0 1 d.fAy d.fAyd ["row"] (sp_fAy K):=by
 refine T.F_fAy.ok sc_fAy (fun vs H Q E h=>xAvp h) (fun cdv A outer s H vs Q E hr h=>?_);have hu:(A.deeper (envOfC "seats_in" (defScope s_fAy) s.heap.objs.size d.fAy cdv)).units<cLine:=hr.units0;refine ⟨_,(@xAai _ _ _ (@xAar _ _ _ _ (@xAbn _ _ _ _ _ _ _ _ _ (xAgh hr.hd (hu4 hr)) rfl T.b_dict boot_dict (@xAaa _ _ _ _ _ (@xAbs _ _ _ _ _ _ _ (["seat","name"]) ([]) _ _ _ _ _ rfl (@xAti _ _ _ _ _ _ _ _ rfl T.b_enumerate (@xAaa _ _ _ _ _ (@pq _ 0 _ _ rfl) (@xAac _) rfl) rfl) ⟨rfl,by decide +kernel,by decide +kernel⟩ (caps0 (by decide +kernel)) (fun _ _ _=>(@pg_tup _ _ _ _ _ (2) rfl (@xAkg _ _ _ _ _ (@xAaq _ _ (0) _ (by show List.Nodup (["seat","name"]:List Str);decide +kernel) rfl (Or.inl rfl) (.inr rfl)) (@xAkg _ _ _ _ _ (@xAaq _ _ (1) _ (by show List.Nodup (["seat","name"]:List Str);decide +kernel) rfl (Or.inl rfl) (.inr rfl)) (@xAss _) rfl) rfl) rfl rfl)) (fun _=>xAks rfl rfl (by decide)) (fun _ _ _=>(@xAfy _)) (fun _ _ _=>(@xAam _ _ _ _ _ (@xAaa _ _ _ _ _ (@pq _ 1 _ _ rfl) (@xAaa _ _ _ _ _ (@pq _ 0 _ _ rfl) (@xAac _) rfl) rfl))) (by intro _;rfl)) (@xAac _) rfl) (by decide) (by decide) rfl rfl))),?_⟩;obtain ⟨p,zs,nk,js,rfl,ep,az,nd,inj,hl,kk⟩:=h;have hzl:zs.length=js.length:=az.1;refine ⟨_,rfl,p,rfl,⟨_,SqL.of ep⟩,xAtm (xs:=zs) (big2 (by omega)) (fun j us H'=>Same H H'/\∃ kvs,PrsV H' us kvs/\PKs nk (fun v i=>v=.int ((js.idxOf i:Nat):Int)) kvs (js.take j)) ⟨Same.refl _,[],trivial,trivial⟩ (fun _ _ H' s'=>SqL.of (s'.1 _ _ ep)) (fun j x us H' tp K1 K0 hx s' gp k1 k0=>?_) fun H1 lp us s' hy hq=>?_⟩
 ·obtain ⟨s',kvs,pr,pk⟩:=s'
  obtain ⟨i,ei,nm⟩:=az.at hx
  have tk:js.take (j+1)=js.take j++[i]:=by rw [z8,ei];rfl
  have hidx:js.idxOf i=j:=xAsb nd ei;have n1:Same H' (upd H' tp (.tup [.int j,x])):=Same.new gp;refine ⟨tp,_,rfl,SqT.of xAae,rfl,_,_,rfl,_,_,rfl,rfl,iteT (B:=K0 _) ?_⟩;generalize upd H' tp (.tup [.int j,x])=H2 at n1;refine ⟨_,rfl,_,rfl,szOk rfl,fun tq H3 g3 s3 e3=>k1 _ _ ⟨(s'.trans n1).trans s3,kvs++[(.tup (nk i),x,.int (j:Int))],PrsV.snoc (e:=(.tup (nk i),x,.int (j:Int))) ⟨tq,rfl,e3,NM.tups nm ((s'.trans n1).trans s3).tups⟩ (pr.tups (n1.trans s3).tups),?_⟩⟩;rw [tk];exact pk.snoc rfl (by show V.int _=_;rw [hidx])
 obtain ⟨s1,kvs,pr,pk⟩:=s';rw [hzl,z7] at pk;have n1:Same H1 (upd H1 lp (.lst us)):=Same.new hq;have s01:=s1.trans n1;refine ⟨lp,us,kvs,rfl,SqL.of xAae,pr.tups n1.tups,by omega,fun dq H3 g3 s3 e3=>kk H3 dq _ (s01.trans s3) (s01.free g3) e3 ⟨?_,fun i hi=>?_⟩⟩
 ·rw [xAgl kvs [] (by rw [vf,xAmy pk];exact w5.mpr (nd.imp_of_mem fun {a b} ha hb h e=>h (inj a ha b hb (KD.tup.inj e)))),vf,xAqd pk]
 ·obtain ⟨v,h1,rfl⟩:=PKs.get (all:=js) inj (done:=[]) (acc:=[]) pk (fun i z=>nomatch z) (fun i h=>h) (fun i z=>nomatch z) i (.inr hi)
  exact h1
theorem ok_fAi (T:Txt K mg d tk):FnOk P w K mg base CX0 1 d.fAi d.fAid ["mark"] (sp_fAi K):=by
 refine T.F_fAi.ok sc_fAi (fun vs H Q E h=>xAvz h) (fun cdv A outer s H vs Q E hr h=>?_);have hu:(A.deeper (envOfC "key_of_mark" (defScope s_fAi) s.heap.objs.size d.fAi cdv)).units<cLine:=hr.units0;refine ⟨_,(@xAai _ _ _ (@xAar _ _ _ _ (@pxt _ _ _ _ _ _ _ (@pq _ 0 _ _ rfl)))),?_⟩;obtain ⟨v,S,M,i,rfl,mn,kk⟩:=h;obtain ⟨b,vp,vb,ve,vn,kq,rfl,h1,h2,h3,h4,h5,h6⟩:=mn;exact ⟨_,rfl,b,_,6,_,rfl,rfl,SqT.of h1,rfl,kk _ (.tup h6 (.cons (.int _) (.cons (.int _) .nil)))⟩
theorem ok_fAj (T:Txt K mg d tk):FnOk P w K mg base CX0 1 d.fAj d.fAjd ["note"] (sp_fAj K):=by
 refine T.F_fAj.ok sc_fAj (fun vs H Q E h=>xAvw h) (fun cdv A outer s H vs Q E hr h=>?_);have hu:(A.deeper (envOfC "key_of_note" (defScope s_fAj) s.heap.objs.size d.fAj cdv)).units<cLine:=hr.units0;refine ⟨_,(@xAai _ _ _ (@xAar _ _ _ _ (@pxt _ _ _ _ _ _ _ (@pq _ 0 _ _ rfl)))),?_⟩;obtain ⟨v,S,N,i,rfl,nn,kk⟩:=h;obtain ⟨b,vp,vb,ve,vn,kq,rfl,h1,h2,h3,h4,h5,h6⟩:=nn;exact ⟨_,rfl,b,_,5,_,rfl,rfl,SqT.of h1,rfl,kk _ (.tup h6 (.cons (.int _) (.cons (.int _) .nil)))⟩
theorem ok_fAe (T:Txt K mg d tk):FnOk P w K mg base CX0 1 d.fAe d.fAed ["_law_script","_law_k"] (sp_fAe K):=by
 refine T.F_fAe.ok sc_fAe (fun vs H Q E h=>xAvb h) (fun cdv A outer s H vs Q E hr h=>?_);have hu:(A.deeper (envOfC "_law_cell_at" (defScope s_fAe) s.heap.objs.size d.fAe cdv)).units<cLine:=hr.units0;refine ⟨_,(@xAad _ _ _ _ _ (@ps_if _ _ _ _ _ _ _ _ (@xAao _ _ _ _ _ _ _ _ op_lt (@pq _ 1 _ _ rfl) (@xAay _ _ _ _ _ _ _ _ _ xAbc rfl T.b_len boot_len (@xAaa _ _ _ _ _ (@pq _ 0 _ _ rfl) (@xAac _) rfl) (by decide) (by decide) rfl rfl) (xAat _)) (@xAai _ _ _ (@xAar _ _ _ _ (@pe_ix _ _ _ _ _ _ _ xAek (@pq _ 0 _ _ rfl) (@pq _ 1 _ _ rfl) (fun _ _=>rfl)))) (@xAbl _)) (@xAai _ _ _ (@xAar _ _ _ _ (@xAah _ _ _ _)))),?_⟩;obtain ⟨sp,ns,k,rfl,hs,hk,kk⟩:=h;refine ⟨_,rfl,_,rfl,sp,_,rfl,.inl hs,_,_,rfl,rfl,_,rfl,?_⟩
 by_cases hl:k<((List.map V.int ns).length:Nat)
 ·refine itT (decide_eq_true hl) ?_
  refine ⟨_,rfl,_,rfl,sp,_,_,rfl,rfl,hs,hk,hl,fun v hv=>?_⟩;obtain ⟨m,_,rfl⟩:=qk.mp hv;exact kk m
 ·exact itF (decide_eq_false hl) (kk 0)
theorem ok_fAx (T:Txt K mg d tk):FnOk P w K mg base CX0 1 d.fAx d.fAxd ["_law_cell","_law_k"] (sp_fAx K):=by
 refine T.F_fAx.ok xAwp (fun vs H Q E h=>xAvc h) (fun cdv A outer s H vs Q E hr h=>?_);have hu:(A.deeper (envOfC "_law_mix" (defScope s_fAx) s.heap.objs.size d.fAx cdv)).units<cLine:=hr.units0;refine ⟨_,(@xAad _ _ _ _ _ (@xAaj _ _ (2) _ _ _ _ xAwp.nd rfl (Or.inl rfl) (@pe_op _ _ _ _ _ _ _ _ xAbk (@pe_op _ _ _ _ _ _ _ _ xAji (@pe_op _ _ _ _ _ _ _ _ xAfa (@pe_op _ _ _ _ _ _ _ _ xAfa (@pe_op _ _ _ _ _ _ _ _ xAfa (@pe_op _ _ _ _ _ _ _ _ xAbk (@pq _ 0 _ _ rfl) (@xAah _ _ _ _)) (@pe_op _ _ _ _ _ _ _ _ xAji (@pe_op _ _ _ _ _ _ _ _ xAji (@xAah _ _ _ _) (@pq _ 1 _ _ rfl)) (@pq _ 1 _ _ rfl))) (@pe_op _ _ _ _ _ _ _ _ xAji (@pq _ 1 _ _ rfl) (@pq _ 1 _ _ rfl))) (@xAah _ _ _ _)) (@xAah _ _ _ _)) (@xAah _ _ _ _)) rfl (.inl rfl)) (@xAai _ _ _ (@xAar _ _ _ _ (@pe_op _ _ _ _ _ _ _ _ xAbk (@pe_op _ _ _ _ _ _ _ _ xAji (@pq _ 2 _ _ rfl) (@pq _ 2 _ _ rfl)) (@xAah _ _ _ _))))),?_⟩;obtain ⟨c,k,rfl,k0,k1,kk⟩:=h;have hm:0≤((c % 2147483647+7919 * k * k+k * k+1) * 48271) % 2147483629:=xAci _ (by decide);have hm2:((c % 2147483647+7919 * k * k+k * k+1) * 48271) % 2147483629<2147483629:=xAcp _ (by decide);refine ⟨_,rfl,_,_,rfl,rfl,(by show (0:Int)<2147483647;decide),_,rfl,_,_,rfl,rfl,.inl ⟨by decide,by decide⟩,_,rfl,_,_,rfl,rfl,.inr ⟨by omega,by omega⟩,_,_,rfl,rfl,_,rfl,_,rfl,_,_,rfl,rfl,.inl ⟨by omega,by omega⟩,_,_,rfl,rfl,_,_,rfl,rfl,_,_,rfl,rfl,.inr ⟨by decide,by decide⟩,_,_,rfl,rfl,(by show (0:Int)<2147483629;decide),?_⟩;exact ⟨_,rfl,_,rfl,_,_,rfl,rfl,.inl ⟨by omega,by omega⟩,_,_,rfl,rfl,(by show (0:Int)<2147483587;decide),kk _ (xAci _ (by decide))⟩
theorem ok_fAp (T:Txt K mg d tk):FnOk P w K mg base CX0 1 d.fAp d.fApd ["_law_digits"] (sp_fAp K):=by
 refine T.F_fAp.ok sc_fAp (fun vs H Q E h=>xAve h) (fun cdv A outer s H vs Q E hr h=>?_);have hu:(A.deeper (envOfC "_law_next" (defScope s_fAp) s.heap.objs.size d.fAp cdv)).units<cLine:=hr.units0;refine ⟨_,(@xAad _ _ _ _ _ (@ps_if _ _ _ _ _ _ _ _ (@xAao _ _ _ _ _ _ _ _ (xAgw hu) (@pq _ 0 _ _ rfl) (@xAan _ _ _ _ (@xAac _)) (xAat _)) (@xAai _ _ _ (@xAar _ _ _ _ (@xAah _ _ _ _))) (@xAbl _)) (@xAai _ _ _ (@xAar _ _ _ _ (@xAtb _ _ _ _ _ _ _ _ _ PySem.F.plainAttrs_list PySem.F.slot_list_pop PySem.F.type_list_pop xAtc (@pq _ 0 _ _ rfl) rfl rfl)))),?_⟩;obtain ⟨p,rfl,⟨ds,e,hd⟩,kk⟩:=h;refine ⟨_,rfl,szOk rfl,fun q H1 g1 s1 e1=>⟨p,q,_,rfl,rfl,SqL.of (s1 _ _ e),SqL.of e1,_,rfl,?_⟩⟩
 cases ds with
 | nil=>exact itT rfl (kk H1 0 (fun b o z=>s1 _ _ (xAfk _ _ z)) ⟨[],s1 _ _ e,hd⟩ (by decide) (by decide))
 | cons d ds =>
  refine itF rfl ?_;have hne:(d::ds)≠[]:=yw _ _;have hm:=hd _ (List.getLast_mem hne);refine ⟨_,rfl,.inl ⟨rfl,_,SqL.of (s1 _ _ e)⟩,p,_,.int ((d::ds).getLast hne),rfl,rfl,s1 _ _ e,?_,kk _ _ (fun b o z=>?_) ⟨(d::ds).dropLast,?_,fun x hx=>hd x (List.dropLast_subset _ hx)⟩ hm.1 hm.2⟩
  ·rw [qt,qj,← List.getLast?_eq_getElem?,List.getLast?_eq_some_getLast hne];rfl
  ·have nb:b≠p:=fun y=>by subst y;rw [xAhe] at z;cases z
   rw [xAag nb];rw [xAel nb] at z;exact s1 _ _ z
  ·rw [xAae,List.map_dropLast]
theorem ok_fAr (T:Txt K mg d tk):FnOk P w K mg base CX0 1 d.fAr d.fArd ["_law_facts_here"] (sp_fAr K):=by
 refine T.F_fAr.ok xAsm (fun vs H Q E h=>xAvt h) (fun cdv A outer s H vs Q E hr h=>?_);have hu:(A.deeper (envOfC "_law_copy" (defScope s_fAr) s.heap.objs.size d.fAr cdv)).units<cLine:=hr.units0;have hu1:(A.deeper (envOfC "_law_copy" (defScope s_fAr) s.heap.objs.size d.fAr cdv)).units+1<cLine:=hu_of hr;refine ⟨_,(@xAad _ _ _ _ _ (@xAaj _ _ (1) _ _ _ _ xAsm.nd rfl (Or.inl rfl) (@xApi _ _) rfl (.inl rfl)) (@xAad _ _ _ _ _ (@xAcn _ _ _ _ _ _ _ _ PassesOwn.never rfl (@xAus _ _ _ _ (@pq _ 0 _ _ rfl)) (@xAaq _ _ (2) _ xAsm.nd rfl (Or.inl rfl) (.inl rfl)) (@xAai _ _ _ (@xAkq _ _ _ _ _ _ _ _ _ hu1 (@pq _ 1 _ _ rfl) (@pq _ 2 _ _ rfl) (@xAbn _ _ _ _ _ _ _ _ _ xAfc rfl T.b_list boot_list (@xAaa _ _ _ _ _ (@xAbo _ _ _ _ _ _ hu1 (@pq _ 0 _ _ rfl) (@pq _ 2 _ _ rfl) (fun _ _=>rfl)) (@xAac _) rfl) (by decide) (by decide) rfl rfl) rfl)) (by intro _;rfl)) (@xAai _ _ _ (@xAar _ _ _ _ (@pq _ 1 _ _ rfl))))),?_⟩;obtain ⟨fa,F,X,rfl,rd,hX,kk⟩:=h;intro kq H1 g1 s1 e1
 have nkf:kq≠fa:=fun z=>by
  subst z;rcases rd with q | ⟨_,q⟩ <;> rw [g1] at q <;> cases q
 have nFf:∀ i,i<9->F i≠fa:=fun i hi=>(rd_ne rd (hX i hi)).symm;obtain ee | ⟨o,ee⟩:=Rd.same rd s1
 all_goals first
  | (refine ⟨_,rfl,fa,fkv F 9,rfl,.inl ⟨ee,fun o=>?_⟩⟩
     have y1:∀ a u,a≠fa->H a=some u->(upd H1 fa (.frz o (.dK (fkv F 9)))) a=some u:=fun a u n e=>by rw [xAag n];exact s1 _ _ e
     have e1Y:(upd H1 fa (.frz o (.dK (fkv F 9)))) kq=some (.dK []):=by rw [xAag nkf];exact e1
     have y3:(upd H1 fa (.frz o (.dK (fkv F 9)))) fa=some (.frz o (.dK (fkv F 9))):=xAae;clear ee e1 s1
     generalize upd H1 fa (.frz o (.dK (fkv F 9)))=Y at y1 e1Y y3 ⊢)
  | (refine ⟨_,rfl,fa,fkv F 9,rfl,.inr ⟨o,ee,?_⟩⟩
     have y1:∀ a u,a≠fa->H a=some u->H1 a=some u:=fun a u n e=>s1 _ _ e;have e1Y:=e1;have y3:=ee;clear ee e1 s1
     generalize H1=Y at y1 e1Y y3 ⊢)
 all_goals
  have hXY:∀ i,i<9->Y (F i)=some (.lst (X i)):=fun i hi=>y1 _ _ (nFf i hi) (hX i hi)
  have fresh:∀ {Z:Hp} {c:Addr},(∀ a u,a≠kq->Y a=some u->Z a=some u)->c≠kq->Z c=none->H c=none:=fun {Z c} s n e=>by
   cases q:H c with
   | none=>rfl
   | some u =>
    by_cases z:c=fa
    ·subst z
     rw [s _ _ n y3] at e;cases e
    ·rw [s _ _ n (y1 _ _ z q)] at e
     cases e
  refine xArx (fun j σ Z=>∃ (C:Nat->Addr) (u2:Option V),σ=[some (.ref fa),some (.ref kq),u2]/\(∀ a u,a≠kq->Y a=some u->Z a=some u)/\Z kq=some (.dK (fkv C j))/\(∀ i,i<j->H (C i)=none/\Z (C i)=some (.lst (X i))/\C i≠kq)/\∀ i,i<j->∀ i',i'<j->i<i'->C i≠C i')
   ⟨fun _=>fa,none,rfl,(fun _ _ _ e=>e),e1Y,(fun i z=>absurd z (zc i)),fun i z=>absurd z (zc i)⟩ (fun j σ Z ⟨_,_,_,s,_⟩=>s _ _ nkf.symm y3) ?_ ?_
  ·rintro j k v σ Z hx ⟨C,u2,rfl,sZ,eZ,hC,inC⟩
   have hj:j<9:=by have:=(ze.mp hx).1;rw [xAqc] at this;exact this
   have hk:k=kN j:=by
    unfold fkv at hx;rw [qt,wa hj] at hx;exact (congrArg Prod.fst (Option.some.inj hx)).symm
   subst hk
   have nF:F j≠kq:=fun z=>by have:=hX j hj;rw [z,g1] at this;cases this
   refine ⟨_,rfl,_,rfl,fa,.ref (F j),rfl,.inl ⟨fkv F 9,kN j,.inr ⟨o,sZ _ _ nkf.symm y3⟩,rfl,(xAdb F j hj).symm⟩,F j,X j,rfl,.inl (SqL.of (sZ _ _ nF (hXY j hj))),fun q Z1 g2 s2 e2=>?_⟩;have nq:q≠kq:=(xAab eZ g2).symm;have neC:∀ i,i<j->C i≠q:=fun i hi=>xAab (hC i hi).2.1 g2;refine ⟨_,rfl,_,rfl,kq,_,rfl,.inl ⟨fkv C j,kN j,s2 _ _ eZ,rfl,xAak (by unfold fkv;rw [qj,q9];omega),rfl⟩,?_⟩;refine ⟨fun i=>if i=j then q else C i,_,rfl,fun a u n e=>?_,?_,fun i h=>?_,fun i h i' h' e'=>?_⟩
   ·rw [xAag n];exact s2 _ _ (sZ a u n e)
   ·rw [xAae,xAgv _ (xAmw (qg _) hj),xAmp]
   ·show H (if i=j then q else C i)=none/\(upd Z1 kq _) (if i=j then q else C i)=some (.lst (X i))/\(if i=j then q else C i)≠kq
    by_cases z:i=j
    ·rw [if_pos z,xAag nq,z];exact ⟨fresh sZ nq g2,e2,nq⟩
    ·rw [if_neg z,xAag (hC i (by omega)).2.2];exact ⟨(hC i (by omega)).1,s2 _ _ (hC i (by omega)).2.1,(hC i (by omega)).2.2⟩
   ·show (if i=j then q else C i)≠(if i'=j then q else C i')
    rw [if_neg (show i≠j by omega)]
    by_cases z:i'=j
    ·rw [if_pos z];exact neC i (by omega)
    ·rw [if_neg z];exact inC i (by omega) i' (by omega) e'
  ·rintro σ Z ⟨C,u2,rfl,sZ,eZ,hC,inC⟩
   rw [xAqc] at eZ hC inC;refine ⟨_,rfl,kk Z kq C o (fun a u n e=>sZ _ _ (fun z=>by rw [z,g1] at e;cases e) (y1 _ _ n e)) (sZ _ _ nkf.symm y3) g1 eZ (fun i hi=>⟨(hC i hi).1,(hC i hi).2.1⟩) fun i h1 j h2 e=>?_⟩;rcases kj i j with z | z | z
   ·exact absurd e (inC i h1 j h2 z)
   ·exact z
   ·exact absurd e.symm (inC j h2 i h1 z)
theorem ok_fAl (T:Txt K mg d tk):FnOk P w K mg base CX0 1 d.fAl d.fAld ["_law_some","_law_kind"] (sp_fAl K):=by
 refine T.F_fAl.ok sc_fAl (fun vs H Q E h=>xAwk h) (fun cdv A outer s H vs Q E hr h=>?_);have hu:(A.deeper (envOfC "_law_others" (defScope s_fAl) s.heap.objs.size d.fAl cdv)).units<cLine:=hr.units0;refine ⟨_,(@xAai _ _ _ (@xAar _ _ _ _ (@xAbs _ _ _ _ _ _ _ (["_law_pair"]) ([("_law_kind",1)]) _ _ _ _ _ rfl (@xAav _ _ _ _ (@pq _ 0 _ _ rfl)) ⟨rfl,by decide +kernel,by decide +kernel⟩ (xAca (defScope s_fAl) ["_law_some","_law_kind"] rfl rfl (fun _ h=>xAbi h) (by decide +kernel) (by decide +kernel) (by decide +kernel)) (fun _ _ _=>(@xAaq _ _ (0) _ (by show List.Nodup (["_law_pair","_law_kind"]:List Str);decide +kernel) rfl (Or.inl rfl) (.inr rfl))) (fun _=>xAas rfl) (fun _ _ _=>(@xAdh _ _ _ (@xAao _ _ _ _ _ _ _ _ op_ne (@pe_ix _ _ _ _ _ _ _ (xAbv (K:=K) rfl) (@pq _ 0 _ _ rfl) (@xAah _ _ _ _) (fun _ _=>rfl)) (@pv _ 1 _ _ rfl (Or.inr (Or.inl rfl)) rfl rfl) (xAat _)))) (fun _ _ _=>(@pq _ 0 _ _ rfl)) (by intro _;rfl)))),?_⟩;obtain ⟨sp,xs,ps,kd,rfl,es,dx,hl,kk⟩:=h
 have hxl:xs.length=ps.length:=by rw [DTs.len dx,qj]
 refine ⟨_,rfl,sp,rfl,⟨_,SqL.of es⟩,xAdq (xs:=xs) (zv (xAak (by omega))) (fun i ys H'=>Same H H'/\DTs H' ys (((ps.take i).filter fun x=>decide (x.1≠kd)).map pr)) ⟨Same.refl _,.nil⟩ (fun i ys H' h=>SqL.of (h.1 _ _ es)) ?_ ?_⟩
 ·rintro i x ys H' K1 K0 hx ⟨s,dy⟩ k1 k0
  have hi:i<ps.length:=by rw [← hxl];exact (ze.mp hx).1
  cases ee:ps[i]? with
  | none=>rw [qi hi] at ee;cases ee
  | some e =>
   have hd:=xAmo dx hx (by rw [qt,ee];rfl:(ps.map pr)[i]?=some (pr e))
   have tk:ps.take (i+1)=ps.take i++[e]:=by rw [z8,ee];rfl
   have hd':=hd.same s
   cases hd with
   | tup eb t =>
    cases t with
    | cons t1 t2 =>
     cases t1
     cases t2 with
     | cons t2 t3 =>
     cases t3;refine ⟨_,rfl,_,_,0,.str e.1,rfl,rfl,SqT.of (s _ _ eb),rfl,_,rfl,rfl,_,rfl,ite2 (fun h0=>?_) fun h0=>?_⟩
     ·have h1:decide (e.1≠kd)=true:=by
       refine decide_eq_true fun z=>?_;rw [z] at h0
       simp at h0
      refine ⟨_,rfl,k1 _ _ ⟨s,?_⟩⟩;rw [tk,yd,jg (p:=fun x:Str×PyData=>decide (x.1≠kd)) h1,zx];exact xAfm hd' dy
     ·have h1:¬ decide (e.1≠kd)=true:=fun z=>h0 (by
       have:=of_decide_eq_true z
       simpa using this)
      refine k0 _ ⟨s,?_⟩;rw [tk,yd,jh (p:=fun x:Str×PyData=>decide (x.1≠kd)) h1];exact (zy _).symm▸dy
 rintro H' p ys ⟨s,dy⟩ _ g;rw [hxl,z7] at dy;exact kk _ p ys (s.up g) (s.free g) xAae (dy.same (Same.new g))
theorem ok_fBa (T:Txt K mg d tk) (gfAb:FnOk P w K mg base CX0 1 d.fAb d.fAbd ["seats","side"] (sp_fAb K)):FnOk P w K mg base CX0 2 d.fBa d.fBad ["seats","begin","end"] (sp_fBa K):=by
 refine T.F_fBa.ok xAwq (fun vs H Q E h=>xAvr h) (fun cdv A outer s H vs Q E hr h=>?_);have hu:(A.deeper (envOfC "stretch" (defScope s_fBa) s.heap.objs.size d.fBa cdv)).units<cLine:=hr.units0;refine ⟨_,(@xAad _ _ _ _ _ (@xAaj _ _ (3) _ _ _ _ xAwq.nd rfl (Or.inl rfl) (@xAaf _ _ _ _ _ _ _ _ _ _ _ _ _ _ _ _ gfAb (hr.mono (by decide)) rfl T.m_fAb T.k_fAb T.d_fAb .nil pass0 (@xAaa _ _ _ _ _ (@pq _ 0 _ _ rfl) (@xAaa _ _ _ _ _ (@pq _ 1 _ _ rfl) (@xAac _) rfl) rfl) (by decide) rfl rfl) rfl (.inl rfl)) (@xAai _ _ _ (@xAar _ _ _ _ (@xAam _ _ _ _ _ (@xAaa _ _ _ _ _ (@pq _ 3 _ _ rfl) (@xAaa _ _ _ _ _ (@xAay _ _ _ _ _ _ _ _ _ (xAnr rfl) rfl T.b_max boot_max (@xAaa _ _ _ _ _ (@pq _ 3 _ _ rfl) (@xAaa _ _ _ _ _ (@xAaf _ _ _ _ _ _ _ _ _ _ _ _ _ _ _ _ gfAb (hr.mono (by decide)) rfl T.m_fAb T.k_fAb T.d_fAb .nil pass0 (@xAaa _ _ _ _ _ (@pq _ 0 _ _ rfl) (@xAaa _ _ _ _ _ (@pq _ 2 _ _ rfl) (@xAac _) rfl) rfl) (by decide) rfl rfl) (@xAac _) rfl) rfl) (by decide) (by decide) rfl rfl) (@xAac _) rfl) rfl))))),?_⟩;obtain ⟨dq,kvs,S,js,vb,ve,b,e,rfl,edq,hse,gb,hb,ge,he,kk⟩:=h;refine ⟨_,rfl,_,rfl,dq,kvs,S,js,vb,b,rfl,edq,hse,gb,hb,?_⟩;refine ⟨_,rfl,_,rfl,_,rfl,_,rfl,dq,kvs,S,js,ve,e,rfl,edq,hse,ge,he,_,_,rfl,szOk rfl,fun q H' g s e'=>kk H' q s ?_⟩;rw [e']
 congr 5
 split <;> omega
theorem ok_fAw (T:Txt K mg d tk) (gfAx:FnOk P w K mg base CX0 1 d.fAx d.fAxd ["_law_cell","_law_k"] (sp_fAx K)):FnOk P w K mg base CX0 2 d.fAw d.fAwd ["_law_number","_law_k","_law_free"] (sp_fAw K):=by
 refine T.F_fAw.ok xAka (fun vs H Q E h=>xAvd h) (fun cdv A outer s H vs Q E hr h=>?_);have hu:(A.deeper (envOfC "_law_row" (defScope s_fAw) s.heap.objs.size d.fAw cdv)).units<cLine:=hr.units0;refine ⟨_,(@xAad _ _ _ _ _ (@xAaj _ _ (3) _ _ _ _ xAka.nd rfl (Or.inl rfl) (@xAan _ _ _ _ (@xAac _)) rfl (.inl rfl)) (@xAad _ _ _ _ _ (@xAaj _ _ (4) _ _ _ _ xAka.nd rfl (Or.inl rfl) (@xAaf _ _ _ _ _ _ _ _ _ _ _ _ _ _ _ _ gfAx (hr.mono (by decide)) rfl T.m_fAx T.k_fAx T.d_fAx .nil pass0 (@xAaa _ _ _ _ _ (@pq _ 0 _ _ rfl) (@xAaa _ _ _ _ _ (@pq _ 1 _ _ rfl) (@xAac _) rfl) rfl) (by decide) rfl rfl) rfl (.inl rfl)) (@xAdi _ _ _ _ _ (@xAaj _ _ (5) _ _ _ _ xAka.nd rfl (Or.inl rfl) (@pe_and _ _ _ _ _ _ _ (@pq _ 2 _ _ rfl) (@pe_one _ _ _ _ _ (@xAco _ _ _ _ _ _ _ _ op_ge (@pq _ 0 _ _ rfl) (@pe_op _ _ _ _ _ _ _ _ op_pow (@xAah _ _ _ _) (@xAah _ _ _ _)) (xAat _)))) rfl (.inl rfl)) (@xAad _ _ _ _ _ (@xAcn _ _ _ _ _ _ _ _ PassesOwn.never rfl (@xAey _ _ _ _ _ _ rfl T.b_range (@xAaa _ _ _ _ _ (@xAah _ _ _ _) (@xAac _) rfl) rfl) (@xAaq _ _ (6) _ xAka.nd rfl (Or.inl rfl) (.inl rfl)) (@xAai _ _ _ (@ps_if _ _ _ _ _ _ _ _ (@xAec _ _ _ (@PW.pt _ _ _ (@xAjh _ _ _ _ _ _ _ (@xAnn _ _ _ (@pq _ 5 _ _ rfl) (by intro _;rfl)) (@xAft _ _ _ _ (@xAao _ _ _ _ _ _ _ _ op_gt (@pq _ 0 _ _ rfl) (@xAah _ _ _ _) (xAat _)))))) (@xAad _ _ _ _ _ (@xAbm _ _ _ _ (@pe_bm _ _ _ _ _ _ _ _ _ _ _ _ PySem.F.plainAttrs_list PySem.F.slot_list_append PySem.F.type_list_append xAba (@pq _ 3 _ _ rfl) (@xAaa _ _ _ _ _ (@pe_op _ _ _ _ _ _ _ _ xAbk (@pq _ 0 _ _ rfl) (@xAah _ _ _ _)) (@xAac _) rfl) rfl rfl rfl rfl rfl) rfl) (@xAai _ _ _ (@xAaj _ _ (0) _ _ _ _ xAka.nd rfl (Or.inl rfl) (@pe_op _ _ _ _ _ _ _ _ xAst (@pq _ 0 _ _ rfl) (@xAah _ _ _ _)) rfl (.inl rfl)))) (@xAai _ _ _ (@xAbm _ _ _ _ (@pe_bm _ _ _ _ _ _ _ _ _ _ _ _ PySem.F.plainAttrs_list PySem.F.slot_list_append PySem.F.type_list_append xAba (@pq _ 3 _ _ rfl) (@xAaa _ _ _ _ _ (@pe_op _ _ _ _ _ _ _ _ xAbk (@xAaf _ _ _ _ _ _ _ _ _ _ _ _ _ _ _ _ gfAx (hr.mono (by decide)) rfl T.m_fAx T.k_fAx T.d_fAx .nil pass0 (@xAaa _ _ _ _ _ (@pq _ 4 _ _ rfl) (@xAaa _ _ _ _ _ (@pq _ 6 _ _ rfl) (@xAac _) rfl) rfl) (by decide) rfl rfl) (@xAah _ _ _ _)) (@xAac _) rfl) rfl rfl rfl rfl rfl) rfl)))) (by intro _;rfl)) (@xAai _ _ _ (@xAar _ _ _ _ (@xAtn _ _ _ _ _ _ _ (@pq _ 3 _ _ rfl) (@xAdf _ _ _ (@pe_un _ _ _ _ _ _ xAqq (@xAah _ _ _ _)))))))))),?_⟩;obtain ⟨c,k,b,rfl,k0,k1,kk⟩:=h;refine ⟨szOk rfl,fun fp H1 g1 s1 e1=>?_⟩;refine ⟨_,rfl,_,rfl,c,k,rfl,k0,k1,fun mu mu0=>?_⟩;refine ⟨fun σ' H'=>∃ bd:Bool,σ'=[some (.int c),some (.int k),some (.bl b),some (.ref fp),some (.int mu),some (.bl bd),none]/\H'=H1,?_,?_⟩
 ·refine ⟨_,rfl,b,rfl,?_⟩
  cases b with
  | true=>exact itT rfl ⟨_,rfl,_,_,rfl,rfl,⟨by decide,by decide,by decide⟩,_,_,rfl,rfl,_,rfl,rfl⟩
  | false=>exact itF rfl ⟨_,rfl,rfl⟩
 rintro σ' H' ⟨bd,rfl,rfl⟩;refine ⟨40,rfl,by decide,by decide,xAez (lo:=0) (n:=40) (fun j σ Z=>∃ (ds:List Int) (c:Int) (u6:Option V),σ=[some (.int c),some (.int k),some (.bl b),some (.ref fp),some (.int mu),some (.bl bd),u6]/\Same H Z/\Z fp=some (.lst (ds.map V.int))/\(∀ d∈ds,0≤d/\d<60)/\ds.length=j) ⟨[],c,none,rfl,s1,e1,(fun d z=>nomatch z),rfl⟩ ?_ ?_⟩
 ·rintro j σ Z hj ⟨ds,c,u6,rfl,sZ,eZ,hd,hl⟩
  have put:∀ (x:Int),0≤x->x<60->∀ c':Int,∃ (ds':List Int) (c'':Int) (u6:Option V),[some (V.int c'),some (.int k),some (.bl b),some (.ref fp),some (.int mu),some (.bl bd),some (.int (0+(j:Int)))]=[some (.int c''),some (.int k),some (.bl b),some (.ref fp),some (.int mu),some (.bl bd),u6]/\Same H (upd Z fp (.lst (List.map V.int ds++[.int x])))/\(upd Z fp (.lst (List.map V.int ds++[.int x]))) fp=some (.lst (ds'.map V.int))/\(∀ d∈ds',0≤d/\d<60)/\ds'.length=j+1:=fun x h0 h1 c'=>by
   refine ⟨ds++[x],c',_,rfl,sZ.wr g1,by rw [xAae,zx];rfl,fun d hd'=>?_,by rw [qm,hl];rfl⟩;rcases qz.mp hd' with z | z
   ·exact hd d z
   ·rw [zb.mp z];exact ⟨h0,h1⟩
  have hsz:(List.map V.int ds).length<sizeLine:=xAak (by rw [qj];omega);refine ⟨fun b H'=>H'=Z,?_,?_⟩
  ·refine ⟨_,rfl,_,rfl,?_⟩
   cases bd with
   | true=>exact itT rfl ⟨_,rfl,_,_,rfl,rfl,_,rfl,rfl⟩
   | false=>exact itF rfl rfl
  ·rintro b' Z' rfl
   cases b' with
   | true =>
    refine itT rfl ?_;refine ⟨_,rfl,.inl ⟨rfl,_,SqL.of eZ⟩,_,rfl,_,_,rfl,rfl,(by show (0:Int)<60;decide),fp,_,_,rfl,rfl,eZ,hsz,?_⟩;exact ⟨_,rfl,_,_,rfl,rfl,⟨by decide,by decide⟩,put _ (xAci _ (by decide)) (xAcp _ (by decide)) _⟩
   | false =>
    refine itF rfl ?_;exact ⟨_,rfl,.inl ⟨rfl,_,SqL.of eZ⟩,_,rfl,_,rfl,mu,0+(j:Int),rfl,by omega,by omega,fun r r0=>⟨_,_,rfl,rfl,(by show (0:Int)<60;decide),fp,_,_,rfl,rfl,eZ,hsz,put _ (xAci _ (by decide)) (xAcp _ (by decide)) _⟩⟩
 ·rintro σ Z ⟨ds,c,u6,rfl,sZ,eZ,hd,hl⟩
  refine ⟨_,rfl,_,rfl,_,rfl,rfl,fp,_,rfl,SqL.of eZ,fun p H2 g2 s2 e2=>kk H2 p (sZ.trans s2) (sZ.free g2) ⟨ds.reverse,by rw [e2,List.map_reverse],fun d h=>hd d (yf.mp h)⟩⟩
theorem ok_fAs (T:Txt K mg d tk) (gfAp:FnOk P w K mg base CX0 1 d.fAp d.fApd ["_law_digits"] (sp_fAp K)):FnOk P w K mg base CX0 2 d.fAs d.fAsd ["_law_digits","_law_some"] (sp_fAs K):=by
 refine T.F_fAs.ok xAwr (fun vs H Q E h=>xAvf h) (fun cdv A outer s H vs Q E hr h=>?_);have hu:(A.deeper (envOfC "_law_pick" (defScope s_fAs) s.heap.objs.size d.fAs cdv)).units<cLine:=hr.units0;refine ⟨_,(@xAad _ _ _ _ _ (@xAaj _ _ (2) _ _ _ _ xAwr.nd rfl (Or.inl rfl) (@pe_op _ _ _ _ _ _ _ _ xAfa (@pe_op _ _ _ _ _ _ _ _ xAji (@xAah _ _ _ _) (@xAaf _ _ _ _ _ _ _ _ _ _ _ _ _ _ _ _ gfAp (hr.mono (by decide)) rfl T.m_fAp T.k_fAp T.d_fAp .nil pass0 (@xAaa _ _ _ _ _ (@pq _ 0 _ _ rfl) (@xAac _) rfl) (by decide) rfl rfl)) (@xAaf _ _ _ _ _ _ _ _ _ _ _ _ _ _ _ _ gfAp (hr.mono (by decide)) rfl T.m_fAp T.k_fAp T.d_fAp .nil pass0 (@xAaa _ _ _ _ _ (@pq _ 0 _ _ rfl) (@xAac _) rfl) (by decide) rfl rfl)) rfl (.inl rfl)) (@xAai _ _ _ (@xAar _ _ _ _ (@pe_ix _ _ _ _ _ _ _ xAek (@pq _ 1 _ _ rfl) (@pe_op _ _ _ _ _ _ _ _ xAbk (@pq _ 2 _ _ rfl) (@xAay _ _ _ _ _ _ _ _ _ xAbc rfl T.b_len boot_len (@xAaa _ _ _ _ _ (@pq _ 1 _ _ rfl) (@xAac _) rfl) (by decide) (by decide) rfl rfl)) (fun _ _=>rfl))))),?_⟩;obtain ⟨p,l,xs,rfl,dp,nl,el,hx,kk⟩:=h;refine ⟨_,rfl,p,rfl,dp,fun H1 r s1 d1 r0 r1=>⟨_,_,rfl,rfl,.inl ⟨by decide,by decide⟩,?_⟩⟩;refine ⟨_,rfl,p,rfl,d1,fun H2 r' s2 d2 r0' r1'=>⟨_,_,rfl,rfl,?_⟩⟩;have s12:=Same.dtrans s1 s2;have el2:H2 l=some (.lst xs):=DP.to s12 el nl
 have hpos:(0:Int)<(xs.length:Int):=by omega
 exact ⟨_,rfl,_,rfl,_,rfl,l,xs,rfl,.inl (SqL.of el2),_,_,rfl,rfl,hpos,l,xs,_,rfl,rfl,SqL.of el2,xAci _ hpos,xAcp _ hpos,fun v hv=>kk H2 v s12 d2 hv⟩
theorem ok_fAt (T:Txt K mg d tk) (gfAx:FnOk P w K mg base CX0 1 d.fAx d.fAxd ["_law_cell","_law_k"] (sp_fAx K)):FnOk P w K mg base CX0 2 d.fAt d.fAtd ["_law_cell"] (sp_fAt K):=by
 refine T.F_fAt.ok xAsn (fun vs H Q E h=>xAvg h) (fun cdv A outer s H vs Q E hr h=>?_);have hu:(A.deeper (envOfC "_law_roll" (defScope s_fAt) s.heap.objs.size d.fAt cdv)).units<cLine:=hr.units0;refine ⟨_,(@xAad _ _ _ _ _ (@xAaj _ _ (1) _ _ _ _ xAsn.nd rfl (Or.inr rfl) (@xAal _ _ _ _) rfl (.inl rfl)) (@xAad _ _ _ _ _ (@xAaj _ _ (2) _ _ _ _ xAsn.nd rfl (Or.inl rfl) (@pe_bm _ _ _ _ _ _ _ _ _ _ _ _ PySem.F.plainAttrs_str PySem.F.slot_str_join PySem.F.type_str_join xAtk (@xAal _ _ _ _) (@xAaa _ _ _ _ _ (@xAbs _ _ _ _ _ _ _ (["_law_k"]) ([("_law_letters",1),("_law_cell",0)]) _ _ _ _ _ rfl (@xAey _ _ _ _ _ _ rfl T.b_range (@xAaa _ _ _ _ _ (@pe_op _ _ _ _ _ _ _ _ xAbk (@xAaf _ _ _ _ _ _ _ _ _ _ _ _ _ _ _ _ gfAx (hr.mono (by decide)) rfl T.m_fAx T.k_fAx T.d_fAx .nil pass0 (@xAaa _ _ _ _ _ (@pv _ 0 _ _ rfl (Or.inr (Or.inl rfl)) rfl rfl) (@xAaa _ _ _ _ _ (@xAah _ _ _ _) (@xAac _) rfl) rfl) (by decide) rfl rfl) (@xAah _ _ _ _)) (@xAac _) rfl) rfl) ⟨rfl,by decide +kernel,by decide +kernel⟩ (xAca (defScope s_fAt) ["_law_cell","_law_letters","_law_word"] rfl rfl (fun _ h=>xAbi h) (by decide +kernel) (by decide +kernel) (by decide +kernel)) (fun _ _ _=>(@xAaq _ _ (0) _ (by show List.Nodup (["_law_k","_law_letters","_law_cell"]:List Str);decide +kernel) rfl (Or.inl rfl) (.inr rfl))) (fun _=>xAas rfl) (fun _ _ _=>(@xAfy _)) (fun _ _ _=>(@pe_ix _ _ _ _ _ _ _ ix_str (@pv _ 1 _ _ rfl (Or.inr (Or.inl rfl)) rfl rfl) (@pe_op _ _ _ _ _ _ _ _ xAbk (@xAaf _ _ _ _ _ _ _ _ _ _ _ _ _ _ _ _ gfAx (hr.mono (by decide)) rfl T.m_fAx T.k_fAx T.d_fAx .nil pass0 (@xAaa _ _ _ _ _ (@pv _ 2 _ _ rfl (Or.inr (Or.inl rfl)) rfl rfl) (@xAaa _ _ _ _ _ (@pe_op _ _ _ _ _ _ _ _ xAfa (@xAah _ _ _ _) (@pq _ 0 _ _ rfl)) (@xAac _) rfl) rfl) (by decide) rfl rfl) (@xAah _ _ _ _)) (fun _ _=>rfl))) (by intro _;rfl)) (@xAac _) rfl) rfl rfl rfl rfl rfl) rfl (.inl rfl)) (@xAai _ _ _ (@xAar _ _ _ _ (@xAan _ _ _ _ (@xAaa _ _ _ _ _ (@pe_op _ _ _ _ _ _ _ _ xAdn (@pq _ 2 _ _ rfl) (@xAal _ _ _ _)) (@xAaa _ _ _ _ _ (@pe_op _ _ _ _ _ _ _ _ xAdn (@pq _ 2 _ _ rfl) (@xAal _ _ _ _)) (@xAaa _ _ _ _ _ (@pe_op _ _ _ _ _ _ _ _ xAdn (@xAal _ _ _ _) (@pq _ 2 _ _ rfl)) (@xAac _) rfl) rfl) rfl)))))),?_⟩;obtain ⟨c,rfl,kk⟩:=h;refine ⟨rfl,_,rfl,c,49,rfl,by decide,by decide,fun r r0=>⟨_,_,rfl,rfl,(by show (0:Int)<8;decide),?_⟩⟩;have q0:0≤r % 8:=xAci _ (by decide);have q1:r % 8<8:=xAcp _ (by decide)
 refine ⟨_,rfl,by omega,by omega,xAqy (n:=(r % 8).toNat) (big (by omega)) (fun i ys H'=>∃ zs:List Str,ys=zs.map V.str/\(∀ z∈zs,z.length=1/\IsT z)/\zs.length=i/\H'=H)
  ⟨[],rfl,(fun _ z=>nomatch z),rfl,rfl⟩ (fun i ys H' K1 K0 hi q k1 k0=>?_) fun H' q ys P hy hq=>?_⟩
 ·obtain ⟨zs,rfl,hz,hzl,rfl⟩:=q
  refine iteT (B:=K0 H') ?_;refine ⟨_,rfl,_,rfl,_,rfl,_,_,rfl,rfl,c,50+(0+(i:Int)),rfl,by omega,by omega,fun r7 r70=>⟨_,_,rfl,rfl,(by show (0:Int)<26;decide),?_⟩⟩;obtain ⟨cc,hc⟩:=atI_in ("abcdefghijklmnopqrstuvwxyz":Str).cps.toList (r7 % 26) (xAci _ (by decide)) (by rw [show ("abcdefghijklmnopqrstuvwxyz":Str).cps.toList.length=26 from by decide +kernel];exact xAcp _ (by decide));refine ⟨_,_,_,rfl,rfl,(by decide +kernel),hc,k1 _ _ ⟨zs++[⟨#[cc]⟩],by rw [zx];rfl,fun z hz'=>?_,by rw [qm,wc,hzl],rfl⟩⟩;rcases qz.mp hz' with y | y
  ·exact hz z y
  ·rw [zb.mp y]
   exact ⟨rfl,xAur (xAuz cc (xAuq hc))⟩
 obtain ⟨zs,rfl,hz,hzl,rfl⟩:=P;obtain ⟨hj,hs⟩:=xAsa (n:=8) (fun z h=>(hz z h).1) (by omega);have n1:Same H' (upd H' q (.lst (zs.map V.str))):=Same.new hq;refine ⟨"",q,zs,rfl,rfl,SqL.of xAae,?_,?_⟩
 ·rw [show ("":Str).length=0 from rfl]
  omega
 have hT:IsT (Txt.join "" zs):=xArv (by unfold L2.IsT;decide +kernel) fun z h=>(hz z h).2;generalize Txt.join "" zs=w at hT hj
 have bd:∀ z:Str,z.length=1->w.length+z.length≤sizeLine/\z.length+w.length≤sizeLine:=fun z hz=>⟨big (by omega),big (by omega)⟩
 exact ⟨_,rfl,_,_,rfl,rfl,(bd "b" rfl).1,_,rfl,_,_,rfl,rfl,(bd "c" rfl).1,_,rfl,_,_,rfl,rfl,(bd "d" rfl).2,szOk rfl,fun lq H2 g2 s2 e2=>kk H2 lq _ _ _ (n1.trans s2) (n1.free g2) e2 (xAgj hT (by unfold L2.IsT;decide +kernel)) (xAgj hT (by unfold L2.IsT;decide +kernel)) (xAgj (by unfold L2.IsT;decide +kernel) hT)⟩
theorem ok_fAg (T:Txt K mg d tk) (gfAh:FnOk P w K mg base CX0 1 d.fAh d.fAhd ["place"] (sp_fAh K)):FnOk P w K mg base CX0 3 d.fAg d.fAgd ["places"] (sp_fAg K):=by
 refine T.F_fAg.ok xAso (fun vs H Q E h=>xAuv h) (fun cdv A outer s H vs Q E hr h=>?_);have hu:(A.deeper (envOfC "followers_of" (defScope s_fAg) s.heap.objs.size d.fAg cdv)).units<cLine:=hr.units0;refine ⟨_,(@xAad _ _ _ _ _ (@xAaj _ _ (1) _ _ _ _ xAso.nd rfl (Or.inl rfl) (@xAij _ _) rfl (.inl rfl)) (@xAad _ _ _ _ _ (@xAcn _ _ _ _ _ _ _ _ PassesOwn.never rfl (@xAav _ _ _ _ (@xAhd _ _ _ _ _ _ _ _ _ _ _ _ _ _ gfAh (hr.mono (by decide)) rfl T.b_sorted boot_sorted rfl T.m_fAh T.d_fAh rfl (@xAaa _ _ _ _ _ (@pq _ 0 _ _ rfl) (@xAac _) rfl) (by decide) (by decide) rfl rfl)) (@xAaq _ _ (2) _ xAso.nd rfl (Or.inl rfl) (.inl rfl)) (@xAai _ _ _ (@xAbm _ _ _ _ (@pe_bm _ _ _ _ _ _ _ _ _ _ _ _ PySem.F.plainAttrs_list PySem.F.slot_list_append PySem.F.type_list_append xAba (@pe_bm _ _ _ _ _ _ _ _ _ _ _ _ PySem.F.plainAttrs_dict PySem.F.slot_dict_setdefault PySem.F.type_dict_setdefault (xAmg (hu2 hr)) (@pq _ 1 _ _ rfl) (@xAaa _ _ _ _ _ (@pxt _ _ _ _ _ _ _ (@pq _ 2 _ _ rfl)) (@xAaa _ _ _ _ _ (@xAan _ _ _ _ (@xAac _)) (@xAac _) rfl) rfl) rfl rfl rfl rfl rfl) (@xAaa _ _ _ _ _ (@pxt _ _ _ _ _ _ _ (@pq _ 2 _ _ rfl)) (@xAac _) rfl) rfl rfl rfl rfl rfl) rfl)) (by intro _;rfl)) (@xAai _ _ _ (@xAar _ _ _ _ (@pq _ 1 _ _ rfl))))),?_⟩;obtain ⟨p,ys,nk,bh,D,ms,js,t,rfl,hp,an,eqj,W,kk⟩:=h;subst eqj;have perm:ms.Perm ms:=.refl _;intro dq H1 g1 s1 e1
 have hyl:ys.length=ms.length:=by rw [an.1,perm.length_eq]
 have few:=W.few;refine ⟨_,rfl,p,ys,ms.map D,t,rfl,hp.same s1,by rw [qj,an.1],W.keys,⟨by omega,.inr (w5.mpr W.up)⟩,fun m y d H' Q' q1 q2 s q=>?_,fun q H2 ix g2 s2 six e2=>?_⟩
 ·obtain ⟨k,ek,pl⟩:=an.at q1
  rw [qt,ek] at q2;cases Option.some.inj q2;exact ⟨y,nk,bh,D,k,rfl,pl.tups (s1.trans s).tups,fun kv hk=>q H' _ (Same.refl _) hk.dv⟩
 have hix:∀ i∈ix,i<ys.length:=fun i hi=>by
  have:=(six.1.mem_iff).mp hi;rw [ql,qj] at this;rw [an.1];exact this
 have a2:=an.ix ix hix;rw [xAml perm W.up six] at a2;generalize ix.map (fun i=>ys.getD i .non)=zs at e2 a2;have hzl:zs.length=ms.length:=a2.1;have s02:=s1.trans s2;have fq:H q=none:=s1.free g2;refine ⟨q,rfl,⟨_,SqL.of e2⟩,xAbr (xs:=zs) (fun j σ H3=>∃ kvs u2,σ=[some (.ref p),some (.ref dq),u2]/\Same H H3/\H3 q=some (.lst zs)/\FD nk bh ms (ms.take j) H H3 dq kvs/\kvs.length≤j/\∀ k,vG kvs k≠some (.ref q)) ⟨[],none,rfl,s02,e2,⟨s2 _ _ e1,g1,fun k _=>.inl ⟨rfl,rfl⟩,fun k k' q z=>(by cases z),fun k q z=>(by cases z)⟩,qg _,fun k z=>(by cases z)⟩ (fun j σ H3 _ ⟨_,_,_,_,e,_⟩=>SqL.of e) ?_ ?_⟩
 ·rintro j x σ H3 hx ⟨kvs,u2,rfl,s3,eq,fd,hkl,nq⟩
  obtain ⟨m,em,pl⟩:=a2.at hx;have hmm:m∈ms:=zk em;have hj:j<ms.length:=(ze.mp em).1
  have htk:ms.take (j+1)=ms.take j++[m]:=by rw [z8,em];rfl
  have hb:∀ i,bh m=some i->i∈ms:=fun i e=>Rga.bh_in W.wf hmm e;obtain ⟨b,vn,vb,vk,rfl,eb,hn,hbk,hd⟩:=pl.tups s3.tups;refine ⟨_,rfl,.inr (.inr (.inl ⟨rfl,.inr (.inr ⟨kvs,fd.has⟩)⟩)),_,rfl,b,_,1,_,rfl,rfl,SqT.of eb,rfl,szOk rfl,fun z0 H4 g4 s4 e4=>?_⟩;have fd4:=fd.same s4;have t4:=s3.trans s4;have f0:H z0=none:=s3.free g4;refine ⟨dq,kvs,kd nk (bh m),vb,.ref z0,rfl,rfl,fd4.has,hbk.tups s4.tups,xAbp (by omega),fun u hu=>?_,fun hu=>?_⟩
  ·rcases fd4.each (bh m) hb with ⟨h1,_⟩ | ⟨q',vs,h1,h2,h3,h4⟩
   ·rw [h1] at hu;cases hu
   ·rw [h1] at hu
    cases hu
    have vl:vs.length≤2000:=by
     rw [h3.1];unfold kids;exact qh (wb _ _) (by rw [zt];omega)
    refine ⟨.inl ⟨rfl,_,SqL.of h2⟩,_,rfl,b,_,0,_,rfl,rfl,SqT.of (s4 _ _ eb),rfl,q',_,_,rfl,rfl,h2,xAbp (by omega),?_⟩;refine ⟨kvs,_,rfl,t4.wr h4,?_,?_,by omega,nq⟩
    ·rw [xAag (fun z=>nq _ (by rw [z];exact h1))]
     exact s4 _ _ eq
    ·rw [htk]
     exact fd4.old W.inj hb h1 h2 (hn.tups s4.tups)
  ·have nz:z0≠dq:=fun z=>by rw [z,fd.has] at g4;cases g4
   refine ⟨.inl ⟨rfl,_,SqL.of (by rw [xAag nz];exact e4)⟩,_,rfl,b,_,0,_,rfl,rfl,SqT.of (Tups.wd fd4.has _ _ (s4 _ _ eb)),rfl,z0,_,_,rfl,rfl,(by rw [xAag nz];exact e4),xAbp (by show 0≤_;omega),?_⟩
   have hqn:∀ k,vG kvs k≠some (.ref z0):=fun k z=>by
    obtain ⟨xs,y⟩:=fd.live k z0 z;rw [y] at g4;cases g4
   refine ⟨pG kvs (kd nk (bh m)) vb (.ref z0),_,rfl,(t4.wr g1).wr f0,?_,?_,qh (xAlu kvs _ _ _) (yi hkl),fun k z=>?_⟩
   ·have n1:q≠z0:=fun z=>by rw [← z,eq] at g4;cases g4
    have n2:q≠dq:=fun z=>by rw [z,fd.has] at eq;cases eq
    rw [xAag n1,xAag n2];exact s4 _ _ eq
   ·rw [htk]
    exact fd4.first W.inj hb hu f0 e4 hqn (hn.tups s4.tups)
   ·rw [xAlt] at z
    by_cases ek:k=kd nk (bh m)
    ·rw [if_pos ek] at z
     cases z;rw [eq] at g4;cases g4
    ·rw [if_neg ek] at z
     exact nq k z
 ·rintro σ H3 ⟨kvs,u2,rfl,s3,eq,fd,hkl,nq⟩
  rw [hzl,z7] at fd;exact ⟨_,rfl,kk H3 dq kvs s3 fd⟩
theorem ok_fAa (T:Txt K mg d tk) (gfAi:FnOk P w K mg base CX0 1 d.fAi d.fAid ["mark"] (sp_fAi K)) (gfAy:FnOk P w K mg base CX0 1 d.fAy d.fAyd ["row"] (sp_fAy K)) (gfBa:FnOk P w K mg base CX0 2 d.fBa d.fBad ["seats","begin","end"] (sp_fBa K)):FnOk P w K mg base CX0 3 d.fAa d.fAad ["facts","part","row"] (sp_fAa K):=by
 refine T.F_fAa.ok xAkb (fun vs H Q E h=>xAwa h) (fun cdv A outer s H vs Q E hr h=>?_);have hu:(A.deeper (envOfC "telling_in_row" (defScope s_fAa) s.heap.objs.size d.fAa cdv)).units<cLine:=hr.units0;have hu1:(A.deeper (envOfC "telling_in_row" (defScope s_fAa) s.heap.objs.size d.fAa cdv)).units+1<cLine:=hu_of hr;refine ⟨_,(@xAad _ _ _ _ _ (@xAaj _ _ (3) _ _ _ _ xAkb.nd rfl (Or.inl rfl) (@xAaf _ _ _ _ _ _ _ _ _ _ _ _ _ _ _ _ gfAy (hr.mono (by decide)) rfl T.m_fAy T.k_fAy T.d_fAy .nil pass0 (@xAaa _ _ _ _ _ (@pq _ 2 _ _ rfl) (@xAac _) rfl) (by decide) rfl rfl) rfl (.inl rfl)) (@xAad _ _ _ _ _ (@xAaj _ _ (4) _ _ _ _ xAkb.nd rfl (Or.inl rfl) (@xApi _ _) rfl (.inl rfl)) (@xAad _ _ _ _ _ (@xAcn _ _ _ _ _ _ _ _ PassesOwn.never rfl (@xAav _ _ _ _ (@xAhd _ _ _ _ _ _ _ _ _ _ _ _ _ _ gfAi (hr.mono (by decide)) rfl T.b_sorted boot_sorted rfl T.m_fAi T.d_fAi rfl (@xAaa _ _ _ _ _ (@xAbs _ _ _ _ _ _ _ (["mark"]) ([("part",1)]) _ _ _ _ _ rfl (@xAav _ _ _ _ (@xAbo _ _ _ _ _ _ hu1 (@pq _ 0 _ _ rfl) (@xAal _ _ _ _) (fun _ _=>rfl))) ⟨rfl,by decide +kernel,by decide +kernel⟩ (xAca (defScope s_fAa) ["facts","part","row","seats","telling","mark","over","between"] rfl rfl (fun _ h=>xAbi h) (by decide +kernel) (by decide +kernel) (by decide +kernel)) (fun _ _ _=>(@xAaq _ _ (0) _ (by show List.Nodup (["mark","part"]:List Str);decide +kernel) rfl (Or.inl rfl) (.inr rfl))) (fun _=>xAas rfl) (fun _ _ _=>(@xAdh _ _ _ (@xAao _ _ _ _ _ _ _ _ (xAhx (K:=K) rfl (hu64 hr)) (@pe_ix _ _ _ _ _ _ _ (xAbv (K:=K) rfl) (@pq _ 0 _ _ rfl) (@xAah _ _ _ _) (fun _ _=>rfl)) (@pv _ 1 _ _ rfl (Or.inr (Or.inl rfl)) rfl rfl) (xAat _)))) (fun _ _ _=>(@pq _ 0 _ _ rfl)) (by intro _;rfl)) (@xAac _) rfl) (by decide) (by decide) rfl rfl)) (@xAaq _ _ (5) _ xAkb.nd rfl (Or.inl rfl) (.inl rfl)) (@xAad _ _ _ _ _ (@xAaj _ _ (6) _ _ _ _ xAkb.nd rfl (Or.inl rfl) (@pe_bm _ _ _ _ _ _ _ _ _ _ _ _ PySem.F.plainAttrs_dict PySem.F.slot_dict_setdefault PySem.F.type_dict_setdefault xAms (@pq _ 4 _ _ rfl) (@xAaa _ _ _ _ _ (@pxt _ _ _ _ _ _ _ (@pq _ 5 _ _ rfl)) (@xAaa _ _ _ _ _ (@pe_op _ _ _ _ _ _ _ _ xAhv (@xAan _ _ _ _ (@xAaa _ _ _ _ _ (@xAcx _ _ _) (@xAac _) rfl)) (@xAay _ _ _ _ _ _ _ _ _ xAbc rfl T.b_len boot_len (@xAaa _ _ _ _ _ (@pq _ 2 _ _ rfl) (@xAac _) rfl) (by decide) (by decide) rfl rfl)) (@xAac _) rfl) rfl) rfl rfl rfl rfl rfl) rfl (.inl rfl)) (@xAad _ _ _ _ _ (@xAaj _ _ (7) _ _ _ _ xAkb.nd rfl (Or.inl rfl) (@xAaf _ _ _ _ _ _ _ _ _ _ _ _ _ _ _ _ gfBa (hr.mono (by decide)) rfl T.m_fBa T.k_fBa T.d_fBa .nil pass0 (@xAaa _ _ _ _ _ (@pq _ 3 _ _ rfl) (@xAaa _ _ _ _ _ (@pxt _ _ _ _ _ _ _ (@pq _ 5 _ _ rfl)) (@xAaa _ _ _ _ _ (@pxt _ _ _ _ _ _ _ (@pq _ 5 _ _ rfl)) (@xAac _) rfl) rfl) rfl) (by decide) rfl rfl) rfl (.inl rfl)) (@xAai _ _ _ (@xArz _ _ _ _ _ _ _ _ _ _ _ _ (@pq _ 6 _ _ rfl) (@xAdf _ _ _ (@pxt _ _ _ _ _ _ _ (@pq _ 7 _ _ rfl))) (@xAdf _ _ _ (@pxt _ _ _ _ _ _ _ (@pq _ 7 _ _ rfl))) (@pe_op _ _ _ _ _ _ _ _ xAhv (@xAan _ _ _ _ (@xAaa _ _ _ _ _ (@pq _ 5 _ _ rfl) (@xAac _) rfl)) (@pe_op _ _ _ _ _ _ _ _ op_sub (@pxt _ _ _ _ _ _ _ (@pq _ 7 _ _ rfl)) (@pxt _ _ _ _ _ _ _ (@pq _ 7 _ _ rfl)))) rfl)))) (by intro _;rfl)) (@xAai _ _ _ (@xAar _ _ _ _ (@pq _ 4 _ _ rfl)))))),?_⟩;obtain ⟨fa,F,S,n,M,m,N,q,xs,ms,ns,vp,pt,rp,rv,rfl,fs,gvp,hlay,erp,ar,kk⟩:=h;have W:=fs.ws;have WM:=fs.wm;have inj:Inj (nkS S) (rowS S n pt):=fun i hi j hj=>W.inj i (xAaz W hi) j (xAaz W hj);have sin:∀ {d:Sd},SdOk S n pt d->SdIn (rowS S n pt) d:=fun o i b z=>(xAcm W).mpr (o i b z)
 have hml:ms.length=m:=by rw [fs.ma.1,q9]
 have fewm:=WM.few
 have hrl:rv.length≤1400:=by rw [ar.1];exact qh (xAbu W) W.few
 refine ⟨_,rfl,rp,rv,nkS S,rowS S n pt,rfl,erp,ar,xAbe W,inj,qh (xAbu W) W.few,fun H2 dq kvs s2 g2 e2 hse=>?_⟩;intro tq H4 g4 s4 e4;have s04:=s2.trans s4;have f4:=fs.same s04;have erp4:=s04 _ _ erp;have edq4:=s4 _ _ e2;have gtq:H tq=none:=s2.free g4;refine ⟨_,rfl,fa,.ref (F 4),rfl,.inl ⟨fkv F 9,.inr "marks",f4.dk,rfl,(xAdb F 4 (by decide)).symm⟩,F 4,rfl,⟨_,SqL.of f4.ml⟩,xAdq (xs:=ms) (big2 (by omega)) (fun j ys H'=>H'=H4/\AN (fun v i=>MN S M H4 v i/\v=ms.getD i .non) ys (((List.range m).take j).filter fun i=>decide ((M i).pt=pt))) ⟨rfl,.nil⟩ (fun _ _ H' s'=>by rw [s'.1];exact SqL.of f4.ml) (fun j x ys H' K1 K0 hx s' k1 k0=>?_) fun H5 lp ys s' hy hq=>?_⟩
 ·obtain ⟨rfl,ay⟩:=s'
  obtain ⟨i,ei,nn⟩:=f4.ma.at hx;have hin:i<m:=ql.mp (zk ei)
  have hj:j<m:=by rw [← hml];exact (ze.mp hx).1
  have eij:i=j:=by rw [wa hj] at ei;exact (Option.some.inj ei).symm
  have nn':MN S M H' x i/\x=ms.getD i .non:=⟨nn,by rw [eij,qo,hx];rfl⟩;obtain ⟨b,vq,vb,ve,vn,kq,rfl,h1,h2,h3,h4,h5,h6⟩:=nn
  have tk:(List.range m).take (j+1)=(List.range m).take j++[i]:=by rw [z8,ei];rfl
  refine ⟨_,rfl,b,_,0,_,rfl,rfl,SqT.of h1,rfl,_,rfl,tD (M i).pt,tD pt,(gk_td h2).dv,(gk_td (gvp.tups s04.tups)).dv,(WM.lay i hin).1,hlay,qh (ww _ _) (qh (xAcc _) (by decide)),_,rfl,?_⟩;have eqp:(if false=true then !PyData.eqv (tD (M i).pt) (tD pt) else PyData.eqv (tD (M i).pt) (tD pt))=decide ((M i).pt=pt):=xAem _ _
  by_cases hp:(M i).pt=pt
  ·refine itT (by rw [eqp];exact decide_eq_true hp) ⟨_,rfl,k1 _ _ ⟨rfl,?_⟩⟩
   rw [tk];exact AN.pick (vs:=ms) ay nn' (decide_eq_true hp)
  ·refine itF (by rw [eqp];exact decide_eq_false hp) (k0 _ ⟨rfl,?_⟩)
   rw [tk];exact ay.skip (by simpa using hp)
 obtain ⟨rfl,ay⟩:=s';rw [hml,v9 (by rw [q9];exact qg _)] at ay;have ay:AN (fun v i=>MN S M H5 v i/\v=ms.getD i .non) ys (marksP M m pt):=ay;have n5:Same H5 (upd H5 lp (.lst ys)):=Same.new hq;have e5:(upd H5 lp (.lst ys)) lp=some (.lst ys):=xAae;have ay5:AN (fun v i=>MN S M (upd H5 lp (.lst ys)) v i/\v=ms.getD i .non) ys (marksP M m pt):=ay.imp fun v i g=>⟨MN.tups g.1 n5.tups,g.2⟩;generalize upd H5 lp (.lst ys)=H6 at n5 e5 ay5;have hin:∀ i∈marksP M m pt,i<m/\(M i).pt=pt:=fun i hi=>⟨ql.mp (qv.mp hi).1,of_decide_eq_true (qv.mp hi).2⟩
 have mup:(marksP M m pt).Pairwise fun a b=>ltD (.tuple [.int (M a).ka,.int (M a).kb]) (.tuple [.int (M b).ka,.int (M b).kb])=true :=
  ((xAee m).imp_of_mem fun {a b} ha hb h=>lt2_D (WM.up a b h (ql.mp hb))).filter _
 have keys:KeysAre ((marksP M m pt).map fun i=>.tuple [.int (M i).ka,.int (M i).kb]) 2:=xAmm fun d hd=>by
  obtain ⟨i,_,rfl⟩:=qk.mp hd;exact .inl ⟨_,_,rfl⟩
 have hyl:ys.length≤70:=by rw [hml] at hy;omega
 refine ⟨lp,ys,(marksP M m pt).map fun i=>.tuple [.int (M i).ka,.int (M i).kb],2,rfl,SqL.of e5,by rw [qj,ay5.1],keys,⟨by omega,.inr (w5.mpr mup)⟩,fun mm y d H' Q' q1 q2 s q=>?_,fun sq H7 ix g7 s7 six e7=>?_⟩
 ·obtain ⟨k,ek,nn⟩:=ay5.at q1
  rw [qt,ek] at q2;cases Option.some.inj q2;exact ⟨y,S,M,k,rfl,nn.1.tups s.tups,fun kv hk=>q H' _ (Same.refl _) hk.dv⟩
 have hix:∀ i∈ix,i<ys.length:=fun i hi=>by
  have:=(six.1.mem_iff).mp hi;rw [ql,qj] at this;rw [ay5.1];exact this
 have a2:=ay5.ix ix hix;rw [xAml (.refl _) mup six] at a2;generalize ix.map (fun i=>ys.getD i .non)=zs at e7 a2
 have hzl:zs.length≤70:=by rw [a2.1,← ay5.1];exact hyl
 have a7:AN (fun v i=>MN S M H7 v i/\v=ms.getD i .non) zs (marksP M m pt):=a2.imp fun v i g=>⟨MN.tups g.1 s7.tups,g.2⟩;have s47:=n5.trans s7;have s07:=s04.trans s47;have etq7:=s47 _ _ e4;have nsq:sq≠tq:=(xAab (n5 _ _ e4) g7).symm;have ndq:dq≠tq:=xAab e2 g4;have nrp:rp≠tq:=xAab (s2 _ _ erp) g4;have edq7:=s47 _ _ edq4;have erp7:=s47 _ _ erp4;have g7H:∀ {a:Addr},H7 a=none->H a=none:=fun h=>s07.free h
 refine ⟨sq,rfl,⟨_,SqL.of e7⟩,xAbr (xs:=zs) (fun j σ Z=>∃ (tv:List (Key×V)) (u5 u6 u7:Option V),σ=[some (.ref fa),some vp,some (.ref rp),some (.ref dq),some (.ref tq),u5,u6,u7]/\Same (del H7 tq) Z/\Z tq=some (.dK tv)/\TK M (rowS S n pt) ((marksP M m pt).take j) ms (fun a=>H7 a=none/\a≠tq) Z tv)
  ⟨[],none,none,none,rfl,xAfk,etq7,⟨rfl,(fun kd hk=>nomatch hk),fun kd hk=>nomatch hk⟩⟩ (fun j σ Z _ ⟨_,_,_,_,_,r,_⟩=>SqL.of (DP.to r e7 nsq)) ?_ ?_⟩
 ·rintro j x σ Z hx ⟨tv,u5,u6,u7,rfl,sZ,eZ,tk⟩
  obtain ⟨i,ei,nn,hxm⟩:=a7.at hx;obtain ⟨hi,hpt⟩:=hin i (zk ei)
  have tZ:Tups H7 Z:=fun a ys e=>DP.to sZ e (fun z=>by rw [z,etq7] at e;cases e)
  obtain ⟨b,vq,vb,ve,vn,kq,rfl,h1,h2,h3,h4,h5,h6⟩:=MN.tups nn tZ
  have hsb:SdOk S n pt (M i).b:=by rw [← hpt];exact (WM.sd i hi).1
  have hse':SdOk S n pt (M i).e:=by rw [← hpt];exact (WM.sd i hi).2
  have tk':(marksP M m pt).take (j+1)=(marksP M m pt).take j++[i]:=by rw [z8,ei];rfl
  have hls1:=xAis (sin hsb);have hls2:=xAis (sin hse');have hrv:rv.length=(rowS S n pt).length:=ar.1
  have hj:j<70:=by have:=(ze.mp hx).1;omega
  have htv:tv.length≤70:=by
   have e:=congrArg List.length tk.keys;rw [qj,qj] at e;rw [e];refine qh (xAdl _ []) ?_;rw [zt];show 0+_≤_;omega
  have erpZ:=DP.to sZ erp7 nrp;have edqZ:=DP.to sZ edq7 ndq;refine ⟨_,rfl,.inr (.inr (.inl ⟨rfl,.inl ⟨tv,eZ⟩⟩)),_,rfl,b,_,3,_,rfl,rfl,SqT.of h1,rfl,szOk rfl,fun l1 Z1 g1 s1 e1=>⟨_,rfl,rp,rv,rfl,.inl (SqL.of (s1 _ _ erpZ)),l1,(rv.length:Int),_,rfl,rfl,e1,by omega,by omega,big2 (by rw [Int.toNat_natCast];show 1 * rv.length≤2000;omega),fun a0 Z2 g2 s2 e2=>?_⟩⟩;have s02:=s1.trans s2;have eZ2:=s02 _ _ eZ;have tk2:=tk.same s02;have ga0:Z a0=none:=s1.free g2;refine ⟨tq,tv,.inr (M i).kd,.ref a0,rfl,rfl,eZ2,xAak (by omega),fun u hu=>?_,fun hn=>?_⟩
  ·have hk:(M i).kd∈kinds M ((marksP M m pt).take j):=Classical.byContradiction fun z=>by
    have:=tk.no.mpr z;rw [this] at hu;cases hu
   obtain ⟨a,ha,⟨fa1,fa2⟩,hva⟩:=tk2.val _ hk;rw [ha] at hu;cases hu;refine ⟨_,rfl,_,rfl,b,_,1,_,rfl,rfl,SqT.of (s02 _ _ h1),rfl,_,rfl,b,_,2,_,rfl,rfl,SqT.of (s02 _ _ h1),rfl,dq,kvs,S,rowS S n pt,vb,ve,(M i).b,(M i).e,rfl,(s02 _ _ edqZ),hse,h3.tups s02.tups,sin hsb,h4.tups s02.tups,sin hse',fun Z3 bq s3 e3=>?_⟩;refine ⟨_,rfl,szOk rfl,fun l4 Z4 g4 s4 e4=>⟨_,rfl,bq,_,1,_,rfl,rfl,SqT.of (s4 _ _ e3),rfl,_,rfl,bq,_,0,_,rfl,rfl,SqT.of (s4 _ _ e3),rfl,_,_,rfl,rfl,l4,_,_,rfl,rfl,e4,by omega,by omega,big2 (by show 1 * _≤2000;omega),fun c5 Z5 g5 s5 e5=>?_⟩⟩;have s35:=(s3.trans s4).trans s5;have e35:=s5 _ _ (s4 _ _ e3);rw [xAfq,show ((max (seat (rowS S n pt) (M i).b) (seat (rowS S n pt) (M i).e):Nat) - (seat (rowS S n pt) (M i).b:Nat):Int).toNat=max (seat (rowS S n pt) (M i).b) (seat (rowS S n pt) (M i).e) - seat (rowS S n pt) (M i).b by omega] at e5;have ea5:=s35 _ _ hva;have nac:a≠c5:=xAab ((s3.trans s4) _ _ hva) g5;refine ⟨_,rfl,_,rfl,bq,_,0,_,rfl,rfl,SqT.of e35,rfl,_,rfl,_,rfl,bq,_,1,_,rfl,rfl,SqT.of e35,rfl,_,rfl,a,c5,_,_,seat (rowS S n pt) (M i).b,max (seat (rowS S n pt) (M i).b) (seat (rowS S n pt) (M i).e),rfl,rfl,nac,ea5,SqL.of e5,rfl,rfl,by omega,by rw [xAex];omega,(by rw [xAex,jl,sizeLine_eq];omega),?_⟩;rw [show V.ref b=ms.getD i .non from hxm,xAqf rfl rfl (by omega) (by omega)];refine ⟨tv,_,_,_,rfl,(Same.trans sZ (s02.trans s35)).wr (by rw [xAel fa2];exact fa1),by rw [xAag fa2.symm];exact s35 _ _ eZ2,?_⟩;rw [tk'];exact (tk2.same s35).old hk ha rfl
  ·have hk:=tk.no.mp hn
   have ntq:a0≠tq:=(xAab eZ ga0).symm;rw [Int.toNat_natCast,hrv,xAfq,← xAvy (ms:=ms) hk] at e2
   have r2:∀ c o,c≠tq->Z2 c=some o->(upd Z2 tq (.dK (putK tv (.inr (M i).kd) (.ref a0)))) c=some o:=fun c o h e=>by rw [xAag h];exact e
   have tx:Tups Z (upd Z2 tq (.dK (putK tv (.inr (M i).kd) (.ref a0)))):=fun c ys e=>r2 c _ (fun z=>by rw [z,eZ] at e;cases e) (s02 _ _ e)
   have sn:Same (del H7 tq) (upd Z2 tq (.dK (putK tv (.inr (M i).kd) (.ref a0)))):=(Same.trans sZ s02).wr xAhe;have en:(upd Z2 tq (.dK (putK tv (.inr (M i).kd) (.ref a0)))) tq=some (.dK (putK tv (.inr (M i).kd) (.ref a0))):=xAae;have e2n:=r2 _ _ ntq e2;have edqn:=r2 _ _ ndq (s02 _ _ edqZ);have h1n:=tx _ _ h1;generalize upd Z2 tq (.dK (putK tv (.inr (M i).kd) (.ref a0)))=Zn at r2 tx sn en e2n edqn h1n;refine ⟨_,rfl,_,rfl,b,_,1,_,rfl,rfl,SqT.of h1n,rfl,_,rfl,b,_,2,_,rfl,rfl,SqT.of h1n,rfl,dq,kvs,S,rowS S n pt,vb,ve,(M i).b,(M i).e,rfl,edqn,hse,h3.tups tx,sin hsb,h4.tups tx,sin hse',fun Z3 bq s3 e3=>?_⟩;refine ⟨_,rfl,szOk rfl,fun l4 Z4 g4 s4 e4=>⟨_,rfl,bq,_,1,_,rfl,rfl,SqT.of (s4 _ _ e3),rfl,_,rfl,bq,_,0,_,rfl,rfl,SqT.of (s4 _ _ e3),rfl,_,_,rfl,rfl,l4,_,_,rfl,rfl,e4,by omega,by omega,big2 (by show 1 * _≤2000;omega),fun c5 Z5 g5 s5 e5=>?_⟩⟩;have s35:=(s3.trans s4).trans s5;have e35:=s5 _ _ (s4 _ _ e3);rw [xAfq,show ((max (seat (rowS S n pt) (M i).b) (seat (rowS S n pt) (M i).e):Nat) - (seat (rowS S n pt) (M i).b:Nat):Int).toNat=max (seat (rowS S n pt) (M i).b) (seat (rowS S n pt) (M i).e) - seat (rowS S n pt) (M i).b by omega] at e5;have ea5:=s35 _ _ e2n;have nac:a0≠c5:=xAab ((s3.trans s4) _ _ e2n) g5;refine ⟨_,rfl,_,rfl,bq,_,0,_,rfl,rfl,SqT.of e35,rfl,_,rfl,_,rfl,bq,_,1,_,rfl,rfl,SqT.of e35,rfl,_,rfl,a0,c5,_,_,seat (rowS S n pt) (M i).b,max (seat (rowS S n pt) (M i).b) (seat (rowS S n pt) (M i).e),rfl,rfl,nac,ea5,SqL.of e5,rfl,rfl,by omega,by rw [xAex];omega,(by rw [xAex,jl,sizeLine_eq];omega),?_⟩;rw [show V.ref b=ms.getD i .non from hxm,xAqf rfl rfl (by omega) (by omega)];refine ⟨putK tv (.inr (M i).kd) (.ref a0),_,_,_,rfl,(Same.trans sn s35).wr (sZ.free ga0),by rw [xAag ntq.symm];exact s35 _ _ en,?_⟩;rw [tk']
   have nev:∀ kd c,valV tv (.inr kd)=some (.ref c)->c≠a0:=fun kd c e z=>by
    have hkd:kd∈kinds M ((marksP M m pt).take j):=Classical.byContradiction fun y=>by
     rw [tk.no.mpr y] at e;cases e
    obtain ⟨c',q1,_,q3⟩:=tk.val kd hkd;rw [e] at q1;cases q1;rw [z,ga0] at q3;cases q3
   refine TK.new ⟨tk.keys,fun kd hkd=>?_,tk.ne⟩ hk ⟨?_,ntq⟩ nev rfl xAae
   ·obtain ⟨c,q1,q2,q3⟩:=tk2.val kd hkd
    exact ⟨c,q1,q2,by rw [xAag (nev kd c q1)];exact s35 _ _ (r2 _ _ q2.2 q3)⟩
   ·have:=sZ.free ga0
    rw [xAel ntq] at this;exact this
 ·rintro σ Z ⟨tv,u5,u6,u7,rfl,sZ,eZ,tk⟩
  rw [show zs.length=(marksP M m pt).length from a2.1,z7] at tk;exact ⟨_,rfl,kk Z tq tv (fun b o e=>DP.to sZ (s07 _ _ e) (xAab e gtq)) gtq eZ ⟨tk.keys,fun kd hk=>let ⟨a,h1,h2,h3⟩:=tk.val kd hk;⟨a,h1,⟨g7H h2.1,h2.2⟩,h3⟩,tk.ne⟩⟩
theorem ok_fAq (T:Txt K mg d tk) (gfAp:FnOk P w K mg base CX0 1 d.fAp d.fApd ["_law_digits"] (sp_fAp K)) (gfAs:FnOk P w K mg base CX0 2 d.fAs d.fAsd ["_law_digits","_law_some"] (sp_fAs K)):FnOk P w K mg base CX0 3 d.fAq d.fAqd ["_law_digits","_law_names"] (sp_fAq K):=by
 refine T.F_fAq.ok sc_fAq (fun vs H Q E h=>xAvh h) (fun cdv A outer s H vs Q E hr h=>?_);have hu:(A.deeper (envOfC "_law_side" (defScope s_fAq) s.heap.objs.size d.fAq cdv)).units<cLine:=hr.units0;refine ⟨_,(@xAad _ _ _ _ _ (@ps_if _ _ _ _ _ _ _ _ (@xAao _ _ _ _ _ _ _ _ op_eq (@pe_op _ _ _ _ _ _ _ _ xAbk (@xAaf _ _ _ _ _ _ _ _ _ _ _ _ _ _ _ _ gfAp (hr.mono (by decide)) rfl T.m_fAp T.k_fAp T.d_fAp .nil pass0 (@xAaa _ _ _ _ _ (@pq _ 0 _ _ rfl) (@xAac _) rfl) (by decide) rfl rfl) (@xAah _ _ _ _)) (@xAah _ _ _ _) (xAat _)) (@xAai _ _ _ (@xAar _ _ _ _ (@xAcx _ _ _))) (@xAbl _)) (@xAai _ _ _ (@xAar _ _ _ _ (@xAam _ _ _ _ _ (@xAaa _ _ _ _ _ (@xAaf _ _ _ _ _ _ _ _ _ _ _ _ _ _ _ _ gfAs (hr.mono (by decide)) rfl T.m_fAs T.k_fAs T.d_fAs .nil pass0 (@xAaa _ _ _ _ _ (@pq _ 0 _ _ rfl) (@xAaa _ _ _ _ _ (@pq _ 1 _ _ rfl) (@xAac _) rfl) rfl) (by decide) rfl rfl) (@xAaa _ _ _ _ _ (@pe_ix _ _ _ _ _ _ _ xAek (@xAan _ _ _ _ (@xAaa _ _ _ _ _ (@xAal _ _ _ _) (@xAaa _ _ _ _ _ (@xAal _ _ _ _) (@xAac _) rfl) rfl)) (@pe_op _ _ _ _ _ _ _ _ xAbk (@xAaf _ _ _ _ _ _ _ _ _ _ _ _ _ _ _ _ gfAp (hr.mono (by decide)) rfl T.m_fAp T.k_fAp T.d_fAp .nil pass0 (@xAaa _ _ _ _ _ (@pq _ 0 _ _ rfl) (@xAac _) rfl) (by decide) rfl rfl) (@xAah _ _ _ _)) (fun _ _=>rfl)) (@xAac _) rfl) rfl))))),?_⟩;obtain ⟨p,l,us,S,js,rfl,dp,nl,el,an,hu,kk⟩:=h;refine ⟨_,rfl,p,rfl,dp,fun H1 r s1 d1 r0 r1=>⟨_,_,rfl,rfl,(by show (0:Int)<12;decide),rfl,_,rfl,?_⟩⟩
 by_cases h0:V.int (r % 12)=.int 0
 ·exact itT (decide_eq_true h0) (kk H1 .non none s1 d1 rfl (fun i b z=>by cases z))
 refine itF (decide_eq_false h0) ?_;refine ⟨_,rfl,_,rfl,p,l,us,rfl,d1,nl,DP.to s1 el nl,hu,fun H2 v s2 d2 hv=>?_⟩;have s12:=Same.dtrans s1 s2;obtain ⟨i,hi,nm⟩:=an.mem hv;have nm2:=NM.tups nm (dp.tups s12);refine ⟨szOk rfl,fun yl H3 g3 s3 e3=>?_⟩;have nyl:yl≠p:=(DP.ne (H':=H3) d2 g3).symm;refine ⟨_,rfl,p,rfl,d2.same s3,fun H4 r' s4 d4 r0' r1'=>⟨_,_,rfl,rfl,(by show (0:Int)<2;decide),yl,_,_,rfl,rfl,SqL.of (DP.to s4 e3 nyl),xAci _ (by decide),xAcp _ (by decide),fun w hw=>?_⟩⟩;have s34:Same (del H2 p) H4:=Same.sd s3 s4;have t24:=d2.tups s34
 obtain ⟨b,rfl⟩:∃ b:Bool,w=.str (sdW b):=by
  simp only [List.mem_cons,List.not_mem_nil,or_false] at hw
  rcases hw with rfl | rfl
  ·exact ⟨false,rfl⟩
  ·exact ⟨true,rfl⟩
 refine ⟨szOk rfl,fun tq H5 g5 s5 e5=>kk H5 (.ref tq) (some (i,b)) (Same.trans (Same.dtrans s12 s34) s5) (d4.same s5) ⟨tq,v,rfl,e5,NM.tups (NM.tups nm2 t24) s5.tups⟩ fun i' b' z=>by cases z;exact hi⟩
theorem ok_fAo (T:Txt K mg d tk) (gfAp:FnOk P w K mg base CX0 1 d.fAp d.fApd ["_law_digits"] (sp_fAp K)) (gfAs:FnOk P w K mg base CX0 2 d.fAs d.fAsd ["_law_digits","_law_some"] (sp_fAs K)):FnOk P w K mg base CX0 3 d.fAo d.fAod ["_law_digits","_law_facts_here","_law_part","_law_name","_law_key","_law_names"] (sp_fAo K):=by
 refine T.F_fAo.ok xAkc (fun vs H Q E h=>xAvi h) (fun cdv A outer s H vs Q E hr h=>?_);have hu:(A.deeper (envOfC "_law_signs" (defScope s_fAo) s.heap.objs.size d.fAo cdv)).units<cLine:=hr.units0;have hu1:(A.deeper (envOfC "_law_signs" (defScope s_fAo) s.heap.objs.size d.fAo cdv)).units+1<cLine:=hu_of hr;refine ⟨_,(@xAad _ _ _ _ _ (@xAaj _ _ (6) _ _ _ _ xAkc.nd rfl (Or.inl rfl) (@xAaf _ _ _ _ _ _ _ _ _ _ _ _ _ _ _ _ gfAs (hr.mono (by decide)) rfl T.m_fAs T.k_fAs T.d_fAs .nil pass0 (@xAaa _ _ _ _ _ (@pq _ 0 _ _ rfl) (@xAaa _ _ _ _ _ (@pe_op _ _ _ _ _ _ _ _ xAfz (@xAan _ _ _ _ (@xAaa _ _ _ _ _ (@xAcx _ _ _) (@xAac _) rfl)) (@pq _ 5 _ _ rfl)) (@xAac _) rfl) rfl) (by decide) rfl rfl) rfl (.inl rfl)) (@xAai _ _ _ (@xAcn _ _ _ _ _ _ _ _ PassesOwn.never rfl (@xAey _ _ _ _ _ _ rfl T.b_range (@xAaa _ _ _ _ _ (@pe_op _ _ _ _ _ _ _ _ xAfa (@xAah _ _ _ _) (@pe_op _ _ _ _ _ _ _ _ xAbk (@xAaf _ _ _ _ _ _ _ _ _ _ _ _ _ _ _ _ gfAp (hr.mono (by decide)) rfl T.m_fAp T.k_fAp T.d_fAp .nil pass0 (@xAaa _ _ _ _ _ (@pq _ 0 _ _ rfl) (@xAac _) rfl) (by decide) rfl rfl) (@xAah _ _ _ _))) (@xAac _) rfl) rfl) (@xAaq _ _ (7) _ xAkc.nd rfl (Or.inl rfl) (.inl rfl)) (@xAad _ _ _ _ _ (@xAaj _ _ (8) _ _ _ _ xAkc.nd rfl (Or.inl rfl) (@xAaf _ _ _ _ _ _ _ _ _ _ _ _ _ _ _ _ gfAs (hr.mono (by decide)) rfl T.m_fAs T.k_fAs T.d_fAs .nil pass0 (@xAaa _ _ _ _ _ (@pq _ 0 _ _ rfl) (@xAaa _ _ _ _ _ (@xAan _ _ _ _ (@xAaa _ _ _ _ _ (@xAal _ _ _ _) (@xAaa _ _ _ _ _ (@xAal _ _ _ _) (@xAaa _ _ _ _ _ (@xAal _ _ _ _) (@xAaa _ _ _ _ _ (@xAal _ _ _ _) (@xAaa _ _ _ _ _ (@xAal _ _ _ _) (@xAaa _ _ _ _ _ (@xAam _ _ _ _ _ (@xAaa _ _ _ _ _ (@xAal _ _ _ _) (@xAaa _ _ _ _ _ (@xAal _ _ _ _) (@xAac _) rfl) rfl)) (@xAaa _ _ _ _ _ (@xAam _ _ _ _ _ (@xAaa _ _ _ _ _ (@xAal _ _ _ _) (@xAaa _ _ _ _ _ (@xAam _ _ _ _ _ (@xAaa _ _ _ _ _ (@xAal _ _ _ _) (@xAaa _ _ _ _ _ (@xAah _ _ _ _) (@xAac _) rfl) rfl)) (@xAac _) rfl) rfl)) (@xAaa _ _ _ _ _ (@xAal _ _ _ _) (@xAac _) rfl) rfl) rfl) rfl) rfl) rfl) rfl) rfl)) (@xAac _) rfl) rfl) (by decide) rfl rfl) rfl (.inl rfl)) (@xAad _ _ _ _ _ (@xAaj _ _ (9) _ _ _ _ xAkc.nd rfl (Or.inl rfl) (@xAco _ _ _ _ _ _ _ _ op_gt (@pe_op _ _ _ _ _ _ _ _ xAbk (@xAaf _ _ _ _ _ _ _ _ _ _ _ _ _ _ _ _ gfAp (hr.mono (by decide)) rfl T.m_fAp T.k_fAp T.d_fAp .nil pass0 (@xAaa _ _ _ _ _ (@pq _ 0 _ _ rfl) (@xAac _) rfl) (by decide) rfl rfl) (@xAah _ _ _ _)) (@xAah _ _ _ _) (xAat _)) rfl (.inl rfl)) (@xAad _ _ _ _ _ (@xAbm _ _ _ _ (@pe_bm _ _ _ _ _ _ _ _ _ _ _ _ PySem.F.plainAttrs_list PySem.F.slot_list_append PySem.F.type_list_append xAba (@xAbo _ _ _ _ _ _ hu1 (@pq _ 1 _ _ rfl) (@xAal _ _ _ _) (fun _ _=>rfl)) (@xAaa _ _ _ _ _ (@xAam _ _ _ _ _ (@xAaa _ _ _ _ _ (@pq _ 2 _ _ rfl) (@xAaa _ _ _ _ _ (@pe_op _ _ _ _ _ _ _ _ xAmn (@pq _ 3 _ _ rfl) (@xAam _ _ _ _ _ (@xAaa _ _ _ _ _ (@pq _ 7 _ _ rfl) (@xAac _) rfl))) (@xAaa _ _ _ _ _ (@pq _ 6 _ _ rfl) (@xAaa _ _ _ _ _ (@pe_op _ _ _ _ _ _ _ _ xAmn (@pq _ 4 _ _ rfl) (@xAam _ _ _ _ _ (@xAaa _ _ _ _ _ (@pq _ 7 _ _ rfl) (@xAac _) rfl))) (@xAaa _ _ _ _ _ (@pq _ 8 _ _ rfl) (@xAaa _ _ _ _ _ (@pq _ 9 _ _ rfl) (@xAac _) rfl) rfl) rfl) rfl) rfl) rfl)) (@xAac _) rfl) rfl rfl rfl rfl rfl) rfl) (@xAad _ _ _ _ _ (@xAaj _ _ (6) _ _ _ _ xAkc.nd rfl (Or.inl rfl) (@pe_op _ _ _ _ _ _ _ _ xAmn (@pq _ 3 _ _ rfl) (@xAam _ _ _ _ _ (@xAaa _ _ _ _ _ (@pq _ 7 _ _ rfl) (@xAac _) rfl))) rfl (.inl rfl)) (@xAai _ _ _ (@xAbm _ _ _ _ (@pe_bm _ _ _ _ _ _ _ _ _ _ _ _ PySem.F.plainAttrs_list PySem.F.slot_list_append PySem.F.type_list_append xAba (@pq _ 5 _ _ rfl) (@xAaa _ _ _ _ _ (@pq _ 6 _ _ rfl) (@xAac _) rfl) rfl rfl rfl rfl rfl) rfl)))))) (by intro _;rfl)))),?_⟩;obtain ⟨p,fa,F,S,n,M,m,N,q,xs,ms,ns,vp,pt,nq,w,x,kq,a,b,l,us,rfl,fs,dp,gvp,hlay,enq,hw,ekq,el,an,npl,nF,fr,up,hn,kk⟩:=h
 have lists:∀ c,(c=p\/c=l\/c=F 3)->∃ zs,H c=some (.lst zs):=fun c hc=>by
  rcases hc with rfl | rfl | rfl
  ·obtain ⟨ds,e,_⟩:=dp;exact ⟨_,e⟩
  ·exact ⟨_,el⟩
  ·exact ⟨_,fs.sl⟩
 have hul:us.length≤n:=by rw [an.1];exact qh (wb _ _) (by rw [q9];exact qg _)
 refine ⟨_,rfl,szOk rfl,fun l1 H1 g1 s1 e1=>⟨_,rfl,l1,l,_,_,rfl,rfl,e1,s1 _ _ el,big (by show 1+us.length≤1000;omega),fun l2 H2 g2 s2 e2=>?_⟩⟩;have s12:=s1.trans s2;have nl2:l2≠p:=(DP.ne (H':=H2) (dp.same s1) g2).symm;refine ⟨p,l2,[.non]++us,rfl,dp.same s12,nl2,e2,by rw [qm,wc];omega,fun H3 vb s3 d3 hvb=>?_⟩;have sp3:Same (del H p) H3:=Same.sd s12 s3;have t3:Tups H H3:=dp.tups sp3
 have fs3:FS H3 fa F S n M m N q xs ms ns:=by
  have f2:=fs.same s12;refine f2.to ((dp.same s12).tups s3) ?_ fun i hi ys e=>DP.to s3 e (nF i hi).1.symm;rcases f2.dk with e | ⟨o,e⟩
  ·exact .inl (DP.to s3 e (fun z=>by obtain ⟨_,e',_⟩:=dp.same s12;rw [z,e'] at e;cases e))
  ·exact .inr ⟨o,DP.to s3 e (fun z=>by obtain ⟨_,e',_⟩:=dp.same s12;rw [z,e'] at e;cases e)⟩
 have el3:H3 l=some (.lst us):=DP.to sp3 el npl.symm;have an3:AN (NM (nkS S) H3) us (minesS S n pt):=an.imp fun v i g=>NM.tups g t3
 obtain ⟨bh,gvb,hbh⟩:∃ bh:Option Nat,GK H3 (kd (nkS S) bh) vb/\∀ j,bh=some j->j<n/\(S j).pt=pt:=by
  rcases qz.mp hvb with z | z
  ·rw [zb.mp z]
   exact ⟨none,rfl,fun j e=>by cases e⟩
  ·obtain ⟨i,hi,nm⟩:=an3.mem z
   exact ⟨some i,nm,fun j e=>by cases e;exact xAcs hi⟩
 have r3:Rest H H3 (fun c=>c=p\/c=l\/c=F 3):=(Rest.refl.same s12).del (.inl rfl) s3;refine ⟨_,rfl,p,rfl,d3,fun H4 r s4 d4 r0 r1=>⟨_,_,rfl,rfl,(by show (0:Int)<4;decide),_,_,rfl,rfl,?_⟩⟩;have q0:0≤r % 4:=xAci _ (by decide);have q1:r % 4<4:=xAcp _ (by decide)
 have step:∀ {Z Z':Hp} {S':Nat->Sg} {n':Nat} {zs:List V},FS Z fa F S' n' M m N q zs ms ns->DP Z p->Same (del Z p) Z'->FS Z' fa F S' n' M m N q zs ms ns:=fun {Z Z' S' n' zs} f d s=>by
  refine f.to (d.tups s) ?_ fun i hi ys e=>DP.to s e (nF i hi).1.symm;rcases f.dk with e | ⟨o,e⟩
  ·exact .inl (DP.to s e (fun z=>by obtain ⟨_,e',_⟩:=d;rw [z,e'] at e;cases e))
  ·exact .inr ⟨o,DP.to s e (fun z=>by obtain ⟨_,e',_⟩:=d;rw [z,e'] at e;cases e)⟩
 refine ⟨_,rfl,by omega,by omega,xAez (lo:=0) (n:=(1+r % 4).toNat) (fun j σ Z=>SLp H p fa F vp nq kq l S n M m N q ms ns pt w x a b j σ Z)
  ⟨S,xs,us,vb,bh,none,none,none,rfl,step fs3 d3 s4,d4,DP.to s4 el3 npl.symm,an3.imp (fun v i g=>NM.tups g (d3.tups s4)),Agr.refl _ _,(fun i h1 h2=>absurd h2 (by omega)),gvb.tups (d3.tups s4),hbh,r3.del (.inl rfl) s4⟩ ?_ ?_⟩
 ·rintro j σ Z hj ⟨S',zs,us',vb',bh',u7,u8,u9,rfl,fz,dz,ez,az,ag,new,gb,hb',rz⟩
  have hj:j<4:=by omega
  have tz:=rz.tups lists;have W:=fz.ws;refine ⟨_,rfl,szOk rfl,fun t1 Z1 g1 s1 e1=>⟨szOk rfl,fun t2 Z2 g2 s2 e2=>⟨szOk rfl,fun t3 Z3 g3 s3 e3=>⟨szOk rfl,fun l3 Z4 g4 s4 e4=>?_⟩⟩⟩⟩;have s14:=((s1.trans s2).trans s3).trans s4;have nl3:l3≠p:=(DP.ne (H':=Z4) (dz.same ((s1.trans s2).trans s3)) g4).symm;refine ⟨p,l3,_,rfl,dz.same s14,nl3,e4,j0 _,fun Z5 vg s5 d5 hvg=>?_⟩;have sp5:Same (del Z p) Z5:=Same.sd s14 s5;have t45:Tups Z4 Z5:=(dz.same s14).tups s5
  obtain ⟨dg,dt5,okg⟩:∃ dg,DT Z5 vg dg/\OkS dg:=by
   simp only [List.mem_cons,List.not_mem_nil,or_false] at hvg
   have str:∀ z:Str,PyData.strOk z=true->∃ dg,DT Z5 (.str z) dg/\OkS dg:=fun z hz=>⟨.str z,.str z,hz,rfl,zm 3⟩;rcases hvg with rfl | rfl | rfl | rfl | rfl | rfl | rfl | rfl
   ·exact str _ (by decide +kernel)
   ·exact str _ (by decide +kernel)
   ·exact str _ (by decide +kernel)
   ·exact str _ (by decide +kernel)
   ·exact str _ (by decide +kernel)
   ·exact ⟨.tuple [.str "picture",.str "owl"],.tup (t45 _ _ (s4 _ _ (s3 _ _ (s2 _ _ e1)))) (.cons (.str _) (.cons (.str _) .nil)),by decide +kernel,rfl,by decide⟩
   ·exact ⟨.tuple [.str "refer",.tuple [.str "",.int 0]],.tup (t45 _ _ (s4 _ _ e3)) (.cons (.str _) (.cons (.tup (t45 _ _ (s4 _ _ (s3 _ _ e2))) (.cons (.str _) (.cons (.int _) .nil))) .nil)),by decide +kernel,rfl,by decide⟩
   ·exact str _ (by decide +kernel)
  refine ⟨_,rfl,p,rfl,d5,fun Z6 r6 s6 d6 r60 r61=>⟨_,_,rfl,rfl,(by show (0:Int)<4;decide),_,_,rfl,rfl,?_⟩⟩;have sp6:Same (del Z p) Z6:=Same.dtrans sp5 s6;have t6:Tups Z Z6:=dz.tups sp6;have f6:=step fz dz sp6;have dt6:=dt5.tups (d5.tups s6);have e6:Z6 l=some (.lst us'):=DP.to sp6 ez npl.symm;have rz6:Rest H Z6 (fun c=>c=p\/c=l\/c=F 3):=rz.del (.inl rfl) sp6;have az6:AN (NM (nkS S') Z6) us' (minesS S' (n+j) pt):=az.imp fun v i g=>NM.tups g t6;have gb6:=gb.tups t6;have t06:=rz6.tups lists;clear sp5 sp6 t45 dt5 s5 s6 d5 e4 e3 e2 e1 s14 s1 s2 s3 s4 g1 g2 g3 g4 t6 hvg;refine ⟨_,rfl,fa,.ref (F 3),rfl,.inl ⟨fkv F 9,.inr "signs",f6.dk,rfl,(xAdb F 3 (by decide)).symm⟩,.inl ⟨rfl,_,SqL.of f6.sl⟩,_,rfl,_,rfl,_,rfl,szOk rfl,fun k1 Z7 g7 s7 e7=>?_⟩;refine ⟨nq,k1,_,_,rfl,rfl,s7 _ _ (t06 _ _ enq),e7,yw _ _,szOk rfl,fun nn Z8 s8 e8=>?_⟩;refine ⟨_,rfl,_,rfl,_,rfl,szOk rfl,fun k2 Z9 g9 s9 e9=>?_⟩;have s69:=(s7.trans s8).trans s9;refine ⟨kq,k2,_,_,rfl,rfl,s69 _ _ (t06 _ _ ekq),e9,yw _ _,szOk rfl,fun kn Za sa ea=>?_⟩;refine ⟨_,rfl,_,rfl,szOk rfl,fun tq Zb gb' sb eb=>?_⟩;have s6b:=(s69.trans sa).trans sb;have fb:=f6.same s6b;have t0b:=t06.trans s6b.tups;refine ⟨F 3,_,_,rfl,rfl,fb.sl,xAak (by rw [fb.sa.1,q9];omega),?_⟩
  let rr:Sg:=⟨pt,[.inr w,.inl x,.inl (0+(j:Int))],bh',a,b,0+(j:Int),dg,decide (0<r6 % 4)⟩
  have Wr:WS (extS S' (n+j) rr) (n+j+1):=W.ext (by omega) (fun i hi=>?_) (fun i hi z=>?_) hb' (by show Lay [.inr w,.inl x,.inl (0+(j:Int))];show (PyData.strOk w&&(true&&(true&&true)))=true;rw [hw];rfl) hlay okg
  ·have fc:=fb.sign (r:=rr) eb (gvp.tups t0b) ⟨nn,rfl,(sa.trans sb) _ _ (s9 _ _ e8)⟩ (gb6.tups s6b.tups) (sb _ _ ea) (dt6.tups s6b.tups) Wr
   have tc:Tups Zb (upd Zb (F 3) (.lst (zs++[.ref tq]))):=Tups.wl fb.sl
   have dc:DP (upd Zb (F 3) (.lst (zs++[.ref tq]))) p:=by
    obtain ⟨ds,e,hd⟩:=d6.same s6b;exact ⟨ds,by rw [xAag (nF 3 (by decide)).1];exact e,hd⟩
   have ec:(upd Zb (F 3) (.lst (zs++[.ref tq]))) l=some (.lst us'):=by rw [xAag (nF 3 (by decide)).2];exact s6b _ _ e6
   have rc:Rest H (upd Zb (F 3) (.lst (zs++[.ref tq]))) (fun c=>c=p\/c=l\/c=F 3):=(rz6.same s6b).wr (.inr (.inr rfl));have azc:AN (NM (nkS S') (upd Zb (F 3) (.lst (zs++[.ref tq])))) us' (minesS S' (n+j) pt):=az6.imp fun v i g=>NM.tups g (s6b.tups.trans tc);generalize upd Zb (F 3) (.lst (zs++[.ref tq]))=Zc at fc dc ec rc azc;have t0c:=rc.tups lists;refine ⟨_,rfl,_,rfl,szOk rfl,fun k3 Zd gd sd ed=>?_⟩;refine ⟨nq,k3,_,_,rfl,rfl,sd _ _ (t0c _ _ enq),ed,yw _ _,szOk rfl,fun nm Ze se ee=>?_⟩;have sce:=sd.trans se
   have ule:us'.length≤n+j:=by rw [azc.1];exact qh (wb _ _) (by rw [q9];exact qg _)
   refine ⟨_,rfl,.inl ⟨rfl,_,SqL.of (sce _ _ ec)⟩,_,rfl,l,_,_,rfl,rfl,sce _ _ ec,xAak (by omega),?_⟩;have fe:=(fc.same sce).wr (p:=l) (o:=.lst (us'++[.ref nm])) (sce _ _ ec) fun i hi=>(nF i hi).2;have tw:Tups Ze (upd Ze l (.lst (us'++[.ref nm]))):=Tups.wl (sce _ _ ec);have agr:Agr S' (extS S' (n+j) rr) (n+j):=Agr.ext _ _ _;have hat:extS S' (n+j) rr (n+j)=rr:=xAct
   have gn:NM (nkS (extS S' (n+j) rr)) (upd Ze l (.lst (us'++[.ref nm]))) (.ref nm) (n+j):=by
    unfold NM nkS;rw [hat];exact ⟨nm,rfl,tw _ _ ee⟩
   refine ⟨extS S' (n+j) rr,zs++[.ref tq],us'++[.ref nm],.ref nm,some (n+j),_,_,_,rfl,fe,?_,xAae,?_,ag.trans agr (by omega),fun i h1 h2=>?_,gn,fun i z=>?_,(rc.same sce).wr (.inr (.inl rfl))⟩
   ·obtain ⟨ds,e,hd⟩:=dc.same sce
    exact ⟨ds,by rw [xAag npl];exact e,hd⟩
   ·rw [show n+(j+1)=n+j+1 from rfl,xAjv (S:=extS S' (n+j) rr) (xAau.mpr (by rw [hat])),xAgm agr]
    refine AN.snoc (xAed azc fun v i hi g=>NM.tups (NM.tups (NM.agr agr (xAcs hi).1 g) sce.tups) tw) gn
   ·by_cases z:i=n+j
    ·subst z
     rw [hat]
     have e1:((n+j - n:Nat):Int)=0+(j:Int):=by omega
     rw [e1];exact ⟨rfl,rfl,rfl,rfl,rfl⟩
    ·rw [xAbq (show i<n+j by omega)]
     exact new i h1 (by omega)
   ·cases z
    rw [hat];exact ⟨by omega,rfl⟩
  ·by_cases hin:i<n
   ·rw [ag i hin]
    rcases up i hin with z | ⟨z1,z2⟩
    ·exact .inl z
    ·exact .inr ⟨z1,.inl z2⟩
   ·obtain ⟨_,_,h3,h4,h5⟩:=new i (by omega) hi
    refine .inr ⟨h3,.inr ⟨h4,?_⟩⟩;show (S' i).kc<0+(j:Int);rw [h5];omega
  ·by_cases hin:i<n
   ·rw [ag i hin] at z
    exact fr i hin _ z
   ·obtain ⟨_,h2,_⟩:=new i (by omega) hi
    have z:(S' i).nk=[.inr w,.inl x,.inl (0+(j:Int))]:=z;rw [h2] at z;injection z with _ z;injection z with _ z;injection z with z _;injection z with z;omega
 ·rintro σ Z ⟨S',zs,us',vb',bh',u7,u8,u9,rfl,fz,dz,ez,az,ag,new,gb,hb',rz⟩
  exact kk Z S' _ zs us' fz dz ez az ag (by omega) (by omega) (fun i h1 h2=>let ⟨a1,a2,a3,a4,_⟩:=new i h1 h2;⟨a1,⟨_,a2⟩,a3,a4⟩) rz
theorem ok_fBb (T:Txt K mg d tk) (gfAg:FnOk P w K mg base CX0 3 d.fAg d.fAgd ["places"] (sp_fAg K)):FnOk P w K mg base CX0 4 d.fBb d.fBbd ["places"] (sp_fBb K):=by
 refine T.F_fBb.ok xAni (fun vs H Q E h=>xAuw h) (fun cdv A outer s H vs Q E hr h=>?_);have hu:(A.deeper (envOfC "ordered" (defScope s_fBb) s.heap.objs.size d.fBb cdv)).units<cLine:=hr.units0;refine ⟨_,(@xAad _ _ _ _ _ (@xAaj _ _ (1) _ _ _ _ xAni.nd rfl (Or.inl rfl) (@xAaf _ _ _ _ _ _ _ _ _ _ _ _ _ _ _ _ gfAg (hr.mono (by decide)) rfl T.m_fAg T.k_fAg T.d_fAg .nil pass0 (@xAaa _ _ _ _ _ (@pq _ 0 _ _ rfl) (@xAac _) rfl) (by decide) rfl rfl) rfl (.inl rfl)) (@xAad _ _ _ _ _ (@xAaj _ _ (2) _ _ _ _ xAni.nd rfl (Or.inl rfl) (@xAan _ _ _ _ (@xAac _)) rfl (.inl rfl)) (@xAad _ _ _ _ _ (@xAaj _ _ (3) _ _ _ _ xAni.nd rfl (Or.inl rfl) (@xAbn _ _ _ _ _ _ _ _ _ xAfc rfl T.b_list boot_list (@xAaa _ _ _ _ _ (@pe_bm _ _ _ _ _ _ _ _ _ _ _ _ PySem.F.plainAttrs_dict PySem.F.slot_dict_get PySem.F.type_dict_get (xAmf (hu2 hr)) (@pq _ 1 _ _ rfl) (@xAaa _ _ _ _ _ (@xAcx _ _ _) (@xAaa _ _ _ _ _ (@xAan _ _ _ _ (@xAac _)) (@xAac _) rfl) rfl) rfl rfl rfl rfl rfl) (@xAac _) rfl) (by decide) (by decide) rfl rfl) rfl (.inl rfl)) (@xAad _ _ _ _ _ (@xAqp _ _ _ _ _ _ PassesOwn.never (@xAao _ _ _ _ _ _ _ _ op_gt (@xAay _ _ _ _ _ _ _ _ _ xAbc rfl T.b_len boot_len (@xAaa _ _ _ _ _ (@pq _ 3 _ _ rfl) (@xAac _) rfl) (by decide) (by decide) rfl rfl) (@xAah _ _ _ _) (xAat _)) (@xAad _ _ _ _ _ (@xAaj _ _ (4) _ _ _ _ xAni.nd rfl (Or.inl rfl) (@xAtb _ _ _ _ _ _ _ _ _ PySem.F.plainAttrs_list PySem.F.slot_list_pop PySem.F.type_list_pop xAtc (@pq _ 3 _ _ rfl) rfl rfl) rfl (.inl rfl)) (@xAad _ _ _ _ _ (@xAbm _ _ _ _ (@pe_bm _ _ _ _ _ _ _ _ _ _ _ _ PySem.F.plainAttrs_list PySem.F.slot_list_append PySem.F.type_list_append xAba (@pq _ 2 _ _ rfl) (@xAaa _ _ _ _ _ (@pq _ 4 _ _ rfl) (@xAac _) rfl) rfl rfl rfl rfl rfl) rfl) (@xAai _ _ _ (@xAbm _ _ _ _ (@pe_bm _ _ _ _ _ _ _ _ _ _ _ _ PySem.F.plainAttrs_list PySem.F.slot_list_extend PySem.F.type_list_extend xAnu (@pq _ 3 _ _ rfl) (@xAaa _ _ _ _ _ (@pe_bm _ _ _ _ _ _ _ _ _ _ _ _ PySem.F.plainAttrs_dict PySem.F.slot_dict_get PySem.F.type_dict_get (xAmf (hu2 hr)) (@pq _ 1 _ _ rfl) (@xAaa _ _ _ _ _ (@pq _ 4 _ _ rfl) (@xAaa _ _ _ _ _ (@xAan _ _ _ _ (@xAac _)) (@xAac _) rfl) rfl) rfl rfl rfl rfl rfl) (@xAac _) rfl) rfl rfl rfl rfl rfl) rfl))))) (@xAai _ _ _ (@xAar _ _ _ _ (@pq _ 2 _ _ rfl))))))),?_⟩;obtain ⟨p,ys,nk,bh,D,ms,js,t,rfl,hp,an,perm,W,kk⟩:=h;have few:=W.few;refine ⟨_,rfl,p,ys,nk,bh,D,ms,js,t,rfl,hp,an,perm,W,fun H1 dq kvs s1 fd=>?_⟩;refine ⟨szOk rfl,fun rp H2 g2 s2 e2=>?_⟩;have fd2:=fd.same s2;refine ⟨_,rfl,.inr (.inr (.inl ⟨rfl,.inr (.inr ⟨kvs,fd2.has⟩)⟩)),szOk rfl,fun z0 H3 g3 s3 e3=>?_⟩;have fd3:=fd2.same s3;obtain ⟨a,vs,ea,eva,ava⟩:=fd3.get e3 none (fun i z=>by cases z);refine ⟨dq,kvs,.non,.non,.ref z0,rfl,rfl,fd3.has,rfl,?_⟩;rw [show (vG kvs KD.non).getD (V.ref z0)=.ref a from ea];refine ⟨a,vs,rfl,.inl (SqL.of eva),fun tp H4 g4 s4 e4=>?_⟩;have w:Rga.WF (Rga.qsOf bh ms):=W.wf;have rl:=Rga.row_len w
 have nrt:rp≠tp:=fun z=>by rw [← z,s3 _ _ e2] at g4;cases g4
 have frp:H1 rp=none:=g2;have ftp:H1 tp=none:=(s2.trans s3).free g4;have s14:=(s2.trans s3).trans s4;have d0:=Rga.dfs_row w;rw [show Rga.rk (Rga.qsOf bh ms) none=(kids bh ms none).reverse from xApz bh ms none] at d0
 refine ⟨fun mm σ H5=>∃ (out done st:List Nat) (rv tv:List V) (u4:Option V),σ=[some (.ref p),some (.ref dq),some (.ref rp),some (.ref tp),u4]/\Same H1 H5/\H5 rp=some (.lst rv)/\AN (NM nk H5) rv done/\H5 tp=some (.lst tv)/\AN (NM nk H5) tv st/\Rga.Dfs (Rga.rk (Rga.qsOf bh ms)) st.reverse out/\done++out=Rga.rowR (Rga.qsOf bh ms)/\mm=out.length,
  ⟨_,_,[],kids bh ms none,[],vs,none,rfl,s14,s4 _ _ (s3 _ _ e2),.nil,e4,ava.imp fun v i g=>g.tups s4.tups,d0,rfl,rfl⟩,?_⟩
 rintro mm σ H5 ⟨out,done,st,rv,tv,u4,rfl,s5,er,ar,et,at',dfs,hR,rfl⟩
 have hlen:done.length+out.length=ms.length:=by rw [← rl,← hR,qm]
 have hst:=Rga.dfs_len dfs;rw [y7] at hst;refine ⟨_,rfl,tp,_,rfl,.inl (SqL.of et),_,_,rfl,rfl,_,rfl,?_⟩;rcases mf st with z | ⟨st',x,z⟩
 ·subst z
  have h0:tv=[]:=yk.mp at'.1;subst h0;refine itF rfl ?_;have:=dfs.nil_inv;subst this;rw [zy] at hR;subst hR;exact ⟨_,rfl,kk H5 rp rv (s1.trans s5) (s1.free frp) er ar⟩
 rw [mh] at z;subst z;obtain ⟨us,vx,rfl,au,hx⟩:=at'.last;rw [ju,jo,List.reverse_nil,vf,List.singleton_append] at dfs;obtain ⟨out',rfl,dfs'⟩:=dfs.cons_inv;have hxm:x∈ms:=Rga.row_mem w (by rw [← hR];exact z9 _ qp);rw [show Rga.rk (Rga.qsOf bh ms) (some x)=(kids bh ms (some x)).reverse from xApz bh ms (some x)] at dfs';have hl2:=Rga.dfs_len dfs';rw [qm,y7,y7] at hl2;rw [qx] at hlen;refine itT (decide_eq_true (by show (0:Int)<((us++[vx]).length:Nat);rw [qm,wc];omega)) ?_;refine ⟨fun σ' H'=>∃ (rv tv:List V) (u4:Option V),σ'=[some (.ref p),some (.ref dq),some (.ref rp),some (.ref tp),u4]/\Same H1 H'/\H' rp=some (.lst rv)/\AN (NM nk H') rv (done++[x])/\H' tp=some (.lst tv)/\AN (NM nk H') tv (st'++kids bh ms (some x)),fun σ' H' ⟨rv',tv',u4',b1,b2,b3,b4,b5,b6⟩=>⟨out'.length,by rw [qx];omega,out',done++[x],_,rv',tv',u4',b1,b2,b3,b4,b5,b6,?_,?_,rfl⟩,?_⟩
 ·rw [ju]
  exact dfs'
 ·rw [zo]
  exact hR
 refine ⟨_,rfl,.inl ⟨rfl,_,SqL.of et⟩,tp,_,vx,rfl,rfl,et,(by simp),?_⟩;rw [List.dropLast_concat];have t6:Tups H5 (upd H5 tp (.lst us)):=Tups.wl et
 have er6:(upd H5 tp (.lst us)) rp=some (.lst rv):=by rw [xAag nrt];exact er
 refine ⟨_,rfl,.inl ⟨rfl,_,SqL.of er6⟩,_,rfl,rp,_,_,rfl,rfl,er6,(by rw [ar.1];exact xAbp (by omega)),?_⟩;have t7:Tups (upd H5 tp (.lst us)) (upd (upd H5 tp (.lst us)) rp (.lst (rv++[vx]))):=Tups.wl er6
 have et7:(upd (upd H5 tp (.lst us)) rp (.lst (rv++[vx]))) tp=some (.lst us):=by rw [xAag nrt.symm,xAae]
 have s7:Same H1 (upd (upd H5 tp (.lst us)) rp (.lst (rv++[vx]))):=(s5.wr ftp).wr frp;have fd7:=fd.same s7;refine ⟨_,rfl,.inl ⟨rfl,_,SqL.of et7⟩,_,rfl,.inr (.inr (.inl ⟨rfl,.inr (.inr ⟨kvs,fd7.has⟩)⟩)),_,rfl,szOk rfl,fun z1 H8 g8 s8 e8=>?_⟩;have fd8:=fd7.same s8;have t8:=(t6.trans t7).trans s8.tups;obtain ⟨a8,vs8,ea8,ev8,av8⟩:=fd8.get e8 (some x) (fun i z=>by cases z;exact hxm);refine ⟨dq,kvs,.tup (nk x),vx,.ref z1,rfl,rfl,fd8.has,hx.tups t8,?_⟩;rw [show (vG kvs (KD.tup (nk x))).getD (V.ref z1)=.ref a8 from ea8];have et8:=s8 _ _ et7;refine ⟨tp,a8,us,vs8,rfl,rfl,et8,ev8,big2 (by rw [au.1,av8.1];omega),?_⟩;have t9:Tups H8 (upd H8 tp (.lst (us++vs8))):=Tups.wl et8;refine ⟨rv++[vx],us++vs8,_,rfl,(s7.trans s8).wr ftp,?_,?_,xAae,?_⟩
 ·rw [xAag nrt]
  exact s8 _ _ xAae
 ·exact ((ar.snoc hx).imp fun v i g=>g.tups (t8.trans t9))
 ·exact (au.imp fun v i g=>g.tups (t8.trans t9)).app (av8.imp fun v i g=>g.tups t9)
theorem ok_fAf (T:Txt K mg d tk) (gfAp:FnOk P w K mg base CX0 1 d.fAp d.fApd ["_law_digits"] (sp_fAp K)) (gfAq:FnOk P w K mg base CX0 3 d.fAq d.fAqd ["_law_digits","_law_names"] (sp_fAq K)):FnOk P w K mg base CX0 4 d.fAf d.fAfd ["_law_digits","_law_facts_here","_law_part","_law_name","_law_key","_law_names"] (sp_fAf K):=by
 refine T.F_fAf.ok xAnj (fun vs H Q E h=>xAvj h) (fun cdv A outer s H vs Q E hr h=>?_);have hu:(A.deeper (envOfC "_law_stretch" (defScope s_fAf) s.heap.objs.size d.fAf cdv)).units<cLine:=hr.units0;have hu1:(A.deeper (envOfC "_law_stretch" (defScope s_fAf) s.heap.objs.size d.fAf cdv)).units+1<cLine:=hu_of hr;refine ⟨_,(@xAad _ _ _ _ _ (@xAaj _ _ (6) _ _ _ _ xAnj.nd rfl (Or.inl rfl) (@xAaf _ _ _ _ _ _ _ _ _ _ _ _ _ _ _ _ gfAq (hr.mono (by decide)) rfl T.m_fAq T.k_fAq T.d_fAq .nil pass0 (@xAaa _ _ _ _ _ (@pq _ 0 _ _ rfl) (@xAaa _ _ _ _ _ (@pq _ 5 _ _ rfl) (@xAac _) rfl) rfl) (by decide) rfl rfl) rfl (.inl rfl)) (@xAad _ _ _ _ _ (@xAaj _ _ (7) _ _ _ _ xAnj.nd rfl (Or.inl rfl) (@xAaf _ _ _ _ _ _ _ _ _ _ _ _ _ _ _ _ gfAq (hr.mono (by decide)) rfl T.m_fAq T.k_fAq T.d_fAq .nil pass0 (@xAaa _ _ _ _ _ (@pq _ 0 _ _ rfl) (@xAaa _ _ _ _ _ (@pq _ 5 _ _ rfl) (@xAac _) rfl) rfl) (by decide) rfl rfl) rfl (.inl rfl)) (@xAad _ _ _ _ _ (@xAaj _ _ (8) _ _ _ _ xAnj.nd rfl (Or.inl rfl) (@pe_ix _ _ _ _ _ _ _ xAek (@xAan _ _ _ _ (@xAaa _ _ _ _ _ (@xAal _ _ _ _) (@xAaa _ _ _ _ _ (@xAal _ _ _ _) (@xAaa _ _ _ _ _ (@xAal _ _ _ _) (@xAac _) rfl) rfl) rfl)) (@pe_op _ _ _ _ _ _ _ _ xAbk (@xAaf _ _ _ _ _ _ _ _ _ _ _ _ _ _ _ _ gfAp (hr.mono (by decide)) rfl T.m_fAp T.k_fAp T.d_fAp .nil pass0 (@xAaa _ _ _ _ _ (@pq _ 0 _ _ rfl) (@xAac _) rfl) (by decide) rfl rfl) (@xAah _ _ _ _)) (fun _ _=>rfl)) rfl (.inl rfl)) (@xAai _ _ _ (@ps_if _ _ _ _ _ _ _ _ (@xAao _ _ _ _ _ _ _ _ op_eq (@pe_op _ _ _ _ _ _ _ _ xAbk (@xAaf _ _ _ _ _ _ _ _ _ _ _ _ _ _ _ _ gfAp (hr.mono (by decide)) rfl T.m_fAp T.k_fAp T.d_fAp .nil pass0 (@xAaa _ _ _ _ _ (@pq _ 0 _ _ rfl) (@xAac _) rfl) (by decide) rfl rfl) (@xAah _ _ _ _)) (@xAah _ _ _ _) (xAat _)) (@xAai _ _ _ (@xAbm _ _ _ _ (@pe_bm _ _ _ _ _ _ _ _ _ _ _ _ PySem.F.plainAttrs_list PySem.F.slot_list_append PySem.F.type_list_append xAba (@xAbo _ _ _ _ _ _ hu1 (@pq _ 1 _ _ rfl) (@xAal _ _ _ _) (fun _ _=>rfl)) (@xAaa _ _ _ _ _ (@xAam _ _ _ _ _ (@xAaa _ _ _ _ _ (@pq _ 2 _ _ rfl) (@xAaa _ _ _ _ _ (@pq _ 6 _ _ rfl) (@xAaa _ _ _ _ _ (@pq _ 7 _ _ rfl) (@xAaa _ _ _ _ _ (@pq _ 8 _ _ rfl) (@xAaa _ _ _ _ _ (@pq _ 3 _ _ rfl) (@xAaa _ _ _ _ _ (@pq _ 4 _ _ rfl) (@xAac _) rfl) rfl) rfl) rfl) rfl) rfl)) (@xAac _) rfl) rfl rfl rfl rfl rfl) rfl)) (@xAad _ _ _ _ _ (@xAaj _ _ (9) _ _ _ _ xAnj.nd rfl (Or.inl rfl) (@pe_ix _ _ _ _ _ _ _ xAek (@xAan _ _ _ _ (@xAaa _ _ _ _ _ (@xAcx _ _ _) (@xAaa _ _ _ _ _ (@xAal _ _ _ _) (@xAaa _ _ _ _ _ (@xAal _ _ _ _) (@xAaa _ _ _ _ _ (@xAal _ _ _ _) (@xAac _) rfl) rfl) rfl) rfl)) (@pe_op _ _ _ _ _ _ _ _ xAbk (@xAaf _ _ _ _ _ _ _ _ _ _ _ _ _ _ _ _ gfAp (hr.mono (by decide)) rfl T.m_fAp T.k_fAp T.d_fAp .nil pass0 (@xAaa _ _ _ _ _ (@pq _ 0 _ _ rfl) (@xAac _) rfl) (by decide) rfl rfl) (@xAah _ _ _ _)) (fun _ _=>rfl)) rfl (.inl rfl)) (@xAai _ _ _ (@xAbm _ _ _ _ (@pe_bm _ _ _ _ _ _ _ _ _ _ _ _ PySem.F.plainAttrs_list PySem.F.slot_list_append PySem.F.type_list_append xAba (@xAbo _ _ _ _ _ _ hu1 (@pq _ 1 _ _ rfl) (@xAal _ _ _ _) (fun _ _=>rfl)) (@xAaa _ _ _ _ _ (@xAam _ _ _ _ _ (@xAaa _ _ _ _ _ (@pq _ 2 _ _ rfl) (@xAaa _ _ _ _ _ (@pq _ 6 _ _ rfl) (@xAaa _ _ _ _ _ (@pq _ 7 _ _ rfl) (@xAaa _ _ _ _ _ (@pq _ 8 _ _ rfl) (@xAaa _ _ _ _ _ (@pq _ 9 _ _ rfl) (@xAaa _ _ _ _ _ (@pq _ 3 _ _ rfl) (@xAaa _ _ _ _ _ (@pq _ 4 _ _ rfl) (@xAac _) rfl) rfl) rfl) rfl) rfl) rfl) rfl)) (@xAac _) rfl) rfl rfl rfl rfl rfl) rfl)))))))),?_⟩;obtain ⟨p,fa,F,S,n,M,m,N,q,xs,ms,ns,vp,pt,nq,w,x,kq,a,b,l,us,rfl,fs,dp,gvp,hlay,enq,hw,ekq,el,an,hu,npl,nF,upM,upN,hm,hq,kk⟩:=h
 have step:∀ {Z Z':Hp},FS Z fa F S n M m N q xs ms ns->DP Z p->Same (del Z p) Z'->FS Z' fa F S n M m N q xs ms ns:=fun {Z Z'} f d s=>by
  refine f.to (d.tups s) ?_ fun i hi ys e=>DP.to s e (nF i hi).1.symm;rcases f.dk with e | ⟨o,e⟩
  ·exact .inl (DP.to s e (fun z=>by obtain ⟨_,e',_⟩:=d;rw [z,e'] at e;cases e))
  ·exact .inr ⟨o,DP.to s e (fun z=>by obtain ⟨_,e',_⟩:=d;rw [z,e'] at e;cases e)⟩
 have sdok:∀ {d:Sd},(∀ i b,d=some (i,b)->i∈minesS S n pt)->SdOk S n pt d:=fun h i b e=>xAcs (h i b e);refine ⟨_,rfl,_,rfl,p,l,us,S,minesS S n pt,rfl,dp,npl.symm,el,an,hu,fun H1 vb sb s1 d1 gb hb=>?_⟩;have t1:=dp.tups s1;refine ⟨_,rfl,_,rfl,p,l,us,S,minesS S n pt,rfl,d1,npl.symm,DP.to s1 el npl.symm,an.imp (fun v i g=>NM.tups g t1),hu,fun H2 ve se s2 d2 ge he=>?_⟩;have s02:=Same.dtrans s1 s2;refine ⟨szOk rfl,fun wl H3 g3 s3 e3=>?_⟩;have nwl:wl≠p:=(DP.ne (H':=H3) d2 g3).symm;refine ⟨_,rfl,p,rfl,d2.same s3,fun H4 r s4 d4 r0 r1=>⟨_,_,rfl,rfl,(by show (0:Int)<3;decide),wl,_,_,rfl,rfl,SqL.of (DP.to s4 e3 nwl),xAci _ (by decide),xAcp _ (by decide),fun vw hvw=>?_⟩⟩
 obtain ⟨kd,rfl,hkd⟩:∃ kd:Str,vw=.str kd/\PyData.strOk kd=true:=by
  simp only [List.mem_cons,List.not_mem_nil,or_false] at hvw
  rcases hvw with rfl | rfl | rfl
  ·exact ⟨_,rfl,by decide +kernel⟩
  ·exact ⟨_,rfl,by decide +kernel⟩
  ·exact ⟨_,rfl,by decide +kernel⟩
 have s24:Same (del H2 p) H4:=Same.sd s3 s4;have s04:=Same.dtrans s02 s24;refine ⟨_,rfl,p,rfl,d4,fun H5 r' s5 d5 r0' r1'=>⟨_,_,rfl,rfl,(by show (0:Int)<4;decide),rfl,_,rfl,?_⟩⟩;have s05:=Same.dtrans s04 s5;have f5:=step fs dp s05;have t05:=dp.tups s05;have gb5:=(gb.tups (d1.tups s2)).tups (d2.tups (Same.dtrans s24 s5));have ge5:=ge.tups (d2.tups (Same.dtrans s24 s5))
 by_cases h0:V.int (r' % 4)=.int 0
 ·refine itT (decide_eq_true h0) ?_
  refine ⟨_,rfl,fa,.ref (F 5),rfl,.inl ⟨fkv F 9,.inr "notes",f5.dk,rfl,(xAdb F 5 (by decide)).symm⟩,.inl ⟨rfl,_,SqL.of f5.nl⟩,_,rfl,_,rfl,_,rfl,_,rfl,_,rfl,_,rfl,szOk rfl,fun tq H6 g6 s6 e6=>?_⟩;have f6:=f5.same s6;have t06:=t05.trans s6.tups;refine ⟨F 5,_,_,rfl,rfl,f6.nl,xAak (by rw [f6.na.1,q9];omega),?_⟩;have f7:=f6.note (r:=⟨pt,sb,se,kd,none,[.inr w,.inl x],a,b⟩) e6 (gvp.tups t06) (gb5.tups s6.tups) (ge5.tups s6.tups) ⟨nq,rfl,t06 _ _ enq⟩ (t06 _ _ ekq) (f6.wn.ext hq upN ⟨sdok hb,sdok he⟩ ⟨hlay,xAef hw x,hkd,fun z e=>by cases e⟩);refine kk _ _ _ _ _ _ _ f7 ?_ (vi m) (qg _) (fun i hi=>⟨?_,fun _=>rfl,fun z=>absurd z (by omega)⟩) (fun i hi=>?_) ?_
  ·obtain ⟨ds,e,hd⟩:=d5.same s6
   exact ⟨ds,by rw [xAag (nF 5 (by decide)).1];exact e,hd⟩
  ·rcases upM i hi with z | ⟨z1,z2⟩
   ·exact .inl z
   ·exact .inr ⟨z1,by omega⟩
  ·by_cases z:i=q
   ·subst z;rw [xAcu];exact ⟨.inr ⟨rfl,Int.le_refl _⟩,fun z=>absurd z (by omega),fun _=>rfl⟩
   ·rw [xAby (show i<q by omega)]
    refine ⟨?_,fun _=>rfl,fun z=>absurd z (by omega)⟩;rcases upN i (by omega) with z | ⟨z1,z2⟩
    ·exact .inl z
    ·exact .inr ⟨z1,by omega⟩
  ·refine Rest.wr (Rest.same (fun c o e hn=>DP.to s05 e fun z=>hn (.inl z)) s6) (.inr (.inr rfl))
 ·refine itF (decide_eq_false h0) ?_
  refine ⟨szOk rfl,fun vl H6 g6 s6 e6=>?_⟩;have nvl:vl≠p:=(DP.ne (H':=H6) d5 g6).symm;refine ⟨_,rfl,p,rfl,d5.same s6,fun H7 r2 s7 d7 r20 r21=>⟨_,_,rfl,rfl,(by show (0:Int)<4;decide),vl,_,_,rfl,rfl,SqL.of (DP.to s7 e6 nvl),xAci _ (by decide),xAcp _ (by decide),fun vv hvv=>?_⟩⟩
  obtain ⟨vo,rfl,hvo⟩:∃ vo:Option Str,vv=vlV vo/\∀ z,vo=some z->PyData.strOk z=true:=by
   simp only [List.mem_cons,List.not_mem_nil,or_false] at hvv
   rcases hvv with rfl | rfl | rfl | rfl
   ·exact ⟨none,rfl,fun z e=>by cases e⟩
   ·exact ⟨some "thin",rfl,fun z e=>by cases e;decide +kernel⟩
   ·exact ⟨some "x",rfl,fun z e=>by cases e;decide +kernel⟩
   ·exact ⟨some "abcdefgh",rfl,fun z e=>by cases e;decide +kernel⟩
  have s57:Same (del H5 p) H7:=Same.sd s6 s7;have s07:=Same.dtrans s05 s57;have f7:=step f5 d5 s57;have t57:=d5.tups s57;refine ⟨_,rfl,fa,.ref (F 4),rfl,.inl ⟨fkv F 9,.inr "marks",f7.dk,rfl,(xAdb F 4 (by decide)).symm⟩,.inl ⟨rfl,_,SqL.of f7.ml⟩,_,rfl,_,rfl,_,rfl,_,rfl,_,rfl,_,rfl,_,rfl,szOk rfl,fun tq H8 g8 s8 e8=>?_⟩;have f8:=f7.same s8;have t58:=t57.trans s8.tups;have t08:=t05.trans t58;refine ⟨F 4,_,_,rfl,rfl,f8.ml,xAak (by rw [f8.ma.1,q9];omega),?_⟩;have f9:=f8.mark (r:=⟨pt,sb,se,kd,vo,[.inr w,.inl x],a,b⟩) e8 (gvp.tups t08) (gb5.tups t58) (ge5.tups t58) ⟨nq,rfl,t08 _ _ enq⟩ (t08 _ _ ekq) (f8.wm.ext hm upM ⟨sdok hb,sdok he⟩ ⟨hlay,xAef hw x,hkd,hvo⟩);refine kk _ _ _ _ _ _ _ f9 ?_ (qg _) (vi q) (fun i hi=>?_) (fun i hi=>⟨?_,fun _=>rfl,fun z=>absurd z (by omega)⟩) ?_
  ·obtain ⟨ds,e,hd⟩:=d7.same s8
   exact ⟨ds,by rw [xAag (nF 4 (by decide)).1];exact e,hd⟩
  ·by_cases z:i=m
   ·subst z;rw [xAcu];exact ⟨.inr ⟨rfl,Int.le_refl _⟩,fun z=>absurd z (by omega),fun _=>⟨rfl,rfl⟩⟩
   ·rw [xAby (show i<m by omega)]
    refine ⟨?_,fun _=>rfl,fun z=>absurd z (by omega)⟩;rcases upM i (by omega) with z | ⟨z1,z2⟩
    ·exact .inl z
    ·exact .inr ⟨z1,by omega⟩
  ·rcases upN i hi with z | ⟨z1,z2⟩
   ·exact .inl z
   ·exact .inr ⟨z1,by omega⟩
  ·refine Rest.wr (Rest.same (fun c o e hn=>DP.to s07 e fun z=>hn (.inl z)) s8) (.inr (.inl rfl))
theorem ok_fBe (T:Txt K mg d tk) (gfBb:FnOk P w K mg base CX0 4 d.fBb d.fBbd ["places"] (sp_fBb K)) (gfAz:FnOk P w K mg base CX0 1 d.fAz d.fAzd ["facts","part"] (sp_fAz K)):FnOk P w K mg base CX0 5 d.fBe d.fBed ["facts","part"] (sp_fBe K):=by
 refine T.F_fBe.ok sc_fBe (fun vs H Q E h=>xAvo h) (fun cdv A outer s H vs Q E hr h=>?_);have hu:(A.deeper (envOfC "row_of" (defScope s_fBe) s.heap.objs.size d.fBe cdv)).units<cLine:=hr.units0;refine ⟨_,(@xAai _ _ _ (@xAar _ _ _ _ (@xAaf _ _ _ _ _ _ _ _ _ _ _ _ _ _ _ _ gfBb (hr.mono (by decide)) rfl T.m_fBb T.k_fBb T.d_fBb .nil pass0 (@xAaa _ _ _ _ _ (@xAbs _ _ _ _ _ _ _ (["fact"]) ([]) _ _ _ _ _ rfl (@xAav _ _ _ _ (@xAaf _ _ _ _ _ _ _ _ _ _ _ _ _ _ _ _ gfAz (hr.mono (by decide)) rfl T.m_fAz T.k_fAz T.d_fAz .nil pass0 (@xAaa _ _ _ _ _ (@pq _ 0 _ _ rfl) (@xAaa _ _ _ _ _ (@pq _ 1 _ _ rfl) (@xAac _) rfl) rfl) (by decide) rfl rfl)) ⟨rfl,by decide +kernel,by decide +kernel⟩ (caps0 (by decide +kernel)) (fun _ _ _=>(@xAaq _ _ (0) _ (by show List.Nodup (["fact"]:List Str);decide +kernel) rfl (Or.inl rfl) (.inr rfl))) (fun _=>xAas rfl) (fun _ _ _=>(@xAfy _)) (fun _ _ _=>(@xAgs _ _ _ _ _ _ _ _ _ _ (xAru (K:=K) rfl) (@pq _ 0 _ _ rfl) (@xAdf _ _ _ (@xAah _ _ _ _)) (@xAdf _ _ _ (@xAah _ _ _ _)))) (by intro _;rfl)) (@xAac _) rfl) (by decide) rfl rfl))),?_⟩;obtain ⟨fa,vp,pt,S,n,rfl,fg,gvp,hlay,kk⟩:=h
 have W:WS S n:=by obtain ⟨_,_,_,_,_,_,_,W⟩:=fg;exact W
 have PW0:=W.plw pt;refine ⟨_,rfl,_,rfl,fa,vp,pt,S,n,rfl,fg,gvp,hlay,fun H1 q zs s1 g1 e1 az=>?_⟩
 have hzl:zs.length≤1400:=by rw [az.1];exact qh (qh (wb _ _) (by rw [q9];exact qg _)) W.few
 refine ⟨q,rfl,⟨_,SqL.of e1⟩,xAdq (xs:=zs) (big2 (by omega)) (fun j us H'=>Same H1 H'/\AN (PL (nkS S) (bhS S) (DS S) H') us ((minesS S n pt).take j)) ⟨Same.refl _,.nil⟩ (fun _ _ H' s'=>SqL.of (s'.1 _ _ e1)) (fun j x us H' K1 K0 hx s' k1 k0=>?_) fun H6 up us s' hu6 huq=>?_⟩
 ·obtain ⟨s',au⟩:=s'
  obtain ⟨i,ei,sn⟩:=az.at hx;obtain ⟨b,vq,vn,vb,kq,vg,rfl,h1,h2,h3,h4,h5,h6⟩:=SN.tups sn s'.tups
  have tk:(minesS S n pt).take (j+1)=(minesS S n pt).take j++[i]:=by rw [z8,ei];rfl
  refine iteT (B:=K0 H') ?_;refine ⟨_,rfl,1,rfl,4,rfl,b,_,rfl,SqT.of h1,(by show ¬ (HT.sIx 6 0 (some 1)=0/\HT.sIx 6 6 (some 4)=6);decide),fun tq H7 g7 s7 e7=>k1 _ _ ⟨s'.trans s7,?_⟩⟩;rw [tk];have t7:=s7.tups;exact (au.imp fun v i g=>g.tups t7).snoc ⟨tq,vn,vb,.ref kq,rfl,e7,h3.tups t7,h4.tups t7,.tup (s7 _ _ h5) (.cons (.int _) (.cons (.int _) (.cons (.int _) .nil)))⟩
 obtain ⟨s6,au⟩:=s';have n6:Same H6 (upd H6 up (.lst us)):=Same.new huq;rw [show zs.length=(minesS S n pt).length from az.1,z7] at au;have s16:=(s1.trans s6).trans n6;exact ⟨up,us,nkS S,bhS S,DS S,minesS S n pt,minesS S n pt,2,rfl,SqL.of xAae,au.imp fun v i g=>g.tups n6.tups,rfl,PW0,fun H8 q8 ws s8 g8 e8 aw=>kk H8 q8 ws (s16.trans s8) (s16.free g8) e8 aw⟩
theorem ok_fAn (T:Txt K mg d tk) (gfAe:FnOk P w K mg base CX0 1 d.fAe d.fAed ["_law_script","_law_k"] (sp_fAe K)) (gfAp:FnOk P w K mg base CX0 1 d.fAp d.fApd ["_law_digits"] (sp_fAp K)) (gfAw:FnOk P w K mg base CX0 2 d.fAw d.fAwd ["_law_number","_law_k","_law_free"] (sp_fAw K)) (gfAo:FnOk P w K mg base CX0 3 d.fAo d.fAod ["_law_digits","_law_facts_here","_law_part","_law_name","_law_key","_law_names"] (sp_fAo K)) (gfAf:FnOk P w K mg base CX0 4 d.fAf d.fAfd ["_law_digits","_law_facts_here","_law_part","_law_name","_law_key","_law_names"] (sp_fAf K)):FnOk P w K mg base CX0 5 d.fAn d.fAnd ["_law_script","_law_first","_law_roll_here","_law_parts"] (sp_fAn K):=by
 refine T.F_fAn.ok xAdd (fun vs H Q E h=>xAvk h) (fun cdv A outer s H vs Q E hr h=>?_);have hu:(A.deeper (envOfC "_law_facts" (defScope s_fAn) s.heap.objs.size d.fAn cdv)).units<cLine:=hr.units0;have hu1:(A.deeper (envOfC "_law_facts" (defScope s_fAn) s.heap.objs.size d.fAn cdv)).units+1<cLine:=hu_of hr;refine ⟨_,(@xAad _ _ _ _ _ (@xAaj _ _ (4) _ _ _ _ xAdd.nd rfl (Or.inl rfl) (@xAco _ _ _ _ _ _ _ _ op_eq (@pe_op _ _ _ _ _ _ _ _ xAbk (@xAaf _ _ _ _ _ _ _ _ _ _ _ _ _ _ _ _ gfAe (hr.mono (by decide)) rfl T.m_fAe T.k_fAe T.d_fAe .nil pass0 (@xAaa _ _ _ _ _ (@pq _ 0 _ _ rfl) (@xAaa _ _ _ _ _ (@xAah _ _ _ _) (@xAac _) rfl) rfl) (by decide) rfl rfl) (@xAah _ _ _ _)) (@xAah _ _ _ _) (xAat _)) rfl (.inl rfl)) (@xAad _ _ _ _ _ (@xAaj _ _ (5) _ _ _ _ xAdd.nd rfl (Or.inl rfl) (@xAtf _ _ _ _ _ (@xAcy _ _ _ _ _ _ _ _ _ (@xAal _ _ _ _) (@xAan _ _ _ _ (@xAac _)) (@xAcy _ _ _ _ _ _ _ _ _ (@xAal _ _ _ _) (@xAan _ _ _ _ (@xAac _)) (@xAcy _ _ _ _ _ _ _ _ _ (@xAal _ _ _ _) (@xAan _ _ _ _ (@xAac _)) (@xAcy _ _ _ _ _ _ _ _ _ (@xAal _ _ _ _) (@xAan _ _ _ _ (@xAac _)) (@xAcy _ _ _ _ _ _ _ _ _ (@xAal _ _ _ _) (@xAan _ _ _ _ (@xAac _)) (@xAcy _ _ _ _ _ _ _ _ _ (@xAal _ _ _ _) (@xAan _ _ _ _ (@xAac _)) (@xAte _ _))))))) rfl rfl (yw _ _) (jz rfl)) rfl (.inl rfl)) (@xAad _ _ _ _ _ (@xAcn _ _ _ _ _ _ _ _ PassesOwn.never rfl (@xAav _ _ _ _ (@xAan _ _ _ _ (@xAaa _ _ _ _ _ (@xAal _ _ _ _) (@xAaa _ _ _ _ _ (@xAal _ _ _ _) (@xAaa _ _ _ _ _ (@xAal _ _ _ _) (@xAac _) rfl) rfl) rfl))) (@xAaq _ _ (6) _ xAdd.nd rfl (Or.inl rfl) (.inl rfl)) (@xAai _ _ _ (@xAkq _ _ _ _ _ _ _ _ _ hu1 (@pq _ 5 _ _ rfl) (@pq _ 6 _ _ rfl) (@xAan _ _ _ _ (@xAac _)) rfl)) (by intro _;rfl)) (@xAad _ _ _ _ _ (@xAaj _ _ (7) _ _ _ _ xAdd.nd rfl (Or.inl rfl) (@xAij _ _) rfl (.inl rfl)) (@xAad _ _ _ _ _ (@xAcn _ _ _ _ _ _ _ _ PassesOwn.never rfl (@xAav _ _ _ _ (@pq _ 3 _ _ rfl)) (@xAaq _ _ (8) _ xAdd.nd rfl (Or.inl rfl) (.inl rfl)) (@xAai _ _ _ (@xAma _ _ _ _ _ _ _ _ _ (hu2 hr) (@pq _ 7 _ _ rfl) (@pq _ 8 _ _ rfl) (@xAan _ _ _ _ (@xAac _)) rfl)) (by intro _;rfl)) (@xAad _ _ _ _ _ (@xAaj _ _ (9) _ _ _ _ xAdd.nd rfl (Or.inl rfl) (@xAam _ _ _ _ _ (@xAaa _ _ _ _ _ (@xAah _ _ _ _) (@xAaa _ _ _ _ _ (@xAah _ _ _ _) (@xAac _) rfl) rfl)) rfl (.inl rfl)) (@xAad _ _ _ _ _ (@xAcn _ _ _ _ _ _ _ _ PassesOwn.never rfl (@xAnp _ _ _ _ _ _ _ rfl T.b_range (@xAaa _ _ _ _ _ (@pq _ 1 _ _ rfl) (@xAaa _ _ _ _ _ (@xAay _ _ _ _ _ _ _ _ _ (xAns rfl) rfl T.b_min boot_min (@xAaa _ _ _ _ _ (@xAay _ _ _ _ _ _ _ _ _ xAbc rfl T.b_len boot_len (@xAaa _ _ _ _ _ (@pq _ 0 _ _ rfl) (@xAac _) rfl) (by decide) (by decide) rfl rfl) (@xAaa _ _ _ _ _ (@xAah _ _ _ _) (@xAac _) rfl) rfl) (by decide) (by decide) rfl rfl) (@xAac _) rfl) rfl) rfl rfl) (@xAaq _ _ (10) _ xAdd.nd rfl (Or.inl rfl) (.inl rfl)) (@xAad _ _ _ _ _ (@xAaj _ _ (11) _ _ _ _ xAdd.nd rfl (Or.inl rfl) (@xAaf _ _ _ _ _ _ _ _ _ _ _ _ _ _ _ _ gfAw (hr.mono (by decide)) rfl T.m_fAw T.k_fAw T.d_fAw .nil pass0 (@xAaa _ _ _ _ _ (@pe_ix _ _ _ _ _ _ _ xAcb (@pq _ 0 _ _ rfl) (@pq _ 10 _ _ rfl) (fun _ _=>rfl)) (@xAaa _ _ _ _ _ (@pq _ 10 _ _ rfl) (@xAaa _ _ _ _ _ (@pq _ 4 _ _ rfl) (@xAac _) rfl) rfl) rfl) (by decide) rfl rfl) rfl (.inl rfl)) (@xAad _ _ _ _ _ (@xAaj _ _ (12) _ _ _ _ xAdd.nd rfl (Or.inl rfl) (@pe_op _ _ _ _ _ _ _ _ xAbk (@xAaf _ _ _ _ _ _ _ _ _ _ _ _ _ _ _ _ gfAp (hr.mono (by decide)) rfl T.m_fAp T.k_fAp T.d_fAp .nil pass0 (@xAaa _ _ _ _ _ (@pq _ 11 _ _ rfl) (@xAac _) rfl) (by decide) rfl rfl) (@xAah _ _ _ _)) rfl (.inl rfl)) (@xAad _ _ _ _ _ (@xAaj _ _ (9) _ _ _ _ xAdd.nd rfl (Or.inl rfl) (@xAam _ _ _ _ _ (@xAaa _ _ _ _ _ (@pe_op _ _ _ _ _ _ _ _ xAfa (@pxt _ _ _ _ _ _ _ (@pq _ 9 _ _ rfl)) (@xAbn _ _ _ _ _ _ _ _ _ xAfb rfl T.b_int boot_int (@xAaa _ _ _ _ _ (@xAco _ _ _ _ _ _ _ _ op_le (@pq _ 12 _ _ rfl) (@pxt _ _ _ _ _ _ _ (@pq _ 9 _ _ rfl)) (xAat _)) (@xAac _) rfl) (by decide) (by decide) rfl rfl)) (@xAaa _ _ _ _ _ (@pq _ 12 _ _ rfl) (@xAac _) rfl) rfl)) rfl (.inl rfl)) (@xAad _ _ _ _ _ (@xAaj _ _ (8) _ _ _ _ xAdd.nd rfl (Or.inl rfl) (@pe_ix _ _ _ _ _ _ _ xAek (@pq _ 3 _ _ rfl) (@pe_ix _ _ _ _ _ _ _ xAek (@xAan _ _ _ _ (@xAaa _ _ _ _ _ (@xAah _ _ _ _) (@xAaa _ _ _ _ _ (@xAah _ _ _ _) (@xAaa _ _ _ _ _ (@xAah _ _ _ _) (@xAaa _ _ _ _ _ (@xAah _ _ _ _) (@xAaa _ _ _ _ _ (@xAah _ _ _ _) (@xAac _) rfl) rfl) rfl) rfl) rfl)) (@pe_op _ _ _ _ _ _ _ _ xAbk (@xAaf _ _ _ _ _ _ _ _ _ _ _ _ _ _ _ _ gfAp (hr.mono (by decide)) rfl T.m_fAp T.k_fAp T.d_fAp .nil pass0 (@xAaa _ _ _ _ _ (@pq _ 11 _ _ rfl) (@xAac _) rfl) (by decide) rfl rfl) (@xAah _ _ _ _)) (fun _ _=>rfl)) (fun _ _=>rfl)) rfl (.inl rfl)) (@xAad _ _ _ _ _ (@xAaj _ _ (13) _ _ _ _ xAdd.nd rfl (Or.inl rfl) (@xAam _ _ _ _ _ (@xAaa _ _ _ _ _ (@pe_ix _ _ _ _ _ _ _ xAek (@pq _ 2 _ _ rfl) (@pq _ 12 _ _ rfl) (fun _ _=>rfl)) (@xAaa _ _ _ _ _ (@pe_op _ _ _ _ _ _ _ _ xAfa (@xAah _ _ _ _) (@pq _ 10 _ _ rfl)) (@xAac _) rfl) rfl)) rfl (.inl rfl)) (@xAai _ _ _ (@ps_if _ _ _ _ _ _ _ _ (@xAec _ _ _ (@PW.pt _ _ _ (@pw_or _ _ _ _ _ _ _ (@xAao _ _ _ _ _ _ _ _ op_eq (@pe_op _ _ _ _ _ _ _ _ xAbk (@xAaf _ _ _ _ _ _ _ _ _ _ _ _ _ _ _ _ gfAp (hr.mono (by decide)) rfl T.m_fAp T.k_fAp T.d_fAp .nil pass0 (@xAaa _ _ _ _ _ (@pq _ 11 _ _ rfl) (@xAac _) rfl) (by decide) rfl rfl) (@xAah _ _ _ _)) (@xAah _ _ _ _) (xAat _)) (@xAqo _ _ _ _ (@xAao _ _ _ _ _ _ _ _ (xAgw hu) (@xAbd _ _ _ _ _ _ (hu2 hr) (@pq _ 7 _ _ rfl) (@pq _ 8 _ _ rfl) (fun _ _=>rfl)) (@xAan _ _ _ _ (@xAac _)) (xAat _)))))) (@xAai _ _ _ (@xAbm _ _ _ _ (@xAaf _ _ _ _ _ _ _ _ _ _ _ _ _ _ _ _ gfAo (hr.mono (by decide)) rfl T.m_fAo T.k_fAo T.d_fAo .nil pass0 (@xAaa _ _ _ _ _ (@pq _ 11 _ _ rfl) (@xAaa _ _ _ _ _ (@pq _ 5 _ _ rfl) (@xAaa _ _ _ _ _ (@pq _ 8 _ _ rfl) (@xAaa _ _ _ _ _ (@pq _ 13 _ _ rfl) (@xAaa _ _ _ _ _ (@pq _ 9 _ _ rfl) (@xAaa _ _ _ _ _ (@xAbd _ _ _ _ _ _ (hu2 hr) (@pq _ 7 _ _ rfl) (@pq _ 8 _ _ rfl) (fun _ _=>rfl)) (@xAac _) rfl) rfl) rfl) rfl) rfl) rfl) (by decide) rfl rfl) rfl)) (@xAai _ _ _ (@xAbm _ _ _ _ (@xAaf _ _ _ _ _ _ _ _ _ _ _ _ _ _ _ _ gfAf (hr.mono (by decide)) rfl T.m_fAf T.k_fAf T.d_fAf .nil pass0 (@xAaa _ _ _ _ _ (@pq _ 11 _ _ rfl) (@xAaa _ _ _ _ _ (@pq _ 5 _ _ rfl) (@xAaa _ _ _ _ _ (@pq _ 8 _ _ rfl) (@xAaa _ _ _ _ _ (@pq _ 13 _ _ rfl) (@xAaa _ _ _ _ _ (@pq _ 9 _ _ rfl) (@xAaa _ _ _ _ _ (@xAbd _ _ _ _ _ _ (hu2 hr) (@pq _ 7 _ _ rfl) (@pq _ 8 _ _ rfl) (fun _ _=>rfl)) (@xAac _) rfl) rfl) rfl) rfl) rfl) rfl) (by decide) rfl rfl) rfl))))))))) (by intro _;rfl)) (@xAai _ _ _ (@xAar _ _ _ _ (@pq _ 5 _ _ rfl)))))))))),?_⟩;obtain ⟨sp,zs,rq,lp,w0,w1,w2,t,rfl,hs,erq,iw0,iw1,iw2,⟨elp,etp⟩,kk⟩:=h;refine ⟨_,rfl,sp,zs,0,rfl,hs,by decide,fun c=>⟨_,_,rfl,rfl,(by show (0:Int)<2;decide),rfl,?_⟩⟩;generalize decide (V.int (c % 2)=V.int 1)=free;refine fun fa gfa=>⟨szOk rfl,fun a0 X0 g0 s0 e0=>⟨szOk rfl,fun a1 X1 g1 s1 e1=>⟨szOk rfl,fun a2 X2 g2 s2 e2=>⟨szOk rfl,fun a3 X3 g3 s3 e3=>⟨szOk rfl,fun a4 X4 g4 s4 e4=>⟨szOk rfl,fun a5 X5 g5 s5 e5=>?_⟩⟩⟩⟩⟩⟩;have sn:Same H (upd H fa (.dK [])):=Same.new gfa;have s15:Same X0 X5:=(((s1.trans s2).trans s3).trans s4).trans s5;have sX5:Same H X5:=(sn.trans s0).trans s15;have efa:X5 fa=some (.dK []):=s15 _ _ (s0 _ _ xAae)
 let F6:Nat->Addr:=fn6 a0 a1 a2 a3 a4 a5
 have h6:∀ i,i<6->H (F6 i)=none/\X5 (F6 i)=some (.lst []):=fun i hi=>by
  match i,hi with
  | 0,_=>exact ⟨sn.free g0,s15 _ _ e0⟩
  | 1,_=>exact ⟨(sn.trans s0).free g1,s5 _ _ (s4 _ _ (s3 _ _ (s2 _ _ e1)))⟩
  | 2,_=>exact ⟨((sn.trans s0).trans s1).free g2,s5 _ _ (s4 _ _ (s3 _ _ e2))⟩
  | 3,_=>exact ⟨(((sn.trans s0).trans s1).trans s2).free g3,s5 _ _ (s4 _ _ e3)⟩
  | 4,_=>exact ⟨((((sn.trans s0).trans s1).trans s2).trans s3).free g4,s5 _ _ e4⟩
  | 5,_=>exact ⟨(((((sn.trans s0).trans s1).trans s2).trans s3).trans s4).free g5,e5⟩
 have n6:∀ i,i<6->F6 i≠fa:=fun i hi z=>by
  have:=(h6 i hi).2;rw [z,efa] at this;cases this
 have n01:a0≠a1:=xAab e0 g1;have n02:a0≠a2:=xAab (s1 _ _ e0) g2;have n03:a0≠a3:=xAab (s2 _ _ (s1 _ _ e0)) g3;have n04:a0≠a4:=xAab (s3 _ _ (s2 _ _ (s1 _ _ e0))) g4;have n05:a0≠a5:=xAab (s4 _ _ (s3 _ _ (s2 _ _ (s1 _ _ e0)))) g5;have n12:a1≠a2:=xAab e1 g2;have n13:a1≠a3:=xAab (s2 _ _ e1) g3;have n14:a1≠a4:=xAab (s3 _ _ (s2 _ _ e1)) g4;have n15:a1≠a5:=xAab (s4 _ _ (s3 _ _ (s2 _ _ e1))) g5;have n23:a2≠a3:=xAab e2 g3;have n24:a2≠a4:=xAab (s3 _ _ e2) g4;have n25:a2≠a5:=xAab (s4 _ _ (s3 _ _ e2)) g5;have n34:a3≠a4:=xAab e3 g4;have n35:a3≠a5:=xAab (s4 _ _ e3) g5;have n45:a4≠a5:=xAab e4 g5
 have inj6:∀ i,i<6->∀ j,j<6->i<j->F6 i≠F6 j:=fun i hi j hj hij=>by
  match i,j,hi,hj,hij with
  | 0,1,_,_,_=>exact n01
  | 0,2,_,_,_=>exact n02
  | 0,3,_,_,_=>exact n03
  | 0,4,_,_,_=>exact n04
  | 0,5,_,_,_=>exact n05
  | 1,2,_,_,_=>exact n12
  | 1,3,_,_,_=>exact n13
  | 1,4,_,_,_=>exact n14
  | 1,5,_,_,_=>exact n15
  | 2,3,_,_,_=>exact n23
  | 2,4,_,_,_=>exact n24
  | 2,5,_,_,_=>exact n25
  | 3,4,_,_,_=>exact n34
  | 3,5,_,_,_=>exact n35
  | 4,5,_,_,_=>exact n45
  | i+5,j,_,_,_=>exact absurd hij (by omega)
 clear n01 n02 n03 n04 n05 n12 n13 n14 n15 n23 n24 n25 n34 n35 n45;refine ⟨efa,fkv F6 6,rfl,(by show 6≤15;decide),?_⟩;rw [xAov _ (fkv_nd (by decide))];have sY:Same H (upd X5 fa (.dK (fkv F6 6))):=sX5.wr gfa;have eY:(upd X5 fa (.dK (fkv F6 6))) fa=some (.dK (fkv F6 6)):=xAae
 have hY:∀ i,i<6->H (F6 i)=none/\(upd X5 fa (.dK (fkv F6 6))) (F6 i)=some (.lst []):=fun i hi=>⟨(h6 i hi).1,by rw [xAag (n6 i hi)];exact (h6 i hi).2⟩
 generalize upd X5 fa (.dK (fkv F6 6))=Y at sY eY hY;clear sn s15 sX5 efa h6 n6 s0 s1 s2 s3 s4 s5 e0 e1 e2 e3 e4 e5 g0 g1 g2 g3 g4 g5;refine ⟨szOk rfl,fun wl Y1 g1 s1 e1=>?_⟩
 refine ⟨wl,rfl,⟨_,SqL.of e1⟩,xAbr (xs:=(["lines","cells","leaves"]:List Str).map V.str) (fun j σ Z=>∃ (F:Nat->Addr) (u6:Option V),σ=[some (.ref sp),some (.int 1),some (.ref rq),some (.ref lp),some (.bl free),some (.ref fa),u6,none,none,none,none,none,none,none]/\Same H Z/\Z wl=some (.lst ((["lines","cells","leaves"]:List Str).map V.str))/\Z fa=some (.dK (fkv F (6+j)))/\(∀ i,i<6+j->H (F i)=none/\Z (F i)=some (.lst []))/\∀ i,i<6+j->∀ i',i'<6+j->i<i'->F i≠F i')
  ⟨F6,none,rfl,sY.trans s1,e1,s1 _ _ eY,fun i hi=>⟨(hY i hi).1,s1 _ _ (hY i hi).2⟩,inj6⟩ (fun j σ Z _ ⟨_,_,_,_,e,_⟩=>SqL.of e) ?_ ?_⟩
 ·rintro j v σ Z hv ⟨F,u6,rfl,sZ,ew,ef,hF,hi⟩
  have hj:j<3:=(ze.mp hv).1
  have ev:v=kV (kN (6+j)):=by
   match j,hj with
   | 0,_=>exact (Option.some.inj hv).symm
   | 1,_=>exact (Option.some.inj hv).symm
   | 2,_=>exact (Option.some.inj hv).symm
  refine ⟨szOk rfl,fun q Z1 g s e=>?_⟩;have nq:q≠fa:=(xAab ef g).symm;have ne:∀ i,i<6+j->F i≠q:=fun i h=>xAab (hF i h).2 g;refine ⟨_,rfl,_,rfl,fa,_,rfl,.inl ⟨fkv F (6+j),kN (6+j),s _ _ ef,ev,xAak (by unfold fkv;rw [qj,q9];omega),rfl⟩,?_⟩
  have neq:∀ i,i<6+j->F i≠fa:=fun i h z=>by
   have:=(hF i h).2;rw [z,ef] at this;cases this
  refine ⟨fun i=>if i=6+j then q else F i,_,rfl,(sZ.trans s).wr gfa,?_,?_,fun i h=>?_,fun i h i' h' e'=>?_⟩
  ·rw [xAag (fun z=>by rw [z,ef] at ew;cases ew)]
   exact s _ _ ew
  ·rw [xAae,xAgv _ (xAmw (qg _) (by omega))]
   show _=some (HO.dK (fkv _ (6+j+1)));rw [xAmp]
  ·show H (if i=6+j then q else F i)=none/\(upd Z1 fa _) (if i=6+j then q else F i)=_
   by_cases z:i=6+j
   ·rw [if_pos z,xAag nq];exact ⟨sZ.free g,e⟩
   ·rw [if_neg z,xAag (neq i (by omega))];exact ⟨(hF i (by omega)).1,s _ _ (hF i (by omega)).2⟩
  ·show (if i=6+j then q else F i)≠(if i'=6+j then q else F i')
   rw [if_neg (show i≠6+j by omega)]
   by_cases z:i'=6+j
   ·rw [if_pos z];exact ne i (by omega)
   ·rw [if_neg z];exact hi i (by omega) i' (by omega) e'
 rintro σ Z ⟨F,u6,rfl,sZ,ew,ef,hF,hi⟩;have ef:Z fa=some (.dK (fkv F 9)):=ef;have hF:∀ i,i<9->H (F i)=none/\Z (F i)=some (.lst []):=hF
 have inj:∀ i,i<9->∀ j,j<9->F i=F j->i=j:=fun i h1 j h2 e=>by
  rcases kj i j with z | z | z
  ·exact absurd e (hi i h1 j h2 z)
  ·exact z
  ·exact absurd e.symm (hi j h2 i h1 z)
 clear hi ew eY hY sY inj6 s1 e1 g1;intro dq Z1 gdq s1 ed
 refine ⟨_,rfl,lp,rfl,⟨_,SqL.of (s1 _ _ (sZ _ _ elp))⟩,xAbr (xs:=[V.ref (t 0),.ref (t 1),.ref (t 2)]) (fun j σ W=>∃ (l:Nat->Addr) (u8:Option V),σ=[some (.ref sp),some (.int 1),some (.ref rq),some (.ref lp),some (.bl free),some (.ref fa),u6,some (.ref dq),u8,none,none,none,none,none]/\Same Z W/\W dq=some (.dG (nkv (ptsD w1 w2) t l j))/\(∀ c,c<j->Z (l c)=none/\W (l c)=some (.lst []))/\∀ c,c<j->∀ d,d<j->c<d->l c≠l d)
  ⟨fun _=>dq,none,rfl,s1,ed,(fun c z=>absurd z (zc c)),fun c z=>absurd z (zc c)⟩ (fun j σ W _ ⟨_,_,_,s,_⟩=>SqL.of (s _ _ (sZ _ _ elp))) ?_ ?_⟩
 ·rintro j v σ W hv ⟨l,u8,rfl,sW,ed,hl,inl⟩
  have hj:j<3:=(ze.mp hv).1
  have ev:v=.ref (t j):=by
   match j,hj with
   | 0,_=>exact (Option.some.inj hv).symm
   | 1,_=>exact (Option.some.inj hv).symm
   | 2,_=>exact (Option.some.inj hv).symm
  subst ev;refine ⟨szOk rfl,fun q W1 g s e=>?_⟩;have nq:q≠dq:=(xAab ed g).symm;have ne:∀ c,c<j->l c≠q:=fun c h=>xAab (hl c h).2 g
  have ndq:∀ c,c<j->l c≠dq:=fun c h z=>by
   have:=(hl c h).2;rw [z,ed] at this;cases this
  refine ⟨_,rfl,_,rfl,dq,_,.tup (ptsD w1 w2 j),rfl,s _ _ ed,⟨t j,rfl,s _ _ (sW _ _ (sZ _ _ (etp j hj)))⟩,xAak (by unfold nkv;rw [qj,q9];omega),?_⟩
  rw [xAva _ _ (fun x hx z=>by
   unfold nkv at hx;obtain ⟨c,hc,rfl⟩:=qk.mp hx;have hc:=ql.mp hc
   exact absurd (xAhg (by omega) hj (KD.tup.inj z)) (by omega))]
  refine ⟨fun c=>if c=j then q else l c,_,rfl,(sW.trans s).wr gdq,?_,fun c h=>?_,fun c h d h' e'=>?_⟩
  ·rw [xAae]
   unfold nkv;rw [vj,zx]
   have:(List.range j).map (fun c=>(KD.tup (ptsD w1 w2 c),V.ref (t c),V.ref (if c=j then q else l c)))=(List.range j).map (fun c=>(KD.tup (ptsD w1 w2 c),V.ref (t c),V.ref (l c))):=yc fun c hc=>by
    have:=ql.mp hc;rw [if_neg (by omega)]
   rw [this]
   simp
  ·show Z (if c=j then q else l c)=none/\(upd W1 dq _) (if c=j then q else l c)=_
   by_cases z:c=j
   ·rw [if_pos z,xAag nq];exact ⟨sW.free g,e⟩
   ·rw [if_neg z,xAag (ndq c (by omega))];exact ⟨(hl c (by omega)).1,s _ _ (hl c (by omega)).2⟩
  ·show (if c=j then q else l c)≠(if d=j then q else l d)
   rw [if_neg (show c≠j by omega)]
   by_cases z:d=j
   ·rw [if_pos z];exact ne c (by omega)
   ·rw [if_neg z];exact inl c (by omega) d (by omega) e'
 rintro σ W ⟨l,u8,rfl,sW,ed,hl,inl⟩;have ed:W dq=some (.dG (nkv (ptsD w1 w2) t l 3)):=ed;have hl:∀ c,c<3->Z (l c)=none/\W (l c)=some (.lst []):=hl
 have inl:∀ c,c<3->∀ d,d<3->l c=l d->c=d:=fun i h1 j h2 e=>by
  rcases kj i j with z | z | z
  ·exact absurd e (inl i h1 j h2 z)
  ·exact z
  ·exact absurd e.symm (inl j h2 i h1 z)
 have nat:∀ c,c<3->vG (nkv (ptsD w1 w2) t l 3) (.tup (ptsD w1 w2 c))=some (.ref (l c)):=fun c hc=>nkv_at (fun a ha b hb e=>xAhg ha hb e) hc;have sHW:=sZ.trans sW;refine ⟨szOk rfl,fun k0 W1 gk0 sk0 ek0=>?_⟩;have sHW1:=sHW.trans sk0
 have fs0:FS W1 fa F (fun _=>⟨[],[],none,0,0,0,.none,true⟩) 0 (fun _=>⟨[],none,none,"",none,[],0,0⟩) 0 (fun _=>⟨[],none,none,"",none,[],0,0⟩) 0 [] [] [] :=
  ⟨.inl (sk0 _ _ (sW _ _ ef)),inj,fun i h1 _ _ _=>sk0 _ _ (sW _ _ (hF i h1).2),sk0 _ _ (sW _ _ (hF 3 (by decide)).2),.nil,⟨by decide,fun i j _ z=>absurd z (zc j),fun i z=>absurd z (zc i),fun i z=>absurd z (zc i),fun i z=>absurd z (zc i),fun i z=>absurd z (zc i)⟩,sk0 _ _ (sW _ _ (hF 4 (by decide)).2),.nil,⟨by decide,fun i j _ z=>absurd z (zc j),fun i z=>absurd z (zc i),fun i z=>absurd z (zc i)⟩,sk0 _ _ (sW _ _ (hF 5 (by decide)).2),.nil,⟨by decide,fun i j _ z=>absurd z (zc j),fun i z=>absurd z (zc i),fun i z=>absurd z (zc i)⟩⟩
 refine ⟨_,rfl,_,rfl,sp,_,rfl,.inl (hs.same sHW1),_,_,rfl,_,_,rfl,⟨by decide,by decide,?_⟩,?_⟩
 ·split <;> omega
 have hN:((if (63:Int)<((List.map V.int zs).length:Nat) then (63:Int) else ((List.map V.int zs).length:Nat)) - 1:Int).toNat≤62/\∀ j:Nat,j<((if (63:Int)<((List.map V.int zs).length:Nat) then (63:Int) else ((List.map V.int zs).length:Nat)) - 1:Int).toNat->j+1<zs.length:=by
  rw [qj];refine ⟨by split <;> omega,fun j=>?_⟩
  split <;> intro h <;> omega
 refine xAez (lo:=1) (fun j σ U=>FLp H sp rq lp free fa u6 dq F t l w1 w2 j σ U)
  ⟨_,0,_,0,_,0,[],[],[],fun _=>[],k0,9,2,u8,none,none,none,none,rfl,sHW1,fs0,sk0 _ _ (sW _ _ ef),sk0 _ _ ed,fun c hc=>⟨sk0 _ _ (hl c hc).2,.nil⟩,ek0,⟨by decide,by decide,by decide,by decide,fun _=>rfl⟩,fun i z=>absurd z (zc i),fun i z=>absurd z (zc i),fun i z=>absurd z (zc i),qg _,qg _,qg _⟩ ?_ ?_
 ·rintro j σ U hj ⟨S,n,M,m,N,q,xs,ms,ns,us,kq,a,b,v8,v10,v11,v12,v13,rfl,sV,fv,efv,edv,hlv,ekq,hab,hS,hM,hNn,hn,hm,hq⟩
  have hj62:j<62:=zn hj hN.1;have hjz:=hN.2 j hj;have hFn:∀ i,i<9->H (F i)=none:=fun i hi=>(hF i hi).1;have hln:∀ c,c<3->H (l c)=none:=fun c hc=>sZ.free (hl c hc).1
  have nlF:∀ c,c<3->∀ i,i<9->l c≠F i:=fun c hc i hi z=>by
   have e1:=(hl c hc).1;rw [z,(hF i hi).2] at e1;cases e1
  have hat:atI (List.map V.int zs) (1+(j:Int))=some (.int (zs[j+1])):=by
   rw [show (1+(j:Int))=((j+1:Nat):Int) by omega];refine xAdp ?_;rw [qt,qi hjz];rfl
  refine ⟨_,rfl,_,rfl,sp,_,_,_,rfl,rfl,hs.same sV,hat,_,rfl,_,rfl,_,_,_,rfl,by omega,by omega,fun V1 p s1 gp dp=>?_⟩
  have npF:∀ i,i<9->p≠F i:=fun i hi=>by
   obtain ⟨ys,e⟩:=fv.lst hi;exact (xAab e gp).symm
  have npl:∀ c,c<3->p≠l c:=fun c hc=>(xAab (hlv c hc).1 gp).symm;have npfa:fa≠p:=xAab efv gp;have npdq:dq≠p:=xAab edv gp;have nph:∀ {c:Addr} {o:HO},H c=some o->c≠p:=fun e=>xAab (sV _ _ e) gp;have step:∀ {A B:Hp},FS A fa F S n M m N q xs ms ns->A fa=some (.dK (fkv F 9))->DP A p->Same (del A p) B->FS B fa F S n M m N q xs ms ns:=fun {A B} f e d s=>f.to (d.tups s) (.inl (DP.to s e npfa)) fun i hi ys ey=>DP.to s ey (npF i hi).symm;refine ⟨_,rfl,p,rfl,dp,fun V2 r s2 d2 r0 r1=>⟨_,_,rfl,rfl,(by show (0:Int)<3;decide),?_⟩⟩;have c0:0≤r % 3:=xAci _ (by decide);have c1:r % 3<3:=xAcp _ (by decide);have s02:Same (del U p) V2:=Same.sd s1 s2;have gV:∀ {c:Addr} {o:HO} {B:Hp},Same (del U p) B->U c=some o->c≠p->B c=some o:=fun s e n=>DP.to s e n;have nkq:kq≠p:=xAab ekq gp;have ekq2:=gV s02 ekq nkq;refine ⟨_,rfl,kq,_,0,_,rfl,rfl,SqT.of ekq2,rfl,_,rfl,_,rfl,kq,_,1,_,rfl,rfl,SqT.of ekq2,rfl,_,_,rfl,rfl,.inr ⟨_,rfl,_,_,rfl,rfl,_,rfl,szOk rfl,fun kn V3 g3 s3 e3=>?_⟩⟩
  obtain ⟨a',ha',lt⟩:∃ a':Int,a+(if decide ((r % 3)≤b)=true then 1 else 0)=a'/\(Lt2 a b a' (r % 3)/\10≤a'/\a'≤a+1):=by
   refine ⟨_,rfl,?_⟩
   by_cases h:(r % 3)≤b
   ·rw [if_pos (decide_eq_true h)]
    exact ⟨.inl (by omega),by omega,by omega⟩
   ·rw [if_neg (by rw [decide_eq_false h];decide)]
    have:a≠9:=fun z=>by have:=hab.2.2.2.2 z;omega
    exact ⟨.inr ⟨by omega,by omega⟩,by omega,by omega⟩
  have e3:V3 kn=some (.tup [.int a',.int (r % 3)]):=by rw [← ha'];exact e3
  obtain ⟨lt,a10,a1⟩:=lt
  have ltS:∀ {x y:Int},Le2 x y a b->Lt2 x y a' (r % 3):=fun {x y} h=>by unfold Le2 Lt2 at *;omega
  have s03:Same (del U p) V3:=Same.trans s02 s3;have d3:=d2.same s3;refine ⟨_,rfl,szOk rfl,fun il V4 g4 s4 e4=>?_⟩;have nil':il≠p:=(DP.ne (H':=V4) d3 g4).symm;refine ⟨_,rfl,p,rfl,d3.same s4,fun V5 r5 s5 d5 r50 r51=>⟨_,_,rfl,rfl,(by show (0:Int)<5;decide),il,_,_,rfl,rfl,SqL.of (DP.to s5 e4 nil'),xAci _ (by decide),xAcp _ (by decide),fun vc hvc=>?_⟩⟩;have s35:Same (del V3 p) V5:=Same.sd s4 s5;have s05:=Same.dtrans s03 s35
  obtain ⟨ci,rfl,ci0,ci1⟩:∃ ci:Int,vc=.int ci/\0≤ci/\ci<3:=by
   simp only [List.mem_cons,List.not_mem_nil,or_false] at hvc
   rcases hvc with rfl | rfl | rfl | rfl | rfl
   ·exact ⟨0,rfl,by decide,by decide⟩
   ·exact ⟨0,rfl,by decide,by decide⟩
   ·exact ⟨0,rfl,by decide,by decide⟩
   ·exact ⟨1,rfl,by decide,by decide⟩
   ·exact ⟨2,rfl,by decide,by decide⟩
  refine ⟨lp,_,ci,rfl,rfl,SqL.of (gV s05 (sV _ _ elp) (nph elp)),ci0,ci1,fun vp hvp=>?_⟩
  obtain ⟨c,hc,rfl⟩:∃ c,c<3/\vp=.ref (t c):=by
   simp only [List.mem_cons,List.not_mem_nil,or_false] at hvp
   rcases hvp with rfl | rfl | rfl
   ·exact ⟨0,by decide,rfl⟩
   ·exact ⟨1,by decide,rfl⟩
   ·exact ⟨2,by decide,rfl⟩
  refine ⟨_,rfl,_,rfl,rq,_,(r % 3),rfl,rfl,SqL.of (gV s05 (sV _ _ erq) (nph erq)),c0,c1,fun vw hvw=>?_⟩
  obtain ⟨w,rfl,hw⟩:∃ w:Str,vw=.str w/\PyData.strOk w=true:=by
   simp only [List.mem_cons,List.not_mem_nil,or_false] at hvw
   rcases hvw with rfl | rfl | rfl
   ·exact ⟨_,rfl,xAjt iw0⟩
   ·exact ⟨_,rfl,xAjt iw1⟩
   ·exact ⟨_,rfl,xAjt iw2⟩
  refine ⟨_,rfl,_,_,rfl,rfl,szOk rfl,fun nq V6 g6 s6 e6=>?_⟩;have s06:Same (del U p) V6:=Same.trans s05 s6;have d6:=d5.same s6;have e36:V6 kn=_:=s6 _ _ (DP.to s35 e3 (fun z=>by obtain ⟨_,e',_⟩:=d3;rw [z,e'] at e3;cases e3));have s16:Same (del V1 p) V6:=Same.trans (Same.dtrans (Same.trans s2 s3) s35) s6;have f6:=step (fv.same s1) (s1 _ _ efv) dp s16;have efv6:=gV s06 efv npfa;have edv6:=gV s06 edv npdq;refine ⟨fun b U'=>Same (del V6 p) U'/\DP U' p/\(b=false->0<(us c).length),?_,?_⟩
  ·refine ⟨_,rfl,p,rfl,d6,fun V7 r7 s7 d7 _ _=>⟨_,_,rfl,rfl,(by show (0:Int)<2;decide),rfl,_,rfl,?_⟩⟩
   by_cases h0:V.int (r7 % 2)=.int 0
   ·exact itT (decide_eq_true h0) ⟨s7,d7,fun z=>by cases z⟩
   ·refine itF (decide_eq_false h0) ?_
    have s07:=Same.dtrans s06 s7;refine ⟨_,rfl,_,rfl,dq,_,.tup (ptsD w1 w2 c),.ref (l c),rfl,.inl (DP.to s7 edv6 npdq),⟨t c,rfl,gV s07 (sV _ _ (etp c hc)) (nph (etp c hc))⟩,nat c hc,szOk rfl,fun zq V8 g8 s8 e8=>⟨l c,zq,us c,rfl,rfl,SqL.of (s8 _ _ (gV s07 (hlv c hc).1 (npl c hc).symm)),SqL.of e8,_,rfl,Same.trans s7 s8,d7.same s8,fun z=>?_⟩⟩;have:=of_decide_eq_false z;exact List.length_pos_iff.mpr this
  rintro bb V7 ⟨s7,d7,hbb⟩;have s07:=Same.dtrans s06 s7;have s17:=Same.dtrans s16 s7;have f7:=step (fv.same s1) (s1 _ _ efv) dp s17;have t07:Tups U V7:=s1.tups.trans (dp.tups s17);have efv7:=gV s07 efv npfa;have edv7:=gV s07 edv npdq;have el7:∀ c,c<3->V7 (l c)=some (.lst (us c)):=fun c hc=>gV s07 (hlv c hc).1 (npl c hc).symm;have an7:∀ c,c<3->AN (NM (nkS S) V7) (us c) (minesS S n (ptsD w1 w2 c)):=fun c hc=>(hlv c hc).2.imp fun v i g=>NM.tups g t07;have etp7:=gV s07 (sV _ _ (etp c hc)) (nph (etp c hc));have sH7:Same H V7:=fun b o e=>gV s07 (sV _ _ e) (nph e);have t67:Tups V6 V7:=d6.tups s7;have enq7:=t67 _ _ e6;have ekn7:=t67 _ _ e36;have hp0:H p=none:=sV.free gp;have nfl:fa≠l c:=rd_ne f7.dk (el7 c hc)
  have ndl:dq≠l c:=fun z=>by have:=el7 c hc;rw [← z,edv7] at this;cases this
  have ndF:∀ i,i<9->dq≠F i:=fun i hi z=>by obtain ⟨ys,e⟩:=f7.lst hi;rw [← z,edv7] at e;cases e
  have nfF:∀ i,i<9->fa≠F i:=fun i hi=>by obtain ⟨ys,e⟩:=f7.lst hi;exact rd_ne f7.dk e
  have lay:=xAmx iw1 iw2 hc;clear s2 s3 s35 s4 s5 s6 s7 s02 s03 s05 s06 s16 d2 d3 d5 d6 f6 efv6 edv6 t67 e6 e36 e3 e4 ekq2 step hvc hvp hvw hat s1 dp s17
  cases bb with
  | true =>
   refine itT rfl ⟨_,rfl,_,rfl,_,rfl,_,rfl,_,rfl,_,rfl,_,rfl,dq,_,.tup (ptsD w1 w2 c),.ref (l c),rfl,.inl edv7,⟨t c,rfl,etp7⟩,nat c hc,p,fa,F,S,n,M,m,N,q,xs,ms,ns,.ref (t c),ptsD w1 w2 c,nq,w,10+(1+(j:Int)),kn,a',(r % 3),l c,us c,rfl,f7,d7,⟨t c,rfl,etp7⟩,lay,enq7,hw,ekn7,el7 c hc,an7 c hc,npl c hc,fun i hi=>⟨npF i hi,nlF c hc i hi⟩,fun i hi cc z=>?_,fun i hi=>ltS (hS i hi).1,by omega,fun V9 S' n' xs' us' f9 d9 el9 an9 ag hn1 hn2 new rest=>?_⟩
   ·obtain ⟨_,_,w',x',c',e',hx⟩:=hS i hi
    rw [e'] at z;injection z with _ z;injection z with z _;injection z with z;omega
   have t79:=rest.tups fun b hb=>by
    rcases hb with rfl | rfl | rfl
    ·obtain ⟨ds,e,_⟩:=d7;exact ⟨_,e⟩
    ·exact ⟨_,el7 c hc⟩
    ·exact ⟨_,f7.sl⟩
   refine ⟨S',n',M,m,N,q,xs',ms,ns,fun d=>if d=c then us' else us d,kn,a',(r % 3),_,_,_,_,_,rfl,rest.fresh sH7 (fun b hb=>?_),f9,rest fa _ efv7 (fun z=>?_),rest dq _ edv7 (fun z=>?_),fun d hd=>?_,t79 _ _ ekn7,⟨by omega,by omega,c0,by omega,fun z=>absurd z (by omega)⟩,fun i hi=>?_,fun i hi=>?_,fun i hi=>?_,by omega,by omega,by omega⟩
   ·rcases hb with rfl | rfl | rfl
    ·exact hp0
    ·exact hln c hc
    ·exact hFn 3 (by decide)
   ·rcases z with z | z | z
    ·exact npfa z
    ·exact nfl z
    ·exact nfF 3 (by decide) z
   ·rcases z with z | z | z
    ·exact npdq z
    ·exact ndl z
    ·exact ndF 3 (by decide) z
   ·show V9 (l d)=some (.lst (if d=c then us' else us d))/\AN _ (if d=c then us' else us d) _
    by_cases z:d=c
    ·subst z;rw [if_pos rfl];exact ⟨el9,an9⟩
    ·rw [if_neg z]
     refine ⟨rest _ _ (el7 d hd) fun y=>?_,?_⟩
     ·rcases y with y | y | y
      ·exact npl d hd y.symm
      ·exact z (inl d hd c hc y)
      ·exact nlF d hd 3 (by decide) y
     ·rw [xAhh ag hn1 fun i h1 h2 y=>z (xAhg hd hc (y.symm.trans (new i h1 h2).1))]
      exact xAed (an7 d hd) fun v i hi g=>NM.agr ag (xAcs hi).1 (NM.tups g t79)
   ·by_cases hin:i<n
    ·rw [ag i hin]
     obtain ⟨h1,h2,w',x',c',e',hx⟩:=hS i hin;refine ⟨?_,h2,w',x',c',e',by omega⟩;have:=ltS h1;unfold Lt2 at this;unfold Le2;omega
    ·obtain ⟨_,⟨cc,h2⟩,h3,h4⟩:=new i (by omega) hi
     exact ⟨.inr ⟨h3,by omega⟩,by omega,w,_,cc,h2,by omega⟩
   ·obtain ⟨h1,h2⟩:=hM i hi
    have:=ltS h1;exact ⟨by unfold Lt2 at this;unfold Le2;omega,h2⟩
   ·obtain ⟨h1,h2⟩:=hNn i hi
    have:=ltS h1;exact ⟨by unfold Lt2 at this;unfold Le2;omega,h2⟩
  | false =>
   refine itF rfl ⟨_,rfl,_,rfl,_,rfl,_,rfl,_,rfl,_,rfl,_,rfl,dq,_,.tup (ptsD w1 w2 c),.ref (l c),rfl,.inl edv7,⟨t c,rfl,etp7⟩,nat c hc,p,fa,F,S,n,M,m,N,q,xs,ms,ns,.ref (t c),ptsD w1 w2 c,nq,w,10+(1+(j:Int)),kn,a',(r % 3),l c,us c,rfl,f7,d7,⟨t c,rfl,etp7⟩,lay,enq7,hw,ekn7,el7 c hc,an7 c hc,hbb rfl,npl c hc,fun i hi=>⟨npF i hi,nlF c hc i hi⟩,fun i hi=>ltS (hM i hi).1,fun i hi=>ltS (hNn i hi).1,by omega,by omega,fun V9 M' m' N' q' ms' ns' f9 d9 hm' hq' newM newN rest=>?_⟩
   have t79:=rest.tups fun b hb=>by
    rcases hb with rfl | rfl | rfl
    ·obtain ⟨ds,e,_⟩:=d7;exact ⟨_,e⟩
    ·exact ⟨_,f7.ml⟩
    ·exact ⟨_,f7.nl⟩
   refine ⟨S,n,M',m',N',q',xs,ms',ns',us,kn,a',(r % 3),_,_,_,_,_,rfl,rest.fresh sH7 (fun b hb=>?_),f9,rest fa _ efv7 (fun z=>?_),rest dq _ edv7 (fun z=>?_),fun d hd=>⟨rest _ _ (el7 d hd) fun y=>?_,(an7 d hd).imp fun v i g=>NM.tups g t79⟩,t79 _ _ ekn7,⟨by omega,by omega,c0,by omega,fun z=>absurd z (by omega)⟩,fun i hi=>?_,fun i hi=>?_,fun i hi=>?_,by omega,by omega,by omega⟩
   ·rcases hb with rfl | rfl | rfl
    ·exact hp0
    ·exact hFn 4 (by decide)
    ·exact hFn 5 (by decide)
   ·rcases z with z | z | z
    ·exact npfa z
    ·exact nfF 4 (by decide) z
    ·exact nfF 5 (by decide) z
   ·rcases z with z | z | z
    ·exact npdq z
    ·exact ndF 4 (by decide) z
    ·exact ndF 5 (by decide) z
   ·rcases y with y | y | y
    ·exact npl d hd y.symm
    ·exact nlF d hd 4 (by decide) y
    ·exact nlF d hd 5 (by decide) y
   ·obtain ⟨h1,h2,w',x',c',e',hx⟩:=hS i hi
    refine ⟨?_,h2,w',x',c',e',by omega⟩;have:=ltS h1;unfold Lt2 at this;unfold Le2;omega
   ·obtain ⟨h1,h2,h3⟩:=newM i hi
    refine ⟨h1,?_⟩
    by_cases z:i<m
    ·rw [h2 z];exact (hM i z).2
    ·exact ⟨by rw [(h3 (by omega)).1];exact a10,_,_,(h3 (by omega)).2⟩
   ·obtain ⟨h1,h2,h3⟩:=newN i hi
    refine ⟨h1,?_⟩
    by_cases z:i<q
    ·rw [h2 z];exact (hNn i z).2
    ·rw [h3 (by omega)];exact a10
 rintro σ U ⟨S,n,M,m,N,q,xs,ms,ns,us,kq,a,b,v8,v10,v11,v12,v13,rfl,sV,fv,efv,edv,hlv,ekq,hab,hS,hM,hNn,hn,hm,hq⟩;generalize hjj:((if (63:Int)<((List.map V.int zs).length:Nat) then (63:Int) else ((List.map V.int zs).length:Nat)) - 1:Int).toNat=jj at *;have hN1:=hN.1;refine ⟨_,rfl,kk U fa F S n M m N q xs ms ns sV fv efv gfa (fun i hi=>(hF i hi).1) ⟨by omega,by omega,by omega,fun i hi=>?_,fun i hi=>?_,fun i hi=>?_,fun i hi=>?_,fun i hi=>(hM i hi).2.2⟩ (fun h=>yq Nat.zero_lt_one (hN.2 0 (by omega)))⟩
 ·obtain ⟨_,_,w,x,c,e,hx⟩:=hS i hi
  exact ⟨w,x,c,e,by omega⟩
 ·obtain ⟨h1,h2,_⟩:=hS i hi
  unfold Le2 at h1;omega
 ·obtain ⟨h1,h2,_⟩:=hM i hi
  unfold Le2 at h1;omega
 ·obtain ⟨h1,h2⟩:=hNn i hi
  unfold Le2 at h1;omega
theorem ok_fBd (T:Txt K mg d tk) (gfBe:FnOk P w K mg base CX0 5 d.fBe d.fBed ["facts","part"] (sp_fBe K)) (gfAz:FnOk P w K mg base CX0 1 d.fAz d.fAzd ["facts","part"] (sp_fAz K)):FnOk P w K mg base CX0 6 d.fBd d.fBdd ["facts","part"] (sp_fBd K):=by
 refine T.F_fBd.ok xAws (fun vs H Q E h=>xAvv h) (fun cdv A outer s H vs Q E hr h=>?_);have hu:(A.deeper (envOfC "living" (defScope s_fBd) s.heap.objs.size d.fBd cdv)).units<cLine:=hr.units0;refine ⟨_,(@xAad _ _ _ _ _ (@xAaj _ _ (2) _ _ _ _ xAws.nd rfl (Or.inr rfl) (@xAbn _ _ _ _ _ _ _ _ _ (xAgh hr.hd (hu4 hr)) rfl T.b_dict boot_dict (@xAaa _ _ _ _ _ (@xAbs _ _ _ _ _ _ _ (["fact"]) ([]) _ _ _ _ _ rfl (@xAav _ _ _ _ (@xAaf _ _ _ _ _ _ _ _ _ _ _ _ _ _ _ _ gfAz (hr.mono (by decide)) rfl T.m_fAz T.k_fAz T.d_fAz .nil pass0 (@xAaa _ _ _ _ _ (@pq _ 0 _ _ rfl) (@xAaa _ _ _ _ _ (@pq _ 1 _ _ rfl) (@xAac _) rfl) rfl) (by decide) rfl rfl)) ⟨rfl,by decide +kernel,by decide +kernel⟩ (caps0 (by decide +kernel)) (fun _ _ _=>(@xAaq _ _ (0) _ (by show List.Nodup (["fact"]:List Str);decide +kernel) rfl (Or.inl rfl) (.inr rfl))) (fun _=>xAas rfl) (fun _ _ _=>(@xAfy _)) (fun _ _ _=>(@xAam _ _ _ _ _ (@xAaa _ _ _ _ _ (@pe_ix _ _ _ _ _ _ _ (xAbv (K:=K) rfl) (@pq _ 0 _ _ rfl) (@xAah _ _ _ _) (fun _ _=>rfl)) (@xAaa _ _ _ _ _ (@pe_ix _ _ _ _ _ _ _ (xAbv (K:=K) rfl) (@pq _ 0 _ _ rfl) (@xAah _ _ _ _) (fun _ _=>rfl)) (@xAac _) rfl) rfl))) (by intro _;rfl)) (@xAac _) rfl) (by decide) (by decide) rfl rfl) rfl (.inl rfl)) (@xAai _ _ _ (@xAar _ _ _ _ (@xAbs _ _ _ _ _ _ _ (["name"]) ([("lives",2)]) _ _ _ _ _ rfl (@xAav _ _ _ _ (@xAaf _ _ _ _ _ _ _ _ _ _ _ _ _ _ _ _ gfBe (hr.mono (by decide)) rfl T.m_fBe T.k_fBe T.d_fBe .nil pass0 (@xAaa _ _ _ _ _ (@pq _ 0 _ _ rfl) (@xAaa _ _ _ _ _ (@pq _ 1 _ _ rfl) (@xAac _) rfl) rfl) (by decide) rfl rfl)) ⟨rfl,by decide +kernel,by decide +kernel⟩ (xAca (defScope s_fBd) ["facts","part","lives"] rfl rfl (fun _ h=>xAbi h) (by decide +kernel) (by decide +kernel) (by decide +kernel)) (fun _ _ _=>(@xAaq _ _ (0) _ (by show List.Nodup (["name","lives"]:List Str);decide +kernel) rfl (Or.inl rfl) (.inr rfl))) (fun _=>xAas rfl) (fun _ _ _=>(@xAdh _ _ _ (@xAnn _ _ _ (@xAbd _ _ _ _ _ _ (hu2 hr) (@pv _ 1 _ _ rfl (Or.inr (Or.inl rfl)) rfl rfl) (@pq _ 0 _ _ rfl) (fun _ _=>rfl)) (by intro _;rfl)))) (fun _ _ _=>(@pq _ 0 _ _ rfl)) (by intro _;rfl))))),?_⟩;obtain ⟨fa,vp,pt,S,n,rfl,fg,gvp,hlay,kk⟩:=h
 have W:WS S n:=by obtain ⟨_,_,_,_,_,_,_,W⟩:=fg;exact W
 have PW0:=W.plw pt;refine ⟨_,rfl,_,rfl,fa,vp,pt,S,n,rfl,fg,gvp,hlay,fun H1 q zs s1 g1 e1 az=>?_⟩
 have hzl:zs.length≤1400:=by rw [az.1];exact qh (qh (wb _ _) (by rw [q9];exact qg _)) W.few
 refine ⟨q,rfl,⟨_,SqL.of e1⟩,xAdq (xs:=zs) (big2 (by omega)) (fun j us H'=>Same H1 H'/\∃ kvs,PrsV H' us kvs/\PKs (nkS S) (fun v i=>v=.bl (S i).lv) kvs ((minesS S n pt).take j)) ⟨Same.refl _,[],trivial,trivial⟩ (fun _ _ H' s'=>SqL.of (s'.1 _ _ e1)) (fun j x us H' K1 K0 hx s' k1 k0=>?_) fun H3 up us s' hu3 huq=>?_⟩
 ·obtain ⟨s',kvs,pr,pk⟩:=s'
  obtain ⟨i,ei,sn⟩:=az.at hx;obtain ⟨b,vq,vn,vb,kq,vg,rfl,h1,h2,h3,h4,h5,h6⟩:=SN.tups sn s'.tups
  have tk:(minesS S n pt).take (j+1)=(minesS S n pt).take j++[i]:=by rw [z8,ei];rfl
  refine iteT (B:=K0 H') ?_;refine ⟨_,rfl,b,_,1,_,rfl,rfl,SqT.of h1,rfl,_,rfl,b,_,5,_,rfl,rfl,SqT.of h1,rfl,szOk rfl,fun tq H4 g4 s4 e4=>k1 _ _ ⟨s'.trans s4,kvs++[(.tup (nkS S i),vn,.bl (S i).lv)],PrsV.snoc (e:=(.tup (nkS S i),vn,.bl (S i).lv)) ⟨tq,rfl,e4,h3.tups s4.tups⟩ (pr.tups s4.tups),?_⟩⟩;rw [tk];exact pk.snoc rfl rfl
 obtain ⟨s3,kvs,pr,pk⟩:=s';have n3:Same H3 (upd H3 up (.lst us)):=Same.new huq;rw [show zs.length=(minesS S n pt).length from az.1,z7] at pk;refine ⟨up,us,kvs,rfl,SqL.of xAae,pr.tups n3.tups,by omega,fun dq H5 g5 s5 e5=>?_⟩;have s15:=(s3.trans n3).trans s5;have s05:=s1.trans s15
 have get:∀ i∈minesS S n pt,vG (putAll [] kvs) (.tup (nkS S i))=some (.bl (S i).lv):=fun i hi=>by
  obtain ⟨v,h1,rfl⟩:=PKs.get (all:=minesS S n pt) PW0.inj (done:=[]) (acc:=[]) pk (fun i z=>nomatch z) (fun i h=>h) (fun i z=>nomatch z) i (.inr hi);exact h1
 refine ⟨_,rfl,_,rfl,fa,vp,pt,S,n,rfl,fg.same s05,gvp.tups s05.tups,hlay,fun H6 rp rv s6 g6 e6 ar=>?_⟩
 have hrl:rv.length≤1400:=by rw [ar.1];exact qh (xAbu W) W.few
 refine ⟨rp,rfl,⟨_,SqL.of e6⟩,xAdq (xs:=rv) (big2 (by omega)) (fun j us H'=>H'=H6/\AN (NM (nkS S) H6) us (((rowS S n pt).take j).filter fun i=>(S i).lv)) ⟨rfl,.nil⟩ (fun _ _ H' s'=>by rw [s'.1];exact SqL.of e6) (fun j x us H' K1 K0 hx s' k1 k0=>?_) fun H9 np rs s' hr9 hrq=>?_⟩
 ·obtain ⟨rfl,au⟩:=s'
  obtain ⟨i,ei,nm⟩:=ar.at hx
  have him:i∈minesS S n pt:=qv.mpr (by
   have:=(xAcm W).mp (zk ei)
   exact ⟨ql.mpr this.1,xAau.mpr this.2⟩)
  have tk:(rowS S n pt).take (j+1)=(rowS S n pt).take j++[i]:=by rw [z8,ei];rfl
  refine ⟨_,rfl,_,rfl,dq,_,.tup (nkS S i),.bl (S i).lv,rfl,.inl (s6 _ _ e5),nm,get i him,_,rfl,?_⟩
  by_cases hl:(S i).lv=true
  ·refine itT hl ⟨_,rfl,k1 _ _ ⟨rfl,?_⟩⟩
   rw [tk];exact AN.pick (vs:=rv) au nm hl
  ·refine itF (by simpa using hl) (k0 _ ⟨rfl,?_⟩)
   rw [tk];exact au.skip hl
 obtain ⟨rfl,ar9⟩:=s';have n9:Same H9 (upd H9 np (.lst rs)):=Same.new hrq;have s06:=s05.trans s6;rw [show rv.length=(rowS S n pt).length from ar.1,z7] at ar9;exact kk _ np rs (s06.trans n9) (s06.free hrq) xAae (ar9.imp fun v i g=>NM.tups g n9.tups)
theorem ok_fBc (T:Txt K mg d tk) (gfBe:FnOk P w K mg base CX0 5 d.fBe d.fBed ["facts","part"] (sp_fBe K)) (gfAy:FnOk P w K mg base CX0 1 d.fAy d.fAyd ["row"] (sp_fAy K)) (gfBa:FnOk P w K mg base CX0 2 d.fBa d.fBad ["seats","begin","end"] (sp_fBa K)):FnOk P w K mg base CX0 6 d.fBc d.fBcd ["facts","part","begin","end"] (sp_fBc K):=by
 refine T.F_fBc.ok xAsp (fun vs H Q E h=>xAvs h) (fun cdv A outer s H vs Q E hr h=>?_);have hu:(A.deeper (envOfC "covered" (defScope s_fBc) s.heap.objs.size d.fBc cdv)).units<cLine:=hr.units0;refine ⟨_,(@xAad _ _ _ _ _ (@xAaj _ _ (4) _ _ _ _ xAsp.nd rfl (Or.inl rfl) (@xAaf _ _ _ _ _ _ _ _ _ _ _ _ _ _ _ _ gfBe (hr.mono (by decide)) rfl T.m_fBe T.k_fBe T.d_fBe .nil pass0 (@xAaa _ _ _ _ _ (@pq _ 0 _ _ rfl) (@xAaa _ _ _ _ _ (@pq _ 1 _ _ rfl) (@xAac _) rfl) rfl) (by decide) rfl rfl) rfl (.inl rfl)) (@xAad _ _ _ _ _ (@xAaj _ _ (5) _ _ _ _ xAsp.nd rfl (Or.inl rfl) (@xAaf _ _ _ _ _ _ _ _ _ _ _ _ _ _ _ _ gfBa (hr.mono (by decide)) rfl T.m_fBa T.k_fBa T.d_fBa .nil pass0 (@xAaa _ _ _ _ _ (@xAaf _ _ _ _ _ _ _ _ _ _ _ _ _ _ _ _ gfAy (hr.mono (by decide)) rfl T.m_fAy T.k_fAy T.d_fAy .nil pass0 (@xAaa _ _ _ _ _ (@pq _ 4 _ _ rfl) (@xAac _) rfl) (by decide) rfl rfl) (@xAaa _ _ _ _ _ (@pq _ 2 _ _ rfl) (@xAaa _ _ _ _ _ (@pq _ 3 _ _ rfl) (@xAac _) rfl) rfl) rfl) (by decide) rfl rfl) rfl (.inl rfl)) (@xAai _ _ _ (@xAar _ _ _ _ (@xAgs _ _ _ _ _ _ _ _ _ _ xAkv (@pq _ 4 _ _ rfl) (@xAdf _ _ _ (@pxt _ _ _ _ _ _ _ (@pq _ 5 _ _ rfl))) (@xAdf _ _ _ (@pxt _ _ _ _ _ _ _ (@pq _ 5 _ _ rfl)))))))),?_⟩;obtain ⟨fa,vp,pt,S,n,vb,ve,b,e,rfl,fg,gvp,hlay,gb,hb,ge,he,kk⟩:=h
 have W:WS S n:=by obtain ⟨_,_,_,_,_,_,_,W⟩:=fg;exact W
 refine ⟨_,rfl,_,rfl,fa,vp,pt,S,n,rfl,fg,gvp,hlay,fun H1 q zs s1 g1 e1 az=>?_⟩;have hib:SdIn (rowS S n pt) b:=fun i c z=>(xAcm W).mpr (hb i c z);have hie:SdIn (rowS S n pt) e:=fun i c z=>(xAcm W).mpr (he i c z);refine ⟨_,rfl,q,zs,nkS S,rowS S n pt,rfl,e1,az,xAbe W,(fun i hi j hj=>W.inj i (xAaz W hi) j (xAaz W hj)),qh (xAbu W) W.few,fun H2 dq kvs s2 g2 e2 hse=>?_⟩;have s12:=s1.trans s2;refine ⟨_,rfl,_,rfl,dq,kvs,S,rowS S n pt,vb,ve,b,e,rfl,e2,hse,gb.tups s12.tups,hib,ge.tups s12.tups,hie,fun H3 tq s3 e3=>?_⟩
 have fl:seat (rowS S n pt) b≤zs.length:=by rw [az.1];exact xAis hib
 have ll:seat (rowS S n pt) e≤zs.length:=by rw [az.1];exact xAis hie
 refine ⟨_,rfl,_,rfl,tq,_,0,_,rfl,rfl,SqT.of e3,rfl,_,rfl,_,rfl,tq,_,1,_,rfl,rfl,SqT.of e3,rfl,_,rfl,q,zs,rfl,SqL.of (s3 _ _ (s2 _ _ e1)),fun p H4 g4 s4 e4=>?_⟩;rw [xAvl fl ll] at e4;have s03:=s12.trans s3;refine kk H4 p _ (s03.trans s4) (s03.free g4) e4 ?_;have t14:=((s2.trans s3).trans s4).tups;exact ((az.imp fun v i g=>NM.tups g t14).drop _).take _
theorem ok_fAd (T:Txt K mg d tk) (gfBd:FnOk P w K mg base CX0 6 d.fBd d.fBdd ["facts","part"] (sp_fBd K)) (gfBe:FnOk P w K mg base CX0 5 d.fBe d.fBed ["facts","part"] (sp_fBe K)) (gfAy:FnOk P w K mg base CX0 1 d.fAy d.fAyd ["row"] (sp_fAy K)) (gfAa:FnOk P w K mg base CX0 3 d.fAa d.fAad ["facts","part","row"] (sp_fAa K)):FnOk P w K mg base CX0 7 d.fAd d.fAdd ["facts","part","place"] (sp_fAd K):=by
 refine T.F_fAd.ok xAhi (fun vs H Q E h=>xAwd h) (fun cdv A outer s H vs Q E hr h=>?_);have hu:(A.deeper (envOfC "told_of_signs" (defScope s_fAd) s.heap.objs.size d.fAd cdv)).units<cLine:=hr.units0;have hu1:(A.deeper (envOfC "told_of_signs" (defScope s_fAd) s.heap.objs.size d.fAd cdv)).units+1<cLine:=hu_of hr;refine ⟨_,(@xAad _ _ _ _ _ (@xAaj _ _ (3) _ _ _ _ xAhi.nd rfl (Or.inl rfl) (@xAaf _ _ _ _ _ _ _ _ _ _ _ _ _ _ _ _ gfBe (hr.mono (by decide)) rfl T.m_fBe T.k_fBe T.d_fBe .nil pass0 (@xAaa _ _ _ _ _ (@pq _ 0 _ _ rfl) (@xAaa _ _ _ _ _ (@pq _ 1 _ _ rfl) (@xAac _) rfl) rfl) (by decide) rfl rfl) rfl (.inl rfl)) (@xAad _ _ _ _ _ (@xAaj _ _ (4) _ _ _ _ xAhi.nd rfl (Or.inr rfl) (@xAaf _ _ _ _ _ _ _ _ _ _ _ _ _ _ _ _ gfAy (hr.mono (by decide)) rfl T.m_fAy T.k_fAy T.d_fAy .nil pass0 (@xAaa _ _ _ _ _ (@pq _ 3 _ _ rfl) (@xAac _) rfl) (by decide) rfl rfl) rfl (.inl rfl)) (@xAad _ _ _ _ _ (@xAaj _ _ (5) _ _ _ _ xAhi.nd rfl (Or.inr rfl) (@xAaf _ _ _ _ _ _ _ _ _ _ _ _ _ _ _ _ gfAa (hr.mono (by decide)) rfl T.m_fAa T.k_fAa T.d_fAa .nil pass0 (@xAaa _ _ _ _ _ (@pq _ 0 _ _ rfl) (@xAaa _ _ _ _ _ (@pq _ 1 _ _ rfl) (@xAaa _ _ _ _ _ (@pq _ 3 _ _ rfl) (@xAac _) rfl) rfl) rfl) (by decide) rfl rfl) rfl (.inl rfl)) (@xAad _ _ _ _ _ (@xAaj _ _ (6) _ _ _ _ xAhi.nd rfl (Or.inl rfl) (@xAij _ _) rfl (.inl rfl)) (@xAad _ _ _ _ _ (@xAcn _ _ _ _ _ _ _ _ PassesOwn.never rfl (@xAav _ _ _ _ (@xAaf _ _ _ _ _ _ _ _ _ _ _ _ _ _ _ _ gfBd (hr.mono (by decide)) rfl T.m_fBd T.k_fBd T.d_fBd .nil pass0 (@xAaa _ _ _ _ _ (@pq _ 0 _ _ rfl) (@xAaa _ _ _ _ _ (@pq _ 1 _ _ rfl) (@xAac _) rfl) rfl) (by decide) rfl rfl)) (@xAaq _ _ (7) _ xAhi.nd rfl (Or.inr rfl) (.inl rfl)) (@xAad _ _ _ _ _ (@xAku _ (8) _ _ _ _ _ _ _ _ _ (["kind"]) ([("telling",5),("seats",4),("name",7)]) _ _ _ _ _ xAhi.nd rfl (Or.inl rfl) rfl (@xAav _ _ _ _ (@xAay _ _ _ _ _ _ _ _ _ (xAgn (hu61 hr) hr.hd) rfl T.b_sorted boot_sorted (@xAaa _ _ _ _ _ (@pv _ 5 _ _ rfl (Or.inr (Or.inl rfl)) rfl rfl) (@xAac _) rfl) (by decide) (by decide) rfl rfl)) ⟨rfl,by decide +kernel,by decide +kernel⟩ (xAca (defScope s_fAd) ["facts","part","place","row","seats","telling","told","name","marks"] rfl rfl (fun _ h=>xAbi h) (by decide +kernel) (by decide +kernel) (by decide +kernel)) (fun _ _ _=>(@xAaq _ _ (0) _ (by show List.Nodup (["kind","telling","seats","name"]:List Str);decide +kernel) rfl (Or.inl rfl) (.inr rfl))) (fun _=>xAas rfl) (fun _ _ _=>(@xAfy _)) (fun _ _ _=>(@pe_ix _ _ _ _ _ _ _ (xAqz (K:=K) rfl) (@xAbo _ _ _ _ _ _ hu1 (@pv _ 1 _ _ rfl (Or.inr (Or.inl rfl)) rfl rfl) (@pq _ 0 _ _ rfl) (fun _ _=>rfl)) (@xAbd _ _ _ _ _ _ (hu2 hr) (@pv _ 2 _ _ rfl (Or.inr (Or.inl rfl)) rfl rfl) (@pv _ 3 _ _ rfl (Or.inr (Or.inl rfl)) rfl rfl) (fun _ _=>rfl)) (fun _ _=>rfl))) (by intro _;rfl) rfl (.inl rfl)) (@xAai _ _ _ (@xAma _ _ _ _ _ _ _ _ _ (hu2 hr) (@pq _ 6 _ _ rfl) (@pv _ 7 _ _ rfl (Or.inr (Or.inl rfl)) rfl rfl) (@xAbs _ _ _ _ _ _ _ (["mark"]) ([("place",2)]) _ _ _ _ _ rfl (@xAav _ _ _ _ (@pq _ 8 _ _ rfl)) ⟨rfl,by decide +kernel,by decide +kernel⟩ (xAca (defScope s_fAd) ["facts","part","place","row","seats","telling","told","name","marks"] rfl rfl (fun _ h=>xAbi h) (by decide +kernel) (by decide +kernel) (by decide +kernel)) (fun _ _ _=>(@xAaq _ _ (0) _ (by show List.Nodup (["mark","place"]:List Str);decide +kernel) rfl (Or.inl rfl) (.inr rfl))) (fun _=>xAas rfl) (fun _ _ _=>(@xAdh _ _ _ (@PW.pt _ _ _ (@xAjh _ _ _ _ _ _ _ (@xAao _ _ _ _ _ _ _ _ xAfu (@pq _ 0 _ _ rfl) (@xAcx _ _ _) (xAat _)) (@xAft _ _ _ _ (@xAao _ _ _ _ _ _ _ _ xAfu (@pe_ix _ _ _ _ _ _ _ (xAbv (K:=K) rfl) (@pq _ 0 _ _ rfl) (@xAah _ _ _ _) (fun _ _=>rfl)) (@xAcx _ _ _) (xAat _))))))) (fun _ _ _=>(@xAam _ _ _ _ _ (@xAaa _ _ _ _ _ (@pe_ix _ _ _ _ _ _ _ (xAbv (K:=K) rfl) (@pq _ 0 _ _ rfl) (@xAah _ _ _ _) (fun _ _=>rfl)) (@xAaa _ _ _ _ _ (@pe_ix _ _ _ _ _ _ _ (xAbv (K:=K) rfl) (@pq _ 0 _ _ rfl) (@pv _ 1 _ _ rfl (Or.inr (Or.inl rfl)) rfl rfl) (fun _ _=>rfl)) (@xAac _) rfl) rfl))) (by intro _;rfl)) rfl))) (by intro _;rfl)) (@xAai _ _ _ (@xAar _ _ _ _ (@pq _ 6 _ _ rfl)))))))),?_⟩;obtain ⟨fa,F,S,n,M,m,N,q,xs,ms,ns,vp,pt,pl,rfl,fs,gvp,hlay,hm,kk⟩:=h;have W:=fs.ws;have WM:=fs.wm;have inj:Inj (nkS S) (rowS S n pt):=fun i hi j hj=>W.inj i (xAaz W hi) j (xAaz W hj)
 have hml:ms.length=m:=by rw [fs.ma.1,q9]
 refine ⟨_,rfl,_,rfl,fa,vp,pt,S,n,rfl,fs.fg,gvp,hlay,fun H1 rp rv s1 g1 e1 ar=>?_⟩;refine ⟨_,rfl,rp,rv,nkS S,rowS S n pt,rfl,e1,ar,xAbe W,inj,qh (xAbu W) W.few,fun H2 dq kvs s2 g2 e2 hse=>?_⟩;have s02:=s1.trans s2;refine ⟨_,rfl,_,rfl,_,rfl,fa,F,S,n,M,m,N,q,xs,ms,ns,vp,pt,rp,rv,rfl,fs.same s02,gvp.tups s02.tups,hlay,s2 _ _ e1,ar.imp (fun v i g=>NM.tups g s2.tups),fun H3 lq tv s3 g3 e3 tk=>?_⟩;have s03:=s02.trans s3;intro tq H4 g4 s4 e4;have s04:=s03.trans s4;have gtq:H tq=none:=s03.free g4;refine ⟨_,rfl,_,rfl,fa,vp,pt,S,n,rfl,(fs.same s04).fg,gvp.tups s04.tups,hlay,fun H5 aq av s5 g5 e5 aa=>?_⟩;have s05:=s04.trans s5
 have hal:av.length≤1400:=by rw [aa.1];exact qh (wb _ _) (qh (xAbu W) W.few)
 have etq5:=s5 _ _ e4;have naq:aq≠tq:=(xAab e4 g5).symm;have ndq:dq≠tq:=xAab (s3 _ _ e2) g4;have nlq:lq≠tq:=xAab e3 g4;have edq5:=(s4.trans s5) _ _ (s3 _ _ e2);have elq5:=(s4.trans s5) _ _ e3;have ma5:=fs.ma.imp fun v i g=>MN.tups g s05.tups;have knd:(kinds M (marksP M m pt)).Nodup:=xAbz _ [] jf;have hmp:(marksP M m pt).length≤63:=qh (qh (wb _ _) (by rw [q9];exact qg _)) hm;have hkl:(kinds M (marksP M m pt)).length≤63:=qh (xAdl _ []) (by show 0+_≤63;omega);have hin:∀ i∈marksP M m pt,i<m:=fun i hi=>ql.mp (qv.mp hi).1
 have htv:(tv.map fun e=>kV e.1)=(kinds M (marksP M m pt)).map V.str:=by
  have:=congrArg (List.map kV) tk.keys;rw [wt,wt] at this;exact this
 have hkey:∀ kd∈kinds M (marksP M m pt),PyData.strOk kd=true:=fun kd hk=>by
  rcases (xAcv _ []).mp hk with z | ⟨i,h1,h2⟩
  ·cases z
  ·rw [← h2];exact (WM.lay i (hin i h1)).2.2.1
 have keys:KeysAre ((kinds M (marksP M m pt)).map .str) 1:=by
  refine ⟨xAbh fun d hd=>?_,fun d hd=>?_,fun x hx y hy=>?_,fun d hd=>?_⟩
  ·obtain ⟨k,hk,rfl⟩:=qk.mp hd;exact hkey k hk
  ·obtain ⟨k,hk,rfl⟩:=qk.mp hd;trivial
  ·obtain ⟨k,hk,rfl⟩:=qk.mp hx
   obtain ⟨k',hk',rfl⟩:=qk.mp hy;rfl
  ·obtain ⟨k,hk,rfl⟩:=qk.mp hd;exact zm 60
 have hsl:(srtK (kinds M (marksP M m pt))).length≤63:=by rw [(xAbb _).length_eq];exact hkl
 refine ⟨aq,rfl,⟨_,SqL.of e5⟩,xAbr (xs:=av) (fun j σ Z=>∃ (kv:List (KD×V×V)) (u7 u8:Option V),σ=[some (.ref fa),some vp,some (.int (if pl then 5 else 4)),some (.ref rp),some (.ref dq),some (.ref lq),some (.ref tq),u7,u8]/\Same (del H5 tq) Z/\Z tq=some (.dG kv)/\TDk (nkS S) (fun i=>tlD M pl (rowS S n pt) (marksP M m pt) ((rowS S n pt).idxOf i)) (fun a=>H a=none/\a≠tq) Z kv ((aliveS S n pt).take j))
  ⟨[],none,none,rfl,xAfk,etq5,⟨rfl,fun j e i z=>nomatch z⟩⟩ (fun j σ Z _ ⟨_,_,_,_,r,_⟩=>SqL.of (DP.to r e5 naq)) ?_ ?_⟩
 ·rintro j x σ Z hx ⟨kv,u7,u8,rfl,sZ,eZ,td⟩
  obtain ⟨i,ei,nm5⟩:=aa.at hx
  have tZ:Tups H5 Z:=fun a ys e=>DP.to sZ e (fun z=>by rw [z,etq5] at e;cases e)
  have nm:=NM.tups nm5 tZ;have hir:i∈rowS S n pt:=(qv.mp (zk ei)).1;have hjl:j<(aliveS S n pt).length:=(ze.mp ei).1;have hp:(rowS S n pt).idxOf i<(rowS S n pt).length:=mo hir;have edqZ:=DP.to sZ edq5 ndq;have elqZ:=DP.to sZ elq5 nlq
  have tkZ:TK M (rowS S n pt) (marksP M m pt) ms (fun _=>True) Z tv:=⟨tk.keys,fun kd hk=>by
   obtain ⟨a,h1,_,h3⟩:=tk.val kd hk;have h5:=(s4.trans s5) _ _ h3
   exact ⟨a,h1,trivial,DP.to sZ h5 (fun z=>by rw [z,etq5] at h5;cases h5)⟩,tk.ne⟩
  refine ⟨_,rfl,lq,tv,(kinds M (marksP M m pt)).map .str,1,rfl,.inl elqZ,by rw [htv];exact (xAna _).dv,keys,by have:=congrArg List.length tk.keys;rw [qj,qj] at this;omega,fun sq Z1 ix g1 s1 six e1=>?_⟩;rw [htv,sort_K knd six] at e1;refine ⟨sq,rfl,⟨_,SqL.of e1⟩,xAdq (xs:=(srtK (kinds M (marksP M m pt))).map V.str) (big2 (by rw [qj];omega)) (fun j' ys X=>X=Z1/\ys=((srtK (kinds M (marksP M m pt))).take j').map fun kd=>mV ms (tell M (rowS S n pt) (marksP M m pt) kd ((rowS S n pt).idxOf i))) ⟨rfl,rfl⟩ (fun _ _ X s'=>by rw [s'.1];exact SqL.of e1) (fun j' y ys X K1 K0 hy s' k1 k0=>?_) fun X np ys s' hyl hnq=>?_⟩
  ·obtain ⟨rfl,rfl⟩:=s'
   rw [qt] at hy
   cases hk:(srtK (kinds M (marksP M m pt)))[j']? with
   | none=>rw [hk] at hy;cases hy
   | some kd =>
    rw [hk] at hy;cases hy;have hkm:kd∈kinds M (marksP M m pt):=(xAbb _).mem_iff.mp (zk hk);obtain ⟨a,h1,_,h3⟩:=tkZ.val kd hkm;refine iteT (B:=K0 X) ?_;refine ⟨_,rfl,_,rfl,lq,.ref a,rfl,.inl ⟨tv,.inr kd,.inl (s1 _ _ elqZ),rfl,h1.symm⟩,_,rfl,_,rfl,dq,kvs,.tup (nkS S i),_,rfl,.inl (s1 _ _ edqZ),NM.tups nm s1.tups,hse.2 i hir,a,_,_,_,rfl,rfl,SqL.of (s1 _ _ h3),xAdp (j:=(rowS S n pt).idxOf i) (v:=mV ms (tell M (rowS S n pt) (marksP M m pt) kd ((rowS S n pt).idxOf i))) ?_,k1 _ _ ⟨rfl,?_⟩⟩
    ·unfold ovr
     rw [qt,wa hp];rfl
    ·rw [z8,hk,zx]
     rfl
  obtain ⟨rfl,hys⟩:=s';rw [qj,z7] at hys;have nX:Same X (upd X np (.lst ys)):=Same.new hnq;have eX:(upd X np (.lst ys)) np=some (.lst ys):=xAae;generalize upd X np (.lst ys)=Z2 at nX eX;have s02':=s1.trans nX;have ma2:AN (MN S M Z2) ms (List.range m):=ma5.imp fun v i g=>MN.tups g (tZ.trans s02'.tups)
  have hyl2:ys.length≤63:=by rw [hys,qj];exact hsl
  refine ⟨_,rfl,np,rfl,⟨_,SqL.of eX⟩,xAdq (xs:=ys) (big2 (by omega)) (fun j' zs X2=>Same Z2 X2/\DTs X2 zs (((srtK (kinds M (marksP M m pt))).take j').filterMap fun kd=>tlO M pl (tell M (rowS S n pt) (marksP M m pt) kd ((rowS S n pt).idxOf i)))) ⟨Same.refl _,.nil⟩ (fun _ _ X2 s'=>SqL.of (s'.1 _ _ eX)) (fun j' y zs X2 K1 K0 hy s' k1 k0=>?_) fun X3 lp zs s' hzl hlq=>?_⟩
  ·obtain ⟨s',dz⟩:=s'
   rw [hys,qt] at hy
   cases hk:(srtK (kinds M (marksP M m pt)))[j']? with
   | none=>rw [hk] at hy;cases hy
   | some kd =>
    rw [hk] at hy;have hy:=Option.some.inj hy;have hy:mV ms (tell M (rowS S n pt) (marksP M m pt) kd ((rowS S n pt).idxOf i))=y:=hy
    have nxt:∀ {Y:Hp},Same Z2 Y->DTs Y zs (((srtK (kinds M (marksP M m pt))).take j').filterMap fun kd=>tlO M pl (tell M (rowS S n pt) (marksP M m pt) kd ((rowS S n pt).idxOf i)))->tlO M pl (tell M (rowS S n pt) (marksP M m pt) kd ((rowS S n pt).idxOf i))=none->Same Z2 Y/\DTs Y zs (((srtK (kinds M (marksP M m pt))).take (j'+1)).filterMap fun kd=>tlO M pl (tell M (rowS S n pt) (marksP M m pt) kd ((rowS S n pt).idxOf i))):=fun {Y} a b c=>⟨a,by
     rw [xAqh hk,c];show DTs _ _ (_++[]);rw [zy]
     exact b⟩
    cases ht:tell M (rowS S n pt) (marksP M m pt) kd ((rowS S n pt).idxOf i) with
    | none =>
     rw [ht] at hy;subst hy;refine ⟨_,rfl,rfl,_,rfl,?_⟩;exact itF rfl (itF rfl (k0 _ (nxt s' dz (by rw [ht];rfl))))
    | some k =>
     rw [ht] at hy;have hkm:k<m:=hin k (xAdc ht).1;obtain ⟨v,hv⟩:∃ v,ms[k]?=some v:=⟨_,qi (by rw [hml];exact hkm)⟩
     have hyv:v=y:=by rw [← hy];show v=ms.getD k .non;rw [qo,hv];rfl
     subst hyv;have mn:=ma2.2 k v k hv (wa hkm);obtain ⟨b,vq,vb,ve,vn,kq,rfl,h1,h2,h3,h4,h5,h6⟩:=MN.tups mn s'.tups;refine ⟨_,rfl,rfl,_,rfl,?_⟩;refine itT rfl ?_;refine ⟨_,rfl,b,_,4,_,rfl,rfl,SqT.of h1,rfl,rfl,_,rfl,?_⟩
     cases hvl:(M k).vl with
     | none =>
      exact itF rfl (k0 _ (nxt s' dz (by rw [ht];show (if (M k).vl=none then none else _)=none;rw [if_pos hvl])))
     | some z =>
      refine itT rfl ?_
      have hto:tlO M pl (tell M (rowS S n pt) (marksP M m pt) kd ((rowS S n pt).idxOf i))=some (.tuple [.str (M k).kd,plD M pl k]):=by
       rw [ht];show (if (M k).vl=none then none else _)=_;rw [if_neg (by rw [hvl];exact fun q=>nomatch q)]
      have fin:∀ {Y:Hp} {tp:Addr} {vu:V},Same X2 Y->Y tp=some (.tup [.str (M k).kd,vu])->DT Y vu (plD M pl k)->Same Z2 Y/\DTs Y (zs++[.ref tp]) (((srtK (kinds M (marksP M m pt))).take (j'+1)).filterMap fun kd=>tlO M pl (tell M (rowS S n pt) (marksP M m pt) kd ((rowS S n pt).idxOf i))):=fun {Y tp vu} a b c=>⟨s'.trans a,by
       rw [xAqh hk,hto]
       exact xAfm (.tup b (.cons (.str _) (.cons c .nil))) (dz.tups a.tups)⟩
      cases pl with
      | false=>exact ⟨_,rfl,b,_,3,_,rfl,rfl,SqT.of h1,rfl,_,rfl,_,rfl,b,_,4,_,rfl,rfl,SqT.of h1,rfl,szOk rfl,fun tp Y gY sY eY=>k1 _ _ (fin sY eY (by unfold plD;rw [hvl];exact .str z))⟩
      | true=>exact ⟨_,rfl,b,_,3,_,rfl,rfl,SqT.of h1,rfl,_,rfl,_,rfl,b,_,5,_,rfl,rfl,SqT.of h1,rfl,szOk rfl,fun tp Y gY sY eY=>k1 _ _ (fin sY eY (gk_td (h5.tups sY.tups)))⟩
  obtain ⟨s',dz⟩:=s';rw [show ys.length=(srtK (kinds M (marksP M m pt))).length by rw [hys,qj],z7] at dz;have n3:Same X3 (upd X3 lp (.lst zs)):=Same.new hlq;have e3':(upd X3 lp (.lst zs)) lp=some (.lst zs):=xAae;have dz3:=DTs.tups n3.tups dz;have sz3:Same Z (upd X3 lp (.lst zs)):=(s02'.trans s').trans n3;have glp:Z lp=none:=(s02'.trans s').free hlq;generalize upd X3 lp (.lst zs)=X4 at n3 e3' dz3 sz3;have nlp:lp≠tq:=(xAab eZ glp).symm;have hklen:=td.len
  have hnew:∀ x∈kv,x.1≠KD.tup (nkS S i):=fun x hx e=>by
   have hm1:x.1∈kv.map (·.1):=qk.mpr ⟨x,hx,rfl⟩;rw [td.keys] at hm1;obtain ⟨i',hi',e'⟩:=qk.mp hm1;rw [e] at e';have e2:=KD.tup.inj e';have hi'r:i'∈rowS S n pt:=(qv.mp (yj hi')).1;have:=inj i' hi'r i hir e2;subst this;have nd:(aliveS S n pt).Nodup:=(xAbe W).sublist List.filter_sublist;obtain ⟨t,ht1⟩:=mz hi'
   have ht2:t<j:=by have:=(ze.mp ht1).1;rw [zt] at this;omega
   rw [j5 ht2] at ht1;have a1:=xAsb nd ht1;have a2:=xAsb nd ei;omega
  refine ⟨_,rfl,_,rfl,tq,kv,.tup (nkS S i),rfl,sz3 _ _ eZ,NM.tups nm sz3.tups,xAbp (by rw [hklen,zt];have:=aa.1;omega),?_⟩;rw [xAva _ _ hnew];have tw:Tups X4 (upd X4 tq (.dG (kv++[(.tup (nkS S i),x,.ref lp)]))):=Tups.wd (sz3 _ _ eZ);refine ⟨_,_,_,rfl,(Same.trans sZ sz3).wr xAhe,xAae,?_⟩;rw [z8,ei];refine TDk.snoc ((td.same sz3).to tw (fun a zs' hb e=>by rw [xAag hb.2];exact e) fun _ h=>h) (NM.tups nm (sz3.tups.trans tw)) ⟨?_,nlp⟩ (by rw [xAag nlp];exact e3') (dz3.tups tw);have:=sZ.free glp;rw [xAel nlp] at this;exact s05.free this
 ·rintro σ Z ⟨kv,u7,u8,rfl,sZ,eZ,td⟩
  rw [show av.length=(aliveS S n pt).length from aa.1,z7] at td;exact ⟨_,rfl,kk Z tq kv (fun b o e=>DP.to sZ (s05 _ _ e) (xAab e gtq)) gtq eZ td⟩
theorem ok_fAu (T:Txt K mg d tk) (gfAj:FnOk P w K mg base CX0 1 d.fAj d.fAjd ["note"] (sp_fAj K)) (gfBd:FnOk P w K mg base CX0 6 d.fBd d.fBdd ["facts","part"] (sp_fBd K)) (gfBe:FnOk P w K mg base CX0 5 d.fBe d.fBed ["facts","part"] (sp_fBe K)) (gfAy:FnOk P w K mg base CX0 1 d.fAy d.fAyd ["row"] (sp_fAy K)) (gfBa:FnOk P w K mg base CX0 2 d.fBa d.fBad ["seats","begin","end"] (sp_fBa K)):FnOk P w K mg base CX0 7 d.fAu d.fAud ["facts","part"] (sp_fAu K):=by
 refine T.F_fAu.ok xAhj (fun vs H Q E h=>xAvx h) (fun cdv A outer s H vs Q E hr h=>?_);have hu:(A.deeper (envOfC "notes_of" (defScope s_fAu) s.heap.objs.size d.fAu cdv)).units<cLine:=hr.units0;have hu1:(A.deeper (envOfC "notes_of" (defScope s_fAu) s.heap.objs.size d.fAu cdv)).units+1<cLine:=hu_of hr;refine ⟨_,(@xAad _ _ _ _ _ (@xAaj _ _ (2) _ _ _ _ xAhj.nd rfl (Or.inr rfl) (@xAaf _ _ _ _ _ _ _ _ _ _ _ _ _ _ _ _ gfAy (hr.mono (by decide)) rfl T.m_fAy T.k_fAy T.d_fAy .nil pass0 (@xAaa _ _ _ _ _ (@xAaf _ _ _ _ _ _ _ _ _ _ _ _ _ _ _ _ gfBe (hr.mono (by decide)) rfl T.m_fBe T.k_fBe T.d_fBe .nil pass0 (@xAaa _ _ _ _ _ (@pq _ 0 _ _ rfl) (@xAaa _ _ _ _ _ (@pv _ 1 _ _ rfl (Or.inr (Or.inl rfl)) rfl rfl) (@xAac _) rfl) rfl) (by decide) rfl rfl) (@xAac _) rfl) (by decide) rfl rfl) rfl (.inl rfl)) (@xAad _ _ _ _ _ (@xAaj _ _ (3) _ _ _ _ xAhj.nd rfl (Or.inl rfl) (@xAaf _ _ _ _ _ _ _ _ _ _ _ _ _ _ _ _ gfBd (hr.mono (by decide)) rfl T.m_fBd T.k_fBd T.d_fBd .nil pass0 (@xAaa _ _ _ _ _ (@pq _ 0 _ _ rfl) (@xAaa _ _ _ _ _ (@pv _ 1 _ _ rfl (Or.inr (Or.inl rfl)) rfl rfl) (@xAac _) rfl) rfl) (by decide) rfl rfl) rfl (.inl rfl)) (@xAad _ _ _ _ _ (@xAaj _ _ (4) _ _ _ _ xAhj.nd rfl (Or.inl rfl) (@xAan _ _ _ _ (@xAac _)) rfl (.inl rfl)) (@xAad _ _ _ _ _ (@xAcn _ _ _ _ _ _ _ _ PassesOwn.never rfl (@xAav _ _ _ _ (@xAhd _ _ _ _ _ _ _ _ _ _ _ _ _ _ gfAj (hr.mono (by decide)) rfl T.b_sorted boot_sorted rfl T.m_fAj T.d_fAj rfl (@xAaa _ _ _ _ _ (@xAbs _ _ _ _ _ _ _ (["note"]) ([("part",1)]) _ _ _ _ _ rfl (@xAav _ _ _ _ (@xAbo _ _ _ _ _ _ hu1 (@pq _ 0 _ _ rfl) (@xAal _ _ _ _) (fun _ _=>rfl))) ⟨rfl,by decide +kernel,by decide +kernel⟩ (xAca (defScope s_fAu) ["facts","part","seats","alive","told","note","between","under"] rfl rfl (fun _ h=>xAbi h) (by decide +kernel) (by decide +kernel) (by decide +kernel)) (fun _ _ _=>(@xAaq _ _ (0) _ (by show List.Nodup (["note","part"]:List Str);decide +kernel) rfl (Or.inl rfl) (.inr rfl))) (fun _=>xAas rfl) (fun _ _ _=>(@xAdh _ _ _ (@xAao _ _ _ _ _ _ _ _ (xAhx (K:=K) rfl (hu64 hr)) (@pe_ix _ _ _ _ _ _ _ (xAbv (K:=K) rfl) (@pq _ 0 _ _ rfl) (@xAah _ _ _ _) (fun _ _=>rfl)) (@pv _ 1 _ _ rfl (Or.inr (Or.inl rfl)) rfl rfl) (xAat _)))) (fun _ _ _=>(@pq _ 0 _ _ rfl)) (by intro _;rfl)) (@xAac _) rfl) (by decide) (by decide) rfl rfl)) (@xAaq _ _ (5) _ xAhj.nd rfl (Or.inl rfl) (.inl rfl)) (@xAad _ _ _ _ _ (@xAaj _ _ (6) _ _ _ _ xAhj.nd rfl (Or.inr rfl) (@xAaf _ _ _ _ _ _ _ _ _ _ _ _ _ _ _ _ gfBa (hr.mono (by decide)) rfl T.m_fBa T.k_fBa T.d_fBa .nil pass0 (@xAaa _ _ _ _ _ (@pv _ 2 _ _ rfl (Or.inr (Or.inl rfl)) rfl rfl) (@xAaa _ _ _ _ _ (@pxt _ _ _ _ _ _ _ (@pq _ 5 _ _ rfl)) (@xAaa _ _ _ _ _ (@pxt _ _ _ _ _ _ _ (@pq _ 5 _ _ rfl)) (@xAac _) rfl) rfl) rfl) (by decide) rfl rfl) rfl (.inl rfl)) (@xAad _ _ _ _ _ (@xAku _ (7) _ _ _ _ _ _ _ _ _ (["name"]) ([("between",6),("seats",2)]) _ _ _ _ _ xAhj.nd rfl (Or.inl rfl) rfl (@xAav _ _ _ _ (@pq _ 3 _ _ rfl)) ⟨rfl,by decide +kernel,by decide +kernel⟩ (xAca (defScope s_fAu) ["facts","part","seats","alive","told","note","between","under"] rfl rfl (fun _ h=>xAbi h) (by decide +kernel) (by decide +kernel) (by decide +kernel)) (fun _ _ _=>(@xAaq _ _ (0) _ (by show List.Nodup (["name","between","seats"]:List Str);decide +kernel) rfl (Or.inl rfl) (.inr rfl))) (fun _=>xAas rfl) (fun _ _ _=>(@xAdh _ _ _ (@xAqr _ _ _ _ _ _ _ _ _ _ _ _ op_le op_lt (@pe_ix _ _ _ _ _ _ _ (xAbv (K:=K) rfl) (@pv _ 1 _ _ rfl (Or.inr (Or.inl rfl)) rfl rfl) (@xAah _ _ _ _) (fun _ _=>rfl)) (@xAbd _ _ _ _ _ _ (hu2 hr) (@pv _ 2 _ _ rfl (Or.inr (Or.inl rfl)) rfl rfl) (@pq _ 0 _ _ rfl) (fun _ _=>rfl)) (@pe_ix _ _ _ _ _ _ _ (xAbv (K:=K) rfl) (@pv _ 1 _ _ rfl (Or.inr (Or.inl rfl)) rfl rfl) (@xAah _ _ _ _) (fun _ _=>rfl)) (by with_unfolding_all rfl)))) (fun _ _ _=>(@pq _ 0 _ _ rfl)) (by intro _;rfl) rfl (.inl rfl)) (@xAai _ _ _ (@xAbm _ _ _ _ (@pe_bm _ _ _ _ _ _ _ _ _ _ _ _ PySem.F.plainAttrs_list PySem.F.slot_list_append PySem.F.type_list_append xAba (@pq _ 4 _ _ rfl) (@xAaa _ _ _ _ _ (@xAam _ _ _ _ _ (@xAaa _ _ _ _ _ (@pxt _ _ _ _ _ _ _ (@pq _ 5 _ _ rfl)) (@xAaa _ _ _ _ _ (@pxt _ _ _ _ _ _ _ (@pq _ 5 _ _ rfl)) (@xAaa _ _ _ _ _ (@xAkf _ _ _ _ _ _ _ _ (@xAao _ _ _ _ _ _ _ _ op_gt (@xAay _ _ _ _ _ _ _ _ _ xAbc rfl T.b_len boot_len (@xAaa _ _ _ _ _ (@pq _ 7 _ _ rfl) (@xAac _) rfl) (by decide) (by decide) rfl rfl) (@xAah _ _ _ _) (xAat _)) (@pe_ix _ _ _ _ _ _ _ xAcb (@pq _ 7 _ _ rfl) (@xAah _ _ _ _) (fun _ _=>rfl)) (@xAcx _ _ _)) (@xAac _) rfl) rfl) rfl)) (@xAac _) rfl) rfl rfl rfl rfl rfl) rfl)))) (by intro _;rfl)) (@xAai _ _ _ (@xAar _ _ _ _ (@pq _ 4 _ _ rfl))))))),?_⟩;obtain ⟨fa,F,S,n,M,m,N,q,xs,ms,ns,vp,pt,rfl,fs,gvp,hlay,kk⟩:=h;have W:=fs.ws;have WN:=fs.wn;have inj:Inj (nkS S) (rowS S n pt):=fun i hi j hj=>W.inj i (xAaz W hi) j (xAaz W hj);have sin:∀ {d:Sd},SdOk S n pt d->SdIn (rowS S n pt) d:=fun o i b z=>(xAcm W).mpr (o i b z)
 have hnl:ns.length=q:=by rw [fs.na.1,q9]
 have fewq:=WN.few;refine ⟨_,rfl,_,rfl,fa,vp,pt,S,n,rfl,fs.fg,gvp,hlay,fun H1 rp rv s1 g1 e1 ar=>?_⟩;refine ⟨rp,rv,nkS S,rowS S n pt,rfl,e1,ar,xAbe W,inj,qh (xAbu W) W.few,fun H2 dq kvs s2 g2 e2 hse=>?_⟩;have s02:=s1.trans s2;refine ⟨_,rfl,_,rfl,fa,vp,pt,S,n,rfl,(fs.same s02).fg,gvp.tups s02.tups,hlay,fun H3 aq av s3 g3 e3 aa=>?_⟩;have s03:=s02.trans s3
 have hal:av.length≤1400:=by rw [aa.1];exact qh (wb _ _) (qh (xAbu W) W.few)
 refine ⟨szOk rfl,fun tp H4 g4 s4 e4=>?_⟩;have s04:=s03.trans s4;have f4:=fs.same s04;refine ⟨_,rfl,fa,.ref (F 5),rfl,.inl ⟨fkv F 9,.inr "notes",f4.dk,rfl,(xAdb F 5 (by decide)).symm⟩,F 5,rfl,⟨_,SqL.of f4.nl⟩,xAdq (xs:=ns) (big2 (by omega)) (fun j ys H'=>H'=H4/\AN (NN S N H4) ys (((List.range q).take j).filter fun i=>decide ((N i).pt=pt))) ⟨rfl,.nil⟩ (fun _ _ H' s'=>by rw [s'.1];exact SqL.of f4.nl) (fun j x ys H' K1 K0 hx s' k1 k0=>?_) fun H5 lp ys s' hy hq=>?_⟩
 ·obtain ⟨rfl,ay⟩:=s'
  obtain ⟨i,ei,nn⟩:=f4.na.at hx;have hin:i<q:=ql.mp (zk ei);have nn':=nn;obtain ⟨b,vq,vb,ve,vn,kq,rfl,h1,h2,h3,h4,h5,h6⟩:=nn
  have tk:(List.range q).take (j+1)=(List.range q).take j++[i]:=by rw [z8,ei];rfl
  refine ⟨_,rfl,b,_,0,_,rfl,rfl,SqT.of h1,rfl,_,rfl,tD (N i).pt,tD pt,(gk_td h2).dv,(gk_td (gvp.tups s04.tups)).dv,(WN.lay i hin).1,hlay,qh (ww _ _) (qh (xAcc _) (by decide)),_,rfl,?_⟩;have eqp:(if false=true then !PyData.eqv (tD (N i).pt) (tD pt) else PyData.eqv (tD (N i).pt) (tD pt))=decide ((N i).pt=pt):=xAem _ _
  by_cases hp:(N i).pt=pt
  ·refine itT (by rw [eqp];exact decide_eq_true hp) ⟨_,rfl,k1 _ _ ⟨rfl,?_⟩⟩
   rw [tk];exact AN.pick (vs:=ns) ay nn' (decide_eq_true hp)
  ·refine itF (by rw [eqp];exact decide_eq_false hp) (k0 _ ⟨rfl,?_⟩)
   rw [tk];exact ay.skip (by simpa using hp)
 obtain ⟨rfl,ay⟩:=s';rw [hnl,v9 (by rw [q9];exact qg _)] at ay;have ay:AN (NN S N H5) ys (notesP N q pt):=ay;have n5:Same H5 (upd H5 lp (.lst ys)):=Same.new hq;have e5:(upd H5 lp (.lst ys)) lp=some (.lst ys):=xAae;have ay5:=ay.imp fun v i g=>NN.tups g n5.tups;generalize upd H5 lp (.lst ys)=H6 at n5 e5 ay5;have hin:∀ i∈notesP N q pt,i<q/\(N i).pt=pt:=fun i hi=>⟨ql.mp (qv.mp hi).1,of_decide_eq_true (qv.mp hi).2⟩
 have mup:(notesP N q pt).Pairwise fun a b=>ltD (.tuple [.int (N a).ka,.int (N a).kb]) (.tuple [.int (N b).ka,.int (N b).kb])=true :=
  ((xAee q).imp_of_mem fun {a b} ha hb h=>lt2_D (WN.up a b h (ql.mp hb))).filter _
 have keys:KeysAre ((notesP N q pt).map fun i=>.tuple [.int (N i).ka,.int (N i).kb]) 2:=xAmm fun d hd=>by
  obtain ⟨i,_,rfl⟩:=qk.mp hd;exact .inl ⟨_,_,rfl⟩
 have hyl:ys.length≤70:=by rw [hnl] at hy;omega
 refine ⟨lp,ys,(notesP N q pt).map fun i=>.tuple [.int (N i).ka,.int (N i).kb],2,rfl,SqL.of e5,by rw [qj,ay5.1],keys,⟨by omega,.inr (w5.mpr mup)⟩,fun mm y d H' Q' q1 q2 s q=>?_,fun sq H7 ix g7 s7 six e7=>?_⟩
 ·obtain ⟨k,ek,nn⟩:=ay5.at q1
  rw [qt,ek] at q2;cases Option.some.inj q2;exact ⟨y,S,N,k,rfl,nn.tups s.tups,fun kv hk=>q H' _ (Same.refl _) hk.dv⟩
 have hix:∀ i∈ix,i<ys.length:=fun i hi=>by
  have:=(six.1.mem_iff).mp hi;rw [ql,qj] at this;rw [ay5.1];exact this
 have a2:=ay5.ix ix hix;rw [xAml (.refl _) mup six] at a2;generalize ix.map (fun i=>ys.getD i .non)=zs at e7 a2
 have hzl:zs.length≤70:=by rw [a2.1,← ay5.1];exact hyl
 have a7:=a2.imp fun v i g=>NN.tups g s7.tups;have s47:=n5.trans s7;have s07:=s04.trans s47;have etp6:H6 tp=some (.lst []):=n5 _ _ e4;have etp:H7 tp=some (.lst []):=s7 _ _ etp6;have gtp:H tp=none:=s03.free g4;have nsq:sq≠tp:=(xAab etp6 g7).symm;have ndq:dq≠tp:=xAab (s3 _ _ e2) g4;have naq:aq≠tp:=xAab e3 g4;have edq7:H7 dq=_:=s47 _ _ (s4 _ _ (s3 _ _ e2));have eaq7:H7 aq=_:=s47 _ _ (s4 _ _ e3);have aa7:AN (NM (nkS S) H7) av (aliveS S n pt):=aa.imp fun v i g=>NM.tups g (s4.trans s47).tups
 refine ⟨sq,rfl,⟨_,SqL.of e7⟩,xAbr (xs:=zs) (fun j σ Z=>∃ (tv:List V) (u5 u6 u7:Option V),σ=[some (.ref fa),some vp,some (.ref dq),some (.ref aq),some (.ref tp),u5,u6,u7]/\Same (del H7 tp) Z/\Z tp=some (.lst tv)/\tv.length=j/\DTs Z tv (((notesP N q pt).take j).map (ntD S (rowS S n pt) N)))
  ⟨[],none,none,none,rfl,xAfk,etp,rfl,.nil⟩ (fun j σ Z _ ⟨_,_,_,_,_,r,_⟩=>SqL.of (DP.to r e7 nsq)) ?_ ?_⟩
 ·rintro j x σ Z hx ⟨tv,u5,u6,u7,rfl,sZ,eZ,htl,dt⟩
  obtain ⟨i,ei,nn⟩:=a7.at hx
  have hj:j<70:=by have:=(ze.mp hx).1;omega
  obtain ⟨hi,hpt⟩:=hin i (zk ei);have tZ:Tups H7 Z:=Tups.cut etp sZ;obtain ⟨b,vq,vb,ve,vn,kq,rfl,h1,h2,h3,h4,h5,h6⟩:=NN.tups nn tZ
  have hsb:SdOk S n pt (N i).b:=by rw [← hpt];exact (WN.sd i hi).1
  have hse':SdOk S n pt (N i).e:=by rw [← hpt];exact (WN.sd i hi).2
  have edqZ:=DP.to sZ edq7 ndq;refine ⟨_,rfl,_,rfl,b,_,1,_,rfl,rfl,SqT.of h1,rfl,_,rfl,b,_,2,_,rfl,rfl,SqT.of h1,rfl,dq,kvs,S,rowS S n pt,vb,ve,(N i).b,(N i).e,rfl,edqZ,hse,h3,sin hsb,h4,sin hse',fun Z1 bq s1 e1=>?_⟩;have eaqZ:=s1 _ _ (DP.to sZ eaq7 naq);have aaZ:AN (NM (nkS S) Z1) av (aliveS S n pt):=aa7.imp fun v i g=>NM.tups g (tZ.trans s1.tups);refine ⟨_,rfl,aq,rfl,⟨_,SqL.of eaqZ⟩,xAdq (xs:=av) (big2 (by omega)) (fun j' us X=>X=Z1/\AN (NM (nkS S) Z1) us (((aliveS S n pt).take j').filter fun k=>decide (seat (rowS S n pt) (N i).b≤(rowS S n pt).idxOf k/\(rowS S n pt).idxOf k<max (seat (rowS S n pt) (N i).b) (seat (rowS S n pt) (N i).e)))) ⟨rfl,.nil⟩ (fun _ _ X s'=>by rw [s'.1];exact SqL.of eaqZ) (fun j' y us X K1 K0 hy s' k1 k0=>?_) fun X np uv s' hyl hnq=>?_⟩
  ·obtain ⟨rfl,au⟩:=s'
   obtain ⟨k,ek,nm⟩:=aaZ.at hy;have hk:k∈rowS S n pt:=(qv.mp (zk ek)).1
   have tk:(aliveS S n pt).take (j'+1)=(aliveS S n pt).take j'++[k]:=by rw [z8,ek];rfl
   refine ⟨_,rfl,bq,_,0,_,rfl,rfl,SqT.of e1,rfl,_,rfl,_,rfl,dq,kvs,.tup (nkS S k),_,rfl,.inl (s1 _ _ edqZ),nm,hse.2 k hk,_,_,rfl,rfl,_,rfl,?_⟩
   by_cases hle:seat (rowS S n pt) (N i).b≤(rowS S n pt).idxOf k
   ·refine itT (decide_eq_true (by omega)) ?_
    refine ⟨_,rfl,bq,_,1,_,rfl,rfl,SqT.of e1,rfl,_,_,rfl,rfl,_,rfl,?_⟩
    by_cases hlt:(rowS S n pt).idxOf k<max (seat (rowS S n pt) (N i).b) (seat (rowS S n pt) (N i).e)
    ·refine itT (decide_eq_true (by omega)) ⟨_,rfl,k1 _ _ ⟨rfl,?_⟩⟩
     rw [tk];exact AN.pick (vs:=av) au nm (decide_eq_true ⟨hle,hlt⟩)
    ·refine itF (decide_eq_false (by omega)) (k0 _ ⟨rfl,?_⟩)
     rw [tk];exact au.skip fun z=>hlt (of_decide_eq_true z).2
   ·refine itF (decide_eq_false (by omega)) ⟨_,rfl,itF rfl (k0 _ ⟨rfl,?_⟩)⟩
    rw [tk];exact au.skip fun z=>hle (of_decide_eq_true z).1
  obtain ⟨rfl,au⟩:=s';rw [show av.length=(aliveS S n pt).length from aa.1,z7] at au
  have au:AN (NM (nkS S) X) uv (covA S (rowS S n pt) (N i).b (N i).e):=by
   rw [← xAsc (xAbe W)];exact au
  have nX:Same X (upd X np (.lst uv)):=Same.new hnq;have eX:(upd X np (.lst uv)) np=some (.lst uv):=xAae;have auX:=au.imp fun v i g=>NM.tups g nX.tups;generalize upd X np (.lst uv)=Z2 at nX eX auX;have s02':=s1.trans nX;have h1':=s02' _ _ h1;have hkey:ntD S (rowS S n pt) N i=.tuple [tD (N i).nm,.str (N i).kd,undD S (covA S (rowS S n pt) (N i).b (N i).e).head?]:=rfl
  have tk:(notesP N q pt).take (j+1)=(notesP N q pt).take j++[i]:=by rw [z8,ei];rfl
  have fin:∀ {Z3:Hp} {tq:Addr} {vu:V},Same Z2 Z3->Z3 tq=some (.tup [vn,.str (N i).kd,vu])->DT Z3 vu (undD S (covA S (rowS S n pt) (N i).b (N i).e).head?)->∃ (tv':List V) (v5 v6 v7:Option V),[some (V.ref fa),some vp,some (.ref dq),some (.ref aq),some (.ref tp),some (.ref b),some (.ref bq),some (.ref np)]=[some (.ref fa),some vp,some (.ref dq),some (.ref aq),some (.ref tp),v5,v6,v7]/\Same (del H7 tp) (upd Z3 tp (.lst (tv++[.ref tq])))/\(upd Z3 tp (.lst (tv++[.ref tq]))) tp=some (.lst tv')/\tv'.length=j+1/\DTs (upd Z3 tp (.lst (tv++[.ref tq]))) tv' (((notesP N q pt).take (j+1)).map (ntD S (rowS S n pt) N)):=fun {Z3 tq vu} s3' e3' d3'=>by
   have s3z:=s02'.trans s3';have tw:Tups Z3 (upd Z3 tp (.lst (tv++[.ref tq]))):=Tups.wl (s3z _ _ eZ);refine ⟨_,_,_,_,rfl,(Same.trans sZ s3z).wr xAhe,xAae,by rw [qm,htl];rfl,?_⟩;rw [tk,zx];refine xAfm ?_ (dt.tups (s3z.tups.trans tw));exact .tup (tw _ _ e3') (.cons (gk_td (h5.tups (s3z.tups.trans tw))) (.cons (.str _) (.cons (d3'.tups tw) .nil)))
  refine ⟨_,rfl,.inl ⟨rfl,_,SqL.of (s02' _ _ eZ)⟩,_,rfl,b,_,4,_,rfl,rfl,SqT.of h1',rfl,_,rfl,b,_,3,_,rfl,rfl,SqT.of h1',rfl,_,rfl,np,uv,rfl,.inl (SqL.of eX),_,_,rfl,rfl,_,rfl,?_⟩
  cases hL:covA S (rowS S n pt) (N i).b (N i).e with
  | nil =>
   rw [hL] at auX fin;have:uv=[]:=yk.mp auX.1;subst this;refine itF (decide_eq_false (by decide)) ⟨szOk rfl,fun tq Z3 g3' s3' e3'=>⟨tp,tv,_,rfl,rfl,(s02'.trans s3') _ _ eZ,xAak (by omega),fin s3' e3' .non⟩⟩
  | cons k L' =>
   rw [hL] at auX fin
   cases uv with
   | nil=>exact absurd auX.1 (by simp)
   | cons v0 uv =>
    refine itT (decide_eq_true (by show (0:Int)<((uv.length+1:Nat):Int);omega)) ⟨_,rfl,np,_,0,v0,rfl,rfl,SqL.of eX,xAdp (j:=0) rfl,szOk rfl,fun tq Z3 g3' s3' e3'=>⟨tp,tv,_,rfl,rfl,(s02'.trans s3') _ _ eZ,xAak (by omega),fin s3' e3' (gk_td (NM.tups (auX.2 0 v0 k rfl rfl) s3'.tups))⟩⟩
 ·rintro σ Z ⟨tv,u5,u6,u7,rfl,sZ,eZ,htl,dt⟩
  rw [show zs.length=(notesP N q pt).length from a2.1,z7] at dt;exact ⟨_,rfl,kk Z tp tv (fun b o e=>DP.to sZ (s07 _ _ e) (xAab e gtp)) gtp eZ dt⟩
theorem ok_fAc (T:Txt K mg d tk) (gfAd:FnOk P w K mg base CX0 7 d.fAd d.fAdd ["facts","part","place"] (sp_fAd K)):FnOk P w K mg base CX0 8 d.fAc d.fAcd ["facts","part"] (sp_fAc K):=by
 refine T.F_fAc.ok sc_fAc (fun vs H Q E h=>xAwj h) (fun cdv A outer s H vs Q E hr h=>?_);have hu:(A.deeper (envOfC "telling_marks" (defScope s_fAc) s.heap.objs.size d.fAc cdv)).units<cLine:=hr.units0;refine ⟨_,(@xAai _ _ _ (@xAar _ _ _ _ (@xAaf _ _ _ _ _ _ _ _ _ _ _ _ _ _ _ _ gfAd (hr.mono (by decide)) rfl T.m_fAd T.k_fAd T.d_fAd .nil pass0 (@xAaa _ _ _ _ _ (@pq _ 0 _ _ rfl) (@xAaa _ _ _ _ _ (@pq _ 1 _ _ rfl) (@xAaa _ _ _ _ _ (@xAah _ _ _ _) (@xAac _) rfl) rfl) rfl) (by decide) rfl rfl))),?_⟩;obtain ⟨fa,F,S,n,M,m,N,q,xs,ms,ns,vp,pt,rfl,fs,gvp,hlay,hm,kk⟩:=h;exact ⟨_,rfl,_,rfl,fa,F,S,n,M,m,N,q,xs,ms,ns,vp,pt,true,rfl,fs,gvp,hlay,hm,kk⟩
theorem ok_fAv (T:Txt K mg d tk) (gfAd:FnOk P w K mg base CX0 7 d.fAd d.fAdd ["facts","part","place"] (sp_fAd K)):FnOk P w K mg base CX0 8 d.fAv d.fAvd ["facts","part"] (sp_fAv K):=by
 refine T.F_fAv.ok sc_fAv (fun vs H Q E h=>xAwe h) (fun cdv A outer s H vs Q E hr h=>?_);have hu:(A.deeper (envOfC "marks_of" (defScope s_fAv) s.heap.objs.size d.fAv cdv)).units<cLine:=hr.units0;refine ⟨_,(@xAai _ _ _ (@xAar _ _ _ _ (@xAaf _ _ _ _ _ _ _ _ _ _ _ _ _ _ _ _ gfAd (hr.mono (by decide)) rfl T.m_fAd T.k_fAd T.d_fAd .nil pass0 (@xAaa _ _ _ _ _ (@pq _ 0 _ _ rfl) (@xAaa _ _ _ _ _ (@pq _ 1 _ _ rfl) (@xAaa _ _ _ _ _ (@xAah _ _ _ _) (@xAac _) rfl) rfl) rfl) (by decide) rfl rfl))),?_⟩;obtain ⟨fa,F,S,n,M,m,N,q,xs,ms,ns,vp,pt,rfl,fs,gvp,hlay,hm,kk⟩:=h;exact ⟨_,rfl,_,rfl,fa,F,S,n,M,m,N,q,xs,ms,ns,vp,pt,false,rfl,fs,gvp,hlay,hm,kk⟩
theorem ok_fAk (T:Txt K mg d tk) (gfAl:FnOk P w K mg base CX0 1 d.fAl d.fAld ["_law_some","_law_kind"] (sp_fAl K)) (gfBc:FnOk P w K mg base CX0 6 d.fBc d.fBcd ["facts","part","begin","end"] (sp_fBc K)) (gfBd:FnOk P w K mg base CX0 6 d.fBd d.fBdd ["facts","part"] (sp_fBd K)) (gfAv:FnOk P w K mg base CX0 8 d.fAv d.fAvd ["facts","part"] (sp_fAv K)) (gfAc:FnOk P w K mg base CX0 8 d.fAc d.fAcd ["facts","part"] (sp_fAc K)):FnOk P w K mg base CX0 9 d.fAk d.fAkd ["_law_facts_here","_law_later","_law_mark"] (sp_fAk K):=by
 refine T.F_fAk.ok xAei (fun vs H Q E h=>xAwl h) (fun cdv A outer s H vs Q E hr h=>?_);have hu:(A.deeper (envOfC "_law_newest" (defScope s_fAk) s.heap.objs.size d.fAk cdv)).units<cLine:=hr.units0;refine ⟨_,(@xAad _ _ _ _ _ (@xAaj _ _ (3) _ _ _ _ xAei.nd rfl (Or.inl rfl) (@xAaf _ _ _ _ _ _ _ _ _ _ _ _ _ _ _ _ gfAv (hr.mono (by decide)) rfl T.m_fAv T.k_fAv T.d_fAv .nil pass0 (@xAaa _ _ _ _ _ (@pq _ 0 _ _ rfl) (@xAaa _ _ _ _ _ (@pxt _ _ _ _ _ _ _ (@pq _ 2 _ _ rfl)) (@xAac _) rfl) rfl) (by decide) rfl rfl) rfl (.inl rfl)) (@xAad _ _ _ _ _ (@xAaj _ _ (4) _ _ _ _ xAei.nd rfl (Or.inl rfl) (@xAaf _ _ _ _ _ _ _ _ _ _ _ _ _ _ _ _ gfAv (hr.mono (by decide)) rfl T.m_fAv T.k_fAv T.d_fAv .nil pass0 (@xAaa _ _ _ _ _ (@pq _ 1 _ _ rfl) (@xAaa _ _ _ _ _ (@pxt _ _ _ _ _ _ _ (@pq _ 2 _ _ rfl)) (@xAac _) rfl) rfl) (by decide) rfl rfl) rfl (.inl rfl)) (@xAad _ _ _ _ _ (@xAaj _ _ (5) _ _ _ _ xAei.nd rfl (Or.inl rfl) (@xAaf _ _ _ _ _ _ _ _ _ _ _ _ _ _ _ _ gfAc (hr.mono (by decide)) rfl T.m_fAc T.k_fAc T.d_fAc .nil pass0 (@xAaa _ _ _ _ _ (@pq _ 1 _ _ rfl) (@xAaa _ _ _ _ _ (@pxt _ _ _ _ _ _ _ (@pq _ 2 _ _ rfl)) (@xAac _) rfl) rfl) (by decide) rfl rfl) rfl (.inl rfl)) (@xAad _ _ _ _ _ (@xAaj _ _ (6) _ _ _ _ xAei.nd rfl (Or.inl rfl) (@xAaf _ _ _ _ _ _ _ _ _ _ _ _ _ _ _ _ gfAc (hr.mono (by decide)) rfl T.m_fAc T.k_fAc T.d_fAc .nil pass0 (@xAaa _ _ _ _ _ (@pq _ 0 _ _ rfl) (@xAaa _ _ _ _ _ (@pxt _ _ _ _ _ _ _ (@pq _ 2 _ _ rfl)) (@xAac _) rfl) rfl) (by decide) rfl rfl) rfl (.inl rfl)) (@xAad _ _ _ _ _ (@xAaj _ _ (7) _ _ _ _ xAei.nd rfl (Or.inl rfl) (@xAaf _ _ _ _ _ _ _ _ _ _ _ _ _ _ _ _ gfBc (hr.mono (by decide)) rfl T.m_fBc T.k_fBc T.d_fBc .nil pass0 (@xAaa _ _ _ _ _ (@pq _ 0 _ _ rfl) (@xAaa _ _ _ _ _ (@pxt _ _ _ _ _ _ _ (@pq _ 2 _ _ rfl)) (@xAaa _ _ _ _ _ (@pxt _ _ _ _ _ _ _ (@pq _ 2 _ _ rfl)) (@xAaa _ _ _ _ _ (@pxt _ _ _ _ _ _ _ (@pq _ 2 _ _ rfl)) (@xAac _) rfl) rfl) rfl) rfl) (by decide) rfl rfl) rfl (.inl rfl)) (@xAad _ _ _ _ _ (@xAcn _ _ _ _ _ _ _ _ PassesOwn.never rfl (@xAav _ _ _ _ (@xAaf _ _ _ _ _ _ _ _ _ _ _ _ _ _ _ _ gfBd (hr.mono (by decide)) rfl T.m_fBd T.k_fBd T.d_fBd .nil pass0 (@xAaa _ _ _ _ _ (@pq _ 0 _ _ rfl) (@xAaa _ _ _ _ _ (@pxt _ _ _ _ _ _ _ (@pq _ 2 _ _ rfl)) (@xAac _) rfl) rfl) (by decide) rfl rfl)) (@xAaq _ _ (8) _ xAei.nd rfl (Or.inl rfl) (.inl rfl)) (@xAad _ _ _ _ _ (@xAaj _ _ (9) _ _ _ _ xAei.nd rfl (Or.inl rfl) (@xAbd _ _ _ _ _ _ (hu2 hr) (@pq _ 3 _ _ rfl) (@pq _ 8 _ _ rfl) (fun _ _=>rfl)) rfl (.inl rfl)) (@xAad _ _ _ _ _ (@xAaj _ _ (10) _ _ _ _ xAei.nd rfl (Or.inl rfl) (@xAbd _ _ _ _ _ _ (hu2 hr) (@pq _ 6 _ _ rfl) (@pq _ 8 _ _ rfl) (fun _ _=>rfl)) rfl (.inl rfl)) (@xAdi _ _ _ _ _ (@ps_if _ _ _ _ _ _ _ _ (@xAao _ _ _ _ _ _ _ _ (xAtl (hu63 hr)) (@pq _ 8 _ _ rfl) (@pq _ 7 _ _ rfl) rfl) (@xAad _ _ _ _ _ (@xAaj _ _ (9) _ _ _ _ xAei.nd rfl (Or.inl rfl) (@pe_op _ _ _ _ _ _ _ _ xAfz (@xAaf _ _ _ _ _ _ _ _ _ _ _ _ _ _ _ _ gfAl (hr.mono (by decide)) rfl T.m_fAl T.k_fAl T.d_fAl .nil pass0 (@xAaa _ _ _ _ _ (@pq _ 9 _ _ rfl) (@xAaa _ _ _ _ _ (@pxt _ _ _ _ _ _ _ (@pq _ 2 _ _ rfl)) (@xAac _) rfl) rfl) (by decide) rfl rfl) (@pe_op _ _ _ _ _ _ _ _ xAhv (@xAan _ _ _ _ (@xAaa _ _ _ _ _ (@xAam _ _ _ _ _ (@xAaa _ _ _ _ _ (@pxt _ _ _ _ _ _ _ (@pq _ 2 _ _ rfl)) (@xAaa _ _ _ _ _ (@pxt _ _ _ _ _ _ _ (@pq _ 2 _ _ rfl)) (@xAac _) rfl) rfl)) (@xAac _) rfl)) (@xAbn _ _ _ _ _ _ _ _ _ xAfb rfl T.b_int boot_int (@xAaa _ _ _ _ _ (@xAco _ _ _ _ _ _ _ _ xAfu (@pxt _ _ _ _ _ _ _ (@pq _ 2 _ _ rfl)) (@xAcx _ _ _) (xAat _)) (@xAac _) rfl) (by decide) (by decide) rfl rfl))) rfl (.inl rfl)) (@xAai _ _ _ (@xAaj _ _ (10) _ _ _ _ xAei.nd rfl (Or.inl rfl) (@pe_op _ _ _ _ _ _ _ _ xAfz (@xAaf _ _ _ _ _ _ _ _ _ _ _ _ _ _ _ _ gfAl (hr.mono (by decide)) rfl T.m_fAl T.k_fAl T.d_fAl .nil pass0 (@xAaa _ _ _ _ _ (@pq _ 10 _ _ rfl) (@xAaa _ _ _ _ _ (@pxt _ _ _ _ _ _ _ (@pq _ 2 _ _ rfl)) (@xAac _) rfl) rfl) (by decide) rfl rfl) (@pe_op _ _ _ _ _ _ _ _ xAhv (@xAan _ _ _ _ (@xAaa _ _ _ _ _ (@xAam _ _ _ _ _ (@xAaa _ _ _ _ _ (@pxt _ _ _ _ _ _ _ (@pq _ 2 _ _ rfl)) (@xAaa _ _ _ _ _ (@pxt _ _ _ _ _ _ _ (@pq _ 2 _ _ rfl)) (@xAac _) rfl) rfl)) (@xAac _) rfl)) (@xAbn _ _ _ _ _ _ _ _ _ xAfb rfl T.b_int boot_int (@xAaa _ _ _ _ _ (@xAco _ _ _ _ _ _ _ _ xAfu (@pxt _ _ _ _ _ _ _ (@pq _ 2 _ _ rfl)) (@xAcx _ _ _) (xAat _)) (@xAac _) rfl) (by decide) (by decide) rfl rfl))) rfl (.inl rfl)))) (@xAbl _)) (@xAai _ _ _ (@ps_if _ _ _ _ _ _ _ _ (@xAec _ _ _ (@PW.pt _ _ _ (@pw_or _ _ _ _ _ _ _ (@xAao _ _ _ _ _ _ _ _ (xAkx (hu64 hr)) (@xAbd _ _ _ _ _ _ (hu2 hr) (@pq _ 4 _ _ rfl) (@pq _ 8 _ _ rfl) (fun _ _=>rfl)) (@xAay _ _ _ _ _ _ _ _ _ (xAcl (hu61 hr)) rfl T.b_sorted boot_sorted (@xAaa _ _ _ _ _ (@pq _ 9 _ _ rfl) (@xAac _) rfl) (by decide) (by decide) rfl rfl) (xAat _)) (@xAqo _ _ _ _ (@xAao _ _ _ _ _ _ _ _ (xAkx (hu64 hr)) (@xAbd _ _ _ _ _ _ (hu2 hr) (@pq _ 5 _ _ rfl) (@pq _ 8 _ _ rfl) (fun _ _=>rfl)) (@xAay _ _ _ _ _ _ _ _ _ (xAcl (hu61 hr)) rfl T.b_sorted boot_sorted (@xAaa _ _ _ _ _ (@pq _ 10 _ _ rfl) (@xAac _) rfl) (by decide) (by decide) rfl rfl) (xAat _)))))) (@xAai _ _ _ (@xAar _ _ _ _ (@pe_bl _ _ _ _))) (@xAbl _)))))) (by intro _;rfl)) (@xAai _ _ _ (@xAar _ _ _ _ (@xAco _ _ _ _ _ _ _ _ (xAra (hu64 hr)) (@xAay _ _ _ _ _ _ _ _ _ (xAeg (hu61 hr) hr.hd) rfl T.b_sorted boot_sorted (@xAaa _ _ _ _ _ (@pq _ 4 _ _ rfl) (@xAac _) rfl) (by decide) (by decide) rfl rfl) (@xAay _ _ _ _ _ _ _ _ _ (xAeg (hu61 hr) hr.hd) rfl T.b_sorted boot_sorted (@xAaa _ _ _ _ _ (@pq _ 3 _ _ rfl) (@xAac _) rfl) (by decide) (by decide) rfl rfl) (xAat _)))))))))),?_⟩;obtain ⟨fa,la,F,F',S,n,M,M',m,N,q,xs,ms,ns,xs',ms',ns',v,rfl,fs,fs',hv,hM,hm,hmn,hsn,hnn,kk⟩:=h;obtain ⟨b,vp,vb,ve,vn,kq,rfl,eb,gvp,gb,ge,gn,ekq⟩:=id hv;have W:=fs.ws;have few:=W.few;obtain ⟨lay,layn,layk,layv⟩:=fs'.wm.lay m (by omega);obtain ⟨ob,oe⟩:=fs'.wm.sd m (by omega);have nd:=xAbe (pt:=(M' m).pt) W;have inj:Inj (nkS S) (rowS S n (M' m).pt):=fun i hi j hj=>W.inj i (xAaz W hi) j (xAaz W hj);have als:∀ i∈aliveS S n (M' m).pt,i∈rowS S n (M' m).pt:=fun i hi=>(qv.mp hi).1;have nda:(aliveS S n (M' m).pt).Nodup:=nd.filter _;have inja:Inj (nkS S) (aliveS S n (M' m).pt):=fun i hi j hj=>inj i (als i hi) j (als j hj);have mk:=xAja (pt:=(M' m).pt) hM;rw [if_pos rfl] at mk;have hMl:∀ i∈marksP M m (M' m).pt,M' i=M i:=fun i hi=>hM i (ql.mp (qv.mp hi).1);refine ⟨_,rfl,_,rfl,b,_,0,_,rfl,rfl,SqT.of eb,rfl,fa,F,S,n,M,m,N,q,xs,ms,ns,vp,(M' m).pt,rfl,fs,gvp,lay,by omega,fun H1 t1 kv1 s1 g1 e1 d1=>?_⟩;refine ⟨_,rfl,_,rfl,b,_,0,_,rfl,rfl,SqT.of (s1 _ _ eb),rfl,la,F',S,n,M',m+1,N,q,xs',ms',ns',vp,(M' m).pt,rfl,fs'.same s1,gvp.tups s1.tups,lay,by omega,fun H2 t2 kv2 s2 g2 e2 d2=>?_⟩;have s02:=s1.trans s2;refine ⟨_,rfl,_,rfl,b,_,0,_,rfl,rfl,SqT.of (s02 _ _ eb),rfl,la,F',S,n,M',m+1,N,q,xs',ms',ns',vp,(M' m).pt,rfl,fs'.same s02,gvp.tups s02.tups,lay,by omega,fun H3 t3 kv3 s3 g3 e3 d3=>?_⟩;have s03:=s02.trans s3;refine ⟨_,rfl,_,rfl,b,_,0,_,rfl,rfl,SqT.of (s03 _ _ eb),rfl,fa,F,S,n,M,m,N,q,xs,ms,ns,vp,(M' m).pt,rfl,fs.same s03,gvp.tups s03.tups,lay,by omega,fun H4 t4 kv4 s4 g4 e4 d4=>?_⟩;have s04:=s03.trans s4;refine ⟨_,rfl,_,rfl,b,_,0,_,rfl,rfl,SqT.of (s04 _ _ eb),rfl,_,rfl,b,_,1,_,rfl,rfl,SqT.of (s04 _ _ eb),rfl,_,rfl,b,_,2,_,rfl,rfl,SqT.of (s04 _ _ eb),rfl,fa,vp,(M' m).pt,S,n,vb,ve,(M' m).b,(M' m).e,rfl,fs.fg.same s04,gvp.tups s04.tups,lay,gb.tups s04.tups,ob,ge.tups s04.tups,oe,fun H5 cq cv s5 g5 e5 ac=>?_⟩;have s05:=s04.trans s5;refine ⟨_,rfl,_,rfl,b,_,0,_,rfl,rfl,SqT.of (s05 _ _ eb),rfl,fa,vp,(M' m).pt,S,n,rfl,fs.fg.same s05,gvp.tups s05.tups,lay,fun H6 lq lv s6 g6 e6 al=>?_⟩;have s06:=s05.trans s6;have e16:=(((((s2.trans s3).trans s4).trans s5).trans s6)) _ _ e1;have e26:=((((s3.trans s4).trans s5).trans s6)) _ _ e2;have d16:=d1.same ((((s2.trans s3).trans s4).trans s5).trans s6);have d26:=d2.same (((s3.trans s4).trans s5).trans s6);have e36:=(((s4.trans s5).trans s6)) _ _ e3;have d36:=d3.same ((s4.trans s5).trans s6);have e46:=((s5.trans s6)) _ _ e4;have d46:=d4.same (s5.trans s6);have e56:=s6 _ _ e5;refine ⟨lq,rfl,⟨_,SqL.of e6⟩,xAbr (xs:=lv) (fun j σ Z=>∃ u8 u9 u10,σ=[some (.ref fa),some (.ref la),some (.ref b),some (.ref t1),some (.ref t2),some (.ref t3),some (.ref t4),some (.ref cq),u8,u9,u10]/\Same H6 Z) ⟨_,_,_,rfl,Same.refl _⟩ (fun j σ Z _ ⟨_,_,_,_,s⟩=>SqL.of (s _ _ e6)) ?_ ?_⟩
 ·rintro j v σ Z hx ⟨u8,u9,u10,rfl,sZ⟩
  obtain ⟨i,ei,hn⟩:=al.at hx;have hi:=zk ei;have hir:=als i hi;obtain ⟨a1,zs1,v1,_,ea1,dz1⟩:=(d16.same sZ).get nda inja hi;obtain ⟨a2,zs2,v2,_,ea2,dz2⟩:=(d26.same sZ).get nda inja hi;obtain ⟨a3,zs3,v3,_,ea3,dz3⟩:=(d36.same sZ).get nda inja hi;obtain ⟨a4,zs4,v4,_,ea4,dz4⟩:=(d46.same sZ).get nda inja hi;have hnZ:NM (nkS S) Z v i:=NM.tups hn sZ.tups;refine ⟨_,rfl,_,rfl,t1,kv1,.tup (nkS S i),.ref a1,rfl,.inl (sZ _ _ e16),hnZ,v1,?_⟩;refine ⟨_,rfl,_,rfl,t4,kv4,.tup (nkS S i),.ref a4,rfl,.inl (sZ _ _ e46),hnZ,v4,?_⟩;have ebZ:=(s06.trans sZ) _ _ eb;rw [xAsf] at dz1 dz2 dz3 dz4;rw [mk] at dz2 dz3
  have ln:∀ {pl:Bool},(tlP M pl (rowS S n (M' m).pt) (marksP M m (M' m).pt) ((rowS S n (M' m).pt).idxOf i)).length≤63:=fun {pl}=>qh (xApa (.refl _)) (qh xAcw (by omega))
  have hiw:i<n:=xAaz W hir;refine ⟨fun σ' X=>∃ (l9 l10:Addr) (y9 y10:List V) (p9 p10:List (Str×PyData)),σ'=[some (.ref fa),some (.ref la),some (.ref b),some (.ref t1),some (.ref t2),some (.ref t3),some (.ref t4),some (.ref cq),some v,some (.ref l9),some (.ref l10)]/\Same Z X/\X l9=some (.lst y9)/\DTs X y9 (p9.map pr)/\p9.Perm (tlP M' false (rowS S n (M' m).pt) (marksP M m (M' m).pt++[m]) ((rowS S n (M' m).pt).idxOf i))/\X l10=some (.lst y10)/\DTs X y10 (p10.map pr)/\p10.Perm (tlP M' true (rowS S n (M' m).pt) (marksP M m (M' m).pt++[m]) ((rowS S n (M' m).pt).idxOf i)),?_,?_⟩
  ·have an5:AN (NM (nkS S) Z) cv (cov (rowS S n (M' m).pt) (M' m).b (M' m).e):=ac.imp fun v i g=>NM.tups g (s6.trans sZ).tups
   refine ⟨_,rfl,_,rfl,tD (nkS S i),cq,_,cv,(gk_td hnZ).dv,rfl,.inl (SqL.of (sZ _ _ e56)),(AN.dts (fun v i g=>NM.dt g) an5).dv,(W.lay i hiw).1,xAbh fun d hd=>?_,qh (xAcc _) (by decide),_,rfl,?_⟩
   ·obtain ⟨k,hk,rfl⟩:=qk.mp hd
    exact (W.lay k (xAaz W (xAew hk))).1
   have ea:=(xAsd (nk:=nkS S) (js:=cov (rowS S n (M' m).pt) (M' m).b (M' m).e) (i:=i) fun k hk e=>inj k (xAew hk) i hir e).trans (xAjb nd hir)
   by_cases hc:cvr (rowS S n (M' m).pt) (M' m) ((rowS S n (M' m).pt).idxOf i)=true
   ·refine itT (ea.trans hc) ?_
    refine ⟨_,rfl,_,rfl,b,_,3,_,rfl,rfl,SqT.of ebZ,rfl,a1,zs1,_,(M' m).kd,rfl,ea1,dz1,qh ln (by decide),fun Y1 o1 ys1 r1 go1 eo1 do1=>?_⟩;refine ⟨_,rfl,b,_,3,_,rfl,rfl,SqT.of (r1 _ _ ebZ),rfl,_,rfl,b,_,4,_,rfl,rfl,SqT.of (r1 _ _ ebZ),rfl,szOk rfl,fun w1 Y2 gw1 r2 ew1=>⟨szOk rfl,fun w2 Y3 gw2 r3 ew2=>?_⟩⟩;have r13:=(r1.trans r2).trans r3;refine ⟨_,rfl,b,_,4,_,rfl,rfl,SqT.of (r13 _ _ ebZ),rfl,rfl,.inr ⟨_,rfl,w2,_,_,rfl,rfl,ew2,by split <;> decide,by split <;> decide,by split <;> exact zv (xAak (show 1 * _≤1000 by decide)),fun w4 Y4 gw4 r4 ew4=>?_⟩⟩
    have hys1:ys1.length≤63:=by
     rw [DTs.len do1,qj];exact qh (wb _ _) ln
    refine ⟨o1,w4,_,_,rfl,rfl,((r2.trans r3).trans r4) _ _ eo1,ew4,?_,fun l9 Y5 g9 r5 e9=>?_⟩
    ·have:=xAql (c:=!decide (vlV (M' m).vl=V.non)) (w:=w1)
     exact zv (xAak (by omega))
    have r15:=(r13.trans r4).trans r5
    have d9:=xAjc (xAqk (M':=M') (m:=m) (pl:=false) (w:=w1) fun z ez=>by
     have h1:=((r3.trans r4).trans r5) _ _ ew1;rw [ez] at h1;unfold pr plD;rw [if_neg (by decide),ez]
     exact .tup h1 (.cons (.str _) (.cons (.str _) .nil))) (do1.same (((r2.trans r3).trans r4).trans r5))
    rw [← zx] at d9;have ebY:=r15 _ _ ebZ;refine ⟨_,rfl,_,rfl,b,_,3,_,rfl,rfl,SqT.of ebY,rfl,a4,zs4,_,(M' m).kd,rfl,r15 _ _ ea4,dz4.same r15,qh ln (by decide),fun X1 o2 ys2 q1 go2 eo2 do2=>?_⟩;refine ⟨_,rfl,b,_,3,_,rfl,rfl,SqT.of (q1 _ _ ebY),rfl,_,rfl,b,_,5,_,rfl,rfl,SqT.of (q1 _ _ ebY),rfl,szOk rfl,fun v1' X2 gv1 q2 ev1=>⟨szOk rfl,fun v2' X3 gv2 q3 ev2=>?_⟩⟩;have q13:=(q1.trans q2).trans q3;refine ⟨_,rfl,b,_,4,_,rfl,rfl,SqT.of (q13 _ _ ebY),rfl,rfl,.inr ⟨_,rfl,v2',_,_,rfl,rfl,ev2,by split <;> decide,by split <;> decide,by split <;> exact zv (xAak (show 1 * _≤1000 by decide)),fun v4' X4 gv4 q4 ev4=>?_⟩⟩
    have hys2:ys2.length≤63:=by
     rw [DTs.len do2,qj];exact qh (wb _ _) ln
    refine ⟨o2,v4',_,_,rfl,rfl,((q2.trans q3).trans q4) _ _ eo2,ev4,?_,fun l10 X5 g10 q5 e10=>?_⟩
    ·have:=xAql (c:=!decide (vlV (M' m).vl=V.non)) (w:=v1')
     exact zv (xAak (by omega))
    have q15:=(q13.trans q4).trans q5
    have d10:=xAjc (xAqk (M':=M') (m:=m) (pl:=true) (w:=v1') fun z ez=>by
     have h1:=((q3.trans q4).trans q5) _ _ ev1;unfold pr plD;rw [if_pos rfl]
     exact .tup h1 (.cons (.str _) (.cons (gk_td (gn.tups (((s06.trans sZ).trans r15).trans q15).tups)) .nil))) (do2.same (((q2.trans q3).trans q4).trans q5))
    rw [← zx] at d10;exact ⟨l9,l10,_,_,_,_,rfl,r15.trans q15,q15 _ _ e9,d9.same q15,(xAwg hMl hc).symm,e10,d10,(xAwg hMl hc).symm⟩
   ·refine itF (ea.trans (m8.mpr hc)) ?_
    exact ⟨a1,a4,zs1,zs4,_,_,rfl,Same.refl _,ea1,dz1,(xAqj hMl hc).symm,ea4,dz4,(xAqj hMl hc).symm⟩
  rintro σ' X ⟨l9,l10,y9,y10,p9,p10,rfl,sX,e9,d9,pm9,e10,d10,pm10⟩
  have hl9:∀ k∈marksP M m (M' m).pt++[m],k<m+1:=fun k hk=>by
   rcases qz.mp hk with z | z
   ·exact vt (ql.mp (qv.mp z).1)
   ·rw [zb.mp z];omega
  have prk:∀ {pl:Bool} (x:Str×PyData),x∈tlP M' pl (rowS S n (M' m).pt) (marksP M m (M' m).pt++[m]) ((rowS S n (M' m).pt).idxOf i)->PrOk pl x:=xAsk fs'.wm hmn hl9
  have len9:∀ {pl:Bool} {ps:List (Str×PyData)},ps.Perm (tlP M' pl (rowS S n (M' m).pt) (marksP M m (M' m).pt++[m]) ((rowS S n (M' m).pt).idxOf i))->ps.length<64:=fun {pl ps} pm=>by
   have h1:=xApa pm;have h2:=xAcw (M:=M) (m:=m) (pt:=(M' m).pt);rw [qm] at h1;exact gg (qh h1 (show _+1≤63 by omega))
  have sX6:=sZ.trans sX;have hnX:NM (nkS S) X v i:=NM.tups hnZ sX.tups;refine ⟨fun bb Y=>bb=false/\Same X Y,?_,?_⟩
  ·refine ⟨_,rfl,_,rfl,t2,kv2,.tup (nkS S i),.ref a2,rfl,.inl (sX6 _ _ e26),hnX,v2,?_⟩
   refine ⟨_,rfl,l9,y9,p9.map pr,3,rfl,SqL.of e9,d9.dv,xAgr (pl:=false) (fun x hx=>prk x (pm9.mem_iff.mp hx)),by rw [DTs.len d9,qj];exact len9 pm9,fun z1 Y1 ix gz1 sz1 six ez1=>?_⟩;refine ⟨_,_,.lst (SqL.of ((sX.trans sz1) _ _ ea2)) (dz2.same (sX.trans sz1)).dv,xAsl d9 pm9 sz1 six ez1,xAcg (pl:=false) prk,xAcg (pl:=false) prk,qh (ww _ _) (xAnh (pl:=false) prk),_,rfl,itF (by rw [PySem.SeqAt.eqv_refl _ (xAcg (pl:=false) prk)];rfl) ?_⟩;refine ⟨_,rfl,_,rfl,t3,kv3,.tup (nkS S i),.ref a3,rfl,.inl ((sX6.trans sz1) _ _ e36),NM.tups hnX sz1.tups,v3,?_⟩;refine ⟨_,rfl,l10,y10,p10.map pr,3,rfl,SqL.of (sz1 _ _ e10),(d10.same sz1).dv,xAgr (pl:=true) (fun x hx=>prk x (pm10.mem_iff.mp hx)),by rw [DTs.len d10,qj];exact len9 pm10,fun z2 Y2 ix2 gz2 sz2 six2 ez2=>?_⟩;refine ⟨_,_,.lst (SqL.of (((sX.trans sz1).trans sz2) _ _ ea3)) (dz3.same ((sX.trans sz1).trans sz2)).dv,xAsl (d10.same sz1) pm10 sz2 six2 ez2,xAcg (pl:=true) prk,xAcg (pl:=true) prk,qh (ww _ _) (xAnh (pl:=true) prk),_,rfl,?_,sz1.trans sz2⟩;rw [PySem.SeqAt.eqv_refl _ (xAcg (pl:=true) prk)];rfl
  ·rintro bb Y ⟨rfl,sY⟩
   exact itF rfl ⟨_,_,_,rfl,(sZ.trans sX).trans sY⟩
 rintro σ Z ⟨u8,u9,u10,rfl,sZ⟩;have hal:(aliveS S n (M' m).pt).length≤250:=qh (wb _ _) (qh (xAbu W) hnn)
 have kys:KeysAre ((aliveS S n (M' m).pt).map (dN (nkS S))) 3:=by
  have all:∀ d∈(aliveS S n (M' m).pt).map (dN (nkS S)),d.canLay0=true/\∃ w x c,d=.tuple [.str w,.int x,.int c]:=fun d hd=>by
   obtain ⟨i,hi,rfl⟩:=qk.mp hd;have hin:=xAaz W (als i hi);obtain ⟨w,x,c,e⟩:=hsn i hin;exact ⟨(W.lay i hin).1,w,x,c,by unfold dN nkS;rw [e];rfl⟩
  refine ⟨xAbh fun d hd=>(all d hd).1,fun d hd=>?_,fun a ha b hb=>?_,fun d hd=>?_⟩
  ·obtain ⟨_,w,x,c,rfl⟩:=all d hd;exact trivial
  ·obtain ⟨_,w,x,c,rfl⟩:=all a ha;obtain ⟨_,w',x',c',rfl⟩:=all b hb;rfl
  ·obtain ⟨_,w,x,c,rfl⟩:=all d hd;exact jz rfl
 have dd:∀ {f:Nat->List PyData} {B:Addr->Prop} {Y:Hp} {kv:List (KD×V×V)},TDk (nkS S) f B Y kv (aliveS S n (M' m).pt)->DTs Y (kv.map (·.2.1)) ((aliveS S n (M' m).pt).map (dN (nkS S))):=fun h=>AN.dts (fun v i g=>NM.dt g) h.an
 have kl:∀ {f:Nat->List PyData} {B:Addr->Prop} {Y:Hp} {kv:List (KD×V×V)},TDk (nkS S) f B Y kv (aliveS S n (M' m).pt)->kv.length≤1000:=fun h=>by rw [h.len];omega
 refine ⟨_,rfl,t2,kv2,_,3,rfl,.inl (sZ _ _ e26),(dd (d26.same sZ)).dv,kys,kl d26,fun z1 Y1 ix g1' s1' six1 ez1=>?_⟩;refine ⟨_,rfl,t1,kv1,_,3,rfl,.inl ((sZ.trans s1') _ _ e16),(dd (d16.same (sZ.trans s1'))).dv,kys,kl d16,fun z2 Y2 ix2 g2' s2' six2 ez2=>?_⟩;have hx:∀ {ix:List Nat},SortIx ((aliveS S n (M' m).pt).map (dN (nkS S))) ix->∀ i∈ix,i<((aliveS S n (M' m).pt).map (dN (nkS S))).length:=fun h i hi=>ql.mp (h.1.mem_iff.mp hi);have dv1:DV K Y2 (.ref z1) (.list (ix.map fun i=>((aliveS S n (M' m).pt).map (dN (nkS S))).getD i .none)):=.lst (SqL.of (s2' _ _ ez1)) (xAoz (dd (d26.same ((sZ.trans s1').trans s2'))) (hx six1)).dv;have dv2:DV K Y2 (.ref z2) (.list (ix2.map fun i=>((aliveS S n (M' m).pt).map (dN (nkS S))).getD i .none)):=.lst (SqL.of ez2) (xAoz (dd (d16.same ((sZ.trans s1').trans s2'))) (hx six2)).dv;rw [← xAsi kys.one six1 six2] at dv2
 have mem:∀ d∈ix.map (fun i=>((aliveS S n (M' m).pt).map (dN (nkS S))).getD i .none),d∈(aliveS S n (M' m).pt).map (dN (nkS S)):=fun d hd=>by
  obtain ⟨i,hi,rfl⟩:=qk.mp hd;have:=hx six1 i hi;rw [qo,qi this];exact yr this
 have lay1:(PyData.list (ix.map fun i=>((aliveS S n (M' m).pt).map (dN (nkS S))).getD i .none)).canLay0=true:=xAbh fun d hd=>by
  obtain ⟨i,hi,rfl⟩:=qk.mp (mem d hd);exact (W.lay i (xAaz W (als i hi))).1
 refine ⟨_,_,dv1,dv2,lay1,lay1,qh (ww _ _) (xAqm fun d hd=>kys.deep d (mem d hd)),?_⟩;rw [if_neg (by decide),PySem.SeqAt.eqv_refl _ lay1];exact kk Y2 (((s06.trans sZ).trans s1').trans s2')
theorem ok_fAm (T:Txt K mg d tk) (gfBc:FnOk P w K mg base CX0 6 d.fBc d.fBcd ["facts","part","begin","end"] (sp_fBc K)) (gfBd:FnOk P w K mg base CX0 6 d.fBd d.fBdd ["facts","part"] (sp_fBd K)) (gfAv:FnOk P w K mg base CX0 8 d.fAv d.fAvd ["facts","part"] (sp_fAv K)):FnOk P w K mg base CX0 9 d.fAm d.fAmd ["_law_facts_here","_law_later","_law_mark"] (sp_fAm K):=by
 refine T.F_fAm.ok xAfs (fun vs H Q E h=>xAwm h) (fun cdv A outer s H vs Q E hr h=>?_);have hu:(A.deeper (envOfC "_law_eldest" (defScope s_fAm) s.heap.objs.size d.fAm cdv)).units<cLine:=hr.units0;have hu1:(A.deeper (envOfC "_law_eldest" (defScope s_fAm) s.heap.objs.size d.fAm cdv)).units+1<cLine:=hu_of hr;refine ⟨_,(@xAad _ _ _ _ _ (@xAaj _ _ (3) _ _ _ _ xAfs.nd rfl (Or.inl rfl) (@xAaf _ _ _ _ _ _ _ _ _ _ _ _ _ _ _ _ gfAv (hr.mono (by decide)) rfl T.m_fAv T.k_fAv T.d_fAv .nil pass0 (@xAaa _ _ _ _ _ (@pq _ 0 _ _ rfl) (@xAaa _ _ _ _ _ (@pxt _ _ _ _ _ _ _ (@pq _ 2 _ _ rfl)) (@xAac _) rfl) rfl) (by decide) rfl rfl) rfl (.inl rfl)) (@xAad _ _ _ _ _ (@xAaj _ _ (4) _ _ _ _ xAfs.nd rfl (Or.inl rfl) (@xAaf _ _ _ _ _ _ _ _ _ _ _ _ _ _ _ _ gfAv (hr.mono (by decide)) rfl T.m_fAv T.k_fAv T.d_fAv .nil pass0 (@xAaa _ _ _ _ _ (@pq _ 1 _ _ rfl) (@xAaa _ _ _ _ _ (@pxt _ _ _ _ _ _ _ (@pq _ 2 _ _ rfl)) (@xAac _) rfl) rfl) (by decide) rfl rfl) rfl (.inl rfl)) (@xAad _ _ _ _ _ (@xAaj _ _ (5) _ _ _ _ xAfs.nd rfl (Or.inl rfl) (@xAaf _ _ _ _ _ _ _ _ _ _ _ _ _ _ _ _ gfBc (hr.mono (by decide)) rfl T.m_fBc T.k_fBc T.d_fBc .nil pass0 (@xAaa _ _ _ _ _ (@pq _ 0 _ _ rfl) (@xAaa _ _ _ _ _ (@pxt _ _ _ _ _ _ _ (@pq _ 2 _ _ rfl)) (@xAaa _ _ _ _ _ (@pxt _ _ _ _ _ _ _ (@pq _ 2 _ _ rfl)) (@xAaa _ _ _ _ _ (@pxt _ _ _ _ _ _ _ (@pq _ 2 _ _ rfl)) (@xAac _) rfl) rfl) rfl) rfl) (by decide) rfl rfl) rfl (.inl rfl)) (@xAad _ _ _ _ _ (@xAaj _ _ (6) _ _ _ _ xAfs.nd rfl (Or.inl rfl) (@xAan _ _ _ _ (@xAac _)) rfl (.inl rfl)) (@xAad _ _ _ _ _ (@xAcn _ _ _ _ _ _ _ _ PassesOwn.never rfl (@xAav _ _ _ _ (@xAbo _ _ _ _ _ _ hu1 (@pq _ 0 _ _ rfl) (@xAal _ _ _ _) (fun _ _=>rfl))) (@xAaq _ _ (7) _ xAfs.nd rfl (Or.inl rfl) (.inl rfl)) (@xAai _ _ _ (@ps_if _ _ _ _ _ _ _ _ (@xAec _ _ _ (@PW.pt _ _ _ (@xAjh _ _ _ _ _ _ _ (@xAao _ _ _ _ _ _ _ _ (xAra (hu64 hr)) (@pxt _ _ _ _ _ _ _ (@pq _ 7 _ _ rfl)) (@pxt _ _ _ _ _ _ _ (@pq _ 2 _ _ rfl)) (xAat _)) (@xAft _ _ _ _ (@xAao _ _ _ _ _ _ _ _ op_eq (@pxt _ _ _ _ _ _ _ (@pq _ 7 _ _ rfl)) (@pxt _ _ _ _ _ _ _ (@pq _ 2 _ _ rfl)) (xAat _)))))) (@xAai _ _ _ (@xAaj _ _ (6) _ _ _ _ xAfs.nd rfl (Or.inl rfl) (@pe_op _ _ _ _ _ _ _ _ xAfz (@pq _ 6 _ _ rfl) (@xAaf _ _ _ _ _ _ _ _ _ _ _ _ _ _ _ _ gfBc (hr.mono (by decide)) rfl T.m_fBc T.k_fBc T.d_fBc .nil pass0 (@xAaa _ _ _ _ _ (@pq _ 0 _ _ rfl) (@xAaa _ _ _ _ _ (@pxt _ _ _ _ _ _ _ (@pq _ 7 _ _ rfl)) (@xAaa _ _ _ _ _ (@pxt _ _ _ _ _ _ _ (@pq _ 7 _ _ rfl)) (@xAaa _ _ _ _ _ (@pxt _ _ _ _ _ _ _ (@pq _ 7 _ _ rfl)) (@xAac _) rfl) rfl) rfl) rfl) (by decide) rfl rfl)) rfl (.inl rfl))) (@xAbl _))) (by intro _;rfl)) (@xAad _ _ _ _ _ (@xAcn _ _ _ _ _ _ _ _ PassesOwn.never rfl (@xAav _ _ _ _ (@xAaf _ _ _ _ _ _ _ _ _ _ _ _ _ _ _ _ gfBd (hr.mono (by decide)) rfl T.m_fBd T.k_fBd T.d_fBd .nil pass0 (@xAaa _ _ _ _ _ (@pq _ 0 _ _ rfl) (@xAaa _ _ _ _ _ (@pxt _ _ _ _ _ _ _ (@pq _ 2 _ _ rfl)) (@xAac _) rfl) rfl) (by decide) rfl rfl)) (@xAaq _ _ (8) _ xAfs.nd rfl (Or.inl rfl) (.inl rfl)) (@xAad _ _ _ _ _ (@xAaj _ _ (9) _ _ _ _ xAfs.nd rfl (Or.inl rfl) (@xAbn _ _ _ _ _ _ _ _ _ xAfc rfl T.b_list boot_list (@xAaa _ _ _ _ _ (@xAbd _ _ _ _ _ _ (hu2 hr) (@pq _ 3 _ _ rfl) (@pq _ 8 _ _ rfl) (fun _ _=>rfl)) (@xAac _) rfl) (by decide) (by decide) rfl rfl) rfl (.inl rfl)) (@xAdi _ _ _ _ _ (@ps_if _ _ _ _ _ _ _ _ (@xAec _ _ _ (@PW.pt _ _ _ (@xAjh _ _ _ _ _ _ _ (@xAao _ _ _ _ _ _ _ _ (xAtl (hu63 hr)) (@pq _ 8 _ _ rfl) (@pq _ 5 _ _ rfl) rfl) (@xAjh _ _ _ _ _ _ _ (@xAao _ _ _ _ _ _ _ _ (xAob (hu63 hr)) (@pq _ 8 _ _ rfl) (@pq _ 6 _ _ rfl) rfl) (@xAft _ _ _ _ (@xAao _ _ _ _ _ _ _ _ xAfu (@pxt _ _ _ _ _ _ _ (@pq _ 2 _ _ rfl)) (@xAcx _ _ _) (xAat _))))))) (@xAai _ _ _ (@xAbm _ _ _ _ (@pe_bm _ _ _ _ _ _ _ _ _ _ _ _ PySem.F.plainAttrs_list PySem.F.slot_list_append PySem.F.type_list_append xAba (@pq _ 9 _ _ rfl) (@xAaa _ _ _ _ _ (@xAam _ _ _ _ _ (@xAaa _ _ _ _ _ (@pxt _ _ _ _ _ _ _ (@pq _ 2 _ _ rfl)) (@xAaa _ _ _ _ _ (@pxt _ _ _ _ _ _ _ (@pq _ 2 _ _ rfl)) (@xAac _) rfl) rfl)) (@xAac _) rfl) rfl rfl rfl rfl rfl) rfl)) (@xAbl _)) (@xAai _ _ _ (@ps_if _ _ _ _ _ _ _ _ (@xAao _ _ _ _ _ _ _ _ (xAkx (hu64 hr)) (@xAbd _ _ _ _ _ _ (hu2 hr) (@pq _ 4 _ _ rfl) (@pq _ 8 _ _ rfl) (fun _ _=>rfl)) (@xAay _ _ _ _ _ _ _ _ _ (xAcl (hu61 hr)) rfl T.b_sorted boot_sorted (@xAaa _ _ _ _ _ (@pq _ 9 _ _ rfl) (@xAac _) rfl) (by decide) (by decide) rfl rfl) (xAat _)) (@xAai _ _ _ (@xAar _ _ _ _ (@pe_bl _ _ _ _))) (@xAbl _))))) (by intro _;rfl)) (@xAai _ _ _ (@xAar _ _ _ _ (@pe_bl _ _ _ _))))))))),?_⟩;obtain ⟨fa,la,F,F',S,n,M,M',m,N,q,xs,ms,ns,xs',ms',ns',v,rfl,fs,fs',hv,hM,hm,hmn,hsn,hnn,kk⟩:=h;obtain ⟨b,vp,vb,ve,vn,kq,rfl,eb,gvp,gb,ge,gn,ekq⟩:=id hv;have W:=fs.ws;obtain ⟨lay,layn,layk,layv⟩:=fs'.wm.lay 0 (by omega);obtain ⟨ob,oe⟩:=fs'.wm.sd 0 (by omega);have nd:=xAbe (pt:=(M' 0).pt) W;have inj:Inj (nkS S) (rowS S n (M' 0).pt):=fun i hi j hj=>W.inj i (xAaz W hi) j (xAaz W hj);have als:∀ i∈aliveS S n (M' 0).pt,i∈rowS S n (M' 0).pt:=fun i hi=>(qv.mp hi).1;have nda:(aliveS S n (M' 0).pt).Nodup:=nd.filter _;have inja:Inj (nkS S) (aliveS S n (M' 0).pt):=fun i hi j hj=>inj i (als i hi) j (als j hj);have mk:marksP M' (m+1) (M' 0).pt=0::(marksP M m (M' 0).pt).map (·+1):=(xAoy (m:=m) (pt:=(M' 0).pt) hM).trans (by rw [if_pos rfl];rfl)
 have hml:ms.length=m:=by rw [fs.ma.1,q9]
 refine ⟨_,rfl,_,rfl,b,_,0,_,rfl,rfl,SqT.of eb,rfl,fa,F,S,n,M,m,N,q,xs,ms,ns,vp,(M' 0).pt,rfl,fs,gvp,lay,by omega,fun H1 t1 kv1 s1 g1 e1 d1=>?_⟩;refine ⟨_,rfl,_,rfl,b,_,0,_,rfl,rfl,SqT.of (s1 _ _ eb),rfl,la,F',S,n,M',m+1,N,q,xs',ms',ns',vp,(M' 0).pt,rfl,fs'.same s1,gvp.tups s1.tups,lay,by omega,fun H2 t2 kv2 s2 g2 e2 d2=>?_⟩;have s02:=s1.trans s2;refine ⟨_,rfl,_,rfl,b,_,0,_,rfl,rfl,SqT.of (s02 _ _ eb),rfl,_,rfl,b,_,1,_,rfl,rfl,SqT.of (s02 _ _ eb),rfl,_,rfl,b,_,2,_,rfl,rfl,SqT.of (s02 _ _ eb),rfl,fa,vp,(M' 0).pt,S,n,vb,ve,(M' 0).b,(M' 0).e,rfl,fs.fg.same s02,gvp.tups s02.tups,lay,gb.tups s02.tups,ob,ge.tups s02.tups,oe,fun H3 cq cv s3 g3 e3 ac=>?_⟩;have s03:=s02.trans s3;refine ⟨szOk rfl,fun q0 H4 g4 s4 e4=>?_⟩;have s04:=s03.trans s4;have f4:=fs.same s04;refine ⟨_,rfl,fa,.ref (F 4),rfl,.inl ⟨fkv F 9,.inr "marks",f4.dk,rfl,(xAdb F 4 (by decide)).symm⟩,F 4,rfl,⟨_,SqL.of f4.ml⟩,xAbr (xs:=ms) (fun j σ Z=>∃ (eq:Addr) (ev:List V) (el:List Nat) (u7:Option V),σ=[some (.ref fa),some (.ref la),some (.ref b),some (.ref t1),some (.ref t2),some (.ref cq),some (.ref eq),u7,none,none]/\Same H4 Z/\Z eq=some (.lst ev)/\AN (NM (nkS S) Z) ev el/\ev.length≤250 * j/\∀ i,i∈el↔i∈rowS S n (M' 0).pt/\∃ k,k<j/\(M k).pt=(M' 0).pt/\(M k).kd=(M' 0).kd/\cvr (rowS S n (M' 0).pt) (M k) ((rowS S n (M' 0).pt).idxOf i)=true) ⟨q0,[],[],none,rfl,Same.refl _,e4,.nil,zm _,fun i=>⟨fun z=>absurd z List.not_mem_nil,fun ⟨_,k,hk,_⟩=>absurd hk (zc k)⟩⟩ (fun j σ Z _ ⟨_,_,_,_,_,s,_⟩=>SqL.of (s _ _ f4.ml)) ?_ ?_⟩
 ·rintro j v σ Z hx ⟨eq,ev,el,u7,rfl,sZ,ee,an,hel,hmem⟩
  have hj:j<m:=by rw [← hml];exact (ze.mp hx).1
  obtain ⟨k,ek,hmk⟩:=f4.ma.at hx;rw [wa hj] at ek;obtain rfl:j=k:=Option.some.inj ek;have hmZ:=hmk.tups sZ.tups;obtain ⟨b',vp',vb',ve',vn',kq',rfl,eb',gvp',gb',ge',gn',ekq'⟩:=id hmZ;obtain ⟨lay',_,layk',_⟩:=fs.wm.lay j hj;obtain ⟨ob',oe'⟩:=fs.wm.sd j hj;have s0Z:=s04.trans sZ;have ebZ:=s0Z _ _ eb;refine ⟨fun bb Y=>bb=decide ((M j).pt=(M' 0).pt/\(M j).kd=(M' 0).kd)/\Y=Z,?_,?_⟩
  ·refine ⟨_,rfl,b',_,0,_,rfl,rfl,SqT.of eb',rfl,_,rfl,b,_,0,_,rfl,rfl,SqT.of ebZ,rfl,tD (M j).pt,tD (M' 0).pt,(gk_td gvp').dv,(gk_td (gvp.tups s0Z.tups)).dv,lay',lay,qh (ww _ _) (qh (xAcc _) (by decide)),_,rfl,?_⟩
   by_cases hp:(M j).pt=(M' 0).pt
   ·refine itT (by rw [if_neg (by decide),xAem];exact decide_eq_true hp) ⟨_,rfl,b',_,3,.str (M j).kd,rfl,rfl,SqT.of eb',rfl,_,rfl,b,_,3,.str (M' 0).kd,rfl,rfl,SqT.of ebZ,rfl,rfl,_,rfl,?_,rfl⟩
    refine decide_eq_decide.mpr ⟨fun z=>⟨hp,V.str.inj z⟩,fun z=>by rw [z.2]⟩
   ·refine itF (by rw [if_neg (by decide),xAem];exact decide_eq_false hp) ⟨?_,rfl⟩
    exact (decide_eq_false fun z=>hp z.1).symm
  ·rintro bb Y ⟨rfl,rfl⟩
   by_cases hc:(M j).pt=(M' 0).pt/\(M j).kd=(M' 0).kd
   ·refine itT (decide_eq_true hc) ?_
    rw [hc.1] at gvp' ob' oe';refine ⟨_,rfl,_,rfl,_,rfl,b',_,0,_,rfl,rfl,SqT.of eb',rfl,_,rfl,b',_,1,_,rfl,rfl,SqT.of eb',rfl,_,rfl,b',_,2,_,rfl,rfl,SqT.of eb',rfl,fa,vp',(M' 0).pt,S,n,vb',ve',(M j).b,(M j).e,rfl,fs.fg.same s0Z,gvp',lay,gb',ob',ge',oe',fun Y1 cq' cv' s1' g1' e1' ac'=>?_⟩
    have hcv:cv'.length≤250:=by rw [ac'.1];exact qh xAvm (qh (xAbu W) hnn)
    have hsz:ev.length+cv'.length≤250 * (j+1):=by omega
    refine ⟨eq,cq',ev,cv',rfl,rfl,s1' _ _ ee,e1',zv (y0 hsz (y0 (show 250 * (j+1)≤16000 by omega) (by decide))),fun l' Y2 g2' s2' e2'=>?_⟩;refine ⟨l',ev++cv',el++cov (rowS S n (M' 0).pt) (M j).b (M j).e,_,rfl,(sZ.trans s1').trans s2',e2',AN.app (an.imp fun v i g=>NM.tups g (s1'.trans s2').tups) (ac'.imp fun v i g=>NM.tups g s2'.tups),by rw [qm];exact hsz,fun i=>?_⟩;rw [qz,hmem i];constructor
    ·rintro (⟨h1,k,h2,h3⟩ | h)
     ·exact ⟨h1,k,by omega,h3⟩
     ·have hr:=xAew h
      refine ⟨hr,j,by omega,hc.1,hc.2,?_⟩;rw [← xAjb nd hr];exact decide_eq_true h
    ·rintro ⟨h1,k,h2,h3⟩
     rcases m9.mp h2 with z | z
     ·exact .inl ⟨h1,k,z,h3⟩
     ·subst z
      refine .inr (of_decide_eq_true ?_);rw [xAjb nd h1];exact h3.2.2
   ·refine itF (decide_eq_false hc) ⟨eq,ev,el,_,rfl,sZ,ee,an,by omega,fun i=>(hmem i).trans ?_⟩
    constructor
    ·rintro ⟨h1,k,h2,h3⟩
     exact ⟨h1,k,by omega,h3⟩
    ·rintro ⟨h1,k,h2,h3⟩
     refine ⟨h1,k,?_,h3⟩;rcases m9.mp h2 with z | z
     ·exact z
     ·subst z
      exact absurd ⟨h3.1,h3.2.1⟩ hc
 rintro σ Z ⟨eq,ev,el,u7,rfl,sZ,ee,an,hel,hmem⟩;rw [hml] at hmem;have s0Z:=s04.trans sZ;refine ⟨_,rfl,_,rfl,b,_,0,_,rfl,rfl,SqT.of (s0Z _ _ eb),rfl,fa,vp,(M' 0).pt,S,n,rfl,fs.fg.same s0Z,gvp.tups s0Z.tups,lay,fun H6 lq lv s6 g6 e6 al=>?_⟩;have s06:=s0Z.trans s6;have s36:=(s4.trans sZ).trans s6;have s26:=s3.trans s36;have e16:=(s2.trans s26) _ _ e1;have d16:=d1.same (s2.trans s26);have e26:=s26 _ _ e2;have d26:=d2.same s26;have e36:=s36 _ _ e3;have ee6:=s6 _ _ ee;refine ⟨lq,rfl,⟨_,SqL.of e6⟩,xAbr (xs:=lv) (fun j σ Z=>∃ u8 u9,σ=[some (.ref fa),some (.ref la),some (.ref b),some (.ref t1),some (.ref t2),some (.ref cq),some (.ref eq),u7,u8,u9]/\Same H6 Z) ⟨_,_,rfl,Same.refl _⟩ (fun j σ Z _ ⟨_,_,_,s⟩=>SqL.of (s _ _ e6)) ?_ ?_⟩
 ·rintro j v σ Y hx ⟨u8,u9,rfl,sY⟩
  obtain ⟨i,ei,hn⟩:=al.at hx;have hi:=zk ei;have hir:=als i hi;have hiw:i<n:=xAaz W hir;obtain ⟨a1,zs1,v1,_,ea1,dz1⟩:=(d16.same sY).get nda inja hi;obtain ⟨a2,zs2,v2,_,ea2,dz2⟩:=(d26.same sY).get nda inja hi;have hnY:NM (nkS S) Y v i:=NM.tups hn sY.tups;rw [xAsf] at dz1 dz2;rw [mk] at dz2;refine ⟨_,rfl,_,rfl,t1,kv1,.tup (nkS S i),.ref a1,rfl,.inl (sY _ _ e16),hnY,v1,a1,zs1,rfl,.inl (SqL.of ea1),fun l9 X g9 r9 e9=>?_⟩
  have ln:zs1.length≤63:=by
   rw [DTs.len dz1,qj];exact qh (xApa (.refl _)) (qh xAcw (by omega))
  have sX:=sY.trans r9;have ebX:=(s06.trans sX) _ _ eb;have hnX:NM (nkS S) X v i:=NM.tups hnY r9.tups;refine ⟨fun σ' T=>∃ (y9:List V) (p9:List (Str×PyData)),σ'=[some (.ref fa),some (.ref la),some (.ref b),some (.ref t1),some (.ref t2),some (.ref cq),some (.ref eq),u7,some v,some (.ref l9)]/\Same Y T/\T l9=some (.lst y9)/\DTs T y9 (p9.map pr)/\p9.Perm (tlP M' false (rowS S n (M' 0).pt) (0::(marksP M m (M' 0).pt).map (·+1)) ((rowS S n (M' 0).pt).idxOf i)),?_,?_⟩
  ·refine ⟨fun bb T=>bb=decide (cvr (rowS S n (M' 0).pt) (M' 0) ((rowS S n (M' 0).pt).idxOf i)=true/\i∉el/\(M' 0).vl≠none)/\T=X,?_,?_⟩
   ·have an5:AN (NM (nkS S) X) cv (cov (rowS S n (M' 0).pt) (M' 0).b (M' 0).e):=ac.imp fun v i g=>NM.tups g (s36.trans sX).tups
    refine ⟨_,rfl,_,rfl,tD (nkS S i),cq,_,cv,(gk_td hnX).dv,rfl,.inl (SqL.of (sX _ _ e36)),(AN.dts (fun v i g=>NM.dt g) an5).dv,(W.lay i hiw).1,xAbh fun d hd=>?_,qh (xAcc _) (by decide),_,rfl,?_⟩
    ·obtain ⟨k,hk,rfl⟩:=qk.mp hd
     exact (W.lay k (xAaz W (xAew hk))).1
    have ea:=(xAsd (nk:=nkS S) (js:=cov (rowS S n (M' 0).pt) (M' 0).b (M' 0).e) (i:=i) fun k hk e=>inj k (xAew hk) i hir e).trans (xAjb nd hir)
    by_cases hc:cvr (rowS S n (M' 0).pt) (M' 0) ((rowS S n (M' 0).pt).idxOf i)=true
    ·refine itT (ea.trans hc) ?_
     have an6:AN (NM (nkS S) X) ev el:=an.imp fun v i g=>NM.tups g (s6.trans sX).tups;refine ⟨_,rfl,_,rfl,tD (nkS S i),eq,_,ev,(gk_td hnX).dv,rfl,.inl (SqL.of (sX _ _ ee6)),(AN.dts (fun v i g=>NM.dt g) an6).dv,(W.lay i hiw).1,xAbh fun d hd=>?_,qh (xAcc _) (by decide),_,rfl,?_⟩
     ·obtain ⟨k,hk,rfl⟩:=qk.mp hd
      exact (W.lay k (xAaz W ((hmem k).mp hk).1)).1
     have eb2:(List.map (dN (nkS S)) el).any (fun d=>d.eqv (tD (nkS S i)))=decide (i∈el):=xAsd (nk:=nkS S) (js:=el) (i:=i) fun k hk e=>inj k ((hmem k).mp hk).1 i hir e
     by_cases he:i∈el
     ·exact itF ((congrArg not eb2).trans (by rw [decide_eq_true he];rfl)) ⟨(decide_eq_false fun z=>z.2.1 he).symm,rfl⟩
     ·refine itT ((congrArg not eb2).trans (by rw [decide_eq_false he];rfl)) ⟨_,rfl,b,_,4,_,rfl,rfl,SqT.of ebX,rfl,rfl,_,rfl,?_,rfl⟩
      cases e:(M' 0).vl with
      | none=>exact (decide_eq_false fun z=>z.2.2 rfl).symm
      | some z=>exact (decide_eq_true ⟨hc,he,fun z=>nomatch z⟩).symm
    ·exact itF (ea.trans (m8.mpr hc)) ⟨(decide_eq_false fun z=>hc z.1).symm,rfl⟩
   ·rintro bb T ⟨rfl,rfl⟩
    have eld:i∈el↔(tell M (rowS S n (M' 0).pt) (marksP M m (M' 0).pt) (M' 0).kd ((rowS S n (M' 0).pt).idxOf i)).isSome=true:=by
     rw [hmem i,xAsj];exact ⟨fun z=>z.2,fun z=>⟨hir,z⟩⟩
    by_cases hc:cvr (rowS S n (M' 0).pt) (M' 0) ((rowS S n (M' 0).pt).idxOf i)=true/\i∉el/\(M' 0).vl≠none
    ·refine itT (decide_eq_true hc) ?_
     have tn:tell M (rowS S n (M' 0).pt) (marksP M m (M' 0).pt) (M' 0).kd ((rowS S n (M' 0).pt).idxOf i)=none:=by
      cases e:tell M (rowS S n (M' 0).pt) (marksP M m (M' 0).pt) (M' 0).kd ((rowS S n (M' 0).pt).idxOf i) with
      | none=>rfl
      | some k=>exact absurd (eld.mpr (by rw [e];rfl)) hc.2.1
     refine ⟨_,rfl,.inl ⟨rfl,_,SqL.of e9⟩,_,rfl,b,_,3,_,rfl,rfl,SqT.of ebX,rfl,_,rfl,b,_,4,_,rfl,rfl,SqT.of ebX,rfl,szOk rfl,fun w1 X1 gw r1 ew=>?_⟩;obtain ⟨z,ez⟩:=Option.ne_none_iff_exists'.mp hc.2.2;have sT:Same Y (upd X1 l9 (.lst (zs1++[.ref w1]))):=(r9.trans r1).wr g9;refine ⟨l9,_,_,rfl,rfl,r1 _ _ e9,xAak (by omega),zs1++[.ref w1],tlP M false (rowS S n (M' 0).pt) (marksP M m (M' 0).pt) ((rowS S n (M' 0).pt).idxOf i)++[((M' 0).kd,.str z)],rfl,sT,xAae,?_,?_⟩
     ·rw [zx]
      refine xAjc (.cons (.tup ((xAag (ne_of ew (r1 _ _ e9) (fun z=>nomatch z))).trans ew) (.cons (.str _) (.cons ?_ .nil))) .nil) (dz1.same sT);rw [ez];exact .str _
     ·have:=(xAwi (pl:=false) hM tn hc.1).symm
      unfold tlQ plD at this;dsimp only at this;rw [if_neg hc.2.2,ez] at this;exact this
    ·refine itF (decide_eq_false hc) ⟨zs1,_,rfl,r9,e9,dz1.same r9,?_⟩
     by_cases hv':(M' 0).vl=none/\cvr (rowS S n (M' 0).pt) (M' 0) ((rowS S n (M' 0).pt).idxOf i)=true/\i∉el
     ·have tn:tell M (rowS S n (M' 0).pt) (marksP M m (M' 0).pt) (M' 0).kd ((rowS S n (M' 0).pt).idxOf i)=none:=by
       cases e:tell M (rowS S n (M' 0).pt) (marksP M m (M' 0).pt) (M' 0).kd ((rowS S n (M' 0).pt).idxOf i) with
       | none=>rfl
       | some k=>exact absurd (eld.mpr (by rw [e];rfl)) hv'.2.2
      have:=(xAwi (pl:=false) hM tn hv'.2.1).symm;unfold tlQ at this;dsimp only at this;rw [if_pos hv'.1] at this;simpa using this
     ·refine (xAwh hM ?_).symm
      by_cases z:cvr (rowS S n (M' 0).pt) (M' 0) ((rowS S n (M' 0).pt).idxOf i)=true
      ·refine .inl (eld.mp (Decidable.byContradiction fun y=>?_))
       by_cases x:(M' 0).vl=none
       ·exact hv' ⟨x,z,y⟩
       ·exact hc ⟨z,y,x⟩
      ·exact .inr z
  rintro σ' T ⟨y9,p9,rfl,sT,e9',d9,pm9⟩
  have hl9:∀ k∈0::(marksP M m (M' 0).pt).map (·+1),k<m+1:=fun k hk=>by
   rcases qw.mp hk with z | z
   ·rw [z];omega
   ·obtain ⟨k',hk',rfl⟩:=qk.mp z
    exact Nat.succ_lt_succ (ql.mp (qv.mp hk').1)
  have prk:=xAsk (js:=rowS S n (M' 0).pt) (p:=(rowS S n (M' 0).pt).idxOf i) (pl:=false) fs'.wm hmn hl9
  have len9:p9.length<64:=by
   have h1:=xApa pm9;have h2:=xAcw (M:=M) (m:=m) (pt:=(M' 0).pt);rw [qx,qj] at h1;omega
  have hnT:NM (nkS S) T v i:=NM.tups hnY sT.tups;refine ⟨_,rfl,_,rfl,t2,kv2,.tup (nkS S i),.ref a2,rfl,.inl ((sY.trans sT) _ _ e26),hnT,v2,?_⟩;refine ⟨_,rfl,l9,y9,p9.map pr,3,rfl,SqL.of e9',d9.dv,xAgr (pl:=false) (fun x hx=>prk x (pm9.mem_iff.mp hx)),by rw [DTs.len d9,qj];exact len9,fun z1 Y1 ix gz1 sz1 six ez1=>?_⟩;refine ⟨_,_,.lst (SqL.of ((sT.trans sz1) _ _ ea2)) (dz2.same (sT.trans sz1)).dv,xAsl d9 pm9 sz1 six ez1,xAcg (pl:=false) prk,xAcg (pl:=false) prk,qh (ww _ _) (xAnh (pl:=false) prk),_,rfl,itF (by rw [PySem.SeqAt.eqv_refl _ (xAcg (pl:=false) prk)];rfl) ⟨_,_,rfl,(sY.trans sT).trans sz1⟩⟩
 rintro σ T ⟨u8,u9,rfl,sT⟩;exact kk T (s06.trans sT)
theorem ok_fBf (T:Txt K mg d tk) (gfAe:FnOk P w K mg base CX0 1 d.fAe d.fAed ["_law_script","_law_k"] (sp_fAe K)) (gfAr:FnOk P w K mg base CX0 1 d.fAr d.fArd ["_law_facts_here"] (sp_fAr K)) (gfAm:FnOk P w K mg base CX0 9 d.fAm d.fAmd ["_law_facts_here","_law_later","_law_mark"] (sp_fAm K)) (gfAn:FnOk P w K mg base CX0 5 d.fAn d.fAnd ["_law_script","_law_first","_law_roll_here","_law_parts"] (sp_fAn K)) (gfAk:FnOk P w K mg base CX0 9 d.fAk d.fAkd ["_law_facts_here","_law_later","_law_mark"] (sp_fAk K)) (gfAp:FnOk P w K mg base CX0 1 d.fAp d.fApd ["_law_digits"] (sp_fAp K)) (gfAt:FnOk P w K mg base CX0 2 d.fAt d.fAtd ["_law_cell"] (sp_fAt K)) (gfAw:FnOk P w K mg base CX0 2 d.fAw d.fAwd ["_law_number","_law_k","_law_free"] (sp_fAw K)) (gfAq:FnOk P w K mg base CX0 3 d.fAq d.fAqd ["_law_digits","_law_names"] (sp_fAq K)) (gfAv:FnOk P w K mg base CX0 8 d.fAv d.fAvd ["facts","part"] (sp_fAv K)) (gfAu:FnOk P w K mg base CX0 7 d.fAu d.fAud ["facts","part"] (sp_fAu K)):FnOk P w K mg base CX0 10 d.fBf d.fBfd ["_law_script"] (sp_fBf K):=by
 refine T.F_fBf.ok xAde (fun vs H Q E h=>xAvu h) (fun cdv A outer s H vs Q E hr h=>?_);have hu:(A.deeper (envOfC "law" (defScope s_fBf) s.heap.objs.size d.fBf cdv)).units<cLine:=hr.units0;have hu1:(A.deeper (envOfC "law" (defScope s_fBf) s.heap.objs.size d.fBf cdv)).units+1<cLine:=hu_of hr;refine ⟨_,(@xAad _ _ _ _ _ (@xAaj _ _ (1) _ _ _ _ xAde.nd rfl (Or.inl rfl) (@xAaf _ _ _ _ _ _ _ _ _ _ _ _ _ _ _ _ gfAt (hr.mono (by decide)) rfl T.m_fAt T.k_fAt T.d_fAt .nil pass0 (@xAaa _ _ _ _ _ (@xAaf _ _ _ _ _ _ _ _ _ _ _ _ _ _ _ _ gfAe (hr.mono (by decide)) rfl T.m_fAe T.k_fAe T.d_fAe .nil pass0 (@xAaa _ _ _ _ _ (@pq _ 0 _ _ rfl) (@xAaa _ _ _ _ _ (@xAah _ _ _ _) (@xAac _) rfl) rfl) (by decide) rfl rfl) (@xAac _) rfl) (by decide) rfl rfl) rfl (.inl rfl)) (@xAad _ _ _ _ _ (@xAaj _ _ (2) _ _ _ _ xAde.nd rfl (Or.inl rfl) (@xAan _ _ _ _ (@xAaa _ _ _ _ _ (@xAam _ _ _ _ _ (@xAaa _ _ _ _ _ (@xAal _ _ _ _) (@xAaa _ _ _ _ _ (@xAah _ _ _ _) (@xAac _) rfl) rfl)) (@xAaa _ _ _ _ _ (@xAam _ _ _ _ _ (@xAaa _ _ _ _ _ (@pe_ix _ _ _ _ _ _ _ xAcb (@pq _ 1 _ _ rfl) (@xAah _ _ _ _) (fun _ _=>rfl)) (@xAaa _ _ _ _ _ (@xAah _ _ _ _) (@xAac _) rfl) rfl)) (@xAaa _ _ _ _ _ (@xAam _ _ _ _ _ (@xAaa _ _ _ _ _ (@pe_ix _ _ _ _ _ _ _ xAcb (@pq _ 1 _ _ rfl) (@xAah _ _ _ _) (fun _ _=>rfl)) (@xAaa _ _ _ _ _ (@xAah _ _ _ _) (@xAac _) rfl) rfl)) (@xAac _) rfl) rfl) rfl)) rfl (.inl rfl)) (@xAad _ _ _ _ _ (@xAaj _ _ (3) _ _ _ _ xAde.nd rfl (Or.inl rfl) (@xAaf _ _ _ _ _ _ _ _ _ _ _ _ _ _ _ _ gfAn (hr.mono (by decide)) rfl T.m_fAn T.k_fAn T.d_fAn .nil pass0 (@xAaa _ _ _ _ _ (@xAgs _ _ _ _ _ _ _ _ _ _ xAkv (@pq _ 0 _ _ rfl) (@xAsv _) (@xAdf _ _ _ (@xAah _ _ _ _))) (@xAaa _ _ _ _ _ (@xAah _ _ _ _) (@xAaa _ _ _ _ _ (@pq _ 1 _ _ rfl) (@xAaa _ _ _ _ _ (@pq _ 2 _ _ rfl) (@xAac _) rfl) rfl) rfl) rfl) (by decide) rfl rfl) rfl (.inl rfl)) (@xAad _ _ _ _ _ (@xAku _ (4) _ _ _ _ _ _ _ _ _ (["_law_one"]) ([]) _ _ _ _ _ xAde.nd rfl (Or.inl rfl) rfl (@xAav _ _ _ _ (@xAbo _ _ _ _ _ _ hu1 (@pq _ 3 _ _ rfl) (@xAal _ _ _ _) (fun _ _=>rfl))) ⟨rfl,by decide +kernel,by decide +kernel⟩ (caps0 (by decide +kernel)) (fun _ _ _=>(@xAaq _ _ (0) _ (by show List.Nodup (["_law_one"]:List Str);decide +kernel) rfl (Or.inl rfl) (.inr rfl))) (fun _=>xAas rfl) (fun _ _ _=>(@xAdh _ _ _ (@xAao _ _ _ _ _ _ _ _ (xAhx (K:=K) rfl (hu64 hr)) (@pe_ix _ _ _ _ _ _ _ (xAbv (K:=K) rfl) (@pq _ 0 _ _ rfl) (@xAah _ _ _ _) (fun _ _=>rfl)) (@xAam _ _ _ _ _ (@xAaa _ _ _ _ _ (@xAal _ _ _ _) (@xAaa _ _ _ _ _ (@xAah _ _ _ _) (@xAac _) rfl) rfl)) (xAat _)))) (fun _ _ _=>(@pe_ix _ _ _ _ _ _ _ (xAbv (K:=K) rfl) (@pq _ 0 _ _ rfl) (@xAah _ _ _ _) (fun _ _=>rfl))) (by intro _;rfl) rfl (.inl rfl)) (@xAdi _ _ _ _ _ (@ps_if _ _ _ _ _ _ _ _ (@xAao _ _ _ _ _ _ _ _ (xAgw hu) (@pq _ 4 _ _ rfl) (@xAan _ _ _ _ (@xAac _)) (xAat _)) (@xAai _ _ _ (@xAar _ _ _ _ (@xAco _ _ _ _ _ _ _ _ (op_eqG (hu2 hr) (hu64 hr)) (@xAaf _ _ _ _ _ _ _ _ _ _ _ _ _ _ _ _ gfAv (hr.mono (by decide)) rfl T.m_fAv T.k_fAv T.d_fAv .nil pass0 (@xAaa _ _ _ _ _ (@pq _ 3 _ _ rfl) (@xAaa _ _ _ _ _ (@xAam _ _ _ _ _ (@xAaa _ _ _ _ _ (@xAal _ _ _ _) (@xAaa _ _ _ _ _ (@xAah _ _ _ _) (@xAac _) rfl) rfl)) (@xAac _) rfl) rfl) (by decide) rfl rfl) (@xAij _ _) (xAat _)))) (@xAbl _)) (@xAad _ _ _ _ _ (@xAaj _ _ (5) _ _ _ _ xAde.nd rfl (Or.inl rfl) (@xAaf _ _ _ _ _ _ _ _ _ _ _ _ _ _ _ _ gfAw (hr.mono (by decide)) rfl T.m_fAw T.k_fAw T.d_fAw .nil pass0 (@xAaa _ _ _ _ _ (@pe_ix _ _ _ _ _ _ _ xAcb (@pq _ 0 _ _ rfl) (@pe_un _ _ _ _ _ _ xAqq (@xAah _ _ _ _)) (fun _ _=>rfl)) (@xAaa _ _ _ _ _ (@xAah _ _ _ _) (@xAaa _ _ _ _ _ (@xAco _ _ _ _ _ _ _ _ op_eq (@pe_op _ _ _ _ _ _ _ _ xAbk (@pe_ix _ _ _ _ _ _ _ xAcb (@pq _ 0 _ _ rfl) (@xAah _ _ _ _) (fun _ _=>rfl)) (@xAah _ _ _ _)) (@xAah _ _ _ _) (xAat _)) (@xAac _) rfl) rfl) rfl) (by decide) rfl rfl) rfl (.inl rfl)) (@xAad _ _ _ _ _ (@xAaj _ _ (6) _ _ _ _ xAde.nd rfl (Or.inl rfl) (@xAaf _ _ _ _ _ _ _ _ _ _ _ _ _ _ _ _ gfAq (hr.mono (by decide)) rfl T.m_fAq T.k_fAq T.d_fAq .nil pass0 (@xAaa _ _ _ _ _ (@pq _ 5 _ _ rfl) (@xAaa _ _ _ _ _ (@pq _ 4 _ _ rfl) (@xAac _) rfl) rfl) (by decide) rfl rfl) rfl (.inl rfl)) (@xAad _ _ _ _ _ (@xAaj _ _ (7) _ _ _ _ xAde.nd rfl (Or.inl rfl) (@xAaf _ _ _ _ _ _ _ _ _ _ _ _ _ _ _ _ gfAq (hr.mono (by decide)) rfl T.m_fAq T.k_fAq T.d_fAq .nil pass0 (@xAaa _ _ _ _ _ (@pq _ 5 _ _ rfl) (@xAaa _ _ _ _ _ (@pq _ 4 _ _ rfl) (@xAac _) rfl) rfl) (by decide) rfl rfl) rfl (.inl rfl)) (@xAad _ _ _ _ _ (@xAaj _ _ (8) _ _ _ _ xAde.nd rfl (Or.inl rfl) (@pe_ix _ _ _ _ _ _ _ xAek (@xAan _ _ _ _ (@xAaa _ _ _ _ _ (@xAal _ _ _ _) (@xAaa _ _ _ _ _ (@xAal _ _ _ _) (@xAaa _ _ _ _ _ (@xAal _ _ _ _) (@xAac _) rfl) rfl) rfl)) (@pe_op _ _ _ _ _ _ _ _ xAbk (@xAaf _ _ _ _ _ _ _ _ _ _ _ _ _ _ _ _ gfAp (hr.mono (by decide)) rfl T.m_fAp T.k_fAp T.d_fAp .nil pass0 (@xAaa _ _ _ _ _ (@pq _ 5 _ _ rfl) (@xAac _) rfl) (by decide) rfl rfl) (@xAah _ _ _ _)) (fun _ _=>rfl)) rfl (.inl rfl)) (@xAad _ _ _ _ _ (@xAaj _ _ (9) _ _ _ _ xAde.nd rfl (Or.inl rfl) (@pe_ix _ _ _ _ _ _ _ xAek (@xAan _ _ _ _ (@xAaa _ _ _ _ _ (@xAcx _ _ _) (@xAaa _ _ _ _ _ (@xAal _ _ _ _) (@xAaa _ _ _ _ _ (@xAal _ _ _ _) (@xAac _) rfl) rfl) rfl)) (@pe_op _ _ _ _ _ _ _ _ xAbk (@xAaf _ _ _ _ _ _ _ _ _ _ _ _ _ _ _ _ gfAp (hr.mono (by decide)) rfl T.m_fAp T.k_fAp T.d_fAp .nil pass0 (@xAaa _ _ _ _ _ (@pq _ 5 _ _ rfl) (@xAac _) rfl) (by decide) rfl rfl) (@xAah _ _ _ _)) (fun _ _=>rfl)) rfl (.inl rfl)) (@xAad _ _ _ _ _ (@xAaj _ _ (10) _ _ _ _ xAde.nd rfl (Or.inl rfl) (@xAaf _ _ _ _ _ _ _ _ _ _ _ _ _ _ _ _ gfAr (hr.mono (by decide)) rfl T.m_fAr T.k_fAr T.d_fAr .nil pass0 (@xAaa _ _ _ _ _ (@pq _ 3 _ _ rfl) (@xAac _) rfl) (by decide) rfl rfl) rfl (.inl rfl)) (@xAad _ _ _ _ _ (@xAbm _ _ _ _ (@pe_bm _ _ _ _ _ _ _ _ _ _ _ _ PySem.F.plainAttrs_list PySem.F.slot_list_append PySem.F.type_list_append xAba (@xAbo _ _ _ _ _ _ hu1 (@pq _ 10 _ _ rfl) (@xAal _ _ _ _) (fun _ _=>rfl)) (@xAaa _ _ _ _ _ (@xAam _ _ _ _ _ (@xAaa _ _ _ _ _ (@xAam _ _ _ _ _ (@xAaa _ _ _ _ _ (@xAal _ _ _ _) (@xAaa _ _ _ _ _ (@xAah _ _ _ _) (@xAac _) rfl) rfl)) (@xAaa _ _ _ _ _ (@pq _ 6 _ _ rfl) (@xAaa _ _ _ _ _ (@pq _ 7 _ _ rfl) (@xAaa _ _ _ _ _ (@pq _ 8 _ _ rfl) (@xAaa _ _ _ _ _ (@pq _ 9 _ _ rfl) (@xAaa _ _ _ _ _ (@xAam _ _ _ _ _ (@xAaa _ _ _ _ _ (@pe_ix _ _ _ _ _ _ _ xAcb (@pq _ 1 _ _ rfl) (@xAah _ _ _ _) (fun _ _=>rfl)) (@xAaa _ _ _ _ _ (@xAah _ _ _ _) (@xAac _) rfl) rfl)) (@xAaa _ _ _ _ _ (@xAam _ _ _ _ _ (@xAaa _ _ _ _ _ (@xAah _ _ _ _) (@xAaa _ _ _ _ _ (@xAah _ _ _ _) (@xAac _) rfl) rfl)) (@xAac _) rfl) rfl) rfl) rfl) rfl) rfl) rfl)) (@xAac _) rfl) rfl rfl rfl rfl rfl) rfl) (@xAdi _ _ _ _ _ (@ps_if _ _ _ _ _ _ _ _ (@xAsr _ _ _ _ (@xAnn _ _ _ (@xAaf _ _ _ _ _ _ _ _ _ _ _ _ _ _ _ _ gfAk (hr.mono (by decide)) rfl T.m_fAk T.k_fAk T.d_fAk .nil pass0 (@xAaa _ _ _ _ _ (@pq _ 3 _ _ rfl) (@xAaa _ _ _ _ _ (@pq _ 10 _ _ rfl) (@xAaa _ _ _ _ _ (@pe_ix _ _ _ _ _ _ _ xAcb (@xAbo _ _ _ _ _ _ hu1 (@pq _ 10 _ _ rfl) (@xAal _ _ _ _) (fun _ _=>rfl)) (@pe_un _ _ _ _ _ _ xAqq (@xAah _ _ _ _)) (fun _ _=>rfl)) (@xAac _) rfl) rfl) rfl) (by decide) rfl rfl) (by intro _;rfl))) (@xAai _ _ _ (@xAar _ _ _ _ (@pe_bl _ _ _ _))) (@xAbl _)) (@xAad _ _ _ _ _ (@xAaj _ _ (11) _ _ _ _ xAde.nd rfl (Or.inl rfl) (@xAaf _ _ _ _ _ _ _ _ _ _ _ _ _ _ _ _ gfAr (hr.mono (by decide)) rfl T.m_fAr T.k_fAr T.d_fAr .nil pass0 (@xAaa _ _ _ _ _ (@pq _ 3 _ _ rfl) (@xAac _) rfl) (by decide) rfl rfl) rfl (.inl rfl)) (@xAad _ _ _ _ _ (@xAkq _ _ _ _ _ _ _ _ _ hu1 (@pq _ 11 _ _ rfl) (@xAal _ _ _ _) (@pe_op _ _ _ _ _ _ _ _ xAfz (@xAan _ _ _ _ (@xAaa _ _ _ _ _ (@xAam _ _ _ _ _ (@xAaa _ _ _ _ _ (@xAam _ _ _ _ _ (@xAaa _ _ _ _ _ (@xAal _ _ _ _) (@xAaa _ _ _ _ _ (@xAah _ _ _ _) (@xAac _) rfl) rfl)) (@xAaa _ _ _ _ _ (@pq _ 6 _ _ rfl) (@xAaa _ _ _ _ _ (@pq _ 7 _ _ rfl) (@xAaa _ _ _ _ _ (@pq _ 8 _ _ rfl) (@xAaa _ _ _ _ _ (@pq _ 9 _ _ rfl) (@xAaa _ _ _ _ _ (@xAam _ _ _ _ _ (@xAaa _ _ _ _ _ (@pe_ix _ _ _ _ _ _ _ xAcb (@pq _ 1 _ _ rfl) (@xAah _ _ _ _) (fun _ _=>rfl)) (@xAaa _ _ _ _ _ (@xAah _ _ _ _) (@xAac _) rfl) rfl)) (@xAaa _ _ _ _ _ (@xAam _ _ _ _ _ (@xAaa _ _ _ _ _ (@xAah _ _ _ _) (@xAaa _ _ _ _ _ (@xAah _ _ _ _) (@xAac _) rfl) rfl)) (@xAac _) rfl) rfl) rfl) rfl) rfl) rfl) rfl)) (@xAac _) rfl)) (@xAbo _ _ _ _ _ _ hu1 (@pq _ 3 _ _ rfl) (@xAal _ _ _ _) (fun _ _=>rfl))) rfl) (@xAdi _ _ _ _ _ (@ps_if _ _ _ _ _ _ _ _ (@xAsr _ _ _ _ (@xAnn _ _ _ (@xAaf _ _ _ _ _ _ _ _ _ _ _ _ _ _ _ _ gfAm (hr.mono (by decide)) rfl T.m_fAm T.k_fAm T.d_fAm .nil pass0 (@xAaa _ _ _ _ _ (@pq _ 3 _ _ rfl) (@xAaa _ _ _ _ _ (@pq _ 11 _ _ rfl) (@xAaa _ _ _ _ _ (@pe_ix _ _ _ _ _ _ _ xAcb (@xAbo _ _ _ _ _ _ hu1 (@pq _ 11 _ _ rfl) (@xAal _ _ _ _) (fun _ _=>rfl)) (@xAah _ _ _ _) (fun _ _=>rfl)) (@xAac _) rfl) rfl) rfl) (by decide) rfl rfl) (by intro _;rfl))) (@xAai _ _ _ (@xAar _ _ _ _ (@pe_bl _ _ _ _))) (@xAbl _)) (@xAad _ _ _ _ _ (@xAcn _ _ _ _ _ _ _ _ PassesOwn.never rfl (@xAav _ _ _ _ (@pq _ 2 _ _ rfl)) (@xAaq _ _ (12) _ xAde.nd rfl (Or.inl rfl) (.inl rfl)) (@xAdi _ _ _ _ _ (@ps_if _ _ _ _ _ _ _ _ (@xAao _ _ _ _ _ _ _ _ (xAkx (hu64 hr)) (@xAaf _ _ _ _ _ _ _ _ _ _ _ _ _ _ _ _ gfAu (hr.mono (by decide)) rfl T.m_fAu T.k_fAu T.d_fAu .nil pass0 (@xAaa _ _ _ _ _ (@pq _ 10 _ _ rfl) (@xAaa _ _ _ _ _ (@pq _ 12 _ _ rfl) (@xAac _) rfl) rfl) (by decide) rfl rfl) (@xAaf _ _ _ _ _ _ _ _ _ _ _ _ _ _ _ _ gfAu (hr.mono (by decide)) rfl T.m_fAu T.k_fAu T.d_fAu .nil pass0 (@xAaa _ _ _ _ _ (@pq _ 3 _ _ rfl) (@xAaa _ _ _ _ _ (@pq _ 12 _ _ rfl) (@xAac _) rfl) rfl) (by decide) rfl rfl) (xAat _)) (@xAai _ _ _ (@xAar _ _ _ _ (@pe_bl _ _ _ _))) (@xAbl _)) (@xAai _ _ _ (@ps_if _ _ _ _ _ _ _ _ (@xAec _ _ _ (@PW.pt _ _ _ (@xAjh _ _ _ _ _ _ _ (@xAao _ _ _ _ _ _ _ _ (xAkx (hu64 hr)) (@pq _ 12 _ _ rfl) (@xAam _ _ _ _ _ (@xAaa _ _ _ _ _ (@xAal _ _ _ _) (@xAaa _ _ _ _ _ (@xAah _ _ _ _) (@xAac _) rfl) rfl)) (xAat _)) (@xAft _ _ _ _ (@xAao _ _ _ _ _ _ _ _ (op_neG (hu2 hr) (hu64 hr)) (@xAaf _ _ _ _ _ _ _ _ _ _ _ _ _ _ _ _ gfAv (hr.mono (by decide)) rfl T.m_fAv T.k_fAv T.d_fAv .nil pass0 (@xAaa _ _ _ _ _ (@pq _ 10 _ _ rfl) (@xAaa _ _ _ _ _ (@pq _ 12 _ _ rfl) (@xAac _) rfl) rfl) (by decide) rfl rfl) (@xAaf _ _ _ _ _ _ _ _ _ _ _ _ _ _ _ _ gfAv (hr.mono (by decide)) rfl T.m_fAv T.k_fAv T.d_fAv .nil pass0 (@xAaa _ _ _ _ _ (@pq _ 3 _ _ rfl) (@xAaa _ _ _ _ _ (@pq _ 12 _ _ rfl) (@xAac _) rfl) rfl) (by decide) rfl rfl) (xAat _)))))) (@xAai _ _ _ (@xAar _ _ _ _ (@pe_bl _ _ _ _))) (@xAbl _)))) (by intro _;rfl)) (@xAai _ _ _ (@xAar _ _ _ _ (@pe_bl _ _ _ _)))))))))))))))))))),?_⟩;obtain ⟨sp,zs,rfl,hs,hl,kk⟩:=h;refine ⟨_,rfl,sp,zs,0,rfl,hs,by decide,fun c=>⟨c,rfl,fun H1 rq w0 w1 w2 s1 g1 e1 i0 i1 i2=>?_⟩⟩;refine ⟨szOk rfl,fun t0 H2 g2 s2 e2=>⟨_,rfl,rq,_,1,_,rfl,rfl,SqL.of (s2 _ _ e1),rfl,szOk rfl,fun t1 H3 g3 s3 e3=>⟨_,rfl,rq,_,2,_,rfl,rfl,SqL.of (s3 _ _ (s2 _ _ e1)),rfl,szOk rfl,fun t2 H4 g4 s4 e4=>⟨szOk rfl,fun lp H5 g5 s5 e5=>?_⟩⟩⟩⟩;have s15:=((s2.trans s3).trans s4).trans s5
 let tt:Nat->Addr:=fun c=>if c=0 then t0 else if c=1 then t1 else t2
 have etp:∀ c,c<3->H5 (tt c)=some (.tup ((ptsD w1 w2 c).map kV)):=fun c hc=>by
  match c,hc with
  | 0,_=>exact s5 _ _ (s4 _ _ (s3 _ _ e2))
  | 1,_=>exact s5 _ _ (s4 _ _ e3)
  | 2,_=>exact s5 _ _ e4
 have lay0:Lay [.inr "",.inl 0]:=xAef (z:="") (by decide +kernel) 0;refine ⟨_,rfl,_,rfl,sp,_,rfl,hs.same (s1.trans s15),fun zq H6 g6 s6 e6=>?_⟩;obtain ⟨zs',hz',hzl⟩:∃ zs':List Int,cutV (zs.map V.int) none (some 62)=zs'.map V.int/\zs'.length≤zs.length:=⟨_,by unfold cutV;rw [← List.map_drop,← List.map_take],by rw [zt];exact qh (Nat.min_le_right _ _) (by rw [z5];exact Nat.sub_le _ _)⟩;rw [hz'] at e6;have s16:=s15.trans s6;refine ⟨_,rfl,_,rfl,zq,zs',rq,lp,w0,w1,w2,tt,rfl,SqL.of e6,s16 _ _ e1,i0,i1,i2,⟨s6 _ _ e5,fun c hc=>s6 _ _ (etp c hc)⟩,fun H7 fa F S n M m N q xs ms ns s7 fs efa gfa gF bd hpos=>?_⟩;have W:=fs.ws;have s17:=s16.trans s7;have elp7:=(s6.trans s7) _ _ e5;have ept7:∀ c,c<3->H7 (tt c)=some (.tup ((ptsD w1 w2 c).map kV)):=fun c hc=>(s6.trans s7) _ _ (etp c hc);have erq7:=s17 _ _ e1;have hs7:SqL K H7 sp (List.map V.int zs):=hs.same (s1.trans s17)
 have hvl:xs.length=n:=by rw [fs.sa.1,q9]
 clear etp e6 hz' e5 s6 s16 s15 e1 s2 s3 s4 s5 g1 g2 g3 g4 g5 g6 e2 e3 e4;have few:=W.few;refine ⟨_,rfl,fa,.ref (F 3),rfl,.inl ⟨fkv F 9,.inr "signs",fs.dk,rfl,(xAdb F 3 (by decide)).symm⟩,F 3,rfl,⟨_,SqL.of fs.sl⟩,xAdq (xs:=xs) (big2 (by omega)) (fun j ys H'=>Same H7 H'/\AN (NM (nkS S) H') ys (((List.range n).take j).filter (mineS S [.inr "",.inl 0]))) ⟨Same.refl _,.nil⟩ (fun _ _ H' s'=>SqL.of (s'.1 _ _ fs.sl)) (fun j x ys H' K1 K0 hx s' k1 k0=>?_) fun H8' nq nv s' hy hq=>?_⟩
 ·obtain ⟨s',ay⟩:=s'
  obtain ⟨i,ei,sn⟩:=fs.sa.at hx;have hin:i<n:=ql.mp (zk ei);have sn:=SN.tups sn s'.tups;obtain ⟨b,vq,vn,vb,kq,vg,rfl,h1,h2,h3,h4,h5,h6⟩:=sn
  have tk:(List.range n).take (j+1)=(List.range n).take j++[i]:=by rw [z8,ei];rfl
  refine ⟨_,rfl,b,_,0,_,rfl,rfl,SqT.of h1,rfl,szOk rfl,fun pq Y gp sy ep=>⟨tD (S i).pt,tD [.inr "",.inl 0],(gk_td (GK.tups h2 sy.tups)).dv,(gk_td ⟨pq,rfl,ep⟩).dv,(W.lay i hin).2,lay0,qh (ww _ _) (qh (xAcc _) (by decide)),_,rfl,?_⟩⟩;have an':AN (NM (nkS S) Y) ys (((List.range n).take j).filter (mineS S [.inr "",.inl 0])):=ay.imp fun v i g=>NM.tups g sy.tups;have eqp:(if false=true then !PyData.eqv (tD (S i).pt) (tD [.inr "",.inl 0]) else PyData.eqv (tD (S i).pt) (tD [.inr "",.inl 0]))=decide ((S i).pt=[.inr "",.inl 0]):=xAem _ _
  by_cases hp:(S i).pt=[.inr "",.inl 0]
  ·refine itT (by rw [eqp];exact decide_eq_true hp) ⟨_,rfl,b,_,1,_,rfl,rfl,SqT.of (sy _ _ h1),rfl,k1 _ _ ⟨s'.trans sy,?_⟩⟩
   rw [tk];exact AN.pick (vs:=xs) an' (NM.tups h3 sy.tups) (xAau.mpr hp)
  ·refine itF (by rw [eqp];exact decide_eq_false hp) (k0 _ ⟨s'.trans sy,?_⟩)
   rw [tk];exact an'.skip fun z=>hp (xAau.mp z)
 obtain ⟨s8',ay⟩:=s';rw [hvl,v9 (by rw [q9];exact qg _)] at ay;have s78:=s8'.trans (Same.new (o:=.lst nv) hq);have gnq:=s8'.free hq;have enq:(upd H8' nq (.lst nv)) nq=some (.lst nv):=xAae;have an8:AN (NM (nkS S) (upd H8' nq (.lst nv))) nv (minesS S n [.inr "",.inl 0]):=ay.imp fun v i g=>NM.tups g (Same.new hq).tups;generalize upd H8' nq (.lst nv)=H8 at s78 enq an8;clear ay hq s8' hy;refine ⟨fun σ' X=>σ'=[some (.ref sp),some (.ref rq),some (.ref lp),some (.ref fa),some (.ref nq),none,none,none,none,none,none,none,none]/\Same H8 X/\0<nv.length,?_,?_⟩
 ·refine ⟨_,rfl,szOk rfl,fun lq Y gl sl el=>⟨nq,lq,nv,rfl,rfl,SqL.of (sl _ _ enq),SqL.of el,_,rfl,?_⟩⟩
  cases nv with
  | cons v vs=>exact itF rfl ⟨rfl,sl,j0 _⟩
  | nil =>
   refine itT rfl ⟨_,rfl,szOk rfl,fun p1 Y1 g1 s1' e1=>⟨fa,F,S,n,M,m,N,q,xs,ms,ns,.ref p1,[.inr "",.inl 0],rfl,fs.same ((s78.trans sl).trans s1'),⟨p1,rfl,e1⟩,lay0,by have:=bd.mb;omega,fun Y2 tq kvs s2 g2 e2 d2=>fun p3 Y3 g3 s3 e3=>⟨tq,p3,kvs,[],rfl,rfl,.inl (s3 _ _ e2),.inl e3,.inr ⟨[],[],?_⟩⟩⟩⟩
   have hz:aliveS S n [.inr "",.inl 0]=[]:=by
    refine List.eq_nil_iff_forall_not_mem.mpr fun i hi=>?_;have h1:=(xAcm W).mp (qv.mp hi).1;have h2:i∈minesS S n [.inr "",.inl 0]:=qv.mpr ⟨ql.mpr h1.1,xAau.mpr h1.2⟩;have:=an8.1;rw [ng this.symm] at h2;cases h2
   have hk:kvs=[]:=ng (by rw [d2.len,hz];rfl);subst hk;exact ⟨rfl,.nil,.nil,rfl,rfl,by decide,kk _⟩
 rintro σ' H9 ⟨rfl,s9,hnv⟩;have hmi:∀ i∈minesS S n [.inr "",.inl 0],i<n/\(S i).pt=[.inr "",.inl 0]:=fun i hi=>⟨ql.mp (qv.mp hi).1,xAau.mp (qv.mp hi).2⟩
 have hn0:0<n:=by
  rw [an8.1] at hnv;obtain ⟨i,hi⟩:=List.exists_mem_of_length_pos hnv;have:=(hmi i hi).1;omega
 obtain ⟨z0,zr,rfl⟩:∃ z0 zr,zs=z0::zr:=by
  cases zs with
  | nil=>exact absurd (zn (hpos hn0) hzl) (by decide)
  | cons a l=>exact ⟨a,l,rfl⟩
 have s79:=s78.trans s9
 obtain ⟨cl,hcl⟩:∃ cl:Int,atI ((z0::zr).map V.int) (-1)=some (.int cl):=by
  have hne:(z0::zr)≠[]:=yw _ _;have:=xAkm (((z0::zr).dropLast).map V.int) (V.int ((z0::zr).getLast hne));rw [show ((z0::zr).dropLast).map V.int++[V.int ((z0::zr).getLast hne)]=((z0::zr).dropLast++[(z0::zr).getLast hne]).map V.int by rw [zx];rfl,List.dropLast_concat_getLast hne] at this;exact ⟨_,this⟩
 refine ⟨_,rfl,_,rfl,sp,_,-1,_,rfl,rfl,hs7.same s79,hcl,_,rfl,sp,_,0,.int z0,rfl,rfl,hs7.same s79,xAdp (j:=0) rfl,_,_,rfl,rfl,(by show (0:Int)<2;decide),rfl,?_⟩;generalize decide (V.int (z0 % 2)=V.int 1)=free;refine ⟨cl,71,free,rfl,by decide,by decide,fun Ha dp sa ga dd=>?_⟩;have s7a:=s79.trans sa;have gdp7:H7 dp=none:=s79.free ga;have nqd:nq≠dp:=xAab (s9 _ _ enq) ga;have enqa:=(s9.trans sa) _ _ enq;have an9:=an8.imp fun v i g=>NM.tups g (s9.trans sa).tups;refine ⟨_,rfl,_,rfl,dp,nq,nv,S,minesS S n [.inr "",.inl 0],rfl,dd,nqd,enqa,an9,hnv,fun Hb vb db sb ddb gvb hb=>?_⟩;have s7b:Same H7 Hb:=fun b u e=>DP.to sb (s7a _ _ e) (xAab e gdp7);have enqb:=DP.to sb enqa nqd;have anb:=an9.imp fun v i g=>NM.tups g (dd.tups sb);refine ⟨_,rfl,_,rfl,dp,nq,nv,S,minesS S n [.inr "",.inl 0],rfl,ddb,nqd,enqb,anb,hnv,fun Hc ve de sc ddc gve he=>?_⟩;have s7c:Same H7 Hc:=fun b u e=>DP.to sc (s7b _ _ e) (xAab e gdp7);have gvc:=gvb.tups (ddb.tups sc);have okb:SdOk S n [.inr "",.inl 0] db:=fun i b e=>hmi i (hb i b e);have oke:SdOk S n [.inr "",.inl 0] de:=fun i b e=>hmi i (he i b e);clear sb sc s7b s7a s79 enqa enqb anb an9 an8 hb he ddb dd sa s9 s78 enq;refine ⟨szOk rfl,fun kl Hd gd sd ed=>⟨_,rfl,dp,rfl,ddc.same sd,fun He r se dde r0 r1=>⟨_,_,rfl,rfl,(by show (0:Int)<3;decide),kl,_,_,rfl,rfl,SqL.of (DP.to se ed (DP.ne (H':=Hd) ddc gd).symm),xAci _ (by decide),xAcp _ (by decide),fun kv hkv=>?_⟩⟩⟩;have s7e:Same H7 He:=fun b u e=>DP.to se ((s7c.trans sd) _ _ e) (xAab e gdp7);have tce:=sd.tups.trans ((ddc.same sd).tups se)
 obtain ⟨kd,rfl,hkd⟩:∃ kd,kv=.str kd/\PyData.strOk kd=true:=by
  simp only [List.mem_cons,List.not_mem_nil,or_false] at hkv
  rcases hkv with rfl | rfl | rfl <;> exact ⟨_,rfl,by decide +kernel⟩
 refine ⟨szOk rfl,fun wl Hf gf sf ef=>⟨_,rfl,dp,rfl,dde.same sf,fun Hg r' sg ddg r0' r1'=>⟨_,_,rfl,rfl,(by show (0:Int)<3;decide),wl,_,_,rfl,rfl,SqL.of (DP.to sg ef (DP.ne (H':=Hf) dde gf).symm),xAci _ (by decide),xAcp _ (by decide),fun wv hwv=>?_⟩⟩⟩;have s7g:Same H7 Hg:=fun b u e=>DP.to sg ((s7e.trans sf) _ _ e) (xAab e gdp7);have tcg:=tce.trans (sf.tups.trans ((dde.same sf).tups sg))
 obtain ⟨vo,rfl,hvo⟩:∃ vo,wv=vlV vo/\∀ z,vo=some z->PyData.strOk z=true:=by
  simp only [List.mem_cons,List.not_mem_nil,or_false] at hwv
  rcases hwv with rfl | rfl | rfl
  ·exact ⟨none,rfl,fun z e=>nomatch e⟩
  ·exact ⟨some "thin",rfl,fun z e=>by cases e;decide +kernel⟩
  ·exact ⟨some "other",rfl,fun z e=>by cases e;decide +kernel⟩
 have gvg:=gvc.tups tcg;have gvh:=gve.tups tcg;clear se sd sf sg tce tcg s7e s7c gvc gve ddc dde ddg hkv hwv gd gf ed ef r0 r1 r0' r1';have fsg:=fs.same s7g;refine ⟨_,rfl,fa,F,xsF xs ms ns,rfl,fsg.dk,fun i hi=>fsg.all hi,fun Hi kq C o y1 y3 gk ek hC inC=>?_⟩
 have ti:Tups Hg Hi:=fun a ys e=>y1 a _ (fun z=>by rw [z,s7g _ _ efa] at e;cases e) e
 have cop:∀ {X Y:Hp} {kq:Addr} {C:Nat->Addr} {o:Obj},FS X fa F S n M m N q xs ms ns->(∀ a u,a≠fa->X a=some u->Y a=some u)->Tups X Y->Y fa=some (.frz o (.dK (fkv F 9)))->Y kq=some (.dK (fkv C 9))->(∀ i,i<9->X (C i)=none/\Y (C i)=some (.lst (xsF xs ms ns i)))->(∀ i,i<9->∀ j,j<9->C i=C j->i=j)->FS Y fa F S n M m N q xs ms ns/\FS Y kq C S n M m N q xs ms ns:=fun {X Y kq C o} f y1 t y3 ek hC inC=>by
  have f':FS Y fa F S n M m N q xs ms ns:=f.to t (.inr ⟨o,y3⟩) fun i hi ys e=>y1 _ _ (rd_ne f.dk e).symm e;exact ⟨f',.inl ek,inC,fun i h1 h2 h3 h4=>by have:=(hC i h1).2;unfold xsF at this;rw [if_neg h2,if_neg h3,if_neg h4] at this;exact this,(hC 3 (by decide)).2,f'.sa,W,(hC 4 (by decide)).2,f'.ma,f'.wm,(hC 5 (by decide)).2,f'.na,f'.wn⟩
 obtain ⟨fsi,fli⟩:=cop fsg y1 ti y3 ek hC inC
 have nFC:∀ i,i<9->F i≠C 4:=fun i hi z=>by
  have h1:=fsg.all hi;rw [z,(hC 4 (by decide)).1] at h1;cases h1
 have nC4:∀ {b:Addr} {u:HO},H7 b=some u->b≠C 4:=fun {b u} e z=>by
  have:=s7g _ _ e;rw [z,(hC 4 (by decide)).1] at this;cases this
 have u7i:∀ {b:Addr} {u:HO},b≠fa->H7 b=some u->Hi b=some u:=fun {b u} hb e=>y1 b u hb (s7g _ _ e)
 have nfa:∀ {b:Addr} {o:HO},H7 b=some o->(∀ kvs,o≠.dK kvs)->b≠fa:=fun {b o} e ho z=>by rw [z,efa] at e;exact ho _ (Option.some.inj e).symm
 have erqi:=u7i (nfa erq7 fun _ z=>by cases z) erq7;have elpi:=u7i (nfa elp7 fun _ z=>by cases z) elp7
 have epti:∀ c,c<3->Hi (tt c)=some (.tup ((ptsD w1 w2 c).map kV)):=fun c hc=>u7i (nfa (ept7 c hc) fun _ z=>by cases z) (ept7 c hc)
 have gvi:=gvg.tups ti;have gwi:=gvh.tups ti;have mb:=bd.mb
 have hml:ms.length=m:=by rw [fs.ma.1,q9]
 refine ⟨_,rfl,kq,.ref (C 4),rfl,.inl ⟨fkv C 9,.inr "marks",fli.dk,rfl,(xAdb C 4 (by decide)).symm⟩,.inl ⟨rfl,_,SqL.of fli.ml⟩,szOk rfl,fun t7 Z1 g1 s1' e1=>?_⟩;refine ⟨_,rfl,_,rfl,_,rfl,_,rfl,_,rfl,rq,_,0,.str w0,rfl,rfl,SqL.of (s1' _ _ erqi),rfl,szOk rfl,fun t8 Z2 g2 s2 e2=>⟨szOk rfl,fun t9 Z3 g3 s3 e3=>⟨szOk rfl,fun tq Z4 g4 s4 e4=>?_⟩⟩⟩;have s14:=(s2.trans s3).trans s4;have s04:=s1'.trans s14;have f4:=fli.same s04;refine ⟨C 4,_,_,rfl,rfl,f4.ml,xAak (by omega),?_⟩;have laR:∀ k:Int,Lay [.inr "",.inl 0]/\Lay [.inr w0,.inl k]/\PyData.strOk kd=true/\∀ z,vo=some z->PyData.strOk z=true:=fun k=>⟨lay0,xAef (xAjt i0) k,hkd,hvo⟩;have flj:=f4.mark (r:=⟨[.inr "",.inl 0],db,de,kd,vo,[.inr w0,.inl 900],900,0⟩) e4 ⟨t7,rfl,s14 _ _ e1⟩ (gvi.tups s04.tups) (gwi.tups s04.tups) ⟨t8,rfl,(s3.trans s4) _ _ e2⟩ (s4 _ _ e3) (f4.wm.ext (by omega) (fun i hi=>.inl (by have:=(bd.mm i hi).2;show (M i).ka<900;omega)) ⟨okb,oke⟩ (laR 900))
 have fsj:FS (upd Z4 (C 4) (.lst (ms++[.ref tq]))) fa F S n M m N q xs ms ns:=(fsi.same s04).to (Tups.wl f4.ml) (Rd.wr (fsi.same s04).dk (rd_ne (fsi.same s04).dk f4.ml)) fun i hi ys e=>by rw [xAag (nFC i hi)];exact e
 have uij:∀ {b:Addr} {u:HO},b≠C 4->Hi b=some u->(upd Z4 (C 4) (.lst (ms++[.ref tq]))) b=some u:=fun {b u} hb e=>by rw [xAag hb];exact s04 _ _ e
 have erqj:=uij (nC4 erq7) erqi;have elpj:=uij (nC4 elp7) elpi;have eptj:∀ c,c<3->_:=fun c hc=>uij (nC4 (ept7 c hc)) (epti c hc);have tij:Tups Hi (upd Z4 (C 4) (.lst (ms++[.ref tq]))):=s04.tups.trans (Tups.wl f4.ml);have gvj:=gvi.tups tij;have gwj:=gwi.tups tij;generalize upd Z4 (C 4) (.lst (ms++[.ref tq]))=Hj at flj fsj erqj elpj eptj gvj gwj;clear tij uij f4 s14 s04 s1' s2 s3 s4 e1 e2 e3 e4 g1 g2 g3 g4 fli fsi ti y1 y3 hC u7i erqi elpi epti gvi gwi nC4 nFC
 have hmn:∀ (r:Mk),(∃ w x,r.nm=[.inr w,.inl x])->∀ i,i<m+1->∃ w x,(extM M m r i).nm=[.inr w,.inl x]:=fun r hr i hi=>by
  by_cases z:i=m
  ·subst z;rw [xAcu];exact hr
  ·rw [xAby (show i<m by omega)];exact bd.mn i (by omega)
 have hsn:∀ i,i<n->∃ w x c,(S i).nk=[.inr w,.inl x,.inl c]:=fun i hi=>let ⟨w,x,c,e,_⟩:=bd.nm i hi;⟨w,x,c,e⟩
 have mnm:=flj.ma.2 m (.ref tq) m (by rw [← hml,List.getElem?_concat_length]) (wa (by omega));refine ⟨fun σ' X=>σ'=[some (.ref sp),some (.ref rq),some (.ref lp),some (.ref fa),some (.ref nq),some (.ref dp),some vb,some ve,some (.str kd),some (vlV vo),some (.ref kq),none,none]/\Same Hj X,?_,?_⟩
 ·exact ⟨_,rfl,_,rfl,_,rfl,kq,.ref (C 4),rfl,.inl ⟨fkv C 9,.inr "marks",flj.dk,rfl,(xAdb C 4 (by decide)).symm⟩,_,rfl,C 4,_,-1,_,rfl,rfl,SqL.of flj.ml,xAkm _ _,fa,kq,F,C,S,n,M,_,m,N,q,xs,ms,ns,xs,_,ns,_,rfl,fsj,flj,mnm,fun i hi=>xAby hi,by omega,hmn _ ⟨_,_,rfl⟩,hsn,bd.nb,fun X sX=>⟨_,rfl,itF rfl ⟨rfl,sX⟩⟩⟩
 rintro σ' Hk ⟨rfl,sk⟩;have fsk:=fsj.same sk;refine ⟨_,rfl,fa,F,xsF xs ms ns,rfl,fsk.dk,fun i hi=>fsk.all hi,fun Hl kp D o' y1 y3 gp ep hD inD=>?_⟩
 have ne1:∀ {b:Addr} {ys:List V},Hk b=some (.tup ys)->b≠fa:=fun {b ys} e z=>by
  rw [z] at e;rcases fsk.dk with h | ⟨_,h⟩ <;> rw [h] at e <;> cases e
 have ne2:∀ {b:Addr} {ys:List V},Hk b=some (.lst ys)->b≠fa:=fun e=>(rd_ne fsk.dk e).symm;have tl:Tups Hk Hl:=fun b ys e=>y1 _ _ (ne1 e) e;obtain ⟨fsl,fll⟩:=cop fsk y1 tl y3 ep hD inD
 have nkf:kq≠fa:=fun z=>by
  have h1:=flj.ml;have h2:=flj.dk;have h3:=fsj.dk;have:=xAab (s7g _ _ efa) gk;exact this z.symm
 have gll:=(flj.same sk).to tl (by
  rcases (flj.same sk).dk with h | ⟨o,h⟩
  ·exact .inl (y1 _ _ nkf h)
  ·exact .inr ⟨o,y1 _ _ nkf h⟩) fun i hi ys e=>y1 _ _ (ne2 e) e
 have erql:=y1 _ _ (ne2 (sk _ _ erqj)) (sk _ _ erqj);have elpl:=y1 _ _ (ne2 (sk _ _ elpj)) (sk _ _ elpj);have eptl:∀ c,c<3->Hl (tt c)=some (.tup ((ptsD w1 w2 c).map kV)):=fun c hc=>tl _ _ (sk _ _ (eptj c hc));have gvl:=gvj.tups (sk.tups.trans tl);have gwl:=gwj.tups (sk.tups.trans tl);refine ⟨szOk rfl,fun t7 Z1 g1 s1' e1=>?_⟩;refine ⟨_,rfl,_,rfl,_,rfl,_,rfl,_,rfl,rq,_,0,.str w0,rfl,rfl,SqL.of (s1' _ _ erql),rfl,szOk rfl,fun t8 Z2 g2 s2 e2=>⟨szOk rfl,fun t9 Z3 g3 s3 e3=>⟨szOk rfl,fun tr Z4 g4 s4 e4=>⟨szOk rfl,fun l5 Z5 g5 s5 e5=>?_⟩⟩⟩⟩;have s35:=(s3.trans s4).trans s5;have s15:=s2.trans s35;have s05:=s1'.trans s15;refine ⟨_,rfl,fa,.ref (F 4),rfl,.inl ⟨fkv F 9,.inr "marks",(fsl.same s05).dk,rfl,(xAdb F 4 (by decide)).symm⟩,l5,F 4,_,_,rfl,rfl,e5,(fsl.same s05).ml,big (by show 1+ms.length≤1000;omega),fun l6 Z6 g6 s6 e6=>?_⟩;have s06:=s05.trans s6;have f6:=fll.same s06;have ek6:=s06 _ _ ep;refine ⟨_,rfl,kp,_,rfl,DPut.k (k:=.inr "marks") ek6 (by unfold fkv;rw [qj,q9];exact xAak (by decide)),?_⟩;rw [xAwo]
 have np:∀ {b:Addr} {o:HO},Z6 b=some o->(∀ kvs,o≠.dK kvs)->b≠kp:=fun {b o} e ho z=>by rw [z,ek6] at e;exact ho _ (Option.some.inj e).symm
 have t6:Tups Z6 (upd Z6 kp (.dK (fkv (fun i=>if i=4 then l6 else D i) 9))):=Tups.wr ek6 fun ys z=>by cases z
 have nD:∀ i,i<9->D i≠l6:=fun i hi=>xAab ((fll.same s05).all hi) g6
 have fle:FS (upd Z6 kp (.dK (fkv (fun i=>if i=4 then l6 else D i) 9))) kp (fun i=>if i=4 then l6 else D i) S n (oldM M ⟨[.inr "",.inl 0],db,de,kd,vo,[.inr w0,.inl 9],9,0⟩) (m+1) N q xs ([.ref tr]++ms) ns:=by
  have lst:∀ {b:Addr} {ys:List V},Z6 b=some (.lst ys)->(upd Z6 kp (.dK (fkv (fun i=>if i=4 then l6 else D i) 9))) b=some (.lst ys):=fun e=>by rw [xAag (np e fun _ z=>by cases z)];exact e
  refine ⟨.inl xAae,fun i hi j hj e=>?_,fun i h1 h2 h3 h4=>?_,?_,f6.sa.imp fun v i g=>g.tups t6,W,?_,?_,f6.wm.old (by omega) (fun i hi=>.inl (by have:=(bd.mm i hi).1;show (9:Int)<(M i).ka;omega)) ⟨okb,oke⟩ (laR 9),?_,f6.na.imp fun v i g=>g.tups t6,f6.wn⟩
  ·by_cases z1:i=4
   ·by_cases z2:j=4
    ·omega
    ·rw [if_pos z1,if_neg z2] at e;exact absurd e.symm (nD j hj)
   ·by_cases z2:j=4
    ·rw [if_neg z1,if_pos z2] at e;exact absurd e (nD i hi)
    ·rw [if_neg z1,if_neg z2] at e;exact inD i hi j hj e
  ·rw [if_neg h3];exact lst (f6.rest i h1 h2 h3 h4)
  ·exact lst f6.sl
  ·exact lst e6
  ·refine old_an ⟨tr,.ref t7,vb,ve,.ref t8,t9,rfl,?_,⟨t7,rfl,?_⟩,gvl.tups (s06.tups.trans t6),gwl.tups (s06.tups.trans t6),⟨t8,rfl,?_⟩,?_⟩ (f6.ma.imp fun v i g=>g.tups t6)
   ·exact t6 _ _ ((s5.trans s6) _ _ e4)
   ·exact t6 _ _ ((s15.trans s6) _ _ e1)
   ·exact t6 _ _ ((s35.trans s6) _ _ e2)
   ·exact t6 _ _ (((s4.trans s5).trans s6) _ _ e3)
  ·exact lst f6.nl
 have fse:FS (upd Z6 kp (.dK (fkv (fun i=>if i=4 then l6 else D i) 9))) fa F S n M m N q xs ms ns:=(fsl.same s06).to t6 (Rd.wr (fsl.same s06).dk fun z=>by
  rw [← z,s06 _ _ y3] at ek6;cases ek6) fun i hi ys e=>by rw [xAag (np e fun _ z=>by cases z)];exact e
 have nkp:kq≠kp:=fun z=>by
  have h:=(flj.same sk).dk;rw [z] at h;rcases h with h | ⟨_,h⟩ <;> rw [gp] at h <;> cases h
 have gle:=(gll.same s06).to t6 (Rd.wr (gll.same s06).dk nkp) fun i hi ys e=>by rw [xAag (np e fun _ z=>by cases z)];exact e
 have elpe:(upd Z6 kp (.dK (fkv (fun i=>if i=4 then l6 else D i) 9))) lp=_:=(xAag (np (s06 _ _ elpl) fun _ z=>by cases z)).trans (s06 _ _ elpl);have epte:∀ c,c<3->_:=fun c hc=>t6 _ _ (s06 _ _ (eptl c hc));generalize upd Z6 kp (.dK (fkv (fun i=>if i=4 then l6 else D i) 9))=Hm at fle fse gle elpe epte t6;clear t6 np nD f6 ek6 s06 s05 s15 s35 s1' s2 s3 s4 s5 s6 e1 e2 e3 e4 e5 e6 g1 g2 g3 g4 g5 g6 fll fsl gll erql elpl eptl gvl gwl tl ne1 ne2 y1 y3 hD ep gp
 have hmo:∀ i,i<m+1->∃ w x,(oldM M ⟨[.inr "",.inl 0],db,de,kd,vo,[.inr w0,.inl 9],9,0⟩ i).nm=[.inr w,.inl x]:=fun i hi=>match i,hi with
  | 0,_=>⟨_,_,rfl⟩
  | i+1,hi=>bd.mn i (w6 hi)
 refine ⟨fun σ' X=>σ'=[some (.ref sp),some (.ref rq),some (.ref lp),some (.ref fa),some (.ref nq),some (.ref dp),some vb,some ve,some (.str kd),some (vlV vo),some (.ref kq),some (.ref kp),none]/\Same Hm X,?_,?_⟩
 ·exact ⟨_,rfl,_,rfl,_,rfl,kp,.ref l6,rfl,.inl ⟨_,.inr "marks",fle.dk,rfl,(xAdb (fun i=>if i=4 then l6 else D i) 4 (by decide)).symm⟩,l6,_,0,_,rfl,rfl,SqL.of fle.ml,xAdp (j:=0) rfl,fa,kp,F,_,S,n,M,_,m,N,q,xs,ms,ns,xs,_,ns,_,rfl,fse,fle,fle.ma.2 0 (.ref tr) 0 rfl (wa (j0 m)),fun _=>rfl,by omega,hmo,hsn,bd.nb,fun X sX=>⟨_,rfl,itF rfl ⟨rfl,sX⟩⟩⟩
 rintro σ' Hn ⟨rfl,sn⟩;refine ⟨_,rfl,lp,rfl,⟨_,SqL.of (sn _ _ elpe)⟩,xAbr (xs:=[.ref (tt 0),.ref (tt 1),.ref (tt 2)]) (fun j σ R=>∃ u12,σ=[some (.ref sp),some (.ref rq),some (.ref lp),some (.ref fa),some (.ref nq),some (.ref dp),some vb,some ve,some (.str kd),some (vlV vo),some (.ref kq),some (.ref kp),u12]/\Same Hm R) ⟨none,rfl,sn⟩ (fun j σ R _ ⟨_,_,s⟩=>SqL.of (s _ _ elpe)) ?_ ?_⟩
 ·rintro j x σ R hx ⟨u12,rfl,sR⟩
  obtain ⟨c,hc,rfl⟩:∃ c,c<3/\x=.ref (tt c):=by
   have h2:=zk hx
   simp only [List.mem_cons,List.not_mem_nil,or_false] at h2
   rcases h2 with rfl | rfl | rfl
   ·exact ⟨0,by decide,rfl⟩
   ·exact ⟨1,by decide,rfl⟩
   ·exact ⟨2,by decide,rfl⟩
  have gx:GK R (.tup (ptsD w1 w2 c)) (.ref (tt c)):=⟨_,rfl,sR _ _ (epte c hc)⟩;have hlay:=xAmx i1 i2 hc;have fsR:=fse.same sR;have flR:=gle.same sR;refine ⟨fun σ' R'=>σ'=[some (.ref sp),some (.ref rq),some (.ref lp),some (.ref fa),some (.ref nq),some (.ref dp),some vb,some ve,some (.str kd),some (vlV vo),some (.ref kq),some (.ref kp),some (.ref (tt c))]/\Same R R',?_,?_⟩
  ·obtain ⟨lay1,dep1,self1⟩:=nt_ok (pt:=ptsD w1 w2 c) W fs.wn
   exact ⟨_,rfl,_,rfl,kq,C,S,n,_,m+1,N,q,xs,_,ns,_,_,rfl,flR,gx,hlay,fun R5 uq uv r5 h5 f5' d5=>⟨_,rfl,_,rfl,fa,F,S,n,M,m,N,q,xs,ms,ns,_,_,rfl,fsR.same r5,gx.tups r5.tups,hlay,fun R6 wq wv r6 h6 f6' d6=>⟨.list _,.list _,.lst (SqL.of (r6 _ _ f5')) (d5.tups r6.tups).dv,.lst (SqL.of f6') d6.dv,lay1,lay1,qh (ww _ _) (show PyData.depthAll _+1≤64 from qh (yi dep1) (by decide)),_,rfl,itF (by rw [self1];rfl) ⟨rfl,r5.trans r6⟩⟩⟩⟩
  rintro σ' R' ⟨rfl,sR'⟩;refine ⟨fun b Y=>b=false/\Same R' Y,?_,?_⟩
  ·refine ⟨_,rfl,szOk rfl,fun p1 Y1 g1 s1' e1=>⟨tD (ptsD w1 w2 c),tD [.inr "",.inl 0],(gk_td (gx.tups (sR'.trans s1').tups)).dv,(gk_td ⟨p1,rfl,e1⟩).dv,hlay,lay0,qh (ww _ _) (qh (xAcc _) (by decide)),_,rfl,?_⟩⟩
   by_cases hp:ptsD w1 w2 c=[.inr "",.inl 0]
   ·exact itF (by rw [if_pos rfl,xAem,decide_eq_true hp];rfl) ⟨rfl,s1'⟩
   refine itT (by rw [if_pos rfl,xAem,decide_eq_false hp];rfl) ?_;have r0:=sR'.trans s1';refine ⟨_,rfl,_,rfl,kq,C,S,n,_,m+1,N,q,xs,_,ns,_,_,rfl,flR.same r0,gx.tups r0.tups,hlay,by omega,fun R3 mq mkv r3 h3 f3 td3=>⟨_,rfl,_,rfl,fa,F,S,n,M,m,N,q,xs,ms,ns,_,_,rfl,fsR.same (r0.trans r3),gx.tups (r0.trans r3).tups,hlay,by omega,fun R4 nq' nkv' r4 h4 f4 td4=>?_⟩⟩;rw [xAja (fun i hi=>xAby hi),if_neg (by rw [xAcu];exact fun z=>hp z.symm),zy] at td3;have hMl:∀ i∈marksP M m (ptsD w1 w2 c),extM M m ⟨[.inr "",.inl 0],db,de,kd,vo,[.inr w0,.inl 900],900,0⟩ i=M i:=fun i hi=>xAby (ql.mp (qv.mp hi).1)
   simp only [xAsf,xApb hMl] at td3 td4
   obtain ⟨x1,x2⟩:=lst_ok (l:=aliveS S n (ptsD w1 w2 c)) (g:=fun i=>tlP M false (rowS S n (ptsD w1 w2 c)) (marksP M m (ptsD w1 w2 c)) ((rowS S n (ptsD w1 w2 c)).idxOf i)) fun i _=>xAsk fs.wm bd.mn fun k hk=>ql.mp (qv.mp hk).1;refine ⟨mq,nq',mkv,nkv',rfl,rfl,.inl (r4 _ _ f3),.inl f4,.inr ⟨_,_,td3.keys.trans td4.keys.symm,(td3.same r4).dvs,td4.dvs,x1,x1,qh (yi x2) (by decide),_,rfl,?_,(s1'.trans r3).trans r4⟩⟩;rw [if_pos rfl,PySem.SeqAt.eqvAll_refl _ x1];rfl
  ·rintro bb Y ⟨rfl,s⟩
   exact itF rfl ⟨_,rfl,(sR.trans sR').trans s⟩
 rintro σ R ⟨u12,rfl,sR⟩;exact kk R
end
inductive FX (K:PySem.W.Frag) (n:Str) (s:Stmt):Prop
 | mk {a:Addr} {od an:Option Addr} {sl:Array (Option Value)} {oc kV dc pm cd ct:Value} (z1:PySem.W.nsIn K mainGlobals n=some (some (.ref a))) (z2:K.lookup a=some ⟨oc,od,.func (PySem.W.fnOf n n (defArgs s) (defBody s) (defScope s) .none kV dc pm an cd ct),sl⟩) (z3:PySem.W.codeIn K cd n=true) (z4:PySem.W.keepIn K (.ref a)=true):FX K n s
theorem FX.out {K:PySem.W.Frag} {n:Str} {s:Stmt} (h:FX K n s):∃ a kV dc pm an cd ct,PySem.W.nsIn K mainGlobals n=some (some (.ref a))/\Fun K n n s a (PySem.W.fnOf n n (defArgs s) (defBody s) (defScope s) .none kV dc pm an cd ct)/\PySem.W.keepIn K (.ref a)=true:=by
 obtain ⟨z1,z2,z3,z4⟩:=h;exact ⟨_,_,_,_,_,_,_,z1,fun_mk (st:=s) z2 z3 z4,z4⟩
theorem all_mk {l:PySem.W.OpenLaw} {w:World} {K:PySem.W.Frag} {h:Heap} {mg:Str->Option Value} {fa:Addr} (X:K.In h) (G:h.Ns mainGlobals mg) (hfa:mg "law"=some (.ref fa))
  (zb_dict:PySem.W.nsIn K mainGlobals "dict"=some none)
  (zb_enumerate:PySem.W.nsIn K mainGlobals "enumerate"=some none)
  (zb_int:PySem.W.nsIn K mainGlobals "int"=some none)
  (zb_len:PySem.W.nsIn K mainGlobals "len"=some none)
  (zb_list:PySem.W.nsIn K mainGlobals "list"=some none)
  (zb_max:PySem.W.nsIn K mainGlobals "max"=some none)
  (zb_min:PySem.W.nsIn K mainGlobals "min"=some none)
  (zb_range:PySem.W.nsIn K mainGlobals "range"=some none)
  (zb_sorted:PySem.W.nsIn K mainGlobals "sorted"=some none)
  (z_fAh:FX K "key_of_place" s_fAh)
  (z_fAg:FX K "followers_of" s_fAg)
  (z_fBb:FX K "ordered" s_fBb)
  (z_fAz:FX K "signs_in" s_fAz)
  (z_fBe:FX K "row_of" s_fBe)
  (z_fBd:FX K "living" s_fBd)
  (z_fAb:FX K "place_of_side" s_fAb)
  (z_fBa:FX K "stretch" s_fBa)
  (z_fAy:FX K "seats_in" s_fAy)
  (z_fBc:FX K "covered" s_fBc)
  (z_fAi:FX K "key_of_mark" s_fAi)
  (z_fAa:FX K "telling_in_row" s_fAa)
  (z_fAd:FX K "told_of_signs" s_fAd)
  (z_fAc:FX K "telling_marks" s_fAc)
  (z_fAv:FX K "marks_of" s_fAv)
  (z_fAj:FX K "key_of_note" s_fAj)
  (z_fAu:FX K "notes_of" s_fAu)
  (z_fAe:FX K "_law_cell_at" s_fAe)
  (z_fAx:FX K "_law_mix" s_fAx)
  (z_fAw:FX K "_law_row" s_fAw)
  (z_fAp:FX K "_law_next" s_fAp)
  (z_fAs:FX K "_law_pick" s_fAs)
  (z_fAt:FX K "_law_roll" s_fAt)
  (z_fAq:FX K "_law_side" s_fAq)
  (z_fAo:FX K "_law_signs" s_fAo)
  (z_fAf:FX K "_law_stretch" s_fAf)
  (z_fAn:FX K "_law_facts" s_fAn)
  (z_fAr:FX K "_law_copy" s_fAr)
  (z_fAl:FX K "_law_others" s_fAl)
  (z_fAk:FX K "_law_newest" s_fAk)
  (z_fAm:FX K "_law_eldest" s_fAm)
  (z_fBf:FX K "law" s_fBf) :
  ∃ fd:FuncData,(∀ (s:Shared) (v:Value),BindsTo s fd ⟨[v],[]⟩ [("_law_script",v)])/\∀ base:Heap,K.In base->base.Ns mainGlobals mg->FnOk l.prog w K mg base CX0 10 fa fd ["_law_script"] (sp_fBf K):=by
 obtain ⟨a_fAh,_,_,_,_,_,_,y_fAh,F_fAh,k_fAh⟩:=z_fAh.out;obtain ⟨a_fAg,_,_,_,_,_,_,y_fAg,F_fAg,k_fAg⟩:=z_fAg.out;obtain ⟨a_fBb,_,_,_,_,_,_,y_fBb,F_fBb,k_fBb⟩:=z_fBb.out;obtain ⟨a_fAz,_,_,_,_,_,_,y_fAz,F_fAz,k_fAz⟩:=z_fAz.out;obtain ⟨a_fBe,_,_,_,_,_,_,y_fBe,F_fBe,k_fBe⟩:=z_fBe.out;obtain ⟨a_fBd,_,_,_,_,_,_,y_fBd,F_fBd,k_fBd⟩:=z_fBd.out;obtain ⟨a_fAb,_,_,_,_,_,_,y_fAb,F_fAb,k_fAb⟩:=z_fAb.out;obtain ⟨a_fBa,_,_,_,_,_,_,y_fBa,F_fBa,k_fBa⟩:=z_fBa.out;obtain ⟨a_fAy,_,_,_,_,_,_,y_fAy,F_fAy,k_fAy⟩:=z_fAy.out;obtain ⟨a_fBc,_,_,_,_,_,_,y_fBc,F_fBc,k_fBc⟩:=z_fBc.out;obtain ⟨a_fAi,_,_,_,_,_,_,y_fAi,F_fAi,k_fAi⟩:=z_fAi.out;obtain ⟨a_fAa,_,_,_,_,_,_,y_fAa,F_fAa,k_fAa⟩:=z_fAa.out;obtain ⟨a_fAd,_,_,_,_,_,_,y_fAd,F_fAd,k_fAd⟩:=z_fAd.out;obtain ⟨a_fAc,_,_,_,_,_,_,y_fAc,F_fAc,k_fAc⟩:=z_fAc.out;obtain ⟨a_fAv,_,_,_,_,_,_,y_fAv,F_fAv,k_fAv⟩:=z_fAv.out;obtain ⟨a_fAj,_,_,_,_,_,_,y_fAj,F_fAj,k_fAj⟩:=z_fAj.out;obtain ⟨a_fAu,_,_,_,_,_,_,y_fAu,F_fAu,k_fAu⟩:=z_fAu.out;obtain ⟨a_fAe,_,_,_,_,_,_,y_fAe,F_fAe,k_fAe⟩:=z_fAe.out;obtain ⟨a_fAx,_,_,_,_,_,_,y_fAx,F_fAx,k_fAx⟩:=z_fAx.out;obtain ⟨a_fAw,_,_,_,_,_,_,y_fAw,F_fAw,k_fAw⟩:=z_fAw.out;obtain ⟨a_fAp,_,_,_,_,_,_,y_fAp,F_fAp,k_fAp⟩:=z_fAp.out;obtain ⟨a_fAs,_,_,_,_,_,_,y_fAs,F_fAs,k_fAs⟩:=z_fAs.out;obtain ⟨a_fAt,_,_,_,_,_,_,y_fAt,F_fAt,k_fAt⟩:=z_fAt.out;obtain ⟨a_fAq,_,_,_,_,_,_,y_fAq,F_fAq,k_fAq⟩:=z_fAq.out;obtain ⟨a_fAo,_,_,_,_,_,_,y_fAo,F_fAo,k_fAo⟩:=z_fAo.out;obtain ⟨a_fAf,_,_,_,_,_,_,y_fAf,F_fAf,k_fAf⟩:=z_fAf.out;obtain ⟨a_fAn,_,_,_,_,_,_,y_fAn,F_fAn,k_fAn⟩:=z_fAn.out;obtain ⟨a_fAr,_,_,_,_,_,_,y_fAr,F_fAr,k_fAr⟩:=z_fAr.out;obtain ⟨a_fAl,_,_,_,_,_,_,y_fAl,F_fAl,k_fAl⟩:=z_fAl.out;obtain ⟨a_fAk,_,_,_,_,_,_,y_fAk,F_fAk,k_fAk⟩:=z_fAk.out;obtain ⟨a_fAm,_,_,_,_,_,_,y_fAm,F_fAm,k_fAm⟩:=z_fAm.out;obtain ⟨a_fBf,qa,qb,qc,qd,qe,qf,y_fBf,F_fBf,k_fBf⟩:=z_fBf.out;have e:=hfa.symm.trans (PySem.W.mg_of X G y_fBf);cases e
 have T:=@Txt.mk K mg ⟨a_fAh,_,a_fAg,_,a_fBb,_,a_fAz,_,a_fBe,_,a_fBd,_,a_fAb,_,a_fBa,_,a_fAy,_,a_fBc,_,a_fAi,_,a_fAa,_,a_fAd,_,a_fAc,_,a_fAv,_,a_fAj,_,a_fAu,_,a_fAe,_,a_fAx,_,a_fAw,_,a_fAp,_,a_fAs,_,a_fAt,_,a_fAq,_,a_fAo,_,a_fAf,_,a_fAn,_,a_fAr,_,a_fAl,_,a_fAk,_,a_fAm,_,fa,_⟩ (fun x=>0)
  (PySem.W.mg_none_of X G zb_dict)
  (PySem.W.mg_none_of X G zb_enumerate)
  (PySem.W.mg_none_of X G zb_int)
  (PySem.W.mg_none_of X G zb_len)
  (PySem.W.mg_none_of X G zb_list)
  (PySem.W.mg_none_of X G zb_max)
  (PySem.W.mg_none_of X G zb_min)
  (PySem.W.mg_none_of X G zb_range)
  (PySem.W.mg_none_of X G zb_sorted)
  F_fAh (PySem.W.mg_of X G y_fAh) k_fAh (F_fAh.binds fun _ _ _ _ _ _ u l=>match u,l with | [_],_=>rfl)
  F_fAg (PySem.W.mg_of X G y_fAg) k_fAg (F_fAg.binds fun _ _ _ _ _ _ u l=>match u,l with | [_],_=>rfl)
  F_fBb (PySem.W.mg_of X G y_fBb) k_fBb (F_fBb.binds fun _ _ _ _ _ _ u l=>match u,l with | [_],_=>rfl)
  F_fAz (PySem.W.mg_of X G y_fAz) k_fAz (F_fAz.binds fun _ _ _ _ _ _ u l=>match u,l with | [_,_],_=>rfl)
  F_fBe (PySem.W.mg_of X G y_fBe) k_fBe (F_fBe.binds fun _ _ _ _ _ _ u l=>match u,l with | [_,_],_=>rfl)
  F_fBd (PySem.W.mg_of X G y_fBd) k_fBd (F_fBd.binds fun _ _ _ _ _ _ u l=>match u,l with | [_,_],_=>rfl)
  F_fAb (PySem.W.mg_of X G y_fAb) k_fAb (F_fAb.binds fun _ _ _ _ _ _ u l=>match u,l with | [_,_],_=>rfl)
  F_fBa (PySem.W.mg_of X G y_fBa) k_fBa (F_fBa.binds fun _ _ _ _ _ _ u l=>match u,l with | [_,_,_],_=>rfl)
  F_fAy (PySem.W.mg_of X G y_fAy) k_fAy (F_fAy.binds fun _ _ _ _ _ _ u l=>match u,l with | [_],_=>rfl)
  F_fBc (PySem.W.mg_of X G y_fBc) k_fBc (F_fBc.binds fun _ _ _ _ _ _ u l=>match u,l with | [_,_,_,_],_=>rfl)
  F_fAi (PySem.W.mg_of X G y_fAi) k_fAi (F_fAi.binds fun _ _ _ _ _ _ u l=>match u,l with | [_],_=>rfl)
  F_fAa (PySem.W.mg_of X G y_fAa) k_fAa (F_fAa.binds fun _ _ _ _ _ _ u l=>match u,l with | [_,_,_],_=>rfl)
  F_fAd (PySem.W.mg_of X G y_fAd) k_fAd (F_fAd.binds fun _ _ _ _ _ _ u l=>match u,l with | [_,_,_],_=>rfl)
  F_fAc (PySem.W.mg_of X G y_fAc) k_fAc (F_fAc.binds fun _ _ _ _ _ _ u l=>match u,l with | [_,_],_=>rfl)
  F_fAv (PySem.W.mg_of X G y_fAv) k_fAv (F_fAv.binds fun _ _ _ _ _ _ u l=>match u,l with | [_,_],_=>rfl)
  F_fAj (PySem.W.mg_of X G y_fAj) k_fAj (F_fAj.binds fun _ _ _ _ _ _ u l=>match u,l with | [_],_=>rfl)
  F_fAu (PySem.W.mg_of X G y_fAu) k_fAu (F_fAu.binds fun _ _ _ _ _ _ u l=>match u,l with | [_,_],_=>rfl)
  F_fAe (PySem.W.mg_of X G y_fAe) k_fAe (F_fAe.binds fun _ _ _ _ _ _ u l=>match u,l with | [_,_],_=>rfl)
  F_fAx (PySem.W.mg_of X G y_fAx) k_fAx (F_fAx.binds fun _ _ _ _ _ _ u l=>match u,l with | [_,_],_=>rfl)
  F_fAw (PySem.W.mg_of X G y_fAw) k_fAw (F_fAw.binds fun _ _ _ _ _ _ u l=>match u,l with | [_,_,_],_=>rfl)
  F_fAp (PySem.W.mg_of X G y_fAp) k_fAp (F_fAp.binds fun _ _ _ _ _ _ u l=>match u,l with | [_],_=>rfl)
  F_fAs (PySem.W.mg_of X G y_fAs) k_fAs (F_fAs.binds fun _ _ _ _ _ _ u l=>match u,l with | [_,_],_=>rfl)
  F_fAt (PySem.W.mg_of X G y_fAt) k_fAt (F_fAt.binds fun _ _ _ _ _ _ u l=>match u,l with | [_],_=>rfl)
  F_fAq (PySem.W.mg_of X G y_fAq) k_fAq (F_fAq.binds fun _ _ _ _ _ _ u l=>match u,l with | [_,_],_=>rfl)
  F_fAo (PySem.W.mg_of X G y_fAo) k_fAo (F_fAo.binds fun _ _ _ _ _ _ u l=>match u,l with | [_,_,_,_,_,_],_=>rfl)
  F_fAf (PySem.W.mg_of X G y_fAf) k_fAf (F_fAf.binds fun _ _ _ _ _ _ u l=>match u,l with | [_,_,_,_,_,_],_=>rfl)
  F_fAn (PySem.W.mg_of X G y_fAn) k_fAn (F_fAn.binds fun _ _ _ _ _ _ u l=>match u,l with | [_,_,_,_],_=>rfl)
  F_fAr (PySem.W.mg_of X G y_fAr) k_fAr (F_fAr.binds fun _ _ _ _ _ _ u l=>match u,l with | [_],_=>rfl)
  F_fAl (PySem.W.mg_of X G y_fAl) k_fAl (F_fAl.binds fun _ _ _ _ _ _ u l=>match u,l with | [_,_],_=>rfl)
  F_fAk (PySem.W.mg_of X G y_fAk) k_fAk (F_fAk.binds fun _ _ _ _ _ _ u l=>match u,l with | [_,_,_],_=>rfl)
  F_fAm (PySem.W.mg_of X G y_fAm) k_fAm (F_fAm.binds fun _ _ _ _ _ _ u l=>match u,l with | [_,_,_],_=>rfl)
  F_fBf (PySem.W.mg_of X G y_fBf) k_fBf (F_fBf.binds fun _ _ _ _ _ _ u l=>match u,l with | [_],_=>rfl)
 refine ⟨PySem.W.fnOf "law" "law" (defArgs s_fBf) (defBody s_fBf) (defScope s_fBf) .none qa qb qc qd qe qf,fun s v=>.of_eq rfl,fun base _ _=>?_⟩;have r_fAh:=ok_fAh (P:=l.prog) (w:=w) (base:=base) T;have r_fAz:=ok_fAz (P:=l.prog) (w:=w) (base:=base) T;have r_fAb:=ok_fAb (P:=l.prog) (w:=w) (base:=base) T;have r_fAy:=ok_fAy (P:=l.prog) (w:=w) (base:=base) T;have r_fAi:=ok_fAi (P:=l.prog) (w:=w) (base:=base) T;have r_fAj:=ok_fAj (P:=l.prog) (w:=w) (base:=base) T;have r_fAe:=ok_fAe (P:=l.prog) (w:=w) (base:=base) T;have r_fAx:=ok_fAx (P:=l.prog) (w:=w) (base:=base) T;have r_fAp:=ok_fAp (P:=l.prog) (w:=w) (base:=base) T;have r_fAr:=ok_fAr (P:=l.prog) (w:=w) (base:=base) T;have r_fAl:=ok_fAl (P:=l.prog) (w:=w) (base:=base) T;have r_fBa:=ok_fBa (P:=l.prog) (w:=w) (base:=base) T r_fAb;have r_fAw:=ok_fAw (P:=l.prog) (w:=w) (base:=base) T r_fAx;have r_fAs:=ok_fAs (P:=l.prog) (w:=w) (base:=base) T r_fAp;have r_fAt:=ok_fAt (P:=l.prog) (w:=w) (base:=base) T r_fAx;have r_fAg:=ok_fAg (P:=l.prog) (w:=w) (base:=base) T r_fAh;have r_fAa:=ok_fAa (P:=l.prog) (w:=w) (base:=base) T r_fAi r_fAy r_fBa;have r_fAq:=ok_fAq (P:=l.prog) (w:=w) (base:=base) T r_fAp r_fAs;have r_fAo:=ok_fAo (P:=l.prog) (w:=w) (base:=base) T r_fAp r_fAs;have r_fBb:=ok_fBb (P:=l.prog) (w:=w) (base:=base) T r_fAg;have r_fAf:=ok_fAf (P:=l.prog) (w:=w) (base:=base) T r_fAp r_fAq;have r_fBe:=ok_fBe (P:=l.prog) (w:=w) (base:=base) T r_fBb r_fAz;have r_fAn:=ok_fAn (P:=l.prog) (w:=w) (base:=base) T r_fAe r_fAp r_fAw r_fAo r_fAf;have r_fBd:=ok_fBd (P:=l.prog) (w:=w) (base:=base) T r_fBe r_fAz;have r_fBc:=ok_fBc (P:=l.prog) (w:=w) (base:=base) T r_fBe r_fAy r_fBa;have r_fAd:=ok_fAd (P:=l.prog) (w:=w) (base:=base) T r_fBd r_fBe r_fAy r_fAa;have r_fAu:=ok_fAu (P:=l.prog) (w:=w) (base:=base) T r_fAj r_fBd r_fBe r_fAy r_fBa;have r_fAc:=ok_fAc (P:=l.prog) (w:=w) (base:=base) T r_fAd;have r_fAv:=ok_fAv (P:=l.prog) (w:=w) (base:=base) T r_fAd;have r_fAk:=ok_fAk (P:=l.prog) (w:=w) (base:=base) T r_fAl r_fBc r_fBd r_fAv r_fAc;have r_fAm:=ok_fAm (P:=l.prog) (w:=w) (base:=base) T r_fBc r_fBd r_fAv;exact ok_fBf T r_fAe r_fAr r_fAm r_fAn r_fAk r_fAp r_fAt r_fAw r_fAq r_fAv r_fAu
end My
namespace PySem.W.Fast
def tw3219040696675329536:=()
def tw5788931738331651808:=()
def tw7340899683370402656:=()
def tw10127835179576169665:=()
def tw17995707931227299105:=()
def tw8431013442619688577:=()
def tw793149842144005122:=()
def tw6456229240958509250:=()
def tw17991089806160380130:=()
def tw15200049376981634306:=()
def tw3701775157391383874:=()
def tw14693691794865436002:=()
def tw5219467235633842594:=()
def tw11024351507498597154:=()
def tw18431131668783602883:=()
def tw14118134642065700547:=()
def tw17284518648716587971:=()
def tw13468309266375241796:=()
def tw481049619097084100:=()
def tw9947760798020154628:=()
def tw10542037898712210948:=()
def tw5996442760549753380:=()
def tw10357589287552700100:=()
def tw2654874854012480292:=()
def tw490177613990117188:=()
def tw2338316418536721509:=()
def tw7463492236679194885:=()
def tw10410342605537065253:=()
def tw8822181994759739045:=()
def tw13761725800397366213:=()
def tw17696598648663830534:=()
def tw933271773788062790:=()
def tw13191249946738234246:=()
def tw13726086265201613831:=()
def tw3522573738974349447:=()
def tw10503306784050180423:=()
def tw13662252286664513959:=()
def tw8146366897466965511:=()
def tw14277494645928878631:=()
def tw17951660698359301031:=()
def tw4336728846872601511:=()
def tw1042047705533128744:=()
def tw2817733683271996584:=()
def tw2275760618064234760:=()
def tw1660990749434915720:=()
def tw18390950101579412489:=()
def tw11389519558674375753:=()
def tw11269000626913101961:=()
def tw7694664076165291177:=()
def tw16405292487491902857:=()
def tw18150259153907677609:=()
def tw3789879349462018537:=()
def tw6303547180636364297:=()
def tw5943227931847775753:=()
def tw1475703520595708521:=()
def tw17511075529949905897:=()
def tw1898645534950471690:=()
def tw7734103757551524906:=()
def tw10633830972406861962:=()
def tw4918403377328031914:=()
def tw6083219780875680010:=()
def tw10296555809668667946:=()
def tw13007217640384920362:=()
def tw15183397436197783530:=()
def tw11898145002134046059:=()
def tw11623875759408162283:=()
def tw1512991933252148043:=()
def tw6091345549995650987:=()
def tw5938328410281632683:=()
def tw4830592850412221387:=()
def tw4543753182424136972:=()
def tw9279326567012235564:=()
def tw1232850958255062828:=()
def tw13000525816758889356:=()
def tw504798574144329933:=()
def tw1251568956259565837:=()
def tw9638219654435321293:=()
def tw7887832701056911053:=()
def tw16112944838670154541:=()
def tw12341868692652279629:=()
def tw9645160936099625230:=()
def tw14317826174070463854:=()
def tw11441498495614000814:=()
def tw160594631360351150:=()
def tw7435218236626547630:=()
def tw7577644137289668623:=()
def tw13647368602365348047:=()
def tw8650611495283062991:=()
def tw9939253634495794383:=()
def tw13352343249841063247:=()
def tw1694036776650905071:=()
def tw6113662476400633455:=()
def tw11897763940919055055:=()
def tw6235274976535153776:=()
def tw2291800119869406320:=()
def tw16311313188880008496:=()
def tw8807480489740246640:=()
def tw17660741788427434704:=()
def tw4503790968843395856:=()
def tw7811682782209610704:=()
def tw14631657248101655601:=()
def tw1377123930276372625:=()
def tw6076401319110183185:=()
def tw6520889178550329649:=()
def tw8693376103693775313:=()
def tw16424105308366305777:=()
def tw17309129831143262833:=()
def tw15851243323619390193:=()
def tw9660659095840487474:=()
def tw4868957973568515122:=()
def tw16821954065746270322:=()
def tw15339907710824306930:=()
def tw10291093421361768914:=()
def tw7727058167156181714:=()
def tw17958231626768685842:=()
def tw9320469867999178771:=()
def tw4310483471202648371:=()
def tw3159174167801176435:=()
def tw5512797862441183699:=()
def tw6866020176167676563:=()
def tw3587884373833774867:=()
def tw17698384659345848211:=()
def tw664108701820443635:=()
def tw8898495149608565908:=()
def tw797119838961524916:=()
def tw10672488309177384180:=()
def tw10904120614241956116:=()
def tw17252794837981307476:=()
def tw7450162053137239892:=()
def tw4463442219087369108:=()
def tw8450936915237918612:=()
def tw11649171945571701684:=()
def tw9158620933823472725:=()
def tw6920005408207012021:=()
def tw11848329607373694741:=()
def tw11596552892144814005:=()
def tw7258798001248881878:=()
def tw16629696285683655190:=()
def tw6296960042274853462:=()
def tw6881933522660661142:=()
def tw841029335751445623:=()
def tw6993528091636632023:=()
def tw13184718714044282455:=()
def tw9342151343256217271:=()
def tw10309156231857622807:=()
def tw12717625265655219159:=()
def tw4294744006201777272:=()
def tw11977414681021112504:=()
def tw11176786425989326008:=()
def tw15190282105885286744:=()
def tw11715035809554661848:=()
def tw14604627495704426008:=()
def tw371974268235376280:=()
def tw2271605570162734744:=()
def tw15449910077988020984:=()
def tw2697339876540587992:=()
def tw13077070240606226617:=()
def tw15201535552677387865:=()
def tw4402734621838810009:=()
def tw11637483942820510970:=()
def tw3211775216130495930:=()
def tw11834505774736142778:=()
def tw16403139021533814843:=()
def tw9685304172179209435:=()
def tw16092220486040730075:=()
def tw10181963882695906811:=()
def tw6344358787239019227:=()
def tw12041147352799439643:=()
def tw2750529508636635099:=()
def tw15024063475035932700:=()
def tw583044928110415228:=()
def tw3591487025128355228:=()
def tw4385393987183083164:=()
def tw214543538199324636:=()
def tw3828022349616645437:=()
def tw3721997385140159805:=()
def tw6264281160064276510:=()
def tw2665542136020329662:=()
def tw17537936168827803870:=()
def tw11985729917743123710:=()
def tw11614343970924115454:=()
def tw4051040608392773310:=()
def tw4433086157175048030:=()
def tw16727408129927993342:=()
def tw4582992582559823103:=()
def tw526545485640891679:=()
def tw15781495206845896095:=()
def tw12534296476250549983:=()
def tw1630475401308431263:=()
def tw18007723325325440991:=()
def tw16396095833953246979:=()
end PySem.W.Fast
open PySem PySem.W PyProof.Rows
set_option maxRecDepth 100000 in
set_option maxHeartbeats 0 in
theorem PySem.Challenge.cw_pagefolk_k37_whole_one_mark_more_holds : PySem.Challenge.rw_pagefolk_k37_whole_one_mark_more.Holds := by
 w_on;o_law;k_head;(case hw=>w_witness2)
 k_fill
 refine L2.walk_ofK (l:=PySem.Challenge.rw_pagefolk_k37_whole_one_mark_more) (n:=63) (k:=10) (x:="_law_script") (CX:=L2.CX0) (sp:=My.sp_fBf) rfl (by decide) rfl ⟨rfl,by decide,by decide⟩ (fun w h Y=>PySem.W.kIn_of Y) ?F My.law_spec (fun _ _ _ _ z=>z)
 case F =>
  intro w mg fa h KX G hmg;refine' My.all_mk KX G hmg ?_ ?_ ?_ ?_ ?_ ?_ ?_ ?_ ?_ ?_ ?_ ?_ ?_ ?_ ?_ ?_ ?_ ?_ ?_ ?_ ?_ ?_ ?_ ?_ ?_ ?_ ?_ ?_ ?_ ?_ ?_ ?_ ?_ ?_ ?_ ?_ ?_ ?_ ?_ ?_ ?_
  all_goals first | k_is | (refine' My.FX.mk ?z1 ?z2 ?z3 ?z4;(case z1=>k_is);(case z2=>k_is);(case z3=>k_is);(case z4=>k_is))