import PyProof.Rows.All
import Wide.All
import OpenK.AllK
import Wide.FinOn
import Lean
import PyProof.EqAt
import PyProof.EqKinds
import PyProof.TupleCall
import KE.KSortTup
import KE.KDictOf
import PyProof.AttrMissHeap
import KE.KSortKey
import KE.KNestM
import KE.KLam
import KE.KEqDict
import KE.KBoundM
import KE.KSuperObj
import PySem.Challenge.RW_pagefolk_k44_entries_and_numbers
set_option Elab.async false
set_option linter.all false
set_option maxRecDepth 100000
section
local macro_rules|`(())=>`(by omega)
local macro_rules|`(∅)=>`(by decide +kernel)
local macro_rules|`(⋯)=>`(by decide)
local macro_rules(kind:=«term{}»)|`({})=>`(fun _ _ _ _ h=>by cases h;subst_vars;first|rfl|grind)
local macro_rules(kind:=«term{_}»)|`({$x,*})=>`(⟨$x,*⟩)
local macro_rules|`(↑$x)=>`(($x).heap.objs.size)
local macro_rules|`(!$x)=>`(some $x)
local macro_rules|`(tactic|ac_nf at $h:ident)=>`(tactic|simp only[List.mem_cons,List.not_mem_nil,or_false]at $h:ident)
abbrev KE:=PySem.Value->PySem.Shared->Prop
abbrev MD:=PySem.Value
abbrev RX:=PySem.Shared
abbrev RY:=PySem.PyData
abbrev R0:=PySem.Addr
abbrev R9:=PySem.Str
local macro "§" i:declId s:optDeclSig v:declVal:command=>`(command|def $i:declId $s:optDeclSig $v:declVal)
local macro "¶":term=>`(true)
local macro "£":term=>`(none)
local macro "¿":term=>`(false)
local macro "¤":term=>`(Prop)
local macro "°":term=>`(fun z=>nomatch z)
set_option hygiene false in
local macro:max "×" x:term:max:term=>`($x P w K mg base)
local macro:max "#" x:term:max:term=>`(List $x)
local macro "±":term=>`(Nat)
local macro "¢":term=>`(Int)
local macro "¥":term=>`(Bool)
local macro "!" t:term:tactic=>`(tactic|exact $t)
local macro "?" t:term:tactic=>`(tactic|refine $t)
local macro "@" p:sepBy1(Lean.Parser.Tactic.rcasesPatLo,",") ":=" e:term:tactic=>do
 if p.getElems.size==1 then `(tactic|rcases $e:term with $(p.getElems[0]!):rcasesPatLo) else `(tactic|rcases $e:term with ⟨$p,*⟩)
local macro "#" d:letDecl:tactic=>`(tactic|have $d:letDecl)
local macro s:Lean.Parser.Tactic.rwRuleSeq l:(Lean.Parser.Tactic.location)?:tactic=>`(tactic|rw $s:rwRuleSeq $[$l:location]?)
local macro "&" e:term:tactic=>`(tactic|cases $e:term)
local macro "¶" x:ident:tactic=>`(tactic|unfold $x)
local macro "£" x:ident:tactic=>`(tactic|subst $x)
local macro "¤" x:term:tactic=>`(tactic|show $x)
local macro "¿" h:ident ":" x:term:tactic=>`(tactic|by_cases $h:ident:$x)
local macro "±" x:term:tactic=>`(tactic|simpa using $x)
local macro "¢" x:(colGt term:max)+:tactic=>`(tactic|intro $x*)
local macro "¥":tactic=>`(tactic|omega)
§qA:=@PySem.wpAny_bind
§qB:=@if_neg
§qE:=@PySem.wpAny_pure
§qF:=@if_pos
§qG:=@PySem.Heap.lt_size
§qH:=@PySem.Heap.get?_push_of_some
§qI:=@decide_eq_true
§qJ:=@Option.some.inj
§qK:=@PySem.wpAny_holding
§qL:=@PySem.Heap.get?_push_size
§qM:=@PySem.wpAny_mono
§qN:=@PySem.wpAny_call_entry
§qO:=@of_decide_eq_true
§O{α:Sort u}{a:α}:a=a:=rfl
§qe:=@Nat.le_refl
§qf:=@List.mem_map
§qg:=@Nat.le_trans
§qh:=@List.getElem?_eq_getElem
§qi:=@List.length_append
§qj:=@List.length_map
§qk:=@List.getElem?_eq_some_iff
§qm:=@List.mem_cons_self
§qo:=@List.mem_range
§qp:=@Nat.ne_of_lt
§qr:=@Bool.false_ne_true
§qt:=@List.length_singleton
§qu:=@List.getElem?_map
§qv:=@Nat.zero_le
§qw:=@List.mem_of_getElem?
§qx:=@List.mem_singleton
§qy:=@List.mem_cons_of_mem
§qz:=@List.take_add_one
§q0:=@List.mem_cons
§zd:=@List.length_cons
§ze:=@List.take_length
§zf:=@Nat.lt_of_lt_of_le
§zg:=@List.size_toArray
§zh:=@List.mem_append
§zk:=@List.mem_filter
§zm:=@List.getD_eq_getElem?_getD
§zn:=@List.map_cons
§zo:=@List.length_range
§zt:=@Bool.and_eq_true
§zu:=@Nat.ne_of_gt
§zv:=@List.getElem?_append_left
§zx:=@Array.length_toList
§zy:=@List.mem_append_right
§z6:=@List.nodup_cons
§z7:=@List.map_append
§z8:=@List.mem_iff_getElem
§z9:=@List.map_map
§wb:=@List.pairwise_map
§we:=@List.length_filter_le
§wg:=@List.mem_append_left
§wj:=@Option.map_eq_some_iff
§wt:=@List.nodup_append
§wu:=@Nat.lt_irrefl
§wv:=@List.length_take
§ww:=@Nat.le_of_lt
§wx:=@List.append_nil
§wz:=@List.nil_append
§vd:=@List.length_reverse
§vi:=@List.nodup_nil
§vj:=@Nat.not_lt_zero
§vy:=@List.pairwise_cons
§v9:=@List.getElem?_eq_none
§yb:=@Nat.min_le_left
§yc:=@List.ext_getElem?
§yd:=@List.find?_cons
§ye:=@List.getElem?_append_right
§yf:=@List.length_drop
§yg:=@List.filter_append
§yh:=@List.mem_reverse
§yi:=@List.range_succ
§yj:=@List.mem_of_mem_take
§yk:=@List.append_assoc
§ym:=@Array.getElem?_toList
§yn:=@Nat.lt_succ_of_lt
§yo:=@Nat.lt_succ_self
§yq:=@List.getElem?_range
§yr:=@List.take_of_length_le
§yt:=@List.length_nil
§yu:=@List.map_congr_left
§yv:=@List.filter_nil
§yw:=@Array.getElem?_eq_getElem
§yx:=@List.length_eq_zero_iff
§yy:=@List.getElem?_set_ne
§yz:=@List.any_eq_true
§y0:=@List.getElem_mem
§ja:=@Nat.zero_add
§jb:=@List.eq_nil_or_concat
§jc:=@List.concat_eq_append
§jd:=@List.filter_cons_of_pos
§je:=@List.filter_cons_of_neg
§jf:=@List.getElem?_of_mem
§jg:=@Bool.eq_iff_iff
§jh:=@Nat.min_le_right
§ji:=@List.replicate_succ
§jj:=@Nat.lt_of_le_of_lt
§jk:=@Array.getD_eq_getD_getElem?
§jl:=@Nat.lt_or_ge
§jm:=@List.drop_eq_getElem_cons
§jn:=@Nat.le_of_ble_eq_true
§jo:=@List.mem_filterMap
§jp:=@List.flatten_cons
§jq:=@Option.map_some
§jr:=@Nat.lt_trans
§jt:=@Nat.le_succ
§ju:=@Nat.sub_zero
§jv:=@List.pairwise_iff_getElem
§jw:=@List.find?_eq_none
§jx:=@List.mem_of_find?_eq_some
§jy:=@List.reverse_append
§jz:=@List.foldl_append
§j0:=@Nat.le_succ_of_le
§j3:=@Nat.succ_le_succ
§j4:=@List.getElem_inj
§j5:=@Array.mem_toList_iff
§j6:=@List.length_replicate
§j7:=@List.map_nil
§j8:=@List.foldl_cons
§j9:=@List.any_cons
§gf:=@List.lookup_cons
§gg:=@Nat.succ_ne_self
§gh:=@Nat.sub_self
§gj:=@Bool.eq_false_iff
§gr:=@List.mem_of_mem_drop
§gw:=@List.forall_mem_cons
§g0:=@List.filterMap_cons
§kg:=@List.of_mem_zip
§kh:=@Option.isSome_iff_exists
§ki:=@List.getElem?_take_of_lt
§kj:=@List.take_sublist
§kx:=@Bool.and_false
§kz:=@List.forIn_cons
§me:=@List.reverse_cons
§mf:=@List.not_lt
§mh:=@Array.toList_inj
§mi:=@Bool.and_true
§mj:=@Array.forIn_toList
§mo:=@List.findIdx?_eq_some_iff_getElem
§mr:=@List.getElem?_inj
§mw:=@List.filter_eq_nil_iff
§mx:=@List.all_eq_true
§mz:=@List.getElem?_eq_none_iff
§m3:=@List.pairwise_singleton
§m6:=@List.filter_congr
§m7:=@List.nodup_iff_pairwise_ne
§m8:=@List.filter_sublist
§m9:=@List.length_pos_iff
§ng:=@Array.append_assoc
§nh:=@List.getElem?_set_self
§ni:=@List.any_eq_false
§nj:=@List.zip_cons_cons
§nr:=@List.getElem_toArray
§nv:=@List.drop_of_length_le
§nw:=@List.range_succ_eq_map
§n0:=@List.findIdx?_eq_none_iff
§bc:=@List.range_eq_range'
§bd:=@List.mem_range'_1
§be:=@List.filter_reverse
§bf:=@Nat.lt_of_succ_lt_succ
§bg:=@Array.getElem?_eq_none
§bi:=@Nat.pow_le_pow_right
§bj:=@List.pairwise_append
§bn:=@List.append_of_mem
§bp:=@List.getElem?_drop
§bu:=@List.countP_pos_iff
§bv:=@List.idxOf_lt_length_of_mem
§bw:=@List.filter_filter
§bx:=@List.mem_of_mem_head?
§bz:=@Option.toList_some
§re:=@List.head?_eq_getElem?
§rg:=@List.flatMap_append
§rh:=@List.take_append_drop
§rj:=@Option.ne_none_iff_exists'
§r8:=@List.mem_take_iff_getElem
§tf:=@List.dropLast_concat
§tz:=@List.getElem?_reverse
§ub:=@List.mem_of_elem_eq_true
namespace L2
open PySem PySem.Spec PyProof.Rows
§lR{P:#MD->¤}(h:∀a,P [a])(u:#MD)(l:u.length=1):P u:=match u,l with|[_],_=>h _
§iP{P:#MD->¤}(h:∀a b,P [a,b])(u:#MD)(l:u.length=2):P u:=match u,l with|[_,_],_=>h _ _
§wQ{P:#MD->¤}(h:∀a b c,P [a,b,c])(u:#MD)(l:u.length=3):P u:=match u,l with|[_,_,_],_=>h _ _ _
§zF{P:#MD->¤}(h:∀a b c d,P [a,b,c,d])(u:#MD)(l:u.length=4):P u:=match u,l with|[_,_,_,_],_=>h _ _ _ _
§RQ{P:#MD->¤}(h:∀a b c d e f,P [a,b,c,d,e,f])(u:#MD)(l:u.length=6):P u:=match u,l with|[_,_,_,_,_,_],_=>h _ _ _ _ _ _
abbrev Key:=Sum Int R9
§fN:Key->MD->Bool
 |.inl k,v=>Value.isInt k v
 |.inr x,v=>Value.isStrOf x v
§NI(w:World):Key->Int
 |.inl k=>hashInt k
 |.inr x=>hashStr w x
§fQ:∀{k:Key} {v:MD},fN k v=¶->(∃i t,k=Sum.inl i/\v=Value.int i t)\/(∃x t,k=Sum.inr x/\v=Value.str x t)
 |.inl i,v,h=>by
  @t,e:=Value.isInt_shape (k:=i) (v:=v) h;!.inl {i,t,O,e}
 |.inr x,v,h=>by
  @t,e:=Value.isStrOf_shape (x:=x) (v:=v) h;!.inr {x,t,O,e}
§ML(i:Int)(t:Tok):fN (.inl i) (.int i t)=¶:=by simp[fN,Value.isInt]
§Qe(x:R9)(t:Tok):fN (.inr x) (.str x t)=¶:=by simp[fN,Value.isStrOf]
§EV(a b:Int):decide ((Sum.inl a:Key)=Sum.inl b)=(a==b):=by
 ¿e:a=b
 .£e;simp
 .#h:¬(Sum.inl a:Key)=Sum.inl b:=λq=>e (Sum.inl.inj q)
  [decide_eq_false h];!(beq_eq_false_iff_ne.mpr e).symm
§AE(a b:R9):decide ((Sum.inr a:Key)=Sum.inr b)=decide (a=b):=by
 ¿e:a=b
 .£e;simp
 .#h:¬(Sum.inr a:Key)=Sum.inr b:=λq=>e (Sum.inr.inj q)
  [decide_eq_false h,decide_eq_false e]
§CH(a:Int)(b:R9):decide ((Sum.inl a:Key)=Sum.inr b)=¿:=decide_eq_false °
§De(a:R9)(b:Int):decide ((Sum.inr a:Key)=Sum.inl b)=¿:=decide_eq_false °
§ah(prog:Program)(w:World):PySem.KeyKind prog w Key where
 is:=fN
 hash:=NI w
 inj:=λv a b g d=>by
  @⟨i,t,rfl,rfl⟩|⟨x,t,rfl,rfl⟩:=fQ g
  .@⟨j,u,rfl,e⟩|⟨y,u,rfl,e⟩:=fQ d
   .injection e with e1 _;[e1]
   .!nomatch e
  .@⟨j,u,rfl,e⟩|⟨y,u,rfl,e⟩:=fQ d
   .!nomatch e
   .injection e with e1 _;[e1]
 byValue:=λk v h=>by
  @⟨i,t,rfl,rfl⟩|⟨x,t,rfl,rfl⟩:=fQ h <;> rfl
 pyHash:=λc h=>by
  @⟨i,t,rfl,rfl⟩|⟨x,t,rfl,rfl⟩:=fQ c
  .!wpAny_pyHash_int h
  .!wpAny_pyHash_str h
 eqBool:=λf c h=>by
  @⟨i,t,rfl,rfl⟩|⟨x,t,rfl,rfl⟩:=fQ f
  .@⟨j,u,rfl,rfl⟩|⟨y,u,rfl,rfl⟩:=fQ c
   .[EV]at h;!wpAny_eqBool_int h
   .[CH]at h;!SeqAt.EqAt.int_str i t y u _ _ _ _ h
  .@⟨j,u,rfl,rfl⟩|⟨y,u,rfl,rfl⟩:=fQ c
   .[De]at h;!SeqAt.EqAt.str_int x t j u _ _ _ _ h
   .[AE]at h;!wpAny_eqBool_str h
 «strs»:=λk x t v h=>by
  @⟨i,u,rfl,e⟩|⟨y,u,rfl,e⟩:=fQ h
  .!nomatch e
  .injection e with e1 _
   £e1;&v <;> rfl
§Qu(prog:Program)(w:World)(i:Int)(t:Tok):(ah prog w).is (.inl i) (.int i t)=¶:=ML i t
§Ol(prog:Program)(w:World)(x:R9)(t:Tok):(ah prog w).is (.inr x) (.str x t)=¶:=Qe x t
inductive V where
 |aR|bl (b:Bool)|int (i:Int)|str (x:R9)|pA (b:Array UInt8)|Fx (b:UInt64)|ref (a:R0)|ty (n:String)
 deriving DecidableEq
§RelV:V->MD->¤
 |.aR,u=>u=Value.none
 |.bl b,u=>u=Value.bool b
 |.int i,u=>∃t,u=Value.int i t
 |.str x,u=>∃t,u=Value.str x t
 |.pA b,u=>∃t,u=Value.bytes b t
 |.Fx b,u=>∃t,u=Value.float b t
 |.ref a,u=>u=Value.ref a
 |.ty n,u=>u=Value.type n
abbrev aK:#V->#MD->¤:=Paired RelV
theorem aK.length(r:aK xs us):xs.length=us.length:=Paired.length r
theorem aK.get:∀{xs:#V} {us:#MD} {i:Nat} {x:V},aK xs us->xs[i]?=!x->∃u,us[i]?=!u/\RelV x u
 |_,_,_,_,.nil,e=>by simp at e
 |_,_,0,_,.cons r _,e=>by simp at e;£e;!{_,O,r}
 |_,_,i+1,x,.cons _ t,e=>by
  @u,h1,h2:=aK.get (i:=i) (x:=x) t (by ±e);!{u,by ±h1,h2}
theorem aK.set(r:RelV x u):∀{xs:#V} {us:#MD} (i:Nat),aK xs us->aK (xs.set i x) (us.set i u)
 |_,_,_,.nil=>.nil
 |_,_,0,.cons _ t=>.cons r t
 |_,_,i+1,.cons q t=>.cons q (aK.set r i t)
theorem aK.append:∀{xs ys:#V} {us ws:#MD},aK xs us->aK ys ws->aK (xs++ys) (us++ws)
 |_,_,_,_,.nil,s=>s
 |_,_,_,_,.cons r t,s=>.cons r (aK.append t s)
theorem aK.take:∀{xs:#V} {us:#MD} (n:Nat),aK xs us->aK (xs.take n) (us.take n)
 |_,_,0,_=>.nil
 |_,_,_+1,.nil=>.nil
 |_,_,n+1,.cons r t=>.cons r (aK.take n t)
theorem aK.drop:∀{xs:#V} {us:#MD} (n:Nat),aK xs us->aK (xs.drop n) (us.drop n)
 |_,_,0,r=>r
 |_,_,_+1,.nil=>.nil
 |_,_,n+1,.cons _ t=>aK.drop n t
§eV:Option V->Option MD->¤
 |some v,!u=>RelV v u
 |none,none=>True
 |_,_=>False
§KV{κ:Type}:#(κ×V)->#(κ×MD)->¤:=Paired λ(p:κ×V) (q:κ×MD)=>p.1=q.1/\RelV p.2 q.2
§kV:Key->V
 |.inl i=>.int i
 |.inr x=>.str x
inductive KD where
 |aR
 |int (i:Int)
 |tup (ks:#Key)
 |two (ks ls:#Key)
deriving DecidableEq
§bN(P:Program)(w:World):KD->Int
 |.aR=>4238894112
 |.int i=>hashInt i
 |.tup ks=>(tupleKind (ah P w)).hash ks
 |.two ks ls=>reduceHash (Builtin.Tuple.tupleHashOf [(tupleKind (ah P w)).hash ks,(tupleKind (ah P w)).hash ls])
§dS(P:Program)(w:World)(x:KD×MD×MD):DictEntry:={bN P w x.1,x.2.1,x.2.2}
inductive HO where
 |lst (xs:#V)
 |tup (xs:#V)
 |dK (kvs:#(Key×V))|dT (kvs:#(#Key×V))
 |dG (kvs:#(KD×V×V))
 |set (S:Int->Bool) (n:Nat)
 |ins (C dx:R0) (fs:#(R9×V))
 |own (x:R0)
 |xd (fs:#(R9×V))
 |met (f x:R0)
 |P2 (lo hi:Int)
 |cJ (o:Obj) (u:HO)
 |cf (ps:Array MD)
 |ext (φ:Heap->¤)
abbrev Hp:=R0->Option HO
§GK(H:Hp):KD->V->¤
 |.aR,v=>v=.aR
 |.int i,v=>v=.int i
 |.tup ks,v=>∃b,v=.ref b/\H b=!(.tup (ks.map kV))
 |.two ks ls,v=>∃b c d,v=.ref b/\H b=!(.tup [.ref c,.ref d])/\H c=!(.tup (ks.map kV))/\H d=!(.tup (ls.map kV))
§upd(H:Hp)(a:R0)(o:HO):Hp:=λb=>if b=a then some o else H b
§aD:upd H a o a=!o:=by ¶upd;[qF rfl]
§ax(h:b≠a):upd H a o b=H b:=by ¶upd;[qB h]
§nY{H:Hp}{a b:R0}{o u:HO}(h:H a=!o)(h':H b=!u)(d:o≠u):a≠b:=by
 ¢e;£e;[h]at h';!d (qJ h')
§a0{H:Hp}{a b:R0}{o:HO}(h:H a=!o)(h':H b=£):a≠b:=by
 ¢e;£e;[h]at h';&h'
section
variable (P:Program)(w:World)
§aV(H:Hp)(h:Heap)(a:R0):HO->¤
 |.lst xs=>xs.length<=sizeLine/\∃(its:#MD) (n:Nat),aK xs its/\h.get? a=some { cls:=.type "list",data:=.seq its.toArray n }
 |.tup xs=>xs.length<=sizeLine/\∃its:#MD,aK xs its/\IsTup h a its.toArray
 |.dK kvs=>kvs.length<=sizeLine/\(a==sysModules)=¿/\∃vs,KV kvs vs/\h.DictOf (ah P w) a vs
 |.dT kvs=>kvs.length<=sizeLine/\(a==sysModules)=¿/\∃xs:#(#Key×R0×MD),
   Paired (λ(p:#Key×V) (q:#Key×R0×MD)=>p.1=q.1/\H q.2.1=!(.tup (p.1.map kV))/\RelV p.2 q.2.2) kvs xs ∧
   ∃o es ep,h.get? a=!o/\o.ExactDict/\o.data=.dict es ep/\es.toList=xs.map (entryOfKey (tupleKind (ah P w)))/\(xs.map (·.1)).Nodup
 |.dG kvs=>kvs.length<=sizeLine/\(a==sysModules)=¿/\∃xs:#(KD×MD×MD),
   Paired (λ(p:KD×V×V) (q:KD×MD×MD)=>p.1=q.1/\GK H p.1 p.2.1/\RelV p.2.1 q.2.1/\RelV p.2.2 q.2.2) kvs xs ∧
   ∃o es ep,h.get? a=!o/\o.ExactDict/\o.data=.dict es ep/\es.toList=xs.map (dS P w)/\(xs.map (·.1)).Nodup
 |.set S n=>h.SetOf (intKind P w) a S n
 |.ins C dx fs=>H dx=!(.own a)/\fs.length<=1000/\dx≠a/\h.get? a=some (PySem.W.instObj C dx) ∧
   ∃b,h.Ns1 dx b/\(∀f,eV (fs.lookup f) (b f))/\PySem.Within b (fs.map (·.1))
 |.own _=>∃o,h.get? a=!o
 |.xd fs=>∃b,h.Ns1 a b/\∀f,eV (fs.lookup f) (b f)
 |.P2 lo hi=>∃t u v,h.get? a=some { cls:=.type "range",data:=.fields #[.int lo t,.int hi u,.int 1 v] }
 |.cJ o u=>h.get? a=!o/\aV H h a u
 |.cf ps=>h.get? a=some { cls:=.none,data:=.fields ps }
 |.met f x=>h.get? a=!(PySem.W.methodObj (.ref f) (.ref x))
 |.ext φ=>φ h/\(∃o,h.get? a=!o)/\∀h1 h2:Heap,φ h1->(∀o,h1.get? a=!o->h2.get? a=!o)->φ h2
§dm(H:Hp)(h:Heap):Prop:=∀a o,H a=!o->aV P w H h a o
end
section
variable {P:Program}{w:World}{H H':Hp}{h h':Heap}{a:R0}{o:HO}
theorem aV.lt(x:aV P w H h a o):a<h.objs.size:=by
 cases o with
 |lst xs=>@_,_,_,_,e:=x;!qG e
 |tup xs=>@_,_,_,p:=x;!p.lt
 |dK kvs=>@_,_,_,_,o,_,_,e,_:=x;!qG e
 |dT kvs=>@_,_,_,_,o,_,_,e,_:=x;!qG e
 |dG kvs=>@_,_,_,_,o,_,_,e,_:=x;!qG e
 |set S n=>@o,_,_,_,e,_:=x;!qG e
 |ins C dx fs=>@_,_,_,e,_:=x;!qG e
 |own y=>@_,e:=x;!qG e
 |xd fs=>@_,⟨_,_,_,e,_⟩,_:=x;!qG e
 |P2 lo hi=>@_,_,_,e:=x;!qG e
 |cJ ob u=>@e,_:=x;!qG e
 |cf ps=>!qG (show h.get? a=some _ from x)
 |met f y=>!qG (show h.get? a=some _ from x)
 |ext b=>@_,⟨_,e⟩,_:=x;!qG e
theorem Paired.lh{α β:Type}{F G:α->β->¤}:∀{l₁:List α} {c:List β},Paired F l₁ c->(∀a b,F a b->G a b)->Paired G l₁ c
 |_,_,.nil,_=>.nil
 |_,_,.cons r t,f=>.cons (f _ _ r) (Paired.lh t f)
§GK.cP(g:GK H k v)(a:∀b xs,H b=!(.tup xs)->H' b=!(.tup xs)):GK H' k v:=by
 cases k with
 |aR=>!g
 |int i=>!g
 |tup ks=>@b,e,h:=g;!{b,e,a _ _ h}
 |two ks ls=>@b,c,d,e,h1,h2,f:=g;!{b,c,d,e,a _ _ h1,a _ _ h2,a _ _ f}
theorem aV.cP(x:aV P w H h a o)(k:∀b u,(b=a\/H b=!(.own a))->h.get? b=!u->h'.get? b=!u)(j:∀b,H b=!(.own a)->H' b=!(.own a))(i:∀b xs,H b=!(.tup xs)->H' b=!(.tup xs)):aV P w H' h' a o:=by
 induction o with
 |lst xs=>@z,its,n,r,e:=x;!{z,its,n,r,k _ _ (.inl rfl) e}
 |tup xs=>@z,its,r,ob,e,c:=x;!{z,its,r,ob,k _ _ (.inl rfl) e,c}
 |dK kvs=>@z,y,vs,r,ob,es,ep,e,c:=x;!{z,y,vs,r,ob,es,ep,k _ _ (.inl rfl) e,c}
 |dT kvs =>
  @z,y,xs,r,ob,es,ep,e,c:=x;!{z,y,xs,Paired.lh r λp q z=>{z.1,i _ _ z.2.1,z.2.2},ob,es,ep,k _ _ (.inl rfl) e,c}
 |dG kvs =>
  @z,y,xs,r,ob,es,ep,e,c:=x;!{z,y,xs,Paired.lh r λp q z=>{z.1,z.2.1.cP i,z.2.2},ob,es,ep,k _ _ (.inl rfl) e,c}
 |set S n=>@ob,es,ep,t,e,c:=x;!{ob,es,ep,t,k _ _ (.inl rfl) e,c}
 |ins C dx fs =>
  @d,z,ne,e,g,⟨od,es,ep,l,c⟩,r:=x;!{j _ d,z,ne,k _ _ (.inl rfl) e,g,{od,es,ep,k _ _ (.inr d) l,c},r}
 |own y=>@ob,e:=x;!{ob,k _ _ (.inl rfl) e}
 |xd fs=>@g,⟨od,es,ep,e,c⟩,r:=x;!{g,{od,es,ep,k _ _ (.inl rfl) e,c},r}
 |P2 lo hi=>@t,u,v,e:=x;!{t,u,v,k _ _ (.inl rfl) e}
 |cJ ob u m=>@e,q:=x;!{k _ _ (.inl rfl) e,m q}
 |cf ps =>
  have e:h.get? a=some { cls:=.none,data:=.fields ps }:=x;¤h'.get? a=some { cls:=.none,data:=.fields ps };!k a _ (.inl rfl) e
 |met f y =>
  have e:h.get? a=!(PySem.W.methodObj (.ref f) (.ref y)):=x;¤h'.get? a=!(PySem.W.methodObj (.ref f) (.ref y));!k a _ (.inl rfl) e
 |ext s=>@p,⟨o,e⟩,st:=x;!{st _ _ p λo q=>k _ _ (.inl rfl) q,{o,k _ _ (.inl rfl) e},st}
theorem dm.lt(x:dm P w H h)(e:H a=!o):a<h.objs.size:=(x a o e).lt
§dm.fresh(x:dm P w H h)(e:h.objs.size<=a):H a=£:=by
 cases q:H a with
 |none=>rfl
 |some u=>!absurd (zf (x.lt q) e) (wu _)
§dm.kept(x:dm P w H h)(k:∀b u,h.get? b=!u->h'.get? b=!u):dm P w H h':=λa o e =>
 (x a o e).cP (λb u _ q=>k b u q) (λ_ q=>q) λ_ _ q=>q
§dm.laid(x:dm P w H h)(k:∀b u,h.get? b=!u->h'.get? b=!u)(hp:h.objs.size<=a)(new:aV P w (upd H a o) h' a o):dm P w (upd H a o) h':=λb u e=>by
 #hn:=x.fresh hp
 ¿d:b=a
 .£d;[aD]at e;&e;!new
 .[ax d]at e
  !(x b u e).cP (λc v _ q=>k c v q) (λc q=>by[ax (a0 q hn)];!q) λc xs q=>by[ax (a0 q hn)];!q
end
§Rd(H:Hp)(a:R0)(u:HO):Prop:=H a=!u\/∃o,H a=!(.cJ o u)
§Rd.of(h:H a=!u):Rd H a u:=.inl h
§Rd.ok(r:Rd H a u)(x:dm P w H h):aV P w H h a u:=by
 @r|⟨o,r⟩:=r
 .!x a u r
 .@_,q:=x a _ r
  !q
§Kn:Option HO->¤
 |some (.lst _)=>True
 |some (.dK _)=>True
 |some (.dT _)=>True
 |some (.dG _)=>True
 |some (.set _ _)=>True
 |some (.ins _ _ _)=>True
 |some (.ext _)=>True
 |_=>False
section
variable {P:Program}{w:World}{H:Hp}{h h':Heap}{x e:R0}{o':HO}
§dm.write(ok:dm P w H h)(g:Kn (H x))(n:e=x\/H e=!(.own x))(k:∀b u,b≠e->h.get? b=!u->h'.get? b=!u)(l:∃u,h'.get? e=!u)(new:aV P w (upd H x o') h' x o'):dm P w (upd H x o') h':=λb u q=>by
 #d:∀c y,H c=!(.own y)->c≠x:=λc y r z=>by £z;[r]at g;!g
 #f:∀c xs,H c=!(.tup xs)->c≠x:=λc xs r z=>by £z;[r]at g;!g
 ¿i:b=x
 .£i;[aD]at q;&q;!new
 .[ax i]at q
  ¿a:b=e
  .#m:H b=!(.own x):=by
    @z|z:=n
    .!absurd (a.trans z) i
    .[a];!z
   [q]at m;&m;@v,o:=l;!{v,by[a];!o}
  .?(ok b u q).cP (λc v j r=>k c v ?_ r) (λc r=>by[ax (d c b r)];!r) λc xs r=>by[ax (f c xs r)];!r
   @rfl|j:=j
   .!a
   .rintro rfl
    @z|z:=n
    .!d c b j z
    .[j]at z;&z;!i rfl
end
structure Un(fs ex:#R0)(H H':Hp)(h h':Heap):Prop where
 keep:∀b o,h.get? b=!o->H b=£->b∉fs->b∉ex->h'.get? b=!o
 slot:∀b o,h.get? b=!o->H b=£->b∈fs->b∉ex->∃sl,h'.get? b=some { o with slots:=sl }
 free:∀b o,h.get? b=!o->H b=£->b∉ex->H' b=£
 there:∀b o,h.get? b=!o->b∉ex->∃o',h'.get? b=!o'
 ab:∀b xs,H b=!(.tup xs)->H' b=!(.tup xs)
 dP:∀b o u,H b=!(.cJ o u)->H' b=!(.cJ o u)
 dR:∀b ps,H b=!(.cf ps)->∃more,H' b=!(.cf (ps++more))
 dM:∀b o xs,h.get? b=!o->H b=!(.tup xs)->h'.get? b=!o
section
variable {fs fs' ex ex':#R0}{H H1 H2:Hp}{h h1 h2 h':Heap}{a x e:R0}{o:HO}
§Un.any(u:Un fs ex H H1 h h1){b:R0}{ob:Obj}(q:h.get? b=!ob)(n:H b=£)(a:b∉ex):∃sl,h1.get? b=some { ob with slots:=sl }:=by
 ¿c:b∈fs
 .!u.slot b ob q n c a
 .!{ob.slots,u.keep b ob q n c a}
§Un.trans(a:Un fs ex H H1 h h1)(b:Un fs ex H1 H2 h1 h2):Un fs ex H H2 h h2 where
 keep:=λc ob q n f d=>b.keep c ob (a.keep c ob q n f d) (a.free c ob q n d) f d
 slot:=λc ob q n f d=>by
  @sl,e:=a.slot c ob q n f d;@g,i:=b.slot c _ e (a.free c ob q n d) f d;!{g,i}
 free:=λc ob q n d=>by
  @o',e:=a.there c ob q d;!b.free c o' e (a.free c ob q n d) d
 there:=λc ob q d=>by
  @o',e:=a.there c ob q d;!b.there c o' e d
 ab:=λc xs q=>b.ab c xs (a.ab c xs q)
 dP:=λc ob xs q=>b.dP c ob xs (a.dP c ob xs q)
 dR:=λc ps q=>by
  @k,e:=a.dR c ps q;@j,i:=b.dR c _ e;!{k++j,by[i,ng]}
 dM:=λc ob xs q n=>b.dM c ob xs (a.dM c ob xs q n) (a.ab c xs n)
§Un.kept(k:∀b u,h.get? b=!u->h'.get? b=!u):Un fs ex H H h h' :=
 {λb ob q _ _ _=>k b ob q,λb ob q _ _ _=>{ob.slots,k b ob q},λ_ _ _ n _=>n,λb ob q _=>{ob,k b ob q},λ_ _ q=>q,λ_ _ _ q=>q,λ_ ps q=>{#[],by[q];simp},λb ob _ q _=>k b ob q}
§Un.refl:Un fs ex H H h h:=Un.kept λ_ _ q=>q
§Un.laid(k:∀b u,h.get? b=!u->h'.get? b=!u)(hp:h.objs.size<=a)(hn:H a=£):Un fs ex H (upd H a o) h h' where
 keep:=λb u q _ _ _=>k b u q
 slot:=λb u q _ _ _=>{u.slots,k b u q}
 free:=λb u q n _=>by[ax (qp (zf (qG q) hp))];!n
 there:=λb u q _=>{u,k b u q}
 ab:=λb xs q=>by[ax (a0 q hn)];!q
 dP:=λb u xs q=>by[ax (a0 q hn)];!q
 dR:=λb ps q=>{#[],by[ax (a0 q hn),q];simp}
 dM:=λb u _ q _=>k b u q
§Un.write(c:Kn (H x))(j:e=x\/H e=!(.own x))(k:∀b u,b≠e->h.get? b=!u->h'.get? b=!u)(f:∃u,h'.get? e=!u):Un fs ex H (upd H x o) h h':=by
 #i:∀b,H b=£->b≠x:=λb n z=>by £z;[n]at c;!c
 #g:∀b,H b=£->b≠e:=λb n z=>by
  £z;@r|r:=j
  .!i b n r
  .[n]at r;&r
 #d:∀b u,H b=!u->¬Kn (!u)->b≠x:=λb u q l z=>by £z;[q]at c;!l c
 ?{λb u q n _ _=>k b u (g b n) q,λb u q n _ _=>{u.slots,k b u (g b n) q},λb u q n _=>by[ax (i b n)];!n,λb u q _=>?_,
  λb xs q=>by[ax (d b _ q λz=>z)];!q,λb u xs q=>by[ax (d b _ q λz=>z)];!q,λb ps q=>{#[],by[ax (d b _ q λz=>z),q];simp},λb u xs q n=>k b u (λz=>by
   £z;@r|r:=j
   .!d b _ n (λz=>z) r
   .[n]at r;&r) q}
 ¿a:b=e
 .£a;!f
 .!{u,k b u a q}
end
§LZ(h:Heap)(H:Hp):#R0:=(List.range h.objs.size).filter λa=>(H a).isSome
§gU(h:Heap)(H:Hp):Heap:=PySem.W.hideAll h (LZ h H)
§Mi(h:Heap)(H:Hp):(gU h H).objs.size=h.objs.size:=PySem.W.hideAll_size _ _
§Py(e:h.get? b=!o)(n:H b=£):(gU h H).get? b=some o :=
 PySem.W.hideAll_get _ e λa=>by
  #q:(H b).isSome=¶:=(zk.mp a).2;[n]at q;simp at q
§Oc{h:Heap}{H:Hp}{b:R0}{o:Obj}(e:(gU h H).get? b=!o):h.get? b=!o/\H b=£:=by
 #a:h.get? b=!o:=PySem.W.of_hideAll (LZ h H) e;?{a,?_}
 cases q:H b with
 |none=>rfl
 |some x =>
  have c:b∈LZ h H:=List.mem_filter.mpr {List.mem_range.mpr (qG a),by simp[q]};have z:(gU h H).get? b=£:=PySem.W.hideAll_none (LZ h H) c;[z]at e;&e
structure Mod(K:PySem.W.Frag)(mg:R9->Option MD)(base:Heap):Prop where
 LY:K.In base
 glob:base.Ns mainGlobals mg
 blt:∃mb,base.Ns builtinsNs mb/\∀x:R9,x≠"__name__"->mb x=bootBuiltins x
 nolimit:base.NoLimit
structure Cx where
 prog:Program
 w:World
 K:PySem.W.Frag
 mg:R9->Option MD
 base:Heap
 A:Around
 N:#R9
 s₀:RX
 H₀:Hp
 env:Env
 outer:#Env
 stack:#Env
 ex:#R0
 fn:R9->Bool
 calm:Bool
 pn:#(R0×Obj)
 xe:KE
§d9(l:#Env):#R0:=l.filterMap (·.frame)
abbrev Cx.fs(X:Cx):#R0:=d9 X.outer
§L0(a:Scope)(x:R9):Prop:=a.names.lookup x=some .local\/a.names.lookup x=some .cell\/a.names.lookup x=some .free
§Loc(a:Scope)(x:R9):Prop:=a.names.lookup x=some .local\/a.names.lookup x=some .cell
§Look(env:Env)(h:Heap)(m:R9->Option MD)(x:R9)(u:MD):Prop :=
 (env.kindOf x=some .local/\m x=!u)\/((env.kindOf x=some .cell\/env.kindOf x=some .free)/\∃c,env.cells.lookup x=!c/\h.IsCell c (!u))
structure Cx.Ok(X:Cx):Prop where
 mod:Mod X.K X.mg X.base
 kind:X.env.scope.kind=.function
 glob:X.env.globals=mainGlobals
 blt:X.env.builtins=builtinsNs
 above:X.s₀.heap.objs.size<=X.env.locals
 inj:∀x y c,X.env.cells.lookup x=!c->X.env.cells.lookup y=!c->x=y
 has:∀x,(X.env.kindOf x=some .cell\/X.env.kindOf x=some .free)->∃c,X.env.cells.lookup x=!c
 yG:∀x c,X.fn x=¶->X.env.cells.lookup x=!c->X.s₀.heap.objs.size<=c
 hd:X.calm=¶->X.A.handled=£
 frames:X.A.frames=!X.stack
 LP:X.stack=X.outer\/(X.stack=X.env::X.outer/\X.env.frame=!X.env.locals)
 Rj:∀b∈X.ex,b≠X.env.locals/\∀x c,X.env.cells.lookup x=!c->c≠b
 bs:∀b o,X.base.get? b=!o->X.s₀.heap.get? b=!o/\(X.H₀ b=£\/∃xs,X.H₀ b=!(.tup xs))
 uL:X.base.objs.size<=X.s₀.heap.objs.size
 rO:∀b o,X.base.get? b=!o->b∉X.ex
 vT:∀b∈X.ex,b∉X.fs
 eh:X.s₀.heap.FunFrames X.base X.outer
 vI:∀b∈X.fs,X.H₀ b=£
structure Inv(X:Cx)(pins:#(R0×Obj))(σ:#(Option V))(H:Hp)(s:RX):Prop where
 ok:X.Ok
 os:s.os=X.s₀.os
 bare:AllBare s.gens
 base:Un X.fs X.ex X.H₀ H X.s₀.heap s.heap
 loc:∃m,s.heap.Ns X.env.locals m/\∀(i:Nat) (x:R9) (v:V),X.N[i]?=!x->σ[i]?=!(!v)->L0 X.env.scope x->∃u,RelV v u/\Look X.env s.heap m x u
 cell:∀x c,X.env.cells.lookup x=!c->∃v,s.heap.IsCell c v
 free:H X.env.locals=£
 dr:∀x c,X.env.cells.lookup x=!c->H c=£
 pin:∀p∈X.pn++pins,s.heap.get? p.1=!p.2/\H p.1=£/\p.1≠X.env.locals/\p.1∉X.fs/\∀v,p.2.data≠.cell v
 aS:dm X.prog X.w H s.heap
 len:σ.length=X.N.length
section
variable {X:Cx}{pins:#(R0×Obj)}{σ:#(Option V)}{H H':Hp}{s:RX}{h':Heap}
§Cx.Ok.Qv(ok:X.Ok)(e:X.base.get? b=!o):b∉X.fs:=λa=>by
 #:=(ok.eh.mem a).1;[e]at this;&this
theorem Inv.bs(I:Inv X pins σ H s):∀b o,X.base.get? b=!o->s.heap.get? b=!o/\(H b=£\/∃xs,H b=!(.tup xs)):=λb o e =>
 match I.ok.bs b o e with
 |⟨h1,.inl h2⟩=>{I.base.keep b o h1 h2 (I.ok.Qv e) (I.ok.rO b o e),.inl (I.base.free b o h1 h2 (I.ok.rO b o e))}
 |⟨h1,.inr ⟨xs,h2⟩⟩=>{I.base.dM b o xs h1 h2,.inr {xs,I.base.ab b xs h2}}
§Inv.bk(I:Inv X pins σ H s):∀b o,X.base.get? b=!o->s.heap.get? b=!o:=λb o e=>(I.bs b o e).1
theorem Inv.mod(I:Inv X pins σ H s):Mod X.K X.mg X.base:=I.ok.mod
§Inv.lY(I:Inv X pins σ H s):X.K.In s.heap:=I.ok.mod.LY.keeps I.bk
theorem Inv.lt(I:Inv X pins σ H s):X.env.locals<↑s:=let⟨_,hn,_⟩:=I.loc;hn.lt
§Inv.sz(I:Inv X pins σ H s):X.s₀.heap.objs.size<=↑s:=qg I.ok.above (ww I.lt)
§Inv.vF(I:Inv X pins σ H s){a:R0}(h:↑s<=a):a∉X.fs:=λc=>by
 @_,o,b,_:=I.ok.eh.mem c;!absurd (zf (qG b) (qg I.sz h)) (wu _)
§Inv.vA(I:Inv X pins σ H s):∀x c,X.env.cells.lookup x=!c->c≠X.env.locals:=λx c e z=>by
 @v,o,d,f:=I.cell x c e;@m,⟨o',es,ep,a,b,_⟩,_:=I.loc;[z,a]at d;&d;[b]at f;&f
theorem Inv.eh(I:Inv X pins σ H s):s.heap.FunFrames X.base X.outer:=by
 #all:∀(l:#Env),(∀b∈d9 l,b∈X.fs)->X.s₀.heap.FunFrames X.base l->s.heap.FunFrames X.base l:=by
  ¢l
  induction l with
  |nil=>intro _ _;trivial
  |cons env r k =>
   ¢f i;@h,⟨L,o,a,hn,g,m⟩,j:=i;#c:L∈X.fs:=f L (by ¶d9;[g0,a];!qm);@sl,e:=I.base.slot L o g (I.ok.vI L c) c λz=>I.ok.vT L z c;!{h,{L,_,a,hn,e,m},k (λb d=>f b (by ¶d9;[g0,a];!qy _ d)) j}
 !all X.outer (λ_ d=>d) I.ok.eh
theorem Inv.stack(I:Inv X pins σ H s):s.heap.FunFrames X.base X.stack:=by
 @e|⟨e,hf⟩:=I.ok.LP
 .[e];!I.eh
 .[e]
  @m,hn,_:=I.loc;?.cons (by[I.ok.kind];decide) hf hn ?_ I.eh;!Heap.get?_none_of_le (qg I.ok.uL I.ok.above)
§Inv.gR(I:Inv X pins σ H s):∀b∈d9 X.stack,b∈X.env.locals::X.fs:=λb a=>by
 @e|⟨e,hf⟩:=I.ok.LP
 .[e]at a;!qy _ a
 .[e]at a
  unfold d9 at a;[g0,hf]at a;!a
§Inv.nJ(I:Inv X pins σ H s):∀b∈d9 X.stack,H b=£:=λb a=>by
 @e|a:=q0.mp (I.gR b a)
 .[e];!I.free
 .@_,o,c,_:=I.ok.eh.mem a
  !I.base.free b o c (I.ok.vI b a) λz=>I.ok.vT b z a
§Inv.step{g':Array GenState}{t':Nat}{d':Drawn}{ch:#R0}(I:Inv X pins σ H s)(f:∀b∈ch,(b∈X.ex\/X.s₀.heap.objs.size<=b)/\b≠X.env.locals/\(∀x c,X.env.cells.lookup x=!c->c≠b)/\∀p∈X.pn++pins,p.1≠b)(keep:∀b o,b≠X.env.locals->b∉X.fs->b∉ch->s.heap.get? b=!o->H b=£->h'.get? b=!o)(slot:∀b o,b≠X.env.locals->b∈X.fs->b∉ch->s.heap.get? b=!o->H b=£->∃sl,h'.get? b=some { o with slots:=sl })(free:∀b o,b∉ch->s.heap.get? b=!o->H b=£->H' b=£)(there:∀b o,b∉ch->s.heap.get? b=!o->∃o',h'.get? b=!o')(ab:∀b xs,H b=!(.tup xs)->H' b=!(.tup xs))(dP:∀b o u,H b=!(.cJ o u)->H' b=!(.cJ o u))(dR:∀b ps,H b=!(.cf ps)->∃more,H' b=!(.cf (ps++more)))(dM:∀b o xs,s.heap.get? b=!o->H b=!(.tup xs)->h'.get? b=!o)(ns:∀m,s.heap.Ns X.env.locals m->h'.Ns X.env.locals m)(F:dm X.prog X.w H' h')(L:AllBare g') :
  Inv X pins σ H' { s with heap:=h',gens:=g',drawn:=d',toks:=t' }:=by
 #B:∀b o,X.s₀.heap.get? b=!o->b≠X.env.locals:=λb o e=>qp (zf (qG e) I.ok.above)
 #j:∀b o,X.s₀.heap.get? b=!o->b∉X.ex->b∉ch:=λb o e a y=>by
  rcases(f b y).1 with z|z
  .!a z
  .!absurd (zf (qG e) z) (wu _)
 #g:∀x c,X.env.cells.lookup x=!c->∀v,s.heap.IsCell c v->h'.IsCell c v:=λx c e v ⟨o,A,E⟩=>by
  #h:c∉ch:=λz=>(f c z).2.2.1 x c e rfl
  ¿J:c∈X.fs
  .@sl,q:=slot c o (I.vA x c e) J h A (I.dr x c e)
   !{_,q,E}
  .!{o,keep c o (I.vA x c e) J h A (I.dr x c e),E}
 ?{I.ok,I.os,L,{λb o e n y a=>?_,λb o e n y a=>?_,λb o e n a=>?_,λb o e a=>?_,λb xs e=>ab b xs (I.base.ab b xs e),λb o xs e=>dP b o xs (I.base.dP b o xs e),λb ps e=>?_,λb o xs e n=>dM b o xs (I.base.dM b o xs e n) (I.base.ab b xs n)},?_,λx c e=>?_,?_,λx c e=>?_,λp hp=>?_,F,I.len}
 .!keep b o (B b o e) y (j b o e a) (I.base.keep b o e n y a) (I.base.free b o e n a)
 .@sl,t:=I.base.slot b o e n y a
  @D,C:=slot b _ (B b o e) y (j b o e a) t (I.base.free b o e n a);!{D,C}
 .@o',t:=I.base.there b o e a
  !free b o' (j b o e a) t (I.base.free b o e n a)
 .@o',t:=I.base.there b o e a
  !there b o' (j b o e a) t
 .@O,t:=I.base.dR b ps e
  @K,C:=dR b _ t;!{O++K,by[C,ng]}
 .@m,hn,N:=I.loc
  ?{m,ns m hn,λi x v t C M=>?_};@u,r,l:=N i x v t C M;?{u,r,?_};@l|⟨k,c,e,z⟩:=l
  .!.inl l
  .!.inr ⟨k,c,e,g x c e _ z⟩
 .@v,z:=I.cell x c e
  !{v,g x c e v z}
 .@m,⟨o,_,_,A,_⟩,_:=I.loc
  !free _ o (λz=>(f _ z).2.1 rfl) A I.free
 .@v,o,A,E:=I.cell x c e
  !free c o (λz=>(f c z).2.2.1 x c e rfl) A (I.dr x c e)
 .@e,n,ne,G,d:=I.pin p hp
  #h:p.1∉ch:=λz=>(f p.1 z).2.2.2 p hp rfl;!{keep p.1 p.2 ne G h e n,free p.1 p.2 h e n,ne,G,d}
§Inv.un(I:Inv X pins σ H s)(u:Un X.fs [] H H' s.heap h')(c:dm X.prog X.w H' h'):Inv X pins σ H' { s with heap:=h',toks:=t' }:=by
 @m,⟨o,es,ep,h,r⟩,_:=id I.loc;@sl,i:=u.any h I.free (by simp)
 !I.step (g':=s.gens) (d':=s.drawn) (ch:=[]) (λ_=>°) (λb o _ f _ e n=>u.keep b o e n f (by simp)) (λb o _ f _ e n=>u.slot b o e n f (by simp)) (λb o _ e n=>u.free b o e n (by simp)) (λb o _ e=>u.there b o e (by simp)) u.ab u.dP u.dR u.dM (λl k=>by
  @o',g,d,a,j:=k;[h]at a;&a
  !{_,g,d,i,j}) c I.bare
§Inv.call(I:Inv X pins σ H s)(u:Un (d9 X.stack) ch H H' s.heap h')(g:dm X.prog X.w H' h')(l:AllBare g')(f:∀b∈ch,(b∈X.ex\/X.s₀.heap.objs.size<=b)/\b≠X.env.locals/\(∀x c,X.env.cells.lookup x=!c->c≠b)/\∀p∈X.pn++pins,p.1≠b) :
  Inv X pins σ H' { s with heap:=h',gens:=g',drawn:=d',toks:=t' }:=by
 @m,⟨o,es,ep,k,r⟩,_:=id I.loc;@sl,i:=u.any k I.free λz=>(f _ z).2.1 rfl
 !I.step (ch:=ch) f (λb o i q a e n=>u.keep b o e n (λz=>(q0.mp (I.gR b z)).elim i q) a) (λb o _ _ a e n=>u.any e n a) (λb o a e n=>u.free b o e n a) (λb o a e=>u.there b o e a) u.ab u.dP u.dR u.dM (λy v=>by
  @o',j,h,d,t:=v;[k]at d;&d
  !{_,j,h,i,t}) g l
§Inv.turned(I:Inv X pins σ H s)(k:∀b o,b≠it->s.heap.get? b=!o->h'.get? b=!o)(hn:H it=£)(f:it≠X.env.locals)(h1:it∈X.ex\/X.s₀.heap.objs.size<=it)(h2:∀x c,X.env.cells.lookup x=!c->c≠it)(h:∀p∈X.pn++pins,p.1≠it):Inv X pins σ H { s with heap:=h',toks:=t' }:=by
 #a:∀b u,H b=!u->b≠it:=λb u e z=>by[z,hn]at e;&e
 ?I.step (g':=s.gens) (d':=s.drawn) (ch:=[it]) (λb i=>?_) (λb o _ _ d e _=>k b o (λz=>d (by simp[z])) e) (λb o _ _ d e _=>{o.slots,k b o (λz=>d (by simp[z])) e}) (λ_ _ _ _ n=>n)
  (λb o d e=>{o,k b o (λz=>d (by simp[z])) e}) (λ_ _ e=>e) (λ_ _ _ e=>e) (λb ps e=>{#[],by[e];simp}) (λb o xs e n=>k b o (a b _ n) e) (λm j=>?_) (λb u e=>?_) I.bare
 .#e:b=it:=by ±i
  £e;!{h1,f,h2,h}
 .@o,es,ep,g,r:=j
  !{o,es,ep,k _ o (Ne.symm f) g,r}
 .?(I.aS b u e).cP (λc v d q=>k c v ?_ q) (λ_ q=>q) λ_ _ q=>q
  @z|z:=d
  .[z];!a b u e
  .!a c _ z
§Inv.tok(I:Inv X pins σ H s)(t:Nat):Inv X pins σ H { s with toks:=t }:=I.un (h':=s.heap) (t':=t) Un.refl I.aS
theorem Inv.kept(I:Inv X pins σ H s)(k:∀b u,s.heap.get? b=!u->h'.get? b=!u):Inv X pins σ H { s with heap:=h',toks:=t' }:=I.un (Un.kept k) (I.aS.kept k)
theorem Inv.laid{a:R0}{o:HO}{t':Nat}(I:Inv X pins σ H s)(k:∀b u,s.heap.get? b=!u->h'.get? b=!u)(hp:↑s<=a)(new:aV X.prog X.w (upd H a o) h' a o) :
  Inv X pins σ (upd H a o) { s with heap:=h',toks:=t' }:=I.un (Un.laid k hp (I.aS.fresh hp)) (I.aS.laid k hp new)
theorem Inv.write(I:Inv X pins σ H s)(d:Kn (H x))(c:e=x\/H e=!(.own x))(k:∀b u,b≠e->s.heap.get? b=!u->h'.get? b=!u)(a:∃u,h'.get? e=!u)(new:aV X.prog X.w (upd H x o) h' x o):Inv X pins σ (upd H x o) { s with heap:=h',toks:=t' }:=I.un (Un.write d c k a) (I.aS.write d c k a new)
§Inv.weak(I:Inv X pins σ H s)(c:σ'.length=σ.length)(w:∀(i:Nat) v,σ'[i]?=!(!v)->σ[i]?=!(!v)):Inv X pins σ' H s :=
 {I.ok,I.os,I.bare,I.base,let⟨m,hn,a⟩:=I.loc;{m,hn,λi x v e d b=>a i x v e (w i v d) b},I.cell,I.free,I.dr,I.pin,I.aS,c.trans I.len}
§Inv.gL(I:Inv X pins σ H s)(h:∀p∈pins',s.heap.get? p.1=!p.2/\H p.1=£/\p.1≠X.env.locals/\p.1∉X.fs/\∀v,p.2.data≠.cell v):Inv X pins' σ H s :=
 {I.ok,I.os,I.bare,I.base,I.loc,I.cell,I.free,I.dr,λp hp=>(zh.mp hp).elim (λz=>I.pin p (wg _ z)) (h p),I.aS,I.len}
§Ls{N:#R9}(d:N.Nodup){i j:Nat}{x:R9}(a:N[i]?=!x)(b:N[j]?=!x):i=j:=by
 @h1,e:=qk.mp a;@h2,c:=qk.mp b;!(j4 d).mp (e.trans c.symm)
§JF{A:Around}(I:Inv X pins σ H s)(hN:X.N.Nodup)(hi:X.N[i]?=!x)(B:Loc X.env.scope x)(r:RelV v u)(h:∀s',Inv X pins (σ.set i (!v)) H s'->(∃a,Heap.SameBut a s.heap s'.heap/\(a=X.env.locals\/X.env.cells.lookup x=!a))->Q Unit.unit s')(hf:X.fn x=¶\/X.env.scope.names.lookup x=some .local:=by first|exact .inl rfl|exact .inr rfl|assumption):wpAny M A (storeName X.env x u) Q E s:=by
 @m,hn,hl:=id I.loc
 #L:(X.env.scope.kind==.class||(X.env.scope.kind==.module&&X.env.locals != X.env.globals))=¿:=by[I.ok.kind];rfl
 #G:i<σ.length:=by[I.len];!(qk.mp hi).1
 #vA:=I.vA
 #g:∀{a:R0} {h':Heap},(∃o,s.heap.get? a=!o/\H a=£)->Heap.SameBut a s.heap h'->dm X.prog X.w H h':=λ{a h'} ha f b ob e=>by
  @_,_,C:=ha;?(I.aS b ob e).cP (λc T t q=>(f.2 c ?_).trans q) (λ_ q=>q) λ_ _ q=>q;rintro rfl;@rfl|t:=t
  .[C]at e;&e
  .[C]at t;&t
 @hk|hk:=B
 .?wpAny_storeName_local hk hn (λh' hn' f=>?_) L
  @oL,_,_,Y,_:=id hn;?h _ {I.ok,I.os,I.bare,{λb o e n K B=>?_,λb o e n K B=>?_,I.base.free,λb o e B=>?_,I.base.ab,I.base.dP,I.base.dR,λb o xs e n=>(f.2 b (Nat.ne_of_lt (Nat.lt_of_lt_of_le (qG e) I.ok.above))).trans (I.base.dM b o xs e n)},{_,hn',λj y Z l F e3=>?_},λy c e=>?_,I.free,I.dr,λp hp=>?_,g {oL,Y,I.free} f,by ±I.len} {_,f,.inl rfl}
  .!(f.2 b (qp (zf (qG e) I.ok.above))).trans (I.base.keep b o e n K B)
  .@sl,l:=I.base.slot b o e n K B
   !{sl,(f.2 b (qp (zf (qG e) I.ok.above))).trans l}
  .@o',l:=I.base.there b o e B
   !{o',(f.2 b (qp (zf (qG e) I.ok.above))).trans l}
  .¿J:j=i
   .£J
    [hi]at l;&l;[nh G]at F;&F;!{u,r,.inl {hk,by simp}}
   .[yy (Ne.symm J)]at F
    @u',r',q:=hl j y Z l F e3;?{u',r',?_};@⟨k,e⟩|⟨k,c,e,z⟩:=q
    .?.inl ⟨k,?_⟩
     #:y≠x:=λe=>J (Ls hN l (e▸hi))
     simp[this,e]
    .!.inr {k,c,e,z.sameBut f (vA y c e)}
  .@T,z:=I.cell y c e
   !{T,z.sameBut f (vA y c e)}
  .@e,n,ne,W,d:=I.pin p hp
   !{(f.2 p.1 ne).trans e,n,ne,W,d}
 .#D:X.fn x=¶:=by
   @z|z:=hf
   .!z
   .[z]at hk;&hk
  @c,t:=I.ok.has x (.inl hk);@T,z:=I.cell x c t;?wpAny_storeName_cell I.ok.kind hk t z (λh' P f=>?_);@oc,R,S:=id z;?h { s with heap:=h' } {I.ok,I.os,I.bare,{λb o e n K B=>?_,λb o e n K B=>?_,I.base.free,λb o e B=>?_,I.base.ab,I.base.dP,I.base.dR,λb o xs e n=>(f.2 b (Nat.ne_of_lt (Nat.lt_of_lt_of_le (qG e) (I.ok.yG x c D t)))).trans (I.base.dM b o xs e n)},{m,hn.sameBut f (Ne.symm (vA x c t)),λj y Z l F e3=>?_},λy U e=>?_,I.free,I.dr,λp hp=>?_,g {oc,R,I.dr x c t} f,by ±I.len} {c,f,.inr t}
  .!(f.2 b (qp (zf (qG e) (I.ok.yG x c D t)))).trans (I.base.keep b o e n K B)
  .@sl,l:=I.base.slot b o e n K B
   !{sl,(f.2 b (qp (zf (qG e) (I.ok.yG x c D t)))).trans l}
  .@o',l:=I.base.there b o e B
   !{o',(f.2 b (qp (zf (qG e) (I.ok.yG x c D t)))).trans l}
  .¿J:j=i
   .£J
    [hi]at l;&l;[nh G]at F;&F;!{u,r,.inr {.inl hk,c,t,P}}
   .[yy (Ne.symm J)]at F
    @u',r',q:=hl j y Z l F e3;?{u',r',?_};@q|⟨k,U,e,z'⟩:=q
    .!.inl q
    .?.inr ⟨k,U,e,z'.sameBut f ?_⟩
     rintro rfl;!J (Ls hN l (I.ok.inj _ _ _ e t▸hi))
  .¿O:U=c
   .£O;!{_,P}
   .@w2,z2:=I.cell y U e
    !{w2,z2.sameBut f O}
  .@e,n,ne,W,d:=I.pin p hp
   ?{(f.2 p.1 ?_).trans e,n,ne,W,d};¢q;[q,R]at e;#q':oc=p.2:=qJ e;!d T (by[←q'];!S)
§F'{M:Model}{A:Around}{E:KE}{i:Nat}{x:R9}{v:V}{u:MD}{Q:Unit->RX->¤}(I:Inv X pins σ H s)(c:X.N.Nodup)(hi:X.N[i]?=!x)(d:Loc X.env.scope x)(r:RelV v u)(h:∀s',Inv X pins (σ.set i (!v)) H s'->Q Unit.unit s')(b:X.fn x=¶\/X.env.scope.names.lookup x=some .local:=by first|exact .inl rfl|exact .inr rfl|assumption):wpAny M A (storeName X.env x u) Q E s :=
 JF I c hi d r (λs' a _=>h s' a) b
§Inv.hH(I:Inv X pins σ H s)(g:s'.os=s.os)(u:Un (d9 X.stack) ch H H' s.heap s'.heap)(d:dm X.prog X.w H' s'.heap)(f:AllBare s'.gens)(a:∀b∈ch,(b∈X.ex\/X.s₀.heap.objs.size<=b)/\b≠X.env.locals/\(∀x c,X.env.cells.lookup x=!c->c≠b)/\∀p∈X.pn++pins,p.1≠b):Inv X pins σ H' s':=by
 @h',g',d',t',o':=s';#e:o'=s.os:=g;£e;!I.call (g':=g') (t':=t') (d':=d') u d f a
end
abbrev XK:=MD->Option R0->Hp->¤
abbrev St:=#(Option V)
abbrev VK:=V->Hp->¤
abbrev TE:=St->Hp->VK->¤
abbrev TT:=St->Hp->(Bool->Hp->¤)->¤
abbrev TA:=St->Hp->(#V->Hp->¤)->¤
structure Ends where
 nx:St->Hp->¤
 rt:VK
 bk:St->Hp->¤:=λ_ _=>False
 ct:St->Hp->¤:=λ_ _=>False
abbrev TS:=Ends->St->Hp->¤
§EP(X:Cx)(pins:#(R0×Obj))(σ:St)(Q:VK)(u:MD)(s':RX):Prop:=∃v H',Inv X pins σ H' s'/\RelV v u/\Q v H'
§TP(X:Cx)(pins:#(R0×Obj))(σ:St)(Q:Bool->Hp->¤)(b:Bool)(s':RX):Prop:=∃H',Inv X pins σ H' s'/\Q b H'
§AP(X:Cx)(pins:#(R0×Obj))(σ:St)(Q:#V->Hp->¤)(us:#MD)(s':RX):Prop:=∃vs H',Inv X pins σ H' s'/\aK vs us/\Q vs H'
§SP(X:Cx)(pins:#(R0×Obj))(D:Ends)(f:Flow)(s':RX):Prop :=
 match f with
 |.next=>∃σ' H',Inv X pins σ' H' s'/\D.nx σ' H'
 |.brk=>∃σ' H',Inv X pins σ' H' s'/\D.bk σ' H'
 |.cont=>∃σ' H',Inv X pins σ' H' s'/\D.ct σ' H'
 |.ret u=>∃v σ' H',Inv X pins σ' H' s'/\RelV v u/\D.rt v H'
§Rf(X:Cx)(e:Expr)(t:TE):Prop :=
 ∀(pins:#(R0×Obj)) (s:RX) (σ:St) (H:Hp) (Q:VK),Inv X pins σ H s->t σ H Q->wpAny (model X.prog X.w) X.A (eval e X.env) (EP X pins σ Q) X.xe s
structure PE(X:Cx)(e:Expr)(t:TE):Prop where run:Rf X e t
instance RE{X:Cx}{e:Expr}{t:TE}:CoeFun (PE X e t) λ_=>Rf X e t:={PE.run}
§Q5(X:Cx)(e:Expr)(t:TT):Prop :=
 ∀(pins:#(R0×Obj)) (s:RX) (σ:St) (H:Hp) (Q:Bool->Hp->¤),Inv X pins σ H s->t σ H Q->wpAny (model X.prog X.w) X.A (isTrue e X.env (eval e X.env)) (TP X pins σ Q) X.xe s
structure PT(X:Cx)(e:Expr)(t:TT):Prop where run:Q5 X e t
instance RP{X:Cx}{e:Expr}{t:TT}:CoeFun (PT X e t) λ_=>Q5 X e t:={PT.run}
§pS(X:Cx)(e:Expr)(t:TT):Prop :=
 ∀(a:Sem MD) (pins:#(R0×Obj)) (s:RX) (σ:St) (H:Hp) (Q:Bool->Hp->¤),Inv X pins σ H s->t σ H Q->wpAny (model X.prog X.w) X.A (isTrue e X.env a) (TP X pins σ Q) X.xe s
structure PW(X:Cx)(e:Expr)(t:TT):Prop where run:pS X e t
instance Rn{X:Cx}{e:Expr}{t:TT}:CoeFun (PW X e t) λ_=>pS X e t:={PW.run}
§PW.pt(h:PW X e t):PT X e t:={h _}
§Q9(X:Cx)(es:#Expr)(t:TA):Prop :=
 ∀(pos:Pos) (pins:#(R0×Obj)) (s:RX) (σ:St) (H:Hp) (Q:#V->Hp->¤),Inv X pins σ H s->t σ H Q->wpAny (model X.prog X.w) X.A (spliced (backTo pos (starEach es X.env))) (AP X pins σ Q) X.xe s
structure PA(X:Cx)(es:#Expr)(t:TA):Prop where run:Q9 X es t
instance Rx{X:Cx}{es:#Expr}{t:TA}:CoeFun (PA X es t) λ_=>Q9 X es t:={PA.run}
§Q_(X:Cx)(st:Stmt)(t:TS):Prop :=
 ∀(pins:#(R0×Obj)) (s:RX) (σ:St) (H:Hp) (D:Ends),Inv X pins σ H s->t D σ H->wpAny (model X.prog X.w) X.A (exec st X.env) (SP X pins D) X.xe s
structure PS(X:Cx)(st:Stmt)(t:TS):Prop where run:Q_ X st t
instance RO{X:Cx}{st:Stmt}{t:TS}:CoeFun (PS X st t) λ_=>Q_ X st t:={PS.run}
§HI(X:Cx)(st:#Stmt)(t:TS):Prop :=
 ∀(pins:#(R0×Obj)) (s:RX) (σ:St) (H:Hp) (D:Ends),Inv X pins σ H s->t D σ H->wpAny (model X.prog X.w) X.A (execs st X.env) (SP X pins D) X.xe s
structure ig(X:Cx)(st:#Stmt)(t:TS):Prop where run:HI X st t
instance Rh{X:Cx}{st:#Stmt}{t:TS}:CoeFun (ig X st t) λ_=>HI X st t:={ig.run}
§bK{α:Type}{t:Sem α}{Q b:α->RX->¤}{M:Model}{A:Around}{E:KE}{s:RX}(h:wpAny M A t Q E s)(c:∀a s,Q a s->b a s):wpAny M A t b E s:=qM h c λ_ _ x=>x
section
variable {X:Cx}
inductive sI(i:Nat)(σ:St)(H:Hp)(Q:VK):Prop
 |mk(v:_)(_:σ[i]?=!(!v))(_:Q v H)
§tC(v:V):TE:=λ_ H Q=>Q v H
§BP(o:X.N[i]?=!x)(p:L0 X.env.scope x)(g:(x==("__debug__":R9))=¿:=by decide)(f:(x==("__classdict__":R9))=¿:=by decide):PE X (.Name x pos) (sI i):=by
 ?{?_};¢pins s σ H Q I h;@v,e,h:=h;@m,hn,k:=I.loc;@u,r,l:=k i x v o e p;#d:EP X pins σ Q u s:={v,H,I,r,h};@⟨b,n⟩|⟨b,c,j,a⟩:=l
 .!wpAny_Name (wpAny_loadName_local I.ok.kind b hn n d) g
 .@b|b:=b
  .!wpAny_Name (wpAny_loadName_cell I.ok.kind b j a d) g
  .!wpAny_Name (wpAny_loadName_free I.ok.kind b j a d f) g
§aB{i j pos}:PE X (.Constant (.int i) j pos) (tC (.int i)):={λ_ _ _ H _ I h=>wpAny_Constant_int {.int i,H,I.tok _,{_,O},h}}
§bW{b j pos}:PE X (.Constant (.bool b) j pos) (tC (.bl b)):={λ_ _ _ H _ I h=>Constant_bool {.bl b,H,I,O,h}}
§dB{j pos}:PE X (.Constant .none j pos) (tC .aR):={λ_ _ _ H _ I h=>Constant_none {.aR,H,I,O,h}}
§aQ{x j pos}:PE X (.Constant (.str x) j pos) (tC (.str x)):={λ_ _ _ H _ I h=>Calls.Constant_str {.str x,H,I.tok _,{_,O},h}}
§Gl(X:Cx)(x:R9):Prop:=X.env.kindOf x=some .globalImplicit
§Dp{E:KE}{pins:#(R0×Obj)}{s:RX}{σ:St}{H:Hp}{x:R9}{u:MD}{pos:Pos}{Q:KE}(I:Inv X pins σ H s)(a:Gl X x)(c:X.mg x=!u)(h:Q u s)(b:(x==("__debug__":R9))=¿:=by decide):wpAny (model X.prog X.w) X.A (eval (.Name x pos) X.env) Q E s :=
 Calls.Name_function_global I.ok.kind a (Calls.loadGlobal_global (by[I.ok.glob];!I.mod.glob.keeps I.bk) c h) b
§iO{E:KE}{pins:#(R0×Obj)}{s:RX}{σ:St}{H:Hp}{x:R9}{u:MD}{pos:Pos}{Q:KE}(I:Inv X pins σ H s)(b:Gl X x)(a:X.mg x=£)(d:bootBuiltins x=!u)(h:Q u s)(hn:x≠"__name__":=by decide)(c:(x==("__debug__":R9))=¿:=by decide):wpAny (model X.prog X.w) X.A (eval (.Name x pos) X.env) Q E s:=by
 @e,h1,h2:=I.mod.blt;!Calls.Name_function_global I.ok.kind b (Calls.loadGlobal_builtin (by[I.ok.glob];!I.mod.glob.keeps I.bk) a (by[I.ok.blt];!h1.keeps I.bk) ((h2 x hn).trans d) h) c
§Co(a:Gl X x)(c:X.mg x=!u)(r:RelV v u)(b:(x==("__debug__":R9))=¿:=by decide):PE X (.Name x pos) (tC v):={λ_ _ _ H _ I h=>Dp I a c {v,H,I,r,h} b}
§pz(a:Gl X x)(b:X.mg x=£)(d:bootBuiltins x=!u)(r:RelV v u)(hn:x≠"__name__":=by decide)(c:(x==("__debug__":R9))=¿:=by decide):PE X (.Name x pos) (tC v):={λ_ _ _ H _ I h=>iO I a b d {v,H,I,r,h} hn c}
variable {a b:Expr}{ta tb:TE}{pos:Pos}
inductive RM(Q:Bool->Hp->¤)(x:V)(H1:Hp):Prop
 |mk(c:_)(_:x=.bl c)(_:Q c H1)
§tB(t:TE):TT:=λσ H Q=>t σ H λx H1=>RM Q x H1
§dA{e:Expr}{t:TE}(h:PE X e t)(c:∀a,isTrue e X.env a=(do let v ←a;standAt e.pos;holding [v] (truthy v)):=by ¢_;rfl):PT X e (tB t):=by
 ?{?_};¢pins s σ H Q I g;?isTrue_plain (bK (h pins s σ H _ I g) λv j ⟨x,H1,b,i,f⟩=>?_) (c _);@d,rfl,q:=f;&i;!wpAny_truthy_bool {H1,b,q}
variable {tA tB':TT}{rest:#Expr}
§MQ(t u:TT):TT:=λσ H Q=>t σ H λc H1=>if c=¶ then u σ H1 Q else Q false H1
§Rw(t u:TT):TT:=λσ H Q=>t σ H λc H1=>if c=¶ then Q true H1 else u σ H1 Q
§QX(t:TT):TT:=λσ H Q=>t σ H λc H1=>Q (not c) H1
§jJ(b:PT X a tA):PW X (.BoolOp .And [a] pos) tA:=by
 ?{?_};¢f pins s σ H Q I h;?isTrue_and (bK (b pins s σ H Q I h) λc d e=>?_)
 cases c with
 |true=>!isTrue_and_nil e
 |false=>!e
§kD(b:PT X a tA):PW X (.BoolOp .Or [a] pos) tA:=by
 ?{?_};¢f pins s σ H Q I h;?isTrue_or (bK (b pins s σ H Q I h) λc d e=>?_)
 cases c with
 |false=>!isTrue_or_nil e
 |true=>!e
§jQ(j:PT X a tA)(i:PW X (.BoolOp .And (b::rest) pos) tB'):PW X (.BoolOp .And (a::b::rest) pos) (MQ tA tB'):=by
 ?{?_};¢g pins s σ H Q I h;?isTrue_and (bK (j pins s σ H _ I h) λc f ⟨H1,d,e⟩=>?_)
 cases c with
 |true=>!i g pins f σ H1 Q d e
 |false=>!{H1,d,e}
§dC(j:PT X a tA)(i:PW X (.BoolOp .Or (b::rest) pos) tB'):PW X (.BoolOp .Or (a::b::rest) pos) (Rw tA tB'):=by
 ?{?_};¢g pins s σ H Q I h;?isTrue_or (bK (j pins s σ H _ I h) λc f ⟨H1,d,e⟩=>?_)
 cases c with
 |true=>!{H1,d,e}
 |false=>!i g pins f σ H1 Q d e
§iz(b:PT X a tA):PT X (.UnaryOp .Not a pos) (QX tA):=by
 ?{?_};¢pins s σ H Q I h;!isTrue_not (b pins s σ H (λc H1=>Q (not c) H1) I h)
inductive DQ(tb:TE)(σ:St)(Q:VK)(x:V)(H1:Hp):Prop
 |mk(c:_)(_:x=.bl c)(_:if c=¶ then tb σ H1 Q else Q (.bl false) H1)
§KW(ta tb:TE):TE:=λσ H Q=>ta σ H λx H1=>DQ tb σ Q x H1
inductive JL(tb:TE)(σ:St)(Q:VK)(x:V)(H1:Hp):Prop
 |mk(c:_)(_:x=.bl c)(_:if c=¶ then Q (.bl true) H1 else tb σ H1 Q)
§Q1(ta tb:TE):TE:=λσ H Q=>ta σ H λx H1=>JL tb σ Q x H1
§Lg{op}(h:PE X a t):PE X (.BoolOp op [a] pos) t:={λpins s σ H Q I b=>BoolOp_one (h pins s σ H Q I b)}
§CL(j:PE X a ta)(g:PE X (.BoolOp .And (b::rest) pos) tb):PE X (.BoolOp .And (a::b::rest) pos) (KW ta tb):=by
 ?{?_};¢pins s σ H Q I h;?BoolOp_and (bK (j pins s σ H _ I h) λv f ⟨x,H1,e,i,d⟩=>?_);@c,rfl,d:=d;&i;?wpAny_truthy_bool ?_
 cases c with
 |true=>!g pins f σ H1 Q e d
 |false=>!{.bl false,H1,e,O,d}
§HX(j:PE X a ta)(g:PE X (.BoolOp .Or (b::rest) pos) tb):PE X (.BoolOp .Or (a::b::rest) pos) (Q1 ta tb):=by
 ?{?_};¢pins s σ H Q I h;?BoolOp_or (bK (j pins s σ H _ I h) λv f ⟨x,H1,e,i,d⟩=>?_);@c,rfl,d:=d;&i;?wpAny_truthy_bool ?_
 cases c with
 |false=>!g pins f σ H1 Q e d
 |true=>!{.bl true,H1,e,O,d}
§Rq(t:TT)(ta tb:TE):TE:=λσ H Q=>t σ H λc H1=>if c=¶ then ta σ H1 Q else tb σ H1 Q
§rE(j:PT X c tA)(k:PE X a ta)(i:PE X b tb):PE X (.IfExp c a b pos) (Rq tA ta tb):=by
 ?{?_};¢pins s σ H Q I h;?wpAny_IfExp (bK (j pins s σ H _ I h) λd e ⟨H1,f,g⟩=>?_)
 cases d with
 |true=>!k pins e σ H1 Q f g
 |false=>!i pins e σ H1 Q f g
end
§aA(H:Hp)(a:R0)(xs:#V):Prop :=
 Rd H a (.lst xs)
§aZ(H:Hp)(a:R0)(xs:#V):Prop :=
 Rd H a (.tup xs)
§md:MD->Option V
 |.none=>some .aR
 |.bool b=>!(.bl b)
 |.int i _=>!(.int i)
 |.str x _=>!(.str x)
 |.bytes b _=>!(.pA b)
 |.float b _=>!(.Fx b)
 |.ref a=>!(.ref a)
 |.type n=>!(.ty n)
 |_=>none
§RelV.abs(r:RelV x u):md u=!x:=by
 cases x with
 |aR=>cases r;rfl
 |bl _=>cases r;rfl
 |int _=>@t,rfl:=r;rfl
 |str _=>@t,rfl:=r;rfl
 |pA _=>@t,rfl:=r;rfl
 |Fx _=>@t,rfl:=r;rfl
 |ref _=>cases r;rfl
 |ty _=>cases r;rfl
theorem RelV.inj(r:RelV x u)(q:RelV y u):x=y:=qJ (r.abs.symm.trans q.abs)
theorem aK.inj:∀{xs ys:#V} {us:#MD},aK xs us->aK ys us->xs=ys
 |_,_,_,.nil,.nil=>rfl
 |_,_,_,.cons r t,.cons r' t'=>by[r.inj r',aK.inj t t']
section
variable {X:Cx}{pins:#(R0×Obj)}{σ:St}{H:Hp}{s:RX}{a:R0}{xs ys:#V}
§aA.of(h:H a=!(.lst xs)):aA H a xs:=.inl h
§aZ.of(h:H a=!(.tup xs)):aZ H a xs:=.inl h
§Inv.list(I:Inv X pins σ H s)(h:aA H a xs):∃its:#MD,aK xs its/\PlainL s.heap a its.toArray/\xs.length<=sizeLine:=by
 @z,its,n,r,e:=Rd.ok h I.aS;!{its,r,{_,n,e,O,O,O},z}
§Inv.tuple(I:Inv X pins σ H s)(h:aZ H a xs):∃its:#MD,aK xs its/\IsTup s.heap a its.toArray/\xs.length<=sizeLine:=by
 @z,its,r,p:=Rd.ok h I.aS;!{its,r,p,z}
§Inv.lE(I:Inv X pins σ H s)(h:aA H a xs)(h':aA H a ys):xs=ys:=by
 @its,r,⟨o,n,e,_,_,d⟩,_:=I.list h;@its',c,⟨o',n',b,_,_,d'⟩,_:=I.list h';[e]at b;&b;[d]at d';injection d' with d1 _
 #:its=its':=by ±congrArg Array.toList d1
 £this;!r.inj c
end
abbrev Cx.ir(X:Cx)(E:KE):Cx:={ X with xe:=E }
abbrev Cx.vD(X:Cx):Cx:=X.ir λ_ _=>False
theorem Cx.Ok.ir{X:Cx}(ok:X.Ok)(E:KE):(X.ir E).Ok :=
 {ok.mod,ok.kind,ok.glob,ok.blt,ok.above,ok.inj,ok.has,ok.yG,ok.hd,ok.frames,ok.LP,ok.Rj,ok.bs,ok.uL,ok.rO,ok.vT,ok.eh,ok.vI}
§Cx.Ok.d6{X:Cx}{E:KE}(ok:(X.ir E).Ok):X.Ok :=
 {ok.mod,ok.kind,ok.glob,ok.blt,ok.above,ok.inj,ok.has,ok.yG,ok.hd,ok.frames,ok.LP,ok.Rj,ok.bs,ok.uL,ok.rO,ok.vT,ok.eh,ok.vI}
section
variable {X:Cx}{pins:#(R0×Obj)}{σ:St}{H:Hp}{s:RX}{E:KE}
theorem Inv.ir(I:Inv X pins σ H s)(E:KE):Inv (X.ir E) pins σ H s:={I.ok.ir E,I.os,I.bare,I.base,I.loc,I.cell,I.free,I.dr,I.pin,I.aS,I.len}
theorem Inv.d6(I:Inv (X.ir E) pins σ H s):Inv X pins σ H s:={I.ok.d6,I.os,I.bare,I.base,I.loc,I.cell,I.free,I.dr,I.pin,I.aS,I.len}
theorem SP.d6(h:SP (X.ir E) pins D f s'):SP X pins D f s':=by
 cases f with
 |next=>@σ',H',I,q:=h;!{σ',H',I.d6,q}
 |brk=>@σ',H',I,q:=h;!{σ',H',I.d6,q}
 |cont=>@σ',H',I,q:=h;!{σ',H',I.d6,q}
 |ret u=>@v,σ',H',I,r,q:=h;!{v,σ',H',I.d6,r,q}
theorem ig.vD{st:#Stmt}{t:TS}(h:ig X.vD st t):ig X st t:={λpins s σ H D I a =>
 qM (h pins s σ H D (I.ir _) a) (λ_ _ q=>q.d6) λ_ _ z=>False.elim z}
end
section
variable {X:Cx}{st:Stmt}{rest:#Stmt}{t u:TS}{e:Expr}{te:TE}{pos:Pos}
§HR:TS:=λD σ H=>D.nx σ H
§mW(t u:TS):TS:=λD σ H=>t { D with nx:=u D } σ H
§cc:ig X [] HR:={λ_ _ σ H _ I h=>wpAny_execs_nil {σ,H,I,h}}
§aj(h1:PS X st t)(h2:ig X rest u):ig X (st::rest) (mW t u):=by
 ?{?_};¢pins s σ H D I h;?wpAny_execs_cons (bK (h1 pins s σ H { D with nx:=u D } I h) λf b q=>?_)
 cases f with
 |next =>
  @σ',H',a,q:=q;!h2 pins b σ' H' D a q
 |ret v=>!q
 |brk=>!q
 |cont=>!q
§aE(h1:PS X st t):ig X [st] t:=by
 ?{?_};¢pins s σ H D I h;?wpAny_execs_cons (bK (h1 pins s σ H D I h) λf a q=>?_)
 cases f with
 |next=>!wpAny_execs_nil q
 |ret v=>!q
 |brk=>!q
 |cont=>!q
§Inv.quiet{pins:#(R0×Obj)}{σ:St}{H:Hp}{s:RX}(I:Inv X pins σ H s):interactive X.env=¿:=by simp[interactive,I.ok.kind]
§zM(te:TE):TS:=λD σ H=>te σ H λ_ H1=>D.nx σ H1
§mX(b:PE X e te)(d:swapsWith e none pos.line X.env=pure false:=by rfl):PS X (.Expr e pos) (zM te):=by
 ?{?_};¢pins s σ H D I h;!wpAny_Expr_any (bK (b pins s σ H _ I h) λv f ⟨x,H1,a,g,c⟩=>{σ,H1,a,c}) I.quiet d
§NO(te:TE):TS:=λD σ H=>te σ H D.rt
§aO(b:PE X e te):PS X (.Return (!e) pos) (NO te):=by
 ?{?_};¢pins s σ H D I h;!wpAny_Return_some (bK (b pins s σ H _ I h) λv f ⟨x,H1,a,d,c⟩=>{x,σ,H1,a,d,c})
§Pe(c:TT)(t u:TS):TS:=λD σ H=>c σ H λb H1=>if b=¶ then t D σ H1 else u D σ H1
§bA(j:PT X c tc)(k:ig X a t)(i:ig X b u):PS X (.If c a b pos) (Pe tc t u):=by
 ?{?_};¢pins s σ H D I h;?wpAny_If (bK (j pins s σ H _ I h) λd e ⟨H1,f,g⟩=>?_)
 cases d with
 |true=>!k pins e σ H1 D f g
 |false=>!i pins e σ H1 D f g
end
abbrev TG:=V->St->Hp->(St->Hp->¤)->¤
abbrev Fu:=#V->St->Hp->(St->Hp->¤)->¤
§Rg(X:Cx)(a:Expr)(t:TG):Prop :=
 ∀(pins:#(R0×Obj)) (s:RX) (σ:St) (H:Hp) (v:V) (u:MD) (Q:St->Hp->¤),Inv X pins σ H s->RelV v u->t v σ H Q->
  wpAny (model X.prog X.w) X.A (assign a X.env u) (λ_ s'=>∃σ' H',Inv X pins σ' H' s'/\Q σ' H') X.xe s
structure PG(X:Cx)(target:Expr)(t:TG):Prop where run:Rg X target t
instance RJ{X:Cx}{a:Expr}{t:TG}:CoeFun (PG X a t) λ_=>Rg X a t:={PG.run}
§II(X:Cx)(ts:#Expr)(t:Fu):Prop :=
 ∀(pins:#(R0×Obj)) (s:RX) (σ:St) (H:Hp) (vs:#V) (us:#MD) (Q:St->Hp->¤),Inv X pins σ H s->aK vs us->t vs σ H Q->
  wpAny (model X.prog X.w) X.A (assignInOrder ((assignEach ts X.env).map (·.2)) us) (λ_ s'=>∃σ' H',Inv X pins σ' H' s'/\Q σ' H') X.xe s
structure DR(X:Cx)(ts:#Expr)(t:Fu):Prop where run:II X ts t
instance Rc{X:Cx}{ts:#Expr}{t:Fu}:CoeFun (DR X ts t) λ_=>II X ts t:={DR.run}
abbrev Bc:=V->V->V->Hp->(Hp->¤)->¤
§G4(X:Cx)(t:Bc):Prop :=
 ∀(pins:#(R0×Obj)) (s:RX) (σ:St) (H:Hp) (o i v:V) (b a u:MD) (Q:Hp->¤),Inv X pins σ H s->RelV o b->RelV i a->RelV v u->t o i v H Q->
  wpAny (model X.prog X.w) X.A (setItem b a u) (λ_ s'=>∃H',Inv X pins σ H' s'/\Q H') X.xe s
section
variable {X:Cx}{pos:Pos}
§cL(i:Nat):TG:=λv σ H Q=>Q (σ.set i (!v)) H
§cN(c:X.N.Nodup)(hi:X.N[i]?=!x)(d:Loc X.env.scope x)(b:X.fn x=¶\/X.env.scope.names.lookup x=some .local:=by first|exact .inl rfl|exact .inr rfl|assumption):PG X (.Name x pos) (cL i):=by
 ?{?_};¢pins s σ H v u Q I r h;!wpAny_assign_Name (F' I c hi d r (λs' a=>{_,H,a,h}) b)
§Fo:Fu:=λvs σ H Q=>vs=[]/\Q σ H
inductive i0(t:TG)(u:Fu)(vs:#V)(σ:St)(H:Hp)(Q:St->Hp->¤):Prop
 |mk(v r:_)(_:vs=v::r)(_:t v σ H λσ' H'=>u r σ' H' Q)
§g_:DR X [] Fo:=by
 ?{?_};¢pins s σ H vs us Q I r h;@e,h:=h;£e;&r;!assignInOrder_nil {σ,H,I,h}
§de{es:#Expr}(h1:PG X e t)(h2:DR X es u)(g:(assignEach (e::es) X.env).map (·.2)=assign e X.env::(assignEach es X.env).map (·.2):=by rfl):DR X (e::es) (i0 t u):=by
 ?{?_};¢pins s σ H vs us Q I r h;@v,j,i,h:=h;£i
 cases r with
 |cons r d =>
  [g];?assignInOrder_cons (bK (h1 pins s σ H _ _ _ I r h) λ_ b ⟨a,H1,c,f⟩=>?_);!h2 pins b a H1 _ _ Q c d f
inductive uZ(n:Nat)(t:Fu)(v:V)(σ:St)(H:Hp)(Q:St->Hp->¤):Prop
 |mk(a xs:_)(_:v=.ref a)(_:aZ H a xs)(_:xs.length=n)(_:t xs σ H Q)
§jP{es:#Expr}(p:X.calm=¶)(h:DR X es t)(hn:(assignEach es X.env).length=n:=by rfl)(c:(assignEach es X.env).findIdx? (·.1)=£:=by rfl):PG X (.Tuple es k pos) (uZ n t):=by
 ?{?_};¢pins s σ H v u Q I r d;@a,xs,q,m,i,d:=d;£q;&r;@its,f,l,hz:=I.tuple m;?assign_Tuple_tuple (I.ok.hd p) l (by simp[hn,←i,f.length]) c λh' j=>?_;#g:Inv X pins σ H { s with heap:=h' }:=I.kept (t':=s.toks) λb o e=>j b o (qp (qG e)) e;!h pins _ σ H xs _ Q g (by ±f) d
§Ms(to b:TE)(t:Bc):TG:=λv σ H Q=>to σ H λo H1=>b σ H1 λi H2=>t o i v H2 λa=>Q σ a
§Ku{o i:Expr}{to c:TE}{t:Bc}(d:PE X o to)(hi:PE X i c)(q:G4 X t)(k:∀v,assign (.Subscript o i pos) X.env v=(do
   let a ←holding [v] (eval o X.env)
   let b ←holding [v,a] (eval i X.env)
   standAt pos
   holding [v,a,b] (setItem a b v)
   release [v,a,b] []):=by ¢_;rfl):PG X (.Subscript o i pos) (Ms to c t):=by
 ?{?_};¢pins s σ H v u Q I r h;[k];?qA (qK (bK (d pins s σ H _ I h) λa e ⟨x,H1,g,m,l⟩=>?_));?qA (qK (bK (hi pins e σ H1 _ g l) λb s2 ⟨y,H2,p,j,n⟩=>?_));?qA (wpAny_standAt (qA (qK (bK (q pins s2 σ H2 x y v a b u _ p m j r n) λ_ A ⟨f,w,z⟩=>?_))));!wpAny_release {σ,f,w,z}
§uj(te:TE)(g:TG):TS:=λD σ H=>te σ H λx H1=>g x σ H1 D.nx
§EU{tg e:Expr}{te:TE}{g:TG}(c:PE X e te)(k:PG X tg g)(i:swapsWithSole [tg] e pos.line X.env=pure false:=by rfl)(f:swappedStores [tg] e X.env=pure none:=by rfl)(h1:(assignEach [tg] X.env).map (·.2)=[assign tg X.env]:=by rfl):PS X (.Assign [tg] e pos) (uj te g):=by
 ?{?_};¢pins s σ H D I h;?wpAny_Assign_stores (bK (c pins s σ H _ I h) λv a ⟨x,H1,b,j,d⟩=>?_) i f;[h1];!bK (k pins a σ H1 x v _ b j d) λ_ s2 q=>q
§KL(l:X.N.Nodup)(hi:X.N[i]?=!x)(c:Loc X.env.scope x)(d:PE X e te)(g:swapsWith e (!(.Name x pos')) pos.line X.env=pure false:=by rfl)(a:X.fn x=¶\/X.env.scope.names.lookup x=some .local:=by first|exact .inl rfl|exact .inr rfl|assumption) :
  PS X (.Assign [.Name x pos'] e pos) (uj te (cL i)):=by
 ?{?_};¢pins s σ H D I h;?wpAny_Assign_Name (bK (d pins s σ H _ I h) λv m ⟨y,H1,b,k,f⟩=>?_) g;!F' b l hi c k (λs2 j=>{_,H1,j,f}) a
end
section
variable {X:Cx}{pos:Pos}
§Af(c:TT)(tb:TS):TS:=λD σ H=>∃W:Nat->St->Hp->¤,(∃m,W m σ H)/\∀m σ H,W m σ H->
 c σ H λb H1=>if b=¶ then ∃N:St->Hp->¤,(∀σ' H',N σ' H'->∃a,a<m/\W a σ' H')/\tb { D with nx:=N,ct:=N,bk:=D.nx } σ H1 else D.nx σ H1
§p9(hp:PassesOwn (model X.prog X.w) X.A X.env X.xe)(C:PT X c tc)(B:ig X e tb):PS X (.While c e [] pos) (Af tc tb):=by
 ?{?_};¢pins s σ H D I h;@W,⟨x,u⟩,turn:=h;?wpAny_While (codeAny_whileLoop (λn s'=>∃σ' H',Inv X pins σ' H' s'/\W n σ' H') ?_ x {σ,H,I,u});rintro n z ⟨d,H1,t,y⟩;?wpAny_passesOwn hp (bK (C pins z d H1 _ t (turn n d H1 y)) λb s2 ⟨H2,r,i⟩=>?_)
 cases b with
 |true =>
  @N,q,i:=i;[qF rfl];?wpAny_passesOwn hp (bK (B pins s2 d H2 _ r i) λf E j=>?_)
  cases f with
  |next =>
   @a,g,l,p:=j;@k,o,m:=q a g p;!{k,o,a,g,l,m}
  |cont =>
   @a,g,l,p:=j;@k,o,m:=q a g p;!{k,o,a,g,l,m}
  |brk=>!j
  |ret v=>!j
 |false =>
  [qB qr];!wpAny_execs_nil {d,H2,r,i}
end
structure It where
 go:Nat->Hp->¤
 xD:Nat->Hp->V->Hp->¤
 stop:Nat->Hp->¤
§fj(X:Cx)(pins:#(R0×Obj))(H:Hp)(b:R0):Prop :=
 H b=£/\b≠X.env.locals/\b∉X.fs/\(b∈X.ex\/X.s₀.heap.objs.size<=b)/\(∀x c,X.env.cells.lookup x=!c->c≠b)/\∀p∈X.pn++pins,p.1≠b
§Inv.kY{X:Cx}{pins:#(R0×Obj)}{σ:St}{H H':Hp}{s:RX}{b:R0}(I:Inv X pins σ H s)(a:↑s<=b)(hn:H' b=£):fj X pins H' b:=by
 ?{hn,zu (zf I.lt a),I.vF a,.inr (qg I.sz a),λx c e z=>?_,λp hp z=>?_}
 .@v,q:=I.cell x c e
  !absurd (zf q.lt (by[z];!a)) (wu _)
 .!absurd (zf (qG (I.pin p hp).1) (by[z];!a)) (wu _)
structure Turn(P:Program)(w:World)(K:PySem.W.Frag)(tg:Expr)(J:It)(fp:#R0)(it:R0)(tn:Nat->Heap->¤):Prop where
 mem:it∈fp
 obj:∀i h,tn i h->∀b∈fp,∃o,h.get? b=!o/\∀v,o.data≠.cell v
 keep:∀i h h',tn i h->(∀b∈fp,∀o,h.get? b=!o->h'.get? b=!o)->tn i h'
 item:∀(X:Cx),X.prog=P->X.w=w->X.K=K->X.calm=¶->∀(i:Nat) (pins:#(R0×Obj)) (s:RX) (σ:St) (H:Hp) (E:KE),Inv X pins σ H s->(∀b∈fp,fj X pins H b)->tn i s.heap->J.go i H->
  wpAny (model P w) X.A (pyNext (.ref it)) (λr s1=>∃u,r=some u ∧
   wpAny (model P w) X.A (letOwnedTupleGo tg (.ref it) u) (λ_ s2=>∃x H',Inv X pins σ H' s2/\RelV x u/\J.xD i H x H'/\tn (i+1) s2.heap/\∀b∈fp,H' b=£) E s1) E s
 done:∀(X:Cx),X.prog=P->X.w=w->X.K=K->X.calm=¶->∀(i:Nat) (pins:#(R0×Obj)) (s:RX) (σ:St) (H:Hp) (E:KE),Inv X pins σ H s->(∀b∈fp,fj X pins H b)->tn i s.heap->J.stop i H->
  wpAny (model P w) X.A (pyNext (.ref it)) (λr s1=>r=£/\Inv X pins σ H s1) E s
 self:∀(A:Around) (i:Nat) (s:RX) (Q:KE) (E:KE),tn i s.heap->Q (.ref it) s->wpAny (model P w) A (pyIter (.ref it)) Q E s
abbrev TI:=St->Hp->(It->Hp->¤)->¤
§LK(X:Cx)(pins:#(R0×Obj))(σ:St)(tg:Expr)(R:It->Hp->¤)(a:MD)(s2:RX):Prop :=
 ∃(it:R0) (c:#R0) (d:Nat->Heap->¤) (J:It) (H':Hp),a=.ref it/\Inv X pins σ H' s2/\Turn X.prog X.w X.K tg J c it d/\d 0 s2.heap/\(∀b∈c,fj X pins H' b)/\R J H'
§Rm(X:Cx)(tg a:Expr)(c:TI):Prop :=
 ∀(pins:#(R0×Obj)) (s:RX) (σ:St) (H:Hp) (R:It->Hp->¤),Inv X pins σ H s->c σ H R->
  wpAny (model X.prog X.w) X.A (eval a X.env) (λv b=>wpAny (model X.prog X.w) X.A (pyIter v) (LK X pins σ tg R) X.xe b) X.xe s
structure PI(X:Cx)(tg iter:Expr)(wi:TI):Prop where run:Rm X tg iter wi
instance RT{X:Cx}{tg a:Expr}{b:TI}:CoeFun (PI X tg a b) λ_=>Rm X tg a b:={PI.run}
§nG{A:Around}(b:s.heap.get? it=!o)(d:o.cls=.type n)(c:o.data=.fields vs)(hn:["enumerate","zip","dict_itemiterator","dict_reverseitemiterator","odict_iterator","itertools.zip_longest","itertools.pairwise"].contains n=¿)(a:Q Unit.unit s):wpAny M A (letOwnedTupleGo tg (.ref it) u) Q E s:=by
 ¶letOwnedTupleGo
 &tg <;> first
  |!qE a
  | (cases u <;> first
    |!qE a
    | (?qA (wpAny_load b ?_)
       [d,c];¤wpAny M A (if(["enumerate","zip","dict_itemiterator","dict_reverseitemiterator","odict_iterator","itertools.zip_longest","itertools.pairwise"].contains n&&vs[0]?==!(rawInt _))=¶ then _ else _) Q E s;[qB (by ¢h;[hn,Bool.false_and]at h;&h)]
       !qE a))
§FJ(a:R0):It :=
 {λi H=>∃xs x,aA H a xs/\xs[i]?=!x,λi H x H'=>H'=H/\∀xs,aA H a xs->xs[i]?=!x,λi H=>∃xs,aA H a xs/\xs.length<=i}
§FF(lo:Int)(n:Nat):It:={λi _=>i<n,λi H x H'=>H'=H/\x=.int (lo+i),λi _=>n<=i}
§Mn{P:Program}{w:World}{K:PySem.W.Frag}{tg:Expr}(a it:R0):Turn P w K tg (FJ a) [it] it (λi h=>h.IsListIter it a i) where
 mem:=by simp
 obj:=λi h st b f=>by
  #e:b=it:=by ±f
  £e;@o,e,c,d:=st;!{o,e,λv z=>by[d]at z;&z}
 keep:=λi h h' st k=>st.at λo e=>k it (by simp) o e
 item:=by
  ¢X A n C G i pins s σ H E I j st y;subst A n C;@xs,x,l,t:=y;@its,r,p,hz:=I.list l;@u,M,R:=r.get t;@F,m,L,q,D,B:=j it (by simp);?wpAny_pyNext_list_item st p.isList (x:=u) (by ±M) λh' g S=>?_;#J:Inv X pins σ H { s with heap:=h' }:=I.turned (t':=s.toks) (λb o f e=>(S.2 b f).trans e) F m q D B;@o,e,c,d:=id g;!{u,O,nG (s:={ s with heap:=h' }) e c d ⋯ {x,H,J,R,{O,λys Q=>by[I.lE Q l];!t},g,λb f=>(j b f).1}}
 done:=by
  ¢X A n C G i pins s σ H E I j st y;subst A n C;@xs,l,t:=y;@its,r,p,hz:=I.list l;@F,m,L,q,D,B:=j it (by simp);#T:=r.length;!wpAny_pyNext_list_end (I.ok.hd G) st p.isList (by simp;¥) λh' N=>{O,I.turned (t':=s.toks) (λb o f e=>N b o f e) F m q D B}
 self:=λ_ _ _ _ _ st h=>wpAny_pyIter_listiter st h
§PR{P:Program}{w:World}{K:PySem.W.Frag}{tg:Expr}(it:R0)(lo:Int)(n:Nat):Turn P w K tg (FF lo n) [it] it (λi h=>IsRangeIter h it (lo+(i:Nat) * 1) ((n:Int) - (i:Nat)) 1) where
 mem:=by simp
 obj:=λi h st b a=>by
  #e:b=it:=by ±a
  £e
  !{_,st,λv z=>by
   #B:Data.fields _=Data.cell v:=z
   &B}
 keep:=λi h h' st k=>k it (by simp) _ st
 item:=by
  ¢X m g q x i pins s σ H E I d st l;subst m g q;@u,f,A,j,r,p:=d it (by simp);#W:=Walks.range (prog:=X.prog) (w:=X.w) (I.ok.hd x) it lo 1 n;?W.item i s _ _ l st λv h' tk D c C=>?_;@t,rfl:=D;#y:Inv X pins σ H { s with heap:=h',toks:=tk }:=I.turned (λb o a e=>C b o (by ±a) e) u f j r p;?{_,O,nG (s:={ s with heap:=h',toks:=tk }) (n:="range_iterator") c rfl rfl ⋯ {.int (lo+i),H,y,{t,?_},{O,O},c,λb a=>(d b a).1}};[Int.mul_one]
 done:=by
  ¢X m g q x i pins s σ H E I d st l;subst m g q;@u,f,A,j,r,p:=d it (by simp);!wpAny_pyNext_range_end (I.ok.hd x) st (by #:n<=i:=l;¥) λh' F=>{O,I.turned (t':=s.toks) (λb o a e=>F b o a e) u f j r p}
 self:=λ_ _ _ _ _ st h=>wpAny_pyIter_rangeiter st h
section
variable {X:Cx}{tg:Expr}
inductive AW(R:It->Hp->¤)(x:V)(H1:Hp):Prop
 |mk(a:_)(_:x=.ref a)(_:(∃xs,aA H1 a xs))(_:R (FJ a) H1)
§xU(tl:TE):TI:=λσ H R=>tl σ H λx H1=>AW R x H1
§NQ{tl:TE}(f:PE X l tl):PI X tg l (xU tl):=by
 ?{?_};¢pins s σ H R I h;?bK (f pins s σ H _ I h) λv c ⟨x,H1,d,k,i⟩=>?_;@a,e,⟨xs,j⟩,q:=i;£e;&k;@its,m,p,hz:=d.list j;?wpAny_pyIter_list p.isList ?_;?{↑c,[↑c],_,_,H1,O,d.kept (t':=c.toks) λb o e=>qH _ e,Mn a _,{_,qL _ rfl,O,O},λb g=>?_,q}
 #e:b=↑c:=by ±g
 £e;!d.kY (qe _) (d.aS.fresh (qe _))
§Nc{pins:#(R0×Obj)}{σ:St}{H:Hp}{s:RX}{R:It->Hp->¤}{E:KE}{lo hi:Int}{t u v:Tok}{tk:Nat}(I:Inv X pins σ H s)(h1:-(2 ^ 62)<=lo)(h2:lo<2 ^ 62)(c:-(2 ^ 62)<=hi)(g:hi<2 ^ 62)(q:R (FF lo (hi - lo).toNat) H):wpAny (model X.prog X.w) X.A (pyIter (.ref ↑s)) (LK X pins σ tg R) E { s with heap:=s.heap.push { cls:=.type "range",data:=.fields #[.int lo t,.int hi u,.int 1 v] },toks:=tk }:=by
 ?wpAny_pyIter_range (IsRange.new ..) (small_one h1 h2 c g) ?_;#a:Inv X pins σ H { s with heap:=s.heap.push { cls:=.type "range",data:=.fields #[.int lo t,.int hi u,.int 1 v] },toks:=tk }:=I.kept λb o e=>qH _ e
 ?{(s.heap.push { cls:=.type "range",data:=.fields #[.int lo t,.int hi u,.int 1 v] }).objs.size,[(s.heap.push { cls:=.type "range",data:=.fields #[.int lo t,.int hi u,.int 1 v] }).objs.size],_,_,H,O,
  a.kept (t':=tk) λb o e=>qH _ e,PR _ lo (hi - lo).toNat,?_,λb f=>?_,q}
 .#h:lo+((0:Nat):Int) * 1=lo:=by simp
  #d:(((hi - lo).toNat:Nat):Int) - ((0:Nat):Int)=Builtin.Range.rangeSize lo hi 1:=by[rangeSize_one];split <;> ¥
  ¤IsRangeIter _ _ (lo+((0:Nat):Int) * 1) ((((hi - lo).toNat:Nat):Int) - ((0:Nat):Int)) 1;[h,d];!qL _ rfl
 .#e:b=(s.heap.push { cls:=.type "range",data:=.fields #[.int lo t,.int hi u,.int 1 v] }).objs.size:=by ±f
  £e;!a.kY (qe _) (a.aS.fresh (qe _))
inductive EL(R:It->Hp->¤)(vs:#V)(H1:Hp):Prop
 |mk(j:Int)(_:vs=[.int j])(_:-(2 ^ 62)<=j)(_:j<2 ^ 62)(_:R (FF 0 j.toNat) H1)
§KQ(ta:TA):TI:=λσ H R=>ta σ H λvs H1=>EL R vs H1
§lG(l:Gl X "range")(i:X.mg "range"=£)(m:PA X [a] ta)(k:starEach [a] X.env=[(false,eval a X.env)]:=by rfl):PI X tg (.Call (.Name "range" p) [a] [] pos) (KQ ta):=by
 ?{?_};¢pins s σ H R I h;?Call_ (iO I l i boot_range (PyProof.Rows.callWith_type1 (bK (m pos pins s σ H _ I h) λus n ⟨vs,H1,c,f,b⟩=>?_) k rfl));@j,e,b,g,q:=b;£e
 cases f with
 |cons r d =>
  &d;@t,rfl:=r;!call_range_1 (Nc c () () b g (by ±q))
§En(c:TI)(g:TG)(tb:TS):TS:=λD σ H=>c σ H λJ H1=>∃W:Nat->Nat->St->Hp->¤,(∃m,W 0 m σ H1)/\∀i m σ H,W i m σ H->
 (J.stop i H/\D.nx σ H)\/(J.go i H/\∃N:St->Hp->¤,(∀σ' H',N σ' H'->∃b,b<m/\W (i+1) b σ' H')/\∀x H',J.xD i H x H'->g x σ H' λa H2=>tb { D with nx:=N,ct:=N,bk:=D.nx } a H2)
§d8(a:#R0)(h:Heap):#(R0×Obj):=a.filterMap λb=>(h.get? b).map λo=>(b,o)
§C3{a:#R0}{h:Heap}{b:R0}{o:Obj}(c:b∈a)(e:h.get? b=!o):(b,o)∈d8 a h:=jo.mpr {b,c,by[e];rfl}
§Hx{a:#R0}{h:Heap}{p:R0×Obj}(hp:p∈d8 a h):p.1∈a/\h.get? p.1=!p.2:=by
 @b,d,e:=jo.mp hp
 cases q:h.get? b with
 |none=>rw[q]at e;&e
 |some o =>
  [q]at e;#c:(b,o)=p:=qJ e;£c;!{d,q}
§Inv.pinned{pins:#(R0×Obj)}{σ:St}{H:Hp}{s:RX}{a:#R0}(I:Inv X pins σ H s)(h:∀b∈a,fj X pins H b)(g:∀b∈a,∃o,s.heap.get? b=!o/\∀v,o.data≠.cell v):Inv X (pins++d8 a s.heap) σ H s :=
 I.gL λp hp=>(zh.mp hp).elim (λz=>I.pin p (zy _ z)) λz=>by
  @c,e:=Hx z;@k,i,j,_:=h p.1 c;@o,f,d:=g p.1 c;[e]at f;&f;!{e,k,i,j,d}
§Inv.fv{pins a:#(R0×Obj)}{σ:St}{H:Hp}{s:RX}(I:Inv X (pins++a) σ H s):Inv X pins σ H s:=I.gL λp hp=>I.pin p (zy _ (wg _ hp))
§Es{g:TG}(hp:PassesOwn (model X.prog X.w) X.A X.env X.xe)(hc:X.calm=¶)(hi:PI X tg q Y)(hg:PG X tg g)(l:ig X t tb)(hs:∀x,foldedSetIterable q X.env x=pure x:=by ¢_;rfl):PS X (.For tg q t [] pos) (En Y g tb):=by
 ?{?_};¢pins s σ H D I h;?wpAny_For (bK (hi pins s σ H _ I h) λv s1 h1=>bK h1 λitv s2 h2=>?_) hs;@it,C,U,J,H2,e,I2,T,K,R,W,⟨m0,w0⟩,turn:=h2;£e;#c:∀{H':Hp},(∀b∈C,H' b=£)->∀b∈C,fj X pins H' b:=λhn b l=>{hn b l,(R b l).2};?codeAny_forLoop_any (λn s'=>∃i σ' H',Inv X pins σ' H' s'/\U i s'.heap/\(∀b∈C,H' b=£)/\W i n σ' H') ?_ m0 {0,σ,H2,I2,K,λb l=>(R b l).1,w0};rintro n s3 ⟨i,j,G,V,B,F,w3⟩;@⟨stop,qn⟩|⟨go,N,hN,step⟩:=turn i n j G w3
 .?wpAny_passesOwn hp (bK (T.done X rfl rfl rfl hc i pins s3 j G X.xe V (c F) B stop) λr s4 ⟨L,I4⟩=>?_)
  £L;!wpAny_execs_nil {j,G,I4,qn}
 .?wpAny_passesOwn hp (bK (T.item X rfl rfl rfl hc i pins s3 j G X.xe V (c F) B go) λr s4 ⟨u,L,h4⟩=>?_)
  £L;?wpAny_passesOwn hp (bK h4 λ_ Z ⟨x,S,I5,r5,y5,z,O⟩=>?_);#Q:=I5.pinned (c O) (T.obj _ _ z);?wpAny_passesOwn hp (bK (hg _ Z j S x u _ Q r5 (step x S y5)) λ_ s6 ⟨M,H6,I6,q6⟩=>?_);?wpAny_passesOwn hp (bK (l _ s6 M H6 _ I6 q6) λf P y=>?_)
  #again:∀{a:St} {p:Hp},Inv X (pins++d8 C Z.heap) a p P->N a p->∃m,m<n/\∃i σ' H',Inv X pins σ' H' P/\U i P.heap/\(∀b∈C,H' b=£)/\W i m σ' H':=λ{a p} k E=>by
   @m',hm,w7:=hN a p E;?{m',hm,i+1,a,p,k.fv,T.keep _ _ _ z λb l o e=>(k.pin (b,o) (zy _ (zy _ (C3 l e)))).1,λb l=>?_,w7};@o,e,d:=T.obj _ _ z b l;!(k.pin (b,o) (zy _ (zy _ (C3 l e)))).2.1
  cases f with
  |next=>@a,p,k,E:=y;!again k E
  |cont=>@a,p,k,E:=y;!again k E
  |brk=>@a,p,k,y:=y;!{a,p,k.fv,y}
  |ret v=>@x7,a,p,k,r7,y:=y;!{x7,a,p,k.fv,r7,y}
end
§eH{a:R0}{xs:#V}{g:TG}{tb:TS}{D:Ends}{σ:St}{H:Hp}(b:Nat->St->Hp->¤)(h0:b 0 σ H)(h:∀i σ H,i<=xs.length->b i σ H->aA H a xs)(j:∀i x σ H,xs[i]?=!x->b i σ H->g x σ H λc H2=>tb { D with nx:=b (i+1),ct:=b (i+1),bk:=D.nx } c H2)(l:∀σ H,b xs.length σ H->D.nx σ H) :
  ∃W:Nat->Nat->St->Hp->¤,(∃m,W 0 m σ H)/\∀i m σ H,W i m σ H->
   ((FJ a).stop i H/\D.nx σ H)\/((FJ a).go i H/\∃N:St->Hp->¤,(∀σ' H',N σ' H'->∃f,f<m/\W (i+1) f σ' H')/\∀x H',(FJ a).xD i H x H'->g x σ H' λc H2=>tb { D with nx:=N,ct:=N,bk:=D.nx } c H2):=by
 ?{λi m σ H=>m=xs.length - i/\i<=xs.length/\b i σ H,{xs.length,by simp,Nat.zero_le _,h0},?_};rintro i m σ H ⟨rfl,hi,p⟩;#q:=h i σ H hi p
 ¿d:i<xs.length
 .?.inr {{xs,xs[i],q,by simp[d]},b (i+1),λσ' H' k=>{xs.length - (i+1),(),O,d,k},λx H' y=>?_}
  @e,y:=y;£e;!j i x σ _ (y xs q) p
 .#e:i=xs.length:=()
  £e;!.inl {{xs,q,qe _},l σ H p}
§lD{lo:Int}{n:Nat}{g:TG}{tb:TS}{D:Ends}{σ:St}{H:Hp}(c:Nat->St->Hp->¤)(h0:c 0 σ H)(f:∀i σ H,i<n->c i σ H->g (.int (lo+i)) σ H λa H2=>tb { D with nx:=c (i+1),ct:=c (i+1),bk:=D.nx } a H2)(j:∀σ H,c n σ H->D.nx σ H) :
  ∃W:Nat->Nat->St->Hp->¤,(∃m,W 0 m σ H)/\∀i m σ H,W i m σ H->
   ((FF lo n).stop i H/\D.nx σ H)\/((FF lo n).go i H/\∃N:St->Hp->¤,(∀σ' H',N σ' H'->∃d,d<m/\W (i+1) d σ' H')/\∀x H',(FF lo n).xD i H x H'->g x σ H' λa H2=>tb { D with nx:=N,ct:=N,bk:=D.nx } a H2):=by
 ?{λi m σ H=>m=n - i/\i<=n/\c i σ H,{n,by simp,Nat.zero_le _,h0},?_};rintro i m σ H ⟨rfl,hi,p⟩
 ¿b:i<n
 .?.inr {b,c (i+1),λσ' H' h=>{n - (i+1),(),O,b,h},λx H' y=>?_}
  @e,y:=y;subst e y;!f i σ _ b p
 .#e:i=n:=()
  £e;!.inl {qe _,j σ H p}
abbrev R2:=V->V->Hp->VK->¤
§dh(X:Cx)(f:MD->MD->Sem MD)(r:R2):Prop :=
 ∀(pins:#(R0×Obj)) (s:RX) (σ:St) (H:Hp) (x y:V) (v u:MD) (Q:VK),Inv X pins σ H s->RelV x v->RelV y u->r x y H Q->
  wpAny (model X.prog X.w) X.A (f v u) (EP X pins σ Q) X.xe s
§Qi(X:Cx)(f:MD->Sem MD)(r:V->Hp->VK->¤):Prop :=
 ∀(pins:#(R0×Obj)) (s:RX) (σ:St) (H:Hp) (x:V) (v:MD) (Q:VK),Inv X pins σ H s->RelV x v->r x H Q->
  wpAny (model X.prog X.w) X.A (f v) (EP X pins σ Q) X.xe s
§cA(X:Cx)(f:MD)(r:#V->Hp->VK->¤):Prop :=
 ∀(pins:#(R0×Obj)) (s:RX) (σ:St) (H:Hp) (xs:#V) (us:#MD) (Q:VK),Inv X pins σ H s->aK xs us->r xs H Q->
  wpAny (model X.prog X.w) X.A (call f us) (EP X pins σ Q) X.xe s
§uy(r:R2)(ta tb:TE):TE:=λσ H Q=>ta σ H λx H1=>tb σ H1 λy H2=>r x y H2 Q
§RF(r:V->Hp->VK->¤)(ta:TE):TE:=λσ H Q=>ta σ H λx H1=>r x H1 Q
inductive rI(C:Int->Int->¤)(g:Int->Int->V)(x y:V)(H:Hp)(Q:VK):Prop
 |mk(i j:_)(_:x=.int i)(_:y=.int j)(_:C i j)(_:Q (g i j) H)
inductive yM(g:Int->Int->V)(x y:V)(H:Hp)(Q:VK):Prop
 |mk(i j:_)(_:x=.int i)(_:y=.int j)(_:Q (g i j) H)
inductive rU(g:Int->V)(x:V)(H:Hp)(Q:VK):Prop
 |mk(i:_)(_:x=.int i)(_:Q (g i) H)
section
variable {X:Cx}{a b c:Expr}{ta tb tc:TE}{pos:Pos}
§AO(k:PE X a ta)(j:PE X b tb){pins:#(R0×Obj)}{s:RX}{σ:St}{H:Hp}{R:V->V->Hp->¤}(I:Inv X pins σ H s)(h:ta σ H λx H1=>tb σ H1 λy H2=>R x y H2){Q:KE}{f:MD->MD->Sem MD}(g:∀v u s2 x y H2,Inv X pins σ H2 s2->RelV x v->RelV y u->R x y H2->wpAny (model X.prog X.w) X.A (f v u) Q X.xe s2) :
  wpAny (model X.prog X.w) X.A (eval a X.env) (λv c=>wpAny (model X.prog X.w) X.A (eval b X.env) (λu d=>wpAny (model X.prog X.w) X.A (f v u) Q X.xe d) X.xe c) X.xe s:=by
 ?bK (k pins s σ H _ I h) λv e ⟨x,H1,i,o,l⟩=>?_;?bK (j pins e σ H1 _ i l) λu s2 ⟨y,H2,n,p,m⟩=>?_;!g v u s2 x y H2 n o p m
§aH(c:dh X (binaryOp op) r)(i:PE X a ta)(d:PE X b tb):PE X (.BinOp a op b pos) (uy r ta tb):=by
 ?{?_};¢pins s σ H Q I h;!wpAny_BinOp (AO i d I h λv u s2 x y H2 e f g q=>c pins s2 σ H2 x y v u Q e f g q)
§et(b:Qi X (unaryOp op) r)(g:PE X a ta):PE X (.UnaryOp op a pos) (RF r ta):=by
 ?{?_};¢pins s σ H Q I h;!UnaryOp_ (bK (g pins s σ H _ I h) λv c ⟨x,H1,d,f,e⟩=>b pins c σ H1 x v Q d f e)
§LO{g:Int->Int->Int}(a:∀(i j:Int) (t u:Tok) (s:RX) (Q:KE) (E:KE),C i j->Q (.int (g i j) s.toks) { s with toks:=s.toks+1 }->wpAny (model X.prog X.w) X.A (f (.int i t) (.int j u)) Q E s) :
  dh X f (rI C λi j=>.int (g i j)):=by
 ¢pins s σ H x y v u Q I b d h;@i,j,rfl,rfl,c,q:=h;@t,rfl:=b;@t',rfl:=d;!a i j t t' s _ _ c {.int (g i j),H,I.tok _,{_,O},q}
§Gg{g:Int->Int->Int}(a:∀(i j:Int) (t u:Tok) (s:RX) (Q:KE) (E:KE),Q (.int (g i j) s.toks) { s with toks:=s.toks+1 }->wpAny (model X.prog X.w) X.A (f (.int i t) (.int j u)) Q E s) :
  dh X f (yM λi j=>.int (g i j)):=by
 ¢pins s σ H x y v u Q I b c h;@i,j,rfl,rfl,q:=h;@t,rfl:=b;@t',rfl:=c;!a i j t t' s _ _ {.int (g i j),H,I.tok _,{_,O},q}
§wU{g:Int->Int->Bool}(a:∀(i j:Int) (t u:Tok) (s:RX) (Q:KE) (E:KE),Q (.bool (g i j)) s->wpAny (model X.prog X.w) X.A (f (.int i t) (.int j u)) Q E s) :
  dh X f (yM λi j=>.bl (g i j)):=by
 ¢pins s σ H x y v u Q I b c h;@i,j,rfl,rfl,q:=h;@t,rfl:=b;@t',rfl:=c;!a i j t t' s _ _ {.bl (g i j),H,I,O,q}
§Qb(i j:Int):Prop:=0<j/\j<1073741824
§N9(i j:Int):Prop:=0<=j/\j<=1000000/\i.natAbs<2 ^ 64
§CJ(i j:Int):Prop:=(-(2 ^ 64)<i/\i<2 ^ 64)\/(-(2 ^ 64)<j/\j<2 ^ 64)
§CJ.ok(h:CJ i j):IntMulOk i j:=by
 @⟨h1,h2⟩|⟨h1,h2⟩:=h
 .!.of_left (intBits_le_64 h1 h2)
 .!.of_right (intBits_le_64 h1 h2)
§cY:dh X (binaryOp .Add) (yM λi j=>.int (i+j)):=Gg λ_ _ _ _ _ _ _ q=>add_int q
§Cf:dh X (binaryOp .Sub) (yM λi j=>.int (i - j)):=Gg λ_ _ _ _ _ _ _ q=>sub_int q
§uE:dh X (binaryOp .Mult) (rI CJ λi j=>.int (i * j)):=LO λ_ _ _ _ _ _ _ a q=>mul_int q a.ok
§jF:dh X (binaryOp .FloorDiv) (rI Qb λi j=>.int (i / j)):=LO λi j _ _ _ _ _ a q=>by
 #h1:(0:Int)<j:=a.1;#h2:j<1073741824:=a.2;!floordiv_int () (by[Int.fdiv_eq_ediv_of_nonneg i ()];!q) (.inl (PyProof.noPylong_small ()))
§eJ:dh X (binaryOp .Mod) (rI (λ_ j=>0<j) λi j=>.int (i % j)):=LO λi j _ _ _ _ _ a q=>by
 #h1:(0:Int)<j:=a;!mod_int' () (by[Int.fmod_eq_emod_of_nonneg i ()];!q)
§Au:dh X (binaryOp .Pow) (rI N9 λi j=>.int (i ^ j.toNat)):=LO λ_ _ _ _ _ _ _ a q=>pow_int_small a.1 a.2.1 a.2.2 q
§Rr{g:Int->Int}(a:∀(i:Int) (t:Tok) (s:RX) (Q:KE) (E:KE),Q (.int (g i) s.toks) { s with toks:=s.toks+1 }->wpAny (model X.prog X.w) X.A (f (.int i t)) Q E s) :
  Qi X f (rU λi=>.int (g i)):=by
 ¢pins s σ H x v Q I b h;@i,rfl,q:=h;@t,rfl:=b;!a i t s _ _ {.int (g i),H,I.tok _,{_,O},q}
§iq:Qi X (unaryOp .USub) (rU λi=>.int (-i)):=Rr λ_ _ _ _ _ q=>neg_int q
end
§GS:V->V->Bool
 |.aR,.aR=>true|.aR,.int _=>true|.int _,.aR=>true|.aR,.bl _=>true|.bl _,.aR=>true|.aR,.str _=>true|.str _,.aR=>true
 |.int _,.int _=>true|.bl _,.bl _=>true|.str _,.str _=>true|.pA _,.pA _=>true
 |.int _,.str _=>true|.str _,.int _=>true|.bl _,.str _=>true|.str _,.bl _=>true
 |_,_=>false
§Rv:R2:=λx y H Q=>GS x y=¶/\Q (.bl (decide (x=y))) H
§RI:R2:=λx y H Q=>GS x y=¶/\Q (.bl (not (decide (x=y)))) H
§IJ:decide (V.int i=V.int j)=(i==j):=by
 [jg]
 simp
§Kz{i j:Bool}:decide (V.bl i=V.bl j)=(i==j):=by
 [jg]
 simp
§Gp:decide (V.str i=V.str j)=(i==j):=by
 [jg]
 simp
§Hs:decide (V.pA i=V.pA j)=(i.toList==j.toList):=by
 [jg];&i;&j
 simp
section
variable {X:Cx}{a b c:Expr}{ta tb tc:TE}{pos:Pos}
§cB{pins:#(R0×Obj)}{σ:St}{H:Hp}{s:RX}{Q:VK}{k a:Bool}(I:Inv X pins σ H s)(q:Q (.bl k) H)(e:k=a):EP X pins σ Q (.bool a) s:=by
 £e;!{.bl k,H,I,O,q}
§c8:dh X (compareOp .Eq) Rv:=by
 ¢pins s σ H x y v u Q I c a h;@b,q:=h
 cases x with
 |aR =>
  &c
  cases y with
  |aR=>cases a;!PySem.EqNone.eq_none_none (cB I q (by simp))
  |bl j=>cases a;!PySem.EqNone.eq_none_bool (cB I q (by simp))
  |int j=>@t',rfl:=a;!PySem.EqNone.eq_none_int (cB I q (by simp))
  |str j=>@t',rfl:=a;!PySem.EqNone.eq_none_str (cB I q (by simp))
  |_=>!absurd (show false=¶ from b) qr
 |bl i =>
  &c
  cases y with
  |aR=>cases a;!PySem.EqNone.eq_bool_none (cB I q (by simp))
  |bl j=>cases a;!eq_bool (cB I q Kz)
  |str j=>@t',rfl:=a;!PySem.EqMixed.eq_bool_str (cB I q (by simp))
  |_=>!absurd (show false=¶ from b) qr
 |int i =>
  @t,rfl:=c
  cases y with
  |aR=>cases a;!PySem.EqNone.eq_int_none (cB I q (by simp))
  |int j=>@t',rfl:=a;!eq_int (cB I q IJ)
  |str j=>@t',rfl:=a;!PySem.EqMixed.eq_int_str (cB I q (by simp))
  |_=>!absurd (show false=¶ from b) qr
 |str i =>
  @t,rfl:=c
  cases y with
  |aR=>cases a;!PySem.EqNone.eq_str_none (cB I q (by simp))
  |bl j=>cases a;!PySem.EqMixed.eq_str_bool (cB I q (by simp))
  |int j=>@t',rfl:=a;!PySem.EqMixed.eq_str_int (cB I q (by simp))
  |str j=>@t',rfl:=a;!eq_str (cB I q Gp)
  |_=>!absurd (show false=¶ from b) qr
 |pA i =>
  @t,rfl:=c
  cases y with
  |pA j=>@t',rfl:=a;!PySem.W.eq_bytes (cB I q Hs)
  |_=>!absurd (show false=¶ from b) qr
 |_=>cases y <;> !absurd (show false=¶ from b) qr
§ll:dh X (compareOp .NotEq) RI:=by
 ¢pins s σ H x y v u Q I c a h;@b,q:=h
 cases x with
 |aR =>
  &c
  cases y with
  |aR=>cases a;!PySem.EqNone.ne_none_none (cB I q (by simp))
  |bl j=>cases a;!PySem.EqNone.ne_none_bool (cB I q (by simp))
  |int j=>@t',rfl:=a;!PySem.EqNone.ne_none_int (cB I q (by simp))
  |str j=>@t',rfl:=a;!PySem.EqNone.ne_none_str (cB I q (by simp))
  |_=>!absurd (show false=¶ from b) qr
 |bl i =>
  &c
  cases y with
  |aR=>cases a;!PySem.EqNone.ne_bool_none (cB I q (by simp))
  |bl j=>cases a;!ne_bool (cB I q (congrArg not Kz))
  |str j=>@t',rfl:=a;!PySem.EqMixed.ne_bool_str (cB I q (by simp))
  |_=>!absurd (show false=¶ from b) qr
 |int i =>
  @t,rfl:=c
  cases y with
  |aR=>cases a;!PySem.EqNone.ne_int_none (cB I q (by simp))
  |int j=>@t',rfl:=a;!ne_int (cB I q (congrArg not IJ))
  |str j=>@t',rfl:=a;!PySem.EqMixed.ne_int_str (cB I q (by simp))
  |_=>!absurd (show false=¶ from b) qr
 |str i =>
  @t,rfl:=c
  cases y with
  |aR=>cases a;!PySem.EqNone.ne_str_none (cB I q (by simp))
  |bl j=>cases a;!PySem.EqMixed.ne_str_bool (cB I q (by simp))
  |int j=>@t',rfl:=a;!PySem.EqMixed.ne_str_int (cB I q (by simp))
  |str j=>@t',rfl:=a;!ne_str (cB I q (congrArg not Gp))
  |_=>!absurd (show false=¶ from b) qr
 |pA i =>
  @t,rfl:=c
  cases y with
  |pA j=>@t',rfl:=a;!PySem.W.ne_bytes (cB I q (congrArg not Hs))
  |_=>!absurd (show false=¶ from b) qr
 |_=>cases y <;> !absurd (show false=¶ from b) qr
§zb:dh X (compareOp .Lt) (yM λi j=>.bl (decide (i<j))):=wU λ_ _ _ _ _ _ _ q=>lt_int q
§yR:dh X (compareOp .LtE) (yM λi j=>.bl (decide (i<=j))):=wU λ_ _ _ _ _ _ _ q=>le_int q
§eB:dh X (compareOp .Gt) (yM λi j=>.bl (decide (j<i))):=wU λ_ _ _ _ _ _ _ q=>gt_int q
§IB:dh X (compareOp .GtE) (yM λi j=>.bl (decide (j<=i))):=wU λ_ _ _ _ _ _ _ q=>ge_int q
§Jr:dh X (compareOp .Is) (λx y H Q=>y=.aR/\Q (.bl (decide (x=.aR))) H):=by
 ¢pins s σ H x y v u Q I a b h;@rfl,q:=h;&b;?is_none_gen (cB I q ?_)
 &x <;> first
  |(cases a;rfl)
  |(@t,rfl:=a;rfl)
§IH:dh X (compareOp .IsNot) (λx y H Q=>y=.aR/\Q (.bl (not (decide (x=.aR)))) H):=by
 ¢pins s σ H x y v u Q I a b h;@rfl,q:=h;&b;?isnot_none_gen (cB I q ?_)
 &x <;> first
  |(cases a;rfl)
  |(@t,rfl:=a;rfl)
§Nn(c:dh X (compareOp op) r)(j:PE X a ta)(d:PE X b tb)(e:behindInMarks op b=¿):PE X (.Compare a [op] [b] pos) (uy r ta tb):=by
 ?{?_};¢pins s σ H Q I h;!wpAny_Compare1 (AO j d I h λv u s2 x y H2 g f i q=>c pins s2 σ H2 x y v u Q g f i q) e
inductive BL(Q:Bool->Hp->¤)(x:V)(H':Hp):Prop
 |mk(k:_)(_:x=.bl k)(_:Q k H')
§sT(t:TE):TT:=λσ H Q=>t σ H λx H'=>BL Q x H'
§OE(d:dh X (compareOp op) r)(o:PE X a ta)(m:PE X b tb)(n:behindInMarks op b=¿):PT X (.Compare a [op] [b] pos) (sT (uy r ta tb)):=by
 ?{?_};¢pins s σ H Q I h
 ?wpAny_isTrue_Compare1 (bK (o pins s σ H _ I h) λv f ⟨x,H1,j,q,p⟩=>bK (m pins f σ H1 _ j p) λu s2 ⟨y,H2,w,l,t⟩ =>
  bK (d pins s2 σ H2 x y v u _ w q l t) λc C ⟨z,i,A,g,k,e,B⟩=>?_) n
 £e;&g;!wpAny_truthy_bool {i,A,B}
inductive xk(r':R2)(tc:TE)(σ:St)(Q:VK)(y z:V)(H3:Hp):Prop
 |mk(k:_)(_:z=.bl k)(_:(if k=¶ then tc σ H3 λw' H4=>r' y w' H4 Q else Q (.bl false) H3))
§Fm(r a:R2)(ta tb tc:TE):TE:=λσ H Q=>ta σ H λx H1=>tb σ H1 λy H2=>r x y H2 λz b=>xk a tc σ Q y z b
§Nb{op f:CmpOp}{r n:R2}(D:dh X (compareOp op) r)(g:dh X (compareOp f) n)(C:PE X a ta)(U:PE X b tb)(Y:PE X c tc)(W:lastMarks [op,f] [b,c]=¿:=by with_unfolding_all rfl):PT X (.Compare a [op,f] [b,c] pos) (sT (Fm r n ta tb tc)):=by
 ?{?_};¢pins s σ H Q I h
 ?isTrue_chain (bK (C pins s σ H _ I h) λv S ⟨x,H1,t,B,w⟩=>test_link (bK (U pins S σ H1 _ t w) λu s2 ⟨y,H2,P,j,A⟩ =>
  bK (D pins s2 σ H2 x y v u _ P B j A) λd Z ⟨z,m,l,q,k,e,i⟩=>?_)) W
 £e;&q;?wpAny_truthy_bool ?_
 cases k with
 |false =>
  @k',V,E:=i;&V;!ite_ff {m,l,E}
 |true =>
  refine ite_tt (test_last (bK (Y pins Z σ m _ l i) λJ T ⟨K,O,p,M,L⟩=>bK (g pins T σ O y K u J _ p j M L) λd' s5 ⟨z2,G,o,R,k2,N,F⟩=>?_));£N;&R;!wpAny_truthy_bool {G,o,F}
§px:(sizeLine:Nat)<2 ^ 63:=by[sizeLine_eq];decide
inductive lJ(x y:V)(H:Hp)(Q:VK):Prop
 |mk(i j:_)(_:x=.str i)(_:y=.str j)(_:i.length+j.length<=sizeLine)(_:Q (.str (i++j)) H)
§vK:dh X (binaryOp .Add) lJ:=by
 ¢pins s σ H x y v u Q I a b h;@i,j,rfl,rfl,hz,q:=h;@t,rfl:=a;@t',rfl:=b;!add_str (λt' tk=>{.str (i++j),H,I.tok _,{_,O},q}) hz
§vals1(r:aK [x] us):∃u,us=[u]/\RelV x u:=by
 cases r with
 |cons a b=>cases b;!{_,O,a}
§vals2(r:aK [x,y] us):∃u a,us=[u,a]/\RelV x u/\RelV y a:=by
 cases r with
 |cons d e =>
  cases e with
  |cons b c=>cases c;!{_,_,O,d,b}
inductive m_(xs:#V)(H:Hp)(Q:VK):Prop
 |mk(i j:_)(_:xs=[.int i,.int j])(_:Q (.int (if j>i then j else i)) H)
§PN(b:X.calm=¶):cA X (.builtin "max") m_:=by
 ¢pins s σ H xs us Q I r h;@i,j,rfl,q:=h;@u,c,rfl,⟨t,rfl⟩,⟨t',rfl⟩:=vals2 r;?max_two_ints (I.ok.hd b) λh' tk k=>{_,H,I.kept k,?_,q}
 ¿a:j>i
 .[qF a,qF a];!{_,O}
 .[qB a,qB a];!{_,O}
§A_:cA X (.type "int") (λxs H Q=>(∃i,xs=[.int i]/\Q (.int i) H)\/∃k,xs=[.bl k]/\Q (.int (if k then 1 else 0)) H):=by
 ¢pins s σ H xs us Q I r h;@⟨i,rfl,q⟩|⟨k,rfl,q⟩:=h
 .@u,rfl,t,rfl:=vals1 r
  !call_int_int {.int i,H,I,{_,O},q}
 .@u,rfl,a:=vals1 r
  &a;!call_int_bool {.int (if k then 1 else 0),H,I.tok _,{_,O},q}
§QZ(x:V)(H:Hp)(n:Nat):Prop :=
 match x with
 |.str y=>y.length<=sizeLine/\n=y.length
 |.pA y=>y.size<=sizeLine/\n=y.size
 |.ref p=>(∃xs,aA H p xs/\n=xs.length)\/∃xs,aZ H p xs/\n=xs.length
 |_=>False
inductive ph(xs:#V)(H:Hp)(Q:VK):Prop
 |mk(x n:_)(_:xs=[x])(_:QZ x H n)(_:Q (.int n) H)
§QV:cA X (.builtin "len") (ph):=by
 ¢pins s σ H xs us Q I r h;@x,n,rfl,e,q:=h;@u,rfl,f:=vals1 r;#j:=px;#k:sizeLine=16777216:=sizeLine_eq
 cases x with
 |str y =>
  @t,rfl:=f;obtain⟨i,b⟩:y.length<=sizeLine/\n=y.length:=e;£b;!len_str () {.int _,H,I.tok _,{_,O},q}
 |pA y =>
  @t,rfl:=f;obtain⟨i,b⟩:y.size<=sizeLine/\n=y.size:=e;£b;!PySem.W.len_bytes () {.int _,H,I.tok _,{_,O},q}
 |ref p =>
  &f;#b:(∃xs,aA H p xs/\n=xs.length)\/∃xs,aZ H p xs/\n=xs.length:=e;@⟨xs,d,b⟩|⟨xs,d,b⟩:=b
  .£b
   @its,g,c,hz:=I.list d;#a:=g.length;!Calls.call_len_list c.isList (by simp only[List.size_toArray];¥) {.int xs.length,H,I.tok _,{_,by simp only[List.size_toArray];[a]},q}
  .£b
   @its,g,c,hz:=I.tuple d;#a:=g.length;!len_tuple c (by simp only[List.size_toArray];¥) {.int xs.length,H,I.tok _,{_,by simp only[List.size_toArray];[a]},q}
 |_=>!(show False from e).elim
end
structure Ep(h:Heap)(x dx C:R0)(mA:R9->Option MD):Prop where
 obj:h.get? x=!(PySem.W.instObj C dx)
 ns:h.Ns1 dx mA
 ne:dx≠x
§MH{h:Heap}{dx:R0}{c:R9->Option MD}(n:h.Ns1 dx c):∃od,h.get? dx=!od/\∀name,PySem.W.lookIn name od=!(c name):=by
 @o,es,ep,d,k,g,_,j:=n;?{o,d,λname=>?_};#e:=j name;unfold nsFind findBy at e;[←Array.find?_toList]at e;¶PySem.W.lookIn;[k];dsimp only
 split
 .rename_i y q
  [q]at e;!congrArg some e
 .rename_i q
  [q]at e
  #a:es.toList.any (·.refKey)=¿:=by
   [ni];¢y f;@z,t,b:=g y (j5.mp f)
   simp[DictEntry.refKey,b]
  #i:¬es.toList.any (·.refKey)=¶:=by[a];!qr
  [qB i];!congrArg some e
§Ep.look(I:Ep h x dx C a):∃od,PySem.W.InstAt h x (PySem.W.instObj C dx) C (!od)/\∀name,PySem.W.lookIn name od=some (a name) :=
 let⟨od,c,b⟩:=MH I.ns
 {od,{I.obj,O,O,c},b}
§eV.some_of(r:eV (!v) o):∃u,o=!u/\RelV v u:=by
 cases o with
 |none=>!(show False from r).elim
 |some u=>!{u,O,r}
section
variable {P:Program}{w:World}{H H':Hp}{h h':Heap}{a C dx:R0}{fs fs':#(R9×V)}
§OF(c:dm P w H h)(e:H a=!(.ins C dx fs)):∃b,Ep h a dx C b/\(∀f,eV (fs.lookup f) (b f))/\PySem.Within b (fs.map (·.1))/\fs.length<=1000/\H dx=!(.own a):=by
 @d,z,ne,ob,b,n,r,q:=(show aV P w H h a (.ins C dx fs) from c a _ e);!{b,{ob,n,ne},r,q,z,d}
end
structure Oe(K:PySem.W.Frag)(C:R0):Prop where
 pg:PySem.W.plainGet K C Str.empty=¶
 hd:PySem.W.hasDictIn K C=¶
 po:PySem.W.plainOver K C=¶
 sa:PySem.W.findIn K (.ref C) "__setattr__"=!(!(.builtin "object.__setattr__"))
§Oe.get{K:PySem.W.Frag}{C:R0}(c:Oe K C)(f:R9):PySem.W.plainGet K C f=¶:=c.pg
section
variable {X:Cx}{pins:#(R0×Obj)}{σ:St}{H:Hp}{s:RX}{A:Around}{E:KE}{Q:KE}{c:MD}{b:Bool}
inductive eR(K:PySem.W.Frag)(H:Hp):V->MD->¤ where
 |aR:eR K H .aR (.type "NoneType")
 |bl (x:Bool):eR K H (.bl x) (.type "bool")
 |int (i:Int):eR K H (.int i) (.type "int")
 |str (x:R9):eR K H (.str x) (.type "str")
 |Fx (x:UInt64):eR K H (.Fx x) (.type "float")
 |lst {a:R0} {xs:#V} (e:H a=!(.lst xs)):eR K H (.ref a) (.type "list")
 |cJ {a:R0} {o:Obj} {xs:#V} (e:H a=!(.cJ o (.lst xs))):eR K H (.ref a) (.type "list")
 |tup {a:R0} {xs:#V} (e:H a=!(.tup xs)):eR K H (.ref a) (.type "tuple")
 |dK {a:R0} {kvs:#(Key×V)} (e:H a=!(.dK kvs)):eR K H (.ref a) (.type "dict")
 |dT {a:R0} {kvs:#(#Key×V)} (e:H a=!(.dT kvs)):eR K H (.ref a) (.type "dict")
 |dG {a:R0} {kvs:#(KD×V×V)} (e:H a=!(.dG kvs)):eR K H (.ref a) (.type "dict")
 |ins {a C dx:R0} {fs:#(R9×V)} (e:H a=!(.ins C dx fs)) (cl:Oe K C) (ha:PySem.W.findIn K (.ref C) "__class__"=!(!(.builtin "object.__class__")))
   (hn:PySem.W.specialIn K (.builtin "object.__class__") "__get__"=!(!(.builtin "getset_descriptor.__get__"))) (htk:PySem.W.takesIn K (.builtin "object.__class__")=!true)
   (hm:PySem.W.mroIn K C (.type "object")=!true):eR K H (.ref a) (.ref C)
§OT(I:Inv X pins σ H s)(f:RelV x u)(ty:eR X.K H x t)(e:PySem.W.kitOne X.K t c=!b)(h:∀tk,Q (.bool b) { s with toks:=tk }) :
  wpAny (model X.prog X.w) A (call (.builtin "isinstance") [u,c]) Q E s:=by
 cases ty with
 |aR=>cases(show u=Value.none from f);!PySem.W.kia_one PySem.W.kitx_none I.lY True.intro e ° h
 |bl y=>cases(show u=Value.bool y from f);!PySem.W.kia_one PySem.W.kitx_bool I.lY True.intro e ° h
 |int i=>@t,q:=(show ∃t,u=Value.int i t from f);&q;!PySem.W.kia_one PySem.W.kitx_int I.lY True.intro e ° h
 |str y=>@t,q:=(show ∃t,u=Value.str y t from f);&q;!PySem.W.kia_one PySem.W.kitx_str I.lY True.intro e ° h
 |Fx y=>@t,q:=(show ∃t,u=Value.float y t from f);&q;!PySem.W.kia_one PySem.W.kitx_float I.lY True.intro e ° h
 |@lst a xs d =>
  &(show u=Value.ref a from f);@_,_,n,_,h1:=(show aV X.prog X.w H s.heap a (.lst xs) from I.aS a _ d);!PySem.W.kia_one PySem.W.kitx_list I.lY {_,h1,rfl} e ° h
 |@cJ a ob xs d =>
  &(show u=Value.ref a from f);@_,_,_,n,_,h1:=(show aV X.prog X.w H s.heap a (.cJ ob (.lst xs)) from I.aS a _ d);!PySem.W.kia_one PySem.W.kitx_list I.lY {_,h1,rfl} e ° h
 |@tup a xs d =>
  &(show u=Value.ref a from f);@_,_,_,p:=(show aV X.prog X.w H s.heap a (.tup xs) from I.aS a _ d);@o,h1,h2,_:=p;!PySem.W.kia_one PySem.W.kitx_tuple I.lY {o,h1,h2} e ° h
 |@dK a kvs d =>
  &(show u=Value.ref a from f);@_,_,vs,_,p:=(show aV X.prog X.w H s.heap a (.dK kvs) from I.aS a _ d);@o,es,ep,h1,h2,_:=p;!PySem.W.kia_one PySem.W.kitx_dict I.lY {o,h1,h2.1} e ° h
 |@dT a kvs d =>
  &(show u=Value.ref a from f);@_,_,xs,_,o,es,ep,h1,h2,_:=(show aV X.prog X.w H s.heap a (.dT kvs) from I.aS a _ d);!PySem.W.kia_one PySem.W.kitx_dict I.lY {o,h1,h2.1} e ° h
 |@dG a kvs d =>
  &(show u=Value.ref a from f);@_,_,xs,_,o,es,ep,h1,h2,_:=(show aV X.prog X.w H s.heap a (.dG kvs) from I.aS a _ d);!PySem.W.kia_one PySem.W.kitx_dict I.lY {o,h1,h2.1} e ° h
 |@ins a C dx fs d cl k hn g j =>
  &(show u=Value.ref a from f);@l,O,_:=OF I.aS d;@od,J,_:=O.look;!PySem.W.kia_one (PySem.W.kitx_own (cl.get _) cl.hd k hn g j) I.lY J e ° h
end
structure bG(k:Nat)(A:Around):Prop where
 hd:A.handled=£
 dp:A.depth+3 * k+5<recursionLimit
 un:A.units+16 * k+200<cLine
 gd:A.guards=![]
§bG.mono{A:Around}(r:bG k A)(h:j<=k):bG j A:={r.hd,by #:=r.dp;¥,by #:=r.un;¥,r.gd}
theorem bG.deeper{A:Around}(r:bG (k+1) A)(env:Env):bG k (A.deeper env) :=
 {r.hd,by #:=r.dp;¤A.depth+1+3 * k+5<_;¥,by #:=r.un;¤A.units+3+16 * k+200<_;¥,r.gd}
theorem bG.in1{A:Around}(r:bG (k+1) A):bG k A.in1 :=
 {r.hd,by #:=r.dp;¤A.depth+3 * k+5<_;¥,by #:=r.un;¤A.units+1+16 * k+200<_;¥,r.gd}
theorem bG.depth{A:Around}(r:bG k A):A.depth<recursionLimit:=by #:=r.dp;¥
theorem bG.units{A:Around}(r:bG k A):A.units+64<cLine:=by #:=r.un;¥
§bG.tH{A:Around}(r:bG k A):A.units<cLine:=by #:=r.un;¥
§Bu:TA:=λ_ H Q=>Q [] H
§lI(ta:TE)(a:TA):TA:=λσ H Q=>ta σ H λx H1=>a σ H1 λxs H2=>Q (x::xs) H2
section
variable {X:Cx}{e:Expr}{es:#Expr}{te:TE}{t:TA}{pos:Pos}
§cS:PA X [] Bu:={λ_ _ _ _ H Q I h=>Calls.spliced_nil {[],H,I,.nil,h}}
§AX(k:PE X e te)(c:PA X es t)(j:starEach (e::es) X.env=(false,eval e X.env)::starEach es X.env:=by rfl):PA X (e::es) (lI te t):=by
 ?{?_};¢pos pins s σ H Q I h;[j];¤wpAny _ _ (spliced ((false,eval e X.env)::backTo pos (starEach es X.env))) _ _ s;?Calls.spliced_cons (bK (k pins s σ H _ I h) λu a ⟨x,H1,b,f,d⟩=>?_);!bK (c pos pins a σ H1 _ b d) λus s2 ⟨xs,H2,i,l,g⟩=>{x::xs,H2,i,.cons f l,g}
end
abbrev Sp:=#V->Hp->VK->XK->¤
abbrev uT:=#Env->Hp->RX->XK->KE
structure f6(P:Program)(w:World)(K:PySem.W.Frag)(mg:R9->Option MD)(base:Heap)(A:Around)(outer:#Env)(s:RX)(H:Hp):Prop where
 frames:A.frames=!outer
 mod:Mod K mg base
 bs:∀b o,base.get? b=!o->s.heap.get? b=!o/\(H b=£\/∃xs,H b=!(.tup xs))
 uL:base.objs.size<=↑s
 eh:s.heap.FunFrames base outer
 vI:∀b∈d9 outer,H b=£
 aS:dm P w H s.heap
 bare:AllBare s.gens
§CE(outer:#Env)(P:Program)(w:World)(H:Hp)(s:RX)(Q:VK)(u:MD)(s':RX):Prop :=
 ∃v H',s'.os=s.os/\AllBare s'.gens/\Un (d9 outer) [] H H' s.heap s'.heap/\dm P w H' s'.heap/\RelV v u/\Q v H'
§CR(CX:uT)(outer:#Env)(P:Program)(w:World)(H:Hp)(s:RX)(Q:VK)(E:XK)(r:Result)(s':RX):Prop :=
 match r with
 |.ok (.ret u)=>CE outer P w H s Q u s'
 |.ok _=>False
 |.error e=>CX outer H s E e s'
structure gB(P:Program)(w:World)(K:PySem.W.Frag)(mg:R9->Option MD)(base:Heap)(CX:uT)(k:Nat)(f:R0)(fd:FuncData)(ps:#R9)(sp:Sp):Prop where
 len:∀vs H Q E,sp vs H Q E->vs.length=ps.length
 run:∀(A:Around) (outer:#Env) (s:RX) (H:Hp) (args:Args) (us:#MD) (vs:#V) (Q:VK) (E:XK),bG k A->×f6 A outer s H->BindsTo s fd args (ps.zip us)->aK vs us->sp vs H Q E->
  codeAny (model P w) A (.call (.ref f) args) (CR CX outer P w H s Q E) s
section
variable {X:Cx}{pins:#(R0×Obj)}{σ:St}{H:Hp}{s s':RX}
§Inv.CG(I:Inv X pins σ H s):f6 X.prog X.w X.K X.mg X.base X.A X.stack s H :=
 {I.ok.frames,I.ok.mod,I.bs,qg I.ok.uL I.sz,I.stack,I.nJ,I.aS,I.bare}
§Inv.after(I:Inv X pins σ H s)(h:CE X.stack X.prog X.w H s Q u s'):EP X pins σ Q u s':=by
 @v,H',f,a,un,e,r,q:=h;@i,g,d,t,c:=s';obtain rfl:c=s.os:=f;!{v,H',I.call (h':=i) (g':=g) (d':=d) (t':=t) (ch:=[]) un e a (λb z=>absurd z (by simp)),r,q}
end
§tj(sp:Sp)(mB:#V)(E:XK)(t:TA):TE:=λσ H Q=>t σ H λvs H1=>sp (vs++mB) H1 Q E
§Binds(K:PySem.W.Frag)(fd:FuncData)(ps:#R9)(ds:#MD):Prop :=
 ∀(s:RX) (us:#MD),K.In s.heap->(us++ds).length=ps.length->BindsTo s fd {us,[]} (ps.zip (us++ds))
§Binds.all{K:PySem.W.Frag}{fd:FuncData}{ps:#R9}(h:∀us:#MD,us.length=ps.length->bindArgs fd {us,[]}=pure (ps.zip us)):Binds K fd ps []:=λs us _ a=>by
 [wx]at a ⊢;!.of_eq (h us a)
§l_(CX:uT)(X:Cx)(E:XK):Prop:=∀(pins:#(R0×Obj)) (σ:St) (H:Hp) (s:RX) (e:MD) (s':RX),Inv X pins σ H s->CX X.stack H s E e s'->X.xe e s'
section
variable {X:Cx}{CX:uT}{k:Nat}{f C:R0}{fd:FuncData}{ps:#R9}{sp:Sp}{mB:#V}{ds:#MD}{E:XK}{x m:R9}{p pos apos:Pos}{e o:Expr}{es:#Expr}{ta:TE}{t:TA}
§Cq{pins:#(R0×Obj)}{σ:St}{H:Hp}{s:RX}{Q:VK}{us:#MD}{vs:#V}(F:gB X.prog X.w X.K X.mg X.base CX k f fd ps sp)(g:bG k X.A)(d:Binds X.K fd ps ds)(j:aK mB ds)(i:l_ CX X E)(I:Inv X pins σ H s)(r:aK vs us)(h:sp (vs++mB) H Q E):wpAny (model X.prog X.w) X.A (call (.ref f) us) (EP X pins σ Q) X.xe s:=by
 #b:aK (vs++mB) (us++ds):=r.append j
 #c:(us++ds).length=ps.length:=by[←b.length];!F.len _ _ _ _ h
 ?wpAny_call (codeAny_mono (F.run X.A X.stack s H {us,[]} (us++ds) (vs++mB) Q E g I.CG (d s us I.lY c) b h) λr s' a=>?_)
 cases r with
 |error e=>!i pins σ H s e s' I a
 |ok fl =>
  cases fl with
  |ret u=>!I.after a
  |next=>!False.elim a
  |brk=>!False.elim a
  |cont=>!False.elim a
§J_(F:gB X.prog X.w X.K X.mg X.base CX k f fd ps sp)(i:bG k X.A)(n:Gl X x)(m:X.mg x=!(.ref f))(d:PySem.W.keepIn X.K (.ref f)=¶)(g:Binds X.K fd ps ds)(u:aK mB ds)(j:l_ CX X E)(o:PA X (e::es) t)(b:(x==("__debug__":R9))=¿:=by decide)(l:starEach (e::es) X.env=(false,eval e X.env)::starEach es X.env:=by rfl)(a:(backTo pos (starEach es X.env)).any (·.1)=¿:=by rfl) :
  PE X (.Call (.Name x p) (e::es) [] pos) (tj sp mB E t):=by
 ?{?_};¢pins s σ H Q I h;?wpAny_Call_Name_kw (Dp I n m ?_ b);?PySem.W.callWith_K (h₀:=X.base) I.ok.mod.LY d (bK (o pos pins s σ H _ I h) λus v ⟨vs,H1,c,r,q⟩=>{c.lY,?_}) l a;!Cq F i g u j c r q
end
structure az(N P:#R9)(sc:Scope):Prop where
 kind:sc.kind=.function
 co:sc.isCoroutine=¿
 gen:sc.isGenerator=¿
 nd:N.Nodup
 pre:N.take P.length=P
 par:∀x∈P,sc.names.lookup x=some .local\/sc.names.lookup x=some .cell
 Fg:∀y∈sc.names,y.2≠.free
theorem JV:∀{binds:#(R9×MD)} {m:R9->Option MD},(∀v,(x,v)∉binds)->bindL a binds m x=m x
 |[],_,_=>rfl
 |(n,v)::r,m,h=>by
  ¶bindL;[JV λw b=>h w (qy _ b)]
  split
  .#:x≠n:=by rintro rfl;!h v qm
   simp[this]
  .rfl
theorem Ip:∀{binds:#(R9×MD)} {m:R9->Option MD},(∀v,(x,v)∉binds)->bindC a binds m x=m x
 |[],_,_=>rfl
 |(n,v)::r,m,h=>by
  ¶bindC;[Ip λw b=>h w (qy _ b)]
  split
  .rfl
  .#:x≠n:=by rintro rfl;!h v qm
   simp[this]
theorem Jf:∀{P:#R9} {vs:#MD} {i:Nat} {m:R9->Option MD},P.Nodup->P[i]?=!x->vs[i]?=!v->a x=some .local->
  bindL a (P.zip vs) m x=!v
 |[],_,_,_,_,h,_,_=>by simp at h
 |_::_,[],_,_,_,_,h,_=>by simp at h
 |p::P,w::vs,0,m,nd,h1,h2,hk=>by
  simp at h1 h2;£h1;£h2
  ¤bindL a ((p,w)::P.zip vs) m p=_;¶bindL;[JV λv b=>(z6.mp nd).1 (kg b).1,qF hk]
  simp
 |p::P,w::vs,i+1,m,nd,h1,h2,hk=>by
  ¤bindL a ((p,w)::P.zip vs) m x=_;¶bindL;!Jf (i:=i) (List.nodup_cons.mp nd).2 (by ±h1) (by ±h2) hk
theorem JT:∀{P:#R9} {vs:#MD} {i:Nat} {m:R9->Option MD},P.Nodup->P[i]?=!x->vs[i]?=!v->a x≠some .local->
  bindC a (P.zip vs) m x=!v
 |[],_,_,_,_,h,_,_=>by simp at h
 |_::_,[],_,_,_,_,h,_=>by simp at h
 |p::P,w::vs,0,m,nd,h1,h2,hk=>by
  simp at h1 h2;£h1;£h2
  ¤bindC a ((p,w)::P.zip vs) m p=_;¶bindC;[Ip λv b=>(z6.mp nd).1 (kg b).1,qB hk]
  simp
 |p::P,w::vs,i+1,m,nd,h1,h2,hk=>by
  ¤bindC a ((p,w)::P.zip vs) m x=_;¶bindC;!JT (i:=i) (List.nodup_cons.mp nd).2 (by ±h1) (by ±h2) hk
§start(N:#R9)(vs:#V):St:=vs.map some++List.replicate (N.length - vs.length) none
§jG(CX:uT)(P:Program)(w:World)(K:PySem.W.Frag)(mg:R9->Option MD)(base:Heap)(N:#R9)(qual:R9)(a:Scope)(f:R0)(cd:MD)(A:Around)(outer:#Env)(s:RX)(H:Hp)(E:XK):Cx where
 prog:=P
 w:=w
 K:=K
 mg:=mg
 base:=base
 A:=A.deeper (envOfC qual a ↑s f cd)
 N:=N
 s₀:=s
 H₀:=H
 env:=envOfC qual a ↑s f cd
 outer:=outer
 stack:=envOfC qual a ↑s f cd::outer
 ex:=[]
 calm:=¶
 fn:=λ_=>true
 pn:=[]
 xe:=λe s'=>wpAny (model P w) (A.deeper (envOfC qual a ↑s f cd)) (leaving (envOfC qual a ↑s f cd) e) (λ_ b=>CX outer H s E e b) (λc b=>CX outer H s E c b) s'
§fJ{a:Scope}{n:Nat}{x:R9}(h:a.names.lookup x=some .cell):∃c,(cellsFrom n a.names []).lookup x=!c:=by
 #q:=PySem.W.cellsFrom_some a.names n [] (.inl h);!kh.mp q
§Ou{CX:uT}{P:Program}{w:World}{K:PySem.W.Frag}{mg:R9->Option MD}{base:Heap}{N ps:#R9}{qual:R9}{d:Scope}{f:R0}{cd:MD}{A:Around}{outer:#Env}{s o:RX}{H:Hp}{E:XK}{us:#MD}{vs:#V}(S:az N ps d)(G:A.handled=£)(g:×f6 A outer s H)(J:vs.length=ps.length)(r:aK vs us)(x:InCallC s ↑s (bindL (envOfC qual d ↑s f cd).kindOf (ps.zip us) λ_=>none) (cellsFrom (↑s+1) d.names []) (bindC (envOfC qual d ↑s f cd).kindOf (ps.zip us) λ_=>none) o) :
  Inv (jG CX P w K mg base N qual d f cd A outer s H E) [] (start N vs) H o:=by
 #C:ps.length<=N.length:=by #:=congrArg List.length S.pre;[wv]at this;¥
 @h1,tk,rfl,t:=x.done
 #j:∀b:R0,b∉(jG CX P w K mg base N qual d f cd A outer s H E).ex:=λb z=>absurd (show b∈([]:#R0) from z) (by simp)
 ?{{g.mod,S.kind,O,O,qe _,λy z c h1 h2=>?_,λy l=>?_,λy c _ h=>?_,λ_=>G,Around.frames_deeper g.frames,.inr {O,O},λb z=>absurd z (j b),g.bs,g.uL,λb _ _=>j b,λb z=>absurd z (j b),g.eh,g.vI},
  rfl,g.bare,Un.kept t,{_,x.toInCall.ns,λi y v h1 h2 I=>?_},λy c h=>{_,x.cell y c h},g.aS.fresh (Nat.le_refl _),λy c h=>?_,λp hp=>absurd (show p∈([]:#(R0×Obj)) from hp) (by simp),g.aS.kept t,?_}
 .!name_of_addr x.apart (PySem.mem_of_lookup h1) (PySem.mem_of_lookup h2)
 .#l:d.names.lookup y=some .cell\/d.names.lookup y=some .free:=l
  @l|l:=l
  .!fJ l
  .!absurd rfl (S.Fg _ (PySem.mem_of_lookup l))
 .!ww (x.above y c (PySem.mem_of_lookup h))
 .#hi:i<vs.length:=by
   unfold start at h2
   ¿hi:i<vs.length
   .!hi
   .[List.getElem?_append_right (by ±hi)]at h2
    [List.getElem?_replicate]at h2
    split at h2 <;> &h2
  #F:vs[i]?=!v:=by
   unfold start at h2;[List.getElem?_append_left (by ±hi),List.getElem?_map]at h2
   cases e:vs[i]? with
   |none=>rw[e]at h2;&h2
   |some a=>rw[e]at h2;&h2;rfl
  @u,B,D:=r.get F
  #hp:ps[i]?=!y:=by
   [←S.pre,ki ()];!h1
  #m:ps.Nodup:=by[←S.pre];!S.nd.sublist (kj _ _)
  ?{u,D,?_};@k|k:=S.par y (qw hp)
  .!.inl ⟨k,Jf m hp B k⟩
  .@c,e:=fJ (n:=↑s+1) k
   ?.inr {.inl k,c,e,?_};#q:=x.cell y c e;[JT m hp B (by ¤d.names.lookup y≠_;[k];decide)]at q;!q
 .!g.aS.fresh (ww (x.above y c (PySem.mem_of_lookup h)))
 .¶start
  ¤_=N.length;[qi,qj,j6];¥
§r_{CX:uT}{P:Program}{w:World}{K:PySem.W.Frag}{mg:R9->Option MD}{base:Heap}{k:Nat}{f:R0}{name qual:R9}{d:Arguments}{g:#Stmt}{a:Scope}{L kV p X c O oc:MD}{M od:Option R0}{G:Array (Option MD)}{N ps:#R9}{sp:Sp}(Z:K.lookup f=some {oc,od,.func (PySem.W.fnOf name qual d g a L kV p X M c O),G})(F:PySem.W.codeIn K c qual=¶)(S:az N ps a)(len:∀vs H Q E,sp vs H Q E->vs.length=ps.length)(i:∀(A:Around) (outer:#Env) (s:RX) (H:Hp) (vs:#V) (Q:VK) (E:XK),bG k (A.deeper (envOfC qual a ↑s f c))->sp vs H Q E->
   ∃t,ig (jG CX P w K mg base N qual a f c A outer s H E) g t/\t { nx:=λ_ H'=>Q .aR H',rt:=Q } (start N vs) H) :
  gB P w K mg base CX (k+1) f (PySem.W.fnOf name qual d g a L kV p X M c O) ps sp:=by
 ?{len,λA outer s H R us vs Q E B z hb r l=>?_};#hl:=len _ _ _ _ l;#U:K.In s.heap:=z.mod.LY.keeps λb o e=>(z.bs b o e).1;#C:s.heap.NoLimit:=z.mod.nolimit.keeps λb o e=>(z.bs b o e).1
 #h:∀y∈ps.zip us,a.names.lookup y.1=some .local\/(a.names.lookup y.1=some .cell/\((cellsFrom (↑s+1) a.names []).lookup y.1).isSome=¶):=λ⟨n,v⟩ hy=>by
  @q|q:=S.par n (kg hy).1
  .!.inl q
  .!.inr ⟨q,PySem.W.cellsFrom_some _ _ _ (.inl q)⟩
 ?codeAny_call_function B.depth (U _ _ Z) rfl S.co S.gen rfl (PySem.W.codeRec_of U F) (hb _ _ _ _ ?_);?wpAny_newFunctionEnv_cells S.kind h λenv Y T x=>?_;£Y;?{C.keeps x.toInCall.keep,codeAny_func ?_};@t,ht,hq:=i A outer s H vs Q E (B.deeper _) l;#I:Inv (jG CX P w K mg base N qual a f c A outer s H E) [] (start N vs) H T:=Ou S B.hd z hl r x;?qM (ht [] T (start N vs) H _ I hq) (λfl s' j=>?_) λe s' j=>j
 #m:∀{σ':St} {H':Hp} {v:V} {u:MD},Inv (jG CX P w K mg base N qual a f c A outer s H E) [] σ' H' s'->RelV v u->Q v H'->CE outer P w H s Q u s' :=
  λ{σ' H' v u} J D q=>{v,H',J.os,J.bare,J.base,J.aS,D,q}
 cases fl with
 |ret u =>
  @v,σ',H',J,D,q:=j;!m J D q
 |next =>
  @σ',H',J,q:=j;!m (v:=V.aR) (u:=Value.none) J rfl q
 |brk =>
  @_,_,_,q:=j;!False.elim q
 |cont =>
  @_,_,_,q:=j;!False.elim q
section
variable {X:Cx}{x:R9}{p pos:Pos}{e:Expr}{es:#Expr}{t:TA}{id T:String}{r:#V->Hp->VK->¤}
§Fy(r:#V->Hp->VK->¤)(t:TA):TE:=λσ H Q=>t σ H λvs H1=>r vs H1 Q
§Qf(l:cA X (.builtin id) r)(k:Gl X x)(i:X.mg x=£)(n:bootBuiltins x=!(.builtin id))(m:PA X (e::es) t)(hn:x≠"__name__":=by decide)(b:(x==("__debug__":R9))=¿:=by decide)(f:starEach (e::es) X.env=(false,eval e X.env)::starEach es X.env:=by rfl)(a:(backTo pos (starEach es X.env)).any (·.1)=¿:=by rfl):PE X (.Call (.Name x p) (e::es) [] pos) (Fy r t):=by
 ?{?_};¢pins s σ H Q I h;?wpAny_Call_Name_kw (iO I k i n ?_ hn b);!PyProof.Rows.callWith_builtin1 (bK (m pos pins s σ H _ I h) λus c ⟨vs,H1,d,j,g⟩=>l pins c σ H1 vs us Q d j g) f a
§N4(l:cA X (.type T) r)(k:Gl X x)(i:X.mg x=£)(n:bootBuiltins x=!(.type T))(m:PA X (e::es) t)(hn:x≠"__name__":=by decide)(b:(x==("__debug__":R9))=¿:=by decide)(f:starEach (e::es) X.env=(false,eval e X.env)::starEach es X.env:=by rfl)(a:(backTo pos (starEach es X.env)).any (·.1)=¿:=by rfl):PE X (.Call (.Name x p) (e::es) [] pos) (Fy r t):=by
 ?{?_};¢pins s σ H Q I h;?wpAny_Call_Name_kw (iO I k i n ?_ hn b);!PyProof.Rows.callWith_type1 (bK (m pos pins s σ H _ I h) λus c ⟨vs,H1,d,j,g⟩=>l pins c σ H1 vs us Q d j g) f a
end
end L2
namespace HT
open PySem PyProof.Rows
§lexLt:#Int->#Int->Bool
 |[],[]=>false
 |[],_::_=>true
 |_::_,[]=>false
 |x::xs,y::ys=>if x=y then lexLt xs ys else decide (x<y)
§eM(x y:Int)(xs ys:#Int):lexLt (x::xs) (y::ys)=if x=y then lexLt xs ys else decide (x<y):=rfl
§NL:lexLt [] []=¿:=rfl
§Q2(y:Int)(ys:#Int):lexLt [] (y::ys)=¶:=rfl
§Mx(x:Int)(xs:#Int):lexLt (x::xs) []=¿:=rfl
§Pg(A:Around)(s:RX)(a:Int)(t:Tok)(c:Int)(u:Tok):∃e,SeqAt.EqAt A s (.int a t) (.int c u) e/\(e=¶↔a=c) :=
 {(a==c),SeqAt.EqAt.int_int a t c u,by simp}
§Mr(A:Around)(s:RX)(a:Int)(t:Tok)(c:Int)(u:Tok)(prog:Program)(w:World)(E:KE)(Q:KE)(h:Q (.bool (decide (a<c))) s) :
  wpAny (model prog w) A (richCompare .Lt (.int a t) (.int c u)) Q E s :=
 (PyProof.Rows.lt_int h:wpAny (model prog w) A (compareOp .Lt (.int a t) (.int c u)) Q E s)
section
open PySem.SeqAt
open PySem.AutoSeq1 (wpAny_loadPart')
open PySem.MeetsSeq PySem.MeetsSeq2 PySem.MeetsSeq3
§QK(l b:R0)(items f:Array MD)(n L:Nat)(K F:Option R0)(sl D:Array (Option MD))(ns ms:#Int)(hi:IntsAre items.toList ns)(G:IntsAre f.toList ms) :
  Meets (Builtin.«tuple.__lt__» {[.ref l,.ref b],[]})
   (λ_ R s=>s.heap.get? l=some { cls:=.type "tuple",dict:=K,data:=.seq items n,slots:=sl }/\s.heap.get? b=some { cls:=.type "tuple",dict:=F,data:=.seq f L,slots:=D } ∧
    R (.ok (.ret (.bool (lexLt ns ms)))) s) :=
 .of_wp λprog w A R s h=>by
  @hp,g,d,tk,C:=s;@M,N,h:=h;#Q:=AutoSeq1.sub_tuple_tuple
  #U:items.size=ns.length:=by[←hi.length];simp
  #P:f.size=ms.length:=by[←G.length];simp
  wp_walk using wpAny_loadPart' M,wpAny_loadPart' N,wpAny_forIn_list _ (λrest b s'=>b.1=£/\s'={hp,g,d,tk,C}/\∃(vs ws:#MD) (k j:#Int),rest=vs.zip ws ∧
   IntsAre vs k/\IntsAre ws j/\k.length+f.size=j.length+items.size/\R (.ok (.ret (.bool (lexLt k j)))) {hp,g,d,tk,C}) _
  case turn =>
   rintro⟨y,x⟩ rest b s' ⟨r,rfl,vs,ws,k,j,hz,v,m,i,p⟩
   cases v with
   |nil=>rw[List.zip_nil_left]at hz;&hz
   |cons a t z =>
    cases m with
    |nil=>rw[List.zip_nil_right]at hz;&hz
    |cons c u B =>
     [nj]at hz;injection hz with hyx hrest;injection hyx with hy hx;subst hy hx;[eM]at p
     simp only[List.length_cons]at i
     @e,I,o:=Pg A.in1 {hp,g,d,tk,C} a t c u;?qA (I prog w _ _ ?_)
     cases e with
     |true =>
      [qF (o.mp rfl)]at p
      wp_walk
      !{O,O,_,_,_,_,hrest,z,B,(),p}
     |false =>
      [qB (λq=>absurd (o.mpr q) qr)]at p;#E:=Mr A.in1 {hp,g,d,tk,C} a t c u prog w
      wp_walk using E
      !{_,O,by ±p}
  case fin =>
   rintro⟨S,T⟩ s' ⟨r,rfl,vs,ws,k,j,hz,v,m,i,p⟩
   simp only at r
   £r
   #H:lexLt k j=decide (items.size<f.size):=by
    cases v with
    |nil =>
     cases m with
     |nil =>
      simp only[List.length_nil]at i
      [NL];!(decide_eq_false ()).symm
     |cons c u J =>
      simp only[List.length_nil,List.length_cons]at i
      [Q2];!(qI ()).symm
    |cons a t H =>
     cases m with
     |nil =>
      simp only[List.length_nil,List.length_cons]at i
      [Mx];!(decide_eq_false ()).symm
     |cons c u J =>
      [nj]at hz;&hz
   [H]at p
   wp_walk
   !{_,O,by simpa[Builtin.Tuple.tupleCompareSizes] using p}
  case h =>
   !{O,O,items.toList,f.toList,ns,ms,O,hi,G,(),h}
end
section
variable {prog:Program}{w:World}{A:Around}{E:KE}{s:RX}
§l6(o:IsTup s.heap l items)(p:IsTup s.heap b a)(hi:IntsAre items.toList ns)(r:IntsAre a.toList ms)(q:A.units<cLine)(h:Q (.bool (lexLt ns ms)) s):wpAny (model prog w) A (compareOp .Lt (.ref l) (.ref b)) Q E s:=by
 @⟨t,v,data,sl⟩,i,m,n,k:=id o;@⟨j,g,f,e⟩,c,d,u,hd2:=id p
 simp only at m k d hd2
 subst m k d hd2
 !richCompare_meets_room (op:=.Lt) {_,i,O} {_,c,O} PySem.F.slot_tuple_lt PySem.F.entry_tuple_lt (PySem.F.args_tuple_lt_2 _ _) (QK l b items a n u v g sl e ns ms hi r)
  {i,c,show Value.bool (lexLt ns ms)≠Value.notImplemented/\Q (.bool (lexLt ns ms)) s from{°,h}} q
§xr(r:IsTup s.heap t vs.toArray)(q:IsTup s.heap b ws.toArray)(p:vs≠[])(h1:ws=[]->Q (.ref t) s)(h2:ws≠[]->Q (.ref ↑s) { s with heap:=s.heap.push { cls:=.type "tuple",data:=.seq (vs++ws).toArray } })(hsz:vs.length+ws.length<=sizeLine):wpAny (model prog w) A (binaryOp .Add (.ref t) (.ref b)) Q E s:=by
 @⟨cls,m,data,sl⟩,g,o,n,l:=id r;@⟨j,f,i,c⟩,a,d,k,hd2:=id q
 simp only at o l d hd2
 subst o l d hd2
 #e:vs.toArray++ws.toArray=(vs++ws).toArray:=by simp
 ¿h:ws=[]
 .!concat_meets {_,g,O} {_,a,O} noFill_tuple_add seq_tuple_add PySem.F.slot_tuple_add PySem.F.entry_tuple_add (PySem.F.args_tuple_add_2 _ _)
   (tuple_addW1 t b vs.toArray ws.toArray n k m f sl c (by ±p) (by simp[h])) {g,a,h1 h}
 .?concat_meets {_,g,O} {_,a,O} noFill_tuple_add seq_tuple_add PySem.F.slot_tuple_add PySem.F.entry_tuple_add (PySem.F.args_tuple_add_2 _ _)
   (tuple_addW2 t b vs.toArray ws.toArray n k m f sl c (by ±p) (by ±h) (by[List.size_toArray,List.size_toArray];!hsz)) {g,a,?_}
  [e];!h2 h
§bZ(n d:Nat):Option Int->Nat
 |none=>d
 |some v=>if v<0 then(v+(n:Int)).toNat else min v.toNat n
§sh(n d:Nat):bZ n d none=d:=rfl
§nM(n d k:Nat):bZ n d (!(k:Int))=min k n:=by
 ¤(if(k:Int)<0 then((k:Int)+(n:Int)).toNat else min (k:Int).toNat n)=min k n;[qB (),Int.toNat_natCast]
§CF(n d:Nat)(b:d<=n)(o:Option Int):bZ n d o<=n:=by
 cases o with
 |none=>!b
 |some v =>
  ¤(if v<0 then(v+(n:Int)).toNat else min v.toNat n)<=n
  ¿a:v<0
  .[qF a];¥
  .[qB a];!jh _ _
§G3(v:Int)(n d:Nat):(if v<0 then max (v+(n:Int)) 0 else min v (n:Int))=((bZ n d (!v):Nat):Int):=by
 ¤(if v<0 then max (v+(n:Int)) 0 else min v (n:Int))=(((if v<0 then(v+(n:Int)).toNat else min v.toNat n):Nat):Int)
 ¿a:v<0
 .simp only[if_pos a];¥
 .simp only[if_neg a];¥
§MU(lo hi:Option Int)(n:Nat):Builtin.Slice.sliceAdjust lo hi 1 (n:Int)=(((bZ n 0 lo:Nat):Int),((bZ n n hi:Nat):Int)):=by
 #h1:¬((1:Int)<0):=()
 ¶Builtin.Slice.sliceAdjust
 simp only[h1,if_false]
 ?Prod.ext ?_ ?_
 .cases lo with
  |none=>rfl
  |some v=>!G3 v n 0
 .cases hi with
  |none=>rfl
  |some v=>!G3 v n n
§QB(i j:Nat):Builtin.Slice.slicePlaces (i:Int) (j:Int) 1=j - i:=by
 ¶Builtin.Slice.slicePlaces
 #h1:(1:Int)>0:=()
 simp only[h1,if_true,Int.ediv_one]
 split <;> ¥
§HF(p:IsPart v o)(h:Q o s):wpAny (model prog w) A (Builtin.Slice.slicePartIndex v) Q E s:=by
 cases p with
 |none=>!slicePart_none h
 |int i t=>!slicePart_int h
§Qg{sl:R0}{c d:MD}{lo hi:Option Int}{n:Nat}{Q:Int×Int×Nat->RX->¤}(g:s.heap.IsSliceOf sl c d .none)(f:IsPart c lo)(i:IsPart d hi)(h:Q (((bZ n 0 lo:Nat):Int),1,bZ n n hi - bZ n 0 lo) s):wpAny (model prog w) A (Builtin.Slice.sliceApplied (.ref sl) (pure (n:Int))) Q E s:=by
 @j,a,e,b:=id g;unfold Builtin.Slice.sliceApplied Builtin.Slice.sliceFields;?qA (qA (wpAny_field a b (x:=c) rfl (qA (wpAny_field a b (x:=d) rfl (qA (wpAny_field a b (x:=.none) rfl (qE ?_)))))));?qA (slicePart_none ?_);¤wpAny _ _ (if((1:Int)==0)=¶ then _ else _) _ _ s;[qB ⋯];?qA (HF f (qA (HF i (qA (qE ?_)))));¤wpAny _ _ (match Builtin.Slice.sliceAdjust lo hi 1 (n:Int) with|(lo,hi)=>pure (lo,(1:Int),Builtin.Slice.slicePlaces lo hi 1)) _ _ s;[MU lo hi n];¤wpAny _ _ (pure (((bZ n 0 lo:Nat):Int),(1:Int),Builtin.Slice.slicePlaces ((bZ n 0 lo:Nat):Int) ((bZ n n hi:Nat):Int) 1)) _ _ s;[QB];!qE h
§Pb(xs:Array MD)(i k:Nat):((List.range k).filterMap λ(m:Nat)=>xs[((i:Int)+(m:Int) * 1).toNat]?).toArray=((xs.toList.drop i).take k).toArray:=by
 #e:(λ(m:Nat)=>xs[((i:Int)+(m:Int) * 1).toNat]?)=λm=>xs[i+m]?:=by
  funext m
  #:((i:Int)+(m:Int) * 1).toNat=i+m:=()
  [this]
 [e];#:=pick_run xs i k;[List.filterMap_map]at this;#a:((λx=>xs[x]?)∘λx=>i+x)=λm=>xs[i+m]?:=rfl;[a]at this;[this]
§eS{t sl:R0}{items:Array MD}{g j:MD}{lo hi:Option Int}{Q:KE}(b:IsTup s.heap t items)(i:s.heap.IsSliceOf sl g j .none)(l:IsPart g lo)(k:IsPart j hi)(o:¬(bZ items.size 0 lo=0/\bZ items.size items.size hi=items.size))(h:Q (.ref ↑s) { s with heap:=s.heap.push { cls:=.type "tuple",data:=.seq ((items.toList.drop (bZ items.size 0 lo)).take (bZ items.size items.size hi - bZ items.size 0 lo)).toArray } })(hsz:items.size<=sizeLine):wpAny (model prog w) A (getItem (.ref t) (.ref sl)) Q E s:=by
 #a:sizeOk (.seq ((items.toList.drop (bZ items.size 0 lo)).take (bZ items.size items.size hi - bZ items.size 0 lo)).toArray):=by
  ¤((items.toList.drop (bZ items.size 0 lo)).take (bZ items.size items.size hi - bZ items.size 0 lo)).toArray.size<=sizeLine;[zg,wv,yf,zx];¥
 #u:bZ items.size items.size hi<=items.size:=CF _ _ (qe _) hi;@n,d,c,p:=id i;#f:s.TypeIs (.ref sl) "slice":={n,d,c};¶getItem
 try with_reducible ?qK ?_
 first|?qA (qE ?_)|skip
 ?qA (wpAny_sequenceKey b.typeIs ⋯ ?_)
 ?qA (wpAny_callSpecial?_slot (name:=Str.ofString "__getitem__") b.typeIs PyProof.Rows.slot_tuple_getitem
  (qN PyProof.Rows.slot_tuple_getitem b.typeIs entry_tuple_getitem ?_ (args_tuple_getitem _ _)))
 ¤wpAny _ _ (Builtin.Tuple.tupleItemsOf (.ref t) >>= _) _ _ s;?qA (tupleItemsOf_ b ?_);?qA (wpAny_typeOf f ?_);[qF ⋯];?qA (Qg i l k ?_)
 #e:¬((((bZ items.size 0 lo:Nat):Int)==0&&(1:Int)==1&&(bZ items.size items.size hi - bZ items.size 0 lo)==items.size)=¶):=by
  ¢q;[zt,zt]at q;#r:((bZ items.size 0 lo:Nat):Int)=0:=eq_of_beq q.1.1;#v:bZ items.size items.size hi - bZ items.size 0 lo=items.size:=eq_of_beq q.2;!o {(),()}
 ¤wpAny _ _ (if(((bZ items.size 0 lo:Nat):Int)==0&&(1:Int)==1&&(bZ items.size items.size hi - bZ items.size 0 lo)==items.size)=¶ then _ else _) _ _ s;[qB e,Pb]
 first
  |!qA (m:=Builtin.Tuple.tupleExact _) (wpAny_newObj_type (qE ⟨_,O,qE h⟩) a)
  |!qA (m:=Builtin.Tuple.tupleExact _) (wpAny_newObj_type (qA (qE (qE ⟨_,O,qE h⟩))) a)
  |!qA (qA (m:=Builtin.Tuple.tupleExact _) (wpAny_newObj_type (qE (qE ⟨_,O,qE h⟩)) a))
  |!qA (qA (m:=Builtin.Tuple.tupleExact _) (wpAny_newObj_type (qE ⟨_,O,qE h⟩) a))
end
end HT
namespace L2
open PySem PySem.Spec PyProof.Rows
abbrev TO:=St->Hp->(Option Int->Hp->¤)->¤
§Q7(X:Cx)(e:Option Expr)(t:TO):Prop :=
 ∀(pins:#(R0×Obj)) (s:RX) (σ:St) (H:Hp) (Q:Option Int->Hp->¤),Inv X pins σ H s->t σ H Q->
  wpAny (model X.prog X.w) X.A (evalPart e X.env) (λu s'=>∃o H',Inv X pins σ H' s'/\IsPart u o/\Q o H') X.xe s
structure PO(X:Cx)(e:Option Expr)(t:TO):Prop where run:Q7 X e t
instance Rz{X:Cx}{e:Option Expr}{t:TO}:CoeFun (PO X e t) λ_=>Q7 X e t:={PO.run}
§xA:TO:=λ_ H Q=>Q none H
inductive EI(Q:Option Int->Hp->¤)(x:V)(H1:Hp):Prop
 |mk(i:_)(_:x=.int i)(_:Q (!i) H1)
§IL(t:TE):TO:=λσ H Q=>t σ H λx H1=>EI Q x H1
§Hc:∀{us:#MD},aK (ns.map V.int) us->IntsAre us ns:=by
 induction ns with
 |nil=>intro us r;[j7]at r;&r;!.nil
 |cons n ns b =>
  ¢us r;[zn]at r
  cases r with
  |cons a c =>
   @t,e:=a;£e;!.cons n t (b c)
section
variable {X:Cx}{e:Expr}{te:TE}{lo hi:Option Expr}{tl th:TO}{pos p2:Pos}
§B0:PO X none xA:=by
 ?{?_};¢pins s σ H Q I h;[evalPart_none];!qE {none,H,I,.none,h}
§f'(h:PE X e te):PO X (!e) (IL te):=by
 ?{?_};¢pins s σ H Q I c;[evalPart_some];?bK (h pins s σ H _ I c) λu f ⟨x,H1,a,d,b⟩=>?_;@i,rfl,q:=b;@t,rfl:=d;!{!i,H1,a,.int i t,q}
§xF(X:Cx)(r:V->Option Int->Option Int->Hp->VK->¤):Prop :=
 ∀(pins:#(R0×Obj)) (s:RX) (σ:St) (H:Hp) (x:V) (v a b:MD) (lo hi:Option Int) (sl:R0) (Q:VK),Inv X pins σ H s->RelV x v->s.heap.IsSliceOf sl a b .none->IsPart a lo->IsPart b hi->r x lo hi H Q->
  ∃T id,typeLookup (.type T) "__getitem__"=pure (!(.builtin id))/\s.TypeIs v T/\wpAny (model X.prog X.w) X.A (getItem v (.ref sl)) (EP X pins σ Q) X.xe s
§RB(r:V->Option Int->Option Int->Hp->VK->¤)(te:TE)(tl th:TO):TE:=λσ H Q=>te σ H λx H1=>tl σ H1 λl H2=>th σ H2 λu a=>r x l u a Q
§oR(j:xF X r)(k:PE X e te)(J:PO X lo tl)(t:PO X hi th):PE X (.Subscript e (.Slice lo hi none p2) pos) (RB r te tl th):=by
 ?{?_};¢pins s σ H Q I h;?Subscript_ (bK (k pins s σ H _ I h) λv G ⟨x,H1,i,o,m⟩=>?_);?wpAny_Slice (bK (J pins G σ H1 _ i m) λc s2 ⟨l,H2,E,F,n⟩=>bK (t pins s2 σ H2 _ E n) λd a ⟨u,f,D,B,p⟩=>?_);[evalPart_none];?qE ?_;#g:Inv X pins σ f { a with heap:=a.heap.push { cls:=.type "slice",data:=.fields #[c,d,.none] } }:=D.kept (t':=a.toks) λb ob q=>qH _ q;@T,id,y,C,z:=j pins { a with heap:=a.heap.push { cls:=.type "slice",data:=.fields #[c,d,.none] } } σ f x v c d l u ↑a Q g o (Heap.IsSliceOf.new ..) F B p;¤wpAny (model X.prog X.w) X.A (subscriptTail e (.Slice lo hi none p2) v (.ref ↑a)) (EP X pins σ Q) X.xe { a with heap:=a.heap.push { cls:=.type "slice",data:=.fields #[c,d,.none] } };!tail_any (ops:=[.ref ↑a,v]) C y z (by with_unfolding_all rfl)
§dY(xs:#V)(lo hi:Option Int):#V:=(xs.drop (HT.bZ xs.length 0 lo)).take (HT.bZ xs.length xs.length hi - HT.bZ xs.length 0 lo)
§Fj(xs:#V)(lo hi:Option Int):(dY xs lo hi).length<=xs.length:=by
 ¶dY;[wv,yf];¥
inductive PC(x:V)(lo:Option Int)(hi:Option Int)(H:Hp)(Q:VK):Prop
 |mk(a xs:_)(_:x=.ref a)(_:aZ H a xs)(_:¬(HT.bZ xs.length 0 lo=0/\HT.bZ xs.length xs.length hi=xs.length))(_:∀p,H p=£->Q (.ref p) (upd H p (.tup (dY xs lo hi))))
§Cj:xF X (PC):=by
 ¢pins s σ H x v l m lo hi sl Q I f i e k h;@a,xs,rfl,g,j,q:=h;&f;@its,r,d,hz:=I.tuple g
 #c:its.toArray.size=xs.length:=by[zg];!r.length.symm
 ?{"tuple",_,PyProof.Rows.slot_tuple_getitem.lookup,d.typeIs,?_};?HT.eS d i e k (by[c];!j) ?_ (by[c];!hz);[c];?{.ref ↑s,_,I.laid (t':=s.toks) (o:=.tup (dY xs lo hi)) (λb ob q=>qH _ q) (qe _) ?_,O,q _ (I.aS.fresh (qe _))};!{qg (Fj xs lo hi) hz,_,(r.drop (HT.bZ xs.length 0 lo)).take (HT.bZ xs.length xs.length hi - HT.bZ xs.length 0 lo),IsTup.new _ _}
inductive Pm(x y:V)(H:Hp)(Q:VK):Prop
 |mk(a b ns ms:_)(_:x=.ref a)(_:y=.ref b)(_:aZ H a (ns.map V.int))(_:aZ H b (ms.map V.int))(_:Q (.bl (HT.lexLt ns ms)) H)
§D7(g:X.A.units<cLine):dh X (compareOp .Lt) (Pm):=by
 ¢pins s σ H x y v u Q I f i h;@a,b,ns,ms,rfl,rfl,l,d,q:=h;&f;&i;@its,j,e,_:=I.tuple l;@c,m,p2,_:=I.tuple d;#k:IntsAre its.toArray.toList ns:=Hc j;#n:IntsAre c.toArray.toList ms:=Hc m;!HT.l6 e p2 k n g {.bl (HT.lexLt ns ms),H,I,O,q}
inductive Hy(x y:V)(H:Hp)(Q:VK):Prop
 |mk(a b xs ys:_)(_:x=.ref a)(_:y=.ref b)(_:aZ H a xs)(_:aZ H b ys)(_:xs≠[])(_:xs.length+ys.length<=sizeLine)(_:(ys=[]->Q (.ref a) H))(_:(ys≠[]->∀p,H p=£->Q (.ref p) (upd H p (.tup (xs++ys)))))
§aK.jI(r:aK xs us):us=[]↔xs=[]:=by
 cases r with
 |nil=>simp
 |cons _ _=>simp
§MX:dh X (binaryOp .Add) (Hy):=by
 ¢pins s σ H x y v u Q I i l h;@a,b,xs,ys,rfl,rfl,n,f,g,hz,j,k:=h;&i;&l;@its,d,m,_:=I.tuple n;@e,c,p2,_:=I.tuple f;?HT.xr m p2 (λz=>g (d.jI.mp z)) (λz=>{.ref a,H,I,O,j (c.jI.mp z)}) (λz=>?_) (by[←d.length,←c.length];!hz);?{.ref ↑s,_,I.laid (t':=s.toks) (o:=.tup (xs++ys)) (λb ob q=>qH _ q) (qe _) ?_,O,k (λw=>z (c.jI.mpr w)) _ (I.aS.fresh (qe _))};!{by[qi];!hz,_,d.append c,IsTup.new _ _}
end
§uA(n:Nat)(i:Int):Option Nat:=if 0<=i then(if i<n then some i.toNat else none) else if -(n:Int)<=i then some (i+n).toNat else none
§l8{α:Type}(xs:List α)(i:Int):Option α:=(uA xs.length i).bind λj=>xs[j]?
§GB(h:uA n i=!j):seqIndex? i n=!j/\j<n/\-(n:Int)<=i/\i<n:=by
 unfold uA at h
 ¿h0:0<=i
 .[qF h0]at h
  ¿h1:i<n
  .[qF h1]at h
   #e:i.toNat=j:=qJ h;!{by[seqIndex_of h0 h1,e],(),(),h1}
  .[qB h1]at h;&h
 .[qB h0]at h
  ¿h1:-(n:Int)<=i
  .[qF h1]at h
   #e:(i+n).toNat=j:=qJ h;!{by[seqIndex_neg () h1,e],(),h1,()}
  .[qB h1]at h;&h
§BV{α:Type}{xs:List α}{i:Int}{v:α}(h:l8 xs i=!v):∃j,seqIndex? i xs.length=!j/\xs[j]?=!v/\j<xs.length/\-(xs.length:Int)<=i/\i<xs.length:=by
 unfold l8 at h
 cases e:uA xs.length i with
 |none=>rw[e]at h;&h
 |some j =>
  [e]at h;@h1,h2,a,b:=GB e;!{j,h1,h,h2,a,b}
§xH{α:Type}{xs:List α}{j:Nat}{v:α}(h:xs[j]?=!v):l8 xs (j:Int)=!v:=by
 #a:j<xs.length:=(qk.mp h).1
 #e:uA xs.length (j:Int)=!j:=by
  ¶uA;[qF (),qF ()];simp
 ¶l8;[e];!h
§gK(b:Expr):Prop:=∀o i,subscripted b false o i=operate [o,i] (getItem o i)
§KZ(X:Cx)(r:R2):Prop :=
 ∀(value a:Expr) (pins:#(R0×Obj)) (s:RX) (σ:St) (H:Hp) (x y:V) (v u:MD) (Q:VK),Inv X pins σ H s->RelV x v->RelV y u->r x y H Q->
  subscripted a false v u=operate [v,u] (getItem v u)->wpAny (model X.prog X.w) X.A (subscriptTail value a v u) (EP X pins σ Q) X.xe s
§Gi(X:Cx)(id:String)(r:V->#V->Hp->VK->¤):Prop :=
 ∀(pins:#(R0×Obj)) (s:RX) (σ:St) (H:Hp) (x:V) (xs:#V) (v:MD) (us:#MD) (Q:VK),Inv X pins σ H s->RelV x v->aK xs us->r x xs H Q->
  wpAny (model X.prog X.w) X.A (call (.builtin id) (v::us)) (EP X pins σ Q) X.xe s
section
variable {X:Cx}{a b:Expr}{ta tb:TE}{pos:Pos}
§iS(d:KZ X r)(j:PE X a ta)(c:PE X b tb)(f:gK b):PE X (.Subscript a b pos) (uy r ta tb):=by
 ?{?_};¢pins s σ H Q I h;!Subscript_ (AO j c I h λv u s2 x y H2 g e i q=>d a b pins s2 σ H2 x y v u Q g e i q (f _ _))
inductive E8(x y:V)(H:Hp)(Q:VK):Prop
 |mk(p xs i v:_)(_:x=.ref p)(_:y=.int i)(_:aA H p xs)(_:l8 xs i=!v)(_:Q v H)
inductive DN(x y:V)(H:Hp)(Q:VK):Prop
 |mk(p xs i v:_)(_:x=.ref p)(_:y=.int i)(_:aZ H p xs)(_:l8 xs i=!v)(_:Q v H)
inductive Qj(x y:V)(H:Hp)(Q:VK):Prop
 |mk(z i c:_)(_:x=.str z)(_:y=.int i)(_:z.length<=sizeLine)(_:l8 z.cps.toList i=!c)(_:Q (.str ⟨#[c]⟩) H)
§EE:KZ X (E8):=by
 ¢value d pins s σ H x y v u Q I m A h g;@p,xs,i,z,rfl,rfl,o,n,q:=h;&m;@t,rfl:=A;@its,r,b,hz:=I.list o;@j,h1,h2,C,B,l:=BV n;@w,f,e:=r.get h2;#k:=r.length;#hn:=px;#a:EP X pins σ Q w s:={z,H,I,e,q}
 ¿h0:0<=i
 .#c:i.toNat=j:=by
   [seqIndex_of h0 l]at h1;!qJ h1
  !item_listR b.isList h0 () (by[c];±f) a g
 .#c:(i+(its.toArray.size:Int)).toNat=j:=by
   [seqIndex_neg () B]at h1;[zg,←k];!qJ h1
  !subscriptTail_builtinR (x:=w) b.isList.typeIs slot_list_getitem.lookup
   (wpAny_getItem_list_neg (Q:=λr s'=>r=w/\EP X pins σ Q r s') b.isList () (by[List.size_toArray] <;> ¥) () (by[c];±f) {O,a}) g
§HY:KZ X (DN):=by
 ¢value b pins s σ H x y v u Q I g n h m;@p,xs,i,z,rfl,rfl,l,k,q:=h;&g;@t,rfl:=n;@its,r,d,hz:=I.tuple l;@j,h1,h2,o,B,A:=BV k;@w,e,c:=r.get h2;#f:=r.length;#hn:=px;#a:EP X pins σ Q w s:={z,H,I,c,q}
 !subscriptTail_builtinR (x:=w) d.typeIs slot_tuple_getitem.lookup
  (getItem_tuple (j:=j) (Q:=λr s'=>r=w/\EP X pins σ Q r s') d () () (by[List.size_toArray,←f];!h1) (by ±e) {O,a}) m
§ER:KZ X Qj:=by
 ¢value a pins s σ H x y v u Q I e l h k;@z,i,c,rfl,rfl,hz,g,q:=h;@t,rfl:=e;@t',rfl:=l;@j,h1,h2,o,m,f:=BV g
 #b:z.cps.toList.length=z.length:=by simp[Str.length]
 [b]at h1 m f;#hn:=px
 !tail_any (typeIs_str s z t) slot_str_getitem.lookup (getItem_str (c:=c) (by
  #n:decide (i < -(2 ^ 63:Int))=¿:=decide_eq_false ();#d:decide (i>=2 ^ 63)=¿:=decide_eq_false ()
  [n,d,Bool.or_false]) (by[h1];±h2) {.str {#[c]},H,I.tok _,{_,O},q}) k
§Po(its:#MD)(n j:Nat)(u:MD):Obj.mapSeq (·.setIfInBounds j u) { cls:=.type "list",data:=.seq its.toArray n }={ cls:=.type "list",data:=.seq (its.set j u).toArray n }:=by
 simp[Obj.mapSeq]
theorem Inv.lst{pins:#(R0×Obj)}{σ:St}{H:Hp}{s:RX}{p:R0}{xs:#V}(I:Inv X pins σ H s)(h:H p=!(.lst xs)) :
  ∃(its:#MD) (n:Nat),aK xs its/\s.heap.get? p=some { cls:=.type "list",data:=.seq its.toArray n }/\xs.length<=sizeLine:=by
 @z,its,n,r,e:=I.aS p _ h;!{its,n,r,e,z}
§Inv.qS{pins:#(R0×Obj)}{σ:St}{H:Hp}{s:RX}{p:R0}{xs ys:#V}{its its':#MD}{n n':Nat}{f:Obj->Obj}(I:Inv X pins σ H s)(h:H p=!(.lst xs))(c:s.heap.get? p=some { cls:=.type "list",data:=.seq its.toArray n })(a:f { cls:=.type "list",data:=.seq its.toArray n }={ cls:=.type "list",data:=.seq its'.toArray n' })(r:aK ys its')(hz:ys.length<=sizeLine)(t:Nat) :
  Inv X pins σ (upd H p (.lst ys)) { s with heap:=s.heap.update p f,toks:=t }:=by
 #e:(s.heap.update p f).get? p=some { cls:=.type "list",data:=.seq its'.toArray n' }:=by
  [Heap.get?_update_self f c (by[a] <;> rfl),a]
 ?I.write (x:=p) (e:=p) (by[h];trivial) (.inl rfl) (λb u d q=>(Heap.get?_update_other _ _ (Ne.symm d)).trans q) {_,e} ?_;!{hz,its',n',r,e}
inductive J8(o i v:V)(H:Hp)(Q:(Hp->¤)):Prop
 |mk(p xs k j:_)(_:o=.ref p)(_:i=.int k)(_:H p=!(.lst xs))(_:uA xs.length k=!j)(_:Q (upd H p (.lst (xs.set j v))))
§IY:G4 X J8:=by
 ¢pins s σ H o i v y x u Q I l w g h;@p,xs,k,j,rfl,rfl,hp,m,q:=h;&l;@t,rfl:=w;@its,n,r,a,hz:=I.lst hp;@h1,h2,d,f:=GB m;#b:=r.length;#hn:=px
 #e:Inv X pins σ (upd H p (.lst (xs.set j v))) { s with heap:=s.heap.update p (Obj.mapSeq (·.setIfInBounds j u)) } :=
  I.qS hp a (Po its n j u) (r.set g j) (by[List.length_set];!hz) s.toks
 ¿h0:0<=k
 .#c:k.toNat=j:=by
   [seqIndex_of h0 f]at h1;!qJ h1
  !PySem.W.ki_setAt a h0 () (by[zg,←b];!f) (by[c];!{_,e,q})
 .#c:(k+(its.toArray.size:Int)).toNat=j:=by
   [seqIndex_neg () d]at h1;[zg,←b];!qJ h1
  !PySem.W.ki_setBack a () (by[zg,←b];!d) () (by[c];!{_,e,q})
§Mv(lo hi:Option Int)(n:Nat):(sliceBounds lo hi none n).1=((HT.bZ n 0 lo:Nat):Int)/\(sliceBounds lo hi none n).2.1=((HT.bZ n n hi:Nat):Int)/\(sliceBounds lo hi none n).2.2=1:=by
 ?{?_,?_,O}
 .cases lo with
  |none=>simp[sliceBounds,HT.bZ]
  |some i =>
   simp only[sliceBounds,HT.bZ,Option.getD_none,show(1:Int)>0 from ⋯,if_true]
   ¿h:i<0
   .simp only[h,if_true] <;> ¥
   .simp only[h,if_false] <;> ¥
 .cases hi with
  |none=>simp[sliceBounds,HT.bZ]
  |some i =>
   simp only[sliceBounds,HT.bZ,Option.getD_none,show(1:Int)>0 from ⋯,if_true]
   ¿h:i<0
   .simp only[h,if_true] <;> ¥
   .simp only[h,if_false] <;> ¥
§Qa(its:#MD)(lo hi:Option Int):slicePick its.toArray lo hi none=((its.drop (HT.bZ its.length 0 lo)).take (HT.bZ its.length its.length hi - HT.bZ its.length 0 lo)).toArray:=by
 @h1,h2,a:=Mv lo hi its.toArray.size;¶slicePick;[h1,h2,a]
 simp only[sliceRange_one,pick_run,List.size_toArray] <;> rfl
inductive Md(x:V)(lo:Option Int)(hi:Option Int)(H:Hp)(Q:VK):Prop
 |mk(a xs:_)(_:x=.ref a)(_:aA H a xs)(_:∀p,H p=£->Q (.ref p) (upd H p (.lst (dY xs lo hi))))
§Qs:xF X (Md):=by
 ¢pins s σ H x v k l lo hi sl Q I f i e j h;@a,xs,rfl,g,q:=h;&f;@its,r,d,hz:=I.list g;#c:=r.length;?{"list",_,slot_list_getitem.lookup,d.isList.typeIs,?_};?wpAny_getItem_list_slice d.isList i e j .none (by simp) ?_ (by[List.size_toArray] <;> ¥);[Qa,←c];?{.ref ↑s,_,I.laid (t':=s.toks) (o:=.lst (dY xs lo hi)) (λb ob q=>qH _ q) (qe _) ?_,O,q _ (I.aS.fresh (qe _))};!{qg (Fj xs lo hi) hz,_,0,(r.drop (HT.bZ xs.length 0 lo)).take (HT.bZ xs.length xs.length hi - HT.bZ xs.length 0 lo),qL _ rfl}
inductive iF(xs:#V)(H:Hp)(Q:VK):Prop
 |mk(p ys:_)(_:xs=[.ref p])(_:(aA H p ys\/aZ H p ys))(_:Q (.int ys.length) H)
§cZ:cA X (.builtin "len") (iF):=by
 ¢pins s σ H xs us Q I r h;@p,ys,rfl,b,q:=h;@u,rfl,e:=vals1 r;&e;#hn:=px;@b|b:=b
 .@its,d,c,hz:=I.list b
  #a:=d.length;!Calls.call_len_list c.isList (by simp only[List.size_toArray] <;> ¥) {.int ys.length,H,I.tok _,{s.toks+1,by[List.size_toArray,a]},q}
 .@its,d,c,hz:=I.tuple b
  #a:=d.length;!len_tuple c (by simp only[List.size_toArray] <;> ¥) {.int ys.length,H,I.tok _,{s.toks+1,by[List.size_toArray,a]},q}
inductive iw(xs:#V)(H:Hp)(Q:VK):Prop
 |mk(p ys:_)(_:xs=[.ref p])(_:(aA H p ys\/aZ H p ys))(_:∀l,H l=£->Q (.ref l) (upd H l (.lst ys)))
§N2:cA X (.type "list") (iw):=by
 ¢pins s σ H xs us Q I r h;@p,ys,rfl,g,q:=h;@u,rfl,m:=vals1 r;&m
 #f:∀(its:#MD),aK ys its->ys.length<=sizeLine->∀(h':Heap) (c:Nat),(∀b o',s.heap.get? b=!o'->h'.get? b=!o')->
   h'.get? ↑s=some { cls:=.type "list",dict:=£,data:=.seq its.toArray c,slots:=#[] }->EP X pins σ Q (.ref ↑s) { s with heap:=h' }:=λits a hz h' c kp e =>
  {.ref ↑s,_,I.laid (t':=s.toks) kp (qe _) (show aV X.prog X.w _ h' _ (.lst ys) from{hz,its,c,a,e}),O,q _ (I.aS.fresh (qe _))}
 @g|g:=g
 .@its,a,j,hz:=I.list g
  #d:=a.length;@o,i,k,n,l:=j.isList;!call_list_seq p (.inl rfl) i k l (λh' c kp e=>f its a hz h' c kp e) (by simp only[List.size_toArray] <;> ¥)
 .@its,a,j,hz:=I.tuple g
  #d:=a.length;@o,i,k,n,l:=j;!call_list_seq p (.inr rfl) i k l (λh' c kp e=>f its a hz h' c kp e) (by simp only[List.size_toArray] <;> ¥)
§L9(T:String)(x:V)(H:Hp):Prop:=match x with
 |.str _=>T = "str"
 |.int _=>T = "int"
 |.ref p=>(T = "list" /\ ∃xs,aA H p xs)\/(T = "tuple" /\ False) ∨
   (T = "dict" /\ ((∃kvs,H p=!(.dK kvs))\/(∃kvs,H p=!(.dT kvs))\/∃kvs,H p=!(.dG kvs)))\/(T = "set" /\ ∃S n,H p=!(.set S n))
 |_=>False
§Ks{pins:#(R0×Obj)}{σ:St}{H:Hp}{s:RX}{T:String}{x:V}{v:MD}(I:Inv X pins σ H s)(r:RelV x v)(ty:L9 T x H) :
  s.TypeIs v T/\∀a,v=.ref a->∃ob,s.heap.get? a=!ob/\ob.dict=£:=by
 cases x with
 |str z =>
  @t,rfl:=r;&(show T = "str" from ty);!{typeIs_str s z t,λ_=>°}
 |int i =>
  @t,rfl:=r;&(show T = "int" from ty);!{typeIs_int s i t,λ_=>°}
 |ref p =>
  &r;@⟨rfl,xs,h⟩|⟨rfl,g⟩|⟨rfl,b⟩|⟨rfl,S,n,b⟩:=ty
  .@its,_,f,_:=I.list h
   ?{f.isList.typeIs,λa e=>?_};&e;@o,n,e,c,j,_:=f;!{o,e,j}
  .!g.elim
  .#z:∃o,s.heap.get? p=!o/\o.ExactDict:=by
    @⟨kvs,b⟩|⟨kvs,b⟩|⟨kvs,b⟩:=b
    .@_,_,_,_,o,_,_,e,ex,_:=I.aS p _ b
     !{o,e,ex}
    .@_,_,_,_,o,_,_,e,ex,_:=I.aS p _ b
     !{o,e,ex}
    .@_,_,_,_,o,_,_,e,ex,_:=I.aS p _ b
     !{o,e,ex}
   @o,e,ex:=z;?{{o,e,ex.1},λa d=>?_};&d;!{o,e,ex.2.1}
  .@o,_,_,_,e,ex,_:=I.aS p _ b
   ?{{o,e,ex.1},λa d=>?_};&d;!{o,e,ex.2.1}
 |_=>!False.elim ty
§MV(T:String)(r:V->#V->Hp->VK->¤)(to:TE):TE:=λσ H Q=>to σ H λx H1=>L9 T x H1/\r x [] H1 Q
§Oi(T:String)(r:V->#V->Hp->VK->¤)(to:TE)(t:TA):TE:=λσ H Q=>to σ H λx H1=>L9 T x H1/\t σ H1 λxs H2=>r x xs H2 Q
variable {o e:Expr}{es:#Expr}{to:TE}{t:TA}{name:R9}{apos cpos:Pos}{T id:String}{r:V->#V->Hp->VK->¤}
§BO(k:PlainAttrs T)(slot:Slot T name id)(c:typeOf (.builtin id)=pure (.type "method_descriptor"))(j:Gi X id r)(f:PE X o to)(b:attributeBase o name X.env (eval o X.env)=eval o X.env:=by rfl)(a:(apos.endLine==cpos.line)=¶:=by rfl):PE X (.Call (.Attribute o name apos) [] [] cpos) (MV T r to):=by
 ?{?_};¢pins s σ H Q I h;?wpAny_Call_method0_late b a (bK (f pins s σ H _ I h) λv g ⟨x,H1,d,e,ty,i⟩=>?_);@h1,h2:=Ks d e ty;!{T,id,k,slot,c,h1,h2,Calls.callWith_builtin rfl (PySem.evalArgs_none (j pins g σ H1 x [] v [] Q d e .nil i))}
§JM(u:PlainAttrs T)(slot:Slot T name id)(f:typeOf (.builtin id)=pure (.type "method_descriptor"))(m:Gi X id r)(k:PE X o to)(y:PA X (e::es) t)(c:attributeBase o name X.env (eval o X.env)=eval o X.env:=by rfl)(d:((backTo cpos (starEach (e::es) X.env)).all (λx=>not x.1)&&(backToKw cpos (keywordEach [] X.env)).all (λx=>x.1.isSome)
   && decide ((e::es).length+([]:#Keyword).length+(if([]:#Keyword).isEmpty then 0 else 1)<30))=¶:=by rfl)(b:(apos.endLine==cpos.line)=¶:=by rfl)(w:starEach (e::es) X.env=(false,eval e X.env)::starEach es X.env:=by rfl)(a:(backTo cpos (starEach es X.env)).any (·.1)=¿:=by rfl) :
  PE X (.Call (.Attribute o name apos) (e::es) [] cpos) (Oi T r to t):=by
 ?{?_};¢pins s σ H Q I h;?wpAny_Call_method_late c d b rfl (bK (k pins s σ H _ I h) λv l ⟨x,H1,g,j,ty,n⟩=>?_);@h1,h2:=Ks g j ty;?{T,id,u,slot,f,h1,h2,?_};#i:=y cpos pins l σ H1 _ g n;[w]at i ⊢;?Calls.callWith_builtin (by ¤(false||(backTo cpos (starEach es X.env)).any (·.1))=¿;[a] <;> rfl) (Calls.evalArgs_plain ?_);!bK i λus s2 ⟨vs,H2,q,z,p⟩=>m pins s2 σ H2 x vs v us Q q j z p
end
§wN(X:Cx)(id:String)(r:V->#V->Hp->VK->¤):Prop :=
 ∀(pins:#(R0×Obj)) (s:RX) (σ:St) (H:Hp) (x:V) (xs:#V) (v:MD) (us:#MD) (Q:VK),Inv X pins σ H s->RelV x v->aK xs us->r x xs H Q->
  wpAny (model X.prog X.w) X.A (call (.builtin id) (v::us)) (EP X pins σ Q) X.xe s
§aK.tl(h:aK (x::xs) us):∃u vs,us=u::vs/\RelV x u/\aK xs vs:=by
 cases h with
 |cons r t=>!{_,_,O,r,t}
§aK.one:∀{x:V} {us:#MD},aK [x] us->∃u,us=[u]/\RelV x u:=by
 ¢x us h
 cases h with
 |cons r t=>cases t;!{_,O,r}
§aK.two:∀{x y:V} {us:#MD},aK [x,y] us->∃u v,us=[u,v]/\RelV x u/\RelV y v:=by
 ¢x y us h;@u,vs,rfl,r,t:=aK.tl h;@v,rfl,q:=aK.one t;!{u,v,O,r,q}
§aK.zero:∀{us:#MD},aK [] us->us=[]
 |_,.nil=>rfl
theorem aK.dropLast(h:aK xs us):aK xs.dropLast us.dropLast:=by
 induction h with
 |nil=>!.nil
 |cons r t a =>
  cases t with
  |nil=>!.nil
  |cons q t'=>!.cons r a
theorem aK.rep(h:aK xs us):∀k:Nat,aK (List.replicate k xs).flatten (List.replicate k us).flatten
 | 0=>.nil
 |k+1=>by
  [ji,ji,jp,jp];!aK.append h (aK.rep h k)
§Om{α:Type}(l:List α):l.eraseIdx (l.length - 1)=l.dropLast:=by
 induction l with
 |nil=>rfl
 |cons a r c =>
  cases r with
  |nil=>rfl
  |cons b r =>
   have e:(a::b::r).length - 1=((b::r).length - 1)+1:=by
    have h1:(a::b::r).length=r.length+2:=rfl;have h2:(b::r).length=r.length+1:=rfl;¥
   [e,List.eraseIdx_cons_succ,c]
   all_goals rfl
theorem Lz(its:#MD):∀(k:Nat) (acc:#MD),
  List.foldl (λa c=>a++c) acc.toArray (List.replicate k its.toArray)=(acc++(List.replicate k its).flatten).toArray
 | 0,acc=>by simp
 |k+1,acc=>by
  #e:acc.toArray++its.toArray=(acc++its).toArray:=by simp
  #b:(acc++its)++(List.replicate k its).flatten=acc++(List.replicate (k+1) its).flatten:=by
   [ji,jp,yk]
  [←b,←Lz its k (acc++its),←e,ji,j8]
section
variable {X:Cx}{pins:#(R0×Obj)}{σ:St}{H:Hp}{s:RX}{l b:R0}{xs ys zs:#V}
§Inv.wA{its its':#MD}{n:Nat}{f:Array MD->Array MD}{t':Nat}(I:Inv X pins σ H s)(g:H l=!(.lst xs))(e:s.heap.get? l=some { cls:=.type "list",data:=.seq its.toArray n })(a:f its.toArray=its'.toArray)(d:aK ys its')(hz:ys.length<=sizeLine) :
  Inv X pins σ (upd H l (.lst ys)) { s with heap:=s.heap.update l (Obj.mapSeq f),toks:=t' }:=by
 #q:=PySem.IsL.update e f;[a]at q;?I.write (x:=l) (e:=l) (by[g];!trivial) (.inl rfl) (λh u b c=>(Heap.get?_update_other s.heap (Obj.mapSeq f) (Ne.symm b)).trans c) {_,q} ?_;!{hz,its',_,d,q}
§Inv.IW(I:Inv X pins σ H s)(a:aK ys its)(hz:ys.length<=sizeLine) :
  Inv X pins σ (upd H ↑s (.lst ys)) { s with heap:=s.heap.push { cls:=.type "list",data:=.seq its.toArray },toks:=t' } :=
 I.laid (λ_ _ q=>qH _ q) (qe _) {hz,its,0,a,qL _ rfl}
theorem Inv.fresh(I:Inv X pins σ H s):H ↑s=£:=I.aS.fresh (qe _)
§Inv.kE(I:Inv X pins σ H s)(a:H l=!(.lst xs)):xs.length<=sizeLine/\∃(its:#MD) (n:Nat),aK xs its/\xs.length=its.length/\s.heap.get? l=some { cls:=.type "list",data:=.seq its.toArray n }:=by
 @z,its,n,r,e:=I.aS l _ a;!{z,its,n,r,r.length,e}
§IU(h:n<=sizeLine):Builtin.List.listTooLong n=¿:=by
 ¶Builtin.List.listTooLong;!decide_eq_false ()
end
section
variable {X:Cx}
inductive oh(x:V)(vs:#V)(H:Hp)(Q:VK):Prop
 |mk(l xs y:_)(_:x=.ref l)(_:vs=[y])(_:H l=!(.lst xs))(_:xs.length<sizeLine)(_:Q .aR (upd H l (.lst (xs++[y]))))
§Ng:wN X "list.append" oh:=by
 ¢pins s σ H x vs v us Q I d b h;@l,xs,y,rfl,rfl,a,hz,q:=h;&d;@u,rfl,c:=b.one;@z,its,n,r,f,e:=I.kE a;?call_meets F.slot_list_append {_,e,O} F.entry_list_append (F.args_list_append_2 _ _) (PySem.list_append l its.toArray n u (by[zg];¥)) {e,?_};?{.aR,_,I.wA (its':=its++[u]) a e (by simp) (r.append (.cons c .nil)) ?_,O,q};[qi,qt];¥
inductive vB(x:V)(vs:#V)(H:Hp)(Q:VK):Prop
 |mk(l b xs zs:_)(_:x=.ref l)(_:vs=[.ref b])(_:H l=!(.lst xs))(_:H b=!(.lst zs))(_:xs.length+zs.length<=sizeLine)(_:Q .aR (upd H l (.lst (xs++zs))))
§Kq:wN X "list.extend" vB:=by
 ¢pins s σ H x vs v us Q I j f h;@l,b,xs,zs,rfl,rfl,d,k,hz,q:=h;&j;@u,rfl,i:=f.one;&i;@z,its,n,r,t,e:=I.kE d;@w,a,m,p,o,g:=I.kE k
 #hsz:its.toArray.size+a.toArray.size<=sizeLine:=by[zg,zg];¥
 #c:¬(not its.toArray.isEmpty&&Builtin.List.listTooLong (its.toArray.size+a.toArray.size))=¶:=by
  [IU hsz,kx];!qr
 ?call_meets F.slot_list_extend {_,e,O} F.entry_list_extend (F.args_list_extend_2 _ _)
  (AutoSeq1.list_extend_list_list_0 l its.toArray n b a.toArray m c (by[zg];¥) ()) {e,g,?_}
 ?{.aR,_,I.wA (its':=its++a) d e (by simp) (r.append p) ?_,O,q};[qi];¥
inductive Nw(x:V)(vs:#V)(H:Hp)(Q:VK):Prop
 |mk(l xs y:_)(_:x=.ref l)(_:vs=[])(_:H l=!(.lst xs))(_:xs[xs.length - 1]?=!y)(_:Q y (upd H l (.lst xs.dropLast)))
§HM:wN X "list.pop" Nw:=by
 ¢pins s σ H x vs v us Q I j d h;@l,xs,y,rfl,rfl,c,f,q:=h;&j;#b:=d.zero;£b;@z,its,n,r,g,e:=I.kE c;@u,k,i:=r.get f
 #a:its.toArray[its.toArray.size - 1]?=!u:=by
  ¤its.toArray[its.length - 1]?=!u;[←ym,←g];!k
 ?call_meets F.slot_list_pop {_,e,O} F.entry_list_pop (F.args_list_pop_1 _) (MeetsSeq.list_pop_last l its.toArray n u a (by[zg];¥)) {e,?_};?{y,_,I.wA (its':=its.dropLast) c e ?_ r.dropLast ?_,i,q}
 .¤its.toArray.eraseIdxIfInBounds (its.toArray.size - 1)=its.dropLast.toArray
  [zg,List.eraseIdxIfInBounds_toArray,Om]
 .[List.length_dropLast]
  ¥
inductive Aq(x:V)(vs:#V)(H:Hp)(Q:VK):Prop
 |mk(l xs:_)(_:x=.ref l)(_:vs=[])(_:H l=!(.lst xs))(_:Q .aR (upd H l (.lst [])))
§Ml:wN X "list.clear" Aq:=by
 ¢pins s σ H x vs v us Q I d c h;@l,xs,rfl,rfl,b,q:=h;&d;#a:=c.zero;£a;@z,its,n,r,f,e:=I.kE b;?call_meets F.slot_list_clear {_,e,O} F.entry_list_clear (F.args_list_clear_1 _) (AutoSeq1.list_clear_list_0 l its.toArray n (by[zg];¥)) {e,?_};!{.aR,_,I.wA (its':=[]) (ys:=[]) b e rfl .nil (qv _),O,q}
inductive Nk(x y:V)(H:Hp)(Q:VK):Prop
 |mk(l b xs zs:_)(_:x=.ref l)(_:y=.ref b)(_:H l=!(.lst xs))(_:H b=!(.lst zs))(_:xs.length+zs.length<=sizeLine)(_:∀p,H p=£->Q (.ref p) (upd H p (.lst (xs++zs))))
§Ee:dh X (binaryOp .Add) Nk:=by
 ¢pins s σ H x y v u Q I d i h;@l,b,xs,zs,rfl,rfl,m,g,hz,q:=h;&d;&i;@z,its,n,r,o,e:=I.kE m;@p,a,t,k,j,c:=I.kE g;?PySem.P.add_list e c ?_ (by[zg,zg];¥)
 #f:its.toArray++a.toArray=(its++a).toArray:=by simp
 rw[f];!{.ref _,_,I.IW (t':=s.toks) (r.append k) (by[qi];¥),O,q _ I.fresh}
inductive PU(x y:V)(H:Hp)(Q:VK):Prop
 |mk(l k xs:_)(_:x=.ref l)(_:y=.int k)(_:H l=!(.lst xs))(_:-(2 ^ 63)<=k)(_:k<2 ^ 63)(_:xs.length * k.toNat<=sizeLine)(_:∀p,H p=£->Q (.ref p) (upd H p (.lst (List.replicate k.toNat xs).flatten)))
§Np{α:Type}(xs:List α)(k:Nat):(List.replicate k xs).flatten.length=k * xs.length:=by
 induction k with
 |zero=>simp
 |succ k a=>rw[ji,jp,qi,a,Nat.succ_mul,Nat.add_comm]
§CC:dh X (binaryOp .Mult) PU:=by
 ¢pins s σ H x y v u Q I p w h;@l,k,xs,rfl,rfl,B,h1,h2,hz,q:=h;&p;@t,rfl:=w;@z,its,n,r,o,e:=I.kE B
 #c:its.toArray.size * k.toNat<=sizeLine:=by[zg,←o];!hz
 #g:¬its.toArray.size * k.toNat>(2 ^ 63 - 1) / 8:=by
  #:(sizeLine:Nat)<=(2 ^ 63 - 1) / 8:=⋯
  ¥
 #d:¬(not (Builtin.List.listFitsIndex k))=¶:=by
  [fitsIndex_both h1 h2];!qr
 #b:¬Builtin.List.listTooLong (its.toArray.size * k.toNat)=¶:=by
  [IU c];!qr
 #f:List.foldl (λj i=>j++i) #[] (List.replicate (if its.toArray.isEmpty=¶ then 0 else k.toNat) its.toArray)=(List.replicate k.toNat its).flatten.toArray:=by
  #A:∀m:Nat,List.foldl (λj i=>j++i) #[] (List.replicate m its.toArray)=(List.replicate m its).flatten.toArray:=λm=>by
   #:=Lz its m [];[wz]at this;!this
  [A]
  cases its with
  |nil=>simp
  |cons a C=>rw[qB (by simp)]
 ?wpAny_binaryOp_repeat_ref (T:="list") (U:="int") ⋯ {_,e,O} (λs'=>typeIs_int s' k t) noFill_list_mul F.fills_int_mul F.slot_int_rmul repeat_list F.slot_int_index.lookup
  (call_meets F.slot_int_rmul (typeIs_int s k t) F.entry_int_rmul (F.args_int_rmul_2 _ _) (int___rmul___int_list k t l its.toArray n)
   {e,O,{_,e,O},call_meets F.slot_list_mul {_,e,O} F.entry_list_mul (F.args_list_mul_2 _ _) (AutoListH.list___mul___list_int_3 l its.toArray n k t d g b) {e,?_}})
 [f];!{.ref _,_,I.IW (t':=s.toks) (r.rep k.toNat) (by[Np,Nat.mul_comm];!hz),O,q _ I.fresh}
end
section
variable {κ:Type}[DecidableEq κ]
§bO(kvs:#(κ×V))(k:κ):Option V:=(kvs.find? λa=>decide (a.1=k)).map (·.2)
§putK(kvs:#(κ×V))(k:κ)(v:V):#(κ×V) :=
 if(kvs.any λa=>decide (a.1=k))=¶ then kvs.map (λa=>if a.1=k then(a.1,v) else a) else kvs++[(k,v)]
§fT{p:κ×V}{r:#(κ×V)}{k:κ}(e:p.1=k):bO (p::r) k=!p.2:=by simp[bO,List.find?_cons,e]
§fZ{p:κ×V}{r:#(κ×V)}{k:κ}(e:¬p.1=k):bO (p::r) k=bO r k:=by simp[bO,List.find?_cons,e]
theorem mG(k:κ):∀kvs:#(κ×V),(kvs.any λa=>decide (a.1=k))=(bO kvs k).isSome
 |[]=>rfl
 |p::r=>by
  [j9]
  ¿e:p.1=k
  .simp only[fT e,decide_eq_true e,Bool.true_or,Option.isSome_some]
  .[fZ e,decide_eq_false e,Bool.false_or];!mG k r
theorem Hb(k j:κ)(y:V):∀kvs:#(κ×V),bO (kvs.map λa=>if a.1=k then(a.1,y) else a) j=(bO kvs j).map λx=>if j=k then y else x
 |[]=>rfl
 |p::r=>by
  #b:=Hb k j y r;[zn]
  ¿h:p.1=k
  .[qF h]
   ¿e:p.1=j
   .[fT (p:=(p.1,y)) e,fT e,jq,qF (e.symm.trans h)]
   .[fZ (p:=(p.1,y)) e,fZ e,b]
  .[qB h]
   ¿e:p.1=j
   .[fT (p:=p) e,fT e,jq,qB (λz=>h (e.trans z))]
   .[fZ (p:=p) e,fZ e,b]
theorem G9(k j:κ)(y:V):∀kvs:#(κ×V),bO kvs k=£->bO (kvs++[(k,y)]) j=if j=k then some y else bO kvs j
 |[],_=>by
  ¿e:k=j
  .[qF e.symm];!fT (p:=(k,y)) e
  .[qB (λz=>e z.symm)];!fZ (p:=(k,y)) e
 |p::r,hn=>by
  [List.cons_append]
  #a:¬p.1=k:=λz=>by[fT z]at hn;&hn
  [fZ a]at hn;#b:=G9 k j y r hn
  ¿e:p.1=j
  .[fT e,fT e,qB (λz=>a (e.trans z))]
  .[fZ e,fZ e,b]
§O6(kvs:#(κ×V))(k j:κ)(y:V):bO (putK kvs k y) j=if j=k then some y else bO kvs j:=by
 ¶putK
 ¿a:(kvs.any λc=>decide (c.1=k))=¶
 .[qF a,Hb]
  [mG]at a
  ¿e:j=k
  .@x,b:=kh.mp a
   [qF e,e,b,jq,qF rfl]
  .[qB e]
   cases bO kvs j with
   |none=>rfl
   |some x=>rw[jq,qB e]
 .[qB a]
  ?G9 k j y kvs ?_;[mG]at a
  cases q:bO kvs k with
  |none=>rfl
  |some x=>rw[q]at a;!(a rfl).elim
§Dv(kvs:#(κ×V))(k:κ)(v:V):(putK kvs k v).length<=kvs.length+1:=by
 ¶putK
 split
 .[qj];¥
 .[qi,zd,yt];¥
§Jp{kvs:#(κ×V)}{k:κ}(v:V)(h:bO kvs k=£):putK kvs k v=kvs++[(k,v)]:=by
 ¶putK;[mG,h];!qB ⋯
§eV.fC(r:eV o u):o.isSome=u.isSome:=by
 cases o with
 |none=>cases u with
  |none=>rfl
  |some _=>!(show False from r).elim
 |some _=>cases u with
  |none=>!(show False from r).elim
  |some _=>rfl
§KV.val(r:KV kvs vs)(k:κ):eV (bO kvs k) (valueAt vs k):=by
 unfold KV at r
 induction r with
 |nil=>!True.intro
 |@cons p q ps c h t d =>
  @h1,h2:=h
  ¿e:p.1=k
  .#a:q.1=k:=h1.symm.trans e
   #b:valueAt (q::c) k=!q.2:=by simp[valueAt,List.find?_cons,a]
   [fT e,b];!h2
  .#a:¬q.1=k:=λz=>e (h1.trans z)
   #b:valueAt (q::c) k=valueAt c k:=by simp[valueAt,List.find?_cons,a]
   [fZ e,b];!d
theorem KV.any(r:KV kvs vs)(k:κ):(kvs.any λa=>decide (a.1=k))=vs.any λa=>decide (a.1=k):=by
 unfold KV at r
 induction r with
 |nil=>rfl
 |cons h t b=>rw[j9,j9,b,h.1]
§KV.AC(r:KV kvs vs)(k:κ)(c:RelV y u) :
  KV (kvs.map λa=>if a.1=k then(a.1,y) else a) (vs.map λa=>if a.1=k then(a.1,u) else a):=by
 unfold KV at r ⊢
 induction r with
 |nil=>!.nil
 |@cons p q ps d h t b =>
  [zn,zn];?.cons ?_ b;@h1,h2:=h
  ¿e:p.1=k
  .[qF e,qF (h1.symm.trans e)];!{h1,c}
  .[qB e,qB (λz=>e (h1.trans z))];!{h1,h2}
§KV.put(r:KV kvs vs)(k:κ)(a:RelV y u):KV (putK kvs k y) (stored vs k u):=by
 unfold putK stored;[r.any k]
 ¿e:(vs.any λb=>decide (b.1=k))=¶
 .[qF e,qF e];!r.AC k a
 .[qB e,qB e];!Paired.snoc r {O,a}
theorem KV.length{kvs:#(κ×V)}{vs:#(κ×MD)}(r:KV kvs vs):kvs.length=vs.length:=Paired.length r
end
§oH(r:RelV (kV k) u):(ah P w).is k u=¶:=by
 cases k with
 |inl i=>@t,e:=(show ∃t,u=Value.int i t from r);£e;!Qu P w i t
 |inr x=>@t,e:=(show ∃t,u=Value.str x t from r);£e;!Ol P w x t
theorem J1{P:Program}{w:World}:∀{ks:#Key} {us:#MD},aK (ks.map kV) us->ItemsAre (ah P w) ks us
 |[],_,r=>by[j7]at r;&r;!.nil
 |k::ks,_,r=>by
  [zn]at r
  cases r with
  |cons h t=>!.cons (oH h) (J1 t)
abbrev KT(H:Hp):#(#Key×V)->#(#Key×R0×MD)->¤:=Paired λp q=>p.1=q.1/\H q.2.1=!(.tup (p.1.map kV))/\RelV p.2 q.2.2
§KT.val(r:KT H kvs xs)(k:#Key):eV (bO kvs k) ((atKey xs k).map (·.2)):=by
 induction r with
 |nil=>!True.intro
 |@cons p q ps c h t d =>
  @h1,_,h2:=h
  ¿e:p.1=k
  .#a:q.1=k:=h1.symm.trans e
   #b:atKey (q::c) k=!q.2:=by simp[atKey,List.find?_cons,a]
   [fT e,b];!h2
  .#a:¬q.1=k:=λz=>e (h1.trans z)
   #b:atKey (q::c) k=atKey c k:=by simp[atKey,List.find?_cons,a]
   [fZ e,b];!d
§KT.AC(r:KT H kvs xs)(k:#Key)(d:RelV y u) :
  KT H (kvs.map λa=>if a.1=k then(a.1,y) else a) (xs.map (putAt k u)):=by
 induction r with
 |nil=>!.nil
 |@cons p q ps f h t c =>
  [zn,zn];?.cons ?_ c;@h1,h2,b:=h;¶putAt
  ¿e:p.1=k
  .[qF e,qF (h1.symm.trans e)];!{h1,h2,d}
  .[qB e,qB (λz=>e (h1.trans z))];!{h1,h2,b}
§KT.put(r:KT H kvs xs)(k:#Key)(d:H b=!(.tup (k.map kV)))(a:RelV y u) :
  KT H (putK kvs k y) (storedH xs k b u):=by
 #e:(kvs.any λc=>decide (c.1=k))=(atKey xs k).isSome:=by
  [mG,(r.val k).fC,Option.isSome_map]
 unfold putK storedH;[e]
 ¿q:(atKey xs k).isSome=¶
 .[qF q,qF q];!r.AC k a
 .[qB q,qB q];!Paired.snoc r {O,d,a}
§KT.keeps(r:KT H kvs xs)(a:∀b ys,H b=!(.tup ys)->H' b=!(.tup ys)):KT H' kvs xs :=
 Paired.lh r λ_ _ z=>{z.1,a _ _ z.2.1,z.2.2}
section
variable {P:Program}{w:World}{H:Hp}{h:Heap}{a:R0}
§xY(ok:dm P w H h)(e:Rd H a u):aV P w H h a u:=e.ok ok
§nW(ok:dm P w H h)(e:Rd H a (.dK kvs)):kvs.length<=sizeLine/\(a==sysModules)=¿/\∃vs,KV kvs vs/\h.DictOf (ah P w) a vs :=
 show aV P w H h a (.dK kvs) from xY ok e
§tS(ok:dm P w H h)(e:H a=!(.dK kvs)):kvs.length<=sizeLine/\(a==sysModules)=¿/\∃vs,KV kvs vs/\h.DictOf (ah P w) a vs:=nW ok (.inl e)
§oV(ok:dm P w H h)(e:H a=!(.tup (ks.map kV))):(tupleKind (ah P w)).is h ks a:=by
 @_,its,r,o,h1,h2,n,b:=(show aV P w H h a (.tup (ks.map kV)) from ok a _ e);!{o,its.toArray,n,h1,h2,b,by ±J1 r}
§r3(ok:dm P w H h)(e:Rd H a (.dT kvs)):kvs.length<=sizeLine/\(a==sysModules)=¿ ∧
  ∃xs,KT H kvs xs/\h.DictOfH (tupleKind (ah P w)) a xs:=by
 @z,y,xs,r,o,es,ep,h1,h2,d,i,f:=(show aV P w H h a (.dT kvs) from xY ok e);?{z,y,xs,r,o,es,ep,h1,h2,d,i,λx b=>?_,f}
 #all:∀{l:#(#Key×V)} {m:#(#Key×R0×MD)},KT H l m->∀x∈m,(tupleKind (ah P w)).is h x.1 x.2.1:=by
  ¢l m q
  induction q with
  |nil=>intro x b;!nomatch b
  |@cons p q ps j c t g =>
   ¢x b;@e|b:=q0.mp b
   .£e
    !oV ok (by[←c.1];!c.2.1)
   .!g x b
 !all r x b
§Hv(ok:dm P w H h)(e:H a=!(.dT kvs)):kvs.length<=sizeLine/\(a==sysModules)=¿ ∧
  ∃xs,KT H kvs xs/\h.DictOfH (tupleKind (ah P w)) a xs:=r3 ok (.inl e)
end
§Bt(H:Hp)(a:R0)(y:V)(r:Option V):Prop :=
 (∃kvs k,Rd H a (.dK kvs)/\y=kV k/\r=bO kvs k)\/∃kvs k b,Rd H a (.dT kvs)/\y=.ref b/\H b=!(.tup (k.map kV))/\r=bO kvs k
§G'(H:Hp)(a:R0)(y v:V)(H':Hp):Prop :=
 (∃kvs k,H a=!(.dK kvs)/\y=kV k/\kvs.length<sizeLine/\H'=upd H a (.dK (putK kvs k v))) ∨
 ∃kvs k b,H a=!(.dT kvs)/\y=.ref b/\H b=!(.tup (k.map kV))/\kvs.length<sizeLine/\H'=upd H a (.dT (putK kvs k v))
section
variable {X:Cx}{pins:#(R0×Obj)}{σ:St}{H:Hp}{s:RX}{a:R0}{y v:V}{u r:MD}{o:Option V}{A:Around}{E:KE}
§Inv.lB(I:Inv X pins σ H s):sysModules<↑s:=by
 #h:mainGlobals<↑s:=(I.mod.glob.keeps I.bk).lt;!jr ⋯ h
§OZ(t:A.units+1<cLine)(I:Inv X pins σ H s)(g:Bt H a y (!v))(q:RelV y u)(h:∀f s',Inv X pins σ H s'->RelV v f->Q f s') :
  wpAny (model X.prog X.w) A (getItem (.ref a) u) Q E s:=by
 @⟨kvs,k,e,j,l⟩|⟨kvs,k,b,e,j,r,l⟩:=g
 .£j
  @z,x,vs,c,n:=nW I.aS e;@f,m,d:=eV.some_of (v:=v) (o:=valueAt vs k) (by[l];!c.val k);!wpAny_getItem_of (oH q) n.mapOf m (h f _ (I.tok _) d)
 .£j
  &(show u=Value.ref b from q);@z,x,xs,c,n:=r3 I.aS e;@f,m,d:=eV.some_of (v:=v) (o:=(atKey xs k).map (·.2)) (by[l];!c.val k);@p,hp,i:=wj.mp m;?wpAny_getItem_heap (tupleKind_room_in1 t) (oV I.aS r) n hp ?_;[i];!h f _ (I.tok _) d
§pU(I:Inv X pins σ H s)(g:Kn (H a))(f:Heap.SameBut a s.heap h')(c:∃q,h'.get? a=!q)(new:aV X.prog X.w (upd H a ob) h' a ob) :
  Inv X pins σ (upd H a ob) { s with heap:=h',toks:=t' } :=
 I.write (x:=a) (e:=a) g (.inl rfl) (λb q d z=>(f.2 b d).trans z) c new
§Kw(z:kvs.length<=sizeLine)(d:(a==sysModules)=¿)(b:KV kvs vs)(c:h'.DictOf (ah P w) a vs) :
  aV P w H' h' a (.dK kvs):={z,d,vs,b,c}
§N3(J:A.units+1<cLine)(I:Inv X pins σ H s)(g:G' H a y v H')(D:RelV y u)(B:RelV v r)(h:∀s',Inv X pins σ H' s'->Q Unit.unit s') :
  wpAny (model X.prog X.w) A (setItem (.ref a) u r) Q E s:=by
 @⟨kvs,k,e,n,l,m⟩|⟨kvs,k,b,e,n,x,l,m⟩:=g
 .subst n m
  @z,t,vs,d,p:=tS I.aS e
  #hz:vs.length<=sizeLine:=by[←d.length];!z
  #j:(putK kvs k v).length<=sizeLine:=by #:=Dv kvs k v;¥
  ?wpAny_setItem_pairs (hsz:=hz) (oH D) p λh' f o=>h _ ?_
  #G:∃q,h'.get? a=!q:=let⟨q,_,_,i,_⟩:=f;{q,i}
  !pU I (by[e];!True.intro) o G (Kw j t (d.put k B) f)
 .subst n m
  &(show u=Value.ref b from D);@z,t,xs,d,p:=Hv I.aS e
  #hz:xs.length<=sizeLine:=by[←Paired.length d];!z
  #j:(putK kvs k v).length<=sizeLine:=by #:=Dv kvs k v;¥
  ?wpAny_setItem_heap (hsz:=hz) (tupleKind_room_in1 J) (oV I.aS x) p λh' f o=>h _ ?_;@q,es,ep,i,h2,F,L,_,K:=f;?pU I (by[e];!True.intro) o {q,i} {j,t,_,(d.put k x B).keeps λc ys C=>?_,q,es,ep,i,h2,F,L,K};[ax (nY C e °)];!C
end
§BG(i:Expr):Prop:=∀b a,subscripted i false b a=operate [b,a] (getItem b a)
§GU{prog:Program}{w:World}{A:Around}{E:KE}{s:RX}{env:Env}{value a:Expr}{pos:Pos}{T id:String}{Q:KE}(k:typeLookup (.type T) "__getitem__"=pure (!(.builtin id)))(l:BG a)(h:wpAny (model prog w) A (eval value env) (λo e=>wpAny (model prog w) A (eval a env) (λi b=>b.TypeIs o T/\wpAny (model prog w) A (getItem o i) Q E b) E e) E s) :
  wpAny (model prog w) A (eval (.Subscript value a pos) env) Q E s:=by
 ?Subscript_ (qM h (λo e h₁=>qM h₁ (λi b c=>?_) λ_ _ x=>x) λ_ _ x=>x);@j,c:=c;¶subscriptTail;?qA ?_;[getitemInPython_of_ne j.not_modules];?qA (wpAny_specialOf j k ?_)
 #f:wpAny (model prog w) A (subscripted a false o i) (λr d=>wpAny (model prog w) A (letTemporaryGo value o r >>= λ_=>pure r) Q E d) E b:=by
  [l o i];!wpAny_operating (qM c (λr d g=>qA (wpAny_letTemporaryGo (qE g))) λ_ _ x=>x)
 first
  |!qE (qA f)
  |!qA (qE (qA f))
  |!qA f
§Pz{X:Cx}{pins:#(R0×Obj)}{σ:St}{H:Hp}{s:RX}{a:R0}{y:V}{o:Option V}(I:Inv X pins σ H s)(g:Bt H a y o):s.TypeIs (.ref a) "dict":=by
 @⟨kvs,k,e,_,_⟩|⟨kvs,k,b,e,_,_,_⟩:=g
 .@_,_,vs,_,c:=nW I.aS e
  !c.typeIs
 .@_,_,xs,_,c:=r3 I.aS e
  !c.typeIs
inductive Bm(Q:VK)(x y:V)(H2:Hp):Prop
 |mk(a v:_)(_:x=.ref a)(_:Bt H2 a y (!v))(_:Q v H2)
§JJ(td ty:TE):TE:=λσ H Q=>td σ H λx H1=>ty σ H1 λy H2=>Bm Q x y H2
inductive BR(D:Ends)(σ:St)(v x y:V)(H3:Hp):Prop
 |mk(a H4:_)(_:x=.ref a)(_:G' H3 a y v H4)(_:D.nx σ H4)
§Jk(td ty tv:TE):TS:=λD σ H=>tv σ H λv H1=>td σ H1 λx H2=>ty σ H2 λy a=>BR D σ v x y a
section
variable {X:Cx}{o i e value:Expr}{pos pos' tpos:Pos}{td ty tv:TE}
§cV(k:X.A.units+1<cLine)(d:PE X o td)(hi:PE X i ty)(n:BG i):PE X (.Subscript o i pos) (JJ td ty):=by
 ?{?_};¢pins s σ H Q I h;?GU PySem.F.slot_dict_getitem.lookup n (bK (d pins s σ H _ I h) λu e ⟨x,H1,f,j,l⟩=>bK (hi pins e σ H1 _ f l) λr s2 ⟨y,H2,c,q,a,v,ex,g,m⟩=>?_);£ex;obtain rfl:u=Value.ref a:=j;!{Pz c g,OZ k c g q λw t p b=>{v,H2,p,b,m}}
§QT(l:X.A.units+1<cLine)(j:PE X o td)(hi:PE X i ty)(p:PE X value tv)(m:swapsWith value (!(.Subscript o i pos')) pos.line X.env=pure false) :
  PS X (.Assign [.Subscript o i pos'] value pos) (Jk td ty tv):=by
 ?{?_};¢pins s σ H D I h;?wpAny_Assign_Subscript (bK (p pins s σ H _ I h) λr B ⟨v,H1,c,k,d⟩=>bK (j pins B σ H1 _ c d) λu s2 ⟨x,H2,z,q,e⟩=>bK (hi pins s2 σ H2 _ z e) λC G ⟨y,E,w,n,a,t,ex,g,f⟩=>?_) m;£ex;obtain rfl:u=Value.ref a:=q;!N3 l w g n k λF b=>{σ,t,b,f}
end
§MG(h:Heap)(a:sysModules<h.objs.size):aV P w H (h.push { cls:=.type "dict",data:=.dict #[] }) h.objs.size (.dK []) :=
 {qv _,beq_eq_false_iff_ne.mpr (Ne.symm (qp a)),[],.nil,Heap.DictOf.new h}
§D_:TE:=λ_ H Q=>∀p,H p=£->Q (.ref p) (upd H p (.dK []))
section
variable {X:Cx}{pos:Pos}
§Ni:PE X (.Dict [] [] pos) D_:={λpins s σ H Q I h =>
 wpAny_Dict_empty {.ref ↑s,_,I.laid (a:=↑s) (o:=.dK []) (t':=s.toks) (λ_ _ q=>qH _ q) (qe _) (MG s.heap I.lB),O,h _ (I.aS.fresh (qe _))}}
end
end L2
namespace Att
open PySem PySem.W PySem.Calls PyProof.Rows
§Qc{P:Params}{h:Heap}:∀(ns:#Int) (vs:#MD),WellAll P h vs (ns.map WData.int)->IntsAre vs ns:=by
 ¢ns
 induction ns with
 |nil =>
  ¢vs w;[j7]at w;&w;!.nil
 |cons n ns c =>
  ¢vs w;[zn]at w
  cases w with
  |cons a b =>
   &a;!.cons _ _ (c _ b)
§Ow{l:OpenLaw}{n:Nat}(hn:l.most=!n){P:Params}{h:Heap}{args:#WData}{c:#MD}(b:l.row.toRowW.claim.pre args=¶)(k:WellAll P h c args) :
  ∃a vs ns,c=[Value.ref a]/\args=[WData.list (ns.map WData.int)]/\h.get? a=some { cls:=.type "list",data:=.seq vs.toArray }/\IntsAre vs ns/\ns.length<=n:=by
 #j:WShape.hasAll [] args [.list .int]=¶:=(pre_splitW b).1;#m:l.pre.holds [] { args:=args }=¶:=(pre_splitW b).2;@d,r,rfl,h1,h2:=hasAllW_cons j;@rfl:=hasAllW_nil h2;@xs,rfl,p:=hasW_list h1;@ns,rfl:=items_int p
 #e:ns.length<=n:=by
  unfold OpenLaw.pre at m
  #i:(WTm.not (.lt (.lit (.int (n:Int))) (.len (.arg 0)))).holds [] { args:=[.list (ns.map .int)] }=¶:=by
   #i:=(holds_andW m).1;[hn]at i;!i
  #g:=condW_of i (w_not (w_lt w_lit (w_len_list (w_arg rfl))));[qj]at g;?Nat.le_of_not_lt λq=>?_
  #s:(n:Int)<((ns.length:Nat):Int):=()
  first
   |(rw[qI s]at g;!absurd g ⋯)
   |(simp at g;¥)
 cases k with
 |cons t u =>
  &u
  cases t with
  |list o f=>!{_,_,ns,O,O,o,Qc ns _ f,e}
§Mj(l:OpenLaw)(args:#WData):l.row.toRowW.claim.post args (.bool true) args=¶ :=
 postW_of (r:=l.row.toRowW) (X:=(true==¶))
  (show WShape.has [] (.bool true) .bool=¶ by first|rfl|decide|simp[WShape.has,WShape.arms,WShape.armsAll])
  (show(WTm.eq .res (.lit (.bool true))).value [] { args:=args,res:=!(.bool true),after:=args }=some (.bool (true==¶)) from w_eq_bool (w_res rfl) w_lit) rfl
§kL{l:OpenLaw}{n:Nat}{q:Program}{c:#R9}{B:(R9->Option MD)->Heap->¤}{y:World->Heap->¤}{d:DefRec}(hn:l.most=!n)(p:d.params.defaults=[])(call:∀(w:World) (s₀ b:RX) (mg k:R9->Option MD) (fa:R0) (o:Obj) (u cd g:MD) (a:R0) (vs:#MD) (ns:#Int),
   Ground q c [] B w s₀ mg k b.heap->y w b.heap->
   b.heap.get? fa=!o->o.data=.func (docDef d.name d.params d.body d.scope u cd g)->b.heap.CodeRec cd d.name->mg d.name=some (.ref fa)->
   b.heap.get? a=some { cls:=.type "list",data:=.seq vs.toArray }->IntsAre vs ns->ns.length<=n->b.gens=#[]->
   codeAny (model l.prog w) callerA (.call (.ref fa) {[.ref a],[]}) (λr s'=>r=.ok (.ret (.bool true))/\OldK b.heap s'.heap/\s'.os=b.os/\AllBare s'.gens) b) :
  WalkO q c B y l.row.toRowW d [] (λf vs=>PySem.call f vs):=by
 ¢w s₀ b mg k G Y fa o u cd g E kV F J m x s H A v N j z M t D;obtain rfl:E=.none:=Dflts.none x p;obtain rfl:kV=.none:=Dflts.noKw x;@a,vs,ns,rfl,rfl,h,e,i:=Ow hn j t;?enter_call (codeAny_mono (call w s₀ b mg k fa o u cd g a vs ns G Y F (fd_plain J) m s h e i H) λr s' K=>?_);@rfl,h2,C,I:=K;!{.inl {.bool true,.bool true,[],O,λ_=>rfl,.bool true,Mj l _,λ_=>{List.Pairwise.nil,λ_ L=>(nomatch L)}},h2,C,I}
end Att
namespace L2
open PySem PySem.Spec PyProof.Rows
theorem Jq:∀{vs:#MD} {ns:#Int},IntsAre vs ns->aK (ns.map V.int) vs
 |_,_,.nil=>.nil
 |_,_,.cons n t h=>.cons {t,O} (Jq h)
§b_(s:Stmt):Arguments:=match s with
 |.FunctionDef _ a _ _ _ _ _ _ _ _=>a
 |_=>{ posonlyargs:=[],args:=[],vararg:=£,kwonlyargs:=[],kw_defaults:=[],kwarg:=£,defaults:=[] }
§bL(s:Stmt):#Stmt:=match s with
 |.FunctionDef _ _ b _ _ _ _ _ _ _=>b
 |_=>[]
§ag(s:Stmt):Scope:=match s with
 |.FunctionDef _ _ _ _ _ _ sc _ _ _=>sc
 |_=>{ kind:=.function,names:=[],isGenerator:=¿,isCoroutine:=¿ }
abbrev iH:uT:=λ_ _ _ _ _ _=>False
abbrev E0:XK:=λ_ _ _=>False
§z_:l_ iH X E0:=λ_ _ _ _ _ _ _ h=>h.elim
structure EF(K:PySem.W.Frag)(x qual:R9)(st:Stmt)(f:R0)(fd:FuncData):Prop where
 ex:∃(oc:MD) (od:Option R0) (kV doc pm:MD) (an:Option R0) (cdv ct:MD) (osl:Array (Option MD)),
  fd=PySem.W.fnOf x qual (b_ st) (bL st) (ag st) .none kV doc pm an cdv ct/\K.lookup f=some {oc,od,.func fd,osl}/\PySem.W.codeIn K cdv qual=¶
 kp:PySem.W.keepIn K (.ref f)=¶
section
variable {P:Program}{w:World}{K:PySem.W.Frag}{mg:R9->Option MD}{base:Heap}
§EF.ok{x qual:R9}{st:Stmt}{f:R0}{fd:FuncData}{N ps:#R9}{k:Nat}{sp:Sp}(F:EF K x qual st f fd)(S:az N ps (ag st))(len:∀vs H Q E,sp vs H Q E->vs.length=ps.length)(b:∀(a:MD) (A:Around) (outer:#Env) (s:RX) (H:Hp) (vs:#V) (Q:VK) (E:XK),bG k (A.deeper (envOfC qual (ag st) ↑s f a))->sp vs H Q E->
   ∃t,ig (jG iH P w K mg base N qual (ag st) f a A outer s H E).vD (bL st) t/\t { nx:=λ_ H'=>Q .aR H',rt:=Q } (start N vs) H):×gB iH (k+1) f fd ps sp:=by
 @l,od,kV,e,o,m,a,n,j,rfl,i,c:=F.ex;?r_ i c S len λA outer s H vs Q E g d=>?_;@t,h,q:=b a A outer s H vs Q E g d;!{t,h.vD,q}
§EF.binds{x qual:R9}{st:Stmt}{f:R0}{fd:FuncData}{ps:#R9}(F:EF K x qual st f fd)(h:∀{kV b e:MD}{c:Option R0}{a d:MD}(us:#MD),us.length=ps.length->bindArgs (PySem.W.fnOf x qual (b_ st) (bL st) (ag st) .none kV b e c a d) {us,[]}=pure (ps.zip us)):Binds K fd ps []:=by
 @j,od,kV,b,e,c,a,d,i,rfl,k,g:=F.ex;!.all h
§G7{x qual:R9}{st:Stmt}{f:R0}{i:MD}{od e:Option R0}{d:Array (Option MD)}{kV b h a g:MD}(l:K.lookup f=some {i,od,.func (PySem.W.fnOf x qual (b_ st) (bL st) (ag st) .none kV b h e a g),d})(c:PySem.W.codeIn K a qual=¶)(k:PySem.W.keepIn K (.ref f)=¶):EF K x qual st f (PySem.W.fnOf x qual (b_ st) (bL st) (ag st) .none kV b h e a g):={⟨i,od,kV,b,h,e,a,g,d,O,l,c⟩,k}
end
§cT{A:Around}(a:bG k A):A.units+1<cLine:=jj (Nat.add_le_add_left (by decide:1<=64) _) a.units
§cF(h:n<=1000):n<sizeLine:=jj h ⋯
section
variable {X:Cx}
§pv(i:Nat)(c:X.N[i]?=!x:=by rfl)(d:L0 X.env.scope x:=by first|!Or.inl rfl|!Or.inr (Or.inl rfl)|!Or.inr (Or.inr rfl))(b:(x==("__debug__":R9))=¿:=by decide)(a:(x==("__classdict__":R9))=¿:=by decide):PE X (.Name x pos) (sI i):=BP c d b a
end
§dH{A B:Prop}(h:A):if true=¶ then A else B:=by
 [qF rfl];!h
§af(H H':Hp):Prop:=∀b o,H b=!o->H' b=!o
§af.refl(H:Hp):af H H:=λ_ _ h=>h
§af.trans(a:af H H1)(b:af H1 H2):af H H2:=λc o h=>b c o (a c o h)
§af.free(e:af H H')(h:H' l=Option.none):H l=Option.none:=by
 cases q:H l with
 |none=>rfl
 |some o =>
  [e l o q]at h;&h
section
variable {κ:Type}[DecidableEq κ]
§OP{kvs:#(κ×V)}{k:κ}{v:V}(h:bO kvs k=!v):k∈kvs.map (·.1):=by
 #q:(kvs.any λa=>decide (a.1=k))=¶:=by
  [mG,h]
  all_goals rfl
 @p,hp,e:=yz.mp q;!qf.mpr {p,hp,qO e}
end
section
variable {prog:Program}{w:World}{A:Around}{R:Result->RX->¤}{s:RX}
§MC{ce:Env}(J:Nat->RX->¤)(turn:∀n s,J n s->wpAny (model prog w) A (pyNext it) (λr e=>match r with
   |none=>R (.ok .next) e
   |some v=>wpAny (model prog w) A (letOwnedTupleGo tg it v) (λ_ s2=>wpAny (model prog w) A (assign tg ce v) (λ_ o =>
     wpAny (model prog w) A (forIn b true λc r=>if r=¶ then do let ok ←isTrue c ce (eval c ce);pure (ForInStep.yield ok) else pure (ForInStep.yield r)) (λok g =>
      if ok=¶ then
       wpAny (model prog w) A (eval d ce) (λx j=>wpAny (model prog w) A (call (.builtin "list.append") [acc,x]) (λ_ k=>∃m,m<n/\J m k) (λ_ _=>False) j) (λ_ _=>False) g
      else ∃m,m<n/\J m g) (λ_ _=>False) o) (λ_ _=>False) s2) (λ_ _=>False) e) (λ_ _=>False) s)(n:Nat)(h:J n s):codeAny (model prog w) A (.compLoop (.ListComp d [{tg,a,b,0}] i pos) 0 it acc ce) R s:=by
 ?codeAny_loop rfl J (λn s p=>?_) n h;¤wpAny _ A ((compTurn (.ListComp d [{tg,a,b,0}] i pos) 0 it acc ce).onRaise (λx=>do noteFrame x ce;theTreesLotGoes x)) _ _ s;?wpAny_noted ?_;[compTurn_list];?qA (wpAny_standAt (qA (qM (turn n s p) (λr e h1=>?_) λ_ _ f=>f.elim)))
 cases r with
 |none=>!qE h1
 |some v =>
  refine qA (qM h1 (λ_ s2 h2=>?_) λ_ _ f=>f.elim);?qA (qM h2 (λ_ o q=>?_) λ_ _ f=>f.elim);?qA (qM q (λok g l=>?_) λ_ _ f=>f.elim)
  cases ok with
  |false=>!qE {O,l}
  |true =>
   refine qA (qA (qM l (λx j u=>?_) λ_ _ f=>f.elim));!qA (qM u (λ_ k t=>qE (qE {O,t})) λ_ _ f=>f.elim)
end
§br(X:Cx)(N:#R9)(a:Scope)(cl:#(R9×R0))(s:RX)(H:Hp)(b:#R0):Cx where
 prog:=X.prog
 w:=X.w
 K:=X.K
 mg:=X.mg
 base:=X.base
 A:=X.A
 N:=N
 s₀:=s
 H₀:=H
 env:=compEnvC a cl (↑s+1) X.env
 outer:=X.stack
 stack:=X.stack
 ex:=b
 fn:=λ_=>false
 calm:=X.calm
 pn:=[]
 xe:=λ_ _=>False
§cC(own:#R9)(fr:#(R9×Nat))(σ:St):St:=own.map (λ_=>none)++fr.map λp=>(σ[p.2]?).join
§fm(σ σ':St):Prop:=σ.length=σ'.length/\∀(i:Nat) v,σ[i]?=!(!v)->σ'[i]?=!(!v)
§iZ(g:TG)(σ:St):Prop:=∀x H (Q:St->Hp->¤),g x σ H Q->g x σ H λσ' H'=>fm σ σ'/\Q σ' H'
theorem fm.set(h:σ[i]?=!none)(v:V):fm σ (σ.set i (!v)):=by
 ?{by simp,λj u e=>?_}
 ¿a:i=j
 .£a;[h]at e;&e
 .[yy a];!e
§mM(h:σ[i]?=!none):iZ (cL i) σ:=λx H Q q=>{fm.set h x,q}
§pL(hi:σ[i]?=!none)(h:σ[j]?=!none)(b:i≠j):iZ (uZ n (i0 (cL i) (i0 (cL j) Fo))) σ:=by
 ¢x H Q q;@a,xs,o,f,c,v,r,m,w,g,l,d,q:=q;?{a,xs,o,f,c,v,r,m,w,g,l,d,?_,q};#h1:=fm.set hi v;#h2:=fm.set (σ:=σ.set i (!v)) (i:=j) (by[yy b];!h) w;!{h1.1.trans h2.1,λk u e=>h2.2 k u (h1.2 k u e)}
§G2(X:Cx)(a:#Expr)(t:TT):Prop :=
 ∀(pins:#(R0×Obj)) (s:RX) (σ:St) (H:Hp) (Q:Bool->Hp->¤),Inv X pins σ H s->t σ H Q->
  wpAny (model X.prog X.w) X.A (forIn a true λc r=>if r=¶ then do let ok ←isTrue c X.env (eval c X.env);pure (ForInStep.yield ok) else pure (ForInStep.yield r)) (TP X pins σ Q) X.xe s
structure wX(X:Cx)(ifs:#Expr)(t:TT):Prop where run:G2 X ifs t
instance Q6{X:Cx}{a:#Expr}{t:TT}:CoeFun (wX X a t) λ_=>G2 X a t:={wX.run}
§dI{X:Cx}:wX X [] (λ_ H Q=>Q true H):={λ_ _ _ H _ I h=>wpAny_tests_nil {H,I,h}}
§fB(h:PT X c t):wX X [c] t:={λpins s σ H Q I q=>wpAny_tests_one (h pins s σ H Q I q)}
§Fw(own:#R9)(fr:#(R9×Nat))(g:TG)(e:TT)(te:TE)(σ:St)(Q:VK)(J:It)(H1:Hp):Prop:=∃W:Nat->Nat->#V->Hp->¤,(∃m,W 0 m [] H1)/\∀i m ys H,W i m ys H->
 (J.stop i H/\∀p,H p=£->Q (.ref p) (upd H p (.lst ys)))\/(J.go i H/\ys.length<sizeLine/\∀x H',J.xD i H x H'->g x (cC own fr σ) H' λa H2=>e a H2 λb d =>
  if b=¶ then te a d λy f=>∃c,c<m/\W (i+1) c (ys++[y]) f else ∃c,c<m/\W (i+1) c ys d)
§LD(own:#R9)(fr:#(R9×Nat))(b:TI)(g:TG)(a:TT)(te:TE):TE:=λσ H Q=>b σ H λJ H1=>Fw own fr g a te σ Q J H1
abbrev bS(us:#MD):Obj:={ cls:=.type "list",data:=.seq us.toArray us.length }
§QJ(us:#MD)(u:MD):({ cls:=.type "list",data:=.seq (us.toArray.push u) (us.length+1) }:Obj)=bS (us++[u]):=by
 ¶bS;[qi,qt,List.push_toArray]
structure kJ(X:Cx)(sc:Scope)(cl:#(R9×R0))(fr:#(R9×Nat)):Prop where
 wM:closureFor sc X.env=pure cl
 sub:∀x c,cl.lookup x=!c->X.env.cells.lookup x=!c
 has:∀x,((relabel sc X.env).names.lookup x=some .cell\/(relabel sc X.env).names.lookup x=some .free)->∃c,cl.lookup x=!c
 QR:∀p∈fr,X.N[p.2]?=!p.1/\X.env.kindOf p.1≠some .local/\L0 X.env.scope p.1/\((relabel sc X.env).names.lookup p.1=some .cell\/(relabel sc X.env).names.lookup p.1=some .free)
structure fL(sc:Scope):Prop where
 kind:sc.kind=.function
 cell:∀y∈sc.names,y.2≠.cell
 kH:∀y∈sc.names,y.2=.local->sc.names.lookup y.1=some .local
section
variable {X:Cx}
§Inv.hG{pins:#(R0×Obj)}{σ:St}{H:Hp}{s:RX}(I:Inv X pins σ H s){b:R0}(h1:b≠X.env.locals)(h2:b∉X.fs):b∉d9 X.stack:=λz=>by
 @e|e:=q0.mp (I.gR b z)
 .!h1 e
 .!h2 e
§Qp{own:#R9}{fr:#(R9×Nat)}{σ:St}{N:#R9}(c:N=own++fr.map (·.1)){i:Nat}{x:R9}{v:V}(h1:N[i]?=!x)(h2:(cC own fr σ)[i]?=!(!v)) :
  ∃p∈fr,p.1=x/\σ[p.2]?=!(!v):=by
 unfold cC at h2;£c
 ¿hi:i<own.length
 .[List.getElem?_append_left (by ±hi),List.getElem?_map]at h2
  [qh hi]at h2;&h2
 .[List.getElem?_append_right (by ±hi),List.length_map,List.getElem?_map]at h2
  [List.getElem?_append_right (by ±hi),List.getElem?_map]at h1
  cases e:fr[i - own.length]? with
  |none=>rw[e]at h1;&h1
  |some p =>
   [e]at h1 h2;?{p,qw e,qJ h1,?_};#a:(σ[p.2]?).join=!v:=qJ h2
   cases b:σ[p.2]? with
   |none=>rw[b]at a;&a
   |some o=>rw[b]at a;[show o=some v from a]
§Inv.block{pins:#(R0×Obj)}{σ:St}{H:Hp}{s:RX}{own:#R9}{fr:#(R9×Nat)}{q:Scope}{cl:#(R9×R0)}{w:#R0}{h1:Heap}{m:R9->Option MD}{tk:Nat}(I:Inv X pins σ H s)(h:∀b∈w,fj X pins H b)(B:∀b∈w,b<↑s)(S:fL q)(C:kJ X q cl fr)(old:∀b o,s.heap.get? b=!o->h1.get? b=!o)(hn:h1.Ns (↑s+1) m)(G:h1.get? ↑s=!(bS [])) :
  Inv (br X (own++fr.map (·.1)) q cl s H w) [(↑s,bS [])] (cC own fr σ) H { s with heap:=h1,toks:=tk }:=by
 #g:∀x c,cl.lookup x=!c->c<↑s:=λx c e=>by
  @v,z:=I.cell x c (C.sub x c e);!z.lt
 #a:↑s<=↑s+1:=jt _
 ?{{I.ok.mod,S.kind,I.ok.glob,I.ok.blt,a,λx y c A D=>I.ok.inj x y c (C.sub x c A) (C.sub y c D),λx J=>C.has x J,λ_ _ z=>(by &z),I.ok.hd,I.ok.frames,.inl rfl,λb d=>{?_,λx c e z=>?_},
  I.bs,qg I.ok.uL I.sz,λb o e d=>?_,λb d z=>?_,I.stack,I.nJ},O,I.bare,Un.kept old,{m,hn,λi x v A D W=>?_},λx c e=>?_,I.aS.fresh a,λx c e=>I.dr x c (C.sub x c e),λp hp=>?_,I.aS.kept old,?_}
 .!qp (yn (B b d))
 .!(h b d).2.2.2.2.1 x c (C.sub x c e) z
 .rcases(h b d).2.2.2.1 with z|z
  .!I.ok.rO b o e z
  .!absurd (zf (qG e) (qg I.ok.uL z)) (wu _)
 .!I.hG (h b d).2.1 (h b d).2.2.1 z
 .@p,hp,rfl,L:=Qp rfl A D
  @K,M,Q,F:=C.QR p hp;@V,P,R:=I.loc;@u,r,l:=R p.2 p.1 v K L Q;?{u,r,.inr {F,?_}};@⟨k,_⟩|⟨_,c,U,j,E,n⟩:=l
  .!absurd k M
  .@T,f:=C.has p.1 F
   #:=C.sub p.1 T f;[U]at this;&this;!{c,f,j,old _ _ E,n}
 .@v,o,j,N:=I.cell x c (C.sub x c e)
  !{v,o,old _ _ j,N}
 .#t:p=(↑s,bS []):=by simpa[br] using hp
  £t;?{G,I.aS.fresh (qe _),?_,?_,λv z=>by &z}
  .!qp (yo _)
  .!I.hG (zu I.lt) (I.vF (qe _))
 .¤(cC own fr σ).length=(own++fr.map (·.1)).length
  ¶cC;[qi,qi,qj,qj,qj]
§dm.hZ(x:dm P w H h)(hn:H a=£)(new:aV P w (upd H a o) h a o):dm P w (upd H a o) h:=λb u e=>by
 ¿d:b=a
 .£d;[aD]at e;&e;!new
 .[ax d]at e
  !(x b u e).cP (λc v _ q=>q) (λc q=>by[ax (a0 q hn)];!q) λc xs q=>by[ax (a0 q hn)];!q
§Inv.om{pins:#(R0×Obj)}{σ:St}{H j:Hp}{s f:RX}{N:#R9}{t:St}{A:Scope}{cl:#(R9×R0)}{p:#R0}{h':Heap}{ys:#V}{us:#MD}(I:Inv X pins σ H s)(r:∀b∈p,fj X pins H b)(g:Inv (br X N A cl s H p) [(↑s,bS us)] t j f)(D:aK ys us)(hz:ys.length<=sizeLine)(B:Heap.SameBut (↑s+1) f.heap h'):Inv X pins σ (upd j ↑s (.lst ys)) { f with heap:=h' }:=by
 @x,h,lx,_,_:=g.pin (↑s,bS us) (List.mem_append_right _ (by simp));#x:f.heap.get? ↑s=!(bS us):=x;#h:j ↑s=£:=h;#d:Un (d9 X.stack) p H j s.heap f.heap:=g.base;#y:j (↑s+1)=£:=g.free;#a:∀b o,s.heap.get? b=!o->b≠↑s+1:=λb o e=>qp (yn (qG e));#m:∀b o,s.heap.get? b=!o->b≠↑s:=λb o e=>qp (qG e);#i:∀b o,b≠↑s+1->f.heap.get? b=!o->h'.get? b=!o:=λb o k e=>B.extBut b o k e
 ?I.hH (s':={ f with heap:=h' }) (ch:=p) g.os {λb o e n h1 h2=>i b o (a b o e) (d.keep b o e n h1 h2),λb o e n h1 h2=>?_,λb o e n h2=>?_,λb o e h2=>?_,
  λb xs e=>?_,λb o u e=>?_,λb ps e=>?_,λb o xs e n=>i b o (a b o e) (d.dM b o xs e n)} ?_ g.bare λb k=>{(r b k).2.2.2.1,(r b k).2.1,(r b k).2.2.2.2.1,(r b k).2.2.2.2.2}
 .@sl,q:=d.slot b o e n h1 h2
  !{sl,i b _ (a b o e) q}
 .[ax (m b o e)];!d.free b o e n h2
 .@o',q:=d.there b o e h2
  !{o',i b _ (a b o e) q}
 .#q:=d.ab b xs e
  [ax (a0 q h)];!q
 .#q:=d.dP b o u e
  [ax (a0 q h)];!q
 .@more,q:=d.dR b ps e
  !{more,by[ax (a0 q h)];!q}
 .#C:dm X.prog X.w j h':=λb u e=>(g.aS b u e).cP (λc v l q=>i c v (λz=>by
   £z;@l|l:=l
   .£l;[y]at e;&e
   .[y]at l;&l) q) (λ_ q=>q) λ_ _ q=>q
  ?C.hZ h {hz,us,us.length,D,i _ _ (qp (yo _)) x}
§FR{N tg L:Expr}{O:#Expr}{j:Scope}{pos:Pos}{own:#R9}{fr:#(R9×Nat)}{cl:#(R9×R0)}{g:TG}{tt:TT}{te:TE}{RR:MD->R0->Result->RX->¤}{E:KE}{pins:#(R0×Obj)}{σ:St}{H2:Hp}{s2:RX}{Q:VK}{it:R0}{a:#R0}{tn:Nat->Heap->¤}{J:It}(hc:X.calm=¶)(S:fL j)(C:kJ X j cl fr)(hg:∀s H a,PG (br X (own++fr.map (·.1)) j cl s H a) tg g)(hfr:∀σ,iZ g (cC own fr σ))(ht:∀s H a,wX (br X (own++fr.map (·.1)) j cl s H a) O tt)(he:∀s H a,PE (br X (own++fr.map (·.1)) j cl s H a) N te)(I2:Inv X pins σ H2 s2)(T:Turn X.prog X.w X.K tg J a it tn)(M:tn 0 s2.heap)(f2:∀b∈a,fj X pins H2 b)(hW:Fw own fr g tt te σ Q J H2)(hRR:∀s5 F ys us,Inv (br X (own++fr.map (·.1)) j cl s2 H2 a) [(↑s2,bS us)] (cC own fr σ) F s5->aK ys us->ys.length<=sizeLine->(∀p,F p=£->Q (.ref p) (upd F p (.lst ys)))->
   RR (.ref ↑s2) (↑s2+1) (.ok .next) s5) :
  wpAny (model X.prog X.w) X.A (newList []) (λacc s3=>wpAny (model X.prog X.w) X.A (newFunctionEnv j X.env.globals cl [] X.env.qual none .none (!X.env)) (λce s4 =>
   codeAny (model X.prog X.w) X.A (.compStart (.ListComp N [{tg,L,O,0}] j pos) 0 (.ref it) acc { ce with scope:=relabel j X.env }) (RR acc ce.locals) s4) E s3) E s2:=by
 @W,⟨m0,w0⟩,turn:=hW
 #B:∀b∈a,b<↑s2:=λb h=>by
  @o,e,_:=T.obj _ _ M b h;!qG e
 ?wpAny_newObj_type (wpAny_newFunctionEnv S.cell (by ¢y hy;simp at hy) (λh₁ f d=>?_) S.kind);dsimp only at f d ⊢;generalize P:s2.heap.push { cls:=.type "list",dict:=£,data:=.seq ([]:#MD).toArray }=G at f d ⊢
 #hC:G.objs.size=↑s2+1:=by[←P,Heap.size_push]
 [hC]at f d ⊢
 #old:∀b o,s2.heap.get? b=!o->h₁.get? b=!o:=λb o e=>by
  !d.extBut b o (qp (yn (qG e))) (qH _ (P▸qH _ e))
 #hacc:h₁.get? ↑s2=!(bS []):=d.extBut _ _ (qp (yo _)) (qH _ (P▸qL _ rfl));#I3:=I2.block (own:=own) (tk:=s2.toks+([]:#(R9×MD)).length) f2 B S C old f hacc
 #m:∀{H':Hp} {us:#MD},(∀b∈a,H' b=£)->∀b∈a,fj (br X (own++fr.map (·.1)) j cl s2 H2 a) [(↑s2,bS us)] H' b:=λ{H' us} hn b h=>by
  @_,g1,g2,g3,g4,g5:=f2 b h;#hbl:=B b h;?{hn b h,?_,I2.hG g1 g2,.inl h,λx c e=>g4 x c (C.sub x c e),λp hp=>?_}
  .!qp (yn hbl)
  .#k:p=(↑s2,bS us):=by simpa[br] using hp
   £k;!zu hbl
 #I:∀s3:RX,s3={ s2 with heap:=h₁,toks:=s2.toks+([]:#(R9×MD)).length }->
   codeAny (model X.prog X.w) X.A (.compLoop (.ListComp N [{tg,L,O,0}] j pos) 0 (.ref it) (.ref ↑s2) (compEnvC j cl (↑s2+1) X.env))
    (RR (.ref ↑s2) (↑s2+1)) s3:=by
  rintro s3 rfl
  ?MC (λn s'=>∃i ys us H',aK ys us/\Inv (br X (own++fr.map (·.1)) j cl s2 H2 a) [(↑s2,bS us)] (cC own fr σ) H' s'/\tn i s'.heap/\(∀b∈a,H' b=£)/\ys.length<=sizeLine/\W i n ys H') ?_ m0
   {0,[],[],H2,.nil,I3,T.keep _ _ _ M λb _ o e=>old b o e,λb h=>(f2 b h).1,qv _,w0}
  rintro n s4 ⟨i,ys,us,F,hv,I4,st4,fr4,hz,w4⟩;@⟨stop,fin⟩|⟨go,hlt,step⟩:=turn i n ys F w4
  .?bK (T.done (br X (own++fr.map (·.1)) j cl s2 H2 a) rfl rfl rfl hc i _ s4 _ F _ I4 (m fr4) st4 stop) λr s5 ⟨hr,I5⟩=>?_
   £hr;!hRR s5 F ys us I5 hv hz fin
  .?bK (T.item (br X (own++fr.map (·.1)) j cl s2 H2 a) rfl rfl rfl hc i _ s4 _ F _ I4 (m fr4) st4 go) λr s5 ⟨u,hr,h5⟩=>?_
   £hr;?bK h5 λ_ R ⟨x,H6,I6,r6,y6,t,fr6⟩=>?_;#I6':=I6.pinned (m fr6) (T.obj _ _ t);?bK (hg s2 H2 a _ R _ H6 x u _ I6' r6 (hfr σ x H6 _ (step x H6 y6))) λ_ s7 ⟨l,H7,I7,k7,q7⟩=>?_;?bK (ht s2 H2 a _ s7 l H7 _ I7 q7) λok s8 ⟨H8,I8,q8⟩=>?_
   #D:∀{pins':#(R0×Obj)} {σ':St} {H':Hp} {s':RX},Inv (br X (own++fr.map (·.1)) j cl s2 H2 a) ([(↑s2,bS us)]++d8 a R.heap) σ' H' s'->∀b∈a,(∀o,R.heap.get? b=!o->s'.heap.get? b=!o)/\H' b=£:=λ{pins' σ' H' s'} I' b h=>by
    @o,e,_:=T.obj _ _ t b h;#z:=I'.pin (b,o) (zy _ (zy _ (C3 h e)));!{λo' e'=>by[e]at e';&e';!z.1,z.2.1}
   cases ok with
   |false =>
    [qB qr]at q8;@m',hm,w8:=q8;[qB qr];!{m',hm,i+1,ys,us,H8,hv,(I8.fv).weak k7.1 k7.2,T.keep _ _ _ t λb h o e=>(D (pins':=[]) I8 b h).1 o e,λb h=>(D (pins':=[]) I8 b h).2,hz,w8}
   |true =>
    [qF rfl]at q8;[qF rfl];?bK (he s2 H2 a _ s8 l H8 _ I8 q8) λy U ⟨v,Z,I9,r9,m',hm,w9⟩=>?_;#pD:=I9.pin (↑s2,bS us) (List.mem_append_right _ (List.mem_append_left _ (by simp)));#zD:U.heap.get? ↑s2=!(bS us):=pD.1;#nD:Z ↑s2=£:=pD.2.1;?append_at (hsz:=by ¤us.toArray.size<=sizeLine;[zg,←hv.length];!hz) zD λh5 Y hD5=>?_;#Ia:Inv (br X (own++fr.map (·.1)) j cl s2 H2 a) (d8 a R.heap) l Z U:=I9.gL λp hp=>I9.pin p (zy _ (zy _ hp));#lx:↑s2≠↑s2+1:=qp (yo _)
    #Ib:Inv (br X (own++fr.map (·.1)) j cl s2 H2 a) (d8 a R.heap) l Z { U with heap:=h5,toks:=U.toks }:=Ia.turned (it:=↑s2) (λb o h e=>Y.extBut b o h e) nD lx (.inr (qe _)) (λx c e z=>by
      @v',q:=I2.cell x c (C.sub x c e);#V:=q.lt;[z]at V
      !wu _ V) λp hp z=>by
      #k:p∈d8 a R.heap:=by simpa[br] using hp
      #V:=B p.1 (Hx k).1;[z]at V;!wu _ V
    #Ic:Inv (br X (own++fr.map (·.1)) j cl s2 H2 a) [(↑s2,bS (us++[y]))] l Z { U with heap:=h5,toks:=U.toks }:=Ib.gL λp hp=>by
     #k:p=(↑s2,bS (us++[y])):=by ±hp
     £k;!{hD5.trans (congrArg some (QJ us y)),nD,lx,pD.2.2.2.1,λv z=>by &z}
    ?{m',hm,i+1,ys++[v],us++[y],Z,hv.append (.cons r9 .nil),Ic.weak k7.1 k7.2,T.keep _ _ _ t λb h o e=>?_,λb h=>(D (pins':=[]) I9 b h).2,?_,w9}
    .!Y.extBut b o (qp (B b h)) ((D (pins':=[]) I9 b h).1 o e)
    .[qi];!hlt
 !codeAny_compStart_list (I _ rfl) (T.self _ 0 _ _ _ (T.keep _ _ _ M λb _ o e=>old b o e) (I _ rfl))
§iu{own:#R9}{cl:#(R9×R0)}{g:TG}(K:X.calm=¶)(hi:PI X tg a t)(S:fL b)(C:kJ X b cl fr)(B:∀s H c,PG (br X (own++fr.map (·.1)) b cl s H c) tg g)(n:∀σ,iZ g (cC own fr σ))(F:∀s H c,wX (br X (own++fr.map (·.1)) b cl s H c) f p)(v:∀s H c,PE (br X (own++fr.map (·.1)) b cl s H c) d te)(z:∀x,foldedSetIterable a X.env x=pure x:=by ¢_;rfl) :
  PE X (.ListComp d [{tg,a,f,0}] b pos) (LD own fr t g p te):=by
 ?{?_};¢pins s σ H Q I h;[eval_ListComp];?wpAny_comprehension_free (use:=£) rfl z C.wM S.kind S.kH (bK (hi pins s σ H _ I h) λN M h1=>bK h1 λD s2 h2=>?_);@it,c,L,J,H2,e,r,T,j,o,y:=h2;£e;?FR (RR:=λacc A=>compPost (model X.prog X.w) X.A X.xe none (EP X pins σ Q) acc A) K S C B n F v r T j o y λP q ys us i E hz l=>?_;@G,k,_:=id i.loc;#u:q ↑s2=£:=(i.pin (↑s2,bS us) (List.mem_append_right _ (by simp))).2.1;!{G,k,λh' m=>{.ref ↑s2,upd q ↑s2 (.lst ys),r.om o i E hz m,O,l _ u}}
§uK{own:#R9}{cl:#(R9×R0)}{g:TG}(hN:X.N.Nodup)(hy:X.N[i]?=!y)(hx:Loc X.env.scope y)(hc:X.calm=¶)(hi:PI X tg d Z)(S:fL l)(C:kJ X l cl fr)(hg:∀s H t,PG (br X (own++fr.map (·.1)) l cl s H t) tg g)(O:∀σ,iZ g (cC own fr σ))(ht:∀s H t,wX (br X (own++fr.map (·.1)) l cl s H t) m Y)(he:∀s H t,PE (br X (own++fr.map (·.1)) l cl s H t) k te)(hs:∀x,foldedSetIterable d X.env x=pure x:=by ¢_;rfl)(P:swapsWith (.ListComp k [{tg,d,m,0}] l pos) (!(.Name y r)) n.line X.env=pure true:=by rfl)(hf:X.fn y=¶\/X.env.scope.names.lookup y=some .local:=by first|exact .inl rfl|exact .inr rfl|assumption) :
  PS X (.Assign [.Name y r] (.ListComp k [{tg,d,m,0}] l pos) n) (uj (LD own fr Z g Y te) (cL i)):=by
 ?{?_};¢pins s σ H D I h;[exec_Assign_Name_used _ _ _ _ P];?qA (wpAny_standAt (qA ?_));¤wpAny _ X.A (do let _ ←comprehension (.ListComp k [⟨tg,d,m,0⟩] l pos) l X.env _ (newList []) false (eval d X.env) (!(assign (.Name y r) X.env))) _ _ s
 ?qA (bK (wpAny_comprehension_free (use:=!(assign (.Name y r) X.env)) (Q:=λ_ s'=>SP X pins D .next s') rfl hs C.wM S.kind S.kH
  (bK (hi pins s σ H _ I h) λxv s1 h1=>bK h1 λitv s2 h2=>?_)) λ_ s' hq=>qE (qE hq))
 @it,t,tn,J,H2,e,u,T,F,W,hW:=h2;£e;?FR (RR:=λacc A=>compPost (model X.prog X.w) X.A X.xe (!(assign (.Name y r) X.env)) (λ_ s'=>SP X pins D .next s') acc A) hc S C hg O ht he u T F W hW λs5 R ys us E hv hz L=>?_;@m5,K,_:=id E.loc;#nD:R ↑s2=£:=(E.pin (↑s2,bS us) (List.mem_append_right _ (by simp))).2.1;#nC:R (↑s2+1)=£:=E.free;#I6:Inv X pins σ (upd R ↑s2 (.lst ys)) s5:=u.om W E hv hz (Heap.SameBut.refl _ _);¤wpAny _ X.A (assign (.Name y r) X.env (.ref ↑s2)) _ _ s5;?wpAny_assign_Name (JF (v:=.ref ↑s2) I6 hN hy hx rfl (λs7 I7 ⟨a,U,G⟩=>?_) hf);#j:↑s2<↑s2+1:=yo _;#B:↑s2+1≠X.env.locals:=zu (jr u.lt j)
 #f:∀x c,X.env.cells.lookup x=!c->c≠↑s2+1:=λx c e=>by
  @v',q:=u.cell x c e;!qp (jr q.lt j)
 #V:↑s2+1≠a:=by
  @rfl|G:=G
  .!B
  .!Ne.symm (f _ _ G)
 ?⟨m5,K.sameBut U V,λh' M=>⟨_,_,?_,L _ nD⟩⟩
 !I7.turned (it:=↑s2+1) (t':=s7.toks) (λb o hb e=>M.extBut b o hb e) (by[ax (zu j)];!nC) B (.inr (qg u.sz (ww j))) f λp hp z=>by
  #q:=qG (u.pin p hp).1;[z]at q;!absurd (jr j q) (wu _)
end
section
variable {X:Cx}
inductive jH(K:PySem.W.Frag)(xs:#V)(H:Hp)(Q:VK):Prop
 |mk(x T t b:_)(_:xs=[x,.ty T])(_:eR K H x t)(_:PySem.W.kitOne K t (.type T)=!b)(_:Q (.bl b) H)
§Q4:cA X (.builtin "isinstance") (jH X.K):=by
 ¢pins s σ H xs us Q I r h;@x,T,t,b,rfl,ty,e,q:=h;@u,v,rfl,a,c:=vals2 r;&(show v=Value.type T from c);!OT I a ty e λtk=>{.bl b,H,I.tok tk,O,q}
inductive iV(x y:V)(H:Hp)(Q:VK):Prop
 |mk(a b xs:_)(_:x=.ref a)(_:y=.ref b)(_:aA H a xs)(_:aA H b [])(_:Q (.bl (decide (xs=[]))) H)
§Pk(d:X.A.units<cLine):dh X (compareOp .Eq) (iV):=by
 ¢pins s σ H x y v u Q I k l h;@a,b,xs,rfl,rfl,m,i,q:=h;&k;&l;@its,g,p,hz:=I.list m;@f,c,p2,_:=I.list i;&c
 cases g with
 |nil=>!PySem.SeqAt.eq_listAt (e:=λ_=>true) p.isList p2.isList rfl d (λj h1 _=>absurd h1 (by simp)) {.bl true,H,I,O,by ±q}
 |cons n o=>!PySem.SeqAt.eq_list_lengthsAt p.isList p2.isList (by simp) d {.bl false,H,I,O,by ±q}
end
section
variable {X:Cx}{pins:#(R0×Obj)}{σ σ':St}{H H':Hp}{s s':RX}
theorem Inv.hZ{a:R0}{o:HO}(d:Inv X pins σ H s)(I:Inv X pins σ' H' s')(i:↑s<=a)(hn:H' a=£)(new:aV X.prog X.w (upd H' a o) s'.heap a o):Inv X pins σ' (upd H' a o) s':=by
 #ne:∀b,b<↑s->b≠a:=λb h z=>()
 ?{I.ok,I.os,I.bare,{I.base.keep,I.base.slot,λb u e n g=>?_,I.base.there,λb xs e=>?_,λb u xs e=>?_,λb ps e=>?_,I.base.dM},I.loc,I.cell,?_,λx c e=>?_,λp hp=>?_,I.aS.hZ hn new,I.len}
 .[ax (ne b (zf (qG e) d.sz))]
  !I.base.free b u e n g
 .#q:=I.base.ab b xs e
  [ax (a0 q hn)];!q
 .#q:=I.base.dP b u xs e
  [ax (a0 q hn)];!q
 .@more,q:=I.base.dR b ps e
  !{more,by[ax (a0 q hn)];!q}
 .[ax (ne _ d.lt)];!I.free
 .@v,q:=d.cell x c e
  [ax (ne _ q.lt)];!I.dr x c e
 .@h1,h2,f:=I.pin p hp
  ?{h1,?_,f};[ax (ne _ (qG (d.pin p hp).1))];!h2
§Inv.dJ{t':Nat}{h':Heap}{ch:#R0}(I:Inv X pins σ H s)(f:∀b∈ch,fj X pins H b)(k:∀b o,b∉ch->s.heap.get? b=!o->h'.get? b=!o):Inv X pins σ H { s with heap:=h',toks:=t' }:=by
 #a:∀b u,H b=!u->b∉ch:=λb u e z=>by[(f b z).1]at e;&e
 ?I.step (g':=s.gens) (d':=s.drawn) (ch:=ch) (λb g=>{(f b g).2.2.2.1,(f b g).2.1,(f b g).2.2.2.2.1,(f b g).2.2.2.2.2}) (λb o _ _ d e _=>k b o d e) (λb o _ _ d e _=>{o.slots,k b o d e}) (λ_ _ _ _ n=>n)
  (λb o d e=>{o,k b o d e}) (λ_ _ e=>e) (λ_ _ _ e=>e) (λb ps e=>{#[],by[e];simp}) (λb o xs e n=>k b o (a b _ n) e) (λm i=>?_) (λb u e=>?_) I.bare
 .@o,es,ep,h,r:=i
  !{o,es,ep,k _ o (λz=>(f _ z).2.1 rfl) h,r}
 .?(I.aS b u e).cP (λc v d q=>k c v ?_ q) (λ_ q=>q) λ_ _ q=>q
  @z|z:=d
  .[z];!a b u e
  .!a c _ z
end
§Fz(a:R0):It :=
 {λi H=>∃xs x,aA H a xs/\xs[i]?=!x,λi H x H'=>∃p v,H p=£/\(∀xs,aA H a xs->xs[i]?=!v)/\x=.ref p/\H'=upd H p (.tup [.int i,v]),λi H=>∃xs,aA H a xs/\xs.length=i}
§MW{P:Program}{w:World}{K:PySem.W.Frag}{es:#Expr}{k:Nat}{tp:Pos}(a it e:R0)(F:a≠e)(n:a≠it)(l:e≠it) :
  Turn P w K (.Tuple es k tp) (Fz a) [e,it] e (λi h=>(∃old,IsEnum h e it i old)/\h.IsListIter it a i) where
 mem:=by simp
 obj:=λi h st b f=>by
  @rfl|f:=q0.mp f
  .@⟨old,q⟩,_:=st
   !{_,q,λv z=>by &z}
  .#q:b=it:=by ±f
   £q;@_,o,q,c,d:=st;!{o,q,λv z=>by[d]at z;&z}
 keep:=λi h h' st kk=>{let⟨old,q⟩:=st.1;{old,kk e (by simp) _ q},st.2.at λo q=>kk it (by simp) o q}
 item:=by
  ¢X Q G T V i pins s σ H E I C st M;subst Q G T;@xs,x,D,L:=M;@its,J,p,hz:=I.list D;@u,hu,ru:=J.get L;@⟨old,m⟩,g:=st
  #N:i<its.toArray.size:=by
   #:=(qk.mp hu).1;±this
  ?wpAny_pyNext_enum_itemD (Draws.list (show X.A.in1.handled=£ from I.ok.hd V) it a n its.toArray) m {g,p.isList} N l (by simp[l,Ne.symm F]) λB h' tk U ho S hT hsz hk=>?_
  #ex:B=u:=by
   #q:its.toArray[i]?=!B:=U
   #Z:its[i]?=!B:=by ±q
   [hu]at Z;!(qJ Z).symm
  £ex;?{_,O,wpAny_letOwnedTupleGo_enum ho λt y j=>?_}
  #I1:Inv X pins σ H { s with heap:=t,toks:=tk+1 }:=I.dJ C λb o f q=>j.extBut b o (λz=>f (by simp[z])) (hk b o (λz=>f (by simp[z])) (λz=>f (by simp[z])) q)
  #R:↑s≠e:=zu (qG m);#eT:t.get? ↑s=some { cls:=.type "tuple",data:=.seq #[.int i tk,B] }:=j.extBut _ _ R hT;#Y:H ↑s=£:=I.aS.fresh (qe _);?{.ref ↑s,upd H ↑s (.tup [.int i,x]),I.hZ I1 (Nat.le_refl _) Y {?_,[.int i tk,B],.cons {tk,O} (.cons ru .nil),{_,eT,O,_,O}},O,{_,x,Y,λys hy=>by[I.lE hy D];!L,O,O},{{_,by ±y},?_},λb f=>?_}
  .¤2<=sizeLine
   decide
  .@o,q,r:=S.1
   !{o,j.extBut _ _ (Ne.symm l) q,r}
  .obtain⟨o,q⟩:∃o,s.heap.get? b=!o:=by
    @rfl|f:=q0.mp f
    .!⟨_,m⟩
    .#q:b=it:=by ±f
     £q;@o,q,_:=g;!{o,q}
   [ax (qp (qG q))];!(C b f).1
 done:=by
  ¢X Q G T V i pins s σ H E I C st M;subst Q G T;@xs,D,L:=M;@its,J,p,hz:=I.list D;@⟨old,m⟩,g:=st;#hl:=J.length
  #hi:i=its.toArray.size:=by[zg];¥
  #hD:=Draws.list (prog:=X.prog) (w:=X.w) (show X.A.in1.handled=£ from I.ok.hd V) it a n its.toArray;[hi]at g
  !wpAny_pyNext_enum_endD hD m {g,p.isList} λh' eb=>{O,I.dJ C λb o f q=>eb b o (λz=>f (by simp[z])) q}
 self:=λ_ _ _ _ _ st h=>let⟨old,q⟩:=st.1;wpAny_pyIter_enum q h
section
variable {X:Cx}
inductive BA(R:It->Hp->¤)(vs:#V)(H1:Hp):Prop
 |mk(a:_)(_:vs=[.ref a])(_:(∃xs,aA H1 a xs))(_:R (Fz a) H1)
§IF(ta:TA):TI:=λσ H R=>ta σ H λvs H1=>BA R vs H1
§Jx{es:#Expr}(x:Gl X "enumerate")(C:X.mg "enumerate"=£)(v:PA X [a] ta)(w:starEach [a] X.env=[(false,eval a X.env)]:=by rfl) :
  PI X (.Tuple es k r) (.Call (.Name "enumerate" p) [a] [] pos) (IF ta):=by
 ?{?_};¢pins s σ H R I h;?Call_ (iO I x C boot_enumerate (PyProof.Rows.callWith_type1 (bK (v pos pins s σ H _ I h) λus c ⟨vs,H1,g,t,o⟩=>?_) w rfl));@l,e,⟨xs,B⟩,q:=o;£e;@u,rfl,A:=vals1 t;&A;@its,D,n,hz:=g.list B
 #f:l<↑c:=by @_,e,_:=n.isList;!qG e
 ?call_enumerate_list n.isList λh' m i hsz y=>?_;?wpAny_pyIter_enum m ?_;#z:Inv X pins σ H1 { c with heap:=h' }:=g.kept (t':=c.toks) y;?{↑c+1,[↑c+1,↑c],_,_,H1,O,z,MW l ↑c (↑c+1) (qp (yn f)) (qp f) (zu (yo _)),{{_,m},i},λb j=>?_,q}
 #d:↑c<=b:=by
  @rfl|j:=q0.mp j
  .!jt _
  .#e:b=↑c:=by ±j
   !Nat.le_of_eq e.symm
 !g.kY d (g.aS.fresh d)
end
§OL{a:R0}{xs:#V}{g:TG}{tb:TS}{D:Ends}{σ:St}{H:Hp}(c:Nat->St->Hp->¤)(h0:c 0 σ H)(j:∀i σ H,i<=xs.length->c i σ H->aA H a xs)(l:∀i x σ H p,xs[i]?=!x->c i σ H->H p=£->g (.ref p) σ (upd H p (.tup [.int i,x])) λd H2=>tb { D with nx:=c (i+1),ct:=c (i+1),bk:=D.nx } d H2)(o:∀σ H,c xs.length σ H->D.nx σ H) :
  ∃W:Nat->Nat->St->Hp->¤,(∃m,W 0 m σ H)/\∀i m σ H,W i m σ H->
   ((Fz a).stop i H/\D.nx σ H)\/((Fz a).go i H/\∃N:St->Hp->¤,(∀σ' H',N σ' H'->∃h,h<m/\W (i+1) h σ' H')/\∀x H',(Fz a).xD i H x H'->g x σ H' λd H2=>tb { D with nx:=N,ct:=N,bk:=D.nx } d H2):=by
 ?{λi m σ H=>m=xs.length - i/\i<=xs.length/\c i σ H,{xs.length,by simp,Nat.zero_le _,h0},?_};rintro i m σ H ⟨rfl,hi,p⟩;#q:=j i σ H hi p
 ¿f:i<xs.length
 .?.inr {{xs,xs[i],q,by simp[f]},c (i+1),λσ' H' n=>{xs.length - (i+1),(),O,f,n},λx H' y=>?_}
  @b,v,k,r,rfl,rfl:=y;!l i v σ H b (r xs q) p k
 .#e:i=xs.length:=()
  £e;!.inl {{xs,q,O},o σ H p}
§O4(h:(relabel a env).names.lookup x=!k):∃y∈a.names,y.2=k\/y.2=.free:=by
 #d:=PySem.mem_of_lookup h;@y,c,e:=qf.mp d;?{y,c,?_};@n,f:=y;dsimp only at e
 split at e
 .rename_i b
  [zt,zt]at b;!.inr (beq_iff_eq.mp b.1.1)
 .&e
  !.inl rfl
§iX(h:∀y∈b.names,y.2≠.free/\y.2≠.cell):kJ X b [] [] where
 wM:=closureFor_none λy a=>(h y a).1
 sub:=λx c e=>by &e
 has:=λx e=>by
  exfalso;@e|e:=e <;> @y,a,z:=O4 e <;> @z|z:=z
  .!(h y a).2 z
  .!(h y a).1 z
  .!(h y a).1 z
  .!(h y a).1 z
 QR:=λ_=>°
§af.up(e:af H H')(h:H' p=£):af H (upd H' p o):=λb u q=>by
 [ax (a0 (e b u q) h)];!e b u q
§af.new(h:H p=£):af H (upd H p o):=(af.refl H).up h
§af.wr(e:af H H')(h:H p=£):af H (upd H' p o):=λb u q=>by
 [ax (a0 q h)];!e b u q
section
variable {X:Cx}
inductive IS(x y:V)(H:Hp)(Q:VK):Prop
 |mk(p xs i:_)(_:x=.ref p)(_:y=.int i)(_:aA H p xs)(_:0<=i)(_:i<(xs.length:Int))(_:∀v∈xs,Q v H)
§Bg:KZ X (IS):=by
 ¢value a pins s σ H x y v u Q I c g h f;@p,xs,i,ex,d,e,h0,h1,q:=h;@j,rfl:=Int.eq_ofNat_of_zero_le h0
 #b:j<xs.length:=()
 !EE value a pins s σ H x y v u Q I c g {p,xs,j,xs[j],ex,d,e,xH (qh b),q _ (y0 b)} f
end
section
variable {X:Cx}{es:#Expr}{t:TA}{pos:Pos}
§GV(t:TA):TE:=λσ H Q=>t σ H λxs H1=>xs.length<=sizeLine/\∀p H',H1 p=£->af H1 H'->H' p=!(.tup xs)->Q (.ref p) H'
§Iw(t:TA):TE:=λσ H Q=>t σ H λxs H1=>xs.length<=sizeLine/\∀p H',H1 p=£->af H1 H'->H' p=!(.lst xs)->Q (.ref p) H'
§GH:TE:=λ_ H Q=>∀p H',H p=£->af H H'->H' p=!(.dK [])->Q (.ref p) H'
§a9{x1}(h:PA X es t):PE X (.Tuple es x1 pos) (GV t):=by
 ?{?_};¢pins s σ H Q I f;?wpAny_Tuple_spliced (bK (h pos pins s σ H _ I f) λus a ⟨xs,H1,d,r,z,q⟩=>{by[←r.length];!z,?_});#c:H1 ↑a=£:=d.aS.fresh (qe _);?{.ref ↑a,upd H1 ↑a (.tup xs),d.laid (t':=a.toks) (λb u e=>qH _ e) (qe _) ?_,O,q _ _ c (af.new c) aD};!{z,us,r,{_,qL _ rfl,O,_,O}}
§bJ(h:PA X es t):PE X (.List es pos) (Iw t):=by
 ?{?_};¢pins s σ H Q I f;?wpAny_List_spliced (bK (h pos pins s σ H _ I f) λus a ⟨xs,H1,d,r,z,q⟩=>{by[←r.length];!z,?_});#c:H1 ↑a=£:=d.aS.fresh (qe _);?{.ref ↑a,upd H1 ↑a (.lst xs),d.laid (t':=a.toks) (λb u e=>qH _ e) (qe _) ?_,O,q _ _ c (af.new c) aD};!{z,us,0,r,qL _ rfl}
§Ie:PE X (.Dict [] [] pos) GH:={λpins s σ H Q I h=>Ni pins s σ H Q I λp hp=>h p _ hp (af.new hp) aD}
§dh.imp(h:dh X f r)(i:∀x y H Q,a x y H Q->r x y H Q):dh X f a:=λpins s σ H x y v u Q I b c q=>h pins s σ H x y v u Q I b c (i x y H Q q)
§xF.imp(h:xF X r)(i:∀x lo hi H Q,a x lo hi H Q->r x lo hi H Q):xF X a:=λpins s σ H x v c g lo hi sl Q I d e b f q=>h pins s σ H x v c g lo hi sl Q I d e b f (i x lo hi H Q q)
inductive Hk(x y:V)(H:Hp)(Q:VK):Prop
 |mk(l b xs zs:_)(_:x=.ref l)(_:y=.ref b)(_:H l=!(.lst xs))(_:H b=!(.lst zs))(_:xs.length+zs.length<=sizeLine)(_:∀p H',H p=£->af H H'->H' p=!(.lst (xs++zs))->Q (.ref p) H')
§qU:dh X (binaryOp .Add) Hk:=Ee.imp λ_ _ _ _ ⟨l,b,xs,zs,h1,h2,a,c,d,q⟩=>{l,b,xs,zs,h1,h2,a,c,d,λp hp=>q p _ hp (af.new hp) aD}
inductive J'(x:V)(lo:Option Int)(hi:Option Int)(H:Hp)(Q:VK):Prop
 |mk(a xs:_)(_:x=.ref a)(_:aA H a xs)(_:∀p H',H p=£->af H H'->H' p=!(.lst (dY xs lo hi))->Q (.ref p) H')
§Ct:xF X (J'):=Qs.imp λ_ _ _ _ _ ⟨a,xs,h1,h2,q⟩=>{a,xs,h1,h2,λp hp=>q p _ hp (af.new hp) aD}
end
§lQ(env:Env):#(R9×NameKind)->#(R9×R0)->#(R9×R0)
 |[],acc=>acc
 |(n,k)::r,acc=>lQ env r (if k==.free then(n,(env.cells.lookup n).getD 0)::acc else acc)
§Ds(h:∀y∈b.names,y.2=.free->∃c,env.cells.lookup y.1=!c):closureFor b env=pure (lQ env b.names []):=by
 #all:∀(names:#(R9×NameKind)) (acc:#(R9×R0)),(∀y∈names,y.2=.free->∃c,env.cells.lookup y.1=!c)->
   (forIn names acc λx r=>(match x with
    |(name,kind)=>if(kind==NameKind.free)=¶ then do
      let a ←cellOf env name
      pure (ForInStep.yield ((name,a)::r))
     else pure (ForInStep.yield r):Sem (ForInStep (#(R9×R0)))))=pure (lQ env names acc):=by
  ¢names
  induction names with
  |nil=>intro acc _;rfl
  |cons x r i =>
   ¢acc g;@n,k:=x;[kz]
   cases d:(k==NameKind.free) with
   |true =>
    @c,j:=g (n,k) qm (beq_iff_eq.mp d)
    #e:cellOf env n=pure c:=by ¶cellOf;[j]
    dsimp only;[qF d,e];?Eq.trans (by first|rfl|simp) ((i ((n,c)::acc) λy f=>g y (List.mem_cons_of_mem _ f)).trans ?_);¤_=pure (lQ env r (if(k==NameKind.free)=¶ then(n,(env.cells.lookup n).getD 0)::acc else acc));[qF d,show env.cells.lookup n=some c from j];rfl
   |false =>
    dsimp only;[qB (by[d];!qr)];?Eq.trans (by first|rfl|simp) ((i acc λy f=>g y (List.mem_cons_of_mem _ f)).trans ?_);¤_=pure (lQ env r (if(k==NameKind.free)=¶ then(n,(env.cells.lookup n).getD 0)::acc else acc));[qB (by[d];!qr)]
 #e:=all b.names [] h
 ¤((forIn b.names [] λx r=>(match x with
       |(name,kind)=>if(kind==NameKind.free)=¶ then do
         let a ←cellOf env name
         pure (ForInStep.yield ((name,a)::r))
        else pure (ForInStep.yield r):Sem (ForInStep (#(R9×R0))))) >>= λcs=>pure cs)=_
 [e];rfl
theorem vQ:∀{names:#(R9×NameKind)} {acc:#(R9×R0)},(∀y∈names,y.2=.free->∃c,env.cells.lookup y.1=!c)->(∀x c,acc.lookup x=!c->env.cells.lookup x=!c)->
  ∀x c,(lQ env names acc).lookup x=!c->env.cells.lookup x=!c
 |[],_,_,h=>h
 |(n,k)::r,acc,hx,h=>by
  ?vQ (names:=r) (λy g=>hx y (qy _ g)) λx c e=>?_
  cases d:(k==NameKind.free) with
  |true =>
   [d,qF rfl]at e;@i,j:=hx (n,k) qm (beq_iff_eq.mp d);[gf]at e
   cases a:(x==n) with
   |true =>
    [a]at e;#q:=beq_iff_eq.mp a;£q;#f:(env.cells.lookup x).getD 0=c:=qJ e;#b:env.cells.lookup x=!i:=j;[b]at f ⊢;!congrArg some f
   |false=>rw[a]at e;!h x c e
  |false=>rw[d,qB qr]at e;!h x c e
theorem wL:∀{names:#(R9×NameKind)} {acc:#(R9×R0)},((x,NameKind.free)∈names\/∃c,acc.lookup x=!c)->∃c,(lQ env names acc).lookup x=!c
 |[],_,h=>h.elim ° id
 |(n,k)::r,acc,h=>by
  ?wL (names:=r) ?_
  #put:∀b,∃c,((n,b)::acc).lookup x=!c\/(x≠n/\acc.lookup x=£):=λb=>by
   [gf]
   cases a:(x==n) with
   |true=>!{b,.inl rfl}
   |false =>
    cases e:acc.lookup x with
    |some c=>!{c,.inl rfl}
    |none=>!{0,.inr {λz=>by £z;simp at a,O}}
  @h|⟨c,h⟩:=h
  .@q|q:=q0.mp h
   .&q
    ?.inr ?_;[qF (by rfl),gf]
    simp
   .!.inl q
  .?.inr ?_
   cases f:(k==NameKind.free) with
   |true =>
    [qF (by rfl)];@d,q|q:=put ((env.cells.lookup n).getD 0)
    .!{d,q}
    .[q.2]at h;&h
   |false=>rw[qB qr];!{c,h}
§QN(h:(relabel a env).names.lookup x=!k):∃y∈a.names,y.1=x/\(y.2=k\/y.2=.free):=by
 #d:=PySem.mem_of_lookup h;@y,c,e:=qf.mp d;?{y,c,?_};@n,f:=y;dsimp only at e
 split at e
 .rename_i b
  [zt,zt]at b;&e;!{O,.inr (beq_iff_eq.mp b.1.1)}
 .&e
  !{O,.inl rfl}
§M8(h:∀x,X.env.kindOf x=some .cell->∃c,X.env.cells.lookup x=!c)(d:∀y∈f.names,y.2≠.cell)(a:∀y∈f.names,y.2=.free->X.env.kindOf y.1=some .cell)(g:∀p∈fr,X.N[p.2]?=!p.1/\X.env.kindOf p.1=some .cell/\(relabel f X.env).names.lookup p.1=some .cell):kJ X f (lQ X.env f.names []) fr where
 wM:=Ds λy b e=>h _ (a y b e)
 sub:=vQ (λy b e=>h _ (a y b e)) λx c e=>by &e
 has:=λx e=>by
  ?wL (.inl ?_);@e|e:=e <;> @y,b,rfl,z:=QN e <;> @z|z:=z
  .!absurd z (d y b)
  .[←z];!b
  .[←z];!b
  .[←z];!b
 QR:=λp hp=>by
  @h1,h2,i:=g p hp;!{h1,by[h2];decide,.inr (.inl h2),.inl i}
§jX{g:Scope}(d:Scope)(N:#R9)(h1:X.env.scope=d)(h2:X.N=N)(j:∀x,X.env.kindOf x=some .cell->∃c,X.env.cells.lookup x=!c)(h:∀y∈g.names,y.2≠.cell)(f:∀y∈g.names,y.2=.free->d.names.lookup y.1=some .cell)(i:∀p∈fr,N[p.2]?=!p.1/\d.names.lookup p.1=some .cell/\(relabel g { scope:=d,locals:=0,globals:=0,cells:=[] }).names.lookup p.1=some .cell):kJ X g (lQ X.env g.names []) fr:=by
 ?M8 j h (λy k e=>?_) λp hp=>?_
 .¤X.env.scope.names.lookup y.1=some .cell
  [h1];!f y k e
 .@a,b,c:=i p hp
  ?{by[h2];!a,?_,?_}
  .¤X.env.scope.names.lookup p.1=some .cell
   [h1];!b
  .#e:relabel g X.env=relabel g { scope:=d,locals:=0,globals:=0,cells:=[] }:=by
    unfold relabel Env.kindOf;[h1]
   [e];!c
section
variable {X:Cx}
§cA.imp(h:cA X f r)(i:∀xs H Q,a xs H Q->r xs H Q):cA X f a:=λpins s σ H xs us Q I b q=>h pins s σ H xs us Q I b (i xs H Q q)
inductive H_(xs:#V)(H:Hp)(Q:VK):Prop
 |mk(p ys:_)(_:xs=[.ref p])(_:(aA H p ys\/aZ H p ys))(_:∀l H',H l=£->af H H'->H' l=!(.lst ys)->Q (.ref l) H')
§E7:cA X (.type "list") (H_):=N2.imp λ_ _ _ ⟨p,ys,h1,h2,q⟩=>{p,ys,h1,h2,λl a=>q l _ a (af.new a) aD}
inductive El(x y:V)(H:Hp)(Q:VK):Prop
 |mk(a b xs ys:_)(_:x=.ref a)(_:y=.ref b)(_:aZ H a xs)(_:aZ H b ys)(_:xs≠[])(_:ys≠[])(_:xs.length+ys.length<=sizeLine)(_:∀l H',H l=£->af H H'->H' l=!(.tup (xs++ys))->Q (.ref l) H')
§QP:dh X (binaryOp .Add) (El):=MX.imp λ_ _ _ _ ⟨a,b,xs,ys,h1,h2,d,h,g,c,f,q⟩=>{a,b,xs,ys,h1,h2,d,h,g,f,λe=>absurd e c,λ_ p hp=>q p _ hp (af.new hp) aD}
inductive Gb(x y:V)(H:Hp)(Q:VK):Prop
 |mk(l k xs:_)(_:x=.ref l)(_:y=.int k)(_:H l=!(.lst xs))(_:-(2 ^ 63)<=k)(_:k<2 ^ 63)(_:xs.length * k.toNat<=sizeLine)(_:∀p H',H p=£->af H H'->H' p=!(.lst (List.replicate k.toNat xs).flatten)->Q (.ref p) H')
§Gq:dh X (binaryOp .Mult) Gb:=CC.imp λ_ _ _ _ ⟨l,k,xs,h1,h2,a,b,c,d,q⟩=>{l,k,xs,h1,h2,a,b,c,d,λp hp=>q p _ hp (af.new hp) aD}
end
§c7{own:#R9}{g:TG}(hz:xs.length<=sizeLine)(d:Nat->#V->Hp->¤)(h0:d 0 [] H)(j:∀i ys H,d i ys H->aA H a xs)(u:∀i x ys H' (n:V->Hp->¤) (l:Hp->¤),xs[i]?=!x->d i ys H'->(∀y k,d (i+1) (ys++[y]) k->n y k)->(∀f,d (i+1) ys f->l f)->
   g x (cC own fr σ) H' λh H2=>o h H2 λb f=>if b=¶ then te h f n else l f)(w:∀H' p ys,d xs.length ys H'->ys.length<=xs.length->H' p=£->Q (.ref p) (upd H' p (.lst ys))):Fw own fr g o te σ Q (FJ a) H:=by
 ?{λi m ys H=>m=xs.length - i/\i<=xs.length/\ys.length<=i/\d i ys H,{xs.length,by simp,Nat.zero_le _,Nat.zero_le _,h0},?_};rintro i m ys H ⟨rfl,hi,r,p⟩
 ¿c:i<xs.length
 .?.inr {{xs,xs[i],j _ _ H p,by simp[c]},(),λx H' y=>?_}
  @rfl,y:=y;#v:=y xs (j _ _ _ p)
  ?u i x ys H' _ _ v p (λy k s=>{xs.length - (i+1),(),O,c,?_,s}) λf z=>{xs.length - (i+1),(),O,c,(),z}
  [qi,qt];¥
 .#e:i=xs.length:=()
  £e;!.inl {{xs,j _ _ H p,qe _},λq t=>w H q ys p r t}
theorem Ea{α:Type}[DecidableEq α]:∀{S ws:List α},S.Nodup->(∀x∈S,x∈ws)->S.length<=ws.length
 |[],_,_,_=>qv _
 |x::S,ws,nd,h=>by
  #c:=h x qm;#a:=z6.mp nd
  #f:=Ea (S:=S) (ws:=ws.erase x) a.2 λy b=>(List.mem_erase_of_ne (λ(e:y=x)=>a.1 (by[←e];!b))).mpr (h y (qy _ b))
  #d:=List.length_erase_of_mem c;#pos:0<ws.length:=List.length_pos_of_mem c;¤S.length+1<=ws.length;¥
§aA.same(h:aA H a xs)(s:af H H'):aA H' a xs:=by
 @h|⟨o,h⟩:=h
 .!.inl (s _ _ h)
 .!.inr ⟨o,s _ _ h⟩
mutual
inductive DV(H:Hp):V->RY->¤
 |aR:DV H .aR .none
 |bl (b:Bool):DV H (.bl b) (.bool b)
 |int (i:Int):DV H (.int i) (.int i)
 |str (z:R9):DV H (.str z) (.str z)
 |lst {p:R0} {xs:#V} {ds:#RY}:aA H p xs->dO H xs ds->DV H (.ref p) (.list ds)
 |tup {p:R0} {xs:#V} {ds:#RY}:aZ H p xs->dO H xs ds->DV H (.ref p) (.tuple ds)
inductive dO(H:Hp):#V->#RY->¤
 |nil:dO H [] []
 |cons {x:V} {xs:#V} {d:RY} {ds:#RY}:DV H x d->dO H xs ds->dO H (x::xs) (d::ds)
end
section
variable {X:Cx}{pins:#(R0×Obj)}{σ:St}{H H':Hp}{s:RX}{K:PySem.W.Frag}
§aZ.same(h:aZ H a xs)(s:af H H'):aZ H' a xs:=by
 @h|⟨o,h⟩:=h
 .!.inl (s _ _ h)
 .!.inr ⟨o,s _ _ h⟩
mutual
theorem DV.same(e:af H H'):∀{x:V} {d:RY},DV H x d->DV H' x d
 |_,_,.aR=>.aR
 |_,_,.bl b=>.bl b
 |_,_,.int i=>.int i
 |_,_,.str z=>.str z
 |_,_,.lst h t=>.lst (h.same e) (dO.same e t)
 |_,_,.tup h t=>.tup (h.same e) (dO.same e t)
theorem dO.same(e:af H H'):∀{xs:#V} {ds:#RY},dO H xs ds->dO H' xs ds
 |_,_,.nil=>.nil
 |_,_,.cons h t=>.cons (DV.same e h) (dO.same e t)
end
mutual
theorem DV.reads(I:Inv X pins σ H s):∀{x:V} {d:RY} {v:MD},DV H x d->RelV x v->∃g,Reads s.heap v d g
 |_,_,_,.aR,r=>by &r;!{_,.none}
 |_,_,_,.bl b,r=>by &r;!{_,.bool b}
 |_,_,_,.int i,r=>by @t,rfl:=r;!{_,.int i t}
 |_,_,_,.str z,r=>by @t,rfl:=r;!{_,.str z t}
 |_,_,_,.lst h t,r=>by
  &r;@its,c,⟨o,n,j,f,_,a⟩,_:=I.list h;@g,e:=dO.reads I t c;!{_,.list j f a (by ±e)}
 |_,_,_,.tup h t,r=>by
  &r;@its,c,⟨o,j,f,n,a⟩,_:=I.tuple h;@g,e:=dO.reads I t c;!{_,.tuple j f a (by ±e)}
theorem dO.reads(I:Inv X pins σ H s):∀{xs:#V} {ds:#RY} {vs:#MD},dO H xs ds->aK xs vs->∃c,ReadsAll s.heap vs ds c
 |_,_,_,.nil,r=>by &r;!{_,.nil}
 |_,_,_,.cons h t,r=>by
  cases r with
  |cons e d =>
   @c,a:=DV.reads I h e;@bs,b:=dO.reads I t d;!{_,.cons a b}
end
inductive vW(u:Nat)(neg:Bool)(x y:V)(H:Hp)(Q:VK):Prop
 |mk(dx dy:_)(_:DV H x dx)(_:DV H y dy)(_:dx.canLay0=¶)(_:dy.canLay0=¶)(_:min dx.depth dy.depth<=u)(_:Q (.bl (if neg then not (PyData.eqv dx dy) else PyData.eqv dx dy)) H)
§DY(j:X.A.units+u<cLine):dh X (compareOp .Eq) (vW u false):=by
 ¢pins s σ H x y v w Q I f g h;@dx,i,e,b,a,cy,l,q:=h;@k,c:=e.reads I f;@bs,d:=b.reads I g;!SeqAt.compareEq_reads c d a cy () {.bl _,H,I,O,q}
§DF(j:X.A.units+u<cLine):dh X (compareOp .NotEq) (vW u true):=by
 ¢pins s σ H x y v w Q I f g h;@dx,i,e,b,a,cy,l,q:=h;@k,c:=e.reads I f;@bs,d:=b.reads I g;!SeqAt.compareNe_reads c d a cy () {.bl _,H,I,O,q}
theorem kM:∀{vs:#MD} {ds:#RY} {a:#R0} {j:Nat} {v:MD},ReadsAll h vs ds a->vs[j]?=!v->∃d bs,ds[j]?=!d/\Reads h v d bs
 |_,_,_,_,_,.nil,e=>by &e
 |_,_,_,0,_,.cons r t,e=>by &e;!{_,_,O,r}
 |_,_,_,j+1,_,.cons r t,e=>by
  @d,bs,h1,h2:=kM (j:=j) t (by ±e);!{d,bs,by ±h1,h2}
theorem mZ:∀{ds:#RY} {j:Nat} {d:RY},PyData.canLayAll0 ds=¶->ds[j]?=!d->d.canLay0=¶
 |[],_,_,_,e=>by &e
 |d::ds,0,_,h,e=>by
  &e;#h':(d.canLay0&&PyData.canLayAll0 ds)=¶:=h;[zt]at h';!h'.1
 |d::ds,j+1,d',h,e=>by
  #h':(d.canLay0&&PyData.canLayAll0 ds)=¶:=h;[zt]at h';!mZ h'.2 (by ±e)
open Classical in
noncomputable def alike(vs:#MD)(ds:#RY)(dx:RY)(y:MD):Bool:=decide (∃(j:Nat) (d:RY),vs[j]?=!y/\ds[j]?=!d/\PyData.eqv d dx=¶)
open Classical in
§kZ{h:Heap}{vs:#MD}{ds:#RY}{k:#R0}{dx:RY}(r:ReadsAll h vs ds k)(c:PyData.canLayAll0 ds=¶){j:Nat}{y:MD}{d:RY}(e:vs[j]?=!y)(a:ds[j]?=!d):alike vs ds dx y=PyData.eqv d dx:=by
 ¶alike
 cases q:PyData.eqv d dx with
 |true=>!qI {j,d,e,a,q}
 |false =>
  refine decide_eq_false λ⟨o,d',l,b,f⟩=>?_;@t,p,i,m:=kM r e;@u,s,g,n:=kM r l;[a]at i;&i;[b]at g;&g;#:=SeqAt.Reads.unique _ _ _ _ _ (mZ c a) m n;[←this,q]at f;&f
§MZ{h:Heap}{dx:RY}{vs:#MD}{ds:#RY}{i:#R0}(r:ReadsAll h vs ds i)(c:PyData.canLayAll0 ds=¶):vs.any (alike vs ds dx)=ds.any λd=>PyData.eqv d dx:=by
 #l:=SeqAt.ReadsAll.length _ _ _ r;[jg,yz,yz];constructor
 .rintro⟨y,g,q⟩
  @j,b,e:=z8.mp g;@d,_,f,_:=kM r (j:=j) (by[qh b,e]);[kZ r c (by[qh b,e]) f]at q;!{d,qw f,q}
 .rintro⟨d,k,q⟩
  @j,b,e:=z8.mp k
  #a:j<vs.length:=()
  ?{vs[j],y0 a,?_};[kZ r c (qh a) (by[qh b,e])];!q
inductive Lq(u:Nat)(neg:Bool)(x y:V)(H:Hp)(Q:VK):Prop
 |mk(dx p ds xs:_)(_:DV H x dx)(_:y=.ref p)(_:(aA H p xs\/aZ H p xs))(_:dO H xs ds)(_:dx.canLay0=¶)(_:PyData.canLayAll0 ds=¶)(_:dx.depth<=u)(_:Q (.bl (if neg then not (ds.any λd=>PyData.eqv d dx) else ds.any λd=>PyData.eqv d dx)) H)
§Ei(J:X.A.units+1+u<cLine):dh X (compareOp .In) (Lq u false):=by
 ¢pins s σ H x y v w Q I E C h;@dx,p,ds,xs,o,rfl,b,z,F,cs,K,q:=h;&C;@L,D:=o.reads I E
 #a:∀{its:#MD},aK xs its->(∀y∈its,SeqAt.EqAt X.A.in1 s y v (alike its ds dx y))/\its.any (alike its ds dx)=ds.any λd=>PyData.eqv d dx:=λ{its} n=>by
  @bs,i:=z.reads I n;?{λy G=>?_,MZ i cs};@j,t,e:=z8.mp G
  #m:its[j]?=!y:=by[qh t,e]
  @d,_,l,B:=kM i m;[kZ i cs m l];!SeqAt.eqAt_reads d dx _ s y v _ _ B D (mZ cs l) F (by ¤X.A.units+1+_<cLine;¥)
 @b|b:=b
 .@its,r,g,hz:=I.list b
  @f,k:=a r;?SeqAt.in_listAt (alike its ds dx) g.isList (λw c=>f w (by ±c)) {.bl _,H,I,O,?_};[List.any_toArray,k];!q
 .@its,r,g,hz:=I.tuple b
  @f,k:=a r;?SeqAt.in_tupleAt (alike its ds dx) g (λw c=>f w (by ±c)) {.bl _,H,I,O,?_};[List.any_toArray,k];!q
inductive og(u:Nat)(o:V)(vs:#V)(H:Hp)(Q:VK):Prop
 |mk(x dx p ds xs:_)(j:Nat)(_:vs=[x])(_:o=.ref p)(_:DV H x dx)(_:aA H p xs)(_:dO H xs ds)(_:dx.canLay0=¶)(_:PyData.canLayAll0 ds=¶)(_:dx.depth<=u)(_:(∃d,ds[j]?=!d/\PyData.eqv d dx=¶))(_:(∀(m:Nat) d,m<j->ds[m]?=!d->PyData.eqv d dx=¿))(_:Q (.int (j:Int)) H)
§Qm{u:Nat}(hu:X.A.units+3+u<cLine):wN X "list.index" (og u):=by
 ¢pins s σ H o vs v us Q I Y M h;@x,dx,p,ds,xs,j,rfl,rfl,N,Z,P,W,cs,hd,⟨d,C,L⟩,l,q:=h;&Y;@w,rfl,g:=M.one;@as,S:=N.reads I g;@its,r,V,hz:=I.list Z;@⟨U,K,data,sl⟩,n,e,D,E,G:=V;dsimp only at D E G;subst D E G;@bs,b:=P.reads I r;#B:=SeqAt.ReadsAll.length _ _ _ b
 #c:j<its.length:=by
  #:=(qk.mp C).1;¥
 #hl:=r.length
 #z:sizeLine<2 ^ 63 - 1:=⋯
 ?call_meets F.slot_list_index {_,e,O} F.entry_list_index (F.args_list_index_2 _ _) (SeqAt.list_indexAt p its.toArray n none sl w (alike its ds dx) j (by ±c) () ?_ ?_) {e,λy i=>?_,?_}
 .[nr,kZ b cs (qh c) C]
  !L
 .¢m t k
  #f:m<its.length:=by ±t
  @d',_,a,_:=kM b (qh f);[nr,kZ b cs (qh f) a];!l m d' k a
 .#i:y∈its:=by ±i
  @m,t,T:=z8.mp i
  #J:its[m]?=!y:=by[qh t,T]
  @d',_,a,R:=kM b J;[kZ b cs J a];!SeqAt.eqAt_reads d' dx _ s y w _ _ R S (mZ cs a) W (by ¤X.A.units+1+_<cLine;¥)
 .!{.int j,H,I.tok _,{_,O},q}
inductive oF(u:Nat)(o:V)(vs:#V)(H:Hp)(Q:VK):Prop
 |mk(x dx p ds xs:_)(_:vs=[x])(_:o=.ref p)(_:DV H x dx)(_:aA H p xs)(_:dO H xs ds)(_:dx.canLay0=¶)(_:PyData.canLayAll0 ds=¶)(_:dx.depth<=u)(_:Q (.int ((ds.countP λd=>PyData.eqv d dx:Nat):Int)) H)
§Mp(f:MD->Bool)(r:ReadsAll h vs ds b):(∀(j:Nat) y d,vs[j]?=!y->ds[j]?=!d->f y=PyData.eqv d dx)->vs.countP f=ds.countP λd=>PyData.eqv d dx:=by
 ¢a
 induction vs generalizing ds b with
 |nil=>cases r;rfl
 |cons v vs e =>
  cases r with
  |cons k g =>
   [List.countP_cons,List.countP_cons,a 0 _ _ rfl rfl,e g λj y d i c=>a (j+1) y d (by ±i) (by ±c)]
§Nf(T:X.A.units+3+u<cLine):wN X "list.count" (oF u):=by
 ¢pins s σ H o vs v us Q I P z h;@x,dx,p,ds,xs,rfl,rfl,B,R,C,N,cs,U,q:=h;&P;@w,rfl,c:=z.one;@V,G:=B.reads I c;@its,r,M,hz:=I.list R;@⟨L,t,data,sl⟩,n,e,g,i,k:=M;dsimp only at g i k;subst g i k;@bs,b:=C.reads I r;?call_meets F.slot_list_count {_,e,O} F.entry_list_count (F.args_list_count_2 _ _) (SeqAt.list_countAt p its.toArray n none sl w (alike its ds dx)) {e,λy f=>?_,?_}
 .#f:y∈its:=by ±f
  @m,S,K:=z8.mp f
  #l:its[m]?=!y:=by[qh S,K]
  @d',_,a,D:=kM b l;[kZ b cs l a];!SeqAt.eqAt_reads d' dx _ s y w _ _ D G (mZ cs a) N (by ¤X.A.units+1+_<cLine;¥)
 .?{.int _,H,I.tok _,{_,O},?_}
  [List.toList_toArray,Mp (dx:=dx) _ b λj y d E J=>kZ b cs E J];!q
end
§M4{own:#R9}{g:TG}(hz:xs.length<=sizeLine)(d:Nat->#V->Hp->¤)(h0:d 0 [] H)(t:∀i zs H,d i zs H->aA H a xs)(z:∀i x zs H' p (l:V->Hp->¤) (o:Hp->¤),xs[i]?=!x->d i zs H'->H' p=£->(∀v k,d (i+1) (zs++[v]) k->l v k)->(∀f,d (i+1) zs f->o f)->
   g (.ref p) (cC own fr σ) (upd H' p (.tup [.int i,x])) λh H2=>n h H2 λb f=>if b=¶ then te h f l else o f)(A:∀H' p zs,d xs.length zs H'->zs.length<=xs.length->H' p=£->Q (.ref p) (upd H' p (.lst zs))):Fw own fr g n te σ Q (Fz a) H:=by
 ?{λi m zs H=>m=xs.length - i/\i<=xs.length/\zs.length<=i/\d i zs H,{xs.length,by simp,Nat.zero_le _,Nat.zero_le _,h0},?_};rintro i m zs H ⟨rfl,hi,s,p⟩;#j:=t _ _ H p
 ¿c:i<xs.length
 .?.inr {{xs,xs[i],j,by simp[c]},(),λv H' y=>?_}
  @r,x,hn,C,rfl,rfl:=y
  ?z i x zs H r _ _ (C xs j) p hn (λv k u=>{xs.length - (i+1),(),O,c,?_,u}) λf B=>{xs.length - (i+1),(),O,c,(),B}
  [qi,qt];¥
 .#e:i=xs.length:=()
  £e;!.inl {{xs,j,O},λq w=>A H q zs p s w}
§Jo{A:Around}(a:bG k A):A.units+64<cLine:=a.units
§PK{A:Around}(a:bG k A):A.units+1+63<cLine:=by #:=a.units;¥
§xh{A:Around}(a:bG k A):A.units+3+61<cLine:=by #:=a.units;¥
§ik(z:R9)(lo hi:Option Int):R9:={((z.cps.toList.drop (HT.bZ z.length 0 lo)).take (HT.bZ z.length z.length hi - HT.bZ z.length 0 lo)).toArray}
§vN(i:Int)(n:Nat):max 0 (min (if i<0 then i+(n:Int) else i) (n:Int))=((if i<0 then(i+(n:Int)).toNat else min i.toNat n:Nat):Int):=by
 ¿h:i<0
 .[qF h,qF h];¥
 .[qB h,qB h];¥
§JS(lo hi:Option Int)(n:Nat):Builtin.Str.strSliceIndices lo hi 1 n=(List.range (HT.bZ n n hi - HT.bZ n 0 lo)).map (HT.bZ n 0 lo+·):=by
 [←sliceRange_one];¶Builtin.Str.strSliceIndices
 cases lo with
 |none=>cases hi with
  |none=>rfl
  |some j =>
   ¤sliceRange 0 (max 0 (min (if j<0 then j+(n:Int) else j) (n:Int))) 1=_;[vN];rfl
 |some i=>cases hi with
  |none =>
   ¤sliceRange (max 0 (min (if i<0 then i+(n:Int) else i) (n:Int))) n 1=_;[vN];rfl
  |some j =>
   ¤sliceRange (max 0 (min (if i<0 then i+(n:Int) else i) (n:Int))) (max 0 (min (if j<0 then j+(n:Int) else j) (n:Int))) 1=_;[vN,vN];rfl
section
variable {X:Cx}
inductive P6(x:V)(lo:Option Int)(hi:Option Int)(H:Hp)(Q:VK):Prop
 |mk(z:_)(_:x=.str z)(_:z.length<=sizeLine)(_:Q (.str (ik z lo hi)) H)
§PP(z:R9)(l u:Option (Int×Tok)):((slicePicked z l u none).filterMap (z.cps[·]?))=(ik z (l.map (·.1)) (u.map (·.1))).cps.toList:=by
 unfold slicePicked ik;[show((none:Option (Int×Tok)).map (·.1)).getD 1=(1:Int) from rfl,JS,pick_run]
§O9:xF X P6:=by
 ¢pins s σ H x v p B lo hi sl Q I n d m o h;@z,rfl,hz,q:=h;@t,rfl:=n;?{"str",_,F.slot_str_getitem.lookup,typeIs_str _ z t,?_}
 #a:∀l u:Option (Int×Tok),l.map (·.1)=lo->u.map (·.1)=hi->s.heap.IsSlice sl l u none->wpAny (model X.prog X.w) X.A (getItem (.str z t) (.ref sl)) (EP X pins σ Q) X.xe s:=λl u k j f=>by
  ?wpAny_getItem_str_slice (st:=£) f rfl ?_;#i:=PP z l u;[k,j]at i;¶sliceMade
  split
  .rename_i b
   #r:(slicePicked z l u none).length=z.length:=by
    [zt]at b;!beq_iff_eq.mp b.2
   #e:ik z lo hi=z:=by
    #h1:(slicePicked z l u none).length=HT.bZ z.length z.length hi - HT.bZ z.length 0 lo:=by
     ¶slicePicked;[show((none:Option (Int×Tok)).map (·.1)).getD 1=(1:Int) from rfl,JS,k,j,qj,zo]
    #y:HT.bZ z.length z.length hi<=z.length:=by ¶HT.bZ;split <;> (try split) <;> ¥
    #h2:HT.bZ z.length 0 lo=0\/z.length=0:=()
    ¶ik;@h2|h2:=h2
    .[h2]
     [h2]at h1
     [show HT.bZ z.length z.length hi - 0=z.cps.toList.length from by
      #:z.cps.toList.length=z.length:=by simp;rfl
      ¥,List.drop_zero,ze]
    .#:z.cps.toList=[]:=by
      #:z.cps.size=0:=h2;±this
     [this];@⟨c⟩:=z
     simp at this
     simp[this]
   !{.str z,H,I,{t,O},e▸q}
  .#e:(⟨((slicePicked z l u none).filterMap (z.cps[·]?)).toArray⟩:R9)=ik z lo hi:=by
    [i]
   #g:(ik z lo hi).length<=z.length:=by
    ¶ik;¤(List.toArray _).size<=z.length;[zg,wv,yf];¤_<=z.cps.size
    #:z.cps.toList.length=z.cps.size:=by simp
    ¥
   [e];!{qg g hz,.str _,H,I.tok _,{_,O},q}
 &m <;> &o
 .!a none none rfl rfl d
 .!a none (!(_,_)) rfl rfl d
 .!a (!(_,_)) none rfl rfl d
 .!a (!(_,_)) (!(_,_)) rfl rfl d
end
section
variable {X:Cx}{tg:Expr}
theorem Lh:∀{xs:#V} {us:#MD},aK xs us->aK xs.reverse us.reverse
 |[],_,h=>by &h;!.nil
 |x::xs,_,h=>by
  cases h with
  |cons r t =>
   [me,me];!(Lh t).append (.cons r .nil)
§Hw(te:TE)(ts:TO):TE:=λσ H Q=>te σ H λx H1=>ts σ H1 λo H2=>o=!(-1)/\∃a xs,x=.ref a/\aA H2 a xs/\∀p H',H2 p=£->af H2 H'->H' p=!(.lst xs.reverse)->Q (.ref p) H'
§N5{e:Expr}{st:Expr}{te:TE}{ts:TO}{pos p2:Pos}(p:PE X e te)(d:PO X (!st) ts):PE X (.Subscript e (.Slice none none (!st) p2) pos) (Hw te ts):=by
 ?{?_};¢pins s σ H Q I h;?Subscript_ (bK (p pins s σ H _ I h) λv k ⟨x,H1,l,z,t⟩=>?_);?wpAny_Slice ?_;[evalPart_none];?qE ?_;?qE ?_;?bK (d pins k σ H1 _ l t) λvs c ⟨o,m,y,ps,B,u⟩=>?_;£B;@a,xs,rfl,n,q:=u;#f:Inv X pins σ m { c with heap:=c.heap.push { cls:=.type "slice",data:=.fields #[.none,.none,vs] } }:=y.kept (t':=c.toks) λb ob q=>qH _ q;&z;@its,r,j,hz:=f.list n;#g:=r.length;¤wpAny (model X.prog X.w) X.A (subscriptTail e (.Slice none none (!st) p2) (.ref a) (.ref ↑c)) (EP X pins σ Q) X.xe { c with heap:=c.heap.push { cls:=.type "slice",data:=.fields #[.none,.none,vs] } };?tail_any (ops:=[.ref a,.ref ↑c]) j.isList.typeIs slot_list_getitem.lookup ?_ (by with_unfolding_all rfl);?wpAny_getItem_list_slice j.isList (Heap.IsSliceOf.new ..) .none .none ps (by simp) ?_ (by[List.size_toArray] <;> ¥);[PySem.W.krv_pick];#i:=f.aS.fresh (qe _);?{.ref _,_,f.laid (t':=c.toks) (o:=.lst xs.reverse) (λb ob q=>qH _ q) (qe _) ?_,O,q _ _ i (af.new i) aD};?{by[vd];!hz,its.reverse,0,?_,?_}
 .!Lh r
 .!qL _ rfl
end
§KU:V->R9
 |.str z=>z
 |.int i=>toString i
 |_=>""
section
variable {X:Cx}
inductive m2(xs:#V)(H:Hp)(Q:VK):Prop
 |mk(x:_)(_:xs=[x])(_:((∃z,x=.str z)\/∃i:Int,x=.int i/\i.natAbs.log2<1920))(_:Q (.str (KU x)) H)
§QY:cA X (.type "str") m2:=by
 ¢pins s σ H xs us Q I r h;@x,rfl,b,q:=h;@u,rfl,a:=vals1 r;@⟨z,rfl⟩|⟨i,rfl,hi⟩:=b
 .@t,rfl:=a
  !PySem.P.str_of_str {.str z,H,I,{t,O},q}
 .@t,rfl:=a
  !PySem.P.str_of_int hi {.str _,H,I.tok _,{_,O},q}
end
end L2
set_option maxHeartbeats 40000000
namespace Srt
open PySem PySem.W PyProof.Rows
§Ok{α:Type}(n:Nat)(lt:Nat->Nat->Bool)(P:α->¤):KasT α->¤
 |.ret a=>P a
 |.ask i j k=>i<n/\j<n/\Ok n lt P (k (lt i j))
section
variable {α β:Type}{n:Nat}{lt:Nat->Nat->Bool}
theorem Ok.mono(h:∀a,P a->R a):∀{t:KasT α},Ok n lt P t->Ok n lt R t
 |.ret _,q=>h _ q
 |.ask _ _ _,q=>{q.1,q.2.1,Ok.mono h q.2.2}
theorem Ok.bind{R:β->¤}{f:α->KasT β}:∀{t:KasT α},Ok n lt (λa=>Ok n lt R (f a)) t->Ok n lt R (t.bind f)
 |.ret _,q=>q
 |.ask _ _ k,q=>{q.1,q.2.1,Ok.bind (t:=k _) q.2.2}
theorem Ok.wp(c:∀i j C,i<n->j<n->C (lt i j) s->b i j C s)(d:∀a,P a->Q a s) :
  ∀{t:KasT α},Ok n lt P t->t.kasWp b Q s
 |.ret _,q=>d _ q
 |.ask i j k,q=>c i j _ q.1 q.2.1 (Ok.wp c d (t:=k _) q.2.2)
end
structure eQ(lt:Nat->Nat->Bool):Prop where
 kB:∀a,lt a a=¿
 tr:∀a b c,lt a b=¶->lt b c=¶->lt a c=¶
 nt:∀a b c,lt a c=¶->lt a b=¶\/lt b c=¶
section
variable {n:Nat}{lt:Nat->Nat->Bool}(W:eQ lt)
include W
theorem eQ.le_of_lt(h:lt a b=¶):lt b a=¿:=by
 cases e:lt b a with
 |false=>rfl
 |true=>rw[←W.kB a,←W.tr a b a h e]
theorem eQ.du(h1:lt b a=¿)(h2:lt c b=¿):lt c a=¿:=by
 cases e:lt c a with
 |false=>rfl
 |true =>
  @q|q:=W.nt c b a e
  .[q]at h2;&h2
  .[q]at h1;&h1
theorem eQ.KS(h1:lt a b=¶)(h2:lt c b=¿):lt a c=¶:=by
 @q|q:=W.nt a c b h1
 .!q
 .[q]at h2;&h2
end
abbrev g(p:Array Nat)(i:Nat):Nat:=p.getD i 0
§Up(lt:Nat->Nat->Bool)(p:Array Nat)(n:Nat):Prop:=∀i j,i<=j->j<n->lt (g p j) (g p i)=¿
§Dn(lt:Nat->Nat->Bool)(p:Array Nat)(n:Nat):Prop:=∀i j,i<=j->j<n->lt (g p i) (g p j)=¿
§Bd(n:Nat)(p:Array Nat):Prop:=p.size=n/\∀i,g p i<n
§jL(h:p[i]?=q[j]?):g p i=g q j:=by
 ¶g;[jk,jk,h]
§mT(hn:0<n)(h:q.Perm p)(b:Bd n p):Bd n q:=by
 ?{by[h.size_eq];!b.1,λi=>?_};¶g;[jk]
 cases e:q[i]? with
 |none=>!hn
 |some x =>
  have c:x∈q:=Array.mem_of_getElem? e;have a:x∈p:=(h.mem_iff).mp c;@j,f,d:=Array.mem_iff_getElem.mp a;have:=b.2 j;unfold g at this;[jk,yw f,d]at this;!this
section
variable {n:Nat}{lt:Nat->Nat->Bool}(W:eQ lt)(hn:0<n)
theorem Mf(W:eQ lt)(h0:1<=k)(h:Up lt p k)(c:lt (g p k) (g p (k - 1))=¿):Up lt p (k+1):=by
 ¢i j a d
 ¿e:j=k
 .£e
  ¿b:i=j
  .£b;!W.kB _
  .!W.du (h i (j - 1) () ()) c
 .!h i j a ()
theorem rW(W:eQ lt)(h0:1<=k)(h:Dn lt p k)(c:lt (g p (k - 1)) (g p k)=¿):Dn lt p (k+1):=by
 ¢i j a d
 ¿e:j=k
 .£e
  ¿b:i=j
  .£b;!W.kB _
  .!W.du c (h i (j - 1) () ())
 .!h i j a ()
theorem EJ(W:eQ lt){p:Array Nat}(b:Bd n p):∀(f k:Nat),1<=k->Up lt p k->Ok n lt (λm=>k<=m/\m<=k+f/\Up lt p m/\(m<k+f->lt (g p m) (g p (m - 1))=¶)) (kas_asc p f k)
 | 0,k,_,h=>{Nat.le_refl _,Nat.le_refl _,h,λz=>absurd z (by simp)}
 |f+1,k,h0,h=>by
  ?{b.2 _,b.2 _,?_}
  cases e:lt (p.getD k 0) (p.getD (k - 1) 0) with
  |true =>
   ¤Ok n lt _ (if true=¶ then _ else _);[qF rfl];!{qe _,Nat.le_add_right _ _,h,λ_=>e}
  |false =>
   ¤Ok n lt _ (if false=¶ then _ else _);[qB ⋯]
   !(EJ W b f (k+1) () (Mf W h0 h e)).mono λm a=>{(),(),a.2.2.1,λz=>a.2.2.2 ()}
theorem Cc(W:eQ lt)(f:j<=p.size)(d:∀k,i<=k->k<j->lt (g p k) (g p (j - 1))=¿/\lt (g p (j - 1)) (g p k)=¿)(k:Nat) :
  lt (g (kas_rev p i j) k) (g p k)=¿/\lt (g p k) (g (kas_rev p i j) k)=¿:=by
 #e:=getElem?_mirror_all (i:=i) f k
 ¿h:i<=k/\k<j
 .[qF h]at e
  #b:g (kas_rev p i j) k=g p (i+j - 1 - k):=jL e;[b];#a:=d (i+j - 1 - k) () ();#c:=d k h.1 h.2;!{W.du c.2 a.1,W.du a.2 c.1}
 .[qB h]at e
  #b:g (kas_rev p i j) k=g p k:=jL e;[b];!{W.kB _,W.kB _}
theorem A0(W:eQ lt)(b:∀i,lt (g q i) (g p i)=¿/\lt (g p i) (g q i)=¿)(h:Dn lt p k):Dn lt q k:=λi j a c =>
 W.du (W.du (b j).2 (h i j a c)) (b i).1
theorem A1(d:k<=p.size)(h:Dn lt p k):Up lt (kas_rev p 0 k) k:=by
 ¢i j f l;#e:=getElem?_mirror_all (i:=0) d i;#c:=getElem?_mirror_all (i:=0) d j;[qF {qv _,()}]at e c;#a:g (kas_rev p 0 k) i=g p (0+k - 1 - i):=jL e;#b:g (kas_rev p 0 k) j=g p (0+k - 1 - j):=jL c;[a,b];!h _ _ () ()
theorem vH(p:Array Nat)(i j:Nat):(kas_rev p i j).Perm p:=mirror_perm p i j _
§DM(lt:Nat->Nat->Bool)(p:Array Nat)(k q:Nat):Prop:=q+1<=k/\∀m,k - (q+1)<=m->m<k->lt (g p m) (g p (k - 1))=¿/\lt (g p (k - 1)) (g p m)=¿
theorem qP(W:eQ lt)(h:1<=k):DM lt p k 0:={(),λm h1 h2=>by
 #:m=k - 1:=()
 £this
 !{W.kB _,W.kB _}}
theorem vO(W:eQ lt)(hn:0<n):∀(f:Nat) (p:Array Nat) (k q:Nat),Bd n p->1<=k->k+f<=n->Dn lt p k->DM lt p k q->
  Ok n lt (λr=>r.1.Perm p/\k<=r.2.1/\r.2.1<=k+f/\Dn lt r.1 r.2.1/\DM lt r.1 r.2.1 r.2.2) (kas_desc f p k q)
 | 0,p,k,q,_,_,_,hd,hl=>{.refl _,qe _,qe _,hd,hl}
 |f+1,p,k,q,b,h0,hf,hd,hl=>by
  ?{b.2 _,b.2 _,?_}
  cases e:lt (p.getD k 0) (p.getD (k - 1) 0) with
  |true =>
   ¤Ok n lt _ (if true=¶ then _ else _);[qF rfl]
   ¿h:q>0
   .[qF h]
    #l:k<=p.size:=by[b.1];¥
    #d:=Cc W l hl.2;#j:=vH p (k - (q+1)) k
    #o:g (kas_rev p (k - (q+1)) k) k=g p k:=jL (by
     #:=getElem?_mirror_all (i:=k - (q+1)) l k;[qB ()]at this
     !this)
    #t:Dn lt (kas_rev p (k - (q+1)) k) (k+1):=rW W h0 (A0 W d hd) (by
     [o]
     !W.du (W.le_of_lt e) (d (k - 1)).1)
    !(vO W hn f _ (k+1) 0 (mT hn j b) () () t (qP W ())).mono λr a=>{a.1.trans j,(),(),a.2.2.2}
   .[qB h]
    !(vO W hn f p (k+1) 0 b () () (rW W h0 hd (W.le_of_lt e)) (qP W ())).mono λr a=>{a.1,(),(),a.2.2.2}
  |false =>
   ¤Ok n lt _ (if false=¶ then _ else _);[qB ⋯];?{b.2 _,b.2 _,?_}
   cases c:lt (p.getD (k - 1) 0) (p.getD k 0) with
   |true =>
    ¤Ok n lt _ (if true=¶ then _ else _);[qF rfl];!{.refl _,qe _,Nat.le_add_right _ _,hd,hl}
   |false =>
    ¤Ok n lt _ (if false=¶ then _ else _);[qB ⋯]
    ?(vO W hn f p (k+1) (q+1) b () () (rW W h0 hd c) {by #:=hl.1;¥,λm h1 h2=>?_}).mono λr a=>{a.1,(),(),a.2.2.2}
    ¤lt (g p m) (g p k)=¿/\lt (g p k) (g p m)=¿
    ¿s:m=k
    .£s;!{W.kB _,W.kB _}
    .#:=hl.2 m () ()
     !{W.du c this.1,W.du this.2 e}
theorem Jh(W:eQ lt)(hn:0<n)(b:Bd n p)(h1:1<=k)(d:k<=n)(c:Dn lt p k):Ok n lt (λr=>1<=r.1/\r.1<=n/\r.2.Perm p/\Up lt r.2 r.1) (kas_tail3 k n p):=by
 ¶kas_tail3;#a:=vH p 0 k;?Ok.bind ((EJ W (mT hn a b) (n - k) k h1 (A1 (by[b.1];!d) c)).mono λm e=>?_);!{(),(),a,e.2.2.1}
theorem Ly(W:eQ lt)(hn:0<n)(b:Bd n p)(h1:1<=k)(l:k+1<=n)(j:Dn lt p (k+1)):Ok n lt (λr=>1<=r.1/\r.1<=n/\r.2.Perm p/\Up lt r.2 r.1) (kas_descPart k n p):=by
 ¶kas_descPart;?Ok.bind ((vO W hn (n - (k+1)) p (k+1) 0 b () () j (qP W ())).mono λr h=>?_);@f,a1,a2,g,i:=h;#e:=mT hn f b
 split
 .#d:r.2.1<=r.1.size:=by[e.1];¥
  #c:=vH r.1 (r.2.1 - (r.2.2+1)) r.2.1;!(Jh W hn (mT hn c e) () () (A0 W (Cc W d i.2) g)).mono λx a=>{a.1,a.2.1,(a.2.2.1.trans c).trans f,a.2.2.2}
 .!(Jh W hn e () () g).mono λx a=>{a.1,a.2.1,a.2.2.1.trans f,a.2.2.2}
theorem MK(W:eQ lt)(h:Up lt p k)(h0:lt (g p 0) (g p (k - 1))=¿):Dn lt p k:=λi j b d=>by
 #a:=h 0 i () ();#c:=h j (k - 1) () ();!W.du (W.du c h0) a
theorem MY(W:eQ lt)(hn:0<n){p:Array Nat}(b:Bd n p):Ok n lt (λr=>1<=r.1/\r.1<=n/\r.2.Perm p/\Up lt r.2 r.1) (kas_count n p):=by
 ¶kas_count
 #y:Up lt p 1:=λi j h x=>by
  #:i=j:=()
  £this;!W.kB _
 ?Ok.bind ((EJ W b (n - 1) 1 () y).mono λk A=>?_);@h1,h2,up,u:=A
 ¿e:(k==n)=¶
 .[qF e]
  !{h1,(),.refl _,up}
 .[qB e]
  #w:k≠n:=λz=>e (by[z];simp)
  #c:=u ()
  ¿d:k>1
  .[qF d]
   ?{b.2 _,b.2 _,?_}
   cases v:lt (p.getD 0 0) (p.getD (k - 1) 0) with
   |true =>
    ¤Ok n lt _ (if true=¶ then _ else _);[qF rfl];!{h1,by ¤k<=n;¥,.refl _,up}
   |false =>
    ¤Ok n lt _ (if false=¶ then _ else _);[qB ⋯]
    #a:k<=p.size:=by[b.1];¥
    #o:=MK W up v;#s:=vH p 0 k
    #q:=Cc (i:=0) W a λm _ B=>{o m (k - 1) () ()|> λz=>z,up m (k - 1) () ()}
    #t:g (kas_rev p 0 k) k=g p k:=jL (by
     #:=getElem?_mirror_all (i:=0) a k;[qB ()]at this
     !this)
    #l:Dn lt (kas_rev p 0 k) (k+1):=rW W h1 (A0 W q o) (by
     [t]
     !W.du (W.le_of_lt c) (q (k - 1)).1)
    !(Ly W hn (mT hn s b) h1 () l).mono λr f=>{f.1,f.2.1,f.2.2.1.trans s,f.2.2.2}
  .[qB d]
   #:k=1:=()
   £this
   #l:Dn lt p 1:=λi j h x=>by
    #:i=j:=()
    £this;!W.kB _
   !Ly W hn b h1 () (rW W h1 l (W.le_of_lt c))
theorem D'(W:eQ lt)(b:Bd n p)(up:Up lt p k):∀(f l r:Nat),l<=r->r<=k->r - l<=f->(∀i,i<l->lt (g p k) (g p i)=¿)->(∀i,r<=i->i<k->lt (g p k) (g p i)=¶)->
  Ok n lt (λm=>m<=k/\(∀i,i<m->lt (g p k) (g p i)=¿)/\∀i,m<=i->i<k->lt (g p k) (g p i)=¶) (kas_place p k f l r)
 | 0,l,r,h1,h2,h3,hl,hr=>{(),hl,λi hi a=>hr i () a}
 |f+1,l,r,h1,h2,h3,hl,hr=>by
  ¶kas_place
  ¿e:l>=r
  .[qF e]
   !{(),hl,λi hi a=>hr i () a}
  .[qB e]
   ?{b.2 _,b.2 _,?_}
   cases c:lt (p.getD k 0) (p.getD ((l+r) / 2) 0) with
   |true =>
    ¤Ok n lt _ (if true=¶ then _ else _);[qF rfl];!D' W b up f l ((l+r) / 2) () () () hl λi hi a=>W.KS c (up _ i hi a)
   |false =>
    ¤Ok n lt _ (if false=¶ then _ else _);[qB ⋯];!D' W b up f ((l+r) / 2+1) r () h2 () (λi hi=>W.du (up i ((l+r) / 2) () ()) c) hr
theorem JP(W:eQ lt)(hn:0<n):∀(f:Nat) (p:Array Nat) (k:Nat),Bd n p->k+f=n->Up lt p k->Ok n lt (λq=>q.Perm p/\Up lt q n) (kas_bin f p k)
 | 0,p,k,_,hk,up=>{.refl _,by[←hk];!up}
 |f+1,p,k,b,hk,up=>by
  ¶kas_bin;?Ok.bind ((D' W b up k 0 k (qv _) (qe _) () (λi hi=>absurd hi ()) λi h1 h2=>absurd h2 ()).mono λl s=>?_);@x,t,v:=s;#m:=bubble_perm p k (k - l)
  #w:k<p.size:=by[b.1];¥
  #at':∀i,g (bubble p k (k - l)) i=if i=l then g p k else if l<i/\i<=k then g p (i - 1) else g p i:=λi=>by
   #e:=getElem?_bubble w (k - l) () i;[show k - (k - l)=l from ()]at e
   ¿h1:i=l
   .[qF h1]at e ⊢;!jL e
   .[qB h1]at e ⊢
    ¿h2:l<i/\i<=k
    .[qF h2]at e ⊢;!jL e
    .[qB h2]at e ⊢;!jL e
  #c:Up lt (bubble p k (k - l)) (k+1):=by
   ¢i j u y;[at' i,at' j]
   ¿h:i=l
   .[qF h]
    ¿a:j=l
    .[qF a];!W.kB _
    .[qB a,qF {(),()}]
     !W.le_of_lt (v (j - 1) () ())
   .[qB h]
    ¿o:l<i/\i<=k
    .[qF o,qB (),qF {(),()}]
     !up _ _ () ()
    .[qB o]
     ¿a:j=l
     .[qF a];!t i ()
     .[qB a]
      ¿r:l<j/\j<=k
      .[qF r];!up _ _ () ()
      .[qB r];!up _ _ () ()
  !(JP W hn f _ (k+1) (mT hn m b) () c).mono λq d=>{d.1.trans m,d.2}
theorem vE(W:eQ lt)(hn:0<n):Ok n lt (λq=>q.Perm (List.toArray (List.range n))/\Up lt q n) (kas_sort n):=by
 ¶kas_sort
 #b:Bd n (List.toArray (List.range n)):=by
  ?{by simp,λi=>?_};¶g;[jk]
  ¿h:i<n
  .simp[h]
  .simp[h,hn]
 ?Ok.bind ((MY W hn b).mono λr f=>?_);@h1,h2,a,up:=f
 split
 .rename_i d
  #e:max r.1 1=r.1:=()
  [e];!(JP W hn _ _ _ (mT hn a b) () up).mono λq c=>{c.1.trans a,c.2}
 .#e:r.1=n:=()
  !{a,by[←e];!up}
end
end Srt
namespace L2
open PySem PySem.Spec PyProof.Rows
mutual
inductive DT(H:Hp):V->RY->¤
 |aR:DT H .aR .none
 |bl (b:Bool):DT H (.bl b) (.bool b)
 |int (i:Int):DT H (.int i) (.int i)
 |str (z:R9):DT H (.str z) (.str z)
 |tup {p:R0} {xs:#V} {ds:#RY}:H p=!(.tup xs)->cx H xs ds->DT H (.ref p) (.tuple ds)
inductive cx(H:Hp):#V->#RY->¤
 |nil:cx H [] []
 |cons {x:V} {xs:#V} {d:RY} {ds:#RY}:DT H x d->cx H xs ds->cx H (x::xs) (d::ds)
end
mutual
theorem DT.same(e:af H H'):∀{x:V} {d:RY},DT H x d->DT H' x d
 |_,_,.aR=>.aR
 |_,_,.bl b=>.bl b
 |_,_,.int i=>.int i
 |_,_,.str z=>.str z
 |_,_,.tup h t=>.tup (e _ _ h) (cx.same e t)
theorem cx.same(e:af H H'):∀{xs:#V} {ds:#RY},cx H xs ds->cx H' xs ds
 |_,_,.nil=>.nil
 |_,_,.cons h t=>.cons (DT.same e h) (cx.same e t)
end
mutual
theorem DT.dv:∀{x:V} {d:RY},DT H x d->DV H x d
 |_,_,.aR=>.aR
 |_,_,.bl b=>.bl b
 |_,_,.int i=>.int i
 |_,_,.str z=>.str z
 |_,_,.tup h t=>.tup (aZ.of h) (cx.dv t)
theorem cx.dv:∀{xs:#V} {ds:#RY},cx H xs ds->dO H xs ds
 |_,_,.nil=>.nil
 |_,_,.cons h t=>.cons (DT.dv h) (cx.dv t)
end
§Gs{H:Hp}{a b:R0}{xs:#V}{o:HO}(f:H a=!(.tup xs))(c:H b=!o)(d:∀ys,o≠.tup ys):a≠b:=λe=>by
 £e;[f]at c;!d xs (qJ c).symm
mutual
§gG:RY->Bool
 |.none=>true
 |.bool _=>false
 |.int _=>true
 |.str _=>true
 |.list xs=>kW xs
 |.tuple xs=>kW xs
 |.dict _=>false
§kW:#RY->Bool
 |[]=>true
 |x::xs=>gG x&&kW xs
end
mutual
theorem xG:∀(a b:RY),gG a=¶->gG b=¶->(PyData.eqv a b=¶↔a=b)
 |.list xs,b,ha,hb=>by
  cases b with
  |list ys =>
   have:=Fn xs ys (by simpa[gG] using ha) (by simpa[gG] using hb)
   simp only[PyData.eqv,this,PyData.list.injEq]
  |_=>simp[PyData.eqv]
 |.tuple xs,b,ha,hb=>by
  cases b with
  |tuple ys =>
   have:=Fn xs ys (by simpa[gG] using ha) (by simpa[gG] using hb)
   simp only[PyData.eqv,this,PyData.tuple.injEq]
  |_=>simp[PyData.eqv]
 |.dict _,_,ha,_=>by simp[gG]at ha
 |.bool _,_,ha,_=>by simp[gG]at ha
 |.none,b,_,hb=>by &b <;> simp_all [PyData.eqv,gG]
 |.int i,b,_,hb=>by &b <;> simp_all [PyData.eqv,gG]
 |.str i,b,_,hb=>by &b <;> simp_all [PyData.eqv,gG]
theorem Fn:∀(xs ys:#RY),kW xs=¶->kW ys=¶->(PyData.eqvAll xs ys=¶↔xs=ys)
 |[],ys,_,_=>by &ys <;> simp[PyData.eqvAll]
 |x::xs,ys,ha,hb=>by
  cases ys with
  |nil=>simp[PyData.eqvAll]
  |cons y ys =>
   [kW,zt]at ha hb;#h1:=xG x y ha.1 hb.1;#h2:=Fn xs ys ha.2 hb.2
   simp only[PyData.eqvAll,Bool.and_eq_true,h1,h2,List.cons.injEq]
end
theorem pQ:∀{xs:#RY},(∀x∈xs,gG x=¶)->kW xs=¶
 |[],_=>rfl
 |x::xs,h=>by
  [kW,h x qm,pQ λy a=>h y (qy _ a)];rfl
theorem dD:∀{xs:#RY},(∀x∈xs,x.canLay0=¶)->PyData.canLayAll0 xs=¶
 |[],_=>rfl
 |x::xs,h=>by
  ¤(x.canLay0&&PyData.canLayAll0 xs)=¶;[h x qm,dD λy a=>h y (qy _ a)];rfl
§As{α:Type}{l:List α}{x:α}(h:l.Nodup)(c:x∉l):(l++[x]).Nodup :=
 wt.mpr {h,z6.mpr {λz=>(List.not_mem_nil z).elim,vi},λa d b f e=>c (by[qx.mp f]at e;[←e];!d)}
mutual
§sk:RY->RY->Bool
 |.none,.none=>true
 |.bool _,.bool _=>true
 |.int _,.int _=>true
 |.str _,.str _=>true
 |.tuple xs,.tuple ys=>eO xs ys
 |_,_=>false
§eO:#RY->#RY->Bool
 |[],_=>true
 |_::_,[]=>true
 |x::xs,y::ys=>sk x y&&eO xs ys
end
mutual
§bT:RY->RY->Bool
 |.bool a,.bool b=>not a&&b
 |.int i,.int j=>decide (i<j)
 |.str x,.str y=>decide (x.cps.toList<y.cps.toList)
 |.tuple xs,.tuple ys=>bF xs ys
 |_,_=>false
§bF:#RY->#RY->Bool
 |[],[]=>false
 |[],_::_=>true
 |_::_,[]=>false
 |x::xs,y::ys=>if PyData.eqv x y=¶ then bF xs ys else bT x y
end
mutual
theorem cH:∀(a b:RY),sk a b=¶->(PyData.eqv a b=¶↔a=b)
 |.tuple xs,b,h=>by
  cases b with
  |tuple ys=>simp only[PyData.eqv,PyData.tuple.injEq];!Cz xs ys (by simpa[sk] using h)
  |_=>simp[sk]at h
 |.none,b,h=>by &b <;> simp_all [sk,PyData.eqv]
 |.bool _,b,h=>by &b <;> simp_all [sk,PyData.eqv]
 |.int _,b,h=>by &b <;> simp_all [sk,PyData.eqv]
 |.str _,b,h=>by &b <;> simp_all [sk,PyData.eqv]
 |.list _,b,h=>by &b <;> simp[sk]at h
 |.dict _,b,h=>by &b <;> simp[sk]at h
theorem Cz:∀(xs ys:#RY),eO xs ys=¶->(PyData.eqvAll xs ys=¶↔xs=ys)
 |[],ys,_=>by &ys <;> simp[PyData.eqvAll]
 |x::xs,[],_=>by simp[PyData.eqvAll]
 |x::xs,y::ys,h=>by
  [eO,zt]at h
  simp only[PyData.eqvAll,Bool.and_eq_true,cH x y h.1,Cz xs ys h.2,List.cons.injEq]
end
§NV{x y:R9}(h:x.cps.toList=y.cps.toList):x=y:=by
 @⟨a⟩:=x;@⟨b⟩:=y;!congrArg Str.mk (Array.ext' h)
mutual
theorem mC:∀a:RY,bT a a=¿
 |.tuple xs=>by[bT];!KJ xs
 |.none=>rfl
 |.bool b=>by &b <;> rfl
 |.int i=>by simp[bT]
 |.str x=>by simp[bT,List.lt_irrefl]
 |.list _=>rfl
 |.dict _=>rfl
theorem KJ:∀xs:#RY,bF xs xs=¿
 |[]=>rfl
 |x::xs=>by
  [bF,KJ xs,mC x]
  split <;> rfl
end
mutual
theorem Bi:∀(a b:RY),sk a b=¶->bT a b=¿->bT b a=¿->a=b
 |.tuple xs,b,h,h1,h2=>by
  cases b with
  |tuple ys=>!congrArg PyData.tuple (IA xs ys (by simpa[sk] using h) (by simpa[bT] using h1) (by simpa[bT] using h2))
  |_=>simp[sk]at h
 |.none,b,h,_,_=>by &b <;> simp_all [sk]
 |.bool a,b,h,h1,h2=>by
  cases b with
  |bool c=>cases a <;> &c <;> simp_all [bT]
  |_=>simp[sk]at h
 |.int i,b,h,h1,h2=>by
  cases b with
  |int j=>simp only[bT,decide_eq_false_iff_not]at h1 h2;!congrArg _ ()
  |_=>simp[sk]at h
 |.str x,b,h,h1,h2=>by
  cases b with
  |str y =>
   simp only[bT,decide_eq_false_iff_not]at h1 h2
   !congrArg _ (NV (List.le_antisymm (mf.mp h2) (mf.mp h1)))
  |_=>simp[sk]at h
 |.list _,b,h,_,_=>by &b <;> simp[sk]at h
 |.dict _,b,h,_,_=>by &b <;> simp[sk]at h
theorem IA:∀(xs ys:#RY),eO xs ys=¶->bF xs ys=¿->bF ys xs=¿->xs=ys
 |[],[],_,_,_=>rfl
 |[],_::_,_,h,_=>by simp[bF]at h
 |_::_,[],_,_,h=>by simp[bF]at h
 |x::xs,y::ys,h,h1,h2=>by
  [eO,zt]at h
  ¿e:x=y
  .£e
   #ex:PyData.eqv x x=¶:=(cH x x h.1).mpr rfl;[bF,qF ex]at h1 h2;[IA xs ys h.2 h1 h2]
  .#c:¬PyData.eqv x y=¶:=λz=>e ((cH x y h.1).mp z)
   #b:sk y x=¶:=KA x y h.1;#a:¬PyData.eqv y x=¶:=λz=>e ((cH y x b).mp z).symm;[bF,qB c]at h1;[bF,qB a]at h2;!absurd (Bi x y h.1 h1 h2) e
theorem KA:∀(a b:RY),sk a b=¶->sk b a=¶
 |.tuple xs,b,h=>by
  cases b with
  |tuple ys=>rw[sk];!LB xs ys (by simpa[sk] using h)
  |_=>simp[sk]at h
 |.none,b,h=>by &b <;> simp_all [sk]
 |.bool _,b,h=>by &b <;> simp_all [sk]
 |.int _,b,h=>by &b <;> simp_all [sk]
 |.str _,b,h=>by &b <;> simp_all [sk]
 |.list _,b,h=>by &b <;> simp[sk]at h
 |.dict _,b,h=>by &b <;> simp[sk]at h
theorem LB:∀(xs ys:#RY),eO xs ys=¶->eO ys xs=¶
 |[],[],_=>rfl
 |[],_::_,_=>rfl
 |_::_,[],_=>rfl
 |x::xs,y::ys,h=>by
  [eO,zt]at h ⊢;!{KA x y h.1,LB xs ys h.2}
end
mutual
theorem vR:∀(a b c:RY),sk a b=¶->sk b c=¶->sk a c=¶->bT a b=¶->bT b c=¶->bT a c=¶
 |.tuple xs,b,c,h1,h2,h3,l1,l2=>by
  cases b with
  |tuple ys =>
   cases c with
   |tuple zs=>rw[bT];!Kl xs ys zs (by simpa[sk] using h1) (by simpa[sk] using h2) (by simpa[sk] using h3) (by simpa[bT] using l1) (by simpa[bT] using l2)
   |_=>simp[sk]at h3
  |_=>simp[sk]at h1
 |.none,b,c,_,_,_,l1,_=>by &b <;> simp[bT]at l1
 |.bool a,b,c,h1,h2,h3,l1,l2=>by
  cases b with
  |bool y =>
   cases c with
   |bool z=>cases a <;> &y <;> &z <;> simp_all [bT]
   |_=>simp[sk]at h3
  |_=>simp[sk]at h1
 |.int i,b,c,h1,h2,h3,l1,l2=>by
  cases b with
  |int y =>
   cases c with
   |int z=>simp only[bT,decide_eq_true_eq]at *;¥
   |_=>simp[sk]at h3
  |_=>simp[sk]at h1
 |.str i,b,c,h1,h2,h3,l1,l2=>by
  cases b with
  |str y =>
   cases c with
   |str z=>simp only[bT,decide_eq_true_eq]at *;!List.lt_trans l1 l2
   |_=>simp[sk]at h3
  |_=>simp[sk]at h1
 |.list _,b,c,_,_,_,l1,_=>by &b <;> simp[bT]at l1
 |.dict _,b,c,_,_,_,l1,_=>by &b <;> simp[bT]at l1
theorem Kl:∀(xs ys zs:#RY),eO xs ys=¶->eO ys zs=¶->eO xs zs=¶->bF xs ys=¶->bF ys zs=¶->bF xs zs=¶
 |_,_,[],_,_,_,_,l2=>by
  rename_i ys _ _ _ _
  &ys <;> simp[bF]at l2
 |[],_,_::_,_,_,_,_,_=>rfl
 |x::xs,[],_::_,_,_,_,l1,_=>by simp[bF]at l1
 |x::xs,y::ys,z::zs,h1,h2,h3,l1,l2=>by
  [eO,zt]at h1 h2 h3
  ¿e:x=y
  .£e
   #b:PyData.eqv x x=¶:=(cH x x h1.1).mpr rfl;[bF,qF b]at l1
   ¿a:x=z
   .£a
    [bF,qF b]at l2 ⊢;!Kl xs ys zs h1.2 h2.2 h3.2 l1 l2
   .#d:¬PyData.eqv x z=¶:=λw=>a ((cH x z h3.1).mp w)
    [bF,qB d]at l2 ⊢;!l2
  .#b:¬PyData.eqv x y=¶:=λw=>e ((cH x y h1.1).mp w)
   [bF,qB b]at l1
   ¿a:y=z
   .£a
    [bF,qB b];!l1
   .#d:¬PyData.eqv y z=¶:=λw=>a ((cH y z h2.1).mp w)
    [bF,qB d]at l2;#c:=vR x y z h1.1 h2.1 h3.1 l1 l2
    #f:¬PyData.eqv x z=¶:=λw=>by
     #:=(cH x z h3.1).mp w;£this;[mC]at c;&c
    [bF,qB f];!c
end
mutual
theorem KO:∀(a b c:RY),sk a b=¶->sk b c=¶->sk a c=¶->bT a c=¶->bT a b=¶\/bT b c=¶
 |.tuple xs,b,c,h1,h2,h3,l=>by
  cases b with
  |tuple ys =>
   cases c with
   |tuple zs=>rw[bT,bT];!Gw xs ys zs (by simpa[sk] using h1) (by simpa[sk] using h2) (by simpa[sk] using h3) (by simpa[bT] using l)
   |_=>simp[sk]at h3
  |_=>simp[sk]at h1
 |.none,b,c,_,_,_,l=>by &c <;> simp[bT]at l
 |.bool a,b,c,h1,h2,h3,l=>by
  cases b with
  |bool y =>
   cases c with
   |bool z=>cases a <;> &y <;> &z <;> simp_all [bT]
   |_=>simp[sk]at h3
  |_=>simp[sk]at h1
 |.int i,b,c,h1,h2,h3,l=>by
  cases b with
  |int y =>
   cases c with
   |int z=>simp only[bT,decide_eq_true_eq]at *;¥
   |_=>simp[sk]at h3
  |_=>simp[sk]at h1
 |.str i,b,c,h1,h2,h3,l=>by
  cases b with
  |str y =>
   cases c with
   |str z =>
    simp only[bT,decide_eq_true_eq]at *
    ¿d:i.cps.toList<y.cps.toList
    .!.inl d
    .!.inr (List.lt_of_le_of_lt (mf.mp d) l)
   |_=>simp[sk]at h3
  |_=>simp[sk]at h1
 |.list _,b,c,_,_,_,l=>by &c <;> simp[bT]at l
 |.dict _,b,c,_,_,_,l=>by &c <;> simp[bT]at l
theorem Gw:∀(xs ys zs:#RY),eO xs ys=¶->eO ys zs=¶->eO xs zs=¶->bF xs zs=¶->bF xs ys=¶\/bF ys zs=¶
 |xs,_,[],_,_,_,l=>by &xs <;> simp[bF]at l
 |[],[],_::_,_,_,_,_=>.inr rfl
 |[],_::_,_::_,_,_,_,_=>.inl rfl
 |x::xs,[],_::_,_,_,_,_=>.inr rfl
 |x::xs,y::ys,z::zs,h1,h2,h3,l=>by
  [eO,zt]at h1 h2 h3
  ¿e:x=z
  .£e
   #a:PyData.eqv x x=¶:=(cH x x h3.1).mpr rfl;[bF,qF a]at l
   ¿b:x=y
   .£b
    [bF,qF a,bF,qF a];!Gw xs ys zs h1.2 h2.2 h3.2 l
   .#c:¬PyData.eqv x y=¶:=λw=>b ((cH x y h1.1).mp w)
    #d:¬PyData.eqv y x=¶:=λw=>b ((cH y x h2.1).mp w).symm;[bF,qB c,bF,qB d]
    cases f:bT x y with
    |true=>!.inl rfl
    |false =>
     cases p2:bT y x with
     |true=>!.inr rfl
     |false=>!absurd (Bi x y h1.1 f p2) b
  .#a:¬PyData.eqv x z=¶:=λw=>e ((cH x z h3.1).mp w)
   [bF,qB a]at l;@p|p:=KO x y z h1.1 h2.1 h3.1 l
   .left
    #c:¬PyData.eqv x y=¶:=λw=>by
     #:=(cH x y h1.1).mp w;£this;[mC]at p;&p
    [bF,qB c];!p
   .right
    #d:¬PyData.eqv y z=¶:=λw=>by
     #:=(cH y z h2.1).mp w;£this;[mC]at p;&p
    [bF,qB d];!p
end
§ef(A:Around)(s:RX)(x y:MD)(b:Bool):Prop:=∀(prog:Program) (w:World) (E:KE) (Q:KE),Q (.bool b) s->wpAny (model prog w) A (richCompare .Lt x y) Q E s
open SeqAt in
§MJ(l b:R0)(us vs:Array MD)(n E:Nat)(B t:Option R0)(sl o:Array (Option MD))(e:Nat->Bool)(c:Bool) :
  Meets (Builtin.«tuple.__lt__» {[.ref l,.ref b],[]})
   (λA R s=>s.heap.get? l=some { cls:=.type "tuple",dict:=B,data:=.seq us n,slots:=sl }/\s.heap.get? b=some { cls:=.type "tuple",dict:=t,data:=.seq vs E,slots:=o } ∧
    (∀j (h1:j<us.size) (h2:j<vs.size),EqAt A.in1 s us[j] vs[j] (e j)) ∧
    (∀i (h1:i<us.size) (h2:i<vs.size),(∀j,j<i->e j=¶)->e i=¿->ef A.in1 s us[i] vs[i] c) ∧
    ((∀j,j<min us.size vs.size->e j=¶)->c=decide (us.size<vs.size))/\R (.ok (.ret (.bool c))) s) :=
 .of_wp λprog w A R s h=>by
  @hp,g,d,tk,C:=s;@F,G,v,p,f,h:=h;#H:=AutoSeq1.sub_tuple_tuple
  #I:(us.toList.zip vs.toList).length=min us.size vs.size:=by simp
  wp_walk using wpAny_loadPart' F,wpAny_loadPart' G,wpAny_forIn_list _ (λrest b s'=>b.1=£/\s'={hp,g,d,tk,C}/\∃i,rest=(us.toList.zip vs.toList).drop i/\∀j,j<i->e j=¶) _
  case turn =>
   rintro⟨y,x⟩ rest b s' ⟨a,rfl,i,hz,hi⟩
   #k:i<(us.toList.zip vs.toList).length:=by
    @h' |h':=jl i (us.toList.zip vs.toList).length
    .!h'
    .[nv h']at hz;&hz
   #h1:i<us.size:=()
   #h2:i<vs.size:=()
   [jm k]at hz;injection hz with hyx hrest
   #m:y=us[i]:=by #:=congrArg Prod.fst hyx;±this
   #D:x=vs[i]:=by #:=congrArg Prod.snd hyx;±this
   subst m D;?qA (v i h1 h2 prog w _ _ ?_)
   cases m:e i with
   |true =>
    wp_walk
    !{O,O,i+1,hrest,λj r=>by
     ¿z:j=i
     .[z];!m
     .!hi j ()}
   |false =>
    have q:=p i h1 h2 hi m;dsimp only;[qF (by rfl)];?qA (wpAny_rule (qA (q prog w _ _ ?_)));!qA (qE (qE (qE {_,O,h})))
  case fin =>
   rintro⟨J,K⟩ s' ⟨a,rfl,i,hz,hi⟩
   simp only at a
   £a
   have u:min us.size vs.size<=i:=by
    @h' |h':=jl i (us.toList.zip vs.toList).length
    .[jm h']at hz;&hz
    .¥
   have:=f λj r=>hi j ()
   wp_walk
   !{_,O,by[this]at h;simpa[Builtin.Tuple.tupleCompareSizes] using h}
  case h =>
   !{O,O,0,O,λj r=>absurd r (vj _)}
§ef.tuples{A:Around}{s:RX}{l b:R0}{us vs:Array MD}{e:Nat->Bool}{c:Bool}(u:s.heap.IsTuple l us)(v:s.heap.IsTuple b vs)(y:A.units<cLine)(z:∀j (h1:j<us.size) (h2:j<vs.size),SeqAt.EqAt A.in1 s us[j] vs[j] (e j))(k:∀i (h1:i<us.size) (h2:i<vs.size),(∀j,j<i->e j=¶)->e i=¿->ef A.in1 s us[i] vs[i] c)(f:(∀j,j<min us.size vs.size->e j=¶)->c=decide (us.size<vs.size)):ef A s (.ref l) (.ref b) c:=λprog w E Q h=>by
 @⟨B,D,data,sl⟩,p,t,n,r:=id u;@⟨q,o,m,g⟩,a,d,C,hd2:=id v
 simp only at t r d hd2
 subst t r d hd2
 !richCompare_meets_room (op:=.Lt) {_,p,O} {_,a,O} F.slot_tuple_lt F.entry_tuple_lt (F.args_tuple_lt_2 _ _) (MJ l b us vs n C D o sl g e c)
  {p,a,z,k,f,show Value.bool c≠Value.notImplemented/\Q (.bool c) s from{°,h}} y
§ef.ints{A:Around}(i j:Int)(t u:Tok):ef A s (.int i t) (.int j u) (decide (i<j)):=λprog w E Q h=>PyProof.Rows.lt_int h
§ef.strs{A:Around}(i j:R9)(t u:Tok):ef A s (.str i t) (.str j u) (decide (i.cps.toList<j.cps.toList)):=λprog w E Q h=>PyProof.Rows.lt_str h
§ef.bools{A:Around}(i j:Bool):ef A s (.bool i) (.bool j) (not i&&j):=λprog w E Q h=>by
 ?PyProof.Rows.lt_bool ?_;&i <;> &j <;> !h
open SeqAt in
theorem Ba:∀(xs ys:#RY) (i:Nat),i<xs.length->i<ys.length->(∀j,j<i->pairEq xs ys j=¶)->pairEq xs ys i=¿->bF xs ys=bT (xs.getD i .none) (ys.getD i .none)
 |x::xs,y::ys,0,_,_,_,h=>by
  #h':PyData.eqv x y=¿:=h;[bF,qB (by[h'];decide)];rfl
 |x::xs,y::ys,i+1,h1,h2,hj,h=>by
  #h':PyData.eqv x y=¶:=hj 0 ();[bF,qF h'];!Ba xs ys i (by ±h1) (by ±h2) (λj a=>hj (j+1) ()) h
 |[],_,_,h1,_,_,_=>absurd h1 (vj _)
 |_::_,[],_,_,h2,_,_=>absurd h2 (vj _)
open SeqAt in
theorem Eo:∀(xs ys:#RY),(∀j,j<min xs.length ys.length->pairEq xs ys j=¶)->bF xs ys=decide (xs.length<ys.length)
 |[],[],_=>rfl
 |[],_::_,_=>by simp[bF]
 |_::_,[],_=>by simp[bF]
 |x::xs,y::ys,h=>by
  #h':PyData.eqv x y=¶:=h 0 (by simp);[bF,qF h',Eo xs ys λj a=>h (j+1) (by simp only[List.length_cons];¥)]
  simp
theorem Ki:∀(xs ys:#RY) (i:Nat),i<xs.length->i<ys.length->eO xs ys=¶->sk (xs.getD i .none) (ys.getD i .none)=¶
 |x::xs,y::ys,0,_,_,h=>by[eO,zt]at h;!h.1
 |x::xs,y::ys,i+1,h1,h2,h=>by
  [eO,zt]at h;!Ki xs ys i (by ±h1) (by ±h2) h.2
 |[],_,_,h1,_,_=>absurd h1 (vj _)
 |_::_,[],_,_,h2,_=>absurd h2 (vj _)
theorem wC:∀(xs:#RY) (i:Nat),i<xs.length->(xs.getD i .none).depth<=PyData.depthAll xs
 |x::xs,0,_=>by ¤x.depth<=max x.depth _;¥
 |x::xs,i+1,h=>by
  #:=wC xs i (by ±h);¤(xs.getD i .none).depth<=max x.depth (PyData.depthAll xs);¥
 |[],_,h=>absurd h (vj _)
theorem ip:∀{vs:#MD} {ds:#RY} {a:#R0} {i:Nat} (hi:i<vs.length),ReadsAll h vs ds a->∃bs,Reads h vs[i] (ds.getD i .none) bs
 |_,_,_,0,_,.cons r _=>{_,r}
 |_,_,_,i+1,hi,.cons _ t=>ip (i:=i) (by ±hi) t
§o4{ds:#RY}{i:Nat}(h:PyData.canLayAll0 ds=¶)(hi:i<ds.length):(ds.getD i .none).canLay0=¶ :=
 mZ (j:=i) h (by[zm,qh hi];rfl)
open SeqAt in
theorem Lr:∀(n:Nat) (k c:RY) (A:Around) (s:RX) (a b:MD) (f bs:#R0),k.depth<=n->Reads s.heap a k f->Reads s.heap b c bs->k.canLay0=¶->c.canLay0=¶->sk k c=¶->k≠.none->
  A.units+n<cLine->ef A s a b (bT k c)
 |n,.int i,c,A,s,a,b,f,bs,_,ra,rb,_,_,hk,_,_=>by
  &c <;> simp[sk]at hk;&ra;&rb;!ef.ints _ _ _ _
 |n,.str i,c,A,s,a,b,f,bs,_,ra,rb,_,_,hk,_,_=>by
  &c <;> simp[sk]at hk;&ra;&rb;!ef.strs _ _ _ _
 |n,.bool i,c,A,s,a,b,f,bs,_,ra,rb,_,_,hk,_,_=>by
  &c <;> simp[sk]at hk;&ra;&rb;!ef.bools _ _
 |n,.none,c,A,s,a,b,f,bs,_,_,_,_,_,_,hn,_=>absurd rfl hn
 |n,.list _,c,A,s,a,b,f,bs,_,_,_,_,_,hk,_,_=>by &c <;> simp[sk]at hk
 |n,.dict _,c,A,s,a,b,f,bs,_,_,_,_,_,hk,_,_=>by &c <;> simp[sk]at hk
 | 0,.tuple xs,c,A,s,a,b,f,bs,hd,_,_,_,_,_,_,_=>by
  #:PyData.depthAll xs+1<=0:=hd;¥
 |n+1,.tuple xs,c,A,s,a,b,f,bs,hd,ra,rb,ca,cb,hk,_,hu=>by
  cases c with
  |tuple ys =>
   have u:eO xs ys=¶:=by simpa[sk] using hk
   have B:PyData.depthAll xs<=n:=by
    have:PyData.depthAll xs+1<=n+1:=hd;¥
   cases ra with
   |tuple h1 h2 F y =>
    cases rb with
    |tuple H K I x =>
     rename_i l o us m N o' vs L
     have D:=ReadsAll.length _ _ _ y;have C:=ReadsAll.length _ _ _ x;[zx]at D C
     have e:bT (.tuple xs) (.tuple ys)=bF xs ys:=by[bT]
     [e]
     have v:∀j (q:j<us.size) (p:j<vs.size),EqAt A.in1 s us[j] vs[j] (pairEq xs ys j):=λj q p=>by
      @G,r:=ip (i:=j) (by[zx];!q) y;@p2,t:=ip (i:=j) (by[zx];!p) x;have M:=wC xs j ();have:=eqAt_reads (xs.getD j .none) (ys.getD j .none) A.in1 s _ _ _ _ r t (o4 ca ()) (o4 cb ()) (by ¤A.units+1+_<cLine;¥)
      simp only[Array.getElem_toList]at this
      !this
     ?ef.tuples {_,h1,h2,_,F} {_,H,K,_,I} () v (λi q p w E=>?_) λw=>?_
     .@G,r:=ip (i:=i) (by[zx];!q) y
      @p2,t:=ip (i:=i) (by[zx];!p) x;[Ba xs ys i () () w E];have d:=Ki xs ys i () () u
      have:=Lr n (xs.getD i .none) (ys.getD i .none) A.in1 s _ _ _ _ (qg (wC xs i ()) B) r t (o4 ca ()) (o4 cb ()) d (λz=>by
       have g:PyData.eqv (xs.getD i .none) (ys.getD i .none)=¿:=E;[z]at d g
       cases J:ys.getD i .none <;> rw[J]at d g <;> simp[sk,PyData.eqv]at d g) (by ¤A.units+1+_<cLine;¥)
      ±this
     .[Eo xs ys λj h=>w j (),D,C]
  |_=>simp[sk]at hk
end L2
namespace Tim
open PySem PySem.W PyProof.Rows Srt
abbrev S(κ:SortKind)(it:Array Keyed)(p:Array Nat)(pd:Array (Nat×Nat×Nat))(m:Nat):SortSt:=SortSt.mk' κ (p.map (kas_item it)) pd m none
§FK(prog:Program)(w:World)(A:Around)(s:RX)(κ:SortKind)(it:Array Keyed)(n:Nat)(lt:Nat->Nat->Bool):Prop :=
 ∀i j (C:Bool->RX->¤),i<n->j<n->C (lt i j) s->kas_cmp prog w A κ it i j C s
§In(n:Nat)(p:Array Nat):Prop:=∀i,i<p.size->g p i<n
section
variable {prog:Program}{w:World}{A:Around}{E:KE}{s:RX}{κ:SortKind}{it:Array Keyed}{n:Nat}{lt:Nat->Nat->Bool}{p:Array Nat}{pd:Array (Nat×Nat×Nat)}{mg:Nat}
§JK(d:FK prog w A s κ it n lt){i j:Nat}{st:SortSt}{Q:Option Bool->SortSt->¤}(g:kindOf st=κ)(hi:i<n)(a:j<n)(h:Q (!(lt i j)) st):wpS (model prog w) A E s (lt' (kas_item it i) (kas_item it j)) Q st:=by
 [lt'_eq];?wpS_bind (wpS_get ?_);[g];?wpS_bind (wpS_lift (wpAny_attempt (qM (d i j (λb s'=>s'=s/\b=lt i j) hi a {O,O}) (λc s' e=>?_) λ_ _ f=>f.elim)));@rfl,rfl:=e;!{O,wpS_pure h}
§EH(hi:i<p.size):(p.map (kas_item it))[i]?=!(kas_item it (g p i)):=by
 #e:g p i=p[i]:=by ¶g;simp[Array.getD,hi]
 [e]
 simp[hi]
§Ge{i:Nat}{st:SortSt}{Q:Keyed->SortSt->¤}(hi:i<p.size)(h:Q (kas_item it (g p i)) st):wpS (model prog w) A E s (elem' (p.map (kas_item it)) i) Q st:=by
 [elem'_eq,EH hi];!wpS_pure h
§O5(c:FK prog w A s κ it n lt)(a:In n p){i j:Nat}{Q:Option Bool->SortSt->¤}(hi:i<p.size)(b:j<p.size)(h:Q (!(lt (g p i) (g p j))) (S κ it p pd mg)):wpS (model prog w) A E s (ltAt' i j) Q (S κ it p pd mg):=by
 [ltAt'_eq];?wpS_bind (wpS_get ?_);!wpS_bind (Ge hi (wpS_bind (Ge b (JK c rfl (a i hi) (a j b) h))))
end
§zC(lt:Nat->Nat->Bool)(lo:Nat)(p:Array Nat)(k:Nat):Prop:=∀i j,lo<=i->i<=j->j<k->lt (g p j) (g p i)=¿
section
variable {lt:Nat->Nat->Bool}{lo:Nat}{p:Array Nat}
§up1(W:eQ lt):zC lt lo p (lo+1):=λi j h1 h2 a=>by
 #:i=j:=()
 £this;!W.kB _
§Nr(W:eQ lt)(h0:lo+1<=k)(h:zC lt lo p k)(c:lt (g p k) (g p (k - 1))=¿):zC lt lo p (k+1):=by
 ¢i j h1 a d
 ¿e:j=k
 .£e
  ¿b:i=j
  .£b;!W.kB _
  .!W.du (h i (j - 1) h1 () ()) c
 .!h i j h1 a ()
end
section
variable {prog:Program}{w:World}{A:Around}{E:KE}{s:RX}{κ:SortKind}{it:Array Keyed}{n:Nat}{lt:Nat->Nat->Bool}{p:Array Nat}{pd:Array (Nat×Nat×Nat)}{mg:Nat}{lo nrem:Nat}
§Qt(W:eQ lt)(u:FK prog w A s κ it n lt)(o:In n p){a:Nat}{Q:AscSt->SortSt->¤}{f:Nat->AscSt->StateT SortSt Sem (ForInStep AscSt)}(m:∀x (k:Nat),f x (none,k)=(do
      let r ←ltAt' (lo+k) (lo+k - 1)
      match r with
      |some b=>if b=¶ then pure (ForInStep.done (none,k)) else pure (ForInStep.yield (none,k+1))
      |_=>pure (ForInStep.done (!none,k))))(v:1<=a)(j:a<=nrem)(hz:lo+nrem<=p.size)(q:zC lt lo p (lo+a))(h:∀k,a<=k->k<=nrem->zC lt lo p (lo+k)->(k<nrem->lt (g p (lo+k)) (g p (lo+k - 1))=¶)->Q (none,k) (S κ it p pd mg)) :
  wpS (model prog w) A E s (forIn [a:nrem] ((none,a):AscSt) f) Q (S κ it p pd mg):=by
 ?wpS_forRange (I:=λx c i=>i=S κ it p pd mg/\c=(none,x)/\zC lt lo p (lo+x)) ?step ?fin {O,O,q}
 case fin =>
  rintro c i ⟨rfl,rfl,d⟩;[show max a nrem=nrem from ()]at d ⊢;!h nrem j (qe _) d λz=>absurd z (wu _)
 case step =>
  rintro x c i l t ⟨rfl,rfl,d⟩;[m];?wpS_bind (O5 u o () () ?_)
  cases e:lt (g p (lo+x)) (g p (lo+x - 1)) with
  |true =>
   dsimp only;[qF rfl];!wpS_pure (h x l () d λ_=>e)
  |false =>
   dsimp only;[qB ⋯];!wpS_pure {O,O,Nr (k:=lo+x) W () d e}
§nB{α:Type}{c:Prop}[Decidable c]{b a:StateT SortSt Sem α}{Q:α->SortSt->¤}{st:SortSt}(h1:c->wpS (model prog w) A E s b Q st)(h2:¬c->wpS (model prog w) A E s a Q st):wpS (model prog w) A E s (if c then b else a) Q st:=by
 ¿h:c
 .[qF h];!h1 h
 .[qB h];!h2 h
end
section
variable {prog:Program}{w:World}{A:Around}{E:KE}{s:RX}{κ:SortKind}{it:Array Keyed}{n:Nat}{lt:Nat->Nat->Bool}{p:Array Nat}{pd:Array (Nat×Nat×Nat)}{mg:Nat}
theorem Jt:∀(f n r:Nat),r<=1->minRun' f n r<=n+r
 | 0,n,r,_=>qe _
 |f+1,n,r,hr=>by
  [minRun'_succ]
  split
  .!qe _
  .#:=Jt f (n / 2) (max r (n % 2)) ()
   ¥
§PV(W:eQ lt)(f:FK prog w A s κ it n lt)(c:In n p){nrem:Nat}{Q:Option Nat->SortSt->¤}(h1:1<=nrem)(hz:0+nrem<=p.size)(d:zC lt 0 p (0+nrem))(h:Q (!nrem) (S κ it p pd mg)):wpS (model prog w) A E s (countRun' 0 nrem) Q (S κ it p pd mg):=by
 [countRun'_eq];?wpS_bind (Qt W f c (λx k=>rfl) (qe 1) h1 hz (up1 W) λk g i up a=>?_);dsimp only
 #b:k=nrem:=by
  ¿e:k=nrem
  .!e
  .#:=a ()
   [d (0+k - 1) (0+k) () () ()]at this;&this
 [qF (by ±b),b];!wpS_pure h
§rG(W:eQ lt)(o:FK prog w A s κ it n lt)(j:In n p)(hz:2<=p.size)(k:zC lt 0 p (0+p.size)){Q:Unit->SortSt->¤}(h:∀pd m,Q Unit.unit (S κ it p pd m)) :
  wpS (model prog w) A E s sortRuns' Q (S κ it p #[] 7):=by
 [sortRuns'_eq];?wpS_bind (wpS_get ?_);#q:(arrOf (S κ it p #[] 7)).size=p.size:=Array.size_map ..;dsimp only;[q]
 ?wpS_bind (wpS_mono (wpS_forRange (I:=λx c a=>(x=0/\c=(none,0)/\a=S κ it p #[] 7)\/(c=(none,p.size)/\a=S κ it p #[(0,p.size,0)] 7))
  (Q:=λc a=>c=(none,p.size)/\a=S κ it p #[(0,p.size,0)] 7) ?s0 ?f0 (.inl {O,O,O})) ?p0)
 case f0 =>
  rintro c a (⟨l,_,_⟩|hh)
  .¥
  .!hh
 case s0 =>
  rintro x c a _ l (⟨rfl,rfl,rfl⟩|⟨rfl,rfl⟩)
  .dsimp only
   ?nB (λd=>absurd d ()) λe=>?_;?wpS_bind (PV W o j () () (by[ju];!k) ?_);dsimp only;?nB (λb=>absurd b (by #:=Jt p.size p.size 0 ⋯;¥)) λi=>?_;?wpS_bind (wpS_get ?_)
   split
   .rename_i g
    #g:(none:Option (Nat×Nat×Nat))=_:=g;&g
   .?wpS_bind (wpS_modify (wpS_pure (.inr {?_,?_})))
    .[ju,ja]
    .[ju];rfl
  .dsimp only
   ?nB (λd=>wpS_pure {O,O}) λe=>absurd e ()
 case p0 =>
  rintro c a ⟨rfl,rfl⟩;dsimp only;?wpS_bind (wpS_mono (wpS_forRange (I:=λx c a=>c=(none,Unit.unit)/\a=S κ it p #[(0,p.size,0)] 7) (Q:=λc a=>c=(none,Unit.unit)/\a=S κ it p #[(0,p.size,0)] 7) ?s1 (λc a z=>z) {O,O}) ?p1)
  case s1 =>
   rintro y c a _ t ⟨rfl,rfl⟩;?wpS_bind (wpS_get ?_);?nB (λr=>wpS_pure {O,O}) λf=>absurd (show(1:Nat)<=1 from qe 1) f
  case p1 =>
   rintro c a ⟨rfl,rfl⟩;!wpS_pure (h _ _)
end
end Tim
namespace L2
open PySem PySem.Spec PySem.W PyProof.Rows
section
variable {prog:Program}{w:World}{A:Around}{E:KE}{s:RX}
§f9(h h':Heap):Prop:=∀b o,h.get? b=!o->h'.get? b=!o
§f9.trans(a:f9 h h')(b:f9 h' d):f9 h d:=λc o e=>b c o (a c o e)
theorem f9.push(h:Heap)(o:Obj):f9 h (h.push o):=λ_ _ e=>qH _ e
§f9.upd{h h':Heap}{a:R0}{f:Obj->Obj}(x:f9 h h')(c:h.objs.size<=a):f9 h (h'.update a f):=λb o e=>by
 [Heap.get?_update_ne _ _ _ _ (qp (zf (qG e) c))];!x b o e
§Answers(prog:Program)(w:World)(A:Around)(s:RX)(ks:#MD)(lt:Nat->Nat->Bool):Prop :=
 ∃κ,(∀(Q:SortKind->RX->¤),Q κ s->wpAny (model prog w) A (keyKind' ks.toArray) Q (λ_ _=>False) s)/\∀i j C,i<ks.length->j<ks.length->C (lt i j) s->kas_ask prog w A κ ks i j C s
§Arr(n:Nat)(lt:Nat->Nat->Bool)(p:Array Nat):Prop:=p.Perm (List.toArray (List.range n))/\Srt.Up lt p n
§G0{n:Nat}{lt:Nat->Nat->Bool}(W:Srt.eQ lt)(h:n<2):Arr n lt (List.toArray (List.range n)):=by
 ?{.refl _,λi j a b=>?_}
 #:i=j:=()
 £this;!W.kB _
§LN(lt:Nat->Nat->Bool)(n:Nat):Prop:=n<64\/∀i j,i<=j->j<n->lt j i=¿
§IG{vs ks:#MD}{lt:Nat->Nat->Bool}(W:Srt.eQ lt)(d:ks.length=vs.length)(b:LN lt vs.length)(h2:¬vs.length<2){κ:SortKind}(u:∀i j C,i<ks.length->j<ks.length->C (lt i j) s->kas_ask prog w A κ ks i j C s){R:SortSt->RX->¤}(t:∀st p,Arr vs.length lt p->(arrOf st).map (·.2)=List.toArray (p.toList.map λi=>vs.getD i Value.none)->failedOf st=£->R st s) :
  wpAny (model prog w) A ((sortRuns').run (SortSt.mk' κ (ks.toArray.zip vs.toArray) #[] 7 none)) (λr s'=>R r.2 s') E s:=by
 @b|up:=b
 .?kat_run (G:=λp s'=>s'=s/\Arr vs.length lt p) d () b (λp st s' _ a2 x v=>?_) ?_
  .@rfl,z:=v
   !t st p z (kat_snds d a2) x
  .!(Srt.vE W ()).wp (λi j C h1 y c=>u i j C () () c) λp hp=>{O,hp}
 #hz:(List.toArray (List.range vs.length)).size=vs.length:=by simp
 #n:Tim.FK prog w A s κ (ks.toArray.zip vs.toArray) vs.length lt:=λi j C h1 h2 c=>by
  #:=u i j C () () c;[kat_ask_eq d]at this;!this
 #f:∀i,i<vs.length->Srt.g (List.toArray (List.range vs.length)) i=i:=λi hi=>by
  ¶Srt.g;[jk]
  simp[hi]
 #q:Tim.In vs.length (List.toArray (List.range vs.length)):=λi hi=>by
  [hz]at hi;[f i hi];!hi
 #o:=Tim.rG (E:=E) (Q:=λ_ st=>R st s) W n q (by[hz];¥) (λi j _ a k=>by[hz]at k;[f i (),f j ()];!up i j a ()) λpd m=>?_
 .#l:SortSt.mk' κ (ks.toArray.zip vs.toArray) #[] 7 none=Tim.S κ (ks.toArray.zip vs.toArray) (List.toArray (List.range vs.length)) #[] 7:=by
   #e:=kas_range (ks.toArray.zip vs.toArray);[show(ks.toArray.zip vs.toArray).size=vs.length by simp[d]]at e;[Tim.S,e]
  [l];?qM o (λr s' h=>?_) λ_ _ e=>e;[h.1];!h.2
 .!t _ _ {.refl _,λi j a k=>by[f i (),f j k];!up i j a k} (kat_snds d rfl) rfl
§Ny{lt:Nat->Nat->Bool}(W:Srt.eQ lt)(m:s.heap.get? a=!(seqObj "list" vs.toArray n))(x:vs.length<=2000)(r:LN lt vs.length)(f:h0.objs.size<=a)(H:f9 h0 s.heap)(d:∀h',f9 h0 h'->2<=vs.length->Answers prog w A { s with heap:=h' } vs lt)(h:∀h' p c,f9 h0 h'->Arr vs.length lt p->h'.get? a=!(seqObj "list" (List.toArray (p.toList.map λi=>vs.getD i Value.none)) c)->P (.done (.ret .none)) { s with heap:=h' }) :
  wpAny (model prog w) A (Builtin.«list.sort» {[.ref a],[]}) P E s:=by
 obtain⟨o,t⟩:∃o,(s.heap.update a (Obj.mapSeq λ_=>#[])).get? a=!(seqObj "list" #[] o):={_,get?_update_seq m (λ_=>#[])};#u:f9 h0 (((s.heap.update a (Obj.mapSeq λ_=>#[])).push (seqObj "tuple" vs.toArray 0)).push (seqObj "list" #[] 0)):=(((H.upd f).trans (.push _ _)).trans (.push _ _));#e:(((s.heap.update a (Obj.mapSeq λ_=>#[])).push (seqObj "tuple" vs.toArray 0)).push (seqObj "list" #[] 0)).get? a=!(seqObj "list" #[] o):=qH _ (qH _ t)
 #v:vs.length<=sizeLine:=by[sizeLine_eq];¥
 #last:∀p,Arr vs.length lt p->∀(out:Array MD),out=List.toArray (p.toList.map λi=>vs.getD i Value.none)->out.size<=sizeLine+1/\P (.done (.ret .none)) { s with heap:=(((s.heap.update a (Obj.mapSeq λ_=>#[])).push (seqObj "tuple" vs.toArray 0)).push (seqObj "list" #[] 0)).update a (Obj.mapSeq λ_=>out) }:=λp j out g=>by
  obtain⟨q,C⟩:∃q,((((s.heap.update a (Obj.mapSeq λ_=>#[])).push (seqObj "tuple" vs.toArray 0)).push (seqObj "list" #[] 0)).update a (Obj.mapSeq λ_=>out)).get? a=!(seqObj "list" out q):={_,get?_update_seq e (λ_=>out)};?{?_,h _ p q (u.upd f) j (by[←g];!C)};[g,zg,qj,zx,j.1.size_eq]
  simp
  ¥
 [list_sort_plain];?qA (listItems_at m rfl (qA (listUpdate_at m rfl (qA (seqEpoch_at t rfl (qA (wpAny_newTuple (qA (wpAny_newList (qK ?_) (qv _))) v)))) (by[zg];!v) (qv _))));¤wpAny (model prog w) A _ P E { s with heap:=((s.heap.update a (Obj.mapSeq λ_=>#[])).push (seqObj "tuple" vs.toArray 0)).push (seqObj "list" #[] 0) };dsimp only
 ¿h2:vs.toArray.size<2
 .[qF h2,qF h2]
  #b:vs.length<2:=by ±h2
  #l:=last _ (G0 W b) (vs.toArray) (by
   apply mh.mp
   simp only[List.toList_toArray]
   apply yc;¢i
   ¿hi:i<vs.length
   .simp[hi]
   .simp[hi])
  ?qA (qE ?_);[StateT.run_pure];?qA (qE ?_);dsimp only
  #D:(arrOf (SortSt.mk' general' (vs.toArray.zip vs.toArray) #[] 7 none)).map (·.2)=vs.toArray:=by
   apply mh.mp;¤((vs.toArray.zip vs.toArray).map (·.2)).toList=vs;[Array.toList_map,Array.toList_zip];!List.map_snd_zip (qe _)
  [D];?qA (seqEpoch_at e rfl (qA (listUpdate_at e rfl ?_ (qv _) l.1)))
  simp only[bne_self_eq_false,Bool.false_eq_true,if_false]
  !qE l.2
 .[qB h2,qB h2]
  #b:¬vs.length<2:=by ±h2
  @κ,B,G:=d _ u ();?qA (qM (B (λk s'=>k=κ/\s'={ s with heap:=((s.heap.update a (Obj.mapSeq λ_=>#[])).push (seqObj "tuple" vs.toArray 0)).push (seqObj "list" #[] 0) }) {O,O}) ?_ λ_ _ z=>z.elim);rintro k s' ⟨rfl,rfl⟩;?qA (qM (IG (E:=E) (R:=λst s'=>s'={ s with heap:=((s.heap.update a (Obj.mapSeq λ_=>#[])).push (seqObj "tuple" vs.toArray 0)).push (seqObj "list" #[] 0) }/\∃p,Arr vs.length lt p/\(arrOf st).map (·.2)=List.toArray (p.toList.map λi=>vs.getD i Value.none)/\failedOf st=£) W rfl r b G λst p a1 a2 y=>{O,p,a1,a2,y}) ?_ λ_ _ z=>z);rintro⟨⟨⟩,st⟩ s' ⟨rfl,p,j,g,F⟩;#l:=last p j _ g;dsimp only;?qA (seqEpoch_at e rfl (qA (listUpdate_at e rfl ?_ (qv _) l.1)));[F]
  simp only[bne_self_eq_false,Bool.false_eq_true,if_false]
  !qE l.2
end
§kA(h:n<=2000):n<sizeLine:=jj h ⋯
§vC:Nat->RY->¤
 | 0,.int _=>True
 | 1,.str _=>True
 | 2,.tuple (.int _::_)=>True
 | 3,.tuple (.str _::_)=>True
 | 4,.tuple (.tuple _::_)=>True
 |_,_=>False
§MP(t:Nat)(d:RY):¬vC (t+5) d:=by
 ¢h
 cases d with
 |tuple xs =>
  cases xs with
  |nil=>!h
  |cons x xs=>cases x <;> !h
 |_=>!h
section
variable {prog:Program}{w:World}{A:Around}{s:RX}
§O8(h:ef A s x y c)(q:Q c s):wpAny (model prog w) A (oneLt' false x y) Q E s :=
 kat_one x y (h prog w E _ q)
§CU:∀(us vs:#MD) (xs ys:#RY) (E bs:#R0) (i:Nat),ReadsAll s.heap us xs E->ReadsAll s.heap vs ys bs->PyData.canLayAll0 xs=¶->PyData.canLayAll0 ys=¶->eO xs ys=¶->
  PyData.depthAll xs<=60->A.units+60<cLine->(i=0->b=¶->(∃p q r h,xs=.int p::r/\ys=.int q::h)\/∃p q r h,xs=.str p::r/\ys=.str q::h)->a=decide (us.length<vs.length)->Q (bF xs ys) s->KatLex prog w A b a Q (us.zip vs) i s:=by
 ¢us
 induction us with
 |nil =>
  ¢vs xs ys E bs i n o _ _ _ _ _ _ m q;&n;#t:=SeqAt.ReadsAll.length _ _ _ o;¤Q a s;[m]
  cases ys with
  |nil=>rw[yt]at t ⊢;[t];!q
  |cons y ys=>rw[t];!q
 |cons u us L =>
  ¢vs xs ys E bs i n o G cb l J F h0 m q
  cases vs with
  |nil =>
   &o;&n;¤Q a s;[m];!q
  |cons v vs =>
   cases n with
   |@cons _ _ x xs _ _ j H =>
    cases o with
    |@cons _ _ y ys _ _ k K =>
     have c:(x.canLay0&&PyData.canLayAll0 xs)=¶:=G;have d:(y.canLay0&&PyData.canLayAll0 ys)=¶:=cb;[zt]at c d;[eO,zt]at l
     have g:x.depth<=60/\PyData.depthAll xs<=60:=by
      have:max x.depth (PyData.depthAll xs)<=60:=J;¥
     have B:=SeqAt.eqAt_reads x y A s u v _ _ j k c.1 d.1 ();?kat_cons (B prog w _ _ ?_)
     cases e:PyData.eqv x y with
     |true =>
      [bF,qF e]at q;?kat_yes (L vs xs ys _ _ (i+1) H K c.2 d.2 l.2 g.2 F (λz=>()) ?_ q);[m]
      simp
     |false =>
      [bF,qB (by[e];decide)]at q;?kat_no ?_
      ¿f:(b&&i==0)=¶
      .[f]
       [zt]at f;@⟨p,I,r,h,C,D⟩|⟨p,I,r,h,C,D⟩:=h0 (by ±f.2) f.1
       .&C;&D
        &j;&k;!oneLt_int q
       .&C;&D
        &j;&k;!oneLt_str q
      .[Bool.not_eq_true]at f
       [f]
       !O8 (Lr 60 x y A s u v _ _ g.1 j k c.1 d.1 l.1 (λz=>by
        £z;have:=l.1
        &y <;> simp[sk,PyData.eqv]at this e) F) q
theorem Je{s:RX}:∀{vs:#MD} {ds:#RY} {p:#R0},ReadsAll s.heap vs ds p->(∀d∈ds,∃f r,d=.tuple (f::r))->∃fs,KatTups s.heap vs fs/\fs.length=vs.length/\∀v∈fs,∃f r bs,PyData.tuple (f::r)∈ds/\Reads s.heap v f bs
 |[],_,_,.nil,_=>{[],trivial,O,λ_=>°}
 |v::vs,_,_,.cons (d:=d) (ds:=ds) r t,h=>by
  @fs,i,y,A:=Je t λx k=>h x (qy _ k);@f,w,e:=h d qm;£e
  cases r with
  |tuple h1 h2 j b =>
   rename_i a o us n
   cases e:us.toList with
   |nil=>rw[e]at b;&b
   |cons u C =>
    [e]at b
    cases b with
    |cons l D =>
     refine{u::fs,KatTups.cons h1 h2 j (by[←ym,e];rfl) i,by[zd,zd,y],λv g=>?_};@rfl|g:=q0.mp g
     .!⟨f,w,_,qm,l⟩
     .@B,c,bs,m,q:=A v g
      !{B,c,bs,qy _ m,q}
§c9(ds:#RY)(i:Nat):RY:=ds.getD i (ds.headD .none)
§F6(h:ds≠[])(i:Nat):c9 ds i∈ds:=by
 ¶c9;[zm]
 cases e:ds[i]? with
 |some x=>!qw e
 |none =>
  cases ds with
  |nil=>!absurd rfl h
  |cons a b=>!qm
§oC(ds:#RY)(i j:Nat):Bool:=bT (c9 ds i) (c9 ds j)
§JH(h:∀a∈ds,∀b∈ds,sk a b=¶):Srt.eQ (oC ds):=by
 ¿e:ds=[]
 .£e
  !{λ_=>rfl,λ_ _ _ z=>(by &z),λ_ _ _ z=>(by &z)}
 .#m:=F6 e
  !{λ_=>mC _,λa b c=>vR _ _ _ (h _ (m a) _ (m b)) (h _ (m b) _ (m c)) (h _ (m a) _ (m c)),λa b c=>KO _ _ _ (h _ (m a) _ (m b)) (h _ (m b) _ (m c)) (h _ (m a) _ (m c))}
structure KeysAre(ds:#RY)(t:Nat):Prop where
 lay:PyData.canLayAll0 ds=¶
 kind:∀d∈ds,vC t d
 one:∀a∈ds,∀b∈ds,sk a b=¶
 deep:∀d∈ds,d.depth<=60
§C8(r:Reads h v (.int i) a):∃t,v=.int i t:=by &r;!{_,O}
§AB(r:Reads h v (.str i) a):∃t,v=.str i t:=by &r;!{_,O}
§J0(r:Reads h v (.tuple xs) b):∃a o vs n,v=.ref a/\h.get? a=!o/\o.cls=.type "tuple" /\ o.data=.seq vs n/\ReadsAll h vs.toList xs b:=by
 cases r with
 |tuple f d c e=>!⟨_,_,_,_,O,f,d,c,e⟩
§tR(h:vC 0 d):∃i,d=.int i:=by &d <;> first|!⟨_,O⟩|!h.elim
§ud(h:vC 1 d):∃i,d=.str i:=by &d <;> first|!⟨_,O⟩|!h.elim
§uG(h:vC t d)(a:2<=t):∃f r,d=.tuple (f::r):=by
 unfold vC at h
 split at h <;> first|!⟨_,_,O⟩|¥|!h.elim
§Kv(h:vC 2 d):∃p r,d=.tuple (.int p::r):=by
 @f,r,rfl:=uG h ⋯
 &f <;> first|!⟨_,_,O⟩|!h.elim
§FT(h:vC 3 d):∃p r,d=.tuple (.str p::r):=by
 @f,r,rfl:=uG h ⋯
 &f <;> first|!⟨_,_,O⟩|!h.elim
§HH(h:vC 4 d):∃p r,d=.tuple (.tuple p::r):=by
 @f,r,rfl:=uG h ⋯
 &f <;> first|!⟨_,_,O⟩|!h.elim
§GA(r:ReadsAll s.heap ks ds as)(K:KeysAre ds t)(h2:2<=ks.length)(hu:A.units+60<cLine):Answers prog w A s ks (oC ds):=by
 #hl:=SeqAt.ReadsAll.length _ _ _ r
 #look:∀i,i<ks.length->∃bs,Reads s.heap (ks.getD i Value.none) (c9 ds i) bs/\c9 ds i∈ds:=λi hi=>by
  @bs,q:=ip hi r
  #k:ks.getD i Value.none=ks[i]:=by simp[hi]
  #l:c9 ds i=ds.getD i .none:=by
   #O:i<ds.length:=()
   ¶c9;[zm,zm,qh O];rfl
  ?{bs,by[k,l];!q,F6 (λz=>?_) i};[z,yt]at hl;¥
 #E:∀v∈ks,∃d bs,d∈ds/\Reads s.heap v d bs:=λv H=>by
  @i,hi,e:=z8.mp H;@bs,q,m:=look i hi;!{_,bs,m,by[←e];simpa[hi] using q}
 #D:∀d∈ds,d.canLay0=¶:=λd a=>by
  @i,hi,e:=z8.mp a;!mZ (j:=i) K.lay (by[qh hi,e])
 #ab:(∀d∈ds,∃f r,d=.tuple (f::r))->(T:MD)->(∀v f bs r,Reads s.heap v f bs->PyData.tuple (f::r)∈ds->Looks (model prog w) s.heap (typeOf v) T)->(T==T)=¶->
   ((T != Value.type "tuple")=¶->∀d∈ds,∀d'∈ds,(∃p q r g,d=.tuple (.int p::r)/\d'=.tuple (.int q::g))\/∃p q r g,d=.tuple (.str p::r)/\d'=.tuple (.str q::g))->Answers prog w A s ks (oC ds):=λh1 T R V X=>by
  @fs,k1,k2,k3:=Je r h1;?{tuples' (T != Value.type "tuple"),λQ q=>kat_kind k1 () (λv H=>?_) V q,λi j C hi L c=>?_}
  .@f,g,bs,m,q:=k3 v H
   !R v f bs g q m
  .@W,x,o:=look i hi
   @Y,y,B:=look j L;unfold oC at c;@f1,J,k:=h1 _ o;@f2,G,l:=h1 _ B;#Z:=K.deep _ o;#S:=K.one _ o _ B;#u:=D _ o;#F:=D _ B;#U:=λz=>X z _ o _ B;[k]at x Z S u U c;[l]at y S F U c;¶kas_ask;@a1,o1,v1,n1,n,x1,x2,x3,x4:=J0 x;@a2,o2,v2,n2,h,y1,y2,y3,y4:=J0 y;[n,h];?kat_lt x1 x3 y1 y3 (CU _ _ _ _ _ _ 0 x4 y4 u F (by simpa[sk] using S) ?_ hu (λ_ z=>?_) (by simp) (by[bT]at c;!c))
   .#:PyData.depthAll (f1::J)+1<=60:=Z
    ¥
   .@⟨p,q,r,g,P,N⟩|⟨p,q,r,g,P,N⟩:=U z
    .!.inl ⟨p,q,r,g,PyData.tuple.inj P,PyData.tuple.inj N⟩
    .!.inr ⟨p,q,r,g,PyData.tuple.inj P,PyData.tuple.inj N⟩
 match t,K.kind with
 | 0,hk =>
  refine{oneType',λQ q=>kas_kind (T:=Value.type "int") h2 (λv H=>?_) rfl rfl q,λi j C hi L c=>?_}
  .@d,bs,m,q:=E v H
   @_,rfl:=tR (hk d m);@_,rfl:=C8 q;!Looks.of_pure rfl
  .@W,x,o:=look i hi
   @Y,y,B:=look j L;unfold oC at c;¶kas_ask;@_,k:=tR (hk _ o);@_,l:=tR (hk _ B);[k]at x c;[l]at y c;@_,n:=C8 x;@_,h:=C8 y;[n,h,keyLt'_oneType];!oneLt_int c
 | 1,hk =>
  refine{oneType',λQ q=>kas_kind (T:=Value.type "str") h2 (λv H=>?_) rfl rfl q,λi j C hi L c=>?_}
  .@d,bs,m,q:=E v H
   @_,rfl:=ud (hk d m);@_,rfl:=AB q;!Looks.of_pure rfl
  .@W,x,o:=look i hi
   @Y,y,B:=look j L;unfold oC at c;¶kas_ask;@_,k:=ud (hk _ o);@_,l:=ud (hk _ B);[k]at x c;[l]at y c;@_,n:=AB x;@_,h:=AB y;[n,h,keyLt'_oneType];!oneLt_str c
 | 2,hk =>
  have b:∀d∈ds,∃p r,d=.tuple (.int p::r):=λd a=>Kv (hk d a);?ab (λd a=>let⟨p,r,e⟩:=b d a;{_,r,e}) (Value.type "int") (λv f bs g q m=>?_) rfl λ_ d a d' I=>?_
  .@p,G,e:=b _ m
   &e;&q;!Looks.of_pure rfl
  .@p,J,k:=b d a
   @q,G,l:=b d' I;!.inl {p,q,J,G,k,l}
 | 3,hk =>
  have b:∀d∈ds,∃p r,d=.tuple (.str p::r):=λd a=>FT (hk d a);?ab (λd a=>let⟨p,r,e⟩:=b d a;{_,r,e}) (Value.type "str") (λv f bs g q m=>?_) rfl λ_ d a d' I=>?_
  .@p,G,e:=b _ m
   &e;&q;!Looks.of_pure rfl
  .@p,J,k:=b d a
   @q,G,l:=b d' I;!.inr {p,q,J,G,k,l}
 | 4,hk =>
  have b:∀d∈ds,∃p r,d=.tuple (.tuple p::r):=λd a=>HH (hk d a)
  ?ab (λd a=>let⟨p,r,e⟩:=b d a;{_,r,e}) (Value.type "tuple") (λv f bs g q m=>?_) rfl λz=>absurd z ⋯
  @p,G,e:=b _ m;&e
  cases q with
  |tuple h1 h2 V X =>
   have:=(Looks.ld (M:=model prog w) (part:=£) h1);[←h2];!(Looks.ld h1).andThen .now
 |t+5,hk =>
  exfalso;@bs,q,m:=look 0 ();!MP t _ (hk _ m)
end
§df(ds:#RY)(ix:#Nat):Prop:=ix.Perm (List.range ds.length)/\(ix.map (c9 ds)).Pairwise λa b=>bT b a=¿
§LA{ds:#RY}{p:Array Nat}(h:Arr ds.length (oC ds) p):df ds p.toList:=by
 #c:p.size=ds.length:=by[h.1.size_eq];simp
 ?{by ±h.1.toList,?_};[jv];¢i j hi a b;[qj,zx]at hi a;#:=h.2 i j () ();unfold oC Srt.g at this;[List.getElem_map,List.getElem_map];simpa[Array.getD,hi,a] using this
§G_{ys:#V}{us:#MD}(r:aK ys us)(ix:#Nat)(h:∀i∈ix,i<ys.length):aK (ix.map λi=>ys.getD i .aR) (ix.map λi=>us.getD i Value.none):=by
 induction ix with
 |nil=>!.nil
 |cons i ix d =>
  have hi:=h i qm;@u,a,b:=r.get (i:=i) (x:=ys[i]) (qh hi);?.cons ?_ (d λj c=>h j (qy _ c));¤RelV (ys.getD i .aR) (us.getD i Value.none);[zm,zm,a,qh hi];!b
theorem HQ:∀{xs:#V} {ds:#RY},dO H xs ds->xs.length=ds.length
 |_,_,.nil=>rfl
 |_,_,.cons _ t=>by[zd,zd,HQ t]
mutual
theorem PM(x:f9 h h'):∀{v:MD} {d:RY} {a:#R0},Reads h v d a->Reads h' v d a
 |_,_,_,.none=>.none
 |_,_,_,.bool b=>.bool b
 |_,_,_,.int i t=>.int i t
 |_,_,_,.str z t=>.str z t
 |_,_,_,.list h1 h2 h3 h4=>.list (x _ _ h1) h2 h3 (oT x h4)
 |_,_,_,.tuple h1 h2 h3 h4=>.tuple (x _ _ h1) h2 h3 (oT x h4)
 |_,_,_,.dict h1 h2 h3 h4 h5=>.dict (x _ _ h1) h2 h3 (oT x h4) (oT x h5)
theorem oT(x:f9 h h'):∀{v:#MD} {d:#RY} {c:#R0},ReadsAll h v d c->ReadsAll h' v d c
 |_,_,_,.nil=>.nil
 |_,_,_,.cons a b=>.cons (PM x a) (oT x b)
end
section
variable {P:Program}{w:World}{A:Around}{E:KE}{s:RX}
§dN(P:Program)(w:World)(h:Heap)(ks ls:#Key)(a:R0):Prop:=∃o c d n,h.get? a=!o/\o.cls=.type "tuple" /\ o.data=.seq #[.ref c,.ref d] n/\(tupleKind (ah P w)).is h ks c/\(tupleKind (ah P w)).is h ls d
§dU(P:Program)(w:World)(h:Heap):KD->MD->¤
 |.aR,v=>v=.none
 |.int i,v=>∃t,v=.int i t
 |.tup ks,v=>∃a,v=.ref a/\(tupleKind (ah P w)).is h ks a
 |.two ks ls,v=>∃a,v=.ref a/\dN P w h ks ls a
§bX(P:Program)(w:World):KD->Nat
 |.aR=>1
 |.int _=>1
 |.tup ks=>(tupleKind (ah P w)).draws ks
 |.two ks ls=>(tupleKind (ah P w)).draws ks+(tupleKind (ah P w)).draws ls+1
§Jv(x:dN P w h ks ls a)(y:dN P w h b f a):ks=b/\ls=f:=by
 @o,c,d,n,h1,h2,k,r,m:=x;@o',q,d',n',g,t,i,p,j:=y;[h1]at g;&g;[k]at i;injection i with e _
 #s:c=q:=by #:=congrArg (λz:Array MD=>z[0]?) e;±this
 #l:d=d':=by #:=congrArg (λz:Array MD=>z[1]?) e;±this
 subst s l;!{(tupleKind (ah P w)).inj r p,(tupleKind (ah P w)).inj m j}
§xf{h:Heap}{a:R0}{ks ls js:#Key}(x:dN P w h ks ls a)(y:(tupleKind (ah P w)).is h js a):False:=by
 @o,c,d,n,h1,h2,g,l,j:=x;@o',its,n',b,k,f,i:=y;[h1]at b;&b;[g]at f;injection f with e _;£e;#:=i.byValue (.ref c) (by simp);&this
§N7(x:ItemsAre (ah P w) ks vs):ItemsAre (ah P' b) ks vs:=by
 induction x with
 |nil=>!.nil
 |cons h _ a=>!.cons h a
§Jl{P':Program}{d:World}{h:Heap}{ks:#Key}{a:R0}(x:(tupleKind (ah P w)).is h ks a):(tupleKind (ah P' d)).is h ks a:=by
 @o,its,n,h1,h2,b,c:=x;!{o,its,n,h1,h2,b,N7 c}
§Lv(c:A.units<cLine)(x:(tupleKind (ah P w)).is s.heap ks a)(y:(tupleKind (ah P w)).is s.heap ls b):SeqAt.EqAt A s (.ref a) (.ref b) (decide (ks=ls)):=λP' d E Q q=>(tupleKind (ah P' d)).eqBool c (Jl x) (Jl y) q
§dN.tuple(x:dN P w h ks ls a):∃c d,h.IsTuple a #[.ref c,.ref d]/\(tupleKind (ah P w)).is h ks c/\(tupleKind (ah P w)).is h ls d:=by
 @o,c,d,n,h1,h2,b,e,f:=x;!{c,d,{o,h1,h2,n,b},e,f}
§oQ(x:(tupleKind (ah P w)).is h ks a):∃its,h.IsTuple a its/\ItemsAre (ah P w) ks its.toList:=by
 @o,its,n,h1,h2,b,c:=x;!{its,{o,h1,h2,n,b},c}
§Ot{ks ls f g:#Key}{a b:R0}(i:A.units+1<cLine)(x:dN P w s.heap ks ls a)(y:dN P w s.heap f g b):SeqAt.EqAt A s (.ref a) (.ref b) (decide (KD.two ks ls=KD.two f g)):=by
 ¿h:a=b
 .£h
  @rfl,rfl:=Jv x y;[qI rfl];!SeqAt.EqAt.same _
 .@c,d,l,h1,h2:=x.tuple
  @k,d',m,n,p:=y.tuple
  #e:decide (KD.two ks ls=KD.two f g)=((List.range (min (#[Value.ref c,.ref d]:Array MD).size (#[Value.ref k,.ref d']:Array MD).size)).all (λj=>if j=0 then decide (ks=f) else decide (ls=g))&&(#[Value.ref c,.ref d]:Array MD).size==(#[Value.ref k,.ref d']:Array MD).size):=by
   ¤_=((if 0=0 then decide (ks=f) else decide (ls=g))&&((if 1=0 then decide (ks=f) else decide (ls=g))&&true)&&true);[qF rfl,qB ⋯,mi,mi,jg]
   simp
  rw[e];?SeqAt.EqAt.of_refs h (SeqAt.RcAt.tuples l m () λj o q=>?_)
  match j,o,q with
  | 0,_,_=>!Lv (show A.in1.units<cLine from i) h1 n
  | 1,_,_=>!Lv (show A.in1.units<cLine from i) h2 p
§BS(h:0<m):((List.range (min m n)).all (λ_=>false)&&m==n)=¿:=by
 ¿e:m=n
 .£e
  [Nat.min_self]
  cases m with
  |zero=>omega
  |succ m=>rw[nw];rfl
 .[show(m==n)=¿ from beq_eq_false_iff_ne.mpr e,kx]
§O'(h:0<m):((List.range (min n m)).all (λ_=>false)&&n==m)=¿:=by
 ¿e:n=m
 .£e
  [Nat.min_self]
  cases n with
  |zero=>omega
  |succ m=>rw[nw];rfl
 .[show(n==m)=¿ from beq_eq_false_iff_ne.mpr e,kx]
§JE(x:ItemsAre (ah P w) ks vs):∀(j:Nat) v,vs[j]?=!v->(∃i t,v=.int i t)\/∃z t,v=.str z t:=by
 induction x with
 |nil=>intro j v e;&e
 |cons h _ a =>
  ¢j v e
  cases j with
  |zero =>
   &e;@⟨i,t,_,e⟩|⟨z,t,_,e⟩:=fQ (show fN _ _=¶ from h)
   .!.inl ⟨i,t,e⟩
   .!.inr ⟨z,t,e⟩
  |succ j=>!a j v (by ±e)
§Qq(u:A.units+1<cLine)(x:dN P w s.heap ks ls a)(y:(tupleKind (ah P w)).is s.heap js b):SeqAt.EqAt A s (.ref a) (.ref b) false:=by
 #h:a≠b:=λz=>by £z;!xf x y
 @c,d,o,h1,h2:=x.tuple;@its,p,q:=oQ y;#e:false=((List.range (min (#[Value.ref c,.ref d]:Array MD).size its.size)).all (λ_=>false)&&(#[Value.ref c,.ref d]:Array MD).size==its.size):=(BS (m:=2) ⋯).symm;[e];?SeqAt.EqAt.of_refs h (SeqAt.RcAt.tuples o p () λj r n=>?_);@B,k,_:=oQ h1;@v,l,_:=oQ h2;#g:=JE q j its[j] (by[ym,yw n]);#f:A.in1.units<cLine:=u
 match j,r,n,g with
 | 0,_,_,g =>
  @⟨i,t,e⟩|⟨z,t,e⟩:=g
  .[e];!SeqAt.EqAt.tuple_int i t k f
  .[e];!SeqAt.EqAt.tuple_str z t k f
 | 1,_,_,g =>
  @⟨i,t,e⟩|⟨z,t,e⟩:=g
  .[e];!SeqAt.EqAt.tuple_int i t l f
  .[e];!SeqAt.EqAt.tuple_str z t l f
§NW(u:A.units+1<cLine)(y:(tupleKind (ah P w)).is s.heap js a)(x:dN P w s.heap ks ls b):SeqAt.EqAt A s (.ref a) (.ref b) false:=by
 #h:a≠b:=λz=>by £z;!xf x y
 @c,d,o,h1,h2:=x.tuple;@its,p,q:=oQ y;#e:false=((List.range (min its.size (#[Value.ref c,.ref d]:Array MD).size)).all (λ_=>false)&&its.size==(#[Value.ref c,.ref d]:Array MD).size):=(O' (m:=2) ⋯).symm;[e];?SeqAt.EqAt.of_refs h (SeqAt.RcAt.tuples p o () λj n r=>?_);@B,k,_:=oQ h1;@v,l,_:=oQ h2;#g:=JE q j its[j] (by[ym,yw n]);#f:A.in1.units<cLine:=u
 match j,r,n,g with
 | 0,_,_,g =>
  @⟨i,t,e⟩|⟨z,t,e⟩:=g
  .[e];!SeqAt.EqAt.int_tuple i t k f
  .[e];!SeqAt.EqAt.str_tuple z t k f
 | 1,_,_,g =>
  @⟨i,t,e⟩|⟨z,t,e⟩:=g
  .[e];!SeqAt.EqAt.int_tuple i t l f
  .[e];!SeqAt.EqAt.str_tuple z t l f
§MB(g:A.units+1<cLine)(k:dN P w s.heap ks ls a)(h:Q (bN P w (.two ks ls)) { s with toks:=s.toks+((tupleKind (ah P w)).draws ks+(tupleKind (ah P w)).draws ls+1) }):wpAny (model P w) A (pyHash (.ref a)) Q E s:=by
 @o,c,d,n,j,l,m,h1,h2:=k;#i:s.TypeIs (.ref a) "tuple":={o,j,l};¶pyHash;¶pyHashByItsType;?qA (wpAny_cRoomFor_or (.inr ()) ?_);?qA (wpAny_specialOf i F.slot_tuple_hash.lookup ?_);¤wpAny _ _ (if(some (Value.builtin "tuple.__hash__")==!Value.none)=¶ then _ else _) Q E s;[qB (by[beq_builtin_none];!qr)];?qA (wpAny_specialOf i F.slot_tuple_hash.lookup ?_);¤wpAny _ _ (callSpecialIfBoundUnlessNone? (.ref a) "__hash__" _ >>= _) Q E s;?qA (wpAny_callSpecialIfBoundUnlessNone?_slot i F.slot_tuple_hash (qN F.slot_tuple_hash i F.entry_tuple_hash ?_ (F.args_tuple_hash_1 _)));¤wpAny _ _ (Builtin.Tuple.tupleItemsOf (.ref a) >>= _) _ _ s;?qA (wpAny_tupleItemsOf j m ?_);?qA ?_;[←mj]
 ?wpAny_forIn_list _
  (λrest (b:Array Int) s'=>(rest=[.ref c,.ref d]/\b.toList=[]/\s'=s)\/(rest=[.ref d]/\b.toList=[(tupleKind (ah P w)).hash ks]/\s'={ s with toks:=s.toks+(tupleKind (ah P w)).draws ks })\/(rest=[]/\b.toList=[(tupleKind (ah P w)).hash ks,(tupleKind (ah P w)).hash ls]/\s'={ s with toks:=s.toks+(tupleKind (ah P w)).draws ks+(tupleKind (ah P w)).draws ls }))
  _ ?_ ?_ _ _ (.inl {O,O,O})
 .rintro x rest b s' (⟨e,hb,rfl⟩|⟨e,hb,rfl⟩|⟨e,hb,rfl⟩)
  .&e
   ?qA ((tupleKind (ah P w)).pyHash (show _<cLine by first|!g|(show A.units+1<cLine;!g)) h1 ?_)
   first
    |!qE (.inr (.inl ⟨O,by simp[hb],O⟩))
    |!qA (qE (qE (.inr (.inl ⟨O,by simp[hb],O⟩))))
  .&e
   ?qA ((tupleKind (ah P w)).pyHash (s:={ s with toks:=s.toks+(tupleKind (ah P w)).draws ks }) (show _<cLine by first|!g|(show A.units+1<cLine;!g)) h2 ?_)
   first
    |!qE (.inr (.inr ⟨O,by simp[hb],O⟩))
    |!qA (qE (qE (.inr (.inr ⟨O,by simp[hb],O⟩))))
  .&e
 .rintro b s' (⟨e,hb,rfl⟩|⟨e,hb,rfl⟩|⟨e,hb,rfl⟩)
  .&e
  .&e
  .¤wpAny _ _ (retInt (Builtin.Tuple.tupleHashOf b.toList)) _ _ _
   [hb];?wpAny_ret_mkInt ?_;¤wpAny _ _ (if(decide (-(2:Int) ^ 63<=Builtin.Tuple.tupleHashOf [(tupleKind (ah P w)).hash ks,(tupleKind (ah P w)).hash ls])&&decide (Builtin.Tuple.tupleHashOf [(tupleKind (ah P w)).hash ks,(tupleKind (ah P w)).hash ls]<2 ^ 63))=¶ then _ else _) Q E _;#h:Q (reduceHash (Builtin.Tuple.tupleHashOf [(tupleKind (ah P w)).hash ks,(tupleKind (ah P w)).hash ls])) { s with toks:=s.toks+((tupleKind (ah P w)).draws ks+(tupleKind (ah P w)).draws ls+1) }:=h;unfold reduceHash at h
   ¿f:(decide (-(2:Int) ^ 63<=Builtin.Tuple.tupleHashOf [(tupleKind (ah P w)).hash ks,(tupleKind (ah P w)).hash ls])&&decide (Builtin.Tuple.tupleHashOf [(tupleKind (ah P w)).hash ks,(tupleKind (ah P w)).hash ls]<2 ^ 63))=¶
   .[qF f]
    [qF f]at h;!qE (by simpa[Nat.add_assoc] using h)
   .[qB f]
    [qB f]at h;!qA (wpAny_rule (qE (by simpa[Nat.add_assoc] using h)))
§Kf(j:(tupleKind (ah P w)).is s.heap ks a)(h:Q true s):wpAny (model P w) A (eqIsQuiet (m+1) (.ref a)) Q E s:=by
 @o,items,n,e,i,g,hi:=j;#f:s.TypeIs (.ref a) "tuple":={o,e,i};¶eqIsQuiet;?qA (wpAny_specialOf f F.slot_tuple_eq.lookup ?_);¤wpAny _ _ (isInstance (.ref a) (.type "tuple") >>= _) _ _ s;?qA (wpAny_isInstance f isSubtype_tuple_tuple ?_)
 simp only[Bool.not_true,Bool.false_eq_true,if_false]
 ?qA (wpAny_seqItems e g ?_);?qA ?_;¤wpAny _ _ (forIn items _ _) _ _ s;[←mj];?wpAny_forIn_list _ (λrest r s'=>r.1=£/\s'=s/\∀v∈rest,carriedByValue v=¶) _ ?_ ?_ _ _ {O,O,hi.byValue}
 .rintro v rest r s' ⟨c,rfl,b⟩
  [eqIsQuiet_byValue _ (b v qm)];?qA (qE ?_)
  simp only[Bool.not_true,Bool.false_eq_true,if_false]
  !qE {O,O,λu d=>b u (qy _ d)}
 .rintro⟨l,k⟩ s' ⟨c,rfl,_⟩
  simp only at c
  £c;!qE h
§OV(t:dN P w s.heap ks ls a)(h:Q true s):wpAny (model P w) A (eqIsQuiet 8 (.ref a)) Q E s:=by
 @o,c,d,n,g,p,k,h1,h2:=t;#j:s.TypeIs (.ref a) "tuple":={o,g,p};¶eqIsQuiet;?qA (wpAny_specialOf j F.slot_tuple_eq.lookup ?_);¤wpAny _ _ (isInstance (.ref a) (.type "tuple") >>= _) _ _ s;?qA (wpAny_isInstance j isSubtype_tuple_tuple ?_)
 simp only[Bool.not_true,Bool.false_eq_true,if_false]
 ?qA (wpAny_seqItems g k ?_);?qA ?_;¤wpAny _ _ (forIn (#[.ref c,.ref d]:Array MD) _ _) _ _ s;[←mj];?wpAny_forIn_list _ (λrest r s'=>r.1=£/\s'=s/\∀v∈rest,v=.ref c\/v=.ref d) _ ?_ ?_ _ _ {O,O,λv x=>by ±x}
 .rintro v rest r s' ⟨e,rfl,b⟩
  #l:∀{i:Bool->RX->¤},i true s'->wpAny (model P w) A (eqIsQuiet 7 v) i E s':=λq=>by
   @rfl|rfl:=b v qm
   .!Kf (m:=6) h1 q
   .!Kf (m:=6) h2 q
  ?qA (l ?_)
  simp only[Bool.not_true,Bool.false_eq_true,if_false]
  !qE ⟨O,O,λu f=>b u (qy _ f)⟩
 .rintro⟨z,y⟩ s' ⟨e,rfl,_⟩
  simp only at e
  £e;!qE h
theorem dU.inj(a:dU P w h x v)(b:dU P w h y v):x=y:=by
 cases x with
 |aR =>
  &a
  cases y with
  |aR=>rfl
  |int j=>@_,e:=b;&e
  |tup ks=>@_,e,_:=b;&e
  |two ks ls=>@_,e,_:=b;&e
 |int i =>
  @t,rfl:=a
  cases y with
  |aR=>cases b
  |int j=>@_,e:=b;&e;rfl
  |tup ks=>@_,e,_:=b;&e
  |two ks ls=>@_,e,_:=b;&e
 |tup ks =>
  @p,rfl,q:=a
  cases y with
  |aR=>cases b
  |int j=>@_,e:=b;&e
  |tup d =>
   @_,e,c:=b;&e;!congrArg KD.tup ((tupleKind (ah P w)).inj q c)
  |two d f =>
   @_,e,c:=b;&e;!(xf c q).elim
 |two ks ls =>
  @p,rfl,q:=a
  cases y with
  |aR=>cases b
  |int j=>@_,e:=b;&e
  |tup d =>
   @_,e,c:=b;&e;!(xf q c).elim
  |two d f =>
   @_,e,c:=b;&e;@rfl,rfl:=Jv q c;rfl
§dU.ext(a:dU P w h k v)(x:∀b o,h.get? b=!o->o.cls=.type "tuple"->h'.get? b=!o):dU P w h' k v:=by
 cases k with
 |aR=>!a
 |int i=>!a
 |tup ks =>
  @p,e,o,its,n,h1,h2,f,z:=a;!{p,e,o,its,n,x _ _ h1 h2,h2,f,z}
 |two ks ls =>
  @p,e,o,c,d,n,h1,h2,f,⟨q,y,l,m,j,t⟩,⟨A,B,u,r,g,s⟩:=a;!{p,e,o,c,d,n,x _ _ h1 h2,h2,f,{q,y,l,x _ _ m j,j,t},{A,B,u,x _ _ r g,g,s}}
§P0(h:Q 4238894112 { s with toks:=s.toks+1 }):wpAny (model P w) A (pyHash .none) Q E s:=by
 ¶pyHash;#a:s.TypeIs Value.none "NoneType":=rfl;#b:[Value.none].any Value.onHeap=¿:=rfl;¶pyHashByItsType;?qA ?_;[cRoomFor,qB (by[b];!qr)];?qE (qA (wpAny_specialOf a F.slot_NoneType_hash.lookup ?_));¤wpAny _ _ (if(some (Value.builtin "NoneType.__hash__")==!Value.none)=¶ then _ else _) Q E s;[qB (by[beq_builtin_none];!qr)];?qA (wpAny_specialOf a F.slot_NoneType_hash.lookup ?_);¤wpAny _ _ (callSpecialIfBoundUnlessNone? .none "__hash__" _ >>= _) Q E s;?qA (wpAny_callSpecialIfBoundUnlessNone?_slot a F.slot_NoneType_hash (qN F.slot_NoneType_hash a F.entry_NoneType_hash (show wpAny _ _ (do ret (←mkInt 4238894112)) _ _ s from wpAny_ret_mkInt ?_) (F.args_NoneType_hash_1 _)));¤wpAny _ _ (if(decide (-(2:Int) ^ 63<=4238894112)&&decide ((4238894112:Int)<2 ^ 63))=¶ then _ else _) Q E _;[qF ⋯];!qE h
§dU.hash(b:A.units+1<cLine)(a:dU P w s.heap k v)(h:Q (bN P w k) { s with toks:=s.toks+bX P w k }):wpAny (model P w) A (pyHash v) Q E s:=by
 cases k with
 |aR=>cases a;!P0 h
 |int i=>@t,rfl:=a;!wpAny_pyHash_int h
 |tup ks=>@p,rfl,q:=a;!(tupleKind (ah P w)).pyHash (show A.units<cLine from ()) q h
 |two ks ls=>@p,rfl,q:=a;!MB b q h
§dU.tuple(a:dU P w h (.tup ks) v):∃p its,v=.ref p/\h.IsTuple p its:=by
 @p,e,o,its,n,h1,h2,b,_:=a;!⟨p,its,e,o,h1,h2,n,b⟩
§dU.jK(a:dU P w h (.two ks ls) v):∃p its,v=.ref p/\h.IsTuple p its:=by
 @p,e,q:=a;@c,d,t,_:=q.tuple;!{p,_,e,t}
§dU.eq(e:A.units+1<cLine)(a:dU P w s.heap x u)(b:dU P w s.heap y v)(h:Q (decide (x=y)) s):wpAny (model P w) A (eqBool u v) Q E s:=by
 #ne:∀{z l:KD},z≠l->decide (z=l)=¿:=λq=>decide_eq_false q
 #d:A.units<cLine:=()
 cases x with
 |aR =>
  &a
  cases y with
  |aR=>cases b;!SeqAt.EqAt.same _ _ _ _ _ h
  |int j =>
   @t,rfl:=b;[ne (by ¢z;&z)]at h;!SeqAt.EqAt.none_int _ _ _ _ _ _ h
  |tup ks =>
   @p,its,rfl,q:=b.tuple;[ne (by ¢z;&z)]at h;!SeqAt.EqAt.none_tuple q d _ _ _ _ h
  |two ks ls =>
   @p,its,rfl,q:=b.jK;[ne (by ¢z;&z)]at h;!SeqAt.EqAt.none_tuple q d _ _ _ _ h
 |int i =>
  @t,rfl:=a
  cases y with
  |aR =>
   &b;[ne (by ¢z;&z)]at h;!SeqAt.EqAt.int_none _ _ _ _ _ _ h
  |int j =>
   @t,rfl:=b;?SeqAt.EqAt.int_int _ _ _ _ _ _ _ _ ?_;[show(i==j)=decide (KD.int i=KD.int j) from by ¿z:i=j <;> simp[z]];!h
  |tup ks =>
   @p,its,rfl,q:=b.tuple;[ne (by ¢z;&z)]at h;!SeqAt.EqAt.int_tuple _ _ q d _ _ _ _ h
  |two ks ls =>
   @p,its,rfl,q:=b.jK;[ne (by ¢z;&z)]at h;!SeqAt.EqAt.int_tuple _ _ q d _ _ _ _ h
 |tup ks =>
  cases y with
  |aR =>
   &b;@p,its,rfl,q:=a.tuple;[ne (by ¢z;&z)]at h;!SeqAt.EqAt.tuple_none q d _ _ _ _ h
  |int j =>
   @t,rfl:=b;@p,its,rfl,q:=a.tuple;[ne (by ¢z;&z)]at h;!SeqAt.EqAt.tuple_int _ _ q d _ _ _ _ h
  |tup c =>
   @p,rfl,q:=a;@k,rfl,f:=b;?(tupleKind (ah P w)).eqBool d q f ?_;[show decide (ks=c)=decide (KD.tup ks=KD.tup c) from by ¿z:ks=c <;> simp[z]];!h
  |two c g =>
   @p,rfl,q:=a;@k,rfl,f:=b;[ne (by ¢z;&z)]at h;!NW e q f _ _ _ _ h
 |two ks ls =>
  cases y with
  |aR =>
   &b;@p,its,rfl,q:=a.jK;[ne (by ¢z;&z)]at h;!SeqAt.EqAt.tuple_none q d _ _ _ _ h
  |int j =>
   @t,rfl:=b;@p,its,rfl,q:=a.jK;[ne (by ¢z;&z)]at h;!SeqAt.EqAt.tuple_int _ _ q d _ _ _ _ h
  |tup c =>
   @p,rfl,q:=a;@k,rfl,f:=b;[ne (by ¢z;&z)]at h;!Qq e q f _ _ _ _ h
  |two c g =>
   @p,rfl,q:=a;@k,rfl,f:=b;!Ot e q f _ _ _ _ h
theorem dU.quiet(a:dU P w s.heap k v)(h:Q true s):wpAny (model P w) A (eqIsQuiet 8 v) Q E s:=by
 cases k with
 |aR=>cases a;!qE h
 |int i=>@t,rfl:=a;!qE h
 |tup ks=>@p,rfl,q:=a;!(tupleKind (ah P w)).quiet q h
 |two ks ls=>@p,rfl,q:=a;!OV q h
§D1(a:dU P w s.heap k v)(e:∀u∈l,∃c,dU P w s.heap c u)(h:Q false s):wpAny (model P w) A (tableMayTell v l) Q E s:=by
 ¶tableMayTell
 split
 .!qE h
 .?qA (a.quiet ?_)
  [qB ⋯];?qA (wpAny_forIn_list _ (λr b s'=>s'=s/\b=(none,Unit.unit)/\∀u∈r,∃c,dU P w s.heap c u) _ ?_ ?_ _ _ {O,O,e})
  .rintro u r b s' ⟨rfl,rfl,d⟩
   @c,g:=d u qm;?qA (g.quiet ?_);[qB ⋯];!qE {O,O,λx f=>d x (qy _ f)}
  .rintro b s' ⟨rfl,rfl,_⟩
   !qE h
§fH(xs:#(KD×MD×MD))(k:KD):Option Nat:=xs.findIdx? λx=>decide (x.1=k)
§J4(hn:(xs.map (·.1)).Nodup)(h:xs[j]?=!x)(e:x.1=k):fH xs k=!j:=by
 ¶fH;[mo];@b,a:=qk.mp h;?{b,by[a,e];simp,λi hi=>?_}
 #:¬xs[i].1=k:=λz=>by
  #d:(xs.map (·.1))[i]?=!k:=by[List.getElem?_map,List.getElem?_eq_getElem ()];simp[z]
  #c:(xs.map (·.1))[j]?=!k:=by[List.getElem?_map,h];simp[e]
  #:=(mr (by[qj];¥) hn).mp (d.trans c.symm);¥
 ±this
§Hq{xs:#(KD×MD×MD)}{k:KD}(h:∀(j:Nat) x,xs[j]?=!x->x.1≠k):fH xs k=£:=by
 ¶fH;[n0];¢x a;@j,b,e:=z8.mp a;!decide_eq_false (h j x (by[qh b,e]))
§Ci{xs:#(KD×MD×MD)}{k:KD}{es:Array DictEntry}(at':∀j:Nat,es[j]?=(xs[j]?).map (dS P w))(sz:es.size=xs.length)(hn:(xs.map (·.1)).Nodup){g:Nat->Option (Option Nat)×Option Nat->Sem (ForInStep (Option (Option Nat)×Option Nat))}{R:Option (Option Nat)×Option Nat->RX->¤}(B:∀(i:Nat) b a (R':ForInStep (Option (Option Nat)×Option Nat)->RX->¤),xs[i]?=!b->(b.1=k->a=£/\R' (.done (!(!i),a)) s/\R' (.yield (none,!i)) s)->(b.1≠k->R' (.yield (none,a)) s)->wpAny (model P w) A (g i (none,a)) R' E s)(M:(∀(j:Nat) x,xs[j]?=!x->x.1≠k)->R (none,none) s)(z:∀(j:Nat) x,xs[j]?=!x->x.1=k->R (!(!j),none) s/\R (none,!j) s) :
  wpAny (model P w) A (forIn (placesWithHash es.size (λi=>es[i]?.map (·.hash)) (bN P w k)) (none,none) g) R E s:=by
 #has:∀(j:Nat) x,xs[j]?=!x->x.1=k->((es[j]?.map (·.hash))==!(bN P w k))=¶:=λj x c e=>by
  [at' j,c];¤(some (bN P w x.1)==!(bN P w k))=¶;[e]
  simp
 #one:∀{i j:Nat} {x y:KD×MD×MD},xs[i]?=!x->xs[j]?=!y->x.1=k->y.1=k->i=j:=λ{i j x y} h1 h2 F H=>by
  #v:(xs.map (·.1))[i]?=!k:=by[qu,h1];!congrArg some F
  #D:(xs.map (·.1))[j]?=!k:=by[qu,h2];!congrArg some H
  !(mr (qk.mp v).1 hn).mp (v.trans D.symm)
 ?wpAny_forIn_list _ (λrest b s'=>s'=s/\∃i a,b=(none,a)/\rest=(List.range' i (es.size - i)).filter (λi=>(es[i]?.map (·.hash))==!(bN P w k))/\i<=es.size ∧
   ((a=£/\∀(j:Nat) x,j<i->xs[j]?=!x->x.1≠k)\/∃j x,a=!j/\j<i/\xs[j]?=!x/\x.1=k)) _ ?_ ?_ _ _
  {O,0,none,O,by[placesWithHash,bc,ju],qv _,.inl {O,λj x c=>absurd c (vj _)}}
 .rintro x rest b s' ⟨rfl,i,a,rfl,r,hi,q⟩
  @J,I,K,l,h:=filter_range'_cons _ _ _ _ _ r.symm
  #o:x<es.size:=()
  #d:rest=(List.range' (x+1) (es.size - (x+1))).filter (λi=>(es[i]?.map (·.hash))==!(bN P w k)):=by
   [h]
   congr 2
   ¥
  #m:xs[x]?=!(xs[x]'()):=qh _;generalize xs[x]'()=b at m
  #t:∀(j:Nat) y,i<=j->j<x->xs[j]?=!y->y.1≠k:=λj y h1 h2 c e=>by
   #:=l j h1 h2;[has j y c e]at this;!absurd this ⋯
  ?B x b a _ m (λe=>?_) λe=>?_
  .@⟨rfl,f⟩|⟨j,y,_,c,p,n⟩:=q
   .!⟨O,(z x b m e).1,O,x+1,!x,O,d,o,.inr ⟨x,b,O,yo x,m,e⟩⟩
   .#:=one p m n e
    ¥
  .?{O,x+1,a,O,d,o,?_}
   @⟨h0,f⟩|⟨j,y,h1,c,p,n⟩:=q
   .?.inl ⟨h0,λj y G c=>?_⟩
    ¿u:j<i
    .!f j y u c
    .¿L:j<x
     .!t j y () L c
     .#:j=x:=()
      £this;[m]at c;&c;!e
   .!.inr {j,y,h1,(),p,n}
 .rintro b s' ⟨rfl,i,a,rfl,r,hi,q⟩
  @⟨rfl,f⟩|⟨j,y,rfl,c,p,n⟩:=q
  .?M λj x c e=>?_
   ¿u:j<i
   .!f j x u c e
   .#C:j<es.size:=by[sz];!(qk.mp c).1
    #:=mw.mp r.symm j (bd.mpr {(),()});!this (has j x c e)
  .!(z j y p n).2
§IC{es:Array DictEntry}(F:A.units+1<cLine)(a:dU P w s.heap k v)(u:s.heap.get? d=!o)(B:o.data=.dict es ep)(at':∀j:Nat,es[j]?=(xs[j]?).map (dS P w))(sz:es.size=xs.length)(r:∀x∈xs,dU P w s.heap x.1 x.2.1)(hn:(xs.map (·.1)).Nodup)(C:Q (fH xs k) s):wpAny (model P w) A (dictWalkPlain d v (bN P w k) es (placesWithHash es.size (λi=>es[i]?.map (·.hash)) (bN P w k))) Q E s:=by
 ¶dictWalkPlain
 #has:∀(j:Nat) x,xs[j]?=!x->x.1=k->((es[j]?.map (·.hash))==!(bN P w k))=¶:=λj x c e=>by
  [at' j,c];¤(some (bN P w x.1)==!(bN P w k))=¶;[e]
  simp
 ?qA (wpAny_forIn_list _ (λrest b s'=>s'=s/\b=(none,Unit.unit)/\∃i,rest=(List.range' i (es.size - i)).filter (λi=>(es[i]?.map (·.hash))==!(bN P w k))/\i<=es.size/\∀(j:Nat) x,j<i->xs[j]?=!x->x.1≠k) _ ?_ ?_ _ _
  {O,O,0,by[placesWithHash,bc,ju],qv _,λj x c=>absurd c (vj _)})
 .rintro x rest b s' ⟨rfl,rfl,i,n,hi,h⟩
  @J,I,t,g,f:=filter_range'_cons _ _ _ _ _ n.symm
  #p:x<es.size:=()
  #l:xs[x]?=!(xs[x]'()):=qh _;generalize xs[x]'()=b at l
  #m:es[x]?=!(dS P w b):=by[at' x,l];rfl
  #more:b.1≠k->∃i,rest=(List.range' i (es.size - i)).filter (λi=>(es[i]?.map (·.hash))==!(bN P w k))/\i<=es.size/\∀(j:Nat) x,j<i->xs[j]?=!x->x.1≠k:=λe=>{x+1,by[f];congr 2;¥,p,λj y H c=>by
   ¿q:j<i
   .!h j y q c
   .¿K:j<x
    .¢z
     #:=g j () K;[has j y c z]at this;!absurd this ⋯
    .#:j=x:=()
     £this;[l]at c;&c
     !e}
  [m]
  try dsimp only
  #G:((dS P w b).hash==bN P w k)=¶:=by
   #:=t;[m]at this;±this
  [qF G];?qA (wpAny_dictEpoch u B (qA ((r b (qw l)).eq F a (qA (wpAny_dictEpoch u B ?_)))))
  try dsimp only
  rw[qB (by simp)]
  ¿e:b.1=k
  .[qI e,qF rfl]
   ?qA (wpAny_rule (qE (qE ?_)));[←J4 hn l e];!C
  .[decide_eq_false e,qB ⋯]
   !qA (wpAny_rule (qE {O,O,more e}))
 .rintro b s' ⟨rfl,rfl,i,n,hi,h⟩
  ?qE ?_;[←Hq (xs:=xs) (k:=k) λj x c e=>?_]
  .!C
  .¿q:j<i
   .!h j x q c e
   .#D:j<es.size:=by[sz];!(qk.mp c).1
    !mw.mp n.symm j (bd.mpr {(),()}) (has j x c e)
§C'{es:Array DictEntry}(K:A.units+1<cLine)(a:dU P w s.heap k v)(D:s.heap.get? d=!o)(F:o.data=.dict es ep)(J:es.toList=xs.map (dS P w))(f:∀x∈xs,dU P w s.heap x.1 x.2.1)(hn:(xs.map (·.1)).Nodup)(I:Q (fH xs k) s):wpAny (model P w) A (dictFind d v (bN P w k)) Q E s:=by
 #at':∀j:Nat,es[j]?=(xs[j]?).map (dS P w):=λj=>by[←ym,J,qu]
 #sz:es.size=xs.length:=by[←zx,J,qj]
 #X:∀(j:Nat) x,xs[j]?=!x->x.1=k->((es[j]?.map (·.hash))==!(bN P w k))=¶:=λj x B e=>by
  [at' j,B];¤(some (bN P w x.1)==!(bN P w k))=¶;[e]
  simp
 #mem:∀e∈es,∃x∈xs,e=dS P w x:=λe m=>by
  @x,g,z:=qf.mp (show e∈xs.map (dS P w) from J▸j5.mpr m);!{x,g,z.symm}
 #S:∀z t,v≠.str z t:=λz t e=>by
  [e]at a
  cases k with
  |aR=>cases a
  |int i=>@_,q:=a;&q
  |tup ks=>@_,q,_:=a;&q
  |two ks ls=>@_,q,_:=a;&q
 #C:¬(es.any λe=>e.key==v&&e.hash != bN P w k)=¶:=by
  [←Array.any_toList,yz];rintro⟨e,m,O⟩;@x,g,rfl:=mem e (j5.mp m);[zt]at O;#Y:x.2.1=v:=eq_of_beq O.1;#H:=f x g;[Y]at H;#e3:=H.inj a;#T:(bN P w x.1 != bN P w k)=¶:=O.2;[e3]at T
  simp at T
 #st:∀u∈(placesWithHash es.size (λi=>es[i]?.map (·.hash)) (bN P w k)).filterMap (λi=>es[i]?.map (·.key)),∃Z,dU P w s.heap Z u:=λu M=>by
  @i,_,hi:=jo.mp M;[at' i]at hi
  cases e:xs[i]? with
  |none=>rw[e]at hi;&hi
  |some x =>
   [e]at hi
   #H:x.2.1=u:=by simpa[dS] using hi
   !{x.1,H▸f x (qw e)}
 #look:∀(x:Nat) (b:KD×MD×MD) {R:Bool->RX->¤},xs[x]?=!b->R (decide (b.1=k)) s->wpAny (model P w) A (eqBool b.2.1 v) R E s:=λx b R g r=>(f b (qw g)).eq K a r
 #l:(∀(j:Nat) x,xs[j]?=!x->x.1≠k)->Q none s:=λh=>by[←Hq h];!I
 #c:∀(j:Nat) x,xs[j]?=!x->x.1=k->Q (!j) s:=λj x B e=>by[←J4 hn B e];!I
 ¶dictFind
 try with_reducible ?qK ?_
 ?qA (wpAny_dictEntries D F ?_)
 #vc:v=.none\/(∃i t,v=.int i t)\/∃p,v=.ref p:=by
  cases k with
  |aR=>!.inl a
  |int i=>!.inr (.inl {i,a})
  |tup ks=>!.inr (.inr {a.choose,a.choose_spec.1})
  |two ks ls=>!.inr (.inr {a.choose,a.choose_spec.1})
 ¿G:(v::(placesWithHash es.size (λi=>es[i]?.map (·.hash)) (bN P w k)).filterMap (λi=>es[i]?.map (·.key))).all carriedByValue=¶
 .@rfl|⟨i,t,rfl⟩|⟨p,rfl⟩:=vc
  .dsimp only
   rw[qF G];!IC K a D F at' sz f hn I
  .dsimp only
   rw[qF G];!IC K a D F at' sz f hn I
  .!absurd G (by simp[carriedByValue])
 .@rfl|⟨i,t,rfl⟩|⟨p,rfl⟩:=vc <;> dsimp only <;> rw[qB G] <;> (try rw[qB C]) <;> ?wpAny_ite_split (λ_=>?_) (λ_=>?_) <;> (first|?qA (qE ?_)|?qA (D1 a st ?_)) <;> (
   [qB (by simp)];?qA (Ci at' sz hn (λi b W R' g y n=>?_) (λh=>qE (l h)) λj x B e=>{qE (c j x B e),qE (c j x B e)})
   #N:es[i]?=!(dS P w b):=by[at' i,g];rfl
   [N];dsimp only
   ¿L:((dS P w b).hash==bN P w k)=¶
   .[qF L]
    ?qA (wpAny_dictEpoch D F (qA (look i b g (qA (wpAny_dictEpoch D F ?_)))));[qB (by simp)]
    ¿e:b.1=k
    .@rfl,U,V:=y e
     [qI e,qF rfl,qB ⋯];?qA (wpAny_rule ?_)
     split
     .!qE U
     .!qE V
    .[decide_eq_false e,qB ⋯]
     ?qA (wpAny_rule ?_);[qB (by simp)];!qE (n e)
   .[qB L]
    !qE (n λe=>L (by
     ¤(bN P w b.1==bN P w k)=¶;[e]
     simp)))
end
section
variable {α β:Type}
§vG(kvs:#(KD×α×β))(k:KD):Option β:=(kvs.find? λe=>decide (e.1=k)).map (·.2.2)
§pG(kvs:#(KD×α×β))(k:KD)(a:α)(v:β):#(KD×α×β):=if(vG kvs k).isSome=¶ then kvs.map (λe=>if e.1=k then(e.1,e.2.1,v) else e) else kvs++[(k,a,v)]
§pE{kvs:#(KD×α×β)}{k:KD}{i:Nat}{e:KD×α×β}(hn:(kvs.map (·.1)).Nodup)(h:kvs[i]?=!e)(a:e.1=k):vG kvs k=!e.2.2:=by
 ¶vG
 induction kvs generalizing i with
 |nil=>cases h
 |cons x r c =>
  [zn,z6]at hn;[yd]
  cases i with
  |zero=>cases h;[qI a];rfl
  |succ i =>
   have h':r[i]?=!e:=by ±h
   have b:¬x.1=k:=λz=>hn.1 (by[z,←a];!qf.mpr {e,qw h',O})
   [decide_eq_false b];!c hn.2 h'
§lU{kvs:#(KD×α×β)}{k:KD}(h:∀e∈kvs,e.1≠k):vG kvs k=£:=by
 ¶vG;[jw.mpr λe a=>by[decide_eq_true_eq];!h e a];rfl
§GY(h:vG kvs k=!v):∃(i:Nat) (e:KD×α×β),kvs[i]?=!e/\e.1=k/\e.2.2=v:=by
 unfold vG at h;@e,a,rfl:=wj.mp h;@i,hi,b:=z8.mp (jx a);!{i,e,by[List.getElem?_eq_getElem hi,b],by ±List.find?_some a,O}
§nP{kvs:#(KD×α×β)}{k:KD}(h:vG kvs k=£):∀e∈kvs,e.1≠k:=λe a z=>by
 unfold vG at h;[Option.map_eq_none_iff,jw]at h;!h e a (qI z)
§eG(kvs:#(KD×α×β))(k a:KD)(m:α)(v:β):vG (pG kvs k m v) a=if a=k then some v else vG kvs a:=by
 ¶pG
 ¿g:(vG kvs k).isSome=¶
 .[qF g]
  @u,h:=kh.mp g;clear g;unfold vG at *
  induction kvs with
  |nil=>simp at h
  |cons x r n =>
   [zn,yd];[yd]at h ⊢
   ¿f:x.1=k
   .[qF f]
    ¿c:a=k
    .£c
     [qF rfl]
     simp[f]
    .[qB c]
     #:¬x.1=a:=λz=>c (z.symm.trans f)
     simp only[this,decide_false]
     clear h n
     induction r with
     |nil=>rfl
     |cons y r i =>
      [zn,yd,yd]
      ¿j:y.1=k
      .#b:¬y.1=a:=λz=>c (z.symm.trans j)
       [qF j]
       simp only[b,decide_false]
       !i
      .[qB j]
       ¿b:y.1=a
       .simp[b]
       .simp only[b,decide_false]
        !i
   .[qB f]
    simp only[f,decide_false]at h
    ¿d:x.1=a
    .#:¬a=k:=λz=>f (d.trans z)
     [qB this]
     simp[d]
    .simp only[d,decide_false]
     !n h
 .[qB g]
  #l:=nP (kvs:=kvs) (k:=k) (by cases e:vG kvs k with
   |none=>rfl
   |some u=>rw[e]at g;!absurd rfl g)
  ¶vG;[List.find?_append]
  ¿c:a=k
  .£c
   [qF rfl,jw.mpr λe o=>by[decide_eq_true_eq];!l e o]
   simp
  .[qB c]
   cases e:List.find? (λe=>decide (e.1=a)) kvs with
   |some x=>rfl
   |none =>
    have:¬k=a:=λz=>c z.symm
    simp[this]
§PF(kvs:#(KD×α×β))(k:KD)(a:α)(v:β):(pG kvs k a v).map (·.1)=if(vG kvs k).isSome=¶ then kvs.map (·.1) else kvs.map (·.1)++[k]:=by
 ¶pG
 split
 .[z9]
  ?yu λe _=>?_;¤(if e.1=k then(e.1,e.2.1,v) else e).1=e.1
  split <;> rfl
 .[z7]
  rfl
§iK(kvs:#(KD×α×β))(k:KD)(a:α)(v:β):(pG kvs k a v).length<=kvs.length+1:=by
 ¶pG
 split
 .[qj];¥
 .[qi,qt];!qe _
§Df{kvs:#(KD×α×β)}{k:KD}{a:α}{v:β}(h:(kvs.map (·.1)).Nodup):((pG kvs k a v).map (·.1)).Nodup:=by
 [PF]
 split
 .!h
 .rename_i b
  ?As h λf=>?_;@e,c,rfl:=qf.mp f
  !nP (kvs:=kvs) (k:=e.1) (by cases d:vG kvs e.1 with
   |none=>rfl
   |some u=>rw[d]at b;!absurd rfl b) e c rfl
end
section
variable {P:Program}{w:World}{A:Around}{E:KE}{s:RX}
§cz(P:Program)(w:World)(h:Heap)(d:R0)(xs:#(KD×MD×MD)):Prop :=
 ∃o es ep,h.get? d=!o/\o.ExactDict/\o.data=.dict es ep/\es.toList=xs.map (dS P w)/\(∀x∈xs,dU P w h x.1 x.2.1)/\(xs.map (·.1)).Nodup
§cz.typeIs(g:cz P w s.heap d xs):s.TypeIs (.ref d) "dict":=let⟨o,_,_,a,b,_⟩:=g;{o,a,b.1}
§Ag(h:fH xs k=!j):∃x,xs[j]?=!x/\x.1=k:=by
 unfold fH at h;[mo]at h;@a,h1,_:=h;!{xs[j],List.getElem?_eq_getElem a,by ±h1}
§CS(h:fH xs k=£):∀e∈xs,e.1≠k:=λe a=>by
 unfold fH at h;[n0]at h;±h e a
§DO(i:A.units+1<cLine)(a:dU P w s.heap k v)(g:cz P w s.heap d xs)(h:Q (vG xs k) { s with toks:=s.toks+bX P w k }):wpAny (model P w) A (dictGet d v) Q E s:=by
 @o,es,ep,c,_,m,l,b,hn:=g;¶dictGet
 try with_reducible ?qK ?_
 ?qA (a.hash i (qA (C' (s:={ s with toks:=s.toks+bX P w k }) i a c m l b hn ?_)))
 cases e:fH xs k with
 |none =>
  [lU (CS e)]at h;!qE h
 |some j =>
  @x,f,ex:=Ag e;[pE hn f ex]at h;?qA (wpAny_dictEntries (s:={ s with toks:=s.toks+bX P w k }) c m ?_);[←ym,l,qu,f];!qE h
§M2{xs:#(KD×MD×MD)}{k:KD}{v:MD}{j:Nat}{x:KD×MD×MD}(hn:(xs.map (·.1)).Nodup)(a:xs[j]?=!x)(ex:x.1=k) :
  (xs.map (dS P w)).modify j (λe=>{ e with val:=v })=(xs.map λe=>if e.1=k then(e.1,e.2.1,v) else e).map (dS P w):=by
 apply yc;¢i;[List.getElem?_modify,qu,qu,qu]
 cases hi:xs[i]? with
 |none=>simp
 |some y =>
  ¿e:j=i
  .£e
   [a]at hi;&hi
   simp[ex,dS]
  .#b:¬y.1=k:=λz=>e ((List.getElem?_inj (by[List.length_map];!(List.getElem?_eq_some_iff.mp a).1) hn).mp (by[List.getElem?_map,List.getElem?_map,a,hi];simp[ex,z]))
   simp[e,b]
§ux{es:Array DictEntry}{ep:Nat}(f:h.get? d=!o)(i:o.ExactDict)(g:Heap.SameBut d h h')(a:dU P w h k v):dU P w h' k v:=a.ext λb o' e c=>(g.2 b (λz=>by
 [z,f]at e;&e;[i.1]at c
 !absurd c ⋯)).trans e
§Am{d:R0}{xs:#(KD×MD×MD)}{k:KD}{v val:MD}{Q:Unit->RX->¤}(q:A.units+1<cLine)(a:dU P w s.heap k v)(g:cz P w s.heap d xs)(hsz:xs.length<=sizeLine)(r:∀h',cz P w h' d (pG xs k v val)->Heap.SameBut d s.heap h'->Q Unit.unit { s with heap:=h',toks:=s.toks+bX P w k }):wpAny (model P w) A (dictSet d v val) Q E s:=by
 @o,es,ep,c,i,h,m,f,hn:=g
 #sz:es.size=xs.length:=by[←zx,m,qj]
 #keep:∀h',Heap.SameBut d s.heap h'->∀x∈pG xs k v val,dU P w h' x.1 x.2.1:=λh' p x b=>by
  unfold pG at b
  split at b
  .@y,t,rfl:=qf.mp b
   #:=ux (es:=es) (ep:=ep) c i p (f y t)
   split <;> !this
  .@b|b:=zh.mp b
   .!ux (es:=es) (ep:=ep) c i p (f x b)
   .[qx.mp b]
    !ux (es:=es) (ep:=ep) c i p a
 ¶dictSet
 try with_reducible ?qK ?_
 ?qA (a.hash q ?_);¶dictSetHashed
 try with_reducible ?qK ?_
 ?qA (C' (s:={ s with toks:=s.toks+bX P w k }) q a c h m f hn ?_)
 cases e:fH xs k with
 |none =>
  have n:=lU (CS e);?qA (wpAny_rule (wpAny_updateDictKeys (hz:=by ¥) (s:={ s with toks:=s.toks+bX P w k }) c h (r _ {_,_,ep+1,Heap.get?_update_self _ c (Obj.isFreed_of_dict (Obj.data_mapDictKeys h _)),i.mapDictKeys _,Obj.data_mapDictKeys h _,?_,keep _ (Heap.SameBut.update ..),Df hn} (Heap.SameBut.update ..))));¶pG;[n,qB ⋯]
  simp[m,dS]
 |some j =>
  @x,b,ex:=Ag e;have n:=pE hn b ex;?qA (wpAny_rule (qA (wpAny_updateDict (s:={ s with toks:=s.toks+bX P w k }) c h (wpAny_point (r _ {_,_,ep,Heap.get?_update_self _ c (Obj.isFreed_of_dict (Obj.data_mapDict h _)),i.mapDict _,Obj.data_mapDict h _,?_,keep _ (Heap.SameBut.update ..),Df hn} (Heap.SameBut.update ..))))));¶pG;[n,qF (show(!x.2.2).isSome=¶ from rfl)];have:=M2 (P:=P) (w:=w) (v:=val) hn b ex;[←m]at this;@⟨l⟩:=es;±this
end
abbrev GP(H:Hp):KD×V×V->KD×MD×MD->¤:=λp q=>p.1=q.1/\GK H p.1 p.2.1/\RelV p.2.1 q.2.1/\RelV p.2.2 q.2.2
section
variable {X:Cx}{pins:#(R0×Obj)}{σ:St}{H:Hp}{s:RX}{a:R0}{y v:V}{u r:MD}{k:KD}{kvs:#(KD×V×V)}{A:Around}{E:KE}
§GK.is(I:Inv X pins σ H s)(g:GK H k y)(a:RelV y u):dU X.prog X.w s.heap k u:=by
 cases k with
 |aR=>cases g;!a
 |int i=>cases g;!a
 |tup ks =>
  @b,rfl,e:=g;!{b,a,oV I.aS e}
 |two ks ls =>
  @b,c,d,rfl,e,p,q:=g;@its,h,⟨o,r,l,n,f⟩,_:=I.tuple (aZ.of e);@v,t,rfl,m,j:=h.two;&m;&j;!{b,a,o,c,d,n,r,l,f,oV I.aS p,oV I.aS q}
theorem Lp:∀{l:#(KD×V×V)} {m:#(KD×MD×MD)},Paired F l m->∀x∈m,∃p∈l,F p x
 |_,_,.nil,x,h=>nomatch h
 |_,_,.cons f t,x,h=>by
  @rfl|h:=q0.mp h
  .!⟨_,qm,f⟩
  .@p,hp,q:=Lp t x h
   !{p,qy _ hp,q}
theorem pY:∀{l:#(KD×V×V)} {m:#(KD×MD×MD)},Paired (GP H) l m->eV (vG l k) (vG m k)
 |_,_,.nil=>trivial
 |_,_,.cons (a:=p) (b:=q) f t=>by
  #c:=pY t;unfold vG at c ⊢;[yd,yd,←f.1]
  ¿e:p.1=k
  .[qI e];!f.2.2.2
  .[decide_eq_false e];!c
theorem Ih(c:RelV v r):∀{l:#(KD×V×V)} {m:#(KD×MD×MD)},Paired (GP H) l m->Paired (GP H) (l.map λe=>if e.1=k then(e.1,e.2.1,v) else e) (m.map λe=>if e.1=k then(e.1,e.2.1,r) else e)
 |_,_,.nil=>.nil
 |_,_,.cons (a:=p) (b:=q) f t=>by
  ?.cons ?_ (Ih c t);¤GP H (if p.1=k then(p.1,p.2.1,v) else p) (if q.1=k then(q.1,q.2.1,r) else q);[←f.1]
  split
  .!{O,f.2.1,f.2.2.1,c}
  .!f
§uX(t:Paired (GP H) l m)(g:GK H k y)(b:RelV y u)(a:RelV v r):Paired (GP H) (pG l k y v) (pG m k u r):=by
 #e:(vG l k).isSome=(vG m k).isSome:=(pY t).fC;¶pG;[e]
 split
 .!Ih a t
 .!Paired.snoc t {O,g,b,a}
theorem s_:∀{l:#(KD×V×V)} {m:#(KD×MD×MD)},Paired (GP H) l m->l.length=m.length
 |_,_,.nil=>rfl
 |_,_,.cons _ t=>by[zd,zd,s_ t]
§eu(I:Inv X pins σ H s)(e:Rd H a (.dG kvs)):kvs.length<=sizeLine/\(a==sysModules)=¿/\∃xs,Paired (GP H) kvs xs/\cz X.prog X.w s.heap a xs:=by
 @z,y,xs,r,o,es,ep,h1,h2,b,c,g:=(show aV X.prog X.w H s.heap a (.dG kvs) from e.ok I.aS);?{z,y,xs,r,o,es,ep,h1,h2,b,c,λx d=>?_,g};@p,hp,f:=Lp r x d;[←f.1];!f.2.1.is I f.2.2.1
§Ov(m:A.units+2<cLine)(I:Inv X pins σ H s)(e:Rd H a (.dG kvs))(g:GK H k y)(l:vG kvs k=!v)(j:RelV y u)(h:∀b s',Inv X pins σ H s'->RelV v b->Q b s') :
  wpAny (model X.prog X.w) A (getItem (.ref a) u) Q E s:=by
 @z,n,xs,d,c:=eu I e;@b,i,f:=eV.some_of (v:=v) (o:=vG xs k) (by[←l];!pY d);¶getItem
 try with_reducible ?qK ?_
 ?qA (wpAny_sequenceKey c.typeIs ⋯ (qA (wpAny_callSpecial?_slot (name:=Str.ofString "__getitem__") c.typeIs F.slot_dict_getitem (qN F.slot_dict_getitem c.typeIs F.entry_dict_getitem ?_ (F.args_dict_getitem_2 _ _)))));¤wpAny (model X.prog X.w) _ (dictGet a u >>= _) _ _ s;?qA (DO (show A.in1.units+1<cLine from(by ¤A.units+1+1<cLine;¥)) (g.is I j) c ?_);[i];!qE {b,O,qE (h b _ (I.tok _) f)}
§Ka(l:A.units+2<cLine)(I:Inv X pins σ H s)(e:Rd H a (.dG kvs))(g:GK H k y)(i:RelV y u)(h:∀s',Inv X pins σ H s'->Q (vG kvs k).isSome s') :
  wpAny (model X.prog X.w) A (contains (.ref a) u) Q E s:=by
 @z,j,xs,d,c:=eu I e;#b:(vG kvs k).isSome=(vG xs k).isSome:=(pY d).fC;¶contains
 try with_reducible ?qK ?_
 ?qA (wpAny_specialOf c.typeIs F.slot_dict_contains.lookup ?_);¤wpAny (model X.prog X.w) A (if(some (Value.builtin "dict.__contains__")==!Value.none)=¶ then _ else _) _ E s;[qB (by[beq_builtin_none];decide)];?qA (wpAny_callSpecialUnlessNone?_slot (name:=Str.ofString "__contains__") c.typeIs F.slot_dict_contains (qN F.slot_dict_contains c.typeIs F.entry_dict_contains ?_ (F.args_dict_contains_2 _ _)));¤wpAny (model X.prog X.w) _ (dictGet a u >>= _) _ _ s;?qA (DO (show A.in1.units+1<cLine from(by ¤A.units+1+1<cLine;¥)) (g.is I i) c ?_)
 cases f:vG xs k with
 |some p =>
  [f]at b;?qE {Value.bool true,O,wpAny_truthy_bool ?_};#:=h _ (I.tok (s.toks+bX X.prog X.w k));[b]at this;!this
 |none =>
  [f]at b;¤wpAny (model X.prog X.w) _ (Builtin.Dict.pendingKey? a u >>= _) _ _ _;?qA (wpAny_pendingKey_other j (qE {Value.bool false,O,wpAny_truthy_bool ?_}));#:=h _ (I.tok (s.toks+bX X.prog X.w k));[b]at this;!this
§P_{Q:Unit->RX->¤}(G:A.units+2<cLine)(I:Inv X pins σ H s)(e:H a=!(.dG kvs))(g:GK H k y)(D:kvs.length<sizeLine)(n:RelV y u)(o:RelV v r)(h:∀s',Inv X pins σ (upd H a (.dG (pG kvs k y v))) s'->Q Unit.unit s') :
  wpAny (model X.prog X.w) A (setItem (.ref a) u r) Q E s:=by
 @z,C,xs,c,d:=eu I (.inl e);¶setItem
 try with_reducible ?qK ?_
 ?qA (wpAny_sequenceKey d.typeIs ⋯ (qA (wpAny_callSpecial?_slot (name:=Str.ofString "__setitem__") d.typeIs F.slot_dict_setitem (qN F.slot_dict_setitem d.typeIs F.entry_dict_setitem ?_ (F.args_dict_setitem_3 _ _ _)))));¤wpAny (model X.prog X.w) _ (Builtin.Dict.notOrdered "__setitem__" {[.ref a,u,r],[]} >>= _) _ _ s;?qA (wpAny_notOrdered_dict d.typeIs ?_);¤wpAny (model X.prog X.w) _ (dictSet a u r >>= _) _ _ s;?qA (Am (show A.in1.units+1<cLine from(by ¤A.units+1+1<cLine;¥)) (g.is I n) d (by[←s_ c];!z) λh' i f=>qE {Value.none,O,qE (h _ ?_)});@q,es,ep,m,h2,t,B,_,x:=i;#j:=iK kvs k y v;?pU I (by[e];!True.intro) f {q,m} {(),C,_,Paired.lh (uX c g n o) λp q z=>{z.1,z.2.1.cP λb xs l=>?_,z.2.2},q,es,ep,m,h2,t,B,x};[ax (nY l e °)];!l
end
inductive vS(Q:VK)(x y:V)(H2:Hp):Prop
 |mk(a kvs k v:_)(_:x=.ref a)(_:Rd H2 a (.dG kvs))(_:GK H2 k y)(_:vG kvs k=!v)(_:Q v H2)
§Bo(td ty:TE):TE:=λσ H Q=>td σ H λx H1=>ty σ H1 λy H2=>vS Q x y H2
inductive JD(neg:Bool)(y x:V)(H:Hp)(Q:VK):Prop
 |mk(a kvs k:_)(_:x=.ref a)(_:Rd H a (.dG kvs))(_:GK H k y)(_:Q (.bl (if neg then not (vG kvs k).isSome else(vG kvs k).isSome)) H)
inductive wY(D:Ends)(σ:St)(v x y:V)(H3:Hp):Prop
 |mk(a kvs k:_)(_:x=.ref a)(_:H3 a=!(.dG kvs))(_:GK H3 k y)(_:kvs.length<sizeLine)(_:D.nx σ (upd H3 a (.dG (pG kvs k y v))))
§EY(td ty tv:TE):TS:=λD σ H=>tv σ H λv H1=>td σ H1 λx H2=>ty σ H2 λy a=>wY D σ v x y a
section
variable {X:Cx}{o i e value:Expr}{pos pos' tpos:Pos}{td ty tv:TE}
§dE(n:X.A.units+2<cLine)(e:PE X o td)(hi:PE X i ty)(r:BG i):PE X (.Subscript o i pos) (Bo td ty):=by
 ?{?_};¢pins s σ H Q I h;?GU PySem.F.slot_dict_getitem.lookup r (bK (e pins s σ H _ I h) λu f ⟨x,H1,j,m,p⟩=>bK (hi pins f σ H1 _ j p) λB s2 ⟨y,H2,c,z,a,kvs,k,v,ex,d,g,l,q⟩=>?_);£ex;obtain rfl:u=Value.ref a:=m;@_,_,xs,_,w:=eu c d;!{w.typeIs,Ov n c d g l z λC D t b=>{v,H2,t,b,q}}
§pP(e:X.A.units+2<cLine):dh X (compareOp .In) (JD false):=by
 ¢pins s σ H x y v u Q I d f h;@a,kvs,k,rfl,c,g,q:=h;&f;¤wpAny (model X.prog X.w) X.A (do return Value.bool (←contains (.ref a) v)) _ _ s;!qA (Ka e I c g d λs' b=>qE {.bl _,H,b,O,q})
§xn(e:X.A.units+2<cLine):dh X (compareOp .NotIn) (JD true):=by
 ¢pins s σ H x y v u Q I d f h;@a,kvs,k,rfl,c,g,q:=h;&f;¤wpAny (model X.prog X.w) X.A (do return Value.bool (not (←contains (.ref a) v))) _ _ s;!qA (Ka e I c g d λs' b=>qE {.bl _,H,b,O,q})
§jY(n:X.A.units+2<cLine)(l:PE X o td)(hi:PE X i ty)(t:PE X value tv)(p:swapsWith value (!(.Subscript o i pos')) pos.line X.env=pure false) :
  PS X (.Assign [.Subscript o i pos'] value pos) (EY td ty tv):=by
 ?{?_};¢pins s σ H D I h;?wpAny_Assign_Subscript (bK (t pins s σ H _ I h) λr C ⟨v,H1,c,m,d⟩=>bK (l pins C σ H1 _ c d) λu s2 ⟨x,H2,B,w,f⟩=>bK (hi pins s2 σ H2 _ B f) λF K ⟨y,G,z,q,a,kvs,k,ex,e,g,E,j⟩=>?_) p;£ex;obtain rfl:u=Value.ref a:=w;!P_ n z e g E q m λJ b=>{σ,_,b,j}
§Hr:TE:=λ_ H Q=>∀p H',H p=£->af H H'->H' p=!(.dG [])->Q (.ref p) H'
§Jb(h:Heap)(a:sysModules<h.objs.size):aV P w H (h.push { cls:=.type "dict",data:=.dict #[] }) h.objs.size (.dG []) :=
 {qv _,beq_eq_false_iff_ne.mpr (Ne.symm (qp a)),[],.nil,_,#[],0,qL _ rfl,{O,O,O},O,O,vi}
§jV:PE X (.Dict [] [] pos) Hr:={λpins s σ H Q I h =>
 wpAny_Dict_empty {.ref ↑s,_,I.laid (a:=↑s) (o:=.dG []) (t':=s.toks) (λ_ _ q=>qH _ q) (qe _) (Jb s.heap I.lB),O,h _ _ (I.aS.fresh (qe _)) (af.new (I.aS.fresh (qe _))) aD}}
end
§Pj:typeLookup (.type "list") "keys"=pure none:=by[typeLookup_type,builtinLookup_eq_fast];kernel_rfl
section
variable {prog:Program}{w:World}{A:Around}{E:KE}
§Na(f:s.heap.get? a=some { cls:=.type "list",dict:=£,data:=.seq xs k,slots:=sl })(l:A.handled=£)(h:∀h' tk,f9 s.heap h'->Q none { s with heap:=h',toks:=tk }):wpAny (model prog w) A (getAttr? (.ref a) "keys") Q E s:=by
 @hp,g,d,tk,j:=s;#i:∀b,(⟨hp,g,d,b,j⟩:RX).TypeIs (.ref a) "list":=λ_=>{_,f,O};#p:=sub_AttributeError;#o:=F.slot_list_getattribute.lookup;#m:=F.slot_list_getattribute.bind (.ref a);#t:=am_list_getattr_none
 #z:(Str.ofString "keys").length+100<=sizeLine:=by
  #:=cF (n:=1000) (qe _);#e:(Str.ofString "keys").length=4:=rfl;¥
 unfold getAttr? getAttrBy? getAttrBy
 repeat (any_goals (first|assumption|!i _|((with_reducible show wpAny _ _ (call (Value.builtin "list.__getattribute__") _ _) _ _ _);?call_meets F.slot_list_getattribute (i _) am_entry_list_getattribute (F.args_list_getattribute_2 _ _) (meets_getattribute_miss_list a xs k sl "keys" _ Pj ∅ z) ⟨f,l,λh' b e c=>?_⟩)|wp_step))
 @t',r,q:=c.there;¤wpAny (model prog w) A (getattributeRaised _ _ _ _ _ _ _) _ _ _;¶getattributeRaised
 repeat (any_goals (first|assumption|wp_step))
 !h _ _ c.keeps
end
§Ld:entryFor table "dict.update.loop"=some Builtin.«dict.update.loop»:=entryFor_of_tree (by kernel_rfl)
§wD:plainId "dict.update.loop"=¶:=∅
§ID(h h':Heap):Prop:=∀b o,h.get? b=!o->o.cls=.type "tuple"->h'.get? b=!o
section
variable {P:Program}{w:World}{A:Around}
§Od{M:Model}{E:KE}{s:RX}{b:R0}{o:Obj}{xs:Array MD}{n:Nat}{Q:Option (Array MD)->RX->¤}(a:s.heap.get? b=!o)(c:o.data=.seq xs n)(q:Q (!xs) s):wpAny M A (seqItems? (.ref b)) Q E s:=by
 unfold seqItems?;?qA (wpAny_load a ?_);[c];!qE q
§putAll{α β:Type}(xs:#(KD×α×β)):#(KD×α×β)->#(KD×α×β)
 |[]=>xs
 |e::r=>putAll (pG xs e.1 e.2.1 e.2.2) r
§NR{α β:Type}(ps:#(KD×α×β)):∀xs,(putAll xs ps).length<=xs.length+ps.length:=by
 induction ps with
 |nil=>intro xs;!qe _
 |cons e r a =>
  ¢xs;#h1:=a (pG xs e.1 e.2.1 e.2.2);#h2:=iK xs e.1 e.2.1 e.2.2;¤(putAll (pG xs e.1 e.2.1 e.2.2) r).length<=_;[zd];¥
§fE(P:Program)(w:World)(h:Heap)(v:MD)(e:KD×MD×MD):Prop:=∃b,v=.ref b/\h.IsTuple b #[e.2.1,e.2.2]/\dU P w h e.1 e.2.1
§fE.cP(p:fE P w h v e)(t:ID h h'):fE P w h' v e:=by
 @b,rfl,⟨o,h1,h2,a⟩,g:=p;!{b,O,{o,t _ _ h1 h2,h2,a},g.ext t}
§cz.keep(g:cz P w h d xs)(k:∀o,h.get? d=!o->h'.get? d=!o)(t:ID h h'):cz P w h' d xs:=by
 @o,es,ep,h1,h2,a,f,e,b:=g;!{o,es,ep,k o h1,h2,a,f,λx c=>(e x c).ext t,b}
§HW{h h':Heap}{I l:R0}{i:Nat}(a:h.IsListIter I l i)(k:∀b o,b≠I->h.get? b=!o->h'.get? b=!o):ID h h':=λb o e c=>k b o (λz=>by
 @o',f,d,_:=a;[z,f]at e;&e;[d]at c
 !absurd c ⋯) e
§QH(hh:A.handled=£)(hu:A.units+2<cLine)(L:l≠I)(k:D≠I)(J:D≠l) :
  ∀(ps:#(KD×MD×MD)) (i:Nat) (xs:#(KD×MD×MD)) (s:RX) (j:Int) (u:Tok),i+ps.length=items.size->s.heap.IsListIter I l i->s.heap.IsList l items->cz P w s.heap D xs->xs.length+ps.length<=sizeLine->
   (∀(m:Nat) e,ps[m]?=!e->∃v,items[i+m]?=!v/\fE P w s.heap v e)->
   (∀s':RX,(∀b o,b≠I->b≠D->s.heap.get? b=!o->s'.heap.get? b=!o)->cz P w s'.heap D (putAll xs ps)->(∃tk,s'={ s with heap:=s'.heap,toks:=tk })->R (.ok (.ret .none)) s')->
   codeAny (model P w) A (.builtin "dict.update.loop" {[.ref D,.ref I,.int j u,.none],[]}) R s:=by
 #W:=Walks.list (prog:=P) (w:=w) (A:=A.in1) (by ±hh) I l L items;¢ps
 induction ps with
 |nil =>
  ¢i xs s j u hi d Z Y hz hp X
  #C:i=items.size:=by ±hi
  £C;?codeAny_builtin Ld ?_;[Around.under_plainId wD _];¤wpAny (model P w) A.in1 (pyNext (.ref I) >>= _) _ _ s;?qA (W.done s _ _ {d,Z} λh' tk S=>?_)
  #h:∀b o,b≠I->s.heap.get? b=!o->h'.get? b=!o:=λb o p e=>S b o (by ±p) e
  !qA (qE (qE (X {h',s.gens,s.drawn,tk,s.os} (λb o h1 _ e=>h b o h1 e) (Y.keep (λo e=>h D o k e) (HW d h)) {tk,O})))
 |cons e ps ih =>
  ¢i xs s j u hi d Z Y hz hp X;?codeAny_builtin Ld ?_;[Around.under_plainId wD _];¤wpAny (model P w) A.in1 (pyNext (.ref I) >>= _) _ _ s;?qA (W.item i s _ _ (by[zd]at hi;¥) {d,Z} λv h' tk hv st S=>?_)
  #h:∀b o,b≠I->s.heap.get? b=!o->h'.get? b=!o:=λb o p e=>S b o (by ±p) e
  #ts:=HW d h;@v',g,pv:=hp 0 e rfl
  #ev:v'=v:=by
   [Nat.add_zero]at g;[hv]at g;!(qJ g).symm
  £ev;#t:=Y.keep (h':=h') (λo e=>h D o k e) ts;#U:=pv.cP ts;@b,rfl,p,ge:=id U
  #hT:Shared.TypeIs ⟨h',s.gens,s.drawn,tk,s.os⟩ (.ref b) "tuple":=by
   @o,h1,h2,_:=p;!{o,h1,h2}
  @ob,x,hb2,nb,hb3:=id p
  #pr:∀{Q:#MD->RX->¤} {E:KE},Q [e.2.1,e.2.2] ⟨h',s.gens,s.drawn,tk,s.os⟩->wpAny (model P w) A.in1 (Builtin.Dict.pairItems (.ref b)) Q E ⟨h',s.gens,s.drawn,tk,s.os⟩:=λ{Q E} q=>by
   ¶Builtin.Dict.pairItems;?qA (wpAny_typeOf hT ?_);[qF ⋯];!qA (Od x hb3 (qE q))
  ?qA (qK (qA (wpAny_tryCatch (pr ?_))));?qK (Am (show A.in1.units+1<cLine from(by ¤A.units+1+1<cLine;¥)) ge t (by[zd]at hz;¥) λh2 hd2 f=>?_)
  #tD:ID h' h2:=λb o T c=>(f.2 b (λz=>by
   @o',_,_,V,r,_:=t;[z,V]at T;&T;[r.1]at c
   !absurd c ⋯)).trans T
  ?qE {plainId_quiet wD _,ih (i+1) _ _ _ _ (by[zd]at hi;¥) ?_ ?_ hd2 ?_ (λm V H=>?_) λs' M N y=>?_}
  .@o,h1,a,B:=st.1
   !{o,(f.2 I (λz=>k z.symm)).trans h1,a,B}
  .@o,h1,a,n,B:=st.2
   !{o,(f.2 l (λz=>J z.symm)).trans h1,a,n,B}
  .#:=iK xs e.1 e.2.1 e.2.2
   [zd]at hz;¥
  .@v2,F,K:=hp (m+1) V (by ±H)
   !{v2,by[←F];congr 1;¥,(K.cP ts).cP tD}
  .?X s' (λb o h1 a r=>M b o h1 a ((f.2 b a).trans (h b o h1 r))) N ?_
   @G,r:=y;!{G,by[r]}
§QI{s:RX}{l:R0}{items:Array MD}{n:Nat}{sl:Array (Option MD)}{E:KE}{Q:KE}{ps:#(KD×MD×MD)}(p:A.handled=£)(I:A.units+4<cLine)(t:s.heap.get? l=some { cls:=.type "list",dict:=£,data:=.seq items n,slots:=sl })(hn:ps.length=items.size)(hz:ps.length<=sizeLine)(hp:∀(m:Nat) e,ps[m]?=!e->∃v,items[m]?=!v/\fE P w s.heap v e)(h:∀h' tk d,f9 s.heap h'->↑s<=d->cz P w h' d (putAll [] ps)->Q (.ref d) { s with heap:=h',toks:=tk }):wpAny (model P w) A (call (.type "dict") [.ref l]) Q E s:=by
 ?callType_codes (Q₁:=λobj c=>obj=.ref ↑s/\c={ s with heap:=s.heap.push { cls:=.type "dict",data:=.dict #[] } }) F.kt_called_dict (F.kt_typeCall_dict_1 _) F.entry_dict_init (kt_code_dict_new _ {O,O}) ?_;rintro obj c ⟨rfl,rfl⟩;#new:cz P w (s.heap.push { cls:=.type "dict",data:=.dict #[] }) ↑s []:={_,#[],0,qL _ rfl,{O,O,O},O,O,λx B=>(nomatch B),vi};#a:(s.heap.push { cls:=.type "dict",data:=.dict #[] }).get? l=some { cls:=.type "list",dict:=£,data:=.seq items n,slots:=sl }:=qH _ t;#q:Shared.TypeIs { s with heap:=s.heap.push { cls:=.type "dict",data:=.dict #[] } } (.ref ↑s) "dict":=cz.typeIs (P:=P) (w:=w) (s:={ s with heap:=s.heap.push { cls:=.type "dict",data:=.dict #[] } }) new;?{q,F.args_dict_init_2 _ _,?_};unfold Builtin.«dict.__init__»;?qA ?_;¶Builtin.Dict.selfAndRest;?qA (wpAny_notOrdered_dict q (qE ?_));¤wpAny (model P w) _ (Builtin.Dict.updateFrom "dict.__init__" ↑s (.ref l) [] .none) _ _ _;¶Builtin.Dict.updateFrom;?qA (wpAny_typeOf (show Shared.TypeIs { s with heap:=s.heap.push { cls:=.type "dict",data:=.dict #[] } } (.ref l) "list" from{_,a,O}) ?_);[qF ⋯];?qA (Na a (by ±p) λh1 H f=>?_);[qF (by rfl)];#i:h1.IsList l items:={_,f _ _ a,O,n,O};?qA (wpAny_rule (qA (wpAny_pyIter_list i ?_)))
 #k:↑s<h1.objs.size:=by
  @o,_,_,e,_:=new;!qG (f _ _ e)
 #z:l<h1.objs.size:=qG (f _ _ a);#u:l<↑s:=qG t
 #j:∀b o,s.heap.get? b=!o->b≠h1.objs.size/\b≠↑s:=λb o e=>by
  #:=qG e;!{qp (jr this k),qp this}
 #g:ID (s.heap.push { cls:=.type "dict",data:=.dict #[] }) (h1.push { cls:=.type "list_iterator",data:=.fields #[.ref l,.int 0 0] }):=λb o e _=>qH _ (f _ _ e);?qE {plainId_quiet wD _,QH (A:=A.in1) (l:=l) (items:=items) (by ±p) (show A.units+1+2<cLine from ()) (Nat.ne_of_lt z) (Nat.ne_of_lt k) (Nat.ne_of_gt u) ps 0 [] _ _ _ (by[Nat.zero_add];!hn) {_,qL _ rfl,O,O} (i.push _) (new.keep (λo e=>qH _ (f _ _ e)) g) (by ±hz) (λm e y=>?_) λs' D r C=>?_}
 .@v,G,pv:=hp m e y
  !{v,by[ja];!G,(pv.cP (λb o e _=>qH _ e)).cP g}
 .@tk,es:=C
  [es]at r ⊢;!{O,h _ tk _ (λb o e=>D b o (j b o e).1 (j b o e).2 (qH _ (f _ _ (qH _ e)))) (qe _) r}
end
§cw(H:Hp):#V->#(KD×V×V)->¤
 |[],[]=>True
 |y::ys,e::es=>(∃b,y=.ref b/\H b=!(.tup [e.2.1,e.2.2])/\GK H e.1 e.2.1)/\cw H ys es
 |_,_=>False
section
variable {X:Cx}{pins:#(R0×Obj)}{σ:St}{H:Hp}{s:RX}
theorem I_(I:Inv X pins σ H s):∀{ys:#V} {us:#MD} {kvs:#(KD×V×V)},aK ys us->cw H ys kvs->∃ps,Paired (GP H) kvs ps/\ps.length=us.length/\∀(m:Nat) e,ps[m]?=!e->∃v,us[m]?=!v/\fE X.prog X.w s.heap v e
 |[],_,[],.nil,_=>{[],.nil,O,λm e z=>by &z}
 |[],_,_::_,.nil,h=>h.elim
 |_::_,_,[],.cons _ _,h=>h.elim
 |y::ys,_,e::es,.cons r t,h=>by
  @⟨b,rfl,k,g⟩,h2:=h;@ps,q,p2,x:=I_ I t h2;&r;@its,i,⟨o,A,j,n,f⟩,_:=I.tuple (aZ.of k);@l,d,rfl,c,u:=i.two;?{(e.1,l,d)::ps,.cons {O,g,c,u} q,by[zd,zd,p2],λm p a=>?_}
  cases m with
  |zero =>
   &a;!{_,O,b,O,{o,A,j,n,f},g.is I c}
  |succ m =>
   @v,h1,h2:=x m p (by ±a);!{v,by ±h1,h2}
theorem FU:∀{l:#(KD×V×V)} {m:#(KD×MD×MD)},Paired (GP H) l m->∀{a:#(KD×V×V)} {b:#(KD×MD×MD)},Paired (GP H) a b->Paired (GP H) (putAll a l) (putAll b m)
 |_,_,.nil,_,_,t=>t
 |_,_,.cons (a:=p) (b:=q) f t,a,b,t2=>by
  ¤Paired (GP H) (putAll (pG a p.1 p.2.1 p.2.2) _) (putAll (pG b q.1 q.2.1 q.2.2) _);[←f.1];!FU t (uX t2 f.2.1 f.2.2.1 f.2.2.2)
inductive Be(xs:#V)(H:Hp)(Q:VK):Prop
 |mk(p ys kvs:_)(_:xs=[.ref p])(_:aA H p ys)(_:cw H ys kvs)(_:ys.length<=2000)(_:∀q H',H q=£->af H H'->H' q=!(.dG (putAll [] kvs))->Q (.ref q) H')
§fR(F:X.A.handled=£)(E:X.A.units+4<cLine):cA X (.type "dict") (Be):=by
 ¢pins s σ H xs us Q I r h;@p,ys,kvs,rfl,N,hp,hz,q:=h;@u,rfl,K:=vals1 r;&K;@its,j,⟨o,n,e,k,l,t⟩,_:=I.list N;@J,y,data,sl:=o;dsimp only at k l t;subst k l t;@ps,i,p2,R:=I_ I j hp;#U:=j.length
 #T:2000<=sizeLine:=⋯
 ?QI F E e (by[zg];!p2) () (λm M c=>?_) λh' tk d x f g=>?_
 .@v,h1,h2:=R m M c
  !{v,by ±h1,h2}
 .@o',es,ep,D,B,G,C,_,L:=g
  #fr:H d=£:=I.aS.fresh f;#P:=NR kvs [];#S:=s_ i;?{.ref d,upd H d (.dG (putAll [] kvs)),I.laid x f {?_,?_,_,Paired.lh (FU i .nil) λa b z=>{z.1,z.2.1.cP λb xs w=>?_,z.2.2},o',es,ep,D,B,G,C,L},O,q d _ fr (af.new fr) aD}
  .[yt]at P
   ¥
  .!beq_eq_false_iff_ne.mpr (Ne.symm (qp (zf I.lB f)))
  .[ax (a0 w fr)]
   !w
end
section
variable {P:Program}{w:World}{A:Around}{E:KE}{s:RX}
§AH(f:(d==sysModules)=¿):MeetsIn P w (Builtin.«dict.__len__» {[.ref d],[]}) (λ_ R s=>∃xs,cz P w s.heap d xs/\R (.ok (.ret (.int xs.length s.toks))) { s with toks:=s.toks+1 }) :=
 .of_wp λA R s ⟨xs,g,h⟩=>by
  @o,es,ep,b,i,a,c,_,_:=g;¤wpAny (model P w) _ (dictSize d >>= _) _ _ s;¶dictSize;?qA (qA (wpAny_dictEntries b a (qE ?_)));?qA (wpAny_pendingCount_other f (wpAny_ret_mkInt ?_))
  #e:es.size=xs.length:=by[←zx,c,qj]
  [Nat.add_zero,e];!h
§Ek(a:(d==sysModules)=¿)(g:cz P w s.heap d xs)(hz:xs.length<=sizeLine)(h:Q (.int xs.length (s.toks+1)) { s with toks:=s.toks+1+1 }):wpAny (model P w) A (call (.builtin "len") [.ref d]) Q E s:=by
 ?Calls.call_function_entry kind_len plain_len entry_len (args_len1 _) ?_;unfold Builtin.«len»;?qA (m:=oneArg "len" _) (qE (qA (m:=callSpecial? (.ref d) (Str.ofString "__len__")) (wpAny_callSpecial?_slot (name:=Str.ofString "__len__") g.typeIs F.slot_dict_len (call_meetsIn F.slot_dict_len g.typeIs F.entry_dict_len (F.args_dict_len_1 _) (AH a) {xs,g,?_}))));¤wpAny (model P w) _ _ _ _ { s with toks:=s.toks+1 };?qA (qK (qE (qA (wpAny_letGo ?_))));[sizeLine_eq]at hz;¤wpAny (model P w) _ (if((xs.length:Nat):Int)<0 then _ else _) _ _ _;[qB ()];¤wpAny (model P w) _ (if((xs.length:Nat):Int)>=2 ^ 63 then _ else _) _ _ _;[qB ()];!qA (wpAny_mkInt (qE {_,O,h}))
§L_{d:R0}{v b:MD}(f:(d==sysModules)=¿):MeetsIn P w (Builtin.«dict.get» {[.ref d,v,b],[]}) (λA R s=>A.in1.units+1<cLine/\∃k xs,dU P w s.heap k v/\cz P w s.heap d xs/\R (.ok (.ret ((vG xs k).getD b))) { s with toks:=s.toks+bX P w k }) :=
 .of_wp λA R s ⟨c,k,xs,a,g,h⟩=>by
  ¤wpAny (model P w) _ (dictGet d v >>= _) _ _ s;?qA (DO c a g ?_)
  cases e:vG xs k with
  |some u=>rw[e]at h;!qE {u,O,h}
  |none =>
   [e]at h;¤wpAny (model P w) _ (Builtin.Dict.missed d v >>= _) _ _ _;!qA (wpAny_missed_other f (qE {b,O,h}))
§OQ{v val:MD}(n:A.units+1<cLine)(a:dU P w s.heap k v)(g:cz P w s.heap d xs)(hsz:xs.length<=sizeLine)(h1:∀u,vG xs k=!u->Q u { s with toks:=s.toks+bX P w k })(h2:vG xs k=£->∀h',cz P w h' d (pG xs k v val)->Heap.SameBut d s.heap h'->Q val { s with heap:=h',toks:=s.toks+bX P w k }):wpAny (model P w) A (dictSetDefault d v val) Q E s:=by
 @o,es,ep,c,m,h,l,f,hn:=g
 #sz:es.size=xs.length:=by[←zx,l,qj]
 ¶dictSetDefault
 try with_reducible ?qK ?_
 ?qA (a.hash n (qA (C' (s:={ s with toks:=s.toks+bX P w k }) n a c h l f hn ?_)))
 cases e:fH xs k with
 |none =>
  have i:=lU (CS e);?qA (wpAny_rule (qA (wpAny_updateDictKeys (hz:=by ¥) (s:={ s with toks:=s.toks+bX P w k }) c h (qE (h2 i _ {_,_,ep+1,Heap.get?_update_self _ c (Obj.isFreed_of_dict (Obj.data_mapDictKeys h _)),m.mapDictKeys _,Obj.data_mapDictKeys h _,?_,λx b=>?_,Df hn} (Heap.SameBut.update ..))))))
  .¶pG
   [i,qB ⋯]
   simp[l,dS]
  .unfold pG at b
   [i,qB ⋯]at b;@b|b:=zh.mp b
   .!ux (es:=es) (ep:=ep) c m (Heap.SameBut.update ..) (f x b)
   .[qx.mp b]
    !ux (es:=es) (ep:=ep) c m (Heap.SameBut.update ..) a
 |some j =>
  @x,b,ex:=Ag e;have i:=pE hn b ex;?qA (wpAny_dictEntries (s:={ s with toks:=s.toks+bX P w k }) c h ?_);[←ym,l,qu,b];!qA (wpAny_rule (qE (h1 _ i)))
§PH(h:(d==sysModules)=¿):MeetsIn P w (Builtin.«dict.setdefault» {[.ref d,v,b],[]}) (λA R s=>A.in1.units+1<cLine/\∃k xs,dU P w s.heap k v/\cz P w s.heap d xs/\xs.length<=sizeLine ∧
      (∀u,vG xs k=!u->R (.ok (.ret u)) { s with toks:=s.toks+bX P w k })/\(vG xs k=£->∀h',cz P w h' d (pG xs k v b)->Heap.SameBut d s.heap h'->R (.ok (.ret b)) { s with heap:=h',toks:=s.toks+bX P w k })) :=
 .of_wp λA R s ⟨f,k,xs,a,g,hz,h1,h2⟩=>by
  unfold Builtin.«dict.setdefault»;?qA ?_;¶Builtin.Dict.keyAndDefault;?qA (wpAny_notOrdered_dict g.typeIs (qE ?_));¤wpAny (model P w) _ (if(d==sysModules)=¶ then _ else(dictSetDefault d v b >>= _)) _ _ s;[qB (by[h];decide)];!qA (OQ f a g hz (λu e=>qE {u,O,h1 u e}) λe h' g' c=>qE {b,O,h2 e h' g' c})
end
§OG(h:eV a b)(r:RelV x u):RelV (a.getD x) (b.getD u):=by
 &a <;> &b <;> first|!h|!r|!h.elim
section
variable {X:Cx}
inductive mQ(xs:#V)(H:Hp)(Q:VK):Prop
 |mk(a kvs:_)(_:xs=[V.ref a])(_:H a=!(.dG kvs))(_:Q (.int kvs.length) H)
§GF:cA X (.builtin "len") mQ:=by
 ¢pins s σ H xs us Q I r h;@a,kvs,rfl,f,q:=h;@u,rfl,c:=vals1 r;&c;@z,g,ys,b,d:=eu I (.inl f);#e:=s_ b;?Ek g d () {.int kvs.length,H,I.tok _,{_,by[e]},q}
inductive K_(x:V)(vs:#V)(H:Hp)(Q:VK):Prop
 |mk(a kvs k y d:_)(_:x=.ref a)(_:vs=[y,d])(_:H a=!(.dG kvs))(_:GK H k y)(_:Q ((vG kvs k).getD d) H)
inductive wV(x:V)(vs:#V)(H:Hp)(Q:VK):Prop
 |mk(a kvs k y d:_)(_:x=.ref a)(_:vs=[y,d])(_:H a=!(.dG kvs))(_:GK H k y)(_:kvs.length<sizeLine)(_:(∀u,vG kvs k=!u->Q u H))(_:(vG kvs k=£->Q d (upd H a (.dG (pG kvs k y d)))))
§iC(l:X.A.units+2<cLine):wN X "dict.get" K_:=by
 ¢pins s σ H x xs v us Q I j f h;@a,kvs,k,y,d,rfl,rfl,m,g,q:=h;@u,o,rfl,i,c:=f.two;&j;@z,n,ys,b,e:=eu I (.inl m);!call_meetsIn F.slot_dict_get e.typeIs F.entry_dict_get (F.args_dict_get_3 _ _ _) (L_ n) {l,k,ys,g.is I i,e,{_,H,I.tok _,OG (pY b) c,q}}
§Kp(L:X.A.units+2<cLine):wN X "dict.setdefault" wV:=by
 ¢pins s σ H x xs v us Q I M J h;@a,kvs,k,y,d,rfl,rfl,l,g,R,E,G:=h;@u,P,rfl,w,i:=J.two;&M;@z,t,ys,f,o:=eu I (.inl l);#c:=pY (k:=k) f;?call_meetsIn F.slot_dict_setdefault o.typeIs F.entry_dict_setdefault (F.args_dict_setdefault_3 _ _ _) (PH t) {L,k,ys,g.is I w,o,by[←s_ f];!z,λO j=>?_,λj h' n m=>?_}
 .[j]at c
  cases e:vG kvs k with
  |none=>rw[e]at c;!c.elim
  |some v=>rw[e]at c;!{v,H,I.tok _,c,E v e}
 .[j]at c
  cases e:vG kvs k with
  |some v=>rw[e]at c;!c.elim
  |none =>
   @q,es,ep,C,h2,D,N,_,K:=n;#r:=iK kvs k y d;?{d,upd H a (.dG (pG kvs k y d)),pU I (by[l];!True.intro) m {q,C} {(),t,_,Paired.lh (uX f g w i) λp q z=>{z.1,z.2.1.cP λb xs B=>?_,z.2.2},q,es,ep,C,h2,D,N,K},i,G e};[ax (nY B l °)];!B
end
§p5{A:Around}(a:bG k A):A.units+4<cLine:=by #:=a.units;¥
§cO{A:Around}(a:bG k A):A.units+2<cLine:=by #:=a.units;¥
section
variable {P:Program}{w:World}{fs:#R0}{H H1:Hp}{h h1 h2:Heap}
§Un.later(u:Un fs [] H H1 h h1)(k:∀b o,b<h.objs.size->h1.get? b=!o->h2.get? b=!o):Un fs [] H H1 h h2 where
 keep:=λb o q n c a=>k b o (qG q) (u.keep b o q n c a)
 slot:=λb o q n c a=>let⟨sl,e⟩:=u.slot b o q n c a;{sl,k b _ (qG q) e}
 free:=u.free
 there:=λb o q a=>let⟨o',e⟩:=u.there b o q a;{o',k b o' (qG q) e}
 ab:=u.ab
 dP:=u.dP
 dR:=u.dR
 dM:=λb o xs q n=>k b o (qG q) (u.dM b o xs q n)
§dm.other(x:dm P w H h)(k:∀b u,b≠a->h.get? b=!u->h2.get? b=!u)(hn:H a=£):dm P w H h2:=λb o e=>by
 #ne:∀{c u},H c=!u->c≠a:=λq z=>by[z,hn]at q;&q
 ?(x b o e).cP (λc u d q=>k c u ?_ q) (λ_ q=>q) λ_ _ q=>q;@rfl|d:=d
 .!ne e
 .!ne d
§dm.adopt(x:dm P w H h)(hn:H a=£)(new:aV P w (upd H a o) h a o):dm P w (upd H a o) h:=λb u e=>by
 ¿d:b=a
 .£d;[aD]at e;&e;!new
 .[ax d]at e
  ?(x b u e).cP (λ_ _ _ q=>q) (λc q=>?_) λc xs q=>?_
  .[ax (λz=>by[z,hn]at q;&q)];!q
  .[ax (λz=>by[z,hn]at q;&q)];!q
§Un.adopt{a:R0}{o:HO}(u:Un fs [] H H1 h h1)(d:h.objs.size<=a)(hn:H1 a=£):Un fs [] H (upd H1 a o) h h1 where
 keep:=u.keep
 slot:=u.slot
 free:=λb ob q n c=>by
  [ax (qp (zf (qG q) d))];!u.free b ob q n c
 there:=u.there
 ab:=λb xs q=>by
  #:=u.ab b xs q;[ax (λz=>by[z,hn]at this;&this)];!this
 dP:=λb ob v q=>by
  #:=u.dP b ob v q;[ax (λz=>by[z,hn]at this;&this)];!this
 dR:=λb ps q=>by
  @m,this:=u.dR b ps q;!{m,by[ax (λz=>by[z,hn]at this;&this)];!this}
 dM:=u.dM
end
§oK(n:Nat)(ds:#RY):Prop:=n<=2000/\(n<64\/ds.Pairwise λa b=>bT a b=¶)
§oK.cI(h:oK n ds)(b:ds.length=n)(W:Srt.eQ (oC ds)):LN (oC ds) n:=by
 @h|h:=h.2
 .!.inl h
 .?.inr λi j a c=>?_
  ¿e:i=j
  .£e;!W.kB _
  .?W.le_of_lt ?_
   #:=jv.mp h i j () () ();unfold oC c9;[zm,zm,qh (),qh ()];!this
inductive gQ(sp:Sp)(xs:#V)(H:Hp)(Q:VK):Prop
 |mk(p ys ds t:_)(_:xs=[.ref p])(_:aA H p ys)(_:ds.length=ys.length)(_:KeysAre ds t)(_:oK ys.length ds)(_:(∀(m:Nat) y d H' (Q':VK),ys[m]?=!y->ds[m]?=!d->af H H'->(∀H'' kv,af H' H''->DV H'' kv d->Q' kv H'')->sp [y] H' Q' E0))(_:∀q H' ix,H q=£->af H H'->df ds ix->H' q=!(.lst (ix.map λi=>ys.getD i .aR))->Q (.ref q) H')
section
variable {X:Cx}{pins:#(R0×Obj)}{σ:St}{H:Hp}{s:RX}{k:Nat}{fa:R0}{fd:FuncData}{ps:#R9}{sp:Sp}
structure LS(X:Cx)(H:Hp)(s:RX)(a kS:R0)(e1:Nat)(Hm:Hp)(s':RX)(ks:#MD)(kvs:#V)(ds:#RY):Prop where
 un:Un (d9 X.stack) [] H Hm s.heap s'.heap
 aS:dm X.prog X.w Hm s'.heap
 os:s'.os=s.os
 bare:AllBare s'.gens
 same:af H Hm
 FA:Hm a=£
 fk:Hm kS=£
 ga:s'.heap.get? a=!(seqObj "list" #[] e1)
 gk:∃e,s'.heap.get? kS=!(seqObj "list" ks.toArray e)
 vals:aK kvs ks
 dv:dO Hm kvs ds
theorem Gx(h:DV H x d):∀{xs:#V} {ds:#RY},dO H xs ds->dO H (xs++[x]) (ds++[d])
 |_,_,.nil=>.cons h .nil
 |_,_,.cons a t=>.cons a (Gx h t)
theorem Ha{A':Around}{a k:R0}{e1:Nat}{E:KE}{R:RX->¤}(j:∀(s':RX) (c:Hp) (x:MD) (y:V) (Q:VK),f6 X.prog X.w X.K X.mg X.base A' X.stack s' c->Un (d9 X.stack) [] H c s.heap s'.heap->af H c->RelV y x->sp [y] c Q E0->codeAny (model X.prog X.w) A' (.call (.ref fa) {[x],[]}) (CR iH X.stack X.prog X.w c s' Q E0) s')(S:A'.frames=X.A.frames)(I:Inv X pins σ H s)(ha:↑s<=a)(hk:↑s<=k)(M:a≠k)(N:a∉d9 X.stack)(O:k∉d9 X.stack){p:MD->PUnit->Sem (ForInStep PUnit)}(i:∀x (s':RX) (R':ForInStep PUnit->RX->¤),wpAny (model X.prog X.w) A' (call (.ref fa) [x]) (λD s2=>wpAny (model X.prog X.w) A' (Builtin.List.listUpdate (.ref k) (·.push D)) (λ_ s3=>R' (.yield ⟨⟩) s3) E s2) (λ_ _=>False) s'->wpAny (model X.prog X.w) A' (p x ⟨⟩) R' E s') :
  ∀(r:#MD) (J:#V) (G:#RY) (ks:#MD) (kvs:#V) (F:#RY) (c:Hp) (s':RX),aK J r->G.length=J.length->
   (∀(m:Nat) y d H' (Y:VK),J[m]?=!y->G[m]?=!d->af H H'->(∀B D,af H' B->DV B D d->Y D B)->sp [y] H' Y E0)->
   ks.length+r.length<=2000->LS X H s a k e1 c s' ks kvs F->
   (∀Hn f n h,LS X H s a k e1 Hn f n h (F++G)->n.length=ks.length+r.length->R f)->wpAny (model X.prog X.w) A' (forIn r PUnit.unit p) (λ_ f=>R f) E s'
 |[],J,G,ks,kvs,F,c,s',rv,hl,hsp,hz,st,fin=>by
  &rv;[yt]at hl;[yx.mp hl]at fin;[List.forIn_nil];?qE (fin c s' ks kvs ?_ rfl);[wx];!st
 |x::r,_,[],ks,kvs,F,c,s',.cons _ _,hl,hsp,hz,st,fin=>absurd hl (by simp)
 |x::r,_,d::G,ks,kvs,F,c,s',.cons (a:=y) (l₁:=J) r1 rv,hl,hsp,hz,st,fin=>by
  [kz];#I':Inv X pins σ c s':=I.hH st.os st.un st.aS st.bare (λb z=>absurd z (by simp));#q:=I'.CG;@ek,gk:=st.gk;?qA (i x s' _ ?_);?wpAny_call (codeAny_mono (j s' c x y (λD H2=>af c H2/\DV H2 D d) {S.trans q.frames,q.mod,q.bs,q.uL,q.eh,q.vI,q.aS,q.bare} st.un st.same r1 (hsp 0 y d c _ rfl rfl st.same λH2 D a1 a2=>{a1,a2})) λres s2 W=>?_)
  cases res with
  |error e=>!W.elim
  |ok fl =>
   cases fl with
   |next=>!W.elim
   |brk=>!W.elim
   |cont=>!W.elim
   |ret u =>
    @v,H2,os2,C,g,L,rel,l,dv2:=W;#P:=g.keep k _ gk st.fk O (by simp);#ga2:=g.keep a _ st.ga st.FA N (by simp);#T:=g.free k _ gk st.fk (by simp);#fa2:=g.free a _ st.ga st.FA (by simp);#hz':ks.length+(r.length+1)<=2000:=hz;#z64:2000<=sizeLine:=ww (kA ⋯);?listUpdate_at P rfl ?_ (by[zg];¥) (by[Array.size_push,zg];¥)
    obtain⟨c2,g2⟩:∃c2,(s2.heap.update k (Obj.mapSeq (·.push u))).get? k=!(seqObj "list" ((ks++[u]).toArray) c2):=by
     #ea:ks.toArray.push u=(ks++[u]).toArray:=by simp
     !{_,by[←ea];!get?_update_seq P (·.push u)}
    #sb:=Heap.SameBut.update s2.heap k (Obj.mapSeq (·.push u));?Ha j S I ha hk M N O i r J G (ks++[u]) (kvs++[v]) (F++[d]) H2 _ rv (by ±hl) (λm y' d' H' Y h1 h2 h3 h4=>hsp (m+1) y' d' H' Y (by ±h1) (by ±h2) h3 h4) (by[List.length_append,List.length_singleton];¥) {?_,?_,os2.trans st.os,C,st.same.trans l,fa2,T,(sb.2 a M).trans ga2,{c2,g2},?_,?_} λHn f n h U Z=>fin Hn f n h ?_ ?_
    .!(st.un.trans g).later λb o t e=>(sb.2 b (qp (zf t hk))).trans e
    .!L.other (λb u' t e=>(sb.2 b t).trans e) T
    .!st.vals.append (.cons rel .nil)
    .!Gx dv2 (st.dv.same l)
    .[yk]at U
     !U
    .[Z,qi,qt,zd]
     ¥
§Of{A':Around}{a c:R0}{q:Nat}{E:KE}{P:PySem.Fin->RX->¤}{r:Hp}{s':RX}{ks:#MD}{kvs:#V}{ds:#RY}{st:SortSt}{out:#MD}{n:#V}(x:↑s<=c)(p:↑s<=a)(j:a≠c)(S:LS X H s a c q r s' ks kvs ds)(hz:ks.length<=2000)(B:out.length<=2000)(h:(arrOf st).map (·.2)=out.toArray)(y:failedOf st=£)(i:aK n out)(k:∀s2 H2,Un (d9 X.stack) [] H H2 s.heap s2.heap->dm X.prog X.w H2 s2.heap->s2.os=s.os->AllBare s2.gens->af H H2->H2 a=!(.lst n)->P (.done (.ret .none)) s2):wpAny (model X.prog X.w) A' (ksk_tail a false q (.ref c) st) P E s':=by
 @A,z:=S.gk;#v:2000<=sizeLine:=ww (kA ⋯);¶ksk_tail
 try dsimp only
 rw[h];#m:=Heap.SameBut.update s'.heap c (Obj.mapSeq λ_=>(#[]:Array MD));#d:=(m.2 a j).trans S.ga;?qA (listUpdate_at z rfl (qA (wpAny_letGo (qA (seqEpoch_at d rfl (qA (listUpdate_at d rfl ?_ (qv _) (by ¤out.toArray.size<=_;[zg];¥))))))) (by[zg];¥) (qv _));[y]
 simp only[bne_self_eq_false,Bool.false_eq_true,if_false]
 #g:=Heap.SameBut.update (s'.heap.update c (Obj.mapSeq λ_=>(#[]:Array MD))) a (Obj.mapSeq λ_=>out.toArray);obtain⟨l,t⟩:∃l,((s'.heap.update c (Obj.mapSeq λ_=>(#[]:Array MD))).update a (Obj.mapSeq λ_=>out.toArray)).get? a=!(seqObj "list" out.toArray l):={_,get?_update_seq d λ_=>out.toArray};?qE (k _ (upd r a (.lst n)) ?_ ?_ S.os S.bare (S.same.trans (af.new S.FA)) aD)
 .?(S.un.later λb o f e=>?_).adopt p S.FA
  #h1:b≠c:=qp (zf f x);#h2:b≠a:=qp (zf f p);!(g.2 b h2).trans ((m.2 b h1).trans e)
 .?dm.adopt ((S.aS.other (λb u f e=>(m.2 b f).trans e) S.fk).other (λb u f e=>(g.2 b f).trans e) S.FA) S.FA {?_,out,l,i,t}
  [i.length];¥
§OH{Q:VK}{vs:#MD}{ys:#V}{ds:#RY}{t:Nat}{h1:Heap}{a:Nat}(p:∀(s':RX) (M:Hp) (x:MD) (y:V) (Q:VK),f6 X.prog X.w X.K X.mg X.base X.A.in1.in1 X.stack s' M->Un (d9 X.stack) [] H M s.heap s'.heap->af H M->RelV y x->sp [y] M Q E0->codeAny (model X.prog X.w) X.A.in1.in1 (.call (.ref fa) {[x],[]}) (CR iH X.stack X.prog X.w M s' Q E0) s')(hu:X.A.units+3+61<cLine)(I:Inv X pins σ H s)(Y:aK ys vs)(l:ds.length=ys.length)(hk:KeysAre ds t)(L:oK ys.length ds)(P:∀(m:Nat) y d H' (Q':VK),ys[m]?=!y->ds[m]?=!d->af H H'->(∀u kv,af H' u->DV u kv d->Q' kv u)->sp [y] H' Q' E0)(q:∀q H' ix,H q=£->af H H'->df ds ix->H' q=!(.lst (ix.map λi=>ys.getD i .aR))->Q (.ref q) H')(x1:f9 s.heap h1)(C:h1.get? a=!(seqObj "list" vs.toArray 0))(B:↑s<=a) :
  wpAny (model X.prog X.w) X.A.in1 (holding [Value.ref a] (call (.builtin "list.sort") [.ref a] [(Str.ofString "key",.ref fa)]) >>= λ_=>ret (.ref a)) (λc s'=>∃v,c=.done (.ret v)/\EP X pins σ Q v s') X.xe { s with heap:=h1 }:=by
 #h64:=L.1;#hl:=Y.length
 #hz:ys.length<=sizeLine:=by[sizeLine_eq];¥
 #zl:vs.length<=sizeLine:=()
 ?qA (qK (wpAny_call_entry_kw slot_list_sort {_,C,O} entry_list_sort ?_ (ksk_l1 _ _)));¤wpAny (model X.prog X.w) X.A.in1.in1 (Builtin.«list.sort» {[.ref a],[(Str.ofString "key",.ref fa)]}) _ _ _;[ksk_t1];¶ksk_tree;obtain⟨j,o2⟩:∃j,(h1.update a (Obj.mapSeq λ_=>(#[]:Array MD))).get? a=!(seqObj "list" #[] j):={_,get?_update_seq C λ_=>#[]};#x2:f9 s.heap (h1.update a (Obj.mapSeq λ_=>(#[]:Array MD))):=x1.upd B;?qA (listItems_at C rfl (qA (listUpdate_at C rfl (qA (seqEpoch_at o2 rfl (qA (wpAny_newTuple (qA (wpAny_newList (qK ?_) (qv _))) zl)))) (by[zg];!zl) (qv _))))
 #f:↑s<=((h1.update a (Obj.mapSeq λ_=>(#[]:Array MD))).push (seqObj "tuple" vs.toArray 0)).objs.size:=by
  [size_push',Heap.size_update];#:a<h1.objs.size:=qG C;¥
 #n:a≠((h1.update a (Obj.mapSeq λ_=>(#[]:Array MD))).push (seqObj "tuple" vs.toArray 0)).objs.size:=by
  [size_push',Heap.size_update];#:a<h1.objs.size:=qG C;¥
 #o3:(((h1.update a (Obj.mapSeq λ_=>(#[]:Array MD))).push (seqObj "tuple" vs.toArray 0)).push (seqObj "list" #[] 0)).get? a=!(seqObj "list" #[] j):=qH _ (qH _ o2);#o:(((h1.update a (Obj.mapSeq λ_=>(#[]:Array MD))).push (seqObj "tuple" vs.toArray 0)).push (seqObj "list" #[] 0)).get? ((h1.update a (Obj.mapSeq λ_=>(#[]:Array MD))).push (seqObj "tuple" vs.toArray 0)).objs.size=!(seqObj "list" #[] 0):=qL _ rfl;#x3:f9 s.heap (((h1.update a (Obj.mapSeq λ_=>(#[]:Array MD))).push (seqObj "tuple" vs.toArray 0)).push (seqObj "list" #[] 0)):=(x2.trans (.push _ _)).trans (.push _ _);¤wpAny (model X.prog X.w) X.A.in1.in1 (ksk_rest a (.ref fa) false vs.toArray j (.ref ((h1.update a (Obj.mapSeq λ_=>(#[]:Array MD))).push (seqObj "tuple" vs.toArray 0)).objs.size)) _ _ { s with heap:=((h1.update a (Obj.mapSeq λ_=>(#[]:Array MD))).push (seqObj "tuple" vs.toArray 0)).push (seqObj "list" #[] 0) };generalize ((h1.update a (Obj.mapSeq λ_=>(#[]:Array MD))).push (seqObj "tuple" vs.toArray 0)).objs.size=kS at f n o ⊢;generalize ((h1.update a (Obj.mapSeq λ_=>(#[]:Array MD))).push (seqObj "tuple" vs.toArray 0)).push (seqObj "list" #[] 0)=N at o3 o x3 ⊢
 #F:∀b,↑s<=b->b∉d9 X.stack:=λb D hm=>by
  @z|z:=q0.mp (I.gR b hm)
  .!absurd (zf I.lt D) (by[z];!wu _)
  .!I.vF D z
 #S0:LS X H s a kS j H { s with heap:=N } [] [] []:={Un.kept x3,I.aS.kept x3,O,I.bare,af.refl H,I.aS.fresh B,I.aS.fresh f,o3,{0,o},.nil,.nil};¶ksk_rest;?qA (wpAny_rule ?_)
 first
  |rw[List.forIn_toArray]
  |(rw[←Array.forIn_toList];simp only[List.toList_toArray])
 ?qA (Ha (R:=λg=>wpAny (model X.prog X.w) X.A.in1.in1 (do let keys ←Builtin.List.listItems (.ref kS);ksk_end a false vs.toArray j (.ref kS) keys) _ _ g) p rfl I B f n (F a B) (F kS f) (λx s' R' hx=>?_) vs ys ds [] [] [] H _ Y l P (by[yt];¥) S0 λHn g ks kvs S h=>?_)
 .?qA (wpAny_attempt (qM hx (λkv s2 h2=>?_) λ_ _ z=>z.elim))
  !qA (qM h2 (λ_ s3 N=>qE N) λ_ _ z=>z)
 .[wz]at S
  [yt,ja]at h;@ek,gk:=S.gk
  #T:ks.length=ds.length:=by[h,l,hl]
  #I':Inv X pins σ Hn g:=I.hH S.os S.un S.aS S.bare (λb z=>absurd z (by simp));@as,ra:=S.dv.reads I' S.vals;#W:=JH hk.one;?qA (listItems_at gk rfl ?_)
  #c:∀(e:Array Nat),Arr vs.length (oC ds) e->∀st:SortSt,(arrOf st).map (·.2)=List.toArray (e.toList.map λi=>vs.getD i Value.none)->failedOf st=£->wpAny (model X.prog X.w) X.A.in1.in1 (ksk_tail a false j (.ref kS) st) (λc s'=>∃v,c=PySem.Fin.done (.ret v)/\wpAny (model X.prog X.w) X.A.in1 (ret (Value.ref a)) (λc s'=>∃v,c=.done (.ret v)/\EP X pins σ Q v s') X.xe s') X.xe g:=λe G st ho Z=>by
   #hix:∀i∈e.toList,i<ys.length:=λi hi=>by
    #:=(G.1.toList.mem_iff).mp hi
    simp at this
    ¥
   #U:e.size=vs.length:=by[G.1.size_eq];simp
   ?Of f B n S () (by[qj,zx,U];¥) ho Z (G_ Y _ hix) λs2 H2 un aS os J same e2=>?_;?{_,O,qE {_,O,.ref a,H2,I.hH os un aS J (λb z=>absurd z (by simp)),O,q a H2 e.toList (I.aS.fresh B) same (LA (by[←T,h];!G)) e2}}
  ¶ksk_end
  try dsimp only
  rw[qB ⋯]
  ¿h2:vs.toArray.size<2
  .[qF h2,qF h2]
   #r:vs.length<2:=by ±h2
   ?qA (qE ?_);[StateT.run_pure];?qA (qE ?_);?c _ (G0 W r) _ ?_ rfl;¤((ks.toArray.zip vs.toArray).map (·.2))=_;apply mh.mp;[Array.toList_map,Array.toList_zip];#j:List.map (·.2) (ks.zip vs)=vs:=List.map_snd_zip ()
   #e2:(List.toArray (List.range vs.length)).toList.map (λi=>vs.getD i Value.none)=vs:=by
    apply yc;¢i
    ¿hi:i<vs.length
    .simp[hi]
    .simp[hi]
   ¤List.map (·.2) (ks.zip vs)=(List.toArray (List.range vs.length)).toList.map (λi=>vs.getD i Value.none);[j,e2]
  .[qB h2,qB h2]
   #r:¬vs.length<2:=by ±h2
   @κ,hkk,hqq:=GA (prog:=X.prog) (w:=X.w) (A:=X.A.in1.in1) ra hk () (by ¤X.A.units+1+1+60<cLine;¥);?qA (qM (hkk (λk s'=>k=κ/\s'=g) {O,O}) ?_ λ_ _ z=>z.elim);rintro k' s' ⟨rfl,rfl⟩;[qB ⋯];?qA (qM (IG (E:=X.xe) (R:=λst s3=>s3=s'/\∃e,Arr vs.length (oC ds) e/\(arrOf st).map (·.2)=List.toArray (e.toList.map λi=>vs.getD i Value.none)/\failedOf st=£) W h (by #:=L.cI l W;[hl]at this;!this) r hqq λst e a1 a2 a3=>{O,e,a1,a2,a3}) ?_ λ_ _ z=>z);rintro⟨⟨⟩,st⟩ s3 ⟨rfl,e,G,eo,Z⟩;!c e G st eo Z
§F1{Q:VK}{us:#MD}{xs:#V}(b:∀(s':RX) (d:Hp) (x:MD) (y:V) (Q:VK),f6 X.prog X.w X.K X.mg X.base X.A.in1.in1 X.stack s' d->Un (d9 X.stack) [] H d s.heap s'.heap->af H d->RelV y x->sp [y] d Q E0->codeAny (model X.prog X.w) X.A.in1.in1 (.call (.ref fa) {[x],[]}) (CR iH X.stack X.prog X.w d s' Q E0) s')(l:X.A.units+3+61<cLine)(I:Inv X pins σ H s)(r:aK xs us)(n:gQ sp xs H Q) :
  wpAny (model X.prog X.w) X.A (call (.builtin "sorted") us [(Str.ofString "key",.ref fa)]) (EP X pins σ Q) X.xe s:=by
 @p,ys,ds,t,rfl,B,e,o,c,f,q:=n;#C:=c.1;@u,rfl,z:=vals1 r;&z;@vs,i,v,hz:=I.list B;#D:=i.length
 #k:vs.length<=sizeLine:=()
 ?call_function_entry_kw kind_sorted plain_sorted entry_sorted (ksk_s1 _ _) ?_;unfold Builtin.«sorted»;?qA (m:=checkCount "sorted" 1 1 _) (qE (qA (collect_list v.isList (qA (wpAny_newList ?_ k)) k)));#hsz:((s.heap.push (seqObj "list" #[] 0)).update ↑s (Obj.mapSeq (·++vs.toArray))).objs.size=↑s+1:=(Heap.size_update _ _ _).trans (size_push' _ _);#j:f9 s.heap (((s.heap.push (seqObj "list" #[] 0)).update ↑s (Obj.mapSeq (·++vs.toArray))).push (seqObj "list" vs.toArray 0)):=((f9.push _ _).upd (qe _)).trans (.push _ _);#g:(((s.heap.push (seqObj "list" #[] 0)).update ↑s (Obj.mapSeq (·++vs.toArray))).push (seqObj "list" vs.toArray 0)).get? (↑s+1)=!(seqObj "list" vs.toArray 0):=hsz▸qL _ rfl;¤wpAny (model X.prog X.w) _ _ _ _ { s with heap:=((s.heap.push (seqObj "list" #[] 0)).update ↑s (Obj.mapSeq (·++vs.toArray))).push (seqObj "list" vs.toArray 0) };[hsz];generalize ((s.heap.push (seqObj "list" #[] 0)).update ↑s (Obj.mapSeq (·++vs.toArray))).push (seqObj "list" vs.toArray 0)=h1 at j g ⊢;#h:↑s<=↑s+1:=jt _;generalize ↑s+1=a at h g ⊢;!OH b l I i e o c f q j g h
§QF{Q:VK}{us:#MD}{xs:#V}(F:gB X.prog X.w X.K X.mg X.base iH k fa fd ps sp)(g:bG k X.A.in1.in1)(f:Binds X.K fd ps [])(d:ps.length=1)(i:X.A.units+3+61<cLine)(I:Inv X pins σ H s)(h:aK xs us)(j:gQ sp xs H Q) :
  wpAny (model X.prog X.w) X.A (call (.builtin "sorted") us [(Str.ofString "key",.ref fa)]) (EP X pins σ Q) X.xe s :=
 F1 (λs' l x y Q a _ _ m c=>F.run X.A.in1.in1 X.stack s' l {[x],[]} [x] [y] Q E0 g a (by
  #:=f s' [x] (a.mod.LY.keeps λb o e=>(a.bs b o e).1) (by[d];rfl)
  ±this) (.cons m .nil) c) i I h j
§bG.Mo{A:Around}(r:bG (k+1) A):bG k A.in1.in1 :=
 {r.hd,by #:=r.dp;¤A.depth+3 * k+5<_;¥,by #:=r.un;¤A.units+1+1+16 * k+200<_;¥,r.gd}
§Pf{p m kp pos:Pos}(F:gB X.prog X.w X.K X.mg X.base iH k fa fd ps sp)(i:bG (k+1) X.A)(r:Gl X x)(o:X.mg x=£)(v:bootBuiltins x=!(.builtin "sorted"))(c:Gl X y)(a:X.mg y=!(.ref fa))(l:Binds X.K fd ps [])(d:ps.length=1)(u:PA X [e] t)(hn:x≠"__name__":=by decide)(b:(x==("__debug__":R9))=¿:=by decide)(f:(y==("__debug__":R9))=¿:=by decide)(j:starEach [e] X.env=(false,eval e X.env)::starEach [] X.env:=by rfl):PE X (.Call (.Name x p) [e] [{!"key",.Name y m,kp}] pos) (Fy (gQ sp) t):=by
 ?{?_};¢pins s σ H Q I h;?wpAny_Call_Name_kw (iO I r o v ?_ hn b);?callWith_kw (bK (u pos pins s σ H _ I h) λus z ⟨vs,H1,g,q,n⟩=>kws_cons (Dp g c a (kws_nil ?_) f)) (by[j];rfl) (by[j];rfl);!QF F i.Mo l d (by #:=i.un;¥) g q n
end
§M5{js:#Nat}{ix:#Nat}(h:ix.Perm (List.range js.length)):(ix.map λi=>js.getD i 0).Perm js:=by
 #:=h.map λi=>js.getD i 0;?this.trans (.of_eq ?_);apply yc;¢i;[qu]
 ¿hi:i<js.length
 .[yq hi,qh hi]
  ¤some (js.getD i 0)=_;[zm,qh hi];rfl
 .[List.getElem?_eq_none (by ±hi),List.getElem?_eq_none ()];rfl
§pw{α:Type}(xs:List α)(x:α):l8 (xs++[x]) (-1)=!x:=by
 ¶l8
 #e:uA (xs++[x]).length (-1)=!xs.length:=by
  ¶uA;[qi,qt,qB (),qF ()]
  congr 1
  ¥
 [e]
 simp
§OM(h:∀d∈ds,gG d=¶):PyData.eqv (.list ds) (.list ds)=¶:=(xG _ _ (by[gG];!pQ h) (by[gG];!pQ h)).mpr rfl
theorem h9:∀{ds:#RY} {k:Nat},(∀d∈ds,d.depth<=k)->PyData.depthAll ds<=k
 |[],_,_=>qv _
 |d::ds,k,h=>by
  #a:=h d qm;#b:=h9 (ds:=ds) λx c=>h x (qy _ c);¤max d.depth (PyData.depthAll ds)<=k;¥
section
variable {X:Cx}{K:PySem.W.Frag}
inductive GX(x:V)(lo:Option Int)(hi:Option Int)(H:Hp)(Q:VK):Prop
 |mk(a xs:_)(_:x=.ref a)(_:aZ H a xs)(_:¬(HT.bZ xs.length 0 lo=0/\HT.bZ xs.length xs.length hi=xs.length))(_:∀p H',H p=£->af H H'->H' p=!(.tup (dY xs lo hi))->Q (.ref p) H')
§GJ:xF X (GX):=Cj.imp λ_ _ _ _ _ ⟨a,xs,h1,h2,b,q⟩=>{a,xs,h1,h2,b,λp hp=>q p _ hp (af.new hp) aD}
end
theorem dZ:∀{ds:#RY},(∀d∈ds,sk d d=¶)->eO ds ds=¶
 |[],_=>rfl
 |d::ds,h=>by
  [eO,h d qm,dZ λx a=>h x (qy _ a)];rfl
§N6{ds:#RY}(h:∀d∈ds,sk d d=¶):PyData.eqv (.list ds) (.list ds)=¶:=by
 ¤PyData.eqvAll ds ds=¶;!(Cz ds ds (dZ h)).mpr rfl
end L2
namespace Rga
§after(b a:Nat):#Nat->#Nat
 |[]=>[]
 |x::xs=>if x=b then x::a::xs else x::after b a xs
abbrev Pl:=Nat×Option Nat
§ins(p:Pl)(row:#Nat):#Nat:=match p.2 with
 |none=>p.1::row
 |some b=>after b p.1 row
§iM:#Pl->#Nat
 |[]=>[]
 |p::qs=>ins p (iM qs)
§kH(a:#Pl):#Nat:=a.map (·.1)
§WF:#Pl->¤
 |[]=>True
 |p::qs=>p.1∉kH qs/\(∀b,p.2=!b->b∈kH qs)/\WF qs
§rk(a:#Pl)(k:Option Nat):#Nat:=(a.filter λp=>decide (p.2=k)).map (·.1)
inductive mS(f:Option Nat->#Nat):#Nat->#Nat->¤
 |nil:mS f [] []
 |cons {x:Nat} {st out:#Nat}:mS f (f (!x)++st) out->mS f (x::st) (x::out)
theorem Io:∀{row:#Nat},b∈row->(after b a row).Perm (a::row)
 |x::xs,h=>by
  ¶after
  ¿e:x=b
  .[qF e];!.swap _ _ _
  .[qB e]
   @z|z:=q0.mp h
   .!absurd z.symm e
   .!((Io z).cons x).trans (.swap _ _ _)
theorem cX:∀{c:#Pl},WF c->(iM c).Perm (kH c)
 |[],_=>.refl _
 |(a,none)::c,h=>(cX h.2.2).cons a
 |(a,!b)::c,h=>(Io ((cX h.2.2).mem_iff.mpr (h.2.1 b rfl))).trans ((cX h.2.2).cons a)
theorem IQ:∀{a:#Pl},WF a->(kH a).Nodup
 |[],_=>vi
 |_::_,h=>z6.mpr {h.1,IQ h.2.2}
§jA(h:WF a):(iM a).Nodup:=(cX h).nodup_iff.mpr (IQ h)
§lX(p:Pl)(a:#Pl)(k:Option Nat):rk (p::a) k=if p.2=k then p.1::rk a k else rk a k:=by
 ¶rk
 ¿e:p.2=k
 .[qF e,List.filter_cons_of_pos (by ±e)];rfl
 .[qB e,List.filter_cons_of_neg (by ±e)]
§K2(h:WF b)(d:a∉kH b):rk b (!a)=[]:=by
 induction b with
 |nil=>rfl
 |cons p b f =>
  have c:a∉kH b:=λz=>d (qy _ z);[lX,qB (λe=>c (h.2.1 a e)),f h.2.2 c]
theorem EN{f g:Option Nat->#Nat}:∀{st out:#Nat},mS f st out->(∀x∈out,g (!x)=f (!x))->mS g st out
 |_,_,.nil,_=>.nil
 |_,_,.cons (x:=x) d,h=>.cons (by
  [h x qm]
  !EN d λy a=>h y (qy _ a))
theorem HU{f g:Option Nat->#Nat}{a b:Nat}(c:∀x,x≠b->g (!x)=f (!x))(h:g (!b)=a::f (!b))(j:g (!a)=[]) :
  ∀{st out:#Nat},mS f st out->out.Nodup->mS g st (after b a out)
 |_,_,.nil,_=>.nil
 |_,_,.cons (x:=x) (st:=st) (out:=out) d,hn=>by
  #i:=z6.mp hn;¶after
  ¿e:x=b
  .[qF e]
   £e;?.cons ?_;[h];?.cons ?_;[j];!EN d λy k=>c y λz=>i.1 (z▸k)
  .[qB e]
   ?.cons ?_;[c x e];!HU c h j d i.2
theorem j_:∀{c:#Pl},WF c->mS (rk c) (rk c none) (iM c)
 |[],_=>.nil
 |(a,none)::c,h=>by
  #d:=j_ h.2.2
  #i:∀x,rk ((a,none)::c) (!x)=rk c (!x):=λx=>by[lX,qB (λz=>by &z)]
  [lX,qF rfl];?.cons ?_;[i a,K2 h.2.2 h.1];!EN d λx _=>i x
 |(a,!b)::c,h=>by
  #d:=j_ h.2.2;#e:a≠b:=λz=>h.1 (z▸h.2.1 b rfl);[lX,qB (λz=>by &z)];?HU (f:=rk c) (g:=rk ((a,!b)::c)) ?_ ?_ ?_ d (jA h.2.2)
  .¢x j
   [lX,qB (λz=>j (qJ z).symm)]
  .[lX,qF rfl]
  .[lX,qB (λz=>e (qJ z).symm),K2 h.2.2 h.1]
§mS.nil_inv{out:#Nat}(d:mS f [] out):out=[]:=by &d;rfl
§mS.cons_inv{st out:#Nat}(d:mS f (x::st) out):∃a,out=x::a/\mS f (f (!x)++st) a:=by
 cases d with
 |cons d=>!{_,O,d}
theorem x_{R:Nat->Nat->Bool}:∀{xs ys:#Nat},xs.Perm ys->(xs.Pairwise λa b=>R b a=¿)->(ys.Pairwise λa b=>R a b=¶)->xs=ys
 |[],ys,p,_,_=>(List.nil_perm.mp p).symm
 |x::xs,[],p,_,_=>absurd p.length_eq (by simp)
 |x::xs,y::ys,p,hx,hy=>by
  ¿e:x=y
  .£e
   [x_ ((List.perm_cons x).mp p) (vy.mp hx).2 (vy.mp hy).2]
  .#h1:y∈xs:=by
    @z|z:=q0.mp (p.mem_iff.mpr qm)
    .!absurd z.symm e
    .!z
   #h2:x∈ys:=by
    @z|z:=q0.mp (p.mem_iff.mp qm)
    .!absurd z e
    .!z
   #a1:=(vy.mp hx).1 y h1;#a2:=(vy.mp hy).1 x h2;[a2]at a1;&a1
end Rga
namespace L2
open PySem PySem.Spec PySem.W PyProof.Rows
§xE{D:Nat->RY}{js ms ix:#Nat}(hp:js.Perm ms)(g:ms.Pairwise λa b=>bT (D a) (D b)=¶)(h:df (js.map D) ix):(ix.map λi=>js.getD i 0)=ms:=by
 #e:ix.Perm (List.range js.length):=by #:=h.1;rwa [qj]at this
 ?Rga.x_ (R:=λa b=>bT (D a) (D b)) ((M5 e).trans hp) ?_ g;#h2:=h.2;[wb]at h2 ⊢;?h2.imp_of_mem λ{a b} j f c=>?_
 #d:∀i,i∈ix->c9 (js.map D) i=D (js.getD i 0):=λi hi=>by
  #:i<js.length:=qo.mp (e.mem_iff.mp hi);¶c9;[zm,qu,zm,qh this];rfl
 [d a j,d b f]at c;!c
§ai(H H':Hp):Prop:=∀b xs,H b=!(.tup xs)->H' b=!(.tup xs)
section
variable {H H1 H':Hp}
§af.ab(s:af H H'):ai H H':=λb xs e=>s b _ e
§ai.trans(a:ai H H1)(b:ai H1 H'):ai H H':=λc xs e=>b c xs (a c xs e)
§ai.refl(H:Hp):ai H H:=λ_ _ e=>e
§ai.wr(e:H a=!o)(c:∀ys,o≠.tup ys):ai H (upd H a o'):=λb xs q=>by[ax (Gs q e c)];!q
§ai.wl(e:H a=!(.lst xs)):ai H (upd H a o'):=ai.wr e λys z=>by &z
§ai.wd(e:H a=!(.dG kvs)):ai H (upd H a o'):=ai.wr e λys z=>by &z
mutual
theorem DT.ab(t:ai H H'):∀{x:V} {d:RY},DT H x d->DT H' x d
 |_,_,.aR=>.aR
 |_,_,.bl b=>.bl b
 |_,_,.int i=>.int i
 |_,_,.str z=>.str z
 |_,_,.tup e h=>.tup (t _ _ e) (cx.ab t h)
theorem cx.ab(t:ai H H'):∀{x:#V} {d:#RY},cx H x d->cx H' x d
 |_,_,.nil=>.nil
 |_,_,.cons a b=>.cons (DT.ab t a) (cx.ab t b)
end
§GK.ab(g:GK H k v)(t:ai H H'):GK H' k v:=g.cP t
end
§AN(P:V->Nat->¤)(vs:#V)(js:#Nat):Prop:=vs.length=js.length/\∀(m:Nat) v i,vs[m]?=!v->js[m]?=!i->P v i
section
variable {P P':V->Nat->¤}{vs us:#V}{js ks:#Nat}
§AN.imp(h:AN P vs js)(f:∀v i,P v i->P' v i):AN P' vs js:={h.1,λm v i b a=>f _ _ (h.2 m v i b a)}
§AN.nil:AN P [] []:={O,λm v i z=>by &z}
§AN.app(h:AN P vs js)(g:AN P us ks):AN P (vs++us) (js++ks):=by
 ?{by[qi,qi,h.1,g.1],λm v i b a=>?_}
 ¿c:m<vs.length
 .[zv c]at b
  [zv (by[←h.1];!c)]at a;!h.2 m v i b a
 .[ye ()]at b
  [ye (by[←h.1];¥),←h.1]at a;!g.2 _ v i b a
§AN.one(h:P v i):AN P [v] [i]:={O,λm c i' a b=>by
 cases m with
 |zero=>cases a;&b;!h
 |succ m=>cases a}
§AN.snoc(h:AN P vs js)(a:P v i):AN P (vs++[v]) (js++[i]):=h.app (.one a)
theorem AN.ix(h:AN P vs js)(ix:#Nat)(d:∀i∈ix,i<vs.length):AN P (ix.map λi=>vs.getD i .aR) (ix.map λi=>js.getD i 0):=by
 ?{by[qj,qj],λm v i b c=>?_};[qu]at b c
 cases e:ix[m]? with
 |none=>rw[e]at b;&b
 |some k =>
  [e]at b c;#f:=d k (qw e)
  #a:k<js.length:=by[←h.1];!f
  ?h.2 k v i ?_ ?_
  .[←qJ b,qh f]
   ¤some vs[k]=!(vs.getD k .aR);[zm,qh f];rfl
  .[←qJ c,qh a]
   ¤some js[k]=!(js.getD k 0);[zm,qh a];rfl
§AN.at{m:Nat}{v:V}(h:AN P vs js)(e:vs[m]?=!v):∃i,js[m]?=!i/\P v i:=by
 #a:m<js.length:=by[←h.1];!(qk.mp e).1
 !{js[m],qh a,h.2 m v _ e (qh a)}
§AN.last(h:AN P vs (js++[i])):∃us x,vs=us++[x]/\AN P us js/\P x i:=by
 #a:=h.1;[qi,qt]at a;@z|⟨us,x,z⟩:=jb vs
 .[z]at a;!absurd a (by simp)
 .[jc]at z
  £z
  #b:us.length=js.length:=by[qi,qt]at a;¥
  ?{us,x,O,{b,λm v i d c=>h.2 m v i ?_ ?_},h.2 us.length x i (by simp) (by[b];simp)}
  .[zv (qk.mp d).1];!d
  .[zv (qk.mp c).1];!c
end
§kd(nk:Nat->#Key):Option Nat->KD
 |none=>.aR
 |some i=>.tup (nk i)
§NM(nk:Nat->#Key)(H:Hp)(v:V)(i:Nat):Prop:=GK H (.tup (nk i)) v
§PL(nk:Nat->#Key)(bh:Nat->Option Nat)(D:Nat->RY)(H:Hp)(v:V)(k:Nat):Prop:=∃b vn a vk,v=.ref b/\H b=!(.tup [vn,a,vk])/\NM nk H vn k/\GK H (kd nk (bh k)) a/\DT H vk (D k)
section
variable {nk:Nat->#Key}{bh:Nat->Option Nat}{D:Nat->RY}{H H' H0:Hp}{v:V}{k:Nat}
theorem NM.ab(h:NM nk H v k)(t:ai H H'):NM nk H' v k:=GK.ab h t
theorem PL.ab(h:PL nk bh D H v k)(t:ai H H'):PL nk bh D H' v k:=by
 @b,vn,d,vk,e,h1,h2,a,c:=h;!{b,vn,d,vk,e,t _ _ h1,h2.ab t,a.ab t,c.ab t}
structure vP(nk:Nat->#Key)(bh:Nat->Option Nat)(D:Nat->RY)(ms:#Nat)(t:Nat):Prop where
 cI:ms.length<=2000
 up:ms.Pairwise λa b=>bT (D a) (D b)=¶
 inj:∀i∈ms,∀j∈ms,nk i=nk j->i=j
 wf:Rga.WF (ms.reverse.map λk=>(k,bh k))
 keys:KeysAre (ms.map D) t
§kids(bh:Nat->Option Nat)(ms:#Nat)(k:Option Nat):#Nat:=ms.filter λm=>decide (bh m=k)
§HE(bh:Nat->Option Nat)(ms:#Nat)(m:Nat)(k:Option Nat):kids bh (ms++[m]) k=if bh m=k then kids bh ms k++[m] else kids bh ms k:=by
 ¶kids;[yg]
 ¿e:bh m=k
 .[qF e,List.filter_cons_of_pos (by ±e)];rfl
 .[qB e,List.filter_cons_of_neg (by ±e),List.filter_nil,List.append_nil]
§Gj(bh:Nat->Option Nat)(ms:#Nat)(k:Option Nat):Rga.rk (ms.reverse.map λm=>(m,bh m)) k=(kids bh ms k).reverse:=by
 unfold Rga.rk kids;[List.filter_map,z9,←be];¤List.map (λx=>x) _=_;[List.map_id'];rfl
structure FD(nk:Nat->#Key)(bh:Nat->Option Nat)(all ms:#Nat)(H0 H:Hp)(dq:R0)(kvs:#(KD×V×V)):Prop where
 has:H dq=!(.dG kvs)
 new:H0 dq=£
 each:∀k:Option Nat,(∀i,k=!i->i∈all)->(vG kvs (kd nk k)=£/\kids bh ms k=[])\/∃q vs,vG kvs (kd nk k)=!(.ref q)/\H q=!(.lst vs)/\AN (NM nk H) vs (kids bh ms k)/\H0 q=£
 inj:∀k k' q,vG kvs k=!(.ref q)->vG kvs k'=!(.ref q)->k=k'
 live:∀k q,vG kvs k=!(.ref q)->∃xs,H q=!(.lst xs)
§FD.same{all ms:#Nat}(h:FD nk bh all ms H0 H dq kvs)(s:af H H'):FD nk bh all ms H0 H' dq kvs where
 has:=s _ _ h.has
 new:=h.new
 each:=λk a=>by
  @z|⟨q,vs,h1,h2,h3,h4⟩:=h.each k a
  .!.inl z
  .!.inr ⟨q,vs,h1,s _ _ h2,h3.imp λv i g=>g.ab s.ab,h4⟩
 inj:=h.inj
 live:=λk q e=>let⟨xs,z⟩:=h.live k q e;{xs,s _ _ z}
§He{all:#Nat}(hi:∀i∈all,∀j∈all,nk i=nk j->i=j){k a:Option Nat}(h1:∀i,k=!i->i∈all)(h2:∀i,a=!i->i∈all)(e:kd nk k=kd nk a):k=a:=by
 cases k with
 |none=>cases a with
  |none=>rfl
  |some j=>cases e
 |some i=>cases a with
  |none=>cases e
  |some j=>rw[hi i (h1 i rfl) j (h2 j rfl) (KD.tup.inj e)]
§FD.old{all ms:#Nat}{dq q:R0}{kvs:#(KD×V×V)}{m:Nat}{vn:V}{vs:#V}(h:FD nk bh all ms H0 H dq kvs)(hi:∀i∈all,∀j∈all,nk i=nk j->i=j)(p:∀i,bh m=!i->i∈all)(e:vG kvs (kd nk (bh m))=!(.ref q))(eq:H q=!(.lst vs))(r:NM nk H vn m):FD nk bh all (ms++[m]) H0 (upd H q (.lst (vs++[vn]))) dq kvs where
 has:=by[ax (λz=>by[←z,h.has]at eq;&eq)];!h.has
 new:=h.new
 inj:=h.inj
 live:=λk a o=>by
  ¿z:a=q
  .£z;!{_,aD}
  .@xs,y:=h.live k a o
   !{xs,by[ax z];!y}
 each:=λk l=>by
  #n:ai H (upd H q (.lst (vs++[vn]))):=ai.wl eq;[HE]
  ¿c:bh m=k
  .£c
   [qF rfl];@⟨z,_⟩|⟨a,b,h1,h2,d,f⟩:=h.each _ l
   .[z]at e;&e
   .[e]at h1
    &h1;[eq]at h2;&h2;!.inr {q,_,e,aD,(d.snoc r).imp λv i g=>g.ab n,f}
  .[qB c]
   @z|⟨a,b,h1,h2,d,f⟩:=h.each k l
   .!.inl z
   .?.inr ⟨a,b,h1,?_,d.imp λv i g=>g.ab n,f⟩
    #nq:a≠q:=λz=>c (He hi p l (h.inj _ _ q e (by[←z];!h1)))
    [ax nq];!h2
§FD.first{all ms:#Nat}{dq q:R0}{kvs:#(KD×V×V)}{m:Nat}{vn vk:V}(h:FD nk bh all ms H0 H dq kvs)(hi:∀i∈all,∀j∈all,nk i=nk j->i=j)(A:∀i,bh m=!i->i∈all)(e:vG kvs (kd nk (bh m))=£)(o:H0 q=£)(eq:H q=!(.lst []))(b:∀k,vG kvs k≠some (.ref q))(x:NM nk H vn m):FD nk bh all (ms++[m]) H0 (upd (upd H dq (.dG (pG kvs (kd nk (bh m)) vk (.ref q)))) q (.lst [vn])) dq (pG kvs (kd nk (bh m)) vk (.ref q)) where
 has:=by[ax (λz=>by[←z,h.has]at eq;&eq),aD]
 new:=h.new
 inj:=λk r a h1 h2=>by
  [eG]at h1 h2
  ¿t:k=kd nk (bh m)
  .¿f:r=kd nk (bh m)
   .[t,f]
   .[qF t]at h1
    [qB f]at h2;&h1;!absurd h2 (b r)
  .[qB t]at h1
   ¿f:r=kd nk (bh m)
   .[qF f]at h2
    &h2;!absurd h1 (b k)
   .[qB f]at h2
    !h.inj _ _ _ h1 h2
 live:=λk a l=>by
  ¿z:a=q
  .£z;!{_,aD}
  .[eG]at l
   ¿c:k=kd nk (bh m)
   .[qF c]at l
    &l;!absurd rfl z
   .[qB c]at l
    @xs,y:=h.live k a l
    #p:a≠dq:=λz=>by[z,h.has]at y;&y
    !{xs,by[ax z,ax p];!y}
 each:=λk s=>by
  #nq:q≠dq:=λz=>by[z,h.has]at eq;&eq
  #w:ai H (upd H dq (.dG (pG kvs (kd nk (bh m)) vk (.ref q)))):=ai.wd h.has
  #n:(upd H dq (.dG (pG kvs (kd nk (bh m)) vk (.ref q)))) q=!(.lst []):=by[ax nq];!eq
  #u:=w.trans (ai.wl (o':=.lst [vn]) n);[HE,eG]
  ¿c:bh m=k
  .£c
   [qF rfl,qF rfl];@⟨_,z⟩|⟨a,d,h1,_⟩:=h.each _ s
   .[z]
    !.inr ⟨q,[vn],O,aD,.one (x.ab u),o⟩
   .[e]at h1;&h1
  .[qB c,qB (λz=>c (He hi A s z.symm))]
   @z|⟨a,d,h1,h2,h3,h4⟩:=h.each k s
   .!.inl z
   .?.inr ⟨a,d,h1,?_,h3.imp λv i g=>g.ab u,h4⟩
    #B:a≠q:=λz=>b _ (z▸h1)
    #p:a≠dq:=λz=>by[z,h.has]at h2;&h2
    [ax B,ax p];!h2
§FD.get{all ms:#Nat}(h:FD nk bh all ms H0 H dq kvs)(c:H z=!(.lst []))(k:Option Nat)(d:∀i,k=!i->i∈all):∃a vs,(vG kvs (kd nk k)).getD (.ref z)=.ref a/\H a=!(.lst vs)/\AN (NM nk H) vs (kids bh ms k):=by
 @⟨h1,h2⟩|⟨q,vs,h1,h2,b,_⟩:=h.each k d
 .!⟨z,[],by[h1];rfl,c,by[h2];!.nil⟩
 .!⟨q,vs,by[h1];rfl,h2,b⟩
end
end L2
namespace Rga
theorem Ac:∀{a:#Pl},WF a->∀{k b:Nat},(k,!b)∈a->b∈kH a
 |p::a,h,k,b,hm=>by
  @z|z:=q0.mp hm
  .!qy _ (h.2.1 b (by[←z]))
  .!qy _ (Ac h.2.2 z)
theorem j1:∀{st out:#Nat},mS f st out->st.length<=out.length
 |_,_,.nil=>qe _
 |_,_,.cons (x:=x) d=>by
  #:=j1 d;[qi]at this;[zd,zd];¥
§cM(bh:Nat->Option Nat)(ms:#Nat):#Pl:=ms.reverse.map λk=>(k,bh k)
§eN(bh:Nat->Option Nat)(ms:#Nat):kH (cM bh ms)=ms.reverse:=by
 unfold kH cM;[z9];¤List.map (λx=>x) _=_;[List.map_id']
§D4(h:m∈ms):(m,bh m)∈cM bh ms:=qf.mpr {m,yh.mpr h,O}
§Ll(w:WF (cM bh ms))(a:m∈ms)(e:bh m=!i):i∈ms:=by
 #:=Ac w (k:=m) (b:=i) (by[←e];!D4 a);[eN]at this;!yh.mp this
§nO(w:WF (cM bh ms))(h:x∈iM (cM bh ms)):x∈ms:=by
 #:=(cX w).mem_iff.mp h;[eN]at this;!yh.mp this
§gJ(w:WF (cM bh ms)):(iM (cM bh ms)).length=ms.length:=by
 [(cX w).length_eq,eN,vd]
end Rga
namespace L2
open PySem PySem.Spec PySem.W PyProof.Rows
§del(H:Hp)(p:R0):Hp:=λb=>if b=p then none else H b
§dV{H:Hp}{p:R0}:del H p p=£:=qF rfl
§bR(h:b≠p):del H p b=H b:=qB h
§JO(h:H b=£):del H p b=£:=by
 ¿e:b=p
 .£e;!dV
 .[bR e];!h
§kG:af (del H p) H:=λb u q=>by
 ¿e:b=p
 .£e;[dV]at q;&q
 .[bR e]at q;!q
§ai.cut(e:H p=!(.lst xs))(s:af (del H p) H'):ai H H':=λb ys q=>s _ _ (by[bR (Gs q e λzs z=>by &z)];!q)
end L2
namespace Rga
theorem gN:∀{n:Nat},(∀i,i<n->∀b,bh i=!b->b<i)->WF (cM bh (List.range n))
 | 0,_=>trivial
 |n+1,h=>by
  #e:cM bh (List.range (n+1))=(n,bh n)::cM bh (List.range n):=by
   ¶cM;[yi,jy];rfl
  [e];?{?_,λb a=>?_,gN λi hi=>h i ()}
  .[eN,yh,qo]
   !wu n
  .[eN,yh,qo]
   !h n () b a
end Rga
namespace L2
open PySem PySem.Spec PySem.W PyProof.Rows Rga
§ur(h:x<y):bF (.int x::r) (.int y::a)=¶:=by
 [bF,qB (λz=>by
  #:=(cH _ _ rfl).mp z;injection this with this
  ¥)]
 !qI h
§vL(h:bF r a=¶):bF (.int x::r) (.int x::a)=¶:=by
 [bF,qF ((cH _ _ rfl).mpr rfl)];!h
§RL(d:RY):Prop:=(∃a b:Int,d=.tuple [.int a,.int b])\/∃a b c:Int,d=.tuple [.int a,.int b,.int c]
§uk(h:∀d∈ds,RL d):KeysAre ds 2:=by
 ?{dD λd a=>?_,λd a=>?_,λx b y c=>?_,λd a=>?_}
 .@⟨_,_,rfl⟩|⟨_,_,_,rfl⟩:=h d a <;> rfl
 .@⟨_,_,rfl⟩|⟨_,_,_,rfl⟩:=h d a <;> trivial
 .@⟨_,_,rfl⟩|⟨_,_,_,rfl⟩:=h x b <;> @⟨_,_,rfl⟩|⟨_,_,_,rfl⟩:=h y c <;> rfl
 .@⟨_,_,rfl⟩|⟨_,_,_,rfl⟩:=h d a <;> !(by decide:1<=60)
end L2
namespace L2
open PySem PySem.Spec PySem.W PyProof.Rows
§jD(A:Around)(s:RX)(x y:MD)(b:Bool):Prop:=∀(prog:Program) (w:World) (E:KE) (Q:KE),Q (.bool b) s->wpAny (model prog w) A (richCompare .Gt x y) Q E s
open SeqAt in
§NJ(l b:R0)(us vs:Array MD)(n E:Nat)(B t:Option R0)(sl o:Array (Option MD))(e:Nat->Bool)(c:Bool) :
  Meets (Builtin.«tuple.__gt__» {[.ref l,.ref b],[]})
   (λA R s=>s.heap.get? l=some { cls:=.type "tuple",dict:=B,data:=.seq us n,slots:=sl }/\s.heap.get? b=some { cls:=.type "tuple",dict:=t,data:=.seq vs E,slots:=o } ∧
    (∀j (h1:j<us.size) (h2:j<vs.size),EqAt A.in1 s us[j] vs[j] (e j)) ∧
    (∀i (h1:i<us.size) (h2:i<vs.size),(∀j,j<i->e j=¶)->e i=¿->jD A.in1 s us[i] vs[i] c) ∧
    ((∀j,j<min us.size vs.size->e j=¶)->c=decide (vs.size<us.size))/\R (.ok (.ret (.bool c))) s) :=
 .of_wp λprog w A R s h=>by
  @hp,g,d,tk,C:=s;@F,G,v,p,f,h:=h;#H:=AutoSeq1.sub_tuple_tuple
  #I:(us.toList.zip vs.toList).length=min us.size vs.size:=by simp
  wp_walk using wpAny_loadPart' F,wpAny_loadPart' G,wpAny_forIn_list _ (λrest b s'=>b.1=£/\s'={hp,g,d,tk,C}/\∃i,rest=(us.toList.zip vs.toList).drop i/\∀j,j<i->e j=¶) _
  case turn =>
   rintro⟨y,x⟩ rest b s' ⟨a,rfl,i,hz,hi⟩
   #k:i<(us.toList.zip vs.toList).length:=by
    @h' |h':=jl i (us.toList.zip vs.toList).length
    .!h'
    .[nv h']at hz;&hz
   #h1:i<us.size:=()
   #h2:i<vs.size:=()
   [jm k]at hz;injection hz with hyx hrest
   #m:y=us[i]:=by #:=congrArg Prod.fst hyx;±this
   #D:x=vs[i]:=by #:=congrArg Prod.snd hyx;±this
   subst m D;?qA (v i h1 h2 prog w _ _ ?_)
   cases m:e i with
   |true =>
    wp_walk
    !{O,O,i+1,hrest,λj r=>by
     ¿z:j=i
     .[z];!m
     .!hi j ()}
   |false =>
    have q:=p i h1 h2 hi m;dsimp only;[qF (by rfl)];?qA (wpAny_rule (qA (q prog w _ _ ?_)));!qA (qE (qE (qE {_,O,h})))
  case fin =>
   rintro⟨J,K⟩ s' ⟨a,rfl,i,hz,hi⟩
   simp only at a
   £a
   have u:min us.size vs.size<=i:=by
    @h' |h':=jl i (us.toList.zip vs.toList).length
    .[jm h']at hz;&hz
    .¥
   have:=f λj r=>hi j ()
   wp_walk
   !{_,O,by[this]at h;simpa[Builtin.Tuple.tupleCompareSizes] using h}
  case h =>
   !{O,O,0,O,λj r=>absurd r (vj _)}
§jD.tuples{A:Around}{s:RX}{l b:R0}{us vs:Array MD}{e:Nat->Bool}{c:Bool}(u:s.heap.IsTuple l us)(v:s.heap.IsTuple b vs)(y:A.units<cLine)(z:∀j (h1:j<us.size) (h2:j<vs.size),SeqAt.EqAt A.in1 s us[j] vs[j] (e j))(k:∀i (h1:i<us.size) (h2:i<vs.size),(∀j,j<i->e j=¶)->e i=¿->jD A.in1 s us[i] vs[i] c)(f:(∀j,j<min us.size vs.size->e j=¶)->c=decide (vs.size<us.size)):jD A s (.ref l) (.ref b) c:=λprog w E Q h=>by
 @⟨B,D,data,sl⟩,p,t,n,r:=id u;@⟨q,o,m,g⟩,a,d,C,hd2:=id v
 simp only at t r d hd2
 subst t r d hd2
 !richCompare_meets_room (op:=.Gt) {_,p,O} {_,a,O} F.slot_tuple_gt F.entry_tuple_gt (F.args_tuple_gt_2 _ _) (NJ l b us vs n C D o sl g e c)
  {p,a,z,k,f,show Value.bool c≠Value.notImplemented/\Q (.bool c) s from{°,h}} y
§jD.ints{A:Around}(i j:Int)(t u:Tok):jD A s (.int i t) (.int j u) (decide (j<i)):=λprog w E Q h =>
 richCompare_gives (op:=.Gt) (typeIs_int s _ t) (typeIs_int s _ u) F.slot_int_gt F.entry_int_gt (F.args_int_gt_2 _ _) (gives_int_gt _ _ t u) ° h
§Fp{ns:#Int}{i:Nat}(h:i<(ns.map PyData.int).length):∃k,(ns.map PyData.int).getD i .none=.int k:=by
 [qj]at h;!{ns[i],by[zm,qu,qh h];rfl}
theorem Eu:∀ns:#Int,PyData.canLayAll0 (ns.map PyData.int)=¶
 |[]=>rfl
 |n::ns=>by
  ¤(true&&PyData.canLayAll0 (ns.map PyData.int))=¶;[Eu ns];rfl
theorem Iq:∀ns:#Int,PyData.depthAll (ns.map PyData.int)=0
 |[]=>rfl
 |n::ns=>by
  ¤max 0 (PyData.depthAll (ns.map PyData.int))=0;[Iq ns];rfl
theorem uW:∀ns ms:#Int,eO (ns.map PyData.int) (ms.map PyData.int)=¶
 |[],_=>rfl
 |_::_,[]=>rfl
 |n::ns,m::ms=>by
  ¤(true&&eO (ns.map PyData.int) (ms.map PyData.int))=¶;[uW ns ms];rfl
open SeqAt in
§Qw:∀(ns ms:#Int) (j:Nat),pairEq (ns.map PyData.int) (ms.map PyData.int) j=pairEq (ms.map PyData.int) (ns.map PyData.int) j:=λns ms j=>by
 ¶pairEq
 #sd:∀a b:RY,(∃x,a=.int x)\/a=.none->(∃x,b=.int x)\/b=.none->PyData.eqv a b=PyData.eqv b a:=λa b d f=>by
  @⟨x,rfl⟩|rfl:=d <;> @⟨y,rfl⟩|rfl:=f
  .¿e:x=y
   .[e]
   .#h1:PyData.eqv (.int x) (.int y)=¿:=by
     cases q:PyData.eqv (.int x) (.int y) with
     |false=>rfl
     |true=>have:=(cH _ _ rfl).mp q;injection this with this;!absurd this e
    have h2:PyData.eqv (.int y) (.int x)=¿:=by
     cases q:PyData.eqv (.int y) (.int x) with
     |false=>rfl
     |true=>have:=(cH _ _ rfl).mp q;injection this with this;!absurd this.symm e
    [h1,h2]
  .rfl
  .rfl
  .rfl
 have c:∀l:#Int,(∃x,(l.map PyData.int).getD j .none=.int x)\/(l.map PyData.int).getD j .none=.none:=λl=>by
  ¿h:j<(l.map PyData.int).length
  .!.inl (Fp h)
  .!.inr (by[zm,v9 ()];rfl)
 !sd _ _ (c ns) (c ms)
open SeqAt in
§Mt{A:Around}{s:RX}{a b:MD}{F bs:#R0}{ns ms:#Int}(C:Reads s.heap a (.tuple (ns.map PyData.int)) F)(E:Reads s.heap b (.tuple (ms.map PyData.int)) bs)(I:A.units+2<cLine) :
  jD A s a b (bT (.tuple (ms.map PyData.int)) (.tuple (ns.map PyData.int))):=by
 cases C with
 |tuple h1 h2 t p =>
  cases E with
  |tuple w G z n =>
   rename_i l o us m J o' vs H
   #r:=ReadsAll.length _ _ _ p;#q:=ReadsAll.length _ _ _ n;[zx]at r q;[bT]
   #g:∀j (f:j<us.size) (e:j<vs.size),EqAt A.in1 s us[j] vs[j] (pairEq (ms.map PyData.int) (ns.map PyData.int) j):=λj f e=>by
    @v,c:=ip (i:=j) (by[zx];!f) p;@p2,d:=ip (i:=j) (by[zx];!e) n;#D:=wC (ns.map PyData.int) j ();[Iq]at D;#:=eqAt_reads ((ns.map PyData.int).getD j .none) ((ms.map PyData.int).getD j .none) A.in1 s _ _ _ _ c d (o4 (Eu ns) ()) (o4 (Eu ms) ()) (by ¤A.units+1+_<cLine;¥)
    simp only[Array.getElem_toList]at this
    [←Qw];!this
   ?jD.tuples {_,h1,h2,_,t} {_,w,G,_,z} () g (λi f e k B=>?_) λk=>?_
   .@v,c:=ip (i:=i) (by[zx];!f) p
    @p2,d:=ip (i:=i) (by[zx];!e) n;[Ba _ _ i () () k B];@x,ex:=Fp (ns:=ns) (i:=i) ();@y,u:=Fp (ns:=ms) (i:=i) ();[ex]at c ⊢;[u]at d ⊢
    simp only[Array.getElem_toList]at c d
    generalize us[i]=u0 at c ⊢;generalize vs[i]=v0 at d ⊢;&c;&d;!jD.ints _ _ _ _
   .[Eo _ _ λj h=>k j (),r,q]
§rH(c:R0)(q:R9):HO:=.ext λh=>h.CodeRec (.ref c) q
§Tb(a cl:Nat)(q:R9)(P:R0)(H:Hp):Prop:=H P=!(.cf #[])\/∃c,H P=!(.cf #[rawInt a,rawInt cl,.ref c])/\H c=!(rH c q)
§Tb.same{a cl:Nat}(t:Tb a cl q P H)(s:af H H'):Tb a cl q P H':=by
 @t|⟨c,t,u⟩:=t
 .!.inl (s _ _ t)
 .!.inr ⟨c,s _ _ t,s _ _ u⟩
theorem Tb.cf{a cl:Nat}(t:Tb a cl q P H):∃ps,H P=!(.cf ps):=by
 @t|⟨c,t,u⟩:=t
 .!⟨_,t⟩
 .!⟨_,t⟩
§Tb.keep{a cl:Nat}(t:Tb a cl q P H)(k:∀b u,H b=!u->((∃ps,u=.cf ps)\/∃d,u=.ext d)->H' b=!u):Tb a cl q P H':=by
 @t|⟨c,t,u⟩:=t
 .!.inl (k _ _ t (.inl ⟨_,O⟩))
 .!.inr ⟨c,k _ _ t (.inl ⟨_,O⟩),k _ _ u (.inr ⟨_,O⟩)⟩
§Tb.cut{f cl:Nat}(t:Tb f cl q P H)(e:H a=!o)(h1:∀ps,o≠.cf ps)(h2:∀d,o≠.ext d)(s:af (del H a) H'):Tb f cl q P H' :=
 t.keep λb u c g=>s _ _ (by
  [bR (λz=>?_)]
  .!c
  .£z
   [e]at c;&c;@⟨ps,z⟩|⟨d,z⟩:=g
   .!h1 _ z
   .!h2 _ z)
§Tb.wr{c cl:Nat}(t:Tb c cl q P H)(e:H a=!o)(h1:∀ps,o≠.cf ps)(h2:∀d,o≠.ext d):Tb c cl q P (upd H a o') :=
 t.cut e h1 h2 λb u q=>by
  ¿z:b=a
  .£z;[dV]at q;&q
  .[bR z]at q
   [ax z];!q
§QD(r:h.CodeRec (.ref c) q):aV P w H h c (rH c q):=by
 #st:∀h1 h2:Heap,h1.CodeRec (.ref c) q->(∀o,h1.get? c=!o->h2.get? c=!o)->h2.CodeRec (.ref c) q:=by
  rintro h1 h2 ⟨f,d,vs,b,e,a,r⟩ k;&e;!{_,_,_,_,O,k _ a,r}
 @f,d,vs,b,e,a,g:=id r;&e;!{r,{_,a},st}
§mU(K:PySem.W.Frag)(x:R9):R0:=match tabIn K x with
 |some (_,P)=>P
 |none=>0
§Qo(K:PySem.W.Frag)(x:R9):R0:=match tabIn K x with
 |some (c,_)=>c
 |none=>0
section
variable {X:Cx}{pins:#(R0×Obj)}{σ:St}{H:Hp}{s:RX}
§Inv.kT(I:Inv X pins σ H s){b:R0}(a:↑s<=b):b∉d9 X.stack:=λc=>by
 @z|z:=q0.mp (I.gR b c)
 .!absurd (zf I.lt a) (by[z];!wu _)
 .!I.vF a z
§Inv.Fc{P c:R0}{q:R9}{h':Heap}{tk:Nat}{more:Array MD}(I:Inv X pins σ H s)(f:H P=!(.cf #[]))(k:∀b o,b≠P->s.heap.get? b=!o->h'.get? b=!o)(r:↑s<=c)(x:h'.CodeRec (.ref c) q)(w:h'.get? P=!(tabObj more)) :
  Inv X pins σ (upd (upd H P (.cf more)) c (rH c q)) { s with heap:=h',toks:=tk }:=by
 #p:H c=£:=I.aS.fresh r;#B:P<↑s:=I.aS.lt f;#m:P≠c:=qp (zf B r)
 #a:∀b,b≠P->b≠c->(upd (upd H P (.cf more)) c (rH c q)) b=H b:=λb h1 h2=>by[ax h2,ax h1]
 #j:∀{b u},H b=!u->(∀ps,u≠.cf ps)->b≠P/\b≠c:=λ{b u} e A=>{λz=>by
  £z;[e]at f
  !A _ (qJ f),λz=>by
  £z;[e]at p
  &p}
 ?I.un {λb o e n _ _=>k b o (λz=>by £z;[n]at f;&f) e,λb o e n _ _=>{o.slots,k b o (λz=>by £z;[n]at f;&f) e},λb o e n _=>?_,λb o e _=>?_,λb xs e=>?_,λb o u e=>?_,λb ps e=>?_,λb o xs e n=>k b o (j n λps z=>by &z).1 e} λb u e=>?_
 .[a b (λz=>by £z;[n]at f;&f) (qp (zf (qG e) r))];!n
 .¿z:b=P
  .£z;!{_,w}
  .!{o,k b o z e}
 .@i,h:=j e λps z=>by &z
  [a b i h];!e
 .@i,h:=j e λps z=>by &z
  [a b i h];!e
 .¿z:b=P
  .£z
   [f]at e;&e;!{more,by[ax m,aD];simp}
  .?{#[],?_}
   [a b z (λy=>by £y;[p]at e;&e),e]
   simp
 .¿t:b=c
  .£t
   [aD]at e;&e;!QD x
  .[ax t]at e
   ¿z:b=P
   .£z
    [aD]at e;&e;!w
   .[ax z]at e
    ?(I.aS b u e).cP (λd v l g=>k d v ?_ g) (λd g=>?_) λd xs g=>?_
    .@l|l:=l
     .[l];!z
     .!(j l λps y=>by &y).1
    .@i,h:=j g λps y=>by &y
     [a d i h];!g
    .@i,h:=j g λps y=>by &y
     [a d i h];!g
end
end L2
namespace Rga
§MM{P:Nat->Bool}{p:Pl}{a:#Pl}(h:P p.1=¶):(p::a).filter (λp=>P p.1)=p::a.filter λp=>P p.1:=jd (p:=λp:Pl=>P p.1) h
§Q0{P:Nat->Bool}{p:Pl}{a:#Pl}(h:¬P p.1=¶):(p::a).filter (λp=>P p.1)=a.filter λp=>P p.1:=je (p:=λp:Pl=>P p.1) h
§F_(P:Nat->Bool)(a:#Pl):Prop:=∀k b,(k,!b)∈a->P k=¶->P b=¶
§F_.tail(h:F_ P (p::a)):F_ P a:=λk b c=>h k b (qy _ c)
§Im{P:Nat->Bool}{a:#Pl}{x:Nat}:x∈kH (a.filter λp=>P p.1)↔x∈kH a/\P x=¶:=by
 ¶kH;constructor
 .¢h
  @p,hp,rfl:=qf.mp h;#:=zk.mp hp;!{qf.mpr {p,this.1,O},this.2}
 .rintro⟨h,b⟩
  @p,hp,rfl:=qf.mp h;!qf.mpr {p,zk.mpr {hp,b},O}
theorem jB:∀{d:#Pl},WF d->F_ P d->WF (d.filter λp=>P p.1)
 |[],_,_=>trivial
 |(a,o)::d,h,c=>by
  #i:=jB h.2.2 c.tail
  ¿f:P a=¶
  .[MM (p:=(a,o)) f]
   ?{λz=>h.1 (Im.mp z).1,λb g=>Im.mpr {h.2.1 b g,?_},i};#e:o=!b:=g;£e;!c a b qm f
  .[Q0 (p:=(a,o)) f];!i
§pe(P:Nat->Bool)(bh:Nat->Option Nat)(ms:#Nat):cM bh (ms.filter P)=(cM bh ms).filter λp=>P p.1:=by
 ¶cM;[List.filter_map,←be];rfl
§Cy(h:∀k∈ms,P k=¶->∀b,bh k=!b->P b=¶):F_ P (cM bh ms):=λk b d f=>by
 @j,c,e:=qf.mp d;#g:j=k:=congrArg Prod.fst e;#a:bh j=!b:=congrArg Prod.snd e;£g;!h _ (yh.mp c) f b a
end Rga
namespace L2
open PySem PySem.Spec PySem.W PyProof.Rows
§AN.mem(h:AN P vs js)(b:v∈vs):∃i∈js,P v i:=by
 @m,a,e:=z8.mp b;@i,hi,p:=h.at (m:=m) (v:=v) (by[qh a,e]);!{i,qw hi,p}
theorem Il:∀{ds:#RY},PyData.canLayAll0 ds=¶->d∈ds->d.canLay0=¶
 |e::ds,h,hm=>by
  #a:(e.canLay0&&PyData.canLayAll0 ds)=¶:=h;[zt]at a;@rfl|hm:=q0.mp hm
  .!a.1
  .!Il a.2 hm
§KeysAre.sub{ds es:#RY}(h:KeysAre ds t)(p:∀x∈es,x∈ds):KeysAre es t :=
 {dD λx e=>Il h.lay (p x e),λd c=>h.kind d (p d c),λa f b g=>h.one a (p a f) b (p b g),λd c=>h.deep d (p d c)}
theorem vP.filter(W:vP nk bh D ms t)(c:∀k∈ms,P k=¶->∀b,bh k=!b->P b=¶):vP nk bh D (ms.filter P) t where
 cI:=qg (we _ _) W.cI
 up:=W.up.filter _
 inj:=λi hi j d e=>W.inj i (zk.mp hi).1 j (zk.mp d).1 e
 wf:=by
  #:=Rga.jB W.wf (Rga.Cy c);¤Rga.WF (Rga.cM bh (ms.filter P));[Rga.pe];!this
 keys:=W.keys.sub λx a=>by
  @i,hi,rfl:=qf.mp a;!qf.mpr {i,(zk.mp hi).1,O}
§AN.pick:∀{vs:#V} {js:#Nat} {us:#V},AN P us (js.filter f)->∀{v:V} {i:Nat},P v i->f i=¶->AN P (us++[v]) ((js++[i]).filter f):=λ{vs js us} h {v i} a hi=>by
 [yg,jd hi];!h.snoc a
§AN.skip(h:AN P us (js.filter f))(hi:¬f i=¶):AN P us ((js++[i]).filter f):=by
 [yg,je hi,yv,wx];!h
§jU(nk:Nat->#Key)(G:V->Nat->¤):#(KD×V×V)->#Nat->¤
 |[],[]=>True
 |e::es,i::is=>(e.1=.tup (nk i)/\G e.2.2 i)/\jU nk G es is
 |_,_=>False
theorem jU.snoc(h1:e.1=.tup (nk i))(h2:G e.2.2 i):∀{kvs:#(KD×V×V)} {js:#Nat},jU nk G kvs js->jU nk G (kvs++[e]) (js++[i])
 |[],[],_=>{{h1,h2},trivial}
 |[],_::_,h=>h.elim
 |_::_,[],h=>h.elim
 |_::_,_::_,h=>{h.1,jU.snoc h1 h2 h.2}
theorem jU.get{all:#Nat}(inj:∀i∈all,∀j∈all,nk i=nk j->i=j):∀{kvs:#(KD×V×V)} {js done:#Nat} {acc:#(KD×V×V)},jU nk G kvs js->(∀i∈done,i∈all)->(∀i∈js,i∈all)->
  (∀i∈done,∃v,vG acc (.tup (nk i))=!v/\G v i)->∀i,i∈done\/i∈js->∃v,vG (putAll acc kvs) (.tup (nk i))=!v/\G v i
 |[],[],done,acc,_,_,_,h,i,hi=>by
  @hi|hi:=hi
  .!h i hi
  .&hi
 |[],_::_,_,_,h,_,_,_,_,_=>h.elim
 |_::_,[],_,_,h,_,_,_,_,_=>h.elim
 |e::es,j::js,done,acc,h,hd,hj,ha,i,hi=>by
  #a:=hj j qm;?jU.get inj (done:=done++[j]) (acc:=pG acc e.1 e.2.1 e.2.2) h.2 (λk b=>?_) (λk b=>hj k (qy _ b)) (λk b=>?_) i ?_
  .@z|z:=zh.mp b
   .!hd k z
   .[qx.mp z];!a
  .[eG,h.1.1]
   ¿c:nk k=nk j
   .[qF (by[c])]
    #d:k∈all:=by
     @z|z:=zh.mp b
     .!hd k z
     .[qx.mp z];!a
    [inj k d j a c];!{_,O,h.1.2}
   .[qB (λz=>c (KD.tup.inj z))]
    @z|z:=zh.mp b
    .!ha k z
    .!absurd (by[qx.mp z]) c
  .@z|z:=hi
   .!.inl (wg _ z)
   .@rfl|z:=q0.mp z
    .!.inl (zy _ (qx.mpr rfl))
    .!.inr z
theorem cw.ab(t:ai H H'):∀{ys:#V} {es:#(KD×V×V)},cw H ys es->cw H' ys es
 |[],[],_=>trivial
 |[],_::_,h=>h.elim
 |_::_,[],h=>h.elim
 |_::_,_::_,h=>{let⟨b,e,h1,h2⟩:=h.1;{b,e,t _ _ h1,h2.ab t},cw.ab t h.2}
theorem cw.snoc(a:∃b,y=.ref b/\H b=!(.tup [e.2.1,e.2.2])/\GK H e.1 e.2.1):∀{ys:#V} {es:#(KD×V×V)},cw H ys es->cw H (ys++[y]) (es++[e])
 |[],[],_=>{a,trivial}
 |[],_::_,h=>h.elim
 |_::_,[],h=>h.elim
 |_::_,_::_,h=>{h.1,cw.snoc a h.2}
§Iz{c:#(Key×V)}{b:#(Key×MD)}(h:KV c b):b.map (·.1)=c.map (·.1):=by
 induction h with
 |nil=>rfl
 |cons a _ d=>rw[zn,zn,d,a.1]
section
variable {X:Cx}{pins:#(R0×Obj)}{σ:St}{H:Hp}{s:RX}
§Inv.freeze(I:Inv X pins σ H s)(e:H a=!(.dK kvs))(f:s.heap.get? a=!o):Inv X pins σ (upd H a (.cJ o (.dK kvs))) s:=by
 ?I.un (t':=s.toks) (h':=s.heap) {λb ob q _ _ _=>q,λb ob q _ _ _=>{ob.slots,q},λb ob q n _=>?_,λb ob q _=>{ob,q},λb xs q=>?_,λb ob u q=>?_,λb ps q=>?_,λb ob xs q n=>q} λb u q=>?_
 .[ax (λz=>by[z,e]at n;&n)];!n
 .[ax (λz=>by[z,e]at q;&q)];!q
 .[ax (λz=>by[z,e]at q;&q)];!q
 .!{#[],by[ax (λz=>by[z,e]at q;&q),q];simp}
 .¿d:b=a
  .£d
   [aD]at q;&q;!{f,I.aS b _ e}
  .[ax d]at q
   ?(I.aS b u q).cP (λ_ _ _ q=>q) (λc q=>?_) λc xs q=>?_
   .[ax (λz=>by[z,e]at q;&q)];!q
   .[ax (λz=>by[z,e]at q;&q)];!q
end
§zL(a:R0)(o:Obj)(kvs:#(Key×V)):It :=
 {λi H=>H a=!(.cJ o (.dK kvs))/\i<kvs.length,λi H x H'=>H'=H/\∃k v,kvs[i]?=!(k,v)/\x=kV k,λi H=>H a=!(.cJ o (.dK kvs))/\kvs.length<=i}
§Av{X:Cx}{pins:#(R0×Obj)}{σ:St}{H:Hp}{s:RX}{a:R0}{o:Obj}{es:Array DictEntry}{ep:Nat}{kvs:#(Key×V)}(i:o.data=.dict es ep)(I:Inv X pins σ H s)(e:H a=!(.cJ o (.dK kvs))):∃vs,KV kvs vs/\vs.length=kvs.length/\s.heap.DictAt (ah X.prog X.w) a vs ep:=by
 obtain⟨g,_,_,vs,f,o',d,c,b,r⟩:s.heap.get? a=!o/\kvs.length<=sizeLine/\(a==sysModules)=¿/\∃vs,KV kvs vs/\s.heap.DictOf (ah X.prog X.w) a vs:=I.aS a _ e;[g]at b;&b
 #:c=ep:=by
  #:=r.2.1;[i]at this;injection this with _ h;!h.symm
 £this;?{vs,f,?_,o,d,g,r};#:=congrArg List.length (Iz f);±this
§P7{P:Program}{w:World}{K:PySem.W.Frag}{tg:Expr}(a it:R0){o:Obj}{es:Array DictEntry}{ep:Nat}{kvs:#(Key×V)}(Q:o.data=.dict es ep):Turn P w K tg (zL a o kvs) [it] it (λi h=>h.IsKeyIter it a i kvs.length ep) where
 mem:=by simp
 obj:=λi h st b m=>by
  #e:b=it:=by ±m
  £e;@o,e,c,d:=st;!{o,e,λv z=>by[d]at z;&z}
 keep:=λi h h' st k=>st.at λo e=>k it (by simp) o e
 item:=by
  ¢X D y J S i pins s σ H E I q st B;subst D y J;@u,hi:=B;@vs,R,p,M:=Av Q I u;#Z:vs[i]?=!(vs[i].1,vs[i].2):=qh ();@N,r,Y,A,L,G:=q it (by simp);[←p]at st;?wpAny_pyNext_dict_item st M Z λf h' n g sb=>?_;#U:Inv X pins σ H { s with heap:=h' }:=I.turned (t':=s.toks) (λb o m e=>(sb.2 b m).trans e) N r A L G;@ob,e,c,d:=id g
  #T:vs[i].1=kvs[i].1:=by
   #:=congrArg (λl=>l[i]?) (Iz R);simpa[hi,p] using this
  #rk:RelV (kV kvs[i].1) f:=by
   [←T];@⟨j,t,C,F⟩|⟨x,t,C,F⟩:=fQ (show fN vs[i].1 f=¶ from n)
   .[C,F];!{t,O}
   .[C,F];!{t,O}
  [p]at g;!{f,O,nG (s:={ s with heap:=h' }) e c d ⋯ {kV kvs[i].1,H,U,rk,{O,kvs[i].1,kvs[i].2,qh hi,O},g,λb m=>(q b m).1}}
 done:=by
  ¢X D y J S i pins s σ H E I q st B;subst D y J;@u,hi:=B;@vs,R,p,M:=Av Q I u;@N,r,Y,A,L,G:=q it (by simp);[←p]at st;!wpAny_pyNext_dict_end (I.ok.hd S) st M (v9 ()) λh' eb=>{O,I.turned (t':=s.toks) (λb o m e=>eb b o m e) N r A L G}
 self:=λ_ _ _ _ _ st h=>wpAny_pyIter_keyiter st h
inductive Dj(R:It->Hp->¤)(x:V)(H1:Hp):Prop
 |mk(a kvs:_)(_:x=.ref a)(_:((H1 a=!(.dK kvs)/\∀o,R (zL a o kvs) (upd H1 a (.cJ o (.dK kvs))))\/∃o,H1 a=!(.cJ o (.dK kvs))/\R (zL a o kvs) H1))
§HJ(tl:TE):TI:=λσ H R=>tl σ H λx H1=>Dj R x H1
section
variable {X:Cx}{tg:Expr}
§JZ{tl:TE}(B:PE X l tl):PI X tg l (HJ tl):=by
 ?{?_};¢pins s σ H R I h;?bK (B pins s σ H _ I h) λv c ⟨x,H1,j,y,t⟩=>?_;@a,kvs,e,q:=t;£e;&y
 #main:∀(H2:Hp) (o:Obj),Inv X pins σ H2 c->H2 a=!(.cJ o (.dK kvs))->R (zL a o kvs) H2->wpAny (model X.prog X.w) X.A (pyIter (.ref a)) (LK X pins σ tg R) X.xe c:=λH2 o g n u=>by
  obtain⟨k,_,m,z,_,o',es,ep,d,F,p,r⟩:c.heap.get? a=!o/\kvs.length<=sizeLine/\(a==sysModules)=¿/\∃vs,KV kvs vs/\c.heap.DictOf (ah X.prog X.w) a vs:=g.aS a _ n;[k]at d;&d;@vs,E,f,C:=Av p g n;?wpAny_pyIter_dict m C ?_;?{↑c,[↑c],_,_,H2,O,g.kept (t':=c.toks) λb o e=>qH _ e,P7 a _ p,{_,qL _ rfl,O,by[f];rfl},λb D=>?_,u}
  #e:b=↑c:=by ±D
  £e;!g.kY (qe _) (g.aS.fresh (qe _))
 @⟨i,q⟩|⟨o,i,q⟩:=q
 .@_,_,vs,_,o,es,ep,k,_:=tS j.aS i
  !main _ o (j.freeze i k) aD (q o)
 .!main _ o j i q
end
§JR{own:#R9}{g:TG}(hz:kvs.length<=sizeLine)(d:Nat->#V->Hp->¤)(h0:d 0 [] H)(n:∀i ys H,d i ys H->H a=!(.cJ o (.dK kvs)))(A:∀i k v ys H' (l:V->Hp->¤) (s:Hp->¤),kvs[i]?=!(k,v)->d i ys H'->(∀y j,d (i+1) (ys++[y]) j->l y j)->(∀f,d (i+1) ys f->s f)->
   g (kV k) (cC own fr σ) H' λh H2=>r h H2 λb f=>if b=¶ then te h f l else s f)(B:∀H' p ys,d kvs.length ys H'->ys.length<=kvs.length->H' p=£->Q (.ref p) (upd H' p (.lst ys))):Fw own fr g r te σ Q (zL a o kvs) H:=by
 ?{λi m ys H=>m=kvs.length - i/\i<=kvs.length/\ys.length<=i/\d i ys H,{kvs.length,by simp,Nat.zero_le _,Nat.zero_le _,h0},?_};rintro i m ys H ⟨rfl,hi,t,p⟩
 ¿c:i<kvs.length
 .?.inr {{n _ _ H p,c},(),λx H' y=>?_}
  @e,k,v,u,rfl:=y;£e
  ?A i k v ys _ _ _ u p (λy j w=>{kvs.length - (i+1),(),O,c,?_,w}) λf C=>{kvs.length - (i+1),(),O,c,(),C}
  [qi,qt];¥
 .#e:i=kvs.length:=()
  £e;!.inl {{n _ _ H p,qe _},λq z=>B H q ys p t z}
§j2(H:Hp):#V->#(Key×V)->¤
 |[],[]=>True
 |y::ys,e::es=>(∃b,y=.ref b/\H b=!(.tup [kV e.1,e.2]))/\j2 H ys es
 |_,_=>False
§OC(t u:TS):TS:=λD σ H=>∃P:St->Hp->¤,t { D with nx:=P } σ H/\∀σ' H',P σ' H'->u D σ' H'
§Hj(t:TT):TT:=λσ H Q=>∃P:Bool->Hp->¤,t σ H P/\∀b H',P b H'->Q b H'
section
variable {X:Cx}{st:Stmt}{rest:#Stmt}{t u:TS}
§oS(h1:PS X st t)(h2:ig X rest u):ig X (st::rest) (OC t u):=by
 ?{?_};¢pins s σ H D I h;@P,h,k:=h;?wpAny_execs_cons (bK (h1 pins s σ H { D with nx:=P } I h) λf b q=>?_)
 cases f with
 |next =>
  @σ',H',a,q:=q;!h2 pins b σ' H' D a (k σ' H' q)
 |ret v=>!q
 |brk=>!q
 |cont=>!q
§tW{e:Expr}{t:TT}(h:PT X e t):PT X e (Hj t):=by
 ?{?_};¢pins s σ H Q I q;@P,h1,h2:=q;!bK (h pins s σ H P I h1) λb c ⟨H',a,q⟩=>{H',a,h2 _ _ q}
end
section
variable {prog:Program}{w:World}{A:Around}{E:KE}{s:RX}
§Cw{es:Array DictEntry}(f:(d==sysModules)=¿)(c:s.heap.get? d=!od)(g:od.ExactDict)(b:od.data=.dict es ep)(h:Q (.ref ↑s) { s with heap:=s.heap.push { cls:=.type "dict_keyiterator",data:=.fields #[.ref d,.int 0 0,.int es.size 0,.int ep 0] } }):wpAny (model prog w) A (pyIter (.ref d)) Q E s:=by
 #e:s.TypeIs (.ref d) "dict":={od,c,g.1};?wpAny_pyIter_slot e F.slot_dict_iter (qN F.slot_dict_iter e F.entry_dict_iter ?_ (F.args_dict_iter_1 _));unfold Builtin.«dict.__iter__» Builtin.Dict.dictSlotNone;?qA (qA (wpAny_notOrdered_dict e ?_));?qE (a:=Value.ref d) ?_;¤wpAny _ _ (Builtin.Dict.showsAll d >>= _) _ _ s;¶Builtin.Dict.showsAll;[qB (by[f];decide)];?qA (qE (qA (wpAny_dictEntries c b (qA (wpAny_dictEpoch c b ?_)))));!qA (wpAny_newObj_type (qE {_,O,"dict_keyiterator",_,{_,qL _ rfl,O},F.slot_dict_keyiterator_next.lookup,by simpa[rawInt] using h}))
§xb{it d:R0}{i n ep:Nat}{od:Obj}{es:Array DictEntry}{Q:Option MD->RX->¤}(l:A.handled=£)(c:s.heap.IsKeyIter it d i n ep)(f:s.heap.get? d=!od)(h:od.data=.dict es ep)(hn:es.size=n)(h1:∀(hi:i<es.size) h',h'.IsKeyIter it d (i+1) n ep->Heap.SameBut it s.heap h'->Q (some es[i].key) { s with heap:=h' })(h2:es.size<=i->∀h',Heap.ExtBut it s.heap h'->Q none { s with heap:=h' }):wpAny (model prog w) A (pyNext (.ref it)) Q E s:=by
 @o,k,p,j:=id c;£hn;¶pyNext
 ?qA (wpAny_attempt (wpAny_callSpecial?_slot (name:=Str.ofString "__next__") c.typeIs F.slot_dict_keyiterator_next
  (qN F.slot_dict_keyiterator_next c.typeIs F.entry_dict_keyiterator_next ?_ (F.args_dict_keyiterator_next_1 _))))
 ?qA (qE (qA (qA ?_)))
 first|?qA (wpAny_typeNameOfWhole_keyiter c.typeIs (qE ?_))|?qA (wpAny_typeNameOf_keyiter c.typeIs (qE ?_))
 ?qA (wpAny_fieldsOf k j ?_)
 simp only[show Builtin.Dict_items.ownsTuple "dict_keyiterator"=¿ from ⋯,Bool.false_eq_true,if_false]
 ¤wpAny _ _ (if(Value.ref d==Value.none)=¶ then _ else _) _ _ s;[qB (show ¬((Value.ref d==Value.none)=¶) from qr)];?qA (qE (qA (wpAny_dictEntries f h ?_)));[qB (by simp)];?qA (qE (qA (wpAny_dictEpoch f h ?_)));[qB (by simp)];?qE ?_
 ¿hi:i<es.size
 .simp only[show ¬((i:Int)<0) from (),if_false,Int.toNat_natCast,Array.getElem?_eq_getElem hi]
  ?qA ?_
  first|?qA (wpAny_typeNameOfWhole_keyiter c.typeIs (qE ?_))|?qA (wpAny_typeNameOf_keyiter c.typeIs (qE ?_))
  ?qA (wpAny_isOneOf_keyiter c.typeIs ?_);¤wpAny _ _ (setField (.ref it) 1 (rawInt ((i:Int)+1)) >>= _) _ _ s;?qA (wpAny_setField k j (by simp) ?_)
  #e:(s.heap.update it (Obj.mapFields (·.setIfInBounds 1 (rawInt ((i:Int)+1))))).IsKeyIter it d (i+1) es.size ep :=
   {_,Heap.get?_update_self _ k (Obj.isFreed_of_fields (Obj.data_mapFields j _)),(Obj.cls_mapFields ..).trans p,by[Obj.data_mapFields j];simp[rawInt]}
  ?qA (qK (qA (wpAny_isOneOf_keyiter (s:={ s with heap:=s.heap.update it (Obj.mapFields (·.setIfInBounds 1 (rawInt ((i:Int)+1)))) }) e.typeIs ?_)));¤wpAny _ _ (pure es[i].key) _ _ _;!qE (qE {_,O,qE (h1 hi _ e (Heap.SameBut.update ..))})
 .#g:es.size<=i:=()
  simp only[show ¬((i:Int)<0) from (),if_false,Int.toNat_natCast,Array.getElem?_eq_none g]
  ?qA ?_
  first|?qA (wpAny_typeNameOfWhole_keyiter c.typeIs (qE ?_))|?qA (wpAny_typeNameOf_keyiter c.typeIs (qE ?_))
  ¤wpAny _ _ (setField (.ref it) 0 .none >>= _) _ _ s;?qA (wpAny_setField k j (by simp) ?_);¤wpAny _ _ (newExc (.type "StopIteration") [] >>= _) _ _ _;?qA ?_
  simp only[newExc,newTuple]
  ?qA (wpAny_newObj_type ?_ (by size_fits));?qA (m:=firstArgMember _ _) (wpAny_of_eq (a:=Value.none) (by first|rfl|(simp only[firstArgMember];rfl)) ?_);?wpAny_newObj_type ?_ (by size_fits)
  simp only[raiseNew]
  ?qA (wpAny_handled ?_);[show A.in1.handled=£ from l];?qA (qE (wpAny_throw ?_));?qA (wpAny_isInstance (T:="StopIteration") (b:=¶) {_,qL _ rfl,O} isSubtype_stop ?_);!qE (h2 g _ (((Heap.SameBut.update ..).extBut.push _).push _))
end
theorem AK{α β:Type}{F:α->β->¤}:∀{l₁:List α} {a:List β},Paired F l₁ a->∀(i:Nat) (h1:i<l₁.length) (h2:i<a.length),F l₁[i] a[i]
 |_,_,.cons r _,0,_,_=>r
 |_,_,.cons _ t,i+1,h1,h2=>AK t i (bf h1) (bf h2)
section
variable {X:Cx}{pins:#(R0×Obj)}{σ:St}{H:Hp}{s:RX}
§Inv.ov(I:Inv X pins σ H s)(e:H a=!(.dG kvs))(i:s.heap.get? a=!o):Inv X pins σ (upd H a (.cJ o (.dG kvs))) s:=by
 ?I.un (t':=s.toks) (h':=s.heap) {λb ob q _ _ _=>q,λb ob q _ _ _=>{ob.slots,q},λb ob q n _=>?_,λb ob q _=>{ob,q},λb xs q=>?_,λb ob u q=>?_,λb ps q=>?_,λb ob xs q n=>q} λb u q=>?_
 .[ax (λz=>by[z,e]at n;&n)];!n
 .[ax (λz=>by[z,e]at q;&q)];!q
 .[ax (λz=>by[z,e]at q;&q)];!q
 .!{#[],by[ax (λz=>by[z,e]at q;&q),q];simp}
 .#f:∀c {d:R0},H c=!(.own d)->(upd H a (.cJ o (.dG kvs))) c=!(.own d):=λc d q=>by[ax (λz=>by[z,e]at q;&q)];!q
  #g:∀c xs,H c=!(.tup xs)->(upd H a (.cJ o (.dG kvs))) c=!(.tup xs):=λc xs q=>by[ax (λz=>by[z,e]at q;&q)];!q
  ¿h:b=a
  .£h
   [aD]at q;&q;!{i,(show aV X.prog X.w H s.heap b (.dG kvs) from I.aS b _ e).cP (λ_ _ _ q=>q) (λc q=>f c q) g}
  .[ax h]at q
   !(I.aS b u q).cP (λ_ _ _ q=>q) (λc q=>f c q) g
§pR{es:Array DictEntry}(q:o.data=.dict es ep)(I:Inv X pins σ H s)(e:H a=!(.cJ o (.dG kvs))):s.heap.get? a=!o/\es.size=kvs.length/\∀i (hi:i<es.size) (d:i<kvs.length),RelV kvs[i].2.1 es[i].key:=by
 obtain⟨h,_,_,xs,g,o',p,m,c,_,b,k,_⟩:s.heap.get? a=!o/\aV X.prog X.w H s.heap a (.dG kvs):=I.aS a _ e;[h]at c;&c;[q]at b;injection b with b _;£b
 #n:es.toList.length=kvs.length:=by[k,qj,g.length]
 ?{h,by ±n,λi hi d=>?_}
 #j:i<xs.length:=by[←g.length];!d
 #f:=AK g i d j
 #l:es[i].key=xs[i].2.1:=by
  #h1:es.toList[i]?=some es[i]:=by simp[hi]
  [k,qu,qh j]at h1;[←qJ h1];rfl
 [l];!f.2.2.1
end
§uV(a:R0)(o:Obj)(kvs:#(KD×V×V)):It :=
 {λi H=>H a=!(.cJ o (.dG kvs))/\i<kvs.length,λi H x H'=>H'=H/\∃e,kvs[i]?=!e/\x=e.2.1,λi H=>H a=!(.cJ o (.dG kvs))/\kvs.length<=i}
§NY{P:Program}{w:World}{K:PySem.W.Frag}{tg:Expr}(a it:R0){o:Obj}{es:Array DictEntry}{ep:Nat}{kvs:#(KD×V×V)}(n:o.data=.dict es ep):Turn P w K tg (uV a o kvs) [it] it (λi h=>h.IsKeyIter it a i kvs.length ep) where
 mem:=by simp
 obj:=λi h st b g=>by
  #e:b=it:=by ±g
  £e;@o,e,c,d:=st;!{o,e,λv z=>by[d]at z;&z}
 keep:=λi h h' st k=>st.at λo e=>k it (by simp) o e
 item:=by
  ¢X y r B G i pins s σ H E I m st x;subst y r B;@q,hi:=x;@t,D,j:=pR n I q;@F,p,L,u,C,A:=m it (by simp)
  ?xb (I.ok.hd G) st t n D (λf h' l N=>?_) λz=>absurd hi ()
  #J:Inv X pins σ H { s with heap:=h' }:=I.turned (t':=s.toks) (λb o g e=>(N.2 b g).trans e) F p u C A;@ob,e,c,d:=id l;!{es[i].key,O,nG (s:={ s with heap:=h' }) e c d ⋯ {kvs[i].2.1,H,J,j i f hi,{O,kvs[i],qh hi,O},l,λb g=>(m b g).1}}
 done:=by
  ¢X y r B G i pins s σ H E I m st x;subst y r B;@q,hi:=x;@t,D,j:=pR n I q;@F,p,L,u,C,A:=m it (by simp);!xb (I.ok.hd G) st t n D (λf=>absurd f ()) λ_ h' M=>{O,I.turned (t':=s.toks) (λb o g e=>M b o g e) F p u C A}
 self:=λ_ _ _ _ _ st h=>wpAny_pyIter_keyiter st h
inductive vX(R:It->Hp->¤)(x:V)(H1:Hp):Prop
 |mk(a kvs:_)(_:x=.ref a)(_:((H1 a=!(.dG kvs)/\∀o,R (uV a o kvs) (upd H1 a (.cJ o (.dG kvs))))\/∃o,H1 a=!(.cJ o (.dG kvs))/\R (uV a o kvs) H1))
§C7(tl:TE):TI:=λσ H R=>tl σ H λx H1=>vX R x H1
section
variable {X:Cx}{tg:Expr}
§JA{l:Expr}{tl:TE}(r:PE X l tl):PI X tg l (C7 tl):=by
 ?{?_};¢pins s σ H R I h;?bK (r pins s σ H _ I h) λv c ⟨x,H1,k,z,u⟩=>?_;@a,kvs,e,q:=u;£e;&z
 #main:∀(H2:Hp) (o:Obj),Inv X pins σ H2 c->H2 a=!(.cJ o (.dG kvs))->R (uV a o kvs) H2->wpAny (model X.prog X.w) X.A (pyIter (.ref a)) (LK X pins σ tg R) X.xe c:=λH2 o g p y=>by
  obtain⟨i,_,m,xs,_,o',es,ep,f,B,n,_,_⟩:c.heap.get? a=!o/\aV X.prog X.w H2 c.heap a (.dG kvs):=g.aS a _ p;[i]at f;&f;@_,d,_:=pR n g p;?Cw m i B n ?_;?{↑c,[↑c],_,_,H2,O,g.kept (t':=c.toks) λb o e=>qH _ e,NY a _ n,{_,qL _ rfl,O,by[d];rfl},λb t=>?_,y}
  #e:b=↑c:=by ±t
  £e;!g.kY (qe _) (g.aS.fresh (qe _))
 @⟨j,q⟩|⟨o,j,q⟩:=q
 .@_,_,xs,_,o,es,ep,i,_:=(show aV X.prog X.w H1 c.heap a (.dG kvs) from k.aS a _ j)
  !main _ o (k.ov j i) aD (q o)
 .!main _ o k j q
end
§GI{a:R0}{o:Obj}{kvs:#(KD×V×V)}{g:TG}{tb:TS}{D:Ends}{σ:St}{H:Hp}(b:Nat->St->Hp->¤)(h0:b 0 σ H)(f:∀i σ H,b i σ H->H a=!(.cJ o (.dG kvs)))(l:∀i e σ H,kvs[i]?=!e->b i σ H->g e.2.1 σ H λc H2=>tb { D with nx:=b (i+1),ct:=b (i+1),bk:=D.nx } c H2)(q:∀σ H,b kvs.length σ H->D.nx σ H) :
  ∃W:Nat->Nat->St->Hp->¤,(∃m,W 0 m σ H)/\∀i m σ H,W i m σ H->
   ((uV a o kvs).stop i H/\D.nx σ H)\/((uV a o kvs).go i H/\∃N:St->Hp->¤,(∀σ' H',N σ' H'->∃h,h<m/\W (i+1) h σ' H')/\∀x H',(uV a o kvs).xD i H x H'->g x σ H' λc H2=>tb { D with nx:=N,ct:=N,bk:=D.nx } c H2):=by
 ?{λi m σ H=>m=kvs.length - i/\i<=kvs.length/\b i σ H,{kvs.length,by simp,Nat.zero_le _,h0},?_};rintro i m σ H ⟨rfl,hi,p⟩
 ¿d:i<kvs.length
 .?.inr {{f i σ H p,d},b (i+1),λσ' H' n=>{kvs.length - (i+1),(),O,d,n},λx H' y=>?_}
  @e,k,j,rfl:=y;£e;!l i k σ _ j p
 .#e:i=kvs.length:=()
  £e;!.inl {{f _ σ H p,qe _},q σ H p}
section
variable {P:Program}{w:World}{A:Around}{E:KE}{s:RX}
§PQ{d:R0}{vs:#(Key×MD)}{k:Key}{v val:MD}{Q:KE}(a:(ah P w).is k v=¶)(g:s.heap.DictOf (ah P w) d vs)(hsz:vs.length<=sizeLine)(h1:∀u,valueAt vs k=!u->Q u { s with toks:=s.toks+1 })(h2:valueAt vs k=£->∀h',h'.DictOf (ah P w) d (stored vs k val)->Heap.SameBut d s.heap h'->Q val { s with heap:=h',toks:=s.toks+1 }):wpAny (model P w) A (dictSetDefault d v val) Q E s:=by
 @o,es,ep,p,M,m,G,hp,hn:=g
 #D:es.size<=sizeLine:=by #I:=hp.length;[zx]at I;¥
 #H:(es.findIdx? λe=>(ah P w).is k e.key)=vs.findIdx? λj=>decide (j.1=k):=by
  [←hp.findIdx k];@⟨l⟩:=es;simp
 ¶dictSetDefault
 try with_reducible ?qK ?_
 ?qA ((ah P w).pyHash a (qA (wpAny_dictFind_of (s:={ s with toks:=s.toks+1 }) a p m G ?_)))
 cases hi:es.findIdx? λe=>(ah P w).is k e.key with
 |none =>
  have c:k∉vs.map (·.1):=not_mem_of_findIdx_none (H▸hi)
  have b:¬(vs.any λj=>decide (j.1=k))=¶:=λz=>by
   @j,C,q:=yz.mp z;!c (qf.mpr {j,C,qO q})
  have J:valueAt vs k=£:=by
   [←hp.find k]
   have:es.toList.find? (λe=>(ah P w).is k e.key)=£:=by
    [jw];¢e q z;have K:=Array.findIdx?_eq_none_iff.mp hi e (j5.mp q);[K]at z;&z
   [this];rfl
  ?qA (wpAny_rule (qA (wpAny_updateDictKeys (hz:=D) (s:={ s with toks:=s.toks+1 }) p m (qE (h2 J _ {_,_,ep+1,Heap.get?_update_self _ p (Obj.isFreed_of_dict (Obj.data_mapDictKeys m _)),M.mapDictKeys _,Obj.data_mapDictKeys m _,G.push a _,?_,?_} (Heap.SameBut.update ..))))))
  .[stored,qB b]
   have:=hp.append a ((ah P w).hash k) val;@⟨l⟩:=es;±this
  .[stored,qB b,z7,wt]
   ?{hn,by simp,λx t y L z=>?_};[z]at t;[qx.mp L]at t;!c t
 |some i =>
  @f,_,_:=Array.findIdx?_eq_some_iff_getElem.mp hi;have r:vs.findIdx? (λj=>decide (j.1=k))=!i:=H▸hi;@B,h,_:=mo.mp r;have h:vs[i].1=k:=qO h
  have F:vs[i]?=!(k,vs[i].2):=by[qh B,←h]
  @_,n:=hp.get? (i:=i) (e:=es[i]) (k:=k) (v:=vs[i].2) (by[ym];!yw f) F;?qA (wpAny_dictEntries (s:={ s with toks:=s.toks+1 }) p m ?_);[yw f];?qA (wpAny_rule (qE ?_));[n];!h1 _ (valueAt_of_get hn F)
§MO(f:(d==sysModules)=¿):MeetsIn P w (Builtin.«dict.setdefault» {[.ref d,v,b],[]}) (λA R s=>∃k vs,(ah P w).is k v=¶/\s.heap.DictOf (ah P w) d vs/\vs.length<=sizeLine ∧
      (∀u,valueAt vs k=!u->R (.ok (.ret u)) { s with toks:=s.toks+1 })/\(valueAt vs k=£->∀h',h'.DictOf (ah P w) d (stored vs k b)->Heap.SameBut d s.heap h'->R (.ok (.ret b)) { s with heap:=h',toks:=s.toks+1 })) :=
 .of_wp λA R s ⟨k,vs,a,g,hz,h1,h2⟩=>by
  unfold Builtin.«dict.setdefault»;?qA ?_;¶Builtin.Dict.keyAndDefault;?qA (wpAny_notOrdered_dict g.typeIs (qE ?_));¤wpAny (model P w) _ (if(d==sysModules)=¶ then _ else(dictSetDefault d v b >>= _)) _ _ s;[qB (by[f];decide)];!qA (PQ a g hz (λu e=>qE {u,O,h1 u e}) λe h' g' c=>qE {b,O,h2 e h' g' c})
end
inductive uN(x:V)(vs:#V)(H:Hp)(Q:VK):Prop
 |mk(a kvs k d:_)(_:x=.ref a)(_:vs=[kV k,d])(_:H a=!(.dK kvs))(_:kvs.length<sizeLine)(_:(∀u,bO kvs k=!u->Q u H))(_:(bO kvs k=£->Q d (upd H a (.dK (putK kvs k d)))))
section
variable {X:Cx}
§Mw:wN X "dict.setdefault" uN:=by
 ¢pins s σ H x xs v us Q I y w h;@a,kvs,k,d,rfl,rfl,n,E,p,t:=h;@u,D,rfl,A,f:=w.two;&y;@z,o,ys,c,m:=tS I.aS n;#b:=c.val k;?call_meetsIn F.slot_dict_setdefault m.typeIs F.entry_dict_setdefault (F.args_dict_setdefault_3 _ _ _) (MO o) {k,ys,oH A,m,by[←c.length];!z,λC j=>?_,λj h' g l=>?_}
 .[j]at b
  cases e:bO kvs k with
  |none=>rw[e]at b;!b.elim
  |some v=>rw[e]at b;!{v,H,I.tok _,b,p v e}
 .[j]at b
  cases e:bO kvs k with
  |some v=>rw[e]at b;!b.elim
  |none =>
   have i:(putK kvs k d).length<=sizeLine:=by have:=Dv kvs k d;¥
   have r:∃q,h'.get? a=!q:=let⟨q,_,_,B,_⟩:=g;{q,B}
   !{d,upd H a (.dK (putK kvs k d)),pU I (by[n];!True.intro) l r (Kw i o (c.put k f) g),f,t e}
end
section
variable {prog:Program}{w:World}{A:Around}{E:KE}{s:RX}
§Hh{es:Array DictEntry}(q:A.handled=£)(n:it≠d)(a:od.data=.dict es ep) :
  WalksS prog w A it [it,d] [it] Eq es.size (λj v=>(es[j]?).map (·.key)=!v) (λi s=>s.heap.IsKeyIter it d i es.size ep/\s.heap.get? d=!od) where
 sub:=λb l=>by[qx.mp l];!qm
 grefl:=λ_=>rfl
 gtrans:=λ_ _ _ h1 h2=>h1.trans h2
 frame:=λi s h' tk ⟨⟨o,e,c,t⟩,g⟩ _ k=>{{o,k it qm o e,c,t},k d (qy _ qm) od g}
 item:=λi s Q E hi ⟨st,g⟩ k=>xb q st g a rfl (λf h' m p=>k _ _ (by[yw f];rfl) {m,(p.2 d n.symm).trans g} {λb o l e=>(p.2 b (λz=>l (by[z];!qm))).trans e,O,O,O,qe _}) λz=>absurd hi ()
 done:=λs Q E ⟨st,g⟩ k=>xb q st g a rfl (λf=>absurd f ()) λ_ h' r=>k _ {λb o l e=>r b o (λz=>l (by[z];!qm)) e,O,O,O,qe _}
 self:=λi s Q E ⟨st,_⟩ h=>wpAny_pyIter_keyiter st h
§Kg{es:Array DictEntry}(h:ItemsOf (λj v=>(es[j]?).map (·.key)=!v) acc es.size):acc.toList=es.toList.map (·.key):=by
 apply yc;¢j
 ¿a:j<acc.size
 .#b:j<es.size:=by[←h.1];!a
  #:=h.2 j acc[j] (yw a);[ym,yw a,qu,ym];!this.symm
 .#b:¬j<es.size:=by[←h.1];!a
  [v9 (by[zx];¥),v9 (by[qj,zx];¥)]
§Qk{d:R0}{od:Obj}{es:Array DictEntry}{ep:Nat}{Q:#MD->RX->¤}(I:A.handled=£)(J:(d==sysModules)=¿)(B:s.heap.get? d=!od)(G:od.ExactDict)(i:od.data=.dict es ep)(hz:es.size<=sizeLine)(L:∀s',Moved [] Eq s s'->Q (es.toList.map (·.key)) s'):wpAny (model prog w) A (collect (.ref d)) Q E s:=by
 ¶collect;?qA (wpAny_runValue (codeAny_builtin F.entry_proto_collect ?_));[Around.under_plainId F.plain_proto_collect _];¤wpAny _ A.in1 (newList [] >>= λl=>again (.builtin "list.__iadd__" {[l,.ref d],[]})) _ _ s;?qA (wpAny_newObj_type ?_);?qE {plainId_quiet F.plain_list_iadd _,codeAny_builtin F.entry_list_iadd ?_};[Around.under_plainId F.plain_list_iadd _];#k:(s.heap.push { cls:=.type "list",data:=.seq ([]:#MD).toArray }).get? d=!od:=qH _ B;#K:Shared.TypeIs { s with heap:=s.heap.push { cls:=.type "list",data:=.seq ([]:#MD).toArray } } (.ref d) "dict":={od,k,G.1}
 #f:d<↑s:=by
  @h|h:=jl d ↑s
  .!h
  .exfalso
   #:s.heap.get? d=£:=by
    unfold Heap.get?;[bg h]
   [this]at B;&B
 #h1:Builtin.List.listSameRef (.ref ↑s) (.ref d)=¿:=by
  ¤(↑s==d)=¿;!beq_eq_false_iff_ne.mpr (zu f)
 ¤wpAny _ A.in1 (Builtin.List.listExtendWith (.ref ↑s) (.ref d) (.ref ↑s)) _ _ _;¶Builtin.List.listExtendWith;?qA (wpAny_typeOf K ?_);[qB (by[h1];decide)];?qA (Cw J k G i ?_);?qA (qK ?_);generalize g:(s.heap.push { cls:=.type "list",data:=.seq ([]:#MD).toArray }).push { cls:=.type "dict_keyiterator",data:=.fields #[.ref d,.int 0 0,.int es.size 0,.int ep 0] }=h2
 #t:h2.get? d=!od:=by[←g];!qH _ k
 #n:Shared.TypeIs { s with heap:=h2 } (.ref d) "dict":={od,t,G.1};¶Builtin.List.listLengthHint;?qA (wpAny_specialOf (name:=Str.ofString "__len__") n F.slot_dict_len.lookup ?_);generalize v:("dict.__len__":String)=id0
 wp_delta
 [show splitId id0=some ("dict","__len__") from by £v;decide +kernel];£v;?qA (wpAny_isInstance (T:="dict") n PySem.F.sub_dict_dict ?_);[qB ⋯]
 wp_delta
 [qF ∅];?qA (wpAny_typeOf n (qE ?_));[qF ∅]
 #q:h2.get? ↑s=some { cls:=.type "list",data:=.seq ([]:#MD).toArray }:=by[←g];!qH _ (qL _ rfl)
 ?qA (wpAny_rule (qA ?_));¶Builtin.List.listTouch;?qA (listUpdate_at q rfl ?_);obtain⟨H,m⟩:∃H,(h2.update ↑s (Obj.mapSeq (·.push Value.none))).get? ↑s=!(seqObj "list" #[Value.none] H):={_,get?_update_seq q _};#c:∀b o,b≠↑s->h2.get? b=!o->(h2.update ↑s (Obj.mapSeq (·.push Value.none))).get? b=!o:=λb o j e=>(Heap.get?_update_other _ _ (λz=>j z.symm)).trans e;generalize h2.update ↑s (Obj.mapSeq (·.push Value.none))=h3 at m c;?listUpdate_at (s:={ s with heap:=h3 }) m rfl ?_;obtain⟨D,p⟩:∃D,(h3.update ↑s (Obj.mapSeq (·.pop))).get? ↑s=!(seqObj "list" #[] D):={_,get?_update_seq m _};#a:∀b o,b≠↑s->h2.get? b=!o->(h3.update ↑s (Obj.mapSeq (·.pop))).get? b=!o:=λb o j e=>(Heap.get?_update_other _ _ (λz=>j z.symm)).trans (c b o j e);¤wpAny _ _ _ _ _ { s with heap:=h3.update ↑s (Obj.mapSeq (·.pop)) };generalize h3.update ↑s (Obj.mapSeq (·.pop))=h4 at p a;#hsz:(s.heap.push { cls:=.type "list",data:=.seq ([]:#MD).toArray }).objs.size=↑s+1:=size_push' _ _
 #r:h2.get? (↑s+1)=some { cls:=.type "dict_keyiterator",data:=.fields #[.ref d,.int 0 0,.int es.size 0,.int ep 0] }:=by[←g,←hsz];!qL _ rfl
 ¤wpAny _ _ (again (Code.builtin "list.extend.loop" {[Value.ref ↑s,Value.ref (s.heap.push { cls:=.type "list",data:=.seq ([]:#MD).toArray }).objs.size,Value.ref ↑s],[]})) _ _ _;[hsz];#W:=Hh (prog:=prog) (w:=w) (A:=A.in1) (it:=↑s+1) (d:=d) (od:=od) (es:=es) (ep:=ep) I (zu (yn f)) i;?qE {plainId_quiet F.plain_extend_loop _,codeAny_extend_loopS W hz ↑s (λz=>?_) _ es.size 0 { s with heap:=h4 } #[] D rfl (qv _) {{_,a _ _ (gg _) r,O,O},a _ _ (qp f) t} p (ItemsOf.nil _) λs' u M y C x=>?_}
 .ac_nf at z
  @z|z:=z
  .!gg _ z.symm
  .!zu f z
 .¤wpAny _ A (load ↑s >>= _) _ _ s'
  ?qA (wpAny_load C ?_);¤wpAny _ _ (pure u.toList) Q E s';[Kg x];?qE (L s' {λb o _ e=>?_,y.gens,y.drawn,y.os,y.toks})
  #j:b<↑s:=by
   @h|h:=jl b ↑s
   .!h
   .exfalso
    #:s.heap.get? b=£:=by
     unfold Heap.get?;[bg h]
    [this]at e;&e
  ?y.heap b o (λz=>?_) (a b o (qp j) ?_)
  .ac_nf at z
   @z|z:=z
   .!qp j z
   .!qp (yn j) z
  .[←g]
   !qH _ (qH _ e)
§NZ{es:Array DictEntry}{lt:Nat->Nat->Bool}(W:Srt.eQ lt)(r:A.handled=£)(u:(d==sysModules)=¿)(o:s.heap.get? d=!od)(y:od.ExactDict)(f:od.data=.dict es ep)(n:es.toList.map (·.key)=vs)(g:vs.length<=2000)(j:LN lt vs.length)(b:∀s',Moved [] Eq s s'->∀h',f9 s'.heap h'->2<=vs.length->Answers prog w A.in1.in1 { s' with heap:=h' } vs lt)(h:∀s' h' a p c,Moved [] Eq s s'->f9 s'.heap h'->↑s'<=a->Arr vs.length lt p->h'.get? a=!(seqObj "list" (List.toArray (p.toList.map λi=>vs.getD i Value.none)) c)->Q (.ref a) { s' with heap:=h' }) :
  wpAny (model prog w) A (call (.builtin "sorted") [.ref d]) Q E s:=by
 #z:es.size=vs.length:=by[←n,qj,zx]
 #q:vs.length<=sizeLine:=by[sizeLine_eq];¥
 ?Calls.call_function_entry kind_sorted plain_sorted entry_sorted (args_sorted1 _) ?_;unfold Builtin.«sorted»;?qA (m:=checkCount "sorted" 1 1 _) (qE (qA (Qk r u o y f () λs' l=>?_)));[n];?qA (wpAny_newList ?_ q);#v:f9 s'.heap (s'.heap.push (seqObj "list" vs.toArray 0)):=.push _ _;#k:(s'.heap.push (seqObj "list" vs.toArray 0)).get? ↑s'=!(seqObj "list" vs.toArray 0):=qL _ rfl;¤wpAny (model prog w) _ _ _ _ { s' with heap:=s'.heap.push (seqObj "list" vs.toArray 0) };?qA (qK (qN slot_list_sort {_,k,O} entry_list_sort (Ny W k g j (h0:=s'.heap) (qe _) v (b s' l) λh' p c x t e=>?_) (args_list_sort _)));!{_,O,qE {_,O,h s' h' _ p c l x (qe _) t e}}
end
§Inv.moved{X:Cx}{pins:#(R0×Obj)}{σ:St}{H:Hp}{s s':RX}(I:Inv X pins σ H s)(m:Moved [] Eq s s'):Inv X pins σ H s':=by
 #e:s'={ s with heap:=s'.heap,toks:=s'.toks }:=by
  @h1,h2,a,c,d:=m;&s;&s';&h2;&a;&c;rfl
 [e]
 !I.kept (t':=s'.toks) λb o q=>m.heap b o (by simp) q
inductive AM(xs:#V)(H:Hp)(Q:VK):Prop
 |mk(p kvs ds t:_)(_:xs=[.ref p])(_:Rd H p (.dG kvs))(_:dO H (kvs.map (·.2.1)) ds)(_:KeysAre ds t)(_:kvs.length<64)(_:∀q H' ix,H q=£->af H H'->df ds ix->H' q=!(.lst (ix.map λi=>(kvs.map (·.2.1)).getD i .aR))->Q (.ref q) H')
inductive w_(xs:#V)(H:Hp)(Q:VK):Prop
 |mk(p kvs ds t:_)(_:xs=[.ref p])(_:Rd H p (.dK kvs))(_:dO H (kvs.map λe=>kV e.1) ds)(_:KeysAre ds t)(_:kvs.length<64)(_:∀q H' ix,H q=£->af H H'->df ds ix->H' q=!(.lst (ix.map λi=>(kvs.map λe=>kV e.1).getD i .aR))->Q (.ref q) H')
section
variable {X:Cx}
§Gv{pins:#(R0×Obj)}{σ:St}{H:Hp}{s:RX}{p:R0}{od:Obj}{es:Array DictEntry}{ep:Nat}{ys:#V}{its:#MD}{ds:#RY}{t:_}{Q:VK}(F:X.A.units+3+61<cLine)(u:X.A.handled=£)(I:Inv X pins σ H s)(y:(p==sysModules)=¿)(r:s.heap.get? p=!od)(D:od.ExactDict)(b:od.data=.dict es ep)(z:es.toList.map (·.key)=its)(g:aK ys its)(o:dO H ys ds)(n:KeysAre ds t)(E:ys.length<64)(q:∀q H' ix,H q=£->af H H'->df ds ix->H' q=!(.lst (ix.map λi=>ys.getD i .aR))->Q (.ref q) H') :
  wpAny (model X.prog X.w) X.A (call (.builtin "sorted") [.ref p]) (λv s'=>∃x H',Inv X pins σ H' s'/\RelV x v/\Q x H') X.xe s:=by
 #C:=g.length;#d:=HQ o;?NZ (lt:=oC ds) (JH n.one) u y r D b z () (.inl ()) (λs' m h' x h2=>?_) λs' h' a l c m x f k e=>?_
 .@G,B:=o.reads (I.moved m) g
  !GA (s:={ s' with heap:=h' }) (oT x B) n h2 (by ¤X.A.units+1+1+60<cLine;¥)
 .#h:=I.moved m
  #j:∀i∈l.toList,i<ys.length:=λi hi=>by
   #:=(k.1.toList.mem_iff).mp hi
   simp at this
   ¥
  ?{.ref a,upd H a (.lst (l.toList.map λi=>ys.getD i .aR)),h.laid x f {?_,_,c,G_ g _ j,e},O,q a _ l.toList (h.aS.fresh f) (af.new (h.aS.fresh f)) (LA (by[←d,C];!k)) aD};#hz:its.length<=sizeLine:=ww (cF ());[qj,zx,k.1.size_eq]
  simp
  ¥
§Gz{xa:#(KD×MD×MD)}(h:Paired (GP H) b xa):aK (b.map (·.2.1)) (xa.map (·.2.1)):=by
 induction h with
 |nil=>!.nil
 |cons a _ c=>!.cons a.2.2.1 c
§PZ{P:Program}{w:World}{es:#DictEntry}{vs:#(Key×MD)}(h:Pairs (ah P w) es vs):∀{kvs:#(Key×V)},KV kvs vs->aK (kvs.map λe=>kV e.1) (es.map (·.key)):=by
 induction h with
 |nil=>intro kvs r;&r;!.nil
 |@cons d _ _ _ i _ _ f =>
  ¢kvs r
  cases r with
  |@cons g _ _ _ a t =>
   refine .cons ?_ (f t);¤RelV (kV g.1) d.key;[a.1];@⟨j,u,c,b⟩|⟨x,u,c,b⟩:=fQ i
   .[c,b];!{u,O}
   .[c,b];!{u,O}
§Qd(i:X.A.units+3+61<cLine)(k:X.A.handled=£):cA X (.builtin "sorted") (AM):=by
 ¢pins s σ H xs us Q I r h;@p,kvs,ds,t,rfl,n,w,e,c,q:=h;@u,rfl,g:=vals1 r;&g;@_,b,f,m,o,es,ep,d,v,a,j,l,hn:=eu I n;!Gv i k I b d v a (its:=f.map (·.2.1)) (by[j,z9];rfl) (Gz m) w e (by[qj];!c) q
§QG(i:X.A.units+3+61<cLine)(j:X.A.handled=£):cA X (.builtin "sorted") (w_):=by
 ¢pins s σ H xs us Q I r h;@p,kvs,ds,t,rfl,k,m,f,d,q:=h;@u,rfl,g:=vals1 r;&g;@_,b,vs,c,o,es,ep,e,l,a,_,hp,_:=nW I.aS k;!Gv i j I b e l a rfl (PZ hp c) m f (by[qj];!d) q
end
section
variable {prog:Program}{w:World}{A:Around}{E:KE}{s:RX}
§Pa{l m sl:R0}{xs ys:Array MD}{k p:MD}{lo hi:Nat}{Q:Unit->RX->¤}(g:s.heap.IsList l xs)(t:s.heap.IsList m ys)(i:l≠m)(y:s.heap.IsSliceOf sl k p .none)(B:IsPart k (!(lo:Int)))(z:IsPart p (!(hi:Int)))(h1:lo<=hi)(h2:hi<=xs.size)(hz:xs.size+ys.size<=sizeLine)(D:Q Unit.unit { s with heap:=s.heap.update l (Obj.mapSeq λxs=>xs.extract 0 lo++ys++xs.extract hi) }) :
  wpAny (model prog w) A (setItem (.ref l) (.ref sl) (.ref m)) Q E s:=by
 @o,q,H,ne,r:=id g;@G,j,u,F,h:=id t;@v,a,n,b:=id y;#f:s.TypeIs (.ref sl) "slice":={v,a,n};¶setItem
 try with_reducible ?qK ?_
 first|?qA (qE ?_)|skip
 ?qA (wpAny_sequenceKey g.typeIs ⋯ ?_)
 ?qA (wpAny_callSpecial?_slot (name:=Str.ofString "__setitem__") g.typeIs slot_list_setitem
  (qN slot_list_setitem g.typeIs entry_list_setitem ?_ (args_list_setitem _ _ _)))
 ¤wpAny _ _ (Builtin.List.listSubscript? (.ref sl) >>= _) _ _ s;unfold Builtin.List.listSubscript?;?qA (qA (wpAny_specialOf f slice_no_index ?_))
 simp only[Option.isNone_none,if_true]
 ?qE ?_;¤wpAny _ _ (typeOf (.ref sl) >>= _) _ _ s;?qA (wpAny_typeOf f ?_);[qB ⋯];[listSliceParts_eq];?qA (qA (wpAny_field a b (x:=.none) rfl (qA (wpAny_listPart .none ?_))));[qB ⋯];?qA (wpAny_field a b (x:=k) rfl (qA (wpAny_listPart B ?_)));?qA (wpAny_field a b (x:=p) rfl (qA (wpAny_listPart z (qE ?_))));#c:Builtin.List.listSameRef (.ref l) (.ref m)=¿:=beq_eq_false_iff_ne.mpr i;[qB (by[c];decide)];¶Builtin.List.listAllItems;?qA (qA (wpAny_typeOf t.typeIs ?_));[qF ⋯];?listItems_at j h ?_;?qA (listItems_at q r ?_);?qA (wpAny_of_eq (sliceIndices_raw (!(lo:Int)) (!(hi:Int)) none xs.size (by simp)) ?_)
 #C:sliceBounds (!(lo:Int)) (!(hi:Int)) none xs.size=((lo:Int),(hi:Int),1):=by
  ¶sliceBounds
  simp only[Option.getD_none]
  #a1:¬((lo:Int)<0):=()
  #a2:¬((hi:Int)<0):=()
  [qB a1,qB a2,qF ⋯,qF ⋯]
  congr 1
  .¥
  .congr 1
   ¥
 [C]
 #d:(max (lo:Int) (hi:Int)).toNat=hi:=()
 #e:((lo:Int)).toNat=lo:=Int.toNat_natCast lo
 simp only[d,e]
 [qF ⋯];?qA (wpAny_rule ?_);[qB (by ¤¬(decide (xs.size+ys.size>sizeLine))=¶;simp;¥)];?qA (listUpdate_at q r ?_ () (by simp;¥));!qA (wpAny_letGo (qE {.none,O,qE D}))
end
§Pr(its:#MD)(n lo hi:Nat)(ys:#MD):∃n',Obj.mapSeq (λxs=>xs.extract 0 lo++ys.toArray++xs.extract hi) { cls:=.type "list",data:=.seq its.toArray n }={ cls:=.type "list",data:=.seq (its.take lo++ys++its.drop hi).toArray n' }:=by
 #e:its.toArray.extract 0 lo++ys.toArray++its.toArray.extract hi=(its.take lo++ys++its.drop hi).toArray:=by
  simp
  !yr (by[yf];!qe _)
 ¶Obj.mapSeq
 simp only[e]
 !{_,O}
inductive uY(D:Ends)(σ:St)(v x:V)(lo:Option Int)(hi:Option Int)(H4:Hp):Prop
 |mk(a b xs ys:_)(i j:Nat)(_:x=.ref a)(_:v=.ref b)(_:a≠b)(_:H4 a=!(.lst xs))(_:aA H4 b ys)(_:lo=!(i:Int))(_:hi=!(j:Int))(_:i<=j)(_:j<=xs.length)(_:xs.length+ys.length<=sizeLine)(_:D.nx σ (upd H4 a (.lst (xs.take i++ys++xs.drop j))))
§BC(to:TE)(tl th:TO)(tv:TE):TS:=λD σ H=>tv σ H λv H1=>to σ H1 λx H2=>tl σ H2 λlo b=>th σ b λhi a=>uY D σ v x lo hi a
section
variable {X:Cx}{o value:Expr}{lo hi:Option Expr}{pos pos' p2:Pos}{to tv:TE}{tl th:TO}
§PY(A:PE X o to)(W:PO X lo tl)(C:PO X hi th)(G:PE X value tv)(E:swapsWith value (!(.Subscript o (.Slice lo hi none p2) pos')) pos.line X.env=pure false):PS X (.Assign [.Subscript o (.Slice lo hi none p2) pos'] value pos) (BC to tl th tv):=by
 ?{?_};¢pins s σ H D I h;?wpAny_Assign_Subscript (bK (G pins s σ H _ I h) λr U ⟨v,H1,p,B,w⟩=>bK (A pins U σ H1 _ p w) λu s2 ⟨x,H2,S,P,y⟩=>?_) E;?wpAny_Slice (bK (W pins s2 σ H2 _ S y) λN s3 ⟨l,V,R,T,z⟩=>bK (C pins s3 σ V _ R z) λvu d ⟨u',Q,m,F,J⟩=>?_);[evalPart_none];?qE ?_;@a,b,xs,ys,i,j,rfl,rfl,f,g,Y,rfl,rfl,h1,h2,hz,q:=J;&P;&B;#e:Inv X pins σ Q { d with heap:=d.heap.push { cls:=.type "slice",data:=.fields #[N,vu,.none] } }:=m.kept (t':=d.toks) λb ob q=>qH _ q;@its,n,r,c,Z:=e.lst g;@its',k,t,K:=e.list Y;#la:=r.length;#lb:=k.length;@n',L:=Pr its n i j its';#M:=e.qS g c L ((r.take i).append k |>.append (r.drop j)) (by[qi,qi,wv,yf];¥) d.toks;?Pa (xs:=its.toArray) (ys:=its'.toArray) {_,c,O,n,O} t.isList f (Heap.IsSliceOf.new ..) T F h1 (by[zg];¥) (by[zg,zg];¥) {_,_,M,q}
end
§OJ:entryFor table "dict_itemiterator.__iter__"=some Builtin.«dict_keyiterator.__iter__»:=entryFor_alias (id':="dict_keyiterator.__iter__") (by kernel_rfl) rfl ∅ (by kernel_rfl)
section
variable {prog:Program}{w:World}{A:Around}{E:KE}{s:RX}
§Oj(c:(d==sysModules)=¿)(b:s.heap.get? d=!od)(e:od.ExactDict)(f:Q (.ref ↑s) { s with heap:=s.heap.push { cls:=.type "dict_items",data:=.fields #[.ref d] } }):wpAny (model prog w) A (call (.builtin "dict.items") [.ref d]) Q E s:=by
 #a:s.TypeIs (.ref d) "dict":={od,b,e.1};?qN F.slot_dict_items a F.entry_dict_items ?_ (F.args_dict_items_1 _);unfold Builtin.«dict.items»;?qA ?_;¶Builtin.Dict.noArgs;?qA (wpAny_notOrdered_dict a ?_);¤wpAny _ _ (pure d) _ _ s;?qE ?_;¤wpAny _ _ (Builtin.Dict.showsAll d >>= _) _ _ s;¶Builtin.Dict.showsAll;[qB (by[c];!qr)];?qA (qE ?_);!qA (wpAny_newObj_type (qE {_,O,f}))
§N1{es:Array DictEntry}(f:s.heap.IsItemsView v d)(g:s.heap.get? d=!od)(a:od.data=.dict es ep)(h:Q (.ref ↑s) { s with heap:=s.heap.push { cls:=.type "dict_itemiterator",data:=.fields #[.none,.bool false,.ref d,.int 0 0,.int es.size 0,.int ep 0,.none,.none] } }) :
  wpAny (model prog w) A (pyIter (.ref v)) Q E s:=by
 @j,e,i,c:=id f;?wpAny_pyIter_slot f.typeIs F.slot_dict_items_iter (qN F.slot_dict_items_iter f.typeIs F.entry_dict_items_iter ?_ (F.args_dict_items_iter_1 _));unfold Builtin.«dict_items.__iter__»;?qA (qE ?_);?qA ?_;¶Builtin.Dict_items.dictOf;?qA (wpAny_field e c (x:=.ref d) rfl (qE ?_));?qA ?_;¶Builtin.Dict_items.newIterator;?qA (wpAny_dictEntries g a ?_);?qA (wpAny_dictEpoch g a ?_)
 #b:Builtin.Dict_items.ownsTuple "dict_itemiterator"=¶:=⋯
 simp only[b,if_true]
 ?wpAny_newObj_type (qE {_,O,"dict_itemiterator",_,{_,qL _ rfl,O},F.slot_dict_itemiterator_next.lookup,?_})
  (by simp only[sizeOk,Builtin.Dict_items.ownedTupleFields,List.size_toArray,List.length_append,List.length_cons,List.length_nil,sizeLine_eq];¥)
 simpa[rawInt,Builtin.Dict_items.ownedTupleFields] using h
§Pd{es:Array DictEntry}{ok U:MD}(D:IsItemIter s.heap it d i n ep ok U)(N:s.heap.get? d=!od)(M:od.data=.dict es ep)(hn:es.size=n)(T:i<es.size)(V:∀h',IsItemIterOut h' it d (i+1) n ep es[i].key es[i].val ↑s->
   h'.get? ↑s=some { cls:=.type "tuple",data:=.seq #[es[i].key,es[i].val] }->h'.objs.size=↑s+1->
   (∀b o,b≠it->s.heap.get? b=!o->h'.get? b=!o)->Q (!(.ref ↑s)) { s with heap:=h' }) :
  wpAny (model prog w) A (pyNext (.ref it)) Q E s:=by
 @hp,g,R,tk,P:=s;£hn;#H:Shared.TypeIs ⟨hp,g,R,tk,P⟩ (.ref it) "dict_itemiterator":={_,D,O};¶pyNext
 ?qA (wpAny_attempt (wpAny_callSpecial?_slot (name:=Str.ofString "__next__") H F.slot_dict_itemiterator_next
  (qN F.slot_dict_itemiterator_next H F.entry_dict_itemiterator_next ?_ (F.args_dict_itemiterator_next_1 _))))
 ?qA (qE ?_);?qA ?_;?qA ?_
 first|?qA (wpAny_typeNameOfWhole_itemiter H (qE ?_))|?qA (wpAny_typeNameOf_itemiter H (qE ?_))
 ?qA (wpAny_fieldsOf D rfl ?_)
 #S:Builtin.Dict_items.ownsTuple "dict_itemiterator"=¶:=⋯
 simp only[S,if_true]
 ¤wpAny _ _ (if(Value.ref d==Value.none)=¶ then _ else _) _ _ _;[qB (show ¬((Value.ref d==Value.none)=¶) from qr)];?qA (qE ?_);?qA (wpAny_dictEntries N M ?_);[qB (by simp)];?qA (qE ?_);?qA (wpAny_dictEpoch N M ?_);[qB (by simp)];?qE ?_
 simp only[show ¬((i:Int)<0) from (),if_false,Int.toNat_natCast,Array.getElem?_eq_getElem T]
 ?qA ?_
 first|?qA (wpAny_typeNameOfWhole_itemiter H (qE ?_))|?qA (wpAny_typeNameOf_itemiter H (qE ?_))
 ?qA (wpAny_isOneOf_itemiter H ?_);¤wpAny _ _ (setField (.ref it) 3 (rawInt ((i:Int)+1)) >>= _) _ _ {hp,g,R,tk,P};?qA (wpAny_setField_rec D (by simp) λh₁ j f=>?_);replace f:Heap.SameBut it hp h₁:=f
 replace j:IsItemIter h₁ it d (i+1) es.size ep ok U:=by
  #e:((i+1:Nat):Int)=(i:Int)+1:=()
  ¶IsItemIter;[e];simpa[rawInt] using j
 #v:Shared.TypeIs ⟨h₁,g,R,tk,P⟩ (.ref it) "dict_itemiterator":={_,j,O};?qA (qK ?_);?qA (wpAny_isOneOf_itemiter v ?_);?qA (wpAny_isOneOf_itemiter v ?_);¤wpAny _ _ (Builtin.Dict_items.pairFromOwner (.ref it) 6 es[i].key es[i].val) _ _ {h₁,g,R,tk,P};¶Builtin.Dict_items.pairFromOwner;?qA (wpAny_newTuple ?_);#l:IsItemIter (h₁.push { cls:=.type "tuple",data:=.seq #[es[i].key,es[i].val] }) it d (i+1) es.size ep ok U:=qH _ j;generalize p:h₁.push { cls:=.type "tuple",data:=.seq #[es[i].key,es[i].val] }=h₂ at l;#m:h₁.objs.size=hp.objs.size:=f.1;#G:it<hp.objs.size:=qG D
 #I:h₂.get? hp.objs.size=some { cls:=.type "tuple",data:=.seq #[es[i].key,es[i].val] }:=by[←p,←m];!qL _ rfl
 #K:h₂.objs.size=hp.objs.size+1:=by[←p,Heap.size_push,m]
 #L:∀b o,b≠it->hp.get? b=!o->h₂.get? b=!o:=λb o J e=>by[←p];!qH _ (f.extBut b o J e)
 ¤wpAny _ _ (Builtin.Dict_items.ownedTupleIsFree (.ref it) >>= _) _ _ {h₂,g,R,tk,P};[m];clear p j f v m h₁;?qA ?_;¶Builtin.Dict_items.ownedTupleIsFree;?qA (wpAny_field l rfl (x:=.none) rfl (qE ?_))
 simp only[if_true]
 ?qA (wpAny_field l rfl (x:=ok) rfl ?_);?qA (wpAny_field l rfl (x:=U) rfl ?_);?qA (wpAny_setField_rec l (by simp) λC t c=>?_);replace c:Heap.SameBut it h₂ C:=c;replace t:IsItemIter C it d (i+1) es.size ep es[i].key U:=t;?qA (wpAny_setField_rec t (by simp) λz q k=>?_);replace k:Heap.SameBut it C z:=k;replace q:IsItemIter z it d (i+1) es.size ep es[i].key es[i].val:=q;?qA (wpAny_setField_rec q (by simp) λB u a=>?_);replace a:Heap.SameBut it z B:=a;replace u:IsItemIterOut B it d (i+1) es.size ep es[i].key es[i].val hp.objs.size:=u;?qA (wpAny_setField_rec u (by simp) λy r h=>?_);replace h:Heap.SameBut it B y:=h;replace r:IsItemIterOut y it d (i+1) es.size ep es[i].key es[i].val hp.objs.size:=r;?qA (wpAny_letGo (qE (qE {_,O,qE (V y r ?_ ?_ ?_)})))
 .!h.extBut _ _ (zu G) (a.extBut _ _ (zu G) (k.extBut _ _ (zu G) (c.extBut _ _ (zu G) I)))
 .¤y.objs.size=hp.objs.size+1
  [h.1,a.1,k.1,c.1,K]
 .!λb o J e=>h.extBut b o J (a.extBut b o J (k.extBut b o J (c.extBut b o J (L b o J e))))
§N8{es:Array DictEntry}{ok l:MD}(k:A.handled=£)(c:IsItemIter s.heap it d i n ep ok l)(f:s.heap.get? d=!od)(g:od.data=.dict es ep)(hn:es.size=n)(j:es.size<=i)(o:∀h',Heap.ExtBut it s.heap h'->Q none { s with heap:=h' }):wpAny (model prog w) A (pyNext (.ref it)) Q E s:=by
 £hn;#e:s.TypeIs (.ref it) "dict_itemiterator":={_,c,O};¶pyNext
 ?qA (wpAny_attempt (wpAny_callSpecial?_slot (name:=Str.ofString "__next__") e F.slot_dict_itemiterator_next
  (qN F.slot_dict_itemiterator_next e F.entry_dict_itemiterator_next ?_ (F.args_dict_itemiterator_next_1 _))))
 ?qA (qE ?_);?qA ?_;?qA ?_
 first|?qA (wpAny_typeNameOfWhole_itemiter e (qE ?_))|?qA (wpAny_typeNameOf_itemiter e (qE ?_))
 ?qA (wpAny_fieldsOf c rfl ?_)
 #h:Builtin.Dict_items.ownsTuple "dict_itemiterator"=¶:=⋯
 simp only[h,if_true]
 ¤wpAny _ _ (if(Value.ref d==Value.none)=¶ then _ else _) _ _ s;[qB (show ¬((Value.ref d==Value.none)=¶) from qr)];?qA (qE ?_);?qA (wpAny_dictEntries f g ?_);[qB (by simp)];?qA (qE ?_);?qA (wpAny_dictEpoch f g ?_);[qB (by simp)];?qE ?_
 simp only[show ¬((i:Int)<0) from (),if_false,Int.toNat_natCast,Array.getElem?_eq_none j]
 ?qA ?_
 first|?qA (wpAny_typeNameOfWhole_itemiter e (qE ?_))|?qA (wpAny_typeNameOf_itemiter e (qE ?_))
 ¤wpAny _ _ (setField (.ref it) 2 .none >>= _) _ _ s;?qA (wpAny_setField c rfl (by simp) ?_);¤wpAny _ _ (newExc (.type "StopIteration") [] >>= _) _ _ _;?qA ?_
 simp only[newExc,newTuple]
 ?qA (wpAny_newObj_type ?_ (by size_fits));?qA (m:=firstArgMember _ _) (wpAny_of_eq (a:=Value.none) (by first|rfl|(simp only[firstArgMember];rfl)) ?_);?wpAny_newObj_type ?_ (by size_fits)
 simp only[raiseNew]
 ?qA (wpAny_handled ?_);[show A.in1.handled=£ from k];?qA (qE (wpAny_throw ?_));?qA (wpAny_isInstance (T:="StopIteration") (b:=¶) {_,qL _ rfl,O} isSubtype_stop ?_);!qE (o _ (((Heap.SameBut.update ..).extBut.push _).push _))
end
section
variable {X:Cx}{pins:#(R0×Obj)}{σ:St}{H:Hp}{s:RX}
§M6{es:Array DictEntry}(p:o.data=.dict es ep)(I:Inv X pins σ H s)(e:H a=!(.cJ o (.dG kvs))):∀i (hi:i<es.size) (d:i<kvs.length),RelV kvs[i].2.2 es[i].val:=by
 obtain⟨j,_,_,xs,h,o',n,l,c,_,b,m,_⟩:s.heap.get? a=!o/\aV X.prog X.w H s.heap a (.dG kvs):=I.aS a _ e;[j]at c;&c;[p]at b;injection b with b _;£b;¢i hi d
 #g:i<xs.length:=by[←h.length];!d
 #f:=AK h i d g
 #k:es[i].val=xs[i].2.2:=by
  #h1:es.toList[i]?=some es[i]:=by simp[hi]
  [m,qu,qh g]at h1;[←qJ h1];rfl
 [k];!f.2.2.2
end
§rN(a:R0)(o:Obj)(kvs:#(KD×V×V)):It :=
 {λi H=>H a=!(.cJ o (.dG kvs))/\i<kvs.length,λi H x H'=>∃p e,H p=£/\kvs[i]?=!e/\x=.ref p/\H'=upd H p (.tup [e.2.1,e.2.2]),λi H=>H a=!(.cJ o (.dG kvs))/\kvs.length<=i}
§P5{P:Program}{w:World}{K:PySem.W.Frag}{D:#Expr}{k:Nat}{N:Pos}(a it:R0){o:Obj}{es:Array DictEntry}{ep:Nat}{kvs:#(KD×V×V)}(p:o.data=.dict es ep) :
  Turn P w K (.Tuple D k N) (rN a o kvs) [it] it (λi h=>∃ok g,IsItemIter h it a i kvs.length ep ok g) where
 mem:=by simp
 obj:=λi h st b Y=>by
  #e:b=it:=by ±Y
  £e;@ok,g,e:=st;!{_,e,λv z=>by &z}
 keep:=λi h h' st k=>by
  @ok,g,e:=st;!{ok,g,k it (by simp) _ e}
 item:=by
  ¢X C u G d i pins s σ H E I t st B;subst C u G;@r,hi:=B;@ok,g,st:=st;@x,J,l:=pR p I r;#j:=M6 p I r
  #f:i<es.size:=()
  #n:it<↑s:=qG st;?Pd st x p J f λh' a1 a2 Z R=>{_,O,wpAny_letOwnedTupleGo_items a1 λm T bs=>?_}
  #M:Inv X pins σ H { s with heap:=m }:=I.dJ (t':=s.toks) t λc o d q=>bs.extBut c o (λe=>d (by simp[e])) (R c o (λe=>d (by simp[e])) q)
  #S:m.get? ↑s=some { cls:=.type "tuple",data:=.seq #[es[i].key,es[i].val] }:=bs.extBut _ _ (zu n) a2;#L:H ↑s=£:=I.aS.fresh (qe _);?{.ref ↑s,upd H ↑s (.tup [kvs[i].2.1,kvs[i].2.2]),I.hZ M (qe _) L {?_,[es[i].key,es[i].val],.cons (l i f hi) (.cons (j i f hi) .nil),{_,S,O,_,O}},O,{_,kvs[i],L,qh hi,O,O},{_,_,T},λc d=>?_}
  .¤2<=sizeLine
   decide
  .#e:c=it:=by ±d
   £e;[ax (qp n)];!(t c (by simp)).1
 done:=by
  ¢X C u G d i pins s σ H E I t st B;subst C u G;@r,hi:=B;@ok,g,st:=st;@x,J,l:=pR p I r
  !N8 (I.ok.hd d) st x p J () λh' U=>{O,I.dJ (t':=s.toks) t λc o d q=>U c o (λe=>d (by simp[e])) q}
 self:=λA i s Q E st h=>by
  @ok,g,st:=st;#y:s.TypeIs (.ref it) "dict_itemiterator":={_,st,O};?wpAny_pyIter_slot y F.slot_dict_itemiterator_iter (qN F.slot_dict_itemiterator_iter y OJ ?_ (F.args_dict_itemiterator_iter_1 _));¤wpAny _ _ (ret (.ref it)) _ _ s;!qE {_,O,"dict_itemiterator",_,y,F.slot_dict_itemiterator_next.lookup,h}
inductive t_(R:It->Hp->¤)(x:V)(H1:Hp):Prop
 |mk(a kvs:_)(_:x=.ref a)(_:((H1 a=!(.dG kvs)/\∀o,R (rN a o kvs) (upd H1 a (.cJ o (.dG kvs))))\/∃o,H1 a=!(.cJ o (.dG kvs))/\R (rN a o kvs) H1))
§xI(tl:TE):TI:=λσ H R=>tl σ H λx H1=>t_ R x H1
section
variable {X:Cx}
§uq{l:Expr}{tl:TE}{u:#Expr}{k:Nat}{E apos cpos:Pos}(K:PE X l tl)(f:attributeBase l "items" X.env (eval l X.env)=eval l X.env:=by rfl)(d:(apos.endLine==cpos.line)=¶:=by rfl):PI X (.Tuple u k E) (.Call (.Attribute l "items" apos) [] [] cpos) (xI tl):=by
 ?{?_};¢pins s σ H R I h;?wpAny_Call_method0_late f d (bK (K pins s σ H _ I h) λv c ⟨x,H1,p,J,D⟩=>?_);@a,kvs,e,q:=D;£e;&J
 obtain⟨H2,o,t,C,G⟩:∃(H2:Hp) (o:Obj),Inv X pins σ H2 c/\H2 a=!(.cJ o (.dG kvs))/\R (rN a o kvs) H2:=by
  @⟨m,q⟩|⟨o,m,q⟩:=q
  .@_,_,xs,_,o,es,ep,g,_:=(show aV X.prog X.w H1 c.heap a (.dG kvs) from p.aS a _ m)
   !{_,o,p.ov m g,aD,q o}
  .!{_,o,p,m,q}
 .obtain⟨g,_,A,xs,_,o',es,ep,i,B,y,_,_⟩:c.heap.get? a=!o/\aV X.prog X.w H2 c.heap a (.dG kvs):=t.aS a _ C
  [g]at i;&i;@_,j,_:=pR y t C;?{"dict","dict.items",PySem.F.plainAttrs_dict,PySem.F.slot_dict_items,PySem.F.type_dict_items,{o,g,B.1},λb z=>?_,Calls.callWith_builtin rfl (PySem.evalArgs_none (Oj A g B ?_))}
  .&z
   !{o,g,B.2.1}
  #n:(c.heap.push { cls:=.type "dict_items",data:=.fields #[.ref a] }).get? a=!o:=qH _ g;?N1 (s:={ c with heap:=c.heap.push { cls:=.type "dict_items",data:=.fields #[.ref a] } }) (v:=↑c) {_,qL _ rfl,O,O} n y ?_;#r:Inv X pins σ H2 { c with heap:=c.heap.push { cls:=.type "dict_items",data:=.fields #[.ref a] } }:=t.kept (t':=c.toks) λb o e=>qH _ e;?{(c.heap.push { cls:=.type "dict_items",data:=.fields #[.ref a] }).objs.size,[(c.heap.push { cls:=.type "dict_items",data:=.fields #[.ref a] }).objs.size],_,_,H2,O,r.kept (t':=c.toks) λb o e=>qH _ e,P5 a _ y,{_,_,by[←j];!qL _ rfl},λb L=>?_,G}
  #e:b=(c.heap.push { cls:=.type "dict_items",data:=.fields #[.ref a] }).objs.size:=by ±L
  £e;!r.kY (qe _) (r.aS.fresh (qe _))
end
§Oy{a:R0}{o:Obj}{kvs:#(KD×V×V)}{g:TG}{tb:TS}{D:Ends}{σ:St}{H:Hp}(b:Nat->St->Hp->¤)(h0:b 0 σ H)(f:∀i σ H,b i σ H->H a=!(.cJ o (.dG kvs)))(k:∀i e σ H p,kvs[i]?=!e->b i σ H->H p=£->g (.ref p) σ (upd H p (.tup [e.2.1,e.2.2])) λc H2=>tb { D with nx:=b (i+1),ct:=b (i+1),bk:=D.nx } c H2)(n:∀σ H,b kvs.length σ H->D.nx σ H) :
  ∃W:Nat->Nat->St->Hp->¤,(∃m,W 0 m σ H)/\∀i m σ H,W i m σ H->
   ((rN a o kvs).stop i H/\D.nx σ H)\/((rN a o kvs).go i H/\∃N:St->Hp->¤,(∀σ' H',N σ' H'->∃h,h<m/\W (i+1) h σ' H')/\∀x H',(rN a o kvs).xD i H x H'->g x σ H' λc H2=>tb { D with nx:=N,ct:=N,bk:=D.nx } c H2):=by
 ?{λi m σ H=>m=kvs.length - i/\i<=kvs.length/\b i σ H,{kvs.length,by simp,Nat.zero_le _,h0},?_};rintro i m σ H ⟨rfl,hi,p⟩
 ¿d:i<kvs.length
 .?.inr {{f i σ H p,d},b (i+1),λσ' H' l=>{kvs.length - (i+1),(),O,d,l},λx H' y=>?_}
  @q,e,hn,j,rfl,rfl:=y;!k i e σ _ q j p hn
 .#e:i=kvs.length:=()
  £e;!.inl {{f _ σ H p,qe _},n σ H p}
§xm{own:#R9}{g:TG}(hz:kvs.length<=sizeLine)(d:Nat->#V->Hp->¤)(h0:d 0 [] H)(l:∀i ys H,d i ys H->H a=!(.cJ o (.dG kvs)))(w:∀i e ys H' p (k:V->Hp->¤) (r:Hp->¤),kvs[i]?=!e->d i ys H'->H' p=£->(∀y j,d (i+1) (ys++[y]) j->k y j)->(∀f,d (i+1) ys f->r f)->
   g (.ref p) (cC own fr σ) (upd H' p (.tup [e.2.1,e.2.2])) λh H2=>n h H2 λb f=>if b=¶ then te h f k else r f)(z:∀H' p ys,d kvs.length ys H'->ys.length<=kvs.length->H' p=£->Q (.ref p) (upd H' p (.lst ys))):Fw own fr g n te σ Q (rN a o kvs) H:=by
 ?{λi m ys H=>m=kvs.length - i/\i<=kvs.length/\ys.length<=i/\d i ys H,{kvs.length,by simp,Nat.zero_le _,Nat.zero_le _,h0},?_};rintro i m ys H ⟨rfl,hi,s,p⟩
 ¿c:i<kvs.length
 .?.inr {{l _ _ H p,c},(),λx H' y=>?_}
  @q,e,hn,t,rfl,rfl:=y
  ?w i e ys _ q _ _ t p hn (λy j u=>{kvs.length - (i+1),(),O,c,?_,u}) λf A=>{kvs.length - (i+1),(),O,c,(),A}
  [qi,qt];¥
 .#e:i=kvs.length:=()
  £e;!.inl {{l _ _ H p,qe _},λq v=>z H q ys p s v}
§NT(a v:MD):argsOk "max" {[a],[(Str.ofString "key",v)]}:=by ¶argsOk;kernel_rfl
§Ob{prog:Program}{w:World}{A:Around}{E:KE}{s:RX}{id:String}{b:Builtin}{a:#MD}{d:#(R9×MD)}{Q:KE}(m:builtinKind id=£)(hp:plainId id=¶)(k:entryFor table id=!b)(l:argsOk id {a,d})(j:wpAny (model prog w) A.in1 (b {a,d}) (λi s'=>match i with
   |.done f=>(match(Except.ok f:Result) with|.ok (.ret v)=>Q v s' |.ok _=>False|.error e=>E e s')
   |.again c'=>c'.quiet=¶/\codeAny (model prog w) A c' (λr s'=>match r with|.ok (.ret v)=>Q v s' |.ok _=>False|.error e=>E e s') s') E s) :
  wpAny (model prog w) A (call (.builtin id) a d) Q E s:=by
 ?wpAny_call (codeAny_call_builtin hp k ?_)
 simp only[checkBuiltinCall,m]
 cases c:Manifest.signature? id with
 |none=>!qE j
 |some g =>
  have h:Bind.checkArgs id g ⟨a,d⟩=pure Unit.unit:=by simpa only[argsOk,c] using l
  simp only[h]
  !qE j
theorem AI:∀{names:#(R9×NameKind)} {acc:#(R9×R0)},(lQ env names acc).lookup x=!c->(x,NameKind.free)∈names\/acc.lookup x=!c
 |[],_,h=>.inr h
 |(n,k)::r,acc,h=>by
  @q|q:=AI (names:=r) h
  .!.inl (qy _ q)
  .cases b:(k==NameKind.free) with
   |false=>rw[b,qB qr]at q;!.inr q
   |true =>
    [b,qF rfl,gf]at q
    cases a:(x==n) with
    |true =>
     have:=beq_iff_eq.mp a;£this;have:=beq_iff_eq.mp b;£this;!.inl qm
    |false=>rw[a]at q;!.inr q
structure nL(y z:R9)(sc:Scope):Prop where
 kind:sc.kind=.function
 co:sc.isCoroutine=¿
 gen:sc.isGenerator=¿
 cell:∀p∈sc.names,p.2≠.cell
 ly:sc.names.lookup y=some .local
 lz:sc.names.lookup z=some .free
 fr:∀p∈sc.names,p.2=.free->p.1=z
§lZ(qual:R9)(a:Scope)(cl:#(R9×R0))(L f:R0)(cd:MD):Env :=
 { scope:=a,locals:=L,globals:=mainGlobals,cells:=cl,qual:=qual++".<locals>.",func:=!f,code:=cd,frame:=!L,builtins:=builtinsNs }
§ie(P:Program)(w:World)(K:PySem.W.Frag)(mg:R9->Option MD)(base:Heap)(y z qual:R9)(a:Scope)(cl:#(R9×R0))(f:R0)(cd:MD)(A:Around)(outer:#Env)(s:RX)(H:Hp):Cx where
 prog:=P
 w:=w
 K:=K
 mg:=mg
 base:=base
 A:=A.deeper (lZ qual a cl ↑s f cd)
 N:=[y,z]
 s₀:=s
 H₀:=H
 env:=lZ qual a cl ↑s f cd
 outer:=outer
 stack:=lZ qual a cl ↑s f cd::outer
 ex:=[]
 calm:=¶
 fn:=λ_=>false
 pn:=[]
 xe:=λ_ _=>False
§NG{P:Program}{w:World}{K:PySem.W.Frag}{mg:R9->Option MD}{base:Heap}{y z qual:R9}{l:Scope}{cl:#(R9×R0)}{f c:R0}{cd x u:MD}{A:Around}{outer:#Env}{s:RX}{H:Hp}{v t:V}{h':Heap}{tk:Nat}(S:nL y z l)(E:A.handled=£)(g:×f6 A outer s H)(C:RelV v x)(j:∀n a,cl.lookup n=!a->n=z/\a=c)(hz:cl.lookup z=!c)(D:s.heap.IsCell c (!u))(r:H c=£)(B:RelV t u)(hn:h'.Ns ↑s (λn=>[(y,x)].reverse.lookup n))(old:∀b o,s.heap.get? b=!o->h'.get? b=!o):Inv (×ie y z qual l cl f cd A outer s H) [] [!v,!t] H { s with heap:=h',toks:=tk }:=by
 #k:∀b:R0,b∉(×ie y z qual l cl f cd A outer s H).ex:=λb z=>absurd (show b∈([]:#R0) from z) (by simp)
 #q:h'.IsCell c (!u):=let⟨o,e,d⟩:=D;{o,old _ _ e,d}
 ?{{g.mod,S.kind,O,O,qe _,λn m a h1 h2=>(j n a h1).1.trans (j m a h2).1.symm,λn hn=>?_,λn a z=>(by &z),λ_=>E,Around.frames_deeper g.frames,.inr {O,O},λb z=>absurd z (k b),g.bs,g.uL,λb _ _=>k b,λb z=>absurd z (k b),g.eh,g.vI},
  rfl,g.bare,Un.kept old,{_,hn,λi n G h1 h2 F=>?_},λn a h=>?_,g.aS.fresh (Nat.le_refl _),λn a h=>?_,λp hp=>absurd (show p∈([]:#(R0×Obj)) from hp) (by simp),g.aS.kept old,O}
 .#hn:l.names.lookup n=some .cell\/l.names.lookup n=some .free:=hn
  @hn|hn:=hn
  .!absurd rfl (S.cell _ (PySem.mem_of_lookup hn))
  .#:=S.fr _ (PySem.mem_of_lookup hn) rfl
   #this:n=z:=this;[this];!{c,hz}
 .match i,h1,h2 with
  | 0,h1,h2 =>
   &h1;&h2;!{x,C,.inl {S.ly,by simp}}
  | 1,h1,h2 =>
   &h1;&h2;!{u,B,.inr {.inr S.lz,c,hz,q}}
  |i+2,h1,h2=>cases h1
 .@_,e:=j n a h
  [e];!{_,q}
 .@_,e:=j n a h
  [e];!r
§Ht{P:Program}{w:World}{K:PySem.W.Frag}{mg:R9->Option MD}{base:Heap}{A:Around}{outer:#Env}{s:RX}{H:Hp}{k:Nat}{f l c:R0}{q:R9}{g:Arguments}{h:Expr}{d:Scope}{cl:#(R9×R0)}{L j x u:MD}{y z:R9}{v m:V}{Q:VK}{tb:TE}(G:bG k A)(F:×f6 A outer s H)(M:s.heap.get? f=!(kla_obj "<lambda>" q g h d cl L l j))(r:s.heap.CodeRec (.ref l) q)(S:nL y z d)(i:bindArgs (kla_fn "<lambda>" q g h d cl L (.ref l) j) {[x],[]}=pure [(y,x)])(R:RelV v x)(B:∀n a,cl.lookup n=!a->n=z/\a=c)(hz:cl.lookup z=!c)(Z:s.heap.IsCell c (!u))(E:H c=£)(U:RelV m u)(X:PE (×ie y z q d cl f (.ref l) A outer s H) h tb)(Y:tb [!v,!m] H Q) :
  codeAny (model P w) A (.call (.ref f) {[x],[]}) (CR iH outer P w H s Q E0) s:=by
 #p:s.heap.NoLimit:=F.mod.nolimit.keeps λb o e=>(F.bs b o e).1;?kla_callFunE G.depth M rfl S.co S.gen rfl r ?_;[i];?qE ?_;?wpAny_newFunctionEnv S.cell (λn hn=>by[qx.mp hn];!S.ly) (λh' C D=>?_) S.kind;#old:∀b o,s.heap.get? b=!o->h'.get? b=!o:=λb o e=>D.extBut b o (qp (qG e)) (qH _ e);?{p.keeps old,kla_codeExpr ?_};#I:=NG (f:=f) (cd:=.ref l) (qual:=q) (tk:=s.toks+[(y,x)].length) S G.hd F R B hz Z E U C old;?qM (X [] _ [!v,!m] H Q I Y) (λu s' t=>?_) λe s' t=>False.elim t;@T,H',J,N,O:=t;!{T,H',J.os,J.bare,J.base,J.aS,N,O}
section
variable {X:Cx}{pins:#(R0×Obj)}{σ:St}{H:Hp}{s:RX}
§GW{cl:#(R9×R0)}(I:Inv X pins σ H s)(j:X.env.code=.ref c)(hC:codeHdIn X.K c P=¶)(Z:X.base.BuiltinsAt X.mg P)(m:Tb a.line a.col (X.env.qual++"<lambda>") P H)(D:defaultsOf d X.env=([],[]))(B:closureFor i X.env=pure cl)(h:∀f g k pm s' H',Inv X pins σ H' s'->Tb a.line a.col (X.env.qual++"<lambda>") P H'->H' g=!(rH g (X.env.qual++"<lambda>"))->af (del H P) (del H' P)->H' f=£->f∉d9 X.stack->s'.heap.get? f=!(kla_obj "<lambda>" (X.env.qual++"<lambda>") d n i cl pm g k)->Q (.ref f) s') :
  wpAny (model X.prog X.w) X.A (eval (.Lambda d n i a) X.env) Q X.xe s:=by
 #F:s.heap.Ns mainGlobals X.mg:=I.mod.glob.keeps I.bk;#C:CodeHd s.heap c P:=codeHd_of_K I.lY hC;#S:s.heap.BuiltinsAt X.mg P:=Z.keeps I.bk
 #J:mainGlobals≠P:=λz=>by
  @o,es,ep,e,_:=I.mod.glob;@ps,t:=m.cf;[←z]at t;rcases(I.bs _ _ e).2 with y|⟨xs,y⟩ <;> rw[y]at t <;> &t
 ?kla_eval D ?_;@m|⟨g,m,hc'⟩:=m
 .#L:s.heap.get? P=!(tabObj #[]):=I.aS P _ m
  ?kla_makeFunction B I.ok.glob F j C L trivial rfl J S λg k h' tk V l x E v=>?_;#R:P<↑s:=I.aS.lt m;#M:P≠g:=qp (zf R l);#p:↑s<=h'.objs.size:=ww (jj l x)
  #e0:(#[]:Array MD)++#[rawInt a.line,rawInt a.col,.ref g]=#[rawInt a.line,rawInt a.col,.ref g]:=by simp
  rw[e0]at v;#N:h'.objs.size≠g:=zu x;#G:h'.objs.size≠P:=zu (zf R p);?h _ g k _ _ _ (Inv.Fc (q:=X.env.qual++"<lambda>") (more:=#[rawInt a.line,rawInt a.col,.ref g]) I m (λb o W e=>qH _ (V b o W e)) l ?_ (qH _ v)) (.inr {g,by[ax M,aD],aD}) aD (λb u e=>?_) ?_ (I.kT p) (qL _ rfl)
  .@c2,Y,vs,U,e,T,r:=E
   !{c2,Y,vs,U,e,qH _ T,r}
  .¿z:b=P
   .£z;[dV]at e;&e
   .[bR z]at e ⊢
    [ax (λy=>by £y;[I.aS.fresh l]at e;&e),ax z];!e
  .[ax N,ax G]
   !I.aS.fresh p
 .#L:s.heap.get? P=!(tabObj #[rawInt a.line,rawInt a.col,.ref g]):=I.aS P _ m
  ?kla_makeFunctionHit (cv:=.ref g) B I.ok.glob F j C L (by simp[TriplesOk,rawInt]) (by simp[codeAmong,rawInt]) S λk h' tk O hsz=>?_;?h _ g k _ _ H ?_ (.inr {g,m,hc'}) hc' (af.refl _) (I.aS.fresh hsz) (I.kT hsz) (qL _ rfl);!I.un (Un.kept λb o e=>qH _ (O b o e)) (I.aS.kept λb o e=>qH _ (O b o e))
abbrev eL(xs:Array MD)(c:Nat):Obj:={ cls:=.type "list",dict:=£,data:=.seq xs c,slots:=#[] }
structure FC(X:Cx)(H:Hp)(s:RX)(it S p:R0)(Hm:Hp)(s':RX)(j:Nat)(bst:Array MD):Prop where
 un:Un (d9 X.stack) [] H Hm s.heap s'.heap
 aS:dm X.prog X.w Hm s'.heap
 os:s'.os=s.os
 bare:AllBare s'.gens
 same:af H Hm
 fI:Hm it=£
 fS:Hm S=£
 gI:s'.heap.IsListIter it p j
 gS:∃c,s'.heap.get? S=!(eL bst c)
§FC.inv{it S p:R0}(M:FC X H s it S p c s' j a)(I:Inv X pins σ H s):Inv X pins σ c s':=I.hH M.os M.un M.aS M.bare (λb z=>absurd z (by simp))
§Ii{fa it S p:R0}{ys:#V}{D:Nat->#Int}{C:Hp->V->VK->¤}{a:Hp}{s':RX}{j:Nat}{J:Array MD}{E:KE}(l:∀(s':RX) (a:Hp) (x:MD) (y:V) (Q:VK),f6 X.prog X.w X.K X.mg X.base X.A.in1 X.stack s' a->Un (d9 X.stack) [] H a s.heap s'.heap->af H a->RelV y x->C a y Q->codeAny (model X.prog X.w) X.A.in1 (.call (.ref fa) {[x],[]}) (CR iH X.stack X.prog X.w a s' Q E0) s')(U:∀(m:Nat) y H' (Q':VK),ys[m]?=!y->af H H'->(∀n g,af H' n->DV n g (.tuple ((D m).map PyData.int))->Q' g n)->C H' y Q')(hh:X.A.handled=£)(I:Inv X pins σ H s)(hp:aA H p ys)(hi:↑s<=it)(hS:↑s<=S)(hIS:it≠S)(nI:it∉d9 X.stack)(nS:S∉d9 X.stack)(hj:j<ys.length)(M:FC X H s it S p a s' j J) :
  wpAny (model X.prog X.w) X.A.in1 (pyNext (.ref it)) (λr s1=>∃item,r=!item/\∀E',wpAny (model X.prog X.w) X.A.in1 (call (.ref fa) [item]) (λval s2=>∃y g H2,ys[j]?=!y/\RelV y item/\RelV g val/\DV H2 g (.tuple ((D j).map PyData.int))/\af a H2/\FC X H s it S p H2 s2 (j+1) J) E' s1) E s':=by
 #I':=M.inv I;#t:=hp.same M.same;@its,rv,pl,hz:=I'.list t;#hl:=rv.length
 #hlt:p<↑s':=by @_,e,_:=pl.isList;!qG e
 #hip:p≠it:=λz=>by
  @o1,e1,c1,d1:=pl.isList;@o2,e2,c2,d2:=M.gI;[z,e2]at e1;&e1;[c1]at c2;injection c2 with z;!absurd z ⋯
 #hpS:p≠S:=λz=>by
  @e|⟨o,e⟩:=hp
  .#:=I.aS.lt e
   !absurd this (by[z];!Nat.not_lt.mpr hS)
  .#:=I.aS.lt e
   !absurd this (by[z];!Nat.not_lt.mpr hS)
 #W:=Walks.list (prog:=X.prog) (w:=X.w) (A:=X.A.in1) hh it p hip its.toArray;?W.item j s' _ _ (by[zg];¥) {M.gI,pl.isList} λv h' tk R B Z=>{v,O,λE'=>?_};#R:its.toArray[j]?=!v:=R;[List.getElem?_toArray]at R;#i:ys[j]?=some ys[j]:=qh hj;@u',N,L:=rv.get i;[R]at N;&N
 #wr:∀b o,b≠it->s'.heap.get? b=!o->h'.get? b=!o:=λb o hb e=>Z b o (by ±hb) e
 #k:Un (d9 X.stack) [] H a s.heap h':=M.un.later λb o hb e=>wr b o (qp (zf hb hi)) e;#G:dm X.prog X.w a h':=M.aS.other wr M.fI;#I1:Inv X pins σ a { s' with heap:=h',toks:=tk }:=I.hH (s':={ s' with heap:=h',toks:=tk }) M.os k G M.bare (λb z=>absurd z (by simp));#h:=I1.CG;?wpAny_call (codeAny_mono (l { s' with heap:=h',toks:=tk } a v ys[j] (λg H2=>af a H2/\DV H2 g (.tuple ((D j).map PyData.int))) {h.frames,h.mod,h.bs,h.uL,h.eh,h.vI,h.aS,h.bare} k M.same L (U j ys[j] a _ i M.same λH2 g a1 a2=>{a1,a2})) λres s2 t=>?_)
 cases res with
 |error e=>!t.elim
 |ok fl =>
  cases fl with
  |next=>!t.elim
  |brk=>!t.elim
  |cont=>!t.elim
  |ret u =>
   @g,H2,Y,q,d,F,T,f,dv2:=t;@c,gS:=M.gS;@oi,gi,ci,di:=B.1;#P:=wr S _ hIS.symm gS;?{ys[j],g,H2,i,L,T,dv2,f,k.trans d,F,Y.trans M.os,q,M.same.trans f,d.free it _ gi M.fI (by simp),d.free S _ P M.fS (by simp),{oi,d.keep it _ gi M.fI nI (by simp),ci,di},c,d.keep S _ P M.fS nS (by simp)}
§NC{fa it S p:R0}{ys:#V}{D:Nat->#Int}{C:Hp->V->VK->¤}{R:Result->RX->¤}(E:∀(s':RX) (n:Hp) (x:MD) (y:V) (Q:VK),f6 X.prog X.w X.K X.mg X.base X.A.in1 X.stack s' n->Un (d9 X.stack) [] H n s.heap s'.heap->af H n->RelV y x->C n y Q->codeAny (model X.prog X.w) X.A.in1 (.call (.ref fa) {[x],[]}) (CR iH X.stack X.prog X.w n s' Q E0) s')(hsp:∀(m:Nat) y H' (Q':VK),ys[m]?=!y->af H H'->(∀G B,af H' G->DV G B (.tuple ((D m).map PyData.int))->Q' B G)->C H' y Q')(hu:X.A.units+3+61<cLine)(hh:X.A.handled=£)(I:Inv X pins σ H s)(hp:aA H p ys)(hi:↑s<=it)(hS:↑s<=S)(J:it≠S)(nI:it∉d9 X.stack)(nS:S∉d9 X.stack)(fin:∀(m:Nat) (y:V) (u:MD) Hn U,ys[m]?=!y->RelV y u->(∀i,i<ys.length->bT (.tuple ((D m).map PyData.int)) (.tuple ((D i).map PyData.int))=¿)->Inv X pins σ Hn U->af H Hn->R (.ok (.ret u)) U) :
  ∀(k j:Nat) (n:Hp) (s':RX) (b:Nat) (y:V) (item val:MD) (B:V),ys.length - j=k->1<=j->j<=ys.length->FC X H s it S p n s' j #[item,val]->b<j->ys[b]?=!y->RelV y item->RelV B val->DV n B (.tuple ((D b).map PyData.int))->
   (∀i,i<j->bT (.tuple ((D b).map PyData.int)) (.tuple ((D i).map PyData.int))=¿)->codeAny (model X.prog X.w) X.A (.builtin "max.loop" {[.ref it,.ref fa,.ref S],[]}) R s':=by
 #t:(toString "max"++toString ".loop":String) = "max.loop":=⋯
 ¢k
 induction k with
 |zero =>
  ¢j n s' b y item val B hk h1 hj M h hy ry rk dk v
  #Z:j=ys.length:=()
  @c,Y:=id M.gS;#I':=M.inv I;@its,rv,pl,hz:=I'.list (hp.same M.same);#hl:=rv.length
  #hip:p≠it:=λz=>by
   @o1,e1,c1,d1:=pl.isList;@o2,e2,c2,d2:=M.gI;[z,e2]at e1;&e1;[c1]at c2;injection c2 with z;!absurd z ⋯
  #W:=Walks.list (prog:=X.prog) (w:=X.w) (A:=X.A.in1) hh it p hip its.toArray;?codeAny_builtin F.entry_max_loop ?_;[Around.under_plainId F.plain_max_loop _];¤wpAny _ X.A.in1 (seqItems? (.ref S) >>= _) _ _ s';?qA (wpAny_seqItems Y rfl ?_);¤wpAny _ X.A.in1 (tryCatch (pyNext (.ref it)) _ >>= _) _ _ s';?qA (wpAny_tryCatch (W.done s' _ _ {by[zg,←hl,←Z];!M.gI,pl.isList} λh' tk hk'=>?_))
  #wr:∀b o,b≠it->s'.heap.get? b=!o->h'.get? b=!o:=λb o h e=>hk' b o (by ±h) e
  #gS':=wr S _ J.symm Y;¤wpAny _ X.A.in1 (updateSeq S (λ_=>#[]) >>= _) _ _ _;?qA ?_;?wpAny_updateSeq gS' rfl (qA (wpAny_letGo (qE ?_)));#wr2:∀b o,b≠it->b≠S->s'.heap.get? b=!o->(h'.update S (Obj.mapSeq λ_=>(#[]:Array MD))).get? b=!o:=λb o h1 h2 e=>(Heap.get?_update_other _ _ (Ne.symm h2)).trans (wr b o h1 e);?fin b y item n _ hy ry (λi N=>v i ()) ?_ M.same;?I.hH (s':={ s' with heap:=h'.update S (Obj.mapSeq λ_=>(#[]:Array MD)),toks:=tk }) M.os (M.un.later λb o h e=>wr2 b o (Nat.ne_of_lt (Nat.lt_of_lt_of_le h hi)) (Nat.ne_of_lt (Nat.lt_of_lt_of_le h hS)) e) ?_ M.bare (λb z=>absurd z (by simp));!(M.aS.other wr M.fI).other (λb u h e=>(Heap.get?_update_other _ _ (Ne.symm h)).trans e) M.fS
 |succ k ih =>
  ¢j n s' b y item val B hk h1 hj M h hy ry rk dk v
  #hlt:j<ys.length:=()
  @c,Y:=id M.gS;?codeAny_builtin F.entry_max_loop ?_;[Around.under_plainId F.plain_max_loop _];¤wpAny _ X.A.in1 (seqItems? (.ref S) >>= _) _ _ s';?qA (wpAny_seqItems Y rfl ?_);¤wpAny _ X.A.in1 (tryCatch (pyNext (.ref it)) _ >>= _) _ _ s';?qA (wpAny_tryCatch (qM (Ii E hsp hh I hp hi hS J nI nS hlt M) (λr s1 hr=>?_) (λ_ _ z=>z)));@d,rfl,hr:=hr;¤wpAny _ X.A.in1 (tryCatch (holding [d] (call (.ref fa) [d])) _ >>= _) _ _ s1;?qA (wpAny_tryCatch (qK (qM (hr (λ_ _=>False)) (λf s2 hR=>?_) (λ_ _ z=>z.elim))));@y2,kv2,H2,hy2,ry2,L,O,l,g:=hR;#I2:=g.inv I;@as1,r1:=O.reads I2 L;@as2,r2:=(dk.same l).reads I2 rk;@c2,T:=id g.gS;#kB:∀i,bT (.tuple ((D i).map PyData.int)) (.tuple ((D i).map PyData.int))=¿:=λi=>mC _
  #tr:∀a b c:Nat,bT (.tuple ((D a).map PyData.int)) (.tuple ((D b).map PyData.int))=¶->bT (.tuple ((D b).map PyData.int)) (.tuple ((D c).map PyData.int))=¶->bT (.tuple ((D a).map PyData.int)) (.tuple ((D c).map PyData.int))=¶:=λa b c h1 h2=>vR _ _ _ (by[sk];!uW _ _) (by[sk];!uW _ _) (by[sk];!uW _ _) h1 h2
  ¤wpAny _ X.A.in1 (tryCatch (holding [d,f] (richCompare .Gt f val >>= _)) _ >>= _) _ _ s2;?qA (wpAny_tryCatch (qK (qA (Mt r1 r2 (by ¤X.A.units+1+2<cLine;¥) X.prog X.w _ _ ?_))));?qA (qK (wpAny_truthy_bool ?_));?qA (wpAny_letGo (qE ?_))
  cases P:bT (.tuple ((D b).map PyData.int)) (.tuple ((D j).map PyData.int)) with
  |true =>
   simp only[if_true]
   ?qA ?_;?wpAny_updateSeq T rfl (qA (wpAny_letGo ?_));[t];#ot:∀b o,b≠S->s2.heap.get? b=!o->(s2.heap.update S (Obj.mapSeq λ_=>#[d,f])).get? b=!o:=λb o h2 e=>(Heap.get?_update_other _ _ (Ne.symm h2)).trans e;@oi,gi,ci,di:=id g.gI;?qE {plainId_quiet F.plain_max_loop _,ih (j+1) H2 _ j y2 d f kv2 () () () {g.un.later λb o h e=>ot b o (qp (zf h hS)) e,g.aS.other (λb u h e=>ot b u h e) g.fS,g.os,g.bare,g.same,g.fI,g.fS,{oi,ot _ _ J gi,ci,di},_,Heap.get?_update_self _ T rfl} () hy2 ry2 L O λi N=>?_}
   ¿z:i=j
   .[z];!kB j
   .#:=v i ()
    cases q:bT (.tuple ((D j).map PyData.int)) (.tuple ((D i).map PyData.int)) with
    |false=>rfl
    |true=>rw[tr _ _ _ P q]at this;&this
  |false =>
   simp only[Bool.false_eq_true,if_false]
   ?qA (wpAny_letGo ?_);[t];?qE {plainId_quiet F.plain_max_loop _,ih (j+1) H2 _ b y item val B () () () g () hy ry rk (dk.same l) λi N=>?_}
   ¿z:i=j
   .[z];!P
   .!v i ()
§Px{fa p:R0}{ys:#V}{D:Nat->#Int}{C:Hp->V->VK->¤}{Q:VK}(d:∀(s':RX) (J:Hp) (x:MD) (y:V) (Q:VK),f6 X.prog X.w X.K X.mg X.base X.A.in1 X.stack s' J->Un (d9 X.stack) [] H J s.heap s'.heap->af H J->RelV y x->C J y Q->codeAny (model X.prog X.w) X.A.in1 (.call (.ref fa) {[x],[]}) (CR iH X.stack X.prog X.w J s' Q E0) s')(q:∀(m:Nat) y H' (Q':VK),ys[m]?=!y->af H H'->(∀k kv,af H' k->DV k kv (.tuple ((D m).map PyData.int))->Q' kv k)->C H' y Q')(hu:X.A.units+3+61<cLine)(hh:X.A.handled=£)(I:Inv X pins σ H s)(hp:aA H p ys)(hn:0<ys.length)(T:∀(m:Nat) (y:V) j,ys[m]?=!y->(∀i,i<ys.length->bT (.tuple ((D m).map PyData.int)) (.tuple ((D i).map PyData.int))=¿)->af H j->Q y j) :
  wpAny (model X.prog X.w) X.A (call (.builtin "max") [.ref p] [(Str.ofString "key",.ref fa)]) (EP X pins σ Q) X.xe s:=by
 #f:(toString "max"++toString ".loop":String) = "max.loop":=⋯
 @its,rv,pl,hz:=I.list hp;#t:=pl.isList
 #hlt:p<↑s:=by @_,e,_:=t;!qG e
 ?Ob F.kind_max F.plain_max F.entry_max (NT _ _) ?_;¤wpAny _ X.A.in1 (Builtin.Builtins.bindParams "max" ["key","default"] 0 {[],[(Str.ofString "key",.ref fa)]} >>= _) _ _ s;?qA (wpAny_of_eq (show Builtin.Builtins.bindParams "max" ["key","default"] 0 {[],[(Str.ofString "key",.ref fa)]}=pure [!(.ref fa),none] from rfl) ?_);?qA (qE ?_);?qA (wpAny_pyIter_list t (qA (wpAny_newObj_type ?_)));[f];#hz':(s.heap.push { cls:=.type "list_iterator",data:=.fields #[.ref p,.int 0 0] }).objs.size=↑s+1:=Heap.size_push ..;#U:∀b o,s.heap.get? b=!o->((s.heap.push { cls:=.type "list_iterator",data:=.fields #[.ref p,.int 0 0] }).push (eL #[] 0)).get? b=!o:=λb o e=>qH _ (qH _ e);#gI:((s.heap.push { cls:=.type "list_iterator",data:=.fields #[.ref p,.int 0 0] }).push (eL #[] 0)).IsListIter ↑s p 0:={_,qH _ (qL _ rfl),O,O};#G:((s.heap.push { cls:=.type "list_iterator",data:=.fields #[.ref p,.int 0 0] }).push (eL #[] 0)).get? (s.heap.push { cls:=.type "list_iterator",data:=.fields #[.ref p,.int 0 0] }).objs.size=!(eL #[] 0):=qL _ rfl;?qE {plainId_quiet F.plain_max_loop _,?_};¤codeAny _ X.A (.builtin "max.loop" {[.ref ↑s,.ref fa,.ref (s.heap.push { cls:=.type "list_iterator",data:=.fields #[.ref p,.int 0 0] }).objs.size],[]}) _ { s with heap:=(s.heap.push { cls:=.type "list_iterator",data:=.fields #[.ref p,.int 0 0] }).push (eL #[] 0) };[hz']at G ⊢;generalize (s.heap.push { cls:=.type "list_iterator",data:=.fields #[.ref p,.int 0 0] }).push (eL #[] 0)=h2 at U gI G ⊢;#hi:↑s<=↑s:=qe _;#n:↑s<=↑s+1:=jt _;#h:↑s≠↑s+1:=qp (yo _);#nI:=I.kT hi;#L:=I.kT n;#fI:=I.aS.fresh hi;#fS:=I.aS.fresh n;generalize ↑s+1=S at G n h L fS ⊢;#M0:FC X H s ↑s S p H { s with heap:=h2 } 0 #[]:={Un.kept U,I.aS.kept U,O,I.bare,af.refl _,fI,fS,gI,0,G};#E:∀(m:Nat) (y:V) (u:MD) j l,ys[m]?=!y->RelV y u->(∀i,i<ys.length->bT (.tuple ((D m).map PyData.int)) (.tuple ((D i).map PyData.int))=¿)->Inv X pins σ j l->af H j->(λ(r:Result) s'=>match r with|.ok (.ret v)=>EP X pins σ Q v s' |.ok _=>False|.error e=>X.xe e s') (.ok (.ret u)) l:=λm y u j l h1 h2 h3 h4 h5=>{y,j,h4,h2,T m y j h1 h3 h5};?codeAny_builtin F.entry_max_loop ?_;[Around.under_plainId F.plain_max_loop _];¤wpAny _ X.A.in1 (seqItems? (.ref S) >>= _) _ _ { s with heap:=h2 };?qA (wpAny_seqItems G rfl ?_);¤wpAny _ X.A.in1 (tryCatch (pyNext (.ref ↑s)) _ >>= _) _ _ { s with heap:=h2 };?qA (wpAny_tryCatch (qM (Ii d q hh I hp hi n h nI L hn M0) (λr s1 P=>?_) (λ_ _ z=>z)));@a,rfl,P:=P;¤wpAny _ X.A.in1 (tryCatch (holding [a] (call (.ref fa) [a])) _ >>= _) _ _ s1;?qA (wpAny_tryCatch (qK (qM (P (λ_ _=>False)) (λc s2 hR=>?_) (λ_ _ z=>z.elim))));@y2,Z,H2,N,Y,M,R,same2,g:=hR;@c2,B:=id g.gS;¤wpAny _ X.A.in1 (updateSeq S (λ_=>#[a,c]) >>= _) _ _ s2;?qA ?_;?wpAny_updateSeq B rfl ?_;[f];#W:∀b o,b≠S->s2.heap.get? b=!o->(s2.heap.update S (Obj.mapSeq λ_=>#[a,c])).get? b=!o:=λb o h2 e=>(Heap.get?_update_other _ _ (Ne.symm h2)).trans e;@oi,gi,ci,di:=id g.gI;?qE {plainId_quiet F.plain_max_loop _,NC d q hu hh I hp hi n h nI L E _ 1 H2 _ 0 y2 a c Z rfl () () {g.un.later λb o hb e=>W b o (qp (zf hb n)) e,g.aS.other (λb u hb e=>W b u hb e) g.fS,g.os,g.bare,g.same,g.fI,g.fS,{oi,W _ _ h gi,ci,di},_,Heap.get?_update_self _ B rfl} () N Y M R λi hi'=>?_}
 #:i=0:=()
 [this];!mC _
§Ke(e cl:Nat)(q:R9)(P:R0)(i:Nat)(tb:TE)(t:TA):TE:=λσ H Q=>t σ H λvs H1=>Tb e cl q P H1/\∀H2,Tb e cl q P H2->af (del H1 P) (del H2 P)->∃p ys c,∃D:Nat->#Int,vs=[.ref p]/\aA H2 p ys/\0<ys.length/\σ[i]?=some (!c) ∧
 (∀(m:Nat) y H' (d:VK),ys[m]?=!y->af H2 H'->(∀a b,af H' a->DV a b (.tuple ((D m).map PyData.int))->d b a)->tb [!y,!c] H' d) ∧
 ∀(m:Nat) y f,ys[m]?=!y->(∀j,j<ys.length->bT (.tuple ((D m).map PyData.int)) (.tuple ((D j).map PyData.int))=¿)->af H2 f->Q y f
end
section
variable {X:Cx}{k:Nat}
§PD{p u kp pos:Pos}(J:X.env.code=.ref c)(hC:codeHdIn X.K c P=¶)(hB:X.base.BuiltinsAt X.mg P)(Y:bG (k+2) X.A)(hg:Gl X x)(hm:X.mg x=£)(hv:bootBuiltins x=!(.builtin "max"))(S:nL y z b)(hN:X.N[i]?=!z)(hk:X.env.kindOf z=some .cell)(hX:∀x,X.env.kindOf x=some .cell->∃c,X.env.cells.lookup x=!c)(W:X.calm=¶)(hfn:X.fn z=¶)(L:∀cl pm cd U x,bindArgs (kla_fn "<lambda>" (X.env.qual++"<lambda>") d m b cl pm cd U) {[x],[]}=pure [(y,x)])(hb:∀cl f cd A outer s H,bG k (ie X.prog X.w X.K X.mg X.base y z (X.env.qual++"<lambda>") b cl f cd A outer s H).A->PE (ie X.prog X.w X.K X.mg X.base y z (X.env.qual++"<lambda>") b cl f cd A outer s H) m tb)(ha:PA X [e] t)(R:defaultsOf d X.env=([],[]):=by rfl)(hn:x≠"__name__":=by decide)(hdb:(x==("__debug__":R9))=¿:=by decide)(he:starEach [e] X.env=(false,eval e X.env)::starEach [] X.env:=by rfl):PE X (.Call (.Name x p) [e] [{!"key",.Lambda d m b u,kp}] pos) (Ke u.line u.col (X.env.qual++"<lambda>") P i tb t):=by
 ?{?_};¢pins s σ H Q I h;@v,j:=hX z hk
 #r:∀y∈b.names,y.2=.free->∃c,X.env.cells.lookup y.1=!c:=λn hn e=>by[S.fr n hn e];!{v,j}
 #hcl:=Ds r;#M:=vQ r (acc:=[]) (λx c e=>by &e)
 #l:∀n a,(lQ X.env b.names []).lookup n=!a->n=z/\a=v:=λn a e=>by
  @q|q:=AI e
  .#O:n=z:=S.fr _ q rfl
   #:=M n a e;[O,j]at this;!{O,(qJ this).symm}
  .&q
 #hzc:(lQ X.env b.names []).lookup z=!v:=by
  @V,T:=wL (env:=X.env) (acc:=[]) (.inl (PySem.mem_of_lookup S.lz));[T,(l z V T).2]
 ?wpAny_Call_Name_kw (iO I hg hm hv ?_ hn hdb);?callWith_kw (bK (ha pos pins s σ H _ I h) λus s1 ⟨vs,H1,I1,r1,hT,q1⟩=>kws_cons (GW I1 J hC hB hT R hcl λf V U pm s2 H2 B Z hc2 sm hf nf of=>kws_nil ?_)) (by[he];rfl) (by[he];rfl);@p,ys,vz,D,rfl,hq,hn0,hσ,G,fin:=q1 H2 Z sm;@u0,rfl,ru0:=vals1 r1;&ru0;@m0,hn1,hl:=B.loc;@uz,ruz,look:=hl i z vz hN hσ (.inr (.inl hk))
 #g:s2.heap.IsCell v (!uz):=by
  @⟨kk,_⟩|⟨_,c2,E,g⟩:=look
  .[hk]at kk;&kk
  .[j]at E;&E;!g
 #F:=B.dr z v j
 #kT:v∉d9 X.stack:=B.hG (B.vA z v j) (λhm=>by
  @_,o,ho,_:=B.ok.eh.mem hm
  !absurd (zf (qG ho) (B.ok.yG z v hfn j)) (wu _))
 ?Px (C:=λHm y Q=>tb [!y,!vz] Hm Q) (λs' Hm x y Q e0 un same r1 G=>?_) G (by #:=Y.un;¥) (B.ok.hd W) B hq hn0 fin;#hcr:s'.heap.CodeRec (.ref V) (X.env.qual++"<lambda>"):=(e0.aS V _ (same _ _ hc2)).1;@oc,ec,dc:=g;!Ht Y.in1 e0 (un.keep f _ of hf nf (by simp)) hcr S (L _ _ _ _ _) r1 l hzc {oc,un.keep v _ ec F kT (by simp),dc} (un.free v _ ec F (by simp)) ruz (hb _ _ _ _ _ _ _ (Y.in1.deeper _)) G
end
§wH(tk tv:TE):TE:=λσ H Q=>∀p H0,H p=£->af H H0->H0 p=!(.dG [])->tk σ H0 λx H1=>tv σ H1 λy H2=>H2 p=!(.dG [])/\∃k,GK H2 k x/\Q (.ref p) (upd H2 p (.dG [(k,x,y)]))
section
variable {X:Cx}
§Le(N:X.A.units+2<cLine)(F:PE X k tk)(G:PE X v tv):PE X (.Dict [!k] [v] pos) (wH tk tv):=by
 ?{?_};¢pins s σ H Q I q;#hn:=I.aS.fresh (qe ↑s);#r:=I.laid (a:=↑s) (o:=.dG []) (h':=s.heap.push { cls:=.type "dict",data:=.dict #[] }) (t':=s.toks) (λ_ _ q=>qH _ q) (qe _) (Jb s.heap I.lB);[arm_eval_Dict,zip_pairTrees [!k] [v] X.env pos rfl rfl,dictDisplay_pairs (pairTrees [!k] [v] X.env pos) (by simp[pairTrees]) (by[pairTrees_length [!k] [v] X.env pos rfl rfl];!Nat.le_of_ble_eq_true rfl)];?qA (wpAny_standAt (qA ?_));¶subDict;?qA (wpAny_alloc ?_);?qA (qK ?_);[qF (by[pairTrees_length [!k] [v] X.env pos rfl rfl];!jn rfl)];?qA (pairTrees_cons_walk (bK (F pins _ σ _ _ r (q _ _ hn (af.new hn) aD)) λu M ⟨x,H1,J,h,w⟩=>bK (G pins M σ H1 _ J w) λP s2 ⟨y,H2,f,E,e,kd,i,B⟩=>pairTrees_nil_walk ?_));@z,L,xs,c,C:=eu f (.inl e);&c;?qK ?_;?qA ?_;[kz];?qA (qA (Am () (i.is f h) C (qv _) λh' g d=>qE ?_));¤wpAny _ _ (forIn [] _ _) _ _ _;[List.forIn_nil];?qE (qE (qE (qE ?_)));@o,es,ep,n,h2,t,K,_,D:=g;?{.ref ↑s,_,pU (ob:=.dG [(kd,x,y)]) f (by[e];!True.intro) d {o,n} {by ¤1<=sizeLine;decide,L,_,Paired.lh (uX (l:=[]) (m:=[]) .nil i h E) λp q z=>{z.1,z.2.1.cP λb xs j=>?_,z.2.2},o,es,ep,n,h2,t,K,D},O,B};[ax (nY j e °)];!j
end
§tu(Ps:#R0)(M:R0->Option (#V))(H:Hp):Prop:=∀b,(b∈Ps/\H b=!(.cf #[]))\/(b∉Ps/\∃xs,M b=!xs/\H b=!(.tup xs))\/(b∉Ps/\M b=£/\(H b=£\/∃o xs,H b=!(.cJ o (.lst xs))))
§uM(K:PySem.W.Frag):Bool:=K.all λp=>match p.2.cls,p.2.data with
 |.type t,.seq ..=>not (t=="list")
 |_,_=>true
§Pp{K:PySem.W.Frag}{a:R0}{us:Array MD}{n:Nat}(h:uM K=¶)(e:K.lookup a=some { cls:=.type "list",data:=.seq us n }):False:=by
 #:=mx.mp h _ (PySem.W.mem_of_lookupK e);#h2:(not (("list":String)=="list"))=¶:=this;!absurd h2 ⋯
section
variable {prog:Program}{w:World}{A:Around}{E:KE}{s:RX}
§Mu{d:R0}{od:Obj}{es:Array DictEntry}{ep:Nat}{Q:KE}(N:A.handled=£)(P:(d==sysModules)=¿)(q:s.heap.get? d=!od)(J:od.ExactDict)(g:od.data=.dict es ep)(hz:es.size<=sizeLine)(Z:∀s' acc c,Moved [] Eq s s'->s'.heap.get? ↑s=some { cls:=.type "list",dict:=£,data:=.seq acc c,slots:=#[] }->acc.toList=es.toList.map (·.key)->Q (.ref ↑s) s') :
  wpAny (model prog w) A (call (.type "list") [.ref d]) Q E s:=by
 ?callType_codes (Q₁:=λobj f=>obj=.ref ↑s/\f={ s with heap:=s.heap.push { cls:=.type "list",data:=.seq #[] } }) F.called_list (F.typeCall_list_1 _) F.entry_list_init
  (code_list_new _ {O,O}) λobj f h₁=>?_
 @rfl,rfl:=h₁;#B:(s.heap.push { cls:=.type "list",data:=.seq #[] }).get? ↑s=some { cls:=.type "list",data:=.seq #[] }:=qL _ rfl;?{{_,B,O},F.args_list_init_2 _ _,?_};#a:d<↑s:=qG q;generalize u:s.heap.push { cls:=.type "list",data:=.seq #[] }=h1 at B
 #M:∀b o,s.heap.get? b=!o->h1.get? b=!o:=λb o e=>by[←u];!qH _ e
 ¤wpAny _ A.in1.in1 (do let old ←Builtin.List.listItems (.ref ↑s);Builtin.List.listUpdate (.ref ↑s) (λ_=>#[]);letGo old.toList.reverse;Builtin.List.listExtendWith (.ref ↑s) (.ref d) .none) _ _ { s with heap:=h1 };?qA ?_;¶Builtin.List.listItems;?qA (wpAny_seqItems (s:={ s with heap:=h1 }) B rfl (qE ?_));¤wpAny _ A.in1.in1 (updateSeq ↑s (λ_=>#[]) >>= λ_=>letGo (#[]:Array MD).toList.reverse >>= λ_=>Builtin.List.listExtendWith (.ref ↑s) (.ref d) .none) _ _ { s with heap:=h1 };?qA (wpAny_updateSeq (s:={ s with heap:=h1 }) B rfl ?_);#p:=Heap.get?_update_self (Obj.mapSeq (λ_=>(#[]:Array MD))) B rfl
 #l:∀b o,s.heap.get? b=!o->(h1.update ↑s (Obj.mapSeq (λ_=>(#[]:Array MD)))).get? b=some o :=
  λb o e=>(Heap.get?_update_other _ _ (zu (qG e))).trans (M b o e)
 #r:(h1.update ↑s (Obj.mapSeq (λ_=>(#[]:Array MD)))).objs.size=↑s+1:=by[Heap.size_update,←u,Heap.size_push]
 ¤wpAny _ _ _ _ _ { s with heap:=h1.update ↑s (Obj.mapSeq (λ_=>(#[]:Array MD))) };generalize h1.update ↑s (Obj.mapSeq (λ_=>(#[]:Array MD)))=h2 at p l r;?qA (wpAny_letGo ?_);#G:Shared.TypeIs { s with heap:=h2 } (.ref d) "dict":={od,l _ _ q,J.1}
 #R:Builtin.List.listSameRef (.ref ↑s) (.ref d)=¿:=by
  ¤(↑s==d)=¿;!beq_eq_false_iff_ne.mpr (zu a)
 ¶Builtin.List.listExtendWith;?qA (wpAny_typeOf G ?_);[qB (by[R];decide)];?qA (Cw (s:={ s with heap:=h2 }) P (l _ _ q) J g ?_);?qA (qK ?_);¤wpAny _ _ _ _ _ { s with heap:=h2.push { cls:=.type "dict_keyiterator",data:=.fields #[.ref d,.int 0 0,.int es.size 0,.int ep 0] } };#j:(h2.push { cls:=.type "dict_keyiterator",data:=.fields #[.ref d,.int 0 0,.int es.size 0,.int ep 0] }).IsKeyIter h2.objs.size d 0 es.size ep:={_,qL _ rfl,O,O};#t:∀b o,h2.get? b=!o->(h2.push { cls:=.type "dict_keyiterator",data:=.fields #[.ref d,.int 0 0,.int es.size 0,.int ep 0] }).get? b=!o:=λb o e=>qH _ e;generalize h2.push { cls:=.type "dict_keyiterator",data:=.fields #[.ref d,.int 0 0,.int es.size 0,.int ep 0] }=h3 at j t;#k:Shared.TypeIs { s with heap:=h3 } (.ref d) "dict":={od,t _ _ (l _ _ q),J.1};¶Builtin.List.listLengthHint;?qA (wpAny_specialOf (name:=Str.ofString "__len__") k F.slot_dict_len.lookup ?_);generalize x:("dict.__len__":String)=id0
 wp_delta
 [show splitId id0=some ("dict","__len__") from by £x;decide +kernel];£x;?qA (wpAny_isInstance (T:="dict") k PySem.F.sub_dict_dict ?_);[qB ⋯]
 wp_delta
 [qF ∅];?qA (wpAny_typeOf k (qE ?_));[qF ∅];#n:=t _ _ p;?qA (wpAny_rule (qA ?_));¶Builtin.List.listTouch;?qA (listUpdate_at (s:={ s with heap:=h3 }) n rfl ?_);obtain⟨K,i⟩:∃K,(h3.update ↑s (Obj.mapSeq (·.push Value.none))).get? ↑s=!(seqObj "list" #[Value.none] K):={_,get?_update_seq n _};#L:∀b o,b≠↑s->h3.get? b=!o->(h3.update ↑s (Obj.mapSeq (·.push Value.none))).get? b=!o:=λb o h e=>(Heap.get?_update_other _ _ (λz=>h z.symm)).trans e;¤wpAny _ _ _ _ _ { s with heap:=h3.update ↑s (Obj.mapSeq (·.push Value.none)) };generalize h3.update ↑s (Obj.mapSeq (·.push Value.none))=h4 at i L;?listUpdate_at (s:={ s with heap:=h4 }) i rfl ?_;obtain⟨I,m⟩:∃I,(h4.update ↑s (Obj.mapSeq (·.pop))).get? ↑s=!(seqObj "list" #[] I):={_,get?_update_seq i _};#D:∀b o,b≠↑s->h3.get? b=!o->(h4.update ↑s (Obj.mapSeq (·.pop))).get? b=!o:=λb o h e=>(Heap.get?_update_other _ _ (λz=>h z.symm)).trans (L b o h e);¤wpAny _ _ _ _ _ { s with heap:=h4.update ↑s (Obj.mapSeq (·.pop)) };generalize h4.update ↑s (Obj.mapSeq (·.pop))=h5 at m D;¤wpAny _ _ (again (Code.builtin "list.extend.loop" {[Value.ref ↑s,Value.ref h2.objs.size,Value.none],[]})) _ _ _;[r]at j ⊢;#W:=Hh (prog:=prog) (w:=w) (A:=A.in1.in1) (it:=↑s+1) (d:=d) (od:=od) (es:=es) (ep:=ep) N (zu (yn a)) g;@V,U,X,S:=j;?qE {plainId_quiet F.plain_extend_loop _,codeAny_extend_loopS W hz ↑s (λz=>?_) _ es.size 0 { s with heap:=h5 } #[] I rfl (qv _) {{V,D _ _ (gg _) U,X,S},D _ _ (qp a) (t _ _ (l _ _ q))} m (ItemsOf.nil _) λs' v Y C H y=>?_}
 .ac_nf at z
  @z|z:=z
  .!gg _ z.symm
  .!zu a z
 .?⟨O,Z s' v Y ⟨λb o _ e=>?_,C.gens,C.drawn,C.os,C.toks⟩ H (Kg y)⟩
  #h:b<↑s:=qG e;?C.heap b o (λz=>?_) (D b o (qp h) (t _ _ (l _ _ e)))
  ac_nf at z
  @z|z:=z
  .!qp h z
  .!qp (yn h) z
end
inductive Aw(xs:#V)(H1:Hp)(Q:VK):Prop
 |mk(a kvs:_)(_:xs=[.ref a])(_:Rd H1 a (.dG kvs))(_:kvs.length<=1000)(_:∀p H',H1 p=£->af H1 H'->H' p=!(.lst (kvs.map (·.2.1)))->Q (.ref p) H')
section
variable {X:Cx}
§NK(v:X.A.handled=£):cA X (.type "list") Aw:=by
 ¢pins s σ H xs us Q I r h;@a,kvs,rfl,w,hz,q:=h;@u,rfl,C:=vals1 r;&C;@_,g,J,j,o,es,ep,t,E,f,i,z,hn:=eu I w
 #d:es.size=kvs.length:=by
  #:es.toList.length=kvs.length:=by[i,qj,j.length]
  ±this
 ?Mu v g t E f (by[d,sizeLine_eq];¥) λs' acc c m y p=>?_
 #D:s'={ s with heap:=s'.heap,toks:=s'.toks }:=by
  @G,l,x,n,F:=m;&s';&l;&x;&n;rfl
 #k:=I.aS.fresh (a:=↑s) (qe _)
 #B:Inv X pins σ (upd H ↑s (.lst (kvs.map (·.2.1)))) s':=by
  [D];?I.laid (t':=s'.toks) (h':=s'.heap) (λb u e=>m.heap b u (by simp) e) (Nat.le_refl _) {?_,acc.toList,c,?_,by ±y}
  .¤(kvs.map (·.2.1)).length<=sizeLine
   [qj,sizeLine_eq];¥
  .[p,i,z9]
   !Gz j
 !{.ref _,_,B,O,q _ _ k (af.new k) aD}
end
section
variable {X:Cx}{a b e:Expr}{ta tb te:TE}{es:#Expr}{t:TA}{pos p:Pos}
§Mq(X:Cx)(i:Nat)(x:R9)(k:NameKind):Prop:=(X.N[i]?,X.env.scope.names.lookup x,(x==("__debug__":R9)),(x==("__classdict__":R9)))=(!x,!k,false,false)
§vv(i:Nat)(h:Mq X i x .local:=by exact rfl):PE X (.Name x pos) (sI i):=pv i (congrArg (·.1) h) (.inl (congrArg (·.2.1) h)) (congrArg (·.2.2.1) h) (congrArg (·.2.2.2) h)
§vc(i:Nat)(h:Mq X i x .cell:=by exact rfl):PE X (.Name x pos) (sI i):=pv i (congrArg (·.1) h) (.inr (.inl (congrArg (·.2.1) h))) (congrArg (·.2.2.1) h) (congrArg (·.2.2.2) h)
§vf(i:Nat)(h:Mq X i x .free:=by exact rfl):PE X (.Name x pos) (sI i):=pv i (congrArg (·.1) h) (.inr (.inr (congrArg (·.2.1) h))) (congrArg (·.2.2.1) h) (congrArg (·.2.2.2) h)
§tN(X:Cx)(e:Expr):Prop:=∀es,starEach (e::es) X.env=(false,eval e X.env)::starEach es X.env
§a1(b:PE X a ta)(h:tN X a:=by !λ_=>rfl):PA X [a] (lI ta Bu):=AX b cS (h _)
§a2(c:PE X a ta)(d:PE X b tb)(h:tN X a:=by !λ_=>rfl)(h2:tN X b:=by !λ_=>rfl):PA X [a,b] (lI ta (lI tb Bu)):=AX c (a1 d h2) (h _)
§ac{es:#Expr}(b:PE X a ta)(c:PA X es t)(h:tN X a:=by !λ_=>rfl):PA X (a::es) (lI ta t):=AX b c (h _)
§xt(b:PE X a ta):PE X (.Subscript a (.Constant (.int i) j p) pos) (uy (DN) ta (tC (.int i))):=iS HY b aB (λ_ _=>rfl)
§xl(b:PE X a ta):PE X (.Subscript a (.Constant (.int i) j p) pos) (uy (E8) ta (tC (.int i))):=iS EE b aB (λ_ _=>rfl)
§xa(c:PE X a ta)(d:PE X b tb)(e:gK b:=by !λ_ _=>rfl):PE X (.Subscript a b pos) (uy (IS) ta tb):=iS Bg c d e
§xi(c:PE X a ta)(d:PE X b tb)(e:gK b:=by !λ_ _=>rfl):PE X (.Subscript a b pos) (uy (E8) ta tb):=iS EE c d e
§xu(c:PE X a ta)(d:PE X b tb)(e:gK b:=by !λ_ _=>rfl):PE X (.Subscript a b pos) (uy (DN) ta tb):=iS HY c d e
§ce(c:dh X (compareOp op) r)(d:PE X a ta)(e:PE X b tb)(f:behindInMarks op b=¿:=by exact rfl):PE X (.Compare a [op] [b] pos) (uy r ta tb):=Nn c d e f
§ck(c:dh X (compareOp op) r)(d:PE X a ta)(e:PE X b tb)(f:behindInMarks op b=¿:=by exact rfl):PT X (.Compare a [op] [b] pos) (sT (uy r ta tb)):=OE c d e f
structure cG(P:Program)(w:World)(K:PySem.W.Frag)(mg:R9->Option MD)(base:Heap)(k:Nat)(x:R9)(ps:#R9)(sp:Sp):Prop where
 out:∃f fd,gB P w K mg base iH k f fd ps sp/\mg x=!(.ref f)/\PySem.W.keepIn K (.ref f)=¶/\Binds K fd ps []
variable {k n:Nat}{x:R9}{ps:#R9}{sp:Sp}
§cl(F:cG X.prog X.w X.K X.mg X.base k x ps sp)(g:bG n X.A)(l:PA X (e::es) t)(m:k<=n:=by decide)(j:Gl X x:=by exact rfl)(b:(x==("__debug__":R9))=¿:=by exact rfl)(h:tN X e:=by !λ_=>rfl)(a:(backTo pos (starEach es X.env)).any (·.1)=¿:=by exact rfl) :
  PE X (.Call (.Name x p) (e::es) [] pos) (tj sp [] E0 t):=by
 @f,fd,F,i,c,d:=F.out;!J_ F (g.mono m) j i c d .nil z_ l b (h _) a
§cb{id:String}{r:#V->Hp->VK->¤}(g:cA X (.builtin id) r)(d:X.mg x=£)(i:bootBuiltins x=!(.builtin id))(h:PA X (e::es) t)(f:Gl X x:=by exact rfl)(hn:x≠"__name__":=by decide)(b:(x==("__debug__":R9))=¿:=by exact rfl)(c:tN X e:=by !λ_=>rfl)(a:(backTo pos (starEach es X.env)).any (·.1)=¿:=by exact rfl):PE X (.Call (.Name x p) (e::es) [] pos) (Fy r t):=Qf g f d i h hn b (c _) a
§cy(g:cA X (.type T) r)(d:X.mg x=£)(i:bootBuiltins x=!(.type T))(h:PA X (e::es) t)(f:Gl X x:=by exact rfl)(hn:x≠"__name__":=by decide)(b:(x==("__debug__":R9))=¿:=by exact rfl)(c:tN X e:=by !λ_=>rfl)(a:(backTo pos (starEach es X.env)).any (·.1)=¿:=by exact rfl):PE X (.Call (.Name x p) (e::es) [] pos) (Fy r t):=N4 g f d i h hn b (c _) a
§sn(c:X.N.Nodup)(i:Nat)(b:PE X e te)(hi:X.N[i]?=!x:=by exact rfl)(a:X.env.scope.names.lookup x=some .local:=by exact rfl)(d:swapsWith e (!(.Name x pos')) pos.line X.env=pure false:=by exact rfl):PS X (.Assign [.Name x pos'] e pos) (uj te (cL i)):=KL c hi (.inl a) b d (.inr a)
§sm(f:X.N.Nodup)(i:Nat)(c:PE X e te)(hi:X.N[i]?=!x:=by exact rfl)(b:X.env.scope.names.lookup x=some .cell:=by exact rfl)(d:swapsWith e (!(.Name x pos')) pos.line X.env=pure false:=by exact rfl)(a:X.fn x=¶:=by exact rfl):PS X (.Assign [.Name x pos'] e pos) (uj te (cL i)):=KL f hi (.inr b) c d (.inl a)
§gn(b:X.N.Nodup)(i:Nat)(hi:X.N[i]?=!x:=by exact rfl)(a:X.env.scope.names.lookup x=some .local:=by exact rfl):PG X (.Name x pos) (cL i):=cN b hi (.inl a) (.inr a)
§gm(c:X.N.Nodup)(i:Nat)(hi:X.N[i]?=!x:=by exact rfl)(a:X.env.scope.names.lookup x=some .cell:=by exact rfl)(b:X.fn x=¶:=by exact rfl):PG X (.Name x pos) (cL i):=cN c hi (.inr a) (.inl b)
§gt(h:DR X es u)(b:X.calm=¶:=by exact rfl)(hn:(assignEach es X.env).length=n:=by exact rfl)(a:(assignEach es X.env).findIdx? (·.1)=£:=by exact rfl):PG X (.Tuple es k pos) (uZ n u):=jP b h hn a
§fo{tg a:Expr}{b:#Stmt}{c:TI}{g:TG}{tb:TS}(hi:PI X tg a c)(f:PG X tg g)(d:ig X b tb)(hp:PassesOwn (model X.prog X.w) X.A X.env X.xe:=by exact PassesOwn.never)(h:X.calm=¶:=by exact rfl)(e:∀x,foldedSetIterable a X.env x=pure x:=by !λ_=>rfl):PS X (.For tg a b [] pos) (En c g tb):=Es hp h hi f d e
§il{tl:TE}(a:PE X l tl):PI X tg l (xU tl):=NQ a
§bm{o:Expr}{to:TE}{name:R9}{T id:String}{apos:Pos}{r:V->#V->Hp->VK->¤}(j:PlainAttrs T)(slot:Slot T name id)(f:typeOf (.builtin id)=pure (.type "method_descriptor"))(i:Gi X id r)(g:PE X o to)(k:PA X (e::es) t)(c:attributeBase o name X.env (eval o X.env)=eval o X.env:=by exact rfl)(d:((backTo pos (starEach (e::es) X.env)).all (λx=>not x.1)&&(backToKw pos (keywordEach [] X.env)).all (λx=>x.1.isSome)&&decide ((e::es).length+([]:#Keyword).length+(if([]:#Keyword).isEmpty then 0 else 1)<30))=¶:=by exact rfl)(b:(apos.endLine==pos.line)=¶:=by exact rfl)(h:tN X e:=by !λ_=>rfl)(a:(backTo pos (starEach es X.env)).any (·.1)=¿:=by exact rfl) :
  PE X (.Call (.Attribute o name apos) (e::es) [] pos) (Oi T r to t):=JM j slot f i g k c d b (h _) a
§ap{to:TE}(d:PE X o to)(g:PA X [e] t)(b:attributeBase o "append" X.env (eval o X.env)=eval o X.env:=by exact rfl)(f:tN X e:=by !λ_=>rfl)(c:((backTo pos (starEach [e] X.env)).all (λx=>not x.1)&&(backToKw pos (keywordEach [] X.env)).all (λx=>x.1.isSome)&&decide (([e]:#Expr).length+([]:#Keyword).length+(if([]:#Keyword).isEmpty then 0 else 1)<30))=¶:=by exact rfl)(a:(apos.endLine==pos.line)=¶:=by exact rfl):PS X (.Expr (.Call (.Attribute o "append" apos) [e] [] pos) p2) (zM (Oi "list" oh to t)) :=
 mX (bm PySem.F.plainAttrs_list PySem.F.slot_list_append PySem.F.type_list_append Ng d g b c a f rfl)
§RD{y:R9}:[y].Nodup:=z6.mpr {List.not_mem_nil,vi}
§FI(a:bG n X.A):dh X (compareOp .Eq) (vW 64 false):=DY (Jo a)
§lx(a:bG n X.A):dh X (compareOp .NotEq) (vW 64 true):=DF (Jo a)
§inD(a:bG n X.A):dh X (compareOp .In) (Lq 63 false):=Ei (PK a)
§RU(a:bG n X.A):dh X (compareOp .Eq) (iV):=Pk a.tH
§L5(a:bG n X.A):Gi X "list.index" (og 61):=Qm (xh a)
§RV(a:bG n X.A):Gi X "list.count" (oF 61):=Nf (xh a)
§J9{j kp:Pos}(F:cG X.prog X.w X.K X.mg X.base k y ps sp)(i:bG n X.A)(o:X.mg x=£)(u:bootBuiltins x=!(.builtin "sorted"))(r:PA X [e] t)(s:k+1<=n:=by decide)(q:Gl X x:=by exact rfl)(g:Gl X y:=by exact rfl)(c:ps.length=1:=by exact rfl)(hn:x≠"__name__":=by decide)(b:(x==("__debug__":R9))=¿:=by exact rfl)(d:(y==("__debug__":R9))=¿:=by exact rfl)(m:tN X e:=by !λ_=>rfl):PE X (.Call (.Name x p) [e] [{!"key",.Name y j,kp}] pos) (Fy (gQ sp) t):=by
 @f,fd,F,a,l,h:=F.out;!Pf F (i.mono s) q o u g a h c r hn b d (m _)
§zQ{y:R9}{f:Pos}{a d:Expr}{c:#Expr}{b:Scope}{h:TI}{g:TT}{te:TE}(hi:PI X (.Name y f) a h)(j:∀s H e,wX (br X [y] b [] s H e) c g)(i:∀s H e,PE (br X [y] b [] s H e) d te)(m:X.calm=¶:=by exact rfl)(S:fL b:=by !{O,∅,∅})(C:kJ X b [] []:=by !iX ∅)(l:∀s H e,PG (br X [y] b [] s H e) (.Name y f) (cL 0):=by !λ_ _ _=>cN (RD) rfl (.inl rfl) (.inr rfl))(k:∀x,foldedSetIterable a X.env x=pure x:=by !λ_=>rfl) :
  PE X (.ListComp d [{.Name y f,a,c,0}] b pos) (LD [y] [] h (cL 0) g te):=iu (own:=[y]) (fr:=[]) m hi S C l (λ_=>mM rfl) j i k
§tO(a:Scope)(N:#R9)(fr:#(R9×Nat)){y:R9}{o:Pos}{d j:Expr}{k:#Expr}{b:Scope}{r:TI}{q:TT}{te:TE}(hi:PI X (.Name y o) d r)(w:∀s H m,wX (br X (y::fr.map (·.1)) b (lQ X.env b.names []) s H m) k q)(u:∀s H m,PE (br X (y::fr.map (·.1)) b (lQ X.env b.names []) s H m) j te)(A:X.calm=¶:=by exact rfl)(S:fL b:=by !{O,∅,∅})(h1:X.env.scope=a:=by exact rfl)(h2:X.N=N:=by exact rfl)(t:∀x,X.env.kindOf x=some .cell->∃c,X.env.cells.lookup x=!c:=by !λ_ h=>fJ h)(g:∀y∈b.names,y.2≠.cell:=by decide +kernel)(f:∀y∈b.names,y.2=.free->a.names.lookup y.1=some .cell:=by decide +kernel)(l:∀p∈fr,N[p.2]?=!p.1/\a.names.lookup p.1=some .cell/\(relabel b { scope:=a,locals:=0,globals:=0,cells:=[] }).names.lookup p.1=some .cell:=by decide +kernel)(n:(y::fr.map (·.1)).Nodup:=by decide +kernel)(z:(relabel b { scope:=a,locals:=0,globals:=0,cells:=[] }).names.lookup y=some .local:=by decide +kernel)(v:∀x,foldedSetIterable d X.env x=pure x:=by !λ_=>rfl) :
  PE X (.ListComp j [{.Name y o,d,k,0}] b pos) (LD [y] fr r (cL 0) q te):=by
 #i:(relabel b X.env).names.lookup y=some .local:=by
  #e:relabel b X.env=relabel b { scope:=a,locals:=0,globals:=0,cells:=[] }:=by
   unfold relabel Env.kindOf;[h1]
  [e];!z
 !iu (own:=[y]) (fr:=fr) A hi S (jX a N h1 h2 t g f l) (λ_ _ _=>cN n rfl (.inl i) (.inr i)) (λ_=>mM rfl) w u v
end
structure FO(K:PySem.W.Frag)(mg:R9->Option MD)(x:R9)(st:Stmt):Prop where
 out:∃f fd,EF K x x st f fd/\mg x=!(.ref f)
§aN{P:Program}{w:World}{K:PySem.W.Frag}{mg:R9->Option MD}{base:Heap}{x:R9}{st:Stmt}{N ps:#R9}{k:Nat}{sp:Sp}(F:FO K mg x st)(S:az N ps (ag st))(d:∀{kV c i:MD}{e:Option R0}{a g:MD}(us:#MD),us.length=ps.length->bindArgs (PySem.W.fnOf x x (b_ st) (bL st) (ag st) .none kV c i e a g) {us,[]}=pure (ps.zip us))(len:∀vs H Q E,sp vs H Q E->vs.length=ps.length)(b:∀(f:R0) (a:MD) (A:Around) (outer:#Env) (s:RX) (H:Hp) (vs:#V) (Q:VK) (E:XK),bG k (A.deeper (envOfC x (ag st) ↑s f a))->sp vs H Q E->
   ∃t,ig (jG iH P w K mg base N x (ag st) f a A outer s H E).vD (bL st) t/\t { nx:=λ_ H'=>Q .aR H',rt:=Q } (start N vs) H):×cG (k+1) x ps sp:=by
 @f,fd,F,h:=F.out;!{f,fd,F.ok S len (b f),h,F.kp,F.binds d}
inductive FX(K:PySem.W.Frag)(n:R9)(s:Stmt):Prop
 |mk{a:R0}{od an:Option R0}{sl:Array (Option MD)}{oc kV dc pm cd ct:MD}(z1:PySem.W.nsIn K mainGlobals n=!(!(.ref a)))(z2:K.lookup a=some ⟨oc,od,.func (PySem.W.fnOf n n (b_ s) (bL s) (ag s) .none kV dc pm an cd ct),sl⟩)(z3:PySem.W.codeIn K cd n=¶)(z4:PySem.W.keepIn K (.ref a)=¶)
§FX.fo{K:PySem.W.Frag}{n:R9}{s:Stmt}{h:Heap}{mg:R9->Option MD}(f:FX K n s)(X:K.In h)(G:h.Ns mainGlobals mg):FO K mg n s:=by
 @c,b,d,a:=f;!{_,_,G7 (st:=s) b d a,PySem.W.mg_of X G c}
§fD(o:Obj)(xs:#V):Bool:=match o with
 |⟨.type t,none,.seq its _,_⟩=>t=="tuple"&&decide (its.toList.map md=xs.map some)
 |_=>false
§Ad(K:PySem.W.Frag)(c:R0×#V):Bool:=match K.lookup c.1 with
 |some o=>fD o c.2&&Nat.ble c.2.length 1000
 |none=>false
§OU(h:md u=!x):RelV x u:=by
 &u <;> simp only[md,Option.some.injEq,reduceCtorEq]at h <;> subst h <;> first|rfl|!⟨_,O⟩
theorem JX:∀{us:#MD} {xs:#V},us.map md=xs.map some->aK xs us
 |[],[],_=>.nil
 |u::us,x::xs,h=>by
  [zn,zn]at h;injection h with h1 h2;!.cons (OU h1) (JX h2)
§QM(e:h.get? b=!o)(t:fD o xs=¶)(a:xs.length<=sizeLine):aV P w H h b (.tup xs):=by
 @c,d,dt,sl:=o;unfold fD at t
 &c <;> &d <;> &dt <;> first|!absurd t qr|skip
 rename_i ty its n
 #t:(ty=="tuple"&&decide (its.toList.map md=xs.map some))=¶:=t;[zt]at t
 #f:ty = "tuple":=by ±t.1
 £f;!{a,its.toList,JX (qO t.2),_,e,O,n,by simp}
§OO{P:Program}{w:World}{K:PySem.W.Frag}{mg mb:R9->Option MD}{CX:uT}{k:Nat}{fa a:R0}{fd:FuncData}{x:R9}{sp:Sp}{c:RX}{vs:#MD}{ns:#Int}{Ps:#R0}{M:R0->Option (#V)}(KX:K.In c.heap)(hns:c.heap.Ns mainGlobals mg)(j:c.heap.Ns builtinsNs mb)(hbb:∀x:R9,x≠"__name__"->mb x=bootBuiltins x)(hlim:c.heap.NoLimit)(hg:c.gens=#[])(hnt:noTabs K=¶)(hnl:uM K=¶)(B:∀Q∈Ps,c.heap.get? Q=!(tabObj #[])/\isCodeTable c.heap Q)(hbm:∀Q∈Ps,c.heap.BuiltinsAt mg Q)(N:∀b xs,M b=!xs->∃o,K.lookup b=!o/\fD o xs=¶/\xs.length<=sizeLine)(X:c.heap.get? a=some { cls:=.type "list",data:=.seq vs.toArray })(hi:IntsAre vs ns)(hl:ns.length<=sizeLine)(hr:bG k callerA)(F:∀base:Heap,K.In base->base.Ns mainGlobals mg->(∀Q∈Ps,base.BuiltinsAt mg Q)->×gB CX k fa fd [x] sp)(U:∀(s:RX) (u:MD),BindsTo s fd {[u],[]} [(x,u)])(hsp:∀H:Hp,tu Ps M H->aA H a (ns.map V.int)->sp [.ref a] H (λv _=>v=.bl true) λ_ _ _=>False)(hCX:∀H e s',CX [] H c (λ_ _ _=>False) e s'->False) :
  codeAny (model P w) callerA (.call (.ref fa) {[.ref a],[]}) (λr s'=>r=.ok (.ret (.bool true))/\OldK c.heap s'.heap/\s'.os=c.os/\AllBare s'.gens) c:=by
 #rv:=Jq hi;#lenV:=hi.length
 #naP:a∉Ps:=λz=>by
  #:=(B a z).1;[X]at this;&this
 #kP:∀Q∈Ps,K.lookup Q=£:=λQ hQ=>by
  cases q:K.lookup Q with
  |none=>rfl
  |some o =>
   have e:=KX Q o q;[(B Q hQ).1]at e;&e;have h2:=mx.mp hnt (Q,_) (mem_of_lookupK q);!absurd (show false=¶ from h2) qr
 have mP:∀b xs,M b=!xs->b∉Ps:=λb xs e z=>by
  @o,h1,_:=N b xs e;[kP b z]at h1;&h1
 have ma:M a=£:=by
  cases q:M a with
  |none=>rfl
  |some xs =>
   @o,h1,h2,_:=N a xs q;have e:=KX a o h1;[X]at e;&e;have h2:(("list"=="tuple")&&decide (vs.toArray.toList.map md=xs.map some))=¶:=h2;[zt]at h2;!absurd h2.1 ⋯
 have Z:∀H:Hp,tu Ps M H->aA H a (ns.map V.int)->dm P w H c.heap->(∀b,H b≠none->b=a\/b∈Ps\/∃xs,M b=!xs)->(H a≠none->K.lookup a=£)->
   codeAny (model P w) callerA (.call (.ref fa) {[.ref a],[]}) (λr s'=>r=.ok (.ret (.bool true))/\OldK c.heap s'.heap/\s'.os=c.os/\AllBare s'.gens) c:=by
  ¢H hO hS R hA hK
  let H0:Hp:=λb=>if(M b).isSome=¶ then none else H b
  have L:∀b,H b=£->H0 b=£:=λb e=>by
   ¤(if(M b).isSome=¶ then none else H b)=£
   split
   .rfl
   .!e
  have H0m:∀b xs,M b=!xs->H0 b=£:=λb xs e=>by
   ¤(if(M b).isSome=¶ then none else H b)=£;[e];rfl
  have f:∀{b:R0} {o:Obj},c.heap.get? b=!o->H0 b=£->(gU c.heap H0).get? b=!o:=λe n=>Py e n
  have p:∀{b:R0} {o:Obj},c.heap.get? b=!o->(∀xs y,o.data≠.seq xs y)->o.data≠.fields #[]->H b=£:=λ{b o} e d1 d2=>by
   cases q:H b with
   |none=>rfl
   |some u =>
    @e' |e' |⟨xs,e'⟩:=hA b (by[q];simp)
    .£e'
     [X]at e;&e;!absurd rfl (d1 _ _)
    .[(B b e').1]at e;&e
     !absurd rfl d2
    .@⟨_,z⟩|⟨_,ys,_,z⟩|⟨_,z,_⟩:=hO b
     .!absurd (by assumption) (mP b xs e')
     .@_,its,_,o',Y,_,n,hd':=(show aV P w H c.heap b (.tup ys) from R b _ z)
      [e]at Y;&Y;!absurd hd' (d1 _ _)
     .[e']at z;&z
  have G:∀{b:R0} {m:R9->Option MD},c.heap.Ns b m->(gU c.heap H0).Ns b m:=λ{b m} ⟨o,es,ep,e,d,r⟩=>{o,es,ep,f e (L _ (p e (λxs y z=>by[d]at z;&z) (λz=>by[d]at z;&z))),d,r}
  have hKb:K.In (gU c.heap H0):=λb o e=>f (KX b o e) (by
   cases q:H b with
   |none=>!L b q
   |some u =>
    @e' |e' |⟨xs,e'⟩:=hA b (by[q];simp)
    .£e'
     [hK (by[q];simp)]at e;&e
    .[kP b e']at e;&e
    .!H0m b xs e')
  have hBb:∀Q∈Ps,(gU c.heap H0).BuiltinsAt mg Q:=λQ hQ=>by
   @bm,ob,b1,b2,b3,b4,b5,b6,b7,b8:=hbm Q hQ;!{bm,ob,b1,b2,b3,b4,f b5 (L _ (p b5 (λxs y z=>by[b8]at z;&z) (λz=>by[b8]at z;&z))),b6,b7,b8}
  have hM:Mod K mg (gU c.heap H0):={hKb,G hns,{mb,G j,hbb},let⟨mc,h1,h2⟩:=hlim;{mc,G h1,h2}}
  have hbs:∀b o,(gU c.heap H0).get? b=!o->c.heap.get? b=!o/\(H b=£\/∃xs,H b=!(.tup xs)):=λb o e=>by
   @h1,h2:=Oc e;?{h1,?_};@⟨E,z⟩|⟨_,xs,_,z⟩|⟨_,z,_⟩:=hO b
   .have C:(if(M b).isSome=¶ then none else H b)=£:=h2
    have mb:M b=£:=by
     cases q:M b with
     |none=>rfl
     |some xs=>!absurd E (mP b xs q)
    [mb,qB ⋯,z]at C;&C
   .!.inr {xs,z}
   .have C:(if(M b).isSome=¶ then none else H b)=£:=h2
    [z,qB ⋯]at C;!.inl C
  have e0:f6 P w K mg (gU c.heap H0) callerA [] c H:={O,hM,hbs,Nat.le_of_eq (Mi _ _),trivial,λb j=>absurd (show b∈([]:#R0) from j) (by simp),R,.of_eq hg};?codeAny_mono ((F _ hKb (G hns) hBb).run callerA [] c H {[.ref a],[]} [.ref a] [.ref a] _ _ hr e0 (U c (.ref a)) (.cons rfl .nil) (hsp H hO hS)) λr s' h=>?_
  cases r with
  |error e=>!(hCX H e s' h).elim
  |ok fl =>
   cases fl with
   |next=>!False.elim h
   |brk=>!False.elim h
   |cont=>!False.elim h
   |ret u =>
    @v,H',os,bare,un,J,r',q:=h;have q':v=.bl true:=q;£q';obtain rfl:u=Value.bool true:=r';?{O,{λb o e=>?_,λb o e=>un.there b o e (by simp)},os,bare};@⟨E,z⟩|⟨_,xs,_,z⟩|⟨_,_,z|⟨ob,xs,z⟩⟩:=hO b
    .@more,z2:=un.dR b _ z
     have e2:s'.heap.get? b=some { cls:=.none,data:=.fields (#[]++more) }:=J b _ z2;[(B b E).1]at e;&e;!.inr (.inl {(B b E).2,O,#[],more,O,e2})
    .!.inl (un.dM b o xs e z)
    .!.inl (un.keep b o e z (by ¢y;!absurd (show b∈([]:#R0) from y) (by simp)) (by simp))
    .have z2:=un.dP b ob _ z
     @e1,_:=R b _ z;@e2,_:=J b _ z2;[e]at e1;&e1;!.inl e2
 have A:∀i:Option HO,(∀u,i=!u->aV P w (λb=>if b∈Ps then some (.cf #[]) else match M b with|some xs=>!(.tup xs)|none=>if b=a then i else none) c.heap a u)->
   dm P w (λb=>if b∈Ps then some (.cf #[]) else match M b with|some xs=>!(.tup xs)|none=>if b=a then i else none) c.heap:=λi S b u z=>by
  ¿j:b∈Ps
  .have z':=(qF j).symm.trans z
   &z';!(B b j).1
  .have T:=(qB j).symm.trans z
   cases I:M b with
   |some xs =>
    simp only[I]at T
    &T;@o,h1,h2,h3:=N b xs I;!QM (KX b o h1) h2 h3
   |none =>
    simp only[I]at T
    ¿g:b=a
    .[qF g]at T
     £g;!S u T
    .[qB g]at T;&T
 have l:∀i:Option HO,(i=£\/∃o xs,i=!(.cJ o (.lst xs)))->tu Ps M (λb=>if b∈Ps then some (.cf #[]) else match M b with|some xs=>!(.tup xs)|none=>if b=a then i else none):=λi S b=>by
  ¿j:b∈Ps
  .!.inl {j,qF j}
  .cases I:M b with
   |some xs=>!.inr (.inl {j,xs,O,(qB j).trans (by simp only[I])})
   |none =>
    refine .inr (.inr {j,O,?_})
    ¿g:b=a
    .have:(if b∈Ps then some (.cf #[]) else match M b with|some xs=>!(.tup xs)|none=>if b=a then i else none)=i:=(qB j).trans (by simp only[I];[qF g])
     @z|⟨o,xs,z⟩:=S
     .!.inl (this.trans z)
     .!.inr ⟨o,xs,this.trans z⟩
    .!.inl ((qB j).trans (by simp only[I];[qB g]))
 have t:∀i:Option HO,∀b,(if b∈Ps then some (.cf #[]) else match M b with|some xs=>!(.tup xs)|none=>if b=a then i else none)≠none->b=a\/b∈Ps\/∃xs,M b=!xs:=λi b z=>by
  ¿j:b∈Ps
  .!.inr (.inl j)
  .cases I:M b with
   |some xs=>!.inr (.inr {xs,O})
   |none =>
    ¿g:b=a
    .!.inl g
    .!absurd ((qB j).trans (by simp only[I];[qB g])) z
 have D:∀i:Option HO,(if a∈Ps then some (.cf #[]) else match M a with|some xs=>!(.tup xs)|none=>if a=a then i else none)=i:=λi=>(qB naP).trans (by simp only[ma];!qF trivial)
 cases hk:K.lookup a with
 |some o =>
  have e:=KX a o hk;[X]at e;&e;!(Pp hnl hk).elim
 |none =>
  !Z _ (l (!(.cJ { cls:=.type "list",data:=.seq vs.toArray } (.lst (ns.map V.int)))) (.inr {_,_,O})) (.inr {{ cls:=.type "list",data:=.seq vs.toArray },D _}) (A _ λu z=>by
   &z
   !{X,by[qj];!hl,vs,_,rv,X}) (t _) λ_=>hk
§qW{l:PySem.W.OpenLaw}{n k:Nat}{q:Program}{r:#R9}{XP:(R9->Option MD)->Heap->¤}{YP:World->Heap->¤}{d:DefRec}{K:Params->PySem.W.Frag}{CX:uT}{sp:Sp}{x:R9}{Ps:#R0}(ts:#R9)(ms:#(R0×#V))(tb:R9->R0)(hn:l.most=!n)(hn2:n<=sizeLine)(Z:d.params.defaults=[])(hr:bG k callerA)(hY:∀(w:World) (h:Heap),YP w h->(K w.params).In h)(hYT:∀(w:World) (h:Heap),YP w h->∀Q∈Ps,h.get? Q=!(tabObj #[]))(hC:∀w:World,∀Q∈Ps,∃t∈ts,codeHdIn (K w.params) (Qo (K w.params) t) Q=¶)(hnt:∀w:World,noTabs (K w.params)=¶)(hnl:∀w:World,uM (K w.params)=¶)(S:∀w:World,∀t∈ts,mU (K w.params) t=tb t)(y:∀w:World,∀t∈ts,mU (K w.params) t∈Ps)(X:∀w:World,(ms.all λc=>Ad (K w.params) c)=¶)(R:(ms.map (·.1)).Nodup)(F:∀(w:World) (mg:R9->Option MD) (fa:R0) (h:Heap),(K w.params).In h->h.Ns mainGlobals mg->mg d.name=some (.ref fa)->
   ∃fd:FuncData,(∀(s:RX) (u:MD),BindsTo s fd {[u],[]} [(x,u)]) ∧
    ∀base:Heap,(K w.params).In base->base.Ns mainGlobals mg->(∀t∈ts,base.BuiltinsAt mg (mU (K w.params) t))->gB l.prog w (K w.params) mg base CX k fa fd [x] sp)(U:∀(H:Hp) (a:R0) (ns:#Int),ns.length<=n->(∀t∈ts,H (tb t)=!(.cf #[]))->(∀c∈ms,H c.1=!(.tup c.2))->aA H a (ns.map V.int)->sp [.ref a] H (λv _=>v=.bl true) λ_ _ _=>False)(N:∀(H:Hp) (s:RX) (e:MD) (s':RX),CX [] H s (λ_ _ _=>False) e s'->False) :
  PySem.W.WalkO q r XP YP l.row.toRowW d [] (λf vs=>PySem.call f vs):=by
 ?Att.kL hn Z λw s₀ m mg mb fa o pm cd doc a vs ns G Y ho hd hcd hmg A p j hg=>?_;#J:=hY w _ Y;@fd,hb,hF:=F w mg fa _ J G.T.g hmg;#I:=hYT w _ Y
 #hbm:∀Q∈Ps,m.heap.BuiltinsAt mg Q:=λQ E=>by
  @bm,ob,b1,b2,D,b4,b5,P:=G.T.bmain;?{bm,ob,b1,b2,λq=>?_,λq=>?_,D,b4,b5,P}
  .@o,es,ep,e,hd,_:=G.T.g
   [q,e]at D;&D;[hd]at P;&P
  .[q,I Q E]at D;&D;&b4
 let M:R0->Option (#V):=λb=>(ms.find? λc=>decide (c.1=b)).map (·.2)
 #L:∀b xs,M b=!xs->(b,xs)∈ms:=λb xs e=>by
  @c,i,rfl:=wj.mp e
  #h1:c.1=b:=by ±List.find?_some i
  [←h1];!jx i
 #B:∀c∈ms,M c.1=!c.2:=λc i=>by
  #go:∀(l:#(R0×#V)),(l.map (·.1)).Nodup->c∈l->(l.find? λd=>decide (d.1=c.1)).map (·.2)=!c.2:=λl=>by
   induction l with
   |nil=>intro _ z;&z
   |cons d l ih =>
    ¢nd hm;[zn,z6]at nd;[yd]
    ¿h:d.1=c.1
    .[qI h]
     @z|z:=q0.mp hm
     .[z];rfl
     .!absurd (h▸qf.mpr {c,z,O}:d.1∈l.map (·.1)) nd.1
    .[decide_eq_false h]
     @z|z:=q0.mp hm
     .!absurd (by[z]) h
     .!ih nd.2 z
  !go ms R i
 #look:∀c∈ms,∃o,(K w.params).lookup c.1=!o/\fD o c.2=¶/\c.2.length<=sizeLine:=λc i=>by
  #h:=mx.mp (X w) c i;unfold Ad at h
  cases q:(K w.params).lookup c.1 with
  |none=>rw[q]at h;!absurd h qr
  |some o =>
   [q]at h;#h:(fD o c.2&&Nat.ble c.2.length 1000)=¶:=h;[zt]at h;!{o,O,h.1,ww (cF (jn h.2))}
 ?OO (M:=M) J G.T.g G.T.b G.T.builtins G.T.nolimit hg (hnt w) (hnl w) (λQ E=>{I Q E,(((codeHd_of_K J (hC w Q E).choose_spec.2)).tab (I Q E)).isCodeTable}) hbm (λb xs e=>look _ (L b xs e)) A p (qg j hn2) hr (λbase h1 h2 h3=>hF base h1 h2 λt C=>h3 _ (y w t C)) hb (λH hO hS=>U H a ns j (λt C=>S w t C▸?_) (λc i=>?_) hS) λH e s'=>N H m e s'
 .@z|z|z:=hO (mU (K w.params) t)
  .!z.2
  .!absurd (y w t C) z.1
  .!absurd (y w t C) z.1
 .@z|⟨_,ys,hy,z⟩|⟨_,z,_⟩:=hO c.1
  .@o,h1,h2,_:=look c i
   #e:=J _ _ h1;[I _ z.1]at e;&e;!absurd h2 qr
  .[B c i]at hy
   &hy;!z
  .[B c i]at z;&z
§Di(b cl:Nat)(q:R9)(P:R0)(i:Nat)(tb:TE)(t:TA):TE:=λσ H Q=>t σ H λvs H1=>Tb b cl q P H1/\∀H2,Tb b cl q P H2->af (del H1 P) (del H2 P)->∃a,σ[i]?=!(!a)/\gQ (λvs H Q _=>∃y,vs=[y]/\tb [!y,!a] H Q) vs H2 Q
section
variable {X:Cx}{k:Nat}
§Nt{x y z:R9}{i:Nat}{e m:Expr}{d:Arguments}{b:Scope}{c P:R0}{p u kp pos:Pos}{t:TA}{tb:TE}(F:X.env.code=.ref c)(hC:codeHdIn X.K c P=¶)(hB:X.base.BuiltinsAt X.mg P)(U:bG (k+2) X.A)(hg:Gl X x)(hm:X.mg x=£)(hv:bootBuiltins x=!(.builtin "sorted"))(S:nL y z b)(hN:X.N[i]?=!z)(hk:X.env.kindOf z=some .cell)(hX:∀x,X.env.kindOf x=some .cell->∃c,X.env.cells.lookup x=!c)(hcm:X.calm=¶)(hfn:X.fn z=¶)(G:∀cl pm cd R x,bindArgs (kla_fn "<lambda>" (X.env.qual++"<lambda>") d m b cl pm cd R) {[x],[]}=pure [(y,x)])(hb:∀cl f cd A outer s H,bG k (ie X.prog X.w X.K X.mg X.base y z (X.env.qual++"<lambda>") b cl f cd A outer s H).A->PE (ie X.prog X.w X.K X.mg X.base y z (X.env.qual++"<lambda>") b cl f cd A outer s H) m tb)(ha:PA X [e] t)(M:defaultsOf d X.env=([],[]):=by rfl)(hn:x≠"__name__":=by decide)(Z:(x==("__debug__":R9))=¿:=by decide)(he:starEach [e] X.env=(false,eval e X.env)::starEach [] X.env:=by rfl):PE X (.Call (.Name x p) [e] [{!"key",.Lambda d m b u,kp}] pos) (Di u.line u.col (X.env.qual++"<lambda>") P i tb t):=by
 ?{?_};¢pins s σ H Q I h;@v,j:=hX z hk
 #r:∀y∈b.names,y.2=.free->∃c,X.env.cells.lookup y.1=!c:=λn hn e=>by[S.fr n hn e];!{v,j}
 #hcl:=Ds r;#J:=vQ r (acc:=[]) (λx c e=>by &e)
 #l:∀n a,(lQ X.env b.names []).lookup n=!a->n=z/\a=v:=λn a e=>by
  @q|q:=AI e
  .#L:n=z:=S.fr _ q rfl
   #:=J n a e;[L,j]at this;!{L,(qJ this).symm}
  .&q
 #hzc:(lQ X.env b.names []).lookup z=!v:=by
  @T,O:=wL (env:=X.env) (acc:=[]) (.inl (PySem.mem_of_lookup S.lz));[O,(l z T O).2]
 ?wpAny_Call_Name_kw (iO I hg hm hv ?_ hn Z);?callWith_kw (bK (ha pos pins s σ H _ I h) λus s1 ⟨vs,H1,I1,Y,hT,q1⟩=>kws_cons (GW I1 F hC hB hT M hcl λf T R pm s2 H2 E V hc2 sm hf nf of=>kws_nil ?_)) (by[he];rfl) (by[he];rfl);@vz,W,q2:=q1 H2 V sm;@m0,hn1,hl:=E.loc;@uz,ruz,look:=hl i z vz hN W (.inr (.inl hk))
 #g:s2.heap.IsCell v (!uz):=by
  @⟨kk,_⟩|⟨_,c2,B,g⟩:=look
  .[hk]at kk;&kk
  .[j]at B;&B;!g
 #C:=E.dr z v j
 #kT:v∉d9 X.stack:=E.hG (E.vA z v j) (λhm=>by
  @_,o,ho,_:=E.ok.eh.mem hm
  !absurd (zf (qG ho) (E.ok.yG z v hfn j)) (wu _))
 ?F1 (λs' Hm x y Q e0 un same Y D=>?_) (by #:=U.un;¥) E Y q2;@y',hy,D:=D;&hy;#hcr:s'.heap.CodeRec (.ref T) (X.env.qual++"<lambda>"):=(e0.aS T _ (same _ _ hc2)).1;@oc,ec,dc:=g;!Ht U.Mo e0 (un.keep f _ of hf nf (by simp)) hcr S (G _ _ _ _ _) Y l hzc {oc,un.keep v _ ec C kT (by simp),dc} (un.free v _ ec C (by simp)) ruz (hb _ _ _ _ _ _ _ (U.Mo.deeper _)) D
end
abbrev TJ:=St->Hp->R9->(R9->Hp->¤)->¤
§PJ(X:Cx)(es:#Expr)(b:TJ):Prop:=∀pins s σ H acc R,Inv X pins σ H s->b σ H acc R->
 Joins (model X.prog X.w) X.A X.xe (evalEach es X.env) acc (λout a=>∃H1,Inv X pins σ H1 a/\R out H1) s
§HN:TJ:=λ_ H acc R=>R acc H
§Cr(te:TE)(a:TJ):TJ:=λσ H acc R=>te σ H λx H1=>∃z,x=.str z/\(acc++z).length<=16777216/\a σ H1 (acc++z) R
inductive QC(Q:VK)(x:V)(H1:Hp):Prop
 |mk(z:_)(_:x=.str z)(_:z.length<=16777216)(_:Q (.str z) H1)
§RW(te:TE):TE:=λσ H Q=>te σ H λx H1=>QC Q x H1
§Mz(a:TJ):TE:=λσ H Q=>a σ H Str.empty λout H1=>out.length<=16777216/\Q (.str out) H1
section
variable {X:Cx}
§BK:PJ X [] HN:=λpins s σ H acc R I h=>{H,I,h}
§CO{e:Expr}{es:#Expr}{te:TE}{a:TJ}(d:PE X e te)(g:PJ X es a):PJ X (e::es) (Cr te a):=by
 ¢pins s σ H acc R I h;?qM (d pins s σ H _ I h) (λv b ⟨x,H1,c,i,f⟩=>?_) λ_ _ e=>e;@z,rfl,hz,q:=f;@t,rfl:=i;!{z,t,O,by[sizeLine_eq];!hz,g pins b σ H1 _ R c q}
§Ho(b:PE X e te):PE X (.FormattedValue e (-1) none pos) (RW te):=by
 ?{?_};¢pins s σ H Q I h;?wpAny_FormattedValue_plain (qM (b pins s σ H _ I h) (λv f ⟨x,H1,a,d,c⟩=>?_) λ_ _ e=>e);@z,rfl,hz,q:=c;@t,rfl:=d;!wpAny_formatField_str {.str z,H1,a,{_,O},q} {.str z,H1,a.tok _,{_,O},q} (by[sizeLine_eq];!hz)
§Bp{es:#Expr}(g:PJ X (c::b::es) a):PE X (.JoinedStr (c::b::es) pos) (Mz a):=by
 ?{?_};¢pins s σ H Q I h;?wpAny_JoinedStr ?_;#:=g pins s σ H _ _ I h;?(?_:∀(ps:#(Sem MD)) acc s,Joins (model X.prog X.w) X.A X.xe ps acc _ s->Joins (model X.prog X.w) X.A X.xe ps acc _ s) _ _ _ this;¢ps
 induction ps with
 |nil =>
  rintro acc s ⟨H1,d,hz,q⟩;!{by[sizeLine_eq];!hz,.str acc,H1,d.tok _,{_,O},q}
 |cons p ps i =>
  ¢acc s h;?qM h (λv j h1=>?_) λ_ _ e=>e;@y,t,rfl,hz,f:=h1;!{y,t,O,hz,i _ _ f}
end
section
variable {prog:Program}{w:World}{A:Around}{E:KE}{s:RX}
§Nh(a v:MD):checkTypeCall "enumerate" { pos:=[a],kw:=[("start",v)] }=pure Unit.unit:=by
 first
 |rfl
 |kernel_rfl
§P9(a v:MD):checkBuiltinCall "enumerate.__new__" { pos:=[.type "enumerate",a],kw:=[("start",v)] }=pure Unit.unit:=by
 first
 |rfl
 |kernel_rfl
§CK{α:Type}{M:Model}{c:Bool}{a b:Sem α}{Q:α->RX->¤}(h1:wpAny M A a Q E s)(h2:wpAny M A b Q E s):wpAny M A (if c=¶ then a else b) Q E s:=by
 &c
 .!h2
 .!h1
§MI(a x v:MD):argsOk "object.__init__" { pos:=[a,x],kw:=[("start",v)] }:=by
 ¶argsOk;[signature?_of (id:="object.__init__") (n:=['_','_','t','i','n','i','_','_']) (o:=['t','c','e','j','b','o']) (by kernel_rfl) F.owner_object]
 kernel_rfl
§OX(c:s.TypeIs (.ref a) "enumerate")(h:Q Unit.unit s):wpAny (model prog w) A (checkBuiltinCall "object.__init__" { pos:=[.ref a,x],kw:=[("start",v)] }) Q E s:=by
 ¶checkBuiltinCall;[show builtinKind "object.__init__"=some .slot from by kernel_rfl,show splitId "object.__init__"=some ("object","__init__") from ∅];dsimp only;?qA (wpAny_isInstance (T:="enumerate") (b:=¶) c (by[isSubtype_type];kernel_rfl) ?_);[qB ⋯];!wpAny_of_eq (MI _ _ _) h
§OS(a:MD)(kw:#(R9×MD)):Builtin.SmallTypes.newClass "enumerate" { pos:=[.type "enumerate",a],kw:=kw }=pure (.type "enumerate",[a]):=by
 first
 |rfl
 |kernel_rfl
§Nz{l:R0}{items:Array MD}{tk:Tok}{Q:KE}(k:s.heap.IsList l items)(q:∀h',IsEnum h' (↑s+1) ↑s 1 .none->h'.IsListIter ↑s l 0->h'.objs.size=↑s+2->(∀b o,s.heap.get? b=!o->h'.get? b=!o)->Q (.ref (↑s+1)) { s with heap:=h' }) :
  wpAny (model prog w) A (call (.type "enumerate") [.ref l] [("start",.int 1 tk)]) Q E s:=by
 #d:=F.called_enumerate;@c,tl,f:=d.mro;?wpAny_call (codeAny_of_tree ?_);¤wpAny _ _ (pure _) _ _ s;?qE {Code.quiet_builtin _ ∅,codeAny_builtin F.entry_type_call ?_};[Around.under_plain (weight_type_call_type _ _ _) rfl];unfold Builtin.«type.__call__»;dsimp only;[qB (by[d.notType];!qr)];[qB (by[d.canCreate];!qr)];?qA (wpAny_of_eq (Nh _ _) ?_);?qA (wpAny_of_eq f ?_);[qB (by !qr)];?qA (wpAny_of_eq d.made ?_);?qA (qE (qA (qK (wpAny_call ?_))));?codeAny_call_builtin d.plain F.entry_enumerate_new (wpAny_of_eq (P9 _ _) ?_);¤wpAny _ A.in1.in1 (Builtin.«enumerate.__new__» { pos:=[Value.type "enumerate",Value.ref l],kw:=[("start",Value.int 1 tk)] }) _ _ s;unfold Builtin.«enumerate.__new__»;?qA (wpAny_of_eq (OS _ _) ?_);dsimp only;[qF ⋯];?qA ?_;¶Builtin.SmallTypes.calledThroughType;?qA (wpAny_stack λst _ _ _=>qE ?_);#n:∀b o,s.heap.get? b=!o->((s.heap.push { cls:=.type "list_iterator",data:=.fields #[.ref l,.int 0 0] }).push { cls:=.type "enumerate",data:=.fields #[.none,.bool false,.ref ↑s,rawInt 1,.none,.none] }).get? b=!o:=λb o e=>qH _ (qH _ e);#j:(s.heap.push { cls:=.type "list_iterator",data:=.fields #[.ref l,.int 0 0] }).objs.size=↑s+1:=size_push' _ _
 #i:((s.heap.push { cls:=.type "list_iterator",data:=.fields #[.ref l,.int 0 0] }).push { cls:=.type "enumerate",data:=.fields #[.none,.bool false,.ref ↑s,rawInt 1,.none,.none] }).get? (↑s+1)=some { cls:=.type "enumerate",data:=.fields #[.none,.bool false,.ref ↑s,rawInt 1,.none,.none] }:=by
  [←j];!qL _ rfl
 #p:((s.heap.push { cls:=.type "list_iterator",data:=.fields #[.ref l,.int 0 0] }).push { cls:=.type "enumerate",data:=.fields #[.none,.bool false,.ref ↑s,rawInt 1,.none,.none] }).IsListIter ↑s l 0:={_,qH _ (qL _ rfl),O,O}
 #m:((s.heap.push { cls:=.type "list_iterator",data:=.fields #[.ref l,.int 0 0] }).push { cls:=.type "enumerate",data:=.fields #[.none,.bool false,.ref ↑s,rawInt 1,.none,.none] }).objs.size=↑s+2:=by[size_push',j]
 #g:=q _ i p m n;?CK ?_ ?_
 all_goals
  ?qA (wpAny_of_eq (a:=(Value.ref l,!(Value.int 1 tk))) (by first|rfl|kernel_rfl) ?_);dsimp only;?qA (wpAny_of_eq (a:=Value.int 1 tk) (by rfl) ?_);?qA (wpAny_of_eq (a:=some 1) (by rfl) ?_);dsimp only;[qB ⋯];?qA (wpAny_pyIter_list k ?_);?qA ?_;¤wpAny _ _ (newObj (Value.type "enumerate") (Data.fields #[.none,.bool false,.ref ↑s,rawInt 1,.none,.none])) _ _ _;?wpAny_newObj_type (qE ?_);¤wpAny _ A.in1 _ _ _ { s with heap:=(s.heap.push { cls:=.type "list_iterator",data:=.fields #[.ref l,.int 0 0] }).push { cls:=.type "enumerate",data:=.fields #[.none,.bool false,.ref ↑s,rawInt 1,.none,.none] } };[j];generalize (s.heap.push { cls:=.type "list_iterator",data:=.fields #[.ref l,.int 0 0] }).push { cls:=.type "enumerate",data:=.fields #[.none,.bool false,.ref ↑s,rawInt 1,.none,.none] }=h2 at i g;#h:Shared.TypeIs { s with heap:=h2 } (.ref (↑s+1)) "enumerate":={_,i,O};?qA (wpAny_isInstance h sub_enumerate ?_);[qB ⋯];?qA (qK (wpAny_callSpecial?_slot h d.init ?_));?wpAny_call (codeAny_call_builtin ∅ F.entry_object_init (OX h ?_));?qA (wpAny_typeOf h ?_);?qA (wpAny_of_eq d.init.lookup ?_);?qA (wpAny_of_eq d.made ?_);[qB ∅,qB ∅];!qE (qE g)
§iU(a:s.heap.get? e=some { cls:=c,data:=.fields vs })(d:k<vs.size)(g:∀h',h'.get? e=some { cls:=c,data:=.fields (vs.setIfInBounds k x) }->(∀b,b≠e->h'.get? b=s.heap.get? b)->h'.objs.size=↑s->Q Unit.unit { s with heap:=h' }):wpAny M A (setField (.ref e) k x) Q E s:=by
 ?wpAny_setField a rfl d (g _ ?_ (λb f=>Heap.get?_update_other _ _ f.symm) (Heap.size_update ..));!Heap.get?_update_self _ a rfl
§LU(h:Heap)(e it:R0)(i:Nat):Prop:=∃b c old,h.get? e=some { cls:=.type "enumerate",data:=.fields #[b,.bool c,.ref it,rawInt ((i:Int)+1),.none,old] }/\(b=.none\/∃(a:Nat) (o:Obj),b=rawInt (a:Int)/\h.get? a=!o)
§Iy{e it l:R0}{items:Array MD}{i:Nat}{Q:Option MD->RX->¤}(hh:A.handled=£)(S:s.heap.IsList l items)(p:s.heap.IsListIter it l i)(he:LU s.heap e it i)(B:e≠it)(n2:l≠e)(n3:l≠it)(hi:i<=items.size)(h1:∀x h' tk,items[i]?=!x->LU h' e it (i+1)->h'.IsListIter it l (i+1)->h'.get? ↑s=some { cls:=.type "tuple",data:=.seq #[.int ((i:Int)+1) tk,x] }->(∀b o,b≠e->b≠it->s.heap.get? b=!o->h'.get? b=!o)->Q (!(.ref ↑s)) { s with heap:=h',toks:=tk+1 })(h2:i=items.size->∀h',Heap.ExtBut it s.heap h'->Q none { s with heap:=h' }):wpAny (model prog w) A (pyNext (.ref e)) Q E s:=by
 @X,J,old,y,hf:=he;#R:s.TypeIs (.ref e) "enumerate":={_,y,O};#D:=Draws.list (prog:=prog) (w:=w) (A:=A.in1) hh it l n3 items;¶pyNext;?qA (wpAny_attempt (wpAny_callSpecial?_slot (name:=Str.ofString "__next__") R F.slot_enumerate_next (qN F.slot_enumerate_next R F.entry_enumerate_next ?_ (F.args_enumerate_next_1 _))));unfold Builtin.«enumerate.__next__»;?qA (wpAny_of_eq (a:=(Value.ref e,[])) rfl ?_);?qA (wpAny_field y rfl (x:=.ref it) rfl ?_)
 ¿L:i<items.size
 .?qA (D.item i s _ _ L {p,S} λx d tk M st H=>?_)
  #h:d.get? e=some { cls:=.type "enumerate",data:=.fields #[X,.bool J,.ref it,rawInt ((i:Int)+1),.none,old] }:=(H.2 e B).trans y;?qA (wpAny_field (s:={ s with heap:=d,toks:=tk }) h rfl (x:=rawInt ((i:Int)+1)) rfl ?_);?qA (wpAny_field (s:={ s with heap:=d,toks:=tk }) h rfl (x:=.none) rfl ?_);dsimp only;[qF ⋯];?qA (wpAny_mkInt ?_);?qA (iU (s:={ s with heap:=d,toks:=tk+1 }) h (by simp) λg1 o1 k1 z1=>?_);?qA (iU (s:={ s with heap:=g1,toks:=tk+1 }) o1 (by simp) λj o2 k2 Z=>?_);?qA (wpAny_newTuple (s:={ s with heap:=j,toks:=tk+1 }) ?_);#hz:j.objs.size=↑s:=Z.trans (z1.trans H.1)
  #t:(j.push { cls:=.type "tuple",data:=.seq #[.int ((i:Int)+1) tk,x] }).get? ↑s=some { cls:=.type "tuple",data:=.seq #[.int ((i:Int)+1) tk,x] }:=by[←hz];!qL _ rfl
  #f:=qH { cls:=.type "tuple",data:=.seq #[.int ((i:Int)+1) tk,x] } o2;#r:∀b u,b≠e->d.get? b=!u->(j.push { cls:=.type "tuple",data:=.seq #[.int ((i:Int)+1) tk,x] }).get? b=!u:=λb u V q=>qH _ (((k2 b V).trans (k1 b V)).trans q);¤wpAny _ _ _ _ _ { s with heap:=j.push { cls:=.type "tuple",data:=.seq #[.int ((i:Int)+1) tk,x] },toks:=tk+1 };[show Value.ref j.objs.size=Value.ref ↑s by[hz]];generalize j.push { cls:=.type "tuple",data:=.seq #[.int ((i:Int)+1) tk,x] }=g3 at t f r;#n:↑s≠e:=zu (qG y)
  #m:∀c:Heap,(∀b u,b≠e->g3.get? b=!u->c.get? b=!u)->c.IsListIter it l (i+1):=λc q=>by
   @U,P,ci,di:=st.1;!{U,q _ _ (Ne.symm B) (r _ _ (Ne.symm B) P),ci,di}
  #ks:∀c:Heap,(∀b u,b≠e->g3.get? b=!u->c.get? b=!u)->∀b o,b≠e->b≠it->s.heap.get? b=!o->c.get? b=!o:=λc q b o g G K=>q b o g (r b o g ((H.2 b G).trans K));?qA ?_;¶Builtin.SmallTypes.ownedTupleIsFree;?qA (wpAny_field (s:={ s with heap:=g3,toks:=tk+1 }) f rfl (x:=X) rfl ?_);@rfl|⟨a,o,rfl,ea⟩:=hf
  .?qE ?_
   [qF rfl];?qA (wpAny_rule (qA (wpAny_field (s:={ s with heap:=g3,toks:=tk+1 }) f rfl (x:=old) rfl ?_)));?qA (iU (s:={ s with heap:=g3,toks:=tk+1 }) f (by simp) λc z N _=>?_);?qA (qA (iU (s:={ s with heap:=c,toks:=tk+1 }) z (by simp) λg5 o5 Y _=>?_));?iU (s:={ s with heap:=g5,toks:=tk+1 }) o5 (by simp) λW o6 k6 _=>?_;?qA (wpAny_letGo (qE {_,O,qE ?_}));#I:∀b u,b≠e->g3.get? b=!u->W.get? b=!u:=λb u v q=>((k6 b v).trans ((Y b v).trans (N b v))).trans q;!h1 x W tk M {_,_,_,o6,.inr {_,_,O,I _ _ n t}} (m _ I) (I _ _ n t) (ks _ I)
  .obtain⟨o',k⟩:∃o',g3.get? a=!o':=by
    ¿g:a=e
    .[g];!{_,f}
    .¿G:a=it
     .@U,P,_:=st.1
      [G];!{_,r _ _ (Ne.symm B) P}
     .!{_,r _ _ g ((H.2 _ G).trans ea)}
   ?qA (kdx_alive (s:={ s with heap:=g3,toks:=tk+1 }) (a:=((a:Int)).toNat) k ?_);[qB (by simp)];?qA (wpAny_field (s:={ s with heap:=g3,toks:=tk+1 }) f rfl (x:=.bool J) rfl ?_);dsimp only;&J
   .[qF ⋯]
    ?qA (iU (s:={ s with heap:=g3,toks:=tk+1 }) f (by simp) λc z N _=>qE ?_);[qB ⋯];#C:∀b u,b≠e->g3.get? b=!u->c.get? b=!u:=λb u v q=>(N b v).trans q;?qE {_,O,qE (h1 x c tk M {_,_,_,z,.inr {a,?_}} (m _ C) (C _ _ n t) (ks _ C))}
    ¿g:a=e
    .[g];!{_,O,z}
    .!{_,O,C _ _ g k}
   .[qB ⋯]
    ?qE ?_;[qB ⋯];!qE {_,O,qE (h1 x g3 tk M {_,_,_,f,.inr {a,_,O,k}} (m _ λ_ _ _ q=>q) t (ks _ λ_ _ _ q=>q))}
 .#hn:i=items.size:=()
  £hn;?qA (D.done s _ _ {p,S} λh' x eb ⟨o,K,ec⟩=>?_);dsimp only;?qA (wpAny_isInstance (T:="StopIteration") (b:=¶) {o,K,ec} isSubtype_stop ?_);!qE (h2 rfl h' eb)
end
section
variable {X:Cx}{pins:#(R0×Obj)}{σ:St}
§mI(H:Hp)(xs zs:#V):Prop:=∀(j:Nat) z,zs[j]?=!z->∃T x,xs[j]?=!x/\z=.ref T/\H T=!(.tup [.int ((j:Int)+1),x])
§mI.mono(h:mI H xs zs)(s:af H H'):mI H' xs zs:=λj z e=>let⟨T,x,h1,h2,a⟩:=h j z e;{T,x,h1,h2,s _ _ a}
§P4{A:Around}{e it S l:R0}(hh:A.in1.handled=£)(n1:e≠it)(n2:l≠e)(n3:l≠it)(n4:S≠e)(n5:S≠it)(n6:l≠S) :
  ∀(k i:Nat) (s:RX) (H:Hp) (zs:#V) (acc:Array MD) (c:Nat),xs.length - i=k->i<=xs.length->Inv X pins σ H s->aA H l xs->LU s.heap e it i->s.heap.IsListIter it l i->(∀b∈[e,it,S],fj X pins H b)->
   s.heap.get? S=!(seqObj "list" acc c)->aK zs acc.toList->zs.length=i->mI H xs zs->
   (∀s' H' g f c',Inv X pins σ H' s'->af H H'->H' S=£->s'.heap.get? S=!(seqObj "list" f c')->aK g f.toList->g.length=xs.length->mI H' xs g->R (.ok (.ret G)) s')->
   codeAny (model X.prog X.w) A (.builtin "list.extend.loop" {[.ref S,.ref e,G],[]}) R s:=by
 ¢k
 induction k with
 |zero =>
  ¢i s H zs acc c hk hi I P K m t N L hz hp Y;@its,M,pl,_:=I.list P;#hl:=M.length;?codeAny_builtin F.entry_extend_loop ?_;[Around.under_plainId F.plain_extend_loop _];¤wpAny _ A.in1 (pyNext (.ref e) >>= _) _ _ s;?qA (Iy hh pl.isList m K n1 n2 n3 (by[zg];¥) (λx _ _ T=>?_) λ_ h' eb=>?_)
  .#:=(Array.getElem?_eq_some_iff.mp T).1
   [zg]at this;¥
  .?qE (Y { s with heap:=h' } H zs acc c (I.dJ (t':=s.toks) (ch:=[it]) (λb d=>t b (by[List.mem_singleton.mp d];simp)) λb o d n=>eb b o (λz=>d (by simp[z])) n) (af.refl _) (t S (by simp)).1 (eb _ _ n5 N) L () hp)
 |succ k ih =>
  ¢i s H zs acc c hk hi I P K m t N L hz hp Y;@its,M,pl,zl:=I.list P;#hl:=M.length
  #za:acc.size=i:=by #e1:=aK.length L;#e2:acc.toList.length=acc.size:=zx;¥
  ?codeAny_builtin F.entry_extend_loop ?_;[Around.under_plainId F.plain_extend_loop _];¤wpAny _ A.in1 (pyNext (.ref e) >>= _) _ _ s;?qA (Iy hh pl.isList m K n1 n2 n3 (by[zg];¥) (λu h' tk T Z E hT kp=>?_) λhn=>?_)
  .#hu:its[i]?=!u:=by ±T
   obtain⟨x,ex,ru⟩:∃x,xs[i]?=!x/\RelV x u:=by
    #v:i<xs.length:=()
    @u',e',r':=M.get (qh v);[hu]at e';&e';!{_,qh v,r'}
   #y:=I.aS.fresh (a:=↑s) (qe _)
   #ob:∀b∈[e,it,S],b<↑s:=λb d=>by
    ac_nf at d
    @rfl|rfl|rfl:=d
    .@_,_,_,q,_:=K;!qG q
    .@_,q,_:=m;!qG q
    .!qG N
   #I1:Inv X pins σ H { s with heap:=h',toks:=tk+1 }:=I.dJ (t':=tk+1) (ch:=[e,it]) (λb d=>t b (by simp only[List.mem_cons,List.not_mem_nil,or_false]at d ⊢;@h|h:=d <;> simp[h])) λb o d n=>kp b o (λz=>d (by simp[z])) (λz=>d (by simp[z])) n
   #I2:=I.hZ I1 (qe _) y (o:=.tup [.int ((i:Int)+1),x]) {by ¤2<=sizeLine;decide,[.int ((i:Int)+1) tk,u],.cons {tk,O} (.cons ru .nil),{_,hT,O,_,O}};#s2:af H (upd H ↑s (.tup [.int ((i:Int)+1),x])):=af.new y
   #r:∀b∈[e,it,S],fj X pins (upd H ↑s (.tup [.int ((i:Int)+1),x])) b:=λb d=>{by[ax (qp (ob b d))];!(t b d).1,(t b d).2}
   #eT:(upd H ↑s (.tup [.int ((i:Int)+1),x])) ↑s=!(.tup [.int ((i:Int)+1),x]):=aD;#C:h'.get? S=!(seqObj "list" acc c):=kp _ _ n4 n5 N;generalize upd H ↑s (.tup [.int ((i:Int)+1),x])=H2 at I2 s2 r eT;¤wpAny _ A.in1 (Builtin.List.listUpdate (.ref S) (λa=>a.push (.ref ↑s)) >>= _) _ _ _;?qA (listUpdate_at (s:={ s with heap:=h',toks:=tk+1 }) C rfl ?_ () (by[Array.size_push];¥));obtain⟨U,p⟩:∃U,(h'.update S (Obj.mapSeq (·.push (Value.ref ↑s)))).get? S=!(seqObj "list" (acc.push (.ref ↑s)) U):={_,get?_update_seq C _};#J:∀b o,b≠S->h'.get? b=!o->(h'.update S (Obj.mapSeq (·.push (Value.ref ↑s)))).get? b=!o:=λb o d n=>(Heap.get?_update_other _ _ (λz=>d z.symm)).trans n;¤wpAny _ _ _ _ _ { s with heap:=h'.update S (Obj.mapSeq (·.push (Value.ref ↑s))),toks:=tk+1 };generalize h'.update S (Obj.mapSeq (·.push (Value.ref ↑s)))=h2 at p J
   #I3:Inv X pins σ H2 { s with heap:=h2,toks:=tk+1 }:=I2.dJ (s:={ s with heap:=h',toks:=tk+1 }) (t':=tk+1) (ch:=[S]) (λb d=>r b (by[List.mem_singleton.mp d];simp)) λb o d n=>J b o (λz=>d (by simp[z])) n
   ?qE {plainId_quiet F.plain_extend_loop _,ih (i+1) _ H2 (zs++[.ref ↑s]) _ U () () I3 (P.same s2) ?_ ?_ r p ?_ (by[qi,hz];rfl) ?_ λs' H' g f c' a1 a2 a3 a4 a5 a6 a7=>Y s' H' g f c' a1 (s2.trans a2) a3 a4 a5 a6 a7}
   .@f0,f1,old,Q,B:=Z
    ?{f0,f1,old,J _ _ (Ne.symm n4) Q,?_};@B|⟨a,o,q3,q4⟩:=B
    .!.inl B
    .¿z:a=S
     .[z]at q3;!.inr {S,_,q3,p}
     .!.inr {a,o,q3,J _ _ z q4}
   .@o,Q,B:=E
    !{o,J _ _ (Ne.symm n5) Q,B}
   .[Array.toList_push]
    !aK.append L (.cons rfl .nil)
   .¢j z D
    ¿hj:j<zs.length
    .[zv hj]at D
     !hp.mono s2 j z D
    .#W:j=zs.length:=by
      #:=(qk.mp D).1;[qi,qt]at this;¥
     £W;[ye (qe _),gh]at D;&D;!{_,x,by[hz];!ex,O,by[hz];!eT}
  .[zg]at hn
   ¥
§NH{A:Around}(hh:A.handled=£)(I:Inv X pins σ H s)(J:aA H l xs)(n1:e≠it)(n2:l≠e)(n3:l≠it)(U:LU s.heap e it 0)(y:s.heap.IsListIter it l 0)(N:∀b∈[e,it],fj X pins H b)(hQ:∀s' H' zs p,Inv X pins σ H' s'->H p=£->af H H'->H' p=!(.lst zs)->zs.length=xs.length->mI H' xs zs->Q (.ref p) s') :
  wpAny (model X.prog X.w) A (call (.type "list") [.ref e]) Q E s:=by
 @f0,T,old,v,x:=id U
 ?callType_codes (Q₁:=λobj f=>obj=.ref ↑s/\f={ s with heap:=s.heap.push { cls:=.type "list",data:=.seq #[] } }) F.called_list (F.typeCall_list_1 _) F.entry_list_init
  (code_list_new _ {O,O}) λobj f h₁=>?_
 @rfl,rfl:=h₁;#t:(s.heap.push { cls:=.type "list",data:=.seq #[] }).get? ↑s=some { cls:=.type "list",data:=.seq #[] }:=qL _ rfl;?{{_,t,O},F.args_list_init_2 _ _,?_};#n:e<↑s:=qG v;generalize C:s.heap.push { cls:=.type "list",data:=.seq #[] }=h1 at t
 #Z:∀b o,s.heap.get? b=!o->h1.get? b=!o:=λb o e=>by[←C];!qH _ e
 ¤wpAny _ A.in1.in1 (do let old ←Builtin.List.listItems (.ref ↑s);Builtin.List.listUpdate (.ref ↑s) (λ_=>#[]);letGo old.toList.reverse;Builtin.List.listExtendWith (.ref ↑s) (.ref e) .none) _ _ { s with heap:=h1 };?qA ?_;¶Builtin.List.listItems;?qA (wpAny_seqItems (s:={ s with heap:=h1 }) t rfl (qE ?_));¤wpAny _ A.in1.in1 (updateSeq ↑s (λ_=>#[]) >>= λ_=>letGo (#[]:Array MD).toList.reverse >>= λ_=>Builtin.List.listExtendWith (.ref ↑s) (.ref e) .none) _ _ { s with heap:=h1 };?qA (wpAny_updateSeq (s:={ s with heap:=h1 }) t rfl ?_);#i:=Heap.get?_update_self (Obj.mapSeq (λ_=>(#[]:Array MD))) t rfl
 #G:∀b o,s.heap.get? b=!o->(h1.update ↑s (Obj.mapSeq (λ_=>(#[]:Array MD)))).get? b=some o :=
  λb o e=>(Heap.get?_update_other _ _ (zu (qG e))).trans (Z b o e)
 ¤wpAny _ _ _ _ _ { s with heap:=h1.update ↑s (Obj.mapSeq (λ_=>(#[]:Array MD))) };generalize h1.update ↑s (Obj.mapSeq (λ_=>(#[]:Array MD)))=h2 at i G;?qA (wpAny_letGo ?_);#d:Shared.TypeIs { s with heap:=h2 } (.ref e) "enumerate":={_,G _ _ v,O}
 #e1:Builtin.List.listSameRef (.ref ↑s) (.ref e)=¿:=by
  ¤(↑s==e)=¿;!beq_eq_false_iff_ne.mpr (zu n)
 ¶Builtin.List.listExtendWith;?qA (wpAny_typeOf d ?_);[qB (by[e1];decide)];?qA (wpAny_pyIter_slot d F.slot_enumerate_iter (qN F.slot_enumerate_iter d F.entry_enumerate_iter ?_ (F.args_enumerate_iter_1 _)));¤wpAny _ _ (ret (.ref _)) _ _ { s with heap:=h2 };?qE {_,O,"enumerate",_,d,F.slot_enumerate_next.lookup,?_};?qA (qK ?_);¶Builtin.List.listLengthHint;?qA (wpAny_specialOf (name:=Str.ofString "__len__") d (r:=£) (by[typeLookup_type,builtinLookup_eq_fast];kernel_rfl) ?_);dsimp only;[qB ⋯,qB ⋯];?qA (wpAny_specialOf (name:=Str.ofString "__length_hint__") d (r:=£) (by[typeLookup_type,builtinLookup_eq_fast];kernel_rfl) (qE ?_));[qF (by rfl)];?qA (wpAny_rule (qA ?_));¶Builtin.List.listTouch;?qA (listUpdate_at (s:={ s with heap:=h2 }) i rfl ?_);obtain⟨M,g⟩:∃M,(h2.update ↑s (Obj.mapSeq (·.push Value.none))).get? ↑s=!(seqObj "list" #[Value.none] M):={_,get?_update_seq i _};#P:∀b o,b≠↑s->h2.get? b=!o->(h2.update ↑s (Obj.mapSeq (·.push Value.none))).get? b=!o:=λb o u e=>(Heap.get?_update_other _ _ (λz=>u z.symm)).trans e;¤wpAny _ _ _ _ _ { s with heap:=h2.update ↑s (Obj.mapSeq (·.push Value.none)) };generalize h2.update ↑s (Obj.mapSeq (·.push Value.none))=h4 at g P;?listUpdate_at (s:={ s with heap:=h4 }) g rfl ?_;obtain⟨D,m⟩:∃D,(h4.update ↑s (Obj.mapSeq (·.pop))).get? ↑s=!(seqObj "list" #[] D):={_,get?_update_seq g _};#k:∀b o,s.heap.get? b=!o->(h4.update ↑s (Obj.mapSeq (·.pop))).get? b=!o:=λb o e=>(Heap.get?_update_other _ _ (zu (qG e))).trans (P b o (qp (qG e)) (G b o e));¤wpAny _ _ _ _ _ { s with heap:=h4.update ↑s (Obj.mapSeq (·.pop)) };generalize h4.update ↑s (Obj.mapSeq (·.pop))=h5 at m k;¤wpAny _ _ (again (Code.builtin "list.extend.loop" {[Value.ref ↑s,Value.ref e,Value.none],[]})) _ _ _;#hn:=I.aS.fresh (a:=↑s) (qe _);#S:Inv X pins σ H { s with heap:=h5 }:=I.kept (t':=s.toks) k;@oi,R,ci,di:=id y
 #B:l<↑s:=by @_,_,pl,_:=I.list J;@_,q,_:=pl.isList;!qG q
 ?qE {plainId_quiet F.plain_extend_loop _,P4 (A:=A.in1) (X:=X) (pins:=pins) (σ:=σ) hh n1 n2 n3 (Nat.ne_of_gt n) (Nat.ne_of_gt (qG R)) (Nat.ne_of_lt B) xs.length 0 { s with heap:=h5 } H [] #[] D (Nat.sub_zero _) (Nat.zero_le _) S J {f0,T,old,k _ _ v,?_} {oi,k _ _ R,ci,di} (λb u=>?_) m .nil rfl (λj z ez=>by simp at ez) λs' H' zs acc c a1 a2 K Y a5 W a7=>{O,?_}}
 .@h|⟨a,o,h,q⟩:=x
  .!.inl h
  .!.inr ⟨a,o,h,k _ _ q⟩
 .ac_nf at u
  @rfl|rfl|rfl:=u
  .!N _ (by simp)
  .!N _ (by simp)
  .!I.kY (qe _) hn
 .#zl:xs.length<=sizeLine:=by @_,_,_,z:=I.list J;!z
  #L:af H' (upd H' ↑s (.lst zs)):=af.new K;?hQ s' (upd H' ↑s (.lst zs)) zs _ (I.hZ a1 (Nat.le_refl _) K {by ¤zs.length<=sizeLine;¥,acc.toList,c,a5,by ±Y}) hn (a2.trans L) aD W (a7.mono L)
end
§OI{M:Model}{A:Around}{E:KE}{s:RX}{pos:Pos}{T:String}{b:#(Bool×Sem MD)}{d:#(Option R9×Sem MD)}{Q:KE}(h1:(b.any λx=>x.fst)=¿)(h2:(d.any λx=>x.fst.isNone)=¿)(h:wpAny M A (evalArgs (.type T) true b d) (λa c=>wpAny M A (call (.type T) a.pos a.kw) Q E c) E s):wpAny M A (callWith pos (.type T) [] b d) Q E s:=by
 ¶callWith;?qA (qK (qM h (λa c h₁=>?_) λ_ _ e=>e));?qA (wpAny_standAt ?_)
 simp only[h1,h2,Bool.or_false]
 ?qA (wpAny_of_eq (a:=Keeper.machine) (by first|rfl|kernel_rfl) ?_);dsimp only;?qA (qM h₁ (λv s2 q=>?_) λ_ _ e=>e);!qA (qK (wpAny_point (qE q)))
inductive wh(Q:VK)(x:V)(H1:Hp):Prop
 |mk(a xs:_)(_:x=.ref a)(_:aA H1 a xs)(_:∀p H' zs,H1 p=£->af H1 H'->H' p=!(.lst zs)->zs.length=xs.length->mI H' xs zs->Q (.ref p) H')
§Az(tl:TE):TE:=λσ H Q=>tl σ H λx H1=>wh Q x H1
section
variable {X:Cx}
§Mg{l:Expr}{tl:TE}{p n p2 kp cpos pos:Pos}{j:Nat}(M:X.calm=¶)(k:Gl X "list")(r:X.mg "list"=£)(m:Gl X "enumerate")(t:X.mg "enumerate"=£)(L:PE X l tl)(u:starEach [l] X.env=[(false,eval l X.env)]:=by rfl)(f:starEach [.Call (.Name "enumerate" n) [l] [{!"start",.Constant (.int 1) j p2,kp}] cpos] X.env=[(false,eval (.Call (.Name "enumerate" n) [l] [{!"start",.Constant (.int 1) j p2,kp}] cpos) X.env)]:=by rfl) :
  PE X (.Call (.Name "list" p) [.Call (.Name "enumerate" n) [l] [{!"start",.Constant (.int 1) j p2,kp}] cpos] [] pos) (Az tl):=by
 ?{?_};¢pins s σ H Q I h;?wpAny_Call_Name_kw (iO I k r boot_list ?_ ⋯ ⋯);?PyProof.Rows.callWith_type1 ?_ f rfl;[f];?Calls.spliced_cons ?_;?wpAny_Call_Name_kw (iO I m t boot_enumerate ?_ ⋯ ⋯);?OI (by[u];rfl) rfl ?_;[u];?evalArgs_kwB rfl (Calls.spliced_cons (bK (L pins s σ H _ I h) λv c ⟨x,H1,d,B,A⟩=>Calls.spliced_nil (kws_cons (wpAny_Constant_int (kws_nil ?_)))));@a,xs,e,z,q:=A;£e;&B;@its,P,w,N:=d.list z;#o:=d.tok (c.toks+1)
 #i:a<↑c:=by @_,q,_:=w.isList;!qG q
 ?Nz (s:={ c with toks:=c.toks+1 }) w.isList λh' C hi hz J=>?_;#K:Inv X pins σ H1 { c with heap:=h',toks:=c.toks+1 }:=o.kept (t':=c.toks+1) J;?Calls.spliced_nil (NH (s:={ c with heap:=h',toks:=c.toks+1 }) (d.ok.hd M) K z (zu (yo _)) (qp (yn i)) (qp i) {_,_,_,C,.inl rfl} hi (λb y=>?_) λs' H' zs R a1 a2 F D G E=>{.ref _,_,a1,O,q _ _ _ a2 F D G E})
 #g:↑c<=b:=by
  ac_nf at y
  @rfl|rfl:=y
  .!jt _
  .!qe _
 !d.kY g (d.aS.fresh g)
end
structure LF(K:PySem.W.Frag)(mg:R9->Option MD)(x:R9)(st:Stmt)(T:R0):Prop where
 out:∃(f c:R0) (oc:MD) (od an:Option R0) (kV doc pm ct:MD) (osl:Array (Option MD)),K.lookup f=some {oc,od,.func (PySem.W.fnOf x x (b_ st) (bL st) (ag st) .none kV doc pm an (.ref c) ct),osl}/\PySem.W.codeIn K (.ref c) x=¶/\PySem.W.keepIn K (.ref f)=¶/\codeHdIn K c T=¶/\mg x=!(.ref f)
§GN{P:Program}{w:World}{K:PySem.W.Frag}{mg:R9->Option MD}{base:Heap}{x:R9}{st:Stmt}{T:R0}{N ps:#R9}{k:Nat}{sp:Sp}(F:LF K mg x st T)(S:az N ps (ag st))(o:∀{kV b l:MD}{g:Option R0}{d i:MD}(us:#MD),us.length=ps.length->bindArgs (PySem.W.fnOf x x (b_ st) (bL st) (ag st) .none kV b l g d i) {us,[]}=pure (ps.zip us))(len:∀vs H Q E,sp vs H Q E->vs.length=ps.length)(a:∀(f c:R0) (A:Around) (outer:#Env) (s:RX) (H:Hp) (vs:#V) (Q:VK) (E:XK),codeHdIn K c T=¶->bG k (A.deeper (envOfC x (ag st) ↑s f (.ref c)))->sp vs H Q E->
   ∃t,ig (jG iH P w K mg base N x (ag st) f (.ref c) A outer s H E).vD (bL st) t/\t { nx:=λ_ H'=>Q .aR H',rt:=Q } (start N vs) H):×cG (k+1) x ps sp:=by
 @f,c,y,od,g,kV,b,l,i,u,r,e,v,m,p:=F.out;?{f,_,r_ r e S len λA outer s H vs Q E n j=>?_,p,v,.all o};@t,h,q:=a f c A outer s H vs Q E m n j;!{t,h.vD,q}
inductive FL(K:PySem.W.Frag)(n:R9)(s:Stmt)(T:R0):Prop
 |mk{a c:R0}{od an:Option R0}{sl:Array (Option MD)}{oc kV dc pm ct:MD}(z1:PySem.W.nsIn K mainGlobals n=!(!(.ref a)))(z2:K.lookup a=some ⟨oc,od,.func (PySem.W.fnOf n n (b_ s) (bL s) (ag s) .none kV dc pm an (.ref c) ct),sl⟩)(z3:PySem.W.codeIn K (.ref c) n=¶)(z4:PySem.W.keepIn K (.ref a)=¶)(z5:codeHdIn K c T=¶)
§FL.fo{K:PySem.W.Frag}{n:R9}{s:Stmt}{T:R0}{h:Heap}{mg:R9->Option MD}(f:FL K n s T)(X:K.In h)(G:h.Ns mainGlobals mg):LF K mg n s T:=by
 @d,c,a,e,b:=f;!{_,_,_,_,_,_,_,_,_,_,c,a,e,b,PySem.W.mg_of X G d}
§KG(hi:σ[i]?=!none)(y:σ[j]?=!none)(p:σ[l]?=!none)(c:i≠j)(f:i≠l)(b:j≠l):iZ (uZ n (i0 (cL i) (i0 (cL j) (i0 (cL l) Fo)))) σ:=by
 ¢x H Q q;@a,xs,B,s,h,v,r,A,w,t,z,u,d,m,o,q:=q;?{a,xs,B,s,h,v,r,A,w,t,z,u,d,m,o,?_,q};#h1:=fm.set hi v;#h2:=fm.set (σ:=σ.set i (!v)) (i:=j) (by[yy c];!y) w;#g:=fm.set (σ:=(σ.set i (!v)).set j (!w)) (i:=l) (by[yy b,yy f];!p) u;!{(h1.1.trans h2.1).trans g.1,λk u e=>g.2 k u (h2.2 k u (h1.2 k u e))}
inductive sD(x y:V)(H:Hp)(Q:VK):Prop
 |mk(n:Int)(_:x=.str "hm")(_:y=.int n)(_:1<=n)(_:n<=4)(_:∀z:R9,PyData.strOk z=¶->Q (.str z) H)
§Pq:dh X (binaryOp .Mult) sD:=by
 ¢pins s σ H x y v u Q I a b h;@n,rfl,rfl,h1,h2,q:=h;@t,rfl:=a;@t',rfl:=b
 #:n=1\/n=2\/n=3\/n=4:=()
 @rfl|rfl|rfl|rfl:=this
 .!P.mul_str ⋯ (λ_ h=>absurd h (by simp)) (λ_ h=>absurd h (by simp)) ⟨.str "hm",H,I,⟨t,O⟩,q _ ∅⟩
 .?P.mul_str ⋯ (λ_ _=>∅) (λ_ _=>∅) ?_
  [qB ⋯,qB ∅];!{∅,.str _,H,I.tok _,{_,O},q _ ∅}
 .?P.mul_str ⋯ (λ_ _=>∅) (λ_ _=>∅) ?_
  [qB ⋯,qB ∅];!{∅,.str _,H,I.tok _,{_,O},q _ ∅}
 .?P.mul_str ⋯ (λ_ _=>∅) (λ_ _=>∅) ?_
  [qB ⋯,qB ∅];!{∅,.str _,H,I.tok _,{_,O},q _ ∅}
inductive HZ(Q:VK)(x:V)(H1:Hp):Prop
 |mk(i:Nat)(_:x=.int i)(_:i<=1000)(_:Q (.str (Str.ofString (toString (i:Int)))) H1)
§Nl(te:TE):TE:=λσ H Q=>te σ H λx H1=>HZ Q x H1
§K9(b:PE X e te):PE X (.FormattedValue e (-1) none pos) (Nl te):=by
 ?{?_};¢pins s σ H Q I h;?wpAny_FormattedValue_plain (qM (b pins s σ H _ I h) (λv f ⟨x,H1,a,d,c⟩=>?_) λ_ _ e=>e);@i,rfl,hz,q:=c;@t,rfl:=d;?wpAny_formatField_int ?_ {.str _,H1,a.tok _,{_,O},q};[Int.natAbs_natCast]
 ¿h:i=0
 .[h];decide
 .!(Nat.log2_lt h).mpr (jj hz (zf (by decide:1000<2 ^ 10) (bi ⋯ ⋯)))
§HS(a:PE X e te):PE X (.JoinedStr [e] pos) te:={λpins s σ H Q I h=>by
 [arm_eval_JoinedStr]
 !a pins s σ H Q I h}
structure OD(P:Program)(w:World)(K:PySem.W.Frag)(mg:R9->Option MD)(base:Heap)(k:Nat)(x:R9)(ps:#R9)(sp:Sp):Prop where
 b:×cG k x ps sp
 d:∃f fd,gB P w K mg base iH k f fd ps sp/\mg x=!(.ref f)/\PySem.W.keepIn K (.ref f)=¶/\Binds K fd ps [.none]
structure Ql(K:PySem.W.Frag)(mg:R9->Option MD)(x:R9)(st:Stmt):Prop where
 out:∃(f t:R0) (oc oc':MD) (od od' an:Option R0) (kV doc pm cdv ct:MD) (osl osl':Array (Option MD)) (n:Nat),K.lookup f=some {oc,od,.func (PySem.W.fnOf x x (b_ st) (bL st) (ag st) (.ref t) kV doc pm an cdv ct),osl}/\PySem.W.codeIn K cdv x=¶/\PySem.W.keepIn K (.ref f)=¶/\K.lookup t=some {oc',od',.seq #[.none] n,osl'}/\mg x=!(.ref f)
§Bz{P:Program}{w:World}{K:PySem.W.Frag}{mg:R9->Option MD}{base:Heap}{x:R9}{st:Stmt}{N ps:#R9}{k:Nat}{sp:Sp}(F:Ql K mg x st)(S:az N ps (ag st))(D:∀(t:R0) (kV b g:MD) (d:Option R0) (a e:MD) (us:#MD),us.length=ps.length->∃q,bindArgs (PySem.W.fnOf x x (b_ st) (bL st) (ag st) (.ref t) kV b g d a e) {us,[]}=seqItems? (.ref t) >>= q/\q (some #[.none])=pure (ps.zip us))(j:∀(t:R0) (kV b g:MD) (d:Option R0) (a e:MD) (us:#MD),us.length+1=ps.length->∃q,bindArgs (PySem.W.fnOf x x (b_ st) (bL st) (ag st) (.ref t) kV b g d a e) {us,[]}=seqItems? (.ref t) >>= q/\q (some #[.none])=pure (ps.zip (us++[.none])))(len:∀vs H Q E,sp vs H Q E->vs.length=ps.length)(c:∀(f:R0) (a:MD) (A:Around) (outer:#Env) (s:RX) (H:Hp) (vs:#V) (Q:VK) (E:XK),bG k (A.deeper (envOfC x (ag st) ↑s f a))->sp vs H Q E->
   ∃t,ig (jG iH P w K mg base N x (ag st) f a A outer s H E).vD (bL st) t/\t { nx:=λ_ H'=>Q .aR H',rt:=Q } (start N vs) H):×OD (k+1) x ps sp:=by
 @f,t,G,C,od,B,d,kV,b,g,a,e,z,o,n,y,m,p,r,u:=F.out
 #ok:=r_ (CX:=iH) (base:=base) y m S len λA outer s H vs Q E v l=>let⟨t,h,q⟩:=c f a A outer s H vs Q E v l;{t,h.vD,q}
 ?{{f,_,ok,u,p,λs us X i=>?_},f,_,ok,u,p,λs us X i=>?_}
 .[wx]at i ⊢
  @q,h1,h2:=D t kV b g d a e us i;!.of_defaults rfl (X _ _ r) rfl h1 h2
 .[qi]at i
  @q,h1,h2:=j t kV b g d a e us i;!.of_defaults rfl (X _ _ r) rfl h1 h2
inductive L8(K:PySem.W.Frag)(n:R9)(s:Stmt):Prop
 |mk{a t:R0}{od an od':Option R0}{sl sl':Array (Option MD)}{oc oc' kV dc pm cd ct:MD}{m:Nat}(z1:PySem.W.nsIn K mainGlobals n=!(!(.ref a)))(z2:K.lookup a=some ⟨oc,od,.func (PySem.W.fnOf n n (b_ s) (bL s) (ag s) (.ref t) kV dc pm an cd ct),sl⟩)(z3:PySem.W.codeIn K cd n=¶)(z4:PySem.W.keepIn K (.ref a)=¶)(z5:K.lookup t=some ⟨oc',od',.seq #[.none] m,sl'⟩)
§L8.fo{K:PySem.W.Frag}{n:R9}{s:Stmt}{h:Heap}{mg:R9->Option MD}(f:L8 K n s)(X:K.In h)(G:h.Ns mainGlobals mg):Ql K mg n s:=by
 @d,c,a,e,b:=f;!{_,_,_,_,_,_,_,_,_,_,_,_,_,_,_,c,a,e,b,PySem.W.mg_of X G d}
section
variable {X:Cx}{e:Expr}{es:#Expr}{t:TA}{p pos:Pos}{k n:Nat}{x:R9}{ps:#R9}{sp:Sp}
§NA(F:OD X.prog X.w X.K X.mg X.base k x ps sp)(h:bG n X.A)(m:PA X (e::es) t)(o:k<=n:=by decide)(l:Gl X x:=by exact rfl)(b:(x==("__debug__":R9))=¿:=by exact rfl)(i:tN X e:=by !λ_=>rfl)(a:(backTo pos (starEach es X.env)).any (·.1)=¿:=by exact rfl) :
  PE X (.Call (.Name x p) (e::es) [] pos) (tj sp [.aR] E0 t):=by
 @f,fd,F,j,c,g:=F.d;!J_ F (h.mono o) l j c g (.cons rfl .nil) z_ m b (i _) a
end
inductive tE(x y:V)(H:Hp)(Q:VK):Prop
 |mk(b:Bool)(_:x=.str ".")(_:y=.int (if b then 1 else 0))(_:Q (.str (if b then "." else "")) H)
§Pw:dh X (binaryOp .Mult) tE:=by
 ¢pins s σ H x y v u Q I a c h;@b,rfl,rfl,q:=h;@t,rfl:=a;@t',rfl:=c
 cases b with
 |true=>!P.mul_str ⋯ (λ_ h=>absurd h (by simp)) (λ_ h=>absurd h (by simp)) {.str ".",H,I,{t,O},q}
 |false=>!P.mul_str_none ⋯ ⋯ {.str "",H,I.tok _,{_,O},q}
end L2
namespace My
open PySem L2 PyProof.Rows
§aF(h:Nat.ble n 1000=¶):n<=sizeLine:=ww (cF (jn h))
§lB(h:n<=1000):n<=sizeLine:=ww (cF h)
§cW{A B:Prop}(h:c=¶)(a:A):if c=¶ then A else B:=by[qF h];!a
§bV{A B:Prop}(h:c=¿)(b:B):if c=¶ then A else B:=by[qB (by[h];decide)];!b
§kP:Key->RY
 |.inl i=>.int i
 |.inr s=>.str s
theorem C1:∀ks:#Key,cx H (ks.map kV) (ks.map kP)
 |[]=>.nil
 |.inl i::ks=>.cons (.int i) (C1 ks)
 |.inr s::ks=>.cons (.str s) (C1 ks)
theorem EW(h:DT H x d):∀{xs:#V} {ds:#RY},cx H xs ds->cx H (xs++[x]) (ds++[d])
 |_,_,.nil=>.cons h .nil
 |_,_,.cons a t=>.cons a (EW h t)
§Qy{pv:#V}(h:r<=pv.length):dY pv (!(r:Int)) none=pv.drop r:=by
 ¶dY;[HT.nM,HT.sh,Nat.min_eq_left h];!yr (by[yf];!qe _)
theorem pV{α β:Type}:∀(es xs:#(KD×α×β)),((xs++es).map (·.1)).Nodup->putAll xs es=xs++es
 |[],xs,_=>(wx xs).symm
 |e::es,xs,h=>by
  #hn:∀x∈xs,x.1≠e.1:=λx a z=>by
   [z7,zn]at h;!(wt.mp h).2.2 x.1 (qf.mpr {x,a,O}) e.1 qm z
  #b:=lU hn
  #hp:pG xs e.1 e.2.1 e.2.2=xs++[e]:=by
   ¶pG;[b,qB °]
  ¤putAll (pG xs e.1 e.2.1 e.2.2) es=_;[hp,pV es (xs++[e]) (by[yk];!h),yk];rfl
inductive E3(vs:#V)(H:Hp)(Q:VK)(_:XK):Prop
 |mk(v nk bh D k:_)(_:vs=[v])(_:PL nk bh D H v k)(_:∀kv,DT H kv (D k)->Q kv H)
inductive C4(vs:#V)(H:Hp)(Q:VK)(_:XK):Prop
 |mk(p ys nk bh D ms js t:_)(_:vs=[.ref p])(_:aA H p ys)(_:AN (PL nk bh D H) ys js)(_:ms=js)(_:vP nk bh D ms t)(_:∀H' dq kvs,af H H'->FD nk bh ms ms H H' dq kvs->Q (.ref dq) H')
inductive Ez(vs:#V)(H:Hp)(Q:VK)(_:XK):Prop
 |mk(p ys nk bh D ms js t:_)(_:vs=[.ref p])(_:aA H p ys)(_:AN (PL nk bh D H) ys js)(_:ms=js)(_:vP nk bh D ms t)(_:∀H' q zs,af H H'->H q=£->H' q=!(.lst zs)->AN (NM nk H') zs (Rga.iM (Rga.cM bh ms))->Q (.ref q) H')
§cK(h:n<=2000):n<=sizeLine:=ww (kA h)
§sF(h:AN P vs js)(f:∀v i,i∈js->P v i->P' v i):AN P' vs js:={h.1,λm v i b a=>f _ _ (qw a) (h.2 m v i b a)}
§tD(ks:#Key):RY:=.tuple (ks.map kP)
§AZ:∀k:Key,gG (kP k)=¶
 |.inl _=>rfl
 |.inr _=>rfl
§mN(ks:#Key):gG (tD ks)=¶:=by
 ¤gG (.tuple (ks.map kP))=¶;[gG]
 !pQ λd a=>by @k,_,rfl:=qf.mp a;!AZ k
§ee(ks:#Key):(tD ks).depth<=1:=by
 #:PyData.depthAll (ks.map kP)<=0:=h9 λd a=>by
  @k,_,rfl:=qf.mp a;&k <;> !qe 0
 ¤PyData.depthAll (ks.map kP)+1<=1;¥
§AV:∀{a b:Key},kP a=kP b->a=b
 |.inl _,.inl _,h=>by injection h with h;[h]
 |.inl _,.inr _,h=>by &h
 |.inr _,.inl _,h=>by &h
 |.inr _,.inr _,h=>by injection h with h;[h]
theorem Gf:∀{a b:#Key},a.map kP=b.map kP->a=b
 |[],[],_=>rfl
 |[],_::_,h=>by &h
 |_::_,[],h=>by &h
 |x::a,y::b,h=>by
  [zn,zn]at h;injection h with h1 h2;[AV h1,Gf h2]
§HK(h:tD a=tD b):a=b:=Gf (PyData.tuple.inj h)
§gV(a b:#Key):PyData.eqv (tD a) (tD b)=decide (a=b):=by
 ¿h:a=b
 .[qI h,h]
  !(xG _ _ (mN b) (mN b)).mpr rfl
 .[decide_eq_false h]
  cases q:PyData.eqv (tD a) (tD b) with
  |false=>rfl
  |true=>!absurd (HK ((xG _ _ (mN a) (mN b)).mp q)) h
§aM(h:GK H (.tup ks) v):DT H v (tD ks):=by
 @b,rfl,h:=h;!.tup h (C1 _)
§DU:∀k:Key,sk (kP k) (kP k)=¶
 |.inl _=>rfl
 |.inr _=>rfl
theorem dZ:∀ks:#Key,eO (ks.map kP) (ks.map kP)=¶
 |[]=>rfl
 |k::ks=>by
  ¤(sk (kP k) (kP k)&&eO (ks.map kP) (ks.map kP))=¶;[DU,dZ ks];rfl
§yL(ks:#Key):sk (tD ks) (tD ks)=¶:=dZ ks
§Lay(ks:#Key):Prop:=(tD ks).canLay0=¶
§bU(a b c d:Int):Prop:=a<c\/(a=c/\b<d)
§i6(h:bU a b c d):bT (.tuple [.int a,.int b]) (.tuple [.int c,.int d])=¶:=by
 [bT];@h|⟨rfl,h⟩:=h
 .!ur h
 .!vL (ur h)
§ui(n:Nat):(List.range n).Pairwise λa b=>a<b:=List.pairwise_lt_range
§Rd.same(r:Rd H a u)(s:af H H'):Rd H' a u:=by
 @r|⟨o,r⟩:=r
 .!.inl (s _ _ r)
 .!.inr ⟨o,s _ _ r⟩
§kN(i:Nat):Key:=.inr ((["births","places","cuts","signs","marks","notes","lines","cells","leaves"]:#R9).getD i "")
§cE(F:Nat->R0)(n:Nat):#(Key×V):=(List.range n).map λi=>(kN i,.ref (F i))
§Kd:∀i,i<9->∀j,j<9->kN i=kN j->i=j:=∅
§cR(F:Nat->R0)(i:Nat)(h:i<9):bO (cE F 9) (kN i)=!(.ref (F i)):=by
 #c:∀(l:#Nat),(∀j∈l,j<9)->i∈l->bO (l.map λi=>(kN i,V.ref (F i))) (kN i)=!(.ref (F i)):=λl=>by
  induction l with
  |nil=>intro _ z;&z
  |cons j l d =>
   ¢b hi;[zn]
   ¿e:j=i
   .£e;!fT rfl
   .[fZ (λz=>e (Kd j (b j qm) i h z))]
    @z|z:=q0.mp hi
    .!absurd z.symm e
    .!d (λj a=>b j (qy _ a)) z
 !c _ (λj a=>qo.mp a) (qo.mpr h)
§lT(H:Hp)(v:V):Prop:=∃d,DT H v d/\d.canLay0=¶/\sk d d=¶/\d.depth<=5
§J6(r:Rd H a (.dK kvs))(e:H b=!(.lst xs)):a≠b:=λz=>by
 £z;@r|⟨o,r⟩:=r <;> rw[e]at r <;> &r
§Rd.wr(r:Rd H a u)(h:a≠b):Rd (upd H b o) a u:=by
 @r|⟨o,r⟩:=r
 .!.inl (by[ax h];!r)
 .!.inr ⟨o,by[ax h];!r⟩
§O1(h:PyData.strOk z=¶)(x:Int):Lay [.inr z,.inl x]:=by
 ¤(PyData.strOk z&&(true&&true))=¶;[h];rfl
theorem rr:∀{ds:#RY},(∀d∈ds,sk d d=¶)->eO ds ds=¶
 |[],_=>rfl
 |d::ds,h=>by
  ¤(sk d d&&eO ds ds)=¶;[h d qm,rr λx a=>h x (qy _ a)];rfl
§pM(e:H q=!(.tup xs))(h:cx H xs ds)(ok:∀d∈ds,d.canLay0=¶/\sk d d=¶/\d.depth<=1):lT H (.ref q):=by
 ?{.tuple ds,.tup e h,dD λd a=>(ok d a).1,rr λd a=>(ok d a).2.1,?_};#:=h9 λd a=>(ok d a).2.2;¤PyData.depthAll ds+1<=5;¥
§cm(h:Lay ks):(tD ks).canLay0=¶/\sk (tD ks) (tD ks)=¶/\(tD ks).depth<=1:={h,yL ks,ee ks}
§d7(h:PyData.strOk z=¶):(PyData.str z).canLay0=¶/\sk (.str z) (.str z)=¶/\(PyData.str z).depth<=1:={h,O,qv 1}
§fF(a b:Int):(PyData.tuple [.int a,.int b]).canLay0=¶/\sk (.tuple [.int a,.int b]) (.tuple [.int a,.int b])=¶/\(PyData.tuple [.int a,.int b]).depth<=1:={O,O,qe 1}
theorem pT(t:ai H H'):∀{ys:#V} {es:#(Key×V)},j2 H ys es->j2 H' ys es
 |[],[],_=>trivial
 |[],_::_,h=>h.elim
 |_::_,[],h=>h.elim
 |_::_,_::_,h=>{let⟨b,e,h1⟩:=h.1;{b,e,t _ _ h1},pT t h.2}
theorem Ef(a:∃b,y=.ref b/\H b=!(.tup [kV e.1,e.2])):∀{ys:#V} {es:#(Key×V)},j2 H ys es->j2 H (ys++[y]) (es++[e])
 |[],[],_=>{a,trivial}
 |[],_::_,h=>h.elim
 |_::_,[],h=>h.elim
 |_::_,_::_,h=>{h.1,Ef a h.2}
theorem vU:∀{zs:#V},(∀z∈zs,lT H z)->∃ds,cx H zs ds/\∀d∈ds,d.canLay0=¶/\sk d d=¶/\d.depth<=5
 |[],_=>{[],.nil,λ_=>°}
 |z::zs,h=>by
  @d,h1,h2:=h z qm;@ds,b,c:=vU λx a=>h x (qy _ a)
  !{d::ds,.cons h1 b,λx a=>by
   @rfl|q:=q0.mp a
   .!h2
   .!c x q}
structure Rp(d:RY):Prop where
 lay:d.canLay0=¶
 self:PyData.eqv d d=¶
 deep:d.depth<=6
§RS(h:∀d∈ds,d.canLay0=¶/\sk d d=¶/\d.depth<=5):Rp (.list ds) :=
 {dD λd a=>(h d a).1,N6 λd a=>(h d a).2.1,by #:=h9 λd a=>(h d a).2.2;¤PyData.depthAll ds+1<=6;¥}
§Nx:cE (λi=>if i=j then c else C i) (j+1)=cE C j++[(kN j,.ref c)]:=by
 ¶cE;[yi,z7]
 #:(List.range j).map (λi=>(kN i,V.ref (if i=j then c else C i)))=(List.range j).map (λi=>(kN i,V.ref (C i))):=yu λi hi=>by
  #:=qo.mp hi;[qB ()]
 [this]
 simp
§Rest(H H':Hp)(S:R0->¤):Prop:=∀b o,H b=!o->¬S b->H' b=!o
§O7{a:R0}{kvs:#(Key×V)}{H:Hp}{R:It->Hp->¤}(r:Rd H a (.dK kvs))(k:∀(o:Obj) (Y:Hp),(∀b u,b≠a->H b=!u->Y b=!u)->(∀b,Y b=£->H b=£)->Y a=!(.cJ o (.dK kvs))->R (zL a o kvs) Y) :
  (H a=!(.dK kvs)/\∀o,R (zL a o kvs) (upd H a (.cJ o (.dK kvs))))\/∃o,H a=!(.cJ o (.dK kvs))/\R (zL a o kvs) H:=by
 @e|⟨o,e⟩:=r
 .?.inl ⟨e,λo=>k o _ (λb u n e=>by[ax n];!e) (λb q=>?_) aD⟩
  ¿z:b=a
  .£z;[aD]at q;&q
  .[ax z]at q;!q
 .!.inr {o,e,k o H (λ_ _ _ e=>e) (λ_ e=>e) e}
§ME(h:AN P vs js)(f:∀v i,v∈vs->P v i->P' v i):AN P' vs js:={h.1,λm v i a b=>f _ _ (qw a) (h.2 m v i a b)}
§AL{β α:Type}(P:β->α->¤)(vs:List β)(rs:List α):Prop:=vs.length=rs.length/\∀(m:Nat) v r,vs[m]?=!v->rs[m]?=!r->P v r
section
variable {β α:Type}{P P':β->α->¤}{vs us:List β}{rs ts:List α}
§AL.imp(h:AL P vs rs)(f:∀v r,P v r->P' v r):AL P' vs rs:={h.1,λm v r b a=>f _ _ (h.2 m v r b a)}
§AL.pf(h:AL P vs rs)(f:∀v r,v∈vs->r∈rs->P v r->P' v r):AL P' vs rs:={h.1,λm v r b a=>f _ _ (qw b) (qw a) (h.2 m v r b a)}
§AL.nil:AL P [] []:={O,λm v r z=>nomatch z}
§AL.cons{v:β}{r:α}(h:P v r)(g:AL P vs rs):AL P (v::vs) (r::rs):=by
 ?{by[zd,zd,g.1],λm c d b a=>?_}
 cases m with
 |zero=>cases b;&a;!h
 |succ m=>!g.2 m _ _ b a
§AL.head(g:AL P (v::vs) (r::rs)):P v r:=g.2 0 _ _ rfl rfl
§AL.tail(g:AL P (v::vs) (r::rs)):AL P vs rs:={by #:=g.1;±this,λm c d b a=>g.2 (m+1) _ _ b a}
§AL.none(g:AL P [] (r::rs)):False:=by #:=g.1;simp at this
§AL.nothing(g:AL P (v::vs) []):False:=by #:=g.1;simp at this
§AL.app(h:AL P vs rs)(g:AL P us ts):AL P (vs++us) (rs++ts):=by
 induction vs generalizing rs with
 |nil=>cases rs with
  |nil=>!g
  |cons r rs=>!h.none.elim
 |cons v vs a=>cases rs with
  |nil=>!h.nothing.elim
  |cons r rs=>!.cons h.head (a h.tail)
§AL.snoc(h:AL P vs rs)(a:P v r):AL P (vs++[v]) (rs++[r]):=h.app (.cons a .nil)
§AL.at{m:Nat}{v:β}(h:AL P vs rs)(e:vs[m]?=!v):∃r,rs[m]?=!r/\P v r:=by
 #a:m<rs.length:=by[←h.1];!(qk.mp e).1
 !{rs[m],qh a,h.2 m v _ e (qh a)}
§AL.at'{m:Nat}{r:α}(h:AL P vs rs)(e:rs[m]?=!r):∃v,vs[m]?=!v/\P v r:=by
 #a:m<vs.length:=by[h.1];!(qk.mp e).1
 !{vs[m],qh a,h.2 m _ r (qh a) e}
§AL.mem(h:AL P vs rs)(e:v∈vs):∃r,r∈rs/\P v r:=by
 @m,b,rfl:=z8.mp e;@r,a,p:=h.at (qh b);!{r,qw a,p}
§AL.gF(h:AL P vs rs)(e:r∈rs):∃v,v∈vs/\P v r:=by
 @m,a,rfl:=z8.mp e;@v,b,p:=h.at' (qh a);!{v,qw b,p}
theorem AL.map(h:AL P vs rs){b:Type}{f:β->b}{a:b->α->¤}(k:∀v r,v∈vs->r∈rs->P v r->a (f v) r):AL a (vs.map f) rs:=by
 ?{by[qj,h.1],λm v r e c=>?_};[qu]at e;@u,d,rfl:=wj.mp e;!k _ _ (qw d) (qw c) (h.2 m u r d c)
end
theorem AL.lS{α:Type}{P:V->α->¤}{H:Hp}{D:α->RY}(a:∀v r,P v r->DT H v (D r)):∀{vs:#V} {rs:List α},AL P vs rs->cx H vs (rs.map D)
 |[],[],_=>.nil
 |[],_::_,h=>h.none.elim
 |_::_,[],h=>h.nothing.elim
 |_::_,_::_,h=>.cons (a _ _ h.head) (AL.lS a h.tail)
§bE:#Key:=[.inr "",.inl 0]
§Nm(ks:#Key):Prop:=∃w x,ks=[.inr w,.inl x]/\(w = "ann" \/ w = "bo" \/ w = "cyan")
§Pn(ks:#Key):Prop:=ks=bE\/Nm ks
§Nm.lay(h:Nm ks):Lay ks:=by
 @w,x,rfl,h:=h;?O1 ?_ x;@rfl|rfl|rfl:=h <;> decide +kernel
§OA:Lay bE:=by unfold Lay bE;decide +kernel
theorem Pn.lay(h:Pn ks):Lay ks:=by
 @rfl|h:=h
 .!OA
 .!h.lay
§Nm.main(h:Nm ks):ks≠bE:=by
 @w,x,rfl,h:=h;¢z;unfold bE at z;injection z with z _;injection z with z;£z;revert h
 decide +kernel
§Pn.two(h:Pn ks):∃w x,ks=[.inr w,.inl x]:=by
 @rfl|⟨w,x,rfl,_⟩:=h
 .!⟨_,_,O⟩
 .!⟨_,_,O⟩
structure Pc where
 pt:#Key
 ou:#Key
 nm:#Key
 ka:Int
 kb:Int
§fx(H:Hp)(v:V)(r:Pc):Prop:=∃b c a vn kq,v=.ref b/\H b=!(.tup [c,a,vn,.ref kq])/\GK H (.tup r.pt) c/\GK H (.tup r.ou) a/\GK H (.tup r.nm) vn/\H kq=!(.tup [.int r.ka,.int r.kb])
theorem fx.ab(h:fx H v r)(t:ai H H'):fx H' v r:=by
 @b,f,c,vn,kq,e,h1,h2,a,g,d:=h;!{b,f,c,vn,kq,e,t _ _ h1,h2.ab t,a.ab t,g.ab t,t _ _ d}
structure uR(r:Pc):Prop where
 pt:Nm r.pt
 ou:Pn r.ou
 nm:Nm r.nm
§fx.eP(h:fx H v r)(w:uR r):lT H v:=by
 @b,i,g,vn,kq,rfl,h1,h2,c,f,e:=h;?pM h1 (.cons (aM h2) (.cons (aM c) (.cons (aM f) (.cons (.tup e (.cons (.int _) (.cons (.int _) .nil))) .nil)))) λd a=>?_
 ac_nf at a
 @rfl|rfl|rfl|rfl:=a
 .!cm w.pt.lay
 .!cm w.ou.lay
 .!cm w.nm.lay
 .!fF _ _
§hp(xs:#Pc)(k:#Key):Bool:=xs.any λx=>decide (x.pt=k)
§gP(xs:#Pc)(r:Pc):#Pc:=if hp xs r.pt=¶ then xs.map (λx=>if x.pt=r.pt then r else x) else xs++[r]
§tl(rs:#Pc):#Pc:=rs.foldl gP []
§uo(rs:#Pc)(r:Pc):tl (rs++[r])=gP (tl rs) r:=by ¶tl;[jz];rfl
§gH{xs:#Pc}{k:#Key}:hp xs k=¶↔k∈xs.map (·.pt):=by
 ¶hp;[yz];constructor
 .rintro⟨x,a,h⟩
  !qf.mpr {x,a,qO h}
 .¢h
  @x,a,h:=qf.mp h;!{x,a,qI h}
§Lc(xs:#Pc)(r:Pc):(gP xs r).map (·.pt)=if hp xs r.pt=¶ then xs.map (·.pt) else xs.map (·.pt)++[r.pt]:=by
 ¶gP
 ¿h:hp xs r.pt=¶
 .[qF h,qF h,z9]
  ?yu λx _=>?_;¤(if x.pt=r.pt then r else x).pt=x.pt
  ¿z:x.pt=r.pt
  .[qF z,z]
  .[qB z]
 .[qB h,qB h,z7]
  rfl
§N_(h:x∈gP xs r):x=r\/(x∈xs/\x.pt≠r.pt):=by
 unfold gP at h
 ¿q:hp xs r.pt=¶
 .[qF q]at h
  @y,a,rfl:=qf.mp h
  ¿z:y.pt=r.pt
  .[qF z];!.inl rfl
  .[qB z];!.inr {a,z}
 .[qB q]at h
  @z|z:=zh.mp h
  .!.inr ⟨z,λe=>q (gH.mpr (e▸qf.mpr ⟨x,z,O⟩))⟩
  .!.inl (qx.mp z)
theorem BX(rs:#Pc):((tl rs).map (·.pt)).Nodup:=by
 @rfl|⟨us,r,rfl⟩:=jb rs
 .!vi
 .[jc,uo,Lc]
  #c:=BX us
  split
  .!c
  .rename_i h
   [wt];!{c,z6.mpr {°,vi},λa d b f e=>h (gH.mpr (by[←qx.mp f,←e];!d))}
termination_by rs.length
decreasing_by all_goals (subst_vars;simp)
theorem tJ(h:x∈tl rs):x∈rs:=by
 @rfl|⟨us,r,rfl⟩:=jb rs
 .!h
 .[jc]at h ⊢
  [uo]at h;@rfl|⟨z,_⟩:=N_ h
  .!zy _ (qx.mpr rfl)
  .!wg _ (tJ z)
termination_by rs.length
decreasing_by all_goals (subst_vars;simp)
theorem vY(rs:#Pc):(tl rs).length<=rs.length:=by
 @rfl|⟨us,r,rfl⟩:=jb rs
 .!qe _
 .[jc,uo]
  #a:=vY us;#e:=congrArg List.length (Lc (tl us) r);[qj]at e;[e,qi,qt]
  split
  .[qj];¥
  .[qi,qj,qt];¥
termination_by rs.length
decreasing_by all_goals (subst_vars;simp)
§EK(R:V->Pc->¤)(H:Hp)(e:KD×V×V)(x:Pc):Prop:=e.1=.tup x.pt/\GK H (.tup x.pt) e.2.1/\R e.2.2 x
§EK.imp(h:EK R H e x)(t:ai H H')(f:R e.2.2 x->R' e.2.2 x):EK R' H' e x:={h.1,h.2.1.ab t,f h.2.2}
section
variable {R:V->Pc->¤}{H:Hp}{kvs:#(KD×V×V)}{xs:#Pc}
§Q3(h:AL (EK R H) kvs xs):kvs.map (·.1)=(xs.map (·.pt)).map KD.tup:=by
 apply yc;¢m;[qu,qu,qu]
 cases e:kvs[m]? with
 |none =>
  have:xs[m]?=£:=v9 (by[←h.1];!mz.mp e);[this];rfl
 |some v =>
  @r,a,p:=h.at e;[a];¤some v.1=!(KD.tup r.pt);[p.1]
§v_(h:KD.tup a=KD.tup b):a=b:=by injection h
§wF(h:AL (EK R H) kvs xs)(hn:(xs.map (·.pt)).Nodup):(kvs.map (·.1)).Nodup:=by
 [Q3 h];!List.Pairwise.map _ (λa b c z=>c (v_ z)) hn
§pK(h:AL (EK R H) kvs xs)(hn:(xs.map (·.pt)).Nodup)(a:x∈xs):∃v,vG kvs (.tup x.pt)=!v/\R v x:=by
 @m,c,rfl:=z8.mp a;@e,b,p:=h.at' (qh c);!{e.2.2,pE (wF h hn) b p.1,p.2.2}
§OB(h:AL (EK R H) kvs xs)(b:k∉xs.map (·.pt)):vG kvs (.tup k)=£:=lU λe a z=>by
 @r,c,p:=h.mem a;[p.1]at z;!b (qf.mpr {r,c,v_ z})
§Fd(h:AL (EK R H) kvs xs)(hn:(xs.map (·.pt)).Nodup):(vG kvs (.tup k)).isSome=hp xs k:=by
 ¿a:hp xs k=¶
 .@x,b,rfl:=qf.mp (gH.mp a)
  @v,c,_:=pK h hn b;[c,a];rfl
 .[OB h (λz=>a (gH.mpr z)),gj.mpr a];rfl
§A6(h:AL (EK R H) kvs xs)(hn:(xs.map (·.pt)).Nodup)(l:GK H (.tup r.pt) y)(i:R v r):AL (EK R H) (pG kvs (.tup r.pt) y v) (gP xs r):=by
 unfold pG gP;[Fd h hn]
 ¿b:hp xs r.pt=¶
 .[qF b,qF b]
  ?{by[qj,qj,h.1],λm e x f g=>?_};[qu]at f g;@k,d,rfl:=wj.mp f;@j,c,rfl:=wj.mp g;@a,p2,n:=h.2 m k j d c
  ¿z:j.pt=r.pt
  .[qF (by[a,z]),qF z]
   ?{by[←z];!a,by[←z];!p2,i}
  .[qB (by[a];!λy=>z (v_ y)),qB z]
   !{a,p2,n}
 .[qB b,qB b]
  !h.snoc {O,l,i}
end
§BT(H:Hp)(v:V):Prop:=∃b vn a x y,v=.ref b/\H b=!(.tup [vn,a])/\GK H (.tup x) vn/\Nm x/\GK H (.tup y) a/\Pn y
theorem BT.ab(h:BT H v)(t:ai H H'):BT H' v:=by
 @b,vn,d,x,y,e,h1,h2,a,c,f:=h;!{b,vn,d,x,y,e,t _ _ h1,h2.ab t,a,c.ab t,f}
§BT.eP(h:BT H v):lT H v:=by
 @b,vn,g,x,y,rfl,h1,h2,c,f,e:=h;?pM h1 (.cons (aM h2) (.cons (aM f) .nil)) λd a=>?_
 ac_nf at a
 @rfl|rfl:=a
 .!cm c.lay
 .!cm e.lay
§CT(H:Hp)(v:V)(k:#Key):Prop:=∃b a vn y,v=.ref b/\H b=!(.tup [a,vn])/\GK H (.tup k) a/\Pn k/\GK H (.tup y) vn/\Nm y
theorem CT.ab(h:CT H v k)(t:ai H H'):CT H' v k:=by
 @b,f,vn,y,e,h1,h2,a,c,d:=h;!{b,f,vn,y,e,t _ _ h1,h2.ab t,a,c.ab t,d}
§CT.eP(h:CT H v k):lT H v:=by
 @b,g,vn,y,rfl,h1,h2,c,f,e:=h;?pM h1 (.cons (aM h2) (.cons (aM f) .nil)) λd a=>?_
 ac_nf at a
 @rfl|rfl:=a
 .!cm c.lay
 .!cm e.lay
structure ti(H:Hp)(bs vs cs:#V)(rs:#Pc)(cu:#(#Key))(k:Nat):Prop where
 bt:∀v∈bs,BT H v
 pc:AL (fx H) vs rs
 ct:AL (CT H) cs cu
 w:∀r∈rs,uR r
 up:rs.Pairwise λa b=>bU a.ka a.kb b.ka b.kb
 bl:bs.length<=k
 vl:vs.length<=k
 cl:cs.length<=k
theorem ti.ab{bs vs cs:#V}(h:ti H bs vs cs rs cu k)(t:ai H H'):ti H' bs vs cs rs cu k :=
 {λv a=>(h.bt v a).ab t,h.pc.imp λv r p=>p.ab t,h.ct.imp λv r p=>p.ab t,h.w,h.up,h.bl,h.vl,h.cl}
§ti.place{bs vs cs:#V}(h:ti H bs vs cs rs cu k)(g:fx H v r)(e:uR r)(lt:∀x∈rs,bU x.ka x.kb r.ka r.kb)(i:vs.length<k):ti H bs (vs++[v]) cs (rs++[r]) cu k :=
 {h.bt,h.pc.snoc g,h.ct,λx d=>by
  @z|z:=zh.mp d
  .!h.w x z
  .[qx.mp z];!e,bj.mpr {h.up,m3 _ _,λa f b c=>by[qx.mp c];!lt a f},h.bl,by[qi,qt];¥,h.cl}
structure FB(H:Hp)(fa:R0)(F:Nat->R0)(bs vs cs:#V)(rs:#Pc)(cu:#(#Key))(k:Nat):Prop where
 dk:Rd H fa (.dK (cE F 9))
 inj:∀i,i<9->∀j,j<9->F i=F j->i=j
 rest:∀i,i<9->3<=i->∃xs,H (F i)=!(.lst xs)
 eb:H (F 0)=!(.lst bs)
 ev:H (F 1)=!(.lst vs)
 ec:H (F 2)=!(.lst cs)
 fi:ti H bs vs cs rs cu k
theorem FB.same{bs vs cs:#V}(h:FB H fa F bs vs cs rs cu k)(s:af H H'):FB H' fa F bs vs cs rs cu k :=
 {Rd.same h.dk s,h.inj,λi h1 h2=>let⟨xs,e⟩:=h.rest i h1 h2;{xs,s _ _ e},s _ _ h.eb,s _ _ h.ev,s _ _ h.ec,h.fi.ab s.ab}
§J3(bs vs cs:#V)(i:Nat):#V:=if i=0 then bs else if i=1 then vs else if i=2 then cs else[]
theorem ti.eP{bs vs cs:#V}(h:ti H bs vs cs rs cu k)(i:Nat):∀z∈J3 bs vs cs i,lT H z:=λz hz=>by
 unfold J3 at hz
 ¿h0:i=0
 .[qF h0]at hz;!(h.bt z hz).eP
 .¿h1:i=1
  .[qB h0,qF h1]at hz
   @r,a,p:=h.pc.mem hz;!p.eP (h.w r a)
  .¿h2:i=2
   .[qB h0,qB h1,qF h2]at hz
    @r,a,p:=h.ct.mem hz;!p.eP
   .[qB h0,qB h1,qB h2]at hz;!nomatch hz
structure KP(H:Hp)(kp:R0)(ps:#V)(C:Nat->R0)(xs:Nat->#V):Prop where
 ek:H kp=!(.lst ps)
 pr:j2 H ps (cE C 9)
 at_:∀i,i<9->H (C i)=!(.lst (xs i))
§gT(a:Nat->#RY):RY:=.list ((List.range 9).map λi=>.tuple [kP (kN i),.list (a i)])
§Ky:∀i,i<9->(kP (kN i)).canLay0=¶/\PyData.eqv (kP (kN i)) (kP (kN i))=¶/\(kP (kN i)).depth<=0:=∅
§Li:∀k:Key,DV H (kV k) (kP k)
 |.inl i=>.int i
 |.inr z=>.str z
§Qz(h:∀i,∀d∈a i,d.canLay0=¶/\sk d d=¶/\d.depth<=5):(gT a).canLay0=¶/\PyData.eqv (gT a) (gT a)=¶/\(gT a).depth<=8:=by
 #one:∀d∈(List.range 9).map (λi=>PyData.tuple [kP (kN i),.list (a i)]),d.canLay0=¶/\PyData.eqv d d=¶/\d.depth<=7:=λd b=>by
  @i,hi,rfl:=qf.mp b;@e,g,k:=Ky i (qo.mp hi);#o:=RS (h i);?{?_,?_,?_}
  .¤((kP (kN i)).canLay0&&((PyData.list (a i)).canLay0&&true))=¶
   [e,o.lay];rfl
  .¤(PyData.eqv (kP (kN i)) (kP (kN i))&&(PyData.eqv (.list (a i)) (.list (a i))&&true))=¶
   [g,o.self];rfl
  .#:=o.deep
   ¤max (kP (kN i)).depth (max (PyData.list (a i)).depth 0)+1<=7;¥
 #all:∀l:#RY,(∀d∈l,d.canLay0=¶/\PyData.eqv d d=¶/\d.depth<=7)->PyData.eqvAll l l=¶:=λl=>by
  induction l with
  |nil=>intro _;rfl
  |cons d l j =>
   ¢c;¤(PyData.eqv d d&&PyData.eqvAll l l)=¶;[(c d qm).2.1,j λx f=>c x (qy _ f)];rfl
 ?{dD λd b=>(one d b).1,all _ one,?_};#:=h9 λd b=>(one d b).2.2;¤PyData.depthAll _+1<=8;¥
theorem KP.dv{kp:R0}(h:KP H kp ps C xs)(m:∀i,i<9->cx H (xs i) (c i)):DV H (.ref kp) (gT c):=by
 #e:∀(l:#Nat) (ps:#V),(∀i∈l,i<9)->j2 H ps (l.map λi=>(kN i,V.ref (C i)))->dO H ps (l.map λi=>PyData.tuple [kP (kN i),.list (c i)]):=λl=>by
  induction l with
  |nil =>
   ¢ps _ a
   cases ps with
   |nil=>!.nil
   |cons p ps=>!a.elim
  |cons i l k =>
   ¢ps d a
   cases ps with
   |nil=>!a.elim
   |cons p ps =>
    @⟨b,rfl,f⟩,a:=a;#hi:=d i qm;!.cons (.tup (aZ.of f) (.cons (Li _) (.cons (.lst (aA.of (h.at_ i hi)) (m i hi).dv) .nil))) (k ps (λj g=>d j (qy _ g)) a)
 !.lst (aA.of h.ek) (e _ _ (λi hi=>qo.mp hi) h.pr)
open Classical in
noncomputable def bP(H:Hp)(S:R0->¤):Hp:=λb=>if S b then none else H b
section
open Classical
variable {H H':Hp}{S:R0->¤}
§dQ{b:R0}(h:S b):bP H S b=£:=qF h
§d_(h:¬S b):bP H S b=H b:=qB h
§rX:af (bP H S) H:=λb o e=>by
 ¿h:S b
 .[dQ h]at e;&e
 .[d_ h]at e;!e
§c_{b:R0}{o:HO}(s:af (bP H S) H')(e:H b=!o)(h:¬S b):H' b=!o:=s _ _ (by[d_ h];!e)
§OR(s:af (bP H S) H')(h:∀b,S b->∀xs,H b≠some (.tup xs)):ai H H':=λb xs e=>c_ s e λz=>h b z xs e
§Ox(h:H b=£):bP H S b=£:=by
 ¿z:S b
 .!dQ z
 .[d_ z];!h
end
§M9(h:bU a b c d):HT.lexLt [a,b] [c,d]=¶:=by
 [HT.eM,HT.eM];@h|⟨rfl,h⟩:=h
 .[qB ()];!qI h
 .[qF rfl,qB ()];!qI h
end My
namespace Rnd
variable {α:Type}
structure WO(g:α->Option α)(E:α->¤)(p:α)(ini:List α)(las:α):Prop where
 hd:(ini++[las]).head?=!p
 ch:∀(i:Nat) a b,(ini++[las])[i]?=!a->(ini++[las])[i+1]?=!b->g a=!b
 nd:ini.Nodup
 out:∀a∈ini,¬E a
 en:las∈ini\/(las∉ini/\(g las=£\/E las))
section
variable {g:α->Option α}{E:α->¤}{p las:α}{ini:List α}
§WO.Fv(w:WO g E p ini las)(h:a∈ini):g a≠none:=λz=>by
 @i,hi,rfl:=z8.mp h
 #c:(ini++[las])[i]?=some ini[i]:=by[zv hi,qh hi]
 #b:i+1<(ini++[las]).length:=by[qi,qt];¥
 #:=w.ch i _ _ c (qh b);[z]at this;&this
end
end Rnd
namespace My
open PySem L2 PyProof.Rows
§fX(xs:#Pc)(k:#Key):Option Pc:=xs.find? λx=>decide (x.pt=k)
§gX(xs:#Pc)(k:#Key):Option (#Key):=(fX xs k).map (·.ou)
§LI(xs:#Pc)(a b:#Key):Prop:=∃x y,fX xs a=!x/\fX xs b=!y/\bU x.ka x.kb y.ka y.kb
section
variable {xs:#Pc}
§sV(h:fX xs k=!x):x∈xs/\x.pt=k:={List.mem_of_find?_eq_some h,by ±List.find?_some h}
§kK(hn:(xs.map (·.pt)).Nodup)(h:x∈xs):fX xs x.pt=!x:=by
 induction xs with
 |nil=>cases h
 |cons y xs a =>
  [zn,z6]at hn;¶fX;[yd]
  ¿z:y.pt=x.pt
  .[qI z]
   @rfl|h:=q0.mp h
   .rfl
   .!absurd (qf.mpr ⟨x,h,z.symm⟩) hn.1
  .[decide_eq_false z]
   @rfl|h:=q0.mp h
   .!absurd rfl z
   .!a hn.2 h
§O3(h:k∉xs.map (·.pt)):fX xs k=£:=jw.mpr λx a z=>h (qf.mpr {x,a,qO z})
§xW(k:#Key):(fX xs k).isSome=hp xs k:=by
 cases q:fX xs k with
 |some x =>
  @h1,h2:=sV q;[gH.mpr (qf.mpr {x,h1,h2})];rfl
 |none =>
  cases z:hp xs k with
  |false=>rfl
  |true =>
   @x,a,e:=qf.mp (gH.mp z);!absurd (List.find?_eq_none.mp q x a) (by simp[e])
§nQ:gX xs k≠none↔hp xs k=¶:=by
 [←xW];¶gX;&fX xs k <;> simp
§sP(h:gX xs k=!o):∃x∈xs,x.pt=k/\x.ou=o:=by
 @x,h1,h2:=wj.mp h;!{x,(sV h1).1,(sV h1).2,h2}
§N'(h:k∉xs.map (·.pt)):gX xs k=£:=by ¶gX;[O3 h];rfl
end
structure XW(xs:#Pc):Prop where
 nd:(xs.map (·.pt)).Nodup
 w:∀x∈xs,uR x
 Ew:∀x∈xs,∀y∈xs,x=y\/bU x.ka x.kb y.ka y.kb\/bU y.ka y.kb x.ka x.kb
 cI:xs.length<=100
§GG(a b:Int):¬bU a b a b:=by ¶bU;¥
§G1(h:bU a b c d)(g:bU c d e f):bU a b e f:=by unfold bU at *;¥
section
variable {xs:#Pc}
§XW.Ry(W:XW xs)(a b:#Key)(e:gX xs a≠none)(f:gX xs b≠none):a=b\/LI xs a b\/LI xs b a:=by
 @x,c,rfl:=qf.mp (gH.mp (nQ.mp e));@y,d,rfl:=qf.mp (gH.mp (nQ.mp f));@rfl|h|h:=W.Ew x c y d
 .!.inl rfl
 .!.inr (.inl ⟨x,y,kK W.nd c,kK W.nd d,h⟩)
 .!.inr (.inr ⟨y,x,kK W.nd d,kK W.nd c,h⟩)
§XW.pn(W:XW xs)(h:gX xs k=!o):Pn o:=by
 @x,a,_,rfl:=sP h;!(W.w x a).ou
end
§EM{rs:#Pc}(h:rs.Pairwise λa b=>bU a.ka a.kb b.ka b.kb){x y:Pc}(d:x∈rs)(e:y∈rs):x=y\/bU x.ka x.kb y.ka y.kb\/bU y.ka y.kb x.ka x.kb:=by
 @i,hi,rfl:=z8.mp d;@j,c,rfl:=z8.mp e;#hp:=jv.mp h;@z|z|z:=Nat.lt_trichotomy i j
 .!.inr (.inl (hp i j hi c z))
 .£z;!.inl rfl
 .!.inr (.inr (hp j i c hi z))
§Jn(f:∀r∈rs,uR r)(up:rs.Pairwise λa b=>bU a.ka a.kb b.ka b.kb)(d:rs.length<=100):XW (tl rs) :=
 {BX rs,λx c=>f x (tJ c),λx c y e=>EM up (tJ c) (tJ e),qg (vY rs) d}
open Classical in
noncomputable def eg(T:#Key->¤)(x:Pc):Pc:=if T x.pt then{ x with ou:=bE } else x
section
variable {T:#Key->¤}{xs:#Pc}
§wJ(x:Pc):(eg T x).pt=x.pt:=by ¶eg;split <;> rfl
§Mm(h:T x.pt):eg T x={ x with ou:=bE }:=by ¶eg;[qF h]
§Ey(h:¬T x.pt):eg T x=x:=by ¶eg;[qB h]
§zR(w:uR x):uR (eg T x):=by
 ¶eg
 split
 .!{w.pt,.inl rfl,w.nm}
 .!w
§Ko(l:#Pc):(l.map (eg T)).map (·.pt)=l.map (·.pt):=by
 [z9];!yu λx _=>wJ x
end
§ij(H:Hp)(v:V)(k:#Key):Prop:=GK H (.tup k) v
§pJ(H:Hp)(v:V)(x:Pc):Prop:=GK H (.tup x.ou) v
theorem pJ.ab(h:pJ H v x)(t:ai H H'):pJ H' v x:=GK.ab h t
theorem ij.ab(h:ij H v k)(t:ai H H'):ij H' v k:=GK.ab h t
§SM(kvs:#(KD×V×V))(S:#Key->¤):Prop:=∀k,(vG kvs (.tup k)).isSome=¶↔S k
§SM.nil:SM [] (λ_=>False):=λk=>{λz=>absurd z qr,λz=>z.elim}
§SM.put{S S':#Key->¤}(h:SM kvs S)(y v:V)(a:∀k,S' k↔(k=p\/S k)):SM (pG kvs (.tup p) y v) S':=λk=>by
 [eG,a]
 ¿z:k=p
 .£z;[qF rfl];!{λ_=>.inl rfl,λ_=>rfl}
 .[qB (λy=>z (v_ y)),h k]
  !{.inr,λy=>y.resolve_left z}
§SM.yes{S:#Key->¤}(h:SM kvs S)(a:S k):(vG kvs (.tup k)).isSome=¶:=(h k).mpr a
§SM.no{S:#Key->¤}(h:SM kvs S)(a:¬S k):(vG kvs (.tup k)).isSome=¿:=gj.mpr λz=>a ((h k).mp z)
§CV(h:AL (EK R H) kvs xs)(hn:(xs.map (·.pt)).Nodup):(vG kvs (.tup k)).isSome=(gX xs k).isSome:=by
 [Fd h hn,←xW];¶gX;&fX xs k <;> rfl
§OW{A:#Pc}(h:r.pt∉A.map (·.pt)):gP A r=A++[r]:=by
 ¶gP;[qB λz=>h (gH.mp z)]
§OY{l:#(#Key)}{xs:#Pc}(hn:l.Nodup)(h:∀a∈l,hp xs a=¶):l.length<=xs.length:=by
 #:l.length<=(xs.map (·.pt)).length:=by
  #sub:∀(l m:#(#Key)),l.Nodup->(∀a∈l,a∈m)->l.length<=m.length:=λl=>by
   induction l with
   |nil=>intro m _ _;!qv _
   |cons a l g =>
    ¢m hn c;@A,B,e:=bn (c a qm)
    #:=g (A++B) (z6.mp hn).2 λb d=>by
     #h1:=c b (qy _ d);[e]at h1;@z|z:=zh.mp h1
     .!wg _ z
     .@rfl|z:=q0.mp z
      .!absurd d (z6.mp hn).1
      .!zy _ z
    [e,qi,zd];[qi]at this;[zd];¥
  !sub l _ hn λa f=>gH.mp (h a f)
 rwa [qj]at this
§fW(h:n<=100000):n<sizeLine:=by[sizeLine_eq];¥
§xo{β α:Type}{P:β->α->¤}{ws:List β}{ini:List α}{las:α}(h:AL P ws (ini++[las])):∃us v,ws=us++[v]/\AL P us ini/\P v las:=by
 #a:=h.1;[qi,qt]at a;@z|⟨us,v,z⟩:=jb ws
 .[z]at a;!absurd a (by simp)
 .[jc]at z
  £z
  #b:us.length=ini.length:=by[qi,qt]at a;¥
  ?{us,v,O,{b,λm v r d c=>h.2 m v r ?_ ?_},h.2 us.length v las (by simp) (by[b];simp)}
  .[zv (qk.mp d).1];!d
  .[zv (qk.mp c).1];!c
§Og{β α:Type}{P:β->α->¤}{ws:List β}{ls:List α}(h:AL P ws ls)(r:Nat):AL P (ws.drop r) (ls.drop r) :=
 {by[yf,yf,h.1],λm v k b a=>by[bp]at b a;!h.2 _ v k b a}
§N0{a:R0}{kvs:#(KD×V×V)}{H:Hp}{R:It->Hp->¤}(r:Rd H a (.dG kvs))(k:∀(o:Obj) (Y:Hp),(∀b u,b≠a->H b=!u->Y b=!u)->(∀b,Y b=£->H b=£)->Y a=!(.cJ o (.dG kvs))->R (uV a o kvs) Y) :
  (H a=!(.dG kvs)/\∀o,R (uV a o kvs) (upd H a (.cJ o (.dG kvs))))\/∃o,H a=!(.cJ o (.dG kvs))/\R (uV a o kvs) H:=by
 @e|⟨o,e⟩:=r
 .?.inl ⟨e,λo=>k o _ (λb u n e=>by[ax n];!e) (λb q=>?_) aD⟩
  ¿z:b=a
  .£z;[aD]at q;&q
  .[ax z]at q;!q
 .!.inr {o,e,k o H (λ_ _ _ e=>e) (λ_ e=>e) e}
§qQ{a:R0}{kvs:#(KD×V×V)}{H:Hp}{R:It->Hp->¤}(r:Rd H a (.dG kvs))(k:∀(o:Obj) (Y:Hp),(∀b u,b≠a->H b=!u->Y b=!u)->(∀b,Y b=£->H b=£)->Y a=!(.cJ o (.dG kvs))->R (rN a o kvs) Y) :
  (H a=!(.dG kvs)/\∀o,R (rN a o kvs) (upd H a (.cJ o (.dG kvs))))\/∃o,H a=!(.cJ o (.dG kvs))/\R (rN a o kvs) H:=by
 @e|⟨o,e⟩:=r
 .?.inl ⟨e,λo=>k o _ (λb u n e=>by[ax n];!e) (λb q=>?_) aD⟩
  ¿z:b=a
  .£z;[aD]at q;&q
  .[ax z]at q;!q
 .!.inr {o,e,k o H (λ_ _ _ e=>e) (λ_ e=>e) e}
§Pt{us:#V}{v:V}{r:Nat}(h:r<=us.length):dY (us++[v]) (!(r:Int)) (!(-1))=us.drop r:=by
 ¶dY;[HT.nM]
 #e:HT.bZ (us++[v]).length (us++[v]).length (!(-1))=us.length:=by
  ¶HT.bZ;[qi,qt]
  simp only[show((-1:Int)<0) from ⋯,if_true]
  ¥
 [e,qi,qt,Nat.min_eq_left (),List.drop_append_of_le_length h];[List.take_append_of_le_length (by[yf];!qe _),yr (by[yf];!qe _)]
§MR(h:AL (ij H) ws ls):cx H ws (ls.map tD):=AL.lS (λ_ _ z=>aM z) h
§O2(ls:#(#Key))(k:#Key):((ls.map tD).countP λd=>PyData.eqv d (tD k))=ls.countP λa=>decide (a=k):=by
 [List.countP_map]
 !List.countP_congr λa _=>by
  ¤PyData.eqv (tD a) (tD k)=¶↔_;[gV]
§Gu(hn:ini.Nodup):((((ini++[las]).map tD).countP λd=>PyData.eqv d (tD las))>1)↔las∈ini:=by
 [O2,List.countP_append]
 #h1:List.countP (λa=>decide (a=las)) [las]=1:=by simp
 rw[h1];constructor
 .¢h
  #:0<List.countP (λa=>decide (a=las)) ini:=()
  @a,b,e:=bu.mp this;[←qO e];!b
 .¢h
  #:0<List.countP (λa=>decide (a=las)) ini:=bu.mpr {las,h,qI rfl};¥
structure WP(g:#Key->Option (#Key))(E:#Key->¤)(p:#Key)(ini:#(#Key))(las:#Key):Prop where
 hd:(ini++[las]).head?=!p
 ch:∀(i:Nat) a b,(ini++[las])[i]?=!a->(ini++[las])[i+1]?=!b->g a=!b
 nd:(ini++[las]).Nodup
 out:∀a∈ini,¬E a
section
variable {g:#Key->Option (#Key)}{E:#Key->¤}{p las o:#Key}{ini:#(#Key)}
§WP.one:WP g E p [] p:={O,λi a b h1 h2=>by simp at h2,List.nodup_cons.mpr {°,List.nodup_nil},λ_=>°}
§WP.Q8(w:WP g E p ini las):ini.Nodup:=(wt.mp w.nd).1
§WP.BF(w:WP g E p ini las):las∉ini:=λz=>(wt.mp w.nd).2.2 las z las (qx.mpr rfl) rfl
§WP.stop(w:WP g E p ini las)(h:g las=£\/E las):Rnd.WO g E p ini las:={w.hd,w.ch,w.Q8,w.out,.inr {w.BF,h}}
§WP.hd2(w:WP g E p ini las)(o:#Key):((ini++[las])++[o]).head?=!p:=by
 #:=w.hd;[List.head?_append,this];rfl
§WP.Rb(w:WP g E p ini las)(e:g las=!o):∀(i:Nat) a b,((ini++[las])++[o])[i]?=!a->((ini++[las])++[o])[i+1]?=!b->g a=!b:=λi a b h1 h2=>by
 #c:(ini++[las]).length=ini.length+1:=by[qi,qt]
 ¿z:i+1<(ini++[las]).length
 .[zv ()]at h1
  [zv z]at h2;!w.ch i a b h1 h2
 .#d:=(qk.mp h2).1
  [qi,qt]at d
  #hi:i=ini.length:=()
  £hi;[zv ()]at h1;[ye ()]at h2
  #h1:las=a:=by ±h1
  #h2:o=b:=by simpa[c] using h2
  [←h1,←h2];!e
§WP.again(w:WP g E p ini las)(e:g las=!o)(c:¬E las)(h:o∈ini++[las]):Rnd.WO g E p (ini++[las]) o:={w.hd2 o,w.Rb e,w.nd,λa b=>by
 @z|z:=zh.mp b
 .!w.out a z
 .[qx.mp z];!c,.inl h}
§WP.on(w:WP g E p ini las)(e:g las=!o)(f:¬E las)(h:o∉ini++[las]):WP g E p (ini++[las]) o:={w.hd2 o,w.Rb e,wt.mpr {w.nd,z6.mpr {°,vi},λa c b d z=>h (by[←qx.mp d,←z];!c)},λa c=>by
 @z|z:=zh.mp c
 .!w.out a z
 .[qx.mp z];!f}
§WP.Fv(w:WP g E p ini las)(h:a∈ini):g a≠none:=λz=>by
 @i,hi,rfl:=z8.mp h
 #c:(ini++[las])[i]?=some ini[i]:=by[zv hi,qh hi]
 #b:i+1<(ini++[las]).length:=by[qi,qt];¥
 #:=w.ch i _ _ c (qh b);[z]at this;&this
§WP.fits(w:WP (gX ys) E p ini las):ini.length<=ys.length:=OY w.Q8 λa b=>nQ.mp (w.Fv b)
end
§ON(g:TG)(tb:TS)(D:Ends)(σ:L2.St)(J:It)(H1:Hp):Prop:=∃W:Nat->Nat->L2.St->Hp->¤,(∃m,W 0 m σ H1)/\∀i m σ H,W i m σ H->
 (J.stop i H/\D.nx σ H)\/(J.go i H/\∃N:L2.St->Hp->¤,(∀σ' H',N σ' H'->∃b,b<m/\W (i+1) b σ' H')/\∀x H',J.xD i H x H'->g x σ H' λa H2=>tb { D with nx:=N,ct:=N,bk:=D.nx } a H2)
§IE{g:TG}(h:a σ H (ON g tb D σ)):En a g tb D σ H:=h
§mY(e:H a=!o)(c:∀ys,o≠.tup ys)(s:af (del H a) H'):ai H H':=λb xs q=>s _ _ (by[bR (λz=>by[z,e]at q;!c xs (qJ q))];!q)
§nd:#Key->KD
 |[]=>.aR
 |a::r=>.tup (a::r)
§lP(h:k≠[]):nd k=.tup k:=by
 cases k with
 |nil=>!absurd rfl h
 |cons a r=>rfl
§o8(h:nd a=nd b):a=b:=by
 cases a with
 |nil=>cases b with
  |nil=>rfl
  |cons b r=>cases h
 |cons a r=>cases b with
  |nil=>cases h
  |cons b q=>injection h
§Nm.ne(h:Nm k):k≠[]:=by @w,x,rfl,_:=h;!°
§Pn.ne(h:Pn k):k≠[]:=by @w,x,rfl:=h.two;!°
§Qn(k:#Key):Prop:=k=[]\/Pn k
§CN(H:Hp)(v:V)(k:#Key):Prop:=GK H (nd k) v
§h_(H:Hp)(v:V)(x:Pc):Prop:=GK H (nd x.ou) v
theorem h_.ab(h:h_ H v x)(t:ai H H'):h_ H' v x:=GK.ab h t
theorem CN.ab(h:CN H v k)(t:ai H H'):CN H' v k:=GK.ab h t
§gZ(h:k≠[])(g:GK H (.tup k) v):GK H (nd k) v:=by[lP h];!g
§J5(h:k≠[])(g:GK H (nd k) v):GK H (.tup k) v:=by[lP h]at g;!g
§fy(kvs:#(KD×V×V))(S:#Key->¤):Prop:=∀k,(vG kvs (nd k)).isSome=¶↔S k
§fy.nil:fy [] (λ_=>False):=λk=>{λz=>absurd z qr,λz=>z.elim}
§fy.put{S S':#Key->¤}(h:fy kvs S)(y v:V)(a:∀k,S' k↔(k=p\/S k)):fy (pG kvs (nd p) y v) S':=λk=>by
 [eG,a]
 ¿z:k=p
 .£z;[qF rfl];!{λ_=>.inl rfl,λ_=>rfl}
 .[qB (λy=>z (o8 y)),h k]
  !{.inr,λy=>y.resolve_left z}
§fy.Oq{S S':#Key->¤}(h:fy kvs S)(hp:p≠[])(y v:V)(a:∀k,S' k↔(k=p\/S k)):fy (pG kvs (.tup p) y v) S':=by[←lP hp];!h.put y v a
§fy.yes{S:#Key->¤}(h:fy kvs S)(a:S k):(vG kvs (nd k)).isSome=¶:=(h k).mpr a
§fy.no{S:#Key->¤}(h:fy kvs S)(a:¬S k):(vG kvs (nd k)).isSome=¿:=gj.mpr λz=>a ((h k).mp z)
section
variable {R:V->Pc->¤}{H:Hp}{kvs:#(KD×V×V)}{xs:#Pc}{k:#Key}
§A8(hz:∀x∈xs,x.pt≠[]):gX xs []=£:=N' λz=>by
 @x,a,e:=qf.mp z;!hz x a e
§Ck(h:AL (EK R H) kvs xs)(hn:(xs.map (·.pt)).Nodup)(hz:∀x∈xs,x.pt≠[]):(vG kvs (nd k)).isSome=(gX xs k).isSome:=by
 ¿e:k=[]
 .£e
  [A8 hz,show nd []=KD.aR from rfl,lU λe a z=>?_]
  .rfl
  .@r,_,p:=h.mem a
   [p.1]at z;&z
 .[lP e];!CV h hn
§Hd(h:AL (EK (h_ H) H) kvs xs)(hn:(xs.map (·.pt)).Nodup)(hz:∀x∈xs,x.pt≠[])(e:gX xs k=!o):∃v,vG kvs (nd k)=!v/\GK H (nd o) v:=by
 @x,a,rfl,rfl:=sP e;[lP (hz x a)];!pK h hn a
end
theorem HP{α:Type}:∀(l m:List α),l.Nodup->(∀a∈l,a∈m)->l.length<=m.length
 |[],m,_,_=>qv _
 |a::l,m,hn,hs=>by
  @A,B,e:=bn (hs a qm)
  #:=HP l (A++B) (z6.mp hn).2 λb c=>by
   #h1:=hs b (qy _ c);[e]at h1;@z|z:=zh.mp h1
   .!wg _ z
   .@rfl|z:=q0.mp z
    .!absurd c (z6.mp hn).1
    .!zy _ z
  [e,qi,zd];[qi]at this;[zd];¥
§nodes(ys:#Pc):#(#Key):=bE::(ys.map (·.pt)++ys.map (·.ou))
§ND(h:x∈ys):x.pt∈nodes ys:=qy _ (wg _ (qf.mpr {x,h,O}))
§P1(h:gX ys k=!o):o∈nodes ys:=by
 @x,a,_,rfl:=sP h;!qy _ (zy _ (qf.mpr {x,a,O}))
section
variable {H H':Hp}{ys:#Pc}{f:#Key->Option Bool}{kr:#(KD×V×V)}
§NB{α β:Type}(kvs:#(KD×α×β))(k:KD)(y:α)(v:β):(pG kvs k y v).map (·.1)=if(vG kvs k).isSome=¶ then kvs.map (·.1) else kvs.map (·.1)++[k]:=by
 ¶pG
 ¿h:(vG kvs k).isSome=¶
 .[qF h,qF h,z9]
  ?yu λe _=>?_;¤(if e.1=k then(e.1,e.2.1,v) else e).1=e.1
  split <;> rfl
 .[qB h,qB h,z7];rfl
§QO{α β:Type}{kvs:#(KD×α×β)}(h:(kvs.map (·.1)).Nodup)(k:KD)(y:α)(v:β):((pG kvs k y v).map (·.1)).Nodup:=by
 [NB]
 ¿q:(vG kvs k).isSome=¶
 .[qF q];!h
 .[qB q,wt]
  #hn:vG kvs k=£:=by
   cases z:vG kvs k with
   |none=>rfl
   |some u=>rw[z]at q;!absurd rfl q
  ?{h,z6.mpr {°,vi},λa d b f e=>?_};@x,c,rfl:=qf.mp d;!nP hn x c (e.trans (qx.mp f))
§Kt{α β:Type}{kvs:#(KD×α×β)}{k:KD}{y:α}{v:β}{e:KD×α×β}(h:e∈pG kvs k y v):(e=(k,y,v))\/∃a∈kvs,a.1=e.1/\a.2.1=e.2.1:=by
 unfold pG at h
 ¿q:(vG kvs k).isSome=¶
 .[qF q]at h
  @a,b,rfl:=qf.mp h;?.inr {a,b,?_}
  ¿z:a.1=k
  .[qF z];!{O,O}
  .[qB z];!{O,O}
 .[qB q]at h
  @z|z:=zh.mp h
  .!.inr ⟨e,z,O,O⟩
  .!.inl (qx.mp z)
end
open Classical in
noncomputable def lfp(cu:#(#Key))(x:Pc):Bool:=decide (x.pt∉cu)
§Lb(h:x.pt∉cu):lfp cu x=¶:=by ¶lfp;±h
§Hu(h:x.pt∈cu):lfp cu x=¿:=by ¶lfp;±h
§Iv{es:#(KD×V×V)}:∀{ks:#(#Key)} {xs:#(KD×V×V)} {S:#Key->¤},AL (λe k=>e.1=nd k) es ks->fy xs S->fy (putAll xs es) (λk=>S k\/k∈ks):=by
 induction es with
 |nil =>
  ¢ks xs S h g
  cases ks with
  |nil=>!λk=>(g k).trans {.inl,λz=>z.resolve_right °}
  |cons k ks=>!h.none.elim
 |cons e es b =>
  ¢ks xs S h g
  cases ks with
  |nil=>!h.nothing.elim
  |cons k ks =>
   have h1:=b (xs:=pG xs e.1 e.2.1 e.2.2) (S:=λa=>a=k\/S a) h.tail (by[h.head];!g.put _ _ λa=>Iff.rfl);?λa=>(h1 a).trans ?_;¤((a=k\/S a)\/a∈ks)↔(S a\/a∈k::ks);[q0];constructor
   .rintro((z|z)|z)
    .!.inr (.inl z)
    .!.inl z
    .!.inr (.inr z)
   .rintro(z|z|z)
    .!.inl (.inr z)
    .!.inl (.inl z)
    .!.inr z
theorem Ae{β α:Type}{P:β->α->¤}:∀{vs:List β},(∀v∈vs,∃r,P v r)->∃rs,AL P vs rs
 |[],_=>{[],.nil}
 |v::vs,h=>by
  @r,b:=h v qm;@rs,h2:=Ae λx a=>h x (qy _ a);!{r::rs,.cons b h2}
theorem Lw{β α a:Type}{P:β->α->¤}{f:β->a}{g:α->a}:∀{vs:List β} {rs:List α},AL P vs rs->(∀v r,P v r->f v=g r)->vs.map f=rs.map g
 |[],[],_,_=>rfl
 |[],_::_,h,_=>h.none.elim
 |_::_,[],h,_=>h.nothing.elim
 |_::_,_::_,h,k=>by[zn,zn,k _ _ h.head,Lw h.tail k]
§Kb{kvs:#(KD×V×V)}{k:KD}{v:V}(h:vG kvs k=!v):∃e∈kvs,e.1=k:=by
 @e,a,_:=wj.mp h;!{e,List.mem_of_find?_eq_some a,by ±List.find?_some a}
structure Sg where
 pt:#Key
 nk:#Key
 bh:Option Nat
 ka:Int
 kb:Int
 kc:Int
 sg:RY
 lv:Bool
§cj(S:Nat->Sg)(i:Nat):#Key:=(S i).nk
§sG(S:Nat->Sg)(i:Nat):Option Nat:=(S i).bh
§DS(S:Nat->Sg)(i:Nat):RY:=.tuple [.int (S i).ka,.int (S i).kb,.int (S i).kc]
inductive SN(S:Nat->Sg)(H:Hp)(v:V)(i:Nat):Prop
 |mk(b:R0)(vp vn vb:V)(kq:R0)(vs:V)(h0:v=.ref b)(h1:H b=!(.tup [vp,vn,vb,.ref kq,vs,.bl (S i).lv]))(h2:GK H (.tup (S i).pt) vp)(h3:NM (cj S) H vn i)(h4:GK H (kd (cj S) (sG S i)) vb)(h5:H kq=!(.tup [.int (S i).ka,.int (S i).kb,.int (S i).kc]))(h6:DT H vs (S i).sg)
theorem SN.ab{S:Nat->Sg}(h:SN S H v i)(t:ai H H'):SN S H' v i:=by
 @b,f,vn,j,kq,vs,e,h1,h2,a,g,d,c:=h;!{b,f,vn,j,kq,vs,e,t _ _ h1,h2.ab t,a.ab t,g.ab t,t _ _ d,c.ab t}
§LC(x y:Sg):Prop:=x.ka<y.ka\/(x.ka=y.ka/\(x.kb<y.kb\/(x.kb=y.kb/\x.kc<y.kc)))
§Kk{S:Nat->Sg}(h:LC (S i) (S j)):bT (DS S i) (DS S j)=¶:=by
 ¶DS;[bT];@h|⟨e,h|⟨e',h⟩⟩:=h
 .!ur h
 .[e];!vL (ur h)
 .[e,e'];!vL (vL (ur h))
§Gc(d:RY):Prop:=d.canLay0=¶/\sk d d=¶/\d.depth<=3
structure WS(S:Nat->Sg)(n:Nat):Prop where
 cI:n<=1400
 up:∀i j,i<j->j<n->LC (S i) (S j)
 inj:∀i,i<n->∀j,j<n->(S i).nk=(S j).nk->i=j
 back:∀i,i<n->∀j,(S i).bh=!j->j<i/\(S j).pt=(S i).pt
 lay:∀i,i<n->Lay (S i).nk/\Lay (S i).pt
 sgn:∀i,i<n->Gc (S i).sg
§nK(S:Nat->Sg)(pt:#Key)(i:Nat):Bool:=decide ((S i).pt=pt)
§iN{S:Nat->Sg}{pt:#Key}:nK S pt i=¶↔(S i).pt=pt:=decide_eq_true_iff
§bM(S:Nat->Sg)(n:Nat)(pt:#Key):#Nat:=(List.range n).filter (nK S pt)
§aG(S:Nat->Sg)(n:Nat)(pt:#Key):#Nat:=Rga.iM (Rga.cM (sG S) (bM S n pt))
§bC(S:Nat->Sg)(n:Nat)(pt:#Key):#Nat:=(aG S n pt).filter λi=>(S i).lv
§WS.uP{S:Nat->Sg}(W:WS S n)(pt:#Key):vP (cj S) (sG S) (DS S) (bM S n pt) 2:=by
 #c:vP (cj S) (sG S) (DS S) (List.range n) 2:=by
  ?{by[zo];#:=W.cI;¥,?_,λi hi j m e=>W.inj i (qo.mp hi) j (qo.mp m) e,Rga.gN λi hi b e=>(W.back i hi b e).1,uk λd o=>?_}
  .!(ui n).imp_of_mem λ{a b} p l h=>Kk (W.up a b h (qo.mp l))
  .@i,_,rfl:=qf.mp o
   !.inr {_,_,_,O}
 ?c.filter λk f g b e=>?_;@h1,h2:=W.back k (qo.mp f) b e;!iN.mpr (h2.trans (iN.mp g))
§Oh{S:Nat->Sg}{n i:Nat}{pt:#Key}(h:i∈bM S n pt):i<n/\(S i).pt=pt:={qo.mp (zk.mp h).1,iN.mp (zk.mp h).2}
§lV{S:Nat->Sg}{pt:#Key}(W:WS S n):i∈aG S n pt↔i<n/\(S i).pt=pt:=by
 #e:=Rga.eN (sG S) (bM S n pt);#h:i∈aG S n pt↔i∈Rga.kH (Rga.cM (sG S) (bM S n pt)):=(Rga.cX (W.uP pt).wf).mem_iff;[h,e,yh];!{Oh,λz=>zk.mpr {qo.mpr z.1,iN.mpr z.2}}
§mK{S:Nat->Sg}{pt:#Key}(W:WS S n)(h:i∈aG S n pt):i<n:=((lV W).mp h).1
§lM{S:Nat->Sg}{pt:#Key}(W:WS S n):(aG S n pt).Nodup:=Rga.jA (W.uP pt).wf
§iE{S:Nat->Sg}{pt:#Key}(W:WS S n):(aG S n pt).length<=n:=by
 ¶aG;[Rga.gJ (W.uP pt).wf];!qg (we _ _) (by[zo];!qe _)
§FG(H:Hp)(fa:R0)(S:Nat->Sg)(n:Nat):Prop:=∃kvs a vs,Rd H fa (.dK kvs)/\bO kvs (.inr "signs")=!(.ref a)/\H a=!(.lst vs)/\AN (SN S H) vs (List.range n)/\WS S n
theorem FG.same{S:Nat->Sg}(h:FG H fa S n)(s:af H H'):FG H' fa S n:=by
 @kvs,c,vs,h1,h2,a,b,d:=h;!{kvs,c,vs,Rd.same h1 s,h2,s _ _ a,b.imp λv i g=>g.ab s.ab,d}
§lF(S:Nat->Sg)(n:Nat)(r:Sg):Nat->Sg:=λi=>if i=n then r else S i
§eK{S:Nat->Sg}(h:i<n):lF S n r i=S i:=qB ()
§f7{S:Nat->Sg}:lF S n r n=r:=qF rfl
§FH(S S':Nat->Sg)(n:Nat):Prop:=∀i,i<n->S' i=S i
§FH.ext(S:Nat->Sg)(n:Nat)(r:Sg):FH S (lF S n r) n:=λi hi=>eK hi
§NM.Et{S S':Nat->Sg}(a:FH S S' n)(hi:i<n)(h:NM (cj S) H v i):NM (cj S') H v i:=by
 unfold NM cj at h ⊢;[a i hi];!h
theorem SN.Et{S S':Nat->Sg}(a:FH S S' n)(hi:i<n)(g:∀j,(S i).bh=!j->j<n)(h:SN S H v i):SN S' H v i:=by
 @b,m,vn,o,kq,vs,e,h1,h2,f,d,l,k:=h;#c:S' i=S i:=a i hi;?{b,m,vn,o,kq,vs,e,by[c];!h1,by[c];!h2,NM.Et a hi f,?_,by[c];!l,by[c];!k};unfold sG at d ⊢;[c]
 cases z:(S i).bh with
 |none=>rw[z]at d;!d
 |some j =>
  [z]at d;!NM.Et a (g j z) d
§WS.ext{S:Nat->Sg}(W:WS S n)(hn:n<1400)(up:∀i,i<n->LC (S i) r)(ne:∀i,i<n->(S i).nk≠r.nk)(bk:∀j,r.bh=!j->j<n/\(S j).pt=r.pt)(c:Lay r.nk)(b:Lay r.pt)(d:Gc r.sg):WS (lF S n r) (n+1) where
 cI:=hn
 up:=λi j h1 h2=>by
  ¿z:j=n
  .£z
   [f7,eK h1];!up i h1
  .[eK (show j<n from ()),eK (show i<n from ())]
   !W.up i j h1 ()
 inj:=λi hi j g e=>by
  ¿f:i=n
  .¿a:j=n
   .¥
   .[f,f7,eK (show j<n from ())]at e
    !absurd e.symm (ne j ())
  .¿a:j=n
   .[a,f7,eK (show i<n from ())]at e
    !absurd e (ne i ())
   .[eK (show i<n from ()),eK (show j<n from ())]at e
    !W.inj i () j () e
 back:=λi hi j e=>by
  ¿z:i=n
  .£z
   [f7]at e ⊢;@h1,h2:=bk j e;[eK h1];!{h1,h2}
  .[eK (show i<n from ())]at e ⊢
   @h1,h2:=W.back i () j e;[eK (show j<n from ())];!{h1,h2}
 lay:=λi hi=>by
  ¿z:i=n
  .£z;[f7];!{c,b}
  .[eK (show i<n from ())];!W.lay i ()
 sgn:=λi hi=>by
  ¿z:i=n
  .£z;[f7];!d
  .[eK (show i<n from ())];!W.sgn i ()
abbrev Sd:=Option (Nat×Bool)
§FN(b:Bool):R9:=if b then "behind" else "ahead"
§oj(S:Nat->Sg)(H:Hp):Sd->V->¤
 |none,v=>v=.aR
 |some (i,b),v=>∃a vn,v=.ref a/\H a=!(.tup [vn,.str (FN b)])/\NM (cj S) H vn i
theorem oj.ab{S:Nat->Sg}(h:oj S H d v)(t:ai H H'):oj S H' d v:=by
 match d,h with
 |none,h=>!h
 |some (i,b),⟨a,vn,e,h1,h2⟩=>!{a,vn,e,t _ _ h1,h2.ab t}
§dX(S:Nat->Sg)(n:Nat)(pt:#Key)(d:Sd):Prop:=∀i b,d=!(i,b)->i<n/\(S i).pt=pt
structure Mk where
 pt:#Key
 b:Sd
 e:Sd
 kd:R9
 vl:Option R9
 nm:#Key
 ka:Int
 kb:Int
§Mh:Option R9->V
 |none=>.aR
 |some z=>.str z
inductive MN(S:Nat->Sg)(M:Nat->Mk)(H:Hp)(v:V)(i:Nat):Prop
 |mk(b:R0)(vp vb ve vn:V)(kq:R0)(h0:v=.ref b)(h1:H b=!(.tup [vp,vb,ve,.str (M i).kd,Mh (M i).vl,vn,.ref kq]))(h2:GK H (.tup (M i).pt) vp)(h3:oj S H (M i).b vb)(h4:oj S H (M i).e ve)(h5:GK H (.tup (M i).nm) vn)(h6:H kq=!(.tup [.int (M i).ka,.int (M i).kb]))
theorem MN.ab{S:Nat->Sg}(h:MN S M H v i)(t:ai H H'):MN S M H' v i:=by
 @b,g,k,c,vn,kq,e,h1,h2,a,j,f,d:=h;!{b,g,k,c,vn,kq,e,t _ _ h1,h2.ab t,a.ab t,j.ab t,f.ab t,t _ _ d}
structure WK(S:Nat->Sg)(n:Nat)(M:Nat->Mk)(m:Nat):Prop where
 cI:m<=70
 up:∀i j,i<j->j<m->bU (M i).ka (M i).kb (M j).ka (M j).kb
 sd:∀i,i<m->dX S n (M i).pt (M i).b/\dX S n (M i).pt (M i).e
 lay:∀i,i<m->Lay (M i).pt/\Lay (M i).nm/\PyData.strOk (M i).kd=¶/\∀z,(M i).vl=!z->PyData.strOk z=¶
§hP(M:Nat->Mk)(n:Nat)(r:Mk):Nat->Mk:=λi=>if i=n then r else M i
§jO(h:i<n):hP M n r i=M i:=qB ()
§mF:hP M n r n=r:=qF rfl
§MN.ext{S:Nat->Sg}(hi:i<n)(h:MN S M H v i):MN S (hP M n r) H v i:=by
 #e:hP M n r i=M i:=jO hi;@b,g,k,c,vn,kq,h0,h1,h2,a,j,f,d:=h;!{b,g,k,c,vn,kq,h0,by[e];!h1,by[e];!h2,by[e];!a,by[e];!j,by[e];!f,by[e];!d}
§WK.ext{S:Nat->Sg}(W:WK S n M m)(a:m<70)(up:∀i,i<m->bU (M i).ka (M i).kb r.ka r.kb)(sd:dX S n r.pt r.b/\dX S n r.pt r.e)(l:Lay r.pt/\Lay r.nm/\PyData.strOk r.kd=¶/\∀z,r.vl=!z->PyData.strOk z=¶):WK S n (hP M m r) (m+1) where
 cI:=a
 up:=λi j h1 h2=>by
  ¿z:j=m
  .£z
   [mF,jO h1];!up i h1
  .[jO (show j<m from ()),jO (show i<m from ())]
   !W.up i j h1 ()
 sd:=λi hi=>by
  ¿z:i=m
  .£z;[mF];!sd
  .[jO (show i<m from ())];!W.sd i ()
 lay:=λi hi=>by
  ¿z:i=m
  .£z;[mF];!l
  .[jO (show i<m from ())];!W.lay i ()
inductive NN(S:Nat->Sg)(M:Nat->Mk)(H:Hp)(v:V)(i:Nat):Prop
 |mk(b:R0)(vp vb ve vn:V)(kq:R0)(h0:v=.ref b)(h1:H b=!(.tup [vp,vb,ve,.str (M i).kd,vn,.ref kq]))(h2:GK H (.tup (M i).pt) vp)(h3:oj S H (M i).b vb)(h4:oj S H (M i).e ve)(h5:GK H (.tup (M i).nm) vn)(h6:H kq=!(.tup [.int (M i).ka,.int (M i).kb]))
theorem NN.ab{S:Nat->Sg}(h:NN S M H v i)(t:ai H H'):NN S M H' v i:=by
 @b,g,k,c,vn,kq,e,h1,h2,a,j,f,d:=h;!{b,g,k,c,vn,kq,e,t _ _ h1,h2.ab t,a.ab t,j.ab t,f.ab t,t _ _ d}
§NN.ext{S:Nat->Sg}(hi:i<n)(h:NN S M H v i):NN S (hP M n r) H v i:=by
 #e:hP M n r i=M i:=jO hi;@b,g,k,c,vn,kq,h0,h1,h2,a,j,f,d:=h;!{b,g,k,c,vn,kq,h0,by[e];!h1,by[e];!h2,by[e];!a,by[e];!j,by[e];!f,by[e];!d}
structure FS(H:Hp)(fa:R0)(F:Nat->R0)(S:Nat->Sg)(n:Nat)(M:Nat->Mk)(m:Nat)(N:Nat->Mk)(q:Nat)(vs ms ns:#V):Prop where
 dk:Rd H fa (.dK (cE F 9))
 inj:∀i,i<9->∀j,j<9->F i=F j->i=j
 rest:∀i,i<9->i≠3->i≠4->i≠5->∃xs,H (F i)=!(.lst xs)
 sl:H (F 3)=!(.lst vs)
 sa:AN (SN S H) vs (List.range n)
 ws:WS S n
 ml:H (F 4)=!(.lst ms)
 ma:AN (MN S M H) ms (List.range m)
 wm:WK S n M m
 nl:H (F 5)=!(.lst ns)
 na:AN (NN S N H) ns (List.range q)
 wn:WK S n N q
section
variable {H H':Hp}{fa:R0}{F:Nat->R0}{S S':Nat->Sg}{n n':Nat}{M:Nat->Mk}{m:Nat}{N:Nat->Mk}{q:Nat}{vs ms ns:#V}
§FS.fg(h:FS H fa F S n M m N q vs ms ns):FG H fa S n:={cE F 9,F 3,vs,h.dk,cR F 3 ⋯,h.sl,h.sa,h.ws}
§FS.to(h:FS H fa F S n M m N q vs ms ns)(t:ai H H')(d:Rd H' fa (.dK (cE F 9)))(a:∀i,i<9->∀xs,H (F i)=!(.lst xs)->H' (F i)=!(.lst xs)):FS H' fa F S n M m N q vs ms ns where
 dk:=d
 inj:=h.inj
 rest:=λi h1 h2 b c=>let⟨xs,e⟩:=h.rest i h1 h2 b c;{xs,a i h1 _ e}
 sl:=a 3 ⋯ _ h.sl
 sa:=h.sa.imp λv i g=>g.ab t
 ws:=h.ws
 ml:=a 4 ⋯ _ h.ml
 ma:=h.ma.imp λv i g=>g.ab t
 wm:=h.wm
 nl:=a 5 ⋯ _ h.nl
 na:=h.na.imp λv i g=>g.ab t
 wn:=h.wn
theorem FS.same(h:FS H fa F S n M m N q vs ms ns)(s:af H H'):FS H' fa F S n M m N q vs ms ns:=h.to s.ab (Rd.same h.dk s) λ_ _ _ e=>s _ _ e
end
end My
namespace L2
open PySem PySem.Spec PySem.W PyProof.Rows
inductive zi(H:Hp)(T:String):V->Bool->¤
 |str (z:R9):zi H T (.str z) (T=="str")
 |int (i:Int):zi H T (.int i) (T=="int")
 |bl (b:Bool):zi H T (.bl b) (T=="bool"||T=="int")
 |aR:zi H T .aR false
 |tup {p:R0} {xs:#V} (h:H p=!(.tup xs)):zi H T (.ref p) (T=="tuple")
 |lst {p:R0} {xs:#V} (h:H p=!(.lst xs)):zi H T (.ref p) (T=="list")
 |Ru {p:R0} {xs:#(Key×V)} (h:H p=!(.dK xs)):zi H T (.ref p) (T=="dict")
inductive RH(xs:#V)(H:Hp)(Q:VK):Prop
 |mk(x:V)(T:String)(b:Bool)(h0:xs=[x,.ty T])(hT:(["str","int","bool","tuple","list"]:#String).contains T=¶)(h1:zi H T x b)(h2:Q (.bl b) H)
§pW:cA X (.builtin "isinstance") RH:=by
 ¢pins s σ H xs us Q I c h;@x,T,b,rfl,a,h1,q:=h
 #a:T = "str" \/ T = "int" \/ T = "bool" \/ T = "tuple" \/ T = "list":=by ±a
 ?Q4 pins s σ H _ us Q I c ?_
 cases h1 with
 |str z=>!{_,T,.type "str",_,O,.str _,by @rfl|rfl|rfl|rfl|rfl:=a <;> rfl,q}
 |int i=>!{_,T,.type "int",_,O,.int _,by @rfl|rfl|rfl|rfl|rfl:=a <;> rfl,q}
 |bl i=>!{_,T,.type "bool",_,O,.bl _,by @rfl|rfl|rfl|rfl|rfl:=a <;> rfl,q}
 |aR=>!{_,T,.type "NoneType",_,O,.aR,by @rfl|rfl|rfl|rfl|rfl:=a <;> rfl,q}
 |tup h=>!{_,T,.type "tuple",_,O,.tup h,by @rfl|rfl|rfl|rfl|rfl:=a <;> rfl,q}
 |lst h=>!{_,T,.type "list",_,O,.lst h,by @rfl|rfl|rfl|rfl|rfl:=a <;> rfl,q}
 |Ru h=>!{_,T,.type "dict",_,O,.dK h,by @rfl|rfl|rfl|rfl|rfl:=a <;> rfl,q}
end L2
namespace My
open PySem L2 PyProof.Rows
§top(i:Nat):Stmt:=PySem.Challenge.pw_pagefolk_k44_entries_and_numbers.main.body.getD i (.Pass {0,0,0,0})
abbrev uc:Stmt:=top 2
abbrev qT:Stmt:=top 3
abbrev rC:Stmt:=top 4
abbrev sU:Stmt:=top 5
abbrev qY:Stmt:=top 6
abbrev ua:Stmt:=top 8
abbrev uH:Stmt:=top 9
abbrev ue:Stmt:=top 10
abbrev kR:Stmt:=top 12
abbrev sQ:Stmt:=top 13
abbrev oo:Stmt:=top 14
abbrev tV:Stmt:=top 16
abbrev uO:Stmt:=top 17
abbrev rY:Stmt:=top 18
abbrev sL:Stmt:=top 19
abbrev lg:Stmt:=top 20
abbrev iY:Stmt:=top 21
abbrev rD:Stmt:=top 22
abbrev se:Stmt:=top 23
abbrev iT:Stmt:=top 24
abbrev kO:Stmt:=top 26
abbrev tP:Stmt:=top 27
abbrev tI:Stmt:=top 28
abbrev sN:Stmt:=top 29
abbrev su:Stmt:=top 30
abbrev uu:Stmt:=top 31
abbrev oM:Stmt:=top 32
abbrev lH:Stmt:=top 33
abbrev rV:Stmt:=top 34
abbrev rP:Stmt:=top 35
abbrev jC:Stmt:=top 37
abbrev sO:Stmt:=top 38
abbrev k_:Stmt:=top 39
abbrev nT:Stmt:=top 40
abbrev oN:Stmt:=top 42
abbrev rQ:Stmt:=top 43
abbrev nV:Stmt:=top 44
abbrev sv:Stmt:=top 45
abbrev iW:Stmt:=top 46
abbrev qX:Stmt:=top 47
abbrev nN:Stmt:=top 48
abbrev rA:Stmt:=top 50
abbrev uh:Stmt:=top 51
abbrev uD:Stmt:=top 52
abbrev ow:Stmt:=top 53
abbrev sE:Stmt:=top 54
abbrev oG:Stmt:=top 55
abbrev rZ:Stmt:=top 56
abbrev oA:Stmt:=top 57
abbrev nU:Stmt:=top 58
abbrev oy:Stmt:=top 59
abbrev nE:Stmt:=top 60
abbrev uf:Stmt:=top 61
abbrev rK:Stmt:=top 62
abbrev rT:Stmt:=top 63
abbrev rB:Stmt:=top 64
abbrev eA:Stmt:=top 65
abbrev Gy:#R9:=["births","part","outer_of","chain"]
abbrev Gk:#R9:=["leaves","hand","to","told","leave"]
abbrev KI:#R9:=["leave"]
abbrev HC:#R9:=["leaves","chain","hand","to","told","part"]
abbrev Ir:#R9:=["roll","births","leaves","hand","part","to","chain"]
abbrev K3:#R9:=["place"]
abbrev Lx:#R9:=["places","followers","place"]
abbrev Gd:#R9:=["places","followers","row","to_come","name"]
abbrev xV:#R9:=["facts","part"]
abbrev Jj:#R9:=["facts","part"]
abbrev yS:#R9:=["facts","part","lives"]
abbrev Ga:#R9:=["seats","side"]
abbrev HG:#R9:=["seats","begin","end","first"]
abbrev G5:#R9:=["row"]
abbrev Jd:#R9:=["mark"]
abbrev xP:#R9:=["facts","part","row","seats","telling","mark","over","between"]
abbrev yI:#R9:=["facts","part","place","row","seats","telling","told","name","marks"]
abbrev Hl:#R9:=["facts","part"]
abbrev Ja:#R9:=["note"]
abbrev xK:#R9:=["facts","part","seats","alive","told","note","between","under"]
abbrev HL:#R9:=["facts","telling","place","part"]
abbrev Lf:#R9:=["outer_of","part","ended","way","on_way","outer"]
abbrev F8:#R9:=["telling","parts"]
abbrev Gr:#R9:=["telling","outer_of","turned","ended","part","way","one"]
abbrev HV:#R9:=["telling","turned","stands","part","place"]
abbrev Kx:#R9:=["outer_of","reaching","part","way","comes","one"]
abbrev GZ:#R9:=["facts","outer_of","reaching"]
abbrev Jw:#R9:=["facts","stands","cut","left","reaching"]
abbrev GO:#R9:=["facts","telling","stands","shown","inner","part"]
abbrev KY:#R9:=["facts","part"]
abbrev xZ:#R9:=["facts","part","way","lines","lives"]
abbrev Lu:#R9:=["cell"]
abbrev yO:#R9:=["facts","part","cells"]
abbrev zZ:#R9:=["facts","part","rows","columns","told","words","row"]
abbrev Hg:#R9:=["facts","roll","hand","part"]
abbrev Kj:#R9:=["number","place"]
abbrev F2:#R9:=["facts","roll","hand","inner","told","to_come","coming","is_open","within"]
abbrev K7:#R9:=["numbers","sign"]
abbrev ug:#R9:=["facts","part","numbers","signs","marks"]
abbrev Kh:#R9:=["facts","numbers","part","is_open"]
abbrev Km:#R9:=["facts","roll","hand","told","numbers"]
abbrev IK:#R9:=["_law_script","_law_k"]
abbrev Ji:#R9:=["_law_cell","_law_digits"]
abbrev JC:#R9:=["_law_drawn_here","_law_many","_law_number"]
abbrev IV:#R9:=["_law_drawn_here","_law_facts_here","_law_roll","_law_known","_law_wide","_law_k","_law_part","_law_outer","_law_counts","_law_placed"]
abbrev Kr:#R9:=["_law_drawn_here","_law_known","_law_way"]
abbrev FW:#R9:=["_law_drawn_here","_law_facts_here","_law_roll","_law_known","_law_names","_law_k","_law_part","_law_behind","_law_name","_law_lives","_law_key"]
abbrev GQ:#R9:=["_law_drawn_here","_law_names"]
abbrev Lm:#R9:=["_law_drawn_here","_law_facts_here","_law_roll","_law_names","_law_k","_law_parts_here","_law_part","_law_begin","_law_end","_law_name","_law_value","_law_kind"]
abbrev FP:#R9:=["_law_drawn_here","_law_facts_here","_law_roll","_law_known","_law_part","_law_rows","_law_columns","_law_k","_law_way","_law_line_name","_law_key","_law_row","_law_column","_law_word"]
abbrev KR:#R9:=["_law_drawn_here","_law_facts_here","_law_roll","_law_known","_law_k","_law_part","_law_hand","_law_to"]
abbrev HA:#R9:=["_law_script","_law_roll","_law_digits","_law_facts_here","_law_key","_law_known","_law_names"]
abbrev IZ:#R9:=["_law_facts_here","_law_found","_law_left","_law_number","_law_part","_law_inner","_law_k","_law_one"]
abbrev F3:#R9:=["_law_facts_here","_law_entry","_law_number","_law_part","_law_told","_law_names","_law_one"]
abbrev J7:#R9:=["_law_facts_here","_law_found","_law_due","_law_k"]
abbrev FV:#R9:=["_law_entry","_law_some"]
abbrev zN:#R9:=["_law_script","_law_roll","_law_facts_here","_law_same","_law_found","_law_entry","_law_one"]
abbrev cn:R0:=15
abbrev bB:R0:=157
abbrev a_:R0:=193
abbrev Nj:#R9:=["greatest_place","all_inner_parts"]
§Ri(t:R9):R0:=if t = "greatest_place" then bB else if t = "all_inner_parts" then a_ else 0
abbrev MS:#(R0×#V):=[(cn,[.str "",.int 0])]
structure Txt(K:PySem.W.Frag)(mg:R9->Option MD)(tk:R9->Tok):Prop where
 c6:mg "dict"=£
 dW:mg "enumerate"=£
 tQ:mg "int"=£
 cg:mg "isinstance"=£
 bQ:mg "len"=£
 eF:mg "list"=£
 Aa:mg "max"=£
 dn:mg "range"=£
 cU:mg "sorted"=£
 rS:mg "str"=£
 oI:mg "tuple"=£
 cn:mg "MAIN"=!(.ref cn)
§Rest.refl{S:R0->¤}:Rest H H S:=λ_ _ e _=>e
§Rest.same{S:R0->¤}(h:Rest H Z S)(s:af Z Z'):Rest H Z' S:=λb o e n=>s _ _ (h b o e n)
theorem Rest.del{S:R0->¤}(h:Rest H Z S)(hp:S p)(s:af (del Z p) Z'):Rest H Z' S:=λb o e n=>s _ _ (by[bR (λz=>n (by[z];!hp))];!h b o e n)
§Rest.wr{S:R0->¤}(h:Rest H Z S)(hp:S p):Rest H (upd Z p o) S:=λb u e n=>by
 [ax (λz=>n (by[z];!hp))];!h b u e n
§Rest.ab{S:R0->¤}(h:Rest H Z S)(c:∀b,S b->∃xs,H b=!(.lst xs)):ai H Z:=λb ys e=>h b _ e λz=>by
 @xs,a:=c b z;[e]at a;&a
§DP(H:Hp)(p:R0):Prop:=∃ds:#Int,H p=!(.lst (ds.map V.int))/\∀d∈ds,0<=d/\d<60
§DP.to(s:af (del H p) H')(h:H b=!o)(n:b≠p):H' b=!o:=s _ _ (by[bR n];!h)
§Iu:af (del H p) (upd H p o):=λb u e=>by
 ¿z:b=p
 .£z;[dV]at e;&e
 .[bR z]at e;[ax z];!e
§af.jE(a:af (del H p) H')(b:af (del H' p) d):af (del H p) d:=λc o e=>by
 ¿z:c=p
 .£z;[dV]at e;&e
 .!b _ _ (by[bR z];!a _ _ e)
§af.sd(a:af H H')(b:af (del H' p) d):af (del H p) d:=λc o e=>by
 ¿z:c=p
 .£z;[dV]at e;&e
 .!b _ _ (by[bR z]at e ⊢;!a _ _ e)
§p4(x y:R9):(x++y).length=x.length+y.length:=by
 ¤(x.cps++y.cps).size=_;[Array.size_append];rfl
§E6(y v:V)(h:∀x∈kvs,x.1≠k):pG kvs k y v=kvs++[(k,y,v)]:=by
 ¶pG;[lU h,qB °]
§bH(js:#Nat):Sd->Nat
 |none=>js.length
 |some (i,b)=>js.idxOf i+if b then 1 else 0
§Me(js:#Nat)(b e:Sd):#Nat:=(js.drop (bH js b)).take (bH js e - bH js b)
§rR(nk:Nat->#Key)(js:#Nat)(kvs:#(KD×V×V)):Prop:=kvs.length=js.length/\∀i∈js,vG kvs (.tup (nk i))=!(.int ((js.idxOf i:Nat):Int))
§pN(js:#Nat)(d:Sd):Prop:=∀i b,d=!(i,b)->i∈js
§Inj(nk:Nat->#Key)(js:#Nat):Prop:=∀i∈js,∀j∈js,nk i=nk j->i=j
§An{js:#Nat}(nd:js.Nodup){j i:Nat}(h:js[j]?=!i):js.idxOf i=j:=by
 @h1,h2:=qk.mp h;[←h2];!List.Nodup.idxOf_getElem nd j h1
§JG(h:pN js d):bH js d<=js.length:=by
 match d,h with
 |none,_=>!qe _
 |some (i,b),h =>
  have:=bv (h i b rfl);¤js.idxOf i+(if b then 1 else 0)<=_
  split <;> ¥
theorem JY:∀{kvs:#(KD×V×V)} {js:#Nat},jU nk G kvs js->kvs.length=js.length
 |[],[],_=>rfl
 |[],_::_,h=>h.elim
 |_::_,[],h=>h.elim
 |_::_,_::_,h=>by[zd,zd,JY h.2]
theorem G6:∀{kvs:#(KD×V×V)} {js:#Nat},jU nk G kvs js->kvs.map (·.1)=js.map λi=>KD.tup (nk i)
 |[],[],_=>rfl
 |[],_::_,h=>h.elim
 |_::_,[],h=>h.elim
 |_::_,_::_,h=>by[zn,zn,G6 h.2,h.1.1]
§Bn{H:Hp}{q:R0}{xs:#V}{ds:#RY}(e:H q=!(.tup xs))(h:cx H xs ds)(ok:∀d∈ds,d.canLay0=¶/\sk d d=¶/\d.depth<=4):lT H (.ref q):=by
 ?{.tuple ds,.tup e h,dD λd a=>(ok d a).1,rr λd a=>(ok d a).2.1,?_};#:=h9 λd a=>(ok d a).2.2;¤PyData.depthAll ds+1<=5;¥
abbrev LL(d:RY):Prop:=d.canLay0=¶/\sk d d=¶/\d.depth<=4
§sH(h:d.canLay0=¶/\sk d d=¶/\d.depth<=1):LL d:={h.1,h.2.1,qg h.2.2 ⋯}
§SN.eP{S:Nat->Sg}(h:SN S H v i)(W:WS S n)(hi:i<n):lT H v:=by
 @b,r,vn,p,kq,s,rfl,h1,h2,k,a,m,l:=h
 #f:∃d,DT H p d/\LL d:=by
  unfold sG at a
  cases q:(S i).bh with
  |none=>rw[q]at a;&a;!{.none,.aR,O,O,qv 4}
  |some j =>
   [q]at a;#:=W.back i hi j q;!{_,aM a,sH (cm (W.lay j ()).1)}
 @o,c,e:=f;?Bn (ds:=[tD (S i).pt,tD (S i).nk,o,.tuple [.int (S i).ka,.int (S i).kb,.int (S i).kc],(S i).sg,.bool (S i).lv]) h1 (.cons (aM h2) (.cons (aM k) (.cons c (.cons (.tup m (.cons (.int _) (.cons (.int _) (.cons (.int _) .nil)))) (.cons l (.cons (.bl _) .nil)))))) λd g=>?_
 ac_nf at g
 @rfl|rfl|rfl|rfl|rfl|rfl:=g
 .!sH (cm (W.lay i hi).2)
 .!sH (cm (W.lay i hi).1)
 .!e
 .!⟨O,O,jn rfl⟩
 .!⟨(W.sgn i hi).1,(W.sgn i hi).2.1,qg (W.sgn i hi).2.2 ⋯⟩
 .!⟨O,O,qv 4⟩
§oj.eP{S:Nat->Sg}{pt:#Key}(h:oj S H d v)(W:WS S n)(o:dX S n pt d):∃x,DT H v x/\LL x:=by
 match d,h,o with
 |none,h,_=>cases h;!{.none,.aR,O,O,qv 4}
 |some (i,b),⟨a,vn,e,h1,h2⟩,o =>
  £e;#l:=(W.lay i (o i b rfl).1).1;?{.tuple [tD (S i).nk,.str (FN b)],.tup h1 (.cons (aM h2) (.cons (.str _) .nil)),?_,?_,?_}
  .¤((tD (S i).nk).canLay0&&(PyData.strOk (FN b)&&true))=¶
   [show(tD (S i).nk).canLay0=¶ from l,show PyData.strOk (FN b)=¶ by &b <;> decide +kernel];rfl
  .!rr (ds:=[tD (S i).nk,.str (FN b)]) λd c=>by
    ac_nf at c
    @rfl|rfl:=c
    .!yL _
    .rfl
  .#:=ee (S i).nk
   ¤max (tD (S i).nk).depth (max 0 0)+1<=4;¥
theorem MN.eP{S:Nat->Sg}(h:MN S M H v i)(W:WS S n)(a:WK S n M m)(hi:i<m):lT H v:=by
 @b,C,D,B,vn,kq,rfl,h1,h2,e,w,k,r:=h;@A,j,y:=e.eP W (a.sd i hi).1;@f,l,p:=w.eP W (a.sd i hi).2;@g,x,u,s:=a.lay i hi
 obtain⟨dv,o,t⟩:∃dv,DT H (Mh (M i).vl) dv/\LL dv:=by
  cases q:(M i).vl with
  |none=>!{.none,.aR,O,O,qv 4}
  |some z=>!{.str z,.str z,s z q,O,qv 4}
 ?Bn (ds:=[tD (M i).pt,A,f,.str (M i).kd,dv,tD (M i).nm,.tuple [.int (M i).ka,.int (M i).kb]]) h1 (.cons (aM h2) (.cons j (.cons l (.cons (.str _) (.cons o (.cons (aM k) (.cons (.tup r (.cons (.int _) (.cons (.int _) .nil))) .nil))))))) λd c=>?_
 ac_nf at c
 @rfl|rfl|rfl|rfl|rfl|rfl|rfl:=c
 .!sH (cm g)
 .!y
 .!p
 .!sH (d7 u)
 .!t
 .!sH (cm x)
 .!sH (fF _ _)
theorem NN.eP{S:Nat->Sg}(h:NN S M H v i)(W:WS S n)(a:WK S n M m)(hi:i<m):lT H v:=by
 @b,x,y,w,vn,kq,rfl,h1,h2,e,r,k,p:=h;@u,j,t:=e.eP W (a.sd i hi).1;@f,l,o:=r.eP W (a.sd i hi).2;@g,s,q,z:=a.lay i hi;?Bn (ds:=[tD (M i).pt,u,f,.str (M i).kd,tD (M i).nm,.tuple [.int (M i).ka,.int (M i).kb]]) h1 (.cons (aM h2) (.cons j (.cons l (.cons (.str _) (.cons (aM k) (.cons (.tup p (.cons (.int _) (.cons (.int _) .nil))) .nil)))))) λd c=>?_
 ac_nf at c
 @rfl|rfl|rfl|rfl|rfl|rfl:=c
 .!sH (cm g)
 .!t
 .!o
 .!sH (d7 q)
 .!sH (cm s)
 .!sH (fF _ _)
§Rl(xs ms ns:#V)(i:Nat):#V:=if i=3 then xs else if i=4 then ms else if i=5 then ns else[]
theorem FS.eP{S:Nat->Sg}(h:FS H fa F S n M m N q vs ms ns)(i:Nat):∀z∈Rl vs ms ns i,lT H z:=by
 ¶Rl
 split
 .¢z hz
  @i,hi,g:=h.sa.mem hz;!g.eP h.ws (qo.mp hi)
 .split
  .¢z hz
   @i,hi,g:=h.ma.mem hz;!g.eP h.ws h.wm (qo.mp hi)
  .split
   .¢z hz
    @i,hi,g:=h.na.mem hz;!g.eP h.ws h.wn (qo.mp hi)
   .¢z hz;&hz
§NF(h:i∈Me js b e):i∈js:=gr (yj h)
inductive DH(vs:#V)(H:Hp)(Q:VK)(_:XK):Prop
 |mk(fa vp pt S n:_)(_:vs=[.ref fa,vp])(_:FG H fa S n)(_:GK H (.tup pt) vp)(_:Lay pt)(_:∀H' q zs,af H H'->H q=£->H' q=!(.lst zs)->AN (SN S H') zs (bM S n pt)->Q (.ref q) H')
inductive Cp(vs:#V)(H:Hp)(Q:VK)(_:XK):Prop
 |mk(fa vp pt S n:_)(_:vs=[.ref fa,vp])(_:FG H fa S n)(_:GK H (.tup pt) vp)(_:Lay pt)(_:∀H' q zs,af H H'->H q=£->H' q=!(.lst zs)->AN (NM (cj S) H') zs (aG S n pt)->Q (.ref q) H')
inductive Dc(vs:#V)(H:Hp)(Q:VK)(_:XK):Prop
 |mk(p zs nk js:_)(h0:vs=[.ref p])(h1:H p=!(.lst zs))(h2:AN (NM nk H) zs js)(h3:js.Nodup)(h4:Inj nk js)(h5:js.length<=1400)(h6:∀H' dq kvs,af H H'->H dq=£->H' dq=!(.dG kvs)->rR nk js kvs->Q (.ref dq) H')
inductive AA(vs:#V)(H:Hp)(Q:VK)(_:XK):Prop
 |mk(dq kvs S js v d:_)(h0:vs=[.ref dq,v])(h1:H dq=!(.dG kvs))(h2:rR (cj S) js kvs)(h3:oj S H d v)(h4:pN js d)(h5:Q (.int ((bH js d:Nat):Int)) H)
inductive Dh(vs:#V)(H:Hp)(Q:VK)(_:XK):Prop
 |mk(dq kvs S js vb ve b e:_)(h0:vs=[.ref dq,vb,ve])(h1:H dq=!(.dG kvs))(h2:rR (cj S) js kvs)(h3:oj S H b vb)(h4:pN js b)(h5:oj S H e ve)(h6:pN js e)(h7:∀H' q,af H H'->H' q=!(.tup [.int ((bH js b:Nat):Int),.int ((max (bH js b) (bH js e):Nat):Int)])->Q (.ref q) H')
section
variable {K:PySem.W.Frag}{vs:#V}{H:Hp}{Q:VK}{E:XK}
end
theorem Jg:∀(js:#Nat),js.Nodup->∀f l:Nat,js.filter (λk=>decide (f<=js.idxOf k/\js.idxOf k<l))=(js.drop f).take (l - f)
 |[],_,f,l=>by[List.drop_nil,List.take_nil];rfl
 |x::xs,nd,f,l=>by
  @g,c:=z6.mp nd
  #ix:∀k∈xs,(x::xs).idxOf k=xs.idxOf k+1:=λk a=>by
   #:(x==k)=¿:=by
    [beq_eq_false_iff_ne]
    !λz=>g (by[z];!a)
   [List.idxOf_cons,this];rfl
  #d:(x::xs).idxOf x=0:=List.idxOf_cons_self
  cases l with
  |zero =>
   [mw.mpr (λk _ z=>by #:=qO z;¥),Nat.zero_sub,List.take_zero]
  |succ l =>
   have tail:∀b,xs.filter (λk=>decide (b+1<=(x::xs).idxOf k/\(x::xs).idxOf k<l+1))=(xs.drop b).take (l - b):=λb=>by
    [←Jg xs c b l];?m6 λk a=>?_;[ix k a];!decide_eq_decide.mpr ()
   cases f with
   |zero =>
    [jd (by[d];!qI {qe 0,Nat.succ_pos l})];have:=tail 0
    have e:xs.filter (λk=>decide (0<=(x::xs).idxOf k/\(x::xs).idxOf k<l+1))=xs.filter (λk=>decide (0+1<=(x::xs).idxOf k/\(x::xs).idxOf k<l+1)):=m6 λk a=>by
     [ix k a];!decide_eq_decide.mpr ()
    [e,this];rfl
   |succ f =>
    [je (by[d];!λz=>absurd (qO z).1 ()),tail f,Nat.succ_sub_succ];rfl
§ib(S:Nat->Sg)(js:#Nat)(b e:Sd):#Nat:=(Me js b e).filter λi=>(S i).lv
§QS{S:Nat->Sg}(nd:js.Nodup):(js.filter λi=>(S i).lv).filter (λk=>decide (bH js b<=js.idxOf k/\js.idxOf k<max (bH js b) (bH js e)))=ib S js b e:=by
 unfold ib Me;[bw];#h:=Jg js nd (bH js b) (max (bH js b) (bH js e));[show max (bH js b) (bH js e) - bH js b=bH js e - bH js b from ()]at h;[←h,bw];!m6 λk _=>Bool.and_comm _ _
§bY(N:Nat->Mk)(q:Nat)(pt:#Key):#Nat:=(List.range q).filter λi=>decide ((N i).pt=pt)
§lO(S:Nat->Sg):Option Nat->RY
 |none=>.none
 |some k=>tD (cj S k)
§uF(S:Nat->Sg)(js:#Nat)(N:Nat->Mk)(i:Nat):RY:=.tuple [tD (N i).nm,.str (N i).kd,lO S (ib S js (N i).b (N i).e).head?]
§Kc{S:Nat->Sg}{pt:#Key}(W:WS S n)(l:WK S n N q):PyData.canLayAll0 ((bY N q pt).map (uF S (aG S n pt) N))=¶/\PyData.depthAll ((bY N q pt).map (uF S (aG S n pt) N))<=2/\PyData.eqv (.list ((bY N q pt).map (uF S (aG S n pt) N))) (.list ((bY N q pt).map (uF S (aG S n pt) N)))=¶:=by
 #c:∀i,(lO S (ib S (aG S n pt) (N i).b (N i).e).head?).canLay0=¶/\gG (lO S (ib S (aG S n pt) (N i).b (N i).e).head?)=¶/\(lO S (ib S (aG S n pt) (N i).b (N i).e).head?).depth<=1:=λi=>by
  cases h:(ib S (aG S n pt) (N i).b (N i).e).head? with
  |none=>!{O,O,qv 1}
  |some k =>
   have j:k∈aG S n pt:=NF (zk.mp (bx h)).1;!{(W.lay k (mK W j)).1,mN _,ee _}
 ?{dD λd a=>?_,h9 λd a=>?_,OM λd a=>?_}
 .@i,hi,rfl:=qf.mp a
  have hi:=qo.mp (zk.mp hi).1;@_,f,g,_:=l.lay i hi;¤((tD (N i).nm).canLay0&&(PyData.strOk (N i).kd&&((lO S _).canLay0&&true)))=¶;[show(tD (N i).nm).canLay0=¶ from f,g,(c i).1];rfl
 .@i,hi,rfl:=qf.mp a
  have h1:=ee (N i).nm;have h2:=(c i).2.2;¤max (tD (N i).nm).depth (max 0 (max (lO S _).depth 0))+1<=2;¥
 .@i,hi,rfl:=qf.mp a
  [uF,gG];?pQ λd a=>?_
  ac_nf at a
  @rfl|rfl|rfl:=a
  .!mN _
  .rfl
  .!(c i).2.1
theorem cx.len:∀{xs:#V} {ds:#RY},cx H xs ds->xs.length=ds.length
 |_,_,.nil=>rfl
 |_,_,.cons _ t=>by[zd,zd,cx.len t]
inductive Dw(vs:#V)(H:Hp)(Q:VK)(_:XK):Prop
 |mk(fa vp pt S n:_)(_:vs=[.ref fa,vp])(_:FG H fa S n)(_:GK H (.tup pt) vp)(_:Lay pt)(_:∀H' q zs,af H H'->H q=£->H' q=!(.lst zs)->AN (NM (cj S) H') zs (bC S n pt)->Q (.ref q) H')
inductive C_(vs:#V)(H:Hp)(Q:VK)(_:XK):Prop
 |mk(v S N i:_)(_:vs=[v])(_:NN S N H v i)(_:∀kv,DT H kv (.tuple [.int (N i).ka,.int (N i).kb])->Q kv H)
inductive Ex(vs:#V)(H:Hp)(Q:VK)(_:XK):Prop
 |mk(fa F S n M m N q xs ms ns vp pt:_)(h0:vs=[.ref fa,vp])(h1:FS H fa F S n M m N q xs ms ns)(h2:GK H (.tup pt) vp)(h3:Lay pt)(h4:∀H' qq zs,af H H'->H qq=£->H' qq=!(.lst zs)->cx H' zs ((bY N q pt).map (uF S (aG S n pt) N))->Q (.ref qq) H')
section
variable {K:PySem.W.Frag}{vs:#V}{H:Hp}{Q:VK}{E:XK}
end
§aJ(M:Nat->Mk)(m:Nat)(pt:#Key):#Nat:=(List.range m).filter λi=>decide ((M i).pt=pt)
§yp(js:#Nat)(k:Mk)(p:Nat):Bool:=decide (bH js k.b<=p/\p<max (bH js k.b) (bH js k.e))
§tell(M:Nat->Mk)(js:#Nat)(l:#Nat)(kd:R9)(p:Nat):Option Nat:=l.foldl (λacc i=>if(M i).kd=kd/\yp js (M i) p=¶ then some i else acc) none
§kinds(M:Nat->Mk)(l:#Nat):#R9:=l.foldl (λks i=>if(M i).kd∈ks then ks else ks++[(M i).kd]) []
§JQ{kd:R9}:tell M js (l++[i]) kd p=if(M i).kd=kd/\yp js (M i) p=¶ then some i else tell M js l kd p:=by
 ¶tell;[jz];rfl
§Jy{M:Nat->Mk}{l:#Nat}{i:Nat}:kinds M (l++[i])=if(M i).kd∈kinds M l then kinds M l else kinds M l++[(M i).kd]:=by
 ¶kinds;[jz];rfl
theorem K4{M:Nat->Mk}:∀(l:#Nat) (ks:#R9),ks.Nodup->(l.foldl (λks i=>if(M i).kd∈ks then ks else ks++[(M i).kd]) ks).Nodup
 |[],_,h=>h
 |i::l,ks,h=>by
  ?K4 l _ ?_;¤(if(M i).kd∈ks then ks else ks++[(M i).kd]).Nodup
  ¿z:(M i).kd∈ks
  .[qF z];!h
  .[qB z]
   ?List.nodup_append.mpr {h,by simp,λx a y b e=>?_};[qx.mp b]at e;!z (e▸a)
theorem vM{M:Nat->Mk}:∀(l:#Nat) (ks:#R9),(l.foldl (λks i=>if(M i).kd∈ks then ks else ks++[(M i).kd]) ks).length<=ks.length+l.length
 |[],_=>qe _
 |i::l,ks=>by
  ?qg (vM l _) ?_;¤(if(M i).kd∈ks then ks else ks++[(M i).kd]).length+l.length<=_
  ¿z:(M i).kd∈ks
  .[qF z,zd];¥
  .[qB z,qi,qt,zd];¥
theorem IX{M:Nat->Mk}{js:#Nat}{kd:R9}{p k:Nat}:∀(l:#Nat) (acc:Option Nat),l.foldl (λacc i=>if(M i).kd=kd/\yp js (M i) p=¶ then some i else acc) acc=!k->acc=!k\/(k∈l/\(M k).kd=kd)
 |[],_,h=>.inl h
 |i::l,acc,h=>by
  @z|z:=IX l _ h
  .#z:(if(M i).kd=kd/\yp js (M i) p=¶ then some i else acc)=!k:=z
   ¿q:(M i).kd=kd/\yp js (M i) p=¶
   .[qF q]at z
    &z;!.inr {qm,q.1}
   .[qB q]at z
    !.inl z
  .!.inr {qy _ z.1,z.2}
§F4{kd:R9}(h:tell M js l kd p=!k):k∈l/\(M k).kd=kd:=by
 @z|z:=IX l none h
 .&z
 .!z
theorem Gm{M:Nat->Mk}{js:#Nat}{kd:R9}{p:Nat}:∀(l:#Nat) (acc:Option Nat),(∀i∈l,(M i).kd≠kd)->l.foldl (λacc i=>if(M i).kd=kd/\yp js (M i) p=¶ then some i else acc) acc=acc
 |[],_,_=>rfl
 |i::l,acc,h=>by
  [j8,qB λz=>h i qm z.1];!Gm l acc λj a=>h j (qy _ a)
theorem By{M:Nat->Mk}{kd:R9}:∀(l:#Nat) (ks:#R9),kd∈l.foldl (λks i=>if(M i).kd∈ks then ks else ks++[(M i).kd]) ks↔kd∈ks\/∃i∈l,(M i).kd=kd
 |[],ks=>{.inl,λh=>h.elim id λ⟨_,z,_⟩=>nomatch z}
 |i::l,ks=>by
  [j8,By l]
  ¿z:(M i).kd∈ks
  .[qF z]
   constructor
   .rintro(h|⟨j,h1,h2⟩)
    .!.inl h
    .!.inr {j,qy _ h1,h2}
   .rintro(h|⟨j,h1,h2⟩)
    .!.inl h
    .@y|y:=q0.mp h1
     .£y;!.inl (h2▸z)
     .!.inr {j,y,h2}
  .[qB z]
   constructor
   .rintro(h|⟨j,h1,h2⟩)
    .@y|y:=zh.mp h
     .!.inl y
     .!.inr ⟨i,qm,(qx.mp y).symm⟩
    .!.inr ⟨j,qy _ h1,h2⟩
   .rintro(h|⟨j,h1,h2⟩)
    .!.inl (wg _ h)
    .@y|y:=q0.mp h1
     .£y;!.inl (zy _ (qx.mpr h2.symm))
     .!.inr {j,y,h2}
§mV(ms:#V):Option Nat->V
 |none=>.aR
 |some i=>ms.getD i .aR
§iI(M:Nat->Mk)(js l:#Nat)(ms:#V)(kd:R9):#V:=(List.range js.length).map λp=>mV ms (tell M js l kd p)
§pX{M:Nat->Mk}{js l:#Nat}{ms:#V}{kd:R9}:(iI M js l ms kd).length=js.length:=by ¶iI;[qj,zo]
§KC(h:bH js (M i).b=b)(k:max (bH js (M i).b) (bH js (M i).e)=e)(n:b<=e)(j:e<=js.length):((iI M js l ms (M i).kd).take b++List.replicate (e - b) (ms.getD i .aR))++(iI M js l ms (M i).kd).drop e=iI M js (l++[i]) ms (M i).kd:=by
 apply yc;¢p
 #m:yp js (M i) p=decide (b<=p/\p<e):=by ¶yp;[k,h]
 #g:(iI M js l ms (M i).kd).length=js.length:=pX
 #d:((iI M js l ms (M i).kd).take b).length=b:=by[wv,g];¥
 #c:((iI M js l ms (M i).kd).take b++List.replicate (e - b) (ms.getD i .aR)).length=e:=by[qi,d,j6];¥
 #a:p<js.length->(iI M js (l++[i]) ms (M i).kd)[p]?=!(mV ms (if b<=p/\p<e then some i else tell M js l (M i).kd p)):=λhp=>by
  ¶iI;[qu,yq hp,jq,JQ,m]
  ¿z:b<=p/\p<e
  .[qF z,qF {O,qI z}]
  .[qB z,qB (λy=>z (qO y.2))]
 #old:p<js.length->(iI M js l ms (M i).kd)[p]?=!(mV ms (tell M js l (M i).kd p)):=λhp=>by
  ¶iI;[qu,yq hp];rfl
 ¿h1:p<b
 .[zv (by[c];¥),zv (by[d];!h1),ki h1,old (),a (),qB ()]
 .¿h2:p<e
  .[zv (by[c];!h2),ye (by[d];¥),d,List.getElem?_replicate_of_lt (),a (),qF {(),h2}]
   rfl
  .[ye (by[c];¥),c,bp,show e+(p - e)=p from ()]
   ¿f:p<js.length
   .[old f,a f,qB ()]
   .[v9 (by[g];¥),v9 (by[pX];¥)]
§Qr{kd:R9}(h:kd∉kinds M l):iI M js l ms kd=List.replicate js.length .aR:=by
 ¶iI;[List.eq_replicate_iff];?{by[qj,zo],λx a=>?_};@p,_,rfl:=qf.mp a;#:tell M js l kd p=£:=Gm l none λi hi z=>h ((By l []).mpr (.inr {i,hi,z}));[this];rfl
§IT{kd:R9}(h:(M i).kd≠kd):iI M js (l++[i]) ms kd=iI M js l ms kd:=by
 ¶iI;?yu λp _=>?_;[JQ,qB λz=>h z.1]
structure TK(M:Nat->Mk)(js l:#Nat)(ms:#V)(S:R0->¤)(Z:Hp)(kvs:#(Key×V)):Prop where
 keys:kvs.map (·.1)=(kinds M l).map .inr
 val:∀kd∈kinds M l,∃a,bO kvs (.inr kd)=!(.ref a)/\S a/\Z a=!(.lst (iI M js l ms kd))
 ne:∀kd∈kinds M l,∀kd'∈kinds M l,bO kvs (.inr kd)=bO kvs (.inr kd')->kd=kd'
§TK.same{S:R0->¤}(h:TK M js l ms S Z kvs)(s:af Z Z'):TK M js l ms S Z' kvs:={h.keys,λkd c=>let⟨a,h1,h2,b⟩:=h.val kd c;{a,h1,h2,s _ _ b},h.ne}
§TK.no{S:R0->¤}(h:TK M js l ms S Z kvs){kd:R9}:bO kvs (.inr kd)=£↔kd∉kinds M l:=by
 constructor
 .¢z c
  @a,h1,_:=h.val kd c;[z]at h1;&h1
 .¢c
  cases e:bO kvs (.inr kd) with
  |none=>rfl
  |some v =>
   exfalso;#:=(mG (kvs:=kvs) (k:=.inr kd)).trans (by[e];rfl:(bO kvs (.inr kd)).isSome=¶);@x,g,ex:=yz.mp this;#f:x.1∈kvs.map (·.1):=qf.mpr {x,g,O};[h.keys]at f;@i,b,d:=qf.mp f;[qO ex]at d;!c (Sum.inr.inj d▸b)
§TK.old{S:R0->¤}(h:TK M js l ms S Z kvs)(f:(M i).kd∈kinds M l)(e:bO kvs (.inr (M i).kd)=!(.ref a))(j:xs=iI M js (l++[i]) ms (M i).kd):TK M js (l++[i]) ms S (upd Z a (.lst xs)) kvs:=by
 #d:kinds M (l++[i])=kinds M l:=by[Jy,qF f]
 ?{by[d];!h.keys,λkd b=>?_,by[d];!h.ne};[d]at b;@c,h1,h2,g:=h.val kd b
 ¿z:(M i).kd=kd
 .£z
  [e]at h1;&h1;!{_,e,h2,by[aD,j]}
 .#k:c≠a:=λy=>z (h.ne _ f kd b (by[e,h1,y]))
  !{c,h1,h2,by[ax k,IT z];!g}
§TK.new{S:R0->¤}(h:TK M js l ms S Z kvs)(n:(M i).kd∉kinds M l)(sa:S a)(na:∀kd c,bO kvs (.inr kd)=!(.ref c)->c≠a)(o:xs=iI M js (l++[i]) ms (M i).kd)(p:Z a=!(.lst xs)):TK M js (l++[i]) ms S Z (putK kvs (.inr (M i).kd) (.ref a)):=by
 #g:kinds M (l++[i])=kinds M l++[(M i).kd]:=by[Jy,qB n]
 #k:putK kvs (.inr (M i).kd) (.ref a)=kvs++[(.inr (M i).kd,.ref a)]:=Jp _ (h.no.mpr n)
 #m:∀kd,bO (putK kvs (.inr (M i).kd) (.ref a)) (.inr kd)=if(M i).kd=kd then some (.ref a) else bO kvs (.inr kd):=λkd=>by
  [O6]
  ¿z:(M i).kd=kd
  .[qF z,qF (by[z])]
  .[qB z,qB (λy=>z (Sum.inr.inj y).symm)]
 ?{by[k,z7,h.keys,g,z7];rfl,λkd b=>?_,λkd b d f e=>?_}
 .[m]
  ¿z:(M i).kd=kd
  .[qF z,←z]
   !{a,O,sa,by[p,o]}
  .[qB z,IT z]
   [g]at b;@y|y:=zh.mp b
   .!h.val kd y
   .!absurd (qx.mp y).symm z
 .[m,m]at e
  [g]at b f
  ¿z:(M i).kd=kd
  .¿j:(M i).kd=d
   .!z.symm.trans j
   .[qF z,qB j]at e
    !absurd rfl (na d a e.symm)
  .¿j:(M i).kd=d
   .[qB z,qF j]at e
    !absurd rfl (na kd a e)
   .[qB z,qB j]at e
    @y|y:=zh.mp b
    .@y' |y':=zh.mp f
     .!h.ne kd y d y' e
     .!absurd (qx.mp y').symm j
    .!absurd (qx.mp y).symm z
theorem xq{x:V}:∀n:Nat,(List.replicate n [x]).flatten=List.replicate n x
 | 0=>rfl
 |n+1=>by[ji,jp,xq n];rfl
inductive Bw(vs:#V)(H:Hp)(Q:VK)(_:XK):Prop
 |mk(v S M i:_)(_:vs=[v])(_:MN S M H v i)(_:∀kv,DT H kv (.tuple [.int (M i).ka,.int (M i).kb])->Q kv H)
inductive oO(vs:#V)(H:Hp)(Q:VK):Prop
 |mk (fa:R0) (F:Nat->R0) (S:Nat->Sg) (n:Nat) (M:Nat->Mk) (m:Nat) (N:Nat->Mk) (q:Nat) (xs ms ns:#V) (vp:V) (pt:#Key) (rp:R0) (rv:#V) (h0:vs=[.ref fa,vp,.ref rp]) (h1:FS H fa F S n M m N q xs ms ns) (h2:GK H (.tup pt) vp) (h3:Lay pt) (h4:H rp=!(.lst rv)) (h5:AN (NM (cj S) H) rv (aG S n pt))
  (h6:∀H' tq kvs,af H H'->H tq=£->H' tq=!(.dK kvs)->TK M (aG S n pt) (aJ M m pt) ms (λa=>H a=£/\a≠tq) H' kvs->Q (.ref tq) H'):oO vs H Q
§Dz:Sp:=λvs H Q _=>oO vs H Q
section
variable {K:PySem.W.Frag}{vs:#V}{H:Hp}{Q:VK}{E:XK}
end
§pj(x:R9):#R9->#R9
 |[]=>[x]
 |y::ys=>if bT (.str x) (.str y)=¶ then x::y::ys else y::pj x ys
§fe(l:#R9):#R9:=l.foldr pj []
theorem AF(x:R9):∀l,(pj x l).Perm (x::l)
 |[]=>.refl _
 |y::ys=>by
  ¶pj
  split
  .!.refl _
  .!((AF x ys).cons y).trans (.swap x y ys)
theorem pO:∀l,(fe l).Perm l
 |[]=>.refl _
 |x::l=>(AF x _).trans ((pO l).cons x)
abbrev LM(l:#R9):Prop:=l.Pairwise λa b=>bT (.str a) (.str b)=¶
§M3(h:¬bT (.str x) (.str y)=¶)(n:x≠y):bT (.str y) (.str x)=¶:=by
 cases q:bT (.str y) (.str x) with
 |true=>rfl
 |false=>!absurd (PyData.str.inj (Bi (.str x) (.str y) rfl (by ±h) q)) n
theorem Hi{x:R9}:∀{l:#R9},LM l->x∉l->LM (pj x l)
 |[],_,_=>m3 ..
 |y::ys,h,hx=>by
  @h1,h2:=vy.mp h;¶pj
  split
  .rename_i z
   ?vy.mpr {λb a=>?_,h};@rfl|a:=q0.mp a
   .!z
   .!vR _ _ _ rfl rfl rfl z (h1 b a)
  .rename_i z
   ?vy.mpr ⟨λb a=>?_,Hi h2 λq=>hx (qy _ q)⟩;@rfl|a:=q0.mp ((AF x ys).mem_iff.mp a)
   .!M3 z λe=>hx (e▸qm)
   .!h1 b a
theorem GD:∀{l:#R9},l.Nodup->LM (fe l)
 |[],_=>.nil
 |x::l,h=>Hi (GD (z6.mp h).2) λz=>(z6.mp h).1 ((pO l).mem_iff.mp z)
theorem JU:∀{xs ys:#R9},xs.Perm ys->(xs.Pairwise λa b=>bT (.str b) (.str a)=¿)->LM ys->xs=ys
 |[],ys,p,_,_=>(List.nil_perm.mp p).symm
 |x::xs,[],p,_,_=>absurd p.length_eq (by simp)
 |x::xs,y::ys,p,hx,hy=>by
  ¿e:x=y
  .£e
   [JU ((List.perm_cons x).mp p) (vy.mp hx).2 (vy.mp hy).2]
  .#h1:y∈xs:=by
    @z|z:=q0.mp (p.mem_iff.mpr qm)
    .!absurd z.symm e
    .!z
   #h2:x∈ys:=by
    @z|z:=q0.mp (p.mem_iff.mp qm)
    .!absurd z e
    .!z
   #a1:=(vy.mp hx).1 y h1;#a2:=(vy.mp hy).1 x h2;[a2]at a1;&a1
§Ph(js:#R9):(List.range js.length).map (λi=>js.getD i "")=js:=by
 apply yc;¢i;[qu]
 ¿hi:i<js.length
 .[yq hi,qh hi]
  ¤some (js.getD i "")=_;[zm,qh hi];rfl
 .[List.getElem?_eq_none (by ±hi),List.getElem?_eq_none ()];rfl
§BW{js:#R9}{ix:#Nat}(nd:js.Nodup)(h:df (js.map .str) ix):(ix.map λi=>(js.map V.str).getD i .aR)=(fe js).map V.str:=by
 #f:ix.Perm (List.range js.length):=by #:=h.1;rwa [qj]at this
 #c:∀i∈ix,i<js.length:=λi hi=>qo.mp (f.mem_iff.mp hi)
 #k:(ix.map λi=>(js.map V.str).getD i .aR)=(ix.map λi=>js.getD i "").map V.str:=by
  [z9];?yu λi hi=>?_;¤_=V.str (js.getD i "");[zm,qu,zm,qh (c i hi)];rfl
 [k]
 congr 1
 ?JU (((f.map _).trans (.of_eq (Ph js))).trans (pO js).symm) ?_ (GD nd);#h2:=h.2;[wb]at h2 ⊢;?h2.imp_of_mem λ{a b} j g d=>?_
 #e:∀i,i∈ix->c9 (js.map .str) i=.str (js.getD i ""):=λi hi=>by
  ¶c9;[zm,qu,zm,qh (c i hi)];rfl
 [e a j,e b g]at d;!d
§GR{f:R9->Option RY}{l:#R9}{j:Nat}{kd:R9}(h:l[j]?=!kd):(l.take (j+1)).filterMap f=(l.take j).filterMap f++(f kd).toList:=by
 [qz,h,List.filterMap_append]
 cases e:f kd with
 |none=>rw[bz,List.filterMap_cons_none e];rfl
 |some d=>rw[bz,List.filterMap_cons_some e];rfl
§p8(M:Nat->Mk)(a:Bool)(k:Nat):RY:=if a then tD (M k).nm else match(M k).vl with|none=>.none|some z=>.str z
§Ff(M:Nat->Mk)(a:Bool):Option Nat->Option RY
 |none=>none
 |some k=>if(M k).vl=£ then none else some (.tuple [.str (M k).kd,p8 M a k])
§wK(M:Nat->Mk)(a:Bool)(js l:#Nat)(p:Nat):#RY:=(fe (kinds M l)).filterMap λkd=>Ff M a (tell M js l kd p)
structure jZ(nk:Nat->#Key)(f:Nat->#RY)(B:R0->¤)(Z:Hp)(kvs:#(KD×V×V))(js:#Nat):Prop where
 len:kvs.length=js.length
 ent:∀(j:Nat) e i,kvs[j]?=!e->js[j]?=!i->e.1=.tup (nk i)/\NM nk Z e.2.1 i/\∃a zs,e.2.2=.ref a/\B a/\Z a=!(.lst zs)/\cx Z zs (f i)
§jZ.to{B B':R0->¤}(h:jZ nk f B Z kvs js)(t:ai Z Z')(s:∀a zs,B a->Z a=!(.lst zs)->Z' a=!(.lst zs))(b:∀a,B a->B' a):jZ nk f B' Z' kvs js :=
 {h.len,λj e i h1 h2=>by
  @k,l,a,zs,g,c,d,m:=h.ent j e i h1 h2
  !{k,NM.ab l t,a,zs,g,b a c,s a zs c d,m.ab t}}
§jZ.same{B:R0->¤}(h:jZ nk f B Z kvs js)(s:af Z Z'):jZ nk f B Z' kvs js:=h.to s.ab (λ_ _ _ e=>s _ _ e) λ_ b=>b
§jZ.snoc{B:R0->¤}(h:jZ nk f B Z kvs js)(h2:NM nk Z k i)(m:B a)(l:Z a=!(.lst zs))(g:cx Z zs (f i)):jZ nk f B Z (kvs++[(.tup (nk i),k,.ref a)]) (js++[i]):=by
 ?{by[qi,qi,h.len];rfl,λj e i' c b=>?_}
 ¿d:j<js.length
 .[zv (by[h.len];!d)]at c
  [zv d]at b;!h.ent j e i' c b
 .[ye ()]at b
  [ye (by[h.len];¥),h.len]at c
  cases q:j - js.length with
  |zero =>
   [q]at c b;&c;&b;!⟨O,h2,a,zs,O,m,l,g⟩
  |succ x=>rw[q]at b;&b
§jZ.keys{B:R0->¤}(h:jZ nk f B Z kvs js):kvs.map (·.1)=js.map λi=>KD.tup (nk i):=by
 apply yc;¢j;[qu,qu]
 ¿b:j<js.length
 .#a:j<kvs.length:=by[h.len];!b
  [qh b,qh a];!congrArg some (h.ent j _ _ (qh a) (qh b)).1
 .[v9 (by[h.len];¥),v9 ()];rfl
§Ma(nd:js.Nodup)(inj:Inj nk js):(js.map λi=>KD.tup (nk i)).Nodup :=
 wb.mpr (nd.imp_of_mem λ{a b} c d h e=>h (inj a c b d (KD.tup.inj e)))
§jZ.get{B:R0->¤}(h:jZ nk f B Z kvs js)(nd:js.Nodup)(inj:Inj nk js)(hi:i∈js):∃a zs,vG kvs (.tup (nk i))=!(.ref a)/\B a/\Z a=!(.lst zs)/\cx Z zs (f i):=by
 @j,c:=jf hi
 #b:j<kvs.length:=by[h.len];!(qk.mp c).1
 @k,m,a,zs,g,d,e,l:=h.ent j _ i (qh b) c;?{a,zs,?_,d,e,l};[←g];!pE (by[h.keys];!Ma nd inj) (qh b) k
theorem HB:∀l:#R9,cx H (l.map V.str) (l.map .str)
 |[]=>.nil
 |x::l=>.cons (.str x) (HB l)
inductive oJ(vs:#V)(H:Hp)(Q:VK):Prop
 |mk (fa:R0) (F:Nat->R0) (S:Nat->Sg) (n:Nat) (M:Nat->Mk) (m:Nat) (N:Nat->Mk) (q:Nat) (xs ms ns:#V) (vp:V) (pt:#Key) (pl:Bool) (h0:vs=[.ref fa,vp,.int (if pl then 5 else 4)]) (h1:FS H fa F S n M m N q xs ms ns) (h2:GK H (.tup pt) vp) (h3:Lay pt) (h4:m<=63)
  (h5:∀H' tq kvs,af H H'->H tq=£->H' tq=!(.dG kvs)->jZ (cj S) (λi=>wK M pl (aG S n pt) (aJ M m pt) ((aG S n pt).idxOf i)) (λa=>H a=£/\a≠tq) H' kvs (bC S n pt)->(kvs.map (·.2.2)).Nodup->Q (.ref tq) H'):oJ vs H Q
§BU:Sp:=λvs H Q _=>oJ vs H Q
inductive oe(pl:Bool)(vs:#V)(H:Hp)(Q:VK):Prop
 |mk (fa:R0) (F:Nat->R0) (S:Nat->Sg) (n:Nat) (M:Nat->Mk) (m:Nat) (N:Nat->Mk) (q:Nat) (xs ms ns:#V) (vp:V) (pt:#Key) (h0:vs=[.ref fa,vp]) (h1:FS H fa F S n M m N q xs ms ns) (h2:GK H (.tup pt) vp) (h3:Lay pt) (h4:m<=63)
  (h5:∀H' tq kvs,af H H'->H tq=£->H' tq=!(.dG kvs)->jZ (cj S) (λi=>wK M pl (aG S n pt) (aJ M m pt) ((aG S n pt).idxOf i)) (λa=>H a=£/\a≠tq) H' kvs (bC S n pt)->(kvs.map (·.2.2)).Nodup->Q (.ref tq) H'):oe pl vs H Q
§Bl:Sp:=λvs H Q _=>oe false vs H Q
section
variable {K:PySem.W.Frag}{vs:#V}{H:Hp}{Q:VK}{E:XK}
end
abbrev gE:R0:=bB
abbrev Bb:R0:=a_
abbrev MA(H:Hp):Prop:=H cn=!(.tup [.str "",.int 0])
§FQ(H:Hp)(fa:R0)(es:#V)(rs:#Pc):Prop:=∃F:Nat->R0,Rd H fa (.dK (cE F 9))/\H (F 1)=!(.lst es)/\AL (fx H) es rs/\(∀r∈rs,uR r)/\(rs.Pairwise λa b=>bU a.ka a.kb b.ka b.kb)/\es.length<=100
§FB.fq{bs vs cs:#V}(h:FB H fa F bs vs cs rs cu k)(a:k<=100):FQ H fa vs rs:={F,h.dk,h.ev,h.fi.pc,h.fi.w,h.fi.up,qg h.fi.vl a}
§FQ.xw{es:#V}(h:FQ H fa es rs):XW (tl rs):=by
 @F,_,_,a,b,c,d:=h;!Jn b c (by[←a.1];!d)
abbrev PX:R9:=(("greatest_place":R9)++".<locals>.")++"<lambda>"
abbrev i_(H:Hp):Prop:=Tb 116 26 PX gE H
§iR(t:i_ H)(s:af (del H gE) H')(e:H b=!o)(h:∀ps,o≠.cf ps):H' b=!o:=s _ _ (by
 [bR (λz=>?_)]
 .!e
 .@ps,t:=t.cf
  [z,t]at e
  !h ps (qJ e).symm)
§zO(t:i_ H)(s:af (del H gE) H'):ai H H':=λb xs e=>iR t s e (λ_=>°)
§Ro(t:i_ H)(s:af (del H gE) H')(r:Rd H a u)(h:∀ps,u≠.cf ps):Rd H' a u:=by
 @e|⟨o,e⟩:=r
 .!.inl (iR t s e h)
 .!.inr ⟨o,iR t s e (λ_=>°)⟩
§sS(a:R0):R0->¤:=λb=>b=a\/b=gE
§D2 :Sp:=λvs H Q _=>∃fa es rs,vs=[.ref fa]/\FQ H fa es rs/\∀H' dq kvs,af H H'->H dq=£->H' dq=!(.dG kvs)->AL (EK (fx H') H') kvs (tl rs)->Q (.ref dq) H'
§Ed :Sp:=λvs H Q _=>∃e f d c ys b E p,∃C:#Key->¤,vs=[.ref e,f,.ref d]/\Rd H e (.dG c)/\AL (EK (h_ H) H) c ys/\(ys.map (·.pt)).Nodup/\(∀x∈ys,x.pt≠[])/\ys.length<=100/\Rd H d (.dG b)/\fy b E/\GK H (nd p) f/\C p/\(∀k o,gX ys k=!o->C o) ∧
 ∀H' a ws ini las,af H H'->H a=£->H' a=!(.lst ws)->AL (CN H') ws (ini++[las])->Rnd.WO (gX ys) E p ini las->ini.length<=101->(∀k∈ini++[las],C k)->Q (.ref a) H'
§E_ :Sp:=λvs H Q _=>∃a c d xs ws ls,vs=[.ref a,.ref c]/\Rd H a (.dG d)/\AL (EK (fx H) H) d xs/\(xs.map (·.pt)).Nodup/\H c=!(.lst ws)/\AL (ij H) ws ls/\ls≠[]/\(∀k∈ls,hp xs k=¶)/\i_ H ∧
 ∀H' v m,af (del H gE) H'->i_ H'->m∈ls->(∀b∈ls,¬LI xs m b)->GK H' (.tup m) v->Q v H'
abbrev IM:R9:=(("all_inner_parts":R9)++".<locals>.")++"<lambda>"
structure dj(H:Hp):Prop where
 ne:gE≠Bb
 a:i_ H
 b:Tb 156 41 IM Bb H
§s2 :R0->¤:=λb=>b=gE\/b=Bb
section
variable {H H':Hp}
theorem dj.same(t:dj H)(s:af H H'):dj H':={t.ne,t.a.same s,t.b.same s}
theorem dj.keep(t:dj H)(k:∀b u,H b=!u->((∃ps,u=.cf ps)\/∃c,u=.ext c)->H' b=!u):dj H':={t.ne,t.a.keep k,t.b.keep k}
theorem dj.cut{a:R0}{o:HO}(t:dj H)(e:H a=!o)(h1:∀ps,o≠.cf ps)(h2:∀c,o≠.ext c)(s:af (del H a) H'):dj H':={t.ne,t.a.cut e h1 h2 s,t.b.cut e h1 h2 s}
theorem dj.wr{a:R0}{o o':HO}(t:dj H)(e:H a=!o)(h1:∀ps,o≠.cf ps)(h2:∀c,o≠.ext c):dj (upd H a o'):={t.ne,t.a.wr e h1 h2,t.b.wr e h1 h2}
§dj.no(t:dj H){b:R0}(h:s2 b):∃ps,H b=!(.cf ps):=by
 @rfl|rfl:=h
 .!t.a.cf
 .!t.b.cf
§bI(t:dj H)(s:af (bP H (s2)) H')(e:H b=!o)(h:∀ps,o≠.cf ps):H' b=!o:=c_ s e λz=>by
 @ps,q:=t.no z;[q]at e;!h ps (qJ e).symm
§lN(t:dj H)(s:af (bP H (s2)) H'):ai H H':=λb xs e=>bI t s e (λ_=>°)
§Oo(t:dj H)(s:af (bP H (s2)) H')(r:Rd H a u)(h:∀ps,u≠.cf ps):Rd H' a u:=by
 @e|⟨o,e⟩:=r
 .!.inl (bI t s e h)
 .!.inr ⟨o,bI t s e (λ_=>°)⟩
theorem FB.bI{bs vs cs:#V}(h:FB H fa F bs vs cs rs cu k)(t:dj H)(s:af (bP H (s2)) H'):FB H' fa F bs vs cs rs cu k :=
 {Oo t s h.dk (λ_=>°),h.inj,λi h1 h2=>let⟨xs,e⟩:=h.rest i h1 h2;{xs,My.bI t s e (λ_=>°)},My.bI t s h.eb (λ_=>°),My.bI t s h.ev (λ_=>°),My.bI t s h.ec (λ_=>°),h.fi.ab (lN t s)}
theorem dj.free(t:dj H)(s:af (bP H (s2)) H')(t':dj H'){b:R0}(h:H' b=£):H b=£:=by
 #:=s.free h
 ¿z:s2 b
 .@ps,q:=t'.no z
  [q]at h;&h
 .[d_ z]at this;!this
§Nd(s:af H H'):af (bP H (s2)) H':=λb u e=>s _ _ (rX _ _ e)
§dj.RA(t:dj H)(s:af (del H gE) H')(a:i_ H'):dj H'/\af (bP H (s2)) H':=by
 ?{{t.ne,a,?_},λb u e=>?_}
 .#to:∀{b u},b≠gE->H b=!u->H' b=!u:=λn e=>s _ _ (by[bR n];!e)
  @e|⟨c,e1,e2⟩:=t.b
  .!.inl (to t.ne.symm e)
  .?.inr ⟨c,to t.ne.symm e1,to (λz=>?_) e2⟩
   @ps,q:=t.a.cf;[←z,e2]at q;&q
 .#d:¬s2 b:=λz=>by[dQ z]at e;&e
  [d_ d]at e;!s _ _ (by[bR λz=>d (.inl z)];!e)
§dj.Rt(t:dj H)(s:af (del H Bb) (del H' Bb))(f:Tb 156 41 IM Bb H'):dj H'/\af (bP H (s2)) H':=by
 #to:∀{b u},b≠Bb->H b=!u->H' b=!u:=λ{b u} n e=>by
  #:=s b u (by[bR n];!e);[bR n]at this;!this
 ?{{t.ne,?_,f},λb u e=>?_}
 .@e|⟨c,e1,e2⟩:=t.a
  .!.inl (to t.ne e)
  .?.inr ⟨c,to t.ne e1,to (λz=>?_) e2⟩
   @ps,q:=t.b.cf;[←z,e2]at q;&q
 .#d:¬s2 b:=λz=>by[dQ z]at e;&e
  [d_ d]at e;!to (λz=>d (.inr z)) e
end
theorem up_eq{α:Type}{lt:α->α->¤}(g:∀a b,lt a b->¬lt b a):∀{xs ys:List α},xs.Pairwise lt->ys.Pairwise lt->(∀a,a∈xs↔a∈ys)->xs=ys
 |[],ys,_,_,h=>by
  cases ys with
  |nil=>rfl
  |cons b m=>!absurd ((h b).mpr List.mem_cons_self) (by simp)
 |x::xs,[],_,_,h=>absurd ((h x).mp List.mem_cons_self) (by simp)
 |x::xs,y::ys,hx,hy,h=>by
  #f:=vy.mp hx;#i:=vy.mp hy
  #e:x=y:=by
   @z|z:=q0.mp ((h x).mp qm)
   .!z
   .@w|w:=q0.mp ((h y).mpr qm)
    .!w.symm
    .!absurd (i.1 x z) (g _ _ (f.1 y w))
  £e;#c:¬lt x x:=λz=>g _ _ z z;[up_eq g f.2 i.2 λa=>?_];#:=h a;[q0,q0]at this;constructor
  .¢d
   !(this.mp (.inr d)).resolve_left λz=>c (by #:=f.1 a d;[z]at this;!this)
  .¢d
   !(this.mpr (.inr d)).resolve_left λz=>c (by #:=i.1 a d;[z]at this;!this)
§Nu{α:Type}(js:List α)(d:α):(List.range js.length).map (λi=>js.getD i d)=js:=by
 apply yc;¢i;[qu]
 ¿hi:i<js.length
 .[yq hi,qh hi]
  ¤some (js.getD i d)=_;[zm,qh hi];rfl
 .[List.getElem?_eq_none (by ±hi),List.getElem?_eq_none ()];rfl
§QQ{α:Type}{P:V->α->¤}{D:α->RY}(d:α){vs:#V}{ls:List α}{ix:#Nat}(h:AL P vs ls)(g:df (ls.map D) ix):∃ms,AL P (ix.map λi=>vs.getD i .aR) ms/\((ms.map D).Pairwise λa b=>bT b a=¿)/\ms.Perm ls:=by
 #o:ix.Perm (List.range ls.length):=by #:=g.1;rwa [qj]at this
 #e:∀i∈ix,i<ls.length:=λi hi=>qo.mp (o.mem_iff.mp hi);?{ix.map λi=>ls.getD i d,{by[qj,qj],λm v r l j=>?_},?_,(o.map _).trans (.of_eq (Nu ls d))}
 .[qu]at l j
  @i,hi,rfl:=wj.mp l;[hi]at j;&j;#c:=e i (qw hi)
  #k:i<vs.length:=by[h.1];!c
  ?h.2 i _ _ ?_ ?_
  .[zm,qh k];rfl
  .¤ls[i]?=!(ls.getD i d)
   [zm,qh c];rfl
 .[z9]
  #h2:=g.2;[wb]at h2 ⊢;?h2.imp_of_mem λ{a b} q p f=>?_
  #n:∀i,i∈ix->c9 (ls.map D) i=D (ls.getD i d):=λi hi=>by
   #:=e i hi;¶c9;[zm,qu,zm,qh this];rfl
  [n a q,n b p]at f;!f
§NP(H:Hp)(v:V)(x:Pc):Prop:=GK H (.tup x.pt) v
theorem NP.ab(h:NP H v x)(t:ai H H'):NP H' v x:=GK.ab h t
§LW(x:Pc):RY:=.tuple [.int x.ka,.int x.kb]
§Bj(a b:Pc)(h:bU a.ka a.kb b.ka b.kb):bT (LW a) (LW b)=¶:=i6 h
§Qx(ls:#Pc):KeysAre (ls.map LW) 2:=by
 ?{dD λd c=>?_,λd c=>?_,λa e b f=>?_,λd c=>?_}
 .@x,_,rfl:=qf.mp c;rfl
 .@x,_,rfl:=qf.mp c;trivial
 .@x,_,rfl:=qf.mp e
  @y,_,rfl:=qf.mp f;rfl
 .@x,_,rfl:=qf.mp c
  !(by decide:1<=60)
§CW(P:Pc->Bool)(ms:#Pc)(x:Pc):(ms++[x]).filter P=if P x=¶ then ms.filter P++[x] else ms.filter P:=by
 [yg]
 ¿h:P x=¶
 .[qF h,jd h,yv]
 .[qB h,je h,yv,wx]
§Qh{kd:#(KD×V×V)}(h:AL (EK R H) kd xs):AL (NP H) (kd.map (·.2.1)) xs:=h.map λe x _ _ p=>p.2.1
section
variable {vs:#V}{H:Hp}{Q:VK}{E:XK}
end
§tF{ls:#(#Key)}(h:∀k∈ls,Pn k):PyData.canLayAll0 (ls.map tD)=¶/\PyData.depthAll (ls.map tD)<=1 :=
 {dD λd a=>by @k,b,rfl:=qf.mp a;!(h k b).lay,h9 λd a=>by @k,b,rfl:=qf.mp a;!ee k}
structure Ln where
 pt:#Key
 wy:R9
 nk:#Key
 bh:Option Nat
 ka:Int
 kb:Int
 lv:Bool
§cQ(L:Nat->Ln)(i:Nat):#Key:=(L i).nk
§uU(L:Nat->Ln)(i:Nat):Option Nat:=(L i).bh
§LQ(L:Nat->Ln)(i:Nat):RY:=.tuple [.int (L i).ka,.int (L i).kb]
§kC(L:Nat->Ln)(H:Hp)(v:V)(i:Nat):Prop:=∃b c vn a kq,v=.ref b/\H b=!(.tup [c,.str (L i).wy,vn,a,.ref kq,.bl (L i).lv])/\GK H (.tup (L i).pt) c/\NM (cQ L) H vn i/\GK H (kd (cQ L) (uU L i)) a/\H kq=!(.tup [.int (L i).ka,.int (L i).kb])
theorem kC.ab(h:kC L H v i)(t:ai H H'):kC L H' v i:=by
 @b,d,vn,g,kq,e,h1,h2,a,f,c:=h;!{b,d,vn,g,kq,e,t _ _ h1,h2.ab t,a.ab t,f.ab t,t _ _ c}
structure WL(L:Nat->Ln)(n:Nat):Prop where
 cI:n<=1300
 up:∀i j,i<j->j<n->bU (L i).ka (L i).kb (L j).ka (L j).kb
 inj:∀i,i<n->∀j,j<n->(L i).nk=(L j).nk->i=j
 back:∀i,i<n->∀j,(L i).bh=!j->j<i/\(L j).pt=(L i).pt/\(L j).wy=(L i).wy
 lay:∀i,i<n->Lay (L i).nk/\Lay (L i).pt
 wy:∀i,i<n->PyData.strOk (L i).wy=¶
§uw(L:Nat->Ln)(pt:#Key)(wy:R9)(i:Nat):Bool:=decide ((L i).pt=pt)&&decide ((L i).wy=wy)
§cD(L:Nat->Ln)(n:Nat)(pt:#Key)(wy:R9):#Nat:=(List.range n).filter (uw L pt wy)
§iy(L:Nat->Ln)(n:Nat)(pt:#Key)(wy:R9):#Nat:=Rga.iM (Rga.cM (uU L) (cD L n pt wy))
§bD(L:Nat->Ln)(n:Nat)(pt:#Key)(wy:R9):#Nat:=(iy L n pt wy).filter λi=>(L i).lv
§WL.uP(W:WL L n)(pt:#Key)(wy:R9):vP (cQ L) (uU L) (LQ L) (cD L n pt wy) 2:=by
 #f:vP (cQ L) (uU L) (LQ L) (List.range n) 2:=by
  ?{by[zo];#:=W.cI;¥,?_,λi hi j o e=>W.inj i (qo.mp hi) j (qo.mp o) e,Rga.gN λi hi b e=>(W.back i hi b e).1,uk λd p=>?_}
  .!(ui n).imp_of_mem λ{a b} q m h=>i6 (W.up a b h (qo.mp m))
  .@i,_,rfl:=qf.mp p
   !.inl {_,_,O}
 ?f.filter λk g c b e=>?_;@h1,h2,l:=W.back k (qo.mp g) b e;unfold uw at c ⊢;[h2,l];!c
§Fh{L:Nat->Ln}{pt:#Key}{wy:R9}{i:Nat}:uw L pt wy i=¶↔(L i).pt=pt/\(L i).wy=wy:=by
 ¶uw;[zt,decide_eq_true_iff,decide_eq_true_iff]
§MT{pt:#Key}(W:WL L n):(iy L n pt wy).length<=n:=by
 ¶iy;[Rga.gJ (W.uP pt wy).wf];¶cD;!qg (we _ _) (by[zo];!qe _)
§Ra(H:Hp)(fa:R0)(L:Nat->Ln)(n:Nat):Prop:=∃kvs a vs,Rd H fa (.dK kvs)/\bO kvs (.inr "lines")=!(.ref a)/\H a=!(.lst vs)/\AN (kC L H) vs (List.range n)/\WL L n
structure Ce where
 pt:#Key
 rw:#Key
 cl:#Key
 wd:R9
 ka:Int
 kb:Int
§iD(C:Nat->Ce)(H:Hp)(v:V)(i:Nat):Prop:=∃b c a vc kq,v=.ref b/\H b=!(.tup [c,a,vc,.str (C i).wd,.ref kq])/\GK H (.tup (C i).pt) c/\GK H (.tup (C i).rw) a/\GK H (.tup (C i).cl) vc/\H kq=!(.tup [.int (C i).ka,.int (C i).kb])
theorem iD.ab(h:iD C H v i)(t:ai H H'):iD C H' v i:=by
 @b,f,a,vc,kq,e,h1,h2,c,g,d:=h;!{b,f,a,vc,kq,e,t _ _ h1,h2.ab t,c.ab t,g.ab t,t _ _ d}
§LG(z:R9):Prop:=z = "" \/ z = "ten" \/ z = "abcdefgh" \/ z = "x"
structure LJ(C:Nat->Ce)(m:Nat):Prop where
 cI:m<=100
 up:∀i j,i<j->j<m->bU (C i).ka (C i).kb (C j).ka (C j).kb
 lay:∀i,i<m->Lay (C i).pt/\Lay (C i).rw/\Lay (C i).cl
 wd:∀i,i<m->LG (C i).wd
§Ar(W:WL L n){pt:#Key}:(bD L n pt wy).length<=1300:=by
 ¶bD;#:=we (λi=>(L i).lv) (iy L n pt wy);#h2:=MT (pt:=pt) (wy:=wy) W;#:=W.cI;¥
§pB(C:Nat->Ce)(m:Nat)(pt r c:#Key):R9:=(List.range m).foldl (λacc i=>if(C i).pt=pt/\(C i).rw=r/\(C i).cl=c then(C i).wd else acc) ""
§Ig(C:Nat->Ce)(m:Nat)(pt r c:#Key):pB C (m+1) pt r c=if(C m).pt=pt/\(C m).rw=r/\(C m).cl=c then(C m).wd else pB C m pt r c:=by
 ¶pB;[yi,jz];rfl
§xx(L:Nat->Ln)(C:Nat->Ce)(m:Nat)(pt:#Key)(a:#Nat)(r:Nat):#V:=a.map λc=>.str (pB C m pt (cQ L r) (cQ L c))
§Ik(L:Nat->Ln)(C:Nat->Ce)(m:Nat)(pt:#Key)(b:#Nat)(H0 H:Hp)(v:V)(r:Nat):Prop:=∃a,v=.ref a/\H0 a=£/\H a=!(.lst (xx L C m pt b r))
§Ik.same{pt:#Key}(h:Ik L C m pt b H0 H v r)(s:af H H'):Ik L C m pt b H0 H' v r:=by
 @a,h1,h2,c:=h;!{a,h1,h2,s _ _ c}
theorem GL:∀(kvs acc:#(KD×V×V)),(vG (putAll acc kvs) k).getD d=kvs.foldl (λa e=>if e.1=k then e.2.2 else a) ((vG acc k).getD d)
 |[],acc=>rfl
 |e::kvs,acc=>by
  ¤(vG (putAll (pG acc e.1 e.2.1 e.2.2) kvs) k).getD d=_;[GL kvs,eG,j8]
  ¿h:e.1=k
  .[qF h.symm,qF h];rfl
  .[qB (λz=>h z.symm),qB h]
theorem Lk(C:Nat->Ce)(pt r c:#Key):∀m,((List.range m).filter λi=>decide ((C i).pt=pt)).foldl (λa i=>if KD.two (C i).rw (C i).cl=KD.two r c then V.str (C i).wd else a) (V.str "")=.str (pB C m pt r c)
 | 0=>rfl
 |m+1=>by
  [yi,yg,jz,Lk C pt r c m,Ig]
  ¿hp:(C m).pt=pt
  .[List.filter_cons_of_pos (by ±hp)]
   ¤(if KD.two (C m).rw (C m).cl=KD.two r c then V.str (C m).wd else _)=_
   ¿b:(C m).rw=r/\(C m).cl=c
   .[qF (by[b.1,b.2]),qF {hp,b}]
   .[qB (λz=>b (by injection z with z1 z2;!{z1,z2})),qB (λz=>b z.2)]
  .[List.filter_cons_of_neg (by ±hp)]
   ¤V.str _=_;[qB (λz=>hp z.1)]
§yE(H:Hp)(fa:R0)(L:Nat->Ln)(n:Nat)(C:Nat->Ce)(m:Nat):Prop:=∃kvs b vs a cs,Rd H fa (.dK kvs)/\bO kvs (.inr "lines")=!(.ref b)/\H b=!(.lst vs)/\AN (kC L H) vs (List.range n)/\WL L n/\bO kvs (.inr "cells")=!(.ref a)/\H a=!(.lst cs)/\AN (iD C H) cs (List.range m)/\LJ C m
§yE.fl(h:yE H fa L n C m):Ra H fa L n:=by
 @kvs,d,vs,e,cs,h1,h2,a,c,b,_:=h;!⟨kvs,d,vs,h1,h2,a,c,b⟩
theorem yE.same(h:yE H fa L n C m)(s:af H H'):yE H' fa L n C m:=by
 @kvs,l,vs,b,cs,h1,h2,c,k,f,e,j,a,d:=h;!{kvs,l,vs,b,cs,Rd.same h1 s,h2,s _ _ c,k.imp λv i g=>g.ab s.ab,f,e,s _ _ j,a.imp λv i g=>g.ab s.ab,d}
§Ay :Sp:=λvs H Q _=>∃fa a pt wy L n,vs=[.ref fa,a,.str wy]/\Ra H fa L n/\GK H (.tup pt) a/\Lay pt/\∀H' q zs,af H H'->H q=£->H' q=!(.lst zs)->AN (NM (cQ L) H') zs (bD L n pt wy)->Q (.ref q) H'
§Bf :Sp:=λvs H Q _=>∃v C i,vs=[v]/\iD C H v i/\∀a,DT H a (.tuple [.int (C i).ka,.int (C i).kb])->Q a H
§EG :Sp:=λvs H Q _=>∃fa a pt L n C m,vs=[.ref fa,a]/\yE H fa L n C m/\GK H (.tup pt) a/\Lay pt/\∀H' dq kvs,af H H'->H dq=£->H' dq=!(.dG kvs)->(∀r c,(vG kvs (.two r c)).getD (.str "")=.str (pB C m pt r c))->Q (.ref dq) H'
§Fs :Sp:=λvs H Q _=>∃fa f pt L n C m,vs=[.ref fa,f]/\yE H fa L n C m/\GK H (.tup pt) f/\Lay pt ∧
 ∀H' q c b wp e d ws,af H H'->H q=£->H' q=!(.tup [.ref c,.ref b,.ref wp])->H c=£->H b=£->H wp=£->c≠b->c≠wp->b≠wp->H' c=!(.lst e)->H' b=!(.lst d)->H' wp=some (.lst ws)->
  AN (NM (cQ L) H') e (bD L n pt "row")->AN (NM (cQ L) H') d (bD L n pt "column")->AN (Ik L C m pt (bD L n pt "column") H H') ws (bD L n pt "row")->ws.Nodup->(∀a,V.ref a∈ws->a≠c/\a≠b/\a≠wp)->Q (.ref q) H'
section
variable {g:#Key->Option (#Key)}{E:#Key->¤}{p l l':#Key}{i i':#(#Key)}
theorem ox(h:Rnd.WO g E p i l)(h':Rnd.WO g E p i' l'):∀n:Nat,n<(i++[l]).length->n<(i'++[l']).length->(i++[l])[n]?=(i'++[l'])[n]?
 | 0,_,_=>by[←re,←re,h.hd,h'.hd]
 |n+1,a,b=>by
  #e:=ox h h' n () ();#c:=qh (show n<(i++[l]).length from ());#d:=h.ch n _ _ c (qh a);#f:=h'.ch n _ _ (e.symm.trans c) (qh b);[qh a,qh b,qJ (d.symm.trans f)]
§zA(h:Rnd.WO g E p i l)(h':Rnd.WO g E p i' l'):¬i.length<i'.length:=λz=>by
 #f:(i++[l]).length=i.length+1:=by[qi,qt]
 #d:(i'++[l']).length=i'.length+1:=by[qi,qt]
 #e:=ox h h' i.length () ();[ye (qe _),gh,zv z,qh z]at e;#e:l=i'[i.length]:=qJ e;#b:l∈i':=e▸y0 z;@y|⟨_,y|y⟩:=h.en
 .@r,a,c:=z8.mp y
  #q:=ox h h' r () ();[zv a,zv (),qh a,qh ()]at q;!jv.mp (m7.mp h'.nd) r i.length () z a (by[←qJ q,c,e])
 .!h'.Fv b y
 .!h'.out _ b y
§lK(h:Rnd.WO g E p i l)(h':Rnd.WO g E p i' l'):i=i'/\l=l':=by
 #e:i.length=i'.length:=by
  #:=zA h h';#:=zA h' h;¥
 #q:i++[l]=i'++[l']:=yc λn=>by
  ¿z:n<(i++[l]).length
  .!ox h h' n z (by[qi,qt]at z ⊢;¥)
  .[v9 (),v9 (by[qi,qt]at z ⊢;¥)]
 @a,b:=List.append_inj q e;!{a,by injection b}
end
inductive pC(xs:#Pc):Nat->(#Key->¤)->(#Key->¤)->¤
 |z:pC xs 0 (λ_=>False) λ_=>False
 |no {j E T x ini las}:pC xs j E T->xs[j]?=!x->Rnd.WO (gX xs) E x.pt ini las->las∉ini->pC xs (j+1) (λk=>E k\/k∈ini++[las]) T
 |yes {j E T x ini las r m}:pC xs j E T->xs[j]?=!x->Rnd.WO (gX xs) E x.pt ini las->(∃h:r<ini.length,ini[r]=las)->m∈ini.drop r->(∀b∈ini.drop r,¬LI xs m b)->pC xs (j+1) (λk=>E k\/k∈ini++[las]) λk=>k=m\/T k
§pC.eq(W:XW xs)(h:pC xs j E T):∀{f i:#Key->¤},pC xs j f i->E=f/\T=i:=by
 induction h with
 |z=>intro f i h';&h';!{O,O}
 |no h e w n g =>
  ¢f i h'
  cases h' with
  |no h2 c d o =>
   @rfl,rfl:=g h2;[e]at c;&c;@rfl,rfl:=lK w d;!{O,O}
  |yes h2 c d k _ _ =>
   @rfl,rfl:=g h2;[e]at c;&c;@rfl,rfl:=lK w d;@a,b:=k;!absurd (b▸y0 a) n
 |yes h e w q m x g =>
  ¢f i h'
  cases h' with
  |no h2 c d o =>
   @rfl,rfl:=g h2;[e]at c;&c;@rfl,rfl:=lK w d;@a,b:=q;!absurd (b▸y0 a) o
  |yes h2 c d k l s =>
   @rfl,rfl:=g h2;[e]at c;&c;@rfl,rfl:=lK w d;@a,b:=q;@a2,p:=k;#r:=(j4 w.nd (h₀:=a) (h₁:=a2)).mp (b.trans p.symm);£r;#:=(W.Ry _ _ (w.Fv (gr m)) (w.Fv (gr l))).resolve_right λz=>z.elim (x _ l) (s _ m);[this];!{O,O}
§vZ(w:#(#Key))(k:#Key):Bool:=w.any λx=>decide (x=k)
§IP:vZ w k=¶↔k∈w:=by ¶vZ;simp
inductive p_(ys:#Pc):Nat->(#Key->Option Bool)->¤
 |z:p_ ys 0 λk=>if k=bE then some true else none
 |s {j f x} {ini:#(#Key)} {las:#Key}:p_ ys j f->ys[j]?=!x->Rnd.WO (gX ys) (λk=>f k≠none) x.pt ini las->p_ ys (j+1) λk=>if vZ (ini++[las]) k=¶ then some ((f las).getD false) else f k
§p_.eq(h:p_ ys j f):∀{a:#Key->Option Bool},p_ ys j a->f=a:=by
 induction h with
 |z=>intro a h';&h';rfl
 |s h e w c =>
  ¢a h'
  cases h' with
  |s h2 b d =>
   have:=c h2;£this;[e]at b;&b;@rfl,rfl:=lK w d;rfl
structure ZW(ys:#Pc):Prop where
 nd:(ys.map (·.pt)).Nodup
 pt:∀x∈ys,Nm x.pt
 ou:∀x∈ys,Qn x.ou
 cI:ys.length<=100
 Ew:∀x∈ys,∀y∈ys,x=y\/bU x.ka x.kb y.ka y.kb\/bU y.ka y.kb x.ka x.kb
§ZW.Nq(W:ZW ys)(P:Pc->Bool):ZW (ys.filter P) :=
 {W.nd.sublist ((m8).map _),λx a=>W.pt x (zk.mp a).1,λx a=>W.ou x (zk.mp a).1,qg (we _ _) W.cI,λx a y b=>W.Ew x (zk.mp a).1 y (zk.mp b).1}
theorem ZW.map(W:ZW ys)(h:∀x,(F x).pt=x.pt/\(F x).ka=x.ka/\(F x).kb=x.kb)(o:∀x∈ys,Qn (F x).ou):ZW (ys.map F):=by
 #e:(ys.map F).map (·.pt)=ys.map (·.pt):=by[z9];!yu λx _=>(h x).1
 ?{e▸W.nd,λx a=>?_,λx a=>?_,by[qj];!W.cI,λx a y c=>?_}
 .@z,hz,rfl:=qf.mp a
  [(h z).1];!W.pt z hz
 .@z,hz,rfl:=qf.mp a
  !o z hz
 .@z,hz,rfl:=qf.mp a
  @u,b,rfl:=qf.mp c;[(h z).2.1,(h z).2.2,(h u).2.1,(h u).2.2];!(W.Ew z hz u b).imp (λe=>by[e]) id
§q_(f:#Key->Option Bool)(x:Pc):Pc:=if f x.pt=some true then x else{ x with ou:=[] }
§oD(f:#Key->Option Bool)(x:Pc):(q_ f x).pt=x.pt/\(q_ f x).ka=x.ka/\(q_ f x).kb=x.kb:=by ¶q_;split <;> !{O,O,O}
§zV(x:Pc):(eg T x).pt=x.pt/\(eg T x).ka=x.ka/\(eg T x).kb=x.kb:=by ¶eg;split <;> !{O,O,O}
§XW.zw(W:XW xs)(T:#Key->¤):ZW (xs.map (eg T)) :=
 ZW.map {W.nd,λx a=>(W.w x a).pt,λx a=>.inr (W.w x a).ou,W.cI,W.Ew} zV λx a=>.inr (zR (W.w x a)).ou
§p6(rs zs:#Pc):Prop:=∃E T f,pC (tl rs) (tl rs).length E T/\p_ ((tl rs).map (eg T)) (tl rs).length f/\zs=((tl rs).map (eg T)).map (q_ f)
theorem p6.zw(h:p6 rs zs)(W:XW (tl rs)):ZW zs:=by
 @E,T,f,_,_,rfl:=h;?(W.zw T).map (oD f) λx a=>?_;¶q_
 split
 .!(W.zw T).ou x a
 .!.inl rfl
theorem p6.eq(h:p6 rs zs)(W:XW (tl rs))(h':p6 rs c):zs=c:=by
 @E,T,f,a,b,rfl:=h;@g,j,i,d,e,rfl:=h';@rfl,rfl:=a.eq W d;[b.eq e]
§FE(rs:#Pc)(cu:#(#Key))(zs:#Pc)(g:#Key->Option Bool):Prop:=p6 rs zs/\p_ (zs.filter (lfp cu)) (zs.filter (lfp cu)).length g
theorem FE.eq{g g':#Key->Option Bool}(h:FE rs cu zs g)(W:XW (tl rs))(h':FE rs cu a g'):zs=a/\g=g':=by
 #:=h.1.eq W h'.1;£this;!{O,h.2.eq h'.2}
structure RN(H:Hp)(ys:#Pc)(f:#Key->Option Bool)(kr:#(KD×V×V)):Prop where
 kn:(kr.map (·.1)).Nodup
 ent:∀e∈kr,∃k,k∈nodes ys/\e.1=nd k/\GK H (nd k) e.2.1
 at_:∀k,vG kr (nd k)=(f k).map V.bl
section
variable {H H':Hp}{ys:#Pc}{f:#Key->Option Bool}{kr:#(KD×V×V)}
theorem RN.ab(h:RN H ys f kr)(t:ai H H'):RN H' ys f kr:={h.kn,λe b=>let⟨k,h1,h2,a⟩:=h.ent e b;{k,h1,h2,a.ab t},h.at_}
§RN.cI(h:RN H ys f kr)(d:ys.length<=100):kr.length<=201:=by
 #:=HP (kr.map (·.1)) ((nodes ys).map My.nd) h.kn λa c=>by
  @e,b,rfl:=qf.mp c;@k,h1,h2,_:=h.ent e b;!qf.mpr {k,h1,h2.symm}
 [qj,qj]at this;unfold nodes at this;[zd,qi,qj,qj]at this;¥
§RN.put(h:RN H ys f kr){k:#Key}{y:V}(c:Bool)(m:k∈nodes ys)(g:GK H (My.nd k) y):RN H ys (λa=>if a=k then some c else f a) (pG kr (My.nd k) y (.bl c)) where
 kn:=QO h.kn _ _ _
 ent:=λe d=>by
  @rfl|⟨e',he',h1,h2⟩:=Kt d
  .!⟨k,m,O,g⟩
  .@l,i,j,b:=h.ent e' he'
   !{l,i,h1.symm.trans j,by[←h2];!b}
 at_:=λa=>by
  [eG];¤_=(if a=k then some c else f a).map V.bl
  ¿z:a=k
  .£z;[qF rfl,qF rfl];rfl
  .[qB (λy=>z (o8 y)),qB z];!h.at_ a
§RN.sn(h:RN H ys f kr):fy kr (λk=>f k≠none):=λk=>by
 ¤_↔f k≠none;[h.at_ k]
 cases q:f k with
 |none=>!{λz=>absurd z qr,λz=>absurd rfl z}
 |some b=>!{(λ_=>°),λ_=>rfl}
§RN.one(g:GK H (.tup bE) y):RN H ys (λk=>if k=bE then some true else none) [((.tup bE,y,.bl true):KD×V×V)] where
 kn:=z6.mpr {°,vi}
 ent:=λe c=>by[qx.mp c];!{bE,qm,O,g}
 at_:=λk=>by
  #h:=eG ([]:#(KD×V×V)) (.tup bE) (My.nd k) y (.bl true);[show pG ([]:#(KD×V×V)) (.tup bE) y (.bl true)=[(.tup bE,y,.bl true)] from rfl]at h;[h];¤_=(if k=bE then some true else none:Option Bool).map V.bl
  ¿z:k=bE
  .[qF z,qF (by[z];rfl)];rfl
  .[qB z,qB (λq:My.nd k=KD.tup bE=>z (o8 (a:=k) (b:=bE) q))];rfl
end
structure p7(zs:#Pc)(G:#Key->¤)(p:#Key)(l:#Pc):Prop where
 up:l.Pairwise λa b=>bU a.ka a.kb b.ka b.kb
 mem:∀x,x∈l↔(x∈zs/\x.ou=p/\G x.pt)
§p7.eq(h:p7 zs G p l)(g:p7 zs G p m):l=m :=
 up_eq (lt:=λa b:Pc=>bU a.ka a.kb b.ka b.kb) (λa b h1 h2=>by unfold bU at h1 h2;¥) h.up g.up λx=>(h.mem x).trans (g.mem x).symm
open Classical in
noncomputable def E2(G:#Key->¤)(p:#Key)(x:Pc):Bool:=decide (x.ou=p/\G x.pt)
§xC:E2 G p x=¶↔(x.ou=p/\G x.pt):=by ¶E2;simp
§Cm(h:¬(x.ou=p/\G x.pt)):E2 G p x=¿:=gj.mpr λz=>h (xC.mp z)
§OK{zs ms:#Pc}{G:#Key->¤}{p:#Key}(c:ms.Pairwise λa b=>bU a.ka a.kb b.ka b.kb)(d:∀x,x∈ms↔x∈zs):p7 zs G p (ms.filter (E2 G p)) :=
 {c.sublist m8,λx=>by[zk,d,xC]}
§Nv{zs:#Pc}(W:ZW zs){D:Pc->RY}(f:∀a b:Pc,bU a.ka a.kb b.ka b.kb->bT (D a) (D b)=¶){ms:#Pc}(c:(ms.map D).Pairwise λa b=>bT b a=¿)(hn:ms.Nodup)(d:∀x∈ms,x∈zs):ms.Pairwise λa b=>bU a.ka a.kb b.ka b.kb:=by
 #c:=wb.mp c;?List.Pairwise.imp_of_mem (λ{a b} i g h=>?_) (c.and (m7.mp hn));@e|e|e:=W.Ew a (d a i) b (d b g)
 .!absurd e h.2
 .!e
 .[f _ _ e]at h;!absurd h.1 Bool.true_eq_false.mp
structure pF(G:#Key->¤)(ms:#Pc)(H0 H:Hp)(dq:R0)(kvs:#(KD×V×V)):Prop where
 has:H dq=!(.dG kvs)
 each:∀p,(vG kvs (nd p)=£/\ms.filter (E2 G p)=[])\/∃q vs,vG kvs (nd p)=!(.ref q)/\H q=!(.lst vs)/\AL (NP H) vs (ms.filter (E2 G p))/\H0 q=£
 inj:∀k k' q,vG kvs k=!(.ref q)->vG kvs k'=!(.ref q)->k=k'
 live:∀k q,vG kvs k=!(.ref q)->∃xs,H q=!(.lst xs)
section
variable {ms:#Pc}{G:#Key->¤}{H0 H H':Hp}{dq q:R0}{kvs:#(KD×V×V)}{x:Pc}{vn vk:V}{vs:#V}
§pF.same(h:pF G ms H0 H dq kvs)(s:af H H'):pF G ms H0 H' dq kvs where
 has:=s _ _ h.has
 each:=λk=>by
  @z|⟨q,vs,h1,h2,h3,h4⟩:=h.each k
  .!.inl z
  .!.inr ⟨q,vs,h1,s _ _ h2,h3.imp λv i g=>NP.ab g s.ab,h4⟩
 inj:=h.inj
 live:=λk q e=>let⟨xs,z⟩:=h.live k q e;{xs,s _ _ z}
§pF.skip(h:pF G ms H0 H dq kvs)(a:¬G x.pt):pF G (ms++[x]) H0 H dq kvs :=
 {h.has,λp=>by[CW,qB (by[Cm λz=>a z.2];!qr)];!h.each p,h.inj,h.live}
§pF.old(h:pF G ms H0 H dq kvs)(l:G x.pt)(e:vG kvs (nd x.ou)=!(.ref q))(eq:H q=!(.lst vs))(n:NP H vn x):pF G (ms++[x]) H0 (upd H q (.lst (vs++[vn]))) dq kvs where
 has:=by[ax (λz=>by[←z,h.has]at eq;&eq)];!h.has
 inj:=h.inj
 live:=λk a m=>by
  ¿z:a=q
  .£z;!{_,aD}
  .@xs,y:=h.live k a m
   !{xs,by[ax z];!y}
 each:=λk=>by
  #j:ai H (upd H q (.lst (vs++[vn]))):=ai.wl eq;[CW]
  ¿c:x.ou=k
  .£c
   [qF (xC.mpr {O,l})];@⟨z,_⟩|⟨a,b,h1,h2,d,f⟩:=h.each x.ou
   .[z]at e;&e
   .[e]at h1
    &h1;[eq]at h2;&h2;!.inr {q,_,e,aD,(d.snoc n).imp λv i g=>NP.ab g j,f}
  .[qB (by[Cm λz=>c z.1];!qr)]
   @z|⟨a,b,h1,h2,d,f⟩:=h.each k
   .!.inl z
   .?.inr ⟨a,b,h1,?_,d.imp λv i g=>NP.ab g j,f⟩
    #nq:a≠q:=λz=>c (o8 (h.inj _ _ q e (by[←z];!h1)))
    [ax nq];!h2
§pF.first(h:pF G ms H0 H dq kvs)(t:G x.pt)(e:vG kvs (nd x.ou)=£)(m:H0 q=£)(eq:H q=!(.lst []))(b:∀k,vG kvs k≠some (.ref q))(u:NP H vn x):pF G (ms++[x]) H0 (upd (upd H dq (.dG (pG kvs (nd x.ou) vk (.ref q)))) q (.lst [vn])) dq (pG kvs (nd x.ou) vk (.ref q)) where
 has:=by[ax (λz=>by[←z,h.has]at eq;&eq),aD]
 inj:=λk o a h1 h2=>by
  [eG]at h1 h2
  ¿p:k=nd x.ou
  .¿f:o=nd x.ou
   .[p,f]
   .[qF p]at h1
    [qB f]at h2;&h1;!absurd h2 (b o)
  .[qB p]at h1
   ¿f:o=nd x.ou
   .[qF f]at h2
    &h2;!absurd h1 (b k)
   .[qB f]at h2
    !h.inj _ _ _ h1 h2
 live:=λk a j=>by
  ¿z:a=q
  .£z;!{_,aD}
  .[eG]at j
   ¿c:k=nd x.ou
   .[qF c]at j
    &j;!absurd rfl z
   .[qB c]at j
    @xs,y:=h.live k a j
    #n:a≠dq:=λz=>by[z,h.has]at y;&y
    !{xs,by[ax z,ax n];!y}
 each:=λk=>by
  #nq:q≠dq:=λz=>by[z,h.has]at eq;&eq
  #s:ai H (upd H dq (.dG (pG kvs (nd x.ou) vk (.ref q)))):=ai.wd h.has
  #l:(upd H dq (.dG (pG kvs (nd x.ou) vk (.ref q)))) q=!(.lst []):=by[ax nq];!eq
  #r:=s.trans (ai.wl (o':=.lst [vn]) l);[CW,eG]
  ¿c:x.ou=k
  .£c
   [qF rfl,qF (xC.mpr {O,t})];@⟨_,z⟩|⟨a,d,h1,_⟩:=h.each x.ou
   .[z]
    !.inr ⟨q,[vn],O,aD,.cons (u.ab r) .nil,m⟩
   .[e]at h1;&h1
  .[qB (λz:nd k=nd x.ou=>c (o8 z.symm)),qB (show ¬E2 G k x=¶ by[Cm λz=>c z.1];!qr)]
   @z|⟨a,d,h1,h2,h3,h4⟩:=h.each k
   .!.inl z
   .?.inr ⟨a,d,h1,?_,h3.imp λv i g=>NP.ab g r,h4⟩
    #w:a≠q:=λz=>b _ (z▸h1)
    #n:a≠dq:=λz=>by[z,h.has]at h2;&h2
    [ax w,ax n];!h2
end
inductive Dy(vs:#V)(H:Hp)(Q:VK)(_:XK):Prop
 |mk(tq kt xs:_)(_:vs=[.ref tq])(_:Rd H tq (.dG kt))(_:AL (EK (fx H) H) kt xs)(_:XW xs)(_:i_ H)(_:∀H' ta ku E T,af (bP H (sS tq)) H'->Rd H' tq (.dG kt)->i_ H'->H ta=£->H' ta=!(.dG ku)->pC xs xs.length E T->SM ku T->Q (.ref ta) H')
inductive DD(vs:#V)(H:Hp)(Q:VK)(_:XK):Prop
 |mk(tq kt xs:_)(_:vs=[.ref tq])(_:Rd H tq (.dG kt))(_:AL (EK (fx H) H) kt xs)(_:XW xs)(_:i_ H)(_:MA H)(_:∀H' sa ks E T,af (bP H (sS tq)) H'->i_ H'->H sa=£->H' sa=!(.dG ks)->pC xs xs.length E T->AL (EK (pJ H') H') ks (xs.map (eg T))->Q (.ref sa) H')
inductive CY(vs:#V)(H:Hp)(Q:VK)(_:XK):Prop
 |mk(oa ko ys:_)(_:vs=[.ref oa])(_:Rd H oa (.dG ko))(_:AL (EK (h_ H) H) ko ys)(_:ZW ys)(_:MA H)(_:∀H' ra kr f,af (del H oa) H'->Rd H' oa (.dG ko)->H ra=£->H' ra=!(.dG kr)->RN H' ys f kr->p_ ys ys.length f->(∀x∈ys,f x.pt≠none)->Q (.ref ra) H')
inductive CB(vs:#V)(H:Hp)(Q:VK)(_:XK):Prop
 |mk(fa es rs:_)(_:vs=[.ref fa])(_:FQ H fa es rs)(_:i_ H)(_:MA H)(_:∀H' da kd zs,af (del H gE) H'->i_ H'->H da=£->H' da=!(.dG kd)->p6 rs zs->AL (EK (h_ H') H') kd zs->Q (.ref da) H')
inductive BH(vs:#V)(H:Hp)(Q:VK)(_:XK):Prop
 |mk(fa F bs es cs rs cu k da kd zs:_)(_:vs=[.ref fa,.ref da])(_:FB H fa F bs es cs rs cu k)(_:k<=100)(_:Rd H da (.dG kd))(_:AL (EK (h_ H) H) kd zs)(_:ZW zs)(_:MA H)(_:∀H' qa kq g,af (del H da) H'->Rd H' da (.dG kd)->H qa=£->H' qa=!(.dG kq)->p_ (zs.filter (lfp cu)) (zs.filter (lfp cu)).length g->fy kq (λk=>g k=!true)->Q (.ref qa) H')
§GT(g:#Key->Option Bool)(k:#Key):Prop:=g k=!true
inductive C6(vs:#V)(H:Hp)(Q:VK)(_:XK):Prop
 |mk(fa F bs es cs rs cu k:_)(_:vs=[.ref fa])(_:FB H fa F bs es cs rs cu k)(_:k<=63)(_:(tl rs).length<=62)(_:dj H)(_:MA H)(_:∀H' da kd zs g,af (bP H s2) H'->dj H'->H da=£->H' da=!(.dG kd)->FE rs cu zs g->(∀p,Pn p->(vG kd (.tup p)=£/\p7 zs (GT g) p [])\/∃q ws l,vG kd (.tup p)=!(.ref q)/\H q=£/\H' q=!(.lst ws)/\AL (NP H') ws l/\p7 zs (GT g) p l)->Q (.ref da) H')
inductive DL(vs:#V)(H:Hp)(Q:VK)(_:XK):Prop
 |mk(fa F bs es cs rs cu k vp p:_)(_:vs=[.ref fa,vp])(_:FB H fa F bs es cs rs cu k)(_:k<=63)(_:(tl rs).length<=62)(_:dj H)(_:MA H)(_:GK H (.tup p) vp)(_:Pn p)(_:∀H' q ws l zs g,af (bP H s2) H'->dj H'->H q=£->H' q=!(.lst ws)->FE rs cu zs g->AL (NP H') ws l->p7 zs (GT g) p l->Q (.ref q) H')
section
variable {vs:#V}{H:Hp}{Q:VK}{E:XK}
end
§p6.len(h:p6 rs zs):zs.length=(tl rs).length:=by
 @E,T,f,_,_,rfl:=h;[qj,qj]
§p6.of(h:p6 rs zs)(c:x∈zs):∃z∈tl rs,x.pt=z.pt/\x.ka=z.ka/\x.kb=z.kb:=by
 @E,T,f,_,_,rfl:=h;@y,d,rfl:=qf.mp c;@z,hz,rfl:=qf.mp d;#a:=oD f (eg T z);#b:=zV (T:=T) z;!{z,hz,a.1.trans b.1,a.2.1.trans b.2.1,a.2.2.trans b.2.2}
§jZ.wW{nk:Nat->#Key}{f:Nat->#RY}{B:R0->¤}{Z:Hp}{kvs:#(KD×V×V)}{js:#Nat}(h:jZ nk f B Z kvs js)(nd:(kvs.map (·.2.2)).Nodup){k:KD}{y:V}{a:R0}(g:Z a=£):((kvs++[(k,y,V.ref a)]).map (·.2.2)).Nodup:=by
 [z7];?wt.mpr {nd,m3 _ _,λx l z hz e=>?_};@t,m,rfl:=qf.mp l;[qx.mp hz]at e;@j,d:=jf m
 #i:j<js.length:=by[←h.len];!(qk.mp d).1
 @_,_,c,zs,n,_,b,_:=h.ent j t _ d (qh i);#e:t.2.2=.ref a:=e;[n]at e;&e;[g]at b;&b
§qR(a b:R9):decide (V.str a=V.str b)=decide (a=b):=by
 ¿h:a=b
 .[h,qI rfl,qI rfl]
 .[decide_eq_false h,decide_eq_false λz=>h (by injection z)]
§P8{α:Type}(x:α)(xs:List α):l8 (x::xs) 0=!x:=by
 ¶l8
 #e:uA (x::xs).length 0=some 0:=by
  ¶uA;[zd,qF (),qF ()];rfl
 [e];rfl
§uQ(H:Hp)(v:V):Prop:=∃p,GK H (.tup p) v/\Pn p
theorem uQ.ab(h:uQ H v)(t:ai H H'):uQ H' v:=let⟨p,g,q⟩:=h;{p,g.ab t,q}
theorem vJ{α:Type}{P:V->α->¤}:∀{ys:#V},(∀y∈ys,∃k,P y k)->∃ks:List α,ks.length=ys.length/\∀(m:Nat) y k,ys[m]?=!y->ks[m]?=!k->P y k
 |[],_=>{[],O,λm y k z=>by simp at z}
 |y::ys,h=>by
  @k,c:=h y qm;@ks,a1,a2:=vJ λz hz=>h z (qy _ hz);?{k::ks,by[zd,zd,a1],λm z j b a=>?_}
  cases m with
  |zero=>cases b;&a;!c
  |succ m=>!a2 m z j (by ±b) (by ±a)
§LX(H:Hp)(v:V)(a:Int×Int):Prop:=∃b d p h t y c,v=.ref b/\H b=!(.tup [d,.str h,.str t,.bl y,.ref c])/\GK H (.tup p) d/\Pn p/\H c=!(.tup [.int a.1,.int a.2])/\PyData.strOk h=¶/\PyData.strOk t=¶
§LR(H:Hp)(v:V):Prop:=∃a,LX H v a
theorem LX.ab(h:LX H v a)(s:ai H H'):LX H' v a:=by
 @b,i,p,x,t,y,c,e,h1,h2,d,f,g:=h;!{b,i,p,x,t,y,c,e,s _ _ h1,h2.ab s,d,s _ _ f,g}
theorem LR.ab(h:LR H v)(s:ai H H'):LR H' v:=let⟨a,g⟩:=h;{a,g.ab s}
§mH(d:RY):Prop:=(∃z:R9,d=.str z/\z.length<=10)\/(∃w:R9,d=.tuple [.str "picture",.str w]/\w.length<=10)\/∃p,d=.tuple [.str "refer",tD p]/\Pn p
structure DZ where
 S:Nat->Sg
 n:Nat
 M:Nat->Mk
 m:Nat
 N:Nat->Mk
 q:Nat
 L:Nat->Ln
 a:Nat
 C:Nat->Ce
 b:Nat
 rs:#Pc
 cu:#(#Key)
structure FZ(H:Hp)(fa:R0)(F:Nat->R0)(d:DZ):Prop where
 fs:∃xs ms ns,FS H fa F d.S d.n d.M d.m d.N d.q xs ms ns
 hm:d.m<=63
 fb:∃bs es cs k,FB H fa F bs es cs d.rs d.cu k/\k<=63/\(tl d.rs).length<=62
 lv:∃ys,H (F 8)=!(.lst ys)/\(∀y∈ys,LR H y)/\ys.length<=45
 tb:yE H fa d.L d.a d.C d.b
 sg:∀i,i<d.n->mH (d.S i).sg
§FZ.kp(h:FZ H fa F d)(k:∀b o,H b=!o->(∀ps,o≠.cf ps)->H' b=!o):FZ H' fa F d:=by
 #t:ai H H':=λb xs e=>k _ _ e λ_=>°;#c:∀{b xs},H b=!(.lst xs)->H' b=!(.lst xs):=λe=>k _ _ e λ_=>°
 #kr:∀{a kvs},Rd H a (.dK kvs)->Rd H' a (.dK kvs):=λr=>by
  @e|⟨o,e⟩:=r
  .!.inl (k _ _ e λ_=>°)
  .!.inr ⟨o,k _ _ e λ_=>°⟩
 ?⟨?_,h.hm,?_,?_,?_,h.sg⟩
 .@xs,ms,ns,g:=h.fs
  !{xs,ms,ns,g.to t (kr g.dk) λi _ xs e=>c e}
 .@bs,es,cs,j,g,h1,h2:=h.fb
  !{bs,es,cs,j,{kr g.dk,g.inj,λi h1 h2=>let⟨xs,e⟩:=g.rest i h1 h2;{xs,c e},c g.eb,c g.ev,c g.ec,g.fi.ab t},h1,h2}
 .@ys,e,h1,h2:=h.lv
  !{ys,c e,λy m=>(h1 y m).ab t,h2}
 .@kvs,x,vs,l,cs,h1,h2,n,w,s,q,u,f,p:=h.tb
  !{kvs,x,vs,l,cs,kr h1,h2,c n,w.imp λv i g=>kC.ab g t,s,q,c u,f.imp λv i g=>iD.ab g t,p}
§FZ.same(h:FZ H fa F d)(s:af H H'):FZ H' fa F d:=h.kp λb o e _=>s _ _ e
theorem FZ.xw(h:FZ H fa F d):XW (tl d.rs):=let⟨_,_,_,_,g,h1,_⟩:=h.fb;(g.fq ()).xw
§ic(i:Nat):R9:=Str.ofString (toString (i:Int))
§pI(z:R9)(i:Nat):R9:=if z = "" then ic i else((Str.empty++z)++".")++ic i
§subs(z:R9):Nat->#Pc->#(#Key×R9)
 |_,[]=>[]
 |i,x::l=>(x.pt,pI z (i+1))::subs z (i+1) l
theorem sr(z:R9):∀(l:#Pc) (i m:Nat),(subs z i l)[m]?=l[m]?.map λx=>(x.pt,pI z (i+m+1))
 |[],_,_=>by[show subs z _ []=[] from rfl];rfl
 |x::l,i,0=>rfl
 |x::l,i,m+1=>by
  ¤(subs z (i+1) l)[m]?=l[m]?.map _;[sr z l (i+1) m,show i+1+m+1=i+(m+1)+1 from ()]
theorem jM(z:R9):∀(l:#Pc) (i:Nat),(subs z i l).length=l.length
 |[],_=>rfl
 |_::l,i=>congrArg (·+1) (jM z l (i+1))
theorem Ju(z:R9):∀(l:#Pc) (i:Nat),(subs z i l).map (·.1)=l.map (·.pt)
 |[],_=>rfl
 |_::l,i=>congrArg (_::·) (Ju z l (i+1))
inductive Wk(zs:#Pc)(G:#Key->¤):#(#Key×R9)->#(#Key×R9)->¤
 |nil:Wk zs G [] []
 |cons {p z st l out}:p7 zs G p l->Wk zs G (subs z 0 l++st) out->Wk zs G ((p,z)::st) ((p,z)::out)
theorem Wk.eq{zs:#Pc}{G:#Key->¤}{st a:#(#Key×R9)}(h:Wk zs G st a):∀{b:#(#Key×R9)},Wk zs G st b->a=b:=by
 induction h with
 |nil=>intro b h';&h';rfl
 |cons i w c =>
  ¢b h'
  cases h' with
  |cons d e =>
   have:=i.eq d;£this;[c e]
§Nums(d:DZ)(nu:#(#Key×R9)):Prop:=∃zs g,FE d.rs d.cu zs g/\Wk zs (GT g) [(bE,"")] nu
theorem Nums.eq(h:Nums d a)(W:XW (tl d.rs))(h':Nums d b):a=b:=by
 @zs,g,h1,h2:=h;@f,g',c,e:=h';@rfl,rfl:=h1.eq W c;!h2.eq e
§TN(H:Hp)(v:V)(e:#Key×R9):Prop:=∃b a,v=.ref b/\H b=!(.tup [a,.str e.2,.bl true])/\GK H (.tup e.1) a/\Pn e.1/\e.2.length<=1000
theorem TN.ab(h:TN H v e)(t:ai H H'):TN H' v e:=by
 @b,c,d,h1,h2,a:=h;!{b,c,d,t _ _ h1,h2.ab t,a}
§mu(H:Hp)(nq:R0)(num:#Key->Option R9):Prop:=∃kvs,H nq=!(.dG kvs)/\∀p,Pn p->vG kvs (.tup p)=(num p).map V.str/\∀z,num p=!z->z.length<=1000
§mu.same(h:mu H nq num)(s:af H H'):mu H' nq num:=let⟨kvs,r,k⟩:=h;{kvs,s _ _ r,k}
§e_(nu:#(#Key×R9))(p:#Key):Option R9:=(nu.find? λe=>decide (e.1=p)).map (·.2)
§txt(num:#Key->Option R9)(d:RY)(t:R9):Prop:=d=.str t\/(∃w:R9,d=.tuple [.str "picture",.str w]/\t = "*"++w)\/∃p,d=.tuple [.str "refer",tD p]/\t = "#"++(num p).getD "?"
§Br(h:txt num d t)(g:txt num d u):t=u:=by
 @h|⟨w,h,e⟩|⟨p,h,e⟩:=h <;> @g|⟨w',g,e'⟩|⟨p',g,e'⟩:=g <;> rw[h]at g
 .injection g
 .&g
 .&g
 .&g
 .injection g with g;injection g with _ g;injection g with g _;injection g with g
  [e,e',g]
 .injection g with g;injection g with g _;injection g with g
  !absurd g ∅
 .&g
 .injection g with g;injection g with g _;injection g with g
  !absurd g ∅
 .injection g with g;injection g with _ g;injection g with g _
  [e,e',HK g]
noncomputable def tx(num:#Key->Option R9)(d:RY):R9:=Classical.epsilon (txt num d)
§x8(h:txt num d t):t=tx num d:=Br h (Classical.epsilon_spec {t,h})
theorem CA:∀{p:#Key} {xs:#V},cx H xs (p.map kP)->xs=p.map kV
 |[],_,.nil=>rfl
 |.inl i::p,_,.cons (.int _) t=>by[CA t];rfl
 |.inr z::p,_,.cons (.str _) t=>by[CA t];rfl
§HD(h:DT H v (tD p)):GK H (.tup p) v:=by
 cases h with
 |tup e t=>rw[CA t]at e;!{_,O,e}
§Ij:∀i:Nat,i<=63->(ic i).length<=3:=by
 #:∀i:Nat,i<64->(ic i).length<=3:=∅
 !λi h=>this i ()
§ED(z:R9):(Str.empty++z).length=z.length:=by[p4];!ja _
§I0(z:R9){i:Nat}(h:i<=63):(pI z i).length<=z.length+4:=by
 #nl:=Ij i h;¶pI
 split
 .¥
 .#a:((Str.empty++z)++".").length=z.length+1:=by[p4,ED];rfl
  [p4,a];¥
§wI(d:DZ)(p:#Key)(i:Nat):#RY:=wK d.M false (aG d.S d.n p) (aJ d.M d.m p) ((aG d.S d.n p).idxOf i)
§RZ(d:DZ)(p:#Key)(num:#Key->Option R9)(H:Hp)(v:V)(e:Nat×R0):Prop:=∃b vn ms,v=.ref b/\H b=!(.tup [vn,.str (tx num (d.S e.1).sg),.ref e.2])/\NM (cj d.S) H vn e.1/\H e.2=!(.lst ms)/\cx H ms (wI d p e.1)
§RZ.to(h:RZ d p num H v e)(t:ai H H')(k:∀o,H e.2=!(.lst o)->H' e.2=!(.lst o)):RZ d p num H' v e:=by
 @b,vn,ms,f,h1,h2,a,c:=h;!{b,vn,ms,f,t _ _ h1,h2.ab t,k _ a,c.ab t}
§WZ(d:DZ)(p:#Key)(H:Hp)(v:V)(e:Nat×R0):Prop:=v=.ref e.2/\H e.2=!(.lst (xx d.L d.C d.b p (bD d.L d.a p "column") e.1))
structure EP where
 b:R0
 vp:V
 q2:R0
 q3:R0
 b4:R0
 qa:R0
 qb:R0
 qc:R0
 ia:#(Nat×R0)
 wa:#(Nat×R0)
§EP.A(e:EP):#R0:=e.ia.map (·.2)
§EP.B(e:EP):#R0:=e.q2::e.q3::e.qa::e.qb::e.qc::e.wa.map (·.2)
structure EZ(d:DZ)(num:#Key->Option R9)(H:Hp)(v:V)(e:EP)(p:#Key)(z:R9):Prop where
 vb:v=.ref e.b
 tp:H e.b=!(.tup [.str z,e.vp,.ref e.q2,.ref e.q3,.ref e.b4])
 gp:GK H (.tup p) e.vp
 rw_:∃zs,H e.q2=!(.lst zs)/\AL (RZ d p num H) zs e.ia
 ri:e.ia.map (·.1)=bC d.S d.n p
 nt:∃ns,H e.q3=!(.lst ns)/\cx H ns ((bY d.N d.q p).map (uF d.S (aG d.S d.n p) d.N))
 t4:H e.b4=!(.tup [.ref e.qa,.ref e.qb,.ref e.qc])
 ra:∃zs,H e.qa=!(.lst zs)/\AN (NM (cQ d.L) H) zs (bD d.L d.a p "row")
 cb:∃zs,H e.qb=!(.lst zs)/\AN (NM (cQ d.L) H) zs (bD d.L d.a p "column")
 wc:∃ws,H e.qc=!(.lst ws)/\AL (WZ d p H) ws e.wa
 wi:e.wa.map (·.1)=bD d.L d.a p "row"
 nd:(e.A++e.B).Nodup
theorem EZ.to(h:EZ d num H v e p z)(t:ai H H')(k:∀a∈e.A++e.B,∀o,H a=!(.lst o)->H' a=!(.lst o)):EZ d num H' v e p z:=by
 #b:∀{a},a∈e.B->∀{o},H a=!(.lst o)->H' a=!(.lst o):=λ{a} f {o}=>k a (zy _ f) o;?{h.vb,t _ _ h.tp,h.gp.ab t,?_,h.ri,?_,t _ _ h.t4,?_,?_,?_,h.wi,h.nd}
 .@zs,h1,h2:=h.rw_
  !{zs,b (by simp[EP.B]) h1,h2.pf λv x _ c g=>g.to t (k _ (List.mem_append_left _ (List.mem_map.mpr {x,c,O})))}
 .@zs,h1,h2:=h.nt
  !{zs,b (by simp[EP.B]) h1,h2.ab t}
 .@zs,h1,h2:=h.ra
  !{zs,b (by simp[EP.B]) h1,h2.imp λv i g=>NM.ab g t}
 .@zs,h1,h2:=h.cb
  !{zs,b (by simp[EP.B]) h1,h2.imp λv i g=>NM.ab g t}
 .@zs,h1,h2:=h.wc
  !{zs,b (by simp[EP.B]) h1,h2.pf λv x _ c g=>{g.1,b (by simp only[EP.B,List.mem_cons,List.mem_map];!.inr (.inr (.inr (.inr (.inr {x,c,O}))))) g.2}}
§EZ.same(h:EZ d num H v e p z)(s:af H H'):EZ d num H' v e p z:=h.to s.ab λ_ _ _ q=>s _ _ q
structure DC(d:DZ)(num:#Key->Option R9)(nu:#(#Key×R9))(H0 H:Hp)(es:#V)(ps:#EP):Prop where
 len:es.length=nu.length
 iG:ps.length=nu.length
 at_:∀(m:Nat) v e x,es[m]?=!v->ps[m]?=!e->nu[m]?=!x->EZ d num H v e x.1 x.2
 nd:(ps.flatMap λe=>e.A++e.B).Nodup
 fr:∀e∈ps,∀a∈e.A++e.B,H0 a=£
§EZ.has(h:EZ d num H v e p z):∀a∈e.A++e.B,∃o,H a=!(.lst o):=λa f=>by
 @s,h1,h2:=h.rw_;@r,i,_:=h.nt;@q,m,_:=h.ra;@t,k,_:=h.cb;@n,j,l:=h.wc
 simp only[EP.A,EP.B,List.mem_append,List.mem_cons,List.mem_map]at f
 @⟨x,c,rfl⟩|rfl|rfl|rfl|rfl|rfl|⟨x,c,rfl⟩:=f
 .@v,_,b,vn,ms,_,_,_,g,_:=h2.gF c
  !{_,g}
 .!{_,h1}
 .!{_,i}
 .!{_,m}
 .!{_,k}
 .!{_,j}
 .@v,_,_,g:=l.gF c
  !{_,g}
theorem uB{P:V->Nat->¤}{R:V->Nat×R0->¤}(k:∀v i,P v i->∃a,R v (i,a)):∀{vs:#V} {js:#Nat},AL P vs js->∃l,AL R vs l/\l.map (·.1)=js
 |[],[],_=>{[],.nil,O}
 |[],_::_,h=>h.none.elim
 |_::_,[],h=>h.nothing.elim
 |v::vs,i::js,h=>by
  @l,h1,h2:=uB k h.tail;@a,b:=k v i h.head;!{(i,a)::l,.cons b h1,by[zn,h2]}
theorem Jm:∀{kvs:#(KD×V×V)} {nu:#(#Key×R9)},AL (λe x=>e.1=.tup x.1/\e.2.2=.str x.2) kvs nu->∀p,vG kvs (.tup p)=(e_ nu p).map V.str
 |[],[],_,_=>rfl
 |[],_::_,h,_=>h.none.elim
 |_::_,[],h,_=>h.nothing.elim
 |e::kvs,x::nu,h,p=>by
  #b:=h.head;#a:=Jm h.tail p;unfold vG e_ at a ⊢;[yd,yd,b.1]
  ¿z:x.1=p
  .[qI (by[z]),qI z]
   ¤some e.2.2=_;[b.2];rfl
  .[decide_eq_false λy=>z (KD.tup.inj y),decide_eq_false z]
   !a
theorem FY:∀{nu:#(#Key×R9)},(nu.map (·.1)).Nodup->∀{x:#Key×R9},x∈nu->e_ nu x.1=!x.2
 |y::nu,h,x,hx=>by
  [zn,z6]at h;¶e_;[yd];@rfl|hx:=q0.mp hx
  .[qI rfl];rfl
  .[decide_eq_false λz=>h.1 (qf.mpr {x,hx,z.symm})]
   !FY h.2 hx
§DC.snoc{es:#V}(h:DC d num nu H0 H es ps)(z:EZ d num H v e x.1 x.2)(f:∀a∈e.A++e.B,H0 a=£)(n:∀y∈ps,∀a∈y.A++y.B,a∉e.A++e.B):DC d num (nu++[x]) H0 H (es++[v]) (ps++[e]):=by
 #k:=h.len;#j:=h.iG;?{by simp[k],by simp[j],λm o p r a b c=>?_,?_,λy g=>?_}
 .¿q:m<nu.length
  .[zv ()]at a b c
   !h.at_ m o p r a b c
  .[ye ()]at a b c
   #:m - nu.length=0:=by
    #:=(qk.mp c).1;[qt]at this;¥
   [k,this]at a;[j,this]at b;[this]at c;&a;&b;&c;!z
 .[rg,List.flatMap_singleton]
  ?wt.mpr {h.nd,z.nd,λa i b l q=>?_};@y,g,i:=List.mem_flatMap.mp i;!n y g a i (q▸l)
 .@g|g:=zh.mp g
  .!h.fr y g
  .[qx.mp g];!f
theorem DC.same{es:#V}(h:DC d num nu H0 H es ps)(s:af H H'):DC d num nu H0 H' es ps:={h.len,h.iG,λm v e x a b c=>(h.at_ m v e x a b c).same s,h.nd,h.fr}
theorem DC.has{es:#V}(h:DC d num nu H0 H es ps)(c:e∈ps):∀a∈e.A++e.B,∃o,H a=!(.lst o):=by
 @m,b:=jf c;#l:=(qk.mp b).1;!(h.at_ m _ e _ (qh (by[h.len,←h.iG];!l)) b (qh (by[←h.iG];!l))).has
inductive CI(vs:#V)(H:Hp)(Q:VK)(_:XK):Prop
 |mk(a b c:_)(_:vs=[a,b,.aR,c])(_:Q (.bl true) H)
inductive E1(vs:#V)(H:Hp)(Q:VK)(_:XK):Prop
 |mk(z:_)(i:Nat)(_:vs=[.str z,.int i])(_:i<=63)(_:z.length<=900)(_:Q (.str (pI z i)) H)
inductive AU(vs:#V)(H:Hp)(Q:VK)(_:XK):Prop
 |mk(fa F d r:_)(_:vs=[.ref fa,r,.aR])(_:FZ H fa F d)(_:dj H)(_:MA H)(_:∀H' q ts nu,af (bP H s2) H'->dj H'->H q=£->H' q=!(.lst ts)->AL (TN H') ts nu->Nums d nu->nu.length<=63->(nu.map (·.1)).Nodup->Q (.ref q) H')
inductive D9(vs:#V)(H:Hp)(Q:VK)(_:XK):Prop
 |mk(nq num v d:_)(_:vs=[.ref nq,v])(_:mu H nq num)(_:DT H v d)(_:mH d)(_:∀t,txt num d t->Q (.str t) H)
inductive Ai(vs:#V)(H:Hp)(Q:VK)(_:XK):Prop
 |mk(fa F d vp p nq num:_)(_:vs=[.ref fa,vp,.ref nq])(_:FZ H fa F d)(_:GK H (.tup p) vp)(_:Pn p)(_:mu H nq num)(_:∀H' q zs ia,af H H'->H q=£->H' q=!(.lst zs)->AL (RZ d p num H') zs ia->ia.map (·.1)=bC d.S d.n p->(ia.map (·.2)).Nodup->(∀e∈ia,H e.2=£/\e.2≠q)->Q (.ref q) H')
inductive Fe(vs:#V)(H:Hp)(Q:VK)(_:XK):Prop
 |mk(fa F d nq num vp p z:_)(_:vs=[.ref fa,.ref nq,vp,.bl true])(_:FZ H fa F d)(_:GK H (.tup p) vp)(_:Pn p)(_:mu H nq num)(_:num p=!z)(_:∀H' v e,af H H'->EZ d num H' v e p z->(∀a∈e.A++e.B,H a=£)->Q v H')
inductive D6(vs:#V)(H:Hp)(Q:VK)(_:XK):Prop
 |mk(fa F d r:_)(_:vs=[.ref fa,r,.aR])(_:FZ H fa F d)(_:dj H)(_:MA H)(_:∀H' q es ps nu,af (bP H s2) H'->dj H'->H q=£->H' q=!(.lst es)->Nums d nu->nu.length<=63->(∀x∈nu,Pn x.1/\x.2.length<=1000)->DC d (e_ nu) nu H H' es ps->(∀e∈ps,q∉e.A++e.B)->Q (.ref q) H')
section
variable {vs:#V}{H:Hp}{Q:VK}{E:XK}
end
inductive iv(vs:#V)(H:Hp)(Q:VK)(_:XK):Prop
 |mk(sp ns r:_)(_:vs=[.ref sp,.ref r])(_:aA H sp (List.map V.int ns))(_:ns.length<=63)(_:H r=!(.lst [.str "ann",.str "bo"]))(_:∀H' fa F d,af H H'->FZ H' fa F d->Q (.ref fa) H')
structure Jz(A:#Pc)(D U:#(#Key)):Prop where
 nd:(D++U).Nodup
 up:∀c∈D++U,c=bE\/∃x∈A,x.pt=c/\x.ou∈D
§Jz.pn{A:#Pc}(h:Jz A D U)(b:∀x∈A,Nm x.pt)(a:c∈D++U):Pn c:=by
 @z|⟨x,hx,rfl,_⟩:=h.up c a
 .!.inl z
 .!.inr (b x hx)
§Jz.len{A:#Pc}(h:Jz A D U):D.length+U.length<=A.length+1:=by
 #:=Ea (ws:=bE::A.map (·.pt)) h.nd λc a=>by
  @z|⟨x,hx,z,_⟩:=h.up c a
  .[z];!qm
  .[←z];!qy _ (qf.mpr {x,hx,O})
 [qi,zd,qj]at this;!this
theorem rx:∀{A:#Pc},(A.map (·.pt)).Nodup->∀{x y:Pc},x∈A->y∈A->x.pt=y.pt->x=y
 |a::A,h,x,y,hx,hy,e=>by
  [zn,z6]at h;@h1|h1:=q0.mp hx <;> @h2|h2:=q0.mp hy
  .[h1,h2]
  .!(h.1 (qf.mpr ⟨y,h2,by[←e,h1]⟩)).elim
  .!(h.1 (qf.mpr ⟨x,h1,by[e,h2]⟩)).elim
  .!rx h.2 h1 h2 e
§Jz.step{A l:#Pc}(m:(A.map (·.pt)).Nodup)(q:∀x∈A,Nm x.pt)(h:Jz A D (U++[u]))(g:∀x∈l,x∈A/\x.ou=u)(p:l.Nodup):Jz A (D++[u]) (U++(l.map (·.pt)).reverse):=by
 #n:(D++[u]++U).Perm (D++(U++[u])):=by
  [yk];!List.Perm.append_left D List.perm_append_comm
 #mem:∀c,c∈D++[u]++U->c∈D++(U++[u]):=λc d=>n.mem_iff.mp d
 #o:u∉D:=λz=>by
  #:=(List.nodup_append.mp h.nd).2.2 u z u (by simp);!this rfl
 ?{?_,λc d=>?_}
 .[←yk]
  ?wt.mpr {n.nodup_iff.mpr h.nd,?_,λa k b i e=>?_}
  .?(List.reverse_perm _).nodup_iff.mpr ?_
   [List.Nodup,wb];!List.Pairwise.imp_of_mem (λ{a b} k i j e=>j (rx m (g a k).1 (g b i).1 e)) p
  .£e
   @x,f,rfl:=qf.mp (yh.mp i);@h1,h2:=g x f;@z|⟨x',hx',e,ho⟩:=h.up _ (mem _ k)
   .!(q x h1).main z
   .[rx m hx' h1 e,h2]at ho
    !o ho
 .[←yk]at d
  @d|d:=zh.mp d
  .@z|⟨x,f,e,ho⟩:=h.up c (mem c d)
   .!.inl z
   .!.inr ⟨x,f,e,wg _ ho⟩
  .@x,f,rfl:=qf.mp (yh.mp d)
   @h1,h2:=g x f;!.inr {x,h1,O,by[h2];simp}
§UN(H:Hp)(v:V)(e:#Key×R9):Prop:=∃b a,v=.ref b/\H b=!(.tup [a,.str e.2])/\GK H (.tup e.1) a
theorem UN.ab(h:UN H v e)(t:ai H H'):UN H' v e:=by
 @b,a,c,h1,h2:=h;!{b,a,c,t _ _ h1,h2.ab t}
§DW(H:Hp)(p:R0):Prop:=∃a b:Int,H p=!(.lst [.int a,.int b])
§DW.same(h:DW H p)(s:af H H'):DW H' p:=let⟨a,b,e⟩:=h;{a,b,s _ _ e}
§DW.ab(h:DW H p)(s:af (del H p) H'):ai H H':=let⟨_,_,e⟩:=h;ai.cut e s
§DW.ne(h:DW H p)(g:H q=£):q≠p:=let⟨_,_,e⟩:=h;λz=>by[z,e]at g;&g
§C2:∀r:Nat,r<8->PyData.strOk (ik "abcdefgh" none (!(1+(r:Int))))=¶/\(ik "abcdefgh" none (!(1+(r:Int)))).length<=10:=∅
§Du:∀r:Nat,r<29->∃c,l8 ("abcdefghijklmnopqrstuvwxyz .,":R9).cps.toList (r:Int)=!c/\PyData.strOk {#[c]}=¶:=by
 #:∀r:Nat,r<29->(match l8 ("abcdefghijklmnopqrstuvwxyz .,":R9).cps.toList (r:Int) with|some c=>PyData.strOk ⟨#[c]⟩|none=>false)=¶:=∅
 ¢r h;#:=this r h
 cases e:l8 ("abcdefghijklmnopqrstuvwxyz .,":R9).cps.toList (r:Int) with
 |none=>rw[e]at this;&this
 |some c=>rw[e]at this;!{c,O,this}
§K8(h1:PyData.strOk z=¶)(h2:d.canLay0=¶/\sk d d=¶/\d.depth<=1):Gc (.tuple [.str z,d]):=by
 #b:∀x∈[PyData.str z,d],x.canLay0=¶/\sk x x=¶/\x.depth<=1:=λx a=>by
  ac_nf at a
  @rfl|rfl:=a
  .!d7 h1
  .!h2
 ?⟨dD λx a=>(b x a).1,rr λx a=>(b x a).2.1,?_⟩;#:=h9 λx a=>(b x a).2.2;¤PyData.depthAll _+1<=3;¥
inductive jR(vs:#V)(H:Hp)(Q:VK)(_:XK):Prop
 |mk(d l us:_)(_:vs=[.ref d,.ref l])(_:DW H d)(_:H l=!(.lst us))(_:l≠d)(_:0<us.length)(_:us.length<1000)(_:∀H' q v bb,af (del H d) H'->DW H' d->H' q=!(.tup [v,.str (FN bb)])->v∈us->Q (.ref q) H')
inductive jT(vs:#V)(H:Hp)(Q:VK)(_:XK):Prop
 |mk(d l us:_)(_:vs=[.ref d,.ref l])(_:DW H d)(_:H l=!(.lst us))(_:l≠d)(_:0<us.length)(_:us.length<1000)(_:(∀v∈us,uQ H v))(_:∀H' v dd,af (del H d) H'->DW H' d->DT H' v dd->mH dd->Gc dd->Q v H')
inductive fV(vs:#V)(H:Hp)(Q:VK)(_:XK):Prop
 |mk(sp ns k:_)(_:vs=[.ref sp,.int k])(_:aA H sp (List.map V.int ns))(_:0<=k)(_:∀c,Q (.int c) H)
inductive iJ(vs:#V)(H:Hp)(Q:VK)(_:XK):Prop
 |mk(c b:_)(_:vs=[.int c,.bl b])(_:∀H' p,af H H'->H p=£->DW H' p->Q (.ref p) H')
inductive jS(vs:#V)(H:Hp)(Q:VK)(_:XK):Prop
 |mk(p q:_)(_:vs=[.ref p,.int q])(_:DW H p)(_:0<q)(_:q<1000)(_:∀r H',af (del H p) H'->DW H' p->0<=r->r<q->Q (.int r) H')
inductive gM(vs:#V)(H:Hp)(Q:VK)(_:XK):Prop
 |mk(sp ns:_)(_:vs=[.ref sp])(_:aA H sp (List.map V.int ns))(_:ns.length<=63)(_:dj H)(_:MA H)(_:∀H',Q (.bl true) H')
§pH:∀(H:Hp) (a:R0) (ns:#Int),ns.length<=63->(∀t∈Nj,H (Ri t)=!(.cf #[]))->(∀c∈MS,H c.1=!(.tup c.2))->aA H a (ns.map V.int)->gM [.ref a] H (λv _=>v=.bl true) λ_ _ _=>False:=λH a ns h1 h2 b d =>
 {a,ns,O,d,h1,{⋯,.inl (h2 "greatest_place" ∅),.inl (h2 "all_inner_parts" ∅)},b _ qm,λ_=>rfl}
section
variable {vs:#V}{H:Hp}{Q:VK}{E:XK}
end
structure LV(H0 H:Hp)(d f:R0)(ys:#V):Prop where
 rs:Rest H0 H (λb=>b=d\/b=f)
 dw:DW H d
 ey:H f=!(.lst ys)
 lr:∀y∈ys,LR H y
§LV.draw(h:LV H0 H d f ys)(n:f≠d)(s:af (del H d) H')(w:DW H' d):LV H0 H' d f ys :=
 {h.rs.del (.inl rfl) s,w,DP.to s h.ey n,λy a=>(h.lr y a).ab (h.dw.ab s)}
theorem LV.same(h:LV H0 H d f ys)(s:af H H'):LV H0 H' d f ys :=
 {h.rs.same s,h.dw.same s,s _ _ h.ey,λy a=>(h.lr y a).ab s.ab}
inductive gO(vs:#V)(H:Hp)(Q:VK)(_:XK):Prop
 |mk(d fa r kq F kn:_)(_:vs=[.ref d,.ref fa,.ref r,.ref kq])(_:DW H d)(_:H fa=!(.dK (cE F 9)))(_:H (F 8)=!(.lst []))(_:H r=!(.lst [.str "ann",.str "bo"]))(_:H kq=!(.lst kn))(_:0<kn.length)(_:kn.length<1000)(_:(∀v∈kn,uQ H v))(_:r≠d)(_:kq≠d)(_:F 8≠d)(_:r≠F 8)(_:kq≠F 8)(_:∀H' ys,Rest H H' (λb=>b=d\/b=F 8)->H' (F 8)=!(.lst ys)->(∀y∈ys,LR H' y)->ys.length<=45->Q .aR H')
section
variable {vs:#V}{H:Hp}{Q:VK}{E:XK}
end
§KN(H:Hp)(kn:#V):Prop:=∀(j:Nat) v,kn[j]?=!v->∃w:R9,GK H (.tup [.inr w,.inl (j:Int)]) v/\Pn [.inr w,.inl (j:Int)]
theorem KN.ab(h:KN H kn)(t:ai H H'):KN H' kn:=λj v e=>let⟨w,g,p⟩:=h j v e;{w,g.ab t,p}
§KN.np(h:KN H kn)(b:v∈kn):uQ H v:=by
 @j,a,e:=z8.mp b;@w,g,p:=h j v (by[qh a,e]);!{_,g,p}
§mL(h:Rest H Z X)(a:∀b,X b->∀xs,H b≠some (.tup xs)):ai H Z:=λb ys e=>h b _ e λz=>a b z ys e
abbrev n_:HO:=.lst [.str "ann",.str "bo"]
inductive iL(vs:#V)(H:Hp)(Q:VK)(_:XK):Prop
 |mk(d fa r F:_)(_:vs=[.ref d,.ref fa,.ref r])(_:DW H d)(_:H fa=!(.dK (cE F 9)))(_:H (F 0)=!(.lst []))(_:H (F 1)=!(.lst []))(_:H (F 2)=!(.lst []))(_:H r=!n_)(_:r≠d)(_:(∀i,i<9->F i≠d/\r≠F i))(_:(∀i,i<9->∀j,j<9->F i=F j->i=j))(_:∀H' kq kn bs es cs rs cu,Rest H H' (λb=>b=d\/b=F 0\/b=F 1\/b=F 2)->H kq=£->H' kq=!(.lst kn)->KN H' kn->0<kn.length->kn.length<=15->H' (F 0)=!(.lst bs)->H' (F 1)=!(.lst es)->H' (F 2)=!(.lst cs)->ti H' bs es cs rs cu 60->Q (.ref kq) H')
§u_(H:Hp)(kvs:#(KD×V×V)):Prop:=∀e∈kvs,∃p,Pn p/\e.1=.tup p/\GK H (.tup p) e.2.1
theorem u_.ab(h:u_ H kvs)(t:ai H H'):u_ H' kvs:=λe d=>let⟨p,a,b,c⟩:=h e d;{p,a,b,c.ab t}
§xy(S:Nat->Sg)(n:Nat)(H:Hp)(kvs:#(KD×V×V)):Prop:=u_ H kvs/\∀k u,vG kvs k=!u->∃p a us,k=.tup p/\Pn p/\u=.ref a/\H a=!(.lst us)/\0<us.length/\us.length<=n/\∀v∈us,∃i,i<n/\(S i).pt=p/\NM (cj S) H v i
§xy.same{S:Nat->Sg}(h:xy S n H kvs)(s:af H H'):xy S n H' kvs:={h.1.ab s.ab,λk u e=>by
 @p,d,us,h1,h2,f,m,j,g,l:=h.2 k u e
 !{p,d,us,h1,h2,f,s _ _ m,j,g,λv o=>let⟨i,a,b,c⟩:=l v o;{i,a,b,NM.ab c s.ab}}}
inductive iA(vs:#V)(H:Hp)(Q:VK)(_:XK):Prop
 |mk(d fa r kq F kn:_)(_:vs=[.ref d,.ref fa,.ref r,.ref kq])(_:DW H d)(_:H fa=!(.dK (cE F 9)))(_:H (F 3)=!(.lst []))(_:H r=!n_)(_:H kq=!(.lst kn))(_:KN H kn)(_:0<kn.length)(_:kn.length<=15)(_:r≠d)(_:kq≠d)(_:F 3≠d)(_:r≠F 3)(_:kq≠F 3)(_:∀H' S n xs nq kvs,Rest H H' (λb=>b=d\/b=F 3)->H' (F 3)=!(.lst xs)->AN (SN S H') xs (List.range n)->WS S n->n<=24->(∀i,i<n->mH (S i).sg)->H nq=£->H' nq=!(.dG kvs)->kvs.length<=24->xy S n H' kvs->(∀k lq,vG kvs k=!(.ref lq)->H lq=£)->Q (.ref nq) H')
inductive fh(vs:#V)(H:Hp)(Q:VK)(_:XK):Prop
 |mk(d fa r nq F S n xs kvs:_)(_:vs=[.ref d,.ref fa,.ref r,.ref nq])(_:DW H d)(_:H fa=!(.dK (cE F 9)))(_:H (F 3)=!(.lst xs))(_:AN (SN S H) xs (List.range n))(_:WS S n)(_:n<=24)(_:H (F 4)=!(.lst []))(_:H (F 5)=!(.lst []))(_:H r=!n_)(_:H nq=!(.dG kvs))(_:kvs.length<=24)(_:xy S n H kvs)(_:r≠d)(_:(∀i,i<9->F i≠d/\r≠F i))(_:(∀i,i<9->∀j,j<9->F i=F j->i=j))(_:(∀k lq,vG kvs k=!(.ref lq)->lq≠d/\lq≠F 4/\lq≠F 5))(_:∀H' M m N q ms ns,Rest H H' (λb=>b=d\/b=F 4\/b=F 5\/b=nq)->H' (F 4)=!(.lst ms)->AN (MN S M H') ms (List.range m)->WK S n M m->m<=9->H' (F 5)=!(.lst ns)->AN (NN S N H') ns (List.range q)->WK S n N q->Q .aR H')
inductive hV(vs:#V)(H:Hp)(Q:VK)(_:XK):Prop
 |mk(d fa r kq F kn:_)(_:vs=[.ref d,.ref fa,.ref r,.ref kq])(_:DW H d)(_:H fa=!(.dK (cE F 9)))(_:H (F 6)=!(.lst []))(_:H (F 7)=!(.lst []))(_:H r=!n_)(_:H kq=!(.lst kn))(_:KN H kn)(_:0<kn.length)(_:kn.length<=15)(_:r≠d)(_:kq≠d)(_:(∀i,i<9->F i≠d/\r≠F i/\kq≠F i))(_:F 6≠F 7)(_:∀H' L a C b ls cs,Rest H H' (λb=>b=d\/b=F 6\/b=F 7)->H' (F 6)=!(.lst ls)->AN (kC L H') ls (List.range a)->WL L a->H' (F 7)=!(.lst cs)->AN (iD C H') cs (List.range b)->LJ C b->Q .aR H')
section
variable {vs:#V}{H:Hp}{Q:VK}{E:XK}
end
structure Ft(d:R0)(F:Nat->R0)(kq:R0):Prop where
 kd:kq≠d
 kf:∀i,i<3->kq≠F i
 fd:∀i,i<3->F i≠d
 ff:∀i,i<3->∀j,j<3->i≠j->F i≠F j
structure PB(H0 H:Hp)(d:R0)(F:Nat->R0)(kq:R0)(kn bs es cs:#V)(rs:#Pc)(cu:#(#Key)):Prop where
 ro:Rest H0 H (λb=>b=d\/b=F 0\/b=F 1\/b=F 2)
 dw:DW H d
 ek:H kq=!(.lst kn)
 uS:KN H kn
 eb:H (F 0)=!(.lst bs)
 ev:H (F 1)=!(.lst es)
 ec:H (F 2)=!(.lst cs)
 fi:ti H bs es cs rs cu 60
section
variable {H0 H H':Hp}{d kq:R0}{F:Nat->R0}{kn bs es cs:#V}{rs:#Pc}{cu:#(#Key)}{v:V}
§PB.draw(h:PB H0 H d F kq kn bs es cs rs cu)(a:Ft d F kq)(s:af (del H d) H')(w:DW H' d):PB H0 H' d F kq kn bs es cs rs cu :=
 have t:=h.dw.ab s
 {h.ro.del (.inl rfl) s,w,DP.to s h.ek a.kd,h.uS.ab t,DP.to s h.eb (a.fd 0 ⋯),DP.to s h.ev (a.fd 1 ⋯),DP.to s h.ec (a.fd 2 ⋯),h.fi.ab t}
theorem PB.same(h:PB H0 H d F kq kn bs es cs rs cu)(s:af H H'):PB H0 H' d F kq kn bs es cs rs cu :=
 {h.ro.same s,h.dw.same s,s _ _ h.ek,h.uS.ab s.ab,s _ _ h.eb,s _ _ h.ev,s _ _ h.ec,h.fi.ab s.ab}
§DW.wr(h:DW H d)(n:d≠p):DW (upd H p o) d:=let⟨a,b,e⟩:=h;{a,b,by[ax n];!e}
§PB.KH(h:PB H0 H d F kq kn bs es cs rs cu)(a:Ft d F kq)(e:BT H v)(b:bs.length<60):PB H0 (upd H (F 0) (.lst (bs++[v]))) d F kq kn (bs++[v]) es cs rs cu:=by
 #t:ai H (upd H (F 0) (.lst (bs++[v]))):=ai.wl h.eb;#g:=h.fi.ab t;?{h.ro.wr (.inr (.inl rfl)),h.dw.wr (a.fd 0 ⋯).symm,by[ax (a.kf 0 ⋯)];!h.ek,h.uS.ab t,aD,by[ax (a.ff 1 ⋯ 0 ⋯ ⋯)];!h.ev,by[ax (a.ff 2 ⋯ 0 ⋯ ⋯)];!h.ec,{λu c=>?_,g.pc,g.ct,g.w,g.up,by[qi];!b,g.vl,g.cl}};@z|z:=zh.mp c
 .!g.bt u z
 .[qx.mp z];!e.ab t
theorem PB.place(h:PB H0 H d F kq kn bs es cs rs cu)(a:Ft d F kq)(e:fx H v r)(c:uR r)(lt:∀x∈rs,bU x.ka x.kb r.ka r.kb)(b:es.length<60):PB H0 (upd H (F 1) (.lst (es++[v]))) d F kq kn bs (es++[v]) cs (rs++[r]) cu:=by
 #t:ai H (upd H (F 1) (.lst (es++[v]))):=ai.wl h.ev;#g:=(h.fi.ab t).place (e.ab t) c lt b;!{h.ro.wr (.inr (.inr (.inl rfl))),h.dw.wr (a.fd 1 ⋯).symm,by[ax (a.kf 1 ⋯)];!h.ek,h.uS.ab t,by[ax (a.ff 0 ⋯ 1 ⋯ ⋯)];!h.eb,aD,by[ax (a.ff 2 ⋯ 1 ⋯ ⋯)];!h.ec,g}
§PB.cut(h:PB H0 H d F kq kn bs es cs rs cu)(a:Ft d F kq)(c:CT H v k)(b:cs.length<60):PB H0 (upd H (F 2) (.lst (cs++[v]))) d F kq kn bs es (cs++[v]) rs (cu++[k]):=by
 #t:ai H (upd H (F 2) (.lst (cs++[v]))):=ai.wl h.ec;#g:=h.fi.ab t;!{h.ro.wr (.inr (.inr (.inr rfl))),h.dw.wr (a.fd 2 ⋯).symm,by[ax (a.kf 2 ⋯)];!h.ek,h.uS.ab t,by[ax (a.ff 0 ⋯ 2 ⋯ ⋯)];!h.eb,by[ax (a.ff 1 ⋯ 2 ⋯ ⋯)];!h.ev,aD,{g.bt,g.pc,g.ct.snoc (c.ab t),g.w,g.up,g.bl,g.vl,by[qi];!b}}
§PB.O0(h:PB H0 H d F kq kn bs es cs rs cu)(a:Ft d F kq)(f:H0 kq=£)(i:GK H (.tup [.inr w,.inl (kn.length:Int)]) v)(hp:Pn [.inr w,.inl (kn.length:Int)]):PB H0 (upd H kq (.lst (kn++[v]))) d F kq (kn++[v]) bs es cs rs cu:=by
 #t:ai H (upd H kq (.lst (kn++[v]))):=ai.wl h.ek;?{λb o e n=>by[ax (λz=>by[z,f]at e;&e)];!h.ro b o e n,h.dw.wr a.kd.symm,aD,λj u e=>?_,by[ax (a.kf 0 ⋯).symm];!h.eb,by[ax (a.kf 1 ⋯).symm];!h.ev,by[ax (a.kf 2 ⋯).symm];!h.ec,h.fi.ab t}
 ¿g:j<kn.length
 .[zv g]at e
  !h.uS.ab t j u e
 .#c:j=kn.length:=by
   #:=(qk.mp e).1;[qi,qt]at this;¥
  £c;[ye (qe _),gh]at e;&e;!{w,i.ab t,hp}
§PB.out(h:PB H0 H d F kq kn bs es cs rs cu)(e:H0 b=!o)(n:b≠d)(m:∀i,i<3->b≠F i):H b=!o:=h.ro b o e λz=>by
 @z|z|z|z:=z
 .!n z
 .!m 0 ⋯ z
 .!m 1 ⋯ z
 .!m 2 ⋯ z
end
§zI(h:V.str w∈[V.str "ann",V.str "bo"]):Nm [.inr w,.inl x]:=by
 ac_nf at h
 @h|h:=h <;> injection h with h
 .!⟨w,x,O,.inl h⟩
 .!⟨w,x,O,.inr (.inl h)⟩
§QE(e:H p=!(.dG kvs)):L9 "dict" (.ref p) H:=.inr (.inr (.inl {O,.inr (.inr {_,e})}))
structure SB(H0 Z:Hp)(d f nq:R0)(S:Nat->Sg)(j:Nat)(xs:#V)(kvs:#(KD×V×V)):Prop where
 ro:Rest H0 Z (λb=>b=d\/b=f)
 dw:DW Z d
 ex:Z f=!(.lst xs)
 an:AN (SN S Z) xs (List.range j)
 ws:WS S j
 nm:∀i,i<j->∃w:R9,(S i).nk=[.inr w,.inl (40+(i:Int)),.inl 0]
 ky:∀i,i<j->(S i).ka=50+(i:Int) / 2/\(S i).kb=(i:Int) % 2/\(S i).kc=0
 ok:∀i,i<j->mH (S i).sg
 en:Z nq=!(.dG kvs)
 nd:xy S j Z kvs
 fr:∀k lq,vG kvs k=!(.ref lq)->H0 lq=£
section
variable {H0 Z Z':Hp}{d f nq:R0}{S:Nat->Sg}{j:Nat}{xs:#V}{kvs:#(KD×V×V)}
§xy.mv(h:xy S j Z kvs)(t:ai Z Z')(k:∀c d us,vG kvs c=!(.ref d)->Z d=!(.lst us)->Z' d=!(.lst us)):xy S j Z' kvs:={h.1.ab t,λc u e=>by
 @p,d,us,h1,h2,rfl,n,l,f,m:=h.2 c u e
 !{p,d,us,h1,h2,O,k c d us e n,l,f,λv o=>let⟨i,a,b,g⟩:=m v o;{i,a,b,NM.ab g t}}}
§SB.draw(h:SB H0 Z d f nq S j xs kvs)(m:H0 d≠none)(l:f≠d)(k:nq≠d)(s:af (del Z d) Z')(w:DW Z' d):SB H0 Z' d f nq S j xs kvs :=
 have t:=h.dw.ab s
 {h.ro.del (.inl rfl) s,w,DP.to s h.ex l,h.an.imp λv i g=>g.ab t,h.ws,h.nm,h.ky,h.ok,DP.to s h.en k,h.nd.mv t λc a us e b=>DP.to s b λz=>m (z▸h.fr c a e),h.fr}
theorem SB.same(h:SB H0 Z d f nq S j xs kvs)(s:af Z Z'):SB H0 Z' d f nq S j xs kvs :=
 {h.ro.same s,h.dw.same s,s _ _ h.ex,h.an.imp λv i g=>g.ab s.ab,h.ws,h.nm,h.ky,h.ok,s _ _ h.en,h.nd.same s,h.fr}
§SB.sign(h:SB H0 Z d f nq S j xs kvs)(K:H0 f≠none)(I:f≠d)(L:nq≠f)(X:j<24)(e:Z p=!(.tup [k,vn,l,.ref kq,o,.bl r.lv]))(C:GK Z (.tup r.pt) k)(y:GK Z (.tup r.nk) vn)(b:GK Z (kd (cj S) r.bh) l)(B:Z kq=!(.tup [.int r.ka,.int r.kb,.int r.kc]))(A:DT Z o r.sg)(hn:r.nk=[.inr w,.inl (40+(j:Int)),.inl 0])(E:PyData.strOk w=¶)(hp:Pn r.pt)(s:r.ka=50+(j:Int) / 2/\r.kb=(j:Int) % 2/\r.kc=0)(x:∀i,r.bh=!i->i<j/\(S i).pt=r.pt)(R:mH r.sg)(F:Gc r.sg) :
  SB H0 (upd Z f (.lst (xs++[.ref p]))) d f nq (lF S j r) (j+1) (xs++[.ref p]) kvs:=by
 #t:ai Z (upd Z f (.lst (xs++[.ref p]))):=ai.wl h.ex;#a:=FH.ext S j r
 #D:Lay r.nk:=by
  [hn];¤(PyData.strOk w&&(true&&(true&&true)))=¶;[E];rfl
 #W:WS (lF S j r) (j+1):=h.ws.ext () (λi hi=>by
  @a1,a2,q:=h.ky i hi;@G,T,b3:=s;¶LC;[a1,a2,G,T]
  ¥) (λi hi z=>by
  @Y,U:=h.nm i hi;[U,hn]at z;injection z with _ z;injection z with z _;injection z with z
  ¥) x D hp.lay F
 #lt:∀i,i<j->lF S j r i=S i:=λi hi=>eK hi
 #cs:∀{P:Nat->¤},(∀i,i<j->P i)->P j->∀i,i<j+1->P i:=λh1 h2 i hi=>by
  ¿z:i=j
  .[z];!h2
  .!h1 i ()
 ?{h.ro.wr (.inr rfl),h.dw.wr I.symm,aD,?_,W,cs (λi hi=>by[lt i hi];!h.nm i hi) {w,by[f7];!hn},cs (λi hi=>by[lt i hi];!h.ky i hi) (by[f7];!s),cs (λi hi=>by[lt i hi];!h.ok i hi) (by[f7];!R),by[ax L];!h.en,?_,h.fr}
 .[yi]
  ?AN.snoc (sF h.an λv i hi g=>(g.ab t).Et a (qo.mp hi) λm z=>?_) ?_
  .#hi:=qo.mp hi
   #:=(h.ws.back i hi m z).1;¥
  .#ex:lF S j r j=r:=f7
   ?{p,k,vn,l,kq,o,O,by[ex];!t _ _ e,by[ex];!C.ab t,by unfold NM cj;[ex];!y.ab t,?_,by[ex];!t _ _ B,by[ex];!A.ab t};¶sG;[ex]
   cases z:r.bh with
   |none=>rw[z]at b;!b
   |some m =>
    [z]at b;!NM.ab (NM.Et a (x m z).1 b) t
 .?{h.nd.1.ab t,λc u e=>?_}
  @N,n,us,h1,h2,rfl,Q,H,h6,M:=h.nd.2 c u e;?{N,n,us,h1,h2,O,(ax λ(z:n=f)=>K (z▸h.fr c n e)).trans Q,H,(),λv J=>?_};@i,a1,a2,q:=M v J;!{i,(),by[lt i a1];!a2,NM.ab (NM.Et a a1 q) t}
§SB.out(h:SB H0 Z d f nq S j xs kvs)(e:H0 b=!o)(a:b≠d)(c:b≠f):Z b=!o:=h.ro b o e λz=>z.elim a c
§SB.free(h:SB H0 Z d f nq S j xs kvs)(e:Z b=£):H0 b=£:=by
 cases z:H0 b with
 |none=>rfl
 |some o =>
  have a1:b≠d:=h.dw.ne e
  have a2:b≠f:=λy=>by[y,h.ex]at e;&e
  [h.out z a1 a2]at e;&e
§SB.get(h:SB H0 Z d f nq S j xs kvs)(p:#Key):∃us:#V,us.length<=j/\(∀v∈us,∃i,i<j/\(S i).pt=p/\NM (cj S) Z v i)/\∀(Z':Hp) (e:R0),(∀b o,H0 b=£->Z b=!o->Z' b=!o)->Z' e=!(.lst [])->∃a,(vG kvs (.tup p)).getD (.ref e)=.ref a/\Z' a=!(.lst us):=by
 cases z:vG kvs (.tup p) with
 |none=>!{[],qv _,(λ_=>°),λZ' e s c=>{e,O,c}}
 |some u =>
  @n,a,us,h1,h2,rfl,k,m,g,l:=h.nd.2 _ _ z;injection h1 with h1;£h1;!{us,g,l,λZ' e s c=>{a,O,s _ _ (h.fr _ _ z) k}}
§SB.put(h:SB H0 Z d f nq S j xs kvs)(hn:H0 nq=£)(H:nq≠d)(M:nq≠f)(pn:Pn p)(L:GK Z (.tup p) m)(e:Z l=!(.lst us))(fq:H0 l=£)(K:0<us.length)(B:us.length<=j)(w:∀v∈us,∃i,i<j/\(S i).pt=p/\NM (cj S) Z v i) :
  SB H0 (upd Z nq (.dG (pG kvs (.tup p) m (.ref l)))) d f nq S j xs (pG kvs (.tup p) m (.ref l)):=by
 #t:ai Z (upd Z nq (.dG (pG kvs (.tup p) m (.ref l)))):=ai.wd h.en
 #ne:∀{b:R0} {ys:#V},Z b=!(.lst ys)->upd Z nq (.dG (pG kvs (.tup p) m (.ref l))) b=!(.lst ys):=λ{b} {ys} e=>by[ax λz=>by[z,h.en]at e;&e];!e
 ?{λb o e n=>by[ax (λz=>by[z,hn]at e;&e)];!h.ro b o e n,h.dw.wr H.symm,ne h.ex,h.an.imp λv i g=>g.ab t,h.ws,h.nm,h.ky,h.ok,aD,{λe C=>?_,λk u z=>?_},λk u z=>?_}
 .@rfl|⟨e',he',h1,h2⟩:=Kt C
  .!⟨p,pn,O,L.ab t⟩
  .@x,D,E,F:=h.nd.1 e' he'
   !{x,D,h1.symm.trans E,by[←h2];!F.ab t}
 .[eG]at z
  ¿y:k=.tup p
  .[qF y]at z
   injection z with z;!{p,l,us,y,pn,z.symm,ne e,K,B,λv r=>let⟨i,a,b,c⟩:=w v r;{i,a,b,NM.ab c t}}
  .[qB y]at z
   @x,q,s,h1,h2,A,J,G,I,w:=h.nd.2 k u z;!{x,q,s,h1,h2,A,ne J,G,I,λv r=>let⟨i,a,b,c⟩:=w v r;{i,a,b,NM.ab c t}}
 .[eG]at z
  ¿y:k=.tup p
  .[qF y]at z
   injection z with z;injection z with z;[←z];!fq
  .[qB y]at z
   !h.fr k u z
end
§L7:KD->RY
 |.tup p=>tD p
 |_=>.none
theorem u_.mB:∀{kvs:#(KD×V×V)},u_ H kvs->dO H (kvs.map (·.2.1)) (kvs.map λe=>L7 e.1)
 |[],_=>.nil
 |e::r,h=>by
  @p,pn,b,g:=h e qm;?.cons ?_ (u_.mB λe a=>h e (qy _ a));¤DV H e.2.1 (L7 e.1);[b];!(aM g).dv
§u_.keys(h:u_ H kvs):KeysAre (kvs.map λe=>L7 e.1) 3:=by
 #all:∀d∈kvs.map (λe=>L7 e.1),∃s n,d=.tuple [.str s,.int n]/\d.canLay0=¶:=λd c=>by
  @e,i,rfl:=qf.mp c;@p,pn,k,g:=h e i;@w,x,rfl:=pn.two;[k];!{w,x,O,pn.lay}
 ?{dD λd c=>?_,λd c=>?_,λa j b f=>?_,λd c=>?_}
 .@s,n,rfl,l:=all d c;!l
 .@s,n,rfl,l:=all d c;!trivial
 .@s,n,rfl,_:=all a j;@t,m,rfl,_:=all b f;rfl
 .@s,n,rfl,_:=all d c;!jn rfl
§M_{α:Type}{ds:#RY}{ix:#Nat}{ys:List α}{c:α}(a:df ds ix)(d:ds.length=ys.length):∀v∈ix.map (λi=>ys.getD i c),v∈ys:=λv b=>by
 @i,hi,rfl:=qf.mp b;#:=qo.mp (a.1.mem_iff.mp hi);[zm,qh ()];!y0 _
§Mb{ds:#RY}{ix:#Nat}(a:df ds ix):ix.length=ds.length:=by
 [a.1.length_eq,zo]
structure TB(H0 Z:Hp)(d:R0)(F:Nat->R0)(S:Nat->Sg)(n k:Nat)(M:Nat->Mk)(m:Nat)(N:Nat->Mk)(q:Nat)(ms ns:#V):Prop where
 ro:Rest H0 Z (λb=>b=d\/b=F 4\/b=F 5)
 dw:DW Z d
 e4:Z (F 4)=!(.lst ms)
 am:AN (MN S M Z) ms (List.range m)
 wm:WK S n M m
 lm:m<=k
 km:∀i,i<m->bU (M i).ka (M i).kb (80+(k:Int) / 2) ((k:Int) % 2)
 e5:Z (F 5)=!(.lst ns)
 an:AN (NN S N Z) ns (List.range q)
 wn:WK S n N q
 ln:q<=k
 kn:∀i,i<q->bU (N i).ka (N i).kb (80+(k:Int) / 2) ((k:Int) % 2)
section
variable {H0 Z Z':Hp}{d:R0}{F:Nat->R0}{S:Nat->Sg}{n k:Nat}{M N:Nat->Mk}{m q:Nat}{ms ns:#V}
§TB.to(h:TB H0 Z d F S n k M m N q ms ns)(r:Rest H0 Z' (λb=>b=d\/b=F 4\/b=F 5))(t:ai Z Z')(w:DW Z' d)(a:Z' (F 4)=!(.lst ms))(b:Z' (F 5)=!(.lst ns)):TB H0 Z' d F S n k M m N q ms ns :=
 {r,w,a,h.am.imp λv i g=>g.ab t,h.wm,h.lm,h.km,b,h.an.imp λv i g=>g.ab t,h.wn,h.ln,h.kn}
§TB.draw(h:TB H0 Z d F S n k M m N q ms ns)(b:F 4≠d)(a:F 5≠d)(s:af (del Z d) Z')(w:DW Z' d):TB H0 Z' d F S n k M m N q ms ns :=
 h.to (h.ro.del (.inl rfl) s) (h.dw.ab s) w (DP.to s h.e4 b) (DP.to s h.e5 a)
theorem TB.same(h:TB H0 Z d F S n k M m N q ms ns)(s:af Z Z'):TB H0 Z' d F S n k M m N q ms ns :=
 h.to (h.ro.same s) s.ab (h.dw.same s) (s _ _ h.e4) (s _ _ h.e5)
§i8(h:bU a b (80+(k:Int) / 2) ((k:Int) % 2)):bU a b (80+((k+1:Nat):Int) / 2) (((k+1:Nat):Int) % 2):=by
 unfold bU at h ⊢;¥
§y_:bU (80+(k:Int) / 2) ((k:Int) % 2) (80+((k+1:Nat):Int) / 2) (((k+1:Nat):Int) % 2):=by
 ¶bU;¥
§TB.next(h:TB H0 Z d F S n k M m N q ms ns):TB H0 Z d F S n (k+1) M m N q ms ns :=
 {h.ro,h.dw,h.e4,h.am,h.wm,j0 h.lm,λi hi=>i8 (h.km i hi),h.e5,h.an,h.wn,j0 h.ln,λi hi=>i8 (h.kn i hi)}
§TB.out(h:TB H0 Z d F S n k M m N q ms ns)(e:H0 b=!o)(f:b≠d)(c:b≠F 4)(a:b≠F 5):Z b=!o:=h.ro b o e λz=>by
 @z|z|z:=z
 .!f z
 .!c z
 .!a z
§TB.mark(h:TB H0 Z d F S n k M m N q ms ns)(j:F 4≠d)(a:F 4≠F 5)(C:k<60)(A:MN S (λ_=>r) Z v m)(c:r.ka=80+(k:Int) / 2)(f:r.kb=(k:Int) % 2)(sd:dX S n r.pt r.b/\dX S n r.pt r.e)(l:Lay r.pt/\Lay r.nm/\PyData.strOk r.kd=¶/\∀z,r.vl=!z->PyData.strOk z=¶) :
  TB H0 (upd Z (F 4) (.lst (ms++[v]))) d F S n (k+1) (hP M m r) (m+1) N q (ms++[v]) ns:=by
 #t:ai Z (upd Z (F 4) (.lst (ms++[v]))):=ai.wl h.e4;#B:=h.lm;?{h.ro.wr (.inr (.inl rfl)),h.dw.wr j.symm,aD,?_,h.wm.ext () (λi hi=>by[c,f];!h.km i hi) sd l,(),λi hi=>?_,by[ax a.symm];!h.e5,h.an.imp λv i g=>g.ab t,h.wn,j0 h.ln,λi hi=>i8 (h.kn i hi)}
 .[yi]
  ?AN.snoc (sF h.am λv i hi g=>(g.ab t).ext (qo.mp hi)) ?_;@b,w,y,p,vn,kq,h0,h1,h2,o,x,u,s:=A;#ex:hP M m r m=r:=mF;!{b,w,y,p,vn,kq,h0,by[ex];!t _ _ h1,by[ex];!h2.ab t,by[ex];!o.ab t,by[ex];!x.ab t,by[ex];!u.ab t,by[ex];!t _ _ s}
 .¿z:i=m
  .[z,mF,c,f];!y_
  .[jO (show i<m from ())];!i8 (h.km i ())
§TB.note(h:TB H0 Z d F S n k M m N q ms ns)(o:F 5≠d)(a:F 4≠F 5)(C:k<60)(A:NN S (λ_=>r) Z v q)(c:r.ka=80+(k:Int) / 2)(f:r.kb=(k:Int) % 2)(sd:dX S n r.pt r.b/\dX S n r.pt r.e)(l:Lay r.pt/\Lay r.nm/\PyData.strOk r.kd=¶/\∀z,r.vl=!z->PyData.strOk z=¶) :
  TB H0 (upd Z (F 5) (.lst (ns++[v]))) d F S n (k+1) M m (hP N q r) (q+1) ms (ns++[v]):=by
 #t:ai Z (upd Z (F 5) (.lst (ns++[v]))):=ai.wl h.e5;#B:=h.ln;?{h.ro.wr (.inr (.inr rfl)),h.dw.wr o.symm,by[ax a];!h.e4,h.am.imp λv i g=>g.ab t,h.wm,j0 h.lm,λi hi=>i8 (h.km i hi),aD,?_,h.wn.ext () (λi hi=>by[c,f];!h.kn i hi) sd l,(),λi hi=>?_}
 .[yi]
  ?AN.snoc (sF h.an λv i hi g=>(g.ab t).ext (qo.mp hi)) ?_;@b,w,y,p,vn,kq,h0,h1,h2,j,x,u,s:=A;#ex:hP N q r q=r:=mF;!{b,w,y,p,vn,kq,h0,by[ex];!t _ _ h1,by[ex];!h2.ab t,by[ex];!j.ab t,by[ex];!x.ab t,by[ex];!u.ab t,by[ex];!t _ _ s}
 .¿z:i=q
  .[z,mF,c,f];!y_
  .[jO (show i<q from ())];!i8 (h.kn i ())
end
§lj{α:Type}(f:Nat->α)(n:Nat)(r:α):Nat->α:=λi=>if i=n then r else f i
§K6{α:Type}{f:Nat->α}{n:Nat}{r:α}{i:Nat}(h:i<n):lj f n r i=f i:=qB ()
§JN{α:Type}{f:Nat->α}{n:Nat}{r:α}:lj f n r n=r:=qF rfl
structure UB(H0 Z:Hp)(d:R0)(F:Nat->R0)(X A B A2 B2:Int)(L:Nat->Ln)(l:Nat)(C:Nat->Ce)(c:Nat)(ls cs:#V):Prop where
 ro:Rest H0 Z (λb=>b=d\/b=F 6\/b=F 7)
 dw:DW Z d
 e6:Z (F 6)=!(.lst ls)
 al:AN (kC L Z) ls (List.range l)
 wl:WL L l
 nb:∀i,i<l->(L i).bh=£
 nk:∀i,i<l->∃z,(L i).nk=[.inr "bo",.inl z]/\z<X
 lk:∀i,i<l->bU (L i).ka (L i).kb A B
 e7:Z (F 7)=!(.lst cs)
 ac:AN (iD C Z) cs (List.range c)
 wc:LJ C c
 ck:∀i,i<c->bU (C i).ka (C i).kb A2 B2
section
variable {H0 Z Z':Hp}{d:R0}{F:Nat->R0}{X A B A2 B2 X' A' B':Int}{L:Nat->Ln}{l:Nat}{C:Nat->Ce}{c:Nat}{ls cs:#V}
§UB.to(h:UB H0 Z d F X A B A2 B2 L l C c ls cs)(r:Rest H0 Z' (λb=>b=d\/b=F 6\/b=F 7))(t:ai Z Z')(w:DW Z' d)(a:Z' (F 6)=!(.lst ls))(b:Z' (F 7)=!(.lst cs)):UB H0 Z' d F X A B A2 B2 L l C c ls cs :=
 {r,w,a,h.al.imp λv i g=>g.ab t,h.wl,h.nb,h.nk,h.lk,b,h.ac.imp λv i g=>g.ab t,h.wc,h.ck}
§UB.draw(h:UB H0 Z d F X A B A2 B2 L l C c ls cs)(a:F 6≠d)(b:F 7≠d)(s:af (del Z d) Z')(w:DW Z' d):UB H0 Z' d F X A B A2 B2 L l C c ls cs :=
 h.to (h.ro.del (.inl rfl) s) (h.dw.ab s) w (DP.to s h.e6 a) (DP.to s h.e7 b)
theorem UB.same(h:UB H0 Z d F X A B A2 B2 L l C c ls cs)(s:af Z Z'):UB H0 Z' d F X A B A2 B2 L l C c ls cs :=
 h.to (h.ro.same s) s.ab (h.dw.same s) (s _ _ h.e6) (s _ _ h.e7)
§UB.own(h:UB H0 Z d F X A B A2 B2 L l C c ls cs)(e:Z q=!(.lst us))(f:H0 q=£)(a:q≠d)(g:q≠F 6)(i:q≠F 7):UB H0 (upd Z q o) d F X A B A2 B2 L l C c ls cs :=
 h.to (λb o e n=>by[ax (λz=>by[z,f]at e;&e)];!h.ro b o e n) (ai.wl e) (h.dw.wr a.symm) (by[ax g.symm];!h.e6) (by[ax i.symm];!h.e7)
§UB.up(h:UB H0 Z d F X A B A2 B2 L l C c ls cs)(k:X<=X')(j:∀a b,bU a b A B->bU a b A' B')(g:∀a b,bU a b A2 B2->bU a b f e):UB H0 Z d F X' A' B' f e L l C c ls cs :=
 {h.ro,h.dw,h.e6,h.al,h.wl,h.nb,λi hi=>let⟨z,a,b⟩:=h.nk i hi;{z,a,()},λi hi=>j _ _ (h.lk i hi),h.e7,h.ac,h.wc,λi hi=>g _ _ (h.ck i hi)}
§UB.out(h:UB H0 Z d F X A B A2 B2 L l C c ls cs)(e:H0 b=!o)(a:b≠d)(f:b≠F 6)(g:b≠F 7):Z b=!o:=h.ro b o e λz=>by
 @z|z|z:=z
 .!a z
 .!f z
 .!g z
§UB.free(h:UB H0 Z d F X A B A2 B2 L l C c ls cs)(e:Z b=£):H0 b=£/\b≠d/\b≠F 6/\b≠F 7:=by
 #a1:b≠d:=h.dw.ne e
 #a2:b≠F 6:=λy=>by[y,h.e6]at e;&e
 #a:b≠F 7:=λy=>by[y,h.e7]at e;&e
 ?{?_,a1,a2,a}
 cases z:H0 b with
 |none=>rfl
 |some o=>rw[h.out z a1 a2 a]at e;&e
§UB.line(h:UB H0 Z d F X A B A2 B2 L l C c ls cs)(H:F 6≠d)(p:F 6≠F 7)(J:l<1000)(I:kC (λ_=>r) Z v l)(nk:r.nk=[.inr "bo",.inl X])(bh:r.bh=£)(w:r.ka=A)(D:r.kb=B)(E:Lay r.pt)(n:PyData.strOk r.wy=¶)(G:X<X')(x:bU A B A' B') :
  UB H0 (upd Z (F 6) (.lst (ls++[v]))) d F X' A' B' A2 B2 (lj L l r) (l+1) C c (ls++[v]) cs:=by
 #t:ai Z (upd Z (F 6) (.lst (ls++[v]))):=ai.wl h.e6;#lt:∀i,i<l->lj L l r i=L i:=λi hi=>K6 hi;#at_:lj L l r l=r:=JN
 #f:∀{P:Nat->¤},(∀i,i<l->P i)->P l->∀i,i<l+1->P i:=λh1 h2 i hi=>by
  ¿z:i=l
  .[z];!h2
  .!h1 i ()
 #u:∀i,i<l->(L i).nk≠r.nk:=λi hi z=>by
  @y,e,g:=h.nk i hi;[e,nk]at z;injection z with _ z;injection z with z _;injection z with z;¥
 ?{h.ro.wr (.inr (.inl rfl)),h.dw.wr H.symm,aD,?_,{(),λi j a b=>?_,λi hi j K e=>?_,λi hi j e=>?_,?_,f (λi hi=>by[lt i hi];!h.wl.wy i hi) (by[at_];!n)},?_,?_,?_,by[ax p.symm];!h.e7,h.ac.imp λv i g=>g.ab t,h.wc,h.ck}
 .[yi]
  ?AN.snoc (sF h.al λv i hi g=>?_) ?_
  .#hi:=qo.mp hi
   @b,q,vn,s,kq,e,h1,h2,m,k,o:=kC.ab g t;?{b,q,vn,s,kq,e,by[lt i hi];!h1,by[lt i hi];!h2,by unfold NM cQ at m ⊢;[lt i hi];!m,?_,by[lt i hi];!o};unfold uU at k ⊢;[h.nb i hi]at k;[lt i hi,h.nb i hi];!k
  .@b,q,vn,s,kq,e,h1,h2,m,k,o:=kC.ab I t
   ?{b,q,vn,s,kq,e,by[at_];!h1,by[at_];!h2,by unfold NM cQ at m ⊢;[at_];!m,?_,by[at_];!o};unfold uU at k ⊢;[bh]at k;[at_,bh];!k
 .¿z:j=l
  .[z,at_,lt i (),w,D];!h.lk i ()
  .[lt i (),lt j ()];!h.wl.up i j a ()
 .¿z:i=l
  .¿y:j=l
   .[z,y]
   .[z,at_,lt j ()]at e;!absurd e.symm (u j ())
  .¿y:j=l
   .[y,at_,lt i ()]at e;!absurd e (u i ())
   .[lt i (),lt j ()]at e;!h.wl.inj i () j () e
 .¿z:i=l
  .[z,at_,bh]at e;&e
  .[lt i (),h.nb i ()]at e;&e
 .?f (λi hi=>by[lt i hi];!h.wl.lay i hi) ?_
  [at_,nk];!{by ¤(PyData.strOk "bo"&&(true&&true))=¶;decide +kernel,E}
 .!f (λi hi=>by[lt i hi];!h.nb i hi) (by[at_];!bh)
 .!f (λi hi=>by[lt i hi];!let⟨z,a,b⟩:=h.nk i hi;{z,a,()}) (by[at_];!{X,nk,G})
 .!f (λi hi=>by[lt i hi];!G1 (h.lk i hi) x) (by[at_,w,D];!x)
§UB.cell(h:UB H0 Z d F X A B A2 B2 L l C c ls cs)(p:F 7≠d)(f:F 6≠F 7)(s:c<100)(q:iD (λ_=>r) Z v c)(k:r.ka=A2)(n:r.kb=B2)(o:Lay r.pt/\Lay r.rw/\Lay r.cl)(wd:LG r.wd)(m:bU A2 B2 A' B') :
  UB H0 (upd Z (F 7) (.lst (cs++[v]))) d F X A B A' B' L l (lj C c r) (c+1) ls (cs++[v]):=by
 #t:ai Z (upd Z (F 7) (.lst (cs++[v]))):=ai.wl h.e7;#lt:∀i,i<c->lj C c r i=C i:=λi hi=>K6 hi;#at_:lj C c r c=r:=JN
 #e:∀{P:Nat->¤},(∀i,i<c->P i)->P c->∀i,i<c+1->P i:=λh1 h2 i hi=>by
  ¿z:i=c
  .[z];!h2
  .!h1 i ()
 ?{h.ro.wr (.inr (.inr rfl)),h.dw.wr p.symm,by[ax f];!h.e6,h.al.imp λv i g=>g.ab t,h.wl,h.nb,h.nk,h.lk,aD,?_,{(),λi j a b=>?_,?_,?_},?_}
 .[yi]
  ?AN.snoc (sF h.ac λv i hi g=>?_) ?_
  .#hi:=qo.mp hi
   #:=iD.ab g t;unfold iD at this ⊢;[lt i hi];!this
  .#:=iD.ab q t
   unfold iD at this ⊢;[at_];!this
 .¿z:j=c
  .[z,at_,lt i (),k,n];!h.ck i ()
  .[lt i (),lt j ()];!h.wc.up i j a ()
 .!e (λi hi=>by[lt i hi];!h.wc.lay i hi) (by[at_];!o)
 .!e (λi hi=>by[lt i hi];!h.wc.wd i hi) (by[at_];!wd)
 .!e (λi hi=>by[lt i hi];!G1 (h.ck i hi) m) (by[at_,k,n];!m)
end
structure RC(Z:Hp)(rq cq:R0)(us vs:#V)(k:Nat):Prop where
 er:Z rq=!(.lst us)
 ec:Z cq=!(.lst vs)
 ru:∀u∈us,∃p,GK Z (.tup p) u/\Pn p
 cu:∀u∈vs,∃p,GK Z (.tup p) u/\Pn p
 lu:us.length<=k
 lv:vs.length<=k
section
variable {Z Z':Hp}{rq cq:R0}{us vs:#V}{k:Nat}
§RC.to(h:RC Z rq cq us vs k)(t:ai Z Z')(a:Z' rq=!(.lst us))(b:Z' cq=!(.lst vs)):RC Z' rq cq us vs k :=
 {a,b,λu c=>let⟨p,g,n⟩:=h.ru u c;{p,g.ab t,n},λu c=>let⟨p,g,n⟩:=h.cu u c;{p,g.ab t,n},h.lu,h.lv}
§RC.same(h:RC Z rq cq us vs k)(s:af Z Z'):RC Z' rq cq us vs k:=h.to s.ab (s _ _ h.er) (s _ _ h.ec)
§RC.draw(h:RC Z rq cq us vs k)(w:DW Z d)(a:rq≠d)(b:cq≠d)(s:af (del Z d) Z'):RC Z' rq cq us vs k:=h.to (w.ab s) (DP.to s h.er a) (DP.to s h.ec b)
§RC.wr(h:RC Z rq cq us vs k)(e:Z q=!(.lst xs))(a:rq≠q)(b:cq≠q):RC (upd Z q o) rq cq us vs k:=h.to (ai.wl e) (by[ax a];!h.er) (by[ax b];!h.ec)
§RC.le(h:RC Z rq cq us vs k)(b:k<=a):RC Z rq cq us vs a:={h.er,h.ec,h.ru,h.cu,qg h.lu b,qg h.lv b}
§RC.row(h:RC Z rq cq us vs k)(n:rq≠cq)(g:GK Z (.tup p) v)(pn:Pn p):RC (upd Z rq (.lst (us++[v]))) rq cq (us++[v]) vs (k+1):=by
 #t:ai Z (upd Z rq (.lst (us++[v]))):=ai.wl h.er;#b:=h.lu;?{aD,by[ax n.symm];!h.ec,λu a=>?_,λu a=>let⟨p,g,n⟩:=h.cu u a;{p,g.ab t,n},by[qi,qt];¥,j0 h.lv};@z|z:=zh.mp a
 .@p,g,n:=h.ru u z
  !{p,g.ab t,n}
 .[qx.mp z];!{p,g.ab t,pn}
§RC.turn(h:RC Z rq cq us vs k):RC Z cq rq vs us k:={h.ec,h.er,h.cu,h.ru,h.lv,h.lu}
§GC{us:#V}(h:∀u∈us,∃p,GK Z (.tup p) u/\Pn p):∃ps:#(#Key),us.length=ps.length/\cx Z us (ps.map tD)/\PyData.canLayAll0 (ps.map tD)=¶:=by
 @ps,h1,h2:=vJ (P:=λu p=>GK Z (.tup p) u/\Pn p) h;#a:AL (λu p=>GK Z (.tup p) u/\Pn p) us ps:={h1.symm,h2};!{ps,h1.symm,AL.lS (λv p g=>aM g.1) a,(tF λk b=>by @_,_,_,h:=a.gF b;!h).1}
end
theorem KN.data(h:KN H kn):∀n,n<=kn.length->∃ps:#(#Key),ps.length=n/\∀(i:Nat) p,ps[i]?=!p->∃v w,kn[i]?=!v/\p=[.inr w,.inl (i:Int)]/\GK H (.tup p) v/\Pn p
 | 0,_=>{[],O,(λi p z=>nomatch z)}
 |n+1,hn=>by
  @ps,a,hp:=KN.data h n ();#e:=qh (show n<kn.length from ());@w,g,pn:=h n _ e;?{ps++[[.inr w,.inl (n:Int)]],by[qi,a];rfl,λi p z=>?_}
  ¿hi:i<n
  .[zv ()]at z
   !hp i p z
  .#:i=n:=by
    #:=(qk.mp z).1;[qi,a]at this;#:i<n+1:=this;¥
   £this;[ye (),a,gh]at z;&z;!{_,w,e,O,g,pn}
§KN.idx(h:KN H kn)(e:kn[j]?=!v):∃p ds,GK H (.tup p) v/\Pn p/\DV H v (tD p)/\dO H kn ds/\(tD p).canLay0=¶/\PyData.canLayAll0 ds=¶/\(tD p).depth<=61/\(∃d,ds[j]?=!d/\PyData.eqv d (tD p)=¶)/\∀(m:Nat) d,m<j->ds[m]?=!d->PyData.eqv d (tD p)=¿:=by
 @ps,n,hp:=h.data kn.length (qe _);#t:=(qk.mp e).1;#b:ps[j]?=!(ps[j]'()):=qh ();@s,w,f,ep,g,pn:=hp j _ b;[e]at f;&f;generalize ps[j]'()=p at b ep g pn;£ep
 #i:AL (λu p=>GK H (.tup p) u/\Pn p) kn ps:={n.symm,λm u q a o=>by
  @l,_,c,_,g,pn:=hp m q o;[a]at c;&c
  !{g,pn}}
 ?{_,ps.map tD,g,pn,(aM g).dv,(AL.lS (λv p g=>aM g.1) i).dv,pn.lay,(tF λk r=>by @_,_,_,h:=i.gF r;!h).1,jn rfl,{_,by[qu,b];rfl,by[gV];!qI rfl},λm d x a=>?_};[qu]at a
 cases z:ps[m]? with
 |none=>rw[z]at a;&a
 |some q =>
  [z]at a;&a;@_,A,_,eq,_,_:=hp m q z;[gV,eq];?decide_eq_false λy=>?_;injection y with _ y;injection y with y _;injection y with y;¥
§QA{xs:#V}{j:Nat}{v:V}(e:(dY xs none (some 3))[j]?=!v):xs[j]?=!v:=by
 unfold dY at e;[show HT.bZ xs.length 0 none=0 from rfl,List.drop_zero]at e;[List.getElem?_take]at e
 split at e
 .!e
 .&e
§kQ(k:Nat)(d:RY):Prop:=d.canLay0=¶/\d.depth<=k
§fP(h:∀d∈ds,kQ k d):kQ (k+1) (.list ds):={dD λd a=>(h d a).1,j3 (h9 λd a=>(h d a).2)}
§oB(h:∀d∈ds,kQ k d):kQ (k+1) (.tuple ds):={dD λd a=>(h d a).1,j3 (h9 λd a=>(h d a).2)}
§ny(h:PyData.strOk z=¶):kQ k (.str z):={h,qv _}
§kQ.up(h:kQ k d)(l:k<=m):kQ m d:={h.1,qg h.2 l}
§tL(h:Lay p):kQ 1 (tD p):={h,ee p}
§vV(h:PyData.strOk a=¶)(g:PyData.strOk b=¶):PyData.strOk (a++b)=¶:=by
 unfold PyData.strOk at *;¤(a.cps++b.cps).all _=¶;[Array.all_append,h,g];rfl
§G8:∀i:Nat,i<=101->PyData.strOk (ic i)=¶:=by
 #:∀i:Nat,i<102->PyData.strOk (ic i)=¶:=∅
 !λi h=>this i ()
§nR(z:R9):Str.empty++z=z:=by
 ¤({#[]++z.cps}:R9)=z;[Array.empty_append]
§Ca(h:PyData.strOk z=¶)(hi:i<=101):PyData.strOk (pI z i)=¶:=by
 ¶pI
 split
 .!G8 i hi
 .[nR]
  !vV (vV h ∅) (G8 i hi)
theorem p7.cI(h:p7 zs G p l)(W:ZW zs):l.length<=100:=by
 #nd:(l.map (·.pt)).Nodup:=wb.mpr (List.Pairwise.imp_of_mem (λ{a b} f d g z=>by
  #e:a=b:=by
   @e|e|e:=W.Ew a ((h.mem a).mp f).1 b ((h.mem b).mp d).1
   .!e
   .!rx W.nd ((h.mem a).mp f).1 ((h.mem b).mp d).1 z
   .!rx W.nd ((h.mem a).mp f).1 ((h.mem b).mp d).1 z
  [e]at g
  !GG _ _ g) h.up)
 #:=Ea nd (ws:=zs.map (·.pt)) λc j=>by
  @x,i,rfl:=qf.mp j;!qf.mpr {x,((h.mem x).mp i).1,O}
 [qj,qj]at this;!qg this W.cI
§Wk.ok(W:ZW zs){st out:#(#Key×R9)}(h:Wk zs G st out):(∀x∈st,PyData.strOk x.2=¶)->(∀x∈out,PyData.strOk x.2=¶)/\∀x∈st,x∈out:=by
 induction h with
 |nil=>!λ_=>{(λ_=>°),λ_=>°}
 |@cons p z st l out i w e =>
  ¢b;#hz:PyData.strOk z=¶:=b (p,z) qm;#f:=i.cI W
  @h1,h2:=e λx a=>by
   @a|a:=zh.mp a
   .@m,c:=jf a
    [sr]at c;@y,d,rfl:=wj.mp c;#:=(qk.mp d).1;!Ca hz ()
   .!b x (qy _ a)
  ?{λx a=>?_,λx a=>?_}
  .@rfl|a:=q0.mp a
   .!hz
   .!h1 x a
  .@rfl|a:=q0.mp a
   .!qm
   .!qy _ (h2 x (zy _ a))
theorem Nums.ok(h:Nums d nu)(W:XW (tl d.rs)):∀x∈nu,PyData.strOk x.2=¶:=by
 @zs,g,h1,h2:=h;!(h2.ok (h1.1.zw W) λx a=>by[qx.mp a];decide +kernel).1
§NU(H:Hp)(v:V)(e:#Key×R9):Prop:=∃b a,v=.ref b/\H b=!(.tup [.str e.2,a])/\GK H (.tup e.1) a
theorem NU.ab(h:NU H v e)(t:ai H H'):NU H' v e:=by
 @b,a,c,h1,h2:=h;!{b,a,c,t _ _ h1,h2.ab t}
§QL(e:#Key×R9):RY:=.tuple [.str e.2,tD e.1]
§NU.dt(h:NU H v e):DT H v (QL e):=by
 @b,a,rfl,h1,h2:=h;!.tup h1 (.cons (.str _) (.cons (aM h2) .nil))
§D8(z:R9)(i:Nat):(z++if decide (z = "") then("":R9) else ".")++ic i=pI z i:=by
 ¶pI
 ¿h:z = ""
 .[qF (qI h),qF h,h]
  !(congrArg (·++ic i) (nR _)).trans (nR _)
 .[qB (by[decide_eq_false h];!qr),qB h,nR]
inductive fG(vs:#V)(H:Hp)(Q:VK)(_:XK):Prop
 |mk(fa F d nu:_)(_:vs=[.ref fa])(_:FZ H fa F d)(_:dj H)(_:MA H)(_:Nums d nu)(_:nu.length<=63)(_:(∀x∈nu,Pn x.1/\x.2.length<=1000))(_:∀H' q ts,af (bP H s2) H'->dj H'->H q=£->H' q=!(.lst ts)->AL (NU H') ts nu->Q (.ref q) H')
section
variable {vs:#V}{H:Hp}{Q:VK}{E:XK}
end
§Wk.len{st out:#(#Key×R9)}(h:Wk zs G st out):st.length<=out.length:=by
 induction h with
 |nil=>!qe _
 |cons i w a=>rw[qi]at a;[zd,zd];¥
§Wk.sub{st out:#(#Key×R9)}(h:Wk zs G st out):∀x∈st,x∈out:=by
 induction h with
 |nil=>!λ_=>°
 |cons i w b =>
  ¢x a;@rfl|a:=q0.mp a
  .!qm
  .!qy _ (b x (zy _ a))
§K5(z:R9)(j:Nat):(z++if(not (decide (V.str z=V.str "")))=¶ then(".":R9) else "")++KU (V.int ((j:Int)+1))=pI z (j+1):=by
 [←D8 z (j+1),qR]
 ¿h:z = ""
 .[qI h];rfl
 .[decide_eq_false h];rfl
§QU{j:Nat}(h:j<=900):((j:Int)+1).natAbs.log2<1920:=by
 ¤(j+1).log2<1920;!(Nat.log2_lt ()).mpr (jj (show j+1<=1000 from ()) (zf (by decide:1000<2 ^ 10) (bi ⋯ ⋯)))
§uv{S:Nat->Sg}{pt:#Key}(W:WK S n M m)(h:d∈wK M a js (aJ M m pt) p):d.canLay0=¶/\d.depth<=2/\gG d=¶:=by
 unfold wK at h;@kd,_,h2:=jo.mp h
 cases c:tell M js (aJ M m pt) kd p with
 |none=>rw[c]at h2;&h2
 |some k =>
  [c]at h2;#h2:(if(M k).vl=£ then none else some (PyData.tuple [.str (M k).kd,p8 M a k]))=!d:=h2;#f:k<m:=qo.mp (zk.mp (F4 c).1).1;@l,g,j,i:=W.lay k f
  ¿z:(M k).vl=£
  .[qF z]at h2;&h2
  .[qB z]at h2
   &h2
   #b:(p8 M a k).canLay0=¶/\(p8 M a k).depth<=1/\gG (p8 M a k)=¶:=by
    ¶p8
    cases a with
    |true=>!{g,ee _,mN _}
    |false =>
     cases q:(M k).vl with
     |none=>!absurd q z
     |some y=>!{i y q,qv 1,O}
   ?{?_,?_,?_}
   .¤(PyData.strOk (M k).kd&&((p8 M a k).canLay0&&true))=¶
    [j,b.1];rfl
   .¤max 0 (max (p8 M a k).depth 0)+1<=2
    ¥
   .[gG]
    ?pQ λd e=>?_
    ac_nf at e
    @rfl|rfl:=e
    .rfl
    .!b.2.2
theorem lC{α:Type}{P:V->α->¤}{H:Hp}{D:α->RY}(a:∀v r,P v r->DV H v (D r)):∀{vs:#V} {rs:List α},AL P vs rs->dO H vs (rs.map D)
 |[],[],_=>.nil
 |[],_::_,h=>h.none.elim
 |_::_,[],h=>h.nothing.elim
 |_::_,_::_,h=>.cons (a _ _ h.head) (lC a h.tail)
theorem Gh{H:Hp}{f:Nat->R9}:∀js:#Nat,dO H (js.map λc=>.str (f c)) (js.map λc=>.str (f c))
 |[]=>.nil
 |_::js=>.cons (.str _) (Gh js)
§LH(d:DZ)(p:#Key)(r:Nat):RY:=.list ((bD d.L d.a p "column").map λc=>.str (pB d.C d.b p (cQ d.L r) (cQ d.L c)))
§o_(d:DZ)(p:#Key):RY:=.tuple [.list ((bD d.L d.a p "row").map λi=>tD (cQ d.L i)),.list ((bD d.L d.a p "column").map λi=>tD (cQ d.L i)),.list ((bD d.L d.a p "row").map (LH d p))]
§Hf(d:DZ)(p:#Key):#RY:=(bY d.N d.q p).map (uF d.S (aG d.S d.n p) d.N)
noncomputable def sj(d:DZ)(num:#Key->Option R9)(p:#Key)(i:Nat):RY:=.tuple [tD (cj d.S i),.str (tx num (d.S i).sg),.list (wI d p i)]
noncomputable def wR(d:DZ)(num:#Key->Option R9)(x:#Key×R9):RY:=.tuple [.str x.2,tD x.1,.list ((bC d.S d.n x.1).map (sj d num x.1)),.list (Hf d x.1),o_ d x.1]
section
variable {d:DZ}{num:#Key->Option R9}{H:Hp}{v:V}{e:EP}{p:#Key}{z:R9}
§EZ.row(h:EZ d num H v e p z):DV H (.ref e.q2) (.list ((bC d.S d.n p).map (sj d num p))):=by
 @zs,h1,h2:=h.rw_;#:=lC (H:=H) (D:=λx:Nat×R0=>sj d num p x.1) (λv x ⟨b,vn,ms,i,a,f,g,c⟩=>by[i];!.tup (aZ.of a) (.cons (aM f).dv (.cons (.str _) (.cons (.lst (aA.of g) c.dv) .nil)))) h2;[show e.ia.map (λx=>sj d num p x.1)=(e.ia.map (·.1)).map (sj d num p) by[z9];rfl,h.ri]at this;!.lst (aA.of h1) this
§Jc{q f m k:R0}{j l ws:#V}{e:#(Nat×R0)}(h:H q=!(.tup [.ref f,.ref m,.ref k]))(a:H f=!(.lst j))(a2:AN (NM (cQ d.L) H) j (bD d.L d.a p "row"))(b:H m=!(.lst l))(r:AN (NM (cQ d.L) H) l (bD d.L d.a p "column"))(c:H k=!(.lst ws))(s:AL (WZ d p H) ws e)(t:e.map (·.1)=bD d.L d.a p "row"):DV H (.ref q) (o_ d p):=by
 #:=lC (H:=H) (D:=λx:Nat×R0=>LH d p x.1) (λv x ⟨n,o⟩=>by[n];!.lst (aA.of o) (Gh _)) s;[show e.map (λx=>LH d p x.1)=(e.map (·.1)).map (LH d p) by[z9];rfl,t]at this;!.tup (aZ.of h) (.cons (.lst (aA.of a) (lC (P:=NM (cQ d.L) H) (D:=λi=>tD (cQ d.L i)) (λv i g=>(aM g).dv) a2)) (.cons (.lst (aA.of b) (lC (P:=NM (cQ d.L) H) (D:=λi=>tD (cQ d.L i)) (λv i g=>(aM g).dv) r)) (.cons (.lst (aA.of c) this) .nil)))
§EZ.tab(h:EZ d num H v e p z):DV H (.ref e.b4) (o_ d p):=let⟨_,a,a2⟩:=h.ra;let⟨_,b,g⟩:=h.cb;let⟨_,c,f⟩:=h.wc;Jc h.t4 a a2 b g c f h.wi
§EZ.not(h:EZ d num H v e p z):DV H (.ref e.q3) (.list (Hf d p)):=let⟨_,a,b⟩:=h.nt;.lst (aA.of a) b.dv
theorem EZ.dv(h:EZ d num H v e p z):DV H v (wR d num (p,z)):=by
 [h.vb];!.tup (aZ.of h.tp) (.cons (.str _) (.cons (aM h.gp).dv (.cons h.row (.cons h.not (.cons h.tab .nil)))))
end
§JW{pt:#Key}(h:i∈bD L n pt wy)(W:WL L n):i<n:=by
 #h:=(zk.mp h).1;#e:i∈iy L n pt wy↔i∈Rga.kH (Rga.cM (uU L) (cD L n pt wy)):=(Rga.cX (W.uP pt wy).wf).mem_iff;[e,Rga.eN,yh]at h;!qo.mp (zk.mp h).1
theorem A7(pt r c:#Key):∀m,(∀i,i<m->LG (C i).wd)->PyData.strOk (pB C m pt r c)=¶
 | 0,_=>by ¤PyData.strOk ""=¶;decide +kernel
 |m+1,h=>by
  [Ig]
  split
  .@e|e|e|e:=h m () <;> rw[e] <;> decide +kernel
  .!A7 pt r c m λi hi=>h i ()
section
variable {H:Hp}{fa:R0}{F:Nat->R0}{d:DZ}{p:#Key}
§FZ.AQ(h:FZ H fa F d):kQ 3 (o_ d p):=by
 @kvs,l,vs,j,cs,_,_,_,_,e,_,_,_,f:=h.tb
 #g:∀wy,kQ 2 (.list ((bD d.L d.a p wy).map λi=>tD (cQ d.L i))):=λwy=>fP λx b=>by
  @i,hi,rfl:=qf.mp b;!tL (e.lay i (JW hi e)).1
 ?oB λx b=>?_
 ac_nf at b
 @rfl|rfl|rfl:=b
 .!g _
 .!g _
 .?fP λx b=>?_
  @i,hi,rfl:=qf.mp b;?fP λx b=>?_;@c,k,rfl:=qf.mp b;!ny (A7 _ _ _ _ f.wd)
§FZ.MF(h:FZ H fa F d):kQ 3 (.list (Hf d p)):=by
 @xs,ms,ns,fs:=h.fs;@a,b,_:=Kc (pt:=p) fs.ws fs.wn;!{a,j3 b}
§FZ.M7(h:FZ H fa F d)(i:Nat):kQ 3 (.list (wI d p i)):=by
 @xs,ms,ns,fs:=h.fs;!fP λx a=>{(uv fs.wm a).1,(uv fs.wm a).2.1}
§FZ.NX(h:FZ H fa F d)(hi:i∈bC d.S d.n p):i<d.n:=let⟨_,_,_,fs⟩:=h.fs;((lV fs.ws).mp (zk.mp hi).1).1
§FZ.RG(h:FZ H fa F d):kQ 2 (.list ((bC d.S d.n p).map λi=>tD (cj d.S i))):=by
 @xs,ms,ns,fs:=h.fs
 !fP λx a=>by
  @i,hi,rfl:=qf.mp a;!tL (fs.ws.lay i (h.NX hi)).1
§yW(hn:∀p z,num p=!z->PyData.strOk z=¶)(o:mH x)(l:x.canLay0=¶):PyData.strOk (tx num x)=¶:=by
 #ex:∃t,txt num x t/\PyData.strOk t=¶:=by
  @⟨z,rfl,_⟩|⟨w,rfl,_⟩|⟨p,rfl,_⟩:=o
  .!⟨z,.inl rfl,l⟩
  .?⟨_,.inr (.inl ⟨w,O,O⟩),vV ∅ ?_⟩
   #l:(PyData.strOk "picture"&&(PyData.strOk w&&true))=¶:=l;[mi,zt]at l;!l.2
  .?{_,.inr (.inr {p,O,O}),vV ∅ ?_}
   cases q:num p with
   |none=>show PyData.strOk "?"=¶;decide +kernel
   |some z=>!hn p z q
 @t,h1,h2:=ex;[←x8 h1];!h2
§FZ.M1(h:FZ H fa F d)(hn:∀p z,num p=!z->PyData.strOk z=¶)(hp:Pn x.1)(hz:PyData.strOk x.2=¶):kQ 6 (wR d num x):=by
 @xs,ms,ns,fs:=h.fs;?oB λy b=>?_
 ac_nf at b
 @rfl|rfl|rfl|rfl|rfl:=b
 .!ny hz
 .!(tL hp.lay).up ⋯
 .?fP λy b=>?_
  @i,hi,rfl:=qf.mp b;#a:=h.NX hi;?oB λy b=>?_
  ac_nf at b
  @rfl|rfl|rfl:=b
  .!(tL (fs.ws.lay i a).1).up ⋯
  .!ny (yW hn (h.sg i a) (fs.ws.sgn i a).1)
  .!h.M7 i
 .!h.MF.up ⋯
 .!h.AQ.up ⋯
end
§mE(h:x=y)(l:x.canLay0=¶):(if true=¶ then not (PyData.eqv x y) else PyData.eqv x y)=¿:=by
 [qF rfl,←h,PySem.SeqAt.eqv_refl x l];rfl
inductive eE(vs:#V)(H:Hp)(Q:VK)(_:XK):Prop
 |mk(fa F d num v e p z vp:_)(_:vs=[.ref fa,v,.str z,vp])(_:FZ H fa F d)(_:EZ d num H v e p z)(_:GK H (.tup p) vp)(_:Pn p)(_:∀H',af H H'->Q (.bl true) H')
inductive iQ(vs:#V)(H:Hp)(Q:VK)(_:XK):Prop
 |mk(fa F d nu fq es ps H0:_)(_:vs=[.ref fa,.ref fq])(_:FZ H fa F d)(_:dj H)(_:MA H)(_:H fq=!(.lst es))(_:Nums d nu)(_:nu.length<=63)(_:(∀x∈nu,Pn x.1/\x.2.length<=1000))(_:DC d (e_ nu) nu H0 H es ps)(_:∀H',af (bP H s2) H'->dj H'->Q (.bl true) H')
section
variable {vs:#V}{H:Hp}{Q:VK}{E:XK}
end
§sf(ds:#RY):Prop:=PyData.canLayAll0 ds=¶/\(ds.any λd=>PyData.eqv d .none)=¿
structure ES(H:Hp)(e:EP)(z:R9):Prop where
 tp:H e.b=!(.tup [.str z,e.vp,.ref e.q2,.ref e.q3,.ref e.b4])
 t4:H e.b4=!(.tup [.ref e.qa,.ref e.qb,.ref e.qc])
 rw_:∃zs ds,H e.q2=!(.lst zs)/\dO H zs ds/\sf ds/\zs.length<=2000
 nt:∃zs ds,H e.q3=!(.lst zs)/\cx H zs ds/\sf ds/\zs.length<=2000
 ra:∃zs ds,H e.qa=!(.lst zs)/\cx H zs ds/\sf ds/\zs.length<=2000
 cb:∃zs ds,H e.qb=!(.lst zs)/\cx H zs ds/\sf ds/\zs.length<=2000
 wc:H e.qc=!(.lst (e.wa.map λx=>.ref x.2))
 ws:∀x∈e.wa,∃zs ds,H x.2=!(.lst zs)/\cx H zs ds/\sf ds/\zs.length<=2000
 wl:e.wa.length<=1400
 nd:e.B.Nodup
section
variable {H X:Hp}{e:EP}{z:R9}
theorem ES.at(h:ES H e z)(d:e.B[j]?=!a):∃zs,H a=!(.lst zs)/\zs.length<=2000/\∀X,ai H X->(∀b o,b∉e.B.take j->H b=!o->X b=!o)->∃ds,dO X zs ds/\sf ds:=by
 #one:(∃zs ds,H a=!(.lst zs)/\cx H zs ds/\sf ds/\zs.length<=2000)->∃zs,H a=!(.lst zs)/\zs.length<=2000/\∀X,ai H X->(∀b o,b∉e.B.take j->H b=!o->X b=!o)->∃ds,dO X zs ds/\sf ds:=λ⟨zs,ds,a,b,c,l⟩=>{zs,a,l,λX t _=>{ds,(b.ab t).dv,c}}
 match j,d with
 | 0,d=>cases d;@zs,ds,a,b,c,l:=h.rw_;!{zs,a,l,λX t k=>{ds,b.same λb o e=>k b o ° e,c}}
 | 1,d=>cases d;!one h.nt
 | 2,d=>cases d;!one h.ra
 | 3,d=>cases d;!one h.cb
 | 4,d =>
  &d;?{_,h.wc,by[qj];!qg h.wl ⋯,λX t k=>?_}
  #n:∀l:#(Nat×R0),(∀x∈l,x∈e.wa)->∃ds,dO X (l.map λx=>.ref x.2) ds/\sf ds:=λl=>by
   induction l with
   |nil=>!λ_=>{[],.nil,O,O}
   |cons x l p =>
    ¢i;@ds,h1,h2:=p λy m=>i y (qy _ m);#g:=i x qm;@zs,f,a,b,c,_:=h.ws x g;?{.list f::ds,.cons (.lst (aA.of (k _ _ (λz=>?_) a)) (b.ab t).dv) h1,?_,?_}
    .#nd:=h.nd
     #:x.2∈e.wa.map (·.2):=qf.mpr {x,g,O}
     simp only[EP.B,List.nodup_cons,List.mem_cons,not_or]at nd
     #z:x.2∈[e.q2,e.q3,e.qa,e.qb]:=z
     ac_nf at z
     @z|z|z|z:=z
     .!nd.1.2.2.2.2 (z▸this)
     .!nd.2.1.2.2.2 (z▸this)
     .!nd.2.2.1.2.2 (z▸this)
     .!nd.2.2.2.1.2 (z▸this)
    .¤(PyData.canLayAll0 f&&PyData.canLayAll0 ds)=¶
     [c.1,h2.1];rfl
    .!h2.2
  !n e.wa λx h=>h
 |j+5,d =>
  have d:(e.wa.map (·.2))[j]?=!a:=d;[qu]at d;@x,g,rfl:=wj.mp d;!one (h.ws x (qw g))
§ES.has(h:ES H e z)(b:a∈e.B):∃zs,H a=!(.lst zs):=let⟨_,c⟩:=jf b;let⟨zs,e,_⟩:=h.at c;{zs,e}
end
inductive f_(vs:#V)(H:Hp)(Q:VK)(_:XK):Prop
 |mk(e z:_)(_:vs=[.ref e.b])(_:ES H e z)(_:∀H',af (bP H (·∈e.B)) H'->Q (.bl true) H')
§LR.eP(h:LR H v):lT H v:=by
 @a,b,k,p,x,t,y,c,rfl,h1,h2,f,j,i,g:=h;?pM h1 (.cons (aM h2) (.cons (.str _) (.cons (.str _) (.cons (.bl _) (.cons (.tup j (.cons (.int _) (.cons (.int _) .nil))) .nil))))) λd e=>?_
 ac_nf at e
 @rfl|rfl|rfl|rfl|rfl:=e
 .!cm f.lay
 .!d7 i
 .!d7 g
 .!⟨O,O,qv _⟩
 .!fF _ _
§kC.eP(h:kC L H v i)(W:WL L n)(hi:i<n):lT H v:=by
 @b,r,vn,f,kq,rfl,h1,h2,k,a,o:=h
 #l:∃c,DT H f c/\(c.canLay0=¶/\sk c c=¶/\c.depth<=1):=by
  cases q:uU L i with
  |none=>rw[q]at a;#a:f=.aR:=a;£a;!{.none,.aR,O,O,qv _}
  |some j =>
   [q]at a;#p:=(W.back i hi j q).1;!{tD (cQ L j),aM a,cm (W.lay j ()).1}
 @c,m,g:=l;?pM h1 (.cons (aM h2) (.cons (.str _) (.cons (aM k) (.cons m (.cons (.tup o (.cons (.int _) (.cons (.int _) .nil))) (.cons (.bl _) .nil)))))) λd e=>?_
 ac_nf at e
 @rfl|rfl|rfl|rfl|rfl|rfl:=e
 .!cm (W.lay i hi).2
 .!d7 (W.wy i hi)
 .!cm (W.lay i hi).1
 .!g
 .!fF _ _
 .!⟨O,O,qv _⟩
§iD.eP(h:iD C H v i)(W:LJ C m)(hi:i<m):lT H v:=by
 @b,k,j,vc,kq,rfl,h1,h2,c,g,f:=h;?pM h1 (.cons (aM h2) (.cons (aM c) (.cons (aM g) (.cons (.str _) (.cons (.tup f (.cons (.int _) (.cons (.int _) .nil))) .nil))))) λd a=>?_
 ac_nf at a
 @rfl|rfl|rfl|rfl|rfl:=a
 .!cm (W.lay i hi).1
 .!cm (W.lay i hi).2.1
 .!cm (W.lay i hi).2.2
 .?d7 ?_
  @e|e|e|e:=W.wd i hi <;> rw[e] <;> decide +kernel
 .!fF _ _
§FZ.lists(h:FZ H fa F d):∃xs:Nat->#V,∀i,i<9->H (F i)=!(.lst (xs i))/\∀z∈xs i,lT H z:=by
 #each:∀i,i<9->∃xs,H (F i)=!(.lst xs)/\∀z∈xs,lT H z:=λi hi=>by
  @q,t,s,fs:=h.fs;@bs,es,cs,k,c,_:=h.fb;@kvs,B,vs,A,e,h1,h2,m,w,p,f,v,j,n:=h.tb;@ys,u,r,_:=h.lv
  #x:kvs=cE F 9:=by
   @a|⟨o,a⟩:=h1 <;> @b|⟨o',b⟩:=fs.dk <;> rw[a]at b <;> &b <;> rfl
  £x;#h2:=(cR F 6 ⋯).symm.trans h2;#f:=(cR F 7 ⋯).symm.trans f;&h2;&f
  match i,hi with
  | 0,_=>!{bs,c.eb,c.fi.eP 0}
  | 1,_=>!{es,c.ev,c.fi.eP 1}
  | 2,_=>!{cs,c.ec,c.fi.eP 2}
  | 3,_=>!{q,fs.sl,fs.eP 3}
  | 4,_=>!{t,fs.ml,fs.eP 4}
  | 5,_=>!{s,fs.nl,fs.eP 5}
  | 6,_=>!{vs,m,λz hz=>let⟨i,hi,g⟩:=w.mem hz;g.eP p (qo.mp hi)}
  | 7,_=>!{e,v,λz hz=>let⟨i,hi,g⟩:=j.mem hz;g.eP n (qo.mp hi)}
  | 8,_=>!{ys,u,λy l=>(r y l).eP}
 !{λi=>if h:i<9 then Classical.choose (each i h) else[],λi hi=>by
  simp only[dif_pos hi]
  !Classical.choose_spec (each i hi)}
theorem FZ.cJ{H H':Hp}{fa:R0}{F:Nat->R0}{d:DZ}(h:FZ H fa F d)(l:Rd H' fa (.dK (cE F 9)))(k:∀b o,b≠fa->H b=!o->(∀ps,o≠.cf ps)->H' b=!o):FZ H' fa F d:=by
 @xs,ms,ns,fs:=h.fs
 #ne:∀{b o},H b=!o->(∀f,o≠.dK f)->(∀u f,o≠.cJ u (.dK f))->b≠fa:=λe h1 h2 z=>by
  [z]at e;@q|⟨o',q⟩:=fs.dk <;> rw[q]at e <;> &e
  .!h1 _ rfl
  .!h2 _ _ rfl
 #c:∀{b xs},H b=!(.lst xs)->H' b=!(.lst xs):=λe=>k _ _ (ne e (λ_=>°) λ_ _ z=>nomatch z) e λ_=>°;#t:ai H H':=λb xs e=>k _ _ (ne e (λ_=>°) λ_ _ z=>nomatch z) e λ_=>°;?{{xs,ms,ns,fs.to t l λi _ xs e=>c e},h.hm,?_,?_,?_,h.sg}
 .@bs,es,cs,j,g,h1,h2:=h.fb
  !{bs,es,cs,j,{l,g.inj,λi h1 h2=>let⟨xs,e⟩:=g.rest i h1 h2;{xs,c e},c g.eb,c g.ev,c g.ec,g.fi.ab t},h1,h2}
 .@ys,e,h1,h2:=h.lv
  !{ys,c e,λy p=>(h1 y p).ab t,h2}
 .@kvs,D,vs,n,cs,h1,h2,r,B,x,w,A,m,s:=h.tb
  #C:kvs=cE F 9:=by
   @a|⟨o,a⟩:=h1 <;> @b|⟨o',b⟩:=fs.dk <;> rw[a]at b <;> &b <;> rfl
  !{kvs,D,vs,n,cs,C▸l,h2,c r,B.imp λv i g=>kC.ab g t,x,w,c A,m.imp λv i g=>iD.ab g t,s}
§DC.kp{es:#V}(h:DC d num nu H0 H es ps)(k:∀b o,H b=!o->(∀ps,o≠.cf ps)->H' b=!o):DC d num nu H0 H' es ps :=
 {h.len,h.iG,λm v e x a b c=>(h.at_ m v e x a b c).to (λb xs e=>k _ _ e (λ_=>°)) (λa _ o q=>k _ _ q (λ_=>°)),h.nd,h.fr}
noncomputable def xj(d:DZ)(nu:#(#Key×R9)):RY:=.list (nu.map (wR d (e_ nu)))
theorem JB:∀{nu:#(#Key×R9)} {es:#V} {ps:#EP},es.length=nu.length->ps.length=nu.length->(∀(m:Nat) v e x,es[m]?=!v->ps[m]?=!e->nu[m]?=!x->EZ d num H v e x.1 x.2)->dO H es (nu.map (wR d num))
 |[],[],_,_,_,_=>.nil
 |x::nu,v::es,e::ps,h1,h2,h=>.cons (h 0 v e x rfl rfl rfl).dv (JB (nu:=nu) (es:=es) (ps:=ps) (Nat.succ.inj h1) (Nat.succ.inj h2) λm v e x a b c=>h (m+1) v e x a b c)
§DC.dv{es:#V}(h:DC d (e_ nu) nu H0 H es ps)(e:H q=!(.lst es)):DV H (.ref q) (xj d nu):=.lst (aA.of e) (JB h.len h.iG h.at_)
§FZ.Oz(h:FZ H fa F d)(hn:Nums d nu)(nk:∀x∈nu,Pn x.1/\x.2.length<=1000):kQ 7 (xj d nu):=by
 #ok:=hn.ok h.xw;?fP λy a=>?_;@x,b,rfl:=qf.mp a;?h.M1 (λp z e=>?_) (nk x b).1 (ok x b);@y,a,rfl:=wj.mp e;!ok y (jx a)
§FZ.RK(h:FZ H fa F d):FZ (upd H (F 5) (.lst [])) fa F { d with q:=0 }:=by
 @xs,ms,ns,fs:=h.fs
 #r:∀i,i<9->i≠5->F i≠F 5:=λi hi n z=>n (fs.inj i hi 5 ⋯ z)
 #t:ai H (upd H (F 5) (.lst [])):=ai.wl fs.nl
 #f:∀i,i<9->i≠5->∀{o},H (F i)=!o->(upd H (F 5) (.lst [])) (F i)=!o:=λi hi n {o} e=>by[ax (r i hi n)];!e
 #l:∀i,i<9->(∃xs,H (F i)=!(.lst xs))->∃xs,(upd H (F 5) (.lst [])) (F i)=!(.lst xs):=λi hi ⟨xs,e⟩=>by
  ¿z:i=5
  .[z];!{_,aD}
  .!{xs,f i hi z e}
 #k:Rd (upd H (F 5) (.lst [])) fa (.dK (cE F 9)):=Rd.wr fs.dk λz=>by
  #:=fs.nl;[←z]at this;@q|⟨o',q⟩:=fs.dk <;> rw[q]at this <;> &this
 ?{{xs,ms,[],{k,fs.inj,λi a b c e=>l i a (fs.rest i a b c e),f 3 ⋯ ⋯ fs.sl,fs.sa.imp λv i g=>g.ab t,fs.ws,f 4 ⋯ ⋯ fs.ml,fs.ma.imp λv i g=>g.ab t,fs.wm,aD,.nil,{qv _,(λi j _ z=>nomatch z),(λ_=>°),(λ_=>°)}}},h.hm,?_,?_,?_,h.sg}
 .@bs,es,cs,j,g,h1,h2:=h.fb
  !{bs,es,cs,j,{k,g.inj,λi h1 h2=>l i h1 (g.rest i h1 h2),f 0 ⋯ ⋯ g.eb,f 1 ⋯ ⋯ g.ev,f 2 ⋯ ⋯ g.ec,g.fi.ab t},h1,h2}
 .@ys,e,h1,h2:=h.lv
  !{ys,f 8 ⋯ ⋯ e,λy s=>(h1 y s).ab t,h2}
 .@kvs,I,vs,G,cs,h1,h2,u,C,x,m,B,p,w:=h.tb
  #E:kvs=cE F 9:=by
   @a|⟨o,a⟩:=h1 <;> @b|⟨o',b⟩:=fs.dk <;> rw[a]at b <;> &b <;> rfl
  £E;#A:=(cR F 6 ⋯).symm.trans h2;#D:=(cR F 7 ⋯).symm.trans m;&A;&D;!{_,_,vs,_,cs,k,h2,f 6 ⋯ ⋯ u,C.imp λv i g=>kC.ab g t,x,m,f 7 ⋯ ⋯ B,p.imp λv i g=>iD.ab g t,w}
§Mc(h:FZ H fa F d)(p:#Key)(i:Nat):(wI d p i).length<=63:=by
 unfold wI wK;?qg (List.length_filterMap_le _ _) ?_;[(pO _).length_eq];#h1:=vM (M:=d.M) (aJ d.M d.m p) [];#h2:=we (λi=>decide ((d.M i).pt=p)) (List.range d.m);[zo]at h2;[yt,ja]at h1;!qg h1 (qg h2 h.hm)
§Ej(h:d∈wK M a js l p):PyData.eqv d .none=¿:=by
 unfold wK at h;@kd,_,h2:=jo.mp h
 cases b:tell M js l kd p with
 |none=>rw[b]at h2;&h2
 |some k =>
  [b]at h2;#h2:(if(M k).vl=£ then none else some (PyData.tuple [.str (M k).kd,p8 M a k]))=!d:=h2
  ¿z:(M k).vl=£
  .[qF z]at h2;&h2
  .[qB z]at h2
   &h2;rfl
§sy(l:PyData.canLayAll0 ds=¶)(h:∀d∈ds,PyData.eqv d .none=¿):sf ds:={l,ni.mpr λd a=>by[h d a];!qr}
theorem IR{H:Hp}{f:Nat->R9}:∀js:#Nat,cx H (js.map λc=>.str (f c)) (js.map λc=>.str (f c))
 |[]=>.nil
 |_::js=>.cons (.str _) (IR js)
§Rk(d:DZ)(p:#Key)(num:#Key->Option R9)(H:Hp)(v:V)(e:Nat×R0):Prop:=∃b vn ms,v=.ref b/\H b=!(.tup [vn,.str (tx num (d.S e.1).sg),.ref e.2])/\NM (cj d.S) H vn e.1/\H e.2=!(.lst (ms++[.aR]))/\cx H ms (wI d p e.1)
theorem Gn{H:Hp}:∀{xs ys:#V} {ds es:#RY},cx H xs ds->cx H ys es->cx H (xs++ys) (ds++es)
 |[],_,_,_,.nil,h=>h
 |_::_,_,_,_,.cons a b,h=>.cons a (Gn b h)
§EZ.es(k:FZ H fa F d)(hn:∀p z,num p=!z->PyData.strOk z=¶)(h:EZ d num X v e p z)(s:af (bP X (·∈e.A)) Y)(e2:X e.q2=!(.lst zs))(Q:AL (Rk d p num Y) zs e.ia):ES Y e z:=by
 @f3,f4,f5,fs:=k.fs;#na:∀{a},a∈e.B->a∉e.A:=λI E=>(wt.mp h.nd).2.2 _ E _ I rfl
 #t:ai X Y:=λb us q=>c_ s q λI=>by
  @o,M:=h.has b (wg _ I);[q]at M;&M
 #r:∀{a},a∈e.B->∀{o},X a=!o->Y a=!o:=λ{a} E {o} q=>c_ s q (na E);#hal:(bC d.S d.n p).length<=1400:=qg (qg (we _ _) (iE fs.ws)) fs.ws.cI
 #G:∀wy,(bD d.L d.a p wy).length<=1300:=λwy=>by
  @kvs,J,vs,K,cs,_,_,_,_,j,_:=k.tb;!Ar j
 #hwl:e.wa.length<=1300:=by
  #:=congrArg List.length h.wi;[qj]at this;[this];!G _
 #R:∀{zs js} (wy:R9),AN (NM (cQ d.L) X) zs js->js=bD d.L d.a p wy->∃ds,cx Y zs ds/\sf ds/\zs.length<=2000:=λ{zs js} wy a b=>by
  £b;#nm:=(k.AQ (p:=p)).1;?{_,(AL.lS (P:=NM (cQ d.L) X) (D:=λi=>tD (cQ d.L i)) (λv i g=>aM g) a).ab t,sy ?_ λx f=>?_,by[a.1];!qg (G wy) ⋯}
  .@kvs,J,vs,K,cs,_,_,_,_,j,_:=k.tb
   !dD λx f=>by
    @i,hi,rfl:=qf.mp f;!(j.lay i (JW hi j)).1
  .@i,hi,rfl:=qf.mp f
   rfl
 ?{t _ _ h.tp,t _ _ h.t4,?_,?_,?_,?_,?_,?_,(),(wt.mp h.nd).2.1}
 .?{zs,_,r (by simp[EP.B]) e2,lC (D:=λx:Nat×R0=>.tuple [tD (cj d.S x.1),.str (tx num (d.S x.1).sg),.list (wI d p x.1++[.none])]) (λv x ⟨b,vn,ms,Z,U,k2,W,k4⟩=>by[Z];!.tup (aZ.of U) (.cons (aM k2).dv (.cons (.str _) (.cons (.lst (aA.of W) (Gn k4 (.cons .aR .nil)).dv) .nil)))) Q,sy (dD λx f=>?_) λx f=>?_,?_}
  .@y,u,rfl:=qf.mp f
   #hi:y.1∈bC d.S d.n p:=by[←h.ri];!qf.mpr {y,u,O}
   #l:=k.NX hi;?dD λx f=>?_
   ac_nf at f
   @rfl|rfl|rfl:=f
   .!(fs.ws.lay _ l).1
   .!yW hn (k.sg _ l) (fs.ws.sgn _ l).1
   .?dD λx f=>?_
    @f|f:=zh.mp f
    .!(uv fs.wm f).1
    .[qx.mp f];rfl
  .@y,u,rfl:=qf.mp f
   rfl
  .[Q.1]
   #:=congrArg List.length h.ri;[qj]at this;¥
 .@w,h1,h2:=h.nt
  ?{w,_,r (by simp[EP.B]) h1,h2.ab t,sy (k.MF (p:=p)).1 λx f=>?_,?_}
  .@i,_,rfl:=qf.mp f
   rfl
  .[My.cx.len h2,qj]
   #:=we (λi=>decide ((d.N i).pt=p)) (List.range d.q);[zo]at this;#:=fs.wn.cI;¶bY;¥
 .@w,h1,h2:=h.ra
  @ds,a,b,c:=R _ h2 rfl;!{w,ds,r (by simp[EP.B]) h1,a,b,c}
 .@w,h1,h2:=h.cb
  @ds,a,b,c:=R _ h2 rfl;!{w,ds,r (by simp[EP.B]) h1,a,b,c}
 .@ws,h1,h2:=h.wc
  [r (by simp[EP.B]) h1,show ws=e.wa.map (λe=>V.ref e.2) from List.ext_getElem? λm=>?_];[qu]
  cases q:ws[m]? with
  |none=>rw[v9 (by[←h2.1];!mz.mp q)];rfl
  |some v =>
   @e,T,g:=h2.at q;[T,g.1];rfl
 .¢x f
  @ws,h1,h2:=h.wc;@v,_,_,g:=h2.gF f;@kvs,J,vs,K,cs,_,_,_,_,_,_,_,_,C:=k.tb;?{_,_,r (by simp only[EP.B,List.mem_cons,List.mem_map];!.inr (.inr (.inr (.inr (.inr {x,f,O}))))) g,IR _,sy (dD λy u=>?_) λy u=>?_,?_}
  .@c,_,rfl:=qf.mp u
   !A7 _ _ _ _ C.wd
  .@c,_,rfl:=qf.mp u
   rfl
  .¶xx
   [qj];!qg (G _) ⋯
§NS{ps:#EP}(nd:(ps.flatMap λe=>e.A++e.B).Nodup){j:Nat}{e:EP}(h:ps[j]?=!e):∀a∈e.A++e.B,∀y∈ps.take j,a∉y.A++y.B:=λa f y b c=>by
 #d:=(qk.mp h).1
 #g:ps=ps.take j++e::ps.drop (j+1):=by
  #:=rh j ps;[jm d,(qk.mp h).2]at this;!this.symm
 [g,rg,List.flatMap_cons]at nd;!(wt.mp nd).2.2 a (List.mem_flatMap.mpr {y,b,c}) a (wg _ f) rfl
§rL:Sp:=λvs H Q _=>vs.length=2/\False
§O_(h:rL vs H Q E):vs.length=2:=h.1
§rF:Sp:=λvs H Q _=>vs.length=3/\False
§M'(h:rF vs H Q E):vs.length=3:=h.1
§qV:Sp:=λvs H Q _=>vs.length=1/\False
§Oa(h:qV vs H Q E):vs.length=1:=h.1
§qZ:Sp:=λvs H Q _=>vs.length=4/\False
§QW(h:qZ vs H Q E):vs.length=4:=h.1
§sJ:Sp:=λvs H Q _=>vs.length=6/\False
§Pu(h:sJ vs H Q E):vs.length=6:=h.1
§AR:az Gy ["births","part"] (ag uc):={O,O,O,∅,O,∅,∅}
§Cs:az KI ["leave"] (ag rC):={O,O,O,∅,O,∅,∅}
§CD:az K3 ["place"] (ag ua):={O,O,O,∅,O,∅,∅}
§Ah:az xV ["facts","part"] (ag kR):={O,O,O,∅,O,∅,∅}
§Bh:az Ga ["seats","side"] (ag tV):={O,O,O,∅,O,∅,∅}
§CM:az G5 ["row"] (ag rY):={O,O,O,∅,O,∅,∅}
§BJ:az Jd ["mark"] (ag sL):={O,O,O,∅,O,∅,∅}
§Dt:az Ja ["note"] (ag se):={O,O,O,∅,O,∅,∅}
§wZ:az HL ["facts"] (ag kO):={O,O,O,∅,O,∅,∅}
§xc:az Lf ["outer_of","part","ended"] (ag tP):={O,O,O,∅,O,∅,∅}
§DA:az Lu ["cell"] (ag sO):={O,O,O,∅,O,∅,∅}
§EA:az Kj ["number","place"] (ag rQ):={O,O,O,∅,O,∅,∅}
§Dq:az K7 ["numbers","sign"] (ag sv):={O,O,O,∅,O,∅,∅}
§Ap:az IK ["_law_script","_law_k"] (ag rA):={O,O,O,∅,O,∅,∅}
§Cn:az Ji ["_law_cell","_law_digits"] (ag uh):={O,O,O,∅,O,∅,∅}
§K':az JC ["_law_drawn_here","_law_many"] (ag uD):={O,O,O,∅,O,∅,∅}
§Hz:az FV ["_law_entry"] (ag rB):={O,O,O,∅,O,∅,∅}
§La:az HG ["seats","begin","end"] (ag uO):={O,O,O,∅,O,∅,∅}
§oY:az Kx ["outer_of"] (ag uu):={O,O,O,∅,O,∅,∅}
§fM:az IV ["_law_drawn_here","_law_facts_here","_law_roll"] (ag ow):={O,O,O,∅,O,∅,∅}
§Lo:az Kr ["_law_drawn_here","_law_known"] (ag sE):={O,O,O,∅,O,∅,∅}
§DG:az GQ ["_law_drawn_here","_law_names"] (ag rZ):={O,O,O,∅,O,∅,∅}
§fK:az FP ["_law_drawn_here","_law_facts_here","_law_roll","_law_known"] (ag nU):={O,O,O,∅,O,∅,∅}
§um:az KR ["_law_drawn_here","_law_facts_here","_law_roll","_law_known"] (ag oy):={O,O,O,∅,O,∅,∅}
§Eb:az Gk ["leaves","hand","to"] (ag qT):={O,O,O,∅,O,∅,∅}
§DI:az Lx ["places"] (ag uH):={O,O,O,∅,O,∅,∅}
§oP:az xP ["facts","part","row"] (ag lg):={O,O,O,∅,O,∅,∅}
§EX:az F8 ["telling","parts"] (ag tI):={O,O,O,∅,O,∅,∅}
§xg:az Jw ["facts","stands"] (ag lH):={O,O,O,∅,O,∅,∅}
§Js:az yO ["facts","part"] (ag k_):={O,O,O,∅,O,∅,∅}
§lL:az FW ["_law_drawn_here","_law_facts_here","_law_roll","_law_known"] (ag oG):={O,O,O,∅,O,∅,∅}
§jN:az Lm ["_law_drawn_here","_law_facts_here","_law_roll","_law_names"] (ag oA):={O,O,O,∅,O,∅,∅}
§AJ:az HC ["leaves","chain","hand","to"] (ag sU):={O,O,O,∅,O,∅,∅}
§si:az Gd ["places"] (ag ue):={O,O,O,∅,O,∅,∅}
§mO:az Gr ["telling"] (ag sN):={O,O,O,∅,O,∅,∅}
§oU:az HA ["_law_script","_law_roll"] (ag nE):={O,O,O,∅,O,∅,∅}
§JI:az Ir ["roll","births","leaves","hand","part","to"] (ag qY):={O,O,O,∅,O,∅,∅}
§Dg:az Jj ["facts","part"] (ag sQ):={O,O,O,∅,O,∅,∅}
§rJ:az HV ["telling"] (ag su):={O,O,O,∅,O,∅,∅}
§A3:az xZ ["facts","part","way"] (ag jC):={O,O,O,∅,O,∅,∅}
§Lj:az yS ["facts","part"] (ag oo):={O,O,O,∅,O,∅,∅}
§Fi:az GZ ["facts"] (ag oM):={O,O,O,∅,O,∅,∅}
§oZ:az zZ ["facts","part"] (ag nT):={O,O,O,∅,O,∅,∅}
§Bk:az Hg ["facts","roll","hand","part"] (ag oN):={O,O,O,∅,O,∅,∅}
§mR:az yI ["facts","part","place"] (ag iY):={O,O,O,∅,O,∅,∅}
§mD:az xK ["facts","part"] (ag iT):={O,O,O,∅,O,∅,∅}
§pZ:az GO ["facts"] (ag rV):={O,O,O,∅,O,∅,∅}
§Dr:az Hl ["facts","part"] (ag rD):={O,O,O,∅,O,∅,∅}
§Eh:az KY ["facts","part"] (ag rP):={O,O,O,∅,O,∅,∅}
§mJ:az F2 ["facts","roll","hand"] (ag nV):={O,O,O,∅,O,∅,∅}
§Dx:az ug ["facts","part","numbers"] (ag iW):={O,O,O,∅,O,∅,∅}
§jW:az IZ ["_law_facts_here"] (ag uf):={O,O,O,∅,O,∅,∅}
§wG:az F3 ["_law_facts_here","_law_entry","_law_number","_law_part"] (ag rK):={O,O,O,∅,O,∅,∅}
§Cg:az Kh ["facts","numbers","part","is_open"] (ag qX):={O,O,O,∅,O,∅,∅}
§Ak:az J7 ["_law_facts_here","_law_found"] (ag rT):={O,O,O,∅,O,∅,∅}
§CQ:az Km ["facts","roll","hand"] (ag nN):={O,O,O,∅,O,∅,∅}
§lW:az zN ["_law_script"] (ag eA):={O,O,O,∅,O,∅,∅}
section
variable (P:Program)(w:World)(K:PySem.W.Frag)(mg:R9->Option MD)(base:Heap)
abbrev yZ:Prop:=×cG 1 "birth_chain" ["births","part"] rL
abbrev yJ:Prop:=×cG 1 "key_of_leave" ["leave"] qV
abbrev zB:Prop:=×cG 1 "key_of_place" ["place"] E3
abbrev uJ:Prop:=×cG 1 "signs_in" ["facts","part"] DH
abbrev yY:Prop:=×cG 1 "place_of_side" ["seats","side"] AA
abbrev oE:Prop:=×cG 1 "seats_in" ["row"] Dc
abbrev xN:Prop:=×cG 1 "key_of_mark" ["mark"] Bw
abbrev xR:Prop:=×cG 1 "key_of_note" ["note"] C_
abbrev tG:Prop:=×cG 1 "telling_places" ["facts"] D2
abbrev rM:Prop:=×cG 1 "way_out" ["outer_of","part","ended"] Ed
abbrev zS:Prop:=×cG 1 "key_of_cell" ["cell"] Bf
abbrev yl:Prop:=×cG 1 "inner_number" ["number","place"] E1
abbrev ya:Prop:=×cG 1 "text_of_sign" ["numbers","sign"] D9
abbrev x6:Prop:=×cG 1 "_law_cell_at" ["_law_script","_law_k"] fV
abbrev xO:Prop:=×cG 1 "_law_drawn" ["_law_cell","_law_digits"] iJ
abbrev fO:Prop:=×cG 1 "_law_draw" ["_law_drawn_here","_law_many"] jS
abbrev yT:Prop:=×cG 1 "_law_spoiled" ["_law_entry"] f_
abbrev tM:Prop:=×cG 2 "stretch" ["seats","begin","end"] Dh
abbrev uI:Prop:=×cG 2 "reaching_main" ["outer_of"] CY
abbrev yX:Prop:=×cG 2 "_law_parts" ["_law_drawn_here","_law_facts_here","_law_roll"] iL
abbrev xX:Prop:=×cG 2 "_law_sign" ["_law_drawn_here","_law_known"] jT
abbrev zE:Prop:=×cG 2 "_law_side" ["_law_drawn_here","_law_names"] jR
abbrev zT:Prop:=×cG 2 "_law_tables" ["_law_drawn_here","_law_facts_here","_law_roll","_law_known"] hV
abbrev yV:Prop:=×cG 2 "_law_leaves" ["_law_drawn_here","_law_facts_here","_law_roll","_law_known"] gO
abbrev yH:Prop:=×cG 3 "told_leaves" ["leaves","hand","to"] rF
abbrev yQ:Prop:=×cG 3 "followers_of" ["places"] C4
abbrev xS:Prop:=×cG 3 "telling_in_row" ["facts","part","row"] Dz
abbrev zW:Prop:=×cG 3 "greatest_place" ["telling","parts"] E_
abbrev yP:Prop:=×cG 3 "shown_among" ["facts","stands"] BH
abbrev zJ:Prop:=×cG 3 "words_told" ["facts","part"] EG
abbrev Ab:Prop:=×cG 3 "_law_signs" ["_law_drawn_here","_law_facts_here","_law_roll","_law_known"] iA
abbrev xM:Prop:=×cG 3 "_law_stretches" ["_law_drawn_here","_law_facts_here","_law_roll","_law_names"] fh
abbrev yC:Prop:=×cG 4 "is_let" ["leaves","chain","hand","to"] qZ
abbrev tT:Prop:=×cG 4 "ordered" ["places"] Ez
abbrev yK:Prop:=×cG 4 "turned_in" ["telling"] Dy
abbrev zK:Prop:=×cG 4 "_law_facts" ["_law_script","_law_roll"] iv
abbrev zj:Prop:=×cG 5 "has_leave" ["roll","births","leaves","hand","part","to"] sJ
abbrev oz:Prop:=×cG 5 "row_of" ["facts","part"] Cp
abbrev xQ:Prop:=×cG 5 "stood_in" ["telling"] DD
abbrev zX:Prop:=×cG 5 "lines_of" ["facts","part","way"] Ay
abbrev kI:Prop:=×cG 6 "living" ["facts","part"] Dw
abbrev xT:Prop:=×cG 6 "stands_in" ["facts"] CB
abbrev tK:Prop:=×cG 6 "table_of" ["facts","part"] Fs
abbrev zY:Prop:=×cG 6 "may_read" ["facts","roll","hand","part"] CI
abbrev zH:Prop:=×cG 7 "told_of_signs" ["facts","part","place"] BU
abbrev uC:Prop:=×cG 7 "notes_of" ["facts","part"] Ex
abbrev sM:Prop:=×cG 7 "all_inner_parts" ["facts"] C6
abbrev sR:Prop:=×cG 8 "marks_of" ["facts","part"] Bl
abbrev zP:Prop:=×cG 8 "inner_parts" ["facts","part"] DL
abbrev yN:Prop:=×cG 8 "numbered_parts" ["facts","roll","hand"] AU
abbrev yD:Prop:=×cG 9 "shown_row" ["facts","part","numbers"] Ai
abbrev yF:Prop:=×cG 9 "_law_numbered" ["_law_facts_here"] fG
abbrev zU:Prop:=×cG 9 "_law_entry_good" ["_law_facts_here","_law_entry","_law_number","_law_part"] eE
abbrev xJ:Prop:=×cG 10 "entry" ["facts","numbers","part","is_open"] Fe
abbrev yU:Prop:=×cG 10 "_law_right" ["_law_facts_here","_law_found"] iQ
abbrev zG:Prop:=×OD 11 "document" ["facts","roll","hand"] D6
end
section
variable (P:Program)(w:World){K:PySem.W.Frag}{mg:R9->Option MD}(base:Heap){tk:R9->Tok}
§Er(T:Txt K mg tk)(F:FO K mg "birth_chain" uc):×yZ:=by
 ?aN F AR (iP λ_ _=>rfl) (λ_ _ _ _ h=>O_ h) λfa b A outer s H vs Q E a h=>?_
 ?{_,(aj (sn AR.nd 2 (cy (fR a.hd (p5 a)) T.c6 boot_dict (a1 (vv 0))))
   (aj (sn AR.nd 3 (bJ (a1 (vv 1))))
   (aj (p9 PassesOwn.never (PW.pt (jQ (ck (pP (cO a)) (xi (vv 3) (et iq aB)) (vv 2)) (jJ (ck yR (cb cZ T.bQ boot_len (a1 (vv 3))) (cb GF T.bQ boot_len (a1 (vv 2))))))) (aE (ap (vv 3) (a1 (dE (cO a) (vv 2) (xi (vv 3) (et iq aB)) (λ_ _=>rfl))))))
   (aE (aO (vv 3)))))),?_}
 !h.2.elim
§DK(T:Txt K mg tk)(F:FO K mg "key_of_leave" rC):×yJ:=by
 ?aN F Cs (lR λ_=>rfl) (λ_ _ _ _ h=>Oa h) λfa a A outer s H vs Q E b h=>?_;?{_,(aE (aO (xt (vv 0)))),?_};!h.2.elim
§BZ(T:Txt K mg tk)(F:FO K mg "key_of_place" ua):×zB:=by
 ?aN F CD (lR λ_=>rfl) {} λfa a A outer s H vs Q E j h=>?_;?{_,(aE (aO (xt (vv 0)))),?_};@v,nk,bh,D,k,rfl,c,d:=h;@b,vn,m,vk,rfl,f,i,g,e:=c;!{_,O,b,_,2,_,O,O,aZ.of f,O,d vk e}
§E9(T:Txt K mg tk)(F:FO K mg "signs_in" kR):×uJ:=by
 ?aN F Ah (iP λ_ _=>rfl) {} λfa q A outer s H vs Q E y h=>?_;#m:(A.deeper (envOfC "signs_in" (ag kR) ↑s fa q)).units+1<cLine:=cT y;?{_,(aE (aO (tO (ag kR) xV [("part",1)] (il (cV m (vv 0) aQ (λ_ _=>rfl))) (λ_ _ _=>(fB (ck (FI y) (xt (vv 0)) (vc 1)))) (λ_ _ _=>(vv 0))))),?_};@fa,Z,pt,S,n,rfl,⟨c,C,vs,N,k,a,B,W⟩,o,e,U:=h
 #p:vs.length=n:=by[B.1,zo]
 #cI:=W.cI;?{_,O,fa,.ref C,O,.inl {c,.inr "signs",N,O,k.symm},C,O,{_,aA.of a},c7 (xs:=vs) (cK ()) (λj ys H'=>H'=H/\AN (SN S H) ys (((List.range n).take j).filter (nK S pt))) {O,.nil} (λ_ _ H' s'=>by[s'.1];!aA.of a) (λj x ys H' V K0 M s' L R=>?_) λH1 G ys s' hy J=>?_}
 .@rfl,d:=s'
  @i,I,sn:=B.at M;#r:i<n:=qo.mp (qw I);#t:=sn;@b,vq,vn,vb,kq,vg,rfl,h1,h2,X,h4,Y,h6:=sn
  #tk:(List.range n).take (j+1)=(List.range n).take j++[i]:=by[qz,I];rfl
  ?{_,O,b,_,0,_,O,O,aZ.of h1,O,_,O,tD (S i).pt,tD pt,(aM h2).dv,(aM o).dv,(W.lay i r).2,e,qg (yb _ _) (qg (ee _) ⋯),_,O,?_};#f:(if false=¶ then not (PyData.eqv (tD (S i).pt) (tD pt)) else PyData.eqv (tD (S i).pt) (tD pt))=decide ((S i).pt=pt):=gV _ _
  ¿hp:(S i).pt=pt
  .?cW (by[f];!qI hp) ?_
   ?{_,O,L _ _ {O,?_}};[tk];!AN.pick (vs:=vs) d t (iN.mpr hp)
  .?bV (by[f];!decide_eq_false hp) ?_
   ?R _ {O,?_};[tk];!d.skip λz=>hp (iN.mp z)
 @rfl,d:=s';[p,yr (by[zo];!qe _)]at d;#D:af H1 (upd H1 G (.lst ys)):=af.new J;!U _ G ys D J aD (d.imp λv i g=>SN.ab g D.ab)
§CP(T:Txt K mg tk)(F:FO K mg "place_of_side" tV):×yY:=by
 ?aN F Bh (iP λ_ _=>rfl) {} λfa q A outer s H vs Q E n h=>?_
 ?{_,(oS (bA (tW (PW.pt (dC (ck Jr (vv 1) dB) (kD (ck (xn (cO n)) (xt (vv 1)) (vv 0)))))) (aE (aO (cb GF T.bQ boot_len (a1 (vv 0))))) cc)
   (aE (aO (aH cY (dE (cO n) (vv 0) (xt (vv 1)) (λ_ _=>rfl)) (rE (ck c8 (xt (vv 1)) aQ) aB aB))))),?_}
 @dq,kvs,S,js,v,d,rfl,c,⟨g,j⟩,f,e,m:=h
 match d,f,e with
 |none,f,_ =>
  have f:v=.aR:=f;£f;?{λ_ _=>False,{λb H'=>b=¶/\H'=H,{_,O,O,_,O,cW rfl {O,O}},?_},λ_ _ z=>z.elim};rintro b H' ⟨rfl,rfl⟩;?cW rfl {_,O,dq,kvs,O,c,?_};[g];!m
 |some (i,b),f,e =>
  @a,vn,rfl,k,o:=f;have hi:=e i b rfl;have p:=j i hi;?{λσ' H'=>σ'=[!(.ref dq),!(.ref a)]/\H'=H,{λb H'=>b=¿/\H'=H,{_,O,O,_,O,bV rfl {_,O,a,_,0,_,O,O,aZ.of k,O,_,O,dq,kvs,.tup (cj S i),O,.inl c,o,_,O,?_,O}},?_},?_}
  .[p];rfl
  .rintro r H' ⟨rfl,rfl⟩
   !bV rfl {O,O}
  rintro σ' H' ⟨rfl,rfl⟩;?{_,O,_,O,a,_,0,_,O,O,aZ.of k,O,dq,kvs,.tup (cj S i),_,O,.inl c,o,p,_,O,a,_,1,_,O,O,aZ.of k,O,O,_,O,?_}
  cases b with
  |true=>!cW (qI rfl) {_,_,O,O,m}
  |false=>!bV (decide_eq_false (λz=>absurd (V.str.inj z) ∅)) {_,_,O,O,by ¤Q (V.int ((js.idxOf i:Int)+0)) _;[Int.add_zero];!m}
§Bv(T:Txt K mg tk)(F:FO K mg "seats_in" rY):×oE:=by
 ?aN F CM (lR λ_=>rfl) {} λfa W A outer s H vs Q E t h=>?_;?{_,(aE (aO (cy (fR t.hd (p5 t)) T.c6 boot_dict (a1 (iu (own:=["seat","name"]) (fr:=[]) rfl (Jx (by rfl) T.dW (a1 (vv 0))) {O,∅,∅} (iX ∅) (λ_ _ _=>(jP (n:=2) rfl (de (cN (i:=0) (by ¤List.Nodup (["seat","name"]:#R9);decide +kernel) rfl (Or.inl rfl)) (de (cN (i:=1) (by ¤List.Nodup (["seat","name"]:#R9);decide +kernel) rfl (Or.inl rfl)) g_)))) (λ_=>pL rfl rfl ⋯) (λ_ _ _=>dI) (λ_ _ _=>(a9 (a2 (vv 1) (vv 0))))))))),?_};@p,zs,nk,js,rfl,ep,D,nd,inj,hl,U:=h;#m:zs.length=js.length:=D.1;?{_,O,p,O,{_,aA.of ep},M4 (xs:=zs) (cK ()) (λj us H'=>af H H'/\∃kvs,cw H' us kvs/\jU nk (λv i=>v=.int ((js.idxOf i:Nat):Int)) kvs (js.take j)) {af.refl _,[],trivial,trivial} (λ_ _ H' s'=>aA.of (s'.1 _ _ ep)) (λj x us H' o K1 S R s' gp N k0=>?_) λH1 C us s' hy Z=>?_}
 .@s',kvs,q,d:=s'
  @i,I,J:=D.at R
  #tk:js.take (j+1)=js.take j++[i]:=by[qz,I];rfl
  #g:js.idxOf i=j:=An nd I;#c:af H' (upd H' o (.tup [.int j,x])):=af.new gp;?{o,_,O,aZ.of aD,O,_,_,O,_,_,O,O,dH (B:=S _) ?_};generalize upd H' o (.tup [.int j,x])=H2 at c;?{_,O,_,O,aF rfl,λM G y k r=>N _ _ {(s'.trans c).trans k,kvs++[(.tup (nk i),x,.int (j:Int))],cw.snoc (e:=(.tup (nk i),x,.int (j:Int))) {M,O,r,NM.ab J ((s'.trans c).trans k).ab} (q.ab (c.trans k).ab),?_}};[tk];!d.snoc rfl (by ¤V.int _=_;[g])
 @X,kvs,q,d:=s';[m,ze]at d;#c:af H1 (upd H1 C (.lst us)):=af.new Z;#f:=X.trans c;?{C,us,kvs,O,aA.of aD,q.ab c.ab,(),λdq G y k r=>U G dq _ (f.trans k) (f.free y) r {?_,λi hi=>?_}}
 .[pV kvs [] (by[wz,G6 d];!wb.mpr (nd.imp_of_mem λ{a b} L Y h e=>h (inj a L b Y (KD.tup.inj e)))),wz,JY d]
 .@v,h1,rfl:=jU.get (all:=js) inj (done:=[]) (acc:=[]) d (λ_=>°) (λi h=>h) (λ_=>°) i (.inr hi)
  !h1
§Dl(T:Txt K mg tk)(F:FO K mg "key_of_mark" sL):×xN:=by
 ?aN F BJ (lR λ_=>rfl) {} λfa a A outer s H vs Q E j h=>?_;?{_,(aE (aO (xt (vv 0)))),?_};@v,S,M,i,rfl,d,e:=h;@b,m,o,g,vn,kq,rfl,h1,h2,f,n,k,c:=d;!{_,O,b,_,6,_,O,O,aZ.of h1,O,e _ (.tup c (.cons (.int _) (.cons (.int _) .nil)))}
§DB(T:Txt K mg tk)(F:FO K mg "key_of_note" se):×xR:=by
 ?aN F Dt (lR λ_=>rfl) {} λfa a A outer s H vs Q E j h=>?_;?{_,(aE (aO (xt (vv 0)))),?_};@v,S,N,i,rfl,c,e:=h;@b,m,o,g,vn,kq,rfl,h1,h2,f,n,k,d:=c;!{_,O,b,_,5,_,O,O,aZ.of h1,O,e _ (.tup d (.cons (.int _) (.cons (.int _) .nil)))}
§ET(T:Txt K mg tk)(F:FO K mg "telling_places" kO):×tG:=by
 ?aN F wZ (lR λ_=>rfl) {} λfa o A outer s H vs Q E d h=>?_;#hu:(A.deeper (envOfC "telling_places" (ag kO) ↑s fa o)).units<cLine:=d.tH;#I:(A.deeper (envOfC "telling_places" (ag kO) ↑s fa o)).units+1<cLine:=cT d
 ?{_,(aj (sn wZ.nd 1 jV)
   (aj (fo (il (cV I (vv 0) aQ (λ_ _=>rfl))) (gn wZ.nd 2)
   (aj (sn wZ.nd 3 (xt (vv 2)))
   (aE (bA (PW.pt (dC (ck (xn (cO d)) (vv 3) (vv 1)) (kD (ck (D7 hu) (xt (dE (cO d) (vv 1) (vv 3) (λ_ _=>rfl))) (xt (vv 2)))))) (aE (jY (cO d) (vv 1) (vv 3) (vv 2) rfl)) cc))))
   (aE (aO (vv 1))))),?_}
 @fa,es,rs,rfl,fq,kk:=h;@F,dk,e1,N,hw,up,hl:=id fq;¢dq H1 U M ed;?{_,O,fa,.ref (F 1),O,.inl {cE F 9,.inr "places",Rd.same dk M,O,(cR F 1 ⋯).symm},?_};?{F 1,O,{_,aA.of (M _ _ e1)},eH (xs:=es) (λj σ X=>∃(kvs:#(KD×V×V)) (i k:Option V),σ=[!(.ref fa),!(.ref dq),i,k]/\af H X/\X dq=!(.dG kvs)/\AL (EK (fx X) X) kvs (tl (rs.take j))) {[],none,none,O,M,ed,.nil} (λj σ X _ ⟨_,_,_,_,s,_⟩=>aA.of (s _ _ e1)) ?_ ?_}
 .rintro j x σ X hx ⟨kvs,i,k,rfl,C,f,g⟩
  @r,d,R:=N.at hx;#G:=R.ab C.ab;#c:=BX (rs.take j);#hjl:j<rs.length:=(qk.mp d).1
  #z:rs.take (j+1)=rs.take j++[r]:=by[qz,d];rfl
  @b,Y,vo,vn,kq,rfl,h1,h2,h3,h4,h5:=id G;#m:kvs.length<sizeLine:=cF (by[g.1];#:=vY (rs.take j);[wv]at this;#:=N.1;¥)
  #n:∀a,AL (EK (fx X) X) a (tl (rs.take j++[r]))->∃(kvs:#(KD×V×V)) (i k:Option V),[!(V.ref fa),!(V.ref dq),!(V.ref b),!Y]=[!(.ref fa),!(.ref dq),i,k]/\af H (upd X dq (.dG a))/\(upd X dq (.dG a)) dq=!(.dG kvs)/\AL (EK (fx (upd X dq (.dG a))) (upd X dq (.dG a))) kvs (tl (rs.take (j+1))):=λa a' =>
   {a,_,_,O,C.wr U,aD,by[z];!a'.imp λe x p=>p.imp (ai.wd f) λq=>q.ab (ai.wd f)}
  ?{_,O,b,_,0,Y,O,O,aZ.of h1,O,?_};#W:∀D:Ends,(∀σ X,(∃(kvs:#(KD×V×V)) (i k:Option V),σ=[!(.ref fa),!(.ref dq),i,k]/\af H X/\X dq=!(.dG kvs)/\AL (EK (fx X) X) kvs (tl (rs.take (j+1))))->D.nx σ X)->True:=λ_ _=>trivial;?{_,O,_,O,dq,kvs,.tup r.pt,O,.inl f,h2,_,O,?_};[qF rfl,Fd g c]
  cases hb:hp (tl (rs.take j)) r.pt with
  |false =>
   refine cW rfl ?_;?{_,O,_,O,_,O,dq,kvs,.tup r.pt,O,f,h2,m,?_};!n _ (by[uo];!A6 g c h2 G)
  |true =>
   refine bV rfl ?_;@B,y,ex':=qf.mp (gH.mp hb);@v,Z,pv:=pK g c y;[ex']at Z;@b',vp',vo',vn',t,rfl,S,h2',h3',h4',L:=pv;?{_,O,_,O,dq,kvs,.tup r.pt,_,O,.inl f,h2,Z,b',_,3,.ref t,O,O,aZ.of S,O,_,O,b,_,3,.ref kq,O,O,aZ.of h1,O,t,kq,[B.ka,B.kb],[r.ka,r.kb],O,O,aZ.of L,aZ.of h5,_,O,?_}
   #J:bU B.ka B.kb r.ka r.kb:=by
    #hm:=tJ y;#:=bj.mp (z▸(up.sublist (kj (j+1) rs)));!this.2.2 B hm r (qx.mpr rfl)
   ?cW (M9 J) ?_;?{_,O,_,O,_,O,dq,kvs,.tup r.pt,O,f,h2,m,?_};!n _ (by[uo];!A6 g c h2 G)
 .rintro σ X ⟨kvs,i,k,rfl,C,f,g⟩
  [N.1,ze]at g;!{_,O,kk X dq kvs C U f g}
§Fl(T:Txt K mg tk)(F:FO K mg "way_out" tP):×rM:=by
 ?aN F xc (wQ λ_ _ _=>rfl) {} λfa cdv A outer s H vs Q E L h=>?_
 ?{_,(aj (sn xc.nd 3 (bJ (a1 (vv 1))))
   (aj (sn xc.nd 4 (Le (cO L) (vv 1) bW))
   (aj (p9 PassesOwn.never (tW (PW.pt (jQ (ck (pP (cO L)) (xi (vv 3) (et iq aB)) (vv 0)) (jJ (ck (xn (cO L)) (xi (vv 3) (et iq aB)) (vv 2)))))) (aj (sn xc.nd 5 (dE (cO L) (vv 0) (xi (vv 3) (et iq aB)) (λ_ _=>rfl)))
   (aj (ap (vv 3) (a1 (vv 5)))
   (aj (bA (ck (pP (cO L)) (vv 5) (vv 4)) (aE (aO (vv 3))) cc)
   (aE (jY (cO L) (vv 4) (vv 5) bW rfl))))))
   (aE (aO (vv 3)))))),?_}
 @oa,g,ea,ko,ys,ke,E',p,C,rfl,hoa,ako,Z,S,hfew,hea,W,gp,hpp,hpn,kk:=h;?{_,O,aF rfl,λc H1 g1 s1 e1=>?_};¢a H2 g2 s2 e2;#M:=s1.trans s2;?{_,O,e2,nd p,gp.ab M.ab,?_};#s3:af H (upd H2 a (.dG [(nd p,g,.bl true)])):=M.wr (s1.free g2);#G:c≠a:=a0 e1 g2
 #e3:(upd H2 a (.dG [(nd p,g,.bl true)])) c=!(.lst [g]):=by[ax G];!s2 _ _ e1
 #o3:(upd H2 a (.dG [(nd p,g,.bl true)])) a=!(.dG [(nd p,g,.bl true)]):=aD;#gon:H a=£:=s1.free g2;generalize upd H2 a (.dG [(nd p,g,.bl true)])=H3 at s3 e3 o3
 #sm0:fy [((nd p,g,.bl true):KD×V×V)] (λk=>k∈[]++[p]):=by
  #:=fy.nil.put (S':=λk=>k∈([]:#(#Key))++[p]) (p:=p) g (.bl true) λk=>by simp
  !this
 ?{λm σ X=>∃(ini:#(#Key)) (las:#Key) (ws:#V) (d:#(KD×V×V)) (u5:Option V),σ=[!(.ref oa),!g,!(.ref ea),!(.ref c),!(.ref a),u5]/\af H X/\X c=!(.lst ws)/\AL (CN X) ws (ini++[las])/\X a=!(.dG d)/\fy d (λk=>k∈ini++[las])/\d.length<=ini.length+1/\WP (gX ys) E' p ini las/\(∀k∈ini++[las],C k)/\m=102 - ini.length,
  {102,[],p,[g],_,none,O,s3,e3,.cons (gp.ab s3.ab) .nil,o3,sm0,qe _,.one,λk hk=>by[qx.mp hk];!hpp,O},?_}
 rintro m σ X ⟨ini,las,ws,d,u5,rfl,J,B,aX,oX,D,hkl,wp,t,rfl⟩;#hfit:=wp.fits;@us,v,rfl,aU,hv:=xo aX;#hul:us.length=ini.length:=aU.1;#U:=ako.imp λe x q=>q.imp (R':=h_ X) J.ab λr=>r.ab J.ab;#hoX:=Rd.same hoa J;#heX:=Rd.same hea J;?{λb j=>j=X/\(b=¶->gX ys las≠none/\¬E' las)/\(b=¿->gX ys las=£\/E' las),?_,?_}
 .?{_,O,1,O,c,_,-1,v,O,O,aA.of B,pw us v,_,O,oa,ko,nd las,O,hoX,hv,_,O,?_}
  [qB qr,Ck U Z S]
  cases hg:gX ys las with
  |none=>!bV rfl {O,(λz=>by &z),λ_=>.inl rfl}
  |some o =>
   refine cW rfl ?_;?{_,O,1,O,c,_,-1,v,O,O,aA.of B,pw us v,_,O,ea,ke,nd las,O,heX,hv,_,O,?_};[qF rfl];?{O,λz=>{(λy=>by &y),λy=>?_},λz=>.inr ((W las).mp ?_)}
   .[W.yes y]at z;&z
   .cases q:(vG ke (nd las)).isSome with
    |true=>rfl
    |false=>rw[q]at z;&z
 rintro b j ⟨rfl,hT,hF⟩
 cases b with
 |false =>
  refine bV rfl ?_;!{_,O,kk j c (us++[v]) ini las J g1 B aX (wp.stop (hF rfl)) () t}
 |true =>
  refine cW rfl ?_;@hg,hE:=hT rfl;@o,ho:=rj.mp hg;@f,hv',N:=Hd U Z S ho;?{λσ' H'=>∃m',m'<102 - ini.length/\∃(ini:#(#Key)) (las:#Key) (ws:#V) (d:#(KD×V×V)) (u5:Option V),σ'=[!(.ref oa),!g,!(.ref ea),!(.ref c),!(.ref a),u5]/\af H H'/\H' c=!(.lst ws)/\AL (CN H') ws (ini++[las])/\H' a=!(.dG d)/\fy d (λk=>k∈ini++[las])/\d.length<=ini.length+1/\WP (gX ys) E' p ini las/\(∀k∈ini++[las],C k)/\m'=102 - ini.length,λ_ _ z=>z,?_};?{_,O,_,O,1,O,c,_,-1,v,O,O,aA.of B,pw us v,oa,ko,nd las,f,O,hoX,hv,hv',?_};?{_,O,.inl {O,_,aA.of B},_,O,c,_,_,O,O,B,fW (by[qi,qt];¥),?_};#tw:ai j (upd j c (.lst ((us++[v])++[f]))):=ai.wl B;#sW:af H (upd j c (.lst ((us++[v])++[f]))):=J.wr g1;#eW:(upd j c (.lst ((us++[v])++[f]))) c=!(.lst ((us++[v])++[f])):=aD
  #oW:(upd j c (.lst ((us++[v])++[f]))) a=!(.dG d):=by[ax G.symm];!oX
  #aW:AL (CN (upd j c (.lst ((us++[v])++[f])))) ((us++[v])++[f]) ((ini++[las])++[o]):=(aX.imp λv k q=>q.ab tw).snoc (GK.ab N tw);#gW:=GK.ab N tw;generalize upd j c (.lst ((us++[v])++[f]))=Y at tw sW eW oW aW gW;#hpo:C o:=hpn las o ho
  #i:∀k∈(ini++[las])++[o],C k:=λk hk=>by
   @z|z:=zh.mp hk
   .!t k z
   .[qx.mp z];!hpo
  ?{_,O,_,O,a,d,nd o,O,.inl oW,gW,_,O,?_};[qB qr]
  ¿n:o∈ini++[las]
  .[D.yes n]
   ?cW rfl ?_;!{_,O,kk Y c _ (ini++[las]) o sW g1 eW aW (wp.again ho hE n) (by[qi,qt];¥) i}
  .[D.no n]
   ?bV rfl ?_;#R:=wp.on ho hE n;#I:=R.fits;[qi,qt]at I;?{_,O,_,O,a,d,nd o,O,oW,gW,fW (),?_};#t2:ai Y (upd Y a (.dG (pG d (nd o) f (.bl true)))):=ai.wd oW;?{102 - (ini.length+1),(),ini++[las],o,(us++[v])++[f],_,_,O,sW.wr gon,by[ax G];!eW,aW.imp λv k q=>q.ab t2,aD,D.put _ _ λk=>?_,?_,R,i,by[qi,qt]}
   .[zh,qx];!{λz=>z.symm,λz=>z.symm}
   .#:=iK d (nd o) f (.bl true)
    [qi,qt];¥
§Ao(T:Txt K mg tk)(F:FO K mg "key_of_cell" sO):×zS:=by
 ?aN F DA (lR λ_=>rfl) {} λfa a A outer s H vs Q E g h=>?_;?{_,(aE (aO (xt (vv 0)))),?_};@v,C,i,rfl,ce,d:=h;@b,j,e,vc,kq,rfl,h1,h2,f,k,c:=ce;!{_,O,b,_,4,_,O,O,aZ.of h1,O,d _ (.tup c (.cons (.int _) (.cons (.int _) .nil)))}
§AG(T:Txt K mg tk)(F:FO K mg "inner_number" rQ):×yl:=by
 ?aN F EA (iP λ_ _=>rfl) {} λfa d A outer s H vs Q E e h=>?_;?{_,(aE (aO (rE (ck c8 (vv 0) aQ) (HS (K9 (vv 1))) (Bp (CO (Ho (vv 0)) (CO aQ (CO (K9 (vv 1)) BK))))))),?_};@z,i,rfl,hi,hz,a:=h;#nl:=Ij i hi;?{_,O,O,_,O,?_}
 ¿h0:z = ""
 .?cW (by[qR];!qI h0) ?_
  [show pI z i=ic i from qF h0]at a;!{_,O,i,O,(),a}
 .?bV (by[qR];!decide_eq_false h0) ?_
  [show pI z i=((Str.empty++z)++".")++ic i from qB h0]at a
  #b:((Str.empty++z)++".").length=z.length+1:=by[p4,ED];rfl
  #c:(((Str.empty++z)++".")++ic i).length<=z.length+4:=by[p4,b];¥
  !{_,O,z,O,(),z,O,by[ED];¥,".",O,by[b];¥,_,O,i,O,(),_,O,qg c (),qg c (),a}
§A9(T:Txt K mg tk)(F:FO K mg "text_of_sign" sv):×ya:=by
 ?aN F Dq (iP λ_ _=>rfl) {} λfa g A outer s H vs Q E i h=>?_
 ?{_,(aj (bA (dA (cb pW T.cg boot_isinstance (a2 (vv 1) (pz (v:=.ty "str") (by rfl) T.rS boot_str rfl)))) (aE (aO (vv 1))) cc)
   (aj (bA (ck c8 (xt (vv 1)) aQ) (aE (aO (aH vK aQ (xt (vv 1))))) cc)
   (aE (aO (aH vK aQ (bm PySem.F.plainAttrs_dict PySem.F.slot_dict_get PySem.F.type_dict_get (iC (cO i)) (vv 0) (a2 (xt (vv 1)) aQ))))))),?_}
 @nq,num,v,d,rfl,⟨kvs,hn,nk⟩,dt,ok,b:=h
 #sz:∀{m:Nat},m<=1900->m<=sizeLine:=λh=>cK ()
 @⟨z,rfl,hz⟩|⟨w,rfl,k⟩|⟨p,rfl,hp⟩:=ok
 .&dt
  !⟨_,O,_,"str",true,O,⋯,.str z,_,O,cW rfl ⟨_,O,b z (.inl rfl)⟩⟩
 .obtain⟨a,xs,rfl,e,f⟩:∃a xs,v=.ref a/\H a=!(.tup xs)/\cx H xs [.str "picture",.str w]:=by cases dt with|tup e t=>!{_,_,O,e,t}
  @⟨⟩|⟨⟨⟩,⟨⟩|⟨⟨⟩,⟨⟩⟩⟩:=f;?{_,O,_,"str",false,O,⋯,.tup e,_,O,bV rfl ?_};?{_,O,_,_,0,_,O,O,aZ.of e,O,O,_,O,cW (by[qR];!qI rfl) ?_};!{_,O,_,_,1,_,O,O,aZ.of e,O,"*",w,O,O,sz (by ¤1+w.length<=_;¥),b _ (.inr (.inl {w,O,O}))}
 .obtain⟨a,xs,rfl,e,f⟩:∃a xs,v=.ref a/\H a=!(.tup xs)/\cx H xs [.str "refer",tD p]:=by cases dt with|tup e t=>!{_,_,O,e,t}
  @⟨⟩|⟨⟨⟩,⟨⟩|⟨j,⟨⟩⟩⟩:=f;?{_,O,_,"str",false,O,⋯,.tup e,_,O,bV rfl ?_};?{_,O,_,_,0,_,O,O,aZ.of e,O,O,_,O,bV (by[qR];!decide_eq_false ∅) ?_};?{_,O,.inr (.inr (.inl {O,.inr (.inr {kvs,hn})})),_,O,_,_,1,_,O,O,aZ.of e,O,nq,kvs,.tup p,_,_,O,O,hn,HD j,?_};@h1,h2:=nk p hp;[h1]
  cases c:num p with
  |none=>!{"#","?",O,O,sz ⋯,b _ (.inr (.inr {p,O,by[c];rfl}))}
  |some z=>!{"#",z,O,O,sz (by #:=h2 z c;¤1+z.length<=_;¥),b _ (.inr (.inr {p,O,by[c];rfl}))}
§C9(T:Txt K mg tk)(F:FO K mg "_law_cell_at" rA):×x6:=by
 ?aN F Ap (iP λ_ _=>rfl) {} λfa d A outer s H vs Q E g h=>?_
 ?{_,(aj (bA (ck zb (vv 1) (cb cZ T.bQ boot_len (a1 (vv 0)))) (aE (aO (xa (vv 0) (vv 1)))) cc)
   (aE (aO aB))),?_}
 @sp,ns,k,rfl,b,e,c:=h;?{_,O,_,O,sp,_,O,.inl b,_,_,O,O,_,O,?_}
 ¿a:k<((List.map V.int ns).length:Nat)
 .?cW (qI a) ?_
  ?{_,O,_,O,sp,_,_,O,O,b,e,a,λv f=>?_};@m,_,rfl:=qf.mp f;!c m
 .!bV (decide_eq_false a) (c 0)
§Dd(T:Txt K mg tk)(F:FO K mg "_law_drawn" uh):×xO:=by
 ?aN F Cn (iP λ_ _=>rfl) {} λfa d A outer s H vs Q E f h=>?_
 ?{_,(aj (bA (PW.pt (jQ (dA (vv 1)) (jJ (ck IB (vv 0) (aH Au aB aB))))) (aE (aO (bJ (a2 (vv 0) aB)))) cc)
   (aE (aO (bJ (a2 (aH eJ (vv 0) aB) aB))))),?_}
 @c,b,rfl,a:=h;?{_,O,b,O,?_}
 cases b with
 |false=>!bV rfl (bV rfl {_,O,_,_,O,O,(by ¤(0:Int)<2147483629;decide),aF rfl,λp H' g s e=>a H' p s g {_,_,e}})
 |true =>
  refine cW rfl {_,O,_,_,O,O,{⋯,⋯,⋯},_,_,O,O,_,O,?_}
  ¿h1:(10:Int) ^ 18<=c
  .!cW (qI h1) {_,O,aF rfl,λp H' g s e=>a H' p s g {_,_,e}}
  .!bV (decide_eq_false h1) {_,O,_,_,O,O,(by ¤(0:Int)<2147483629;decide),aF rfl,λp H' g s e=>a H' p s g {_,_,e}}
§EO(T:Txt K mg tk)(F:FO K mg "_law_draw" uD):×fO:=by
 ?aN F K' (iP λ_ _=>rfl) {} λfa f A outer s H vs Q E i h=>?_
 ?{_,(aj (sn K'.nd 2 (xl (vv 0)))
   (aj (bA (ck c8 (xl (vv 0)) aB) (aj (EU (aH jF (vv 2) (vv 1)) (Ku (vv 0) aB IY))
   (aE (aO (aH eJ (vv 2) (vv 1))))) cc)
   (aj (EU (aH eJ (aH cY (aH uE (vv 2) aB) aB) aB) (Ku (vv 0) aB IY))
   (aE (aO (aH eJ (aH jF (aH eJ (aH uE (xl (vv 0)) aB) aB) aB) (vv 1))))))),?_}
 @p,q,rfl,⟨a,b,hp⟩,c,g,e:=h;?{_,O,p,_,0,.int a,O,O,aA.of hp,O,_,O,p,_,1,.int b,O,O,aA.of hp,O,O,_,O,?_}
 #d:∀x:Int,0<=x % q/\x % q<q:=λx=>{Int.emod_nonneg x (),Int.emod_lt_of_pos x c}
 ¿h0:b=0
 .?cW (by[h0];rfl) {_,O,_,O,_,_,O,O,{c,()},_,O,p,_,0,0,O,O,hp,O,_,O,_,O,_,_,O,O,c,?_}
  !e _ _ Iu {_,_,aD} (d _).1 (d _).2
 .?bV (decide_eq_false λz=>h0 (by injection z)) {_,O,_,_,O,O,.inr {⋯,⋯},_,_,O,O,_,_,O,O,(by ¤(0:Int)<2147483629;decide),_,O,p,_,0,0,O,O,hp,O,?_}
  ?{_,O,p,_,0,_,O,O,aA.of aD,O,_,_,O,O,.inr {⋯,⋯},_,_,O,O,(by ¤(0:Int)<2147483647;decide),_,_,O,O,{⋯,⋯},_,O,_,_,O,O,c,?_};!e _ _ Iu {_,_,aD} (d _).1 (d _).2
§E4(T:Txt K mg tk)(F:FO K mg "_law_spoiled" rB):×yT:=by
 ?aN F Hz (lR λ_=>rfl) {} λfa cdv A outer s H vs Q E N h=>?_
 ?{_,(aj (fo (il (aH qU (aH qU (bJ (a2 (xt (vv 0)) (xt (vv 0)))) (cy E7 T.eF boot_list (a1 (xt (vv 0))))) (xt (xt (vv 0))))) (gn Hz.nd 1)
   (aj (bA (ck (inD N) dB (vv 1)) (aE (aO bW)) cc)
   (aE (ap (vv 1) (a1 dB)))))
   (aE (aO bW))),?_}
 @e,z,rfl,es,Y:=h;#I:=aZ.of es.tp;?{_,O,e.b,_,2,_,O,O,I,O,_,O,e.b,_,3,_,O,O,I,O,aF rfl,λR H1 g1 v Z=>?_};#k:=aZ.of (v _ _ es.tp);?{_,O,e.b,_,4,_,O,O,k,O,e.b4,_,O,.inr (aZ.of (v _ _ es.t4)),λp2 H2 g2 s2 e2=>?_};?{R,p2,_,_,O,O,s2 _ _ Z,e2,(by ¤5<=sizeLine;decide),λp3 H3 g3 s3 e3=>?_};#c:=(v.trans s2).trans s3;#wl:=es.wl;?{_,O,e.b,_,4,_,O,O,aZ.of (c _ _ es.tp),O,e.b4,_,2,_,O,O,aZ.of (c _ _ es.t4),O,p3,e.qc,_,_,O,O,e3,c _ _ es.wc,cK (by[qj];¤5+_<=_;¥),λG H4 D s4 t=>?_};#g:=c.trans s4
 #hB:[V.ref e.q2,V.ref e.q3]++[V.ref e.qa,V.ref e.qb,V.ref e.qc]++(e.wa.map λx=>V.ref x.2)=e.B.map V.ref:=by
  ¤_=V.ref e.q2::V.ref e.q3::V.ref e.qa::V.ref e.qb::V.ref e.qc::((e.wa.map (·.2)).map V.ref);[z9];rfl
 [hB]at t
 #n4:G∉e.B:=λh=>by
  @zs,q:=es.has h;[c _ _ q]at D;&D
 ?{G,O,{_,aA.of t},eH (xs:=e.B.map V.ref) (λj σ X=>∃C,σ=[!(.ref e.b),C]/\af (bP H4 (·∈e.B.take j)) X) {_,O,rX} (λj σ X _ ⟨_,_,s⟩=>aA.of (c_ s t λh=>n4 (yj h))) ?_ ?_}
 .rintro j x σ X J ⟨C,rfl,f⟩
  [qu]at J;@a,i,rfl:=wj.mp J;#U:=(qk.mp i).1;@zs,h1,h2,M:=es.at i
  #na:a∉e.B.take j:=λh=>by
   @m,hm,q:=r8.mp h;#:=(j4 es.nd (h₀:=by ¥) (h₁:=U)).mp (q.trans (qk.mp i).2.symm);¥
  #r:∀b o,b∉e.B.take j->H b=!o->X b=!o:=λb o n q=>c_ f (g _ _ q) n
  #S:ai H X:=λb us q=>r b _ (λh=>by
   @zs,y:=es.has (yj h)
   [q]at y;&y) q
  @ds,d1,L:=M X S r;#p:=r a _ na h1;?{_,O,.none,a,ds,zs,.aR,O,.inl (aA.of p),d1,O,L.1,qv _,_,O,bV L.2 ?_};?{_,O,.inl {O,_,aA.of p},a,zs,_,O,O,p,fW (),_,O,λb o q=>?_}
  #d:b∉e.B.take (j+1):=λh=>by[dQ h]at q;&q
  [d_ d]at q;[qz,i]at d;#W:b∉e.B.take j:=λh=>d (wg _ h)
  #n2:b≠a:=λh=>d (by[h];simp)
  [ax n2];!c_ f q W
 .rintro σ X ⟨C,rfl,f⟩
  [qj,ze]at f
  !Y X λb o q=>f _ _ (by
   #d:b∉e.B:=λh=>by[dQ h]at q;&q
   [d_ d]at q ⊢
   !g _ _ q)
§Cd(T:Txt K mg tk)(F:FO K mg "stretch" uO)(a:×yY):×tM:=by
 ?aN F La (wQ λ_ _ _=>rfl) {} λfa i A outer s H vs Q E f h=>?_
 ?{_,(aj (sn La.nd 3 (cl a f (a2 (vv 0) (vv 1))))
   (aE (aO (a9 (a2 (vv 3) (cb (PN rfl) T.Aa boot_max (a2 (vv 3) (cl a f (a2 (vv 0) (vv 2)))))))))),?_}
 @dq,kvs,S,js,t,k,b,e,rfl,d,c,j,n,m,o,r:=h;?{_,O,_,O,dq,kvs,S,js,t,b,O,d,c,j,n,?_};?{_,O,_,O,_,O,_,O,dq,kvs,S,js,k,e,O,d,c,m,o,_,_,O,aF rfl,λq H' g s p=>r H' q s ?_};[p]
 congr 5
 split <;> ¥
§Cb(T:Txt K mg tk)(F:FO K mg "reaching_main" uu)(gfBz:×rM):×uI:=by
 ?aN F oY (lR λ_=>rfl) {} λfa cdv A outer s H vs Q E J h=>?_
 ?{_,(aj (sn oY.nd 1 (Le (cO J) (Co (v:=.ref cn) rfl T.cn rfl) bW))
   (aj (fo (JA (vv 0)) (gn oY.nd 2)
   (aj (sn oY.nd 3 (cl gfBz J (ac (vv 0) (a2 (vv 2) (vv 1)))))
   (aj (sn oY.nd 4 (bm PySem.F.plainAttrs_dict PySem.F.slot_dict_get PySem.F.type_dict_get (iC (cO J)) (vv 1) (a2 (xi (vv 3) (et iq aB)) bW)))
   (aE (fo (il (vv 3)) (gn oY.nd 5)
   (aE (jY (cO J) (vv 1) (vv 5) (vv 4) rfl)))))))
   (aE (aO (vv 1))))),?_}
 @oa,ko,ys,rfl,hoa,ako,W,ma,kk:=h;#p:=W.cI;¢d H1 g1 s1 e1;#ma1:=s1 _ _ ma;?{e1,.tup bE,{_,O,ma1},?_};#s2:af H (upd H1 d (.dG [(.tup bE,.ref cn,.bl true)])):=s1.wr g1;#e2:(upd H1 d (.dG [(.tup bE,.ref cn,.bl true)])) d=!(.dG [(.tup bE,.ref cn,.bl true)]):=aD;generalize upd H1 d (.dG [(.tup bE,.ref cn,.bl true)])=H2 at s2 e2;#L:=Rd.same hoa s2;dsimp only[cL,mW];?IE ?_;?{_,O,oa,ko,O,N0 L λo Y hY fY eY=>?_}
 #tY:ai H2 Y:=λb us e=>hY b _ (λz=>by
  £z
  @q|⟨o',q⟩:=L <;> rw[q]at e <;> &e) e
 #D:d≠oa:=λz=>by
  [z]at g1;@q|⟨o',q⟩:=hoa <;> rw[g1]at q <;> &q
 #N:=hY d _ D e2;#U:=s2.ab.trans tY;#aY:=ako.imp λe x q=>q.imp (R':=h_ Y) U λr=>r.ab U;#rm0:RN Y ys _ [((.tup bE,.ref cn,.bl true):KD×V×V)]:=RN.one {_,O,U _ _ ma}
 ?GI (λj σ X=>∃(f:#Key->Option Bool) (kr:#(KD×V×V)) (u2 u3 u4 u5:Option V),σ=[!(.ref oa),!(.ref d),u2,u3,u4,u5]/\af (del Y d) X/\X d=!(.dG kr)/\RN X ys f kr/\p_ ys j f/\∀i x,i<j->ys[i]?=!x->f x.pt≠none)
  {_,_,none,none,none,none,O,(λb u e=>kG _ _ e),N,rm0,.z,λi x z=>absurd z (vj i)} (λj σ X ⟨_,_,_,_,_,_,_,s,_⟩=>s _ _ (by[bR D.symm];!eY)) ?_ ?_
 .rintro j e σ X hx ⟨f,kr,u2,u3,u4,u5,rfl,sX,eX,rm,R,g⟩
  #hkl:=rm.cI p;#tX:ai Y X:=mY N (λ_=>°) sX;@r,J,p1,p2,p3:=aY.at hx;#hjl:j<ys.length:=(qk.mp J).1;#hrm:=qw J;#aX:=aY.imp λe x q=>q.imp (R':=h_ X) tX λr=>r.ab tX;#eoX:X oa=!(.cJ o (.dG ko)):=sX _ _ (by[bR D.symm];!eY);?{_,O,_,O,_,O,oa,e.2.1,d,ko,ys,kr,λk=>f k≠none,r.pt,λk=>k∈nodes ys,O,.inr {o,eoX},aX,W.nd,λx hx=>(W.pt x hx).ne,p,.inl eX,rm.sn,gZ (W.pt r hrm).ne (p2.ab tX),ND hrm,λk o h=>P1 h,λZ wa ws ini las sz gwa ewa S wo hil hpns=>?_};@us,v,rfl,aus,hv:=xo S;#hul:us.length=ini.length:=aus.1;#t:=sz _ _ eX;#nwr:wa≠d:=(a0 eX gwa).symm;?{_,O,.inr (.inr (.inl {O,.inr (.inr {kr,t})})),_,O,1,O,wa,_,-1,v,O,O,aA.of ewa,pw us v,d,kr,nd las,v,.bl false,O,O,t,hv,?_}
  #hc:(vG kr (nd las)).getD (.bl false)=.bl ((f las).getD false):=by[rm.at_ las];&f las <;> rfl
  [hc];obtain⟨c,hcd⟩:∃c,c=(f las).getD false:={_,O};[←hcd];#swX:af (del Y d) Z:=sX.trans sz
  ?{_,O,wa,O,{_,aA.of ewa},eH (xs:=us++[v]) (λi σ C=>∃(M:#Key->Option Bool) (m:#(KD×V×V)) (u5:Option V),σ=[!(.ref oa),!(.ref d),!e.2.1,!(.ref wa),!(.bl c),u5]/\af (del Y d) C/\C d=!(.dG m)/\C wa=!(.lst (us++[v]))/\ai Z C/\RN C ys M m/\∀k,M k=if vZ ((ini++[las]).take i) k=¶ then some c else f k)
   {f,kr,u5,O,swX,t,ewa,ai.refl _,rm.ab sz.ab,λk=>(qB qr).symm} (λi σ C _ ⟨_,_,_,_,_,_,e,_⟩=>aA.of e) ?_ ?_}
  .rintro i x σ C B ⟨M,m,u5',rfl,s5,I,ew5,t5,G,n⟩
   @k,hk,gx:=S.at B;#hkm:=qw hk;?{_,O,_,O,_,O,d,m,nd k,O,I,GK.ab gx t5,fW (by #:=G.cI p;¥),?_};#t6:ai C (upd C d (.dG (pG m (nd k) x (.bl c)))):=ai.wd I;#rm6:=(G.put c (hpns k hkm) (GK.ab gx t5)).ab t6;?{λa=>if a=k then some c else M a,_,_,O,s5.wr dV,aD,by[ax nwr];!ew5,t5.trans t6,rm6,λa=>?_};¤(if a=k then some c else M a)=_;[qz,hk,n a]
   ¿z:a=k
   .[qF z,qF (IP.mpr (by[z];simp))]
   .[qB z]
    #e:vZ ((ini++[las]).take i++[k]) a=vZ ((ini++[las]).take i) a:=by
     ¶vZ;[List.any_append,show[k].any (λx=>decide (x=a))=¿ by[j9,List.any_nil,decide_eq_false (Ne.symm z)];rfl,Bool.or_false]
    !(congrArg (λb:Bool=>if b=¶ then some c else f a) e).symm
  .rintro σ C ⟨M,m,u5',rfl,s5,I,ew5,t5,G,n⟩
   #hwl:(us++[v]).length=(ini++[las]).length:=S.1;[hwl,ze,hcd]at n;?{M,m,_,_,_,_,O,s5,I,G,(funext n:M=λk=>if vZ (ini++[las]) k=¶ then some ((f las).getD false) else f k)▸R.s J wo,λi x hi B=>?_};[n]
   ¿y:vZ (ini++[las]) x.pt=¶
   .[qF y];!°
   [qB y]
   ¿z:i<j
   .!g i x z B
   .#:i=j:=()
    £this;[J]at B;&B;!absurd (IP.mpr (bx wo.hd)) y
 .rintro σ X ⟨f,kr,u2,u3,u4,u5,rfl,sX,eX,rm,R,g⟩
  ?{_,O,kk X d kr f (λb u e=>sX _ _ ?_) (.inr {o,sX _ _ (by[bR D.symm];!eY)}) g1 eX rm (ako.1▸R) λx hx=>?_}
  .#nb:b≠oa:=λz=>by[z,dV]at e;&e
   [bR nb]at e;[bR (λz=>by[z,g1]at e;&e)];!hY b u nb (s2 _ _ e)
  .@i,hi,ei:=z8.mp hx
   !g i x (by[ako.1];!hi) (by[qh hi,ei])
§Bs(T:Txt K mg tk)(F:FO K mg "_law_parts" ow)(f:×fO):×yX:=by
 ?aN F fM (wQ λ_ _ _=>rfl) {} λfa cdv A outer s H vs Q E R h=>?_;#Y:(A.deeper (envOfC "_law_parts" (ag ow) ↑s fa cdv)).units+1<cLine:=cT R
 ?{_,(aj (sn fM.nd 3 (bJ (a1 (a9 (a2 aQ aB)))))
   (aj (sn fM.nd 4 (ce c8 (cl f R (a2 (vv 0) aB)) aB))
   (aj (fo (lG (by rfl) T.dn (a1 (xa (bJ (a2 (cl f R (a2 (vv 0) aB)) (aH cY aB (cl f R (a2 (vv 0) aB))))) (cy A_ T.tQ boot_int (a1 (vv 4)))))) (gn fM.nd 5)
   (aj (sn fM.nd 6 (a9 (a2 (xa (vv 2) (cl f R (a2 (vv 0) (cb cZ T.bQ boot_len (a1 (vv 2)))))) (aH cY aB (vv 5)))))
   (aj (sn fM.nd 7 (xa (vv 3) (cl f R (a2 (vv 0) (cb cZ T.bQ boot_len (a1 (vv 3)))))))
   (oS (bA (tW (PW.pt (jQ (dA (vv 4)) (jJ (ck eB (cl f R (a2 (vv 0) aB)) aB))))) (aE (sn fM.nd 7 (a9 (a2 aQ aB)))) cc)
   (aj (ap (cV Y (vv 1) aQ (λ_ _=>rfl)) (a1 (a9 (a2 (vv 6) (vv 7)))))
   (aj (sn fM.nd 8 (ce eB (cl f R (a2 (vv 0) aB)) aB))
   (oS (bA (dA (vv 8)) (aE (ap (cV Y (vv 1) aQ (λ_ _=>rfl)) (a1 (a9 (ac (vv 6) (ac (vv 7) (a2 (vv 6) (a9 (a2 (vv 5) aB))))))))) cc)
   (oS (bA (tW (PW.pt (jQ (dA (vv 8)) (jJ (ck c8 (cl f R (a2 (vv 0) aB)) aB))))) (aj (sn fM.nd 7 (xa (vv 3) (cl f R (a2 (vv 0) (cb cZ T.bQ boot_len (a1 (vv 3)))))))
   (aE (ap (cV Y (vv 1) aQ (λ_ _=>rfl)) (a1 (a9 (ac (vv 6) (ac (vv 7) (a2 (a9 (a2 (xl (vv 2)) (aH cY aB (vv 5)))) (a9 (a2 (aH cY (vv 5) aB) aB)))))))))) cc)
   (oS (bA (ck c8 (cl f R (a2 (vv 0) aB)) aB) (aE (ap (cV Y (vv 1) aQ (λ_ _=>rfl)) (a1 (a9 (a2 (vv 6) (a9 (a2 (xl (vv 2)) (aH cY aB (vv 5))))))))) cc)
   (aE (ap (vv 3) (a1 (vv 6)))))))))))))
   (aj (uK (i:=9) fM.nd rfl (Or.inl rfl) (own:=["_law_row"]) (fr:=[]) rfl (il (cV Y (vv 1) aQ (λ_ _=>rfl))) {O,∅,∅} (iX ∅) (λ_ _ _=>(cN (i:=0) (by ¤List.Nodup (["_law_row"]:#R9);decide +kernel) rfl (Or.inl rfl))) (λ_=>mM rfl) (λ_ _ _=>dI) (λ_ _ _=>(xt (vv 0))))
   (aj (fo (lG (by rfl) T.dn (a1 (cl f R (a2 (vv 0) aB)))) (gn fM.nd 5)
   (aE (bA (ck (lx R) (vv 9) (bJ cS)) (aj (sn fM.nd 6 (xa (vv 9) (cl f R (a2 (vv 0) (cb cZ T.bQ boot_len (a1 (vv 9)))))))
   (aj (sn fM.nd 7 (xa (vv 3) (cl f R (a2 (vv 0) (cb cZ T.bQ boot_len (a1 (vv 3)))))))
   (aE (ap (cV Y (vv 1) aQ (λ_ _=>rfl)) (a1 (a9 (ac (vv 6) (ac (vv 7) (a2 (a9 (a2 (xl (vv 2)) (aH cY aB (vv 5)))) (a9 (a2 (aH cY aB (aH jF (vv 5) aB)) (aH eJ (vv 5) aB)))))))))))) cc)))
   (aE (aO (vv 3)))))))),?_}
 @d,fa,r,F,rfl,dw,dk,e0,e1,e2,er,rd,fd,hi,kk:=h;#nF:∀i,i<9->∀j,j<9->i≠j->F i≠F j:=λi a j b n e=>n (hi i a j b e);?{aF rfl,λtq H1 g1 D h1=>{aF rfl,λkq H2 g2 s2 h2=>?_}}
 #kf:∀{b:R0} {o:HO},H b=!o->kq≠b:=λe z=>by[z,D _ _ e]at g2;&g2
 #a:Ft d F kq:={let⟨_,_,e⟩:=dw;kf e,λi hi'=>by
  #:i=0\/i=1\/i=2:=()
  @rfl|rfl|rfl:=this
  .!kf e0
  .!kf e1
  .!kf e2,λi hi'=>(fd i ()).1,λi h1 j h2 n=>nF i () j () n}
 #fk:H kq=£:=D.free g2;#s12:=D.trans s2
 #B2:PB H H2 d F kq [.ref tq] [] [] [] [] []:={Rest.refl.same s12,dw.same s12,h2,λj v e=>by
  #hj:=(qk.mp e).1
  #:j=0:=by ±hj
  £this;&e
  !{"",{tq,O,s2 _ _ h1},.inl rfl},s12 _ _ e0,s12 _ _ e1,s12 _ _ e2,{(λ_=>°),.nil,.nil,(λ_=>°),.nil,qv _,qv _,qv _}}
 #X:fa≠d:=λz=>by @_,_,e:=dw;[←z,dk]at e;&e
 #nff:∀i,i<3->fa≠F i:=λi hi' z=>by
  #:i=0\/i=1\/i=2:=()
  @rfl|rfl|rfl:=this
  .[←z,dk]at e0;&e0
  .[←z,dk]at e1;&e1
  .[←z,dk]at e2;&e2
 #rf:∀i,i<3->r≠F i:=λi h=>(fd i ()).2
 ?{_,O,d,8,O,B2.dw,⋯,⋯,λi1 H3 y w3 a3 b3=>{O,?_}};#N:=B2.draw a y w3;generalize decide (V.int i1=V.int 7)=wd;?{_,O,d,7,O,N.dw,⋯,⋯,λi2 H4 G w4 a4 b4=>{_,O,d,5,O,w4,⋯,⋯,λi3 H5 L w5 a5 b5=>{_,_,O,O,aF rfl,λU H6 g6 s6 e6=>?_}}};#B6:=((N.draw a G w4).draw a L w5).same s6
 #ixw:((if wd=¶ then 1 else 0:Int))<2:=by &wd <;> decide
 ?{_,O,.inr {wd,O,U,_,_,O,O,aA.of e6,by &wd <;> decide,ixw,λv hv=>?_}}
 obtain⟨c,rfl,c0,c1⟩:∃c:Int,v=.int c/\0<=c/\c<=14:=by
  ac_nf at hv
  @rfl|rfl:=hv
  .!⟨_,O,a4,()⟩
  .!⟨_,O,(),()⟩
 ?⟨c,O,(),(),lD (lo:=0) (n:=c.toNat) (λj σ Z=>∃kn bs es cs rs cu u5 u6 u7 u8,σ=[!(.ref d),!(.ref fa),!(.ref r),!(.ref kq),!(.bl wd),u5,u6,u7,u8,none]/\PB H Z d F kq kn bs es cs rs cu/\kn.length=j+1/\bs.length<=j/\es.length<=2 * j/\cs.length<=j/\∀x∈rs,bU x.ka x.kb (j:Int) 1) ⟨_,_,_,_,_,_,_,_,_,_,O,B6,O,qe _,qe _,qe _,λ_=>°⟩ ?_ ?_⟩
 .rintro j σ Z hj ⟨kn,bs,es,cs,rs,cu,u5,u6,u7,u8,rfl,B,hk,hb,he,hc,hx⟩
  #erZ:=B.out er rd rf;?{_,O,_,O,_,O,r,_,O,.inl (aA.of erZ),d,_,O,B.dw,by ¤(0:Int)<2;decide,by ¤(2:Int)<1000;decide,λi1 Z1 D w1 x1 y1=>{r,_,i1,O,O,aA.of (DP.to D erZ rd),x1,y1,λvw hvw=>?_}}
  obtain⟨w,rfl⟩:∃w,vw=.str w:=by
   #:=hvw
   ac_nf at this
   @h|h:=this <;> !{_,h}
  ?{_,O,_,_,O,O,aF rfl,λC Z2 g2 s2 e2=>?_}
  #ej:(1+(0+(j:Int)))=((kn.length:Nat):Int):=by[hk];¥
  [ej]at e2;#np:Nm [.inr w,.inl ((kn.length:Nat):Int)]:=zI hvw;#B2:=(B.draw a D w1).same s2;?{_,O,_,O,_,O,kq,_,O,.inl (aA.of B2.ek),d,_,O,B2.dw,(),(),λi2 Z3 y w3 x2 y2=>{kq,kn,i2,O,O,aA.of (B2.draw a y w3).ek,x2,y2,λvo hvo=>?_}};#N:=B2.draw a y w3;#ep3:Z3 C=!(.tup [.str w,.int ((kn.length:Nat):Int)]):=B2.dw.ab y _ _ e2;#no3:uQ Z3 vo:=N.uS.np hvo;?{λσ' Z'=>∃vo',σ'=[!(.ref d),!(.ref fa),!(.ref r),!(.ref kq),!(.bl wd),!(.int (0+(j:Int))),!(.ref C),!vo',u8,none]/\PB H Z' d F kq kn bs es cs rs cu/\Z' C=!(.tup [.str w,.int ((kn.length:Nat):Int)])/\uQ Z' vo',?_,?_}
  .?{λb Z'=>PB H Z' d F kq kn bs es cs rs cu/\Z' C=!(.tup [.str w,.int ((kn.length:Nat):Int)])/\uQ Z' vo,{_,O,wd,O,?_},?_}
   .cases wd with
    |false=>!bV rfl {N,ep3,no3}
    |true=>!cW rfl {_,O,d,8,O,N.dw,⋯,⋯,λi Z4 G w4 _ _=>{_,_,O,O,_,O,N.draw a G w4,N.dw.ab G _ _ ep3,no3.ab (N.dw.ab G)}}
   .rintro b Z' ⟨B',ep,no⟩
    cases b with
    |false=>!bV rfl {vo,O,B',ep,no}
    |true=>!cW rfl {aF rfl,λmq Z5 g s e=>{.ref mq,O,B'.same s,s _ _ ep,bE,{mq,O,e},.inl rfl}}
  rintro σ' Z' ⟨vo',rfl,B',ep,no⟩;?{_,O,fa,.ref (F 0),O,.inl {cE F 9,.inr "births",.inl (B'.out dk X nff),O,(cR F 0 ⋯).symm},.inl {O,_,aA.of B'.eb},_,O,_,O,aF rfl,λbq Z6 g6 s6 e6=>{F 0,bs,_,O,O,(B'.same s6).eb,cF (),?_}};#B6':=B'.same s6;@po,go,hpo:=no.ab s6.ab;#ep6:=s6 _ _ ep;#B7:=B6'.KH a (v:=.ref bq) {bq,_,_,[.inr w,.inl ((kn.length:Nat):Int)],po,O,e6,{C,O,ep6},np,go,hpo} ();#t7:ai Z6 (upd Z6 (F 0) (.lst (bs++[.ref bq]))):=ai.wl B6'.eb;#ep7:=t7 _ _ ep6;#go7:=go.ab t7;generalize upd Z6 (F 0) (.lst (bs++[.ref bq]))=Z7 at B7 ep7 go7;?{_,O,d,9,O,B7.dw,⋯,⋯,λi4 Z8 s8 w8 _ _=>{_,_,O,O,?_}};#B8:=B7.draw a s8 w8;#t8:=B7.dw.ab s8;#ep8:=t8 _ _ ep7;#go8:=go7.ab t8;generalize decide ((0:Int)<i4)=ct
  #lw:∀x∈rs,bU x.ka x.kb ((j:Int)+1) 0:=λx h=>by #:=hx x h;unfold bU at this ⊢;¥
  #gpt:∀{W:Hp},W C=!(.tup [.str w,.int ((kn.length:Nat):Int)])->GK W (.tup [.inr w,.inl ((kn.length:Nat):Int)]) (.ref C):=λe=>{C,O,e};?{λσ' Z'=>∃J S,σ'=[!(.ref d),!(.ref fa),!(.ref r),!(.ref kq),!(.bl wd),!(.int (0+(j:Int))),!(.ref C),!vo',!(.bl ct),none]/\PB H Z' d F kq kn (bs++[.ref bq]) J cs S cu/\Z' C=!(.tup [.str w,.int ((kn.length:Nat):Int)])/\J.length<=2 * j+1/\∀x∈S,bU x.ka x.kb ((j:Int)+1) 0,{_,O,ct,O,?_},?_}
  .cases ct with
   |false=>!bV rfl {es,rs,O,B8,ep8,(),lw}
   |true =>
    refine cW rfl {_,O,fa,.ref (F 1),O,.inl {cE F 9,.inr "places",.inl (B8.out dk X nff),O,(cR F 1 ⋯).symm},.inl {O,_,aA.of B8.ev},_,O,_,O,_,O,_,O,aF rfl,λcq Z9 g9 s9 e9=>{aF rfl,λq Z10 g10 s10 e10=>{F 1,es,_,O,O,((B8.same s9).same s10).ev,cF (),?_}}};#B10:=(B8.same s9).same s10;#s810:=s9.trans s10;#M:=s810 _ _ ep8;#t11:ai Z10 (upd Z10 (F 1) (.lst (es++[.ref q]))):=ai.wl B10.ev;?{es++[.ref q],rs++[{[.inr w,.inl ((kn.length:Nat):Int)],po,[.inr w,.inl ((kn.length:Nat):Int)],0+(j:Int),1}],O,B10.place a {q,.ref C,vo',.ref C,cq,O,e10,gpt M,go8.ab s810.ab,gpt M,s10 _ _ e9} {np,hpo,np} (λx h=>by #:=hx x h;¤bU x.ka x.kb (0+(j:Int)) 1;unfold bU at this ⊢;¥) (),t11 _ _ M,by[qi,qt];¥,λx h=>?_};@h|h:=zh.mp h
    .!lw x h
    .[qx.mp h];¤bU (0+(j:Int)) 1 ((j:Int)+1) 0;¶bU;¥
  rintro σ' Z9 ⟨J,S,rfl,B9,ep9,he9,hx9⟩
  #lw9:∀x∈S,bU x.ka x.kb ((j:Int)+1) 1:=λx h=>by #:=hx9 x h;unfold bU at this ⊢;¥
  ?{λσ' Z'=>∃es2 rs2 u7',σ'=[!(.ref d),!(.ref fa),!(.ref r),!(.ref kq),!(.bl wd),!(.int (0+(j:Int))),!(.ref C),u7',!(.bl ct),none]/\PB H Z' d F kq kn (bs++[.ref bq]) es2 cs rs2 cu/\Z' C=!(.tup [.str w,.int ((kn.length:Nat):Int)])/\es2.length<=2 * j+2/\∀x∈rs2,bU x.ka x.kb ((j:Int)+1) 1,?_,?_}
  .?{λb Z'=>PB H Z' d F kq kn (bs++[.ref bq]) J cs S cu/\Z' C=!(.tup [.str w,.int ((kn.length:Nat):Int)]),{_,O,ct,O,?_},?_}
   .cases ct with
    |false=>!bV rfl {B9,ep9}
    |true=>!cW rfl {_,O,d,3,O,B9.dw,⋯,⋯,λi Z4 G w4 _ _=>{O,_,O,B9.draw a G w4,B9.dw.ab G _ _ ep9}}
   .rintro b Z' ⟨B',ep⟩
    cases b with
    |false=>!bV rfl {J,S,_,O,B',ep,(),lw9}
    |true =>
     refine cW rfl {_,O,_,O,_,O,kq,_,O,.inl (aA.of B'.ek),d,_,O,B'.dw,(),(),λi Z1 D w1 x1 y1=>{kq,kn,i,O,O,aA.of (B'.draw a D w1).ek,x1,y1,λvo2 hvo2=>?_}};#t:=B'.draw a D w1;#ep1:=B'.dw.ab D _ _ ep;@p2,gp2,hp2:=t.uS.np hvo2;#er1:=t.out er rd rf;?{_,O,fa,.ref (F 1),O,.inl {cE F 9,.inr "places",.inl (t.out dk X nff),O,(cR F 1 ⋯).symm},.inl {O,_,aA.of t.ev},_,O,_,O,_,O,r,_,0,_,O,O,aA.of er1,O,_,O,_,_,O,O,aF rfl,λmq Z3 g3 y e3=>{_,O,_,_,O,O,aF rfl,λcq Z4 g4 G e4=>{aF rfl,λq Z5 g5 L e5=>{F 1,J,_,O,O,(((t.same y).same G).same L).ev,cF (),?_}}}};#B5:=((t.same y).same G).same L;#s15:=(y.trans G).trans L;#ep5:=s15 _ _ ep1;#t6:ai Z5 (upd Z5 (F 1) (.lst (J++[.ref q]))):=ai.wl B5.ev;?{J++[.ref q],S++[{[.inr w,.inl ((kn.length:Nat):Int)],p2,[.inr "ann",.inl (20+(0+(j:Int)))],0+(j:Int)+1,0}],_,O,B5.place (r:={[.inr w,.inl ((kn.length:Nat):Int)],p2,[.inr "ann",.inl (20+(0+(j:Int)))],0+(j:Int)+1,0}) a {q,.ref C,vo2,.ref mq,cq,O,e5,gpt ep5,gp2.ab s15.ab,{mq,O,(G.trans L) _ _ e3},L _ _ e4} {np,hp2,zI (by simp)} (λx h=>by #:=hx9 x h;¤bU x.ka x.kb (0+(j:Int)+1) 0;unfold bU at this ⊢;¥) (),t6 _ _ ep5,by[List.length_append,List.length_singleton];¥,λx h=>?_};@h|h:=zh.mp h
     .!lw9 x h
     .[qx.mp h];¤bU (0+(j:Int)+1) 0 ((j:Int)+1) 1;¶bU;¥
  rintro σ' Z10 ⟨es2,rs2,u7',rfl,B10,M,he10,hx10⟩;?{λσ' Z'=>∃cs' cu',σ'=[!(.ref d),!(.ref fa),!(.ref r),!(.ref kq),!(.bl wd),!(.int (0+(j:Int))),!(.ref C),u7',!(.bl ct),none]/\PB H Z' d F kq kn (bs++[.ref bq]) es2 cs' rs2 cu'/\Z' C=!(.tup [.str w,.int ((kn.length:Nat):Int)])/\cs'.length<=j+1,?_,?_}
  .?{_,O,d,8,O,B10.dw,⋯,⋯,λi Z1 D w1 _ _=>{O,_,O,?_}}
   #t:=B10.draw a D w1;#ep1:=B10.dw.ab D _ _ M
   ¿hz:i=0
   .#er1:=t.out er rd rf
    ?cW (qI (by[hz])) {_,O,fa,.ref (F 2),O,.inl {cE F 9,.inr "cuts",.inl (t.out dk X nff),O,(cR F 2 ⋯).symm},.inl {O,_,aA.of t.ec},_,O,_,O,r,_,1,_,O,O,aA.of er1,O,_,O,_,_,O,O,aF rfl,λmq Z3 g3 y e3=>{aF rfl,λq Z5 g5 L e5=>{F 2,cs,_,O,O,((t.same y).same L).ec,cF (),?_}}};#B5:=(t.same y).same L;#ep5:=(y.trans L) _ _ ep1;#t6:ai Z5 (upd Z5 (F 2) (.lst (cs++[.ref q]))):=ai.wl B5.ec;!{cs++[.ref q],cu++[[.inr w,.inl ((kn.length:Nat):Int)]],O,B5.cut a {q,.ref C,.ref mq,[.inr "bo",.inl (30+(0+(j:Int)))],O,e5,gpt ep5,.inr np,{mq,O,L _ _ e3},zI (by simp)} (),t6 _ _ ep5,by[List.length_append,List.length_singleton];¥}
   .!bV (decide_eq_false λz=>hz (by injection z)) {cs,cu,O,t,ep1,()}
  rintro σ' Z11 ⟨cs',cu',rfl,B11,ep11,hc11⟩;?{_,O,.inl {O,_,aA.of B11.ek},_,O,kq,kn,_,O,O,B11.ek,cF (),?_};!{kn++[.ref C],_,_,_,_,_,_,_,_,_,O,B11.O0 a fk (gpt ep11) (.inr np),by[qi,hk];rfl,by[qi,qt];¥,(),(),λx h=>by #:=hx10 x h;¤bU x.ka x.kb ((j+1:Nat):Int) 1;unfold bU at this ⊢;¥}
 .rintro σ Z ⟨kn,bs,es,cs,rs,cu,u5,u6,u7,u8,rfl,B,hk,hb,he,hc,hx⟩
  #hcn:c.toNat<=14:=()
  ?{_,O,fa,.ref (F 1),O,.inl {cE F 9,.inr "places",.inl (B.out dk X nff),O,(cR F 1 ⋯).symm},F 1,O,{_,aA.of B.ev},c7 (xs:=es) (lB ()) (λj us Z'=>Z'=Z/\us.length<=j/\∀u∈us,∃p,GK Z (.tup p) u/\Nm p) {O,qe _,λ_=>°} (λ_ _ Z' s'=>by[s'.1];!aA.of B.ev) (λj x us Z' K1 K0 hx' s' k1 k0=>?_) λZ1 U us s' hu I=>?_}
  .@rfl,ul,ru:=s'
   @r',er',pc:=B.fi.pc.at hx';#hw:=(B.fi.w r' (qw er')).pt;@b,vp,vo,vn,kq',rfl,h1,h2,h3,h4,h5:=pc;?dH (B:=K0 Z') ?_;?{_,O,b,_,0,_,O,O,aZ.of h1,O,k1 _ _ {O,by[qi];!Nat.add_le_add_right ul 1,λu hu=>?_}};@hu|hu:=zh.mp hu
   .!ru u hu
   .[qx.mp hu];!{_,h2,hw}
  @rfl,ul,ru:=s';#n1:af Z1 (upd Z1 U (.lst us)):=af.new I;#t:=B.same n1;#e1:(upd Z1 U (.lst us)) U=!(.lst us):=aD
  #ru1:∀u∈us,∃p,GK (upd Z1 U (.lst us)) (.tup p) u/\Nm p:=λu h=>let⟨p,g,n⟩:=ru u h;{p,g.ab n1.ab,n}
  #nl:U≠d:=B.dw.ne I
  #nlf:∀{i},i<3->U≠F i:=λ{i} h z=>by
   #:i=0\/i=1\/i=2:=()
   @rfl|rfl|rfl:=this
   .[z,B.eb]at I;&I
   .[z,B.ev]at I;&I
   .[z,B.ec]at I;&I
  ¤mW _ _ _ _ (upd Z1 U (.lst us));generalize upd Z1 U (.lst us)=Z2 at t e1 ru1;?{_,O,d,4,O,t.dw,⋯,⋯,λm Z3 y w3 m0 m1=>?_};?{m,O,(),(),lD (lo:=0) (n:=m.toNat) (λj σ W=>∃es rs u5 u6 u7,σ=[!(.ref d),!(.ref fa),!(.ref r),!(.ref kq),!(.bl wd),u5,u6,u7,u8,!(.ref U)]/\PB H W d F kq kn bs es cs rs cu/\W U=!(.lst us)/\(∀u∈us,∃p,GK W (.tup p) u/\Nm p)/\es.length<=28+j/\∀x∈rs,bU x.ka x.kb (20+(j:Int) / 2) ((j:Int) % 2)) {es,rs,_,_,_,O,t.draw a y w3,DP.to y e1 nl,λu h=>let⟨p,g,n⟩:=ru1 u h;{p,g.ab (t.dw.ab y),n},(),λx h=>by #:=hx x h;unfold bU at this ⊢;¥} ?_ ?_}
  .rintro j σ W hj ⟨es,rs,u5,u6,u7,rfl,B,el,ru,he,hx⟩
   obtain⟨ps,pa⟩:∃ps:#(#Key),AL (λu p=>GK W (.tup p) u/\Nm p) us ps:=let⟨ps,h1,h2⟩:=vJ ru;{ps,h1.symm,h2}
   #pd:cx W us (ps.map tD):=AL.lS (λv p g=>aM g.1) pa;?{_,O,aF rfl,λzq W1 g1 D f1=>?_};?{.list (ps.map tD),.list [],.lst (aA.of (D _ _ el)) (pd.same D).dv,.lst (aA.of f1) .nil,?_,O,?_,_,O,?_}
   .!(tF λk hk=>by @_,_,_,h:=pa.gF hk;!.inr h).1
   .!qg (jh _ _) ⋯
   #t:=B.same D;#el1:=D _ _ el
   #ru1:∀u∈us,∃p,GK W1 (.tup p) u/\Nm p:=λu h=>let⟨p,g,n⟩:=ru u h;{p,g.ab D.ab,n}
   #nx:∀x∈rs,bU x.ka x.kb (20+((j+1:Nat):Int) / 2) (((j+1:Nat):Int) % 2):=λx h=>by #:=hx x h;unfold bU at this ⊢;¥
   cases us with
   |nil =>
    have:ps=[]:=yx.mp pa.1.symm;£this;!bV rfl {es,rs,_,_,_,O,t,el1,ru1,(),nx}
   |cons u0 us0 =>
    obtain⟨p0,ps0,rfl⟩:∃p0 ps0,ps=p0::ps0:=by
     cases ps with
     |nil=>have:=pa.1;&this
     |cons p0 ps0=>!{p0,ps0,O}
    ?cW rfl ?_
    have hul:((u0::us0).length:Int)<=28:=by have:=hu;¥
    have hu0:(0:Int)<((u0::us0).length:Nat):=by[zd];¥
    ?{_,O,_,O,_,O,U,_,O,.inl (aA.of el1),d,_,O,t.dw,hu0,(),λi2 W2 s2 w2 x2 y2=>{U,_,i2,O,O,aA.of (DP.to s2 el1 nl),x2,y2,λvp hvp=>?_}};have B2:=t.draw a s2 w2;?{_,O,_,O,_,O,kq,_,O,.inl (aA.of B2.ek),d,_,O,B2.dw,(),(),λi3 W3 y w3 x3 y3=>{kq,kn,i3,O,O,aA.of (B2.draw a y w3).ek,x3,y3,λvo hvo=>?_}};have N:=B2.draw a y w3;have t13:=(t.dw.ab s2).trans (B2.dw.ab y);@p1,gp1,hp1:=ru1 vp hvp;@p2,gp2,hp2:=N.uS.np hvo;have er3:=N.out er rd rf;have el3:=DP.to y (DP.to s2 el1 nl) nl;?{_,O,fa,.ref (F 1),O,.inl {cE F 9,.inr "places",.inl (N.out dk X nff),O,(cR F 1 ⋯).symm},.inl {O,_,aA.of N.ev},_,O,_,O,_,O,r,_,0,_,O,O,aA.of er3,O,_,O,_,_,O,O,aF rfl,λmq W4 g4 G e4=>{_,O,_,_,O,O,{⋯,⋯},_,_,O,O,_,O,_,_,O,O,(by ¤(0:Int)<2;decide),aF rfl,λcq W5 g5 L e5=>{aF rfl,λq W6 g6 s6 e6=>{F 1,es,_,O,O,(((N.same G).same L).same s6).ev,cF (),?_}}}};have B6:=((N.same G).same L).same s6;have s36:=(G.trans L).trans s6;have t7:ai W6 (upd W6 (F 1) (.lst (es++[.ref q]))):=ai.wl B6.ev;have t17:=(t13.trans s36.ab).trans t7;?{es++[.ref q],rs++[{p1,p2,[.inr "ann",.inl (35+(0+(j:Int)))],20+(0+(j:Int)) / 2,(0+(j:Int)) % 2}],_,_,_,O,B6.place (r:={p1,p2,[.inr "ann",.inl (35+(0+(j:Int)))],20+(0+(j:Int)) / 2,(0+(j:Int)) % 2}) a {q,vp,vo,.ref mq,cq,O,e6,gp1.ab (t13.trans s36.ab),gp2.ab s36.ab,{mq,O,(L.trans s6) _ _ e4},s6 _ _ e5} {hp1,hp2,zI (by simp)} (λx h=>by have:=hx x h;¤bU x.ka x.kb (20+(0+(j:Int)) / 2) ((0+(j:Int)) % 2);unfold bU at this ⊢;¥) (),by[ax (nlf ⋯)];!s36 _ _ el3,λu h=>let⟨p,g,n⟩:=ru1 u h;{p,g.ab t17,n},by[List.length_append,List.length_singleton];¥,λx h=>?_};@h|h:=zh.mp h
    .!nx x h
    .[qx.mp h];¤bU (20+(0+(j:Int)) / 2) ((0+(j:Int)) % 2) _ _;¶bU;¥
  .rintro σ W ⟨es,rs,u5,u6,u7,rfl,B,el,ru,he,hx⟩
   !{_,O,kk W kq kn bs es cs rs cu B.ro fk B.ek B.uS () () B.eb B.ev B.ec B.fi}
§Aj(T:Txt K mg tk)(F:FO K mg "_law_sign" sE)(e:×fO):×xX:=by
 ?aN F Lo (iP λ_ _=>rfl) {} λfa R A outer s H vs Q E n h=>?_
 ?{_,(aj (sn Lo.nd 2 (cl e n (a2 (vv 0) aB)))
   (aj (bA (ck c8 (vv 2) aB) (aE (aO (a9 (a2 aQ (oR O9 aQ B0 (f' (aH cY aB (cl e n (a2 (vv 0) aB))))))))) cc)
   (aj (bA (ck c8 (vv 2) aB) (aE (aO (a9 (a2 aQ (xa (vv 1) (cl e n (a2 (vv 0) (cb cZ T.bQ boot_len (a1 (vv 1)))))))))) cc)
   (aE (aO (iS ER aQ (cl e n (a2 (vv 0) aB)) (λ_ _=>rfl))))))),?_}
 @d,l,us,rfl,G,S,nl,h0,h1,np,q:=h;?{_,O,d,8,O,G,⋯,⋯,λr H1 m o X V=>?_};?{_,O,O,_,O,?_};#J:=G.ab m
 ¿C:r=0
 .?cW (qI (by[C])) ?_
  ?{_,O,d,8,O,o,⋯,⋯,λD H2 s2 j a2 W=>?_};obtain⟨k,rfl⟩:∃k:Nat,D=k:={D.toNat,()};@t,x:=C2 k ();!{_,_,O,O,_,O,"abcdefgh",O,aF rfl,aF rfl,λL B M f y=>q B _ (.tuple [.str "picture",.str _]) ((af.jE m s2).trans f) (j.same f) (.tup y (.cons (.str _) (.cons (.str _) .nil))) (.inr (.inl {_,O,x})) (K8 ∅ (d7 t))}
 ?bV (decide_eq_false λz=>C (by injection z)) ?_;?{_,O,O,_,O,?_}
 ¿I:r=1
 .?cW (qI (by[I])) ?_
  #g:=DP.to m S nl;?{_,O,_,O,_,O,l,_,O,.inl (aA.of g),d,_,O,o,(),(),λi H2 s2 j a b=>{l,us,i,O,O,aA.of (DP.to s2 g nl),a,b,λv N=>{aF rfl,λL B M f y=>?_}}};@p,U,hp:=(((np v N).ab J).ab (o.ab s2)).ab f.ab;!q B _ (.tuple [.str "refer",tD p]) ((af.jE m s2).trans f) (j.same f) (.tup y (.cons (.str _) (.cons (aM U) .nil))) (.inr (.inr {p,O,hp})) (K8 ∅ (cm hp.lay))
 ?bV (decide_eq_false λz=>I (by injection z)) ?_;?{_,O,d,29,O,o,⋯,⋯,λi H2 s2 j a b=>?_};obtain⟨k,rfl⟩:∃k:Nat,i=k:={i.toNat,()};@c,t,x:=Du k ();!{_,_,c,O,O,aF rfl,t,q H2 _ (.str {#[c]}) (af.jE m s2) j (.str _) (.inl {_,O,by ¤1<=10;decide}) {x,O,qv 3}}
§AY(T:Txt K mg tk)(F:FO K mg "_law_side" rZ)(a:×fO):×zE:=by
 ?aN F DG (iP λ_ _=>rfl) {} λfa I A outer s H vs Q E k h=>?_;?{_,(aE (aO (a9 (a2 (xa (vv 1) (cl a k (a2 (vv 0) (cb cZ T.bQ boot_len (a1 (vv 1)))))) (xa (bJ (a2 aQ aQ)) (cl a k (a2 (vv 0) aB))))))),?_};@d,l,us,rfl,G,t,nl,h0,h1,o:=h;?{_,O,_,O,_,O,l,_,O,.inl (aA.of t),d,_,O,G,(),(),λr H1 x y L D=>{l,us,r,O,O,aA.of (DP.to x t nl),L,D,λv q=>?_}};?{aF rfl,λz H2 C s2 J=>?_};#c:z≠d:=y.ne C;?{_,O,d,2,O,y.same s2,⋯,⋯,λM R B j e f=>{z,_,M,O,O,aA.of (DP.to B J c),e,f,λw m=>{aF rfl,λn g N i p=>?_}}};#b:af (del H d) g:=(af.jE x (af.sd s2 B)).trans i
 ac_nf at m
 @rfl|rfl:=m
 .!o g n v false b (j.same i) p q
 .!o g n v true b (j.same i) p q
§Fk(T:Txt K mg tk)(F:FO K mg "_law_tables" nU)(q:×fO):×zT:=by
 ?aN F fK (zF λ_ _ _ _=>rfl) {} λfa cdv A outer s H vs Q E X h=>?_;#hu1:(A.deeper (envOfC "_law_tables" (ag nU) ↑s fa cdv)).units+1<cLine:=cT X
 ?{_,(aE (fo (il (oR Ct (vv 3) B0 (f' aB))) (gn fK.nd 4)
   (aj (sn fK.nd 5 (bJ cS))
   (aj (sn fK.nd 6 (bJ cS))
   (aj (fo (lG (by rfl) T.dn (a1 (cl q X (a2 (vv 0) aB)))) (gn fK.nd 7)
   (aj (sn fK.nd 8 (xa (bJ (a2 aQ aQ)) (cl q X (a2 (vv 0) aB))))
   (aj (sn fK.nd 9 (a9 (a2 (xl (vv 2)) (aH cY (aH cY aB (aH uE aB (bm PySem.F.plainAttrs_list PySem.F.slot_list_index PySem.F.type_list_index (L5 X) (vv 3) (a1 (vv 4))))) (vv 7)))))
   (aj (sn fK.nd 10 (a9 (a2 (aH cY (aH cY aB (aH uE aB (bm PySem.F.plainAttrs_list PySem.F.slot_list_index PySem.F.type_list_index (L5 X) (vv 3) (a1 (vv 4))))) (aH jF (vv 7) aB)) (aH eJ (vv 7) aB))))
   (aj (ap (cV hu1 (vv 1) aQ (λ_ _=>rfl)) (a1 (a9 (ac (vv 4) (ac (vv 8) (ac (vv 9) (ac dB (a2 (vv 10) (ce eB (cl q X (a2 (vv 0) aB)) aB)))))))))
   (aE (ap (xa (bJ (a2 (vv 5) (vv 6))) (cy A_ T.tQ boot_int (a1 (ce c8 (vv 8) aQ)))) (a1 (vv 9)))))))))
   (aE (fo (lG (by rfl) T.dn (a1 (cl q X (a2 (vv 0) aB)))) (gn fK.nd 7)
   (aE (bA (tW (PW.pt (jQ (ck (lx X) (vv 5) (bJ cS)) (jJ (ck (lx X) (vv 6) (bJ cS)))))) (aj (sn fK.nd 11 (xa (vv 5) (cl q X (a2 (vv 0) (cb cZ T.bQ boot_len (a1 (vv 5)))))))
   (aj (sn fK.nd 12 (xa (vv 6) (cl q X (a2 (vv 0) (cb cZ T.bQ boot_len (a1 (vv 6)))))))
   (aj (sn fK.nd 13 (xa (bJ (ac aQ (a2 aQ aQ))) (cl q X (a2 (vv 0) aB))))
   (aj (sn fK.nd 10 (a9 (a2 (aH cY (aH cY aB (aH uE aB (bm PySem.F.plainAttrs_list PySem.F.slot_list_index PySem.F.type_list_index (L5 X) (vv 3) (a1 (vv 4))))) (aH jF (vv 7) aB)) (aH eJ (vv 7) aB))))
   (aE (ap (cV hu1 (vv 1) aQ (λ_ _=>rfl)) (a1 (a9 (ac (vv 4) (ac (vv 11) (ac (vv 12) (a2 (vv 13) (vv 10))))))))))))) cc))))))))),?_}
 @d,fa,r,kq,F,kn,rfl,dw,dk,e6,e7,er,ek,hkn,k0,k1,rd,kd',fr,n67,kk:=h;#n6:F 6≠d:=(fr 6 ⋯).1;#n7:F 7≠d:=(fr 7 ⋯).1
 #nfd:fa≠d:=λz=>by @_,_,e:=dw;[←z,dk]at e;&e
 #nf6:fa≠F 6:=λz=>by[←z,dk]at e6;&e6
 #nf7:fa≠F 7:=λz=>by[←z,dk]at e7;&e7
 #r6:r≠F 6:=(fr 6 ⋯).2.1;#r7:r≠F 7:=(fr 7 ⋯).2.1;#q6:kq≠F 6:=(fr 6 ⋯).2.2;#q7:kq≠F 7:=(fr 7 ⋯).2.2;?{_,O,3,O,kq,kn,O,aA.of ek,λsq H1 g1 U e1=>?_};#sd:sq≠d:=dw.ne g1
 #s6:sq≠F 6:=λz=>by[z,e6]at g1;&g1
 #s7:sq≠F 7:=λz=>by[z,e7]at g1;&g1
 #lc:(dY kn none (some 3)).length<=15:=qg (Fj _ _ _) k1;#B1:UB H1 H1 d F (90+10 * ((0:Nat):Int)) (100+10 * ((0:Nat):Int)) 0 (150+10 * ((0:Nat):Int)) 0 (λ_=>⟨[],"",[],none,0,0,false⟩) 0 (λ_=>⟨[],[],[],"",0,0⟩) 0 [] []:={Rest.refl,dw.same U,U _ _ e6,.nil,{qv _,(λi j _ z=>nomatch z),(λ_=>°),(λ_=>°),(λ_=>°),(λ_=>°)},(λ_=>°),(λ_=>°),(λ_=>°),U _ _ e7,.nil,{qv _,(λi j _ z=>nomatch z),(λ_=>°),(λ_=>°)},(λ_=>°)};?{sq,O,{_,aA.of e1},eH (xs:=dY kn none (some 3)) (λj σ Z=>∃L l C c ls cs u4 u5 u6 Y u8 u9 g G t x,σ=[!(.ref d),!(.ref fa),!(.ref r),!(.ref kq),u4,u5,u6,Y,u8,u9,g,G,t,x]/\UB H1 Z d F (90+10 * (j:Int)) (100+10 * (j:Int)) 0 (150+10 * (j:Int)) 0 L l C c ls cs/\l<=5 * j/\c<=4 * j/\ls.length=l/\cs.length=c) {_,_,_,_,_,_,_,_,_,_,_,_,_,_,_,_,O,B1,qe _,qe _,O,O} ?_ ?_ ?_}
 .rintro j σ Z - ⟨L,l,C,c,ls,cs,u4,u5,u6,Y,u8,u9,g,G,t,x,rfl,B,-⟩
  !aA.of (B.out e1 sd s6 s7)
 .rintro j vp σ Z hx ⟨L,l,C,c,ls,cs,u4,u5,u6,Y,u8,u9,g,G,t,x,rfl,B,hl,hc,M,N⟩
  #hj:j<15:=zf (qk.mp hx).1 lc;#hxk:=QA hx;#kn1:=hkn.ab U.ab
  #nt:∀b,(b=d\/b=F 6\/b=F 7)->∀xs,H1 b≠some (.tup xs):=λb z ys e=>by
   @z|z|z:=z <;> £z
   .@_,_,e':=dw
    [U _ _ e']at e;&e
   .[U _ _ e6]at e;&e
   .[U _ _ e7]at e;&e
  #knz:∀{Z':Hp},Rest H1 Z' (λb=>b=d\/b=F 6\/b=F 7)->KN Z' kn:=λr=>kn1.ab (mL r nt);?{aF rfl,λrq Z1 g1' f e1'=>{aF rfl,λcq Z2 g2 s2 e2=>?_}};@rq0,I,rq6,rq7:=B.free g1';@cq0,D,cq6,cq7:=(B.same f).free g2
  #rc:rq≠cq:=λz=>by[←z,e1']at g2;&g2
  #B2:=(B.same f).same s2;#R2:RC Z2 rq cq [] [] 0:={s2 _ _ e1',e2,(λ_=>°),(λ_=>°),qe _,qe _};?{_,O,d,5,O,B2.dw,⋯,⋯,λi3 Z3 s3 w3 x3 y3=>?_};?{i3,O,(),(),lD (lo:=0) (n:=i3.toNat) (λk σ Z=>∃L l ls us vs Y u8 u9 g,σ=[!(.ref d),!(.ref fa),!(.ref r),!(.ref kq),!vp,!(.ref rq),!(.ref cq),Y,u8,u9,g,G,t,x]/\UB H1 Z d F (90+10 * (j:Int)+(k:Int)) (100+10 * (j:Int)+(k:Int) / 2) ((k:Int) % 2) (150+10 * (j:Int)) 0 L l C c ls cs/\RC Z rq cq us vs k/\l<=5 * j+k/\ls.length=l) {_,_,_,_,_,_,_,_,_,O,(B2.draw n6 n7 s3 w3).up (Int.le_of_eq ()) (λa b h=>by unfold bU at h ⊢;¥) (λa b h=>h),R2.draw B2.dw I D s3,(),M} ?_ ?_}
  .rintro k σ W hk ⟨L,l,ls,us,vs,Y,u8,u9,g,rfl,B,R,hl,M⟩
   ?{aF rfl,λy1 Z1 g1 f f1=>{_,O,d,2,O,(B.same f).dw,⋯,⋯,λi2 Z2 s2 w2 x2 y2=>{y1,_,i2,O,O,aA.of (DP.to s2 f1 (B.dw.ne g1)),x2,y2,λvw hvw=>?_}}}
   obtain⟨wy,rfl,wyo⟩:∃wy,vw=.str wy/\PyData.strOk wy=¶:=by
    ac_nf at hvw
    @h|h:=hvw <;> !{_,h,∅}
   #B2:=(B.same f).draw n6 n7 s2 w2;#R2:=(R.same f).draw (B.same f).dw I D s2;#ek2:=B2.out (U _ _ ek) kd' q6 q7;@p,ds,gp2,pn,dv,mB,la,lal,dep,ix1,ix2:=(knz B2.ro).idx hxk;?{_,O,r,_,1,_,O,O,aA.of (B2.out (U _ _ er) rd r6 r7),O,_,O,.inl {O,_,aA.of ek2},_,O,_,_,kq,ds,kn,j,O,O,dv,aA.of ek2,mB,la,lal,dep,ix1,ix2,_,_,O,O,.inl {⋯,⋯},_,_,O,O,_,O,_,_,O,O,aF rfl,λq3 Z3 g3 s3' e3=>?_};[Int.zero_add]at e3;#B3:=B2.same s3';#R3:=R2.same s3';#ek3:=s3' _ _ ek2;@p',ds',gp3,pn',dv',dvs',la',lal',dep',ix1',ix2':=(knz B3.ro).idx hxk;?{_,O,.inl {O,_,aA.of ek3},_,O,_,_,kq,ds',kn,j,O,O,dv',aA.of ek3,dvs',la',lal',dep',ix1',ix2',_,_,O,O,.inl {⋯,⋯},_,_,O,O,_,O,_,_,O,O,{⋯,⋯},_,_,O,O,_,O,_,_,O,O,(by decide:(0:Int)<2),aF rfl,λq4 Z4 g4 s4 e4=>?_};[Int.zero_add]at e4;#B4:=B3.same s4;#R4:=R3.same s4;?{_,O,fa,.ref (F 6),O,.inl {cE F 9,.inr "lines",.inl (B4.out (U _ _ dk) nfd nf6 nf7),O,(cR F 6 ⋯).symm},.inl {O,_,aA.of B4.e6},_,O,_,O,_,O,_,O,_,O,d,4,O,B4.dw,⋯,⋯,λi5 Z5 s5 w5 x5 y5=>{_,_,O,O,aF rfl,λS Z6 g6 J e6'=>{F 6,ls,_,O,O,((B4.draw n6 n7 s5 w5).same J).e6,cF (),?_}}};#B5:=B4.draw n6 n7 s5 w5;#B6:=B5.same J;#R6:=(R4.draw B4.dw I D s5).same J;#t46:=(B4.dw.ab s5).trans J.ab;#t36:=s4.ab.trans t46;#e36:=t36 _ _ e3;#B7:=B6.line (X':=90+10 * (j:Int)+((k+1:Nat):Int)) (A':=100+10 * (j:Int)+((k+1:Nat):Int) / 2) (B':=((k+1:Nat):Int) % 2) (r:={p,wy,[.inr "bo",.inl (90+10 * (j:Int)+(k:Int))],none,100+10 * (j:Int)+(k:Int) / 2,(k:Int) % 2,_}) n6 n67 () {S,_,_,_,q4,O,e6',gp2.ab (s3'.ab.trans t36),{q3,O,e36},O,t46 _ _ e4} rfl rfl rfl rfl pn.lay wyo () (by ¶bU;¥);#R7:=R6.wr (o:=.lst (ls++[.ref S])) B6.e6 rq6 cq6;#t7:ai Z6 (upd Z6 (F 6) (.lst (ls++[.ref S]))):=ai.wl B6.e6;#e37:=t7 _ _ e36;generalize upd Z6 (F 6) (.lst (ls++[.ref S]))=Z7 at B7 R7 e37;?{_,O,_,O,aF rfl,λy8 Z8 g8 s8 f8=>?_};#B8:=B7.same s8;#R8:=R7.same s8;#e38:=s8 _ _ e37;generalize hbb:decide (V.str wy=V.str "column")=bb
   #ixw:((if bb=¶ then 1 else 0:Int))<2:=by &bb <;> decide
   ?{_,O,O,.inr {bb,by[hbb],y8,_,_,O,O,aA.of f8,by &bb <;> decide,ixw,λv hv=>?_}};#np:Pn [.inr "bo",.inl (90+10 * (j:Int)+(k:Int))]:=.inr (zI (by simp))
   #vc:v=.ref rq\/v=.ref cq:=by simpa only[List.mem_cons,List.not_mem_nil,or_false] using hv
   #lu:=R8.lu;#lv:=R8.lv;@rfl|rfl:=vc
   .?⟨.inl ⟨O,_,aA.of R8.er⟩,_,O,rq,us,_,O,O,R8.er,cF (),?_⟩
    !⟨_,_,_,_,_,_,_,_,_,O,B8.own R8.er rq0 I rq6 rq7,R8.row rc (p:=[.inr "bo",.inl (90+10 * (j:Int)+(k:Int))]) ⟨q3,O,e38⟩ np,(),by[qi,qt,M]⟩
   .?⟨.inl ⟨O,_,aA.of R8.ec⟩,_,O,cq,vs,_,O,O,R8.ec,cF (),?_⟩
    !⟨_,_,_,_,_,_,_,_,_,O,B8.own R8.ec cq0 D cq6 cq7,(R8.turn.row rc.symm (p:=[.inr "bo",.inl (90+10 * (j:Int)+(k:Int))]) ⟨q3,O,e38⟩ np).turn,(),by[qi,qt,M]⟩
  .rintro σ W ⟨L,l,ls,us,vs,Y,u8,u9,g,rfl,B,R,hl,M⟩
   #R5:=R.le (show i3.toNat<=5 from ());?{_,O,d,4,O,B.dw,⋯,⋯,λm Z3 s3 w3 x3' y3'=>?_};?{m,O,(),(),lD (lo:=0) (n:=m.toNat) (λk σ Z=>∃C c cs Y g G t x,σ=[!(.ref d),!(.ref fa),!(.ref r),!(.ref kq),!vp,!(.ref rq),!(.ref cq),Y,u8,u9,g,G,t,x]/\UB H1 Z d F (90+10 * ((j+1:Nat):Int)) (100+10 * ((j+1:Nat):Int)) 0 (150+10 * (j:Int)+(k:Int) / 2) ((k:Int) % 2) L l C c ls cs/\RC Z rq cq us vs 5/\c<=4 * j+k/\cs.length=c) {_,_,_,_,_,_,_,_,O,(B.draw n6 n7 s3 w3).up () (λa b h=>by unfold bU at h ⊢;¥) (λa b h=>by unfold bU at h ⊢;¥),R5.draw B.dw I D s3,(),N} ?_ ?_}
   .rintro k σ W hk ⟨C,c,cs,Y,g,G,t,x,rfl,B,R,hc,N⟩
    ?{λb Z=>(b=¶->us≠[]/\vs≠[])/\UB H1 Z d F (90+10 * ((j+1:Nat):Int)) (100+10 * ((j+1:Nat):Int)) 0 (150+10 * (j:Int)+(k:Int) / 2) ((k:Int) % 2) L l C c ls cs/\RC Z rq cq us vs 5,?_,?_}
    .@ps,pl,pd,lay:=GC R.ru
     ?{_,O,aF rfl,λzq W1 g1 f f1=>{.list (ps.map tD),.list [],.lst (aA.of (f _ _ R.er)) (pd.same f).dv,.lst (aA.of f1) .nil,lay,O,qg (jh _ _) ⋯,_,O,?_}};#B1:=B.same f;#R1:=R.same f
     cases us with
     |nil =>
      have:ps=[]:=yx.mp pl.symm;£this;!bV rfl {°,B1,R1}
     |cons w0 ws0 =>
      obtain⟨p0,ps0,rfl⟩:∃p0 ps0,ps=p0::ps0:=by
       cases ps with
       |nil=>cases pl
       |cons p0 ps0=>!{p0,ps0,O}
      ?cW rfl ?_;@qs,ql,qd,qlay:=GC R1.cu;?{_,O,aF rfl,λzq W2 g2 s2 f2=>{.list (qs.map tD),.list [],.lst (aA.of (s2 _ _ R1.ec)) (qd.same s2).dv,.lst (aA.of f2) .nil,qlay,O,qg (jh _ _) ⋯,_,O,?_}};?{λz=>{°,λy=>?_},B1.same s2,R1.same s2};£y;have:qs=[]:=yx.mp ql.symm;£this;&z
    .rintro b Z ⟨hb,B,R⟩
     cases b with
     |false=>!bV rfl {C,c,cs,_,_,_,_,_,O,B.up (Int.le_refl _) (λa b h=>h) (λa b h=>by unfold bU at h ⊢;¥),R,(),N}
     |true =>
      refine cW rfl ?_;@u1,v1:=hb rfl;have u0:0<us.length:=m9.mpr u1;have v0:0<vs.length:=m9.mpr v1;have lu:=R.lu;have lv:=R.lv;?{_,O,_,O,_,O,rq,_,O,.inl (aA.of R.er),d,_,O,B.dw,(),(),λi1 Z1 f w1 x1 y1=>{rq,us,i1,O,O,aA.of (DP.to f R.er I),x1,y1,λva hva=>?_}};have B1:=B.draw n6 n7 f w1;have R1:=R.draw B.dw I D f;@pa,ga,na:=R1.ru va hva;?{_,O,_,O,_,O,cq,_,O,.inl (aA.of R1.ec),d,_,O,B1.dw,(),(),λi2 Z2 s2 w2 x2 y2=>{cq,vs,i2,O,O,aA.of (DP.to s2 R1.ec D),x2,y2,λvb hvb=>?_}};have B2:=B1.draw n6 n7 s2 w2;have R2:=R1.draw B1.dw I D s2;@pb,gb,nb:=R2.cu vb hvb;?{aF rfl,λy3 Z3 g3 s3 f3=>{_,O,d,3,O,(B2.same s3).dw,⋯,⋯,λi4 Z4 s4 w4 x4 y4=>{y3,_,i4,O,O,aA.of (DP.to s4 f3 (B2.dw.ne g3)),x4,y4,λvw hvw=>?_}}}
      obtain⟨wd,rfl,hwd⟩:∃wd,vw=.str wd/\LG wd:=by
       ac_nf at hvw
       @h|h|h:=hvw
       .!⟨_,h,.inl rfl⟩
       .!⟨_,h,.inr (.inl rfl)⟩
       .!⟨_,h,.inr (.inr (.inl rfl))⟩
      have B4:=(B2.same s3).draw n6 n7 s4 w4;have R4:=(R2.same s3).draw (B2.same s3).dw I D s4;have t24:=s3.ab.trans ((B2.same s3).dw.ab s4);have ek4:=B4.out (U _ _ ek) kd' q6 q7;@p,ds,gp4,pn,dv,mB,la,lal,dep,ix1,ix2:=(knz B4.ro).idx hxk;?{_,O,.inl {O,_,aA.of ek4},_,O,_,_,kq,ds,kn,j,O,O,dv,aA.of ek4,mB,la,lal,dep,ix1,ix2,_,_,O,O,.inl {⋯,⋯},_,_,O,O,_,O,_,_,O,O,{⋯,⋯},_,_,O,O,_,O,_,_,O,O,(by decide:(0:Int)<2),aF rfl,λq5 Z5 g5 s5 e5=>?_};[Int.zero_add]at e5;have B5:=B4.same s5;?{_,O,fa,.ref (F 7),O,.inl {cE F 9,.inr "cells",.inl (B5.out (U _ _ dk) nfd nf6 nf7),O,(cR F 7 ⋯).symm},.inl {O,_,aA.of B5.e7},_,O,_,O,_,O,_,O,_,O,aF rfl,λS Z6 g6 J e6'=>{F 7,cs,_,O,O,(B5.same J).e7,cF (),?_}};have B6:=B5.same J;have s46:=s5.trans J;have t26:=t24.trans s46.ab;have t16:=(B1.dw.ab s2).trans t26;!{_,_,_,_,_,_,_,_,O,B6.cell (A':=150+10 * (j:Int)+((k+1:Nat):Int) / 2) (B':=((k+1:Nat):Int) % 2) (r:={p,pa,pb,wd,150+10 * (j:Int)+(k:Int) / 2,(k:Int) % 2}) n7 n67 () {S,_,_,_,q5,O,e6',gp4.ab s46.ab,ga.ab t16,gb.ab t26,J _ _ e5} rfl rfl {pn.lay,na.lay,nb.lay} hwd (by ¶bU;¥),(R4.same s46).wr B6.e7 rq7 cq7,(),by[qi,qt,N]}
   .rintro σ W ⟨C,c,cs,Y,g,G,t,x,rfl,B,R,hc,N⟩
    !{L,l,C,c,ls,cs,_,_,_,_,_,_,_,_,_,_,O,B.up (Int.le_refl _) (λa b h=>h) (λa b h=>by unfold bU at h ⊢;¥),(),(),M,N}
 .rintro σ Z ⟨L,l,C,c,ls,cs,u4,u5,u6,Y,u8,u9,g,G,t,x,rfl,B,hl,hc,M,N⟩
  !kk Z L l C c ls cs (λb o e n=>B.ro b o (U _ _ e) n) B.e6 B.al B.wl B.e7 B.ac B.wc
§AS(T:Txt K mg tk)(F:FO K mg "_law_leaves" oy)(c:×fO):×yV:=by
 ?aN F um (zF λ_ _ _ _=>rfl) {} λfa J A outer s H vs Q E i h=>?_;#I:(A.deeper (envOfC "_law_leaves" (ag oy) ↑s fa J)).units+1<cLine:=cT i
 ?{_,(aE (fo (lG (by rfl) T.dn (a1 (cl c i (a2 (vv 0) aB)))) (gn um.nd 4)
   (aj (sn um.nd 5 (xa (vv 3) (cl c i (a2 (vv 0) (cb cZ T.bQ boot_len (a1 (vv 3)))))))
   (aj (sn um.nd 6 (xa (vv 2) (cl c i (a2 (vv 0) (cb cZ T.bQ boot_len (a1 (vv 2)))))))
   (aj (sn um.nd 7 (xa (bJ (ac aQ (ac aQ (ac aQ (a2 aQ aQ))))) (cl c i (a2 (vv 0) aB))))
   (aE (ap (cV I (vv 1) aQ (λ_ _=>rfl)) (a1 (a9 (ac (vv 5) (ac (vv 6) (ac (vv 7) (a2 (ce eB (cl c i (a2 (vv 0) aB)) aB) (a9 (a2 (aH cY aB (aH jF (vv 4) aB)) (aH eJ (vv 4) aB)))))))))))))))),?_}
 @d,fa,r,kq,F,kn,rfl,U,dk,D,er,ek,k0,k1,np,X,n2,g,n4,n5,kk:=h
 #nd:fa≠d:=λz=>by @_,_,e:=U;[←z,dk]at e;&e
 #n8:fa≠F 8:=λz=>by[←z,dk]at D;&D
 #hX:∀b,(b=d\/b=F 8)->∃xs,H b=!(.lst xs):=λb hb=>by
  @rfl|rfl:=hb
  .@_,_,e:=U;!{_,e}
  .!{_,D}
 ?{_,O,d,7,O,U,⋯,⋯,λm H1 v Y m0 m1=>?_};#L1:LV H H1 d (F 8) []:={Rest.refl.del (.inl rfl) v,Y,DP.to v D g,λ_=>°};?{_,O,(),(),lD (lo:=0) (n:=m.toNat) (λj σ Z=>∃ys R u5 N u7,σ=[!(.ref d),!(.ref fa),!(.ref r),!(.ref kq),R,u5,N,u7]/\LV H Z d (F 8) ys/\ys.length=j) {[],_,_,_,_,O,L1,O} ?_ ?_}
 .rintro j σ Z hj ⟨ys,R,u5,N,u7,rfl,L,hl⟩
  #out:∀{b:R0} {o:HO} {W:Hp} {zs:#V},LV H W d (F 8) zs->b≠d->b≠F 8->H b=!o->W b=!o:=λL a1 a2 e=>L.rs _ _ e λz=>z.elim a1 a2;?{_,O,_,O,_,O,kq,_,O,.inl (aA.of (out L n2 n5 ek)),d,_,O,L.dw,(),(),λi1 Z1 v Y a1 b1=>{kq,kn,i1,O,O,aA.of (DP.to v (out L n2 n5 ek) n2),a1,b1,λvp M=>?_}};#x:=L.draw g v Y;?{_,O,_,O,_,O,r,_,O,.inl (aA.of (out x X n4 er)),d,_,O,x.dw,by ¤(0:Int)<2;decide,by ¤(2:Int)<1000;decide,λi2 Z2 s2 d2 a2 b2=>{r,_,i2,O,O,aA.of (DP.to s2 (out x X n4 er) X),a2,b2,λvh k=>?_}};#L3:=x.draw g s2 d2;?{aF rfl,λtl H4 g4 s4 e4=>?_};#L4:=L3.same s4;#nt:tl≠d:=L3.dw.ne g4;?{_,O,d,5,O,L4.dw,⋯,⋯,λi3 Z3 s3 d3 a3 b3=>{tl,_,i3,O,O,aA.of (DP.to s3 e4 nt),a3,b3,λvt t=>?_}};#B:=L4.draw g s3 d3
  obtain⟨hd,rfl,G⟩:∃z,vh=.str z/\PyData.strOk z=¶:=by
   ac_nf at k
   @h|h:=k <;> !{_,h,∅}
  obtain⟨tt,rfl,S⟩:∃z,vt=.str z/\PyData.strOk z=¶:=by
   ac_nf at t
   @h|h|h|h|h:=t <;> !{_,h,∅}
  ?{_,O,fa,.ref (F 8),O,.inl {cE F 9,.inr "leaves",.inl (out B nd n8 dk),O,(cR F 8 ⋯).symm},.inl {O,_,aA.of B.ey},_,O,_,O,_,O,_,O,d,3,O,B.dw,⋯,⋯,λi4 Z4 s5 d5 a4 b4=>?_};#L6:=B.draw g s5 d5;?{_,_,O,O,_,O,_,_,O,O,{⋯,⋯},_,_,O,O,_,O,_,_,O,O,(by ¤(0:Int)<2;decide),aF rfl,λcq Z5 g5 s6 e5=>{aF rfl,λtq Z6 g6 s7 e6=>?_}};#f:=(L6.same s6).same s7;?{F 8,ys,_,O,O,f.ey,cF (),?_};#C:ai Z6 (upd Z6 (F 8) (.lst (ys++[.ref tq]))):=ai.wl f.ey;?{ys++[.ref tq],_,_,_,_,O,{f.rs.wr (.inr rfl),?_,aD,λy q=>?_},by[qi,hl];rfl}
  .@a,b,e:=f.dw
   !{a,b,by[ax g.symm];!e}
  .@q|q:=zh.mp q
   .!(f.lr y q).ab C
   .[qx.mp q]
    @p,gp,hp:=(np vp M).ab (f.rs.ab hX);!{(_,_),tq,vp,p,hd,tt,_,cq,O,C _ _ e6,gp.ab C,hp,C _ _ (s7 _ _ e5),G,S}
 .rintro σ Z ⟨ys,R,u5,N,u7,rfl,L,hl⟩
  !kk Z ys L.rs L.ey L.lr ()
§Fb(T:Txt K mg tk)(F:FO K mg "told_leaves" qT)(a:×yJ):×yH:=by
 ?aN F Eb (wQ λ_ _ _=>rfl) (λ_ _ _ _ h=>M' h) λfa c A outer s H vs Q E b h=>?_
 ?{_,(aj (sn Eb.nd 3 jV)
   (aj (fo (il (J9 a b T.cU boot_sorted (a1 (vv 0)))) (gn Eb.nd 4)
   (aE (bA (PW.pt (jQ (ck c8 (xt (vv 4)) (vv 1)) (jJ (ck c8 (xt (vv 4)) (vv 2))))) (aE (jY (cO b) (vv 3) (xt (vv 4)) (xt (vv 4)) rfl)) cc)))
   (aE (aO (vv 3))))),?_}
 !h.2.elim
§Em(T:Txt K mg tk)(F:FO K mg "followers_of" uH)(C:×zB):×yQ:=by
 ?aN F DI (lR λ_=>rfl) {} λfa cdv A outer s H vs Q E hr h=>?_
 ?{_,(aj (sn DI.nd 1 jV)
   (aj (fo (il (J9 C hr T.cU boot_sorted (a1 (vv 0)))) (gn DI.nd 2)
   (aE (ap (bm PySem.F.plainAttrs_dict PySem.F.slot_dict_setdefault PySem.F.type_dict_setdefault (Kp (cO hr)) (vv 1) (a2 (xt (vv 2)) (bJ cS))) (a1 (xt (vv 2))))))
   (aE (aO (vv 1))))),?_}
 @p,ys,nk,bh,D,ms,js,t,rfl,hp,v,R,W,kk:=h;£R;#n:ms.Perm ms:=.refl _;¢dq H1 g1 M e1
 #hyl:ys.length=ms.length:=by[v.1,n.length_eq]
 #cI:=W.cI;?{_,O,p,ys,ms.map D,t,O,hp.same M,by[qj,v.1],W.keys,{(),.inr (wb.mpr W.up)},λm y d H' Q' q1 q2 s q=>?_,λq H2 ix g2 s2 J Z=>?_}
 .@k,L,pl:=v.at q1
  [qu,L]at q2;&qJ q2;!{y,nk,bh,D,k,O,pl.ab (M.trans s).ab,λkv hk=>q H' _ (af.refl _) hk.dv}
 #hix:∀i∈ix,i<ys.length:=λi hi=>by
  #:=(J.1.mem_iff).mp hi;[qo,qj]at this;[v.1];!this
 #a2:=v.ix ix hix;[xE n W.up J]at a2;generalize ix.map (λi=>ys.getD i .aR)=zs at Z a2;#N:zs.length=ms.length:=a2.1;#s02:=M.trans s2;#fq:H q=£:=M.free g2;?{q,O,{_,aA.of Z},eH (xs:=zs) (λj σ o=>∃kvs Y,σ=[!(.ref p),!(.ref dq),Y]/\af H o/\o q=!(.lst zs)/\FD nk bh ms (ms.take j) H o dq kvs/\kvs.length<=j/\∀k,vG kvs k≠some (.ref q)) {[],none,O,s02,Z,{s2 _ _ e1,g1,λk _=>.inl {O,O},λk k' q z=>(by &z),λk q z=>(by &z)},qe _,λk z=>(by &z)} (λj σ o _ ⟨_,_,_,_,e,_⟩=>aA.of e) ?_ ?_}
 .rintro j x σ o hx ⟨kvs,Y,rfl,I,eq,fd,B,nq⟩
  @m,em,pl:=a2.at hx;#S:m∈ms:=qw em;#hj:j<ms.length:=(qk.mp em).1
  #G:ms.take (j+1)=ms.take j++[m]:=by[qz,em];rfl
  #hb:∀i,bh m=!i->i∈ms:=λi e=>Rga.Ll W.wf S e;@b,vn,vb,vk,rfl,V,hn,U,hd:=pl.ab I.ab;?{_,O,.inr (.inr (.inl {O,.inr (.inr {kvs,fd.has})})),_,O,b,_,1,_,O,O,aZ.of V,O,aF rfl,λg H4 c f X=>?_};#a:=fd.same f;#t4:=I.trans f;#f0:H g=£:=I.free c;?{dq,kvs,kd nk (bh m),vb,.ref g,O,O,a.has,U.ab f.ab,kA (),λu r=>?_,λr=>?_}
  .@⟨h1,_⟩|⟨q',vs,h1,h2,h3,h4⟩:=a.each (bh m) hb
   .[h1]at r;&r
   .[h1]at r
    &r
    #vl:vs.length<=2000:=by
     [h3.1];¶kids;!qg (we _ _) (by[wv];¥)
    ?{.inl {O,_,aA.of h2},_,O,b,_,0,_,O,O,aZ.of (f _ _ V),O,q',_,_,O,O,h2,kA (),?_};?{kvs,_,O,t4.wr h4,?_,?_,(),nq}
    .[ax (λz=>nq _ (by[z];!h1))]
     !f _ _ eq
    .[G]
     !a.old W.inj hb h1 h2 (hn.ab f.ab)
  .#nz:g≠dq:=λz=>by[z,fd.has]at c;&c
   ?{.inl {O,_,aA.of (by[ax nz];!X)},_,O,b,_,0,_,O,O,aZ.of (ai.wd a.has _ _ (f _ _ V)),O,g,_,_,O,O,(by[ax nz];!X),kA (by ¤0<=_;¥),?_}
   #hqn:∀k,vG kvs k≠some (.ref g):=λk z=>by
    @xs,y:=fd.live k g z;[y]at c;&c
   ?{pG kvs (kd nk (bh m)) vb (.ref g),_,O,(t4.wr g1).wr f0,?_,?_,qg (iK kvs _ _ _) (j3 B),λk z=>?_}
   .#n1:q≠g:=λz=>by[←z,eq]at c;&c
    #n2:q≠dq:=λz=>by[z,fd.has]at eq;&eq
    [ax n1,ax n2];!f _ _ eq
   .[G]
    !a.first W.inj hb r f0 X hqn (hn.ab f.ab)
   .[eG]at z
    ¿L:k=kd nk (bh m)
    .[qF L]at z
     &z;[eq]at c;&c
    .[qB L]at z
     !nq k z
 .rintro σ o ⟨kvs,Y,rfl,I,eq,fd,B,nq⟩
  [N,ze]at fd;!{_,O,kk o dq kvs I fd}
§DX(T:Txt K mg tk)(F:FO K mg "telling_in_row" lg)(gfAy:×xN)(gfBt:×oE)(gfBy:×tM):×xS:=by
 ?aN F oP (wQ λ_ _ _=>rfl) {} λfa cdv A outer s H vs Q E hr h=>?_;#hu1:(A.deeper (envOfC "telling_in_row" (ag lg) ↑s fa cdv)).units+1<cLine:=cT hr
 ?{_,(aj (sn oP.nd 3 (cl gfBt hr (a1 (vv 2))))
   (aj (sn oP.nd 4 Ie)
   (aj (fo (il (J9 gfAy hr T.cU boot_sorted (a1 (tO (ag lg) xP [("part",1)] (il (cV hu1 (vv 0) aQ (λ_ _=>rfl))) (λ_ _ _=>(fB (ck (FI hr) (xt (vv 0)) (vc 1)))) (λ_ _ _=>(vv 0)))))) (gn oP.nd 5)
   (aj (sn oP.nd 6 (bm PySem.F.plainAttrs_dict PySem.F.slot_dict_setdefault PySem.F.type_dict_setdefault Mw (vv 4) (a2 (xt (vv 5)) (aH Gq (bJ (a1 dB)) (cb cZ T.bQ boot_len (a1 (vv 2)))))))
   (aj (sn oP.nd 7 (cl gfBy hr (ac (vv 3) (a2 (xt (vv 5)) (xt (vv 5))))))
   (aE (PY (vv 6) (f' (xt (vv 7))) (f' (xt (vv 7))) (aH Gq (bJ (a1 (vv 5))) (aH Cf (xt (vv 7)) (xt (vv 7)))) rfl)))))
   (aE (aO (vv 4)))))),?_}
 @fa,F,S,n,M,m,N,q,xs,ms,ns,vp,pt,rp,rv,rfl,fs,gvp,hlay,erp,ar,kk:=h;#W:=fs.ws;#WM:=fs.wm;#inj:Inj (cj S) (aG S n pt):=λi hi j hj=>W.inj i (mK W hi) j (mK W hj);#C:∀{d:Sd},dX S n pt d->pN (aG S n pt) d:=λo i b z=>(lV W).mpr (o i b z)
 #hml:ms.length=m:=by[fs.ma.1,zo]
 #fewm:=WM.cI
 #hrl:rv.length<=1400:=by[ar.1];!qg (iE W) W.cI
 ?{_,O,rp,rv,cj S,aG S n pt,O,erp,ar,lM W,inj,qg (iE W) W.cI,λH2 dq kvs s2 g2 e2 hse=>?_};¢t H4 g4 B e4;#X:=s2.trans B;#f4:=fs.same X;#erp4:=X _ _ erp;#edq4:=B _ _ e2;#gtq:H t=£:=s2.free g4;?{_,O,fa,.ref (F 4),O,.inl {cE F 9,.inr "marks",f4.dk,O,(cR F 4 ⋯).symm},F 4,O,{_,aA.of f4.ml},c7 (xs:=ms) (cK ()) (λj ys H'=>H'=H4/\AN (λv i=>MN S M H4 v i/\v=ms.getD i .aR) ys (((List.range m).take j).filter λi=>decide ((M i).pt=pt))) {O,.nil} (λ_ _ H' s'=>by[s'.1];!aA.of f4.ml) (λj x ys H' K1 K0 hx s' k1 k0=>?_) λH5 lp ys s' hy hq=>?_}
 .@rfl,ay:=s'
  @i,ei,nn:=f4.ma.at hx;#hin:i<m:=qo.mp (qw ei)
  #hj:j<m:=by[←hml];!(qk.mp hx).1
  #eij:i=j:=by[yq hj]at ei;!(qJ ei).symm
  #nn':MN S M H' x i/\x=ms.getD i .aR:={nn,by[eij,zm,hx];rfl};@b,vq,vb,ve,vn,kq,rfl,h1,h2,h3,h4,h5,h6:=nn
  #tk:(List.range m).take (j+1)=(List.range m).take j++[i]:=by[qz,ei];rfl
  ?{_,O,b,_,0,_,O,O,aZ.of h1,O,_,O,tD (M i).pt,tD pt,(aM h2).dv,(aM (gvp.ab X.ab)).dv,(WM.lay i hin).1,hlay,qg (yb _ _) (qg (ee _) ⋯),_,O,?_};#eqp:(if false=¶ then not (PyData.eqv (tD (M i).pt) (tD pt)) else PyData.eqv (tD (M i).pt) (tD pt))=decide ((M i).pt=pt):=gV _ _
  ¿hp:(M i).pt=pt
  .?cW (by[eqp];!qI hp) {_,O,k1 _ _ {O,?_}}
   [tk];!AN.pick (vs:=ms) ay nn' (qI hp)
  .?bV (by[eqp];!decide_eq_false hp) (k0 _ {O,?_})
   [tk];!ay.skip (by ±hp)
 @rfl,ay:=s';[hml,yr (by[zo];!qe _)]at ay;#ay:AN (λv i=>MN S M H5 v i/\v=ms.getD i .aR) ys (aJ M m pt):=ay;#n5:af H5 (upd H5 lp (.lst ys)):=af.new hq;#e5:(upd H5 lp (.lst ys)) lp=!(.lst ys):=aD;#G:AN (λv i=>MN S M (upd H5 lp (.lst ys)) v i/\v=ms.getD i .aR) ys (aJ M m pt):=ay.imp λv i g=>{MN.ab g.1 n5.ab,g.2};generalize upd H5 lp (.lst ys)=H6 at n5 e5 G;#hin:∀i∈aJ M m pt,i<m/\(M i).pt=pt:=λi hi=>{qo.mp (zk.mp hi).1,qO (zk.mp hi).2}
 #mup:(aJ M m pt).Pairwise λa b=>bT (.tuple [.int (M a).ka,.int (M a).kb]) (.tuple [.int (M b).ka,.int (M b).kb])=¶ :=
  ((ui m).imp_of_mem λ{a b} ha hb h=>i6 (WM.up a b h (qo.mp hb))).filter _
 #keys:KeysAre ((aJ M m pt).map λi=>.tuple [.int (M i).ka,.int (M i).kb]) 2:=uk λd hd=>by
  @i,_,rfl:=qf.mp hd;!.inl {_,_,O}
 #hyl:ys.length<=70:=by[hml]at hy;¥
 ?{lp,ys,(aJ M m pt).map λi=>.tuple [.int (M i).ka,.int (M i).kb],2,O,aA.of e5,by[qj,G.1],keys,{(),.inr (wb.mpr mup)},λmm y d H' Q' q1 q2 s q=>?_,λsq H7 ix g7 s7 six e7=>?_}
 .@k,ek,nn:=G.at q1
  [qu,ek]at q2;&qJ q2;!{y,S,M,k,O,nn.1.ab s.ab,λkv I=>q H' _ (af.refl _) I.dv}
 #hix:∀i∈ix,i<ys.length:=λi hi=>by
  #:=(six.1.mem_iff).mp hi;[qo,qj]at this;[G.1];!this
 #a2:=G.ix ix hix;[xE (.refl _) mup six]at a2;generalize ix.map (λi=>ys.getD i .aR)=zs at e7 a2
 #hzl:zs.length<=70:=by[a2.1,←G.1];!hyl
 #a7:AN (λv i=>MN S M H7 v i/\v=ms.getD i .aR) zs (aJ M m pt):=a2.imp λv i g=>{MN.ab g.1 s7.ab,g.2};#R:=n5.trans s7;#s07:=X.trans R;#etq7:=R _ _ e4;#nsq:sq≠t:=(a0 (n5 _ _ e4) g7).symm;#ndq:dq≠t:=a0 e2 g4;#nrp:rp≠t:=a0 (s2 _ _ erp) g4;#edq7:=R _ _ edq4;#erp7:=R _ _ erp4;#g7H:∀{a:R0},H7 a=£->H a=£:=λh=>s07.free h
 ?{sq,O,{_,aA.of e7},eH (xs:=zs) (λj σ Z=>∃(tv:#(Key×V)) (u5 u6 u7:Option V),σ=[!(.ref fa),!vp,!(.ref rp),!(.ref dq),!(.ref t),u5,u6,u7]/\af (del H7 t) Z/\Z t=!(.dK tv)/\TK M (aG S n pt) ((aJ M m pt).take j) ms (λa=>H7 a=£/\a≠t) Z tv)
  {[],none,none,none,O,kG,etq7,{O,(λ_=>°),λ_=>°}} (λj σ Z _ ⟨_,_,_,_,_,r,_⟩=>aA.of (DP.to r e7 nsq)) ?_ ?_}
 .rintro j x σ Z hx ⟨tv,u5,u6,u7,rfl,sZ,eZ,tk⟩
  @i,ei,nn,hxm:=a7.at hx;@hi,hpt:=hin i (qw ei)
  #tZ:ai H7 Z:=λa ys e=>DP.to sZ e (λz=>by[z,etq7]at e;&e)
  @b,vq,vb,ve,vn,kq,rfl,h1,h2,h3,h4,h5,h6:=MN.ab nn tZ
  #hsb:dX S n pt (M i).b:=by[←hpt];!(WM.sd i hi).1
  #L:dX S n pt (M i).e:=by[←hpt];!(WM.sd i hi).2
  #tk':(aJ M m pt).take (j+1)=(aJ M m pt).take j++[i]:=by[qz,ei];rfl
  #hls1:=JG (C hsb);#hls2:=JG (C L);#hrv:rv.length=(aG S n pt).length:=ar.1
  #hj:j<70:=by #:=(qk.mp hx).1;¥
  #htv:tv.length<=70:=by
   #e:=congrArg List.length tk.keys;[qj,qj]at e;[e];?qg (vM _ []) ?_;[wv];¤0+_<=_;¥
  #erpZ:=DP.to sZ erp7 nrp;#edqZ:=DP.to sZ edq7 ndq;?{_,O,.inr (.inr (.inl {O,.inl {tv,eZ}})),_,O,b,_,3,_,O,O,aZ.of h1,O,aF rfl,λl1 Z1 g1 s1 e1=>{_,O,rp,rv,O,.inl (aA.of (s1 _ _ erpZ)),l1,(rv.length:Int),_,O,O,e1,(),(),cK (by[Int.toNat_natCast];¤1 * rv.length<=2000;¥),λD Z2 g2 s2 e2=>?_}};#f:=s1.trans s2;#eZ2:=f _ _ eZ;#tk2:=tk.same f;#Y:Z D=£:=s1.free g2;?{t,tv,.inr (M i).kd,.ref D,O,O,eZ2,cF (),λu hu=>?_,λhn=>?_}
  .#I:(M i).kd∈kinds M ((aJ M m pt).take j):=Classical.byContradiction λz=>by
    #:=tk.no.mpr z;[this]at hu;&hu
   @a,ha,⟨fa1,fa2⟩,hva:=tk2.val _ I;[ha]at hu;&hu;?{_,O,_,O,b,_,1,_,O,O,aZ.of (f _ _ h1),O,_,O,b,_,2,_,O,O,aZ.of (f _ _ h1),O,dq,kvs,S,aG S n pt,vb,ve,(M i).b,(M i).e,O,(f _ _ edqZ),hse,h3.ab f.ab,C hsb,h4.ab f.ab,C L,λZ3 bq s3 e3=>?_};?{_,O,aF rfl,λl4 Z4 g4 B e4=>{_,O,bq,_,1,_,O,O,aZ.of (B _ _ e3),O,_,O,bq,_,0,_,O,O,aZ.of (B _ _ e3),O,_,_,O,O,l4,_,_,O,O,e4,(),(),cK (by ¤1 * _<=2000;¥),λc5 Z5 g5 s5 e5=>?_}};#p:=(s3.trans B).trans s5;#J:=s5 _ _ (B _ _ e3);[xq,show((max (bH (aG S n pt) (M i).b) (bH (aG S n pt) (M i).e):Nat) - (bH (aG S n pt) (M i).b:Nat):Int).toNat=max (bH (aG S n pt) (M i).b) (bH (aG S n pt) (M i).e) - bH (aG S n pt) (M i).b from ()]at e5;#ea5:=p _ _ hva;#nac:a≠c5:=a0 ((s3.trans B) _ _ hva) g5;?{_,O,_,O,bq,_,0,_,O,O,aZ.of J,O,_,O,_,O,bq,_,1,_,O,O,aZ.of J,O,_,O,a,c5,_,_,bH (aG S n pt) (M i).b,max (bH (aG S n pt) (M i).b) (bH (aG S n pt) (M i).e),O,O,nac,ea5,aA.of e5,O,O,(),by[pX];¥,(by[pX,j6,sizeLine_eq];¥),?_};[show V.ref b=ms.getD i .aR from hxm,KC rfl rfl () ()];?{tv,_,_,_,O,(af.trans sZ (f.trans p)).wr (by[bR fa2];!fa1),by[ax fa2.symm];!p _ _ eZ2,?_};[tk'];!(tk2.same p).old I ha rfl
  .#I:=tk.no.mp hn
   #U:D≠t:=(a0 eZ Y).symm;[Int.toNat_natCast,hrv,xq,←Qr (ms:=ms) I]at e2
   #r2:∀c o,c≠t->Z2 c=!o->(upd Z2 t (.dK (putK tv (.inr (M i).kd) (.ref D)))) c=!o:=λc o h e=>by[ax h];!e
   #tx:ai Z (upd Z2 t (.dK (putK tv (.inr (M i).kd) (.ref D)))):=λc ys e=>r2 c _ (λz=>by[z,eZ]at e;&e) (f _ _ e)
   #sn:af (del H7 t) (upd Z2 t (.dK (putK tv (.inr (M i).kd) (.ref D)))):=(af.trans sZ f).wr dV;#en:(upd Z2 t (.dK (putK tv (.inr (M i).kd) (.ref D)))) t=!(.dK (putK tv (.inr (M i).kd) (.ref D))):=aD;#e2n:=r2 _ _ U e2;#edqn:=r2 _ _ ndq (f _ _ edqZ);#h1n:=tx _ _ h1;generalize upd Z2 t (.dK (putK tv (.inr (M i).kd) (.ref D)))=Zn at r2 tx sn en e2n edqn h1n;?{_,O,_,O,b,_,1,_,O,O,aZ.of h1n,O,_,O,b,_,2,_,O,O,aZ.of h1n,O,dq,kvs,S,aG S n pt,vb,ve,(M i).b,(M i).e,O,edqn,hse,h3.ab tx,C hsb,h4.ab tx,C L,λZ3 bq s3 e3=>?_};?{_,O,aF rfl,λl4 Z4 g4 B e4=>{_,O,bq,_,1,_,O,O,aZ.of (B _ _ e3),O,_,O,bq,_,0,_,O,O,aZ.of (B _ _ e3),O,_,_,O,O,l4,_,_,O,O,e4,(),(),cK (by ¤1 * _<=2000;¥),λc5 Z5 g5 s5 e5=>?_}};#p:=(s3.trans B).trans s5;#J:=s5 _ _ (B _ _ e3);[xq,show((max (bH (aG S n pt) (M i).b) (bH (aG S n pt) (M i).e):Nat) - (bH (aG S n pt) (M i).b:Nat):Int).toNat=max (bH (aG S n pt) (M i).b) (bH (aG S n pt) (M i).e) - bH (aG S n pt) (M i).b from ()]at e5;#ea5:=p _ _ e2n;#nac:D≠c5:=a0 ((s3.trans B) _ _ e2n) g5;?{_,O,_,O,bq,_,0,_,O,O,aZ.of J,O,_,O,_,O,bq,_,1,_,O,O,aZ.of J,O,_,O,D,c5,_,_,bH (aG S n pt) (M i).b,max (bH (aG S n pt) (M i).b) (bH (aG S n pt) (M i).e),O,O,nac,ea5,aA.of e5,O,O,(),by[pX];¥,(by[pX,j6,sizeLine_eq];¥),?_};[show V.ref b=ms.getD i .aR from hxm,KC rfl rfl () ()];?{putK tv (.inr (M i).kd) (.ref D),_,_,_,O,(af.trans sn p).wr (sZ.free Y),by[ax U.symm];!p _ _ en,?_};[tk']
   #nev:∀kd c,bO tv (.inr kd)=!(.ref c)->c≠D:=λkd c e z=>by
    #hkd:kd∈kinds M ((aJ M m pt).take j):=Classical.byContradiction λy=>by
     [tk.no.mpr y]at e;&e
    @c',q1,_,q3:=tk.val kd hkd;[e]at q1;&q1;[z,Y]at q3;&q3
   ?TK.new {tk.keys,λkd hkd=>?_,tk.ne} I {?_,U} nev rfl aD
   .@c,q1,q2,q3:=tk2.val kd hkd
    !{c,q1,q2,by[ax (nev kd c q1)];!p _ _ (r2 _ _ q2.2 q3)}
   .#:=sZ.free Y
    [bR U]at this;!this
 .rintro σ Z ⟨tv,u5,u6,u7,rfl,sZ,eZ,tk⟩
  [show zs.length=(aJ M m pt).length from a2.1,ze]at tk;!{_,O,kk Z t tv (λb o e=>DP.to sZ (s07 _ _ e) (a0 e gtq)) gtq eZ {tk.keys,λkd I=>let⟨a,h1,h2,h3⟩:=tk.val kd I;{a,h1,{g7H h2.1,h2.2},h3},tk.ne}}
§Cv(T:Txt K mg tk)(F:LF K mg "greatest_place" tI bB)(hB:base.BuiltinsAt mg bB):×zW:=by
 ?GN F EX (iP λ_ _=>rfl) {} λfa cdv A outer s H vs Q E hC L h=>?_;?{_,(aE (aO (PD (k:=0) (y:="one") (z:="telling") (i:=0) rfl hC hB (L.mono ⋯) (by rfl) T.Aa boot_max {O,O,O,∅,O,O,∅} rfl rfl (λ_ h=>fJ h) rfl rfl (λ_ _ _ _ _=>rfl) (λ_ _ _ _ _ _ _ L=>(xt (dE (cO L) (vf 1) (vv 0) (λ_ _=>rfl)))) (a1 (vv 1))))),?_};@Z,Y,kt,xs,ws,ls,rfl,N,S,G,n,f,M,V,tb,kk:=h
 #nla:Y≠gE:=λz=>by
  @ps,t:=tb.cf;[←z,n]at t;&t
 ?{_,O,tb,λH2 t2 sd=>?_};#s2:af (del H gE) H2:=λb o e=>kG _ _ (sd _ _ e);#p:=My.iR tb s2 n λ_=>°;#R:=zO tb s2;#D:=S.imp λe x q=>q.imp (R':=fx H2) R λr=>r.ab R;#B:=Ro tb s2 N λ_=>°;#d:=f.imp λv k q=>ij.ab q R;#U:ws.length=ls.length:=f.1;#hl0:0<ls.length:=m9.mpr M;?{Y,ws,.ref Z,λm=>match fX xs (ls.getD m []) with|some x=>[x.ka,x.kb]|none=>[],O,aA.of p,(),O,λm y H' Q' W s' k=>?_,λm y Hn W g sn=>?_}
 .@I,a,J:=d.at W
  #c:=qw a;@x,hx,ex:=qf.mp (gH.mp (V I c));#C:=D.imp λe x q=>q.imp (R':=fx H') s'.ab λr=>r.ab s'.ab;@v,hv,b,vp,vo,vn,kq,rfl,h1,h2,X,h4,h5:=pK C G hx
  #eD:ls.getD m []=x.pt:=by[zm,a];!ex.symm
  [←ex]at J;?{_,O,_,O,Z,kt,.tup x.pt,.ref b,O,Rd.same B s',GK.ab J s'.ab,hv,b,_,3,.ref kq,O,O,aZ.of h1,O,k H' _ (af.refl _) ?_};¤DV H' (.ref kq) (.tuple ((match fX xs (ls.getD m []) with|some x=>[x.ka,x.kb]|none=>[]).map PyData.int));[eD,kK G hx];!.tup (aZ.of h5) (.cons (.int _) (.cons (.int _) .nil))
 .@I,a,J:=d.at W
  #c:=qw a;?kk Hn y I (s2.trans sn) (t2.same sn) c (λb hb=>?_) (ij.ab J sn.ab);rintro⟨x,z,h1,h2,X⟩;@j,hj,ej:=z8.mp hb;#:=g j (by[U];!hj)
  #e1:ls.getD m []=I:=by[zm,a];rfl
  #e2:ls.getD j []=b:=by[zm,qh hj,ej];rfl
  simp only[e1,e2,h1,h2]at this
  [show bT (.tuple ([x.ka,x.kb].map PyData.int)) (.tuple ([z.ka,z.kb].map PyData.int))=¶ from i6 X]at this;&this
§A5(T:Txt K mg tk)(F:FO K mg "shown_among" lH)(gfAk:×uI):×yP:=by
 ?aN F xg (iP λ_ _=>rfl) {} λfa cdv A outer s H vs Q E M h=>?_;#hu1:(A.deeper (envOfC "shown_among" (ag lH) ↑s fa cdv)).units+1<cLine:=cT M
 ?{_,(aj (sm xg.nd 2 (cy (fR M.hd (p5 M)) T.c6 boot_dict (a1 (zQ (il (cV hu1 (vv 0) aQ (λ_ _=>rfl))) (λ_ _ _=>dI) (λ_ _ _=>(a9 (a2 (xt (vv 0)) bW)))))))
   (aj (sn xg.nd 3 (cy (fR M.hd (p5 M)) T.c6 boot_dict (a1 (iu (own:=["part","outer"]) (fr:=[("cut",2)]) rfl (uq (vv 1)) {O,∅,∅} (jX (ag lH) ["facts","stands","cut","left","reaching"] rfl rfl (λ_ h=>fJ h) ∅ ∅ ∅) (λ_ _ _=>(jP (n:=2) rfl (de (cN (i:=0) (by ¤List.Nodup (["part","outer","cut"]:#R9);decide +kernel) rfl (Or.inl rfl)) (de (cN (i:=1) (by ¤List.Nodup (["part","outer","cut"]:#R9);decide +kernel) rfl (Or.inl rfl)) g_)))) (λ_=>pL rfl rfl ⋯) (λ_ _ _=>(fB (ck (xn (cO M)) (vv 0) (vc 2)))) (λ_ _ _=>(a9 (a2 (vv 0) (vv 1))))))))
   (aj (sn xg.nd 4 (cl gfAk M (a1 (vv 3))))
   (aE (aO (cy (fR M.hd (p5 M)) T.c6 boot_dict (a1 (iu (own:=["part","comes"]) (fr:=[]) rfl (uq (vv 4)) {O,∅,∅} (iX ∅) (λ_ _ _=>(jP (n:=2) rfl (de (cN (i:=0) (by ¤List.Nodup (["part","comes"]:#R9);decide +kernel) rfl (Or.inl rfl)) (de (cN (i:=1) (by ¤List.Nodup (["part","comes"]:#R9);decide +kernel) rfl (Or.inl rfl)) g_)))) (λ_=>pL rfl rfl ⋯) (λ_ _ _=>(fB (dA (vv 1)))) (λ_ _ _=>(a9 (a2 (vv 0) bW))))))))))),?_}
 @fa,F,bs,es,cs,rs,cu,k,da,kd,zs,rfl,fb,hk,hda,akd,W,ma,kk:=h;#hcl:=fb.fi.cl;#hfew:=W.cI;#L:=W.Nq (lfp cu);?{_,O,fa,.ref (F 2),O,.inl {cE F 9,.inr "cuts",fb.dk,O,(cR F 2 ⋯).symm},F 2,O,{_,aA.of fb.ec},c7 (xs:=cs) (lB ()) (λj us X=>af H X/\∃es:#(KD×V×V),cw X us es/\AL (λe k=>e.1=nd k) es (cu.take j)) {af.refl _,[],trivial,.nil} (λ_ _ X s=>aA.of (s.1 _ _ fb.ec)) (λj x us X K1 K0 hx s' k1 k0=>?_) λX np us s' hu hq=>?_}
 .@g,d,C,m:=s'
  @c,hc,p:=fb.fi.ct.at hx;@b,vp,vn,y,rfl,h1,h2,h3,h4,h5:=p.ab g.ab;?dH (B:=K0 X) ?_;?{_,O,b,_,0,vp,O,O,aZ.of h1,O,aF rfl,λtq X4 g4 s4 e4=>k1 _ _ {g.trans s4,d++[(nd c,vp,.bl true)],cw.snoc (e:=(nd c,vp,.bl true)) {tq,O,e4,gZ h3.ne (h2.ab s4.ab)} (C.ab s4.ab),?_}};[qz,hc];!m.snoc rfl
 @g,d,C,m:=s';[fb.fi.ct.1,ze]at m;#v:af X (upd X np (.lst us)):=af.new hq;?{np,us,d,O,aA.of aD,C.ab v.ab,(),λca X2 g2 s2 e2=>?_};#smC:fy (putAll [] d) (λk=>k∈cu):=λa=>(Iv m fy.nil a).trans {λz=>z.resolve_left id,.inr};generalize putAll [] d=kc at e2 smC;#G:=(g.trans v).trans s2;#fca:H ca=£:=(g.trans v).free g2;clear C m hq hu v s2 g2 g
 #nca:ca≠da:=λz=>by
  [z]at fca;@q|⟨o',q⟩:=hda <;> rw[fca]at q <;> &q
 #hda2:=Rd.same hda G;?{_,O,da,kd,O,qQ hda2 λo Y hY fY eY=>?_}
 #tY:ai X2 Y:=λb us e=>hY b _ (λz=>by
  £z
  @q|⟨o',q⟩:=hda2 <;> rw[q]at e <;> &e) e
 #tHY:=G.ab.trans tY;#ecY:=hY ca _ nca e2;#aY:=akd.imp λe x q=>q.imp (R':=h_ Y) tHY λr=>r.ab tHY;?xm (lB (by[aY.1];¥)) (λj us X=>af Y X/\∃es:#(KD×V×V),cw X us es/\AL (EK (h_ X) X) es ((zs.take j).filter (lfp cu))) {af.refl _,[],trivial,.nil} (λ_ _ X s'=>s'.1 _ _ eY) (λj e us X p K1 K0 hx s' hp k1 k0=>?_) λX3 np us s' hy hq=>?_
 .@g,d,C,m:=s'
  @r,M,p1,p2,p3:=aY.at hx;#sp:af X (upd X p (.tup [e.2.1,e.2.2])):=af.new hp;#ep:(upd X p (.tup [e.2.1,e.2.2])) p=!(.tup [e.2.1,e.2.2]):=aD;generalize upd X p (.tup [e.2.1,e.2.2])=X1 at sp ep;#t:=g.trans sp;#hpt:r.pt≠[]:=(W.pt r (qw M)).ne;?{p,_,O,aZ.of ep,O,_,_,O,_,_,O,O,?_};?{_,O,_,O,ca,kc,nd r.pt,O,.inl (t _ _ ecY),gZ hpt (p2.ab t.ab),_,O,?_};[qF rfl]
  ¿R:r.pt∈cu
  .[smC.yes R]
   ?bV rfl (k0 _ {t,d,C.ab sp.ab,?_});[qz,M,yg,show(!r).toList=[r] from rfl,je (by[Hu R];!qr),yv,wx];!m.imp λe x p=>p.imp sp.ab λq=>q.ab sp.ab
  .[smC.no R]
   ?cW rfl ?_;?{_,O,_,O,aF rfl,λt3 X3 g3 s3 e3=>?_};#D:=sp.trans s3;?k1 _ _ {g.trans D,d++[(.tup r.pt,e.2.1,e.2.2)],?_,?_}
   .!cw.snoc (e:=(.tup r.pt,e.2.1,e.2.2)) {t3,O,e3,(p2.ab t.ab).ab s3.ab} (C.ab D.ab)
   .[qz,M,yg,show(!r).toList=[r] from rfl,jd (Lb R),yv]
    !(m.imp λe x p=>p.imp D.ab λq=>q.ab D.ab).snoc {O,(p2.ab t.ab).ab s3.ab,(h_.ab p3 t.ab).ab s3.ab}
 @g,d,C,m:=s';[aY.1,ze]at m;#v:af X3 (upd X3 np (.lst us)):=af.new hq;?{np,us,d,O,aA.of aD,C.ab v.ab,?_,λla X4 g4 s4 e4=>?_}
 .#:us.length<=kd.length:=hy
  #:=aY.1;¥
 [pV _ [] (by[wz];!wF m L.nd),wz]at e4;#J:=(g.trans v).trans s4;#al4:AL (EK (h_ X4) X4) d (zs.filter (lfp cu)):=m.imp λe x p=>p.imp (v.trans s4).ab λq=>q.ab (v.trans s4).ab;#fla:Y la=£:=(g.trans v).free g4;clear m C hq hy v s4 g4 g;#fla2:=fY _ fla;#flaH:=G.free fla2;#ma4:MA X4:=J.ab _ _ (tHY _ _ ma);?{_,O,la,d,zs.filter (lfp cu),O,.inl e4,al4,L,ma4,λX5 ra kr f s5 hla5 gra era rm rcr hkf=>?_};#N:=J.free gra;#fra2:=fY _ N;#fraH:=G.free fra2
 #S:∀{b u},X4 b=!u->b≠la->X5 b=!u:=λe n=>s5 _ _ (by[bR n];!e)
 #hkl:=rm.cI L.cI;?{_,O,ra,kr,O,qQ (.inl era) λo2 U hU fU eU=>?_}
 #tU:ai X5 U:=λb us e=>hU b _ (λz=>by
  £z
  [era]at e;&e) e
 #rmU:=rm.ab tU;@ks,aks:=Ae rmU.ent;?xm (lB ()) (λj us X=>af U X/\∃es:#(KD×V×V),cw X us es/\AL (λe k=>e.1=nd k) es ((ks.take j).filter λk=>decide (f k=!true))) {af.refl _,[],trivial,.nil} (λ_ _ X s'=>s'.1 _ _ eU) (λj e us X p K1 K0 hx s' hp k1 k0=>?_) λX6 np us s' hy hq=>?_
 .@g,d,C,m:=s'
  @a,ha,p1,p2,p3:=aks.at hx;#hv:=pE rmU.kn hx p2;[rmU.at_]at hv;@b,hb,hbv:=wj.mp hv;@e1,I,e22:=e;#hbv:V.bl b=e22:=hbv;£hbv;#sp:af X (upd X p (.tup [I,.bl b])):=af.new hp;#ep:(upd X p (.tup [I,.bl b])) p=!(.tup [I,.bl b]):=aD;¤_;generalize upd X p (.tup [I,.bl b])=X1 at sp ep;#t:=g.trans sp;?{p,_,O,aZ.of ep,O,_,_,O,_,_,O,O,?_}
  cases b with
  |false =>
   refine{_,O,_,O,bV rfl (k0 _ {t,d,C.ab sp.ab,?_})};[qz,ha,yg,show(!a).toList=[a] from rfl,je (by[hb];decide),yv,wx];!m
  |true =>
   refine{_,O,_,O,cW rfl {_,O,aF rfl,λt3 X3 g3 s3 e3=>?_}};#D:=sp.trans s3;?k1 _ _ {g.trans D,d++[(nd a,I,.bl true)],cw.snoc (e:=(nd a,I,.bl true)) {t3,O,e3,(GK.ab p3 t.ab).ab s3.ab} (C.ab D.ab),?_};[qz,ha,yg,show(!a).toList=[a] from rfl,jd (by[hb];decide),yv];!m.snoc rfl
 @g,d,C,m:=s';[aks.1,ze]at m;#v:af X6 (upd X6 np (.lst us)):=af.new hq;?{np,us,d,O,aA.of aD,C.ab v.ab,?_,λqa X7 g7 s7 e7=>?_}
 .#:us.length<=kr.length:=hy
  ¥
 #smQ:fy (putAll [] d) (λk=>k∈ks.filter λk=>decide (f k=!true)):=λa=>(Iv m fy.nil a).trans {λz=>z.resolve_left id,.inr};#sU7:=(g.trans v).trans s7;#Z:U qa=£:=(g.trans v).free g7;#toU:∀{b u},H b=!u->b≠da->X7 b=!u:=λe n=>sU7 _ _ (hU _ _ (a0 e fraH) (S (J _ _ (hY _ _ n (G _ _ e))) (a0 e flaH)));#eda7:X7 da=!(.cJ o (.dG kd)):=sU7 _ _ (hU _ _ (a0 eY N) (S (J _ _ eY) (a0 eY fla)))
 #fqH:H qa=£:=by
  #h5:=fU _ Z
  cases q:H qa with
  |none=>rfl
  |some u =>
   ¿z:qa=da
   .[z]at Z
    [hU _ _ (a0 eY N) (S (J _ _ eY) (a0 eY fla))]at Z;&Z
   .[S (J _ _ (hY _ _ z (G _ _ q))) (a0 q flaH)]at h5
    &h5
 ?kk X7 qa _ f (λb u e=>?_) (.inr {o,eda7}) fqH e7 rcr λa=>(smQ a).trans {λz=>qO (zk.mp z).2,λh=>zk.mpr {?_,qI h}}
 .#nb:b≠da:=λz=>by[z,dV]at e;&e
  [bR nb]at e;!toU e nb
 #h:f a=!true:=h;#hv:=rmU.at_ a;[h]at hv;@e,he,e1:=Kb hv;@k',hk',p:=aks.mem he;[←o8 (p.2.1.symm.trans e1)];!hk'
§BY(T:Txt K mg tk)(F:FO K mg "words_told" k_)(o:×zS):×zJ:=by
 ?aN F Js (iP λ_ _=>rfl) {} λfa cdv A outer s H vs Q E U h=>?_;#hu1:(A.deeper (envOfC "words_told" (ag k_) ↑s fa cdv)).units+1<cLine:=cT U
 ?{_,(aj (sn Js.nd 2 (J9 o U T.cU boot_sorted (a1 (tO (ag k_) yO [("part",1)] (il (cV hu1 (vv 0) aQ (λ_ _=>rfl))) (λ_ _ _=>(fB (ck (FI U) (xt (vv 0)) (vc 1)))) (λ_ _ _=>(vv 0))))))
   (aE (aO (cy (fR U.hd (p5 U)) T.c6 boot_dict (a1 (zQ (il (vv 2)) (λ_ _ _=>dI) (λ_ _ _=>(a9 (a2 (a9 (a2 (xt (vv 0)) (xt (vv 0)))) (xt (vv 0))))))))))),?_}
 @fa,vp,pt,L,n,C,m,rfl,⟨t,la,vs,ca,cs,rd,_,_,_,_,J,D,an,W⟩,hvp,G,kk:=h
 #Y:cs.length=m:=by[an.1,zo]
 #cI:=W.cI;?{_,O,fa,.ref ca,O,.inl {t,.inr "cells",rd,O,J.symm},ca,O,{_,aA.of D},c7 (xs:=cs) (cK ()) (λj ys H'=>H'=H/\AN (iD C H) ys (((List.range m).take j).filter λi=>decide ((C i).pt=pt))) {O,.nil} (λ_ _ H' s'=>by[s'.1];!aA.of D) (λj x ys H' K1 K0 hx s' k1 k0=>?_) λH1 I ys s' hy hq=>?_}
 .@rfl,z:=s'
  @i,ei,ce:=an.at hx;#hin:i<m:=qo.mp (qw ei);#ce':=ce;@b,vq,vr,vc,kq,rfl,h1,h2,h3,h4,h5:=ce
  #tk:(List.range m).take (j+1)=(List.range m).take j++[i]:=by[qz,ei];rfl
  ?{_,O,b,_,0,_,O,O,aZ.of h1,O,_,O,tD (C i).pt,tD pt,(aM h2).dv,(aM hvp).dv,(W.lay i hin).1,G,qg (yb _ _) (qg (ee _) ⋯),_,O,?_};#Z:(if false=¶ then not (PyData.eqv (tD (C i).pt) (tD pt)) else PyData.eqv (tD (C i).pt) (tD pt))=decide ((C i).pt=pt):=gV _ _
  ¿hp:(C i).pt=pt
  .?cW (by[Z];!qI hp) ?_
   ?{_,O,k1 _ _ {O,?_}};[tk];!AN.pick (vs:=cs) z ce' (qI hp)
  .?bV (by[Z];!decide_eq_false hp) ?_
   ?k0 _ {O,?_};[tk];!z.skip (by ±hp)
 @rfl,z:=s';[Y,yr (by[zo];!qe _)]at z
 #hyl:ys.length<=100:=by[Y]at hy;¥
 #n1:af H1 (upd H1 I (.lst ys)):=af.new hq;#e1:(upd H1 I (.lst ys)) I=!(.lst ys):=aD;#f:=z.imp λv i g=>iD.ab g n1.ab;generalize upd H1 I (.lst ys)=H2 at n1 e1 f
 #X:((List.range m).filter λi=>decide ((C i).pt=pt)).Pairwise λa b=>bT (.tuple [.int (C a).ka,.int (C a).kb]) (.tuple [.int (C b).ka,.int (C b).kb])=¶ :=
  ((ui m).imp_of_mem λ{a b} ha hb h=>i6 (W.up a b h (qo.mp hb))).filter _
 #keys:KeysAre (((List.range m).filter λi=>decide ((C i).pt=pt)).map λi=>.tuple [.int (C i).ka,.int (C i).kb]) 2:=uk λd hd=>by
  @i,_,rfl:=qf.mp hd;!.inl {_,_,O}
 ?{I,ys,((List.range m).filter λi=>decide ((C i).pt=pt)).map λi=>.tuple [.int (C i).ka,.int (C i).kb],2,O,aA.of e1,by[qj,f.1],keys,{(),.inr (wb.mpr X)},λmm y d H' Q' q1 q2 s q=>?_,λq H3 ix g3 s3 R e3=>?_}
 .@k,ek,ce:=f.at q1
  [qu,ek]at q2;&qJ q2;!{y,C,k,O,ce.ab s.ab,λkv hk=>q H' _ (af.refl _) hk.dv}
 #hix:∀i∈ix,i<ys.length:=λi hi=>by
  #:=(R.1.mem_iff).mp hi;[qo,qj]at this;[f.1];!this
 #a2:=f.ix ix hix;[xE (.refl _) X R]at a2;generalize ix.map (λi=>ys.getD i .aR)=zs at e3 a2;generalize p:((List.range m).filter λi=>decide ((C i).pt=pt))=ms at a2
 #hzl:zs.length<=100:=by[a2.1,←p];!qg (we _ _) (by[zo];!cI)
 #a3:=a2.imp λv i g=>iD.ab g s3.ab;?{_,O,q,O,{_,aA.of e3},c7 (xs:=zs) (cK ()) (λj us H'=>af H3 H'/\∃kvs,cw H' us kvs/\kvs.map (λe=>(e.1,e.2.2))=(ms.take j).map (λi=>(KD.two (C i).rw (C i).cl,V.str (C i).wd))) {af.refl _,[],trivial,O} (λ_ _ H' s'=>aA.of (s'.1 _ _ e3)) (λj x us H' K1 K0 hx s' k1 k0=>?_) λH4 up us s' hu4' huq=>?_}
 .@s',kvs,pr,pk:=s'
  @i,ei,ce:=a3.at hx;@b,vq,vr,vc,kq,rfl,h1,h2,h3,h4,h5:=ce.ab s'.ab;@c,rfl,hc:=h3;@d',rfl,hd:=h4
  #tk:ms.take (j+1)=ms.take j++[i]:=by[qz,ei];rfl
  ?dH (B:=K0 H') ?_;?{_,O,b,_,1,_,O,O,aZ.of h1,O,_,O,b,_,2,_,O,O,aZ.of h1,O,aF rfl,λtq H5 g5 M e5=>?_};?{_,O,b,_,3,_,O,O,aZ.of (M _ _ h1),O,aF rfl,λpq H6 g6 N e6=>k1 _ _ {(s'.trans M).trans N,kvs++[(.two (C i).rw (C i).cl,.ref tq,.str (C i).wd)],cw.snoc (e:=(.two (C i).rw (C i).cl,.ref tq,.str (C i).wd)) {pq,O,e6,tq,c,d',O,N _ _ e5,N _ _ (M _ _ hc),N _ _ (M _ _ hd)} (pr.ab (M.trans N).ab),?_}};[tk,z7,z7,pk];rfl
 @s4,kvs,pr,pk:=s';#n4:af H4 (upd H4 up (.lst us)):=af.new huq;#S:=((n1.trans s3).trans s4).trans n4;?{up,us,kvs,O,aA.of aD,pr.ab n4.ab,(),λdq H7 g7 s7 e7=>kk H7 dq _ (S.trans s7) (S.free g7) e7 λr c=>?_};[show zs.length=ms.length from a2.1,ze]at pk;[GL];¤List.foldl _ (V.str "") kvs=_
 #e:kvs.foldl (λa e=>if e.1=KD.two r c then e.2.2 else a) (V.str "")=(kvs.map (λe=>(e.1,e.2.2))).foldl (λa (e:KD×V)=>if e.1=KD.two r c then e.2 else a) (V.str ""):=by[List.foldl_map]
 [e,pk,List.foldl_map,←p];!Lk C pt r c m
§Ec(T:Txt K mg tk)(F:FO K mg "_law_signs" oG)(m:×fO)(gfBl:×xX):×Ab:=by
 ?aN F lL (zF λ_ _ _ _=>rfl) {} λfa cdv A outer s H vs Q E y h=>?_;#hu1:(A.deeper (envOfC "_law_signs" (ag oG) ↑s fa cdv)).units+1<cLine:=cT y
 ?{_,(aj (sn lL.nd 4 jV)
   (aj (fo (lG (by rfl) T.dn (a1 (cl m y (a2 (vv 0) aB)))) (gn lL.nd 5)
   (aj (sn lL.nd 6 (xa (vv 3) (cl m y (a2 (vv 0) (cb cZ T.bQ boot_len (a1 (vv 3)))))))
   (aj (sn lL.nd 7 (xa (aH qU (bJ (a1 dB)) (bm PySem.F.plainAttrs_dict PySem.F.slot_dict_get PySem.F.type_dict_get (iC (cO y)) (vv 4) (a2 (vv 6) (bJ cS)))) (cl m y (a2 (vv 0) (aH cY aB (cb QV T.bQ boot_len (a1 (bm PySem.F.plainAttrs_dict PySem.F.slot_dict_get PySem.F.type_dict_get (iC (cO y)) (vv 4) (a2 (vv 6) (bJ cS))))))))))
   (aj (sn lL.nd 8 (a9 (ac (xa (vv 2) (aH eJ (vv 5) (cb cZ T.bQ boot_len (a1 (vv 2))))) (a2 (aH cY aB (vv 5)) aB))))
   (aj (sn lL.nd 9 (ce eB (cl m y (a2 (vv 0) aB)) aB))
   (aj (sn lL.nd 10 (a9 (ac (aH cY aB (aH jF (vv 5) aB)) (a2 (aH eJ (vv 5) aB) aB))))
   (aj (ap (cV hu1 (vv 1) aQ (λ_ _=>rfl)) (a1 (a9 (ac (vv 6) (ac (vv 8) (ac (vv 7) (ac (vv 10) (a2 (cl gfBl y (a2 (vv 0) (vv 3))) (vv 9)))))))))
   (aE (jY (cO y) (vv 4) (vv 6) (aH qU (bm PySem.F.plainAttrs_dict PySem.F.slot_dict_get PySem.F.type_dict_get (iC (cO y)) (vv 4) (a2 (vv 6) (bJ cS))) (bJ (a1 (vv 8)))) rfl)))))))))
   (aE (aO (vv 4))))),?_}
 @d,fa,r,kq,F,kn,rfl,dw,dk,e3,er,ek,hkn,k0,k1,rd,D,fd,rf,kf,kk:=h;?λnq H1 gn Y en=>?_
 #X:H d≠none:=let⟨_,_,e⟩:=dw;by[e];!°
 #hf:H (F 3)≠none:=by[e3];!°
 #nd:nq≠d:=λz=>X (z▸gn);#nf:nq≠F 3:=λz=>hf (z▸gn)
 #nfa:fa≠d:=λz=>by @_,_,e:=dw;[←z,dk]at e;&e
 #nff:fa≠F 3:=λz=>by[←z,dk]at e3;&e3
 #B1:SB H H1 d (F 3) nq (λ_=>⟨[],[],none,0,0,0,.none,false⟩) 0 [] []:={Rest.refl.same Y,dw.same Y,Y _ _ e3,.nil,{qv _,(λi j _ z=>nomatch z),(λ_=>°),(λ_=>°),(λ_=>°),(λ_=>°)},(λ_=>°),(λ_=>°),(λ_=>°),en,{(λ_=>°),(λk u z=>nomatch z)},(λk u z=>nomatch z)};?{_,O,d,25,O,B1.dw,⋯,⋯,λc H2 s2 w2 a2 b2=>?_};#B2:=B1.draw X fd nd s2 w2;?{c,O,(),(),lD (lo:=0) (n:=c.toNat) (λj σ Z=>∃S xs kvs u5 u6 u7 u8 u9 M,σ=[!(.ref d),!(.ref fa),!(.ref r),!(.ref kq),!(.ref nq),u5,u6,u7,u8,u9,M]/\SB H Z d (F 3) nq S j xs kvs/\xs.length=j/\kvs.length<=j) {_,_,_,_,_,_,_,_,_,O,B2,O,qe _} ?_ ?_}
 .rintro j σ Z hj ⟨S,xs,kvs,u5,u6,u7,u8,u9,M,rfl,B,hx,hk⟩
  #ekZ:=B.out ek D kf;#erZ:=B.out er rd rf
  #knZ:KN Z kn:=hkn.ab (mL B.ro λb z ys e=>by
   @z|z:=z <;> £z
   .@_,_,e':=dw
    [e']at e;&e
   .[e3]at e;&e)
  ?{_,O,_,O,_,O,kq,_,O,.inl (aA.of ekZ),d,_,O,B.dw,(),(),λi1 Z1 Y w1 x1 y1=>{kq,kn,i1,O,O,aA.of (DP.to Y ekZ D),x1,y1,λvp hvp=>?_}};#t1:=B.dw.ab Y;#B1:=B.draw X fd nd Y w1;#kn1:=knZ.ab t1;@p,gp,pn:=kn1.np hvp;?{aF rfl,λl2 Z2 g2 s2 e2=>?_};?{_,O,QE (B1.same s2).en,_,O,aF rfl,λl3 Z3 g3 s3 e3'=>?_};#G:=s2.trans s3;#B3:=B1.same G;@us,hl,hu,gu:=B1.get p;@lq,gl,el:=gu Z3 l3 (λb o _ e=>G _ _ e) e3';?{nq,kvs,.tup p,_,_,O,O,B3.en,gp.ab G.ab,l2,lq,[.aR],us,O,gl,s3 _ _ e2,el,?_,λcq Z4 g4 s4 e4=>?_}
  .¤1+us.length<=sizeLine
   !ww (cF ())
  #B4:=B3.same s4;?{_,O,_,O,QE B4.en,_,O,aF rfl,λl5 Z5 g5 s5 e5=>?_};#B5:=B4.same s5;#N:=(G.trans s4).trans s5;@lq',gl',el':=gu Z5 l5 (λb o _ e=>N _ _ e) e5;?{nq,kvs,.tup p,_,_,O,O,B5.en,gp.ab N.ab,_,us.length,O,by[gl'];!.inl {_,aA.of el',O},_,_,O,O,d,_,O,B5.dw,(),(),λi2 Z6 s6 w6 x2 y2=>{cq,_,i2,O,O,aA.of (DP.to s6 (s5 _ _ e4) (λz=>X (z▸B3.free g4))),x2,by[qi,qt];¥,λvb hvb=>?_}};#B6:=B5.draw X fd nd s6 w6;#W:=N.ab.trans (B5.dw.ab s6);#gp6:=gp.ab W
  obtain⟨bo,gb,hb⟩:∃bo,GK Z6 (kd (cj S) bo) vb/\∀i,bo=!i->i<j/\(S i).pt=p:=by
   @z|z:=q0.mp hvb
   .!⟨none,z,(λ_=>°)⟩
   .@i,a1,a2,a3:=hu vb z
    !{!i,NM.ab a3 W,λi' z=>by &z;!{a1,a2}}
  #er6:=B6.out er rd rf;?{_,O,_,O,_,O,r,_,O,.inl (aA.of er6),_,_,O,O,(by decide:(0:Int)<2),r,_,_,O,O,aA.of er6,Int.emod_nonneg _ ⋯,Int.emod_lt_of_pos _ ⋯,λvw hvw=>?_}
  obtain⟨w,rfl,hw⟩:∃w,vw=.str w/\PyData.strOk w=¶:=by
   #:=hvw
   ac_nf at this
   @h|h:=this <;> !{_,h,∅}
  ?{_,O,_,_,O,O,aF rfl,λq7 Z7 g7 s7 e7=>?_};#B7:=B6.same s7;?{_,O,d,5,O,B7.dw,⋯,⋯,λi3 Z8 s8 w8 x3 y3=>{_,_,O,O,?_}};#B8:=B7.draw X fd nd s8 w8;generalize decide ((0:Int)<i3)=lv;?{_,O,_,_,O,O,{⋯,⋯},_,_,O,O,_,O,_,_,O,O,(by decide:(0:Int)<2),aF rfl,λq9 Z9 g9 s9 e9=>?_};#B9:=B8.same s9;[Int.zero_add]at e7 e9;#s69:=(B7.dw.ab s8).trans s9.ab;#t69:=s7.ab.trans s69;#ek9:=B9.out ek D kf;#kn9:∀v∈kn,uQ Z9 v:=λv hv=>(kn1.ab (W.trans t69)).np hv;?{_,O,fa,.ref (F 3),O,.inl {cE F 9,.inr "signs",.inl (B9.out dk nfa nff),O,(cR F 3 ⋯).symm},.inl {O,_,aA.of B9.ex},_,O,_,O,_,O,_,O,_,O,_,O,d,kq,kn,O,B9.dw,ek9,D,k0,(),kn9,λZ10 vg dd s10 w10 dt so os=>?_};#B10:=B9.draw X fd nd s10 w10;#V:=B9.dw.ab s10;?{_,O,aF rfl,λR x g11 q e11=>{F 3,xs,_,O,O,(B10.same q).ex,cF (),?_}};#L:=B10.same q;#t:=(t69.trans V).trans q.ab;#I:=(s69.trans V).trans q.ab;#t911:=V.trans q.ab;#U:=L.sign (r:={p,[.inr w,.inl (40+(j:Int)),.inl 0],bo,50+(j:Int) / 2,(j:Int) % 2,0,dd,lv}) hf fd nf () e11 (gp6.ab t) {q7,O,I _ _ e7} (gb.ab t) (t911 _ _ e9) (dt.ab q.ab) rfl hw pn {O,O,O} hb so os;#C:ai x (upd x (F 3) (.lst (xs++[.ref R]))):=ai.wl L.ex;#g:=gp6.ab (t.trans C);#e12:=(I.trans C) _ _ e7;#k12:∀b o,H b=£->x b=!o->upd x (F 3) (.lst (xs++[.ref R])) b=!o:=λb o hn e=>(ax λ(z:b=F 3)=>hf (z▸hn)).trans e;generalize upd x (F 3) (.lst (xs++[.ref R]))=Z12 at U g e12 k12 C;?{_,O,QE U.en,_,O,aF rfl,λl13 Z13 g13 f e13=>?_};#B13:=U.same f;@us2,hl2,cO,gu2:=L.get p;?{nq,kvs,.tup p,_,_,O,O,B13.en,g.ab f.ab,_,O,aF rfl,λl14 Z14 g14 s14 e14=>?_};#s1214:=f.trans s14;#B14:=B13.same s14;@lq2,gl2,el2:=gu2 Z13 l13 (λb o hn e=>f _ _ (k12 b o hn e)) e13;?{lq2,l14,us2,[.ref q7],gl2,O,s14 _ _ el2,e14,?_,λl15 Z15 g15 J e15=>?_}
  .¤us2.length+1<=sizeLine
   !ww (cF ())
  #B15:=B14.same J;#a:=s1214.trans J;?{_,O,_,O,nq,kvs,.tup p,O,B15.en,g.ab a.ab,cF (),?_};?{_,_,_,_,_,_,_,_,_,O,B15.put gn nd nf pn (g.ab a.ab) e15 (B14.free g15) (by[qi,qt];¥) (by[qi,qt];¥) (λv hv=>?_),by[qi,qt,hx],qg (iK _ _ _ _) ()};@z|z:=zh.mp hv
  .@i,a1,a2,a3:=cO v z
   !{i,(),by[eK a1];!a2,NM.ab (NM.Et (FH.ext S j _) a1 a3) (C.trans a.ab)}
  .[qx.mp z]
   ?{j,yo _,by[f7],?_};unfold NM cj;[f7];!{q7,O,a _ _ e12}
 .rintro σ Z ⟨S,xs,kvs,u5,u6,u7,u8,u9,M,rfl,B,hx,hk⟩
  !{_,O,kk Z S _ xs nq kvs B.ro B.ex B.an B.ws () B.ok gn B.en () B.nd B.fr}
§BN(T:Txt K mg tk)(F:FO K mg "_law_stretches" oA)(f:×fO)(X:×zE):×xM:=by
 ?aN F jN (zF λ_ _ _ _=>rfl) {} λfa cdv A outer s H vs Q E C h=>?_;#hu1:(A.deeper (envOfC "_law_stretches" (ag oA) ↑s fa cdv)).units+1<cLine:=cT C
 ?{_,(aE (fo (lG (by rfl) T.dn (a1 (cl f C (a2 (vv 0) aB)))) (gn jN.nd 4)
   (aj (sn jN.nd 5 (cb (Qd (xh C) C.hd) T.cU boot_sorted (a1 (vv 3))))
   (aE (bA (ck (lx C) (vv 5) (bJ cS)) (aj (sn jN.nd 6 (xa (vv 5) (cl f C (a2 (vv 0) (cb cZ T.bQ boot_len (a1 (vv 5)))))))
   (aj (sn jN.nd 7 (cl X C (a2 (vv 0) (dE (cO C) (vv 3) (vv 6) (λ_ _=>rfl)))))
   (aj (sn jN.nd 8 (cl X C (a2 (vv 0) (dE (cO C) (vv 3) (vv 6) (λ_ _=>rfl)))))
   (aj (sn jN.nd 9 (a9 (a2 (xl (vv 2)) (aH cY aB (vv 4)))))
   (aE (bA (ck eB (cl f C (a2 (vv 0) aB)) aB) (aj (sn jN.nd 10 (xa (bJ (ac aQ (a2 aQ dB))) (cl f C (a2 (vv 0) aB))))
   (aj (sn jN.nd 11 (xa (bJ (ac aQ (a2 aQ aQ))) (cl f C (a2 (vv 0) aB))))
   (aE (ap (cV hu1 (vv 1) aQ (λ_ _=>rfl)) (a1 (a9 (ac (vv 6) (ac (vv 7) (ac (vv 8) (ac (vv 11) (ac (vv 10) (a2 (vv 9) (a9 (a2 (aH cY aB (aH jF (vv 4) aB)) (aH eJ (vv 4) aB))))))))))))))) (aE (ap (cV hu1 (vv 1) aQ (λ_ _=>rfl)) (a1 (a9 (ac (vv 6) (ac (vv 7) (ac (vv 8) (ac (aH Pq aQ (aH cY aB (aH eJ (vv 4) aB))) (a2 (vv 9) (a9 (a2 (aH cY aB (aH jF (vv 4) aB)) (aH eJ (vv 4) aB)))))))))))))))))) cc))))),?_}
 @d,fa,r,nq,F,S,n,xs,kvs,rfl,dw,dk,e3,an3,W,n24,e4,e5,er,en,kl,nmd,rd,fr,hi,lqn,kk:=h;#L:F 4≠d:=(fr 4 ⋯).1;#U:F 5≠d:=(fr 5 ⋯).1
 #n45:F 4≠F 5:=λz=>absurd (hi 4 ⋯ 5 ⋯ z) ⋯
 #nqd:nq≠d:=λz=>by @_,_,e:=dw;[←z,en]at e;&e
 #nq4:nq≠F 4:=λz=>by[←z,en]at e4;&e4
 #nq5:nq≠F 5:=λz=>by[←z,en]at e5;&e5
 #nfd:fa≠d:=λz=>by @_,_,e:=dw;[←z,dk]at e;&e
 #nf4:fa≠F 4:=λz=>by[←z,dk]at e4;&e4
 #nf5:fa≠F 5:=λz=>by[←z,dk]at e5;&e5
 #r4:r≠F 4:=(fr 4 ⋯).2;#r5:r≠F 5:=(fr 5 ⋯).2;?{_,O,d,9,O,dw,⋯,⋯,λc H2 s2 w2 a2 b2=>?_};#B2:TB H H2 d F S n 0 (λ_=>⟨[],none,none,"",none,[],0,0⟩) 0 (λ_=>⟨[],none,none,"",none,[],0,0⟩) 0 [] []:={Rest.refl.del (.inl rfl) s2,w2,DP.to s2 e4 L,.nil,{qv _,(λi j _ z=>nomatch z),(λ_=>°),(λ_=>°)},qe _,(λ_=>°),DP.to s2 e5 U,.nil,{qv _,(λi j _ z=>nomatch z),(λ_=>°),(λ_=>°)},qe _,(λ_=>°)};?{c,O,(),(),lD (lo:=0) (n:=c.toNat) (λj σ Z=>∃M m N q ms ns u4 u5 u6 u7 u8 u9 Y u11,σ=[!(.ref d),!(.ref fa),!(.ref r),!(.ref nq),u4,u5,u6,u7,u8,u9,Y,u11]/\TB H Z d F S n j M m N q ms ns/\ms.length=m/\ns.length=q) ⟨_,_,_,_,_,_,_,_,_,_,_,_,_,_,O,B2,O,O⟩ ?_ ?_}
 .rintro j σ Z hj ⟨M,m,N,q,ms,ns,u4,u5,u6,u7,u8,u9,Y,u11,rfl,B,hm,hn⟩
  #t0:ai H Z:=mL B.ro λb z ys e=>by
   @z|z|z:=z <;> £z
   .@_,_,e':=dw
    [e']at e;&e
   .[e4]at e;&e
   .[e5]at e;&e
  #enZ:=B.out en nqd nq4 nq5;#ks:=nmd.1.ab t0;?{_,O,nq,kvs,_,3,O,Rd.of enZ,ks.mB,ks.keys,(),λpq Z1 ix g1 s1 six e1=>?_}
  #hul:(ix.map λi=>(kvs.map (·.2.1)).getD i V.aR).length<=24:=by
   [qj,Mb six,qj];!kl
  #ru:∀u∈ix.map (λi=>(kvs.map (·.2.1)).getD i V.aR),∃p,GK Z1 (.tup p) u/\Pn p/\∃lq us,vG kvs (.tup p)=!(.ref lq)/\H lq=!(.lst us)/\0<us.length/\us.length<=n/\∀v∈us,∃i,i<n/\(S i).pt=p/\NM (cj S) H v i:=λu hu=>by
   @e,he,rfl:=qf.mp (M_ six (by[qj,qj]) u hu);@p,pn,h1,h2:=ks e he;?{p,h2.ab s1.ab,pn,?_}
   cases z:vG kvs (.tup p) with
   |none=>!absurd h1 (nP z e he)
   |some w =>
    @p',lq,us,h1,h2,rfl,h4,h5,h6,h7:=nmd.2 _ _ z;injection h1 with h1;£h1;!{lq,us,O,h4,h5,h6,h7}
  generalize (ix.map λi=>(kvs.map (·.2.1)).getD i V.aR)=us at e1 hul ru
  obtain⟨ps,pa⟩:∃ps:#(#Key),AL (λu p=>GK Z1 (.tup p) u/\Pn p) us ps:=let⟨ps,h1,h2⟩:=vJ (P:=λu p=>GK Z1 (.tup p) u/\Pn p) λu h=>let⟨p,a,b,_⟩:=ru u h;{p,a,b};{ps,h1.symm,h2}
  #pd:cx Z1 us (ps.map tD):=AL.lS (λv p g=>aM g.1) pa;?{_,O,aF rfl,λzq Z2 g2 G f2=>?_};?{.list (ps.map tD),.list [],.lst (aA.of (G _ _ e1)) (pd.same G).dv,.lst (aA.of f2) .nil,?_,O,?_,_,O,?_}
  .!(tF λk hk=>by @_,_,_,h:=pa.gF hk;!h).1
  .!qg (jh _ _) ⋯
  #s02:=s1.trans G;#B2:=B.same s02;#hpq:pq≠d:=B.dw.ne g1
  cases us with
  |nil =>
   have:ps=[]:=yx.mp pa.1.symm;£this;!bV rfl {M,m,N,q,ms,ns,_,_,_,_,_,_,_,_,O,B2.next,hm,hn}
  |cons w0 ws0 =>
   obtain⟨p0,I,rfl⟩:∃p0 I,ps=p0::I:=by
    cases ps with
    |nil=>have:=pa.1;&this
    |cons p0 I=>!{p0,I,O}
   ?cW rfl ?_
   have hu0:(0:Int)<((w0::ws0).length:Nat):=by[zd];¥
   have e12:=G _ _ e1;?{_,O,_,O,_,O,pq,_,O,.inl (aA.of e12),d,_,O,B2.dw,hu0,(),λi3 Z3 s3 w3 x3 y3=>{pq,_,i3,O,O,aA.of (DP.to s3 e12 hpq),x3,y3,λvp hvp=>?_}};@p,gp1,pn,lq,vs,gv,elH,l0,l1,hvs:=ru vp hvp;@ld,l4,l5:=lqn _ _ gv;have B3:=B2.draw L U s3 w3;have t13:=G.ab.trans (B2.dw.ab s3);have t03:=s1.ab.trans t13;have gp3:=gp1.ab t13;?{_,O,_,O,_,O,nq,kvs,.tup p,_,O,Rd.of (B3.out en nqd nq4 nq5),gp3,gv,d,lq,vs,O,B3.dw,B3.out elH ld l4 l5,ld,l0,(),λZ4 q4 v4 b4 s4 w4 e4' m4=>?_};have B4:=B3.draw L U s4 w4;have t34:=B3.dw.ab s4;?{_,O,_,O,_,O,nq,kvs,.tup p,_,O,Rd.of (B4.out en nqd nq4 nq5),gp3.ab t34,gv,d,lq,vs,O,B4.dw,B4.out elH ld l4 l5,ld,l0,(),λZ5 q5 v5 b5 s5 w5 e5' m5=>?_};have B5:=B4.draw L U s5 w5;have t45:=B4.dw.ab s5;have t35:=t34.trans t45;have t05:=(t0.trans t03).trans t35;@i4,hi4,pt4,nm4:=hvs v4 m4;@i5,hi5,pt5,nm5':=hvs v5 m5;have sd4:oj S Z5 (!(i4,b4)) (.ref q4):={q4,v4,O,t45 _ _ e4',NM.ab nm4 t05};have sd5:oj S Z5 (!(i5,b5)) (.ref q5):={q5,v5,O,e5',NM.ab nm5' t05}
   have so4:dX S n p (!(i4,b4)):=λi b z=>by &z;!{hi4,pt4}
   have so5:dX S n p (!(i5,b5)):=λi b z=>by &z;!{hi5,pt5}
   have gp5:=gp3.ab t35;?{_,O,r,_,0,_,O,O,aA.of (B5.out er rd r4 r5),O,_,O,_,_,O,O,aF rfl,λq6 Z6 g6 s6 e6=>?_};[Int.zero_add]at e6;have B6:=B5.same s6;?{_,O,d,3,O,B6.dw,⋯,⋯,λi7 Z7 s7 w7 x7 y7=>{_,_,O,O,_,O,?_}};have R:=B6.draw L U s7 w7;have t67:=B6.dw.ab s7;have t57:=s6.ab.trans t67;have e7:=t67 _ _ e6;have nl:Lay [.inr "ann",.inl (70+(j:Int))]:=(zI (x:=70+(j:Int)) (qm)).lay;generalize decide ((0:Int)<i7)=bb
   cases bb with
   |true =>
    refine cW rfl ?_;?{aF rfl,λy8 Z8 g8 s8 f8=>{_,O,d,3,O,(R.same s8).dw,⋯,⋯,λi9 Z9 s9 w9 x9 y9=>{y8,_,i9,O,O,aA.of (DP.to s9 f8 (R.dw.ne g8)),x9,y9,λvv hvv=>?_}}}
    obtain⟨vl,rfl,hvl⟩:∃vl,vv=Mh vl/\∀z,vl=!z->PyData.strOk z=¶:=by
     ac_nf at hvv
     @h|h|h:=hvv <;> £h
     .!{!"thin",O,λz e=>by &e;decide +kernel}
     .!{!"thick",O,λz e=>by &e;decide +kernel}
     .!{none,O,(λ_=>°)}
    have B9:=(R.same s8).draw L U s9 w9;have t79:=s8.ab.trans ((R.same s8).dw.ab s9);?{aF rfl,λyA ZA gA sA fA=>{_,O,d,3,O,(B9.same sA).dw,⋯,⋯,λiB ZB sB wB xB yB=>{yA,_,iB,O,O,aA.of (DP.to sB fA (B9.dw.ne gA)),xB,yB,λvk hvk=>?_}}}
    obtain⟨kd,rfl,hkd⟩:∃kd,vk=.str kd/\PyData.strOk kd=¶:=by
     ac_nf at hvk
     @h|h|h:=hvk <;> subst h <;> !{_,O,∅}
    have BB:=(B9.same sA).draw L U sB wB;have t9B:=sA.ab.trans ((B9.same sA).dw.ab sB);?{_,O,fa,.ref (F 4),O,.inl {cE F 9,.inr "marks",.inl (BB.out dk nfd nf4 nf5),O,(cR F 4 ⋯).symm},.inl {O,_,aA.of BB.e4},_,O,_,O,_,O,_,O,_,O,_,O,_,O,_,_,O,O,{⋯,⋯},_,_,O,O,_,O,_,_,O,O,(by decide:(0:Int)<2),aF rfl,λqC ZC gC sC eC=>{aF rfl,λqD ZD gD J eD=>{F 4,ms,_,O,O,((BB.same sC).same J).e4,cF (by have:=B.lm;¥),?_}}};[Int.zero_add]at eC;have BD:=(BB.same sC).same J;have tBD:=sC.ab.trans J.ab;have D:=(t79.trans t9B).trans tBD;have t:=t57.trans D;?{_,_,N,q,_,ns,_,_,_,_,_,_,_,_,O,BD.mark (r:={p,!(i4,b4),!(i5,b5),kd,vl,[.inr "ann",.inl (70+(j:Int))],80+(j:Int) / 2,(j:Int) % 2}) L n45 () {qD,_,_,_,_,qC,O,eD,gp5.ab t,sd4.ab t,sd5.ab t,{q6,O,D _ _ e7},J _ _ eC} rfl rfl {so4,so5} {pn.lay,nl,hkd,hvl},by[qi,qt,hm],hn}
   |false =>
    refine bV rfl ?_;?{_,O,fa,.ref (F 5),O,.inl {cE F 9,.inr "notes",.inl (R.out dk nfd nf4 nf5),O,(cR F 5 ⋯).symm},.inl {O,_,aA.of R.e5},_,O,_,O,_,O,_,O,_,_,O,O,(by decide:(0:Int)<4),_,_,O,O,_,O,O,(),(),λhm' aS=>?_};?{_,O,_,O,_,_,O,O,{⋯,⋯},_,_,O,O,_,O,_,_,O,O,(by decide:(0:Int)<2),aF rfl,λqC ZC gC sC eC=>{aF rfl,λqD ZD gD J eD=>{F 5,ns,_,O,O,((R.same sC).same J).e5,cF (by have:=B.ln;¥),?_}}};[Int.zero_add]at eC;have BD:=(R.same sC).same J;have D:=sC.ab.trans J.ab;have t:=t57.trans D;?{M,m,_,_,ms,_,_,_,_,_,_,_,_,_,O,BD.note (r:={p,!(i4,b4),!(i5,b5),hm',none,[.inr "ann",.inl (70+(j:Int))],80+(j:Int) / 2,(j:Int) % 2}) U n45 () {qD,_,_,_,_,qC,O,eD,gp5.ab t,sd4.ab t,sd5.ab t,{q6,O,D _ _ e7},J _ _ eC} rfl rfl {so4,so5} {pn.lay,nl,aS,(λ_=>°)},hm,by[qi,qt,hn]}
 .rintro σ Z ⟨M,m,N,q,ms,ns,u4,u5,u6,u7,u8,u9,Y,u11,rfl,B,hm,hn⟩
  have:=B.lm;!kk Z M m N q ms ns (λb o e z=>B.ro b o e λy=>z (y.elim .inl λy=>.inr (y.elim .inl λy=>.inr (.inl y)))) B.e4 B.am B.wm () B.e5 B.an B.wn
§Bx(T:Txt K mg tk)(F:FO K mg "is_let" sU)(a:×yH):×yC:=by
 ?aN F AJ (zF λ_ _ _ _=>rfl) (λ_ _ _ _ h=>QW h) λfa c A outer s H vs Q E b h=>?_
 ?{_,(aj (sn AJ.nd 4 (cl a b (ac (vv 0) (a2 (vv 2) (vv 3)))))
   (aj (fo (il (vv 1)) (gn AJ.nd 5)
   (aE (bA (ck (pP (cO b)) (vv 5) (vv 4)) (aE (aO (dE (cO b) (vv 4) (vv 5) (λ_ _=>rfl)))) cc)))
   (aE (aO bW)))),?_}
 !h.2.elim
§B_(T:Txt K mg tk)(F:FO K mg "ordered" ue)(X:×yQ):×tT:=by
 ?aN F si (lR λ_=>rfl) {} λfa cdv A outer s H vs Q E hr h=>?_
 ?{_,(aj (sn si.nd 1 (cl X hr (a1 (vv 0))))
   (aj (sn si.nd 2 (bJ cS))
   (aj (sn si.nd 3 (cy E7 T.eF boot_list (a1 (bm PySem.F.plainAttrs_dict PySem.F.slot_dict_get PySem.F.type_dict_get (iC (cO hr)) (vv 1) (a2 dB (bJ cS))))))
   (aj (p9 PassesOwn.never (ck eB (cb cZ T.bQ boot_len (a1 (vv 3))) aB) (aj (sn si.nd 4 (BO PySem.F.plainAttrs_list PySem.F.slot_list_pop PySem.F.type_list_pop HM (vv 3)))
   (aj (ap (vv 2) (a1 (vv 4)))
   (aE (mX (bm PySem.F.plainAttrs_list PySem.F.slot_list_extend PySem.F.type_list_extend Kq (vv 3) (a1 (bm PySem.F.plainAttrs_dict PySem.F.slot_dict_get PySem.F.type_dict_get (iC (cO hr)) (vv 1) (a2 (vv 4) (bJ cS))))))))))
   (aE (aO (vv 2))))))),?_}
 @p,ys,nk,bh,D,ms,js,t,rfl,hp,an,N,W,kk:=h;#cI:=W.cI;?{_,O,p,ys,nk,bh,D,ms,js,t,O,hp,an,N,W,λH1 dq kvs s1 fd=>?_};?{aF rfl,λd H2 g2 s2 e2=>?_};#U:=fd.same s2;?{_,O,.inr (.inr (.inl {O,.inr (.inr {kvs,U.has})})),aF rfl,λz0 H3 g3 Y e3=>?_};#I:=U.same Y;@a,vs,ea,eva,ava:=I.get e3 none (λi z=>by &z);?{dq,kvs,.aR,.aR,.ref z0,O,O,I.has,O,?_};[show(vG kvs KD.aR).getD (V.ref z0)=.ref a from ea];?{a,vs,O,.inl (aA.of eva),λb H4 g4 s4 e4=>?_};#w:Rga.WF (Rga.cM bh ms):=W.wf;#rl:=Rga.gJ w
 #q:d≠b:=λz=>by[←z,Y _ _ e2]at g4;&g4
 #C:H1 d=£:=g2;#G:H1 b=£:=(s2.trans Y).free g4;#s14:=(s2.trans Y).trans s4;#d0:=Rga.j_ w;[show Rga.rk (Rga.cM bh ms) none=(kids bh ms none).reverse from Gj bh ms none]at d0
 ?{λmm σ c=>∃(out done st:#Nat) (e tv:#V) (u4:Option V),σ=[!(.ref p),!(.ref dq),!(.ref d),!(.ref b),u4]/\af H1 c/\c d=!(.lst e)/\AN (NM nk c) e done/\c b=!(.lst tv)/\AN (NM nk c) tv st/\Rga.mS (Rga.rk (Rga.cM bh ms)) st.reverse out/\done++out=Rga.iM (Rga.cM bh ms)/\mm=out.length,
  {_,_,[],kids bh ms none,[],vs,none,O,s14,s4 _ _ (Y _ _ e2),.nil,e4,ava.imp λv i g=>g.ab s4.ab,d0,O,O},?_}
 rintro mm σ c ⟨out,done,st,e,tv,u4,rfl,s5,er,ar,Z,at',j,J,rfl⟩
 #r:done.length+out.length=ms.length:=by[←rl,←J,qi]
 #hst:=Rga.j1 j;[vd]at hst;?{_,O,b,_,O,.inl (aA.of Z),_,_,O,O,_,O,?_};@z|⟨st',x,z⟩:=jb st
 .£z
  #h0:tv=[]:=yx.mp at'.1;£h0;?bV rfl ?_;#:=j.nil_inv;£this;[wx]at J;£J;!{_,O,kk c d e (s1.trans s5) (s1.free C) er ar}
 [jc]at z;£z;@us,m,rfl,au,hx:=at'.last;[jy,me,List.reverse_nil,wz,List.singleton_append]at j;@k,rfl,f:=j.cons_inv;#hxm:x∈ms:=Rga.nO w (by[←J];!zy _ qm);[show Rga.rk (Rga.cM bh ms) (!x)=(kids bh ms (!x)).reverse from Gj bh ms (!x)]at f;#hl2:=Rga.j1 f;[qi,vd,vd]at hl2;[zd]at r;?cW (qI (by ¤(0:Int)<((us++[m]).length:Nat);[qi,qt];¥)) ?_;?{λσ' H'=>∃(e tv:#V) (u4:Option V),σ'=[!(.ref p),!(.ref dq),!(.ref d),!(.ref b),u4]/\af H1 H'/\H' d=!(.lst e)/\AN (NM nk H') e (done++[x])/\H' b=!(.lst tv)/\AN (NM nk H') tv (st'++kids bh ms (!x)),λσ' H' ⟨rv',tv',u4',b1,b2,b3,b4,b5,b6⟩=>{k.length,by[zd];¥,k,done++[x],_,rv',tv',u4',b1,b2,b3,b4,b5,b6,?_,?_,O},?_}
 .[jy]
  !f
 .[yk]
  !J
 ?{_,O,.inl {O,_,aA.of Z},b,_,m,O,O,Z,(by simp),?_};[tf];#t6:ai c (upd c b (.lst us)):=ai.wl Z
 #o:(upd c b (.lst us)) d=!(.lst e):=by[ax q];!er
 ?{_,O,.inl {O,_,aA.of o},_,O,d,_,_,O,O,o,(by[ar.1];!kA ()),?_};#t7:ai (upd c b (.lst us)) (upd (upd c b (.lst us)) d (.lst (e++[m]))):=ai.wl o
 #R:(upd (upd c b (.lst us)) d (.lst (e++[m]))) b=!(.lst us):=by[ax q.symm,aD]
 #s7:af H1 (upd (upd c b (.lst us)) d (.lst (e++[m]))):=(s5.wr G).wr C;#y:=fd.same s7;?{_,O,.inl {O,_,aA.of R},_,O,.inr (.inr (.inl {O,.inr (.inr {kvs,y.has})})),_,O,aF rfl,λz1 H8 g8 S e8=>?_};#B:=y.same S;#t8:=(t6.trans t7).trans S.ab;@a8,n,ea8,ev8,M:=B.get e8 (!x) (λi z=>by &z;!hxm);?{dq,kvs,.tup (nk x),m,.ref z1,O,O,B.has,hx.ab t8,?_};[show(vG kvs (KD.tup (nk x))).getD (V.ref z1)=.ref a8 from ea8];#L:=S _ _ R;?{b,a8,us,n,O,O,L,ev8,cK (by[au.1,M.1];¥),?_};#t9:ai H8 (upd H8 b (.lst (us++n))):=ai.wl L;?{e++[m],us++n,_,O,(s7.trans S).wr G,?_,?_,aD,?_}
 .[ax q]
  !S _ _ aD
 .!((ar.snoc hx).imp λv i g=>g.ab (t8.trans t9))
 .!(au.imp λv i g=>g.ab (t8.trans t9)).app (M.imp λv i g=>g.ab t9)
§Dm(T:Txt K mg tk)(F:FO K mg "turned_in" sN)(gfAg:×zW)(gfBz:×rM):×yK:=by
 ?aN F mO (lR λ_=>rfl) {} λfa cdv A outer s H vs Q E I h=>?_
 ?{_,(aj (sn mO.nd 1 (cy (fR I.hd (p5 I)) T.c6 boot_dict (a1 (iu (own:=["part","place"]) (fr:=[]) rfl (uq (vv 0)) {O,∅,∅} (iX ∅) (λ_ _ _=>(jP (n:=2) rfl (de (cN (i:=0) (by ¤List.Nodup (["part","place"]:#R9);decide +kernel) rfl (Or.inl rfl)) (de (cN (i:=1) (by ¤List.Nodup (["part","place"]:#R9);decide +kernel) rfl (Or.inl rfl)) g_)))) (λ_=>pL rfl rfl ⋯) (λ_ _ _=>dI) (λ_ _ _=>(a9 (a2 (vv 0) (xt (vv 1)))))))))
   (aj (sn mO.nd 2 jV)
   (aj (sn mO.nd 3 jV)
   (aj (fo (JA (vv 0)) (gn mO.nd 4)
   (aj (sn mO.nd 5 (cl gfBz I (ac (vv 1) (a2 (vv 4) (vv 3)))))
   (oS (bA (ck eB (bm PySem.F.plainAttrs_list PySem.F.slot_list_count PySem.F.type_list_count (RV I) (vv 5) (a1 (xi (vv 5) (et iq aB)))) aB) (aE (jY (cO I) (vv 2) (cl gfAg I (a2 (vv 0) (oR Ct (vv 5) (f' (bm PySem.F.plainAttrs_list PySem.F.slot_list_index PySem.F.type_list_index (L5 I) (vv 5) (a1 (xi (vv 5) (et iq aB))))) (f' (et iq aB))))) bW rfl)) cc)
   (aE (fo (il (vv 5)) (gn mO.nd 6)
   (aE (jY (cO I) (vv 3) (vv 6) bW rfl)))))))
   (aE (aO (vv 2))))))),?_}
 @L,kt,xs,rfl,htq,akt,W,tb,kk:=h;#hfew:=W.cI
 #ntP:L≠gE:=λz=>by
  @ps,t:=tb.cf;@e|⟨o,e⟩:=htq <;> rw[z,t]at e <;> &e
 ?{_,O,L,kt,O,qQ htq λo Y hY fY eY=>?_}
 #sS0:af (bP H (sS L)) Y:=λb u e=>by
  #nb:¬sS L b:=λz=>by[dQ z]at e;&e
  [d_ nb]at e;!hY b u (λz=>nb (.inl z)) e
 #tbY:i_ Y:=tb.keep λb u e hu=>hY b u (λz=>by
  £z;@q|⟨o',q⟩:=htq
  .[q]at e;&e;@⟨ps,y⟩|⟨φ,y⟩:=hu <;> &y
  .[q]at e;&e;@⟨ps,y⟩|⟨φ,y⟩:=hu <;> &y) e
 #tY:ai H Y:=λb us e=>hY b _ (λz=>by
  £z
  @q|⟨o',q⟩:=htq <;> rw[q]at e <;> &e) e
 #aY:=akt.imp λe x q=>q.imp (R':=fx Y) tY λr=>r.ab tY;?xm (lB (by[aY.1];¥)) (λj ys X=>af Y X/\∃es:#(KD×V×V),cw X ys es/\AL (EK (pJ X) X) es (xs.take j)) {af.refl _,[],trivial,.nil} (λ_ _ X s'=>s'.1 _ _ eY) (λj e ys X p K1 K0 hx s' hp k1 k0=>?_) λX np ys s' hy hq=>?_
 .@sX,es',pr,ae:=s'
  @r,I,p1,p2,p3:=aY.at hx;#sp:af X (upd X p (.tup [e.2.1,e.2.2])):=af.new hp;#ep:(upd X p (.tup [e.2.1,e.2.2])) p=!(.tup [e.2.1,e.2.2]):=aD;generalize upd X p (.tup [e.2.1,e.2.2])=X1 at sp ep;#sX1:=sX.trans sp;@b,vp,vo,vn,kq,hbv,h1,h2,h3,h4,h5:=p3.ab sX1.ab;?{p,_,O,aZ.of ep,O,_,_,O,_,_,O,O,?_};?dH (B:=K0 X1) ?_;?{_,O,_,O,b,_,1,vo,hbv,O,aZ.of h1,O,aF rfl,λt3 X3 g3 s3 e3=>?_};#sX3:=sp.trans s3;?k1 _ _ {sX.trans sX3,es'++[(.tup r.pt,e.2.1,vo)],?_,?_}
  .!cw.snoc (e:=(.tup r.pt,e.2.1,vo)) {t3,O,e3,(p2.ab sX1.ab).ab s3.ab} (pr.ab sX3.ab)
  .[qz,I]
   !(ae.imp λe x p=>p.imp sX3.ab λq=>q.ab sX3.ab).snoc {O,(p2.ab sX1.ab).ab s3.ab,GK.ab h3 s3.ab}
 @sX,es',pr,ae:=s';[aY.1,ze]at ae;#nH:af X (upd X np (.lst ys)):=af.new hq;?{np,ys,es',O,aA.of aD,pr.ab nH.ab,?_,λoa X2 g2 s2 e2=>?_}
 .#:ys.length<=kt.length:=hy
  #:=aY.1;¥
 [pV _ [] (by[wz];!wF ae W.nd),wz]at e2;#sY2:=(sX.trans nH).trans s2;#ao:AL (EK (pJ X2) X2) es' xs:=ae.imp λe x p=>p.imp (nH.trans s2).ab λq=>q.ab (nH.trans s2).ab;#foa:Y oa=£:=(sX.trans nH).free g2;clear ae pr hq hy nH;¢G X3 g3 s3 e3;¢D M g4 s4 e4;#s24:=s3.trans s4;#C:=sY2.trans s24;#ftu:Y G=£:=sY2.free g3;#fen:Y D=£:=(sY2.trans s3).free g4;#nte:G≠D:=a0 e3 g4
 #ntP':G≠gE:=λz=>by
  @ps,t:=tbY.cf;[←z,ftu]at t;&t
 #neP':D≠gE:=λz=>by
  @ps,t:=tbY.cf;[←z,fen]at t;&t
 let S2:R0->¤:=λb=>b=G\/b=D\/b=gE
 #fix:∀{Z:Hp} {b:R0} {u:HO},af (bP M S2) Z->M b=!u->(∀ps,u≠.cf ps)->b≠G->b≠D->Z b=!u:=λ{Z b u} s e hu h1 h2=>c_ s e λz=>by
  @z|z|z:=z
  .!h1 z
  .!h2 z
  .@ps,t:=(tbY.same C).cf
   [z,t]at e;!hu ps (qJ e).symm
 #tb4:=tbY.same C
 #fixT:∀{Z:Hp},af (bP M S2) Z->ai M Z:=λ{Z} s b us e=>fix s e (λ_=>°) (λz=>by[z,s4 _ _ e3]at e;&e) (λz=>by[z,e4]at e;&e)
 #c:M L=!(.cJ o (.dG kt)):=C _ _ eY;#noe:oa≠D:=a0 (s3 _ _ e2) g4;#noo:oa≠G:=a0 e2 g3
 #ntqt:L≠G:=λz=>by[z,s4 _ _ e3]at c;&c
 #ntqe:L≠D:=λz=>by[z,e4]at c;&c
 #back:∀{Z:Hp},af (bP M S2) Z->af (bP H (sS L)) Z:=λ{Z} s b u e=>by
  #nb:¬sS L b:=λz=>by[dQ z]at e;&e
  [d_ nb]at e;#e':=C _ _ (hY b u (λz=>nb (.inl z)) e);?c_ s e' λz=>?_;@z|z|z:=z
  .!absurd (fY _ ftu) (by[←z,e];!°)
  .!absurd (fY _ fen) (by[←z,e];!°)
  .!nb (.inr z)
 ?⟨_,O,L,kt,O,.inr ⟨o,c,?_⟩⟩
 ?GI (λj σ Z=>∃(E' T':#Key->¤) (ku ke:#(KD×V×V)) (u4 u5 u6:Option V),σ=[!(.ref L),!(.ref oa),!(.ref G),!(.ref D),u4,u5,u6]/\af (bP M S2) Z/\Z G=!(.dG ku)/\SM ku T'/\Z D=!(.dG ke)/\fy ke E'/\i_ Z/\ku.length<=j/\ke.length<=200 * j/\pC xs j E' T')
  ⟨λ_=>False,λ_=>False,[],[],none,none,none,O,rX,s4 _ _ e3,SM.nil,e4,fy.nil,tb4,qe _,qv _,.z⟩ (λj σ Z ⟨_,_,_,_,_,_,_,_,s,_⟩=>fix s c (λ_=>°) ntqt ntqe) ?_ ?_
 .rintro j e σ Z hx ⟨E',T',ku,ke,u4,u5,u6,rfl,sZ,U,smT,eeZ,smE,tbZ,hkul,hkel,htu⟩
  #a4:=aY.imp λe x q=>q.imp (R':=fx M) C.ab λr=>r.ab C.ab;@r,I,p1,p2,p3:=a4.at hx;#hjl:j<xs.length:=(qk.mp I).1;#hrm:=qw I;#tZ:=fixT sZ;#ao4:=ao.imp λe x q=>q.imp (R':=pJ M) s24.ab λr=>r.ab s24.ab;#aoZ:=ao4.imp λe x q=>q.imp (R':=pJ Z) tZ λr=>r.ab tZ;#eoZ:=fix sZ (s24 _ _ e2) (λ_=>°) noo noe;?{_,O,_,O,_,O,oa,e.2.1,D,es',xs,ke,E',r.pt,Pn,O,.inl eoZ,aoZ.pf λe x _ hx q=>{q.1,q.2.1,gZ (W.w x hx).ou.ne q.2.2},W.nd,λx hx=>(W.w x hx).pt.ne,hfew,.inl eeZ,smE,gZ (W.w r hrm).pt.ne (p2.ab tZ),.inr (W.w r hrm).pt,λk o h=>W.pn h,λZ1 N ws ini las s1 gwa f R wo hil J=>?_};#R:AL (ij Z1) ws (ini++[las]):=R.pf λv k _ hk q=>J5 (J k hk).ne q;@us,v,rfl,aus,hv:=xo R;#hul:us.length=ini.length:=aus.1;#lay:PyData.canLayAll0 ((ini++[las]).map tD)=¶:=(tF J).1;#llas:Pn las:=J las (zy _ (qx.mpr rfl));#tb1:=tbZ.same s1;#nwt:N≠G:=(a0 U gwa).symm;#nwe:N≠D:=(a0 eeZ gwa).symm
  #nwP:N≠gE:=λz=>by
   @ps,t:=tbZ.cf;[←z,gwa]at t;&t
  ?{λσ' Z2=>∃(T2:#Key->¤) (S:#(KD×V×V)),σ'=[!(.ref L),!(.ref oa),!(.ref G),!(.ref D),!e.2.1,!(.ref N),u6]/\af (bP M S2) Z2/\Z2 G=!(.dG S)/\SM S T2/\Z2 D=!(.dG ke)/\i_ Z2/\S.length<=j+1/\Z2 N=!(.lst (us++[v]))/\ai Z1 Z2/\pC xs (j+1) (λk=>E' k\/k∈ini++[las]) T2,?_,?_}
  .#d1:=(MR R).dv
   ?{_,O,.inl {O,_,aA.of f},_,O,1,O,N,_,-1,v,O,O,aA.of f,pw us v,v,tD las,N,_,_,O,O,(aM hv).dv,aA.of f,d1,llas.lay,lay,qg (ee las) ⋯,_,_,O,O,_,O,?_};#sZ1:af (bP M S2) Z1:=sZ.trans s1
   ¿hin:las∈ini
   .?cW (qI (by #:=(Gu (las:=las) wo.nd).mpr hin;¥)) ?_
    obtain⟨r0,hr0,er0⟩:∃r0,∃h:r0<ini.length,ini[r0]=las:=z8.mp hin
    #dd:∀(m:Nat) d,m<r0->((ini++[las]).map tD)[m]?=!d->PyData.eqv d (tD las)=¿:=λm d hm hd=>by
     [qu,zv (),qh (by ¥:m<ini.length)]at hd;&hd;¤PyData.eqv (tD _) (tD las)=¿;[gV];?decide_eq_false λz=>?_;#:=jv.mp (m7.mp wo.nd) m r0 () hr0 hm;!this (z.trans er0.symm)
    #atr:((ini++[las]).map tD)[r0]?=!(tD las):=by
     [qu,zv hr0,qh hr0,er0];rfl
    ?{_,O,_,O,_,O,_,O,.inl {O,_,aA.of f},_,O,1,O,N,_,-1,v,O,O,aA.of f,pw us v,v,tD las,N,_,_,r0,O,O,(aM hv).dv,aA.of f,d1,llas.lay,lay,qg (ee las) ⋯,{tD las,atr,by[gV];!qI rfl},dd,?_};?{_,O,1,O,_,O,N,_,O,aA.of f,λla Z3 g3' s3' e3'=>?_};[Pt ()]at e3';#s13:=s1.trans s3';#tZ3:=(fixT sZ).trans s13.ab;#a3:=(aY.imp λe x q=>q.imp (R':=fx M) C.ab λr=>r.ab C.ab).imp λe x q=>q.imp (R':=fx Z3) tZ3 λr=>r.ab tZ3;#etq3:=s13 _ _ (fix sZ c (λ_=>°) ntqt ntqe);#tb3:=tb1.same s3';#adr:=(Og aus r0).imp λv k q=>ij.ab q s3'.ab
    #hdne:ini.drop r0≠[]:=λz=>by
     #:=congrArg List.length z;[yf,yt]at this;¥
    ?{L,la,kt,xs,us.drop r0,ini.drop r0,O,.inr {o,etq3},a3,W.nd,e3',adr,hdne,λk hk=>nQ.mp (wo.Fv (gr hk)),tb3,λZ4 vm m s4' tb4' hm hmax gm=>?_};#t34:=zO tb3 s4';#k34:∀{b:R0} {u:HO},Z3 b=!u->(∀ps,u≠.cf ps)->Z4 b=!u:=λe h=>My.iR tb3 s4' e h;#et4:=k34 (s13 _ _ U) λ_=>°;#ee4:=k34 (s13 _ _ eeZ) λ_=>°;#ew4:=k34 (s3' _ _ f) λ_=>°;?{G,ku,.tup m,O,et4,gm,fW (),?_};#t4:ai Z4 (upd Z4 G (.dG (pG ku (.tup m) vm (.bl true)))):=ai.wd et4
    #sZ4:af (bP M S2) Z4:=λb u e=>by
     #e':=(sZ.trans s13) _ _ e;?s4' _ _ ?_;[bR (λz=>?_)]
     .!e'
     .£z
      [dQ (.inr (.inr rfl))]at e;&e
    ?{λa=>a=m\/T' a,_,O,sZ4.wr (dQ (.inl rfl)),aD,smT.put _ _ λk=>Iff.rfl,by[ax nte.symm];!ee4,tb4'.wr et4 (λ_=>°) (λ_=>°),qg (iK _ _ _ _) (),by[ax nwt];!ew4,(s3'.ab.trans t34).trans t4,htu.yes I wo {hr0,er0} hm hmax}
   .?bV (decide_eq_false (by #:=(not_congr (Gu (las:=las) wo.nd)).mpr hin;¥)) ?_
    !{T',ku,O,sZ1,s1 _ _ U,smT,s1 _ _ eeZ,tb1,(),f,ai.refl _,htu.no I wo hin}
  rintro σ' Z2 ⟨T2,S,rfl,s2',et2,sm2,ee2,tb2,hl2,ew2,t12,htu'⟩;#aw2:=R.imp λv k q=>ij.ab q t12
  ?{_,O,N,O,{_,aA.of ew2},eH (xs:=us++[v]) (λi σ Z5=>∃(E5:#Key->¤) (g:#(KD×V×V)) (u6:Option V),σ=[!(.ref L),!(.ref oa),!(.ref G),!(.ref D),!e.2.1,!(.ref N),u6]/\af (bP M S2) Z5/\Z5 G=!(.dG S)/\Z5 D=!(.dG g)/\fy g E5/\g.length<=ke.length+i/\i_ Z5/\Z5 N=!(.lst (us++[v]))/\ai Z2 Z5/\∀k,E5 k↔(E' k\/k∈(ini++[las]).take i))
   {E',ke,u6,O,s2',et2,ee2,smE,Nat.le_refl _,tb2,ew2,ai.refl _,λk=>by simp} (λi σ Z5 _ ⟨_,_,_,_,_,_,_,_,_,_,e,_⟩=>aA.of e) ?_ ?_}
  .rintro i x σ Z5 hx' ⟨E5,g,u6',rfl,s5,et5,ee5,sm5,hl5,tb5,ew5,t5,hE5⟩
   @k,hk,gx:=aw2.at hx';#hi:i<(ini++[las]).length:=(qk.mp hk).1;[qi,qt]at hi;?{_,O,_,O,D,g,.tup k,O,ee5,GK.ab gx t5,fW (),?_};#t6:ai Z5 (upd Z5 D (.dG (pG g (.tup k) x (.bl true)))):=ai.wd ee5;?{λa=>a=k\/E5 a,_,_,O,s5.wr (dQ (.inr (.inl rfl))),by[ax nte];!et5,aD,sm5.Oq (J k (qw hk)).ne _ _ λa=>Iff.rfl,qg (iK _ _ _ _) (),tb5.wr ee5 (λ_=>°) (λ_=>°),by[ax nwe];!ew5,t5.trans t6,λa=>?_};¤(a=k\/E5 a)↔_;[hE5,qz,hk]
   simp only[Option.toList_some,List.mem_append,List.mem_singleton]
   constructor
   .rintro(h|h|h)
    .!.inr (.inr h)
    .!.inl h
    .!.inr (.inl h)
   .rintro(h|h|h)
    .!.inr (.inl h)
    .!.inr (.inr h)
    .!.inl h
  .rintro σ Z5 ⟨E5,g,u6',rfl,s5,et5,ee5,sm5,hl5,tb5,ew5,t5,hE5⟩
   #hwl:(us++[v]).length=(ini++[las]).length:=R.1;[hwl,ze]at hE5
   #hwl2:(us++[v]).length=ini.length+1:=by[qi,qt,hul]
   !{E5,T2,S,g,_,_,_,O,s5,et5,sm2,ee5,sm5,tb5,hl2,by[hwl2]at hl5;¥,(funext λk=>propext (hE5 k):E5=λk=>E' k\/k∈ini++[las])▸htu'}
 rintro σ Z ⟨E',T',ku,ke,u4,u5,u6,rfl,sZ,U,smT,eeZ,smE,tbZ,hkul,hkel,htu⟩;!{_,O,kk Z G ku E' T' (back sZ) (.inr {o,fix sZ c (λ_=>°) ntqt ntqe}) tbZ (fY _ ftu) U (akt.1▸htu) smT}
§Dk(T:Txt K mg tk)(F:FO K mg "_law_facts" nE)(t:×x6)(I:×xO)(gfAz:×yV)(gfBe:×yX)(gfBc:×Ab)(gfAf:×xM)(gfAu:×zT):×zK:=by
 ?aN F oU (iP λ_ _=>rfl) {} λfa cdv A outer s H vs Q E G h=>?_;#hu1:(A.deeper (envOfC "_law_facts" (ag nE) ↑s fa cdv)).units+1<cLine:=cT G
 ?{_,(aj (sn oU.nd 2 (ce c8 (aH eJ (cl t G (a2 (vv 0) aB)) aB) aB))
   (aj (sn oU.nd 3 Ie)
   (aj (fo (il (bJ (ac aQ (ac aQ (ac aQ (ac aQ (ac aQ (ac aQ (ac aQ (a2 aQ aQ)))))))))) (gn oU.nd 4)
   (aE (QT hu1 (vv 3) (vv 4) (bJ cS) rfl)))
   (aj (sn oU.nd 5 (cl gfBe G (ac (cl I G (a2 (cl t G (a2 (vv 0) aB)) (vv 2))) (a2 (vv 3) (vv 1)))))
   (aj (sn oU.nd 6 (cl gfBc G (ac (cl I G (a2 (cl t G (a2 (vv 0) aB)) (vv 2))) (ac (vv 3) (a2 (vv 1) (vv 5))))))
   (aj (mX (cl gfAf G (ac (cl I G (a2 (cl t G (a2 (vv 0) aB)) (vv 2))) (ac (vv 3) (a2 (vv 1) (vv 6))))))
   (aj (mX (cl gfAu G (ac (cl I G (a2 (cl t G (a2 (vv 0) aB)) (vv 2))) (ac (vv 3) (a2 (vv 1) (vv 5))))))
   (aj (mX (cl gfAz G (ac (cl I G (a2 (cl t G (a2 (vv 0) aB)) (vv 2))) (ac (vv 3) (a2 (vv 1) (vv 5))))))
   (aE (aO (vv 3))))))))))),?_}
 @sp,ns,r,rfl,hs,hn,J,kk:=h;?{_,O,sp,ns,0,O,hs,⋯,λc=>{_,_,O,O,(by ¤(0:Int)<2;decide),O,?_}};generalize decide (V.int (c % 2)=V.int 1)=dg;¢dq H1 g1 s1 e1;?{aF rfl,λlp H2 g2 s2 e2=>?_};#s02:=s1.trans s2
 ?{lp,O,{_,aA.of e2},eH (xs:=(["births","places","cuts","signs","marks","notes","lines","cells","leaves"]:#R9).map V.str) (λj σ H3=>∃(F:Nat->R0) (u1:Option V),σ=[!(.ref sp),!(.ref r),!(.bl dg),!(.ref dq),u1,none,none]/\af H H3/\H3 lp=!(.lst ((["births","places","cuts","signs","marks","notes","lines","cells","leaves"]:#R9).map V.str))/\H3 dq=!(.dK (cE F j))/\(∀i,i<j->H (F i)=£/\H3 (F i)=!(.lst []))/\∀i,i<j->∀i',i'<j->F i=F i'->i=i')
  {λ_=>dq,none,O,s02,e2,s2 _ _ e1,λi z=>absurd z (vj i),λi z=>absurd z (vj i)} (λj σ H3 _ ⟨_,_,_,_,e,_⟩=>aA.of e) ?_ ?_}
 .rintro j x σ H3 hx ⟨F,u1,rfl,s3,el,ed,X,hi⟩
  #hj:j<9:=(qk.mp hx).1
  #ex:x=kV (kN j):=by
   [qu]at hx;¤x=.str _;[zm]
   cases q:(["births","places","cuts","signs","marks","notes","lines","cells","leaves"]:#R9)[j]? with
   |none=>rw[q]at hx;&hx
   |some z=>rw[q]at hx;!(qJ hx).symm
  ?{aF rfl,λq H4 g4 Y e4=>?_};#nq:q≠dq:=(a0 ed g4).symm
  #hv:bO (cE F j) (kN j)=£:=by
   cases e:bO (cE F j) (kN j) with
   |none=>rfl
   |some v =>
    have:=OP e;unfold cE at this;[z9]at this;@i,hi1,hi2:=qf.mp this;have hi3:=qo.mp hi1;!absurd (Kd i () j hj hi2) ()
  ?{_,O,_,O,dq,_,O,.inl {cE F j,kN j,Y _ _ ed,ex,cF (by ¶cE;[qj,zo];¥),O},?_}
  have F0:∀i,i<j->(if i=j then q else F i)=F i:=λi h=>qB ()
  have ne:∀i,i<j->F i≠q:=λi h=>a0 (X i h).2 g4
  have neq:∀i,i<j->F i≠dq:=λi h z=>by
   have:=(X i h).2;[z,ed]at this;&this
  ?{λi=>if i=j then q else F i,_,O,(s3.trans Y).wr g1,?_,?_,λi h=>?_,λi h i' h' e=>?_}
  .[ax (λz=>by[z,ed]at el;&el)]
   !Y _ _ el
  .[aD,Jp _ hv]
   ¶cE;[yi,z7]
   have:(List.range j).map (λi=>(kN i,V.ref (if i=j then q else F i)))=(List.range j).map (λi=>(kN i,V.ref (F i))):=yu λi hi=>by[F0 i (qo.mp hi)]
   [this]
   simp
  .¤H (if i=j then q else F i)=£/\(upd H4 dq _) (if i=j then q else F i)=_
   ¿z:i=j
   .£z
    [qF rfl];!{s3.free g4,by[ax nq];!e4}
   .[qB z]
    have hij:i<j:=()
    !{(X i hij).1,by[ax (neq i hij)];!Y _ _ (X i hij).2}
  .have e:(if i=j then q else F i)=(if i'=j then q else F i'):=e
   ¿z:i=j
   .¿z':i'=j
    .¥
    .[qF z,qB z']at e
     !absurd e.symm (ne i' ())
   .¿z':i'=j
    .[qB z,qF z']at e
     !absurd e (ne i ())
    .[qB z,qB z']at e
     !hi i () i' () e
 rintro σ H3 ⟨F,u1,rfl,s3,el,ed,X,hi⟩;have d:∀i,i<9->∀j,j<9->i≠j->F i≠F j:=λi a j b n e=>n (hi i a j b e)
 have old:∀{b:R0} {o:HO},H b=!o->∀i,i<9->b≠F i:=λe i a z=>by[z,(X i a).1]at e;&e
 have oq:∀i,i<9->F i≠dq:=λi a z=>by have:=(X i a).2;[z,ed]at this;&this
 ?{_,O,sp,ns,1,O,hs.same s3,⋯,λc1=>{_,O,c1,dg,O,λH4 d1 Y g4 w4=>?_}}
 have f1:∀{b:R0} {o:HO},H3 b=!o->b≠d1:=λe z=>by[z,g4]at e;&e
 ?{_,O,_,O,d1,dq,r,F,O,w4,Y _ _ ed,Y _ _ (X 0 ⋯).2,Y _ _ (X 1 ⋯).2,Y _ _ (X 2 ⋯).2,(s3.trans Y) _ _ J,f1 (s3 _ _ J),λi a=>{f1 (X i a).2,old J i a},hi,λH5 kq kn bs es cs rs cu o5 gk ek kn5 k0 k1 eb ev ec fi=>?_}
 have S5:af H H5:=λb o e=>o5 b o ((s3.trans Y) _ _ e) λz=>by
  @z|z|z|z:=z
  .!f1 (s3 _ _ e) z
  .!old e 0 ⋯ z
  .!old e 1 ⋯ z
  .!old e 2 ⋯ z
 have q5:H5 dq=!(.dK (cE F 9)):=o5 _ _ (Y _ _ ed) λz=>by
  @z|z|z|z:=z
  .!f1 ed z
  .!oq 0 ⋯ z.symm
  .!oq 1 ⋯ z.symm
  .!oq 2 ⋯ z.symm
 have F5:∀i,i<9->3<=i->H5 (F i)=!(.lst []):=λi a b=>o5 _ _ (Y _ _ (X i a).2) λz=>by
  @z|z|z|z:=z
  .!f1 (X i a).2 z
  .!d i a 0 ⋯ () z
  .!d i a 1 ⋯ () z
  .!d i a 2 ⋯ () z
 have kF:∀i,i<9->kq≠F i:=λi a z=>by[z,Y _ _ (X i a).2]at gk;&gk
 ?{_,O,sp,ns,2,O,hs.same S5,⋯,λc2=>{_,O,c2,dg,O,λH6 d2 s6 g6 w6=>?_}}
 have f2:∀{b:R0} {o:HO},H5 b=!o->b≠d2:=λe z=>by[z,g6]at e;&e
 have l5:∀i,i<9->∃xs,H5 (F i)=!(.lst xs):=λi a=>by
  ¿h0:i=0
  .[h0];!{_,eb}
  .¿h1:i=1
   .[h1];!{_,ev}
   .¿h2:i=2
    .[h2];!{_,ec}
    .!{_,F5 i a ()}
 have fd2:∀i,i<9->F i≠d2:=λi a=>let⟨_,e⟩:=l5 i a;f2 e
 ?{_,O,_,O,_,O,d2,dq,r,kq,F,kn,O,w6,s6 _ _ q5,s6 _ _ (F5 3 ⋯ ⋯),(S5.trans s6) _ _ J,s6 _ _ ek,kn5.ab s6.ab,k0,k1,f2 (S5 _ _ J),f2 ek,fd2 3 ⋯,old J 3 ⋯,kF 3 ⋯,λH7 S n xs nq kvs o7 e3 an W n24 sok gn en kl nmd fr=>?_}
 have t7:ai H5 H7:=s6.ab.trans (mL o7 λb z xs e=>by
  @rfl|rfl:=z
  .@_,_,q:=w6;[q]at e;&e
  .[s6 _ _ (F5 3 ⋯ ⋯)]at e;&e)
 have k7:∀{b:R0} {o:HO},H5 b=!o->b≠F 3->H7 b=!o:=λe n=>o7 _ _ (s6 _ _ e) λz=>z.elim (f2 e) n
 have S7:af H H7:=λb o e=>k7 (S5 _ _ e) (old e 3 ⋯)
 have q7:H7 dq=!(.dK (cE F 9)):=k7 q5 (oq 3 ⋯).symm
 have F7:∀i,i<9->4<=i->H7 (F i)=!(.lst []):=λi a b=>k7 (F5 i a ()) (d i a 3 ⋯ ())
 have l7:∀i,i<9->∃xs,H7 (F i)=!(.lst xs):=λi a=>by
  ¿h:i=3
  .[h];!{_,e3}
  .@ys,e:=l5 i a
   !{ys,k7 e (d i a 3 ⋯ h)}
 have nq6:∀{b:R0} {o:HO},H5 b=!o->b≠nq:=λe z=>by[←z,s6 _ _ e]at gn;&gn
 ?{_,O,sp,ns,3,O,hs.same S7,⋯,λc3=>{_,O,c3,dg,O,λH8 d3 s8 g8 w8=>?_}}
 have f3:∀{b:R0} {o:HO},H7 b=!o->b≠d3:=λe z=>by[z,g8]at e;&e
 have fd3:∀i,i<9->F i≠d3:=λi a=>let⟨_,e⟩:=l7 i a;f3 e
 ?{_,O,_,O,_,O,d3,dq,r,nq,F,S,n,xs,kvs,O,w8,s8 _ _ q7,s8 _ _ e3,an.imp λv i g=>g.ab s8.ab,W,n24,s8 _ _ (F7 4 ⋯ ⋯),s8 _ _ (F7 5 ⋯ ⋯),(S7.trans s8) _ _ J,s8 _ _ en,kl,nmd.same s8,f3 (S7 _ _ J),λi a=>{fd3 i a,old J i a},hi,λk lq e=>?_,λH9 M m N q ms ns2 o9 e4 am wm hm e5 an5 wn=>?_}
 .@p,lq',us,_,_,hu,h1,_:=nmd.2 k _ e
  &hu;have h6:=fr k lq e;!{f3 h1,(λz=>by[z,s6 _ _ (F5 4 ⋯ ⋯)]at h6;&h6),λz=>by[z,s6 _ _ (F5 5 ⋯ ⋯)]at h6;&h6}
 have t9:ai H7 H9:=s8.ab.trans (mL o9 λb z xs e=>by
  @rfl|rfl|rfl|rfl:=z
  .@_,_,q:=w8;[q]at e;&e
  .[s8 _ _ (F7 4 ⋯ ⋯)]at e;&e
  .[s8 _ _ (F7 5 ⋯ ⋯)]at e;&e
  .[s8 _ _ en]at e;&e)
 have k9:∀{b:R0} {o:HO},H7 b=!o->b≠F 4->b≠F 5->b≠nq->H9 b=!o:=λe n1 n2 n3=>o9 _ _ (s8 _ _ e) λz=>by
  @z|z|z|z:=z
  .!f3 e z
  .!n1 z
  .!n2 z
  .!n3 z
 have S9:af H H9:=λb o e=>k9 (S7 _ _ e) (old e 4 ⋯) (old e 5 ⋯) (nq6 (S5 _ _ e))
 have Fq:∀i,i<9->F i≠nq:=λi a=>let⟨_,e⟩:=l5 i a;nq6 e
 have q9:H9 dq=!(.dK (cE F 9)):=k9 q7 (oq 4 ⋯).symm (oq 5 ⋯).symm (nq6 q5);have kq9:H9 kq=!(.lst kn):=k9 (k7 ek (kF 3 ⋯)) (kF 4 ⋯) (kF 5 ⋯) (nq6 ek)
 have F9:∀i,i<9->6<=i->H9 (F i)=!(.lst []):=λi a b=>k9 (F7 i a ()) (d i a 4 ⋯ ()) (d i a 5 ⋯ ()) (Fq i a)
 have l9:∀i,i<9->∃xs,H9 (F i)=!(.lst xs):=λi a=>by
  ¿h4:i=4
  .[h4];!{_,e4}
  .¿h5:i=5
   .[h5];!{_,e5}
   .@ys,e:=l7 i a
    !{ys,k9 e (d i a 4 ⋯ h4) (d i a 5 ⋯ h5) (Fq i a)}
 ?{_,O,sp,ns,4,O,hs.same S9,⋯,λc4=>{_,O,c4,dg,O,λH10 d4 f g10 w10=>?_}}
 have f4:∀{b:R0} {o:HO},H9 b=!o->b≠d4:=λe z=>by[z,g10]at e;&e
 have kn9:KN H9 kn:=(kn5.ab t7).ab t9;?{_,O,_,O,_,O,d4,dq,r,kq,F,kn,O,w10,f _ _ q9,f _ _ (F9 6 ⋯ ⋯),f _ _ (F9 7 ⋯ ⋯),(S9.trans f) _ _ J,f _ _ kq9,kn9.ab f.ab,k0,k1,f4 (S9 _ _ J),f4 kq9,λi a=>{let⟨_,e⟩:=l9 i a;f4 e,old J i a,kF i a},d 6 ⋯ 7 ⋯ ⋯,λy L a C b ls cs2 o11 e6 aL WL' e7 aC WC'=>?_}
 have t11:ai H9 y:=f.ab.trans (mL o11 λb z xs e=>by
  @rfl|rfl|rfl:=z
  .@_,_,q:=w10;[q]at e;&e
  .[f _ _ (F9 6 ⋯ ⋯)]at e;&e
  .[f _ _ (F9 7 ⋯ ⋯)]at e;&e)
 have Z:∀{b:R0} {o:HO},H9 b=!o->b≠F 6->b≠F 7->y b=!o:=λe n1 n2=>o11 _ _ (f _ _ e) λz=>by
  @z|z|z:=z
  .!f4 e z
  .!n1 z
  .!n2 z
 have S11:af H y:=λb o e=>Z (S9 _ _ e) (old e 6 ⋯) (old e 7 ⋯)
 have q11:y dq=!(.dK (cE F 9)):=Z q9 (oq 6 ⋯).symm (oq 7 ⋯).symm;have kq11:=Z kq9 (kF 6 ⋯) (kF 7 ⋯);have e811:y (F 8)=!(.lst []):=Z (F9 8 ⋯ ⋯) (d 8 ⋯ 6 ⋯ ⋯) (d 8 ⋯ 7 ⋯ ⋯);?{_,O,sp,ns,5,O,hs.same S11,⋯,λc5=>{_,O,c5,dg,O,λH12 d5 D g12 w12=>?_}}
 have f5:∀{b:R0} {o:HO},y b=!o->b≠d5:=λe z=>by[z,g12]at e;&e
 have kn11:=kn9.ab t11;?{_,O,_,O,_,O,d5,dq,r,kq,F,kn,O,w12,D _ _ q11,D _ _ e811,(S11.trans D) _ _ J,D _ _ kq11,k0,(),λv hv=>(kn11.np hv).ab D.ab,f5 (S11 _ _ J),f5 kq11,f5 e811,old J 8 ⋯,kF 8 ⋯,λB ys o13 e8 ly lf=>?_}
 have t13:ai y B:=D.ab.trans (mL o13 λb z xs e=>by
  @rfl|rfl:=z
  .@_,_,q:=w12;[q]at e;&e
  .[D _ _ e811]at e;&e)
 have k13:∀{b:R0} {o:HO},y b=!o->b≠F 8->B b=!o:=λe n=>o13 _ _ (D _ _ e) λz=>z.elim (f5 e) n;have q13:Rd B dq (.dK (cE F 9)):=.inl (k13 q11 (oq 8 ⋯).symm)
 have up7:∀i,i<9->i≠4->i≠5->i≠6->i≠7->i≠8->∀{o},H7 (F i)=!o->B (F i)=!o:=λi a n4 n5 n6 n7 n8 {o} e=>k13 (Z (k9 e (d i a 4 ⋯ n4) (d i a 5 ⋯ n5) (Fq i a)) (d i a 6 ⋯ n6) (d i a 7 ⋯ n7)) (d i a 8 ⋯ n8)
 have up5:∀i,i<3->∀{o},H5 (F i)=!o->B (F i)=!o:=λi a {o} e=>up7 i () () () () () () (k7 e (d i () 3 ⋯ ()))
 have up9:∀i,i<6->∀{o},H9 (F i)=!o->B (F i)=!o:=λi a {o} e=>k13 (Z e (d i () 6 ⋯ ()) (d i () 7 ⋯ ())) (d i () 8 ⋯ ())
 have U:∀i,i<8->∀{o},y (F i)=!o->B (F i)=!o:=λi a {o} e=>k13 e (d i () 8 ⋯ ())
 have l13:∀i,i<9->∃xs,B (F i)=!(.lst xs):=λi a=>by
  ¿h8:i=8
  .[h8];!{_,e8}
  .¿h6:i=6
   .[h6];!{_,U 6 ⋯ e6}
   .¿h7:i=7
    .[h7];!{_,U 7 ⋯ e7}
    .@zs,e:=l9 i a
     !{zs,up9 i () e}
 have R:=t11.trans t13;have vl:=fi.vl;have pl:=fi.pc.1;?{_,O,kk B dq F ⟨S,n,M,m,N,q,L,a,C,b,rs,cu⟩ (λb o e=>k13 (S11 _ _ e) (old e 8 ⋯)) {{xs,ms,ns2,{q13,hi,λi a _ _ _=>l13 i a,up7 3 ⋯ ⋯ ⋯ ⋯ ⋯ ⋯ e3,an.imp λv i g=>(g.ab t9).ab R,W,up9 4 ⋯ e4,am.imp λv i g=>g.ab R,wm,up9 5 ⋯ e5,an5.imp λv i g=>g.ab R,wn}},by ¤m<=63;¥,{bs,es,cs,60,{q13,hi,λi a _=>l13 i a,up5 0 ⋯ eb,up5 1 ⋯ ev,up5 2 ⋯ ec,((fi.ab t7).ab t9).ab R},⋯,qg (vY rs) ()},{ys,e8,ly,lf},{cE F 9,F 6,ls,F 7,cs2,q13,cR F 6 ⋯,U 6 ⋯ e6,aL.imp λv i g=>kC.ab g t13,WL',cR F 7 ⋯,U 7 ⋯ e7,aC.imp λv i g=>iD.ab g t13,WC'},sok}}
§CZ(T:Txt K mg tk)(F:FO K mg "has_leave" qY)(b:×yZ)(a:×yC):×zj:=by
 ?aN F JI (RQ λ_ _ _ _ _ _=>rfl) (λ_ _ _ _ h=>Pu h) λfa d A outer s H vs Q E c h=>?_
 ?{_,(aj (bA (ck c8 (vv 3) (xl (vv 0))) (aE (aO bW)) cc)
   (aj (sn JI.nd 6 (cl b c (a2 (vv 1) (vv 4))))
   (aj (bA (dA (cl a c (ac (vv 2) (ac (vv 6) (a2 (vv 3) (vv 5)))))) (aE (aO bW)) cc)
   (aE (aO (CL (ce c8 (vv 5) aQ) (Lg (cl a c (ac (vv 2) (ac (vv 6) (a2 (vv 3) aQ))))))))))),?_}
 !h.2.elim
§D0(T:Txt K mg tk)(F:FO K mg "row_of" sQ)(e:×tT)(d:×uJ):×oz:=by
 ?aN F Dg (iP λ_ _=>rfl) {} λfa cdv A outer s H vs Q E t h=>?_;?{_,(aE (aO (cl e t (a1 (zQ (il (cl d t (a2 (vv 0) (vv 1)))) (λ_ _ _=>dI) (λ_ _ _=>(oR GJ (vv 0) (f' aB) (f' aB)))))))),?_};@fa,V,pt,S,n,rfl,fg,m,c,Z:=h
 #W:WS S n:=by @_,_,_,_,_,_,_,W:=fg;!W
 #pS:=W.uP pt;?{_,O,_,O,fa,V,pt,S,n,O,fg,m,c,λH1 q zs s1 g1 z r=>?_}
 #D:zs.length<=1400:=by[r.1];!qg (qg (we _ _) (by[zo];!qe _)) W.cI
 ?{q,O,{_,aA.of z},c7 (xs:=zs) (cK ()) (λj us H'=>af H1 H'/\AN (PL (cj S) (sG S) (DS S) H') us ((bM S n pt).take j)) {af.refl _,.nil} (λ_ _ H' s'=>aA.of (s'.1 _ _ z)) (λj x us H' K1 Y N s' M k0=>?_) λy up us s' hu6 p=>?_}
 .@s',f:=s'
  @i,ei,sn:=r.at N;@b,vq,vn,vb,kq,vg,rfl,h1,h2,G,h4,R,h6:=SN.ab sn s'.ab
  #tk:(bM S n pt).take (j+1)=(bM S n pt).take j++[i]:=by[qz,ei];rfl
  ?dH (B:=Y H') ?_;?{_,O,1,O,4,O,b,_,O,aZ.of h1,(by ¤¬(HT.bZ 6 0 (some 1)=0/\HT.bZ 6 6 (some 4)=6);decide),λL H7 g7 o e7=>M _ _ {s'.trans o,?_}};[tk];#k:=o.ab;!(f.imp λv i g=>g.ab k).snoc {L,vn,vb,.ref kq,O,e7,G.ab k,h4.ab k,.tup (o _ _ R) (.cons (.int _) (.cons (.int _) (.cons (.int _) .nil)))}
 @s6,f:=s';#C:af y (upd y up (.lst us)):=af.new p;[show zs.length=(bM S n pt).length from r.1,ze]at f;#a:=(s1.trans s6).trans C;!{up,us,cj S,sG S,DS S,bM S n pt,bM S n pt,2,O,aA.of aD,f.imp λv i g=>g.ab C.ab,O,pS,λX J ws s8 I U aw=>Z X J ws (a.trans s8) (a.free I) U aw}
§EC(T:Txt K mg tk)(F:FO K mg "stood_in" su)(gfBk:×yK):×xQ:=by
 ?aN F rJ (lR λ_=>rfl) {} λfa cdv A outer s H vs Q E D h=>?_
 ?{_,(aj (sn rJ.nd 1 (cl gfBk D (a1 (vv 0))))
   (aj (sn rJ.nd 2 jV)
   (aj (fo (uq (vv 0)) (gt (de (gn rJ.nd 3) (de (gn rJ.nd 4) g_)))
   (aE (jY (cO D) (vv 2) (vv 3) (rE (ck (pP (cO D)) (vv 3) (vv 1)) (Co (v:=.ref cn) rfl T.cn rfl) (xt (vv 4))) rfl)))
   (aE (aO (vv 2)))))),?_}
 @c,kt,xs,rfl,i,akt,W,tb,ma,kk:=h;#hfew:=W.cI
 #ntup:∀b,sS c b->∀us,H b≠some (.tup us):=λb z us e=>by
  @rfl|rfl:=z
  .@q|⟨o',q⟩:=i <;> rw[q]at e <;> &e
  .@ps,t:=tb.cf
   [t]at e;&e
 ?{_,O,c,kt,xs,O,i,akt,W,tb,λH1 G ku E' T s1 n tb1 gtu B tur smT=>?_};#t01:=OR s1 ntup;¢st H2 J s2 e2;#g:=Rd.same n s2;#t02:=t01.trans s2.ab;#nst:st≠G:=(a0 B J).symm
 #m:H st=£:=by
  #:=s1.free J
  ¿z:sS c st
  .@z|z:=z
   .[z]at J
    @q|⟨o',q⟩:=n <;> rw[q]at J <;> &J
   .@ps,t:=tb1.cf
    [←z,J]at t;&t
  .[d_ z]at this;!this
 dsimp only[cL,mW];?IE ?_;?{_,O,c,kt,O,qQ g λo Y hY fY eY=>?_}
 #tY:ai H2 Y:=λb us e=>hY b _ (λz=>by
  £z
  @q|⟨o',q⟩:=g <;> rw[q]at e <;> &e) e
 #nqu:G≠c:=λz=>by
  #:=s2 _ _ B;[z]at this;#f:=dQ (H:=H) (S:=sS c) (b:=c) (.inl rfl);[z]at gtu;@q|⟨o',q⟩:=i <;> rw[gtu]at q <;> &q
 #nqs:st≠c:=λz=>by
  [z]at e2;[z]at m;@q|⟨o',q⟩:=i <;> rw[m]at q <;> &q
 #sYd:af (bP H (sS c)) Y:=λb u e=>by
  #nb:¬sS c b:=λz=>by[dQ z]at e;&e
  !hY b u (λz=>nb (.inl z)) (s2 _ _ (s1 _ _ e))
 #tbY:i_ Y:=(tb1.same s2).keep λb u e hu=>hY b u (λz=>by
  £z;@q|⟨o',q⟩:=g
  .[q]at e;&e;@⟨ps,y⟩|⟨φ,y⟩:=hu <;> &y
  .[q]at e;&e;@⟨ps,y⟩|⟨φ,y⟩:=hu <;> &y) e
 #R:=hY G _ nqu (s2 _ _ B);#d:=hY st _ nqs e2;#I:=t02.trans tY;#aY:=akt.imp λe x q=>q.imp (R':=fx Y) I λr=>r.ab I;#maY:=I _ _ ma;?Oy (λj σ X=>∃(ks:#(KD×V×V)) (u3 u4:Option V),σ=[!(.ref c),!(.ref G),!(.ref st),u3,u4]/\af (del Y st) X/\X st=!(.dG ks)/\AL (EK (pJ X) X) ks ((xs.take j).map (eg T))) {[],none,none,O,(λb u e=>kG _ _ e),d,.nil} (λj σ X ⟨_,_,_,_,s,_⟩=>s _ _ (by[bR nqs.symm];!eY)) ?_ ?_
 .rintro j e σ X p hx ⟨ks,u3,u4,rfl,L,eX,ak⟩ hp
  #tX:ai Y X:=mY d (λ_=>°) L;@r,D,p1,p2,p3:=aY.at hx;#M:j<xs.length:=(qk.mp D).1;#sp:af X (upd X p (.tup [e.2.1,e.2.2])):=af.new hp;#ep:(upd X p (.tup [e.2.1,e.2.2])) p=!(.tup [e.2.1,e.2.2]):=aD;generalize upd X p (.tup [e.2.1,e.2.2])=X1 at sp ep;#C:=tX.trans sp.ab;@b,vp,vo,vn,kq,hbv,h1,h2,h3,h4,h5:=p3.ab C;#Z:=sp _ _ (L _ _ (by[bR nst.symm];!R));#a:=sp _ _ eX;#k:=p2.ab C;#ak1:=ak.imp λe x q=>q.imp (R':=pJ X1) sp.ab λr=>r.ab sp.ab;#U:ks.length<sizeLine:=fW (by[ak.1,qj,wv];¥)
  #hnd:(((xs.take j).map (eg T)).map (·.pt)).Nodup:=by[Ko];!(W.nd.sublist ((kj j xs).map _))
  #hnew:(eg T r).pt∉((xs.take j).map (eg T)).map (·.pt):=by
   [Ko,wJ];¢z;#hn:=W.nd
   #e1:xs=xs.take j++r::xs.drop (j+1):=by
    #:=rh j xs;[jm M]at this;[←qJ ((qh M).symm.trans D)];!this.symm
   [e1,z7,zn]at hn;!(wt.mp hn).2.2 r.pt z r.pt qm rfl
  #etk:(xs.take (j+1)).map (eg T)=gP ((xs.take j).map (eg T)) (eg T r):=by
   [OW hnew,qz,D,z7];rfl
  #fin:∀vv,GK X1 (.tup (eg T r).ou) vv->∃(N:#(KD×V×V)) (u3 u4:Option V),[!(V.ref c),!(V.ref G),!(V.ref st),!e.2.1,!e.2.2]=[!(.ref c),!(.ref G),!(.ref st),u3,u4]/\af (del Y st) (upd X1 st (.dG (pG ks (.tup r.pt) e.2.1 vv)))/\(upd X1 st (.dG (pG ks (.tup r.pt) e.2.1 vv))) st=!(.dG N)/\AL (EK (pJ (upd X1 st (.dG (pG ks (.tup r.pt) e.2.1 vv)))) (upd X1 st (.dG (pG ks (.tup r.pt) e.2.1 vv)))) N ((xs.take (j+1)).map (eg T)):=λvv gv=>by
   #aP:=A6 (r:=eg T r) (y:=e.2.1) (v:=vv) ak1 hnd (by[wJ];!k) gv;[wJ,←etk]at aP;!{_,_,_,O,(L.trans sp).wr dV,aD,aP.imp λe x q=>q.imp (ai.wd a) λr=>r.ab (ai.wd a)}
  ?{p,_,O,aZ.of ep,O,_,_,O,_,_,O,O,?_};?{_,O,_,O,G,ku,.tup r.pt,O,.inl Z,k,_,O,?_};[qB qr]
  ¿ht:T r.pt
  .[smT.yes ht]
   ?cW rfl ?_;?{_,O,_,O,st,ks,.tup r.pt,O,a,k,U,fin _ ?_};[Mm ht];!{_,O,C _ _ maY}
  .[smT.no ht]
   ?bV rfl ?_;?{_,O,b,_,1,vo,hbv,O,aZ.of h1,O,_,O,_,O,st,ks,.tup r.pt,O,a,k,U,fin _ ?_};[Ey ht];!h3
 .rintro σ X ⟨ks,u3,u4,rfl,L,eX,ak⟩
  [aY.1,ze]at ak;?{_,O,kk X st ks E' T (λb u e=>L _ _ ?_) (tbY.cut d (λ_=>°) (λ_=>°) L) m eX tur ak};[bR (λz=>?_)]
  .!sYd _ _ e
  .£z
   [Ox m]at e;&e
§Bq(T:Txt K mg tk)(F:FO K mg "lines_of" jC)(G:×tT):×zX:=by
 ?aN F A3 (wQ λ_ _ _=>rfl) {} λfa cdv A outer s H vs Q E r h=>?_;#hu1:(A.deeper (envOfC "lines_of" (ag jC) ↑s fa cdv)).units+1<cLine:=cT r
 ?{_,(aj (uK (i:=3) A3.nd rfl (Or.inl rfl) (own:=["fact"]) (fr:=[("part",1),("way",2)]) rfl (il (cV hu1 (vv 0) aQ (λ_ _=>rfl))) {O,∅,∅} (jX (ag jC) ["facts","part","way","lines","lives"] rfl rfl (λ_ h=>fJ h) ∅ ∅ ∅) (λ_ _ _=>(cN (i:=0) (by ¤List.Nodup (["fact","part","way"]:#R9);decide +kernel) rfl (Or.inl rfl))) (λ_=>mM rfl) (λ_ _ _=>(fB (PW.pt (jQ (ck (FI r) (xt (vv 0)) (vc 1)) (jJ (ck c8 (xt (vv 0)) (vc 2))))))) (λ_ _ _=>(vv 0)))
   (aj (sm A3.nd 4 (cy (fR r.hd (p5 r)) T.c6 boot_dict (a1 (zQ (il (vv 3)) (λ_ _ _=>dI) (λ_ _ _=>(a9 (a2 (xt (vv 0)) (xt (vv 0)))))))))
   (aE (aO (tO (ag jC) xZ [("lives",4)] (il (cl G r (a1 (zQ (il (vv 3)) (λ_ _ _=>dI) (λ_ _ _=>(oR GJ (vv 0) (f' aB) (f' aB))))))) (λ_ _ _=>(fB (dA (dE (cO r) (vc 1) (vv 0) (λ_ _=>rfl))))) (λ_ _ _=>(vv 0))))))),?_}
 @fa,vp,pt,wy,L,n,rfl,⟨C,la,vs,rd,M,R,an,W⟩,hvp,J,kk:=h
 #S:vs.length=n:=by[an.1,zo]
 #cI:=W.cI;#pS:=W.uP pt wy;?{_,O,fa,.ref la,O,.inl {C,.inr "lines",rd,O,M.symm},la,O,{_,aA.of R},c7 (xs:=vs) (cK ()) (λj ys H'=>H'=H/\AN (kC L H) ys (((List.range n).take j).filter (uw L pt wy))) {O,.nil} (λ_ _ H' s'=>by[s'.1];!aA.of R) (λj x ys H' K1 D m s' k p=>?_) λH1 q ys s' hy hq=>?_}
 .@rfl,f:=s'
  @i,c,t:=an.at m;#hin:i<n:=qo.mp (qw c);#ln':=t;@b,vq,vn,vb,kq,rfl,h1,h2,X,h4,h5:=t
  #tk:(List.range n).take (j+1)=(List.range n).take j++[i]:=by[qz,c];rfl
  ?{_,O,b,_,0,_,O,O,aZ.of h1,O,_,O,tD (L i).pt,tD pt,(aM h2).dv,(aM hvp).dv,(W.lay i hin).2,J,qg (yb _ _) (qg (ee _) ⋯),_,O,?_};#U:(if false=¶ then not (PyData.eqv (tD (L i).pt) (tD pt)) else PyData.eqv (tD (L i).pt) (tD pt))=decide ((L i).pt=pt):=gV _ _
  ¿hp:(L i).pt=pt
  .?cW (by[U];!qI hp) ?_
   ?{_,O,b,_,1,_,O,O,aZ.of h1,O,_,O,O,_,O,?_}
   ¿Y:(L i).wy=wy
   .?cW (qI (by[Y])) ?_
    ?{_,O,k _ _ {O,?_}};[tk];!AN.pick (vs:=vs) f ln' (Fh.mpr {hp,Y})
   .?bV (decide_eq_false (λz=>Y (V.str.inj z))) ?_
    ?p _ {O,?_};[tk];!f.skip λz=>Y (Fh.mp z).2
  .?bV (by[U];!decide_eq_false hp) (bV rfl ?_)
   ?p _ {O,?_};[tk];!f.skip λz=>hp (Fh.mp z).1
 @rfl,f:=s';[S,yr (by[zo];!qe _)]at f;#f:AN (kC L H1) ys (cD L n pt wy):=f
 #hyl:ys.length<=1300:=by[S]at hy;¥
 #n1:af H1 (upd H1 q (.lst ys)):=af.new hq;#I:(upd H1 q (.lst ys)) q=!(.lst ys):=aD;#a:=f.imp λv i g=>g.ab n1.ab;generalize upd H1 q (.lst ys)=H2 at n1 I a;?{_,O,q,O,{_,aA.of I},c7 (xs:=ys) (cK ()) (λj zs H'=>af H2 H'/\∃kvs,cw H' zs kvs/\jU (cQ L) (λv i=>v=.bl (L i).lv) kvs ((cD L n pt wy).take j)) {af.refl _,[],trivial,trivial} (λ_ _ H' s'=>aA.of (s'.1 _ _ I)) (λj x zs H' K1 D m s' k p=>?_) λH3 zp zs s' hz hzq=>?_}
 .@s',kvs,pr,pk:=s'
  @i,c,t:=a.at m;@b,vq,vn,vb,kq,rfl,h1,h2,X,h4,h5:=t.ab s'.ab
  #tk:(cD L n pt wy).take (j+1)=(cD L n pt wy).take j++[i]:=by[qz,c];rfl
  ?dH (B:=D H') ?_;?{_,O,b,_,2,_,O,O,aZ.of h1,O,_,O,b,_,5,_,O,O,aZ.of h1,O,aF rfl,λtq H4 g4 s4 e4=>k _ _ {s'.trans s4,kvs++[(.tup (cQ L i),vn,.bl (L i).lv)],cw.snoc (e:=(.tup (cQ L i),vn,.bl (L i).lv)) {tq,O,e4,X.ab s4.ab} (pr.ab s4.ab),?_}};[tk];!pk.snoc rfl rfl
 @s3,kvs,pr,pk:=s';#n3:af H3 (upd H3 zp (.lst zs)):=af.new hzq
 #pkF:jU (cQ L) (λv i=>v=.bl (L i).lv) kvs (cD L n pt wy):=by
  [show ys.length=(cD L n pt wy).length from a.1,ze]at pk;!pk
 ?{zp,zs,kvs,O,aA.of aD,pr.ab n3.ab,(),λdq H5 g5 s5 e5=>?_};#d:=(s3.trans n3).trans s5
 #get:∀i∈cD L n pt wy,vG (putAll [] kvs) (.tup (cQ L i))=!(.bl (L i).lv):=λi hi=>by
  @v,h1,rfl:=jU.get (all:=cD L n pt wy) pS.inj (done:=[]) (acc:=[]) pkF (λ_=>°) (λi h=>h) (λ_=>°) i (.inr hi);!h1
 ?{_,O,q,O,{_,aA.of (d _ _ I)},c7 (xs:=ys) (cK ()) (λj us H'=>af H5 H'/\AN (PL (cQ L) (uU L) (LQ L) H') us ((cD L n pt wy).take j)) {af.refl _,.nil} (λ_ _ H' s'=>aA.of ((d.trans s'.1) _ _ I)) (λj x us H' K1 D m s' k p=>?_) λH6 up us s' hu6 huq=>?_}
 .@s',o:=s'
  @i,c,t:=a.at m;@b,vq,vn,vb,kq,rfl,h1,h2,X,h4,h5:=t.ab (d.trans s').ab
  #tk:(cD L n pt wy).take (j+1)=(cD L n pt wy).take j++[i]:=by[qz,c];rfl
  ?dH (B:=D H') ?_;?{_,O,2,O,5,O,b,_,O,aZ.of h1,(by ¤¬(HT.bZ 6 0 (some 2)=0/\HT.bZ 6 6 (some 5)=6);decide),λtq H7 g7 s7 e7=>k _ _ {s'.trans s7,?_}};[tk];#t7:=s7.ab;!(o.imp λv i g=>g.ab t7).snoc {tq,vn,vb,.ref kq,O,e7,X.ab t7,h4.ab t7,.tup (s7 _ _ h5) (.cons (.int _) (.cons (.int _) .nil))}
 @s6,o:=s';#n6:af H6 (upd H6 up (.lst us)):=af.new huq;[show ys.length=(cD L n pt wy).length from a.1,ze]at o;?{up,us,cQ L,uU L,LQ L,cD L n pt wy,cD L n pt wy,2,O,aA.of aD,o.imp λv i g=>g.ab n6.ab,.refl _,pS,λH8 q8 ws s8 g8 e8 aw=>?_}
 #wl:ws.length=(cD L n pt wy).length:=by[aw.1];!Rga.gJ pS.wf
 #N:=(s6.trans n6).trans s8;?{q8,O,{_,aA.of e8},c7 (xs:=ws) (cK (by[wl,←a.1];¥)) (λj us H'=>H'=H8/\AN (NM (cQ L) H8) us (((iy L n pt wy).take j).filter λi=>(L i).lv)) {O,.nil} (λ_ _ H' s'=>by[s'.1];!aA.of e8) (λj x us H' K1 D m s' k p=>?_) λH9 rp rs s' hr9 y=>?_}
 .@rfl,o:=s'
  @i,c,nm:=aw.at m;#him:i∈cD L n pt wy:=Rga.nO pS.wf (qw c)
  #tk:(iy L n pt wy).take (j+1)=(iy L n pt wy).take j++[i]:=by[qz,show(iy L n pt wy)[j]?=some i from c];rfl
  ?{_,O,_,O,dq,_,.tup (cQ L i),.bl (L i).lv,O,.inl (N _ _ e5),nm,get i him,_,O,?_}
  ¿Z:(L i).lv=¶
  .?cW Z {_,O,k _ _ {O,?_}}
   [tk];!AN.pick (vs:=ws) o nm Z
  .?bV (by ±Z) (p _ {O,?_})
   [tk];!o.skip Z
 @rfl,ar:=s';#n9:af H9 (upd H9 rp (.lst rs)):=af.new y;#s1:=(n1.trans d).trans N;[show ws.length=(iy L n pt wy).length from aw.1,ze]at ar;!kk _ rp rs (s1.trans n9) (s1.free y) aD (ar.imp λv i g=>g.ab n9.ab)
§DJ(T:Txt K mg tk)(F:FO K mg "living" oo)(k:×oz)(o:×uJ):×kI:=by
 ?aN F Lj (iP λ_ _=>rfl) {} λfa cdv A outer s H vs Q E d h=>?_
 ?{_,(aj (sm Lj.nd 2 (cy (fR d.hd (p5 d)) T.c6 boot_dict (a1 (zQ (il (cl o d (a2 (vv 0) (vv 1)))) (λ_ _ _=>dI) (λ_ _ _=>(a9 (a2 (xt (vv 0)) (xt (vv 0)))))))))
   (aE (aO (tO (ag oo) yS [("lives",2)] (il (cl k d (a2 (vv 0) (vv 1)))) (λ_ _ _=>(fB (dA (dE (cO d) (vc 1) (vv 0) (λ_ _=>rfl))))) (λ_ _ _=>(vv 0)))))),?_}
 @fa,vp,pt,S,n,rfl,fg,m,a,kk:=h
 #W:WS S n:=by @_,_,_,_,_,_,_,W:=fg;!W
 #pS:=W.uP pt;?{_,O,_,O,fa,vp,pt,S,n,O,fg,m,a,λH1 q zs s1 g1 e1 U=>?_}
 #hzl:zs.length<=1400:=by[U.1];!qg (qg (we _ _) (by[zo];!qe _)) W.cI
 ?{q,O,{_,aA.of e1},c7 (xs:=zs) (cK ()) (λj us H'=>af H1 H'/\∃kvs,cw H' us kvs/\jU (cj S) (λv i=>v=.bl (S i).lv) kvs ((bM S n pt).take j)) {af.refl _,[],trivial,trivial} (λ_ _ H' s'=>aA.of (s'.1 _ _ e1)) (λj x us H' K1 K0 M s' L k0=>?_) λH3 up us s' hu3 R=>?_}
 .@s',kvs,I,D:=s'
  @i,C,sn:=U.at M;@b,vq,vn,vb,kq,vg,rfl,h1,h2,h3,h4,h5,h6:=SN.ab sn s'.ab
  #tk:(bM S n pt).take (j+1)=(bM S n pt).take j++[i]:=by[qz,C];rfl
  ?dH (B:=K0 H') ?_;?{_,O,b,_,1,_,O,O,aZ.of h1,O,_,O,b,_,5,_,O,O,aZ.of h1,O,aF rfl,λtq H4 g4 V e4=>L _ _ {s'.trans V,kvs++[(.tup (cj S i),vn,.bl (S i).lv)],cw.snoc (e:=(.tup (cj S i),vn,.bl (S i).lv)) {tq,O,e4,h3.ab V.ab} (I.ab V.ab),?_}};[tk];!D.snoc rfl rfl
 @s3,kvs,I,D:=s';#n3:af H3 (upd H3 up (.lst us)):=af.new R;[show zs.length=(bM S n pt).length from U.1,ze]at D;?{up,us,kvs,O,aA.of aD,I.ab n3.ab,(),λdq H5 g5 s5 e5=>?_};#J:=(s3.trans n3).trans s5;#c:=s1.trans J
 #get:∀i∈bM S n pt,vG (putAll [] kvs) (.tup (cj S i))=!(.bl (S i).lv):=λi hi=>by
  @v,h1,rfl:=jU.get (all:=bM S n pt) pS.inj (done:=[]) (acc:=[]) D (λ_=>°) (λi h=>h) (λ_=>°) i (.inr hi);!h1
 ?{_,O,_,O,fa,vp,pt,S,n,O,fg.same c,m.ab c.ab,a,λY rp t s6 g6 e6 N=>?_}
 #hrl:t.length<=1400:=by[N.1];!qg (iE W) W.cI
 ?{rp,O,{_,aA.of e6},c7 (xs:=t) (cK ()) (λj us H'=>H'=Y/\AN (NM (cj S) Y) us (((aG S n pt).take j).filter λi=>(S i).lv)) {O,.nil} (λ_ _ H' s'=>by[s'.1];!aA.of e6) (λj x us H' K1 K0 M s' L k0=>?_) λH9 np rs s' hr9 f=>?_}
 .@rfl,X:=s'
  @i,C,Z:=N.at M
  #G:i∈bM S n pt:=zk.mpr (by
   #:=(lV W).mp (qw C)
   !{qo.mpr this.1,iN.mpr this.2})
  #tk:(aG S n pt).take (j+1)=(aG S n pt).take j++[i]:=by[qz,C];rfl
  ?{_,O,_,O,dq,_,.tup (cj S i),.bl (S i).lv,O,.inl (s6 _ _ e5),Z,get i G,_,O,?_}
  ¿y:(S i).lv=¶
  .?cW y {_,O,L _ _ {O,?_}}
   [tk];!AN.pick (vs:=t) X Z y
  .?bV (by ±y) (k0 _ {O,?_})
   [tk];!X.skip y
 @rfl,p:=s';#n9:af H9 (upd H9 np (.lst rs)):=af.new f;#r:=c.trans s6;[show t.length=(aG S n pt).length from N.1,ze]at p;!kk _ np rs (r.trans n9) (r.free f) aD (p.imp λv i g=>NM.ab g n9.ab)
§C0(T:Txt K mg tk)(F:FO K mg "stands_in" oM)(gfAk:×uI)(gfBr:×xQ)(gfAc:×tG):×xT:=by
 ?aN F Fi (lR λ_=>rfl) {} λfa cdv A outer s H vs Q E d h=>?_
 ?{_,(aj (sn Fi.nd 1 (cl gfBr d (a1 (cl gfAc d (a1 (vv 0))))))
   (aj (sm Fi.nd 2 (cl gfAk d (a1 (vv 1))))
   (aE (aO (cy (fR d.hd (p5 d)) T.c6 boot_dict (a1 (iu (own:=["part","outer"]) (fr:=[("reaching",2)]) rfl (uq (vv 1)) {O,∅,∅} (jX (ag oM) ["facts","outer_of","reaching"] rfl rfl (λ_ h=>fJ h) ∅ ∅ ∅) (λ_ _ _=>(jP (n:=2) rfl (de (cN (i:=0) (by ¤List.Nodup (["part","outer","reaching"]:#R9);decide +kernel) rfl (Or.inl rfl)) (de (cN (i:=1) (by ¤List.Nodup (["part","outer","reaching"]:#R9);decide +kernel) rfl (Or.inl rfl)) g_)))) (λ_=>pL rfl rfl ⋯) (λ_ _ _=>dI) (λ_ _ _=>(a9 (a2 (vv 0) (rE (dA (dE (cO d) (vc 2) (vv 0) (λ_ _=>rfl))) (vv 1) dB))))))))))),?_}
 @fa,es,rs,rfl,fq,tb,ma,kk:=h;#W:=fq.xw;#hfew:=W.cI;?{_,O,fa,es,rs,O,fq,λH1 tq kt s1 g1 e1 ak1=>?_};#tb1:=tb.same s1;?{tq,kt,tl rs,O,.inl e1,ak1,W,tb1,s1 _ _ ma,λH2 sa ks E T s2 tb2 gsa g tur ak2=>?_}
 #ntP:tq≠gE:=λz=>by
  @ps,t:=tb1.cf;[←z,e1]at t;&t
 #D:af (del H gE) H2:=λb u e=>by
  #nb:b≠gE:=λz=>by[z,dV]at e;&e
  [bR nb]at e;?c_ s2 (s1 _ _ e) λz=>?_;@z|z:=z
  .[z,g1]at e;&e
  .!nb z
 #fsa:H sa=£:=s1.free gsa
 #wO:∀x∈((tl rs).map (eg T)),uR x:=λx v=>by
  @y,hy,rfl:=qf.mp v;!zR (W.w y hy)
 #ma2:MA H2:=My.iR tb D ma λ_=>°;?{_,O,sa,ks,((tl rs).map (eg T)),O,.inl g,ak2.pf λe x _ v q=>{q.1,q.2.1,gZ (wO x v).ou.ne q.2.2},W.zw T,ma2,λR Z kr f C c G era rm J hkf=>?_}
 #hkr:∀x∈((tl rs).map (eg T)),∃b:Bool,vG kr (.tup x.pt)=!(.bl b)/\f x.pt=!b:=λx v=>by
  @b,hb:=rj.mp (hkf x v);#:=rm.at_ x.pt;[lP (wO x v).pt.ne,hb]at this;!{b,this,hb}
 #t23:ai H2 R:=mY g (λ_=>°) C
 #s03:af (del H gE) R:=λb u e=>C _ _ (by
  [bR (λz=>?_)]
  .!D _ _ e
  .£z
   [JO fsa]at e
   &e)
 #tb3:i_ R:=tb2.cut g (λ_=>°) (λ_=>°) C
 #fra:H Z=£:=by
  #:=D.free G
  ¿z:Z=gE
  .@ps,t:=tb2.cf
   [←z,G]at t;&t
  .[bR z]at this;!this
 #ak3:=ak2.imp λe x q=>q.imp (R':=pJ R) t23 λr=>r.ab t23;#nrs:Z≠sa:=(a0 g G).symm;?{_,O,sa,ks,O,qQ c λo Y hY fY eY=>?_}
 #tY:ai R Y:=λb us e=>hY b _ (λz=>by
  £z
  @q|⟨o',q⟩:=c <;> rw[q]at e <;> &e) e
 #eraY:=hY Z _ nrs era
 #M:af (del H gE) Y:=λb u e=>hY b u (λz=>by
  £z
  [JO fsa]at e;&e) (s03 _ _ e)
 #U:i_ Y:=tb3.keep λb u e hu=>hY b u (λz=>by
  £z;@q|⟨o',q⟩:=c
  .[q]at e;&e;@⟨ps,y⟩|⟨φ,y⟩:=hu <;> &y
  .[q]at e;&e;@⟨ps,y⟩|⟨φ,y⟩:=hu <;> &y) e
 #aY:=ak3.imp λe x q=>q.imp (R':=pJ Y) tY λr=>r.ab tY;?xm (lB (by[aY.1,qj];¥)) (λj ys X=>af Y X/\∃es:#(KD×V×V),cw X ys es/\AL (EK (h_ X) X) es ((((tl rs).map (eg T)).take j).map (q_ f))) {af.refl _,[],trivial,.nil} (λ_ _ X s'=>s'.1 _ _ eY) (λj e ys X p K1 K0 v s' hp k1 k0=>?_) λX np ys s' hy hq=>?_
 .@I,m,pr,N:=s'
  @r,d,p1,p2,p3:=aY.at v;#sp:af X (upd X p (.tup [e.2.1,e.2.2])):=af.new hp;#ep:(upd X p (.tup [e.2.1,e.2.2])) p=!(.tup [e.2.1,e.2.2]):=aD;generalize upd X p (.tup [e.2.1,e.2.2])=X1 at sp ep;#a:=I.trans sp;@b,hb,hbv:=hkr r (qw d)
  #S:∀vv,h_ X1 vv (q_ f r)->∀(L:R0) X3,X1 L=£->af X1 X3->X3 L=!(.tup [e.2.1,vv])->K1 (.ref L) X3:=λvv hvv L X3 g3 C e3=>by
   #k:=sp.trans C;?k1 _ _ {I.trans k,m++[(.tup r.pt,e.2.1,vv)],?_,?_}
   .!cw.snoc (e:=(.tup r.pt,e.2.1,vv)) {L,O,e3,(p2.ab a.ab).ab C.ab} (pr.ab k.ab)
   .[qz,d,z7]
    !(N.imp λe x p=>p.imp k.ab λq=>q.ab k.ab).snoc {by[(oD f r).1],by[(oD f r).1];!(p2.ab a.ab).ab C.ab,hvv.ab C.ab}
  ?{p,_,O,aZ.of ep,O,_,_,O,_,_,O,O,?_};?dH (B:=K0 X1) ?_;?{_,O,_,O,_,O,Z,kr,.tup r.pt,.bl b,O,.inl (a _ _ eraY),p2.ab a.ab,hb,_,O,?_}
  cases b with
  |true=>!cW rfl {_,O,aF rfl,S _ (by unfold h_ q_;[qF hbv];!gZ (wO r (qw d)).ou.ne (GK.ab p3 a.ab))}
  |false=>!bV rfl {aF rfl,S _ (by unfold h_ q_;[qB (by[hbv];!°)];rfl)}
 @I,m,pr,N:=s';[aY.1,ze]at N;#lS:p6 rs (((tl rs).map (eg T)).map (q_ f)):={E,T,f,tur,by[qj]at J;!J,O};#ds:=lS.zw W;#nH:af X (upd X np (.lst ys)):=af.new hq;?{np,ys,m,O,aA.of aD,pr.ab nH.ab,?_,λq X2 g2 s2 e2=>?_}
 .#:ys.length<=ks.length:=hy
  #:=aY.1;[qj]at this;¥
 [pV _ [] (by[wz];!wF N ds.nd),wz]at e2;#s0:=nH.trans s2
 #fq':H q=£:=by
  #h1:=I.free (nH.free g2);#:=M.free h1
  ¿z:q=gE
  .@ps,t:=U.cf
   [←z,h1]at t;&t
  .[bR z]at this;!this
 !kk X2 q m _ ((M.trans I).trans s0) (U.same (I.trans s0)) fq' e2 lS (N.imp λe x p=>p.imp s0.ab λq=>q.ab s0.ab)
§BE(T:Txt K mg tk)(F:FO K mg "table_of" nT)(M:×zX)(gfBd:×zJ):×tK:=by
 ?aN F oZ (iP λ_ _=>rfl) {} λfa cdv A outer s H vs Q E hr h=>?_
 ?{_,(aj (sn oZ.nd 2 (cl M hr (ac (vv 0) (a2 (vv 1) aQ))))
   (aj (sn oZ.nd 3 (cl M hr (ac (vv 0) (a2 (vv 1) aQ))))
   (aj (sm oZ.nd 4 (cl gfBd hr (a2 (vv 0) (vv 1))))
   (aj (sn oZ.nd 5 (bJ cS))
   (aj (fo (il (vv 2)) (gm oZ.nd 6)
   (aE (ap (vv 5) (a1 (tO (ag nT) zZ [("told",4),("row",6)] (il (vv 3)) (λ_ _ _=>dI) (λ_ _ _=>(bm PySem.F.plainAttrs_dict PySem.F.slot_dict_get PySem.F.type_dict_get (iC (cO hr)) (vc 1) (a2 (a9 (a2 (vc 2) (vv 0))) aQ))))))))
   (aE (aO (a9 (ac (vv 2) (a2 (vv 3) (vv 5))))))))))),?_}
 @fa,vp,pt,L,n,C,m,rfl,tb,N,t,kk:=h;#WLn:=(show WL L n by @_,_,_,_,_,_,_,_,_,h,_:=tb;!h);?{_,O,_,O,fa,vp,pt,"row",L,n,O,tb.fl,N,t,λH1 S zr s1 g1 e1 ar=>?_};?{_,O,_,O,fa,vp,pt,"column",L,n,O,(tb.same s1).fl,N.ab s1.ab,t,λH2 U zc s2 g2 e2 ac=>?_};#R:=s1.trans s2;?{_,O,_,O,fa,vp,pt,L,n,C,m,O,tb.same R,N.ab R.ab,t,λH3 dq kvs s3 g3 e3 tell=>?_};#D:=R.trans s3;#p:=s3 _ _ (s2 _ _ e1);#o:=s3 _ _ e2;#X:AN (NM (cQ L) H3) zr (bD L n pt "row"):=ar.imp λv i g=>g.ab (s2.trans s3).ab;#Y:AN (NM (cQ L) H3) zc (bD L n pt "column"):=ac.imp λv i g=>g.ab s3.ab;#nrc:S≠U:=a0 e1 g2
 #hrl:zr.length<=1300:=by[ar.1];!Ar WLn
 #hcl:zc.length<=1300:=by[ac.1];!Ar WLn
 ?{aF rfl,λwp H4 g4 s4 e4=>?_};#nrw:S≠wp:=a0 p g4;#ncw:U≠wp:=a0 o g4
 ?{_,O,S,O,{_,aA.of (s4 _ _ p)},eH (xs:=zr) (λj σ Z=>∃(ws:#V) (u6:Option V),σ=[!(.ref fa),!vp,!(.ref S),!(.ref U),!(.ref dq),!(.ref wp),u6]/\af H3 Z/\Z wp=!(.lst ws)/\AN (Ik L C m pt (bD L n pt "column") H Z) ws ((bD L n pt "row").take j)/\ws.Nodup/\∀a,V.ref a∈ws->a≠S/\a≠U/\a≠wp)
  {[],none,O,s4,e4,.nil,vi,λ_=>°} (λj σ Z _ ⟨_,_,_,d,_⟩=>aA.of (d _ _ p)) ?_ ?_}
 .rintro j x σ Z hx ⟨ws,u6,rfl,d,ew,W,nd,ne⟩
  @r,er,nmr:=X.at hx
  #hj:j<1300:=by #:=(qk.mp hx).1;¥
  #hwl:ws.length<=j:=by[W.1,wv];¥
  #tk:(bD L n pt "row").take (j+1)=(bD L n pt "row").take j++[r]:=by[qz,er];rfl
  ?{_,O,.inl {O,_,aA.of ew},_,O,U,O,{_,aA.of (d _ _ o)},c7 (xs:=zc) (cK ()) (λj' ys Z'=>af Z Z'/\ys=((bD L n pt "column").take j').map λc=>V.str (pB C m pt (cQ L r) (cQ L c))) {af.refl _,O} (λ_ _ Z' s'=>aA.of (s'.1 _ _ (d _ _ o))) (λj' y ys Z' K1 K0 hy s' k1 k0=>?_) λZ1 a ys s' hyl hqa=>?_}
  .@s',rfl:=s'
   @c,ec,nmc:=Y.at hy;#I:=d.trans s';@c1,rfl,hc1:=nmr.ab I.ab;@c2,rfl,hc2:=nmc.ab I.ab;?dH (B:=K0 Z') ?_;?{_,O,.inr (.inr (.inl {O,.inr (.inr {kvs,I _ _ e3})})),_,O,_,O,aF rfl,λtq Z2 g2' J e2'=>?_};?{dq,kvs,.two (cQ L r) (cQ L c),.ref tq,.str "",O,O,J _ _ (I _ _ e3),{tq,c1,c2,O,e2',J _ _ hc1,J _ _ hc2},?_};[show(vG kvs (.two (cQ L r) (cQ L c))).getD (V.str "")=.str (pB C m pt (cQ L r) (cQ L c)) from tell _ _];?k1 _ _ {s'.trans J,?_};[qz,ec,z7];rfl
  @s',rfl:=s';[show zc.length=(bD L n pt "column").length from ac.1,ze];#nZ:af Z1 (upd Z1 a (.lst ((bD L n pt "column").map λc=>V.str (pB C m pt (cQ L r) (cQ L c))))):=af.new hqa;#ea:(upd Z1 a (.lst ((bD L n pt "column").map λc=>V.str (pB C m pt (cQ L r) (cQ L c))))) a=!(.lst (xx L C m pt (bD L n pt "column") r)):=aD;#G:=s'.trans nZ;#k:Z a=£:=s'.free hqa;generalize upd Z1 a (.lst ((bD L n pt "column").map λc=>V.str (pB C m pt (cQ L r) (cQ L c))))=Z2 at nZ ea G;?{wp,_,_,O,O,G _ _ ew,kA (),?_};#naw:a≠wp:=(a0 ew k).symm;?{ws++[.ref a],_,O,(d.trans G).wr g4,aD,?_,?_,λb hb=>?_}
  .[tk]
   ?AN.snoc (ME W λv i hv g=>?_) {a,O,(D.trans d).free k,by[ax naw];!ea};@b,rfl,h1,h2:=g;!{b,O,h1,by[ax (ne b hv).2.2];!G _ _ h2}
  .?List.nodup_append.mpr {nd,by simp,λx hx y hy z=>?_}
   [qx.mp hy]at z;£z;@i,_,b,e,_,h2:=W.mem hx;&e;[k]at h2;&h2
  .@z|z:=zh.mp hb
   .!ne b z
   .&qx.mp z
    !⟨(a0 (d _ _ p) k).symm,(a0 (d _ _ o) k).symm,naw⟩
 .rintro σ Z ⟨ws,u6,rfl,d,ew,W,nd,ne⟩
  [show zr.length=(bD L n pt "row").length from ar.1,ze]at W;?{_,O,_,O,_,O,aF rfl,λq H9 g9 s9 e9=>?_};#f:=d.trans s9;!kk H9 q S U wp zr zc ws (D.trans f) ((D.trans d).free g9) e9 g1 (s1.free g2) (D.free g4) nrc nrw ncw (f _ _ p) (f _ _ o) (s9 _ _ ew) (X.imp λv i g=>g.ab f.ab) (Y.imp λv i g=>g.ab f.ab) (W.imp λv i g=>g.same s9) nd ne
§BI(T:Txt K mg tk)(F:FO K mg "may_read" oN)(e:×zj):×zY:=by
 ?aN F Bk (zF λ_ _ _ _=>rfl) {} λfa f A outer s H vs Q E g h=>?_;#d:(A.deeper (envOfC "may_read" (ag oN) ↑s fa f)).units+1<cLine:=cT g;?{_,(aE (aO (HX (ce Jr (vv 2) dB) (Lg (cl e g (ac (vv 1) (ac (cV d (vv 0) aQ (λ_ _=>rfl)) (ac (cV d (vv 0) aQ (λ_ _=>rfl)) (ac (vv 2) (a2 (vv 3) aQ)))))))))),?_};@a,b,c,rfl,i:=h;!{_,O,O,_,O,cW (qI rfl) i}
§BQ(T:Txt K mg tk)(F:FO K mg "told_of_signs" iY)(gfCa:×kI)(gfCb:×oz)(gfBt:×oE)(gfAe:×xS):×zH:=by
 ?aN F mR (wQ λ_ _ _=>rfl) {} λfa cdv A outer s H vs Q E hr h=>?_;#hu1:(A.deeper (envOfC "told_of_signs" (ag iY) ↑s fa cdv)).units+1<cLine:=cT hr
 ?{_,(aj (sn mR.nd 3 (cl gfCb hr (a2 (vv 0) (vv 1))))
   (aj (sm mR.nd 4 (cl gfBt hr (a1 (vv 3))))
   (aj (sm mR.nd 5 (cl gfAe hr (ac (vv 0) (a2 (vv 1) (vv 3)))))
   (aj (sn mR.nd 6 jV)
   (aj (fo (il (cl gfCa hr (a2 (vv 0) (vv 1)))) (gm mR.nd 7)
   (aj (uK (i:=8) mR.nd rfl (Or.inl rfl) (own:=["kind"]) (fr:=[("telling",5),("seats",4),("name",7)]) rfl (il (cb (QG (xh hr) hr.hd) T.cU boot_sorted (a1 (vc 5)))) {O,∅,∅} (jX (ag iY) ["facts","part","place","row","seats","telling","told","name","marks"] rfl rfl (λ_ h=>fJ h) ∅ ∅ ∅) (λ_ _ _=>(cN (i:=0) (by ¤List.Nodup (["kind","telling","seats","name"]:#R9);decide +kernel) rfl (Or.inl rfl))) (λ_=>mM rfl) (λ_ _ _=>dI) (λ_ _ _=>(xi (cV hu1 (vc 1) (vv 0) (λ_ _=>rfl)) (dE (cO hr) (vc 2) (vc 3) (λ_ _=>rfl)))))
   (aE (jY (cO hr) (vv 6) (vc 7) (tO (ag iY) yI [("place",2)] (il (vv 8)) (λ_ _ _=>(fB (PW.pt (jQ (ck IH (vv 0) dB) (jJ (ck IH (xt (vv 0)) dB)))))) (λ_ _ _=>(a9 (a2 (xt (vv 0)) (xu (vv 0) (vc 1)))))) rfl))))
   (aE (aO (vv 6)))))))),?_}
 @fa,F,S,n,M,m,N,q,xs,ms,ns,vp,pt,J,rfl,fs,gvp,L,hm,kk:=h;#W:=fs.ws;#WM:=fs.wm;#inj:Inj (cj S) (aG S n pt):=λi hi j hj=>W.inj i (mK W hi) j (mK W hj)
 #hml:ms.length=m:=by[fs.ma.1,zo]
 ?{_,O,_,O,fa,vp,pt,S,n,O,fs.fg,gvp,L,λH1 rp rv s1 g1 e1 ar=>?_};?{_,O,rp,rv,cj S,aG S n pt,O,e1,ar,lM W,inj,qg (iE W) W.cI,λH2 dq kvs s2 g2 e2 hse=>?_};#s02:=s1.trans s2;?{_,O,_,O,_,O,fa,F,S,n,M,m,N,q,xs,ms,ns,vp,pt,rp,rv,O,fs.same s02,gvp.ab s02.ab,L,s2 _ _ e1,ar.imp (λv i g=>NM.ab g s2.ab),λH3 lq tv s3 g3 e3 tk=>?_};#s03:=s02.trans s3;¢D H4 g4 s4 e4;#s04:=s03.trans s4;#gtq:H D=£:=s03.free g4;?{_,O,_,O,fa,vp,pt,S,n,O,(fs.same s04).fg,gvp.ab s04.ab,L,λH5 aq av s5 g5 e5 aa=>?_};#s05:=s04.trans s5
 #hal:av.length<=1400:=by[aa.1];!qg (we _ _) (qg (iE W) W.cI)
 #G:=s5 _ _ e4;#naq:aq≠D:=(a0 e4 g5).symm;#ndq:dq≠D:=a0 (s3 _ _ e2) g4;#nlq:lq≠D:=a0 e3 g4;#edq5:=(s4.trans s5) _ _ (s3 _ _ e2);#elq5:=(s4.trans s5) _ _ e3;#ma5:=fs.ma.imp λv i g=>MN.ab g s05.ab;#knd:(kinds M (aJ M m pt)).Nodup:=K4 _ [] vi;#hmp:(aJ M m pt).length<=63:=qg (qg (we _ _) (by[zo];!qe _)) hm;#hkl:(kinds M (aJ M m pt)).length<=63:=qg (vM _ []) (by ¤0+_<=63;¥);#hin:∀i∈aJ M m pt,i<m:=λi hi=>qo.mp (zk.mp hi).1
 #htv:(tv.map λe=>kV e.1)=(kinds M (aJ M m pt)).map V.str:=by
  #:=congrArg (List.map kV) tk.keys;[z9,z9]at this;!this
 #hkey:∀kd∈kinds M (aJ M m pt),PyData.strOk kd=¶:=λkd p=>by
  rcases(By _ []).mp p with z|⟨i,h1,h2⟩
  .&z
  .[←h2];!(WM.lay i (hin i h1)).2.2.1
 #keys:KeysAre ((kinds M (aJ M m pt)).map .str) 1:=by
  ?{dD λd hd=>?_,λd hd=>?_,λx hx y f=>?_,λd hd=>?_}
  .@k,p,rfl:=qf.mp hd;!hkey k p
  .@k,p,rfl:=qf.mp hd;trivial
  .@k,p,rfl:=qf.mp hx
   @k',hk',rfl:=qf.mp f;rfl
  .@k,p,rfl:=qf.mp hd;!qv 60
 #hsl:(fe (kinds M (aJ M m pt))).length<=63:=by[(pO _).length_eq];!hkl
 ?{aq,O,{_,aA.of e5},eH (xs:=av) (λj σ Z=>∃(R:#(KD×V×V)) (u7 u8:Option V),σ=[!(.ref fa),!vp,!(.int (if J then 5 else 4)),!(.ref rp),!(.ref dq),!(.ref lq),!(.ref D),u7,u8]/\af (del H5 D) Z/\Z D=!(.dG R)/\jZ (cj S) (λi=>wK M J (aG S n pt) (aJ M m pt) ((aG S n pt).idxOf i)) (λa=>H a=£/\a≠D) Z R ((bC S n pt).take j)/\(R.map (·.2.2)).Nodup)
  {[],none,none,O,kG,G,{O,λj e i z=>nomatch z},vi} (λj σ Z _ ⟨_,_,_,_,r,_⟩=>aA.of (DP.to r e5 naq)) ?_ ?_}
 .rintro j x σ Z hx ⟨R,u7,u8,rfl,sZ,eZ,td,nd0⟩
  @i,ei,zI:=aa.at hx
  #tZ:ai H5 Z:=λa ys e=>DP.to sZ e (λz=>by[z,G]at e;&e)
  #nm:=NM.ab zI tZ;#hir:i∈aG S n pt:=(zk.mp (qw ei)).1;#hjl:j<(bC S n pt).length:=(qk.mp ei).1;#hp:(aG S n pt).idxOf i<(aG S n pt).length:=bv hir;#edqZ:=DP.to sZ edq5 ndq;#elqZ:=DP.to sZ elq5 nlq
  #tkZ:TK M (aG S n pt) (aJ M m pt) ms (λ_=>True) Z tv:={tk.keys,λkd p=>by
   @a,h1,_,h3:=tk.val kd p;#h5:=(s4.trans s5) _ _ h3
   !{a,h1,trivial,DP.to sZ h5 (λz=>by[z,G]at h5;&h5)},tk.ne}
  ?{_,O,lq,tv,(kinds M (aJ M m pt)).map .str,1,O,.inl elqZ,by[htv];!(HB _).dv,keys,by #:=congrArg List.length tk.keys;[qj,qj]at this;¥,λsq Z1 ix g1 s1 six e1=>?_};[htv,BW knd six]at e1;?{sq,O,{_,aA.of e1},c7 (xs:=(fe (kinds M (aJ M m pt))).map V.str) (cK (by[qj];¥)) (λU ys X=>X=Z1/\ys=((fe (kinds M (aJ M m pt))).take U).map λkd=>mV ms (tell M (aG S n pt) (aJ M m pt) kd ((aG S n pt).idxOf i))) {O,O} (λ_ _ X s'=>by[s'.1];!aA.of e1) (λU y ys X K1 K0 f s' k1 k0=>?_) λX np ys s' hyl hnq=>?_}
  .@rfl,rfl:=s'
   [qu]at f
   cases p:(fe (kinds M (aJ M m pt)))[U]? with
   |none=>rw[p]at f;&f
   |some kd =>
    [p]at f;&f;#hkm:kd∈kinds M (aJ M m pt):=(pO _).mem_iff.mp (qw p);@a,h1,_,h3:=tkZ.val kd hkm;?dH (B:=K0 X) ?_;?{_,O,_,O,lq,.ref a,O,.inl {tv,.inr kd,.inl (s1 _ _ elqZ),O,h1.symm},_,O,_,O,dq,kvs,.tup (cj S i),_,O,.inl (s1 _ _ edqZ),NM.ab nm s1.ab,hse.2 i hir,a,_,_,_,O,O,aA.of (s1 _ _ h3),xH (j:=(aG S n pt).idxOf i) (v:=mV ms (tell M (aG S n pt) (aJ M m pt) kd ((aG S n pt).idxOf i))) ?_,k1 _ _ {O,?_}}
    .¶iI
     [qu,yq hp];rfl
    .[qz,p,z7]
     rfl
  @rfl,hys:=s';[qj,ze]at hys;#nX:af X (upd X np (.lst ys)):=af.new hnq;#eX:(upd X np (.lst ys)) np=!(.lst ys):=aD;generalize upd X np (.lst ys)=Z2 at nX eX;#I:=s1.trans nX;#ma2:AN (MN S M Z2) ms (List.range m):=ma5.imp λv i g=>MN.ab g (tZ.trans I.ab)
  #hyl2:ys.length<=63:=by[hys,qj];!hsl
  ?{_,O,np,O,{_,aA.of eX},c7 (xs:=ys) (cK ()) (λU zs X2=>af Z2 X2/\cx X2 zs (((fe (kinds M (aJ M m pt))).take U).filterMap λkd=>Ff M J (tell M (aG S n pt) (aJ M m pt) kd ((aG S n pt).idxOf i)))) {af.refl _,.nil} (λ_ _ X2 s'=>aA.of (s'.1 _ _ eX)) (λU y zs X2 K1 K0 f s' k1 k0=>?_) λX3 lp zs s' hzl hlq=>?_}
  .@s',dz:=s'
   [hys,qu]at f
   cases p:(fe (kinds M (aJ M m pt)))[U]? with
   |none=>rw[p]at f;&f
   |some kd =>
    [p]at f;#f:=qJ f;#f:mV ms (tell M (aG S n pt) (aJ M m pt) kd ((aG S n pt).idxOf i))=y:=f
    #nxt:∀{Y:Hp},af Z2 Y->cx Y zs (((fe (kinds M (aJ M m pt))).take U).filterMap λkd=>Ff M J (tell M (aG S n pt) (aJ M m pt) kd ((aG S n pt).idxOf i)))->Ff M J (tell M (aG S n pt) (aJ M m pt) kd ((aG S n pt).idxOf i))=£->af Z2 Y/\cx Y zs (((fe (kinds M (aJ M m pt))).take (U+1)).filterMap λkd=>Ff M J (tell M (aG S n pt) (aJ M m pt) kd ((aG S n pt).idxOf i))):=λ{Y} a b c=>{a,by
     [GR p,c];¤cx _ _ (_++[]);[wx]
     !b}
    cases ht:tell M (aG S n pt) (aJ M m pt) kd ((aG S n pt).idxOf i) with
    |none =>
     [ht]at f;£f;?{_,O,O,_,O,?_};!bV rfl (bV rfl (k0 _ (nxt s' dz (by[ht];rfl))))
    |some k =>
     [ht]at f;#hkm:k<m:=hin k (F4 ht).1;obtain⟨v,hv⟩:∃v,ms[k]?=!v:={_,qh (by[hml];!hkm)}
     #hyv:v=y:=by[←f];¤v=ms.getD k .aR;[zm,hv];rfl
     £hyv;#mn:=ma2.2 k v k hv (yq hkm);@b,vq,vb,ve,vn,kq,rfl,h1,h2,h3,h4,h5,h6:=MN.ab mn s'.ab;?{_,O,O,_,O,?_};?cW rfl ?_;?{_,O,b,_,4,_,O,O,aZ.of h1,O,O,_,O,?_}
     cases hvl:(M k).vl with
     |none =>
      !bV rfl (k0 _ (nxt s' dz (by[ht];¤(if(M k).vl=£ then none else _)=£;[qF hvl])))
     |some z =>
      refine cW rfl ?_
      #hto:Ff M J (tell M (aG S n pt) (aJ M m pt) kd ((aG S n pt).idxOf i))=!(.tuple [.str (M k).kd,p8 M J k]):=by
       [ht];¤(if(M k).vl=£ then none else _)=_;[qB (by[hvl];!°)]
      #fin:∀{Y:Hp} {tp:R0} {vu:V},af X2 Y->Y tp=!(.tup [.str (M k).kd,vu])->DT Y vu (p8 M J k)->af Z2 Y/\cx Y (zs++[.ref tp]) (((fe (kinds M (aJ M m pt))).take (U+1)).filterMap λkd=>Ff M J (tell M (aG S n pt) (aJ M m pt) kd ((aG S n pt).idxOf i))):=λ{Y tp vu} a b c=>{s'.trans a,by
       [GR p,hto]
       !EW (.tup b (.cons (.str _) (.cons c .nil))) (dz.ab a.ab)}
      cases J with
      |false=>!{_,O,b,_,3,_,O,O,aZ.of h1,O,_,O,_,O,b,_,4,_,O,O,aZ.of h1,O,aF rfl,λtp Y gY sY eY=>k1 _ _ (fin sY eY (by ¶p8;[hvl];!.str z))}
      |true=>!{_,O,b,_,3,_,O,O,aZ.of h1,O,_,O,_,O,b,_,5,_,O,O,aZ.of h1,O,aF rfl,λtp Y gY sY eY=>k1 _ _ (fin sY eY (aM (h5.ab sY.ab)))}
  @s',dz:=s';[show ys.length=(fe (kinds M (aJ M m pt))).length by[hys,qj],ze]at dz;#n3:af X3 (upd X3 lp (.lst zs)):=af.new hlq;#e3':(upd X3 lp (.lst zs)) lp=!(.lst zs):=aD;#dz3:=cx.ab n3.ab dz;#C:af Z (upd X3 lp (.lst zs)):=(I.trans s').trans n3;#glp:Z lp=£:=(I.trans s').free hlq;generalize upd X3 lp (.lst zs)=X4 at n3 e3' dz3 C;#nlp:lp≠D:=(a0 eZ glp).symm;#hklen:=td.len
  #hnew:∀x∈R,x.1≠KD.tup (cj S i):=λx hx e=>by
   #hm1:x.1∈R.map (·.1):=qf.mpr {x,hx,O};[td.keys]at hm1;@i',hi',e':=qf.mp hm1;[e]at e';#e2:=KD.tup.inj e';#hi'r:i'∈aG S n pt:=(zk.mp (yj hi')).1;#:=inj i' hi'r i hir e2;£this;#nd:(bC S n pt).Nodup:=(lM W).sublist m8;@t,ht1:=jf hi'
   #ht2:t<j:=by #:=(qk.mp ht1).1;[wv]at this;¥
   [ki ht2]at ht1;#a1:=An nd ht1;#a2:=An nd ei;¥
  ?{_,O,_,O,D,R,.tup (cj S i),O,C _ _ eZ,NM.ab nm C.ab,kA (by[hklen,wv];#:=aa.1;¥),?_};[E6 _ _ hnew];#tw:ai X4 (upd X4 D (.dG (R++[(.tup (cj S i),x,.ref lp)]))):=ai.wd (C _ _ eZ);?{_,_,_,O,(af.trans sZ C).wr dV,aD,?_,td.wW nd0 glp};[qz,ei];?jZ.snoc ((td.same C).to tw (λa zs' hb e=>by[ax hb.2];!e) λ_ h=>h) (NM.ab nm (C.ab.trans tw)) {?_,nlp} (by[ax nlp];!e3') (dz3.ab tw);#:=sZ.free glp;[bR nlp]at this;!s05.free this
 .rintro σ Z ⟨R,u7,u8,rfl,sZ,eZ,td,nd0⟩
  [show av.length=(bC S n pt).length from aa.1,ze]at td;!{_,O,kk Z D R (λb o e=>DP.to sZ (s05 _ _ e) (a0 e gtq)) gtq eZ td nd0}
§AD(T:Txt K mg tk)(F:FO K mg "notes_of" iT)(gfBa:×xR)(gfCa:×kI)(gfCb:×oz)(gfBt:×oE)(gfBy:×tM):×uC:=by
 ?aN F mD (iP λ_ _=>rfl) {} λfa cdv A outer s H vs Q E hr h=>?_;#hu1:(A.deeper (envOfC "notes_of" (ag iT) ↑s fa cdv)).units+1<cLine:=cT hr
 ?{_,(aj (sm mD.nd 2 (cl gfBt hr (a1 (cl gfCb hr (a2 (vv 0) (vc 1))))))
   (aj (sn mD.nd 3 (cl gfCa hr (a2 (vv 0) (vc 1))))
   (aj (sn mD.nd 4 (bJ cS))
   (aj (fo (il (J9 gfBa hr T.cU boot_sorted (a1 (tO (ag iT) xK [("part",1)] (il (cV hu1 (vv 0) aQ (λ_ _=>rfl))) (λ_ _ _=>(fB (ck (FI hr) (xt (vv 0)) (vc 1)))) (λ_ _ _=>(vv 0)))))) (gn mD.nd 5)
   (aj (sm mD.nd 6 (cl gfBy hr (ac (vc 2) (a2 (xt (vv 5)) (xt (vv 5))))))
   (aj (uK (i:=7) mD.nd rfl (Or.inl rfl) (own:=["name"]) (fr:=[("between",6),("seats",2)]) rfl (il (vv 3)) {O,∅,∅} (jX (ag iT) ["facts","part","seats","alive","told","note","between","under"] rfl rfl (λ_ h=>fJ h) ∅ ∅ ∅) (λ_ _ _=>(cN (i:=0) (by ¤List.Nodup (["name","between","seats"]:#R9);decide +kernel) rfl (Or.inl rfl))) (λ_=>mM rfl) (λ_ _ _=>(fB (Nb yR zb (xt (vc 1)) (dE (cO hr) (vc 2) (vv 0) (λ_ _=>rfl)) (xt (vc 1))))) (λ_ _ _=>(vv 0)))
   (aE (ap (vv 4) (a1 (a9 (ac (xt (vv 5)) (a2 (xt (vv 5)) (rE (ck eB (cb cZ T.bQ boot_len (a1 (vv 7))) aB) (xl (vv 7)) dB))))))))))
   (aE (aO (vv 4))))))),?_}
 @fa,F,S,n,M,m,N,q,xs,ms,ns,vp,pt,rfl,fs,gvp,G,kk:=h;#W:=fs.ws;#WN:=fs.wn;#inj:Inj (cj S) (aG S n pt):=λi hi j hj=>W.inj i (mK W hi) j (mK W hj);#sin:∀{d:Sd},dX S n pt d->pN (aG S n pt) d:=λo i b z=>(lV W).mpr (o i b z)
 #hnl:ns.length=q:=by[fs.na.1,zo]
 #fewq:=WN.cI;?{_,O,_,O,fa,vp,pt,S,n,O,fs.fg,gvp,G,λH1 rp rv s1 g1 e1 ar=>?_};?{rp,rv,cj S,aG S n pt,O,e1,ar,lM W,inj,qg (iE W) W.cI,λH2 dq kvs s2 g2 e2 hse=>?_};#s02:=s1.trans s2;?{_,O,_,O,fa,vp,pt,S,n,O,(fs.same s02).fg,gvp.ab s02.ab,G,λH3 aq av s3 g3 e3 aa=>?_};#s03:=s02.trans s3
 #hal:av.length<=1400:=by[aa.1];!qg (we _ _) (qg (iE W) W.cI)
 ?{aF rfl,λc H4 g4 s4 e4=>?_};#s04:=s03.trans s4;#f4:=fs.same s04;?{_,O,fa,.ref (F 5),O,.inl {cE F 9,.inr "notes",f4.dk,O,(cR F 5 ⋯).symm},F 5,O,{_,aA.of f4.nl},c7 (xs:=ns) (cK ()) (λj ys H'=>H'=H4/\AN (NN S N H4) ys (((List.range q).take j).filter λi=>decide ((N i).pt=pt))) {O,.nil} (λ_ _ H' s'=>by[s'.1];!aA.of f4.nl) (λj x ys H' K1 K0 hx s' k1 k0=>?_) λH5 lp ys s' hy hq=>?_}
 .@rfl,ay:=s'
  @i,ei,nn:=f4.na.at hx;#hin:i<q:=qo.mp (qw ei);#nn':=nn;@b,vq,vb,ve,vn,kq,rfl,h1,h2,h3,h4,h5,h6:=nn
  #tk:(List.range q).take (j+1)=(List.range q).take j++[i]:=by[qz,ei];rfl
  ?{_,O,b,_,0,_,O,O,aZ.of h1,O,_,O,tD (N i).pt,tD pt,(aM h2).dv,(aM (gvp.ab s04.ab)).dv,(WN.lay i hin).1,G,qg (yb _ _) (qg (ee _) ⋯),_,O,?_};#eqp:(if false=¶ then not (PyData.eqv (tD (N i).pt) (tD pt)) else PyData.eqv (tD (N i).pt) (tD pt))=decide ((N i).pt=pt):=gV _ _
  ¿hp:(N i).pt=pt
  .?cW (by[eqp];!qI hp) {_,O,k1 _ _ {O,?_}}
   [tk];!AN.pick (vs:=ns) ay nn' (qI hp)
  .?bV (by[eqp];!decide_eq_false hp) (k0 _ {O,?_})
   [tk];!ay.skip (by ±hp)
 @rfl,ay:=s';[hnl,yr (by[zo];!qe _)]at ay;#ay:AN (NN S N H5) ys (bY N q pt):=ay;#n5:af H5 (upd H5 lp (.lst ys)):=af.new hq;#e5:(upd H5 lp (.lst ys)) lp=!(.lst ys):=aD;#B:=ay.imp λv i g=>NN.ab g n5.ab;generalize upd H5 lp (.lst ys)=H6 at n5 e5 B;#hin:∀i∈bY N q pt,i<q/\(N i).pt=pt:=λi hi=>{qo.mp (zk.mp hi).1,qO (zk.mp hi).2}
 #mup:(bY N q pt).Pairwise λa b=>bT (.tuple [.int (N a).ka,.int (N a).kb]) (.tuple [.int (N b).ka,.int (N b).kb])=¶ :=
  ((ui q).imp_of_mem λ{a b} ha hb h=>i6 (WN.up a b h (qo.mp hb))).filter _
 #keys:KeysAre ((bY N q pt).map λi=>.tuple [.int (N i).ka,.int (N i).kb]) 2:=uk λd hd=>by
  @i,_,rfl:=qf.mp hd;!.inl {_,_,O}
 #hyl:ys.length<=70:=by[hnl]at hy;¥
 ?{lp,ys,(bY N q pt).map λi=>.tuple [.int (N i).ka,.int (N i).kb],2,O,aA.of e5,by[qj,B.1],keys,{(),.inr (wb.mpr mup)},λmm y d H' Q' q1 q2 s q=>?_,λsq H7 ix g7 s7 six e7=>?_}
 .@k,ek,nn:=B.at q1
  [qu,ek]at q2;&qJ q2;!{y,S,N,k,O,nn.ab s.ab,λkv hk=>q H' _ (af.refl _) hk.dv}
 #hix:∀i∈ix,i<ys.length:=λi hi=>by
  #:=(six.1.mem_iff).mp hi;[qo,qj]at this;[B.1];!this
 #a2:=B.ix ix hix;[xE (.refl _) mup six]at a2;generalize ix.map (λi=>ys.getD i .aR)=zs at e7 a2
 #hzl:zs.length<=70:=by[a2.1,←B.1];!hyl
 #a7:=a2.imp λv i g=>NN.ab g s7.ab;#J:=n5.trans s7;#s07:=s04.trans J;#Y:H6 c=!(.lst []):=n5 _ _ e4;#etp:H7 c=!(.lst []):=s7 _ _ Y;#gtp:H c=£:=s03.free g4;#nsq:sq≠c:=(a0 Y g7).symm;#ndq:dq≠c:=a0 (s3 _ _ e2) g4;#naq:aq≠c:=a0 e3 g4;#edq7:H7 dq=_:=J _ _ (s4 _ _ (s3 _ _ e2));#eaq7:H7 aq=_:=J _ _ (s4 _ _ e3);#aa7:AN (NM (cj S) H7) av (bC S n pt):=aa.imp λv i g=>NM.ab g (s4.trans J).ab
 ?{sq,O,{_,aA.of e7},eH (xs:=zs) (λj σ Z=>∃(tv:#V) (u5 u6 u7:Option V),σ=[!(.ref fa),!vp,!(.ref dq),!(.ref aq),!(.ref c),u5,u6,u7]/\af (del H7 c) Z/\Z c=!(.lst tv)/\tv.length=j/\cx Z tv (((bY N q pt).take j).map (uF S (aG S n pt) N)))
  {[],none,none,none,O,kG,etp,O,.nil} (λj σ Z _ ⟨_,_,_,_,_,r,_⟩=>aA.of (DP.to r e7 nsq)) ?_ ?_}
 .rintro j x σ Z hx ⟨tv,u5,u6,u7,rfl,sZ,eZ,htl,dt⟩
  @i,ei,nn:=a7.at hx
  #hj:j<70:=by #:=(qk.mp hx).1;¥
  @hi,hpt:=hin i (qw ei);#tZ:ai H7 Z:=ai.cut etp sZ;@b,vq,vb,ve,vn,kq,rfl,h1,h2,h3,h4,h5,h6:=NN.ab nn tZ
  #hsb:dX S n pt (N i).b:=by[←hpt];!(WN.sd i hi).1
  #hse':dX S n pt (N i).e:=by[←hpt];!(WN.sd i hi).2
  #edqZ:=DP.to sZ edq7 ndq;?{_,O,_,O,b,_,1,_,O,O,aZ.of h1,O,_,O,b,_,2,_,O,O,aZ.of h1,O,dq,kvs,S,aG S n pt,vb,ve,(N i).b,(N i).e,O,edqZ,hse,h3,sin hsb,h4,sin hse',λZ1 bq s1 e1=>?_};#U:=s1 _ _ (DP.to sZ eaq7 naq);#aaZ:AN (NM (cj S) Z1) av (bC S n pt):=aa7.imp λv i g=>NM.ab g (tZ.trans s1.ab);?{_,O,aq,O,{_,aA.of U},c7 (xs:=av) (cK ()) (λj' us X=>X=Z1/\AN (NM (cj S) Z1) us (((bC S n pt).take j').filter λk=>decide (bH (aG S n pt) (N i).b<=(aG S n pt).idxOf k/\(aG S n pt).idxOf k<max (bH (aG S n pt) (N i).b) (bH (aG S n pt) (N i).e)))) {O,.nil} (λ_ _ X s'=>by[s'.1];!aA.of U) (λj' y us X K1 K0 hy s' k1 k0=>?_) λX np I s' hyl hnq=>?_}
  .@rfl,au:=s'
   @k,ek,nm:=aaZ.at hy;#hk:k∈aG S n pt:=(zk.mp (qw ek)).1
   #tk:(bC S n pt).take (j'+1)=(bC S n pt).take j'++[k]:=by[qz,ek];rfl
   ?{_,O,bq,_,0,_,O,O,aZ.of e1,O,_,O,_,O,dq,kvs,.tup (cj S k),_,O,.inl (s1 _ _ edqZ),nm,hse.2 k hk,_,_,O,O,_,O,?_}
   ¿hle:bH (aG S n pt) (N i).b<=(aG S n pt).idxOf k
   .?cW (qI ()) ?_
    ?{_,O,bq,_,1,_,O,O,aZ.of e1,O,_,_,O,O,_,O,?_}
    ¿hlt:(aG S n pt).idxOf k<max (bH (aG S n pt) (N i).b) (bH (aG S n pt) (N i).e)
    .?cW (qI ()) {_,O,k1 _ _ {O,?_}}
     [tk];!AN.pick (vs:=av) au nm (qI {hle,hlt})
    .?bV (decide_eq_false ()) (k0 _ {O,?_})
     [tk];!au.skip λz=>hlt (qO z).2
   .?bV (decide_eq_false ()) {_,O,bV rfl (k0 _ {O,?_})}
    [tk];!au.skip λz=>hle (qO z).1
  @rfl,au:=s';[show av.length=(bC S n pt).length from aa.1,ze]at au
  #au:AN (NM (cj S) X) I (ib S (aG S n pt) (N i).b (N i).e):=by
   [←QS (lM W)];!au
  #nX:af X (upd X np (.lst I)):=af.new hnq;#eX:(upd X np (.lst I)) np=!(.lst I):=aD;#t:=au.imp λv i g=>NM.ab g nX.ab;generalize upd X np (.lst I)=Z2 at nX eX t;#p:=s1.trans nX;#h1':=p _ _ h1;#hkey:uF S (aG S n pt) N i=.tuple [tD (N i).nm,.str (N i).kd,lO S (ib S (aG S n pt) (N i).b (N i).e).head?]:=rfl
  #tk:(bY N q pt).take (j+1)=(bY N q pt).take j++[i]:=by[qz,ei];rfl
  #L:∀{C:Hp} {tq:R0} {vu:V},af Z2 C->C tq=!(.tup [vn,.str (N i).kd,vu])->DT C vu (lO S (ib S (aG S n pt) (N i).b (N i).e).head?)->∃(tv':#V) (v5 v6 v7:Option V),[!(V.ref fa),!vp,!(.ref dq),!(.ref aq),!(.ref c),!(.ref b),!(.ref bq),!(.ref np)]=[!(.ref fa),!vp,!(.ref dq),!(.ref aq),!(.ref c),v5,v6,v7]/\af (del H7 c) (upd C c (.lst (tv++[.ref tq])))/\(upd C c (.lst (tv++[.ref tq]))) c=!(.lst tv')/\tv'.length=j+1/\cx (upd C c (.lst (tv++[.ref tq]))) tv' (((bY N q pt).take (j+1)).map (uF S (aG S n pt) N)):=λ{C tq vu} f D d3'=>by
   #R:=p.trans f;#tw:ai C (upd C c (.lst (tv++[.ref tq]))):=ai.wl (R _ _ eZ);?{_,_,_,_,O,(af.trans sZ R).wr dV,aD,by[qi,htl];rfl,?_};[tk,z7];?EW ?_ (dt.ab (R.ab.trans tw));!.tup (tw _ _ D) (.cons (aM (h5.ab (R.ab.trans tw))) (.cons (.str _) (.cons (d3'.ab tw) .nil)))
  ?{_,O,.inl {O,_,aA.of (p _ _ eZ)},_,O,b,_,4,_,O,O,aZ.of h1',O,_,O,b,_,3,_,O,O,aZ.of h1',O,_,O,np,I,O,.inl (aA.of eX),_,_,O,O,_,O,?_}
  cases hL:ib S (aG S n pt) (N i).b (N i).e with
  |nil =>
   [hL]at t L;#:I=[]:=yx.mp t.1;£this;?bV (decide_eq_false ⋯) {aF rfl,λtq C g3' f D=>{c,tv,_,O,O,(p.trans f) _ _ eZ,cF (),L f D .aR}}
  |cons k L' =>
   [hL]at t L
   cases I with
   |nil=>!absurd t.1 (by simp)
   |cons v0 I =>
    refine cW (qI (by ¤(0:Int)<((I.length+1:Nat):Int);¥)) {_,O,np,_,0,v0,O,O,aA.of eX,xH (j:=0) rfl,aF rfl,λtq C g3' f D=>{c,tv,_,O,O,(p.trans f) _ _ eZ,cF (),L f D (aM (NM.ab (t.2 0 v0 k rfl rfl) f.ab))}}
 .rintro σ Z ⟨tv,u5,u6,u7,rfl,sZ,eZ,htl,dt⟩
  [show zs.length=(bY N q pt).length from a2.1,ze]at dt;!{_,O,kk Z c tv (λb o e=>DP.to sZ (s07 _ _ e) (a0 e gtp)) gtp eZ dt}
§DE(T:Txt K mg tk)(F:LF K mg "all_inner_parts" rV a_)(hB:base.BuiltinsAt mg a_)(gfAv:×yP)(gfBm:×xT)(gfAc:×tG):×sM:=by
 ?GN F pZ (lR λ_=>rfl) {} λfa cdv A outer s H vs Q E hC Y h=>?_
 ?{_,(aj (sm pZ.nd 1 (cl gfAc Y (a1 (vv 0))))
   (aj (sn pZ.nd 2 (cl gfBm Y (a1 (vv 0))))
   (aj (sn pZ.nd 3 (cl gfAv Y (a2 (vv 0) (vv 2))))
   (aj (sn pZ.nd 4 jV)
   (aj (fo (il (Nt (k:=0) (y:="one") (z:="telling") (i:=1) rfl hC hB (Y.mono ⋯) (by rfl) T.cU boot_sorted {O,O,O,∅,O,O,∅} rfl rfl (λ_ h=>fJ h) rfl rfl (λ_ _ _ _ _=>rfl) (λ_ _ _ _ _ _ _ Y=>(xt (dE (cO Y) (vf 1) (vv 0) (λ_ _=>rfl)))) (a1 (cy (NK Y.hd) T.eF boot_list (a1 (vv 2)))))) (gn pZ.nd 5)
   (aE (bA (ck (pP (cO Y)) (vv 5) (vv 3)) (aE (ap (bm PySem.F.plainAttrs_dict PySem.F.slot_dict_setdefault PySem.F.type_dict_setdefault (Kp (cO Y)) (vv 4) (a2 (dE (cO Y) (vv 2) (vv 5) (λ_ _=>rfl)) (bJ cS))) (a1 (vv 5)))) cc)))
   (aE (aO (vv 4)))))))),?_}
 @fa,F,bs,es,cs,rs,cu,k,rfl,fb,hk,hl,tt,ma,kk:=h;#fq:=fb.fq (by ¥:k<=100);#XWt:=fq.xw;?{_,O,fa,es,rs,O,fq,λH1 tq kt s1 gtq etq akt=>?_};#f:=tt.same s1;#fb1:=fb.same s1;?{_,O,fa,es,rs,O,fb1.fq (),f.a,s1 _ _ ma,λH2 da kd zz s2a tb2 gda eda lS akd=>?_};#S:=lS.zw XWt
 #hstl:zz.length<=62:=by[lS.len];!hl
 @tt2,B:=f.RA s2a tb2;#fb2:=fb1.bI f B;#ma2:MA H2:=lN f B _ _ (s1 _ _ ma);?{_,O,_,O,fa,F,bs,es,cs,rs,cu,k,da,kd,zz,O,fb2,(),.inl eda,akd,S,ma2,λH3 qa kq g s3 C gqa eqa rcr snq=>?_};#tt3:=tt2.cut eda (λ_=>°) (λ_=>°) s3;#V:ai H2 H3:=mY eda (λ_=>°) s3;#etq2:=bI f B etq λ_=>°;#etq3:H3 tq=!(.dG kt):=s3 _ _ (by[bR (a0 etq gda)];!etq2);#akt3:=((akt.imp λe x q=>q.imp (R':=fx H2) (lN f B) λr=>r.ab (lN f B))).imp λe x q=>q.imp (R':=fx H3) V λr=>r.ab V;#R:=akd.imp λe x q=>q.imp (R':=h_ H3) V λr=>r.ab V
 #sH3:af (bP H (s2)) H3:=λb u e=>by
  #nb:¬s2 b:=λz=>by[dQ z]at e;&e
  [d_ nb]at e;!s3 _ _ (by[bR (a0 (s1 _ _ e) gda)];!c_ B (s1 _ _ e) nb)
 clear s3 V akd akt etq2 etq B s2a tb2 tt2 fb2 ma2 fb1 f s1;¢c H4 g4 s4 e4;?{_,O,da,kd,O,Rd.same C s4,by #:=R.1;¥,λlp H5 g5 s5 e5=>?_};#D:=s4.trans s5;#I:=tt3.same D;?{I.b,λH6 tb6 sd6=>?_};@tt6,s56:=I.Rt sd6 tb6;#J:∀{b:R0} {u:HO},H5 b=!u->(∀ps,u≠.cf ps)->H6 b=!u:=λe h=>bI I s56 e h;#t56:=lN I s56;#U:=D.ab.trans t56;#e6:=J e5 λ_=>°;#akt6:=akt3.imp λe x q=>q.imp (R':=fx H6) U λr=>r.ab U;#akd6:=R.imp λe x q=>q.imp (R':=h_ H6) U λr=>r.ab U;#etq6:=J (D _ _ etq3) λ_=>°;#L:=Qh akd6;?{.ref tq,O,lp,_,zz.map LW,2,O,aA.of e6,by[qj];!L.1.symm,Qx _,{by[L.1];¥,.inl (by[L.1];¥)},λm y d H' Q' hy hd s' kq'=>{y,O,?_},λq N ix gq s7 six e7=>?_}
 .@x,hx,gy:=L.at hy
  [qu,hx]at hd;&hd;@z,hz,ez,ka,kb:=lS.of (qw hx);#akt':=akt6.imp λe x q=>q.imp (R':=fx H') s'.ab λr=>r.ab s'.ab;@v,hv,b,vp,vo,vn,kq2,rfl,h1,h2,h3,h4,h5:=pK akt' XWt.nd hz;#gy:GK H6 (.tup x.pt) y:=gy;[ez]at gy;?{_,O,_,O,tq,kt,.tup z.pt,.ref b,O,.inl (s' _ _ etq6),gy.ab s'.ab,hv,b,_,3,.ref kq2,O,O,aZ.of h1,O,kq' H' _ (af.refl _) ?_};¤DV H' (.ref kq2) (.tuple [.int x.ka,.int x.kb]);[ka,kb];!.tup (aZ.of h5) (.cons (.int _) (.cons (.int _) .nil))
 @ms,am,hw,t:=QQ {[],[],[],0,0} L six;#hms:∀x,x∈ms↔x∈zz:=λx=>t.mem_iff;#hup:=Nv S Bj hw (t.nodup_iff.mpr (List.Pairwise.of_map (·.pt) (λa b h z=>h (by[z])) S.nd)) λx hx=>(hms x).mp hx
 #hml:ms.length<=62:=by[t.length_eq];!hstl
 #am7:=am.imp λv k z=>NP.ab z s7.ab;generalize ix.map (λi=>(kd.map (·.2.1)).getD i .aR)=zs at e7 am7 am;#t37:=U.trans s7.ab;#k37:∀{b:R0} {u:HO},H3 b=!u->(∀ps,u≠.cf ps)->N b=!u:=λe h=>s7 _ _ (J (D _ _ e) h);#eqa7:=k37 eqa λ_=>°;#o:N c=!(.dG []):=s7 _ _ (J (s5 _ _ e4) λ_=>°);#akd7:=R.imp λe x q=>q.imp (R':=h_ N) t37 λr=>r.ab t37
 #nda:da≠c:=λz=>by
  [z]at C;@y|⟨o',y⟩:=C <;> rw[g4]at y <;> &y
 #hda7:Rd N da (.dG kd):=by
  @y|⟨o',y⟩:=C
  .!.inl (k37 y λ_=>°)
  .!.inr ⟨o',k37 y λ_=>°⟩
 #nqa:qa≠c:=a0 eqa g4
 #nqi:q≠c:=λz=>by[z,J (s5 _ _ e4) λ_=>°]at gq;&gq
 #tt7:=tt6.same s7
 #b0:∀{b u},N b=!u->b≠c->(del N c) b=!u:=λe n=>by[bR n];!e
 ?{q,O,{_,aA.of e7},eH (xs:=zs) (λj σ X=>∃kvs u5,σ=[!(.ref fa),!(.ref tq),!(.ref da),!(.ref qa),!(.ref c),u5]/\af (del N c) X/\pF (GT g) (ms.take j) (del N c) X c kvs/\kvs.length<=j)
  {[],none,O,(λb u e=>kG _ _ e),{o,λp=>.inl {O,O},λk k' q z=>(by &z),λk q z=>(by &z)},qe _} (λj σ X _ ⟨_,_,_,s,_⟩=>aA.of (s _ _ (b0 e7 nqi))) ?_ ?_}
 .rintro j x σ X hx ⟨kvs,u5,rfl,W,id,hkl⟩
  @m,em,gx7:=am7.at hx;#hj:j<ms.length:=(qk.mp em).1;#hmm:=(hms m).mp (qw em)
  #htk:ms.take (j+1)=ms.take j++[m]:=by[qz,em];rfl
  #tX:ai N X:=mY o (λ_=>°) W;#gx:GK X (.tup m.pt) x:=GK.ab gx7 tX;?{_,O,_,O,qa,kq,.tup m.pt,O,.inl (W _ _ (b0 eqa7 nqa)),gx,_,O,?_};[qB qr];#ndm:=lP (S.pt m hmm).ne
  ¿M:GT g m.pt
  .?cW (by[←ndm];!snq.yes M) ?_
   #akX:=akd7.imp λe x q=>q.imp (R':=h_ X) tX λr=>r.ab tX;@v',hv',gv':=pK akX S.nd hmm
   #hdX:Rd X da (.dG kd):=by
    @y|⟨o',y⟩:=hda7
    .!.inl (W _ _ (b0 y nda))
    .!.inr ⟨o',W _ _ (b0 y nda)⟩
   ?⟨_,O,.inr (.inr (.inl ⟨O,.inr (.inr ⟨kvs,id.has⟩)⟩)),_,O,_,O,da,kd,.tup m.pt,v',O,hdX,gx,hv',aF rfl,λZ X4 gz sz ez=>?_⟩;#id4:=id.same sz;#s74:=W.trans sz;#f0:(del N c) Z=£:=W.free gz;#gv4:GK X4 (nd m.ou) v':=GK.ab gv' sz.ab;?{c,kvs,nd m.ou,v',.ref Z,O,O,id4.has,gv4,fW (),λu hu=>?_,λhu=>?_}
   .@⟨h1,_⟩|⟨q',vs,h1,h2,h3,h4⟩:=id4.each m.ou
    .[h1]at hu;&hu
    .[h1]at hu
     &hu
     #vl:vs.length<=62:=by
      [h3.1];!qg (we _ _) (by[wv];¥)
     ?{.inl {O,_,aA.of h2},_,O,q',vs,_,O,O,h2,fW (),?_};?{kvs,_,O,s74.wr h4,?_,()};[htk];!id4.old M h1 h2 (GK.ab gx sz.ab)
   .#nz:Z≠c:=λz=>by[z,id.has]at gz;&gz
    #ez1:(upd X4 c (.dG (pG kvs (nd m.ou) v' (.ref Z)))) Z=!(.lst []):=by[ax nz];!ez
    ?{.inl {O,_,aA.of ez1},_,O,Z,_,_,O,O,ez1,fW (by ¤0<=_;¥),?_}
    #hqn:∀k,vG kvs k≠some (.ref Z):=λk z=>by
     @xs,y:=id.live k Z z;[y]at gz;&gz
    ?{pG kvs (nd m.ou) v' (.ref Z),_,O,(s74.wr dV).wr f0,?_,qg (iK kvs _ _ _) (j3 hkl)};[htk];!id4.first M hu f0 ez hqn (GK.ab gx sz.ab)
  .?bV (by[←ndm];!snq.no M) {kvs,_,O,W,?_,()}
   [htk];!id.skip M
 .rintro σ X ⟨kvs,u5,rfl,W,id,hkl⟩
  [am7.1,ze]at id
  #fr7:∀{b},N b=£->H b=£:=λ{b} e=>by
   #h6:=s7.free e;#h5:=I.free s56 tt6 h6;!tt.free sH3 tt3 (D.free h5)
  #finn:H c=£:=tt.free sH3 tt3 g4;?{_,O,kk X c kvs zz g (λb u e=>?_) (tt7.cut o (λ_=>°) (λ_=>°) W) finn id.has {lS,rcr} λp hp=>?_}
  .#nb:¬s2 b:=λz=>by[dQ z]at e;&e
   #e3:=D _ _ (sH3 _ _ e);[d_ nb]at e;!W _ _ (b0 (s7 _ _ (c_ s56 e3 nb)) (a0 e finn))
  .#hI:=OK (G:=GT g) (p:=p) hup hms
   #:=id.each p;[lP hp.ne]at this;@⟨h1,h2⟩|⟨q',vs,h1,h2,h3,h4⟩:=this
   .[h2]at hI
    !.inl ⟨h1,hI⟩
   .?.inr ⟨q',vs,_,h1,fr7 ?_,h2,h3,hI⟩
    #nq:q'≠c:=λz=>by[z,id.has]at h2;&h2
    [bR nq]at h4;!h4
§D5(T:Txt K mg tk)(F:FO K mg "marks_of" rD)(b:×zH):×sR:=by
 ?aN F Dr (iP λ_ _=>rfl) {} λfa d A outer s H vs Q E e h=>?_;?{_,(aE (aO (cl b e (ac (vv 0) (a2 (vv 1) aB))))),?_};@fa,F,S,n,M,m,N,q,xs,ms,ns,i,pt,rfl,fs,c,a,f,g:=h;!⟨_,O,_,O,fa,F,S,n,M,m,N,q,xs,ms,ns,i,pt,false,O,fs,c,a,f,g⟩
§Ax(T:Txt K mg tk)(F:FO K mg "inner_parts" rP)(e:×sM):×zP:=by
 ?aN F Eh (iP λ_ _=>rfl) {} λfa J A outer s H vs Q E o h=>?_;?{_,(aE (aO (bm PySem.F.plainAttrs_dict PySem.F.slot_dict_get PySem.F.type_dict_get (iC (cO o)) (cl e o (a1 (vv 0))) (a2 (vv 1) (bJ cS))))),?_};@fa,F,bs,es,cs,rs,cu,k,G,p,rfl,V,I,S,i,ma,U,hp,r:=h;?{_,O,fa,F,bs,es,cs,rs,cu,k,O,V,I,S,i,ma,λH1 R kd t g m d N b f j=>?_};?{.inr (.inr (.inl {O,.inr (.inr {kd,b})})),_,O,aF rfl,λy H2 B a L=>?_};#n:af (bP H (s2)) H2:=m.trans a;#c:=d.same a;?{R,kd,.tup p,G,.ref y,O,O,a _ _ b,(U.ab (lN i m)).ab a.ab,?_};@⟨h1,h2⟩|⟨q,ws,l,h1,h2,C,M,D⟩:=j p hp
 .[h1]
  !r H2 y [] [] t g n c (i.free m d B) L f .nil h2
 .[h1]
  !r H2 q ws l t g n c h2 (a _ _ C) f (M.imp λv x z=>NP.ab z a.ab) D
§Cu(T:Txt K mg tk)(F:FO K mg "numbered_parts" nV)(gfAa:×sM)(gfAm:×yl)(gfBs:×zY):×yN:=by
 ?aN F mJ (wQ λ_ _ _=>rfl) {} λfa cdv A outer s H vs Q E hr h=>?_
 ?{_,(aj (sn mJ.nd 3 (cl gfAa hr (a1 (vv 0))))
   (aj (sn mJ.nd 4 (bJ cS))
   (aj (sn mJ.nd 5 (bJ (a1 (a9 (a2 (Co (v:=.ref cn) rfl T.cn rfl) aQ)))))
   (aj (p9 PassesOwn.never (ck eB (cb cZ T.bQ boot_len (a1 (vv 5))) aB) (aj (sm mJ.nd 6 (BO PySem.F.plainAttrs_list PySem.F.slot_list_pop PySem.F.type_list_pop HM (vv 5)))
   (aj (sn mJ.nd 7 (cl gfBs hr (ac (vv 0) (ac (vv 1) (a2 (vv 2) (xt (vc 6)))))))
   (aj (ap (vv 4) (a1 (aH QP (vc 6) (a9 (a1 (vv 7))))))
   (aE (bA (dA (vv 7)) (aj (sn mJ.nd 8 (Mg rfl (by rfl) T.eF (by rfl) T.dW (bm PySem.F.plainAttrs_dict PySem.F.slot_dict_get PySem.F.type_dict_get (iC (cO hr)) (vv 3) (a2 (xt (vc 6)) (bJ cS)))))
   (aE (mX (bm PySem.F.plainAttrs_list PySem.F.slot_list_extend PySem.F.type_list_extend Kq (vv 5) (a1 (iu (own:=["place","part"]) (fr:=[("coming",6)]) rfl (il (N5 (vv 8) (f' (et iq aB)))) {O,∅,∅} (jX (ag nV) ["facts","roll","hand","inner","told","to_come","coming","is_open","within"] rfl rfl (λ_ h=>fJ h) ∅ ∅ ∅) (λ_ _ _=>(jP (n:=2) rfl (de (cN (i:=0) (by ¤List.Nodup (["place","part","coming"]:#R9);decide +kernel) rfl (Or.inl rfl)) (de (cN (i:=1) (by ¤List.Nodup (["place","part","coming"]:#R9);decide +kernel) rfl (Or.inl rfl)) g_)))) (λ_=>pL rfl rfl ⋯) (λ_ _ _=>dI) (λ_ _ _=>(a9 (a2 (vv 1) (cl gfAm hr (a2 (xt (vc 2)) (vv 0)))))))))))) cc))))))
   (aE (aO (vv 4))))))),?_}
 @fa,F,d,r,rfl,fz,tt,ma,kk:=h;@bs,es0,cs,k,fb,hk,hl:=fz.fb;#W:=fz.xw;?{_,O,fa,F,bs,es0,cs,d.rs,d.cu,k,O,fb,hk,hl,tt,ma,λH1 da kd A g s1 t1 g1 e1 dtr inn=>?_};#ma1:MA H1:=bI tt s1 ma (λ_=>°);#S:=dtr.1.zw W;#nA:=S.nd;#hN:=S.pt
 #lA:A.length<=62:=by[dtr.1.len];!hl
 #inU:∀p l,p7 A (GT g) p l->(∀x∈l,x∈A/\x.ou=p)/\l.Nodup:=λp l h=>{λx N=>let⟨a,b,_⟩:=(h.mem x).mp N;{a,b},h.up.imp λ{a b} hl z=>by[z]at hl;!GG _ _ hl}
 ?{aF rfl,λta H2 g2 s2 e2=>{aF rfl,λtq H3 g3 s3 e3=>{aF rfl,λq H4 g4 s4 e4=>?_}}};#s14:=(s2.trans s3).trans s4
 #nt:ta≠q:=λz=>by[←z,s3 _ _ e2]at g4;&g4
 #ft:H1 ta=£:=g2;#fu:H1 q=£:=(s2.trans s3).free g4;?{λmm σ L=>∃C es Us us u6 u7 u8,σ=[!(.ref fa),!r,some .aR,!(.ref da),!(.ref ta),!(.ref q),u6,u7,u8]/\af H1 L/\L ta=!(.lst C)/\AL (TN L) C es/\L q=!(.lst Us)/\AL (UN L) Us us/\Jz A (es.map (·.1)) (us.map (·.1))/\(∀x∈us,x.2.length<=4 * es.length)/\(∀out,Wk A (GT g) us.reverse out->Wk A (GT g) [(bE,"")] (es++out))/\mm+es.length=64,{64,[],[],[.ref tq],[(bE,"")],none,none,none,O,s14,s4 _ _ (s3 _ _ e2),.nil,e4,.cons {tq,_,O,s4 _ _ e3,{_,O,s14 _ _ ma1}} .nil,{by simp,λc hc=>.inl (by ±hc)},λx N=>by[List.mem_singleton.mp N];!Nat.le_refl _,(λout h=>h),O},?_};rintro mm σ L ⟨C,es,Us,us,u6,u7,u8,rfl,s5,eT,aT,eU,aU,J,hz,hw,hm⟩;#hJ:=J.len;[qj,qj]at hJ;#hTl:C.length=es.length:=aT.1;?{_,O,q,_,O,.inl (aA.of eU),_,_,O,O,_,O,?_};@z|⟨us',⟨u,z0⟩,z⟩:=jb us
 .£z
  #h0:Us=[]:=yx.mp aU.1;£h0;?bV rfl ?_;!{_,O,kk L ta C es (s1.trans s5) (t1.same s5) (tt.free s1 t1 ft) eT aT {A,g,dtr,by #:=hw [] .nil;rwa [wx]at this} () (by #:=J.nd;rwa [j7,wx]at this)}
 [jc]at z;£z;[qi,qt]at hJ;@f,vx,rfl,aU',b,vp,rfl,h1,h2:=xo aU;#hUl:f.length=us'.length:=aU'.1;#pu:Pn u:=J.pn hN (by simp);#hzu:z0.length<=4 * es.length:=hz (u,z0) (by simp);?cW (qI (by ¤(0:Int)<((f++[V.ref b]).length:Nat);[qi,qt];¥)) ?_;?{λσ' H'=>∃C Us us u6 u7 u8,σ'=[!(.ref fa),!r,some .aR,!(.ref da),!(.ref ta),!(.ref q),u6,u7,u8]/\af H1 H'/\H' ta=!(.lst C)/\AL (TN H') C (es++[(u,z0)])/\H' q=!(.lst Us)/\AL (UN H') Us us/\Jz A (es.map (·.1)++[u]) (us.map (·.1))/\(∀x∈us,x.2.length<=4 * (es.length+1))/\(∀out,Wk A (GT g) us.reverse out->Wk A (GT g) [(bE,"")] ((es++[(u,z0)])++out)),λσ' H' ⟨Ts',Us2,us2,v6,v7,v8,b1,b2,b3,b4,b5,b6,b7,b8,b9⟩=>{mm - 1,(),Ts',es++[(u,z0)],Us2,us2,v6,v7,v8,b1,b2,b3,b4,b5,b6,by[z7];!b7,by[qi];!b8,b9,by[qi,qt];¥},?_};[z7]at J;?{_,O,.inl {O,_,aA.of eU},q,_,.ref b,O,O,eU,(by simp),?_};[tf];#t6:ai L (upd L q (.lst f)):=ai.wl eU;#s6:af H1 (upd L q (.lst f)):=s5.wr fu
 #eT6:(upd L q (.lst f)) ta=!(.lst C):=by[ax nt];!eT
 #eU6:(upd L q (.lst f)) q=!(.lst f):=aD;#aT6:=aT.imp λv e g=>TN.ab g t6;#aU6:=aU'.imp λv e g=>UN.ab g t6;#h16:=t6 _ _ h1;#h26:=h2.ab t6;¤mW _ _ _ _ (upd L q (.lst f));generalize upd L q (.lst f)=H6 at s6 eT6 eU6 aT6 aU6 h16 h26;?{_,O,_,O,_,O,_,O,b,_,0,_,O,O,aZ.of h16,O,_,_,_,O,?_};#s7:af H6 H6:=af.refl _;#s17:=s6.trans s7;#eT7:=s7 _ _ eT6;?{_,O,.inl {O,_,aA.of eT7},_,O,_,O,aF rfl,λtp H8 g8 s8 e8=>?_};?{b,tp,_,_,O,O,aZ.of ((s7.trans s8) _ _ h16),aZ.of e8,°,°,aF rfl,λt H9 g9 s9 e9=>?_};#s79:=(s7.trans s8).trans s9;#s19:=s6.trans s79;#eT9:=s79 _ _ eT6;?{ta,_,_,O,O,eT9,cF (),?_};#t10:ai H9 (upd H9 ta (.lst (C++[.ref t]))):=ai.wl eT9;#M:af H1 (upd H9 ta (.lst (C++[.ref t]))):=s19.wr ft;#eT10:(upd H9 ta (.lst (C++[.ref t]))) ta=!(.lst (C++[.ref t])):=aD
 #Y:(upd H9 ta (.lst (C++[.ref t]))) q=!(.lst f):=by[ax nt.symm];!s79 _ _ eU6
 #I:=s79.ab.trans t10;#aU10:=aU6.imp λv e g=>UN.ab g I;#U:=I _ _ h16;#X:=h26.ab I;#aT10:AL (TN (upd H9 ta (.lst (C++[.ref t])))) (C++[.ref t]) (es++[(u,z0)]):=(aT6.imp λv e g=>TN.ab g I).snoc {t,vp,O,t10 _ _ e9,X,pu,by ¤z0.length<=1000;¥};generalize upd H9 ta (.lst (C++[.ref t]))=H10 at M eT10 Y aU10 U X aT10;?{_,O,true,O,cW rfl ?_};?{_,O,.inr (.inr (.inl {O,.inr (.inr {kd,M _ _ e1})})),_,O,b,_,0,_,O,O,aZ.of U,O,aF rfl,λzq H11 g11 s11 e11=>?_};?{da,kd,.tup u,vp,.ref zq,O,O,(M.trans s11) _ _ e1,X.ab s11.ab,?_}
 obtain⟨a,ws,l,ea,ew,aw,hin⟩:∃a ws l,(vG kd (.tup u)).getD (.ref zq)=.ref a/\H11 a=!(.lst ws)/\AL (NP H11) ws l/\p7 A (GT g) u l:=by
  @⟨h,g⟩|⟨qa,ws,l,h,_,h3,h4,h5⟩:=inn u pu
  .!⟨zq,[],[],by[h];rfl,e11,.nil,g⟩
  .!⟨qa,ws,l,by[h];rfl,(M.trans s11) _ _ h3,h4.imp λv x g=>NP.ab g (M.trans s11).ab,h5⟩
 [ea];@il,ind:=inU u l hin;#J2:=Jz.step nA hN J il ind;#hJ2:=J2.len;[qi,qj,qi,qj,vd,qj]at hJ2;#hwl:ws.length=l.length:=aw.1;?{a,ws,O,aA.of ew,λwq H12 zs g12 s12 e12 hl12 pr=>?_};#Z:=s11.trans s12;#eU12:=Z _ _ Y;?{_,O,.inl {O,_,aA.of eU12},_,O,1,O,-1,O,O,wq,zs,O,aA.of e12,λvq H13 g13 s13 e13=>?_};#D:=Z.trans s13
 #hll:l.reverse.length=zs.length:=by[vd,hl12,hwl]
 ?{vq,O,{_,aA.of e13},c7 (xs:=zs.reverse) (lB (by[vd];¥)) (λj o H'=>af H13 H'/\AL (UN H') o ((subs z0 0 l).reverse.take j)) {af.refl _,.nil} (λ_ _ H' s'=>aA.of (s'.1 _ _ e13)) (λj x o H' K1 K0 N s' k1 k0=>?_) λR lq o s' hv3 hlq=>?_}
 .@s',an:=s'
  #hj:j<zs.length:=by #:=(qk.mp N).1;rwa [vd]at this
  [tz hj]at N;@T,w,ew2,rfl,hT:=pr _ _ N;@y,ey,hy:=aw.at ew2
  #tk:(subs z0 0 l).reverse.take (j+1)=(subs z0 0 l).reverse.take j++[(y.pt,pI z0 (zs.length - 1 - j+1))]:=by
   [qz,tz (by[jM];¥),sr,jM,show l.length - 1 - j=zs.length - 1 - j from (),ey,ja];rfl
  #s13':=s13.trans s';?{T,_,O,aZ.of (s13' _ _ hT),O,_,_,O,_,_,O,O,?_};?dH (B:=K0 H') ?_;?{_,O,_,O,b,_,1,_,O,O,aZ.of ((D.trans s') _ _ U),O,_,O,z0,zs.length - 1 - j+1,O,(),(),aF rfl,λpq H15 g15 s15 e15=>k1 _ _ {s'.trans s15,?_}};[tk];!(an.imp λv e g=>UN.ab g s15.ab).snoc {pq,w,O,e15,NP.ab hy ((s12.trans s13').trans s15).ab}
 @s',an:=s';[vd,←hll,vd,←jM z0 l 0,←vd,ze]at an;#eU14:R q=!(.lst f):=(D.trans s') _ _ Y;#nlu:q≠lq:=a0 eU14 hlq;#n14:af R (upd R lq (.lst o)):=af.new hlq
 #eU15:(upd R lq (.lst o)) q=!(.lst f):=by[ax nlu];!eU14
 #G:=(D.trans s').trans n14
 #hnl:o.length=l.length:=by #:=an.1;rwa [vd,jM]at this
 ?{q,lq,f,o,O,O,eU15,aD,lB (),?_};#t16:ai (upd R lq (.lst o)) (upd (upd R lq (.lst o)) q (.lst (f++o))):=ai.wl eU15;#t1016:=G.ab.trans t16;?{_,f++o,us'++(subs z0 0 l).reverse,_,_,_,O,(M.trans G).wr fu,by[ax nt];!G _ _ eT10,aT10.imp λv e g=>TN.ab g t1016,aD,(aU10.imp λv e g=>UN.ab g t1016).app (an.imp λv e g=>UN.ab g (n14.ab.trans t16)),by[z7,List.map_reverse,Ju];!J2,λx N=>?_,λout h=>?_}
 .@N|N:=zh.mp N
  .!qg (hz x (wg _ N)) ()
  .@m,hm':=jf (yh.mp N)
   [sr]at hm';@y,hy,rfl:=wj.mp hm';#:=(qk.mp hy).1;!qg (I0 z0 ()) ()
 .[jy,List.reverse_reverse]at h
  #:=hw _ (by[jy];!Wk.cons hin h);[yk];!this
§BM(T:Txt K mg tk)(F:FO K mg "shown_row" iW)(gfCa:×kI)(gfBv:×sR)(gfAp:×ya):×yD:=by
 ?aN F Dx (wQ λ_ _ _=>rfl) {} λfa cdv A outer s H vs Q E L h=>?_;#hu1:(A.deeper (envOfC "shown_row" (ag iW) ↑s fa cdv)).units+1<cLine:=cT L
 ?{_,(aj (sm Dx.nd 3 (cy (fR L.hd (p5 L)) T.c6 boot_dict (a1 (tO (ag iW) ug [("part",1)] (il (cV hu1 (vv 0) aQ (λ_ _=>rfl))) (λ_ _ _=>(fB (ck (FI L) (xt (vv 0)) (vc 1)))) (λ_ _ _=>(a9 (a2 (xt (vv 0)) (xt (vv 0)))))))))
   (aj (sm Dx.nd 4 (cl gfBv L (a2 (vv 0) (vc 1))))
   (aE (aO (tO (ag iW) ug [("numbers",2),("signs",3),("marks",4)] (il (cl gfCa L (a2 (vv 0) (vc 1)))) (λ_ _ _=>dI) (λ_ _ _=>(a9 (ac (vv 0) (a2 (cl gfAp L (a2 (vc 1) (dE (cO L) (vc 2) (vv 0) (λ_ _=>rfl)))) (dE (cO L) (vc 3) (vv 0) (λ_ _=>rfl))))))))))),?_}
 @fa,F,d,vp,p,nq,num,rfl,fz,gp,hp,nd,kk:=h;@xs,ms,ns,fs:=fz.fs;#fg:=fs.fg;@kvs0,la,vs,rd,hval,hla,an,W:=fs.fg;#k:=hp.lay
 #hvl:vs.length=d.n:=by[an.1,zo]
 #cI:=W.cI;#pS:=W.uP p;?{_,O,fa,.ref la,O,.inl {kvs0,.inr "signs",rd,O,hval.symm},la,O,{_,aA.of hla},c7 (xs:=vs) (cK ()) (λj us H'=>af H H'/\∃kvs,cw H' us kvs/\jU (cj d.S) (λv i=>DT H v (d.S i).sg) kvs (((List.range d.n).take j).filter (nK d.S p))) {af.refl _,[],trivial,trivial} (λ_ _ H' s'=>aA.of (s'.1 _ _ hla)) (λj x us H' K1 K0 Y s' k1 k0=>?_) λH3 up us s' hu3 huq=>?_}
 .@s',kvs,pr,pk:=s'
  @i,ei,sn:=an.at Y;#D:i<d.n:=qo.mp (qw ei);@b,vq,vn,vb,kq,vg,rfl,h1,h2,h3,h4,h5,h6:=sn;#t:=s'.ab
  #tk:(List.range d.n).take (j+1)=(List.range d.n).take j++[i]:=by[qz,ei];rfl
  ?{_,O,b,_,0,_,O,O,aZ.of (t _ _ h1),O,_,O,tD (d.S i).pt,tD p,(aM (h2.ab t)).dv,(aM (gp.ab t)).dv,(W.lay i D).2,k,qg (yb _ _) (qg (ee _) ⋯),_,O,?_};#eqp:(if false=¶ then not (PyData.eqv (tD (d.S i).pt) (tD p)) else PyData.eqv (tD (d.S i).pt) (tD p))=decide ((d.S i).pt=p):=gV _ _
  ¿I:(d.S i).pt=p
  .?cW (by[eqp];!qI I) ?_
   ?{_,O,b,_,1,_,O,O,aZ.of (t _ _ h1),O,_,O,b,_,4,_,O,O,aZ.of (t _ _ h1),O,aF rfl,λtq H4 g4 C e4=>k1 _ _ {s'.trans C,kvs++[(.tup (cj d.S i),vn,vg)],cw.snoc (e:=(.tup (cj d.S i),vn,vg)) {tq,O,e4,(h3.ab t).ab C.ab} (pr.ab C.ab),?_}};[tk,yg,jd (iN.mpr I),yv];!pk.snoc rfl h6
  .?bV (by[eqp];!decide_eq_false I) (k0 _ {s',kvs,pr,?_})
   [tk,yg,je (λz=>I (iN.mp z)),yv,wx];!pk
 @s3,kvs,pr,pk:=s';#n3:af H3 (upd H3 up (.lst us)):=af.new huq;[hvl,yr (by[zo];!qe _)]at pk;?{up,us,kvs,O,aA.of aD,pr.ab n3.ab,(),λdq H5 g5 s5 e5=>?_};#G:=(s3.trans n3).trans s5;#get:∀i∈bM d.S d.n p,∃v,vG (putAll [] kvs) (.tup (cj d.S i))=!v/\DT H v (d.S i).sg:=λi hi=>jU.get (all:=bM d.S d.n p) pS.inj (done:=[]) (acc:=[]) pk (λ_=>°) (λi h=>h) (λ_=>°) i (.inr hi);?{_,O,_,O,fa,F,d.S,d.n,d.M,d.m,d.N,d.q,xs,ms,ns,vp,p,O,fs.same G,gp.ab G.ab,k,fz.hm,λH6 mq R s6 g6 e6 tdk knd=>?_};#J:=G.trans s6;?{_,O,_,O,fa,vp,p,d.S,d.n,O,fg.same J,gp.ab J.ab,k,λH7 lq zs s7 g7 e7 al=>?_};#c:∀i∈bC d.S d.n p,i<d.n/\(d.S i).pt=p:=λi hi=>(lV W).mp (zk.mp hi).1
 #hzl:zs.length<=1400:=by[al.1];!qg (qg (we _ _) (iE W)) W.cI
 ?{lq,O,{_,aA.of e7},c7 (xs:=zs) (cK ()) (λj us H'=>af H7 H'/\∃r:#(Nat×R0),AL (RZ d p num H') us r/\r.map (·.1)=(bC d.S d.n p).take j/\∀e∈r,vG R (.tup (cj d.S e.1))=!(.ref e.2)/\H e.2=£) {af.refl _,[],.nil,O,λ_=>°} (λ_ _ H' s'=>aA.of (s'.1 _ _ e7)) (λj x us H' K1 K0 Y s' k1 k0=>?_) λH9 rq us s' hu V=>?_}
 .@s',r,ar,Z,rk:=s'
  @i,ei,nmx:=al.at Y;#hia:i∈bC d.S d.n p:=qw ei;@D,hpt:=c i hia;#him:i∈bM d.S d.n p:=zk.mpr {qo.mpr D,iN.mpr hpt};#X:NM (cj d.S) H' x i:=NM.ab nmx s'.ab;@v,gv,dv:=get i him;#f:=s7.trans s';#s07:=J.trans f;@a,zs',gm,ba,za,dz:=tdk.get ((lM W).filter _) (λa ha b hb e=>W.inj a (c a ha).1 b (c b hb).1 e) hia;?dH (B:=K0 H') ?_;?{_,O,_,O,_,O,_,O,dq,_,.tup (cj d.S i),v,O,.inl ((s6.trans f) _ _ e5),X,gv,nq,num,v,(d.S i).sg,O,nd.same s07,dv.ab s07.ab,fz.sg i D,λt ht=>?_};#ht:=x8 ht;£ht;?{_,O,_,O,mq,R,.tup (cj d.S i),.ref a,O,.inl (f _ _ e6),X,gm,aF rfl,λtq H4 g4 C e4=>k1 _ _ {s'.trans C,r++[(i,a)],?_,?_,λe U=>?_}}
  .!(ar.imp λv e g=>g.to C.ab λo q=>C _ _ q).snoc {tq,x,zs',O,e4,NM.ab X C.ab,(f.trans C) _ _ za,dz.ab (f.trans C).ab}
  .[z7,Z,qz,ei];rfl
  .@U|U:=zh.mp U
   .!rk e U
   .[qx.mp U];!{gm,G.free ba.1}
 @s9,r,ar,Z,rk:=s';[al.1,ze]at Z;#n9:af H9 (upd H9 rq (.lst us)):=af.new V;#s09:=(J.trans s7).trans s9
 #rn:(r.map (·.2)).Nodup:=by
  #h1:(r.map (·.1)).Nodup:=Z▸(lM W).filter _;?wb.mpr (List.Pairwise.imp_of_mem (λ{x y} Y hy h z=>h ?_) (wb.mp h1));@i1,c1,d1,e1,f1:=GY (rk x Y).1;@i2,c2,d2,e2,f2:=GY (rk y hy).1;#hl1:=(qk.mp d1).1;#hl2:=(qk.mp d2).1
  #q1:(R.map (·.2.2))[i1]?=!(.ref x.2):=by[qu,d1,←f1];rfl
  #q2:(R.map (·.2.2))[i2]?=!(.ref x.2):=by[qu,d2,z,←f2];rfl
  #hi:=(mr (by[qj];!hl1) knd).mp (q1.trans q2.symm);£hi;[d1]at d2;&d2;#hm:∀{u},u∈r->u.1∈bC d.S d.n p:=λh=>Z▸qf.mpr {_,h,O};!W.inj _ (c _ (hm Y)).1 _ (c _ (hm hy)).1 (KD.tup.inj (e1.symm.trans e2))
 !kk _ rq us r (s09.trans n9) (s09.free V) aD (ar.imp λv e g=>g.to n9.ab λo q=>n9 _ _ q) Z rn λe U=>{(rk e U).2,λz=>by
  @_,_,b,vn,ms,_,_,_,g,_:=ar.gF U;[z,V]at g
  &g}
§EB(T:Txt K mg tk)(F:FO K mg "_law_numbered" uf)(gfAs:×zP):×yF:=by
 ?aN F jW (lR λ_=>rfl) {} λfa cdv A outer s H vs Q E hr h=>?_
 ?{_,(aj (sn jW.nd 1 (bJ cS))
   (aj (sn jW.nd 2 (bJ (a1 (a9 (a2 aQ (a9 (a2 aQ aB)))))))
   (aj (p9 PassesOwn.never (ck (lx hr) (vv 2) (bJ cS)) (aj (EU (xl (vv 2)) (gt (de (gn jW.nd 3) (de (gn jW.nd 4) g_))))
   (aj (sn jW.nd 5 (bJ cS))
   (aj (fo (Jx (by rfl) T.dW (a1 (cl gfAs hr (a2 (vv 0) (vv 4))))) (gt (de (gn jW.nd 6) (de (gn jW.nd 7) g_)))
   (aE (ap (vv 5) (a1 (a9 (a2 (aH vK (aH vK (vv 3) (aH Pw aQ (cy A_ T.tQ boot_int (a1 (ce ll (vv 3) aQ))))) (cy QY T.rS boot_str (a1 (aH cY (vv 6) aB)))) (vv 7)))))))
   (aj (ap (vv 1) (a1 (a9 (a2 (vv 3) (vv 4)))))
   (aE (sn jW.nd 2 (aH qU (vv 5) (oR Ct (vv 2) (f' aB) B0)))))))))
   (aE (aO (vv 1)))))),?_}
 @fa,F,d,nu,rfl,fz,tt,ma,hnu,nl,nk,kk:=h;#W:=fz.xw;#sok:=hnu.ok W;@A,g,dtr,wk:=hnu;?{aF rfl,λta H1 g1 s1 e1=>?_};?{aF rfl,λmq H2 g2 s2' e2=>{aF rfl,λpq H3 g3 U e3=>{aF rfl,λD H4 g4 s4 e4=>?_}}};#s14:=(s2'.trans U).trans s4;#s04:=s1.trans s14
 ?{λmm σ H5=>∃f done D Us us out u3 u4 u5 u6 u7,σ=[!(.ref fa),!(.ref ta),!(.ref D),u3,u4,u5,u6,u7]/\af (bP H s2) H5/\dj H5/\H5 ta=!(.lst f)/\AL (NU H5) f done/\H5 D=!(.lst Us)/\D≠ta/\AL (NU H5) Us us/\Wk A (GT g) us out/\done++out=nu/\mm=out.length,
  {nu.length,[],[],D,[.ref pq],[(bE,"")],nu,none,none,none,none,none,O,Nd s04,tt.same s04,s14 _ _ e1,.nil,e4,(λz=>by[z,(s2'.trans U) _ _ e1]at g4;&g4),.cons {pq,.ref mq,O,s4 _ _ e3,{_,O,(U.trans s4) _ _ e2}} .nil,wk,O,O},?_}
 rintro mm σ H5 ⟨f,done,D,Us,us,out,u3,u4,u5,u6,u7,rfl,s5,t5,eT,aT,eU,ntu,aU,w5,hd,rfl⟩;#hUl:=aU.1;#hwl:=w5.len
 #hol:done.length+out.length=nu.length:=by[←hd,qi]
 #Z:∀x∈us,PyData.strOk x.2=¶/\Pn x.1/\x.2.length<=1000:=λx hx=>by
  #hm:x∈nu:=by[←hd];!zy _ (w5.sub x hx)
  !{sok x hm,nk x hm}
 ?{_,O,aF rfl,λlp H6 g6 B e6=>?_};#aU6:=aU.imp λv e g=>NU.ab g B.ab
 #okU:kQ 3 (.list (us.map QL)):=fP λx hx=>by
  @e,he,rfl:=qf.mp hx;@h1,h2,_:=Z e he
  !oB λy hy=>by
   ac_nf at hy
   @rfl|rfl:=hy
   .!ny h1
   .!tL h2.lay
 ?⟨.list (us.map QL),.list [],.lst (aA.of (B _ _ eU)) (AL.lS (λv e g=>NU.dt g) aU6).dv,.lst (aA.of e6) .nil,okU.1,O,qg (jh _ _) ⋯,_,O,?_⟩
 cases w5 with
 |nil =>
  refine bV rfl {_,O,?_};[wx]at hd;£hd;!kk H6 ta f (s5.trans B) (t5.same B) g1 (B _ _ eT) (aT.imp λv e g=>NU.ab g B.ab)
 |@cons p z us' l out' i w =>
  refine cW rfl ?_
  obtain⟨v0,a,rfl,hx0,aU'⟩:∃v0 a,Us=v0::a/\NU H6 v0 (p,z)/\AL (NU H6) a us':=by
   cases Us with
   |nil=>!aU.none.elim
   |cons v a=>!{v,a,O,aU6.head,aU6.tail}
  @b,vp,rfl,h1,h2:=hx0;@hzo,hpn,hzl:=Z (p,z) qm;#hzl:z.length<=1000:=hzl;?{λσ' H'=>∃M t L u3 u4 u5 u6 u7,σ'=[!(.ref fa),!(.ref ta),!(.ref t),u3,u4,u5,u6,u7]/\af (bP H s2) H'/\dj H'/\H' ta=!(.lst M)/\AL (NU H') M (done++[(p,z)])/\H' t=!(.lst L)/\t≠ta/\AL (NU H') L (subs z 0 l++us'),λσ' H' ⟨M,t,L,v3,v4,v5,v6,v7,b1,b2,b3,b4,b5,b6,b8,b7⟩=>{out'.length,by[zd];¥,M,done++[(p,z)],t,L,_,out',v3,v4,v5,v6,v7,b1,b2,b3,b4,b5,b6,b8,b7,w,by[yk];!hd,O},?_};#S:=B _ _ eU;#I:=B _ _ eT;?{_,O,D,_,0,.ref b,O,O,aA.of S,P8 _ _,?_};?{b,_,O,aZ.of h1,O,_,_,O,_,_,O,O,?_};?{aF rfl,λG H7 g7 s7 e7=>?_};#R:af H5 H7:=B.trans s7;#fz7:FZ H7 fa F d:=(fz.kp λb o e h=>bI tt s5 e h).same R;@bs,es0,cs,k,fb,hk,hl:=fz7.fb;#t7:=t5.same R;#ma7:MA H7:=R _ _ (bI tt s5 ma λ_=>°);?{_,O,_,O,fa,F,bs,es0,cs,d.rs,d.cu,k,vp,p,O,fb,hk,hl,t7,ma7,h2.ab s7.ab,hpn,λH8 q ws l' zs' g' s8 t8 gq eq dtr' aw in'=>?_};@rfl,rfl:=dtr'.eq W dtr;#hll:=in'.eq i;£hll;#k8:∀{b o},H7 b=!o->(∀ps,o≠.cf ps)->H8 b=!o:=λe h=>bI t7 s8 e h;#tt8:=lN t7 s8;#J:=k8 e7 λ_=>°
  #nqi:q≠G:=λz=>by[z,e7]at gq;&gq
  #hll:=aw.1;#wln:=w.len;[qi,jM]at wln;[zd]at hol;?{q,O,{_,aA.of eq},OL (xs:=ws) (λj σ X=>∃C u6 u7,σ=[!(.ref fa),!(.ref ta),!(.ref D),!(.str z),!vp,!(.ref G),u6,u7]/\af (del H8 G) X/\X G=!(.lst C)/\AL (NU X) C ((subs z 0 l').take j)) {[],u6,u7,O,(λb o e=>kG _ _ e),J,.nil} (λj σ X _ ⟨_,_,_,_,s,_⟩=>aA.of (s _ _ (by[bR nqi];!eq))) ?_ ?_}
  .rintro j x σ X tp hx ⟨C,v6,v7,rfl,sX,eI,aI⟩ hp
   #hj:=(qk.mp hx).1;@y,hy,gy:=aw.at hx;#sp:af X (upd X tp (.tup [.int j,x])):=af.new hp;#ep:(upd X tp (.tup [.int j,x])) tp=!(.tup [.int j,x]):=aD;generalize upd X tp (.tup [.int j,x])=X1 at sp ep;#eI1:=sp _ _ eI
   #hil:C.length<=63:=by[aI.1,wv,jM];¥
   ?{tp,_,O,aZ.of ep,O,_,_,O,_,_,O,O,?_};?{_,O,.inl {O,_,aA.of eI1},_,O,_,O,O,.inr {_,O,_,O,O,z,_,O,O,?_,?_}}
   .?cK ?_
    #:(if(not (decide (V.str z=V.str "")))=¶ then(".":R9) else "").length<=1:=by split <;> decide +kernel
    ¥
   ?{_,O,_,_,O,O,_,O,.inr {_,O,QU ()},_,_,O,O,?_,_,O,aF rfl,λxp m gx sx ex=>?_}
   .[←p4,K5]
    !cK (qg (I0 z ()) ())
   [K5]at ex;#eI2:=sx _ _ eI1;?{G,C,_,O,O,eI2,cF (),?_};#t3:ai m (upd m G (.lst (C++[.ref xp]))):=ai.wl eI2;#tX:ai H8 X:=mY J (λ_=>°) sX;#t13:=(sp.trans sx).ab.trans t3;?{_,_,_,O,((sX.trans sp).trans sx).wr dV,aD,?_};[qz,sr,hy,ja];!(aI.imp λv e g=>NU.ab g t13).snoc {xp,x,O,t3 _ _ ex,NP.ab gy (tX.trans t13)}
  .rintro σ X ⟨C,v6,v7,rfl,sX,eI,aI⟩
   [hll,←jM z l' 0,ze]at aI;#tX:ai H8 X:=mY J (λ_=>°) sX;#t7X:=tt8.trans tX
   #up:∀{b o},H7 b=!o->(∀ps,o≠.cf ps)->b≠G->X b=!o:=λe h n=>sX _ _ (by[bR n];!k8 e h)
   #eTX:=up (s7 _ _ I) (λ_=>°) (λz=>by[z]at I;[I]at g7;&g7);#eUX:=up (s7 _ _ S) (λ_=>°) (λz=>by[z]at S;[S]at g7;&g7);#hTl:=aT.1;#hIl:=aI.1;[jM]at hIl;?{_,O,.inl {O,_,aA.of eTX},_,O,_,O,aF rfl,λnp m gn sn en=>?_};#eT2:=sn _ _ eTX;?{ta,f,_,O,O,eT2,cF (),?_}
   #nti:G≠ta:=λz=>by[z,I]at g7;&g7
   #eI3:(upd m ta (.lst (f++[.ref np]))) G=!(.lst C):=by[ax nti];!sn _ _ eI
   #t3:ai m (upd m ta (.lst (f++[.ref np]))):=ai.wl eT2;#eT3:(upd m ta (.lst (f++[.ref np]))) ta=!(.lst (f++[.ref np])):=aD
   #eU3:(upd m ta (.lst (f++[.ref np]))) D=!(.lst (.ref b::a)):=by[ax ntu];!sn _ _ eUX
   #sY:af (bP H s2) (upd m ta (.lst (f++[.ref np]))):=λc o e=>by
    #nb:¬s2 c:=λz=>by[dQ z]at e;&e
    #e':=d_ nb▸e
    #nc:c≠ta:=λz=>by[z,g1]at e';&e'
    #e5:=R _ _ (s5 _ _ e);[ax nc];!sn _ _ (sX _ _ (by[bR (λz=>by #h6:=B _ _ (s5 _ _ e);[z,g7]at h6;&h6)];!c_ s8 e5 nb))
   #tY:dj (upd m ta (.lst (f++[.ref np]))):=((t8.cut J (λ_=>°) (λ_=>°) sX).same sn).wr eT2 (λ_=>°) (λ_=>°);#N:ai X (upd m ta (.lst (f++[.ref np]))):=sn.ab.trans t3;#t67:=s7.ab.trans t7X;#aT3:AL (NU (upd m ta (.lst (f++[.ref np])))) (f++[.ref np]) (done++[(p,z)]):=(aT.imp λv e g=>NU.ab (NU.ab g B.ab) (t67.trans N)).snoc {np,vp,O,t3 _ _ en,h2.ab (t67.trans N)};#aI3:=aI.imp λv e g=>NU.ab g N;#aU3:=aU'.imp λv e g=>NU.ab g (t67.trans N);generalize upd m ta (.lst (f++[.ref np]))=Y at eI3 eT3 eU3 sY tY aT3 aI3 aU3;?{_,O,_,O,1,O,D,_,O,aA.of eU3,λsq Y2 gs ss es=>?_};[show dY (V.ref b::a) (some 1) none=a from Qy (pv:=V.ref b::a) (r:=1) (by simp)]at es;#hUl':=aU'.1;?{G,sq,C,a,O,O,ss _ _ eI3,es,lB (),λcq Y3 gc sc ec=>?_};#U:=ss.trans sc;!{f++[.ref np],cq,C++a,_,_,_,_,_,O,sY.trans U,tY.same U,U _ _ eT3,aT3.imp λv e g=>NU.ab g U.ab,ec,(λz=>by[z,ss _ _ eT3]at gc;&gc),(aI3.app aU3).imp λv e g=>NU.ab g U.ab}
§A4(T:Txt K mg tk)(F:FO K mg "_law_entry_good" rK)(gfCa:×kI)(gfBv:×sR)(gfBw:×uC)(gfBu:×tK):×zU:=by
 ?aN F wG (zF λ_ _ _ _=>rfl) {} λfa cdv A outer s H vs Q E r h=>?_
 ?{_,(aj (bA (PW.pt (dC (iz (dA (cb pW T.cg boot_isinstance (a2 (vv 1) (pz (v:=.ty "tuple") (by rfl) T.oI boot_tuple rfl))))) (dC (ck ll (cb cZ T.bQ boot_len (a1 (vv 1))) aB) (dC (ck ll (xt (vv 1)) (vv 2)) (kD (ck (lx r) (xt (vv 1)) (vv 3))))))) (aE (aO bW)) cc)
   (aj (bA (PW.pt (dC (iz (dA (cb pW T.cg boot_isinstance (a2 (xt (vv 1)) (pz (v:=.ty "list") (by rfl) T.eF boot_list rfl))))) (dC (ck (lx r) (xt (vv 1)) (cl gfBw r (a2 (vv 0) (vv 3)))) (kD (ck (lx r) (xt (vv 1)) (cl gfBu r (a2 (vv 0) (vv 3)))))))) (aE (aO bW)) cc)
   (aj (sn wG.nd 4 (cl gfBv r (a2 (vv 0) (vv 3))))
   (aj (sn wG.nd 5 (cl gfCa r (a2 (vv 0) (vv 3))))
   (aj (bA (ck (lx r) (zQ (il (xt (vv 1))) (λ_ _ _=>dI) (λ_ _ _=>(xt (vv 0)))) (vv 5)) (aE (aO bW)) cc)
   (aj (fo (il (xt (vv 1))) (gn wG.nd 6)
   (aE (bA (PW.pt (dC (iz (dA (cb pW T.cg boot_isinstance (a2 (vv 6) (pz (v:=.ty "tuple") (by rfl) T.oI boot_tuple rfl))))) (dC (ck ll (cb cZ T.bQ boot_len (a1 (vv 6))) aB) (dC (iz (dA (cb pW T.cg boot_isinstance (a2 (xt (vv 6)) (pz (v:=.ty "str") (by rfl) T.rS boot_str rfl))))) (kD (ck (lx r) (xt (vv 6)) (dE (cO r) (vv 4) (xt (vv 6)) (λ_ _=>rfl)))))))) (aE (aO bW)) cc)))
   (aE (aO bW)))))))),?_}
 @fa,F,d,num,v,e,p,z,vp,rfl,fz,f,gp,hp,kk:=h;@rfl:=f.vb;#tp:=aZ.of f.tp;@xs,ms,ns,fs:=fz.fs;@zs,o,J:=f.rw_;#W:=fs.ws;?{_,O,_,"tuple",true,O,⋯,.tup f.tp,true,O,bV rfl ?_};?{_,O,e.b,_,O,.inr tp,O,_,O,bV rfl ?_};?{_,O,e.b,_,0,_,O,O,tp,O,_,O,O,_,O,bV (by simp) ?_};?{_,O,e.b,_,1,_,O,O,tp,O,_,O,tD p,tD p,(aM f.gp).dv,(aM gp).dv,hp.lay,hp.lay,qg (yb _ _) (qg (ee _) ⋯),_,O,bV (mE rfl hp.lay) ?_};?{_,O,e.b,_,2,_,O,O,tp,O,_,"list",true,O,⋯,.lst o,true,O,bV rfl ?_};?{_,O,e.b,_,3,_,O,O,tp,O,_,O,_,O,fa,F,d.S,d.n,d.M,d.m,d.N,d.q,xs,ms,ns,vp,p,O,fs,gp,hp.lay,λH1 q1 z1 s1 g1 e1 n1=>?_};#U:=fz.MF (p:=p);#Z:=f.same s1;?{.list (Hf d p),.list (Hf d p),Z.not,.lst (aA.of e1) n1.dv,U.1,U.1,qg (yb _ _) (qg U.2 ⋯),_,O,bV (mE rfl U.1) ?_};#tp1:=aZ.of Z.tp;?{_,O,e.b,_,4,_,O,O,tp1,O,_,O,_,O,fa,vp,p,d.L,d.a,d.C,d.b,O,(fz.same s1).tb,gp.ab s1.ab,hp.lay,λH2 tq rp cp wp zr zc ws s2 g2 e2 fr fc fw nrc nrw ncw er ec ew ar ac aw wn wd=>?_};#s02:=s1.trans s2;#ty:=fz.AQ (p:=p);@wa,aw2,wi:=uB (R:=WZ d p H2) (λv i ⟨a,h1,_,h3⟩=>{a,h1,h3}) aw;?{o_ d p,o_ d p,(Z.same s2).tab,Jc e2 er ar ec ac ew aw2 wi,ty.1,ty.1,qg (yb _ _) (qg ty.2 ⋯),_,O,bV (mE rfl ty.1) ?_};?{_,O,_,O,fa,F,d.S,d.n,d.M,d.m,d.N,d.q,xs,ms,ns,vp,p,O,fs.same s02,gp.ab s02.ab,hp.lay,fz.hm,λH3 mq kvm s3 g3 e3 tdk knd=>?_};#V:=s02.trans s3;?{_,O,_,O,fa,vp,p,d.S,d.n,O,(fs.same V).fg,gp.ab V.ab,hp.lay,λH4 lq ls s4 g4 e4 al=>?_};#k:=V.trans s4;#ez4:=f.same k;#tp4:=aZ.of ez4.tp;#U:=fz.RG (p:=p);#hal:∀i∈bC d.S d.n p,i<d.n/\(d.S i).pt=p:=λi hi=>(lV W).mp (zk.mp hi).1
 #hzl:zs.length<=1400:=by
  [J.1];#:=congrArg List.length f.ri;[qj]at this;[this];!qg (qg (we _ _) (iE W)) W.cI
 ?{_,O,e.b,_,2,_,O,O,tp4,O,e.q2,O,{_,aA.of (k _ _ o)},c7 (xs:=zs) (cK ()) (λj us X=>af H4 X/\AL (λv x=>NM (cj d.S) X v x.1) us (e.ia.take j)) {af.refl _,.nil} (λ_ _ X s'=>aA.of ((k.trans s'.1) _ _ o)) (λj x us X K1 K0 hx s' k1 k0=>?_) λX np us s' hu hq=>?_}
 .@s',au:=s'
  @y,ey,b,vn,ms,rfl,h1,h2,h3,h4:=J.at hx;#t:=(k.trans s').ab;?dH (B:=K0 X) ?_;?{_,O,b,_,0,_,O,O,aZ.of (t _ _ h1),O,k1 _ _ {s',?_}};[qz,ey];!au.snoc (NM.ab h2 t)
 @sX,au:=s';[J.1,ze]at au;#nH:af X (upd X np (.lst us)):=af.new hq;#e1':(upd X np (.lst us)) np=!(.lst us):=aD;#au1:=au.imp λv x g=>NM.ab g nH.ab;generalize upd X np (.lst us)=X2 at nH e1' au1;#G:=sX.trans nH;#c:=k.trans G;#dl:=lC (H:=X2) (D:=λx:Nat×R0=>tD (cj d.S x.1)) (λv x g=>(aM g).dv) au1;[show e.ia.map (λx=>tD (cj d.S x.1))=(e.ia.map (·.1)).map (λi=>tD (cj d.S i)) by[z9];rfl,f.ri]at dl;?{_,O,_,_,.lst (aA.of e1') dl,.lst (aA.of (G _ _ e4)) (lC (λv i g=>(aM (NM.ab g G.ab)).dv) al),U.1,U.1,qg (yb _ _) (qg U.2 ⋯),_,O,bV (mE rfl U.1) ?_};#ez2:=f.same c;?{_,O,e.b,_,2,_,O,O,aZ.of ez2.tp,O,e.q2,O,{_,aA.of (c _ _ o)},eH (xs:=zs) (λj σ Y=>∃u6,σ=[!(.ref fa),!(.ref e.b),!(.str z),!vp,!(.ref mq),!(.ref lq),u6]/\af X2 Y) {_,O,af.refl _} (λj σ Y _ ⟨_,_,s⟩=>aA.of ((c.trans s) _ _ o)) ?_ ?_}
 .rintro j x σ Y hx ⟨u6,rfl,sY⟩
  @y,ey,b,vn,ms,rfl,h1,h2,h3,h4:=J.at hx;#I:=c.trans sY;#s3Y:=(s4.trans G).trans sY;#h1':=I _ _ h1;#t1:=aZ.of h1'
  #hia:y.1∈bC d.S d.n p:=by[←f.ri];!qf.mpr {y,qw ey,O}
  @a,zs',gm,ba,za,dz:=tdk.get ((lM W).filter _) (λa ha b hb e=>W.inj a (hal a ha).1 b (hal b hb).1 e) hia;#my:=fz.M7 (p:=p) y.1;?{_,O,_,"tuple",true,O,⋯,.tup h1',true,O,bV rfl ?_};?{_,O,b,_,O,.inr t1,O,_,O,bV rfl ?_};?{_,O,b,_,1,_,O,O,t1,O,_,"str",true,O,⋯,.str _,true,O,bV rfl ?_};!{_,O,b,_,2,_,O,O,t1,O,_,O,_,O,b,_,0,_,O,O,t1,O,mq,kvm,.tup (cj d.S y.1),.ref a,O,.inl (s3Y _ _ e3),NM.ab h2 I.ab,gm,.list (wI d p y.1),.list (wI d p y.1),.lst (aA.of (I _ _ h3)) (h4.ab I.ab).dv,.lst (aA.of (s3Y _ _ za)) (dz.ab s3Y.ab).dv,my.1,my.1,qg (yb _ _) (qg my.2 ⋯),_,O,bV (mE rfl my.1) {_,O,sY}}
 .rintro σ Y ⟨u6,rfl,sY⟩
  !kk Y (c.trans sY)
§D3(T:Txt K mg tk)(F:FO K mg "entry" qX)(Z:×uC)(gfBi:×yD)(W:×tK):×xJ:=by
 ?aN F Cg (zF λ_ _ _ _=>rfl) {} λfa cdv A outer s H vs Q E J h=>?_
 ?{_,(aj (bA (iz (dA (vv 3))) (aE (aO (a9 (ac (dE (cO J) (vv 1) (vv 2) (λ_ _=>rfl)) (ac (vv 2) (ac dB (a2 dB dB))))))) cc)
   (aE (aO (a9 (ac (dE (cO J) (vv 1) (vv 2) (λ_ _=>rfl)) (ac (vv 2) (ac (cl gfBi J (ac (vv 0) (a2 (vv 2) (vv 1)))) (a2 (cl Z J (a2 (vv 0) (vv 2))) (cl W J (a2 (vv 0) (vv 2))))))))))),?_}
 @fa,F,d,nq,num,vp,p,z,rfl,fz,gp,hp,nd,hz,kk:=h;#nd0:=nd;@kvs,en,nk:=nd;@h1,h2:=nk p hp;[hz]at h1;?{_,O,_,O,bV rfl ?_};?{_,O,_,O,nq,kvs,.tup p,.str z,O,.inl en,gp,h1,_,O,_,O,_,O,_,O,fa,F,d,vp,p,nq,num,O,fz,gp,hp,nd0,λH1 rq zs ia Y g1 I rz ri rn rf=>?_};@xs,ms,ns,fs:=(fz.same Y).fs;?{_,O,_,O,fa,F,d.S,d.n,d.M,d.m,d.N,d.q,xs,ms,ns,vp,p,O,fs,gp.ab Y.ab,hp.lay,λH2 x zs2 s2 g2 e2 nt2=>?_};#j:=Y.trans s2;?{_,O,_,O,fa,vp,p,d.L,d.a,d.C,d.b,O,(fz.same j).tb,gp.ab j.ab,hp.lay,λH3 tq rp cp wp zr zc ws s3 g3 e3 fr fc fw nrc nrw ncw er ec ew ar ac aw wn wd=>?_};?{aF rfl,λeq H4 g4 D e4=>?_};#G:=s3.trans D;#t:=s2.trans G;#X:=Y.trans t;@y,k,wi:=uB (R:=λv e=>WZ d p H4 v e/\H2 e.2=£) (λv i ⟨a,h1,h2,h3⟩=>{a,{h1,D _ _ h3},h2}) aw
 #wsm:∀e∈y,V.ref e.2∈ws:=λe c=>by
  @v,hv,q,_:=k.gF c;[←q.1];!hv
 #wnd:(y.map (·.2)).Nodup:=by
  #h1:=wn;[show ws=y.map (λe=>V.ref e.2) from yc λm=>?_]at h1
  .!wb.mpr (List.Pairwise.imp (λh z=>h (by[z])) (wb.mp h1))
  .[qu]
   cases q:ws[m]? with
   |none=>rw[v9 (by[←k.1];!mz.mp q)];rfl
   |some v =>
    @e,c,g,_:=k.at q;[c,g.1];rfl
 #hA:∀e∈ia,∃o,H1 e.2=!(.lst o):=λe c=>let⟨_,_,b,vn,ms,_,_,_,g,_⟩:=rz.gF c;{_,g}
 #w2:∀e∈y,H2 e.2=£:=λe c=>let⟨_,_,_,g⟩:=k.gF c;g
 #n1:∀{a b o},H1 a=!(HO.lst o)->H1 b=£->a≠b:=λh g z=>by[z,g]at h;&h
 #B:∀{a b o},H1 a=!(HO.lst o)->H2 b=£->a≠b:=λh g z=>by[z]at h;[s2 _ _ h]at g;&g
 #n3:∀{b},H2 b=£->x≠b:=λg z=>by[←z,e2]at g;&g
 ?kk H4 _ ⟨eq,vp,rq,x,tq,rp,cp,wp,ia,y⟩ X {O,e4,gp.ab X.ab,{zs,t _ _ I,rz.imp λv e g=>g.to t.ab λo q=>t _ _ q},ri,{zs2,G _ _ e2,nt2.ab G.ab},D _ _ e3,{zr,D _ _ er,ar.imp λv i g=>NM.ab g D.ab},{zc,D _ _ ec,ac.imp λv i g=>NM.ab g D.ab},{ws,D _ _ ew,k.imp λv e g=>g.1},wi,?_} λa r=>?_
 .¤(ia.map (·.2)++rq::x::rp::cp::wp::y.map (·.2)).Nodup
  #wm:∀{a},a∈y.map (·.2)->H2 a=£/\a≠rp/\a≠cp/\a≠wp:=λh=>by
   @e,c,rfl:=qf.mp h;!{w2 e c,wd _ (wsm e c)}
  ?wt.mpr {rn,?_,λa r b f q=>?_}
  .simp only[List.nodup_cons,List.mem_cons,not_or]
   !{{n1 I g2,B I fr,B I fc,B I fw,λh=>B I (wm h).1 rfl},{n3 fr,n3 fc,n3 fw,λh=>n3 (wm h).1 rfl},{nrc,nrw,λh=>(wm h).2.1 rfl},{ncw,λh=>(wm h).2.2.1 rfl},λh=>(wm h).2.2.2 rfl,wnd}
  .@e,c,rfl:=qf.mp r
   @o,U:=hA e c;£q
   simp only[List.mem_cons]at f
   @f|f|f|f|f|f:=f
   .!(rf e c).2 f
   .!n1 U g2 f
   .!B U fr f
   .!B U fc f
   .!B U fw f
   .!B U (wm f).1 rfl
 .#r:a∈ia.map (·.2)++rq::x::rp::cp::wp::y.map (·.2):=r
  simp only[List.mem_append,List.mem_cons]at r
  @r|rfl|rfl|rfl|rfl|rfl|r:=r
  .@e,c,rfl:=qf.mp r
   !(rf e c).1
  .!g1
  .!Y.free g2
  .!j.free fr
  .!j.free fc
  .!j.free fw
  .@e,c,rfl:=qf.mp r
   !j.free (w2 e c)
§Al(T:Txt K mg tk)(F:FO K mg "_law_right" rT)(i:×zU)(m:×yF):×yU:=by
 ?aN F Ak (iP λ_ _=>rfl) {} λfa cdv A outer s H vs Q E S h=>?_
 ?{_,(aj (sn Ak.nd 2 (cl m S (a1 (vv 0))))
   (aj (bA (PW.pt (dC (iz (dA (cb pW T.cg boot_isinstance (a2 (vv 1) (pz (v:=.ty "list") (by rfl) T.eF boot_list rfl))))) (kD (ck ll (cb cZ T.bQ boot_len (a1 (vv 1))) (cb cZ T.bQ boot_len (a1 (vv 2))))))) (aE (aO bW)) cc)
   (aj (fo (lG (by rfl) T.dn (a1 (cb cZ T.bQ boot_len (a1 (vv 2))))) (gn Ak.nd 3)
   (aE (bA (iz (dA (cl i S (ac (vv 0) (ac (xi (vv 1) (vv 3)) (a2 (xt (xi (vv 2) (vv 3))) (xt (xi (vv 2) (vv 3))))))))) (aE (aO bW)) cc)))
   (aE (aO bW))))),?_}
 @fa,F,d,nu,fq,es,ps,H0,rfl,R,t,ma,J,I,nl,nk,y,kk:=h;?{_,O,fa,F,d,nu,O,R,t,ma,I,nl,nk,λH1 dq ts x Z g1 D U=>?_};#V:∀{b o},H b=!o->(∀ps,o≠.cf ps)->H1 b=!o:=λe h=>bI t x e h;#c:=V J λ_=>°;#G:FZ H1 fa F d:=R.kp λb o e h=>bI t x e h;#B:=U.1;#r:=lN t x;?{_,O,_,"list",true,O,⋯,.lst c,true,O,bV rfl ?_};?{_,O,fq,_,O,.inl (aA.of c),_,O,dq,_,O,.inl (aA.of D),O,_,O,bV (by[y.len,B];simp) ?_};?{_,O,dq,_,O,.inl (aA.of D),?_};?{(ts.length:Int),O,(),(),lD (n:=ts.length) (λj σ X=>∃M,σ=[!(.ref fa),!(.ref fq),!(.ref dq),M]/\af H1 X) {_,O,af.refl _} ?_ ?_}
 .rintro j σ X hj ⟨M,rfl,g⟩
  #f:j<nu.length:=()
  #p:j<es.length:=by[y.len];!f
  #L:j<ps.length:=by[y.iG];!f
  #ez:=y.at_ j _ _ _ (qh p) (qh L) (qh f);@v,W,b,vp,rfl,h1,h2:=U.at' (qh f)
  #C:∀{α:Type} {xs:List α} {v:α},xs[j]?=!v->l8 xs (0+(j:Int))=!v:=λh=>by[Int.zero_add];!xH h
  #N:=g _ _ h1;#Y:=aZ.of N;#k:=aA.of (g _ _ D);!{_,O,_,O,_,O,fq,es,_,es[j],O,O,aA.of (g _ _ c),C (qh p),_,O,_,O,dq,ts,_,_,O,O,k,C W,b,_,0,_,O,O,Y,O,_,O,_,O,dq,ts,_,_,O,O,k,C W,b,_,1,_,O,O,Y,O,fa,F,d,_,_,_,_,_,vp,O,G.same g,(ez.to r λa ha o q=>V q λ_=>°).same g,h2.ab g.ab,(nk _ (y0 f)).1,λX2 s2=>{true,O,bV rfl {_,O,g.trans s2}}}
 .rintro σ X ⟨M,rfl,g⟩
  !kk X (x.trans g) (Z.same g)
§Eg(T:Txt K mg tk)(F:Ql K mg "document" nN)(J:×xJ)(N:×yN):×zG:=by
 ?Bz F CQ (λ_ _ _ _ _ _ _ u l=>match u,l with|[_,_,_],_=>{_,O,O}) (λ_ _ _ _ _ _ _ u l=>match u,l with|[_,_],_=>{_,O,O}) {} λfa cdv A outer s H vs Q E W h=>?_
 ?{_,(aj (sn CQ.nd 3 (cl N W (ac (vc 0) (a2 (vv 1) (vv 2)))))
   (aj (sm CQ.nd 4 (cy (fR W.hd (p5 W)) T.c6 boot_dict (a1 (iu (own:=["part","number","is_open"]) (fr:=[]) rfl (il (vv 3)) {O,∅,∅} (iX ∅) (λ_ _ _=>(jP (n:=3) rfl (de (cN (i:=0) (by ¤List.Nodup (["part","number","is_open"]:#R9);decide +kernel) rfl (Or.inl rfl)) (de (cN (i:=1) (by ¤List.Nodup (["part","number","is_open"]:#R9);decide +kernel) rfl (Or.inl rfl)) (de (cN (i:=2) (by ¤List.Nodup (["part","number","is_open"]:#R9);decide +kernel) rfl (Or.inl rfl)) g_))))) (λ_=>KG rfl rfl rfl ⋯ ⋯ ⋯) (λ_ _ _=>dI) (λ_ _ _=>(a9 (a2 (vv 0) (vv 1))))))))
   (aE (aO (iu (own:=["part","number","is_open"]) (fr:=[("facts",0),("numbers",4)]) rfl (il (vv 3)) {O,∅,∅} (jX (ag nN) ["facts","roll","hand","told","numbers"] rfl rfl (λ_ h=>fJ h) ∅ ∅ ∅) (λ_ _ _=>(jP (n:=3) rfl (de (cN (i:=0) (by ¤List.Nodup (["part","number","is_open","facts","numbers"]:#R9);decide +kernel) rfl (Or.inl rfl)) (de (cN (i:=1) (by ¤List.Nodup (["part","number","is_open","facts","numbers"]:#R9);decide +kernel) rfl (Or.inl rfl)) (de (cN (i:=2) (by ¤List.Nodup (["part","number","is_open","facts","numbers"]:#R9);decide +kernel) rfl (Or.inl rfl)) g_))))) (λ_=>KG rfl rfl rfl ⋯ ⋯ ⋯) (λ_ _ _=>dI) (λ_ _ _=>(cl J W (ac (vc 3) (ac (vc 4) (a2 (vv 0) (vv 2))))))))))),?_}
 @fa,F,d,r,rfl,fz,X,ma,kk:=h;?{_,O,_,O,_,O,fa,F,d,r,O,fz,X,ma,λH1 q ts nu s1 t1 g1 e1 I hnu l1 nn=>?_};#l2:=I.1;?{_,O,q,O,{_,aA.of e1},c7 (xs:=ts) (lB ()) (λj us H'=>af H1 H'/\∃kvs:#(KD×V×V),cw H' us kvs/\AL (λe x=>e.1=.tup x.1/\e.2.2=.str x.2) kvs (nu.take j)) {af.refl _,[],trivial,.nil} (λ_ _ H' s'=>aA.of (s'.1 _ _ e1)) (λj x us H' K1 K0 D s' k1 k0=>?_) λH3 up us s' hu3 huq=>?_}
 .@s',kvs,pr,R:=s'
  @t,U,tn:=I.at D;@b,Z,rfl,h1,h2,h3,h4:=tn.ab s'.ab;?{b,_,O,aZ.of h1,O,_,_,O,_,_,O,_,_,O,O,?_};?dH (B:=K0 H') ?_;?{_,O,_,O,aF rfl,λtq H4 g4 G e4=>k1 _ _ {s'.trans G,kvs++[(.tup t.1,Z,.str t.2)],cw.snoc (e:=(.tup t.1,Z,.str t.2)) {tq,O,e4,h2.ab G.ab} (pr.ab G.ab),?_}};[qz,U];!R.snoc {O,O}
 @s3,kvs,pr,R:=s';#n3:af H3 (upd H3 up (.lst us)):=af.new huq;[I.1,ze]at R;?{up,us,kvs,O,aA.of aD,pr.ab n3.ab,(),λdq Y g5 s5 e5=>?_};#c:=(s3.trans n3).trans s5
 #hnk:(kvs.map (·.1)).Nodup:=by
  [Lw (g:=λx:#Key×R9=>KD.tup x.1) R λe x p=>p.1];!wb.mpr (List.Pairwise.imp (λh z=>h (KD.tup.inj z)) (wb.mp nn))
 [pV _ [] (by[wz];!hnk),wz]at e5;#nk:=Jm R
 #nl:∀x∈nu,Pn x.1/\x.2.length<=1000:=λx D=>let⟨_,_,_,_,_,_,_,a,b⟩:=I.gF D;{a,b}
 #nd5:mu Y dq (e_ nu):={_,e5,λp _=>{nk p,λz h=>by
  @x,D,rfl:=wj.mp h
  !(nl x (jx D)).2}}
 #fz5:=(fz.kp λb o e h=>bI X s1 e h).same c;#S:=c _ _ e1;?{_,O,q,O,{_,aA.of S},c7 (xs:=ts) (lB ()) (λj us H'=>af Y H'/\∃ps,DC d (e_ nu) (nu.take j) Y H' us ps) {af.refl _,[],{O,O,(λm v e x z=>nomatch z),.nil,λ_=>°}} (λ_ _ H' s'=>aA.of (s'.1 _ _ S)) (λj x us H' K1 K0 D s' k1 k0=>?_) λH9 rq us s' hu C=>?_}
 .@s',ps,f:=s'
  @t,U,tn:=I.at D;#tm:=qw U;@b,Z,rfl,h1,h2,h3,h4:=tn.ab (c.trans s').ab;?{b,_,O,aZ.of h1,O,_,_,O,_,_,O,_,_,O,O,?_};?dH (B:=K0 H') ?_;?{_,O,_,O,_,O,_,O,fa,F,d,dq,e_ nu,Z,t.1,t.2,O,fz5.same s',h2,h3,nd5.same s',FY nn tm,λH4 v e G ez fr=>k1 _ _ {s'.trans G,ps++[e],?_}};[qz,U];?(f.same G).snoc ez (λa L=>s'.free (fr a L)) λy hy a L hb=>?_;@o,M:=f.has hy a L;[fr a hb]at M;&M
 @s9,ps,f:=s';#n9:af H9 (upd H9 rq (.lst us)):=af.new C;[I.1,ze]at f;#k:=c.trans s9;#fr5:∀{a},Y a=£->H a=£:=λh=>X.free s1 t1 (c.free h);?kk _ rq us ps nu (s1.trans (k.trans n9)) (t1.same (k.trans n9)) (X.free s1 t1 (k.free C)) aD hnu l1 nl (DC.same {f.len,f.iG,f.at_,f.nd,λe he a L=>fr5 (f.fr e he a L)} n9) λe he h=>?_;@o,M:=f.has he rq h;[C]at M;&M
§C5(T:Txt K mg tk)(F:EF K "law" "law" eA fa fd)(gfBb:×zK)(gfBg:×yU)(gfAq:×yT)(l:×zG):×gB iH 12 fa fd ["_law_script"] gM:=by
 ?F.ok lW {} λcdv A outer s H vs Q E t h=>?_;#hu1:(A.deeper (envOfC "law" (ag eA) ↑s fa cdv)).units+1<cLine:=cT t
 ?{_,(aj (sn lW.nd 1 (bJ (a2 aQ aQ)))
   (aj (sm lW.nd 2 (cl gfBb t (a2 (vv 0) (vv 1))))
   (aj (uK (i:=3) lW.nd rfl (Or.inl rfl) (own:=["_law_key"]) (fr:=[("_law_facts_here",2)]) rfl (JZ (vc 2)) {O,∅,∅} (jX (ag eA) ["_law_script","_law_roll","_law_facts_here","_law_same","_law_found","_law_entry","_law_one"] rfl rfl (λ_ h=>fJ h) ∅ ∅ ∅) (λ_ _ _=>(cN (i:=0) (by ¤List.Nodup (["_law_key","_law_facts_here"]:#R9);decide +kernel) rfl (Or.inl rfl))) (λ_=>mM rfl) (λ_ _ _=>dI) (λ_ _ _=>(a9 (a2 (vv 0) (cy E7 T.eF boot_list (a1 (cV hu1 (vc 1) (vv 0) (λ_ _=>rfl))))))))
   (aj (sn lW.nd 4 (NA l t (a2 (vc 2) (vv 1))))
   (aj (bA (PW.pt (dC (iz (dA (cl gfBg t (a2 (vc 2) (vv 4))))) (kD (ck (lx t) (vv 4) (cl l.b t (ac (vc 2) (a2 (vv 1) dB))))))) (aE (aO bW)) cc)
   (aj (fo (il (vv 4)) (gn lW.nd 5)
   (aj (fo (il (xt (vv 5))) (gn lW.nd 6)
   (aj (bA (ck (inD t) dB (xt (vv 6))) (aE (aO bW)) cc)
   (aE (ap (xt (vv 6)) (a1 dB)))))
   (aE (bA (iz (dA (cl gfAq t (a1 (vv 5))))) (aE (aO bW)) cc))))
   (aj (ap (vv 4) (a1 dB))
   (aj (bA (PW.pt (dC (iz (dA (cl gfBg t (a2 (vc 2) (NA l t (a2 (vc 2) (vv 1))))))) (kD (ck (lx t) (tO (ag eA) zN [("_law_facts_here",2)] (JZ (vc 2)) (λ_ _ _=>dI) (λ_ _ _=>(a9 (a2 (vv 0) (cV hu1 (vc 1) (vv 0) (λ_ _=>rfl)))))) (vv 3))))) (aE (aO bW)) cc)
   (aj (mX (BO PySem.F.plainAttrs_list PySem.F.slot_list_clear PySem.F.type_list_clear Ml (cV hu1 (vc 2) aQ (λ_ _=>rfl))))
   (aE (aO (ce (RU t) (zQ (il (NA l t (a2 (vc 2) (vv 1)))) (λ_ _ _=>(fB (ck (lx t) (xt (vv 0)) (bJ cS)))) (λ_ _ _=>(vv 0))) (bJ cS))))))))))))),?_}
 @sp,ns,rfl,hs,hl,tt,ma,kk:=h;?{aF rfl,λr H1 g1 s1 e1=>?_};?{_,O,_,O,sp,ns,r,O,hs.same s1,hl,e1,λH2 fa F d s12 fz=>?_};#s02:=s1.trans s12;@xs,hx:=fz.lists;@x3,x4,x5,fs2:=fz.fs;#nF:∀i,i<9->F i≠fa:=λi hi=>(J6 fs2.dk (hx i hi).1).symm;?{_,O,fa,cE F 9,O,O7 fs2.dk λo Y hY fY eY=>?_};?JR (by ¤9<=_;!aF rfl) (λj ys H'=>af Y H'/\∃C:Nat->R0,j2 H' ys (cE C j)/\∀i,i<j->H' (C i)=!(.lst (xs i))) {af.refl _,λ_=>fa,trivial,λi z=>absurd z (vj i)} (λ_ _ H' s'=>s'.1 _ _ eY) (λj k v ys H' K1 K0 f s' k1 k0=>?_) λH' np ys s' D hq=>?_
 .@s',C,pr,hC:=s'
  #R:j<9:=(qk.mp f).1
  #hk:k=kN j:=by
   unfold cE at f;[qu,yq R]at f;!(congrArg Prod.fst (qJ f)).symm
  £hk;?dH (B:=K0 H') ?_;?{_,O,_,O,_,O,fa,.ref (F j),O,.inl {cE F 9,kN j,.inr {o,s' _ _ eY},O,(cR F j R).symm},F j,xs j,O,.inl (aA.of (s' _ _ (hY _ _ (nF j R) (hx j R).1))),λq H3 g3 s3 e3=>?_};?{aF rfl,λtq H4 g4 s4 e4=>k1 _ _ {(s'.trans s3).trans s4,λi=>if i=j then q else C i,?_,λi hi=>?_}}
  .[Nx]
   !Ef (e:=(kN j,.ref q)) {tq,O,e4} (pT (s3.trans s4).ab pr)
  .¤H4 (if i=j then q else C i)=_
   ¿z:i=j
   .[qF z,z];!s4 _ _ e3
   .[qB z];!(s3.trans s4) _ _ (hC i ())
 @s',C,pr,hC:=s';#nH:af H' (upd H' np (.lst ys)):=af.new hq;#kp3:KP (upd H' np (.lst ys)) np ys C xs:={aD,pT nH.ab pr,λi hi=>nH _ _ (hC i hi)};#k3:∀b u,b≠fa->H2 b=!u->(upd H' np (.lst ys)) b=!u:=λb u n e=>nH _ _ (s' _ _ (hY b u n e));#e3:=nH _ _ (s' _ _ eY);#J:FZ (upd H' np (.lst ys)) fa F d:=fz.cJ (.inr {o,e3}) λb u n e _=>k3 b u n e
 #N:∀{b u},H2 b=!u->(∀kv,u≠.dK kv)->(∀o kv,u≠.cJ o (.dK kv))->b≠fa:=λ{b u} e h1 h2 z=>by
  [z]at e;@q|⟨o',q⟩:=fs2.dk <;> rw[q]at e <;> &e
  .!h1 _ rfl
  .!h2 _ _ rfl
 #tt3:dj (upd H' np (.lst ys)):=(tt.same s02).keep λb u e h=>k3 b u (N e (λkv z=>by @⟨_,y⟩|⟨_,y⟩:=h <;> rw[y]at z <;> &z) λo kv z=>by @⟨_,y⟩|⟨_,y⟩:=h <;> rw[y]at z <;> &z) e
 #S:MA (upd H' np (.lst ys)):=k3 _ _ (N (s02 _ _ ma) (λ_=>°) λ_ _ z=>nomatch z) (s02 _ _ ma);#hx3:∀i,i<9->(upd H' np (.lst ys)) (F i)=!(.lst (xs i)):=λi hi=>k3 _ _ (nF i hi) (hx i hi).1;#t23:ai H2 (upd H' np (.lst ys)):=λb us e=>k3 _ _ (N e (λ_=>°) λ_ _ z=>nomatch z) e
 obtain⟨dF,hdF,hdO⟩:∃dF:Nat->#RY,(∀i,i<9->cx H2 (xs i) (dF i))/\∀i,∀d∈dF i,d.canLay0=¶/\sk d d=¶/\d.depth<=5:=by
  ?{λi=>if h:i<9 then Classical.choose (vU (hx i h).2) else[],λi hi=>?_,λi=>?_}
  .simp only[dif_pos hi]
   !(Classical.choose_spec (vU (hx i hi).2)).1
  .¿hi:i<9
   .simp only[dif_pos hi]
    !(Classical.choose_spec (vU (hx i hi).2)).2
   .simp only[dif_neg hi]
    !λ_=>°
 #er3:(upd H' np (.lst ys)) r=!(.lst [.str "ann",.str "bo"]):=k3 _ _ (N (s12 _ _ e1) (λ_=>°) λ_ _ z=>nomatch z) (s12 _ _ e1);¤mW _ _ _ _ (upd H' np (.lst ys));generalize upd H' np (.lst ys)=H3 at kp3 e3 J tt3 S hx3 t23 er3;clear nH k3 N hY fY eY s' pr hC hq D;?{_,O,_,O,fa,F,d,.ref r,O,J,tt3,S,λH4 q es ps nu s4 t4 gq eq hnu nl nk dc nq=>?_};#k4:∀b o,H3 b=!o->(∀ps,o≠.cf ps)->H4 b=!o:=λb o e h=>bI tt3 s4 e h;#fz4:=J.kp k4;#ma4:MA H4:=k4 _ _ S λ_=>°;?{_,O,_,O,fa,F,d,nu,q,es,ps,H3,O,fz4,t4,ma4,eq,hnu,nl,nk,dc,λH5 s5 t5=>{true,O,bV rfl ?_}};#k5:∀b o,H4 b=!o->(∀ps,o≠.cf ps)->H5 b=!o:=λb o e h=>bI t4 s5 e h;#fz5:=fz4.kp k5;#ma5:MA H5:=k5 _ _ ma4 λ_=>°;?{_,O,_,O,_,O,fa,F,d,.ref r,O,fz5,t5,ma5,λH6 q' es' ps' g s6 t6 gq' eq' hnu' nl' nk' dc' nq'=>?_};#k6:∀b o,H5 b=!o->(∀ps,o≠.cf ps)->H6 b=!o:=λb o e h=>bI t5 s6 e h;#hnn:=hnu'.eq fz.xw hnu;£hnn;#k46:∀b o,H4 b=!o->(∀ps,o≠.cf ps)->H6 b=!o:=λb o e h=>k6 _ _ (k5 _ _ e h) h;#dc6:=dc.kp k46;#L:=k46 _ _ eq λ_=>°;#dy:=fz.Oz hnu nk;?{xj d g,xj d g,dc6.dv L,dc'.dv eq',dy.1,dy.1,qg (yb _ _) (qg dy.2 ⋯),_,O,bV (mE rfl dy.1) ?_};#k36:∀b o,H3 b=!o->(∀ps,o≠.cf ps)->H6 b=!o:=λb o e h=>k46 _ _ (k4 _ _ e h) h
 #hnS:∀p z,e_ g p=!z->PyData.strOk z=¶:=λp z e=>by
  @y,D,rfl:=wj.mp e;!hnu.ok fz.xw y (jx D)
 ?{_,O,q,O,{_,aA.of L},eH (xs:=es) (λj σ X=>∃u5 u6,σ=[!(.ref sp),!(.ref r),!(.ref fa),!(.ref np),!(.ref q),u5,u6]/\af (bP H6 (λb=>∃e∈ps.take j,b∈e.A++e.B)) X) {_,_,O,rX} (λj σ X _ ⟨_,_,_,s⟩=>aA.of (c_ s L λ⟨e,he,h⟩=>nq e (yj he) h)) ?_ ?_}
 .rintro j x σ X f ⟨u5,u6,rfl,sX⟩
  #R:=(qk.mp f).1
  #hjn:j<g.length:=by[←dc.len];!R
  #hjp:j<ps.length:=by[dc.iG];!hjn
  obtain⟨e,he⟩:∃e,ps[j]?=!e:={_,qh hjp};obtain⟨⟨p,z⟩,hn⟩:∃y,g[j]?=!y:={_,qh hjn};#ez6:=dc6.at_ j _ _ _ f he hn;#own:=NS dc.nd he;#kX:∀b o,(∀e∈ps.take j,b∉e.A++e.B)->H6 b=!o->X b=!o:=λb o n q=>c_ sX q λ⟨e,he,h⟩=>n e he h
  #tX:ai H6 X:=λb us q=>kX b _ (λe he h=>by
   @o,ho:=dc6.has (yj he) b h
   [q]at ho;&ho) q
  #M:EZ d (e_ g) X x e p z:=ez6.to tX λa ha o q=>kX a _ (own a ha) q;@rfl:=M.vb;@zs,eq2,arz:=M.rw_;#ndA:=(wt.mp M.nd).1
  #q2A:e.q2∉e.A:=λh=>(List.nodup_append.mp M.nd).2.2 _ h _ (by simp[EP.B]) rfl
  #lia:=arz.1;?{_,O,e.b,_,2,_,O,O,aZ.of M.tp,O,e.q2,O,{_,aA.of eq2},eH (xs:=zs) (λi σ Y=>∃u6,σ=[!(.ref sp),!(.ref r),!(.ref fa),!(.ref np),!(.ref q),!(.ref e.b),u6]/\af (bP X (·∈e.A.take i)) Y/\AL (Rk d p (e_ g) Y) (zs.take i) (e.ia.take i)) {_,O,rX,.nil} (λi σ Y _ ⟨_,_,s,_⟩=>aA.of (c_ s eq2 λh=>q2A (yj h))) ?_ ?_}
  .rintro i v σ Y hv ⟨v6,rfl,sY,aY⟩
   @y,ey,b,vn,ms,rfl,h1,h2,h3,h4:=arz.at hv;#hi:=(qk.mp ey).1
   #hAi:e.A[i]?=!y.2:=by ¶EP.A;[qu,ey];rfl
   #na:y.2∉e.A.take i:=λh=>by
    @m,hm,q:=r8.mp h;#hAl:=(qk.mp hAi).1;#:=(j4 ndA (h₀:=by ¥) (h₁:=hAl)).mp (q.trans (qk.mp hAi).2.symm);¥
   #tY:ai X Y:=λb us q=>c_ sY q λh=>by
    @o,ho:=M.has b (wg _ (yj h));[q]at ho;&ho
   #eY:=c_ sY h3 na;#h1':=aZ.of (tY _ _ h1);#d4:=h4.ab tY;#my:=fz.M7 (p:=p) y.1
   #ml:ms.length<=63:=by[My.cx.len h4];!Mc fz p y.1
   ?{_,O,b,_,2,_,O,O,h1',O,.none,y.2,_,ms,.aR,O,.inl (aA.of eY),d4.dv,O,my.1,qv _,_,O,bV (sy my.1 λx hx=>Ej hx).2 ?_};?{_,O,b,_,2,_,O,O,h1',O,.inl {O,_,aA.of eY},y.2,ms,_,O,O,eY,fW (),?_};#t2:ai Y (upd Y y.2 (.lst (ms++[.aR]))):=ai.wl eY;?{_,O,λc o q=>?_,?_}
   .#nb:c∉e.A.take (i+1):=λh=>by[dQ h]at q;&q
    [d_ nb]at q;[qz,hAi]at nb;#n1:c∉e.A.take i:=λh=>nb (wg _ h)
    #n2:c≠y.2:=λh=>nb (by[h];simp)
    [ax n2];!c_ sY q n1
   .[qz,qz,hv,ey]
    ?AL.snoc (aY.pf λv x _ hx ⟨b,vn,ms',e1,k1,k2,k3,k4⟩=>{b,vn,ms',e1,t2 _ _ k1,NM.ab k2 t2,?_,k4.ab t2}) {b,vn,ms,O,t2 _ _ (tY _ _ h1),NM.ab h2 (tY.trans t2),aD,d4.ab t2};[ax (λz=>na ?_)]
    .!k3
    .[←z];¶EP.A;[←List.map_take];!qf.mpr {x,hx,O}
  .rintro σ Y ⟨v6,rfl,sY,aY⟩
   [ze,lia,ze]at aY;#hAl:e.A.take zs.length=e.A:=yr (by ¶EP.A;[qj,lia];!qe _);[hAl]at sY;#esY:=M.es fz hnS sY eq2 aY;?{_,O,e,z,O,esY,λZ sZ=>{true,O,bV rfl {_,_,O,λb o q=>?_}}}
   #nb:¬∃y∈ps.take (j+1),b∈y.A++y.B:=λh=>by[dQ h]at q;&q
   [d_ nb]at q;[qz,he]at nb;#n1:∀y∈ps.take j,b∉y.A++y.B:=λy D h=>nb {y,wg _ D,h}
   #n2:b∉e.A++e.B:=λh=>nb {e,by simp,h}
   !c_ sZ (c_ sY (kX b o n1 q) λh=>n2 (wg _ h)) λh=>n2 (zy _ h)
 rintro σ X ⟨u5,u6,rfl,sX⟩
 #nS:∀{b o},H3 b=!o->¬∃e∈ps.take es.length,b∈e.A++e.B:=λ{b o} e ⟨y,D,hb⟩=>by
  [dc.fr y (yj D) b hb]at e;&e
 #kX:∀b o,H3 b=!o->(∀ps,o≠.cf ps)->X b=!o:=λb o e h=>c_ sX (k36 b o e h) (nS e)
 #tX:dj X:=t6.keep λb u e h=>c_ sX e λ⟨y,D,hb⟩=>by
  @o,ho:=dc6.has (yj D) b hb;[e]at ho;@⟨_,h⟩|⟨_,h⟩:=h <;> rw[h]at ho <;> &ho
 #eqX:X q=!(.lst es):=c_ sX L λ⟨y,D,h⟩=>nq y (yj D) h;?{_,O,.inl {O,_,aA.of eqX},q,es,_,O,O,eqX,fW (by[dc.len];¥),?_}
 #kU:∀b o,H3 b=!o->(∀ps,o≠.cf ps)->(upd X q (.lst (es++[.aR]))) b=!o:=λb o e h=>by
  [ax (λz=>by[z,gq]at e;&e)];!kX b o e h
 #tU:dj (upd X q (.lst (es++[.aR]))):=tX.wr eqX (λ_=>°) (λ_=>°);¤mW _ _ _ _ (upd X q (.lst (es++[.aR])));generalize upd X q (.lst (es++[.aR]))=U at kU tU;clear tX kX eqX sX nS k36 dc6 L k46 k6 dc' k5 k4;#fzU:=J.kp kU;#maU:MA U:=kU _ _ S λ_=>°;?{_,O,_,O,_,O,fa,F,d,.ref r,O,fzU,tU,maU,λH7 q7 es7 ps7 nu7 s7 t7 gq7 eq7 hnu7 nl7 nk7 dc7 nq7=>?_};#k7:∀b o,U b=!o->(∀ps,o≠.cf ps)->H7 b=!o:=λb o e h=>bI tU s7 e h;#fz7:=fzU.kp k7;#ma7:MA H7:=k7 _ _ maU λ_=>°;?{fa,F,d,nu7,q7,es7,ps7,U,O,fz7,t7,ma7,eq7,hnu7,nl7,nk7,dc7,λH8 s8 t8=>{true,O,bV rfl ?_}};#k8:∀b o,H3 b=!o->(∀ps,o≠.cf ps)->H8 b=!o:=λb o e h=>bI t7 s8 (k7 _ _ (kU b o e h) h) h;#e8:H8 fa=!(.cJ o (.dK (cE F 9))):=k8 _ _ e3 λ_=>°;?{_,O,fa,cE F 9,O,.inr {o,e8,?_}};?JR (by ¤9<=_;!aF rfl) (λj ys H'=>af H8 H'/\j2 H' ys (cE F j)) {af.refl _,trivial} (λ_ _ H' s'=>s'.1 _ _ e8) (λj k v ys H' K1 K0 f s' k1 k0=>?_) λH9 V ys9 s' D hq=>?_
 .@s',pr:=s'
  #R:j<9:=(qk.mp f).1
  #hk:k=kN j:=by
   unfold cE at f;[qu,yq R]at f;!(congrArg Prod.fst (qJ f)).symm
  £hk;?dH (B:=K0 H') ?_;?{_,O,_,O,_,O,fa,.ref (F j),O,.inl {cE F 9,kN j,.inr {o,s' _ _ e8},O,(cR F j R).symm},aF rfl,λtq H4 g4 s4 e4=>k1 _ _ {s'.trans s4,?_}}
  #:cE F (j+1)=cE F j++[(kN j,.ref (F j))]:=by ¶cE;[yi,z7];rfl
  [this];!Ef (e:=(kN j,.ref (F j))) {tq,O,e4} (pT s4.ab pr)
 @s9,pr:=s';#nH:af H9 (upd H9 V (.lst ys9)):=af.new hq;#kp9:KP (upd H9 V (.lst ys9)) V ys9 F xs:={aD,pT nH.ab pr,λi hi=>nH _ _ (s9 _ _ (k8 _ _ (hx3 i hi) λ_=>°))};#k9:∀b o,H3 b=!o->(∀ps,o≠.cf ps)->(upd H9 V (.lst ys9)) b=!o:=λb o e h=>nH _ _ (s9 _ _ (k8 b o e h));#t9:=(t8.same s9).same nH;¤_;generalize upd H9 V (.lst ys9)=G at kp9 k9 t9;#t2G:ai H2 G:=λb us e=>k9 _ _ (t23 _ _ e) λ_=>°;#dG:∀i,i<9->cx G (xs i) (dF i):=λi hi=>(hdF i hi).ab t2G;#kpG:KP G np ys C xs:={k9 _ _ kp3.ek (λ_=>°),pT (λb us e=>k9 _ _ e (λ_=>°)) kp3.pr,λi hi=>k9 _ _ (kp3.at_ i hi) (λ_=>°)};@o1,o2,o3:=Qz hdO;?{_,O,gT dF,gT dF,kp9.dv dG,kpG.dv dG,o1,o1,qg (yb _ _) (qg o3 ⋯),_,O,bV (mE rfl o1) ?_};#fzG:=J.kp k9;#maG:MA G:=k9 _ _ S λ_=>°;@y3,y4,y5,I:=fzG.fs;?{_,O,fa,.ref (F 5),O,.inl {cE F 9,.inr "notes",I.dk,O,(cR F 5 ⋯).symm},?_};?{.inl {O,_,aA.of I.nl},F 5,y5,O,O,I.nl,?_};#fzC:=fzG.RK;#tZ:dj (upd G (F 5) (.lst [])):=t9.wr I.nl (λ_=>°) (λ_=>°);#maC:MA (upd G (F 5) (.lst [])):=ai.wl I.nl _ _ maG;generalize upd G (F 5) (.lst [])=Z at fzC tZ maC;?{_,O,_,O,fa,F,_,.ref r,O,fzC,tZ,maC,λZ1 q1 es1 ps1 nu1 s1' t1' gq1 eq1 hnu1 nl1 nk1 dc1 nq1=>?_}
 #hel:es1.length<=63:=by[dc1.len];!nl1
 ?{q1,O,{_,aA.of eq1},c7 (xs:=es1) (lB ()) (λj us W=>af Z1 W/\us=[]) {af.refl _,O} (λ_ _ W s'=>aA.of (s'.1 _ _ eq1)) (λj x us W K1 K0 f s' k1 k0=>?_) λW npW us s' hu hq=>?_}
 .@sW,rfl:=s'
  #R:=(qk.mp f).1
  #hjn:j<nu1.length:=by[←dc1.len];!R
  #hjp:j<ps1.length:=by[dc1.iG];!hjn
  #M:=(dc1.at_ j _ _ _ f (qh hjp) (qh hjn)).same sW;@rfl:=M.vb;?{_,O,_,_,3,_,O,O,aZ.of M.tp,O,aF rfl,λlp W2 g2 s2 e2=>?_};?{.list [],.list [],(M.same s2).not,.lst (aA.of e2) .nil,O,O,⋯,_,O,bV rfl (k0 _ {sW.trans s2,O})}
 @sW,rfl:=s';!{aF rfl,λlp W2 g2 s2 e2=>{npW,lp,[],O,O,aA.of (s2 _ _ aD),aA.of e2,kk _}}
end
§all_mk{l:PySem.W.OpenLaw}{w:World}{K:PySem.W.Frag}{h:Heap}{mg:R9->Option MD}{fa:R0}(X:K.In h)(G:h.Ns mainGlobals mg)(hfa:mg "law"=!(.ref fa))(B:PySem.W.nsIn K mainGlobals "dict"=!none)(f:PySem.W.nsIn K mainGlobals "enumerate"=!none)(H:PySem.W.nsIn K mainGlobals "int"=!none)(d:PySem.W.nsIn K mainGlobals "isinstance"=!none)(I:PySem.W.nsIn K mainGlobals "len"=!none)(z:PySem.W.nsIn K mainGlobals "list"=!none)(L:PySem.W.nsIn K mainGlobals "max"=!none)(m:PySem.W.nsIn K mainGlobals "range"=!none)(k:PySem.W.nsIn K mainGlobals "sorted"=!none)(J:PySem.W.nsIn K mainGlobals "str"=!none)(n:PySem.W.nsIn K mainGlobals "tuple"=!none)(F:PySem.W.nsIn K mainGlobals "MAIN"=!(!(.ref cn)))(z_fAx:FX K "birth_chain" uc)(z_fAw:FX K "told_leaves" qT)(z_fAr:FX K "key_of_leave" rC)(z_fCc:FX K "is_let" sU)(z_fBn:FX K "has_leave" qY)(z_fAn:FX K "key_of_place" ua)(z_fAl:FX K "followers_of" uH)(z_fBx:FX K "ordered" ue)(z_fBo:FX K "signs_in" kR)(z_fCb:FX K "row_of" sQ)(z_fCa:FX K "living" oo)(z_fAj:FX K "place_of_side" tV)(z_fBy:FX K "stretch" uO)(z_fBt:FX K "seats_in" rY)(R:FX K "key_of_mark" sL)(z_fAe:FX K "telling_in_row" lg)(z_fAi:FX K "told_of_signs" iY)(z_fBv:FX K "marks_of" rD)(z_fBa:FX K "key_of_note" se)(z_fBw:FX K "notes_of" iT)(z_fAc:FX K "telling_places" kO)(z_fBz:FX K "way_out" tP)(b:mU K "greatest_place"=bB)(z_fAg:FL K "greatest_place" tI bB)(z_fBk:FX K "turned_in" sN)(M:FX K "stood_in" su)(z_fAk:FX K "reaching_main" uu)(z_fBm:FX K "stands_in" oM)(z_fAv:FX K "shown_among" lH)(a:mU K "all_inner_parts"=a_)(z_fAa:FL K "all_inner_parts" rV a_)(z_fAs:FX K "inner_parts" rP)(z_fBq:FX K "lines_of" jC)(z_fAt:FX K "key_of_cell" sO)(z_fBd:FX K "words_told" k_)(z_fBu:FX K "table_of" nT)(z_fBs:FX K "may_read" oN)(N:FX K "inner_number" rQ)(z_fAd:FX K "numbered_parts" nV)(z_fAp:FX K "text_of_sign" sv)(z_fBi:FX K "shown_row" iW)(z_fCd:FX K "entry" qX)(z_fBp:L8 K "document" nN)(z_fAo:FX K "_law_cell_at" rA)(Z:FX K "_law_drawn" uh)(z_fBh:FX K "_law_draw" uD)(z_fBe:FX K "_law_parts" ow)(z_fBl:FX K "_law_sign" sE)(z_fBc:FX K "_law_signs" oG)(z_fBj:FX K "_law_side" rZ)(z_fAf:FX K "_law_stretches" oA)(z_fAu:FX K "_law_tables" nU)(z_fAz:FX K "_law_leaves" oy)(z_fBb:FX K "_law_facts" nE)(z_fAh:FX K "_law_numbered" uf)(z_fAb:FX K "_law_entry_good" rK)(z_fBg:FX K "_law_right" rT)(z_fAq:FX K "_law_spoiled" rB)(z_fCe:FX K "law" eA) :
  ∃fd:FuncData,(∀(s:RX) (v:MD),BindsTo s fd {[v],[]} [("_law_script",v)])/\∀base:Heap,K.In base->base.Ns mainGlobals mg->(∀t∈Nj,base.BuiltinsAt mg (mU K t))->gB l.prog w K mg base iH 12 fa fd ["_law_script"] gM:=by
 #T:Txt K mg (λx=>0):={PySem.W.mg_none_of X G B,PySem.W.mg_none_of X G f,PySem.W.mg_none_of X G H,PySem.W.mg_none_of X G d,PySem.W.mg_none_of X G I,PySem.W.mg_none_of X G z,PySem.W.mg_none_of X G L,PySem.W.mg_none_of X G m,PySem.W.mg_none_of X G k,PySem.W.mg_none_of X G J,PySem.W.mg_none_of X G n,PySem.W.mg_of X G F};@@⟨_,_,an,_,_,kV,dc,pm,cd,ct,z1,z2,z3,z4⟩:=z_fCe;#e:=hfa.symm.trans (PySem.W.mg_of X G z1);&e;?{PySem.W.fnOf "law" "law" (b_ eA) (bL eA) (ag eA) .none kV dc pm an cd ct,λs v=>.of_eq rfl,λbase _ _ hBs=>?_};#Y:=Er l.prog w base T (z_fAx.fo X G);#r_fAr:=DK l.prog w base T (z_fAr.fo X G);#r_fAn:=BZ l.prog w base T (z_fAn.fo X G);#D:=E9 l.prog w base T (z_fBo.fo X G);#r_fAj:=CP l.prog w base T (z_fAj.fo X G);#j:=Bv l.prog w base T (z_fBt.fo X G);#r_fAy:=Dl l.prog w base T (R.fo X G);#r_fBa:=DB l.prog w base T (z_fBa.fo X G);#r:=ET l.prog w base T (z_fAc.fo X G);#o:=Fl l.prog w base T (z_fBz.fo X G);#r_fAt:=Ao l.prog w base T (z_fAt.fo X G);#r_fAm:=AG l.prog w base T (N.fo X G);#Q:=A9 l.prog w base T (z_fAp.fo X G);#r_fAo:=C9 l.prog w base T (z_fAo.fo X G);#r_fBf:=Dd l.prog w base T (Z.fo X G);#c:=EO l.prog w base T (z_fBh.fo X G);#r_fAq:=E4 l.prog w base T (z_fAq.fo X G);#C:=Cd l.prog w base T (z_fBy.fo X G) r_fAj;#q:=Cb l.prog w base T (z_fAk.fo X G) o;#r_fBe:=Bs l.prog w base T (z_fBe.fo X G) c;#r_fBl:=Aj l.prog w base T (z_fBl.fo X G) c;#r_fBj:=AY l.prog w base T (z_fBj.fo X G) c;#O:=Fk l.prog w base T (z_fAu.fo X G) c;#r_fAz:=AS l.prog w base T (z_fAz.fo X G) c;#r_fAw:=Fb l.prog w base T (z_fAw.fo X G) r_fAr;#S:=Em l.prog w base T (z_fAl.fo X G) r_fAn;#r_fAe:=DX l.prog w base T (z_fAe.fo X G) r_fAy j C;#r_fAg:=Cv l.prog w base T (z_fAg.fo X G) (b▸hBs "greatest_place" (by simp));#r_fAv:=A5 l.prog w base T (z_fAv.fo X G) q;#r_fBd:=BY l.prog w base T (z_fBd.fo X G) r_fAt;#r_fBc:=Ec l.prog w base T (z_fBc.fo X G) c r_fBl;#r_fAf:=BN l.prog w base T (z_fAf.fo X G) c r_fBj;#r_fCc:=Bx l.prog w base T (z_fCc.fo X G) r_fAw;#E:=B_ l.prog w base T (z_fBx.fo X G) S;#V:=Dm l.prog w base T (z_fBk.fo X G) r_fAg o;#r_fBb:=Dk l.prog w base T (z_fBb.fo X G) r_fAo r_fBf r_fAz r_fBe r_fBc r_fAf O;#r_fBn:=CZ l.prog w base T (z_fBn.fo X G) Y r_fCc;#i:=D0 l.prog w base T (z_fCb.fo X G) E D;#r_fBr:=EC l.prog w base T (M.fo X G) V;#r_fBq:=Bq l.prog w base T (z_fBq.fo X G) E;#g:=DJ l.prog w base T (z_fCa.fo X G) i D;#r_fBm:=C0 l.prog w base T (z_fBm.fo X G) q r_fBr r;#A:=BE l.prog w base T (z_fBu.fo X G) r_fBq r_fBd;#r_fBs:=BI l.prog w base T (z_fBs.fo X G) r_fBn;#r_fAi:=BQ l.prog w base T (z_fAi.fo X G) g i j r_fAe;#y:=AD l.prog w base T (z_fBw.fo X G) r_fBa g i j C;#p:=DE l.prog w base T (z_fAa.fo X G) (a▸hBs "all_inner_parts" (by simp)) r_fAv r_fBm r;#u:=D5 l.prog w base T (z_fBv.fo X G) r_fAi;#r_fAs:=Ax l.prog w base T (z_fAs.fo X G) p;#r_fAd:=Cu l.prog w base T (z_fAd.fo X G) p r_fAm r_fBs;#r_fBi:=BM l.prog w base T (z_fBi.fo X G) g u Q;#r_fAh:=EB l.prog w base T (z_fAh.fo X G) r_fAs;#r_fAb:=A4 l.prog w base T (z_fAb.fo X G) g u y A;#r_fCd:=D3 l.prog w base T (z_fCd.fo X G) y r_fBi A;#r_fBg:=Al l.prog w base T (z_fBg.fo X G) r_fAb r_fAh;#U:=Eg l.prog w base T (z_fBp.fo X G) r_fCd r_fAd;!C5 l.prog w base T (G7 (st:=eA) z2 z3 z4) r_fBb r_fBg r_fAq U
end My
end
namespace PySem.W.Fast
def tw12985218675031900320:=0
def tw16776826376239431936:=0
def tw6216161760905529664:=0
def tw12849150648658771360:=0
def tw12671879836256497120:=0
def tw1688498460886921792:=0
def tw13833635371347742304:=0
def tw7436357593521092288:=0
def tw3287284420717752032:=0
def tw5362184228362257601:=0
def tw3314655444987426145:=0
def tw3754103664451825473:=0
def tw17876134982366745537:=0
def tw2972481995834962913:=0
def tw1648112585680250082:=0
def tw13371211309593114114:=0
def tw13855873399960521346:=0
def tw4005685956419921826:=0
def tw8164588913313075106:=0
def tw6552172231463455747:=0
def tw7047966714926506019:=0
def tw13045416782847258819:=0
def tw15684302559220741411:=0
def tw6784720217340451139:=0
def tw16080329337787642211:=0
def tw12118360419409232483:=0
def tw13085929808146272963:=0
def tw9773101975501485763:=0
def tw9504779946175235268:=0
def tw5849430606811404676:=0
def tw15809224264961697188:=0
def tw17601237153304848900:=0
def tw11504501162779298468:=0
def tw13581483161106651940:=0
def tw6818333432302001092:=0
def tw11228637687868213220:=0
def tw17761781613663958117:=0
def tw1902009531834479013:=0
def tw18359165922024290821:=0
def tw17679411888650209893:=0
def tw3180793208172106950:=0
def tw10703232823945223462:=0
def tw14762620983017040454:=0
def tw436741585952278246:=0
def tw13821091318503938790:=0
def tw7559348056424761126:=0
def tw5688001550589483942:=0
def tw10631214529547062311:=0
def tw7704253955165697191:=0
def tw11625910756539024615:=0
def tw5684146784397069735:=0
def tw7126234440493180391:=0
def tw8116946224669845127:=0
def tw4887832621979050695:=0
def tw2092058767103387527:=0
def tw16734303277858768871:=0
def tw15435904457711661128:=0
def tw1871318997804178952:=0
def tw3759523304258575912:=0
def tw11380590469412940456:=0
def tw6587596054858156968:=0
def tw11296868940239860712:=0
def tw13613753429432515817:=0
def tw16923433609352581385:=0
def tw9264901561667184105:=0
def tw2565531393582689865:=0
def tw12727464126533701481:=0
def tw13005579148435205130:=0
def tw10901838820702788778:=0
def tw16282553714347009258:=0
def tw10057766064550509898:=0
def tw224902391223486826:=0
def tw12783530445732577642:=0
def tw13820635313862515210:=0
def tw5372676616550053386:=0
def tw1411522385297813034:=0
def tw18419591668538766122:=0
def tw5106373172952200010:=0
def tw4020365933320976523:=0
def tw10764867027627485387:=0
def tw1215403954393711979:=0
def tw16933598222241168843:=0
def tw15537597128003670539:=0
def tw4176592412142251787:=0
def tw1083436648376657004:=0
def tw5794329909658624236:=0
def tw1362303815874573644:=0
def tw16651766848853328332:=0
def tw7269612856287769196:=0
def tw16430176146290289324:=0
def tw13354894270324747948:=0
def tw4477724049008598764:=0
def tw8539164048742048845:=0
def tw1493340363455349869:=0
def tw1479780363293642029:=0
def tw12659446691440795277:=0
def tw16989934062945394605:=0
def tw5378891155617930670:=0
def tw10397756180361632174:=0
def tw7435146577839596174:=0
def tw4877027194479269710:=0
def tw6895855941774003118:=0
def tw6436385913859057646:=0
def tw15201439954770534415:=0
def tw13146514151554410607:=0
def tw11002742189760297103:=0
def tw15830032059181117967:=0
def tw12137047318847905359:=0
def tw16886120406805791343:=0
def tw11796231948009701071:=0
def tw14747145727093143311:=0
def tw3879383331660714927:=0
def tw8988217334974878736:=0
def tw12994834562918497392:=0
def tw16018440270842900688:=0
def tw6462710278867381520:=0
def tw317341847253011856:=0
def tw4858029035607900624:=0
def tw8710464706835039728:=0
def tw4013093591498150480:=0
def tw6951935912091645648:=0
def tw13217740297144665840:=0
def tw18228289348148800336:=0
def tw6550022125387774864:=0
def tw11939372010118754192:=0
def tw17386563822920341456:=0
def tw11247821353083907313:=0
def tw9589373269517311889:=0
def tw2579069780304677906:=0
def tw10594176333932629490:=0
def tw14253948729343224722:=0
def tw3695677086193731667:=0
def tw18296782803967282387:=0
def tw2129919515351866643:=0
def tw17356631105929050547:=0
def tw5824504402377116179:=0
def tw3028618541604736595:=0
def tw3898672153898788499:=0
def tw3879004010491717331:=0
def tw16779280584312086259:=0
def tw15445801325804923859:=0
def tw1342453265821104628:=0
def tw9206345880263516756:=0
def tw16144347958715663124:=0
def tw13421952017176454068:=0
def tw14586081107364473877:=0
def tw10509163875161518197:=0
def tw10698057604180639957:=0
def tw9071979129299292469:=0
def tw5310095562132067733:=0
def tw872246694353012149:=0
def tw13226022654770089461:=0
def tw10174446787728304661:=0
def tw12705760307151725077:=0
def tw14632950744964482645:=0
def tw14395727718876023381:=0
def tw4466577453476096661:=0
def tw13974973313771299541:=0
def tw11378581769105350453:=0
def tw17482470120841708437:=0
def tw1496134293402403765:=0
def tw14315470241308795254:=0
def tw17525606843486789014:=0
def tw9051851678936767894:=0
def tw8915542250018628086:=0
def tw10297604927311136694:=0
def tw3069831929452941335:=0
def tw11507447023384957047:=0
def tw9438976110966107287:=0
def tw11143100371567496471:=0
def tw2001214083905545655:=0
def tw4172523334001465783:=0
def tw7526958185302430199:=0
def tw7675557318767034135:=0
def tw17811092860397209367:=0
def tw10417055518829201271:=0
def tw3956979294702132119:=0
def tw6839779298024752440:=0
def tw15659677503272270328:=0
def tw5205926208034491992:=0
def tw5298328991028285080:=0
def tw16564009565020754648:=0
def tw3934181409427994424:=0
def tw17959606398324524856:=0
def tw1754082834881791928:=0
def tw7700289208371896312:=0
def tw5021406084511269305:=0
def tw17500427898333279833:=0
def tw12316901196009594457:=0
def tw13979059837277657721:=0
def tw5241334952966790809:=0
def tw16622685369387349785:=0
def tw1958890065478160217:=0
def tw6240676634005523866:=0
def tw14913588810743347130:=0
def tw4581709162277486522:=0
def tw18127106121448398875:=0
def tw7182223616975406139:=0
def tw1265537752004623707:=0
def tw7034062521554682267:=0
def tw1837404786067183419:=0
def tw12429483658437083963:=0
def tw4420788550572893083:=0
def tw8477945130804630523:=0
def tw4700072241233801276:=0
def tw13426085062604192924:=0
def tw9284515057218804028:=0
def tw10564625240552199484:=0
def tw9664470620581500380:=0
def tw17813441995311668764:=0
def tw846931624842909628:=0
def tw7044987841490563165:=0
def tw10994834528086625405:=0
def tw14286875220590687389:=0
def tw10220288592486262941:=0
def tw14514051633020562717:=0
def tw9793874370277650941:=0
def tw15274132983990448957:=0
def tw3574293268708045757:=0
def tw3840084531678092253:=0
def tw10881519137859732510:=0
def tw12953701170073326622:=0
def tw4233254267863955550:=0
def tw5768412935360634110:=0
def tw11219012295004170494:=0
def tw14416049811030971710:=0
def tw2315580176803463486:=0
def tw2704310929093906910:=0
def tw3824411129283287582:=0
def tw16910777365126189598:=0
def tw11984968441827851806:=0
def tw17657522728480723614:=0
def tw13944053835819737886:=0
def tw13275291570874207038:=0
def tw10975832678194281310:=0
def tw2150394967950154590:=0
def tw5686308570468255678:=0
def tw5340247351146799038:=0
def tw6000318471258760158:=0
def tw12865152562330300543:=0
def tw9139930556517895391:=0
def tw11932137647455441183:=0
def tw3232793604741229887:=0
def tw13722209664238387551:=0
def tw7390398605564006943:=0
def tw15089672342153531999:=0
def tw2912706461343698655:=0
def tw11730930872796473119:=0
def tw5121303070300445663:=0
def tw3273928473945635148:=0
end PySem.W.Fast
open PySem PySem.W PyProof.Rows
set_option maxRecDepth 100000 in
set_option maxHeartbeats 0 in
theorem PySem.Challenge.cw_pagefolk_k44_entries_and_numbers_holds : PySem.Challenge.rw_pagefolk_k44_entries_and_numbers.Holds := by
 w_on;o_law;k_head;(case hw=>w_witness2)
 k_fill
 refine L2.qW (l:=PySem.Challenge.rw_pagefolk_k44_entries_and_numbers) (n:=63) (k:=12) (x:="_law_script") (CX:=L2.iH) (sp:=My.gM) (Ps:=[My.bB,My.a_]) My.Nj My.MS My.Ri rfl (by decide) rfl ⟨rfl,by decide,by decide,rfl⟩ (fun w h Y=>PySem.W.km_in_of Y) (fun w h Y=>PySem.W.km_tabs_of Y) ?hC ?hnt ?hnl ?htb ?htp ?hms (by decide) ?F My.pH (fun _ _ _ _ z=>z)
 case hC=>exact fun w=>List.forall_mem_cons.mpr ⟨⟨"greatest_place",by simp,by kernel_rfl⟩,List.forall_mem_cons.mpr ⟨⟨"all_inner_parts",by simp,by kernel_rfl⟩,fun _ h=>nomatch h⟩⟩
 case htb=>(intro w;exact gw.mpr ⟨by kernel_rfl,gw.mpr ⟨by kernel_rfl,fun _ h=>nomatch h⟩⟩)
 case htp=>(intro w;exact gw.mpr ⟨(by refine ub ?_;kernel_rfl),gw.mpr ⟨(by refine ub ?_;kernel_rfl),fun _ h=>nomatch h⟩⟩)
 case hms=>(intro w;kernel_rfl)
 case hnt=>(intro w;kernel_rfl)
 case hnl=>(intro w;kernel_rfl)
 case F =>
  intro w mg fa h KX G hmg;refine' My.all_mk KX G hmg ?_ ?_ ?_ ?_ ?_ ?_ ?_ ?_ ?_ ?_ ?_ ?_ ?_ ?_ ?_ ?_ ?_ ?_ ?_ ?_ ?_ ?_ ?_ ?_ ?_ ?_ ?_ ?_ ?_ ?_ ?_ ?_ ?_ ?_ ?_ ?_ ?_ ?_ ?_ ?_ ?_ ?_ ?_ ?_ ?_ ?_ ?_ ?_ ?_ ?_ ?_ ?_ ?_ ?_ ?_ ?_ ?_ ?_ ?_ ?_ ?_ ?_ ?_ ?_ ?_ ?_ ?_ ?_ ?_ ?_ ?_
  all_goals try first|k_is|(refine' L2.FX.mk ?z1 ?z2 ?z3 ?z4;(case z1=>k_is);(case z2=>k_is);(case z3=>k_is);(case z4=>k_is))|(refine' L2.MD.mk ?z1 ?z2;(case z1=>k_is);(case z2=>kernel_rfl))|kernel_rfl|(refine' L2.L8.mk ?z1 ?z2 ?z3 ?z4 ?z5;(case z1=>k_is);(case z2=>k_is);(case z3=>k_is);(case z4=>k_is);(case z5=>k_is))|(refine' L2.FL.mk ?z1 ?z2 ?z3 ?z4 ?z5;(case z1=>k_is);(case z2=>k_is);(case z3=>k_is);(case z4=>k_is);(case z5=>kernel_rfl))