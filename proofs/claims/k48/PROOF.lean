import PyProof.Rows.All
import Wide.All
import OpenK.AllK
import Wide.FinOn
import Lean
import PyProof.EqAt
import PyProof.EqKinds
import PyProof.TupleCall
import KE.KSortTup
import KE.KDictOf
import PyProof.AttrMissHeap
import KE.KSortKey
import KE.KNestM
import KE.KLam
import KE.KEqDict
import KE.KBoundM
import KE.KSuperObj
import PySem.Challenge.RW_pagefolk_k48_whole_hidden_facts_tell_not
set_option Elab.async false
set_option linter.all false
set_option maxRecDepth 100000
section
set_option compiler.extract_closed false
local macro_rules|`(())=>`(by first|lia|omega)
local macro_rules|`(∅)=>`(by decide +kernel)
local macro_rules|`(⋯)=>`(by decide)
local macro_rules(kind:=«term{}»)|`({})=>`(fun _ _ _ _ h=>by cases h;subst_vars;first|rfl|grind)
local macro_rules(kind:=«term{_}»)|`({$x,*})=>`(⟨$x,*⟩)
local macro_rules|`(↑$x)=>`(($x).heap.objs.size)
local macro_rules|`(!$x)=>`(some $x)
local macro_rules|`(tactic|ac_nf at $h:ident)=>`(tactic|simp only[List.mem_cons,List.not_mem_nil,or_false]at $h:ident)
set_option hygiene false
section
open Lean
def M0z(k:Name)(a:Array Syntax):Syntax:=.node .none (`Lean.Parser.Tactic++k) a
def M1z(a:Array Syntax):Syntax:=.node .none nullKind a
def M2z(a:Array Syntax)(s:String):=M1z (mkSepArray a (mkAtom s))
def M3z(a:Array Syntax):=M0z `rcasesPatLo #[M0z `rcasesPatMed #[M2z a "|"],M1z #[]]
def M4z:Nat->Syntax->Array Syntax
|0,_=>#[]
|n+1,s=>
 let s:=if s.isOfKind `choice then s[0] else s
 let t:=fun a=>#[M0z `rcasesPat.tuple #[mkAtom "⟨",a,mkAtom "⟩"]]
 match s.getKind with
 |`«term_||_»=>M4z n s[0]++M4z n s[2]
 |`«term{_}»=>t (M2z (s[1].getSepArgs.map fun x=>M3z (M4z n x)) ",")
 |`«term{}»=>t (M1z #[])
 |`Lean.Parser.Term.paren=>#[M0z `rcasesPat.paren #[mkAtom "(",M3z (M4z n s[1]),mkAtom ")"]]
 |_=>if s.isIdent then #[M0z `rcasesPat.one #[s]] else #[M0z `rcasesPat.ignore #[mkAtom "_"]]
def M5z(s:Syntax):Bool:=let s:=if s.isOfKind `choice then s[0] else s
 s.isIdent||[`Lean.Parser.Term.hole,`«term{_}»,`«term{}»,`«term_||_»].contains s.getKind
def M6z(s:Syntax)(o:Option Syntax):MacroM (Array Syntax):=do
 let e:=M1z #[]
 let l:=match o with|none=>e|some h=>M1z #[M0z `location #[mkAtom "at",M0z `locationHyp #[M1z #[h],e]]]
 let c:=M0z `optConfig #[e]
 let a:Syntax->Array Syntax:=fun x=>if x.isOfKind `Lean.Parser.Term.nestedAction then #[M1z #[mkAtom "←"],x[1][0]] else #[e,x]
 let m:Array Syntax->Bool->Array Syntax:=fun x b=>#[M0z `simp #[mkAtom "simp",c,e,if b then M1z #[mkAtom "only"] else e,if x.isEmpty then e else M1z #[mkAtom "[",M2z (x.map fun y=>M0z `simpLemma (#[e]++a y)) ",",mkAtom "]"],l]]
 let s:=if s.isOfKind `Lean.Parser.Term.paren&&s[1].isOfKind `Lean.Parser.Term.byTactic then s[1] else s
 let t:Term:=⟨s⟩
 let x:Term:=⟨s[1]⟩
 let q:Ident:=⟨s[1]⟩
 let y:Term:=⟨s[2]⟩
 let v:=s[1].getSepArgs
 let i:Array Syntax->Array Syntax:=fun x=>#[M0z `rintro #[mkAtom "rintro",M1z (x.map fun y=>M0z `rintroPat.one #[let p:=M4z 9 y;if p.size==1 then p[0]! else M0z `rcasesPat.paren #[mkAtom "(",M3z p,mkAtom ")"]]),e]]
 match s.getKind with
 |`Lean.Parser.Term.hole=>return #[]
 |`Lean.Parser.Term.byTactic=>return s[1][0][0].getSepArgs
 |`«term[_]»=>return #[M0z `rwSeq #[mkAtom "rw",c,M0z `rwRuleSeq #[mkAtom "[",M2z (v.map fun x=>M0z `rwRule (a x)) ",",mkAtom "]"],l]]
 |`«term#[_,]»=>return if v[0]!.isOfKind `Lean.Parser.Term.hole then m (v.drop 1) true else m v false
 |`num=>match s.isNatLit?.getD 0,o with
  |0,_=>return m #[] false
  |_,some h=>let h:Ident:=⟨h⟩;return #[←`(tactic|simp only[List.mem_cons,List.not_mem_nil,or_false]at $h:ident)]
  |1,_=>return #[←`(tactic|constructor)]
  |2,_=>return #[←`(tactic|rfl)]
  |3,_=>return #[←`(tactic|split)]
  |4,_=>return #[←`(tactic|grind)]
  |5,_=>return #[←`(tactic|simp_all)]
  |_,_=>return #[←`(tactic|subst_vars)]
 |`«term-_»=>return #[←`(tactic|cases $x:term)]
 |`«term!_»=>return #[←`(tactic|subst $q)]
 |`«term¬_»=>return #[←`(tactic|show $x)]
 |`Lean.Parser.Term.explicit=>return #[←`(tactic|unfold $q)]
 |`«term_<|_»=>if s[0].isIdent then let x:Ident:=⟨s[0]⟩;return #[←`(tactic|by_cases $x:ident:$y)] else return #[←`(tactic|simpa using $y)]
 |`Lean.Parser.Term.tuple=>if s[1].getNumArgs==0 then return #[←`(tactic|first|lia|omega)] else return i (#[s[1][0]]++s[1][2].getSepArgs)
 |`Lean.Parser.Term.paren=>if M5z s[1] then return i #[s[1]] else return #[←`(tactic|refine $x)]
 |_=>return #[←`(tactic|refine $t)]
end
local macro_rules|`(do $s)=>do
 if not (s.raw.isOfKind `Lean.Parser.Term.doSeqIndent) then Lean.Macro.throwUnsupported
 let mut t:=#[]
 for e in s.raw[0].getArgs do
  let d:=e[0][0]
  match e[0].getKind with
  |`Lean.Parser.Term.doExpr=>t:=t++(←M6z d none)
  |`Lean.Parser.Term.doReassignArrow=>t:=t++(←M6z d[3][0] (some d[0]))
  |`Lean.Parser.Term.doReassign=>
   t:=t.push (if d.isOfKind `Lean.Parser.Term.letPatDecl then M0z `obtain #[Lean.mkAtom "obtain",M1z #[(M3z (M4z 9 d[0]))[0]],if d[2].isNone then d[2] else M1z #[Lean.mkAtom ":",d[2][0][1]],M1z #[Lean.mkAtom ":=",M1z #[d[4]]]] else M0z `tacticHave__ #[Lean.mkAtom "have",Lean.mkNode `Lean.Parser.Term.letConfig #[M1z #[]],Lean.mkNode `Lean.Parser.Term.letDecl #[Lean.mkNode `Lean.Parser.Term.letIdDecl d.getArgs]])
  |_=>Lean.Macro.throwUnsupported
 let r:Array (Lean.TSyntax `tactic):=t.map (fun x=>⟨x⟩)
 `(by $r;*)
local macro_rules|`(37)=>`((model X.prog X.w))|`(42)=>`({O,O,O,∅,O,∅,∅})|`(66)=>`((model prog w))|`(67)=>`((aB S n pt))|`(68)=>`((KD×V×V))|`(69)=>`((.dG kvs))|`(71)=>`((UJ×Obj))|`(72)=>`({cls:=.type "enumerate",data:=.fields #[.none,.bool false,.ref ↑s,rawInt 1,.none,.none]})|`(73)=>`({cls:=.type "dict_keyiterator",data:=.fields #[.ref d,.int 0 0,.int es.size 0,.int ep 0]})|`(74)=>`((ai P w))|`(75)=>`((a2 (vv 0) aE))|`(76)=>`((.tup [e.2.1,e.2.2]))
abbrev KE:=PySem.Value->PySem.Shared->Prop
abbrev MD:=PySem.Value
abbrev UH:=PySem.Shared
abbrev UI:=PySem.PyData
abbrev UJ:=PySem.Addr
abbrev UK:=PySem.Str
def qA:=@PySem.wpAny_bind
def qB:=@if_neg
def qE:=@if_pos
def qF:=@PySem.wpAny_pure
def qG:=@PySem.Heap.lt_size
def qH:=@decide_eq_true
def qI:=@PySem.Heap.get?_push_of_some
def qJ:=@Option.some.inj
def qK:=@PySem.wpAny_holding
def qL:=@PySem.Heap.get?_push_size
def qM:=@PySem.wpAny_mono
def qN:=@of_decide_eq_true
def qO:=@PySem.wpAny_call_entry
def O{α:Sort u}{a:α}:a=a:=rfl
def qb:=@Nat.le_refl
def qc:=@List.mem_map
def qe:=@List.getElem?_eq_getElem
def qf:=@Nat.le_trans
def qg:=@List.length_append
def qh:=@List.length_map
def qi:=@List.mem_cons_self
def qj:=@List.mem_range
def qk:=@List.mem_filter
def qm:=@List.mem_cons_of_mem
def qo:=@List.mem_singleton
def qp:=@Nat.ne_of_lt
def qr:=@List.length_singleton
def qt:=@List.mem_cons
def qu:=@List.mem_of_getElem?
def qv:=@List.getElem?_map
def qw:=@List.getElem?_eq_some_iff
def qx:=@Bool.false_ne_true
def qy:=@List.take_add_one
def qz:=@List.mem_append
def q0:=@Nat.zero_le
def zd:=@List.take_length
def ze:=@List.getD_eq_getElem?_getD
def zf:=@List.length_cons
def zg:=@List.length_range
def zh:=@Nat.lt_of_lt_of_le
def zk:=@List.size_toArray
def zm:=@List.map_cons
def zn:=@Bool.and_eq_true
def zo:=@Nat.ne_of_gt
def zt:=@List.getElem?_append_left
def zu:=@Array.length_toList
def zv:=@List.nodup_cons
def zx:=@List.map_map
def zy:=@List.map_append
def z6:=@List.mem_iff_getElem
def z7:=@List.mem_append_right
def z8:=@List.map_congr_left
def z9:=@List.pairwise_map
def wb:=@List.length_take
def we:=@List.nil_append
def wg:=@List.length_filter_le
def wj:=@Nat.lt_irrefl
def wt:=@List.append_nil
def wu:=@Option.map_eq_some_iff
def wv:=@List.nodup_nil
def ww:=@List.getElem?_eq_none
def wx:=@Nat.le_of_lt
def wz:=@List.foldl_cons
def vd:=@List.find?_cons
def vi:=@List.pairwise_cons
def vj:=@List.filter_append
def vy:=@List.mem_reverse
def v9:=@List.length_drop
def yb:=@List.length_reverse
def yc:=@List.ext_getElem?
def ye:=@List.filter_nil
def yf:=@Nat.not_lt_zero
def yg:=@List.getElem?_range
def yh:=@List.getElem?_append_right
def yi:=@List.filter_cons_of_pos
def yj:=@List.filter_cons_of_neg
def yk:=@Bool.eq_iff_iff
def ym:=@List.append_assoc
def yn:=@List.nodup_append
def yo:=@List.mem_append_left
def yq:=@Array.getElem?_toList
def yr:=@List.any_eq_true
def yt:=@Nat.lt_succ_of_lt
def yu:=@Nat.lt_succ_self
def yw:=@List.length_eq_zero_iff
def yx:=@List.range_succ
def yy:=@Nat.lt_trans
def yz:=@Nat.lt_or_ge
def y0:=@List.pairwise_iff_getElem
def ja:=@List.filter_congr
def jb:=@List.length_nil
def jc:=@Array.getElem?_eq_getElem
def jd:=@List.take_of_length_le
def je:=@Nat.min_le_left
def jf:=@List.getElem?_set_ne
def jg:=@List.getElem_mem
def jh:=@Nat.zero_add
def ji:=@List.eq_nil_or_concat
def jj:=@List.concat_eq_append
def jk:=@Nat.min_le_right
def jl:=@List.replicate_succ
def jm:=@Array.getD_eq_getD_getElem?
def jn:=@List.drop_eq_getElem_cons
def jo:=@List.filter_map
def jp:=@List.reverse_append
def jq:=@List.filterMap_cons
def jr:=@List.flatten_cons
def jt:=@List.any_cons
def ju:=@Option.map_some
def jv:=@Nat.lt_of_le_of_lt
def jw:=@Nat.le_succ
def jx:=@Nat.sub_zero
def jy:=@List.find?_eq_none
def jz:=@Nat.le_of_ble_eq_true
def j3:=@Nat.sub_self
def j4:=@List.foldl_append
def j5:=@Bool.eq_false_iff
def j6:=@List.getElem?_of_mem
def j7:=@Nat.succ_le_succ
def j8:=@Nat.le_succ_of_le
def j9:=@Bool.true_and
def gc:=@List.mem_filterMap
def gf:=@Array.mem_toList_iff
def gg:=@List.length_replicate
def gh:=@List.map_nil
def gj:=@List.lookup_cons
def gr:=@List.filter_eq_nil_iff
def gs:=@Nat.succ_ne_self
def gw:=@List.pairwise_singleton
def g0:=@List.mem_of_mem_drop
def kg:=@List.filter_filter
def kh:=@Option.toList_some
def ki:=@List.forall_mem_cons
def kj:=@List.of_mem_zip
def kx:=@Option.isSome_iff_exists
def kz:=@List.getElem?_take_of_lt
def k8:=@List.take_sublist
def me:=@Bool.and_false
def mf:=@List.forIn_cons
def mh:=@List.reverse_cons
def mi:=@List.not_lt
def mj:=@Array.toList_inj
def mo:=@Bool.and_true
def mr:=@Array.forIn_toList
def mw:=@List.findIdx?_eq_some_iff_getElem
def mx:=@List.getElem?_drop
def my:=@List.all_eq_true
def mz:=@List.mem_of_find?_eq_some
def m3:=@List.pairwise_append
def m6:=@Nat.min_eq_left
def m7:=@List.idxOf_cons
def m8:=@List.mem_of_mem_head?
def m9:=@List.nodup_iff_pairwise_ne
def ng:=@List.filter_sublist
def nh:=@Option.none_or
def ni:=@List.idxOf_lt_length_iff
def nj:=@List.foldl_map
def nr:=@List.length_pos_iff
def ny:=@Array.append_assoc
def n0:=@List.getElem?_set_self
def bc:=@List.any_eq_false
def bd:=@List.zip_cons_cons
def be:=@List.getElem_toArray
def bg:=@List.drop_of_length_le
def bi:=@List.range_succ_eq_map
def bj:=@List.getElem?_inj
def bp:=@List.findIdx?_eq_none_iff
def bu:=@List.range_eq_range'
def bv:=@List.mem_range'_1
def bw:=@List.filter_reverse
def bz:=@List.getElem?_take
def re:=@Nat.lt_of_succ_lt_succ
def rg:=@Array.getElem?_eq_none
def rh:=@List.pairwise_lt_range
def rj:=@List.append_of_mem
def rn:=@List.countP_pos_iff
def rz:=@List.idxOf_lt_length_of_mem
def r8:=@List.mem_of_mem_take
def tf:=@List.head?_eq_getElem?
def tz:=@List.getElem_range
def ub:=@Nat.eq_or_lt_of_le
def uc:=@Option.ne_none_iff_exists'
def ud:=@List.dropLast_concat
def ue:=@List.getElem?_reverse
def uf:=@List.mem_of_elem_eq_true
namespace L2
open PySem PySem.Spec PyProof.Rows
def Uu{P:List MD->Prop}(h:P [])(u:List MD)(l:u.length=0):P u:=do-u;h;-l
def mI{P:List MD->Prop}(h:∀a,P [a])(u:List MD)(l:u.length=1):P u:=do-u;-l;Uu (P:=λx=>P (_::x)) (h _) _ (Nat.succ.inj l)
def iP{P:List MD->Prop}(h:∀a b,P [a,b])(u:List MD)(l:u.length=2):P u:=do-u;-l;mI (P:=λx=>P (_::x)) (h _) _ (Nat.succ.inj l)
def vV{P:List MD->Prop}(h:∀a b c,P [a,b,c])(u:List MD)(l:u.length=3):P u:=do-u;-l;iP (P:=λx=>P (_::x)) (h _) _ (Nat.succ.inj l)
def wN{P:List MD->Prop}(h:∀a b c d,P [a,b,c,d])(u:List MD)(l:u.length=4):P u:=do-u;-l;vV (P:=λx=>P (_::x)) (h _) _ (Nat.succ.inj l)
def Uw{P:List MD->Prop}(h:∀a b c d e,P [a,b,c,d,e])(u:List MD)(l:u.length=5):P u:=do-u;-l;wN (P:=λx=>P (_::x)) (h _) _ (Nat.succ.inj l)
def Ua{P:List MD->Prop}(h:∀a b c d e f,P [a,b,c,d,e,f])(u:List MD)(l:u.length=6):P u:=do-u;-l;Uw (P:=λx=>P (_::x)) (h _) _ (Nat.succ.inj l)
abbrev Key:=Sum Int UK
def ig:Key->MD->Bool|.inl k,v=>Value.isInt k v|.inr x,v=>Value.isStrOf x v
def QX(w:World):Key->Int|.inl k=>hashInt k|.inr x=>hashStr w x
def ip:∀{k:Key} {v:MD},ig k v=true->(∃i t,k=Sum.inl i/\v=Value.int i t)\/(∃x t,k=Sum.inr x/\v=Value.str x t)|.inl i,v,h=>(do _;{t,e}:=Value.isInt_shape (k:=i) (v:=v) h;.inl {i,t,O,e})|.inr x,v,h=>do _;{t,e}:=Value.isStrOf_shape (x:=x) (v:=v) h;.inr {x,t,O,e}
def PX(i:Int)(t:Tok):ig (.inl i) (.int i t)=true:=do#[ig,Value.isInt]
def N1(x:UK)(t:Tok):ig (.inr x) (.str x t)=true:=do#[ig,Value.isStrOf]
def EI(a b:Int):decide ((Sum.inl a:Key)=Sum.inl b)=(a==b):=do e<|a=b;!e;0;h:¬(Sum.inl a:Key)=Sum.inl b:=λq=>e (Sum.inl.inj q);[decide_eq_false h];(beq_eq_false_iff_ne.mpr e).symm
def FC(a b:UK):decide ((Sum.inr a:Key)=Sum.inr b)=decide (a=b):=do e<|a=b;!e;0;h:¬(Sum.inr a:Key)=Sum.inr b:=λq=>e (Sum.inr.inj q);[decide_eq_false h,decide_eq_false e]
def DR(a:Int)(b:UK):decide ((Sum.inl a:Key)=Sum.inr b)=false:=decide_eq_false (λq=>nomatch q)
def Gu(a:UK)(b:Int):decide ((Sum.inr a:Key)=Sum.inl b)=false:=decide_eq_false (λq=>nomatch q)
def ai(prog:Program)(w:World):PySem.KeyKind prog w Key where
 is:=ig
 hash:=QX w
 inj:=λv a b f d=>by
  rcases ip f with⟨i,t,rfl,rfl⟩|⟨x,t,rfl,rfl⟩
  .rcases ip d with⟨j,u,rfl,e⟩|⟨y,u,rfl,e⟩
   .injection e with e1 _;rw[e1]
   .exact nomatch e
  .rcases ip d with⟨j,u,rfl,e⟩|⟨y,u,rfl,e⟩
   .exact nomatch e
   .injection e with e1 _;rw[e1]
 byValue:=λk v h=>by
  rcases ip h with⟨i,t,rfl,rfl⟩|⟨x,t,rfl,rfl⟩ <;> rfl
 pyHash:=λc h=>by
  rcases ip c with⟨i,t,rfl,rfl⟩|⟨x,t,rfl,rfl⟩
  .exact wpAny_pyHash_int h
  .exact wpAny_pyHash_str h
 eqBool:=λg c h=>by
  rcases ip g with⟨i,t,rfl,rfl⟩|⟨x,t,rfl,rfl⟩
  .rcases ip c with⟨j,u,rfl,rfl⟩|⟨y,u,rfl,rfl⟩
   .rw[EI]at h;exact wpAny_eqBool_int h
   .rw[DR]at h;exact SeqAt.EqAt.int_str i t y u _ _ _ _ h
  .rcases ip c with⟨j,u,rfl,rfl⟩|⟨y,u,rfl,rfl⟩
   .rw[Gu]at h;exact SeqAt.EqAt.str_int x t j u _ _ _ _ h
   .rw[FC]at h;exact wpAny_eqBool_str h
 «strs»:=λk x t v h=>by
  rcases ip h with⟨i,u,rfl,e⟩|⟨y,u,rfl,e⟩
  .exact nomatch e
  .injection e with e1 _
   subst e1;cases v <;> rfl
def Qx(prog:Program)(w:World)(i:Int)(t:Tok):(ai prog w).is (.inl i) (.int i t)=true:=PX i t
def QH(prog:Program)(w:World)(x:UK)(t:Tok):(ai prog w).is (.inr x) (.str x t)=true:=N1 x t
inductive V where
 |aV|bl (b:Bool)|int (i:Int)|str (x:UK)|sE (b:Array UInt8)|G1 (b:UInt64)|ref (a:UJ)|ty (n:String)
 deriving DecidableEq
def RelV:V->MD->Prop|.aV,u=>u=Value.none|.bl b,u=>u=Value.bool b|.int i,u=>∃t,u=Value.int i t|.str x,u=>∃t,u=Value.str x t|.sE b,u=>∃t,u=Value.bytes b t|.G1 b,u=>∃t,u=Value.float b t|.ref a,u=>u=Value.ref a|.ty n,u=>u=Value.type n
abbrev aK:List V->List MD->Prop:=Paired RelV
theorem aK.length(r:aK xs us):xs.length=us.length:=Paired.length r
theorem aK.get:∀{xs:List V} {us:List MD} {i:Nat} {x:V},aK xs us->xs[i]?=!x->∃u,us[i]?=!u/\RelV x u|_,_,_,_,.nil,e=>(do e<-0)|_,_,0,_,.cons r _,e=>(do e<-0;!e;{_,O,r})|_,_,i+1,x,.cons _ t,e=>do _;{u,h1,h2}:=aK.get (i:=i) (x:=x) t (do 0<|e);{u,do 0<|h1,h2}
theorem aK.set(r:RelV x u):∀{xs:List V} {us:List MD} (i:Nat),aK xs us->aK (xs.set i x) (us.set i u)|_,_,_,.nil=>.nil|_,_,0,.cons _ t=>.cons r t|_,_,i+1,.cons q t=>.cons q (aK.set r i t)
theorem aK.append:∀{xs ys:List V} {us ws:List MD},aK xs us->aK ys ws->aK (xs++ys) (us++ws)|_,_,_,_,.nil,s=>s|_,_,_,_,.cons r t,s=>.cons r (aK.append t s)
theorem aK.take:∀{xs:List V} {us:List MD} (n:Nat),aK xs us->aK (xs.take n) (us.take n)|_,_,0,_=>.nil|_,_,_+1,.nil=>.nil|_,_,n+1,.cons r t=>.cons r (aK.take n t)
theorem aK.drop:∀{xs:List V} {us:List MD} (n:Nat),aK xs us->aK (xs.drop n) (us.drop n)|_,_,0,r=>r|_,_,_+1,.nil=>.nil|_,_,n+1,.cons _ t=>aK.drop n t
def fB:Option V->Option MD->Prop|some v,!u=>RelV v u|none,none=>True|_,_=>False
def KV{κ:Type}:List (κ×V)->List (κ×MD)->Prop:=Paired λ(p:κ×V) (q:κ×MD)=>p.1=q.1/\RelV p.2 q.2
def kV:Key->V|.inl i=>.int i|.inr x=>.str x
inductive KD where
 |aV
 |int (i:Int)
 |tup (ks:List Key)
 |two (ks ls:List Key)
deriving DecidableEq
def bP(P:Program)(w:World):KD->Int|.aV=>4238894112|.int i=>hashInt i|.tup ks=>(tupleKind 74).hash ks|.two ks ls=>reduceHash (Builtin.Tuple.tupleHashOf [(tupleKind 74).hash ks,(tupleKind 74).hash ls])
def dS(P:Program)(w:World)(x:KD×MD×MD):DictEntry:={bP P w x.1,x.2.1,x.2.2}
inductive HO where
 |lst (xs:List V)
 |tup (xs:List V)
 |dK (kvs:List (Key×V))|dT (kvs:List (List Key×V))
 |dG (kvs:List 68)
 |set (S:Int->Bool) (n:Nat)
 |ins (C dx:UJ) (fs:List (UK×V))
 |own (x:UJ)
 |xd (fs:List (UK×V))
 |met (f x:UJ)
 |NW (lo hi:Int)
 |du (o:Obj) (u:HO)
 |cn (ps:Array MD)
 |ext (φ:Heap->Prop)
abbrev Hp:=UJ->Option HO
def GK(H:Hp):KD->V->Prop|.aV,v=>v=.aV|.int i,v=>v=.int i|.tup ks,v=>∃b,v=.ref b/\H b=!(.tup (ks.map kV))|.two ks ls,v=>∃b c d,v=.ref b/\H b=!(.tup [.ref c,.ref d])/\H c=!(.tup (ks.map kV))/\H d=!(.tup (ls.map kV))
def upd(H:Hp)(a:UJ)(o:HO):Hp:=λb=>if b=a then some o else H b
def aF:upd H a o a=!o:=do@upd;[qE rfl]
def az(h:b≠a):upd H a o b=H b:=do@upd;[qB h]
def oK{H:Hp}{a b:UJ}{o u:HO}(h:H a=!o)(h':H b=!u)(d:o≠u):a≠b:=do(e);!e;h'<-[h];d (qJ h')
def a_{H:Hp}{a b:UJ}{o:HO}(h:H a=!o)(h':H b=none):a≠b:=do(e);!e;h'<-[h];-h'
section
variable (P:Program)(w:World)
def a0(H:Hp)(h:Heap)(a:UJ):HO->Prop|.lst xs=>xs.length<=sizeLine/\∃(its:List MD) (n:Nat),aK xs its/\h.get? a=some {cls:=.type "list",data:=.seq its.toArray n}|.tup xs=>xs.length<=sizeLine/\∃its:List MD,aK xs its/\IsTup h a its.toArray|.dK kvs=>kvs.length<=sizeLine/\(a==sysModules)=false/\∃vs,KV kvs vs/\h.DictOf 74 a vs|.dT kvs=>kvs.length<=sizeLine/\(a==sysModules)=false/\∃xs:List (List Key×UJ×MD),Paired (λ(p:List Key×V) (q:List Key×UJ×MD)=>p.1=q.1/\H q.2.1=!(.tup (p.1.map kV))/\RelV p.2 q.2.2) kvs xs ∧ ∃o es ep,h.get? a=!o/\o.ExactDict/\o.data=.dict es ep/\es.toList=xs.map (entryOfKey (tupleKind 74))/\(xs.map (·.1)).Nodup|.dG kvs=>kvs.length<=sizeLine/\(a==sysModules)=false/\∃xs:List (KD×MD×MD),Paired (λ(p:KD×V×V) (q:KD×MD×MD)=>p.1=q.1/\GK H p.1 p.2.1/\RelV p.2.1 q.2.1/\RelV p.2.2 q.2.2) kvs xs ∧ ∃o es ep,h.get? a=!o/\o.ExactDict/\o.data=.dict es ep/\es.toList=xs.map (dS P w)/\(xs.map (·.1)).Nodup|.set S n=>h.SetOf (intKind P w) a S n|.ins C dx fs=>H dx=!(.own a)/\fs.length<=1000/\dx≠a/\h.get? a=some (PySem.W.instObj C dx) ∧ ∃b,h.Ns1 dx b/\(∀f,fB (fs.lookup f) (b f))/\PySem.Within b (fs.map (·.1))|.own _=>∃o,h.get? a=!o|.xd fs=>∃b,h.Ns1 a b/\∀f,fB (fs.lookup f) (b f)|.NW lo hi=>∃t u v,h.get? a=some {cls:=.type "range",data:=.fields #[.int lo t,.int hi u,.int 1 v]}|.du o u=>h.get? a=!o/\a0 H h a u|.cn ps=>h.get? a=some {cls:=.none,data:=.fields ps}|.met f x=>h.get? a=!(PySem.W.methodObj (.ref f) (.ref x))|.ext φ=>φ h/\(∃o,h.get? a=!o)/\∀h1 h2:Heap,φ h1->(∀o,h1.get? a=!o->h2.get? a=!o)->φ h2
def df(H:Hp)(h:Heap):Prop:=∀a o,H a=!o->a0 P w H h a o
end
section
variable {P:Program}{w:World}{H H':Hp}{h h':Heap}{a:UJ}{o:HO}
theorem a0.lt(x:a0 P w H h a o):a<h.objs.size:=do(by cases o with|lst xs|tup xs|dK kvs|dT kvs|dG kvs|set S n|ins C dx fs|own y|xd fs|NW lo hi|du ob u|cn ps|met f y|ext b=>?_);{_,_,_,_,e}:=x;qG e;{_,_,_,p}:=x;p.lt;{_,_,_,_,o,_,_,e,_}:=x;qG e;{_,_,_,_,o,_,_,e,_}:=x;qG e;{_,_,_,_,o,_,_,e,_}:=x;qG e;{o,_,_,_,e,_}:=x;qG e;{_,_,_,e,_}:=x;qG e;{_,e}:=x;qG e;{_,{_,_,_,e,_},_}:=x;qG e;{_,_,_,e}:=x;qG e;{e,_}:=x;qG e;qG (show h.get? a=some _ from x);qG (show h.get? a=some _ from x);{_,{_,e},_}:=x;qG e
theorem Paired.mN{α β:Type}{F G:α->β->Prop}:∀{l₁:List α} {c:List β},Paired F l₁ c->(∀a b,F a b->G a b)->Paired G l₁ c|_,_,.nil,_=>.nil|_,_,.cons r t,f=>.cons (f _ _ r) (Paired.mN t f)
def GK.cY{k:KD}(g:GK H k v)(a:∀b xs,H b=!(.tup xs)->H' b=!(.tup xs)):GK H' k v:=do(by cases k with|aV|int i|tup ks|two ks ls=>?_);g;g;{b,e,h}:=g;{b,e,a _ _ h};{b,c,d,e,h1,h2,f}:=g;{b,c,d,e,a _ _ h1,a _ _ h2,a _ _ f}
theorem a0.cY(x:a0 P w H h a o)(k:∀b u,(b=a\/H b=!(.own a))->h.get? b=!u->h'.get? b=!u)(l:∀b,H b=!(.own a)->H' b=!(.own a))(i:∀b xs,H b=!(.tup xs)->H' b=!(.tup xs)):a0 P w H' h' a o:=do(by induction o with|lst xs|tup xs|dK kvs|dT kvs|dG kvs|set S n|ins C dx fs|own y|xd fs|NW lo hi|du ob u m|cn ps|met f y|ext s=>?_);{z,its,n,r,e}:=x;{z,its,n,r,k _ _ (.inl rfl) e};{z,its,r,ob,e,c}:=x;{z,its,r,ob,k _ _ (.inl rfl) e,c};{z,y,vs,r,ob,es,ep,e,c}:=x;{z,y,vs,r,ob,es,ep,k _ _ (.inl rfl) e,c};{z,y,xs,r,ob,es,ep,e,c}:=x;{z,y,xs,Paired.mN r λp q z=>{z.1,i _ _ z.2.1,z.2.2},ob,es,ep,k _ _ (.inl rfl) e,c};{z,y,xs,r,ob,es,ep,e,c}:=x;{z,y,xs,Paired.mN r λp q z=>{z.1,z.2.1.cY i,z.2.2},ob,es,ep,k _ _ (.inl rfl) e,c};{ob,es,ep,t,e,c}:=x;{ob,es,ep,t,k _ _ (.inl rfl) e,c};{d,z,ne,e,g,{od,es,ep,j,c},r}:=x;{l _ d,z,ne,k _ _ (.inl rfl) e,g,{od,es,ep,k _ _ (.inr d) j,c},r};{ob,e}:=x;{ob,k _ _ (.inl rfl) e};{g,{od,es,ep,e,c},r}:=x;{g,{od,es,ep,k _ _ (.inl rfl) e,c},r};{t,u,v,e}:=x;{t,u,v,k _ _ (.inl rfl) e};{e,q}:=x;{k _ _ (.inl rfl) e,m q};e:h.get? a=some {cls:=.none,data:=.fields ps}:=x;¬h'.get? a=some {cls:=.none,data:=.fields ps};k a _ (.inl rfl) e;e:h.get? a=!(PySem.W.methodObj (.ref f) (.ref y)):=x;¬h'.get? a=!(PySem.W.methodObj (.ref f) (.ref y));k a _ (.inl rfl) e;{p,{o,e},st}:=x;{st _ _ p λo q=>k _ _ (.inl rfl) q,{o,k _ _ (.inl rfl) e},st}
theorem df.lt(x:df P w H h)(e:H a=!o):a<h.objs.size:=(x a o e).lt
def df.fresh(x:df P w H h)(e:h.objs.size<=a):H a=none:=do(by cases q:H a with|none|some u=>?_);2;absurd (zh (x.lt q) e) (wj _)
def df.kept(x:df P w H h)(k:∀b u,h.get? b=!u->h'.get? b=!u):df P w H h':=λa o e => (x a o e).cY (λb u _ q=>k b u q) (λ_ q=>q) λ_ _ q=>q
def df.laid(x:df P w H h)(k:∀b u,h.get? b=!u->h'.get? b=!u)(hp:h.objs.size<=a)(new:a0 P w (upd H a o) h' a o):df P w (upd H a o) h':=λb u e=>do hn:=x.fresh hp;d<|b=a;!d;e<-[aF];-e;new;e<-[az d];(x b u e).cY (λc v _ q=>k c v q) (λc q=>do[az (a_ q hn)];q) λc xs q=>do[az (a_ q hn)];q
end
def Rd(H:Hp)(a:UJ)(u:HO):Prop:=H a=!u\/∃o,H a=!(.du o u)
def Rd.of(h:H a=!u):Rd H a u:=.inl h
def Rd.ok(r:Rd H a u)(x:df P w H h):a0 P w H h a u:=do r||{o,r}:=r;x a u r;{_,q}:=x a _ r;q
def JJ:Option HO->Prop|some (.lst _)=>True|some (.dK _)=>True|some (.dT _)=>True|some (.dG _)=>True|some (.set _ _)=>True|some (.ins _ _ _)=>True|some (.ext _)=>True|_=>False
section
variable {P:Program}{w:World}{H:Hp}{h h':Heap}{x e:UJ}{o':HO}
def df.write(ok:df P w H h)(j:JJ (H x))(n:e=x\/H e=!(.own x))(k:∀b u,b≠e->h.get? b=!u->h'.get? b=!u)(l:∃u,h'.get? e=!u)(new:a0 P w (upd H x o') h' x o'):df P w (upd H x o') h':=λb u q=>do d:∀c y,H c=!(.own y)->c≠x:=λc y r z=>(do !z;j<-[r];j);f:∀c xs,H c=!(.tup xs)->c≠x:=λc xs r z=>(do !z;j<-[r];j);i<|b=x;!i;q<-[aF];-q;new;q<-[az i];a<|b=e;m:H b=!(.own x):=(do z||z:=n;absurd (a.trans z) i;[a];z);m<-[q];-m;{v,o}:=l;{v,do[a];o};(ok b u q).cY (λc v g r=>k c v ?_ r) (λc r=>do[az (d c b r)];r) λc xs r=>(do[az (f c xs r)];r);rfl||g:=g;a;(rfl);z||z:=n;d c b g z;z<-[g];-z;i rfl
end
structure Un(fs ex:List UJ)(H H':Hp)(h h':Heap):Prop where
 keep:∀b o,h.get? b=!o->H b=none->b∉fs->b∉ex->h'.get? b=!o
 slot:∀b o,h.get? b=!o->H b=none->b∈fs->b∉ex->∃sl,h'.get? b=some { o with slots:=sl }
 free:∀b o,h.get? b=!o->H b=none->b∉ex->H' b=none
 there:∀b o,h.get? b=!o->b∉ex->∃o',h'.get? b=!o'
 af:∀b xs,H b=!(.tup xs)->H' b=!(.tup xs)
 dR:∀b o u,H b=!(.du o u)->H' b=!(.du o u)
 dW:∀b ps,H b=!(.cn ps)->∃more,H' b=!(.cn (ps++more))
 dO:∀b o xs,h.get? b=!o->H b=!(.tup xs)->h'.get? b=!o
section
variable {fs fs' ex ex':List UJ}{H H1 H2:Hp}{h h1 h2 h':Heap}{a x e:UJ}{o:HO}
def Un.any(u:Un fs ex H H1 h h1)(q:h.get? b=!ob)(n:H b=none)(c:b∉ex):∃sl,h1.get? b=some {ob with slots:=sl}:=do a<|b∈fs;u.slot b ob q n a c;{ob.slots,u.keep b ob q n a c}
def Un.trans(a:Un fs ex H H1 h h1)(b:Un fs ex H1 H2 h1 h2):Un fs ex H H2 h h2 where
 keep:=λc ob q n f d=>b.keep c ob (a.keep c ob q n f d) (a.free c ob q n d) f d
 slot:=λc ob q n f d=>by
  obtain⟨sl,e⟩:=a.slot c ob q n f d;obtain⟨g,i⟩:=b.slot c _ e (a.free c ob q n d) f d;exact{g,i}
 free:=λc ob q n d=>by
  obtain⟨o',e⟩:=a.there c ob q d;exact b.free c o' e (a.free c ob q n d) d
 there:=λc ob q d=>by
  obtain⟨o',e⟩:=a.there c ob q d;exact b.there c o' e d
 af:=λc xs q=>b.af c xs (a.af c xs q)
 dR:=λc ob xs q=>b.dR c ob xs (a.dR c ob xs q)
 dW:=λc ps q=>by
  obtain⟨k,e⟩:=a.dW c ps q;obtain⟨j,i⟩:=b.dW c _ e;exact{k++j,by rw[i,ny]}
 dO:=λc ob xs q n=>b.dO c ob xs (a.dO c ob xs q n) (a.af c xs n)
def Un.kept(k:∀b u,h.get? b=!u->h'.get? b=!u):Un fs ex H H h h' := {λb ob q _ _ _=>k b ob q,λb ob q _ _ _=>{ob.slots,k b ob q},λ_ _ _ n _=>n,λb ob q _=>{ob,k b ob q},λ_ _ q=>q,λ_ _ _ q=>q,λ_ ps q=>{#[],do[q];0},λb ob _ q _=>k b ob q}
def Un.refl:Un fs ex H H h h:=Un.kept λ_ _ q=>q
def Un.laid(k:∀b u,h.get? b=!u->h'.get? b=!u)(hp:h.objs.size<=a)(hn:H a=none):Un fs ex H (upd H a o) h h' where
 keep:=λb u q _ _ _=>k b u q
 slot:=λb u q _ _ _=>{u.slots,k b u q}
 free:=λb u q n _=>by rw[az (qp (zh (qG q) hp))];exact n
 there:=λb u q _=>{u,k b u q}
 af:=λb xs q=>by rw[az (a_ q hn)];exact q
 dR:=λb u xs q=>by rw[az (a_ q hn)];exact q
 dW:=λb ps q=>{#[],by rw[az (a_ q hn),q];simp}
 dO:=λb u _ q _=>k b u q
def Un.write(c:JJ (H x))(j:e=x\/H e=!(.own x))(k:∀b u,b≠e->h.get? b=!u->h'.get? b=!u)(f:∃u,h'.get? e=!u):Un fs ex H (upd H x o) h h':=do i:∀b,H b=none->b≠x:=λb n z=>(do !z;c<-[n];c);g:∀b,H b=none->b≠e:=λb n z=>(do !z;r||r:=j;i b n r;r<-[n];-r);d:∀b u,H b=!u->¬JJ (!u)->b≠x:=λb u q l z=>(do !z;c<-[q];l c);{λb u q n _ _=>k b u (g b n) q,λb u q n _ _=>{u.slots,k b u (g b n) q},λb u q n _=>do[az (i b n)];n,λb u q _=>?_,λb xs q=>do[az (d b _ q λz=>z)];q,λb u xs q=>do[az (d b _ q λz=>z)];q,λb ps q=>{#[],do[az (d b _ q λz=>z),q];0},λb u xs q n=>k b u (λz=>do !z;r||r:=j;d b _ n (λz=>z) r;r<-[n];-r) q};a<|b=e;!a;f;{u,k b u a q}
end
def NC(h:Heap)(H:Hp):List UJ:=(List.range h.objs.size).filter λa=>(H a).isSome
def iv(h:Heap)(H:Hp):Heap:=PySem.W.hideAll h (NC h H)
def Ry(h:Heap)(H:Hp):(iv h H).objs.size=h.objs.size:=PySem.W.hideAll_size _ _
def S8(e:h.get? b=!o)(n:H b=none):(iv h H).get? b=some o := PySem.W.hideAll_get _ e λa=>do q:(H b).isSome=true:=(qk.mp a).2;q<-[n];q<-0
def NY(e:(iv h H).get? b=!o):h.get? b=!o/\H b=none:=do a:h.get? b=!o:=PySem.W.of_hideAll (NC h H) e;{a,?_};(by cases q:H b with|none|some x=>?_);2;c:b∈NC h H:=List.mem_filter.mpr {List.mem_range.mpr (qG a),do#[q]};z:(iv h H).get? b=none:=PySem.W.hideAll_none (NC h H) c;e<-[z];-e
structure Mod(K:PySem.W.Frag)(mg:UK->Option MD)(base:Heap):Prop where
 NU:K.In base
 glob:base.Ns mainGlobals mg
 blt:∃mb,base.Ns builtinsNs mb/\∀x:UK,x≠"__name__"->mb x=bootBuiltins x
 nolimit:base.NoLimit
structure Cx where
 prog:Program
 w:World
 K:PySem.W.Frag
 mg:UK->Option MD
 base:Heap
 A:Around
 N:List UK
 s₀:UH
 H₀:Hp
 env:Env
 outer:List Env
 stack:List Env
 ex:List UJ
 fn:UK->Bool
 calm:Bool
 pn:List 71
 xe:KE
def d_(l:List Env):List UJ:=l.filterMap (·.frame)
abbrev Cx.fs(X:Cx):List UJ:=d_ X.outer
def Ny(a:Scope)(x:UK):Prop:=a.names.lookup x=some .local\/a.names.lookup x=some .cell\/a.names.lookup x=some .free
def Loc(a:Scope)(x:UK):Prop:=a.names.lookup x=some .local\/a.names.lookup x=some .cell
def Look(env:Env)(h:Heap)(m:UK->Option MD)(x:UK)(u:MD):Prop := (env.kindOf x=some .local/\m x=!u)\/((env.kindOf x=some .cell\/env.kindOf x=some .free)/\∃c,env.cells.lookup x=!c/\h.IsCell c (!u))
structure Cx.Ok(X:Cx):Prop where
 mod:Mod X.K X.mg X.base
 kind:X.env.scope.kind=.function
 glob:X.env.globals=mainGlobals
 blt:X.env.builtins=builtinsNs
 above:X.s₀.heap.objs.size<=X.env.locals
 inj:∀x y c,X.env.cells.lookup x=!c->X.env.cells.lookup y=!c->x=y
 has:∀x,(X.env.kindOf x=some .cell\/X.env.kindOf x=some .free)->∃c,X.env.cells.lookup x=!c
 Af:∀x c,X.fn x=true->X.env.cells.lookup x=!c->X.s₀.heap.objs.size<=c
 hd:X.calm=true->X.A.handled=none
 frames:X.A.frames=!X.stack
 NH:X.stack=X.outer\/(X.stack=X.env::X.outer/\X.env.frame=!X.env.locals)
 T1:∀b∈X.ex,b≠X.env.locals/\∀x c,X.env.cells.lookup x=!c->c≠b
 bs:∀b o,X.base.get? b=!o->X.s₀.heap.get? b=!o/\(X.H₀ b=none\/∃xs,X.H₀ b=!(.tup xs))
 tH:X.base.objs.size<=X.s₀.heap.objs.size
 se:∀b o,X.base.get? b=!o->b∉X.ex
 yO:∀b∈X.ex,b∉X.fs
 eI:X.s₀.heap.FunFrames X.base X.outer
 xM:∀b∈X.fs,X.H₀ b=none
structure Inv(X:Cx)(pins:List 71)(σ:List (Option V))(H:Hp)(s:UH):Prop where
 ok:X.Ok
 os:s.os=X.s₀.os
 bare:AllBare s.gens
 base:Un X.fs X.ex X.H₀ H X.s₀.heap s.heap
 loc:∃m,s.heap.Ns X.env.locals m/\∀(i:Nat) (x:UK) (v:V),X.N[i]?=!x->σ[i]?=!(!v)->Ny X.env.scope x->∃u,RelV v u/\Look X.env s.heap m x u
 cell:∀x c,X.env.cells.lookup x=!c->∃v,s.heap.IsCell c v
 free:H X.env.locals=none
 dr:∀x c,X.env.cells.lookup x=!c->H c=none
 pin:∀p∈X.pn++pins,s.heap.get? p.1=!p.2/\H p.1=none/\p.1≠X.env.locals/\p.1∉X.fs/\∀v,p.2.data≠.cell v
 a9:df X.prog X.w H s.heap
 len:σ.length=X.N.length
section
variable {X:Cx}{pins:List 71}{σ:List (Option V)}{H H':Hp}{s:UH}{h':Heap}
def Cx.Ok.QD(ok:X.Ok)(e:X.base.get? b=!o):b∉X.fs:=λa=>do this:=(ok.eI.mem a).1;this<-[e];-this
theorem Inv.bs(I:Inv X pins σ H s):∀b o,X.base.get? b=!o->s.heap.get? b=!o/\(H b=none\/∃xs,H b=!(.tup xs)):=λb o e => match I.ok.bs b o e with|⟨h1,.inl h2⟩=>{I.base.keep b o h1 h2 (I.ok.QD e) (I.ok.se b o e),.inl (I.base.free b o h1 h2 (I.ok.se b o e))}|⟨h1,.inr ⟨xs,h2⟩⟩=>{I.base.dO b o xs h1 h2,.inr {xs,I.base.af b xs h2}}
def Inv.bk(I:Inv X pins σ H s):∀b o,X.base.get? b=!o->s.heap.get? b=!o:=λb o e=>(I.bs b o e).1
theorem Inv.mod(I:Inv X pins σ H s):Mod X.K X.mg X.base:=I.ok.mod
def Inv.oz(I:Inv X pins σ H s):X.K.In s.heap:=I.ok.mod.NU.keeps I.bk
theorem Inv.lt(I:Inv X pins σ H s):X.env.locals<↑s:=let⟨_,hn,_⟩:=I.loc;hn.lt
def Inv.sz(I:Inv X pins σ H s):X.s₀.heap.objs.size<=↑s:=qf I.ok.above (wx I.lt)
def Inv.xn(I:Inv X pins σ H s){a:UJ}(h:↑s<=a):a∉X.fs:=λb=>do _;{_,o,c,_}:=I.ok.eI.mem b;absurd (zh (qG c) (qf I.sz h)) (wj _)
def Inv.xY(I:Inv X pins σ H s):∀x c,X.env.cells.lookup x=!c->c≠X.env.locals:=λx c e z=>do _;{v,o,f,d}:=I.cell x c e;{m,{o',es,ep,b,a,_},_}:=I.loc;f<-[z,b];-f;d<-[a];-d
theorem Inv.eI(I:Inv X pins σ H s):s.heap.FunFrames X.base X.outer:=do all:∀(l:List Env),(∀b∈d_ l,b∈X.fs)->X.s₀.heap.FunFrames X.base l->s.heap.FunFrames X.base l:=(do(l);(by induction l with|nil|cons env r j=>?_);(_,_);(by trivial);(f,g);{h,{L,o,a,hn,m,k},i}:=g;d:L∈X.fs:=f L (do@d_;[jq,a];qi);{sl,e}:=I.base.slot L o m (I.ok.xM L d) d λz=>I.ok.yO L z d;{h,{L,_,a,hn,e,k},j (λb c=>f b (do@d_;[jq,a];qm _ c)) i});all X.outer (λ_ c=>c) I.ok.eI
theorem Inv.stack(I:Inv X pins σ H s):s.heap.FunFrames X.base X.stack:=do e||{e,hf}:=I.ok.NH;[e];I.eI;[e];{m,hn,_}:=I.loc;.cons (by rw[I.ok.kind];decide) hf hn ?_ I.eI;Heap.get?_none_of_le (qf I.ok.tH I.ok.above)
def Inv.iF(I:Inv X pins σ H s):∀b∈d_ X.stack,b∈X.env.locals::X.fs:=λb a=>do e||{e,hf}:=I.ok.NH;a<-[e];qm _ a;a<-[e];(by unfold d_ at a);a<-[jq,hf];a
def Inv.o4(I:Inv X pins σ H s):∀b∈d_ X.stack,H b=none:=λb a=>do e||a:=qt.mp (I.iF b a);[e];I.free;{_,o,c,_}:=I.ok.eI.mem a;I.base.free b o c (I.ok.xM b a) λz=>I.ok.yO b z a
def Inv.step{g':Array GenState}{t':Nat}{d':Drawn}{ch:List UJ}(I:Inv X pins σ H s)(h:∀b∈ch,(b∈X.ex\/X.s₀.heap.objs.size<=b)/\b≠X.env.locals/\(∀x c,X.env.cells.lookup x=!c->c≠b)/\∀p∈X.pn++pins,p.1≠b)(keep:∀b o,b≠X.env.locals->b∉X.fs->b∉ch->s.heap.get? b=!o->H b=none->h'.get? b=!o)(slot:∀b o,b≠X.env.locals->b∈X.fs->b∉ch->s.heap.get? b=!o->H b=none->∃sl,h'.get? b=some {o with slots:=sl})(free:∀b o,b∉ch->s.heap.get? b=!o->H b=none->H' b=none)(there:∀b o,b∉ch->s.heap.get? b=!o->∃o',h'.get? b=!o')(af:∀b xs,H b=!(.tup xs)->H' b=!(.tup xs))(dR:∀b o u,H b=!(.du o u)->H' b=!(.du o u))(dW:∀b ps,H b=!(.cn ps)->∃more,H' b=!(.cn (ps++more)))(dO:∀b o xs,s.heap.get? b=!o->H b=!(.tup xs)->h'.get? b=!o)(ns:∀m,s.heap.Ns X.env.locals m->h'.Ns X.env.locals m)(E:df X.prog X.w H' h')(hg:AllBare g') : Inv X pins σ H' {s with heap:=h',gens:=g',drawn:=d',toks:=t'}:=do B:∀b o,X.s₀.heap.get? b=!o->b≠X.env.locals:=λb o e=>qp (zh (qG e) I.ok.above);t:∀b o,X.s₀.heap.get? b=!o->b∉X.ex->b∉ch:=λb o e a y=>(do z||z:=(h b y).1;a z;absurd (zh (qG e) z) (wj _));g:∀x c,X.env.cells.lookup x=!c->∀v,s.heap.IsCell c v->h'.IsCell c v:=λx c e v ⟨o,A,D⟩=>(do f:c∉ch:=λz=>(h c z).2.2.1 x c e rfl;G<|c∈X.fs;{sl,q}:=slot c o (I.xY x c e) G f A (I.dr x c e);{_,q,D};{o,keep c o (I.xY x c e) G f A (I.dr x c e),D});{I.ok,I.os,hg,{λb o e n y a=>?_,λb o e n y a=>?_,λb o e n a=>?_,λb o e a=>?_,λb xs e=>af b xs (I.base.af b xs e),λb o xs e=>dR b o xs (I.base.dR b o xs e),λb ps e=>?_,λb o xs e n=>dO b o xs (I.base.dO b o xs e n) (I.base.af b xs n)},?_,λx c e=>?_,?_,λx c e=>?_,λp hp=>?_,E,I.len};keep b o (B b o e) y (t b o e a) (I.base.keep b o e n y a) (I.base.free b o e n a);{sl,j}:=I.base.slot b o e n y a;{F,C}:=slot b _ (B b o e) y (t b o e a) j (I.base.free b o e n a);{F,C};{o',j}:=I.base.there b o e a;free b o' (t b o e a) j (I.base.free b o e n a);{o',j}:=I.base.there b o e a;there b o' (t b o e a) j;{L,j}:=I.base.dW b ps e;{K,C}:=dW b _ j;{L++K,do[C,ny]};{m,hn,N}:=I.loc;{m,ns m hn,λi x v j C M=>?_};{u,r,l}:=N i x v j C M;{u,r,?_};l||{k,c,e,z}:=l;.inl l;.inr ⟨k,c,e,g x c e _ z⟩;{v,z}:=I.cell x c e;{v,g x c e v z};{m,{o,_,_,A,_},_}:=I.loc;free _ o (λz=>(h _ z).2.1 rfl) A I.free;{v,o,A,D}:=I.cell x c e;free c o (λz=>(h c z).2.2.1 x c e rfl) A (I.dr x c e);{e,n,ne,J,d}:=I.pin p hp;f:p.1∉ch:=λz=>(h p.1 z).2.2.2 p hp rfl;{keep p.1 p.2 ne J f e n,free p.1 p.2 f e n,ne,J,d}
def Inv.un(I:Inv X pins σ H s)(u:Un X.fs [] H H' s.heap h')(d:df X.prog X.w H' h'):Inv X pins σ H' {s with heap:=h',toks:=t'}:=do _;{m,{o,es,ep,h,r},_}:=id I.loc;{sl,j}:=u.any h I.free (do 0);I.step (g':=s.gens) (d':=s.drawn) (ch:=[]) (λ_ z=>nomatch z) (λb o _ g _ e n=>u.keep b o e n g (do 0)) (λb o _ g _ e n=>u.slot b o e n g (do 0)) (λb o _ e n=>u.free b o e n (do 0)) (λb o _ e=>u.there b o e (do 0)) u.af u.dR u.dW u.dO (λl k=>do _;{o',c,f,a,i}:=k;a<-[h];-a;{_,c,f,j,i}) d I.bare
def Inv.call(I:Inv X pins σ H s)(u:Un (d_ X.stack) ch H H' s.heap h')(h:df X.prog X.w H' h')(hg:AllBare g')(f:∀b∈ch,(b∈X.ex\/X.s₀.heap.objs.size<=b)/\b≠X.env.locals/\(∀x c,X.env.cells.lookup x=!c->c≠b)/\∀p∈X.pn++pins,p.1≠b) : Inv X pins σ H' {s with heap:=h',gens:=g',drawn:=d',toks:=t'}:=do _;{m,{o,es,ep,k,r},_}:=id I.loc;{sl,j}:=u.any k I.free λz=>(f _ z).2.1 rfl;I.step (ch:=ch) f (λb o j l a e n=>u.keep b o e n (λz=>(qt.mp (I.iF b z)).elim j l) a) (λb o _ _ a e n=>u.any e n a) (λb o a e n=>u.free b o e n a) (λb o a e=>u.there b o e a) u.af u.dR u.dW u.dO (λv t=>do _;{o',g,i,d,q}:=t;d<-[k];-d;{_,g,i,j,q}) h hg
def Inv.turned(I:Inv X pins σ H s)(k:∀b o,b≠it->s.heap.get? b=!o->h'.get? b=!o)(hn:H it=none)(f:it≠X.env.locals)(h1:it∈X.ex\/X.s₀.heap.objs.size<=it)(h2:∀x c,X.env.cells.lookup x=!c->c≠it)(g:∀p∈X.pn++pins,p.1≠it):Inv X pins σ H {s with heap:=h',toks:=t'}:=do d:∀b u,H b=!u->b≠it:=λb u e z=>(do e<-[z,hn];-e);I.step (g':=s.gens) (d':=s.drawn) (ch:=[it]) (λb h=>?_) (λb o _ _ a e _=>k b o (λz=>a (do#[z])) e) (λb o _ _ a e _=>{o.slots,k b o (λz=>a (do#[z])) e}) (λ_ _ _ _ n=>n) (λb o a e=>{o,k b o (λz=>a (do#[z])) e}) (λ_ _ e=>e) (λ_ _ _ e=>e) (λb ps e=>{#[],do[e];0}) (λb o xs e n=>k b o (d b _ n) e) (λm j=>?_) (λb u e=>?_) I.bare;e:b=it:=(do 0<|h);!e;{h1,f,h2,g};{o,es,ep,i,r}:=j;{o,es,ep,k _ o (Ne.symm f) i,r};(I.a9 b u e).cY (λc v a q=>k c v ?_ q) (λ_ q=>q) λ_ _ q=>q;z||z:=a;[z];d b u e;d c _ z
def Inv.tok(I:Inv X pins σ H s)(t:Nat):Inv X pins σ H {s with toks:=t}:=I.un (h':=s.heap) (t':=t) Un.refl I.a9
theorem Inv.kept(I:Inv X pins σ H s)(k:∀b u,s.heap.get? b=!u->h'.get? b=!u):Inv X pins σ H {s with heap:=h',toks:=t'}:=I.un (Un.kept k) (I.a9.kept k)
theorem Inv.laid{a:UJ}{o:HO}{t':Nat}(I:Inv X pins σ H s)(k:∀b u,s.heap.get? b=!u->h'.get? b=!u)(hp:↑s<=a)(new:a0 X.prog X.w (upd H a o) h' a o) : Inv X pins σ (upd H a o) {s with heap:=h',toks:=t'}:=I.un (Un.laid k hp (I.a9.fresh hp)) (I.a9.laid k hp new)
theorem Inv.write(I:Inv X pins σ H s)(c:JJ (H x))(d:e=x\/H e=!(.own x))(k:∀b u,b≠e->s.heap.get? b=!u->h'.get? b=!u)(a:∃u,h'.get? e=!u)(new:a0 X.prog X.w (upd H x o) h' x o):Inv X pins σ (upd H x o) {s with heap:=h',toks:=t'}:=I.un (Un.write c d k a) (I.a9.write c d k a new)
def Inv.weak(I:Inv X pins σ H s)(b:σ'.length=σ.length)(w:∀(i:Nat) v,σ'[i]?=!(!v)->σ[i]?=!(!v)):Inv X pins σ' H s := {I.ok,I.os,I.bare,I.base,let⟨m,hn,a⟩:=I.loc;{m,hn,λi x v e c d=>a i x v e (w i v c) d},I.cell,I.free,I.dr,I.pin,I.a9,b.trans I.len}
def Inv.ic(I:Inv X pins σ H s)(h:∀p∈pins',s.heap.get? p.1=!p.2/\H p.1=none/\p.1≠X.env.locals/\p.1∉X.fs/\∀v,p.2.data≠.cell v):Inv X pins' σ H s := {I.ok,I.os,I.bare,I.base,I.loc,I.cell,I.free,I.dr,λp hp=>(qz.mp hp).elim (λz=>I.pin p (yo _ z)) (h p),I.a9,I.len}
def Jd{N:List UK}(c:N.Nodup){i j:Nat}{x:UK}(a:N[i]?=!x)(b:N[j]?=!x):i=j:=do _;{h1,d}:=qw.mp a;{h2,e}:=qw.mp b;(List.getElem_inj c).mp (d.trans e.symm)
def LA(I:Inv X pins σ H s)(hN:X.N.Nodup)(hi:X.N[i]?=!x)(B:Loc X.env.scope x)(r:RelV v u)(h:∀s',Inv X pins (σ.set i (!v)) H s'->(∃a,Heap.SameBut a s.heap s'.heap/\(a=X.env.locals\/X.env.cells.lookup x=!a))->Q Unit.unit s')(hf:X.fn x=true\/X.env.scope.names.lookup x=some .local:=by first|exact .inl rfl|exact .inr rfl|assumption):wpAny M A (storeName X.env x u) Q E s:=do _;{m,hn,hl}:=id I.loc;P:(X.env.scope.kind==.class||(X.env.scope.kind==.module&&X.env.locals != X.env.globals))=false:=(do[I.ok.kind];2);G:i<σ.length:=(do[I.len];(qw.mp hi).1);xY:=I.xY;l:∀{a:UJ} {h':Heap},(∃o,s.heap.get? a=!o/\H a=none)->Heap.SameBut a s.heap h'->df X.prog X.w H h':=λ{a h'} ha f b ob e=>(do _;{_,_,C}:=ha;(I.a9 b ob e).cY (λc U t q=>(f.2 c ?_).trans q) (λ_ q=>q) λ_ _ q=>q;(rfl);rfl||t:=t;e<-[C];-e;t<-[C];-t);hk||hk:=B;wpAny_storeName_local hk hn (λh' Z f=>?_) P;{oL,_,_,hoL,_}:=id hn;h _ {I.ok,I.os,I.bare,{λb o e n K B=>?_,λb o e n K B=>?_,I.base.free,λb o e B=>?_,I.base.af,I.base.dR,I.base.dW,λb o xs e n=>(f.2 b (Nat.ne_of_lt (Nat.lt_of_lt_of_le (qG e) I.ok.above))).trans (I.base.dO b o xs e n)},{_,Z,λj y W g F e3=>?_},λy c e=>?_,I.free,I.dr,λp hp=>?_,l {oL,hoL,I.free} f,do 0<|I.len} {_,f,.inl rfl};(f.2 b (qp (zh (qG e) I.ok.above))).trans (I.base.keep b o e n K B);{sl,g}:=I.base.slot b o e n K B;{sl,(f.2 b (qp (zh (qG e) I.ok.above))).trans g};{o',g}:=I.base.there b o e B;{o',(f.2 b (qp (zh (qG e) I.ok.above))).trans g};J<|j=i;!J;g<-[hi];-g;F<-[n0 G];-F;{u,r,.inl {hk,do 0}};F<-[jf (Ne.symm J)];{Y,r',q}:=hl j y W g F e3;{Y,r',?_};{k,e}||{k,c,e,z}:=q;.inl ⟨k,?_⟩;this:y≠x:=λe=>J (Jd hN g (e▸hi));#[this,e];.inr {k,c,e,z.sameBut f (xY y c e)};{U,z}:=I.cell y c e;{U,z.sameBut f (xY y c e)};{e,n,ne,nf,d}:=I.pin p hp;{(f.2 p.1 ne).trans e,n,ne,nf,d};D:X.fn x=true:=(do z||z:=hf;z;hk<-[z];-hk);{c,t}:=I.ok.has x (.inl hk);{U,z}:=I.cell x c t;wpAny_storeName_cell I.ok.kind hk t z (λh' O f=>?_);{oc,L,R}:=id z;h {s with heap:=h'} {I.ok,I.os,I.bare,{λb o e n K B=>?_,λb o e n K B=>?_,I.base.free,λb o e B=>?_,I.base.af,I.base.dR,I.base.dW,λb o xs e n=>(f.2 b (Nat.ne_of_lt (Nat.lt_of_lt_of_le (qG e) (I.ok.Af x c D t)))).trans (I.base.dO b o xs e n)},{m,hn.sameBut f (Ne.symm (xY x c t)),λj y W g F e3=>?_},λy T e=>?_,I.free,I.dr,λp hp=>?_,l {oc,L,I.dr x c t} f,do 0<|I.len} {c,f,.inr t};(f.2 b (qp (zh (qG e) (I.ok.Af x c D t)))).trans (I.base.keep b o e n K B);{sl,g}:=I.base.slot b o e n K B;{sl,(f.2 b (qp (zh (qG e) (I.ok.Af x c D t)))).trans g};{o',g}:=I.base.there b o e B;{o',(f.2 b (qp (zh (qG e) (I.ok.Af x c D t)))).trans g};J<|j=i;!J;g<-[hi];-g;F<-[n0 G];-F;{u,r,.inr {.inl hk,c,t,O}};F<-[jf (Ne.symm J)];{Y,r',q}:=hl j y W g F e3;{Y,r',?_};q||{k,T,e,z'}:=q;.inl q;.inr ⟨k,T,e,z'.sameBut f ?_⟩;(rfl);J (Jd hN g (I.ok.inj _ _ _ e t▸hi));S<|T=c;!S;{_,O};{w2,z2}:=I.cell y T e;{w2,z2.sameBut f S};{e,n,ne,nf,d}:=I.pin p hp;{(f.2 p.1 ?_).trans e,n,ne,nf,d};(q);e<-[q,L];q':oc=p.2:=qJ e;d U (do[<-q'];R)
def KY(I:Inv X pins σ H s)(c:X.N.Nodup)(hi:X.N[i]?=!x)(d:Loc X.env.scope x)(r:RelV v u)(h:∀s',Inv X pins (σ.set i (!v)) H s'->Q Unit.unit s')(a:X.fn x=true\/X.env.scope.names.lookup x=some .local:=by first|exact .inl rfl|exact .inr rfl|assumption):wpAny M A (storeName X.env x u) Q E s := LA I c hi d r (λs' b _=>h s' b) a
def Inv.iN(I:Inv X pins σ H s)(f:s'.os=s.os)(u:Un (d_ X.stack) ch H H' s.heap s'.heap)(a:df X.prog X.w H' s'.heap)(hg:AllBare s'.gens)(d:∀b∈ch,(b∈X.ex\/X.s₀.heap.objs.size<=b)/\b≠X.env.locals/\(∀x c,X.env.cells.lookup x=!c->c≠b)/\∀p∈X.pn++pins,p.1≠b):Inv X pins σ H' s':=do _;{h',g',d',t',o'}:=s';e:o'=s.os:=f;!e;I.call (g':=g') (t':=t') (d':=d') u a hg d
end
abbrev XK:=MD->Option UJ->Hp->Prop
abbrev St:=List (Option V)
abbrev VK:=V->Hp->Prop
abbrev TE:=St->Hp->VK->Prop
abbrev TT:=St->Hp->(Bool->Hp->Prop)->Prop
abbrev TA:=St->Hp->(List V->Hp->Prop)->Prop
structure Ends where
 nx:St->Hp->Prop
 rt:VK
 bk:St->Hp->Prop:=λ_ _=>False
 ct:St->Hp->Prop:=λ_ _=>False
abbrev TS:=Ends->St->Hp->Prop
def EP(X:Cx)(pins:List 71)(σ:St)(Q:VK)(u:MD)(s':UH):Prop:=∃v H',Inv X pins σ H' s'/\RelV v u/\Q v H'
def TP(X:Cx)(pins:List 71)(σ:St)(Q:Bool->Hp->Prop)(b:Bool)(s':UH):Prop:=∃H',Inv X pins σ H' s'/\Q b H'
def AP(X:Cx)(pins:List 71)(σ:St)(Q:List V->Hp->Prop)(us:List MD)(s':UH):Prop:=∃vs H',Inv X pins σ H' s'/\aK vs us/\Q vs H'
def SP(X:Cx)(pins:List 71)(D:Ends)(f:Flow)(s':UH):Prop := match f with|.next=>∃σ' H',Inv X pins σ' H' s'/\D.nx σ' H'|.brk=>∃σ' H',Inv X pins σ' H' s'/\D.bk σ' H'|.cont=>∃σ' H',Inv X pins σ' H' s'/\D.ct σ' H'|.ret u=>∃v σ' H',Inv X pins σ' H' s'/\RelV v u/\D.rt v H'
def TZ(X:Cx)(e:Expr)(t:TE):Prop := ∀(pins:List 71) (s:UH) (σ:St) (H:Hp) (Q:VK),Inv X pins σ H s->t σ H Q->wpAny 37 X.A (eval e X.env) (EP X pins σ Q) X.xe s
structure PE(X:Cx)(e:Expr)(t:TE):Prop where run:TZ X e t
instance Ux{X:Cx}{e:Expr}{t:TE}:CoeFun (PE X e t) λ_=>TZ X e t:={PE.run}
def TH(X:Cx)(e:Expr)(t:TT):Prop := ∀(pins:List 71) (s:UH) (σ:St) (H:Hp) (Q:Bool->Hp->Prop),Inv X pins σ H s->t σ H Q->wpAny 37 X.A (isTrue e X.env (eval e X.env)) (TP X pins σ Q) X.xe s
structure PT(X:Cx)(e:Expr)(t:TT):Prop where run:TH X e t
instance UG{X:Cx}{e:Expr}{t:TT}:CoeFun (PT X e t) λ_=>TH X e t:={PT.run}
def qZ(X:Cx)(e:Expr)(t:TT):Prop := ∀(a:Sem MD) (pins:List 71) (s:UH) (σ:St) (H:Hp) (Q:Bool->Hp->Prop),Inv X pins σ H s->t σ H Q->wpAny 37 X.A (isTrue e X.env a) (TP X pins σ Q) X.xe s
structure PW(X:Cx)(e:Expr)(t:TT):Prop where run:qZ X e t
instance T7{X:Cx}{e:Expr}{t:TT}:CoeFun (PW X e t) λ_=>qZ X e t:={PW.run}
def PW.pt(h:PW X e t):PT X e t:={h _}
def TL(X:Cx)(es:List Expr)(t:TA):Prop := ∀(pos:Pos) (pins:List 71) (s:UH) (σ:St) (H:Hp) (Q:List V->Hp->Prop),Inv X pins σ H s->t σ H Q->wpAny 37 X.A (spliced (backTo pos (starEach es X.env))) (AP X pins σ Q) X.xe s
structure PA(X:Cx)(es:List Expr)(t:TA):Prop where run:TL X es t
instance T8{X:Cx}{es:List Expr}{t:TA}:CoeFun (PA X es t) λ_=>TL X es t:={PA.run}
def TU(X:Cx)(st:Stmt)(t:TS):Prop := ∀(pins:List 71) (s:UH) (σ:St) (H:Hp) (D:Ends),Inv X pins σ H s->t D σ H->wpAny 37 X.A (exec st X.env) (SP X pins D) X.xe s
structure PS(X:Cx)(st:Stmt)(t:TS):Prop where run:TU X st t
instance T9{X:Cx}{st:Stmt}{t:TS}:CoeFun (PS X st t) λ_=>TU X st t:={PS.run}
def Hf(X:Cx)(st:List Stmt)(t:TS):Prop := ∀(pins:List 71) (s:UH) (σ:St) (H:Hp) (D:Ends),Inv X pins σ H s->t D σ H->wpAny 37 X.A (execs st X.env) (SP X pins D) X.xe s
structure jD(X:Cx)(st:List Stmt)(t:TS):Prop where run:Hf X st t
instance TM{X:Cx}{st:List Stmt}{t:TS}:CoeFun (jD X st t) λ_=>Hf X st t:={jD.run}
def bL{α:Type}{t:Sem α}{Q b:α->UH->Prop}{M:Model}{A:Around}{E:KE}{s:UH}(h:wpAny M A t Q E s)(c:∀a s,Q a s->b a s):wpAny M A t b E s:=qM h c λ_ _ x=>x
section
variable {X:Cx}
inductive tR(i:Nat)(σ:St)(H:Hp)(Q:VK):Prop
 |mk(v:_)(_:σ[i]?=!(!v))(_:Q v H)
def tC(v:V):TE:=λ_ H Q=>Q v H
def FA(o:X.N[i]?=!x)(p:Ny X.env.scope x)(g:(x==("__debug__":UK))=false:=by decide)(f:(x==("__classdict__":UK))=false:=by decide):PE X (.Name x pos) (tR i):=do _;{?_};(pins,s,σ,H,Q,I,h);{v,e,h}:=h;{m,hn,k}:=I.loc;{u,r,l}:=k i x v o e p;d:EP X pins σ Q u s:={v,H,I,r,h};{b,n}||{b,c,j,a}:=l;wpAny_Name (wpAny_loadName_local I.ok.kind b hn n d) g;b||b:=b;wpAny_Name (wpAny_loadName_cell I.ok.kind b j a d) g;wpAny_Name (wpAny_loadName_free I.ok.kind b j a d f) g
def aE{i j pos}:PE X (.Constant (.int i) j pos) (tC (.int i)):={λ_ _ _ H _ I h=>wpAny_Constant_int {.int i,H,I.tok _,{_,O},h}}
def dF{b j pos}:PE X (.Constant (.bool b) j pos) (tC (.bl b)):={λ_ _ _ H _ I h=>Constant_bool {.bl b,H,I,O,h}}
def eV{j pos}:PE X (.Constant .none j pos) (tC .aV):={λ_ _ _ H _ I h=>Constant_none {.aV,H,I,O,h}}
def aN{x j pos}:PE X (.Constant (.str x) j pos) (tC (.str x)):={λ_ _ _ H _ I h=>Calls.Constant_str {.str x,H,I.tok _,{_,O},h}}
def Gl(X:Cx)(x:UK):Prop:=X.env.kindOf x=some .globalImplicit
def Fw{E:KE}{pins:List 71}{s:UH}{σ:St}{H:Hp}{x:UK}{u:MD}{pos:Pos}{Q:KE}(I:Inv X pins σ H s)(hg:Gl X x)(b:X.mg x=!u)(h:Q u s)(a:(x==("__debug__":UK))=false:=by decide):wpAny 37 X.A (eval (.Name x pos) X.env) Q E s := Calls.Name_function_global I.ok.kind hg (Calls.loadGlobal_global (do[I.ok.glob];I.mod.glob.keeps I.bk) b h) a
def iY{E:KE}{pins:List 71}{s:UH}{σ:St}{H:Hp}{x:UK}{u:MD}{pos:Pos}{Q:KE}(I:Inv X pins σ H s)(hg:Gl X x)(c:X.mg x=none)(a:bootBuiltins x=!u)(h:Q u s)(hn:x≠"__name__":=by decide)(b:(x==("__debug__":UK))=false:=by decide):wpAny 37 X.A (eval (.Name x pos) X.env) Q E s:=do _;{d,h1,h2}:=I.mod.blt;Calls.Name_function_global I.ok.kind hg (Calls.loadGlobal_builtin (do[I.ok.glob];I.mod.glob.keeps I.bk) c (do[I.ok.blt];h1.keeps I.bk) ((h2 x hn).trans a) h) b
def Et(hg:Gl X x)(b:X.mg x=!u)(r:RelV v u)(a:(x==("__debug__":UK))=false:=by decide):PE X (.Name x pos) (tC v):={λ_ _ _ H _ I h=>Fw I hg b {v,H,I,r,h} a}
def Rb(hg:Gl X x)(c:X.mg x=none)(a:bootBuiltins x=!u)(r:RelV v u)(hn:x≠"__name__":=by decide)(b:(x==("__debug__":UK))=false:=by decide):PE X (.Name x pos) (tC v):={λ_ _ _ H _ I h=>iY I hg c a {v,H,I,r,h} hn b}
variable {a b:Expr}{ta tb:TE}{pos:Pos}
inductive Ue(Q:Bool->Hp->Prop)(x:V)(H1:Hp):Prop
 |mk(c:_)(_:x=.bl c)(_:Q c H1)
def tB(t:TE):TT:=λσ H Q=>t σ H λx H1=>Ue Q x H1
def fm(h:PE X e t)(i:∀a,isTrue e X.env a=(do{let v <-a;standAt e.pos;holding [v] (truthy v)}):=by intro _;rfl):PT X e (tB t):=do _;{?_};(pins,s,σ,H,Q,I,f);isTrue_plain (bL (h pins s σ H _ I f) λv j ⟨x,H1,b,g,c⟩=>?_) (i _);{d,rfl,q}:=c;-g;wpAny_truthy_bool {H1,b,q}
variable {tA tB':TT}{rest:List Expr}
def So(t u:TT):TT:=λσ H Q=>t σ H λc H1=>if c=true then u σ H1 Q else Q false H1
def T_(t u:TT):TT:=λσ H Q=>t σ H λc H1=>if c=true then Q true H1 else u σ H1 Q
def O4(t:TT):TT:=λσ H Q=>t σ H λc H1=>Q (not c) H1
def hZ(b:PT X a tA):PW X (.BoolOp .And [a] pos) tA:=do _;{?_};(d,pins,s,σ,H,Q,I,h);isTrue_and (bL (b pins s σ H Q I h) λc f e=>?_);(by cases c with|true|false=>?_);isTrue_and_nil e;e
def Ke(b:PT X a tA):PW X (.BoolOp .Or [a] pos) tA:=do _;{?_};(d,pins,s,σ,H,Q,I,h);isTrue_or (bL (b pins s σ H Q I h) λc f e=>?_);(by cases c with|false|true=>?_);isTrue_or_nil e;e
def gJ(f:PT X a tA)(i:PW X (.BoolOp .And (b::rest) pos) tB'):PW X (.BoolOp .And (a::b::rest) pos) (So tA tB'):=do _;{?_};(j,pins,s,σ,H,Q,I,h);isTrue_and (bL (f pins s σ H _ I h) λc g ⟨H1,d,e⟩=>?_);(by cases c with|true|false=>?_);i j pins g σ H1 Q d e;{H1,d,e}
def yX(f:PT X a tA)(i:PW X (.BoolOp .Or (b::rest) pos) tB'):PW X (.BoolOp .Or (a::b::rest) pos) (T_ tA tB'):=do _;{?_};(j,pins,s,σ,H,Q,I,h);isTrue_or (bL (f pins s σ H _ I h) λc g ⟨H1,d,e⟩=>?_);(by cases c with|true|false=>?_);{H1,d,e};i j pins g σ H1 Q d e
def EO(b:PT X a tA):PT X (.UnaryOp .Not a pos) (O4 tA):=do _;{?_};(pins,s,σ,H,Q,I,h);isTrue_not (b pins s σ H (λc H1=>Q (not c) H1) I h)
inductive Dd(tb:TE)(σ:St)(Q:VK)(x:V)(H1:Hp):Prop
 |mk(c:_)(_:x=.bl c)(_:if c=true then tb σ H1 Q else Q (.bl false) H1)
def HP(ta tb:TE):TE:=λσ H Q=>ta σ H λx H1=>Dd tb σ Q x H1
inductive HA(tb:TE)(σ:St)(Q:VK)(x:V)(H1:Hp):Prop
 |mk(c:_)(_:x=.bl c)(_:if c=true then Q (.bl true) H1 else tb σ H1 Q)
def RE(ta tb:TE):TE:=λσ H Q=>ta σ H λx H1=>HA tb σ Q x H1
def Hz{op}(h:PE X a t):PE X (.BoolOp op [a] pos) t:={λpins s σ H Q I b=>BoolOp_one (h pins s σ H Q I b)}
def E4(f:PE X a ta)(i:PE X (.BoolOp .And (b::rest) pos) tb):PE X (.BoolOp .And (a::b::rest) pos) (HP ta tb):=do _;{?_};(pins,s,σ,H,Q,I,h);BoolOp_and (bL (f pins s σ H _ I h) λv g ⟨x,H1,e,j,d⟩=>?_);{c,rfl,d}:=d;-j;wpAny_truthy_bool ?_;(by cases c with|true|false=>?_);i pins g σ H1 Q e d;{.bl false,H1,e,O,d}
def KI(f:PE X a ta)(i:PE X (.BoolOp .Or (b::rest) pos) tb):PE X (.BoolOp .Or (a::b::rest) pos) (RE ta tb):=do _;{?_};(pins,s,σ,H,Q,I,h);BoolOp_or (bL (f pins s σ H _ I h) λv g ⟨x,H1,e,j,d⟩=>?_);{c,rfl,d}:=d;-j;wpAny_truthy_bool ?_;(by cases c with|false|true=>?_);i pins g σ H1 Q e d;{.bl true,H1,e,O,d}
def Uz(t:TT)(ta tb:TE):TE:=λσ H Q=>t σ H λc H1=>if c=true then ta σ H1 Q else tb σ H1 Q
def sf(j:PT X c tA)(i:PE X a ta)(k:PE X b tb):PE X (.IfExp c a b pos) (Uz tA ta tb):=do _;{?_};(pins,s,σ,H,Q,I,h);wpAny_IfExp (bL (j pins s σ H _ I h) λd e ⟨H1,f,g⟩=>?_);(by cases d with|true|false=>?_);i pins e σ H1 Q f g;k pins e σ H1 Q f g
end
def aD(H:Hp)(a:UJ)(xs:List V):Prop := Rd H a (.lst xs)
def aS(H:Hp)(a:UJ)(xs:List V):Prop := Rd H a (.tup xs)
def nM:MD->Option V|.none=>some .aV|.bool b=>!(.bl b)|.int i _=>!(.int i)|.str x _=>!(.str x)|.bytes b _=>!(.sE b)|.float b _=>!(.G1 b)|.ref a=>!(.ref a)|.type n=>!(.ty n)|_=>none
def RelV.abs(r:RelV x u):nM u=!x:=do(by cases x with|aV|bl _|int _|str _|sE _|G1 _|ref _|ty _=>?_);-r;2;-r;2;{t,rfl}:=r;2;{t,rfl}:=r;2;{t,rfl}:=r;2;{t,rfl}:=r;2;-r;2;-r;2
theorem RelV.inj(r:RelV x u)(q:RelV y u):x=y:=qJ (r.abs.symm.trans q.abs)
theorem aK.inj:∀{xs ys:List V} {us:List MD},aK xs us->aK ys us->xs=ys|_,_,_,.nil,.nil=>rfl|_,_,_,.cons r t,.cons r' t'=>do[r.inj r',aK.inj t t']
section
variable {X:Cx}{pins:List 71}{σ:St}{H:Hp}{s:UH}{a:UJ}{xs ys:List V}
def aD.of(h:H a=!(.lst xs)):aD H a xs:=.inl h
def aS.of(h:H a=!(.tup xs)):aS H a xs:=.inl h
def Inv.list(I:Inv X pins σ H s)(h:aD H a xs):∃its:List MD,aK xs its/\PlainL s.heap a its.toArray/\xs.length<=sizeLine:=do _;{z,its,n,r,e}:=Rd.ok h I.a9;{its,r,{_,n,e,O,O,O},z}
def Inv.tuple(I:Inv X pins σ H s)(h:aS H a xs):∃its:List MD,aK xs its/\IsTup s.heap a its.toArray/\xs.length<=sizeLine:=do _;{z,its,r,p}:=Rd.ok h I.a9;{its,r,p,z}
def Inv.mK(I:Inv X pins σ H s)(h:aD H a xs)(h':aD H a ys):xs=ys:=do _;{its,r,{o,n,e,_,_,d},_}:=I.list h;{its',c,{o',n',b,_,_,d'},_}:=I.list h';b<-[e];-b;d'<-[d];(by injection d' with d1 _);this:its=its':=(do 0<|congrArg Array.toList d1);!this;r.inj c
end
abbrev Cx.i6(X:Cx)(E:KE):Cx:={X with xe:=E}
abbrev Cx.yM(X:Cx):Cx:=X.i6 λ_ _=>False
theorem Cx.Ok.i6{X:Cx}(ok:X.Ok)(E:KE):(X.i6 E).Ok := {ok.mod,ok.kind,ok.glob,ok.blt,ok.above,ok.inj,ok.has,ok.Af,ok.hd,ok.frames,ok.NH,ok.T1,ok.bs,ok.tH,ok.se,ok.yO,ok.eI,ok.xM}
def Cx.Ok.d6{X:Cx}{E:KE}(ok:(X.i6 E).Ok):X.Ok := {ok.mod,ok.kind,ok.glob,ok.blt,ok.above,ok.inj,ok.has,ok.Af,ok.hd,ok.frames,ok.NH,ok.T1,ok.bs,ok.tH,ok.se,ok.yO,ok.eI,ok.xM}
section
variable {X:Cx}{pins:List 71}{σ:St}{H:Hp}{s:UH}{E:KE}
theorem Inv.i6(I:Inv X pins σ H s)(E:KE):Inv (X.i6 E) pins σ H s:={I.ok.i6 E,I.os,I.bare,I.base,I.loc,I.cell,I.free,I.dr,I.pin,I.a9,I.len}
theorem Inv.d6(I:Inv (X.i6 E) pins σ H s):Inv X pins σ H s:={I.ok.d6,I.os,I.bare,I.base,I.loc,I.cell,I.free,I.dr,I.pin,I.a9,I.len}
theorem SP.d6(h:SP (X.i6 E) pins D f s'):SP X pins D f s':=do(by cases f with|next|brk|cont|ret u=>?_);{σ',H',I,q}:=h;{σ',H',I.d6,q};{σ',H',I,q}:=h;{σ',H',I.d6,q};{σ',H',I,q}:=h;{σ',H',I.d6,q};{v,σ',H',I,r,q}:=h;{v,σ',H',I.d6,r,q}
theorem jD.yM{st:List Stmt}{t:TS}(h:jD X.yM st t):jD X st t:={λpins s σ H D I a => qM (h pins s σ H D (I.i6 _) a) (λ_ _ q=>q.d6) λ_ _ z=>False.elim z}
end
section
variable {X:Cx}{st:Stmt}{rest:List Stmt}{t u:TS}{e:Expr}{te:TE}{pos:Pos}
def Hx:TS:=λD σ H=>D.nx σ H
def uO(t u:TS):TS:=λD σ H=>t {D with nx:=u D} σ H
def cX:jD X [] Hx:={λ_ _ σ H _ I h=>wpAny_execs_nil {σ,H,I,h}}
def ax(h1:PS X st t)(h2:jD X rest u):jD X (st::rest) (uO t u):=do _;{?_};(pins,s,σ,H,D,I,h);wpAny_execs_cons (bL (h1 pins s σ H {D with nx:=u D} I h) λf b q=>?_);(by cases f with|next|ret v|brk|cont=>?_);{σ',H',a,q}:=q;h2 pins b σ' H' D a q;q;q;q
def aH(h1:PS X st t):jD X [st] t:=do _;{?_};(pins,s,σ,H,D,I,h);wpAny_execs_cons (bL (h1 pins s σ H D I h) λf a q=>?_);(by cases f with|next|ret v|brk|cont=>?_);wpAny_execs_nil q;q;q;q
def Inv.quiet{pins:List 71}{σ:St}{H:Hp}{s:UH}(I:Inv X pins σ H s):interactive X.env=false:=do#[interactive,I.ok.kind]
def zQ(te:TE):TS:=λD σ H=>te σ H λ_ H1=>D.nx σ H1
def rG(d:PE X e te)(b:swapsWith e none pos.line X.env=pure false:=by rfl):PS X (.Expr e pos) (zQ te):=do _;{?_};(pins,s,σ,H,D,I,h);wpAny_Expr_any (bL (d pins s σ H _ I h) λv f ⟨x,H1,a,g,c⟩=>{σ,H1,a,c}) I.quiet b
def Qi(te:TE):TS:=λD σ H=>te σ H D.rt
def aR(d:PE X e te):PS X (.Return (!e) pos) (Qi te):=do _;{?_};(pins,s,σ,H,D,I,h);wpAny_Return_some (bL (d pins s σ H _ I h) λv f ⟨x,H1,a,c,b⟩=>{x,σ,H1,a,c,b})
def SJ(c:TT)(t u:TS):TS:=λD σ H=>c σ H λb H1=>if b=true then t D σ H1 else u D σ H1
def bS(j:PT X c tc)(i:jD X a t)(k:jD X b u):PS X (.If c a b pos) (SJ tc t u):=do _;{?_};(pins,s,σ,H,D,I,h);wpAny_If (bL (j pins s σ H _ I h) λd e ⟨H1,f,g⟩=>?_);(by cases d with|true|false=>?_);i pins e σ H1 D f g;k pins e σ H1 D f g
end
abbrev TG:=V->St->Hp->(St->Hp->Prop)->Prop
abbrev G4:=List V->St->Hp->(St->Hp->Prop)->Prop
def TV(X:Cx)(a:Expr)(t:TG):Prop := ∀(pins:List 71) (s:UH) (σ:St) (H:Hp) (v:V) (u:MD) (Q:St->Hp->Prop),Inv X pins σ H s->RelV v u->t v σ H Q-> wpAny 37 X.A (assign a X.env u) (λ_ s'=>∃σ' H',Inv X pins σ' H' s'/\Q σ' H') X.xe s
structure PG(X:Cx)(target:Expr)(t:TG):Prop where run:TV X target t
instance UD{X:Cx}{a:Expr}{t:TG}:CoeFun (PG X a t) λ_=>TV X a t:={PG.run}
def Mt(X:Cx)(ts:List Expr)(t:G4):Prop := ∀(pins:List 71) (s:UH) (σ:St) (H:Hp) (vs:List V) (us:List MD) (Q:St->Hp->Prop),Inv X pins σ H s->aK vs us->t vs σ H Q-> wpAny 37 X.A (assignInOrder ((assignEach ts X.env).map (·.2)) us) (λ_ s'=>∃σ' H',Inv X pins σ' H' s'/\Q σ' H') X.xe s
structure GH(X:Cx)(ts:List Expr)(t:G4):Prop where run:Mt X ts t
instance TR{X:Cx}{ts:List Expr}{t:G4}:CoeFun (GH X ts t) λ_=>Mt X ts t:={GH.run}
abbrev IS:=V->V->V->Hp->(Hp->Prop)->Prop
def L_(X:Cx)(t:IS):Prop := ∀(pins:List 71) (s:UH) (σ:St) (H:Hp) (o i v:V) (b a u:MD) (Q:Hp->Prop),Inv X pins σ H s->RelV o b->RelV i a->RelV v u->t o i v H Q-> wpAny 37 X.A (setItem b a u) (λ_ s'=>∃H',Inv X pins σ H' s'/\Q H') X.xe s
section
variable {X:Cx}{pos:Pos}
def cQ(i:Nat):TG:=λv σ H Q=>Q (σ.set i (!v)) H
def cZ(c:X.N.Nodup)(hi:X.N[i]?=!x)(d:Loc X.env.scope x)(a:X.fn x=true\/X.env.scope.names.lookup x=some .local:=by first|exact .inl rfl|exact .inr rfl|assumption):PG X (.Name x pos) (cQ i):=do _;{?_};(pins,s,σ,H,v,u,Q,I,r,h);wpAny_assign_Name (KY I c hi d r (λs' b=>{_,H,b,h}) a)
def CF:G4:=λvs σ H Q=>vs=[]/\Q σ H
inductive jP(t:TG)(u:G4)(vs:List V)(σ:St)(H:Hp)(Q:St->Hp->Prop):Prop
 |mk(v r:_)(_:vs=v::r)(_:t v σ H λσ' H'=>u r σ' H' Q)
def kY:GH X [] CF:=do _;{?_};(pins,s,σ,H,vs,us,Q,I,r,h);{e,h}:=h;!e;-r;assignInOrder_nil {σ,H,I,h}
def dD(h1:PG X e t)(h2:GH X es u)(g:(assignEach (e::es) X.env).map (·.2)=assign e X.env::(assignEach es X.env).map (·.2):=by rfl):GH X (e::es) (jP t u):=do _;{?_};(pins,s,σ,H,vs,us,Q,I,r,h);{v,j,d,h}:=h;!d;(by cases r with|cons r f=>?_);[g];assignInOrder_cons (bL (h1 pins s σ H _ _ _ I r h) λ_ c ⟨a,H1,b,i⟩=>?_);h2 pins c a H1 _ _ Q b f i
inductive wH(n:Nat)(t:G4)(v:V)(σ:St)(H:Hp)(Q:St->Hp->Prop):Prop
 |mk(a xs:_)(_:v=.ref a)(_:aS H a xs)(_:xs.length=n)(_:t xs σ H Q)
def lB{k:Nat}(i:X.calm=true)(h:GH X es t)(hn:(assignEach es X.env).length=n:=by rfl)(c:(assignEach es X.env).findIdx? (·.1)=none:=by rfl):PG X (.Tuple es k pos) (wH n t):=do _;{?_};(pins,s,σ,H,v,u,Q,I,r,d);{a,xs,p,m,g,d}:=d;!p;-r;{its,f,j,hz}:=I.tuple m;assign_Tuple_tuple (I.ok.hd i) j (do#[hn,<-g,f.length]) c λh' q=>?_;l:Inv X pins σ H {s with heap:=h'}:=I.kept (t':=s.toks) λb o e=>q b o (qp (qG e)) e;h pins _ σ H xs _ Q l (do 0<|f) d
def PV(to a:TE)(t:IS):TG:=λv σ H Q=>to σ H λo H1=>a σ H1 λi H2=>t o i v H2 λb=>Q σ b
def Nt{to c:TE}(z:PE X o to)(hi:PE X i c)(q:L_ X t)(d:∀v,assign (.Subscript o i pos) X.env v=(do{let a <-holding [v] (eval o X.env);let b <-holding [v,a] (eval i X.env);standAt pos;holding [v,a,b] (setItem a b v);release [v,a,b] []}):=by intro _;rfl):PG X (.Subscript o i pos) (PV to c t):=do _;{?_};(pins,s,σ,H,v,u,Q,I,r,h);[d];qA (qK (bL (z pins s σ H _ I h) λa f ⟨x,H1,e,w,l⟩=>?_));qA (qK (bL (hi pins f σ H1 _ e l) λb s2 ⟨y,H2,k,j,m⟩=>?_));qA (wpAny_standAt (qA (qK (bL (q pins s2 σ H2 x y v a b u _ k w j r m) λ_ A ⟨n,g,p⟩=>?_))));wpAny_release {σ,n,g,p}
def uV(te:TE)(g:TG):TS:=λD σ H=>te σ H λx H1=>g x σ H1 D.nx
def LL{g:TG}(c:PE X e te)(hg:PG X tg g)(d:swapsWithSole [tg] e pos.line X.env=pure false:=by rfl)(j:swappedStores [tg] e X.env=pure none:=by rfl)(h1:(assignEach [tg] X.env).map (·.2)=[assign tg X.env]:=by rfl):PS X (.Assign [tg] e pos) (uV te g):=do _;{?_};(pins,s,σ,H,D,I,h);wpAny_Assign_stores (bL (c pins s σ H _ I h) λv b ⟨x,H1,a,i,f⟩=>?_) d j;[h1];bL (hg pins b σ H1 x v _ a i f) λ_ s2 q=>q
def Mi(j:X.N.Nodup)(hi:X.N[i]?=!x)(g:Loc X.env.scope x)(l:PE X e te)(f:swapsWith e (!(.Name x pos')) pos.line X.env=pure false:=by rfl)(b:X.fn x=true\/X.env.scope.names.lookup x=some .local:=by first|exact .inl rfl|exact .inr rfl|assumption) : PS X (.Assign [.Name x pos'] e pos) (uV te (cQ i)):=do _;{?_};(pins,s,σ,H,D,I,h);wpAny_Assign_Name (bL (l pins s σ H _ I h) λv m ⟨y,H1,a,k,d⟩=>?_) f;KY a j hi g k (λs2 c=>{_,H1,c,d}) b
end
section
variable {X:Cx}{pos:Pos}
def CZ(c:TT)(tb:TS):TS:=λD σ H=>∃W:Nat->St->Hp->Prop,(∃m,W m σ H)/\∀m σ H,W m σ H-> c σ H λb H1=>if b=true then ∃N:St->Hp->Prop,(∀σ' H',N σ' H'->∃a,a<m/\W a σ' H')/\tb {D with nx:=N,ct:=N,bk:=D.nx} σ H1 else D.nx σ H1
def yC(hp:PassesOwn 37 X.A X.env X.xe)(z:PT X c tc)(x:jD X e tb):PS X (.While c e [] pos) (CZ tc tb):=do _;{?_};(pins,s,σ,H,D,I,h);{W,{y,u},turn}:=h;wpAny_While (codeAny_whileLoop (λn s'=>∃σ' H',Inv X pins σ' H' s'/\W n σ' H') ?_ y {σ,H,I,u});(n,B,{d,H1,C,t});wpAny_passesOwn hp (bL (z pins B d H1 _ C (turn n d H1 t)) λb s2 ⟨H2,q,i⟩=>?_);(by cases b with|true|false=>?_);{N,r,i}:=i;[qE rfl];wpAny_passesOwn hp (bL (x pins s2 d H2 _ q i) λf E j=>?_);(by cases f with|next|cont|brk|ret v=>?_);{a,g,m,l}:=j;{p,o,k}:=r a g l;{p,o,a,g,m,k};{a,g,m,l}:=j;{p,o,k}:=r a g l;{p,o,a,g,m,k};j;j;[qB qx];wpAny_execs_nil {d,H2,q,i}
end
structure It where
 go:Nat->Hp->Prop
 zF:Nat->Hp->V->Hp->Prop
 stop:Nat->Hp->Prop
def fC(X:Cx)(pins:List 71)(H:Hp)(b:UJ):Prop := H b=none/\b≠X.env.locals/\b∉X.fs/\(b∈X.ex\/X.s₀.heap.objs.size<=b)/\(∀x c,X.env.cells.lookup x=!c->c≠b)/\∀p∈X.pn++pins,p.1≠b
def Inv.oA{X:Cx}{pins:List 71}{σ:St}{H H':Hp}{s:UH}{b:UJ}(I:Inv X pins σ H s)(a:↑s<=b)(hn:H' b=none):fC X pins H' b:=do _;{hn,zo (zh I.lt a),I.xn a,.inr (qf I.sz a),λx c e z=>?_,λp hp z=>?_};{v,q}:=I.cell x c e;absurd (zh q.lt (do[z];a)) (wj _);absurd (zh (qG (I.pin p hp).1) (do[z];a)) (wj _)
structure Turn(P:Program)(w:World)(K:PySem.W.Frag)(tg:Expr)(J:It)(fp:List UJ)(it:UJ)(tn:Nat->Heap->Prop):Prop where
 mem:it∈fp
 obj:∀i h,tn i h->∀b∈fp,∃o,h.get? b=!o/\∀v,o.data≠.cell v
 keep:∀i h h',tn i h->(∀b∈fp,∀o,h.get? b=!o->h'.get? b=!o)->tn i h'
 item:∀(X:Cx),X.prog=P->X.w=w->X.K=K->X.calm=true->∀(i:Nat) (pins:List 71) (s:UH) (σ:St) (H:Hp) (E:KE),Inv X pins σ H s->(∀b∈fp,fC X pins H b)->tn i s.heap->J.go i H->
  wpAny (model P w) X.A (pyNext (.ref it)) (λr s1=>∃u,r=some u ∧
   wpAny (model P w) X.A (letOwnedTupleGo tg (.ref it) u) (λ_ s2=>∃x H',Inv X pins σ H' s2/\RelV x u/\J.zF i H x H'/\tn (i+1) s2.heap/\∀b∈fp,H' b=none) E s1) E s
 done:∀(X:Cx),X.prog=P->X.w=w->X.K=K->X.calm=true->∀(i:Nat) (pins:List 71) (s:UH) (σ:St) (H:Hp) (E:KE),Inv X pins σ H s->(∀b∈fp,fC X pins H b)->tn i s.heap->J.stop i H->
  wpAny (model P w) X.A (pyNext (.ref it)) (λr s1=>r=none/\Inv X pins σ H s1) E s
 self:∀(A:Around) (i:Nat) (s:UH) (Q:KE) (E:KE),tn i s.heap->Q (.ref it) s->wpAny (model P w) A (pyIter (.ref it)) Q E s
abbrev TI:=St->Hp->(It->Hp->Prop)->Prop
def SA(X:Cx)(pins:List 71)(σ:St)(tg:Expr)(R:It->Hp->Prop)(a:MD)(s2:UH):Prop := ∃(it:UJ) (c:List UJ) (d:Nat->Heap->Prop) (J:It) (H':Hp),a=.ref it/\Inv X pins σ H' s2/\Turn X.prog X.w X.K tg J c it d/\d 0 s2.heap/\(∀b∈c,fC X pins H' b)/\R J H'
def TC(X:Cx)(tg a:Expr)(c:TI):Prop := ∀(pins:List 71) (s:UH) (σ:St) (H:Hp) (R:It->Hp->Prop),Inv X pins σ H s->c σ H R-> wpAny 37 X.A (eval a X.env) (λv b=>wpAny 37 X.A (pyIter v) (SA X pins σ tg R) X.xe b) X.xe s
structure PI(X:Cx)(tg iter:Expr)(wi:TI):Prop where run:TC X tg iter wi
instance Uq{X:Cx}{tg a:Expr}{b:TI}:CoeFun (PI X tg a b) λ_=>TC X tg a b:={PI.run}
def vO(d:s.heap.get? it=!o)(b:o.cls=.type n)(c:o.data=.fields vs)(hn:["enumerate","zip","dict_itemiterator","dict_reverseitemiterator","odict_iterator","itertools.zip_longest","itertools.pairwise"].contains n=false)(a:Q Unit.unit s):wpAny M A (letOwnedTupleGo tg (.ref it) u) Q E s:=do@letOwnedTupleGo;by cases tg <;> first|exact qF a|cases u <;> first|exact qF a|refine qA (wpAny_load d ?_);rw[b,c];show wpAny M A (if(["enumerate","zip","dict_itemiterator","dict_reverseitemiterator","odict_iterator","itertools.zip_longest","itertools.pairwise"].contains n&&vs[0]?==!(rawInt _))=true then _ else _) Q E s;rw[qB (do(h);h<-[hn,Bool.false_and];-h)];exact qF a
def G3(a:UJ):It := {λi H=>∃xs x,aD H a xs/\xs[i]?=!x,λi H x H'=>H'=H/\∀xs,aD H a xs->xs[i]?=!x,λi H=>∃xs,aD H a xs/\xs.length<=i}
def G9(lo:Int)(n:Nat):It:={λi _=>i<n,λi H x H'=>H'=H/\x=.int (lo+i),λi _=>n<=i}
def Oc{P:Program}{w:World}{K:PySem.W.Frag}{tg:Expr}(a it:UJ):Turn P w K tg (G3 a) [it] it (λi h=>h.IsListIter it a i) where
 mem:=by simp
 obj:=λi h st b f=>by
  have e:b=it:=by simpa using f
  subst e;obtain⟨o,e,c,d⟩:=st;exact{o,e,λv z=>by rw[d]at z;cases z}
 keep:=λi h h' st k=>st.at λo e=>k it (by simp) o e
 item:=by
  intro X y D C F i pins s σ H E I l st hg;subst y D C;obtain⟨xs,x,j,B⟩:=hg;obtain⟨its,q,p,hz⟩:=I.list j;obtain⟨u,R,G⟩:=q.get B;obtain⟨t,m,Q,r,n,A⟩:=l it (by simp);refine wpAny_pyNext_list_item st p.isList (x:=u) (by simpa using R) λh' g L=>?_;have N:Inv X pins σ H { s with heap:=h' }:=I.turned (t':=s.toks) (λb o f e=>(L.2 b f).trans e) t m r n A;obtain⟨o,e,c,d⟩:=id g;exact{u,O,vO (s:={ s with heap:=h' }) e c d ⋯ {x,H,N,G,{O,λys M=>by rw[I.mK M j];exact B},g,λb f=>(l b f).1}}
 done:=by
  intro X y D C F i pins s σ H E I l st hg;subst y D C;obtain⟨xs,j,B⟩:=hg;obtain⟨its,q,p,hz⟩:=I.list j;obtain⟨t,m,Q,r,n,A⟩:=l it (by simp);have S:=q.length;exact wpAny_pyNext_list_end (I.ok.hd F) st p.isList (by simp;omega) λh' J=>{O,I.turned (t':=s.toks) (λb o f e=>J b o f e) t m r n A}
 self:=λ_ _ _ _ _ st h=>wpAny_pyIter_listiter st h
def OF{P:Program}{w:World}{K:PySem.W.Frag}{tg:Expr}(it:UJ)(lo:Int)(n:Nat):Turn P w K tg (G9 lo n) [it] it (λi h=>IsRangeIter h it (lo+(i:Nat) * 1) ((n:Int) - (i:Nat)) 1) where
 mem:=by simp
 obj:=λi h st b a=>by
  have e:b=it:=by simpa using a
  subst e
  exact{_,st,λv z=>by
   have B:Data.fields _=Data.cell v:=z
   cases B}
 keep:=λi h h' st k=>k it (by simp) _ st
 item:=by
  intro X j u q f i pins s σ H E I d st hg;subst j u q;obtain⟨r,p,y,l,g,m⟩:=d it (by simp);have W:=Walks.range (prog:=X.prog) (w:=X.w) (I.ok.hd f) it lo 1 n;refine W.item i s _ _ hg st λv h' tk D c C=>?_;obtain⟨t,rfl⟩:=D;have x:Inv X pins σ H { s with heap:=h',toks:=tk }:=I.turned (λb o a e=>C b o (by simpa using a) e) r p l g m;refine{_,O,vO (s:={ s with heap:=h',toks:=tk }) (n:="range_iterator") c rfl rfl ⋯ {.int (lo+i),H,x,{t,?_},{O,O},c,λb a=>(d b a).1}};rw[Int.mul_one]
 done:=by
  intro X j u q f i pins s σ H E I d st hg;subst j u q;obtain⟨r,p,y,l,g,m⟩:=d it (by simp);exact wpAny_pyNext_range_end (I.ok.hd f) st (by have:n<=i:=hg;omega) λh' A=>{O,I.turned (t':=s.toks) (λb o a e=>A b o a e) r p l g m}
 self:=λ_ _ _ _ _ st h=>wpAny_pyIter_rangeiter st h
section
variable {X:Cx}{tg:Expr}
inductive F3(R:It->Hp->Prop)(x:V)(H1:Hp):Prop
 |mk(a:_)(_:x=.ref a)(_:(∃xs,aD H1 a xs))(_:R (G3 a) H1)
def Av(tl:TE):TI:=λσ H R=>tl σ H λx H1=>F3 R x H1
def N_{tl:TE}(f:PE X l tl):PI X tg l (Av tl):=do _;{?_};(pins,s,σ,H,R,I,h);bL (f pins s σ H _ I h) λv d ⟨x,H1,c,j,i⟩=>?_;{a,e,{xs,k},q}:=i;!e;-j;{its,m,p,hz}:=c.list k;wpAny_pyIter_list p.isList ?_;{↑d,[↑d],_,_,H1,O,c.kept (t':=d.toks) λb o e=>qI _ e,Oc a _,{_,qL _ rfl,O,O},λb g=>?_,q};e:b=↑d:=(do 0<|g);!e;c.oA (qb _) (c.a9.fresh (qb _))
def Ri{pins:List 71}{σ:St}{H:Hp}{s:UH}{R:It->Hp->Prop}{E:KE}{lo hi:Int}{t u v:Tok}{tk:Nat}(I:Inv X pins σ H s)(h1:-(2 ^ 62)<=lo)(h2:lo<2 ^ 62)(f:-(2 ^ 62)<=hi)(h:hi<2 ^ 62)(q:R (G9 lo (hi - lo).toNat) H):wpAny 37 X.A (pyIter (.ref ↑s)) (SA X pins σ tg R) E {s with heap:=s.heap.push {cls:=.type "range",data:=.fields #[.int lo t,.int hi u,.int 1 v]},toks:=tk}:=do wpAny_pyIter_range (IsRange.new ..) (small_one h1 h2 f h) ?_;a:Inv X pins σ H {s with heap:=s.heap.push {cls:=.type "range",data:=.fields #[.int lo t,.int hi u,.int 1 v]},toks:=tk}:=I.kept λb o e=>qI _ e;{(s.heap.push {cls:=.type "range",data:=.fields #[.int lo t,.int hi u,.int 1 v]}).objs.size,[(s.heap.push {cls:=.type "range",data:=.fields #[.int lo t,.int hi u,.int 1 v]}).objs.size],_,_,H,O,a.kept (t':=tk) λb o e=>qI _ e,OF _ lo (hi - lo).toNat,?_,λb g=>?_,q};d:lo+((0:Nat):Int) * 1=lo:=(do 0);c:(((hi - lo).toNat:Nat):Int) - ((0:Nat):Int)=Builtin.Range.rangeSize lo hi 1:=(by rw[rangeSize_one];split <;> omega);¬IsRangeIter _ _ (lo+((0:Nat):Int) * 1) ((((hi - lo).toNat:Nat):Int) - ((0:Nat):Int)) 1;[d,c];qL _ rfl;e:b=(s.heap.push {cls:=.type "range",data:=.fields #[.int lo t,.int hi u,.int 1 v]}).objs.size:=(do 0<|g);!e;a.oA (qb _) (a.a9.fresh (qb _))
inductive Bz(R:It->Hp->Prop)(vs:List V)(H1:Hp):Prop
 |mk(j:Int)(_:vs=[.int j])(_:-(2 ^ 62)<=j)(_:j<2 ^ 62)(_:R (G9 0 j.toNat) H1)
def KG(ta:TA):TI:=λσ H R=>ta σ H λvs H1=>Bz R vs H1
def nJ(hg:Gl X "range")(l:X.mg "range"=none)(c:PA X [a] ta)(g:starEach [a] X.env=[(false,eval a X.env)]:=by rfl):PI X tg (.Call (.Name "range" p) [a] [] pos) (KG ta):=do _;{?_};(pins,s,σ,H,R,I,h);Call_ (iY I hg l boot_range (PyProof.Rows.callWith_type1 (bL (c pos pins s σ H _ I h) λus m ⟨vs,H1,d,k,b⟩=>?_) g rfl));{j,e,b,i,q}:=b;!e;(by cases k with|cons r f=>?_);-f;{t,rfl}:=r;call_range_1 (Ri d () () b i (do 0<|q))
def E8(c:TI)(g:TG)(tb:TS):TS:=λD σ H=>c σ H λJ H1=>∃W:Nat->Nat->St->Hp->Prop,(∃m,W 0 m σ H1)/\∀i m σ H,W i m σ H-> (J.stop i H/\D.nx σ H)\/(J.go i H/\∃N:St->Hp->Prop,(∀σ' H',N σ' H'->∃b,b<m/\W (i+1) b σ' H')/\∀x H',J.zF i H x H'->g x σ H' λa H2=>tb {D with nx:=N,ct:=N,bk:=D.nx} a H2)
def d7(a:List UJ)(h:Heap):List 71:=a.filterMap λb=>(h.get? b).map λo=>(b,o)
def EH(c:b∈a)(e:h.get? b=!o):(b,o)∈d7 a h:=gc.mpr {b,c,do[e];2}
def Ho(hp:p∈d7 a h):p.1∈a/\h.get? p.1=!p.2:=do _;{b,c,e}:=gc.mp hp;(by cases q:h.get? b with|none|some o=>?_);e<-[q];-e;e<-[q];d:(b,o)=p:=qJ e;!d;{c,q}
def Inv.pinned{pins:List 71}{σ:St}{H:Hp}{s:UH}{a:List UJ}(I:Inv X pins σ H s)(h:∀b∈a,fC X pins H b)(k:∀b∈a,∃o,s.heap.get? b=!o/\∀v,o.data≠.cell v):Inv X (pins++d7 a s.heap) σ H s := I.ic λp hp=>(qz.mp hp).elim (λz=>I.pin p (z7 _ z)) λz=>do _;{f,e}:=Ho z;{j,i,g,_}:=h p.1 f;{o,c,d}:=k p.1 f;c<-[e];-c;{e,j,i,g,d}
def Inv.fE{pins a:List 71}{σ:St}{H:Hp}{s:UH}(I:Inv X (pins++a) σ H s):Inv X pins σ H s:=I.ic λp hp=>I.pin p (z7 _ (yo _ hp))
def Ew{k:Expr}{g:TG}(hp:PassesOwn 37 X.A X.env X.xe)(Y:X.calm=true)(hi:PI X tg k U)(hg:PG X tg g)(c:jD X t tb)(hs:∀x,foldedSetIterable k X.env x=pure x:=by intro _;rfl):PS X (.For tg k t [] pos) (E8 U g tb):=do _;{?_};(pins,s,σ,H,D,I,h);wpAny_For (bL (hi pins s σ H _ I h) λv s1 h1=>bL h1 λitv s2 h2=>?_) hs;{it,B,tn,J,H2,e,I2,T,Q,f2,W,{m0,w0},turn}:=h2;!e;p:∀{H':Hp},(∀b∈B,H' b=none)->∀b∈B,fC X pins H' b:=λhn b c=>{hn b c,(f2 b c).2};codeAny_forLoop_any (λn s'=>∃i σ' H',Inv X pins σ' H' s'/\tn i s'.heap/\(∀b∈B,H' b=none)/\W i n σ' H') ?_ m0 {0,σ,H2,I2,Q,λb c=>(f2 b c).1,w0};(n,Z,{i,j,G,S,C,E,w3});{stop,qn}||{go,N,hN,step}:=turn i n j G w3;wpAny_passesOwn hp (bL (T.done X rfl rfl rfl Y i pins Z j G X.xe S (p E) C stop) λr s4 ⟨M,I4⟩=>?_);!M;wpAny_execs_nil {j,G,I4,qn};wpAny_passesOwn hp (bL (T.item X rfl rfl rfl Y i pins Z j G X.xe S (p E) C go) λr s4 ⟨u,M,h4⟩=>?_);!M;wpAny_passesOwn hp (bL h4 λ_ V ⟨x,R,I5,r5,y5,z,L⟩=>?_);K:=I5.pinned (p L) (T.obj _ _ z);wpAny_passesOwn hp (bL (hg _ V j R x u _ K r5 (step x R y5)) λ_ s6 ⟨P,H6,I6,q6⟩=>?_);wpAny_passesOwn hp (bL (c _ s6 P H6 _ I6 q6) λf O y=>?_);again:∀{a:St} {q:Hp},Inv X (pins++d7 B V.heap) a q O->N a q->∃m,m<n/\∃i σ' H',Inv X pins σ' H' O/\tn i O.heap/\(∀b∈B,H' b=none)/\W i m σ' H':=λ{a q} l F=>(do _;{m',hm,w7}:=hN a q F;{m',hm,i+1,a,q,l.fE,T.keep _ _ _ z λb c o e=>(l.pin (b,o) (z7 _ (z7 _ (EH c e)))).1,λb c=>?_,w7};{o,e,d}:=T.obj _ _ z b c;(l.pin (b,o) (z7 _ (z7 _ (EH c e)))).2.1);(by cases f with|next|cont|brk|ret v=>?_);{a,q,l,F}:=y;again l F;{a,q,l,F}:=y;again l F;{a,q,l,y}:=y;{a,q,l.fE,y};{x7,a,q,l,r7,y}:=y;{x7,a,q,l.fE,r7,y}
end
def Dc{a:UJ}{xs:List V}{g:TG}{tb:TS}{D:Ends}{σ:St}{H:Hp}(b:Nat->St->Hp->Prop)(h0:b 0 σ H)(h:∀i σ H,i<=xs.length->b i σ H->aD H a xs)(k:∀i x σ H,xs[i]?=!x->b i σ H->g x σ H λc H2=>tb {D with nx:=b (i+1),ct:=b (i+1),bk:=D.nx} c H2)(l:∀σ H,b xs.length σ H->D.nx σ H) : ∃W:Nat->Nat->St->Hp->Prop,(∃m,W 0 m σ H)/\∀i m σ H,W i m σ H-> ((G3 a).stop i H/\D.nx σ H)\/((G3 a).go i H/\∃N:St->Hp->Prop,(∀σ' H',N σ' H'->∃f,f<m/\W (i+1) f σ' H')/\∀x H',(G3 a).zF i H x H'->g x σ H' λc H2=>tb {D with nx:=N,ct:=N,bk:=D.nx} c H2):=do _;{λi m σ H=>m=xs.length - i/\i<=xs.length/\b i σ H,{xs.length,do 0,Nat.zero_le _,h0},?_};(i,m,σ,H,{rfl,hi,p});q:=h i σ H hi p;d<|i<xs.length;.inr {{xs,xs[i],q,do#[d]},b (i+1),λσ' H' j=>{xs.length - (i+1),(),O,d,j},λx H' y=>?_};{e,y}:=y;!e;k i x σ _ (y xs q) p;e:i=xs.length:=();!e;.inl {{xs,q,qb _},l σ H p}
def QR{lo:Int}{n:Nat}{g:TG}{tb:TS}{D:Ends}{σ:St}{H:Hp}(a:Nat->St->Hp->Prop)(h0:a 0 σ H)(h:∀i σ H,i<n->a i σ H->g (.int (lo+i)) σ H λc H2=>tb {D with nx:=a (i+1),ct:=a (i+1),bk:=D.nx} c H2)(j:∀σ H,a n σ H->D.nx σ H) : ∃W:Nat->Nat->St->Hp->Prop,(∃m,W 0 m σ H)/\∀i m σ H,W i m σ H-> ((G9 lo n).stop i H/\D.nx σ H)\/((G9 lo n).go i H/\∃N:St->Hp->Prop,(∀σ' H',N σ' H'->∃d,d<m/\W (i+1) d σ' H')/\∀x H',(G9 lo n).zF i H x H'->g x σ H' λc H2=>tb {D with nx:=N,ct:=N,bk:=D.nx} c H2):=do _;{λi m σ H=>m=n - i/\i<=n/\a i σ H,{n,do 0,Nat.zero_le _,h0},?_};(i,m,σ,H,{rfl,hi,p});b<|i<n;.inr {b,a (i+1),λσ' H' f=>{n - (i+1),(),O,b,f},λx H' y=>?_};{e,y}:=y;(by subst e y);h i σ _ b p;e:i=n:=();!e;.inl {qb _,j σ H p}
abbrev R2:=V->V->Hp->VK->Prop
def de(X:Cx)(f:MD->MD->Sem MD)(r:R2):Prop := ∀(pins:List 71) (s:UH) (σ:St) (H:Hp) (x y:V) (v u:MD) (Q:VK),Inv X pins σ H s->RelV x v->RelV y u->r x y H Q-> wpAny 37 X.A (f v u) (EP X pins σ Q) X.xe s
def O5(X:Cx)(f:MD->Sem MD)(r:V->Hp->VK->Prop):Prop := ∀(pins:List 71) (s:UH) (σ:St) (H:Hp) (x:V) (v:MD) (Q:VK),Inv X pins σ H s->RelV x v->r x H Q-> wpAny 37 X.A (f v) (EP X pins σ Q) X.xe s
def cI(X:Cx)(f:MD)(r:List V->Hp->VK->Prop):Prop := ∀(pins:List 71) (s:UH) (σ:St) (H:Hp) (xs:List V) (us:List MD) (Q:VK),Inv X pins σ H s->aK xs us->r xs H Q-> wpAny 37 X.A (call f us) (EP X pins σ Q) X.xe s
def rV(r:R2)(ta tb:TE):TE:=λσ H Q=>ta σ H λx H1=>tb σ H1 λy H2=>r x y H2 Q
def Uh(r:V->Hp->VK->Prop)(ta:TE):TE:=λσ H Q=>ta σ H λx H1=>r x H1 Q
inductive rI(C:Int->Int->Prop)(g:Int->Int->V)(x y:V)(H:Hp)(Q:VK):Prop
 |mk(i j:_)(_:x=.int i)(_:y=.int j)(_:C i j)(_:Q (g i j) H)
inductive yU(g:Int->Int->V)(x y:V)(H:Hp)(Q:VK):Prop
 |mk(i j:_)(_:x=.int i)(_:y=.int j)(_:Q (g i j) H)
inductive rU(g:Int->V)(x:V)(H:Hp)(Q:VK):Prop
 |mk(i:_)(_:x=.int i)(_:Q (g i) H)
section
variable {X:Cx}{a b c:Expr}{ta tb tc:TE}{pos:Pos}
def CL(e:PE X a ta)(l:PE X b tb){pins:List 71}{s:UH}{σ:St}{H:Hp}{R:V->V->Hp->Prop}(I:Inv X pins σ H s)(h:ta σ H λx H1=>tb σ H1 λy H2=>R x y H2){Q:KE}{f:MD->MD->Sem MD}(j:∀v u s2 x y H2,Inv X pins σ H2 s2->RelV x v->RelV y u->R x y H2->wpAny 37 X.A (f v u) Q X.xe s2) : wpAny 37 X.A (eval a X.env) (λv d=>wpAny 37 X.A (eval b X.env) (λu c=>wpAny 37 X.A (f v u) Q X.xe c) X.xe d) X.xe s:=do bL (e pins s σ H _ I h) λv i ⟨x,H1,g,p,o⟩=>?_;bL (l pins i σ H1 _ g o) λu s2 ⟨y,H2,m,k,n⟩=>?_;j v u s2 x y H2 m p k n
def aM(i:de X (binaryOp op) r)(c:PE X a ta)(e:PE X b tb):PE X (.BinOp a op b pos) (rV r ta tb):=do _;{?_};(pins,s,σ,H,Q,I,h);wpAny_BinOp (CL c e I h λv u s2 x y H2 f d g q=>i pins s2 σ H2 x y v u Q f d g q)
def eL(g:O5 X (unaryOp op) r)(b:PE X a ta):PE X (.UnaryOp op a pos) (Uh r ta):=do _;{?_};(pins,s,σ,H,Q,I,h);UnaryOp_ (bL (b pins s σ H _ I h) λv d ⟨x,H1,c,f,e⟩=>g pins d σ H1 x v Q c f e)
def NA{g:Int->Int->Int}(a:∀(i j:Int) (t u:Tok) (s:UH) (Q:KE) (E:KE),C i j->Q (.int (g i j) s.toks) {s with toks:=s.toks+1}->wpAny 37 X.A (f (.int i t) (.int j u)) Q E s) : de X f (rI C λi j=>.int (g i j)):=do(pins,s,σ,H,x,y,v,u,Q,I,c,b,h);{i,j,rfl,rfl,d,q}:=h;{t,rfl}:=c;{t',rfl}:=b;a i j t t' s _ _ d {.int (g i j),H,I.tok _,{_,O},q}
def Ig{g:Int->Int->Int}(a:∀(i j:Int) (t u:Tok) (s:UH) (Q:KE) (E:KE),Q (.int (g i j) s.toks) {s with toks:=s.toks+1}->wpAny 37 X.A (f (.int i t) (.int j u)) Q E s) : de X f (yU λi j=>.int (g i j)):=do(pins,s,σ,H,x,y,v,u,Q,I,c,b,h);{i,j,rfl,rfl,q}:=h;{t,rfl}:=c;{t',rfl}:=b;a i j t t' s _ _ {.int (g i j),H,I.tok _,{_,O},q}
def yN{g:Int->Int->Bool}(a:∀(i j:Int) (t u:Tok) (s:UH) (Q:KE) (E:KE),Q (.bool (g i j)) s->wpAny 37 X.A (f (.int i t) (.int j u)) Q E s) : de X f (yU λi j=>.bl (g i j)):=do(pins,s,σ,H,x,y,v,u,Q,I,c,b,h);{i,j,rfl,rfl,q}:=h;{t,rfl}:=c;{t',rfl}:=b;a i j t t' s _ _ {.bl (g i j),H,I,O,q}
def Ta(i j:Int):Prop:=0<j/\j<1073741824
def Pb(i j:Int):Prop:=0<=j/\j<=1000000/\i.natAbs<2 ^ 64
def Cu(i j:Int):Prop:=(-(2 ^ 64)<i/\i<2 ^ 64)\/(-(2 ^ 64)<j/\j<2 ^ 64)
def Cu.ok(h:Cu i j):IntMulOk i j:=do _;{h1,h2}||{h1,h2}:=h;.of_left (intBits_le_64 h1 h2);.of_right (intBits_le_64 h1 h2)
def c_:de X (binaryOp .Add) (yU λi j=>.int (i+j)):=Ig λ_ _ _ _ _ _ _ q=>add_int q
def Bm:de X (binaryOp .Sub) (yU λi j=>.int (i - j)):=Ig λ_ _ _ _ _ _ _ q=>sub_int q
def sI:de X (binaryOp .Mult) (rI Cu λi j=>.int (i * j)):=NA λ_ _ _ _ _ _ _ a q=>mul_int q a.ok
def lg:de X (binaryOp .FloorDiv) (rI Ta λi j=>.int (i / j)):=NA λi j _ _ _ _ _ a q=>do h1:(0:Int)<j:=a.1;h2:j<1073741824:=a.2;floordiv_int () (do[Int.fdiv_eq_ediv_of_nonneg i ()];q) (.inl (PyProof.noPylong_small ()))
def eP:de X (binaryOp .Mod) (rI (λ_ j=>0<j) λi j=>.int (i % j)):=NA λi j _ _ _ _ _ a q=>do h1:(0:Int)<j:=a;mod_int' () (do[Int.fmod_eq_emod_of_nonneg i ()];q)
def DM:de X (binaryOp .Pow) (rI Pb λi j=>.int (i ^ j.toNat)):=NA λ_ _ _ _ _ _ _ a q=>pow_int_small a.1 a.2.1 a.2.2 q
def UA{g:Int->Int}(a:∀(i:Int) (t:Tok) (s:UH) (Q:KE) (E:KE),Q (.int (g i) s.toks) {s with toks:=s.toks+1}->wpAny 37 X.A (f (.int i t)) Q E s) : O5 X f (rU λi=>.int (g i)):=do(pins,s,σ,H,x,v,Q,I,b,h);{i,rfl,q}:=h;{t,rfl}:=b;a i t s _ _ {.int (g i),H,I.tok _,{_,O},q}
def i0:O5 X (unaryOp .USub) (rU λi=>.int (-i)):=UA λ_ _ _ _ _ q=>neg_int q
end
def Sx:V->V->Bool|.aV,.aV=>true|.aV,.int _=>true|.int _,.aV=>true|.aV,.bl _=>true|.bl _,.aV=>true|.aV,.str _=>true|.str _,.aV=>true|.int _,.int _=>true|.bl _,.bl _=>true|.str _,.str _=>true|.sE _,.sE _=>true|.int _,.str _=>true|.str _,.int _=>true|.bl _,.str _=>true|.str _,.bl _=>true|_,_=>false
def UC:R2:=λx y H Q=>Sx x y=true/\Q (.bl (decide (x=y))) H
def OU:decide (V.int i=V.int j)=(i==j):=do[yk];0
def Bw:decide (V.bl i=V.bl j)=(i==j):=do[yk];0
def Pr:decide (V.str i=V.str j)=(i==j):=do[yk];0
def OH:decide (V.sE i=V.sE j)=(i.toList==j.toList):=do[yk];-i;-j;0
section
variable {X:Cx}{a b c:Expr}{ta tb tc:TE}{pos:Pos}
def dZ{pins:List 71}{σ:St}{H:Hp}{s:UH}{Q:VK}{k a:Bool}(I:Inv X pins σ H s)(q:Q (.bl k) H)(e:k=a):EP X pins σ Q (.bool a) s:=do !e;{.bl k,H,I,O,q}
def c8:de X (compareOp .Eq) UC:=do(pins,s,σ,H,x,y,v,u,Q,I,c,a,h);{b,q}:=h;by cases x with|aV=>(cases c;cases y with|aV=>(cases a;exact PySem.EqNone.eq_none_none (dZ I q (do 0)))|bl j=>(cases a;exact PySem.EqNone.eq_none_bool (dZ I q (do 0)))|int j=>(obtain⟨t',rfl⟩:=a;exact PySem.EqNone.eq_none_int (dZ I q (do 0)))|str j=>(obtain⟨t',rfl⟩:=a;exact PySem.EqNone.eq_none_str (dZ I q (do 0)))|_=>exact absurd (show false=true from b) qx)|bl i=>(cases c;cases y with|aV=>(cases a;exact PySem.EqNone.eq_bool_none (dZ I q (do 0)))|bl j=>(cases a;exact eq_bool (dZ I q Bw))|str j=>(obtain⟨t',rfl⟩:=a;exact PySem.EqMixed.eq_bool_str (dZ I q (do 0)))|_=>exact absurd (show false=true from b) qx)|int i=>(obtain⟨t,rfl⟩:=c;cases y with|aV=>(cases a;exact PySem.EqNone.eq_int_none (dZ I q (do 0)))|int j=>(obtain⟨t',rfl⟩:=a;exact eq_int (dZ I q OU))|str j=>(obtain⟨t',rfl⟩:=a;exact PySem.EqMixed.eq_int_str (dZ I q (do 0)))|_=>exact absurd (show false=true from b) qx)|str i=>(obtain⟨t,rfl⟩:=c;cases y with|aV=>(cases a;exact PySem.EqNone.eq_str_none (dZ I q (do 0)))|bl j=>(cases a;exact PySem.EqMixed.eq_str_bool (dZ I q (do 0)))|int j=>(obtain⟨t',rfl⟩:=a;exact PySem.EqMixed.eq_str_int (dZ I q (do 0)))|str j=>(obtain⟨t',rfl⟩:=a;exact eq_str (dZ I q Pr))|_=>exact absurd (show false=true from b) qx)|sE i=>(obtain⟨t,rfl⟩:=c;cases y with|sE j=>(obtain⟨t',rfl⟩:=a;exact PySem.W.eq_bytes (dZ I q OH))|_=>exact absurd (show false=true from b) qx)|_=>cases y <;> exact absurd (show false=true from b) qx
def AM:de X (compareOp .Lt) (yU λi j=>.bl (decide (i<j))):=yN λ_ _ _ _ _ _ _ q=>lt_int q
def AK:de X (compareOp .LtE) (yU λi j=>.bl (decide (i<=j))):=yN λ_ _ _ _ _ _ _ q=>le_int q
def eM:de X (compareOp .Gt) (yU λi j=>.bl (decide (j<i))):=yN λ_ _ _ _ _ _ _ q=>gt_int q
def Hs:de X (compareOp .GtE) (yU λi j=>.bl (decide (j<=i))):=yN λ_ _ _ _ _ _ _ q=>ge_int q
def Np:de X (compareOp .Is) (λx y H Q=>y=.aV/\Q (.bl (decide (x=.aV))) H):=do(pins,s,σ,H,x,y,v,u,Q,I,a,b,h);{rfl,q}:=h;-b;is_none_gen (dZ I q ?_);by cases x <;> first|cases a;rfl|obtain⟨t,rfl⟩:=a;rfl
def L7:de X (compareOp .IsNot) (λx y H Q=>y=.aV/\Q (.bl (not (decide (x=.aV)))) H):=do(pins,s,σ,H,x,y,v,u,Q,I,a,b,h);{rfl,q}:=h;-b;isnot_none_gen (dZ I q ?_);by cases x <;> first|cases a;rfl|obtain⟨t,rfl⟩:=a;rfl
def Qy(i:de X (compareOp op) r)(c:PE X a ta)(e:PE X b tb)(j:behindInMarks op b=false):PE X (.Compare a [op] [b] pos) (rV r ta tb):=do _;{?_};(pins,s,σ,H,Q,I,h);wpAny_Compare1 (CL c e I h λv u s2 x y H2 f d g q=>i pins s2 σ H2 x y v u Q f d g q) j
inductive Cw(Q:Bool->Hp->Prop)(x:V)(H':Hp):Prop
 |mk(k:_)(_:x=.bl k)(_:Q k H')
def vN(t:TE):TT:=λσ H Q=>t σ H λx H'=>Cw Q x H'
def Qt(A:de X (compareOp op) r)(d:PE X a ta)(m:PE X b tb)(B:behindInMarks op b=false):PT X (.Compare a [op] [b] pos) (vN (rV r ta tb)):=do _;{?_};(pins,s,σ,H,Q,I,h);wpAny_isTrue_Compare1 (bL (d pins s σ H _ I h) λv g ⟨x,H1,f,w,o⟩=>bL (m pins g σ H1 _ f o) λu s2 ⟨y,H2,n,j,p⟩ => bL (A pins s2 σ H2 x y v u _ n w j p) λc C ⟨z,t,i,l,k,e,q⟩=>?_) B;!e;-l;wpAny_truthy_bool {t,i,q}
inductive wZ(r':R2)(tc:TE)(σ:St)(Q:VK)(y z:V)(H3:Hp):Prop
 |mk(k:_)(_:z=.bl k)(_:(if k=true then tc σ H3 λw' H4=>r' y w' H4 Q else Q (.bl false) H3))
def CB(r a:R2)(ta tb tc:TE):TE:=λσ H Q=>ta σ H λx H1=>tb σ H1 λy H2=>r x y H2 λz b=>wZ a tc σ Q y z b
def S_(w:de X (compareOp op) r)(g:de X (compareOp f) n)(L:PE X a ta)(D:PE X b tb)(M:PE X c tc)(K:lastMarks [op,f] [b,c]=false:=by with_unfolding_all rfl):PT X (.Compare a [op,f] [b,c] pos) (vN (CB r n ta tb tc)):=do _;{?_};(pins,s,σ,H,Q,I,h);isTrue_chain (bL (L pins s σ H _ I h) λv N ⟨x,H1,W,V,T⟩=>test_link (bL (D pins N σ H1 _ W T) λu s2 ⟨y,H2,F,i,G⟩ => bL (w pins s2 σ H2 x y v u _ F V i G) λd S ⟨z,l,j,C,k,e,m⟩=>?_)) K;!e;-C;wpAny_truthy_bool ?_;(by cases k with|false|true=>?_);{k',p,Z}:=m;-p;ite_ff {l,j,Z};ite_tt (test_last (bL (M pins S σ l _ j m) λR t ⟨U,A,J,q,B⟩=>bL (g pins t σ A y U u R _ J i q B) λd' s5 ⟨z2,o,Y,E,k2,O,P⟩=>?_));!O;-E;wpAny_truthy_bool {o,Y,P}
def rE:(sizeLine:Nat)<2 ^ 63:=by rw[sizeLine_eq];decide
inductive mJ(x y:V)(H:Hp)(Q:VK):Prop
 |mk(i j:_)(_:x=.str i)(_:y=.str j)(_:i.length+j.length<=sizeLine)(_:Q (.str (i++j)) H)
def Kx:de X (binaryOp .Add) mJ:=do(pins,s,σ,H,x,y,v,u,Q,I,b,a,h);{i,j,rfl,rfl,hz,q}:=h;{t,rfl}:=b;{t',rfl}:=a;add_str (λt' tk=>{.str (i++j),H,I.tok _,{_,O},q}) hz
def vals1(r:aK [x] us):∃u,us=[u]/\RelV x u:=do(by cases r with|cons a b=>?_);-b;{_,O,a}
def vals2(r:aK [x,y] us):∃u a,us=[u,a]/\RelV x u/\RelV y a:=do(by cases r with|cons e c=>?_;cases c with|cons d b=>?_);-b;{_,_,O,e,d}
inductive oB(xs:List V)(H:Hp)(Q:VK):Prop
 |mk(i j:_)(_:xs=[.int i,.int j])(_:Q (.int (if j>i then j else i)) H)
def QT(b:X.calm=true):cI X (.builtin "max") oB:=do(pins,s,σ,H,xs,us,Q,I,r,h);{i,j,rfl,q}:=h;{u,c,rfl,{t,rfl},{t',rfl}}:=vals2 r;max_two_ints (I.ok.hd b) λh' tk k=>{_,H,I.kept k,?_,q};a<|j>i;[qE a,qE a];{_,O};[qB a,qB a];{_,O}
def IU:cI X (.type "int") (λxs H Q=>(∃i,xs=[.int i]/\Q (.int i) H)\/∃k,xs=[.bl k]/\Q (.int (if k then 1 else 0)) H):=do(pins,s,σ,H,xs,us,Q,I,r,h);{i,rfl,q}||{k,rfl,q}:=h;{u,rfl,t,rfl}:=vals1 r;call_int_int {.int i,H,I,{_,O},q};{u,rfl,a}:=vals1 r;-a;call_int_bool {.int (if k then 1 else 0),H,I.tok _,{_,O},q}
def PK(x:V)(H:Hp)(n:Nat):Prop := match x with|.str y=>y.length<=sizeLine/\n=y.length|.sE y=>y.size<=sizeLine/\n=y.size|.ref p=>(∃xs,aD H p xs/\n=xs.length)\/∃xs,aS H p xs/\n=xs.length|_=>False
inductive qQ(xs:List V)(H:Hp)(Q:VK):Prop
 |mk(x n:_)(_:xs=[x])(_:PK x H n)(_:Q (.int n) H)
def Sy:cI X (.builtin "len") (qQ):=do(pins,s,σ,H,xs,us,Q,I,r,h);{x,n,rfl,e,q}:=h;{u,rfl,c}:=vals1 r;j:=rE;k:sizeLine=16777216:=sizeLine_eq;by cases x with|str y=>(obtain⟨t,rfl⟩:=c;obtain⟨i,b⟩:y.length<=sizeLine/\n=y.length:=e;subst b;exact len_str () {.int _,H,I.tok _,{_,O},q})|sE y=>(obtain⟨t,rfl⟩:=c;obtain⟨i,b⟩:y.size<=sizeLine/\n=y.size:=e;subst b;exact PySem.W.len_bytes () {.int _,H,I.tok _,{_,O},q})|ref p=>(cases c;have b:(∃xs,aD H p xs/\n=xs.length)\/∃xs,aS H p xs/\n=xs.length:=e;rcases b with⟨xs,f,b⟩|⟨xs,f,b⟩;subst b;obtain⟨its,g,d,hz⟩:=I.list f;have a:=g.length;exact Calls.call_len_list d.isList (do#[_,List.size_toArray];()) {.int xs.length,H,I.tok _,{_,do#[_,List.size_toArray];[a]},q};subst b;obtain⟨its,g,d,hz⟩:=I.tuple f;have a:=g.length;exact len_tuple d (do#[_,List.size_toArray];()) {.int xs.length,H,I.tok _,{_,do#[_,List.size_toArray];[a]},q})|_=>exact(show False from e).elim
end
structure Cn(h:Heap)(x dx C:UJ)(mA:UK->Option MD):Prop where
 obj:h.get? x=!(PySem.W.instObj C dx)
 ns:h.Ns1 dx mA
 ne:dx≠x
def Rc{h:Heap}{dx:UJ}{c:UK->Option MD}(n:h.Ns1 dx c):∃od,h.get? dx=!od/\∀name,PySem.W.lookIn name od=!(c name):=do _;{o,es,ep,j,g,d,_,k}:=n;{o,j,λname=>?_};e:=k name;(by unfold nsFind findBy at e);e<-[<-Array.find?_toList];@PySem.W.lookIn;[g];(by dsimp only);3;(by rename_i y q);e<-[q];congrArg some e;(by rename_i q);e<-[q];a:es.toList.any (·.refKey)=false:=(do[bc];(y,f);{z,t,b}:=d y (gf.mp f);#[DictEntry.refKey,b]);i:¬es.toList.any (·.refKey)=true:=(do[a];qx);[qB i];congrArg some e
def Cn.look(I:Cn h x dx C a):∃od,PySem.W.InstAt h x (PySem.W.instObj C dx) C (!od)/\∀name,PySem.W.lookIn name od=some (a name) := let⟨od,c,b⟩:=Rc I.ns;{od,{I.obj,O,O,c},b}
def fB.some_of(r:fB (!v) o):∃u,o=!u/\RelV v u:=do(by cases o with|none|some u=>?_);(show False from r).elim;{u,O,r}
section
variable {P:Program}{w:World}{H H':Hp}{h h':Heap}{a C dx:UJ}{fs fs':List (UK×V)}
def Qa(c:df P w H h)(e:H a=!(.ins C dx fs)):∃b,Cn h a dx C b/\(∀f,fB (fs.lookup f) (b f))/\PySem.Within b (fs.map (·.1))/\fs.length<=1000/\H dx=!(.own a):=do _;{d,z,ne,ob,b,n,r,q}:=(show a0 P w H h a (.ins C dx fs) from c a _ e);{b,{ob,n,ne},r,q,z,d}
end
structure Td(K:PySem.W.Frag)(C:UJ):Prop where
 pg:PySem.W.plainGet K C Str.empty=true
 hd:PySem.W.hasDictIn K C=true
 po:PySem.W.plainOver K C=true
 sa:PySem.W.findIn K (.ref C) "__setattr__"=!(!(.builtin "object.__setattr__"))
def Td.get{K:PySem.W.Frag}{C:UJ}(c:Td K C)(f:UK):PySem.W.plainGet K C f=true:=c.pg
section
variable {X:Cx}{pins:List 71}{σ:St}{H:Hp}{s:UH}{A:Around}{E:KE}{Q:KE}{c:MD}{b:Bool}
inductive fG(K:PySem.W.Frag)(H:Hp):V->MD->Prop where
 |aV:fG K H .aV (.type "NoneType")
 |bl (x:Bool):fG K H (.bl x) (.type "bool")
 |int (i:Int):fG K H (.int i) (.type "int")
 |str (x:UK):fG K H (.str x) (.type "str")
 |G1 (x:UInt64):fG K H (.G1 x) (.type "float")
 |lst {a:UJ} {xs:List V} (e:H a=!(.lst xs)):fG K H (.ref a) (.type "list")
 |du {a:UJ} {o:Obj} {xs:List V} (e:H a=!(.du o (.lst xs))):fG K H (.ref a) (.type "list")
 |tup {a:UJ} {xs:List V} (e:H a=!(.tup xs)):fG K H (.ref a) (.type "tuple")
 |dK {a:UJ} {kvs:List (Key×V)} (e:H a=!(.dK kvs)):fG K H (.ref a) (.type "dict")
 |dT {a:UJ} {kvs:List (List Key×V)} (e:H a=!(.dT kvs)):fG K H (.ref a) (.type "dict")
 |dG {a:UJ} {kvs:List 68} (e:H a=! 69):fG K H (.ref a) (.type "dict")
 |ins {a C dx:UJ} {fs:List (UK×V)} (e:H a=!(.ins C dx fs)) (cl:Td K C) (ha:PySem.W.findIn K (.ref C) "__class__"=!(!(.builtin "object.__class__")))
   (hn:PySem.W.specialIn K (.builtin "object.__class__") "__get__"=!(!(.builtin "getset_descriptor.__get__"))) (htk:PySem.W.takesIn K (.builtin "object.__class__")=!true)
   (hm:PySem.W.mroIn K C (.type "object")=!true):fG K H (.ref a) (.ref C)
def RX(I:Inv X pins σ H s)(f:RelV x u)(ty:fG X.K H x t)(e:PySem.W.kitOne X.K t c=!b)(h:∀tk,Q (.bool b) {s with toks:=tk}) : wpAny 37 A (call (.builtin "isinstance") [u,c]) Q E s:=do(by cases ty with|aV|bl y|int i|str y|G1 y|@lst a xs d|@du a ob xs d|@tup a xs d|@dK a kvs d|@dT a kvs d|@dG a kvs d|@ins a C dx fs d cl j hn g k=>?_);-((show u=Value.none from f));PySem.W.kia_one PySem.W.kitx_none I.oz True.intro e (λz=>nomatch z) h;-((show u=Value.bool y from f));PySem.W.kia_one PySem.W.kitx_bool I.oz True.intro e (λz=>nomatch z) h;{t,q}:=(show ∃t,u=Value.int i t from f);-q;PySem.W.kia_one PySem.W.kitx_int I.oz True.intro e (λz=>nomatch z) h;{t,q}:=(show ∃t,u=Value.str y t from f);-q;PySem.W.kia_one PySem.W.kitx_str I.oz True.intro e (λz=>nomatch z) h;{t,q}:=(show ∃t,u=Value.float y t from f);-q;PySem.W.kia_one PySem.W.kitx_float I.oz True.intro e (λz=>nomatch z) h;-((show u=Value.ref a from f));{_,_,n,_,h1}:=(show a0 X.prog X.w H s.heap a (.lst xs) from I.a9 a _ d);PySem.W.kia_one PySem.W.kitx_list I.oz {_,h1,rfl} e (λz=>nomatch z) h;-((show u=Value.ref a from f));{_,_,_,n,_,h1}:=(show a0 X.prog X.w H s.heap a (.du ob (.lst xs)) from I.a9 a _ d);PySem.W.kia_one PySem.W.kitx_list I.oz {_,h1,rfl} e (λz=>nomatch z) h;-((show u=Value.ref a from f));{_,_,_,p}:=(show a0 X.prog X.w H s.heap a (.tup xs) from I.a9 a _ d);{o,h1,h2,_}:=p;PySem.W.kia_one PySem.W.kitx_tuple I.oz {o,h1,h2} e (λz=>nomatch z) h;-((show u=Value.ref a from f));{_,_,vs,_,p}:=(show a0 X.prog X.w H s.heap a (.dK kvs) from I.a9 a _ d);{o,es,ep,h1,h2,_}:=p;PySem.W.kia_one PySem.W.kitx_dict I.oz {o,h1,h2.1} e (λz=>nomatch z) h;-((show u=Value.ref a from f));{_,_,xs,_,o,es,ep,h1,h2,_}:=(show a0 X.prog X.w H s.heap a (.dT kvs) from I.a9 a _ d);PySem.W.kia_one PySem.W.kitx_dict I.oz {o,h1,h2.1} e (λz=>nomatch z) h;-((show u=Value.ref a from f));{_,_,xs,_,o,es,ep,h1,h2,_}:=(show a0 X.prog X.w H s.heap a 69 from I.a9 a _ d);PySem.W.kia_one PySem.W.kitx_dict I.oz {o,h1,h2.1} e (λz=>nomatch z) h;-((show u=Value.ref a from f));{l,O,_}:=Qa I.a9 d;{od,J,_}:=O.look;PySem.W.kia_one (PySem.W.kitx_own (cl.get _) cl.hd j hn g k) I.oz J e (λz=>nomatch z) h
end
structure bI(k:Nat)(A:Around):Prop where
 hd:A.handled=none
 dp:A.depth+3 * k+5<recursionLimit
 un:A.units+16 * k+200<cLine
 gd:A.guards=![]
def bI.mono{j k:Nat}(r:bI k A)(h:j<=k):bI j A:={r.hd,do this:=r.dp;(),do this:=r.un;(),r.gd}
theorem bI.deeper{k:Nat}(r:bI (k+1) A)(env:Env):bI k (A.deeper env) := {r.hd,do this:=r.dp;¬A.depth+1+3 * k+5<_;(),do this:=r.un;¬A.units+3+16 * k+200<_;(),r.gd}
theorem bI.in1{k:Nat}(r:bI (k+1) A):bI k A.in1 := {r.hd,do this:=r.dp;¬A.depth+3 * k+5<_;(),do this:=r.un;¬A.units+1+16 * k+200<_;(),r.gd}
theorem bI.depth{k:Nat}(r:bI k A):A.depth<recursionLimit:=do this:=r.dp;()
theorem bI.units{k:Nat}(r:bI k A):A.units+64<cLine:=do this:=r.un;()
def bI.vM{k:Nat}(r:bI k A):A.units<cLine:=do this:=r.un;()
def Bv:TA:=λ_ H Q=>Q [] H
def mX(ta:TE)(a:TA):TA:=λσ H Q=>ta σ H λx H1=>a σ H1 λxs H2=>Q (x::xs) H2
section
variable {X:Cx}{e:Expr}{es:List Expr}{te:TE}{t:TA}{pos:Pos}
def dh:PA X [] Bv:={λ_ _ _ _ H Q I h=>Calls.spliced_nil {[],H,I,.nil,h}}
def BW(a:PE X e te)(d:PA X es t)(k:starEach (e::es) X.env=(false,eval e X.env)::starEach es X.env:=by rfl):PA X (e::es) (mX te t):=do _;{?_};(pos,pins,s,σ,H,Q,I,h);[k];¬wpAny _ _ (spliced ((false,eval e X.env)::backTo pos (starEach es X.env))) _ _ s;Calls.spliced_cons (bL (a pins s σ H _ I h) λu c ⟨x,H1,b,l,i⟩=>?_);bL (d pos pins c σ H1 _ b i) λus s2 ⟨xs,H2,g,f,j⟩=>{x::xs,H2,g,.cons l f,j}
end
abbrev Sp:=List V->Hp->VK->XK->Prop
abbrev vY:=List Env->Hp->UH->XK->KE
structure hG(P:Program)(w:World)(K:PySem.W.Frag)(mg:UK->Option MD)(base:Heap)(A:Around)(outer:List Env)(s:UH)(H:Hp):Prop where
 frames:A.frames=!outer
 mod:Mod K mg base
 bs:∀b o,base.get? b=!o->s.heap.get? b=!o/\(H b=none\/∃xs,H b=!(.tup xs))
 tH:base.objs.size<=↑s
 eI:s.heap.FunFrames base outer
 xM:∀b∈d_ outer,H b=none
 a9:df P w H s.heap
 bare:AllBare s.gens
def CE(outer:List Env)(P:Program)(w:World)(H:Hp)(s:UH)(Q:VK)(u:MD)(s':UH):Prop := ∃v H',s'.os=s.os/\AllBare s'.gens/\Un (d_ outer) [] H H' s.heap s'.heap/\df P w H' s'.heap/\RelV v u/\Q v H'
def CR(CX:vY)(outer:List Env)(P:Program)(w:World)(H:Hp)(s:UH)(Q:VK)(E:XK)(r:Result)(s':UH):Prop := match r with|.ok (.ret u)=>CE outer P w H s Q u s'|.ok _=>False|.error e=>CX outer H s E e s'
structure h9(P:Program)(w:World)(K:PySem.W.Frag)(mg:UK->Option MD)(base:Heap)(CX:vY)(k:Nat)(f:UJ)(fd:FuncData)(ps:List UK)(sp:Sp):Prop where
 len:∀vs H Q E,sp vs H Q E->vs.length=ps.length
 run:∀(A:Around) (outer:List Env) (s:UH) (H:Hp) (args:Args) (us:List MD) (vs:List V) (Q:VK) (E:XK),bI k A->hG P w K mg base A outer s H->BindsTo s fd args (ps.zip us)->aK vs us->sp vs H Q E->
  codeAny (model P w) A (.call (.ref f) args) (CR CX outer P w H s Q E) s
section
variable {X:Cx}{pins:List 71}{σ:St}{H:Hp}{s s':UH}
def Inv.A5(I:Inv X pins σ H s):hG X.prog X.w X.K X.mg X.base X.A X.stack s H := {I.ok.frames,I.ok.mod,I.bs,qf I.ok.tH I.sz,I.stack,I.o4,I.a9,I.bare}
def Inv.after(I:Inv X pins σ H s)(h:CE X.stack X.prog X.w H s Q u s'):EP X pins σ Q u s':=do _;{v,H',f,a,un,c,r,q}:=h;{i,g,d,t,e}:=s';(by obtain rfl:e=s.os:=f);{v,H',I.call (h':=i) (g':=g) (d':=d) (t':=t) (ch:=[]) un c a (λb z=>absurd z (do 0)),r,q}
end
def zb(sp:Sp)(nT:List V)(E:XK)(t:TA):TE:=λσ H Q=>t σ H λvs H1=>sp (vs++nT) H1 Q E
def Binds(K:PySem.W.Frag)(fd:FuncData)(ps:List UK)(ds:List MD):Prop := ∀(s:UH) (us:List MD),K.In s.heap->(us++ds).length=ps.length->BindsTo s fd {us,[]} (ps.zip (us++ds))
def Binds.all{K:PySem.W.Frag}{fd:FuncData}{ps:List UK}(h:∀us:List MD,us.length=ps.length->bindArgs fd {us,[]}=pure (ps.zip us)):Binds K fd ps []:=λs us _ a=>do(by rw[wt]at a ⊢);.of_eq (h us a)
def og(CX:vY)(X:Cx)(E:XK):Prop:=∀(pins:List 71) (σ:St) (H:Hp) (s:UH) (e:MD) (s':UH),Inv X pins σ H s->CX X.stack H s E e s'->X.xe e s'
section
variable {X:Cx}{CX:vY}{k:Nat}{f C:UJ}{fd:FuncData}{ps:List UK}{sp:Sp}{nT:List V}{ds:List MD}{E:XK}{x m:UK}{p pos apos:Pos}{e o:Expr}{es:List Expr}{ta:TE}{t:TA}
def Gp{pins:List 71}{σ:St}{H:Hp}{s:UH}{Q:VK}{us:List MD}{vs:List V}(F:h9 X.prog X.w X.K X.mg X.base CX k f fd ps sp)(d:bI k X.A)(g:Binds X.K fd ps ds)(i:aK nT ds)(j:og CX X E)(I:Inv X pins σ H s)(r:aK vs us)(h:sp (vs++nT) H Q E):wpAny 37 X.A (call (.ref f) us) (EP X pins σ Q) X.xe s:=do b:aK (vs++nT) (us++ds):=r.append i;c:(us++ds).length=ps.length:=(do[<-b.length];F.len _ _ _ _ h);wpAny_call (codeAny_mono (F.run X.A X.stack s H {us,[]} (us++ds) (vs++nT) Q E d I.A5 (g s us I.oz c) b h) λr s' a=>?_);(by cases r with|error e|ok fl=>?_);j pins σ H s e s' I a;(by cases fl with|ret u|next|brk|cont=>?_);I.after a;False.elim a;False.elim a;False.elim a
def QF(F:h9 X.prog X.w X.K X.mg X.base CX k f fd ps sp)(i:bI k X.A)(hg:Gl X x)(o:X.mg x=!(.ref f))(g:PySem.W.keepIn X.K (.ref f)=true)(j:Binds X.K fd ps ds)(l:aK nT ds)(m:og CX X E)(d:PA X (e::es) t)(a:(x==("__debug__":UK))=false:=by decide)(n:starEach (e::es) X.env=(false,eval e X.env)::starEach es X.env:=by rfl)(b:(backTo pos (starEach es X.env)).any (·.1)=false:=by rfl) : PE X (.Call (.Name x p) (e::es) [] pos) (zb sp nT E t):=do _;{?_};(pins,s,σ,H,Q,I,h);wpAny_Call_Name_kw (Fw I hg o ?_ a);PySem.W.callWith_K (h₀:=X.base) I.ok.mod.NU g (bL (d pos pins s σ H _ I h) λus u ⟨vs,H1,c,r,q⟩=>{c.oz,?_}) n b;Gp F i j l m c r q
end
structure aA(N P:List UK)(sc:Scope):Prop where
 kind:sc.kind=.function
 co:sc.isCoroutine=false
 gen:sc.isGenerator=false
 nd:N.Nodup
 pre:N.take P.length=P
 par:∀x∈P,sc.names.lookup x=some .local\/sc.names.lookup x=some .cell
 Gj:∀y∈sc.names,y.2≠.free
theorem Ie:∀{binds:List (UK×MD)} {m:UK->Option MD},(∀v,(x,v)∉binds)->bindL a binds m x=m x|[],_,_=>rfl|(n,v)::r,m,h=>do@bindL;[Ie λw b=>h w (qm _ b)];3;this:x≠n:=(do(rfl);h v qi);#[this];2
theorem Kf:∀{binds:List (UK×MD)} {m:UK->Option MD},(∀v,(x,v)∉binds)->bindC a binds m x=m x|[],_,_=>rfl|(n,v)::r,m,h=>do@bindC;[Kf λw b=>h w (qm _ b)];3;2;this:x≠n:=(do(rfl);h v qi);#[this]
theorem MX:∀{P:List UK} {vs:List MD} {i:Nat} {m:UK->Option MD},P.Nodup->P[i]?=!x->vs[i]?=!v->a x=some .local-> bindL a (P.zip vs) m x=!v|[],_,_,_,_,h,_,_=>(do h<-0)|_::_,[],_,_,_,_,h,_=>(do h<-0)|p::P,w::vs,0,m,nd,h1,h2,hk=>(do(by simp at h1 h2);!h1;!h2;¬bindL a ((p,w)::P.zip vs) m p=_;@bindL;[Ie λv b=>(zv.mp nd).1 (kj b).1,qE hk];0)|p::P,w::vs,i+1,m,nd,h1,h2,hk=>do¬bindL a ((p,w)::P.zip vs) m x=_;@bindL;MX (i:=i) (List.nodup_cons.mp nd).2 (do 0<|h1) (do 0<|h2) hk
theorem Ku:∀{P:List UK} {vs:List MD} {i:Nat} {m:UK->Option MD},P.Nodup->P[i]?=!x->vs[i]?=!v->a x≠some .local-> bindC a (P.zip vs) m x=!v|[],_,_,_,_,h,_,_=>(do h<-0)|_::_,[],_,_,_,_,h,_=>(do h<-0)|p::P,w::vs,0,m,nd,h1,h2,hk=>(do(by simp at h1 h2);!h1;!h2;¬bindC a ((p,w)::P.zip vs) m p=_;@bindC;[Kf λv b=>(zv.mp nd).1 (kj b).1,qB hk];0)|p::P,w::vs,i+1,m,nd,h1,h2,hk=>do¬bindC a ((p,w)::P.zip vs) m x=_;@bindC;Ku (i:=i) (List.nodup_cons.mp nd).2 (do 0<|h1) (do 0<|h2) hk
def start(N:List UK)(vs:List V):St:=vs.map some++List.replicate (N.length - vs.length) none
def lD(CX:vY)(P:Program)(w:World)(K:PySem.W.Frag)(mg:UK->Option MD)(base:Heap)(N:List UK)(qual:UK)(a:Scope)(f:UJ)(cd:MD)(A:Around)(outer:List Env)(s:UH)(H:Hp)(E:XK):Cx where
 prog:=P
 w:=w
 K:=K
 mg:=mg
 base:=base
 A:=A.deeper (envOfC qual a ↑s f cd)
 N:=N
 s₀:=s
 H₀:=H
 env:=envOfC qual a ↑s f cd
 outer:=outer
 stack:=envOfC qual a ↑s f cd::outer
 ex:=[]
 calm:=true
 fn:=λ_=>true
 pn:=[]
 xe:=λe s'=>wpAny (model P w) (A.deeper (envOfC qual a ↑s f cd)) (leaving (envOfC qual a ↑s f cd) e) (λ_ b=>CX outer H s E e b) (λc b=>CX outer H s E c b) s'
def g_{a:Scope}{n:Nat}{x:UK}(h:a.names.lookup x=some .cell):∃c,(cellsFrom n a.names []).lookup x=!c:=do q:=PySem.W.cellsFrom_some a.names n [] (.inl h);kx.mp q
def N9{CX:vY}{P:Program}{w:World}{K:PySem.W.Frag}{mg:UK->Option MD}{base:Heap}{N ps:List UK}{qual:UK}{d:Scope}{f:UJ}{cd:MD}{A:Around}{outer:List Env}{s t:UH}{H:Hp}{E:XK}{us:List MD}{vs:List V}(S:aA N ps d)(G:A.handled=none)(g:hG P w K mg base A outer s H)(I:vs.length=ps.length)(r:aK vs us)(x:InCallC s ↑s (bindL (envOfC qual d ↑s f cd).kindOf (ps.zip us) λ_=>none) (cellsFrom (↑s+1) d.names []) (bindC (envOfC qual d ↑s f cd).kindOf (ps.zip us) λ_=>none) t) : Inv (lD CX P w K mg base N qual d f cd A outer s H E) [] (start N vs) H t:=do F:ps.length<=N.length:=(do this:=congrArg List.length S.pre;this<-[wb];());{h1,tk,rfl,o}:=x.done;j:∀b:UJ,b∉(lD CX P w K mg base N qual d f cd A outer s H E).ex:=λb z=>absurd (show b∈([]:List UJ) from z) (do 0);{{g.mod,S.kind,O,O,qb _,λy z c h1 h2=>?_,λy l=>?_,λy c _ h=>?_,λ_=>G,Around.frames_deeper g.frames,.inr {O,O},λb z=>absurd z (j b),g.bs,g.tH,λb _ _=>j b,λb z=>absurd z (j b),g.eI,g.xM},rfl,g.bare,Un.kept o,{_,x.toInCall.ns,λi y v h1 h2 J=>?_},λy c h=>{_,x.cell y c h},g.a9.fresh (Nat.le_refl _),λy c h=>?_,λp hp=>absurd (show p∈([]:List 71) from hp) (do 0),g.a9.kept o,?_};name_of_addr x.apart (PySem.mem_of_lookup h1) (PySem.mem_of_lookup h2);l:d.names.lookup y=some .cell\/d.names.lookup y=some .free:=l;l||l:=l;g_ l;absurd rfl (S.Gj _ (PySem.mem_of_lookup l));wx (x.above y c (PySem.mem_of_lookup h));hi:i<vs.length:=(do(by unfold start at h2);hi<|i<vs.length;hi;h2<-[List.getElem?_append_right (do 0<|hi)];h2<-[List.getElem?_replicate];by split at h2 <;> cases h2);C:vs[i]?=!v:=(do(by unfold start at h2);h2<-[List.getElem?_append_left (do 0<|hi),List.getElem?_map];(by cases e:vs[i]? with|none|some a=>?_);h2<-[e];-h2;h2<-[e];-h2;2);{u,B,D}:=r.get C;hp:ps[i]?=!y:=(do[<-S.pre,kz ()];h1);m:ps.Nodup:=(do[<-S.pre];S.nd.sublist (k8 _ _));{u,D,?_};k||k:=S.par y (qu hp);.inl ⟨k,MX m hp B k⟩;{c,e}:=g_ (n:=↑s+1) k;.inr {.inl k,c,e,?_};q:=x.cell y c e;q<-[Ku m hp B (do¬d.names.lookup y≠_;[k];by decide)];q;g.a9.fresh (wx (x.above y c (PySem.mem_of_lookup h)));@start;¬_=N.length;[qg,qh,gg];()
def sL{CX:vY}{P:Program}{w:World}{K:PySem.W.Frag}{mg:UK->Option MD}{base:Heap}{k:Nat}{f:UJ}{name qual:UK}{d:Arguments}{g:List Stmt}{a:Scope}{R kV l M c L Y:MD}{X od:Option UJ}{G:Array (Option MD)}{N ps:List UK}{sp:Sp}(lk:K.lookup f=some {Y,od,.func (PySem.W.fnOf name qual d g a R kV l M X c L),G})(D:PySem.W.codeIn K c qual=true)(S:aA N ps a)(len:∀vs H Q E,sp vs H Q E->vs.length=ps.length)(i:∀(A:Around) (outer:List Env) (s:UH) (H:Hp) (vs:List V) (Q:VK) (E:XK),bI k (A.deeper (envOfC qual a ↑s f c))->sp vs H Q E-> ∃t,jD (lD CX P w K mg base N qual a f c A outer s H E) g t/\t {nx:=λ_ H'=>Q .aV H',rt:=Q} (start N vs) H) : h9 P w K mg base CX (k+1) f (PySem.W.fnOf name qual d g a R kV l M X c L) ps sp:=do _;{len,λA outer s H U us vs Q E B z Z r p=>?_};hl:=len _ _ _ _ p;T:K.In s.heap:=z.mod.NU.keeps λb o e=>(z.bs b o e).1;C:s.heap.NoLimit:=z.mod.nolimit.keeps λb o e=>(z.bs b o e).1;h:∀y∈ps.zip us,a.names.lookup y.1=some .local\/(a.names.lookup y.1=some .cell/\((cellsFrom (↑s+1) a.names []).lookup y.1).isSome=true):=λ⟨n,v⟩ hy=>(do q||q:=S.par n (kj hy).1;.inl q;.inr ⟨q,PySem.W.cellsFrom_some _ _ _ (.inl q)⟩);codeAny_call_function B.depth (T _ _ lk) rfl S.co S.gen rfl (PySem.W.codeRec_of T D) (Z _ _ _ _ ?_);wpAny_newFunctionEnv_cells S.kind h λenv he O x=>?_;!he;{C.keeps x.toInCall.keep,codeAny_func ?_};{t,ht,hq}:=i A outer s H vs Q E (B.deeper _) p;I:Inv (lD CX P w K mg base N qual a f c A outer s H E) [] (start N vs) H O:=N9 S B.hd z hl r x;qM (ht [] O (start N vs) H _ I hq) (λfl s' j=>?_) λe s' j=>j;m:∀{σ':St} {H':Hp} {v:V} {u:MD},Inv (lD CX P w K mg base N qual a f c A outer s H E) [] σ' H' s'->RelV v u->Q v H'->CE outer P w H s Q u s':=λ{σ' H' v u} J F q=>{v,H',J.os,J.bare,J.base,J.a9,F,q};(by cases fl with|ret u|next|brk|cont=>?_);{v,σ',H',J,F,q}:=j;m J F q;{σ',H',J,q}:=j;m (v:=V.aV) (u:=Value.none) J rfl q;{_,_,_,q}:=j;False.elim q;{_,_,_,q}:=j;False.elim q
section
variable {X:Cx}{x:UK}{p pos:Pos}{e:Expr}{es:List Expr}{t:TA}{id T:String}{r:List V->Hp->VK->Prop}
def G8(r:List V->Hp->VK->Prop)(t:TA):TE:=λσ H Q=>t σ H λvs H1=>r vs H1 Q
def Q2(d:cI X (.builtin id) r)(hg:Gl X x)(j:X.mg x=none)(m:bootBuiltins x=!(.builtin id))(c:PA X (e::es) t)(hn:x≠"__name__":=by decide)(a:(x==("__debug__":UK))=false:=by decide)(l:starEach (e::es) X.env=(false,eval e X.env)::starEach es X.env:=by rfl)(b:(backTo pos (starEach es X.env)).any (·.1)=false:=by rfl):PE X (.Call (.Name x p) (e::es) [] pos) (G8 r t):=do _;{?_};(pins,s,σ,H,Q,I,h);wpAny_Call_Name_kw (iY I hg j m ?_ hn a);PyProof.Rows.callWith_builtin1 (bL (c pos pins s σ H _ I h) λus f ⟨vs,H1,g,k,i⟩=>d pins f σ H1 vs us Q g k i) l b
def Pk(d:cI X (.type T) r)(hg:Gl X x)(j:X.mg x=none)(m:bootBuiltins x=!(.type T))(c:PA X (e::es) t)(hn:x≠"__name__":=by decide)(a:(x==("__debug__":UK))=false:=by decide)(l:starEach (e::es) X.env=(false,eval e X.env)::starEach es X.env:=by rfl)(b:(backTo pos (starEach es X.env)).any (·.1)=false:=by rfl):PE X (.Call (.Name x p) (e::es) [] pos) (G8 r t):=do _;{?_};(pins,s,σ,H,Q,I,h);wpAny_Call_Name_kw (iY I hg j m ?_ hn a);PyProof.Rows.callWith_type1 (bL (c pos pins s σ H _ I h) λus f ⟨vs,H1,g,k,i⟩=>d pins f σ H1 vs us Q g k i) l b
end
end L2
namespace HT
open PySem PyProof.Rows
def lexLt:List Int->List Int->Bool|[],[]=>false|[],_::_=>true|_::_,[]=>false|x::xs,y::ys=>if x=y then lexLt xs ys else decide (x<y)
def e_(x y:Int)(xs ys:List Int):lexLt (x::xs) (y::ys)=if x=y then lexLt xs ys else decide (x<y):=rfl
def RQ:lexLt [] []=false:=rfl
def PZ(y:Int)(ys:List Int):lexLt [] (y::ys)=true:=rfl
def Qu(x:Int)(xs:List Int):lexLt (x::xs) []=false:=rfl
def Oj(A:Around)(s:UH)(a:Int)(t:Tok)(c:Int)(u:Tok):∃e,SeqAt.EqAt A s (.int a t) (.int c u) e/\(e=true↔a=c) := {(a==c),SeqAt.EqAt.int_int a t c u,do 0}
def Rx(A:Around)(s:UH)(a:Int)(t:Tok)(c:Int)(u:Tok)(prog:Program)(w:World)(E:KE)(Q:KE)(h:Q (.bool (decide (a<c))) s) : wpAny 66 A (richCompare .Lt (.int a t) (.int c u)) Q E s := (PyProof.Rows.lt_int h:wpAny 66 A (compareOp .Lt (.int a t) (.int c u)) Q E s)
section
open PySem.SeqAt
open PySem.AutoSeq1 (wpAny_loadPart')
open PySem.MeetsSeq PySem.MeetsSeq2 PySem.MeetsSeq3
def OQ(l b:UJ)(items f:Array MD)(n M:Nat)(J E:Option UJ)(sl F:Array (Option MD))(ns ms:List Int)(hi:IntsAre items.toList ns)(G:IntsAre f.toList ms) : Meets (Builtin.«tuple.__lt__» {[.ref l,.ref b],[]}) (λ_ R s=>s.heap.get? l=some {cls:=.type "tuple",dict:=J,data:=.seq items n,slots:=sl}/\s.heap.get? b=some {cls:=.type "tuple",dict:=E,data:=.seq f M,slots:=F} ∧ R (.ok (.ret (.bool (lexLt ns ms)))) s) := .of_wp λprog w A R s h=>do _;{hp,g,d,tk,C}:=s;{L,I,h}:=h;U:=AutoSeq1.sub_tuple_tuple;Q:items.size=ns.length:=(do[<-hi.length];0);P:f.size=ms.length:=(do[<-G.length];0);by wp_walk using wpAny_loadPart' L,wpAny_loadPart' I,wpAny_forIn_list _ (λrest b s'=>b.1=none/\s'={hp,g,d,tk,C}/\∃(vs ws:List MD) (j k:List Int),rest=vs.zip ws ∧ IntsAre vs j/\IntsAre ws k/\j.length+f.size=k.length+items.size/\R (.ok (.ret (.bool (lexLt j k)))) {hp,g,d,tk,C}) _;(case turn =>(rintro⟨y,x⟩ rest b s' ⟨r,rfl,vs,ws,j,k,hz,v,m,i,p⟩;cases v with|nil|cons a t z=>?_;rw[List.zip_nil_left]at hz;cases hz;cases m with|nil|cons c u B=>?_;rw[List.zip_nil_right]at hz;cases hz;rw[bd]at hz;injection hz with hyx hrest;injection hyx with hy hx;subst hy hx;rw[e_]at p;simp only[List.length_cons]at i;obtain⟨e,N,o⟩:=Oj A.in1 {hp,g,d,tk,C} a t c u;refine qA (N prog w _ _ ?_);cases e with|true|false=>?_;rw[qE (o.mp rfl)]at p;wp_walk;exact{O,O,_,_,_,_,hrest,z,B,(),p};rw[qB (λq=>absurd (o.mpr q) qx)]at p;have D:=Rx A.in1 {hp,g,d,tk,C} a t c u prog w;wp_walk using D;exact{_,O,do 0<|p}));(case fin =>(rintro⟨S,T⟩ s' ⟨r,rfl,vs,ws,j,k,hz,v,m,i,p⟩;simp only at r;subst r;have H:lexLt j k=decide (items.size<f.size):=(do(by cases v with|nil|cons a t H=>?_;cases m with|nil|cons c u K=>?_);i<-#[_,List.length_nil];[RQ];(decide_eq_false ()).symm;i<-#[_,List.length_nil,List.length_cons];[PZ];(qH ()).symm;(by cases m with|nil|cons c u K=>?_);i<-#[_,List.length_nil,List.length_cons];[Qu];(decide_eq_false ()).symm;hz<-[bd];-hz);rw[H]at p;wp_walk;exact{_,O,by simpa[Builtin.Tuple.tupleCompareSizes] using p}));case h =>exact{O,O,items.toList,f.toList,ns,ms,O,hi,G,(),h}
end
section
variable {prog:Program}{w:World}{A:Around}{E:KE}{s:UH}
def nE(o:IsTup s.heap l items)(t:IsTup s.heap b a)(hi:IntsAre items.toList ns)(p:IntsAre a.toList ms)(v:A.units<cLine)(h:Q (.bool (lexLt ns ms)) s):wpAny 66 A (compareOp .Lt (.ref l) (.ref b)) Q E s:=do _;{{q,u,data,sl},m,i,n,k}:=id o;{{j,g,e,f},d,c,r,hd2}:=id t;(by simp only at i k c hd2;subst i k c hd2);richCompare_meets_room (op:=.Lt) {_,m,O} {_,d,O} PySem.F.slot_tuple_lt PySem.F.entry_tuple_lt (PySem.F.args_tuple_lt_2 _ _) (OQ l b items a n r u g sl f ns ms hi p) {m,d,show Value.bool (lexLt ns ms)≠Value.notImplemented/\Q (.bool (lexLt ns ms)) s from{(λx=>nomatch x),h}} v
def xU(q:IsTup s.heap t vs.toArray)(r:IsTup s.heap b ws.toArray)(p:vs≠[])(h1:ws=[]->Q (.ref t) s)(h2:ws≠[]->Q (.ref ↑s) {s with heap:=s.heap.push {cls:=.type "tuple",data:=.seq (vs++ws).toArray}})(hsz:vs.length+ws.length<=sizeLine):wpAny 66 A (binaryOp .Add (.ref t) (.ref b)) Q E s:=do _;{{cls,m,data,sl},g,j,n,o}:=id q;{{l,f,i,d},a,c,k,hd2}:=id r;(by simp only at j o c hd2;subst j o c hd2);e:vs.toArray++ws.toArray=(vs++ws).toArray:=(do 0);h<|ws=[];concat_meets {_,g,O} {_,a,O} noFill_tuple_add seq_tuple_add PySem.F.slot_tuple_add PySem.F.entry_tuple_add (PySem.F.args_tuple_add_2 _ _) (tuple_addW1 t b vs.toArray ws.toArray n k m f sl d (do 0<|p) (do#[h])) {g,a,h1 h};concat_meets {_,g,O} {_,a,O} noFill_tuple_add seq_tuple_add PySem.F.slot_tuple_add PySem.F.entry_tuple_add (PySem.F.args_tuple_add_2 _ _) (tuple_addW2 t b vs.toArray ws.toArray n k m f sl d (do 0<|p) (do 0<|h) (do[List.size_toArray,List.size_toArray];hsz)) {g,a,?_};[e];h2 h
def b_(n d:Nat):Option Int->Nat|none=>d|some v=>if v<0 then(v+(n:Int)).toNat else min v.toNat n
def kH(n d k:Nat):b_ n d (!(k:Int))=min k n:=do¬(if(k:Int)<0 then((k:Int)+(n:Int)).toNat else min (k:Int).toNat n)=min k n;[qB (),Int.toNat_natCast]
def Cj(n d:Nat)(b:d<=n)(o:Option Int):b_ n d o<=n:=do(by cases o with|none|some v=>?_);b;¬(if v<0 then(v+(n:Int)).toNat else min v.toNat n)<=n;a<|v<0;[qE a];();[qB a];jk _ _
def M8(v:Int)(n d:Nat):(if v<0 then max (v+(n:Int)) 0 else min v (n:Int))=((b_ n d (!v):Nat):Int):=do¬(if v<0 then max (v+(n:Int)) 0 else min v (n:Int))=(((if v<0 then(v+(n:Int)).toNat else min v.toNat n):Nat):Int);a<|v<0;#[_,if_pos a];();#[_,if_neg a];()
def OL(lo hi:Option Int)(n:Nat):Builtin.Slice.sliceAdjust lo hi 1 (n:Int)=(((b_ n 0 lo:Nat):Int),((b_ n n hi:Nat):Int)):=do h1:¬((1:Int)<0):=();@Builtin.Slice.sliceAdjust;#[_,h1,if_false];Prod.ext ?_ ?_;(by cases lo with|none|some v=>?_);2;M8 v n 0;(by cases hi with|none|some v=>?_);2;M8 v n n
def Pm(i j:Nat):Builtin.Slice.slicePlaces (i:Int) (j:Int) 1=j - i:=do@Builtin.Slice.slicePlaces;h1:(1:Int)>0:=();#[_,h1,if_true,Int.ediv_one];by split <;> omega
def MC(p:IsPart v o)(h:Q o s):wpAny 66 A (Builtin.Slice.slicePartIndex v) Q E s:=do(by cases p with|none|int i t=>?_);slicePart_none h;slicePart_int h
def QG{sl:UJ}{d c:MD}{lo hi:Option Int}{n:Nat}{Q:Int×Int×Nat->UH->Prop}(g:s.heap.IsSliceOf sl d c .none)(i:IsPart d lo)(e:IsPart c hi)(h:Q (((b_ n 0 lo:Nat):Int),1,b_ n n hi - b_ n 0 lo) s):wpAny 66 A (Builtin.Slice.sliceApplied (.ref sl) (pure (n:Int))) Q E s:=do _;{j,b,f,a}:=id g;(by unfold Builtin.Slice.sliceApplied Builtin.Slice.sliceFields);qA (qA (wpAny_field b a (x:=d) rfl (qA (wpAny_field b a (x:=c) rfl (qA (wpAny_field b a (x:=.none) rfl (qF ?_)))))));qA (slicePart_none ?_);¬wpAny _ _ (if((1:Int)==0)=true then _ else _) _ _ s;[qB ⋯];qA (MC i (qA (MC e (qA (qF ?_)))));¬wpAny _ _ (match Builtin.Slice.sliceAdjust lo hi 1 (n:Int) with|(lo,hi)=>pure (lo,(1:Int),Builtin.Slice.slicePlaces lo hi 1)) _ _ s;[OL lo hi n];¬wpAny _ _ (pure (((b_ n 0 lo:Nat):Int),(1:Int),Builtin.Slice.slicePlaces ((b_ n 0 lo:Nat):Int) ((b_ n n hi:Nat):Int) 1)) _ _ s;[Pm];qF h
def Oz(xs:Array MD)(i k:Nat):((List.range k).filterMap λ(m:Nat)=>xs[((i:Int)+(m:Int) * 1).toNat]?).toArray=((xs.toList.drop i).take k).toArray:=do e:(λ(m:Nat)=>xs[((i:Int)+(m:Int) * 1).toNat]?)=λm=>xs[i+m]?:=(by funext m;have:((i:Int)+(m:Int) * 1).toNat=i+m:=();rw[this]);[e];this:=pick_run xs i k;this<-[List.filterMap_map];a:((λx=>xs[x]?)∘λx=>i+x)=λm=>xs[i+m]?:=rfl;this<-[a];[this]
def fM{t sl:UJ}{items:Array MD}{i g:MD}{lo hi:Option Int}{Q:KE}(b:IsTup s.heap t items)(j:s.heap.IsSliceOf sl i g .none)(o:IsPart i lo)(l:IsPart g hi)(p:¬(b_ items.size 0 lo=0/\b_ items.size items.size hi=items.size))(h:Q (.ref ↑s) {s with heap:=s.heap.push {cls:=.type "tuple",data:=.seq ((items.toList.drop (b_ items.size 0 lo)).take (b_ items.size items.size hi - b_ items.size 0 lo)).toArray}})(hsz:items.size<=sizeLine):wpAny 66 A (getItem (.ref t) (.ref sl)) Q E s:=do a:sizeOk (.seq ((items.toList.drop (b_ items.size 0 lo)).take (b_ items.size items.size hi - b_ items.size 0 lo)).toArray):=(do¬((items.toList.drop (b_ items.size 0 lo)).take (b_ items.size items.size hi - b_ items.size 0 lo)).toArray.size<=sizeLine;[zk,wb,v9,zu];());r:b_ items.size items.size hi<=items.size:=Cj _ _ (qb _) hi;{n,d,e,k}:=id j;f:s.TypeIs (.ref sl) "slice":={n,d,e};@getItem;(by(try with_reducible refine qK ?_);first|refine qA (qF ?_)|skip);qA (wpAny_sequenceKey b.typeIs ⋯ ?_);qA (wpAny_callSpecial?_slot (name:=Str.ofString "__getitem__") b.typeIs PyProof.Rows.slot_tuple_getitem (qO PyProof.Rows.slot_tuple_getitem b.typeIs entry_tuple_getitem ?_ (args_tuple_getitem _ _)));¬wpAny _ _ (Builtin.Tuple.tupleItemsOf (.ref t) >>= _) _ _ s;qA (tupleItemsOf_ b ?_);qA (wpAny_typeOf f ?_);[qE ⋯];qA (QG j o l ?_);c:¬((((b_ items.size 0 lo:Nat):Int)==0&&(1:Int)==1&&(b_ items.size items.size hi - b_ items.size 0 lo)==items.size)=true):=(do(q);q<-[zn,zn];u:((b_ items.size 0 lo:Nat):Int)=0:=eq_of_beq q.1.1;v:b_ items.size items.size hi - b_ items.size 0 lo=items.size:=eq_of_beq q.2;p {(),()});¬wpAny _ _ (if(((b_ items.size 0 lo:Nat):Int)==0&&(1:Int)==1&&(b_ items.size items.size hi - b_ items.size 0 lo)==items.size)=true then _ else _) _ _ s;[qB c,Oz];by first|exact qA (m:=Builtin.Tuple.tupleExact _) (wpAny_newObj_type (qF ⟨_,O,qF h⟩) a)|exact qA (m:=Builtin.Tuple.tupleExact _) (wpAny_newObj_type (qA (qF (qF ⟨_,O,qF h⟩))) a)|exact qA (qA (m:=Builtin.Tuple.tupleExact _) (wpAny_newObj_type (qF (qF ⟨_,O,qF h⟩)) a))|exact qA (qA (m:=Builtin.Tuple.tupleExact _) (wpAny_newObj_type (qF ⟨_,O,qF h⟩) a))
end
end HT
namespace L2
open PySem PySem.Spec PyProof.Rows
abbrev TO:=St->Hp->(Option Int->Hp->Prop)->Prop
def TF(X:Cx)(e:Option Expr)(t:TO):Prop := ∀(pins:List 71) (s:UH) (σ:St) (H:Hp) (Q:Option Int->Hp->Prop),Inv X pins σ H s->t σ H Q-> wpAny 37 X.A (evalPart e X.env) (λu s'=>∃o H',Inv X pins σ H' s'/\IsPart u o/\Q o H') X.xe s
structure PO(X:Cx)(e:Option Expr)(t:TO):Prop where run:TF X e t
instance Uk{X:Cx}{e:Option Expr}{t:TO}:CoeFun (PO X e t) λ_=>TF X e t:={PO.run}
def v3:TO:=λ_ H Q=>Q none H
inductive CN(Q:Option Int->Hp->Prop)(x:V)(H1:Hp):Prop
 |mk(i:_)(_:x=.int i)(_:Q (!i) H1)
def Ly(t:TE):TO:=λσ H Q=>t σ H λx H1=>CN Q x H1
def JR:∀{us:List MD},aK (ns.map V.int) us->IntsAre us ns:=do(by induction ns with|nil|cons n ns b=>?_);(us,r);r<-[gh];-r;.nil;(us,r);r<-[zm];(by cases r with|cons a c=>?_);{t,e}:=a;!e;.cons n t (b c)
section
variable {X:Cx}{e:Expr}{te:TE}{lo hi:Option Expr}{tl th:TO}{pos p2:Pos}
def xo:PO X none v3:=do _;{?_};(pins,s,σ,H,Q,I,h);[evalPart_none];qF {none,H,I,.none,h}
def fj(h:PE X e te):PO X (!e) (Ly te):=do _;{?_};(pins,s,σ,H,Q,I,d);[evalPart_some];bL (h pins s σ H _ I d) λu f ⟨x,H1,a,c,b⟩=>?_;{i,rfl,q}:=b;{t,rfl}:=c;{!i,H1,a,.int i t,q}
def wX(X:Cx)(r:V->Option Int->Option Int->Hp->VK->Prop):Prop := ∀(pins:List 71) (s:UH) (σ:St) (H:Hp) (x:V) (v a b:MD) (lo hi:Option Int) (sl:UJ) (Q:VK),Inv X pins σ H s->RelV x v->s.heap.IsSliceOf sl a b .none->IsPart a lo->IsPart b hi->r x lo hi H Q-> ∃T id,typeLookup (.type T) "__getitem__"=pure (!(.builtin id))/\s.TypeIs v T/\wpAny 37 X.A (getItem v (.ref sl)) (EP X pins σ Q) X.xe s
def Ug(r:V->Option Int->Option Int->Hp->VK->Prop)(te:TE)(tl th:TO):TE:=λσ H Q=>te σ H λx H1=>tl σ H1 λl H2=>th σ H2 λu a=>r x l u a Q
def l_(g:wX X r)(G:PE X e te)(B:PO X lo tl)(F:PO X hi th):PE X (.Subscript e (.Slice lo hi none p2) pos) (Ug r te tl th):=do _;{?_};(pins,s,σ,H,Q,I,h);Subscript_ (bL (G pins s σ H _ I h) λv o ⟨x,H1,C,z,t⟩=>?_);wpAny_Slice (bL (B pins o σ H1 _ C t) λd s2 ⟨l,H2,k,p,m⟩=>bL (F pins s2 σ H2 _ k m) λc a ⟨u,f,i,E,y⟩=>?_);[evalPart_none];qF ?_;n:Inv X pins σ f {a with heap:=a.heap.push {cls:=.type "slice",data:=.fields #[d,c,.none]}}:=i.kept (t':=a.toks) λb ob q=>qI _ q;{T,id,j,D,hg}:=g pins {a with heap:=a.heap.push {cls:=.type "slice",data:=.fields #[d,c,.none]}} σ f x v d c l u ↑a Q n z (Heap.IsSliceOf.new ..) p E y;¬wpAny 37 X.A (subscriptTail e (.Slice lo hi none p2) v (.ref ↑a)) (EP X pins σ Q) X.xe {a with heap:=a.heap.push {cls:=.type "slice",data:=.fields #[d,c,.none]}};tail_any (ops:=[.ref ↑a,v]) D j hg (by with_unfolding_all rfl)
def ef(xs:List V)(lo hi:Option Int):List V:=(xs.drop (HT.b_ xs.length 0 lo)).take (HT.b_ xs.length xs.length hi - HT.b_ xs.length 0 lo)
def EF(xs:List V)(lo hi:Option Int):(ef xs lo hi).length<=xs.length:=do@ef;[wb,v9];()
inductive R0(x:V)(lo:Option Int)(hi:Option Int)(H:Hp)(Q:VK):Prop
 |mk(a xs:_)(_:x=.ref a)(_:aS H a xs)(_:¬(HT.b_ xs.length 0 lo=0/\HT.b_ xs.length xs.length hi=xs.length))(_:∀p,H p=none->Q (.ref p) (upd H p (.tup (ef xs lo hi))))
def FJ:wX X (R0):=do(pins,s,σ,H,x,v,m,l,lo,hi,sl,Q,I,f,i,g,e,h);{a,xs,rfl,j,k,q}:=h;-f;{its,r,d,hz}:=I.tuple j;c:its.toArray.size=xs.length:=(do[zk];r.length.symm);{"tuple",_,PyProof.Rows.slot_tuple_getitem.lookup,d.typeIs,?_};HT.fM d i g e (do[c];k) ?_ (do[c];hz);[c];{.ref ↑s,_,I.laid (t':=s.toks) (o:=.tup (ef xs lo hi)) (λb ob q=>qI _ q) (qb _) ?_,O,q _ (I.a9.fresh (qb _))};{qf (EF xs lo hi) hz,_,(r.drop (HT.b_ xs.length 0 lo)).take (HT.b_ xs.length xs.length hi - HT.b_ xs.length 0 lo),IsTup.new _ _}
inductive O6(x y:V)(H:Hp)(Q:VK):Prop
 |mk(a b ns ms:_)(_:x=.ref a)(_:y=.ref b)(_:aS H a (ns.map V.int))(_:aS H b (ms.map V.int))(_:Q (.bl (HT.lexLt ns ms)) H)
def BK(n:X.A.units<cLine):de X (compareOp .Lt) (O6):=do(pins,s,σ,H,x,y,v,u,Q,I,e,k,h);{a,b,ns,ms,rfl,rfl,d,j,q}:=h;-e;-k;{its,m,l,_}:=I.tuple d;{c,g,p2,_}:=I.tuple j;f:IntsAre its.toArray.toList ns:=JR m;i:IntsAre c.toArray.toList ms:=JR g;HT.nE l p2 f i n {.bl (HT.lexLt ns ms),H,I,O,q}
inductive Nn(x y:V)(H:Hp)(Q:VK):Prop
 |mk(a b xs ys:_)(_:x=.ref a)(_:y=.ref b)(_:aS H a xs)(_:aS H b ys)(_:xs≠[])(_:xs.length+ys.length<=sizeLine)(_:(ys=[]->Q (.ref a) H))(_:(ys≠[]->∀p,H p=none->Q (.ref p) (upd H p (.tup (xs++ys)))))
def aK.k4(r:aK xs us):us=[]↔xs=[]:=do(by cases r with|nil|cons _ _=>?_);0;0
def Oq:de X (binaryOp .Add) (Nn):=do(pins,s,σ,H,x,y,v,u,Q,I,g,j,h);{a,b,xs,ys,rfl,rfl,f,i,n,hz,k,l}:=h;-g;-j;{its,d,m,_}:=I.tuple f;{e,c,p2,_}:=I.tuple i;HT.xU m p2 (λz=>n (d.k4.mp z)) (λz=>{.ref a,H,I,O,k (c.k4.mp z)}) (λz=>?_) (do[<-d.length,<-c.length];hz);{.ref ↑s,_,I.laid (t':=s.toks) (o:=.tup (xs++ys)) (λb ob q=>qI _ q) (qb _) ?_,O,l (λw=>z (c.k4.mpr w)) _ (I.a9.fresh (qb _))};{do[qg];hz,_,d.append c,IsTup.new _ _}
end
def sU(n:Nat)(i:Int):Option Nat:=if 0<=i then(if i<n then some i.toNat else none) else if -(n:Int)<=i then some (i+n).toNat else none
def oO{α:Type}(xs:List α)(i:Int):Option α:=(sU xs.length i).bind λj=>xs[j]?
def JC(h:sU n i=!j):seqIndex? i n=!j/\j<n/\-(n:Int)<=i/\i<n:=do(by unfold sU at h);h0<|0<=i;h<-[qE h0];h1<|i<n;h<-[qE h1];e:i.toNat=j:=qJ h;{do[seqIndex_of h0 h1,e],(),(),h1};h<-[qB h1];-h;h<-[qB h0];h1<|-(n:Int)<=i;h<-[qE h1];e:(i+n).toNat=j:=qJ h;{do[seqIndex_neg () h1,e],(),h1,()};h<-[qB h1];-h
def CG{α:Type}{xs:List α}{i:Int}{v:α}(h:oO xs i=!v):∃j,seqIndex? i xs.length=!j/\xs[j]?=!v/\j<xs.length/\-(xs.length:Int)<=i/\i<xs.length:=do(by unfold oO at h;cases e:sU xs.length i with|none|some j=>?_);h<-[e];-h;h<-[e];{h1,h2,b,a}:=JC e;{j,h1,h,h2,b,a}
def wM{α:Type}{xs:List α}{j:Nat}{v:α}(h:xs[j]?=!v):oO xs (j:Int)=!v:=do a:j<xs.length:=(qw.mp h).1;e:sU xs.length (j:Int)=!j:=(do@sU;[qE (),qE ()];0);@oO;[e];h
def ia(b:Expr):Prop:=∀o i,subscripted b false o i=operate [o,i] (getItem o i)
def Mh(X:Cx)(r:R2):Prop := ∀(value a:Expr) (pins:List 71) (s:UH) (σ:St) (H:Hp) (x y:V) (v u:MD) (Q:VK),Inv X pins σ H s->RelV x v->RelV y u->r x y H Q-> subscripted a false v u=operate [v,u] (getItem v u)->wpAny 37 X.A (subscriptTail value a v u) (EP X pins σ Q) X.xe s
def JO(X:Cx)(id:String)(r:V->List V->Hp->VK->Prop):Prop := ∀(pins:List 71) (s:UH) (σ:St) (H:Hp) (x:V) (xs:List V) (v:MD) (us:List MD) (Q:VK),Inv X pins σ H s->RelV x v->aK xs us->r x xs H Q-> wpAny 37 X.A (call (.builtin id) (v::us)) (EP X pins σ Q) X.xe s
section
variable {X:Cx}{a b:Expr}{ta tb:TE}{pos:Pos}
def jI(d:Mh X r)(c:PE X a ta)(f:PE X b tb)(j:ia b):PE X (.Subscript a b pos) (rV r ta tb):=do _;{?_};(pins,s,σ,H,Q,I,h);Subscript_ (CL c f I h λv u s2 x y H2 g e i q=>d a b pins s2 σ H2 x y v u Q g e i q (j _ _))
inductive Ci(x y:V)(H:Hp)(Q:VK):Prop
 |mk(p xs i v:_)(_:x=.ref p)(_:y=.int i)(_:aD H p xs)(_:oO xs i=!v)(_:Q v H)
inductive Fh(x y:V)(H:Hp)(Q:VK):Prop
 |mk(p xs i v:_)(_:x=.ref p)(_:y=.int i)(_:aS H p xs)(_:oO xs i=!v)(_:Q v H)
inductive P4(x y:V)(H:Hp)(Q:VK):Prop
 |mk(z i c:_)(_:x=.str z)(_:y=.int i)(_:z.length<=sizeLine)(_:oO z.cps.toList i=!c)(_:Q (.str ⟨#[c]⟩) H)
def DI:Mh X (Ci):=do(value,d,pins,s,σ,H,x,y,v,u,Q,I,m,o,h,g);{p,xs,i,z,rfl,rfl,l,B,q}:=h;-m;{t,rfl}:=o;{its,r,c,hz}:=I.list l;{j,h1,h2,C,A,n}:=CG B;{w,f,e}:=r.get h2;k:=r.length;hn:=rE;a:EP X pins σ Q w s:={z,H,I,e,q};h0<|0<=i;b:i.toNat=j:=(do h1<-[seqIndex_of h0 n];qJ h1);item_listR c.isList h0 () (do[b];0<|f) a g;b:(i+(its.toArray.size:Int)).toNat=j:=(do h1<-[seqIndex_neg () A];[zk,<-k];qJ h1);subscriptTail_builtinR (x:=w) c.isList.typeIs slot_list_getitem.lookup (wpAny_getItem_list_neg (Q:=λr s'=>r=w/\EP X pins σ Q r s') c.isList () (by rw[List.size_toArray] <;> omega) () (do[b];0<|f) {O,a}) g
def Iu:Mh X (Fh):=do(value,b,pins,s,σ,H,x,y,v,u,Q,I,k,l,h,m);{p,xs,i,z,rfl,rfl,g,n,q}:=h;-k;{t,rfl}:=l;{its,r,d,hz}:=I.tuple g;{j,h1,h2,A,B,o}:=CG n;{w,e,c}:=r.get h2;f:=r.length;hn:=rE;a:EP X pins σ Q w s:={z,H,I,c,q};subscriptTail_builtinR (x:=w) d.typeIs slot_tuple_getitem.lookup (getItem_tuple (j:=j) (Q:=λr s'=>r=w/\EP X pins σ Q r s') d () () (do[List.size_toArray,<-f];h1) (do 0<|e) {O,a}) m
def D7:Mh X P4:=do(value,a,pins,s,σ,H,x,y,v,u,Q,I,e,k,h,l);{z,i,c,rfl,rfl,hz,n,q}:=h;{t,rfl}:=e;{t',rfl}:=k;{j,h1,h2,o,m,f}:=CG n;b:z.cps.toList.length=z.length:=(do#[Str.length]);(by rw[b]at h1 m f);hn:=rE;tail_any (typeIs_str s z t) slot_str_getitem.lookup (getItem_str (c:=c) (do g:decide (i < -(2 ^ 63:Int))=false:=decide_eq_false ();d:decide (i>=2 ^ 63)=false:=decide_eq_false ();[g,d,Bool.or_false]) (do[h1];0<|h2) {.str {#[c]},H,I.tok _,{_,O},q}) l
def O3(its:List MD)(n j:Nat)(u:MD):Obj.mapSeq (·.setIfInBounds j u) {cls:=.type "list",data:=.seq its.toArray n}={cls:=.type "list",data:=.seq (its.set j u).toArray n}:=do#[Obj.mapSeq]
theorem Inv.lst{pins:List 71}{σ:St}{H:Hp}{s:UH}{p:UJ}{xs:List V}(I:Inv X pins σ H s)(h:H p=!(.lst xs)) : ∃(its:List MD) (n:Nat),aK xs its/\s.heap.get? p=some {cls:=.type "list",data:=.seq its.toArray n}/\xs.length<=sizeLine:=do _;{z,its,n,r,e}:=I.a9 p _ h;{its,n,r,e,z}
def Inv.s_{pins:List 71}{σ:St}{H:Hp}{s:UH}{p:UJ}{xs ys:List V}{its its':List MD}{n n':Nat}{f:Obj->Obj}(I:Inv X pins σ H s)(h:H p=!(.lst xs))(d:s.heap.get? p=some {cls:=.type "list",data:=.seq its.toArray n})(a:f {cls:=.type "list",data:=.seq its.toArray n}={cls:=.type "list",data:=.seq its'.toArray n'})(r:aK ys its')(hz:ys.length<=sizeLine)(t:Nat) : Inv X pins σ (upd H p (.lst ys)) {s with heap:=s.heap.update p f,toks:=t}:=do e:(s.heap.update p f).get? p=some {cls:=.type "list",data:=.seq its'.toArray n'}:=(do[Heap.get?_update_self f d (by rw[a] <;> rfl),a]);I.write (x:=p) (e:=p) (by rw[h];trivial) (.inl rfl) (λb u c q=>(Heap.get?_update_other _ _ (Ne.symm c)).trans q) {_,e} ?_;{hz,its',n',r,e}
inductive Mg(o i v:V)(H:Hp)(Q:(Hp->Prop)):Prop
 |mk(p xs k j:_)(_:o=.ref p)(_:i=.int k)(_:H p=!(.lst xs))(_:sU xs.length k=!j)(_:Q (upd H p (.lst (xs.set j v))))
def IF:L_ X Mg:=do(pins,s,σ,H,o,i,v,y,x,u,Q,I,w,m,g,h);{p,xs,k,j,rfl,rfl,hp,l,q}:=h;-w;{t,rfl}:=m;{its,n,r,c,hz}:=I.lst hp;{h1,h2,e,f}:=JC l;a:=r.length;hn:=rE;d:Inv X pins σ (upd H p (.lst (xs.set j v))) {s with heap:=s.heap.update p (Obj.mapSeq (·.setIfInBounds j u))}:=I.s_ hp c (O3 its n j u) (r.set g j) (do[List.length_set];hz) s.toks;h0<|0<=k;b:k.toNat=j:=(do h1<-[seqIndex_of h0 f];qJ h1);PySem.W.ki_setAt c h0 () (do[zk,<-a];f) (do[b];{_,d,q});b:(k+(its.toArray.size:Int)).toNat=j:=(do h1<-[seqIndex_neg () e];[zk,<-a];qJ h1);PySem.W.ki_setBack c () (do[zk,<-a];e) () (do[b];{_,d,q})
def SK(lo hi:Option Int)(n:Nat):(sliceBounds lo hi none n).1=((HT.b_ n 0 lo:Nat):Int)/\(sliceBounds lo hi none n).2.1=((HT.b_ n n hi:Nat):Int)/\(sliceBounds lo hi none n).2.2=1:=do _;{?_,?_,O};(by cases lo with|none|some i=>?_);#[sliceBounds,HT.b_];#[_,sliceBounds,HT.b_,Option.getD_none,show(1:Int)>0 from ⋯,if_true];h<|i<0;(by simp only[h,if_true] <;> omega;simp only[h,if_false] <;> omega;cases hi with|none|some i=>?_);#[sliceBounds,HT.b_];#[_,sliceBounds,HT.b_,Option.getD_none,show(1:Int)>0 from ⋯,if_true];h<|i<0;by simp only[h,if_true] <;> omega;simp only[h,if_false] <;> omega
def Oa(its:List MD)(lo hi:Option Int):slicePick its.toArray lo hi none=((its.drop (HT.b_ its.length 0 lo)).take (HT.b_ its.length its.length hi - HT.b_ its.length 0 lo)).toArray:=do _;{h1,h2,a}:=SK lo hi its.toArray.size;@slicePick;[h1,h2,a];by simp only[sliceRange_one,pick_run,List.size_toArray] <;> rfl
inductive RK(x:V)(lo:Option Int)(hi:Option Int)(H:Hp)(Q:VK):Prop
 |mk(a xs:_)(_:x=.ref a)(_:aD H a xs)(_:∀p,H p=none->Q (.ref p) (upd H p (.lst (ef xs lo hi))))
def OV:wX X (RK):=do(pins,s,σ,H,x,v,l,k,lo,hi,sl,Q,I,f,i,g,e,h);{a,xs,rfl,j,q}:=h;-f;{its,r,d,hz}:=I.list j;c:=r.length;{"list",_,slot_list_getitem.lookup,d.isList.typeIs,?_};wpAny_getItem_list_slice d.isList i g e .none (do 0) ?_ (by rw[List.size_toArray] <;> omega);[Oa,<-c];{.ref ↑s,_,I.laid (t':=s.toks) (o:=.lst (ef xs lo hi)) (λb ob q=>qI _ q) (qb _) ?_,O,q _ (I.a9.fresh (qb _))};{qf (EF xs lo hi) hz,_,0,(r.drop (HT.b_ xs.length 0 lo)).take (HT.b_ xs.length xs.length hi - HT.b_ xs.length 0 lo),qL _ rfl}
inductive i_(xs:List V)(H:Hp)(Q:VK):Prop
 |mk(p ys:_)(_:xs=[.ref p])(_:(aD H p ys\/aS H p ys))(_:Q (.int ys.length) H)
def dE:cI X (.builtin "len") (i_):=do(pins,s,σ,H,xs,us,Q,I,r,h);{p,ys,rfl,b,q}:=h;{u,rfl,e}:=vals1 r;-e;hn:=rE;b||b:=b;{its,d,c,hz}:=I.list b;a:=d.length;Calls.call_len_list c.isList (by simp only[List.size_toArray] <;> omega) {.int ys.length,H,I.tok _,{s.toks+1,do[List.size_toArray,a]},q};{its,d,c,hz}:=I.tuple b;a:=d.length;len_tuple c (by simp only[List.size_toArray] <;> omega) {.int ys.length,H,I.tok _,{s.toks+1,do[List.size_toArray,a]},q}
inductive iW(xs:List V)(H:Hp)(Q:VK):Prop
 |mk(p ys:_)(_:xs=[.ref p])(_:(aD H p ys\/aS H p ys))(_:∀l,H l=none->Q (.ref l) (upd H l (.lst ys)))
def N4:cI X (.type "list") (iW):=do(pins,s,σ,H,xs,us,Q,I,r,h);{p,ys,rfl,d,q}:=h;{u,rfl,m}:=vals1 r;-m;g:∀(its:List MD),aK ys its->ys.length<=sizeLine->∀(h':Heap) (a:Nat),(∀b o',s.heap.get? b=!o'->h'.get? b=!o')-> h'.get? ↑s=some {cls:=.type "list",dict:=none,data:=.seq its.toArray a,slots:=#[]}->EP X pins σ Q (.ref ↑s) {s with heap:=h'}:=λits c hz h' a kp e => {.ref ↑s,_,I.laid (t':=s.toks) kp (qb _) (show a0 X.prog X.w _ h' _ (.lst ys) from{hz,its,a,c,e}),O,q _ (I.a9.fresh (qb _))};d||d:=d;{its,c,j,hz}:=I.list d;f:=c.length;{o,l,i,n,k}:=j.isList;call_list_seq p (.inl rfl) l i k (λh' a kp e=>g its c hz h' a kp e) (by simp only[List.size_toArray] <;> omega);{its,c,j,hz}:=I.tuple d;f:=c.length;{o,l,i,n,k}:=j;call_list_seq p (.inr rfl) l i k (λh' a kp e=>g its c hz h' a kp e) (by simp only[List.size_toArray] <;> omega)
def Nw(T:String)(x:V)(H:Hp):Prop:=match x with|.str _=>T = "str"|.int _=>T = "int"|.ref p=>(T = "list" /\ ∃xs,aD H p xs)\/(T = "tuple" /\ False) ∨ (T = "dict" /\ ((∃kvs,H p=!(.dK kvs))\/(∃kvs,H p=!(.dT kvs))\/∃kvs,H p=! 69))\/(T = "set" /\ ∃S n,H p=!(.set S n))|_=>False
def Hh{pins:List 71}{σ:St}{H:Hp}{s:UH}{T:String}{x:V}{v:MD}(I:Inv X pins σ H s)(r:RelV x v)(ty:Nw T x H) : s.TypeIs v T/\∀a,v=.ref a->∃ob,s.heap.get? a=!ob/\ob.dict=none:=by cases x with|str z=>(obtain⟨t,rfl⟩:=r;cases(show T = "str" from ty);exact{typeIs_str s z t,λ_ e=>nomatch e})|int i=>(obtain⟨t,rfl⟩:=r;cases(show T = "int" from ty);exact{typeIs_int s i t,λ_ e=>nomatch e})|ref p=>(cases r;rcases ty with⟨rfl,xs,j⟩|⟨rfl,g⟩|⟨rfl,b⟩|⟨rfl,S,n,b⟩;obtain⟨its,_,f,_⟩:=I.list j;refine{f.isList.typeIs,λa e=>?_};cases e;obtain⟨o,n,e,c,h,_⟩:=f;exact{o,e,h};exact g.elim;have z:∃o,s.heap.get? p=!o/\o.ExactDict:=(do _;{kvs,b}||{kvs,b}||{kvs,b}:=b;{_,_,_,_,o,_,_,e,ex,_}:=I.a9 p _ b;{o,e,ex};{_,_,_,_,o,_,_,e,ex,_}:=I.a9 p _ b;{o,e,ex};{_,_,_,_,o,_,_,e,ex,_}:=I.a9 p _ b;{o,e,ex});obtain⟨o,e,ex⟩:=z;refine{{o,e,ex.1},λa d=>?_};cases d;exact{o,e,ex.2.1};obtain⟨o,_,_,_,e,ex,_⟩:=I.a9 p _ b;refine{{o,e,ex.1},λa d=>?_};cases d;exact{o,e,ex.2.1})|_=>exact False.elim ty
def Pa(T:String)(r:V->List V->Hp->VK->Prop)(to:TE):TE:=λσ H Q=>to σ H λx H1=>Nw T x H1/\r x [] H1 Q
def N2(T:String)(r:V->List V->Hp->VK->Prop)(to:TE)(t:TA):TE:=λσ H Q=>to σ H λx H1=>Nw T x H1/\t σ H1 λxs H2=>r x xs H2 Q
variable {o e:Expr}{es:List Expr}{to:TE}{t:TA}{name:UK}{apos cpos:Pos}{T id:String}{r:V->List V->Hp->VK->Prop}
def Lk(i:PlainAttrs T)(slot:Slot T name id)(c:typeOf (.builtin id)=pure (.type "method_descriptor"))(k:JO X id r)(j:PE X o to)(a:attributeBase o name X.env (eval o X.env)=eval o X.env:=by rfl)(b:(apos.endLine==cpos.line)=true:=by rfl):PE X (.Call (.Attribute o name apos) [] [] cpos) (Pa T r to):=do _;{?_};(pins,s,σ,H,Q,I,h);wpAny_Call_method0_late a b (bL (j pins s σ H _ I h) λv f ⟨x,H1,d,e,ty,g⟩=>?_);{h1,h2}:=Hh d e ty;{T,id,i,slot,c,h1,h2,Calls.callWith_builtin rfl (PySem.evalArgs_none (k pins f σ H1 x [] v [] Q d e .nil g))}
def M4(w:PlainAttrs T)(slot:Slot T name id)(f:typeOf (.builtin id)=pure (.type "method_descriptor"))(z:JO X id r)(y:PE X o to)(k:PA X (e::es) t)(b:attributeBase o name X.env (eval o X.env)=eval o X.env:=by rfl)(d:((backTo cpos (starEach (e::es) X.env)).all (λx=>not x.1)&&(backToKw cpos (keywordEach [] X.env)).all (λx=>x.1.isSome) && decide ((e::es).length+([]:List Keyword).length+(if([]:List Keyword).isEmpty then 0 else 1)<30))=true:=by rfl)(c:(apos.endLine==cpos.line)=true:=by rfl)(u:starEach (e::es) X.env=(false,eval e X.env)::starEach es X.env:=by rfl)(a:(backTo cpos (starEach es X.env)).any (·.1)=false:=by rfl) : PE X (.Call (.Attribute o name apos) (e::es) [] cpos) (N2 T r to t):=do _;{?_};(pins,s,σ,H,Q,I,h);wpAny_Call_method_late b d c rfl (bL (y pins s σ H _ I h) λv l ⟨x,H1,g,j,ty,p⟩=>?_);{h1,h2}:=Hh g j ty;{T,id,w,slot,f,h1,h2,?_};i:=k cpos pins l σ H1 _ g p;(by rw[u]at i ⊢);Calls.callWith_builtin (by show(false||(backTo cpos (starEach es X.env)).any (·.1))=false;rw[a] <;> rfl) (Calls.evalArgs_plain ?_);bL i λus s2 ⟨vs,H2,n,m,q⟩=>z pins s2 σ H2 x vs v us Q n j m q
end
def Ar(X:Cx)(id:String)(r:V->List V->Hp->VK->Prop):Prop := ∀(pins:List 71) (s:UH) (σ:St) (H:Hp) (x:V) (xs:List V) (v:MD) (us:List MD) (Q:VK),Inv X pins σ H s->RelV x v->aK xs us->r x xs H Q-> wpAny 37 X.A (call (.builtin id) (v::us)) (EP X pins σ Q) X.xe s
def aK.tl(h:aK (x::xs) us):∃u vs,us=u::vs/\RelV x u/\aK xs vs:=do(by cases h with|cons r t=>?_);{_,_,O,r,t}
def aK.one:∀{x:V} {us:List MD},aK [x] us->∃u,us=[u]/\RelV x u:=do(x,us,h);(by cases h with|cons r t=>?_);-t;{_,O,r}
def aK.two:∀{x y:V} {us:List MD},aK [x,y] us->∃u v,us=[u,v]/\RelV x u/\RelV y v:=do(x,y,us,h);{u,vs,rfl,r,t}:=aK.tl h;{v,rfl,q}:=aK.one t;{u,v,O,r,q}
def aK.zero:∀{us:List MD},aK [] us->us=[]|_,.nil=>rfl
theorem aK.dropLast(h:aK xs us):aK xs.dropLast us.dropLast:=do(by induction h with|nil|cons r t a=>?_);.nil;(by cases t with|nil|cons q t'=>?_);.nil;.cons r a
theorem aK.rep(h:aK xs us):∀k:Nat,aK (List.replicate k xs).flatten (List.replicate k us).flatten| 0=>.nil|k+1=>do[jl,jl,jr,jr];aK.append h (aK.rep h k)
def QQ{α:Type}(l:List α):l.eraseIdx (l.length - 1)=l.dropLast:=by induction l with|nil=>rfl|cons a r c=>(cases r with|nil=>rfl|cons b r=>(have e:(a::b::r).length - 1=((b::r).length - 1)+1:=(do h1:(a::b::r).length=r.length+2:=rfl;h2:(b::r).length=r.length+1:=rfl;());rw[e,List.eraseIdx_cons_succ,c];all_goals rfl))
theorem MJ(its:List MD):∀(k:Nat) (acc:List MD),List.foldl (λc a=>c++a) acc.toArray (List.replicate k its.toArray)=(acc++(List.replicate k its).flatten).toArray| 0,acc=>(do 0)|k+1,acc=>do e:acc.toArray++its.toArray=(acc++its).toArray:=(do 0);b:(acc++its)++(List.replicate k its).flatten=acc++(List.replicate (k+1) its).flatten:=(do[jl,jr,ym]);[<-b,<-MJ its k (acc++its),<-e,jl,wz]
section
variable {X:Cx}{pins:List 71}{σ:St}{H:Hp}{s:UH}{l b:UJ}{xs ys zs:List V}
def Inv.FI{its its':List MD}{n:Nat}{f:Array MD->Array MD}{t':Nat}(I:Inv X pins σ H s)(b:H l=!(.lst xs))(e:s.heap.get? l=some {cls:=.type "list",data:=.seq its.toArray n})(a:f its.toArray=its'.toArray)(g:aK ys its')(hz:ys.length<=sizeLine) : Inv X pins σ (upd H l (.lst ys)) {s with heap:=s.heap.update l (Obj.mapSeq f),toks:=t'}:=do q:=PySem.IsL.update e f;q<-[a];I.write (x:=l) (e:=l) (do[b];trivial) (.inl rfl) (λh u c d=>(Heap.get?_update_other s.heap (Obj.mapSeq f) (Ne.symm c)).trans d) {_,q} ?_;{hz,its',_,g,q}
def Inv.JG(I:Inv X pins σ H s)(a:aK ys its)(hz:ys.length<=sizeLine) : Inv X pins σ (upd H ↑s (.lst ys)) {s with heap:=s.heap.push {cls:=.type "list",data:=.seq its.toArray},toks:=t'} := I.laid (λ_ _ q=>qI _ q) (qb _) {hz,its,0,a,qL _ rfl}
theorem Inv.fresh(I:Inv X pins σ H s):H ↑s=none:=I.a9.fresh (qb _)
def Inv.nG(I:Inv X pins σ H s)(a:H l=!(.lst xs)):xs.length<=sizeLine/\∃(its:List MD) (n:Nat),aK xs its/\xs.length=its.length/\s.heap.get? l=some {cls:=.type "list",data:=.seq its.toArray n}:=do _;{z,its,n,r,e}:=I.a9 l _ a;{z,its,n,r,r.length,e}
def IE(h:n<=sizeLine):Builtin.List.listTooLong n=false:=do@Builtin.List.listTooLong;decide_eq_false ()
end
section
variable {X:Cx}
inductive pz(x:V)(vs:List V)(H:Hp)(Q:VK):Prop
 |mk(l xs y:_)(_:x=.ref l)(_:vs=[y])(_:H l=!(.lst xs))(_:xs.length<sizeLine)(_:Q .aV (upd H l (.lst (xs++[y]))))
def Qc:Ar X "list.append" pz:=do(pins,s,σ,H,x,vs,v,us,Q,I,c,b,h);{l,xs,y,rfl,rfl,a,hz,q}:=h;-c;{u,rfl,d}:=b.one;{z,its,n,r,f,e}:=I.nG a;call_meets F.slot_list_append {_,e,O} F.entry_list_append (F.args_list_append_2 _ _) (PySem.list_append l its.toArray n u (do[zk];())) {e,?_};{.aV,_,I.FI (its':=its++[u]) a e (do 0) (r.append (.cons d .nil)) ?_,O,q};[qg,qr];()
inductive wQ(x:V)(vs:List V)(H:Hp)(Q:VK):Prop
 |mk(l b xs zs:_)(_:x=.ref l)(_:vs=[.ref b])(_:H l=!(.lst xs))(_:H b=!(.lst zs))(_:xs.length+zs.length<=sizeLine)(_:Q .aV (upd H l (.lst (xs++zs))))
def M3:Ar X "list.extend" wQ:=do(pins,s,σ,H,x,vs,v,us,Q,I,j,f,h);{l,b,xs,zs,rfl,rfl,d,i,hz,q}:=h;-j;{u,rfl,p}:=f.one;-p;{z,its,n,r,t,e}:=I.nG d;{w,a,o,k,m,g}:=I.nG i;hsz:its.toArray.size+a.toArray.size<=sizeLine:=(do[zk,zk];());c:¬(not its.toArray.isEmpty&&Builtin.List.listTooLong (its.toArray.size+a.toArray.size))=true:=(do[IE hsz,me];qx);call_meets F.slot_list_extend {_,e,O} F.entry_list_extend (F.args_list_extend_2 _ _) (AutoSeq1.list_extend_list_list_0 l its.toArray n b a.toArray o c (do[zk];()) ()) {e,g,?_};{.aV,_,I.FI (its':=its++a) d e (do 0) (r.append k) ?_,O,q};[qg];()
inductive Qp(x:V)(vs:List V)(H:Hp)(Q:VK):Prop
 |mk(l xs y:_)(_:x=.ref l)(_:vs=[])(_:H l=!(.lst xs))(_:xs[xs.length - 1]?=!y)(_:Q y (upd H l (.lst xs.dropLast)))
def I_:Ar X "list.pop" Qp:=do(pins,s,σ,H,x,vs,v,us,Q,I,g,f,h);{l,xs,y,rfl,rfl,c,j,q}:=h;-g;a:=f.zero;!a;{z,its,n,r,d,e}:=I.nG c;{u,k,i}:=r.get j;b:its.toArray[its.toArray.size - 1]?=!u:=(do¬its.toArray[its.length - 1]?=!u;[<-yq,<-d];k);call_meets F.slot_list_pop {_,e,O} F.entry_list_pop (F.args_list_pop_1 _) (MeetsSeq.list_pop_last l its.toArray n u b (do[zk];())) {e,?_};{y,_,I.FI (its':=its.dropLast) c e ?_ r.dropLast ?_,i,q};¬its.toArray.eraseIdxIfInBounds (its.toArray.size - 1)=its.dropLast.toArray;[zk,List.eraseIdxIfInBounds_toArray,QQ];[List.length_dropLast];()
inductive Qs(x y:V)(H:Hp)(Q:VK):Prop
 |mk(l b xs zs:_)(_:x=.ref l)(_:y=.ref b)(_:H l=!(.lst xs))(_:H b=!(.lst zs))(_:xs.length+zs.length<=sizeLine)(_:∀p,H p=none->Q (.ref p) (upd H p (.lst (xs++zs))))
def Cy:de X (binaryOp .Add) Qs:=do(pins,s,σ,H,x,y,v,u,Q,I,g,k,h);{l,b,xs,zs,rfl,rfl,f,d,hz,q}:=h;-g;-k;{z,its,n,r,o,e}:=I.nG f;{t,a,p,i,j,c}:=I.nG d;PySem.P.add_list e c ?_ (do[zk,zk];());m:its.toArray++a.toArray=(its++a).toArray:=(do 0);[m];{.ref _,_,I.JG (t':=s.toks) (r.append i) (do[qg];()),O,q _ I.fresh}
inductive OO(x y:V)(H:Hp)(Q:VK):Prop
 |mk(l k xs:_)(_:x=.ref l)(_:y=.int k)(_:H l=!(.lst xs))(_:-(2 ^ 63)<=k)(_:k<2 ^ 63)(_:xs.length * k.toNat<=sizeLine)(_:∀p,H p=none->Q (.ref p) (upd H p (.lst (List.replicate k.toNat xs).flatten)))
def SV{α:Type}(xs:List α)(k:Nat):(List.replicate k xs).flatten.length=k * xs.length:=do(by induction k with|zero|succ k a=>?_);0;[jl,jr,qg,a,Nat.succ_mul,Nat.add_comm]
def F_:de X (binaryOp .Mult) OO:=do(pins,s,σ,H,x,y,v,u,Q,I,w,A,h);{l,k,xs,rfl,rfl,p,h1,h2,hz,q}:=h;-w;{t,rfl}:=A;{z,its,n,r,o,e}:=I.nG p;d:its.toArray.size * k.toNat<=sizeLine:=(do[zk,<-o];hz);c:¬its.toArray.size * k.toNat>(2 ^ 63 - 1) / 8:=(do this:(sizeLine:Nat)<=(2 ^ 63 - 1) / 8:=⋯;());f:¬(not (Builtin.List.listFitsIndex k))=true:=(do[fitsIndex_both h1 h2];qx);b:¬Builtin.List.listTooLong (its.toArray.size * k.toNat)=true:=(do[IE d];qx);g:List.foldl (λi j=>i++j) #[] (List.replicate (if its.toArray.isEmpty=true then 0 else k.toNat) its.toArray)=(List.replicate k.toNat its).flatten.toArray:=(do B:∀m:Nat,List.foldl (λi j=>i++j) #[] (List.replicate m its.toArray)=(List.replicate m its).flatten.toArray:=λm=>(do this:=MJ its m [];this<-[we];this);[B];(by cases its with|nil|cons a C=>?_);0;[qB (do 0)]);wpAny_binaryOp_repeat_ref (T:="list") (U:="int") ⋯ {_,e,O} (λs'=>typeIs_int s' k t) noFill_list_mul F.fills_int_mul F.slot_int_rmul repeat_list F.slot_int_index.lookup (call_meets F.slot_int_rmul (typeIs_int s k t) F.entry_int_rmul (F.args_int_rmul_2 _ _) (int___rmul___int_list k t l its.toArray n) {e,O,{_,e,O},call_meets F.slot_list_mul {_,e,O} F.entry_list_mul (F.args_list_mul_2 _ _) (AutoListH.list___mul___list_int_3 l its.toArray n k t f c b) {e,?_}});[g];{.ref _,_,I.JG (t':=s.toks) (r.rep k.toNat) (do[SV,Nat.mul_comm];hz),O,q _ I.fresh}
end
section
variable {κ:Type}[DecidableEq κ]
def bJ(kvs:List (κ×V))(k:κ):Option V:=(kvs.find? λa=>decide (a.1=k)).map (·.2)
def putK(kvs:List (κ×V))(k:κ)(v:V):List (κ×V) := if(kvs.any λa=>decide (a.1=k))=true then kvs.map (λa=>if a.1=k then(a.1,v) else a) else kvs++[(k,v)]
def f7{k:κ}(e:p.1=k):bJ (p::r) k=!p.2:=do#[bJ,List.find?_cons,e]
def fO{k:κ}(e:¬p.1=k):bJ (p::r) k=bJ r k:=do#[bJ,List.find?_cons,e]
theorem nO(k:κ):∀kvs:List (κ×V),(kvs.any λa=>decide (a.1=k))=(bJ kvs k).isSome|[]=>rfl|p::r=>do[jt];e<|p.1=k;#[_,f7 e,decide_eq_true e,Bool.true_or,Option.isSome_some];[fO e,decide_eq_false e,Bool.false_or];nO k r
theorem K'(k j:κ)(y:V):∀kvs:List (κ×V),bJ (kvs.map λa=>if a.1=k then(a.1,y) else a) j=(bJ kvs j).map λx=>if j=k then y else x|[]=>rfl|p::r=>do b:=K' k j y r;[zm];h<|p.1=k;[qE h];e<|p.1=j;[f7 (p:=(p.1,y)) e,f7 e,ju,qE (e.symm.trans h)];[fO (p:=(p.1,y)) e,fO e,b];[qB h];e<|p.1=j;[f7 (p:=p) e,f7 e,ju,qB (λz=>h (e.trans z))];[fO (p:=p) e,fO e,b]
theorem JE(k j:κ)(y:V):∀kvs:List (κ×V),bJ kvs k=none->bJ (kvs++[(k,y)]) j=if j=k then some y else bJ kvs j|[],_=>(do e<|k=j;[qE e.symm];f7 (p:=(k,y)) e;[qB (λz=>e z.symm)];fO (p:=(k,y)) e)|p::r,hn=>do[List.cons_append];a:¬p.1=k:=λz=>(do hn<-[f7 z];-hn);hn<-[fO a];b:=JE k j y r hn;e<|p.1=j;[f7 e,f7 e,qB (λz=>a (e.trans z))];[fO e,fO e,b]
def Qj(kvs:List (κ×V))(k j:κ)(y:V):bJ (putK kvs k y) j=if j=k then some y else bJ kvs j:=do@putK;a<|(kvs.any λb=>decide (b.1=k))=true;[qE a,K'];a<-[nO];e<|j=k;{x,c}:=kx.mp a;[qE e,e,c,ju,qE rfl];[qB e];(by cases bJ kvs j with|none|some x=>?_);2;[ju,qB e];[qB a];JE k j y kvs ?_;a<-[nO];(by cases q:bJ kvs k with|none|some x=>?_);2;a<-[q];(a rfl).elim
def C_(kvs:List (κ×V))(k:κ)(v:V):(putK kvs k v).length<=kvs.length+1:=do@putK;3;[qh];();[qg,zf,jb];()
def Fn{k:κ}(v:V)(h:bJ kvs k=none):putK kvs k v=kvs++[(k,v)]:=do@putK;[nO,h];qB ⋯
def fB.fW(r:fB o u):o.isSome=u.isSome:=do(by cases o with|none|some _=>?_;cases u with|none|some _=>?_);2;(show False from r).elim;(by cases u with|none|some _=>?_);(show False from r).elim;2
def KV.val(r:KV kvs vs)(k:κ):fB (bJ kvs k) (valueAt vs k):=do(by unfold KV at r;induction r with|nil|@cons p q ps a h t d=>?_);True.intro;{h1,h2}:=h;e<|p.1=k;c:q.1=k:=h1.symm.trans e;b:valueAt (q::a) k=!q.2:=(do#[valueAt,List.find?_cons,c]);[f7 e,b];h2;c:¬q.1=k:=λz=>e (h1.trans z);b:valueAt (q::a) k=valueAt a k:=(do#[valueAt,List.find?_cons,c]);[fO e,b];d
theorem KV.any(r:KV kvs vs)(k:κ):(kvs.any λa=>decide (a.1=k))=vs.any λa=>decide (a.1=k):=by unfold KV at r;induction r with|nil|cons h t b=>?_;rfl;rw[jt,jt,b,h.1]
def KV.Cv(r:KV kvs vs)(k:κ)(b:RelV y u) : KV (kvs.map λa=>if a.1=k then(a.1,y) else a) (vs.map λa=>if a.1=k then(a.1,u) else a):=do(by unfold KV at r ⊢;induction r with|nil|@cons p q ps d h t c=>?_);.nil;[zm,zm];.cons ?_ c;{h1,h2}:=h;e<|p.1=k;[qE e,qE (h1.symm.trans e)];{h1,b};[qB e,qB (λz=>e (h1.trans z))];{h1,h2}
def KV.put(r:KV kvs vs)(k:κ)(a:RelV y u):KV (putK kvs k y) (stored vs k u):=do(by unfold putK stored);[r.any k];e<|(vs.any λb=>decide (b.1=k))=true;[qE e,qE e];r.Cv k a;[qB e,qB e];Paired.snoc r {O,a}
theorem KV.length{kvs:List (κ×V)}{vs:List (κ×MD)}(r:KV kvs vs):kvs.length=vs.length:=Paired.length r
end
def pC{k:Key}(r:RelV (kV k) u):(ai P w).is k u=true:=do(by cases k with|inl i|inr x=>?_);{t,e}:=(show ∃t,u=Value.int i t from r);!e;Qx P w i t;{t,e}:=(show ∃t,u=Value.str x t from r);!e;QH P w x t
theorem Kb:∀{ks:List Key} {us:List MD},aK (ks.map kV) us->ItemsAre 74 ks us|[],_,r=>(do r<-[gh];-r;.nil)|k::ks,_,r=>do r<-[zm];(by cases r with|cons h t=>?_);.cons (pC h) (Kb t)
abbrev KT(H:Hp):List (List Key×V)->List (List Key×UJ×MD)->Prop:=Paired λp q=>p.1=q.1/\H q.2.1=!(.tup (p.1.map kV))/\RelV p.2 q.2.2
def KT.val(r:KT H kvs xs)(k:List Key):fB (bJ kvs k) ((atKey xs k).map (·.2)):=do(by induction r with|nil|@cons p q ps a h t d=>?_);True.intro;{h1,_,h2}:=h;e<|p.1=k;c:q.1=k:=h1.symm.trans e;b:atKey (q::a) k=!q.2:=(do#[atKey,List.find?_cons,c]);[f7 e,b];h2;c:¬q.1=k:=λz=>e (h1.trans z);b:atKey (q::a) k=atKey a k:=(do#[atKey,List.find?_cons,c]);[fO e,b];d
def KT.Cv(r:KT H kvs xs)(k:List Key)(d:RelV y u) : KT H (kvs.map λa=>if a.1=k then(a.1,y) else a) (xs.map (putAt k u)):=do(by induction r with|nil|@cons p q ps f h t b=>?_);.nil;[zm,zm];.cons ?_ b;{h1,h2,c}:=h;@putAt;e<|p.1=k;[qE e,qE (h1.symm.trans e)];{h1,h2,d};[qB e,qB (λz=>e (h1.trans z))];{h1,h2,c}
def KT.put(r:KT H kvs xs)(k:List Key)(c:H b=!(.tup (k.map kV)))(a:RelV y u) : KT H (putK kvs k y) (storedH xs k b u):=do e:(kvs.any λd=>decide (d.1=k))=(atKey xs k).isSome:=(do[nO,(r.val k).fW,Option.isSome_map]);(by unfold putK storedH);[e];q<|(atKey xs k).isSome=true;[qE q,qE q];r.Cv k a;[qB q,qB q];Paired.snoc r {O,c,a}
def KT.keeps(r:KT H kvs xs)(a:∀b ys,H b=!(.tup ys)->H' b=!(.tup ys)):KT H' kvs xs := Paired.mN r λ_ _ z=>{z.1,a _ _ z.2.1,z.2.2}
section
variable {P:Program}{w:World}{H:Hp}{h:Heap}{a:UJ}
def A4(ok:df P w H h)(e:Rd H a u):a0 P w H h a u:=e.ok ok
def oY(ok:df P w H h)(e:Rd H a (.dK kvs)):kvs.length<=sizeLine/\(a==sysModules)=false/\∃vs,KV kvs vs/\h.DictOf 74 a vs := show a0 P w H h a (.dK kvs) from A4 ok e
def Aa(ok:df P w H h)(e:H a=!(.dK kvs)):kvs.length<=sizeLine/\(a==sysModules)=false/\∃vs,KV kvs vs/\h.DictOf 74 a vs:=oY ok (.inl e)
def rA(ok:df P w H h)(e:H a=!(.tup (ks.map kV))):(tupleKind 74).is h ks a:=do _;{_,its,r,o,h1,h2,n,b}:=(show a0 P w H h a (.tup (ks.map kV)) from ok a _ e);{o,its.toArray,n,h1,h2,b,do 0<|Kb r}
def vJ(ok:df P w H h)(e:Rd H a (.dT kvs)):kvs.length<=sizeLine/\(a==sysModules)=false ∧ ∃xs,KT H kvs xs/\h.DictOfH (tupleKind 74) a xs:=do _;{z,y,xs,r,o,es,ep,h1,h2,f,i,d}:=(show a0 P w H h a (.dT kvs) from A4 ok e);{z,y,xs,r,o,es,ep,h1,h2,f,i,λx b=>?_,d};all:∀{l:List (List Key×V)} {m:List (List Key×UJ×MD)},KT H l m->∀x∈m,(tupleKind 74).is h x.1 x.2.1:=(do(l,m,q);(by induction q with|nil|@cons p q ps j c t g=>?_);(x,b);nomatch b;(x,b);e||b:=qt.mp b;!e;rA ok (do[<-c.1];c.2.1);g x b);all r x b
def Ml(ok:df P w H h)(e:H a=!(.dT kvs)):kvs.length<=sizeLine/\(a==sysModules)=false ∧ ∃xs,KT H kvs xs/\h.DictOfH (tupleKind 74) a xs:=vJ ok (.inl e)
end
def xG(H:Hp)(a:UJ)(y:V)(r:Option V):Prop := (∃kvs k,Rd H a (.dK kvs)/\y=kV k/\r=bJ kvs k)\/∃kvs k b,Rd H a (.dT kvs)/\y=.ref b/\H b=!(.tup (k.map kV))/\r=bJ kvs k
def lP(H:Hp)(a:UJ)(y v:V)(H':Hp):Prop := (∃kvs k,H a=!(.dK kvs)/\y=kV k/\kvs.length<sizeLine/\H'=upd H a (.dK (putK kvs k v))) ∨ ∃kvs k b,H a=!(.dT kvs)/\y=.ref b/\H b=!(.tup (k.map kV))/\kvs.length<sizeLine/\H'=upd H a (.dT (putK kvs k v))
theorem lP.k{k:Key}(e:H a=!(.dK kvs))(b:kvs.length<sizeLine):lP H a (kV k) v (upd H a (.dK (putK kvs k v))):=.inl {kvs,k,e,O,b,O}
section
variable {X:Cx}{pins:List 71}{σ:St}{H:Hp}{s:UH}{a:UJ}{y v:V}{u r:MD}{o:Option V}{A:Around}{E:KE}
def Inv.mZ(I:Inv X pins σ H s):sysModules<↑s:=do h:mainGlobals<↑s:=(I.mod.glob.keeps I.bk).lt;yy ⋯ h
def Rp(x:A.units+1<cLine)(I:Inv X pins σ H s)(g:xG H a y (!v))(q:RelV y u)(h:∀f s',Inv X pins σ H s'->RelV v f->Q f s') : wpAny 37 A (getItem (.ref a) u) Q E s:=do _;{kvs,k,e,i,l}||{kvs,k,b,e,i,r,l}:=g;!i;{z,t,vs,d,j}:=oY I.a9 e;{f,m,c}:=fB.some_of (v:=v) (o:=valueAt vs k) (do[l];d.val k);wpAny_getItem_of (pC q) j.mapOf m (h f _ (I.tok _) c);!i;-((show u=Value.ref b from q));{z,t,xs,d,j}:=vJ I.a9 e;{f,m,c}:=fB.some_of (v:=v) (o:=(atKey xs k).map (·.2)) (do[l];d.val k);{p,hp,n}:=wu.mp m;wpAny_getItem_heap (tupleKind_room_in1 x) (rA I.a9 r) j hp ?_;[n];h f _ (I.tok _) c
def qU(I:Inv X pins σ H s)(f:JJ (H a))(d:Heap.SameBut a s.heap h')(g:∃q,h'.get? a=!q)(new:a0 X.prog X.w (upd H a ob) h' a ob) : Inv X pins σ (upd H a ob) {s with heap:=h',toks:=t'} := I.write (x:=a) (e:=a) f (.inl rfl) (λb q c z=>(d.2 b c).trans z) g new
def Kh(z:kvs.length<=sizeLine)(d:(a==sysModules)=false)(b:KV kvs vs)(c:h'.DictOf 74 a vs) : a0 P w H' h' a (.dK kvs):={z,d,vs,b,c}
def NZ(L:A.units+1<cLine)(I:Inv X pins σ H s)(g:lP H a y v H')(D:RelV y u)(x:RelV v r)(h:∀s',Inv X pins σ H' s'->Q Unit.unit s') : wpAny 37 A (setItem (.ref a) u r) Q E s:=do _;{kvs,k,e,m,l,t}||{kvs,k,b,e,m,C,l,t}:=g;(by subst m t);{z,o,vs,d,n}:=Aa I.a9 e;hz:vs.length<=sizeLine:=(do[<-d.length];z);j:(putK kvs k v).length<=sizeLine:=(do this:=C_ kvs k v;());wpAny_setItem_pairs (hsz:=hz) (pC D) n λh' f p=>h _ ?_;F:∃q,h'.get? a=!q:=let⟨q,_,_,i,_⟩:=f;{q,i};qU I (do[e];True.intro) p F (Kh j o (d.put k x) f);(by subst m t);-((show u=Value.ref b from D));{z,o,xs,d,n}:=Ml I.a9 e;hz:xs.length<=sizeLine:=(do[<-Paired.length d];z);j:(putK kvs k v).length<=sizeLine:=(do this:=C_ kvs k v;());wpAny_setItem_heap (hsz:=hz) (tupleKind_room_in1 L) (rA I.a9 C) n λh' f p=>h _ ?_;{q,es,ep,i,h2,J,K,_,G}:=f;qU I (do[e];True.intro) p {q,i} {j,o,_,(d.put k C x).keeps λc ys B=>?_,q,es,ep,i,h2,J,K,G};[az (oK B e (λz=>nomatch z))];B
end
def Ei(i:Expr):Prop:=∀b a,subscripted i false b a=operate [b,a] (getItem b a)
def Lp{prog:Program}{w:World}{A:Around}{E:KE}{s:UH}{env:Env}{value a:Expr}{pos:Pos}{T id:String}{Q:KE}(k:typeLookup (.type T) "__getitem__"=pure (!(.builtin id)))(l:Ei a)(h:wpAny 66 A (eval value env) (λo d=>wpAny 66 A (eval a env) (λi b=>b.TypeIs o T/\wpAny 66 A (getItem o i) Q E b) E d) E s) : wpAny 66 A (eval (.Subscript value a pos) env) Q E s:=do Subscript_ (qM h (λo d h₁=>qM h₁ (λi b c=>?_) λ_ _ x=>x) λ_ _ x=>x);{j,c}:=c;@subscriptTail;qA ?_;[getitemInPython_of_ne j.not_modules];qA (wpAny_specialOf j k ?_);f:wpAny 66 A (subscripted a false o i) (λr e=>wpAny 66 A (letTemporaryGo value o r >>= λ_=>pure r) Q E e) E b:=(do[l o i];wpAny_operating (qM c (λr e g=>qA (wpAny_letTemporaryGo (qF g))) λ_ _ x=>x));by first|exact qF (qA f)|exact qA (qF (qA f))|exact qA f
def Qg{X:Cx}{pins:List 71}{σ:St}{H:Hp}{s:UH}{a:UJ}{y:V}{o:Option V}(I:Inv X pins σ H s)(g:xG H a y o):s.TypeIs (.ref a) "dict":=do _;{kvs,k,e,_,_}||{kvs,k,b,e,_,_,_}:=g;{_,_,vs,_,c}:=oY I.a9 e;c.typeIs;{_,_,xs,_,c}:=vJ I.a9 e;c.typeIs
inductive Dp(Q:VK)(x y:V)(H2:Hp):Prop
 |mk(a v:_)(_:x=.ref a)(_:xG H2 a y (!v))(_:Q v H2)
def JD(td ty:TE):TE:=λσ H Q=>td σ H λx H1=>ty σ H1 λy H2=>Dp Q x y H2
inductive Di(D:Ends)(σ:St)(v x y:V)(H3:Hp):Prop
 |mk(a H4:_)(_:x=.ref a)(_:lP H3 a y v H4)(_:D.nx σ H4)
def Ma(td ty tv:TE):TS:=λD σ H=>tv σ H λv H1=>td σ H1 λx H2=>ty σ H2 λy a=>Di D σ v x y a
section
variable {X:Cx}{o i e value:Expr}{pos pos' tpos:Pos}{td ty tv:TE}
def cL(p:X.A.units+1<cLine)(q:PE X o td)(hi:PE X i ty)(n:Ei i):PE X (.Subscript o i pos) (JD td ty):=do _;{?_};(pins,s,σ,H,Q,I,h);Lp PySem.F.slot_dict_getitem.lookup n (bL (q pins s σ H _ I h) λu e ⟨x,H1,d,j,m⟩=>bL (hi pins e σ H1 _ d m) λw s2 ⟨y,H2,c,k,a,v,ex,g,l⟩=>?_);!ex;(by obtain rfl:u=Value.ref a:=j);{Qg c g,Rp p c g k λr t f b=>{v,H2,f,b,l}}
def pZ(B:X.A.units+1<cLine)(c:PE X o td)(hi:PE X i ty)(d:PE X value tv)(z:swapsWith value (!(.Subscript o i pos')) pos.line X.env=pure false) : PS X (.Assign [.Subscript o i pos'] value pos) (Ma td ty tv):=do _;{?_};(pins,s,σ,H,D,I,h);wpAny_Assign_Subscript (bL (d pins s σ H _ I h) λr n ⟨v,H1,w,p,q⟩=>bL (c pins n σ H1 _ w q) λu s2 ⟨x,H2,j,b,l⟩=>bL (hi pins s2 σ H2 _ j l) λE G ⟨y,F,f,k,a,e,ex,g,t⟩=>?_) z;!ex;(by obtain rfl:u=Value.ref a:=b);NZ B f g k p λC m=>{σ,e,m,t}
end
def S1(h:Heap)(a:sysModules<h.objs.size):a0 P w H (h.push {cls:=.type "dict",data:=.dict #[]}) h.objs.size (.dK []) := {q0 _,beq_eq_false_iff_ne.mpr (Ne.symm (qp a)),[],.nil,Heap.DictOf.new h}
def Dy:TE:=λ_ H Q=>∀p,H p=none->Q (.ref p) (upd H p (.dK []))
section
variable {X:Cx}{pos:Pos}
def Sz:PE X (.Dict [] [] pos) Dy:={λpins s σ H Q I h => wpAny_Dict_empty {.ref ↑s,_,I.laid (a:=↑s) (o:=.dK []) (t':=s.toks) (λ_ _ q=>qI _ q) (qb _) (S1 s.heap I.mZ),O,h _ (I.a9.fresh (qb _))}}
end
end L2
namespace Att
open PySem PySem.W PySem.Calls PyProof.Rows
def QN:∀(ns:List Int) (vs:List MD),WellAll P h vs (ns.map WData.int)->IntsAre vs ns:=do(ns);(by induction ns with|nil|cons n ns c=>?_);(vs,w);w<-[gh];-w;.nil;(vs,w);w<-[zm];(by cases w with|cons a b=>?_);-a;.cons _ _ (c _ b)
def SY{l:OpenLaw}{n:Nat}(hn:l.most=!n){P:Params}{h:Heap}{args:List WData}{c:List MD}(b:l.row.toRowW.claim.pre args=true)(j:WellAll P h c args) : ∃a vs ns,c=[Value.ref a]/\args=[WData.list (ns.map WData.int)]/\h.get? a=some {cls:=.type "list",data:=.seq vs.toArray}/\IntsAre vs ns/\ns.length<=n:=do k:WShape.hasAll [] args [.list .int]=true:=(pre_splitW b).1;m:l.pre.holds [] {args:=args}=true:=(pre_splitW b).2;{d,r,rfl,h1,h2}:=hasAllW_cons k;(by obtain rfl:=hasAllW_nil h2);{xs,rfl,o}:=hasW_list h1;{ns,rfl}:=items_int o;f:ns.length<=n:=(do(by unfold OpenLaw.pre at m);i:(WTm.not (.lt (.lit (.int (n:Int))) (.len (.arg 0)))).holds [] {args:=[.list (ns.map .int)]}=true:=(do i:=(holds_andW m).1;i<-[hn];i);g:=condW_of i (w_not (w_lt w_lit (w_len_list (w_arg rfl))));g<-[qh];Nat.le_of_not_lt λq=>?_;t:(n:Int)<((ns.length:Nat):Int):=();by first|rw[qH t]at g;exact absurd g ⋯|simp at g;omega);(by cases j with|cons p s=>?_);-s;(by cases p with|list u e=>?_);{_,_,ns,O,O,u,QN ns _ e,f}
def Ti(l:OpenLaw)(args:List WData):l.row.toRowW.claim.post args (.bool true) args=true := postW_of (r:=l.row.toRowW) (X:=(true==true)) (show WShape.has [] (.bool true) .bool=true by first|rfl|decide|simp[WShape.has,WShape.arms,WShape.armsAll]) (show(WTm.eq .res (.lit (.bool true))).value [] {args:=args,res:=!(.bool true),after:=args}=some (.bool (true==true)) from w_eq_bool (w_res rfl) w_lit) rfl
def lJ{l:OpenLaw}{n:Nat}{q:Program}{c:List UK}{y:(UK->Option MD)->Heap->Prop}{v:World->Heap->Prop}{d:DefRec}(hn:l.most=!n)(m:d.params.defaults=[])(call:∀(w:World) (s₀ b:UH) (mg u:UK->Option MD) (fa:UJ) (o:Obj) (t cd e:MD) (a:UJ) (vs:List MD) (ns:List Int),Ground q c [] y w s₀ mg u b.heap->v w b.heap-> b.heap.get? fa=!o->o.data=.func (docDef d.name d.params d.body d.scope t cd e)->b.heap.CodeRec cd d.name->mg d.name=some (.ref fa)-> b.heap.get? a=some {cls:=.type "list",data:=.seq vs.toArray}->IntsAre vs ns->ns.length<=n->b.gens=#[]-> codeAny (model l.prog w) callerA (.call (.ref fa) {[.ref a],[]}) (λr s'=>r=.ok (.ret (.bool true))/\OldK b.heap s'.heap/\s'.os=b.os/\AllBare s'.gens) b) : WalkO q c y v l.row.toRowW d [] (λf vs=>PySem.call f vs):=do(w,s₀,b,mg,u,G,Y,fa,o,t,cd,e,I,kV,C,E,s,B,k,hg,A,z,M,i,x,K,p,J);(by obtain rfl:I=.none:=Dflts.none B m;obtain rfl:kV=.none:=Dflts.noKw B);{a,vs,ns,rfl,rfl,h,g,j}:=SY hn i p;enter_call (codeAny_mono (call w s₀ b mg u fa o t cd e a vs ns G Y C (fd_plain E) s k h g j hg) λr s' F=>?_);{rfl,h2,D,L}:=F;{.inl {.bool true,.bool true,[],O,λ_=>rfl,.bool true,Ti l _,λ_=>{List.Pairwise.nil,λ_ H=>(nomatch H)}},h2,D,L}
end Att
namespace L2
open PySem PySem.Spec PyProof.Rows
theorem Mr:∀{vs:List MD} {ns:List Int},IntsAre vs ns->aK (ns.map V.int) vs|_,_,.nil=>.nil|_,_,.cons n t h=>.cons {t,O} (Mr h)
def cc(s:Stmt):Arguments:=match s with|.FunctionDef _ a _ _ _ _ _ _ _ _=>a|_=>{posonlyargs:=[],args:=[],vararg:=none,kwonlyargs:=[],kw_defaults:=[],kwarg:=none,defaults:=[]}
def bK(s:Stmt):List Stmt:=match s with|.FunctionDef _ _ b _ _ _ _ _ _ _=>b|_=>[]
def ah(s:Stmt):Scope:=match s with|.FunctionDef _ _ _ _ _ _ sc _ _ _=>sc|_=>{kind:=.function,names:=[],isGenerator:=false,isCoroutine:=false}
abbrev i8:vY:=λ_ _ _ _ _ _=>False
abbrev E0:XK:=λ_ _ _=>False
def Hc:og i8 X E0:=λ_ _ _ _ _ _ _ h=>h.elim
structure D5(K:PySem.W.Frag)(x qual:UK)(st:Stmt)(f:UJ)(fd:FuncData):Prop where
 ex:∃(oc:MD) (od:Option UJ) (kV doc pm:MD) (an:Option UJ) (cdv ct:MD) (osl:Array (Option MD)),
  fd=PySem.W.fnOf x qual (cc st) (bK st) (ah st) .none kV doc pm an cdv ct/\K.lookup f=some {oc,od,.func fd,osl}/\PySem.W.codeIn K cdv qual=true
 kp:PySem.W.keepIn K (.ref f)=true
section
variable {P:Program}{w:World}{K:PySem.W.Frag}{mg:UK->Option MD}{base:Heap}
def D5.ok{x qual:UK}{st:Stmt}{f:UJ}{fd:FuncData}{N ps:List UK}{k:Nat}{sp:Sp}(F:D5 K x qual st f fd)(S:aA N ps (ah st))(len:∀vs H Q E,sp vs H Q E->vs.length=ps.length)(b:∀(a:MD) (A:Around) (outer:List Env) (s:UH) (H:Hp) (vs:List V) (Q:VK) (E:XK),bI k (A.deeper (envOfC qual (ah st) ↑s f a))->sp vs H Q E-> ∃t,jD (lD i8 P w K mg base N qual (ah st) f a A outer s H E).yM (bK st) t/\t {nx:=λ_ H'=>Q .aV H',rt:=Q} (start N vs) H):h9 P w K mg base i8 (k+1) f fd ps sp:=do _;{n,od,kV,j,m,o,a,l,e,rfl,i,c}:=F.ex;sL i c S len λA outer s H vs Q E g d=>?_;{t,h,q}:=b a A outer s H vs Q E g d;{t,h.yM,q}
def D5.binds{x qual:UK}{st:Stmt}{f:UJ}{fd:FuncData}{ps:List UK}(F:D5 K x qual st f fd)(h:∀{kV b d:MD}{e:Option UJ}{a c:MD}(us:List MD),us.length=ps.length->bindArgs (PySem.W.fnOf x qual (cc st) (bK st) (ah st) .none kV b d e a c) {us,[]}=pure (ps.zip us)):Binds K fd ps []:=do _;{j,od,kV,b,d,e,a,c,g,rfl,k,i}:=F.ex;.all h
def Hi{x qual:UK}{st:Stmt}{f:UJ}{i:MD}{od h:Option UJ}{d:Array (Option MD)}{kV b g a e:MD}(l:K.lookup f=some {i,od,.func (PySem.W.fnOf x qual (cc st) (bK st) (ah st) .none kV b g h a e),d})(c:PySem.W.codeIn K a qual=true)(k:PySem.W.keepIn K (.ref f)=true):D5 K x qual st f (PySem.W.fnOf x qual (cc st) (bK st) (ah st) .none kV b g h a e):={⟨i,od,kV,b,g,h,a,e,d,O,l,c⟩,k}
end
def cS{k:Nat}(a:bI k A):A.units+1<cLine:=jv (Nat.add_le_add_left (by decide:1<=64) _) a.units
def cH(h:n<=1000):n<sizeLine:=jv h ⋯
section
variable {X:Cx}
def pv(i:Nat)(b:X.N[i]?=!x:=by rfl)(d:Ny X.env.scope x:=by first|exact Or.inl rfl|exact Or.inr (Or.inl rfl)|exact Or.inr (Or.inr rfl))(c:(x==("__debug__":UK))=false:=by decide)(a:(x==("__classdict__":UK))=false:=by decide):PE X (.Name x pos) (tR i):=FA b d c a
end
def eA{A B:Prop}(h:A):if true=true then A else B:=do[qE rfl];h
def ag(H H':Hp):Prop:=∀b o,H b=!o->H' b=!o
def ag.refl(H:Hp):ag H H:=λ_ _ h=>h
def ag.trans(a:ag H H1)(b:ag H1 H2):ag H H2:=λc o h=>b c o (a c o h)
def ag.free(e:ag H H')(h:H' l=Option.none):H l=Option.none:=do(by cases q:H l with|none|some o=>?_);2;h<-[e l o q];-h
section
variable {κ:Type}[DecidableEq κ]
def P0{k:κ}(h:bJ kvs k=!v):k∈kvs.map (·.1):=do q:(kvs.any λa=>decide (a.1=k))=true:=(by rw[nO,h];all_goals rfl);{p,hp,e}:=yr.mp q;qc.mpr {p,hp,qN e}
end
section
variable {prog:Program}{w:World}{A:Around}{R:Result->UH->Prop}{s:UH}
def Of{ce:Env}(J:Nat->UH->Prop)(turn:∀n s,J n s->wpAny 66 A (pyNext it) (λr e=>match r with|none=>R (.ok .next) e|some v=>wpAny 66 A (letOwnedTupleGo tg it v) (λ_ s2=>wpAny 66 A (assign tg ce v) (λ_ i => wpAny 66 A (forIn b true λc r=>if r=true then do{let ok <-isTrue c ce (eval c ce);pure (ForInStep.yield ok)}else pure (ForInStep.yield r)) (λok g => if ok=true then wpAny 66 A (eval d ce) (λx k=>wpAny 66 A (call (.builtin "list.append") [acc,x]) (λ_ o=>∃m,m<n/\J m o) (λ_ _=>False) k) (λ_ _=>False) g else ∃m,m<n/\J m g) (λ_ _=>False) i) (λ_ _=>False) s2) (λ_ _=>False) e) (λ_ _=>False) s)(n:Nat)(h:J n s):codeAny 66 A (.compLoop (.ListComp d [{tg,a,b,0}] j pos) 0 it acc ce) R s:=do codeAny_loop rfl J (λn s p=>?_) n h;¬wpAny _ A ((compTurn (.ListComp d [{tg,a,b,0}] j pos) 0 it acc ce).onRaise (λx=>do{noteFrame x ce;theTreesLotGoes x})) _ _ s;wpAny_noted ?_;[compTurn_list];qA (wpAny_standAt (qA (qM (turn n s p) (λr e h1=>?_) λ_ _ f=>f.elim)));(by cases r with|none|some v=>?_);qF h1;qA (qM h1 (λ_ s2 h2=>?_) λ_ _ f=>f.elim);qA (qM h2 (λ_ i t=>?_) λ_ _ f=>f.elim);qA (qM t (λok g l=>?_) λ_ _ f=>f.elim);(by cases ok with|false|true=>?_);qF {O,l};qA (qA (qM l (λx k q=>?_) λ_ _ f=>f.elim));qA (qM q (λ_ o u=>qF (qF {O,u})) λ_ _ f=>f.elim)
end
def bB(X:Cx)(N:List UK)(b:Scope)(cl:List (UK×UJ))(s:UH)(H:Hp)(a:List UJ):Cx where
 prog:=X.prog
 w:=X.w
 K:=X.K
 mg:=X.mg
 base:=X.base
 A:=X.A
 N:=N
 s₀:=s
 H₀:=H
 env:=compEnvC b cl (↑s+1) X.env
 outer:=X.stack
 stack:=X.stack
 ex:=a
 fn:=λ_=>false
 calm:=X.calm
 pn:=[]
 xe:=λ_ _=>False
def cO(own:List UK)(fr:List (UK×Nat))(σ:St):St:=own.map (λ_=>none)++fr.map λp=>(σ[p.2]?).join
def fL(σ σ':St):Prop:=σ.length=σ'.length/\∀(i:Nat) v,σ[i]?=!(!v)->σ'[i]?=!(!v)
def jJ(g:TG)(σ:St):Prop:=∀x H (Q:St->Hp->Prop),g x σ H Q->g x σ H λσ' H'=>fL σ σ'/\Q σ' H'
theorem fL.set(h:σ[i]?=!none)(v:V):fL σ (σ.set i (!v)):=do _;{do 0,λj u e=>?_};a<|i=j;!a;e<-[h];-e;[jf a];e
def q_(h:σ[i]?=!none):jJ (cQ i) σ:=λx H Q q=>{fL.set h x,q}
def p7(hi:σ[i]?=!none)(f:σ[j]?=!none)(b:i≠j):jJ (wH n (jP (cQ i) (jP (cQ j) CF))) σ:=do(x,H,Q,q);{a,xs,l,g,h,v,r,c,w,o,d,m,q}:=q;{a,xs,l,g,h,v,r,c,w,o,d,m,?_,q};h1:=fL.set hi v;h2:=fL.set (σ:=σ.set i (!v)) (i:=j) (do[jf b];f) w;{h1.1.trans h2.1,λk u e=>h2.2 k u (h1.2 k u e)}
def Kc(X:Cx)(a:List Expr)(t:TT):Prop := ∀(pins:List 71) (s:UH) (σ:St) (H:Hp) (Q:Bool->Hp->Prop),Inv X pins σ H s->t σ H Q-> wpAny 37 X.A (forIn a true λc r=>if r=true then do{let ok <-isTrue c X.env (eval c X.env);pure (ForInStep.yield ok)}else pure (ForInStep.yield r)) (TP X pins σ Q) X.xe s
structure yF(X:Cx)(ifs:List Expr)(t:TT):Prop where run:Kc X ifs t
instance TX{X:Cx}{a:List Expr}{t:TT}:CoeFun (yF X a t) λ_=>Kc X a t:={yF.run}
def ee:yF X [] (λ_ H Q=>Q true H):={λ_ _ _ H _ I h=>wpAny_tests_nil {H,I,h}}
def dJ(h:PT X c t):yF X [c] t:={λpins s σ H Q I q=>wpAny_tests_one (h pins s σ H Q I q)}
def Im(own:List UK)(fr:List (UK×Nat))(g:TG)(tt:TT)(te:TE)(σ:St)(Q:VK)(J:It)(H1:Hp):Prop:=∃W:Nat->Nat->List V->Hp->Prop,(∃m,W 0 m [] H1)/\∀i m ys H,W i m ys H-> (J.stop i H/\∀p,H p=none->Q (.ref p) (upd H p (.lst ys)))\/(J.go i H/\ys.length<sizeLine/\∀x H',J.zF i H x H'->g x (cO own fr σ) H' λc H2=>tt c H2 λb d => if b=true then te c d λy e=>∃a,a<m/\W (i+1) a (ys++[y]) e else ∃a,a<m/\W (i+1) a ys d)
def NT(own:List UK)(fr:List (UK×Nat))(a:TI)(g:TG)(tt:TT)(te:TE):TE:=λσ H Q=>a σ H λJ H1=>Im own fr g tt te σ Q J H1
abbrev bT(us:List MD):Obj:={cls:=.type "list",data:=.seq us.toArray us.length}
def N'(us:List MD)(u:MD):({cls:=.type "list",data:=.seq (us.toArray.push u) (us.length+1)}:Obj)=bT (us++[u]):=do@bT;[qg,qr,List.push_toArray]
structure lN(X:Cx)(sc:Scope)(cl:List (UK×UJ))(fr:List (UK×Nat)):Prop where
 yd:closureFor sc X.env=pure cl
 sub:∀x c,cl.lookup x=!c->X.env.cells.lookup x=!c
 has:∀x,((relabel sc X.env).names.lookup x=some .cell\/(relabel sc X.env).names.lookup x=some .free)->∃c,cl.lookup x=!c
 Ob:∀p∈fr,X.N[p.2]?=!p.1/\X.env.kindOf p.1≠some .local/\Ny X.env.scope p.1/\((relabel sc X.env).names.lookup p.1=some .cell\/(relabel sc X.env).names.lookup p.1=some .free)
structure gE(sc:Scope):Prop where
 kind:sc.kind=.function
 cell:∀y∈sc.names,y.2≠.cell
 jB:∀y∈sc.names,y.2=.local->sc.names.lookup y.1=some .local
section
variable {X:Cx}
def Inv.iO{pins:List 71}{σ:St}{H:Hp}{s:UH}(I:Inv X pins σ H s){b:UJ}(h1:b≠X.env.locals)(h2:b∉X.fs):b∉d_ X.stack:=λz=>do e||e:=qt.mp (I.iF b z);h1 e;h2 e
def PM{own:List UK}{fr:List (UK×Nat)}{σ:St}{N:List UK}(c:N=own++fr.map (·.1)){i:Nat}{x:UK}{v:V}(h1:N[i]?=!x)(h2:(cO own fr σ)[i]?=!(!v)) : ∃p∈fr,p.1=x/\σ[p.2]?=!(!v):=do(by unfold cO at h2);!c;hi<|i<own.length;h2<-[List.getElem?_append_left (do 0<|hi),List.getElem?_map];h2<-[qe hi];-h2;h2<-[List.getElem?_append_right (do 0<|hi),List.length_map,List.getElem?_map];h1<-[List.getElem?_append_right (do 0<|hi),List.getElem?_map];(by cases e:fr[i - own.length]? with|none|some p=>?_);h1<-[e];-h1;(by rw[e]at h1 h2);{p,qu e,qJ h1,?_};a:(σ[p.2]?).join=!v:=qJ h2;(by cases b:σ[p.2]? with|none|some o=>?_);a<-[b];-a;a<-[b];[show o=some v from a]
def Inv.block{pins:List 71}{σ:St}{H:Hp}{s:UH}{own:List UK}{fr:List (UK×Nat)}{t:Scope}{cl:List (UK×UJ)}{q:List UJ}{h1:Heap}{m:UK->Option MD}{tk:Nat}(I:Inv X pins σ H s)(h:∀b∈q,fC X pins H b)(w:∀b∈q,b<↑s)(S:gE t)(C:lN X t cl fr)(old:∀b o,s.heap.get? b=!o->h1.get? b=!o)(hn:h1.Ns (↑s+1) m)(R:h1.get? ↑s=!(bT [])) : Inv (bB X (own++fr.map (·.1)) t cl s H q) [(↑s,bT [])] (cO own fr σ) H {s with heap:=h1,toks:=tk}:=do g:∀x c,cl.lookup x=!c->c<↑s:=λx c e=>(do _;{v,z}:=I.cell x c (C.sub x c e);z.lt);a:↑s<=↑s+1:=jw _;{{I.ok.mod,S.kind,I.ok.glob,I.ok.blt,a,λx y c B A=>I.ok.inj x y c (C.sub x c B) (C.sub y c A),λx T=>C.has x T,λ_ _ z=>(do-z),I.ok.hd,I.ok.frames,.inl rfl,λb d=>{?_,λx c e z=>?_},I.bs,qf I.ok.tH I.sz,λb o e d=>?_,λb d z=>?_,I.stack,I.o4},O,I.bare,Un.kept old,{m,hn,λi x v B A W=>?_},λx c e=>?_,I.a9.fresh a,λx c e=>I.dr x c (C.sub x c e),λp hp=>?_,I.a9.kept old,?_};qp (yt (w b d));(h b d).2.2.2.2.1 x c (C.sub x c e) z;z||z:=(h b d).2.2.2.1;I.ok.se b o e z;absurd (zh (qG e) (qf I.ok.tH z)) (wj _);I.iO (h b d).2.1 (h b d).2.2.1 z;{p,hp,rfl,L}:=PM rfl B A;{Q,U,G,F}:=C.Ob p hp;{V,J,P}:=I.loc;{u,r,l}:=P p.2 p.1 v Q L G;{u,r,.inr {F,?_}};{k,_}||{_,c,M,n,D,E}:=l;absurd k U;{N,f}:=C.has p.1 F;this:=C.sub p.1 N f;this<-[M];-this;{c,f,n,old _ _ D,E};{v,o,n,K}:=I.cell x c (C.sub x c e);{v,o,old _ _ n,K};j:p=(↑s,bT []):=(by simpa[bB] using hp);!j;{R,I.a9.fresh (qb _),?_,?_,λv z=>do-z};qp (yu _);I.iO (zo I.lt) (I.xn (qb _));¬(cO own fr σ).length=(own++fr.map (·.1)).length;@cO;[qg,qg,qh,qh,qh]
def df.iA(x:df P w H h)(hn:H a=none)(new:a0 P w (upd H a o) h a o):df P w (upd H a o) h:=λb u e=>do d<|b=a;!d;e<-[aF];-e;new;e<-[az d];(x b u e).cY (λc v _ q=>q) (λc q=>do[az (a_ q hn)];q) λc xs q=>do[az (a_ q hn)];q
def Inv.pK{pins:List 71}{σ:St}{H j:Hp}{s f:UH}{N:List UK}{x:St}{B:Scope}{cl:List (UK×UJ)}{p:List UJ}{h':Heap}{ys:List V}{us:List MD}(I:Inv X pins σ H s)(r:∀b∈p,fC X pins H b)(k:Inv (bB X N B cl s H p) [(↑s,bT us)] x j f)(A:aK ys us)(hz:ys.length<=sizeLine)(D:Heap.SameBut (↑s+1) f.heap h'):Inv X pins σ (upd j ↑s (.lst ys)) {f with heap:=h'}:=do _;{t,g,vR,_,_}:=k.pin (↑s,bT us) (List.mem_append_right _ (do 0));t:f.heap.get? ↑s=!(bT us):=t;g:j ↑s=none:=g;d:Un (d_ X.stack) p H j s.heap f.heap:=k.base;y:j (↑s+1)=none:=k.free;a:∀b o,s.heap.get? b=!o->b≠↑s+1:=λb o e=>qp (yt (qG e));m:∀b o,s.heap.get? b=!o->b≠↑s:=λb o e=>qp (qG e);h:∀b o,b≠↑s+1->f.heap.get? b=!o->h'.get? b=!o:=λb o i e=>D.extBut b o i e;I.iN (s':={f with heap:=h'}) (ch:=p) k.os {λb o e n h1 h2=>h b o (a b o e) (d.keep b o e n h1 h2),λb o e n h1 h2=>?_,λb o e n h2=>?_,λb o e h2=>?_,λb xs e=>?_,λb o u e=>?_,λb ps e=>?_,λb o xs e n=>h b o (a b o e) (d.dO b o xs e n)} ?_ k.bare λb i=>{(r b i).2.2.2.1,(r b i).2.1,(r b i).2.2.2.2.1,(r b i).2.2.2.2.2};{sl,q}:=d.slot b o e n h1 h2;{sl,h b _ (a b o e) q};[az (m b o e)];d.free b o e n h2;{o',q}:=d.there b o e h2;{o',h b _ (a b o e) q};q:=d.af b xs e;[az (a_ q g)];q;q:=d.dR b o u e;[az (a_ q g)];q;{more,q}:=d.dW b ps e;{more,do[az (a_ q g)];q};C:df X.prog X.w j h':=λb u e=>(k.a9 b u e).cY (λc v l q=>h c v (λz=>do !z;l||l:=l;!l;e<-[y];-e;l<-[y];-l) q) (λ_ q=>q) λ_ _ q=>q;C.iA g {hz,us,us.length,A,h _ _ (qp (yu _)) t}
def JI{N tg I:Expr}{M:List Expr}{j:Scope}{pos:Pos}{own:List UK}{fr:List (UK×Nat)}{cl:List (UK×UJ)}{g:TG}{tt:TT}{te:TE}{RR:MD->UJ->Result->UH->Prop}{E:KE}{pins:List 71}{σ:St}{H2:Hp}{s2:UH}{Q:VK}{it:UJ}{d:List UJ}{tn:Nat->Heap->Prop}{J:It}(hc:X.calm=true)(S:gE j)(C:lN X j cl fr)(hg:∀s H d,PG (bB X (own++fr.map (·.1)) j cl s H d) tg g)(hfr:∀σ,jJ g (cO own fr σ))(ht:∀s H d,yF (bB X (own++fr.map (·.1)) j cl s H d) M tt)(he:∀s H d,PE (bB X (own++fr.map (·.1)) j cl s H d) N te)(I2:Inv X pins σ H2 s2)(T:Turn X.prog X.w X.K tg J d it tn)(O:tn 0 s2.heap)(f2:∀b∈d,fC X pins H2 b)(hW:Im own fr g tt te σ Q J H2)(hRR:∀Y L ys us,Inv (bB X (own++fr.map (·.1)) j cl s2 H2 d) [(↑s2,bT us)] (cO own fr σ) L Y->aK ys us->ys.length<=sizeLine->(∀p,L p=none->Q (.ref p) (upd L p (.lst ys)))-> RR (.ref ↑s2) (↑s2+1) (.ok .next) Y) : wpAny 37 X.A (newList []) (λacc s3=>wpAny 37 X.A (newFunctionEnv j X.env.globals cl [] X.env.qual none .none (!X.env)) (λce s4 => codeAny 37 X.A (.compStart (.ListComp N [{tg,I,M,0}] j pos) 0 (.ref it) acc {ce with scope:=relabel j X.env}) (RR acc ce.locals) s4) E s3) E s2:=do _;{W,{m0,w0},turn}:=hW;B:∀b∈d,b<↑s2:=λb h=>(do _;{o,e,_}:=T.obj _ _ O b h;qG e);wpAny_newObj_type (wpAny_newFunctionEnv S.cell (do(y,hy);hy<-0) (λh₁ f a=>?_) S.kind);(by dsimp only at f a ⊢;generalize P:s2.heap.push {cls:=.type "list",dict:=none,data:=.seq ([]:List MD).toArray}=G at f a ⊢);hC:G.objs.size=↑s2+1:=(do[<-P,Heap.size_push]);(by rw[hC]at f a ⊢);old:∀b o,s2.heap.get? b=!o->h₁.get? b=!o:=λb o e=>(do a.extBut b o (qp (yt (qG e))) (qI _ (P▸qI _ e)));hacc:h₁.get? ↑s2=!(bT []):=a.extBut _ _ (qp (yu _)) (qI _ (P▸qL _ rfl));I3:=I2.block (own:=own) (tk:=s2.toks+([]:List (UK×MD)).length) f2 B S C old f hacc;k:∀{H':Hp} {us:List MD},(∀b∈d,H' b=none)->∀b∈d,fC (bB X (own++fr.map (·.1)) j cl s2 H2 d) [(↑s2,bT us)] H' b:=λ{H' us} hn b h=>(do _;{_,g1,g2,g3,g4,g5}:=f2 b h;hbl:=B b h;{hn b h,?_,I2.iO g1 g2,.inl h,λx c e=>g4 x c (C.sub x c e),λp hp=>?_};qp (yt hbl);m:p=(↑s2,bT us):=(by simpa[bB] using hp);!m;zo hbl);F:∀s3:UH,s3={s2 with heap:=h₁,toks:=s2.toks+([]:List (UK×MD)).length}-> codeAny 37 X.A (.compLoop (.ListComp N [{tg,I,M,0}] j pos) 0 (.ref it) (.ref ↑s2) (compEnvC j cl (↑s2+1) X.env)) (RR (.ref ↑s2) (↑s2+1)) s3:=(do(s3,rfl);Of (λn s'=>∃i ys us H',aK ys us/\Inv (bB X (own++fr.map (·.1)) j cl s2 H2 d) [(↑s2,bT us)] (cO own fr σ) H' s'/\tn i s'.heap/\(∀b∈d,H' b=none)/\ys.length<=sizeLine/\W i n ys H') ?_ m0 {0,[],[],H2,.nil,I3,T.keep _ _ _ O λb _ o e=>old b o e,λb h=>(f2 b h).1,q0 _,w0};(n,s4,{i,ys,us,L,hv,I4,Z,V,hz,w4});{stop,fin}||{go,hlt,step}:=turn i n ys L w4;bL (T.done (bB X (own++fr.map (·.1)) j cl s2 H2 d) rfl rfl rfl hc i _ s4 _ L _ I4 (k V) Z stop) λr Y ⟨hr,I5⟩=>?_;!hr;hRR Y L ys us I5 hv hz fin;bL (T.item (bB X (own++fr.map (·.1)) j cl s2 H2 d) rfl rfl rfl hc i _ s4 _ L _ I4 (k V) Z go) λr Y ⟨u,hr,h5⟩=>?_;!hr;bL h5 λ_ U ⟨x,H6,I6,r6,y6,t,fr6⟩=>?_;I6':=I6.pinned (k fr6) (T.obj _ _ t);bL (hg s2 H2 d _ U _ H6 x u _ I6' r6 (hfr σ x H6 _ (step x H6 y6))) λ_ s7 ⟨l,H7,I7,k7,q7⟩=>?_;bL (ht s2 H2 d _ s7 l H7 _ I7 q7) λok s8 ⟨H8,I8,q8⟩=>?_;D:∀{pins':List 71} {σ':St} {H':Hp} {s':UH},Inv (bB X (own++fr.map (·.1)) j cl s2 H2 d) ([(↑s2,bT us)]++d7 d U.heap) σ' H' s'->∀b∈d,(∀o,U.heap.get? b=!o->s'.heap.get? b=!o)/\H' b=none:=λ{pins' σ' H' s'} I' b h=>(do _;{o,e,_}:=T.obj _ _ t b h;z:=I'.pin (b,o) (z7 _ (z7 _ (EH h e)));{λo' e'=>do e'<-[e];-e';z.1,z.2.1});(by cases ok with|false|true=>?_);q8<-[qB qx];{m',hm,w8}:=q8;[qB qx];{m',hm,i+1,ys,us,H8,hv,(I8.fE).weak k7.1 k7.2,T.keep _ _ _ t λb h o e=>(D (pins':=[]) I8 b h).1 o e,λb h=>(D (pins':=[]) I8 b h).2,hz,w8};q8<-[qE rfl];[qE rfl];bL (he s2 H2 d _ s8 l H8 _ I8 q8) λy R ⟨v,H9,I9,r9,m',hm,w9⟩=>?_;pD:=I9.pin (↑s2,bT us) (List.mem_append_right _ (List.mem_append_left _ (do 0)));zD:R.heap.get? ↑s2=!(bT us):=pD.1;nD:H9 ↑s2=none:=pD.2.1;append_at (hsz:=do¬us.toArray.size<=sizeLine;[zk,<-hv.length];hz) zD λh5 hs5 hD5=>?_;Ia:Inv (bB X (own++fr.map (·.1)) j cl s2 H2 d) (d7 d U.heap) l H9 R:=I9.ic λp hp=>I9.pin p (z7 _ (z7 _ hp));vR:↑s2≠↑s2+1:=qp (yu _);Ib:Inv (bB X (own++fr.map (·.1)) j cl s2 H2 d) (d7 d U.heap) l H9 {R with heap:=h5,toks:=R.toks}:=Ia.turned (it:=↑s2) (λb o h e=>hs5.extBut b o h e) nD vR (.inr (qb _)) (λx c e z=>do _;{v',q}:=I2.cell x c (C.sub x c e);q':=q.lt;q'<-[z];wj _ q') λp hp z=>(do m:p∈d7 d U.heap:=(by simpa[bB] using hp);q':=B p.1 (Ho m).1;q'<-[z];wj _ q');Ic:Inv (bB X (own++fr.map (·.1)) j cl s2 H2 d) [(↑s2,bT (us++[y]))] l H9 {R with heap:=h5,toks:=R.toks}:=Ib.ic λp hp=>(do m:p=(↑s2,bT (us++[y])):=(do 0<|hp);!m;{hD5.trans (congrArg some (N' us y)),nD,vR,pD.2.2.2.1,λv z=>do-z});{m',hm,i+1,ys++[v],us++[y],H9,hv.append (.cons r9 .nil),Ic.weak k7.1 k7.2,T.keep _ _ _ t λb h o e=>?_,λb h=>(D (pins':=[]) I9 b h).2,?_,w9};hs5.extBut b o (qp (B b h)) ((D (pins':=[]) I9 b h).1 o e);[qg];hlt);codeAny_compStart_list (F _ rfl) (T.self _ 0 _ _ _ (T.keep _ _ _ O λb _ o e=>old b o e) (F _ rfl))
def jC{own:List UK}{cl:List (UK×UJ)}{g:TG}(v:X.calm=true)(hi:PI X tg a q)(S:gE c)(C:lN X c cl fr)(hg:∀s H b,PG (bB X (own++fr.map (·.1)) c cl s H b) tg g)(j:∀σ,jJ g (cO own fr σ))(z:∀s H b,yF (bB X (own++fr.map (·.1)) c cl s H b) d tt)(F:∀s H b,PE (bB X (own++fr.map (·.1)) c cl s H b) f te)(E:∀x,foldedSetIterable a X.env x=pure x:=by intro _;rfl) : PE X (.ListComp f [{tg,a,d,0}] c pos) (NT own fr q g tt te):=do _;{?_};(pins,s,σ,H,Q,I,h);[eval_ListComp];wpAny_comprehension_free (use:=none) rfl E C.yd S.kind S.jB (bL (hi pins s σ H _ I h) λG L h1=>bL h1 λB s2 h2=>?_);{it,b,M,J,H2,e,p,T,l,r,y}:=h2;!e;JI (RR:=λacc A=>compPost 37 X.A X.xe none (EP X pins σ Q) acc A) v S C hg j z F p T l r y λK o ys us n u hz k=>?_;{D,m,_}:=id n.loc;t:o ↑s2=none:=(n.pin (↑s2,bT us) (List.mem_append_right _ (do 0))).2.1;{D,m,λh' i=>{.ref ↑s2,upd o ↑s2 (.lst ys),p.pK r n u hz i,O,k _ t}}
def wG{k:Scope}{own:List UK}{cl:List (UK×UJ)}{g:TG}(hN:X.N.Nodup)(hy:X.N[i]?=!y)(hx:Loc X.env.scope y)(hc:X.calm=true)(hi:PI X tg d W)(S:gE k)(C:lN X k cl fr)(hg:∀s H t,PG (bB X (own++fr.map (·.1)) k cl s H t) tg g)(M:∀σ,jJ g (cO own fr σ))(ht:∀s H t,yF (bB X (own++fr.map (·.1)) k cl s H t) l tt)(he:∀s H t,PE (bB X (own++fr.map (·.1)) k cl s H t) m te)(hs:∀x,foldedSetIterable d X.env x=pure x:=by intro _;rfl)(G:swapsWith (.ListComp m [{tg,d,l,0}] k pos) (!(.Name y r)) n.line X.env=pure true:=by rfl)(hf:X.fn y=true\/X.env.scope.names.lookup y=some .local:=by first|exact .inl rfl|exact .inr rfl|assumption) : PS X (.Assign [.Name y r] (.ListComp m [{tg,d,l,0}] k pos) n) (uV (NT own fr W g tt te) (cQ i)):=do _;{?_};(pins,s,σ,H,D,I,h);[exec_Assign_Name_used _ _ _ _ G];qA (wpAny_standAt (qA ?_));¬wpAny _ X.A (do{let _ <-comprehension (.ListComp m [⟨tg,d,l,0⟩] k pos) k X.env _ (newList []) false (eval d X.env) (!(assign (.Name y r) X.env))}) _ _ s;qA (bL (wpAny_comprehension_free (use:=!(assign (.Name y r) X.env)) (Q:=λ_ s'=>SP X pins D .next s') rfl hs C.yd S.kind S.jB (bL (hi pins s σ H _ I h) λxv s1 h1=>bL h1 λitv s2 h2=>?_)) λ_ s' hq=>qF (qF hq));{it,t,tn,J,H2,e,u,T,U,Z,hW}:=h2;!e;JI (RR:=λacc A=>compPost 37 X.A X.xe (!(assign (.Name y r) X.env)) (λ_ s'=>SP X pins D .next s') acc A) hc S C hg M ht he u T U Z hW λY L ys us E hv hz O=>?_;{m5,V,_}:=id E.loc;nD:L ↑s2=none:=(E.pin (↑s2,bT us) (List.mem_append_right _ (do 0))).2.1;nC:L (↑s2+1)=none:=E.free;I6:Inv X pins σ (upd L ↑s2 (.lst ys)) Y:=u.pK Z E hv hz (Heap.SameBut.refl _ _);¬wpAny _ X.A (assign (.Name y r) X.env (.ref ↑s2)) _ _ Y;wpAny_assign_Name (LA (v:=.ref ↑s2) I6 hN hy hx rfl (λs7 I7 ⟨a,R,P⟩=>?_) hf);j:↑s2<↑s2+1:=yu _;B:↑s2+1≠X.env.locals:=zo (yy u.lt j);f:∀x c,X.env.cells.lookup x=!c->c≠↑s2+1:=λx c e=>(do _;{v',q}:=u.cell x c e;qp (yy q.lt j));F:↑s2+1≠a:=(do rfl||P:=P;B;Ne.symm (f _ _ P));⟨m5,V.sameBut R F,λh' K=>⟨_,_,?_,O _ nD⟩⟩;I7.turned (it:=↑s2+1) (t':=s7.toks) (λb o hb e=>K.extBut b o hb e) (do[az (zo j)];nC) B (.inr (qf u.sz (wx j))) f λp hp z=>do q:=qG (u.pin p hp).1;q<-[z];absurd (yy j q) (wj _)
end
section
variable {X:Cx}
inductive kW(K:PySem.W.Frag)(xs:List V)(H:Hp)(Q:VK):Prop
 |mk(x T t b:_)(_:xs=[x,.ty T])(_:fG K H x t)(_:PySem.W.kitOne K t (.type T)=!b)(_:Q (.bl b) H)
def RP:cI X (.builtin "isinstance") (kW X.K):=do(pins,s,σ,H,xs,us,Q,I,r,h);{x,T,t,b,rfl,ty,e,q}:=h;{u,v,rfl,a,c}:=vals2 r;-((show v=Value.type T from c));RX I a ty e λtk=>{.bl b,H,I.tok tk,O,q}
inductive jO(x y:V)(H:Hp)(Q:VK):Prop
 |mk(a b xs:_)(_:x=.ref a)(_:y=.ref b)(_:aD H a xs)(_:aD H b [])(_:Q (.bl (decide (xs=[]))) H)
def Qf(d:X.A.units<cLine):de X (compareOp .Eq) (jO):=do(pins,s,σ,H,x,y,v,u,Q,I,k,m,h);{a,b,xs,rfl,rfl,g,l,q}:=h;-k;-m;{its,i,p,hz}:=I.list g;{f,c,p2,_}:=I.list l;-c;(by cases i with|nil|cons o n=>?_);PySem.SeqAt.eq_listAt (e:=λ_=>true) p.isList p2.isList rfl d (λj h1 _=>absurd h1 (do 0)) {.bl true,H,I,O,do 0<|q};PySem.SeqAt.eq_list_lengthsAt p.isList p2.isList (do 0) d {.bl false,H,I,O,do 0<|q}
end
section
variable {X:Cx}{pins:List 71}{σ σ':St}{H H':Hp}{s s':UH}
theorem Inv.iA{a:UJ}{o:HO}(d:Inv X pins σ H s)(I:Inv X pins σ' H' s')(h:↑s<=a)(hn:H' a=none)(new:a0 X.prog X.w (upd H' a o) s'.heap a o):Inv X pins σ' (upd H' a o) s':=do ne:∀b,b<↑s->b≠a:=λb i z=>();{I.ok,I.os,I.bare,{I.base.keep,I.base.slot,λb u e n g=>?_,I.base.there,λb xs e=>?_,λb u xs e=>?_,λb ps e=>?_,I.base.dO},I.loc,I.cell,?_,λx c e=>?_,λp hp=>?_,I.a9.iA hn new,I.len};[az (ne b (zh (qG e) d.sz))];I.base.free b u e n g;q:=I.base.af b xs e;[az (a_ q hn)];q;q:=I.base.dR b u xs e;[az (a_ q hn)];q;{more,q}:=I.base.dW b ps e;{more,do[az (a_ q hn)];q};[az (ne _ d.lt)];I.free;{v,q}:=d.cell x c e;[az (ne _ q.lt)];I.dr x c e;{h1,h2,f}:=I.pin p hp;{h1,?_,f};[az (ne _ (qG (d.pin p hp).1))];h2
def Inv.dH{t':Nat}{h':Heap}{ch:List UJ}(I:Inv X pins σ H s)(f:∀b∈ch,fC X pins H b)(k:∀b o,b∉ch->s.heap.get? b=!o->h'.get? b=!o):Inv X pins σ H {s with heap:=h',toks:=t'}:=do d:∀b u,H b=!u->b∉ch:=λb u e z=>(do e<-[(f b z).1];-e);I.step (g':=s.gens) (d':=s.drawn) (ch:=ch) (λb g=>{(f b g).2.2.2.1,(f b g).2.1,(f b g).2.2.2.2.1,(f b g).2.2.2.2.2}) (λb o _ _ a e _=>k b o a e) (λb o _ _ a e _=>{o.slots,k b o a e}) (λ_ _ _ _ n=>n) (λb o a e=>{o,k b o a e}) (λ_ _ e=>e) (λ_ _ _ e=>e) (λb ps e=>{#[],do[e];0}) (λb o xs e n=>k b o (d b _ n) e) (λm i=>?_) (λb u e=>?_) I.bare;{o,es,ep,h,r}:=i;{o,es,ep,k _ o (λz=>(f _ z).2.1 rfl) h,r};(I.a9 b u e).cY (λc v a q=>k c v ?_ q) (λ_ q=>q) λ_ _ q=>q;z||z:=a;[z];d b u e;d c _ z
end
def OA(a:UJ):It := {λi H=>∃xs x,aD H a xs/\xs[i]?=!x,λi H x H'=>∃p v,H p=none/\(∀xs,aD H a xs->xs[i]?=!v)/\x=.ref p/\H'=upd H p (.tup [.int i,v]),λi H=>∃xs,aD H a xs/\xs.length=i}
def Rk{P:Program}{w:World}{K:PySem.W.Frag}{es:List Expr}{k:Nat}{tp:Pos}(a it e:UJ)(M:a≠e)(n:a≠it)(l:e≠it) :
  Turn P w K (.Tuple es k tp) (OA a) [e,it] e (λi h=>(∃old,IsEnum h e it i old)/\h.IsListIter it a i) where
 mem:=by simp
 obj:=λi h st b f=>by
  rcases qt.mp f with rfl|f
  .obtain⟨⟨old,q⟩,_⟩:=st
   exact{_,q,λv z=>by cases z}
  .have q:b=it:=by simpa using f
   subst q;obtain⟨_,o,q,c,d⟩:=st;exact{o,q,λv z=>by rw[d]at z;cases z}
 keep:=λi h h' st Y=>{let⟨old,q⟩:=st.1;{old,Y e (by simp) _ q},st.2.at λo q=>Y it (by simp) o q}
 item:=by
  intro X R Q T J i pins s σ H E I D st hg;subst R Q T;obtain⟨xs,x,C,S⟩:=hg;obtain⟨its,L,p,hz⟩:=I.list C;obtain⟨u,hu,ru⟩:=L.get S;obtain⟨⟨old,B⟩,g⟩:=st
  have N:i<its.toArray.size:=by
   have:=(qw.mp hu).1;simpa using this
  refine wpAny_pyNext_enum_itemD (Draws.list (show X.A.in1.handled=none from I.ok.hd J) it a n its.toArray) B {g,p.isList} N l (by simp[l,Ne.symm M]) λy h' tk G ho F hT hsz hk=>?_
  have ex:y=u:=by
   have q:its.toArray[i]?=!y:=G
   have Z:its[i]?=!y:=by simpa using q
   rw[hu]at Z;exact(qJ Z).symm
  subst ex;refine{_,O,wpAny_letOwnedTupleGo_enum ho λm t j=>?_}
  have I1:Inv X pins σ H { s with heap:=m,toks:=tk+1 }:=I.dH D λb o f q=>j.extBut b o (λz=>f (by simp[z])) (hk b o (λz=>f (by simp[z])) (λz=>f (by simp[z])) q)
  have U:↑s≠e:=zo (qG B);have eT:m.get? ↑s=some { cls:=.type "tuple",data:=.seq #[.int i tk,y] }:=j.extBut _ _ U hT;have V:H ↑s=none:=I.a9.fresh (qb _);refine{.ref ↑s,upd H ↑s (.tup [.int i,x]),I.iA I1 (Nat.le_refl _) V {?_,[.int i tk,y],.cons {tk,O} (.cons ru .nil),{_,eT,O,_,O}},O,{_,x,V,λys hy=>by rw[I.mK hy C];exact S,O,O},{{_,by simpa using t},?_},λb f=>?_}
  .show 2<=sizeLine
   decide
  .obtain⟨o,q,r⟩:=F.1
   exact{o,j.extBut _ _ (Ne.symm l) q,r}
  .obtain⟨o,q⟩:∃o,s.heap.get? b=!o:=by
    rcases qt.mp f with rfl|f
    .exact⟨_,B⟩
    .have q:b=it:=by simpa using f
     subst q;obtain⟨o,q,_⟩:=g;exact{o,q}
   rw[az (qp (qG q))];exact(D b f).1
 done:=by
  intro X R Q T J i pins s σ H E I D st hg;subst R Q T;obtain⟨xs,C,S⟩:=hg;obtain⟨its,L,p,hz⟩:=I.list C;obtain⟨⟨old,B⟩,g⟩:=st;have hl:=L.length
  have hi:i=its.toArray.size:=by rw[zk];omega
  have hD:=Draws.list (prog:=X.prog) (w:=X.w) (show X.A.in1.handled=none from I.ok.hd J) it a n its.toArray;rw[hi]at g
  exact wpAny_pyNext_enum_endD hD B {g,p.isList} λh' eb=>{O,I.dH D λb o f q=>eb b o (λz=>f (by simp[z])) q}
 self:=λ_ _ _ _ _ st h=>let⟨old,q⟩:=st.1;wpAny_pyIter_enum q h
section
variable {X:Cx}
inductive EU(R:It->Hp->Prop)(vs:List V)(H1:Hp):Prop
 |mk(a:_)(_:vs=[.ref a])(_:(∃xs,aD H1 a xs))(_:R (OA a) H1)
def Iv(ta:TA):TI:=λσ H R=>ta σ H λvs H1=>EU R vs H1
def QB{k:Nat}(hg:Gl X "enumerate")(v:X.mg "enumerate"=none)(w:PA X [a] ta)(B:starEach [a] X.env=[(false,eval a X.env)]:=by rfl) : PI X (.Tuple es k y) (.Call (.Name "enumerate" p) [a] [] pos) (Iv ta):=do _;{?_};(pins,s,σ,H,R,I,h);Call_ (iY I hg v boot_enumerate (PyProof.Rows.callWith_type1 (bL (w pos pins s σ H _ I h) λus c ⟨vs,H1,g,A,z⟩=>?_) B rfl));{l,e,{xs,t},q}:=z;!e;{u,rfl,o}:=vals1 A;-o;{its,C,m,hz}:=g.list t;f:l<↑c:=(do _;{_,e,_}:=m.isList;qG e);call_enumerate_list m.isList λh' n j hsz x=>?_;wpAny_pyIter_enum n ?_;r:Inv X pins σ H1 {c with heap:=h'}:=g.kept (t':=c.toks) x;{↑c+1,[↑c+1,↑c],_,_,H1,O,r,Rk l ↑c (↑c+1) (qp (yt f)) (qp f) (zo (yu _)),{{_,n},j},λb i=>?_,q};d:↑c<=b:=(do rfl||i:=qt.mp i;jw _;e:b=↑c:=(do 0<|i);Nat.le_of_eq e.symm);g.oA d (g.a9.fresh d)
end
def Pe{k:NameKind}(h:(relabel b env).names.lookup x=!k):∃y∈b.names,y.2=k\/y.2=.free:=do d:=PySem.mem_of_lookup h;{y,c,e}:=qc.mp d;{y,c,?_};{n,f}:=y;(by dsimp only at e;split at e;rename_i a);a<-[zn,zn];.inr (beq_iff_eq.mp a.1.1);-e;.inl rfl
def jE(h:∀y∈b.names,y.2≠.free/\y.2≠.cell):lN X b [] [] where
 yd:=closureFor_none λy a=>(h y a).1
 sub:=λx c e=>by cases e
 has:=λx e=>by
  exfalso;rcases e with e|e <;> obtain⟨y,a,z⟩:=Pe e <;> rcases z with z|z
  .exact(h y a).2 z
  .exact(h y a).1 z
  .exact(h y a).1 z
  .exact(h y a).1 z
 Ob:=λp hp=>nomatch hp
def ag.up(e:ag H H')(h:H' p=none):ag H (upd H' p o):=λb u q=>do[az (a_ (e b u q) h)];e b u q
def ag.new(h:H p=none):ag H (upd H p o):=(ag.refl H).up h
def ag.wr(e:ag H H')(h:H p=none):ag H (upd H' p o):=λb u q=>do[az (a_ q h)];e b u q
section
variable {X:Cx}
inductive KA(x y:V)(H:Hp)(Q:VK):Prop
 |mk(p xs i:_)(_:x=.ref p)(_:y=.int i)(_:aD H p xs)(_:0<=i)(_:i<(xs.length:Int))(_:∀v∈xs,Q v H)
def BM:Mh X (KA):=do(value,a,pins,s,σ,H,x,y,v,u,Q,I,c,e,h,d);{p,xs,i,ex,f,g,h0,h1,q}:=h;{j,rfl}:=Int.eq_ofNat_of_zero_le h0;b:j<xs.length:=();DI value a pins s σ H x y v u Q I c e {p,xs,j,xs[j],ex,f,g,wM (qe b),q _ (jg b)} d
end
section
variable {X:Cx}{es:List Expr}{t:TA}{pos:Pos}
def J'(t:TA):TE:=λσ H Q=>t σ H λxs H1=>xs.length<=sizeLine/\∀p H',H1 p=none->ag H1 H'->H' p=!(.tup xs)->Q (.ref p) H'
def Nh(t:TA):TE:=λσ H Q=>t σ H λxs H1=>xs.length<=sizeLine/\∀p H',H1 p=none->ag H1 H'->H' p=!(.lst xs)->Q (.ref p) H'
def LH:TE:=λ_ H Q=>∀p H',H p=none->ag H H'->H' p=!(.dK [])->Q (.ref p) H'
def bE{x1}(h:PA X es t):PE X (.Tuple es x1 pos) (J' t):=do _;{?_};(pins,s,σ,H,Q,I,f);wpAny_Tuple_spliced (bL (h pos pins s σ H _ I f) λus a ⟨xs,H1,d,r,z,q⟩=>{do[<-r.length];z,?_});c:H1 ↑a=none:=d.a9.fresh (qb _);{.ref ↑a,upd H1 ↑a (.tup xs),d.laid (t':=a.toks) (λb u e=>qI _ e) (qb _) ?_,O,q _ _ c (ag.new c) aF};{z,us,r,{_,qL _ rfl,O,_,O}}
def bQ(h:PA X es t):PE X (.List es pos) (Nh t):=do _;{?_};(pins,s,σ,H,Q,I,f);wpAny_List_spliced (bL (h pos pins s σ H _ I f) λus a ⟨xs,H1,d,r,z,q⟩=>{do[<-r.length];z,?_});c:H1 ↑a=none:=d.a9.fresh (qb _);{.ref ↑a,upd H1 ↑a (.lst xs),d.laid (t':=a.toks) (λb u e=>qI _ e) (qb _) ?_,O,q _ _ c (ag.new c) aF};{z,us,0,r,qL _ rfl}
def D8:PE X (.Dict [] [] pos) LH:={λpins s σ H Q I h=>Sz pins s σ H Q I λp hp=>h p _ hp (ag.new hp) aF}
def de.imp(h:de X f r)(i:∀x y H Q,a x y H Q->r x y H Q):de X f a:=λpins s σ H x y v u Q I c b q=>h pins s σ H x y v u Q I c b (i x y H Q q)
def wX.imp(h:wX X r)(i:∀x lo hi H Q,a x lo hi H Q->r x lo hi H Q):wX X a:=λpins s σ H x v g d lo hi sl Q I c f e b q=>h pins s σ H x v g d lo hi sl Q I c f e b (i x lo hi H Q q)
inductive HI(x y:V)(H:Hp)(Q:VK):Prop
 |mk(l b xs zs:_)(_:x=.ref l)(_:y=.ref b)(_:H l=!(.lst xs))(_:H b=!(.lst zs))(_:xs.length+zs.length<=sizeLine)(_:∀p H',H p=none->ag H H'->H' p=!(.lst (xs++zs))->Q (.ref p) H')
def Mz:de X (binaryOp .Add) HI:=Cy.imp λ_ _ _ _ ⟨l,b,xs,zs,h1,h2,d,a,c,q⟩=>{l,b,xs,zs,h1,h2,d,a,c,λp hp=>q p _ hp (ag.new hp) aF}
inductive Jt(x:V)(lo:Option Int)(hi:Option Int)(H:Hp)(Q:VK):Prop
 |mk(a xs:_)(_:x=.ref a)(_:aD H a xs)(_:∀p H',H p=none->ag H H'->H' p=!(.lst (ef xs lo hi))->Q (.ref p) H')
def F4:wX X (Jt):=OV.imp λ_ _ _ _ _ ⟨a,xs,h1,h2,q⟩=>{a,xs,h1,h2,λp hp=>q p _ hp (ag.new hp) aF}
end
def nB(env:Env):List (UK×NameKind)->List (UK×UJ)->List (UK×UJ)|[],acc=>acc|(n,k)::r,acc=>nB env r (if k==.free then(n,(env.cells.lookup n).getD 0)::acc else acc)
def BF(h:∀y∈d.names,y.2=.free->∃c,env.cells.lookup y.1=!c):closureFor d env=pure (nB env d.names []):=do all:∀(names:List (UK×NameKind)) (acc:List (UK×UJ)),(∀y∈names,y.2=.free->∃c,env.cells.lookup y.1=!c)-> (forIn names acc λx r=>(match x with|(name,kind)=>if(kind==NameKind.free)=true then do{let a <-cellOf env name;pure (ForInStep.yield ((name,a)::r))}else pure (ForInStep.yield r):Sem (ForInStep (List (UK×UJ)))))=pure (nB env names acc):=(do(names);(by induction names with|nil|cons x r j=>?_);(acc,_);2;(acc,g);{n,k}:=x;[mf];(by cases b:(k==NameKind.free)with|true|false=>?_);{c,i}:=g (n,k) qi (beq_iff_eq.mp b);e:cellOf env n=pure c:=(do@cellOf;[i]);(by dsimp only);[qE b,e];Eq.trans (by first|rfl|simp) ((j ((n,c)::acc) λy f=>g y (List.mem_cons_of_mem _ f)).trans ?_);¬_=pure (nB env r (if(k==NameKind.free)=true then(n,(env.cells.lookup n).getD 0)::acc else acc));[qE b,show env.cells.lookup n=some c from i];2;(by dsimp only);[qB (do[b];qx)];Eq.trans (by first|rfl|simp) ((j acc λy f=>g y (List.mem_cons_of_mem _ f)).trans ?_);¬_=pure (nB env r (if(k==NameKind.free)=true then(n,(env.cells.lookup n).getD 0)::acc else acc));[qB (do[b];qx)]);e:=all d.names [] h;¬((forIn d.names [] λx r=>(match x with|(name,kind)=>if(kind==NameKind.free)=true then do{let a <-cellOf env name;pure (ForInStep.yield ((name,a)::r))}else pure (ForInStep.yield r):Sem (ForInStep (List (UK×UJ))))) >>= λcs=>pure cs)=_;[e];2
theorem xK:∀{names:List (UK×NameKind)} {acc:List (UK×UJ)},(∀y∈names,y.2=.free->∃c,env.cells.lookup y.1=!c)->(∀x c,acc.lookup x=!c->env.cells.lookup x=!c)-> ∀x c,(nB env names acc).lookup x=!c->env.cells.lookup x=!c|[],_,_,h=>h|(n,k)::r,acc,hx,h=>do xK (names:=r) (λy j=>hx y (qm _ j)) λx c e=>?_;(by cases b:(k==NameKind.free)with|true|false=>?_);e<-[b,qE rfl];{g,i}:=hx (n,k) qi (beq_iff_eq.mp b);e<-[gj];(by cases a:(x==n)with|true|false=>?_);e<-[a];q:=beq_iff_eq.mp a;!q;f:(env.cells.lookup x).getD 0=c:=qJ e;d:env.cells.lookup x=!g:=i;(by rw[d]at f ⊢);congrArg some f;e<-[a];h x c e;e<-[b,qB qx];h x c e
theorem wY:∀{names:List (UK×NameKind)} {acc:List (UK×UJ)},((x,NameKind.free)∈names\/∃c,acc.lookup x=!c)->∃c,(nB env names acc).lookup x=!c|[],_,h=>h.elim (λz=>nomatch z) id|(n,k)::r,acc,h=>do wY (names:=r) ?_;put:∀a,∃c,((n,a)::acc).lookup x=!c\/(x≠n/\acc.lookup x=none):=λa=>(do[gj];(by cases b:(x==n)with|true|false=>?_);{a,.inl rfl};(by cases e:acc.lookup x with|some c|none=>?_);{c,.inl rfl};{0,.inr {λz=>do !z;b<-0,O}});h||{c,h}:=h;q||q:=qt.mp h;-q;.inr ?_;[qE (do 2),gj];0;.inl q;.inr ?_;(by cases f:(k==NameKind.free)with|true|false=>?_);[qE (do 2)];{d,q||q}:=put ((env.cells.lookup n).getD 0);{d,q};h<-[q.2];-h;[qB qx];{c,h}
def O8{k:NameKind}(h:(relabel b env).names.lookup x=!k):∃y∈b.names,y.1=x/\(y.2=k\/y.2=.free):=do d:=PySem.mem_of_lookup h;{y,c,e}:=qc.mp d;{y,c,?_};{n,f}:=y;(by dsimp only at e;split at e;rename_i a);a<-[zn,zn];-e;{O,.inr (beq_iff_eq.mp a.1.1)};-e;{O,.inl rfl}
def Sn{g:Scope}(h:∀x,X.env.kindOf x=some .cell->∃c,X.env.cells.lookup x=!c)(d:∀y∈g.names,y.2≠.cell)(a:∀y∈g.names,y.2=.free->X.env.kindOf y.1=some .cell)(f:∀p∈fr,X.N[p.2]?=!p.1/\X.env.kindOf p.1=some .cell/\(relabel g X.env).names.lookup p.1=some .cell):lN X g (nB X.env g.names []) fr where
 yd:=BF λy b e=>h _ (a y b e)
 sub:=xK (λy b e=>h _ (a y b e)) λx c e=>by cases e
 has:=λx e=>by
  refine wY (.inl ?_);rcases e with e|e <;> obtain⟨y,b,rfl,z⟩:=O8 e <;> rcases z with z|z
  .exact absurd z (d y b)
  .rw[←z];exact b
  .rw[←z];exact b
  .rw[←z];exact b
 Ob:=λp hp=>by
  obtain⟨h1,h2,i⟩:=f p hp;exact{h1,by rw[h2];decide,.inr (.inl h2),.inl i}
def mU{g:Scope}(d:Scope)(N:List UK)(h1:X.env.scope=d)(h2:X.N=N)(k:∀x,X.env.kindOf x=some .cell->∃c,X.env.cells.lookup x=!c)(f:∀y∈g.names,y.2≠.cell)(h:∀y∈g.names,y.2=.free->d.names.lookup y.1=some .cell)(i:∀p∈fr,N[p.2]?=!p.1/\d.names.lookup p.1=some .cell/\(relabel g {scope:=d,locals:=0,globals:=0,cells:=[]}).names.lookup p.1=some .cell):lN X g (nB X.env g.names []) fr:=do Sn k f (λy j e=>?_) λp hp=>?_;¬X.env.scope.names.lookup y.1=some .cell;[h1];h y j e;{a,b,c}:=i p hp;{do[h2];a,?_,?_};¬X.env.scope.names.lookup p.1=some .cell;[h1];b;e:relabel g X.env=relabel g {scope:=d,locals:=0,globals:=0,cells:=[]}:=(by unfold relabel Env.kindOf;rw[h1]);[e];c
section
variable {X:Cx}
def cI.imp(h:cI X f r)(i:∀xs H Q,a xs H Q->r xs H Q):cI X f a:=λpins s σ H xs us Q I b q=>h pins s σ H xs us Q I b (i xs H Q q)
inductive J5(xs:List V)(H:Hp)(Q:VK):Prop
 |mk(p ys:_)(_:xs=[.ref p])(_:(aD H p ys\/aS H p ys))(_:∀l H',H l=none->ag H H'->H' l=!(.lst ys)->Q (.ref l) H')
def Hu:cI X (.type "list") (J5):=N4.imp λ_ _ _ ⟨p,ys,h1,h2,q⟩=>{p,ys,h1,h2,λl a=>q l _ a (ag.new a) aF}
inductive FV(x y:V)(H:Hp)(Q:VK):Prop
 |mk(a b xs ys:_)(_:x=.ref a)(_:y=.ref b)(_:aS H a xs)(_:aS H b ys)(_:xs≠[])(_:ys≠[])(_:xs.length+ys.length<=sizeLine)(_:∀l H',H l=none->ag H H'->H' l=!(.tup (xs++ys))->Q (.ref l) H')
def SU:de X (binaryOp .Add) (FV):=Oq.imp λ_ _ _ _ ⟨a,b,xs,ys,h1,h2,f,g,d,c,h,q⟩=>{a,b,xs,ys,h1,h2,f,g,d,h,λe=>absurd e c,λ_ p hp=>q p _ hp (ag.new hp) aF}
inductive LM(x y:V)(H:Hp)(Q:VK):Prop
 |mk(l k xs:_)(_:x=.ref l)(_:y=.int k)(_:H l=!(.lst xs))(_:-(2 ^ 63)<=k)(_:k<2 ^ 63)(_:xs.length * k.toNat<=sizeLine)(_:∀p H',H p=none->ag H H'->H' p=!(.lst (List.replicate k.toNat xs).flatten)->Q (.ref p) H')
def I0:de X (binaryOp .Mult) LM:=F_.imp λ_ _ _ _ ⟨l,k,xs,h1,h2,c,a,b,d,q⟩=>{l,k,xs,h1,h2,c,a,b,d,λp hp=>q p _ hp (ag.new hp) aF}
end
def cK{own:List UK}{g:TG}(hz:xs.length<=sizeLine)(c:Nat->List V->Hp->Prop)(h0:c 0 [] H)(j:∀i ys H,c i ys H->aD H a xs)(t:∀i x ys H' (l:V->Hp->Prop) (n:Hp->Prop),xs[i]?=!x->c i ys H'->(∀y k,c (i+1) (ys++[y]) k->l y k)->(∀f,c (i+1) ys f->n f)-> g x (cO own fr σ) H' λh H2=>tt h H2 λb f=>if b=true then te h f l else n f)(v:∀H' p ys,c xs.length ys H'->ys.length<=xs.length->H' p=none->Q (.ref p) (upd H' p (.lst ys))):Im own fr g tt te σ Q (G3 a) H:=do _;{λi m ys H=>m=xs.length - i/\i<=xs.length/\ys.length<=i/\c i ys H,{xs.length,do 0,Nat.zero_le _,Nat.zero_le _,h0},?_};(i,m,ys,H,{rfl,hi,u,p});d<|i<xs.length;.inr {{xs,xs[i],j _ _ H p,do#[d]},(),λx H' y=>?_};{rfl,y}:=y;r:=y xs (j _ _ _ p);t i x ys H' _ _ r p (λy k o=>{xs.length - (i+1),(),O,d,?_,o}) λf s=>{xs.length - (i+1),(),O,d,(),s};[qg,qr];();e:i=xs.length:=();!e;.inl {{xs,j _ _ H p,qb _},λq w=>v H q ys p u w}
theorem Bg{α:Type}[DecidableEq α]:∀{S ws:List α},S.Nodup->(∀x∈S,x∈ws)->S.length<=ws.length|[],_,_,_=>q0 _|x::S,ws,nd,h=>do c:=h x qi;a:=zv.mp nd;d:=Bg (S:=S) (ws:=ws.erase x) a.2 λy b=>(List.mem_erase_of_ne (λ(e:y=x)=>a.1 (do[<-e];b))).mpr (h y (qm _ b));f:=List.length_erase_of_mem c;pos:0<ws.length:=List.length_pos_of_mem c;¬S.length+1<=ws.length;()
def aD.same(h:aD H a xs)(s:ag H H'):aD H' a xs:=do h||{o,h}:=h;.inl (s _ _ h);.inr ⟨o,s _ _ h⟩
mutual
inductive DV(H:Hp):V->UI->Prop
 |aV:DV H .aV .none
 |bl (b:Bool):DV H (.bl b) (.bool b)
 |int (i:Int):DV H (.int i) (.int i)
 |str (z:UK):DV H (.str z) (.str z)
 |lst {p:UJ} {xs:List V} {ds:List UI}:aD H p xs->dV H xs ds->DV H (.ref p) (.list ds)
 |tup {p:UJ} {xs:List V} {ds:List UI}:aS H p xs->dV H xs ds->DV H (.ref p) (.tuple ds)
inductive dV(H:Hp):List V->List UI->Prop
 |nil:dV H [] []
 |cons {x:V} {xs:List V} {d:UI} {ds:List UI}:DV H x d->dV H xs ds->dV H (x::xs) (d::ds)
end
section
variable {X:Cx}{pins:List 71}{σ:St}{H H':Hp}{s:UH}{K:PySem.W.Frag}
def aS.same(h:aS H a xs)(s:ag H H'):aS H' a xs:=do h||{o,h}:=h;.inl (s _ _ h);.inr ⟨o,s _ _ h⟩
mutual
theorem DV.same(e:ag H H'):∀{x:V} {d:UI},DV H x d->DV H' x d
 |_,_,.aV=>.aV
 |_,_,.bl b=>.bl b
 |_,_,.int i=>.int i
 |_,_,.str z=>.str z
 |_,_,.lst h t=>.lst (h.same e) (dV.same e t)
 |_,_,.tup h t=>.tup (h.same e) (dV.same e t)
theorem dV.same(e:ag H H'):∀{xs:List V} {ds:List UI},dV H xs ds->dV H' xs ds
 |_,_,.nil=>.nil
 |_,_,.cons h t=>.cons (DV.same e h) (dV.same e t)
end
mutual
theorem DV.reads(I:Inv X pins σ H s):∀{x:V} {d:UI} {v:MD},DV H x d->RelV x v->∃f,Reads s.heap v d f
 |_,_,_,.aV,r=>by cases r;exact{_,.none}
 |_,_,_,.bl b,r=>by cases r;exact{_,.bool b}
 |_,_,_,.int i,r=>by obtain⟨t,rfl⟩:=r;exact{_,.int i t}
 |_,_,_,.str z,r=>by obtain⟨t,rfl⟩:=r;exact{_,.str z t}
 |_,_,_,.lst h t,r=>by
  cases r;obtain⟨its,a,⟨o,n,g,c,_,e⟩,_⟩:=I.list h;obtain⟨f,j⟩:=dV.reads I t a;exact{_,.list g c e (by simpa using j)}
 |_,_,_,.tup h t,r=>by
  cases r;obtain⟨its,a,⟨o,g,c,n,e⟩,_⟩:=I.tuple h;obtain⟨f,j⟩:=dV.reads I t a;exact{_,.tuple g c e (by simpa using j)}
theorem dV.reads(I:Inv X pins σ H s):∀{xs:List V} {ds:List UI} {vs:List MD},dV H xs ds->aK xs vs->∃c,ReadsAll s.heap vs ds c
 |_,_,_,.nil,r=>by cases r;exact{_,.nil}
 |_,_,_,.cons h t,r=>by
  cases r with
  |cons d e =>
   obtain⟨c,a⟩:=DV.reads I h d;obtain⟨bs,b⟩:=dV.reads I t e;exact{_,.cons a b}
end
inductive xA(u:Nat)(neg:Bool)(x y:V)(H:Hp)(Q:VK):Prop
 |mk(dx dy:_)(_:DV H x dx)(_:DV H y dy)(_:dx.canLay0=true)(_:dy.canLay0=true)(_:min dx.depth dy.depth<=u)(_:Q (.bl (if neg then not (PyData.eqv dx dy) else PyData.eqv dx dy)) H)
def FH(l:X.A.units+u<cLine):de X (compareOp .Eq) (xA u false):=do(pins,s,σ,H,x,y,v,w,Q,I,c,d,h);{dx,j,f,e,b,cy,k,q}:=h;{i,g}:=f.reads I c;{bs,a}:=e.reads I d;SeqAt.compareEq_reads g a b cy () {.bl _,H,I,O,q}
def Ee(l:X.A.units+u<cLine):de X (compareOp .NotEq) (xA u true):=do(pins,s,σ,H,x,y,v,w,Q,I,c,d,h);{dx,j,f,e,b,cy,k,q}:=h;{i,g}:=f.reads I c;{bs,a}:=e.reads I d;SeqAt.compareNe_reads g a b cy () {.bl _,H,I,O,q}
theorem lU:∀{vs:List MD} {ds:List UI} {a:List UJ} {j:Nat} {v:MD},ReadsAll h vs ds a->vs[j]?=!v->∃d bs,ds[j]?=!d/\Reads h v d bs|_,_,_,_,_,.nil,e=>(do-e)|_,_,_,0,_,.cons r t,e=>(do-e;{_,_,O,r})|_,_,_,j+1,_,.cons r t,e=>do _;{d,bs,h1,h2}:=lU (j:=j) t (do 0<|e);{d,bs,do 0<|h1,h2}
theorem ow:∀{ds:List UI} {j:Nat} {d:UI},PyData.canLayAll0 ds=true->ds[j]?=!d->d.canLay0=true|[],_,_,_,e=>(do-e)|d::ds,0,_,h,e=>(do-e;h':(d.canLay0&&PyData.canLayAll0 ds)=true:=h;h'<-[zn];h'.1)|d::ds,j+1,d',h,e=>do h':(d.canLay0&&PyData.canLayAll0 ds)=true:=h;h'<-[zn];ow h'.2 (do 0<|e)
open Classical in
noncomputable def alike(vs:List MD)(ds:List UI)(dx:UI)(y:MD):Bool:=decide (∃(j:Nat) (d:UI),vs[j]?=!y/\ds[j]?=!d/\PyData.eqv d dx=true)
open Classical in
def mD{h:Heap}{vs:List MD}{ds:List UI}{l:List UJ}{dx:UI}(r:ReadsAll h vs ds l)(c:PyData.canLayAll0 ds=true){j:Nat}{y:MD}{d:UI}(e:vs[j]?=!y)(b:ds[j]?=!d):alike vs ds dx y=PyData.eqv d dx:=by
 unfold alike
 cases q:PyData.eqv d dx with
 |true=>exact qH {j,d,e,b,q}
 |false =>
  refine decide_eq_false λ⟨s,d',k,a,i⟩=>?_;obtain⟨t,p,f,n⟩:=lU r e;obtain⟨u,o,g,m⟩:=lU r k;rw[b]at f;cases f;rw[a]at g;cases g;have:=SeqAt.Reads.unique _ _ _ _ _ (ow c b) n m;rw[←this,q]at i;cases i
def OP{g:List UJ}(r:ReadsAll h vs ds g)(c:PyData.canLayAll0 ds=true):vs.any (alike vs ds dx)=ds.any λd=>PyData.eqv d dx:=do l:=SeqAt.ReadsAll.length _ _ _ r;[yk,yr,yr];1;({y,i,q});{j,b,e}:=z6.mp i;{d,_,f,_}:=lU r (j:=j) (do[qe b,e]);q<-[mD r c (do[qe b,e]) f];{d,qu f,q};({d,k,q});{j,b,e}:=z6.mp k;a:j<vs.length:=();{vs[j],jg a,?_};[mD r c (qe a) (do[qe b,e])];q
inductive Mb(u:Nat)(neg:Bool)(x y:V)(H:Hp)(Q:VK):Prop
 |mk(dx p ds xs:_)(_:DV H x dx)(_:y=.ref p)(_:(aD H p xs\/aS H p xs))(_:dV H xs ds)(_:dx.canLay0=true)(_:PyData.canLayAll0 ds=true)(_:dx.depth<=u)(_:Q (.bl (if neg then not (ds.any λd=>PyData.eqv d dx) else ds.any λd=>PyData.eqv d dx)) H)
def Bq(L:X.A.units+1+u<cLine):de X (compareOp .In) (Mb u false):=do(pins,s,σ,H,x,y,v,w,Q,I,t,B,h);{dx,p,ds,xs,G,rfl,b,F,z,cs,K,q}:=h;-B;{J,C}:=G.reads I t;a:∀{its:List MD},aK xs its->(∀y∈its,SeqAt.EqAt X.A.in1 s y v (alike its ds dx y))/\its.any (alike its ds dx)=ds.any λd=>PyData.eqv d dx:=λ{its} D=>(do _;{bs,c}:=F.reads I D;{λy E=>?_,OP c cs};{j,n,e}:=z6.mp E;m:its[j]?=!y:=(do[qe n,e]);{d,_,l,o}:=lU c m;[mD c cs m l];SeqAt.eqAt_reads d dx _ s y v _ _ o C (ow cs l) z (do¬X.A.units+1+_<cLine;()));b||b:=b;{its,r,g,hz}:=I.list b;{i,f}:=a r;SeqAt.in_listAt (alike its ds dx) g.isList (λw k=>i w (do 0<|k)) {.bl _,H,I,O,?_};[List.any_toArray,f];q;{its,r,g,hz}:=I.tuple b;{i,f}:=a r;SeqAt.in_tupleAt (alike its ds dx) g (λw k=>i w (do 0<|k)) {.bl _,H,I,O,?_};[List.any_toArray,f];q
inductive oU(u:Nat)(o:V)(vs:List V)(H:Hp)(Q:VK):Prop
 |mk(x dx p ds xs:_)(j:Nat)(_:vs=[x])(_:o=.ref p)(_:DV H x dx)(_:aD H p xs)(_:dV H xs ds)(_:dx.canLay0=true)(_:PyData.canLayAll0 ds=true)(_:dx.depth<=u)(_:(∃d,ds[j]?=!d/\PyData.eqv d dx=true))(_:(∀(m:Nat) d,m<j->ds[m]?=!d->PyData.eqv d dx=false))(_:Q (.int (j:Int)) H)
def OE(hu:X.A.units+3+u<cLine):Ar X "list.index" (oU u):=do(pins,s,σ,H,o,vs,v,us,Q,I,U,T,h);{x,dx,p,ds,xs,j,rfl,rfl,Z,S,Y,N,cs,hd,{d,z,P},i,q}:=h;-U;{w,rfl,g}:=T.one;{as,R}:=Z.reads I g;{its,r,V,hz}:=I.list S;{{W,E,data,sl},n,e,D,K,B}:=V;(by dsimp only at D K B;subst D K B);{bs,b}:=Y.reads I r;G:=SeqAt.ReadsAll.length _ _ _ b;c:j<its.length:=(do this:=(qw.mp z).1;());hl:=r.length;J:sizeLine<2 ^ 63 - 1:=⋯;call_meets F.slot_list_index {_,e,O} F.entry_list_index (F.args_list_index_2 _ _) (SeqAt.list_indexAt p its.toArray n none sl w (alike its ds dx) j (do 0<|c) () ?_ ?_) {e,λy l=>?_,?_};[be,mD b cs (qe c) z];P;(m,k,t);f:m<its.length:=(do 0<|k);{d',_,a,_}:=lU b (qe f);[be,mD b cs (qe f) a];i m d' t a;l:y∈its:=(do 0<|l);{m,k,M}:=z6.mp l;C:its[m]?=!y:=(do[qe k,M]);{d',_,a,L}:=lU b C;[mD b cs C a];SeqAt.eqAt_reads d' dx _ s y w _ _ L R (ow cs a) N (do¬X.A.units+1+_<cLine;());{.int j,H,I.tok _,{_,O},q}
inductive pM(u:Nat)(o:V)(vs:List V)(H:Hp)(Q:VK):Prop
 |mk(x dx p ds xs:_)(_:vs=[x])(_:o=.ref p)(_:DV H x dx)(_:aD H p xs)(_:dV H xs ds)(_:dx.canLay0=true)(_:PyData.canLayAll0 ds=true)(_:dx.depth<=u)(_:Q (.int ((ds.countP λd=>PyData.eqv d dx:Nat):Int)) H)
def QM(f:MD->Bool)(r:ReadsAll h vs ds a):(∀(j:Nat) y d,vs[j]?=!y->ds[j]?=!d->f y=PyData.eqv d dx)->vs.countP f=ds.countP λd=>PyData.eqv d dx:=do(b);(by induction vs generalizing ds a with|nil|cons v vs g=>?_);-r;2;(by cases r with|cons k i=>?_);[List.countP_cons,List.countP_cons,b 0 _ _ rfl rfl,g i λj y d e c=>b (j+1) y d (do 0<|e) (do 0<|c)]
def Oy(V:X.A.units+3+u<cLine):Ar X "list.count" (pM u):=do(pins,s,σ,H,o,vs,v,us,Q,I,M,J,h);{x,dx,p,ds,xs,rfl,rfl,S,E,R,C,cs,U,q}:=h;-M;{w,rfl,c}:=J.one;{T,D}:=S.reads I c;{its,r,N,hz}:=I.list E;{{P,l,data,sl},n,e,k,t,g}:=N;(by dsimp only at k t g;subst k t g);{bs,b}:=R.reads I r;call_meets F.slot_list_count {_,e,O} F.entry_list_count (F.args_list_count_2 _ _) (SeqAt.list_countAt p its.toArray n none sl w (alike its ds dx)) {e,λy f=>?_,?_};f:y∈its:=(do 0<|f);{m,G,B}:=z6.mp f;i:its[m]?=!y:=(do[qe G,B]);{d',_,a,z}:=lU b i;[mD b cs i a];SeqAt.eqAt_reads d' dx _ s y w _ _ z D (ow cs a) C (do¬X.A.units+1+_<cLine;());{.int _,H,I.tok _,{_,O},?_};[List.toList_toArray,QM (dx:=dx) _ b λj y d L K=>mD b cs L K];q
end
def Tp{own:List UK}{g:TG}(hz:xs.length<=sizeLine)(c:Nat->List V->Hp->Prop)(h0:c 0 [] H)(o:∀i zs H,c i zs H->aD H a xs)(w:∀i x zs H' p (l:V->Hp->Prop) (n:Hp->Prop),xs[i]?=!x->c i zs H'->H' p=none->(∀v j,c (i+1) (zs++[v]) j->l v j)->(∀f,c (i+1) zs f->n f)-> g (.ref p) (cO own fr σ) (upd H' p (.tup [.int i,x])) λh H2=>tt h H2 λb f=>if b=true then te h f l else n f)(A:∀H' p zs,c xs.length zs H'->zs.length<=xs.length->H' p=none->Q (.ref p) (upd H' p (.lst zs))):Im own fr g tt te σ Q (OA a) H:=do _;{λi m zs H=>m=xs.length - i/\i<=xs.length/\zs.length<=i/\c i zs H,{xs.length,do 0,Nat.zero_le _,Nat.zero_le _,h0},?_};(i,m,zs,H,{rfl,hi,z,p});k:=o _ _ H p;d<|i<xs.length;.inr {{xs,xs[i],k,do#[d]},(),λv H' y=>?_};{r,x,hn,t,rfl,rfl}:=y;w i x zs H r _ _ (t xs k) p hn (λv j s=>{xs.length - (i+1),(),O,d,?_,s}) λf u=>{xs.length - (i+1),(),O,d,(),u};[qg,qr];();e:i=xs.length:=();!e;.inl {{xs,k,O},λq B=>A H q zs p z B}
def L9{k:Nat}(a:bI k A):A.units+64<cLine:=a.units
def Rq{k:Nat}(a:bI k A):A.units+1+63<cLine:=do this:=a.units;()
def uK{k:Nat}(a:bI k A):A.units+3+61<cLine:=do this:=a.units;()
def iZ(z:UK)(lo hi:Option Int):UK:={((z.cps.toList.drop (HT.b_ z.length 0 lo)).take (HT.b_ z.length z.length hi - HT.b_ z.length 0 lo)).toArray}
def wh(i:Int)(n:Nat):max 0 (min (if i<0 then i+(n:Int) else i) (n:Int))=((if i<0 then(i+(n:Int)).toNat else min i.toNat n:Nat):Int):=do h<|i<0;[qE h,qE h];();[qB h,qB h];()
def Lz(lo hi:Option Int)(n:Nat):Builtin.Str.strSliceIndices lo hi 1 n=(List.range (HT.b_ n n hi - HT.b_ n 0 lo)).map (HT.b_ n 0 lo+·):=do[<-sliceRange_one];@Builtin.Str.strSliceIndices;(by cases lo with|none|some i=>?_;cases hi with|none|some j=>?_);2;¬sliceRange 0 (max 0 (min (if j<0 then j+(n:Int) else j) (n:Int))) 1=_;[wh];2;(by cases hi with|none|some j=>?_);¬sliceRange (max 0 (min (if i<0 then i+(n:Int) else i) (n:Int))) n 1=_;[wh];2;¬sliceRange (max 0 (min (if i<0 then i+(n:Int) else i) (n:Int))) (max 0 (min (if j<0 then j+(n:Int) else j) (n:Int))) 1=_;[wh,wh];2
section
variable {X:Cx}
inductive SR(x:V)(lo:Option Int)(hi:Option Int)(H:Hp)(Q:VK):Prop
 |mk(z:_)(_:x=.str z)(_:z.length<=sizeLine)(_:Q (.str (iZ z lo hi)) H)
def SO(z:UK)(l u:Option (Int×Tok)):((slicePicked z l u none).filterMap (z.cps[·]?))=(iZ z (l.map (·.1)) (u.map (·.1))).cps.toList:=by unfold slicePicked iZ;rw[show((none:Option (Int×Tok)).map (·.1)).getD 1=(1:Int) from rfl,Lz,pick_run]
def SE:wX X SR:=do(pins,s,σ,H,x,v,B,y,lo,hi,sl,Q,I,n,d,o,m,h);{z,rfl,hz,q}:=h;{t,rfl}:=n;{"str",_,F.slot_str_getitem.lookup,typeIs_str _ z t,?_};a:∀l u:Option (Int×Tok),l.map (·.1)=lo->u.map (·.1)=hi->s.heap.IsSlice sl l u none->wpAny 37 X.A (getItem (.str z t) (.ref sl)) (EP X pins σ Q) X.xe s:=λl u j i g=>(do wpAny_getItem_str_slice (st:=none) g rfl ?_;k:=SO z l u;k<-[j,i];@sliceMade;3;(by rename_i b);p:(slicePicked z l u none).length=z.length:=(do b<-[zn];beq_iff_eq.mp b.2);e:iZ z lo hi=z:=(do h1:(slicePicked z l u none).length=HT.b_ z.length z.length hi - HT.b_ z.length 0 lo:=(do@slicePicked;[show((none:Option (Int×Tok)).map (·.1)).getD 1=(1:Int) from rfl,Lz,j,i,qh,zg]);r:HT.b_ z.length z.length hi<=z.length:=(do@HT.b_;by split <;> (try split)<;> omega);h2:HT.b_ z.length 0 lo=0\/z.length=0:=();@iZ;h2||h2:=h2;[h2];h1<-[h2];[show HT.b_ z.length z.length hi - 0=z.cps.toList.length from do this:z.cps.toList.length=z.length:=(do 0;2);(),List.drop_zero,zd];this:z.cps.toList=[]:=(do this:z.cps.size=0:=h2;0<|this);[this];{c}:=z;this<-0;#[this]);{.str z,H,I,{t,O},e▸q};e:(⟨((slicePicked z l u none).filterMap (z.cps[·]?)).toArray⟩:UK)=iZ z lo hi:=(do[k]);f:(iZ z lo hi).length<=z.length:=(do@iZ;¬(List.toArray _).size<=z.length;[zk,wb,v9];¬_<=z.cps.size;this:z.cps.toList.length=z.cps.size:=(do 0);());[e];{qf f hz,.str _,H,I.tok _,{_,O},q});(by cases o <;> cases m);a none none rfl rfl d;a none (!(_,_)) rfl rfl d;a (!(_,_)) none rfl rfl d;a (!(_,_)) (!(_,_)) rfl rfl d
end
section
variable {X:Cx}{tg:Expr}
theorem IM:∀{xs:List V} {us:List MD},aK xs us->aK xs.reverse us.reverse|[],_,h=>(do-h;.nil)|x::xs,_,h=>do(by cases h with|cons r t=>?_);[mh,mh];(IM t).append (.cons r .nil)
def Ll(te:TE)(ts:TO):TE:=λσ H Q=>te σ H λx H1=>ts σ H1 λo H2=>o=!(-1)/\∃a xs,x=.ref a/\aD H2 a xs/\∀p H',H2 p=none->ag H2 H'->H' p=!(.lst xs.reverse)->Q (.ref p) H'
def Oo{e:Expr}{st:Expr}{te:TE}{ts:TO}{pos p2:Pos}(B:PE X e te)(d:PO X (!st) ts):PE X (.Subscript e (.Slice none none (!st) p2) pos) (Ll te ts):=do _;{?_};(pins,s,σ,H,Q,I,h);Subscript_ (bL (B pins s σ H _ I h) λv l ⟨x,H1,k,z,p⟩=>?_);wpAny_Slice ?_;[evalPart_none];qF ?_;qF ?_;bL (d pins l σ H1 _ k p) λvs c ⟨o,u,m,ps,n,t⟩=>?_;!n;{a,xs,rfl,y,q}:=t;f:Inv X pins σ u {c with heap:=c.heap.push {cls:=.type "slice",data:=.fields #[.none,.none,vs]}}:=m.kept (t':=c.toks) λb ob q=>qI _ q;-z;{its,r,g,hz}:=f.list y;j:=r.length;¬wpAny 37 X.A (subscriptTail e (.Slice none none (!st) p2) (.ref a) (.ref ↑c)) (EP X pins σ Q) X.xe {c with heap:=c.heap.push {cls:=.type "slice",data:=.fields #[.none,.none,vs]}};tail_any (ops:=[.ref a,.ref ↑c]) g.isList.typeIs slot_list_getitem.lookup ?_ (by with_unfolding_all rfl);wpAny_getItem_list_slice g.isList (Heap.IsSliceOf.new ..) .none .none ps (do 0) ?_ (by rw[List.size_toArray] <;> omega);[PySem.W.krv_pick];i:=f.a9.fresh (qb _);{.ref _,_,f.laid (t':=c.toks) (o:=.lst xs.reverse) (λb ob q=>qI _ q) (qb _) ?_,O,q _ _ i (ag.new i) aF};{do[yb];hz,its.reverse,0,?_,?_};IM r;qL _ rfl
end
end L2
set_option maxHeartbeats 40000000
namespace Srt
open PySem PySem.W PyProof.Rows
def Ok{α:Type}(n:Nat)(lt:Nat->Nat->Bool)(P:α->Prop):KasT α->Prop|.ret a=>P a|.ask i j k=>i<n/\j<n/\Ok n lt P (k (lt i j))
section
variable {α β:Type}{n:Nat}{lt:Nat->Nat->Bool}
theorem Ok.mono(h:∀a,P a->R a):∀{t:KasT α},Ok n lt P t->Ok n lt R t|.ret _,q=>h _ q|.ask _ _ _,q=>{q.1,q.2.1,Ok.mono h q.2.2}
theorem Ok.bind{R:β->Prop}{f:α->KasT β}:∀{t:KasT α},Ok n lt (λa=>Ok n lt R (f a)) t->Ok n lt R (t.bind f)|.ret _,q=>q|.ask _ _ k,q=>{q.1,q.2.1,Ok.bind (t:=k _) q.2.2}
theorem Ok.wp(c:∀i j C,i<n->j<n->C (lt i j) s->b i j C s)(d:∀a,P a->Q a s) : ∀{t:KasT α},Ok n lt P t->t.kasWp b Q s|.ret _,q=>d _ q|.ask i j k,q=>c i j _ q.1 q.2.1 (Ok.wp c d (t:=k _) q.2.2)
end
structure fx(lt:Nat->Nat->Bool):Prop where
 lG:∀a,lt a a=false
 tr:∀a b c,lt a b=true->lt b c=true->lt a c=true
 nt:∀a b c,lt a c=true->lt a b=true\/lt b c=true
section
variable {n:Nat}{lt:Nat->Nat->Bool}(W:fx lt)
include W
theorem fx.le_of_lt(h:lt a b=true):lt b a=false:=by cases e:lt b a with|false|true=>?_;rfl;rw[<-W.lG a,<-W.tr a b a h e]
theorem fx.dm(h1:lt b a=false)(h2:lt c b=false):lt c a=false:=do(by cases e:lt c a with|false|true=>?_);2;q||q:=W.nt c b a e;h2<-[q];-h2;h1<-[q];-h1
theorem fx.LG(h1:lt a b=true)(h2:lt c b=false):lt a c=true:=do q||q:=W.nt a c b h1;q;h2<-[q];-h2
end
abbrev g(p:Array Nat)(i:Nat):Nat:=p.getD i 0
def Up(lt:Nat->Nat->Bool)(p:Array Nat)(n:Nat):Prop:=∀i j,i<=j->j<n->lt (g p j) (g p i)=false
def Dn(lt:Nat->Nat->Bool)(p:Array Nat)(n:Nat):Prop:=∀i j,i<=j->j<n->lt (g p i) (g p j)=false
def Bd(n:Nat)(p:Array Nat):Prop:=p.size=n/\∀i,g p i<n
def kU(h:p[i]?=q[j]?):g p i=g q j:=do@g;[jm,jm,h]
def nP(hn:0<n)(h:q.Perm p)(b:Bd n p):Bd n q:=do _;{do[h.size_eq];b.1,λi=>?_};@g;[jm];(by cases e:q[i]? with|none|some x=>?_);hn;f:x∈q:=Array.mem_of_getElem? e;a:x∈p:=(h.mem_iff).mp f;{j,d,c}:=Array.mem_iff_getElem.mp a;this:=b.2 j;(by unfold g at this);this<-[jm,jc d,c];this
section
variable {n:Nat}{lt:Nat->Nat->Bool}(W:fx lt)(hn:0<n)
theorem SG{k:Nat}(W:fx lt)(h0:1<=k)(h:Up lt p k)(b:lt (g p k) (g p (k - 1))=false):Up lt p (k+1):=do(i,j,a,d);e<|j=k;!e;c<|i=j;!c;W.lG _;W.dm (h i (j - 1) () ()) b;h i j a ()
theorem uM{k:Nat}(W:fx lt)(h0:1<=k)(h:Dn lt p k)(b:lt (g p (k - 1)) (g p k)=false):Dn lt p (k+1):=do(i,j,a,d);e<|j=k;!e;c<|i=j;!c;W.lG _;W.dm b (h i (j - 1) () ());h i j a ()
theorem CS(W:fx lt)(b:Bd n p):∀(f k:Nat),1<=k->Up lt p k->Ok n lt (λm=>k<=m/\m<=k+f/\Up lt p m/\(m<k+f->lt (g p m) (g p (m - 1))=true)) (kas_asc p f k)| 0,k,_,h=>{Nat.le_refl _,Nat.le_refl _,h,λz=>absurd z (do 0)}|f+1,k,h0,h=>do _;{b.2 _,b.2 _,?_};(by cases e:lt (p.getD k 0) (p.getD (k - 1) 0)with|true|false=>?_);¬Ok n lt _ (if true=true then _ else _);[qE rfl];{qb _,Nat.le_add_right _ _,h,λ_=>e};¬Ok n lt _ (if false=true then _ else _);[qB ⋯];(CS W b f (k+1) () (SG W h0 h e)).mono λm a=>{(),(),a.2.2.1,λz=>a.2.2.2 ()}
theorem DE(W:fx lt)(f:j<=p.size)(d:∀k,i<=k->k<j->lt (g p k) (g p (j - 1))=false/\lt (g p (j - 1)) (g p k)=false)(k:Nat) : lt (g (kas_rev p i j) k) (g p k)=false/\lt (g p k) (g (kas_rev p i j) k)=false:=do e:=getElem?_mirror_all (i:=i) f k;h<|i<=k/\k<j;e<-[qE h];b:g (kas_rev p i j) k=g p (i+j - 1 - k):=kU e;[b];a:=d (i+j - 1 - k) () ();c:=d k h.1 h.2;{W.dm c.2 a.1,W.dm a.2 c.1};e<-[qB h];b:g (kas_rev p i j) k=g p k:=kU e;[b];{W.lG _,W.lG _}
theorem BQ{k:Nat}(W:fx lt)(b:∀i,lt (g q i) (g p i)=false/\lt (g p i) (g q i)=false)(h:Dn lt p k):Dn lt q k:=λi j a c => W.dm (W.dm (b j).2 (h i j a c)) (b i).1
theorem A9{k:Nat}(c:k<=p.size)(h:Dn lt p k):Up lt (kas_rev p 0 k) k:=do(i,j,f,l);e:=getElem?_mirror_all (i:=0) c i;d:=getElem?_mirror_all (i:=0) c j;(by rw[qE {q0 _,()}]at e d);b:g (kas_rev p 0 k) i=g p (0+k - 1 - i):=kU e;a:g (kas_rev p 0 k) j=g p (0+k - 1 - j):=kU d;[b,a];h _ _ () ()
theorem wU(p:Array Nat)(i j:Nat):(kas_rev p i j).Perm p:=mirror_perm p i j _
def Ex(lt:Nat->Nat->Bool)(p:Array Nat)(k q:Nat):Prop:=q+1<=k/\∀m,k - (q+1)<=m->m<k->lt (g p m) (g p (k - 1))=false/\lt (g p (k - 1)) (g p m)=false
theorem tT{k:Nat}(W:fx lt)(h:1<=k):Ex lt p k 0:={(),λm h1 h2=>do this:m=k - 1:=();!this;{W.lG _,W.lG _}}
theorem x6(W:fx lt)(hn:0<n):∀(f:Nat) (p:Array Nat) (k q:Nat),Bd n p->1<=k->k+f<=n->Dn lt p k->Ex lt p k q-> Ok n lt (λr=>r.1.Perm p/\k<=r.2.1/\r.2.1<=k+f/\Dn lt r.1 r.2.1/\Ex lt r.1 r.2.1 r.2.2) (kas_desc f p k q)| 0,p,k,q,_,_,_,hd,hl=>{.refl _,qb _,qb _,hd,hl}|f+1,p,k,q,b,h0,hf,hd,hl=>do _;{b.2 _,b.2 _,?_};(by cases e:lt (p.getD k 0) (p.getD (k - 1) 0)with|true|false=>?_);¬Ok n lt _ (if true=true then _ else _);[qE rfl];l<|q>0;[qE l];c:k<=p.size:=(do[b.1];());j:=DE W c hl.2;d:=wU p (k - (q+1)) k;t:g (kas_rev p (k - (q+1)) k) k=g p k:=kU (do this:=getElem?_mirror_all (i:=k - (q+1)) c k;this<-[qB ()];this);s:Dn lt (kas_rev p (k - (q+1)) k) (k+1):=uM W h0 (BQ W j hd) (do[t];W.dm (W.le_of_lt e) (j (k - 1)).1);(x6 W hn f _ (k+1) 0 (nP hn d b) () () s (tT W ())).mono λr a=>{a.1.trans d,(),(),a.2.2.2};[qB l];(x6 W hn f p (k+1) 0 b () () (uM W h0 hd (W.le_of_lt e)) (tT W ())).mono λr a=>{a.1,(),(),a.2.2.2};¬Ok n lt _ (if false=true then _ else _);[qB ⋯];{b.2 _,b.2 _,?_};(by cases h:lt (p.getD (k - 1) 0) (p.getD k 0)with|true|false=>?_);¬Ok n lt _ (if true=true then _ else _);[qE rfl];{.refl _,qb _,Nat.le_add_right _ _,hd,hl};¬Ok n lt _ (if false=true then _ else _);[qB ⋯];(x6 W hn f p (k+1) (q+1) b () () (uM W h0 hd h) {do this:=hl.1;(),λm h1 h2=>?_}).mono λr a=>{a.1,(),(),a.2.2.2};¬(lt (g p m) (g p k)=false/\lt (g p k) (g p m)=false);o<|m=k;!o;{W.lG _,W.lG _};this:=hl.2 m () ();{W.dm h this.1,W.dm this.2 e}
theorem Mv(W:fx lt)(hn:0<n){k:Nat}(b:Bd n p)(h1:1<=k)(c:k<=n)(d:Dn lt p k):Ok n lt (λr=>1<=r.1/\r.1<=n/\r.2.Perm p/\Up lt r.2 r.1) (kas_tail3 k n p):=do@kas_tail3;a:=wU p 0 k;Ok.bind ((CS W (nP hn a b) (n - k) k h1 (A9 (do[b.1];c) d)).mono λm e=>?_);{(),(),a,e.2.2.1}
theorem Mf(W:fx lt)(hn:0<n){k:Nat}(b:Bd n p)(h1:1<=k)(j:k+1<=n)(i:Dn lt p (k+1)):Ok n lt (λr=>1<=r.1/\r.1<=n/\r.2.Perm p/\Up lt r.2 r.1) (kas_descPart k n p):=do@kas_descPart;Ok.bind ((x6 W hn (n - (k+1)) p (k+1) 0 b () () i (tT W ())).mono λr g=>?_);{d,a1,a2,f,h}:=g;br:=nP hn d b;3;e:r.2.1<=r.1.size:=(do[br.1];());c:=wU r.1 (r.2.1 - (r.2.2+1)) r.2.1;(Mv W hn (nP hn c br) () () (BQ W (DE W e h.2) f)).mono λx a=>{a.1,a.2.1,(a.2.2.1.trans c).trans d,a.2.2.2};(Mv W hn br () () f).mono λx a=>{a.1,a.2.1,a.2.2.1.trans d,a.2.2.2}
theorem OG{k:Nat}(W:fx lt)(h:Up lt p k)(h0:lt (g p 0) (g p (k - 1))=false):Dn lt p k:=λi j b d=>do a:=h 0 i () ();c:=h j (k - 1) () ();W.dm (W.dm c h0) a
theorem Om(W:fx lt)(hn:0<n)(b:Bd n p):Ok n lt (λr=>1<=r.1/\r.1<=n/\r.2.Perm p/\Up lt r.2 r.1) (kas_count n p):=do@kas_count;A:Up lt p 1:=λi j l u=>(do this:i=j:=();!this;W.lG _);Ok.bind ((CS W b (n - 1) 1 () A).mono λk t=>?_);{h1,h2,up,w}:=t;e<|(k==n)=true;[qE e];{h1,(),.refl _,up};[qB e];x:k≠n:=λz=>e (do[z];0);a:=w ();c<|k>1;[qE c];{b.2 _,b.2 _,?_};(by cases v:lt (p.getD 0 0) (p.getD (k - 1) 0)with|true|false=>?_);¬Ok n lt _ (if true=true then _ else _);[qE rfl];{h1,do¬k<=n;(),.refl _,up};¬Ok n lt _ (if false=true then _ else _);[qB ⋯];d:k<=p.size:=(do[b.1];());o:=OG W up v;q:=wU p 0 k;s:=DE (i:=0) W d λm _ B=>{o m (k - 1) () ()|> λz=>z,up m (k - 1) () ()};y:g (kas_rev p 0 k) k=g p k:=kU (do this:=getElem?_mirror_all (i:=0) d k;this<-[qB ()];this);h:Dn lt (kas_rev p 0 k) (k+1):=uM W h1 (BQ W s o) (do[y];W.dm (W.le_of_lt a) (s (k - 1)).1);(Mf W hn (nP hn q b) h1 () h).mono λr f=>{f.1,f.2.1,f.2.2.1.trans q,f.2.2.2};[qB c];this:k=1:=();!this;h:Dn lt p 1:=λi j l u=>(do this:i=j:=();!this;W.lG _);Mf W hn b h1 () (uM W h1 h (W.le_of_lt a))
theorem DU(W:fx lt){k:Nat}(b:Bd n p)(up:Up lt p k):∀(f l r:Nat),l<=r->r<=k->r - l<=f->(∀i,i<l->lt (g p k) (g p i)=false)->(∀i,r<=i->i<k->lt (g p k) (g p i)=true)-> Ok n lt (λm=>m<=k/\(∀i,i<m->lt (g p k) (g p i)=false)/\∀i,m<=i->i<k->lt (g p k) (g p i)=true) (kas_place p k f l r)| 0,l,r,h1,h2,h3,hl,hr=>{(),hl,λi hi a=>hr i () a}|f+1,l,r,h1,h2,h3,hl,hr=>do@kas_place;e<|l>=r;[qE e];{(),hl,λi hi a=>hr i () a};[qB e];{b.2 _,b.2 _,?_};(by cases c:lt (p.getD k 0) (p.getD ((l+r) / 2) 0)with|true|false=>?_);¬Ok n lt _ (if true=true then _ else _);[qE rfl];DU W b up f l ((l+r) / 2) () () () hl λi hi a=>W.LG c (up _ i hi a);¬Ok n lt _ (if false=true then _ else _);[qB ⋯];DU W b up f ((l+r) / 2+1) r () h2 () (λi hi=>W.dm (up i ((l+r) / 2) () ()) c) hr
theorem Lh(W:fx lt)(hn:0<n):∀(f:Nat) (p:Array Nat) (k:Nat),Bd n p->k+f=n->Up lt p k->Ok n lt (λq=>q.Perm p/\Up lt q n) (kas_bin f p k)| 0,p,k,_,hk,up=>{.refl _,do[<-hk];up}|f+1,p,k,b,hk,up=>do@kas_bin;Ok.bind ((DU W b up k 0 k (q0 _) (qb _) () (λi hi=>absurd hi ()) λi h1 h2=>absurd h2 ()).mono λl s=>?_);{y,v,t}:=s;d:=bubble_perm p k (k - l);u:k<p.size:=(do[b.1];());at':∀i,g (bubble p k (k - l)) i=if i=l then g p k else if l<i/\i<=k then g p (i - 1) else g p i:=λi=>(do e:=getElem?_bubble u (k - l) () i;e<-[show k - (k - l)=l from ()];h1<|i=l;(by rw[qE h1]at e ⊢);kU e;(by rw[qB h1]at e ⊢);h2<|l<i/\i<=k;(by rw[qE h2]at e ⊢);kU e;(by rw[qB h2]at e ⊢);kU e);c:Up lt (bubble p k (k - l)) (k+1):=(do(i,j,w,x);[at' i,at' j];m<|i=l;[qE m];a<|j=l;[qE a];W.lG _;[qB a,qE {(),()}];W.le_of_lt (t (j - 1) () ());[qB m];o<|l<i/\i<=k;[qE o,qB (),qE {(),()}];up _ _ () ();[qB o];a<|j=l;[qE a];v i ();[qB a];h<|l<j/\j<=k;[qE h];up _ _ () ();[qB h];up _ _ () ());(Lh W hn f _ (k+1) (nP hn d b) () c).mono λq r=>{r.1.trans d,r.2}
theorem xy(W:fx lt)(hn:0<n):Ok n lt (λq=>q.Perm (List.toArray (List.range n))/\Up lt q n) (kas_sort n):=do@kas_sort;b:Bd n (List.toArray (List.range n)):=(do _;{do 0,λi=>?_};@g;[jm];h<|i<n;#[h];#[h,hn]);Ok.bind ((Om W hn b).mono λr d=>?_);{h1,h2,a,up}:=d;3;(by rename_i f);e:max r.1 1=r.1:=();[e];(Lh W hn _ _ _ (nP hn a b) () up).mono λq c=>{c.1.trans a,c.2};e:r.1=n:=();{a,do[<-e];up}
end
end Srt
namespace L2
open PySem PySem.Spec PyProof.Rows
mutual
inductive DT(H:Hp):V->UI->Prop
 |aV:DT H .aV .none
 |bl (b:Bool):DT H (.bl b) (.bool b)
 |int (i:Int):DT H (.int i) (.int i)
 |str (z:UK):DT H (.str z) (.str z)
 |tup {p:UJ} {xs:List V} {ds:List UI}:H p=!(.tup xs)->dn H xs ds->DT H (.ref p) (.tuple ds)
inductive dn(H:Hp):List V->List UI->Prop
 |nil:dn H [] []
 |cons {x:V} {xs:List V} {d:UI} {ds:List UI}:DT H x d->dn H xs ds->dn H (x::xs) (d::ds)
end
mutual
theorem DT.same(e:ag H H'):∀{x:V} {d:UI},DT H x d->DT H' x d
 |_,_,.aV=>.aV
 |_,_,.bl b=>.bl b
 |_,_,.int i=>.int i
 |_,_,.str z=>.str z
 |_,_,.tup h t=>.tup (e _ _ h) (dn.same e t)
theorem dn.same(e:ag H H'):∀{xs:List V} {ds:List UI},dn H xs ds->dn H' xs ds
 |_,_,.nil=>.nil
 |_,_,.cons h t=>.cons (DT.same e h) (dn.same e t)
end
mutual
theorem DT.dv:∀{x:V} {d:UI},DT H x d->DV H x d
 |_,_,.aV=>.aV
 |_,_,.bl b=>.bl b
 |_,_,.int i=>.int i
 |_,_,.str z=>.str z
 |_,_,.tup h t=>.tup (aS.of h) (dn.dv t)
theorem dn.dv:∀{xs:List V} {ds:List UI},dn H xs ds->dV H xs ds
 |_,_,.nil=>.nil
 |_,_,.cons h t=>.cons (DT.dv h) (dn.dv t)
end
def Nd{H:Hp}{a b:UJ}{xs:List V}{o:HO}(d:H a=!(.tup xs))(c:H b=!o)(f:∀ys,o≠.tup ys):a≠b:=λe=>do !e;c<-[d];f xs (qJ c).symm
mutual
def fQ:UI->Bool
 |.none=>true
 |.bool _=>false
 |.int _=>true
 |.str _=>true
 |.list xs=>mG xs
 |.tuple xs=>mG xs
 |.dict _=>false
def mG:List UI->Bool
 |[]=>true
 |x::xs=>fQ x&&mG xs
end
mutual
theorem tJ:∀(a b:UI),fQ a=true->fQ b=true->(PyData.eqv a b=true↔a=b)
 |.list xs,b,ha,hb=>by
  cases b with
  |list ys =>
   have:=Fj xs ys (by simpa[fQ] using ha) (by simpa[fQ] using hb)
   simp only[PyData.eqv,this,PyData.list.injEq]
  |_=>simp[PyData.eqv]
 |.tuple xs,b,ha,hb=>by
  cases b with
  |tuple ys =>
   have:=Fj xs ys (by simpa[fQ] using ha) (by simpa[fQ] using hb)
   simp only[PyData.eqv,this,PyData.tuple.injEq]
  |_=>simp[PyData.eqv]
 |.dict _,_,ha,_=>by simp[fQ]at ha
 |.bool _,_,ha,_=>by simp[fQ]at ha
 |.none,b,_,hb=>by cases b <;> simp_all [PyData.eqv,fQ]
 |.int i,b,_,hb=>by cases b <;> simp_all [PyData.eqv,fQ]
 |.str i,b,_,hb=>by cases b <;> simp_all [PyData.eqv,fQ]
theorem Fj:∀(xs ys:List UI),mG xs=true->mG ys=true->(PyData.eqvAll xs ys=true↔xs=ys)
 |[],ys,_,_=>by cases ys <;> simp[PyData.eqvAll]
 |x::xs,ys,ha,hb=>by
  cases ys with
  |nil=>simp[PyData.eqvAll]
  |cons y ys =>
   rw[mG,zn]at ha hb;have h1:=tJ x y ha.1 hb.1;have h2:=Fj xs ys ha.2 hb.2
   simp only[PyData.eqvAll,Bool.and_eq_true,h1,h2,List.cons.injEq]
end
theorem nY:∀{xs:List UI},(∀x∈xs,fQ x=true)->mG xs=true|[],_=>rfl|x::xs,h=>do[mG,h x qi,nY λy a=>h y (qm _ a)];2
theorem fF:∀{xs:List UI},(∀x∈xs,x.canLay0=true)->PyData.canLayAll0 xs=true|[],_=>rfl|x::xs,h=>do¬(x.canLay0&&PyData.canLayAll0 xs)=true;[h x qi,fF λy a=>h y (qm _ a)];2
def GW{α:Type}{l:List α}{x:α}(h:l.Nodup)(f:x∉l):(l++[x]).Nodup := yn.mpr {h,zv.mpr {λz=>(List.not_mem_nil z).elim,wv},λa d b c e=>f (do e<-[qo.mp c];[<-e];d)}
mutual
def sk:UI->UI->Bool
 |.none,.none=>true
 |.bool _,.bool _=>true
 |.int _,.int _=>true
 |.str _,.str _=>true
 |.tuple xs,.tuple ys=>fD xs ys
 |_,_=>false
def fD:List UI->List UI->Bool
 |[],_=>true
 |_::_,[]=>true
 |x::xs,y::ys=>sk x y&&fD xs ys
end
mutual
def bN:UI->UI->Bool
 |.bool a,.bool b=>not a&&b
 |.int i,.int j=>decide (i<j)
 |.str x,.str y=>decide (x.cps.toList<y.cps.toList)
 |.tuple xs,.tuple ys=>bF xs ys
 |_,_=>false
def bF:List UI->List UI->Bool
 |[],[]=>false
 |[],_::_=>true
 |_::_,[]=>false
 |x::xs,y::ys=>if PyData.eqv x y=true then bF xs ys else bN x y
end
mutual
theorem cP:∀(a b:UI),sk a b=true->(PyData.eqv a b=true↔a=b)
 |.tuple xs,b,h=>by
  cases b with
  |tuple ys=>simp only[PyData.eqv,PyData.tuple.injEq];exact Jv xs ys (by simpa[sk] using h)
  |_=>simp[sk]at h
 |.none,b,h=>by cases b <;> simp_all [sk,PyData.eqv]
 |.bool _,b,h=>by cases b <;> simp_all [sk,PyData.eqv]
 |.int _,b,h=>by cases b <;> simp_all [sk,PyData.eqv]
 |.str _,b,h=>by cases b <;> simp_all [sk,PyData.eqv]
 |.list _,b,h=>by cases b <;> simp[sk]at h
 |.dict _,b,h=>by cases b <;> simp[sk]at h
theorem Jv:∀(xs ys:List UI),fD xs ys=true->(PyData.eqvAll xs ys=true↔xs=ys)
 |[],ys,_=>by cases ys <;> simp[PyData.eqvAll]
 |x::xs,[],_=>by simp[PyData.eqvAll]
 |x::xs,y::ys,h=>by
  rw[fD,zn]at h
  simp only[PyData.eqvAll,Bool.and_eq_true,cP x y h.1,Jv xs ys h.2,List.cons.injEq]
end
def Qm{x y:UK}(h:x.cps.toList=y.cps.toList):x=y:=do _;{a}:=x;{b}:=y;congrArg Str.mk (Array.ext' h)
mutual
theorem lX:∀a:UI,bN a a=false
 |.tuple xs=>by rw[bN];exact Le xs
 |.none=>rfl
 |.bool b=>by cases b <;> rfl
 |.int i=>by simp[bN]
 |.str x=>by simp[bN,List.lt_irrefl]
 |.list _=>rfl
 |.dict _=>rfl
theorem Le:∀xs:List UI,bF xs xs=false
 |[]=>rfl
 |x::xs=>by
  rw[bF,Le xs,lX x]
  split <;> rfl
end
mutual
theorem Ff:∀(a b:UI),sk a b=true->bN a b=false->bN b a=false->a=b
 |.tuple xs,b,h,h1,h2=>by
  cases b with
  |tuple ys=>exact congrArg PyData.tuple (JA xs ys (by simpa[sk] using h) (by simpa[bN] using h1) (by simpa[bN] using h2))
  |_=>simp[sk]at h
 |.none,b,h,_,_=>by cases b <;> simp_all [sk]
 |.bool a,b,h,h1,h2=>by
  cases b with
  |bool c=>cases a <;> cases c <;> simp_all [bN]
  |_=>simp[sk]at h
 |.int i,b,h,h1,h2=>by
  cases b with
  |int j=>simp only[bN,decide_eq_false_iff_not]at h1 h2;exact congrArg _ ()
  |_=>simp[sk]at h
 |.str x,b,h,h1,h2=>by
  cases b with
  |str y =>
   simp only[bN,decide_eq_false_iff_not]at h1 h2
   exact congrArg _ (Qm (List.le_antisymm (mi.mp h2) (mi.mp h1)))
  |_=>simp[sk]at h
 |.list _,b,h,_,_=>by cases b <;> simp[sk]at h
 |.dict _,b,h,_,_=>by cases b <;> simp[sk]at h
theorem JA:∀(xs ys:List UI),fD xs ys=true->bF xs ys=false->bF ys xs=false->xs=ys
 |[],[],_,_,_=>rfl
 |[],_::_,_,h,_=>by simp[bF]at h
 |_::_,[],_,_,h=>by simp[bF]at h
 |x::xs,y::ys,h,h1,h2=>by
  rw[fD,zn]at h
  by_cases e:x=y
  .subst e
   have ex:PyData.eqv x x=true:=(cP x x h.1).mpr rfl;rw[bF,qE ex]at h1 h2;rw[JA xs ys h.2 h1 h2]
  .have b:¬PyData.eqv x y=true:=λz=>e ((cP x y h.1).mp z)
   have a:sk y x=true:=Lb x y h.1;have c:¬PyData.eqv y x=true:=λz=>e ((cP y x a).mp z).symm;rw[bF,qB b]at h1;rw[bF,qB c]at h2;exact absurd (Ff x y h.1 h1 h2) e
theorem Lb:∀(a b:UI),sk a b=true->sk b a=true
 |.tuple xs,b,h=>by
  cases b with
  |tuple ys=>rw[sk];exact LN xs ys (by simpa[sk] using h)
  |_=>simp[sk]at h
 |.none,b,h=>by cases b <;> simp_all [sk]
 |.bool _,b,h=>by cases b <;> simp_all [sk]
 |.int _,b,h=>by cases b <;> simp_all [sk]
 |.str _,b,h=>by cases b <;> simp_all [sk]
 |.list _,b,h=>by cases b <;> simp[sk]at h
 |.dict _,b,h=>by cases b <;> simp[sk]at h
theorem LN:∀(xs ys:List UI),fD xs ys=true->fD ys xs=true
 |[],[],_=>rfl
 |[],_::_,_=>rfl
 |_::_,[],_=>rfl
 |x::xs,y::ys,h=>by
  rw[fD,zn]at h ⊢;exact{Lb x y h.1,LN xs ys h.2}
end
mutual
theorem sG:∀(a b c:UI),sk a b=true->sk b c=true->sk a c=true->bN a b=true->bN b c=true->bN a c=true
 |.tuple xs,b,c,h1,h2,h3,l1,l2=>by
  cases b with
  |tuple ys =>
   cases c with
   |tuple zs=>rw[bN];exact IB xs ys zs (by simpa[sk] using h1) (by simpa[sk] using h2) (by simpa[sk] using h3) (by simpa[bN] using l1) (by simpa[bN] using l2)
   |_=>simp[sk]at h3
  |_=>simp[sk]at h1
 |.none,b,c,_,_,_,l1,_=>by cases b <;> simp[bN]at l1
 |.bool a,b,c,h1,h2,h3,l1,l2=>by
  cases b with
  |bool y =>
   cases c with
   |bool z=>cases a <;> cases y <;> cases z <;> simp_all [bN]
   |_=>simp[sk]at h3
  |_=>simp[sk]at h1
 |.int i,b,c,h1,h2,h3,l1,l2=>by
  cases b with
  |int y =>
   cases c with
   |int z=>simp only[bN,decide_eq_true_eq]at *;omega
   |_=>simp[sk]at h3
  |_=>simp[sk]at h1
 |.str i,b,c,h1,h2,h3,l1,l2=>by
  cases b with
  |str y =>
   cases c with
   |str z=>simp only[bN,decide_eq_true_eq]at *;exact List.lt_trans l1 l2
   |_=>simp[sk]at h3
  |_=>simp[sk]at h1
 |.list _,b,c,_,_,_,l1,_=>by cases b <;> simp[bN]at l1
 |.dict _,b,c,_,_,_,l1,_=>by cases b <;> simp[bN]at l1
theorem IB:∀(xs ys zs:List UI),fD xs ys=true->fD ys zs=true->fD xs zs=true->bF xs ys=true->bF ys zs=true->bF xs zs=true
 |_,_,[],_,_,_,_,l2=>by
  rename_i ys _ _ _ _
  cases ys <;> simp[bF]at l2
 |[],_,_::_,_,_,_,_,_=>rfl
 |x::xs,[],_::_,_,_,_,l1,_=>by simp[bF]at l1
 |x::xs,y::ys,z::zs,h1,h2,h3,l1,l2=>by
  rw[fD,zn]at h1 h2 h3
  by_cases e:x=y
  .subst e
   have b:PyData.eqv x x=true:=(cP x x h1.1).mpr rfl;rw[bF,qE b]at l1
   by_cases a:x=z
   .subst a
    rw[bF,qE b]at l2 ⊢;exact IB xs ys zs h1.2 h2.2 h3.2 l1 l2
   .have d:¬PyData.eqv x z=true:=λw=>a ((cP x z h3.1).mp w)
    rw[bF,qB d]at l2 ⊢;exact l2
  .have b:¬PyData.eqv x y=true:=λw=>e ((cP x y h1.1).mp w)
   rw[bF,qB b]at l1
   by_cases a:y=z
   .subst a
    rw[bF,qB b];exact l1
   .have d:¬PyData.eqv y z=true:=λw=>a ((cP y z h2.1).mp w)
    rw[bF,qB d]at l2;have c:=sG x y z h1.1 h2.1 h3.1 l1 l2
    have f:¬PyData.eqv x z=true:=λw=>by
     have:=(cP x z h3.1).mp w;subst this;rw[lX]at c;cases c
    rw[bF,qB f];exact c
end
mutual
theorem HJ:∀(a b c:UI),sk a b=true->sk b c=true->sk a c=true->bN a c=true->bN a b=true\/bN b c=true
 |.tuple xs,b,c,h1,h2,h3,l=>by
  cases b with
  |tuple ys =>
   cases c with
   |tuple zs=>rw[bN,bN];exact J8 xs ys zs (by simpa[sk] using h1) (by simpa[sk] using h2) (by simpa[sk] using h3) (by simpa[bN] using l)
   |_=>simp[sk]at h3
  |_=>simp[sk]at h1
 |.none,b,c,_,_,_,l=>by cases c <;> simp[bN]at l
 |.bool a,b,c,h1,h2,h3,l=>by
  cases b with
  |bool y =>
   cases c with
   |bool z=>cases a <;> cases y <;> cases z <;> simp_all [bN]
   |_=>simp[sk]at h3
  |_=>simp[sk]at h1
 |.int i,b,c,h1,h2,h3,l=>by
  cases b with
  |int y =>
   cases c with
   |int z=>simp only[bN,decide_eq_true_eq]at *;omega
   |_=>simp[sk]at h3
  |_=>simp[sk]at h1
 |.str i,b,c,h1,h2,h3,l=>by
  cases b with
  |str y =>
   cases c with
   |str z =>
    simp only[bN,decide_eq_true_eq]at *
    by_cases d:i.cps.toList<y.cps.toList
    .exact .inl d
    .exact .inr (List.lt_of_le_of_lt (mi.mp d) l)
   |_=>simp[sk]at h3
  |_=>simp[sk]at h1
 |.list _,b,c,_,_,_,l=>by cases c <;> simp[bN]at l
 |.dict _,b,c,_,_,_,l=>by cases c <;> simp[bN]at l
theorem J8:∀(xs ys zs:List UI),fD xs ys=true->fD ys zs=true->fD xs zs=true->bF xs zs=true->bF xs ys=true\/bF ys zs=true
 |xs,_,[],_,_,_,l=>by cases xs <;> simp[bF]at l
 |[],[],_::_,_,_,_,_=>.inr rfl
 |[],_::_,_::_,_,_,_,_=>.inl rfl
 |x::xs,[],_::_,_,_,_,_=>.inr rfl
 |x::xs,y::ys,z::zs,h1,h2,h3,l=>by
  rw[fD,zn]at h1 h2 h3
  by_cases e:x=z
  .subst e
   have a:PyData.eqv x x=true:=(cP x x h3.1).mpr rfl;rw[bF,qE a]at l
   by_cases b:x=y
   .subst b
    rw[bF,qE a,bF,qE a];exact J8 xs ys zs h1.2 h2.2 h3.2 l
   .have c:¬PyData.eqv x y=true:=λw=>b ((cP x y h1.1).mp w)
    have d:¬PyData.eqv y x=true:=λw=>b ((cP y x h2.1).mp w).symm;rw[bF,qB c,bF,qB d]
    cases f:bN x y with
    |true=>exact .inl rfl
    |false =>
     cases p2:bN y x with
     |true=>exact .inr rfl
     |false=>exact absurd (Ff x y h1.1 f p2) b
  .have a:¬PyData.eqv x z=true:=λw=>e ((cP x z h3.1).mp w)
   rw[bF,qB a]at l;rcases HJ x y z h1.1 h2.1 h3.1 l with p|p
   .left
    have c:¬PyData.eqv x y=true:=λw=>by
     have:=(cP x y h1.1).mp w;subst this;rw[lX]at p;cases p
    rw[bF,qB c];exact p
   .right
    have d:¬PyData.eqv y z=true:=λw=>by
     have:=(cP y z h2.1).mp w;subst this;rw[lX]at p;cases p
    rw[bF,qB d];exact p
end
def eh(A:Around)(s:UH)(x y:MD)(b:Bool):Prop:=∀(prog:Program) (w:World) (E:KE) (Q:KE),Q (.bool b) s->wpAny 66 A (richCompare .Lt x y) Q E s
open SeqAt in
def Qe(l b:UJ)(us vs:Array MD)(n D:Nat)(v r:Option UJ)(sl t:Array (Option MD))(e:Nat->Bool)(c:Bool) :
  Meets (Builtin.«tuple.__lt__» {[.ref l,.ref b],[]})
   (λA R s=>s.heap.get? l=some { cls:=.type "tuple",dict:=v,data:=.seq us n,slots:=sl }/\s.heap.get? b=some { cls:=.type "tuple",dict:=r,data:=.seq vs D,slots:=t } ∧
    (∀j (h1:j<us.size) (h2:j<vs.size),EqAt A.in1 s us[j] vs[j] (e j)) ∧
    (∀i (h1:i<us.size) (h2:i<vs.size),(∀j,j<i->e j=true)->e i=false->eh A.in1 s us[i] vs[i] c) ∧
    ((∀j,j<min us.size vs.size->e j=true)->c=decide (us.size<vs.size))/\R (.ok (.ret (.bool c))) s) :=
 .of_wp λprog w A R s h=>by
  obtain⟨hp,g,d,tk,B⟩:=s;obtain⟨C,u,G,p,f,h⟩:=h;have K:=AutoSeq1.sub_tuple_tuple
  have I:(us.toList.zip vs.toList).length=min us.size vs.size:=by simp
  wp_walk using wpAny_loadPart' C,wpAny_loadPart' u,wpAny_forIn_list _ (λrest b s'=>b.1=none/\s'={hp,g,d,tk,B}/\∃i,rest=(us.toList.zip vs.toList).drop i/\∀j,j<i->e j=true) _
  case turn =>
   rintro⟨y,x⟩ rest b s' ⟨a,rfl,i,hz,hi⟩
   have k:i<(us.toList.zip vs.toList).length:=by
    rcases yz i (us.toList.zip vs.toList).length with h' |h'
    .exact h'
    .rw[bg h']at hz;cases hz
   have h1:i<us.size:=()
   have h2:i<vs.size:=()
   rw[jn k]at hz;injection hz with hyx hrest
   have m:y=us[i]:=by have:=congrArg Prod.fst hyx;simpa using this
   have E:x=vs[i]:=by have:=congrArg Prod.snd hyx;simpa using this
   subst m E;refine qA (G i h1 h2 prog w _ _ ?_)
   cases m:e i with
   |true =>
    wp_walk
    exact{O,O,i+1,hrest,λj o=>by
     by_cases z:j=i
     .rw[z];exact m
     .exact hi j ()}
   |false =>
    have q:=p i h1 h2 hi m;dsimp only;rw[qE (by rfl)];refine qA (wpAny_rule (qA (q prog w _ _ ?_)));exact qA (qF (qF (qF {_,O,h})))
  case fin =>
   rintro⟨H,J⟩ s' ⟨a,rfl,i,hz,hi⟩
   simp only at a
   subst a
   have F:min us.size vs.size<=i:=by
    rcases yz i (us.toList.zip vs.toList).length with h' |h'
    .rw[jn h']at hz;cases hz
    .omega
   have:=f λj o=>hi j ()
   wp_walk
   exact{_,O,by rw[this]at h;simpa[Builtin.Tuple.tupleCompareSizes] using h}
  case h =>
   exact{O,O,0,O,λj o=>absurd o (yf _)}
def eh.tuples{A:Around}{s:UH}{l b:UJ}{us vs:Array MD}{e:Nat->Bool}{c:Bool}(u:s.heap.IsTuple l us)(z:s.heap.IsTuple b vs)(C:A.units<cLine)(D:∀j (h1:j<us.size) (h2:j<vs.size),SeqAt.EqAt A.in1 s us[j] vs[j] (e j))(g:∀i (h1:i<us.size) (h2:i<vs.size),(∀j,j<i->e j=true)->e i=false->eh A.in1 s us[i] vs[i] c)(d:(∀j,j<min us.size vs.size->e j=true)->c=decide (us.size<vs.size)):eh A s (.ref l) (.ref b) c:=λprog w E Q h=>do _;{{v,B,data,sl},q,p,n,t}:=id u;{{r,o,k,m},f,a,y,hd2}:=id z;(by simp only at p t a hd2;subst p t a hd2);richCompare_meets_room (op:=.Lt) {_,q,O} {_,f,O} F.slot_tuple_lt F.entry_tuple_lt (F.args_tuple_lt_2 _ _) (Qe l b us vs n y B o sl m e c) {q,f,D,g,d,show Value.bool c≠Value.notImplemented/\Q (.bool c) s from{(λx=>nomatch x),h}} C
def eh.ints(i j:Int)(t u:Tok):eh A s (.int i t) (.int j u) (decide (i<j)):=λprog w E Q h=>PyProof.Rows.lt_int h
def eh.strs(i j:UK)(t u:Tok):eh A s (.str i t) (.str j u) (decide (i.cps.toList<j.cps.toList)):=λprog w E Q h=>PyProof.Rows.lt_str h
def eh.bools(i j:Bool):eh A s (.bool i) (.bool j) (not i&&j):=λprog w E Q h=>do PyProof.Rows.lt_bool ?_;by cases i <;> cases j <;> exact h
open SeqAt in
theorem Dj:∀(xs ys:List UI) (i:Nat),i<xs.length->i<ys.length->(∀j,j<i->pairEq xs ys j=true)->pairEq xs ys i=false->bF xs ys=bN (xs.getD i .none) (ys.getD i .none)
 |x::xs,y::ys,0,_,_,_,h=>by
  have h':PyData.eqv x y=false:=h;rw[bF,qB (by rw[h'];decide)];rfl
 |x::xs,y::ys,i+1,h1,h2,hj,h=>by
  have h':PyData.eqv x y=true:=hj 0 ();rw[bF,qE h'];exact Dj xs ys i (by simpa using h1) (by simpa using h2) (λj a=>hj (j+1) ()) h
 |[],_,_,h1,_,_,_=>absurd h1 (yf _)
 |_::_,[],_,_,h2,_,_=>absurd h2 (yf _)
open SeqAt in
theorem Dr:∀(xs ys:List UI),(∀j,j<min xs.length ys.length->pairEq xs ys j=true)->bF xs ys=decide (xs.length<ys.length)
 |[],[],_=>rfl
 |[],_::_,_=>by simp[bF]
 |_::_,[],_=>by simp[bF]
 |x::xs,y::ys,h=>by
  have h':PyData.eqv x y=true:=h 0 (by simp);rw[bF,qE h',Dr xs ys λj a=>h (j+1) (by simp only[List.length_cons];omega)]
  simp
theorem MP:∀(xs ys:List UI) (i:Nat),i<xs.length->i<ys.length->fD xs ys=true->sk (xs.getD i .none) (ys.getD i .none)=true|x::xs,y::ys,0,_,_,h=>(do h<-[fD,zn];h.1)|x::xs,y::ys,i+1,h1,h2,h=>(do h<-[fD,zn];MP xs ys i (do 0<|h1) (do 0<|h2) h.2)|[],_,_,h1,_,_=>absurd h1 (yf _)|_::_,[],_,_,h2,_=>absurd h2 (yf _)
theorem xb:∀(xs:List UI) (i:Nat),i<xs.length->(xs.getD i .none).depth<=PyData.depthAll xs|x::xs,0,_=>(do¬x.depth<=max x.depth _;())|x::xs,i+1,h=>(do this:=xb xs i (do 0<|h);¬(xs.getD i .none).depth<=max x.depth (PyData.depthAll xs);())|[],_,h=>absurd h (yf _)
theorem iU:∀{vs:List MD} {ds:List UI} {a:List UJ} {i:Nat} (hi:i<vs.length),ReadsAll h vs ds a->∃bs,Reads h vs[i] (ds.getD i .none) bs|_,_,_,0,_,.cons r _=>{_,r}|_,_,_,i+1,hi,.cons _ t=>iU (i:=i) (do 0<|hi) t
def qP(h:PyData.canLayAll0 ds=true)(hi:i<ds.length):(ds.getD i .none).canLay0=true := ow (j:=i) h (do[ze,qe hi];2)
open SeqAt in
theorem MV:∀(n:Nat) (k c:UI) (A:Around) (s:UH) (a b:MD) (d bs:List UJ),k.depth<=n->Reads s.heap a k d->Reads s.heap b c bs->k.canLay0=true->c.canLay0=true->sk k c=true->k≠.none->
  A.units+n<cLine->eh A s a b (bN k c)
 |n,.int i,c,A,s,a,b,d,bs,_,ra,rb,_,_,hk,_,_=>by
  cases c <;> simp[sk]at hk;cases ra;cases rb;exact eh.ints _ _ _ _
 |n,.str i,c,A,s,a,b,d,bs,_,ra,rb,_,_,hk,_,_=>by
  cases c <;> simp[sk]at hk;cases ra;cases rb;exact eh.strs _ _ _ _
 |n,.bool i,c,A,s,a,b,d,bs,_,ra,rb,_,_,hk,_,_=>by
  cases c <;> simp[sk]at hk;cases ra;cases rb;exact eh.bools _ _
 |n,.none,c,A,s,a,b,d,bs,_,_,_,_,_,_,hn,_=>absurd rfl hn
 |n,.list _,c,A,s,a,b,d,bs,_,_,_,_,_,hk,_,_=>by cases c <;> simp[sk]at hk
 |n,.dict _,c,A,s,a,b,d,bs,_,_,_,_,_,hk,_,_=>by cases c <;> simp[sk]at hk
 | 0,.tuple xs,c,A,s,a,b,d,bs,hd,_,_,_,_,_,_,_=>by
  have:PyData.depthAll xs+1<=0:=hd;omega
 |n+1,.tuple xs,c,A,s,a,b,d,bs,hd,ra,rb,ca,cb,hk,_,hu=>by
  cases c with
  |tuple ys =>
   have v:fD xs ys=true:=by simpa[sk] using hk
   have y:PyData.depthAll xs<=n:=by
    have:PyData.depthAll xs+1<=n+1:=hd;omega
   cases ra with
   |tuple h1 h2 H B =>
    cases rb with
    |tuple K G J w =>
     rename_i l o us m M o' vs N
     have E:=ReadsAll.length _ _ _ B;have C:=ReadsAll.length _ _ _ w;rw[zu]at E C
     have e:bN (.tuple xs) (.tuple ys)=bF xs ys:=by rw[bN]
     rw[e]
     have t:∀j (p:j<us.size) (q:j<vs.size),EqAt A.in1 s us[j] vs[j] (pairEq xs ys j):=λj p q=>by
      obtain⟨F,x⟩:=iU (i:=j) (by rw[zu];exact p) B;obtain⟨p2,u⟩:=iU (i:=j) (by rw[zu];exact q) w;have L:=xb xs j ();have:=eqAt_reads (xs.getD j .none) (ys.getD j .none) A.in1 s _ _ _ _ x u (qP ca ()) (qP cb ()) (by show A.units+1+_<cLine;omega)
      simp only[Array.getElem_toList]at this
      exact this
     refine eh.tuples {_,h1,h2,_,H} {_,K,G,_,J} () t (λi p q r D=>?_) λr=>?_
     .obtain⟨F,x⟩:=iU (i:=i) (by rw[zu];exact p) B
      obtain⟨p2,u⟩:=iU (i:=i) (by rw[zu];exact q) w;rw[Dj xs ys i () () r D];have f:=MP xs ys i () () v
      have:=MV n (xs.getD i .none) (ys.getD i .none) A.in1 s _ _ _ _ (qf (xb xs i ()) y) x u (qP ca ()) (qP cb ()) f (λz=>by
       have g:PyData.eqv (xs.getD i .none) (ys.getD i .none)=false:=D;rw[z]at f g
       cases I:ys.getD i .none <;> rw[I]at f g <;> simp[sk,PyData.eqv]at f g) (by show A.units+1+_<cLine;omega)
      simpa using this
     .rw[Dr xs ys λj h=>r j (),E,C]
  |_=>simp[sk]at hk
end L2
namespace Tim
open PySem PySem.W PyProof.Rows Srt
abbrev S(κ:SortKind)(it:Array Keyed)(p:Array Nat)(pd:Array (Nat×Nat×Nat))(m:Nat):SortSt:=SortSt.mk' κ (p.map (kas_item it)) pd m none
def G5(prog:Program)(w:World)(A:Around)(s:UH)(κ:SortKind)(it:Array Keyed)(n:Nat)(lt:Nat->Nat->Bool):Prop := ∀i j (C:Bool->UH->Prop),i<n->j<n->C (lt i j) s->kas_cmp prog w A κ it i j C s
def In(n:Nat)(p:Array Nat):Prop:=∀i,i<p.size->g p i<n
section
variable {prog:Program}{w:World}{A:Around}{E:KE}{s:UH}{κ:SortKind}{it:Array Keyed}{n:Nat}{lt:Nat->Nat->Bool}{p:Array Nat}{pd:Array (Nat×Nat×Nat)}{mg:Nat}
def Lw(g:G5 prog w A s κ it n lt){i j:Nat}{st:SortSt}{Q:Option Bool->SortSt->Prop}(a:kindOf st=κ)(hi:i<n)(e:j<n)(h:Q (!(lt i j)) st):wpS 66 A E s (lt' (kas_item it i) (kas_item it j)) Q st:=do[lt'_eq];wpS_bind (wpS_get ?_);[a];wpS_bind (wpS_lift (wpAny_attempt (qM (g i j (λb s'=>s'=s/\b=lt i j) hi e {O,O}) (λc s' d=>?_) λ_ _ f=>f.elim)));{rfl,rfl}:=d;{O,wpS_pure h}
def C4(hi:i<p.size):(p.map (kas_item it))[i]?=!(kas_item it (g p i)):=do e:g p i=p[i]:=(do@g;#[Array.getD,hi]);[e];#[hi]
def Lv{i:Nat}{st:SortSt}{Q:Keyed->SortSt->Prop}(hi:i<p.size)(h:Q (kas_item it (g p i)) st):wpS 66 A E s (elem' (p.map (kas_item it)) i) Q st:=do[elem'_eq,C4 hi];wpS_pure h
def Pt(c:G5 prog w A s κ it n lt)(a:In n p){i j:Nat}{Q:Option Bool->SortSt->Prop}(hi:i<p.size)(b:j<p.size)(h:Q (!(lt (g p i) (g p j))) (S κ it p pd mg)):wpS 66 A E s (ltAt' i j) Q (S κ it p pd mg):=do[ltAt'_eq];wpS_bind (wpS_get ?_);wpS_bind (Lv hi (wpS_bind (Lv b (Lw c rfl (a i hi) (a j b) h))))
end
def Aq(lt:Nat->Nat->Bool)(lo:Nat)(p:Array Nat)(k:Nat):Prop:=∀i j,lo<=i->i<=j->j<k->lt (g p j) (g p i)=false
section
variable {lt:Nat->Nat->Bool}{lo:Nat}{p:Array Nat}
def up1(W:fx lt):Aq lt lo p (lo+1):=λi j h1 h2 a=>do this:i=j:=();!this;W.lG _
def Q9{k:Nat}(W:fx lt)(h0:lo+1<=k)(h:Aq lt lo p k)(b:lt (g p k) (g p (k - 1))=false):Aq lt lo p (k+1):=do(i,j,h1,a,d);e<|j=k;!e;c<|i=j;!c;W.lG _;W.dm (h i (j - 1) h1 () ()) b;h i j h1 a ()
end
section
variable {prog:Program}{w:World}{A:Around}{E:KE}{s:UH}{κ:SortKind}{it:Array Keyed}{n:Nat}{lt:Nat->Nat->Bool}{p:Array Nat}{pd:Array (Nat×Nat×Nat)}{mg:Nat}{lo nrem:Nat}
def N6(W:fx lt)(u:G5 prog w A s κ it n lt)(q:In n p){a:Nat}{Q:AscSt->SortSt->Prop}{f:Nat->AscSt->StateT SortSt Sem (ForInStep AscSt)}(o:∀x (k:Nat),f x (none,k)=(do{let r <-ltAt' (lo+k) (lo+k - 1);match r with|some b=>if b=true then pure (ForInStep.done (none,k)) else pure (ForInStep.yield (none,k+1))|_=>pure (ForInStep.done (!none,k))}))(v:1<=a)(l:a<=nrem)(hz:lo+nrem<=p.size)(t:Aq lt lo p (lo+a))(h:∀k,a<=k->k<=nrem->Aq lt lo p (lo+k)->(k<nrem->lt (g p (lo+k)) (g p (lo+k - 1))=true)->Q (none,k) (S κ it p pd mg)) : wpS 66 A E s (forIn [a:nrem] ((none,a):AscSt) f) Q (S κ it p pd mg):=do wpS_forRange (I:=λx c i=>i=S κ it p pd mg/\c=(none,x)/\Aq lt lo p (lo+x)) ?step ?fin {O,O,t};by(case fin =>(rintro c i ⟨rfl,rfl,d⟩;rw[show max a nrem=nrem from ()]at d ⊢;exact h nrem l (qb _) d λz=>absurd z (wj _)));case step =>(rintro x c i j m ⟨rfl,rfl,d⟩;rw[o];refine wpS_bind (Pt u q () () ?_);cases e:lt (g p (lo+x)) (g p (lo+x - 1))with|true|false=>?_;dsimp only;rw[qE rfl];exact wpS_pure (h x j () d λ_=>e);dsimp only;rw[qB ⋯];exact wpS_pure {O,O,Q9 (k:=lo+x) W () d e})
def oH{α:Type}{c:Prop}[Decidable c]{b a:StateT SortSt Sem α}{Q:α->SortSt->Prop}{st:SortSt}(h1:c->wpS 66 A E s b Q st)(h2:¬c->wpS 66 A E s a Q st):wpS 66 A E s (if c then b else a) Q st:=do h<|c;[qE h];h1 h;[qB h];h2 h
end
section
variable {prog:Program}{w:World}{A:Around}{E:KE}{s:UH}{κ:SortKind}{it:Array Keyed}{n:Nat}{lt:Nat->Nat->Bool}{p:Array Nat}{pd:Array (Nat×Nat×Nat)}{mg:Nat}
theorem Nu:∀(f n r:Nat),r<=1->minRun' f n r<=n+r| 0,n,r,_=>qb _|f+1,n,r,hr=>do[minRun'_succ];3;qb _;this:=Nu f (n / 2) (max r (n % 2)) ();()
def Pp(W:fx lt)(f:G5 prog w A s κ it n lt)(c:In n p){nrem:Nat}{Q:Option Nat->SortSt->Prop}(h1:1<=nrem)(hz:0+nrem<=p.size)(d:Aq lt 0 p (0+nrem))(h:Q (!nrem) (S κ it p pd mg)):wpS 66 A E s (countRun' 0 nrem) Q (S κ it p pd mg):=do[countRun'_eq];wpS_bind (N6 W f c (λx k=>rfl) (qb 1) h1 hz (up1 W) λk i g up a=>?_);(by dsimp only);b:k=nrem:=(do e<|k=nrem;e;this:=a ();this<-[d (0+k - 1) (0+k) () () ()];-this);[qE (do 0<|b),b];wpS_pure h
def ur(W:fx lt)(r:G5 prog w A s κ it n lt)(k:In n p)(hz:2<=p.size)(q:Aq lt 0 p (0+p.size)){Q:Unit->SortSt->Prop}(h:∀pd m,Q Unit.unit (S κ it p pd m)) : wpS 66 A E s sortRuns' Q (S κ it p #[] 7):=do[sortRuns'_eq];wpS_bind (wpS_get ?_);l:(arrOf (S κ it p #[] 7)).size=p.size:=Array.size_map ..;(by dsimp only);[l];wpS_bind (wpS_mono (wpS_forRange (I:=λx c a=>(x=0/\c=(none,0)/\a=S κ it p #[] 7)\/(c=(none,p.size)/\a=S κ it p #[(0,p.size,0)] 7)) (Q:=λc a=>c=(none,p.size)/\a=S κ it p #[(0,p.size,0)] 7) ?s0 ?f0 (.inl {O,O,O})) ?p0);by(case f0 =>(rintro c a (⟨o,_,_⟩|hh);omega;exact hh));(case s0 =>(rintro x c a _ o (⟨rfl,rfl,rfl⟩|⟨rfl,rfl⟩);dsimp only;refine oH (λe=>absurd e ()) λb=>?_;refine wpS_bind (Pp W r k () () (do[jx];q) ?_);dsimp only;refine oH (λd=>absurd d (do this:=Nu p.size p.size 0 ⋯;())) λi=>?_;refine wpS_bind (wpS_get ?_);split;rename_i f;have f:(none:Option (Nat×Nat×Nat))=_:=f;cases f;refine wpS_bind (wpS_modify (wpS_pure (.inr {?_,?_})));rw[jx,jh];rw[jx];rfl;dsimp only;refine oH (λe=>wpS_pure {O,O}) λb=>absurd b ()));case p0 =>(rintro c a ⟨rfl,rfl⟩;dsimp only;refine wpS_bind (wpS_mono (wpS_forRange (I:=λx c a=>c=(none,Unit.unit)/\a=S κ it p #[(0,p.size,0)] 7) (Q:=λc a=>c=(none,Unit.unit)/\a=S κ it p #[(0,p.size,0)] 7) ?s1 (λc a z=>z) {O,O}) ?p1);(case s1 =>(rintro y c a _ t ⟨rfl,rfl⟩;refine wpS_bind (wpS_get ?_);refine oH (λj=>wpS_pure {O,O}) λg=>absurd (show(1:Nat)<=1 from qb 1) g));case p1 =>(rintro c a ⟨rfl,rfl⟩;exact wpS_pure (h _ _)))
end
end Tim
namespace L2
open PySem PySem.Spec PySem.W PyProof.Rows
section
variable {prog:Program}{w:World}{A:Around}{E:KE}{s:UH}
def h_(h h':Heap):Prop:=∀b o,h.get? b=!o->h'.get? b=!o
def h_.trans(a:h_ h h')(b:h_ h' d):h_ h d:=λc o e=>b c o (a c o e)
theorem h_.push(h:Heap)(o:Obj):h_ h (h.push o):=λ_ _ e=>qI _ e
def h_.upd{h h':Heap}{a:UJ}{f:Obj->Obj}(x:h_ h h')(c:h.objs.size<=a):h_ h (h'.update a f):=λb o e=>do[Heap.get?_update_ne _ _ _ _ (qp (zh (qG e) c))];x b o e
def Answers(prog:Program)(w:World)(A:Around)(s:UH)(ks:List MD)(lt:Nat->Nat->Bool):Prop := ∃κ,(∀(Q:SortKind->UH->Prop),Q κ s->wpAny 66 A (keyKind' ks.toArray) Q (λ_ _=>False) s)/\∀i j C,i<ks.length->j<ks.length->C (lt i j) s->kas_ask prog w A κ ks i j C s
def Arr(n:Nat)(lt:Nat->Nat->Bool)(p:Array Nat):Prop:=p.Perm (List.toArray (List.range n))/\Srt.Up lt p n
def Kv{lt:Nat->Nat->Bool}(W:Srt.fx lt)(h:n<2):Arr n lt (List.toArray (List.range n)):=do _;{.refl _,λi j a b=>?_};this:i=j:=();!this;W.lG _
def ND(lt:Nat->Nat->Bool)(n:Nat):Prop:=n<64\/∀i j,i<=j->j<n->lt j i=false
def Hl{vs ks:List MD}{lt:Nat->Nat->Bool}(W:Srt.fx lt)(d:ks.length=vs.length)(a:ND lt vs.length)(h2:¬vs.length<2){κ:SortKind}(u:∀i j C,i<ks.length->j<ks.length->C (lt i j) s->kas_ask prog w A κ ks i j C s){R:SortSt->UH->Prop}(t:∀st p,Arr vs.length lt p->(arrOf st).map (·.2)=List.toArray (p.toList.map λi=>vs.getD i Value.none)->failedOf st=none->R st s) : wpAny 66 A ((sortRuns').run (SortSt.mk' κ (ks.toArray.zip vs.toArray) #[] 7 none)) (λr s'=>R r.2 s') E s:=do a||up:=a;kat_run (G:=λp s'=>s'=s/\Arr vs.length lt p) d () a (λp st s' _ a2 y x=>?_) ?_;{rfl,v}:=x;t st p v (kat_snds d a2) y;(Srt.xy W ()).wp (λi j C h1 z c=>u i j C () () c) λp hp=>{O,hp};hz:(List.toArray (List.range vs.length)).size=vs.length:=(do 0);l:Tim.G5 prog w A s κ (ks.toArray.zip vs.toArray) vs.length lt:=λi j C h1 h2 c=>(do this:=u i j C () () c;this<-[kat_ask_eq d];this);f:∀i,i<vs.length->Srt.g (List.toArray (List.range vs.length)) i=i:=λi hi=>(do@Srt.g;[jm];#[hi]);q:Tim.In vs.length (List.toArray (List.range vs.length)):=λi hi=>(do hi<-[hz];[f i hi];hi);o:=Tim.ur (E:=E) (Q:=λ_ st=>R st s) W l q (do[hz];()) (λi j _ b k=>do k<-[hz];[f i (),f j ()];up i j b ()) λpd m=>?_;n:SortSt.mk' κ (ks.toArray.zip vs.toArray) #[] 7 none=Tim.S κ (ks.toArray.zip vs.toArray) (List.toArray (List.range vs.length)) #[] 7:=(do e:=kas_range (ks.toArray.zip vs.toArray);e<-[show(ks.toArray.zip vs.toArray).size=vs.length by simp[d]];[Tim.S,e]);[n];qM o (λr s' h=>?_) λ_ _ e=>e;[h.1];h.2;t _ _ {.refl _,λi j b k=>do[f i (),f j k];up i j b k} (kat_snds d rfl) rfl
def RG{lt:Nat->Nat->Bool}(W:Srt.fx lt)(m:s.heap.get? a=!(seqObj "list" vs.toArray n))(x:vs.length<=2000)(q:ND lt vs.length)(d:h0.objs.size<=a)(D:h_ h0 s.heap)(e:∀h',h_ h0 h'->2<=vs.length->Answers prog w A {s with heap:=h'} vs lt)(h:∀h' p c,h_ h0 h'->Arr vs.length lt p->h'.get? a=!(seqObj "list" (List.toArray (p.toList.map λi=>vs.getD i Value.none)) c)->P (.done (.ret .none)) {s with heap:=h'}) : wpAny 66 A (Builtin.«list.sort» {[.ref a],[]}) P E s:=do _;{o,v}:∃o,(s.heap.update a (Obj.mapSeq λ_=>#[])).get? a=!(seqObj "list" #[] o):={_,get?_update_seq m (λ_=>#[])};t:h_ h0 (((s.heap.update a (Obj.mapSeq λ_=>#[])).push (seqObj "tuple" vs.toArray 0)).push (seqObj "list" #[] 0)):=(((D.upd d).trans (.push _ _)).trans (.push _ _));f:(((s.heap.update a (Obj.mapSeq λ_=>#[])).push (seqObj "tuple" vs.toArray 0)).push (seqObj "list" #[] 0)).get? a=!(seqObj "list" #[] o):=qI _ (qI _ v);u:vs.length<=sizeLine:=(do[sizeLine_eq];());last:∀p,Arr vs.length lt p->∀(out:Array MD),out=List.toArray (p.toList.map λi=>vs.getD i Value.none)->out.size<=sizeLine+1/\P (.done (.ret .none)) {s with heap:=(((s.heap.update a (Obj.mapSeq λ_=>#[])).push (seqObj "tuple" vs.toArray 0)).push (seqObj "list" #[] 0)).update a (Obj.mapSeq λ_=>out)}:=λp g out j=>(do _;{r,B}:∃r,((((s.heap.update a (Obj.mapSeq λ_=>#[])).push (seqObj "tuple" vs.toArray 0)).push (seqObj "list" #[] 0)).update a (Obj.mapSeq λ_=>out)).get? a=!(seqObj "list" out r):={_,get?_update_seq f (λ_=>out)};{?_,h _ p r (t.upd d) g (do[<-j];B)};[j,zk,qh,zu,g.1.size_eq];0;());[list_sort_plain];qA (listItems_at m rfl (qA (listUpdate_at m rfl (qA (seqEpoch_at v rfl (qA (wpAny_newTuple (qA (wpAny_newList (qK ?_) (q0 _))) u)))) (do[zk];u) (q0 _))));¬wpAny 66 A _ P E {s with heap:=((s.heap.update a (Obj.mapSeq λ_=>#[])).push (seqObj "tuple" vs.toArray 0)).push (seqObj "list" #[] 0)};(by dsimp only);h2<|vs.toArray.size<2;[qE h2,qE h2];b:vs.length<2:=(do 0<|h2);l:=last _ (Kv W b) (vs.toArray) (do(by apply mj.mp);#[_,List.toList_toArray];(by apply yc);(i);hi<|i<vs.length;#[hi];#[hi]);qA (qF ?_);[StateT.run_pure];qA (qF ?_);(by dsimp only);F:(arrOf (SortSt.mk' general' (vs.toArray.zip vs.toArray) #[] 7 none)).map (·.2)=vs.toArray:=(do(by apply mj.mp);¬((vs.toArray.zip vs.toArray).map (·.2)).toList=vs;[Array.toList_map,Array.toList_zip];List.map_snd_zip (qb _));[F];qA (seqEpoch_at f rfl (qA (listUpdate_at f rfl ?_ (q0 _) l.1)));#[_,bne_self_eq_false,Bool.false_eq_true,if_false];qF l.2;[qB h2,qB h2];b:¬vs.length<2:=(do 0<|h2);{κ,C,y}:=e _ t ();qA (qM (C (λk s'=>k=κ/\s'={s with heap:=((s.heap.update a (Obj.mapSeq λ_=>#[])).push (seqObj "tuple" vs.toArray 0)).push (seqObj "list" #[] 0)}) {O,O}) ?_ λ_ _ z=>z.elim);(k,s',{rfl,rfl});qA (qM (Hl (E:=E) (R:=λst s'=>s'={s with heap:=((s.heap.update a (Obj.mapSeq λ_=>#[])).push (seqObj "tuple" vs.toArray 0)).push (seqObj "list" #[] 0)}/\∃p,Arr vs.length lt p/\(arrOf st).map (·.2)=List.toArray (p.toList.map λi=>vs.getD i Value.none)/\failedOf st=none) W rfl q b y λst p a1 a2 G=>{O,p,a1,a2,G}) ?_ λ_ _ z=>z);({{},st},s',{rfl,p,g,j,H});l:=last p g _ j;(by dsimp only);qA (seqEpoch_at f rfl (qA (listUpdate_at f rfl ?_ (q0 _) l.1)));[H];#[_,bne_self_eq_false,Bool.false_eq_true,if_false];qF l.2
end
def kK(h:n<=2000):n<sizeLine:=jv h ⋯
def yp:Nat->UI->Prop| 0,.int _=>True| 1,.str _=>True| 2,.tuple (.int _::_)=>True| 3,.tuple (.str _::_)=>True| 4,.tuple (.tuple _::_)=>True|_,_=>False
def PC(t:Nat)(d:UI):¬yp (t+5) d:=do(h);by cases d with|tuple xs=>(cases xs with|nil|cons x xs=>?_;exact h;cases x <;> exact h)|_=>exact h
section
variable {prog:Program}{w:World}{A:Around}{s:UH}
def Te(h:eh A s x y c)(q:Q c s):wpAny 66 A (oneLt' false x y) Q E s := kat_one x y (h prog w E _ q)
def Ds:∀(us vs:List MD) (xs ys:List UI) (t bs:List UJ) (i:Nat),ReadsAll s.heap us xs t->ReadsAll s.heap vs ys bs->PyData.canLayAll0 xs=true->PyData.canLayAll0 ys=true->fD xs ys=true-> PyData.depthAll xs<=60->A.units+60<cLine->(i=0->b=true->(∃p q r h,xs=.int p::r/\ys=.int q::h)\/∃p q r h,xs=.str p::r/\ys=.str q::h)->c=decide (us.length<vs.length)->Q (bF xs ys) s->KatLex prog w A b c Q (us.zip vs) i s:=do(us);(by induction us with|nil|cons u us H=>?_);(vs,xs,ys,t,bs,i,l,j,_,_,_,_,_,_,o,q);-l;C:=SeqAt.ReadsAll.length _ _ _ j;¬Q c s;[o];(by cases ys with|nil|cons y ys=>?_;rw[jb]at C ⊢);[C];q;[C];q;(vs,xs,ys,t,bs,i,l,j,J,cb,m,I,F,h0,o,q);(by cases vs with|nil|cons v vs=>?_);-j;-l;¬Q c s;[o];q;(by cases l with|@cons _ _ x xs _ _ n K=>?_;cases j with|@cons _ _ y ys _ _ k L=>?_);d:(x.canLay0&&PyData.canLayAll0 xs)=true:=J;a:(y.canLay0&&PyData.canLayAll0 ys)=true:=cb;(by rw[zn]at d a);m<-[fD,zn];g:x.depth<=60/\PyData.depthAll xs<=60:=(do this:max x.depth (PyData.depthAll xs)<=60:=I;());B:=SeqAt.eqAt_reads x y A s u v _ _ n k d.1 a.1 ();kat_cons (B prog w _ _ ?_);(by cases e:PyData.eqv x y with|true|false=>?_);q<-[bF,qE e];kat_yes (H vs xs ys _ _ (i+1) K L d.2 a.2 m.2 g.2 F (λz=>()) ?_ q);[o];0;q<-[bF,qB (by rw[e];decide)];kat_no ?_;f<|(b&&i==0)=true;[f];f<-[zn];{p,G,r,h,E,D}||{p,G,r,h,E,D}:=h0 (do 0<|f.2) f.1;-E;-D;-n;-k;oneLt_int q;-E;-D;-n;-k;oneLt_str q;f<-[Bool.not_eq_true];[f];Te (MV 60 x y A s u v _ _ g.1 n k d.1 a.1 m.1 (λz=>do !z;this:=m.1;by cases y <;> simp[sk,PyData.eqv]at this e) F) q
theorem J3:∀{vs:List MD} {ds:List UI} {i:List UJ},ReadsAll s.heap vs ds i->(∀d∈ds,∃f r,d=.tuple (f::r))->∃fs,KatTups s.heap vs fs/\fs.length=vs.length/\∀v∈fs,∃f r bs,PyData.tuple (f::r)∈ds/\Reads s.heap v f bs|[],_,_,.nil,_=>{[],trivial,O,λ_ z=>nomatch z}|v::vs,_,_,.cons (d:=d) (ds:=ds) r t,h=>do _;{fs,B,A,w}:=J3 t λx p=>h x (qm _ p);{f,y,e}:=h d qi;!e;(by cases r with|tuple h1 h2 j b=>?_;rename_i a o us n;cases e:us.toList with|nil|cons u D=>?_);b<-[e];-b;b<-[e];(by cases b with|cons l C=>?_);{u::fs,KatTups.cons h1 h2 j (do[<-yq,e];2) B,do[zf,zf,A],λv g=>?_};rfl||g:=qt.mp g;⟨f,y,_,qi,l⟩;{k,c,bs,m,q}:=w v g;{k,c,bs,qm _ m,q}
def c9(ds:List UI)(i:Nat):UI:=ds.getD i (ds.headD .none)
def Mn(h:ds≠[])(i:Nat):c9 ds i∈ds:=do@c9;[ze];(by cases e:ds[i]? with|some x|none=>?_);qu e;(by cases ds with|nil|cons a b=>?_);absurd rfl h;qi
def pS(ds:List UI)(i j:Nat):Bool:=bN (c9 ds i) (c9 ds j)
def MM(h:∀a∈ds,∀b∈ds,sk a b=true):Srt.fx (pS ds):=do e<|ds=[];!e;{λ_=>rfl,λ_ _ _ z=>(do-z),λ_ _ _ z=>(do-z)};m:=Mn e;{λ_=>lX _,λa b c=>sG _ _ _ (h _ (m a) _ (m b)) (h _ (m b) _ (m c)) (h _ (m a) _ (m c)),λa b c=>HJ _ _ _ (h _ (m a) _ (m b)) (h _ (m b) _ (m c)) (h _ (m a) _ (m c))}
structure KeysAre(ds:List UI)(t:Nat):Prop where
 lay:PyData.canLayAll0 ds=true
 kind:∀d∈ds,yp t d
 one:∀a∈ds,∀b∈ds,sk a b=true
 deep:∀d∈ds,d.depth<=60
def Gb(r:Reads h v (.int i) a):∃t,v=.int i t:=do-r;{_,O}
def Gw(r:Reads h v (.str i) a):∃t,v=.str i t:=do-r;{_,O}
def L5(r:Reads h v (.tuple xs) b):∃a o vs n,v=.ref a/\h.get? a=!o/\o.cls=.type "tuple" /\ o.data=.seq vs n/\ReadsAll h vs.toList xs b:=do(by cases r with|tuple d e f c=>?_);⟨_,_,_,_,O,d,e,f,c⟩
def sO(h:yp 0 d):∃i,d=.int i:=by cases d <;> first|exact⟨_,O⟩|exact h.elim
def vK(h:yp 1 d):∃i,d=.str i:=by cases d <;> first|exact⟨_,O⟩|exact h.elim
def ui(h:yp t d)(a:2<=t):∃f r,d=.tuple (f::r):=by unfold yp at h;split at h <;> first|exact⟨_,_,O⟩|omega|exact h.elim
def LZ(h:yp 2 d):∃p r,d=.tuple (.int p::r):=do _;{f,r,rfl}:=ui h ⋯;by cases f <;> first|exact⟨_,_,O⟩|exact h.elim
def Ih(h:yp 3 d):∃p r,d=.tuple (.str p::r):=do _;{f,r,rfl}:=ui h ⋯;by cases f <;> first|exact⟨_,_,O⟩|exact h.elim
def Jy(h:yp 4 d):∃p r,d=.tuple (.tuple p::r):=do _;{f,r,rfl}:=ui h ⋯;by cases f <;> first|exact⟨_,_,O⟩|exact h.elim
def Jr(r:ReadsAll s.heap ks ds as)(K:KeysAre ds t)(h2:2<=ks.length)(hu:A.units+60<cLine):Answers prog w A s ks (pS ds):=do hl:=SeqAt.ReadsAll.length _ _ _ r;look:∀i,i<ks.length->∃bs,Reads s.heap (ks.getD i Value.none) (c9 ds i) bs/\c9 ds i∈ds:=λi hi=>(do _;{bs,q}:=iU hi r;l:ks.getD i Value.none=ks[i]:=(do#[hi]);k:c9 ds i=ds.getD i .none:=(do O:i<ds.length:=();@c9;[ze,ze,qe O];2);{bs,do[l,k];q,Mn (λz=>?_) i};hl<-[z,jb];());B:∀v∈ks,∃d bs,d∈ds/\Reads s.heap v d bs:=λv H=>(do _;{i,hi,e}:=z6.mp H;{bs,q,m}:=look i hi;{_,bs,m,by rw[<-e];simpa[hi] using q});F:∀d∈ds,d.canLay0=true:=λd a=>(do _;{i,hi,e}:=z6.mp a;ow (j:=i) K.lay (do[qe hi,e]));af:(∀d∈ds,∃f r,d=.tuple (f::r))->(T:MD)->(∀v f bs r,Reads s.heap v f bs->PyData.tuple (f::r)∈ds->Looks 66 s.heap (typeOf v) T)->(T==T)=true-> ((T != Value.type "tuple")=true->∀d∈ds,∀d'∈ds,(∃p q r g,d=.tuple (.int p::r)/\d'=.tuple (.int q::g))\/∃p q r g,d=.tuple (.str p::r)/\d'=.tuple (.str q::g))->Answers prog w A s ks (pS ds):=λh1 T R V Z=>(do _;{fs,k1,k2,k3}:=J3 r h1;{tuples' (T != Value.type "tuple"),λQ q=>kat_kind k1 () (λv H=>?_) V q,λi j C hi J c=>?_};{f,g,bs,m,q}:=k3 v H;R v f bs g q m;{W,E,o}:=look i hi;{Y,y,u}:=look j J;(by unfold pS at c);{f1,L,l}:=h1 _ o;{f2,G,k}:=h1 _ u;X:=K.deep _ o;U:=K.one _ o _ u;x:=F _ o;D:=F _ u;P:=λz=>Z z _ o _ u;(by rw[l]at E X U x P c;rw[k]at y U D P c);@kas_ask;{a1,o1,v1,n1,n,x1,x2,x3,x4}:=L5 E;{a2,o2,v2,n2,h,y1,y2,y3,y4}:=L5 y;[n,h];kat_lt x1 x3 y1 y3 (Ds _ _ _ _ _ _ 0 x4 y4 x D (by simpa[sk] using U) ?_ hu (λ_ z=>?_) (do 0) (do c<-[bN];c));this:PyData.depthAll (f1::L)+1<=60:=X;();{p,q,r,g,N,S}||{p,q,r,g,N,S}:=P z;.inl ⟨p,q,r,g,PyData.tuple.inj N,PyData.tuple.inj S⟩;.inr ⟨p,q,r,g,PyData.tuple.inj N,PyData.tuple.inj S⟩);by match t,K.kind with| 0,hk => refine{oneType',λQ q=>kas_kind (T:=Value.type "int") h2 (λv H=>?_) rfl rfl q,λi j C hi J c=>?_};obtain⟨d,bs,m,q⟩:=B v H;obtain⟨_,rfl⟩:=sO (hk d m);obtain⟨_,rfl⟩:=Gb q;exact Looks.of_pure rfl;obtain⟨W,E,o⟩:=look i hi;obtain⟨Y,y,u⟩:=look j J;unfold pS at c;unfold kas_ask;obtain⟨_,l⟩:=sO (hk _ o);obtain⟨_,k⟩:=sO (hk _ u);rw[l]at E c;rw[k]at y c;obtain⟨_,n⟩:=Gb E;obtain⟨_,h⟩:=Gb y;rw[n,h,keyLt'_oneType];exact oneLt_int c| 1,hk => refine{oneType',λQ q=>kas_kind (T:=Value.type "str") h2 (λv H=>?_) rfl rfl q,λi j C hi J c=>?_};obtain⟨d,bs,m,q⟩:=B v H;obtain⟨_,rfl⟩:=vK (hk d m);obtain⟨_,rfl⟩:=Gw q;exact Looks.of_pure rfl;obtain⟨W,E,o⟩:=look i hi;obtain⟨Y,y,u⟩:=look j J;unfold pS at c;unfold kas_ask;obtain⟨_,l⟩:=vK (hk _ o);obtain⟨_,k⟩:=vK (hk _ u);rw[l]at E c;rw[k]at y c;obtain⟨_,n⟩:=Gw E;obtain⟨_,h⟩:=Gw y;rw[n,h,keyLt'_oneType];exact oneLt_str c| 2,hk => have b:∀d∈ds,∃p r,d=.tuple (.int p::r):=λd a=>LZ (hk d a);refine af (λd a=>let⟨p,r,e⟩:=b d a;{_,r,e}) (Value.type "int") (λv f bs g q m=>?_) rfl λ_ d a d' I=>?_;obtain⟨p,G,e⟩:=b _ m;cases e;cases q;exact Looks.of_pure rfl;obtain⟨p,L,l⟩:=b d a;obtain⟨q,G,k⟩:=b d' I;exact .inl {p,q,L,G,l,k}| 3,hk => have b:∀d∈ds,∃p r,d=.tuple (.str p::r):=λd a=>Ih (hk d a);refine af (λd a=>let⟨p,r,e⟩:=b d a;{_,r,e}) (Value.type "str") (λv f bs g q m=>?_) rfl λ_ d a d' I=>?_;obtain⟨p,G,e⟩:=b _ m;cases e;cases q;exact Looks.of_pure rfl;obtain⟨p,L,l⟩:=b d a;obtain⟨q,G,k⟩:=b d' I;exact .inr {p,q,L,G,l,k}| 4,hk => have b:∀d∈ds,∃p r,d=.tuple (.tuple p::r):=λd a=>Jy (hk d a);refine af (λd a=>let⟨p,r,e⟩:=b d a;{_,r,e}) (Value.type "tuple") (λv f bs g q m=>?_) rfl λz=>absurd z ⋯;obtain⟨p,G,e⟩:=b _ m;cases e;cases q with|tuple h1 h2 V Z=>?_;have:=(Looks.ld (M:=model prog w) (part:=none) h1);rw[<-h2];exact(Looks.ld h1).andThen .now|t+5,hk => exfalso;obtain⟨bs,q,m⟩:=look 0 ();exact PC t _ (hk _ m)
end
def cU(ds:List UI)(ix:List Nat):Prop:=ix.Perm (List.range ds.length)/\(ix.map (c9 ds)).Pairwise λa b=>bN b a=false
def HG(h:Arr ds.length (pS ds) p):cU ds p.toList:=do c:p.size=ds.length:=(do[h.1.size_eq];0);{do 0<|h.1.toList,?_};[y0];(i,j,hi,a,b);(by rw[qh,zu]at hi a);this:=h.2 i j () ();(by unfold pS Srt.g at this);[List.getElem_map,List.getElem_map];by simpa[Array.getD,hi,a] using this
def J1(r:aK ys us)(ix:List Nat)(h:∀i∈ix,i<ys.length):aK (ix.map λi=>ys.getD i .aV) (ix.map λi=>us.getD i Value.none):=do(by induction ix with|nil|cons i ix d=>?_);.nil;hi:=h i qi;{u,b,a}:=r.get (i:=i) (x:=ys[i]) (qe hi);.cons ?_ (d λj c=>h j (qm _ c));¬RelV (ys.getD i .aV) (us.getD i Value.none);[ze,ze,b,qe hi];a
theorem Jo:∀{xs:List V} {ds:List UI},dV H xs ds->xs.length=ds.length|_,_,.nil=>rfl|_,_,.cons _ t=>do[zf,zf,Jo t]
mutual
theorem Sh(x:h_ h h'):∀{v:MD} {d:UI} {a:List UJ},Reads h v d a->Reads h' v d a
 |_,_,_,.none=>.none
 |_,_,_,.bool b=>.bool b
 |_,_,_,.int i t=>.int i t
 |_,_,_,.str z t=>.str z t
 |_,_,_,.list h1 h2 h3 h4=>.list (x _ _ h1) h2 h3 (qR x h4)
 |_,_,_,.tuple h1 h2 h3 h4=>.tuple (x _ _ h1) h2 h3 (qR x h4)
 |_,_,_,.dict h1 h2 h3 h4 h5=>.dict (x _ _ h1) h2 h3 (qR x h4) (qR x h5)
theorem qR(x:h_ h h'):∀{v:List MD} {d:List UI} {c:List UJ},ReadsAll h v d c->ReadsAll h' v d c
 |_,_,_,.nil=>.nil
 |_,_,_,.cons a b=>.cons (Sh x a) (qR x b)
end
section
variable {P:Program}{w:World}{A:Around}{E:KE}{s:UH}
def dQ(P:Program)(w:World)(h:Heap)(ks ls:List Key)(a:UJ):Prop:=∃o c d n,h.get? a=!o/\o.cls=.type "tuple" /\ o.data=.seq #[.ref c,.ref d] n/\(tupleKind 74).is h ks c/\(tupleKind 74).is h ls d
def dY(P:Program)(w:World)(h:Heap):KD->MD->Prop|.aV,v=>v=.none|.int i,v=>∃t,v=.int i t|.tup ks,v=>∃a,v=.ref a/\(tupleKind 74).is h ks a|.two ks ls,v=>∃a,v=.ref a/\dQ P w h ks ls a
def bZ(P:Program)(w:World):KD->Nat|.aV=>1|.int _=>1|.tup ks=>(tupleKind 74).draws ks|.two ks ls=>(tupleKind 74).draws ks+(tupleKind 74).draws ls+1
def IX(x:dQ P w h ks ls a)(y:dQ P w h f b a):ks=f/\ls=b:=do _;{o,c,d,n,h1,h2,q,r,p}:=x;{o',j,d',n',i,t,g,k,s}:=y;i<-[h1];-i;g<-[q];(by injection g with e _);m:c=j:=(do this:=congrArg (λz:Array MD=>z[0]?) e;0<|this);l:d=d':=(do this:=congrArg (λz:Array MD=>z[1]?) e;0<|this);(by subst m l);{(tupleKind 74).inj r k,(tupleKind 74).inj p s}
def xP(x:dQ P w h ks ls a)(y:(tupleKind 74).is h js a):False:=do _;{o,c,d,n,h1,h2,i,l,j}:=x;{o',its,n',f,k,b,g}:=y;f<-[h1];-f;b<-[i];(by injection b with e _);!e;this:=g.byValue (.ref c) (do 0);-this
def OR(x:ItemsAre 74 ks vs):ItemsAre (ai P' b) ks vs:=do(by induction x with|nil|cons h _ a=>?_);.nil;.cons h a
def KW(x:(tupleKind 74).is h ks a):(tupleKind (ai P' d)).is h ks a:=do _;{o,its,n,h1,h2,c,b}:=x;{o,its,n,h1,h2,c,OR b}
def Kw(c:A.units<cLine)(x:(tupleKind 74).is s.heap ks a)(y:(tupleKind 74).is s.heap ls b):SeqAt.EqAt A s (.ref a) (.ref b) (decide (ks=ls)):=λP' d E Q q=>(tupleKind (ai P' d)).eqBool c (KW x) (KW y) q
def dQ.tuple(x:dQ P w h ks ls a):∃c d,h.IsTuple a #[.ref c,.ref d]/\(tupleKind 74).is h ks c/\(tupleKind 74).is h ls d:=do _;{o,c,d,n,h1,h2,f,b,e}:=x;{c,d,{o,h1,h2,n,f},b,e}
def p4(x:(tupleKind 74).is h ks a):∃its,h.IsTuple a its/\ItemsAre 74 ks its.toList:=do _;{o,its,n,h1,h2,c,b}:=x;{its,{o,h1,h2,n,c},b}
def N3{ks ls f g:List Key}(k:A.units+1<cLine)(x:dQ P w s.heap ks ls a)(y:dQ P w s.heap f g b):SeqAt.EqAt A s (.ref a) (.ref b) (decide (KD.two ks ls=KD.two f g)):=do h<|a=b;!h;{rfl,rfl}:=IX x y;[qH rfl];SeqAt.EqAt.same _;{c,d,m,h1,h2}:=x.tuple;{i,d',n,q,p}:=y.tuple;e:decide (KD.two ks ls=KD.two f g)=((List.range (min (#[Value.ref c,.ref d]:Array MD).size (#[Value.ref i,.ref d']:Array MD).size)).all (λj=>if j=0 then decide (ks=f) else decide (ls=g))&&(#[Value.ref c,.ref d]:Array MD).size==(#[Value.ref i,.ref d']:Array MD).size):=(do¬_=((if 0=0 then decide (ks=f) else decide (ls=g))&&((if 1=0 then decide (ks=f) else decide (ls=g))&&true)&&true);[qE rfl,qB ⋯,mo,mo,yk];0);[e];SeqAt.EqAt.of_refs h (SeqAt.RcAt.tuples m n () λj o l=>?_);by match j,o,l with| 0,_,_=>exact Kw (show A.in1.units<cLine from k) h1 q| 1,_,_=>exact Kw (show A.in1.units<cLine from k) h2 p
def Fx(h:0<m):((List.range (min m n)).all (λ_=>false)&&m==n)=false:=do e<|m=n;!e;[Nat.min_self];(by cases m with|zero|succ m=>?_);();[bi];2;[show(m==n)=false from beq_eq_false_iff_ne.mpr e,me]
def Pg(h:0<m):((List.range (min n m)).all (λ_=>false)&&n==m)=false:=do e<|n=m;!e;[Nat.min_self];(by cases n with|zero|succ m=>?_);();[bi];2;[show(n==m)=false from beq_eq_false_iff_ne.mpr e,me]
def LD(x:ItemsAre 74 ks vs):∀(j:Nat) v,vs[j]?=!v->(∃i t,v=.int i t)\/∃z t,v=.str z t:=do(by induction x with|nil|cons h _ a=>?_);(j,v,e);-e;(j,v,e);(by cases j with|zero|succ j=>?_);-e;{i,t,_,e}||{z,t,_,e}:=ip (show ig _ _=true from h);.inl ⟨i,t,e⟩;.inr ⟨z,t,e⟩;a j v (do 0<|e)
def Ra(r:A.units+1<cLine)(x:dQ P w s.heap ks ls a)(y:(tupleKind 74).is s.heap js b):SeqAt.EqAt A s (.ref a) (.ref b) false:=do h:a≠b:=λz=>(do !z;xP x y);{c,d,o,h1,h2}:=x.tuple;{its,p,u}:=p4 y;e:false=((List.range (min (#[Value.ref c,.ref d]:Array MD).size its.size)).all (λ_=>false)&&(#[Value.ref c,.ref d]:Array MD).size==its.size):=(Fx (m:=2) ⋯).symm;[e];SeqAt.EqAt.of_refs h (SeqAt.RcAt.tuples o p () λj q k=>?_);{v,l,_}:=p4 h1;{B,n,_}:=p4 h2;g:=LD u j its[j] (do[yq,jc k]);f:A.in1.units<cLine:=r;by match j,q,k,g with| 0,_,_,g => rcases g with⟨i,t,e⟩|⟨z,t,e⟩;rw[e];exact SeqAt.EqAt.tuple_int i t l f;rw[e];exact SeqAt.EqAt.tuple_str z t l f| 1,_,_,g => rcases g with⟨i,t,e⟩|⟨z,t,e⟩;rw[e];exact SeqAt.EqAt.tuple_int i t n f;rw[e];exact SeqAt.EqAt.tuple_str z t n f
def Sa(r:A.units+1<cLine)(y:(tupleKind 74).is s.heap js a)(x:dQ P w s.heap ks ls b):SeqAt.EqAt A s (.ref a) (.ref b) false:=do h:a≠b:=λz=>(do !z;xP x y);{c,d,o,h1,h2}:=x.tuple;{its,p,u}:=p4 y;e:false=((List.range (min its.size (#[Value.ref c,.ref d]:Array MD).size)).all (λ_=>false)&&its.size==(#[Value.ref c,.ref d]:Array MD).size):=(Pg (m:=2) ⋯).symm;[e];SeqAt.EqAt.of_refs h (SeqAt.RcAt.tuples p o () λj k q=>?_);{v,l,_}:=p4 h1;{B,n,_}:=p4 h2;g:=LD u j its[j] (do[yq,jc k]);f:A.in1.units<cLine:=r;by match j,q,k,g with| 0,_,_,g => rcases g with⟨i,t,e⟩|⟨z,t,e⟩;rw[e];exact SeqAt.EqAt.int_tuple i t l f;rw[e];exact SeqAt.EqAt.str_tuple z t l f| 1,_,_,g => rcases g with⟨i,t,e⟩|⟨z,t,e⟩;rw[e];exact SeqAt.EqAt.int_tuple i t n f;rw[e];exact SeqAt.EqAt.str_tuple z t n f
def Ov(i:A.units+1<cLine)(k:dQ P w s.heap ks ls a)(h:Q (bP P w (.two ks ls)) {s with toks:=s.toks+((tupleKind 74).draws ks+(tupleKind 74).draws ls+1)}):wpAny (model P w) A (pyHash (.ref a)) Q E s:=do _;{o,c,d,n,j,l,m,h1,h2}:=k;g:s.TypeIs (.ref a) "tuple":={o,j,l};@pyHash;@pyHashByItsType;qA (wpAny_cRoomFor_or (.inr ()) ?_);qA (wpAny_specialOf g F.slot_tuple_hash.lookup ?_);¬wpAny _ _ (if(some (Value.builtin "tuple.__hash__")==!Value.none)=true then _ else _) Q E s;[qB (do[beq_builtin_none];qx)];qA (wpAny_specialOf g F.slot_tuple_hash.lookup ?_);¬wpAny _ _ (callSpecialIfBoundUnlessNone? (.ref a) "__hash__" _ >>= _) Q E s;qA (wpAny_callSpecialIfBoundUnlessNone?_slot g F.slot_tuple_hash (qO F.slot_tuple_hash g F.entry_tuple_hash ?_ (F.args_tuple_hash_1 _)));¬wpAny _ _ (Builtin.Tuple.tupleItemsOf (.ref a) >>= _) _ _ s;qA (wpAny_tupleItemsOf j m ?_);qA ?_;[<-mr];wpAny_forIn_list _ (λrest (b:Array Int) s'=>(rest=[.ref c,.ref d]/\b.toList=[]/\s'=s)\/(rest=[.ref d]/\b.toList=[(tupleKind 74).hash ks]/\s'={s with toks:=s.toks+(tupleKind 74).draws ks})\/(rest=[]/\b.toList=[(tupleKind 74).hash ks,(tupleKind 74).hash ls]/\s'={s with toks:=s.toks+(tupleKind 74).draws ks+(tupleKind 74).draws ls})) _ ?_ ?_ _ _ (.inl {O,O,O});(x,rest,b,s',{e,hb,rfl}||{e,hb,rfl}||{e,hb,rfl});-e;qA ((tupleKind 74).pyHash (show _<cLine by first|exact i|show A.units+1<cLine;exact i) h1 ?_);(by first|exact qF (.inr (.inl ⟨O,do#[hb],O⟩))|exact qA (qF (qF (.inr (.inl ⟨O,do#[hb],O⟩)))));-e;qA ((tupleKind 74).pyHash (s:={s with toks:=s.toks+(tupleKind 74).draws ks}) (show _<cLine by first|exact i|show A.units+1<cLine;exact i) h2 ?_);(by first|exact qF (.inr (.inr ⟨O,do#[hb],O⟩))|exact qA (qF (qF (.inr (.inr ⟨O,do#[hb],O⟩)))));-e;(b,s',{e,hb,rfl}||{e,hb,rfl}||{e,hb,rfl});-e;-e;¬wpAny _ _ (retInt (Builtin.Tuple.tupleHashOf b.toList)) _ _ _;[hb];wpAny_ret_mkInt ?_;¬wpAny _ _ (if(decide (-(2:Int) ^ 63<=Builtin.Tuple.tupleHashOf [(tupleKind 74).hash ks,(tupleKind 74).hash ls])&&decide (Builtin.Tuple.tupleHashOf [(tupleKind 74).hash ks,(tupleKind 74).hash ls]<2 ^ 63))=true then _ else _) Q E _;h:Q (reduceHash (Builtin.Tuple.tupleHashOf [(tupleKind 74).hash ks,(tupleKind 74).hash ls])) {s with toks:=s.toks+((tupleKind 74).draws ks+(tupleKind 74).draws ls+1)}:=h;(by unfold reduceHash at h);f<|(decide (-(2:Int) ^ 63<=Builtin.Tuple.tupleHashOf [(tupleKind 74).hash ks,(tupleKind 74).hash ls])&&decide (Builtin.Tuple.tupleHashOf [(tupleKind 74).hash ks,(tupleKind 74).hash ls]<2 ^ 63))=true;[qE f];h<-[qE f];qF (by simpa[Nat.add_assoc] using h);[qB f];h<-[qB f];qA (wpAny_rule (qF (by simpa[Nat.add_assoc] using h)))
def IY(g:(tupleKind 74).is s.heap ks a)(h:Q true s):wpAny (model P w) A (eqIsQuiet (m+1) (.ref a)) Q E s:=do _;{o,items,n,f,i,j,hi}:=g;e:s.TypeIs (.ref a) "tuple":={o,f,i};@eqIsQuiet;qA (wpAny_specialOf e F.slot_tuple_eq.lookup ?_);¬wpAny _ _ (isInstance (.ref a) (.type "tuple") >>= _) _ _ s;qA (wpAny_isInstance e isSubtype_tuple_tuple ?_);#[_,Bool.not_true,Bool.false_eq_true,if_false];qA (wpAny_seqItems f j ?_);qA ?_;¬wpAny _ _ (forIn items _ _) _ _ s;[<-mr];wpAny_forIn_list _ (λrest r s'=>r.1=none/\s'=s/\∀v∈rest,carriedByValue v=true) _ ?_ ?_ _ _ {O,O,hi.byValue};(v,rest,r,s',{c,rfl,b});[eqIsQuiet_byValue _ (b v qi)];qA (qF ?_);#[_,Bool.not_true,Bool.false_eq_true,if_false];qF {O,O,λu d=>b u (qm _ d)};({l,k},s',{c,rfl,_});(by simp only at c);!c;qF h
def RY(k:dQ P w s.heap ks ls a)(h:Q true s):wpAny (model P w) A (eqIsQuiet 8 (.ref a)) Q E s:=do _;{o,c,d,n,g,l,p,h1,h2}:=k;i:s.TypeIs (.ref a) "tuple":={o,g,l};@eqIsQuiet;qA (wpAny_specialOf i F.slot_tuple_eq.lookup ?_);¬wpAny _ _ (isInstance (.ref a) (.type "tuple") >>= _) _ _ s;qA (wpAny_isInstance i isSubtype_tuple_tuple ?_);#[_,Bool.not_true,Bool.false_eq_true,if_false];qA (wpAny_seqItems g p ?_);qA ?_;¬wpAny _ _ (forIn (#[.ref c,.ref d]:Array MD) _ _) _ _ s;[<-mr];wpAny_forIn_list _ (λrest r s'=>r.1=none/\s'=s/\∀v∈rest,v=.ref c\/v=.ref d) _ ?_ ?_ _ _ {O,O,λv x=>do 0<|x};(v,rest,r,s',{e,rfl,b});t:∀{j:Bool->UH->Prop},j true s'->wpAny (model P w) A (eqIsQuiet 7 v) j E s':=λq=>(do rfl||rfl:=b v qi;IY (m:=6) h1 q;IY (m:=6) h2 q);qA (t ?_);#[_,Bool.not_true,Bool.false_eq_true,if_false];qF ⟨O,O,λu f=>b u (qm _ f)⟩;({z,y},s',{e,rfl,_});(by simp only at e);!e;qF h
theorem dY.inj(a:dY P w h x v)(b:dY P w h y v):x=y:=do(by cases x with|aV|int i|tup ks|two ks ls=>?_);-a;(by cases y with|aV|int j|tup ks|two ks ls=>?_);2;{_,e}:=b;-e;{_,e,_}:=b;-e;{_,e,_}:=b;-e;{t,rfl}:=a;(by cases y with|aV|int j|tup ks|two ks ls=>?_);-b;{_,e}:=b;-e;2;{_,e,_}:=b;-e;{_,e,_}:=b;-e;{p,rfl,q}:=a;(by cases y with|aV|int j|tup c|two c f=>?_);-b;{_,e}:=b;-e;{_,e,d}:=b;-e;congrArg KD.tup ((tupleKind 74).inj q d);{_,e,d}:=b;-e;(xP d q).elim;{p,rfl,q}:=a;(by cases y with|aV|int j|tup c|two c f=>?_);-b;{_,e}:=b;-e;{_,e,d}:=b;-e;(xP q d).elim;{_,e,d}:=b;-e;{rfl,rfl}:=IX q d;2
def dY.ext{k:KD}(a:dY P w h k v)(x:∀b o,h.get? b=!o->o.cls=.type "tuple"->h'.get? b=!o):dY P w h' k v:=do(by cases k with|aV|int i|tup ks|two ks ls=>?_);a;a;{p,e,o,its,n,h1,h2,f,z}:=a;{p,e,o,its,n,x _ _ h1 h2,h2,f,z};{p,e,o,c,d,n,h1,h2,f,{A,q,u,B,j,y},{l,r,t,s,g,m}}:=a;{p,e,o,c,d,n,x _ _ h1 h2,h2,f,{A,q,u,x _ _ B j,j,y},{l,r,t,x _ _ s g,g,m}}
def RO(h:Q 4238894112 {s with toks:=s.toks+1}):wpAny (model P w) A (pyHash .none) Q E s:=do@pyHash;a:s.TypeIs Value.none "NoneType":=rfl;b:[Value.none].any Value.onHeap=false:=rfl;@pyHashByItsType;qA ?_;[cRoomFor,qB (do[b];qx)];qF (qA (wpAny_specialOf a F.slot_NoneType_hash.lookup ?_));¬wpAny _ _ (if(some (Value.builtin "NoneType.__hash__")==!Value.none)=true then _ else _) Q E s;[qB (do[beq_builtin_none];qx)];qA (wpAny_specialOf a F.slot_NoneType_hash.lookup ?_);¬wpAny _ _ (callSpecialIfBoundUnlessNone? .none "__hash__" _ >>= _) Q E s;qA (wpAny_callSpecialIfBoundUnlessNone?_slot a F.slot_NoneType_hash (qO F.slot_NoneType_hash a F.entry_NoneType_hash (show wpAny _ _ (do{ret (<-mkInt 4238894112)}) _ _ s from wpAny_ret_mkInt ?_) (F.args_NoneType_hash_1 _)));¬wpAny _ _ (if(decide (-(2:Int) ^ 63<=4238894112)&&decide ((4238894112:Int)<2 ^ 63))=true then _ else _) Q E _;[qE ⋯];qF h
def dY.hash{k:KD}(b:A.units+1<cLine)(a:dY P w s.heap k v)(h:Q (bP P w k) {s with toks:=s.toks+bZ P w k}):wpAny (model P w) A (pyHash v) Q E s:=do(by cases k with|aV|int i|tup ks|two ks ls=>?_);-a;RO h;{t,rfl}:=a;wpAny_pyHash_int h;{p,rfl,q}:=a;(tupleKind 74).pyHash (show A.units<cLine from ()) q h;{p,rfl,q}:=a;Ov b q h
def dY.tuple(a:dY P w h (.tup ks) v):∃p its,v=.ref p/\h.IsTuple p its:=do _;{p,e,o,its,n,h1,h2,b,_}:=a;⟨p,its,e,o,h1,h2,n,b⟩
def dY.kE(a:dY P w h (.two ks ls) v):∃p its,v=.ref p/\h.IsTuple p its:=do _;{p,e,q}:=a;{c,d,t,_}:=q.tuple;{p,_,e,t}
def dY.eq(e:A.units+1<cLine)(a:dY P w s.heap x u)(b:dY P w s.heap y v)(h:Q (decide (x=y)) s):wpAny (model P w) A (eqBool u v) Q E s:=do ne:∀{z l:KD},z≠l->decide (z=l)=false:=λq=>decide_eq_false q;d:A.units<cLine:=();(by cases x with|aV|int i|tup ks|two ks ls=>?_);-a;(by cases y with|aV|int j|tup ks|two ks ls=>?_);-b;SeqAt.EqAt.same _ _ _ _ _ h;{t,rfl}:=b;h<-[ne (do(z);-z)];SeqAt.EqAt.none_int _ _ _ _ _ _ h;{p,its,rfl,q}:=b.tuple;h<-[ne (do(z);-z)];SeqAt.EqAt.none_tuple q d _ _ _ _ h;{p,its,rfl,q}:=b.kE;h<-[ne (do(z);-z)];SeqAt.EqAt.none_tuple q d _ _ _ _ h;{t,rfl}:=a;(by cases y with|aV|int j|tup ks|two ks ls=>?_);-b;h<-[ne (do(z);-z)];SeqAt.EqAt.int_none _ _ _ _ _ _ h;{t,rfl}:=b;SeqAt.EqAt.int_int _ _ _ _ _ _ _ _ ?_;[show(i==j)=decide (KD.int i=KD.int j) from by by_cases z:i=j <;> simp[z]];h;{p,its,rfl,q}:=b.tuple;h<-[ne (do(z);-z)];SeqAt.EqAt.int_tuple _ _ q d _ _ _ _ h;{p,its,rfl,q}:=b.kE;h<-[ne (do(z);-z)];SeqAt.EqAt.int_tuple _ _ q d _ _ _ _ h;(by cases y with|aV|int j|tup c|two c g=>?_);-b;{p,its,rfl,q}:=a.tuple;h<-[ne (do(z);-z)];SeqAt.EqAt.tuple_none q d _ _ _ _ h;{t,rfl}:=b;{p,its,rfl,q}:=a.tuple;h<-[ne (do(z);-z)];SeqAt.EqAt.tuple_int _ _ q d _ _ _ _ h;{p,rfl,q}:=a;{k,rfl,f}:=b;(tupleKind 74).eqBool d q f ?_;[show decide (ks=c)=decide (KD.tup ks=KD.tup c) from by by_cases z:ks=c <;> simp[z]];h;{p,rfl,q}:=a;{k,rfl,f}:=b;h<-[ne (do(z);-z)];Sa e q f _ _ _ _ h;(by cases y with|aV|int j|tup c|two c g=>?_);-b;{p,its,rfl,q}:=a.kE;h<-[ne (do(z);-z)];SeqAt.EqAt.tuple_none q d _ _ _ _ h;{t,rfl}:=b;{p,its,rfl,q}:=a.kE;h<-[ne (do(z);-z)];SeqAt.EqAt.tuple_int _ _ q d _ _ _ _ h;{p,rfl,q}:=a;{k,rfl,f}:=b;h<-[ne (do(z);-z)];Ra e q f _ _ _ _ h;{p,rfl,q}:=a;{k,rfl,f}:=b;N3 e q f _ _ _ _ h
theorem dY.quiet{k:KD}(a:dY P w s.heap k v)(h:Q true s):wpAny (model P w) A (eqIsQuiet 8 v) Q E s:=do(by cases k with|aV|int i|tup ks|two ks ls=>?_);-a;qF h;{t,rfl}:=a;qF h;{p,rfl,q}:=a;(tupleKind 74).quiet q h;{p,rfl,q}:=a;RY q h
def Eb{k:KD}(a:dY P w s.heap k v)(e:∀u∈l,∃c,dY P w s.heap c u)(h:Q false s):wpAny (model P w) A (tableMayTell v l) Q E s:=do@tableMayTell;3;qF h;qA (a.quiet ?_);[qB ⋯];qA (wpAny_forIn_list _ (λr b s'=>s'=s/\b=(none,Unit.unit)/\∀u∈r,∃c,dY P w s.heap c u) _ ?_ ?_ _ _ {O,O,e});(u,r,b,s',{rfl,rfl,d});{c,f}:=d u qi;qA (f.quiet ?_);[qB ⋯];qF {O,O,λx g=>d x (qm _ g)};(b,s',{rfl,rfl,_});qF h
def gH(xs:List (KD×MD×MD))(k:KD):Option Nat:=xs.findIdx? λx=>decide (x.1=k)
def M9{k:KD}(hn:(xs.map (·.1)).Nodup)(h:xs[j]?=!x)(e:x.1=k):gH xs k=!j:=do@gH;[mw];{b,d}:=qw.mp h;{b,do[d,e];0,λi hi=>?_};this:¬xs[i].1=k:=λz=>(do a:(xs.map (·.1))[i]?=!k:=(do[List.getElem?_map,List.getElem?_eq_getElem ()];#[z]);c:(xs.map (·.1))[j]?=!k:=(do[List.getElem?_map,h];#[e]);this:=(bj (do[qh];()) hn).mp (a.trans c.symm);());0<|this
def Iw{k:KD}(h:∀(j:Nat) x,xs[j]?=!x->x.1≠k):gH xs k=none:=do@gH;[bp];(x,b);{j,a,e}:=z6.mp b;decide_eq_false (h j x (do[qe a,e]))
def E3{xs:List (KD×MD×MD)}{k:KD}{es:Array DictEntry}(at':∀j:Nat,es[j]?=(xs[j]?).map (dS P w))(sz:es.size=xs.length)(hn:(xs.map (·.1)).Nodup){g:Nat->Option (Option Nat)×Option Nat->Sem (ForInStep (Option (Option Nat)×Option Nat))}{R:Option (Option Nat)×Option Nat->UH->Prop}(B:∀(i:Nat) b a (R':ForInStep (Option (Option Nat)×Option Nat)->UH->Prop),xs[i]?=!b->(b.1=k->a=none/\R' (.done (!(!i),a)) s/\R' (.yield (none,!i)) s)->(b.1≠k->R' (.yield (none,a)) s)->wpAny (model P w) A (g i (none,a)) R' E s)(L:(∀(j:Nat) x,xs[j]?=!x->x.1≠k)->R (none,none) s)(v:∀(j:Nat) x,xs[j]?=!x->x.1=k->R (!(!j),none) s/\R (none,!j) s) : wpAny (model P w) A (forIn (placesWithHash es.size (λi=>es[i]?.map (·.hash)) (bP P w k)) (none,none) g) R E s:=do has:∀(j:Nat) x,xs[j]?=!x->x.1=k->((es[j]?.map (·.hash))==!(bP P w k))=true:=λj x c e=>(do[at' j,c];¬(some (bP P w x.1)==!(bP P w k))=true;[e];0);one:∀{i j:Nat} {x y:KD×MD×MD},xs[i]?=!x->xs[j]?=!y->x.1=k->y.1=k->i=j:=λ{i j x y} h1 h2 J I=>(do z:(xs.map (·.1))[i]?=!k:=(do[qv,h1];congrArg some J);G:(xs.map (·.1))[j]?=!k:=(do[qv,h2];congrArg some I);(bj (qw.mp z).1 hn).mp (z.trans G.symm));wpAny_forIn_list _ (λrest b s'=>s'=s/\∃i a,b=(none,a)/\rest=(List.range' i (es.size - i)).filter (λi=>(es[i]?.map (·.hash))==!(bP P w k))/\i<=es.size ∧ ((a=none/\∀(j:Nat) x,j<i->xs[j]?=!x->x.1≠k)\/∃j x,a=!j/\j<i/\xs[j]?=!x/\x.1=k)) _ ?_ ?_ _ _ {O,0,none,O,do[placesWithHash,bu,jx],q0 _,.inl {O,λj x c=>absurd c (yf _)}};(x,rest,b,s',{rfl,i,a,rfl,t,hi,q});{D,C,F,l,h}:=filter_range'_cons _ _ _ _ _ t.symm;o:x<es.size:=();d:rest=(List.range' (x+1) (es.size - (x+1))).filter (λi=>(es[i]?.map (·.hash))==!(bP P w k)):=(do[h];(by congr 2);());m:xs[x]?=!(xs[x]'()):=qe _;(by generalize xs[x]'()=b at m);r:∀(j:Nat) y,i<=j->j<x->xs[j]?=!y->y.1≠k:=λj y h1 h2 c e=>(do this:=l j h1 h2;this<-[has j y c e];absurd this ⋯);B x b a _ m (λe=>?_) λe=>?_;{rfl,f}||{j,y,_,c,p,n}:=q;⟨O,(v x b m e).1,O,x+1,!x,O,d,o,.inr ⟨x,b,O,yu x,m,e⟩⟩;this:=one p m n e;();{O,x+1,a,O,d,o,?_};{h0,f}||{j,y,h1,c,p,n}:=q;.inl ⟨h0,λj y K c=>?_⟩;u<|j<i;f j y u c;M<|j<x;r j y () M c;this:j=x:=();!this;c<-[m];-c;e;.inr {j,y,h1,(),p,n};(b,s',{rfl,i,a,rfl,t,hi,q});{rfl,f}||{j,y,rfl,c,p,n}:=q;L λj x c e=>?_;u<|j<i;f j x u c e;H:j<es.size:=(do[sz];(qw.mp c).1);this:=gr.mp t.symm j (bv.mpr {(),()});this (has j x c e);(v j y p n).2
def LV{k:KD}(K:A.units+1<cLine)(a:dY P w s.heap k v)(u:s.heap.get? d=!o)(B:o.data=.dict es ep)(at':∀j:Nat,es[j]?=(xs[j]?).map (dS P w))(sz:es.size=xs.length)(r:∀x∈xs,dY P w s.heap x.1 x.2.1)(hn:(xs.map (·.1)).Nodup)(C:Q (gH xs k) s):wpAny (model P w) A (dictWalkPlain d v (bP P w k) es (placesWithHash es.size (λi=>es[i]?.map (·.hash)) (bP P w k))) Q E s:=do@dictWalkPlain;has:∀(j:Nat) x,xs[j]?=!x->x.1=k->((es[j]?.map (·.hash))==!(bP P w k))=true:=λj x c e=>(do[at' j,c];¬(some (bP P w x.1)==!(bP P w k))=true;[e];0);qA (wpAny_forIn_list _ (λrest b s'=>s'=s/\b=(none,Unit.unit)/\∃i,rest=(List.range' i (es.size - i)).filter (λi=>(es[i]?.map (·.hash))==!(bP P w k))/\i<=es.size/\∀(j:Nat) x,j<i->xs[j]?=!x->x.1≠k) _ ?_ ?_ _ _ {O,O,0,do[placesWithHash,bu,jx],q0 _,λj x c=>absurd c (yf _)});(x,rest,b,s',{rfl,rfl,i,p,hi,h});{F,D,n,g,f}:=filter_range'_cons _ _ _ _ _ p.symm;q:x<es.size:=();m:xs[x]?=!(xs[x]'()):=qe _;(by generalize xs[x]'()=b at m);l:es[x]?=!(dS P w b):=(do[at' x,m];2);more:b.1≠k->∃i,rest=(List.range' i (es.size - i)).filter (λi=>(es[i]?.map (·.hash))==!(bP P w k))/\i<=es.size/\∀(j:Nat) x,j<i->xs[j]?=!x->x.1≠k:=λe=>{x+1,do[f];(by congr 2);(),q,λj y I c=>do t<|j<i;h j y t c;J<|j<x;(z);this:=g j () J;this<-[has j y c z];absurd this ⋯;this:j=x:=();!this;c<-[m];-c;e};[l];(by try dsimp only);G:((dS P w b).hash==bP P w k)=true:=(do this:=n;this<-[l];0<|this);[qE G];qA (wpAny_dictEpoch u B (qA ((r b (qu m)).eq K a (qA (wpAny_dictEpoch u B ?_)))));(by try dsimp only);[qB (do 0)];e<|b.1=k;[qH e,qE rfl];qA (wpAny_rule (qF (qF ?_)));[<-M9 hn m e];C;[decide_eq_false e,qB ⋯];qA (wpAny_rule (qF {O,O,more e}));(b,s',{rfl,rfl,i,p,hi,h});qF ?_;[<-Iw (xs:=xs) (k:=k) λj x c e=>?_];C;t<|j<i;h j x t c e;H:j<es.size:=(do[sz];(qw.mp c).1);gr.mp p.symm j (bv.mpr {(),()}) (has j x c e)
def Eu{k:KD}(O:A.units+1<cLine)(a:dY P w s.heap k v)(C:s.heap.get? d=!o)(D:o.data=.dict es ep)(S:es.toList=xs.map (dS P w))(f:∀x∈xs,dY P w s.heap x.1 x.2.1)(hn:(xs.map (·.1)).Nodup)(I:Q (gH xs k) s):wpAny (model P w) A (dictFind d v (bP P w k)) Q E s:=do at':∀j:Nat,es[j]?=(xs[j]?).map (dS P w):=λj=>(do[<-yq,S,qv]);sz:es.size=xs.length:=(do[<-zu,S,qh]);V:∀(j:Nat) x,xs[j]?=!x->x.1=k->((es[j]?.map (·.hash))==!(bP P w k))=true:=λj x B e=>(do[at' j,B];¬(some (bP P w x.1)==!(bP P w k))=true;[e];0);mem:∀e∈es,∃x∈xs,e=dS P w x:=λe m=>(do _;{x,g,z}:=qc.mp (show e∈xs.map (dS P w) from S▸gf.mpr m);{x,g,z.symm});N:∀z t,v≠.str z t:=λz t e=>(do a<-[e];(by cases k with|aV|int i|tup ks|two ks ls=>?_);-a;{_,q}:=a;-q;{_,q,_}:=a;-q;{_,q,_}:=a;-q);F:¬(es.any λe=>e.key==v&&e.hash != bP P w k)=true:=(do[<-Array.any_toList,yr];({e,m,K});{x,g,rfl}:=mem e (gf.mp m);K<-[zn];Z:x.2.1=v:=eq_of_beq K.1;H:=f x g;H<-[Z];W:=H.inj a;T:(bP P w x.1 != bP P w k)=true:=K.2;T<-[W];T<-0);st:∀u∈(placesWithHash es.size (λi=>es[i]?.map (·.hash)) (bP P w k)).filterMap (λi=>es[i]?.map (·.key)),∃Y,dY P w s.heap Y u:=λu M=>(do _;{i,_,hi}:=gc.mp M;hi<-[at' i];(by cases e:xs[i]? with|none|some x=>?_);hi<-[e];-hi;hi<-[e];H:x.2.1=u:=(by simpa[dS] using hi);{x.1,H▸f x (qu e)});look:∀(x:Nat) (b:KD×MD×MD) {R:Bool->UH->Prop},xs[x]?=!b->R (decide (b.1=k)) s->wpAny (model P w) A (eqBool b.2.1 v) R E s:=λx b R g r=>(f b (qu g)).eq O a r;l:(∀(j:Nat) x,xs[j]?=!x->x.1≠k)->Q none s:=λh=>(do[<-Iw h];I);c:∀(j:Nat) x,xs[j]?=!x->x.1=k->Q (!j) s:=λj x B e=>(do[<-M9 hn B e];I);@dictFind;(by try with_reducible refine qK ?_);qA (wpAny_dictEntries C D ?_);vc:v=.none\/(∃i t,v=.int i t)\/∃p,v=.ref p:=(do(by cases k with|aV|int i|tup ks|two ks ls=>?_);.inl a;.inr (.inl {i,a});.inr (.inr {a.choose,a.choose_spec.1});.inr (.inr {a.choose,a.choose_spec.1}));G<|(v::(placesWithHash es.size (λi=>es[i]?.map (·.hash)) (bP P w k)).filterMap (λi=>es[i]?.map (·.key))).all carriedByValue=true;rfl||{i,t,rfl}||{p,rfl}:=vc;(by dsimp only);[qE G];LV O a C D at' sz f hn I;(by dsimp only);[qE G];LV O a C D at' sz f hn I;absurd G (do#[carriedByValue]);by rcases vc with rfl|⟨i,t,rfl⟩|⟨p,rfl⟩ <;> dsimp only <;> rw[qB G] <;> (try rw[qB F])<;> refine wpAny_ite_split (λ_=>?_) (λ_=>?_) <;> (first|refine qA (qF ?_)|refine qA (Eb a st ?_))<;> (rw[qB (do 0)];refine qA (E3 at' sz hn (λi b hit R' g y n=>?_) (λh=>qF (l h)) λj x B e=>{qF (c j x B e),qF (c j x B e)});have L:es[i]?=!(dS P w b):=(do[at' i,g];2);rw[L];dsimp only;by_cases J:((dS P w b).hash==bP P w k)=true;rw[qE J];refine qA (wpAny_dictEpoch C D (qA (look i b g (qA (wpAny_dictEpoch C D ?_)))));rw[qB (do 0)];by_cases e:b.1=k;obtain⟨rfl,U,X⟩:=y e;rw[qH e,qE rfl,qB ⋯];refine qA (wpAny_rule ?_);split;exact qF U;exact qF X;rw[decide_eq_false e,qB ⋯];refine qA (wpAny_rule ?_);rw[qB (do 0)];exact qF (n e);rw[qB J];exact qF (n λe=>J (do¬(bP P w b.1==bP P w k)=true;[e];0)))
end
section
variable {α β:Type}
def vG(kvs:List (KD×α×β))(k:KD):Option β:=(kvs.find? λe=>decide (e.1=k)).map (·.2.2)
def pG(kvs:List (KD×α×β))(k:KD)(a:α)(v:β):List (KD×α×β):=if(vG kvs k).isSome=true then kvs.map (λe=>if e.1=k then(e.1,e.2.1,v) else e) else kvs++[(k,a,v)]
def pW{kvs:List (KD×α×β)}{k:KD}{i:Nat}{e:KD×α×β}(hn:(kvs.map (·.1)).Nodup)(h:kvs[i]?=!e)(a:e.1=k):vG kvs k=!e.2.2:=do@vG;(by induction kvs generalizing i with|nil|cons x r b=>?_);-h;hn<-[zm,zv];[vd];(by cases i with|zero|succ i=>?_);-h;[qH a];2;h':r[i]?=!e:=(do 0<|h);c:¬x.1=k:=λz=>hn.1 (do[z,<-a];qc.mpr {e,qu h',O});[decide_eq_false c];b hn.2 h'
def oy{kvs:List (KD×α×β)}{k:KD}(h:∀e∈kvs,e.1≠k):vG kvs k=none:=do@vG;[jy.mpr λe a=>do[decide_eq_true_eq];h e a];2
def pJ{kvs:List (KD×α×β)}{k:KD}(h:vG kvs k=none):∀e∈kvs,e.1≠k:=λe a z=>do(by unfold vG at h);h<-[Option.map_eq_none_iff,jy];h e a (qH z)
def eE(kvs:List (KD×α×β))(k a:KD)(m:α)(v:β):vG (pG kvs k m v) a=if a=k then some v else vG kvs a:=do@pG;f<|(vG kvs k).isSome=true;[qE f];{u,i}:=kx.mp f;(by clear f;unfold vG at *;induction kvs with|nil|cons x r n=>?_);i<-0;[zm,vd];(by rw[vd]at i ⊢);g<|x.1=k;[qE g];c<|a=k;!c;[qE rfl];#[g];[qB c];this:¬x.1=a:=λz=>c (z.symm.trans g);#[_,this,decide_false];(by clear i n;induction r with|nil|cons y r h=>?_);2;[zm,vd,vd];l<|y.1=k;b:¬y.1=a:=λz=>c (z.symm.trans l);[qE l];#[_,b,decide_false];h;[qB l];b<|y.1=a;#[b];#[_,b,decide_false];h;[qB g];i<-#[_,g,decide_false];d<|x.1=a;this:¬a=k:=λz=>g (d.trans z);[qB this];#[d];#[_,d,decide_false];n i;[qB f];j:=pJ (kvs:=kvs) (k:=k) (do(by cases e:vG kvs k with|none|some u=>?_);2;f<-[e];absurd rfl f);@vG;[List.find?_append];c<|a=k;!c;[qE rfl,jy.mpr λe o=>do[decide_eq_true_eq];j e o];0;[qB c];(by cases e:List.find? (λe=>decide (e.1=a)) kvs with|some x|none=>?_);2;this:¬k=a:=λz=>c z.symm;#[this]
def OK(kvs:List (KD×α×β))(k:KD)(a:α)(v:β):(pG kvs k a v).map (·.1)=if(vG kvs k).isSome=true then kvs.map (·.1) else kvs.map (·.1)++[k]:=do@pG;3;[zx];z8 λe _=>?_;¬(if e.1=k then(e.1,e.2.1,v) else e).1=e.1;(by split <;> rfl);[zy];2
def iz(kvs:List (KD×α×β))(k:KD)(a:α)(v:β):(pG kvs k a v).length<=kvs.length+1:=do@pG;3;[qh];();[qg,qr];qb _
def Fv{kvs:List (KD×α×β)}{k:KD}{a:α}{v:β}(h:(kvs.map (·.1)).Nodup):((pG kvs k a v).map (·.1)).Nodup:=do[OK];3;h;(by rename_i b);GW h λf=>?_;{e,d,rfl}:=qc.mp f;pJ (kvs:=kvs) (k:=e.1) (do(by cases c:vG kvs e.1 with|none|some u=>?_);2;b<-[c];absurd rfl b) e d rfl
end
section
variable {P:Program}{w:World}{A:Around}{E:KE}{s:UH}
def cE(P:Program)(w:World)(h:Heap)(d:UJ)(xs:List (KD×MD×MD)):Prop := ∃o es ep,h.get? d=!o/\o.ExactDict/\o.data=.dict es ep/\es.toList=xs.map (dS P w)/\(∀x∈xs,dY P w h x.1 x.2.1)/\(xs.map (·.1)).Nodup
def cE.typeIs(g:cE P w s.heap d xs):s.TypeIs (.ref d) "dict":=let⟨o,_,_,b,a,_⟩:=g;{o,b,a.1}
def De{k:KD}(h:gH xs k=!j):∃x,xs[j]?=!x/\x.1=k:=do(by unfold gH at h);h<-[mw];{a,h1,_}:=h;{xs[j],List.getElem?_eq_getElem a,do 0<|h1}
def BI{k:KD}(h:gH xs k=none):∀e∈xs,e.1≠k:=λe a=>do(by unfold gH at h);h<-[bp];0<|h e a
def BO{k:KD}(l:A.units+1<cLine)(a:dY P w s.heap k v)(g:cE P w s.heap d xs)(h:Q (vG xs k) {s with toks:=s.toks+bZ P w k}):wpAny (model P w) A (dictGet d v) Q E s:=do _;{o,es,ep,c,_,f,m,b,hn}:=g;@dictGet;(by try with_reducible refine qK ?_);qA (a.hash l (qA (Eu (s:={s with toks:=s.toks+bZ P w k}) l a c f m b hn ?_)));(by cases e:gH xs k with|none|some j=>?_);h<-[oy (BI e)];qF h;{x,i,ex}:=De e;h<-[pW hn i ex];qA (wpAny_dictEntries (s:={s with toks:=s.toks+bZ P w k}) c f ?_);[<-yq,m,qv,i];qF h
def O2{xs:List (KD×MD×MD)}{k:KD}{v:MD}{j:Nat}{x:KD×MD×MD}(hn:(xs.map (·.1)).Nodup)(a:xs[j]?=!x)(ex:x.1=k) : (xs.map (dS P w)).modify j (λe=>{e with val:=v})=(xs.map λe=>if e.1=k then(e.1,e.2.1,v) else e).map (dS P w):=do(by apply yc);(i);[List.getElem?_modify,qv,qv,qv];(by cases hi:xs[i]? with|none|some y=>?_);0;e<|j=i;!e;hi<-[a];-hi;#[ex,dS];b:¬y.1=k:=λz=>e ((List.getElem?_inj (do[List.length_map];(List.getElem?_eq_some_iff.mp a).1) hn).mp (do[List.getElem?_map,List.getElem?_map,a,hi];#[ex,z]));#[e,b]
def tF{es:Array DictEntry}{ep:Nat}(i:h.get? d=!o)(f:o.ExactDict)(g:Heap.SameBut d h h'){k:KD}(a:dY P w h k v):dY P w h' k v:=a.ext λb o' e c=>(g.2 b (λz=>do e<-[z,i];-e;c<-[f.1];absurd c ⋯)).trans e
def En{k:KD}{v val:MD}(q:A.units+1<cLine)(a:dY P w s.heap k v)(g:cE P w s.heap d xs)(hsz:xs.length<=sizeLine)(r:∀h',cE P w h' d (pG xs k v val)->Heap.SameBut d s.heap h'->Q Unit.unit {s with heap:=h',toks:=s.toks+bZ P w k}):wpAny (model P w) A (dictSet d v val) Q E s:=do _;{o,es,ep,c,i,h,m,f,hn}:=g;sz:es.size=xs.length:=(do[<-zu,m,qh]);keep:∀h',Heap.SameBut d s.heap h'->∀x∈pG xs k v val,dY P w h' x.1 x.2.1:=λh' n x b=>(do(by unfold pG at b;split at b);{y,t,rfl}:=qc.mp b;this:=tF (es:=es) (ep:=ep) c i n (f y t);(by split <;> exact this);b||b:=qz.mp b;tF (es:=es) (ep:=ep) c i n (f x b);[qo.mp b];tF (es:=es) (ep:=ep) c i n a);@dictSet;(by try with_reducible refine qK ?_);qA (a.hash q ?_);@dictSetHashed;(by try with_reducible refine qK ?_);qA (Eu (s:={s with toks:=s.toks+bZ P w k}) q a c h m f hn ?_);(by cases e:gH xs k with|none|some j=>?_);p:=oy (BI e);qA (wpAny_rule (wpAny_updateDictKeys (hz:=do()) (s:={s with toks:=s.toks+bZ P w k}) c h (r _ {_,_,ep+1,Heap.get?_update_self _ c (Obj.isFreed_of_dict (Obj.data_mapDictKeys h _)),i.mapDictKeys _,Obj.data_mapDictKeys h _,?_,keep _ (Heap.SameBut.update ..),Fv hn} (Heap.SameBut.update ..))));@pG;[p,qB ⋯];#[m,dS];{x,b,ex}:=De e;p:=pW hn b ex;qA (wpAny_rule (qA (wpAny_updateDict (s:={s with toks:=s.toks+bZ P w k}) c h (wpAny_point (r _ {_,_,ep,Heap.get?_update_self _ c (Obj.isFreed_of_dict (Obj.data_mapDict h _)),i.mapDict _,Obj.data_mapDict h _,?_,keep _ (Heap.SameBut.update ..),Fv hn} (Heap.SameBut.update ..))))));@pG;[p,qE (show(!x.2.2).isSome=true from rfl)];this:=O2 (P:=P) (w:=w) (v:=val) hn b ex;this<-[<-m];{l}:=es;0<|this
end
abbrev GP(H:Hp):KD×V×V->KD×MD×MD->Prop:=λp q=>p.1=q.1/\GK H p.1 p.2.1/\RelV p.2.1 q.2.1/\RelV p.2.2 q.2.2
section
variable {X:Cx}{pins:List 71}{σ:St}{H:Hp}{s:UH}{a:UJ}{y v:V}{u r:MD}{k:KD}{kvs:List 68}{A:Around}{E:KE}
def GK.is(I:Inv X pins σ H s)(g:GK H k y)(a:RelV y u):dY X.prog X.w s.heap k u:=do(by cases k with|aV|int i|tup ks|two ks ls=>?_);-g;a;-g;a;{b,rfl,e}:=g;{b,a,rA I.a9 e};{b,c,d,rfl,e,f,q}:=g;{its,h,{o,m,l,n,j},_}:=I.tuple (aS.of e);{v,t,rfl,r,p}:=h.two;-r;-p;{b,a,o,c,d,n,m,l,j,rA I.a9 f,rA I.a9 q}
theorem Ip:∀{l:List 68} {m:List (KD×MD×MD)},Paired F l m->∀x∈m,∃p∈l,F p x|_,_,.nil,x,h=>nomatch h|_,_,.cons f t,x,h=>do rfl||h:=qt.mp h;⟨_,qi,f⟩;{p,hp,q}:=Ip t x h;{p,qm _ hp,q}
theorem p9:∀{l:List 68} {m:List (KD×MD×MD)},Paired (GP H) l m->fB (vG l k) (vG m k)|_,_,.nil=>trivial|_,_,.cons (a:=p) (b:=q) f t=>do c:=p9 t;(by unfold vG at c ⊢);[vd,vd,<-f.1];e<|p.1=k;[qH e];f.2.2.2;[decide_eq_false e];c
theorem IC(c:RelV v r):∀{l:List 68} {m:List (KD×MD×MD)},Paired (GP H) l m->Paired (GP H) (l.map λe=>if e.1=k then(e.1,e.2.1,v) else e) (m.map λe=>if e.1=k then(e.1,e.2.1,r) else e)|_,_,.nil=>.nil|_,_,.cons (a:=p) (b:=q) f t=>do .cons ?_ (IC c t);¬GP H (if p.1=k then(p.1,p.2.1,v) else p) (if q.1=k then(q.1,q.2.1,r) else q);[<-f.1];3;{O,f.2.1,f.2.2.1,c};f
def xp(t:Paired (GP H) l m)(g:GK H k y)(b:RelV y u)(a:RelV v r):Paired (GP H) (pG l k y v) (pG m k u r):=do e:(vG l k).isSome=(vG m k).isSome:=(p9 t).fW;@pG;[e];3;IC a t;Paired.snoc t {O,g,b,a}
theorem tW:∀{l:List 68} {m:List (KD×MD×MD)},Paired (GP H) l m->l.length=m.length|_,_,.nil=>rfl|_,_,.cons _ t=>do[zf,zf,tW t]
def eK(I:Inv X pins σ H s)(e:Rd H a 69):kvs.length<=sizeLine/\(a==sysModules)=false/\∃xs,Paired (GP H) kvs xs/\cE X.prog X.w s.heap a xs:=do _;{z,y,xs,r,o,es,ep,h1,h2,d,b,c}:=(show a0 X.prog X.w H s.heap a 69 from e.ok I.a9);{z,y,xs,r,o,es,ep,h1,h2,d,b,λx g=>?_,c};{p,hp,f}:=Ip r x g;[<-f.1];f.2.1.is I f.2.2.1
def QC(n:A.units+2<cLine)(I:Inv X pins σ H s)(e:Rd H a 69)(g:GK H k y)(l:vG kvs k=!v)(i:RelV y u)(h:∀b s',Inv X pins σ H s'->RelV v b->Q b s') : wpAny 37 A (getItem (.ref a) u) Q E s:=do _;{z,m,xs,f,c}:=eK I e;{b,j,d}:=fB.some_of (v:=v) (o:=vG xs k) (do[<-l];p9 f);@getItem;(by try with_reducible refine qK ?_);qA (wpAny_sequenceKey c.typeIs ⋯ (qA (wpAny_callSpecial?_slot (name:=Str.ofString "__getitem__") c.typeIs F.slot_dict_getitem (qO F.slot_dict_getitem c.typeIs F.entry_dict_getitem ?_ (F.args_dict_getitem_2 _ _)))));¬wpAny 37 _ (dictGet a u >>= _) _ _ s;qA (BO (show A.in1.units+1<cLine from(do¬A.units+1+1<cLine;())) (g.is I i) c ?_);[j];qF {b,O,qF (h b _ (I.tok _) d)}
def HF(l:A.units+2<cLine)(I:Inv X pins σ H s)(e:Rd H a 69)(g:GK H k y)(i:RelV y u)(h:∀s',Inv X pins σ H s'->Q (vG kvs k).isSome s') : wpAny 37 A (contains (.ref a) u) Q E s:=do _;{z,j,xs,d,c}:=eK I e;b:(vG kvs k).isSome=(vG xs k).isSome:=(p9 d).fW;@contains;(by try with_reducible refine qK ?_);qA (wpAny_specialOf c.typeIs F.slot_dict_contains.lookup ?_);¬wpAny 37 A (if(some (Value.builtin "dict.__contains__")==!Value.none)=true then _ else _) _ E s;[qB (by rw[beq_builtin_none];decide)];qA (wpAny_callSpecialUnlessNone?_slot (name:=Str.ofString "__contains__") c.typeIs F.slot_dict_contains (qO F.slot_dict_contains c.typeIs F.entry_dict_contains ?_ (F.args_dict_contains_2 _ _)));¬wpAny 37 _ (dictGet a u >>= _) _ _ s;qA (BO (show A.in1.units+1<cLine from(do¬A.units+1+1<cLine;())) (g.is I i) c ?_);(by cases f:vG xs k with|some p|none=>?_);b<-[f];qF {Value.bool true,O,wpAny_truthy_bool ?_};this:=h _ (I.tok (s.toks+bZ X.prog X.w k));this<-[b];this;b<-[f];¬wpAny 37 _ (Builtin.Dict.pendingKey? a u >>= _) _ _ _;qA (wpAny_pendingKey_other j (qF {Value.bool false,O,wpAny_truthy_bool ?_}));this:=h _ (I.tok (s.toks+bZ X.prog X.w k));this<-[b];this
def ON(G:A.units+2<cLine)(I:Inv X pins σ H s)(e:H a=! 69)(g:GK H k y)(D:kvs.length<sizeLine)(m:RelV y u)(o:RelV v r)(h:∀s',Inv X pins σ (upd H a (.dG (pG kvs k y v))) s'->Q Unit.unit s') : wpAny 37 A (setItem (.ref a) u r) Q E s:=do _;{z,B,xs,c,d}:=eK I (.inl e);@setItem;(by try with_reducible refine qK ?_);qA (wpAny_sequenceKey d.typeIs ⋯ (qA (wpAny_callSpecial?_slot (name:=Str.ofString "__setitem__") d.typeIs F.slot_dict_setitem (qO F.slot_dict_setitem d.typeIs F.entry_dict_setitem ?_ (F.args_dict_setitem_3 _ _ _)))));¬wpAny 37 _ (Builtin.Dict.notOrdered "__setitem__" {[.ref a,u,r],[]} >>= _) _ _ s;qA (wpAny_notOrdered_dict d.typeIs ?_);¬wpAny 37 _ (dictSet a u r >>= _) _ _ s;qA (En (show A.in1.units+1<cLine from(do¬A.units+1+1<cLine;())) (g.is I m) d (do[<-tW c];z) λh' i f=>qF {Value.none,O,qF (h _ ?_)});{q,es,ep,n,h2,x,C,_,t}:=i;j:=iz kvs k y v;qU I (do[e];True.intro) f {q,n} {(),B,_,Paired.mN (xp c g m o) λp q z=>{z.1,z.2.1.cY λb xs l=>?_,z.2.2},q,es,ep,n,h2,x,C,t};[az (oK l e (λz=>nomatch z))];l
end
inductive xO(Q:VK)(x y:V)(H2:Hp):Prop
 |mk(a kvs k v:_)(_:x=.ref a)(_:Rd H2 a 69)(_:GK H2 k y)(_:vG kvs k=!v)(_:Q v H2)
def C8(td ty:TE):TE:=λσ H Q=>td σ H λx H1=>ty σ H1 λy H2=>xO Q x y H2
inductive LJ(neg:Bool)(y x:V)(H:Hp)(Q:VK):Prop
 |mk(a kvs k:_)(_:x=.ref a)(_:Rd H a 69)(_:GK H k y)(_:Q (.bl (if neg then not (vG kvs k).isSome else(vG kvs k).isSome)) H)
inductive wV(D:Ends)(σ:St)(v x y:V)(H3:Hp):Prop
 |mk(a kvs k:_)(_:x=.ref a)(_:H3 a=! 69)(_:GK H3 k y)(_:kvs.length<sizeLine)(_:D.nx σ (upd H3 a (.dG (pG kvs k y v))))
def DO(td ty tv:TE):TS:=λD σ H=>tv σ H λv H1=>td σ H1 λx H2=>ty σ H2 λy a=>wV D σ v x y a
section
variable {X:Cx}{o i e value:Expr}{pos pos' tpos:Pos}{td ty tv:TE}
def dI(w:X.A.units+2<cLine)(z:PE X o td)(hi:PE X i ty)(t:Ei i):PE X (.Subscript o i pos) (C8 td ty):=do _;{?_};(pins,s,σ,H,Q,I,h);Lp PySem.F.slot_dict_getitem.lookup t (bL (z pins s σ H _ I h) λu f ⟨x,H1,e,m,r⟩=>bL (hi pins f σ H1 _ e r) λD s2 ⟨y,H2,d,n,a,kvs,k,v,ex,c,g,l,p⟩=>?_);!ex;(by obtain rfl:u=Value.ref a:=m);{_,_,xs,_,q}:=eK d c;{q.typeIs,QC w d c g l n λB C j b=>{v,H2,j,b,p}}
def p_(f:X.A.units+2<cLine):de X (compareOp .In) (LJ false):=do(pins,s,σ,H,x,y,v,u,Q,I,d,e,h);{a,kvs,k,rfl,b,g,q}:=h;-e;¬wpAny 37 X.A (do{return Value.bool (<-contains (.ref a) v)}) _ _ s;qA (HF f I b g d λs' c=>qF {.bl _,H,c,O,q})
def yH(f:X.A.units+2<cLine):de X (compareOp .NotIn) (LJ true):=do(pins,s,σ,H,x,y,v,u,Q,I,d,e,h);{a,kvs,k,rfl,b,g,q}:=h;-e;¬wpAny 37 X.A (do{return Value.bool (not (<-contains (.ref a) v))}) _ _ s;qA (HF f I b g d λs' c=>qF {.bl _,H,c,O,q})
def kD(E:X.A.units+2<cLine)(c:PE X o td)(hi:PE X i ty)(d:PE X value tv)(C:swapsWith value (!(.Subscript o i pos')) pos.line X.env=pure false) : PS X (.Assign [.Subscript o i pos'] value pos) (DO td ty tv):=do _;{?_};(pins,s,σ,H,D,I,h);wpAny_Assign_Subscript (bL (d pins s σ H _ I h) λr p ⟨v,H1,B,q,t⟩=>bL (c pins p σ H1 _ B t) λu s2 ⟨x,H2,j,b,m⟩=>bL (hi pins s2 σ H2 _ j m) λG K ⟨y,J,f,l,a,kvs,k,ex,e,g,z,w⟩=>?_) C;!ex;(by obtain rfl:u=Value.ref a:=b);ON E f e g z l q λF n=>{σ,_,n,w}
def Kl:TE:=λ_ H Q=>∀p H',H p=none->ag H H'->H' p=!(.dG [])->Q (.ref p) H'
def Nq(h:Heap)(a:sysModules<h.objs.size):a0 P w H (h.push {cls:=.type "dict",data:=.dict #[]}) h.objs.size (.dG []) := {q0 _,beq_eq_false_iff_ne.mpr (Ne.symm (qp a)),[],.nil,_,#[],0,qL _ rfl,{O,O,O},O,O,wv}
def kT:PE X (.Dict [] [] pos) Kl:={λpins s σ H Q I h => wpAny_Dict_empty {.ref ↑s,_,I.laid (a:=↑s) (o:=.dG []) (t':=s.toks) (λ_ _ q=>qI _ q) (qb _) (Nq s.heap I.mZ),O,h _ _ (I.a9.fresh (qb _)) (ag.new (I.a9.fresh (qb _))) aF}}
end
def Og:typeLookup (.type "list") "keys"=pure none:=by rw[typeLookup_type,builtinLookup_eq_fast];kernel_rfl
section
variable {prog:Program}{w:World}{A:Around}{E:KE}
def S6{k:Nat}(i:s.heap.get? a=some {cls:=.type "list",dict:=none,data:=.seq xs k,slots:=sl})(l:A.handled=none)(h:∀h' tk,h_ s.heap h'->Q none {s with heap:=h',toks:=tk}):wpAny 66 A (getAttr? (.ref a) "keys") Q E s:=do _;{hp,g,d,tk,j}:=s;f:∀b,(⟨hp,g,d,b,j⟩:UH).TypeIs (.ref a) "list":=λ_=>{_,i,O};q:=sub_AttributeError;o:=F.slot_list_getattribute.lookup;r:=F.slot_list_getattribute.bind (.ref a);p:=am_list_getattr_none;z:(Str.ofString "keys").length+100<=sizeLine:=(do this:=cH (n:=1000) (qb _);e:(Str.ofString "keys").length=4:=rfl;());(by unfold getAttr? getAttrBy? getAttrBy;repeat any_goals first|assumption|exact f _|(with_reducible show wpAny _ _ (call (Value.builtin "list.__getattribute__") _ _) _ _ _);refine call_meets F.slot_list_getattribute (f _) am_entry_list_getattribute (F.args_list_getattribute_2 _ _) (meets_getattribute_miss_list a xs k sl "keys" _ Og ∅ z) ⟨i,l,λh' b e c=>?_⟩|wp_step);{t',m,t}:=c.there;¬wpAny 66 A (getattributeRaised _ _ _ _ _ _ _) _ _ _;@getattributeRaised;(by repeat any_goals first|assumption|wp_step);h _ _ c.keeps
end
def IV:entryFor table "dict.update.loop"=some Builtin.«dict.update.loop»:=entryFor_of_tree (by kernel_rfl)
def xV:plainId "dict.update.loop"=true:=∅
def Jk(h h':Heap):Prop:=∀b o,h.get? b=!o->o.cls=.type "tuple"->h'.get? b=!o
section
variable {P:Program}{w:World}{A:Around}
def PU(c:s.heap.get? b=!o)(a:o.data=.seq xs n)(q:Q (!xs) s):wpAny M A (seqItems? (.ref b)) Q E s:=do@seqItems?;qA (wpAny_load c ?_);[a];qF q
def putAll{α β:Type}(xs:List (KD×α×β)):List (KD×α×β)->List (KD×α×β)|[]=>xs|e::r=>putAll (pG xs e.1 e.2.1 e.2.2) r
def Oh{α β:Type}(ps:List (KD×α×β)):∀xs,(putAll xs ps).length<=xs.length+ps.length:=do(by induction ps with|nil|cons e r a=>?_);(xs);qb _;(xs);h1:=a (pG xs e.1 e.2.1 e.2.2);h2:=iz xs e.1 e.2.1 e.2.2;¬(putAll (pG xs e.1 e.2.1 e.2.2) r).length<=_;[zf];()
def f_(P:Program)(w:World)(h:Heap)(v:MD)(e:KD×MD×MD):Prop:=∃b,v=.ref b/\h.IsTuple b #[e.2.1,e.2.2]/\dY P w h e.1 e.2.1
def f_.cY(p:f_ P w h v e)(t:Jk h h'):f_ P w h' v e:=do _;{b,rfl,{o,h1,h2,a},g}:=p;{b,O,{o,t _ _ h1 h2,h2,a},g.ext t}
def cE.keep(g:cE P w h d xs)(k:∀o,h.get? d=!o->h'.get? d=!o)(t:Jk h h'):cE P w h' d xs:=do _;{o,es,ep,h1,h2,b,e,a,f}:=g;{o,es,ep,k o h1,h2,b,e,λx c=>(a x c).ext t,f}
def Jh(a:h.IsListIter I l i)(k:∀b o,b≠I->h.get? b=!o->h'.get? b=!o):Jk h h':=λb o e c=>k b o (λz=>do _;{o',f,d,_}:=a;e<-[z,f];-e;c<-[d];absurd c ⋯) e
def QW(hh:A.handled=none)(hu:A.units+2<cLine)(G:l≠I)(g:D≠I)(Z:D≠l) : ∀(ps:List (KD×MD×MD)) (i:Nat) (xs:List (KD×MD×MD)) (s:UH) (j:Int) (u:Tok),i+ps.length=items.size->s.heap.IsListIter I l i->s.heap.IsList l items->cE P w s.heap D xs->xs.length+ps.length<=sizeLine-> (∀(m:Nat) e,ps[m]?=!e->∃v,items[i+m]?=!v/\f_ P w s.heap v e)-> (∀s':UH,(∀b o,b≠I->b≠D->s.heap.get? b=!o->s'.heap.get? b=!o)->cE P w s'.heap D (putAll xs ps)->(∃tk,s'={s with heap:=s'.heap,toks:=tk})->R (.ok (.ret .none)) s')-> codeAny (model P w) A (.builtin "dict.update.loop" {[.ref D,.ref I,.int j u,.none],[]}) R s:=do W:=Walks.list (prog:=P) (w:=w) (A:=A.in1) (do 0<|hh) I l G items;(ps);(by induction ps with|nil|cons e ps ih=>?_);(i,xs,s,j,u,hi,d,Y,K,hz,hp,X);B:i=items.size:=(do 0<|hi);!B;codeAny_builtin IV ?_;[Around.under_plainId xV _];¬wpAny (model P w) A.in1 (pyNext (.ref I) >>= _) _ _ s;qA (W.done s _ _ {d,Y} λh' tk M=>?_);k:∀b o,b≠I->s.heap.get? b=!o->h'.get? b=!o:=λb o p e=>M b o (do 0<|p) e;qA (qF (qF (X {h',s.gens,s.drawn,tk,s.os} (λb o h1 _ e=>k b o h1 e) (K.keep (λo e=>k D o g e) (Jh d k)) {tk,O})));(i,xs,s,j,u,hi,d,Y,K,hz,hp,X);codeAny_builtin IV ?_;[Around.under_plainId xV _];¬wpAny (model P w) A.in1 (pyNext (.ref I) >>= _) _ _ s;qA (W.item i s _ _ (do hi<-[zf];()) {d,Y} λv h' tk hv st M=>?_);k:∀b o,b≠I->s.heap.get? b=!o->h'.get? b=!o:=λb o p e=>M b o (do 0<|p) e;ts:=Jh d k;{v',h,pv}:=hp 0 e rfl;ev:v'=v:=(do h<-[Nat.add_zero];h<-[hv];(qJ h).symm);!ev;t:=K.keep (h':=h') (λo e=>k D o g e) ts;L:=pv.cY ts;{b,rfl,p,ge}:=id L;hT:Shared.TypeIs ⟨h',s.gens,s.drawn,tk,s.os⟩ (.ref b) "tuple":=(do _;{o,h1,h2,_}:=p;{o,h1,h2});{ob,x,hb2,nb,H}:=id p;pr:∀{Q:List MD->UH->Prop} {E:KE},Q [e.2.1,e.2.2] ⟨h',s.gens,s.drawn,tk,s.os⟩->wpAny (model P w) A.in1 (Builtin.Dict.pairItems (.ref b)) Q E ⟨h',s.gens,s.drawn,tk,s.os⟩:=λ{Q E} q=>(do@Builtin.Dict.pairItems;qA (wpAny_typeOf hT ?_);[qE ⋯];qA (PU x H (qF q)));qA (qK (qA (wpAny_tryCatch (pr ?_))));qK (En (show A.in1.units+1<cLine from(do¬A.units+1+1<cLine;())) ge t (do hz<-[zf];()) λh2 hd2 f=>?_);tD:Jk h' h2:=λb o T c=>(f.2 b (λz=>do _;{o',_,_,N,r,_}:=t;T<-[z,N];-T;c<-[r.1];absurd c ⋯)).trans T;qF {plainId_quiet xV _,ih (i+1) _ _ _ _ (do hi<-[zf];()) ?_ ?_ hd2 ?_ (λm N U=>?_) λs' hk' S F=>?_};{o,h1,a,J}:=st.1;{o,(f.2 I (λz=>g z.symm)).trans h1,a,J};{o,h1,a,n,J}:=st.2;{o,(f.2 l (λz=>Z z.symm)).trans h1,a,n,J};this:=iz xs e.1 e.2.1 e.2.2;hz<-[zf];();{v2,V,C}:=hp (m+1) N (do 0<|U);{v2,do[<-V];(by congr 1);(),(C.cY ts).cY tD};X s' (λb o h1 a r=>hk' b o h1 a ((f.2 b a).trans (k b o h1 r))) S ?_;{y,r}:=F;{y,do[r]}
def Rm{s:UH}{l:UJ}{items:Array MD}{n:Nat}{sl:Array (Option MD)}{E:KE}{Q:KE}{ps:List (KD×MD×MD)}(p:A.handled=none)(I:A.units+4<cLine)(t:s.heap.get? l=some {cls:=.type "list",dict:=none,data:=.seq items n,slots:=sl})(hn:ps.length=items.size)(hz:ps.length<=sizeLine)(hp:∀(m:Nat) e,ps[m]?=!e->∃v,items[m]?=!v/\f_ P w s.heap v e)(h:∀h' tk d,h_ s.heap h'->↑s<=d->cE P w h' d (putAll [] ps)->Q (.ref d) {s with heap:=h',toks:=tk}):wpAny (model P w) A (call (.type "dict") [.ref l]) Q E s:=do callType_codes (Q₁:=λobj c=>obj=.ref ↑s/\c={s with heap:=s.heap.push {cls:=.type "dict",data:=.dict #[]}}) F.kt_called_dict (F.kt_typeCall_dict_1 _) F.entry_dict_init (kt_code_dict_new _ {O,O}) ?_;(obj,c,{rfl,rfl});new:cE P w (s.heap.push {cls:=.type "dict",data:=.dict #[]}) ↑s []:={_,#[],0,qL _ rfl,{O,O,O},O,O,λx D=>(nomatch D),wv};a:(s.heap.push {cls:=.type "dict",data:=.dict #[]}).get? l=some {cls:=.type "list",dict:=none,data:=.seq items n,slots:=sl}:=qI _ t;k:Shared.TypeIs {s with heap:=s.heap.push {cls:=.type "dict",data:=.dict #[]}} (.ref ↑s) "dict":=cE.typeIs (P:=P) (w:=w) (s:={s with heap:=s.heap.push {cls:=.type "dict",data:=.dict #[]}}) new;{k,F.args_dict_init_2 _ _,?_};@Builtin.«dict.__init__»;qA ?_;@Builtin.Dict.selfAndRest;qA (wpAny_notOrdered_dict k (qF ?_));¬wpAny (model P w) _ (Builtin.Dict.updateFrom "dict.__init__" ↑s (.ref l) [] .none) _ _ _;@Builtin.Dict.updateFrom;qA (wpAny_typeOf (show Shared.TypeIs {s with heap:=s.heap.push {cls:=.type "dict",data:=.dict #[]}} (.ref l) "list" from{_,a,O}) ?_);[qE ⋯];qA (S6 a (do 0<|p) λh1 H f=>?_);[qE (do 2)];g:h1.IsList l items:={_,f _ _ a,O,n,O};qA (wpAny_rule (qA (wpAny_pyIter_list g ?_)));j:↑s<h1.objs.size:=(do _;{o,_,_,e,_}:=new;qG (f _ _ e));z:l<h1.objs.size:=qG (f _ _ a);y:l<↑s:=qG t;r:∀b o,s.heap.get? b=!o->b≠h1.objs.size/\b≠↑s:=λb o e=>(do this:=qG e;{qp (yy this j),qp this});i:Jk (s.heap.push {cls:=.type "dict",data:=.dict #[]}) (h1.push {cls:=.type "list_iterator",data:=.fields #[.ref l,.int 0 0]}):=λb o e _=>qI _ (f _ _ e);qF {plainId_quiet xV _,QW (A:=A.in1) (l:=l) (items:=items) (do 0<|p) (show A.units+1+2<cLine from ()) (Nat.ne_of_lt z) (Nat.ne_of_lt j) (Nat.ne_of_gt y) ps 0 [] _ _ _ (do[Nat.zero_add];hn) {_,qL _ rfl,O,O} (g.push _) (new.keep (λo e=>qI _ (f _ _ e)) i) (do 0<|hz) (λm e G=>?_) λs' B q C=>?_};{v,u,pv}:=hp m e G;{v,do[jh];u,(pv.cY (λb o e _=>qI _ e)).cY i};{tk,es}:=C;(by rw[es]at q ⊢);{O,h _ tk _ (λb o e=>B b o (r b o e).1 (r b o e).2 (qI _ (f _ _ (qI _ e)))) (qb _) q}
end
def cw(H:Hp):List V->List 68->Prop|[],[]=>True|y::ys,e::es=>(∃b,y=.ref b/\H b=! 76/\GK H e.1 e.2.1)/\cw H ys es|_,_=>False
section
variable {X:Cx}{pins:List 71}{σ:St}{H:Hp}{s:UH}
theorem K8(I:Inv X pins σ H s):∀{ys:List V} {us:List MD} {kvs:List 68},aK ys us->cw H ys kvs->∃ps,Paired (GP H) kvs ps/\ps.length=us.length/\∀(m:Nat) e,ps[m]?=!e->∃v,us[m]?=!v/\f_ X.prog X.w s.heap v e|[],_,[],.nil,_=>{[],.nil,O,λm e z=>do-z}|[],_,_::_,.nil,h=>h.elim|_::_,_,[],.cons _ _,h=>h.elim|y::ys,_,e::es,.cons r t,h=>do _;{{b,rfl,q,g},h2}:=h;{ps,x,p2,p}:=K8 I t h2;-r;{its,d,{o,k,f,n,i},_}:=I.tuple (aS.of q);{A,u,rfl,c,l}:=d.two;{(e.1,A,u)::ps,.cons {O,g,c,l} x,do[zf,zf,p2],λm j a=>?_};(by cases m with|zero|succ m=>?_);-a;{_,O,b,O,{o,k,f,n,i},g.is I c};{v,h1,h2}:=p m j (do 0<|a);{v,do 0<|h1,h2}
theorem Ki:∀{l:List 68} {m:List (KD×MD×MD)},Paired (GP H) l m->∀{a:List 68} {b:List (KD×MD×MD)},Paired (GP H) a b->Paired (GP H) (putAll a l) (putAll b m)|_,_,.nil,_,_,t=>t|_,_,.cons (a:=p) (b:=q) f t,a,b,t2=>do¬Paired (GP H) (putAll (pG a p.1 p.2.1 p.2.2) _) (putAll (pG b q.1 q.2.1 q.2.2) _);[<-f.1];Ki t (xp t2 f.2.1 f.2.2.1 f.2.2.2)
inductive CP(xs:List V)(H:Hp)(Q:VK):Prop
 |mk(p ys kvs:_)(_:xs=[.ref p])(_:aD H p ys)(_:cw H ys kvs)(_:ys.length<=2000)(_:∀q H',H q=none->ag H H'->H' q=!(.dG (putAll [] kvs))->Q (.ref q) H')
def gZ(G:X.A.handled=none)(R:X.A.units+4<cLine):cI X (.type "dict") (CP):=do(pins,s,σ,H,xs,us,Q,I,r,h);{p,ys,kvs,rfl,J,hp,hz,q}:=h;{u,rfl,D}:=vals1 r;-D;{its,l,{o,n,e,t,y,i},_}:=I.list J;{M,w,data,sl}:=o;(by dsimp only at t y i;subst t y i);{ps,j,p2,N}:=K8 I l hp;T:=l.length;U:2000<=sizeLine:=⋯;Rm G R e (do[zk];p2) () (λm B f=>?_) λh' tk d x c g=>?_;{v,h1,h2}:=N m B f;{v,do 0<|h1,h2};{o',es,ep,C,K,E,P,_,L}:=g;fr:H d=none:=I.a9.fresh c;F:=Oh kvs [];S:=tW j;{.ref d,upd H d (.dG (putAll [] kvs)),I.laid x c {?_,?_,_,Paired.mN (Ki j .nil) λa b z=>{z.1,z.2.1.cY λb xs k=>?_,z.2.2},o',es,ep,C,K,E,P,L},O,q d _ fr (ag.new fr) aF};F<-[jb];();beq_eq_false_iff_ne.mpr (Ne.symm (qp (zh I.mZ c)));[az (a_ k fr)];k
end
section
variable {P:Program}{w:World}{A:Around}{E:KE}{s:UH}
def DD(c:(d==sysModules)=false):MeetsIn P w (Builtin.«dict.__len__» {[.ref d],[]}) (λ_ R s=>∃xs,cE P w s.heap d xs/\R (.ok (.ret (.int xs.length s.toks))) {s with toks:=s.toks+1}) := .of_wp λA R s ⟨xs,g,h⟩=>do _;{o,es,ep,b,i,a,f,_,_}:=g;¬wpAny (model P w) _ (dictSize d >>= _) _ _ s;@dictSize;qA (qA (wpAny_dictEntries b a (qF ?_)));qA (wpAny_pendingCount_other c (wpAny_ret_mkInt ?_));e:es.size=xs.length:=(do[<-zu,f,qh]);[Nat.add_zero,e];h
def GJ(a:(d==sysModules)=false)(g:cE P w s.heap d xs)(hz:xs.length<=sizeLine)(h:Q (.int xs.length (s.toks+1)) {s with toks:=s.toks+1+1}):wpAny (model P w) A (call (.builtin "len") [.ref d]) Q E s:=do Calls.call_function_entry kind_len plain_len entry_len (args_len1 _) ?_;@Builtin.«len»;qA (m:=oneArg "len" _) (qF (qA (m:=callSpecial? (.ref d) (Str.ofString "__len__")) (wpAny_callSpecial?_slot (name:=Str.ofString "__len__") g.typeIs F.slot_dict_len (call_meetsIn F.slot_dict_len g.typeIs F.entry_dict_len (F.args_dict_len_1 _) (DD a) {xs,g,?_}))));¬wpAny (model P w) _ _ _ _ {s with toks:=s.toks+1};qA (qK (qF (qA (wpAny_letGo ?_))));hz<-[sizeLine_eq];¬wpAny (model P w) _ (if((xs.length:Nat):Int)<0 then _ else _) _ _ _;[qB ()];¬wpAny (model P w) _ (if((xs.length:Nat):Int)>=2 ^ 63 then _ else _) _ _ _;[qB ()];qA (wpAny_mkInt (qF {_,O,h}))
def Sk(f:(d==sysModules)=false):MeetsIn P w (Builtin.«dict.get» {[.ref d,v,b],[]}) (λA R s=>A.in1.units+1<cLine/\∃k xs,dY P w s.heap k v/\cE P w s.heap d xs/\R (.ok (.ret ((vG xs k).getD b))) {s with toks:=s.toks+bZ P w k}) := .of_wp λA R s ⟨c,k,xs,a,g,h⟩=>do¬wpAny (model P w) _ (dictGet d v >>= _) _ _ s;qA (BO c a g ?_);(by cases e:vG xs k with|some u|none=>?_);h<-[e];qF {u,O,h};h<-[e];¬wpAny (model P w) _ (Builtin.Dict.missed d v >>= _) _ _ _;qA (wpAny_missed_other f (qF {b,O,h}))
def Rw{k:KD}{v val:MD}(n:A.units+1<cLine)(a:dY P w s.heap k v)(g:cE P w s.heap d xs)(hsz:xs.length<=sizeLine)(h1:∀u,vG xs k=!u->Q u {s with toks:=s.toks+bZ P w k})(h2:vG xs k=none->∀h',cE P w h' d (pG xs k v val)->Heap.SameBut d s.heap h'->Q val {s with heap:=h',toks:=s.toks+bZ P w k}):wpAny (model P w) A (dictSetDefault d v val) Q E s:=do _;{o,es,ep,c,m,h,l,f,hn}:=g;sz:es.size=xs.length:=(do[<-zu,l,qh]);@dictSetDefault;(by try with_reducible refine qK ?_);qA (a.hash n (qA (Eu (s:={s with toks:=s.toks+bZ P w k}) n a c h l f hn ?_)));(by cases e:gH xs k with|none|some j=>?_);i:=oy (BI e);qA (wpAny_rule (qA (wpAny_updateDictKeys (hz:=do()) (s:={s with toks:=s.toks+bZ P w k}) c h (qF (h2 i _ {_,_,ep+1,Heap.get?_update_self _ c (Obj.isFreed_of_dict (Obj.data_mapDictKeys h _)),m.mapDictKeys _,Obj.data_mapDictKeys h _,?_,λx b=>?_,Fv hn} (Heap.SameBut.update ..))))));@pG;[i,qB ⋯];#[l,dS];(by unfold pG at b);b<-[i,qB ⋯];b||b:=qz.mp b;tF (es:=es) (ep:=ep) c m (Heap.SameBut.update ..) (f x b);[qo.mp b];tF (es:=es) (ep:=ep) c m (Heap.SameBut.update ..) a;{x,b,ex}:=De e;i:=pW hn b ex;qA (wpAny_dictEntries (s:={s with toks:=s.toks+bZ P w k}) c h ?_);[<-yq,l,qv,b];qA (wpAny_rule (qF (h1 _ i)))
def Ss(f:(d==sysModules)=false):MeetsIn P w (Builtin.«dict.setdefault» {[.ref d,v,b],[]}) (λA R s=>A.in1.units+1<cLine/\∃k xs,dY P w s.heap k v/\cE P w s.heap d xs/\xs.length<=sizeLine ∧ (∀u,vG xs k=!u->R (.ok (.ret u)) {s with toks:=s.toks+bZ P w k})/\(vG xs k=none->∀h',cE P w h' d (pG xs k v b)->Heap.SameBut d s.heap h'->R (.ok (.ret b)) {s with heap:=h',toks:=s.toks+bZ P w k})) := .of_wp λA R s ⟨h,k,xs,a,g,hz,h1,h2⟩=>do@Builtin.«dict.setdefault»;qA ?_;@Builtin.Dict.keyAndDefault;qA (wpAny_notOrdered_dict g.typeIs (qF ?_));¬wpAny (model P w) _ (if(d==sysModules)=true then _ else(dictSetDefault d v b >>= _)) _ _ s;[qB (by rw[f];decide)];qA (Rw h a g hz (λu e=>qF {u,O,h1 u e}) λe h' g' c=>qF {b,O,h2 e h' g' c})
end
def Q4(h:fB a b)(r:RelV x u):RelV (a.getD x) (b.getD u):=by cases a <;> cases b <;> first|exact h|exact r|exact h.elim
section
variable {X:Cx}
inductive nW(xs:List V)(H:Hp)(Q:VK):Prop
 |mk(a kvs:_)(_:xs=[V.ref a])(_:H a=! 69)(_:Q (.int kvs.length) H)
def Jn:cI X (.builtin "len") nW:=do(pins,s,σ,H,xs,us,Q,I,r,h);{a,kvs,rfl,c,q}:=h;{u,rfl,d}:=vals1 r;-d;{z,g,ys,b,f}:=eK I (.inl c);e:=tW b;GJ g f () {.int kvs.length,H,I.tok _,{_,do[e]},q}
inductive Il(x:V)(vs:List V)(H:Hp)(Q:VK):Prop
 |mk(a kvs k y d:_)(_:x=.ref a)(_:vs=[y,d])(_:H a=! 69)(_:GK H k y)(_:Q ((vG kvs k).getD d) H)
inductive w_(x:V)(vs:List V)(H:Hp)(Q:VK):Prop
 |mk(a kvs k y d:_)(_:x=.ref a)(_:vs=[y,d])(_:H a=! 69)(_:GK H k y)(_:kvs.length<sizeLine)(_:(∀u,vG kvs k=!u->Q u H))(_:(vG kvs k=none->Q d (upd H a (.dG (pG kvs k y d)))))
def j1(n:X.A.units+2<cLine):Ar X "dict.get" Il:=do(pins,s,σ,H,x,xs,v,us,Q,I,j,i,h);{a,kvs,k,y,d,rfl,rfl,f,g,q}:=h;{u,o,rfl,l,c}:=i.two;-j;{z,m,ys,b,e}:=eK I (.inl f);call_meetsIn F.slot_dict_get e.typeIs F.entry_dict_get (F.args_dict_get_3 _ _ _) (Sk m) {n,k,ys,g.is I l,e,{_,H,I.tok _,Q4 (p9 b) c,q}}
def MZ(N:X.A.units+2<cLine):Ar X "dict.setdefault" w_:=do(pins,s,σ,H,x,xs,v,us,Q,I,D,K,h);{a,kvs,k,y,d,rfl,rfl,l,g,R,L,J}:=h;{u,P,rfl,o,i}:=K.two;-D;{z,w,ys,f,t}:=eK I (.inl l);c:=p9 (k:=k) f;call_meetsIn F.slot_dict_setdefault t.typeIs F.entry_dict_setdefault (F.args_dict_setdefault_3 _ _ _) (Ss w) {N,k,ys,g.is I o,t,do[<-tW f];z,λO n=>?_,λn h' m j=>?_};c<-[n];(by cases e:vG kvs k with|none|some v=>?_);c<-[e];c.elim;c<-[e];{v,H,I.tok _,c,L v e};c<-[n];(by cases e:vG kvs k with|some v|none=>?_);c<-[e];c.elim;{q,es,ep,B,h2,G,M,_,E}:=m;C:=iz kvs k y d;{d,upd H a (.dG (pG kvs k y d)),qU I (do[l];True.intro) j {q,B} {(),w,_,Paired.mN (xp f g o i) λp q z=>{z.1,z.2.1.cY λb xs r=>?_,z.2.2},q,es,ep,B,h2,G,M,E},i,J e};[az (oK r l (λz=>nomatch z))];r
end
def rR{k:Nat}(a:bI k A):A.units+4<cLine:=do this:=a.units;()
def cW{k:Nat}(a:bI k A):A.units+2<cLine:=do this:=a.units;()
section
variable {P:Program}{w:World}{fs:List UJ}{H H1:Hp}{h h1 h2:Heap}
def Un.later(u:Un fs [] H H1 h h1)(k:∀b o,b<h.objs.size->h1.get? b=!o->h2.get? b=!o):Un fs [] H H1 h h2 where
 keep:=λb o q n c a=>k b o (qG q) (u.keep b o q n c a)
 slot:=λb o q n c a=>let⟨sl,e⟩:=u.slot b o q n c a;{sl,k b _ (qG q) e}
 free:=u.free
 there:=λb o q a=>let⟨o',e⟩:=u.there b o q a;{o',k b o' (qG q) e}
 af:=u.af
 dR:=u.dR
 dW:=u.dW
 dO:=λb o xs q n=>k b o (qG q) (u.dO b o xs q n)
def df.other(x:df P w H h)(k:∀b u,b≠a->h.get? b=!u->h2.get? b=!u)(hn:H a=none):df P w H h2:=λb o e=>do ne:∀{c u},H c=!u->c≠a:=λq z=>(do q<-[z,hn];-q);(x b o e).cY (λc u d q=>k c u ?_ q) (λ_ q=>q) λ_ _ q=>q;rfl||d:=d;ne e;ne d
def df.adopt(x:df P w H h)(hn:H a=none)(new:a0 P w (upd H a o) h a o):df P w (upd H a o) h:=λb u e=>do d<|b=a;!d;e<-[aF];-e;new;e<-[az d];(x b u e).cY (λ_ _ _ q=>q) (λc q=>?_) λc xs q=>?_;[az (λz=>do q<-[z,hn];-q)];q;[az (λz=>do q<-[z,hn];-q)];q
def Un.adopt{a:UJ}{o:HO}(u:Un fs [] H H1 h h1)(c:h.objs.size<=a)(hn:H1 a=none):Un fs [] H (upd H1 a o) h h1 where
 keep:=u.keep
 slot:=u.slot
 free:=λb ob q n d=>by
  rw[az (qp (zh (qG q) c))];exact u.free b ob q n d
 there:=u.there
 af:=λb xs q=>by
  have:=u.af b xs q;rw[az (λz=>by rw[z,hn]at this;cases this)];exact this
 dR:=λb ob v q=>by
  have:=u.dR b ob v q;rw[az (λz=>by rw[z,hn]at this;cases this)];exact this
 dW:=λb ps q=>by
  obtain⟨m,this⟩:=u.dW b ps q;exact{m,by rw[az (λz=>by rw[z,hn]at this;cases this)];exact this}
 dO:=u.dO
end
def oS(n:Nat)(ds:List UI):Prop:=n<=2000/\(n<64\/ds.Pairwise λa b=>bN a b=true)
def oS.bY(h:oS n ds)(b:ds.length=n)(W:Srt.fx (pS ds)):ND (pS ds) n:=do h||h:=h.2;.inl h;.inr λi j a c=>?_;e<|i=j;!e;W.lG _;W.le_of_lt ?_;this:=y0.mp h i j () () ();(by unfold pS c9);[ze,ze,qe (),qe ()];this
inductive iI(sp:Sp)(xs:List V)(H:Hp)(Q:VK):Prop
 |mk(p ys ds t:_)(_:xs=[.ref p])(_:aD H p ys)(_:ds.length=ys.length)(_:KeysAre ds t)(_:oS ys.length ds)(_:(∀(m:Nat) y d H' (Q':VK),ys[m]?=!y->ds[m]?=!d->ag H H'->(∀H'' kv,ag H' H''->DV H'' kv d->Q' kv H'')->sp [y] H' Q' E0))(_:∀q H' ix,H q=none->ag H H'->cU ds ix->H' q=!(.lst (ix.map λi=>ys.getD i .aV))->Q (.ref q) H')
section
variable {X:Cx}{pins:List 71}{σ:St}{H:Hp}{s:UH}{k:Nat}{fa:UJ}{fd:FuncData}{ps:List UK}{sp:Sp}
structure NI(X:Cx)(H:Hp)(s:UH)(a kS:UJ)(e1:Nat)(Hm:Hp)(s':UH)(ks:List MD)(kvs:List V)(ds:List UI):Prop where
 un:Un (d_ X.stack) [] H Hm s.heap s'.heap
 a9:df X.prog X.w Hm s'.heap
 os:s'.os=s.os
 bare:AllBare s'.gens
 same:ag H Hm
 Ha:Hm a=none
 fk:Hm kS=none
 ga:s'.heap.get? a=!(seqObj "list" #[] e1)
 gk:∃e,s'.heap.get? kS=!(seqObj "list" ks.toArray e)
 vals:aK kvs ks
 dv:dV Hm kvs ds
theorem d8(h:DV H x d):∀{xs:List V} {ds:List UI},dV H xs ds->dV H (xs++[x]) (ds++[d])|_,_,.nil=>.cons h .nil|_,_,.cons a t=>.cons a (d8 h t)
theorem MG{A':Around}{a kS:UJ}{e1:Nat}{E:KE}{R:UH->Prop}(k:∀(s':UH) (c:Hp) (x:MD) (y:V) (Q:VK),hG X.prog X.w X.K X.mg X.base A' X.stack s' c->Un (d_ X.stack) [] H c s.heap s'.heap->ag H c->RelV y x->sp [y] c Q E0->codeAny 37 A' (.call (.ref fa) {[x],[]}) (CR i8 X.stack X.prog X.w c s' Q E0) s')(L:A'.frames=X.A.frames)(I:Inv X pins σ H s)(ha:↑s<=a)(hk:↑s<=kS)(U:a≠kS)(S:a∉d_ X.stack)(O:kS∉d_ X.stack){n:MD->PUnit->Sem (ForInStep PUnit)}(h:∀x (s':UH) (R':ForInStep PUnit->UH->Prop),wpAny 37 A' (call (.ref fa) [x]) (λC s2=>wpAny 37 A' (Builtin.List.listUpdate (.ref kS) (·.push C)) (λ_ s3=>R' (.yield ⟨⟩) s3) E s2) (λ_ _=>False) s'->wpAny 37 A' (n x ⟨⟩) R' E s') : ∀(r:List MD) (F:List V) (D:List UI) (ks:List MD) (kvs:List V) (G:List UI) (c:Hp) (s':UH),aK F r->D.length=F.length-> (∀(m:Nat) y d H' (W:VK),F[m]?=!y->D[m]?=!d->ag H H'->(∀t C,ag H' t->DV t C d->W C t)->sp [y] H' W E0)-> ks.length+r.length<=2000->NI X H s a kS e1 c s' ks kvs G-> (∀Hn f l j,NI X H s a kS e1 Hn f l j (G++D)->l.length=ks.length+r.length->R f)->wpAny 37 A' (forIn r PUnit.unit n) (λ_ f=>R f) E s'|[],F,D,ks,kvs,G,c,s',rv,hl,hsp,hz,st,fin=>(do-rv;hl<-[jb];fin<-[yw.mp hl];[List.forIn_nil];qF (fin c s' ks kvs ?_ rfl);[wt];st)|x::r,_,[],ks,kvs,G,c,s',.cons _ _,hl,hsp,hz,st,fin=>absurd hl (do 0)|x::r,_,d::D,ks,kvs,G,c,s',.cons (a:=y) (l₁:=F) r1 rv,hl,hsp,hz,st,fin=>do[mf];I':Inv X pins σ c s':=I.iN st.os st.un st.a9 st.bare (λb z=>absurd z (do 0));p:=I'.A5;{ek,gk}:=st.gk;qA (h x s' _ ?_);wpAny_call (codeAny_mono (k s' c x y (λC H2=>ag c H2/\DV H2 C d) {L.trans p.frames,p.mod,p.bs,p.tH,p.eI,p.xM,p.a9,p.bare} st.un st.same r1 (hsp 0 y d c _ rfl rfl st.same λH2 C a1 a2=>{a1,a2})) λres s2 P=>?_);(by cases res with|error e|ok fl=>?_);P.elim;(by cases fl with|next|brk|cont|ret u=>?_);P.elim;P.elim;P.elim;{v,H2,os2,B,g,T,rel,i,Z}:=P;N:=g.keep kS _ gk st.fk O (do 0);ga2:=g.keep a _ st.ga st.Ha S (do 0);J:=g.free kS _ gk st.fk (do 0);fa2:=g.free a _ st.ga st.Ha (do 0);hz':ks.length+(r.length+1)<=2000:=hz;z64:2000<=sizeLine:=wx (kK ⋯);listUpdate_at N rfl ?_ (do[zk];()) (do[Array.size_push,zk];());{c2,g2}:∃c2,(s2.heap.update kS (Obj.mapSeq (·.push u))).get? kS=!(seqObj "list" ((ks++[u]).toArray) c2):=(do ea:ks.toArray.push u=(ks++[u]).toArray:=(do 0);{_,do[<-ea];get?_update_seq N (·.push u)});sb:=Heap.SameBut.update s2.heap kS (Obj.mapSeq (·.push u));MG k L I ha hk U S O h r F D (ks++[u]) (kvs++[v]) (G++[d]) H2 _ rv (do 0<|hl) (λm y' d' H' W h1 h2 h3 h4=>hsp (m+1) y' d' H' W (do 0<|h1) (do 0<|h2) h3 h4) (do[List.length_append,List.length_singleton];()) {?_,?_,os2.trans st.os,B,st.same.trans i,fa2,J,(sb.2 a U).trans ga2,{c2,g2},?_,?_} λHn f l j M Y=>fin Hn f l j ?_ ?_;(st.un.trans g).later λb o q e=>(sb.2 b (qp (zh q hk))).trans e;T.other (λb u' q e=>(sb.2 b q).trans e) J;st.vals.append (.cons rel .nil);d8 Z (st.dv.same i);M<-[ym];M;[Y,qg,qr,zf];()
def Qw{A':Around}{a kS:UJ}{q:Nat}{E:KE}{P:PySem.Fin->UH->Prop}{n:Hp}{s':UH}{ks:List MD}{kvs:List V}{ds:List UI}{st:SortSt}{out:List MD}{i:List V}(t:↑s<=kS)(p:↑s<=a)(l:a≠kS)(S:NI X H s a kS q n s' ks kvs ds)(hz:ks.length<=2000)(z:out.length<=2000)(f:(arrOf st).map (·.2)=out.toArray)(x:failedOf st=none)(h:aK i out)(j:∀s2 H2,Un (d_ X.stack) [] H H2 s.heap s2.heap->df X.prog X.w H2 s2.heap->s2.os=s.os->AllBare s2.gens->ag H H2->H2 a=!(.lst i)->P (.done (.ret .none)) s2):wpAny 37 A' (ksk_tail a false q (.ref kS) st) P E s':=do _;{A,y}:=S.gk;r:2000<=sizeLine:=wx (kK ⋯);@ksk_tail;(by try dsimp only);[f];k:=Heap.SameBut.update s'.heap kS (Obj.mapSeq λ_=>(#[]:Array MD));c:=(k.2 a l).trans S.ga;qA (listUpdate_at y rfl (qA (wpAny_letGo (qA (seqEpoch_at c rfl (qA (listUpdate_at c rfl ?_ (q0 _) (do¬out.toArray.size<=_;[zk];()))))))) (do[zk];()) (q0 _));[x];#[_,bne_self_eq_false,Bool.false_eq_true,if_false];g:=Heap.SameBut.update (s'.heap.update kS (Obj.mapSeq λ_=>(#[]:Array MD))) a (Obj.mapSeq λ_=>out.toArray);{m,v}:∃m,((s'.heap.update kS (Obj.mapSeq λ_=>(#[]:Array MD))).update a (Obj.mapSeq λ_=>out.toArray)).get? a=!(seqObj "list" out.toArray m):={_,get?_update_seq c λ_=>out.toArray};qF (j _ (upd n a (.lst i)) ?_ ?_ S.os S.bare (S.same.trans (ag.new S.Ha)) aF);(S.un.later λb o d e=>?_).adopt p S.Ha;h1:b≠kS:=qp (zh d t);h2:b≠a:=qp (zh d p);(g.2 b h2).trans ((k.2 b h1).trans e);df.adopt ((S.a9.other (λb u d e=>(k.2 b d).trans e) S.fk).other (λb u d e=>(g.2 b d).trans e) S.Ha) S.Ha {?_,out,m,h,v};[h.length];()
def QA{Q:VK}{vs:List MD}{ys:List V}{ds:List UI}{t:Nat}{h1:Heap}{a:Nat}(u:∀(s':UH) (J:Hp) (x:MD) (y:V) (Q:VK),hG X.prog X.w X.K X.mg X.base X.A.in1.in1 X.stack s' J->Un (d_ X.stack) [] H J s.heap s'.heap->ag H J->RelV y x->sp [y] J Q E0->codeAny 37 X.A.in1.in1 (.call (.ref fa) {[x],[]}) (CR i8 X.stack X.prog X.w J s' Q E0) s')(hu:X.A.units+3+61<cLine)(I:Inv X pins σ H s)(rv:aK ys vs)(p:ds.length=ys.length)(hk:KeysAre ds t)(F:oS ys.length ds)(hsp:∀(m:Nat) y d H' (Q':VK),ys[m]?=!y->ds[m]?=!d->ag H H'->(∀o kv,ag H' o->DV o kv d->Q' kv o)->sp [y] H' Q' E0)(q:∀q H' ix,H q=none->ag H H'->cU ds ix->H' q=!(.lst (ix.map λi=>ys.getD i .aV))->Q (.ref q) H')(x1:h_ s.heap h1)(B:h1.get? a=!(seqObj "list" vs.toArray 0))(C:↑s<=a) : wpAny 37 X.A.in1 (holding [Value.ref a] (call (.builtin "list.sort") [.ref a] [(Str.ofString "key",.ref fa)]) >>= λ_=>ret (.ref a)) (λc s'=>∃v,c=.done (.ret v)/\EP X pins σ Q v s') X.xe {s with heap:=h1}:=do h64:=F.1;hl:=rv.length;hz:ys.length<=sizeLine:=(do[sizeLine_eq];());zl:vs.length<=sizeLine:=();qA (qK (wpAny_call_entry_kw slot_list_sort {_,B,O} entry_list_sort ?_ (ksk_l1 _ _)));¬wpAny 37 X.A.in1.in1 (Builtin.«list.sort» {[.ref a],[(Str.ofString "key",.ref fa)]}) _ _ _;[ksk_t1];@ksk_tree;{j,o2}:∃j,(h1.update a (Obj.mapSeq λ_=>(#[]:Array MD))).get? a=!(seqObj "list" #[] j):={_,get?_update_seq B λ_=>#[]};x2:h_ s.heap (h1.update a (Obj.mapSeq λ_=>(#[]:Array MD))):=x1.upd C;qA (listItems_at B rfl (qA (listUpdate_at B rfl (qA (seqEpoch_at o2 rfl (qA (wpAny_newTuple (qA (wpAny_newList (qK ?_) (q0 _))) zl)))) (do[zk];zl) (q0 _))));g:↑s<=((h1.update a (Obj.mapSeq λ_=>(#[]:Array MD))).push (seqObj "tuple" vs.toArray 0)).objs.size:=(do[size_push',Heap.size_update];this:a<h1.objs.size:=qG B;());r:a≠((h1.update a (Obj.mapSeq λ_=>(#[]:Array MD))).push (seqObj "tuple" vs.toArray 0)).objs.size:=(do[size_push',Heap.size_update];this:a<h1.objs.size:=qG B;());o3:(((h1.update a (Obj.mapSeq λ_=>(#[]:Array MD))).push (seqObj "tuple" vs.toArray 0)).push (seqObj "list" #[] 0)).get? a=!(seqObj "list" #[] j):=qI _ (qI _ o2);l:(((h1.update a (Obj.mapSeq λ_=>(#[]:Array MD))).push (seqObj "tuple" vs.toArray 0)).push (seqObj "list" #[] 0)).get? ((h1.update a (Obj.mapSeq λ_=>(#[]:Array MD))).push (seqObj "tuple" vs.toArray 0)).objs.size=!(seqObj "list" #[] 0):=qL _ rfl;P:h_ s.heap (((h1.update a (Obj.mapSeq λ_=>(#[]:Array MD))).push (seqObj "tuple" vs.toArray 0)).push (seqObj "list" #[] 0)):=(x2.trans (.push _ _)).trans (.push _ _);¬wpAny 37 X.A.in1.in1 (ksk_rest a (.ref fa) false vs.toArray j (.ref ((h1.update a (Obj.mapSeq λ_=>(#[]:Array MD))).push (seqObj "tuple" vs.toArray 0)).objs.size)) _ _ {s with heap:=((h1.update a (Obj.mapSeq λ_=>(#[]:Array MD))).push (seqObj "tuple" vs.toArray 0)).push (seqObj "list" #[] 0)};(by generalize ((h1.update a (Obj.mapSeq λ_=>(#[]:Array MD))).push (seqObj "tuple" vs.toArray 0)).objs.size=kS at g r l ⊢;generalize ((h1.update a (Obj.mapSeq λ_=>(#[]:Array MD))).push (seqObj "tuple" vs.toArray 0)).push (seqObj "list" #[] 0)=U at o3 l P ⊢);M:∀b,↑s<=b->b∉d_ X.stack:=λb G hm=>(do z||z:=qt.mp (I.iF b hm);absurd (zh I.lt G) (do[z];wj _);I.xn G z);S0:NI X H s a kS j H {s with heap:=U} [] [] []:={Un.kept P,I.a9.kept P,O,I.bare,ag.refl H,I.a9.fresh C,I.a9.fresh g,o3,{0,l},.nil,.nil};@ksk_rest;qA (wpAny_rule ?_);(by first|rw[List.forIn_toArray]|rw[<-Array.forIn_toList];simp only[List.toList_toArray]);qA (MG (R:=λf=>wpAny 37 X.A.in1.in1 (do{let keys <-Builtin.List.listItems (.ref kS);ksk_end a false vs.toArray j (.ref kS) keys}) _ _ f) u rfl I C g r (M a C) (M kS g) (λx s' R' hx=>?_) vs ys ds [] [] [] H _ rv p hsp (do[jb];()) S0 λHn f ks kvs S h=>?_);qA (wpAny_attempt (qM hx (λkv s2 h2=>?_) λ_ _ z=>z.elim));qA (qM h2 (λ_ s3 U=>qF U) λ_ _ z=>z);S<-[we];h<-[jb,jh];{ek,gk}:=S.gk;Y:ks.length=ds.length:=(do[h,p,hl]);I':Inv X pins σ Hn f:=I.iN S.os S.un S.a9 S.bare (λb z=>absurd z (do 0));{as,ra}:=S.dv.reads I' S.vals;W:=MM hk.one;qA (listItems_at gk rfl ?_);c:∀(e:Array Nat),Arr vs.length (pS ds) e->∀st:SortSt,(arrOf st).map (·.2)=List.toArray (e.toList.map λi=>vs.getD i Value.none)->failedOf st=none->wpAny 37 X.A.in1.in1 (ksk_tail a false j (.ref kS) st) (λc s'=>∃v,c=PySem.Fin.done (.ret v)/\wpAny 37 X.A.in1 (ret (Value.ref a)) (λc s'=>∃v,c=.done (.ret v)/\EP X pins σ Q v s') X.xe s') X.xe f:=λe D st ho hf=>(do N:∀i∈e.toList,i<ys.length:=λi hi=>(do this:=(D.1.toList.mem_iff).mp hi;this<-0;());T:e.size=vs.length:=(do[D.1.size_eq];0);Qw g C r S () (do[qh,zu,T];()) ho hf (J1 rv _ N) λs2 H2 un a9 os L same e2=>?_;{_,O,qF {_,O,.ref a,H2,I.iN os un a9 L (λb z=>absurd z (do 0)),O,q a H2 e.toList (I.a9.fresh C) same (HG (do[<-Y,h];D)) e2}});@ksk_end;(by try dsimp only);[qB ⋯];h2<|vs.toArray.size<2;[qE h2,qE h2];n:vs.length<2:=(do 0<|h2);qA (qF ?_);[StateT.run_pure];qA (qF ?_);c _ (Kv W n) _ ?_ rfl;¬((ks.toArray.zip vs.toArray).map (·.2))=_;(by apply mj.mp);[Array.toList_map,Array.toList_zip];j:List.map (·.2) (ks.zip vs)=vs:=List.map_snd_zip ();e2:(List.toArray (List.range vs.length)).toList.map (λi=>vs.getD i Value.none)=vs:=(do(by apply yc);(i);hi<|i<vs.length;#[hi];#[hi]);¬List.map (·.2) (ks.zip vs)=(List.toArray (List.range vs.length)).toList.map (λi=>vs.getD i Value.none);[j,e2];[qB h2,qB h2];n:¬vs.length<2:=(do 0<|h2);{κ,Z,hqq}:=Jr (prog:=X.prog) (w:=X.w) (A:=X.A.in1.in1) ra hk () (do¬X.A.units+1+1+60<cLine;());qA (qM (Z (λk s'=>k=κ/\s'=f) {O,O}) ?_ λ_ _ z=>z.elim);(k',s',{rfl,rfl});[qB ⋯];qA (qM (Hl (E:=X.xe) (R:=λst s3=>s3=s'/\∃e,Arr vs.length (pS ds) e/\(arrOf st).map (·.2)=List.toArray (e.toList.map λi=>vs.getD i Value.none)/\failedOf st=none) W h (do this:=F.bY p W;this<-[hl];this) n hqq λst e a1 a2 a3=>{O,e,a1,a2,a3}) ?_ λ_ _ z=>z);({{},st},s3,{rfl,e,D,eo,hf});c e D st eo hf
def JS{Q:VK}{us:List MD}{xs:List V}(b:∀(s':UH) (d:Hp) (x:MD) (y:V) (Q:VK),hG X.prog X.w X.K X.mg X.base X.A.in1.in1 X.stack s' d->Un (d_ X.stack) [] H d s.heap s'.heap->ag H d->RelV y x->sp [y] d Q E0->codeAny 37 X.A.in1.in1 (.call (.ref fa) {[x],[]}) (CR i8 X.stack X.prog X.w d s' Q E0) s')(C:X.A.units+3+61<cLine)(I:Inv X pins σ H s)(l:aK xs us)(o:iI sp xs H Q) : wpAny 37 X.A (call (.builtin "sorted") us [(Str.ofString "key",.ref fa)]) (EP X pins σ Q) X.xe s:=do _;{p,ys,ds,t,rfl,r,g,v,c,f,q}:=o;B:=c.1;{u,rfl,n}:=vals1 l;-n;{vs,k,z,hz}:=I.list r;D:=k.length;i:vs.length<=sizeLine:=();call_function_entry_kw kind_sorted plain_sorted entry_sorted (ksk_s1 _ _) ?_;@Builtin.«sorted»;qA (m:=checkCount "sorted" 1 1 _) (qF (qA (collect_list z.isList (qA (wpAny_newList ?_ i)) i)));hsz:((s.heap.push (seqObj "list" #[] 0)).update ↑s (Obj.mapSeq (·++vs.toArray))).objs.size=↑s+1:=(Heap.size_update _ _ _).trans (size_push' _ _);h:h_ s.heap (((s.heap.push (seqObj "list" #[] 0)).update ↑s (Obj.mapSeq (·++vs.toArray))).push (seqObj "list" vs.toArray 0)):=((h_.push _ _).upd (qb _)).trans (.push _ _);e:(((s.heap.push (seqObj "list" #[] 0)).update ↑s (Obj.mapSeq (·++vs.toArray))).push (seqObj "list" vs.toArray 0)).get? (↑s+1)=!(seqObj "list" vs.toArray 0):=hsz▸qL _ rfl;¬wpAny 37 _ _ _ _ {s with heap:=((s.heap.push (seqObj "list" #[] 0)).update ↑s (Obj.mapSeq (·++vs.toArray))).push (seqObj "list" vs.toArray 0)};[hsz];(by generalize ((s.heap.push (seqObj "list" #[] 0)).update ↑s (Obj.mapSeq (·++vs.toArray))).push (seqObj "list" vs.toArray 0)=h1 at h e ⊢);j:↑s<=↑s+1:=jw _;(by generalize ↑s+1=a at j e ⊢);QA b C I k g v c f q h e j
def RZ{Q:VK}{us:List MD}{xs:List V}(F:h9 X.prog X.w X.K X.mg X.base i8 k fa fd ps sp)(g:bI k X.A.in1.in1)(i:Binds X.K fd ps [])(a:ps.length=1)(m:X.A.units+3+61<cLine)(I:Inv X pins σ H s)(h:aK xs us)(j:iI sp xs H Q) : wpAny 37 X.A (call (.builtin "sorted") us [(Str.ofString "key",.ref fa)]) (EP X pins σ Q) X.xe s := JS (λs' l x y Q c _ _ f d=>F.run X.A.in1.in1 X.stack s' l {[x],[]} [x] [y] Q E0 g c (do this:=i s' [x] (c.mod.NU.keeps λb o e=>(c.bs b o e).1) (do[a];2);0<|this) (.cons f .nil) d) m I h j
def bI.PH{k:Nat}(r:bI (k+1) A):bI k A.in1.in1 := {r.hd,do this:=r.dp;¬A.depth+3 * k+5<_;(),do this:=r.un;¬A.units+1+1+16 * k+200<_;(),r.gd}
def Su{p m kp pos:Pos}(F:h9 X.prog X.w X.K X.mg X.base i8 k fa fd ps sp)(i:bI (k+1) X.A)(hg:Gl X x)(u:X.mg x=none)(r:bootBuiltins x=!(.builtin "sorted"))(f:Gl X y)(d:X.mg y=!(.ref fa))(n:Binds X.K fd ps [])(a:ps.length=1)(l:PA X [e] t)(hn:x≠"__name__":=by decide)(b:(x==("__debug__":UK))=false:=by decide)(c:(y==("__debug__":UK))=false:=by decide)(j:starEach [e] X.env=(false,eval e X.env)::starEach [] X.env:=by rfl):PE X (.Call (.Name x p) [e] [{!"key",.Name y m,kp}] pos) (G8 (iI sp) t):=do _;{?_};(pins,s,σ,H,Q,I,h);wpAny_Call_Name_kw (iY I hg u r ?_ hn b);callWith_kw (bL (l pos pins s σ H _ I h) λus v ⟨vs,H1,g,q,o⟩=>kws_cons (Fw g f d (kws_nil ?_) c)) (do[j];2) (do[j];2);RZ F i.PH n a (do this:=i.un;()) g q o
end
def QI{ix:List Nat}(h:ix.Perm (List.range js.length)):(ix.map λi=>js.getD i 0).Perm js:=do this:=h.map λi=>js.getD i 0;this.trans (.of_eq ?_);(by apply yc);(i);[qv];hi<|i<js.length;[yg hi,qe hi];¬some (js.getD i 0)=_;[ze,qe hi];2;[List.getElem?_eq_none (do 0<|hi),List.getElem?_eq_none ()];2
def md{α:Type}(xs:List α)(x:α):oO (xs++[x]) (-1)=!x:=do@oO;e:sU (xs++[x]).length (-1)=!xs.length:=(do@sU;[qg,qr,qB (),qE ()];(by congr 1);());[e];0
def MY(h:∀d∈ds,fQ d=true):PyData.eqv (.list ds) (.list ds)=true:=(tJ _ _ (do[fQ];nY h) (do[fQ];nY h)).mpr rfl
theorem lQ:∀{ds:List UI} {k:Nat},(∀d∈ds,d.depth<=k)->PyData.depthAll ds<=k|[],_,_=>q0 _|d::ds,k,h=>do a:=h d qi;b:=lQ (ds:=ds) λx c=>h x (qm _ c);¬max d.depth (PyData.depthAll ds)<=k;()
section
variable {X:Cx}{K:PySem.W.Frag}
inductive KO(x:V)(lo:Option Int)(hi:Option Int)(H:Hp)(Q:VK):Prop
 |mk(a xs:_)(_:x=.ref a)(_:aS H a xs)(_:¬(HT.b_ xs.length 0 lo=0/\HT.b_ xs.length xs.length hi=xs.length))(_:∀p H',H p=none->ag H H'->H' p=!(.tup (ef xs lo hi))->Q (.ref p) H')
def x_:wX X (KO):=FJ.imp λ_ _ _ _ _ ⟨a,xs,h1,h2,b,q⟩=>{a,xs,h1,h2,b,λp hp=>q p _ hp (ag.new hp) aF}
end
end L2
namespace Rga
def after(b a:Nat):List Nat->List Nat|[]=>[]|x::xs=>if x=b then x::a::xs else x::after b a xs
abbrev Pl:=Nat×Option Nat
def ins(p:Pl)(row:List Nat):List Nat:=match p.2 with|none=>p.1::row|some b=>after b p.1 row
def eB:List Pl->List Nat|[]=>[]|p::qs=>ins p (eB qs)
def jB(a:List Pl):List Nat:=a.map (·.1)
def WF:List Pl->Prop|[]=>True|p::qs=>p.1∉jB qs/\(∀b,p.2=!b->b∈jB qs)/\WF qs
def rk(a:List Pl)(k:Option Nat):List Nat:=(a.filter λp=>decide (p.2=k)).map (·.1)
inductive oe(f:Option Nat->List Nat):List Nat->List Nat->Prop
 |nil:oe f [] []
 |cons {x:Nat} {st out:List Nat}:oe f (f (!x)++st) out->oe f (x::st) (x::out)
theorem Jx:∀{row:List Nat},b∈row->(after b a row).Perm (a::row)|x::xs,h=>do@after;e<|x=b;[qE e];.swap _ _ _;[qB e];z||z:=qt.mp h;absurd z.symm e;((Jx z).cons x).trans (.swap _ _ _)
theorem cF:∀{c:List Pl},WF c->(eB c).Perm (jB c)|[],_=>.refl _|(a,none)::c,h=>(cF h.2.2).cons a|(a,!b)::c,h=>(Jx ((cF h.2.2).mem_iff.mpr (h.2.1 b rfl))).trans ((cF h.2.2).cons a)
theorem IZ:∀{a:List Pl},WF a->(jB a).Nodup|[],_=>wv|_::_,h=>zv.mpr {h.1,IZ h.2.2}
def jV(h:WF a):(eB a).Nodup:=(cF h).nodup_iff.mpr (IZ h)
def nR(p:Pl)(a:List Pl)(k:Option Nat):rk (p::a) k=if p.2=k then p.1::rk a k else rk a k:=do@rk;e<|p.2=k;[qE e,List.filter_cons_of_pos (do 0<|e)];2;[qB e,List.filter_cons_of_neg (do 0<|e)]
def Lr(h:WF b)(d:a∉jB b):rk b (!a)=[]:=do(by induction b with|nil|cons p b f=>?_);2;c:a∉jB b:=λz=>d (qm _ z);[nR,qB (λe=>c (h.2.1 a e)),f h.2.2 c]
theorem Em{f g:Option Nat->List Nat}:∀{st out:List Nat},oe f st out->(∀x∈out,g (!x)=f (!x))->oe g st out|_,_,.nil,_=>.nil|_,_,.cons (x:=x) d,h=>.cons (do[h x qi];Em d λy a=>h y (qm _ a))
theorem JT{f g:Option Nat->List Nat}(hg:∀x,x≠b->g (!x)=f (!x))(c:g (!b)=a::f (!b))(h:g (!a)=[]) : ∀{st out:List Nat},oe f st out->out.Nodup->oe g st (after b a out)|_,_,.nil,_=>.nil|_,_,.cons (x:=x) (st:=st) (out:=out) d,hn=>do i:=zv.mp hn;@after;e<|x=b;[qE e];!e;.cons ?_;[c];.cons ?_;[h];Em d λy j=>hg y λz=>i.1 (z▸j);[qB e];.cons ?_;[hg x e];JT hg c h d i.2
theorem lE:∀{c:List Pl},WF c->oe (rk c) (rk c none) (eB c)|[],_=>.nil|(a,none)::c,h=>(do d:=lE h.2.2;i:∀x,rk ((a,none)::c) (!x)=rk c (!x):=λx=>(do[nR,qB (λz=>do-z)]);[nR,qE rfl];.cons ?_;[i a,Lr h.2.2 h.1];Em d λx _=>i x)|(a,!b)::c,h=>do d:=lE h.2.2;e:a≠b:=λz=>h.1 (z▸h.2.1 b rfl);[nR,qB (λz=>do-z)];JT (f:=rk c) (g:=rk ((a,!b)::c)) ?_ ?_ ?_ d (jV h.2.2);(x,j);[nR,qB (λz=>j (qJ z).symm)];[nR,qE rfl];[nR,qB (λz=>e (qJ z).symm),Lr h.2.2 h.1]
def oe.nil_inv{out:List Nat}(d:oe f [] out):out=[]:=do-d;2
def oe.cons_inv{st out:List Nat}(d:oe f (x::st) out):∃a,out=x::a/\oe f (f (!x)++st) a:=do(by cases d with|cons d=>?_);{_,O,d}
theorem zj{R:Nat->Nat->Bool}:∀{xs ys:List Nat},xs.Perm ys->(xs.Pairwise λa b=>R b a=false)->(ys.Pairwise λa b=>R a b=true)->xs=ys|[],ys,p,_,_=>(List.nil_perm.mp p).symm|x::xs,[],p,_,_=>absurd p.length_eq (do 0)|x::xs,y::ys,p,hx,hy=>do e<|x=y;!e;[zj ((List.perm_cons x).mp p) (vi.mp hx).2 (vi.mp hy).2];h1:y∈xs:=(do z||z:=qt.mp (p.mem_iff.mpr qi);absurd z.symm e;z);h2:x∈ys:=(do z||z:=qt.mp (p.mem_iff.mp qi);absurd z e;z);a1:=(vi.mp hx).1 y h1;a2:=(vi.mp hy).1 x h2;a1<-[a2];-a1
end Rga
namespace L2
open PySem PySem.Spec PySem.W PyProof.Rows
def tu{D:Nat->UI}{js ms ix:List Nat}(hp:js.Perm ms)(j:ms.Pairwise λa b=>bN (D a) (D b)=true)(h:cU (js.map D) ix):(ix.map λi=>js.getD i 0)=ms:=do e:ix.Perm (List.range js.length):=(by have:=h.1;rwa [qh]at this);Rga.zj (R:=λa b=>bN (D a) (D b)) ((QI e).trans hp) ?_ j;h2:=h.2;(by rw[z9]at h2 ⊢);h2.imp_of_mem λ{a b} f g c=>?_;d:∀i,i∈ix->c9 (js.map D) i=D (js.getD i 0):=λi hi=>(do this:i<js.length:=qj.mp (e.mem_iff.mp hi);@c9;[ze,qv,ze,qe this];2);c<-[d a f,d b g];c
def aj(H H':Hp):Prop:=∀b xs,H b=!(.tup xs)->H' b=!(.tup xs)
section
variable {H H1 H':Hp}
def ag.af(s:ag H H'):aj H H':=λb xs e=>s b _ e
def aj.trans(a:aj H H1)(b:aj H1 H'):aj H H':=λc xs e=>b c xs (a c xs e)
def aj.refl(H:Hp):aj H H:=λ_ _ e=>e
def aj.wr(e:H a=!o)(c:∀ys,o≠.tup ys):aj H (upd H a o'):=λb xs q=>do[az (Nd q e c)];q
def aj.wl(e:H a=!(.lst xs)):aj H (upd H a o'):=aj.wr e λys z=>do-z
def aj.wd(e:H a=! 69):aj H (upd H a o'):=aj.wr e λys z=>do-z
mutual
theorem DT.af(t:aj H H'):∀{x:V} {d:UI},DT H x d->DT H' x d
 |_,_,.aV=>.aV
 |_,_,.bl b=>.bl b
 |_,_,.int i=>.int i
 |_,_,.str z=>.str z
 |_,_,.tup e h=>.tup (t _ _ e) (dn.af t h)
theorem dn.af(t:aj H H'):∀{x:List V} {d:List UI},dn H x d->dn H' x d
 |_,_,.nil=>.nil
 |_,_,.cons a b=>.cons (DT.af t a) (dn.af t b)
end
def GK.af{k:KD}(g:GK H k v)(t:aj H H'):GK H' k v:=g.cY t
end
def AN(P:V->Nat->Prop)(vs:List V)(js:List Nat):Prop:=vs.length=js.length/\∀(m:Nat) v i,vs[m]?=!v->js[m]?=!i->P v i
section
variable {P P':V->Nat->Prop}{vs us:List V}{js ks:List Nat}
def AN.imp(h:AN P vs js)(f:∀v i,P v i->P' v i):AN P' vs js:={h.1,λm v i a b=>f _ _ (h.2 m v i a b)}
def AN.nil:AN P [] []:={O,λm v i z=>do-z}
def AN.app(h:AN P vs js)(g:AN P us ks):AN P (vs++us) (js++ks):=do _;{do[qg,qg,h.1,g.1],λm v i a b=>?_};c<|m<vs.length;a<-[zt c];b<-[zt (do[<-h.1];c)];h.2 m v i a b;a<-[yh ()];b<-[yh (do[<-h.1];()),<-h.1];g.2 _ v i a b
def AN.one(h:P v i):AN P [v] [i]:={O,λm c i' a b=>do(by cases m with|zero|succ m=>?_);-a;-b;h;-a}
def AN.snoc(h:AN P vs js)(a:P v i):AN P (vs++[v]) (js++[i]):=h.app (.one a)
theorem AN.ix(h:AN P vs js)(ix:List Nat)(f:∀i∈ix,i<vs.length):AN P (ix.map λi=>vs.getD i .aV) (ix.map λi=>js.getD i 0):=do _;{do[qh,qh],λm v i a d=>?_};(by rw[qv]at a d;cases e:ix[m]? with|none|some k=>?_);a<-[e];-a;(by rw[e]at a d);c:=f k (qu e);b:k<js.length:=(do[<-h.1];c);h.2 k v i ?_ ?_;[<-qJ a,qe c];¬some vs[k]=!(vs.getD k .aV);[ze,qe c];2;[<-qJ d,qe b];¬some js[k]=!(js.getD k 0);[ze,qe b];2
def AN.at{m:Nat}{v:V}(h:AN P vs js)(e:vs[m]?=!v):∃i,js[m]?=!i/\P v i:=do a:m<js.length:=(do[<-h.1];(qw.mp e).1);{js[m],qe a,h.2 m v _ e (qe a)}
def AN.last(h:AN P vs (js++[i])):∃us x,vs=us++[x]/\AN P us js/\P x i:=do a:=h.1;a<-[qg,qr];z||{us,x,z}:=ji vs;a<-[z];absurd a (do 0);z<-[jj];!z;d:us.length=js.length:=(do a<-[qg,qr];());{us,x,O,{d,λm v i b c=>h.2 m v i ?_ ?_},h.2 us.length x i (do 0) (do[d];0)};[zt (qw.mp b).1];b;[zt (qw.mp c).1];c
theorem AN.iw(a:∀v i,P v i->DT H v (D i)):∀{vs:List V} {js:List Nat},AN P vs js->dn H vs (js.map D)|[],[],_=>.nil|[],_::_,h=>absurd h.1 (do 0)|_::_,[],h=>absurd h.1 (do 0)|v::vs,j::js,h=>.cons (a _ _ (h.2 0 v j rfl rfl)) (AN.iw a {do this:=h.1;0<|this,λm v i b c=>h.2 (m+1) v i (do 0<|b) (do 0<|c)})
end
def kd(nk:Nat->List Key):Option Nat->KD|none=>.aV|some i=>.tup (nk i)
def NM(nk:Nat->List Key)(H:Hp)(v:V)(i:Nat):Prop:=GK H (.tup (nk i)) v
def PL(nk:Nat->List Key)(bh:Nat->Option Nat)(D:Nat->UI)(H:Hp)(v:V)(k:Nat):Prop:=∃b vn a vk,v=.ref b/\H b=!(.tup [vn,a,vk])/\NM nk H vn k/\GK H (kd nk (bh k)) a/\DT H vk (D k)
section
variable {nk:Nat->List Key}{bh:Nat->Option Nat}{D:Nat->UI}{H H' H0:Hp}{v:V}{k:Nat}
theorem NM.af(h:NM nk H v k)(t:aj H H'):NM nk H' v k:=GK.af h t
theorem PL.af(h:PL nk bh D H v k)(t:aj H H'):PL nk bh D H' v k:=do _;{b,vn,a,vk,e,h1,h2,d,c}:=h;{b,vn,a,vk,e,t _ _ h1,h2.af t,d.af t,c.af t}
structure xJ(nk:Nat->List Key)(bh:Nat->Option Nat)(D:Nat->UI)(ms:List Nat)(t:Nat):Prop where
 bY:ms.length<=2000
 up:ms.Pairwise λa b=>bN (D a) (D b)=true
 inj:∀i∈ms,∀j∈ms,nk i=nk j->i=j
 wf:Rga.WF (ms.reverse.map λk=>(k,bh k))
 keys:KeysAre (ms.map D) t
def kids(bh:Nat->Option Nat)(ms:List Nat)(k:Option Nat):List Nat:=ms.filter λm=>decide (bh m=k)
def Kg(bh:Nat->Option Nat)(ms:List Nat)(m:Nat)(k:Option Nat):kids bh (ms++[m]) k=if bh m=k then kids bh ms k++[m] else kids bh ms k:=do@kids;[vj];e<|bh m=k;[qE e,List.filter_cons_of_pos (do 0<|e)];2;[qB e,List.filter_cons_of_neg (do 0<|e),List.filter_nil,List.append_nil]
def Hq(bh:Nat->Option Nat)(ms:List Nat)(k:Option Nat):Rga.rk (ms.reverse.map λm=>(m,bh m)) k=(kids bh ms k).reverse:=do(by unfold Rga.rk kids);[jo,zx,<-bw];¬List.map (λx=>x) _=_;[List.map_id'];2
structure FD(nk:Nat->List Key)(bh:Nat->Option Nat)(all ms:List Nat)(H0 H:Hp)(dq:UJ)(kvs:List 68):Prop where
 has:H dq=! 69
 new:H0 dq=none
 each:∀k:Option Nat,(∀i,k=!i->i∈all)->(vG kvs (kd nk k)=none/\kids bh ms k=[])\/∃q vs,vG kvs (kd nk k)=!(.ref q)/\H q=!(.lst vs)/\AN (NM nk H) vs (kids bh ms k)/\H0 q=none
 inj:∀k k' q,vG kvs k=!(.ref q)->vG kvs k'=!(.ref q)->k=k'
 live:∀k q,vG kvs k=!(.ref q)->∃xs,H q=!(.lst xs)
def FD.same{all ms:List Nat}(h:FD nk bh all ms H0 H dq kvs)(s:ag H H'):FD nk bh all ms H0 H' dq kvs where
 has:=s _ _ h.has
 new:=h.new
 each:=λk a=>by
  rcases h.each k a with z|⟨q,vs,h1,h2,h3,h4⟩
  .exact .inl z
  .exact .inr ⟨q,vs,h1,s _ _ h2,h3.imp λv i g=>g.af s.af,h4⟩
 inj:=h.inj
 live:=λk q e=>let⟨xs,z⟩:=h.live k q e;{xs,s _ _ z}
def HS{all:List Nat}(hi:∀i∈all,∀j∈all,nk i=nk j->i=j){k a:Option Nat}(h1:∀i,k=!i->i∈all)(h2:∀i,a=!i->i∈all)(e:kd nk k=kd nk a):k=a:=do(by cases k with|none|some i=>?_;cases a with|none|some j=>?_);2;-e;(by cases a with|none|some j=>?_);-e;[hi i (h1 i rfl) j (h2 j rfl) (KD.tup.inj e)]
def FD.old{all ms:List Nat}(h:FD nk bh all ms H0 H dq kvs)(hi:∀i∈all,∀j∈all,nk i=nk j->i=j)(r:∀i,bh m=!i->i∈all)(e:vG kvs (kd nk (bh m))=!(.ref q))(eq:H q=!(.lst vs))(p:NM nk H vn m):FD nk bh all (ms++[m]) H0 (upd H q (.lst (vs++[vn]))) dq kvs where
 has:=by rw[az (λz=>by rw[←z,h.has]at eq;cases eq)];exact h.has
 new:=h.new
 inj:=h.inj
 live:=λk a o=>by
  by_cases z:a=q
  .subst z;exact{_,aF}
  .obtain⟨xs,y⟩:=h.live k a o
   exact{xs,by rw[az z];exact y}
 each:=λk c=>by
  have n:aj H (upd H q (.lst (vs++[vn]))):=aj.wl eq;rw[Kg]
  by_cases l:bh m=k
  .subst l
   rw[qE rfl];rcases h.each _ c with⟨z,_⟩|⟨a,b,h1,h2,f,d⟩
   .rw[z]at e;cases e
   .rw[e]at h1
    cases h1;rw[eq]at h2;cases h2;exact .inr {q,_,e,aF,(f.snoc p).imp λv i g=>g.af n,d}
  .rw[qB l]
   rcases h.each k c with z|⟨a,b,h1,h2,f,d⟩
   .exact .inl z
   .refine .inr ⟨a,b,h1,?_,f.imp λv i g=>g.af n,d⟩
    have nq:a≠q:=λz=>l (HS hi r c (h.inj _ _ q e (by rw[←z];exact h1)))
    rw[az nq];exact h2
def FD.first{all ms:List Nat}(h:FD nk bh all ms H0 H dq kvs)(hi:∀i∈all,∀j∈all,nk i=nk j->i=j)(A:∀i,bh m=!i->i∈all)(e:vG kvs (kd nk (bh m))=none)(t:H0 q=none)(eq:H q=!(.lst []))(b:∀k,vG kvs k≠some (.ref q))(B:NM nk H vn m):FD nk bh all (ms++[m]) H0 (upd (upd H dq (.dG (pG kvs (kd nk (bh m)) vk (.ref q)))) q (.lst [vn])) dq (pG kvs (kd nk (bh m)) vk (.ref q)) where
 has:=by rw[az (λz=>by rw[←z,h.has]at eq;cases eq),aF]
 new:=h.new
 inj:=λk o a h1 h2=>by
  rw[eE]at h1 h2
  by_cases p:k=kd nk (bh m)
  .by_cases d:o=kd nk (bh m)
   .rw[p,d]
   .rw[qE p]at h1
    rw[qB d]at h2;cases h1;exact absurd h2 (b o)
  .rw[qB p]at h1
   by_cases d:o=kd nk (bh m)
   .rw[qE d]at h2
    cases h2;exact absurd h1 (b k)
   .rw[qB d]at h2
    exact h.inj _ _ _ h1 h2
 live:=λk a f=>by
  by_cases z:a=q
  .subst z;exact{_,aF}
  .rw[eE]at f
   by_cases c:k=kd nk (bh m)
   .rw[qE c]at f
    cases f;exact absurd rfl z
   .rw[qB c]at f
    obtain⟨xs,y⟩:=h.live k a f
    have r:a≠dq:=λz=>by rw[z,h.has]at y;cases y
    exact{xs,by rw[az z,az r];exact y}
 each:=λk n=>by
  have nq:q≠dq:=λz=>by rw[z,h.has]at eq;cases eq
  have x:aj H (upd H dq (.dG (pG kvs (kd nk (bh m)) vk (.ref q)))):=aj.wd h.has
  have s:(upd H dq (.dG (pG kvs (kd nk (bh m)) vk (.ref q)))) q=!(.lst []):=by rw[az nq];exact eq
  have u:=x.trans (aj.wl (o':=.lst [vn]) s);rw[Kg,eE]
  by_cases c:bh m=k
  .subst c
   rw[qE rfl,qE rfl];rcases h.each _ n with⟨_,z⟩|⟨a,l,h1,_⟩
   .rw[z]
    exact .inr ⟨q,[vn],O,aF,.one (B.af u),t⟩
   .rw[e]at h1;cases h1
  .rw[qB c,qB (λz=>c (HS hi A n z.symm))]
   rcases h.each k n with z|⟨a,l,h1,h2,h3,h4⟩
   .exact .inl z
   .refine .inr ⟨a,l,h1,?_,h3.imp λv i g=>g.af u,h4⟩
    have w:a≠q:=λz=>b _ (z▸h1)
    have r:a≠dq:=λz=>by rw[z,h.has]at h2;cases h2
    rw[az w,az r];exact h2
def FD.get{all ms:List Nat}(h:FD nk bh all ms H0 H dq kvs)(d:H z=!(.lst []))(k:Option Nat)(b:∀i,k=!i->i∈all):∃a vs,(vG kvs (kd nk k)).getD (.ref z)=.ref a/\H a=!(.lst vs)/\AN (NM nk H) vs (kids bh ms k):=do _;{h1,h2}||{q,vs,h1,h2,c,_}:=h.each k b;⟨z,[],do[h1];2,d,do[h2];.nil⟩;⟨q,vs,do[h1];2,h2,c⟩
end
end L2
namespace Rga
theorem AW:∀{a:List Pl},WF a->∀{k b:Nat},(k,!b)∈a->b∈jB a|p::a,h,k,b,hm=>do z||z:=qt.mp hm;qm _ (h.2.1 b (do[<-z]));qm _ (AW h.2.2 z)
theorem kR:∀{st out:List Nat},oe f st out->st.length<=out.length|_,_,.nil=>qb _|_,_,.cons (x:=x) d=>do this:=kR d;this<-[qg];[zf,zf];()
def cC(bh:Nat->Option Nat)(ms:List Nat):List Pl:=ms.reverse.map λk=>(k,bh k)
def dP(bh:Nat->Option Nat)(ms:List Nat):jB (cC bh ms)=ms.reverse:=do(by unfold jB cC);[zx];¬List.map (λx=>x) _=_;[List.map_id']
def DH(h:m∈ms):(m,bh m)∈cC bh ms:=qc.mpr {m,vy.mpr h,O}
def Mp(w:WF (cC bh ms))(a:m∈ms)(e:bh m=!i):i∈ms:=do this:=AW w (k:=m) (b:=i) (do[<-e];DH a);this<-[dP];vy.mp this
def pe(w:WF (cC bh ms))(h:x∈eB (cC bh ms)):x∈ms:=do this:=(cF w).mem_iff.mp h;this<-[dP];vy.mp this
def ie(w:WF (cC bh ms)):(eB (cC bh ms)).length=ms.length:=do[(cF w).length_eq,dP,yb]
end Rga
namespace L2
open PySem PySem.Spec PySem.W PyProof.Rows
def del(H:Hp)(p:UJ):Hp:=λb=>if b=p then none else H b
def eG:del H p p=none:=qE rfl
def bW(h:b≠p):del H p b=H b:=qB h
def ID(h:H b=none):del H p b=none:=do e<|b=p;!e;eG;[bW e];h
def ox:ag (del H p) H:=λb u q=>do e<|b=p;!e;q<-[eG];-q;q<-[bW e];q
def aj.cut(e:H p=!(.lst xs))(s:ag (del H p) H'):aj H H':=λb ys q=>s _ _ (do[bW (Nd q e λzs z=>do-z)];q)
end L2
namespace Rga
theorem fJ:∀{n:Nat},(∀i,i<n->∀b,bh i=!b->b<i)->WF (cC bh (List.range n))| 0,_=>trivial|n+1,h=>do e:cC bh (List.range (n+1))=(n,bh n)::cC bh (List.range n):=(do@cC;[yx,jp];2);[e];{?_,λb a=>?_,fJ λi hi=>h i ()};[dP,vy,qj];wj n;[dP,vy,qj];h n () b a
end Rga
namespace L2
open PySem PySem.Spec PySem.W PyProof.Rows Rga
section
variable {P:V->Nat->Prop}{vs:List V}{js:List Nat}
theorem AN.take(h:AN P vs js)(r:Nat):AN P (vs.take r) (js.take r):=do _;{do[wb,wb,h.1],λm v i a b=>?_};(by rw[bz]at a b);c<|m<r;(by rw[qE c]at a b);h.2 m v i a b;a<-[qB c];-a
theorem AN.drop(h:AN P vs js)(r:Nat):AN P (vs.drop r) (js.drop r):=do _;{do[v9,v9,h.1],λm v i a b=>?_};(by rw[mx]at a b);h.2 _ v i a b
end
def uG(h:x<y):bF (.int x::r) (.int y::a)=true:=do[bF,qB (λz=>by have:=(cP _ _ rfl).mp z;injection this with this;omega)];qH h
def wR(h:bF r a=true):bF (.int x::r) (.int x::a)=true:=do[bF,qE ((cP _ _ rfl).mpr rfl)];h
def Ub(d:UI):Prop:=(∃a b:Int,d=.tuple [.int a,.int b])\/∃a b c:Int,d=.tuple [.int a,.int b,.int c]
def rD(h:∀d∈ds,Ub d):KeysAre ds 2:=do _;{fF λd a=>?_,λd a=>?_,λx c y b=>?_,λd a=>?_};by rcases h d a with⟨_,_,rfl⟩|⟨_,_,_,rfl⟩ <;> rfl;rcases h d a with⟨_,_,rfl⟩|⟨_,_,_,rfl⟩ <;> trivial;rcases h x c with⟨_,_,rfl⟩|⟨_,_,_,rfl⟩ <;> rcases h y b with⟨_,_,rfl⟩|⟨_,_,_,rfl⟩ <;> rfl;rcases h d a with⟨_,_,rfl⟩|⟨_,_,_,rfl⟩ <;> exact(by decide:1<=60)
end L2
namespace L2
open PySem PySem.Spec PySem.W PyProof.Rows
def kJ(A:Around)(s:UH)(x y:MD)(b:Bool):Prop:=∀(prog:Program) (w:World) (E:KE) (Q:KE),Q (.bool b) s->wpAny 66 A (richCompare .Gt x y) Q E s
open SeqAt in
def N7(l b:UJ)(us vs:Array MD)(n D:Nat)(v r:Option UJ)(sl t:Array (Option MD))(e:Nat->Bool)(c:Bool) :
  Meets (Builtin.«tuple.__gt__» {[.ref l,.ref b],[]})
   (λA R s=>s.heap.get? l=some { cls:=.type "tuple",dict:=v,data:=.seq us n,slots:=sl }/\s.heap.get? b=some { cls:=.type "tuple",dict:=r,data:=.seq vs D,slots:=t } ∧
    (∀j (h1:j<us.size) (h2:j<vs.size),EqAt A.in1 s us[j] vs[j] (e j)) ∧
    (∀i (h1:i<us.size) (h2:i<vs.size),(∀j,j<i->e j=true)->e i=false->kJ A.in1 s us[i] vs[i] c) ∧
    ((∀j,j<min us.size vs.size->e j=true)->c=decide (vs.size<us.size))/\R (.ok (.ret (.bool c))) s) :=
 .of_wp λprog w A R s h=>by
  obtain⟨hp,g,d,tk,B⟩:=s;obtain⟨C,u,G,p,f,h⟩:=h;have K:=AutoSeq1.sub_tuple_tuple
  have I:(us.toList.zip vs.toList).length=min us.size vs.size:=by simp
  wp_walk using wpAny_loadPart' C,wpAny_loadPart' u,wpAny_forIn_list _ (λrest b s'=>b.1=none/\s'={hp,g,d,tk,B}/\∃i,rest=(us.toList.zip vs.toList).drop i/\∀j,j<i->e j=true) _
  case turn =>
   rintro⟨y,x⟩ rest b s' ⟨a,rfl,i,hz,hi⟩
   have k:i<(us.toList.zip vs.toList).length:=by
    rcases yz i (us.toList.zip vs.toList).length with h' |h'
    .exact h'
    .rw[bg h']at hz;cases hz
   have h1:i<us.size:=()
   have h2:i<vs.size:=()
   rw[jn k]at hz;injection hz with hyx hrest
   have m:y=us[i]:=by have:=congrArg Prod.fst hyx;simpa using this
   have E:x=vs[i]:=by have:=congrArg Prod.snd hyx;simpa using this
   subst m E;refine qA (G i h1 h2 prog w _ _ ?_)
   cases m:e i with
   |true =>
    wp_walk
    exact{O,O,i+1,hrest,λj o=>by
     by_cases z:j=i
     .rw[z];exact m
     .exact hi j ()}
   |false =>
    have q:=p i h1 h2 hi m;dsimp only;rw[qE (by rfl)];refine qA (wpAny_rule (qA (q prog w _ _ ?_)));exact qA (qF (qF (qF {_,O,h})))
  case fin =>
   rintro⟨H,J⟩ s' ⟨a,rfl,i,hz,hi⟩
   simp only at a
   subst a
   have F:min us.size vs.size<=i:=by
    rcases yz i (us.toList.zip vs.toList).length with h' |h'
    .rw[jn h']at hz;cases hz
    .omega
   have:=f λj o=>hi j ()
   wp_walk
   exact{_,O,by rw[this]at h;simpa[Builtin.Tuple.tupleCompareSizes] using h}
  case h =>
   exact{O,O,0,O,λj o=>absurd o (yf _)}
def kJ.tuples{A:Around}{s:UH}{l b:UJ}{us vs:Array MD}{e:Nat->Bool}{c:Bool}(u:s.heap.IsTuple l us)(z:s.heap.IsTuple b vs)(C:A.units<cLine)(D:∀j (h1:j<us.size) (h2:j<vs.size),SeqAt.EqAt A.in1 s us[j] vs[j] (e j))(g:∀i (h1:i<us.size) (h2:i<vs.size),(∀j,j<i->e j=true)->e i=false->kJ A.in1 s us[i] vs[i] c)(d:(∀j,j<min us.size vs.size->e j=true)->c=decide (vs.size<us.size)):kJ A s (.ref l) (.ref b) c:=λprog w E Q h=>do _;{{v,B,data,sl},q,p,n,t}:=id u;{{r,o,k,m},f,a,y,hd2}:=id z;(by simp only at p t a hd2;subst p t a hd2);richCompare_meets_room (op:=.Gt) {_,q,O} {_,f,O} F.slot_tuple_gt F.entry_tuple_gt (F.args_tuple_gt_2 _ _) (N7 l b us vs n y B o sl m e c) {q,f,D,g,d,show Value.bool c≠Value.notImplemented/\Q (.bool c) s from{(λx=>nomatch x),h}} C
def kJ.ints(i j:Int)(t u:Tok):kJ A s (.int i t) (.int j u) (decide (j<i)):=λprog w E Q h => richCompare_gives (op:=.Gt) (typeIs_int s _ t) (typeIs_int s _ u) F.slot_int_gt F.entry_int_gt (F.args_int_gt_2 _ _) (gives_int_gt _ _ t u) (λx=>nomatch x) h
def Ct{ns:List Int}{i:Nat}(h:i<(ns.map PyData.int).length):∃k,(ns.map PyData.int).getD i .none=.int k:=do h<-[qh];{ns[i],do[ze,qv,qe h];2}
theorem Cz:∀ns:List Int,PyData.canLayAll0 (ns.map PyData.int)=true|[]=>rfl|n::ns=>do¬(true&&PyData.canLayAll0 (ns.map PyData.int))=true;[Cz ns];2
theorem Ji:∀ns:List Int,PyData.depthAll (ns.map PyData.int)=0|[]=>rfl|n::ns=>do¬max 0 (PyData.depthAll (ns.map PyData.int))=0;[Ji ns];2
theorem yE:∀ns ms:List Int,fD (ns.map PyData.int) (ms.map PyData.int)=true|[],_=>rfl|_::_,[]=>rfl|n::ns,m::ms=>do¬(true&&fD (ns.map PyData.int) (ms.map PyData.int))=true;[yE ns ms];2
open SeqAt in
def Po:∀(ns ms:List Int) (j:Nat),pairEq (ns.map PyData.int) (ms.map PyData.int) j=pairEq (ms.map PyData.int) (ns.map PyData.int) j:=λns ms j=>by
 unfold pairEq
 have sd:∀a b:UI,(∃x,a=.int x)\/a=.none->(∃x,b=.int x)\/b=.none->PyData.eqv a b=PyData.eqv b a:=λa b f d=>by
  rcases f with⟨x,rfl⟩|rfl <;> rcases d with⟨y,rfl⟩|rfl
  .by_cases e:x=y
   .rw[e]
   .have h1:PyData.eqv (.int x) (.int y)=false:=by
     cases q:PyData.eqv (.int x) (.int y) with
     |false=>rfl
     |true=>have:=(cP _ _ rfl).mp q;injection this with this;exact absurd this e
    have h2:PyData.eqv (.int y) (.int x)=false:=by
     cases q:PyData.eqv (.int y) (.int x) with
     |false=>rfl
     |true=>have:=(cP _ _ rfl).mp q;injection this with this;exact absurd this.symm e
    rw[h1,h2]
  .rfl
  .rfl
  .rfl
 have c:∀l:List Int,(∃x,(l.map PyData.int).getD j .none=.int x)\/(l.map PyData.int).getD j .none=.none:=λl=>by
  by_cases h:j<(l.map PyData.int).length
  .exact .inl (Ct h)
  .exact .inr (by rw[ze,ww ()];rfl)
 exact sd _ _ (c ns) (c ms)
open SeqAt in
def Ky{A:Around}{s:UH}{a b:MD}{u bs:List UJ}{ns ms:List Int}(D:Reads s.heap a (.tuple (ns.map PyData.int)) u)(t:Reads s.heap b (.tuple (ms.map PyData.int)) bs)(J:A.units+2<cLine) :
  kJ A s a b (bN (.tuple (ms.map PyData.int)) (.tuple (ns.map PyData.int))):=by
 cases D with
 |tuple h1 h2 C p =>
  cases t with
  |tuple F B E n =>
   rename_i l o us m H o' vs I
   have r:=ReadsAll.length _ _ _ p;have q:=ReadsAll.length _ _ _ n;rw[zu]at r q;rw[bN]
   have k:∀j (e:j<us.size) (f:j<vs.size),EqAt A.in1 s us[j] vs[j] (pairEq (ms.map PyData.int) (ns.map PyData.int) j):=λj e f=>by
    obtain⟨z,d⟩:=iU (i:=j) (by rw[zu];exact e) p;obtain⟨p2,c⟩:=iU (i:=j) (by rw[zu];exact f) n;have v:=xb (ns.map PyData.int) j ();rw[Ji]at v;have:=eqAt_reads ((ns.map PyData.int).getD j .none) ((ms.map PyData.int).getD j .none) A.in1 s _ _ _ _ d c (qP (Cz ns) ()) (qP (Cz ms) ()) (by show A.units+1+_<cLine;omega)
    simp only[Array.getElem_toList]at this
    rw[←Po];exact this
   refine kJ.tuples {_,h1,h2,_,C} {_,F,B,_,E} () k (λi e f g G=>?_) λg=>?_
   .obtain⟨z,d⟩:=iU (i:=i) (by rw[zu];exact e) p
    obtain⟨p2,c⟩:=iU (i:=i) (by rw[zu];exact f) n;rw[Dj _ _ i () () g G];obtain⟨x,ex⟩:=Ct (ns:=ns) (i:=i) ();obtain⟨y,w⟩:=Ct (ns:=ms) (i:=i) ();rw[ex]at d ⊢;rw[w]at c ⊢
    simp only[Array.getElem_toList]at d c
    generalize us[i]=u0 at d ⊢;generalize vs[i]=v0 at c ⊢;cases d;cases c;exact kJ.ints _ _ _ _
   .rw[Dr _ _ λj h=>g j (),r,q]
def ua(c:UJ)(q:UK):HO:=.ext λh=>h.CodeRec (.ref c) q
def Tb(a cl:Nat)(q:UK)(P:UJ)(H:Hp):Prop:=H P=!(.cn #[])\/∃c,H P=!(.cn #[rawInt a,rawInt cl,.ref c])/\H c=!(ua c q)
def Tb.same{a cl:Nat}(t:Tb a cl q P H)(s:ag H H'):Tb a cl q P H':=do t||{c,t,u}:=t;.inl (s _ _ t);.inr ⟨c,s _ _ t,s _ _ u⟩
theorem Tb.cn{a cl:Nat}(t:Tb a cl q P H):∃ps,H P=!(.cn ps):=do t||{c,t,u}:=t;⟨_,t⟩;⟨_,t⟩
def Tb.keep{a cl:Nat}(t:Tb a cl q P H)(k:∀b u,H b=!u->((∃ps,u=.cn ps)\/∃d,u=.ext d)->H' b=!u):Tb a cl q P H':=do t||{c,t,u}:=t;.inl (k _ _ t (.inl ⟨_,O⟩));.inr ⟨c,k _ _ t (.inl ⟨_,O⟩),k _ _ u (.inr ⟨_,O⟩)⟩
def Tb.cut{d cl:Nat}(t:Tb d cl q P H)(e:H a=!o)(h1:∀ps,o≠.cn ps)(h2:∀f,o≠.ext f)(s:ag (del H a) H'):Tb d cl q P H' := t.keep λb u c g=>s _ _ (do[bW (λz=>?_)];c;!z;c<-[e];-c;{ps,z}||{f,z}:=g;h1 _ z;h2 _ z)
def Tb.wr{c cl:Nat}(t:Tb c cl q P H)(e:H a=!o)(h1:∀ps,o≠.cn ps)(h2:∀d,o≠.ext d):Tb c cl q P (upd H a o') := t.cut e h1 h2 λb u q=>do z<|b=a;!z;q<-[eG];-q;q<-[bW z];[az z];q
def Tq(r:h.CodeRec (.ref c) q):a0 P w H h c (ua c q):=do st:∀h1 h2:Heap,h1.CodeRec (.ref c) q->(∀o,h1.get? c=!o->h2.get? c=!o)->h2.CodeRec (.ref c) q:=(do(h1,h2,{b,d,vs,f,e,a,r},k);-e;{_,_,_,_,O,k _ a,r});{b,d,vs,f,e,a,g}:=id r;-e;{r,{_,a},st}
def oD(K:PySem.W.Frag)(x:UK):UJ:=match tabIn K x with|some (_,P)=>P|none=>0
def O0(K:PySem.W.Frag)(x:UK):UJ:=match tabIn K x with|some (c,_)=>c|none=>0
section
variable {X:Cx}{pins:List 71}{σ:St}{H:Hp}{s:UH}
def Inv.mF(I:Inv X pins σ H s){b:UJ}(a:↑s<=b):b∉d_ X.stack:=λc=>do z||z:=qt.mp (I.iF b c);absurd (zh I.lt a) (do[z];wj _);I.xn a z
def Inv.Gf{P c:UJ}{q:UK}{h':Heap}{tk:Nat}{more:Array MD}(I:Inv X pins σ H s)(f:H P=!(.cn #[]))(l:∀b o,b≠P->s.heap.get? b=!o->h'.get? b=!o)(m:↑s<=c)(x:h'.CodeRec (.ref c) q)(t:h'.get? P=!(tabObj more)) : Inv X pins σ (upd (upd H P (.cn more)) c (ua c q)) {s with heap:=h',toks:=tk}:=do r:H c=none:=I.a9.fresh m;A:P<↑s:=I.a9.lt f;p:P≠c:=qp (zh A m);a:∀b,b≠P->b≠c->(upd (upd H P (.cn more)) c (ua c q)) b=H b:=λb h1 h2=>(do[az h2,az h1]);j:∀{b u},H b=!u->(∀ps,u≠.cn ps)->b≠P/\b≠c:=λ{b u} e B=>{λz=>do !z;f<-[e];B _ (qJ f),λz=>do !z;r<-[e];-r};I.un {λb o e n _ _=>l b o (λz=>do !z;f<-[n];-f) e,λb o e n _ _=>{o.slots,l b o (λz=>do !z;f<-[n];-f) e},λb o e n _=>?_,λb o e _=>?_,λb xs e=>?_,λb o u e=>?_,λb ps e=>?_,λb o xs e n=>l b o (j n λps z=>do-z).1 e} λb u e=>?_;[a b (λz=>do !z;f<-[n];-f) (qp (zh (qG e) m))];n;z<|b=P;!z;{_,t};{o,l b o z e};{i,h}:=j e λps z=>(do-z);[a b i h];e;{i,h}:=j e λps z=>(do-z);[a b i h];e;z<|b=P;!z;e<-[f];-e;{more,do[az p,aF];0};{#[],?_};[a b z (λy=>do !y;e<-[r];-e),e];0;w<|b=c;!w;e<-[aF];-e;Tq x;e<-[az w];z<|b=P;!z;e<-[aF];-e;t;e<-[az z];(I.a9 b u e).cY (λd v k g=>l d v ?_ g) (λd g=>?_) λd xs g=>?_;k||k:=k;[k];z;(j k λps y=>do-y).1;{i,h}:=j g λps y=>(do-y);[a d i h];g;{i,h}:=j g λps y=>(do-y);[a d i h];g
end
end L2
namespace Rga
def RA{P:Nat->Bool}{p:Pl}{a:List Pl}(h:P p.1=true):(p::a).filter (λp=>P p.1)=p::a.filter λp=>P p.1:=yi (p:=λp:Pl=>P p.1) h
def QS{P:Nat->Bool}{p:Pl}{a:List Pl}(h:¬P p.1=true):(p::a).filter (λp=>P p.1)=a.filter λp=>P p.1:=yj (p:=λp:Pl=>P p.1) h
def JB(P:Nat->Bool)(a:List Pl):Prop:=∀k b,(k,!b)∈a->P k=true->P b=true
def JB.tail(h:JB P (p::a)):JB P a:=λk b c=>h k b (qm _ c)
def M5{P:Nat->Bool}{a:List Pl}{x:Nat}:x∈jB (a.filter λp=>P p.1)↔x∈jB a/\P x=true:=do@jB;1;(h);{p,hp,rfl}:=qc.mp h;this:=qk.mp hp;{qc.mpr {p,this.1,O},this.2};({h,b});{p,hp,rfl}:=qc.mp h;qc.mpr {p,qk.mpr {hp,b},O}
theorem gB:∀{d:List Pl},WF d->JB P d->WF (d.filter λp=>P p.1)|[],_,_=>trivial|(a,o)::d,h,c=>do g:=gB h.2.2 c.tail;f<|P a=true;[RA (p:=(a,o)) f];{λz=>h.1 (M5.mp z).1,λb i=>M5.mpr {h.2.1 b i,?_},g};e:o=!b:=i;!e;c a b qi f;[QS (p:=(a,o)) f];g
def jG(P:Nat->Bool)(bh:Nat->Option Nat)(ms:List Nat):cC bh (ms.filter P)=(cC bh ms).filter λp=>P p.1:=do@cC;[jo,<-bw];2
def tQ(h:∀k∈ms,P k=true->∀b,bh k=!b->P b=true):JB P (cC bh ms):=λk b g a=>do _;{j,c,e}:=qc.mp g;f:j=k:=congrArg Prod.fst e;d:bh j=!b:=congrArg Prod.snd e;!f;h _ (vy.mp c) a b d
end Rga
namespace L2
open PySem PySem.Spec PySem.W PyProof.Rows
def AN.mem(h:AN P vs js)(b:v∈vs):∃i∈js,P v i:=do _;{m,a,e}:=z6.mp b;{i,hi,p}:=h.at (m:=m) (v:=v) (do[qe a,e]);{i,qu hi,p}
theorem Iy:∀{ds:List UI},PyData.canLayAll0 ds=true->d∈ds->d.canLay0=true|e::ds,h,hm=>do a:(e.canLay0&&PyData.canLayAll0 ds)=true:=h;a<-[zn];rfl||hm:=qt.mp hm;a.1;Iy a.2 hm
def KeysAre.sub(h:KeysAre ds t)(p:∀x∈es,x∈ds):KeysAre es t := {fF λx g=>Iy h.lay (p x g),λd c=>h.kind d (p d c),λa f b e=>h.one a (p a f) b (p b e),λd c=>h.deep d (p d c)}
theorem xJ.filter(W:xJ nk bh D ms t)(c:∀k∈ms,P k=true->∀b,bh k=!b->P b=true):xJ nk bh D (ms.filter P) t where
 bY:=qf (wg _ _) W.bY
 up:=W.up.filter _
 inj:=λi hi j a e=>W.inj i (qk.mp hi).1 j (qk.mp a).1 e
 wf:=by
  have:=Rga.gB W.wf (Rga.tQ c);show Rga.WF (Rga.cC bh (ms.filter P));rw[Rga.jG];exact this
 keys:=W.keys.sub λx d=>by
  obtain⟨i,hi,rfl⟩:=qc.mp d;exact qc.mpr {i,(qk.mp hi).1,O}
def AN.pick:∀{vs:List V} {js:List Nat} {us:List V},AN P us (js.filter f)->∀{v:V} {i:Nat},P v i->f i=true->AN P (us++[v]) ((js++[i]).filter f):=λ{vs js us} h {v i} a hi=>do[vj,yi hi];h.snoc a
def AN.skip(h:AN P us (js.filter f))(hi:¬f i=true):AN P us ((js++[i]).filter f):=do[vj,yj hi,ye,wt];h
def kX(nk:Nat->List Key)(G:V->Nat->Prop):List 68->List Nat->Prop|[],[]=>True|e::es,i::is=>(e.1=.tup (nk i)/\G e.2.2 i)/\kX nk G es is|_,_=>False
theorem kX.snoc(h1:e.1=.tup (nk i))(h2:G e.2.2 i):∀{kvs:List 68} {js:List Nat},kX nk G kvs js->kX nk G (kvs++[e]) (js++[i])|[],[],_=>{{h1,h2},trivial}|[],_::_,h=>h.elim|_::_,[],h=>h.elim|_::_,_::_,h=>{h.1,kX.snoc h1 h2 h.2}
theorem kX.get{all:List Nat}(inj:∀i∈all,∀j∈all,nk i=nk j->i=j):∀{kvs:List 68} {js done:List Nat} {acc:List 68},kX nk G kvs js->(∀i∈done,i∈all)->(∀i∈js,i∈all)-> (∀i∈done,∃v,vG acc (.tup (nk i))=!v/\G v i)->∀i,i∈done\/i∈js->∃v,vG (putAll acc kvs) (.tup (nk i))=!v/\G v i|[],[],done,acc,_,_,_,h,i,hi=>(do hi||hi:=hi;h i hi;-hi)|[],_::_,_,_,h,_,_,_,_,_=>h.elim|_::_,[],_,_,h,_,_,_,_,_=>h.elim|e::es,j::js,done,acc,h,hd,hj,ha,i,hi=>do a:=hj j qi;kX.get inj (done:=done++[j]) (acc:=pG acc e.1 e.2.1 e.2.2) h.2 (λk b=>?_) (λk b=>hj k (qm _ b)) (λk b=>?_) i ?_;z||z:=qz.mp b;hd k z;[qo.mp z];a;[eE,h.1.1];c<|nk k=nk j;[qE (do[c])];d:k∈all:=(do z||z:=qz.mp b;hd k z;[qo.mp z];a);[inj k d j a c];{_,O,h.1.2};[qB (λz=>c (KD.tup.inj z))];z||z:=qz.mp b;ha k z;absurd (do[qo.mp z]) c;z||z:=hi;.inl (yo _ z);rfl||z:=qt.mp z;.inl (z7 _ (qo.mpr rfl));.inr z
theorem cw.af(t:aj H H'):∀{ys:List V} {es:List 68},cw H ys es->cw H' ys es|[],[],_=>trivial|[],_::_,h=>h.elim|_::_,[],h=>h.elim|_::_,_::_,h=>{let⟨b,e,h1,h2⟩:=h.1;{b,e,t _ _ h1,h2.af t},cw.af t h.2}
theorem cw.snoc(a:∃b,y=.ref b/\H b=! 76/\GK H e.1 e.2.1):∀{ys:List V} {es:List 68},cw H ys es->cw H (ys++[y]) (es++[e])|[],[],_=>{a,trivial}|[],_::_,h=>h.elim|_::_,[],h=>h.elim|_::_,_::_,h=>{h.1,cw.snoc a h.2}
inductive Th(x y:V)(H:Hp)(Q:VK):Prop
 |mk(ns ms:List Int)(_:DV H x (.tuple (ns.map PyData.int)))(_:DV H y (.tuple (ms.map PyData.int)))(_:Q (.bl (bN (.tuple (ms.map PyData.int)) (.tuple (ns.map PyData.int)))) H)
def Bp(g:X.A.units+2<cLine):de X (compareOp .Gt) (Th):=do(pins,s,σ,H,x,y,v,w,Q,I,b,c,h);{ns,ms,e,d,q}:=h;{i,f}:=e.reads I b;{bs,a}:=d.reads I c;Ky f a g X.prog X.w X.xe _ {.bl _,H,I,O,q}
def Mo(t u:TS):TS:=λD σ H=>∃P:St->Hp->Prop,t {D with nx:=P} σ H/\∀σ' H',P σ' H'->u D σ' H'
def Az(t:TT):TT:=λσ H Q=>∃P:Bool->Hp->Prop,t σ H P/\∀b H',P b H'->Q b H'
section
variable {X:Cx}{st:Stmt}{rest:List Stmt}{t u:TS}
def pX(h1:PS X st t)(h2:jD X rest u):jD X (st::rest) (Mo t u):=do _;{?_};(pins,s,σ,H,D,I,h);{P,h,k}:=h;wpAny_execs_cons (bL (h1 pins s σ H {D with nx:=P} I h) λf b q=>?_);(by cases f with|next|ret v|brk|cont=>?_);{σ',H',a,q}:=q;h2 pins b σ' H' D a (k σ' H' q);q;q;q
def rX{e:Expr}{t:TT}(h:PT X e t):PT X e (Az t):=do _;{?_};(pins,s,σ,H,Q,I,q);{P,h1,h2}:=q;bL (h pins s σ H P I h1) λb c ⟨H',a,q⟩=>{H',a,h2 _ _ q}
end
section
variable {prog:Program}{w:World}{A:Around}{E:KE}{s:UH}
def Bk(g:(d==sysModules)=false)(e:s.heap.get? d=!od)(f:od.ExactDict)(b:od.data=.dict es ep)(h:Q (.ref ↑s) {s with heap:=s.heap.push 73}):wpAny 66 A (pyIter (.ref d)) Q E s:=do c:s.TypeIs (.ref d) "dict":={od,e,f.1};wpAny_pyIter_slot c F.slot_dict_iter (qO F.slot_dict_iter c F.entry_dict_iter ?_ (F.args_dict_iter_1 _));(by unfold Builtin.«dict.__iter__» Builtin.Dict.dictSlotNone);qA (qA (wpAny_notOrdered_dict c ?_));qF (a:=Value.ref d) ?_;¬wpAny _ _ (Builtin.Dict.showsAll d >>= _) _ _ s;@Builtin.Dict.showsAll;[qB (by rw[g];decide)];qA (qF (qA (wpAny_dictEntries e b (qA (wpAny_dictEpoch e b ?_)))));qA (wpAny_newObj_type (qF {_,O,"dict_keyiterator",_,{_,qL _ rfl,O},F.slot_dict_keyiterator_next.lookup,by simpa[rawInt] using h}))
def xm(p:A.handled=none)(c:s.heap.IsKeyIter it d i n ep)(h:s.heap.get? d=!od)(f:od.data=.dict es ep)(hn:es.size=n)(h1:∀(hi:i<es.size) h',h'.IsKeyIter it d (i+1) n ep->Heap.SameBut it s.heap h'->Q (some es[i].key) {s with heap:=h'})(h2:es.size<=i->∀h',Heap.ExtBut it s.heap h'->Q none {s with heap:=h'}):wpAny 66 A (pyNext (.ref it)) Q E s:=do _;{o,k,l,g}:=id c;!hn;@pyNext;qA (wpAny_attempt (wpAny_callSpecial?_slot (name:=Str.ofString "__next__") c.typeIs F.slot_dict_keyiterator_next (qO F.slot_dict_keyiterator_next c.typeIs F.entry_dict_keyiterator_next ?_ (F.args_dict_keyiterator_next_1 _))));qA (qF (qA (qA ?_)));(by first|refine qA (wpAny_typeNameOfWhole_keyiter c.typeIs (qF ?_))|refine qA (wpAny_typeNameOf_keyiter c.typeIs (qF ?_)));qA (wpAny_fieldsOf k g ?_);#[_,show Builtin.Dict_items.ownsTuple "dict_keyiterator"=false from ⋯,Bool.false_eq_true,if_false];¬wpAny _ _ (if(Value.ref d==Value.none)=true then _ else _) _ _ s;[qB (show ¬((Value.ref d==Value.none)=true) from qx)];qA (qF (qA (wpAny_dictEntries h f ?_)));[qB (do 0)];qA (qF (qA (wpAny_dictEpoch h f ?_)));[qB (do 0)];qF ?_;hi<|i<es.size;#[_,show ¬((i:Int)<0) from (),if_false,Int.toNat_natCast,Array.getElem?_eq_getElem hi];qA ?_;(by first|refine qA (wpAny_typeNameOfWhole_keyiter c.typeIs (qF ?_))|refine qA (wpAny_typeNameOf_keyiter c.typeIs (qF ?_)));qA (wpAny_isOneOf_keyiter c.typeIs ?_);¬wpAny _ _ (setField (.ref it) 1 (rawInt ((i:Int)+1)) >>= _) _ _ s;qA (wpAny_setField k g (do 0) ?_);e:(s.heap.update it (Obj.mapFields (·.setIfInBounds 1 (rawInt ((i:Int)+1))))).IsKeyIter it d (i+1) es.size ep:={_,Heap.get?_update_self _ k (Obj.isFreed_of_fields (Obj.data_mapFields g _)),(Obj.cls_mapFields ..).trans l,do[Obj.data_mapFields g];#[rawInt]};qA (qK (qA (wpAny_isOneOf_keyiter (s:={s with heap:=s.heap.update it (Obj.mapFields (·.setIfInBounds 1 (rawInt ((i:Int)+1))))}) e.typeIs ?_)));¬wpAny _ _ (pure es[i].key) _ _ _;qF (qF {_,O,qF (h1 hi _ e (Heap.SameBut.update ..))});j:es.size<=i:=();#[_,show ¬((i:Int)<0) from (),if_false,Int.toNat_natCast,Array.getElem?_eq_none j];qA ?_;(by first|refine qA (wpAny_typeNameOfWhole_keyiter c.typeIs (qF ?_))|refine qA (wpAny_typeNameOf_keyiter c.typeIs (qF ?_)));¬wpAny _ _ (setField (.ref it) 0 .none >>= _) _ _ s;qA (wpAny_setField k g (do 0) ?_);¬wpAny _ _ (newExc (.type "StopIteration") [] >>= _) _ _ _;qA ?_;#[_,newExc,newTuple];qA (wpAny_newObj_type ?_ (by size_fits));qA (m:=firstArgMember _ _) (wpAny_of_eq (a:=Value.none) (by first|rfl|simp only[firstArgMember];rfl) ?_);wpAny_newObj_type ?_ (by size_fits);#[_,raiseNew];qA (wpAny_handled ?_);[show A.in1.handled=none from p];qA (qF (wpAny_throw ?_));qA (wpAny_isInstance (T:="StopIteration") (b:=true) {_,qL _ rfl,O} isSubtype_stop ?_);qF (h2 j _ (((Heap.SameBut.update ..).extBut.push _).push _))
end
theorem Bu{α β:Type}{F:α->β->Prop}:∀{l₁:List α} {a:List β},Paired F l₁ a->∀(i:Nat) (h1:i<l₁.length) (h2:i<a.length),F l₁[i] a[i]|_,_,.cons r _,0,_,_=>r|_,_,.cons _ t,i+1,h1,h2=>Bu t i (re h1) (re h2)
section
variable {X:Cx}{pins:List 71}{σ:St}{H:Hp}{s:UH}
def Inv.oT(I:Inv X pins σ H s)(e:H a=! 69)(i:s.heap.get? a=!o):Inv X pins σ (upd H a (.du o 69)) s:=do I.un (t':=s.toks) (h':=s.heap) {λb ob q _ _ _=>q,λb ob q _ _ _=>{ob.slots,q},λb ob q n _=>?_,λb ob q _=>{ob,q},λb xs q=>?_,λb ob u q=>?_,λb ps q=>?_,λb ob xs q n=>q} λb u q=>?_;[az (λz=>do n<-[z,e];-n)];n;[az (λz=>do q<-[z,e];-q)];q;[az (λz=>do q<-[z,e];-q)];q;{#[],do[az (λz=>do q<-[z,e];-q),q];0};f:∀c {d:UJ},H c=!(.own d)->(upd H a (.du o 69)) c=!(.own d):=λc d q=>(do[az (λz=>do q<-[z,e];-q)];q);h:∀c xs,H c=!(.tup xs)->(upd H a (.du o 69)) c=!(.tup xs):=λc xs q=>(do[az (λz=>do q<-[z,e];-q)];q);g<|b=a;!g;q<-[aF];-q;{i,(show a0 X.prog X.w H s.heap b 69 from I.a9 b _ e).cY (λ_ _ _ q=>q) (λc q=>f c q) h};q<-[az g];(I.a9 b u q).cY (λ_ _ _ q=>q) (λc q=>f c q) h
def rx(q:o.data=.dict es ep)(I:Inv X pins σ H s)(e:H a=!(.du o 69)):s.heap.get? a=!o/\es.size=kvs.length/\∀i (hi:i<es.size) (d:i<kvs.length),RelV kvs[i].2.1 es[i].key:=do _;{h,_,_,xs,f,o',m,n,c,_,b,k,_}:s.heap.get? a=!o/\a0 X.prog X.w H s.heap a 69:=I.a9 a _ e;c<-[h];-c;b<-[q];(by injection b with b _);!b;l:es.toList.length=kvs.length:=(do[k,qh,f.length]);{h,do 0<|l,λi hi d=>?_};j:i<xs.length:=(do[<-f.length];d);g:=Bu f i d j;p:es[i].key=xs[i].2.1:=(do h1:es.toList[i]?=some es[i]:=(do#[hi]);h1<-[k,qv,qe j];[<-qJ h1];2);[p];g.2.2.1
end
def vP(a:UJ)(o:Obj)(kvs:List 68):It := {λi H=>H a=!(.du o 69)/\i<kvs.length,λi H x H'=>H'=H/\∃e,kvs[i]?=!e/\x=e.2.1,λi H=>H a=!(.du o 69)/\kvs.length<=i}
def SH{P:Program}{w:World}{K:PySem.W.Frag}{tg:Expr}(a it:UJ){o:Obj}{es:Array DictEntry}{ep:Nat}{kvs:List 68}(m:o.data=.dict es ep):Turn P w K tg (vP a o kvs) [it] it (λi h=>h.IsKeyIter it a i kvs.length ep) where
 mem:=by simp
 obj:=λi h st b g=>by
  have e:b=it:=by simpa using g
  subst e;obtain⟨o,e,c,d⟩:=st;exact{o,e,λv z=>by rw[d]at z;cases z}
 keep:=λi h h' st k=>st.at λo e=>k it (by simp) o e
 item:=by
  intro X B F D t i pins s σ H E I n st hg;subst B F D;obtain⟨u,hi⟩:=hg;obtain⟨r,A,l⟩:=rx m I u;obtain⟨y,p,M,x,q,C⟩:=n it (by simp)
  refine xm (I.ok.hd t) st r m A (λf h' j J=>?_) λz=>absurd hi ()
  have L:Inv X pins σ H { s with heap:=h' }:=I.turned (t':=s.toks) (λb o g e=>(J.2 b g).trans e) y p x q C;obtain⟨ob,e,c,d⟩:=id j;exact{es[i].key,O,vO (s:={ s with heap:=h' }) e c d ⋯ {kvs[i].2.1,H,L,l i f hi,{O,kvs[i],qe hi,O},j,λb g=>(n b g).1}}
 done:=by
  intro X B F D t i pins s σ H E I n st hg;subst B F D;obtain⟨u,hi⟩:=hg;obtain⟨r,A,l⟩:=rx m I u;obtain⟨y,p,M,x,q,C⟩:=n it (by simp);exact xm (I.ok.hd t) st r m A (λf=>absurd f ()) λ_ h' G=>{O,I.turned (t':=s.toks) (λb o g e=>G b o g e) y p x q C}
 self:=λ_ _ _ _ _ st h=>wpAny_pyIter_keyiter st h
inductive wF(R:It->Hp->Prop)(x:V)(H1:Hp):Prop
 |mk(a kvs:_)(_:x=.ref a)(_:((H1 a=! 69/\∀o,R (vP a o kvs) (upd H1 a (.du o 69)))\/∃o,H1 a=!(.du o 69)/\R (vP a o kvs) H1))
def Fk(tl:TE):TI:=λσ H R=>tl σ H λx H1=>wF R x H1
section
variable {X:Cx}{tg:Expr}
def MT{tl:TE}(r:PE X l tl):PI X tg l (Fk tl):=do _;{?_};(pins,s,σ,H,R,I,h);bL (r pins s σ H _ I h) λv c ⟨x,H1,m,B,y⟩=>?_;{a,kvs,e,q}:=y;!e;-B;main:∀(H2:Hp) (o:Obj),Inv X pins σ H2 c->H2 a=!(.du o 69)->R (vP a o kvs) H2->wpAny 37 X.A (pyIter (.ref a)) (SA X pins σ tg R) X.xe c:=λH2 o g p z=>(do _;{j,_,k,xs,_,o',es,ep,d,t,n,_,_}:c.heap.get? a=!o/\a0 X.prog X.w H2 c.heap a 69:=g.a9 a _ p;d<-[j];-d;{_,f,_}:=rx n g p;Bk k j t n ?_;{↑c,[↑c],_,_,H2,O,g.kept (t':=c.toks) λb o e=>qI _ e,SH a _ n,{_,qL _ rfl,O,do[f];2},λb u=>?_,z};e:b=↑c:=(do 0<|u);!e;g.oA (qb _) (g.a9.fresh (qb _)));{i,q}||{o,i,q}:=q;{_,_,xs,_,o,es,ep,j,_}:=(show a0 X.prog X.w H1 c.heap a 69 from m.a9 a _ i);main _ o (m.oT i j) aF (q o);main _ o m i q
end
def Q6{a:UJ}{o:Obj}{kvs:List 68}{g:TG}{tb:TS}{D:Ends}{σ:St}{H:Hp}(b:Nat->St->Hp->Prop)(h0:b 0 σ H)(f:∀i σ H,b i σ H->H a=!(.du o 69))(n:∀i e σ H,kvs[i]?=!e->b i σ H->g e.2.1 σ H λc H2=>tb {D with nx:=b (i+1),ct:=b (i+1),bk:=D.nx} c H2)(q:∀σ H,b kvs.length σ H->D.nx σ H) : ∃W:Nat->Nat->St->Hp->Prop,(∃m,W 0 m σ H)/\∀i m σ H,W i m σ H-> ((vP a o kvs).stop i H/\D.nx σ H)\/((vP a o kvs).go i H/\∃N:St->Hp->Prop,(∀σ' H',N σ' H'->∃h,h<m/\W (i+1) h σ' H')/\∀x H',(vP a o kvs).zF i H x H'->g x σ H' λc H2=>tb {D with nx:=N,ct:=N,bk:=D.nx} c H2):=do _;{λi m σ H=>m=kvs.length - i/\i<=kvs.length/\b i σ H,{kvs.length,do 0,Nat.zero_le _,h0},?_};(i,m,σ,H,{rfl,hi,p});d<|i<kvs.length;.inr {{f i σ H p,d},b (i+1),λσ' H' l=>{kvs.length - (i+1),(),O,d,l},λx H' y=>?_};{e,k,j,rfl}:=y;!e;n i k σ _ j p;e:i=kvs.length:=();!e;.inl {{f _ σ H p,qb _},q σ H p}
section
variable {P:Program}{w:World}{A:Around}{E:KE}{s:UH}
def Qo{k:Key}{v val:MD}(a:(ai P w).is k v=true)(g:s.heap.DictOf 74 d vs)(hsz:vs.length<=sizeLine)(h1:∀u,valueAt vs k=!u->Q u {s with toks:=s.toks+1})(h2:valueAt vs k=none->∀h',h'.DictOf 74 d (stored vs k val)->Heap.SameBut d s.heap h'->Q val {s with heap:=h',toks:=s.toks+1}):wpAny (model P w) A (dictSetDefault d v val) Q E s:=do _;{o,es,ep,p,I,n,F,hp,hn}:=g;t:es.size<=sizeLine:=(do J:=hp.length;J<-[zu];());G:(es.findIdx? λe=>(ai P w).is k e.key)=vs.findIdx? λj=>decide (j.1=k):=(do[<-hp.findIdx k];{l}:=es;0);@dictSetDefault;(by try with_reducible refine qK ?_);qA ((ai P w).pyHash a (qA (wpAny_dictFind_of (s:={s with toks:=s.toks+1}) a p n F ?_)));(by cases hi:es.findIdx? λe=>(ai P w).is k e.key with|none|some i=>?_);c:k∉vs.map (·.1):=not_mem_of_findIdx_none (G▸hi);b:¬(vs.any λj=>decide (j.1=k))=true:=λz=>(do _;{j,B,D}:=yr.mp z;c (qc.mpr {j,B,qN D}));H:valueAt vs k=none:=(do[<-hp.find k];this:es.toList.find? (λe=>(ai P w).is k e.key)=none:=(do[jy];(e,D,z);L:=Array.findIdx?_eq_none_iff.mp hi e (gf.mp D);z<-[L];-z);[this];2);qA (wpAny_rule (qA (wpAny_updateDictKeys (hz:=t) (s:={s with toks:=s.toks+1}) p n (qF (h2 H _ {_,_,ep+1,Heap.get?_update_self _ p (Obj.isFreed_of_dict (Obj.data_mapDictKeys n _)),I.mapDictKeys _,Obj.data_mapDictKeys n _,F.push a _,?_,?_} (Heap.SameBut.update ..))))));[stored,qB b];this:=hp.append a ((ai P w).hash k) val;{l}:=es;0<|this;[stored,qB b,zy,yn];{hn,do 0,λx C y K z=>?_};C<-[z];C<-[qo.mp K];c C;{f,_,_}:=Array.findIdx?_eq_some_iff_getElem.mp hi;r:vs.findIdx? (λj=>decide (j.1=k))=!i:=G▸hi;{q,h,_}:=mw.mp r;h:vs[i].1=k:=qN h;hg:vs[i]?=!(k,vs[i].2):=(do[qe q,<-h]);{_,m}:=hp.get? (i:=i) (e:=es[i]) (k:=k) (v:=vs[i].2) (do[yq];jc f) hg;qA (wpAny_dictEntries (s:={s with toks:=s.toks+1}) p n ?_);[jc f];qA (wpAny_rule (qF ?_));[m];h1 _ (valueAt_of_get hn hg)
def Tg(f:(d==sysModules)=false):MeetsIn P w (Builtin.«dict.setdefault» {[.ref d,v,b],[]}) (λA R s=>∃k vs,(ai P w).is k v=true/\s.heap.DictOf 74 d vs/\vs.length<=sizeLine ∧ (∀u,valueAt vs k=!u->R (.ok (.ret u)) {s with toks:=s.toks+1})/\(valueAt vs k=none->∀h',h'.DictOf 74 d (stored vs k b)->Heap.SameBut d s.heap h'->R (.ok (.ret b)) {s with heap:=h',toks:=s.toks+1})) := .of_wp λA R s ⟨k,vs,a,g,hz,h1,h2⟩=>do@Builtin.«dict.setdefault»;qA ?_;@Builtin.Dict.keyAndDefault;qA (wpAny_notOrdered_dict g.typeIs (qF ?_));¬wpAny (model P w) _ (if(d==sysModules)=true then _ else(dictSetDefault d v b >>= _)) _ _ s;[qB (by rw[f];decide)];qA (Qo a g hz (λu e=>qF {u,O,h1 u e}) λe h' g' c=>qF {b,O,h2 e h' g' c})
end
inductive uB(x:V)(vs:List V)(H:Hp)(Q:VK):Prop
 |mk(a kvs k d:_)(_:x=.ref a)(_:vs=[kV k,d])(_:H a=!(.dK kvs))(_:kvs.length<sizeLine)(_:(∀u,bJ kvs k=!u->Q u H))(_:(bJ kvs k=none->Q d (upd H a (.dK (putK kvs k d)))))
section
variable {X:Cx}
def RI:Ar X "dict.setdefault" uB:=do(pins,s,σ,H,x,xs,v,us,Q,I,p,y,h);{a,kvs,k,d,rfl,rfl,o,E,B,t}:=h;{u,D,rfl,r,f}:=y.two;-p;{z,n,ys,c,m}:=Aa I.a9 o;b:=c.val k;call_meetsIn F.slot_dict_setdefault m.typeIs F.entry_dict_setdefault (F.args_dict_setdefault_3 _ _ _) (Tg n) {k,ys,pC r,m,do[<-c.length];z,λC l=>?_,λl h' g i=>?_};b<-[l];(by cases e:bJ kvs k with|none|some v=>?_);b<-[e];b.elim;b<-[e];{v,H,I.tok _,b,B v e};b<-[l];(by cases e:bJ kvs k with|some v|none=>?_);b<-[e];b.elim;j:(putK kvs k d).length<=sizeLine:=(do this:=C_ kvs k d;());A:∃q,h'.get? a=!q:=let⟨q,_,_,w,_⟩:=g;{q,w};{d,upd H a (.dK (putK kvs k d)),qU I (do[o];True.intro) i A (Kh j n (c.put k f) g),f,t e}
end
section
variable {prog:Program}{w:World}{A:Around}{E:KE}{s:UH}
def Nf(q:A.handled=none)(n:it≠d)(a:od.data=.dict es ep) :
  WalksS prog w A it [it,d] [it] Eq es.size (λj v=>(es[j]?).map (·.key)=!v) (λi s=>s.heap.IsKeyIter it d i es.size ep/\s.heap.get? d=!od) where
 sub:=λb l=>by rw[qo.mp l];exact qi
 grefl:=λ_=>rfl
 gtrans:=λ_ _ _ h1 h2=>h1.trans h2
 frame:=λi s h' tk ⟨⟨o,e,c,t⟩,g⟩ _ k=>{{o,k it qi o e,c,t},k d (qm _ qi) od g}
 item:=λi s Q E hi ⟨st,g⟩ k=>xm q st g a rfl (λf h' m p=>k _ _ (by rw[jc f];rfl) {m,(p.2 d n.symm).trans g} {λb o l e=>(p.2 b (λz=>l (by rw[z];exact qi))).trans e,O,O,O,qb _}) λz=>absurd hi ()
 done:=λs Q E ⟨st,g⟩ k=>xm q st g a rfl (λf=>absurd f ()) λ_ h' r=>k _ {λb o l e=>r b o (λz=>l (by rw[z];exact qi)) e,O,O,O,qb _}
 self:=λi s Q E ⟨st,_⟩ h=>wpAny_pyIter_keyiter st h
def Hb{es:Array DictEntry}{acc:Array MD}(h:ItemsOf (λj v=>(es[j]?).map (·.key)=!v) acc es.size):acc.toList=es.toList.map (·.key):=do(by apply yc);(j);a<|j<acc.size;b:j<es.size:=(do[<-h.1];a);this:=h.2 j acc[j] (jc a);[yq,jc a,qv,yq];this.symm;b:¬j<es.size:=(do[<-h.1];a);[ww (do[zu];()),ww (do[qh,zu];())]
def QU(J:A.handled=none)(L:(d==sysModules)=false)(C:s.heap.get? d=!od)(D:od.ExactDict)(j:od.data=.dict es ep)(hz:es.size<=sizeLine)(K:∀s',Moved [] Eq s s'->Q (es.toList.map (·.key)) s'):wpAny 66 A (collect (.ref d)) Q E s:=do@collect;qA (wpAny_runValue (codeAny_builtin F.entry_proto_collect ?_));[Around.under_plainId F.plain_proto_collect _];¬wpAny _ A.in1 (newList [] >>= λl=>again (.builtin "list.__iadd__" {[l,.ref d],[]})) _ _ s;qA (wpAny_newObj_type ?_);qF {plainId_quiet F.plain_list_iadd _,codeAny_builtin F.entry_list_iadd ?_};[Around.under_plainId F.plain_list_iadd _];k:(s.heap.push {cls:=.type "list",data:=.seq ([]:List MD).toArray}).get? d=!od:=qI _ C;I:Shared.TypeIs {s with heap:=s.heap.push {cls:=.type "list",data:=.seq ([]:List MD).toArray}} (.ref d) "dict":={od,k,D.1};f:d<↑s:=(do h||h:=yz d ↑s;h;(by exfalso);this:s.heap.get? d=none:=(do@Heap.get?;[rg h]);C<-[this];-C);h1:Builtin.List.listSameRef (.ref ↑s) (.ref d)=false:=(do¬(↑s==d)=false;beq_eq_false_iff_ne.mpr (zo f));¬wpAny _ A.in1 (Builtin.List.listExtendWith (.ref ↑s) (.ref d) (.ref ↑s)) _ _ _;@Builtin.List.listExtendWith;qA (wpAny_typeOf I ?_);[qB (by rw[h1];decide)];qA (Bk L k D j ?_);qA (qK ?_);(by generalize g:(s.heap.push {cls:=.type "list",data:=.seq ([]:List MD).toArray}).push 73=h2);u:h2.get? d=!od:=(do[<-g];qI _ k);n:Shared.TypeIs {s with heap:=h2} (.ref d) "dict":={od,u,D.1};@Builtin.List.listLengthHint;qA (wpAny_specialOf (name:=Str.ofString "__len__") n F.slot_dict_len.lookup ?_);(by generalize p:("dict.__len__":String)=id0;wp_delta);[show splitId id0=some ("dict","__len__") from do !p;by decide +kernel];!p;qA (wpAny_isInstance (T:="dict") n PySem.F.sub_dict_dict ?_);[qB ⋯];(by wp_delta);[qE ∅];qA (wpAny_typeOf n (qF ?_));[qE ∅];q:h2.get? ↑s=some {cls:=.type "list",data:=.seq ([]:List MD).toArray}:=(do[<-g];qI _ (qL _ rfl));qA (wpAny_rule (qA ?_));@Builtin.List.listTouch;qA (listUpdate_at q rfl ?_);{H,m}:∃H,(h2.update ↑s (Obj.mapSeq (·.push Value.none))).get? ↑s=!(seqObj "list" #[Value.none] H):={_,get?_update_seq q _};c:∀b o,b≠↑s->h2.get? b=!o->(h2.update ↑s (Obj.mapSeq (·.push Value.none))).get? b=!o:=λb o i e=>(Heap.get?_update_other _ _ (λz=>i z.symm)).trans e;(by generalize h2.update ↑s (Obj.mapSeq (·.push Value.none))=h3 at m c);listUpdate_at (s:={s with heap:=h3}) m rfl ?_;{G,x}:∃G,(h3.update ↑s (Obj.mapSeq (·.pop))).get? ↑s=!(seqObj "list" #[] G):={_,get?_update_seq m _};a:∀b o,b≠↑s->h2.get? b=!o->(h3.update ↑s (Obj.mapSeq (·.pop))).get? b=!o:=λb o i e=>(Heap.get?_update_other _ _ (λz=>i z.symm)).trans (c b o i e);¬wpAny _ _ _ _ _ {s with heap:=h3.update ↑s (Obj.mapSeq (·.pop))};(by generalize h3.update ↑s (Obj.mapSeq (·.pop))=h4 at x a);hsz:(s.heap.push {cls:=.type "list",data:=.seq ([]:List MD).toArray}).objs.size=↑s+1:=size_push' _ _;r:h2.get? (↑s+1)=some 73:=(do[<-g,<-hsz];qL _ rfl);¬wpAny _ _ (again (Code.builtin "list.extend.loop" {[Value.ref ↑s,Value.ref (s.heap.push {cls:=.type "list",data:=.seq ([]:List MD).toArray}).objs.size,Value.ref ↑s],[]})) _ _ _;[hsz];W:=Nf (prog:=prog) (w:=w) (A:=A.in1) (it:=↑s+1) (d:=d) (od:=od) (es:=es) (ep:=ep) J (zo (yt f)) j;qF {plainId_quiet F.plain_extend_loop _,codeAny_extend_loopS W hz ↑s (λz=>?_) _ es.size 0 {s with heap:=h4} #[] G rfl (q0 _) {{_,a _ _ (gs _) r,O,O},a _ _ (qp f) u} x (ItemsOf.nil _) λs' v M t B y=>?_};(by ac_nf at z);z||z:=z;gs _ z.symm;zo f z;¬wpAny _ A (load ↑s >>= _) _ _ s';qA (wpAny_load B ?_);¬wpAny _ _ (pure v.toList) Q E s';[Hb y];qF (K s' {λb o _ e=>?_,t.gens,t.drawn,t.os,t.toks});i:b<↑s:=(do h||h:=yz b ↑s;h;(by exfalso);this:s.heap.get? b=none:=(do@Heap.get?;[rg h]);e<-[this];-e);t.heap b o (λz=>?_) (a b o (qp i) ?_);(by ac_nf at z);z||z:=z;qp i z;qp (yt i) z;[<-g];qI _ (qI _ e)
def QK{lt:Nat->Nat->Bool}(W:Srt.fx lt)(v:A.handled=none)(u:(d==sysModules)=false)(y:s.heap.get? d=!od)(o:od.ExactDict)(f:od.data=.dict es ep)(l:es.toList.map (·.key)=vs)(g:vs.length<=2000)(j:ND lt vs.length)(b:∀s',Moved [] Eq s s'->∀h',h_ s'.heap h'->2<=vs.length->Answers prog w A.in1.in1 {s' with heap:=h'} vs lt)(h:∀s' h' a p c,Moved [] Eq s s'->h_ s'.heap h'->↑s'<=a->Arr vs.length lt p->h'.get? a=!(seqObj "list" (List.toArray (p.toList.map λi=>vs.getD i Value.none)) c)->Q (.ref a) {s' with heap:=h'}) : wpAny 66 A (call (.builtin "sorted") [.ref d]) Q E s:=do z:es.size=vs.length:=(do[<-l,qh,zu]);t:vs.length<=sizeLine:=(do[sizeLine_eq];());Calls.call_function_entry kind_sorted plain_sorted entry_sorted (args_sorted1 _) ?_;@Builtin.«sorted»;qA (m:=checkCount "sorted" 1 1 _) (qF (qA (QU v u y o f () λs' n=>?_)));[l];qA (wpAny_newList ?_ t);q:h_ s'.heap (s'.heap.push (seqObj "list" vs.toArray 0)):=.push _ _;k:(s'.heap.push (seqObj "list" vs.toArray 0)).get? ↑s'=!(seqObj "list" vs.toArray 0):=qL _ rfl;¬wpAny 66 _ _ _ _ {s' with heap:=s'.heap.push (seqObj "list" vs.toArray 0)};qA (qK (qO slot_list_sort {_,k,O} entry_list_sort (RG W k g j (h0:=s'.heap) (qb _) q (b s' n) λh' p c x r e=>?_) (args_list_sort _)));{_,O,qF {_,O,h s' h' _ p c n x (qb _) r e}}
end
def Inv.moved{X:Cx}{pins:List 71}{σ:St}{H:Hp}{s s':UH}(I:Inv X pins σ H s)(m:Moved [] Eq s s'):Inv X pins σ H s':=do e:s'={s with heap:=s'.heap,toks:=s'.toks}:=(do _;{h1,h2,c,a,d}:=m;-s;-s';-h2;-c;-a;2);[e];I.kept (t':=s'.toks) λb o q=>m.heap b o (do 0) q
inductive Br(xs:List V)(H:Hp)(Q:VK):Prop
 |mk(p kvs ds t:_)(_:xs=[.ref p])(_:Rd H p 69)(_:dV H (kvs.map (·.2.1)) ds)(_:KeysAre ds t)(_:kvs.length<64)(_:∀q H' ix,H q=none->ag H H'->cU ds ix->H' q=!(.lst (ix.map λi=>(kvs.map (·.2.1)).getD i .aV))->Q (.ref q) H')
inductive wI(xs:List V)(H:Hp)(Q:VK):Prop
 |mk(p kvs ds t:_)(_:xs=[.ref p])(_:Rd H p (.dK kvs))(_:dV H (kvs.map λe=>kV e.1) ds)(_:KeysAre ds t)(_:kvs.length<64)(_:∀q H' ix,H q=none->ag H H'->cU ds ix->H' q=!(.lst (ix.map λi=>(kvs.map λe=>kV e.1).getD i .aV))->Q (.ref q) H')
section
variable {X:Cx}
def Hw{pins:List 71}{σ:St}{H:Hp}{s:UH}{p:UJ}{od:Obj}{es:Array DictEntry}{ep:Nat}{ys:List V}{its:List MD}{ds:List UI}{t:_}{Q:VK}(G:X.A.units+3+61<cLine)(y:X.A.handled=none)(I:Inv X pins σ H s)(D:(p==sysModules)=false)(r:s.heap.get? p=!od)(B:od.ExactDict)(b:od.data=.dict es ep)(u:es.toList.map (·.key)=its)(h:aK ys its)(n:dV H ys ds)(o:KeysAre ds t)(E:ys.length<64)(q:∀q H' ix,H q=none->ag H H'->cU ds ix->H' q=!(.lst (ix.map λi=>ys.getD i .aV))->Q (.ref q) H') : wpAny 37 X.A (call (.builtin "sorted") [.ref p]) (λv s'=>∃x H',Inv X pins σ H' s'/\RelV x v/\Q x H') X.xe s:=do C:=h.length;l:=Jo n;QK (lt:=pS ds) (MM o.one) y D r B b u () (.inl ()) (λs' m h' x h2=>?_) λs' h' a j c m x k f e=>?_;{F,z}:=n.reads (I.moved m) h;Jr (s:={s' with heap:=h'}) (qR x z) o h2 (do¬X.A.units+1+1+60<cLine;());d:=I.moved m;g:∀i∈j.toList,i<ys.length:=λi hi=>(do this:=(f.1.toList.mem_iff).mp hi;this<-0;());{.ref a,upd H a (.lst (j.toList.map λi=>ys.getD i .aV)),d.laid x k {?_,_,c,J1 h _ g,e},O,q a _ j.toList (d.a9.fresh k) (ag.new (d.a9.fresh k)) (HG (do[<-l,C];f)) aF};hz:its.length<=sizeLine:=wx (cH ());[qh,zu,f.1.size_eq];0;()
def JF{xa:List (KD×MD×MD)}(h:Paired (GP H) b xa):aK (b.map (·.2.1)) (xa.map (·.2.1)):=do(by induction h with|nil|cons a _ c=>?_);.nil;.cons a.2.2.1 c
def OB(h:Pairs 74 es vs):∀{kvs:List (Key×V)},KV kvs vs->aK (kvs.map λe=>kV e.1) (es.map (·.key)):=do(by induction h with|nil|@cons g _ _ _ d _ _ f=>?_);(kvs,r);-r;.nil;(kvs,r);(by cases r with|@cons i _ _ _ a t=>?_);.cons ?_ (f t);¬RelV (kV i.1) g.key;[a.1];{j,u,c,b}||{x,u,c,b}:=ip d;[c,b];{u,O};[c,b];{u,O}
def K9(v:X.A.units+3+61<cLine)(m:X.A.handled=none):cI X (.builtin "sorted") (Br):=do(pins,s,σ,H,xs,us,Q,I,r,h);{p,kvs,ds,t,rfl,i,n,d,c,q}:=h;{u,rfl,k}:=vals1 r;-k;{_,b,j,f,o,es,ep,g,e,a,w,l,hn}:=eK I i;Hw v m I b g e a (its:=j.map (·.2.1)) (do[w,zx];2) (JF f) n d (do[qh];c) q
def OT(l:X.A.units+3+61<cLine)(j:X.A.handled=none):cI X (.builtin "sorted") (wI):=do(pins,s,σ,H,xs,us,Q,I,r,h);{p,kvs,ds,t,rfl,g,k,e,d,q}:=h;{u,rfl,i}:=vals1 r;-i;{_,b,vs,c,o,es,ep,m,f,a,_,hp,_}:=oY I.a9 g;Hw l j I b m f a rfl (OB hp c) k e (do[qh];d) q
end
section
variable {prog:Program}{w:World}{A:Around}{E:KE}{s:UH}
def Sr{l m sl:UJ}{xs ys:Array MD}{p k:MD}{lo hi:Nat}{Q:Unit->UH->Prop}(g:s.heap.IsList l xs)(t:s.heap.IsList m ys)(h:l≠m)(D:s.heap.IsSliceOf sl p k .none)(y:IsPart p (!(lo:Int)))(B:IsPart k (!(hi:Int)))(h1:lo<=hi)(h2:hi<=xs.size)(hz:xs.size+ys.size<=sizeLine)(z:Q Unit.unit {s with heap:=s.heap.update l (Obj.mapSeq λxs=>xs.extract 0 lo++ys++xs.extract hi)}) : wpAny 66 A (setItem (.ref l) (.ref sl) (.ref m)) Q E s:=do _;{o,q,F,ne,r}:=id g;{G,i,C,H,j}:=id t;{v,a,n,c}:=id D;e:s.TypeIs (.ref sl) "slice":={v,a,n};@setItem;(by(try with_reducible refine qK ?_);first|refine qA (qF ?_)|skip);qA (wpAny_sequenceKey g.typeIs ⋯ ?_);qA (wpAny_callSpecial?_slot (name:=Str.ofString "__setitem__") g.typeIs slot_list_setitem (qO slot_list_setitem g.typeIs entry_list_setitem ?_ (args_list_setitem _ _ _)));¬wpAny _ _ (Builtin.List.listSubscript? (.ref sl) >>= _) _ _ s;@Builtin.List.listSubscript?;qA (qA (wpAny_specialOf e slice_no_index ?_));#[_,Option.isNone_none,if_true];qF ?_;¬wpAny _ _ (typeOf (.ref sl) >>= _) _ _ s;qA (wpAny_typeOf e ?_);[qB ⋯];[listSliceParts_eq];qA (qA (wpAny_field a c (x:=.none) rfl (qA (wpAny_listPart .none ?_))));[qB ⋯];qA (wpAny_field a c (x:=p) rfl (qA (wpAny_listPart y ?_)));qA (wpAny_field a c (x:=k) rfl (qA (wpAny_listPart B (qF ?_))));b:Builtin.List.listSameRef (.ref l) (.ref m)=false:=beq_eq_false_iff_ne.mpr h;[qB (by rw[b];decide)];@Builtin.List.listAllItems;qA (qA (wpAny_typeOf t.typeIs ?_));[qE ⋯];listItems_at i j ?_;qA (listItems_at q r ?_);qA (wpAny_of_eq (sliceIndices_raw (!(lo:Int)) (!(hi:Int)) none xs.size (do 0)) ?_);u:sliceBounds (!(lo:Int)) (!(hi:Int)) none xs.size=((lo:Int),(hi:Int),1):=(do@sliceBounds;#[_,Option.getD_none];a1:¬((lo:Int)<0):=();a2:¬((hi:Int)<0):=();[qB a1,qB a2,qE ⋯,qE ⋯];(by congr 1);();(by congr 1);());[u];d:(max (lo:Int) (hi:Int)).toNat=hi:=();f:((lo:Int)).toNat=lo:=Int.toNat_natCast lo;#[_,d,f];[qE ⋯];qA (wpAny_rule ?_);[qB (do¬(¬(decide (xs.size+ys.size>sizeLine))=true);0;())];qA (listUpdate_at q r ?_ () (do 0;()));qA (wpAny_letGo (qF {.none,O,qF z}))
end
def RU(its:List MD)(n lo hi:Nat)(ys:List MD):∃n',Obj.mapSeq (λxs=>xs.extract 0 lo++ys.toArray++xs.extract hi) {cls:=.type "list",data:=.seq its.toArray n}={cls:=.type "list",data:=.seq (its.take lo++ys++its.drop hi).toArray n'}:=do e:its.toArray.extract 0 lo++ys.toArray++its.toArray.extract hi=(its.take lo++ys++its.drop hi).toArray:=(do 0;jd (do[v9];qb _));@Obj.mapSeq;#[_,e];{_,O}
inductive xD(D:Ends)(σ:St)(v x:V)(lo:Option Int)(hi:Option Int)(H4:Hp):Prop
 |mk(a b xs ys:_)(i j:Nat)(_:x=.ref a)(_:v=.ref b)(_:a≠b)(_:H4 a=!(.lst xs))(_:aD H4 b ys)(_:lo=!(i:Int))(_:hi=!(j:Int))(_:i<=j)(_:j<=xs.length)(_:xs.length+ys.length<=sizeLine)(_:D.nx σ (upd H4 a (.lst (xs.take i++ys++xs.drop j))))
def Eg(to:TE)(tl th:TO)(tv:TE):TS:=λD σ H=>tv σ H λv H1=>to σ H1 λx H2=>tl σ H2 λlo b=>th σ b λhi a=>xD D σ v x lo hi a
section
variable {X:Cx}{o value:Expr}{lo hi:Option Expr}{pos pos' p2:Pos}{to tv:TE}{tl th:TO}
def RH(w:PE X o to)(U:PO X lo tl)(hu:PO X hi th)(y:PE X value tv)(hs:swapsWith value (!(.Subscript o (.Slice lo hi none p2) pos')) pos.line X.env=pure false):PS X (.Assign [.Subscript o (.Slice lo hi none p2) pos'] value pos) (Eg to tl th tv):=do _;{?_};(pins,s,σ,H,D,I,h);wpAny_Assign_Subscript (bL (y pins s σ H _ I h) λr M ⟨v,H1,V,N,R⟩=>bL (w pins M σ H1 _ V R) λu s2 ⟨x,H2,G,m,J⟩=>?_) hs;wpAny_Slice (bL (U pins s2 σ H2 _ G J) λS P ⟨l,K,C,Q,T⟩=>bL (hu pins P σ K _ C T) λE d ⟨u',A,L,W,B⟩=>?_);[evalPart_none];qF ?_;{a,b,xs,ys,i,j,rfl,rfl,e,g,F,rfl,rfl,h1,h2,hz,q}:=B;-m;-N;f:Inv X pins σ A {d with heap:=d.heap.push {cls:=.type "slice",data:=.fields #[S,E,.none]}}:=L.kept (t':=d.toks) λb ob q=>qI _ q;{its,n,r,c,p}:=f.lst g;{its',k,Y,t}:=f.list F;la:=r.length;lb:=k.length;{n',Z}:=RU its n i j its';z:=f.s_ g c Z ((r.take i).append k |>.append (r.drop j)) (do[qg,qg,wb,v9];()) d.toks;Sr (xs:=its.toArray) (ys:=its'.toArray) {_,c,O,n,O} Y.isList e (Heap.IsSliceOf.new ..) Q W h1 (do[zk];()) (do[zk,zk];()) {_,_,z,q}
end
def S4:entryFor table "dict_itemiterator.__iter__"=some Builtin.«dict_keyiterator.__iter__»:=entryFor_alias (id':="dict_keyiterator.__iter__") (by kernel_rfl) rfl ∅ (by kernel_rfl)
section
variable {prog:Program}{w:World}{A:Around}{E:KE}{s:UH}
def Pf(c:(d==sysModules)=false)(e:s.heap.get? d=!od)(b:od.ExactDict)(f:Q (.ref ↑s) {s with heap:=s.heap.push {cls:=.type "dict_items",data:=.fields #[.ref d]}}):wpAny 66 A (call (.builtin "dict.items") [.ref d]) Q E s:=do a:s.TypeIs (.ref d) "dict":={od,e,b.1};qO F.slot_dict_items a F.entry_dict_items ?_ (F.args_dict_items_1 _);@Builtin.«dict.items»;qA ?_;@Builtin.Dict.noArgs;qA (wpAny_notOrdered_dict a ?_);¬wpAny _ _ (pure d) _ _ s;qF ?_;¬wpAny _ _ (Builtin.Dict.showsAll d >>= _) _ _ s;@Builtin.Dict.showsAll;[qB (do[c];qx)];qA (qF ?_);qA (wpAny_newObj_type (qF {_,O,f}))
def Pz(f:s.heap.IsItemsView v d)(g:s.heap.get? d=!od)(a:od.data=.dict es ep)(h:Q (.ref ↑s) {s with heap:=s.heap.push {cls:=.type "dict_itemiterator",data:=.fields #[.none,.bool false,.ref d,.int 0 0,.int es.size 0,.int ep 0,.none,.none]}}) : wpAny 66 A (pyIter (.ref v)) Q E s:=do _;{j,e,i,c}:=id f;wpAny_pyIter_slot f.typeIs F.slot_dict_items_iter (qO F.slot_dict_items_iter f.typeIs F.entry_dict_items_iter ?_ (F.args_dict_items_iter_1 _));@Builtin.«dict_items.__iter__»;qA (qF ?_);qA ?_;@Builtin.Dict_items.dictOf;qA (wpAny_field e c (x:=.ref d) rfl (qF ?_));qA ?_;@Builtin.Dict_items.newIterator;qA (wpAny_dictEntries g a ?_);qA (wpAny_dictEpoch g a ?_);b:Builtin.Dict_items.ownsTuple "dict_itemiterator"=true:=⋯;#[_,b,if_true];wpAny_newObj_type (qF {_,O,"dict_itemiterator",_,{_,qL _ rfl,O},F.slot_dict_itemiterator_next.lookup,?_}) (do#[_,sizeOk,Builtin.Dict_items.ownedTupleFields,List.size_toArray,List.length_append,List.length_cons,List.length_nil,sizeLine_eq];());by simpa[rawInt,Builtin.Dict_items.ownedTupleFields] using h
def Rg{ok N:MD}(G:IsItemIter s.heap it d i n ep ok N)(U:s.heap.get? d=!od)(M:od.data=.dict es ep)(hn:es.size=n)(T:i<es.size)(V:∀h',IsItemIterOut h' it d (i+1) n ep es[i].key es[i].val ↑s-> h'.get? ↑s=some {cls:=.type "tuple",data:=.seq #[es[i].key,es[i].val]}->h'.objs.size=↑s+1-> (∀b o,b≠it->s.heap.get? b=!o->h'.get? b=!o)->Q (!(.ref ↑s)) {s with heap:=h'}) : wpAny 66 A (pyNext (.ref it)) Q E s:=do _;{hp,g,P,tk,S}:=s;!hn;J:Shared.TypeIs ⟨hp,g,P,tk,S⟩ (.ref it) "dict_itemiterator":={_,G,O};@pyNext;qA (wpAny_attempt (wpAny_callSpecial?_slot (name:=Str.ofString "__next__") J F.slot_dict_itemiterator_next (qO F.slot_dict_itemiterator_next J F.entry_dict_itemiterator_next ?_ (F.args_dict_itemiterator_next_1 _))));qA (qF ?_);qA ?_;qA ?_;(by first|refine qA (wpAny_typeNameOfWhole_itemiter J (qF ?_))|refine qA (wpAny_typeNameOf_itemiter J (qF ?_)));qA (wpAny_fieldsOf G rfl ?_);R:Builtin.Dict_items.ownsTuple "dict_itemiterator"=true:=⋯;#[_,R,if_true];¬wpAny _ _ (if(Value.ref d==Value.none)=true then _ else _) _ _ _;[qB (show ¬((Value.ref d==Value.none)=true) from qx)];qA (qF ?_);qA (wpAny_dictEntries U M ?_);[qB (do 0)];qA (qF ?_);qA (wpAny_dictEpoch U M ?_);[qB (do 0)];qF ?_;#[_,show ¬((i:Int)<0) from (),if_false,Int.toNat_natCast,Array.getElem?_eq_getElem T];qA ?_;(by first|refine qA (wpAny_typeNameOfWhole_itemiter J (qF ?_))|refine qA (wpAny_typeNameOf_itemiter J (qF ?_)));qA (wpAny_isOneOf_itemiter J ?_);¬wpAny _ _ (setField (.ref it) 3 (rawInt ((i:Int)+1)) >>= _) _ _ {hp,g,P,tk,S};qA (wpAny_setField_rec G (do 0) λh₁ h k=>?_);(by replace k:Heap.SameBut it hp h₁:=k;replace h:IsItemIter h₁ it d (i+1) es.size ep ok N:=do e:((i+1:Nat):Int)=(i:Int)+1:=();@IsItemIter;[e];by simpa[rawInt] using h);r:Shared.TypeIs ⟨h₁,g,P,tk,S⟩ (.ref it) "dict_itemiterator":={_,h,O};qA (qK ?_);qA (wpAny_isOneOf_itemiter r ?_);qA (wpAny_isOneOf_itemiter r ?_);¬wpAny _ _ (Builtin.Dict_items.pairFromOwner (.ref it) 6 es[i].key es[i].val) _ _ {h₁,g,P,tk,S};@Builtin.Dict_items.pairFromOwner;qA (wpAny_newTuple ?_);j:IsItemIter (h₁.push {cls:=.type "tuple",data:=.seq #[es[i].key,es[i].val]}) it d (i+1) es.size ep ok N:=qI _ h;(by generalize m:h₁.push {cls:=.type "tuple",data:=.seq #[es[i].key,es[i].val]}=h₂ at j);p:h₁.objs.size=hp.objs.size:=k.1;D:it<hp.objs.size:=qG G;K:h₂.get? hp.objs.size=some {cls:=.type "tuple",data:=.seq #[es[i].key,es[i].val]}:=(do[<-m,<-p];qL _ rfl);H:h₂.objs.size=hp.objs.size+1:=(do[<-m,Heap.size_push,p]);L:∀b o,b≠it->hp.get? b=!o->h₂.get? b=!o:=λb o I e=>(do[<-m];qI _ (k.extBut b o I e));¬wpAny _ _ (Builtin.Dict_items.ownedTupleIsFree (.ref it) >>= _) _ _ {h₂,g,P,tk,S};[p];(by clear m h k r p h₁);qA ?_;@Builtin.Dict_items.ownedTupleIsFree;qA (wpAny_field j rfl (x:=.none) rfl (qF ?_));#[_,if_true];qA (wpAny_field j rfl (x:=ok) rfl ?_);qA (wpAny_field j rfl (x:=N) rfl ?_);qA (wpAny_setField_rec j (do 0) λB v c=>?_);(by replace c:Heap.SameBut it h₂ B:=c;replace v:IsItemIter B it d (i+1) es.size ep es[i].key N:=v);qA (wpAny_setField_rec v (do 0) λz u a=>?_);(by replace a:Heap.SameBut it B z:=a;replace u:IsItemIter z it d (i+1) es.size ep es[i].key es[i].val:=u);qA (wpAny_setField_rec u (do 0) λC q f=>?_);(by replace f:Heap.SameBut it z C:=f;replace q:IsItemIterOut C it d (i+1) es.size ep es[i].key es[i].val hp.objs.size:=q);qA (wpAny_setField_rec q (do 0) λy t l=>?_);(by replace l:Heap.SameBut it C y:=l;replace t:IsItemIterOut y it d (i+1) es.size ep es[i].key es[i].val hp.objs.size:=t);qA (wpAny_letGo (qF (qF {_,O,qF (V y t ?_ ?_ ?_)})));l.extBut _ _ (zo D) (f.extBut _ _ (zo D) (a.extBut _ _ (zo D) (c.extBut _ _ (zo D) K)));¬y.objs.size=hp.objs.size+1;[l.1,f.1,a.1,c.1,H];λb o I e=>l.extBut b o I (f.extBut b o I (a.extBut b o I (c.extBut b o I (L b o I e))))
def Sf{ok l:MD}(k:A.handled=none)(c:IsItemIter s.heap it d i n ep ok l)(h:s.heap.get? d=!od)(g:od.data=.dict es ep)(hn:es.size=n)(j:es.size<=i)(o:∀h',Heap.ExtBut it s.heap h'->Q none {s with heap:=h'}):wpAny 66 A (pyNext (.ref it)) Q E s:=do !hn;e:s.TypeIs (.ref it) "dict_itemiterator":={_,c,O};@pyNext;qA (wpAny_attempt (wpAny_callSpecial?_slot (name:=Str.ofString "__next__") e F.slot_dict_itemiterator_next (qO F.slot_dict_itemiterator_next e F.entry_dict_itemiterator_next ?_ (F.args_dict_itemiterator_next_1 _))));qA (qF ?_);qA ?_;qA ?_;(by first|refine qA (wpAny_typeNameOfWhole_itemiter e (qF ?_))|refine qA (wpAny_typeNameOf_itemiter e (qF ?_)));qA (wpAny_fieldsOf c rfl ?_);f:Builtin.Dict_items.ownsTuple "dict_itemiterator"=true:=⋯;#[_,f,if_true];¬wpAny _ _ (if(Value.ref d==Value.none)=true then _ else _) _ _ s;[qB (show ¬((Value.ref d==Value.none)=true) from qx)];qA (qF ?_);qA (wpAny_dictEntries h g ?_);[qB (do 0)];qA (qF ?_);qA (wpAny_dictEpoch h g ?_);[qB (do 0)];qF ?_;#[_,show ¬((i:Int)<0) from (),if_false,Int.toNat_natCast,Array.getElem?_eq_none j];qA ?_;(by first|refine qA (wpAny_typeNameOfWhole_itemiter e (qF ?_))|refine qA (wpAny_typeNameOf_itemiter e (qF ?_)));¬wpAny _ _ (setField (.ref it) 2 .none >>= _) _ _ s;qA (wpAny_setField c rfl (do 0) ?_);¬wpAny _ _ (newExc (.type "StopIteration") [] >>= _) _ _ _;qA ?_;#[_,newExc,newTuple];qA (wpAny_newObj_type ?_ (by size_fits));qA (m:=firstArgMember _ _) (wpAny_of_eq (a:=Value.none) (by first|rfl|simp only[firstArgMember];rfl) ?_);wpAny_newObj_type ?_ (by size_fits);#[_,raiseNew];qA (wpAny_handled ?_);[show A.in1.handled=none from k];qA (qF (wpAny_throw ?_));qA (wpAny_isInstance (T:="StopIteration") (b:=true) {_,qL _ rfl,O} isSubtype_stop ?_);qF (o _ (((Heap.SameBut.update ..).extBut.push _).push _))
end
section
variable {X:Cx}{pins:List 71}{σ:St}{H:Hp}{s:UH}
def Tn(n:o.data=.dict es ep)(I:Inv X pins σ H s)(e:H a=!(.du o 69)):∀i (hi:i<es.size) (d:i<kvs.length),RelV kvs[i].2.2 es[i].val:=do _;{k,_,_,xs,g,o',j,l,c,_,b,p,_}:s.heap.get? a=!o/\a0 X.prog X.w H s.heap a 69:=I.a9 a _ e;c<-[k];-c;b<-[n];(by injection b with b _);!b;(i,hi,d);h:i<xs.length:=(do[<-g.length];d);f:=Bu g i d h;m:es[i].val=xs[i].2.2:=(do h1:es.toList[i]?=some es[i]:=(do#[hi]);h1<-[p,qv,qe h];[<-qJ h1];2);[m];f.2.2.2
end
def si(a:UJ)(o:Obj)(kvs:List 68):It := {λi H=>H a=!(.du o 69)/\i<kvs.length,λi H x H'=>∃p e,H p=none/\kvs[i]?=!e/\x=.ref p/\H'=upd H p 76,λi H=>H a=!(.du o 69)/\kvs.length<=i}
def SX{P:Program}{w:World}{K:PySem.W.Frag}{y:List Expr}{k:Nat}{S:Pos}(a it:UJ){o:Obj}{es:Array DictEntry}{ep:Nat}{kvs:List 68}(m:o.data=.dict es ep) :
  Turn P w K (.Tuple y k S) (si a o kvs) [it] it (λi h=>∃ok g,IsItemIter h it a i kvs.length ep ok g) where
 mem:=by simp
 obj:=λi h st b M=>by
  have e:b=it:=by simpa using M
  subst e;obtain⟨ok,g,e⟩:=st;exact{_,e,λv z=>by cases z}
 keep:=λi h h' st k=>by
  obtain⟨ok,g,e⟩:=st;exact{ok,g,k it (by simp) _ e}
 item:=by
  intro X C G D d i pins s σ H E I t st hg;subst C G D;obtain⟨r,hi⟩:=hg;obtain⟨ok,g,st⟩:=st;obtain⟨u,B,n⟩:=rx m I r;have j:=Tn m I r
  have f:i<es.size:=()
  have p:it<↑s:=qG st;refine Rg st u m B f λh' a1 a2 Y R=>{_,O,wpAny_letOwnedTupleGo_items a1 λl N bs=>?_}
  have U:Inv X pins σ H { s with heap:=l }:=I.dH (t':=s.toks) t λc o d q=>bs.extBut c o (λe=>d (by simp[e])) (R c o (λe=>d (by simp[e])) q)
  have T:l.get? ↑s=some { cls:=.type "tuple",data:=.seq #[es[i].key,es[i].val] }:=bs.extBut _ _ (zo p) a2;have J:H ↑s=none:=I.a9.fresh (qb _);refine{.ref ↑s,upd H ↑s (.tup [kvs[i].2.1,kvs[i].2.2]),I.iA U (qb _) J {?_,[es[i].key,es[i].val],.cons (n i f hi) (.cons (j i f hi) .nil),{_,T,O,_,O}},O,{_,kvs[i],J,qe hi,O,O},{_,_,N},λc d=>?_}
  .show 2<=sizeLine
   decide
  .have e:c=it:=by simpa using d
   subst e;rw[az (qp p)];exact(t c (by simp)).1
 done:=by
  intro X C G D d i pins s σ H E I t st hg;subst C G D;obtain⟨r,hi⟩:=hg;obtain⟨ok,g,st⟩:=st;obtain⟨u,B,n⟩:=rx m I r
  exact Sf (I.ok.hd d) st u m B () λh' L=>{O,I.dH (t':=s.toks) t λc o d q=>L c o (λe=>d (by simp[e])) q}
 self:=λA i s Q E st h=>by
  obtain⟨ok,g,st⟩:=st;have x:s.TypeIs (.ref it) "dict_itemiterator":={_,st,O};refine wpAny_pyIter_slot x F.slot_dict_itemiterator_iter (qO F.slot_dict_itemiterator_iter x S4 ?_ (F.args_dict_itemiterator_iter_1 _));show wpAny _ _ (ret (.ref it)) _ _ s;exact qF {_,O,"dict_itemiterator",_,x,F.slot_dict_itemiterator_next.lookup,h}
inductive vE(R:It->Hp->Prop)(x:V)(H1:Hp):Prop
 |mk(a kvs:_)(_:x=.ref a)(_:((H1 a=! 69/\∀o,R (si a o kvs) (upd H1 a (.du o 69)))\/∃o,H1 a=!(.du o 69)/\R (si a o kvs) H1))
def yK(tl:TE):TI:=λσ H R=>tl σ H λx H1=>vE R x H1
section
variable {X:Cx}
def rW{tl:TE}{k:Nat}(L:PE X l tl)(g:attributeBase l "items" X.env (eval l X.env)=eval l X.env:=by rfl)(d:(apos.endLine==cpos.line)=true:=by rfl):PI X (.Tuple y k G) (.Call (.Attribute l "items" apos) [] [] cpos) (yK tl):=do _;{?_};(pins,s,σ,H,R,I,h);wpAny_Call_method0_late g d (bL (L pins s σ H _ I h) λv c ⟨x,H1,B,K,J⟩=>?_);{a,kvs,e,q}:=J;!e;-K;{H2,o,r,C,E}:∃(H2:Hp) (o:Obj),Inv X pins σ H2 c/\H2 a=!(.du o 69)/\R (si a o kvs) H2:=(do _;{m,q}||{o,m,q}:=q;{_,_,xs,_,o,es,ep,f,_}:=(show a0 X.prog X.w H1 c.heap a 69 from B.a9 a _ m);{_,o,B.oT m f,aF,q o};{_,o,B,m,q});{f,_,u,xs,_,o',es,ep,i,A,t,_,_}:c.heap.get? a=!o/\a0 X.prog X.w H2 c.heap a 69:=r.a9 a _ C;i<-[f];-i;{_,j,_}:=rx t r C;{"dict","dict.items",PySem.F.plainAttrs_dict,PySem.F.slot_dict_items,PySem.F.type_dict_items,{o,f,A.1},λb z=>?_,Calls.callWith_builtin rfl (PySem.evalArgs_none (Pf u f A ?_))};-z;{o,f,A.2.1};n:(c.heap.push {cls:=.type "dict_items",data:=.fields #[.ref a]}).get? a=!o:=qI _ f;Pz (s:={c with heap:=c.heap.push {cls:=.type "dict_items",data:=.fields #[.ref a]}}) (v:=↑c) {_,qL _ rfl,O,O} n t ?_;p:Inv X pins σ H2 {c with heap:=c.heap.push {cls:=.type "dict_items",data:=.fields #[.ref a]}}:=r.kept (t':=c.toks) λb o e=>qI _ e;{(c.heap.push {cls:=.type "dict_items",data:=.fields #[.ref a]}).objs.size,[(c.heap.push {cls:=.type "dict_items",data:=.fields #[.ref a]}).objs.size],_,_,H2,O,p.kept (t':=c.toks) λb o e=>qI _ e,SX a _ t,{_,_,do[<-j];qL _ rfl},λb D=>?_,E};e:b=(c.heap.push {cls:=.type "dict_items",data:=.fields #[.ref a]}).objs.size:=(do 0<|D);!e;p.oA (qb _) (p.a9.fresh (qb _))
end
def Si{a:UJ}{o:Obj}{kvs:List 68}{g:TG}{tb:TS}{D:Ends}{σ:St}{H:Hp}(b:Nat->St->Hp->Prop)(h0:b 0 σ H)(f:∀i σ H,b i σ H->H a=!(.du o 69))(l:∀i e σ H p,kvs[i]?=!e->b i σ H->H p=none->g (.ref p) σ (upd H p 76) λc H2=>tb {D with nx:=b (i+1),ct:=b (i+1),bk:=D.nx} c H2)(n:∀σ H,b kvs.length σ H->D.nx σ H) : ∃W:Nat->Nat->St->Hp->Prop,(∃m,W 0 m σ H)/\∀i m σ H,W i m σ H-> ((si a o kvs).stop i H/\D.nx σ H)\/((si a o kvs).go i H/\∃N:St->Hp->Prop,(∀σ' H',N σ' H'->∃h,h<m/\W (i+1) h σ' H')/\∀x H',(si a o kvs).zF i H x H'->g x σ H' λc H2=>tb {D with nx:=N,ct:=N,bk:=D.nx} c H2):=do _;{λi m σ H=>m=kvs.length - i/\i<=kvs.length/\b i σ H,{kvs.length,do 0,Nat.zero_le _,h0},?_};(i,m,σ,H,{rfl,hi,p});d<|i<kvs.length;.inr {{f i σ H p,d},b (i+1),λσ' H' k=>{kvs.length - (i+1),(),O,d,k},λx H' y=>?_};{q,e,hn,j,rfl,rfl}:=y;l i e σ _ q j p hn;e:i=kvs.length:=();!e;.inl {{f _ σ H p,qb _},n σ H p}
def xx{own:List UK}{g:TG}(hz:kvs.length<=sizeLine)(c:Nat->List V->Hp->Prop)(h0:c 0 [] H)(k:∀i ys H,c i ys H->H a=!(.du o 69))(u:∀i e ys H' p (l:V->Hp->Prop) (n:Hp->Prop),kvs[i]?=!e->c i ys H'->H' p=none->(∀y j,c (i+1) (ys++[y]) j->l y j)->(∀f,c (i+1) ys f->n f)-> g (.ref p) (cO own fr σ) (upd H' p 76) λh H2=>tt h H2 λb f=>if b=true then te h f l else n f)(w:∀H' p ys,c kvs.length ys H'->ys.length<=kvs.length->H' p=none->Q (.ref p) (upd H' p (.lst ys))):Im own fr g tt te σ Q (si a o kvs) H:=do _;{λi m ys H=>m=kvs.length - i/\i<=kvs.length/\ys.length<=i/\c i ys H,{kvs.length,do 0,Nat.zero_le _,Nat.zero_le _,h0},?_};(i,m,ys,H,{rfl,hi,v,p});d<|i<kvs.length;.inr {{k _ _ H p,d},(),λx H' y=>?_};{q,e,hn,s,rfl,rfl}:=y;u i e ys _ q _ _ s p hn (λy j r=>{kvs.length - (i+1),(),O,d,?_,r}) λf t=>{kvs.length - (i+1),(),O,d,(),t};[qg,qr];();e:i=kvs.length:=();!e;.inl {{k _ _ H p,qb _},λq z=>w H q ys p v z}
def QJ(a v:MD):argsOk "max" {[a],[(Str.ofString "key",v)]}:=do@argsOk;by kernel_rfl
def PD{prog:Program}{w:World}{A:Around}{E:KE}{s:UH}{id:String}{b:Builtin}{a:List MD}{d:List (UK×MD)}{Q:KE}(k:builtinKind id=none)(hp:plainId id=true)(m:entryFor table id=!b)(l:argsOk id {a,d})(j:wpAny 66 A.in1 (b {a,d}) (λh s'=>match h with|.done f=>(match(Except.ok f:Result) with|.ok (.ret v)=>Q v s'|.ok _=>False|.error e=>E e s')|.again c'=>c'.quiet=true/\codeAny 66 A c' (λr s'=>match r with|.ok (.ret v)=>Q v s'|.ok _=>False|.error e=>E e s') s') E s) : wpAny 66 A (call (.builtin id) a d) Q E s:=do wpAny_call (codeAny_call_builtin hp m ?_);#[_,checkBuiltinCall,k];(by cases c:Manifest.signature? id with|none|some i=>?_);qF j;g:Bind.checkArgs id i ⟨a,d⟩=pure Unit.unit:=(by simpa only[argsOk,c] using l);#[_,g];qF j
theorem D_:∀{names:List (UK×NameKind)} {acc:List (UK×UJ)},(nB env names acc).lookup x=!c->(x,NameKind.free)∈names\/acc.lookup x=!c|[],_,h=>.inr h|(n,k)::r,acc,h=>do q||q:=D_ (names:=r) h;.inl (qm _ q);(by cases b:(k==NameKind.free)with|false|true=>?_);q<-[b,qB qx];.inr q;q<-[b,qE rfl,gj];(by cases a:(x==n)with|true|false=>?_);this:=beq_iff_eq.mp a;!this;this:=beq_iff_eq.mp b;!this;.inl qi;q<-[a];.inr q
structure pI(y z:UK)(sc:Scope):Prop where
 kind:sc.kind=.function
 co:sc.isCoroutine=false
 gen:sc.isGenerator=false
 cell:∀p∈sc.names,p.2≠.cell
 ly:sc.names.lookup y=some .local
 lz:sc.names.lookup z=some .free
 fr:∀p∈sc.names,p.2=.free->p.1=z
def oh(qual:UK)(a:Scope)(cl:List (UK×UJ))(L f:UJ)(cd:MD):Env := {scope:=a,locals:=L,globals:=mainGlobals,cells:=cl,qual:=qual++".<locals>.",func:=!f,code:=cd,frame:=!L,builtins:=builtinsNs}
def ir(P:Program)(w:World)(K:PySem.W.Frag)(mg:UK->Option MD)(base:Heap)(y z qual:UK)(a:Scope)(cl:List (UK×UJ))(f:UJ)(cd:MD)(A:Around)(outer:List Env)(s:UH)(H:Hp):Cx where
 prog:=P
 w:=w
 K:=K
 mg:=mg
 base:=base
 A:=A.deeper (oh qual a cl ↑s f cd)
 N:=[y,z]
 s₀:=s
 H₀:=H
 env:=oh qual a cl ↑s f cd
 outer:=outer
 stack:=oh qual a cl ↑s f cd::outer
 ex:=[]
 calm:=true
 fn:=λ_=>false
 pn:=[]
 xe:=λ_ _=>False
def OD{P:Program}{w:World}{K:PySem.W.Frag}{mg:UK->Option MD}{base:Heap}{y z qual:UK}{q:Scope}{cl:List (UK×UJ)}{f c:UJ}{cd x u:MD}{A:Around}{outer:List Env}{s:UH}{H:Hp}{v t:V}{h':Heap}{tk:Nat}(S:pI y z q)(E:A.handled=none)(g:hG P w K mg base A outer s H)(C:RelV v x)(j:∀n a,cl.lookup n=!a->n=z/\a=c)(hz:cl.lookup z=!c)(B:s.heap.IsCell c (!u))(r:H c=none)(D:RelV t u)(hn:h'.Ns ↑s (λn=>[(y,x)].reverse.lookup n))(old:∀b o,s.heap.get? b=!o->h'.get? b=!o):Inv (ir P w K mg base y z qual q cl f cd A outer s H) [] [!v,!t] H {s with heap:=h',toks:=tk}:=do k:∀b:UJ,b∉(ir P w K mg base y z qual q cl f cd A outer s H).ex:=λb z=>absurd (show b∈([]:List UJ) from z) (do 0);l:h'.IsCell c (!u):=let⟨o,e,d⟩:=B;{o,old _ _ e,d};{{g.mod,S.kind,O,O,qb _,λn m a h1 h2=>(j n a h1).1.trans (j m a h2).1.symm,λn hn=>?_,λn a z=>(do-z),λ_=>E,Around.frames_deeper g.frames,.inr {O,O},λb z=>absurd z (k b),g.bs,g.tH,λb _ _=>k b,λb z=>absurd z (k b),g.eI,g.xM},rfl,g.bare,Un.kept old,{_,hn,λi n G h1 h2 F=>?_},λn a h=>?_,g.a9.fresh (Nat.le_refl _),λn a h=>?_,λp hp=>absurd (show p∈([]:List 71) from hp) (do 0),g.a9.kept old,O};hn:q.names.lookup n=some .cell\/q.names.lookup n=some .free:=hn;hn||hn:=hn;absurd rfl (S.cell _ (PySem.mem_of_lookup hn));this:=S.fr _ (PySem.mem_of_lookup hn) rfl;this:n=z:=this;[this];{c,hz};(by match i,h1,h2 with| 0,h1,h2 => cases h1;cases h2;exact{x,C,.inl {S.ly,do 0}}| 1,h1,h2 => cases h1;cases h2;exact{u,D,.inr {.inr S.lz,c,hz,l}}|i+2,h1,h2=>cases h1);{_,e}:=j n a h;[e];{_,l};{_,e}:=j n a h;[e];r
def HX{P:Program}{w:World}{K:PySem.W.Frag}{mg:UK->Option MD}{base:Heap}{A:Around}{outer:List Env}{s:UH}{H:Hp}{k:Nat}{f j c:UJ}{q:UK}{g:Arguments}{h:Expr}{d:Scope}{cl:List (UK×UJ)}{L l x u:MD}{y z:UK}{v C:V}{Q:VK}{tb:TE}(G:bI k A)(D:hG P w K mg base A outer s H)(R:s.heap.get? f=!(kla_obj "<lambda>" q g h d cl L j l))(r:s.heap.CodeRec (.ref j) q)(S:pI y z d)(i:bindArgs (kla_fn "<lambda>" q g h d cl L (.ref j) l) {[x],[]}=pure [(y,x)])(M:RelV v x)(m:∀n a,cl.lookup n=!a->n=z/\a=c)(hz:cl.lookup z=!c)(X:s.heap.IsCell c (!u))(B:H c=none)(O:RelV C u)(T:PE (ir P w K mg base y z q d cl f (.ref j) A outer s H) h tb)(U:tb [!v,!C] H Q) : codeAny (model P w) A (.call (.ref f) {[x],[]}) (CR i8 outer P w H s Q E0) s:=do p:s.heap.NoLimit:=D.mod.nolimit.keeps λb o e=>(D.bs b o e).1;kla_callFunE G.depth R rfl S.co S.gen rfl r ?_;[i];qF ?_;wpAny_newFunctionEnv S.cell (λn hn=>do[qo.mp hn];S.ly) (λh' F t=>?_) S.kind;old:∀b o,s.heap.get? b=!o->h'.get? b=!o:=λb o e=>t.extBut b o (qp (qG e)) (qI _ e);{p.keeps old,kla_codeExpr ?_};I:=OD (f:=f) (cd:=.ref j) (qual:=q) (tk:=s.toks+[(y,x)].length) S G.hd D M m hz X B O F old;qM (T [] _ [!v,!C] H Q I U) (λu s' E=>?_) λe s' E=>False.elim E;{N,H',J,Y,Z}:=E;{N,H',J.os,J.bare,J.base,J.a9,Y,Z}
section
variable {X:Cx}{pins:List 71}{σ:St}{H:Hp}{s:UH}
def Mm{cl:List (UK×UJ)}(I:Inv X pins σ H s)(j:X.env.code=.ref c)(hC:codeHdIn X.K c P=true)(T:X.base.BuiltinsAt X.mg P)(l:Tb a.line a.col (X.env.qual++"<lambda>") P H)(D:defaultsOf d X.env=([],[]))(x:closureFor i X.env=pure cl)(h:∀f g k W s' H',Inv X pins σ H' s'->Tb a.line a.col (X.env.qual++"<lambda>") P H'->H' g=!(ua g (X.env.qual++"<lambda>"))->ag (del H P) (del H' P)->H' f=none->f∉d_ X.stack->s'.heap.get? f=!(kla_obj "<lambda>" (X.env.qual++"<lambda>") d n i cl W g k)->Q (.ref f) s') : wpAny 37 X.A (eval (.Lambda d n i a) X.env) Q X.xe s:=do F:s.heap.Ns mainGlobals X.mg:=I.mod.glob.keeps I.bk;C:CodeHd s.heap c P:=codeHd_of_K I.oz hC;R:s.heap.BuiltinsAt X.mg P:=T.keeps I.bk;G:mainGlobals≠P:=λz=>(do _;{o,es,ep,e,_}:=I.mod.glob;{ps,t}:=l.cn;t<-[<-z];by rcases(I.bs _ _ e).2 with y|⟨xs,y⟩ <;> rw[y]at t <;> cases t);kla_eval D ?_;l||{g,l,hc'}:=l;N:s.heap.get? P=!(tabObj #[]):=I.a9 P _ l;kla_makeFunction x I.ok.glob F j C N trivial rfl G R λg k h' tk hx m B v E=>?_;O:P<↑s:=I.a9.lt l;M:P≠g:=qp (zh O m);p:↑s<=h'.objs.size:=wx (jv m B);e0:(#[]:Array MD)++#[rawInt a.line,rawInt a.col,.ref g]=#[rawInt a.line,rawInt a.col,.ref g]:=(do 0);E<-[e0];J:h'.objs.size≠g:=zo B;L:h'.objs.size≠P:=zo (zh O p);h _ g k _ _ _ (Inv.Gf (q:=X.env.qual++"<lambda>") (more:=#[rawInt a.line,rawInt a.col,.ref g]) I l (λb o Z e=>qI _ (hx b o Z e)) m ?_ (qI _ E)) (.inr {g,do[az M,aF],aF}) aF (λb u e=>?_) ?_ (I.mF p) (qL _ rfl);{c2,V,vs,Y,e,U,r}:=v;{c2,V,vs,Y,e,qI _ U,r};z<|b=P;!z;e<-[eG];-e;(by rw[bW z]at e ⊢);[az (λy=>do !y;e<-[I.a9.fresh m];-e),az z];e;[az J,az L];I.a9.fresh p;N:s.heap.get? P=!(tabObj #[rawInt a.line,rawInt a.col,.ref g]):=I.a9 P _ l;kla_makeFunctionHit (cv:=.ref g) x I.ok.glob F j C N (do#[TriplesOk,rawInt]) (do#[codeAmong,rawInt]) R λk h' tk S hsz=>?_;h _ g k _ _ H ?_ (.inr {g,l,hc'}) hc' (ag.refl _) (I.a9.fresh hsz) (I.mF hsz) (qL _ rfl);I.un (Un.kept λb o e=>qI _ (S b o e)) (I.a9.kept λb o e=>qI _ (S b o e))
abbrev eR(xs:Array MD)(c:Nat):Obj:={cls:=.type "list",dict:=none,data:=.seq xs c,slots:=#[]}
structure G6(X:Cx)(H:Hp)(s:UH)(it S p:UJ)(Hm:Hp)(s':UH)(j:Nat)(bst:Array MD):Prop where
 un:Un (d_ X.stack) [] H Hm s.heap s'.heap
 a9:df X.prog X.w Hm s'.heap
 os:s'.os=s.os
 bare:AllBare s'.gens
 same:ag H Hm
 fI:Hm it=none
 fS:Hm S=none
 gI:s'.heap.IsListIter it p j
 gS:∃c,s'.heap.get? S=!(eR bst c)
def G6.inv{it S p:UJ}(M:G6 X H s it S p c s' j a)(I:Inv X pins σ H s):Inv X pins σ c s':=I.iN M.os M.un M.a9 M.bare (λb z=>absurd z (do 0))
def Jg{fa it S p:UJ}{ys:List V}{D:Nat->List Int}{C:Hp->V->VK->Prop}{a:Hp}{s':UH}{j:Nat}{N:Array MD}{E:KE}(t:∀(s':UH) (a:Hp) (x:MD) (y:V) (Q:VK),hG X.prog X.w X.K X.mg X.base X.A.in1 X.stack s' a->Un (d_ X.stack) [] H a s.heap s'.heap->ag H a->RelV y x->C a y Q->codeAny 37 X.A.in1 (.call (.ref fa) {[x],[]}) (CR i8 X.stack X.prog X.w a s' Q E0) s')(hsp:∀(m:Nat) y H' (Q':VK),ys[m]?=!y->ag H H'->(∀l g,ag H' l->DV l g (.tuple ((D m).map PyData.int))->Q' g l)->C H' y Q')(hh:X.A.handled=none)(I:Inv X pins σ H s)(hp:aD H p ys)(hi:↑s<=it)(hS:↑s<=S)(Y:it≠S)(nI:it∉d_ X.stack)(nS:S∉d_ X.stack)(hj:j<ys.length)(M:G6 X H s it S p a s' j N) : wpAny 37 X.A.in1 (pyNext (.ref it)) (λr s1=>∃item,r=!item/\∀E',wpAny 37 X.A.in1 (call (.ref fa) [item]) (λval s2=>∃y g H2,ys[j]?=!y/\RelV y item/\RelV g val/\DV H2 g (.tuple ((D j).map PyData.int))/\ag a H2/\G6 X H s it S p H2 s2 (j+1) N) E' s1) E s':=do I':=M.inv I;k:=hp.same M.same;{its,rv,pl,hz}:=I'.list k;hl:=rv.length;hlt:p<↑s':=(do _;{_,e,_}:=pl.isList;qG e);hip:p≠it:=λz=>(do _;{o1,e1,c1,d1}:=pl.isList;{o2,e2,c2,d2}:=M.gI;e1<-[z,e2];-e1;c2<-[c1];(by injection c2 with z);absurd z ⋯);hpS:p≠S:=λz=>(do e||{o,e}:=hp;this:=I.a9.lt e;absurd this (do[z];Nat.not_lt.mpr hS);this:=I.a9.lt e;absurd this (do[z];Nat.not_lt.mpr hS));W:=Walks.list (prog:=X.prog) (w:=X.w) (A:=X.A.in1) hh it p hip its.toArray;W.item j s' _ _ (do[zk];()) {M.gI,pl.isList} λv h' tk R B hk'=>{v,O,λE'=>?_};R:its.toArray[j]?=!v:=R;R<-[List.getElem?_toArray];i:ys[j]?=some ys[j]:=qe hj;{u',L,J}:=rv.get i;L<-[R];-L;wr:∀b o,b≠it->s'.heap.get? b=!o->h'.get? b=!o:=λb o T e=>hk' b o (do 0<|T) e;n:Un (d_ X.stack) [] H a s.heap h':=M.un.later λb o T e=>wr b o (qp (zh T hi)) e;F:df X.prog X.w a h':=M.a9.other wr M.fI;I1:Inv X pins σ a {s' with heap:=h',toks:=tk}:=I.iN (s':={s' with heap:=h',toks:=tk}) M.os n F M.bare (λb z=>absurd z (do 0));h:=I1.A5;wpAny_call (codeAny_mono (t {s' with heap:=h',toks:=tk} a v ys[j] (λg H2=>ag a H2/\DV H2 g (.tuple ((D j).map PyData.int))) {h.frames,h.mod,h.bs,h.tH,h.eI,h.xM,h.a9,h.bare} n M.same J (hsp j ys[j] a _ i M.same λH2 g a1 a2=>{a1,a2})) λres s2 k=>?_);(by cases res with|error e|ok fl=>?_);k.elim;(by cases fl with|next|brk|cont|ret u=>?_);k.elim;k.elim;k.elim;{g,H2,Z,q,d,P,rel,f,U}:=k;{c,gS}:=M.gS;{oi,gi,ci,di}:=B.1;G:=wr S _ Y.symm gS;{ys[j],g,H2,i,J,rel,U,f,n.trans d,P,Z.trans M.os,q,M.same.trans f,d.free it _ gi M.fI (do 0),d.free S _ G M.fS (do 0),{oi,d.keep it _ gi M.fI nI (do 0),ci,di},c,d.keep S _ G M.fS nS (do 0)}
def Pw{fa it S p:UJ}{ys:List V}{D:Nat->List Int}{C:Hp->V->VK->Prop}{R:Result->UH->Prop}(J:∀(s':UH) (n:Hp) (x:MD) (y:V) (Q:VK),hG X.prog X.w X.K X.mg X.base X.A.in1 X.stack s' n->Un (d_ X.stack) [] H n s.heap s'.heap->ag H n->RelV y x->C n y Q->codeAny 37 X.A.in1 (.call (.ref fa) {[x],[]}) (CR i8 X.stack X.prog X.w n s' Q E0) s')(hsp:∀(m:Nat) y H' (Q':VK),ys[m]?=!y->ag H H'->(∀G B,ag H' G->DV G B (.tuple ((D m).map PyData.int))->Q' B G)->C H' y Q')(hu:X.A.units+3+61<cLine)(hh:X.A.handled=none)(I:Inv X pins σ H s)(hp:aD H p ys)(hi:↑s<=it)(Z:↑s<=S)(E:it≠S)(nI:it∉d_ X.stack)(nS:S∉d_ X.stack)(fin:∀(m:Nat) (y:V) (u:MD) Hn N,ys[m]?=!y->RelV y u->(∀i,i<ys.length->bN (.tuple ((D m).map PyData.int)) (.tuple ((D i).map PyData.int))=false)->Inv X pins σ Hn N->ag H Hn->R (.ok (.ret u)) N) : ∀(k j:Nat) (n:Hp) (s':UH) (b:Nat) (y:V) (item val:MD) (B:V),ys.length - j=k->1<=j->j<=ys.length->G6 X H s it S p n s' j #[item,val]->b<j->ys[b]?=!y->RelV y item->RelV B val->DV n B (.tuple ((D b).map PyData.int))-> (∀i,i<j->bN (.tuple ((D b).map PyData.int)) (.tuple ((D i).map PyData.int))=false)->codeAny 37 X.A (.builtin "max.loop" {[.ref it,.ref fa,.ref S],[]}) R s':=do t:(toString "max"++toString ".loop":String) = "max.loop":=⋯;(k);(by induction k with|zero|succ k ih=>?_);(j,n,s',b,y,item,val,B,hk,h1,hj,M,g,hy,ry,rk,dk,v);hjl:j=ys.length:=();{c,gS}:=id M.gS;I':=M.inv I;{its,rv,pl,hz}:=I'.list (hp.same M.same);hl:=rv.length;hip:p≠it:=λz=>(do _;{o1,e1,c1,d1}:=pl.isList;{o2,e2,c2,d2}:=M.gI;e1<-[z,e2];-e1;c2<-[c1];(by injection c2 with z);absurd z ⋯);W:=Walks.list (prog:=X.prog) (w:=X.w) (A:=X.A.in1) hh it p hip its.toArray;codeAny_builtin F.entry_max_loop ?_;[Around.under_plainId F.plain_max_loop _];¬wpAny _ X.A.in1 (seqItems? (.ref S) >>= _) _ _ s';qA (wpAny_seqItems gS rfl ?_);¬wpAny _ X.A.in1 (tryCatch (pyNext (.ref it)) _ >>= _) _ _ s';qA (wpAny_tryCatch (W.done s' _ _ {do[zk,<-hl,<-hjl];M.gI,pl.isList} λh' tk hk'=>?_));wr:∀b o,b≠it->s'.heap.get? b=!o->h'.get? b=!o:=λb o g e=>hk' b o (do 0<|g) e;gS':=wr S _ E.symm gS;¬wpAny _ X.A.in1 (updateSeq S (λ_=>#[]) >>= _) _ _ _;qA ?_;wpAny_updateSeq gS' rfl (qA (wpAny_letGo (qF ?_)));wr2:∀b o,b≠it->b≠S->s'.heap.get? b=!o->(h'.update S (Obj.mapSeq λ_=>(#[]:Array MD))).get? b=!o:=λb o h1 h2 e=>(Heap.get?_update_other _ _ (Ne.symm h2)).trans (wr b o h1 e);fin b y item n _ hy ry (λi L=>v i ()) ?_ M.same;I.iN (s':={s' with heap:=h'.update S (Obj.mapSeq λ_=>(#[]:Array MD)),toks:=tk}) M.os (M.un.later λb o g e=>wr2 b o (Nat.ne_of_lt (Nat.lt_of_lt_of_le g hi)) (Nat.ne_of_lt (Nat.lt_of_lt_of_le g Z)) e) ?_ M.bare (λb z=>absurd z (do 0));(M.a9.other wr M.fI).other (λb u g e=>(Heap.get?_update_other _ _ (Ne.symm g)).trans e) M.fS;(j,n,s',b,y,item,val,B,hk,h1,hj,M,g,hy,ry,rk,dk,v);hlt:j<ys.length:=();{c,gS}:=id M.gS;codeAny_builtin F.entry_max_loop ?_;[Around.under_plainId F.plain_max_loop _];¬wpAny _ X.A.in1 (seqItems? (.ref S) >>= _) _ _ s';qA (wpAny_seqItems gS rfl ?_);¬wpAny _ X.A.in1 (tryCatch (pyNext (.ref it)) _ >>= _) _ _ s';qA (wpAny_tryCatch (qM (Jg J hsp hh I hp hi Z E nI nS hlt M) (λr s1 hr=>?_) (λ_ _ z=>z)));{d,rfl,hr}:=hr;¬wpAny _ X.A.in1 (tryCatch (holding [d] (call (.ref fa) [d])) _ >>= _) _ _ s1;qA (wpAny_tryCatch (qK (qM (hr (λ_ _=>False)) (λf s2 hR=>?_) (λ_ _ z=>z.elim))));{y2,kv2,H2,hy2,ry2,T,O,l,h}:=hR;I2:=h.inv I;{as1,r1}:=O.reads I2 T;{as2,r2}:=(dk.same l).reads I2 rk;{c2,U}:=id h.gS;lG:∀i,bN (.tuple ((D i).map PyData.int)) (.tuple ((D i).map PyData.int))=false:=λi=>lX _;tr:∀a b c:Nat,bN (.tuple ((D a).map PyData.int)) (.tuple ((D b).map PyData.int))=true->bN (.tuple ((D b).map PyData.int)) (.tuple ((D c).map PyData.int))=true->bN (.tuple ((D a).map PyData.int)) (.tuple ((D c).map PyData.int))=true:=λa b c h1 h2=>sG _ _ _ (do[sk];yE _ _) (do[sk];yE _ _) (do[sk];yE _ _) h1 h2;¬wpAny _ X.A.in1 (tryCatch (holding [d,f] (richCompare .Gt f val >>= _)) _ >>= _) _ _ s2;qA (wpAny_tryCatch (qK (qA (Ky r1 r2 (do¬X.A.units+1+2<cLine;()) X.prog X.w _ _ ?_))));qA (qK (wpAny_truthy_bool ?_));qA (wpAny_letGo (qF ?_));(by cases P:bN (.tuple ((D b).map PyData.int)) (.tuple ((D j).map PyData.int))with|true|false=>?_);#[_,if_true];qA ?_;wpAny_updateSeq U rfl (qA (wpAny_letGo ?_));[t];Y:∀b o,b≠S->s2.heap.get? b=!o->(s2.heap.update S (Obj.mapSeq λ_=>#[d,f])).get? b=!o:=λb o h2 e=>(Heap.get?_update_other _ _ (Ne.symm h2)).trans e;{oi,gi,ci,di}:=id h.gI;qF {plainId_quiet F.plain_max_loop _,ih (j+1) H2 _ j y2 d f kv2 () () () {h.un.later λb o g e=>Y b o (qp (zh g Z)) e,h.a9.other (λb u g e=>Y b u g e) h.fS,h.os,h.bare,h.same,h.fI,h.fS,{oi,Y _ _ E gi,ci,di},_,Heap.get?_update_self _ U rfl} () hy2 ry2 T O λi L=>?_};z<|i=j;[z];lG j;this:=v i ();(by cases q:bN (.tuple ((D j).map PyData.int)) (.tuple ((D i).map PyData.int))with|false|true=>?_);2;this<-[tr _ _ _ P q];-this;#[_,Bool.false_eq_true,if_false];qA (wpAny_letGo ?_);[t];qF {plainId_quiet F.plain_max_loop _,ih (j+1) H2 _ b y item val B () () () h () hy ry rk (dk.same l) λi L=>?_};z<|i=j;[z];P;v i ()
def S3{fa p:UJ}{ys:List V}{D:Nat->List Int}{C:Hp->V->VK->Prop}{Q:VK}(f:∀(s':UH) (B:Hp) (x:MD) (y:V) (Q:VK),hG X.prog X.w X.K X.mg X.base X.A.in1 X.stack s' B->Un (d_ X.stack) [] H B s.heap s'.heap->ag H B->RelV y x->C B y Q->codeAny 37 X.A.in1 (.call (.ref fa) {[x],[]}) (CR i8 X.stack X.prog X.w B s' Q E0) s')(q:∀(m:Nat) y H' (Q':VK),ys[m]?=!y->ag H H'->(∀l kv,ag H' l->DV l kv (.tuple ((D m).map PyData.int))->Q' kv l)->C H' y Q')(hu:X.A.units+3+61<cLine)(hh:X.A.handled=none)(I:Inv X pins σ H s)(hp:aD H p ys)(hn:0<ys.length)(T:∀(m:Nat) (y:V) j,ys[m]?=!y->(∀i,i<ys.length->bN (.tuple ((D m).map PyData.int)) (.tuple ((D i).map PyData.int))=false)->ag H j->Q y j) : wpAny 37 X.A (call (.builtin "max") [.ref p] [(Str.ofString "key",.ref fa)]) (EP X pins σ Q) X.xe s:=do c:(toString "max"++toString ".loop":String) = "max.loop":=⋯;{its,rv,pl,hz}:=I.list hp;t:=pl.isList;hlt:p<↑s:=(do _;{_,e,_}:=t;qG e);PD F.kind_max F.plain_max F.entry_max (QJ _ _) ?_;¬wpAny _ X.A.in1 (Builtin.Builtins.bindParams "max" ["key","default"] 0 {[],[(Str.ofString "key",.ref fa)]} >>= _) _ _ s;qA (wpAny_of_eq (show Builtin.Builtins.bindParams "max" ["key","default"] 0 {[],[(Str.ofString "key",.ref fa)]}=pure [!(.ref fa),none] from rfl) ?_);qA (qF ?_);qA (wpAny_pyIter_list t (qA (wpAny_newObj_type ?_)));[c];U:(s.heap.push {cls:=.type "list_iterator",data:=.fields #[.ref p,.int 0 0]}).objs.size=↑s+1:=Heap.size_push ..;Y:∀b o,s.heap.get? b=!o->((s.heap.push {cls:=.type "list_iterator",data:=.fields #[.ref p,.int 0 0]}).push (eR #[] 0)).get? b=!o:=λb o e=>qI _ (qI _ e);gI:((s.heap.push {cls:=.type "list_iterator",data:=.fields #[.ref p,.int 0 0]}).push (eR #[] 0)).IsListIter ↑s p 0:={_,qI _ (qL _ rfl),O,O};gS:((s.heap.push {cls:=.type "list_iterator",data:=.fields #[.ref p,.int 0 0]}).push (eR #[] 0)).get? (s.heap.push {cls:=.type "list_iterator",data:=.fields #[.ref p,.int 0 0]}).objs.size=!(eR #[] 0):=qL _ rfl;qF {plainId_quiet F.plain_max_loop _,?_};¬codeAny _ X.A (.builtin "max.loop" {[.ref ↑s,.ref fa,.ref (s.heap.push {cls:=.type "list_iterator",data:=.fields #[.ref p,.int 0 0]}).objs.size],[]}) _ {s with heap:=(s.heap.push {cls:=.type "list_iterator",data:=.fields #[.ref p,.int 0 0]}).push (eR #[] 0)};(by rw[U]at gS ⊢;generalize (s.heap.push {cls:=.type "list_iterator",data:=.fields #[.ref p,.int 0 0]}).push (eR #[] 0)=h2 at Y gI gS ⊢);hi:↑s<=↑s:=qb _;n:↑s<=↑s+1:=jw _;h:↑s≠↑s+1:=qp (yu _);nI:=I.mF hi;nS:=I.mF n;fI:=I.a9.fresh hi;fS:=I.a9.fresh n;(by generalize ↑s+1=S at gS n h nS fS ⊢);M0:G6 X H s ↑s S p H {s with heap:=h2} 0 #[]:={Un.kept Y,I.a9.kept Y,O,I.bare,ag.refl _,fI,fS,gI,0,gS};E:∀(m:Nat) (y:V) (u:MD) j k,ys[m]?=!y->RelV y u->(∀i,i<ys.length->bN (.tuple ((D m).map PyData.int)) (.tuple ((D i).map PyData.int))=false)->Inv X pins σ j k->ag H j->(λ(r:Result) s'=>match r with|.ok (.ret v)=>EP X pins σ Q v s'|.ok _=>False|.error e=>X.xe e s') (.ok (.ret u)) k:=λm y u j k h1 h2 h3 h4 h5=>{y,j,h4,h2,T m y j h1 h3 h5};codeAny_builtin F.entry_max_loop ?_;[Around.under_plainId F.plain_max_loop _];¬wpAny _ X.A.in1 (seqItems? (.ref S) >>= _) _ _ {s with heap:=h2};qA (wpAny_seqItems gS rfl ?_);¬wpAny _ X.A.in1 (tryCatch (pyNext (.ref ↑s)) _ >>= _) _ _ {s with heap:=h2};qA (wpAny_tryCatch (qM (Jg f q hh I hp hi n h nI nS hn M0) (λr s1 M=>?_) (λ_ _ z=>z)));{a,rfl,M}:=M;¬wpAny _ X.A.in1 (tryCatch (holding [a] (call (.ref fa) [a])) _ >>= _) _ _ s1;qA (wpAny_tryCatch (qK (qM (M (λ_ _=>False)) (λd s2 hR=>?_) (λ_ _ z=>z.elim))));{y2,kv2,H2,W,R,N,L,Z,g}:=hR;{c2,G}:=id g.gS;¬wpAny _ X.A.in1 (updateSeq S (λ_=>#[a,d]) >>= _) _ _ s2;qA ?_;wpAny_updateSeq G rfl ?_;[c];J:∀b o,b≠S->s2.heap.get? b=!o->(s2.heap.update S (Obj.mapSeq λ_=>#[a,d])).get? b=!o:=λb o h2 e=>(Heap.get?_update_other _ _ (Ne.symm h2)).trans e;{oi,gi,ci,di}:=id g.gI;qF {plainId_quiet F.plain_max_loop _,Pw f q hu hh I hp hi n h nI nS E _ 1 H2 _ 0 y2 a d kv2 rfl () () {g.un.later λb o P e=>J b o (qp (zh P n)) e,g.a9.other (λb u P e=>J b u P e) g.fS,g.os,g.bare,g.same,g.fI,g.fS,{oi,J _ _ h gi,ci,di},_,Heap.get?_update_self _ G rfl} () W R N L λi hi'=>?_};this:i=0:=();[this];lX _
def Kn(c cl:Nat)(q:UK)(P:UJ)(i:Nat)(tb:TE)(t:TA):TE:=λσ H Q=>t σ H λvs H1=>Tb c cl q P H1/\∀H2,Tb c cl q P H2->ag (del H1 P) (del H2 P)->∃p ys b,∃D:Nat->List Int,vs=[.ref p]/\aD H2 p ys/\0<ys.length/\σ[i]?=some (!b) ∧ (∀(m:Nat) y H' (d:VK),ys[m]?=!y->ag H2 H'->(∀a e,ag H' a->DV a e (.tuple ((D m).map PyData.int))->d e a)->tb [!y,!b] H' d) ∧ ∀(m:Nat) y f,ys[m]?=!y->(∀j,j<ys.length->bN (.tuple ((D m).map PyData.int)) (.tuple ((D j).map PyData.int))=false)->ag H2 f->Q y f
end
section
variable {X:Cx}{k:Nat}
def OY{p r kp pos:Pos}(J:X.env.code=.ref c)(hC:codeHdIn X.K c P=true)(hB:X.base.BuiltinsAt X.mg P)(hr:bI (k+2) X.A)(hg:Gl X x)(hm:X.mg x=none)(hv:bootBuiltins x=!(.builtin "max"))(S:pI y z b)(hN:X.N[i]?=!z)(hk:X.env.kindOf z=some .cell)(hX:∀x,X.env.kindOf x=some .cell->∃c,X.env.cells.lookup x=!c)(hcm:X.calm=true)(hfn:X.fn z=true)(L:∀cl pm cd T x,bindArgs (kla_fn "<lambda>" (X.env.qual++"<lambda>") d m b cl pm cd T) {[x],[]}=pure [(y,x)])(hb:∀cl f cd A outer s H,bI k (ir X.prog X.w X.K X.mg X.base y z (X.env.qual++"<lambda>") b cl f cd A outer s H).A->PE (ir X.prog X.w X.K X.mg X.base y z (X.env.qual++"<lambda>") b cl f cd A outer s H) m tb)(ha:PA X [e] t)(R:defaultsOf d X.env=([],[]):=by rfl)(hn:x≠"__name__":=by decide)(hdb:(x==("__debug__":UK))=false:=by decide)(he:starEach [e] X.env=(false,eval e X.env)::starEach [] X.env:=by rfl):PE X (.Call (.Name x p) [e] [{!"key",.Lambda d m b r,kp}] pos) (Kn r.line r.col (X.env.qual++"<lambda>") P i tb t):=do _;{?_};(pins,s,σ,H,Q,I,h);{v,j}:=hX z hk;u:∀y∈b.names,y.2=.free->∃c,X.env.cells.lookup y.1=!c:=λn hn e=>(do[S.fr n hn e];{v,j});Y:=BF u;M:=xK u (acc:=[]) (λx c e=>do-e);l:∀n a,(nB X.env b.names []).lookup n=!a->n=z/\a=v:=λn a e=>(do q||q:=D_ e;U:n=z:=S.fr _ q rfl;this:=M n a e;this<-[U,j];{U,(qJ this).symm};-q);hzc:(nB X.env b.names []).lookup z=!v:=(do _;{V,O}:=wY (env:=X.env) (acc:=[]) (.inl (PySem.mem_of_lookup S.lz));[O,(l z V O).2]);wpAny_Call_Name_kw (iY I hg hm hv ?_ hn hdb);callWith_kw (bL (ha pos pins s σ H _ I h) λus s1 ⟨vs,H1,I1,r1,hT,q1⟩=>kws_cons (Mm I1 J hC hB hT R Y λf V T pm s2 H2 B hT2 hc2 sm hf nf of=>kws_nil ?_)) (do[he];2) (do[he];2);{p,ys,vz,D,rfl,hq,W,hσ,G,fin}:=q1 H2 hT2 sm;{u0,rfl,Z}:=vals1 r1;-Z;{m0,hn1,hl}:=B.loc;{uz,ruz,look}:=hl i z vz hN hσ (.inr (.inl hk));g:s2.heap.IsCell v (!uz):=(do _;{kk,_}||{_,c2,F,g}:=look;kk<-[hk];-kk;F<-[j];-F;g);E:=B.dr z v j;mF:v∉d_ X.stack:=B.iO (B.xY z v j) (λhm=>do _;{_,o,ho,_}:=B.ok.eI.mem hm;absurd (zh (qG ho) (B.ok.Af z v hfn j)) (wj _));S3 (C:=λHm y Q=>tb [!y,!vz] Hm Q) (λs' Hm x y Q e0 un same r1 G=>?_) G (do this:=hr.un;()) (B.ok.hd hcm) B hq W fin;hcr:s'.heap.CodeRec (.ref V) (X.env.qual++"<lambda>"):=(e0.a9 V _ (same _ _ hc2)).1;{oc,ec,dc}:=g;HX hr.in1 e0 (un.keep f _ of hf nf (do 0)) hcr S (L _ _ _ _ _) r1 l hzc {oc,un.keep v _ ec E mF (do 0),dc} (un.free v _ ec E (do 0)) ruz (hb _ _ _ _ _ _ _ (hr.in1.deeper _)) G
end
def xh(tk tv:TE):TE:=λσ H Q=>∀p H0,H p=none->ag H H0->H0 p=!(.dG [])->tk σ H0 λx H1=>tv σ H1 λy H2=>H2 p=!(.dG [])/\∃k,GK H2 k x/\Q (.ref p) (upd H2 p (.dG [(k,x,y)]))
section
variable {X:Cx}
def H_{k v:Expr}(P:X.A.units+2<cLine)(G:PE X k tk)(t:PE X v tv):PE X (.Dict [!k] [v] pos) (xh tk tv):=do _;{?_};(pins,s,σ,H,Q,I,q);hn:=I.a9.fresh (qb ↑s);L:=I.laid (a:=↑s) (o:=.dG []) (h':=s.heap.push {cls:=.type "dict",data:=.dict #[]}) (t':=s.toks) (λ_ _ q=>qI _ q) (qb _) (Nq s.heap I.mZ);[arm_eval_Dict,zip_pairTrees [!k] [v] X.env pos rfl rfl,dictDisplay_pairs (pairTrees [!k] [v] X.env pos) (do#[pairTrees]) (do[pairTrees_length [!k] [v] X.env pos rfl rfl];Nat.le_of_ble_eq_true rfl)];qA (wpAny_standAt (qA ?_));@subDict;qA (wpAny_alloc ?_);qA (qK ?_);[qE (do[pairTrees_length [!k] [v] X.env pos rfl rfl];jz rfl)];qA (pairTrees_cons_walk (bL (G pins _ σ _ _ L (q _ _ hn (ag.new hn) aF)) λu J ⟨x,H1,B,h,K⟩=>bL (t pins J σ H1 _ B K) λN s2 ⟨y,H2,d,C,e,kd,n,D⟩=>pairTrees_nil_walk ?_));{z,E,xs,f,F}:=eK d (.inl e);-f;qK ?_;qA ?_;[mf];qA (qA (En () (n.is d h) F (q0 _) λh' g c=>qF ?_));¬wpAny _ _ (forIn [] _ _) _ _ _;[List.forIn_nil];qF (qF (qF (qF ?_)));{o,es,ep,j,h2,w,M,_,r}:=g;{.ref ↑s,_,qU (ob:=.dG [(kd,x,y)]) d (do[e];True.intro) c {o,j} {do¬1<=sizeLine;by decide,E,_,Paired.mN (xp (l:=[]) (m:=[]) .nil n h C) λp q z=>{z.1,z.2.1.cY λb xs i=>?_,z.2.2},o,es,ep,j,h2,w,M,r},O,D};[az (oK i e (λz=>nomatch z))];i
end
def uI(Ps:List UJ)(M:UJ->Option (List V))(H:Hp):Prop:=∀b,(b∈Ps/\H b=!(.cn #[]))\/(b∉Ps/\∃xs,M b=!xs/\H b=!(.tup xs))\/(b∉Ps/\M b=none/\(H b=none\/∃o xs,H b=!(.du o (.lst xs))))
def tK(K:PySem.W.Frag):Bool:=K.all λp=>match p.2.cls,p.2.data with|.type t,.seq ..=>not (t=="list")|_,_=>true
def RW{K:PySem.W.Frag}{a:UJ}{us:Array MD}{n:Nat}(h:tK K=true)(e:K.lookup a=some {cls:=.type "list",data:=.seq us n}):False:=do this:=my.mp h _ (PySem.W.mem_of_lookupK e);h2:(not (("list":String)=="list"))=true:=this;absurd h2 ⋯
section
variable {prog:Program}{w:World}{A:Around}{E:KE}{s:UH}
def SQ(N:A.handled=none)(Y:(d==sysModules)=false)(p:s.heap.get? d=!od)(H:od.ExactDict)(h:od.data=.dict es ep)(hz:es.size<=sizeLine)(V:∀s' acc c,Moved [] Eq s s'->s'.heap.get? ↑s=some {cls:=.type "list",dict:=none,data:=.seq acc c,slots:=#[]}->acc.toList=es.toList.map (·.key)->Q (.ref ↑s) s') : wpAny 66 A (call (.type "list") [.ref d]) Q E s:=do callType_codes (Q₁:=λobj f=>obj=.ref ↑s/\f={s with heap:=s.heap.push {cls:=.type "list",data:=.seq #[]}}) F.called_list (F.typeCall_list_1 _) F.entry_list_init (code_list_new _ {O,O}) λobj f h₁=>?_;{rfl,rfl}:=h₁;r:(s.heap.push {cls:=.type "list",data:=.seq #[]}).get? ↑s=some {cls:=.type "list",data:=.seq #[]}:=qL _ rfl;{{_,r,O},F.args_list_init_2 _ _,?_};a:d<↑s:=qG p;(by generalize B:s.heap.push {cls:=.type "list",data:=.seq #[]}=h1 at r);U:∀b o,s.heap.get? b=!o->h1.get? b=!o:=λb o e=>(do[<-B];qI _ e);¬wpAny _ A.in1.in1 (do{let old <-Builtin.List.listItems (.ref ↑s);Builtin.List.listUpdate (.ref ↑s) (λ_=>#[]);letGo old.toList.reverse;Builtin.List.listExtendWith (.ref ↑s) (.ref d) .none}) _ _ {s with heap:=h1};qA ?_;@Builtin.List.listItems;qA (wpAny_seqItems (s:={s with heap:=h1}) r rfl (qF ?_));¬wpAny _ A.in1.in1 (updateSeq ↑s (λ_=>#[]) >>= λ_=>letGo (#[]:Array MD).toList.reverse >>= λ_=>Builtin.List.listExtendWith (.ref ↑s) (.ref d) .none) _ _ {s with heap:=h1};qA (wpAny_updateSeq (s:={s with heap:=h1}) r rfl ?_);u:=Heap.get?_update_self (Obj.mapSeq (λ_=>(#[]:Array MD))) r rfl;l:∀b o,s.heap.get? b=!o->(h1.update ↑s (Obj.mapSeq (λ_=>(#[]:Array MD)))).get? b=some o:=λb o e=>(Heap.get?_update_other _ _ (zo (qG e))).trans (U b o e);t:(h1.update ↑s (Obj.mapSeq (λ_=>(#[]:Array MD)))).objs.size=↑s+1:=(do[Heap.size_update,<-B,Heap.size_push]);¬wpAny _ _ _ _ _ {s with heap:=h1.update ↑s (Obj.mapSeq (λ_=>(#[]:Array MD)))};(by generalize h1.update ↑s (Obj.mapSeq (λ_=>(#[]:Array MD)))=h2 at u l t);qA (wpAny_letGo ?_);I:Shared.TypeIs {s with heap:=h2} (.ref d) "dict":={od,l _ _ p,H.1};S:Builtin.List.listSameRef (.ref ↑s) (.ref d)=false:=(do¬(↑s==d)=false;beq_eq_false_iff_ne.mpr (zo a));@Builtin.List.listExtendWith;qA (wpAny_typeOf I ?_);[qB (by rw[S];decide)];qA (Bk (s:={s with heap:=h2}) Y (l _ _ p) H h ?_);qA (qK ?_);¬wpAny _ _ _ _ _ {s with heap:=h2.push 73};k:(h2.push 73).IsKeyIter h2.objs.size d 0 es.size ep:={_,qL _ rfl,O,O};y:∀b o,h2.get? b=!o->(h2.push 73).get? b=!o:=λb o e=>qI _ e;(by generalize h2.push 73=h3 at k y);i:Shared.TypeIs {s with heap:=h3} (.ref d) "dict":={od,y _ _ (l _ _ p),H.1};@Builtin.List.listLengthHint;qA (wpAny_specialOf (name:=Str.ofString "__len__") i F.slot_dict_len.lookup ?_);(by generalize q:("dict.__len__":String)=id0;wp_delta);[show splitId id0=some ("dict","__len__") from do !q;by decide +kernel];!q;qA (wpAny_isInstance (T:="dict") i PySem.F.sub_dict_dict ?_);[qB ⋯];(by wp_delta);[qE ∅];qA (wpAny_typeOf i (qF ?_));[qE ∅];m:=y _ _ u;qA (wpAny_rule (qA ?_));@Builtin.List.listTouch;qA (listUpdate_at (s:={s with heap:=h3}) m rfl ?_);{L,j}:∃L,(h3.update ↑s (Obj.mapSeq (·.push Value.none))).get? ↑s=!(seqObj "list" #[Value.none] L):={_,get?_update_seq m _};K:∀b o,b≠↑s->h3.get? b=!o->(h3.update ↑s (Obj.mapSeq (·.push Value.none))).get? b=!o:=λb o g e=>(Heap.get?_update_other _ _ (λz=>g z.symm)).trans e;¬wpAny _ _ _ _ _ {s with heap:=h3.update ↑s (Obj.mapSeq (·.push Value.none))};(by generalize h3.update ↑s (Obj.mapSeq (·.push Value.none))=h4 at j K);listUpdate_at (s:={s with heap:=h4}) j rfl ?_;{J,n}:∃J,(h4.update ↑s (Obj.mapSeq (·.pop))).get? ↑s=!(seqObj "list" #[] J):={_,get?_update_seq j _};D:∀b o,b≠↑s->h3.get? b=!o->(h4.update ↑s (Obj.mapSeq (·.pop))).get? b=!o:=λb o g e=>(Heap.get?_update_other _ _ (λz=>g z.symm)).trans (K b o g e);¬wpAny _ _ _ _ _ {s with heap:=h4.update ↑s (Obj.mapSeq (·.pop))};(by generalize h4.update ↑s (Obj.mapSeq (·.pop))=h5 at n D);¬wpAny _ _ (again (Code.builtin "list.extend.loop" {[Value.ref ↑s,Value.ref h2.objs.size,Value.none],[]})) _ _ _;(by rw[t]at k ⊢);W:=Nf (prog:=prog) (w:=w) (A:=A.in1.in1) (it:=↑s+1) (d:=d) (od:=od) (es:=es) (ep:=ep) N (zo (yt a)) h;{P,X,Z,M}:=k;qF {plainId_quiet F.plain_extend_loop _,codeAny_extend_loopS W hz ↑s (λz=>?_) _ es.size 0 {s with heap:=h5} #[] J rfl (q0 _) {{P,D _ _ (gs _) X,Z,M},D _ _ (qp a) (y _ _ (l _ _ p))} n (ItemsOf.nil _) λs' x R v G C=>?_};(by ac_nf at z);z||z:=z;gs _ z.symm;zo a z;⟨O,V s' x R ⟨λb o _ e=>?_,v.gens,v.drawn,v.os,v.toks⟩ G (Hb C)⟩;g:b<↑s:=qG e;v.heap b o (λz=>?_) (D b o (qp g) (y _ _ (l _ _ e)));(by ac_nf at z);z||z:=z;qp g z;qp (yt g) z
end
inductive D'(xs:List V)(H1:Hp)(Q:VK):Prop
 |mk(a kvs:_)(_:xs=[.ref a])(_:Rd H1 a 69)(_:kvs.length<=1000)(_:∀p H',H1 p=none->ag H1 H'->H' p=!(.lst (kvs.map (·.2.1)))->Q (.ref p) H')
section
variable {X:Cx}
def Ph(y:X.A.handled=none):cI X (.type "list") D':=do(pins,s,σ,H,xs,us,Q,I,r,h);{a,kvs,rfl,n,hz,q}:=h;{u,rfl,p}:=vals1 r;-p;{_,g,G,i,o,es,ep,v,z,d,k,C,hn}:=eK I n;f:es.size=kvs.length:=(do this:es.toList.length=kvs.length:=(do[k,qh,i.length]);0<|this);SQ y g v z d (do[f,sizeLine_eq];()) λs' acc c m t E=>?_;l:s'={s with heap:=s'.heap,toks:=s'.toks}:=(do _;{F,B,w,D,J}:=m;-s';-B;-w;-D;2);j:=I.a9.fresh (a:=↑s) (qb _);x:Inv X pins σ (upd H ↑s (.lst (kvs.map (·.2.1)))) s':=(do[l];I.laid (t':=s'.toks) (h':=s'.heap) (λb u e=>m.heap b u (do 0) e) (Nat.le_refl _) {?_,acc.toList,c,?_,do 0<|t};¬(kvs.map (·.2.1)).length<=sizeLine;[qh,sizeLine_eq];();[E,k,zx];JF i);{.ref _,_,x,O,q _ _ j (ag.new j) aF}
end
section
variable {X:Cx}{a b e:Expr}{ta tb te:TE}{es:List Expr}{t:TA}{pos p:Pos}
def Tf(X:Cx)(i:Nat)(x:UK)(k:NameKind):Prop:=(X.N[i]?,X.env.scope.names.lookup x,(x==("__debug__":UK)),(x==("__classdict__":UK)))=(!x,!k,false,false)
def vv(i:Nat)(h:Tf X i x .local:=by exact rfl):PE X (.Name x pos) (tR i):=pv i (congrArg (·.1) h) (.inl (congrArg (·.2.1) h)) (congrArg (·.2.2.1) h) (congrArg (·.2.2.2) h)
def vc(i:Nat)(h:Tf X i x .cell:=by exact rfl):PE X (.Name x pos) (tR i):=pv i (congrArg (·.1) h) (.inr (.inl (congrArg (·.2.1) h))) (congrArg (·.2.2.1) h) (congrArg (·.2.2.2) h)
def vf(i:Nat)(h:Tf X i x .free:=by exact rfl):PE X (.Name x pos) (tR i):=pv i (congrArg (·.1) h) (.inr (.inr (congrArg (·.2.1) h))) (congrArg (·.2.2.1) h) (congrArg (·.2.2.2) h)
def vZ(X:Cx)(e:Expr):Prop:=∀es,starEach (e::es) X.env=(false,eval e X.env)::starEach es X.env
def a1(b:PE X a ta)(h:vZ X a:=by exact λ_=>rfl):PA X [a] (mX ta Bv):=BW b dh (h _)
def a2(d:PE X a ta)(c:PE X b tb)(h:vZ X a:=by exact λ_=>rfl)(h2:vZ X b:=by exact λ_=>rfl):PA X [a,b] (mX ta (mX tb Bv)):=BW d (a1 c h2) (h _)
def ac(b:PE X a ta)(c:PA X es t)(h:vZ X a:=by exact λ_=>rfl):PA X (a::es) (mX ta t):=BW b c (h _)
def xt(b:PE X a ta):PE X (.Subscript a (.Constant (.int i) j p) pos) (rV (Fh) ta (tC (.int i))):=jI Iu b aE (λ_ _=>rfl)
def xl(b:PE X a ta):PE X (.Subscript a (.Constant (.int i) j p) pos) (rV (Ci) ta (tC (.int i))):=jI DI b aE (λ_ _=>rfl)
def xa(d:PE X a ta)(c:PE X b tb)(e:ia b:=by exact λ_ _=>rfl):PE X (.Subscript a b pos) (rV (KA) ta tb):=jI BM d c e
def xi(d:PE X a ta)(c:PE X b tb)(e:ia b:=by exact λ_ _=>rfl):PE X (.Subscript a b pos) (rV (Ci) ta tb):=jI DI d c e
def xu(d:PE X a ta)(c:PE X b tb)(e:ia b:=by exact λ_ _=>rfl):PE X (.Subscript a b pos) (rV (Fh) ta tb):=jI Iu d c e
def ce(e:de X (compareOp op) r)(d:PE X a ta)(c:PE X b tb)(f:behindInMarks op b=false:=by exact rfl):PE X (.Compare a [op] [b] pos) (rV r ta tb):=Qy e d c f
def ck(e:de X (compareOp op) r)(d:PE X a ta)(c:PE X b tb)(f:behindInMarks op b=false:=by exact rfl):PT X (.Compare a [op] [b] pos) (vN (rV r ta tb)):=Qt e d c f
structure cM(P:Program)(w:World)(K:PySem.W.Frag)(mg:UK->Option MD)(base:Heap)(k:Nat)(x:UK)(ps:List UK)(sp:Sp):Prop where
 out:∃f fd,h9 P w K mg base i8 k f fd ps sp/\mg x=!(.ref f)/\PySem.W.keepIn K (.ref f)=true/\Binds K fd ps []
variable {k n:Nat}{x:UK}{ps:List UK}{sp:Sp}
def cl(F:cM X.prog X.w X.K X.mg X.base k x ps sp)(h:bI n X.A)(g:PA X (e::es) t)(d:k<=n:=by decide)(hg:Gl X x:=by exact rfl)(a:(x==("__debug__":UK))=false:=by exact rfl)(j:vZ X e:=by exact λ_=>rfl)(b:(backTo pos (starEach es X.env)).any (·.1)=false:=by exact rfl) : PE X (.Call (.Name x p) (e::es) [] pos) (zb sp [] E0 t):=do _;{f,fd,F,l,c,i}:=F.out;QF F (h.mono d) hg l c i .nil Hc g a (j _) b
def cb{id:String}{r:List V->Hp->VK->Prop}(d:cI X (.builtin id) r)(f:X.mg x=none)(h:bootBuiltins x=!(.builtin id))(c:PA X (e::es) t)(hg:Gl X x:=by exact rfl)(hn:x≠"__name__":=by decide)(a:(x==("__debug__":UK))=false:=by exact rfl)(g:vZ X e:=by exact λ_=>rfl)(b:(backTo pos (starEach es X.env)).any (·.1)=false:=by exact rfl):PE X (.Call (.Name x p) (e::es) [] pos) (G8 r t):=Q2 d hg f h c hn a (g _) b
def cy(d:cI X (.type T) r)(f:X.mg x=none)(h:bootBuiltins x=!(.type T))(c:PA X (e::es) t)(hg:Gl X x:=by exact rfl)(hn:x≠"__name__":=by decide)(a:(x==("__debug__":UK))=false:=by exact rfl)(g:vZ X e:=by exact λ_=>rfl)(b:(backTo pos (starEach es X.env)).any (·.1)=false:=by exact rfl):PE X (.Call (.Name x p) (e::es) [] pos) (G8 r t):=Pk d hg f h c hn a (g _) b
def sn(b:X.N.Nodup)(i:Nat)(d:PE X e te)(hi:X.N[i]?=!x:=by exact rfl)(a:X.env.scope.names.lookup x=some .local:=by exact rfl)(c:swapsWith e (!(.Name x pos')) pos.line X.env=pure false:=by exact rfl):PS X (.Assign [.Name x pos'] e pos) (uV te (cQ i)):=Mi b hi (.inl a) d c (.inr a)
def sm(d:X.N.Nodup)(i:Nat)(f:PE X e te)(hi:X.N[i]?=!x:=by exact rfl)(c:X.env.scope.names.lookup x=some .cell:=by exact rfl)(b:swapsWith e (!(.Name x pos')) pos.line X.env=pure false:=by exact rfl)(a:X.fn x=true:=by exact rfl):PS X (.Assign [.Name x pos'] e pos) (uV te (cQ i)):=Mi d hi (.inr c) f b (.inl a)
def gn(b:X.N.Nodup)(i:Nat)(hi:X.N[i]?=!x:=by exact rfl)(a:X.env.scope.names.lookup x=some .local:=by exact rfl):PG X (.Name x pos) (cQ i):=cZ b hi (.inl a) (.inr a)
def gm(b:X.N.Nodup)(i:Nat)(hi:X.N[i]?=!x:=by exact rfl)(c:X.env.scope.names.lookup x=some .cell:=by exact rfl)(a:X.fn x=true:=by exact rfl):PG X (.Name x pos) (cQ i):=cZ b hi (.inr c) (.inl a)
def gt{k:Nat}(h:GH X es u)(b:X.calm=true:=by exact rfl)(hn:(assignEach es X.env).length=n:=by exact rfl)(a:(assignEach es X.env).findIdx? (·.1)=none:=by exact rfl):PG X (.Tuple es k pos) (wH n u):=lB b h hn a
def fo{tg a:Expr}{b:List Stmt}{c:TI}{g:TG}{tb:TS}(hi:PI X tg a c)(hg:PG X tg g)(e:jD X b tb)(hp:PassesOwn 37 X.A X.env X.xe:=by exact PassesOwn.never)(d:X.calm=true:=by exact rfl)(f:∀x,foldedSetIterable a X.env x=pure x:=by exact λ_=>rfl):PS X (.For tg a b [] pos) (E8 c g tb):=Ew hp d hi hg e f
def il{tl:TE}(a:PE X l tl):PI X tg l (Av tl):=N_ a
def bm{o:Expr}{to:TE}{name:UK}{T id:String}{apos:Pos}{r:V->List V->Hp->VK->Prop}(i:PlainAttrs T)(slot:Slot T name id)(f:typeOf (.builtin id)=pure (.type "method_descriptor"))(k:JO X id r)(j:PE X o to)(g:PA X (e::es) t)(b:attributeBase o name X.env (eval o X.env)=eval o X.env:=by exact rfl)(d:((backTo pos (starEach (e::es) X.env)).all (λx=>not x.1)&&(backToKw pos (keywordEach [] X.env)).all (λx=>x.1.isSome)&&decide ((e::es).length+([]:List Keyword).length+(if([]:List Keyword).isEmpty then 0 else 1)<30))=true:=by exact rfl)(c:(apos.endLine==pos.line)=true:=by exact rfl)(h:vZ X e:=by exact λ_=>rfl)(a:(backTo pos (starEach es X.env)).any (·.1)=false:=by exact rfl) : PE X (.Call (.Attribute o name apos) (e::es) [] pos) (N2 T r to t):=M4 i slot f k j g b d c (h _) a
def ap{to:TE}(g:PE X o to)(d:PA X [e] t)(a:attributeBase o "append" X.env (eval o X.env)=eval o X.env:=by exact rfl)(f:vZ X e:=by exact λ_=>rfl)(c:((backTo pos (starEach [e] X.env)).all (λx=>not x.1)&&(backToKw pos (keywordEach [] X.env)).all (λx=>x.1.isSome)&&decide (([e]:List Expr).length+([]:List Keyword).length+(if([]:List Keyword).isEmpty then 0 else 1)<30))=true:=by exact rfl)(b:(apos.endLine==pos.line)=true:=by exact rfl):PS X (.Expr (.Call (.Attribute o "append" apos) [e] [] pos) p2) (zQ (N2 "list" pz to t)) := rG (bm PySem.F.plainAttrs_list PySem.F.slot_list_append PySem.F.type_list_append Qc g d a c b f rfl)
def UE{y:UK}:[y].Nodup:=zv.mpr {List.not_mem_nil,wv}
def BG(a:bI n X.A):de X (compareOp .Eq) (xA 64 false):=FH (L9 a)
def vR(a:bI n X.A):de X (compareOp .NotEq) (xA 64 true):=Ee (L9 a)
def inD(a:bI n X.A):de X (compareOp .In) (Mb 63 false):=Bq (Rq a)
def T6(a:bI n X.A):de X (compareOp .Eq) (jO):=Qf a.vM
def Nv(a:bI n X.A):JO X "list.index" (oU 61):=OE (uK a)
def T3(a:bI n X.A):JO X "list.count" (pM 61):=Oy (uK a)
def Km{l kp:Pos}(F:cM X.prog X.w X.K X.mg X.base k y ps sp)(j:bI n X.A)(s:X.mg x=none)(q:bootBuiltins x=!(.builtin "sorted"))(i:PA X [e] t)(h:k+1<=n:=by decide)(hg:Gl X x:=by exact rfl)(g:Gl X y:=by exact rfl)(b:ps.length=1:=by exact rfl)(hn:x≠"__name__":=by decide)(a:(x==("__debug__":UK))=false:=by exact rfl)(c:(y==("__debug__":UK))=false:=by exact rfl)(r:vZ X e:=by exact λ_=>rfl):PE X (.Call (.Name x p) [e] [{!"key",.Name y l,kp}] pos) (G8 (iI sp) t):=do _;{f,fd,F,d,o,m}:=F.out;Su F (j.mono h) hg s q g d m b i hn a c (r _)
def GQ{y:UK}{f:Pos}{a e:Expr}{c:List Expr}{b:Scope}{g:TI}{tt:TT}{te:TE}(hi:PI X (.Name y f) a g)(i:∀s H d,yF (bB X [y] b [] s H d) c tt)(k:∀s H d,PE (bB X [y] b [] s H d) e te)(h:X.calm=true:=by exact rfl)(S:gE b:=by exact{O,∅,∅})(C:lN X b [] []:=by exact jE ∅)(hg:∀s H d,PG (bB X [y] b [] s H d) (.Name y f) (cQ 0):=by exact λ_ _ _=>cZ (UE) rfl (.inl rfl) (.inr rfl))(j:∀x,foldedSetIterable a X.env x=pure x:=by exact λ_=>rfl) : PE X (.ListComp e [{.Name y f,a,c,0}] b pos) (NT [y] [] g (cQ 0) tt te):=jC (own:=[y]) (fr:=[]) h hi S C hg (λ_=>q_ rfl) i k j
def m2(a:Scope)(N:List UK)(fr:List (UK×Nat)){y:UK}{o:Pos}{d k:Expr}{j:List Expr}{b:Scope}{q:TI}{tt:TT}{te:TE}(hi:PI X (.Name y o) d q)(v:∀s H m,yF (bB X (y::fr.map (·.1)) b (nB X.env b.names []) s H m) j tt)(z:∀s H m,PE (bB X (y::fr.map (·.1)) b (nB X.env b.names []) s H m) k te)(t:X.calm=true:=by exact rfl)(S:gE b:=by exact{O,∅,∅})(h1:X.env.scope=a:=by exact rfl)(h2:X.N=N:=by exact rfl)(r:∀x,X.env.kindOf x=some .cell->∃c,X.env.cells.lookup x=!c:=by exact λ_ h=>g_ h)(f:∀y∈b.names,y.2≠.cell:=by decide +kernel)(g:∀y∈b.names,y.2=.free->a.names.lookup y.1=some .cell:=by decide +kernel)(l:∀p∈fr,N[p.2]?=!p.1/\a.names.lookup p.1=some .cell/\(relabel b {scope:=a,locals:=0,globals:=0,cells:=[]}).names.lookup p.1=some .cell:=by decide +kernel)(n:(y::fr.map (·.1)).Nodup:=by decide +kernel)(u:(relabel b {scope:=a,locals:=0,globals:=0,cells:=[]}).names.lookup y=some .local:=by decide +kernel)(w:∀x,foldedSetIterable d X.env x=pure x:=by exact λ_=>rfl) : PE X (.ListComp k [{.Name y o,d,j,0}] b pos) (NT [y] fr q (cQ 0) tt te):=do i:(relabel b X.env).names.lookup y=some .local:=(do e:relabel b X.env=relabel b {scope:=a,locals:=0,globals:=0,cells:=[]}:=(by unfold relabel Env.kindOf;rw[h1]);[e];u);jC (own:=[y]) (fr:=fr) t hi S (mU a N h1 h2 r f g l) (λ_ _ _=>cZ n rfl (.inl i) (.inr i)) (λ_=>q_ rfl) v z w
end
structure FO(K:PySem.W.Frag)(mg:UK->Option MD)(x:UK)(st:Stmt):Prop where
 out:∃f fd,D5 K x x st f fd/\mg x=!(.ref f)
def aO{P:Program}{w:World}{K:PySem.W.Frag}{mg:UK->Option MD}{base:Heap}{x:UK}{st:Stmt}{N ps:List UK}{k:Nat}{sp:Sp}(F:FO K mg x st)(S:aA N ps (ah st))(g:∀{kV c e:MD}{h:Option UJ}{a d:MD}(us:List MD),us.length=ps.length->bindArgs (PySem.W.fnOf x x (cc st) (bK st) (ah st) .none kV c e h a d) {us,[]}=pure (ps.zip us))(len:∀vs H Q E,sp vs H Q E->vs.length=ps.length)(b:∀(f:UJ) (a:MD) (A:Around) (outer:List Env) (s:UH) (H:Hp) (vs:List V) (Q:VK) (E:XK),bI k (A.deeper (envOfC x (ah st) ↑s f a))->sp vs H Q E-> ∃t,jD (lD i8 P w K mg base N x (ah st) f a A outer s H E).yM (bK st) t/\t {nx:=λ_ H'=>Q .aV H',rt:=Q} (start N vs) H):cM P w K mg base (k+1) x ps sp:=do _;{f,fd,F,i}:=F.out;{f,fd,F.ok S len (b f),i,F.kp,F.binds g}
inductive FX(K:PySem.W.Frag)(n:UK)(s:Stmt):Prop
 |mk{a:UJ}{od an:Option UJ}{sl:Array (Option MD)}{oc kV dc pm cd ct:MD}(z1:PySem.W.nsIn K mainGlobals n=!(!(.ref a)))(z2:K.lookup a=some ⟨oc,od,.func (PySem.W.fnOf n n (cc s) (bK s) (ah s) .none kV dc pm an cd ct),sl⟩)(z3:PySem.W.codeIn K cd n=true)(z4:PySem.W.keepIn K (.ref a)=true)
def FX.fo{K:PySem.W.Frag}{n:UK}{s:Stmt}{h:Heap}{mg:UK->Option MD}(f:FX K n s)(X:K.In h)(G:h.Ns mainGlobals mg):FO K mg n s:=do _;{b,d,c,a}:=f;{_,_,Hi (st:=s) d c a,PySem.W.mg_of X G b}
def fR(o:Obj)(xs:List V):Bool:=match o with|⟨.type t,none,.seq its _,_⟩=>t=="tuple"&&decide (its.toList.map nM=xs.map some)|_=>false
def AY(K:PySem.W.Frag)(c:UJ×List V):Bool:=match K.lookup c.1 with|some o=>fR o c.2&&Nat.ble c.2.length 1000|none=>false
def QV(h:nM u=!x):RelV x u:=by cases u <;> simp only[nM,Option.some.injEq,reduceCtorEq]at h <;> subst h <;> first|rfl|exact⟨_,O⟩
theorem IR:∀{us:List MD} {xs:List V},us.map nM=xs.map some->aK xs us|[],[],_=>.nil|u::us,x::xs,h=>do h<-[zm,zm];(by injection h with h1 h2);.cons (QV h1) (IR h2)
def N0(e:h.get? b=!o)(t:fR o xs=true)(a:xs.length<=sizeLine):a0 P w H h b (.tup xs):=do _;{c,d,dt,sl}:=o;by unfold fR at t;cases c with|type ty=>(cases d with|none|some _=>?_;(cases dt with|seq its n=>(have t:(ty=="tuple"&&decide (its.toList.map nM=xs.map some))=true:=t;rw[zn]at t;have f:ty = "tuple":=(do 0<|t.1);subst f;exact{a,its.toList,IR (qN t.2),_,e,O,n,do 0})|_=>exact absurd t qx);exact absurd t qx)|_=>exact absurd t qx
def Rr{P:Program}{w:World}{K:PySem.W.Frag}{mg mb:UK->Option MD}{CX:vY}{k:Nat}{fa a:UJ}{fd:FuncData}{x:UK}{sp:Sp}{c:UH}{vs:List MD}{ns:List Int}{Ps:List UJ}{M:UJ->Option (List V)}(KX:K.In c.heap)(hns:c.heap.Ns mainGlobals mg)(j:c.heap.Ns builtinsNs mb)(hbb:∀x:UK,x≠"__name__"->mb x=bootBuiltins x)(Z:c.heap.NoLimit)(hg:c.gens=#[])(hnt:noTabs K=true)(hnl:tK K=true)(B:∀Q∈Ps,c.heap.get? Q=!(tabObj #[])/\isCodeTable c.heap Q)(hbm:∀Q∈Ps,c.heap.BuiltinsAt mg Q)(L:∀b xs,M b=!xs->∃o,K.lookup b=!o/\fR o xs=true/\xs.length<=sizeLine)(X:c.heap.get? a=some {cls:=.type "list",data:=.seq vs.toArray})(hi:IntsAre vs ns)(hl:ns.length<=sizeLine)(hr:bI k callerA)(F:∀base:Heap,K.In base->base.Ns mainGlobals mg->(∀Q∈Ps,base.BuiltinsAt mg Q)->h9 P w K mg base CX k fa fd [x] sp)(T:∀(s:UH) (u:MD),BindsTo s fd {[u],[]} [(x,u)])(hsp:∀H:Hp,uI Ps M H->aD H a (ns.map V.int)->sp [.ref a] H (λv _=>v=.bl true) λ_ _ _=>False)(hCX:∀H e s',CX [] H c (λ_ _ _=>False) e s'->False) : codeAny (model P w) callerA (.call (.ref fa) {[.ref a],[]}) (λr s'=>r=.ok (.ret (.bool true))/\OldK c.heap s'.heap/\s'.os=c.os/\AllBare s'.gens) c:=do rv:=Mr hi;lenV:=hi.length;naP:a∉Ps:=λz=>(do this:=(B a z).1;this<-[X];-this);kP:∀Q∈Ps,K.lookup Q=none:=λQ hQ=>(do(by cases q:K.lookup Q with|none|some o=>?_);2;e:=KX Q o q;e<-[(B Q hQ).1];-e;h2:=my.mp hnt (Q,_) (mem_of_lookupK q);absurd (show false=true from h2) qx);mP:∀b xs,M b=!xs->b∉Ps:=λb xs e z=>(do _;{o,h1,_}:=L b xs e;h1<-[kP b z];-h1);ma:M a=none:=(do(by cases q:M a with|none|some xs=>?_);2;{o,h1,h2,_}:=L a xs q;e:=KX a o h1;e<-[X];-e;h2:(("list"=="tuple")&&decide (vs.toArray.toList.map nM=xs.map some))=true:=h2;h2<-[zn];absurd h2.1 ⋯);Y:∀H:Hp,uI Ps M H->aD H a (ns.map V.int)->df P w H c.heap->(∀b,H b≠none->b=a\/b∈Ps\/∃xs,M b=!xs)->(H a≠none->K.lookup a=none)-> codeAny (model P w) callerA (.call (.ref fa) {[.ref a],[]}) (λr s'=>r=.ok (.ret (.bool true))/\OldK c.heap s'.heap/\s'.os=c.os/\AllBare s'.gens) c:=(do(H,hO,hS,S,hA,hK);(by let H0:Hp:=λb=>if(M b).isSome=true then none else H b);N:∀b,H b=none->H0 b=none:=λb e=>(do¬(if(M b).isSome=true then none else H b)=none;3;2;e);H0m:∀b xs,M b=!xs->H0 b=none:=λb xs e=>(do¬(if(M b).isSome=true then none else H b)=none;[e];2);f:∀{b:UJ} {o:Obj},c.heap.get? b=!o->H0 b=none->(iv c.heap H0).get? b=!o:=λe n=>S8 e n;p:∀{b:UJ} {o:Obj},c.heap.get? b=!o->(∀xs y,o.data≠.seq xs y)->o.data≠.fields #[]->H b=none:=λ{b o} e d1 d2=>(do(by cases q:H b with|none|some u=>?_);2;e'||e'||{xs,e'}:=hA b (do[q];0);!e';e<-[X];-e;absurd rfl (d1 _ _);e<-[(B b e').1];-e;absurd rfl d2;{_,z}||{_,ys,_,z}||{_,z,_}:=hO b;absurd (by assumption) (mP b xs e');{_,its,_,o',ho',_,n,hd'}:=(show a0 P w H c.heap b (.tup ys) from S b _ z);ho'<-[e];-ho';absurd hd' (d1 _ _);z<-[e'];-z);G:∀{b:UJ} {m:UK->Option MD},c.heap.Ns b m->(iv c.heap H0).Ns b m:=λ{b m} ⟨o,es,ep,e,d,r⟩=>{o,es,ep,f e (N _ (p e (λxs y z=>do z<-[d];-z) (λz=>do z<-[d];-z))),d,r};hKb:K.In (iv c.heap H0):=λb o e=>f (KX b o e) (do(by cases q:H b with|none|some u=>?_);N b q;e'||e'||{xs,e'}:=hA b (do[q];0);!e';e<-[hK (do[q];0)];-e;e<-[kP b e'];-e;H0m b xs e');hBb:∀Q∈Ps,(iv c.heap H0).BuiltinsAt mg Q:=λQ hQ=>(do _;{bm,ob,b1,b2,b3,b4,b5,b6,b7,b8}:=hbm Q hQ;{bm,ob,b1,b2,b3,b4,f b5 (N _ (p b5 (λxs y z=>do z<-[b8];-z) (λz=>do z<-[b8];-z))),b6,b7,b8});hM:Mod K mg (iv c.heap H0):={hKb,G hns,{mb,G j,hbb},let⟨mc,h1,h2⟩:=Z;{mc,G h1,h2}};hbs:∀b o,(iv c.heap H0).get? b=!o->c.heap.get? b=!o/\(H b=none\/∃xs,H b=!(.tup xs)):=λb o e=>(do _;{h1,h2}:=NY e;{h1,?_};{E,z}||{_,xs,_,z}||{_,z,_}:=hO b;D:(if(M b).isSome=true then none else H b)=none:=h2;mb:M b=none:=(do(by cases q:M b with|none|some xs=>?_);2;absurd E (mP b xs q));D<-[mb,qB ⋯,z];-D;.inr {xs,z};D:(if(M b).isSome=true then none else H b)=none:=h2;D<-[z,qB ⋯];.inl D);e0:hG P w K mg (iv c.heap H0) callerA [] c H:={O,hM,hbs,Nat.le_of_eq (Ry _ _),trivial,λb j=>absurd (show b∈([]:List UJ) from j) (do 0),S,.of_eq hg};codeAny_mono ((F _ hKb (G hns) hBb).run callerA [] c H {[.ref a],[]} [.ref a] [.ref a] _ _ hr e0 (T c (.ref a)) (.cons rfl .nil) (hsp H hO hS)) λr s' h=>?_;(by cases r with|error e|ok fl=>?_);(hCX H e s' h).elim;(by cases fl with|next|brk|cont|ret u=>?_);False.elim h;False.elim h;False.elim h;{v,H',os,bare,un,J,r',q}:=h;q':v=.bl true:=q;!q';(by obtain rfl:u=Value.bool true:=r');{O,{λb o e=>?_,λb o e=>un.there b o e (do 0)},os,bare};{E,z}||{_,xs,_,z}||{_,_,z||{ob,xs,z}}:=hO b;{more,z2}:=un.dW b _ z;e2:s'.heap.get? b=some {cls:=.none,data:=.fields (#[]++more)}:=J b _ z2;e<-[(B b E).1];-e;.inr (.inl {(B b E).2,O,#[],more,O,e2});.inl (un.dO b o xs e z);.inl (un.keep b o e z (do(y);absurd (show b∈([]:List UJ) from y) (do 0)) (do 0));z2:=un.dR b ob _ z;{e1,_}:=S b _ z;{e2,_}:=J b _ z2;e1<-[e];-e1;.inl e2);t:∀i:Option HO,(∀u,i=!u->a0 P w (λb=>if b∈Ps then some (.cn #[]) else match M b with|some xs=>!(.tup xs)|none=>if b=a then i else none) c.heap a u)-> df P w (λb=>if b∈Ps then some (.cn #[]) else match M b with|some xs=>!(.tup xs)|none=>if b=a then i else none) c.heap:=λi U b u z=>(do j<|b∈Ps;z':=(qE j).symm.trans z;-z';(B b j).1;R:=(qB j).symm.trans z;(by cases I:M b with|some xs|none=>?_);R<-#[_,I];-R;{o,h1,h2,h3}:=L b xs I;N0 (KX b o h1) h2 h3;R<-#[_,I];g<|b=a;R<-[qE g];!g;U u R;R<-[qB g];-R);l:∀i:Option HO,(i=none\/∃o xs,i=!(.du o (.lst xs)))->uI Ps M (λb=>if b∈Ps then some (.cn #[]) else match M b with|some xs=>!(.tup xs)|none=>if b=a then i else none):=λi U b=>(do j<|b∈Ps;.inl {j,qE j};(by cases I:M b with|some xs|none=>?_);.inr (.inl {j,xs,O,(qB j).trans (do#[_,I])});.inr (.inr {j,O,?_});g<|b=a;this:(if b∈Ps then some (.cn #[]) else match M b with|some xs=>!(.tup xs)|none=>if b=a then i else none)=i:=(qB j).trans (do#[_,I];[qE g]);z||{o,xs,z}:=U;.inl (this.trans z);.inr ⟨o,xs,this.trans z⟩;.inl ((qB j).trans (do#[_,I];[qB g])));A:∀i:Option HO,∀b,(if b∈Ps then some (.cn #[]) else match M b with|some xs=>!(.tup xs)|none=>if b=a then i else none)≠none->b=a\/b∈Ps\/∃xs,M b=!xs:=λi b z=>(do j<|b∈Ps;.inr (.inl j);(by cases I:M b with|some xs|none=>?_);.inr (.inr {xs,O});g<|b=a;.inl g;absurd ((qB j).trans (do#[_,I];[qB g])) z);C:∀i:Option HO,(if a∈Ps then some (.cn #[]) else match M a with|some xs=>!(.tup xs)|none=>if a=a then i else none)=i:=λi=>(qB naP).trans (do#[_,ma];qE trivial);(by cases hk:K.lookup a with|some o|none=>?_);e:=KX a o hk;e<-[X];-e;(RW hnl hk).elim;Y _ (l (!(.du {cls:=.type "list",data:=.seq vs.toArray} (.lst (ns.map V.int)))) (.inr {_,_,O})) (.inr {{cls:=.type "list",data:=.seq vs.toArray},C _}) (t _ λu z=>do-z;{X,do[qh];hl,vs,_,rv,X}) (A _) λ_=>hk
def uW{l:PySem.W.OpenLaw}{n k:Nat}{q:Program}{r:List UK}{XP:(UK->Option MD)->Heap->Prop}{U:World->Heap->Prop}{d:DefRec}{K:Params->PySem.W.Frag}{CX:vY}{sp:Sp}{x:UK}{Ps:List UJ}(ts:List UK)(ms:List (UJ×List V))(tb:UK->UJ)(hn:l.most=!n)(hn2:n<=sizeLine)(N:d.params.defaults=[])(hr:bI k callerA)(hY:∀(w:World) (h:Heap),U w h->(K w.params).In h)(hYT:∀(w:World) (h:Heap),U w h->∀Q∈Ps,h.get? Q=!(tabObj #[]))(hC:∀w:World,∀Q∈Ps,∃t∈ts,codeHdIn (K w.params) (O0 (K w.params) t) Q=true)(Z:∀w:World,noTabs (K w.params)=true)(hnl:∀w:World,tK (K w.params)=true)(htb:∀w:World,∀t∈ts,oD (K w.params) t=tb t)(y:∀w:World,∀t∈ts,oD (K w.params) t∈Ps)(hms:∀w:World,(ms.all λc=>AY (K w.params) c)=true)(S:(ms.map (·.1)).Nodup)(F:∀(w:World) (mg:UK->Option MD) (fa:UJ) (h:Heap),(K w.params).In h->h.Ns mainGlobals mg->mg d.name=some (.ref fa)-> ∃fd:FuncData,(∀(s:UH) (u:MD),BindsTo s fd {[u],[]} [(x,u)]) ∧ ∀base:Heap,(K w.params).In base->base.Ns mainGlobals mg->(∀t∈ts,base.BuiltinsAt mg (oD (K w.params) t))->h9 l.prog w (K w.params) mg base CX k fa fd [x] sp)(hsp:∀(H:Hp) (a:UJ) (ns:List Int),ns.length<=n->(∀t∈ts,H (tb t)=!(.cn #[]))->(∀c∈ms,H c.1=!(.tup c.2))->aD H a (ns.map V.int)->sp [.ref a] H (λv _=>v=.bl true) λ_ _ _=>False)(R:∀(H:Hp) (s:UH) (e:MD) (s':UH),CX [] H s (λ_ _ _=>False) e s'->False) : PySem.W.WalkO q r XP U l.row.toRowW d [] (λf vs=>PySem.call f vs):=do Att.lJ hn N λw s₀ j mg mb fa o pm cd doc a vs ns G Y ho hd hcd L B p m hg=>?_;J:=hY w _ Y;{fd,hb,hF}:=F w mg fa _ J G.T.g L;I:=hYT w _ Y;X:∀Q∈Ps,j.heap.BuiltinsAt mg Q:=λQ D=>(do _;{bm,ob,b1,b2,A,b4,b5,b6}:=G.T.bmain;{bm,ob,b1,b2,λq=>?_,λq=>?_,A,b4,b5,b6};{o,es,ep,e,hd,_}:=G.T.g;A<-[q,e];-A;b6<-[hd];-b6;A<-[q,I Q D];-A;-b4);(by let M:UJ->Option (List V):=λb=>(ms.find? λc=>decide (c.1=b)).map (·.2));P:∀b xs,M b=!xs->(b,xs)∈ms:=λb xs e=>(do _;{c,i,rfl}:=wu.mp e;h1:c.1=b:=(do 0<|List.find?_some i);[<-h1];mz i);C:∀c∈ms,M c.1=!c.2:=λc i=>(do go:∀(l:List (UJ×List V)),(l.map (·.1)).Nodup->c∈l->(l.find? λd=>decide (d.1=c.1)).map (·.2)=!c.2:=λl=>(do(by induction l with|nil|cons d l ih=>?_);(_,z);-z;(nd,hm);nd<-[zm,zv];[vd];h<|d.1=c.1;[qH h];z||z:=qt.mp hm;[z];2;absurd (h▸qc.mpr {c,z,O}:d.1∈l.map (·.1)) nd.1;[decide_eq_false h];z||z:=qt.mp hm;absurd (do[z]) h;ih nd.2 z);go ms S i);look:∀c∈ms,∃o,(K w.params).lookup c.1=!o/\fR o c.2=true/\c.2.length<=sizeLine:=λc i=>(do h:=my.mp (hms w) c i;(by unfold AY at h;cases q:(K w.params).lookup c.1 with|none|some o=>?_);h<-[q];absurd h qx;h<-[q];h:(fR o c.2&&Nat.ble c.2.length 1000)=true:=h;h<-[zn];{o,O,h.1,wx (cH (jz h.2))});Rr (M:=M) J G.T.g G.T.b G.T.builtins G.T.nolimit hg (Z w) (hnl w) (λQ D=>{I Q D,(((codeHd_of_K J (hC w Q D).choose_spec.2)).tab (I Q D)).isCodeTable}) X (λb xs e=>look _ (P b xs e)) B p (qf m hn2) hr (λbase h1 h2 h3=>hF base h1 h2 λt E=>h3 _ (y w t E)) hb (λH hO hS=>hsp H a ns m (λt E=>htb w t E▸?_) (λc i=>?_) hS) λH e s'=>R H j e s';z||z||z:=hO (oD (K w.params) t);z.2;absurd (y w t E) z.1;absurd (y w t E) z.1;z||{_,ys,hy,z}||{_,z,_}:=hO c.1;{o,h1,h2,_}:=look c i;e:=J _ _ h1;e<-[I _ z.1];-e;absurd h2 qx;hy<-[C c i];-hy;z;z<-[C c i];-z
def GU(b cl:Nat)(q:UK)(P:UJ)(i:Nat)(tb:TE)(t:TA):TE:=λσ H Q=>t σ H λvs H1=>Tb b cl q P H1/\∀H2,Tb b cl q P H2->ag (del H1 P) (del H2 P)->∃a,σ[i]?=!(!a)/\iI (λvs H Q _=>∃y,vs=[y]/\tb [!y,!a] H Q) vs H2 Q
section
variable {X:Cx}{k:Nat}
def SS{p r kp pos:Pos}(F:X.env.code=.ref c)(hC:codeHdIn X.K c P=true)(hB:X.base.BuiltinsAt X.mg P)(W:bI (k+2) X.A)(hg:Gl X x)(hm:X.mg x=none)(hv:bootBuiltins x=!(.builtin "sorted"))(S:pI y z b)(hN:X.N[i]?=!z)(hk:X.env.kindOf z=some .cell)(hX:∀x,X.env.kindOf x=some .cell->∃c,X.env.cells.lookup x=!c)(hcm:X.calm=true)(Z:X.fn z=true)(G:∀cl pm cd O x,bindArgs (kla_fn "<lambda>" (X.env.qual++"<lambda>") d m b cl pm cd O) {[x],[]}=pure [(y,x)])(hb:∀cl f cd A outer s H,bI k (ir X.prog X.w X.K X.mg X.base y z (X.env.qual++"<lambda>") b cl f cd A outer s H).A->PE (ir X.prog X.w X.K X.mg X.base y z (X.env.qual++"<lambda>") b cl f cd A outer s H) m tb)(ha:PA X [e] t)(M:defaultsOf d X.env=([],[]):=by rfl)(hn:x≠"__name__":=by decide)(hdb:(x==("__debug__":UK))=false:=by decide)(he:starEach [e] X.env=(false,eval e X.env)::starEach [] X.env:=by rfl):PE X (.Call (.Name x p) [e] [{!"key",.Lambda d m b r,kp}] pos) (GU r.line r.col (X.env.qual++"<lambda>") P i tb t):=do _;{?_};(pins,s,σ,H,Q,I,h);{v,j}:=hX z hk;u:∀y∈b.names,y.2=.free->∃c,X.env.cells.lookup y.1=!c:=λn hn e=>(do[S.fr n hn e];{v,j});U:=BF u;J:=xK u (acc:=[]) (λx c e=>do-e);l:∀n a,(nB X.env b.names []).lookup n=!a->n=z/\a=v:=λn a e=>(do q||q:=D_ e;R:n=z:=S.fr _ q rfl;this:=J n a e;this<-[R,j];{R,(qJ this).symm};-q);hzc:(nB X.env b.names []).lookup z=!v:=(do _;{T,L}:=wY (env:=X.env) (acc:=[]) (.inl (PySem.mem_of_lookup S.lz));[L,(l z T L).2]);wpAny_Call_Name_kw (iY I hg hm hv ?_ hn hdb);callWith_kw (bL (ha pos pins s σ H _ I h) λus s1 ⟨vs,H1,I1,r1,hT,q1⟩=>kws_cons (Mm I1 F hC hB hT M U λf T O pm s2 H2 D hT2 V sm hf nf of=>kws_nil ?_)) (do[he];2) (do[he];2);{vz,hσ,q2}:=q1 H2 hT2 sm;{m0,hn1,hl}:=D.loc;{uz,Y,look}:=hl i z vz hN hσ (.inr (.inl hk));g:s2.heap.IsCell v (!uz):=(do _;{kk,_}||{_,c2,C,g}:=look;kk<-[hk];-kk;C<-[j];-C;g);B:=D.dr z v j;mF:v∉d_ X.stack:=D.iO (D.xY z v j) (λhm=>do _;{_,o,ho,_}:=D.ok.eI.mem hm;absurd (zh (qG ho) (D.ok.Af z v Z j)) (wj _));JS (λs' Hm x y Q e0 un same r1 E=>?_) (do this:=W.un;()) D r1 q2;{y',hy,E}:=E;-hy;hcr:s'.heap.CodeRec (.ref T) (X.env.qual++"<lambda>"):=(e0.a9 T _ (same _ _ V)).1;{oc,ec,dc}:=g;HX W.PH e0 (un.keep f _ of hf nf (do 0)) hcr S (G _ _ _ _ _) r1 l hzc {oc,un.keep v _ ec B mF (do 0),dc} (un.free v _ ec B (do 0)) Y (hb _ _ _ _ _ _ _ (W.PH.deeper _)) E
end
abbrev TJ:=St->Hp->UK->(UK->Hp->Prop)->Prop
def PJ(X:Cx)(es:List Expr)(a:TJ):Prop:=∀pins s σ H acc R,Inv X pins σ H s->a σ H acc R-> Joins 37 X.A X.xe (evalEach es X.env) acc (λout b=>∃H1,Inv X pins σ H1 b/\R out H1) s
def Jb:TJ:=λ_ H acc R=>R acc H
def Fu(te:TE)(a:TJ):TJ:=λσ H acc R=>te σ H λx H1=>∃z,x=.str z/\(acc++z).length<=16777216/\a σ H1 (acc++z) R
inductive Qv(Q:VK)(x:V)(H1:Hp):Prop
 |mk(z:_)(_:x=.str z)(_:z.length<=16777216)(_:Q (.str z) H1)
def Uv(te:TE):TE:=λσ H Q=>te σ H λx H1=>Qv Q x H1
def OZ(a:TJ):TE:=λσ H Q=>a σ H Str.empty λout H1=>out.length<=16777216/\Q (.str out) H1
section
variable {X:Cx}
def FU:PJ X [] Jb:=λpins s σ H acc R I h=>{H,I,h}
def Fi(i:PE X e te)(d:PJ X es a):PJ X (e::es) (Fu te a):=do(pins,s,σ,H,acc,R,I,h);qM (i pins s σ H _ I h) (λv c ⟨x,H1,b,g,f⟩=>?_) λ_ _ e=>e;{z,rfl,hz,q}:=f;{t,rfl}:=g;{z,t,O,do[sizeLine_eq];hz,d pins c σ H1 _ R b q}
def He(d:PE X e te):PE X (.FormattedValue e (-1) none pos) (Uv te):=do _;{?_};(pins,s,σ,H,Q,I,h);wpAny_FormattedValue_plain (qM (d pins s σ H _ I h) (λv f ⟨x,H1,a,c,b⟩=>?_) λ_ _ e=>e);{z,rfl,hz,q}:=b;{t,rfl}:=c;wpAny_formatField_str {.str z,H1,a,{_,O},q} {.str z,H1,a.tok _,{_,O},q} (do[sizeLine_eq];hz)
def Gn(f:PJ X (c::a::es) b):PE X (.JoinedStr (c::a::es) pos) (OZ b):=do _;{?_};(pins,s,σ,H,Q,I,h);wpAny_JoinedStr ?_;this:=f pins s σ H _ _ I h;(?_:∀(ps:List (Sem MD)) acc s,Joins 37 X.A X.xe ps acc _ s->Joins 37 X.A X.xe ps acc _ s) _ _ _ this;(ps);(by induction ps with|nil|cons p ps i=>?_);(acc,s,{H1,d,hz,q});{do[sizeLine_eq];hz,.str acc,H1,d.tok _,{_,O},q};(acc,s,h);qM h (λv j h1=>?_) λ_ _ e=>e;{y,t,rfl,hz,g}:=h1;{y,t,O,hz,i _ _ g}
end
section
variable {prog:Program}{w:World}{A:Around}{E:KE}{s:UH}
def PR(a v:MD):checkTypeCall "enumerate" {pos:=[a],kw:=[("start",v)]}=pure Unit.unit:=by first|rfl|kernel_rfl
def RL(a v:MD):checkBuiltinCall "enumerate.__new__" {pos:=[.type "enumerate",a],kw:=[("start",v)]}=pure Unit.unit:=by first|rfl|kernel_rfl
def GO{α:Type}{M:Model}{c:Bool}{a b:Sem α}{Q:α->UH->Prop}(h1:wpAny M A a Q E s)(h2:wpAny M A b Q E s):wpAny M A (if c=true then a else b) Q E s:=do-c;h2;h1
def N5(a x v:MD):argsOk "object.__init__" {pos:=[a,x],kw:=[("start",v)]}:=do@argsOk;[signature?_of (id:="object.__init__") (n:=['_','_','t','i','n','i','_','_']) (o:=['t','c','e','j','b','o']) (by kernel_rfl) F.owner_object];by kernel_rfl
def Rz(c:s.TypeIs (.ref a) "enumerate")(h:Q Unit.unit s):wpAny 66 A (checkBuiltinCall "object.__init__" {pos:=[.ref a,x],kw:=[("start",v)]}) Q E s:=do@checkBuiltinCall;[show builtinKind "object.__init__"=some .slot from by kernel_rfl,show splitId "object.__init__"=some ("object","__init__") from ∅];(by dsimp only);qA (wpAny_isInstance (T:="enumerate") (b:=true) c (by rw[isSubtype_type];kernel_rfl) ?_);[qB ⋯];wpAny_of_eq (N5 _ _ _) h
def OC(a:MD)(kw:List (UK×MD)):Builtin.SmallTypes.newClass "enumerate" {pos:=[.type "enumerate",a],kw:=kw}=pure (.type "enumerate",[a]):=by first|rfl|kernel_rfl
def O_(k:s.heap.IsList l items)(q:∀h',IsEnum h' (↑s+1) ↑s 1 .none->h'.IsListIter ↑s l 0->h'.objs.size=↑s+2->(∀b o,s.heap.get? b=!o->h'.get? b=!o)->Q (.ref (↑s+1)) {s with heap:=h'}) : wpAny 66 A (call (.type "enumerate") [.ref l] [("start",.int 1 tk)]) Q E s:=do d:=F.called_enumerate;{c,tl,f}:=d.mro;wpAny_call (codeAny_of_tree ?_);¬wpAny _ _ (pure _) _ _ s;qF {Code.quiet_builtin _ ∅,codeAny_builtin F.entry_type_call ?_};[Around.under_plain (weight_type_call_type _ _ _) rfl];@Builtin.«type.__call__»;(by dsimp only);[qB (do[d.notType];qx)];[qB (do[d.canCreate];qx)];qA (wpAny_of_eq (PR _ _) ?_);qA (wpAny_of_eq f ?_);[qB (do qx)];qA (wpAny_of_eq d.made ?_);qA (qF (qA (qK (wpAny_call ?_))));codeAny_call_builtin d.plain F.entry_enumerate_new (wpAny_of_eq (RL _ _) ?_);¬wpAny _ A.in1.in1 (Builtin.«enumerate.__new__» {pos:=[Value.type "enumerate",Value.ref l],kw:=[("start",Value.int 1 tk)]}) _ _ s;@Builtin.«enumerate.__new__»;qA (wpAny_of_eq (OC _ _) ?_);(by dsimp only);[qE ⋯];qA ?_;@Builtin.SmallTypes.calledThroughType;qA (wpAny_stack λst _ _ _=>qF ?_);p:∀b o,s.heap.get? b=!o->((s.heap.push {cls:=.type "list_iterator",data:=.fields #[.ref l,.int 0 0]}).push 72).get? b=!o:=λb o e=>qI _ (qI _ e);i:(s.heap.push {cls:=.type "list_iterator",data:=.fields #[.ref l,.int 0 0]}).objs.size=↑s+1:=size_push' _ _;j:((s.heap.push {cls:=.type "list_iterator",data:=.fields #[.ref l,.int 0 0]}).push 72).get? (↑s+1)=some 72:=(do[<-i];qL _ rfl);m:((s.heap.push {cls:=.type "list_iterator",data:=.fields #[.ref l,.int 0 0]}).push 72).IsListIter ↑s l 0:={_,qI _ (qL _ rfl),O,O};n:((s.heap.push {cls:=.type "list_iterator",data:=.fields #[.ref l,.int 0 0]}).push 72).objs.size=↑s+2:=(do[size_push',i]);g:=q _ j m n p;GO ?_ ?_;by all_goals(refine qA (wpAny_of_eq (a:=(Value.ref l,!(Value.int 1 tk))) (by first|rfl|kernel_rfl) ?_);dsimp only;refine qA (wpAny_of_eq (a:=Value.int 1 tk) (do 2) ?_);refine qA (wpAny_of_eq (a:=some 1) (do 2) ?_);dsimp only;rw[qB ⋯];refine qA (wpAny_pyIter_list k ?_);refine qA ?_;show wpAny _ _ (newObj (Value.type "enumerate") (Data.fields #[.none,.bool false,.ref ↑s,rawInt 1,.none,.none])) _ _ _;refine wpAny_newObj_type (qF ?_);show wpAny _ A.in1 _ _ _ {s with heap:=(s.heap.push {cls:=.type "list_iterator",data:=.fields #[.ref l,.int 0 0]}).push 72};rw[i];generalize (s.heap.push {cls:=.type "list_iterator",data:=.fields #[.ref l,.int 0 0]}).push 72=h2 at j g;have h:Shared.TypeIs {s with heap:=h2} (.ref (↑s+1)) "enumerate":={_,j,O};refine qA (wpAny_isInstance h sub_enumerate ?_);rw[qB ⋯];refine qA (qK (wpAny_callSpecial?_slot h d.init ?_));refine wpAny_call (codeAny_call_builtin ∅ F.entry_object_init (Rz h ?_));refine qA (wpAny_typeOf h ?_);refine qA (wpAny_of_eq d.init.lookup ?_);refine qA (wpAny_of_eq d.made ?_);rw[qB ∅,qB ∅];exact qF (qF g))
def jF{k:Nat}(a:s.heap.get? e=some {cls:=c,data:=.fields vs})(f:k<vs.size)(g:∀h',h'.get? e=some {cls:=c,data:=.fields (vs.setIfInBounds k x)}->(∀b,b≠e->h'.get? b=s.heap.get? b)->h'.objs.size=↑s->Q Unit.unit {s with heap:=h'}):wpAny M A (setField (.ref e) k x) Q E s:=do wpAny_setField a rfl f (g _ ?_ (λb d=>Heap.get?_update_other _ _ d.symm) (Heap.size_update ..));Heap.get?_update_self _ a rfl
def NJ(h:Heap)(e it:UJ)(i:Nat):Prop:=∃b c old,h.get? e=some {cls:=.type "enumerate",data:=.fields #[b,.bool c,.ref it,rawInt ((i:Int)+1),.none,old]}/\(b=.none\/∃(a:Nat) (o:Obj),b=rawInt (a:Int)/\h.get? a=!o)
def JU(hh:A.handled=none)(W:s.heap.IsList l items)(t:s.heap.IsListIter it l i)(he:NJ s.heap e it i)(G:e≠it)(n2:l≠e)(n3:l≠it)(hi:i<=items.size)(h1:∀x h' tk,items[i]?=!x->NJ h' e it (i+1)->h'.IsListIter it l (i+1)->h'.get? ↑s=some {cls:=.type "tuple",data:=.seq #[.int ((i:Int)+1) tk,x]}->(∀b o,b≠e->b≠it->s.heap.get? b=!o->h'.get? b=!o)->Q (!(.ref ↑s)) {s with heap:=h',toks:=tk+1})(h2:i=items.size->∀h',Heap.ExtBut it s.heap h'->Q none {s with heap:=h'}):wpAny 66 A (pyNext (.ref e)) Q E s:=do _;{V,J,old,z,hf}:=he;S:s.TypeIs (.ref e) "enumerate":={_,z,O};D:=Draws.list (prog:=prog) (w:=w) (A:=A.in1) hh it l n3 items;@pyNext;qA (wpAny_attempt (wpAny_callSpecial?_slot (name:=Str.ofString "__next__") S F.slot_enumerate_next (qO F.slot_enumerate_next S F.entry_enumerate_next ?_ (F.args_enumerate_next_1 _))));@Builtin.«enumerate.__next__»;qA (wpAny_of_eq (a:=(Value.ref e,[])) rfl ?_);qA (wpAny_field z rfl (x:=.ref it) rfl ?_);L<|i<items.size;qA (D.item i s _ _ L {t,W} λx d tk N st I=>?_);h:d.get? e=some {cls:=.type "enumerate",data:=.fields #[V,.bool J,.ref it,rawInt ((i:Int)+1),.none,old]}:=(I.2 e G).trans z;qA (wpAny_field (s:={s with heap:=d,toks:=tk}) h rfl (x:=rawInt ((i:Int)+1)) rfl ?_);qA (wpAny_field (s:={s with heap:=d,toks:=tk}) h rfl (x:=.none) rfl ?_);(by dsimp only);[qE ⋯];qA (wpAny_mkInt ?_);qA (jF (s:={s with heap:=d,toks:=tk+1}) h (do 0) λY o1 k1 z1=>?_);qA (jF (s:={s with heap:=Y,toks:=tk+1}) o1 (do 0) λk o2 k2 z2=>?_);qA (wpAny_newTuple (s:={s with heap:=k,toks:=tk+1}) ?_);hz:k.objs.size=↑s:=z2.trans (z1.trans I.1);p:(k.push {cls:=.type "tuple",data:=.seq #[.int ((i:Int)+1) tk,x]}).get? ↑s=some {cls:=.type "tuple",data:=.seq #[.int ((i:Int)+1) tk,x]}:=(do[<-hz];qL _ rfl);f:=qI {cls:=.type "tuple",data:=.seq #[.int ((i:Int)+1) tk,x]} o2;v:∀b u,b≠e->d.get? b=!u->(k.push {cls:=.type "tuple",data:=.seq #[.int ((i:Int)+1) tk,x]}).get? b=!u:=λb u R q=>qI _ (((k2 b R).trans (k1 b R)).trans q);¬wpAny _ _ _ _ _ {s with heap:=k.push {cls:=.type "tuple",data:=.seq #[.int ((i:Int)+1) tk,x]},toks:=tk+1};[show Value.ref k.objs.size=Value.ref ↑s by rw[hz]];(by generalize k.push {cls:=.type "tuple",data:=.seq #[.int ((i:Int)+1) tk,x]}=g3 at p f v);n:↑s≠e:=zo (qG z);j:∀c:Heap,(∀b u,b≠e->g3.get? b=!u->c.get? b=!u)->c.IsListIter it l (i+1):=λc q=>(do _;{U,M,ci,di}:=st.1;{U,q _ _ (Ne.symm G) (v _ _ (Ne.symm G) M),ci,di});ks:∀c:Heap,(∀b u,b≠e->g3.get? b=!u->c.get? b=!u)->∀b o,b≠e->b≠it->s.heap.get? b=!o->c.get? b=!o:=λc q b o g C P=>q b o g (v b o g ((I.2 b C).trans P));qA ?_;@Builtin.SmallTypes.ownedTupleIsFree;qA (wpAny_field (s:={s with heap:=g3,toks:=tk+1}) f rfl (x:=V) rfl ?_);rfl||{a,o,rfl,ea}:=hf;qF ?_;[qE rfl];qA (wpAny_rule (qA (wpAny_field (s:={s with heap:=g3,toks:=tk+1}) f rfl (x:=old) rfl ?_)));qA (jF (s:={s with heap:=g3,toks:=tk+1}) f (do 0) λc H K _=>?_);qA (qA (jF (s:={s with heap:=c,toks:=tk+1}) H (do 0) λg5 o5 k5 _=>?_));jF (s:={s with heap:=g5,toks:=tk+1}) o5 (do 0) λX o6 k6 _=>?_;qA (wpAny_letGo (qF {_,O,qF ?_}));y:∀b u,b≠e->g3.get? b=!u->X.get? b=!u:=λb u r q=>((k6 b r).trans ((k5 b r).trans (K b r))).trans q;h1 x X tk N {_,_,_,o6,.inr {_,_,O,y _ _ n p}} (j _ y) (y _ _ n p) (ks _ y);{o',m}:∃o',g3.get? a=!o':=(do g<|a=e;[g];{_,f};C<|a=it;{U,M,_}:=st.1;[C];{_,v _ _ (Ne.symm G) M};{_,v _ _ g ((I.2 _ C).trans ea)});qA (kdx_alive (s:={s with heap:=g3,toks:=tk+1}) (a:=((a:Int)).toNat) m ?_);[qB (do 0)];qA (wpAny_field (s:={s with heap:=g3,toks:=tk+1}) f rfl (x:=.bool J) rfl ?_);(by dsimp only);-J;[qE ⋯];qA (jF (s:={s with heap:=g3,toks:=tk+1}) f (do 0) λc H K _=>qF ?_);[qB ⋯];B:∀b u,b≠e->g3.get? b=!u->c.get? b=!u:=λb u r q=>(K b r).trans q;qF {_,O,qF (h1 x c tk N {_,_,_,H,.inr {a,?_}} (j _ B) (B _ _ n p) (ks _ B))};g<|a=e;[g];{_,O,H};{_,O,B _ _ g m};[qB ⋯];qF ?_;[qB ⋯];qF {_,O,qF (h1 x g3 tk N {_,_,_,f,.inr {a,_,O,m}} (j _ λ_ _ _ q=>q) p (ks _ λ_ _ _ q=>q))};hn:i=items.size:=();!hn;qA (D.done s _ _ {t,W} λh' x Z ⟨o,P,ec⟩=>?_);(by dsimp only);qA (wpAny_isInstance (T:="StopIteration") (b:=true) {o,P,ec} isSubtype_stop ?_);qF (h2 rfl h' Z)
end
section
variable {X:Cx}{pins:List 71}{σ:St}
def nN(H:Hp)(xs zs:List V):Prop:=∀(j:Nat) z,zs[j]?=!z->∃T x,xs[j]?=!x/\z=.ref T/\H T=!(.tup [.int ((j:Int)+1),x])
def nN.mono(h:nN H xs zs)(s:ag H H'):nN H' xs zs:=λj z e=>let⟨T,x,h1,h2,a⟩:=h j z e;{T,x,h1,h2,s _ _ a}
def Ru{e it S l:UJ}(hh:A.in1.handled=none)(n1:e≠it)(n2:l≠e)(n3:l≠it)(n4:S≠e)(T:S≠it)(n6:l≠S) : ∀(k i:Nat) (s:UH) (H:Hp) (zs:List V) (acc:Array MD) (c:Nat),xs.length - i=k->i<=xs.length->Inv X pins σ H s->aD H l xs->NJ s.heap e it i->s.heap.IsListIter it l i->(∀b∈[e,it,S],fC X pins H b)-> s.heap.get? S=!(seqObj "list" acc c)->aK zs acc.toList->zs.length=i->nN H xs zs-> (∀s' H' g f U,Inv X pins σ H' s'->ag H H'->H' S=none->s'.heap.get? S=!(seqObj "list" f U)->aK g f.toList->g.length=xs.length->nN H' xs g->R (.ok (.ret G)) s')-> codeAny 37 A (.builtin "list.extend.loop" {[.ref S,.ref e,G],[]}) R s:=do(k);(by induction k with|zero|succ k ih=>?_);(i,s,H,zs,acc,c,hk,hi,I,M,P,m,t,L,N,hz,hp,hR);{its,K,Z,_}:=I.list M;hl:=K.length;codeAny_builtin F.entry_extend_loop ?_;[Around.under_plainId F.plain_extend_loop _];¬wpAny _ A.in1 (pyNext (.ref e) >>= _) _ _ s;qA (JU hh Z.isList m P n1 n2 n3 (do[zk];()) (λx _ _ hx=>?_) λ_ h' eb=>?_);this:=(Array.getElem?_eq_some_iff.mp hx).1;this<-[zk];();qF (hR {s with heap:=h'} H zs acc c (I.dH (t':=s.toks) (ch:=[it]) (λb d=>t b (do[List.mem_singleton.mp d];0)) λb o d p=>eb b o (λz=>d (do#[z])) p) (ag.refl _) (t S (do 0)).1 (eb _ _ T L) N () hp);(i,s,H,zs,acc,c,hk,hi,I,M,P,m,t,L,N,hz,hp,hR);{its,K,Z,zl}:=I.list M;hl:=K.length;za:acc.size=i:=(do e1:=aK.length N;e2:acc.toList.length=acc.size:=zu;());codeAny_builtin F.entry_extend_loop ?_;[Around.under_plainId F.plain_extend_loop _];¬wpAny _ A.in1 (pyNext (.ref e) >>= _) _ _ s;qA (JU hh Z.isList m P n1 n2 n3 (do[zk];()) (λu h' tk hx W E hT kp=>?_) λhn=>?_);hu:its[i]?=!u:=(do 0<|hx);{x,ex,ru}:∃x,xs[i]?=!x/\RelV x u:=(do y:i<xs.length:=();{u',e',r'}:=K.get (qe y);e'<-[hu];-e';{_,qe y,r'});J:=I.a9.fresh (a:=↑s) (qb _);ob:∀b∈[e,it,S],b<↑s:=λb d=>(do(by ac_nf at d);rfl||rfl||rfl:=d;{_,_,_,q,_}:=P;qG q;{_,q,_}:=m;qG q;qG L);I1:Inv X pins σ H {s with heap:=h',toks:=tk+1}:=I.dH (t':=tk+1) (ch:=[e,it]) (λb d=>t b (by simp only[List.mem_cons,List.not_mem_nil,or_false]at d ⊢;rcases d with h|h <;> simp[h])) λb o d p=>kp b o (λz=>d (do#[z])) (λz=>d (do#[z])) p;I2:=I.iA I1 (qb _) J (o:=.tup [.int ((i:Int)+1),x]) {do¬2<=sizeLine;by decide,[.int ((i:Int)+1) tk,u],.cons {tk,O} (.cons ru .nil),{_,hT,O,_,O}};s2:ag H (upd H ↑s (.tup [.int ((i:Int)+1),x])):=ag.new J;r:∀b∈[e,it,S],fC X pins (upd H ↑s (.tup [.int ((i:Int)+1),x])) b:=λb d=>{do[az (qp (ob b d))];(t b d).1,(t b d).2};eT:(upd H ↑s (.tup [.int ((i:Int)+1),x])) ↑s=!(.tup [.int ((i:Int)+1),x]):=aF;D:h'.get? S=!(seqObj "list" acc c):=kp _ _ n4 T L;(by generalize upd H ↑s (.tup [.int ((i:Int)+1),x])=H2 at I2 s2 r eT);¬wpAny _ A.in1 (Builtin.List.listUpdate (.ref S) (λa=>a.push (.ref ↑s)) >>= _) _ _ _;qA (listUpdate_at (s:={s with heap:=h',toks:=tk+1}) D rfl ?_ () (do[Array.size_push];()));{c1,n}:∃c1,(h'.update S (Obj.mapSeq (·.push (Value.ref ↑s)))).get? S=!(seqObj "list" (acc.push (.ref ↑s)) c1):={_,get?_update_seq D _};B:∀b o,b≠S->h'.get? b=!o->(h'.update S (Obj.mapSeq (·.push (Value.ref ↑s)))).get? b=!o:=λb o d p=>(Heap.get?_update_other _ _ (λz=>d z.symm)).trans p;¬wpAny _ _ _ _ _ {s with heap:=h'.update S (Obj.mapSeq (·.push (Value.ref ↑s))),toks:=tk+1};(by generalize h'.update S (Obj.mapSeq (·.push (Value.ref ↑s)))=h2 at n B);I3:Inv X pins σ H2 {s with heap:=h2,toks:=tk+1}:=I2.dH (s:={s with heap:=h',toks:=tk+1}) (t':=tk+1) (ch:=[S]) (λb d=>r b (do[List.mem_singleton.mp d];0)) λb o d p=>B b o (λz=>d (do#[z])) p;qF {plainId_quiet F.plain_extend_loop _,ih (i+1) _ H2 (zs++[.ref ↑s]) _ c1 () () I3 (M.same s2) ?_ ?_ r n ?_ (do[qg,hz];2) ?_ λs' H' g f U a1 a2 a3 a4 a5 a6 a7=>hR s' H' g f U a1 (s2.trans a2) a3 a4 a5 a6 a7};{f0,f1,old,Y,C}:=W;{f0,f1,old,B _ _ (Ne.symm n4) Y,?_};C||{a,o,q3,q4}:=C;.inl C;z<|a=S;q3<-[z];.inr {S,_,q3,n};.inr {a,o,q3,B _ _ z q4};{o,Y,C}:=E;{o,B _ _ (Ne.symm T) Y,C};[Array.toList_push];aK.append N (.cons rfl .nil);(j,z,v);hj<|j<zs.length;v<-[zt hj];hp.mono s2 j z v;Q:j=zs.length:=(do this:=(qw.mp v).1;this<-[qg,qr];());!Q;v<-[yh (qb _),j3];-v;{_,x,do[hz];ex,O,do[hz];eT};hn<-[zk];()
def Qq(hh:A.handled=none)(I:Inv X pins σ H s)(B:aD H l xs)(Y:e≠it)(n2:l≠e)(U:l≠it)(he:NJ s.heap e it 0)(C:s.heap.IsListIter it l 0)(N:∀b∈[e,it],fC X pins H b)(hQ:∀s' H' zs p,Inv X pins σ H' s'->H p=none->ag H H'->H' p=!(.lst zs)->zs.length=xs.length->nN H' xs zs->Q (.ref p) s') : wpAny 37 A (call (.type "list") [.ref e]) Q E s:=do _;{f0,T,old,x,G}:=id he;callType_codes (Q₁:=λobj f=>obj=.ref ↑s/\f={s with heap:=s.heap.push {cls:=.type "list",data:=.seq #[]}}) F.called_list (F.typeCall_list_1 _) F.entry_list_init (code_list_new _ {O,O}) λobj f h₁=>?_;{rfl,rfl}:=h₁;m:(s.heap.push {cls:=.type "list",data:=.seq #[]}).get? ↑s=some {cls:=.type "list",data:=.seq #[]}:=qL _ rfl;{{_,m,O},F.args_list_init_2 _ _,?_};n:e<↑s:=qG x;(by generalize D:s.heap.push {cls:=.type "list",data:=.seq #[]}=h1 at m);k1:∀b o,s.heap.get? b=!o->h1.get? b=!o:=λb o e=>(do[<-D];qI _ e);¬wpAny _ A.in1.in1 (do{let old <-Builtin.List.listItems (.ref ↑s);Builtin.List.listUpdate (.ref ↑s) (λ_=>#[]);letGo old.toList.reverse;Builtin.List.listExtendWith (.ref ↑s) (.ref e) .none}) _ _ {s with heap:=h1};qA ?_;@Builtin.List.listItems;qA (wpAny_seqItems (s:={s with heap:=h1}) m rfl (qF ?_));¬wpAny _ A.in1.in1 (updateSeq ↑s (λ_=>#[]) >>= λ_=>letGo (#[]:Array MD).toList.reverse >>= λ_=>Builtin.List.listExtendWith (.ref ↑s) (.ref e) .none) _ _ {s with heap:=h1};qA (wpAny_updateSeq (s:={s with heap:=h1}) m rfl ?_);g:=Heap.get?_update_self (Obj.mapSeq (λ_=>(#[]:Array MD))) m rfl;v:∀b o,s.heap.get? b=!o->(h1.update ↑s (Obj.mapSeq (λ_=>(#[]:Array MD)))).get? b=some o:=λb o e=>(Heap.get?_update_other _ _ (zo (qG e))).trans (k1 b o e);¬wpAny _ _ _ _ _ {s with heap:=h1.update ↑s (Obj.mapSeq (λ_=>(#[]:Array MD)))};(by generalize h1.update ↑s (Obj.mapSeq (λ_=>(#[]:Array MD)))=h2 at g v);qA (wpAny_letGo ?_);d:Shared.TypeIs {s with heap:=h2} (.ref e) "enumerate":={_,v _ _ x,O};e1:Builtin.List.listSameRef (.ref ↑s) (.ref e)=false:=(do¬(↑s==e)=false;beq_eq_false_iff_ne.mpr (zo n));@Builtin.List.listExtendWith;qA (wpAny_typeOf d ?_);[qB (by rw[e1];decide)];qA (wpAny_pyIter_slot d F.slot_enumerate_iter (qO F.slot_enumerate_iter d F.entry_enumerate_iter ?_ (F.args_enumerate_iter_1 _)));¬wpAny _ _ (ret (.ref _)) _ _ {s with heap:=h2};qF {_,O,"enumerate",_,d,F.slot_enumerate_next.lookup,?_};qA (qK ?_);@Builtin.List.listLengthHint;qA (wpAny_specialOf (name:=Str.ofString "__len__") d (r:=none) (by rw[typeLookup_type,builtinLookup_eq_fast];kernel_rfl) ?_);(by dsimp only);[qB ⋯,qB ⋯];qA (wpAny_specialOf (name:=Str.ofString "__length_hint__") d (r:=none) (by rw[typeLookup_type,builtinLookup_eq_fast];kernel_rfl) (qF ?_));[qE (do 2)];qA (wpAny_rule (qA ?_));@Builtin.List.listTouch;qA (listUpdate_at (s:={s with heap:=h2}) g rfl ?_);{P,i}:∃P,(h2.update ↑s (Obj.mapSeq (·.push Value.none))).get? ↑s=!(seqObj "list" #[Value.none] P):={_,get?_update_seq g _};K:∀b o,b≠↑s->h2.get? b=!o->(h2.update ↑s (Obj.mapSeq (·.push Value.none))).get? b=!o:=λb o u e=>(Heap.get?_update_other _ _ (λz=>u z.symm)).trans e;¬wpAny _ _ _ _ _ {s with heap:=h2.update ↑s (Obj.mapSeq (·.push Value.none))};(by generalize h2.update ↑s (Obj.mapSeq (·.push Value.none))=h4 at i K);listUpdate_at (s:={s with heap:=h4}) i rfl ?_;{J,k}:∃J,(h4.update ↑s (Obj.mapSeq (·.pop))).get? ↑s=!(seqObj "list" #[] J):={_,get?_update_seq i _};t:∀b o,s.heap.get? b=!o->(h4.update ↑s (Obj.mapSeq (·.pop))).get? b=!o:=λb o e=>(Heap.get?_update_other _ _ (zo (qG e))).trans (K b o (qp (qG e)) (v b o e));¬wpAny _ _ _ _ _ {s with heap:=h4.update ↑s (Obj.mapSeq (·.pop))};(by generalize h4.update ↑s (Obj.mapSeq (·.pop))=h5 at k t);¬wpAny _ _ (again (Code.builtin "list.extend.loop" {[Value.ref ↑s,Value.ref e,Value.none],[]})) _ _ _;hn:=I.a9.fresh (a:=↑s) (qb _);I5:Inv X pins σ H {s with heap:=h5}:=I.kept (t':=s.toks) t;{oi,M,ci,W}:=id C;y:l<↑s:=(do _;{_,_,pl,_}:=I.list B;{_,q,_}:=pl.isList;qG q);qF {plainId_quiet F.plain_extend_loop _,Ru (A:=A.in1) (X:=X) (pins:=pins) (σ:=σ) hh Y n2 U (Nat.ne_of_gt n) (Nat.ne_of_gt (qG M)) (Nat.ne_of_lt y) xs.length 0 {s with heap:=h5} H [] #[] J (Nat.sub_zero _) (Nat.zero_le _) I5 B {f0,T,old,t _ _ x,?_} {oi,t _ _ M,ci,W} (λb u=>?_) k .nil rfl (λj z S=>do S<-0) λs' H' zs acc c a1 a2 L a4 Z a6 a7=>{O,?_}};h||{a,o,h,q}:=G;.inl h;.inr ⟨a,o,h,t _ _ q⟩;(by ac_nf at u);rfl||rfl||rfl:=u;N _ (do 0);N _ (do 0);I.oA (qb _) hn;zl:xs.length<=sizeLine:=(do _;{_,_,_,z}:=I.list B;z);R:ag H' (upd H' ↑s (.lst zs)):=ag.new L;hQ s' (upd H' ↑s (.lst zs)) zs _ (I.iA a1 (Nat.le_refl _) L {do¬zs.length<=sizeLine;(),acc.toList,c,Z,do 0<|a4}) hn (a2.trans R) aF a6 (a7.mono R)
end
def Q_(h1:(b.any λx=>x.fst)=false)(h2:(d.any λx=>x.fst.isNone)=false)(h:wpAny M A (evalArgs (.type T) true b d) (λa c=>wpAny M A (call (.type T) a.pos a.kw) Q E c) E s):wpAny M A (callWith pos (.type T) [] b d) Q E s:=do@callWith;qA (qK (qM h (λa c h₁=>?_) λ_ _ e=>e));qA (wpAny_standAt ?_);#[_,h1,h2,Bool.or_false];qA (wpAny_of_eq (a:=Keeper.machine) (by first|rfl|kernel_rfl) ?_);(by dsimp only);qA (qM h₁ (λv s2 q=>?_) λ_ _ e=>e);qA (qK (wpAny_point (qF q)))
inductive xg(Q:VK)(x:V)(H1:Hp):Prop
 |mk(a xs:_)(_:x=.ref a)(_:aD H1 a xs)(_:∀p H' zs,H1 p=none->ag H1 H'->H' p=!(.lst zs)->zs.length=xs.length->nN H' xs zs->Q (.ref p) H')
def DG(tl:TE):TE:=λσ H Q=>tl σ H λx H1=>xg Q x H1
section
variable {X:Cx}
def QY{tl:TE}{p k p2 kp cpos pos:Pos}(D:X.calm=true)(m:Gl X "list")(n:X.mg "list"=none)(t:Gl X "enumerate")(r:X.mg "enumerate"=none)(L:PE X l tl)(z:starEach [l] X.env=[(false,eval l X.env)]:=by rfl)(d:starEach [.Call (.Name "enumerate" k) [l] [{!"start",.Constant (.int 1) j p2,kp}] cpos] X.env=[(false,eval (.Call (.Name "enumerate" k) [l] [{!"start",.Constant (.int 1) j p2,kp}] cpos) X.env)]:=by rfl) : PE X (.Call (.Name "list" p) [.Call (.Name "enumerate" k) [l] [{!"start",.Constant (.int 1) j p2,kp}] cpos] [] pos) (DG tl):=do _;{?_};(pins,s,σ,H,Q,I,h);wpAny_Call_Name_kw (iY I m n boot_list ?_ ⋯ ⋯);PyProof.Rows.callWith_type1 ?_ d rfl;[d];Calls.spliced_cons ?_;wpAny_Call_Name_kw (iY I t r boot_enumerate ?_ ⋯ ⋯);Q_ (do[z];2) rfl ?_;[z];evalArgs_kwB rfl (Calls.spliced_cons (bL (L pins s σ H _ I h) λv c ⟨x,H1,i,K,J⟩=>Calls.spliced_nil (kws_cons (wpAny_Constant_int (kws_nil ?_)))));{a,xs,e,w,q}:=J;!e;-K;{its,N,y,R}:=i.list w;o:=i.tok (c.toks+1);g:a<↑c:=(do _;{_,q,_}:=y.isList;qG q);O_ (s:={c with toks:=c.toks+1}) y.isList λh' A hi hz E=>?_;C:Inv X pins σ H1 {c with heap:=h',toks:=c.toks+1}:=o.kept (t':=c.toks+1) E;Calls.spliced_nil (Qq (s:={c with heap:=h',toks:=c.toks+1}) (i.ok.hd D) C w (zo (yu _)) (qp (yt g)) (qp g) {_,_,_,A,.inl rfl} hi (λb u=>?_) λs' H' zs P a1 a2 G F B M=>{.ref _,_,a1,O,q _ _ _ a2 G F B M});f:↑c<=b:=(do(by ac_nf at u);rfl||rfl:=u;jw _;qb _);i.oA f (i.a9.fresh f)
end
structure NV(K:PySem.W.Frag)(mg:UK->Option MD)(x:UK)(st:Stmt)(T:UJ):Prop where
 out:∃(f c:UJ) (oc:MD) (od an:Option UJ) (kV doc pm ct:MD) (osl:Array (Option MD)),K.lookup f=some {oc,od,.func (PySem.W.fnOf x x (cc st) (bK st) (ah st) .none kV doc pm an (.ref c) ct),osl}/\PySem.W.codeIn K (.ref c) x=true/\PySem.W.keepIn K (.ref f)=true/\codeHdIn K c T=true/\mg x=!(.ref f)
def Je{P:Program}{w:World}{K:PySem.W.Frag}{mg:UK->Option MD}{base:Heap}{x:UK}{st:Stmt}{T:UJ}{N ps:List UK}{k:Nat}{sp:Sp}(F:NV K mg x st T)(S:aA N ps (ah st))(u:∀{kV a e:MD}{j:Option UJ}{g d:MD}(us:List MD),us.length=ps.length->bindArgs (PySem.W.fnOf x x (cc st) (bK st) (ah st) .none kV a e j g d) {us,[]}=pure (ps.zip us))(len:∀vs H Q E,sp vs H Q E->vs.length=ps.length)(b:∀(f c:UJ) (A:Around) (outer:List Env) (s:UH) (H:Hp) (vs:List V) (Q:VK) (E:XK),codeHdIn K c T=true->bI k (A.deeper (envOfC x (ah st) ↑s f (.ref c)))->sp vs H Q E-> ∃t,jD (lD i8 P w K mg base N x (ah st) f (.ref c) A outer s H E).yM (bK st) t/\t {nx:=λ_ H'=>Q .aV H',rt:=Q} (start N vs) H):cM P w K mg base (k+1) x ps sp:=do _;{f,c,y,od,j,kV,a,e,d,n,r,i,m,p,v}:=F.out;{f,_,sL r i S len λA outer s H vs Q E o l=>?_,v,m,.all u};{t,h,q}:=b f c A outer s H vs Q E p o l;{t,h.yM,q}
inductive FL(K:PySem.W.Frag)(n:UK)(s:Stmt)(T:UJ):Prop
 |mk{a c:UJ}{od an:Option UJ}{sl:Array (Option MD)}{oc kV dc pm ct:MD}(z1:PySem.W.nsIn K mainGlobals n=!(!(.ref a)))(z2:K.lookup a=some ⟨oc,od,.func (PySem.W.fnOf n n (cc s) (bK s) (ah s) .none kV dc pm an (.ref c) ct),sl⟩)(z3:PySem.W.codeIn K (.ref c) n=true)(z4:PySem.W.keepIn K (.ref a)=true)(z5:codeHdIn K c T=true)
def FL.fo{K:PySem.W.Frag}{n:UK}{s:Stmt}{T:UJ}{h:Heap}{mg:UK->Option MD}(f:FL K n s T)(X:K.In h)(G:h.Ns mainGlobals mg):NV K mg n s T:=do _;{b,d,c,a,e}:=f;{_,_,_,_,_,_,_,_,_,_,d,c,a,e,PySem.W.mg_of X G b}
def K7(hi:σ[i]?=!none)(p:σ[j]?=!none)(h:σ[l]?=!none)(f:i≠j)(b:i≠l)(d:j≠l):jJ (wH n (jP (cQ i) (jP (cQ j) (jP (cQ l) CF)))) σ:=do(x,H,Q,q);{a,xs,y,s,t,v,r,m,w,B,o,u,c,z,A,q}:=q;{a,xs,y,s,t,v,r,m,w,B,o,u,c,z,A,?_,q};h1:=fL.set hi v;h2:=fL.set (σ:=σ.set i (!v)) (i:=j) (do[jf f];p) w;g:=fL.set (σ:=(σ.set i (!v)).set j (!w)) (i:=l) (do[jf d,jf b];h) u;{(h1.1.trans h2.1).trans g.1,λk u e=>g.2 k u (h2.2 k u (h1.2 k u e))}
inductive vL(x y:V)(H:Hp)(Q:VK):Prop
 |mk(n:Int)(_:x=.str "hm")(_:y=.int n)(_:1<=n)(_:n<=4)(_:∀z:UK,PyData.strOk z=true->Q (.str z) H)
def Sb:de X (binaryOp .Mult) vL:=do(pins,s,σ,H,x,y,v,u,Q,I,b,a,h);{n,rfl,rfl,h1,h2,q}:=h;{t,rfl}:=b;{t',rfl}:=a;this:n=1\/n=2\/n=3\/n=4:=();rfl||rfl||rfl||rfl:=this;P.mul_str ⋯ (λ_ h=>absurd h (do 0)) (λ_ h=>absurd h (do 0)) ⟨.str "hm",H,I,⟨t,O⟩,q _ ∅⟩;P.mul_str ⋯ (λ_ _=>∅) (λ_ _=>∅) ?_;[qB ⋯,qB ∅];{∅,.str _,H,I.tok _,{_,O},q _ ∅};P.mul_str ⋯ (λ_ _=>∅) (λ_ _=>∅) ?_;[qB ⋯,qB ∅];{∅,.str _,H,I.tok _,{_,O},q _ ∅};P.mul_str ⋯ (λ_ _=>∅) (λ_ _=>∅) ?_;[qB ⋯,qB ∅];{∅,.str _,H,I.tok _,{_,O},q _ ∅}
inductive JQ(Q:VK)(x:V)(H1:Hp):Prop
 |mk(i:Nat)(_:x=.int i)(_:i<=1000)(_:Q (.str (Str.ofString (toString (i:Int)))) H1)
def Qd(te:TE):TE:=λσ H Q=>te σ H λx H1=>JQ Q x H1
def LY(d:PE X e te):PE X (.FormattedValue e (-1) none pos) (Qd te):=do _;{?_};(pins,s,σ,H,Q,I,h);wpAny_FormattedValue_plain (qM (d pins s σ H _ I h) (λv f ⟨x,H1,a,c,b⟩=>?_) λ_ _ e=>e);{i,rfl,hz,q}:=b;{t,rfl}:=c;wpAny_formatField_int ?_ {.str _,H1,a.tok _,{_,O},q};[Int.natAbs_natCast];h<|i=0;[h];(by decide);(Nat.log2_lt h).mpr (jv hz (zh (by decide:1000<2 ^ 10) (Nat.pow_le_pow_right ⋯ ⋯)))
def KC(a:PE X e te):PE X (.JoinedStr [e] pos) te:={λpins s σ H Q I h=>do[arm_eval_JoinedStr];a pins s σ H Q I h}
structure Tw(P:Program)(w:World)(K:PySem.W.Frag)(mg:UK->Option MD)(base:Heap)(k:Nat)(x:UK)(ps:List UK)(sp:Sp):Prop where
 b:cM P w K mg base k x ps sp
 d:∃f fd,h9 P w K mg base i8 k f fd ps sp/\mg x=!(.ref f)/\PySem.W.keepIn K (.ref f)=true/\Binds K fd ps [.none]
structure Rt(K:PySem.W.Frag)(mg:UK->Option MD)(x:UK)(st:Stmt):Prop where
 out:∃(f t:UJ) (oc oc':MD) (od od' an:Option UJ) (kV doc pm cdv ct:MD) (osl osl':Array (Option MD)) (n:Nat),K.lookup f=some {oc,od,.func (PySem.W.fnOf x x (cc st) (bK st) (ah st) (.ref t) kV doc pm an cdv ct),osl}/\PySem.W.codeIn K cdv x=true/\PySem.W.keepIn K (.ref f)=true/\K.lookup t=some {oc',od',.seq #[.none] n,osl'}/\mg x=!(.ref f)
def B0{P:Program}{w:World}{K:PySem.W.Frag}{mg:UK->Option MD}{base:Heap}{x:UK}{st:Stmt}{N ps:List UK}{k:Nat}{sp:Sp}(F:Rt K mg x st)(S:aA N ps (ah st))(z:∀(t:UJ) (kV b e:MD) (g:Option UJ) (a d:MD) (us:List MD),us.length=ps.length->∃q,bindArgs (PySem.W.fnOf x x (cc st) (bK st) (ah st) (.ref t) kV b e g a d) {us,[]}=seqItems? (.ref t) >>= q/\q (some #[.none])=pure (ps.zip us))(j:∀(t:UJ) (kV b e:MD) (g:Option UJ) (a d:MD) (us:List MD),us.length+1=ps.length->∃q,bindArgs (PySem.W.fnOf x x (cc st) (bK st) (ah st) (.ref t) kV b e g a d) {us,[]}=seqItems? (.ref t) >>= q/\q (some #[.none])=pure (ps.zip (us++[.none])))(len:∀vs H Q E,sp vs H Q E->vs.length=ps.length)(c:∀(f:UJ) (a:MD) (A:Around) (outer:List Env) (s:UH) (H:Hp) (vs:List V) (Q:VK) (E:XK),bI k (A.deeper (envOfC x (ah st) ↑s f a))->sp vs H Q E-> ∃t,jD (lD i8 P w K mg base N x (ah st) f a A outer s H E).yM (bK st) t/\t {nx:=λ_ H'=>Q .aV H',rt:=Q} (start N vs) H):Tw P w K mg base (k+1) x ps sp:=do _;{f,t,G,D,od,v,g,kV,b,e,a,d,C,u,n,B,l,p,r,o}:=F.out;ok:=sL (CX:=i8) (base:=base) B l S len λA outer s H vs Q E y m=>let⟨t,h,q⟩:=c f a A outer s H vs Q E y m;{t,h.yM,q};{{f,_,ok,o,p,λs us X i=>?_},f,_,ok,o,p,λs us X i=>?_};(by rw[wt]at i ⊢);{q,h1,h2}:=z t kV b e g a d us i;.of_defaults rfl (X _ _ r) rfl h1 h2;i<-[qg];{q,h1,h2}:=j t kV b e g a d us i;.of_defaults rfl (X _ _ r) rfl h1 h2
inductive NQ(K:PySem.W.Frag)(n:UK)(s:Stmt):Prop
 |mk{a t:UJ}{od an od':Option UJ}{sl sl':Array (Option MD)}{oc oc' kV dc pm cd ct:MD}{m:Nat}(z1:PySem.W.nsIn K mainGlobals n=!(!(.ref a)))(z2:K.lookup a=some ⟨oc,od,.func (PySem.W.fnOf n n (cc s) (bK s) (ah s) (.ref t) kV dc pm an cd ct),sl⟩)(z3:PySem.W.codeIn K cd n=true)(z4:PySem.W.keepIn K (.ref a)=true)(z5:K.lookup t=some ⟨oc',od',.seq #[.none] m,sl'⟩)
def NQ.fo{K:PySem.W.Frag}{n:UK}{s:Stmt}{h:Heap}{mg:UK->Option MD}(f:NQ K n s)(X:K.In h)(G:h.Ns mainGlobals mg):Rt K mg n s:=do _;{b,d,c,a,e}:=f;{_,_,_,_,_,_,_,_,_,_,_,_,_,_,_,d,c,a,e,PySem.W.mg_of X G b}
end L2
namespace My
open PySem L2 PyProof.Rows
def aI(h:Nat.ble n 1000=true):n<=sizeLine:=wx (cH (jz h))
def mZ(h:n<=1000):n<=sizeLine:=wx (cH h)
def cj{A B:Prop}(h:c=true)(a:A):if c=true then A else B:=do[qE h];a
def bX{A B:Prop}(h:c=false)(b:B):if c=true then A else B:=do[qB (by rw[h];decide)];b
def kP:Key->UI|.inl i=>.int i|.inr s=>.str s
theorem wL:∀ks:List Key,dn H (ks.map kV) (ks.map kP)|[]=>.nil|.inl i::ks=>.cons (.int i) (wL ks)|.inr s::ks=>.cons (.str s) (wL ks)
def dN(nk:Nat->List Key)(i:Nat):UI:=.tuple ((nk i).map kP)
def NM.dt(h:NM nk H v i):DT H v (dN nk i):=do _;{b,rfl,h}:=h;.tup h (wL _)
theorem Gg(h:DT H x d):∀{xs:List V} {ds:List UI},dn H xs ds->dn H (xs++[x]) (ds++[d])|_,_,.nil=>.cons h .nil|_,_,.cons a t=>.cons a (Gg h t)
theorem mH{α β:Type}:∀(es xs:List (KD×α×β)),((xs++es).map (·.1)).Nodup->putAll xs es=xs++es|[],xs,_=>(wt xs).symm|e::es,xs,h=>do hn:∀x∈xs,x.1≠e.1:=λx a z=>(do h<-[zy,zm];(yn.mp h).2.2 x.1 (qc.mpr {x,a,O}) e.1 qi z);b:=oy hn;hp:pG xs e.1 e.2.1 e.2.2=xs++[e]:=(do@pG;[b,qB (λz=>nomatch z)]);¬putAll (pG xs e.1 e.2.1 e.2.2) es=_;[hp,mH es (xs++[e]) (do[ym];h),ym];2
inductive Be(vs:List V)(H:Hp)(Q:VK)(_:XK):Prop
 |mk(v nk bh D k:_)(_:vs=[v])(_:PL nk bh D H v k)(_:∀kv,DT H kv (D k)->Q kv H)
inductive Fp(vs:List V)(H:Hp)(Q:VK)(_:XK):Prop
 |mk(p ys nk bh D ms js t:_)(_:vs=[.ref p])(_:aD H p ys)(_:AN (PL nk bh D H) ys js)(_:ms=js)(_:xJ nk bh D ms t)(_:∀H' dq kvs,ag H H'->FD nk bh ms ms H H' dq kvs->Q (.ref dq) H')
inductive Gv(vs:List V)(H:Hp)(Q:VK)(_:XK):Prop
 |mk(p ys nk bh D ms js t:_)(_:vs=[.ref p])(_:aD H p ys)(_:AN (PL nk bh D H) ys js)(_:ms=js)(_:xJ nk bh D ms t)(_:∀H' q zs,ag H H'->H q=none->H' q=!(.lst zs)->AN (NM nk H') zs (Rga.eB (Rga.cC bh ms))->Q (.ref q) H')
def cJ(h:n<=2000):n<=sizeLine:=wx (kK h)
def uU(h:AN P vs js)(f:∀v i,i∈js->P v i->P' v i):AN P' vs js:={h.1,λm v i b a=>f _ _ (qu a) (h.2 m v i b a)}
def tD(ks:List Key):UI:=.tuple (ks.map kP)
def E2:∀k:Key,fQ (kP k)=true|.inl _=>rfl|.inr _=>rfl
def kO(ks:List Key):fQ (tD ks)=true:=do¬fQ (.tuple (ks.map kP))=true;[fQ];nY λd a=>do _;{k,_,rfl}:=qc.mp a;E2 k
def dB(ks:List Key):(tD ks).depth<=1:=do this:PyData.depthAll (ks.map kP)<=0:=lQ λd a=>(do _;{k,_,rfl}:=qc.mp a;by cases k <;> exact qb 0);¬PyData.depthAll (ks.map kP)+1<=1;()
def E6:∀{a b:Key},kP a=kP b->a=b|.inl _,.inl _,h=>(by injection h with h;rw[h])|.inl _,.inr _,h=>(do-h)|.inr _,.inl _,h=>(do-h)|.inr _,.inr _,h=>by injection h with h;rw[h]
theorem Jm:∀{a b:List Key},a.map kP=b.map kP->a=b|[],[],_=>rfl|[],_::_,h=>(do-h)|_::_,[],h=>(do-h)|x::a,y::b,h=>by rw[zm,zm]at h;injection h with h1 h2;rw[E6 h1,Jm h2]
def Gs(h:tD a=tD b):a=b:=Jm (PyData.tuple.inj h)
def fH(a b:List Key):PyData.eqv (tD a) (tD b)=decide (a=b):=do h<|a=b;[qH h,h];(tJ _ _ (kO b) (kO b)).mpr rfl;[decide_eq_false h];(by cases q:PyData.eqv (tD a) (tD b)with|false|true=>?_);2;absurd (Gs ((tJ _ _ (kO a) (kO b)).mp q)) h
def bC(h:GK H (.tup ks) v):DT H v (tD ks):=do _;{b,rfl,h}:=h;.tup h (wL _)
def Dh:∀k:Key,sk (kP k) (kP k)=true|.inl _=>rfl|.inr _=>rfl
theorem KZ:∀ks:List Key,fD (ks.map kP) (ks.map kP)=true|[]=>rfl|k::ks=>do¬(sk (kP k) (kP k)&&fD (ks.map kP) (ks.map kP))=true;[Dh,KZ ks];2
def Io(ks:List Key):sk (tD ks) (tD ks)=true:=KZ ks
def Lay(ks:List Key):Prop:=(tD ks).canLay0=true
def bO(a b c d:Int):Prop:=a<c\/(a=c/\b<d)
def gT(h:bO a b c d):bN (.tuple [.int a,.int b]) (.tuple [.int c,.int d])=true:=do[bN];h||{rfl,h}:=h;uG h;wR (uG h)
def tS(n:Nat):(List.range n).Pairwise λa b=>a<b:=rh
def Rd.same(r:Rd H a u)(s:ag H H'):Rd H' a u:=do r||{o,r}:=r;.inl (s _ _ r);.inr ⟨o,s _ _ r⟩
def kN(i:Nat):Key:=.inr ((["births","places","cuts","signs","marks","notes","lines","cells","leaves"]:List UK).getD i "")
def eO(F:Nat->UJ)(n:Nat):List (Key×V):=(List.range n).map λi=>(kN i,.ref (F i))
def xE:∀i,i<9->∀j,j<9->kN i=kN j->i=j:=∅
def fe(F:Nat->UJ)(i:Nat)(h:i<9):bJ (eO F 9) (kN i)=!(.ref (F i)):=do c:∀(l:List Nat),(∀j∈l,j<9)->i∈l->bJ (l.map λi=>(kN i,V.ref (F i))) (kN i)=!(.ref (F i)):=λl=>(do(by induction l with|nil|cons j l d=>?_);(_,z);-z;(b,hi);[zm];e<|j=i;!e;f7 rfl;[fO (λz=>e (xE j (b j qi) i h z))];z||z:=qt.mp hi;absurd z.symm e;d (λj a=>b j (qm _ a)) z);c _ (λj a=>qj.mp a) (qj.mpr h)
def lh(H:Hp)(fa:UJ)(F:Nat->UJ):Prop:=∃kvs,Rd H fa (.dK kvs)/\∀i,i<9->bJ kvs (kN i)=!(.ref (F i))
def lh.of(h:Rd H fa (.dK (eO F 9))):lh H fa F:={_,h,λi hi=>fe F i hi}
def lh.mp(h:lh H fa F)(k:∀kvs,Rd H fa (.dK kvs)->Rd H' fa (.dK kvs)):lh H' fa F:=let⟨kvs,r,g⟩:=h;{kvs,k _ r,g}
theorem lh.same(h:lh H fa F)(s:ag H H'):lh H' fa F:=h.mp λ_ r=>Rd.same r s
def lh.get(h:lh H fa F)(i:Nat)(hi:i<9):xG H fa (kV (kN i)) (!(.ref (F i))):=let⟨kvs,r,g⟩:=h;.inl {kvs,kN i,r,O,(g i hi).symm}
def Pu(h:PyData.strOk z=true)(x:Int):Lay [.inr z,.inl x]:=do¬(PyData.strOk z&&(true&&true))=true;[h];2
theorem HN:∀{ds:List UI},(∀d∈ds,sk d d=true)->fD ds ds=true|[],_=>rfl|d::ds,h=>do¬(sk d d&&fD ds ds)=true;[h d qi,HN λx a=>h x (qm _ a)];2
def La(h:Lay ks):(tD ks).canLay0=true/\sk (tD ks) (tD ks)=true/\(tD ks).depth<=1:={h,Io ks,dB ks}
def tL(h:PyData.strOk z=true):(PyData.str z).canLay0=true/\sk (.str z) (.str z)=true/\(PyData.str z).depth<=1:={h,O,q0 1}
def Rest(H H':Hp)(S:UJ->Prop):Prop:=∀b o,H b=!o->¬S b->H' b=!o
def P_(h:AN P vs js)(f:∀v i,v∈vs->P v i->P' v i):AN P' vs js:={h.1,λm v i a b=>f _ _ (qu a) (h.2 m v i a b)}
def AL{β α:Type}(P:β->α->Prop)(vs:List β)(rs:List α):Prop:=vs.length=rs.length/\∀(m:Nat) v r,vs[m]?=!v->rs[m]?=!r->P v r
section
variable {β α:Type}{P P':β->α->Prop}{vs us:List β}{rs ts:List α}
def AL.imp(h:AL P vs rs)(f:∀v r,P v r->P' v r):AL P' vs rs:={h.1,λm v r a b=>f _ _ (h.2 m v r a b)}
def AL.Fm(h:AL P vs rs)(f:∀v r,v∈vs->r∈rs->P v r->P' v r):AL P' vs rs:={h.1,λm v r a b=>f _ _ (qu a) (qu b) (h.2 m v r a b)}
def AL.nil:AL P [] []:={O,λm v r z=>nomatch z}
def AL.cons{v:β}{r:α}(h:P v r)(g:AL P vs rs):AL P (v::vs) (r::rs):=do _;{do[zf,zf,g.1],λm d c a b=>?_};(by cases m with|zero|succ m=>?_);-a;-b;h;g.2 m _ _ a b
def AL.head(g:AL P (v::vs) (r::rs)):P v r:=g.2 0 _ _ rfl rfl
def AL.tail(g:AL P (v::vs) (r::rs)):AL P vs rs:={do this:=g.1;0<|this,λm d c a b=>g.2 (m+1) _ _ a b}
def AL.none(g:AL P [] (r::rs)):False:=do this:=g.1;this<-0
def AL.nothing(g:AL P (v::vs) []):False:=do this:=g.1;this<-0
def AL.app(h:AL P vs rs)(g:AL P us ts):AL P (vs++us) (rs++ts):=do(by induction vs generalizing rs with|nil|cons v vs a=>?_;cases rs with|nil|cons r rs=>?_);g;h.none.elim;(by cases rs with|nil|cons r rs=>?_);h.nothing.elim;.cons h.head (a h.tail)
def AL.snoc(h:AL P vs rs)(a:P v r):AL P (vs++[v]) (rs++[r]):=h.app (.cons a .nil)
def AL.at{m:Nat}{v:β}(h:AL P vs rs)(e:vs[m]?=!v):∃r,rs[m]?=!r/\P v r:=do a:m<rs.length:=(do[<-h.1];(qw.mp e).1);{rs[m],qe a,h.2 m v _ e (qe a)}
def AL.at'{m:Nat}{r:α}(h:AL P vs rs)(e:rs[m]?=!r):∃v,vs[m]?=!v/\P v r:=do a:m<vs.length:=(do[h.1];(qw.mp e).1);{vs[m],qe a,h.2 m _ r (qe a) e}
def AL.mem(h:AL P vs rs)(e:v∈vs):∃r,r∈rs/\P v r:=do _;{m,b,rfl}:=z6.mp e;{r,a,p}:=h.at (qe b);{r,qu a,p}
def AL.ux(h:AL P vs rs)(e:r∈rs):∃v,v∈vs/\P v r:=do _;{m,b,rfl}:=z6.mp e;{v,a,p}:=h.at' (qe b);{v,qu a,p}
theorem AL.map(h:AL P vs rs){c:Type}{f:β->c}{d:c->α->Prop}(k:∀v r,v∈vs->r∈rs->P v r->d (f v) r):AL d (vs.map f) rs:=do _;{do[qh,h.1],λm v r b a=>?_};b<-[qv];{u,e,rfl}:=wu.mp b;k _ _ (qu e) (qu a) (h.2 m u r e a)
end
theorem AL.iw{α:Type}{P:V->α->Prop}{H:Hp}{D:α->UI}(a:∀v r,P v r->DT H v (D r)):∀{vs:List V} {rs:List α},AL P vs rs->dn H vs (rs.map D)|[],[],_=>.nil|[],_::_,h=>h.none.elim|_::_,[],h=>h.nothing.elim|_::_,_::_,h=>.cons (a _ _ h.head) (AL.iw a h.tail)
def aZ:List Key:=[.inr "",.inl 0]
def Nm(ks:List Key):Prop:=∃w x,ks=[.inr w,.inl x]/\(w = "ann" \/ w = "bo" \/ w = "cyan")
def Pn(ks:List Key):Prop:=ks=aZ\/Nm ks
def Nm.lay(h:Nm ks):Lay ks:=do _;{w,x,rfl,h}:=h;Pu ?_ x;by rcases h with rfl|rfl|rfl <;> decide +kernel
def Oi:Lay aZ:=by unfold Lay aZ;decide +kernel
theorem Pn.lay(h:Pn ks):Lay ks:=do rfl||h:=h;Oi;h.lay
def Nm.main(h:Nm ks):ks≠aZ:=do _;{w,x,rfl,h}:=h;(z);(by unfold aZ at z;injection z with z _;injection z with z);!z;by revert h;decide +kernel
def Pn.two(h:Pn ks):∃w x,ks=[.inr w,.inl x]:=do rfl||{w,x,rfl,_}:=h;⟨_,_,O⟩;⟨_,_,O⟩
def Pj{ls:List (List Key)}(h:∀k∈ls,Pn k):KeysAre (ls.map tD) 3:=do two:∀d∈ls.map tD,∃w x,d=.tuple [.str w,.int x]/\d.canLay0=true:=λd c=>(do _;{k,e,rfl}:=qc.mp c;f:(tD k).canLay0=true:=(h k e).lay;{w,x,rfl}:=(h k e).two;{w,x,O,f});{fF λd c=>?_,λd c=>?_,λa g b i=>?_,λd c=>?_};{_,_,_,h}:=two d c;h;{_,_,rfl,_}:=two d c;(by trivial);{_,_,rfl,_}:=two a g;{_,_,rfl,_}:=two b i;2;{_,_,rfl,_}:=two d c;(by decide:1<=60)
structure Pc where
 pt:List Key
 ou:List Key
 nm:List Key
 ka:Int
 kb:Int
def gM(H:Hp)(v:V)(r:Pc):Prop:=∃b c a vn kq,v=.ref b/\H b=!(.tup [c,a,vn,.ref kq])/\GK H (.tup r.pt) c/\GK H (.tup r.ou) a/\GK H (.tup r.nm) vn/\H kq=!(.tup [.int r.ka,.int r.kb])
theorem gM.af(h:gM H v r)(t:aj H H'):gM H' v r:=do _;{b,f,a,vn,kq,e,h1,h2,d,g,c}:=h;{b,f,a,vn,kq,e,t _ _ h1,h2.af t,d.af t,g.af t,t _ _ c}
structure yI(r:Pc):Prop where
 pt:Nm r.pt
 ou:Pn r.ou
 nm:Nm r.nm
def hp(xs:List Pc)(k:List Key):Bool:=xs.any λx=>decide (x.pt=k)
def iE(xs:List Pc)(r:Pc):List Pc:=if hp xs r.pt=true then xs.map (λx=>if x.pt=r.pt then r else x) else xs++[r]
def tl(rs:List Pc):List Pc:=rs.foldl iE []
def vI(rs:List Pc)(r:Pc):tl (rs++[r])=iE (tl rs) r:=do@tl;[j4];2
def gU{k:List Key}:hp xs k=true↔k∈xs.map (·.pt):=do@hp;[yr];1;({x,a,h});qc.mpr {x,a,qN h};(h);{x,a,h}:=qc.mp h;{x,a,qH h}
def Hd(xs:List Pc)(r:Pc):(iE xs r).map (·.pt)=if hp xs r.pt=true then xs.map (·.pt) else xs.map (·.pt)++[r.pt]:=do@iE;h<|hp xs r.pt=true;[qE h,qE h,zx];z8 λx _=>?_;¬(if x.pt=r.pt then r else x).pt=x.pt;z<|x.pt=r.pt;[qE z,z];[qB z];[qB h,qB h,zy];2
def Ow(h:x∈iE xs r):x=r\/(x∈xs/\x.pt≠r.pt):=do(by unfold iE at h);q<|hp xs r.pt=true;h<-[qE q];{y,a,rfl}:=qc.mp h;z<|y.pt=r.pt;[qE z];.inl rfl;[qB z];.inr {a,z};h<-[qB q];z||z:=qz.mp h;.inr ⟨z,λe=>q (gU.mpr (e▸qc.mpr ⟨x,z,O⟩))⟩;.inl (qo.mp z)
theorem BV(rs:List Pc):((tl rs).map (·.pt)).Nodup:=by
 rcases ji rs with rfl|⟨us,r,rfl⟩
 .exact wv
 .rw[jj,vI,Hd]
  have c:=BV us
  split
  .exact c
  .rename_i h
   rw[yn];exact{c,zv.mpr {(λz=>nomatch z),wv},λa f b d e=>h (gU.mpr (by rw[←qo.mp d,←e];exact f))}
termination_by rs.length
decreasing_by all_goals (subst_vars;simp)
theorem sD(h:x∈tl rs):x∈rs:=by
 rcases ji rs with rfl|⟨us,r,rfl⟩
 .exact h
 .rw[jj]at h ⊢
  rw[vI]at h;rcases Ow h with rfl|⟨z,_⟩
  .exact z7 _ (qo.mpr rfl)
  .exact yo _ (sD z)
termination_by rs.length
decreasing_by all_goals (subst_vars;simp)
theorem xj(rs:List Pc):(tl rs).length<=rs.length:=by
 rcases ji rs with rfl|⟨us,r,rfl⟩
 .exact qb _
 .rw[jj,vI]
  have a:=xj us;have e:=congrArg List.length (Hd (tl us) r);rw[qh]at e;rw[e,qg,qr]
  split
  .rw[qh];omega
  .rw[qg,qh,qr];omega
termination_by rs.length
decreasing_by all_goals (subst_vars;simp)
def EK(R:V->Pc->Prop)(H:Hp)(e:KD×V×V)(x:Pc):Prop:=e.1=.tup x.pt/\GK H (.tup x.pt) e.2.1/\R e.2.2 x
def EK.imp(h:EK R H e x)(t:aj H H')(f:R e.2.2 x->R' e.2.2 x):EK R' H' e x:={h.1,h.2.1.af t,f h.2.2}
section
variable {R:V->Pc->Prop}{H:Hp}{kvs:List 68}{xs:List Pc}
def Qz(h:AL (EK R H) kvs xs):kvs.map (·.1)=(xs.map (·.pt)).map KD.tup:=do(by apply yc);(m);[qv,qv,qv];(by cases e:kvs[m]? with|none|some v=>?_);this:xs[m]?=none:=ww (do[<-h.1];List.getElem?_eq_none_iff.mp e);[this];2;{r,a,p}:=h.at e;[a];¬some v.1=!(KD.tup r.pt);[p.1]
def wK(h:KD.tup a=KD.tup b):a=b:=by injection h
def xQ(h:AL (EK R H) kvs xs)(hn:(xs.map (·.pt)).Nodup):(kvs.map (·.1)).Nodup:=do[Qz h];List.Pairwise.map _ (λa b c z=>c (wK z)) hn
def rr(h:AL (EK R H) kvs xs)(hn:(xs.map (·.pt)).Nodup)(b:x∈xs):∃v,vG kvs (.tup x.pt)=!v/\R v x:=do _;{m,c,rfl}:=z6.mp b;{e,a,p}:=h.at' (qe c);{e.2.2,pW (xQ h hn) a p.1,p.2.2}
def Tj{k:List Key}(h:AL (EK R H) kvs xs)(a:k∉xs.map (·.pt)):vG kvs (.tup k)=none:=oy λe b z=>do _;{r,c,p}:=h.mem b;z<-[p.1];a (qc.mpr {r,c,wK z})
def Cs{k:List Key}(h:AL (EK R H) kvs xs)(hn:(xs.map (·.pt)).Nodup):(vG kvs (.tup k)).isSome=hp xs k:=do a<|hp xs k=true;{x,b,rfl}:=qc.mp (gU.mp a);{v,c,_}:=rr h hn b;[c,a];2;[Tj h (λz=>a (gU.mpr z)),j5.mpr a];2
def BS(h:AL (EK R H) kvs xs)(hn:(xs.map (·.pt)).Nodup)(n:GK H (.tup r.pt) y)(j:R v r):AL (EK R H) (pG kvs (.tup r.pt) y v) (iE xs r):=do(by unfold pG iE);[Cs h hn];a<|hp xs r.pt=true;[qE a,qE a];{do[qh,qh,h.1],λm e x g f=>?_};(by rw[qv]at g f);{k,c,rfl}:=wu.mp g;{i,d,rfl}:=wu.mp f;{b,p2,l}:=h.2 m k i c d;z<|i.pt=r.pt;[qE (do[b,z]),qE z];{do[<-z];b,do[<-z];p2,j};[qB (do[b];λy=>z (wK y)),qB z];{b,p2,l};[qB a,qB a];h.snoc {O,n,j}
end
def BT(H:Hp)(v:V):Prop:=∃b vn a x y,v=.ref b/\H b=!(.tup [vn,a])/\GK H (.tup x) vn/\Nm x/\GK H (.tup y) a/\Pn y
theorem BT.af(h:BT H v)(t:aj H H'):BT H' v:=do _;{b,vn,d,x,y,e,h1,h2,f,a,c}:=h;{b,vn,d,x,y,e,t _ _ h1,h2.af t,f,a.af t,c}
def CT(H:Hp)(v:V)(k:List Key):Prop:=∃b a vn y,v=.ref b/\H b=!(.tup [a,vn])/\GK H (.tup k) a/\Pn k/\GK H (.tup y) vn/\Nm y
theorem CT.af{k:List Key}(h:CT H v k)(t:aj H H'):CT H' v k:=do _;{b,f,vn,y,e,h1,h2,d,a,c}:=h;{b,f,vn,y,e,t _ _ h1,h2.af t,d,a.af t,c}
structure xF(H:Hp)(bs vs cs:List V)(rs:List Pc)(cu:List (List Key))(k:Nat):Prop where
 bt:∀v∈bs,BT H v
 pc:AL (gM H) vs rs
 ct:AL (CT H) cs cu
 w:∀r∈rs,yI r
 up:rs.Pairwise λa b=>bO a.ka a.kb b.ka b.kb
 bl:bs.length<=k
 vl:vs.length<=k
 cl:cs.length<=k
theorem xF.af{bs vs cs:List V}{k:Nat}(h:xF H bs vs cs rs cu k)(t:aj H H'):xF H' bs vs cs rs cu k := {λv a=>(h.bt v a).af t,h.pc.imp λv r p=>p.af t,h.ct.imp λv r p=>p.af t,h.w,h.up,h.bl,h.vl,h.cl}
def xF.place{bs vs cs:List V}{k:Nat}(h:xF H bs vs cs rs cu k)(g:gM H v r)(f:yI r)(lt:∀x∈rs,bO x.ka x.kb r.ka r.kb)(i:vs.length<k):xF H bs (vs++[v]) cs (rs++[r]) cu k := {h.bt,h.pc.snoc g,h.ct,λx e=>do z||z:=qz.mp e;h.w x z;[qo.mp z];f,m3.mpr {h.up,gw _ _,λa c b d=>do[qo.mp d];lt a c},h.bl,do[qg,qr];(),h.cl}
structure FB(H:Hp)(fa:UJ)(F:Nat->UJ)(bs vs cs:List V)(rs:List Pc)(cu:List (List Key))(k:Nat):Prop where
 dk:lh H fa F
 inj:∀i,i<9->∀j,j<9->F i=F j->i=j
 rest:∀i,i<9->3<=i->∃xs,H (F i)=!(.lst xs)
 eb:H (F 0)=!(.lst bs)
 ev:H (F 1)=!(.lst vs)
 ec:H (F 2)=!(.lst cs)
 fi:xF H bs vs cs rs cu k
theorem FB.same{bs vs cs:List V}{k:Nat}(h:FB H fa F bs vs cs rs cu k)(s:ag H H'):FB H' fa F bs vs cs rs cu k := {h.dk.same s,h.inj,λi h1 h2=>let⟨xs,e⟩:=h.rest i h1 h2;{xs,s _ _ e},s _ _ h.eb,s _ _ h.ev,s _ _ h.ec,h.fi.af s.af}
open Classical in
noncomputable def cg(H:Hp)(S:UJ->Prop):Hp:=λb=>if S b then none else H b
section
open Classical
variable {H H':Hp}{S:UJ->Prop}
def fV(h:S b):cg H S b=none:=qE h
def iJ(h:¬S b):cg H S b=H b:=qB h
def Q1:ag (cg H S) H:=λb o e=>do h<|S b;e<-[fV h];-e;e<-[iJ h];e
def mO(s:ag (cg H S) H')(e:H b=!o)(h:¬S b):H' b=!o:=s _ _ (do[iJ h];e)
def OJ(s:ag (cg H S) H')(h:∀b,S b->∀xs,H b≠some (.tup xs)):aj H H':=λb xs e=>mO s e λz=>h b z xs e
def Ju(h:H b=none):cg H S b=none:=do z<|S b;fV z;[iJ z];h
end
def Px(h:bO a b c d):HT.lexLt [a,b] [c,d]=true:=do[HT.e_,HT.e_];h||{rfl,h}:=h;[qB ()];qH h;[qE rfl,qB ()];qH h
end My
namespace Rnd
variable {α:Type}
structure WO(g:α->Option α)(E:α->Prop)(p:α)(ini:List α)(las:α):Prop where
 hd:(ini++[las]).head?=!p
 ch:∀(i:Nat) a b,(ini++[las])[i]?=!a->(ini++[las])[i+1]?=!b->g a=!b
 nd:ini.Nodup
 out:∀a∈ini,¬E a
 en:las∈ini\/(las∉ini/\(g las=none\/E las))
section
variable {g:α->Option α}{E:α->Prop}{p las:α}{ini:List α}
def WO.zV(w:WO g E p ini las)(h:a∈ini):g a≠none:=λz=>do _;{i,hi,rfl}:=z6.mp h;c:(ini++[las])[i]?=some ini[i]:=(do[zt hi,qe hi]);b:i+1<(ini++[las]).length:=(do[qg,qr];());this:=w.ch i _ _ c (qe b);this<-[z];-this
end
end Rnd
namespace My
open PySem L2 PyProof.Rows
def fX(xs:List Pc)(k:List Key):Option Pc:=xs.find? λx=>decide (x.pt=k)
def gX(xs:List Pc)(k:List Key):Option (List Key):=(fX xs k).map (·.ou)
def Nz(xs:List Pc)(a b:List Key):Prop:=∃x y,fX xs a=!x/\fX xs b=!y/\bO x.ka x.kb y.ka y.kb
section
variable {xs:List Pc}
def ph{k:List Key}(h:fX xs k=!x):x∈xs/\x.pt=k:={List.mem_of_find?_eq_some h,do 0<|List.find?_some h}
def lZ(hn:(xs.map (·.pt)).Nodup)(h:x∈xs):fX xs x.pt=!x:=do(by induction xs with|nil|cons y xs a=>?_);-h;hn<-[zm,zv];@fX;[vd];z<|y.pt=x.pt;[qH z];rfl||h:=qt.mp h;2;absurd (qc.mpr ⟨x,h,z.symm⟩) hn.1;[decide_eq_false z];rfl||h:=qt.mp h;absurd rfl z;a hn.2 h
def PQ{k:List Key}(h:k∉xs.map (·.pt)):fX xs k=none:=jy.mpr λx a z=>h (qc.mpr {x,a,qN z})
def AX(k:List Key):(fX xs k).isSome=hp xs k:=do(by cases q:fX xs k with|some x|none=>?_);{h1,h2}:=ph q;[gU.mpr (qc.mpr {x,h1,h2})];2;(by cases z:hp xs k with|false|true=>?_);2;{x,a,e}:=qc.mp (gU.mp z);absurd (List.find?_eq_none.mp q x a) (do#[e])
def o_{k:List Key}:gX xs k≠none↔hp xs k=true:=do[<-AX];@gX;by cases fX xs k <;> simp
def uP{k o:List Key}(h:gX xs k=!o):∃x∈xs,x.pt=k/\x.ou=o:=do _;{x,h1,h2}:=wu.mp h;{x,(ph h1).1,(ph h1).2,h2}
def PF{k:List Key}(h:k∉xs.map (·.pt)):gX xs k=none:=do@gX;[PQ h];2
end
structure XW(xs:List Pc):Prop where
 nd:(xs.map (·.pt)).Nodup
 w:∀x∈xs,yI x
 G_:∀x∈xs,∀y∈xs,x=y\/bO x.ka x.kb y.ka y.kb\/bO y.ka y.kb x.ka x.kb
 bY:xs.length<=100
def JV(a b:Int):¬bO a b a b:=do@bO;()
def Lx(h:bO a b c d)(g:bO c d e f):bO a b e f:=by unfold bO at *;omega
section
variable {xs:List Pc}
def XW.Um(W:XW xs)(a b:List Key)(f:gX xs a≠none)(e:gX xs b≠none):a=b\/Nz xs a b\/Nz xs b a:=do _;{x,d,rfl}:=qc.mp (gU.mp (o_.mp f));{y,c,rfl}:=qc.mp (gU.mp (o_.mp e));rfl||h||h:=W.G_ x d y c;.inl rfl;.inr (.inl ⟨x,y,lZ W.nd d,lZ W.nd c,h⟩);.inr (.inr ⟨y,x,lZ W.nd c,lZ W.nd d,h⟩)
def XW.pn(W:XW xs){k o:List Key}(h:gX xs k=!o):Pn o:=do _;{x,a,_,rfl}:=uP h;(W.w x a).ou
end
def Ec{rs:List Pc}(h:rs.Pairwise λa b=>bO a.ka a.kb b.ka b.kb){x y:Pc}(e:x∈rs)(d:y∈rs):x=y\/bO x.ka x.kb y.ka y.kb\/bO y.ka y.kb x.ka x.kb:=do _;{i,hi,rfl}:=z6.mp e;{j,c,rfl}:=z6.mp d;hp:=y0.mp h;z||z||z:=Nat.lt_trichotomy i j;.inr (.inl (hp i j hi c z));!z;.inl rfl;.inr (.inr (hp j i c hi z))
def Mc(f:∀r∈rs,yI r)(up:rs.Pairwise λa b=>bO a.ka a.kb b.ka b.kb)(d:rs.length<=100):XW (tl rs) := {BV rs,λx c=>f x (sD c),λx c y e=>Ec up (sD c) (sD e),qf (xj rs) d}
open Classical in
noncomputable def eg(T:List Key->Prop)(x:Pc):Pc:=if T x.pt then{ x with ou:=aZ } else x
section
variable {T:List Key->Prop}{xs:List Pc}
def ya(x:Pc):(eg T x).pt=x.pt:=do@eg;by split <;> rfl
def To(h:T x.pt):eg T x={x with ou:=aZ}:=do@eg;[qE h]
def Bi(h:¬T x.pt):eg T x=x:=do@eg;[qB h]
def Ax(w:yI x):yI (eg T x):=do@eg;3;{w.pt,.inl rfl,w.nm};w
def Na(l:List Pc):(l.map (eg T)).map (·.pt)=l.map (·.pt):=do[zx];z8 λx _=>ya x
end
def fh(H:Hp)(v:V)(k:List Key):Prop:=GK H (.tup k) v
def qV(H:Hp)(v:V)(x:Pc):Prop:=GK H (.tup x.ou) v
theorem qV.af(h:qV H v x)(t:aj H H'):qV H' v x:=GK.af h t
theorem fh.af{k:List Key}(h:fh H v k)(t:aj H H'):fh H' v k:=GK.af h t
def SM(kvs:List 68)(S:List Key->Prop):Prop:=∀k,(vG kvs (.tup k)).isSome=true↔S k
def SM.nil:SM [] (λ_=>False):=λk=>{λz=>absurd z qx,λz=>z.elim}
def SM.put{S S':List Key->Prop}(h:SM kvs S)(y v:V)(a:∀k,S' k↔(k=p\/S k)):SM (pG kvs (.tup p) y v) S':=λk=>do[eE,a];z<|k=p;!z;[qE rfl];{λ_=>.inl rfl,λ_=>rfl};[qB (λy=>z (wK y)),h k];{.inr,λy=>y.resolve_left z}
def SM.yes{S:List Key->Prop}{k:List Key}(h:SM kvs S)(a:S k):(vG kvs (.tup k)).isSome=true:=(h k).mpr a
def SM.no{S:List Key->Prop}{k:List Key}(h:SM kvs S)(a:¬S k):(vG kvs (.tup k)).isSome=false:=j5.mpr λz=>a ((h k).mp z)
def Cg{k:List Key}(h:AL (EK R H) kvs xs)(hn:(xs.map (·.pt)).Nodup):(vG kvs (.tup k)).isSome=(gX xs k).isSome:=do[Cs h hn,<-AX];@gX;by cases fX xs k <;> rfl
def Sm(h:r.pt∉A.map (·.pt)):iE A r=A++[r]:=do@iE;[qB λz=>h (gU.mp z)]
def OS{l:List (List Key)}{xs:List Pc}(hn:l.Nodup)(h:∀a∈l,hp xs a=true):l.length<=xs.length:=by have:l.length<=(xs.map (·.pt)).length:=(do sub:∀(l m:List (List Key)),l.Nodup->(∀a∈l,a∈m)->l.length<=m.length:=λl=>(do(by induction l with|nil|cons a l g=>?_);(m,_,_);q0 _;(m,hn,d);{A,B,e}:=rj (d a qi);this:=g (A++B) (zv.mp hn).2 λb c=>(do h1:=d b (qm _ c);h1<-[e];z||z:=qz.mp h1;yo _ z;rfl||z:=qt.mp z;absurd c (zv.mp hn).1;z7 _ z);[e,qg,zf];this<-[qg];[zf];());sub l _ hn λa f=>gU.mp (h a f));rwa [qh]at this
def kQ(h:n<=100000):n<sizeLine:=do[sizeLine_eq];()
def xZ{β α:Type}{P:β->α->Prop}{ws:List β}{ini:List α}{las:α}(h:AL P ws (ini++[las])):∃us v,ws=us++[v]/\AL P us ini/\P v las:=do a:=h.1;a<-[qg,qr];z||{us,v,z}:=ji ws;a<-[z];absurd a (do 0);z<-[jj];!z;d:us.length=ini.length:=(do a<-[qg,qr];());{us,v,O,{d,λm v r b c=>h.2 m v r ?_ ?_},h.2 us.length v las (do 0) (do[d];0)};[zt (qw.mp b).1];b;[zt (qw.mp c).1];c
def SF{β α:Type}{P:β->α->Prop}{ws:List β}{ls:List α}(h:AL P ws ls)(r:Nat):AL P (ws.drop r) (ls.drop r) := {do[v9,v9,h.1],λm v k a b=>do(by rw[mx]at a b);h.2 _ v k a b}
def NX{a:UJ}{kvs:List 68}{H:Hp}{R:It->Hp->Prop}(r:Rd H a 69)(k:∀(o:Obj) (Y:Hp),(∀b u,b≠a->H b=!u->Y b=!u)->(∀b,Y b=none->H b=none)->Y a=!(.du o 69)->R (vP a o kvs) Y) : (H a=! 69/\∀o,R (vP a o kvs) (upd H a (.du o 69)))\/∃o,H a=!(.du o 69)/\R (vP a o kvs) H:=do e||{o,e}:=r;.inl ⟨e,λo=>k o _ (λb u n e=>do[az n];e) (λb q=>?_) aF⟩;z<|b=a;!z;q<-[aF];-q;q<-[az z];q;.inr {o,e,k o H (λ_ _ _ e=>e) (λ_ e=>e) e}
def uH{a:UJ}{kvs:List 68}{H:Hp}{R:It->Hp->Prop}(r:Rd H a 69)(k:∀(o:Obj) (Y:Hp),(∀b u,b≠a->H b=!u->Y b=!u)->(∀b,Y b=none->H b=none)->Y a=!(.du o 69)->R (si a o kvs) Y) : (H a=! 69/\∀o,R (si a o kvs) (upd H a (.du o 69)))\/∃o,H a=!(.du o 69)/\R (si a o kvs) H:=do e||{o,e}:=r;.inl ⟨e,λo=>k o _ (λb u n e=>do[az n];e) (λb q=>?_) aF⟩;z<|b=a;!z;q<-[aF];-q;q<-[az z];q;.inr {o,e,k o H (λ_ _ _ e=>e) (λ_ e=>e) e}
def Tr{us:List V}{v:V}{r:Nat}(h:r<=us.length):ef (us++[v]) (!(r:Int)) (!(-1))=us.drop r:=do@ef;[HT.kH];e:HT.b_ (us++[v]).length (us++[v]).length (!(-1))=us.length:=(do@HT.b_;[qg,qr];#[_,show((-1:Int)<0) from ⋯,if_true];());[e,qg,qr,m6 (),List.drop_append_of_le_length h];[List.take_append_of_le_length (do[v9];qb _),jd (do[v9];qb _)]
def Dk(h:AL (fh H) ws ls):dn H ws (ls.map tD):=AL.iw (λ_ _ z=>bC z) h
def Se(ls:List (List Key))(k:List Key):((ls.map tD).countP λd=>PyData.eqv d (tD k))=ls.countP λa=>decide (a=k):=do[List.countP_map];List.countP_congr λa _=>do¬(PyData.eqv (tD a) (tD k)=true↔_);[fH]
def HL(hn:ini.Nodup):((((ini++[las]).map tD).countP λd=>PyData.eqv d (tD las))>1)↔las∈ini:=do[Se,List.countP_append];h1:List.countP (λa=>decide (a=las)) [las]=1:=(do 0);[h1];1;(h);this:0<List.countP (λa=>decide (a=las)) ini:=();{a,b,e}:=rn.mp this;[<-qN e];b;(h);this:0<List.countP (λa=>decide (a=las)) ini:=rn.mpr {las,h,qH rfl};()
structure WP(g:List Key->Option (List Key))(E:List Key->Prop)(p:List Key)(ini:List (List Key))(las:List Key):Prop where
 hd:(ini++[las]).head?=!p
 ch:∀(i:Nat) a b,(ini++[las])[i]?=!a->(ini++[las])[i+1]?=!b->g a=!b
 nd:(ini++[las]).Nodup
 out:∀a∈ini,¬E a
section
variable {g:List Key->Option (List Key)}{E:List Key->Prop}{p las o:List Key}{ini:List (List Key)}
def WP.one:WP g E p [] p:={O,λi a b h1 h2=>do h2<-0,List.nodup_cons.mpr {(λz=>nomatch z),List.nodup_nil},λa z=>nomatch z}
def WP.Tu(w:WP g E p ini las):ini.Nodup:=(yn.mp w.nd).1
def WP.Fd(w:WP g E p ini las):las∉ini:=λz=>(yn.mp w.nd).2.2 las z las (qo.mpr rfl) rfl
def WP.stop(w:WP g E p ini las)(h:g las=none\/E las):Rnd.WO g E p ini las:={w.hd,w.ch,w.Tu,w.out,.inr {w.Fd,h}}
def WP.hd2(w:WP g E p ini las)(o:List Key):((ini++[las])++[o]).head?=!p:=do this:=w.hd;[List.head?_append,this];2
def WP.TQ(w:WP g E p ini las)(e:g las=!o):∀(i:Nat) a b,((ini++[las])++[o])[i]?=!a->((ini++[las])++[o])[i+1]?=!b->g a=!b:=λi a b h1 h2=>do d:(ini++[las]).length=ini.length+1:=(do[qg,qr]);z<|i+1<(ini++[las]).length;h1<-[zt ()];h2<-[zt z];w.ch i a b h1 h2;c:=(qw.mp h2).1;c<-[qg,qr];hi:i=ini.length:=();!hi;h1<-[zt ()];h2<-[yh ()];h1:las=a:=(do 0<|h1);h2:o=b:=(by simpa[d] using h2);[<-h1,<-h2];e
def WP.again(w:WP g E p ini las)(e:g las=!o)(b:¬E las)(h:o∈ini++[las]):Rnd.WO g E p (ini++[las]) o:={w.hd2 o,w.TQ e,w.nd,λa c=>do z||z:=qz.mp c;w.out a z;[qo.mp z];b,.inl h}
def WP.on(w:WP g E p ini las)(e:g las=!o)(f:¬E las)(h:o∉ini++[las]):WP g E p (ini++[las]) o:={w.hd2 o,w.TQ e,yn.mpr {w.nd,zv.mpr {(λz=>nomatch z),wv},λa c b d z=>h (do[<-qo.mp d,<-z];c)},λa c=>do z||z:=qz.mp c;w.out a z;[qo.mp z];f}
def WP.zV(w:WP g E p ini las)(h:a∈ini):g a≠none:=λz=>do _;{i,hi,rfl}:=z6.mp h;c:(ini++[las])[i]?=some ini[i]:=(do[zt hi,qe hi]);b:i+1<(ini++[las]).length:=(do[qg,qr];());this:=w.ch i _ _ c (qe b);this<-[z];-this
def WP.fits(w:WP (gX ys) E p ini las):ini.length<=ys.length:=OS w.Tu λa b=>o_.mp (w.zV b)
end
def RT(g:TG)(tb:TS)(D:Ends)(σ:L2.St)(J:It)(H1:Hp):Prop:=∃W:Nat->Nat->L2.St->Hp->Prop,(∃m,W 0 m σ H1)/\∀i m σ H,W i m σ H-> (J.stop i H/\D.nx σ H)\/(J.go i H/\∃N:L2.St->Hp->Prop,(∀σ' H',N σ' H'->∃b,b<m/\W (i+1) b σ' H')/\∀x H',J.zF i H x H'->g x σ H' λa H2=>tb {D with nx:=N,ct:=N,bk:=D.nx} a H2)
def Nl{g:TG}(h:a σ H (RT g tb D σ)):E8 a g tb D σ H:=h
def tG(e:H a=!o)(c:∀ys,o≠.tup ys)(s:ag (del H a) H'):aj H H':=λb xs q=>s _ _ (do[bW (λz=>do q<-[z,e];c xs (qJ q))];q)
def nd:List Key->KD|[]=>.aV|a::r=>.tup (a::r)
def kB{k:List Key}(h:k≠[]):nd k=.tup k:=do(by cases k with|nil|cons a r=>?_);absurd rfl h;2
def rM(h:nd a=nd b):a=b:=by cases a with|nil|cons a r=>?_;cases b with|nil|cons b r=>?_;rfl;cases h;cases b with|nil|cons b q=>?_;cases h;injection h
def Nm.ne{k:List Key}(h:Nm k):k≠[]:=do _;{w,x,rfl,_}:=h;λz=>nomatch z
def Pn.ne{k:List Key}(h:Pn k):k≠[]:=do _;{w,x,rfl}:=h.two;λz=>nomatch z
def Qn(k:List Key):Prop:=k=[]\/Pn k
def CD(H:Hp)(v:V)(k:List Key):Prop:=GK H (nd k) v
def iH(H:Hp)(v:V)(x:Pc):Prop:=GK H (nd x.ou) v
theorem iH.af(h:iH H v x)(t:aj H H'):iH H' v x:=GK.af h t
theorem CD.af{k:List Key}(h:CD H v k)(t:aj H H'):CD H' v k:=GK.af h t
def iq{k:List Key}(h:k≠[])(g:GK H (.tup k) v):GK H (nd k) v:=do[kB h];g
def AH{k:List Key}(h:k≠[])(g:GK H (nd k) v):GK H (.tup k) v:=do g<-[kB h];g
def fP(kvs:List 68)(S:List Key->Prop):Prop:=∀k,(vG kvs (nd k)).isSome=true↔S k
def fP.nil:fP [] (λ_=>False):=λk=>{λz=>absurd z qx,λz=>z.elim}
def fP.put{S S':List Key->Prop}(h:fP kvs S)(y v:V)(a:∀k,S' k↔(k=p\/S k)):fP (pG kvs (nd p) y v) S':=λk=>do[eE,a];z<|k=p;!z;[qE rfl];{λ_=>.inl rfl,λ_=>rfl};[qB (λy=>z (rM y)),h k];{.inr,λy=>y.resolve_left z}
def fP.Oe{S S':List Key->Prop}(h:fP kvs S)(hp:p≠[])(y v:V)(a:∀k,S' k↔(k=p\/S k)):fP (pG kvs (.tup p) y v) S':=do[<-kB hp];h.put y v a
def fP.yes{S:List Key->Prop}{k:List Key}(h:fP kvs S)(a:S k):(vG kvs (nd k)).isSome=true:=(h k).mpr a
def fP.no{S:List Key->Prop}{k:List Key}(h:fP kvs S)(a:¬S k):(vG kvs (nd k)).isSome=false:=j5.mpr λz=>a ((h k).mp z)
section
variable {R:V->Pc->Prop}{H:Hp}{kvs:List 68}{xs:List Pc}{k:List Key}
def C5(hz:∀x∈xs,x.pt≠[]):gX xs []=none:=PF λz=>do _;{x,a,e}:=qc.mp z;hz x a e
def E7(h:AL (EK R H) kvs xs)(hn:(xs.map (·.pt)).Nodup)(hz:∀x∈xs,x.pt≠[]):(vG kvs (nd k)).isSome=(gX xs k).isSome:=do e<|k=[];!e;[C5 hz,show nd []=KD.aV from rfl,oy λe a z=>?_];2;{r,_,p}:=h.mem a;z<-[p.1];-z;[kB e];Cg h hn
def Kk(h:AL (EK (iH H) H) kvs xs)(hn:(xs.map (·.pt)).Nodup)(hz:∀x∈xs,x.pt≠[])(e:gX xs k=!o):∃v,vG kvs (nd k)=!v/\GK H (nd o) v:=do _;{x,a,rfl,rfl}:=uP e;[kB (hz x a)];rr h hn a
end
theorem xX{α:Type}:∀(l m:List α),l.Nodup->(∀a∈l,a∈m)->l.length<=m.length|[],m,_,_=>q0 _|a::l,m,hn,hs=>do _;{A,B,e}:=rj (hs a qi);this:=xX l (A++B) (zv.mp hn).2 λb c=>(do h1:=hs b (qm _ c);h1<-[e];z||z:=qz.mp h1;yo _ z;rfl||z:=qt.mp z;absurd c (zv.mp hn).1;z7 _ z);[e,qg,zf];this<-[qg];[zf];()
def nodes(ys:List Pc):List (List Key):=aZ::(ys.map (·.pt)++ys.map (·.ou))
def O9(h:x∈ys):x.pt∈nodes ys:=qm _ (yo _ (qc.mpr {x,h,O}))
def Rv{k o:List Key}(h:gX ys k=!o):o∈nodes ys:=do _;{x,a,_,rfl}:=uP h;qm _ (z7 _ (qc.mpr {x,a,O}))
section
variable {H H':Hp}{ys:List Pc}{f:List Key->Option Bool}{kr:List 68}
def Pd{α β:Type}(kvs:List (KD×α×β))(k:KD)(y:α)(v:β):(pG kvs k y v).map (·.1)=if(vG kvs k).isSome=true then kvs.map (·.1) else kvs.map (·.1)++[k]:=do@pG;h<|(vG kvs k).isSome=true;[qE h,qE h,zx];z8 λe _=>?_;¬(if e.1=k then(e.1,e.2.1,v) else e).1=e.1;(by split <;> rfl);[qB h,qB h,zy];2
def Ol{α β:Type}{kvs:List (KD×α×β)}(h:(kvs.map (·.1)).Nodup)(k:KD)(y:α)(v:β):((pG kvs k y v).map (·.1)).Nodup:=do[Pd];q<|(vG kvs k).isSome=true;[qE q];h;[qB q,yn];hn:vG kvs k=none:=(do(by cases z:vG kvs k with|none|some u=>?_);2;q<-[z];absurd rfl q);{h,zv.mpr {(λz=>nomatch z),wv},λa d b c e=>?_};{x,f,rfl}:=qc.mp d;pJ hn x f (e.trans (qo.mp c))
def Md{α β:Type}{kvs:List (KD×α×β)}{k:KD}{y:α}{v:β}{e:KD×α×β}(h:e∈pG kvs k y v):(e=(k,y,v))\/∃a∈kvs,a.1=e.1/\a.2.1=e.2.1:=do(by unfold pG at h);q<|(vG kvs k).isSome=true;h<-[qE q];{a,b,rfl}:=qc.mp h;.inr {a,b,?_};z<|a.1=k;[qE z];{O,O};[qB z];{O,O};h<-[qB q];z||z:=qz.mp h;.inr ⟨e,z,O,O⟩;.inl (qo.mp z)
end
open Classical in
noncomputable def lfp(cu:List (List Key))(x:Pc):Bool:=decide (x.pt∉cu)
def IK(h:x.pt∉cu):lfp cu x=true:=do@lfp;0<|h
def Ir(h:x.pt∈cu):lfp cu x=false:=do@lfp;0<|h
def Jq:∀{ks:List (List Key)} {xs:List 68} {S:List Key->Prop},AL (λe k=>e.1=nd k) es ks->fP xs S->fP (putAll xs es) (λk=>S k\/k∈ks):=do(by induction es with|nil|cons e es b=>?_);(ks,xs,S,h,g);(by cases ks with|nil|cons k ks=>?_);λk=>(g k).trans {.inl,λz=>z.resolve_right (λy=>nomatch y)};h.none.elim;(ks,xs,S,h,g);(by cases ks with|nil|cons k ks=>?_);h.nothing.elim;h1:=b (xs:=pG xs e.1 e.2.1 e.2.2) (S:=λa=>a=k\/S a) h.tail (do[h.head];g.put _ _ λa=>Iff.rfl);λa=>(h1 a).trans ?_;¬(((a=k\/S a)\/a∈ks)↔(S a\/a∈k::ks));[qt];1;((z||z)||z);.inr (.inl z);.inl z;.inr (.inr z);(z||z||z);.inl (.inr z);.inl (.inl z);.inr z
theorem AO{β α:Type}{P:β->α->Prop}:∀{vs:List β},(∀v∈vs,∃r,P v r)->∃rs,AL P vs rs|[],_=>{[],.nil}|v::vs,h=>do _;{r,a}:=h v qi;{rs,h2}:=AO λx b=>h x (qm _ b);{r::rs,.cons a h2}
theorem uF{β α a:Type}{P:β->α->Prop}{f:β->a}{g:α->a}:∀{vs:List β} {rs:List α},AL P vs rs->(∀v r,P v r->f v=g r)->vs.map f=rs.map g|[],[],_,_=>rfl|[],_::_,h,_=>h.none.elim|_::_,[],h,_=>h.nothing.elim|_::_,_::_,h,k=>do[zm,zm,k _ _ h.head,uF h.tail k]
def Ls{kvs:List 68}{k:KD}{v:V}(h:vG kvs k=!v):∃e∈kvs,e.1=k:=do _;{e,a,_}:=wu.mp h;{e,List.mem_of_find?_eq_some a,do 0<|List.find?_some a}
structure Sg where
 pt:List Key
 nk:List Key
 bh:Option Nat
 ka:Int
 kb:Int
 kc:Int
 sg:UI
 lv:Bool
def cm(S:Nat->Sg)(i:Nat):List Key:=(S i).nk
def pT(S:Nat->Sg)(i:Nat):Option Nat:=(S i).bh
def DS(S:Nat->Sg)(i:Nat):UI:=.tuple [.int (S i).ka,.int (S i).kb,.int (S i).kc]
inductive SN(S:Nat->Sg)(H:Hp)(v:V)(i:Nat):Prop
 |mk(b:UJ)(vp vn vb:V)(kq:UJ)(vs:V)(h0:v=.ref b)(h1:H b=!(.tup [vp,vn,vb,.ref kq,vs,.bl (S i).lv]))(h2:GK H (.tup (S i).pt) vp)(h3:NM (cm S) H vn i)(h4:GK H (kd (cm S) (pT S i)) vb)(h5:H kq=!(.tup [.int (S i).ka,.int (S i).kb,.int (S i).kc]))(h6:DT H vs (S i).sg)
theorem SN.af{S:Nat->Sg}(h:SN S H v i)(t:aj H H'):SN S H' v i:=do _;{b,d,vn,f,kq,vs,e,h1,h2,c,g,a,j}:=h;{b,d,vn,f,kq,vs,e,t _ _ h1,h2.af t,c.af t,g.af t,t _ _ a,j.af t}
def NK(x y:Sg):Prop:=x.ka<y.ka\/(x.ka=y.ka/\(x.kb<y.kb\/(x.kb=y.kb/\x.kc<y.kc)))
def Jw{S:Nat->Sg}(h:NK (S i) (S j)):bN (DS S i) (DS S j)=true:=do@DS;[bN];h||{e,h||{e',h}}:=h;uG h;[e];wR (uG h);[e,e'];wR (wR (uG h))
def ML(d:UI):Prop:=d.canLay0=true/\sk d d=true/\d.depth<=3
structure WS(S:Nat->Sg)(n:Nat):Prop where
 bY:n<=1400
 up:∀i j,i<j->j<n->NK (S i) (S j)
 inj:∀i,i<n->∀j,j<n->(S i).nk=(S j).nk->i=j
 back:∀i,i<n->∀j,(S i).bh=!j->j<i/\(S j).pt=(S i).pt
 lay:∀i,i<n->Lay (S i).nk/\Lay (S i).pt
 sgn:∀i,i<n->ML (S i).sg
def lY(S:Nat->Sg)(pt:List Key)(i:Nat):Bool:=decide ((S i).pt=pt)
def f9{S:Nat->Sg}{pt:List Key}:lY S pt i=true↔(S i).pt=pt:=decide_eq_true_iff
def bM(S:Nat->Sg)(n:Nat)(pt:List Key):List Nat:=(List.range n).filter (lY S pt)
def aB(S:Nat->Sg)(n:Nat)(pt:List Key):List Nat:=Rga.eB (Rga.cC (pT S) (bM S n pt))
def aQ(S:Nat->Sg)(n:Nat)(pt:List Key):List Nat:=(aB S n pt).filter λi=>(S i).lv
def WS.uZ{S:Nat->Sg}(W:WS S n)(pt:List Key):xJ (cm S) (pT S) (DS S) (bM S n pt) 2:=do o:xJ (cm S) (pT S) (DS S) (List.range n) 2:=(do _;{do[zg];this:=W.bY;(),?_,λi hi j f e=>W.inj i (qj.mp hi) j (qj.mp f) e,Rga.fJ λi hi b e=>(W.back i hi b e).1,rD λd m=>?_};(tS n).imp_of_mem λ{a b} p l h=>Jw (W.up a b h (qj.mp l));{i,_,rfl}:=qc.mp m;.inr {_,_,_,O});o.filter λk c g b e=>?_;{h1,h2}:=W.back k (qj.mp c) b e;f9.mpr (h2.trans (f9.mp g))
def Q7{S:Nat->Sg}{pt:List Key}(h:i∈bM S n pt):i<n/\(S i).pt=pt:={qj.mp (qk.mp h).1,f9.mp (qk.mp h).2}
def gF{S:Nat->Sg}{pt:List Key}(W:WS S n):i∈aB S n pt↔i<n/\(S i).pt=pt:=do e:=Rga.dP (pT S) (bM S n pt);h:i∈aB S n pt↔i∈Rga.jB (Rga.cC (pT S) (bM S n pt)):=(Rga.cF (W.uZ pt).wf).mem_iff;[h,e,vy];{Q7,λz=>qk.mpr {qj.mpr z.1,f9.mpr z.2}}
def fN{S:Nat->Sg}{pt:List Key}(W:WS S n)(h:i∈aB S n pt):i<n:=((gF W).mp h).1
def mC{S:Nat->Sg}{pt:List Key}(W:WS S n):(aB S n pt).Nodup:=Rga.jV (W.uZ pt).wf
def iS{S:Nat->Sg}{pt:List Key}(W:WS S n):(aB S n pt).length<=n:=do@aB;[Rga.ie (W.uZ pt).wf];qf (wg _ _) (do[zg];qb _)
def FG(H:Hp)(fa:UJ)(S:Nat->Sg)(n:Nat):Prop:=∃kvs a vs,Rd H fa (.dK kvs)/\bJ kvs (.inr "signs")=!(.ref a)/\H a=!(.lst vs)/\AN (SN S H) vs (List.range n)/\WS S n
theorem FG.same{S:Nat->Sg}(h:FG H fa S n)(s:ag H H'):FG H' fa S n:=do _;{kvs,a,vs,h1,h2,d,b,c}:=h;{kvs,a,vs,Rd.same h1 s,h2,s _ _ d,b.imp λv i g=>g.af s.af,c}
def lV(S:Nat->Sg)(n:Nat)(r:Sg):Nat->Sg:=λi=>if i=n then r else S i
def fv{S:Nat->Sg}(h:i<n):lV S n r i=S i:=qB ()
def hP{S:Nat->Sg}:lV S n r n=r:=qE rfl
def G0(S S':Nat->Sg)(n:Nat):Prop:=∀i,i<n->S' i=S i
def G0.ext(S:Nat->Sg)(n:Nat)(r:Sg):G0 S (lV S n r) n:=λi hi=>fv hi
def NM.DJ{S S':Nat->Sg}(a:G0 S S' n)(hi:i<n)(h:NM (cm S) H v i):NM (cm S') H v i:=do(by unfold NM cm at h ⊢);[a i hi];h
theorem SN.DJ{S S':Nat->Sg}(a:G0 S S' n)(hi:i<n)(l:∀j,(S i).bh=!j->j<n)(h:SN S H v i):SN S' H v i:=do _;{b,k,vn,m,kq,vs,e,h1,h2,g,d,f,o}:=h;c:S' i=S i:=a i hi;{b,k,vn,m,kq,vs,e,do[c];h1,do[c];h2,NM.DJ a hi g,?_,do[c];f,do[c];o};(by unfold pT at d ⊢);[c];(by cases z:(S i).bh with|none|some j=>?_);d<-[z];d;d<-[z];NM.DJ a (l j z) d
def WS.ext{S:Nat->Sg}(W:WS S n)(hn:n<1400)(up:∀i,i<n->NK (S i) r)(ne:∀i,i<n->(S i).nk≠r.nk)(bk:∀j,r.bh=!j->j<n/\(S j).pt=r.pt)(d:Lay r.nk)(f:Lay r.pt)(c:ML r.sg):WS (lV S n r) (n+1) where
 bY:=hn
 up:=λi j h1 h2=>by
  by_cases z:j=n
  .subst z
   rw[hP,fv h1];exact up i h1
  .rw[fv (show j<n from ()),fv (show i<n from ())]
   exact W.up i j h1 ()
 inj:=λi hi j g e=>by
  by_cases b:i=n
  .by_cases a:j=n
   .omega
   .rw[b,hP,fv (show j<n from ())]at e
    exact absurd e.symm (ne j ())
  .by_cases a:j=n
   .rw[a,hP,fv (show i<n from ())]at e
    exact absurd e (ne i ())
   .rw[fv (show i<n from ()),fv (show j<n from ())]at e
    exact W.inj i () j () e
 back:=λi hi j e=>by
  by_cases z:i=n
  .subst z
   rw[hP]at e ⊢;obtain⟨h1,h2⟩:=bk j e;rw[fv h1];exact{h1,h2}
  .rw[fv (show i<n from ())]at e ⊢
   obtain⟨h1,h2⟩:=W.back i () j e;rw[fv (show j<n from ())];exact{h1,h2}
 lay:=λi hi=>by
  by_cases z:i=n
  .subst z;rw[hP];exact{d,f}
  .rw[fv (show i<n from ())];exact W.lay i ()
 sgn:=λi hi=>by
  by_cases z:i=n
  .subst z;rw[hP];exact c
  .rw[fv (show i<n from ())];exact W.sgn i ()
abbrev Sd:=Option (Nat×Bool)
def Tz(b:Bool):UK:=if b then "behind" else "ahead"
def nc(S:Nat->Sg)(H:Hp):Sd->V->Prop|none,v=>v=.aV|some (i,b),v=>∃a vn,v=.ref a/\H a=!(.tup [vn,.str (Tz b)])/\NM (cm S) H vn i
theorem nc.af{S:Nat->Sg}(h:nc S H d v)(t:aj H H'):nc S H' d v:=by match d,h with|none,h=>exact h|some (i,b),⟨a,vn,e,h1,h2⟩=>exact{a,vn,e,t _ _ h1,h2.af t}
def dC(S:Nat->Sg)(n:Nat)(pt:List Key)(d:Sd):Prop:=∀i b,d=!(i,b)->i<n/\(S i).pt=pt
structure Mk where
 pt:List Key
 b:Sd
 e:Sd
 kd:UK
 vl:Option UK
 nm:List Key
 ka:Int
 kb:Int
def Tx:Option UK->V|none=>.aV|some z=>.str z
inductive MN(S:Nat->Sg)(M:Nat->Mk)(H:Hp)(v:V)(i:Nat):Prop
 |mk(b:UJ)(vp vb ve vn:V)(kq:UJ)(h0:v=.ref b)(h1:H b=!(.tup [vp,vb,ve,.str (M i).kd,Tx (M i).vl,vn,.ref kq]))(h2:GK H (.tup (M i).pt) vp)(h3:nc S H (M i).b vb)(h4:nc S H (M i).e ve)(h5:GK H (.tup (M i).nm) vn)(h6:H kq=!(.tup [.int (M i).ka,.int (M i).kb]))
theorem MN.af{S:Nat->Sg}(h:MN S M H v i)(t:aj H H'):MN S M H' v i:=do _;{b,d,f,k,vn,kq,e,h1,h2,c,j,a,g}:=h;{b,d,f,k,vn,kq,e,t _ _ h1,h2.af t,c.af t,j.af t,a.af t,t _ _ g}
structure WK(S:Nat->Sg)(n:Nat)(M:Nat->Mk)(m:Nat):Prop where
 bY:m<=70
 up:∀i j,i<j->j<m->bO (M i).ka (M i).kb (M j).ka (M j).kb
 sd:∀i,i<m->dC S n (M i).pt (M i).b/\dC S n (M i).pt (M i).e
 lay:∀i,i<m->Lay (M i).pt/\Lay (M i).nm/\PyData.strOk (M i).kd=true/\∀z,(M i).vl=!z->PyData.strOk z=true
def iL(M:Nat->Mk)(n:Nat)(r:Mk):Nat->Mk:=λi=>if i=n then r else M i
def j_(h:i<n):iL M n r i=M i:=qB ()
def nV:iL M n r n=r:=qE rfl
def MN.ext{S:Nat->Sg}(hi:i<n)(h:MN S M H v i):MN S (iL M n r) H v i:=do e:iL M n r i=M i:=j_ hi;{b,d,f,k,vn,kq,h0,h1,h2,c,j,a,g}:=h;{b,d,f,k,vn,kq,h0,do[e];h1,do[e];h2,do[e];c,do[e];j,do[e];a,do[e];g}
def WK.ext{S:Nat->Sg}(W:WK S n M m)(a:m<70)(up:∀i,i<m->bO (M i).ka (M i).kb r.ka r.kb)(sd:dC S n r.pt r.b/\dC S n r.pt r.e)(l:Lay r.pt/\Lay r.nm/\PyData.strOk r.kd=true/\∀z,r.vl=!z->PyData.strOk z=true):WK S n (iL M m r) (m+1) where
 bY:=a
 up:=λi j h1 h2=>by
  by_cases z:j=m
  .subst z
   rw[nV,j_ h1];exact up i h1
  .rw[j_ (show j<m from ()),j_ (show i<m from ())]
   exact W.up i j h1 ()
 sd:=λi hi=>by
  by_cases z:i=m
  .subst z;rw[nV];exact sd
  .rw[j_ (show i<m from ())];exact W.sd i ()
 lay:=λi hi=>by
  by_cases z:i=m
  .subst z;rw[nV];exact l
  .rw[j_ (show i<m from ())];exact W.lay i ()
inductive NN(S:Nat->Sg)(M:Nat->Mk)(H:Hp)(v:V)(i:Nat):Prop
 |mk(b:UJ)(vp vb ve vn:V)(kq:UJ)(h0:v=.ref b)(h1:H b=!(.tup [vp,vb,ve,.str (M i).kd,vn,.ref kq]))(h2:GK H (.tup (M i).pt) vp)(h3:nc S H (M i).b vb)(h4:nc S H (M i).e ve)(h5:GK H (.tup (M i).nm) vn)(h6:H kq=!(.tup [.int (M i).ka,.int (M i).kb]))
theorem NN.af{S:Nat->Sg}(h:NN S M H v i)(t:aj H H'):NN S M H' v i:=do _;{b,d,f,k,vn,kq,e,h1,h2,c,j,a,g}:=h;{b,d,f,k,vn,kq,e,t _ _ h1,h2.af t,c.af t,j.af t,a.af t,t _ _ g}
def NN.ext{S:Nat->Sg}(hi:i<n)(h:NN S M H v i):NN S (iL M n r) H v i:=do e:iL M n r i=M i:=j_ hi;{b,d,f,k,vn,kq,h0,h1,h2,c,j,a,g}:=h;{b,d,f,k,vn,kq,h0,do[e];h1,do[e];h2,do[e];c,do[e];j,do[e];a,do[e];g}
structure FS(H:Hp)(fa:UJ)(F:Nat->UJ)(S:Nat->Sg)(n:Nat)(M:Nat->Mk)(m:Nat)(N:Nat->Mk)(q:Nat)(vs ms ns:List V):Prop where
 dk:lh H fa F
 inj:∀i,i<9->∀j,j<9->F i=F j->i=j
 rest:∀i,i<9->i≠3->i≠4->i≠5->∃xs,H (F i)=!(.lst xs)
 sl:H (F 3)=!(.lst vs)
 sa:AN (SN S H) vs (List.range n)
 ws:WS S n
 ml:H (F 4)=!(.lst ms)
 ma:AN (MN S M H) ms (List.range m)
 wm:WK S n M m
 nl:H (F 5)=!(.lst ns)
 na:AN (NN S N H) ns (List.range q)
 wn:WK S n N q
section
variable {H H':Hp}{fa:UJ}{F:Nat->UJ}{S S':Nat->Sg}{n n':Nat}{M:Nat->Mk}{m:Nat}{N:Nat->Mk}{q:Nat}{vs ms ns:List V}
def FS.fg(h:FS H fa F S n M m N q vs ms ns):FG H fa S n:=let⟨kvs,r,g⟩:=h.dk;{kvs,F 3,vs,r,g 3 ⋯,h.sl,h.sa,h.ws}
def FS.to(h:FS H fa F S n M m N q vs ms ns)(t:aj H H')(b:lh H' fa F)(a:∀i,i<9->∀xs,H (F i)=!(.lst xs)->H' (F i)=!(.lst xs)):FS H' fa F S n M m N q vs ms ns where
 dk:=b
 inj:=h.inj
 rest:=λi h1 h2 d c=>let⟨xs,e⟩:=h.rest i h1 h2 d c;{xs,a i h1 _ e}
 sl:=a 3 ⋯ _ h.sl
 sa:=h.sa.imp λv i g=>g.af t
 ws:=h.ws
 ml:=a 4 ⋯ _ h.ml
 ma:=h.ma.imp λv i g=>g.af t
 wm:=h.wm
 nl:=a 5 ⋯ _ h.nl
 na:=h.na.imp λv i g=>g.af t
 wn:=h.wn
theorem FS.same(h:FS H fa F S n M m N q vs ms ns)(s:ag H H'):FS H' fa F S n M m N q vs ms ns:=h.to s.af (h.dk.same s) λ_ _ _ e=>s _ _ e
end
end My
namespace L2
open PySem PySem.Spec PySem.W PyProof.Rows
inductive zE(H:Hp)(T:String):V->Bool->Prop
 |str (z:UK):zE H T (.str z) (T=="str")
 |int (i:Int):zE H T (.int i) (T=="int")
 |bl (b:Bool):zE H T (.bl b) (T=="bool"||T=="int")
 |aV:zE H T .aV false
 |tup {p:UJ} {xs:List V} (h:H p=!(.tup xs)):zE H T (.ref p) (T=="tuple")
 |lst {p:UJ} {xs:List V} (h:H p=!(.lst xs)):zE H T (.ref p) (T=="list")
 |Uo {p:UJ} {xs:List (Key×V)} (h:H p=!(.dK xs)):zE H T (.ref p) (T=="dict")
inductive Ud(xs:List V)(H:Hp)(Q:VK):Prop
 |mk(x:V)(T:String)(b:Bool)(h0:xs=[x,.ty T])(hT:(["str","int","bool","tuple","list"]:List String).contains T=true)(h1:zE H T x b)(h2:Q (.bl b) H)
def Ql:cI X (.builtin "isinstance") Ud:=do(pins,s,σ,H,xs,us,Q,I,c,h);{x,T,b,rfl,a,h1,q}:=h;a:T = "str" \/ T = "int" \/ T = "bool" \/ T = "tuple" \/ T = "list":=(do 0<|a);RP pins s σ H _ us Q I c ?_;(by cases h1 with|str z|int i|bl i|aV|tup h|lst h|Uo h=>?_);{_,T,.type "str",_,O,.str _,by rcases a with rfl|rfl|rfl|rfl|rfl <;> rfl,q};{_,T,.type "int",_,O,.int _,by rcases a with rfl|rfl|rfl|rfl|rfl <;> rfl,q};{_,T,.type "bool",_,O,.bl _,by rcases a with rfl|rfl|rfl|rfl|rfl <;> rfl,q};{_,T,.type "NoneType",_,O,.aV,by rcases a with rfl|rfl|rfl|rfl|rfl <;> rfl,q};{_,T,.type "tuple",_,O,.tup h,by rcases a with rfl|rfl|rfl|rfl|rfl <;> rfl,q};{_,T,.type "list",_,O,.lst h,by rcases a with rfl|rfl|rfl|rfl|rfl <;> rfl,q};{_,T,.type "dict",_,O,.dK h,by rcases a with rfl|rfl|rfl|rfl|rfl <;> rfl,q}
end L2
namespace My
open PySem L2 PyProof.Rows
def top(i:Nat):Stmt:=PySem.Challenge.pw_pagefolk_k48_whole_hidden_facts_tell_not.main.body.getD i (.Pass {0,0,0,0})
abbrev vC:Stmt:=top 2
abbrev sj:Stmt:=top 3
abbrev su:Stmt:=top 4
abbrev vB:Stmt:=top 5
abbrev uS:Stmt:=top 6
abbrev sy:Stmt:=top 8
abbrev tO:Stmt:=top 9
abbrev sM:Stmt:=top 10
abbrev lS:Stmt:=top 12
abbrev t_:Stmt:=top 13
abbrev oE:Stmt:=top 14
abbrev uy:Stmt:=top 16
abbrev r_:Stmt:=top 17
abbrev uu:Stmt:=top 18
abbrev uT:Stmt:=top 19
abbrev sV:Stmt:=top 20
abbrev mS:Stmt:=top 21
abbrev jK:Stmt:=top 22
abbrev uk:Stmt:=top 23
abbrev uQ:Stmt:=top 24
abbrev jS:Stmt:=top 25
abbrev mQ:Stmt:=top 27
abbrev vA:Stmt:=top 28
abbrev sF:Stmt:=top 29
abbrev uw:Stmt:=top 30
abbrev tP:Stmt:=top 31
abbrev uY:Stmt:=top 32
abbrev oF:Stmt:=top 33
abbrev lL:Stmt:=top 34
abbrev uh:Stmt:=top 35
abbrev u_:Stmt:=top 36
abbrev jY:Stmt:=top 38
abbrev uL:Stmt:=top 39
abbrev mL:Stmt:=top 40
abbrev oV:Stmt:=top 41
abbrev pf:Stmt:=top 43
abbrev tj:Stmt:=top 44
abbrev pF:Stmt:=top 45
abbrev uC:Stmt:=top 46
abbrev jM:Stmt:=top 47
abbrev sN:Stmt:=top 48
abbrev pL:Stmt:=top 49
abbrev uq:Stmt:=top 51
abbrev sP:Stmt:=top 52
abbrev uA:Stmt:=top 53
abbrev oN:Stmt:=top 54
abbrev sJ:Stmt:=top 55
abbrev pA:Stmt:=top 56
abbrev rZ:Stmt:=top 57
abbrev pH:Stmt:=top 58
abbrev oM:Stmt:=top 59
abbrev pN:Stmt:=top 60
abbrev oP:Stmt:=top 61
abbrev oQ:Stmt:=top 62
abbrev lO:Stmt:=top 63
abbrev gN:Stmt:=top 64
abbrev iu:Stmt:=top 65
abbrev JH:List UK:=["births","part","outer_of","chain"]
abbrev Lg:List UK:=["leaves","hand","to","told","leave"]
abbrev Jf:List UK:=["leave"]
abbrev LP:List UK:=["leaves","chain","hand","to","told","part"]
abbrev MH:List UK:=["roll","births","leaves","hand","part","to","chain"]
abbrev HW:List UK:=["place"]
abbrev Mu:List UK:=["places","followers","place"]
abbrev Ld:List UK:=["places","followers","row","to_come","name"]
abbrev yS:List UK:=["facts","part"]
abbrev Hj:List UK:=["facts","part"]
abbrev Ak:List UK:=["facts","part","lives"]
abbrev JL:List UK:=["seats","side"]
abbrev Ka:List UK:=["seats","begin","end","first"]
abbrev HU:List UK:=["row"]
abbrev M':List UK:=["facts","part","begin","end","row","between"]
abbrev Kq:List UK:=["mark"]
abbrev yR:List UK:=["facts","part","row","seats","telling","mark","over","between"]
abbrev zA:List UK:=["facts","part","place","row","seats","telling","told","name","marks"]
abbrev Mx:List UK:=["facts","part"]
abbrev HQ:List UK:=["note"]
abbrev Ay:List UK:=["facts","part","seats","alive","told","note","between","under"]
abbrev Ko:List UK:=["facts","telling","place","part"]
abbrev MW:List UK:=["outer_of","part","ended","way","on_way","outer"]
abbrev HH:List UK:=["telling","parts"]
abbrev HC:List UK:=["telling","outer_of","turned","ended","part","way","one"]
abbrev HK:List UK:=["telling","turned","stands","part","place"]
abbrev JY:List UK:=["outer_of","reaching","part","way","comes","one"]
abbrev KQ:List UK:=["facts","outer_of","reaching"]
abbrev K3:List UK:=["facts","stands","cut","left","reaching"]
abbrev IQ:List UK:=["facts"]
abbrev K2:List UK:=["facts","telling","stands","shown","inner","part"]
abbrev Ab:List UK:=["facts","part","way","lines","lives"]
abbrev KH:List UK:=["cell"]
abbrev Al:List UK:=["facts","part","cells"]
abbrev zR:List UK:=["facts","part","rows","columns","told","words","row"]
abbrev LI:List UK:=["facts","roll","hand","part"]
abbrev LU:List UK:=["number","place"]
abbrev KJ:List UK:=["facts","roll","hand","inner","told","to_come","coming","is_open","within"]
abbrev Js:List UK:=["numbers","sign"]
abbrev sr:List UK:=["facts","part","numbers","signs","marks"]
abbrev IL:List UK:=["facts","numbers","part","is_open"]
abbrev Kj:List UK:=["facts","roll","hand","told","numbers"]
abbrev KU:List UK:=["_law_script","_law_k"]
abbrev ME:List UK:=["_law_cell","_law_digits"]
abbrev KP:List UK:=["_law_drawn_here","_law_many","_law_number"]
abbrev IA:List UK:=["_law_drawn_here","_law_facts_here","_law_roll","_law_known","_law_wide","_law_k","_law_part","_law_outer","_law_counts","_law_placed"]
abbrev JK:List UK:=["_law_drawn_here","_law_known","_law_way"]
abbrev Kt:List UK:=["_law_drawn_here","_law_facts_here","_law_roll","_law_known","_law_names","_law_k","_law_part","_law_behind","_law_name","_law_lives","_law_key"]
abbrev HV:List UK:=["_law_drawn_here","_law_names"]
abbrev LO:List UK:=["_law_drawn_here","_law_facts_here","_law_roll","_law_names","_law_k","_law_parts_here","_law_part","_law_begin","_law_end","_law_name","_law_value","_law_kind"]
abbrev Ni:List UK:=["_law_drawn_here","_law_facts_here","_law_roll","_law_known","_law_part","_law_rows","_law_columns","_law_k","_law_way","_law_line_name","_law_key","_law_row","_law_column","_law_word"]
abbrev MB:List UK:=["_law_drawn_here","_law_facts_here","_law_roll","_law_known","_law_k","_law_part","_law_hand","_law_to"]
abbrev M_:List UK:=["_law_script","_law_roll","_law_digits","_law_facts_here","_law_key","_law_known","_law_names"]
abbrev AU:List UK:=["_law_facts_here","_law_row","_law_alive"]
abbrev zW:List UK:=["_law_facts_here","_law_row"]
abbrev mB:List UK:=["_law_facts_here","_law_seen","_law_lines","_law_less_here","_law_key"]
abbrev K6:List UK:=["_law_script","_law_roll","_law_facts_here","_law_less_here","_law_hand"]
abbrev cB:UJ:=15
abbrev bD:UJ:=164
abbrev bA:UJ:=207
abbrev RJ:List UK:=["greatest_place","all_inner_parts"]
def Tt(t:UK):UJ:=if t = "greatest_place" then bD else if t = "all_inner_parts" then bA else 0
abbrev MS:List (UJ×List V):=[(cB,[.str "",.int 0])]
structure Txt(K:PySem.W.Frag)(mg:UK->Option MD)(tk:UK->Tok):Prop where
 c6:mg "dict"=none
 gO:mg "enumerate"=none
 zI:mg "int"=none
 jZ:mg "isinstance"=none
 cf:mg "len"=none
 lC:mg "list"=none
 Aw:mg "max"=none
 dM:mg "range"=none
 cN:mg "sorted"=none
 JN:mg "str"=none
 cB:mg "MAIN"=!(.ref cB)
def Rest.refl{S:UJ->Prop}:Rest H H S:=λ_ _ e _=>e
def Rest.same{S:UJ->Prop}(h:Rest H Z S)(s:ag Z Z'):Rest H Z' S:=λb o e n=>s _ _ (h b o e n)
theorem Rest.del{S:UJ->Prop}(h:Rest H Z S)(hp:S p)(s:ag (del Z p) Z'):Rest H Z' S:=λb o e n=>s _ _ (do[bW (λz=>n (do[z];hp))];h b o e n)
def Rest.wr{S:UJ->Prop}(h:Rest H Z S)(hp:S p):Rest H (upd Z p o) S:=λb u e n=>do[az (λz=>n (do[z];hp))];h b u e n
def Rest.af{S:UJ->Prop}(h:Rest H Z S)(c:∀b,S b->∃xs,H b=!(.lst xs)):aj H Z:=λb ys e=>h b _ e λz=>do _;{xs,a}:=c b z;a<-[e];-a
def DP(H:Hp)(p:UJ):Prop:=∃ds:List Int,H p=!(.lst (ds.map V.int))/\∀d∈ds,0<=d/\d<60
def DP.to(s:ag (del H p) H')(h:H b=!o)(n:b≠p):H' b=!o:=s _ _ (do[bW n];h)
def Hg:ag (del H p) (upd H p o):=λb u e=>do z<|b=p;!z;e<-[eG];-e;e<-[bW z];[az z];e
def ag.j0(a:ag (del H p) H')(b:ag (del H' p) d):ag (del H p) d:=λc o e=>do z<|c=p;!z;e<-[eG];-e;b _ _ (do[bW z];a _ _ e)
def ag.sd(a:ag H H')(b:ag (del H' p) d):ag (del H p) d:=λc o e=>do z<|c=p;!z;e<-[eG];-e;b _ _ (do(by rw[bW z]at e ⊢);a _ _ e)
def uX(x y:UK):(x++y).length=x.length+y.length:=do¬(x.cps++y.cps).size=_;[Array.size_append];2
def CY{k:KD}(y v:V)(h:∀x∈kvs,x.1≠k):pG kvs k y v=kvs++[(k,y,v)]:=do@pG;[oy h,qB (λz=>nomatch z)]
def bG(js:List Nat):Sd->Nat|none=>js.length|some (i,b)=>js.idxOf i+if b then 1 else 0
def oR(js:List Nat)(b e:Sd):List Nat:=(js.drop (bG js b)).take (bG js e - bG js b)
def sx(nk:Nat->List Key)(js:List Nat)(kvs:List 68):Prop:=kvs.length=js.length/\∀i∈js,vG kvs (.tup (nk i))=!(.int ((js.idxOf i:Nat):Int))
def d9(js:List Nat)(d:Sd):Prop:=∀i b,d=!(i,b)->i∈js
def Inj(nk:Nat->List Key)(js:List Nat):Prop:=∀i∈js,∀j∈js,nk i=nk j->i=j
def Bh{js:List Nat}(nd:js.Nodup){j i:Nat}(h:js[j]?=!i):js.idxOf i=j:=do _;{h1,h2}:=qw.mp h;[<-h2];List.Nodup.idxOf_getElem nd j h1
def xr(h:d9 js d):bG js d<=js.length:=by match d,h with|none,_=>exact qb _|some (i,b),h => have:=rz (h i b rfl);show js.idxOf i+(if b then 1 else 0)<=_;split <;> omega
theorem LW:∀{kvs:List 68} {js:List Nat},kX nk G kvs js->kvs.length=js.length|[],[],_=>rfl|[],_::_,h=>h.elim|_::_,[],h=>h.elim|_::_,_::_,h=>do[zf,zf,LW h.2]
theorem K_:∀{kvs:List 68} {js:List Nat},kX nk G kvs js->kvs.map (·.1)=js.map λi=>KD.tup (nk i)|[],[],_=>rfl|[],_::_,h=>h.elim|_::_,[],h=>h.elim|_::_,_::_,h=>do[zm,zm,K_ h.2,h.1.1]
def Ox{zs:List V}{f l:Nat}(a:f<=zs.length)(b:l<=zs.length):ef zs (!(f:Int)) (!((max f l:Nat):Int))=(zs.drop f).take (l - f):=do@ef;[HT.kH,HT.kH,m6 a,m6 ()];(by congr 1);()
def K4{S:Nat->Sg}{js:List Nat}(h:∀i∈js,Lay (cm S i)):PyData.canLayAll0 (js.map (dN (cm S)))=true/\PyData.depthAll (js.map (dN (cm S)))<=1/\PyData.eqv (.list (js.map (dN (cm S)))) (.list (js.map (dN (cm S))))=true:=do _;{fF λd a=>?_,lQ λd a=>?_,MY λd a=>?_};{i,hi,rfl}:=qc.mp a;h i hi;{i,hi,rfl}:=qc.mp a;dB _;{i,hi,rfl}:=qc.mp a;kO _
def rK(h:i∈oR js b e):i∈js:=g0 (r8 h)
def QZ:(oR js b e).length<=js.length:=do@oR;[wb,v9];()
inductive Ed(vs:List V)(H:Hp)(Q:VK)(_:XK):Prop
 |mk(fa vp pt S n:_)(_:vs=[.ref fa,vp])(_:FG H fa S n)(_:GK H (.tup pt) vp)(_:Lay pt)(_:∀H' q zs,ag H H'->H q=none->H' q=!(.lst zs)->AN (SN S H') zs (bM S n pt)->Q (.ref q) H')
inductive B_(vs:List V)(H:Hp)(Q:VK)(_:XK):Prop
 |mk(fa vp pt S n:_)(_:vs=[.ref fa,vp])(_:FG H fa S n)(_:GK H (.tup pt) vp)(_:Lay pt)(_:∀H' q zs,ag H H'->H q=none->H' q=!(.lst zs)->AN (NM (cm S) H') zs 67->Q (.ref q) H')
inductive CC(vs:List V)(H:Hp)(Q:VK)(_:XK):Prop
 |mk(p zs nk js:_)(h0:vs=[.ref p])(h1:H p=!(.lst zs))(h2:AN (NM nk H) zs js)(h3:js.Nodup)(h4:Inj nk js)(h5:js.length<=1400)(h6:∀H' dq kvs,ag H H'->H dq=none->H' dq=! 69->sx nk js kvs->Q (.ref dq) H')
inductive Ea(vs:List V)(H:Hp)(Q:VK)(_:XK):Prop
 |mk(dq kvs S js v d:_)(h0:vs=[.ref dq,v])(h1:H dq=! 69)(h2:sx (cm S) js kvs)(h3:nc S H d v)(h4:d9 js d)(h5:Q (.int ((bG js d:Nat):Int)) H)
inductive A6(vs:List V)(H:Hp)(Q:VK)(_:XK):Prop
 |mk(dq kvs S js vb ve b e:_)(h0:vs=[.ref dq,vb,ve])(h1:H dq=! 69)(h2:sx (cm S) js kvs)(h3:nc S H b vb)(h4:d9 js b)(h5:nc S H e ve)(h6:d9 js e)(h7:∀H' q,ag H H'->H' q=!(.tup [.int ((bG js b:Nat):Int),.int ((max (bG js b) (bG js e):Nat):Int)])->Q (.ref q) H')
inductive Bl(vs:List V)(H:Hp)(Q:VK)(_:XK):Prop
 |mk(fa vp pt S n vb ve b e:_)(h0:vs=[.ref fa,vp,vb,ve])(h1:FG H fa S n)(h2:GK H (.tup pt) vp)(h3:Lay pt)(h4:nc S H b vb)(h5:dC S n pt b)(h6:nc S H e ve)(h7:dC S n pt e)(h8:∀H' q zs,ag H H'->H q=none->H' q=!(.lst zs)->AN (NM (cm S) H') zs (oR 67 b e)->Q (.ref q) H')
section
variable {K:PySem.W.Frag}{vs:List V}{H:Hp}{Q:VK}{E:XK}
end
theorem MQ:∀(js:List Nat),js.Nodup->∀f l:Nat,js.filter (λk=>decide (f<=js.idxOf k/\js.idxOf k<l))=(js.drop f).take (l - f)|[],_,f,l=>(do[List.drop_nil,List.take_nil];2)|x::xs,nd,f,l=>do _;{g,c}:=zv.mp nd;ix:∀k∈xs,(x::xs).idxOf k=xs.idxOf k+1:=λk a=>(do this:(x==k)=false:=(do[beq_eq_false_iff_ne];λz=>g (do[z];a));[m7,this];2);d:(x::xs).idxOf x=0:=List.idxOf_cons_self;(by cases l with|zero|succ l=>?_);[gr.mpr (λk _ z=>do this:=qN z;()),Nat.zero_sub,List.take_zero];tail:∀b,xs.filter (λk=>decide (b+1<=(x::xs).idxOf k/\(x::xs).idxOf k<l+1))=(xs.drop b).take (l - b):=λb=>(do[<-MQ xs c b l];ja λk a=>?_;[ix k a];decide_eq_decide.mpr ());(by cases f with|zero|succ f=>?_);[yi (do[d];qH {qb 0,Nat.succ_pos l})];this:=tail 0;e:xs.filter (λk=>decide (0<=(x::xs).idxOf k/\(x::xs).idxOf k<l+1))=xs.filter (λk=>decide (0+1<=(x::xs).idxOf k/\(x::xs).idxOf k<l+1)):=ja λk a=>(do[ix k a];decide_eq_decide.mpr ());[e,this];2;[yj (do[d];λz=>absurd (qN z).1 ()),tail f,Nat.succ_sub_succ];2
def c7(S:Nat->Sg)(js:List Nat)(b e:Sd):List Nat:=(oR js b e).filter λi=>(S i).lv
def IH{S:Nat->Sg}(nd:js.Nodup):(js.filter λi=>(S i).lv).filter (λk=>decide (bG js b<=js.idxOf k/\js.idxOf k<max (bG js b) (bG js e)))=c7 S js b e:=do(by unfold c7 oR);[kg];h:=MQ js nd (bG js b) (max (bG js b) (bG js e));h<-[show max (bG js b) (bG js e) - bG js b=bG js e - bG js b from ()];[<-h,kg];ja λk _=>Bool.and_comm _ _
def bU(N:Nat->Mk)(q:Nat)(pt:List Key):List Nat:=(List.range q).filter λi=>decide ((N i).pt=pt)
def ik(S:Nat->Sg):Option Nat->UI|none=>.none|some k=>tD (cm S k)
def oG(S:Nat->Sg)(js:List Nat)(N:Nat->Mk)(i:Nat):UI:=.tuple [tD (N i).nm,.str (N i).kd,ik S (c7 S js (N i).b (N i).e).head?]
def HZ{S:Nat->Sg}{pt:List Key}(W:WS S n)(WN:WK S n N q):PyData.canLayAll0 ((bU N q pt).map (oG S 67 N))=true/\PyData.depthAll ((bU N q pt).map (oG S 67 N))<=2/\PyData.eqv (.list ((bU N q pt).map (oG S 67 N))) (.list ((bU N q pt).map (oG S 67 N)))=true:=do c:∀i,(ik S (c7 S 67 (N i).b (N i).e).head?).canLay0=true/\fQ (ik S (c7 S 67 (N i).b (N i).e).head?)=true/\(ik S (c7 S 67 (N i).b (N i).e).head?).depth<=1:=λi=>(do(by cases h:(c7 S 67 (N i).b (N i).e).head? with|none|some k=>?_);{O,O,q0 1};f:k∈aB S n pt:=rK (qk.mp (m8 h)).1;{(W.lay k (fN W f)).1,kO _,dB _});{fF λd a=>?_,lQ λd a=>?_,MY λd a=>?_};{i,hi,rfl}:=qc.mp a;hi:=qj.mp (qk.mp hi).1;{_,j,g,_}:=WN.lay i hi;¬((tD (N i).nm).canLay0&&(PyData.strOk (N i).kd&&((ik S _).canLay0&&true)))=true;[show(tD (N i).nm).canLay0=true from j,g,(c i).1];2;{i,hi,rfl}:=qc.mp a;h1:=dB (N i).nm;h2:=(c i).2.2;¬max (tD (N i).nm).depth (max 0 (max (ik S _).depth 0))+1<=2;();{i,hi,rfl}:=qc.mp a;[oG,fQ];nY λd a=>?_;(by ac_nf at a);rfl||rfl||rfl:=a;kO _;2;(c i).2.1
def Dt{nk:Nat->List Key}{js:List Nat}{i:Nat}(inj:∀k∈js,nk k=nk i->k=i):(if false=true then not ((js.map (dN nk)).any λd=>PyData.eqv d (tD (nk i))) else(js.map (dN nk)).any (λd=>PyData.eqv d (tD (nk i))))=decide (i∈js):=do¬(js.map (dN nk)).any (λd=>PyData.eqv d (tD (nk i)))=decide (i∈js);[yk,yr,decide_eq_true_iff];1;({d,b,e});{k,a,rfl}:=qc.mp b;this:=(fH (nk k) (nk i)).symm.trans e;[<-inj k a (qN this)];a;(h);{_,qc.mpr {i,h,O},(fH _ _).trans (qH rfl)}
inductive Er(vs:List V)(H:Hp)(Q:VK)(_:XK):Prop
 |mk(fa vp pt S n:_)(_:vs=[.ref fa,vp])(_:FG H fa S n)(_:GK H (.tup pt) vp)(_:Lay pt)(_:∀H' q zs,ag H H'->H q=none->H' q=!(.lst zs)->AN (NM (cm S) H') zs (aQ S n pt)->Q (.ref q) H')
inductive Fc(vs:List V)(H:Hp)(Q:VK)(_:XK):Prop
 |mk(v S N i:_)(_:vs=[v])(_:NN S N H v i)(_:∀kv,DT H kv (.tuple [.int (N i).ka,.int (N i).kb])->Q kv H)
inductive Gh(vs:List V)(H:Hp)(Q:VK)(_:XK):Prop
 |mk(fa F S n M m N q xs ms ns vp pt:_)(h0:vs=[.ref fa,vp])(h1:FS H fa F S n M m N q xs ms ns)(h2:GK H (.tup pt) vp)(h3:Lay pt)(h4:∀H' qq zs,ag H H'->H qq=none->H' qq=!(.lst zs)->dn H' zs ((bU N q pt).map (oG S 67 N))->Q (.ref qq) H')
section
variable {K:PySem.W.Frag}{vs:List V}{H:Hp}{Q:VK}{E:XK}
end
def aG(M:Nat->Mk)(m:Nat)(pt:List Key):List Nat:=(List.range m).filter λi=>decide ((M i).pt=pt)
def iM(js:List Nat)(k:Mk)(p:Nat):Bool:=decide (bG js k.b<=p/\p<max (bG js k.b) (bG js k.e))
def tell(M:Nat->Mk)(js:List Nat)(l:List Nat)(kd:UK)(p:Nat):Option Nat:=l.foldl (λacc i=>if(M i).kd=kd/\iM js (M i) p=true then some i else acc) none
def kinds(M:Nat->Mk)(l:List Nat):List UK:=l.foldl (λks i=>if(M i).kd∈ks then ks else ks++[(M i).kd]) []
def Lq{kd:UK}:tell M js (l++[i]) kd p=if(M i).kd=kd/\iM js (M i) p=true then some i else tell M js l kd p:=do@tell;[j4];2
def LC:kinds M (l++[i])=if(M i).kd∈kinds M l then kinds M l else kinds M l++[(M i).kd]:=do@kinds;[j4];2
theorem xC{M:Nat->Mk}:∀(l:List Nat) (ks:List UK),ks.Nodup->(l.foldl (λks i=>if(M i).kd∈ks then ks else ks++[(M i).kd]) ks).Nodup|[],_,h=>h|i::l,ks,h=>do xC l _ ?_;¬((if(M i).kd∈ks then ks else ks++[(M i).kd]).Nodup);z<|(M i).kd∈ks;[qE z];h;[qB z];List.nodup_append.mpr {h,do 0,λx b y a e=>?_};e<-[qo.mp a];z (e▸b)
theorem DX{M:Nat->Mk}:∀(l:List Nat) (ks:List UK),(l.foldl (λks i=>if(M i).kd∈ks then ks else ks++[(M i).kd]) ks).length<=ks.length+l.length|[],_=>qb _|i::l,ks=>do qf (DX l _) ?_;¬(if(M i).kd∈ks then ks else ks++[(M i).kd]).length+l.length<=_;z<|(M i).kd∈ks;[qE z,zf];();[qB z,qg,qr,zf];()
theorem Lc{M:Nat->Mk}{js:List Nat}{kd:UK}{p k:Nat}:∀(l:List Nat) (acc:Option Nat),l.foldl (λacc i=>if(M i).kd=kd/\iM js (M i) p=true then some i else acc) acc=!k->acc=!k\/(k∈l/\(M k).kd=kd)|[],_,h=>.inl h|i::l,acc,h=>do z||z:=Lc l _ h;z:(if(M i).kd=kd/\iM js (M i) p=true then some i else acc)=!k:=z;q<|(M i).kd=kd/\iM js (M i) p=true;z<-[qE q];-z;.inr {qi,q.1};z<-[qB q];.inl z;.inr {qm _ z.1,z.2}
def Jp{kd:UK}{p k:Nat}(h:tell M js l kd p=!k):k∈l/\(M k).kd=kd:=do z||z:=Lc l none h;-z;z
theorem Kr{M:Nat->Mk}{js:List Nat}{kd:UK}{p:Nat}:∀(l:List Nat) (acc:Option Nat),(∀i∈l,(M i).kd≠kd)->l.foldl (λacc i=>if(M i).kd=kd/\iM js (M i) p=true then some i else acc) acc=acc|[],_,_=>rfl|i::l,acc,h=>do[wz,qB λz=>h i qi z.1];Kr l acc λj a=>h j (qm _ a)
theorem rF{M:Nat->Mk}{kd:UK}:∀(l:List Nat) (ks:List UK),kd∈l.foldl (λks i=>if(M i).kd∈ks then ks else ks++[(M i).kd]) ks↔kd∈ks\/∃i∈l,(M i).kd=kd|[],ks=>{.inl,λh=>h.elim id λ⟨_,z,_⟩=>nomatch z}|i::l,ks=>do[wz,rF l];z<|(M i).kd∈ks;[qE z];1;(h||{j,h1,h2});.inl h;.inr {j,qm _ h1,h2};(h||{j,h1,h2});.inl h;y||y:=qt.mp h1;!y;.inl (h2▸z);.inr {j,y,h2};[qB z];1;(h||{j,h1,h2});y||y:=qz.mp h;.inl y;.inr ⟨i,qi,(qo.mp y).symm⟩;.inr ⟨j,qm _ h1,h2⟩;(h||{j,h1,h2});.inl (yo _ h);y||y:=qt.mp h1;!y;.inl (z7 _ (qo.mpr h2.symm));.inr {j,y,h2}
def mV(ms:List V):Option Nat->V|none=>.aV|some i=>ms.getD i .aV
def jA(M:Nat->Mk)(js l:List Nat)(ms:List V)(kd:UK):List V:=(List.range js.length).map λp=>mV ms (tell M js l kd p)
def p8{kd:UK}:(jA M js l ms kd).length=js.length:=do@jA;[qh,zg]
def Lj(k:bG js (M i).b=b)(n:max (bG js (M i).b) (bG js (M i).e)=e)(j:b<=e)(m:e<=js.length):((jA M js l ms (M i).kd).take b++List.replicate (e - b) (ms.getD i .aV))++(jA M js l ms (M i).kd).drop e=jA M js (l++[i]) ms (M i).kd:=do(by apply yc);(p);h:iM js (M i) p=decide (b<=p/\p<e):=(do@iM;[n,k]);f:(jA M js l ms (M i).kd).length=js.length:=p8;c:((jA M js l ms (M i).kd).take b).length=b:=(do[wb,f];());d:((jA M js l ms (M i).kd).take b++List.replicate (e - b) (ms.getD i .aV)).length=e:=(do[qg,c,gg];());a:p<js.length->(jA M js (l++[i]) ms (M i).kd)[p]?=!(mV ms (if b<=p/\p<e then some i else tell M js l (M i).kd p)):=λhp=>(do@jA;[qv,yg hp,ju,Lq,h];z<|b<=p/\p<e;[qE z,qE {O,qH z}];[qB z,qB (λy=>z (qN y.2))]);old:p<js.length->(jA M js l ms (M i).kd)[p]?=!(mV ms (tell M js l (M i).kd p)):=λhp=>(do@jA;[qv,yg hp];2);h1<|p<b;[zt (do[d];()),zt (do[c];h1),kz h1,old (),a (),qB ()];h2<|p<e;[zt (do[d];h2),yh (do[c];()),c,List.getElem?_replicate_of_lt (),a (),qE {(),h2}];2;[yh (do[d];()),d,mx,show e+(p - e)=p from ()];g<|p<js.length;[old g,a g,qB ()];[ww (do[f];()),ww (do[p8];())]
def Ou{kd:UK}(h:kd∉kinds M l):jA M js l ms kd=List.replicate js.length .aV:=do@jA;[List.eq_replicate_iff];{do[qh,zg],λx a=>?_};{p,_,rfl}:=qc.mp a;this:tell M js l kd p=none:=Kr l none λi hi z=>h ((rF l []).mpr (.inr {i,hi,z}));[this];2
def Jc{kd:UK}(h:(M i).kd≠kd):jA M js (l++[i]) ms kd=jA M js l ms kd:=do@jA;z8 λp _=>?_;[Lq,qB λz=>h z.1]
structure TK(M:Nat->Mk)(js l:List Nat)(ms:List V)(S:UJ->Prop)(Z:Hp)(kvs:List (Key×V)):Prop where
 keys:kvs.map (·.1)=(kinds M l).map .inr
 val:∀kd∈kinds M l,∃a,bJ kvs (.inr kd)=!(.ref a)/\S a/\Z a=!(.lst (jA M js l ms kd))
 ne:∀kd∈kinds M l,∀kd'∈kinds M l,bJ kvs (.inr kd)=bJ kvs (.inr kd')->kd=kd'
def TK.same{S:UJ->Prop}(h:TK M js l ms S Z kvs)(s:ag Z Z'):TK M js l ms S Z' kvs:={h.keys,λkd b=>let⟨a,h1,h2,c⟩:=h.val kd b;{a,h1,h2,s _ _ c},h.ne}
def TK.no{S:UJ->Prop}(h:TK M js l ms S Z kvs){kd:UK}:bJ kvs (.inr kd)=none↔kd∉kinds M l:=do 1;(z,b);{a,h1,_}:=h.val kd b;h1<-[z];-h1;(b);(by cases e:bJ kvs (.inr kd)with|none|some v=>?_);2;(by exfalso);this:=(nO (kvs:=kvs) (k:=.inr kd)).trans (do[e];2:(bJ kvs (.inr kd)).isSome=true);{x,g,ex}:=yr.mp this;f:x.1∈kvs.map (·.1):=qc.mpr {x,g,O};f<-[h.keys];{i,c,d}:=qc.mp f;d<-[qN ex];b (Sum.inr.inj d▸c)
def TK.old{S:UJ->Prop}(h:TK M js l ms S Z kvs)(f:(M i).kd∈kinds M l)(e:bJ kvs (.inr (M i).kd)=!(.ref a))(k:xs=jA M js (l++[i]) ms (M i).kd):TK M js (l++[i]) ms S (upd Z a (.lst xs)) kvs:=do d:kinds M (l++[i])=kinds M l:=(do[LC,qE f]);{do[d];h.keys,λkd b=>?_,do[d];h.ne};b<-[d];{c,h1,h2,j}:=h.val kd b;z<|(M i).kd=kd;!z;h1<-[e];-h1;{_,e,h2,do[aF,k]};g:c≠a:=λy=>z (h.ne _ f kd b (do[e,h1,y]));{c,h1,h2,do[az g,Jc z];j}
def TK.new{S:UJ->Prop}(h:TK M js l ms S Z kvs)(n:(M i).kd∉kinds M l)(sa:S a)(na:∀kd c,bJ kvs (.inr kd)=!(.ref c)->c≠a)(o:xs=jA M js (l++[i]) ms (M i).kd)(p:Z a=!(.lst xs)):TK M js (l++[i]) ms S Z (putK kvs (.inr (M i).kd) (.ref a)):=do g:kinds M (l++[i])=kinds M l++[(M i).kd]:=(do[LC,qB n]);k:putK kvs (.inr (M i).kd) (.ref a)=kvs++[(.inr (M i).kd,.ref a)]:=Fn _ (h.no.mpr n);m:∀kd,bJ (putK kvs (.inr (M i).kd) (.ref a)) (.inr kd)=if(M i).kd=kd then some (.ref a) else bJ kvs (.inr kd):=λkd=>(do[Qj];z<|(M i).kd=kd;[qE z,qE (do[z])];[qB z,qB (λy=>z (Sum.inr.inj y).symm)]);{do[k,zy,h.keys,g,zy];2,λkd b=>?_,λkd b d f e=>?_};[m];z<|(M i).kd=kd;[qE z,<-z];{a,O,sa,do[p,o]};[qB z,Jc z];b<-[g];y||y:=qz.mp b;h.val kd y;absurd (qo.mp y).symm z;e<-[m,m];(by rw[g]at b f);z<|(M i).kd=kd;j<|(M i).kd=d;z.symm.trans j;e<-[qE z,qB j];absurd rfl (na d a e.symm);j<|(M i).kd=d;e<-[qB z,qE j];absurd rfl (na kd a e);e<-[qB z,qB j];y||y:=qz.mp b;y'||y':=qz.mp f;h.ne kd y d y' e;absurd (qo.mp y').symm j;absurd (qo.mp y).symm z
theorem yG{x:V}:∀n:Nat,(List.replicate n [x]).flatten=List.replicate n x| 0=>rfl|n+1=>do[jl,jr,yG n];2
inductive C'(vs:List V)(H:Hp)(Q:VK)(_:XK):Prop
 |mk(v S M i:_)(_:vs=[v])(_:MN S M H v i)(_:∀kv,DT H kv (.tuple [.int (M i).ka,.int (M i).kb])->Q kv H)
inductive oJ(vs:List V)(H:Hp)(Q:VK):Prop
 |mk (fa:UJ) (F:Nat->UJ) (S:Nat->Sg) (n:Nat) (M:Nat->Mk) (m:Nat) (N:Nat->Mk) (q:Nat) (xs ms ns:List V) (vp:V) (pt:List Key) (rp:UJ) (rv:List V) (h0:vs=[.ref fa,vp,.ref rp]) (h1:FS H fa F S n M m N q xs ms ns) (h2:GK H (.tup pt) vp) (h3:Lay pt) (h4:H rp=!(.lst rv)) (h5:AN (NM (cm S) H) rv 67)
  (h6:∀H' tq kvs,ag H H'->H tq=none->H' tq=!(.dK kvs)->TK M 67 (aG M m pt) ms (λa=>H a=none/\a≠tq) H' kvs->Q (.ref tq) H'):oJ vs H Q
def BA:Sp:=λvs H Q _=>oJ vs H Q
section
variable {K:PySem.W.Frag}{vs:List V}{H:Hp}{Q:VK}{E:XK}
end
def qY(x:UK):List UK->List UK|[]=>[x]|y::ys=>if bN (.str x) (.str y)=true then x::y::ys else y::qY x ys
def dU(l:List UK):List UK:=l.foldr qY []
theorem FW(x:UK):∀l,(qY x l).Perm (x::l)|[]=>.refl _|y::ys=>do@qY;3;.refl _;((FW x ys).cons y).trans (.swap x y ys)
theorem lW:∀l,(dU l).Perm l|[]=>.refl _|x::l=>(FW x _).trans ((lW l).cons x)
abbrev Jl(l:List UK):Prop:=l.Pairwise λa b=>bN (.str a) (.str b)=true
def OM(h:¬bN (.str x) (.str y)=true)(n:x≠y):bN (.str y) (.str x)=true:=do(by cases q:bN (.str y) (.str x)with|true|false=>?_);2;absurd (PyData.str.inj (Ff (.str x) (.str y) rfl (do 0<|h) q)) n
theorem Kd:∀{l:List UK},Jl l->x∉l->Jl (qY x l)|[],_,_=>gw ..|y::ys,h,hx=>do _;{h1,h2}:=vi.mp h;@qY;3;(by rename_i z);vi.mpr {λb a=>?_,h};rfl||a:=qt.mp a;z;sG _ _ _ rfl rfl rfl z (h1 b a);(by rename_i z);vi.mpr ⟨λb a=>?_,Kd h2 λq=>hx (qm _ q)⟩;rfl||a:=qt.mp ((FW x ys).mem_iff.mp a);OM z λe=>hx (e▸qi);h1 b a
theorem xq:∀{l:List UK},l.Nodup->Jl (dU l)|[],_=>.nil|x::l,h=>Kd (xq (zv.mp h).2) λz=>(zv.mp h).1 ((lW l).mem_iff.mp z)
theorem GG:∀{xs ys:List UK},xs.Perm ys->(xs.Pairwise λa b=>bN (.str b) (.str a)=false)->Jl ys->xs=ys|[],ys,p,_,_=>(List.nil_perm.mp p).symm|x::xs,[],p,_,_=>absurd p.length_eq (do 0)|x::xs,y::ys,p,hx,hy=>do e<|x=y;!e;[GG ((List.perm_cons x).mp p) (vi.mp hx).2 (vi.mp hy).2];h1:y∈xs:=(do z||z:=qt.mp (p.mem_iff.mpr qi);absurd z.symm e;z);h2:x∈ys:=(do z||z:=qt.mp (p.mem_iff.mp qi);absurd z e;z);a1:=(vi.mp hx).1 y h1;a2:=(vi.mp hy).1 x h2;a1<-[a2];-a1
def Rf(js:List UK):(List.range js.length).map (λi=>js.getD i "")=js:=do(by apply yc);(i);[qv];hi<|i<js.length;[yg hi,qe hi];¬some (js.getD i "")=_;[ze,qe hi];2;[List.getElem?_eq_none (do 0<|hi),List.getElem?_eq_none ()];2
def FK{js:List UK}{ix:List Nat}(nd:js.Nodup)(h:cU (js.map .str) ix):(ix.map λi=>(js.map V.str).getD i .aV)=(dU js).map V.str:=do f:ix.Perm (List.range js.length):=(by have:=h.1;rwa [qh]at this);c:∀i∈ix,i<js.length:=λi hi=>qj.mp (f.mem_iff.mp hi);j:(ix.map λi=>(js.map V.str).getD i .aV)=(ix.map λi=>js.getD i "").map V.str:=(do[zx];z8 λi hi=>?_;¬_=V.str (js.getD i "");[ze,qv,ze,qe (c i hi)];2);[j];(by congr 1);GG (((f.map _).trans (.of_eq (Rf js))).trans (lW js).symm) ?_ (xq nd);h2:=h.2;(by rw[z9]at h2 ⊢);h2.imp_of_mem λ{a b} g k d=>?_;e:∀i,i∈ix->c9 (js.map .str) i=.str (js.getD i ""):=λi hi=>(do@c9;[ze,qv,ze,qe (c i hi)];2);d<-[e a g,e b k];d
def M7{f:UK->Option UI}{l:List UK}{j:Nat}{kd:UK}(h:l[j]?=!kd):(l.take (j+1)).filterMap f=(l.take j).filterMap f++(f kd).toList:=do[qy,h,List.filterMap_append];(by cases e:f kd with|none|some d=>?_);[kh,List.filterMap_cons_none e];2;[kh,List.filterMap_cons_some e];2
def pR(M:Nat->Mk)(a:Bool)(k:Nat):UI:=if a then tD (M k).nm else match(M k).vl with|none=>.none|some z=>.str z
def yl(M:Nat->Mk)(a:Bool):Option Nat->Option UI|none=>none|some k=>if(M k).vl=none then none else some (.tuple [.str (M k).kd,pR M a k])
def nU(M:Nat->Mk)(a:Bool)(js l:List Nat)(p:Nat):List UI:=(dU (kinds M l)).filterMap λkd=>yl M a (tell M js l kd p)
structure j2(nk:Nat->List Key)(f:Nat->List UI)(B:UJ->Prop)(Z:Hp)(kvs:List 68)(js:List Nat):Prop where
 len:kvs.length=js.length
 ent:∀(j:Nat) e i,kvs[j]?=!e->js[j]?=!i->e.1=.tup (nk i)/\NM nk Z e.2.1 i/\∃a zs,e.2.2=.ref a/\B a/\Z a=!(.lst zs)/\dn Z zs (f i)
def j2.to(h:j2 nk f B Z kvs js)(t:aj Z Z')(s:∀a zs,B a->Z a=!(.lst zs)->Z' a=!(.lst zs))(b:∀a,B a->B' a):j2 nk f B' Z' kvs js := {h.len,λj e i h1 h2=>do _;{k,l,a,zs,m,c,d,g}:=h.ent j e i h1 h2;{k,NM.af l t,a,zs,m,b a c,s a zs c d,g.af t}}
def j2.same(h:j2 nk f B Z kvs js)(s:ag Z Z'):j2 nk f B Z' kvs js:=h.to s.af (λ_ _ _ e=>s _ _ e) λ_ b=>b
def j2.snoc(h:j2 nk f B Z kvs js){k:V}(h2:NM nk Z k i)(l:B a)(g:Z a=!(.lst zs))(m:dn Z zs (f i)):j2 nk f B Z (kvs++[(.tup (nk i),k,.ref a)]) (js++[i]):=do _;{do[qg,qg,h.len];2,λj e i' c b=>?_};d<|j<js.length;c<-[zt (do[h.len];d)];b<-[zt d];h.ent j e i' c b;b<-[yh ()];c<-[yh (do[h.len];()),h.len];(by cases q:j - js.length with|zero|succ x=>?_;rw[q]at c b);-c;-b;⟨O,h2,a,zs,O,l,g,m⟩;b<-[q];-b
def j2.keys(h:j2 nk f B Z kvs js):kvs.map (·.1)=js.map λi=>KD.tup (nk i):=do(by apply yc);(j);[qv,qv];b<|j<js.length;a:j<kvs.length:=(do[h.len];b);[qe b,qe a];congrArg some (h.ent j _ _ (qe a) (qe b)).1;[ww (do[h.len];()),ww ()];2
def Q0(nd:js.Nodup)(inj:Inj nk js):(js.map λi=>KD.tup (nk i)).Nodup := z9.mpr (nd.imp_of_mem λ{a b} d c h e=>h (inj a d b c (KD.tup.inj e)))
def j2.get(h:j2 nk f B Z kvs js)(nd:js.Nodup)(inj:Inj nk js)(hi:i∈js):∃a zs,vG kvs (.tup (nk i))=!(.ref a)/\B a/\Z a=!(.lst zs)/\dn Z zs (f i):=do _;{j,c}:=j6 hi;b:j<kvs.length:=(do[h.len];(qw.mp c).1);{k,m,a,zs,l,e,d,g}:=h.ent j _ i (qe b) c;{a,zs,?_,e,d,g};[<-l];pW (do[h.keys];Q0 nd inj) (qe b) k
theorem Hy:∀l:List UK,dn H (l.map V.str) (l.map .str)|[]=>.nil|x::l=>.cons (.str x) (Hy l)
inductive px(vs:List V)(H:Hp)(Q:VK):Prop
 |mk (fa:UJ) (F:Nat->UJ) (S:Nat->Sg) (n:Nat) (M:Nat->Mk) (m:Nat) (N:Nat->Mk) (q:Nat) (xs ms ns:List V) (vp:V) (pt:List Key) (pl:Bool) (h0:vs=[.ref fa,vp,.int (if pl then 5 else 4)]) (h1:FS H fa F S n M m N q xs ms ns) (h2:GK H (.tup pt) vp) (h3:Lay pt) (h4:m<=63)
  (h5:∀H' tq kvs,ag H H'->H tq=none->H' tq=! 69->j2 (cm S) (λi=>nU M pl 67 (aG M m pt) ((aB S n pt).idxOf i)) (λa=>H a=none/\a≠tq) H' kvs (aQ S n pt)->(kvs.map (·.2.2)).Nodup->Q (.ref tq) H'):px vs H Q
def Fe:Sp:=λvs H Q _=>px vs H Q
inductive oZ(pl:Bool)(vs:List V)(H:Hp)(Q:VK):Prop
 |mk (fa:UJ) (F:Nat->UJ) (S:Nat->Sg) (n:Nat) (M:Nat->Mk) (m:Nat) (N:Nat->Mk) (q:Nat) (xs ms ns:List V) (vp:V) (pt:List Key) (h0:vs=[.ref fa,vp]) (h1:FS H fa F S n M m N q xs ms ns) (h2:GK H (.tup pt) vp) (h3:Lay pt) (h4:m<=63)
  (h5:∀H' tq kvs,ag H H'->H tq=none->H' tq=! 69->j2 (cm S) (λi=>nU M pl 67 (aG M m pt) ((aB S n pt).idxOf i)) (λa=>H a=none/\a≠tq) H' kvs (aQ S n pt)->(kvs.map (·.2.2)).Nodup->Q (.ref tq) H'):oZ pl vs H Q
def ED:Sp:=λvs H Q _=>oZ false vs H Q
section
variable {K:PySem.W.Frag}{vs:List V}{H:Hp}{Q:VK}{E:XK}
end
abbrev hH:UJ:=bD
abbrev Bj:UJ:=bA
abbrev MA(H:Hp):Prop:=H cB=!(.tup [.str "",.int 0])
def FQ(H:Hp)(fa:UJ)(es:List V)(rs:List Pc):Prop:=∃F:Nat->UJ,lh H fa F/\H (F 1)=!(.lst es)/\AL (gM H) es rs/\(∀r∈rs,yI r)/\(rs.Pairwise λa b=>bO a.ka a.kb b.ka b.kb)/\es.length<=100
def FB.fq{bs vs cs:List V}{k:Nat}(h:FB H fa F bs vs cs rs cu k)(a:k<=100):FQ H fa vs rs:={F,h.dk,h.ev,h.fi.pc,h.fi.w,h.fi.up,qf h.fi.vl a}
def FQ.xw(h:FQ H fa es rs):XW (tl rs):=do _;{F,_,_,c,a,b,d}:=h;Mc a b (do[<-c.1];d)
abbrev R_:UK:=(("greatest_place":UK)++".<locals>.")++"<lambda>"
abbrev jL(H:Hp):Prop:=Tb 120 26 R_ hH H
def jU(t:jL H)(s:ag (del H hH) H')(e:H b=!o)(h:∀ps,o≠.cn ps):H' b=!o:=s _ _ (do[bW (λz=>?_)];e;{ps,t}:=t.cn;e<-[z,t];h ps (qJ e).symm)
def yT(t:jL H)(s:ag (del H hH) H'):aj H H':=λb xs e=>jU t s e (λps z=>nomatch z)
def Ur(t:jL H)(s:ag (del H hH) H')(r:Rd H a u)(h:∀ps,u≠.cn ps):Rd H' a u:=do e||{o,e}:=r;.inl (jU t s e h);.inr ⟨o,jU t s e (λps z=>nomatch z)⟩
def sS(a:UJ):UJ->Prop:=λb=>b=a\/b=hH
def Cb :Sp:=λvs H Q _=>∃fa es rs,vs=[.ref fa]/\FQ H fa es rs/\∀H' dq kvs,ag H H'->H dq=none->H' dq=! 69->AL (EK (gM H') H') kvs (tl rs)->Q (.ref dq) H'
def A_ :Sp:=λvs H Q _=>∃f d e c ys b E p,∃C:List Key->Prop,vs=[.ref f,d,.ref e]/\Rd H f (.dG c)/\AL (EK (iH H) H) c ys/\(ys.map (·.pt)).Nodup/\(∀x∈ys,x.pt≠[])/\ys.length<=100/\Rd H e (.dG b)/\fP b E/\GK H (nd p) d/\C p/\(∀k o,gX ys k=!o->C o) ∧ ∀H' a ws ini las,ag H H'->H a=none->H' a=!(.lst ws)->AL (CD H') ws (ini++[las])->Rnd.WO (gX ys) E p ini las->ini.length<=101->(∀k∈ini++[las],C k)->Q (.ref a) H'
def Dq :Sp:=λvs H Q _=>∃c a d xs ws ls,vs=[.ref c,.ref a]/\Rd H c (.dG d)/\AL (EK (gM H) H) d xs/\(xs.map (·.pt)).Nodup/\H a=!(.lst ws)/\AL (fh H) ws ls/\ls≠[]/\(∀k∈ls,hp xs k=true)/\jL H ∧ ∀H' v m,ag (del H hH) H'->jL H'->m∈ls->(∀b∈ls,¬Nz xs m b)->GK H' (.tup m) v->Q v H'
abbrev K5:UK:=(("all_inner_parts":UK)++".<locals>.")++"<lambda>"
structure eJ(H:Hp):Prop where
 ne:hH≠Bj
 a:jL H
 b:Tb 162 41 K5 Bj H
def s2 :UJ->Prop:=λb=>b=hH\/b=Bj
section
variable {H H':Hp}
theorem eJ.same(t:eJ H)(s:ag H H'):eJ H':={t.ne,t.a.same s,t.b.same s}
theorem eJ.cut{a:UJ}{o:HO}(t:eJ H)(e:H a=!o)(h1:∀ps,o≠.cn ps)(h2:∀c,o≠.ext c)(s:ag (del H a) H'):eJ H':={t.ne,t.a.cut e h1 h2 s,t.b.cut e h1 h2 s}
def eJ.no(t:eJ H){b:UJ}(h:s2 b):∃ps,H b=!(.cn ps):=do rfl||rfl:=h;t.a.cn;t.b.cn
def bV(t:eJ H)(s:ag (cg H (s2)) H')(e:H b=!o)(h:∀ps,o≠.cn ps):H' b=!o:=mO s e λz=>do _;{ps,q}:=t.no z;e<-[q];h ps (qJ e).symm
def ti(t:eJ H)(s:ag (cg H (s2)) H'):aj H H':=λb xs e=>bV t s e (λps z=>nomatch z)
def N8(t:eJ H)(s:ag (cg H (s2)) H')(r:Rd H a u)(h:∀ps,u≠.cn ps):Rd H' a u:=do e||{o,e}:=r;.inl (bV t s e h);.inr ⟨o,bV t s e (λps z=>nomatch z)⟩
theorem FB.bV{bs vs cs:List V}{k:Nat}(h:FB H fa F bs vs cs rs cu k)(t:eJ H)(s:ag (cg H (s2)) H'):FB H' fa F bs vs cs rs cu k := {h.dk.mp λ_ r=>N8 t s r (λps z=>nomatch z),h.inj,λi h1 h2=>let⟨xs,e⟩:=h.rest i h1 h2;{xs,My.bV t s e (λps z=>nomatch z)},My.bV t s h.eb (λps z=>nomatch z),My.bV t s h.ev (λps z=>nomatch z),My.bV t s h.ec (λps z=>nomatch z),h.fi.af (ti t s)}
theorem eJ.free(t:eJ H)(s:ag (cg H (s2)) H')(t':eJ H'){b:UJ}(h:H' b=none):H b=none:=do this:=s.free h;z<|s2 b;{ps,q}:=t'.no z;h<-[q];-h;this<-[iJ z];this
def eJ.Tv(t:eJ H)(s:ag (del H hH) H')(a:jL H'):eJ H'/\ag (cg H (s2)) H':=do _;{{t.ne,a,?_},λb u e=>?_};to:∀{b u},b≠hH->H b=!u->H' b=!u:=λn e=>s _ _ (do[bW n];e);e||{c,e1,e2}:=t.b;.inl (to t.ne.symm e);.inr ⟨c,to t.ne.symm e1,to (λz=>?_) e2⟩;{ps,q}:=t.a.cn;q<-[<-z,e2];-q;d:¬s2 b:=λz=>(do e<-[fV z];-e);e<-[iJ d];s _ _ (do[bW λz=>d (.inl z)];e)
def eJ.Uc(t:eJ H)(s:ag (del H Bj) (del H' Bj))(f:Tb 162 41 K5 Bj H'):eJ H'/\ag (cg H (s2)) H':=do to:∀{b u},b≠Bj->H b=!u->H' b=!u:=λ{b u} n e=>(do this:=s b u (do[bW n];e);this<-[bW n];this);{{t.ne,?_,f},λb u e=>?_};e||{c,e1,e2}:=t.a;.inl (to t.ne e);.inr ⟨c,to t.ne e1,to (λz=>?_) e2⟩;{ps,q}:=t.b.cn;q<-[<-z,e2];-q;d:¬s2 b:=λz=>(do e<-[fV z];-e);e<-[iJ d];to (λz=>d (.inr z)) e
end
def SD(H:Hp)(kq:List 68)(ls:List (List Key)):Prop:=AL (λe k=>e.1=.tup k/\GK H (.tup k) e.2.1) kq ls
def Uy(ls:List (List Key)):Prop:=(ls.map tD).Pairwise λa b=>bN b a=false
theorem up_eq{α:Type}{lt:α->α->Prop}(f:∀a b,lt a b->¬lt b a):∀{xs ys:List α},xs.Pairwise lt->ys.Pairwise lt->(∀a,a∈xs↔a∈ys)->xs=ys|[],ys,_,_,h=>(do(by cases ys with|nil|cons b m=>?_);2;absurd ((h b).mpr List.mem_cons_self) (do 0))|x::xs,[],_,_,h=>absurd ((h x).mp List.mem_cons_self) (do 0)|x::xs,y::ys,hx,hy,h=>do g:=vi.mp hx;i:=vi.mp hy;e:x=y:=(do z||z:=qt.mp ((h x).mp qi);z;w||w:=qt.mp ((h y).mpr qi);w.symm;absurd (i.1 x z) (f _ _ (g.1 y w)));!e;d:¬lt x x:=λz=>f _ _ z z;[up_eq f g.2 i.2 λa=>?_];this:=h a;this<-[qt,qt];1;(c);(this.mp (.inr c)).resolve_left λz=>d (do this:=g.1 a c;this<-[z];this);(c);(this.mpr (.inr c)).resolve_left λz=>d (do this:=i.1 a c;this<-[z];this)
def SD.Kz(h:SD H kq ls):AL (fh H) (kq.map (·.2.1)) ls:=AL.map h λe k _ _ p=>p.2
def OI{α:Type}(js:List α)(d:α):(List.range js.length).map (λi=>js.getD i d)=js:=do(by apply yc);(i);[qv];hi<|i<js.length;[yg hi,qe hi];¬some (js.getD i d)=_;[ze,qe hi];2;[List.getElem?_eq_none (do 0<|hi),List.getElem?_eq_none ()];2
def Lo{α:Type}{P:V->α->Prop}{D:α->UI}(d:α){vs:List V}{ls:List α}{ix:List Nat}(h:AL P vs ls)(e:cU (ls.map D) ix):∃ms,AL P (ix.map λi=>vs.getD i .aV) ms/\((ms.map D).Pairwise λa b=>bN b a=false)/\ms.Perm ls:=do o:ix.Perm (List.range ls.length):=(by have:=e.1;rwa [qh]at this);c:∀i∈ix,i<ls.length:=λi hi=>qj.mp (o.mem_iff.mp hi);{ix.map λi=>ls.getD i d,{do[qh,qh],λm v r l j=>?_},?_,(o.map _).trans (.of_eq (OI ls d))};(by rw[qv]at l j);{i,hi,rfl}:=wu.mp l;j<-[hi];-j;f:=c i (qu hi);k:i<vs.length:=(do[h.1];f);h.2 i _ _ ?_ ?_;[ze,qe k];2;¬ls[i]?=!(ls.getD i d);[ze,qe f];2;[zx];h2:=e.2;(by rw[z9]at h2 ⊢);h2.imp_of_mem λ{a b} p q g=>?_;n:∀i,i∈ix->c9 (ls.map D) i=D (ls.getD i d):=λi hi=>(do this:=c i hi;@c9;[ze,qv,ze,qe this];2);g<-[n a p,n b q];g
def Ro{H:Hp}{vs:List V}{ls:List (List Key)}{ix:List Nat}(h:AL (fh H) vs ls)(hn:ls.Nodup)(b:cU (ls.map tD) ix):∃ms,AL (fh H) (ix.map λi=>vs.getD i .aV) ms/\Uy ms/\ms.Nodup/\∀a,a∈ms↔a∈ls:=do _;{ms,h1,h2,c}:=Lo [] h b;{ms,h1,h2,c.nodup_iff.mpr hn,λa=>c.mem_iff}
def NP(H:Hp)(v:V)(x:Pc):Prop:=GK H (.tup x.pt) v
theorem NP.af(h:NP H v x)(t:aj H H'):NP H' v x:=GK.af h t
def NL(x:Pc):UI:=.tuple [.int x.ka,.int x.kb]
def C9(a b:Pc)(h:bO a.ka a.kb b.ka b.kb):bN (NL a) (NL b)=true:=gT h
def QL(ls:List Pc):KeysAre (ls.map NL) 2:=do _;{fF λd c=>?_,λd c=>?_,λa f b e=>?_,λd c=>?_};{x,_,rfl}:=qc.mp c;2;{x,_,rfl}:=qc.mp c;(by trivial);{x,_,rfl}:=qc.mp f;{y,_,rfl}:=qc.mp e;2;{x,_,rfl}:=qc.mp c;(by decide:1<=60)
def CJ(P:Pc->Bool)(ms:List Pc)(x:Pc):(ms++[x]).filter P=if P x=true then ms.filter P++[x] else ms.filter P:=do[vj];h<|P x=true;[qE h,yi h,ye];[qB h,yj h,ye,wt]
def PY{kd:List 68}(h:AL (EK R H) kd xs):AL (NP H) (kd.map (·.2.1)) xs:=h.map λe x _ _ p=>p.2.1
section
variable {vs:List V}{H:Hp}{Q:VK}{E:XK}
end
def rC{ls:List (List Key)}(h:∀k∈ls,Pn k):PyData.canLayAll0 (ls.map tD)=true/\PyData.depthAll (ls.map tD)<=1 := {fF λd a=>do _;{k,b,rfl}:=qc.mp a;(h k b).lay,lQ λd a=>do _;{k,b,rfl}:=qc.mp a;dB k}
structure Ln where
 pt:List Key
 wy:UK
 nk:List Key
 bh:Option Nat
 ka:Int
 kb:Int
 lv:Bool
def cR(L:Nat->Ln)(i:Nat):List Key:=(L i).nk
def oI(L:Nat->Ln)(i:Nat):Option Nat:=(L i).bh
def NS(L:Nat->Ln)(i:Nat):UI:=.tuple [.int (L i).ka,.int (L i).kb]
def iV(L:Nat->Ln)(H:Hp)(v:V)(i:Nat):Prop:=∃b c vn a kq,v=.ref b/\H b=!(.tup [c,.str (L i).wy,vn,a,.ref kq,.bl (L i).lv])/\GK H (.tup (L i).pt) c/\NM (cR L) H vn i/\GK H (kd (cR L) (oI L i)) a/\H kq=!(.tup [.int (L i).ka,.int (L i).kb])
theorem iV.af(h:iV L H v i)(t:aj H H'):iV L H' v i:=do _;{b,d,vn,f,kq,e,h1,h2,c,g,a}:=h;{b,d,vn,f,kq,e,t _ _ h1,h2.af t,c.af t,g.af t,t _ _ a}
structure WL(L:Nat->Ln)(n:Nat):Prop where
 bY:n<=1300
 up:∀i j,i<j->j<n->bO (L i).ka (L i).kb (L j).ka (L j).kb
 inj:∀i,i<n->∀j,j<n->(L i).nk=(L j).nk->i=j
 back:∀i,i<n->∀j,(L i).bh=!j->j<i/\(L j).pt=(L i).pt/\(L j).wy=(L i).wy
 lay:∀i,i<n->Lay (L i).nk/\Lay (L i).pt
 wy:∀i,i<n->PyData.strOk (L i).wy=true
def p5(L:Nat->Ln)(pt:List Key)(wy:UK)(i:Nat):Bool:=decide ((L i).pt=pt)&&decide ((L i).wy=wy)
def cz(L:Nat->Ln)(n:Nat)(pt:List Key)(wy:UK):List Nat:=(List.range n).filter (p5 L pt wy)
def eS(L:Nat->Ln)(n:Nat)(pt:List Key)(wy:UK):List Nat:=Rga.eB (Rga.cC (oI L) (cz L n pt wy))
def bf(L:Nat->Ln)(n:Nat)(pt:List Key)(wy:UK):List Nat:=(eS L n pt wy).filter λi=>(L i).lv
def WL.uZ(W:WL L n)(pt:List Key)(wy:UK):xJ (cR L) (oI L) (NS L) (cz L n pt wy) 2:=do p:xJ (cR L) (oI L) (NS L) (List.range n) 2:=(do _;{do[zg];this:=W.bY;(),?_,λi hi j g e=>W.inj i (qj.mp hi) j (qj.mp g) e,Rga.fJ λi hi b e=>(W.back i hi b e).1,rD λd o=>?_};(tS n).imp_of_mem λ{a b} q m h=>gT (W.up a b h (qj.mp m));{i,_,rfl}:=qc.mp o;.inl {_,_,O});p.filter λk f c b e=>?_;{h1,h2,l}:=W.back k (qj.mp f) b e;(by unfold p5 at c ⊢);[h2,l];c
def lT{pt:List Key}:p5 L pt wy i=true↔(L i).pt=pt/\(L i).wy=wy:=do@p5;[zn,decide_eq_true_iff,decide_eq_true_iff]
def RF{pt:List Key}(W:WL L n):(eS L n pt wy).length<=n:=do@eS;[Rga.ie (W.uZ pt wy).wf];@cz;qf (wg _ _) (do[zg];qb _)
def Ts(H:Hp)(fa:UJ)(L:Nat->Ln)(n:Nat):Prop:=∃kvs a vs,Rd H fa (.dK kvs)/\bJ kvs (.inr "lines")=!(.ref a)/\H a=!(.lst vs)/\AN (iV L H) vs (List.range n)/\WL L n
structure Ce where
 pt:List Key
 rw:List Key
 cl:List Key
 wd:UK
 ka:Int
 kb:Int
def gP(C:Nat->Ce)(H:Hp)(v:V)(i:Nat):Prop:=∃b a c vc kq,v=.ref b/\H b=!(.tup [a,c,vc,.str (C i).wd,.ref kq])/\GK H (.tup (C i).pt) a/\GK H (.tup (C i).rw) c/\GK H (.tup (C i).cl) vc/\H kq=!(.tup [.int (C i).ka,.int (C i).kb])
theorem gP.af(h:gP C H v i)(t:aj H H'):gP C H' v i:=do _;{b,f,a,vc,kq,e,h1,h2,d,g,c}:=h;{b,f,a,vc,kq,e,t _ _ h1,h2.af t,d.af t,g.af t,t _ _ c}
def NG(z:UK):Prop:=z = "" \/ z = "ten" \/ z = "abcdefgh" \/ z = "x"
structure G2(C:Nat->Ce)(m:Nat):Prop where
 bY:m<=100
 up:∀i j,i<j->j<m->bO (C i).ka (C i).kb (C j).ka (C j).kb
 lay:∀i,i<m->Lay (C i).pt/\Lay (C i).rw/\Lay (C i).cl
 wd:∀i,i<m->NG (C i).wd
def J9(W:WL L n){pt:List Key}:(bf L n pt wy).length<=1300:=do@bf;this:=wg (λi=>(L i).lv) (eS L n pt wy);h2:=RF (pt:=pt) (wy:=wy) W;this:=W.bY;()
def jN(C:Nat->Ce)(m:Nat)(pt r c:List Key):UK:=(List.range m).foldl (λacc i=>if(C i).pt=pt/\(C i).rw=r/\(C i).cl=c then(C i).wd else acc) ""
def HD(C:Nat->Ce)(m:Nat)(pt r c:List Key):jN C (m+1) pt r c=if(C m).pt=pt/\(C m).rw=r/\(C m).cl=c then(C m).wd else jN C m pt r c:=do@jN;[yx,j4];2
def Ii(L:Nat->Ln)(C:Nat->Ce)(m:Nat)(pt:List Key)(a:List Nat)(r:Nat):List V:=a.map λc=>.str (jN C m pt (cR L r) (cR L c))
def Ng(L:Nat->Ln)(C:Nat->Ce)(m:Nat)(pt:List Key)(b:List Nat)(H0 H:Hp)(v:V)(r:Nat):Prop:=∃a,v=.ref a/\H0 a=none/\H a=!(.lst (Ii L C m pt b r))
def Ng.same{pt:List Key}(h:Ng L C m pt b H0 H v r)(s:ag H H'):Ng L C m pt b H0 H' v r:=do _;{a,h1,h2,c}:=h;{a,h1,h2,s _ _ c}
theorem HM{k:KD}:∀(kvs acc:List 68),(vG (putAll acc kvs) k).getD d=kvs.foldl (λa e=>if e.1=k then e.2.2 else a) ((vG acc k).getD d)|[],acc=>rfl|e::kvs,acc=>do¬(vG (putAll (pG acc e.1 e.2.1 e.2.2) kvs) k).getD d=_;[HM kvs,eE,wz];h<|e.1=k;[qE h.symm,qE h];2;[qB (λz=>h z.symm),qB h]
theorem Ht(C:Nat->Ce)(pt r c:List Key):∀m,((List.range m).filter λi=>decide ((C i).pt=pt)).foldl (λa i=>if KD.two (C i).rw (C i).cl=KD.two r c then V.str (C i).wd else a) (V.str "")=.str (jN C m pt r c)| 0=>rfl|m+1=>do[yx,vj,j4,Ht C pt r c m,HD];hp<|(C m).pt=pt;[List.filter_cons_of_pos (do 0<|hp)];¬(if KD.two (C m).rw (C m).cl=KD.two r c then V.str (C m).wd else _)=_;b<|(C m).rw=r/\(C m).cl=c;[qE (do[b.1,b.2]),qE {hp,b}];[qB (λz=>b (do(by injection z with z1 z2);{z1,z2})),qB (λz=>b z.2)];[List.filter_cons_of_neg (do 0<|hp)];¬V.str _=_;[qB (λz=>hp z.1)]
def A1(H:Hp)(fa:UJ)(L:Nat->Ln)(n:Nat)(C:Nat->Ce)(m:Nat):Prop:=∃kvs a vs b cs,Rd H fa (.dK kvs)/\bJ kvs (.inr "lines")=!(.ref a)/\H a=!(.lst vs)/\AN (iV L H) vs (List.range n)/\WL L n/\bJ kvs (.inr "cells")=!(.ref b)/\H b=!(.lst cs)/\AN (gP C H) cs (List.range m)/\G2 C m
def A1.fl(h:A1 H fa L n C m):Ts H fa L n:=do _;{kvs,a,vs,e,cs,h1,h2,c,d,b,_}:=h;⟨kvs,a,vs,h1,h2,c,d,b⟩
theorem A1.same(h:A1 H fa L n C m)(s:ag H H'):A1 H' fa L n C m:=do _;{kvs,b,vs,k,cs,h1,h2,d,j,c,l,e,f,a}:=h;{kvs,b,vs,k,cs,Rd.same h1 s,h2,s _ _ d,j.imp λv i g=>g.af s.af,c,l,s _ _ e,f.imp λv i g=>g.af s.af,a}
def Ft :Sp:=λvs H Q _=>∃fa a pt wy L n,vs=[.ref fa,a,.str wy]/\Ts H fa L n/\GK H (.tup pt) a/\Lay pt/\∀H' q zs,ag H H'->H q=none->H' q=!(.lst zs)->AN (NM (cR L) H') zs (bf L n pt wy)->Q (.ref q) H'
def Du :Sp:=λvs H Q _=>∃v C i,vs=[v]/\gP C H v i/\∀a,DT H a (.tuple [.int (C i).ka,.int (C i).kb])->Q a H
def Dx :Sp:=λvs H Q _=>∃fa a pt L n C m,vs=[.ref fa,a]/\A1 H fa L n C m/\GK H (.tup pt) a/\Lay pt/\∀H' dq kvs,ag H H'->H dq=none->H' dq=! 69->(∀r c,(vG kvs (.two r c)).getD (.str "")=.str (jN C m pt r c))->Q (.ref dq) H'
def GF :Sp:=λvs H Q _=>∃fa e pt L n C m,vs=[.ref fa,e]/\A1 H fa L n C m/\GK H (.tup pt) e/\Lay pt ∧ ∀H' q c b wp d f ws,ag H H'->H q=none->H' q=!(.tup [.ref c,.ref b,.ref wp])->H c=none->H b=none->H wp=none->c≠b->c≠wp->b≠wp->H' c=!(.lst d)->H' b=!(.lst f)->H' wp=some (.lst ws)-> AN (NM (cR L) H') d (bf L n pt "row")->AN (NM (cR L) H') f (bf L n pt "column")->AN (Ng L C m pt (bf L n pt "column") H H') ws (bf L n pt "row")->ws.Nodup->(∀a,V.ref a∈ws->a≠c/\a≠b/\a≠wp)->Q (.ref q) H'
inductive xN{A B:Type}(p:A->B->Prop):Prop
 |mk (a1:A) (b1:B) (h:p a1 b1):xN p
inductive vX{A B C:Type}(p:A->B->C->Prop):Prop
 |mk (a1:A) (b1:B) (c1:C) (h:p a1 b1 c1):vX p
inductive Iq{A B C D:Type}(p:A->B->C->D->Prop):Prop
 |mk (a1:A) (b1:B) (c1:C) (d1:D) (h:p a1 b1 c1 d1):Iq p
inductive Gy{A B C D E F:Type}(p:A->B->C->D->E->F->Prop):Prop
 |mk (a1:A) (b1:B) (c1:C) (d1:D) (e1:E) (f1:F) (h:p a1 b1 c1 d1 e1 f1):Gy p
inductive Ae{A B C D E F G H:Type}(p:A->B->C->D->E->F->G->H->Prop):Prop
 |mk (a1:A) (b1:B) (c1:C) (d1:D) (e1:E) (f1:F) (g1:G) (h1:H) (h:p a1 b1 c1 d1 e1 f1 g1 h1):Ae p
inductive Sj(A B C:Prop):Prop
 |mk(a1:A)(b1:B)(c1:C)
inductive iD(A B C D:Prop):Prop
 |mk(a1:A)(b1:B)(c1:C)(d1:D)
inductive ot(A B C D E F:Prop):Prop
 |mk(a1:A)(b1:B)(c1:C)(d1:D)(e1:E)(f1:F)
section
variable {a:UJ}{o:Obj}{xs:List V}{kvs:List 68}{lo:Int}{n:Nat}{g:TG}{t u tb:TS}{D:Ends}{σ:L2.St}{H:Hp}{tt:TT}{Q:Bool->Hp->Prop}
def bH(b:Nat->L2.St->Hp->Prop)(h0:b 0 σ H)(d:∀i σ H,i<=xs.length->b i σ H->aD H a xs)(e:∀i x σ H,xs[i]?=!x->b i σ H->∀N:L2.St->Hp->Prop,(∀σ H,b (i+1) σ H->N σ H)->g x σ H λc H2=>tb {D with nx:=N,ct:=N,bk:=D.nx} c H2)(f:∀σ H,b xs.length σ H->D.nx σ H):=Dc (a:=a) (g:=g) (tb:=tb) b h0 d (λi x σ H p q=>e i x σ H p q _ λ_ _ h=>h) f
def cG(a:Nat->L2.St->Hp->Prop)(h0:a 0 σ H)(c:∀i σ H,i<n->a i σ H->∀N:L2.St->Hp->Prop,(∀σ H,a (i+1) σ H->N σ H)->g (.int (lo+i)) σ H λb H2=>tb {D with nx:=N,ct:=N,bk:=D.nx} b H2)(d:∀σ H,a n σ H->D.nx σ H):=QR (g:=g) (tb:=tb) a h0 (λi σ H p q=>c i σ H p q _ λ_ _ h=>h) d
def ij(b:Nat->L2.St->Hp->Prop)(h0:b 0 σ H)(d:∀i σ H,b i σ H->H a=!(.du o 69))(f:∀i e σ H,kvs[i]?=!e->b i σ H->∀N:L2.St->Hp->Prop,(∀σ H,b (i+1) σ H->N σ H)->g e.2.1 σ H λc H2=>tb {D with nx:=N,ct:=N,bk:=D.nx} c H2)(j:∀σ H,b kvs.length σ H->D.nx σ H):=Q6 (g:=g) (tb:=tb) b h0 d (λi x σ H p q=>f i x σ H p q _ λ_ _ h=>h) j
def lM(b:Nat->L2.St->Hp->Prop)(h0:b 0 σ H)(d:∀i σ H,b i σ H->H a=!(.du o 69))(f:∀i e σ H p,kvs[i]?=!e->b i σ H->H p=none->∀N:L2.St->Hp->Prop,(∀σ H,b (i+1) σ H->N σ H)->g (.ref p) σ (upd H p 76) λc H2=>tb {D with nx:=N,ct:=N,bk:=D.nx} c H2)(j:∀σ H,b kvs.length σ H->D.nx σ H):=Si (g:=g) (tb:=tb) b h0 d (λi x σ H p q r s=>f i x σ H p q r s _ λ_ _ h=>h) j
def tI(P:L2.St->Hp->Prop)(h1:∀N:L2.St->Hp->Prop,(∀σ H,P σ H->N σ H)->t {D with nx:=N} σ H)(h2:∀σ H,P σ H->u D σ H):Mo t u D σ H:={P,h1 P λ_ _ h=>h,h2}
def pB(P:Bool->Hp->Prop)(h1:∀N:Bool->Hp->Prop,(∀b H,P b H->N b H)->tt σ H N)(h2:∀b H,P b H->Q b H):Az tt σ H Q:={P,h1 P λ_ _ h=>h,h2}
def RB{R:(L2.St->Hp->Prop)->Prop}{B:(L2.St->Hp->Prop)->Prop}(P:L2.St->Hp->Prop)(h1:R P)(h2:∀N:L2.St->Hp->Prop,(∀σ H,P σ H->N σ H)->B N):∃N:L2.St->Hp->Prop,R N/\B N:={P,h1,h2 P λ_ _ h=>h}
end
def tN(h:c<e\/c=e/\d<=d')(g:bO a b c d):bO a b e d':=by unfold bO at g ⊢;omega
section
variable {g:List Key->Option (List Key)}{E:List Key->Prop}{p l l':List Key}{i i':List (List Key)}
theorem o8(h:Rnd.WO g E p i l)(h':Rnd.WO g E p i' l'):∀n:Nat,n<(i++[l]).length->n<(i'++[l']).length->(i++[l])[n]?=(i'++[l'])[n]?| 0,_,_=>(do[<-tf,<-tf,h.hd,h'.hd])|n+1,a,b=>do e:=o8 h h' n () ();c:=qe (show n<(i++[l]).length from ());d:=h.ch n _ _ c (qe a);f:=h'.ch n _ _ (e.symm.trans c) (qe b);[qe a,qe b,qJ (d.symm.trans f)]
def AS(h:Rnd.WO g E p i l)(h':Rnd.WO g E p i' l'):¬i.length<i'.length:=λz=>do f:(i++[l]).length=i.length+1:=(do[qg,qr]);d:(i'++[l']).length=i'.length+1:=(do[qg,qr]);e:=o8 h h' i.length () ();e<-[yh (qb _),j3,zt z,qe z];e:l=i'[i.length]:=qJ e;b:l∈i':=e▸jg z;y||{_,y||y}:=h.en;{r,a,c}:=z6.mp y;q:=o8 h h' r () ();q<-[zt a,zt (),qe a,qe ()];y0.mp (m9.mp h'.nd) r i.length () z a (do[<-qJ q,c,e]);h'.zV b y;h'.out _ b y
def mW(h:Rnd.WO g E p i l)(h':Rnd.WO g E p i' l'):i=i'/\l=l':=do e:i.length=i'.length:=(do this:=AS h h';this:=AS h' h;());q:i++[l]=i'++[l']:=yc λn=>(do z<|n<(i++[l]).length;o8 h h' n z (by rw[qg,qr]at z ⊢;omega);[ww (),ww (by rw[qg,qr]at z ⊢;omega)]);{a,b}:=List.append_inj q e;{a,by injection b}
end
inductive qT(xs:List Pc):Nat->(List Key->Prop)->(List Key->Prop)->Prop
 |z:qT xs 0 (λ_=>False) λ_=>False
 |no {j E T x ini las}:qT xs j E T->xs[j]?=!x->Rnd.WO (gX xs) E x.pt ini las->las∉ini->qT xs (j+1) (λk=>E k\/k∈ini++[las]) T
 |yes {j E T x ini las r m}:qT xs j E T->xs[j]?=!x->Rnd.WO (gX xs) E x.pt ini las->(∃h:r<ini.length,ini[r]=las)->m∈ini.drop r->(∀b∈ini.drop r,¬Nz xs m b)->qT xs (j+1) (λk=>E k\/k∈ini++[las]) λk=>k=m\/T k
def qT.eq(W:XW xs)(h:qT xs j E T):∀{i f:List Key->Prop},qT xs j i f->E=i/\T=f:=do(by induction h with|z|no h e w n g|yes h e w q m x g=>?_);(i,f,h');-h';{O,O};(i,f,h');(by cases h' with|no h2 c d o|yes h2 c d k _ _=>?_);{rfl,rfl}:=g h2;c<-[e];-c;{rfl,rfl}:=mW w d;{O,O};{rfl,rfl}:=g h2;c<-[e];-c;{rfl,rfl}:=mW w d;{a,b}:=k;absurd (b▸jg a) n;(i,f,h');(by cases h' with|no h2 c d o|yes h2 c d k l s=>?_);{rfl,rfl}:=g h2;c<-[e];-c;{rfl,rfl}:=mW w d;{a,b}:=q;absurd (b▸jg a) o;{rfl,rfl}:=g h2;c<-[e];-c;{rfl,rfl}:=mW w d;{a,b}:=q;{a2,p}:=k;r:=(List.getElem_inj w.nd (h₀:=a) (h₁:=a2)).mp (b.trans p.symm);!r;this:=(W.Um _ _ (w.zV (g0 m)) (w.zV (g0 l))).resolve_right λz=>z.elim (x _ l) (s _ m);[this];{O,O}
def qW(w:List (List Key))(k:List Key):Bool:=w.any λx=>decide (x=k)
def wW{k:List Key}:qW w k=true↔k∈w:=do@qW;0
inductive pj(ys:List Pc):Nat->(List Key->Option Bool)->Prop
 |z:pj ys 0 λk=>if k=aZ then some true else none
 |s {j f x} {ini:List (List Key)} {las:List Key}:pj ys j f->ys[j]?=!x->Rnd.WO (gX ys) (λk=>f k≠none) x.pt ini las->pj ys (j+1) λk=>if qW (ini++[las]) k=true then some ((f las).getD false) else f k
def pj.eq(h:pj ys j f):∀{a:List Key->Option Bool},pj ys j a->f=a:=do(by induction h with|z|s h e w c=>?_);(a,h');-h';2;(a,h');(by cases h' with|s h2 b d=>?_);this:=c h2;!this;b<-[e];-b;{rfl,rfl}:=mW w d;2
structure ZW(ys:List Pc):Prop where
 nd:(ys.map (·.pt)).Nodup
 pt:∀x∈ys,Nm x.pt
 ou:∀x∈ys,Qn x.ou
 bY:ys.length<=100
 G_:∀x∈ys,∀y∈ys,x=y\/bO x.ka x.kb y.ka y.kb\/bO y.ka y.kb x.ka x.kb
theorem ZW.main(W:ZW ys):aZ∉ys.map (·.pt):=λz=>do _;{x,a,e}:=qc.mp z;(W.pt x a).main e
def ZW.C3(W:ZW ys)(P:Pc->Bool):ZW (ys.filter P) := {W.nd.sublist ((ng).map _),λx a=>W.pt x (qk.mp a).1,λx a=>W.ou x (qk.mp a).1,qf (wg _ _) W.bY,λx a y b=>W.G_ x (qk.mp a).1 y (qk.mp b).1}
theorem ZW.map(W:ZW ys)(h:∀x,(F x).pt=x.pt/\(F x).ka=x.ka/\(F x).kb=x.kb)(o:∀x∈ys,Qn (F x).ou):ZW (ys.map F):=do e:(ys.map F).map (·.pt)=ys.map (·.pt):=(do[zx];z8 λx _=>(h x).1);{e▸W.nd,λx a=>?_,λx a=>?_,do[qh];W.bY,λx a y c=>?_};{z,hz,rfl}:=qc.mp a;[(h z).1];W.pt z hz;{z,hz,rfl}:=qc.mp a;o z hz;{z,hz,rfl}:=qc.mp a;{u,b,rfl}:=qc.mp c;[(h z).2.1,(h z).2.2,(h u).2.1,(h u).2.2];(W.G_ z hz u b).imp (λe=>do[e]) id
def sH(f:List Key->Option Bool)(x:Pc):Pc:=if f x.pt=some true then x else{x with ou:=[]}
def pP(f:List Key->Option Bool)(x:Pc):(sH f x).pt=x.pt/\(sH f x).ka=x.ka/\(sH f x).kb=x.kb:=do@sH;by split <;> exact{O,O,O}
def zT(x:Pc):(eg T x).pt=x.pt/\(eg T x).ka=x.ka/\(eg T x).kb=x.kb:=do@eg;by split <;> exact{O,O,O}
def XW.zw(W:XW xs)(T:List Key->Prop):ZW (xs.map (eg T)) := ZW.map {W.nd,λx a=>(W.w x a).pt,λx a=>.inr (W.w x a).ou,W.bY,W.G_} zT λx a=>.inr (Ax (W.w x a)).ou
def rQ(rs zs:List Pc):Prop:=∃E T f,qT (tl rs) (tl rs).length E T/\pj ((tl rs).map (eg T)) (tl rs).length f/\zs=((tl rs).map (eg T)).map (sH f)
theorem rQ.zw(h:rQ rs zs)(W:XW (tl rs)):ZW zs:=do _;{E,T,f,_,_,rfl}:=h;(W.zw T).map (pP f) λx a=>?_;@sH;3;(W.zw T).ou x a;.inl rfl
theorem rQ.eq(h:rQ rs zs)(W:XW (tl rs))(h':rQ rs c):zs=c:=do _;{E,T,f,a,b,rfl}:=h;{j,g,i,e,d,rfl}:=h';{rfl,rfl}:=a.eq W e;[b.eq d]
def yP(rs:List Pc)(cu:List (List Key))(zs:List Pc)(g:List Key->Option Bool):Prop:=rQ rs zs/\pj (zs.filter (lfp cu)) (zs.filter (lfp cu)).length g
theorem yP.eq{g g':List Key->Option Bool}(h:yP rs cu zs g)(W:XW (tl rs))(h':yP rs cu a g'):zs=a/\g=g':=do this:=h.1.eq W h'.1;!this;{O,h.2.eq h'.2}
structure RN(H:Hp)(ys:List Pc)(f:List Key->Option Bool)(kr:List 68):Prop where
 kn:(kr.map (·.1)).Nodup
 ent:∀e∈kr,∃k,k∈nodes ys/\e.1=nd k/\GK H (nd k) e.2.1
 at_:∀k,vG kr (nd k)=(f k).map V.bl
section
variable {H H':Hp}{ys:List Pc}{f:List Key->Option Bool}{kr:List 68}
theorem RN.af(h:RN H ys f kr)(t:aj H H'):RN H' ys f kr:={h.kn,λe a=>let⟨k,h1,h2,b⟩:=h.ent e a;{k,h1,h2,b.af t},h.at_}
def RN.bY(h:RN H ys f kr)(d:ys.length<=100):kr.length<=201:=do this:=xX (kr.map (·.1)) ((nodes ys).map My.nd) h.kn λa b=>(do _;{e,c,rfl}:=qc.mp b;{k,h1,h2,_}:=h.ent e c;qc.mpr {k,h1,h2.symm});this<-[qh,qh];(by unfold nodes at this);this<-[zf,qg,qh,qh];()
def RN.put(h:RN H ys f kr){k:List Key}{y:V}(c:Bool)(b:k∈nodes ys)(g:GK H (My.nd k) y):RN H ys (λa=>if a=k then some c else f a) (pG kr (My.nd k) y (.bl c)) where
 kn:=Ol h.kn _ _ _
 ent:=λe m=>by
  rcases Md m with rfl|⟨e',he',h1,h2⟩
  .exact⟨k,b,O,g⟩
  .obtain⟨d,i,j,l⟩:=h.ent e' he'
   exact{d,i,h1.symm.trans j,by rw[←h2];exact l}
 at_:=λa=>by
  rw[eE];show _=(if a=k then some c else f a).map V.bl
  by_cases z:a=k
  .subst z;rw[qE rfl,qE rfl];rfl
  .rw[qB (λy=>z (rM y)),qB z];exact h.at_ a
def RN.sn(h:RN H ys f kr):fP kr (λk=>f k≠none):=λk=>do¬(_↔f k≠none);[h.at_ k];(by cases q:f k with|none|some b=>?_);{λz=>absurd z qx,λz=>absurd rfl z};{(λ_ z=>nomatch z),λ_=>rfl}
def RN.one(g:GK H (.tup aZ) y):RN H ys (λk=>if k=aZ then some true else none) [((.tup aZ,y,.bl true):KD×V×V)] where
 kn:=zv.mpr {(λz=>nomatch z),wv}
 ent:=λe c=>by rw[qo.mp c];exact{aZ,qi,O,g}
 at_:=λk=>by
  have h:=eE ([]:List 68) (.tup aZ) (My.nd k) y (.bl true);rw[show pG ([]:List 68) (.tup aZ) y (.bl true)=[(.tup aZ,y,.bl true)] from rfl]at h;rw[h];show _=(if k=aZ then some true else none:Option Bool).map V.bl
  by_cases z:k=aZ
  .rw[qE z,qE (by rw[z];rfl)];rfl
  .rw[qB z,qB (λq:My.nd k=KD.tup aZ=>z (rM (a:=k) (b:=aZ) q))];rfl
end
structure rP(zs:List Pc)(G:List Key->Prop)(p:List Key)(l:List Pc):Prop where
 up:l.Pairwise λa b=>bO a.ka a.kb b.ka b.kb
 mem:∀x,x∈l↔(x∈zs/\x.ou=p/\G x.pt)
def rP.eq(h:rP zs G p l)(g:rP zs G p m):l=m := up_eq (lt:=λa b:Pc=>bO a.ka a.kb b.ka b.kb) (λa b h1 h2=>by unfold bO at h1 h2;omega) h.up g.up λx=>(h.mem x).trans (g.mem x).symm
open Classical in
noncomputable def Cf(G:List Key->Prop)(p:List Key)(x:Pc):Bool:=decide (x.ou=p/\G x.pt)
def xR:Cf G p x=true↔(x.ou=p/\G x.pt):=do@Cf;0
def GI(h:¬(x.ou=p/\G x.pt)):Cf G p x=false:=j5.mpr λz=>h (xR.mp z)
def QP{zs ms:List Pc}{G:List Key->Prop}{p:List Key}(c:ms.Pairwise λa b=>bO a.ka a.kb b.ka b.kb)(d:∀x,x∈ms↔x∈zs):rP zs G p (ms.filter (Cf G p)) := {c.sublist ng,λx=>do[qk,d,xR]}
def P5{zs:List Pc}(W:ZW zs){D:Pc->UI}(i:∀a b:Pc,bO a.ka a.kb b.ka b.kb->bN (D a) (D b)=true){ms:List Pc}(c:(ms.map D).Pairwise λa b=>bN b a=false)(hn:ms.Nodup)(d:∀x∈ms,x∈zs):ms.Pairwise λa b=>bO a.ka a.kb b.ka b.kb:=do c:=z9.mp c;List.Pairwise.imp_of_mem (λ{a b} f g h=>?_) (c.and (m9.mp hn));e||e||e:=W.G_ a (d a f) b (d b g);absurd e h.2;e;h<-[i _ _ e];absurd h.1 Bool.true_eq_false.mp
structure rJ(G:List Key->Prop)(ms:List Pc)(H0 H:Hp)(dq:UJ)(kvs:List 68):Prop where
 has:H dq=! 69
 each:∀p,(vG kvs (nd p)=none/\ms.filter (Cf G p)=[])\/∃q vs,vG kvs (nd p)=!(.ref q)/\H q=!(.lst vs)/\AL (NP H) vs (ms.filter (Cf G p))/\H0 q=none
 inj:∀k k' q,vG kvs k=!(.ref q)->vG kvs k'=!(.ref q)->k=k'
 live:∀k q,vG kvs k=!(.ref q)->∃xs,H q=!(.lst xs)
section
variable {ms:List Pc}{G:List Key->Prop}{H0 H H':Hp}{dq q:UJ}{kvs:List 68}{x:Pc}{vn vk:V}{vs:List V}
def rJ.same(h:rJ G ms H0 H dq kvs)(s:ag H H'):rJ G ms H0 H' dq kvs where
 has:=s _ _ h.has
 each:=λk=>by
  rcases h.each k with z|⟨q,vs,h1,h2,h3,h4⟩
  .exact .inl z
  .exact .inr ⟨q,vs,h1,s _ _ h2,h3.imp λv i g=>NP.af g s.af,h4⟩
 inj:=h.inj
 live:=λk q e=>let⟨xs,z⟩:=h.live k q e;{xs,s _ _ z}
def rJ.skip(h:rJ G ms H0 H dq kvs)(a:¬G x.pt):rJ G (ms++[x]) H0 H dq kvs := {h.has,λp=>do[CJ,qB (do[GI λz=>a z.2];qx)];h.each p,h.inj,h.live}
def rJ.old(h:rJ G ms H0 H dq kvs)(m:G x.pt)(e:vG kvs (nd x.ou)=!(.ref q))(eq:H q=!(.lst vs))(n:NP H vn x):rJ G (ms++[x]) H0 (upd H q (.lst (vs++[vn]))) dq kvs where
 has:=by rw[az (λz=>by rw[←z,h.has]at eq;cases eq)];exact h.has
 inj:=h.inj
 live:=λk a l=>by
  by_cases z:a=q
  .subst z;exact{_,aF}
  .obtain⟨xs,y⟩:=h.live k a l
   exact{xs,by rw[az z];exact y}
 each:=λk=>by
  have j:aj H (upd H q (.lst (vs++[vn]))):=aj.wl eq;rw[CJ]
  by_cases f:x.ou=k
  .subst f
   rw[qE (xR.mpr {O,m})];rcases h.each x.ou with⟨z,_⟩|⟨a,b,h1,h2,d,c⟩
   .rw[z]at e;cases e
   .rw[e]at h1
    cases h1;rw[eq]at h2;cases h2;exact .inr {q,_,e,aF,(d.snoc n).imp λv i g=>NP.af g j,c}
  .rw[qB (by rw[GI λz=>f z.1];exact qx)]
   rcases h.each k with z|⟨a,b,h1,h2,d,c⟩
   .exact .inl z
   .refine .inr ⟨a,b,h1,?_,d.imp λv i g=>NP.af g j,c⟩
    have nq:a≠q:=λz=>f (rM (h.inj _ _ q e (by rw[←z];exact h1)))
    rw[az nq];exact h2
def rJ.first(h:rJ G ms H0 H dq kvs)(u:G x.pt)(e:vG kvs (nd x.ou)=none)(l:H0 q=none)(eq:H q=!(.lst []))(b:∀k,vG kvs k≠some (.ref q))(w:NP H vn x):rJ G (ms++[x]) H0 (upd (upd H dq (.dG (pG kvs (nd x.ou) vk (.ref q)))) q (.lst [vn])) dq (pG kvs (nd x.ou) vk (.ref q)) where
 has:=by rw[az (λz=>by rw[←z,h.has]at eq;cases eq),aF]
 inj:=λk m a h1 h2=>by
  rw[eE]at h1 h2
  by_cases n:k=nd x.ou
  .by_cases d:m=nd x.ou
   .rw[n,d]
   .rw[qE n]at h1
    rw[qB d]at h2;cases h1;exact absurd h2 (b m)
  .rw[qB n]at h1
   by_cases d:m=nd x.ou
   .rw[qE d]at h2
    cases h2;exact absurd h1 (b k)
   .rw[qB d]at h2
    exact h.inj _ _ _ h1 h2
 live:=λk a f=>by
  by_cases z:a=q
  .subst z;exact{_,aF}
  .rw[eE]at f
   by_cases c:k=nd x.ou
   .rw[qE c]at f
    cases f;exact absurd rfl z
   .rw[qB c]at f
    obtain⟨xs,y⟩:=h.live k a f
    have o:a≠dq:=λz=>by rw[z,h.has]at y;cases y
    exact{xs,by rw[az z,az o];exact y}
 each:=λk=>by
  have nq:q≠dq:=λz=>by rw[z,h.has]at eq;cases eq
  have t:aj H (upd H dq (.dG (pG kvs (nd x.ou) vk (.ref q)))):=aj.wd h.has
  have p:(upd H dq (.dG (pG kvs (nd x.ou) vk (.ref q)))) q=!(.lst []):=by rw[az nq];exact eq
  have r:=t.trans (aj.wl (o':=.lst [vn]) p);rw[CJ,eE]
  by_cases c:x.ou=k
  .subst c
   rw[qE rfl,qE (xR.mpr {O,u})];rcases h.each x.ou with⟨_,z⟩|⟨a,j,h1,_⟩
   .rw[z]
    exact .inr ⟨q,[vn],O,aF,.cons (w.af r) .nil,l⟩
   .rw[e]at h1;cases h1
  .rw[qB (λz:nd k=nd x.ou=>c (rM z.symm)),qB (show ¬Cf G k x=true by rw[GI λz=>c z.1];exact qx)]
   rcases h.each k with z|⟨a,j,h1,h2,h3,h4⟩
   .exact .inl z
   .refine .inr ⟨a,j,h1,?_,h3.imp λv i g=>NP.af g r,h4⟩
    have s:a≠q:=λz=>b _ (z▸h1)
    have o:a≠dq:=λz=>by rw[z,h.has]at h2;cases h2
    rw[az s,az o];exact h2
end
inductive Ga(vs:List V)(H:Hp)(Q:VK)(_:XK):Prop
 |mk(tq kt xs:_)(_:vs=[.ref tq])(_:Rd H tq (.dG kt))(_:AL (EK (gM H) H) kt xs)(_:XW xs)(_:jL H)(_:∀H' ta ku E T,ag (cg H (sS tq)) H'->Rd H' tq (.dG kt)->jL H'->H ta=none->H' ta=!(.dG ku)->qT xs xs.length E T->SM ku T->Q (.ref ta) H')
inductive C1(vs:List V)(H:Hp)(Q:VK)(_:XK):Prop
 |mk(tq kt xs:_)(_:vs=[.ref tq])(_:Rd H tq (.dG kt))(_:AL (EK (gM H) H) kt xs)(_:XW xs)(_:jL H)(_:MA H)(_:∀H' sa ks E T,ag (cg H (sS tq)) H'->jL H'->H sa=none->H' sa=!(.dG ks)->qT xs xs.length E T->AL (EK (qV H') H') ks (xs.map (eg T))->Q (.ref sa) H')
inductive GD(vs:List V)(H:Hp)(Q:VK)(_:XK):Prop
 |mk(oa ko ys:_)(_:vs=[.ref oa])(_:Rd H oa (.dG ko))(_:AL (EK (iH H) H) ko ys)(_:ZW ys)(_:MA H)(_:∀H' ra kr f,ag (del H oa) H'->Rd H' oa (.dG ko)->H ra=none->H' ra=!(.dG kr)->RN H' ys f kr->pj ys ys.length f->(∀x∈ys,f x.pt≠none)->Q (.ref ra) H')
inductive EL(vs:List V)(H:Hp)(Q:VK)(_:XK):Prop
 |mk(fa es rs:_)(_:vs=[.ref fa])(_:FQ H fa es rs)(_:jL H)(_:MA H)(_:∀H' da kd zs,ag (del H hH) H'->jL H'->H da=none->H' da=!(.dG kd)->rQ rs zs->AL (EK (iH H') H') kd zs->Q (.ref da) H')
inductive GN(vs:List V)(H:Hp)(Q:VK)(_:XK):Prop
 |mk(fa F bs es cs rs cu k da kd zs:_)(_:vs=[.ref fa,.ref da])(_:FB H fa F bs es cs rs cu k)(_:k<=100)(_:Rd H da (.dG kd))(_:AL (EK (iH H) H) kd zs)(_:ZW zs)(_:MA H)(_:∀H' qa kq g,ag (del H da) H'->Rd H' da (.dG kd)->H qa=none->H' qa=!(.dG kq)->pj (zs.filter (lfp cu)) (zs.filter (lfp cu)).length g->fP kq (λk=>g k=!true)->(∃ls,SD H' kq ls/\ls.Nodup/\∀a,a∈ls↔g a=!true)->Q (.ref qa) H')
def GT(g:List Key->Option Bool)(k:List Key):Prop:=g k=!true
inductive GA(vs:List V)(H:Hp)(Q:VK)(_:XK):Prop
 |mk(fa F bs es cs rs cu k:_)(_:vs=[.ref fa])(_:FB H fa F bs es cs rs cu k)(_:k<=63)(_:(tl rs).length<=62)(_:eJ H)(_:MA H)(_:∀H' da kd zs g,ag (cg H s2) H'->eJ H'->H da=none->H' da=!(.dG kd)->yP rs cu zs g->(∀p,Pn p->(vG kd (.tup p)=none/\rP zs (GT g) p [])\/∃q ws l,vG kd (.tup p)=!(.ref q)/\H q=none/\H' q=!(.lst ws)/\AL (NP H') ws l/\rP zs (GT g) p l)->Q (.ref da) H')
section
variable {vs:List V}{H:Hp}{Q:VK}{E:XK}
end
def rQ.len(h:rQ rs zs):zs.length=(tl rs).length:=do _;{E,T,f,_,_,rfl}:=h;[qh,qh]
def rQ.of(h:rQ rs zs)(d:x∈zs):∃z∈tl rs,x.pt=z.pt/\x.ka=z.ka/\x.kb=z.kb:=do _;{E,T,f,_,_,rfl}:=h;{y,c,rfl}:=qc.mp d;{z,hz,rfl}:=qc.mp c;a:=pP f (eg T z);b:=zT (T:=T) z;{z,hz,a.1.trans b.1,a.2.1.trans b.2.1,a.2.2.trans b.2.2}
def j2.wA{nk:Nat->List Key}{f:Nat->List UI}{B:UJ->Prop}{Z:Hp}{kvs:List 68}{js:List Nat}(h:j2 nk f B Z kvs js)(nd:(kvs.map (·.2.2)).Nodup){k:KD}{y:V}{a:UJ}(g:Z a=none):((kvs++[(k,y,V.ref a)]).map (·.2.2)).Nodup:=do[zy];yn.mpr {nd,gw _ _,λx n z hz e=>?_};{t,l,rfl}:=qc.mp n;e<-[qo.mp hz];{j,d}:=j6 l;i:j<js.length:=(do[<-h.len];(qw.mp d).1);{_,_,c,zs,m,_,b,_}:=h.ent j t _ d (qe i);e:t.2.2=.ref a:=e;e<-[m];-e;b<-[g];-b
def iK(a b:UK):decide (V.str a=V.str b)=decide (a=b):=do h<|a=b;[h,qH rfl,qH rfl];[decide_eq_false h,decide_eq_false λz=>h (by injection z)]
def Sw{α:Type}(x:α)(xs:List α):oO (x::xs) 0=!x:=do@oO;e:sU (x::xs).length 0=some 0:=(do@sU;[zf,qE (),qE ()];2);[e];2
def vS(H:Hp)(v:V):Prop:=∃p,GK H (.tup p) v/\Pn p
theorem vS.af(h:vS H v)(t:aj H H'):vS H' v:=let⟨p,g,q⟩:=h;{p,g.af t,q}
theorem xH{α:Type}{P:V->α->Prop}:∀{ys:List V},(∀y∈ys,∃k,P y k)->∃ks:List α,ks.length=ys.length/\∀(m:Nat) y k,ys[m]?=!y->ks[m]?=!k->P y k|[],_=>{[],O,λm y k z=>do z<-0}|y::ys,h=>do _;{k,c}:=h y qi;{ks,a1,a2}:=xH λz hz=>h z (qm _ hz);{k::ks,do[zf,zf,a1],λm z j a b=>?_};(by cases m with|zero|succ m=>?_);-a;-b;c;a2 m z j (do 0<|a) (do 0<|b)
def NO(H:Hp)(v:V)(a:Int×Int):Prop:=∃b d p h t y c,v=.ref b/\H b=!(.tup [d,.str h,.str t,.bl y,.ref c])/\GK H (.tup p) d/\Pn p/\H c=!(.tup [.int a.1,.int a.2])/\PyData.strOk h=true/\PyData.strOk t=true
def LR(H:Hp)(v:V):Prop:=∃a,NO H v a
theorem NO.af(h:NO H v a)(s:aj H H'):NO H' v a:=do _;{b,i,p,x,t,y,c,e,h1,h2,g,d,f}:=h;{b,i,p,x,t,y,c,e,s _ _ h1,h2.af s,g,s _ _ d,f}
theorem LR.af(h:LR H v)(s:aj H H'):LR H' v:=let⟨a,g⟩:=h;{a,g.af s}
structure Lf where
 pt:List Key
 hd:UK
 to:UK
 ys:Bool
 ka:Int
 kb:Int
def LX(H:Hp)(v:V)(l:Lf):Prop:=∃b a c,v=.ref b/\H b=!(.tup [a,.str l.hd,.str l.to,.bl l.ys,.ref c])/\GK H (.tup l.pt) a/\Pn l.pt/\H c=!(.tup [.int l.ka,.int l.kb])/\PyData.strOk l.hd=true/\PyData.strOk l.to=true
theorem LX.af(h:LX H v l)(s:aj H H'):LX H' v l:=do _;{b,g,c,e,h1,h2,f,a,d}:=h;{b,g,c,e,s _ _ h1,h2.af s,f,s _ _ a,d}
def LS(ls:List Lf):Prop:=ls.Pairwise (λa b=>bO a.ka a.kb b.ka b.kb)
def bR(a to:UK):List Lf->List Key->Option Bool|[],_=>none|l::ls,p=>(bR a to ls p).or (if l.pt=p/\l.hd=a/\l.to=to then some l.ys else none)
theorem Co(a to:UK)(l:Lf)(p:List Key):∀ls:List Lf,bR a to (ls++[l]) p=(if l.pt=p/\l.hd=a/\l.to=to then some l.ys else none).or (bR a to ls p)|[]=>(do¬(none:Option Bool).or _=Option.or _ none;[nh,Option.or_none])|x::ls=>do¬(bR a to (ls++[l]) p).or _=_;[Co a to l p ls,Option.or_assoc];2
def G'(br:List (List Key×List Key))(p:List Key):Option (List Key):=(br.find? λe=>decide (e.1=p)).map (·.2)
def yD(br:List (List Key×List Key)):Nat->List Key->List (List Key)| 0,p=>[p]|n+1,p=>p::match G' br p with|none=>[]|some o=>yD br n o
def om(br:List (List Key×List Key))(ls:List Lf)(a:UK)(p:List Key):Bool:=((yD br br.length p).findSome? (bR a "read" ls)).getD false
def BP(H:Hp)(v:V)(x:List Key×List Key):Prop:=∃b vn a,v=.ref b/\H b=!(.tup [vn,a])/\GK H (.tup x.1) vn/\GK H (.tup x.2) a/\Pn x.1/\Pn x.2
theorem BP.af(h:BP H v x)(t:aj H H'):BP H' v x:=do _;{b,vn,c,e,h1,h2,d,a}:=h;{b,vn,c,e,t _ _ h1,h2.af t,d.af t,a}
def m_(H:Hp)(v:V)(p:List Key):Prop:=GK H (.tup p) v/\Pn p
theorem m_.af(h:m_ H v p)(t:aj H H'):m_ H' v p:={h.1.af t,h.2}
theorem IG:∀{ys:List V} {br:List (List Key×List Key)},AL (BP H) ys br->∃es,cw H ys es/\AL (λ(e:KD×V×V) x=>e.1=.tup x.1/\m_ H e.2.2 x.2) es br|[],[],_=>{[],trivial,.nil}|[],_::_,h=>h.none.elim|_::_,[],h=>h.nothing.elim|y::ys,x::br,h=>do _;{b,vn,c,e,h1,h2,d,f,a}:=h.head;{es,a1,a2}:=IG h.tail;{(.tup x.1,vn,c)::es,{{b,e,h1,h2},a1},.cons {O,d,a} a2}
theorem Nj:∀{kvs:List 68} {br:List (List Key×List Key)},AL (λ(e:KD×V×V) x=>e.1=.tup x.1/\m_ H e.2.2 x.2) kvs br->∀p,(vG kvs (.tup p)=none/\G' br p=none)\/∃v o,vG kvs (.tup p)=!v/\G' br p=!o/\m_ H v o|[],[],_,_=>.inl {O,O}|[],_::_,h,_=>h.none.elim|_::_,[],h,_=>h.nothing.elim|e::kvs,x::br,h,p=>do b:=h.head;a:=Nj h.tail p;(by unfold vG G' at a ⊢);[vd,vd,b.1];z<|x.1=p;[qH (do[z]),qH z];.inr {_,_,O,O,b.2};[decide_eq_false λy=>z (KD.tup.inj y),decide_eq_false z];a
inductive BJ(vs:List V)(H:Hp)(Q:VK)(_:XK):Prop
 |mk(q v p ys br:_)(_:vs=[.ref q,v])(_:aD H q ys)(_:AL (BP H) ys br)(_:br.length<=100)(_:(br.map (·.1)).Nodup)(_:m_ H v p)(_:∀H' c cv,ag H H'->H c=none->H' c=!(.lst cv)->AL (m_ H') cv (yD br br.length p)->Q (.ref c) H')
inductive Fs(vs:List V)(H:Hp)(Q:VK)(_:XK):Prop
 |mk(v l:_)(_:vs=[v])(_:LX H v l)(_:∀kv,DT H kv (.tuple [.int l.ka,.int l.kb])->Q kv H)
inductive Bs(vs:List V)(H:Hp)(Q:VK)(_:XK):Prop
 |mk(p ys ls hd tt:_)(_:vs=[.ref p,.str hd,.str tt])(_:aD H p ys)(_:AL (LX H) ys ls)(_:LS ls)(_:ls.length<=45)(_:∀H' q kvs,ag H H'->H q=none->H' q=! 69->(∀p,vG kvs (.tup p)=(bR hd tt ls p).map V.bl)->Q (.ref q) H')
inductive Gi(vs:List V)(H:Hp)(Q:VK)(_:XK):Prop
 |mk(p c ys ls hd tt cv ps:_)(_:vs=[.ref p,.ref c,.str hd,.str tt])(_:aD H p ys)(_:AL (LX H) ys ls)(_:LS ls)(_:ls.length<=45)(_:aD H c cv)(_:AL (m_ H) cv ps)(_:∀H',ag H H'->Q (.bl ((ps.findSome? (bR hd tt ls)).getD false)) H')
inductive C7(vs:List V)(H:Hp)(Q:VK)(_:XK):Prop
 |mk(r b p hd v k r0 rs bs br ys ls:_)(_:vs=[.ref r,.ref b,.ref p,.str hd,v,.str "read"])(_:aD H r (.str r0::rs))(_:aD H b bs)(_:AL (BP H) bs br)(_:br.length<=100)(_:(br.map (·.1)).Nodup)(_:aD H p ys)(_:AL (LX H) ys ls)(_:LS ls)(_:ls.length<=45)(_:m_ H v k)(_:∀H',ag H H'->Q (.bl (decide (hd=r0)||om br ls hd k)) H')
section
variable {vs:List V}{H:Hp}{Q:VK}{E:XK}
end
def Mq{ls:List Lf}(f:LS ls){ix:List Nat}(a:cU (ls.map λl=>.tuple [.int l.ka,.int l.kb]) ix):ix=List.range ls.length:=do(by let D:Nat->UI:=λi=>((ls.map λl=>PyData.tuple [.int l.ka,.int l.kb])[i]?).getD .none);e:(ls.map λl=>PyData.tuple [.int l.ka,.int l.kb])=(List.range ls.length).map D:=(do yc λm=>?_;[qv,qv];d<|m<ls.length;[yg d,qe d];¬_=!(((ls.map λl=>PyData.tuple [.int l.ka,.int l.kb])[m]?).getD PyData.none);[qv,qe d];2;[ww (),ww (do[zg];())];2);a<-[e];h:=tu (js:=List.range ls.length) (ms:=List.range ls.length) (.refl _) ?_ a;g:∀i∈ix,i<ls.length:=λi hi=>(do this:=(a.1.mem_iff).mp hi;this<-[qj,qh,zg];this);[<-h];(List.map_id _).symm.trans (z8 λi hi=>?_);[ze,yg (g i hi)];2;y0.mpr λi j hi b c=>?_;[tz,tz];(by rw[zg]at hi b);¬bN (((ls.map λl=>PyData.tuple [.int l.ka,.int l.kb])[i]?).getD PyData.none) (((ls.map λl=>PyData.tuple [.int l.ka,.int l.kb])[j]?).getD PyData.none)=true;[qv,qv,qe hi,qe b];this:=y0.mp f i j hi b c;gT this
def oo(d:UI):Prop:=(∃z:UK,d=.str z/\z.length<=10)\/(∃w:UK,d=.tuple [.str "picture",.str w]/\w.length<=10)\/∃p,d=.tuple [.str "refer",tD p]/\Pn p
structure DZ where
 S:Nat->Sg
 n:Nat
 M:Nat->Mk
 m:Nat
 N:Nat->Mk
 q:Nat
 L:Nat->Ln
 a:Nat
 C:Nat->Ce
 b:Nat
 rs:List Pc
 cu:List (List Key)
structure FZ(H:Hp)(fa:UJ)(F:Nat->UJ)(d:DZ):Prop where
 fs:∃xs ms ns,FS H fa F d.S d.n d.M d.m d.N d.q xs ms ns
 hm:d.m<=63
 fb:∃bs es cs k,FB H fa F bs es cs d.rs d.cu k/\k<=63/\(tl d.rs).length<=62
 lv:∃ys,H (F 8)=!(.lst ys)/\(∀y∈ys,LR H y)/\ys.length<=45
 tb:A1 H fa d.L d.a d.C d.b
 sg:∀i,i<d.n->oo (d.S i).sg
def FZ.kp(h:FZ H fa F d)(k:∀b o,H b=!o->(∀ps,o≠.cn ps)->H' b=!o):FZ H' fa F d:=do t:aj H H':=λb xs e=>k _ _ e λ_ z=>nomatch z;c:∀{b xs},H b=!(.lst xs)->H' b=!(.lst xs):=λe=>k _ _ e λ_ z=>nomatch z;kr:∀{a kvs},Rd H a (.dK kvs)->Rd H' a (.dK kvs):=λr=>(do e||{o,e}:=r;.inl (k _ _ e λ_ z=>nomatch z);.inr ⟨o,k _ _ e λ_ z=>nomatch z⟩);⟨?_,h.hm,?_,?_,?_,h.sg⟩;{xs,ms,ns,g}:=h.fs;{xs,ms,ns,g.to t (g.dk.mp λ_ r=>kr r) λi _ xs e=>c e};{bs,es,cs,j,g,h1,h2}:=h.fb;{bs,es,cs,j,{g.dk.mp λ_ r=>kr r,g.inj,λi h1 h2=>let⟨xs,e⟩:=g.rest i h1 h2;{xs,c e},c g.eb,c g.ev,c g.ec,g.fi.af t},h1,h2};{ys,e,h1,h2}:=h.lv;{ys,c e,λy p=>(h1 y p).af t,h2};{kvs,l,vs,w,cs,h1,h2,n,u,m,x,s,q,f}:=h.tb;{kvs,l,vs,w,cs,kr h1,h2,c n,u.imp λv i g=>iV.af g t,m,x,c s,q.imp λv i g=>gP.af g t,f}
def FZ.same(h:FZ H fa F d)(s:ag H H'):FZ H' fa F d:=h.kp λb o e _=>s _ _ e
theorem FZ.xw(h:FZ H fa F d):XW (tl d.rs):=let⟨_,_,_,_,g,h1,_⟩:=h.fb;(g.fq ()).xw
def lj(i:Nat):UK:=Str.ofString (toString (i:Int))
def rS(z:UK)(i:Nat):UK:=if z = "" then lj i else((Str.empty++z)++".")++lj i
def subs(z:UK):Nat->List Pc->List (List Key×UK)|_,[]=>[]|i,x::l=>(x.pt,rS z (i+1))::subs z (i+1) l
theorem yJ(z:UK):∀(l:List Pc) (i m:Nat),(subs z i l)[m]?=l[m]?.map λx=>(x.pt,rS z (i+m+1))|[],_,_=>(do[show subs z _ []=[] from rfl];2)|x::l,i,0=>rfl|x::l,i,m+1=>do¬(subs z (i+1) l)[m]?=l[m]?.map _;[yJ z l (i+1) m,show i+1+m+1=i+(m+1)+1 from ()]
theorem vD(z:UK):∀(l:List Pc) (i:Nat),(subs z i l).length=l.length|[],_=>rfl|_::l,i=>congrArg (·+1) (vD z l (i+1))
theorem Hr(z:UK):∀(l:List Pc) (i:Nat),(subs z i l).map (·.1)=l.map (·.pt)|[],_=>rfl|_::l,i=>congrArg (_::·) (Hr z l (i+1))
def oC(H:Hp)(nq:UJ)(a:List Key->Option UK):Prop:=∃kvs,H nq=! 69/\∀p,Pn p->vG kvs (.tup p)=(a p).map V.str/\∀z,a p=!z->z.length<=1000
def oC.same(h:oC H nq a)(s:ag H H'):oC H' nq a:=let⟨kvs,r,k⟩:=h;{kvs,s _ _ r,k}
def eH(a:List (List Key×UK))(p:List Key):Option UK:=(a.find? λe=>decide (e.1=p)).map (·.2)
def txt(a:List Key->Option UK)(d:UI)(t:UK):Prop:=d=.str t\/(∃w:UK,d=.tuple [.str "picture",.str w]/\t = "*"++w)\/∃p,d=.tuple [.str "refer",tD p]/\t = "#"++(a p).getD "?"
def CQ(h:txt a d t)(g:txt a d u):t=u:=do(by rcases h with h|⟨w,h,e⟩|⟨p,h,e⟩ <;> rcases g with g|⟨w',g,e'⟩|⟨p',g,e'⟩ <;> rw[h]at g;injection g);-g;-g;-g;(by injection g with g;injection g with _ g;injection g with g _;injection g with g);[e,e',g];(by injection g with g;injection g with g _;injection g with g);absurd g ∅;-g;(by injection g with g;injection g with g _;injection g with g);absurd g ∅;(by injection g with g;injection g with _ g;injection g with g _);[e,e',Gs g]
noncomputable def tx(a:List Key->Option UK)(d:UI):UK:=Classical.epsilon (txt a d)
def zO(h:txt a d t):t=tx a d:=CQ h (Classical.epsilon_spec {t,h})
def Cd{H:Hp}{p:List Key}:∀{xs:List V},dn H xs (p.map kP)->xs=p.map kV:=do(by induction p with|nil|cons k p b=>?_);(xs,h);-h;2;(xs,h);(by cases h with|cons a t=>?_);[b t];by cases k <;> cases a <;> rfl
def KS(h:DT H v (tD p)):GK H (.tup p) v:=do(by cases h with|tup e t=>?_);e<-[Cd t];{_,O,e}
def JP:∀i:Nat,i<=63->(lj i).length<=3:=do this:∀i:Nat,i<64->(lj i).length<=3:=∅;λi h=>this i ()
def Ey(z:UK):(Str.empty++z).length=z.length:=do[uX];jh _
def Rh(z:UK)(h:i<=63):(rS z i).length<=z.length+4:=do nl:=JP i h;@rS;3;();a:((Str.empty++z)++".").length=z.length+1:=(do[uX,Ey];2);[uX,a];()
def O1(d:DZ)(p:List Key)(i:Nat):List UI:=nU d.M false (aB d.S d.n p) (aG d.M d.m p) ((aB d.S d.n p).idxOf i)
theorem Ik:∀{kvs:List 68} {a:List (List Key×UK)},AL (λe x=>e.1=.tup x.1/\e.2.2=.str x.2) kvs a->∀p,vG kvs (.tup p)=(eH a p).map V.str|[],[],_,_=>rfl|[],_::_,h,_=>h.none.elim|_::_,[],h,_=>h.nothing.elim|e::kvs,x::a,h,p=>do c:=h.head;b:=Ik h.tail p;(by unfold vG eH at b ⊢);[vd,vd,c.1];z<|x.1=p;[qH (do[z]),qH z];¬some e.2.2=_;[c.2];2;[decide_eq_false λy=>z (KD.tup.inj y),decide_eq_false z];b
theorem IW:∀{a:List (List Key×UK)},(a.map (·.1)).Nodup->∀{x:List Key×UK},x∈a->eH a x.1=!x.2|y::a,h,x,hx=>do h<-[zm,zv];@eH;[vd];rfl||hx:=qt.mp hx;[qH rfl];2;[decide_eq_false λz=>h.1 (qc.mpr {x,hx,z.symm})];IW h.2 hx
inductive EX(vs:List V)(H:Hp)(Q:VK)(_:XK):Prop
 |mk(z:_)(i:Nat)(_:vs=[.str z,.int i])(_:i<=63)(_:z.length<=900)(_:Q (.str (rS z i)) H)
inductive DA(vs:List V)(H:Hp)(Q:VK)(_:XK):Prop
 |mk(nq num v d:_)(_:vs=[.ref nq,v])(_:oC H nq num)(_:DT H v d)(_:oo d)(_:∀t,txt num d t->Q (.str t) H)
section
variable {vs:List V}{H:Hp}{Q:VK}{E:XK}
end
def mY(k:Nat)(d:UI):Prop:=d.canLay0=true/\d.depth<=k
def jX{k:Nat}(h:∀d∈ds,mY k d):mY (k+1) (.list ds):={fF λd a=>(h d a).1,j7 (lQ λd a=>(h d a).2)}
def l8{k:Nat}(h:∀d∈ds,mY k d):mY (k+1) (.tuple ds):={fF λd a=>(h d a).1,j7 (lQ λd a=>(h d a).2)}
def jQ{k:Nat}(h:PyData.strOk z=true):mY k (.str z):={h,q0 _}
def mY.up{k m:Nat}(h:mY k d)(l:k<=m):mY m d:={h.1,qf h.2 l}
def uo(h:Lay p):mY 1 (tD p):={h,dB p}
def xW(h:PyData.strOk a=true)(g:PyData.strOk b=true):PyData.strOk (a++b)=true:=do(by unfold PyData.strOk at *);¬(a.cps++b.cps).all _=true;[Array.all_append,h,g];2
def MU:∀i:Nat,i<=101->PyData.strOk (lj i)=true:=do this:∀i:Nat,i<102->PyData.strOk (lj i)=true:=∅;λi h=>this i ()
def J7(z:UK):Str.empty++z=z:=do¬({#[]++z.cps}:UK)=z;[Array.empty_append]
def ER(h:PyData.strOk z=true)(hi:i<=101):PyData.strOk (rS z i)=true:=do@rS;3;MU i hi;[J7];xW (xW h ∅) (MU i hi)
def AI{S:Nat->Sg}{pt:List Key}(W:WK S n M m)(h:d∈nU M a js (aG M m pt) p):d.canLay0=true/\d.depth<=2/\fQ d=true:=do(by unfold nU at h);{kd,_,h2}:=gc.mp h;(by cases c:tell M js (aG M m pt) kd p with|none|some k=>?_);h2<-[c];-h2;h2<-[c];h2:(if(M k).vl=none then none else some (PyData.tuple [.str (M k).kd,pR M a k]))=!d:=h2;f:k<m:=qj.mp (qk.mp (Jp c).1).1;{l,j,g,i}:=W.lay k f;z<|(M k).vl=none;h2<-[qE z];-h2;h2<-[qB z];-h2;b:(pR M a k).canLay0=true/\(pR M a k).depth<=1/\fQ (pR M a k)=true:=(do@pR;(by cases a with|true|false=>?_);{j,dB _,kO _};(by cases q:(M k).vl with|none|some y=>?_);absurd q z;{i y q,q0 1,O});{?_,?_,?_};¬(PyData.strOk (M k).kd&&((pR M a k).canLay0&&true))=true;[g,b.1];2;¬max 0 (max (pR M a k).depth 0)+1<=2;();[fQ];nY λd e=>?_;(by ac_nf at e);rfl||rfl:=e;2;b.2.2
theorem pV{α:Type}{P:V->α->Prop}{H:Hp}{D:α->UI}(a:∀v r,P v r->DV H v (D r)):∀{vs:List V} {rs:List α},AL P vs rs->dV H vs (rs.map D)|[],[],_=>.nil|[],_::_,h=>h.none.elim|_::_,[],h=>h.nothing.elim|_::_,_::_,h=>.cons (a _ _ h.head) (pV a h.tail)
theorem MO{H:Hp}{f:Nat->UK}:∀js:List Nat,dV H (js.map λc=>.str (f c)) (js.map λc=>.str (f c))|[]=>.nil|_::js=>.cons (.str _) (MO js)
def Lm(d:DZ)(p:List Key)(r:Nat):UI:=.list ((bf d.L d.a p "column").map λc=>.str (jN d.C d.b p (cR d.L r) (cR d.L c)))
def uR(d:DZ)(p:List Key):UI:=.tuple [.list ((bf d.L d.a p "row").map λi=>tD (cR d.L i)),.list ((bf d.L d.a p "column").map λi=>tD (cR d.L i)),.list ((bf d.L d.a p "row").map (Lm d p))]
def Ms(d:DZ)(p:List Key):List UI:=(bU d.N d.q p).map (oG d.S (aB d.S d.n p) d.N)
noncomputable def lK(d:DZ)(a:List Key->Option UK)(p:List Key)(i:Nat):UI:=.tuple [tD (cm d.S i),.str (tx a (d.S i).sg),.list (O1 d p i)]
noncomputable def DK(d:DZ)(a:List Key->Option UK)(x:List Key×UK):UI:=.tuple [.str x.2,tD x.1,.list ((aQ d.S d.n x.1).map (lK d a x.1)),.list (Ms d x.1),uR d x.1]
def Qr{pt:List Key}(h:i∈bf L n pt wy)(W:WL L n):i<n:=do h:=(qk.mp h).1;e:i∈eS L n pt wy↔i∈Rga.jB (Rga.cC (oI L) (cz L n pt wy)):=(Rga.cF (W.uZ pt wy).wf).mem_iff;h<-[e,Rga.dP,vy];qj.mp (qk.mp h).1
theorem Hv(pt r c:List Key):∀m,(∀i,i<m->NG (C i).wd)->PyData.strOk (jN C m pt r c)=true| 0,_=>(do¬PyData.strOk ""=true;by decide +kernel)|m+1,h=>do[HD];3;(by rcases h m () with e|e|e|e <;> rw[e] <;> decide +kernel);Hv pt r c m λi hi=>h i ()
def JW(hn:∀p z,a p=!z->PyData.strOk z=true)(o:oo x)(l:x.canLay0=true):PyData.strOk (tx a x)=true:=do ex:∃t,txt a x t/\PyData.strOk t=true:=(do _;{z,rfl,_}||{w,rfl,_}||{p,rfl,_}:=o;⟨z,.inl rfl,l⟩;⟨_,.inr (.inl ⟨w,O,O⟩),xW ∅ ?_⟩;l:(PyData.strOk "picture"&&(PyData.strOk w&&true))=true:=l;l<-[mo,zn];l.2;{_,.inr (.inr {p,O,O}),xW ∅ ?_};(by cases q:a p with|none|some z=>?_);¬PyData.strOk "?"=true;(by decide +kernel);hn p z q);{t,h1,h2}:=ex;[<-zO h1];h2
def Ca(h:x=y)(l:x.canLay0=true):(if true=true then not (PyData.eqv x y) else PyData.eqv x y)=false:=do[qE rfl,<-h,PySem.SeqAt.eqv_refl x l];2
section
variable {H:Hp}{fa:UJ}{F:Nat->UJ}{d:DZ}{p:List Key}
def FZ.QO(h:FZ H fa F d):mY 3 (uR d p):=do _;{kvs,k,vs,l,cs,_,_,_,_,e,_,_,_,f}:=h.tb;g:∀wy,mY 2 (.list ((bf d.L d.a p wy).map λi=>tD (cR d.L i))):=λwy=>jX λx b=>(do _;{i,hi,rfl}:=qc.mp b;uo (e.lay i (Qr hi e)).1);l8 λx b=>?_;(by ac_nf at b);rfl||rfl||rfl:=b;g _;g _;jX λx b=>?_;{i,hi,rfl}:=qc.mp b;jX λx b=>?_;{c,j,rfl}:=qc.mp b;jQ (Hv _ _ _ _ f.wd)
def FZ.T4(h:FZ H fa F d):mY 3 (.list (Ms d p)):=do _;{xs,ms,ns,fs}:=h.fs;{a,b,_}:=HZ (pt:=p) fs.ws fs.wn;{a,j7 b}
def FZ.Uj(h:FZ H fa F d)(i:Nat):mY 3 (.list (O1 d p i)):=do _;{xs,ms,ns,fs}:=h.fs;jX λx a=>{(AI fs.wm a).1,(AI fs.wm a).2.1}
def FZ.Ui(h:FZ H fa F d)(hi:i∈aQ d.S d.n p):i<d.n:=let⟨_,_,_,fs⟩:=h.fs;((gF fs.ws).mp (qk.mp hi).1).1
def FZ.Py(h:FZ H fa F d)(hn:∀p z,c p=!z->PyData.strOk z=true)(hp:Pn x.1)(hz:PyData.strOk x.2=true):mY 6 (DK d c x):=do _;{xs,ms,ns,fs}:=h.fs;l8 λy b=>?_;(by ac_nf at b);rfl||rfl||rfl||rfl||rfl:=b;jQ hz;(uo hp.lay).up ⋯;jX λy b=>?_;{i,hi,rfl}:=qc.mp b;a:=h.Ui hi;l8 λy b=>?_;(by ac_nf at b);rfl||rfl||rfl:=b;(uo (fs.ws.lay i a).1).up ⋯;jQ (JW hn (h.sg i a) (fs.ws.sgn i a).1);h.Uj i;h.T4.up ⋯;h.QO.up ⋯
end
abbrev mu:HO:=.lst [.str "ann",.str "bo"]
structure D6 where
 d:DZ
 br:List (List Key×List Key)
 ls:List Lf
structure F6(H:Hp)(fa:UJ)(F:Nat->UJ)(x:D6):Prop where
 fz:FZ H fa F x.d
 eb:∃bs,H (F 0)=!(.lst bs)/\AL (BP H) bs x.br
 ev:∃ys,H (F 8)=!(.lst ys)/\AL (LX H) ys x.ls
 nb:(x.br.map (·.1)).Nodup
 lb:x.br.length<=60
 ls:LS x.ls
 ll:x.ls.length<=45
section
variable {H H':Hp}{fa:UJ}{F:Nat->UJ}{x:D6}
theorem F6.kp(h:F6 H fa F x)(k:∀b o,H b=!o->(∀ps,o≠.cn ps)->H' b=!o):F6 H' fa F x:=do t:aj H H':=λb xs e=>k _ _ e λ_ z=>nomatch z;a:∀{b xs},H b=!(.lst xs)->H' b=!(.lst xs):=λe=>k _ _ e λ_ z=>nomatch z;{bs,h1,h2}:=h.eb;{ys,d,c}:=h.ev;{h.fz.kp k,{bs,a h1,h2.imp λv i g=>BP.af g t},{ys,a d,c.imp λv i g=>LX.af g t},h.nb,h.lb,h.ls,h.ll}
def F6.same(h:F6 H fa F x)(s:ag H H'):F6 H' fa F x:=h.kp λb o e _=>s _ _ e
theorem F6.dk(h:F6 H fa F x):lh H fa F:=let⟨_,_,_,g⟩:=h.fz.fs;g.dk
end
def hV:Option UK->V|none=>.aV|some z=>.str z
def p6(x:D6):Option UK->List Key->Bool|none,_=>true|some z,p=>decide (z = "ann")||om x.br x.ls z p
inductive Wk(zs:List Pc)(G:List Key->Prop)(op:List Key->Bool):List (List Key×UK)->List (List Key×UK)->Prop
 |nil:Wk zs G op [] []
 |cons {p z st l out}:op p=true->rP zs G p l->Wk zs G op (subs z 0 l++st) out->Wk zs G op ((p,z)::st) ((p,z)::out)
 |rB {p z st out}:op p=false->Wk zs G op st out->Wk zs G op ((p,z)::st) ((p,z)::out)
theorem Wk.eq{zs:List Pc}{G:List Key->Prop}{op:List Key->Bool}{st a:List (List Key×UK)}(h:Wk zs G op st a):∀{b:List (List Key×UK)},Wk zs G op st b->a=b:=do(by induction h with|nil|cons o i w e|rB o w e=>?_);(b,h');-h';2;(b,h');(by cases h' with|cons c f d|rB c d=>?_);this:=i.eq f;!this;[e d];c<-[o];-c;(b,h');(by cases h' with|cons c f d|rB c d=>?_);c<-[o];-c;[e d]
def Nums(d:DZ)(op:List Key->Bool)(a:List (List Key×UK)):Prop:=∃zs g,yP d.rs d.cu zs g/\Wk zs (GT g) op [(aZ,"")] a
def TN(op:List Key->Bool)(H:Hp)(v:V)(e:List Key×UK):Prop:=∃b a,v=.ref b/\H b=!(.tup [a,.str e.2,.bl (op e.1)])/\GK H (.tup e.1) a/\Pn e.1/\e.2.length<=1000
theorem TN.af(h:TN op H v e)(t:aj H H'):TN op H' v e:=do _;{b,d,a,h1,h2,c}:=h;{b,d,a,t _ _ h1,h2.af t,c}
noncomputable def Fo(d:DZ)(op:List Key->Bool)(a:List Key->Option UK)(p:List Key):UI:=if op p=true then .list ((aQ d.S d.n p).map (lK d a p)) else .none
def Ep(d:DZ)(op:List Key->Bool)(p:List Key):UI:=if op p=true then .list (Ms d p) else .none
def DC(d:DZ)(op:List Key->Bool)(p:List Key):UI:=if op p=true then uR d p else .none
noncomputable def rH(d:DZ)(op:List Key->Bool)(a:List Key->Option UK)(e:List Key×UK):UI:=.tuple [.str e.2,tD e.1,Fo d op a e.1,Ep d op e.1,DC d op e.1]
def EN(d:DZ)(op:List Key->Bool)(a:List Key->Option UK)(H:Hp)(v:V)(e:List Key×UK):Prop:=∃b f h g c,v=.ref b/\H b=!(.tup [.str e.2,f,h,g,c])/\GK H (.tup e.1) f/\DV H h (Fo d op a e.1)/\DV H g (Ep d op e.1)/\DV H c (DC d op e.1)
theorem EN.same(h:EN d op a H v e)(s:ag H H'):EN d op a H' v e:=do _;{b,g,l,k,f,h1,h2,i,m,c,j}:=h;{b,g,l,k,f,h1,s _ _ h2,i.af s.af,m.same s,c.same s,j.same s}
theorem EN.dv(h:EN d op a H v e):DV H v (rH d op a e):=do _;{b,k,m,l,j,rfl,h2,f,i,c,g}:=h;.tup (aS.of h2) (.cons (.str _) (.cons (bC f).dv (.cons i (.cons c (.cons g .nil)))))
inductive CU(vs:List V)(H:Hp)(Q:VK)(_:XK):Prop
 |mk(fa F x r h v p:_)(_:vs=[.ref fa,.ref r,hV h,v])(_:F6 H fa F x)(_:H r=!mu)(_:m_ H v p)(_:∀H',ag H H'->Q (.bl (p6 x h p)) H')
inductive EY(vs:List V)(H:Hp)(Q:VK)(_:XK):Prop
 |mk(fa F x r h:_)(_:vs=[.ref fa,.ref r,hV h])(_:F6 H fa F x)(_:H r=!mu)(_:eJ H)(_:MA H)(_:∀H' q ts nu,ag (cg H s2) H'->eJ H'->H q=none->H' q=!(.lst ts)->AL (TN (p6 x h) H') ts nu->Nums x.d (p6 x h) nu->nu.length<=63->(nu.map (·.1)).Nodup->Q (.ref q) H')
inductive C2(vs:List V)(H:Hp)(Q:VK)(_:XK):Prop
 |mk(fa F d vp p nq num:_)(_:vs=[.ref fa,vp,.ref nq])(_:FZ H fa F d)(_:GK H (.tup p) vp)(_:Pn p)(_:oC H nq num)(_:∀H' q,ag H H'->H q=none->DV H' (.ref q) (.list ((aQ d.S d.n p).map (lK d num p)))->Q (.ref q) H')
inductive BN(vs:List V)(H:Hp)(Q:VK)(_:XK):Prop
 |mk(fa F d nq num vp p z op:_)(_:vs=[.ref fa,.ref nq,vp,.bl (op p)])(_:FZ H fa F d)(_:GK H (.tup p) vp)(_:Pn p)(_:oC H nq num)(_:num p=!z)(_:∀H' v,ag H H'->EN d op num H' v (p,z)->Q v H')
inductive Cp(vs:List V)(H:Hp)(Q:VK)(_:XK):Prop
 |mk(fa F x r h:_)(_:vs=[.ref fa,.ref r,hV h])(_:F6 H fa F x)(_:H r=!mu)(_:eJ H)(_:MA H)(_:∀H' q es nu,ag (cg H s2) H'->eJ H'->H' q=!(.lst es)->Nums x.d (p6 x h) nu->nu.length<=63->(nu.map (·.1)).Nodup->(∀e∈nu,Pn e.1/\e.2.length<=1000)->AL (EN x.d (p6 x h) (eH nu) H') es nu->Q (.ref q) H')
section
variable {vs:List V}{H:Hp}{Q:VK}{E:XK}
end
theorem d8:∀{vs:List V} {ds:List UI},dV H vs ds->DV H v e->dV H (vs++[v]) (ds++[e])|_,_,.nil,g=>.cons g .nil|_,_,.cons h t,g=>.cons h (d8 t g)
inductive iQ(vs:List V)(H:Hp)(Q:VK)(_:XK):Prop
 |mk(sp ns r:_)(_:vs=[.ref sp,.ref r])(_:aD H sp (List.map V.int ns))(_:ns.length<=63)(_:H r=!mu)(_:∀H' fa F x,ag H H'->F6 H' fa F x->Q (.ref fa) H')
structure Jz(A:List Pc)(D U:List (List Key)):Prop where
 nd:(D++U).Nodup
 up:∀c∈D++U,c=aZ\/∃x∈A,x.pt=c/\x.ou∈D
def Jz.pn(h:Jz A D U)(a:∀x∈A,Nm x.pt)(b:c∈D++U):Pn c:=do z||{x,hx,rfl,_}:=h.up c b;.inl z;.inr (a x hx)
def Jz.len(h:Jz A D U):D.length+U.length<=A.length+1:=do this:=Bg (ws:=aZ::A.map (·.pt)) h.nd λc a=>(do z||{x,hx,z,_}:=h.up c a;[z];qi;[<-z];qm _ (qc.mpr {x,hx,O}));this<-[qg,zf,qh];this
theorem xk:∀{A:List Pc},(A.map (·.pt)).Nodup->∀{x y:Pc},x∈A->y∈A->x.pt=y.pt->x=y|a::A,h,x,y,hx,hy,e=>do h<-[zm,zv];(by rcases qt.mp hx with h1|h1 <;> rcases qt.mp hy with h2|h2);[h1,h2];(h.1 (qc.mpr ⟨y,h2,do[<-e,h1]⟩)).elim;(h.1 (qc.mpr ⟨x,h1,do[e,h2]⟩)).elim;xk h.2 h1 h2 e
def Jz.step{A l:List Pc}{D U:List (List Key)}{u:List Key}(m:(A.map (·.pt)).Nodup)(p:∀x∈A,Nm x.pt)(h:Jz A D (U++[u]))(g:∀x∈l,x∈A/\x.ou=u)(o:l.Nodup):Jz A (D++[u]) (U++(l.map (·.pt)).reverse):=do n:(D++[u]++U).Perm (D++(U++[u])):=(do[ym];List.Perm.append_left D List.perm_append_comm);mem:∀c,c∈D++[u]++U->c∈D++(U++[u]):=λc d=>n.mem_iff.mp d;q:u∉D:=λz=>(do this:=(List.nodup_append.mp h.nd).2.2 u z u (do 0);this rfl);{?_,λc d=>?_};[<-ym];yn.mpr {n.nodup_iff.mpr h.nd,?_,λa i b k e=>?_};(List.reverse_perm _).nodup_iff.mpr ?_;[List.Nodup,z9];List.Pairwise.imp_of_mem (λ{a b} i k j e=>j (xk m (g a i).1 (g b k).1 e)) o;!e;{x,f,rfl}:=qc.mp (vy.mp k);{h1,h2}:=g x f;z||{x',hx',e,ho}:=h.up _ (mem _ i);(p x h1).main z;ho<-[xk m hx' h1 e,h2];q ho;d<-[<-ym];d||d:=qz.mp d;z||{x,f,e,ho}:=h.up c (mem c d);.inl z;.inr ⟨x,f,e,yo _ ho⟩;{x,f,rfl}:=qc.mp (vy.mp d);{h1,h2}:=g x f;.inr {x,h1,O,do[h2];0}
def UN(H:Hp)(v:V)(e:List Key×UK):Prop:=∃b a,v=.ref b/\H b=!(.tup [a,.str e.2])/\GK H (.tup e.1) a
theorem UN.af(h:UN H v e)(t:aj H H'):UN H' v e:=do _;{b,c,a,h1,h2}:=h;{b,c,a,t _ _ h1,h2.af t}
def DW(H:Hp)(p:UJ):Prop:=∃a b:Int,H p=!(.lst [.int a,.int b])
def DW.same(h:DW H p)(s:ag H H'):DW H' p:=let⟨a,b,e⟩:=h;{a,b,s _ _ e}
def DW.af(h:DW H p)(s:ag (del H p) H'):aj H H':=let⟨_,_,e⟩:=h;aj.cut e s
def DW.ne(h:DW H p)(g:H q=none):q≠p:=let⟨_,_,e⟩:=h;λz=>do g<-[z,e];-g
def Fy:∀r:Nat,r<8->PyData.strOk (iZ "abcdefgh" none (!(1+(r:Int))))=true/\(iZ "abcdefgh" none (!(1+(r:Int)))).length<=10:=∅
def C6:∀r:Nat,r<29->∃c,oO ("abcdefghijklmnopqrstuvwxyz .,":UK).cps.toList (r:Int)=!c/\PyData.strOk {#[c]}=true:=do this:∀r:Nat,r<29->(match oO ("abcdefghijklmnopqrstuvwxyz .,":UK).cps.toList (r:Int) with|some c=>PyData.strOk ⟨#[c]⟩|none=>false)=true:=∅;(r,h);this:=this r h;(by cases e:oO ("abcdefghijklmnopqrstuvwxyz .,":UK).cps.toList (r:Int)with|none|some c=>?_);this<-[e];-this;this<-[e];{c,O,this}
def IT(h1:PyData.strOk z=true)(h2:d.canLay0=true/\sk d d=true/\d.depth<=1):ML (.tuple [.str z,d]):=do b:∀x∈[PyData.str z,d],x.canLay0=true/\sk x x=true/\x.depth<=1:=λx a=>(do(by ac_nf at a);rfl||rfl:=a;tL h1;h2);⟨fF λx a=>(b x a).1,HN λx a=>(b x a).2.1,?_⟩;this:=lQ λx a=>(b x a).2.2;¬PyData.depthAll _+1<=3;()
inductive kG(vs:List V)(H:Hp)(Q:VK)(_:XK):Prop
 |mk(d l us:_)(_:vs=[.ref d,.ref l])(_:DW H d)(_:H l=!(.lst us))(_:l≠d)(_:0<us.length)(_:us.length<1000)(_:∀H' q v bb,ag (del H d) H'->DW H' d->H' q=!(.tup [v,.str (Tz bb)])->v∈us->Q (.ref q) H')
inductive kA(vs:List V)(H:Hp)(Q:VK)(_:XK):Prop
 |mk(d l us:_)(_:vs=[.ref d,.ref l])(_:DW H d)(_:H l=!(.lst us))(_:l≠d)(_:0<us.length)(_:us.length<1000)(_:(∀v∈us,vS H v))(_:∀H' v dd,ag (del H d) H'->DW H' d->DT H' v dd->oo dd->ML dd->Q v H')
inductive gV(vs:List V)(H:Hp)(Q:VK)(_:XK):Prop
 |mk(sp ns k:_)(_:vs=[.ref sp,.int k])(_:aD H sp (List.map V.int ns))(_:0<=k)(_:∀c,Q (.int c) H)
inductive iT(vs:List V)(H:Hp)(Q:VK)(_:XK):Prop
 |mk(c b:_)(_:vs=[.int c,.bl b])(_:∀H' p,ag H H'->H p=none->DW H' p->Q (.ref p) H')
inductive kI(vs:List V)(H:Hp)(Q:VK)(_:XK):Prop
 |mk(p q:_)(_:vs=[.ref p,.int q])(_:DW H p)(_:0<q)(_:q<1000)(_:∀r H',ag (del H p) H'->DW H' p->0<=r->r<q->Q (.int r) H')
inductive ib(vs:List V)(H:Hp)(Q:VK)(_:XK):Prop
 |mk(sp ns:_)(_:vs=[.ref sp])(_:aD H sp (List.map V.int ns))(_:ns.length<=63)(_:eJ H)(_:MA H)(_:∀H',Q (.bl true) H')
def ri:∀(H:Hp) (a:UJ) (ns:List Int),ns.length<=63->(∀t∈RJ,H (Tt t)=!(.cn #[]))->(∀c∈MS,H c.1=!(.tup c.2))->aD H a (ns.map V.int)->ib [.ref a] H (λv _=>v=.bl true) λ_ _ _=>False:=λH a ns h1 h2 d b => {a,ns,O,b,h1,{⋯,.inl (h2 "greatest_place" ∅),.inl (h2 "all_inner_parts" ∅)},d _ qi,λ_=>rfl}
section
variable {vs:List V}{H:Hp}{Q:VK}{E:XK}
end
def KN(H:Hp)(kn:List V):Prop:=∀(j:Nat) v,kn[j]?=!v->∃w:UK,GK H (.tup [.inr w,.inl (j:Int)]) v/\Pn [.inr w,.inl (j:Int)]
theorem KN.af(h:KN H kn)(t:aj H H'):KN H' kn:=λj v e=>let⟨w,g,p⟩:=h j v e;{w,g.af t,p}
def KN.np(h:KN H kn)(b:v∈kn):vS H v:=do _;{j,a,e}:=z6.mp b;{w,g,p}:=h j v (do[qe a,e]);{_,g,p}
def nQ(h:Rest H Z X)(a:∀b,X b->∀xs,H b≠some (.tup xs)):aj H Z:=λb ys e=>h b _ e λz=>a b z ys e
abbrev pw:HO:=.lst [.str "ann",.str "bo"]
def v_(H:Hp)(kvs:List 68):Prop:=∀e∈kvs,∃p,Pn p/\e.1=.tup p/\GK H (.tup p) e.2.1
theorem v_.af(h:v_ H kvs)(t:aj H H'):v_ H' kvs:=λe d=>let⟨p,a,b,c⟩:=h e d;{p,a,b,c.af t}
def wJ(S:Nat->Sg)(n:Nat)(H:Hp)(kvs:List 68):Prop:=v_ H kvs/\∀k u,vG kvs k=!u->∃p a us,k=.tup p/\Pn p/\u=.ref a/\H a=!(.lst us)/\0<us.length/\us.length<=n/\∀v∈us,∃i,i<n/\(S i).pt=p/\NM (cm S) H v i
def wJ.same{S:Nat->Sg}(h:wJ S n H kvs)(s:ag H H'):wJ S n H' kvs:={h.1.af s.af,λk u e=>do _;{p,d,us,h1,h2,g,l,f,m,j}:=h.2 k u e;{p,d,us,h1,h2,g,s _ _ l,f,m,λv o=>let⟨i,a,b,c⟩:=j v o;{i,a,b,NM.af c s.af}}}
inductive iR(vs:List V)(H:Hp)(Q:VK)(_:XK):Prop
 |mk(d fa r kq F kn:_)(_:vs=[.ref d,.ref fa,.ref r,.ref kq])(_:DW H d)(_:H fa=!(.dK (eO F 9)))(_:H (F 3)=!(.lst []))(_:H r=!pw)(_:H kq=!(.lst kn))(_:KN H kn)(_:0<kn.length)(_:kn.length<=15)(_:r≠d)(_:kq≠d)(_:F 3≠d)(_:r≠F 3)(_:kq≠F 3)(_:∀H' S n xs nq kvs,Rest H H' (λb=>b=d\/b=F 3)->H' (F 3)=!(.lst xs)->AN (SN S H') xs (List.range n)->WS S n->n<=24->(∀i,i<n->oo (S i).sg)->H nq=none->H' nq=! 69->kvs.length<=24->wJ S n H' kvs->(∀k lq,vG kvs k=!(.ref lq)->H lq=none)->Q (.ref nq) H')
inductive fy(vs:List V)(H:Hp)(Q:VK)(_:XK):Prop
 |mk(d fa r nq F S n xs kvs:_)(_:vs=[.ref d,.ref fa,.ref r,.ref nq])(_:DW H d)(_:H fa=!(.dK (eO F 9)))(_:H (F 3)=!(.lst xs))(_:AN (SN S H) xs (List.range n))(_:WS S n)(_:n<=24)(_:H (F 4)=!(.lst []))(_:H (F 5)=!(.lst []))(_:H r=!pw)(_:H nq=! 69)(_:kvs.length<=24)(_:wJ S n H kvs)(_:r≠d)(_:(∀i,i<9->F i≠d/\r≠F i))(_:(∀i,i<9->∀j,j<9->F i=F j->i=j))(_:(∀k lq,vG kvs k=!(.ref lq)->lq≠d/\lq≠F 4/\lq≠F 5))(_:∀H' M m N q ms ns,Rest H H' (λb=>b=d\/b=F 4\/b=F 5\/b=nq)->H' (F 4)=!(.lst ms)->AN (MN S M H') ms (List.range m)->WK S n M m->m<=9->H' (F 5)=!(.lst ns)->AN (NN S N H') ns (List.range q)->WK S n N q->Q .aV H')
inductive iy(vs:List V)(H:Hp)(Q:VK)(_:XK):Prop
 |mk(d fa r kq F kn:_)(_:vs=[.ref d,.ref fa,.ref r,.ref kq])(_:DW H d)(_:H fa=!(.dK (eO F 9)))(_:H (F 6)=!(.lst []))(_:H (F 7)=!(.lst []))(_:H r=!pw)(_:H kq=!(.lst kn))(_:KN H kn)(_:0<kn.length)(_:kn.length<=15)(_:r≠d)(_:kq≠d)(_:(∀i,i<9->F i≠d/\r≠F i/\kq≠F i))(_:F 6≠F 7)(_:∀H' L a C b ls cs,Rest H H' (λb=>b=d\/b=F 6\/b=F 7)->H' (F 6)=!(.lst ls)->AN (iV L H') ls (List.range a)->WL L a->H' (F 7)=!(.lst cs)->AN (gP C H') cs (List.range b)->G2 C b->Q .aV H')
section
variable {vs:List V}{H:Hp}{Q:VK}{E:XK}
end
structure G7(d:UJ)(F:Nat->UJ)(kq:UJ):Prop where
 kd:kq≠d
 kf:∀i,i<3->kq≠F i
 fd:∀i,i<3->F i≠d
 ff:∀i,i<3->∀j,j<3->i≠j->F i≠F j
structure PB(H0 H:Hp)(d:UJ)(F:Nat->UJ)(kq:UJ)(kn bs es cs:List V)(rs:List Pc)(cu:List (List Key)):Prop where
 ro:Rest H0 H (λb=>b=d\/b=F 0\/b=F 1\/b=F 2)
 dw:DW H d
 ek:H kq=!(.lst kn)
 vU:KN H kn
 eb:H (F 0)=!(.lst bs)
 ev:H (F 1)=!(.lst es)
 ec:H (F 2)=!(.lst cs)
 fi:xF H bs es cs rs cu 60
section
variable {H0 H H':Hp}{d kq:UJ}{F:Nat->UJ}{kn bs es cs:List V}{rs:List Pc}{cu:List (List Key)}{v:V}
def PB.draw(h:PB H0 H d F kq kn bs es cs rs cu)(a:G7 d F kq)(s:ag (del H d) H')(w:DW H' d):PB H0 H' d F kq kn bs es cs rs cu := have t:=h.dw.af s;{h.ro.del (.inl rfl) s,w,DP.to s h.ek a.kd,h.vU.af t,DP.to s h.eb (a.fd 0 ⋯),DP.to s h.ev (a.fd 1 ⋯),DP.to s h.ec (a.fd 2 ⋯),h.fi.af t}
theorem PB.same(h:PB H0 H d F kq kn bs es cs rs cu)(s:ag H H'):PB H0 H' d F kq kn bs es cs rs cu := {h.ro.same s,h.dw.same s,s _ _ h.ek,h.vU.af s.af,s _ _ h.eb,s _ _ h.ev,s _ _ h.ec,h.fi.af s.af}
def DW.wr(h:DW H d)(n:d≠p):DW (upd H p o) d:=let⟨a,b,e⟩:=h;{a,b,do[az n];e}
def PB.uN(h:PB H0 H d F kq kn bs es cs rs cu)(a:G7 d F kq)(e:BT H v)(b:bs.length<60):PB H0 (upd H (F 0) (.lst (bs++[v]))) d F kq kn (bs++[v]) es cs rs cu:=do t:aj H (upd H (F 0) (.lst (bs++[v]))):=aj.wl h.eb;g:=h.fi.af t;{h.ro.wr (.inr (.inl rfl)),h.dw.wr (a.fd 0 ⋯).symm,do[az (a.kf 0 ⋯)];h.ek,h.vU.af t,aF,do[az (a.ff 1 ⋯ 0 ⋯ ⋯)];h.ev,do[az (a.ff 2 ⋯ 0 ⋯ ⋯)];h.ec,{λu c=>?_,g.pc,g.ct,g.w,g.up,do[qg];b,g.vl,g.cl}};z||z:=qz.mp c;g.bt u z;[qo.mp z];e.af t
theorem PB.place(h:PB H0 H d F kq kn bs es cs rs cu)(a:G7 d F kq)(e:gM H v r)(c:yI r)(lt:∀x∈rs,bO x.ka x.kb r.ka r.kb)(b:es.length<60):PB H0 (upd H (F 1) (.lst (es++[v]))) d F kq kn bs (es++[v]) cs (rs++[r]) cu:=do t:aj H (upd H (F 1) (.lst (es++[v]))):=aj.wl h.ev;g:=(h.fi.af t).place (e.af t) c lt b;{h.ro.wr (.inr (.inr (.inl rfl))),h.dw.wr (a.fd 1 ⋯).symm,do[az (a.kf 1 ⋯)];h.ek,h.vU.af t,do[az (a.ff 0 ⋯ 1 ⋯ ⋯)];h.eb,aF,do[az (a.ff 2 ⋯ 1 ⋯ ⋯)];h.ec,g}
def PB.cut{k:List Key}(h:PB H0 H d F kq kn bs es cs rs cu)(a:G7 d F kq)(c:CT H v k)(b:cs.length<60):PB H0 (upd H (F 2) (.lst (cs++[v]))) d F kq kn bs es (cs++[v]) rs (cu++[k]):=do t:aj H (upd H (F 2) (.lst (cs++[v]))):=aj.wl h.ec;g:=h.fi.af t;{h.ro.wr (.inr (.inr (.inr rfl))),h.dw.wr (a.fd 2 ⋯).symm,do[az (a.kf 2 ⋯)];h.ek,h.vU.af t,do[az (a.ff 0 ⋯ 2 ⋯ ⋯)];h.eb,do[az (a.ff 1 ⋯ 2 ⋯ ⋯)];h.ev,aF,{g.bt,g.pc,g.ct.snoc (c.af t),g.w,g.up,g.bl,g.vl,do[qg];b}}
def PB.PP(h:PB H0 H d F kq kn bs es cs rs cu)(a:G7 d F kq)(f:H0 kq=none)(i:GK H (.tup [.inr w,.inl (kn.length:Int)]) v)(hp:Pn [.inr w,.inl (kn.length:Int)]):PB H0 (upd H kq (.lst (kn++[v]))) d F kq (kn++[v]) bs es cs rs cu:=do t:aj H (upd H kq (.lst (kn++[v]))):=aj.wl h.ek;{λb o e n=>do[az (λz=>do e<-[z,f];-e)];h.ro b o e n,h.dw.wr a.kd.symm,aF,λj u e=>?_,do[az (a.kf 0 ⋯).symm];h.eb,do[az (a.kf 1 ⋯).symm];h.ev,do[az (a.kf 2 ⋯).symm];h.ec,h.fi.af t};g<|j<kn.length;e<-[zt g];h.vU.af t j u e;c:j=kn.length:=(do this:=(qw.mp e).1;this<-[qg,qr];());!c;e<-[yh (qb _),j3];-e;{w,i.af t,hp}
def PB.out(h:PB H0 H d F kq kn bs es cs rs cu)(e:H0 b=!o)(n:b≠d)(m:∀i,i<3->b≠F i):H b=!o:=h.ro b o e λz=>do z||z||z||z:=z;n z;m 0 ⋯ z;m 1 ⋯ z;m 2 ⋯ z
end
def A3(h:V.str w∈[V.str "ann",V.str "bo"]):Nm [.inr w,.inl x]:=do(by ac_nf at h;rcases h with h|h <;> injection h with h);⟨w,x,O,.inl h⟩;⟨w,x,O,.inr (.inl h)⟩
def QE(e:H p=! 69):Nw "dict" (.ref p) H:=.inr (.inr (.inl {O,.inr (.inr {_,e})}))
structure SB(H0 Z:Hp)(d f nq:UJ)(S:Nat->Sg)(j:Nat)(xs:List V)(kvs:List 68):Prop where
 ro:Rest H0 Z (λb=>b=d\/b=f)
 dw:DW Z d
 ex:Z f=!(.lst xs)
 an:AN (SN S Z) xs (List.range j)
 ws:WS S j
 nm:∀i,i<j->∃w:UK,(S i).nk=[.inr w,.inl (40+(i:Int)),.inl 0]
 ky:∀i,i<j->(S i).ka=50+(i:Int) / 2/\(S i).kb=(i:Int) % 2/\(S i).kc=0
 ok:∀i,i<j->oo (S i).sg
 en:Z nq=! 69
 nd:wJ S j Z kvs
 fr:∀k lq,vG kvs k=!(.ref lq)->H0 lq=none
section
variable {H0 Z Z':Hp}{d f nq:UJ}{S:Nat->Sg}{j:Nat}{xs:List V}{kvs:List 68}
def wJ.mv(h:wJ S j Z kvs)(t:aj Z Z')(k:∀c d us,vG kvs c=!(.ref d)->Z d=!(.lst us)->Z' d=!(.lst us)):wJ S j Z' kvs:={h.1.af t,λc u e=>do _;{p,d,us,h1,h2,rfl,m,f,n,l}:=h.2 c u e;{p,d,us,h1,h2,O,k c d us e m,f,n,λv o=>let⟨i,a,b,g⟩:=l v o;{i,a,b,NM.af g t}}}
def SB.draw(h:SB H0 Z d f nq S j xs kvs)(m:H0 d≠none)(l:f≠d)(k:nq≠d)(s:ag (del Z d) Z')(w:DW Z' d):SB H0 Z' d f nq S j xs kvs := have t:=h.dw.af s;{h.ro.del (.inl rfl) s,w,DP.to s h.ex l,h.an.imp λv i g=>g.af t,h.ws,h.nm,h.ky,h.ok,DP.to s h.en k,h.nd.mv t λc a us e b=>DP.to s b λz=>m (z▸h.fr c a e),h.fr}
theorem SB.same(h:SB H0 Z d f nq S j xs kvs)(s:ag Z Z'):SB H0 Z' d f nq S j xs kvs := {h.ro.same s,h.dw.same s,s _ _ h.ex,h.an.imp λv i g=>g.af s.af,h.ws,h.nm,h.ky,h.ok,s _ _ h.en,h.nd.same s,h.fr}
def SB.sign{k vn o n:V}(h:SB H0 Z d f nq S j xs kvs)(N:H0 f≠none)(F:f≠d)(Q:nq≠f)(X:j<24)(e:Z p=!(.tup [k,vn,o,.ref kq,n,.bl r.lv]))(A:GK Z (.tup r.pt) k)(I:GK Z (.tup r.nk) vn)(b:GK Z (kd (cm S) r.bh) o)(R:Z kq=!(.tup [.int r.ka,.int r.kb,.int r.kc]))(L:DT Z n r.sg)(hn:r.nk=[.inr w,.inl (40+(j:Int)),.inl 0])(U:PyData.strOk w=true)(hp:Pn r.pt)(s:r.ka=50+(j:Int) / 2/\r.kb=(j:Int) % 2/\r.kc=0)(q:∀i,r.bh=!i->i<j/\(S i).pt=r.pt)(E:oo r.sg)(J:ML r.sg) : SB H0 (upd Z f (.lst (xs++[.ref p]))) d f nq (lV S j r) (j+1) (xs++[.ref p]) kvs:=do t:aj Z (upd Z f (.lst (xs++[.ref p]))):=aj.wl h.ex;a:=G0.ext S j r;G:Lay r.nk:=(do[hn];¬(PyData.strOk w&&(true&&(true&&true)))=true;[U];2);W:WS (lV S j r) (j+1):=h.ws.ext () (λi hi=>do _;{a1,a2,x}:=h.ky i hi;{H,M,b3}:=s;@NK;[a1,a2,H,M];()) (λi hi z=>do _;{w',y}:=h.nm i hi;z<-[y,hn];(by injection z with _ z;injection z with z _;injection z with z);()) q G hp.lay J;lt:∀i,i<j->lV S j r i=S i:=λi hi=>fv hi;cs:∀{P:Nat->Prop},(∀i,i<j->P i)->P j->∀i,i<j+1->P i:=λh1 h2 i hi=>(do z<|i=j;[z];h2;h1 i ());{h.ro.wr (.inr rfl),h.dw.wr F.symm,aF,?_,W,cs (λi hi=>do[lt i hi];h.nm i hi) {w,do[hP];hn},cs (λi hi=>do[lt i hi];h.ky i hi) (do[hP];s),cs (λi hi=>do[lt i hi];h.ok i hi) (do[hP];E),do[az Q];h.en,?_,h.fr};[yx];AN.snoc (uU h.an λv i hi g=>(g.af t).DJ a (qj.mp hi) λm z=>?_) ?_;hi:=qj.mp hi;this:=(h.ws.back i hi m z).1;();ex:lV S j r j=r:=hP;{p,k,vn,o,kq,n,O,do[ex];t _ _ e,do[ex];A.af t,do(by unfold NM cm);[ex];I.af t,?_,do[ex];t _ _ R,do[ex];L.af t};@pT;[ex];(by cases z:r.bh with|none|some m=>?_);b<-[z];b;b<-[z];NM.af (NM.DJ a (q m z).1 b) t;{h.nd.1.af t,λc u e=>?_};{C,l,us,h1,h2,rfl,T,B,Y,K}:=h.nd.2 c u e;{C,l,us,h1,h2,O,(az λ(z:l=f)=>N (z▸h.fr c l e)).trans T,B,(),λv D=>?_};{i,a1,a2,x}:=K v D;{i,(),do[lt i a1];a2,NM.af (NM.DJ a a1 x) t}
def SB.out(h:SB H0 Z d f nq S j xs kvs)(e:H0 b=!o)(a:b≠d)(c:b≠f):Z b=!o:=h.ro b o e λz=>z.elim a c
def SB.free(h:SB H0 Z d f nq S j xs kvs)(e:Z b=none):H0 b=none:=do(by cases z:H0 b with|none|some o=>?_);2;a1:b≠d:=h.dw.ne e;a2:b≠f:=λy=>(do e<-[y,h.ex];-e);e<-[h.out z a1 a2];-e
def SB.get(h:SB H0 Z d f nq S j xs kvs)(p:List Key):∃us:List V,us.length<=j/\(∀v∈us,∃i,i<j/\(S i).pt=p/\NM (cm S) Z v i)/\∀(Z':Hp) (e:UJ),(∀b o,H0 b=none->Z b=!o->Z' b=!o)->Z' e=!(.lst [])->∃a,(vG kvs (.tup p)).getD (.ref e)=.ref a/\Z' a=!(.lst us):=do(by cases z:vG kvs (.tup p)with|none|some u=>?_);{[],q0 _,(λv z=>nomatch z),λZ' e s c=>{e,O,c}};{n,a,us,h1,h2,rfl,k,m,l,g}:=h.nd.2 _ _ z;(by injection h1 with h1);!h1;{us,l,g,λZ' e s c=>{a,O,s _ _ (h.fr _ _ z) k}}
def SB.put(h:SB H0 Z d f nq S j xs kvs)(hn:H0 nq=none)(E:nq≠d)(M:nq≠f)(pn:Pn p)(H:GK Z (.tup p) m)(e:Z l=!(.lst us))(fq:H0 l=none)(F:0<us.length)(D:us.length<=j)(s:∀v∈us,∃i,i<j/\(S i).pt=p/\NM (cm S) Z v i) : SB H0 (upd Z nq (.dG (pG kvs (.tup p) m (.ref l)))) d f nq S j xs (pG kvs (.tup p) m (.ref l)):=do t:aj Z (upd Z nq (.dG (pG kvs (.tup p) m (.ref l)))):=aj.wd h.en;ne:∀{b:UJ} {ys:List V},Z b=!(.lst ys)->upd Z nq (.dG (pG kvs (.tup p) m (.ref l))) b=!(.lst ys):=λ{b} {ys} e=>(do[az λz=>do e<-[z,h.en];-e];e);{λb o e n=>do[az (λz=>do e<-[z,hn];-e)];h.ro b o e n,h.dw.wr E.symm,ne h.ex,h.an.imp λv i g=>g.af t,h.ws,h.nm,h.ky,h.ok,aF,{λe L=>?_,λk u z=>?_},λk u z=>?_};rfl||{e',he',h1,h2}:=Md L;⟨p,pn,O,H.af t⟩;{q,I,G,J}:=h.nd.1 e' he';{q,I,h1.symm.trans G,do[<-h2];J.af t};z<-[eE];y<|k=.tup p;z<-[qE y];(by injection z with z);{p,l,us,y,pn,z.symm,ne e,F,D,λv r=>let⟨i,a,b,c⟩:=s v r;{i,a,b,NM.af c t}};z<-[qB y];{q,w,x,h1,h2,C,K,A,B,s}:=h.nd.2 k u z;{q,w,x,h1,h2,C,ne K,A,B,λv r=>let⟨i,a,b,c⟩:=s v r;{i,a,b,NM.af c t}};z<-[eE];y<|k=.tup p;z<-[qE y];(by injection z with z;injection z with z);[<-z];fq;z<-[qB y];h.fr k u z
end
def NR:KD->UI|.tup p=>tD p|_=>.none
theorem v_.nT:∀{kvs:List 68},v_ H kvs->dV H (kvs.map (·.2.1)) (kvs.map λe=>NR e.1)|[],_=>.nil|e::r,h=>do _;{p,pn,a,g}:=h e qi;.cons ?_ (v_.nT λe b=>h e (qm _ b));¬DV H e.2.1 (NR e.1);[a];(bC g).dv
def v_.keys(h:v_ H kvs):KeysAre (kvs.map λe=>NR e.1) 3:=do all:∀d∈kvs.map (λe=>NR e.1),∃s n,d=.tuple [.str s,.int n]/\d.canLay0=true:=λd c=>(do _;{e,k,rfl}:=qc.mp c;{p,pn,i,g}:=h e k;{w,x,rfl}:=pn.two;[i];{w,x,O,pn.lay});{fF λd c=>?_,λd c=>?_,λa f b j=>?_,λd c=>?_};{s,n,rfl,l}:=all d c;l;{s,n,rfl,l}:=all d c;trivial;{s,n,rfl,_}:=all a f;{t,m,rfl,_}:=all b j;2;{s,n,rfl,_}:=all d c;jz rfl
def OX{α:Type}{ds:List UI}{ix:List Nat}{ys:List α}{b:α}(a:cU ds ix)(d:ds.length=ys.length):∀v∈ix.map (λi=>ys.getD i b),v∈ys:=λv c=>do _;{i,hi,rfl}:=qc.mp c;this:=qj.mp (a.1.mem_iff.mp hi);[ze,qe ()];jg _
def SW{ds:List UI}{ix:List Nat}(a:cU ds ix):ix.length=ds.length:=do[a.1.length_eq,zg]
structure TB(H0 Z:Hp)(d:UJ)(F:Nat->UJ)(S:Nat->Sg)(n k:Nat)(M:Nat->Mk)(m:Nat)(N:Nat->Mk)(q:Nat)(ms ns:List V):Prop where
 ro:Rest H0 Z (λb=>b=d\/b=F 4\/b=F 5)
 dw:DW Z d
 e4:Z (F 4)=!(.lst ms)
 am:AN (MN S M Z) ms (List.range m)
 wm:WK S n M m
 lm:m<=k
 km:∀i,i<m->bO (M i).ka (M i).kb (80+(k:Int) / 2) ((k:Int) % 2)
 e5:Z (F 5)=!(.lst ns)
 an:AN (NN S N Z) ns (List.range q)
 wn:WK S n N q
 ln:q<=k
 kn:∀i,i<q->bO (N i).ka (N i).kb (80+(k:Int) / 2) ((k:Int) % 2)
section
variable {H0 Z Z':Hp}{d:UJ}{F:Nat->UJ}{S:Nat->Sg}{n k:Nat}{M N:Nat->Mk}{m q:Nat}{ms ns:List V}
def TB.to(h:TB H0 Z d F S n k M m N q ms ns)(r:Rest H0 Z' (λb=>b=d\/b=F 4\/b=F 5))(t:aj Z Z')(w:DW Z' d)(a:Z' (F 4)=!(.lst ms))(b:Z' (F 5)=!(.lst ns)):TB H0 Z' d F S n k M m N q ms ns := {r,w,a,h.am.imp λv i g=>g.af t,h.wm,h.lm,h.km,b,h.an.imp λv i g=>g.af t,h.wn,h.ln,h.kn}
def TB.draw(h:TB H0 Z d F S n k M m N q ms ns)(b:F 4≠d)(a:F 5≠d)(s:ag (del Z d) Z')(w:DW Z' d):TB H0 Z' d F S n k M m N q ms ns := h.to (h.ro.del (.inl rfl) s) (h.dw.af s) w (DP.to s h.e4 b) (DP.to s h.e5 a)
theorem TB.same(h:TB H0 Z d F S n k M m N q ms ns)(s:ag Z Z'):TB H0 Z' d F S n k M m N q ms ns := h.to (h.ro.same s) s.af (h.dw.same s) (s _ _ h.e4) (s _ _ h.e5)
def jR{k:Nat}(h:bO a b (80+(k:Int) / 2) ((k:Int) % 2)):bO a b (80+((k+1:Nat):Int) / 2) (((k+1:Nat):Int) % 2):=by unfold bO at h ⊢;omega
def Ao{k:Nat}:bO (80+(k:Int) / 2) ((k:Int) % 2) (80+((k+1:Nat):Int) / 2) (((k+1:Nat):Int) % 2):=do@bO;()
def TB.next(h:TB H0 Z d F S n k M m N q ms ns):TB H0 Z d F S n (k+1) M m N q ms ns := {h.ro,h.dw,h.e4,h.am,h.wm,j8 h.lm,λi hi=>jR (h.km i hi),h.e5,h.an,h.wn,j8 h.ln,λi hi=>jR (h.kn i hi)}
def TB.out(h:TB H0 Z d F S n k M m N q ms ns)(e:H0 b=!o)(a:b≠d)(f:b≠F 4)(c:b≠F 5):Z b=!o:=h.ro b o e λz=>do z||z||z:=z;a z;f z;c z
def TB.mark(h:TB H0 Z d F S n k M m N q ms ns)(s:F 4≠d)(a:F 4≠F 5)(B:k<60)(A:MN S (λ_=>r) Z v m)(f:r.ka=80+(k:Int) / 2)(c:r.kb=(k:Int) % 2)(sd:dC S n r.pt r.b/\dC S n r.pt r.e)(l:Lay r.pt/\Lay r.nm/\PyData.strOk r.kd=true/\∀z,r.vl=!z->PyData.strOk z=true) : TB H0 (upd Z (F 4) (.lst (ms++[v]))) d F S n (k+1) (iL M m r) (m+1) N q (ms++[v]) ns:=do t:aj Z (upd Z (F 4) (.lst (ms++[v]))):=aj.wl h.e4;C:=h.lm;{h.ro.wr (.inr (.inl rfl)),h.dw.wr s.symm,aF,?_,h.wm.ext () (λi hi=>do[f,c];h.km i hi) sd l,(),λi hi=>?_,do[az a.symm];h.e5,h.an.imp λv i g=>g.af t,h.wn,j8 h.ln,λi hi=>jR (h.kn i hi)};[yx];AN.snoc (uU h.am λv i hi g=>(g.af t).ext (qj.mp hi)) ?_;{b,p,u,y,vn,kq,h0,h1,h2,o,x,j,w}:=A;ex:iL M m r m=r:=nV;{b,p,u,y,vn,kq,h0,do[ex];t _ _ h1,do[ex];h2.af t,do[ex];o.af t,do[ex];x.af t,do[ex];j.af t,do[ex];t _ _ w};z<|i=m;[z,nV,f,c];Ao;[j_ (show i<m from ())];jR (h.km i ())
def TB.note(h:TB H0 Z d F S n k M m N q ms ns)(o:F 5≠d)(a:F 4≠F 5)(B:k<60)(A:NN S (λ_=>r) Z v q)(f:r.ka=80+(k:Int) / 2)(c:r.kb=(k:Int) % 2)(sd:dC S n r.pt r.b/\dC S n r.pt r.e)(l:Lay r.pt/\Lay r.nm/\PyData.strOk r.kd=true/\∀z,r.vl=!z->PyData.strOk z=true) : TB H0 (upd Z (F 5) (.lst (ns++[v]))) d F S n (k+1) M m (iL N q r) (q+1) ms (ns++[v]):=do t:aj Z (upd Z (F 5) (.lst (ns++[v]))):=aj.wl h.e5;C:=h.ln;{h.ro.wr (.inr (.inr rfl)),h.dw.wr o.symm,do[az a];h.e4,h.am.imp λv i g=>g.af t,h.wm,j8 h.lm,λi hi=>jR (h.km i hi),aF,?_,h.wn.ext () (λi hi=>do[f,c];h.kn i hi) sd l,(),λi hi=>?_};[yx];AN.snoc (uU h.an λv i hi g=>(g.af t).ext (qj.mp hi)) ?_;{b,p,u,y,vn,kq,h0,h1,h2,s,x,j,w}:=A;ex:iL N q r q=r:=nV;{b,p,u,y,vn,kq,h0,do[ex];t _ _ h1,do[ex];h2.af t,do[ex];s.af t,do[ex];x.af t,do[ex];j.af t,do[ex];t _ _ w};z<|i=q;[z,nV,f,c];Ao;[j_ (show i<q from ())];jR (h.kn i ())
end
def mT{α:Type}(f:Nat->α)(n:Nat)(r:α):Nat->α:=λi=>if i=n then r else f i
def Nr{α:Type}{f:Nat->α}{n:Nat}{r:α}{i:Nat}(h:i<n):mT f n r i=f i:=qB ()
def Iz{α:Type}{f:Nat->α}{n:Nat}{r:α}:mT f n r n=r:=qE rfl
structure UB(H0 Z:Hp)(d:UJ)(F:Nat->UJ)(X A B A2 B2:Int)(L:Nat->Ln)(l:Nat)(C:Nat->Ce)(c:Nat)(ls cs:List V):Prop where
 ro:Rest H0 Z (λb=>b=d\/b=F 6\/b=F 7)
 dw:DW Z d
 e6:Z (F 6)=!(.lst ls)
 al:AN (iV L Z) ls (List.range l)
 wl:WL L l
 nb:∀i,i<l->(L i).bh=none
 nk:∀i,i<l->∃z,(L i).nk=[.inr "bo",.inl z]/\z<X
 lk:∀i,i<l->bO (L i).ka (L i).kb A B
 e7:Z (F 7)=!(.lst cs)
 ac:AN (gP C Z) cs (List.range c)
 wc:G2 C c
 ck:∀i,i<c->bO (C i).ka (C i).kb A2 B2
section
variable {H0 Z Z':Hp}{d:UJ}{F:Nat->UJ}{X A B A2 B2 X' A' B':Int}{L:Nat->Ln}{l:Nat}{C:Nat->Ce}{c:Nat}{ls cs:List V}
def UB.to(h:UB H0 Z d F X A B A2 B2 L l C c ls cs)(r:Rest H0 Z' (λb=>b=d\/b=F 6\/b=F 7))(t:aj Z Z')(w:DW Z' d)(a:Z' (F 6)=!(.lst ls))(b:Z' (F 7)=!(.lst cs)):UB H0 Z' d F X A B A2 B2 L l C c ls cs := {r,w,a,h.al.imp λv i g=>g.af t,h.wl,h.nb,h.nk,h.lk,b,h.ac.imp λv i g=>g.af t,h.wc,h.ck}
def UB.draw(h:UB H0 Z d F X A B A2 B2 L l C c ls cs)(b:F 6≠d)(a:F 7≠d)(s:ag (del Z d) Z')(w:DW Z' d):UB H0 Z' d F X A B A2 B2 L l C c ls cs := h.to (h.ro.del (.inl rfl) s) (h.dw.af s) w (DP.to s h.e6 b) (DP.to s h.e7 a)
theorem UB.same(h:UB H0 Z d F X A B A2 B2 L l C c ls cs)(s:ag Z Z'):UB H0 Z' d F X A B A2 B2 L l C c ls cs := h.to (h.ro.same s) s.af (h.dw.same s) (s _ _ h.e6) (s _ _ h.e7)
def UB.own(h:UB H0 Z d F X A B A2 B2 L l C c ls cs)(e:Z q=!(.lst us))(f:H0 q=none)(a:q≠d)(i:q≠F 6)(g:q≠F 7):UB H0 (upd Z q o) d F X A B A2 B2 L l C c ls cs := h.to (λb o e n=>do[az (λz=>do e<-[z,f];-e)];h.ro b o e n) (aj.wl e) (h.dw.wr a.symm) (do[az i.symm];h.e6) (do[az g.symm];h.e7)
def UB.up(h:UB H0 Z d F X A B A2 B2 L l C c ls cs)(k:X<=X')(j:∀a b,bO a b A B->bO a b A' B')(g:∀a b,bO a b A2 B2->bO a b e f):UB H0 Z d F X' A' B' e f L l C c ls cs := {h.ro,h.dw,h.e6,h.al,h.wl,h.nb,λi hi=>let⟨z,a,b⟩:=h.nk i hi;{z,a,()},λi hi=>j _ _ (h.lk i hi),h.e7,h.ac,h.wc,λi hi=>g _ _ (h.ck i hi)}
def UB.out(h:UB H0 Z d F X A B A2 B2 L l C c ls cs)(e:H0 b=!o)(a:b≠d)(g:b≠F 6)(f:b≠F 7):Z b=!o:=h.ro b o e λz=>do z||z||z:=z;a z;g z;f z
def UB.free(h:UB H0 Z d F X A B A2 B2 L l C c ls cs)(e:Z b=none):H0 b=none/\b≠d/\b≠F 6/\b≠F 7:=do a1:b≠d:=h.dw.ne e;a2:b≠F 6:=λy=>(do e<-[y,h.e6];-e);a:b≠F 7:=λy=>(do e<-[y,h.e7];-e);{?_,a1,a2,a};(by cases z:H0 b with|none|some o=>?_);2;e<-[h.out z a1 a2 a];-e
def UB.line(h:UB H0 Z d F X A B A2 B2 L l C c ls cs)(H:F 6≠d)(n:F 6≠F 7)(J:l<1000)(E:iV (λ_=>r) Z v l)(nk:r.nk=[.inr "bo",.inl X])(bh:r.bh=none)(x:r.ka=A)(w:r.kb=B)(G:Lay r.pt)(o:PyData.strOk r.wy=true)(I:X<X')(D:bO A B A' B') : UB H0 (upd Z (F 6) (.lst (ls++[v]))) d F X' A' B' A2 B2 (mT L l r) (l+1) C c (ls++[v]) cs:=do t:aj Z (upd Z (F 6) (.lst (ls++[v]))):=aj.wl h.e6;lt:∀i,i<l->mT L l r i=L i:=λi hi=>Nr hi;at_:mT L l r l=r:=Iz;f:∀{P:Nat->Prop},(∀i,i<l->P i)->P l->∀i,i<l+1->P i:=λh1 h2 i hi=>(do z<|i=l;[z];h2;h1 i ());u:∀i,i<l->(L i).nk≠r.nk:=λi hi z=>(do _;{y,e,g}:=h.nk i hi;z<-[e,nk];(by injection z with _ z;injection z with z _;injection z with z);());{h.ro.wr (.inr (.inl rfl)),h.dw.wr H.symm,aF,?_,{(),λi j a b=>?_,λi hi j K e=>?_,λi hi j e=>?_,?_,f (λi hi=>do[lt i hi];h.wl.wy i hi) (do[at_];o)},?_,?_,?_,do[az n.symm];h.e7,h.ac.imp λv i g=>g.af t,h.wc,h.ck};[yx];AN.snoc (uU h.al λv i hi g=>?_) ?_;hi:=qj.mp hi;{b,q,vn,s,kq,e,h1,h2,m,k,p}:=iV.af g t;{b,q,vn,s,kq,e,do[lt i hi];h1,do[lt i hi];h2,do(by unfold NM cR at m ⊢);[lt i hi];m,?_,do[lt i hi];p};(by unfold oI at k ⊢);k<-[h.nb i hi];[lt i hi,h.nb i hi];k;{b,q,vn,s,kq,e,h1,h2,m,k,p}:=iV.af E t;{b,q,vn,s,kq,e,do[at_];h1,do[at_];h2,do(by unfold NM cR at m ⊢);[at_];m,?_,do[at_];p};(by unfold oI at k ⊢);k<-[bh];[at_,bh];k;z<|j=l;[z,at_,lt i (),x,w];h.lk i ();[lt i (),lt j ()];h.wl.up i j a ();z<|i=l;y<|j=l;[z,y];e<-[z,at_,lt j ()];absurd e.symm (u j ());y<|j=l;e<-[y,at_,lt i ()];absurd e (u i ());e<-[lt i (),lt j ()];h.wl.inj i () j () e;z<|i=l;e<-[z,at_,bh];-e;e<-[lt i (),h.nb i ()];-e;f (λi hi=>do[lt i hi];h.wl.lay i hi) ?_;[at_,nk];{by show(PyData.strOk "bo"&&(true&&true))=true;decide +kernel,G};f (λi hi=>do[lt i hi];h.nb i hi) (do[at_];bh);f (λi hi=>do[lt i hi];(let⟨z,a,b⟩:=h.nk i hi;{z,a,()})) (do[at_];{X,nk,I});f (λi hi=>do[lt i hi];Lx (h.lk i hi) D) (do[at_,x,w];D)
def UB.cell(h:UB H0 Z d F X A B A2 B2 L l C c ls cs)(o:F 7≠d)(f:F 6≠F 7)(s:c<100)(q:gP (λ_=>r) Z v c)(m:r.ka=A2)(k:r.kb=B2)(p:Lay r.pt/\Lay r.rw/\Lay r.cl)(wd:NG r.wd)(n:bO A2 B2 A' B') : UB H0 (upd Z (F 7) (.lst (cs++[v]))) d F X A B A' B' L l (mT C c r) (c+1) ls (cs++[v]):=do t:aj Z (upd Z (F 7) (.lst (cs++[v]))):=aj.wl h.e7;lt:∀i,i<c->mT C c r i=C i:=λi hi=>Nr hi;at_:mT C c r c=r:=Iz;e:∀{P:Nat->Prop},(∀i,i<c->P i)->P c->∀i,i<c+1->P i:=λh1 h2 i hi=>(do z<|i=c;[z];h2;h1 i ());{h.ro.wr (.inr (.inr rfl)),h.dw.wr o.symm,do[az f];h.e6,h.al.imp λv i g=>g.af t,h.wl,h.nb,h.nk,h.lk,aF,?_,{(),λi j a b=>?_,?_,?_},?_};[yx];AN.snoc (uU h.ac λv i hi g=>?_) ?_;hi:=qj.mp hi;this:=gP.af g t;(by unfold gP at this ⊢);[lt i hi];this;this:=gP.af q t;(by unfold gP at this ⊢);[at_];this;z<|j=c;[z,at_,lt i (),m,k];h.ck i ();[lt i (),lt j ()];h.wc.up i j a ();e (λi hi=>do[lt i hi];h.wc.lay i hi) (do[at_];p);e (λi hi=>do[lt i hi];h.wc.wd i hi) (do[at_];wd);e (λi hi=>do[lt i hi];Lx (h.ck i hi) n) (do[at_,m,k];n)
end
structure RC(Z:Hp)(rq cq:UJ)(us vs:List V)(k:Nat):Prop where
 er:Z rq=!(.lst us)
 ec:Z cq=!(.lst vs)
 ru:∀u∈us,∃p,GK Z (.tup p) u/\Pn p
 cu:∀u∈vs,∃p,GK Z (.tup p) u/\Pn p
 lu:us.length<=k
 lv:vs.length<=k
section
variable {Z Z':Hp}{rq cq:UJ}{us vs:List V}{k:Nat}
def RC.to(h:RC Z rq cq us vs k)(t:aj Z Z')(a:Z' rq=!(.lst us))(b:Z' cq=!(.lst vs)):RC Z' rq cq us vs k := {a,b,λu c=>let⟨p,g,n⟩:=h.ru u c;{p,g.af t,n},λu c=>let⟨p,g,n⟩:=h.cu u c;{p,g.af t,n},h.lu,h.lv}
def RC.same(h:RC Z rq cq us vs k)(s:ag Z Z'):RC Z' rq cq us vs k:=h.to s.af (s _ _ h.er) (s _ _ h.ec)
def RC.draw(h:RC Z rq cq us vs k)(w:DW Z d)(a:rq≠d)(b:cq≠d)(s:ag (del Z d) Z'):RC Z' rq cq us vs k:=h.to (w.af s) (DP.to s h.er a) (DP.to s h.ec b)
def RC.wr(h:RC Z rq cq us vs k)(e:Z q=!(.lst xs))(a:rq≠q)(b:cq≠q):RC (upd Z q o) rq cq us vs k:=h.to (aj.wl e) (do[az a];h.er) (do[az b];h.ec)
def RC.le(h:RC Z rq cq us vs k)(a:k<=b):RC Z rq cq us vs b:={h.er,h.ec,h.ru,h.cu,qf h.lu a,qf h.lv a}
def RC.row(h:RC Z rq cq us vs k)(n:rq≠cq)(g:GK Z (.tup p) v)(pn:Pn p):RC (upd Z rq (.lst (us++[v]))) rq cq (us++[v]) vs (k+1):=do t:aj Z (upd Z rq (.lst (us++[v]))):=aj.wl h.er;b:=h.lu;{aF,do[az n.symm];h.ec,λu a=>?_,λu a=>let⟨p,g,n⟩:=h.cu u a;{p,g.af t,n},do[qg,qr];(),j8 h.lv};z||z:=qz.mp a;{p,g,n}:=h.ru u z;{p,g.af t,n};[qo.mp z];{p,g.af t,pn}
def RC.turn(h:RC Z rq cq us vs k):RC Z cq rq vs us k:={h.ec,h.er,h.cu,h.ru,h.lv,h.lu}
def II(h:∀u∈us,∃p,GK Z (.tup p) u/\Pn p):∃ps:List (List Key),us.length=ps.length/\dn Z us (ps.map tD)/\PyData.canLayAll0 (ps.map tD)=true:=do _;{ps,h1,h2}:=xH (P:=λu p=>GK Z (.tup p) u/\Pn p) h;a:AL (λu p=>GK Z (.tup p) u/\Pn p) us ps:={h1.symm,h2};{ps,h1.symm,AL.iw (λv p g=>bC g.1) a,(rC λk b=>do _;{_,_,_,h}:=a.ux b;h).1}
end
theorem KN.data(h:KN H kn):∀n,n<=kn.length->∃ps:List (List Key),ps.length=n/\∀(i:Nat) p,ps[i]?=!p->∃v w,kn[i]?=!v/\p=[.inr w,.inl (i:Int)]/\GK H (.tup p) v/\Pn p| 0,_=>{[],O,(λi p z=>nomatch z)}|n+1,hn=>do _;{ps,a,hp}:=KN.data h n ();e:=qe (show n<kn.length from ());{w,g,pn}:=h n _ e;{ps++[[.inr w,.inl (n:Int)]],do[qg,a];2,λi p z=>?_};hi<|i<n;z<-[zt ()];hp i p z;this:i=n:=(do this:=(qw.mp z).1;this<-[qg,a];this:i<n+1:=this;());!this;z<-[yh (),a,j3];-z;{_,w,e,O,g,pn}
def KN.idx(h:KN H kn)(e:kn[j]?=!v):∃p ds,GK H (.tup p) v/\Pn p/\DV H v (tD p)/\dV H kn ds/\(tD p).canLay0=true/\PyData.canLayAll0 ds=true/\(tD p).depth<=61/\(∃d,ds[j]?=!d/\PyData.eqv d (tD p)=true)/\∀(m:Nat) d,m<j->ds[m]?=!d->PyData.eqv d (tD p)=false:=do _;{ps,l,hp}:=h.data kn.length (qb _);s:=(qw.mp e).1;b:ps[j]?=!(ps[j]'()):=qe ();{x,w,c,ep,g,pn}:=hp j _ b;c<-[e];-c;(by generalize ps[j]'()=p at b ep g pn);!ep;i:AL (λu p=>GK H (.tup p) u/\Pn p) kn ps:={l.symm,λm u q a o=>do _;{r,_,f,_,g,pn}:=hp m q o;f<-[a];-f;{g,pn}};{_,ps.map tD,g,pn,(bC g).dv,(AL.iw (λv p g=>bC g.1) i).dv,pn.lay,(rC λk n=>do _;{_,_,_,h}:=i.ux n;h).1,jz rfl,{_,do[qv,b];2,do[fH];qH rfl},λm d A a=>?_};a<-[qv];(by cases z:ps[m]? with|none|some q=>?_);a<-[z];-a;a<-[z];-a;{_,t,_,eq,_,_}:=hp m q z;[fH,eq];decide_eq_false λy=>?_;(by injection y with _ y;injection y with y _;injection y with y);()
def Q3{xs:List V}{j:Nat}{v:V}(e:(ef xs none (some 3))[j]?=!v):xs[j]?=!v:=do(by unfold ef at e);e<-[show HT.b_ xs.length 0 none=0 from rfl,List.drop_zero];e<-[bz];(by split at e);e;-e
def AD(H:Hp)(j:Nat)(v:V):Prop:=∃b vn a w o,v=.ref b/\H b=!(.tup [vn,a])/\GK H (.tup [.inr w,.inl ((j+1:Nat):Int)]) vn/\Nm [.inr w,.inl ((j+1:Nat):Int)]/\GK H (.tup o) a/\Pn o
def lI(H:Hp)(bs:List V):Prop:=∀(j:Nat) v,bs[j]?=!v->AD H j v
theorem AD.af(h:AD H j v)(t:aj H H'):AD H' j v:=do _;{b,vn,d,w,o,e,h1,h2,f,a,c}:=h;{b,vn,d,w,o,e,t _ _ h1,h2.af t,f,a.af t,c}
def AD.bt(h:AD H j v):BT H v:=do _;{b,vn,d,w,o,e,h1,h2,f,a,c}:=h;⟨b,vn,d,_,o,e,h1,h2,f,a,c⟩
theorem lI.af{bs:List V}(h:lI H bs)(t:aj H H'):lI H' bs:=λj v e=>(h j v e).af t
def lI.uN{bs:List V}(h:lI H bs)(b:AD H bs.length v):lI H (bs++[v]):=λj u e=>do a<|j<bs.length;e<-[zt a];h j u e;this:=(qw.mp e).1;this<-[qg,qr];z:j=bs.length:=();!z;e<-[yh (qb _),j3];-e;b
theorem Ad{α:Type}:∀{ys:List V} {P:Nat->V->α->Prop},(∀(j:Nat) y,ys[j]?=!y->∃k,P j y k)->∃ks:List α,ks.length=ys.length/\∀(j:Nat) y k,ys[j]?=!y->ks[j]?=!k->P j y k|[],_,_=>{[],O,λm y k z=>do z<-0}|y::ys,P,h=>do _;{k,c}:=h 0 y rfl;{ks,a1,a2}:=Ad (P:=λj=>P (j+1)) (ys:=ys) λj z e=>h (j+1) z (do 0<|e);{k::ks,do[zf,zf,a1],λm z j a b=>?_};(by cases m with|zero|succ m=>?_);-a;-b;c;a2 m z j (do 0<|a) (do 0<|b)
theorem lI.br{bs:List V}(h:lI H bs):∃br,AL (BP H) bs br/\(br.map (·.1)).Nodup/\br.length=bs.length:=do _;{br,l,k}:=Ad (ys:=bs) (P:=λj v (x:List Key×List Key)=>BP H v x/\∃w,x.1=[.inr w,.inl ((j+1:Nat):Int)]) λj v e=>(do _;{b,vn,f,w,o,e,h1,h2,n,p,g}:=h j v e;{(_,o),{b,vn,f,e,h1,h2,p,.inr n,g},w,O});at_:∀{j:Nat} {x},br[j]?=!x->∃w,x.1=[.inr w,.inl ((j+1:Nat):Int)]:=λ{j x} e=>(do d:=(qw.mp e).1;(k j _ x (qe ()) e).2);{br,{l.symm,λm v x c a=>(k m v x c a).1},?_,l};z9.mpr (y0.mpr λi j hi d q z=>?_);{w,c}:=at_ (qe hi);{r,a}:=at_ (qe d);z<-[c,a];(by injection z with _ z;injection z with z _;injection z with z);()
structure wD(H0 H:Hp)(d f:UJ)(ys:List V)(ls:List Lf):Prop where
 rs:Rest H0 H (λb=>b=d\/b=f)
 dw:DW H d
 ey:H f=!(.lst ys)
 lr:AL (LX H) ys ls
def wD.draw(h:wD H0 H d f ys ls)(n:f≠d)(s:ag (del H d) H')(w:DW H' d):wD H0 H' d f ys ls := {h.rs.del (.inl rfl) s,w,DP.to s h.ey n,h.lr.imp λv l g=>LX.af g (h.dw.af s)}
theorem wD.same(h:wD H0 H d f ys ls)(s:ag H H'):wD H0 H' d f ys ls := {h.rs.same s,h.dw.same s,s _ _ h.ey,h.lr.imp λv l g=>LX.af g s.af}
inductive iC(vs:List V)(H:Hp)(Q:VK)(_:XK):Prop
 |mk(d fa r kq F kn:_)(_:vs=[.ref d,.ref fa,.ref r,.ref kq])(_:DW H d)(_:H fa=!(.dK (eO F 9)))(_:H (F 8)=!(.lst []))(_:H r=!(.lst [.str "ann",.str "bo"]))(_:H kq=!(.lst kn))(_:0<kn.length)(_:kn.length<1000)(_:(∀v∈kn,vS H v))(_:r≠d)(_:kq≠d)(_:F 8≠d)(_:r≠F 8)(_:kq≠F 8)(_:∀H' ys ls,Rest H H' (λb=>b=d\/b=F 8)->H' (F 8)=!(.lst ys)->AL (LX H') ys ls->LS ls->ls.length<=45->Q .aV H')
inductive iX(vs:List V)(H:Hp)(Q:VK)(_:XK):Prop
 |mk(d fa r F:_)(_:vs=[.ref d,.ref fa,.ref r])(_:DW H d)(_:H fa=!(.dK (eO F 9)))(_:H (F 0)=!(.lst []))(_:H (F 1)=!(.lst []))(_:H (F 2)=!(.lst []))(_:H r=!pw)(_:r≠d)(_:(∀i,i<9->F i≠d/\r≠F i))(_:(∀i,i<9->∀j,j<9->F i=F j->i=j))(_:∀H' kq kn bs es cs rs cu,Rest H H' (λb=>b=d\/b=F 0\/b=F 1\/b=F 2)->H kq=none->H' kq=!(.lst kn)->KN H' kn->0<kn.length->kn.length<=15->H' (F 0)=!(.lst bs)->H' (F 1)=!(.lst es)->H' (F 2)=!(.lst cs)->xF H' bs es cs rs cu 60->lI H' bs->Q (.ref kq) H')
section
variable {vs:List V}{H:Hp}{Q:VK}{E:XK}
end
inductive Gd(zs:List Pc)(G:List Key->Prop):UK->List Key->Prop
 |main:Gd zs G "" aZ
 |sub {z p l i x}:Gd zs G z p->rP zs G p l->l[i]?=!x->i<=100->Gd zs G (rS z (i+1)) x.pt
def rP.Ot(h:rP zs G p l)(W:ZW zs):l.length<=100:=do nd:(l.map (·.pt)).Nodup:=z9.mpr (List.Pairwise.imp_of_mem (λ{a b} e g d z=>do d<-[xk W.nd ((h.mem a).mp e).1 ((h.mem b).mp g).1 z];JV _ _ d) h.up);this:=Bg nd (ws:=zs.map (·.pt)) λc f=>(do _;{x,i,rfl}:=qc.mp f;qc.mpr {x,((h.mem x).mp i).1,O});this<-[qh,qh];qf this W.bY
def J0(h:c∈subs z 0 l):∃i x,l[i]?=!x/\c=(x.pt,rS z (i+1)):=do _;{m,a}:=j6 h;a<-[yJ];{x,b,rfl}:=wu.mp a;{m,x,b,do[jh]}
def Wk.Ut{st out:List (List Key×UK)}(W:ZW zs)(h:Wk zs G op st out):(∀e∈st,Gd zs G e.2 e.1)->∀e∈out,Gd zs G e.2 e.1:=do(by induction h with|nil|@cons p z st l out o i w d|rB o w d=>?_);λ_ e z=>nomatch z;(h,e,b);rfl||b:=qt.mp b;h _ qi;d (λc a=>?_) e b;a||a:=qz.mp a;{m,x,f,rfl}:=J0 a;this:=(qw.mp f).1;this:=i.Ot W;.sub (h (p,z) qi) i f ();h c (qm _ a);(h,e,b);rfl||b:=qt.mp b;h _ qi;d (λc a=>h c (qm _ a)) e b
def NB(g:Nat->Nat)(p:Rga.Pl):Rga.Pl:=(g p.1,p.2.map g)
theorem M2{g:Nat->Nat}:∀{row:List Nat},(∀x∈row,g x=g b->x=b)->(Rga.after b a row).map g=Rga.after (g b) (g a) (row.map g)|[],_=>rfl|x::xs,h=>do[zm];@Rga.after;e<|x=b;[qE e,qE (do[e])];2;[qB e,qB λz=>e (h x qi z),zm,M2 λy c=>h y (qm _ c)]
theorem Mj{g:Nat->Nat}:∀{c:List Rga.Pl},Rga.WF c->(∀x∈Rga.jB c,∀y∈Rga.jB c,g x=g y->x=y)->Rga.eB (c.map (NB g))=(Rga.eB c).map g|[],_,_=>rfl|p::c,w,h=>do _;{l,k,f}:=w;i:=Mj f λx d y j=>h x (qm _ d) y (qm _ j);hp:∀{x:Nat},x∈Rga.eB c↔x∈Rga.jB c:=(Rga.cF f).mem_iff;¬Rga.ins (NB g p) (Rga.eB (c.map (NB g)))=(Rga.ins p (Rga.eB c)).map g;[i];{a,b}:=p;(by cases b with|none|some b=>?_);2;(M2 λx d e=>?_).symm;h x (qm _ (hp.mp d)) b (qm _ (k b rfl)) e
section
variable {n:Nat}{seen:Nat->Bool}
def aJ(n:Nat)(seen:Nat->Bool):List Nat:=(List.range n).filter seen
def dj(n:Nat)(seen:Nat->Bool)(i:Nat):Nat:=(aJ n seen).idxOf i
def dX(n:Nat)(seen:Nat->Bool)(k:Nat):Nat:=(aJ n seen).getD k 0
def RD:(aJ n seen).Nodup:=List.nodup_range.filter _
def cV:i∈aJ n seen↔i<n/\seen i=true:=do@aJ;[qk,qj]
def cA(h:i∈aJ n seen):dX n seen (dj n seen i)=i:=do(by unfold dX dj);[ze,qe (ni.mpr h)];List.getElem_idxOf (ni.mpr h)
def ug(h:i∈aJ n seen):dj n seen i<(aJ n seen).length:=ni.mpr h
def ov{k:Nat}(h:k<(aJ n seen).length):dX n seen k∈aJ n seen:=do@dX;[ze,qe h];jg h
def jT{k:Nat}(h:k<(aJ n seen).length):dj n seen (dX n seen k)=k:=do(by unfold dj dX);[ze,qe h];List.Nodup.idxOf_getElem RD k h
def Kp(hi:i∈aJ n seen)(a:j∈aJ n seen)(e:dj n seen i=dj n seen j):i=j:=do[<-cA hi,<-cA a,e]
def Ij:aJ n seen=(List.range (aJ n seen).length).map (dX n seen):=do(by apply List.ext_getElem);0;(k,h1,h2);#[dX,List.getD_eq_getElem?_getD,h1]
def jW{k l:Nat}(h:k<l)(a:l<(aJ n seen).length):dX n seen k<dX n seen l:=do hp:(aJ n seen).Pairwise (·<·):=rh.filter _;@dX;[ze,ze,qe a,qe ()];y0.mp hp k l () a h
def CW(h:∀i,i<n->P i=true->seen i=true):(List.range (aJ n seen).length).filter (λk=>P (dX n seen k))=((List.range n).filter P).map (dj n seen):=do b:(List.range n).filter P=(aJ n seen).filter P:=(do@aJ;[kg];ja λi hi=>?_;(by cases hp:P i with|false|true=>?_);2;[h i (qj.mp hi) hp];2);[b];(by conv=>rhs;rw[Ij]);[jo,zx];(List.map_id _).symm.trans (z8 λk a=>?_);(jT (qj.mp (qk.mp a).1)).symm
def EZ(bh:Nat->Option Nat)(P:Nat->Bool)(n:Nat):List Nat:=Rga.eB (Rga.cC bh ((List.range n).filter P))
def LF(h:∀i,i<n->P i=true->seen i=true)(c:∀i,i<n->∀j,bh i=!j->j<i/\(P i=true->P j=true)) : EZ (λk=>(bh (dX n seen k)).map (dj n seen)) (λk=>P (dX n seen k)) (aJ n seen).length=(EZ bh P n).map (dj n seen):=do@EZ;[CW h];a:∀i,i∈(List.range n).filter P->i∈aJ n seen:=λi hi=>(do this:=qk.mp hi;cV.mpr {qj.mp this.1,h i (qj.mp this.1) this.2});e:Rga.cC (λk=>(bh (dX n seen k)).map (dj n seen)) (((List.range n).filter P).map (dj n seen))=(Rga.cC bh ((List.range n).filter P)).map (NB (dj n seen)):=(do@Rga.cC;[<-List.map_reverse,zx,zx];z8 λi hi=>?_;¬(dj n seen i,(bh (dX n seen (dj n seen i))).map (dj n seen))=(dj n seen i,(bh i).map (dj n seen));[cA (a i (vy.mp hi))]);[e];Mj ?_ λx f y d e=>?_;g:Rga.WF (Rga.cC bh (List.range n)):=Rga.fJ λi hi b e=>(c i hi b e).1;this:=Rga.gB g (Rga.tQ (P:=P) λi hi hp b e=>(c i (qj.mp hi) b e).2 hp);this<-[<-Rga.jG];this;(by rw[Rga.dP,vy]at f d);Kp (a x f) (a y d) e
end
theorem CH{g:Nat->Nat}:∀{js:List Nat},i∈js->(∀x∈js,∀y∈js,g x=g y->x=y)->(js.map g).idxOf (g i)=js.idxOf i|[],h,_=>nomatch h|j::js,h,hg=>do[zm,m7,m7];e<|j=i;!e;0;b:¬g j=g i:=λz=>e (hg j qi i h z);hi:i∈js:=(qt.mp h).resolve_left λz=>e z.symm;[beq_eq_false_iff_ne.mpr e,beq_eq_false_iff_ne.mpr b];#[_,cond_false];[CH hi λx c y a=>hg x (qm _ c) y (qm _ a)]
def tM(g:Nat->Nat)(d:Sd):Sd:=d.map λx=>(g x.1,x.2)
section
variable {g:Nat->Nat}{js:List Nat}(hg:∀x∈js,∀y∈js,g x=g y->x=y)
include hg
theorem xI(h:d9 js d):bG (js.map g) (tM g d)=bG js d:=do(by cases d with|none|some x=>?_);qh _;{i,b}:=x;¬(js.map g).idxOf (g i)+_=js.idxOf i+_;[CH (h i b rfl) hg]
theorem Rl(a:d9 js b)(c:d9 js e):oR (js.map g) (tM g b) (tM g e)=(oR js b e).map g:=do@oR;[xI hg a,xI hg c,List.map_take,List.map_drop]
end
def Jj{kd:UK}:∀{l:List Nat},(∀i∈l,P i=false->iM js (M i) p=false)->tell M js (l.filter P) kd p=tell M js l kd p:=λ{l} h=>do@tell;(by generalize (none:Option Nat)=acc;induction l generalizing acc with|nil|cons i l a=>?_);2;a:=a λj b=>h j (qm _ b);(by cases hp:P i with|true|false=>?_);[yi hp,wz,wz,a];[yj (by rw[hp];decide),wz,a,qB];(z);z<-[h i qi hp];absurd z.2 ⋯
def O7{kd:UK}:∀{l:List Nat},(∀i∈l,(b (f i)).kd=(M i).kd/\iM a (b (f i)) p=iM js (M i) p)->tell b a (l.map f) kd p=(tell M js l kd p).map f:=λ{l} h=>do@tell;this:∀acc:Option Nat,(l.map f).foldl (λacc i=>if(b i).kd=kd/\iM a (b i) p=true then some i else acc) (acc.map f)=(l.foldl (λacc i=>if(M i).kd=kd/\iM js (M i) p=true then some i else acc) acc).map f:=(do(by induction l with|nil|cons i l c=>?_);λ_=>rfl;(acc);hi:=h i qi;c:=c λj d=>h j (qm _ d);[zm,wz,wz,hi.1,hi.2,<-c];by congr 1;split <;> rfl);this none
def RV(h:∀i∈l,(a (f i)).kd=(M i).kd):kinds a (l.map f)=kinds M l:=do this:∀(l:List Nat) (ks:List UK),(∀i∈l,(a (f i)).kd=(M i).kd)->(l.map f).foldl (λks i=>if(a i).kd∈ks then ks else ks++[(a i).kd]) ks=l.foldl (λks i=>if(M i).kd∈ks then ks else ks++[(M i).kd]) ks:=λl=>(do(by induction l with|nil|cons i l c=>?_);λ_ _=>rfl;(ks,h);[zm,wz,wz,h i qi];c _ λj b=>h j (qm _ b));this l [] h
def JX{kd:UK}:∀{l:List Nat},tell M js l kd p=!i->i∈l/\(M i).kd=kd/\iM js (M i) p=true:=λ{l} h=>do this:∀(l:List Nat) (acc:Option Nat),l.foldl (λacc i=>if(M i).kd=kd/\iM js (M i) p=true then some i else acc) acc=!i->acc=!i\/(i∈l/\(M i).kd=kd/\iM js (M i) p=true):=λl=>(do(by induction l with|nil|cons j l b=>?_);λacc h=>.inl h;(acc,h);h||h:=b _ h;h:(if(M j).kd=kd/\iM js (M j) p=true then some j else acc)=!i:=h;a<|(M j).kd=kd/\iM js (M j) p=true;h<-[qE a];-h;.inr {qi,a};h<-[qB a];.inl h;.inr {qm _ h.1,h.2});h||h:=this l none h;-h;h
theorem Eh{α β:Type}{f g:α->Option β}:∀{l:List α},(∀x∈l,f x=g x)->l.filterMap f=l.filterMap g|[],_=>rfl|x::l,h=>do[jq,jq,h x qi,Eh λy a=>h y (qm _ a)]
def Dw(h:Jl l):l.Pairwise λa b=>bN (.str b) (.str a)=false:=h.imp λ{a b} h=>do(by cases q:bN (.str b) (.str a)with|false|true=>?_);2;this:=sG _ _ _ rfl rfl rfl h q;this<-[lX];this.symm
def PN(a:A.Nodup)(b:B.Nodup)(sub:∀x∈A,x∈B):(dU B).filter (λx=>decide (x∈A))=dU A:=do GG ?_ (Dw ((xq b).filter _)) (xq a);((lW B).filter _).trans (List.Perm.trans ?_ (lW A).symm);(List.perm_ext_iff_of_nodup (b.filter _) a).mpr λx=>?_;[qk,decide_eq_true_iff];{λh=>h.2,λh=>{sub x h,h}}
def Bn{A B:List UK}{F:UK->Option UI}(b:A.Nodup)(c:B.Nodup)(sub:∀x∈A,x∈B)(hn:∀x∈B,x∉A->F x=none):(dU B).filterMap F=(dU A).filterMap F:=do[<-PN b c sub,List.filterMap_filter];Eh λx a=>?_;a:=(lW B).mem_iff.mp a;h<|x∈A;[qH h];2;[decide_eq_false h,hn x a h];2
def Sl(h:∀i∈l,P i=false->iM js (M i) p=false):nU M a js (l.filter P) p=nU M a js l p:=do@nU;e:(λkd=>yl M a (tell M js (l.filter P) kd p))=λkd=>yl M a (tell M js l kd p):=funext λkd=>(do[Jj h]);[e];(Bn (xC _ [] wv) (xC _ [] wv) (λx c=>?_) λx c hn=>?_).symm;this:=(rF _ []).mp c;z||{i,hi,e}:=this;nomatch z;(rF _ []).mpr (.inr ⟨i,(qk.mp hi).1,e⟩);(by cases b:tell M js l x p with|none|some i=>?_);2;b<-[<-Jj h];this:=JX b;absurd ((rF _ []).mpr (.inr {i,this.1,this.2.1})) hn
def Q5(h:∀i∈l,(a (f i)).kd=(M i).kd/\(a (f i)).vl=(M i).vl/\(a (f i)).nm=(M i).nm/\iM b (a (f i)) p=iM js (M i) p):nU a c b (l.map f) p=nU M c js l p:=do@nU;[RV λi hi=>(h i hi).1];Eh λkd _=>?_;[O7 λi hi=>{(h i hi).1,(h i hi).2.2.2}];(by cases d:tell M js l kd p with|none|some i=>?_);2;{h1,h2,e,_}:=h i (JX d).1;¬(if(a (f i)).vl=none then none else some (PyData.tuple [.str (a (f i)).kd,pR a c (f i)]))=if(M i).vl=none then none else some (PyData.tuple [.str (M i).kd,pR M c i]);@pR;[h1,h2,e]
section
variable (S:Nat->Sg)(n:Nat)(seen:List Key->Bool)
def kS(i:Nat):Bool:=seen (S i).pt
def gS:Nat->Nat:=dj n (kS S seen)
def LB(r:Sg):Sg:={r with bh:=r.bh.map (gS S n seen)}
def f':Nat->Sg:=λk=>LB S n seen (S (dX n (kS S seen) k))
def lsN:Nat:=(aJ n (kS S seen)).length
end
section
variable {S:Nat->Sg}{n:Nat}{seen:List Key->Bool}{p:List Key}
def GS(W:WS S n)(hp:seen p=true):aB (f' S n seen) (lsN S n seen) p=(aB S n p).map (gS S n seen) := LF (bh:=pT S) (P:=lY S p) (seen:=kS S seen) (λi _ h=>do@kS;[f9.mp h];hp) λi hi j e=>{(W.back i hi j e).1,λh=>f9.mpr ((W.back i hi j e).2.trans (f9.mp h))}
def pY(W:WS S n)(hp:seen p=true)(h:i∈aB S n p):i∈aJ n (kS S seen):=do this:=(gF W).mp h;cV.mpr {this.1,do@kS;[this.2];hp}
def xS(W:WS S n)(hp:seen p=true):∀x∈aB S n p,∀y∈aB S n p,gS S n seen x=gS S n seen y->x=y:=λx b y a e=>Kp (pY W hp b) (pY W hp a) e
def fK(h:i∈aJ n (kS S seen)):f' S n seen (gS S n seen i)=LB S n seen (S i):=do¬LB S n seen (S (dX n (kS S seen) (dj n (kS S seen) i)))=_;[cA h]
def RS(W:WS S n)(hp:seen p=true):aQ (f' S n seen) (lsN S n seen) p=(aQ S n p).map (gS S n seen):=do@aQ;[GS W hp,jo];(by congr 1);ja λi hi=>?_;¬(f' S n seen (gS S n seen i)).lv=_;[fK (pY W hp hi)];2
def Tc(W:WS S n)(hp:seen p=true)(a:d9 (aB S n p) b)(c:d9 (aB S n p) e):c7 (f' S n seen) ((aB S n p).map (gS S n seen)) (tM (gS S n seen) b) (tM (gS S n seen) e)=(c7 S (aB S n p) b e).map (gS S n seen):=do@c7;[Rl (xS W hp) a c,jo];(by congr 1);ja λi hi=>?_;¬(f' S n seen (gS S n seen i)).lv=_;[fK (pY W hp (rK hi))];2
end
section
variable (S:Nat->Sg)(n:Nat)(seen:List Key->Bool)(M:Nat->Mk)(m:Nat)
def kM(i:Nat):Bool:=seen (M i).pt&&not (c7 S (aB S n (M i).pt) (M i).b (M i).e).isEmpty
def vT(r:Mk):Mk:={r with b:=tM (gS S n seen) r.b,e:=tM (gS S n seen) r.e}
def HB:Nat->Mk:=λk=>vT S n seen (M (dX m (kM S n seen M) k))
def RM:Nat:=(aJ m (kM S n seen M)).length
end
section
variable {S:Nat->Sg}{n:Nat}{seen:List Key->Bool}{M:Nat->Mk}{m:Nat}{p:List Key}
def MK(h:i∈aJ m (kM S n seen M)):HB S n seen M m (dj m (kM S n seen M) i)=vT S n seen (M i):=do¬vT S n seen (M (dX m (kM S n seen M) (dj m (kM S n seen M) i)))=_;[cA h]
def O':aG (HB S n seen M m) (RM S n seen M m) p=((aG M m p).filter (kM S n seen M)).map (dj m (kM S n seen M)):=do@aG;[kg,<-CW (P:=λi=>kM S n seen M i&&decide ((M i).pt=p)) λi _ h=>((zn _ _).mp h).1];ja λk a=>?_;this:=(cV.mp (ov (qj.mp a))).2;[this];2
def J4(W:WS S n)(WM:WK S n M m)(hp:seen p=true)(hi:i∈aQ S n p)(h:Bool) : nU (HB S n seen M m) h (aB (f' S n seen) (lsN S n seen) p) (aG (HB S n seen M m) (RM S n seen M m) p) ((aB (f' S n seen) (lsN S n seen) p).idxOf (gS S n seen i))=nU M h (aB S n p) (aG M m p) ((aB S n p).idxOf i):=do l:i∈aB S n p:=(qk.mp hi).1;g:∀{j:Nat},j∈aG M m p->d9 (aB S n p) (M j).b/\d9 (aB S n p) (M j).e:=λc=>(do c:=qk.mp c;d:=qN c.2;o:=WM.sd _ (qj.mp c.1);o<-[d];{λi b z=>(gF W).mpr (o.1 i b z),λi b z=>(gF W).mpr (o.2 i b z)});[GS W hp,CH l (xS W hp),O'];(Q5 λj c=>?_).trans (Sl λj c f=>?_);c:=qk.mp c;f:j∈aJ m (kM S n seen M):=cV.mpr {qj.mp (qk.mp c.1).1,c.2};[MK f];{O,O,O,?_};(by unfold iM vT);[xI (xS W hp) (g c.1).1,xI (xS W hp) (g c.1).2];(by cases k:iM (aB S n p) (M j) ((aB S n p).idxOf i)with|false|true=>?_);2;d:=qN (qk.mp c).2;this:i∈c7 S (aB S n p) (M j).b (M j).e:=(do[<-IH (mC W)];qk.mpr {hi,qH (qN k)});(by unfold kM at f);f<-[d,hp,j9];(by cases h0:c7 S (aB S n p) (M j).b (M j).e with|nil|cons a r=>?_);this<-[h0];nomatch this;f<-[h0];nomatch f
end
section
variable (S:Nat->Sg)(n:Nat)(seen:List Key->Bool)(N:Nat->Mk)(q:Nat)
def pE(i:Nat):Bool:=seen (N i).pt
def rT:Nat->Mk:=λk=>vT S n seen (N (dX q (pE seen N) k))
def OW:Nat:=(aJ q (pE seen N)).length
end
section
variable {S:Nat->Sg}{n:Nat}{seen:List Key->Bool}{N:Nat->Mk}{q:Nat}{p:List Key}
def ES(h:i∈aJ q (pE seen N)):rT S n seen N q (dj q (pE seen N) i)=vT S n seen (N i):=do¬vT S n seen (N (dX q (pE seen N) (dj q (pE seen N) i)))=_;[cA h]
def Ba(h:∀i,o=!i->i∈aJ n (kS S seen)):ik (f' S n seen) (o.map (gS S n seen))=ik S o:=do(by cases o with|none|some i=>?_);2;¬tD (f' S n seen (gS S n seen i)).nk=tD (S i).nk;[fK (h i rfl)];2
def Li(W:WS S n)(WN:WK S n N q)(hp:seen p=true) : (bU (rT S n seen N q) (OW seen N q) p).map (oG (f' S n seen) (aB (f' S n seen) (lsN S n seen) p) (rT S n seen N q))=(bU N q p).map (oG S (aB S n p) N):=do e:bU (rT S n seen N q) (OW seen N q) p=(bU N q p).map (dj q (pE seen N)):=CW (P:=λi=>decide ((N i).pt=p)) (seen:=pE seen N) λi _ h=>(do@pE;[qN h];hp);[e,zx];z8 λj a=>?_;a:=qk.mp a;c:=qN a.2;d:j∈aJ q (pE seen N):=cV.mpr {qj.mp a.1,do@pE;[c];hp};o:=WN.sd _ (qj.mp a.1);o<-[c];f:d9 (aB S n p) (N j).b:=λi b z=>(gF W).mpr (o.1 i b z);g:d9 (aB S n p) (N j).e:=λi b z=>(gF W).mpr (o.2 i b z);¬oG _ _ _ (dj q (pE seen N) j)=_;@oG;[ES d,GS W hp];¬PyData.tuple [tD (N j).nm,.str (N j).kd,ik _ (c7 _ _ (tM (gS S n seen) (N j).b) (tM (gS S n seen) (N j).e)).head?]=_;[Tc W hp f g,List.head?_map,Ba (o:=(c7 S (aB S n p) (N j).b (N j).e).head?) λi hi=>pY W hp (rK (qk.mp (m8 (l:=c7 S (aB S n p) (N j).b (N j).e) hi)).1)]
end
section
variable (L:Nat->Ln)(a:Nat)(C:Nat->Ce)(b:Nat)(seen:List Key->Bool)
def kL(i:Nat):Bool:=seen (L i).pt
def gL:Nat->Nat:=dj a (kL L seen)
def NF(r:Ln):Ln:={r with bh:=r.bh.map (gL L a seen)}
def gK:Nat->Ln:=λk=>NF L a seen (L (dX a (kL L seen) k))
def vW:Nat:=(aJ a (kL L seen)).length
def eN:List (List Key):=((List.range a).filter λi=>(L i).lv).map λi=>(L i).nk
def Ez(x:List Key)(l:List (List Key)):Bool:=l.any λy=>decide (y=x)
def kC(i:Nat):Bool:=seen (C i).pt&&(Ez (C i).rw (eN L a)&&Ez (C i).cl (eN L a))
def vQ:Nat->Ce:=λk=>C (dX b (kC L a C seen) k)
def JM:Nat:=(aJ b (kC L a C seen)).length
end
section
variable {L:Nat->Ln}{a:Nat}{C:Nat->Ce}{b:Nat}{seen:List Key->Bool}{p:List Key}
def gR(h:i∈aJ a (kL L seen)):gK L a seen (gL L a seen i)=NF L a seen (L i):=do¬NF L a seen (L (dX a (kL L seen) (dj a (kL L seen) i)))=_;[cA h]
def Pq(W:WL L a)(hp:seen p=true)(wy:UK):eS (gK L a seen) (vW L a seen) p wy=(eS L a p wy).map (gL L a seen) := LF (bh:=oI L) (P:=p5 L p wy) (seen:=kL L seen) (λi _ h=>do@kL;[(lT.mp h).1];hp) λi hi j e=>{(W.back i hi j e).1,λh=>lT.mpr {(W.back i hi j e).2.1.trans (lT.mp h).1,(W.back i hi j e).2.2.trans (lT.mp h).2}}
def Ja(W:WL L a):i∈eS L a p wy↔i<a/\(L i).pt=p/\(L i).wy=wy:=do e:i∈eS L a p wy↔i∈Rga.jB (Rga.cC (oI L) (cz L a p wy)):=(Rga.cF (W.uZ p wy).wf).mem_iff;[e,Rga.dP,vy];@cz;[qk,qj,lT]
def x8(W:WL L a)(hp:seen p=true)(h:i∈eS L a p wy):i∈aJ a (kL L seen):=do this:=(Ja W).mp h;cV.mpr {this.1,do@kL;[this.2.1];hp}
def D4(W:WL L a)(hp:seen p=true)(wy:UK):bf (gK L a seen) (vW L a seen) p wy=(bf L a p wy).map (gL L a seen):=do@bf;[Pq W hp,jo];(by congr 1);ja λi hi=>?_;¬(gK L a seen (gL L a seen i)).lv=_;[gR (x8 W hp hi)];2
def IP(W:WL L a)(h:i∈bf L a p wy):cR L i∈eN L a:=do h:=qk.mp h;qc.mpr {i,qk.mpr {qj.mpr ((Ja W).mp h.1).1,h.2},O}
def CA:Ez x l=true↔x∈l:=do@Ez;[yr];{λ⟨y,h,e⟩=>qN e▸h,λh=>{x,h,qH rfl}}
def Sq(hp:seen p=true)(h:r∈eN L a)(g:c∈eN L a):jN (vQ L a C b seen) (JM L a C b seen) p r c=jN C b p r c:=do(by unfold jN JM);e:(List.range (aJ b (kC L a C seen)).length).foldl (λacc k=>if(vQ L a C b seen k).pt=p/\(vQ L a C b seen k).rw=r/\(vQ L a C b seen k).cl=c then(vQ L a C b seen k).wd else acc) ""=((List.range (aJ b (kC L a C seen)).length).map (dX b (kC L a C seen))).foldl (λacc i=>if(C i).pt=p/\(C i).rw=r/\(C i).cl=c then(C i).wd else acc) "":=(do[nj];2);[e,<-Ij];@aJ;this:∀(l:List Nat) (acc:UK),(l.filter (kC L a C seen)).foldl (λacc i=>if(C i).pt=p/\(C i).rw=r/\(C i).cl=c then(C i).wd else acc) acc=l.foldl (λacc i=>if(C i).pt=p/\(C i).rw=r/\(C i).cl=c then(C i).wd else acc) acc:=λl=>(do(by induction l with|nil|cons i l f=>?_);λ_=>rfl;(acc);(by cases d:kC L a C seen i with|true|false=>?_);[yi d,wz,wz,f];[yj (by rw[d];decide),wz,f,qB];({h1,h2,j});(by unfold kC at d);d<-[h1,h2,j,hp,CA.mpr h,CA.mpr g];nomatch d);this _ _
end
def dA(l x:Lf):Bool:=decide (x.pt=l.pt/\x.hd=l.hd/\x.to=l.to)&&decide (l.ka<x.ka\/(l.ka=x.ka/\l.kb<x.kb))
def M1:dA l x=true↔(x.pt=l.pt/\x.hd=l.hd/\x.to=l.to)/\bO l.ka l.kb x.ka x.kb:=by unfold dA bO;rw[zn,decide_eq_true_iff,decide_eq_true_iff]
theorem Hk{a to:UK}(h1:x.pt=p)(h2:x.hd=a)(c:x.to=to):∀{ls:List Lf},x∈ls->∃b,bR a to ls p=!b|l::ls,h=>do¬(∃b,(bR a to ls p).or _=!b);rfl||h:=qt.mp h;[qE ⟨h1,h2,c⟩];(by cases bR a to ls p with|none|some b=>?_);{_,O};{_,O};{b,e}:=Hk h1 h2 c h;[e];{_,O}
def cT(ls:List Lf)(l:Lf):Bool:=not (ls.any λx=>dA l x)
theorem Lu{c to:UK}:∀{ls:List Lf},LS ls->(∀l∈ls,a.any (λx=>dA l x)=ls.any λx=>dA l x)->bR c to (ls.filter (cT a)) p=bR c to ls p|[],_,_=>rfl|l::ls,h,h0=>do _;{h1,h2}:=vi.mp h;j:∀x∈l::ls,∀y∈ls,¬(x=l/\bO y.ka y.kb l.ka l.kb):=λx _ y i ⟨_,z⟩=>(by have:=h1 y i;unfold bO at this z;omega);m:bR c to (ls.filter (cT a)) p=bR c to ls p:=Lu h2 λy i=>(do[h0 y (qm _ i),jt,j5.mpr λz=>j l qi y i {O,(M1.mp z).2},Bool.false_or]);e:=h0 l qi;¬_=(bR c to ls p).or _;(by cases d:cT a l with|true|false=>?_);[yi d];¬(bR c to (ls.filter (cT a)) p).or _=_;[m];[yj (by rw[d];decide),m];(by unfold cT at d);d<-[e];n:((l::ls).any λx=>dA l x)=true:=(do(by cases h:((l::ls).any λx=>dA l x)with|true|false=>?_);2;d<-[h];nomatch d);{x,f,k}:=yr.mp n;{{s,q,r},o}:=M1.mp k;f:x∈ls:=(do rfl||f:=qt.mp f;(by unfold bO at o);();f);g<|l.pt=p/\l.hd=c/\l.to=to;this:∃b,bR c to ls p=!b:=Hk (s.trans g.1) (q.trans g.2.1) (r.trans g.2.2) f;{b,t}:=this;[t];2;[qB g];by cases bR c to ls p <;> rfl
def Qk{a to:UK}(h:LS ls):bR a to (ls.filter (cT ls)) p=bR a to ls p:=Lu h λ_ _=>rfl
def R9{br:List (List Key×List Key)}(h:LS ls):om br (ls.filter (cT ls)) a p=om br ls a p:=do@om;e:bR a "read" (ls.filter (cT ls))=bR a "read" ls:=funext λq=>Qk h;[e]
def lH(d:DZ)(seen:List Key->Bool):DZ where
 S:=f' d.S d.n seen
 n:=lsN d.S d.n seen
 M:=HB d.S d.n seen d.M d.m
 m:=RM d.S d.n seen d.M d.m
 N:=rT d.S d.n seen d.N d.q
 q:=OW seen d.N d.q
 L:=gK d.L d.a seen
 a:=vW d.L d.a seen
 C:=vQ d.L d.a d.C d.b seen
 b:=JM d.L d.a d.C d.b seen
 rs:=d.rs
 cu:=d.cu
def GZ(x:D6)(seen:List Key->Bool):D6:={lH x.d seen,x.br,x.ls.filter (cT x.ls)}
def Gz{seen:List Key->Bool}(h:LS x.ls)(z:Option UK):p6 (GZ x seen) z=p6 x z:=funext λp=>do(by cases z with|none|some z=>?_);2;¬(decide (z = "ann")||om x.br (x.ls.filter (cT x.ls)) z p)=_;[R9 h];2
section
variable {d:DZ}{seen:List Key->Bool}{p:List Key}(W:WS d.S d.n)(WM:WK d.S d.n d.M d.m)(WN:WK d.S d.n d.N d.q)(WLn:WL d.L d.a)(hp:seen p=true)
include W hp in
include WM in
theorem Sv(a:List Key->Option UK):(aQ (lH d seen).S (lH d seen).n p).map (lK (lH d seen) a p)=(aQ d.S d.n p).map (lK d a p):=by
 show(aQ (f' d.S d.n seen) (lsN d.S d.n seen) p).map _=_;rw[RS W hp,zx];refine z8 λi hi=>?_;have b:i∈aJ d.n (kS d.S seen):=pY W hp (qk.mp hi).1;show lK (lH d seen) a p (gS d.S d.n seen i)=_;unfold lK O1 cm;rw[show(lH d seen).S (gS d.S d.n seen i)=LB d.S d.n seen (d.S i) from fK b];have:=J4 W WM hp hi false;rw[show nU (lH d seen).M false (aB (lH d seen).S (lH d seen).n p) (aG (lH d seen).M (lH d seen).m p) ((aB (lH d seen).S (lH d seen).n p).idxOf (gS d.S d.n seen i))=_ from this];rfl
include W hp in
include WN in
theorem Bb:Ms (lH d seen) p=Ms d p:=Li W WN hp
include WLn hp in
theorem Rn:uR (lH d seen) p=uR d p:=by
 have nk:∀wy,(bf (gK d.L d.a seen) (vW d.L d.a seen) p wy).map (λi=>tD (cR (gK d.L d.a seen) i))=(bf d.L d.a p wy).map λi=>tD (cR d.L i):=λwy=>by
  rw[D4 WLn hp,zx];refine z8 λi hi=>?_;show tD (gK d.L d.a seen (gL d.L d.a seen i)).nk=_;rw[gR (x8 WLn hp (qk.mp hi).1)];rfl
 have wr:(bf (gK d.L d.a seen) (vW d.L d.a seen) p "row").map (Lm (lH d seen) p)=(bf d.L d.a p "row").map (Lm d p):=by
  rw[D4 WLn hp,zx];refine z8 λi hi=>?_;show PyData.list ((bf (gK d.L d.a seen) (vW d.L d.a seen) p "column").map λc=>.str (jN (vQ d.L d.a d.C d.b seen) (JM d.L d.a d.C d.b seen) p (cR (gK d.L d.a seen) (gL d.L d.a seen i)) (cR (gK d.L d.a seen) c)))=PyData.list ((bf d.L d.a p "column").map λc=>.str (jN d.C d.b p (cR d.L i) (cR d.L c)));rw[D4 WLn hp,zx]
  congr 1
  refine z8 λc e=>?_;show PyData.str (jN _ _ p (gK d.L d.a seen (gL d.L d.a seen i)).nk (gK d.L d.a seen (gL d.L d.a seen c)).nk)=_;rw[gR (x8 WLn hp (qk.mp hi).1),gR (x8 WLn hp (qk.mp e).1)];show PyData.str (jN _ _ p (cR d.L i) (cR d.L c))=_;rw[Sq hp (IP WLn hi) (IP WLn e)]
 show PyData.tuple [.list ((bf (gK d.L d.a seen) (vW d.L d.a seen) p "row").map λi=>tD (cR (gK d.L d.a seen) i)),.list ((bf (gK d.L d.a seen) (vW d.L d.a seen) p "column").map λi=>tD (cR (gK d.L d.a seen) i)),.list ((bf (gK d.L d.a seen) (vW d.L d.a seen) p "row").map (Lm (lH d seen) p))]=_;rw[nk,nk,wr];rfl
include W WM WN WLn hp in
theorem Ks(op:List Key->Bool)(a:List Key->Option UK)(z:UK):rH (lH d seen) op a (p,z)=rH d op a (p,z):=by
 unfold rH Fo Ep DC;rw[Sv W WM hp,Bb W WN hp,Rn WLn hp]
end
def cx{n k:Nat}{seen:Nat->Bool}(h:k<(aJ n seen).length):dX n seen k<n:=(cV.mp (ov h)).1
def sT{seen:Nat->Bool}:(aJ n seen).length<=n:=do this:=wg seen (List.range n);this<-[zg];this
def um{seen:Nat->Bool}(h:AN P us (aJ n seen))(f:∀v i,i∈aJ n seen->P v i->P' v (dj n seen i)):AN P' us (List.range (aJ n seen).length):=do _;{h.1.trans zg.symm,λm v k c a=>?_};b:m<(aJ n seen).length:=(do g||g:=yz m (aJ n seen).length;g;a<-[ww (do[zg];g)];-a);a<-[yg b];-a;d:(aJ n seen)[m]?=!(dX n seen m):=(do@dX;[ze,qe b];2);this:=f _ _ (ov b) (h.2 m v _ c d);this<-[jT b];this
section
variable {S:Nat->Sg}{n:Nat}{seen:List Key->Bool}
def Me(W:WS S n):WS (f' S n seen) (lsN S n seen) where
 bY:=qf sT W.bY
 up i j h hj:=W.up _ _ (jW h hj) (cx hj)
 inj i hi j hj e:=by rw[←jT hi,←jT hj,W.inj _ (cx hi) _ (cx hj) e]
 back i hi j e:=by
  have e:(S (dX n (kS S seen) i)).bh.map (gS S n seen)=!j:=e;obtain⟨a,h0,rfl⟩:=wu.mp e;obtain⟨h1,h2⟩:=W.back _ (cx hi) a h0;have c:=ov hi
  have b:a∈aJ n (kS S seen):=cV.mpr {yy h1 (cx hi),by
   have:=(cV.mp c).2;unfold kS at this ⊢
   rw[h2];exact this}
  refine{?_,?_}
  .rcases yz (gS S n seen a) i with g|g
   .exact g
   .exfalso
    have q:dX n (kS S seen) (gS S n seen a)=a:=cA b;rcases ub g with z|z
    .rw[←z]at q;omega
    .have:=jW z (ug b)
     rw[q]at this;omega
  .rw[fK b];exact h2
 lay i hi:=W.lay _ (cx hi)
 sgn i hi:=W.sgn _ (cx hi)
def HE(hp:seen p=true)(h:dC S n p d):dC (f' S n seen) (lsN S n seen) p (tM (gS S n seen) d):=λi b e=>do(by cases d with|none|some x=>?_);-e;{j,c}:=x;e:some (gS S n seen j,c)=!(i,b):=e;{h1,h2}:=h j c rfl;{rfl,rfl}:=Prod.mk.inj (qJ e);a:j∈aJ n (kS S seen):=cV.mpr {h1,do@kS;[h2];hp};{ug a,do[fK a];h2}
def zK(WM:WK S n M m)(a:∀i,P i=true->seen (M i).pt=true):WK (f' S n seen) (lsN S n seen) (λk=>vT S n seen (M (dX m P k))) (aJ m P).length where
 bY:=qf sT WM.bY
 up i j h hj:=WM.up _ _ (jW h hj) (cx hj)
 sd i hi:={HE (a _ (cV.mp (ov hi)).2) (WM.sd _ (cx hi)).1,HE (a _ (cV.mp (ov hi)).2) (WM.sd _ (cx hi)).2}
 lay i hi:=WM.lay _ (cx hi)
def Nc(W:WS S n)(hi:i∈aJ n (kS S seen))(h:SN S H v i):SN (f' S n seen) H v (dj n (kS S seen) i):=do _;{b,o,vn,d,kq,vs,e,h1,h2,m,a,l,q}:=h;g:f' S n seen (dj n (kS S seen) i)=LB S n seen (S i):=fK hi;{b,o,vn,d,kq,vs,e,do[g];h1,do[g];h2,?_,?_,do[g];l,do[g];q};¬GK H (.tup (f' S n seen (dj n (kS S seen) i)).nk) vn;[g];m;this:pT (f' S n seen) (dj n (kS S seen) i)=(S i).bh.map (gS S n seen):=(do¬(f' S n seen (dj n (kS S seen) i)).bh=_;[g];2);[this];(by cases c:(S i).bh with|none|some j=>?_);this:pT S i=none:=c;a<-[this];a;this:pT S i=!j:=c;a<-[this];{f,p}:=W.back i (cV.mp hi).1 j c;k:j∈aJ n (kS S seen):=cV.mpr {yy f (cV.mp hi).1,do this:=(cV.mp hi).2;(by unfold kS at this ⊢);[p];this};¬GK H (.tup (f' S n seen (gS S n seen j)).nk) d;[fK k];a
def xf(hp:seen p=true)(o:dC S n p d)(h:nc S H d v):nc (f' S n seen) H (tM (gS S n seen) d) v:=do(by cases d with|none|some x=>?_);h;{j,c}:=x;{a,vn,e,h1,h2}:=h;{g,b}:=o j c rfl;f:j∈aJ n (kS S seen):=cV.mpr {g,do@kS;[b];hp};{a,vn,e,h1,?_};¬GK H (.tup (f' S n seen (gS S n seen j)).nk) vn;[fK f];h2
def MR(WM:WK S n M m)(g:∀i,P i=true->seen (M i).pt=true)(hi:i∈aJ m P)(h:MN S M H v i):MN (f' S n seen) (λk=>vT S n seen (M (dX m P k))) H v (dj m P i):=do _;{b,f,j,q,vn,kq,e,h1,h2,d,o,c,l}:=h;{p,a}:=WM.sd i (cV.mp hi).1;hp:=g i (cV.mp hi).2;{b,f,j,q,vn,kq,e,do[cA hi];h1,do[cA hi];h2,do[cA hi];xf hp p d,do[cA hi];xf hp a o,do[cA hi];c,do[cA hi];l}
end
section
variable {L:Nat->Ln}{a:Nat}{C:Nat->Ce}{b:Nat}{seen:List Key->Bool}
def MI(W:WL L a):WL (gK L a seen) (vW L a seen) where
 bY:=qf sT W.bY
 up i j h hj:=W.up _ _ (jW h hj) (cx hj)
 inj i hi j hj e:=by rw[←jT hi,←jT hj,W.inj _ (cx hi) _ (cx hj) e]
 back i hi j e:=by
  have e:(L (dX a (kL L seen) i)).bh.map (gL L a seen)=!j:=e;obtain⟨b,h0,rfl⟩:=wu.mp e;obtain⟨h1,h2,f⟩:=W.back _ (cx hi) b h0;have d:=ov hi
  have c:b∈aJ a (kL L seen):=cV.mpr {yy h1 (cx hi),by
   have:=(cV.mp d).2;unfold kL at this ⊢
   rw[h2];exact this}
  refine{?_,?_,?_}
  .rcases yz (gL L a seen b) i with g|g
   .exact g
   .exfalso
    have q:dX a (kL L seen) (gL L a seen b)=b:=cA c;rcases ub g with z|z
    .rw[←z]at q;omega
    .have:=jW z (ug c)
     rw[q]at this;omega
  .rw[gR c];exact h2
  .rw[gR c];exact f
 lay i hi:=W.lay _ (cx hi)
 wy i hi:=W.wy _ (cx hi)
def Gk(W:G2 C b):G2 (vQ L a C b seen) (JM L a C b seen) where
 bY:=qf sT W.bY
 up i j h hj:=W.up _ _ (jW h hj) (cx hj)
 lay i hi:=W.lay _ (cx hi)
 wd i hi:=W.wd _ (cx hi)
def Cc(W:WL L a)(hi:i∈aJ a (kL L seen))(h:iV L H v i):iV (gK L a seen) H v (dj a (kL L seen) i):=do _;{b,o,vn,f,kq,e,h1,h2,n,c,m}:=h;g:gK L a seen (dj a (kL L seen) i)=NF L a seen (L i):=gR hi;{b,o,vn,f,kq,e,do[g];h1,do[g];h2,?_,?_,do[g];m};¬GK H (.tup (gK L a seen (dj a (kL L seen) i)).nk) vn;[g];n;this:oI (gK L a seen) (dj a (kL L seen) i)=(L i).bh.map (gL L a seen):=(do¬(gK L a seen (dj a (kL L seen) i)).bh=_;[g];2);[this];(by cases d:(L i).bh with|none|some j=>?_);this:oI L i=none:=d;c<-[this];c;this:oI L i=!j:=d;c<-[this];{k,p,_}:=W.back i (cV.mp hi).1 j d;l:j∈aJ a (kL L seen):=cV.mpr {yy k (cV.mp hi).1,do this:=(cV.mp hi).2;(by unfold kL at this ⊢);[p];this};¬GK H (.tup (gK L a seen (gL L a seen j)).nk) f;[gR l];c
def Ef(hi:i∈aJ b (kC L a C seen))(h:gP C H v i):gP (vQ L a C b seen) H v (dj b (kC L a C seen) i):=do g:vQ L a C b seen (dj b (kC L a C seen) i)=C i:=(do¬C (dX b (kC L a C seen) (dj b (kC L a C seen) i))=_;[cA hi]);(by unfold gP at h ⊢);[g];h
end
section
variable {S:Nat->Sg}{n:Nat}{seen:List Key->Bool}
def J6(WM:WK S n M m)(g:∀i,P i=true->seen (M i).pt=true)(hi:i∈aJ m P)(h:NN S M H v i):NN (f' S n seen) (λk=>vT S n seen (M (dX m P k))) H v (dj m P i):=do _;{b,f,j,q,vn,kq,e,h1,h2,d,o,c,l}:=h;{p,a}:=WM.sd i (cV.mp hi).1;hp:=g i (cV.mp hi).2;{b,f,j,q,vn,kq,e,do[cA hi];h1,do[cA hi];h2,do[cA hi];xf hp p d,do[cA hi];xf hp a o,do[cA hi];c,do[cA hi];l}
end
def GC(h1:Rd H a (.dK c))(h2:Rd H a (.dK b)):c=b:=by rcases h1 with e|⟨o,e⟩ <;> rcases h2 with e'|⟨o',e'⟩ <;> rw[e]at e' <;> cases e' <;> rfl
def F6.cn(h:F6 H fa F x):∃e cv,H (F 6)=!(.lst e)/\AN (iV x.d.L H) e (List.range x.d.a)/\WL x.d.L x.d.a/\H (F 7)=!(.lst cv)/\AN (gP x.d.C H) cv (List.range x.d.b)/\G2 x.d.C x.d.b:=do _;{kvs,v,vs,w,cs,o,t,m,g,p,u,k,l,i}:=h.fz.tb;s:lh H fa F:=h.dk;{j,r,q}:=s;n:=GC o r;!n;f:=q 6 ⋯;f<-[show kN 6=.inr "lines" from rfl,t];-f;c:=q 7 ⋯;c<-[show kN 7=.inr "cells" from rfl,u];-c;⟨vs,cs,m,g,p,k,l,i⟩
structure LK(R:Nat->List V->Prop)(H Z:Hp)(dx:UJ)(js:List Nat)(A:Nat->UJ)(xs:Nat->List V):Prop where
 pr:∀i∈js,R i (xs i)
 ed:Z dx=!(.dK (js.map λi=>(kN i,V.ref (A i))))
 hd:H dx=none
 nw:∀i∈js,H (A i)=none/\A i≠dx
 at_:∀i∈js,Z (A i)=!(.lst (xs i))
 inj:∀i∈js,∀j∈js,A i=A j->i=j
 lt:∀i∈js,i<9
 sm:ag H Z
theorem HY{A:Nat->UJ}{i:Nat}(hi:i<9):∀{js:List Nat},(∀j∈js,j<9)->i∉js->bJ (js.map λi=>(kN i,V.ref (A i))) (kN i)=none|[],_,_=>rfl|j::js,hl,h=>do b:¬kN j=kN i:=λz=>h (do[xE _ (hl j qi) _ hi z];qi);[zm,fO b];HY hi (λk a=>hl k (qm _ a)) λz=>h (qm _ z)
theorem M6{A:Nat->UJ}{i:Nat}(hi:i<9):∀{js:List Nat},(∀j∈js,j<9)->i∈js->bJ (js.map λi=>(kN i,V.ref (A i))) (kN i)=!(.ref (A i))|j::js,hl,h=>do[zm];z<|kN j=kN i;[f7 z,xE _ (hl j qi) _ hi z];[fO z];M6 hi (λk a=>hl k (qm _ a)) ?_;rfl||h:=qt.mp h;absurd rfl z;h
def LK.same(h:LK R H Z dx js A xs)(s:ag Z a):LK R H a dx js A xs := {h.pr,s _ _ h.ed,h.hd,h.nw,λi hi=>s _ _ (h.at_ i hi),h.inj,h.lt,h.sm.trans s}
def LK.put(h:LK R H Z dx js A xs)(hi:i<9)(hn:i∉js)(w:js.length<=9)(s:ag Z o)(m:Z l=none)(e:o l=!(.lst ys))(r:R i ys) : ∃p,lP o dx (kV (kN i)) (.ref l) p/\LK R H p dx (js++[i]) (λk=>if k=i then l else A k) (λk=>if k=i then ys else xs k)/\∀b,b≠dx->p b=o b:=do h1:=h.same s;q:l≠dx:=λz=>(do m<-[z,h.ed];-m);u:∀k∈js,A k≠l:=λk c z=>(do this:=h.at_ k c;this<-[z,m];-this);g:(js.map λi=>(kN i,V.ref (A i))).length<sizeLine:=cH (do[qh];());v:(js.map λi=>(kN i,V.ref (A i)))++[(kN i,V.ref l)]=(js++[i]).map λk=>(kN k,V.ref (if k=i then l else A k)):=(do[zy];(by congr 1);z8 λk c=>?_;[qB λz=>hn (do[<-z];c)];¬[(kN i,V.ref l)]=[(kN i,V.ref (if i=i then l else A i))];[qE rfl]);{_,lP.k h1.ed g,{λk c=>?_,?_,h.hd,λk c=>?_,λk c=>?_,λa t b n z=>?_,λk c=>?_,?_},λb n=>az n};z<|k=i;[qE z,z];r;[qB z];h.pr k ((qz.mp c).resolve_right λy=>z (qo.mp y));[Fn _ (HY hi h.lt hn),v];aF;z<|k=i;[qE z];{h.sm.free m,q};[qB z];h.nw k ((qz.mp c).resolve_right λy=>z (qo.mp y));z<|k=i;[qE z,qE z,az q];e;j:=(qz.mp c).resolve_right λy=>z (qo.mp y);[qB z,qB z,az (h.nw k j).2];h1.at_ k j;z:(if a=i then l else A a)=if b=i then l else A b:=z;f<|a=i;d<|b=i;[f,d];z<-[qE f,qB d];absurd z.symm (u b ((qz.mp n).resolve_right λy=>d (qo.mp y)));d<|b=i;z<-[qB f,qE d];absurd z (u a ((qz.mp t).resolve_right λy=>f (qo.mp y)));z<-[qB f,qB d];h.inj a ((qz.mp t).resolve_right λy=>f (qo.mp y)) b ((qz.mp n).resolve_right λy=>d (qo.mp y)) z;y||y:=qz.mp c;h.lt k y;[qo.mp y];hi;h1.sm.wr h.hd
def LK.dk(h:LK R H Z dx js A xs)(all:∀i,i<9->i∈js):lh Z dx A:={_,.inl h.ed,λi hi=>M6 hi h.lt (all i hi)}
def jH(R:Nat->List V->Prop)(H Z:Hp)(dx:UJ)(js:List Nat):Prop:=∃A xs,LK R H Z dx js A xs
theorem jH.same(h:jH R H Z dx js)(s:ag Z a):jH R H a dx js:=let⟨A,xs,h⟩:=h;{A,xs,h.same s}
theorem jH.sm(h:jH R H Z dx js):ag H Z:=let⟨_,_,h⟩:=h;h.sm
theorem jH.put(h:jH R H Z dx js)(hi:i<9/\i∉js/\js.length<=9)(s:ag Z c)(d:c l=none)(r:R i ys) : ∃a,lP (upd c l (.lst ys)) dx (kV (kN i)) (.ref l) a/\jH R H a dx (js++[i])/\∀b,b≠dx->b≠l->a b=c b:=do _;{A,xs,h}:=h;{a,f,k,e}:=(h.same s).put hi.1 hi.2.1 hi.2.2 (ag.new d) d aF r;{a,f,{_,_,k},λb n m=>(e b n).trans (az m)}
def jH.Od(h:jH R H Z dx js)(hi:i<9/\i∉js/\js.length<=9)(s:ag Z c)(d:Z l=none)(e:c l=!(.lst ys))(r:R i ys) : ∃a,lP c dx (kV (kN i)) (.ref l) a/\jH R H a dx (js++[i])/\∀b,b≠dx->a b=c b:=do _;{A,xs,h}:=h;{a,f,k,n}:=h.put hi.1 hi.2.1 hi.2.2 s d e r;{a,f,{_,_,k},n}
def KR(H:Hp)(F:Nat->UJ)(x:D6)(seen:List Key->Bool):Nat->List V->Prop| 3,us=>AN (SN x.d.S H) us (aJ x.d.n (kS x.d.S seen))| 4,us=>AN (MN x.d.S x.d.M H) us (aJ x.d.m (kM x.d.S x.d.n seen x.d.M))| 5,us=>AN (NN x.d.S x.d.N H) us (aJ x.d.q (pE seen x.d.N))| 6,us=>AN (iV x.d.L H) us (aJ x.d.a (kL x.d.L seen))| 7,us=>AN (gP x.d.C H) us (aJ x.d.b (kC x.d.L x.d.a x.d.C seen))| 8,us=>AL (LX H) us (x.ls.filter (cT x.ls))|i,us=>H (F i)=!(.lst us)
structure Q8(H:Hp)(n:Nat)(P:V->Nat->Prop)(pt:Nat->List Key)(vs:List V):Prop where
 al:AN P vs (List.range n)
 bY:n<=1400
 row:∀v i,i<n->P v i->∃b vp r,v=.ref b/\H b=!(.tup (vp::r))/\GK H (.tup (pt i)) vp/\Lay (pt i)
def Q8.len{pt:Nat->List Key}(h:Q8 H n P pt vs):vs.length<=1400:=do[h.al.1,zg];h.bY
def F6.rows{seen:List Key->Bool}(h:F6 H fa F x)(f:[V.str "signs",.str "notes",.str "lines"][j]?=!y):∃(c n:Nat) (P:V->Nat->Prop) (pt:Nat->List Key) (vs:List V),(c<9/\c∉[0,1,2]++[3,5,6].take j/\([0,1,2]++[3,5,6].take j).length<=9)/\[0,1,2]++[3,5,6].take (j+1)=[0,1,2]++[3,5,6].take j++[c]/\y=kV (kN c)/\H (F c)=!(.lst vs)/\Q8 H n P pt vs/\∀us,AN P us ((List.range n).filter λi=>seen (pt i))->KR H F x seen c us:=do _;{w,mv,t,fs}:=h.fz.fs;{p,cv,s,u,wl,_}:=h.cn;by match j,f with| 0,f=>cases f;exact{3,x.d.n,SN x.d.S H,λi=>(x.d.S i).pt,w,⋯,O,O,fs.sl,{fs.sa,fs.ws.bY,λv i hi g=>do _;{b,l,vn,o,kq,r,e,m,k,_}:=g;{b,l,_,e,m,k,(fs.ws.lay i hi).2}},λ_ h=>h}| 1,f=>cases f;exact{5,x.d.q,NN x.d.S x.d.N H,λi=>(x.d.N i).pt,t,⋯,O,O,fs.nl,{fs.na,qf fs.wn.bY ⋯,λv i hi g=>do _;{b,l,o,z,vn,kq,e,m,k,_}:=g;{b,l,_,e,m,k,(fs.wn.lay i hi).1}},λ_ h=>h}| 2,f=>cases f;exact{6,x.d.a,iV x.d.L H,λi=>(x.d.L i).pt,p,⋯,O,O,s,{u,qf wl.bY ⋯,λv i hi g=>do _;{b,l,vn,o,kq,e,m,k,_}:=g;{b,l,_,e,m,k,(wl.lay i hi).2}},λ_ h=>h}|_+3,f=>cases f
def LX.lr(h:LX H v l):LR H v:=let⟨b,a,c,h⟩:=h;{(l.ka,l.kb),b,a,l.pt,l.hd,l.to,l.ys,c,h}
def HR{seen:List Key->Bool}(h:F6 H fa F x)(c:jH (KR H F x seen) H Z dx js)(o:∀i,i<9->i∈js):∃G,F6 Z dx G (GZ x seen):=do _;{G,zs,c}:=c;t:=c.sm.af;r:=λi hi=>c.pr i (o i hi);e:=λi hi=>c.at_ i (o i hi);dk:=c.dk o;inj:∀i,i<9->∀j,j<9->G i=G j->i=j:=λi hi j E=>c.inj i (o i hi) j (o j E);{xs,ms,ns,fs}:=h.fz.fs;{bs,es,cs,k,g,J,B}:=h.fz.fb;{kvs,Y,vs,ca,W,t1,t2,X,t4,D,t6,t7,t8,T}:=h.fz.tb;{w,K,U}:=h.eb;A:H (F 0)=!(.lst (zs 0)):=r 0 ⋯;s:AL (LX Z) (zs 8) (x.ls.filter (cT x.ls)):=AL.imp (r 8 ⋯) λv l g=>LX.af g t;f:(x.ls.filter (cT x.ls)).length<=45:=qf (wg _ _) h.ll;z:∀i,kM x.d.S x.d.n seen x.d.M i=true->seen (x.d.M i).pt=true:=λi h=>((zn _ _).mp h).1;P:AN (SN x.d.S Z) (zs 3) (aJ x.d.n (kS x.d.S seen)):=AN.imp (r 3 ⋯) λv i g=>SN.af g t;O:AN (MN x.d.S x.d.M Z) (zs 4) (aJ x.d.m (kM x.d.S x.d.n seen x.d.M)):=AN.imp (r 4 ⋯) λv i g=>MN.af g t;I:AN (NN x.d.S x.d.N Z) (zs 5) (aJ x.d.q (pE seen x.d.N)):=AN.imp (r 5 ⋯) λv i g=>NN.af g t;V:AN (iV x.d.L Z) (zs 6) (aJ x.d.a (kL x.d.L seen)):=AN.imp (r 6 ⋯) λv i g=>iV.af g t;R:AN (gP x.d.C Z) (zs 7) (aJ x.d.b (kC x.d.L x.d.a x.d.C seen)):=AN.imp (r 7 ⋯) λv i g=>gP.af g t;{G,{{zs 3,zs 4,zs 5,dk,inj,λi h1 _ _ _=>{_,e i h1},e 3 ⋯,um P λv i hi g=>Nc fs.ws hi g,Me fs.ws,e 4 ⋯,um O λv i hi g=>MR fs.wm z hi g,zK fs.wm z,e 5 ⋯,um I λv i hi g=>J6 fs.wn (λ_ h=>h) hi g,zK fs.wn λ_ h=>h},qf sT h.fz.hm,{bs,es,cs,k,{dk,inj,λi h1 _=>{_,e i h1},(e 0 ⋯).trans (A.symm.trans g.eb),(e 1 ⋯).trans (Eq.trans (Eq.symm (r 1 ⋯)) g.ev),(e 2 ⋯).trans (Eq.trans (Eq.symm (r 2 ⋯)) g.ec),g.fi.af t},J,B},{zs 8,e 8 ⋯,λy Q=>?_,?_},?_,λi hi=>h.fz.sg _ (cx hi)},{w,(e 0 ⋯).trans (A.symm.trans K),U.imp λv i g=>BP.af g t},{zs 8,e 8 ⋯,s},h.nb,h.lb,h.ls.filter _,f};{l,B,p}:=s.mem Q;p.lr;[s.1];f;{u,r,q}:=dk;{u,G 6,zs 6,G 7,zs 7,r,q 6 ⋯,e 6 ⋯,um V λv i hi g=>Cc D hi g,MI D,q 7 ⋯,e 7 ⋯,um R λv i hi g=>Ef hi g,Gk T}
inductive EC(vs:List V)(H:Hp)(Q:VK)(_:XK):Prop
 |mk(fa F bs es cs rs cu k:_)(h0:vs=[.ref fa])(h1:FB H fa F bs es cs rs cu k)(h2:k<=63)(h3:(tl rs).length<=62)(h4:eJ H)(h5:MA H)(h6:∀H' q ws ls,ag (cg H s2) H'->eJ H'->H q=none->H' q=!(.lst ws)->AL (fh H') ws ls->ls.length<=63->(∀a∈ls,Pn a)->(∃zs g,yP rs cu zs g/\∀a,a∈ls↔g a=!true)->Q (.ref q) H')
inductive iG(vs:List V)(H:Hp)(Q:VK)(_:XK):Prop
 |mk(fa F:_)(d:DZ)(v:V)(i:Nat)(h0:vs=[.ref fa,v])(h1:FZ H fa F d)(h2:MN d.S d.M H v i)(hi:i<d.m)(h3:∀H',ag H H'->Q (.bl (not (c7 d.S (aB d.S d.n (d.M i).pt) (d.M i).b (d.M i).e).isEmpty)) H')
inductive eQ(vs:List V)(H:Hp)(Q:VK)(_:XK):Prop
 |mk(fa F:_)(x:D6)(v:V)(l:Lf)(h0:vs=[.ref fa,v])(h1:F6 H fa F x)(h2:LX H v l)(h3:∀H',ag H H'->Q (.bl (cT x.ls l)) H')
def cD(ls:List (List Key))(p:List Key):Bool:=Ez p ls
inductive lF(vs:List V)(H:Hp)(Q:VK)(_:XK):Prop
 |mk(fa F:_)(x:D6)(h0:vs=[.ref fa])(h1:F6 H fa F x)(h2:eJ H)(h3:MA H)(h4:∀H' fb G ls,ag (cg H s2) H'->eJ H'->(∃zs g,yP x.d.rs x.d.cu zs g/\∀a,a∈ls↔g a=!true)->F6 H' fb G (GZ x (cD ls))->Q (.ref fb) H')
def SI(a b c d:Int):bN (.tuple [.int a,.int b]) (.tuple [.int c,.int d])=decide (a<c\/(a=c/\b<d)):=do[yk,decide_eq_true_iff];{λh=>?_,λh=>gT h};e<|a=c;!e;f<|b<d;.inr {O,f};(by exfalso);h<-[bN,bF,qE (do#[PyData.eqv]),bF];(by split at h);h<-[bF];-h;h<-[bN,decide_eq_true_iff];f h;h<-[bN,bF,qB (do#[PyData.eqv,e])];h<-[bN,decide_eq_true_iff];.inl h
def TY(c:Lay a)(e:PyData.strOk h=true)(lt:PyData.strOk t=true):mY 2 (.tuple [tD a,.str h,.str t]):=l8 λd b=>do(by ac_nf at b);rfl||rfl||rfl:=b;uo c;jQ e;jQ lt
def Ul(a b:List Key)(h t h' t':UK):PyData.eqv (.tuple [tD a,.str h,.str t]) (.tuple [tD b,.str h',.str t'])=decide (a=b/\h=h'/\t=t'):=do n:∀(c:List Key) (x y:UK),fQ (.tuple [tD c,.str x,.str y])=true:=λc x y=>(do[fQ];nY λd e=>?_;(by ac_nf at e);rfl||rfl||rfl:=e;kO _;2;2);[yk,tJ _ _ (n _ _ _) (n _ _ _),decide_eq_true_eq];1;(z);(by injection z with z;injection z with z1 z;injection z with z2 z;injection z with z3 _;injection z2 with z2;injection z3 with z3);{Gs z1,z2,z3};({rfl,rfl,rfl});2
def Mw(h:gX ys a≠none):a∈ys.map (·.pt):=do(by unfold gX at h;cases q:fX ys a with|none|some x=>?_);h<-[q];absurd rfl h;qc.mpr {x,ph q}
def L0(h:pj ys j f):∀{a:List Key},f a=!true->a=aZ\/a∈ys.map (·.pt):=do(by induction h with|z|@s j f x ini las h e w g=>?_);(a,h);h:(if a=aZ then some true else none)=!true:=h;e<|a=aZ;.inl e;h<-[qB e];-h;(a,h);h:(if qW (ini++[las]) a=true then some ((f las).getD false) else f a)=!true:=h;c<|qW (ini++[las]) a=true;h<-[qE c];hi||hl:=qz.mp (wW.mp c);.inr (Mw (w.zV hi));[qo.mp hl];g ?_;(by cases d:f las with|none|some b=>?_);h<-[d];-h;h<-[d];h;h<-[qB c];g h
def LQ(h:pj ys j f)(W:ZW ys)(b:f a=!true):Pn a:=do e||e:=L0 h b;.inl e;{x,c,rfl}:=qc.mp e;.inr (W.pt x c)
def tV:(if false=true then not ((ls.map tD).any λd=>PyData.eqv d (tD p)) else(ls.map tD).any (λd=>PyData.eqv d (tD p)))=cD ls p:=do¬(ls.map tD).any (λd=>PyData.eqv d (tD p))=ls.any λy=>decide (y=p);[List.any_map];congrArg (λf=>ls.any f) (funext λy=>fH y p)
def xc{seen:Nat->Bool}(e:AN P vs (List.range n))(d:vs[j]?=!y)(a:AN R us (((List.range n).take j).filter seen)):∃i,i<n/\P y i/\(seen i=true->∀{u:V},R u i->AN R (us++[u]) (((List.range n).take (j+1)).filter seen))/\(seen i=false->AN R us (((List.range n).take (j+1)).filter seen)):=do _;{i,b,c}:=e.at d;tk:(List.range n).take (j+1)=(List.range n).take j++[i]:=(do[qy,b];2);[tk];{i,qj.mp (qu b),c,λh _ g=>AN.pick (vs:=vs) a g h,λh=>a.skip (by rw[h];decide)}
def Gd.ok(h:Gd zs G z p):PyData.strOk z=true:=do(by induction h with|main|sub _ _ _ hi a=>?_;decide +kernel);ER a ()
mutual
theorem pQ(k:∀b o,H b=!o->(∀ps,o≠.cn ps)->H' b=!o):∀{x:V} {d:UI},DV H x d->DV H' x d
 |_,_,.aV=>.aV
 |_,_,.bl b=>.bl b
 |_,_,.int i=>.int i
 |_,_,.str z=>.str z
 |_,_,.lst h t=>.lst (by
   rcases h with h|⟨o,h⟩
   .exact .inl (k _ _ h λ_ z=>nomatch z)
   .exact .inr ⟨o,k _ _ h λ_ z=>nomatch z⟩) (EB k t)
 |_,_,.tup h t=>.tup (by
   rcases h with h|⟨o,h⟩
   .exact .inl (k _ _ h λ_ z=>nomatch z)
   .exact .inr ⟨o,k _ _ h λ_ z=>nomatch z⟩) (EB k t)
theorem EB(k:∀b o,H b=!o->(∀ps,o≠.cn ps)->H' b=!o):∀{xs:List V} {ds:List UI},dV H xs ds->dV H' xs ds
 |_,_,.nil=>.nil
 |_,_,.cons h t=>.cons (pQ k h) (EB k t)
end
def EN.kp(h:EN d op a H v e)(k:∀b o,H b=!o->(∀ps,o≠.cn ps)->H' b=!o):EN d op a H' v e:=do _;{b,g,m,l,f,h1,h2,i,n,c,j}:=h;t:aj H H':=λb xs e=>k _ _ e λ_ z=>nomatch z;{b,g,m,l,f,h1,t _ _ h2,i.af t,pQ k n,pQ k c,pQ k j}
def Nums.T5(h:Nums d op a)(W:XW (tl d.rs))(h':Nums d op b):a=b:=do _;{zs,g,h1,h2}:=h;{f,g',c,e}:=h';{rfl,rfl}:=h1.eq W c;h2.eq e
theorem Nums.ok(h:Nums d op a)(W:XW (tl d.rs)):∀e∈a,PyData.strOk e.2=true:=do _;{zs,g,h2,i}:=h;λe f=>(i.Ut (h2.1.zw W) (λc b=>do[qo.mp b];.main) e f).ok
def Qh(h:pj ys j f)(W:ZW ys):f aZ=!true:=do(by induction h with|z|@s j f x ini las h e w b=>?_);qE rfl;¬(if qW (ini++[las]) aZ=true then some ((f las).getD false) else f aZ)=_;a<|qW (ini++[las]) aZ=true;[qE a];hi||hl:=qz.mp (wW.mp a);absurd (Mw (w.zV hi)) W.main;[<-qo.mp hl,b];2;[qB a];b
theorem Wk.mem{st out:List (List Key×UK)}(h:Wk zs G op st out):∀e∈out,e∈st\/G e.1:=do(by induction h with|nil|@cons p z st l out o i w b|rB o w b=>?_);λ_ z=>nomatch z;(e,a);rfl||a:=qt.mp a;.inl qi;h||h:=b e a;h||h:=qz.mp h;{m,x,c,rfl}:=J0 h;.inr ((i.mem x).mp (qu c)).2.2;.inl (qm _ h);.inr h;(e,a);rfl||a:=qt.mp a;.inl qi;(b e a).imp (qm _) id
def Nums.seen{g:List Key->Option Bool}(h:Nums d op b)(W:XW (tl d.rs))(i:yP d.rs d.cu zs g)(c:∀a,a∈ls↔g a=!true):∀e∈b,cD ls e.1=true:=do _;{f,g',h1,h2}:=h;{rfl,rfl}:=i.eq W h1;(e,j);CA.mpr ((c _).mpr ?_);h||h:=h2.mem e j;[qo.mp h];Qh h1.2 ((h1.1.zw W).C3 _);h
def FZ.Rj(h:FZ H fa F d)(op:List Key->Bool)(hn:∀p z,a p=!z->PyData.strOk z=true)(hp:Pn x.1)(hz:PyData.strOk x.2=true):mY 6 (rH d op a x):=do y:=h.Py hn hp hz;(by cases o:op x.1 with|true|false=>?_);this:rH d op a x=DK d a x:=(by unfold rH DK Fo Ep DC;rw[o];rfl);[this];y;(by unfold rH Fo Ep DC);[o];l8 λd b=>?_;(by ac_nf at b);rfl||rfl||rfl||rfl||rfl:=b;jQ hz;(uo hp.lay).up ⋯;⟨O,q0 _⟩;⟨O,q0 _⟩;⟨O,q0 _⟩
def Qb(h:∀e∈a,PyData.strOk e.2=true)(p:List Key)(z:UK)(e:eH a p=!z):PyData.strOk z=true:=do(by unfold eH at e);{y,b,rfl}:=wu.mp e;h y (mz b)
def F1{H:Hp}{fa:UJ}{F:Nat->UJ}{x:D6}{seen:List Key->Bool}(h:F6 H fa F x){op:List Key->Bool}{a:List (List Key×UK)}(b:∀e∈a,seen e.1=true):a.map (rH (GZ x seen).d op (eH a))=a.map (rH x.d op (eH a)):=do _;{xs,ms,ns,fs}:=h.fz.fs;{_,_,_,_,wl,_}:=h.cn;z8 λe c=>Ks fs.ws fs.wm fs.wn wl (b e c) op (eH a) e.2
def CI:aA JH ["births","part"] (ah vC):=42
def D3:aA Jf ["leave"] (ah su):=42
def Fl:aA HW ["place"] (ah sy):=42
def Cr:aA yS ["facts","part"] (ah lS):=42
def F8:aA JL ["seats","side"] (ah uy):=42
def Bf:aA HU ["row"] (ah uu):=42
def GX:aA Kq ["mark"] (ah sV):=42
def D1:aA HQ ["note"] (ah uQ):=42
def xT:aA Ko ["facts"] (ah mQ):=42
def yL:aA MW ["outer_of","part","ended"] (ah vA):=42
def BX:aA KH ["cell"] (ah uL):=42
def EV:aA LU ["number","place"] (ah tj):=42
def BL:aA Js ["numbers","sign"] (ah uC):=42
def C0:aA KU ["_law_script","_law_k"] (ah uq):=42
def DY:aA ME ["_law_cell","_law_digits"] (ah sP):=42
def L8:aA KP ["_law_drawn_here","_law_many"] (ah uA):=42
def Fg:aA zW ["_law_facts_here","_law_row"] (ah lO):=42
def J_:aA Ka ["seats","begin","end"] (ah r_):=42
def pU:aA JY ["outer_of"] (ah uY):=42
def gG:aA IA ["_law_drawn_here","_law_facts_here","_law_roll"] (ah oN):=42
def IJ:aA JK ["_law_drawn_here","_law_known"] (ah sJ):=42
def D9:aA HV ["_law_drawn_here","_law_names"] (ah rZ):=42
def fT:aA Ni ["_law_drawn_here","_law_facts_here","_law_roll","_law_known"] (ah oM):=42
def rY:aA MB ["_law_drawn_here","_law_facts_here","_law_roll","_law_known"] (ah pN):=42
def E_:aA Lg ["leaves","hand","to"] (ah sj):=42
def CO:aA Mu ["places"] (ah tO):=42
def rO:aA yR ["facts","part","row"] (ah mS):=42
def ET:aA HH ["telling","parts"] (ah sF):=42
def wC:aA K3 ["facts","stands"] (ah lL):=42
def Nk:aA Al ["facts","part"] (ah mL):=42
def lR:aA Kt ["_law_drawn_here","_law_facts_here","_law_roll","_law_known"] (ah pA):=42
def k_:aA LO ["_law_drawn_here","_law_facts_here","_law_roll","_law_names"] (ah pH):=42
def Gr:aA LP ["leaves","chain","hand","to"] (ah vB):=42
def tE:aA Ld ["places"] (ah sM):=42
def n_:aA HC ["telling"] (ah uw):=42
def qX:aA M_ ["_law_script","_law_roll"] (ah oP):=42
def MF:aA MH ["roll","births","leaves","hand","part","to"] (ah uS):=42
def Ge:aA Hj ["facts","part"] (ah t_):=42
def uj:aA HK ["telling"] (ah tP):=42
def BE:aA Ab ["facts","part","way"] (ah jY):=42
def JZ:aA Ak ["facts","part"] (ah oE):=42
def FY:aA M' ["facts","part","begin","end"] (ah uT):=42
def Bt:aA KQ ["facts"] (ah oF):=42
def rN:aA zR ["facts","part"] (ah oV):=42
def GY:aA LI ["facts","roll","hand","part"] (ah pf):=42
def nK:aA zA ["facts","part","place"] (ah jK):=42
def nL:aA Ay ["facts","part"] (ah jS):=42
def Bc:aA IQ ["facts"] (ah uh):=42
def rL:aA K2 ["facts"] (ah u_):=42
def KL:aA AU ["_law_facts_here","_law_row"] (ah oQ):=42
def E1:aA Mx ["facts","part"] (ah uk):=42
def oj:aA KJ ["facts","roll","hand"] (ah pF):=42
def qS:aA mB ["_law_facts_here"] (ah gN):=42
def F':aA sr ["facts","part","numbers"] (ah jM):=42
def DB:aA IL ["facts","numbers","part","is_open"] (ah sN):=42
def CV:aA Kj ["facts","roll","hand"] (ah pL):=42
def uD:aA K6 ["_law_script"] (ah iu):=42
section
variable (P:Program)(w:World)(K:PySem.W.Frag)(mg:UK->Option MD)(base:Heap)
abbrev zS:Prop:=cM P w K mg base 1 "birth_chain" ["births","part"] BJ
abbrev zN:Prop:=cM P w K mg base 1 "key_of_leave" ["leave"] Fs
abbrev Ai:Prop:=cM P w K mg base 1 "key_of_place" ["place"] Be
abbrev uJ:Prop:=cM P w K mg base 1 "signs_in" ["facts","part"] Ed
abbrev AA:Prop:=cM P w K mg base 1 "place_of_side" ["seats","side"] Ea
abbrev mM:Prop:=cM P w K mg base 1 "seats_in" ["row"] CC
abbrev Aj:Prop:=cM P w K mg base 1 "key_of_mark" ["mark"] C'
abbrev AQ:Prop:=cM P w K mg base 1 "key_of_note" ["note"] Fc
abbrev vH:Prop:=cM P w K mg base 1 "telling_places" ["facts"] Cb
abbrev sQ:Prop:=cM P w K mg base 1 "way_out" ["outer_of","part","ended"] A_
abbrev zJ:Prop:=cM P w K mg base 1 "key_of_cell" ["cell"] Du
abbrev A0:Prop:=cM P w K mg base 1 "inner_number" ["number","place"] EX
abbrev As:Prop:=cM P w K mg base 1 "text_of_sign" ["numbers","sign"] DA
abbrev zH:Prop:=cM P w K mg base 1 "_law_cell_at" ["_law_script","_law_k"] gV
abbrev zX:Prop:=cM P w K mg base 1 "_law_drawn" ["_law_cell","_law_digits"] iT
abbrev gQ:Prop:=cM P w K mg base 1 "_law_draw" ["_law_drawn_here","_law_many"] kI
abbrev AC:Prop:=cM P w K mg base 1 "_law_last_leave" ["_law_facts_here","_law_row"] eQ
abbrev pO:Prop:=cM P w K mg base 2 "stretch" ["seats","begin","end"] A6
abbrev vF:Prop:=cM P w K mg base 2 "reaching_main" ["outer_of"] GD
abbrev zG:Prop:=cM P w K mg base 2 "_law_parts" ["_law_drawn_here","_law_facts_here","_law_roll"] iX
abbrev An:Prop:=cM P w K mg base 2 "_law_sign" ["_law_drawn_here","_law_known"] kA
abbrev AE:Prop:=cM P w K mg base 2 "_law_side" ["_law_drawn_here","_law_names"] kG
abbrev AZ:Prop:=cM P w K mg base 2 "_law_tables" ["_law_drawn_here","_law_facts_here","_law_roll","_law_known"] iy
abbrev AJ:Prop:=cM P w K mg base 2 "_law_leaves" ["_law_drawn_here","_law_facts_here","_law_roll","_law_known"] iC
abbrev AV:Prop:=cM P w K mg base 3 "told_leaves" ["leaves","hand","to"] Bs
abbrev Am:Prop:=cM P w K mg base 3 "followers_of" ["places"] Fp
abbrev AF:Prop:=cM P w K mg base 3 "telling_in_row" ["facts","part","row"] BA
abbrev Ap:Prop:=cM P w K mg base 3 "greatest_place" ["telling","parts"] Dq
abbrev sR:Prop:=cM P w K mg base 3 "shown_among" ["facts","stands"] GN
abbrev yW:Prop:=cM P w K mg base 3 "words_told" ["facts","part"] Dx
abbrev zL:Prop:=cM P w K mg base 3 "_law_signs" ["_law_drawn_here","_law_facts_here","_law_roll","_law_known"] iR
abbrev Ah:Prop:=cM P w K mg base 3 "_law_stretches" ["_law_drawn_here","_law_facts_here","_law_roll","_law_names"] fy
abbrev zB:Prop:=cM P w K mg base 4 "is_let" ["leaves","chain","hand","to"] Gi
abbrev uE:Prop:=cM P w K mg base 4 "ordered" ["places"] Gv
abbrev yZ:Prop:=cM P w K mg base 4 "turned_in" ["telling"] Ga
abbrev z_:Prop:=cM P w K mg base 4 "_law_facts" ["_law_script","_law_roll"] iQ
abbrev yY:Prop:=cM P w K mg base 5 "has_leave" ["roll","births","leaves","hand","part","to"] C7
abbrev mR:Prop:=cM P w K mg base 5 "row_of" ["facts","part"] B_
abbrev y_:Prop:=cM P w K mg base 5 "stood_in" ["telling"] C1
abbrev zY:Prop:=cM P w K mg base 5 "lines_of" ["facts","part","way"] Ft
abbrev mE:Prop:=cM P w K mg base 6 "living" ["facts","part"] Er
abbrev AG:Prop:=cM P w K mg base 6 "covered" ["facts","part","begin","end"] Bl
abbrev sh:Prop:=cM P w K mg base 6 "stands_in" ["facts"] EL
abbrev Ag:Prop:=cM P w K mg base 6 "table_of" ["facts","part"] GF
abbrev yV:Prop:=cM P w K mg base 6 "may_read" ["facts","roll","hand","part"] CU
abbrev zP:Prop:=cM P w K mg base 7 "told_of_signs" ["facts","part","place"] Fe
abbrev yQ:Prop:=cM P w K mg base 7 "notes_of" ["facts","part"] Gh
abbrev zM:Prop:=cM P w K mg base 7 "shown_parts" ["facts"] EC
abbrev zC:Prop:=cM P w K mg base 7 "all_inner_parts" ["facts"] GA
abbrev Au:Prop:=cM P w K mg base 7 "_law_covers" ["_law_facts_here","_law_row"] iG
abbrev AB:Prop:=cM P w K mg base 8 "marks_of" ["facts","part"] ED
abbrev AR:Prop:=cM P w K mg base 8 "numbered_parts" ["facts","roll","hand"] EY
abbrev zZ:Prop:=cM P w K mg base 8 "_law_less" ["_law_facts_here"] lF
abbrev zi:Prop:=cM P w K mg base 9 "shown_row" ["facts","part","numbers"] C2
abbrev zU:Prop:=cM P w K mg base 10 "entry" ["facts","numbers","part","is_open"] BN
abbrev Ac:Prop:=Tw P w K mg base 11 "document" ["facts","roll","hand"] Cp
end
section
variable (P:Program)(w:World){K:PySem.W.Frag}{mg:UK->Option MD}(base:Heap){tk:UK->Tok}
def A8(T:Txt K mg tk)(F:FO K mg "birth_chain" vC):zS P w K mg base:=do aO F CI (iP λ_ _=>rfl) {} λfa cdv A outer s H vs Q E r h=>?_;{_,(ax (sn CI.nd 2 (cy (gZ r.hd (rR r)) T.c6 boot_dict (a1 (vv 0)))) (ax (sn CI.nd 3 (bQ (a1 (vv 1)))) (ax (yC PassesOwn.never (PW.pt (gJ (ck (p_ (cW r)) (xi (vv 3) (eL i0 aE)) (vv 2)) (hZ (ck AK (cb dE T.cf boot_len (a1 (vv 3))) (cb Jn T.cf boot_len (a1 (vv 2))))))) (aH (ap (vv 3) (a1 (dI (cW r) (vv 2) (xi (vv 3) (eL i0 aE)) (λ_ _=>rfl)))))) (aH (aR (vv 3)))))),?_};{p,v,L,ys,br,rfl,hp,M,bY,J,X,U}:=h;{es,k1,C}:=IG M;Z:es.length=br.length:=C.1;W:ys.length=br.length:=M.1;{_,O,p,ys,es,O,hp,k1,(),λdq H1 g1 R I=>?_};B:(es.map (·.1)).Nodup:=(do[uF (g:=λx:List Key×List Key=>KD.tup x.1) C λe x p=>p.1];z9.mpr (List.Pairwise.imp (λh z=>h (KD.tup.inj z)) (z9.mp J)));I<-[mH _ [] (do[we];B),we];lk:=Nj C;{_,O,aI rfl,λc H2 S s2 e2=>?_};n:=R.trans s2;G:dq≠c:=a_ I S;D:H c=none:=R.free S;{λm σ b=>∃cv us x ps a,cv=us++[x]/\σ=[!(.ref p),!v,!(.ref dq),!(.ref c)]/\ag H b/\b dq=!(.dG es)/\b c=!(.lst cv)/\AL (m_ b) us ps/\m_ b x a/\ps++yD br m a=yD br br.length L/\us.length+m=br.length,{br.length,[v],[],v,[],L,O,O,n,s2 _ _ I,e2,.nil,X.af n.af,O,jh _},?_};(m,σ,b,{cv,us,x,ps,a,rfl,rfl,y,t,d,pn,j,i,hm});f:(us++[x]).length=us.length+1:=(do[qg];2);{_,O,1,O,c,_,-1,x,O,O,aD.of d,md us x,_,O,dq,es,.tup a,O,.inl t,j.1,_,O,?_};{h1,h2}||{k,o,h1,h2,Y}:=lk a;[h1];bX (do[show(if false=true then not (none:Option V).isSome else(none:Option V).isSome)=false from rfl]) (bX rfl ?_);{_,O,U b c _ y D d ?_};[<-i];this:yD br m a=[a]:=(do(by cases m with|zero|succ m=>?_);2;¬a::(match G' br a with|none=>[]|some o=>yD br m o)=_;[h2]);[this];pn.snoc j;[h1];cj (do 2) ?_;{_,O,c,_,O,.inl (aD.of d),_,O,dq,es,O,t,_,_,O,O,_,O,?_};(by cases m with|succ m|zero=>?_);cj (qH (do[f];())) ?_;{λσ' H'=>ot (σ'=[!(.ref p),!v,!(.ref dq),!(.ref c)]) (ag H H') (H' dq=!(.dG es)) (H' c=!(.lst ((us++[x])++[k]))) (AL (m_ H') (us++[x]) (ps++[a])) (m_ H' k o),λσ' H' ⟨a1,a2,a3,a4,a5,a6⟩=>{m,(),_,us++[x],k,ps++[a],o,O,a1,a2,a3,a4,a5,a6,?_,do[f];()},?_};[<-i,ym];¬_=ps++(a::(match G' br a with|none=>[]|some o=>yD br m o));[h2];2;{_,O,.inl {O,_,aD.of d},_,O,_,O,1,O,c,_,-1,x,O,O,aD.of d,md us x,dq,es,.tup a,k,O,.inl t,j.1,h1,c,_,_,O,O,d,cH (),?_};N:aj b (upd b c (.lst ((us++[x])++[k]))):=aj.wl d;{O,y.wr D,do[az G];t,aF,(pn.snoc j).imp λv q g=>m_.af g N,(Y.af y.af).af N};bX (decide_eq_false (do[f];())) ?_;{_,O,U b c _ y D d ?_};[<-i];pn.snoc j
def EE(T:Txt K mg tk)(F:FO K mg "key_of_leave" su):zN P w K mg base:=do aO F D3 (mI λ_=>rfl) {} λfa d A outer s H vs Q E g h=>?_;{_,(aH (aR (xt (vv 0)))),?_};{v,a,rfl,{b,i,c,rfl,h1,_,_,f,_},e}:=h;{_,O,b,_,4,_,O,O,aS.of h1,O,e _ (.tup f (.cons (.int _) (.cons (.int _) .nil)))}
def Ek(T:Txt K mg tk)(F:FO K mg "key_of_place" sy):Ai P w K mg base:=do aO F Fl (mI λ_=>rfl) {} λfa c A outer s H vs Q E j h=>?_;{_,(aH (aR (xt (vv 0)))),?_};{v,nk,bh,D,k,rfl,e,f}:=h;{b,vn,m,vk,rfl,d,g,i,a}:=e;{_,O,b,_,2,_,O,O,aS.of d,O,f vk a}
def DN(T:Txt K mg tk)(F:FO K mg "signs_in" lS):uJ P w K mg base:=do aO F Cr (iP λ_ _=>rfl) {} λfa r A outer s H vs Q E y h=>?_;m:(A.deeper (envOfC "signs_in" (ah lS) ↑s fa r)).units+1<cLine:=cS y;{_,(aH (aR (m2 (ah lS) yS [("part",1)] (il (cL m (vv 0) aN (λ_ _=>rfl))) (λ_ _ _=>(dJ (ck (BG y) (xt (vv 0)) (vc 1)))) (λ_ _ _=>(vv 0))))),?_};{fa,X,pt,S,n,rfl,{k,B,vs,L,c,a,G,W},q,d,U}:=h;p:vs.length=n:=(do[G.1,zg]);bY:=W.bY;{_,O,fa,.ref B,O,.inl {k,.inr "signs",L,O,c.symm},B,O,{_,aD.of a},cK (xs:=vs) (cJ ()) (λj ys H'=>H'=H/\AN (SN S H) ys (((List.range n).take j).filter (lY S pt))) {O,.nil} (λ_ _ H' s'=>do[s'.1];aD.of a) (λj x ys H' K1 Y R s' N M=>?_) λH1 J ys s' hy D=>?_};{rfl,e}:=s';{i,I,sn}:=G.at R;o:i<n:=qj.mp (qu I);t:=sn;{b,vq,vn,vb,kq,vg,rfl,h1,h2,h3,h4,V,Z}:=sn;tk:(List.range n).take (j+1)=(List.range n).take j++[i]:=(do[qy,I];2);{_,O,b,_,0,_,O,O,aS.of h1,O,_,O,tD (S i).pt,tD pt,(bC h2).dv,(bC q).dv,(W.lay i o).2,d,qf (je _ _) (qf (dB _) ⋯),_,O,?_};f:(if false=true then not (PyData.eqv (tD (S i).pt) (tD pt)) else PyData.eqv (tD (S i).pt) (tD pt))=decide ((S i).pt=pt):=fH _ _;hp<|(S i).pt=pt;cj (do[f];qH hp) ?_;{_,O,N _ _ {O,?_}};[tk];AN.pick (vs:=vs) e t (f9.mpr hp);bX (do[f];decide_eq_false hp) ?_;M _ {O,?_};[tk];e.skip λz=>hp (f9.mp z);{rfl,e}:=s';e<-[p,jd (do[zg];qb _)];C:ag H1 (upd H1 J (.lst ys)):=ag.new D;U _ J ys C D aF (e.imp λv i g=>SN.af g C.af)
def DQ(T:Txt K mg tk)(F:FO K mg "place_of_side" uy):AA P w K mg base:=do aO F F8 (iP λ_ _=>rfl) {} λfa q A outer s H vs Q E n h=>?_;{_,(pX (bS (rX (PW.pt (yX (ck Np (vv 1) eV) (Ke (ck (yH (cW n)) (xt (vv 1)) (vv 0)))))) (aH (aR (cb Jn T.cf boot_len (a1 (vv 0))))) cX) (aH (aR (aM c_ (dI (cW n) (vv 0) (xt (vv 1)) (λ_ _=>rfl)) (sf (ck c8 (xt (vv 1)) aN) aE aE))))),?_};{dq,kvs,S,js,v,d,rfl,f,{g,j},e,c,m}:=h;by match d,e,c with|none,e,_ => have e:v=.aV:=e;subst e;refine{λ_ _=>False,{λb H'=>b=true/\H'=H,{_,O,O,_,O,cj rfl {O,O}},?_},λ_ _ z=>z.elim};rintro b H' ⟨rfl,rfl⟩;refine cj rfl {_,O,dq,kvs,O,f,?_};rw[g];exact m|some (i,b),e,c => obtain⟨a,vn,rfl,k,o⟩:=e;have hi:=c i b rfl;have p:=j i hi;refine{λσ' H'=>σ'=[!(.ref dq),!(.ref a)]/\H'=H,{λb H'=>b=false/\H'=H,{_,O,O,_,O,bX rfl {_,O,a,_,0,_,O,O,aS.of k,O,_,O,dq,kvs,.tup (cm S i),O,.inl f,o,_,O,?_,O}},?_},?_};rw[p];rfl;rintro r H' ⟨rfl,rfl⟩;exact bX rfl {O,O};rintro σ' H' ⟨rfl,rfl⟩;refine{_,O,_,O,a,_,0,_,O,O,aS.of k,O,dq,kvs,.tup (cm S i),_,O,.inl f,o,p,_,O,a,_,1,_,O,O,aS.of k,O,O,_,O,?_};cases b with|true|false=>?_;exact cj (qH rfl) {_,_,O,O,m};exact bX (decide_eq_false (λz=>absurd (V.str.inj z) ∅)) {_,_,O,O,do¬Q (V.int ((js.idxOf i:Int)+0)) _;[Int.add_zero];m}
def GB(T:Txt K mg tk)(F:FO K mg "seats_in" uu):mM P w K mg base:=do aO F Bf (mI λ_=>rfl) {} λfa S A outer s H vs Q E y h=>?_;{_,(aH (aR (cy (gZ y.hd (rR y)) T.c6 boot_dict (a1 (jC (own:=["seat","name"]) (fr:=[]) rfl (QB (do 2) T.gO (a1 (vv 0))) {O,∅,∅} (jE ∅) (λ_ _ _=>(lB (n:=2) rfl (dD (cZ (i:=0) (do¬List.Nodup (["seat","name"]:List UK);by decide +kernel) rfl (Or.inl rfl)) (dD (cZ (i:=1) (do¬List.Nodup (["seat","name"]:List UK);by decide +kernel) rfl (Or.inl rfl)) kY)))) (λ_=>p7 rfl rfl ⋯) (λ_ _ _=>ee) (λ_ _ _=>(bE (a2 (vv 1) (vv 0))))))))),?_};{p,zs,nk,js,rfl,ep,t,nd,inj,hl,kk}:=h;r:zs.length=js.length:=t.1;{_,O,p,O,{_,aD.of ep},Tp (xs:=zs) (cJ ()) (λj us H'=>ag H H'/\∃kvs,cw H' us kvs/\kX nk (λv i=>v=.int ((js.idxOf i:Nat):Int)) kvs (js.take j)) {ag.refl _,[],trivial,trivial} (λ_ _ H' s'=>aD.of (s'.1 _ _ ep)) (λj x us H' q K1 J Z s' U X k0=>?_) λH1 I us s' hy M=>?_};{s',kvs,m,d}:=s';{i,G,Y}:=t.at Z;tk:js.take (j+1)=js.take j++[i]:=(do[qy,G];2);f:js.idxOf i=j:=Bh nd G;c:ag H' (upd H' q (.tup [.int j,x])):=ag.new U;{q,_,O,aS.of aF,O,_,_,O,_,_,O,O,eA (B:=J _) ?_};(by generalize upd H' q (.tup [.int j,x])=H2 at c);{_,O,_,O,aI rfl,λW D C g o=>X _ _ {(s'.trans c).trans g,kvs++[(.tup (nk i),x,.int (j:Int))],cw.snoc (e:=(.tup (nk i),x,.int (j:Int))) {W,O,o,NM.af Y ((s'.trans c).trans g).af} (m.af (c.trans g).af),?_}};[tk];d.snoc rfl (do¬V.int _=_;[f]);{R,kvs,m,d}:=s';d<-[r,zd];c:ag H1 (upd H1 I (.lst us)):=ag.new M;k:=R.trans c;{I,us,kvs,O,aD.of aF,m.af c.af,(),λdq D C g o=>kk D dq _ (k.trans g) (k.free C) o {?_,λi hi=>?_}};[mH kvs [] (do[we,K_ d];z9.mpr (nd.imp_of_mem λ{a b} N L h e=>h (inj a N b L (KD.tup.inj e)))),we,LW d];{v,h1,rfl}:=kX.get (all:=js) inj (done:=[]) (acc:=[]) d (λi z=>nomatch z) (λi h=>h) (λi z=>nomatch z) i (.inr hi);h1
def EM(T:Txt K mg tk)(F:FO K mg "key_of_mark" sV):Aj P w K mg base:=do aO F GX (mI λ_=>rfl) {} λfa c A outer s H vs Q E f h=>?_;{_,(aH (aR (xt (vv 0)))),?_};{v,S,M,i,rfl,a,e}:=h;{b,k,m,o,vn,kq,rfl,h1,h2,j,n,g,d}:=a;{_,O,b,_,6,_,O,O,aS.of h1,O,e _ (.tup d (.cons (.int _) (.cons (.int _) .nil)))}
def Fb(T:Txt K mg tk)(F:FO K mg "key_of_note" uQ):AQ P w K mg base:=do aO F D1 (mI λ_=>rfl) {} λfa a A outer s H vs Q E f h=>?_;{_,(aH (aR (xt (vv 0)))),?_};{v,S,N,i,rfl,c,e}:=h;{b,j,m,o,vn,kq,rfl,h1,h2,k,n,g,d}:=c;{_,O,b,_,5,_,O,O,aS.of h1,O,e _ (.tup d (.cons (.int _) (.cons (.int _) .nil)))}
def FR(T:Txt K mg tk)(F:FO K mg "telling_places" mQ):vH P w K mg base:=do aO F xT (mI λ_=>rfl) {} λfa z A outer s H vs Q E d h=>?_;hu:(A.deeper (envOfC "telling_places" (ah mQ) ↑s fa z)).units<cLine:=d.vM;I:(A.deeper (envOfC "telling_places" (ah mQ) ↑s fa z)).units+1<cLine:=cS d;{_,(ax (sn xT.nd 1 kT) (ax (fo (il (cL I (vv 0) aN (λ_ _=>rfl))) (gn xT.nd 2) (ax (sn xT.nd 3 (xt (vv 2))) (aH (bS (PW.pt (yX (ck (yH (cW d)) (vv 3) (vv 1)) (Ke (ck (BK hu) (xt (dI (cW d) (vv 1) (vv 3) (λ_ _=>rfl))) (xt (vv 2)))))) (aH (kD (cW d) (vv 1) (vv 3) (vv 2) rfl)) cX)))) (aH (aR (vv 1))))),?_};{fa,es,rs,rfl,fq,kk}:=h;{F,dk,e1,N,hw,up,hl}:=id fq;(dq,H1,W,R,ed);{_,O,fa,.ref (F 1),O,((dk.same R).get 1 ⋯),?_};{F 1,O,{_,aD.of (R _ _ e1)},bH (xs:=es) (λj σ X=>vX λ(kvs:List 68) (i:Option V) (k:Option V)=>iD (σ=[!(.ref fa),!(.ref dq),i,k]) (ag H X) (X dq=! 69) (AL (EK (gM X) X) kvs (tl (rs.take j)))) {[],none,none,O,R,ed,.nil} (λj σ X _ ⟨_,_,_,_,s,_,_⟩=>aD.of (s _ _ e1)) ?_ ?_};(j,x,σ,X,hx,{kvs,i,k,rfl,G,f,g},Nx,t);{r,d,M}:=N.at hx;J:=M.af G.af;c:=BV (rs.take j);hjl:j<rs.length:=(qw.mp d).1;n:rs.take (j+1)=rs.take j++[r]:=(do[qy,d];2);{b,Y,vo,vn,kq,rfl,h1,h2,h3,h4,h5}:=id J;y:kvs.length<sizeLine:=cH (do[g.1];this:=xj (rs.take j);this<-[wb];this:=N.1;());o:∀a,AL (EK (gM X) X) a (tl (rs.take j++[r]))->vX λ(kvs:List 68) (i:Option V) (k:Option V)=>iD ([!(V.ref fa),!(V.ref dq),!(V.ref b),!Y]=[!(.ref fa),!(.ref dq),i,k]) (ag H (upd X dq (.dG a))) ((upd X dq (.dG a)) dq=! 69) (AL (EK (gM (upd X dq (.dG a))) (upd X dq (.dG a))) kvs (tl (rs.take (j+1)))):=λa a' => {a,_,_,O,G.wr W,aF,do[n];a'.imp λe x p=>p.imp (aj.wd f) λq=>q.af (aj.wd f)};{_,O,b,_,0,Y,O,O,aS.of h1,O,?_};body:∀D:Ends,(∀σ X,(∃(kvs:List 68) (i k:Option V),σ=[!(.ref fa),!(.ref dq),i,k]/\ag H X/\X dq=! 69/\AL (EK (gM X) X) kvs (tl (rs.take (j+1))))->D.nx σ X)->True:=λ_ _=>trivial;{_,O,_,O,dq,kvs,.tup r.pt,O,.inl f,h2,_,O,?_};[qE rfl,Cs g c];(by cases hb:hp (tl (rs.take j)) r.pt with|false|true=>?_);cj rfl ?_;{_,O,_,O,_,O,dq,kvs,.tup r.pt,O,f,h2,y,?_};t _ _ (o _ (do[vI];BS g c h2 J));bX rfl ?_;{B,C,ex'}:=qc.mp (gU.mp hb);{v,Z,pv}:=rr g c C;Z<-[ex'];{b',vp',vo',vn',m,rfl,S,h2',h3',h4',U}:=pv;{_,O,_,O,dq,kvs,.tup r.pt,_,O,.inl f,h2,Z,b',_,3,.ref m,O,O,aS.of S,O,_,O,b,_,3,.ref kq,O,O,aS.of h1,O,m,kq,[B.ka,B.kb],[r.ka,r.kb],O,O,aS.of U,aS.of h5,_,O,?_};L:bO B.ka B.kb r.ka r.kb:=(do hm:=sD C;this:=m3.mp (n▸(up.sublist (k8 (j+1) rs)));this.2.2 B hm r (qo.mpr rfl));cj (Px L) ?_;{_,O,_,O,_,O,dq,kvs,.tup r.pt,O,f,h2,y,?_};t _ _ (o _ (do[vI];BS g c h2 J));(σ,X,{kvs,i,k,rfl,G,f,g});g<-[N.1,zd];{_,O,kk X dq kvs G W f g}
def A7(T:Txt K mg tk)(F:FO K mg "way_out" vA):sQ P w K mg base:=do aO F yL (vV λ_ _ _=>rfl) {} λfa cdv A outer s H vs Q E L h=>?_;{_,(ax (sn yL.nd 3 (bQ (a1 (vv 1)))) (ax (sn yL.nd 4 (H_ (cW L) (vv 1) dF)) (ax (yC PassesOwn.never (rX (PW.pt (gJ (ck (p_ (cW L)) (xi (vv 3) (eL i0 aE)) (vv 0)) (hZ (ck (yH (cW L)) (xi (vv 3) (eL i0 aE)) (vv 2)))))) (ax (sn yL.nd 5 (dI (cW L) (vv 0) (xi (vv 3) (eL i0 aE)) (λ_ _=>rfl))) (ax (ap (vv 3) (a1 (vv 5))) (ax (bS (ck (p_ (cW L)) (vv 5) (vv 4)) (aH (aR (vv 3))) cX) (aH (kD (cW L) (vv 4) (vv 5) dF rfl)))))) (aH (aR (vv 3)))))),?_};{oa,g,ea,ko,ys,ke,E',p,C,rfl,hoa,ako,U,hnz,hfew,hea,R,gp,hpp,hpn,kk}:=h;{_,O,aI rfl,λc H1 g1 s1 e1=>?_};(a,H2,g2,s2,e2);W:=s1.trans s2;{_,O,e2,nd p,gp.af W.af,?_};s3:ag H (upd H2 a (.dG [(nd p,g,.bl true)])):=W.wr (s1.free g2);D:c≠a:=a_ e1 g2;e3:(upd H2 a (.dG [(nd p,g,.bl true)])) c=!(.lst [g]):=(do[az D];s2 _ _ e1);o3:(upd H2 a (.dG [(nd p,g,.bl true)])) a=!(.dG [(nd p,g,.bl true)]):=aF;gon:H a=none:=s1.free g2;(by generalize upd H2 a (.dG [(nd p,g,.bl true)])=H3 at s3 e3 o3);sm0:fP [((nd p,g,.bl true):KD×V×V)] (λk=>k∈[]++[p]):=(do this:=fP.nil.put (S':=λk=>k∈([]:List (List Key))++[p]) (p:=p) g (.bl true) λk=>(do 0);this);{λm σ X=>∃(ini:List (List Key)) (las:List Key) (ws:List V) (d:List 68) (u5:Option V),σ=[!(.ref oa),!g,!(.ref ea),!(.ref c),!(.ref a),u5]/\ag H X/\X c=!(.lst ws)/\AL (CD X) ws (ini++[las])/\X a=!(.dG d)/\fP d (λk=>k∈ini++[las])/\d.length<=ini.length+1/\WP (gX ys) E' p ini las/\(∀k∈ini++[las],C k)/\m=102 - ini.length,{102,[],p,[g],_,none,O,s3,e3,.cons (gp.af s3.af) .nil,o3,sm0,qb _,.one,λk hk=>do[qo.mp hk];hpp,O},?_};(m,σ,X,{ini,las,ws,d,u5,rfl,J,G,aX,oX,B,hkl,wp,t,rfl});hfit:=wp.fits;{us,v,rfl,aU,hv}:=xZ aX;hul:us.length=ini.length:=aU.1;S:=ako.imp λe x q=>q.imp (R':=iH X) J.af λr=>r.af J.af;Z:=Rd.same hoa J;heX:=Rd.same hea J;pB (λb j=>j=X/\(b=true->gX ys las≠none/\¬E' las)/\(b=false->gX ys las=none\/E' las)) (λNb hNb=>?_) ?_;{_,O,1,O,c,_,-1,v,O,O,aD.of G,md us v,_,O,oa,ko,nd las,O,Z,hv,_,O,?_};[qB qx,E7 S U hnz];(by cases hg:gX ys las with|none|some o=>?_);bX rfl (hNb _ _ {O,(λz=>do-z),λ_=>.inl hg});cj rfl ?_;{_,O,1,O,c,_,-1,v,O,O,aD.of G,md us v,_,O,ea,ke,nd las,O,heX,hv,_,O,?_};[qE rfl];hNb _ _ {O,λz=>{(λy=>do y<-[hg];-y),λy=>?_},λz=>.inr ((R las).mp ?_)};z<-[R.yes y];-z;(by cases q:(vG ke (nd las)).isSome with|true|false=>?_);2;z<-[q];-z;(b,j,{rfl,hT,hF});(by cases b with|false|true=>?_);bX rfl ?_;{_,O,kk j c (us++[v]) ini las J g1 G aX (wp.stop (hF rfl)) () t};cj rfl ?_;{hg,hE}:=hT rfl;{o,ho}:=uc.mp hg;{f,hv',N}:=Kk S U hnz ho;RB (λσ' H'=>∃m',m'<102 - ini.length/\∃(ini:List (List Key)) (las:List Key) (ws:List V) (d:List 68) (u5:Option V),σ'=[!(.ref oa),!g,!(.ref ea),!(.ref c),!(.ref a),u5]/\ag H H'/\H' c=!(.lst ws)/\AL (CD H') ws (ini++[las])/\H' a=!(.dG d)/\fP d (λk=>k∈ini++[las])/\d.length<=ini.length+1/\WP (gX ys) E' p ini las/\(∀k∈ini++[las],C k)/\m'=102 - ini.length) (λ_ _ z=>z) λNx hNx=>?_;{_,O,_,O,1,O,c,_,-1,v,O,O,aD.of G,md us v,oa,ko,nd las,f,O,Z,hv,hv',?_};{_,O,.inl {O,_,aD.of G},_,O,c,_,_,O,O,G,kQ (do[qg,qr];()),?_};tw:aj j (upd j c (.lst ((us++[v])++[f]))):=aj.wl G;sW:ag H (upd j c (.lst ((us++[v])++[f]))):=J.wr g1;eW:(upd j c (.lst ((us++[v])++[f]))) c=!(.lst ((us++[v])++[f])):=aF;oW:(upd j c (.lst ((us++[v])++[f]))) a=!(.dG d):=(do[az D.symm];oX);aW:AL (CD (upd j c (.lst ((us++[v])++[f])))) ((us++[v])++[f]) ((ini++[las])++[o]):=(aX.imp λv k q=>q.af tw).snoc (GK.af N tw);gW:=GK.af N tw;(by generalize upd j c (.lst ((us++[v])++[f]))=Y at tw sW eW oW aW gW);hpo:C o:=hpn las o ho;i:∀k∈(ini++[las])++[o],C k:=λk hk=>(do z||z:=qz.mp hk;t k z;[qo.mp z];hpo);{_,O,_,O,a,d,nd o,O,.inl oW,gW,_,O,?_};[qB qx];n<|o∈ini++[las];[B.yes n];cj rfl ?_;{_,O,kk Y c _ (ini++[las]) o sW g1 eW aW (wp.again ho hE n) (do[qg,qr];()) i};[B.no n];bX rfl ?_;M:=wp.on ho hE n;I:=M.fits;I<-[qg,qr];{_,O,_,O,a,d,nd o,O,oW,gW,kQ (),?_};t2:aj Y (upd Y a (.dG (pG d (nd o) f (.bl true)))):=aj.wd oW;hNx _ _ {102 - (ini.length+1),(),ini++[las],o,(us++[v])++[f],_,_,O,sW.wr gon,do[az D];eW,aW.imp λv k q=>q.af t2,aF,B.put _ _ λk=>?_,?_,M,i,do[qg,qr]};[qz,qo];{λz=>z.symm,λz=>z.symm};this:=iz d (nd o) f (.bl true);[qg,qr];()
def D0(T:Txt K mg tk)(F:FO K mg "key_of_cell" uL):zJ P w K mg base:=do aO F BX (mI λ_=>rfl) {} λfa a A outer s H vs Q E e h=>?_;{_,(aH (aR (xt (vv 0)))),?_};{v,C,i,rfl,ce,d}:=h;{b,j,f,vc,kq,rfl,h1,h2,g,k,c}:=ce;{_,O,b,_,4,_,O,O,aS.of h1,O,d _ (.tup c (.cons (.int _) (.cons (.int _) .nil)))}
def El(T:Txt K mg tk)(F:FO K mg "inner_number" tj):A0 P w K mg base:=do aO F EV (iP λ_ _=>rfl) {} λfa d A outer s H vs Q E e h=>?_;{_,(aH (aR (sf (ck c8 (vv 0) aN) (KC (LY (vv 1))) (Gn (Fi (He (vv 0)) (Fi aN (Fi (LY (vv 1)) FU))))))),?_};{z,i,rfl,hi,hz,a}:=h;nl:=JP i hi;{_,O,O,_,O,?_};h0<|z = "";cj (do[iK];qH h0) ?_;a<-[show rS z i=lj i from qE h0];{_,O,i,O,(),a};bX (do[iK];decide_eq_false h0) ?_;a<-[show rS z i=((Str.empty++z)++".")++lj i from qB h0];b:((Str.empty++z)++".").length=z.length+1:=(do[uX,Ey];2);c:(((Str.empty++z)++".")++lj i).length<=z.length+4:=(do[uX,b];());{_,O,z,O,(),z,O,do[Ey];(),".",O,do[b];(),_,O,i,O,(),_,O,qf c (),qf c (),a}
def Dl(T:Txt K mg tk)(F:FO K mg "text_of_sign" uC):As P w K mg base:=do aO F BL (iP λ_ _=>rfl) {} λfa j A outer s H vs Q E i h=>?_;{_,(ax (bS (fm (cb Ql T.jZ boot_isinstance (a2 (vv 1) (Rb (v:=.ty "str") (do 2) T.JN boot_str rfl)))) (aH (aR (vv 1))) cX) (ax (bS (ck c8 (xt (vv 1)) aN) (aH (aR (aM Kx aN (xt (vv 1))))) cX) (aH (aR (aM Kx aN (bm PySem.F.plainAttrs_dict PySem.F.slot_dict_get PySem.F.type_dict_get (j1 (cW i)) (vv 0) (a2 (xt (vv 1)) aN))))))),?_};{nq,g,v,d,rfl,{kvs,hn,nk},dt,ok,b}:=h;sz:∀{m:Nat},m<=1900->m<=sizeLine:=λh=>cJ ();{z,rfl,hz}||{w,rfl,n}||{p,rfl,hp}:=ok;-dt;⟨_,O,_,"str",true,O,⋯,.str z,_,O,cj rfl ⟨_,O,b z (.inl rfl)⟩⟩;{a,xs,rfl,e,f}:∃a xs,v=.ref a/\H a=!(.tup xs)/\dn H xs [.str "picture",.str w]:=(do(by cases dt with|tup e t=>?_);{_,_,O,e,t});{}||{{},{}||{{},{}}}:=f;{_,O,_,"str",false,O,⋯,.tup e,_,O,bX rfl ?_};{_,O,_,_,0,_,O,O,aS.of e,O,O,_,O,cj (do[iK];qH rfl) ?_};{_,O,_,_,1,_,O,O,aS.of e,O,"*",w,O,O,sz (do¬1+w.length<=_;()),b _ (.inr (.inl {w,O,O}))};{a,xs,rfl,e,f}:∃a xs,v=.ref a/\H a=!(.tup xs)/\dn H xs [.str "refer",tD p]:=(do(by cases dt with|tup e t=>?_);{_,_,O,e,t});{}||{{},{}||{k,{}}}:=f;{_,O,_,"str",false,O,⋯,.tup e,_,O,bX rfl ?_};{_,O,_,_,0,_,O,O,aS.of e,O,O,_,O,bX (do[iK];decide_eq_false ∅) ?_};{_,O,.inr (.inr (.inl {O,.inr (.inr {kvs,hn})})),_,O,_,_,1,_,O,O,aS.of e,O,nq,kvs,.tup p,_,_,O,O,hn,KS k,?_};{h1,h2}:=nk p hp;[h1];(by cases c:g p with|none|some z=>?_);{"#","?",O,O,sz ⋯,b _ (.inr (.inr {p,O,do[c];2}))};{"#",z,O,O,sz (do this:=h2 z c;¬1+z.length<=_;()),b _ (.inr (.inr {p,O,do[c];2}))}
def Bo(T:Txt K mg tk)(F:FO K mg "_law_cell_at" uq):zH P w K mg base:=do aO F C0 (iP λ_ _=>rfl) {} λfa e A outer s H vs Q E g h=>?_;{_,(ax (bS (ck AM (vv 1) (cb dE T.cf boot_len (a1 (vv 0)))) (aH (aR (xa (vv 0) (vv 1)))) cX) (aH (aR aE))),?_};{sp,ns,k,rfl,b,d,c}:=h;{_,O,_,O,sp,_,O,.inl b,_,_,O,O,_,O,?_};a<|k<((List.map V.int ns).length:Nat);cj (qH a) ?_;{_,O,_,O,sp,_,_,O,O,b,d,a,λv f=>?_};{m,_,rfl}:=qc.mp f;c m;bX (decide_eq_false a) (c 0)
def BH(T:Txt K mg tk)(F:FO K mg "_law_drawn" sP):zX P w K mg base:=do aO F DY (iP λ_ _=>rfl) {} λfa d A outer s H vs Q E f h=>?_;{_,(ax (bS (PW.pt (gJ (fm (vv 1)) (hZ (ck Hs (vv 0) (aM DM aE aE))))) (aH (aR (bQ 75))) cX) (aH (aR (bQ (a2 (aM eP (vv 0) aE) aE))))),?_};{c,b,rfl,a}:=h;{_,O,b,O,?_};(by cases b with|false|true=>?_);bX rfl (bX rfl {_,O,_,_,O,O,(by show(0:Int)<2147483629;decide),aI rfl,λp H' g s e=>a H' p s g {_,_,e}});cj rfl {_,O,_,_,O,O,{⋯,⋯,⋯},_,_,O,O,_,O,?_};h1<|(10:Int) ^ 18<=c;cj (qH h1) {_,O,aI rfl,λp H' g s e=>a H' p s g {_,_,e}};bX (decide_eq_false h1) {_,O,_,_,O,O,(by show(0:Int)<2147483629;decide),aI rfl,λp H' g s e=>a H' p s g {_,_,e}}
def GR(T:Txt K mg tk)(F:FO K mg "_law_draw" uA):gQ P w K mg base:=do aO F L8 (iP λ_ _=>rfl) {} λfa f A outer s H vs Q E i h=>?_;{_,(ax (sn L8.nd 2 (xl (vv 0))) (ax (bS (ck c8 (xl (vv 0)) aE) (ax (LL (aM lg (vv 2) (vv 1)) (Nt (vv 0) aE IF)) (aH (aR (aM eP (vv 2) (vv 1))))) cX) (ax (LL (aM eP (aM c_ (aM sI (vv 2) aE) aE) aE) (Nt (vv 0) aE IF)) (aH (aR (aM eP (aM lg (aM eP (aM sI (xl (vv 0)) aE) aE) aE) (vv 1))))))),?_};{p,q,rfl,{a,b,hp},d,g,e}:=h;{_,O,p,_,0,.int a,O,O,aD.of hp,O,_,O,p,_,1,.int b,O,O,aD.of hp,O,O,_,O,?_};c:∀x:Int,0<=x % q/\x % q<q:=λx=>{Int.emod_nonneg x (),Int.emod_lt_of_pos x d};h0<|b=0;cj (do[h0];2) {_,O,_,O,_,_,O,O,{d,()},_,O,p,_,0,0,O,O,hp,O,_,O,_,O,_,_,O,O,d,?_};e _ _ Hg {_,_,aF} (c _).1 (c _).2;bX (decide_eq_false λz=>h0 (by injection z)) {_,O,_,_,O,O,.inr {⋯,⋯},_,_,O,O,_,_,O,O,(by show(0:Int)<2147483629;decide),_,O,p,_,0,0,O,O,hp,O,?_};{_,O,p,_,0,_,O,O,aD.of aF,O,_,_,O,O,.inr {⋯,⋯},_,_,O,O,(by show(0:Int)<2147483647;decide),_,_,O,O,{⋯,⋯},_,O,_,_,O,O,d,?_};e _ _ Hg {_,_,aF} (c _).1 (c _).2
def BC(T:Txt K mg tk)(F:FO K mg "_law_last_leave" lO):AC P w K mg base:=do aO F Fg (iP λ_ _=>rfl) {} λfa I A outer s H vs Q E n h=>?_;r:(A.deeper (envOfC "_law_last_leave" (ah lO) ↑s fa I)).units+1<cLine:=cS n;{_,(aH (aR (ce (T6 n) (m2 (ah lO) zW [("_law_row",1)] (il (cL r (vv 0) aN (λ_ _=>rfl))) (λ_ _ _=>(dJ (PW.pt (gJ (ck (BG n) (l_ x_ (vv 0) xo (fj aE)) (l_ x_ (vc 1) xo (fj aE))) (hZ (ck (Bp (cW n)) (xt (vv 0)) (xt (vc 1)))))))) (λ_ _ _=>(vv 0))) (bQ dh)))),?_};{fa,F,x,v,l,rfl,G,hv,kk}:=h;{ys,N,R}:=G.ev;C:ys.length=x.ls.length:=R.1;ll:=G.ll;{J,rp,rc,rfl,S,r2,r3,Z,r5,Y}:=hv;{_,O,fa,.ref (F 8),O,G.dk.get 8 ⋯,F 8,O,{_,aD.of N},cK (xs:=ys) (mZ ()) (λj us W=>ag H W/\AL (λ(_:V) (_:Lf)=>True) us ((x.ls.take j).filter λa=>dA l a)) {ag.refl _,.nil} (λ_ _ W s'=>aD.of (s'.1 _ _ N)) (λj y us W K1 K0 hx s' k1 k0=>?_) λB up us s' hu t=>?_};{p,m}:=s';{a,ea,lx}:=R.at hx;{b,vp,c,rfl,h1,h2,h3,h4,h5,h6}:=lx.af p.af;{_,O,3,O,b,_,O,aS.of h1,(λz=>absurd z.2 (show ¬HT.b_ 5 5 (some 3)=5 from ⋯)),λsp W1 g1' i f=>?_};f:W1 sp=!(.tup [vp,.str a.hd,.str a.to]):=f;{_,O,3,O,J,_,O,aS.of ((p.trans i) _ _ S),(λz=>absurd z.2 (show ¬HT.b_ 5 5 (some 3)=5 from ⋯)),λsq U g2 s2 D=>?_};D:U sq=!(.tup [rp,.str l.hd,.str l.to]):=D;d:=i.trans s2;e:=p.trans d;L:=TY h3.lay h5 h6;y2:=TY r3.lay r5 Y;{.tuple [tD a.pt,.str a.hd,.str a.to],.tuple [tD l.pt,.str l.hd,.str l.to],.tup (aS.of (s2 _ _ f)) (.cons (bC (h2.af d.af)).dv (.cons (.str _) (.cons (.str _) .nil))),.tup (aS.of D) (.cons (bC (r2.af e.af)).dv (.cons (.str _) (.cons (.str _) .nil))),L.1,y2.1,qf (je _ _) (qf L.2 ⋯),_,O,?_};X:(if false=true then not (PyData.eqv (.tuple [tD a.pt,.str a.hd,.str a.to]) (.tuple [tD l.pt,.str l.hd,.str l.to])) else PyData.eqv (.tuple [tD a.pt,.str a.hd,.str a.to]) (.tuple [tD l.pt,.str l.hd,.str l.to]))=decide (a.pt=l.pt/\a.hd=l.hd/\a.to=l.to):=Ul _ _ _ _ _ _;tk:x.ls.take (j+1)=x.ls.take j++[a]:=(do[qy,ea];2);no:dA l a=false->K0 U:=λhb=>k0 _ {p.trans d,do[tk,vj,yj (by rw[hb];decide),ye,wt];m};o<|a.pt=l.pt/\a.hd=l.hd/\a.to=l.to;cj (do[X];qH o) ?_;g:(if decide (l.ka<a.ka\/(l.ka=a.ka/\l.kb<a.kb))=true then dA l a=true else dA l a=false):=(do@dA;[qH o,j9];by cases decide (l.ka<a.ka\/(l.ka=a.ka/\l.kb<a.kb)) <;> rfl);{_,O,b,_,4,_,O,O,aS.of (d _ _ h1),O,_,O,J,_,4,_,O,O,aS.of (e _ _ S),O,[a.ka,a.kb],[l.ka,l.kb],.tup (aS.of (d _ _ h4)) (.cons (.int _) (.cons (.int _) .nil)),.tup (aS.of (e _ _ Z)) (.cons (.int _) (.cons (.int _) .nil)),_,O,?_};[show bN (.tuple ([l.ka,l.kb].map PyData.int)) (.tuple ([a.ka,a.kb].map PyData.int))=_ from SI _ _ _ _];q<|l.ka<a.ka\/(l.ka=a.ka/\l.kb<a.kb);g<-[qE (qH q)];cj (qH q) {_,O,k1 _ _ {e,?_}};[tk,vj,yi g,ye];m.snoc trivial;g<-[qB (λz=>q (qN z))];bX (decide_eq_false q) (no g);bX (do[X];decide_eq_false o) (no ?_);@dA;[decide_eq_false o];2;{s3,m}:=s';m<-[C,zd];n3:ag B (upd B up (.lst us)):=ag.new t;eu:(upd B up (.lst us)) up=!(.lst us):=aF;{aI rfl,λeq H4 g4 M g=>?_};{up,eq,us,O,O,aD.of (M _ _ eu),aD.of g,?_};hk:=kk H4 (s3.trans (n3.trans M));this:decide (us=[])=cT x.ls l:=(do@cT;[yk,decide_eq_true_iff,Bool.not_eq_true',bc];k:us.length=(x.ls.filter λa=>dA l a).length:=m.1;[<-yw,k,yw,gr]);[this];hk
def Cq(T:Txt K mg tk)(F:FO K mg "stretch" r_)(a:AA P w K mg base):pO P w K mg base:=do aO F J_ (vV λ_ _ _=>rfl) {} λfa k A outer s H vs Q E f h=>?_;{_,(ax (sn J_.nd 3 (cl a f (a2 (vv 0) (vv 1)))) (aH (aR (bE (a2 (vv 3) (cb (QT rfl) T.Aw boot_max (a2 (vv 3) (cl a f (a2 (vv 0) (vv 2)))))))))),?_};{dq,kvs,S,js,n,t,b,e,rfl,d,c,j,m,p,r,o}:=h;{_,O,_,O,dq,kvs,S,js,n,b,O,d,c,j,m,?_};{_,O,_,O,_,O,_,O,dq,kvs,S,js,t,e,O,d,c,p,r,_,_,O,aI rfl,λq H' g s i=>o H' q s ?_};[i];by congr 5;split <;> omega
def CK(T:Txt K mg tk)(F:FO K mg "reaching_main" uY)(gfBz:sQ P w K mg base):vF P w K mg base:=do aO F pU (mI λ_=>rfl) {} λfa cdv A outer s H vs Q E I h=>?_;{_,(ax (sn pU.nd 1 (H_ (cW I) (Et (v:=.ref cB) rfl T.cB rfl) dF)) (ax (fo (MT (vv 0)) (gn pU.nd 2) (ax (sn pU.nd 3 (cl gfBz I (ac (vv 0) (a2 (vv 2) (vv 1))))) (ax (sn pU.nd 4 (bm PySem.F.plainAttrs_dict PySem.F.slot_dict_get PySem.F.type_dict_get (j1 (cW I)) (vv 1) (a2 (xi (vv 3) (eL i0 aE)) dF))) (aH (fo (il (vv 3)) (gn pU.nd 5) (aH (kD (cW I) (vv 1) (vv 5) (vv 4) rfl))))))) (aH (aR (vv 1))))),?_};{S,ko,ys,rfl,hoa,ako,W,ma,kk}:=h;B:=W.bY;(d,H1,g1,s1,e1);ma1:=s1 _ _ ma;{e1,.tup aZ,{_,O,ma1},?_};s2:ag H (upd H1 d (.dG [(.tup aZ,.ref cB,.bl true)])):=s1.wr g1;e2:(upd H1 d (.dG [(.tup aZ,.ref cB,.bl true)])) d=!(.dG [(.tup aZ,.ref cB,.bl true)]):=aF;(by generalize upd H1 d (.dG [(.tup aZ,.ref cB,.bl true)])=H2 at s2 e2);M:=Rd.same hoa s2;(by dsimp only[cQ,uO]);Nl ?_;{_,O,S,ko,O,NX M λo Y hY fY eY=>?_};tY:aj H2 Y:=λb us e=>hY b _ (λz=>do !z;by rcases M with q|⟨o',q⟩ <;> rw[q]at e <;> cases e) e;J:d≠S:=λz=>(by rw[z]at g1;rcases hoa with q|⟨o',q⟩ <;> rw[g1]at q <;> cases q);N:=hY d _ J e2;U:=s2.af.trans tY;aY:=ako.imp λe x q=>q.imp (R':=iH Y) U λr=>r.af U;rm0:RN Y ys _ [((.tup aZ,.ref cB,.bl true):KD×V×V)]:=RN.one {_,O,U _ _ ma};ij (λj σ X=>Gy λ(f:List Key->Option Bool) (kr:List 68) (u2:Option V) (u3:Option V) (u4:Option V) (u5:Option V)=>ot (σ=[!(.ref S),!(.ref d),u2,u3,u4,u5]) (ag (del Y d) X) (X d=!(.dG kr)) (RN X ys f kr) (pj ys j f) (∀i x,i<j->ys[i]?=!x->f x.pt≠none)) {_,_,none,none,none,none,O,(λb u e=>ox _ _ e),N,rm0,.z,λi x z=>absurd z (yf i)} (λj σ X ⟨_,_,_,_,_,_,_,s,_,_,_,_⟩=>s _ _ (do[bW J.symm];eY)) ?_ ?_;(j,e,σ,X,hx,{f,kr,u2,u3,u4,u5,rfl,sX,eX,rm,rcr,g},Nx,hNx);hkl:=rm.bY B;tX:aj Y X:=tG N (λys z=>nomatch z) sX;{r,I,p1,p2,p3}:=aY.at hx;hjl:j<ys.length:=(qw.mp I).1;hrm:=qu I;aX:=aY.imp λe x q=>q.imp (R':=iH X) tX λr=>r.af tX;eoX:X S=!(.du o (.dG ko)):=sX _ _ (do[bW J.symm];eY);{_,O,_,O,_,O,S,e.2.1,d,ko,ys,kr,λk=>f k≠none,r.pt,λk=>k∈nodes ys,O,.inr {o,eoX},aX,W.nd,λx hx=>(W.pt x hx).ne,B,.inl eX,rm.sn,iq (W.pt r hrm).ne (p2.af tX),O9 hrm,λk o h=>Rv h,λZ wa ws ini las sz gwa R aws wo hil hpns=>?_};{us,v,rfl,aus,hv}:=xZ aws;hul:us.length=ini.length:=aus.1;p:=sz _ _ eX;nwr:wa≠d:=(a_ eX gwa).symm;{_,O,.inr (.inr (.inl {O,.inr (.inr {kr,p})})),_,O,1,O,wa,_,-1,v,O,O,aD.of R,md us v,d,kr,nd las,v,.bl false,O,O,p,hv,?_};hc:(vG kr (nd las)).getD (.bl false)=.bl ((f las).getD false):=(by rw[rm.at_ las];cases f las <;> rfl);[hc];{c,hcd}:∃c,c=(f las).getD false:={_,O};[<-hcd];swX:ag (del Y d) Z:=sX.trans sz;{_,O,wa,O,{_,aD.of R},bH (xs:=us++[v]) (λi σ C=>vX λ(L:List Key->Option Bool) (m:List 68) (u5:Option V)=>ot (σ=[!(.ref S),!(.ref d),!e.2.1,!(.ref wa),!(.bl c),u5]) (ag (del Y d) C) (C d=!(.dG m)) (C wa=!(.lst (us++[v]))) (aj Z C) (RN C ys L m/\∀k,L k=if qW ((ini++[las]).take i) k=true then some c else f k)) {f,kr,u5,O,swX,p,R,aj.refl _,rm.af sz.af,λk=>(qB qx).symm} (λi σ C _ ⟨_,_,_,_,_,_,e,_,_⟩=>aD.of e) ?_ ?_};(i,x,σ,C,n,{L,m,u5',rfl,s5,D,ew5,t5,G,t},Nx,hNx);{k,hk,gx}:=aws.at n;hkm:=qu hk;{_,O,_,O,_,O,d,m,nd k,O,D,GK.af gx t5,kQ (do this:=G.bY B;()),?_};t6:aj C (upd C d (.dG (pG m (nd k) x (.bl c)))):=aj.wd D;rm6:=(G.put c (hpns k hkm) (GK.af gx t5)).af t6;hNx _ _ {λa=>if a=k then some c else L a,_,_,O,s5.wr eG,aF,do[az nwr];ew5,t5.trans t6,rm6,λa=>?_};¬(if a=k then some c else L a)=_;[qy,hk,t a];z<|a=k;[qE z,qE (wW.mpr (do[z];0))];[qB z];e:qW ((ini++[las]).take i++[k]) a=qW ((ini++[las]).take i) a:=(do@qW;[List.any_append,show[k].any (λx=>decide (x=a))=false by rw[jt,List.any_nil,decide_eq_false (Ne.symm z)];rfl,Bool.or_false]);(congrArg (λb:Bool=>if b=true then some c else f a) e).symm;(σ,C,{L,m,u5',rfl,s5,D,ew5,t5,G,t});hwl:(us++[v]).length=(ini++[las]).length:=aws.1;t<-[hwl,zd,hcd];hNx _ _ {L,m,_,_,_,_,O,s5,D,G,(funext t:L=λk=>if qW (ini++[las]) k=true then some ((f las).getD false) else f k)▸rcr.s I wo,λi x hi n=>?_};[t];y<|qW (ini++[las]) x.pt=true;[qE y];λz=>nomatch z;[qB y];z<|i<j;g i x z n;this:i=j:=();!this;n<-[I];-n;absurd (wW.mpr (m8 wo.hd)) y;(σ,X,{f,kr,u2,u3,u4,u5,rfl,sX,eX,rm,rcr,g});{_,O,kk X d kr f (λb u e=>sX _ _ ?_) (.inr {o,sX _ _ (do[bW J.symm];eY)}) g1 eX rm (ako.1▸rcr) λx hx=>?_};nb:b≠S:=λz=>(do e<-[z,eG];-e);e<-[bW nb];[bW (λz=>do e<-[z,g1];-e)];hY b u nb (s2 _ _ e);{i,hi,ei}:=z6.mp hx;g i x (do[ako.1];hi) (do[qe hi,ei])
def EJ(T:Txt K mg tk)(F:FO K mg "_law_parts" oN)(f:gQ P w K mg base):zG P w K mg base:=do aO F gG (vV λ_ _ _=>rfl) {} λfa cdv A outer s H vs Q E X h=>?_;hu1:(A.deeper (envOfC "_law_parts" (ah oN) ↑s fa cdv)).units+1<cLine:=cS X;{_,(ax (sn gG.nd 3 (bQ (a1 (bE (a2 aN aE))))) (ax (sn gG.nd 4 (ce c8 (cl f X 75) aE)) (ax (fo (nJ (do 2) T.dM (a1 (xa (bQ (a2 (cl f X 75) (aM c_ aE (cl f X 75)))) (cy IU T.zI boot_int (a1 (vv 4)))))) (gn gG.nd 5) (ax (sn gG.nd 6 (bE (a2 (xa (vv 2) (cl f X (a2 (vv 0) (cb dE T.cf boot_len (a1 (vv 2)))))) (aM c_ aE (vv 5))))) (ax (sn gG.nd 7 (xa (vv 3) (cl f X (a2 (vv 0) (cb dE T.cf boot_len (a1 (vv 3))))))) (pX (bS (rX (PW.pt (gJ (fm (vv 4)) (hZ (ck eM (cl f X 75) aE))))) (aH (sn gG.nd 7 (bE (a2 aN aE)))) cX) (ax (ap (cL hu1 (vv 1) aN (λ_ _=>rfl)) (a1 (bE (a2 (vv 6) (vv 7))))) (ax (sn gG.nd 8 (ce eM (cl f X 75) aE)) (pX (bS (fm (vv 8)) (aH (ap (cL hu1 (vv 1) aN (λ_ _=>rfl)) (a1 (bE (ac (vv 6) (ac (vv 7) (a2 (vv 6) (bE (a2 (vv 5) aE))))))))) cX) (pX (bS (rX (PW.pt (gJ (fm (vv 8)) (hZ (ck c8 (cl f X 75) aE))))) (ax (sn gG.nd 7 (xa (vv 3) (cl f X (a2 (vv 0) (cb dE T.cf boot_len (a1 (vv 3))))))) (aH (ap (cL hu1 (vv 1) aN (λ_ _=>rfl)) (a1 (bE (ac (vv 6) (ac (vv 7) (a2 (bE (a2 (xl (vv 2)) (aM c_ aE (vv 5)))) (bE (a2 (aM c_ (vv 5) aE) aE)))))))))) cX) (pX (bS (ck c8 (cl f X 75) aE) (aH (ap (cL hu1 (vv 1) aN (λ_ _=>rfl)) (a1 (bE (a2 (vv 6) (bE (a2 (xl (vv 2)) (aM c_ aE (vv 5))))))))) cX) (aH (ap (vv 3) (a1 (vv 6))))))))))))) (ax (wG (i:=9) gG.nd rfl (Or.inl rfl) (own:=["_law_row"]) (fr:=[]) rfl (il (cL hu1 (vv 1) aN (λ_ _=>rfl))) {O,∅,∅} (jE ∅) (λ_ _ _=>(cZ (i:=0) (do¬List.Nodup (["_law_row"]:List UK);by decide +kernel) rfl (Or.inl rfl))) (λ_=>q_ rfl) (λ_ _ _=>ee) (λ_ _ _=>(xt (vv 0)))) (ax (fo (nJ (do 2) T.dM (a1 (cl f X 75))) (gn gG.nd 5) (aH (bS (ck (vR X) (vv 9) (bQ dh)) (ax (sn gG.nd 6 (xa (vv 9) (cl f X (a2 (vv 0) (cb dE T.cf boot_len (a1 (vv 9))))))) (ax (sn gG.nd 7 (xa (vv 3) (cl f X (a2 (vv 0) (cb dE T.cf boot_len (a1 (vv 3))))))) (aH (ap (cL hu1 (vv 1) aN (λ_ _=>rfl)) (a1 (bE (ac (vv 6) (ac (vv 7) (a2 (bE (a2 (xl (vv 2)) (aM c_ aE (vv 5)))) (bE (a2 (aM c_ aE (aM lg (vv 5) aE)) (aM eP (vv 5) aE)))))))))))) cX))) (aH (aR (vv 3)))))))),?_};{d,fa,r,F,rfl,dw,dk,e0,e1,e2,er,rd,fd,hi,kk}:=h;nF:∀i,i<9->∀j,j<9->i≠j->F i≠F j:=λi a j b n e=>n (hi i a j b e);{aI rfl,λtq H1 g1 D h1=>{aI rfl,λkq H2 g2 s2 h2=>?_}};kf:∀{b:UJ} {o:HO},H b=!o->kq≠b:=λe z=>(do g2<-[z,D _ _ e];-g2);a:G7 d F kq:={let⟨_,_,e⟩:=dw;kf e,λi hi'=>do this:i=0\/i=1\/i=2:=();rfl||rfl||rfl:=this;kf e0;kf e1;kf e2,λi hi'=>(fd i ()).1,λi h1 j h2 n=>nF i () j () n};fk:H kq=none:=D.free g2;s12:=D.trans s2;B2:PB H H2 d F kq [.ref tq] [] [] [] [] []:={Rest.refl.same s12,dw.same s12,h2,λj v e=>do hj:=(qw.mp e).1;this:j=0:=(do 0<|hj);!this;-e;{"",{tq,O,s2 _ _ h1},.inl rfl},s12 _ _ e0,s12 _ _ e1,s12 _ _ e2,{(λv z=>nomatch z),.nil,.nil,(λr z=>nomatch z),.nil,q0 _,q0 _,q0 _}};P2:lI H2 []:=λj v e=>nomatch e;nfa:fa≠d:=λz=>(do _;{_,_,e}:=dw;e<-[<-z,dk];-e);nff:∀i,i<3->fa≠F i:=λi hi' z=>(do this:i=0\/i=1\/i=2:=();rfl||rfl||rfl:=this;e0<-[<-z,dk];-e0;e1<-[<-z,dk];-e1;e2<-[<-z,dk];-e2);rf:∀i,i<3->r≠F i:=λi h=>(fd i ()).2;{_,O,d,8,O,B2.dw,⋯,⋯,λi1 H3 y w3 a3 b3=>{O,?_}};L:=B2.draw a y w3;(by generalize decide (V.int i1=V.int 7)=wd);{_,O,d,7,O,L.dw,⋯,⋯,λi2 H4 G w4 a4 b4=>{_,O,d,5,O,w4,⋯,⋯,λi3 H5 J w5 a5 b5=>{_,_,O,O,aI rfl,λY H6 g6 s6 e6=>?_}}};B6:=((L.draw a G w4).draw a J w5).same s6;P6:=(((P2.af (B2.dw.af y)).af (L.dw.af G)).af ((L.draw a G w4).dw.af J)).af s6.af;ixw:((if wd=true then 1 else 0:Int))<2:=(by cases wd <;> decide);{_,O,.inr {wd,O,Y,_,_,O,O,aD.of e6,by cases wd <;> decide,ixw,λv hv=>?_}};{c,rfl,c0,c1}:∃c:Int,v=.int c/\0<=c/\c<=14:=(do(by ac_nf at hv);rfl||rfl:=hv;⟨_,O,a4,()⟩;⟨_,O,(),()⟩);⟨c,O,(),(),cG (lo:=0) (n:=c.toNat) (λj σ Z=>Ae λkn bs es cs rs cu u5 u6=>xN λu7 u8=>ot (σ=[!(.ref d),!(.ref fa),!(.ref r),!(.ref kq),!(.bl wd),u5,u6,u7,u8,none]) (PB H Z d F kq kn bs es cs rs cu) (kn.length=j+1) (bs.length=j/\lI Z bs) (es.length<=2 * j) (cs.length<=j/\∀x∈rs,bO x.ka x.kb (j:Int) 1)) ⟨_,_,_,_,_,_,_,_,_,_,O,B6,O,⟨O,P6⟩,qb _,qb _,λx z=>nomatch z⟩ ?_ ?_⟩;(j,σ,Z,hj,{kn,bs,es,cs,rs,cu,u5,u6,u7,u8,rfl,B,hk,{hb,P},he,hc,hx},Nx,q);erZ:=B.out er rd rf;{_,O,_,O,_,O,r,_,O,.inl (aD.of erZ),d,_,O,B.dw,by show(0:Int)<2;decide,by show(2:Int)<1000;decide,λi1 Z1 D w1 x1 y1=>{r,_,i1,O,O,aD.of (DP.to D erZ rd),x1,y1,λvw hvw=>?_}};{w,rfl}:∃w,vw=.str w:=(by have:=hvw;ac_nf at this;rcases this with h|h <;> exact{_,h});{_,O,_,_,O,O,aI rfl,λI Z2 g2 s2 e2=>?_};ej:(1+(0+(j:Int)))=((kn.length:Nat):Int):=(do[hk];());e2<-[ej];np:Nm [.inr w,.inl ((kn.length:Nat):Int)]:=A3 hvw;B2:=(B.draw a D w1).same s2;P2:=(P.af (B.dw.af D)).af s2.af;{_,O,_,O,_,O,kq,_,O,.inl (aD.of B2.ek),d,_,O,B2.dw,(),(),λi2 Z3 y w3 x2 y2=>{kq,kn,i2,O,O,aD.of (B2.draw a y w3).ek,x2,y2,λvo hvo=>?_}};L:=B2.draw a y w3;ep3:Z3 I=!(.tup [.str w,.int ((kn.length:Nat):Int)]):=B2.dw.af y _ _ e2;P3:=P2.af (B2.dw.af y);no3:vS Z3 vo:=L.vU.np hvo;tI (λσ' Z'=>∃vo',iD (σ'=[!(.ref d),!(.ref fa),!(.ref r),!(.ref kq),!(.bl wd),!(.int (0+(j:Int))),!(.ref I),!vo',u8,none]) (PB H Z' d F kq kn bs es cs rs cu) (Z' I=!(.tup [.str w,.int ((kn.length:Nat):Int)])) (vS Z' vo'/\lI Z' bs)) (λNx q=>?_) ?_;pB (λb Z'=>PB H Z' d F kq kn bs es cs rs cu/\Z' I=!(.tup [.str w,.int ((kn.length:Nat):Int)])/\vS Z' vo/\lI Z' bs) (λNb hNb=>{_,O,wd,O,?_}) ?_;(by cases wd with|false|true=>?_);bX rfl (hNb _ _ {L,ep3,no3,P3});cj rfl {_,O,d,8,O,L.dw,⋯,⋯,λi Z4 G w4 _ _=>{_,_,O,O,_,O,hNb _ _ {L.draw a G w4,L.dw.af G _ _ ep3,no3.af (L.dw.af G),P3.af (L.dw.af G)}}};(b,Z',{B',ep,no,P'});(by cases b with|false|true=>?_);bX rfl (q _ _ {vo,O,B',ep,no,P'});cj rfl {aI rfl,λmq Z5 g s e=>(q _ _ {.ref mq,O,B'.same s,s _ _ ep,{aZ,{mq,O,e},.inl rfl},P'.af s.af})};(σ',Z',{vo',rfl,B',ep,no,P'});{_,O,fa,.ref (F 0),O,.inl {eO F 9,.inr "births",.inl (B'.out dk nfa nff),O,(fe F 0 ⋯).symm},.inl {O,_,aD.of B'.eb},_,O,_,O,aI rfl,λbq Z6 g6 s6 e6=>{F 0,bs,_,O,O,(B'.same s6).eb,cH (),?_}};B6':=B'.same s6;{po,go,hpo}:=no.af s6.af;hbk:bs.length+1=kn.length:=();ep6:=s6 _ _ ep;bx:AD Z6 bs.length (.ref bq):={bq,_,_,w,po,O,e6,do[hbk];{I,O,ep6},do[hbk];np,go,hpo};B7:=B6'.uN a bx.bt ();t7:aj Z6 (upd Z6 (F 0) (.lst (bs++[.ref bq]))):=aj.wl B6'.eb;ep7:=t7 _ _ ep6;P7:=((P'.af s6.af).uN bx).af t7;go7:=go.af t7;(by generalize upd Z6 (F 0) (.lst (bs++[.ref bq]))=Z7 at B7 ep7 go7 P7);{_,O,d,9,O,B7.dw,⋯,⋯,λi4 Z8 s8 w8 _ _=>{_,_,O,O,?_}};B8:=B7.draw a s8 w8;t8:=B7.dw.af s8;ep8:=t8 _ _ ep7;go8:=go7.af t8;P8:=P7.af t8;(by generalize decide ((0:Int)<i4)=ct);lw:∀x∈rs,bO x.ka x.kb ((j:Int)+1) 0:=λx h=>(by have:=hx x h;unfold bO at this ⊢;omega);gpt:∀{W:Hp},W I=!(.tup [.str w,.int ((kn.length:Nat):Int)])->GK W (.tup [.inr w,.inl ((kn.length:Nat):Int)]) (.ref I):=λe=>{I,O,e};tI (λσ' Z'=>xN λR U=>iD (σ'=[!(.ref d),!(.ref fa),!(.ref r),!(.ref kq),!(.bl wd),!(.int (0+(j:Int))),!(.ref I),!vo',!(.bl ct),none]) (PB H Z' d F kq kn (bs++[.ref bq]) R cs U cu) (Z' I=!(.tup [.str w,.int ((kn.length:Nat):Int)])) (lI Z' (bs++[.ref bq])/\R.length<=2 * j+1/\∀x∈U,bO x.ka x.kb ((j:Int)+1) 0)) (λNx q=>{_,O,ct,O,?_}) ?_;(by cases ct with|false|true=>?_);bX rfl (q _ _ {es,rs,O,B8,ep8,P8,(),lw});cj rfl {_,O,fa,.ref (F 1),O,.inl {eO F 9,.inr "places",.inl (B8.out dk nfa nff),O,(fe F 1 ⋯).symm},.inl {O,_,aD.of B8.ev},_,O,_,O,_,O,_,O,aI rfl,λcq Z9 g9 s9 e9=>{aI rfl,λt Z10 g10 s10 e10=>{F 1,es,_,O,O,((B8.same s9).same s10).ev,cH (),?_}}};S:=(B8.same s9).same s10;s810:=s9.trans s10;M:=s810 _ _ ep8;t11:aj Z10 (upd Z10 (F 1) (.lst (es++[.ref t]))):=aj.wl S.ev;q _ _ {es++[.ref t],rs++[{[.inr w,.inl ((kn.length:Nat):Int)],po,[.inr w,.inl ((kn.length:Nat):Int)],0+(j:Int),1}],O,S.place a {t,.ref I,vo',.ref I,cq,O,e10,gpt M,go8.af s810.af,gpt M,s10 _ _ e9} {np,hpo,np} (λx h=>do this:=hx x h;¬bO x.ka x.kb (0+(j:Int)) 1;(by unfold bO at this ⊢);()) (),t11 _ _ M,(P8.af s810.af).af t11,do[qg,qr];(),λx h=>?_};h||h:=qz.mp h;lw x h;[qo.mp h];¬bO (0+(j:Int)) 1 ((j:Int)+1) 0;@bO;();(σ',Z9,{R,U,rfl,B9,ep9,P9,he9,hx9});lw9:∀x∈U,bO x.ka x.kb ((j:Int)+1) 1:=λx h=>(by have:=hx9 x h;unfold bO at this ⊢;omega);tI (λσ' Z'=>vX λes2 rs2 u7'=>iD (σ'=[!(.ref d),!(.ref fa),!(.ref r),!(.ref kq),!(.bl wd),!(.int (0+(j:Int))),!(.ref I),u7',!(.bl ct),none]) (PB H Z' d F kq kn (bs++[.ref bq]) es2 cs rs2 cu) (Z' I=!(.tup [.str w,.int ((kn.length:Nat):Int)])) (lI Z' (bs++[.ref bq])/\es2.length<=2 * j+2/\∀x∈rs2,bO x.ka x.kb ((j:Int)+1) 1)) (λNx q=>?_) ?_;pB (λb Z'=>PB H Z' d F kq kn (bs++[.ref bq]) R cs U cu/\Z' I=!(.tup [.str w,.int ((kn.length:Nat):Int)])/\lI Z' (bs++[.ref bq])) (λNb hNb=>{_,O,ct,O,?_}) ?_;(by cases ct with|false|true=>?_);bX rfl (hNb _ _ {B9,ep9,P9});cj rfl {_,O,d,3,O,B9.dw,⋯,⋯,λi Z4 G w4 _ _=>{O,_,O,hNb _ _ {B9.draw a G w4,B9.dw.af G _ _ ep9,P9.af (B9.dw.af G)}}};(b,Z',{B',ep,P'});(by cases b with|false|true=>?_);bX rfl (q _ _ {R,U,_,O,B',ep,P',(),lw9});cj rfl {_,O,_,O,_,O,kq,_,O,.inl (aD.of B'.ek),d,_,O,B'.dw,(),(),λi Z1 D w1 x1 y1=>{kq,kn,i,O,O,aD.of (B'.draw a D w1).ek,x1,y1,λvo2 hvo2=>?_}};C:=B'.draw a D w1;ep1:=B'.dw.af D _ _ ep;P1:=P'.af (B'.dw.af D);{p2,gp2,hp2}:=C.vU.np hvo2;er1:=C.out er rd rf;{_,O,fa,.ref (F 1),O,.inl {eO F 9,.inr "places",.inl (C.out dk nfa nff),O,(fe F 1 ⋯).symm},.inl {O,_,aD.of C.ev},_,O,_,O,_,O,r,_,0,_,O,O,aD.of er1,O,_,O,_,_,O,O,aI rfl,λmq Z3 g3 y e3=>{_,O,_,_,O,O,aI rfl,λcq Z4 g4 G e4=>{aI rfl,λt Z5 g5 J e5=>{F 1,R,_,O,O,(((C.same y).same G).same J).ev,cH (),?_}}}};B5:=((C.same y).same G).same J;s15:=(y.trans G).trans J;ep5:=s15 _ _ ep1;t6:aj Z5 (upd Z5 (F 1) (.lst (R++[.ref t]))):=aj.wl B5.ev;q _ _ {R++[.ref t],U++[{[.inr w,.inl ((kn.length:Nat):Int)],p2,[.inr "ann",.inl (20+(0+(j:Int)))],0+(j:Int)+1,0}],_,O,B5.place (r:={[.inr w,.inl ((kn.length:Nat):Int)],p2,[.inr "ann",.inl (20+(0+(j:Int)))],0+(j:Int)+1,0}) a {t,.ref I,vo2,.ref mq,cq,O,e5,gpt ep5,gp2.af s15.af,{mq,O,(G.trans J) _ _ e3},J _ _ e4} {np,hp2,A3 (do 0)} (λx h=>do this:=hx9 x h;¬bO x.ka x.kb (0+(j:Int)+1) 0;(by unfold bO at this ⊢);()) (),t6 _ _ ep5,(P1.af s15.af).af t6,do[List.length_append,List.length_singleton];(),λx h=>?_};h||h:=qz.mp h;lw9 x h;[qo.mp h];¬bO (0+(j:Int)+1) 0 ((j:Int)+1) 1;@bO;();(σ',Z10,{es2,rs2,u7',rfl,S,M,P10,he10,hx10});tI (λσ' Z'=>xN λcs' cu'=>iD (σ'=[!(.ref d),!(.ref fa),!(.ref r),!(.ref kq),!(.bl wd),!(.int (0+(j:Int))),!(.ref I),u7',!(.bl ct),none]) (PB H Z' d F kq kn (bs++[.ref bq]) es2 cs' rs2 cu') (Z' I=!(.tup [.str w,.int ((kn.length:Nat):Int)])) (lI Z' (bs++[.ref bq])/\cs'.length<=j+1)) (λNx q=>?_) ?_;{_,O,d,8,O,S.dw,⋯,⋯,λi Z1 D w1 _ _=>{O,_,O,?_}};C:=S.draw a D w1;ep1:=S.dw.af D _ _ M;P1:=P10.af (S.dw.af D);hz<|i=0;er1:=C.out er rd rf;cj (qH (do[hz])) {_,O,fa,.ref (F 2),O,.inl {eO F 9,.inr "cuts",.inl (C.out dk nfa nff),O,(fe F 2 ⋯).symm},.inl {O,_,aD.of C.ec},_,O,_,O,r,_,1,_,O,O,aD.of er1,O,_,O,_,_,O,O,aI rfl,λmq Z3 g3 y e3=>{aI rfl,λt Z5 g5 J e5=>{F 2,cs,_,O,O,((C.same y).same J).ec,cH (),?_}}};B5:=(C.same y).same J;ep5:=(y.trans J) _ _ ep1;t6:aj Z5 (upd Z5 (F 2) (.lst (cs++[.ref t]))):=aj.wl B5.ec;q _ _ {cs++[.ref t],cu++[[.inr w,.inl ((kn.length:Nat):Int)]],O,B5.cut a {t,.ref I,.ref mq,[.inr "bo",.inl (30+(0+(j:Int)))],O,e5,gpt ep5,.inr np,{mq,O,J _ _ e3},A3 (do 0)} (),t6 _ _ ep5,(P1.af (y.trans J).af).af t6,do[List.length_append,List.length_singleton];()};bX (decide_eq_false λz=>hz (by injection z)) (q _ _ {cs,cu,O,C,ep1,P1,()});(σ',Z11,{cs',cu',rfl,B11,ep11,P11,hc11});{_,O,.inl {O,_,aD.of B11.ek},_,O,kq,kn,_,O,O,B11.ek,cH (),?_};q _ _ {kn++[.ref I],_,_,_,_,_,_,_,_,_,O,B11.PP a fk (gpt ep11) (.inr np),do[qg,hk];2,{do[qg,hb];2,P11.af (aj.wl B11.ek)},(),(),λx h=>do this:=hx10 x h;¬bO x.ka x.kb ((j+1:Nat):Int) 1;(by unfold bO at this ⊢);()};(σ,Z,{kn,bs,es,cs,rs,cu,u5,u6,u7,u8,rfl,B,hk,{hb,P},he,hc,hx});hcn:c.toNat<=14:=();{_,O,fa,.ref (F 1),O,.inl {eO F 9,.inr "places",.inl (B.out dk nfa nff),O,(fe F 1 ⋯).symm},F 1,O,{_,aD.of B.ev},cK (xs:=es) (mZ ()) (λj us Z'=>Z'=Z/\us.length<=j/\∀u∈us,∃p,GK Z (.tup p) u/\Nm p) {O,qb _,λu z=>nomatch z} (λ_ _ Z' s'=>do[s'.1];aD.of B.ev) (λj x us Z' K1 K0 hx' s' k1 k0=>?_) λZ1 Y us s' hu N=>?_};{rfl,ul,ru}:=s';{r',er',pc}:=B.fi.pc.at hx';hw:=(B.fi.w r' (qu er')).pt;{b,vp,vo,vn,kq',rfl,h1,h2,h3,h4,h5}:=pc;eA (B:=K0 Z') ?_;{_,O,b,_,0,_,O,O,aS.of h1,O,k1 _ _ {O,do[qg];Nat.add_le_add_right ul 1,λu hu=>?_}};hu||hu:=qz.mp hu;ru u hu;[qo.mp hu];{_,h2,hw};{rfl,ul,ru}:=s';n1:ag Z1 (upd Z1 Y (.lst us)):=ag.new N;C:=B.same n1;e1:(upd Z1 Y (.lst us)) Y=!(.lst us):=aF;ru1:∀u∈us,∃p,GK (upd Z1 Y (.lst us)) (.tup p) u/\Nm p:=λu h=>let⟨p,g,n⟩:=ru u h;{p,g.af n1.af,n};P1:=P.af n1.af;nl:Y≠d:=B.dw.ne N;nlf:∀{i},i<3->Y≠F i:=λ{i} h z=>(do this:i=0\/i=1\/i=2:=();rfl||rfl||rfl:=this;N<-[z,B.eb];-N;N<-[z,B.ev];-N;N<-[z,B.ec];-N);¬uO _ _ _ _ (upd Z1 Y (.lst us));(by generalize upd Z1 Y (.lst us)=Z2 at C e1 ru1 P1);{_,O,d,4,O,C.dw,⋯,⋯,λm Z3 y w3 m0 m1=>?_};{m,O,(),(),cG (lo:=0) (n:=m.toNat) (λj σ W=>Iq λes rs u5 u6=>∃u7,ot (σ=[!(.ref d),!(.ref fa),!(.ref r),!(.ref kq),!(.bl wd),u5,u6,u7,u8,!(.ref Y)]) (PB H W d F kq kn bs es cs rs cu) (W Y=!(.lst us)) (∀u∈us,∃p,GK W (.tup p) u/\Nm p) (lI W bs/\es.length<=28+j) (∀x∈rs,bO x.ka x.kb (20+(j:Int) / 2) ((j:Int) % 2))) {es,rs,_,_,_,O,C.draw a y w3,DP.to y e1 nl,λu h=>let⟨p,g,n⟩:=ru1 u h;{p,g.af (C.dw.af y),n},{P1.af (C.dw.af y),()},λx h=>by have:=hx x h;unfold bO at this ⊢;omega} ?_ ?_};(j,σ,W,hj,{es,rs,u5,u6,u7,rfl,B,el,ru,{P,he},hx},Nx,q);{ps,pa}:∃ps:List (List Key),AL (λu p=>GK W (.tup p) u/\Nm p) us ps:=let⟨ps,h1,h2⟩:=xH ru;{ps,h1.symm,h2};pd:dn W us (ps.map tD):=AL.iw (λv p g=>bC g.1) pa;{_,O,aI rfl,λzq W1 g1 D f1=>?_};{.list (ps.map tD),.list [],.lst (aD.of (D _ _ el)) (pd.same D).dv,.lst (aD.of f1) .nil,?_,O,?_,_,O,?_};(rC λk hk=>do _;{_,_,_,h}:=pa.ux hk;.inr h).1;qf (jk _ _) ⋯;C:=B.same D;el1:=D _ _ el;ru1:∀u∈us,∃p,GK W1 (.tup p) u/\Nm p:=λu h=>let⟨p,g,n⟩:=ru u h;{p,g.af D.af,n};P1:=P.af D.af;nx:∀x∈rs,bO x.ka x.kb (20+((j+1:Nat):Int) / 2) (((j+1:Nat):Int) % 2):=λx h=>(by have:=hx x h;unfold bO at this ⊢;omega);(by cases us with|nil|cons u0 us0=>?_);this:ps=[]:=yw.mp pa.1.symm;!this;bX rfl (q _ _ {es,rs,_,_,_,O,C,el1,ru1,{P1,()},nx});{p0,ps0,rfl}:∃p0 ps0,ps=p0::ps0:=(do(by cases ps with|nil|cons p0 ps0=>?_);this:=pa.1;-this;{p0,ps0,O});cj rfl ?_;hul:((u0::us0).length:Int)<=28:=(do this:=hu;());hu0:(0:Int)<((u0::us0).length:Nat):=(do[zf];());{_,O,_,O,_,O,Y,_,O,.inl (aD.of el1),d,_,O,C.dw,hu0,(),λi2 W2 s2 w2 x2 y2=>{Y,_,i2,O,O,aD.of (DP.to s2 el1 nl),x2,y2,λvp hvp=>?_}};B2:=C.draw a s2 w2;{_,O,_,O,_,O,kq,_,O,.inl (aD.of B2.ek),d,_,O,B2.dw,(),(),λi3 W3 y w3 x3 y3=>{kq,kn,i3,O,O,aD.of (B2.draw a y w3).ek,x3,y3,λvo hvo=>?_}};L:=B2.draw a y w3;t13:=(C.dw.af s2).trans (B2.dw.af y);{p1,gp1,hp1}:=ru1 vp hvp;{p2,gp2,hp2}:=L.vU.np hvo;er3:=L.out er rd rf;el3:=DP.to y (DP.to s2 el1 nl) nl;{_,O,fa,.ref (F 1),O,.inl {eO F 9,.inr "places",.inl (L.out dk nfa nff),O,(fe F 1 ⋯).symm},.inl {O,_,aD.of L.ev},_,O,_,O,_,O,r,_,0,_,O,O,aD.of er3,O,_,O,_,_,O,O,aI rfl,λmq W4 g4 G e4=>{_,O,_,_,O,O,{⋯,⋯},_,_,O,O,_,O,_,_,O,O,(by show(0:Int)<2;decide),aI rfl,λcq W5 g5 J e5=>{aI rfl,λt W6 g6 s6 e6=>{F 1,es,_,O,O,(((L.same G).same J).same s6).ev,cH (),?_}}}};B6:=((L.same G).same J).same s6;s36:=(G.trans J).trans s6;t7:aj W6 (upd W6 (F 1) (.lst (es++[.ref t]))):=aj.wl B6.ev;t17:=(t13.trans s36.af).trans t7;q _ _ {es++[.ref t],rs++[{p1,p2,[.inr "ann",.inl (35+(0+(j:Int)))],20+(0+(j:Int)) / 2,(0+(j:Int)) % 2}],_,_,_,O,B6.place (r:={p1,p2,[.inr "ann",.inl (35+(0+(j:Int)))],20+(0+(j:Int)) / 2,(0+(j:Int)) % 2}) a {t,vp,vo,.ref mq,cq,O,e6,gp1.af (t13.trans s36.af),gp2.af s36.af,{mq,O,(J.trans s6) _ _ e4},s6 _ _ e5} {hp1,hp2,A3 (do 0)} (λx h=>do this:=hx x h;¬bO x.ka x.kb (20+(0+(j:Int)) / 2) ((0+(j:Int)) % 2);(by unfold bO at this ⊢);()) (),do[az (nlf ⋯)];s36 _ _ el3,λu h=>let⟨p,g,n⟩:=ru1 u h;{p,g.af t17,n},{P1.af t17,do[List.length_append,List.length_singleton];()},λx h=>?_};h||h:=qz.mp h;nx x h;[qo.mp h];¬bO (20+(0+(j:Int)) / 2) ((0+(j:Int)) % 2) _ _;@bO;();(σ,W,{es,rs,u5,u6,u7,rfl,B,el,ru,{P,he},hx});{_,O,kk W kq kn bs es cs rs cu B.ro fk B.ek B.vU () () B.eb B.ev B.ec B.fi P}
def By(T:Txt K mg tk)(F:FO K mg "_law_sign" sJ)(e:gQ P w K mg base):An P w K mg base:=do aO F IJ (iP λ_ _=>rfl) {} λfa N A outer s H vs Q E n h=>?_;{_,(ax (sn IJ.nd 2 (cl e n 75)) (ax (bS (ck c8 (vv 2) aE) (aH (aR (bE (a2 aN (l_ SE aN xo (fj (aM c_ aE (cl e n 75)))))))) cX) (ax (bS (ck c8 (vv 2) aE) (aH (aR (bE (a2 aN (xa (vv 1) (cl e n (a2 (vv 0) (cb dE T.cf boot_len (a1 (vv 1)))))))))) cX) (aH (aR (jI D7 aN (cl e n 75) (λ_ _=>rfl))))))),?_};{d,l,us,rfl,I,M,nl,h0,h1,np,B}:=h;{_,O,d,8,O,I,⋯,⋯,λr H1 j o V W=>?_};{_,O,O,_,O,?_};U:=I.af j;G<|r=0;cj (qH (do[G])) ?_;{_,O,d,8,O,o,⋯,⋯,λC H2 s2 g a2 X=>?_};{k,rfl}:∃k:Nat,C=k:={C.toNat,()};{y,q}:=Fy k ();{_,_,O,O,_,O,"abcdefgh",O,aI rfl,aI rfl,λR t L f x=>B t _ (.tuple [.str "picture",.str _]) ((ag.j0 j s2).trans f) (g.same f) (.tup x (.cons (.str _) (.cons (.str _) .nil))) (.inr (.inl {_,O,q})) (IT ∅ (tL y))};bX (decide_eq_false λz=>G (by injection z)) ?_;{_,O,O,_,O,?_};D<|r=1;cj (qH (do[D])) ?_;m:=DP.to j M nl;{_,O,_,O,_,O,l,_,O,.inl (aD.of m),d,_,O,o,(),(),λi H2 s2 g a b=>{l,us,i,O,O,aD.of (DP.to s2 m nl),a,b,λv J=>{aI rfl,λR t L f x=>?_}}};{p,S,hp}:=(((np v J).af U).af (o.af s2)).af f.af;B t _ (.tuple [.str "refer",tD p]) ((ag.j0 j s2).trans f) (g.same f) (.tup x (.cons (.str _) (.cons (bC S) .nil))) (.inr (.inr {p,O,hp})) (IT ∅ (La hp.lay));bX (decide_eq_false λz=>D (by injection z)) ?_;{_,O,d,29,O,o,⋯,⋯,λi H2 s2 g a b=>?_};{k,rfl}:∃k:Nat,i=k:={i.toNat,()};{c,y,q}:=C6 k ();{_,_,c,O,O,aI rfl,y,B H2 _ (.str {#[c]}) (ag.j0 j s2) g (.str _) (.inl {_,O,do¬1<=10;by decide}) {q,O,q0 3}}
def FT(T:Txt K mg tk)(F:FO K mg "_law_side" rZ)(a:gQ P w K mg base):AE P w K mg base:=do aO F D9 (iP λ_ _=>rfl) {} λfa I A outer s H vs Q E m h=>?_;{_,(aH (aR (bE (a2 (xa (vv 1) (cl a m (a2 (vv 0) (cb dE T.cf boot_len (a1 (vv 1)))))) (xa (bQ (a2 aN aN)) (cl a m 75)))))),?_};{d,l,us,rfl,M,n,nl,h0,h1,z}:=h;{_,O,_,O,_,O,l,_,O,.inl (aD.of n),d,_,O,M,(),(),λr H1 p x C L=>{l,us,r,O,O,aD.of (DP.to p n nl),C,L,λv k=>?_}};{aI rfl,λj H2 G s2 D=>?_};e:j≠d:=x.ne G;{_,O,d,2,O,x.same s2,⋯,⋯,λJ N y q c i=>{j,_,J,O,O,aD.of (DP.to y D e),c,i,λw B=>{aI rfl,λt g R f o=>?_}}};b:ag (del H d) g:=(ag.j0 p (ag.sd s2 y)).trans f;(by ac_nf at B);rfl||rfl:=B;z g t v false b (q.same f) o k;z g t v true b (q.same f) o k
def Dm(T:Txt K mg tk)(F:FO K mg "_law_tables" oM)(q:gQ P w K mg base):AZ P w K mg base:=do aO F fT (wN λ_ _ _ _=>rfl) {} λfa cdv A outer s H vs Q E Y h=>?_;hu1:(A.deeper (envOfC "_law_tables" (ah oM) ↑s fa cdv)).units+1<cLine:=cS Y;{_,(aH (fo (il (l_ F4 (vv 3) xo (fj aE))) (gn fT.nd 4) (ax (sn fT.nd 5 (bQ dh)) (ax (sn fT.nd 6 (bQ dh)) (ax (fo (nJ (do 2) T.dM (a1 (cl q Y 75))) (gn fT.nd 7) (ax (sn fT.nd 8 (xa (bQ (a2 aN aN)) (cl q Y 75))) (ax (sn fT.nd 9 (bE (a2 (xl (vv 2)) (aM c_ (aM c_ aE (aM sI aE (bm PySem.F.plainAttrs_list PySem.F.slot_list_index PySem.F.type_list_index (Nv Y) (vv 3) (a1 (vv 4))))) (vv 7))))) (ax (sn fT.nd 10 (bE (a2 (aM c_ (aM c_ aE (aM sI aE (bm PySem.F.plainAttrs_list PySem.F.slot_list_index PySem.F.type_list_index (Nv Y) (vv 3) (a1 (vv 4))))) (aM lg (vv 7) aE)) (aM eP (vv 7) aE)))) (ax (ap (cL hu1 (vv 1) aN (λ_ _=>rfl)) (a1 (bE (ac (vv 4) (ac (vv 8) (ac (vv 9) (ac eV (a2 (vv 10) (ce eM (cl q Y 75) aE))))))))) (aH (ap (xa (bQ (a2 (vv 5) (vv 6))) (cy IU T.zI boot_int (a1 (ce c8 (vv 8) aN)))) (a1 (vv 9))))))))) (aH (fo (nJ (do 2) T.dM (a1 (cl q Y 75))) (gn fT.nd 7) (aH (bS (rX (PW.pt (gJ (ck (vR Y) (vv 5) (bQ dh)) (hZ (ck (vR Y) (vv 6) (bQ dh)))))) (ax (sn fT.nd 11 (xa (vv 5) (cl q Y (a2 (vv 0) (cb dE T.cf boot_len (a1 (vv 5))))))) (ax (sn fT.nd 12 (xa (vv 6) (cl q Y (a2 (vv 0) (cb dE T.cf boot_len (a1 (vv 6))))))) (ax (sn fT.nd 13 (xa (bQ (ac aN (a2 aN aN))) (cl q Y 75))) (ax (sn fT.nd 10 (bE (a2 (aM c_ (aM c_ aE (aM sI aE (bm PySem.F.plainAttrs_list PySem.F.slot_list_index PySem.F.type_list_index (Nv Y) (vv 3) (a1 (vv 4))))) (aM lg (vv 7) aE)) (aM eP (vv 7) aE)))) (aH (ap (cL hu1 (vv 1) aN (λ_ _=>rfl)) (a1 (bE (ac (vv 4) (ac (vv 11) (ac (vv 12) (a2 (vv 13) (vv 10))))))))))))) cX))))))))),?_};{d,fa,r,kq,F,kn,rfl,dw,dk,e6,e7,er,ek,hkn,k0,k1,rd,kd',fr,n67,kk}:=h;n6:F 6≠d:=(fr 6 ⋯).1;n7:F 7≠d:=(fr 7 ⋯).1;nfd:fa≠d:=λz=>(do _;{_,_,e}:=dw;e<-[<-z,dk];-e);nf6:fa≠F 6:=λz=>(do e6<-[<-z,dk];-e6);nf7:fa≠F 7:=λz=>(do e7<-[<-z,dk];-e7);r6:r≠F 6:=(fr 6 ⋯).2.1;r7:r≠F 7:=(fr 7 ⋯).2.1;q6:kq≠F 6:=(fr 6 ⋯).2.2;q7:kq≠F 7:=(fr 7 ⋯).2.2;{_,O,3,O,kq,kn,O,aD.of ek,λsq H1 g1 U e1=>?_};sd:sq≠d:=dw.ne g1;s6:sq≠F 6:=λz=>(do g1<-[z,e6];-g1);s7:sq≠F 7:=λz=>(do g1<-[z,e7];-g1);lc:(ef kn none (some 3)).length<=15:=qf (EF _ _ _) k1;B1:UB H1 H1 d F (90+10 * ((0:Nat):Int)) (100+10 * ((0:Nat):Int)) 0 (150+10 * ((0:Nat):Int)) 0 (λ_=>⟨[],"",[],none,0,0,false⟩) 0 (λ_=>⟨[],[],[],"",0,0⟩) 0 [] []:={Rest.refl,dw.same U,U _ _ e6,.nil,{q0 _,(λi j _ z=>nomatch z),(λi z=>nomatch z),(λi z=>nomatch z),(λi z=>nomatch z),(λi z=>nomatch z)},(λi z=>nomatch z),(λi z=>nomatch z),(λi z=>nomatch z),U _ _ e7,.nil,{q0 _,(λi j _ z=>nomatch z),(λi z=>nomatch z),(λi z=>nomatch z)},(λi z=>nomatch z)};{sq,O,{_,aD.of e1},bH (xs:=ef kn none (some 3)) (λj σ Z=>Ae λL l C c ls cs u4 u5=>Ae λu6 u7 u8 u9 g x J I=>ot (σ=[!(.ref d),!(.ref fa),!(.ref r),!(.ref kq),u4,u5,u6,u7,u8,u9,g,x,J,I]) (UB H1 Z d F (90+10 * (j:Int)) (100+10 * (j:Int)) 0 (150+10 * (j:Int)) 0 L l C c ls cs) (l<=5 * j) (c<=4 * j) (ls.length=l) (cs.length=c)) {_,_,_,_,_,_,_,_,_,_,_,_,_,_,_,_,O,B1,qb _,qb _,O,O} ?_ ?_ ?_};(by rintro j σ Z - ⟨L,l,C,c,ls,cs,u4,u5,u6,u7,u8,u9,g,x,J,I,rfl,B,-⟩);aD.of (B.out e1 sd s6 s7);(j,vp,σ,Z,hx,{L,l,C,c,ls,cs,u4,u5,u6,u7,u8,u9,g,x,J,I,rfl,B,hl,hc,S,N},Nx,M);hj:j<15:=zh (qw.mp hx).1 lc;hxk:=Q3 hx;kn1:=hkn.af U.af;nt:∀b,(b=d\/b=F 6\/b=F 7)->∀xs,H1 b≠some (.tup xs):=λb z ys e=>(do(by rcases z with z|z|z <;> subst z);{_,_,e'}:=dw;e<-[U _ _ e'];-e;e<-[U _ _ e6];-e;e<-[U _ _ e7];-e);knz:∀{Z':Hp},Rest H1 Z' (λb=>b=d\/b=F 6\/b=F 7)->KN Z' kn:=λr=>kn1.af (nQ r nt);{aI rfl,λrq Z1 g1' f e1'=>{aI rfl,λcq Z2 g2 s2 e2=>?_}};{rq0,D,rq6,rq7}:=B.free g1';{cq0,G,cq6,cq7}:=(B.same f).free g2;rc:rq≠cq:=λz=>(do g2<-[<-z,e1'];-g2);B2:=(B.same f).same s2;R2:RC Z2 rq cq [] [] 0:={s2 _ _ e1',e2,(λu z=>nomatch z),(λu z=>nomatch z),qb _,qb _};{_,O,d,5,O,B2.dw,⋯,⋯,λi3 Z3 s3 w3 x3 y3=>?_};{i3,O,(),(),cG (lo:=0) (n:=i3.toNat) (λk σ Z=>Ae λL l ls us vs u7 u8 u9=>∃g,iD (σ=[!(.ref d),!(.ref fa),!(.ref r),!(.ref kq),!vp,!(.ref rq),!(.ref cq),u7,u8,u9,g,x,J,I]) (UB H1 Z d F (90+10 * (j:Int)+(k:Int)) (100+10 * (j:Int)+(k:Int) / 2) ((k:Int) % 2) (150+10 * (j:Int)) 0 L l C c ls cs) (RC Z rq cq us vs k) (l<=5 * j+k/\ls.length=l)) {_,_,_,_,_,_,_,_,_,O,(B2.draw n6 n7 s3 w3).up (Int.le_of_eq ()) (λa b h=>tN () h) (λa b h=>h),R2.draw B2.dw D G s3,(),S} ?_ ?_};(k,σ,W,hk,{L,l,ls,us,vs,u7,u8,u9,g,rfl,B,R,hl,S},Nx,M);{aI rfl,λy1 Z1 g1 f f1=>{_,O,d,2,O,(B.same f).dw,⋯,⋯,λi2 Z2 s2 w2 x2 y2=>{y1,_,i2,O,O,aD.of (DP.to s2 f1 (B.dw.ne g1)),x2,y2,λvw hvw=>?_}}};{wy,rfl,wyo}:∃wy,vw=.str wy/\PyData.strOk wy=true:=(by ac_nf at hvw;rcases hvw with h|h <;> exact{_,h,∅});B2:=(B.same f).draw n6 n7 s2 w2;R2:=(R.same f).draw (B.same f).dw D G s2;ek2:=B2.out (U _ _ ek) kd' q6 q7;{p,ds,gp2,pn,dv,nT,la,lal,dep,ix1,ix2}:=(knz B2.ro).idx hxk;{_,O,r,_,1,_,O,O,aD.of (B2.out (U _ _ er) rd r6 r7),O,_,O,.inl {O,_,aD.of ek2},_,O,_,_,kq,ds,kn,j,O,O,dv,aD.of ek2,nT,la,lal,dep,ix1,ix2,_,_,O,O,.inl {⋯,⋯},_,_,O,O,_,O,_,_,O,O,aI rfl,λq3 Z3 g3 s3' e3=>?_};e3<-[Int.zero_add];B3:=B2.same s3';R3:=R2.same s3';ek3:=s3' _ _ ek2;{p',ds',gp3,pn',dv',dvs',la',lal',dep',ix1',ix2'}:=(knz B3.ro).idx hxk;{_,O,.inl {O,_,aD.of ek3},_,O,_,_,kq,ds',kn,j,O,O,dv',aD.of ek3,dvs',la',lal',dep',ix1',ix2',_,_,O,O,.inl {⋯,⋯},_,_,O,O,_,O,_,_,O,O,{⋯,⋯},_,_,O,O,_,O,_,_,O,O,(by decide:(0:Int)<2),aI rfl,λq4 Z4 g4 s4 e4=>?_};e4<-[Int.zero_add];B4:=B3.same s4;R4:=R3.same s4;{_,O,fa,.ref (F 6),O,.inl {eO F 9,.inr "lines",.inl (B4.out (U _ _ dk) nfd nf6 nf7),O,(fe F 6 ⋯).symm},.inl {O,_,aD.of B4.e6},_,O,_,O,_,O,_,O,_,O,d,4,O,B4.dw,⋯,⋯,λi5 Z5 s5 w5 x5 y5=>{_,_,O,O,aI rfl,λX Z6 g6 t e6'=>{F 6,ls,_,O,O,((B4.draw n6 n7 s5 w5).same t).e6,cH (),?_}}};B5:=B4.draw n6 n7 s5 w5;B6:=B5.same t;R6:=(R4.draw B4.dw D G s5).same t;t46:=(B4.dw.af s5).trans t.af;t36:=s4.af.trans t46;e36:=t36 _ _ e3;B7:=B6.line (X':=90+10 * (j:Int)+((k+1:Nat):Int)) (A':=100+10 * (j:Int)+((k+1:Nat):Int) / 2) (B':=((k+1:Nat):Int) % 2) (r:={p,wy,[.inr "bo",.inl (90+10 * (j:Int)+(k:Int))],none,100+10 * (j:Int)+(k:Int) / 2,(k:Int) % 2,_}) n6 n67 () {X,_,_,_,q4,O,e6',gp2.af (s3'.af.trans t36),{q3,O,e36},O,t46 _ _ e4} rfl rfl rfl rfl pn.lay wyo () (do@bO;());R7:=R6.wr (o:=.lst (ls++[.ref X])) B6.e6 rq6 cq6;t7:aj Z6 (upd Z6 (F 6) (.lst (ls++[.ref X]))):=aj.wl B6.e6;e37:=t7 _ _ e36;(by generalize upd Z6 (F 6) (.lst (ls++[.ref X]))=Z7 at B7 R7 e37);{_,O,_,O,aI rfl,λy8 Z8 g8 s8 f8=>?_};B8:=B7.same s8;R8:=R7.same s8;e38:=s8 _ _ e37;(by generalize hbb:decide (V.str wy=V.str "column")=bb);ixw:((if bb=true then 1 else 0:Int))<2:=(by cases bb <;> decide);{_,O,O,.inr {bb,do[hbb],y8,_,_,O,O,aD.of f8,by cases bb <;> decide,ixw,λv hv=>?_}};np:Pn [.inr "bo",.inl (90+10 * (j:Int)+(k:Int))]:=.inr (A3 (do 0));vc:v=.ref rq\/v=.ref cq:=(by simpa only[List.mem_cons,List.not_mem_nil,or_false] using hv);lu:=R8.lu;lv:=R8.lv;rfl||rfl:=vc;⟨.inl ⟨O,_,aD.of R8.er⟩,_,O,rq,us,_,O,O,R8.er,cH (),?_⟩;M _ _ ⟨_,_,_,_,_,_,_,_,_,O,B8.own R8.er rq0 D rq6 rq7,R8.row rc (p:=[.inr "bo",.inl (90+10 * (j:Int)+(k:Int))]) ⟨q3,O,e38⟩ np,(),do[qg,qr,S]⟩;⟨.inl ⟨O,_,aD.of R8.ec⟩,_,O,cq,vs,_,O,O,R8.ec,cH (),?_⟩;M _ _ ⟨_,_,_,_,_,_,_,_,_,O,B8.own R8.ec cq0 G cq6 cq7,(R8.turn.row rc.symm (p:=[.inr "bo",.inl (90+10 * (j:Int)+(k:Int))]) ⟨q3,O,e38⟩ np).turn,(),do[qg,qr,S]⟩;(σ,W,{L,l,ls,us,vs,u7,u8,u9,g,rfl,B,R,hl,S});R5:=R.le (show i3.toNat<=5 from ());{_,O,d,4,O,B.dw,⋯,⋯,λm Z3 s3 w3 x3' y3'=>?_};{m,O,(),(),cG (lo:=0) (n:=m.toNat) (λk σ Z=>Ae λC c cs u7 g x J I=>iD (σ=[!(.ref d),!(.ref fa),!(.ref r),!(.ref kq),!vp,!(.ref rq),!(.ref cq),u7,u8,u9,g,x,J,I]) (UB H1 Z d F (90+10 * ((j+1:Nat):Int)) (100+10 * ((j+1:Nat):Int)) 0 (150+10 * (j:Int)+(k:Int) / 2) ((k:Int) % 2) L l C c ls cs) (RC Z rq cq us vs 5) (c<=4 * j+k/\cs.length=c)) {_,_,_,_,_,_,_,_,O,(B.draw n6 n7 s3 w3).up () (λa b h=>tN () h) (λa b h=>tN () h),R5.draw B.dw D G s3,(),N} ?_ ?_};(k,σ,W,hk,{C,c,cs,u7,g,x,J,I,rfl,B,R,hc,N},Nx,M);pB (λb Z=>(b=true->us≠[]/\vs≠[])/\UB H1 Z d F (90+10 * ((j+1:Nat):Int)) (100+10 * ((j+1:Nat):Int)) 0 (150+10 * (j:Int)+(k:Int) / 2) ((k:Int) % 2) L l C c ls cs/\RC Z rq cq us vs 5) (λNb hNb=>?_) ?_;{ps,pl,pd,lay}:=II R.ru;{_,O,aI rfl,λzq W1 g1 f f1=>{.list (ps.map tD),.list [],.lst (aD.of (f _ _ R.er)) (pd.same f).dv,.lst (aD.of f1) .nil,lay,O,qf (jk _ _) ⋯,_,O,?_}};B1:=B.same f;R1:=R.same f;(by cases us with|nil|cons w0 ws0=>?_);this:ps=[]:=yw.mp pl.symm;!this;bX rfl (hNb _ _ {(λz=>nomatch z),B1,R1});{p0,ps0,rfl}:∃p0 ps0,ps=p0::ps0:=(do(by cases ps with|nil|cons p0 ps0=>?_);-pl;{p0,ps0,O});cj rfl ?_;{qs,ql,qd,qlay}:=II R1.cu;{_,O,aI rfl,λzq W2 g2 s2 f2=>{.list (qs.map tD),.list [],.lst (aD.of (s2 _ _ R1.ec)) (qd.same s2).dv,.lst (aD.of f2) .nil,qlay,O,qf (jk _ _) ⋯,_,O,?_}};hNb _ _ {λz=>{(λy=>nomatch y),λy=>?_},B1.same s2,R1.same s2};!y;this:qs=[]:=yw.mp ql.symm;!this;-z;(b,Z,{hb,B,R});(by cases b with|false|true=>?_);bX rfl (M _ _ {C,c,cs,_,_,_,_,_,O,B.up (Int.le_refl _) (λa b h=>h) (λa b h=>tN () h),R,(),N});cj rfl ?_;{u1,v1}:=hb rfl;u0:0<us.length:=nr.mpr u1;v0:0<vs.length:=nr.mpr v1;lu:=R.lu;lv:=R.lv;{_,O,_,O,_,O,rq,_,O,.inl (aD.of R.er),d,_,O,B.dw,(),(),λi1 Z1 f w1 x1 y1=>{rq,us,i1,O,O,aD.of (DP.to f R.er D),x1,y1,λva hva=>?_}};B1:=B.draw n6 n7 f w1;R1:=R.draw B.dw D G f;{pa,ga,na}:=R1.ru va hva;{_,O,_,O,_,O,cq,_,O,.inl (aD.of R1.ec),d,_,O,B1.dw,(),(),λi2 Z2 s2 w2 x2 y2=>{cq,vs,i2,O,O,aD.of (DP.to s2 R1.ec G),x2,y2,λvb hvb=>?_}};B2:=B1.draw n6 n7 s2 w2;R2:=R1.draw B1.dw D G s2;{pb,gb,nb}:=R2.cu vb hvb;{aI rfl,λy3 Z3 g3 s3 f3=>{_,O,d,3,O,(B2.same s3).dw,⋯,⋯,λi4 Z4 s4 w4 x4 y4=>{y3,_,i4,O,O,aD.of (DP.to s4 f3 (B2.dw.ne g3)),x4,y4,λvw hvw=>?_}}};{wd,rfl,hwd}:∃wd,vw=.str wd/\NG wd:=(do(by ac_nf at hvw);h||h||h:=hvw;⟨_,h,.inl rfl⟩;⟨_,h,.inr (.inl rfl)⟩;⟨_,h,.inr (.inr (.inl rfl))⟩);B4:=(B2.same s3).draw n6 n7 s4 w4;R4:=(R2.same s3).draw (B2.same s3).dw D G s4;t24:=s3.af.trans ((B2.same s3).dw.af s4);ek4:=B4.out (U _ _ ek) kd' q6 q7;{p,ds,gp4,pn,dv,nT,la,lal,dep,ix1,ix2}:=(knz B4.ro).idx hxk;{_,O,.inl {O,_,aD.of ek4},_,O,_,_,kq,ds,kn,j,O,O,dv,aD.of ek4,nT,la,lal,dep,ix1,ix2,_,_,O,O,.inl {⋯,⋯},_,_,O,O,_,O,_,_,O,O,{⋯,⋯},_,_,O,O,_,O,_,_,O,O,(by decide:(0:Int)<2),aI rfl,λq5 Z5 g5 s5 e5=>?_};e5<-[Int.zero_add];B5:=B4.same s5;{_,O,fa,.ref (F 7),O,.inl {eO F 9,.inr "cells",.inl (B5.out (U _ _ dk) nfd nf6 nf7),O,(fe F 7 ⋯).symm},.inl {O,_,aD.of B5.e7},_,O,_,O,_,O,_,O,_,O,aI rfl,λX Z6 g6 t e6'=>{F 7,cs,_,O,O,(B5.same t).e7,cH (),?_}};B6:=B5.same t;s46:=s5.trans t;t26:=t24.trans s46.af;t16:=(B1.dw.af s2).trans t26;M _ _ {_,_,_,_,_,_,_,_,O,B6.cell (A':=150+10 * (j:Int)+((k+1:Nat):Int) / 2) (B':=((k+1:Nat):Int) % 2) (r:={p,pa,pb,wd,150+10 * (j:Int)+(k:Int) / 2,(k:Int) % 2}) n7 n67 () {X,_,_,_,q5,O,e6',gp4.af s46.af,ga.af t16,gb.af t26,t _ _ e5} rfl rfl {pn.lay,na.lay,nb.lay} hwd (do@bO;()),(R4.same s46).wr B6.e7 rq7 cq7,(),do[qg,qr,N]};(σ,W,{C,c,cs,u7,g,x,J,I,rfl,B,R,hc,N});M _ _ {L,l,C,c,ls,cs,_,_,_,_,_,_,_,_,_,_,O,B.up (Int.le_refl _) (λa b h=>h) (λa b h=>tN () h),(),(),S,N};(σ,Z,{L,l,C,c,ls,cs,u4,u5,u6,u7,u8,u9,g,x,J,I,rfl,B,hl,hc,S,N});kk Z L l C c ls cs (λb o e n=>B.ro b o (U _ _ e) n) B.e6 B.al B.wl B.e7 B.ac B.wc
def Es(T:Txt K mg tk)(F:FO K mg "_law_leaves" pN)(c:gQ P w K mg base):AJ P w K mg base:=do aO F rY (wN λ_ _ _ _=>rfl) {} λfa M A outer s H vs Q E t h=>?_;hu1:(A.deeper (envOfC "_law_leaves" (ah pN) ↑s fa M)).units+1<cLine:=cS t;{_,(aH (fo (nJ (do 2) T.dM (a1 (cl c t 75))) (gn rY.nd 4) (ax (sn rY.nd 5 (xa (vv 3) (cl c t (a2 (vv 0) (cb dE T.cf boot_len (a1 (vv 3))))))) (ax (sn rY.nd 6 (xa (vv 2) (cl c t (a2 (vv 0) (cb dE T.cf boot_len (a1 (vv 2))))))) (ax (sn rY.nd 7 (xa (bQ (ac aN (ac aN (ac aN (a2 aN aN))))) (cl c t 75))) (aH (ap (cL hu1 (vv 1) aN (λ_ _=>rfl)) (a1 (bE (ac (vv 5) (ac (vv 6) (ac (vv 7) (a2 (ce eM (cl c t 75) aE) (bE (a2 (aM c_ aE (aM lg (vv 4) aE)) (aM eP (vv 4) aE)))))))))))))))),?_};{d,fa,r,kq,F,kn,rfl,dw,dk,G,er,ek,k0,k1,np,n1,n2,k,n4,n5,kk}:=h;nd:fa≠d:=λz=>(do _;{_,_,e}:=dw;e<-[<-z,dk];-e);n8:fa≠F 8:=λz=>(do G<-[<-z,dk];-G);hX:∀b,(b=d\/b=F 8)->∃xs,H b=!(.lst xs):=λb J=>(do rfl||rfl:=J;{_,_,e}:=dw;{_,e};{_,G});{_,O,d,7,O,dw,⋯,⋯,λm H1 x R m0 m1=>?_};L1:wD H H1 d (F 8) [] []:={Rest.refl.del (.inl rfl) x,R,DP.to x G k,.nil};{_,O,(),(),cG (lo:=0) (n:=m.toNat) (λj σ Z=>Gy λys ls u4 X Y u7=>iD (σ=[!(.ref d),!(.ref fa),!(.ref r),!(.ref kq),u4,X,Y,u7]) (wD H Z d (F 8) ys ls) (ys.length=j) (LS ls/\∀l∈ls,bO l.ka l.kb (200+(j:Int) / 2) ((j:Int) % 2))) {[],[],_,_,_,_,O,L1,O,.nil,λl z=>nomatch z} ?_ ?_};(j,σ,Z,hj,{ys,ls,u4,X,Y,u7,rfl,L,hl,i,f},Nx,hNx);out:∀{b:UJ} {o:HO} {W:Hp} {zs:List V} {ms:List Lf},wD H W d (F 8) zs ms->b≠d->b≠F 8->H b=!o->W b=!o:=λL a1 a2 e=>L.rs _ _ e λz=>z.elim a1 a2;{_,O,_,O,_,O,kq,_,O,.inl (aD.of (out L n2 n5 ek)),d,_,O,L.dw,(),(),λi1 Z1 x R a1 b1=>{kq,kn,i1,O,O,aD.of (DP.to x (out L n2 n5 ek) n2),a1,b1,λvp hvp=>?_}};D:=L.draw k x R;{_,O,_,O,_,O,r,_,O,.inl (aD.of (out D n1 n4 er)),d,_,O,D.dw,by show(0:Int)<2;decide,by show(2:Int)<1000;decide,λi2 Z2 s2 d2 a2 b2=>{r,_,i2,O,O,aD.of (DP.to s2 (out D n1 n4 er) n1),a2,b2,λvh y=>?_}};L3:=D.draw k s2 d2;{aI rfl,λtl H4 g4 s4 e4=>?_};L4:=L3.same s4;nt:tl≠d:=L3.dw.ne g4;{_,O,d,5,O,L4.dw,⋯,⋯,λi3 Z3 s3 d3 a3 b3=>{tl,_,i3,O,O,aD.of (DP.to s3 e4 nt),a3,b3,λvt B=>?_}};I:=L4.draw k s3 d3;{hd,rfl,U}:∃z,vh=.str z/\PyData.strOk z=true:=(by ac_nf at y;rcases y with h|h <;> exact{_,h,∅});{tt,rfl,S}:∃z,vt=.str z/\PyData.strOk z=true:=(by ac_nf at B;rcases B with h|h|h|h|h <;> exact{_,h,∅});{_,O,fa,.ref (F 8),O,.inl {eO F 9,.inr "leaves",.inl (out I nd n8 dk),O,(fe F 8 ⋯).symm},.inl {O,_,aD.of I.ey},_,O,_,O,_,O,_,O,d,3,O,I.dw,⋯,⋯,λi4 Z4 s5 d5 a4 b4=>?_};L6:=I.draw k s5 d5;{_,_,O,O,_,O,_,_,O,O,{⋯,⋯},_,_,O,O,_,O,_,_,O,O,(by show(0:Int)<2;decide),aI rfl,λcq Z5 g5 s6 e5=>{aI rfl,λN Z6 g6 s7 e6=>?_}};q:=(L6.same s6).same s7;{F 8,ys,_,O,O,q.ey,cH (),?_};C:aj Z6 (upd Z6 (F 8) (.lst (ys++[.ref N]))):=aj.wl q.ey;{p,gp,hp}:=(np vp hvp).af (q.rs.af hX);hNx _ _ {ys++[.ref N],ls++[{p,hd,tt,decide (0<i4),200+(0+(j:Int)) / 2,(0+(j:Int)) % 2}],_,_,_,_,O,{q.rs.wr (.inr rfl),?_,aF,?_},do[qg,hl];2,?_,λl h=>?_};{a,b,e}:=q.dw;{a,b,do[az k.symm];e};(q.lr.imp λv l g=>LX.af g C).snoc {N,vp,cq,O,C _ _ e6,gp.af C,hp,C _ _ (s7 _ _ e5),U,S};m3.mpr {i,gw _ _,λa ha b J=>?_};[qo.mp J];this:=f a ha;¬bO a.ka a.kb (200+(0+(j:Int)) / 2) ((0+(j:Int)) % 2);(by unfold bO at this ⊢);();h||h:=qz.mp h;this:=f l h;(by unfold bO at this ⊢);();[qo.mp h];¬bO (200+(0+(j:Int)) / 2) ((0+(j:Int)) % 2) _ _;@bO;();(σ,Z,{ys,ls,u4,X,Y,u7,rfl,L,hl,i,f});kk Z ys ls L.rs L.ey L.lr i (do this:=L.lr.1;())
def Eo(T:Txt K mg tk)(F:FO K mg "told_leaves" sj)(o:zN P w K mg base):AV P w K mg base:=do aO F E_ (vV λ_ _ _=>rfl) {} λfa cdv A outer s H vs Q E hr h=>?_;{_,(ax (sn E_.nd 3 kT) (ax (fo (il (Km o hr T.cN boot_sorted (a1 (vv 0)))) (gn E_.nd 4) (aH (bS (PW.pt (gJ (ck c8 (xt (vv 4)) (vv 1)) (hZ (ck c8 (xt (vv 4)) (vv 2))))) (aH (kD (cW hr) (vv 3) (xt (vv 4)) (xt (vv 4)) rfl)) cX))) (aH (aR (vv 3))))),?_};{p,ys,ls,f,tt,rfl,hp,G,Y,bY,kk}:=h;(dq,H1,g1,S,e1);J:ys.length=ls.length:=G.1;{_,O,p,ys,ls.map λa=>.tuple [.int a.ka,.int a.kb],2,O,hp.same S,do[qh,J],rD λd f=>do _;{i,_,rfl}:=qc.mp f;.inl {_,_,O},{(),.inl ()},λm y d H' Q' q1 L s q=>?_,λq H2 ix W s2 I U=>?_};L<-[qv];{a,e,Z}:=G.at q1;L<-[e];-L;{y,a,O,Z.af (S.trans s).af,λkv hk=>q H' _ (ag.refl _) hk.dv};R:=S.trans s2;C:ix.map (λi=>ys.getD i .aV)=ys:=(do[Mq Y I,<-J];yc λm=>?_;[qv];N<|m<ys.length;[yg N,qe N];¬some (ys.getD m .aV)=_;[ze,qe N];2;[ww (do[zg];()),ww ()];2);U<-[C];D:q≠dq:=λz=>(do W<-[z];W<-[e1];-W);fd:H dq=none:=g1;{q,O,{_,aD.of U},Dc (xs:=ys) (λj σ g=>∃kvs X,σ=[!(.ref p),!(.str f),!(.str tt),!(.ref dq),X]/\ag H g/\g q=!(.lst ys)/\g dq=! 69/\kvs.length<=j/\∀k,vG kvs (.tup k)=(bR f tt (ls.take j) k).map V.bl) {[],_,O,R,U,s2 _ _ e1,qb _,λk=>rfl} (λj σ g _ ⟨_,_,_,_,e,_⟩=>aD.of e) ?_ ?_};(j,x,σ,g,hx,{kvs,X,rfl,n,eq,r,M,inv});hj:j<ys.length:=(qw.mp hx).1;{l,el,Z}:=G.at hx;{b,vp,c,rfl,t,pv,_,ec,_}:=Z.af n.af;tk:ls.take (j+1)=ls.take j++[l]:=(do[qy,el];2);{_,O,b,_,1,_,O,O,aS.of t,O,_,O,O,_,O,?_};no:¬(l.hd=f/\l.to=tt)->∀k,vG kvs (.tup k)=(bR f tt (ls.take (j+1)) k).map V.bl:=λh k=>(do[tk,Co,qB (λz=>h z.2),nh];inv k);v<|l.hd=f;cj (do[iK];qH v) ?_;{_,O,b,_,2,_,O,O,aS.of t,O,_,O,O,_,O,?_};B<|l.to=tt;cj (do[iK];qH B) ?_;{_,O,b,_,3,_,O,O,aS.of t,O,_,O,_,O,b,_,0,_,O,O,aS.of t,O,dq,kvs,.tup l.pt,O,r,pv,cH (),?_};{_,_,O,n.wr fd,do[az D];eq,aF,qf (iz _ _ _ _) (),λk=>?_};[eE,tk,Co];z<|l.pt=k;[qE (do[z]),qE {z,v,B}];2;[qB λy=>z (KD.tup.inj y).symm,qB λy=>z y.1,nh];inv k;bX (do[iK];decide_eq_false B) ?_;{kvs,_,O,n,eq,r,(),no λz=>B z.2};bX (do[iK];decide_eq_false v) (bX rfl ?_);{kvs,_,O,n,eq,r,(),no λz=>v z.1};(σ,g,{kvs,X,rfl,n,eq,r,M,inv});inv<-[J,zd];{_,O,kk g dq kvs n fd r inv}
def Gq(T:Txt K mg tk)(F:FO K mg "followers_of" tO)(v:Ai P w K mg base):Am P w K mg base:=do aO F CO (mI λ_=>rfl) {} λfa cdv A outer s H vs Q E hr h=>?_;{_,(ax (sn CO.nd 1 kT) (ax (fo (il (Km v hr T.cN boot_sorted (a1 (vv 0)))) (gn CO.nd 2) (aH (ap (bm PySem.F.plainAttrs_dict PySem.F.slot_dict_setdefault PySem.F.type_dict_setdefault (MZ (cW hr)) (vv 1) (a2 (xt (vv 2)) (bQ dh))) (a1 (xt (vv 2)))))) (aH (aR (vv 1))))),?_};{p,ys,nk,bh,D,ms,js,t,rfl,hp,L,eqj,W,kk}:=h;!eqj;n:ms.Perm ms:=.refl _;(dq,H1,g1,N,e1);hyl:ys.length=ms.length:=(do[L.1,n.length_eq]);bY:=W.bY;{_,O,p,ys,ms.map D,t,O,hp.same N,do[qh,L.1],W.keys,{(),.inr (z9.mpr W.up)},λm y d H' Q' q1 q2 s q=>?_,λq H2 ix g2 s2 B e2=>?_};{k,M,pl}:=L.at q1;q2<-[qv,M];-qJ q2;{y,nk,bh,D,k,O,pl.af (N.trans s).af,λkv hk=>q H' _ (ag.refl _) hk.dv};U:∀i∈ix,i<ys.length:=λi hi=>(do this:=(B.1.mem_iff).mp hi;this<-[qj,qh];[L.1];this);a2:=L.ix ix U;a2<-[tu n W.up B];(by generalize ix.map (λi=>ys.getD i .aV)=zs at e2 a2);hzl:zs.length=ms.length:=a2.1;Z:=N.trans s2;fq:H q=none:=N.free g2;{q,O,{_,aD.of e2},bH (xs:=zs) (λj σ o=>xN λkvs u2=>ot (σ=[!(.ref p),!(.ref dq),u2]) (ag H o) (o q=!(.lst zs)) (FD nk bh ms (ms.take j) H o dq kvs) (kvs.length<=j) (∀k,vG kvs k≠some (.ref q))) {[],none,O,Z,e2,{s2 _ _ e1,g1,λk _=>.inl {O,O},λk k' q z=>(do-z),λk q z=>(do-z)},qb _,λk z=>(do-z)} (λj σ o _ ⟨_,_,_,_,e,_,_,_⟩=>aD.of e) ?_ ?_};(j,x,σ,o,hx,{kvs,u2,rfl,J,eq,fd,I,nq},Nx,C);{m,S,pl}:=a2.at hx;hmm:m∈ms:=qu S;hj:j<ms.length:=(qw.mp S).1;G:ms.take (j+1)=ms.take j++[m]:=(do[qy,S];2);X:∀i,bh m=!i->i∈ms:=λi e=>Rga.Mp W.wf hmm e;{b,vn,vb,vk,rfl,V,hn,hbk,hd}:=pl.af J.af;{_,O,.inr (.inr (.inl {O,.inr (.inr {kvs,fd.has})})),_,O,b,_,1,_,O,O,aS.of V,O,aI rfl,λg H4 f c Y=>?_};a:=fd.same c;t4:=J.trans c;f0:H g=none:=J.free f;{dq,kvs,kd nk (bh m),vb,.ref g,O,O,a.has,hbk.af c.af,kK (),λu r=>?_,λr=>?_};{h1,_}||{q',vs,h1,h2,h3,h4}:=a.each (bh m) X;r<-[h1];-r;r<-[h1];-r;vl:vs.length<=2000:=(do[h3.1];@kids;qf (wg _ _) (do[wb];()));{.inl {O,_,aD.of h2},_,O,b,_,0,_,O,O,aS.of (c _ _ V),O,q',_,_,O,O,h2,kK (),?_};C _ _ {kvs,_,O,t4.wr h4,?_,?_,(),nq};[az (λz=>nq _ (do[z];h1))];c _ _ eq;[G];a.old W.inj X h1 h2 (hn.af c.af);nz:g≠dq:=λz=>(do f<-[z,fd.has];-f);{.inl {O,_,aD.of (do[az nz];Y)},_,O,b,_,0,_,O,O,aS.of (aj.wd a.has _ _ (c _ _ V)),O,g,_,_,O,O,(do[az nz];Y),kK (do¬0<=_;()),?_};R:∀k,vG kvs k≠some (.ref g):=λk z=>(do _;{xs,y}:=fd.live k g z;f<-[y];-f);C _ _ {pG kvs (kd nk (bh m)) vb (.ref g),_,O,(t4.wr g1).wr f0,?_,?_,qf (iz kvs _ _ _) (j7 I),λk z=>?_};n1:q≠g:=λz=>(do f<-[<-z,eq];-f);n2:q≠dq:=λz=>(do eq<-[z,fd.has];-eq);[az n1,az n2];c _ _ eq;[G];a.first W.inj X r f0 Y R (hn.af c.af);z<-[eE];M<|k=kd nk (bh m);z<-[qE M];-z;f<-[eq];-f;z<-[qB M];nq k z;(σ,o,{kvs,u2,rfl,J,eq,fd,I,nq});fd<-[hzl,zd];{_,O,kk o dq kvs J fd}
def Ej(T:Txt K mg tk)(F:FO K mg "telling_in_row" mS)(gfAy:Aj P w K mg base)(gfBo:mM P w K mg base)(gfBy:pO P w K mg base):AF P w K mg base:=do aO F rO (vV λ_ _ _=>rfl) {} λfa cdv A outer s H vs Q E hr h=>?_;hu1:(A.deeper (envOfC "telling_in_row" (ah mS) ↑s fa cdv)).units+1<cLine:=cS hr;{_,(ax (sn rO.nd 3 (cl gfBo hr (a1 (vv 2)))) (ax (sn rO.nd 4 D8) (ax (fo (il (Km gfAy hr T.cN boot_sorted (a1 (m2 (ah mS) yR [("part",1)] (il (cL hu1 (vv 0) aN (λ_ _=>rfl))) (λ_ _ _=>(dJ (ck (BG hr) (xt (vv 0)) (vc 1)))) (λ_ _ _=>(vv 0)))))) (gn rO.nd 5) (ax (sn rO.nd 6 (bm PySem.F.plainAttrs_dict PySem.F.slot_dict_setdefault PySem.F.type_dict_setdefault RI (vv 4) (a2 (xt (vv 5)) (aM I0 (bQ (a1 eV)) (cb dE T.cf boot_len (a1 (vv 2))))))) (ax (sn rO.nd 7 (cl gfBy hr (ac (vv 3) (a2 (xt (vv 5)) (xt (vv 5)))))) (aH (RH (vv 6) (fj (xt (vv 7))) (fj (xt (vv 7))) (aM I0 (bQ (a1 (vv 5))) (aM Bm (xt (vv 7)) (xt (vv 7)))) rfl))))) (aH (aR (vv 4)))))),?_};{fa,F,S,n,M,m,N,q,xs,ms,ns,vp,pt,rp,rv,rfl,fs,gvp,hlay,erp,ar,kk}:=h;W:=fs.ws;WM:=fs.wm;inj:Inj (cm S) 67:=λi hi j hj=>W.inj i (fN W hi) j (fN W hj);C:∀{d:Sd},dC S n pt d->d9 67 d:=λo i b z=>(gF W).mpr (o i b z);hml:ms.length=m:=(do[fs.ma.1,zg]);fewm:=WM.bY;hrl:rv.length<=1400:=(do[ar.1];qf (iS W) W.bY);{_,O,rp,rv,cm S,aB S n pt,O,erp,ar,mC W,inj,qf (iS W) W.bY,λH2 dq kvs s2 g2 e2 hse=>?_};(p,H4,g4,B,e4);s04:=s2.trans B;f4:=fs.same s04;erp4:=s04 _ _ erp;edq4:=B _ _ e2;gtq:H p=none:=s2.free g4;{_,O,fa,.ref (F 4),O,(f4.dk.get 4 ⋯),F 4,O,{_,aD.of f4.ml},cK (xs:=ms) (cJ ()) (λj ys H'=>H'=H4/\AN (λv i=>MN S M H4 v i/\v=ms.getD i .aV) ys (((List.range m).take j).filter λi=>decide ((M i).pt=pt))) {O,.nil} (λ_ _ H' s'=>do[s'.1];aD.of f4.ml) (λj x ys H' K1 K0 hx s' k1 k0=>?_) λH5 lp ys s' hy hq=>?_};{rfl,ay}:=s';{i,ei,nn}:=f4.ma.at hx;hin:i<m:=qj.mp (qu ei);hj:j<m:=(do[<-hml];(qw.mp hx).1);eij:i=j:=(do ei<-[yg hj];(qJ ei).symm);nn':MN S M H' x i/\x=ms.getD i .aV:={nn,do[eij,ze,hx];2};{b,vq,vb,ve,vn,kq,rfl,h1,h2,h3,h4,h5,h6}:=nn;tk:(List.range m).take (j+1)=(List.range m).take j++[i]:=(do[qy,ei];2);{_,O,b,_,0,_,O,O,aS.of h1,O,_,O,tD (M i).pt,tD pt,(bC h2).dv,(bC (gvp.af s04.af)).dv,(WM.lay i hin).1,hlay,qf (je _ _) (qf (dB _) ⋯),_,O,?_};eqp:(if false=true then not (PyData.eqv (tD (M i).pt) (tD pt)) else PyData.eqv (tD (M i).pt) (tD pt))=decide ((M i).pt=pt):=fH _ _;hp<|(M i).pt=pt;cj (do[eqp];qH hp) {_,O,k1 _ _ {O,?_}};[tk];AN.pick (vs:=ms) ay nn' (qH hp);bX (do[eqp];decide_eq_false hp) (k0 _ {O,?_});[tk];ay.skip (do 0<|hp);{rfl,ay}:=s';ay<-[hml,jd (do[zg];qb _)];ay:AN (λv i=>MN S M H5 v i/\v=ms.getD i .aV) ys (aG M m pt):=ay;n5:ag H5 (upd H5 lp (.lst ys)):=ag.new hq;e5:(upd H5 lp (.lst ys)) lp=!(.lst ys):=aF;D:AN (λv i=>MN S M (upd H5 lp (.lst ys)) v i/\v=ms.getD i .aV) ys (aG M m pt):=ay.imp λv i g=>{MN.af g.1 n5.af,g.2};(by generalize upd H5 lp (.lst ys)=H6 at n5 e5 D);hin:∀i∈aG M m pt,i<m/\(M i).pt=pt:=λi hi=>{qj.mp (qk.mp hi).1,qN (qk.mp hi).2};mup:(aG M m pt).Pairwise λa b=>bN (.tuple [.int (M a).ka,.int (M a).kb]) (.tuple [.int (M b).ka,.int (M b).kb])=true:=((tS m).imp_of_mem λ{a b} ha hb h=>gT (WM.up a b h (qj.mp hb))).filter _;keys:KeysAre ((aG M m pt).map λi=>.tuple [.int (M i).ka,.int (M i).kb]) 2:=rD λd hd=>(do _;{i,_,rfl}:=qc.mp hd;.inl {_,_,O});hyl:ys.length<=70:=(do hy<-[hml];());{lp,ys,(aG M m pt).map λi=>.tuple [.int (M i).ka,.int (M i).kb],2,O,aD.of e5,do[qh,D.1],keys,{(),.inr (z9.mpr mup)},λmm y d H' Q' q1 q2 s q=>?_,λsq H7 ix g7 s7 six e7=>?_};{k,ek,nn}:=D.at q1;q2<-[qv,ek];-qJ q2;{y,S,M,k,O,nn.1.af s.af,λkv G=>q H' _ (ag.refl _) G.dv};hix:∀i∈ix,i<ys.length:=λi hi=>(do this:=(six.1.mem_iff).mp hi;this<-[qj,qh];[D.1];this);a2:=D.ix ix hix;a2<-[tu (.refl _) mup six];(by generalize ix.map (λi=>ys.getD i .aV)=zs at e7 a2);hzl:zs.length<=70:=(do[a2.1,<-D.1];hyl);a7:AN (λv i=>MN S M H7 v i/\v=ms.getD i .aV) zs (aG M m pt):=a2.imp λv i g=>{MN.af g.1 s7.af,g.2};X:=n5.trans s7;s07:=s04.trans X;etq7:=X _ _ e4;nsq:sq≠p:=(a_ (n5 _ _ e4) g7).symm;ndq:dq≠p:=a_ e2 g4;nrp:rp≠p:=a_ (s2 _ _ erp) g4;edq7:=X _ _ edq4;erp7:=X _ _ erp4;g7H:∀{a:UJ},H7 a=none->H a=none:=λh=>s07.free h;{sq,O,{_,aD.of e7},bH (xs:=zs) (λj σ Z=>Iq λ(tv:List (Key×V)) (u5:Option V) (u6:Option V) (u7:Option V)=>iD (σ=[!(.ref fa),!vp,!(.ref rp),!(.ref dq),!(.ref p),u5,u6,u7]) (ag (del H7 p) Z) (Z p=!(.dK tv)) (TK M 67 ((aG M m pt).take j) ms (λa=>H7 a=none/\a≠p) Z tv)) {[],none,none,none,O,ox,etq7,{O,(λkd G=>nomatch G),λkd G=>nomatch G}} (λj σ Z _ ⟨_,_,_,_,_,r,_,_⟩=>aD.of (DP.to r e7 nsq)) ?_ ?_};(j,x,σ,Z,hx,{tv,u5,u6,u7,rfl,sZ,eZ,tk},Nx,hNx);{i,ei,nn,hxm}:=a7.at hx;{hi,hpt}:=hin i (qu ei);tZ:aj H7 Z:=λa ys e=>DP.to sZ e (λz=>do e<-[z,etq7];-e);{b,vq,vb,ve,vn,kq,rfl,h1,h2,h3,h4,h5,h6}:=MN.af nn tZ;hsb:dC S n pt (M i).b:=(do[<-hpt];(WM.sd i hi).1);L:dC S n pt (M i).e:=(do[<-hpt];(WM.sd i hi).2);tk':(aG M m pt).take (j+1)=(aG M m pt).take j++[i]:=(do[qy,ei];2);hls1:=xr (C hsb);hls2:=xr (C L);hrv:rv.length=(aB S n pt).length:=ar.1;hj:j<70:=(do this:=(qw.mp hx).1;());htv:tv.length<=70:=(do e:=congrArg List.length tk.keys;e<-[qh,qh];[e];qf (DX _ []) ?_;[wb];¬0+_<=_;());erpZ:=DP.to sZ erp7 nrp;edqZ:=DP.to sZ edq7 ndq;{_,O,.inr (.inr (.inl {O,.inl {tv,eZ}})),_,O,b,_,3,_,O,O,aS.of h1,O,aI rfl,λl1 Z1 g1 s1 e1=>{_,O,rp,rv,O,.inl (aD.of (s1 _ _ erpZ)),l1,(rv.length:Int),_,O,O,e1,(),(),cJ (do[Int.toNat_natCast];¬1 * rv.length<=2000;()),λI Z2 g2 s2 e2=>?_}};f:=s1.trans s2;eZ2:=f _ _ eZ;tk2:=tk.same f;R:Z I=none:=s1.free g2;{p,tv,.inr (M i).kd,.ref I,O,O,eZ2,cH (),λu hu=>?_,λhn=>?_};G:(M i).kd∈kinds M ((aG M m pt).take j):=Classical.byContradiction λz=>(do this:=tk.no.mpr z;hu<-[this];-hu);{a,ha,{fa1,fa2},hva}:=tk2.val _ G;hu<-[ha];-hu;{_,O,_,O,b,_,1,_,O,O,aS.of (f _ _ h1),O,_,O,b,_,2,_,O,O,aS.of (f _ _ h1),O,dq,kvs,S,aB S n pt,vb,ve,(M i).b,(M i).e,O,(f _ _ edqZ),hse,h3.af f.af,C hsb,h4.af f.af,C L,λZ3 Y s3 e3=>?_};{_,O,aI rfl,λl4 Z4 g4 B e4=>{_,O,Y,_,1,_,O,O,aS.of (B _ _ e3),O,_,O,Y,_,0,_,O,O,aS.of (B _ _ e3),O,_,_,O,O,l4,_,_,O,O,e4,(),(),cJ (do¬1 * _<=2000;()),λc5 Z5 g5 s5 e5=>?_}};t:=(s3.trans B).trans s5;J:=s5 _ _ (B _ _ e3);e5<-[yG,show((max (bG 67 (M i).b) (bG 67 (M i).e):Nat) - (bG 67 (M i).b:Nat):Int).toNat=max (bG 67 (M i).b) (bG 67 (M i).e) - bG 67 (M i).b from ()];ea5:=t _ _ hva;nac:a≠c5:=a_ ((s3.trans B) _ _ hva) g5;{_,O,_,O,Y,_,0,_,O,O,aS.of J,O,_,O,_,O,Y,_,1,_,O,O,aS.of J,O,_,O,a,c5,_,_,bG 67 (M i).b,max (bG 67 (M i).b) (bG 67 (M i).e),O,O,nac,ea5,aD.of e5,O,O,(),do[p8];(),(do[p8,gg,sizeLine_eq];()),?_};[show V.ref b=ms.getD i .aV from hxm,Lj rfl rfl () ()];hNx _ _ {tv,_,_,_,O,(ag.trans sZ (f.trans t)).wr (do[bW fa2];fa1),do[az fa2.symm];t _ _ eZ2,?_};[tk'];(tk2.same t).old G ha rfl;G:=tk.no.mp hn;U:I≠p:=(a_ eZ R).symm;e2<-[Int.toNat_natCast,hrv,yG,<-Ou (ms:=ms) G];r2:∀c o,c≠p->Z2 c=!o->(upd Z2 p (.dK (putK tv (.inr (M i).kd) (.ref I)))) c=!o:=λc o h e=>(do[az h];e);tx:aj Z (upd Z2 p (.dK (putK tv (.inr (M i).kd) (.ref I)))):=λc ys e=>r2 c _ (λz=>do e<-[z,eZ];-e) (f _ _ e);sn:ag (del H7 p) (upd Z2 p (.dK (putK tv (.inr (M i).kd) (.ref I)))):=(ag.trans sZ f).wr eG;en:(upd Z2 p (.dK (putK tv (.inr (M i).kd) (.ref I)))) p=!(.dK (putK tv (.inr (M i).kd) (.ref I))):=aF;e2n:=r2 _ _ U e2;edqn:=r2 _ _ ndq (f _ _ edqZ);h1n:=tx _ _ h1;(by generalize upd Z2 p (.dK (putK tv (.inr (M i).kd) (.ref I)))=Zn at r2 tx sn en e2n edqn h1n);{_,O,_,O,b,_,1,_,O,O,aS.of h1n,O,_,O,b,_,2,_,O,O,aS.of h1n,O,dq,kvs,S,aB S n pt,vb,ve,(M i).b,(M i).e,O,edqn,hse,h3.af tx,C hsb,h4.af tx,C L,λZ3 Y s3 e3=>?_};{_,O,aI rfl,λl4 Z4 g4 B e4=>{_,O,Y,_,1,_,O,O,aS.of (B _ _ e3),O,_,O,Y,_,0,_,O,O,aS.of (B _ _ e3),O,_,_,O,O,l4,_,_,O,O,e4,(),(),cJ (do¬1 * _<=2000;()),λc5 Z5 g5 s5 e5=>?_}};t:=(s3.trans B).trans s5;J:=s5 _ _ (B _ _ e3);e5<-[yG,show((max (bG 67 (M i).b) (bG 67 (M i).e):Nat) - (bG 67 (M i).b:Nat):Int).toNat=max (bG 67 (M i).b) (bG 67 (M i).e) - bG 67 (M i).b from ()];ea5:=t _ _ e2n;nac:I≠c5:=a_ ((s3.trans B) _ _ e2n) g5;{_,O,_,O,Y,_,0,_,O,O,aS.of J,O,_,O,_,O,Y,_,1,_,O,O,aS.of J,O,_,O,I,c5,_,_,bG 67 (M i).b,max (bG 67 (M i).b) (bG 67 (M i).e),O,O,nac,ea5,aD.of e5,O,O,(),do[p8];(),(do[p8,gg,sizeLine_eq];()),?_};[show V.ref b=ms.getD i .aV from hxm,Lj rfl rfl () ()];hNx _ _ {putK tv (.inr (M i).kd) (.ref I),_,_,_,O,(ag.trans sn t).wr (sZ.free R),do[az U.symm];t _ _ en,?_};[tk'];nev:∀kd c,bJ tv (.inr kd)=!(.ref c)->c≠I:=λkd c e z=>(do hkd:kd∈kinds M ((aG M m pt).take j):=Classical.byContradiction λy=>(do e<-[tk.no.mpr y];-e);{c',q1,_,q3}:=tk.val kd hkd;q1<-[e];-q1;q3<-[z,R];-q3);TK.new {tk.keys,λkd hkd=>?_,tk.ne} G {?_,U} nev rfl aF;{c,q1,q2,q3}:=tk2.val kd hkd;{c,q1,q2,do[az (nev kd c q1)];t _ _ (r2 _ _ q2.2 q3)};this:=sZ.free R;this<-[bW U];this;(σ,Z,{tv,u5,u6,u7,rfl,sZ,eZ,tk});tk<-[show zs.length=(aG M m pt).length from a2.1,zd];{_,O,kk Z p tv (λb o e=>DP.to sZ (s07 _ _ e) (a_ e gtq)) gtq eZ {tk.keys,λkd G=>let⟨a,h1,h2,h3⟩:=tk.val kd G;{a,h1,{g7H h2.1,h2.2},h3},tk.ne}}
def BU(T:Txt K mg tk)(F:NV K mg "greatest_place" sF bD)(hB:base.BuiltinsAt mg bD):Ap P w K mg base:=do Je F ET (iP λ_ _=>rfl) {} λfa cdv A outer s H vs Q E hC N h=>?_;{_,(aH (aR (OY (k:=0) (y:="one") (z:="telling") (i:=0) rfl hC hB (N.mono ⋯) (do 2) T.Aw boot_max {O,O,O,∅,O,O,∅} rfl rfl (λ_ h=>g_ h) rfl rfl (λ_ _ _ _ _=>rfl) (λ_ _ _ _ _ _ _ N=>(xt (dI (cW N) (vf 1) (vv 0) (λ_ _=>rfl)))) (a1 (vv 1))))),?_};{Z,X,kt,xs,ws,ls,rfl,V,U,p,G,n,L,M,tb,kk}:=h;nla:X≠hH:=λz=>(do _;{ps,t}:=tb.cn;t<-[<-z,G];-t);{_,O,tb,λH2 t2 sd=>?_};s2:ag (del H hH) H2:=λb o e=>ox _ _ (sd _ _ e);D:=My.jU tb s2 G λps z=>nomatch z;tt:=yT tb s2;f:=U.imp λe x q=>q.imp (R':=gM H2) tt λr=>r.af tt;B:=Ur tb s2 V λps z=>nomatch z;d:=n.imp λv k q=>fh.af q tt;R:ws.length=ls.length:=n.1;hl0:0<ls.length:=nr.mpr L;{X,ws,.ref Z,λm=>match fX xs (ls.getD m []) with|some x=>[x.ka,x.kb]|none=>[],O,aD.of D,(),O,λm y H' Q' S s' k=>?_,λm y Hn S g sn=>?_};{I,a,J}:=d.at S;c:=qu a;{x,hx,ex}:=qc.mp (gU.mp (M I c));C:=f.imp λe x q=>q.imp (R':=gM H') s'.af λr=>r.af s'.af;{v,hv,b,vp,vo,vn,kq,rfl,h1,h2,Y,h4,h5}:=rr C p hx;eD:ls.getD m []=x.pt:=(do[ze,a];ex.symm);J<-[<-ex];{_,O,_,O,Z,kt,.tup x.pt,.ref b,O,Rd.same B s',GK.af J s'.af,hv,b,_,3,.ref kq,O,O,aS.of h1,O,k H' _ (ag.refl _) ?_};¬DV H' (.ref kq) (.tuple ((match fX xs (ls.getD m []) with|some x=>[x.ka,x.kb]|none=>[]).map PyData.int));[eD,lZ p hx];.tup (aS.of h5) (.cons (.int _) (.cons (.int _) .nil));{I,a,J}:=d.at S;c:=qu a;kk Hn y I (s2.trans sn) (t2.same sn) c (λb hb=>?_) (fh.af J sn.af);({x,z,h1,h2,Y});{j,W,ej}:=z6.mp hb;this:=g j (do[R];W);e1:ls.getD m []=I:=(do[ze,a];2);e2:ls.getD j []=b:=(do[ze,qe W,ej];2);this<-#[_,e1,e2,h1,h2];this<-[show bN (.tuple ([x.ka,x.kb].map PyData.int)) (.tuple ([z.ka,z.kb].map PyData.int))=true from gT Y];-this
def GL(T:Txt K mg tk)(F:FO K mg "shown_among" lL)(gfAj:vF P w K mg base):sR P w K mg base:=do aO F wC (iP λ_ _=>rfl) {} λfa cdv A outer s H vs Q E M h=>?_;hu1:(A.deeper (envOfC "shown_among" (ah lL) ↑s fa cdv)).units+1<cLine:=cS M;{_,(ax (sm wC.nd 2 (cy (gZ M.hd (rR M)) T.c6 boot_dict (a1 (GQ (il (cL hu1 (vv 0) aN (λ_ _=>rfl))) (λ_ _ _=>ee) (λ_ _ _=>(bE (a2 (xt (vv 0)) dF))))))) (ax (sn wC.nd 3 (cy (gZ M.hd (rR M)) T.c6 boot_dict (a1 (jC (own:=["part","outer"]) (fr:=[("cut",2)]) rfl (rW (vv 1)) {O,∅,∅} (mU (ah lL) ["facts","stands","cut","left","reaching"] rfl rfl (λ_ h=>g_ h) ∅ ∅ ∅) (λ_ _ _=>(lB (n:=2) rfl (dD (cZ (i:=0) (do¬List.Nodup (["part","outer","cut"]:List UK);by decide +kernel) rfl (Or.inl rfl)) (dD (cZ (i:=1) (do¬List.Nodup (["part","outer","cut"]:List UK);by decide +kernel) rfl (Or.inl rfl)) kY)))) (λ_=>p7 rfl rfl ⋯) (λ_ _ _=>(dJ (ck (yH (cW M)) (vv 0) (vc 2)))) (λ_ _ _=>(bE (a2 (vv 0) (vv 1)))))))) (ax (sn wC.nd 4 (cl gfAj M (a1 (vv 3)))) (aH (aR (cy (gZ M.hd (rR M)) T.c6 boot_dict (a1 (jC (own:=["part","comes"]) (fr:=[]) rfl (rW (vv 4)) {O,∅,∅} (jE ∅) (λ_ _ _=>(lB (n:=2) rfl (dD (cZ (i:=0) (do¬List.Nodup (["part","comes"]:List UK);by decide +kernel) rfl (Or.inl rfl)) (dD (cZ (i:=1) (do¬List.Nodup (["part","comes"]:List UK);by decide +kernel) rfl (Or.inl rfl)) kY)))) (λ_=>p7 rfl rfl ⋯) (λ_ _ _=>(dJ (fm (vv 1)))) (λ_ _ _=>(bE (a2 (vv 0) dF))))))))))),?_};{fa,F,bs,es,cs,rs,cu,k,da,kd,zs,rfl,fb,hk,hda,akd,W,ma,kk}:=h;hcl:=fb.fi.cl;hfew:=W.bY;L:=W.C3 (lfp cu);{_,O,fa,.ref (F 2),O,(fb.dk.get 2 ⋯),F 2,O,{_,aD.of fb.ec},cK (xs:=cs) (mZ ()) (λj us X=>ag H X/\∃es:List 68,cw X us es/\AL (λe k=>e.1=nd k) es (cu.take j)) {ag.refl _,[],trivial,.nil} (λ_ _ X s=>aD.of (s.1 _ _ fb.ec)) (λj x us X K1 K0 hx s' k1 k0=>?_) λX np us s' hu hq=>?_};{C,d,I,m}:=s';{c,hc,p}:=fb.fi.ct.at hx;{b,vp,vn,y,rfl,h1,h2,h3,h4,h5}:=p.af C.af;eA (B:=K0 X) ?_;{_,O,b,_,0,vp,O,O,aS.of h1,O,aI rfl,λtq X4 g4 s4 e4=>k1 _ _ {C.trans s4,d++[(nd c,vp,.bl true)],cw.snoc (e:=(nd c,vp,.bl true)) {tq,O,e4,iq h3.ne (h2.af s4.af)} (I.af s4.af),?_}};[qy,hc];m.snoc rfl;{C,d,I,m}:=s';m<-[fb.fi.ct.1,zd];G:ag X (upd X np (.lst us)):=ag.new hq;{np,us,d,O,aD.of aF,I.af G.af,(),λca X2 g2 s2 e2=>?_};smC:fP (putAll [] d) (λk=>k∈cu):=λa=>(Jq m fP.nil a).trans {λz=>z.resolve_left id,.inr};(by generalize putAll [] d=kc at e2 smC);N:=(C.trans G).trans s2;fca:H ca=none:=(C.trans G).free g2;(by clear I m hq hu G s2 g2 C);nca:ca≠da:=λz=>(by rw[z]at fca;rcases hda with q|⟨o',q⟩ <;> rw[fca]at q <;> cases q);hda2:=Rd.same hda N;{_,O,da,kd,O,uH hda2 λo Y hY fY eY=>?_};tY:aj X2 Y:=λb us e=>hY b _ (λz=>do !z;by rcases hda2 with q|⟨o',q⟩ <;> rw[q]at e <;> cases e) e;tHY:=N.af.trans tY;ecY:=hY ca _ nca e2;aY:=akd.imp λe x q=>q.imp (R':=iH Y) tHY λr=>r.af tHY;xx (mZ (do[aY.1];())) (λj us X=>ag Y X/\∃es:List 68,cw X us es/\AL (EK (iH X) X) es ((zs.take j).filter (lfp cu))) {ag.refl _,[],trivial,.nil} (λ_ _ X s'=>s'.1 _ _ eY) (λj e us X p K1 K0 hx s' hp k1 k0=>?_) λX3 np us s' hy hq=>?_;{C,d,I,m}:=s';{r,M,p1,p2,p3}:=aY.at hx;sp:ag X (upd X p 76):=ag.new hp;ep:(upd X p 76) p=! 76:=aF;(by generalize upd X p 76=X1 at sp ep);t:=C.trans sp;hpt:r.pt≠[]:=(W.pt r (qu M)).ne;{p,_,O,aS.of ep,O,_,_,O,_,_,O,O,?_};{_,O,_,O,ca,kc,nd r.pt,O,.inl (t _ _ ecY),iq hpt (p2.af t.af),_,O,?_};[qE rfl];hin<|r.pt∈cu;[smC.yes hin];bX rfl (k0 _ {t,d,I.af sp.af,?_});[qy,M,vj,show(!r).toList=[r] from rfl,yj (do[Ir hin];qx),ye,wt];m.imp λe x p=>p.imp sp.af λq=>q.af sp.af;[smC.no hin];cj rfl ?_;{_,O,_,O,aI rfl,λt3 X3 g3 s3 e3=>?_};D:=sp.trans s3;k1 _ _ {C.trans D,d++[(.tup r.pt,e.2.1,e.2.2)],?_,?_};cw.snoc (e:=(.tup r.pt,e.2.1,e.2.2)) {t3,O,e3,(p2.af t.af).af s3.af} (I.af D.af);[qy,M,vj,show(!r).toList=[r] from rfl,yi (IK hin),ye];(m.imp λe x p=>p.imp D.af λq=>q.af D.af).snoc {O,(p2.af t.af).af s3.af,(iH.af p3 t.af).af s3.af};{C,d,I,m}:=s';m<-[aY.1,zd];G:ag X3 (upd X3 np (.lst us)):=ag.new hq;{np,us,d,O,aD.of aF,I.af G.af,?_,λla X4 g4 s4 e4=>?_};this:us.length<=kd.length:=hy;this:=aY.1;();e4<-[mH _ [] (do[we];xQ m L.nd),we];R:=(C.trans G).trans s4;al4:AL (EK (iH X4) X4) d (zs.filter (lfp cu)):=m.imp λe x p=>p.imp (G.trans s4).af λq=>q.af (G.trans s4).af;fla:Y la=none:=(C.trans G).free g4;(by clear m I hq hy G s4 g4 C);fla2:=fY _ fla;flaH:=N.free fla2;ma4:MA X4:=R.af _ _ (tHY _ _ ma);{_,O,la,d,zs.filter (lfp cu),O,.inl e4,al4,L,ma4,λX5 ra kr f s5 hla5 gra era rm rcr hkf=>?_};S:=R.free gra;fra2:=fY _ S;fraH:=N.free fra2;s5o:∀{b u},X4 b=!u->b≠la->X5 b=!u:=λe n=>s5 _ _ (do[bW n];e);hkl:=rm.bY L.bY;{_,O,ra,kr,O,uH (.inl era) λo2 U hU fU eU=>?_};tU:aj X5 U:=λb us e=>hU b _ (λz=>do !z;e<-[era];-e) e;Z:=rm.af tU;{ks,aks}:=AO Z.ent;xx (mZ ()) (λj us X=>ag U X/\∃es:List 68,cw X us es/\AL (λe k=>e.1=nd k/\e.1=.tup k/\GK X (.tup k) e.2.1) es ((ks.take j).filter λk=>decide (f k=!true))) {ag.refl _,[],trivial,.nil} (λ_ _ X s'=>s'.1 _ _ eU) (λj e us X p K1 K0 hx s' hp k1 k0=>?_) λX6 np us s' hy hq=>?_;{C,d,I,m}:=s';{a,ha,p1,p2,p3}:=aks.at hx;hv:=pW Z.kn hx p2;hv<-[Z.at_];{b,hb,hbv}:=wu.mp hv;{e1,J,e22}:=e;hbv:V.bl b=e22:=hbv;!hbv;sp:ag X (upd X p (.tup [J,.bl b])):=ag.new hp;ep:(upd X p (.tup [J,.bl b])) p=!(.tup [J,.bl b]):=aF;¬(_);(by generalize upd X p (.tup [J,.bl b])=X1 at sp ep);t:=C.trans sp;{p,_,O,aS.of ep,O,_,_,O,_,_,O,O,?_};(by cases b with|false|true=>?_);{_,O,_,O,bX rfl (k0 _ {t,d,I.af sp.af,?_})};[qy,ha,vj,show(!a).toList=[a] from rfl,yj (by rw[hb];decide),ye,wt];m.imp λe k p=>{p.1,p.2.1,p.2.2.af sp.af};{_,O,_,O,cj rfl {_,O,aI rfl,λt3 X3 g3 s3 e3=>?_}};D:=sp.trans s3;k1 _ _ {C.trans D,d++[(nd a,J,.bl true)],cw.snoc (e:=(nd a,J,.bl true)) {t3,O,e3,(GK.af p3 t.af).af s3.af} (I.af D.af),?_};[qy,ha,vj,show(!a).toList=[a] from rfl,yi (by rw[hb];decide),ye];hne:a≠[]:=(LQ rcr L hb).ne;(m.imp (P':=λe k=>e.1=nd k/\e.1=.tup k/\GK X3 (.tup k) e.2.1) λe k p=>{p.1,p.2.1,p.2.2.af D.af}).snoc (v:=(nd a,J,V.bl true)) {O,kB hne,AH hne ((GK.af p3 t.af).af s3.af)};{C,d,I,m}:=s';m<-[aks.1,zd];G:ag X6 (upd X6 np (.lst us)):=ag.new hq;{np,us,d,O,aD.of aF,I.af G.af,?_,λqa X7 g7 s7 e7=>?_};this:us.length<=kr.length:=hy;();smQ:fP (putAll [] d) (λk=>k∈ks.filter λk=>decide (f k=!true)):=λa=>(Jq (m.imp λe k p=>p.1) fP.nil a).trans {λz=>z.resolve_left id,.inr};sU7:=(C.trans G).trans s7;fqa:U qa=none:=(C.trans G).free g7;toU:∀{b u},H b=!u->b≠da->X7 b=!u:=λe n=>sU7 _ _ (hU _ _ (a_ e fraH) (s5o (R _ _ (hY _ _ n (N _ _ e))) (a_ e flaH)));eda7:X7 da=!(.du o (.dG kd)):=sU7 _ _ (hU _ _ (a_ eY S) (s5o (R _ _ eY) (a_ eY fla)));fqH:H qa=none:=(do h5:=fU _ fqa;(by cases q:H qa with|none|some u=>?_);2;z<|qa=da;fqa<-[z];fqa<-[hU _ _ (a_ eY S) (s5o (R _ _ eY) (a_ eY fla))];-fqa;h5<-[s5o (R _ _ (hY _ _ z (N _ _ q))) (a_ q flaH)];-h5);hmk:∀a,a∈ks.filter (λk=>decide (f k=!true))↔f a=!true:=λa=>(do _;{λz=>qN (qk.mp z).2,λh=>qk.mpr {?_,qH h}};hv:=Z.at_ a;hv<-[h];{e,he,e1}:=Ls hv;{k',hk',p}:=aks.mem he;[<-rM (p.2.1.symm.trans e1)];hk');hkn:(ks.map nd).Nodup:=(by have:=Z.kn;rwa [uF (g:=λk=>nd k) aks λe x p=>p.2.1]at this);hfn:(ks.filter λk=>decide (f k=!true)).Nodup:=List.Pairwise.filter _ (List.Pairwise.of_map _ (λa b h z=>h (do[z])) hkn);hen:(d.map (·.1)).Nodup:=(do[uF (g:=λk=>KD.tup k) m λe x p=>p.2.1];z9.mpr (hfn.imp λh z=>h (KD.tup.inj z)));kk X7 qa _ f (λb u e=>?_) (.inr {o,eda7}) fqH e7 rcr (λa=>(smQ a).trans (hmk a)) {_,?_,hfn,hmk};nb:b≠da:=λz=>(do e<-[z,eG];-e);e<-[bW nb];toU e nb;[mH _ [] (do[we];hen),we];m.imp λe k p=>{p.2.1,p.2.2.af (G.trans s7).af}
def F2(T:Txt K mg tk)(F:FO K mg "words_told" mL)(R:zJ P w K mg base):yW P w K mg base:=do aO F Nk (iP λ_ _=>rfl) {} λfa cdv A outer s H vs Q E U h=>?_;hu1:(A.deeper (envOfC "words_told" (ah mL) ↑s fa cdv)).units+1<cLine:=cS U;{_,(ax (sn Nk.nd 2 (Km R U T.cN boot_sorted (a1 (m2 (ah mL) Al [("part",1)] (il (cL hu1 (vv 0) aN (λ_ _=>rfl))) (λ_ _ _=>(dJ (ck (BG U) (xt (vv 0)) (vc 1)))) (λ_ _ _=>(vv 0)))))) (aH (aR (cy (gZ U.hd (rR U)) T.c6 boot_dict (a1 (GQ (il (vv 2)) (λ_ _ _=>ee) (λ_ _ _=>(bE (a2 (bE (a2 (xt (vv 0)) (xt (vv 0)))) (xt (vv 0))))))))))),?_};{fa,vp,pt,L,n,C,m,rfl,{Z,la,vs,ca,cs,rd,_,_,_,_,o,S,an,W},hvp,p,kk}:=h;N:cs.length=m:=(do[an.1,zg]);bY:=W.bY;{_,O,fa,.ref ca,O,.inl {Z,.inr "cells",rd,O,o.symm},ca,O,{_,aD.of S},cK (xs:=cs) (cJ ()) (λj ys H'=>H'=H/\AN (gP C H) ys (((List.range m).take j).filter λi=>decide ((C i).pt=pt))) {O,.nil} (λ_ _ H' s'=>do[s'.1];aD.of S) (λj x ys H' K1 K0 hx s' k1 k0=>?_) λH1 z ys s' hy hq=>?_};{rfl,Y}:=s';{i,ei,ce}:=an.at hx;hin:i<m:=qj.mp (qu ei);ce':=ce;{b,vq,vr,vc,kq,rfl,h1,h2,h3,h4,h5}:=ce;tk:(List.range m).take (j+1)=(List.range m).take j++[i]:=(do[qy,ei];2);{_,O,b,_,0,_,O,O,aS.of h1,O,_,O,tD (C i).pt,tD pt,(bC h2).dv,(bC hvp).dv,(W.lay i hin).1,p,qf (je _ _) (qf (dB _) ⋯),_,O,?_};J:(if false=true then not (PyData.eqv (tD (C i).pt) (tD pt)) else PyData.eqv (tD (C i).pt) (tD pt))=decide ((C i).pt=pt):=fH _ _;hp<|(C i).pt=pt;cj (do[J];qH hp) ?_;{_,O,k1 _ _ {O,?_}};[tk];AN.pick (vs:=cs) Y ce' (qH hp);bX (do[J];decide_eq_false hp) ?_;k0 _ {O,?_};[tk];Y.skip (do 0<|hp);{rfl,Y}:=s';Y<-[N,jd (do[zg];qb _)];hyl:ys.length<=100:=(do hy<-[N];());n1:ag H1 (upd H1 z (.lst ys)):=ag.new hq;e1:(upd H1 z (.lst ys)) z=!(.lst ys):=aF;f:=Y.imp λv i g=>gP.af g n1.af;(by generalize upd H1 z (.lst ys)=H2 at n1 e1 f);I:((List.range m).filter λi=>decide ((C i).pt=pt)).Pairwise λa b=>bN (.tuple [.int (C a).ka,.int (C a).kb]) (.tuple [.int (C b).ka,.int (C b).kb])=true:=((tS m).imp_of_mem λ{a b} ha hb h=>gT (W.up a b h (qj.mp hb))).filter _;keys:KeysAre (((List.range m).filter λi=>decide ((C i).pt=pt)).map λi=>.tuple [.int (C i).ka,.int (C i).kb]) 2:=rD λd hd=>(do _;{i,_,rfl}:=qc.mp hd;.inl {_,_,O});{z,ys,((List.range m).filter λi=>decide ((C i).pt=pt)).map λi=>.tuple [.int (C i).ka,.int (C i).kb],2,O,aD.of e1,do[qh,f.1],keys,{(),.inr (z9.mpr I)},λmm y d H' Q' q1 q2 s q=>?_,λq H3 ix g3 s3 G e3=>?_};{k,ek,ce}:=f.at q1;q2<-[qv,ek];-qJ q2;{y,C,k,O,ce.af s.af,λkv hk=>q H' _ (ag.refl _) hk.dv};hix:∀i∈ix,i<ys.length:=λi hi=>(do this:=(G.1.mem_iff).mp hi;this<-[qj,qh];[f.1];this);a2:=f.ix ix hix;a2<-[tu (.refl _) I G];(by generalize ix.map (λi=>ys.getD i .aV)=zs at e3 a2;generalize X:((List.range m).filter λi=>decide ((C i).pt=pt))=ms at a2);hzl:zs.length<=100:=(do[a2.1,<-X];qf (wg _ _) (do[zg];bY));a3:=a2.imp λv i g=>gP.af g s3.af;{_,O,q,O,{_,aD.of e3},cK (xs:=zs) (cJ ()) (λj us H'=>ag H3 H'/\∃kvs,cw H' us kvs/\kvs.map (λe=>(e.1,e.2.2))=(ms.take j).map (λi=>(KD.two (C i).rw (C i).cl,V.str (C i).wd))) {ag.refl _,[],trivial,O} (λ_ _ H' s'=>aD.of (s'.1 _ _ e3)) (λj x us H' K1 K0 hx s' k1 k0=>?_) λH4 up us s' hu4' huq=>?_};{s',kvs,pr,pk}:=s';{i,ei,ce}:=a3.at hx;{b,vq,vr,vc,kq,rfl,h1,h2,h3,h4,h5}:=ce.af s'.af;{c,rfl,hc}:=h3;{d',rfl,hd}:=h4;tk:ms.take (j+1)=ms.take j++[i]:=(do[qy,ei];2);eA (B:=K0 H') ?_;{_,O,b,_,1,_,O,O,aS.of h1,O,_,O,b,_,2,_,O,O,aS.of h1,O,aI rfl,λtq H5 g5 t e5=>?_};{_,O,b,_,3,_,O,O,aS.of (t _ _ h1),O,aI rfl,λpq H6 g6 M e6=>k1 _ _ {(s'.trans t).trans M,kvs++[(.two (C i).rw (C i).cl,.ref tq,.str (C i).wd)],cw.snoc (e:=(.two (C i).rw (C i).cl,.ref tq,.str (C i).wd)) {pq,O,e6,tq,c,d',O,M _ _ e5,M _ _ (t _ _ hc),M _ _ (t _ _ hd)} (pr.af (t.trans M).af),?_}};[tk,zy,zy,pk];2;{s4,kvs,pr,pk}:=s';n4:ag H4 (upd H4 up (.lst us)):=ag.new huq;D:=((n1.trans s3).trans s4).trans n4;{up,us,kvs,O,aD.of aF,pr.af n4.af,(),λdq H7 g7 s7 e7=>kk H7 dq _ (D.trans s7) (D.free g7) e7 λr c=>?_};pk<-[show zs.length=ms.length from a2.1,zd];[HM];¬List.foldl _ (V.str "") kvs=_;e:kvs.foldl (λa e=>if e.1=KD.two r c then e.2.2 else a) (V.str "")=(kvs.map (λe=>(e.1,e.2.2))).foldl (λa (e:KD×V)=>if e.1=KD.two r c then e.2 else a) (V.str ""):=(do[nj]);[e,pk,nj,<-X];Ht C pt r c m
def Gx(T:Txt K mg tk)(F:FO K mg "_law_signs" pA)(m:gQ P w K mg base)(gfBf:An P w K mg base):zL P w K mg base:=do aO F lR (wN λ_ _ _ _=>rfl) {} λfa cdv A outer s H vs Q E y h=>?_;hu1:(A.deeper (envOfC "_law_signs" (ah pA) ↑s fa cdv)).units+1<cLine:=cS y;{_,(ax (sn lR.nd 4 kT) (ax (fo (nJ (do 2) T.dM (a1 (cl m y 75))) (gn lR.nd 5) (ax (sn lR.nd 6 (xa (vv 3) (cl m y (a2 (vv 0) (cb dE T.cf boot_len (a1 (vv 3))))))) (ax (sn lR.nd 7 (xa (aM Mz (bQ (a1 eV)) (bm PySem.F.plainAttrs_dict PySem.F.slot_dict_get PySem.F.type_dict_get (j1 (cW y)) (vv 4) (a2 (vv 6) (bQ dh)))) (cl m y (a2 (vv 0) (aM c_ aE (cb Sy T.cf boot_len (a1 (bm PySem.F.plainAttrs_dict PySem.F.slot_dict_get PySem.F.type_dict_get (j1 (cW y)) (vv 4) (a2 (vv 6) (bQ dh)))))))))) (ax (sn lR.nd 8 (bE (ac (xa (vv 2) (aM eP (vv 5) (cb dE T.cf boot_len (a1 (vv 2))))) (a2 (aM c_ aE (vv 5)) aE)))) (ax (sn lR.nd 9 (ce eM (cl m y 75) aE)) (ax (sn lR.nd 10 (bE (ac (aM c_ aE (aM lg (vv 5) aE)) (a2 (aM eP (vv 5) aE) aE)))) (ax (ap (cL hu1 (vv 1) aN (λ_ _=>rfl)) (a1 (bE (ac (vv 6) (ac (vv 8) (ac (vv 7) (ac (vv 10) (a2 (cl gfBf y (a2 (vv 0) (vv 3))) (vv 9))))))))) (aH (kD (cW y) (vv 4) (vv 6) (aM Mz (bm PySem.F.plainAttrs_dict PySem.F.slot_dict_get PySem.F.type_dict_get (j1 (cW y)) (vv 4) (a2 (vv 6) (bQ dh))) (bQ (a1 (vv 8)))) rfl))))))))) (aH (aR (vv 4))))),?_};{d,fa,r,kq,F,kn,rfl,dw,dk,e3,er,ek,hkn,k0,k1,rd,C,fd,rf,kf,kk}:=h;λnq H1 gn X en=>?_;V:H d≠none:=let⟨_,_,e⟩:=dw;(do[e];λz=>nomatch z);hf:H (F 3)≠none:=(do[e3];λz=>nomatch z);nd:nq≠d:=λz=>V (z▸gn);nf:nq≠F 3:=λz=>hf (z▸gn);nfa:fa≠d:=λz=>(do _;{_,_,e}:=dw;e<-[<-z,dk];-e);nff:fa≠F 3:=λz=>(do e3<-[<-z,dk];-e3);B1:SB H H1 d (F 3) nq (λ_=>⟨[],[],none,0,0,0,.none,false⟩) 0 [] []:={Rest.refl.same X,dw.same X,X _ _ e3,.nil,{q0 _,(λi j _ z=>nomatch z),(λi z=>nomatch z),(λi z=>nomatch z),(λi z=>nomatch z),(λi z=>nomatch z)},(λi z=>nomatch z),(λi z=>nomatch z),(λi z=>nomatch z),en,{(λe z=>nomatch z),(λk u z=>nomatch z)},(λk u z=>nomatch z)};{_,O,d,25,O,B1.dw,⋯,⋯,λc H2 s2 w2 a2 b2=>?_};B2:=B1.draw V fd nd s2 w2;{c,O,(),(),cG (lo:=0) (n:=c.toNat) (λj σ Z=>Ae λS xs kvs u5 u6 u7 u8 u9=>∃U,iD (σ=[!(.ref d),!(.ref fa),!(.ref r),!(.ref kq),!(.ref nq),u5,u6,u7,u8,u9,U]) (SB H Z d (F 3) nq S j xs kvs) (xs.length=j) (kvs.length<=j)) {_,_,_,_,_,_,_,_,_,O,B2,O,qb _} ?_ ?_};(j,σ,Z,hj,{S,xs,kvs,u5,u6,u7,u8,u9,U,rfl,B,hx,hk},Nx,hNx);ekZ:=B.out ek C kf;erZ:=B.out er rd rf;knZ:KN Z kn:=hkn.af (nQ B.ro λb z ys e=>do(by rcases z with z|z <;> subst z);{_,_,e'}:=dw;e<-[e'];-e;e<-[e3];-e);{_,O,_,O,_,O,kq,_,O,.inl (aD.of ekZ),d,_,O,B.dw,(),(),λi1 Z1 X w1 x1 y1=>{kq,kn,i1,O,O,aD.of (DP.to X ekZ C),x1,y1,λvp hvp=>?_}};t1:=B.dw.af X;B1:=B.draw V fd nd X w1;kn1:=knZ.af t1;{p,gp,pn}:=kn1.np hvp;{aI rfl,λl2 Z2 g2 s2 e2=>?_};{_,O,QE (B1.same s2).en,_,O,aI rfl,λl3 Z3 g3 s3 e3'=>?_};G:=s2.trans s3;B3:=B1.same G;{us,hl,hu,gu}:=B1.get p;{lq,gl,el}:=gu Z3 l3 (λb o _ e=>G _ _ e) e3';{nq,kvs,.tup p,_,_,O,O,B3.en,gp.af G.af,l2,lq,[.aV],us,O,gl,s3 _ _ e2,el,?_,λcq Z4 g4 s4 e4=>?_};¬1+us.length<=sizeLine;wx (cH ());B4:=B3.same s4;{_,O,_,O,QE B4.en,_,O,aI rfl,λl5 Z5 g5 s5 e5=>?_};B5:=B4.same s5;N:=(G.trans s4).trans s5;{lq',gl',el'}:=gu Z5 l5 (λb o _ e=>N _ _ e) e5;{nq,kvs,.tup p,_,_,O,O,B5.en,gp.af N.af,_,us.length,O,do[gl'];.inl {_,aD.of el',O},_,_,O,O,d,_,O,B5.dw,(),(),λi2 Z6 s6 w6 x2 y2=>{cq,_,i2,O,O,aD.of (DP.to s6 (s5 _ _ e4) (λz=>V (z▸B3.free g4))),x2,do[qg,qr];(),λvb hvb=>?_}};B6:=B5.draw V fd nd s6 w6;L:=N.af.trans (B5.dw.af s6);gp6:=gp.af L;{bo,gb,hb}:∃bo,GK Z6 (kd (cm S) bo) vb/\∀i,bo=!i->i<j/\(S i).pt=p:=(do z||z:=qt.mp hvb;⟨none,z,(λi z=>nomatch z)⟩;{i,a1,a2,a3}:=hu vb z;{!i,NM.af a3 L,λi' z=>do-z;{a1,a2}});er6:=B6.out er rd rf;{_,O,_,O,_,O,r,_,O,.inl (aD.of er6),_,_,O,O,(by decide:(0:Int)<2),r,_,_,O,O,aD.of er6,Int.emod_nonneg _ ⋯,Int.emod_lt_of_pos _ ⋯,λvw hvw=>?_};{w,rfl,hw}:∃w,vw=.str w/\PyData.strOk w=true:=(by have:=hvw;ac_nf at this;rcases this with h|h <;> exact{_,h,∅});{_,O,_,_,O,O,aI rfl,λq7 Z7 g7 s7 e7=>?_};B7:=B6.same s7;{_,O,d,5,O,B7.dw,⋯,⋯,λi3 Z8 s8 w8 x3 y3=>{_,_,O,O,?_}};B8:=B7.draw V fd nd s8 w8;(by generalize decide ((0:Int)<i3)=lv);{_,O,_,_,O,O,{⋯,⋯},_,_,O,O,_,O,_,_,O,O,(by decide:(0:Int)<2),aI rfl,λq9 Z9 g9 s9 e9=>?_};B9:=B8.same s9;(by rw[Int.zero_add]at e7 e9);s69:=(B7.dw.af s8).trans s9.af;t69:=s7.af.trans s69;ek9:=B9.out ek C kf;kn9:∀v∈kn,vS Z9 v:=λv hv=>(kn1.af (L.trans t69)).np hv;{_,O,fa,.ref (F 3),O,.inl {eO F 9,.inr "signs",.inl (B9.out dk nfa nff),O,(fe F 3 ⋯).symm},.inl {O,_,aD.of B9.ex},_,O,_,O,_,O,_,O,_,O,_,O,d,kq,kn,O,B9.dw,ek9,C,k0,(),kn9,λZ10 vg dd s10 w10 dt so os=>?_};B10:=B9.draw V fd nd s10 w10;Y:=B9.dw.af s10;{_,O,aI rfl,λM x g11 q e11=>{F 3,xs,_,O,O,(B10.same q).ex,cH (),?_}};B11:=B10.same q;t:=(t69.trans Y).trans q.af;J:=(s69.trans Y).trans q.af;t911:=Y.trans q.af;W:=B11.sign (r:={p,[.inr w,.inl (40+(j:Int)),.inl 0],bo,50+(j:Int) / 2,(j:Int) % 2,0,dd,lv}) hf fd nf () e11 (gp6.af t) {q7,O,J _ _ e7} (gb.af t) (t911 _ _ e9) (dt.af q.af) rfl hw pn {O,O,O} hb so os;D:aj x (upd x (F 3) (.lst (xs++[.ref M]))):=aj.wl B11.ex;g:=gp6.af (t.trans D);e12:=(J.trans D) _ _ e7;k12:∀b o,H b=none->x b=!o->upd x (F 3) (.lst (xs++[.ref M])) b=!o:=λb o hn e=>(az λ(z:b=F 3)=>hf (z▸hn)).trans e;(by generalize upd x (F 3) (.lst (xs++[.ref M]))=Z12 at W g e12 k12 D);{_,O,QE W.en,_,O,aI rfl,λl13 Z13 g13 f e13=>?_};B13:=W.same f;{us2,hl2,cW,gu2}:=B11.get p;{nq,kvs,.tup p,_,_,O,O,B13.en,g.af f.af,_,O,aI rfl,λl14 Z14 g14 R e14=>?_};s1214:=f.trans R;B14:=B13.same R;{lq2,gl2,el2}:=gu2 Z13 l13 (λb o hn e=>f _ _ (k12 b o hn e)) e13;{lq2,l14,us2,[.ref q7],gl2,O,R _ _ el2,e14,?_,λl15 Z15 g15 I e15=>?_};¬us2.length+1<=sizeLine;wx (cH ());B15:=B14.same I;a:=s1214.trans I;{_,O,_,O,nq,kvs,.tup p,O,B15.en,g.af a.af,cH (),?_};hNx _ _ {_,_,_,_,_,_,_,_,_,O,B15.put gn nd nf pn (g.af a.af) e15 (B14.free g15) (do[qg,qr];()) (do[qg,qr];()) (λv hv=>?_),do[qg,qr,hx],qf (iz _ _ _ _) ()};z||z:=qz.mp hv;{i,a1,a2,a3}:=cW v z;{i,(),do[fv a1];a2,NM.af (NM.DJ (G0.ext S j _) a1 a3) (D.trans a.af)};[qo.mp z];{j,yu _,do[hP],?_};(by unfold NM cm);[hP];{q7,O,a _ _ e12};(σ,Z,{S,xs,kvs,u5,u6,u7,u8,u9,U,rfl,B,hx,hk});{_,O,kk Z S _ xs nq kvs B.ro B.ex B.an B.ws () B.ok gn B.en () B.nd B.fr}
def Bx(T:Txt K mg tk)(F:FO K mg "_law_stretches" pH)(f:gQ P w K mg base)(U:AE P w K mg base):Ah P w K mg base:=do aO F k_ (wN λ_ _ _ _=>rfl) {} λfa cdv A outer s H vs Q E C h=>?_;hu1:(A.deeper (envOfC "_law_stretches" (ah pH) ↑s fa cdv)).units+1<cLine:=cS C;{_,(aH (fo (nJ (do 2) T.dM (a1 (cl f C 75))) (gn k_.nd 4) (ax (sn k_.nd 5 (cb (K9 (uK C) C.hd) T.cN boot_sorted (a1 (vv 3)))) (aH (bS (ck (vR C) (vv 5) (bQ dh)) (ax (sn k_.nd 6 (xa (vv 5) (cl f C (a2 (vv 0) (cb dE T.cf boot_len (a1 (vv 5))))))) (ax (sn k_.nd 7 (cl U C (a2 (vv 0) (dI (cW C) (vv 3) (vv 6) (λ_ _=>rfl))))) (ax (sn k_.nd 8 (cl U C (a2 (vv 0) (dI (cW C) (vv 3) (vv 6) (λ_ _=>rfl))))) (ax (sn k_.nd 9 (bE (a2 (xl (vv 2)) (aM c_ aE (vv 4))))) (aH (bS (ck eM (cl f C 75) aE) (ax (sn k_.nd 10 (xa (bQ (ac aN (a2 aN eV))) (cl f C 75))) (ax (sn k_.nd 11 (xa (bQ (ac aN (a2 aN aN))) (cl f C 75))) (aH (ap (cL hu1 (vv 1) aN (λ_ _=>rfl)) (a1 (bE (ac (vv 6) (ac (vv 7) (ac (vv 8) (ac (vv 11) (ac (vv 10) (a2 (vv 9) (bE (a2 (aM c_ aE (aM lg (vv 4) aE)) (aM eP (vv 4) aE))))))))))))))) (aH (ap (cL hu1 (vv 1) aN (λ_ _=>rfl)) (a1 (bE (ac (vv 6) (ac (vv 7) (ac (vv 8) (ac (aM Sb aN (aM c_ aE (aM eP (vv 4) aE))) (a2 (vv 9) (bE (a2 (aM c_ aE (aM lg (vv 4) aE)) (aM eP (vv 4) aE)))))))))))))))))) cX))))),?_};{d,fa,r,nq,F,S,n,xs,kvs,rfl,dw,dk,e3,an3,W,n24,e4,e5,er,en,kl,nmd,rd,fr,hi,lqn,kk}:=h;X:F 4≠d:=(fr 4 ⋯).1;R:F 5≠d:=(fr 5 ⋯).1;n45:F 4≠F 5:=λz=>absurd (hi 4 ⋯ 5 ⋯ z) ⋯;Y:nq≠d:=λz=>(do _;{_,_,e}:=dw;e<-[<-z,en];-e);nq4:nq≠F 4:=λz=>(do e4<-[<-z,en];-e4);nq5:nq≠F 5:=λz=>(do e5<-[<-z,en];-e5);nfd:fa≠d:=λz=>(do _;{_,_,e}:=dw;e<-[<-z,dk];-e);nf4:fa≠F 4:=λz=>(do e4<-[<-z,dk];-e4);nf5:fa≠F 5:=λz=>(do e5<-[<-z,dk];-e5);r4:r≠F 4:=(fr 4 ⋯).2;r5:r≠F 5:=(fr 5 ⋯).2;{_,O,d,9,O,dw,⋯,⋯,λc H2 s2 w2 a2 b2=>?_};B2:TB H H2 d F S n 0 (λ_=>⟨[],none,none,"",none,[],0,0⟩) 0 (λ_=>⟨[],none,none,"",none,[],0,0⟩) 0 [] []:={Rest.refl.del (.inl rfl) s2,w2,DP.to s2 e4 X,.nil,{q0 _,(λi j _ z=>nomatch z),(λi z=>nomatch z),(λi z=>nomatch z)},qb _,(λi z=>nomatch z),DP.to s2 e5 R,.nil,{q0 _,(λi j _ z=>nomatch z),(λi z=>nomatch z),(λi z=>nomatch z)},qb _,(λi z=>nomatch z)};{c,O,(),(),cG (lo:=0) (n:=c.toNat) (λj σ Z=>Ae λM m N q ms ns u4 u5=>Gy λu6 u7 u8 u9 u10 u11=>iD (σ=[!(.ref d),!(.ref fa),!(.ref r),!(.ref nq),u4,u5,u6,u7,u8,u9,u10,u11]) (TB H Z d F S n j M m N q ms ns) (ms.length=m) (ns.length=q)) ⟨_,_,_,_,_,_,_,_,_,_,_,_,_,_,O,B2,O,O⟩ ?_ ?_};(j,σ,Z,hj,{M,m,N,q,ms,ns,u4,u5,u6,u7,u8,u9,u10,u11,rfl,B,hm,hn},Nx,hNx);t0:aj H Z:=nQ B.ro λb z ys e=>(do(by rcases z with z|z|z <;> subst z);{_,_,e'}:=dw;e<-[e'];-e;e<-[e4];-e;e<-[e5];-e);enZ:=B.out en Y nq4 nq5;ks:=nmd.1.af t0;{_,O,nq,kvs,_,3,O,Rd.of enZ,ks.nT,ks.keys,(),λpq Z1 ix g1 s1 six e1=>?_};hul:(ix.map λi=>(kvs.map (·.2.1)).getD i V.aV).length<=24:=(do[qh,SW six,qh];kl);ru:∀u∈ix.map (λi=>(kvs.map (·.2.1)).getD i V.aV),∃p,GK Z1 (.tup p) u/\Pn p/\∃lq us,vG kvs (.tup p)=!(.ref lq)/\H lq=!(.lst us)/\0<us.length/\us.length<=n/\∀v∈us,∃i,i<n/\(S i).pt=p/\NM (cm S) H v i:=λu hu=>(do _;{e,he,rfl}:=qc.mp (OX six (do[qh,qh]) u hu);{p,pn,h1,h2}:=ks e he;{p,h2.af s1.af,pn,?_};(by cases z:vG kvs (.tup p)with|none|some w=>?_);absurd h1 (pJ z e he);{p',lq,us,h1,h2,rfl,h4,h5,h6,h7}:=nmd.2 _ _ z;(by injection h1 with h1);!h1;{lq,us,O,h4,h5,h6,h7});(by generalize (ix.map λi=>(kvs.map (·.2.1)).getD i V.aV)=us at e1 hul ru);{ps,pa}:∃ps:List (List Key),AL (λu p=>GK Z1 (.tup p) u/\Pn p) us ps:=let⟨ps,h1,h2⟩:=xH (P:=λu p=>GK Z1 (.tup p) u/\Pn p) λu h=>let⟨p,a,b,_⟩:=ru u h;{p,a,b};{ps,h1.symm,h2};pd:dn Z1 us (ps.map tD):=AL.iw (λv p g=>bC g.1) pa;{_,O,aI rfl,λzq Z2 g2 D f2=>?_};{.list (ps.map tD),.list [],.lst (aD.of (D _ _ e1)) (pd.same D).dv,.lst (aD.of f2) .nil,?_,O,?_,_,O,?_};(rC λk hk=>do _;{_,_,_,h}:=pa.ux hk;h).1;qf (jk _ _) ⋯;s02:=s1.trans D;B2:=B.same s02;hpq:pq≠d:=B.dw.ne g1;(by cases us with|nil|cons w0 ws0=>?_);this:ps=[]:=yw.mp pa.1.symm;!this;bX rfl (hNx _ _ {M,m,N,q,ms,ns,_,_,_,_,_,_,_,_,O,B2.next,hm,hn});{p0,I,rfl}:∃p0 I,ps=p0::I:=(do(by cases ps with|nil|cons p0 I=>?_);this:=pa.1;-this;{p0,I,O});cj rfl ?_;hu0:(0:Int)<((w0::ws0).length:Nat):=(do[zf];());e12:=D _ _ e1;{_,O,_,O,_,O,pq,_,O,.inl (aD.of e12),d,_,O,B2.dw,hu0,(),λi3 Z3 s3 w3 x3 y3=>{pq,_,i3,O,O,aD.of (DP.to s3 e12 hpq),x3,y3,λvp hvp=>?_}};{p,gp1,pn,lq,vs,gv,elH,l0,l1,hvs}:=ru vp hvp;{ld,l4,l5}:=lqn _ _ gv;B3:=B2.draw X R s3 w3;t13:=D.af.trans (B2.dw.af s3);t03:=s1.af.trans t13;gp3:=gp1.af t13;{_,O,_,O,_,O,nq,kvs,.tup p,_,O,Rd.of (B3.out en Y nq4 nq5),gp3,gv,d,lq,vs,O,B3.dw,B3.out elH ld l4 l5,ld,l0,(),λZ4 q4 v4 b4 s4 w4 e4' m4=>?_};B4:=B3.draw X R s4 w4;t34:=B3.dw.af s4;{_,O,_,O,_,O,nq,kvs,.tup p,_,O,Rd.of (B4.out en Y nq4 nq5),gp3.af t34,gv,d,lq,vs,O,B4.dw,B4.out elH ld l4 l5,ld,l0,(),λZ5 q5 v5 b5 s5 w5 e5' m5=>?_};B5:=B4.draw X R s5 w5;t45:=B4.dw.af s5;t35:=t34.trans t45;t05:=(t0.trans t03).trans t35;{i4,hi4,pt4,nm4}:=hvs v4 m4;{i5,hi5,pt5,nm5'}:=hvs v5 m5;sd4:nc S Z5 (!(i4,b4)) (.ref q4):={q4,v4,O,t45 _ _ e4',NM.af nm4 t05};sd5:nc S Z5 (!(i5,b5)) (.ref q5):={q5,v5,O,e5',NM.af nm5' t05};so4:dC S n p (!(i4,b4)):=λi b z=>(do-z;{hi4,pt4});so5:dC S n p (!(i5,b5)):=λi b z=>(do-z;{hi5,pt5});gp5:=gp3.af t35;{_,O,r,_,0,_,O,O,aD.of (B5.out er rd r4 r5),O,_,O,_,_,O,O,aI rfl,λq6 Z6 g6 s6 e6=>?_};e6<-[Int.zero_add];B6:=B5.same s6;{_,O,d,3,O,B6.dw,⋯,⋯,λi7 Z7 s7 w7 x7 y7=>{_,_,O,O,_,O,?_}};L:=B6.draw X R s7 w7;t67:=B6.dw.af s7;t57:=s6.af.trans t67;e7:=t67 _ _ e6;nl:Lay [.inr "ann",.inl (70+(j:Int))]:=(A3 (x:=70+(j:Int)) (qi)).lay;(by generalize decide ((0:Int)<i7)=bb;cases bb with|true|false=>?_);cj rfl ?_;{aI rfl,λy8 Z8 g8 s8 f8=>{_,O,d,3,O,(L.same s8).dw,⋯,⋯,λi9 Z9 s9 w9 x9 y9=>{y8,_,i9,O,O,aD.of (DP.to s9 f8 (L.dw.ne g8)),x9,y9,λvv hvv=>?_}}};{vl,rfl,hvl}:∃vl,vv=Tx vl/\∀z,vl=!z->PyData.strOk z=true:=(do(by ac_nf at hvv;rcases hvv with h|h|h <;> subst h);{!"thin",O,λz e=>do-e;by decide +kernel};{!"thick",O,λz e=>do-e;by decide +kernel};{none,O,(λz e=>nomatch e)});B9:=(L.same s8).draw X R s9 w9;t79:=s8.af.trans ((L.same s8).dw.af s9);{aI rfl,λyA ZA gA sA fA=>{_,O,d,3,O,(B9.same sA).dw,⋯,⋯,λiB ZB sB wB xB yB=>{yA,_,iB,O,O,aD.of (DP.to sB fA (B9.dw.ne gA)),xB,yB,λvk hvk=>?_}}};{kd,rfl,hkd}:∃kd,vk=.str kd/\PyData.strOk kd=true:=(by ac_nf at hvk;rcases hvk with h|h|h <;> subst h <;> exact{_,O,∅});BB:=(B9.same sA).draw X R sB wB;t9B:=sA.af.trans ((B9.same sA).dw.af sB);{_,O,fa,.ref (F 4),O,.inl {eO F 9,.inr "marks",.inl (BB.out dk nfd nf4 nf5),O,(fe F 4 ⋯).symm},.inl {O,_,aD.of BB.e4},_,O,_,O,_,O,_,O,_,O,_,O,_,O,_,_,O,O,{⋯,⋯},_,_,O,O,_,O,_,_,O,O,(by decide:(0:Int)<2),aI rfl,λqC ZC gC sC eC=>{aI rfl,λqD ZD gD J eD=>{F 4,ms,_,O,O,((BB.same sC).same J).e4,cH (do this:=B.lm;()),?_}}};eC<-[Int.zero_add];BD:=(BB.same sC).same J;tBD:=sC.af.trans J.af;G:=(t79.trans t9B).trans tBD;t:=t57.trans G;hNx _ _ {_,_,N,q,_,ns,_,_,_,_,_,_,_,_,O,BD.mark (r:={p,!(i4,b4),!(i5,b5),kd,vl,[.inr "ann",.inl (70+(j:Int))],80+(j:Int) / 2,(j:Int) % 2}) X n45 () {qD,_,_,_,_,qC,O,eD,gp5.af t,sd4.af t,sd5.af t,{q6,O,G _ _ e7},J _ _ eC} rfl rfl {so4,so5} {pn.lay,nl,hkd,hvl},do[qg,qr,hm],hn};bX rfl ?_;{_,O,fa,.ref (F 5),O,.inl {eO F 9,.inr "notes",.inl (L.out dk nfd nf4 nf5),O,(fe F 5 ⋯).symm},.inl {O,_,aD.of L.e5},_,O,_,O,_,O,_,O,_,_,O,O,(by decide:(0:Int)<4),_,_,O,O,_,O,O,(),(),λhm' a9=>?_};{_,O,_,O,_,_,O,O,{⋯,⋯},_,_,O,O,_,O,_,_,O,O,(by decide:(0:Int)<2),aI rfl,λqC ZC gC sC eC=>{aI rfl,λqD ZD gD J eD=>{F 5,ns,_,O,O,((L.same sC).same J).e5,cH (do this:=B.ln;()),?_}}};eC<-[Int.zero_add];BD:=(L.same sC).same J;G:=sC.af.trans J.af;t:=t57.trans G;hNx _ _ {M,m,_,_,ms,_,_,_,_,_,_,_,_,_,O,BD.note (r:={p,!(i4,b4),!(i5,b5),hm',none,[.inr "ann",.inl (70+(j:Int))],80+(j:Int) / 2,(j:Int) % 2}) R n45 () {qD,_,_,_,_,qC,O,eD,gp5.af t,sd4.af t,sd5.af t,{q6,O,G _ _ e7},J _ _ eC} rfl rfl {so4,so5} {pn.lay,nl,a9,(λz e=>nomatch e)},hm,do[qg,qr,hn]};(σ,Z,{M,m,N,q,ms,ns,u4,u5,u6,u7,u8,u9,u10,u11,rfl,B,hm,hn});this:=B.lm;kk Z M m N q ms ns (λb o e z=>B.ro b o e λy=>z (y.elim .inl λy=>.inr (y.elim .inl λy=>.inr (.inl y)))) B.e4 B.am B.wm () B.e5 B.an B.wn
def EW(T:Txt K mg tk)(F:FO K mg "is_let" vB)(i:AV P w K mg base):zB P w K mg base:=do aO F Gr (wN λ_ _ _ _=>rfl) {} λfa G A outer s H vs Q E n h=>?_;{_,(ax (sn Gr.nd 4 (cl i n (ac (vv 0) (a2 (vv 2) (vv 3))))) (ax (fo (il (vv 1)) (gn Gr.nd 5) (aH (bS (ck (p_ (cW n)) (vv 5) (vv 4)) (aH (aR (dI (cW n) (vv 4) (vv 5) (λ_ _=>rfl)))) cX))) (aH (aR dF)))),?_};{p,c,ys,ls,d,tt,cv,ps,rfl,hp,D,r,bY,z,pn,m}:=h;{_,O,_,O,_,O,p,ys,ls,d,tt,O,hp,D,r,bY,λH1 q kvs e J B tl=>?_};{_,O,c,O,{_,z.same e},Dc (xs:=cv) (λj σ H2=>∃o,σ=[!(.ref p),!(.ref c),!(.str d),!(.str tt),!(.ref q),o]/\ag H1 H2/\ps.findSome? (bR d tt ls)=(ps.drop j).findSome? (bR d tt ls)) {_,O,ag.refl _,O} (λj σ L _ ⟨_,_,s,_⟩=>(z.same e).same s) ?_ ?_};(j,x,σ,H2,I,{o,rfl,s2,a});{b,f,k}:=pn.at I;k:=k.af (e.trans s2).af;t:ps.drop j=b::ps.drop (j+1):=(do C:=(qw.mp f).1;[jn C,(qw.mp f).2]);a<-[t,List.findSome?_cons];{_,O,_,O,q,kvs,.tup b,O,.inl (s2 _ _ B),k.1,_,O,?_};g:=tl b;(by cases v:bR d tt ls b with|none|some y=>?_;rw[v]at g a);[g];bX (do 2) {_,O,s2,a};(by rw[v]at g a);[g];cj (do 2) ?_;m<-[a];{_,O,_,O,q,kvs,.tup b,.bl y,O,.inl (s2 _ _ B),k.1,g,m H2 (e.trans s2)};(σ,H2,{o,rfl,s2,a});a<-[pn.1,List.drop_length];m<-[a];m H2 (e.trans s2)
def EG(T:Txt K mg tk)(F:FO K mg "ordered" sM)(B:Am P w K mg base):uE P w K mg base:=do aO F tE (mI λ_=>rfl) {} λfa cdv A outer s H vs Q E hr h=>?_;{_,(ax (sn tE.nd 1 (cl B hr (a1 (vv 0)))) (ax (sn tE.nd 2 (bQ dh)) (ax (sn tE.nd 3 (cy Hu T.lC boot_list (a1 (bm PySem.F.plainAttrs_dict PySem.F.slot_dict_get PySem.F.type_dict_get (j1 (cW hr)) (vv 1) (a2 eV (bQ dh)))))) (ax (yC PassesOwn.never (ck eM (cb dE T.cf boot_len (a1 (vv 3))) aE) (ax (sn tE.nd 4 (Lk PySem.F.plainAttrs_list PySem.F.slot_list_pop PySem.F.type_list_pop I_ (vv 3))) (ax (ap (vv 2) (a1 (vv 4))) (aH (rG (bm PySem.F.plainAttrs_list PySem.F.slot_list_extend PySem.F.type_list_extend M3 (vv 3) (a1 (bm PySem.F.plainAttrs_dict PySem.F.slot_dict_get PySem.F.type_dict_get (j1 (cW hr)) (vv 1) (a2 (vv 4) (bQ dh)))))))))) (aH (aR (vv 2))))))),?_};{p,ys,nk,bh,D,ms,js,t,rfl,hp,an,G,W,kk}:=h;bY:=W.bY;{_,O,p,ys,nk,bh,D,ms,js,t,O,hp,an,G,W,λH1 dq kvs s1 fd=>?_};{aI rfl,λd H2 g2 s2 e2=>?_};U:=fd.same s2;{_,O,.inr (.inr (.inl {O,.inr (.inr {kvs,U.has})})),aI rfl,λz0 H3 g3 I e3=>?_};L:=U.same I;{a,vs,ea,eva,ava}:=L.get e3 none (λi z=>do-z);{dq,kvs,.aV,.aV,.ref z0,O,O,L.has,O,?_};[show(vG kvs KD.aV).getD (V.ref z0)=.ref a from ea];{a,vs,O,.inl (aD.of eva),λb H4 g4 s4 e4=>?_};w:Rga.WF (Rga.cC bh ms):=W.wf;rl:=Rga.ie w;n:d≠b:=λz=>(do g4<-[<-z,I _ _ e2];-g4);y:H1 d=none:=g2;J:H1 b=none:=(s2.trans I).free g4;s14:=(s2.trans I).trans s4;d0:=Rga.lE w;d0<-[show Rga.rk (Rga.cC bh ms) none=(kids bh ms none).reverse from Hq bh ms none];{λmm σ c=>∃(out done st:List Nat) (e tv:List V) (Z:Option V),σ=[!(.ref p),!(.ref dq),!(.ref d),!(.ref b),Z]/\ag H1 c/\c d=!(.lst e)/\AN (NM nk c) e done/\c b=!(.lst tv)/\AN (NM nk c) tv st/\Rga.oe (Rga.rk (Rga.cC bh ms)) st.reverse out/\done++out=Rga.eB (Rga.cC bh ms)/\mm=out.length,{_,_,[],kids bh ms none,[],vs,none,O,s14,s4 _ _ (I _ _ e2),.nil,e4,ava.imp λv i g=>g.af s4.af,d0,O,O},?_};(mm,σ,c,{out,done,st,e,tv,Z,rfl,s5,er,ar,et,at',j,N,rfl});R:done.length+out.length=ms.length:=(do[<-rl,<-N,qg]);hst:=Rga.kR j;hst<-[yb];{_,O,b,_,O,.inl (aD.of et),_,_,O,O,_,O,?_};z||{st',x,z}:=ji st;!z;h0:tv=[]:=yw.mp at'.1;!h0;bX rfl ?_;this:=j.nil_inv;!this;N<-[wt];!N;{_,O,kk c d e (s1.trans s5) (s1.free y) er ar};z<-[jj];!z;{us,q,rfl,au,hx}:=at'.last;j<-[jp,mh,List.reverse_nil,we,List.singleton_append];{k,rfl,f}:=j.cons_inv;hxm:x∈ms:=Rga.pe w (do[<-N];z7 _ qi);f<-[show Rga.rk (Rga.cC bh ms) (!x)=(kids bh ms (!x)).reverse from Hq bh ms (!x)];hl2:=Rga.kR f;hl2<-[qg,yb,yb];R<-[zf];cj (qH (do¬(0:Int)<((us++[q]).length:Nat);[qg,qr];())) ?_;RB (λσ' H'=>vX λ(e:List V) (tv:List V) (Z:Option V)=>ot (σ'=[!(.ref p),!(.ref dq),!(.ref d),!(.ref b),Z]) (ag H1 H') (H' d=!(.lst e)) (AN (NM nk H') e (done++[x])) (H' b=!(.lst tv)) (AN (NM nk H') tv (st'++kids bh ms (!x)))) (λσ' H' ⟨rv',tv',u4',b1,b2,b3,b4,b5,b6⟩=>{k.length,do[zf];(),k,done++[x],_,rv',tv',u4',b1,b2,b3,b4,b5,b6,?_,?_,O}) λNx hNx=>?_;[jp];f;[ym];N;{_,O,.inl {O,_,aD.of et},b,_,q,O,O,et,(do 0),?_};[ud];t6:aj c (upd c b (.lst us)):=aj.wl et;m:(upd c b (.lst us)) d=!(.lst e):=(do[az n];er);{_,O,.inl {O,_,aD.of m},_,O,d,_,_,O,O,m,(do[ar.1];kK ()),?_};t7:aj (upd c b (.lst us)) (upd (upd c b (.lst us)) d (.lst (e++[q]))):=aj.wl m;r:(upd (upd c b (.lst us)) d (.lst (e++[q]))) b=!(.lst us):=(do[az n.symm,aF]);s7:ag H1 (upd (upd c b (.lst us)) d (.lst (e++[q]))):=(s5.wr J).wr y;Y:=fd.same s7;{_,O,.inl {O,_,aD.of r},_,O,.inr (.inr (.inl {O,.inr (.inr {kvs,Y.has})})),_,O,aI rfl,λz1 H8 g8 M e8=>?_};X:=Y.same M;t8:=(t6.trans t7).trans M.af;{a8,o,ea8,ev8,S}:=X.get e8 (!x) (λi z=>do-z;hxm);{dq,kvs,.tup (nk x),q,.ref z1,O,O,X.has,hx.af t8,?_};[show(vG kvs (KD.tup (nk x))).getD (V.ref z1)=.ref a8 from ea8];C:=M _ _ r;{b,a8,us,o,O,O,C,ev8,cJ (do[au.1,S.1];()),?_};t9:aj H8 (upd H8 b (.lst (us++o))):=aj.wl C;hNx _ _ {e++[q],us++o,_,O,(s7.trans M).wr J,?_,?_,aF,?_};[az n];M _ _ aF;(ar.snoc hx).imp λv i g=>g.af (t8.trans t9);(au.imp λv i g=>g.af (t8.trans t9)).app (S.imp λv i g=>g.af t9)
def Df(T:Txt K mg tk)(F:FO K mg "turned_in" uw)(gfAf:Ap P w K mg base)(gfBz:sQ P w K mg base):yZ P w K mg base:=do aO F n_ (mI λ_=>rfl) {} λfa cdv A outer s H vs Q E I h=>?_;{_,(ax (sn n_.nd 1 (cy (gZ I.hd (rR I)) T.c6 boot_dict (a1 (jC (own:=["part","place"]) (fr:=[]) rfl (rW (vv 0)) {O,∅,∅} (jE ∅) (λ_ _ _=>(lB (n:=2) rfl (dD (cZ (i:=0) (do¬List.Nodup (["part","place"]:List UK);by decide +kernel) rfl (Or.inl rfl)) (dD (cZ (i:=1) (do¬List.Nodup (["part","place"]:List UK);by decide +kernel) rfl (Or.inl rfl)) kY)))) (λ_=>p7 rfl rfl ⋯) (λ_ _ _=>ee) (λ_ _ _=>(bE (a2 (vv 0) (xt (vv 1))))))))) (ax (sn n_.nd 2 kT) (ax (sn n_.nd 3 kT) (ax (fo (MT (vv 0)) (gn n_.nd 4) (ax (sn n_.nd 5 (cl gfBz I (ac (vv 1) (a2 (vv 4) (vv 3))))) (pX (bS (ck eM (bm PySem.F.plainAttrs_list PySem.F.slot_list_count PySem.F.type_list_count (T3 I) (vv 5) (a1 (xi (vv 5) (eL i0 aE)))) aE) (aH (kD (cW I) (vv 2) (cl gfAf I (a2 (vv 0) (l_ F4 (vv 5) (fj (bm PySem.F.plainAttrs_list PySem.F.slot_list_index PySem.F.type_list_index (Nv I) (vv 5) (a1 (xi (vv 5) (eL i0 aE))))) (fj (eL i0 aE))))) dF rfl)) cX) (aH (fo (il (vv 5)) (gn n_.nd 6) (aH (kD (cW I) (vv 3) (vv 6) dF rfl))))))) (aH (aR (vv 2))))))),?_};{J,kt,xs,rfl,htq,akt,W,tb,kk}:=h;hfew:=W.bY;ntP:J≠hH:=λz=>(do _;{ps,t}:=tb.cn;by rcases htq with e|⟨o,e⟩ <;> rw[z,t]at e <;> cases e);{_,O,J,kt,O,uH htq λo Y hY fY eY=>?_};sS0:ag (cg H (sS J)) Y:=λb u e=>(do nb:¬sS J b:=λz=>(do e<-[fV z];-e);e<-[iJ nb];hY b u (λz=>nb (.inl z)) e);tbY:jL Y:=tb.keep λb u e hu=>hY b u (λz=>do !z;q||{o',q}:=htq;e<-[q];-e;(by rcases hu with⟨ps,y⟩|⟨φ,y⟩ <;> cases y);e<-[q];-e;by rcases hu with⟨ps,y⟩|⟨φ,y⟩ <;> cases y) e;tY:aj H Y:=λb us e=>hY b _ (λz=>do !z;by rcases htq with q|⟨o',q⟩ <;> rw[q]at e <;> cases e) e;aY:=akt.imp λe x q=>q.imp (R':=gM Y) tY λr=>r.af tY;xx (mZ (do[aY.1];())) (λj ys X=>ag Y X/\∃es:List 68,cw X ys es/\AL (EK (qV X) X) es (xs.take j)) {ag.refl _,[],trivial,.nil} (λ_ _ X s'=>s'.1 _ _ eY) (λj e ys X p K1 K0 hx s' hp k1 k0=>?_) λX np ys s' hy hq=>?_;{sX,es',pr,ae}:=s';{r,I,p1,p2,p3}:=aY.at hx;sp:ag X (upd X p 76):=ag.new hp;ep:(upd X p 76) p=! 76:=aF;(by generalize upd X p 76=X1 at sp ep);sX1:=sX.trans sp;{b,vp,vo,vn,kq,hbv,h1,h2,h3,h4,h5}:=p3.af sX1.af;{p,_,O,aS.of ep,O,_,_,O,_,_,O,O,?_};eA (B:=K0 X1) ?_;{_,O,_,O,b,_,1,vo,hbv,O,aS.of h1,O,aI rfl,λt3 X3 g3 s3 e3=>?_};sX3:=sp.trans s3;k1 _ _ {sX.trans sX3,es'++[(.tup r.pt,e.2.1,vo)],?_,?_};cw.snoc (e:=(.tup r.pt,e.2.1,vo)) {t3,O,e3,(p2.af sX1.af).af s3.af} (pr.af sX3.af);[qy,I];(ae.imp λe x p=>p.imp sX3.af λq=>q.af sX3.af).snoc {O,(p2.af sX1.af).af s3.af,GK.af h3 s3.af};{sX,es',pr,ae}:=s';ae<-[aY.1,zd];nH:ag X (upd X np (.lst ys)):=ag.new hq;{np,ys,es',O,aD.of aF,pr.af nH.af,?_,λoa X2 g2 s2 e2=>?_};this:ys.length<=kt.length:=hy;this:=aY.1;();e2<-[mH _ [] (do[we];xQ ae W.nd),we];sY2:=(sX.trans nH).trans s2;ao:AL (EK (qV X2) X2) es' xs:=ae.imp λe x p=>p.imp (nH.trans s2).af λq=>q.af (nH.trans s2).af;foa:Y oa=none:=(sX.trans nH).free g2;(by clear ae pr hq hy nH);(g,X3,g3,s3,e3);(C,L,g4,s4,e4);s24:=s3.trans s4;G:=sY2.trans s24;ftu:Y g=none:=sY2.free g3;fen:Y C=none:=(sY2.trans s3).free g4;nte:g≠C:=a_ e3 g4;ntP':g≠hH:=λz=>(do _;{ps,t}:=tbY.cn;t<-[<-z,ftu];-t);neP':C≠hH:=λz=>(do _;{ps,t}:=tbY.cn;t<-[<-z,fen];-t);(by let S2:UJ->Prop:=λb=>b=g\/b=C\/b=hH);fix:∀{Z:Hp} {b:UJ} {u:HO},ag (cg L S2) Z->L b=!u->(∀ps,u≠.cn ps)->b≠g->b≠C->Z b=!u:=λ{Z b u} s e hu h1 h2=>mO s e λz=>(do z||z||z:=z;h1 z;h2 z;{ps,t}:=(tbY.same G).cn;e<-[z,t];hu ps (qJ e).symm);tb4:=tbY.same G;fixT:∀{Z:Hp},ag (cg L S2) Z->aj L Z:=λ{Z} s b us e=>fix s e (λps z=>nomatch z) (λz=>do e<-[z,s4 _ _ e3];-e) (λz=>do e<-[z,e4];-e);c:L J=!(.du o (.dG kt)):=G _ _ eY;noe:oa≠C:=a_ (s3 _ _ e2) g4;noo:oa≠g:=a_ e2 g3;ntqt:J≠g:=λz=>(do c<-[z,s4 _ _ e3];-c);ntqe:J≠C:=λz=>(do c<-[z,e4];-c);back:∀{Z:Hp},ag (cg L S2) Z->ag (cg H (sS J)) Z:=λ{Z} s b u e=>(do nb:¬sS J b:=λz=>(do e<-[fV z];-e);e<-[iJ nb];e':=G _ _ (hY b u (λz=>nb (.inl z)) e);mO s e' λz=>?_;z||z||z:=z;absurd (fY _ ftu) (do[<-z,e];λy=>nomatch y);absurd (fY _ fen) (do[<-z,e];λy=>nomatch y);nb (.inr z));⟨_,O,J,kt,O,.inr ⟨o,c,?_⟩⟩;ij (λj σ Z=>Gy λ(E':List Key->Prop) (T':List Key->Prop) (ku:List 68) (ke:List 68) (u4:Option V) (u5:Option V)=>∃(u6:Option V),ot (σ=[!(.ref J),!(.ref oa),!(.ref g),!(.ref C),u4,u5,u6]) (ag (cg L S2) Z) (Z g=!(.dG ku)) (SM ku T') (Z C=!(.dG ke)) (iD (fP ke E') (jL Z) (ku.length<=j) (ke.length<=200 * j/\qT xs j E' T'))) ⟨λ_=>False,λ_=>False,[],[],none,none,none,O,Q1,s4 _ _ e3,SM.nil,e4,fP.nil,tb4,qb _,q0 _,.z⟩ (λj σ Z ⟨_,_,_,_,_,_,_,_,s,_,_,_,_⟩=>fix s c (λps z=>nomatch z) ntqt ntqe) ?_ ?_;(j,e,σ,Z,hx,{E',T',ku,ke,u4,u5,u6,rfl,sZ,etZ,smT,eeZ,smE,tbZ,hkul,hkel,htu},Nx,R);a4:=aY.imp λe x q=>q.imp (R':=gM L) G.af λr=>r.af G.af;{r,I,p1,p2,p3}:=a4.at hx;hjl:j<xs.length:=(qw.mp I).1;hrm:=qu I;tZ:=fixT sZ;ao4:=ao.imp λe x q=>q.imp (R':=qV L) s24.af λr=>r.af s24.af;aoZ:=ao4.imp λe x q=>q.imp (R':=qV Z) tZ λr=>r.af tZ;eoZ:=fix sZ (s24 _ _ e2) (λps z=>nomatch z) noo noe;{_,O,_,O,_,O,oa,e.2.1,C,es',xs,ke,E',r.pt,Pn,O,.inl eoZ,aoZ.Fm λe x _ hx q=>{q.1,q.2.1,iq (W.w x hx).ou.ne q.2.2},W.nd,λx hx=>(W.w x hx).pt.ne,hfew,.inl eeZ,smE,iq (W.w r hrm).pt.ne (p2.af tZ),.inr (W.w r hrm).pt,λk o h=>W.pn h,λZ1 N ws ini las s1 gwa f S wo hil M=>?_};S:AL (fh Z1) ws (ini++[las]):=S.Fm λv k _ hk q=>AH (M k hk).ne q;{us,v,rfl,aus,hv}:=xZ S;hul:us.length=ini.length:=aus.1;lay:PyData.canLayAll0 ((ini++[las]).map tD)=true:=(rC M).1;llas:Pn las:=M las (z7 _ (qo.mpr rfl));tb1:=tbZ.same s1;nwt:N≠g:=(a_ etZ gwa).symm;nwe:N≠C:=(a_ eeZ gwa).symm;nwP:N≠hH:=λz=>(do _;{ps,t}:=tbZ.cn;t<-[<-z,gwa];-t);tI (λσ' Z2=>xN λ(T2:List Key->Prop) (U:List 68)=>ot (σ'=[!(.ref J),!(.ref oa),!(.ref g),!(.ref C),!e.2.1,!(.ref N),u6]) (ag (cg L S2) Z2) (Z2 g=!(.dG U)) (SM U T2) (Z2 C=!(.dG ke)) (iD (jL Z2) (U.length<=j+1) (Z2 N=!(.lst (us++[v]))) (aj Z1 Z2/\qT xs (j+1) (λk=>E' k\/k∈ini++[las]) T2))) (λNx R=>?_) ?_;d1:=(Dk S).dv;{_,O,.inl {O,_,aD.of f},_,O,1,O,N,_,-1,v,O,O,aD.of f,md us v,v,tD las,N,_,_,O,O,(bC hv).dv,aD.of f,d1,llas.lay,lay,qf (dB las) ⋯,_,_,O,O,_,O,?_};sZ1:ag (cg L S2) Z1:=sZ.trans s1;hin<|las∈ini;cj (qH (do this:=(HL (las:=las) wo.nd).mpr hin;())) ?_;{r0,hr0,er0}:∃r0,∃h:r0<ini.length,ini[r0]=las:=z6.mp hin;dd:∀(m:Nat) d,m<r0->((ini++[las]).map tD)[m]?=!d->PyData.eqv d (tD las)=false:=λm d hm hd=>(do hd<-[qv,zt (),qe (do():m<ini.length)];-hd;¬PyData.eqv (tD _) (tD las)=false;[fH];decide_eq_false λz=>?_;this:=y0.mp (m9.mp wo.nd) m r0 () hr0 hm;this (z.trans er0.symm));atr:((ini++[las]).map tD)[r0]?=!(tD las):=(do[qv,zt hr0,qe hr0,er0];2);{_,O,_,O,_,O,_,O,.inl {O,_,aD.of f},_,O,1,O,N,_,-1,v,O,O,aD.of f,md us v,v,tD las,N,_,_,r0,O,O,(bC hv).dv,aD.of f,d1,llas.lay,lay,qf (dB las) ⋯,{tD las,atr,do[fH];qH rfl},dd,?_};{_,O,1,O,_,O,N,_,O,aD.of f,λla Z3 g3' s3' e3'=>?_};e3'<-[Tr ()];s13:=s1.trans s3';tZ3:=(fixT sZ).trans s13.af;a3:=(aY.imp λe x q=>q.imp (R':=gM L) G.af λr=>r.af G.af).imp λe x q=>q.imp (R':=gM Z3) tZ3 λr=>r.af tZ3;etq3:=s13 _ _ (fix sZ c (λps z=>nomatch z) ntqt ntqe);tb3:=tb1.same s3';adr:=(SF aus r0).imp λv k q=>fh.af q s3'.af;hdne:ini.drop r0≠[]:=λz=>(do this:=congrArg List.length z;this<-[v9,jb];());{J,la,kt,xs,us.drop r0,ini.drop r0,O,.inr {o,etq3},a3,W.nd,e3',adr,hdne,λk hk=>o_.mp (wo.zV (g0 hk)),tb3,λZ4 vm m s4' tb4' hm hmax gm=>?_};t34:=yT tb3 s4';k34:∀{b:UJ} {u:HO},Z3 b=!u->(∀ps,u≠.cn ps)->Z4 b=!u:=λe h=>My.jU tb3 s4' e h;et4:=k34 (s13 _ _ etZ) λps z=>nomatch z;ee4:=k34 (s13 _ _ eeZ) λps z=>nomatch z;ew4:=k34 (s3' _ _ f) λps z=>nomatch z;{g,ku,.tup m,O,et4,gm,kQ (),?_};t4:aj Z4 (upd Z4 g (.dG (pG ku (.tup m) vm (.bl true)))):=aj.wd et4;sZ4:ag (cg L S2) Z4:=λb u e=>(do e':=(sZ.trans s13) _ _ e;s4' _ _ ?_;[bW (λz=>?_)];e';!z;e<-[fV (.inr (.inr rfl))];-e);R _ _ {λa=>a=m\/T' a,_,O,sZ4.wr (fV (.inl rfl)),aF,smT.put _ _ λk=>Iff.rfl,do[az nte.symm];ee4,tb4'.wr et4 (λps z=>nomatch z) (λφ z=>nomatch z),qf (iz _ _ _ _) (),do[az nwt];ew4,(s3'.af.trans t34).trans t4,htu.yes I wo {hr0,er0} hm hmax};bX (decide_eq_false (do this:=(not_congr (HL (las:=las) wo.nd)).mpr hin;())) ?_;R _ _ {T',ku,O,sZ1,s1 _ _ etZ,smT,s1 _ _ eeZ,tb1,(),f,aj.refl _,htu.no I wo hin};(σ',Z2,{T2,U,rfl,s2',et2,sm2,ee2,tb2,hl2,ew2,t12,htu'});aw2:=S.imp λv k q=>fh.af q t12;{_,O,N,O,{_,aD.of ew2},bH (xs:=us++[v]) (λi σ Z5=>vX λ(E5:List Key->Prop) (D:List 68) (u6:Option V)=>ot (σ=[!(.ref J),!(.ref oa),!(.ref g),!(.ref C),!e.2.1,!(.ref N),u6]) (ag (cg L S2) Z5) (Z5 g=!(.dG U)) (Z5 C=!(.dG D)) (fP D E5) (iD (D.length<=ke.length+i) (jL Z5) (Z5 N=!(.lst (us++[v]))) (aj Z2 Z5/\∀k,E5 k↔(E' k\/k∈(ini++[las]).take i)))) {E',ke,u6,O,s2',et2,ee2,smE,Nat.le_refl _,tb2,ew2,aj.refl _,λk=>do 0} (λi σ Z5 _ ⟨_,_,_,_,_,_,_,_,_,_,e,_⟩=>aD.of e) ?_ ?_};(i,x,σ,Z5,hx',{E5,D,u6',rfl,s5,et5,ee5,sm5,hl5,tb5,ew5,t5,hE5},Nx,R);{k,hk,gx}:=aw2.at hx';hi:i<(ini++[las]).length:=(qw.mp hk).1;hi<-[qg,qr];{_,O,_,O,C,D,.tup k,O,ee5,GK.af gx t5,kQ (),?_};t6:aj Z5 (upd Z5 C (.dG (pG D (.tup k) x (.bl true)))):=aj.wd ee5;R _ _ {λa=>a=k\/E5 a,_,_,O,s5.wr (fV (.inr (.inl rfl))),do[az nte];et5,aF,sm5.Oe (M k (qu hk)).ne _ _ λa=>Iff.rfl,qf (iz _ _ _ _) (),tb5.wr ee5 (λps z=>nomatch z) (λφ z=>nomatch z),do[az nwe];ew5,t5.trans t6,λa=>?_};¬((a=k\/E5 a)↔_);[hE5,qy,hk];#[_,Option.toList_some,List.mem_append,List.mem_singleton];1;(h||h||h);.inr (.inr h);.inl h;.inr (.inl h);(h||h||h);.inr (.inl h);.inr (.inr h);.inl h;(σ,Z5,{E5,D,u6',rfl,s5,et5,ee5,sm5,hl5,tb5,ew5,t5,hE5});hwl:(us++[v]).length=(ini++[las]).length:=S.1;hE5<-[hwl,zd];hwl2:(us++[v]).length=ini.length+1:=(do[qg,qr,hul]);R _ _ {E5,T2,U,D,_,_,_,O,s5,et5,sm2,ee5,sm5,tb5,hl2,do hl5<-[hwl2];(),(funext λk=>propext (hE5 k):E5=λk=>E' k\/k∈ini++[las])▸htu'};(σ,Z,{E',T',ku,ke,u4,u5,u6,rfl,sZ,etZ,smT,eeZ,smE,tbZ,hkul,hkel,htu});{_,O,kk Z g ku E' T' (back sZ) (.inr {o,fix sZ c (λps z=>nomatch z) ntqt ntqe}) tbZ (fY _ ftu) etZ (akt.1▸htu) smT}
def BR(T:Txt K mg tk)(F:FO K mg "_law_facts" oP)(t:zH P w K mg base)(I:zX P w K mg base)(gfAr:AJ P w K mg base)(gfBe:zG P w K mg base)(gfBb:zL P w K mg base)(gfAc:Ah P w K mg base)(gfAt:AZ P w K mg base):z_ P w K mg base:=do aO F qX (iP λ_ _=>rfl) {} λfa cdv A outer s H vs Q E R h=>?_;hu1:(A.deeper (envOfC "_law_facts" (ah oP) ↑s fa cdv)).units+1<cLine:=cS R;{_,(ax (sn qX.nd 2 (ce c8 (aM eP (cl t R 75) aE) aE)) (ax (sn qX.nd 3 D8) (ax (fo (il (bQ (ac aN (ac aN (ac aN (ac aN (ac aN (ac aN (ac aN (a2 aN aN)))))))))) (gn qX.nd 4) (aH (pZ hu1 (vv 3) (vv 4) (bQ dh) rfl))) (ax (sn qX.nd 5 (cl gfBe R (ac (cl I R (a2 (cl t R 75) (vv 2))) (a2 (vv 3) (vv 1))))) (ax (sn qX.nd 6 (cl gfBb R (ac (cl I R (a2 (cl t R 75) (vv 2))) (ac (vv 3) (a2 (vv 1) (vv 5)))))) (ax (rG (cl gfAc R (ac (cl I R (a2 (cl t R 75) (vv 2))) (ac (vv 3) (a2 (vv 1) (vv 6)))))) (ax (rG (cl gfAt R (ac (cl I R (a2 (cl t R 75) (vv 2))) (ac (vv 3) (a2 (vv 1) (vv 5)))))) (ax (rG (cl gfAr R (ac (cl I R (a2 (cl t R 75) (vv 2))) (ac (vv 3) (a2 (vv 1) (vv 5)))))) (aH (aR (vv 3))))))))))),?_};{sp,ns,r,rfl,hs,hn,U,kk}:=h;{_,O,sp,ns,0,O,hs,⋯,λc=>{_,_,O,O,(by show(0:Int)<2;decide),O,?_}};(by generalize decide (V.int (c % 2)=V.int 1)=dg);(dq,H1,g1,s1,e1);{aI rfl,λlp H2 g2 s2 e2=>?_};s02:=s1.trans s2;{lp,O,{_,aD.of e2},bH (xs:=(["births","places","cuts","signs","marks","notes","lines","cells","leaves"]:List UK).map V.str) (λj σ H3=>xN λ(F:Nat->UJ) (u1:Option V)=>ot (σ=[!(.ref sp),!(.ref r),!(.bl dg),!(.ref dq),u1,none,none]) (ag H H3) (H3 lp=!(.lst ((["births","places","cuts","signs","marks","notes","lines","cells","leaves"]:List UK).map V.str))) (H3 dq=!(.dK (eO F j))) (∀i,i<j->H (F i)=none/\H3 (F i)=!(.lst [])) (∀i,i<j->∀i',i'<j->F i=F i'->i=i')) {λ_=>dq,none,O,s02,e2,s2 _ _ e1,λi z=>absurd z (yf i),λi z=>absurd z (yf i)} (λj σ H3 _ ⟨_,_,_,_,e,_,_,_⟩=>aD.of e) ?_ ?_};(j,x,σ,H3,hx,{F,u1,rfl,s3,el,ed,Y,hi},Nx,hNx);hj:j<9:=(qw.mp hx).1;ex:x=kV (kN j):=(do hx<-[qv];¬x=.str _;[ze];(by cases q:(["births","places","cuts","signs","marks","notes","lines","cells","leaves"]:List UK)[j]? with|none|some z=>?_);hx<-[q];-hx;hx<-[q];(qJ hx).symm);{aI rfl,λq H4 g4 Z e4=>?_};nq:q≠dq:=(a_ ed g4).symm;hv:bJ (eO F j) (kN j)=none:=(do(by cases e:bJ (eO F j) (kN j)with|none|some v=>?_);2;this:=P0 e;(by unfold eO at this);this<-[zx];{i,hi1,hi2}:=qc.mp this;hi3:=qj.mp hi1;absurd (xE i () j hj hi2) ());{_,O,_,O,dq,_,O,.inl {eO F j,kN j,Z _ _ ed,ex,cH (do@eO;[qh,zg];()),O},?_};F0:∀i,i<j->(if i=j then q else F i)=F i:=λi h=>qB ();ne:∀i,i<j->F i≠q:=λi h=>a_ (Y i h).2 g4;neq:∀i,i<j->F i≠dq:=λi h z=>(do this:=(Y i h).2;this<-[z,ed];-this);hNx _ _ {λi=>if i=j then q else F i,_,O,(s3.trans Z).wr g1,?_,?_,λi h=>?_,λi h i' h' e=>?_};[az (λz=>do el<-[z,ed];-el)];Z _ _ el;[aF,Fn _ hv];@eO;[yx,zy];this:(List.range j).map (λi=>(kN i,V.ref (if i=j then q else F i)))=(List.range j).map (λi=>(kN i,V.ref (F i))):=z8 λi hi=>(do[F0 i (qj.mp hi)]);[this];0;¬(H (if i=j then q else F i)=none/\(upd H4 dq _) (if i=j then q else F i)=_);z<|i=j;!z;[qE rfl];{s3.free g4,do[az nq];e4};[qB z];hij:i<j:=();{(Y i hij).1,do[az (neq i hij)];Z _ _ (Y i hij).2};e:(if i=j then q else F i)=(if i'=j then q else F i'):=e;z<|i=j;z'<|i'=j;();e<-[qE z,qB z'];absurd e.symm (ne i' ());z'<|i'=j;e<-[qB z,qE z'];absurd e (ne i ());e<-[qB z,qB z'];hi i () i' () e;(σ,H3,{F,u1,rfl,s3,el,ed,Y,hi});d:∀i,i<9->∀j,j<9->i≠j->F i≠F j:=λi a j b n e=>n (hi i a j b e);old:∀{b:UJ} {o:HO},H b=!o->∀i,i<9->b≠F i:=λe i a z=>(do e<-[z,(Y i a).1];-e);oq:∀i,i<9->F i≠dq:=λi a z=>(do this:=(Y i a).2;this<-[z,ed];-this);{_,O,sp,ns,1,O,hs.same s3,⋯,λc1=>{_,O,c1,dg,O,λH4 d1 Z g4 w4=>?_}};f1:∀{b:UJ} {o:HO},H3 b=!o->b≠d1:=λe z=>(do e<-[z,g4];-e);{_,O,_,O,d1,dq,r,F,O,w4,Z _ _ ed,Z _ _ (Y 0 ⋯).2,Z _ _ (Y 1 ⋯).2,Z _ _ (Y 2 ⋯).2,(s3.trans Z) _ _ U,f1 (s3 _ _ U),λi a=>{f1 (Y i a).2,old U i a},hi,λH5 kq kn bs es cs rs cu o5 gk ek kn5 k0 k1 eb ev ec fi pq5=>?_};S5:ag H H5:=λb o e=>o5 b o ((s3.trans Z) _ _ e) λz=>(do z||z||z||z:=z;f1 (s3 _ _ e) z;old e 0 ⋯ z;old e 1 ⋯ z;old e 2 ⋯ z);q5:H5 dq=!(.dK (eO F 9)):=o5 _ _ (Z _ _ ed) λz=>(do z||z||z||z:=z;f1 ed z;oq 0 ⋯ z.symm;oq 1 ⋯ z.symm;oq 2 ⋯ z.symm);F5:∀i,i<9->3<=i->H5 (F i)=!(.lst []):=λi a b=>o5 _ _ (Z _ _ (Y i a).2) λz=>(do z||z||z||z:=z;f1 (Y i a).2 z;d i a 0 ⋯ () z;d i a 1 ⋯ () z;d i a 2 ⋯ () z);kF:∀i,i<9->kq≠F i:=λi a z=>(do gk<-[z,Z _ _ (Y i a).2];-gk);{_,O,sp,ns,2,O,hs.same S5,⋯,λc2=>{_,O,c2,dg,O,λH6 d2 s6 g6 w6=>?_}};f2:∀{b:UJ} {o:HO},H5 b=!o->b≠d2:=λe z=>(do e<-[z,g6];-e);l5:∀i,i<9->∃xs,H5 (F i)=!(.lst xs):=λi a=>(do h0<|i=0;[h0];{_,eb};h1<|i=1;[h1];{_,ev};h2<|i=2;[h2];{_,ec};{_,F5 i a ()});fd2:∀i,i<9->F i≠d2:=λi a=>let⟨_,e⟩:=l5 i a;f2 e;{_,O,_,O,_,O,d2,dq,r,kq,F,kn,O,w6,s6 _ _ q5,s6 _ _ (F5 3 ⋯ ⋯),(S5.trans s6) _ _ U,s6 _ _ ek,kn5.af s6.af,k0,k1,f2 (S5 _ _ U),f2 ek,fd2 3 ⋯,old U 3 ⋯,kF 3 ⋯,λH7 S n xs nq kvs o7 e3 an W n24 sok gn en kl nmd fr=>?_};t7:aj H5 H7:=s6.af.trans (nQ o7 λb z xs e=>do rfl||rfl:=z;{_,_,q}:=w6;e<-[q];-e;e<-[s6 _ _ (F5 3 ⋯ ⋯)];-e);k7:∀{b:UJ} {o:HO},H5 b=!o->b≠F 3->H7 b=!o:=λe n=>o7 _ _ (s6 _ _ e) λz=>z.elim (f2 e) n;S7:ag H H7:=λb o e=>k7 (S5 _ _ e) (old e 3 ⋯);q7:H7 dq=!(.dK (eO F 9)):=k7 q5 (oq 3 ⋯).symm;F7:∀i,i<9->4<=i->H7 (F i)=!(.lst []):=λi a b=>k7 (F5 i a ()) (d i a 3 ⋯ ());l7:∀i,i<9->∃xs,H7 (F i)=!(.lst xs):=λi a=>(do h<|i=3;[h];{_,e3};{ys,e}:=l5 i a;{ys,k7 e (d i a 3 ⋯ h)});nq6:∀{b:UJ} {o:HO},H5 b=!o->b≠nq:=λe z=>(do gn<-[<-z,s6 _ _ e];-gn);{_,O,sp,ns,3,O,hs.same S7,⋯,λc3=>{_,O,c3,dg,O,λH8 d3 s8 g8 w8=>?_}};f3:∀{b:UJ} {o:HO},H7 b=!o->b≠d3:=λe z=>(do e<-[z,g8];-e);fd3:∀i,i<9->F i≠d3:=λi a=>let⟨_,e⟩:=l7 i a;f3 e;{_,O,_,O,_,O,d3,dq,r,nq,F,S,n,xs,kvs,O,w8,s8 _ _ q7,s8 _ _ e3,an.imp λv i g=>g.af s8.af,W,n24,s8 _ _ (F7 4 ⋯ ⋯),s8 _ _ (F7 5 ⋯ ⋯),(S7.trans s8) _ _ U,s8 _ _ en,kl,nmd.same s8,f3 (S7 _ _ U),λi a=>{fd3 i a,old U i a},hi,λk lq e=>?_,λH9 M m N q ms ns2 o9 e4 am wm hm e5 an5 wn=>?_};{p,lq',us,_,_,hu,h1,_}:=nmd.2 k _ e;-hu;h6:=fr k lq e;{f3 h1,(λz=>do h6<-[z,s6 _ _ (F5 4 ⋯ ⋯)];-h6),λz=>do h6<-[z,s6 _ _ (F5 5 ⋯ ⋯)];-h6};t9:aj H7 H9:=s8.af.trans (nQ o9 λb z xs e=>do rfl||rfl||rfl||rfl:=z;{_,_,q}:=w8;e<-[q];-e;e<-[s8 _ _ (F7 4 ⋯ ⋯)];-e;e<-[s8 _ _ (F7 5 ⋯ ⋯)];-e;e<-[s8 _ _ en];-e);k9:∀{b:UJ} {o:HO},H7 b=!o->b≠F 4->b≠F 5->b≠nq->H9 b=!o:=λe n1 n2 n3=>o9 _ _ (s8 _ _ e) λz=>(do z||z||z||z:=z;f3 e z;n1 z;n2 z;n3 z);S9:ag H H9:=λb o e=>k9 (S7 _ _ e) (old e 4 ⋯) (old e 5 ⋯) (nq6 (S5 _ _ e));Fq:∀i,i<9->F i≠nq:=λi a=>let⟨_,e⟩:=l5 i a;nq6 e;q9:H9 dq=!(.dK (eO F 9)):=k9 q7 (oq 4 ⋯).symm (oq 5 ⋯).symm (nq6 q5);kq9:H9 kq=!(.lst kn):=k9 (k7 ek (kF 3 ⋯)) (kF 4 ⋯) (kF 5 ⋯) (nq6 ek);F9:∀i,i<9->6<=i->H9 (F i)=!(.lst []):=λi a b=>k9 (F7 i a ()) (d i a 4 ⋯ ()) (d i a 5 ⋯ ()) (Fq i a);l9:∀i,i<9->∃xs,H9 (F i)=!(.lst xs):=λi a=>(do h4<|i=4;[h4];{_,e4};h5<|i=5;[h5];{_,e5};{ys,e}:=l7 i a;{ys,k9 e (d i a 4 ⋯ h4) (d i a 5 ⋯ h5) (Fq i a)});{_,O,sp,ns,4,O,hs.same S9,⋯,λc4=>{_,O,c4,dg,O,λH10 d4 f g10 w10=>?_}};f4:∀{b:UJ} {o:HO},H9 b=!o->b≠d4:=λe z=>(do e<-[z,g10];-e);kn9:KN H9 kn:=(kn5.af t7).af t9;{_,O,_,O,_,O,d4,dq,r,kq,F,kn,O,w10,f _ _ q9,f _ _ (F9 6 ⋯ ⋯),f _ _ (F9 7 ⋯ ⋯),(S9.trans f) _ _ U,f _ _ kq9,kn9.af f.af,k0,k1,f4 (S9 _ _ U),f4 kq9,λi a=>{let⟨_,e⟩:=l9 i a;f4 e,old U i a,kF i a},d 6 ⋯ 7 ⋯ ⋯,λD L a C b ls cs2 o11 e6 aL WL' e7 aC WC'=>?_};t11:aj H9 D:=f.af.trans (nQ o11 λb z xs e=>do rfl||rfl||rfl:=z;{_,_,q}:=w10;e<-[q];-e;e<-[f _ _ (F9 6 ⋯ ⋯)];-e;e<-[f _ _ (F9 7 ⋯ ⋯)];-e);k11:∀{b:UJ} {o:HO},H9 b=!o->b≠F 6->b≠F 7->D b=!o:=λe n1 n2=>o11 _ _ (f _ _ e) λz=>(do z||z||z:=z;f4 e z;n1 z;n2 z);S11:ag H D:=λb o e=>k11 (S9 _ _ e) (old e 6 ⋯) (old e 7 ⋯);q11:D dq=!(.dK (eO F 9)):=k11 q9 (oq 6 ⋯).symm (oq 7 ⋯).symm;kq11:=k11 kq9 (kF 6 ⋯) (kF 7 ⋯);e811:D (F 8)=!(.lst []):=k11 (F9 8 ⋯ ⋯) (d 8 ⋯ 6 ⋯ ⋯) (d 8 ⋯ 7 ⋯ ⋯);{_,O,sp,ns,5,O,hs.same S11,⋯,λc5=>{_,O,c5,dg,O,λH12 d5 J g12 w12=>?_}};f5:∀{b:UJ} {o:HO},D b=!o->b≠d5:=λe z=>(do e<-[z,g12];-e);kn11:=kn9.af t11;{_,O,_,O,_,O,d5,dq,r,kq,F,kn,O,w12,J _ _ q11,J _ _ e811,(S11.trans J) _ _ U,J _ _ kq11,k0,(),λv hv=>(kn11.np hv).af J.af,f5 (S11 _ _ U),f5 kq11,f5 e811,old U 8 ⋯,kF 8 ⋯,λB ys lss o13 e8 ly lsd lf=>?_};t13:aj D B:=J.af.trans (nQ o13 λb z xs e=>do rfl||rfl:=z;{_,_,q}:=w12;e<-[q];-e;e<-[J _ _ e811];-e);k13:∀{b:UJ} {o:HO},D b=!o->b≠F 8->B b=!o:=λe n=>o13 _ _ (J _ _ e) λz=>z.elim (f5 e) n;q13:Rd B dq (.dK (eO F 9)):=.inl (k13 q11 (oq 8 ⋯).symm);up7:∀i,i<9->i≠4->i≠5->i≠6->i≠7->i≠8->∀{o},H7 (F i)=!o->B (F i)=!o:=λi a n4 n5 n6 n7 n8 {o} e=>k13 (k11 (k9 e (d i a 4 ⋯ n4) (d i a 5 ⋯ n5) (Fq i a)) (d i a 6 ⋯ n6) (d i a 7 ⋯ n7)) (d i a 8 ⋯ n8);up5:∀i,i<3->∀{o},H5 (F i)=!o->B (F i)=!o:=λi a {o} e=>up7 i () () () () () () (k7 e (d i () 3 ⋯ ()));up9:∀i,i<6->∀{o},H9 (F i)=!o->B (F i)=!o:=λi a {o} e=>k13 (k11 e (d i () 6 ⋯ ()) (d i () 7 ⋯ ())) (d i () 8 ⋯ ());X:∀i,i<8->∀{o},D (F i)=!o->B (F i)=!o:=λi a {o} e=>k13 e (d i () 8 ⋯ ());l13:∀i,i<9->∃xs,B (F i)=!(.lst xs):=λi a=>(do h8<|i=8;[h8];{_,e8};h6<|i=6;[h6];{_,X 6 ⋯ e6};h7<|i=7;[h7];{_,X 7 ⋯ e7};{zs,e}:=l9 i a;{zs,up9 i () e});G:=t11.trans t13;fi13:=((fi.af t7).af t9).af G;{br,ab,bnd,bl}:=(((pq5.af t7).af t9).af G).br;bl0:=fi.bl;vl:=fi.vl;pl:=fi.pc.1;{_,O,kk B dq F {⟨S,n,M,m,N,q,L,a,C,b,rs,cu⟩,br,lss} (λb o e=>k13 (S11 _ _ e) (old e 8 ⋯)) {{{xs,ms,ns2,{lh.of q13,hi,λi a _ _ _=>l13 i a,up7 3 ⋯ ⋯ ⋯ ⋯ ⋯ ⋯ e3,an.imp λv i g=>(g.af t9).af G,W,up9 4 ⋯ e4,am.imp λv i g=>g.af G,wm,up9 5 ⋯ e5,an5.imp λv i g=>g.af G,wn}},do¬m<=63;(),{bs,es,cs,60,{lh.of q13,hi,λi a _=>l13 i a,up5 0 ⋯ eb,up5 1 ⋯ ev,up5 2 ⋯ ec,fi13},⋯,qf (xj rs) ()},{ys,e8,λy hy=>let⟨l,_,b,vp,c,h1,h2,h3,h4,h5,h6⟩:=ly.mem hy;{(_,_),b,vp,_,_,_,_,c,h1,h2,h3,h4,h5,h6},do[ly.1];lf},{eO F 9,F 6,ls,F 7,cs2,q13,fe F 6 ⋯,X 6 ⋯ e6,aL.imp λv i g=>iV.af g t13,WL',fe F 7 ⋯,X 7 ⋯ e7,aC.imp λv i g=>gP.af g t13,WC'},sok},{bs,up5 0 ⋯ eb,ab},{ys,e8,ly},bnd,do¬br.length<=60;(),lsd,lf}}
def Gm(T:Txt K mg tk)(F:FO K mg "has_leave" uS)(d:zS P w K mg base)(c:zB P w K mg base):yY P w K mg base:=do aO F MF (Ua λ_ _ _ _ _ _=>rfl) {} λfa C A outer s H vs Q E f h=>?_;{_,(ax (bS (ck c8 (vv 3) (xl (vv 0))) (aH (aR dF)) cX) (ax (sn MF.nd 6 (cl d f (a2 (vv 1) (vv 4)))) (ax (bS (fm (cl c f (ac (vv 2) (ac (vv 6) (a2 (vv 3) (vv 5)))))) (aH (aR dF)) cX) (aH (aR (E4 (ce c8 (vv 5) aN) (Hz (cl c f (ac (vv 2) (ac (vv 6) (a2 (vv 3) aN))))))))))),?_};{r,b,p,i,v,k,x,rs,bs,br,ys,ls,rfl,j,B,J,I,t,hp,z,o,bY,pv,e}:=h;{_,O,_,O,r,_,0,.str x,O,O,j,Sw _ _,O,_,O,?_};h0<|i=x;e<-[qH h0];cj (do[iK];qH h0) (e H (ag.refl _));e<-[decide_eq_false h0];bX (do[iK];decide_eq_false h0) ?_;{_,O,_,O,b,v,k,bs,br,O,B,J,I,t,pv,λH1 q cv n L D G=>?_};{_,O,_,O,_,O,_,O,p,q,ys,ls,i,"read",cv,_,O,hp.same n,z.imp λv l g=>LX.af g n.af,o,bY,aD.of D,G,λH2 s2=>{_,O,?_}};m:=n.trans s2;a:=e H2 m;(by unfold om at a;cases y:(((yD br br.length k).findSome? (bR i "read" ls)).getD false)with|true|false=>?_);a<-[y];cj rfl a;a<-[y];bX rfl ?_;{_,O,O,_,O,?_};bX (do[iK];decide_eq_false ∅) a
def FF(T:Txt K mg tk)(F:FO K mg "row_of" t_)(a:uE P w K mg base)(c:uJ P w K mg base):mR P w K mg base:=do aO F Ge (iP λ_ _=>rfl) {} λfa Y A outer s H vs Q E z h=>?_;{_,(aH (aR (cl a z (a1 (GQ (il (cl c z (a2 (vv 0) (vv 1)))) (λ_ _ _=>ee) (λ_ _ _=>(l_ x_ (vv 0) (fj aE) (fj aE)))))))),?_};{fa,J,pt,S,n,rfl,fg,o,d,kk}:=h;W:WS S n:=(do _;{_,_,_,_,_,_,_,W}:=fg;W);qZ:=W.uZ pt;{_,O,_,O,fa,J,pt,S,n,O,fg,o,d,λH1 q zs X g1 C k=>?_};hzl:zs.length<=1400:=(do[k.1];qf (qf (wg _ _) (do[zg];qb _)) W.bY);{q,O,{_,aD.of C},cK (xs:=zs) (cJ ()) (λj us H'=>ag H1 H'/\AN (PL (cm S) (pT S) (DS S) H') us ((bM S n pt).take j)) {ag.refl _,.nil} (λ_ _ H' s'=>aD.of (s'.1 _ _ C)) (λj x us H' K1 M hx s' k1 k0=>?_) λt up us s' U m=>?_};{s',f}:=s';{i,ei,sn}:=k.at hx;{b,vq,vn,vb,kq,vg,rfl,h1,h2,V,R,I,h6}:=SN.af sn s'.af;tk:(bM S n pt).take (j+1)=(bM S n pt).take j++[i]:=(do[qy,ei];2);eA (B:=M H') ?_;{_,O,1,O,4,O,b,_,O,aS.of h1,(by show ¬(HT.b_ 6 0 (some 1)=0/\HT.b_ 6 6 (some 4)=6);decide),λZ H7 g7 p e7=>k1 _ _ {s'.trans p,?_}};[tk];r:=p.af;(f.imp λv i g=>g.af r).snoc {Z,vn,vb,.ref kq,O,e7,V.af r,R.af r,.tup (p _ _ I) (.cons (.int _) (.cons (.int _) (.cons (.int _) .nil)))};{s6,f}:=s';y:ag t (upd t up (.lst us)):=ag.new m;f<-[show zs.length=(bM S n pt).length from k.1,zd];e:=(X.trans s6).trans y;{up,us,cm S,pT S,DS S,bM S n pt,bM S n pt,2,O,aD.of aF,f.imp λv i g=>g.af y.af,O,qZ,λG q8 ws L D N aw=>kk G q8 ws (e.trans L) (e.free D) N aw}
def FN(T:Txt K mg tk)(F:FO K mg "stood_in" tP)(gfBi:yZ P w K mg base):y_ P w K mg base:=do aO F uj (mI λ_=>rfl) {} λfa cdv A outer s H vs Q E I h=>?_;{_,(ax (sn uj.nd 1 (cl gfBi I (a1 (vv 0)))) (ax (sn uj.nd 2 kT) (ax (fo (rW (vv 0)) (gt (dD (gn uj.nd 3) (dD (gn uj.nd 4) kY))) (aH (kD (cW I) (vv 2) (vv 3) (sf (ck (p_ (cW I)) (vv 3) (vv 1)) (Et (v:=.ref cB) rfl T.cB rfl) (xt (vv 4))) rfl))) (aH (aR (vv 2)))))),?_};{c,kt,xs,rfl,m,akt,W,tb,ma,kk}:=h;hfew:=W.bY;M:∀b,sS c b->∀us,H b≠some (.tup us):=λb z us e=>(do rfl||rfl:=z;(by rcases m with q|⟨o',q⟩ <;> rw[q]at e <;> cases e);{ps,t}:=tb.cn;e<-[t];-e);{_,O,c,kt,xs,O,m,akt,W,tb,λH1 C ku E' T s1 n tb1 gtu B tur R=>?_};t01:=OJ s1 M;(st,H2,L,s2,e2);g:=Rd.same n s2;t02:=t01.trans s2.af;nst:st≠C:=(a_ B L).symm;k:H st=none:=(do this:=s1.free L;z<|sS c st;z||z:=z;L<-[z];(by rcases n with q|⟨o',q⟩ <;> rw[q]at L <;> cases L);{ps,t}:=tb1.cn;t<-[<-z,L];-t;this<-[iJ z];this);(by dsimp only[cQ,uO]);Nl ?_;{_,O,c,kt,O,uH g λo Y hY fY eY=>?_};tY:aj H2 Y:=λb us e=>hY b _ (λz=>do !z;by rcases g with q|⟨o',q⟩ <;> rw[q]at e <;> cases e) e;nqu:C≠c:=λz=>(do this:=s2 _ _ B;this<-[z];f:=fV (H:=H) (S:=sS c) (b:=c) (.inl rfl);gtu<-[z];by rcases m with q|⟨o',q⟩ <;> rw[gtu]at q <;> cases q);nqs:st≠c:=λz=>(do e2<-[z];k<-[z];by rcases m with q|⟨o',q⟩ <;> rw[k]at q <;> cases q);sYd:ag (cg H (sS c)) Y:=λb u e=>(do nb:¬sS c b:=λz=>(do e<-[fV z];-e);hY b u (λz=>nb (.inl z)) (s2 _ _ (s1 _ _ e)));tbY:jL Y:=(tb1.same s2).keep λb u e hu=>hY b u (λz=>do !z;q||{o',q}:=g;e<-[q];-e;(by rcases hu with⟨ps,y⟩|⟨φ,y⟩ <;> cases y);e<-[q];-e;by rcases hu with⟨ps,y⟩|⟨φ,y⟩ <;> cases y) e;N:=hY C _ nqu (s2 _ _ B);d:=hY st _ nqs e2;G:=t02.trans tY;aY:=akt.imp λe x q=>q.imp (R':=gM Y) G λr=>r.af G;maY:=G _ _ ma;lM (λj σ X=>vX λ(ks:List 68) (U:Option V) (u4:Option V)=>iD (σ=[!(.ref c),!(.ref C),!(.ref st),U,u4]) (ag (del Y st) X) (X st=!(.dG ks)) (AL (EK (qV X) X) ks ((xs.take j).map (eg T)))) {[],none,none,O,(λb u e=>ox _ _ e),d,.nil} (λj σ X ⟨_,_,_,_,s,_,_⟩=>s _ _ (do[bW nqs.symm];eY)) ?_ ?_;(j,e,σ,X,p,hx,{ks,U,u4,rfl,J,eX,ak},hp,Nx,hNx);tX:aj Y X:=tG d (λys z=>nomatch z) J;{r,I,p1,p2,p3}:=aY.at hx;hjl:j<xs.length:=(qw.mp I).1;sp:ag X (upd X p 76):=ag.new hp;ep:(upd X p 76) p=! 76:=aF;(by generalize upd X p 76=X1 at sp ep);D:=tX.trans sp.af;{b,vp,vo,vn,kq,hbv,h1,h2,h3,h4,h5}:=p3.af D;etu1:=sp _ _ (J _ _ (do[bW nst.symm];N));a:=sp _ _ eX;i:=p2.af D;ak1:=ak.imp λe x q=>q.imp (R':=qV X1) sp.af λr=>r.af sp.af;hkl:ks.length<sizeLine:=kQ (do[ak.1,qh,wb];());hnd:(((xs.take j).map (eg T)).map (·.pt)).Nodup:=(do[Na];W.nd.sublist ((k8 j xs).map _));Z:(eg T r).pt∉((xs.take j).map (eg T)).map (·.pt):=(do[Na,ya];(z);hn:=W.nd;e1:xs=xs.take j++r::xs.drop (j+1):=(do this:=List.take_append_drop j xs;this<-[jn hjl];[<-qJ ((qe hjl).symm.trans I)];this.symm);hn<-[e1,zy,zm];(yn.mp hn).2.2 r.pt z r.pt qi rfl);etk:(xs.take (j+1)).map (eg T)=iE ((xs.take j).map (eg T)) (eg T r):=(do[Sm Z,qy,I,zy];2);fin:∀vv,GK X1 (.tup (eg T r).ou) vv->vX λ(ks':List 68) (U:Option V) (u4:Option V)=>iD ([!(V.ref c),!(V.ref C),!(V.ref st),!e.2.1,!e.2.2]=[!(.ref c),!(.ref C),!(.ref st),U,u4]) (ag (del Y st) (upd X1 st (.dG (pG ks (.tup r.pt) e.2.1 vv)))) ((upd X1 st (.dG (pG ks (.tup r.pt) e.2.1 vv))) st=!(.dG ks')) (AL (EK (qV (upd X1 st (.dG (pG ks (.tup r.pt) e.2.1 vv)))) (upd X1 st (.dG (pG ks (.tup r.pt) e.2.1 vv)))) ks' ((xs.take (j+1)).map (eg T))):=λvv gv=>(do aP:=BS (r:=eg T r) (y:=e.2.1) (v:=vv) ak1 hnd (do[ya];i) gv;aP<-[ya,<-etk];{_,_,_,O,(J.trans sp).wr eG,aF,aP.imp λe x q=>q.imp (aj.wd a) λr=>r.af (aj.wd a)});{p,_,O,aS.of ep,O,_,_,O,_,_,O,O,?_};{_,O,_,O,C,ku,.tup r.pt,O,.inl etu1,i,_,O,?_};[qB qx];ht<|T r.pt;[R.yes ht];cj rfl ?_;{_,O,_,O,st,ks,.tup r.pt,O,a,i,hkl,hNx _ _ (fin _ ?_)};[To ht];{_,O,D _ _ maY};[R.no ht];bX rfl ?_;{_,O,b,_,1,vo,hbv,O,aS.of h1,O,_,O,_,O,st,ks,.tup r.pt,O,a,i,hkl,hNx _ _ (fin _ ?_)};[Bi ht];h3;(σ,X,{ks,U,u4,rfl,J,eX,ak});ak<-[aY.1,zd];{_,O,kk X st ks E' T (λb u e=>J _ _ ?_) (tbY.cut d (λps z=>nomatch z) (λφ z=>nomatch z) J) k eX tur ak};[bW (λz=>?_)];sYd _ _ e;!z;e<-[Ju k];-e
def Cm(T:Txt K mg tk)(F:FO K mg "lines_of" jY)(N:uE P w K mg base):zY P w K mg base:=do aO F BE (vV λ_ _ _=>rfl) {} λfa cdv A outer s H vs Q E r h=>?_;hu1:(A.deeper (envOfC "lines_of" (ah jY) ↑s fa cdv)).units+1<cLine:=cS r;{_,(ax (wG (i:=3) BE.nd rfl (Or.inl rfl) (own:=["fact"]) (fr:=[("part",1),("way",2)]) rfl (il (cL hu1 (vv 0) aN (λ_ _=>rfl))) {O,∅,∅} (mU (ah jY) ["facts","part","way","lines","lives"] rfl rfl (λ_ h=>g_ h) ∅ ∅ ∅) (λ_ _ _=>(cZ (i:=0) (do¬List.Nodup (["fact","part","way"]:List UK);by decide +kernel) rfl (Or.inl rfl))) (λ_=>q_ rfl) (λ_ _ _=>(dJ (PW.pt (gJ (ck (BG r) (xt (vv 0)) (vc 1)) (hZ (ck c8 (xt (vv 0)) (vc 2))))))) (λ_ _ _=>(vv 0))) (ax (sm BE.nd 4 (cy (gZ r.hd (rR r)) T.c6 boot_dict (a1 (GQ (il (vv 3)) (λ_ _ _=>ee) (λ_ _ _=>(bE (a2 (xt (vv 0)) (xt (vv 0))))))))) (aH (aR (m2 (ah jY) Ab [("lives",4)] (il (cl N r (a1 (GQ (il (vv 3)) (λ_ _ _=>ee) (λ_ _ _=>(l_ x_ (vv 0) (fj aE) (fj aE))))))) (λ_ _ _=>(dJ (fm (dI (cW r) (vc 1) (vv 0) (λ_ _=>rfl))))) (λ_ _ _=>(vv 0))))))),?_};{fa,vp,pt,wy,L,n,rfl,{U,la,vs,rd,C,J,an,W},hvp,D,kk}:=h;y:vs.length=n:=(do[an.1,zg]);bY:=W.bY;qZ:=W.uZ pt wy;{_,O,fa,.ref la,O,.inl {U,.inr "lines",rd,O,C.symm},la,O,{_,aD.of J},cK (xs:=vs) (cJ ()) (λj ys H'=>H'=H/\AN (iV L H) ys (((List.range n).take j).filter (p5 L pt wy))) {O,.nil} (λ_ _ H' s'=>do[s'.1];aD.of J) (λj x ys H' K1 I o s' m t=>?_) λH1 p ys s' hy hq=>?_};{rfl,f}:=s';{i,d,q}:=an.at o;hin:i<n:=qj.mp (qu d);ln':=q;{b,vq,vn,vb,kq,rfl,h1,h2,h3,h4,h5}:=q;tk:(List.range n).take (j+1)=(List.range n).take j++[i]:=(do[qy,d];2);{_,O,b,_,0,_,O,O,aS.of h1,O,_,O,tD (L i).pt,tD pt,(bC h2).dv,(bC hvp).dv,(W.lay i hin).2,D,qf (je _ _) (qf (dB _) ⋯),_,O,?_};M:(if false=true then not (PyData.eqv (tD (L i).pt) (tD pt)) else PyData.eqv (tD (L i).pt) (tD pt))=decide ((L i).pt=pt):=fH _ _;hp<|(L i).pt=pt;cj (do[M];qH hp) ?_;{_,O,b,_,1,_,O,O,aS.of h1,O,_,O,O,_,O,?_};X<|(L i).wy=wy;cj (qH (do[X])) ?_;{_,O,m _ _ {O,?_}};[tk];AN.pick (vs:=vs) f ln' (lT.mpr {hp,X});bX (decide_eq_false (λz=>X (V.str.inj z))) ?_;t _ {O,?_};[tk];f.skip λz=>X (lT.mp z).2;bX (do[M];decide_eq_false hp) (bX rfl ?_);t _ {O,?_};[tk];f.skip λz=>hp (lT.mp z).1;{rfl,f}:=s';f<-[y,jd (do[zg];qb _)];f:AN (iV L H1) ys (cz L n pt wy):=f;hyl:ys.length<=1300:=(do hy<-[y];());n1:ag H1 (upd H1 p (.lst ys)):=ag.new hq;G:(upd H1 p (.lst ys)) p=!(.lst ys):=aF;a:=f.imp λv i g=>g.af n1.af;(by generalize upd H1 p (.lst ys)=H2 at n1 G a);{_,O,p,O,{_,aD.of G},cK (xs:=ys) (cJ ()) (λj zs H'=>ag H2 H'/\∃kvs,cw H' zs kvs/\kX (cR L) (λv i=>v=.bl (L i).lv) kvs ((cz L n pt wy).take j)) {ag.refl _,[],trivial,trivial} (λ_ _ H' s'=>aD.of (s'.1 _ _ G)) (λj x zs H' K1 I o s' m t=>?_) λH3 zp zs s' hz hzq=>?_};{s',kvs,pr,Y}:=s';{i,d,q}:=a.at o;{b,vq,vn,vb,kq,rfl,h1,h2,h3,h4,h5}:=q.af s'.af;tk:(cz L n pt wy).take (j+1)=(cz L n pt wy).take j++[i]:=(do[qy,d];2);eA (B:=I H') ?_;{_,O,b,_,2,_,O,O,aS.of h1,O,_,O,b,_,5,_,O,O,aS.of h1,O,aI rfl,λtq H4 g4 s4 e4=>m _ _ {s'.trans s4,kvs++[(.tup (cR L i),vn,.bl (L i).lv)],cw.snoc (e:=(.tup (cR L i),vn,.bl (L i).lv)) {tq,O,e4,h3.af s4.af} (pr.af s4.af),?_}};[tk];Y.snoc rfl rfl;{s3,kvs,pr,Y}:=s';n3:ag H3 (upd H3 zp (.lst zs)):=ag.new hzq;pkF:kX (cR L) (λv i=>v=.bl (L i).lv) kvs (cz L n pt wy):=(do Y<-[show ys.length=(cz L n pt wy).length from a.1,zd];Y);{zp,zs,kvs,O,aD.of aF,pr.af n3.af,(),λdq H5 g5 s5 e5=>?_};c:=(s3.trans n3).trans s5;get:∀i∈cz L n pt wy,vG (putAll [] kvs) (.tup (cR L i))=!(.bl (L i).lv):=λi hi=>(do _;{v,h1,rfl}:=kX.get (all:=cz L n pt wy) qZ.inj (done:=[]) (acc:=[]) pkF (λi z=>nomatch z) (λi h=>h) (λi z=>nomatch z) i (.inr hi);h1);{_,O,p,O,{_,aD.of (c _ _ G)},cK (xs:=ys) (cJ ()) (λj us H'=>ag H5 H'/\AN (PL (cR L) (oI L) (NS L) H') us ((cz L n pt wy).take j)) {ag.refl _,.nil} (λ_ _ H' s'=>aD.of ((c.trans s'.1) _ _ G)) (λj x us H' K1 I o s' m t=>?_) λH6 up us s' hu6 huq=>?_};{s',k}:=s';{i,d,q}:=a.at o;{b,vq,vn,vb,kq,rfl,h1,h2,h3,h4,h5}:=q.af (c.trans s').af;tk:(cz L n pt wy).take (j+1)=(cz L n pt wy).take j++[i]:=(do[qy,d];2);eA (B:=I H') ?_;{_,O,2,O,5,O,b,_,O,aS.of h1,(by show ¬(HT.b_ 6 0 (some 2)=0/\HT.b_ 6 6 (some 5)=6);decide),λtq H7 g7 s7 e7=>m _ _ {s'.trans s7,?_}};[tk];t7:=s7.af;(k.imp λv i g=>g.af t7).snoc {tq,vn,vb,.ref kq,O,e7,h3.af t7,h4.af t7,.tup (s7 _ _ h5) (.cons (.int _) (.cons (.int _) .nil))};{s6,k}:=s';n6:ag H6 (upd H6 up (.lst us)):=ag.new huq;k<-[show ys.length=(cz L n pt wy).length from a.1,zd];{up,us,cR L,oI L,NS L,cz L n pt wy,cz L n pt wy,2,O,aD.of aF,k.imp λv i g=>g.af n6.af,.refl _,qZ,λH8 q8 ws s8 g8 e8 aw=>?_};wl:ws.length=(cz L n pt wy).length:=(do[aw.1];Rga.ie qZ.wf);S:=(s6.trans n6).trans s8;{q8,O,{_,aD.of e8},cK (xs:=ws) (cJ (do[wl,<-a.1];())) (λj us H'=>H'=H8/\AN (NM (cR L) H8) us (((eS L n pt wy).take j).filter λi=>(L i).lv)) {O,.nil} (λ_ _ H' s'=>do[s'.1];aD.of e8) (λj x us H' K1 I o s' m t=>?_) λH9 rp rs s' hr9 R=>?_};{rfl,k}:=s';{i,d,nm}:=aw.at o;him:i∈cz L n pt wy:=Rga.pe qZ.wf (qu d);tk:(eS L n pt wy).take (j+1)=(eS L n pt wy).take j++[i]:=(do[qy,show(eS L n pt wy)[j]?=some i from d];2);{_,O,_,O,dq,_,.tup (cR L i),.bl (L i).lv,O,.inl (S _ _ e5),nm,get i him,_,O,?_};Z<|(L i).lv=true;cj Z {_,O,m _ _ {O,?_}};[tk];AN.pick (vs:=ws) k nm Z;bX (do 0<|Z) (t _ {O,?_});[tk];k.skip Z;{rfl,ar}:=s';n9:ag H9 (upd H9 rp (.lst rs)):=ag.new R;s1:=(n1.trans c).trans S;ar<-[show ws.length=(eS L n pt wy).length from aw.1,zd];kk _ rp rs (s1.trans n9) (s1.free R) aF (ar.imp λv i g=>g.af n9.af)
def BY(T:Txt K mg tk)(F:FO K mg "living" oE)(r:mR P w K mg base)(f:uJ P w K mg base):mE P w K mg base:=do aO F JZ (iP λ_ _=>rfl) {} λfa cdv A outer s H vs Q E k h=>?_;{_,(ax (sm JZ.nd 2 (cy (gZ k.hd (rR k)) T.c6 boot_dict (a1 (GQ (il (cl f k (a2 (vv 0) (vv 1)))) (λ_ _ _=>ee) (λ_ _ _=>(bE (a2 (xt (vv 0)) (xt (vv 0))))))))) (aH (aR (m2 (ah oE) Ak [("lives",2)] (il (cl r k (a2 (vv 0) (vv 1)))) (λ_ _ _=>(dJ (fm (dI (cW k) (vc 1) (vv 0) (λ_ _=>rfl))))) (λ_ _ _=>(vv 0)))))),?_};{fa,X,pt,S,n,rfl,fg,o,a,kk}:=h;W:WS S n:=(do _;{_,_,_,_,_,_,_,W}:=fg;W);qZ:=W.uZ pt;{_,O,_,O,fa,X,pt,S,n,O,fg,o,a,λH1 q zs s1 g1 e1 M=>?_};hzl:zs.length<=1400:=(do[M.1];qf (qf (wg _ _) (do[zg];qb _)) W.bY);{q,O,{_,aD.of e1},cK (xs:=zs) (cJ ()) (λj us H'=>ag H1 H'/\∃kvs,cw H' us kvs/\kX (cm S) (λv i=>v=.bl (S i).lv) kvs ((bM S n pt).take j)) {ag.refl _,[],trivial,trivial} (λ_ _ H' s'=>aD.of (s'.1 _ _ e1)) (λj x us H' K1 K0 V s' R k0=>?_) λH3 up us s' hu3 N=>?_};{s',kvs,I,D}:=s';{i,C,sn}:=M.at V;{b,vq,vn,vb,kq,vg,rfl,h1,h2,h3,h4,h5,h6}:=SN.af sn s'.af;tk:(bM S n pt).take (j+1)=(bM S n pt).take j++[i]:=(do[qy,C];2);eA (B:=K0 H') ?_;{_,O,b,_,1,_,O,O,aS.of h1,O,_,O,b,_,5,_,O,O,aS.of h1,O,aI rfl,λtq H4 g4 L e4=>R _ _ {s'.trans L,kvs++[(.tup (cm S i),vn,.bl (S i).lv)],cw.snoc (e:=(.tup (cm S i),vn,.bl (S i).lv)) {tq,O,e4,h3.af L.af} (I.af L.af),?_}};[tk];D.snoc rfl rfl;{s3,kvs,I,D}:=s';n3:ag H3 (upd H3 up (.lst us)):=ag.new N;D<-[show zs.length=(bM S n pt).length from M.1,zd];{up,us,kvs,O,aD.of aF,I.af n3.af,(),λdq H5 g5 s5 e5=>?_};G:=(s3.trans n3).trans s5;c:=s1.trans G;get:∀i∈bM S n pt,vG (putAll [] kvs) (.tup (cm S i))=!(.bl (S i).lv):=λi hi=>(do _;{v,h1,rfl}:=kX.get (all:=bM S n pt) qZ.inj (done:=[]) (acc:=[]) D (λi z=>nomatch z) (λi h=>h) (λi z=>nomatch z) i (.inr hi);h1);{_,O,_,O,fa,X,pt,S,n,O,fg.same c,o.af c.af,a,λZ rp t s6 g6 Y J=>?_};hrl:t.length<=1400:=(do[J.1];qf (iS W) W.bY);{rp,O,{_,aD.of Y},cK (xs:=t) (cJ ()) (λj us H'=>H'=Z/\AN (NM (cm S) Z) us (((aB S n pt).take j).filter λi=>(S i).lv)) {O,.nil} (λ_ _ H' s'=>do[s'.1];aD.of Y) (λj x us H' K1 K0 V s' R k0=>?_) λH9 np rs s' hr9 p=>?_};{rfl,au}:=s';{i,C,nm}:=J.at V;U:i∈bM S n pt:=qk.mpr (do this:=(gF W).mp (qu C);{qj.mpr this.1,f9.mpr this.2});tk:(aB S n pt).take (j+1)=(aB S n pt).take j++[i]:=(do[qy,C];2);{_,O,_,O,dq,_,.tup (cm S i),.bl (S i).lv,O,.inl (s6 _ _ e5),nm,get i U,_,O,?_};y<|(S i).lv=true;cj y {_,O,R _ _ {O,?_}};[tk];AN.pick (vs:=t) au nm y;bX (do 0<|y) (k0 _ {O,?_});[tk];au.skip y;{rfl,m}:=s';n9:ag H9 (upd H9 np (.lst rs)):=ag.new p;d:=c.trans s6;m<-[show t.length=(aB S n pt).length from J.1,zd];kk _ np rs (d.trans n9) (d.free p) aF (m.imp λv i g=>NM.af g n9.af)
def CM(T:Txt K mg tk)(F:FO K mg "covered" uT)(t:mR P w K mg base)(k:mM P w K mg base)(o:pO P w K mg base):AG P w K mg base:=do aO F FY (wN λ_ _ _ _=>rfl) {} λfa cdv A outer s H vs Q E y h=>?_;{_,(ax (sn FY.nd 4 (cl t y (a2 (vv 0) (vv 1)))) (ax (sn FY.nd 5 (cl o y (ac (cl k y (a1 (vv 4))) (a2 (vv 2) (vv 3))))) (aH (aR (l_ F4 (vv 4) (fj (xt (vv 5))) (fj (xt (vv 5)))))))),?_};{fa,U,pt,S,n,vb,ve,b,e,rfl,fg,C,m,gb,Y,ge,he,kk}:=h;W:WS S n:=(do _;{_,_,_,_,_,_,_,W}:=fg;W);{_,O,_,O,fa,U,pt,S,n,O,fg,C,m,λH1 q zs Z g1 M x=>?_};f:d9 67 b:=λi c z=>(gF W).mpr (Y i c z);r:d9 67 e:=λi c z=>(gF W).mpr (he i c z);{_,O,q,zs,cm S,aB S n pt,O,M,x,mC W,(λi hi j R=>W.inj i (fN W hi) j (fN W R)),qf (iS W) W.bY,λH2 dq kvs s2 g2 e2 B=>?_};a:=Z.trans s2;{_,O,_,O,dq,kvs,S,aB S n pt,vb,ve,b,e,O,e2,B,gb.af a.af,f,ge.af a.af,r,λH3 N D L=>?_};fl:bG 67 b<=zs.length:=(do[x.1];xr f);X:bG 67 e<=zs.length:=(do[x.1];xr r);{_,O,_,O,N,_,0,_,O,O,aS.of L,O,_,O,_,O,N,_,1,_,O,O,aS.of L,O,_,O,q,zs,O,aD.of (D _ _ (s2 _ _ M)),λp V g4 I J=>?_};J<-[Ox fl X];d:=a.trans D;kk V p _ (d.trans I) (d.free g4) J ?_;G:=((s2.trans D).trans I).af;((x.imp λv i g=>NM.af g G).drop _).take _
def Fz(T:Txt K mg tk)(F:FO K mg "stands_in" oF)(gfAj:vF P w K mg base)(L:y_ P w K mg base)(R:vH P w K mg base):sh P w K mg base:=do aO F Bt (mI λ_=>rfl) {} λfa cdv A outer s H vs Q E d h=>?_;{_,(ax (sn Bt.nd 1 (cl L d (a1 (cl R d (a1 (vv 0)))))) (ax (sm Bt.nd 2 (cl gfAj d (a1 (vv 1)))) (aH (aR (cy (gZ d.hd (rR d)) T.c6 boot_dict (a1 (jC (own:=["part","outer"]) (fr:=[("reaching",2)]) rfl (rW (vv 1)) {O,∅,∅} (mU (ah oF) ["facts","outer_of","reaching"] rfl rfl (λ_ h=>g_ h) ∅ ∅ ∅) (λ_ _ _=>(lB (n:=2) rfl (dD (cZ (i:=0) (do¬List.Nodup (["part","outer","reaching"]:List UK);by decide +kernel) rfl (Or.inl rfl)) (dD (cZ (i:=1) (do¬List.Nodup (["part","outer","reaching"]:List UK);by decide +kernel) rfl (Or.inl rfl)) kY)))) (λ_=>p7 rfl rfl ⋯) (λ_ _ _=>ee) (λ_ _ _=>(bE (a2 (vv 0) (sf (fm (dI (cW d) (vc 2) (vv 0) (λ_ _=>rfl))) (vv 1) eV))))))))))),?_};{fa,es,rs,rfl,fq,tb,ma,kk}:=h;W:=fq.xw;hfew:=W.bY;{_,O,fa,es,rs,O,fq,λH1 tq kt s1 g1 e1 ak1=>?_};tb1:=tb.same s1;{tq,kt,tl rs,O,.inl e1,ak1,W,tb1,s1 _ _ ma,λH2 sa ks E T s2 tb2 gsa m tur Z=>?_};ntP:tq≠hH:=λz=>(do _;{ps,t}:=tb1.cn;t<-[<-z,e1];-t);G:ag (del H hH) H2:=λb u e=>(do nb:b≠hH:=λz=>(do e<-[z,eG];-e);e<-[bW nb];mO s2 (s1 _ _ e) λz=>?_;z||z:=z;e<-[z,g1];-e;nb z);fsa:H sa=none:=s1.free gsa;wO:∀x∈((tl rs).map (eg T)),yI x:=λx C=>(do _;{y,hy,rfl}:=qc.mp C;Ax (W.w y hy));ma2:MA H2:=My.jU tb G ma λps z=>nomatch z;{_,O,sa,ks,((tl rs).map (eg T)),O,.inl m,Z.Fm λe x _ C q=>{q.1,q.2.1,iq (wO x C).ou.ne q.2.2},W.zw T,ma2,λM U kr f v a D era rm rcr hkf=>?_};hkr:∀x∈((tl rs).map (eg T)),∃b:Bool,vG kr (.tup x.pt)=!(.bl b)/\f x.pt=!b:=λx C=>(do _;{b,hb}:=uc.mp (hkf x C);this:=rm.at_ x.pt;this<-[kB (wO x C).pt.ne,hb];{b,this,hb});t23:aj H2 M:=tG m (λys z=>nomatch z) v;s03:ag (del H hH) M:=λb u e=>v _ _ (do[bW (λz=>?_)];G _ _ e;!z;e<-[ID fsa];-e);tb3:jL M:=tb2.cut m (λps z=>nomatch z) (λφ z=>nomatch z) v;fra:H U=none:=(do this:=G.free D;z<|U=hH;{ps,t}:=tb2.cn;t<-[<-z,D];-t;this<-[bW z];this);ak3:=Z.imp λe x q=>q.imp (R':=qV M) t23 λr=>r.af t23;nrs:U≠sa:=(a_ m D).symm;{_,O,sa,ks,O,uH a λo Y hY fY eY=>?_};tY:aj M Y:=λb us e=>hY b _ (λz=>do !z;by rcases a with q|⟨o',q⟩ <;> rw[q]at e <;> cases e) e;eraY:=hY U _ nrs era;N:ag (del H hH) Y:=λb u e=>hY b u (λz=>do !z;e<-[ID fsa];-e) (s03 _ _ e);tbY:jL Y:=tb3.keep λb u e hu=>hY b u (λz=>do !z;q||{o',q}:=a;e<-[q];-e;(by rcases hu with⟨ps,y⟩|⟨φ,y⟩ <;> cases y);e<-[q];-e;by rcases hu with⟨ps,y⟩|⟨φ,y⟩ <;> cases y) e;aY:=ak3.imp λe x q=>q.imp (R':=qV Y) tY λr=>r.af tY;xx (mZ (do[aY.1,qh];())) (λj ys X=>ag Y X/\∃es:List 68,cw X ys es/\AL (EK (iH X) X) es ((((tl rs).map (eg T)).take j).map (sH f))) {ag.refl _,[],trivial,.nil} (λ_ _ X s'=>s'.1 _ _ eY) (λj e ys X p K1 K0 C s' hp k1 k0=>?_) λX np ys s' hy hq=>?_;{I,k,pr,ae}:=s';{r,d,p1,p2,p3}:=aY.at C;sp:ag X (upd X p 76):=ag.new hp;ep:(upd X p 76) p=! 76:=aF;(by generalize upd X p 76=X1 at sp ep);c:=I.trans sp;{b,hb,hbv}:=hkr r (qu d);S:∀vv,iH X1 vv (sH f r)->∀(J:UJ) X3,X1 J=none->ag X1 X3->X3 J=!(.tup [e.2.1,vv])->K1 (.ref J) X3:=λvv hvv J X3 g3 v e3=>(do g:=sp.trans v;k1 _ _ {I.trans g,k++[(.tup r.pt,e.2.1,vv)],?_,?_};cw.snoc (e:=(.tup r.pt,e.2.1,vv)) {J,O,e3,(p2.af c.af).af v.af} (pr.af g.af);[qy,d,zy];(ae.imp λe x p=>p.imp g.af λq=>q.af g.af).snoc {do[(pP f r).1],do[(pP f r).1];(p2.af c.af).af v.af,hvv.af v.af});{p,_,O,aS.of ep,O,_,_,O,_,_,O,O,?_};eA (B:=K0 X1) ?_;{_,O,_,O,_,O,U,kr,.tup r.pt,.bl b,O,.inl (c _ _ eraY),p2.af c.af,hb,_,O,?_};(by cases b with|true|false=>?_);cj rfl {_,O,aI rfl,S _ (do(by unfold iH sH);[qE hbv];iq (wO r (qu d)).ou.ne (GK.af p3 c.af))};bX rfl {aI rfl,S _ (by unfold iH sH;rw[qB (do[hbv];λz=>nomatch z)];rfl)};{I,k,pr,ae}:=s';ae<-[aY.1,zd];iw:rQ rs (((tl rs).map (eg T)).map (sH f)):={E,T,f,tur,do rcr<-[qh];rcr,O};ds:=iw.zw W;nH:ag X (upd X np (.lst ys)):=ag.new hq;{np,ys,k,O,aD.of aF,pr.af nH.af,?_,λq X2 g2 s2 e2=>?_};this:ys.length<=ks.length:=hy;this:=aY.1;this<-[qh];();e2<-[mH _ [] (do[we];xQ ae ds.nd),we];s0:=nH.trans s2;fq':H q=none:=(do h1:=I.free (nH.free g2);this:=N.free h1;z<|q=hH;{ps,t}:=tbY.cn;t<-[<-z,h1];-t;this<-[bW z];this);kk X2 q k _ ((N.trans I).trans s0) (tbY.same (I.trans s0)) fq' e2 iw (ae.imp λe x p=>p.imp s0.af λq=>q.af s0.af)
def GV(T:Txt K mg tk)(F:FO K mg "table_of" oV)(M:zY P w K mg base)(X:yW P w K mg base):Ag P w K mg base:=do aO F rN (iP λ_ _=>rfl) {} λfa cdv A outer s H vs Q E hr h=>?_;{_,(ax (sn rN.nd 2 (cl M hr (ac (vv 0) (a2 (vv 1) aN)))) (ax (sn rN.nd 3 (cl M hr (ac (vv 0) (a2 (vv 1) aN)))) (ax (sm rN.nd 4 (cl X hr (a2 (vv 0) (vv 1)))) (ax (sn rN.nd 5 (bQ dh)) (ax (fo (il (vv 2)) (gm rN.nd 6) (aH (ap (vv 5) (a1 (m2 (ah oV) zR [("told",4),("row",6)] (il (vv 3)) (λ_ _ _=>ee) (λ_ _ _=>(bm PySem.F.plainAttrs_dict PySem.F.slot_dict_get PySem.F.type_dict_get (j1 (cW hr)) (vc 1) (a2 (bE (a2 (vc 2) (vv 0))) aN)))))))) (aH (aR (bE (ac (vv 2) (a2 (vv 3) (vv 5))))))))))),?_};{fa,vp,pt,L,n,C,m,rfl,tb,N,o,kk}:=h;WLn:=(show WL L n by obtain⟨_,_,_,_,_,_,_,_,_,h,_⟩:=tb;exact h);{_,O,_,O,fa,vp,pt,"row",L,n,O,tb.fl,N,o,λH1 U zr s1 g1 e1 ar=>?_};{_,O,_,O,fa,vp,pt,"column",L,n,O,(tb.same s1).fl,N.af s1.af,o,λH2 W zc s2 g2 e2 ac=>?_};R:=s1.trans s2;{_,O,_,O,fa,vp,pt,L,n,C,m,O,tb.same R,N.af R.af,o,λH3 dq kvs s3 g3 e3 tell=>?_};D:=R.trans s3;f:=s3 _ _ (s2 _ _ e1);t:=s3 _ _ e2;ar3:AN (NM (cR L) H3) zr (bf L n pt "row"):=ar.imp λv i g=>g.af (s2.trans s3).af;ac3:AN (NM (cR L) H3) zc (bf L n pt "column"):=ac.imp λv i g=>g.af s3.af;nrc:U≠W:=a_ e1 g2;hrl:zr.length<=1300:=(do[ar.1];J9 WLn);hcl:zc.length<=1300:=(do[ac.1];J9 WLn);{aI rfl,λwp H4 g4 s4 e4=>?_};nrw:U≠wp:=a_ f g4;ncw:W≠wp:=a_ t g4;{_,O,U,O,{_,aD.of (s4 _ _ f)},bH (xs:=zr) (λj σ Z=>xN λ(ws:List V) (u6:Option V)=>ot (σ=[!(.ref fa),!vp,!(.ref U),!(.ref W),!(.ref dq),!(.ref wp),u6]) (ag H3 Z) (Z wp=!(.lst ws)) (AN (Ng L C m pt (bf L n pt "column") H Z) ws ((bf L n pt "row").take j)) ws.Nodup (∀a,V.ref a∈ws->a≠U/\a≠W/\a≠wp)) {[],none,O,s4,e4,.nil,wv,λa z=>nomatch z} (λj σ Z _ ⟨_,_,_,d,_,_,_,_⟩=>aD.of (d _ _ f)) ?_ ?_};(j,x,σ,Z,hx,{ws,u6,rfl,d,Y,S,nd,ne},Nx,hNx);{r,er,nmr}:=ar3.at hx;hj:j<1300:=(do this:=(qw.mp hx).1;());hwl:ws.length<=j:=(do[S.1,wb];());tk:(bf L n pt "row").take (j+1)=(bf L n pt "row").take j++[r]:=(do[qy,er];2);{_,O,.inl {O,_,aD.of Y},_,O,W,O,{_,aD.of (d _ _ t)},cK (xs:=zc) (cJ ()) (λj' ys Z'=>ag Z Z'/\ys=((bf L n pt "column").take j').map λc=>V.str (jN C m pt (cR L r) (cR L c))) {ag.refl _,O} (λ_ _ Z' s'=>aD.of (s'.1 _ _ (d _ _ t))) (λj' y ys Z' K1 K0 hy s' k1 k0=>?_) λZ1 a ys s' hyl hqa=>?_};{s',rfl}:=s';{c,ec,nmc}:=ac3.at hy;I:=d.trans s';{c1,rfl,hc1}:=nmr.af I.af;{c2,rfl,hc2}:=nmc.af I.af;eA (B:=K0 Z') ?_;{_,O,.inr (.inr (.inl {O,.inr (.inr {kvs,I _ _ e3})})),_,O,_,O,aI rfl,λtq Z2 g2' J e2'=>?_};{dq,kvs,.two (cR L r) (cR L c),.ref tq,.str "",O,O,J _ _ (I _ _ e3),{tq,c1,c2,O,e2',J _ _ hc1,J _ _ hc2},?_};[show(vG kvs (.two (cR L r) (cR L c))).getD (V.str "")=.str (jN C m pt (cR L r) (cR L c)) from tell _ _];k1 _ _ {s'.trans J,?_};[qy,ec,zy];2;{s',rfl}:=s';[show zc.length=(bf L n pt "column").length from ac.1,zd];nZ:ag Z1 (upd Z1 a (.lst ((bf L n pt "column").map λc=>V.str (jN C m pt (cR L r) (cR L c))))):=ag.new hqa;ea:(upd Z1 a (.lst ((bf L n pt "column").map λc=>V.str (jN C m pt (cR L r) (cR L c))))) a=!(.lst (Ii L C m pt (bf L n pt "column") r)):=aF;G:=s'.trans nZ;k:Z a=none:=s'.free hqa;(by generalize upd Z1 a (.lst ((bf L n pt "column").map λc=>V.str (jN C m pt (cR L r) (cR L c))))=Z2 at nZ ea G);{wp,_,_,O,O,G _ _ Y,kK (),?_};naw:a≠wp:=(a_ Y k).symm;hNx _ _ {ws++[.ref a],_,O,(d.trans G).wr g4,aF,?_,?_,λb hb=>?_};[tk];AN.snoc (P_ S λv i hv g=>?_) {a,O,(D.trans d).free k,do[az naw];ea};{b,rfl,h1,h2}:=g;{b,O,h1,do[az (ne b hv).2.2];G _ _ h2};List.nodup_append.mpr {nd,do 0,λx hx y hy z=>?_};z<-[qo.mp hy];!z;{i,_,b,e,_,h2}:=S.mem hx;-e;h2<-[k];-h2;z||z:=qz.mp hb;ne b z;-qo.mp z;⟨(a_ (d _ _ f) k).symm,(a_ (d _ _ t) k).symm,naw⟩;(σ,Z,{ws,u6,rfl,d,Y,S,nd,ne});S<-[show zr.length=(bf L n pt "row").length from ar.1,zd];{_,O,_,O,_,O,aI rfl,λq H9 g9 s9 e9=>?_};p:=d.trans s9;kk H9 q U W wp zr zc ws (D.trans p) ((D.trans d).free g9) e9 g1 (s1.free g2) (D.free g4) nrc nrw ncw (p _ _ f) (p _ _ t) (s9 _ _ Y) (ar3.imp λv i g=>g.af p.af) (ac3.imp λv i g=>g.af p.af) (S.imp λv i g=>g.same s9) nd ne
def Gc(T:Txt K mg tk)(F:FO K mg "may_read" pf)(c:yY P w K mg base):yV P w K mg base:=do aO F GY (wN λ_ _ _ _=>rfl) {} λfa d A outer s H vs Q E e h=>?_;b:(A.deeper (envOfC "may_read" (ah pf) ↑s fa d)).units+1<cLine:=cS e;{_,(aH (aR (KI (ce Np (vv 2) eV) (Hz (cl c e (ac (vv 1) (ac (cL b (vv 0) aN (λ_ _=>rfl)) (ac (cL b (vv 0) aN (λ_ _=>rfl)) (ac (vv 2) (a2 (vv 3) aN)))))))))),?_};{fa,F,x,r,h,v,p,rfl,a,g,n,f}:=h;(by cases h with|none|some z=>?_);{_,O,O,_,O,cj (qH rfl) (f H (ag.refl _))};{bs,j,k}:=a.eb;{ys,i,m}:=a.ev;{_,O,O,_,O,bX (decide_eq_false λz=>nomatch z) ?_};{_,O,_,O,fa,.ref (F 0),O,(a.dk.get 0 ⋯),_,O,fa,.ref (F 8),O,(a.dk.get 8 ⋯),_,O,_,O,r,F 0,F 8,z,v,p,"ann",[.str "bo"],bs,x.br,ys,x.ls,O,aD.of g,aD.of j,k,qf a.lb ⋯,a.nb,aD.of i,m,a.ls,a.ll,n,f}
def Ck(T:Txt K mg tk)(F:FO K mg "told_of_signs" jK)(gfCb:mE P w K mg base)(gfCa:mR P w K mg base)(gfBo:mM P w K mg base)(gfAg:AF P w K mg base):zP P w K mg base:=do aO F nK (vV λ_ _ _=>rfl) {} λfa cdv A outer s H vs Q E hr h=>?_;hu1:(A.deeper (envOfC "told_of_signs" (ah jK) ↑s fa cdv)).units+1<cLine:=cS hr;{_,(ax (sn nK.nd 3 (cl gfCa hr (a2 (vv 0) (vv 1)))) (ax (sm nK.nd 4 (cl gfBo hr (a1 (vv 3)))) (ax (sm nK.nd 5 (cl gfAg hr (ac (vv 0) (a2 (vv 1) (vv 3))))) (ax (sn nK.nd 6 kT) (ax (fo (il (cl gfCb hr (a2 (vv 0) (vv 1)))) (gm nK.nd 7) (ax (wG (i:=8) nK.nd rfl (Or.inl rfl) (own:=["kind"]) (fr:=[("telling",5),("seats",4),("name",7)]) rfl (il (cb (OT (uK hr) hr.hd) T.cN boot_sorted (a1 (vc 5)))) {O,∅,∅} (mU (ah jK) ["facts","part","place","row","seats","telling","told","name","marks"] rfl rfl (λ_ h=>g_ h) ∅ ∅ ∅) (λ_ _ _=>(cZ (i:=0) (do¬List.Nodup (["kind","telling","seats","name"]:List UK);by decide +kernel) rfl (Or.inl rfl))) (λ_=>q_ rfl) (λ_ _ _=>ee) (λ_ _ _=>(xi (cL hu1 (vc 1) (vv 0) (λ_ _=>rfl)) (dI (cW hr) (vc 2) (vc 3) (λ_ _=>rfl))))) (aH (kD (cW hr) (vv 6) (vc 7) (m2 (ah jK) zA [("place",2)] (il (vv 8)) (λ_ _ _=>(dJ (PW.pt (gJ (ck L7 (vv 0) eV) (hZ (ck L7 (xt (vv 0)) eV)))))) (λ_ _ _=>(bE (a2 (xt (vv 0)) (xu (vv 0) (vc 1)))))) rfl)))) (aH (aR (vv 6)))))))),?_};{fa,F,S,n,M,m,N,q,xs,ms,ns,vp,pt,J,rfl,fs,gvp,G,hm,kk}:=h;W:=fs.ws;WM:=fs.wm;inj:Inj (cm S) 67:=λi hi j hj=>W.inj i (fN W hi) j (fN W hj);hml:ms.length=m:=(do[fs.ma.1,zg]);{_,O,_,O,fa,vp,pt,S,n,O,fs.fg,gvp,G,λH1 rp rv s1 g1 e1 ar=>?_};{_,O,rp,rv,cm S,aB S n pt,O,e1,ar,mC W,inj,qf (iS W) W.bY,λH2 dq kvs s2 g2 e2 hse=>?_};s02:=s1.trans s2;{_,O,_,O,_,O,fa,F,S,n,M,m,N,q,xs,ms,ns,vp,pt,rp,rv,O,fs.same s02,gvp.af s02.af,G,s2 _ _ e1,ar.imp (λv i g=>NM.af g s2.af),λH3 lq tv s3 g3 e3 tk=>?_};s03:=s02.trans s3;(D,H4,g4,s4,e4);s04:=s03.trans s4;gtq:H D=none:=s03.free g4;{_,O,_,O,fa,vp,pt,S,n,O,(fs.same s04).fg,gvp.af s04.af,G,λH5 aq av s5 g5 e5 aa=>?_};s05:=s04.trans s5;hal:av.length<=1400:=(do[aa.1];qf (wg _ _) (qf (iS W) W.bY));I:=s5 _ _ e4;naq:aq≠D:=(a_ e4 g5).symm;ndq:dq≠D:=a_ (s3 _ _ e2) g4;nlq:lq≠D:=a_ e3 g4;edq5:=(s4.trans s5) _ _ (s3 _ _ e2);elq5:=(s4.trans s5) _ _ e3;ma5:=fs.ma.imp λv i g=>MN.af g s05.af;knd:(kinds M (aG M m pt)).Nodup:=xC _ [] wv;hmp:(aG M m pt).length<=63:=qf (qf (wg _ _) (do[zg];qb _)) hm;hkl:(kinds M (aG M m pt)).length<=63:=qf (DX _ []) (do¬0+_<=63;());hin:∀i∈aG M m pt,i<m:=λi hi=>qj.mp (qk.mp hi).1;htv:(tv.map λe=>kV e.1)=(kinds M (aG M m pt)).map V.str:=(do this:=congrArg (List.map kV) tk.keys;this<-[zx,zx];this);hkey:∀kd∈kinds M (aG M m pt),PyData.strOk kd=true:=λkd p=>(do z||{i,h1,h2}:=(rF _ []).mp p;-z;[<-h2];(WM.lay i (hin i h1)).2.2.1);keys:KeysAre ((kinds M (aG M m pt)).map .str) 1:=(do _;{fF λd hd=>?_,λd hd=>?_,λx hx y f=>?_,λd hd=>?_};{k,p,rfl}:=qc.mp hd;hkey k p;{k,p,rfl}:=qc.mp hd;(by trivial);{k,p,rfl}:=qc.mp hx;{k',hk',rfl}:=qc.mp f;2;{k,p,rfl}:=qc.mp hd;q0 60);hsl:(dU (kinds M (aG M m pt))).length<=63:=(do[(lW _).length_eq];hkl);{aq,O,{_,aD.of e5},bH (xs:=av) (λj σ Z=>vX λ(U:List 68) (u7:Option V) (u8:Option V)=>iD (σ=[!(.ref fa),!vp,!(.int (if J then 5 else 4)),!(.ref rp),!(.ref dq),!(.ref lq),!(.ref D),u7,u8]) (ag (del H5 D) Z) (Z D=!(.dG U)) (j2 (cm S) (λi=>nU M J 67 (aG M m pt) ((aB S n pt).idxOf i)) (λa=>H a=none/\a≠D) Z U ((aQ S n pt).take j)/\(U.map (·.2.2)).Nodup)) {[],none,none,O,ox,I,{O,λj e i z=>nomatch z},wv} (λj σ Z _ ⟨_,_,_,_,r,_,_⟩=>aD.of (DP.to r e5 naq)) ?_ ?_};(j,x,σ,Z,hx,{U,u7,u8,rfl,sZ,eZ,td,nd0},Nx,hNx);{i,ei,A3}:=aa.at hx;tZ:aj H5 Z:=λa ys e=>DP.to sZ e (λz=>do e<-[z,I];-e);nm:=NM.af A3 tZ;hir:i∈aB S n pt:=(qk.mp (qu ei)).1;hjl:j<(aQ S n pt).length:=(qw.mp ei).1;hp:(aB S n pt).idxOf i<(aB S n pt).length:=rz hir;edqZ:=DP.to sZ edq5 ndq;elqZ:=DP.to sZ elq5 nlq;tkZ:TK M 67 (aG M m pt) ms (λ_=>True) Z tv:={tk.keys,λkd p=>do _;{a,h1,_,h3}:=tk.val kd p;h5:=(s4.trans s5) _ _ h3;{a,h1,trivial,DP.to sZ h5 (λz=>do h5<-[z,I];-h5)},tk.ne};{_,O,lq,tv,(kinds M (aG M m pt)).map .str,1,O,.inl elqZ,do[htv];(Hy _).dv,keys,do this:=congrArg List.length tk.keys;this<-[qh,qh];(),λsq Z1 ix g1 s1 six e1=>?_};e1<-[htv,FK knd six];{sq,O,{_,aD.of e1},cK (xs:=(dU (kinds M (aG M m pt))).map V.str) (cJ (do[qh];())) (λR ys X=>X=Z1/\ys=((dU (kinds M (aG M m pt))).take R).map λkd=>mV ms (tell M 67 (aG M m pt) kd ((aB S n pt).idxOf i))) {O,O} (λ_ _ X s'=>do[s'.1];aD.of e1) (λR y ys X K1 K0 f s' k1 k0=>?_) λX np ys s' hyl hnq=>?_};{rfl,rfl}:=s';f<-[qv];(by cases p:(dU (kinds M (aG M m pt)))[R]? with|none|some kd=>?_);f<-[p];-f;f<-[p];-f;hkm:kd∈kinds M (aG M m pt):=(lW _).mem_iff.mp (qu p);{a,h1,_,h3}:=tkZ.val kd hkm;eA (B:=K0 X) ?_;{_,O,_,O,lq,.ref a,O,.inl {tv,.inr kd,.inl (s1 _ _ elqZ),O,h1.symm},_,O,_,O,dq,kvs,.tup (cm S i),_,O,.inl (s1 _ _ edqZ),NM.af nm s1.af,hse.2 i hir,a,_,_,_,O,O,aD.of (s1 _ _ h3),wM (j:=(aB S n pt).idxOf i) (v:=mV ms (tell M 67 (aG M m pt) kd ((aB S n pt).idxOf i))) ?_,k1 _ _ {O,?_}};@jA;[qv,yg hp];2;[qy,p,zy];2;{rfl,hys}:=s';hys<-[qh,zd];nX:ag X (upd X np (.lst ys)):=ag.new hnq;eX:(upd X np (.lst ys)) np=!(.lst ys):=aF;(by generalize upd X np (.lst ys)=Z2 at nX eX);L:=s1.trans nX;ma2:AN (MN S M Z2) ms (List.range m):=ma5.imp λv i g=>MN.af g (tZ.trans L.af);hyl2:ys.length<=63:=(do[hys,qh];hsl);{_,O,np,O,{_,aD.of eX},cK (xs:=ys) (cJ ()) (λR zs X2=>ag Z2 X2/\dn X2 zs (((dU (kinds M (aG M m pt))).take R).filterMap λkd=>yl M J (tell M 67 (aG M m pt) kd ((aB S n pt).idxOf i)))) {ag.refl _,.nil} (λ_ _ X2 s'=>aD.of (s'.1 _ _ eX)) (λR y zs X2 K1 K0 f s' k1 k0=>?_) λX3 lp zs s' hzl hlq=>?_};{s',dz}:=s';f<-[hys,qv];(by cases p:(dU (kinds M (aG M m pt)))[R]? with|none|some kd=>?_);f<-[p];-f;f<-[p];f:=qJ f;f:mV ms (tell M 67 (aG M m pt) kd ((aB S n pt).idxOf i))=y:=f;nxt:∀{Y:Hp},ag Z2 Y->dn Y zs (((dU (kinds M (aG M m pt))).take R).filterMap λkd=>yl M J (tell M 67 (aG M m pt) kd ((aB S n pt).idxOf i)))->yl M J (tell M 67 (aG M m pt) kd ((aB S n pt).idxOf i))=none->ag Z2 Y/\dn Y zs (((dU (kinds M (aG M m pt))).take (R+1)).filterMap λkd=>yl M J (tell M 67 (aG M m pt) kd ((aB S n pt).idxOf i))):=λ{Y} a b c=>{a,do[M7 p,c];¬dn _ _ (_++[]);[wt];b};(by cases ht:tell M 67 (aG M m pt) kd ((aB S n pt).idxOf i)with|none|some k=>?_);f<-[ht];!f;{_,O,O,_,O,?_};bX rfl (bX rfl (k0 _ (nxt s' dz (do[ht];2))));f<-[ht];hkm:k<m:=hin k (Jp ht).1;{v,hv}:∃v,ms[k]?=!v:={_,qe (do[hml];hkm)};hyv:v=y:=(do[<-f];¬v=ms.getD k .aV;[ze,hv];2);!hyv;mn:=ma2.2 k v k hv (yg hkm);{b,vq,vb,ve,vn,kq,rfl,h1,h2,h3,h4,h5,h6}:=MN.af mn s'.af;{_,O,O,_,O,?_};cj rfl ?_;{_,O,b,_,4,_,O,O,aS.of h1,O,O,_,O,?_};(by cases hvl:(M k).vl with|none|some z=>?_);bX rfl (k0 _ (nxt s' dz (do[ht];¬(if(M k).vl=none then none else _)=none;[qE hvl])));cj rfl ?_;hto:yl M J (tell M 67 (aG M m pt) kd ((aB S n pt).idxOf i))=!(.tuple [.str (M k).kd,pR M J k]):=(do[ht];¬(if(M k).vl=none then none else _)=_;[qB (do[hvl];λq=>nomatch q)]);fin:∀{Y:Hp} {tp:UJ} {vu:V},ag X2 Y->Y tp=!(.tup [.str (M k).kd,vu])->DT Y vu (pR M J k)->ag Z2 Y/\dn Y (zs++[.ref tp]) (((dU (kinds M (aG M m pt))).take (R+1)).filterMap λkd=>yl M J (tell M 67 (aG M m pt) kd ((aB S n pt).idxOf i))):=λ{Y tp vu} a b c=>{s'.trans a,do[M7 p,hto];Gg (.tup b (.cons (.str _) (.cons c .nil))) (dz.af a.af)};(by cases J with|false|true=>?_);{_,O,b,_,3,_,O,O,aS.of h1,O,_,O,_,O,b,_,4,_,O,O,aS.of h1,O,aI rfl,λtp Y gY sY eY=>k1 _ _ (fin sY eY (do@pR;[hvl];.str z))};{_,O,b,_,3,_,O,O,aS.of h1,O,_,O,_,O,b,_,5,_,O,O,aS.of h1,O,aI rfl,λtp Y gY sY eY=>k1 _ _ (fin sY eY (bC (h5.af sY.af)))};{s',dz}:=s';dz<-[show ys.length=(dU (kinds M (aG M m pt))).length by rw[hys,qh],zd];n3:ag X3 (upd X3 lp (.lst zs)):=ag.new hlq;e3':(upd X3 lp (.lst zs)) lp=!(.lst zs):=aF;dz3:=dn.af n3.af dz;C:ag Z (upd X3 lp (.lst zs)):=(L.trans s').trans n3;glp:Z lp=none:=(L.trans s').free hlq;(by generalize upd X3 lp (.lst zs)=X4 at n3 e3' dz3 C);nlp:lp≠D:=(a_ eZ glp).symm;hklen:=td.len;hnew:∀x∈U,x.1≠KD.tup (cm S i):=λx hx e=>(do hm1:x.1∈U.map (·.1):=qc.mpr {x,hx,O};hm1<-[td.keys];{i',hi',e'}:=qc.mp hm1;e'<-[e];e2:=KD.tup.inj e';hi'r:i'∈aB S n pt:=(qk.mp (r8 hi')).1;this:=inj i' hi'r i hir e2;!this;nd:(aQ S n pt).Nodup:=(mC W).sublist ng;{t,ht1}:=j6 hi';ht2:t<j:=(do this:=(qw.mp ht1).1;this<-[wb];());ht1<-[kz ht2];a1:=Bh nd ht1;a2:=Bh nd ei;());{_,O,_,O,D,U,.tup (cm S i),O,C _ _ eZ,NM.af nm C.af,kK (do[hklen,wb];this:=aa.1;()),?_};[CY _ _ hnew];tw:aj X4 (upd X4 D (.dG (U++[(.tup (cm S i),x,.ref lp)]))):=aj.wd (C _ _ eZ);hNx _ _ {_,_,_,O,(ag.trans sZ C).wr eG,aF,?_,td.wA nd0 glp};[qy,ei];j2.snoc ((td.same C).to tw (λa zs' hb e=>do[az hb.2];e) λ_ h=>h) (NM.af nm (C.af.trans tw)) {?_,nlp} (do[az nlp];e3') (dz3.af tw);this:=sZ.free glp;this<-[bW nlp];s05.free this;(σ,Z,{U,u7,u8,rfl,sZ,eZ,td,nd0});td<-[show av.length=(aQ S n pt).length from aa.1,zd];{_,O,kk Z D U (λb o e=>DP.to sZ (s05 _ _ e) (a_ e gtq)) gtq eZ td nd0}
def Dv(T:Txt K mg tk)(F:FO K mg "notes_of" jS)(gfAq:AQ P w K mg base)(gfCb:mE P w K mg base)(gfCa:mR P w K mg base)(gfBo:mM P w K mg base)(gfBy:pO P w K mg base):yQ P w K mg base:=do aO F nL (iP λ_ _=>rfl) {} λfa cdv A outer s H vs Q E hr h=>?_;hu1:(A.deeper (envOfC "notes_of" (ah jS) ↑s fa cdv)).units+1<cLine:=cS hr;{_,(ax (sm nL.nd 2 (cl gfBo hr (a1 (cl gfCa hr (a2 (vv 0) (vc 1)))))) (ax (sn nL.nd 3 (cl gfCb hr (a2 (vv 0) (vc 1)))) (ax (sn nL.nd 4 (bQ dh)) (ax (fo (il (Km gfAq hr T.cN boot_sorted (a1 (m2 (ah jS) Ay [("part",1)] (il (cL hu1 (vv 0) aN (λ_ _=>rfl))) (λ_ _ _=>(dJ (ck (BG hr) (xt (vv 0)) (vc 1)))) (λ_ _ _=>(vv 0)))))) (gn nL.nd 5) (ax (sm nL.nd 6 (cl gfBy hr (ac (vc 2) (a2 (xt (vv 5)) (xt (vv 5)))))) (ax (wG (i:=7) nL.nd rfl (Or.inl rfl) (own:=["name"]) (fr:=[("between",6),("seats",2)]) rfl (il (vv 3)) {O,∅,∅} (mU (ah jS) ["facts","part","seats","alive","told","note","between","under"] rfl rfl (λ_ h=>g_ h) ∅ ∅ ∅) (λ_ _ _=>(cZ (i:=0) (do¬List.Nodup (["name","between","seats"]:List UK);by decide +kernel) rfl (Or.inl rfl))) (λ_=>q_ rfl) (λ_ _ _=>(dJ (S_ AK AM (xt (vc 1)) (dI (cW hr) (vc 2) (vv 0) (λ_ _=>rfl)) (xt (vc 1))))) (λ_ _ _=>(vv 0))) (aH (ap (vv 4) (a1 (bE (ac (xt (vv 5)) (a2 (xt (vv 5)) (sf (ck eM (cb dE T.cf boot_len (a1 (vv 7))) aE) (xl (vv 7)) eV)))))))))) (aH (aR (vv 4))))))),?_};{fa,F,S,n,M,m,N,q,xs,ms,ns,vp,pt,rfl,fs,gvp,C,kk}:=h;W:=fs.ws;WN:=fs.wn;inj:Inj (cm S) 67:=λi hi j hj=>W.inj i (fN W hi) j (fN W hj);sin:∀{d:Sd},dC S n pt d->d9 67 d:=λo i b z=>(gF W).mpr (o i b z);hnl:ns.length=q:=(do[fs.na.1,zg]);fewq:=WN.bY;{_,O,_,O,fa,vp,pt,S,n,O,fs.fg,gvp,C,λH1 rp rv s1 g1 e1 ar=>?_};{rp,rv,cm S,aB S n pt,O,e1,ar,mC W,inj,qf (iS W) W.bY,λH2 dq kvs s2 g2 e2 hse=>?_};s02:=s1.trans s2;{_,O,_,O,fa,vp,pt,S,n,O,(fs.same s02).fg,gvp.af s02.af,C,λH3 aq av s3 g3 e3 aa=>?_};s03:=s02.trans s3;hal:av.length<=1400:=(do[aa.1];qf (wg _ _) (qf (iS W) W.bY));{aI rfl,λc H4 g4 s4 e4=>?_};s04:=s03.trans s4;f4:=fs.same s04;{_,O,fa,.ref (F 5),O,(f4.dk.get 5 ⋯),F 5,O,{_,aD.of f4.nl},cK (xs:=ns) (cJ ()) (λj ys H'=>H'=H4/\AN (NN S N H4) ys (((List.range q).take j).filter λi=>decide ((N i).pt=pt))) {O,.nil} (λ_ _ H' s'=>do[s'.1];aD.of f4.nl) (λj x ys H' K1 K0 hx s' k1 k0=>?_) λH5 lp ys s' hy hq=>?_};{rfl,ay}:=s';{i,ei,nn}:=f4.na.at hx;hin:i<q:=qj.mp (qu ei);nn':=nn;{b,vq,vb,ve,vn,kq,rfl,h1,h2,h3,h4,h5,h6}:=nn;tk:(List.range q).take (j+1)=(List.range q).take j++[i]:=(do[qy,ei];2);{_,O,b,_,0,_,O,O,aS.of h1,O,_,O,tD (N i).pt,tD pt,(bC h2).dv,(bC (gvp.af s04.af)).dv,(WN.lay i hin).1,C,qf (je _ _) (qf (dB _) ⋯),_,O,?_};eqp:(if false=true then not (PyData.eqv (tD (N i).pt) (tD pt)) else PyData.eqv (tD (N i).pt) (tD pt))=decide ((N i).pt=pt):=fH _ _;hp<|(N i).pt=pt;cj (do[eqp];qH hp) {_,O,k1 _ _ {O,?_}};[tk];AN.pick (vs:=ns) ay nn' (qH hp);bX (do[eqp];decide_eq_false hp) (k0 _ {O,?_});[tk];ay.skip (do 0<|hp);{rfl,ay}:=s';ay<-[hnl,jd (do[zg];qb _)];ay:AN (NN S N H5) ys (bU N q pt):=ay;n5:ag H5 (upd H5 lp (.lst ys)):=ag.new hq;e5:(upd H5 lp (.lst ys)) lp=!(.lst ys):=aF;B:=ay.imp λv i g=>NN.af g n5.af;(by generalize upd H5 lp (.lst ys)=H6 at n5 e5 B);hin:∀i∈bU N q pt,i<q/\(N i).pt=pt:=λi hi=>{qj.mp (qk.mp hi).1,qN (qk.mp hi).2};mup:(bU N q pt).Pairwise λa b=>bN (.tuple [.int (N a).ka,.int (N a).kb]) (.tuple [.int (N b).ka,.int (N b).kb])=true:=((tS q).imp_of_mem λ{a b} ha hb h=>gT (WN.up a b h (qj.mp hb))).filter _;keys:KeysAre ((bU N q pt).map λi=>.tuple [.int (N i).ka,.int (N i).kb]) 2:=rD λd hd=>(do _;{i,_,rfl}:=qc.mp hd;.inl {_,_,O});hyl:ys.length<=70:=(do hy<-[hnl];());{lp,ys,(bU N q pt).map λi=>.tuple [.int (N i).ka,.int (N i).kb],2,O,aD.of e5,do[qh,B.1],keys,{(),.inr (z9.mpr mup)},λmm y d H' Q' q1 q2 s q=>?_,λsq H7 ix g7 s7 six e7=>?_};{k,ek,nn}:=B.at q1;q2<-[qv,ek];-qJ q2;{y,S,N,k,O,nn.af s.af,λkv hk=>q H' _ (ag.refl _) hk.dv};hix:∀i∈ix,i<ys.length:=λi hi=>(do this:=(six.1.mem_iff).mp hi;this<-[qj,qh];[B.1];this);a2:=B.ix ix hix;a2<-[tu (.refl _) mup six];(by generalize ix.map (λi=>ys.getD i .aV)=zs at e7 a2);hzl:zs.length<=70:=(do[a2.1,<-B.1];hyl);a7:=a2.imp λv i g=>NN.af g s7.af;L:=n5.trans s7;s07:=s04.trans L;Y:H6 c=!(.lst []):=n5 _ _ e4;etp:H7 c=!(.lst []):=s7 _ _ Y;gtp:H c=none:=s03.free g4;nsq:sq≠c:=(a_ Y g7).symm;ndq:dq≠c:=a_ (s3 _ _ e2) g4;naq:aq≠c:=a_ e3 g4;edq7:H7 dq=_:=L _ _ (s4 _ _ (s3 _ _ e2));eaq7:H7 aq=_:=L _ _ (s4 _ _ e3);aa7:AN (NM (cm S) H7) av (aQ S n pt):=aa.imp λv i g=>NM.af g (s4.trans L).af;{sq,O,{_,aD.of e7},bH (xs:=zs) (λj σ Z=>Iq λ(tv:List V) (u5:Option V) (u6:Option V) (u7:Option V)=>iD (σ=[!(.ref fa),!vp,!(.ref dq),!(.ref aq),!(.ref c),u5,u6,u7]) (ag (del H7 c) Z) (Z c=!(.lst tv)) (tv.length=j/\dn Z tv (((bU N q pt).take j).map (oG S 67 N)))) {[],none,none,none,O,ox,etp,O,.nil} (λj σ Z _ ⟨_,_,_,_,_,r,_,_⟩=>aD.of (DP.to r e7 nsq)) ?_ ?_};(j,x,σ,Z,hx,{tv,u5,u6,u7,rfl,sZ,eZ,htl,dt},Nx,hNx);{i,ei,nn}:=a7.at hx;hj:j<70:=(do this:=(qw.mp hx).1;());{hi,hpt}:=hin i (qu ei);tZ:aj H7 Z:=aj.cut etp sZ;{b,vq,vb,ve,vn,kq,rfl,h1,h2,h3,h4,h5,h6}:=NN.af nn tZ;hsb:dC S n pt (N i).b:=(do[<-hpt];(WN.sd i hi).1);hse':dC S n pt (N i).e:=(do[<-hpt];(WN.sd i hi).2);edqZ:=DP.to sZ edq7 ndq;{_,O,_,O,b,_,1,_,O,O,aS.of h1,O,_,O,b,_,2,_,O,O,aS.of h1,O,dq,kvs,S,aB S n pt,vb,ve,(N i).b,(N i).e,O,edqZ,hse,h3,sin hsb,h4,sin hse',λZ1 bq s1 e1=>?_};eaqZ:=s1 _ _ (DP.to sZ eaq7 naq);aaZ:AN (NM (cm S) Z1) av (aQ S n pt):=aa7.imp λv i g=>NM.af g (tZ.trans s1.af);{_,O,aq,O,{_,aD.of eaqZ},cK (xs:=av) (cJ ()) (λj' us X=>X=Z1/\AN (NM (cm S) Z1) us (((aQ S n pt).take j').filter λk=>decide (bG 67 (N i).b<=(aB S n pt).idxOf k/\(aB S n pt).idxOf k<max (bG 67 (N i).b) (bG 67 (N i).e)))) {O,.nil} (λ_ _ X s'=>do[s'.1];aD.of eaqZ) (λj' y us X K1 K0 hy s' k1 k0=>?_) λX np I s' hyl hnq=>?_};{rfl,au}:=s';{k,ek,nm}:=aaZ.at hy;hk:k∈aB S n pt:=(qk.mp (qu ek)).1;tk:(aQ S n pt).take (j'+1)=(aQ S n pt).take j'++[k]:=(do[qy,ek];2);{_,O,bq,_,0,_,O,O,aS.of e1,O,_,O,_,O,dq,kvs,.tup (cm S k),_,O,.inl (s1 _ _ edqZ),nm,hse.2 k hk,_,_,O,O,_,O,?_};hle<|bG 67 (N i).b<=(aB S n pt).idxOf k;cj (qH ()) ?_;{_,O,bq,_,1,_,O,O,aS.of e1,O,_,_,O,O,_,O,?_};hlt<|(aB S n pt).idxOf k<max (bG 67 (N i).b) (bG 67 (N i).e);cj (qH ()) {_,O,k1 _ _ {O,?_}};[tk];AN.pick (vs:=av) au nm (qH {hle,hlt});bX (decide_eq_false ()) (k0 _ {O,?_});[tk];au.skip λz=>hlt (qN z).2;bX (decide_eq_false ()) {_,O,bX rfl (k0 _ {O,?_})};[tk];au.skip λz=>hle (qN z).1;{rfl,au}:=s';au<-[show av.length=(aQ S n pt).length from aa.1,zd];au:AN (NM (cm S) X) I (c7 S 67 (N i).b (N i).e):=(do[<-IH (mC W)];au);nX:ag X (upd X np (.lst I)):=ag.new hnq;eX:(upd X np (.lst I)) np=!(.lst I):=aF;t:=au.imp λv i g=>NM.af g nX.af;(by generalize upd X np (.lst I)=Z2 at nX eX t);p:=s1.trans nX;h1':=p _ _ h1;hkey:oG S 67 N i=.tuple [tD (N i).nm,.str (N i).kd,ik S (c7 S 67 (N i).b (N i).e).head?]:=rfl;tk:(bU N q pt).take (j+1)=(bU N q pt).take j++[i]:=(do[qy,ei];2);J:∀{G:Hp} {U:UJ} {vu:V},ag Z2 G->G U=!(.tup [vn,.str (N i).kd,vu])->DT G vu (ik S (c7 S 67 (N i).b (N i).e).head?)->Iq λ(tv':List V) (v5:Option V) (v6:Option V) (v7:Option V)=>iD ([!(V.ref fa),!vp,!(.ref dq),!(.ref aq),!(.ref c),!(.ref b),!(.ref bq),!(.ref np)]=[!(.ref fa),!vp,!(.ref dq),!(.ref aq),!(.ref c),v5,v6,v7]) (ag (del H7 c) (upd G c (.lst (tv++[.ref U])))) ((upd G c (.lst (tv++[.ref U]))) c=!(.lst tv')) (tv'.length=j+1/\dn (upd G c (.lst (tv++[.ref U]))) tv' (((bU N q pt).take (j+1)).map (oG S 67 N))):=λ{G U vu} f D d3'=>(do R:=p.trans f;tw:aj G (upd G c (.lst (tv++[.ref U]))):=aj.wl (R _ _ eZ);{_,_,_,_,O,(ag.trans sZ R).wr eG,aF,do[qg,htl];2,?_};[tk,zy];Gg ?_ (dt.af (R.af.trans tw));.tup (tw _ _ D) (.cons (bC (h5.af (R.af.trans tw))) (.cons (.str _) (.cons (d3'.af tw) .nil))));{_,O,.inl {O,_,aD.of (p _ _ eZ)},_,O,b,_,4,_,O,O,aS.of h1',O,_,O,b,_,3,_,O,O,aS.of h1',O,_,O,np,I,O,.inl (aD.of eX),_,_,O,O,_,O,?_};(by cases hL:c7 S 67 (N i).b (N i).e with|nil|cons k L'=>?_;rw[hL]at t J);this:I=[]:=yw.mp t.1;!this;bX (decide_eq_false ⋯) {aI rfl,λU G g3' f D=>{c,tv,_,O,O,(p.trans f) _ _ eZ,cH (),hNx _ _ (J f D .aV)}};(by rw[hL]at t J;cases I with|nil|cons v0 I=>?_);absurd t.1 (do 0);cj (qH (do¬(0:Int)<((I.length+1:Nat):Int);())) {_,O,np,_,0,v0,O,O,aD.of eX,wM (j:=0) rfl,aI rfl,λU G g3' f D=>{c,tv,_,O,O,(p.trans f) _ _ eZ,cH (),hNx _ _ (J f D (bC (NM.af (t.2 0 v0 k rfl rfl) f.af)))}};(σ,Z,{tv,u5,u6,u7,rfl,sZ,eZ,htl,dt});dt<-[show zs.length=(bU N q pt).length from a2.1,zd];{_,O,kk Z c tv (λb o e=>DP.to sZ (s07 _ _ e) (a_ e gtp)) gtp eZ dt}
def D2(T:Txt K mg tk)(F:FO K mg "shown_parts" uh)(t:sR P w K mg base)(o:sh P w K mg base):zM P w K mg base:=do aO F Bc (mI λ_=>rfl) {} λfa cdv A outer s H vs Q E y h=>?_;{_,(aH (aR (cb (K9 (uK y) y.hd) T.cN boot_sorted (a1 (cl t y (a2 (vv 0) (cl o y (a1 (vv 0))))))))),?_};{fa,F,bs,es,cs,rs,cu,k,rfl,X,hk,hl,tt,ma,kk}:=h;fq:=X.fq (do():k<=100);R:=fq.xw;{_,O,_,O,fa,es,rs,O,fq,tt.a,ma,λH1 da kd zs s1 B L p iw J=>?_};S:=iw.zw R;{U,c}:=tt.Tv s1 B;V:=X.bV tt c;{fa,F,bs,es,cs,rs,cu,k,da,kd,zs,O,V,(),.inl p,J,S,My.bV tt c ma (λps z=>nomatch z),λH2 qa kq g j W gqa C i snq ⟨ls,sd,n,I⟩=>?_};m:∀a∈ls,Pn a:=λa d=>LQ i (S.C3 _) ((I a).mp d);hll:ls.length<=63:=(do this:=xX ls (aZ::zs.map (·.pt)) n λa d=>(do e||e:=L0 i ((I a).mp d);qt.mpr (.inl e);{x,hx,rfl}:=qc.mp e;qt.mpr (.inr (qc.mpr {x,(qk.mp hx).1,O})));this<-[zf,qh,iw.len];());Z:=sd.Kz;{qa,kq,_,3,O,.inl C,(Dk Z).dv,Pj m,do this:=sd.1;(),λq H3 ix gq M G e3=>?_};{ms,am,wk,N,f}:=Ro Z n G;r:=U.cut p (λps z=>nomatch z) (λφ z=>nomatch z) j;Y:ag (cg H s2) H2:=λb u e=>j _ _ (do[bW (λz=>?_)];c _ _ e;e<-[z,Ju L];-e);D:=r.same M;kk H3 q _ ms (Y.trans M) D (tt.free Y r gq) e3 (am.imp λv k z=>fh.af z M.af) ?_ (λa d=>m a ((f a).mp d)) {zs,g,{iw,i},λa=>(f a).trans (I a)};this:=xX ms ls N λa d=>(f a).mp d;()
def DL(T:Txt K mg tk)(F:NV K mg "all_inner_parts" u_ bA)(hB:base.BuiltinsAt mg bA)(gfAx:sR P w K mg base)(gfBm:sh P w K mg base)(gfAd:vH P w K mg base):zC P w K mg base:=do Je F rL (mI λ_=>rfl) {} λfa cdv A outer s H vs Q E hC Y h=>?_;{_,(ax (sm rL.nd 1 (cl gfAd Y (a1 (vv 0)))) (ax (sn rL.nd 2 (cl gfBm Y (a1 (vv 0)))) (ax (sn rL.nd 3 (cl gfAx Y (a2 (vv 0) (vv 2)))) (ax (sn rL.nd 4 kT) (ax (fo (il (SS (k:=0) (y:="one") (z:="telling") (i:=1) rfl hC hB (Y.mono ⋯) (do 2) T.cN boot_sorted {O,O,O,∅,O,O,∅} rfl rfl (λ_ h=>g_ h) rfl rfl (λ_ _ _ _ _=>rfl) (λ_ _ _ _ _ _ _ Y=>(xt (dI (cW Y) (vf 1) (vv 0) (λ_ _=>rfl)))) (a1 (cy (Ph Y.hd) T.lC boot_list (a1 (vv 2)))))) (gn rL.nd 5) (aH (bS (ck (p_ (cW Y)) (vv 5) (vv 3)) (aH (ap (bm PySem.F.plainAttrs_dict PySem.F.slot_dict_setdefault PySem.F.type_dict_setdefault (MZ (cW Y)) (vv 4) (a2 (dI (cW Y) (vv 2) (vv 5) (λ_ _=>rfl)) (bQ dh))) (a1 (vv 5)))) cX))) (aH (aR (vv 4)))))))),?_};{fa,F,bs,es,cs,rs,cu,k,rfl,fb,hk,hl,tt,ma,kk}:=h;fq:=fb.fq (do():k<=100);XWt:=fq.xw;{_,O,fa,es,rs,O,fq,λH1 tq kt s1 gtq etq akt=>?_};f:=tt.same s1;fb1:=fb.same s1;{_,O,fa,es,rs,O,fb1.fq (),f.a,s1 _ _ ma,λH2 da kd zz s2a tb2 gda eda iw akd=>?_};S:=iw.zw XWt;hstl:zz.length<=62:=(do[iw.len];hl);{tt2,B}:=f.Tv s2a tb2;fb2:=fb1.bV f B;ma2:MA H2:=ti f B _ _ (s1 _ _ ma);{_,O,_,O,fa,F,bs,es,cs,rs,cu,k,da,kd,zz,O,fb2,(),.inl eda,akd,S,ma2,λH3 qa kq g s3 C gqa eqa rcr snq _=>?_};tt3:=tt2.cut eda (λps z=>nomatch z) (λφ z=>nomatch z) s3;N:aj H2 H3:=tG eda (λys z=>nomatch z) s3;etq2:=bV f B etq λps z=>nomatch z;etq3:H3 tq=!(.dG kt):=s3 _ _ (do[bW (a_ etq gda)];etq2);akt3:=((akt.imp λe x q=>q.imp (R':=gM H2) (ti f B) λr=>r.af (ti f B))).imp λe x q=>q.imp (R':=gM H3) N λr=>r.af N;I:=akd.imp λe x q=>q.imp (R':=iH H3) N λr=>r.af N;sH3:ag (cg H (s2)) H3:=λb u e=>(do nb:¬s2 b:=λz=>(do e<-[fV z];-e);e<-[iJ nb];s3 _ _ (do[bW (a_ (s1 _ _ e) gda)];mO B (s1 _ _ e) nb));(by clear s3 N akd akt etq2 etq B s2a tb2 tt2 fb2 ma2 fb1 f s1);(c,H4,g4,s4,e4);{_,O,da,kd,O,Rd.same C s4,do this:=I.1;(),λlp H5 g5 s5 e5=>?_};D:=s4.trans s5;L:=tt3.same D;{L.b,λH6 tb6 sd6=>?_};{tt6,s56}:=L.Uc sd6 tb6;U:∀{b:UJ} {u:HO},H5 b=!u->(∀ps,u≠.cn ps)->H6 b=!u:=λe h=>bV L s56 e h;t56:=ti L s56;M:=D.af.trans t56;e6:=U e5 λps z=>nomatch z;akt6:=akt3.imp λe x q=>q.imp (R':=gM H6) M λr=>r.af M;akd6:=I.imp λe x q=>q.imp (R':=iH H6) M λr=>r.af M;etq6:=U (D _ _ etq3) λps z=>nomatch z;V:=PY akd6;{.ref tq,O,lp,_,zz.map NL,2,O,aD.of e6,do[qh];V.1.symm,QL _,{do[V.1];(),.inl (do[V.1];())},λm y d H' Q' hy hd s' kq'=>{y,O,?_},λq J ix gq s7 six e7=>?_};{x,hx,gy}:=V.at hy;hd<-[qv,hx];-hd;{z,hz,ez,ka,kb}:=iw.of (qu hx);akt':=akt6.imp λe x q=>q.imp (R':=gM H') s'.af λr=>r.af s'.af;{v,hv,b,vp,vo,vn,kq2,rfl,h1,h2,h3,h4,h5}:=rr akt' XWt.nd hz;gy:GK H6 (.tup x.pt) y:=gy;gy<-[ez];{_,O,_,O,tq,kt,.tup z.pt,.ref b,O,.inl (s' _ _ etq6),gy.af s'.af,hv,b,_,3,.ref kq2,O,O,aS.of h1,O,kq' H' _ (ag.refl _) ?_};¬DV H' (.ref kq2) (.tuple [.int x.ka,.int x.kb]);[ka,kb];.tup (aS.of h5) (.cons (.int _) (.cons (.int _) .nil));{ms,am,hw,t}:=Lo {[],[],[],0,0} V six;hms:∀x,x∈ms↔x∈zz:=λx=>t.mem_iff;hup:=P5 S C9 hw (t.nodup_iff.mpr (List.Pairwise.of_map (·.pt) (λa b h z=>h (do[z])) S.nd)) λx hx=>(hms x).mp hx;hml:ms.length<=62:=(do[t.length_eq];hstl);am7:=am.imp λv k z=>NP.af z s7.af;(by generalize ix.map (λi=>(kd.map (·.2.1)).getD i .aV)=zs at e7 am7 am);t37:=M.trans s7.af;k37:∀{b:UJ} {u:HO},H3 b=!u->(∀ps,u≠.cn ps)->J b=!u:=λe h=>s7 _ _ (U (D _ _ e) h);eqa7:=k37 eqa λps z=>nomatch z;o:J c=!(.dG []):=s7 _ _ (U (s5 _ _ e4) λps z=>nomatch z);akd7:=I.imp λe x q=>q.imp (R':=iH J) t37 λr=>r.af t37;nda:da≠c:=λz=>(by rw[z]at C;rcases C with y|⟨o',y⟩ <;> rw[g4]at y <;> cases y);hda7:Rd J da (.dG kd):=(do y||{o',y}:=C;.inl (k37 y λps z=>nomatch z);.inr ⟨o',k37 y λps z=>nomatch z⟩);nqa:qa≠c:=a_ eqa g4;nqi:q≠c:=λz=>(do gq<-[z,U (s5 _ _ e4) λps z=>nomatch z];-gq);tt7:=tt6.same s7;b0:∀{b u},J b=!u->b≠c->(del J c) b=!u:=λe n=>(do[bW n];e);{q,O,{_,aD.of e7},bH (xs:=zs) (λj σ X=>xN λkvs u5=>iD (σ=[!(.ref fa),!(.ref tq),!(.ref da),!(.ref qa),!(.ref c),u5]) (ag (del J c) X) (rJ (GT g) (ms.take j) (del J c) X c kvs) (kvs.length<=j)) {[],none,O,(λb u e=>ox _ _ e),{o,λp=>.inl {O,O},λk k' q z=>(do-z),λk q z=>(do-z)},qb _} (λj σ X _ ⟨_,_,_,s,_,_⟩=>aD.of (s _ _ (b0 e7 nqi))) ?_ ?_};(j,x,σ,X,hx,{kvs,u5,rfl,W,id,hkl},Nx,hNx);{m,em,gx7}:=am7.at hx;hj:j<ms.length:=(qw.mp em).1;hmm:=(hms m).mp (qu em);htk:ms.take (j+1)=ms.take j++[m]:=(do[qy,em];2);tX:aj J X:=tG o (λys z=>nomatch z) W;gx:GK X (.tup m.pt) x:=GK.af gx7 tX;{_,O,_,O,qa,kq,.tup m.pt,O,.inl (W _ _ (b0 eqa7 nqa)),gx,_,O,?_};[qB qx];ndm:=kB (S.pt m hmm).ne;R<|GT g m.pt;cj (do[<-ndm];snq.yes R) ?_;akX:=akd7.imp λe x q=>q.imp (R':=iH X) tX λr=>r.af tX;{v',hv',gv'}:=rr akX S.nd hmm;hdX:Rd X da (.dG kd):=(do y||{o',y}:=hda7;.inl (W _ _ (b0 y nda));.inr ⟨o',W _ _ (b0 y nda)⟩);⟨_,O,.inr (.inr (.inl ⟨O,.inr (.inr ⟨kvs,id.has⟩)⟩)),_,O,_,O,da,kd,.tup m.pt,v',O,hdX,gx,hv',aI rfl,λZ X4 gz sz ez=>?_⟩;id4:=id.same sz;s74:=W.trans sz;f0:(del J c) Z=none:=W.free gz;gv4:GK X4 (nd m.ou) v':=GK.af gv' sz.af;{c,kvs,nd m.ou,v',.ref Z,O,O,id4.has,gv4,kQ (),λu hu=>?_,λhu=>?_};{h1,_}||{q',vs,h1,h2,h3,h4}:=id4.each m.ou;hu<-[h1];-hu;hu<-[h1];-hu;vl:vs.length<=62:=(do[h3.1];qf (wg _ _) (do[wb];()));{.inl {O,_,aD.of h2},_,O,q',vs,_,O,O,h2,kQ (),?_};hNx _ _ {kvs,_,O,s74.wr h4,?_,()};[htk];id4.old R h1 h2 (GK.af gx sz.af);nz:Z≠c:=λz=>(do gz<-[z,id.has];-gz);ez1:(upd X4 c (.dG (pG kvs (nd m.ou) v' (.ref Z)))) Z=!(.lst []):=(do[az nz];ez);{.inl {O,_,aD.of ez1},_,O,Z,_,_,O,O,ez1,kQ (do¬0<=_;()),?_};hqn:∀k,vG kvs k≠some (.ref Z):=λk z=>(do _;{xs,y}:=id.live k Z z;gz<-[y];-gz);hNx _ _ {pG kvs (nd m.ou) v' (.ref Z),_,O,(s74.wr eG).wr f0,?_,qf (iz kvs _ _ _) (j7 hkl)};[htk];id4.first R hu f0 ez hqn (GK.af gx sz.af);bX (do[<-ndm];snq.no R) (hNx _ _ {kvs,_,O,W,?_,()});[htk];id.skip R;(σ,X,{kvs,u5,rfl,W,id,hkl});id<-[am7.1,zd];fr7:∀{b},J b=none->H b=none:=λ{b} e=>(do h6:=s7.free e;h5:=L.free s56 tt6 h6;tt.free sH3 tt3 (D.free h5));finn:H c=none:=tt.free sH3 tt3 g4;{_,O,kk X c kvs zz g (λb u e=>?_) (tt7.cut o (λps z=>nomatch z) (λφ z=>nomatch z) W) finn id.has {iw,rcr} λp hp=>?_};nb:¬s2 b:=λz=>(do e<-[fV z];-e);e3:=D _ _ (sH3 _ _ e);e<-[iJ nb];W _ _ (b0 (s7 _ _ (mO s56 e3 nb)) (a_ e finn));hI:=QP (G:=GT g) (p:=p) hup hms;this:=id.each p;this<-[kB hp.ne];{h1,h2}||{q',vs,h1,h2,h3,h4}:=this;hI<-[h2];.inl ⟨h1,hI⟩;.inr ⟨q',vs,_,h1,fr7 ?_,h2,h3,hI⟩;nq:q'≠c:=λz=>(do h2<-[z,id.has];-h2);h4<-[bW nq];h4
def BZ(T:Txt K mg tk)(F:FO K mg "_law_covers" oQ)(m:AG P w K mg base)(q:mE P w K mg base):Au P w K mg base:=do aO F KL (iP λ_ _=>rfl) {} λfa cdv A outer s H vs Q E t h=>?_;{_,(ax (sm KL.nd 2 (cl q t (a2 (vv 0) (xt (vv 1))))) (aH (aR (ce (vR t) (m2 (ah oQ) AU [("_law_alive",2)] (il (cl m t (ac (vv 0) (ac (xt (vv 1)) (a2 (xt (vv 1)) (xt (vv 1))))))) (λ_ _ _=>(dJ (ck (inD t) (vv 0) (vc 1)))) (λ_ _ _=>(vv 0))) (bQ dh))))),?_};{fa,F,d,v,i,rfl,fz,mn,hi,kk}:=h;{xs,ms,ns,fs}:=fz.fs;W:=fs.ws;{b,U,vb,ve,vn,kq,rfl,h1,h2,h3,h4,h5,h6}:=mn;f:=fs.wm.sd i hi;hl:=(fs.wm.lay i hi).1;{_,O,_,O,b,_,0,_,O,O,aS.of h1,O,fa,U,(d.M i).pt,d.S,d.n,O,fs.fg,h2,hl,λH1 aq Z c g1 e1 aa=>?_};g2:=fs.fg.same c;{_,O,_,O,b,_,0,_,O,O,aS.of (c _ _ h1),O,_,O,b,_,1,_,O,O,aS.of (c _ _ h1),O,_,O,b,_,2,_,O,O,aS.of (c _ _ h1),O,fa,U,(d.M i).pt,d.S,d.n,vb,ve,(d.M i).b,(d.M i).e,O,g2,h2.af c.af,hl,h3.af c.af,f.1,h4.af c.af,f.2,λH2 cq cv s2 g2' e2 L=>?_};o:(aB d.S d.n (d.M i).pt).length<=1400:=(do qf (iS W) W.bY);hcl:cv.length<=1400:=(do[L.1];qf QZ o);hal:(aQ d.S d.n (d.M i).pt).length<=1400:=qf (wg _ _) o;R:=s2 _ _ e1;I:dV H2 Z ((aQ d.S d.n (d.M i).pt).map (dN (cm d.S))):=(AN.iw (λv i g=>NM.dt g) (aa.imp λv i g=>NM.af g s2.af)).dv;{cq,O,{_,aD.of e2},cK (xs:=cv) (cJ ()) (λj us X=>X=H2/\AN (NM (cm d.S) H2) us (((oR (aB d.S d.n (d.M i).pt) (d.M i).b (d.M i).e).take j).filter λk=>decide (k∈aQ d.S d.n (d.M i).pt))) {O,.nil} (λ_ _ X s'=>do[s'.1];aD.of e2) (λj y us X K1 K0 hy s' k1 k0=>?_) λX np J s' hyl C=>?_};{rfl,p}:=s';{k,V,nm}:=L.at hy;tk:(oR (aB d.S d.n (d.M i).pt) (d.M i).b (d.M i).e).take (j+1)=(oR (aB d.S d.n (d.M i).pt) (d.M i).b (d.M i).e).take j++[k]:=(do[qy,V];2);a:k∈aB d.S d.n (d.M i).pt:=rK (qu V);ok:=K4 (S:=d.S) (js:=aQ d.S d.n (d.M i).pt) λk a=>(W.lay k (fN W (qk.mp a).1)).1;{_,O,_,O,tD (cm d.S k),aq,_,Z,(bC nm).dv,O,.inl (aD.of R),I,(W.lay k (fN W a)).1,ok.1,qf (dB _) ⋯,?_};[Dt (nk:=cm d.S) (js:=aQ d.S d.n (d.M i).pt) (i:=k) λx hx e=>W.inj x (fN W (qk.mp hx).1) k (fN W a) e];(by rw[tk]at k1 k0);{_,O,?_};B<|k∈aQ d.S d.n (d.M i).pt;cj (qH B) {_,O,k1 _ _ {O,AN.pick (vs:=cv) p nm (qH B)}};bX (decide_eq_false B) (k0 _ {O,p.skip λz=>B (qN z)});{rfl,p}:=s';p<-[show cv.length=(oR (aB d.S d.n (d.M i).pt) (d.M i).b (d.M i).e).length from L.1,zd,show((oR (aB d.S d.n (d.M i).pt) (d.M i).b (d.M i).e).filter λk=>decide (k∈aQ d.S d.n (d.M i).pt))=c7 d.S (aB d.S d.n (d.M i).pt) (d.M i).b (d.M i).e from ja λk a=>do@aQ;[yk,decide_eq_true_iff,qk];{λh=>h.2,λh=>{rK a,h}}];nX:ag X (upd X np (.lst J)):=ag.new C;eX:(upd X np (.lst J)) np=!(.lst J):=aF;{aI rfl,λeq H4 g4 D e4=>?_};N:=K4 (S:=d.S) (js:=c7 d.S (aB d.S d.n (d.M i).pt) (d.M i).b (d.M i).e) λk a=>(W.lay k (fN W (rK (qk.mp a).1))).1;G:=AN.iw (λv i g=>NM.dt g) (p.imp λv i g=>NM.af g (nX.trans D).af);{_,_,.lst (aD.of (D _ _ eX)) G.dv,.lst (aD.of e4) .nil,N.1,O,qf (jk _ _) ⋯,?_};this:=kk H4 ((c.trans s2).trans (nX.trans D));(by cases Y:c7 d.S (aB d.S d.n (d.M i).pt) (d.M i).b (d.M i).e with|nil|cons x r=>?_);this<-[Y];this;this<-[Y];this
def Dg(T:Txt K mg tk)(F:FO K mg "marks_of" uk)(b:zP P w K mg base):AB P w K mg base:=do aO F E1 (iP λ_ _=>rfl) {} λfa e A outer s H vs Q E d h=>?_;{_,(aH (aR (cl b d (ac (vv 0) (a2 (vv 1) aE))))),?_};{fa,F,S,n,M,m,N,q,xs,ms,ns,f,pt,rfl,fs,c,a,i,g}:=h;⟨_,O,_,O,fa,F,S,n,M,m,N,q,xs,ms,ns,f,pt,false,O,fs,c,a,i,g⟩
def DF(T:Txt K mg tk)(F:FO K mg "numbered_parts" pF)(gfAa:zC P w K mg base)(gfAl:A0 P w K mg base)(gfBv:yV P w K mg base):AR P w K mg base:=do aO F oj (vV λ_ _ _=>rfl) {} λfa cdv A outer s H vs Q E hr h=>?_;{_,(ax (sn oj.nd 3 (cl gfAa hr (a1 (vv 0)))) (ax (sn oj.nd 4 (bQ dh)) (ax (sn oj.nd 5 (bQ (a1 (bE (a2 (Et (v:=.ref cB) rfl T.cB rfl) aN))))) (ax (yC PassesOwn.never (ck eM (cb dE T.cf boot_len (a1 (vv 5))) aE) (ax (sm oj.nd 6 (Lk PySem.F.plainAttrs_list PySem.F.slot_list_pop PySem.F.type_list_pop I_ (vv 5))) (ax (sn oj.nd 7 (cl gfBv hr (ac (vv 0) (ac (vv 1) (a2 (vv 2) (xt (vc 6))))))) (ax (ap (vv 4) (a1 (aM SU (vc 6) (bE (a1 (vv 7)))))) (aH (bS (fm (vv 7)) (ax (sn oj.nd 8 (QY rfl (do 2) T.lC (do 2) T.gO (bm PySem.F.plainAttrs_dict PySem.F.slot_dict_get PySem.F.type_dict_get (j1 (cW hr)) (vv 3) (a2 (xt (vc 6)) (bQ dh))))) (aH (rG (bm PySem.F.plainAttrs_list PySem.F.slot_list_extend PySem.F.type_list_extend M3 (vv 5) (a1 (jC (own:=["place","part"]) (fr:=[("coming",6)]) rfl (il (Oo (vv 8) (fj (eL i0 aE)))) {O,∅,∅} (mU (ah pF) ["facts","roll","hand","inner","told","to_come","coming","is_open","within"] rfl rfl (λ_ h=>g_ h) ∅ ∅ ∅) (λ_ _ _=>(lB (n:=2) rfl (dD (cZ (i:=0) (do¬List.Nodup (["place","part","coming"]:List UK);by decide +kernel) rfl (Or.inl rfl)) (dD (cZ (i:=1) (do¬List.Nodup (["place","part","coming"]:List UK);by decide +kernel) rfl (Or.inl rfl)) kY)))) (λ_=>p7 rfl rfl ⋯) (λ_ _ _=>ee) (λ_ _ _=>(bE (a2 (vv 1) (cl gfAl hr (a2 (xt (vc 2)) (vv 0)))))))))))) cX)))))) (aH (aR (vv 4))))))),?_};{fa,F,x,r,h,rfl,f6,er,tt,ma,kk}:=h;fz:=f6.fz;f61:∀{W:Hp},ag (cg H s2) W->F6 W fa F x/\W r=!mu:=λs=>{f6.kp λb o e h=>bV tt s e h,bV tt s er λ_ z=>nomatch z};{op,hop}:∃op,op=p6 x h:={_,O};kk<-[<-hop];(by generalize x.d=d at fz kk);{bs,es0,cs,k,fb,hk,hl}:=fz.fb;W:=fz.xw;{_,O,fa,F,bs,es0,cs,d.rs,d.cu,k,O,fb,hk,hl,tt,ma,λH1 da kd A g s1 t1 g1 e1 dtr inn=>?_};ma1:MA H1:=bV tt s1 ma (λps z=>nomatch z);S:=dtr.1.zw W;nA:=S.nd;hN:=S.pt;lA:A.length<=62:=(do[dtr.1.len];hl);inU:∀p l,rP A (GT g) p l->(∀x∈l,x∈A/\x.ou=p)/\l.Nodup:=λp l h=>{λx M=>let⟨a,b,_⟩:=(h.mem x).mp M;{a,b},h.up.imp λ{a b} hl z=>do hl<-[z];JV _ _ hl};{aI rfl,λta H2 g2 s2 e2=>{aI rfl,λtq H3 g3 s3 e3=>{aI rfl,λt H4 g4 s4 e4=>?_}}};s14:=(s2.trans s3).trans s4;nt:ta≠t:=λz=>(do g4<-[<-z,s3 _ _ e2];-g4);ft:H1 ta=none:=g2;fu:H1 t=none:=(s2.trans s3).free g4;{λmm σ N=>Gy λD es Us us u6 u7=>∃u8,ot (σ=[!(.ref fa),!(.ref r),!(hV h),!(.ref da),!(.ref ta),!(.ref t),u6,u7,u8]) (ag H1 N) (N ta=!(.lst D)) (AL (TN op N) D es) (N t=!(.lst Us)) (iD (AL (UN N) Us us) (Jz A (es.map (·.1)) (us.map (·.1))) (∀x∈us,x.2.length<=4 * es.length) ((∀out,Wk A (GT g) op us.reverse out->Wk A (GT g) op [(aZ,"")] (es++out))/\mm+es.length=64)),{64,[],[],[.ref tq],[(aZ,"")],none,none,none,O,s14,s4 _ _ (s3 _ _ e2),.nil,e4,.cons {tq,_,O,s4 _ _ e3,{_,O,s14 _ _ ma1}} .nil,{do 0,λc hc=>.inl (do 0<|hc)},λx M=>do[List.mem_singleton.mp M];Nat.le_refl _,(λout h=>h),O},?_};(mm,σ,N,{D,es,Us,us,u6,u7,u8,rfl,s5,eT,aT,eU,aU,J,hz,hw,hm});hJ:=J.len;hJ<-[qh,qh];hTl:D.length=es.length:=aT.1;{_,O,t,_,O,.inl (aD.of eU),_,_,O,O,_,O,?_};z||{us',{u,z0},z}:=ji us;!z;h0:Us=[]:=yw.mp aU.1;!h0;bX rfl ?_;{_,O,kk N ta D es (s1.trans s5) (t1.same s5) (tt.free s1 t1 ft) eT aT {A,g,dtr,by have:=hw [] .nil;rwa [wt]at this} () (by have:=J.nd;rwa [gh,wt]at this)};z<-[jj];!z;hJ<-[qg,qr];{f,vx,rfl,aU',b,vp,rfl,h1,h2}:=xZ aU;hUl:f.length=us'.length:=aU'.1;pu:Pn u:=J.pn hN (do 0);hzu:z0.length<=4 * es.length:=hz (u,z0) (do 0);cj (qH (do¬(0:Int)<((f++[V.ref b]).length:Nat);[qg,qr];())) ?_;RB (λσ' H'=>Gy λD Us us u6 u7 u8=>ot (σ'=[!(.ref fa),!(.ref r),!(hV h),!(.ref da),!(.ref ta),!(.ref t),u6,u7,u8]) (ag H1 H') (H' ta=!(.lst D)) (AL (TN op H') D (es++[(u,z0)])) (H' t=!(.lst Us)) (iD (AL (UN H') Us us) (Jz A (es.map (·.1)++[u]) (us.map (·.1))) (∀x∈us,x.2.length<=4 * (es.length+1)) (∀out,Wk A (GT g) op us.reverse out->Wk A (GT g) op [(aZ,"")] ((es++[(u,z0)])++out)))) (λσ' H' ⟨Ts',Us2,us2,v6,v7,v8,b1,b2,b3,b4,b5,b6,b7,b8,b9⟩=>{mm - 1,(),Ts',es++[(u,z0)],Us2,us2,v6,v7,v8,b1,b2,b3,b4,b5,b6,do[zy];b7,do[qg];b8,b9,do[qg,qr];()}) λNx hNx=>?_;J<-[zy];{_,O,.inl {O,_,aD.of eU},t,_,.ref b,O,O,eU,(do 0),?_};[ud];t6:aj N (upd N t (.lst f)):=aj.wl eU;s6:ag H1 (upd N t (.lst f)):=s5.wr fu;eT6:(upd N t (.lst f)) ta=!(.lst D):=(do[az nt];eT);eU6:(upd N t (.lst f)) t=!(.lst f):=aF;aT6:=aT.imp λv e g=>TN.af g t6;aU6:=aU'.imp λv e g=>UN.af g t6;h16:=t6 _ _ h1;h26:=h2.af t6;¬uO _ _ _ _ (upd N t (.lst f));(by generalize upd N t (.lst f)=H6 at s6 eT6 eU6 aT6 aU6 h16 h26);{_,O,_,O,_,O,_,O,b,_,0,_,O,O,aS.of h16,O,fa,F,x,r,h,vp,u,O,(f61 (s1.trans s6)).1,(f61 (s1.trans s6)).2,{h26,pu},λH7 s7=>?_};[<-hop];s17:=s6.trans s7;eT7:=s7 _ _ eT6;{_,O,.inl {O,_,aD.of eT7},_,O,_,O,aI rfl,λtp H8 g8 s8 e8=>?_};{b,tp,_,_,O,O,aS.of ((s7.trans s8) _ _ h16),aS.of e8,(λz=>nomatch z),(λz=>nomatch z),aI rfl,λC H9 g9 s9 e9=>?_};s79:=(s7.trans s8).trans s9;s19:=s6.trans s79;eT9:=s79 _ _ eT6;{ta,_,_,O,O,eT9,cH (),?_};t10:aj H9 (upd H9 ta (.lst (D++[.ref C]))):=aj.wl eT9;L:ag H1 (upd H9 ta (.lst (D++[.ref C]))):=s19.wr ft;eT10:(upd H9 ta (.lst (D++[.ref C]))) ta=!(.lst (D++[.ref C])):=aF;U:(upd H9 ta (.lst (D++[.ref C]))) t=!(.lst f):=(do[az nt.symm];s79 _ _ eU6);R:=s79.af.trans t10;Y:=aU6.imp λv e g=>UN.af g R;h110:=R _ _ h16;Z:=h26.af R;aT10:AL (TN op (upd H9 ta (.lst (D++[.ref C])))) (D++[.ref C]) (es++[(u,z0)]):=(aT6.imp λv e g=>TN.af g R).snoc {C,vp,O,t10 _ _ e9,Z,pu,do¬z0.length<=1000;()};(by generalize upd H9 ta (.lst (D++[.ref C]))=H10 at L eT10 U Y h110 Z aT10);{_,O,op u,O,?_};(by cases ho:op u with|false|true=>?_);J2:=Jz.step (l:=[]) nA hN J (λx z=>nomatch z) .nil;bX rfl (hNx _ _ {_,f,us',_,_,_,O,L,eT10,aT10,U,Y,do 0<|J2,λx M=>Nat.le_trans (hz x (List.mem_append_left _ M)) (),λout h=>?_});this:=hw _ (do[jp];Wk.rB ho h);[ym];this;cj rfl ?_;{_,O,.inr (.inr (.inl {O,.inr (.inr {kd,L _ _ e1})})),_,O,b,_,0,_,O,O,aS.of h110,O,aI rfl,λzq H11 g11 s11 e11=>?_};{da,kd,.tup u,vp,.ref zq,O,O,(L.trans s11) _ _ e1,Z.af s11.af,?_};{a,ws,l,ea,ew,aw,hin}:∃a ws l,(vG kd (.tup u)).getD (.ref zq)=.ref a/\H11 a=!(.lst ws)/\AL (NP H11) ws l/\rP A (GT g) u l:=(do _;{h,g}||{qa,ws,l,h,_,h3,h4,h5}:=inn u pu;⟨zq,[],[],do[h];2,e11,.nil,g⟩;⟨qa,ws,l,do[h];2,(L.trans s11) _ _ h3,h4.imp λv x g=>NP.af g (L.trans s11).af,h5⟩);[ea];{il,ind}:=inU u l hin;J2:=Jz.step nA hN J il ind;hJ2:=J2.len;hJ2<-[qg,qh,qg,qh,yb,qh];hwl:ws.length=l.length:=aw.1;{a,ws,O,aD.of ew,λwq H12 zs g12 s12 e12 hl12 pr=>?_};s1012:=s11.trans s12;eU12:=s1012 _ _ U;{_,O,.inl {O,_,aD.of eU12},_,O,1,O,-1,O,O,wq,zs,O,aD.of e12,λvq H13 g13 s13 e13=>?_};I:=s1012.trans s13;hll:l.reverse.length=zs.length:=(do[yb,hl12,hwl]);{vq,O,{_,aD.of e13},cK (xs:=zs.reverse) (mZ (do[yb];())) (λj q H'=>ag H13 H'/\AL (UN H') q ((subs z0 0 l).reverse.take j)) {ag.refl _,.nil} (λ_ _ H' s'=>aD.of (s'.1 _ _ e13)) (λj x q H' K1 K0 M s' k1 k0=>?_) λX lq q s' hv3 hlq=>?_};{s',an}:=s';hj:j<zs.length:=(by have:=(qw.mp M).1;rwa [yb]at this);M<-[ue hj];{T,w,ew2,rfl,hT}:=pr _ _ M;{y,ey,hy}:=aw.at ew2;tk:(subs z0 0 l).reverse.take (j+1)=(subs z0 0 l).reverse.take j++[(y.pt,rS z0 (zs.length - 1 - j+1))]:=(do[qy,ue (do[vD];()),yJ,vD,show l.length - 1 - j=zs.length - 1 - j from (),ey,jh];2);s13':=s13.trans s';{T,_,O,aS.of (s13' _ _ hT),O,_,_,O,_,_,O,O,?_};eA (B:=K0 H') ?_;{_,O,_,O,b,_,1,_,O,O,aS.of ((I.trans s') _ _ h110),O,_,O,z0,zs.length - 1 - j+1,O,(),(),aI rfl,λpq H15 g15 s15 e15=>k1 _ _ {s'.trans s15,?_}};[tk];(an.imp λv e g=>UN.af g s15.af).snoc {pq,w,O,e15,NP.af hy ((s12.trans s13').trans s15).af};{s',an}:=s';an<-[yb,<-hll,yb,<-vD z0 l 0,<-yb,zd];eU14:X t=!(.lst f):=(I.trans s') _ _ U;nlu:t≠lq:=a_ eU14 hlq;n14:ag X (upd X lq (.lst q)):=ag.new hlq;eU15:(upd X lq (.lst q)) t=!(.lst f):=(do[az nlu];eU14);G:=(I.trans s').trans n14;hnl:q.length=l.length:=(by have:=an.1;rwa [yb,vD]at this);{t,lq,f,q,O,O,eU15,aF,mZ (),?_};t16:aj (upd X lq (.lst q)) (upd (upd X lq (.lst q)) t (.lst (f++q))):=aj.wl eU15;t1016:=G.af.trans t16;hNx _ _ {_,f++q,us'++(subs z0 0 l).reverse,_,_,_,O,(L.trans G).wr fu,do[az nt];G _ _ eT10,aT10.imp λv e g=>TN.af g t1016,aF,(Y.imp λv e g=>UN.af g t1016).app (an.imp λv e g=>UN.af g (n14.af.trans t16)),do[zy,List.map_reverse,Hr];J2,λx M=>?_,λout h=>?_};M||M:=qz.mp M;qf (hz x (yo _ M)) ();{m,hm'}:=j6 (vy.mp M);hm'<-[yJ];{y,hy,rfl}:=wu.mp hm';this:=(qw.mp hy).1;qf (Rh z0 ()) ();h<-[jp,List.reverse_reverse];this:=hw _ (do[jp];Wk.cons ho hin h);[ym];this
def Dz(T:Txt K mg tk)(F:FO K mg "_law_less" gN)(gfAv:Au P w K mg base)(gfAb:AC P w K mg base)(gfAz:zM P w K mg base):zZ P w K mg base:=do aO F qS (mI λ_=>rfl) {} λfa cdv A outer s H vs Q E N h=>?_;B:(A.deeper (envOfC "_law_less" (ah gN) ↑s fa cdv)).units+1<cLine:=cS N;{_,(ax (sm qS.nd 1 (cl gfAz N (a1 (vc 0)))) (ax (sm qS.nd 2 (GQ (il (cL B (vc 0) aN (λ_ _=>rfl))) (λ_ _ _=>(dJ (fm (xt (vv 0))))) (λ_ _ _=>(xt (vv 0))))) (ax (sn qS.nd 3 D8) (ax (fo (il (bQ (ac aN (a2 aN aN)))) (gn qS.nd 4) (aH (pZ B (vv 3) (vv 4) (cy Hu T.lC boot_list (a1 (cL B (vc 0) (vv 4) (λ_ _=>rfl)))) rfl))) (ax (fo (il (bQ (ac aN (a2 aN aN)))) (gn qS.nd 4) (aH (pZ B (vv 3) (vv 4) (m2 (ah gN) mB [("_law_seen",1)] (il (cL B (vc 0) (vv 4) (λ_ _=>rfl))) (λ_ _ _=>(dJ (ck (inD N) (xt (vv 0)) (vc 1)))) (λ_ _ _=>(vv 0))) rfl))) (ax (pZ B (vv 3) aN (m2 (ah gN) mB [("_law_seen",1),("_law_facts_here",0)] (il (cL B (vc 0) aN (λ_ _=>rfl))) (λ_ _ _=>(dJ (PW.pt (gJ (ck (inD N) (xt (vv 0)) (vc 1)) (hZ (fm (cl gfAv N (a2 (vc 2) (vv 0))))))))) (λ_ _ _=>(vv 0))) rfl) (ax (pZ B (vv 3) aN (m2 (ah gN) mB [("_law_seen",1),("_law_lines",2)] (il (cL B (vc 0) aN (λ_ _=>rfl))) (λ_ _ _=>(dJ (PW.pt (gJ (ck (inD N) (xt (vv 0)) (vc 1)) (gJ (ck (inD N) (xt (vv 0)) (vc 2)) (hZ (ck (inD N) (xt (vv 0)) (vc 2)))))))) (λ_ _ _=>(vv 0))) rfl) (ax (pZ B (vv 3) aN (m2 (ah gN) mB [("_law_facts_here",0)] (il (cL B (vc 0) aN (λ_ _=>rfl))) (λ_ _ _=>(dJ (fm (cl gfAb N (a2 (vc 1) (vv 0)))))) (λ_ _ _=>(vv 0))) rfl) (aH (aR (vv 3))))))))))),?_};{fa,F,x,rfl,f6,tt,ma,kk}:=h;{bs,es,cs,k,g,hk,hl}:=f6.fz.fb;{_,O,fa,F,bs,es,cs,_,_,k,O,g,hk,hl,tt,ma,λH1 q ws ls s1 tt1 g1 e1 aws hll hpn hsh=>?_};f1:=f6.kp (H':=H1) λb o e ho=>mO s1 e λz=>(do _;{ps,hps}:=tt.no z;e<-[hps];ho ps (qJ e).symm);lws:=rC hpn;{lv,cv,el,al,wl,ec,ac,wc}:=f1.cn;hlv:lv.length<=1300:=(do[al.1,zg];wl.bY);{_,O,fa,.ref (F 6),O,f1.dk.get 6 ⋯,F 6,O,{_,aD.of el},cK (xs:=lv) (cJ ()) (λj us X=>X=H1/\AN (NM (cR x.d.L) H1) us (((List.range x.d.a).take j).filter λi=>(x.d.L i).lv)) {O,.nil} (λ_ _ X s'=>do[s'.1];aD.of el) (λj y us X K1 K0 V s' k1 J=>?_) λX np uv s' hyl f=>?_};{rfl,p}:=s';{i,hi,{b,vp,vn,vb,kq,rfl,h1,h2,h3,h4,h5},W,kn}:=xc al V p;{_,O,b,_,5,_,O,O,aS.of h1,O,?_};(by cases hv:(x.d.L i).lv with|true|false=>?_);{_,O,cj rfl {_,O,b,_,2,_,O,O,aS.of h1,O,k1 _ _ {O,W hv h3}}};{_,O,bX rfl (J _ {O,kn hv})};{rfl,p}:=s';p<-[al.1,zd];n3:ag X (upd X np (.lst uv)):=ag.new f;Y:=f1.same n3;tt3:=tt1.same n3;e3q:=n3 _ _ e1;dws:=(Dk aws).same n3;dlv:dn (upd X np (.lst uv)) uv ((eN x.d.L x.d.a).map tD):=(do this:=(AN.iw (λv i g=>NM.dt g) p).same n3;@eN;[zx];this);lyl:PyData.canLayAll0 ((eN x.d.L x.d.a).map tD)=true:=fF λd hd=>(do _;{k,hk,rfl}:=qc.mp hd;{i,hi,rfl}:=qc.mp hk;(wl.lay i (qj.mp (qk.mp hi).1)).1);ec3:=n3 _ _ ec;ac3:=ac.imp λv i g=>gP.af g n3.af;eu3:(upd X np (.lst uv)) np=!(.lst uv):=aF;s13:ag (cg H s2) (upd X np (.lst uv)):=s1.trans n3;¬cQ _ _ _ (upd X np (.lst uv)) _;(by generalize upd X np (.lst uv)=H2 at Y tt3 e3q dws dlv ec3 ac3 eu3 s13;clear n3 p ac ec al el f1 aws e1 tt1 s1 f g f6 hlv);(dx,H3,g3,s3,e3);J:jH (KR H2 F x (cD ls)) H2 H3 dx []:={λ_=>0,λ_=>[],(λ_ z=>nomatch z),e3,g3,(λ_ z=>nomatch z),(λ_ z=>nomatch z),(λ_ z=>nomatch z),(λ_ z=>nomatch z),s3};{aI rfl,λlq H4 g4 s4 e4=>?_};ldx:lq≠dx:=λz=>(do g4<-[z,e3];-g4);{bs',es',cs',k',U,_,_}:=Y.fz.fb;{lq,O,{_,aD.of e4},bH (xs:=[.str "births",.str "places",.str "cuts"]) (λj σ Z=>∃u4,Sj (σ=[!(.ref fa),!(.ref q),!(.ref np),!(.ref dx),u4]) (jH (KR H2 F x (cD ls)) H2 Z dx (List.range j)) (Z lq=!(.lst [.str "births",.str "places",.str "cuts"]))) {none,O,J.same s4,e4} (λj σ Z _ ⟨_,_,_,s⟩=>aD.of s) ?_ ?_};(j,y,σ,Z,V,{u4,rfl,t,eq},Nx,hNx);{hj,rfl,ys,eF,kr}:j<3/\y=kV (kN j)/\∃ys,H2 (F j)=!(.lst ys)/\KR H2 F x (cD ls) j ys:=(by match j,V with| 0,h=>exact{⋯,do-h;2,_,U.eb,U.eb}| 1,h=>exact{⋯,do-h;2,_,U.ev,U.ev}| 2,h=>exact{⋯,do-h;2,_,U.ec,U.ec}|_+3,h=>cases h);{_,O,_,O,fa,.ref (F j),O,(Y.same t.sm).dk.get j (),F j,ys,O,.inl (aD.of (t.sm _ _ eF)),λl Z1 gl s1 el1=>?_};{Z2,dp,D,k2}:=t.Od {(),λz=>absurd (qj.mp z) (wj j),do[zg];()} s1 gl el1 kr;{_,O,_,O,dx,Z2,O,dp,hNx _ _ {_,O,do[yx];D,do[k2 _ ldx];s1 _ _ eq}};(σ,Z,{u4,rfl,t,eq});t:jH (KR H2 F x (cD ls)) H2 Z dx [0,1,2]:=t;{aI rfl,λmq Z1 g5 s5 e5=>?_};mdx:mq≠dx:=λz=>(do _;{_,_,k}:=t;g5<-[z,k.ed];-g5);{mq,O,{_,aD.of e5},bH (xs:=[.str "signs",.str "notes",.str "lines"]) (λj σ Z=>∃u4,Sj (σ=[!(.ref fa),!(.ref q),!(.ref np),!(.ref dx),u4]) (jH (KR H2 F x (cD ls)) H2 Z dx ([0,1,2]++[3,5,6].take j)) (Z mq=!(.lst [.str "signs",.str "notes",.str "lines"]))) {_,O,t.same s5,e5} (λj σ Z _ ⟨_,_,_,s⟩=>aD.of s) ?_ ?_};(j,y,σ,Z,V,{u4,rfl,t,eq},Nx,hNx);{c,n,P,pt,vs,R,hjs,rfl,eF,ro,fin}:=Y.rows (seen:=cD ls) V;eZ:=t.sm _ _ eF;hvl:=ro.len;{_,O,_,O,fa,.ref (F c),O,(Y.same t.sm).dk.get c R.1,F c,O,{_,aD.of eZ},cK (xs:=vs) (cJ ()) (λj us X=>X=Z/\AN P us (((List.range n).take j).filter λi=>cD ls (pt i))) {O,.nil} (λ_ _ X s'=>do[s'.1];aD.of eZ) (λj y us X K1 K0 V s' k1 J=>?_) λX np2 us s' hul f=>?_};{rfl,p}:=s';{i,hi,pi,W,kn}:=xc ro.al V p;{b,vp,r,rfl,r1,r2,r3}:=ro.row _ i hi pi;{_,O,b,_,0,_,O,O,aS.of (t.sm _ _ r1),wM (xs:=vp::r) (j:=0) rfl,_,O,tD (pt i),q,_,ws,(bC (r2.af t.sm.af)).dv,O,.inl (aD.of (t.sm _ _ e3q)),(dws.same t.sm).dv,r3,lws.1,qf (dB _) ⋯,?_};[tV];{_,O,?_};(by cases hs:cD ls (pt i)with|true|false=>?_);cj rfl {_,O,k1 _ _ {O,W hs pi}};bX rfl (J _ {O,kn hs});{rfl,p}:=s';p<-[ro.al.1,zd];{Z2,dp,D,k2}:=t.put R (ag.refl _) f (fin _ p);{_,O,_,O,dx,Z2,O,dp,hNx _ _ {_,O,do[hjs];D,do[k2 _ mdx λz=>do f<-[<-z,eq];-f];eq}};(σ,Z,{u4,rfl,t,eq});t:jH (KR H2 F x (cD ls)) H2 Z dx [0,1,2,3,5,6]:=t;{sv,mv,nv,fs}:=Y.fz.fs;fZ:=Y.same t.sm;hml:mv.length<=70:=(do[fs.ma.1,zg];fs.wm.bY);{_,O,fa,.ref (F 4),O,fZ.dk.get 4 ⋯,F 4,O,{_,aD.of (t.sm _ _ fs.ml)},cK (xs:=mv) (cJ ()) (λj us X=>ag Z X/\AN (MN x.d.S x.d.M H2) us (((List.range x.d.m).take j).filter (kM x.d.S x.d.n (cD ls) x.d.M))) {ag.refl _,.nil} (λ_ _ X s'=>aD.of (s'.1 _ _ (t.sm _ _ fs.ml))) (λj y us X K1 K0 V s' k1 J=>?_) λX np2 us s' hul f=>?_};{I,p}:=s';{i,hi,pi,W,kn}:=xc fs.ma V p;{b,vp,vb,ve,vn,kq,rfl,r1,r2,_}:=id pi;s2X:=t.sm.trans I;{_,O,b,_,0,_,O,O,aS.of (s2X _ _ r1),O,_,O,tD (x.d.M i).pt,q,_,ws,(bC (r2.af s2X.af)).dv,O,.inl (aD.of (s2X _ _ e3q)),(dws.same s2X).dv,(fs.wm.lay i hi).1,lws.1,qf (dB _) ⋯,?_};[tV];{_,O,?_};(by unfold kM at W kn;cases hs:cD ls (x.d.M i).pt with|true|false=>?_;rw[hs,j9]at W kn);cj rfl {_,O,_,O,fa,F,x.d,_,i,O,fZ.fz.same I,pi.af s2X.af,hi,λX2 sX2=>{_,O,?_}};(by cases R:not (c7 x.d.S (aB x.d.S x.d.n (x.d.M i).pt) (x.d.M i).b (x.d.M i).e).isEmpty with|true|false=>?_);cj rfl {_,O,k1 _ _ {I.trans sX2,W R pi}};bX rfl (J _ {I.trans sX2,kn R});bX rfl (J _ {I,kn (do[hs];2)});{I,p}:=s';p<-[fs.ma.1,zd];{Z2,dp,D,_}:=t.put (i:=4) ⋯ I f p;{_,O,dx,Z2,O,dp,?_};D:jH (KR H2 F x (cD ls)) H2 Z2 dx [0,1,2,3,5,6,4]:=D;(by clear p dp I f hul eq fZ t);s2:=D.sm;fZ:=Y.same s2;hcl:cv.length<=100:=(do[ac3.1,zg];wc.bY);{_,O,fa,.ref (F 7),O,fZ.dk.get 7 ⋯,F 7,O,{_,aD.of (s2 _ _ ec3)},cK (xs:=cv) (cJ ()) (λj us X=>X=Z2/\AN (gP x.d.C H2) us (((List.range x.d.b).take j).filter (kC x.d.L x.d.a x.d.C (cD ls)))) {O,.nil} (λ_ _ X s'=>do[s'.1];aD.of (s2 _ _ ec3)) (λj y us X K1 K0 V s' k1 J=>?_) λX np2 us s' hul f=>?_};{rfl,p}:=s';{i,hi,pi,W,kn}:=xc ac3 V p;{b,vp,vr,vc,kq,rfl,r1,r2,r3,r4,_}:=id pi;r1:=aS.of (s2 _ _ r1);lay:=wc.lay i hi;dl:=(dlv.same s2).dv;eu:=aD.of (s2 _ _ eu3);{_,O,b,_,0,_,O,O,r1,O,_,O,tD (x.d.C i).pt,q,_,ws,(bC (r2.af s2.af)).dv,O,.inl (aD.of (s2 _ _ e3q)),(dws.same s2).dv,lay.1,lws.1,qf (dB _) ⋯,?_};[tV];{_,O,?_};(by unfold kC at W kn;cases hs:cD ls (x.d.C i).pt with|false|true=>?_);bX rfl (J _ {O,kn (do[hs];2)});(by rw[hs,j9]at W kn);cj rfl {_,O,b,_,1,_,O,O,r1,O,_,O,tD (x.d.C i).rw,np,_,uv,(bC (r3.af s2.af)).dv,O,.inl eu,dl,lay.2.1,lyl,qf (dB _) ⋯,?_};[tV];{_,O,?_};(by cases N:Ez (x.d.C i).rw (eN x.d.L x.d.a)with|false|true=>?_);bX N (J _ {O,kn (do[N];2)});(by rw[N,j9]at W kn);cj N {_,O,b,_,2,_,O,O,r1,O,_,O,tD (x.d.C i).cl,np,_,uv,(bC (r4.af s2.af)).dv,O,.inl eu,dl,lay.2.2,lyl,qf (dB _) ⋯,?_};[tV];{_,O,?_};(by cases R:Ez (x.d.C i).cl (eN x.d.L x.d.a)with|false|true=>?_);bX R (J _ {O,kn R});cj R {_,O,k1 _ _ {O,W R pi}};{rfl,p}:=s';p<-[ac3.1,zd];{Z3,dp,lk3,_}:=D.put (i:=7) ⋯ (ag.refl _) f p;{_,O,dx,Z3,O,dp,?_};lk3:jH (KR H2 F x (cD ls)) H2 Z3 dx [0,1,2,3,5,6,4,7]:=lk3;(by clear p dp f hul fZ D s2);s2:=lk3.sm;fZ:=Y.same s2;{yv,ev,av}:=Y.ev;hyl:yv.length<=45:=(do[av.1];Y.ll);{_,O,fa,.ref (F 8),O,fZ.dk.get 8 ⋯,F 8,O,{_,aD.of (s2 _ _ ev)},cK (xs:=yv) (cJ ()) (λj us X=>ag Z3 X/\AL (LX H2) us ((x.ls.take j).filter (cT x.ls))) {ag.refl _,.nil} (λ_ _ X s'=>aD.of (s'.1 _ _ (s2 _ _ ev))) (λj y us X K1 K0 V s' k1 J=>?_) λX np2 us s' hul f=>?_};{I,p}:=s';{l,el,lx}:=av.at V;tk:x.ls.take (j+1)=x.ls.take j++[l]:=(do[qy,el];2);{_,O,_,O,fa,F,x,_,l,O,fZ.same I,lx.af (s2.trans I).af,λX2 sX2=>?_};(by rw[tk,vj]at k1 J);{_,O,?_};(by cases R:cT x.ls l with|true|false=>?_);cj rfl {_,O,k1 _ _ {I.trans sX2,?_}};[yi R,ye];p.snoc lx;bX rfl (J _ {I.trans sX2,?_});[yj (by rw[R];decide),ye,wt];p;{I,p}:=s';p<-[av.1,zd];{Z4,dp,lk4,_}:=lk3.put (i:=8) ⋯ I f p;lk4:jH (KR H2 F x (cD ls)) H2 Z4 dx [0,1,2,3,5,6,4,7,8]:=lk4;{G,f4}:=HR Y lk4 ⋯;{_,O,dx,Z4,O,dp,_,O,kk Z4 dx G ls (s13.trans lk4.sm) (tt3.same lk4.sm) hsh f4}
def EA(T:Txt K mg tk)(F:FO K mg "shown_row" jM)(R:mE P w K mg base)(V:AB P w K mg base)(gfAp:As P w K mg base):zi P w K mg base:=do aO F F' (vV λ_ _ _=>rfl) {} λfa cdv A outer s H vs Q E y h=>?_;hu1:(A.deeper (envOfC "shown_row" (ah jM) ↑s fa cdv)).units+1<cLine:=cS y;{_,(ax (sm F'.nd 3 (cy (gZ y.hd (rR y)) T.c6 boot_dict (a1 (m2 (ah jM) sr [("part",1)] (il (cL hu1 (vv 0) aN (λ_ _=>rfl))) (λ_ _ _=>(dJ (ck (BG y) (xt (vv 0)) (vc 1)))) (λ_ _ _=>(bE (a2 (xt (vv 0)) (xt (vv 0))))))))) (ax (sm F'.nd 4 (cl V y (a2 (vv 0) (vc 1)))) (aH (aR (m2 (ah jM) sr [("numbers",2),("signs",3),("marks",4)] (il (cl R y (a2 (vv 0) (vc 1)))) (λ_ _ _=>ee) (λ_ _ _=>(bE (ac (vv 0) (a2 (cl gfAp y (a2 (vc 1) (dI (cW y) (vc 2) (vv 0) (λ_ _=>rfl)))) (dI (cW y) (vc 3) (vv 0) (λ_ _=>rfl))))))))))),?_};{fa,F,d,vp,p,nq,num,rfl,fz,gp,hp,nd,kk}:=h;{xs,ms,ns,fs}:=fz.fs;fg:=fs.fg;{kvs0,la,vs,rd,I,X,an,W}:=fs.fg;c:=hp.lay;hvl:vs.length=d.n:=(do[an.1,zg]);bY:=W.bY;qZ:=W.uZ p;{_,O,fa,.ref la,O,.inl {kvs0,.inr "signs",rd,O,I.symm},la,O,{_,aD.of X},cK (xs:=vs) (cJ ()) (λj us H'=>ag H H'/\∃kvs,cw H' us kvs/\kX (cm d.S) (λv i=>DT H v (d.S i).sg) kvs (((List.range d.n).take j).filter (lY d.S p))) {ag.refl _,[],trivial,trivial} (λ_ _ H' s'=>aD.of (s'.1 _ _ X)) (λj x us H' K1 K0 hx s' k1 k0=>?_) λH3 up us s' hu3 huq=>?_};{s',kvs,pr,Z}:=s';{i,L,sn}:=an.at hx;o:i<d.n:=qj.mp (qu L);{b,vq,vn,vb,kq,vg,rfl,h1,h2,h3,h4,h5,h6}:=sn;t:=s'.af;tk:(List.range d.n).take (j+1)=(List.range d.n).take j++[i]:=(do[qy,L];2);{_,O,b,_,0,_,O,O,aS.of (t _ _ h1),O,_,O,tD (d.S i).pt,tD p,(bC (h2.af t)).dv,(bC (gp.af t)).dv,(W.lay i o).2,c,qf (je _ _) (qf (dB _) ⋯),_,O,?_};Y:(if false=true then not (PyData.eqv (tD (d.S i).pt) (tD p)) else PyData.eqv (tD (d.S i).pt) (tD p))=decide ((d.S i).pt=p):=fH _ _;g<|(d.S i).pt=p;cj (do[Y];qH g) ?_;{_,O,b,_,1,_,O,O,aS.of (t _ _ h1),O,_,O,b,_,4,_,O,O,aS.of (t _ _ h1),O,aI rfl,λtq H4 g4 r e4=>k1 _ _ {s'.trans r,kvs++[(.tup (cm d.S i),vn,vg)],cw.snoc (e:=(.tup (cm d.S i),vn,vg)) {tq,O,e4,(h3.af t).af r.af} (pr.af r.af),?_}};[tk,vj,yi (f9.mpr g),ye];Z.snoc rfl h6;bX (do[Y];decide_eq_false g) (k0 _ {s',kvs,pr,?_});[tk,vj,yj (λz=>g (f9.mp z)),ye,wt];Z;{s3,kvs,pr,Z}:=s';n3:ag H3 (upd H3 up (.lst us)):=ag.new huq;Z<-[hvl,jd (do[zg];qb _)];{up,us,kvs,O,aD.of aF,pr.af n3.af,(),λdq H5 g5 s5 e5=>?_};C:=(s3.trans n3).trans s5;get:∀i∈bM d.S d.n p,∃v,vG (putAll [] kvs) (.tup (cm d.S i))=!v/\DT H v (d.S i).sg:=λi hi=>kX.get (all:=bM d.S d.n p) qZ.inj (done:=[]) (acc:=[]) Z (λi z=>nomatch z) (λi h=>h) (λi z=>nomatch z) i (.inr hi);{_,O,_,O,fa,F,d.S,d.n,d.M,d.m,d.N,d.q,xs,ms,ns,vp,p,O,fs.same C,gp.af C.af,c,fz.hm,λH6 mq kvm s6 g6 e6 tdk knd=>?_};k:=C.trans s6;{_,O,_,O,fa,vp,p,d.S,d.n,O,fg.same k,gp.af k.af,c,λH7 lq zs s7 g7 e7 al=>?_};D:∀i∈aQ d.S d.n p,i<d.n/\(d.S i).pt=p:=λi hi=>(gF W).mp (qk.mp hi).1;hzl:zs.length<=1400:=(do[al.1];qf (qf (wg _ _) (iS W)) W.bY);{lq,O,{_,aD.of e7},cK (xs:=zs) (cJ ()) (λj us H'=>ag H7 H'/\dV H' us (((aQ d.S d.n p).take j).map (lK d num p))) {ag.refl _,.nil} (λ_ _ H' s'=>aD.of (s'.1 _ _ e7)) (λj x us H' K1 K0 hx s' k1 k0=>?_) λH9 rq us s' hu hrq=>?_};{s',ar}:=s';{i,L,nmx}:=al.at hx;J:i∈aQ d.S d.n p:=qu L;{o,hpt}:=D i J;him:i∈bM d.S d.n p:=qk.mpr {qj.mpr o,f9.mpr hpt};G:NM (cm d.S) H' x i:=NM.af nmx s'.af;{v,gv,dv}:=get i him;f:=s7.trans s';U:=k.trans f;{a,zs',gm,ba,za,dz}:=tdk.get ((mC W).filter _) (λa ha b hb e=>W.inj a (D a ha).1 b (D b hb).1 e) J;eA (B:=K0 H') ?_;{_,O,_,O,_,O,_,O,dq,_,.tup (cm d.S i),v,O,.inl ((s6.trans f) _ _ e5),G,gv,nq,num,v,(d.S i).sg,O,nd.same U,dv.af U.af,fz.sg i o,λt ht=>?_};ht:=zO ht;!ht;{_,O,_,O,mq,kvm,.tup (cm d.S i),.ref a,O,.inl (f _ _ e6),G,gm,aI rfl,λtq H4 g4 r e4=>k1 _ _ {s'.trans r,?_}};[qy,L,kh,zy];d8 (ar.same r) (.tup (aS.of e4) (.cons (bC (NM.af G r.af)).dv (.cons (.str _) (.cons (.lst (aD.of ((f.trans r) _ _ za)) (dz.af (f.trans r).af).dv) .nil))));{s9,ar}:=s';ar<-[al.1,zd];n9:ag H9 (upd H9 rq (.lst us)):=ag.new hrq;s09:=(k.trans s7).trans s9;kk _ rq (s09.trans n9) (s09.free hrq) (.lst (aD.of aF) (ar.same n9))
def FP(T:Txt K mg tk)(F:FO K mg "entry" sN)(o:yQ P w K mg base)(x:zi P w K mg base)(y:Ag P w K mg base):zU P w K mg base:=do aO F DB (wN λ_ _ _ _=>rfl) {} λfa cdv A outer s H vs Q E t h=>?_;{_,(ax (bS (EO (fm (vv 3))) (aH (aR (bE (ac (dI (cW t) (vv 1) (vv 2) (λ_ _=>rfl)) (ac (vv 2) (ac eV (a2 eV eV))))))) cX) (aH (aR (bE (ac (dI (cW t) (vv 1) (vv 2) (λ_ _=>rfl)) (ac (vv 2) (ac (cl x t (ac (vv 0) (a2 (vv 2) (vv 1)))) (a2 (cl o t (a2 (vv 0) (vv 2))) (cl y t (a2 (vv 0) (vv 2))))))))))),?_};{fa,F,d,nq,V,k,p,z,op,rfl,W,f,hp,nd,hz,kk}:=h;I:=nd;{kvs,X,nk}:=nd;{h1,h2}:=nk p hp;h1<-[hz];{_,O,_,O,?_};(by cases j:op p with|false|true=>?_);cj rfl ?_;{_,O,_,O,nq,kvs,.tup p,.str z,O,.inl X,f,h1,_,O,aI rfl,λeq J g4 r U=>kk J _ r {eq,k,_,_,_,O,U,f.af r.af,do@Fo;[j];.aV,do@Ep;[j];.aV,do@DC;[j];.aV}};bX rfl ?_;{_,O,_,O,nq,kvs,.tup p,.str z,O,.inl X,f,h1,_,O,_,O,_,O,_,O,fa,F,d,k,p,nq,V,O,W,f,hp,I,λH1 rq B g1 e1=>?_};{xs,ms,ns,fs}:=(W.same B).fs;{_,O,_,O,fa,F,d.S,d.n,d.M,d.m,d.N,d.q,xs,ms,ns,k,p,O,fs,f.af B.af,hp.lay,λH2 nq2 zs2 s2 g2 e2 R=>?_};G:=B.trans s2;{_,O,_,O,fa,k,p,d.L,d.a,d.C,d.b,O,(W.same G).tb,f.af G.af,hp.lay,λZ tq rp cp wp zr zc ws s3 Y e3 fr fc fw nrc nrw ncw er ec ew ar ac aw wn wd=>?_};{aI rfl,λeq J g4 r U=>?_};e:=s3.trans r;c:=s2.trans e;kk J _ (B.trans c) {eq,k,_,_,_,O,U,f.af (B.trans c).af,do@Fo;[j];e1.same c,do@Ep;[j];.lst (aD.of (e _ _ e2)) (R.af e.af).dv,?_};@DC;[j];DV.same r (.tup (aS.of e3) (.cons (.lst (aD.of er) (pV (P:=NM (cR d.L) Z) (D:=λi=>tD (cR d.L i)) (λv i g=>(bC g).dv) ar)) (.cons (.lst (aD.of ec) (pV (P:=NM (cR d.L) Z) (D:=λi=>tD (cR d.L i)) (λv i g=>(bC g).dv) ac)) (.cons (.lst (aD.of ew) (pV (D:=Lm d p) (λv i g=>?_) aw)) .nil))));{a,rfl,_,Y}:=g;.lst (aD.of Y) (MO _)
def E9(T:Txt K mg tk)(F:Rt K mg "document" pL)(D:zU P w K mg base)(G:AR P w K mg base):Ac P w K mg base:=do B0 F CV (λ_ _ _ _ _ _ _ u l=>match u,l with|[_,_,_],_=>{_,O,O}) (λ_ _ _ _ _ _ _ u l=>match u,l with|[_,_],_=>{_,O,O}) {} λfa cdv A outer s H vs Q E R h=>?_;{_,(ax (sn CV.nd 3 (cl G R (ac (vc 0) (a2 (vv 1) (vv 2))))) (ax (sm CV.nd 4 (cy (gZ R.hd (rR R)) T.c6 boot_dict (a1 (jC (own:=["part","number","is_open"]) (fr:=[]) rfl (il (vv 3)) {O,∅,∅} (jE ∅) (λ_ _ _=>(lB (n:=3) rfl (dD (cZ (i:=0) (do¬List.Nodup (["part","number","is_open"]:List UK);by decide +kernel) rfl (Or.inl rfl)) (dD (cZ (i:=1) (do¬List.Nodup (["part","number","is_open"]:List UK);by decide +kernel) rfl (Or.inl rfl)) (dD (cZ (i:=2) (do¬List.Nodup (["part","number","is_open"]:List UK);by decide +kernel) rfl (Or.inl rfl)) kY))))) (λ_=>K7 rfl rfl rfl ⋯ ⋯ ⋯) (λ_ _ _=>ee) (λ_ _ _=>(bE (a2 (vv 0) (vv 1)))))))) (aH (aR (jC (own:=["part","number","is_open"]) (fr:=[("facts",0),("numbers",4)]) rfl (il (vv 3)) {O,∅,∅} (mU (ah pL) ["facts","roll","hand","told","numbers"] rfl rfl (λ_ h=>g_ h) ∅ ∅ ∅) (λ_ _ _=>(lB (n:=3) rfl (dD (cZ (i:=0) (do¬List.Nodup (["part","number","is_open","facts","numbers"]:List UK);by decide +kernel) rfl (Or.inl rfl)) (dD (cZ (i:=1) (do¬List.Nodup (["part","number","is_open","facts","numbers"]:List UK);by decide +kernel) rfl (Or.inl rfl)) (dD (cZ (i:=2) (do¬List.Nodup (["part","number","is_open","facts","numbers"]:List UK);by decide +kernel) rfl (Or.inl rfl)) kY))))) (λ_=>K7 rfl rfl rfl ⋯ ⋯ ⋯) (λ_ _ _=>ee) (λ_ _ _=>(cl D R (ac (vc 3) (ac (vc 4) (a2 (vv 0) (vv 2))))))))))),?_};{fa,F,x,r,h,rfl,f6,er,tt,ma,kk}:=h;{_,O,_,O,_,O,fa,F,x,r,h,O,f6,er,tt,ma,λH1 q ts f s1 t1 g1 e1 C hnu l1 Z=>?_};l2:=C.1;{_,O,q,O,{_,aD.of e1},cK (xs:=ts) (mZ ()) (λj us H'=>ag H1 H'/\∃kvs:List 68,cw H' us kvs/\AL (λe x=>e.1=.tup x.1/\e.2.2=.str x.2) kvs (f.take j)) {ag.refl _,[],trivial,.nil} (λ_ _ H' s'=>aD.of (s'.1 _ _ e1)) (λj x us H' K1 Y k s' k1 k0=>?_) λH3 up us s' hu3 huq=>?_};{s',kvs,U,I}:=s';{t,S,tn}:=C.at k;{b,M,rfl,h1,h2,h3,h4}:=tn.af s'.af;{b,_,O,aS.of h1,O,_,_,O,_,_,O,_,_,O,O,?_};eA (B:=Y H') ?_;{_,O,_,O,aI rfl,λtq H4 g4 m e4=>k1 _ _ {s'.trans m,kvs++[(.tup t.1,M,.str t.2)],cw.snoc (e:=(.tup t.1,M,.str t.2)) {tq,O,e4,h2.af m.af} (U.af m.af),?_}};[qy,S];I.snoc {O,O};{s3,kvs,U,I}:=s';n3:ag H3 (upd H3 up (.lst us)):=ag.new huq;I<-[C.1,zd];{up,us,kvs,O,aD.of aF,U.af n3.af,(),λdq H5 g5 s5 e5=>?_};c:=(s3.trans n3).trans s5;W:(kvs.map (·.1)).Nodup:=(do[uF (g:=λx:List Key×UK=>KD.tup x.1) I λe x p=>p.1];z9.mpr (List.Pairwise.imp (λh z=>h (KD.tup.inj z)) (z9.mp Z)));e5<-[mH _ [] (do[we];W),we];nk:=Ik I;nl:∀x∈f,Pn x.1/\x.2.length<=1000:=λx k=>(do _;{_,_,_,_,_,_,_,a,b}:=C.ux k;{a,b});nd5:oC H5 dq (eH f):={_,e5,λp _=>{nk p,λz h=>do _;{x,k,rfl}:=wu.mp h;(nl x (mz k)).2}};X:=(f6.fz.kp λb o e h=>bV tt s1 e h).same c;J:=c _ _ e1;{_,O,q,O,{_,aD.of J},cK (xs:=ts) (mZ ()) (λj us H'=>ag H5 H'/\AL (EN x.d (p6 x h) (eH f) H') us (f.take j)) {ag.refl _,.nil} (λ_ _ H' s'=>aD.of (s'.1 _ _ J)) (λj y us H' K1 Y k s' k1 k0=>?_) λH9 rq us s' hu hrq=>?_};{s',N}:=s';{t,S,tn}:=C.at k;tm:=qu S;{b,M,rfl,h1,h2,h3,h4}:=tn.af (c.trans s').af;{b,_,O,aS.of h1,O,_,_,O,_,_,O,_,_,O,O,?_};eA (B:=Y H') ?_;{_,O,_,O,_,O,_,O,fa,F,x.d,dq,eH f,M,t.1,t.2,p6 x h,O,X.same s',h2,h3,nd5.same s',IW Z tm,λH4 v m ez=>k1 _ _ {s'.trans m,?_}};[qy,S,kh];(N.imp λv e g=>EN.same g m).snoc ez;{s9,N}:=s';n9:ag H9 (upd H9 rq (.lst us)):=ag.new hrq;N<-[C.1,zd];L:=c.trans s9;kk _ rq us f (s1.trans (L.trans n9)) (t1.same (L.trans n9)) aF hnu l1 Z nl (N.imp λv e g=>EN.same g n9)
def FE(T:Txt K mg tk)(F:D5 K "law" "law" iu fa fd)(J:z_ P w K mg base)(M:zZ P w K mg base)(c:Ac P w K mg base):h9 P w K mg base i8 12 fa fd ["_law_script"] ib:=do F.ok uD {} λcdv A outer s H vs Q E p h=>?_;{_,(ax (sn uD.nd 1 (bQ (a2 aN aN))) (ax (sn uD.nd 2 (cl J p (a2 (vv 0) (vv 1)))) (ax (sn uD.nd 3 (cl M p (a1 (vv 2)))) (ax (fo (il (bQ (ac eV (a2 aN aN)))) (gn uD.nd 4) (aH (bS (ck (vR p) (cl c.b p (ac (vv 2) (a2 (vv 1) (vv 4)))) (cl c.b p (ac (vv 3) (a2 (vv 1) (vv 4))))) (aH (aR dF)) cX))) (aH (aR dF)))))),?_};{sp,ns,rfl,hs,hn,tt,ma,kk}:=h;{aI rfl,λr H1 g1 s1 e1=>?_};{_,O,_,O,sp,ns,r,O,hs.same s1,hn,e1,λH2 fa F x s2 l=>?_};B:=s1.trans s2;W:=l.fz.xw;N:=tt.same B;u:=B _ _ ma;er2:=s2 _ _ e1;{_,O,fa,F,x,O,l,N,u,λS fb G ls s3 t3 ⟨zs,g,hd,hl⟩ f63=>?_};k3:∀b o,H2 b=!o->(∀ps,o≠.cn ps)->S b=!o:=λb o e h=>bV N s3 e h;f3:=l.kp k3;er3:=k3 _ _ er2 λ_ z=>nomatch z;X:MA S:=k3 _ _ u λ_ z=>nomatch z;{aI rfl,λlq H4 g4 s4 e4=>?_};{lq,O,{_,aD.of e4},bH (xs:=[.aV,.str "ann",.str "bo"]) (λj σ Z=>∃u5,Sj (σ=[!(.ref sp),!(.ref r),!(.ref fa),!(.ref fb),u5]) (∀b o,H4 b=!o->(∀ps,o≠.cn ps)->Z b=!o) (eJ Z)) {none,O,λ_ _ e _=>e,t3.same s4} (λj σ Z _ ⟨_,_,k,_⟩=>aD.of (k _ _ e4 λ_ z=>nomatch z)) ?_ ?_};(j,y,σ,Z,hy,{u5,rfl,kZ,tZ},Nx,hNx);{h,rfl}:∃h,y=hV h:=(by match j,hy with| 0,h=>exact{none,do-h;2}| 1,h=>exact{!"ann",do-h;2}| 2,h=>exact{!"bo",do-h;2}|_+3,h=>cases h);a:∀b o,S b=!o->(∀ps,o≠.cn ps)->Z b=!o:=λb o e=>kZ _ _ (s4 _ _ e);C:=a _ _ er3 λ_ z=>nomatch z;I:MA Z:=a _ _ X λ_ z=>nomatch z;{_,O,_,O,_,O,fa,F,x,r,h,O,f3.kp a,C,tZ,I,λZ5 q es U s5 t5 e5 i l5 nd5 nl5 al5=>?_};V:∀b o,Z b=!o->(∀ps,o≠.cn ps)->Z5 b=!o:=λb o e h=>bV tZ s5 e h;Y:∀b o,S b=!o->(∀ps,o≠.cn ps)->Z5 b=!o:=λb o e h=>V _ _ (a _ _ e h) h;{_,O,_,O,_,O,fb,G,GZ x (cD ls),r,h,O,f63.kp Y,V _ _ C (λ_ z=>nomatch z),t5,V _ _ I (λ_ z=>nomatch z),λZ6 q6 es6 nu6 s6 t6 e6 f l6 nd6 nl6 t=>?_};k6:∀b o,Z5 b=!o->(∀ps,o≠.cn ps)->Z6 b=!o:=λb o e h=>bV t5 s6 e h;(by rw[Gz l.ls]at f t;obtain rfl:=i.T5 W f);m:=i.ok W;dv5:=pV (H:=Z6) (D:=rH x.d (p6 x h) (eH U)) (λv e g=>EN.dv g) (al5.imp λv e g=>EN.kp g k6);L:=pV (H:=Z6) (D:=rH (GZ x (cD ls)).d (p6 x h) (eH U)) (λv e g=>EN.dv g) t;L<-[F1 l (i.seen W hd hl)];R:mY 7 (.list (U.map (rH x.d (p6 x h) (eH U)))):=jX λd hd=>(do _;{e,he,rfl}:=qc.mp hd;l.fz.Rj _ (Qb m) (nl5 e he).1 (m e he));{_,_,.lst (aD.of (k6 _ _ e5 λ_ z=>nomatch z)) dv5,.lst (aD.of e6) L,R.1,R.1,qf (je _ _) (qf R.2 ⋯),_,O,bX (Ca rfl R.1) (hNx _ _ {_,O,λb o e n=>k6 _ _ (V _ _ (kZ _ _ e n) n) n,t6})};(σ,Z,{u5,rfl,kZ,tZ});kk Z
end
def all_mk{l:PySem.W.OpenLaw}{w:World}{K:PySem.W.Frag}{h:Heap}{mg:UK->Option MD}{fa:UJ}(X:K.In h)(G:h.Ns mainGlobals mg)(hfa:mg "law"=!(.ref fa))(p:PySem.W.nsIn K mainGlobals "dict"=!none)(f:PySem.W.nsIn K mainGlobals "enumerate"=!none)(E:PySem.W.nsIn K mainGlobals "int"=!none)(d:PySem.W.nsIn K mainGlobals "isinstance"=!none)(F:PySem.W.nsIn K mainGlobals "len"=!none)(u:PySem.W.nsIn K mainGlobals "list"=!none)(D:PySem.W.nsIn K mainGlobals "max"=!none)(n:PySem.W.nsIn K mainGlobals "range"=!none)(k:PySem.W.nsIn K mainGlobals "sorted"=!none)(H:PySem.W.nsIn K mainGlobals "str"=!none)(z:PySem.W.nsIn K mainGlobals "MAIN"=!(!(.ref cB)))(z_fAu:FX K "birth_chain" vC)(z_fAs:FX K "told_leaves" sj)(z_fAn:FX K "key_of_leave" su)(z_fCc:FX K "is_let" vB)(I:FX K "has_leave" uS)(z_fAk:FX K "key_of_place" sy)(z_fAm:FX K "followers_of" tO)(U:FX K "ordered" sM)(z_fBq:FX K "signs_in" lS)(Y:FX K "row_of" t_)(z_fCb:FX K "living" oE)(z_fAi:FX K "place_of_side" uy)(z_fBy:FX K "stretch" r_)(z_fBo:FX K "seats_in" uu)(z_fBw:FX K "covered" uT)(z_fAy:FX K "key_of_mark" sV)(z_fAg:FX K "telling_in_row" mS)(z_fAh:FX K "told_of_signs" jK)(z_fBu:FX K "marks_of" uk)(z_fAq:FX K "key_of_note" uQ)(z_fBs:FX K "notes_of" jS)(z_fAd:FX K "telling_places" mQ)(z_fBz:FX K "way_out" vA)(c:oD K "greatest_place"=bD)(z_fAf:FL K "greatest_place" sF bD)(z_fBi:FX K "turned_in" uw)(z_fBt:FX K "stood_in" tP)(z_fAj:FX K "reaching_main" uY)(z_fBm:FX K "stands_in" oF)(z_fAx:FX K "shown_among" lL)(z_fAz:FX K "shown_parts" uh)(a:oD K "all_inner_parts"=bA)(z_fAa:FL K "all_inner_parts" u_ bA)(z_fBp:FX K "lines_of" jY)(z_fAw:FX K "key_of_cell" uL)(z_fBa:FX K "words_told" mL)(z_fBn:FX K "table_of" oV)(M:FX K "may_read" pf)(z_fAl:FX K "inner_number" tj)(z_fAe:FX K "numbered_parts" pF)(z_fAp:FX K "text_of_sign" uC)(z_fBk:FX K "shown_row" jM)(z_fCd:FX K "entry" sN)(z_fBr:NQ K "document" pL)(z_fAo:FX K "_law_cell_at" uq)(z_fBd:FX K "_law_drawn" sP)(S:FX K "_law_draw" uA)(z_fBe:FX K "_law_parts" oN)(z_fBf:FX K "_law_sign" sJ)(z_fBb:FX K "_law_signs" pA)(z_fBh:FX K "_law_side" rZ)(J:FX K "_law_stretches" pH)(z_fAt:FX K "_law_tables" oM)(z_fAr:FX K "_law_leaves" pN)(z_fBc:FX K "_law_facts" oP)(z_fAv:FX K "_law_covers" oQ)(z_fAb:FX K "_law_last_leave" lO)(z_fBg:FX K "_law_less" gN)(z_fCe:FX K "law" iu) : ∃fd:FuncData,(∀(s:UH) (v:MD),BindsTo s fd {[v],[]} [("_law_script",v)])/\∀base:Heap,K.In base->base.Ns mainGlobals mg->(∀t∈RJ,base.BuiltinsAt mg (oD K t))->h9 l.prog w K mg base i8 12 fa fd ["_law_script"] ib:=do T:Txt K mg (λx=>0):={PySem.W.mg_none_of X G p,PySem.W.mg_none_of X G f,PySem.W.mg_none_of X G E,PySem.W.mg_none_of X G d,PySem.W.mg_none_of X G F,PySem.W.mg_none_of X G u,PySem.W.mg_none_of X G D,PySem.W.mg_none_of X G n,PySem.W.mg_none_of X G k,PySem.W.mg_none_of X G H,PySem.W.mg_of X G z};(by obtain @⟨_,_,an,_,_,kV,dc,pm,cd,ct,z1,z2,z3,z4⟩:=z_fCe);e:=hfa.symm.trans (PySem.W.mg_of X G z1);-e;{PySem.W.fnOf "law" "law" (cc iu) (bK iu) (ah iu) .none kV dc pm an cd ct,λs v=>.of_eq rfl,λbase _ _ hBs=>?_};r_fAu:=A8 l.prog w base T (z_fAu.fo X G);r_fAn:=EE l.prog w base T (z_fAn.fo X G);r_fAk:=Ek l.prog w base T (z_fAk.fo X G);y:=DN l.prog w base T (z_fBq.fo X G);r_fAi:=DQ l.prog w base T (z_fAi.fo X G);j:=GB l.prog w base T (z_fBo.fo X G);r_fAy:=EM l.prog w base T (z_fAy.fo X G);r_fAq:=Fb l.prog w base T (z_fAq.fo X G);C:=FR l.prog w base T (z_fAd.fo X G);r:=A7 l.prog w base T (z_fBz.fo X G);r_fAw:=D0 l.prog w base T (z_fAw.fo X G);r_fAl:=El l.prog w base T (z_fAl.fo X G);r_fAp:=Dl l.prog w base T (z_fAp.fo X G);r_fAo:=Bo l.prog w base T (z_fAo.fo X G);r_fBd:=BH l.prog w base T (z_fBd.fo X G);b:=GR l.prog w base T (S.fo X G);r_fAb:=BC l.prog w base T (z_fAb.fo X G);m:=Cq l.prog w base T (z_fBy.fo X G) r_fAi;o:=CK l.prog w base T (z_fAj.fo X G) r;r_fBe:=EJ l.prog w base T (z_fBe.fo X G) b;r_fBf:=By l.prog w base T (z_fBf.fo X G) b;r_fBh:=FT l.prog w base T (z_fBh.fo X G) b;r_fAt:=Dm l.prog w base T (z_fAt.fo X G) b;r_fAr:=Es l.prog w base T (z_fAr.fo X G) b;r_fAs:=Eo l.prog w base T (z_fAs.fo X G) r_fAn;r_fAm:=Gq l.prog w base T (z_fAm.fo X G) r_fAk;N:=Ej l.prog w base T (z_fAg.fo X G) r_fAy j m;r_fAf:=BU l.prog w base T (z_fAf.fo X G) (c▸hBs "greatest_place" (do 0));B:=GL l.prog w base T (z_fAx.fo X G) o;Q:=F2 l.prog w base T (z_fBa.fo X G) r_fAw;r_fBb:=Gx l.prog w base T (z_fBb.fo X G) b r_fBf;r_fAc:=Bx l.prog w base T (J.fo X G) b r_fBh;L:=EW l.prog w base T (z_fCc.fo X G) r_fAs;q:=EG l.prog w base T (U.fo X G) r_fAm;r_fBi:=Df l.prog w base T (z_fBi.fo X G) r_fAf r;r_fBc:=BR l.prog w base T (z_fBc.fo X G) r_fAo r_fBd r_fAr r_fBe r_fBb r_fAc r_fAt;O:=Gm l.prog w base T (I.fo X G) r_fAu L;g:=FF l.prog w base T (Y.fo X G) q y;r_fBt:=FN l.prog w base T (z_fBt.fo X G) r_fBi;R:=Cm l.prog w base T (z_fBp.fo X G) q;i:=BY l.prog w base T (z_fCb.fo X G) g y;r_fBw:=CM l.prog w base T (z_fBw.fo X G) g j m;A:=Fz l.prog w base T (z_fBm.fo X G) o r_fBt C;Z:=GV l.prog w base T (z_fBn.fo X G) R Q;r_fBv:=Gc l.prog w base T (M.fo X G) O;r_fAh:=Ck l.prog w base T (z_fAh.fo X G) i g j N;r_fBs:=Dv l.prog w base T (z_fBs.fo X G) r_fAq i g j m;r_fAz:=D2 l.prog w base T (z_fAz.fo X G) B A;V:=DL l.prog w base T (z_fAa.fo X G) (a▸hBs "all_inner_parts" (do 0)) B A C;r_fAv:=BZ l.prog w base T (z_fAv.fo X G) r_fBw i;r_fBu:=Dg l.prog w base T (z_fBu.fo X G) r_fAh;r_fAe:=DF l.prog w base T (z_fAe.fo X G) V r_fAl r_fBv;r_fBg:=Dz l.prog w base T (z_fBg.fo X G) r_fAv r_fAb r_fAz;r_fBk:=EA l.prog w base T (z_fBk.fo X G) i r_fBu r_fAp;r_fCd:=FP l.prog w base T (z_fCd.fo X G) r_fBs r_fBk Z;r_fBr:=E9 l.prog w base T (z_fBr.fo X G) r_fCd r_fAe;FE l.prog w base T (Hi (st:=iu) z2 z3 z4) r_fBc r_fBg r_fBr
end My
end
namespace PySem.W.Fast
def tw17573264796290034688:=0
def tw12682045876203774336:=0
def tw69096745666985600:=0
def tw6506658655266890400:=0
def tw564286733150867168:=0
def tw13567831977422403392:=0
def tw10095831478901277664:=0
def tw15379502314272367009:=0
def tw6180017001814702657:=0
def tw16791363518608688001:=0
def tw17903371708986084321:=0
def tw4342371859443225602:=0
def tw15744622287540613282:=0
def tw5031398531865263330:=0
def tw15134186182639828258:=0
def tw3822887180001463714:=0
def tw13449531266327500322:=0
def tw14783930058847895170:=0
def tw1560246937085355842:=0
def tw17984190791681570722:=0
def tw6643873566538977250:=0
def tw11394734664792258755:=0
def tw7590014279785620739:=0
def tw16057143467930068355:=0
def tw3561397667390276195:=0
def tw4223140667072040675:=0
def tw6593292818642404099:=0
def tw13965033436862294116:=0
def tw10303720563938375844:=0
def tw4179617827838437381:=0
def tw823033157461388645:=0
def tw393028900241511813:=0
def tw5265323968393485957:=0
def tw17844240832479429285:=0
def tw11945492807544711109:=0
def tw15441529387354740774:=0
def tw10201953430379841766:=0
def tw16806541886096656838:=0
def tw15288900329698928262:=0
def tw15726564453666111142:=0
def tw3875813175258800838:=0
def tw17346658853351314150:=0
def tw8390376869699009414:=0
def tw17544796586346828359:=0
def tw8729644274690873927:=0
def tw14282177431745926887:=0
def tw6873168568189983784:=0
def tw3715151967559814920:=0
def tw10308301731699227592:=0
def tw4451642428641501321:=0
def tw4524823419114885257:=0
def tw5217340147914833129:=0
def tw6918413662495938825:=0
def tw1629511644360627817:=0
def tw2108181226040482473:=0
def tw13371464802121014953:=0
def tw9551105701393796841:=0
def tw12148883905842135050:=0
def tw17864784471550127210:=0
def tw16904364470726866282:=0
def tw14997144645258930634:=0
def tw13076745679655755210:=0
def tw9064559699879553514:=0
def tw3671944359296019946:=0
def tw8208282973189544522:=0
def tw11939430842413387370:=0
def tw15421521465611222666:=0
def tw1597961910014483146:=0
def tw5277421298009779946:=0
def tw17221068860719964042:=0
def tw3786443488121720810:=0
def tw8407780168525400042:=0
def tw14097831694584537355:=0
def tw10662508355346910667:=0
def tw12860152037896845771:=0
def tw17380451994946761195:=0
def tw2621518292893303307:=0
def tw4715202972083698187:=0
def tw13622862102001395211:=0
def tw4663531546730427979:=0
def tw3804046906990278251:=0
def tw12091190190319144587:=0
def tw16254606998130441963:=0
def tw7064428791754249963:=0
def tw1274647385710142283:=0
def tw7813505539390423883:=0
def tw11901397859557400812:=0
def tw126448035622648268:=0
def tw2794116640143683084:=0
def tw2915037655858688876:=0
def tw8045216058455416812:=0
def tw12843884508610705453:=0
def tw10172159187997468813:=0
def tw10386141388881489101:=0
def tw17758389434606473421:=0
def tw10471731013205109101:=0
def tw10699246162941957581:=0
def tw11173441632029546989:=0
def tw18082278978180893261:=0
def tw10398208869000473197:=0
def tw10364055569964219277:=0
def tw11705236655968845070:=0
def tw5240899790696227310:=0
def tw9078716309472693742:=0
def tw15028396247816587950:=0
def tw216379869979692750:=0
def tw3444820546543137550:=0
def tw7619741194790656910:=0
def tw7338569896698172911:=0
def tw13869771020553741807:=0
def tw14988535839432192879:=0
def tw3532146835242020847:=0
def tw9902419394490071056:=0
def tw3002234405375743440:=0
def tw4988977130766700016:=0
def tw8309934617303149168:=0
def tw11928323403888311952:=0
def tw11822105615215634096:=0
def tw6880605791058433840:=0
def tw14770434462425120817:=0
def tw11942046108099934321:=0
def tw3924531347599462833:=0
def tw15131280151537585681:=0
def tw654616310768094929:=0
def tw12301170548594146097:=0
def tw12141412796835148625:=0
def tw9426114846809675665:=0
def tw10588585382828023729:=0
def tw5358188585735368625:=0
def tw10896780032771174450:=0
def tw9399621661278152818:=0
def tw1579029133230722418:=0
def tw5187076051355249202:=0
def tw17007051338166443666:=0
def tw12478765575800732594:=0
def tw9703641019106872274:=0
def tw14196374031188513778:=0
def tw7825073995179810163:=0
def tw13899918900536107699:=0
def tw11743455895795463987:=0
def tw239125738353127251:=0
def tw1310514242386305939:=0
def tw5490263207673044116:=0
def tw4785510578502406324:=0
def tw8590598510865288564:=0
def tw3683121796962890196:=0
def tw11131272132278996500:=0
def tw6404306761112314772:=0
def tw1650191163032128597:=0
def tw12563707296814095477:=0
def tw1727047535262141557:=0
def tw10251869262234097877:=0
def tw13935784118304098549:=0
def tw6134089966885249333:=0
def tw2025997592251787861:=0
def tw6949272529929160309:=0
def tw15643480597627038357:=0
def tw3580731538505420597:=0
def tw15756690742532171637:=0
def tw7797309985341409366:=0
def tw11451666801665422550:=0
def tw8321123887691781366:=0
def tw222802842913068630:=0
def tw8965740327822566006:=0
def tw3851302741119428214:=0
def tw14860719153117858454:=0
def tw1357217189411866326:=0
def tw5828122275825850134:=0
def tw2925342159319453654:=0
def tw17100831699551043735:=0
def tw5166310754071246999:=0
def tw17969301517616116023:=0
def tw3271692912156758359:=0
def tw2336566261805680055:=0
def tw15008482366718819831:=0
def tw4094317165760377367:=0
def tw2907442267491602231:=0
def tw17415601060539465687:=0
def tw16158092990844458999:=0
def tw13848320662491526135:=0
def tw16096652671826830360:=0
def tw3903912225021718648:=0
def tw15594995850323292376:=0
def tw9112286833393073560:=0
def tw6693842674444896760:=0
def tw898471050977606168:=0
def tw7882731126554094168:=0
def tw11462870775322127960:=0
def tw13544576011238900344:=0
def tw13604214449064890008:=0
def tw371085269389025976:=0
def tw13896638097364417240:=0
def tw10785487552051649336:=0
def tw7042157010303255384:=0
def tw9017334969609446296:=0
def tw6328819519562588088:=0
def tw3208130526558326776:=0
def tw7331640678652393497:=0
def tw2026585565647154361:=0
def tw1436226018891178297:=0
def tw4328193456023418265:=0
def tw8774288217218087545:=0
def tw12818933121641527065:=0
def tw17302658019740447513:=0
def tw7177364329106781242:=0
def tw17260422125553927258:=0
def tw434488949313076378:=0
def tw7187211964146849050:=0
def tw8675274131892901210:=0
def tw17254913370885043706:=0
def tw11227920437167867546:=0
def tw8421499990322037466:=0
def tw775275503255932826:=0
def tw15199010353612613883:=0
def tw4493072856636436795:=0
def tw7737097171801649627:=0
def tw4977618563868977915:=0
def tw6372235443368741787:=0
def tw5180653908696312956:=0
def tw11884067285952091260:=0
def tw17677650271222499612:=0
def tw8724200038619912508:=0
def tw17935172246996923868:=0
def tw1283062438260574812:=0
def tw13163011721870511772:=0
def tw5499903363234043580:=0
def tw14487161819131448156:=0
def tw12162395521989368700:=0
def tw2306809505469792285:=0
def tw10523513257498440733:=0
def tw10524518464804510813:=0
def tw7446053987128624285:=0
def tw12271925682447693149:=0
def tw9226248108028375485:=0
def tw7854488658634900957:=0
def tw12373860899276345917:=0
def tw6379074548586677853:=0
def tw13814294270858188509:=0
def tw7956264890852190045:=0
def tw10364842993533885341:=0
def tw10746483914433417374:=0
def tw3560073896583077150:=0
def tw17429843071015987934:=0
def tw17240875838539775103:=0
def tw13380923812928316639:=0
def tw1343796071841430047:=0
def tw6507840928209794687:=0
def tw18278642230114471839:=0
def tw6199460057066781695:=0
def tw16274780470444862160:=0
end PySem.W.Fast
open PySem PySem.W PyProof.Rows
set_option maxRecDepth 100000 in
set_option maxHeartbeats 0 in
theorem PySem.Challenge.cw_pagefolk_k48_whole_hidden_facts_tell_not_holds : PySem.Challenge.rw_pagefolk_k48_whole_hidden_facts_tell_not.Holds := by
 w_on;o_law;k_head;(case hw=>w_witness2)
 k_fill
 refine L2.uW (l:=PySem.Challenge.rw_pagefolk_k48_whole_hidden_facts_tell_not) (n:=63) (k:=12) (x:="_law_script") (CX:=L2.i8) (sp:=My.ib) (Ps:=[My.bD,My.bA]) My.RJ My.MS My.Tt rfl (by decide) rfl ⟨rfl,by decide,by decide,rfl⟩ (fun w h Y=>PySem.W.km_in_of Y) (fun w h Y=>PySem.W.km_tabs_of Y) ?hC ?hnt ?hnl ?htb ?htp ?hms (by decide) ?F My.ri (fun _ _ _ _ z=>z)
 case hC=>exact fun w=>List.forall_mem_cons.mpr ⟨⟨"greatest_place",by simp,by kernel_rfl⟩,List.forall_mem_cons.mpr ⟨⟨"all_inner_parts",by simp,by kernel_rfl⟩,fun _ h=>nomatch h⟩⟩
 case htb=>(intro w;exact ki.mpr ⟨by kernel_rfl,ki.mpr ⟨by kernel_rfl,fun _ h=>nomatch h⟩⟩)
 case htp=>(intro w;exact ki.mpr ⟨(by refine uf ?_;kernel_rfl),ki.mpr ⟨(by refine uf ?_;kernel_rfl),fun _ h=>nomatch h⟩⟩)
 case hms=>(intro w;kernel_rfl)
 case hnt=>(intro w;kernel_rfl)
 case hnl=>(intro w;kernel_rfl)
 case F =>
  intro w mg fa h KX G hmg;refine' My.all_mk KX G hmg ?_ ?_ ?_ ?_ ?_ ?_ ?_ ?_ ?_ ?_ ?_ ?_ ?_ ?_ ?_ ?_ ?_ ?_ ?_ ?_ ?_ ?_ ?_ ?_ ?_ ?_ ?_ ?_ ?_ ?_ ?_ ?_ ?_ ?_ ?_ ?_ ?_ ?_ ?_ ?_ ?_ ?_ ?_ ?_ ?_ ?_ ?_ ?_ ?_ ?_ ?_ ?_ ?_ ?_ ?_ ?_ ?_ ?_ ?_ ?_ ?_ ?_ ?_ ?_ ?_ ?_ ?_ ?_ ?_ ?_
  all_goals try first|k_is|(refine' L2.FX.mk ?z1 ?z2 ?z3 ?z4;(case z1=>k_is);(case z2=>k_is);(case z3=>k_is);(case z4=>k_is))|(refine' L2.MD.mk ?z1 ?z2;(case z1=>k_is);(case z2=>kernel_rfl))|kernel_rfl|(refine' L2.NQ.mk ?z1 ?z2 ?z3 ?z4 ?z5;(case z1=>k_is);(case z2=>k_is);(case z3=>k_is);(case z4=>k_is);(case z5=>k_is))|(refine' L2.FL.mk ?z1 ?z2 ?z3 ?z4 ?z5;(case z1=>k_is);(case z2=>k_is);(case z3=>k_is);(case z4=>k_is);(case z5=>kernel_rfl))