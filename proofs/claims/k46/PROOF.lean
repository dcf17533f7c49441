import PyProof.Rows.All
import Wide.All
import OpenK.AllK
import Wide.FinOn
import Lean
import PyProof.EqAt
import PyProof.EqKinds
import PyProof.TupleCall
import KE.KSortTup
import KE.KDictOf
import PyProof.AttrMissHeap
import KE.KSortKey
import KE.KNestM
import KE.KLam
import KE.KEqDict
import KE.KBoundM
import KE.KSuperObj
import PySem.Challenge.RW_pagefolk_k46_closed_to_a_hand
set_option Elab.async false
set_option linter.all false
set_option maxRecDepth 100000
section
set_option compiler.extract_closed false
local macro_rules|`(())=>`(by first|lia|omega)
local macro_rules|`(∅)=>`(by decide +kernel)
local macro_rules|`(⋯)=>`(by decide)
local macro_rules(kind:=«term{}»)|`({})=>`(fun _ _ _ _ h=>by cases h;subst_vars;first|rfl|grind)
local macro_rules(kind:=«term{_}»)|`({$x,*})=>`(⟨$x,*⟩)
local macro_rules|`(↑$x)=>`(($x).heap.objs.size)
local macro_rules|`(!$x)=>`(some $x)
local macro_rules|`(tactic|ac_nf at $h:ident)=>`(tactic|simp only[List.mem_cons,List.not_mem_nil,or_false]at $h:ident)
set_option hygiene false
section
open Lean
def M0z(k:Name)(a:Array Syntax):Syntax:=.node .none (`Lean.Parser.Tactic++k) a
def M1z(a:Array Syntax):Syntax:=.node .none nullKind a
def M2z(a:Array Syntax)(s:String):=M1z (mkSepArray a (mkAtom s))
def M3z(a:Array Syntax):=M0z `rcasesPatLo #[M0z `rcasesPatMed #[M2z a "|"],M1z #[]]
def M4z:Nat->Syntax->Array Syntax
|0,_=>#[]
|n+1,s=>
 let s:=if s.isOfKind `choice then s[0] else s
 let t:=fun a=>#[M0z `rcasesPat.tuple #[mkAtom "⟨",a,mkAtom "⟩"]]
 match s.getKind with
 |`«term_||_»=>M4z n s[0]++M4z n s[2]
 |`«term{_}»=>t (M2z (s[1].getSepArgs.map fun x=>M3z (M4z n x)) ",")
 |`«term{}»=>t (M1z #[])
 |`Lean.Parser.Term.paren=>#[M0z `rcasesPat.paren #[mkAtom "(",M3z (M4z n s[1]),mkAtom ")"]]
 |_=>if s.isIdent then #[M0z `rcasesPat.one #[s]] else #[M0z `rcasesPat.ignore #[mkAtom "_"]]
def M5z(s:Syntax):Bool:=let s:=if s.isOfKind `choice then s[0] else s
 s.isIdent||[`Lean.Parser.Term.hole,`«term{_}»,`«term{}»,`«term_||_»].contains s.getKind
def M6z(s:Syntax)(o:Option Syntax):MacroM (Array Syntax):=do
 let e:=M1z #[]
 let l:=match o with|none=>e|some h=>M1z #[M0z `location #[mkAtom "at",M0z `locationHyp #[M1z #[h],e]]]
 let c:=M0z `optConfig #[e]
 let a:Syntax->Array Syntax:=fun x=>if x.isOfKind `Lean.Parser.Term.nestedAction then #[M1z #[mkAtom "←"],x[1][0]] else #[e,x]
 let m:Array Syntax->Bool->Array Syntax:=fun x b=>#[M0z `simp #[mkAtom "simp",c,e,if b then M1z #[mkAtom "only"] else e,if x.isEmpty then e else M1z #[mkAtom "[",M2z (x.map fun y=>M0z `simpLemma (#[e]++a y)) ",",mkAtom "]"],l]]
 let s:=if s.isOfKind `Lean.Parser.Term.paren&&s[1].isOfKind `Lean.Parser.Term.byTactic then s[1] else s
 let t:Term:=⟨s⟩
 let x:Term:=⟨s[1]⟩
 let q:Ident:=⟨s[1]⟩
 let y:Term:=⟨s[2]⟩
 let v:=s[1].getSepArgs
 let i:Array Syntax->Array Syntax:=fun x=>#[M0z `rintro #[mkAtom "rintro",M1z (x.map fun y=>M0z `rintroPat.one #[let p:=M4z 9 y;if p.size==1 then p[0]! else M0z `rcasesPat.paren #[mkAtom "(",M3z p,mkAtom ")"]]),e]]
 match s.getKind with
 |`Lean.Parser.Term.hole=>return #[]
 |`Lean.Parser.Term.byTactic=>return s[1][0][0].getSepArgs
 |`«term[_]»=>return #[M0z `rwSeq #[mkAtom "rw",c,M0z `rwRuleSeq #[mkAtom "[",M2z (v.map fun x=>M0z `rwRule (a x)) ",",mkAtom "]"],l]]
 |`«term#[_,]»=>return if v[0]!.isOfKind `Lean.Parser.Term.hole then m (v.drop 1) true else m v false
 |`num=>match s.isNatLit?.getD 0,o with
  |0,_=>return m #[] false
  |_,some h=>let h:Ident:=⟨h⟩;return #[←`(tactic|simp only[List.mem_cons,List.not_mem_nil,or_false]at $h:ident)]
  |1,_=>return #[←`(tactic|constructor)]
  |2,_=>return #[←`(tactic|rfl)]
  |3,_=>return #[←`(tactic|split)]
  |4,_=>return #[←`(tactic|grind)]
  |5,_=>return #[←`(tactic|simp_all)]
  |_,_=>return #[←`(tactic|subst_vars)]
 |`«term-_»=>return #[←`(tactic|cases $x:term)]
 |`«term!_»=>return #[←`(tactic|subst $q)]
 |`«term¬_»=>return #[←`(tactic|show $x)]
 |`Lean.Parser.Term.explicit=>return #[←`(tactic|unfold $q)]
 |`«term_<|_»=>if s[0].isIdent then let x:Ident:=⟨s[0]⟩;return #[←`(tactic|by_cases $x:ident:$y)] else return #[←`(tactic|simpa using $y)]
 |`Lean.Parser.Term.tuple=>if s[1].getNumArgs==0 then return #[←`(tactic|first|lia|omega)] else return i (#[s[1][0]]++s[1][2].getSepArgs)
 |`Lean.Parser.Term.paren=>if M5z s[1] then return i #[s[1]] else return #[←`(tactic|refine $x)]
 |_=>return #[←`(tactic|refine $t)]
end
local macro_rules|`(do $s)=>do
 if not (s.raw.isOfKind `Lean.Parser.Term.doSeqIndent) then Lean.Macro.throwUnsupported
 let mut t:=#[]
 for e in s.raw[0].getArgs do
  let d:=e[0][0]
  match e[0].getKind with
  |`Lean.Parser.Term.doExpr=>t:=t++(←M6z d none)
  |`Lean.Parser.Term.doReassignArrow=>t:=t++(←M6z d[3][0] (some d[0]))
  |`Lean.Parser.Term.doReassign=>
   t:=t.push (if d.isOfKind `Lean.Parser.Term.letPatDecl then M0z `obtain #[Lean.mkAtom "obtain",M1z #[(M3z (M4z 9 d[0]))[0]],if d[2].isNone then d[2] else M1z #[Lean.mkAtom ":",d[2][0][1]],M1z #[Lean.mkAtom ":=",M1z #[d[4]]]] else M0z `tacticHave__ #[Lean.mkAtom "have",Lean.mkNode `Lean.Parser.Term.letConfig #[M1z #[]],Lean.mkNode `Lean.Parser.Term.letDecl #[Lean.mkNode `Lean.Parser.Term.letIdDecl d.getArgs]])
  |_=>Lean.Macro.throwUnsupported
 let r:Array (Lean.TSyntax `tactic):=t.map (fun x=>⟨x⟩)
 `(by $r;*)
def az10(_:True:=by exact rfl):=trivial
def z10:=az10._auto_1
def az11(_:True:=by rfl):=trivial
def z11:=az11._auto_1
def az12(_:True:=by decide):=trivial
def z12:=az12._auto_1
def az13(_:True:=by exact λ_=>rfl):=trivial
def z13:=az13._auto_1
def az14(_:True:=by first|exact .inl rfl|exact .inr rfl|assumption):=trivial
def z14:=az14._auto_1
def az15(_:True:=by intro _;rfl):=trivial
def z15:=az15._auto_1
def az16(_:True:=by decide +kernel):=trivial
def z16:=az16._auto_1
def az17(_:True:=by exact λ_ _=>rfl):=trivial
def z17:=az17._auto_1
def az18(_:True:=by exact{O,∅,∅}):=trivial
def z18:=az18._auto_1
local macro_rules|`(48)=>`((model X.prog X.w))|`(65)=>`({O,O,O,∅,O,∅,∅})|`(66)=>`((model prog w))|`(67)=>`((KD×V×V))|`(68)=>`((aH S n pt))|`(69)=>`((.dG kvs))
abbrev KE:=PySem.Value->PySem.Shared->Prop
abbrev MD:=PySem.Value
abbrev Tj:=PySem.Shared
abbrev Tn:=PySem.PyData
abbrev To:=PySem.Addr
abbrev Tp:=PySem.Str
def qA:=@PySem.wpAny_bind
def qB:=@if_neg
def qE:=@PySem.wpAny_pure
def qF:=@if_pos
def qG:=@PySem.Heap.lt_size
def qH:=@decide_eq_true
def qI:=@PySem.Heap.get?_push_of_some
def qJ:=@Option.some.inj
def qK:=@PySem.wpAny_holding
def qL:=@PySem.Heap.get?_push_size
def qM:=@PySem.wpAny_mono
def qN:=@of_decide_eq_true
def qO:=@PySem.wpAny_call_entry
def O{α:Sort u}{a:α}:a=a:=rfl
def qb:=@Nat.le_refl
def qc:=@List.mem_map
def qe:=@List.getElem?_eq_getElem
def qf:=@Nat.le_trans
def qg:=@List.length_append
def qh:=@List.length_map
def qi:=@Nat.ne_of_lt
def qj:=@List.getElem?_map
def qk:=@List.mem_of_getElem?
def qm:=@List.mem_cons_self
def qo:=@Bool.false_ne_true
def qp:=@List.getElem?_eq_some_iff
def qr:=@List.length_singleton
def qt:=@List.mem_singleton
def qu:=@List.take_add_one
def qv:=@List.mem_range
def qw:=@List.mem_filter
def qx:=@Nat.zero_le
def qy:=@List.mem_cons
def qz:=@List.mem_cons_of_mem
def q0:=@List.take_length
def zb:=@List.getD_eq_getElem?_getD
def zd:=@List.length_cons
def ze:=@List.size_toArray
def zf:=@Nat.lt_of_lt_of_le
def zg:=@List.mem_append
def zh:=@List.length_range
def zk:=@Array.length_toList
def zm:=@List.map_cons
def zn:=@Bool.and_eq_true
def zo:=@Nat.ne_of_gt
def zt:=@List.map_append
def zu:=@List.getElem?_append_left
def zv:=@List.mem_iff_getElem
def zx:=@List.nodup_cons
def zy:=@List.filter_append
def z6:=@List.append_nil
def z7:=@List.nil_append
def z8:=@List.pairwise_map
def z9:=@List.mem_append_right
def wb:=@Option.map_eq_some_iff
def we:=@List.filter_nil
def wg:=@List.map_map
def wj:=@List.length_filter_le
def wk:=@Nat.lt_irrefl
def wt:=@List.append_assoc
def wu:=@Nat.le_of_lt
def wv:=@List.length_take
def ww:=@List.find?_cons
def wx:=@List.pairwise_cons
def wz:=@List.getElem?_eq_none
def vd:=@List.filter_cons_of_pos
def vy:=@List.length_reverse
def v9:=@List.nodup_nil
def yb:=@List.ext_getElem?
def yc:=@List.getElem?_range
def ye:=@List.getElem?_append_right
def yf:=@List.filter_cons_of_neg
def yg:=@Nat.not_lt_zero
def yh:=@Nat.min_le_left
def yi:=@List.mem_append_left
def yj:=@Nat.lt_succ_of_lt
def yk:=@List.nodup_append
def ym:=@List.mem_reverse
def yo:=@Bool.eq_iff_iff
def yq:=@List.length_drop
def yr:=@Array.getElem?_toList
def yt:=@List.any_eq_true
def yu:=@Nat.lt_succ_self
def yv:=@List.pairwise_iff_getElem
def yw:=@List.map_congr_left
def yx:=@List.range_succ
def yy:=@Option.toList_some
def yz:=@List.length_nil
def y0:=@List.getElem_mem
def ja:=@Array.getElem?_eq_getElem
def jb:=@List.length_eq_zero_iff
def jc:=@List.take_of_length_le
def jd:=@List.getElem?_set_ne
def je:=@Nat.zero_add
def jf:=@List.eq_nil_or_concat
def jg:=@List.concat_eq_append
def jh:=@List.getElem?_of_mem
def ji:=@Nat.min_le_right
def jj:=@List.replicate_succ
def jk:=@Nat.le_succ
def jl:=@Nat.le_add_right
def jm:=@Array.getD_eq_getD_getElem?
def jn:=@Nat.lt_or_ge
def jo:=@List.drop_eq_getElem_cons
def jp:=@Nat.sub_zero
def jq:=@List.filter_eq_nil_iff
def jr:=@List.find?_eq_none
def jt:=@List.reverse_append
def ju:=@List.flatten_cons
def jv:=@Option.map_some
def jw:=@Nat.lt_trans
def jx:=@Nat.lt_of_le_of_lt
def jy:=@Nat.succ_ne_self
def jz:=@Nat.le_of_ble_eq_true
def j0:=@List.mem_of_find?_eq_some
def j3:=@Nat.sub_self
def j4:=@List.foldl_append
def j5:=@Nat.succ_le_succ
def j6:=@Nat.le_succ_of_le
def j7:=@List.findSome?_cons
def j8:=@List.mem_filterMap
def j9:=@Array.mem_toList_iff
def gc:=@List.length_replicate
def gf:=@List.map_nil
def gg:=@List.foldl_cons
def gh:=@List.any_cons
def gj:=@List.lookup_cons
def gr:=@List.drop_zero
def gs:=@Array.toList_inj
def gw:=@Bool.eq_false_iff
def g0:=@List.pairwise_singleton
def kg:=@List.mem_of_mem_drop
def kh:=@List.filter_sublist
def ki:=@List.forall_mem_cons
def kj:=@List.filterMap_cons
def kx:=@List.any_eq_false
def kz:=@List.of_mem_zip
def k8:=@Option.isSome_iff_exists
def me:=@List.getElem?_take_of_lt
def mf:=@List.take_sublist
def mh:=@Bool.and_false
def mi:=@List.forIn_cons
def mj:=@List.toList_toArray
def mo:=@List.reverse_cons
def mr:=@List.not_lt
def mw:=@Bool.and_true
def mx:=@Nat.min_self
def my:=@Array.forIn_toList
def mz:=@List.findIdx?_eq_some_iff_getElem
def m3:=@List.getElem?_inj
def m7:=@List.getElem?_toArray
def m8:=@Nat.not_lt
def m9:=@Array.getElem?_eq_some_iff
def ng:=@List.all_eq_true
def nh:=@List.pairwise_append
def ni:=@List.filter_congr
def nj:=@List.nodup_iff_pairwise_ne
def nr:=@Option.none_or
def nv:=@Bool.not_eq_true'
def nw:=@Nat.add_le_add_right
def ny:=@List.length_pos_iff
def n0:=@Array.append_assoc
def bc:=@List.getElem?_set_self
def bd:=@List.zip_cons_cons
def be:=@List.getElem_toArray
def bg:=@List.drop_of_length_le
def bj:=@List.range_succ_eq_map
def bp:=@List.findIdx?_eq_none_iff
def bu:=@List.range_eq_range'
def bv:=@List.mem_range'_1
def bw:=@Option.map_eq_none_iff
def bx:=@List.filter_reverse
def bz:=@Nat.lt_of_succ_lt_succ
def re:=@Array.getElem?_eq_none
def rg:=@Nat.lt_trichotomy
def rh:=@List.append_of_mem
def rj:=@List.getElem?_drop
def rn:=@List.countP_pos_iff
def rz:=@List.idxOf_lt_length_of_mem
def r8:=@List.mem_of_mem_take
def tf:=@List.filter_filter
def tz:=@List.mem_of_mem_head?
def ub:=@List.head?_eq_getElem?
def uc:=@List.getElem_range
def ud:=@List.take_eq_take_min
def ue:=@Option.ne_none_iff_exists'
def uf:=@List.dropLast_concat
def ug:=@List.getElem?_reverse
def uh:=@List.mem_of_elem_eq_true
namespace L2
open PySem PySem.Spec PyProof.Rows
def SE{P:List MD->Prop}(h:P [])(u:List MD)(l:u.length=0):P u:=do-u;h;-l
def nN{P:List MD->Prop}(h:∀a,P [a])(u:List MD)(l:u.length=1):P u:=do-u;-l;SE (P:=λx=>P (_::x)) (h _) _ (Nat.succ.inj l)
def ik{P:List MD->Prop}(h:∀a b,P [a,b])(u:List MD)(l:u.length=2):P u:=do-u;-l;nN (P:=λx=>P (_::x)) (h _) _ (Nat.succ.inj l)
def ik1{P:List MD->Prop}(h:∀a b,P [a,b])(u:List MD)(l:u.length+1=3):P u:=ik h u (Nat.succ.inj l)
def r_{P:List MD->Prop}(h:∀a b c,P [a,b,c])(u:List MD)(l:u.length=3):P u:=do-u;-l;ik (P:=λx=>P (_::x)) (h _) _ (Nat.succ.inj l)
def zS{P:List MD->Prop}(h:∀a b c d,P [a,b,c,d])(u:List MD)(l:u.length=4):P u:=do-u;-l;r_ (P:=λx=>P (_::x)) (h _) _ (Nat.succ.inj l)
def SU{P:List MD->Prop}(h:∀a b c d e,P [a,b,c,d,e])(u:List MD)(l:u.length=5):P u:=do-u;-l;zS (P:=λx=>P (_::x)) (h _) _ (Nat.succ.inj l)
def Tc{P:List MD->Prop}(h:∀a b c d e f,P [a,b,c,d,e,f])(u:List MD)(l:u.length=6):P u:=do-u;-l;SU (P:=λx=>P (_::x)) (h _) _ (Nat.succ.inj l)
abbrev Key:=Sum Int Tp
def ip:Key->MD->Bool|.inl k,v=>Value.isInt k v|.inr x,v=>Value.isStrOf x v
def Qb(w:World):Key->Int|.inl k=>hashInt k|.inr x=>hashStr w x
def iv:∀{k:Key} {v:MD},ip k v=true->(∃i t,k=Sum.inl i/\v=Value.int i t)\/(∃x t,k=Sum.inr x/\v=Value.str x t)|.inl i,v,h=>(do _;{t,e}:=Value.isInt_shape (k:=i) (v:=v) h;.inl {i,t,O,e})|.inr x,v,h=>do _;{t,e}:=Value.isStrOf_shape (x:=x) (v:=v) h;.inr {x,t,O,e}
def RL(i:Int)(t:Tok):ip (.inl i) (.int i t)=true:=do#[ip,Value.isInt]
def NS(x:Tp)(t:Tok):ip (.inr x) (.str x t)=true:=do#[ip,Value.isStrOf]
def CJ(a b:Int):decide ((Sum.inl a:Key)=Sum.inl b)=(a==b):=do e<|a=b;!e;0;h:¬(Sum.inl a:Key)=Sum.inl b:=λq=>e (Sum.inl.inj q);[decide_eq_false h];(beq_eq_false_iff_ne.mpr e).symm
def EL(a b:Tp):decide ((Sum.inr a:Key)=Sum.inr b)=decide (a=b):=do e<|a=b;!e;0;h:¬(Sum.inr a:Key)=Sum.inr b:=λq=>e (Sum.inr.inj q);[decide_eq_false h,decide_eq_false e]
def Bl(a:Int)(b:Tp):decide ((Sum.inl a:Key)=Sum.inr b)=false:=decide_eq_false (λq=>nomatch q)
def D5(a:Tp)(b:Int):decide ((Sum.inr a:Key)=Sum.inl b)=false:=decide_eq_false (λq=>nomatch q)
def ai(prog:Program)(w:World):PySem.KeyKind prog w Key where
 is:=ip
 hash:=Qb w
 inj:=λv a b g d=>by
  rcases iv g with⟨i,t,rfl,rfl⟩|⟨x,t,rfl,rfl⟩
  .rcases iv d with⟨j,u,rfl,e⟩|⟨y,u,rfl,e⟩
   .injection e with e1 _;rw[e1]
   .exact nomatch e
  .rcases iv d with⟨j,u,rfl,e⟩|⟨y,u,rfl,e⟩
   .exact nomatch e
   .injection e with e1 _;rw[e1]
 byValue:=λk v h=>by
  rcases iv h with⟨i,t,rfl,rfl⟩|⟨x,t,rfl,rfl⟩ <;> rfl
 pyHash:=λc h=>by
  rcases iv c with⟨i,t,rfl,rfl⟩|⟨x,t,rfl,rfl⟩
  .exact wpAny_pyHash_int h
  .exact wpAny_pyHash_str h
 eqBool:=λf c h=>by
  rcases iv f with⟨i,t,rfl,rfl⟩|⟨x,t,rfl,rfl⟩
  .rcases iv c with⟨j,u,rfl,rfl⟩|⟨y,u,rfl,rfl⟩
   .rw[CJ]at h;exact wpAny_eqBool_int h
   .rw[Bl]at h;exact SeqAt.EqAt.int_str i t y u _ _ _ _ h
  .rcases iv c with⟨j,u,rfl,rfl⟩|⟨y,u,rfl,rfl⟩
   .rw[D5]at h;exact SeqAt.EqAt.str_int x t j u _ _ _ _ h
   .rw[EL]at h;exact wpAny_eqBool_str h
 «strs»:=λk x t v h=>by
  rcases iv h with⟨i,u,rfl,e⟩|⟨y,u,rfl,e⟩
  .exact nomatch e
  .injection e with e1 _
   subst e1;cases v <;> rfl
def Nq(prog:Program)(w:World)(i:Int)(t:Tok):(ai prog w).is (.inl i) (.int i t)=true:=RL i t
def PM(prog:Program)(w:World)(x:Tp)(t:Tok):(ai prog w).is (.inr x) (.str x t)=true:=NS x t
inductive V where
 |aS|bl (b:Bool)|int (i:Int)|str (x:Tp)|pZ (b:Array UInt8)|Gq (b:UInt64)|ref (a:To)|ty (n:String)
 deriving DecidableEq
def RelV:V->MD->Prop|.aS,u=>u=Value.none|.bl b,u=>u=Value.bool b|.int i,u=>∃t,u=Value.int i t|.str x,u=>∃t,u=Value.str x t|.pZ b,u=>∃t,u=Value.bytes b t|.Gq b,u=>∃t,u=Value.float b t|.ref a,u=>u=Value.ref a|.ty n,u=>u=Value.type n
abbrev aK:List V->List MD->Prop:=Paired RelV
theorem aK.length(r:aK xs us):xs.length=us.length:=Paired.length r
theorem aK.get:∀{xs:List V} {us:List MD} {i:Nat} {x:V},aK xs us->xs[i]?=!x->∃u,us[i]?=!u/\RelV x u|_,_,_,_,.nil,e=>(do e<-0)|_,_,0,_,.cons r _,e=>(do e<-0;!e;{_,O,r})|_,_,i+1,x,.cons _ t,e=>do _;{u,h1,h2}:=aK.get (i:=i) (x:=x) t (do 0<|e);{u,do 0<|h1,h2}
theorem aK.set(r:RelV x u):∀{xs:List V} {us:List MD} (i:Nat),aK xs us->aK (xs.set i x) (us.set i u)|_,_,_,.nil=>.nil|_,_,0,.cons _ t=>.cons r t|_,_,i+1,.cons q t=>.cons q (aK.set r i t)
theorem aK.append:∀{xs ys:List V} {us ws:List MD},aK xs us->aK ys ws->aK (xs++ys) (us++ws)|_,_,_,_,.nil,s=>s|_,_,_,_,.cons r t,s=>.cons r (aK.append t s)
theorem aK.take:∀{xs:List V} {us:List MD} (n:Nat),aK xs us->aK (xs.take n) (us.take n)|_,_,0,_=>.nil|_,_,_+1,.nil=>.nil|_,_,n+1,.cons r t=>.cons r (aK.take n t)
theorem aK.drop:∀{xs:List V} {us:List MD} (n:Nat),aK xs us->aK (xs.drop n) (us.drop n)|_,_,0,r=>r|_,_,_+1,.nil=>.nil|_,_,n+1,.cons _ t=>aK.drop n t
def fx:Option V->Option MD->Prop|some v,!u=>RelV v u|none,none=>True|_,_=>False
def KV{κ:Type}:List (κ×V)->List (κ×MD)->Prop:=Paired λ(p:κ×V) (q:κ×MD)=>p.1=q.1/\RelV p.2 q.2
def kV:Key->V|.inl i=>.int i|.inr x=>.str x
inductive KD where
 |aS
 |int (i:Int)
 |tup (ks:List Key)
 |two (ks ls:List Key)
deriving DecidableEq
def bP(P:Program)(w:World):KD->Int|.aS=>4238894112|.int i=>hashInt i|.tup ks=>(tupleKind (ai P w)).hash ks|.two ks ls=>reduceHash (Builtin.Tuple.tupleHashOf [(tupleKind (ai P w)).hash ks,(tupleKind (ai P w)).hash ls])
def dP(P:Program)(w:World)(x:KD×MD×MD):DictEntry:={bP P w x.1,x.2.1,x.2.2}
inductive HO where
 |lst (xs:List V)
 |tup (xs:List V)
 |dK (kvs:List (Key×V))|dT (kvs:List (List Key×V))
 |dG (kvs:List 67)
 |set (S:Int->Bool) (n:Nat)
 |ins (C dx:To) (fs:List (Tp×V))
 |own (x:To)
 |xd (fs:List (Tp×V))
 |met (f x:To)
 |O0 (lo hi:Int)
 |dA (o:Obj) (u:HO)
 |cF (ps:Array MD)
 |ext (φ:Heap->Prop)
abbrev Hp:=To->Option HO
def GK(H:Hp):KD->V->Prop|.aS,v=>v=.aS|.int i,v=>v=.int i|.tup ks,v=>∃b,v=.ref b/\H b=!(.tup (ks.map kV))|.two ks ls,v=>∃b c d,v=.ref b/\H b=!(.tup [.ref c,.ref d])/\H c=!(.tup (ks.map kV))/\H d=!(.tup (ls.map kV))
def upd(H:Hp)(a:To)(o:HO):Hp:=λb=>if b=a then some o else H b
def aE:upd H a o a=!o:=do@upd;[qF rfl]
def aB(h:b≠a):upd H a o b=H b:=do@upd;[qB h]
def oA{H:Hp}{a b:To}{o u:HO}(h:H a=!o)(h':H b=!u)(d:o≠u):a≠b:=do(e);!e;h'<-[h];d (qJ h')
def a9{H:Hp}{a b:To}{o:HO}(h:H a=!o)(h':H b=none):a≠b:=do(e);!e;h'<-[h];-h'
section
variable (P:Program)(w:World)
def aV(H:Hp)(h:Heap)(a:To):HO->Prop|.lst xs=>xs.length<=sizeLine/\∃(its:List MD) (n:Nat),aK xs its/\h.get? a=some {cls:=.type "list",data:=.seq its.toArray n}|.tup xs=>xs.length<=sizeLine/\∃its:List MD,aK xs its/\IsTup h a its.toArray|.dK kvs=>kvs.length<=sizeLine/\(a==sysModules)=false/\∃vs,KV kvs vs/\h.DictOf (ai P w) a vs|.dT kvs=>kvs.length<=sizeLine/\(a==sysModules)=false/\∃xs:List (List Key×To×MD),Paired (λ(p:List Key×V) (q:List Key×To×MD)=>p.1=q.1/\H q.2.1=!(.tup (p.1.map kV))/\RelV p.2 q.2.2) kvs xs ∧ ∃o es ep,h.get? a=!o/\o.ExactDict/\o.data=.dict es ep/\es.toList=xs.map (entryOfKey (tupleKind (ai P w)))/\(xs.map (·.1)).Nodup|.dG kvs=>kvs.length<=sizeLine/\(a==sysModules)=false/\∃xs:List (KD×MD×MD),Paired (λ(p:KD×V×V) (q:KD×MD×MD)=>p.1=q.1/\GK H p.1 p.2.1/\RelV p.2.1 q.2.1/\RelV p.2.2 q.2.2) kvs xs ∧ ∃o es ep,h.get? a=!o/\o.ExactDict/\o.data=.dict es ep/\es.toList=xs.map (dP P w)/\(xs.map (·.1)).Nodup|.set S n=>h.SetOf (intKind P w) a S n|.ins C dx fs=>H dx=!(.own a)/\fs.length<=1000/\dx≠a/\h.get? a=some (PySem.W.instObj C dx) ∧ ∃b,h.Ns1 dx b/\(∀f,fx (fs.lookup f) (b f))/\PySem.Within b (fs.map (·.1))|.own _=>∃o,h.get? a=!o|.xd fs=>∃b,h.Ns1 a b/\∀f,fx (fs.lookup f) (b f)|.O0 lo hi=>∃t u v,h.get? a=some {cls:=.type "range",data:=.fields #[.int lo t,.int hi u,.int 1 v]}|.dA o u=>h.get? a=!o/\aV H h a u|.cF ps=>h.get? a=some {cls:=.none,data:=.fields ps}|.met f x=>h.get? a=!(PySem.W.methodObj (.ref f) (.ref x))|.ext φ=>φ h/\(∃o,h.get? a=!o)/\∀h1 h2:Heap,φ h1->(∀o,h1.get? a=!o->h2.get? a=!o)->φ h2
def dm(H:Hp)(h:Heap):Prop:=∀a o,H a=!o->aV P w H h a o
end
section
variable {P:Program}{w:World}{H H':Hp}{h h':Heap}{a:To}{o:HO}
theorem aV.lt(x:aV P w H h a o):a<h.objs.size:=do(by cases o with|lst xs|tup xs|dK kvs|dT kvs|dG kvs|set S n|ins C dx fs|own y|xd fs|O0 lo hi|dA ob u|cF ps|met f y|ext b=>?_);{_,_,_,_,e}:=x;qG e;{_,_,_,p}:=x;p.lt;{_,_,_,_,o,_,_,e,_}:=x;qG e;{_,_,_,_,o,_,_,e,_}:=x;qG e;{_,_,_,_,o,_,_,e,_}:=x;qG e;{o,_,_,_,e,_}:=x;qG e;{_,_,_,e,_}:=x;qG e;{_,e}:=x;qG e;{_,{_,_,_,e,_},_}:=x;qG e;{_,_,_,e}:=x;qG e;{e,_}:=x;qG e;qG (show h.get? a=some _ from x);qG (show h.get? a=some _ from x);{_,{_,e},_}:=x;qG e
theorem Paired.lD{α β:Type}{F G:α->β->Prop}:∀{l₁:List α} {c:List β},Paired F l₁ c->(∀a b,F a b->G a b)->Paired G l₁ c|_,_,.nil,_=>.nil|_,_,.cons r t,f=>.cons (f _ _ r) (Paired.lD t f)
def GK.cW(g:GK H k v)(a:∀b xs,H b=! (.tup xs)->H' b=! (.tup xs)):GK H' k v:=do(by cases k with|aS|int i|tup ks|two ks ls=>?_);g;g;{b,e,h}:=g;{b,e,a _ _ h};{b,c,d,e,h1,h2,f}:=g;{b,c,d,e,a _ _ h1,a _ _ h2,a _ _ f}
theorem aV.cW(x:aV P w H h a o)(k:∀b u,(b=a\/H b=!(.own a))->h.get? b=!u->h'.get? b=!u)(j:∀b,H b=!(.own a)->H' b=!(.own a))(i:∀b xs,H b=! (.tup xs)->H' b=! (.tup xs)):aV P w H' h' a o:=do(by induction o with|lst xs|tup xs|dK kvs|dT kvs|dG kvs|set S n|ins C dx fs|own y|xd fs|O0 lo hi|dA ob u l|cF ps|met f y|ext s=>?_);{z,its,n,r,e}:=x;{z,its,n,r,k _ _ (.inl rfl) e};{z,its,r,ob,e,c}:=x;{z,its,r,ob,k _ _ (.inl rfl) e,c};{z,y,vs,r,ob,es,ep,e,c}:=x;{z,y,vs,r,ob,es,ep,k _ _ (.inl rfl) e,c};{z,y,xs,r,ob,es,ep,e,c}:=x;{z,y,xs,Paired.lD r λp q z=>{z.1,i _ _ z.2.1,z.2.2},ob,es,ep,k _ _ (.inl rfl) e,c};{z,y,xs,r,ob,es,ep,e,c}:=x;{z,y,xs,Paired.lD r λp q z=>{z.1,z.2.1.cW i,z.2.2},ob,es,ep,k _ _ (.inl rfl) e,c};{ob,es,ep,t,e,c}:=x;{ob,es,ep,t,k _ _ (.inl rfl) e,c};{d,z,ne,e,g,{od,es,ep,m,c},r}:=x;{j _ d,z,ne,k _ _ (.inl rfl) e,g,{od,es,ep,k _ _ (.inr d) m,c},r};{ob,e}:=x;{ob,k _ _ (.inl rfl) e};{g,{od,es,ep,e,c},r}:=x;{g,{od,es,ep,k _ _ (.inl rfl) e,c},r};{t,u,v,e}:=x;{t,u,v,k _ _ (.inl rfl) e};{e,q}:=x;{k _ _ (.inl rfl) e,l q};e:h.get? a=some {cls:=.none,data:=.fields ps}:=x;¬h'.get? a=some {cls:=.none,data:=.fields ps};k a _ (.inl rfl) e;e:h.get? a=!(PySem.W.methodObj (.ref f) (.ref y)):=x;¬h'.get? a=!(PySem.W.methodObj (.ref f) (.ref y));k a _ (.inl rfl) e;{p,{o,e},st}:=x;{st _ _ p λo q=>k _ _ (.inl rfl) q,{o,k _ _ (.inl rfl) e},st}
theorem dm.lt(x:dm P w H h)(e:H a=!o):a<h.objs.size:=(x a o e).lt
def dm.fresh(x:dm P w H h)(e:h.objs.size<=a):H a=none:=do(by cases q:H a with|none|some u=>?_);2;absurd (zf (x.lt q) e) (wk _)
def dm.kept(x:dm P w H h)(k:∀b u,h.get? b=!u->h'.get? b=!u):dm P w H h':=λa o e => (x a o e).cW (λb u _ q=>k b u q) (λ_ q=>q) λ_ _ q=>q
def dm.laid(x:dm P w H h)(k:∀b u,h.get? b=!u->h'.get? b=!u)(hp:h.objs.size<=a)(new:aV P w (upd H a o) h' a o):dm P w (upd H a o) h':=λb u e=>do hn:=x.fresh hp;d<|b=a;!d;e<-[aE];-e;new;e<-[aB d];(x b u e).cW (λc v _ q=>k c v q) (λc q=>do[aB (a9 q hn)];q) λc xs q=>do[aB (a9 q hn)];q
end
def Rd(H:Hp)(a:To)(u:HO):Prop:=H a=!u\/∃o,H a=!(.dA o u)
def Rd.of(h:H a=!u):Rd H a u:=.inl h
def Rd.ok(r:Rd H a u)(x:dm P w H h):aV P w H h a u:=do r||{o,r}:=r;x a u r;{_,q}:=x a _ r;q
def Jg:Option HO->Prop|some (.lst _)=>True|some (.dK _)=>True|some (.dT _)=>True|some (.dG _)=>True|some (.set _ _)=>True|some (.ins _ _ _)=>True|some (.ext _)=>True|_=>False
section
variable {P:Program}{w:World}{H:Hp}{h h':Heap}{x e:To}{o':HO}
def dm.write(ok:dm P w H h)(g:Jg (H x))(n:e=x\/H e=!(.own x))(k:∀b u,b≠e->h.get? b=!u->h'.get? b=!u)(l:∃u,h'.get? e=!u)(new:aV P w (upd H x o') h' x o'):dm P w (upd H x o') h':=λb u q=>do d:∀c y,H c=!(.own y)->c≠x:=λc y r z=>(do !z;g<-[r];g);f:∀c xs,H c=! (.tup xs)->c≠x:=λc xs r z=>(do !z;g<-[r];g);i<|b=x;!i;q<-[aE];-q;new;q<-[aB i];a<|b=e;m:H b=!(.own x):=(do z||z:=n;absurd (a.trans z) i;[a];z);m<-[q];-m;{v,o}:=l;{v,do[a];o};(ok b u q).cW (λc v j r=>k c v ?_ r) (λc r=>do[aB (d c b r)];r) λc xs r=>(do[aB (f c xs r)];r);rfl||j:=j;a;(rfl);z||z:=n;d c b j z;z<-[j];-z;i rfl
end
structure Un(fs ex:List To)(H H':Hp)(h h':Heap):Prop where
 keep:∀b o,h.get? b=!o->H b=none->b∉fs->b∉ex->h'.get? b=!o
 slot:∀b o,h.get? b=!o->H b=none->b∈fs->b∉ex->∃sl,h'.get? b=some { o with slots:=sl }
 free:∀b o,h.get? b=!o->H b=none->b∉ex->H' b=none
 there:∀b o,h.get? b=!o->b∉ex->∃o',h'.get? b=!o'
 af:∀b xs,H b=! (.tup xs)->H' b=! (.tup xs)
 dU:∀b o u,H b=!(.dA o u)->H' b=!(.dA o u)
 dS:∀b ps,H b=!(.cF ps)->∃more,H' b=!(.cF (ps++more))
 dM:∀b o xs,h.get? b=!o->H b=! (.tup xs)->h'.get? b=!o
section
variable {fs fs' ex ex':List To}{H H1 H2:Hp}{h h1 h2 h':Heap}{a x e:To}{o:HO}
def Un.any(u:Un fs ex H H1 h h1)(q:h.get? b=!ob)(n:H b=none)(c:b∉ex):∃sl,h1.get? b=some {ob with slots:=sl}:=do a<|b∈fs;u.slot b ob q n a c;{ob.slots,u.keep b ob q n a c}
def Un.trans(a:Un fs ex H H1 h h1)(b:Un fs ex H1 H2 h1 h2):Un fs ex H H2 h h2 where
 keep:=λc ob q n f d=>b.keep c ob (a.keep c ob q n f d) (a.free c ob q n d) f d
 slot:=λc ob q n f d=>by
  obtain⟨sl,e⟩:=a.slot c ob q n f d;obtain⟨g,i⟩:=b.slot c _ e (a.free c ob q n d) f d;exact{g,i}
 free:=λc ob q n d=>by
  obtain⟨o',e⟩:=a.there c ob q d;exact b.free c o' e (a.free c ob q n d) d
 there:=λc ob q d=>by
  obtain⟨o',e⟩:=a.there c ob q d;exact b.there c o' e d
 af:=λc xs q=>b.af c xs (a.af c xs q)
 dU:=λc ob xs q=>b.dU c ob xs (a.dU c ob xs q)
 dS:=λc ps q=>by
  obtain⟨j,e⟩:=a.dS c ps q;obtain⟨k,i⟩:=b.dS c _ e;exact{j++k,by rw[i,n0]}
 dM:=λc ob xs q n=>b.dM c ob xs (a.dM c ob xs q n) (a.af c xs n)
def Un.kept(k:∀b u,h.get? b=!u->h'.get? b=!u):Un fs ex H H h h' := {λb ob q _ _ _=>k b ob q,λb ob q _ _ _=>{ob.slots,k b ob q},λ_ _ _ n _=>n,λb ob q _=>{ob,k b ob q},λ_ _ q=>q,λ_ _ _ q=>q,λ_ ps q=>{#[],do[q];0},λb ob _ q _=>k b ob q}
def Un.refl:Un fs ex H H h h:=Un.kept λ_ _ q=>q
def Un.laid(k:∀b u,h.get? b=!u->h'.get? b=!u)(hp:h.objs.size<=a)(hn:H a=none):Un fs ex H (upd H a o) h h' where
 keep:=λb u q _ _ _=>k b u q
 slot:=λb u q _ _ _=>{u.slots,k b u q}
 free:=λb u q n _=>by rw[aB (qi (zf (qG q) hp))];exact n
 there:=λb u q _=>{u,k b u q}
 af:=λb xs q=>by rw[aB (a9 q hn)];exact q
 dU:=λb u xs q=>by rw[aB (a9 q hn)];exact q
 dS:=λb ps q=>{#[],by rw[aB (a9 q hn),q];simp}
 dM:=λb u _ q _=>k b u q
def Un.write(c:Jg (H x))(i:e=x\/H e=!(.own x))(k:∀b u,b≠e->h.get? b=!u->h'.get? b=!u)(f:∃u,h'.get? e=!u):Un fs ex H (upd H x o) h h':=do g:∀b,H b=none->b≠x:=λb n z=>(do !z;c<-[n];c);j:∀b,H b=none->b≠e:=λb n z=>(do !z;r||r:=i;g b n r;r<-[n];-r);d:∀b u,H b=!u->¬Jg (!u)->b≠x:=λb u q l z=>(do !z;c<-[q];l c);{λb u q n _ _=>k b u (j b n) q,λb u q n _ _=>{u.slots,k b u (j b n) q},λb u q n _=>do[aB (g b n)];n,λb u q _=>?_,λb xs q=>do[aB (d b _ q λz=>z)];q,λb u xs q=>do[aB (d b _ q λz=>z)];q,λb ps q=>{#[],do[aB (d b _ q λz=>z),q];0},λb u xs q n=>k b u (λz=>do !z;r||r:=i;d b _ n (λz=>z) r;r<-[n];-r) q};a<|b=e;!a;f;{u,k b u a q}
end
def MQ(h:Heap)(H:Hp):List To:=(List.range h.objs.size).filter λa=>(H a).isSome
def hZ(h:Heap)(H:Hp):Heap:=PySem.W.hideAll h (MQ h H)
def PC(h:Heap)(H:Hp):(hZ h H).objs.size=h.objs.size:=PySem.W.hideAll_size _ _
def OP(e:h.get? b=!o)(n:H b=none):(hZ h H).get? b=some o := PySem.W.hideAll_get _ e λa=>do q:(H b).isSome=true:=(qw.mp a).2;q<-[n];q<-0
def OH(e:(hZ h H).get? b=!o):h.get? b=!o/\H b=none:=do a:h.get? b=!o:=PySem.W.of_hideAll (MQ h H) e;{a,?_};(by cases q:H b with|none|some x=>?_);2;c:b∈MQ h H:=List.mem_filter.mpr {List.mem_range.mpr (qG a),do#[q]};z:(hZ h H).get? b=none:=PySem.W.hideAll_none (MQ h H) c;e<-[z];-e
structure Mod(K:PySem.W.Frag)(mg:Tp->Option MD)(base:Heap):Prop where
 MB:K.In base
 glob:base.Ns mainGlobals mg
 blt:∃mb,base.Ns builtinsNs mb/\∀x:Tp,x≠"__name__"->mb x=bootBuiltins x
 nolimit:base.NoLimit
structure Cx where
 prog:Program
 w:World
 K:PySem.W.Frag
 mg:Tp->Option MD
 base:Heap
 A:Around
 N:List Tp
 s₀:Tj
 H₀:Hp
 env:Env
 outer:List Env
 stack:List Env
 ex:List To
 fn:Tp->Bool
 calm:Bool
 pn:List (To×Obj)
 xe:KE
def dY(l:List Env):List To:=l.filterMap (·.frame)
abbrev Cx.fs(X:Cx):List To:=dY X.outer
def MH(a:Scope)(x:Tp):Prop:=a.names.lookup x=some .local\/a.names.lookup x=some .cell\/a.names.lookup x=some .free
def Loc(a:Scope)(x:Tp):Prop:=a.names.lookup x=some .local\/a.names.lookup x=some .cell
def Look(env:Env)(h:Heap)(m:Tp->Option MD)(x:Tp)(u:MD):Prop := (env.kindOf x=some .local/\m x=!u)\/((env.kindOf x=some .cell\/env.kindOf x=some .free)/\∃c,env.cells.lookup x=!c/\h.IsCell c (!u))
structure Cx.Ok(X:Cx):Prop where
 mod:Mod X.K X.mg X.base
 kind:X.env.scope.kind=.function
 glob:X.env.globals=mainGlobals
 blt:X.env.builtins=builtinsNs
 above:X.s₀.heap.objs.size<=X.env.locals
 inj:∀x y c,X.env.cells.lookup x=!c->X.env.cells.lookup y=!c->x=y
 has:∀x,(X.env.kindOf x=some .cell\/X.env.kindOf x=some .free)->∃c,X.env.cells.lookup x=!c
 zC:∀x c,X.fn x=true->X.env.cells.lookup x=!c->X.s₀.heap.objs.size<=c
 hd:X.calm=true->X.A.handled=none
 frames:X.A.frames=!X.stack
 MT:X.stack=X.outer\/(X.stack=X.env::X.outer/\X.env.frame=!X.env.locals)
 Sl:∀b∈X.ex,b≠X.env.locals/\∀x c,X.env.cells.lookup x=!c->c≠b
 bs:∀b o,X.base.get? b=!o->X.s₀.heap.get? b=!o/\(X.H₀ b=none\/∃xs,X.H₀ b=! (.tup xs))
 uQ:X.base.objs.size<=X.s₀.heap.objs.size
 uv:∀b o,X.base.get? b=!o->b∉X.ex
 wN:∀b∈X.ex,b∉X.fs
 d9:X.s₀.heap.FunFrames X.base X.outer
 wK:∀b∈X.fs,X.H₀ b=none
structure Inv(X:Cx)(pins:List (To×Obj))(σ:List (Option V))(H:Hp)(s:Tj):Prop where
 ok:X.Ok
 os:s.os=X.s₀.os
 bare:AllBare s.gens
 base:Un X.fs X.ex X.H₀ H X.s₀.heap s.heap
 loc:∃m,s.heap.Ns X.env.locals m/\∀(i:Nat) (x:Tp) (v:V),X.N[i]?=!x->σ[i]?=!(!v)->MH X.env.scope x->∃u,RelV v u/\Look X.env s.heap m x u
 cell:∀x c,X.env.cells.lookup x=!c->∃v,s.heap.IsCell c v
 free:H X.env.locals=none
 dC:∀x c,X.env.cells.lookup x=!c->H c=none
 pin:∀p∈X.pn++pins,s.heap.get? p.1=!p.2/\H p.1=none/\p.1≠X.env.locals/\p.1∉X.fs/\∀v,p.2.data≠.cell v
 aZ:dm X.prog X.w H s.heap
 len:σ.length=X.N.length
section
variable {X:Cx}{pins:List (To×Obj)}{σ:List (Option V)}{H H':Hp}{s:Tj}{h':Heap}
def Cx.Ok.M4(ok:X.Ok)(e:X.base.get? b=!o):b∉X.fs:=λa=>do this:=(ok.d9.mem a).1;this<-[e];-this
theorem Inv.bs(I:Inv X pins σ H s):∀b o,X.base.get? b=!o->s.heap.get? b=!o/\(H b=none\/∃xs,H b=! (.tup xs)):=λb o e => match I.ok.bs b o e with|⟨h1,.inl h2⟩=>{I.base.keep b o h1 h2 (I.ok.M4 e) (I.ok.uv b o e),.inl (I.base.free b o h1 h2 (I.ok.uv b o e))}|⟨h1,.inr ⟨xs,h2⟩⟩=>{I.base.dM b o xs h1 h2,.inr {xs,I.base.af b xs h2}}
def Inv.bk(I:Inv X pins σ H s):∀b o,X.base.get? b=!o->s.heap.get? b=!o:=λb o e=>(I.bs b o e).1
theorem Inv.mod(I:Inv X pins σ H s):Mod X.K X.mg X.base:=I.ok.mod
def Inv.nU(I:Inv X pins σ H s):X.K.In s.heap:=I.ok.mod.MB.keeps I.bk
theorem Inv.lt(I:Inv X pins σ H s):X.env.locals<↑s:=let⟨_,hn,_⟩:=I.loc;hn.lt
def Inv.sz(I:Inv X pins σ H s):X.s₀.heap.objs.size<=↑s:=qf I.ok.above (wu I.lt)
def Inv.vV(I:Inv X pins σ H s){a:To}(h:↑s<=a):a∉X.fs:=λc=>do _;{_,o,b,_}:=I.ok.d9.mem c;absurd (zf (qG b) (qf I.sz h)) (wk _)
def Inv.xA(I:Inv X pins σ H s):∀x c,X.env.cells.lookup x=!c->c≠X.env.locals:=λx c e z=>do _;{v,o,d,f}:=I.cell x c e;{m,{o',es,ep,a,b,_},_}:=I.loc;d<-[z,a];-d;f<-[b];-f
theorem Inv.d9(I:Inv X pins σ H s):s.heap.FunFrames X.base X.outer:=do all:∀(l:List Env),(∀b∈dY l,b∈X.fs)->X.s₀.heap.FunFrames X.base l->s.heap.FunFrames X.base l:=(do(l);(by induction l with|nil|cons env r h=>?_);(_,_);(by trivial);(f,j);{k,{L,o,a,hn,g,m},i}:=j;c:L∈X.fs:=f L (do@dY;[kj,a];qm);{sl,e}:=I.base.slot L o g (I.ok.wK L c) c λz=>I.ok.wN L z c;{k,{L,_,a,hn,e,m},h (λb d=>f b (do@dY;[kj,a];qz _ d)) i});all X.outer (λ_ d=>d) I.ok.d9
theorem Inv.stack(I:Inv X pins σ H s):s.heap.FunFrames X.base X.stack:=do e||{e,hf}:=I.ok.MT;[e];I.d9;[e];{m,hn,_}:=I.loc;.cons (by rw[I.ok.kind];decide) hf hn ?_ I.d9;Heap.get?_none_of_le (qf I.ok.uQ I.ok.above)
def Inv.hG(I:Inv X pins σ H s):∀b∈dY X.stack,b∈X.env.locals::X.fs:=λb a=>do e||{e,hf}:=I.ok.MT;a<-[e];qz _ a;a<-[e];(by unfold dY at a);a<-[kj,hf];a
def Inv.oE(I:Inv X pins σ H s):∀b∈dY X.stack,H b=none:=λb a=>do e||a:=qy.mp (I.hG b a);[e];I.free;{_,o,c,_}:=I.ok.d9.mem a;I.base.free b o c (I.ok.wK b a) λz=>I.ok.wN b z a
def Inv.step{g':Array GenState}{t':Nat}{d':Drawn}{ch:List To}(I:Inv X pins σ H s)(h:∀b∈ch,(b∈X.ex\/X.s₀.heap.objs.size<=b)/\b≠X.env.locals/\(∀x c,X.env.cells.lookup x=!c->c≠b)/\∀p∈X.pn++pins,p.1≠b)(keep:∀b o,b≠X.env.locals->b∉X.fs->b∉ch->s.heap.get? b=!o->H b=none->h'.get? b=!o)(slot:∀b o,b≠X.env.locals->b∈X.fs->b∉ch->s.heap.get? b=!o->H b=none->∃sl,h'.get? b=some {o with slots:=sl})(free:∀b o,b∉ch->s.heap.get? b=!o->H b=none->H' b=none)(there:∀b o,b∉ch->s.heap.get? b=!o->∃o',h'.get? b=!o')(af:∀b xs,H b=! (.tup xs)->H' b=! (.tup xs))(dU:∀b o u,H b=!(.dA o u)->H' b=!(.dA o u))(dS:∀b ps,H b=!(.cF ps)->∃more,H' b=!(.cF (ps++more)))(dM:∀b o xs,s.heap.get? b=!o->H b=! (.tup xs)->h'.get? b=!o)(ns:∀m,s.heap.Ns X.env.locals m->h'.Ns X.env.locals m)(E:dm X.prog X.w H' h')(M:AllBare g') : Inv X pins σ H' {s with heap:=h',gens:=g',drawn:=d',toks:=t'}:=do B:∀b o,X.s₀.heap.get? b=!o->b≠X.env.locals:=λb o e=>qi (zf (qG e) I.ok.above);t:∀b o,X.s₀.heap.get? b=!o->b∉X.ex->b∉ch:=λb o e a y=>(do z||z:=(h b y).1;a z;absurd (zf (qG e) z) (wk _));g:∀x c,X.env.cells.lookup x=!c->∀v,s.heap.IsCell c v->h'.IsCell c v:=λx c e v ⟨o,A,F⟩=>(do f:c∉ch:=λz=>(h c z).2.2.1 x c e rfl;J<|c∈X.fs;{sl,q}:=slot c o (I.xA x c e) J f A (I.dC x c e);{_,q,F};{o,keep c o (I.xA x c e) J f A (I.dC x c e),F});{I.ok,I.os,M,{λb o e n y a=>?_,λb o e n y a=>?_,λb o e n a=>?_,λb o e a=>?_,λb xs e=>af b xs (I.base.af b xs e),λb o xs e=>dU b o xs (I.base.dU b o xs e),λb ps e=>?_,λb o xs e n=>dM b o xs (I.base.dM b o xs e n) (I.base.af b xs n)},?_,λx c e=>?_,?_,λx c e=>?_,λp hp=>?_,E,I.len};keep b o (B b o e) y (t b o e a) (I.base.keep b o e n y a) (I.base.free b o e n a);{sl,j}:=I.base.slot b o e n y a;{D,C}:=slot b _ (B b o e) y (t b o e a) j (I.base.free b o e n a);{D,C};{o',j}:=I.base.there b o e a;free b o' (t b o e a) j (I.base.free b o e n a);{o',j}:=I.base.there b o e a;there b o' (t b o e a) j;{K,j}:=I.base.dS b ps e;{L,C}:=dS b _ j;{K++L,do[C,n0]};{m,hn,O}:=I.loc;{m,ns m hn,λi x v j C N=>?_};{u,r,l}:=O i x v j C N;{u,r,?_};l||{k,c,e,z}:=l;.inl l;.inr ⟨k,c,e,g x c e _ z⟩;{v,z}:=I.cell x c e;{v,g x c e v z};{m,{o,_,_,A,_},_}:=I.loc;free _ o (λz=>(h _ z).2.1 rfl) A I.free;{v,o,A,F}:=I.cell x c e;free c o (λz=>(h c z).2.2.1 x c e rfl) A (I.dC x c e);{e,n,ne,G,d}:=I.pin p hp;f:p.1∉ch:=λz=>(h p.1 z).2.2.2 p hp rfl;{keep p.1 p.2 ne G f e n,free p.1 p.2 f e n,ne,G,d}
def Inv.un(I:Inv X pins σ H s)(u:Un X.fs [] H H' s.heap h')(f:dm X.prog X.w H' h'):Inv X pins σ H' {s with heap:=h',toks:=t'}:=do _;{m,{o,es,ep,h,r},_}:=id I.loc;{sl,k}:=u.any h I.free (do 0);I.step (g':=s.gens) (d':=s.drawn) (ch:=[]) (λ_ z=>nomatch z) (λb o _ g _ e n=>u.keep b o e n g (do 0)) (λb o _ g _ e n=>u.slot b o e n g (do 0)) (λb o _ e n=>u.free b o e n (do 0)) (λb o _ e=>u.there b o e (do 0)) u.af u.dU u.dS u.dM (λl i=>do _;{o',d,c,a,j}:=i;a<-[h];-a;{_,d,c,k,j}) f I.bare
def Inv.call(I:Inv X pins σ H s)(u:Un (dY X.stack) ch H H' s.heap h')(i:dm X.prog X.w H' h')(l:AllBare g')(f:∀b∈ch,(b∈X.ex\/X.s₀.heap.objs.size<=b)/\b≠X.env.locals/\(∀x c,X.env.cells.lookup x=!c->c≠b)/\∀p∈X.pn++pins,p.1≠b) : Inv X pins σ H' {s with heap:=h',gens:=g',drawn:=d',toks:=t'}:=do _;{m,{o,es,ep,k,r},_}:=id I.loc;{sl,j}:=u.any k I.free λz=>(f _ z).2.1 rfl;I.step (ch:=ch) f (λb o j v a e n=>u.keep b o e n (λz=>(qy.mp (I.hG b z)).elim j v) a) (λb o _ _ a e n=>u.any e n a) (λb o a e n=>u.free b o e n a) (λb o a e=>u.there b o e a) u.af u.dU u.dS u.dM (λy q=>do _;{o',h,g,d,t}:=q;d<-[k];-d;{_,h,g,j,t}) i l
def Inv.turned(I:Inv X pins σ H s)(k:∀b o,b≠it->s.heap.get? b=!o->h'.get? b=!o)(hn:H it=none)(f:it≠X.env.locals)(h1:it∈X.ex\/X.s₀.heap.objs.size<=it)(h2:∀x c,X.env.cells.lookup x=!c->c≠it)(j:∀p∈X.pn++pins,p.1≠it):Inv X pins σ H {s with heap:=h',toks:=t'}:=do d:∀b u,H b=!u->b≠it:=λb u e z=>(do e<-[z,hn];-e);I.step (g':=s.gens) (d':=s.drawn) (ch:=[it]) (λb i=>?_) (λb o _ _ a e _=>k b o (λz=>a (do#[z])) e) (λb o _ _ a e _=>{o.slots,k b o (λz=>a (do#[z])) e}) (λ_ _ _ _ n=>n) (λb o a e=>{o,k b o (λz=>a (do#[z])) e}) (λ_ _ e=>e) (λ_ _ _ e=>e) (λb ps e=>{#[],do[e];0}) (λb o xs e n=>k b o (d b _ n) e) (λm h=>?_) (λb u e=>?_) I.bare;e:b=it:=(do 0<|i);!e;{h1,f,h2,j};{o,es,ep,g,r}:=h;{o,es,ep,k _ o (Ne.symm f) g,r};(I.aZ b u e).cW (λc v a q=>k c v ?_ q) (λ_ q=>q) λ_ _ q=>q;z||z:=a;[z];d b u e;d c _ z
def Inv.tok(I:Inv X pins σ H s)(t:Nat):Inv X pins σ H {s with toks:=t}:=I.un (h':=s.heap) (t':=t) Un.refl I.aZ
theorem Inv.kept(I:Inv X pins σ H s)(k:∀b u,s.heap.get? b=!u->h'.get? b=!u):Inv X pins σ H {s with heap:=h',toks:=t'}:=I.un (Un.kept k) (I.aZ.kept k)
theorem Inv.laid{a:To}{o:HO}{t':Nat}(I:Inv X pins σ H s)(k:∀b u,s.heap.get? b=!u->h'.get? b=!u)(hp:↑s<=a)(new:aV X.prog X.w (upd H a o) h' a o) : Inv X pins σ (upd H a o) {s with heap:=h',toks:=t'}:=I.un (Un.laid k hp (I.aZ.fresh hp)) (I.aZ.laid k hp new)
theorem Inv.write(I:Inv X pins σ H s)(d:Jg (H x))(c:e=x\/H e=!(.own x))(k:∀b u,b≠e->s.heap.get? b=!u->h'.get? b=!u)(a:∃u,h'.get? e=!u)(new:aV X.prog X.w (upd H x o) h' x o):Inv X pins σ (upd H x o) {s with heap:=h',toks:=t'}:=I.un (Un.write d c k a) (I.aZ.write d c k a new)
def Inv.weak(I:Inv X pins σ H s)(d:σ'.length=σ.length)(w:∀(i:Nat) v,σ'[i]?=!(!v)->σ[i]?=!(!v)):Inv X pins σ' H s := {I.ok,I.os,I.bare,I.base,let⟨m,hn,a⟩:=I.loc;{m,hn,λi x v e b c=>a i x v e (w i v b) c},I.cell,I.free,I.dC,I.pin,I.aZ,d.trans I.len}
def Inv.gZ(I:Inv X pins σ H s)(h:∀p∈pins',s.heap.get? p.1=!p.2/\H p.1=none/\p.1≠X.env.locals/\p.1∉X.fs/\∀v,p.2.data≠.cell v):Inv X pins' σ H s := {I.ok,I.os,I.bare,I.base,I.loc,I.cell,I.free,I.dC,λp hp=>(zg.mp hp).elim (λz=>I.pin p (yi _ z)) (h p),I.aZ,I.len}
def L9{N:List Tp}(d:N.Nodup){i j:Nat}{x:Tp}(a:N[i]?=!x)(b:N[j]?=!x):i=j:=do _;{h1,e}:=qp.mp a;{h2,c}:=qp.mp b;(List.getElem_inj d).mp (e.trans c.symm)
def LG(I:Inv X pins σ H s)(hN:X.N.Nodup)(hi:X.N[i]?=!x)(B:Loc X.env.scope x)(r:RelV v u)(h:∀s',Inv X pins (σ.set i (!v)) H s'->(∃a,Heap.SameBut a s.heap s'.heap/\(a=X.env.locals\/X.env.cells.lookup x=!a))->Q Unit.unit s')(hf:autoParam (X.fn x=true\/X.env.scope.names.lookup x=some .local) z14):wpAny M A (storeName X.env x u) Q E s:=do _;{m,hn,hl}:=id I.loc;S:(X.env.scope.kind==.class||(X.env.scope.kind==.module&&X.env.locals != X.env.globals))=false:=(do[I.ok.kind];2);G:i<σ.length:=(do[I.len];(qp.mp hi).1);xA:=I.xA;l:∀{a:To} {h':Heap},(∃o,s.heap.get? a=!o/\H a=none)->Heap.SameBut a s.heap h'->dm X.prog X.w H h':=λ{a h'} ha f b ob e=>(do _;{_,_,C}:=ha;(I.aZ b ob e).cW (λc U t q=>(f.2 c ?_).trans q) (λ_ q=>q) λ_ _ q=>q;(rfl);rfl||t:=t;e<-[C];-e;t<-[C];-t);hk||hk:=B;wpAny_storeName_local hk hn (λh' hn' f=>?_) S;{oL,_,_,Z,_}:=id hn;h _ {I.ok,I.os,I.bare,{λb o e n K B=>?_,λb o e n K B=>?_,I.base.free,λb o e B=>?_,I.base.af,I.base.dU,I.base.dS,λb o xs e n=>(f.2 b (Nat.ne_of_lt (Nat.lt_of_lt_of_le (qG e) I.ok.above))).trans (I.base.dM b o xs e n)},{_,hn',λj y v' g F e3=>?_},λy c e=>?_,I.free,I.dC,λp hp=>?_,l {oL,Z,I.free} f,do 0<|I.len} {_,f,.inl rfl};(f.2 b (qi (zf (qG e) I.ok.above))).trans (I.base.keep b o e n K B);{sl,g}:=I.base.slot b o e n K B;{sl,(f.2 b (qi (zf (qG e) I.ok.above))).trans g};{o',g}:=I.base.there b o e B;{o',(f.2 b (qi (zf (qG e) I.ok.above))).trans g};J<|j=i;!J;g<-[hi];-g;F<-[bc G];-F;{u,r,.inl {hk,do 0}};F<-[jd (Ne.symm J)];{u',Y,q}:=hl j y v' g F e3;{u',Y,?_};{k,e}||{k,c,e,z}:=q;.inl ⟨k,?_⟩;this:y≠x:=λe=>J (L9 hN g (e▸hi));#[this,e];.inr {k,c,e,z.sameBut f (xA y c e)};{U,z}:=I.cell y c e;{U,z.sameBut f (xA y c e)};{e,n,ne,W,d}:=I.pin p hp;{(f.2 p.1 ne).trans e,n,ne,W,d};D:X.fn x=true:=(do z||z:=hf;z;hk<-[z];-hk);{c,t}:=I.ok.has x (.inl hk);{U,z}:=I.cell x c t;wpAny_storeName_cell I.ok.kind hk t z (λh' L f=>?_);{oc,P,R}:=id z;h {s with heap:=h'} {I.ok,I.os,I.bare,{λb o e n K B=>?_,λb o e n K B=>?_,I.base.free,λb o e B=>?_,I.base.af,I.base.dU,I.base.dS,λb o xs e n=>(f.2 b (Nat.ne_of_lt (Nat.lt_of_lt_of_le (qG e) (I.ok.zC x c D t)))).trans (I.base.dM b o xs e n)},{m,hn.sameBut f (Ne.symm (xA x c t)),λj y v' g F e3=>?_},λy T e=>?_,I.free,I.dC,λp hp=>?_,l {oc,P,I.dC x c t} f,do 0<|I.len} {c,f,.inr t};(f.2 b (qi (zf (qG e) (I.ok.zC x c D t)))).trans (I.base.keep b o e n K B);{sl,g}:=I.base.slot b o e n K B;{sl,(f.2 b (qi (zf (qG e) (I.ok.zC x c D t)))).trans g};{o',g}:=I.base.there b o e B;{o',(f.2 b (qi (zf (qG e) (I.ok.zC x c D t)))).trans g};J<|j=i;!J;g<-[hi];-g;F<-[bc G];-F;{u,r,.inr {.inl hk,c,t,L}};F<-[jd (Ne.symm J)];{u',Y,q}:=hl j y v' g F e3;{u',Y,?_};q||{k,T,e,z'}:=q;.inl q;.inr ⟨k,T,e,z'.sameBut f ?_⟩;(rfl);J (L9 hN g (I.ok.inj _ _ _ e t▸hi));O<|T=c;!O;{_,L};{w2,z2}:=I.cell y T e;{w2,z2.sameBut f O};{e,n,ne,W,d}:=I.pin p hp;{(f.2 p.1 ?_).trans e,n,ne,W,d};(q);e<-[q,P];q':oc=p.2:=qJ e;d U (do[<-q'];R)
def JC(I:Inv X pins σ H s)(c:X.N.Nodup)(hi:X.N[i]?=!x)(b:Loc X.env.scope x)(r:RelV v u)(h:∀s',Inv X pins (σ.set i (!v)) H s'->Q Unit.unit s')(a:autoParam (X.fn x=true\/X.env.scope.names.lookup x=some .local) z14):wpAny M A (storeName X.env x u) Q E s := LG I c hi b r (λs' d _=>h s' d) a
def Inv.ij(I:Inv X pins σ H s)(f:s'.os=s.os)(u:Un (dY X.stack) ch H H' s.heap s'.heap)(d:dm X.prog X.w H' s'.heap)(g:AllBare s'.gens)(a:∀b∈ch,(b∈X.ex\/X.s₀.heap.objs.size<=b)/\b≠X.env.locals/\(∀x c,X.env.cells.lookup x=!c->c≠b)/\∀p∈X.pn++pins,p.1≠b):Inv X pins σ H' s':=do _;{h',g',d',t',o'}:=s';e:o'=s.os:=f;!e;I.call (g':=g') (t':=t') (d':=d') u d g a
end
abbrev XK:=MD->Option To->Hp->Prop
abbrev St:=List (Option V)
abbrev VK:=V->Hp->Prop
abbrev TE:=St->Hp->VK->Prop
abbrev TT:=St->Hp->(Bool->Hp->Prop)->Prop
abbrev TA:=St->Hp->(List V->Hp->Prop)->Prop
structure Ends where
 nx:St->Hp->Prop
 rt:VK
 bk:St->Hp->Prop:=λ_ _=>False
 ct:St->Hp->Prop:=λ_ _=>False
abbrev TS:=Ends->St->Hp->Prop
def EP(X:Cx)(pins:List (To×Obj))(σ:St)(Q:VK)(u:MD)(s':Tj):Prop:=∃v H',Inv X pins σ H' s'/\RelV v u/\Q v H'
def TP(X:Cx)(pins:List (To×Obj))(σ:St)(Q:Bool->Hp->Prop)(b:Bool)(s':Tj):Prop:=∃H',Inv X pins σ H' s'/\Q b H'
def AP(X:Cx)(pins:List (To×Obj))(σ:St)(Q:List V->Hp->Prop)(us:List MD)(s':Tj):Prop:=∃vs H',Inv X pins σ H' s'/\aK vs us/\Q vs H'
def SP(X:Cx)(pins:List (To×Obj))(D:Ends)(f:Flow)(s':Tj):Prop := match f with|.next=>∃σ' H',Inv X pins σ' H' s'/\D.nx σ' H'|.brk=>∃σ' H',Inv X pins σ' H' s'/\D.bk σ' H'|.cont=>∃σ' H',Inv X pins σ' H' s'/\D.ct σ' H'|.ret u=>∃v σ' H',Inv X pins σ' H' s'/\RelV v u/\D.rt v H'
def Sw(X:Cx)(e:Expr)(t:TE):Prop := ∀(pins:List (To×Obj)) (s:Tj) (σ:St) (H:Hp) (Q:VK),Inv X pins σ H s->t σ H Q->wpAny 48 X.A (eval e X.env) (EP X pins σ Q) X.xe s
structure PE(X:Cx)(e:Expr)(t:TE):Prop where run:Sw X e t
instance Te{X:Cx}{e:Expr}{t:TE}:CoeFun (PE X e t) λ_=>Sw X e t:={PE.run}
def Si(X:Cx)(e:Expr)(t:TT):Prop := ∀(pins:List (To×Obj)) (s:Tj) (σ:St) (H:Hp) (Q:Bool->Hp->Prop),Inv X pins σ H s->t σ H Q->wpAny 48 X.A (isTrue e X.env (eval e X.env)) (TP X pins σ Q) X.xe s
structure PT(X:Cx)(e:Expr)(t:TT):Prop where run:Si X e t
instance Sz{X:Cx}{e:Expr}{t:TT}:CoeFun (PT X e t) λ_=>Si X e t:={PT.run}
def qY(X:Cx)(e:Expr)(t:TT):Prop := ∀(a:Sem MD) (pins:List (To×Obj)) (s:Tj) (σ:St) (H:Hp) (Q:Bool->Hp->Prop),Inv X pins σ H s->t σ H Q->wpAny 48 X.A (isTrue e X.env a) (TP X pins σ Q) X.xe s
structure PW(X:Cx)(e:Expr)(t:TT):Prop where run:qY X e t
instance SQ{X:Cx}{e:Expr}{t:TT}:CoeFun (PW X e t) λ_=>qY X e t:={PW.run}
def PW.pt(h:PW X e t):PT X e t:={h _}
def Sy(X:Cx)(es:List Expr)(t:TA):Prop := ∀(pos:Pos) (pins:List (To×Obj)) (s:Tj) (σ:St) (H:Hp) (Q:List V->Hp->Prop),Inv X pins σ H s->t σ H Q->wpAny 48 X.A (spliced (backTo pos (starEach es X.env))) (AP X pins σ Q) X.xe s
structure PA(X:Cx)(es:List Expr)(t:TA):Prop where run:Sy X es t
instance SV{X:Cx}{es:List Expr}{t:TA}:CoeFun (PA X es t) λ_=>Sy X es t:={PA.run}
def Sk(X:Cx)(st:Stmt)(t:TS):Prop := ∀(pins:List (To×Obj)) (s:Tj) (σ:St) (H:Hp) (D:Ends),Inv X pins σ H s->t D σ H->wpAny 48 X.A (exec st X.env) (SP X pins D) X.xe s
structure PS(X:Cx)(st:Stmt)(t:TS):Prop where run:Sk X st t
instance SF{X:Cx}{st:Stmt}{t:TS}:CoeFun (PS X st t) λ_=>Sk X st t:={PS.run}
def LA(X:Cx)(st:List Stmt)(t:TS):Prop := ∀(pins:List (To×Obj)) (s:Tj) (σ:St) (H:Hp) (D:Ends),Inv X pins σ H s->t D σ H->wpAny 48 X.A (execs st X.env) (SP X pins D) X.xe s
structure iL(X:Cx)(st:List Stmt)(t:TS):Prop where run:LA X st t
instance Sq{X:Cx}{st:List Stmt}{t:TS}:CoeFun (iL X st t) λ_=>LA X st t:={iL.run}
def bI{α:Type}{t:Sem α}{Q b:α->Tj->Prop}{M:Model}{A:Around}{E:KE}{s:Tj}(h:wpAny M A t Q E s)(c:∀a s,Q a s->b a s):wpAny M A t b E s:=qM h c λ_ _ x=>x
section
variable {X:Cx}
inductive lW(i:Nat)(σ:St)(H:Hp)(Q:VK):Prop
 |mk(v:_)(_:σ[i]?=!(!v))(_:Q v H)
def tC(v:V):TE:=λ_ H Q=>Q v H
def E_(p:X.N[i]?=!x)(k:MH X.env.scope x)(g:autoParam ((x==("__debug__":Tp))=false) z12)(f:autoParam ((x==("__classdict__":Tp))=false) z12):PE X (.Name x pos) (lW i):=do _;{?_};(pins,s,σ,H,Q,I,h);{v,e,h}:=h;{m,hn,n}:=I.loc;{u,r,l}:=n i x v p e k;b:EP X pins σ Q u s:={v,H,I,r,h};{d,o}||{d,c,j,a}:=l;wpAny_Name (wpAny_loadName_local I.ok.kind d hn o b) g;d||d:=d;wpAny_Name (wpAny_loadName_cell I.ok.kind d j a b) g;wpAny_Name (wpAny_loadName_free I.ok.kind d j a b f) g
def aD{i j pos}:PE X (.Constant (.int i) j pos) (tC (.int i)):={λ_ _ _ H _ I h=>wpAny_Constant_int {.int i,H,I.tok _,{_,O},h}}
def cw{b j pos}:PE X (.Constant (.bool b) j pos) (tC (.bl b)):={λ_ _ _ H _ I h=>Constant_bool {.bl b,H,I,O,h}}
def dH{j pos}:PE X (.Constant .none j pos) (tC .aS):={λ_ _ _ H _ I h=>Constant_none {.aS,H,I,O,h}}
def aM{x j pos}:PE X (.Constant (.str x) j pos) (tC (.str x)):={λ_ _ _ H _ I h=>Calls.Constant_str {.str x,H,I.tok _,{_,O},h}}
def Gl(X:Cx)(x:Tp):Prop:=X.env.kindOf x=some .globalImplicit
def BC{E:KE}{pins:List (To×Obj)}{s:Tj}{σ:St}{H:Hp}{x:Tp}{u:MD}{pos:Pos}{Q:KE}(I:Inv X pins σ H s)(c:Gl X x)(b:X.mg x=!u)(h:Q u s)(a:autoParam ((x==("__debug__":Tp))=false) z12):wpAny 48 X.A (eval (.Name x pos) X.env) Q E s := Calls.Name_function_global I.ok.kind c (Calls.loadGlobal_global (do[I.ok.glob];I.mod.glob.keeps I.bk) b h) a
def iC{E:KE}{pins:List (To×Obj)}{s:Tj}{σ:St}{H:Hp}{x:Tp}{u:MD}{pos:Pos}{Q:KE}(I:Inv X pins σ H s)(b:Gl X x)(c:X.mg x=none)(a:bootBuiltins x=!u)(h:Q u s)(hn:autoParam (x≠"__name__") z12)(d:autoParam ((x==("__debug__":Tp))=false) z12):wpAny 48 X.A (eval (.Name x pos) X.env) Q E s:=do _;{e,h1,h2}:=I.mod.blt;Calls.Name_function_global I.ok.kind b (Calls.loadGlobal_builtin (do[I.ok.glob];I.mod.glob.keeps I.bk) c (do[I.ok.blt];h1.keeps I.bk) ((h2 x hn).trans a) h) d
def Fk(c:Gl X x)(b:X.mg x=!u)(r:RelV v u)(a:autoParam ((x==("__debug__":Tp))=false) z12):PE X (.Name x pos) (tC v):={λ_ _ _ H _ I h=>BC I c b {v,H,I,r,h} a}
def O4(b:Gl X x)(c:X.mg x=none)(d:bootBuiltins x=!u)(r:RelV v u)(hn:autoParam (x≠"__name__") z12)(a:autoParam ((x==("__debug__":Tp))=false) z12):PE X (.Name x pos) (tC v):={λ_ _ _ H _ I h=>iC I b c d {v,H,I,r,h} hn a}
variable {a b:Expr}{ta tb:TE}{pos:Pos}
inductive S_(Q:Bool->Hp->Prop)(x:V)(H1:Hp):Prop
 |mk(c:_)(_:x=.bl c)(_:Q c H1)
def tB(t:TE):TT:=λσ H Q=>t σ H λx H1=>S_ Q x H1
def eJ(h:PE X e t)(f:autoParam (∀a,isTrue e X.env a=(do{let v <-a;standAt e.pos;holding [v] (truthy v)})) z15):PT X e (tB t):=do _;{?_};(pins,s,σ,H,Q,I,g);isTrue_plain (bI (h pins s σ H _ I g) λv j ⟨x,H1,c,b,i⟩=>?_) (f _);{d,rfl,q}:=i;-b;wpAny_truthy_bool {H1,c,q}
variable {tA tB':TT}{rest:List Expr}
def NB(t u:TT):TT:=λσ H Q=>t σ H λc H1=>if c=true then u σ H1 Q else Q false H1
def Ti(t u:TT):TT:=λσ H Q=>t σ H λc H1=>if c=true then Q true H1 else u σ H1 Q
def Oy(t:TT):TT:=λσ H Q=>t σ H λc H1=>Q (not c) H1
def iI(b:PT X a tA):PW X (.BoolOp .And [a] pos) tA:=do _;{?_};(f,pins,s,σ,H,Q,I,h);isTrue_and (bI (b pins s σ H Q I h) λc d e=>?_);(by cases c with|true|false=>?_);isTrue_and_nil e;e
def xM(b:PT X a tA):PW X (.BoolOp .Or [a] pos) tA:=do _;{?_};(f,pins,s,σ,H,Q,I,h);isTrue_or (bI (b pins s σ H Q I h) λc d e=>?_);(by cases c with|false|true=>?_);isTrue_or_nil e;e
def iP(j:PT X a tA)(g:PW X (.BoolOp .And (b::rest) pos) tB'):PW X (.BoolOp .And (a::b::rest) pos) (NB tA tB'):=do _;{?_};(i,pins,s,σ,H,Q,I,h);isTrue_and (bI (j pins s σ H _ I h) λc f ⟨H1,d,e⟩=>?_);(by cases c with|true|false=>?_);g i pins f σ H1 Q d e;{H1,d,e}
def jJ(j:PT X a tA)(g:PW X (.BoolOp .Or (b::rest) pos) tB'):PW X (.BoolOp .Or (a::b::rest) pos) (Ti tA tB'):=do _;{?_};(i,pins,s,σ,H,Q,I,h);isTrue_or (bI (j pins s σ H _ I h) λc f ⟨H1,d,e⟩=>?_);(by cases c with|true|false=>?_);{H1,d,e};g i pins f σ H1 Q d e
def DE(b:PT X a tA):PT X (.UnaryOp .Not a pos) (Oy tA):=do _;{?_};(pins,s,σ,H,Q,I,h);isTrue_not (b pins s σ H (λc H1=>Q (not c) H1) I h)
inductive F_(tb:TE)(σ:St)(Q:VK)(x:V)(H1:Hp):Prop
 |mk(c:_)(_:x=.bl c)(_:if c=true then tb σ H1 Q else Q (.bl false) H1)
def Ka(ta tb:TE):TE:=λσ H Q=>ta σ H λx H1=>F_ tb σ Q x H1
inductive KS(tb:TE)(σ:St)(Q:VK)(x:V)(H1:Hp):Prop
 |mk(c:_)(_:x=.bl c)(_:if c=true then Q (.bl true) H1 else tb σ H1 Q)
def Pf(ta tb:TE):TE:=λσ H Q=>ta σ H λx H1=>KS tb σ Q x H1
def xh{op}(h:PE X a t):PE X (.BoolOp op [a] pos) t:={λpins s σ H Q I b=>BoolOp_one (h pins s σ H Q I b)}
def HR(j:PE X a ta)(i:PE X (.BoolOp .And (b::rest) pos) tb):PE X (.BoolOp .And (a::b::rest) pos) (Ka ta tb):=do _;{?_};(pins,s,σ,H,Q,I,h);BoolOp_and (bI (j pins s σ H _ I h) λv g ⟨x,H1,e,f,d⟩=>?_);{c,rfl,d}:=d;-f;wpAny_truthy_bool ?_;(by cases c with|true|false=>?_);i pins g σ H1 Q e d;{.bl false,H1,e,O,d}
def xY(j:PE X a ta)(i:PE X (.BoolOp .Or (b::rest) pos) tb):PE X (.BoolOp .Or (a::b::rest) pos) (Pf ta tb):=do _;{?_};(pins,s,σ,H,Q,I,h);BoolOp_or (bI (j pins s σ H _ I h) λv g ⟨x,H1,e,f,d⟩=>?_);{c,rfl,d}:=d;-f;wpAny_truthy_bool ?_;(by cases c with|false|true=>?_);i pins g σ H1 Q e d;{.bl true,H1,e,O,d}
def S6(t:TT)(ta tb:TE):TE:=λσ H Q=>t σ H λc H1=>if c=true then ta σ H1 Q else tb σ H1 Q
def rZ(k:PT X c tA)(i:PE X a ta)(j:PE X b tb):PE X (.IfExp c a b pos) (S6 tA ta tb):=do _;{?_};(pins,s,σ,H,Q,I,h);wpAny_IfExp (bI (k pins s σ H _ I h) λd f ⟨H1,e,g⟩=>?_);(by cases d with|true|false=>?_);i pins f σ H1 Q e g;j pins f σ H1 Q e g
end
def az(H:Hp)(a:To)(xs:List V):Prop := Rd H a (.lst xs)
def aQ(H:Hp)(a:To)(xs:List V):Prop := Rd H a (.tup xs)
def mQ:MD->Option V|.none=>some .aS|.bool b=>!(.bl b)|.int i _=>!(.int i)|.str x _=>!(.str x)|.bytes b _=>!(.pZ b)|.float b _=>!(.Gq b)|.ref a=>! (.ref a)|.type n=>!(.ty n)|_=>none
def RelV.abs(r:RelV x u):mQ u=!x:=do(by cases x with|aS|bl _|int _|str _|pZ _|Gq _|ref _|ty _=>?_);-r;2;-r;2;{t,rfl}:=r;2;{t,rfl}:=r;2;{t,rfl}:=r;2;{t,rfl}:=r;2;-r;2;-r;2
theorem RelV.inj(r:RelV x u)(q:RelV y u):x=y:=qJ (r.abs.symm.trans q.abs)
theorem aK.inj:∀{xs ys:List V} {us:List MD},aK xs us->aK ys us->xs=ys|_,_,_,.nil,.nil=>rfl|_,_,_,.cons r t,.cons r' t'=>do[r.inj r',aK.inj t t']
section
variable {X:Cx}{pins:List (To×Obj)}{σ:St}{H:Hp}{s:Tj}{a:To}{xs ys:List V}
def az.of(h:H a=! (.lst xs)):az H a xs:=.inl h
def aQ.of(h:H a=! (.tup xs)):aQ H a xs:=.inl h
def Inv.list(I:Inv X pins σ H s)(h:az H a xs):∃its:List MD,aK xs its/\PlainL s.heap a its.toArray/\xs.length<=sizeLine:=do _;{z,its,n,r,e}:=Rd.ok h I.aZ;{its,r,{_,n,e,O,O,O},z}
def Inv.tuple(I:Inv X pins σ H s)(h:aQ H a xs):∃its:List MD,aK xs its/\IsTup s.heap a its.toArray/\xs.length<=sizeLine:=do _;{z,its,r,p}:=Rd.ok h I.aZ;{its,r,p,z}
def Inv.fy(I:Inv X pins σ H s)(h:az H a xs)(h':az H a ys):xs=ys:=do _;{its,r,{o,n,e,_,_,d},_}:=I.list h;{its',c,{o',n',b,_,_,d'},_}:=I.list h';b<-[e];-b;d'<-[d];(by injection d' with d1 _);this:its=its':=(do 0<|congrArg Array.toList d1);!this;r.inj c
end
abbrev Cx.iX(X:Cx)(E:KE):Cx:={X with xe:=E}
abbrev Cx.wD(X:Cx):Cx:=X.iX λ_ _=>False
theorem Cx.Ok.iX{X:Cx}(ok:X.Ok)(E:KE):(X.iX E).Ok := {ok.mod,ok.kind,ok.glob,ok.blt,ok.above,ok.inj,ok.has,ok.zC,ok.hd,ok.frames,ok.MT,ok.Sl,ok.bs,ok.uQ,ok.uv,ok.wN,ok.d9,ok.wK}
def Cx.Ok.dW{X:Cx}{E:KE}(ok:(X.iX E).Ok):X.Ok := {ok.mod,ok.kind,ok.glob,ok.blt,ok.above,ok.inj,ok.has,ok.zC,ok.hd,ok.frames,ok.MT,ok.Sl,ok.bs,ok.uQ,ok.uv,ok.wN,ok.d9,ok.wK}
section
variable {X:Cx}{pins:List (To×Obj)}{σ:St}{H:Hp}{s:Tj}{E:KE}
theorem Inv.iX(I:Inv X pins σ H s)(E:KE):Inv (X.iX E) pins σ H s:={I.ok.iX E,I.os,I.bare,I.base,I.loc,I.cell,I.free,I.dC,I.pin,I.aZ,I.len}
theorem Inv.dW(I:Inv (X.iX E) pins σ H s):Inv X pins σ H s:={I.ok.dW,I.os,I.bare,I.base,I.loc,I.cell,I.free,I.dC,I.pin,I.aZ,I.len}
theorem SP.dW(h:SP (X.iX E) pins D f s'):SP X pins D f s':=do(by cases f with|next|brk|cont|ret u=>?_);{σ',H',I,q}:=h;{σ',H',I.dW,q};{σ',H',I,q}:=h;{σ',H',I.dW,q};{σ',H',I,q}:=h;{σ',H',I.dW,q};{v,σ',H',I,r,q}:=h;{v,σ',H',I.dW,r,q}
theorem iL.wD{st:List Stmt}{t:TS}(h:iL X.wD st t):iL X st t:={λpins s σ H D I a => qM (h pins s σ H D (I.iX _) a) (λ_ _ q=>q.dW) λ_ _ z=>False.elim z}
end
section
variable {X:Cx}{st:Stmt}{rest:List Stmt}{t u:TS}{e:Expr}{te:TE}{pos:Pos}
def II:TS:=λD σ H=>D.nx σ H
def lN(t u:TS):TS:=λD σ H=>t {D with nx:=u D} σ H
def cg:iL X [] II:={λ_ _ σ H _ I h=>wpAny_execs_nil {σ,H,I,h}}
def ax(h1:PS X st t)(h2:iL X rest u):iL X (st::rest) (lN t u):=do _;{?_};(pins,s,σ,H,D,I,h);wpAny_execs_cons (bI (h1 pins s σ H {D with nx:=u D} I h) λf b q=>?_);(by cases f with|next|ret v|brk|cont=>?_);{σ',H',a,q}:=q;h2 pins b σ' H' D a q;q;q;q
def aF(h1:PS X st t):iL X [st] t:=do _;{?_};(pins,s,σ,H,D,I,h);wpAny_execs_cons (bI (h1 pins s σ H D I h) λf a q=>?_);(by cases f with|next|ret v|brk|cont=>?_);wpAny_execs_nil q;q;q;q
def Inv.quiet{pins:List (To×Obj)}{σ:St}{H:Hp}{s:Tj}(I:Inv X pins σ H s):interactive X.env=false:=do#[interactive,I.ok.kind]
def xX(te:TE):TS:=λD σ H=>te σ H λ_ H1=>D.nx σ H1
def pL(c:PE X e te)(b:autoParam (swapsWith e none pos.line X.env=pure false) z11):PS X (.Expr e pos) (xX te):=do _;{?_};(pins,s,σ,H,D,I,h);wpAny_Expr_any (bI (c pins s σ H _ I h) λv g ⟨x,H1,a,f,d⟩=>{σ,H1,a,d}) I.quiet b
def OZ(te:TE):TS:=λD σ H=>te σ H D.rt
def aR(c:PE X e te):PS X (.Return (!e) pos) (OZ te):=do _;{?_};(pins,s,σ,H,D,I,h);wpAny_Return_some (bI (c pins s σ H _ I h) λv f ⟨x,H1,b,a,d⟩=>{x,σ,H1,b,a,d})
def Rj(c:TT)(t u:TS):TS:=λD σ H=>c σ H λb H1=>if b=true then t D σ H1 else u D σ H1
def bC(i:PT X c tc)(k:iL X a t)(j:iL X b u):PS X (.If c a b pos) (Rj tc t u):=do _;{?_};(pins,s,σ,H,D,I,h);wpAny_If (bI (i pins s σ H _ I h) λd f ⟨H1,e,g⟩=>?_);(by cases d with|true|false=>?_);k pins f σ H1 D e g;j pins f σ H1 D e g
end
abbrev TG:=V->St->Hp->(St->Hp->Prop)->Prop
abbrev Gk:=List V->St->Hp->(St->Hp->Prop)->Prop
def Sm(X:Cx)(a:Expr)(t:TG):Prop := ∀(pins:List (To×Obj)) (s:Tj) (σ:St) (H:Hp) (v:V) (u:MD) (Q:St->Hp->Prop),Inv X pins σ H s->RelV v u->t v σ H Q-> wpAny 48 X.A (assign a X.env u) (λ_ s'=>∃σ' H',Inv X pins σ' H' s'/\Q σ' H') X.xe s
structure PG(X:Cx)(target:Expr)(t:TG):Prop where run:Sm X target t
instance Ta{X:Cx}{a:Expr}{t:TG}:CoeFun (PG X a t) λ_=>Sm X a t:={PG.run}
def ID(X:Cx)(ts:List Expr)(t:Gk):Prop := ∀(pins:List (To×Obj)) (s:Tj) (σ:St) (H:Hp) (vs:List V) (us:List MD) (Q:St->Hp->Prop),Inv X pins σ H s->aK vs us->t vs σ H Q-> wpAny 48 X.A (assignInOrder ((assignEach ts X.env).map (·.2)) us) (λ_ s'=>∃σ' H',Inv X pins σ' H' s'/\Q σ' H') X.xe s
structure CH(X:Cx)(ts:List Expr)(t:Gk):Prop where run:ID X ts t
instance Sf{X:Cx}{ts:List Expr}{t:Gk}:CoeFun (CH X ts t) λ_=>ID X ts t:={CH.run}
abbrev IC:=V->V->V->Hp->(Hp->Prop)->Prop
def Lp(X:Cx)(t:IC):Prop := ∀(pins:List (To×Obj)) (s:Tj) (σ:St) (H:Hp) (o i v:V) (b a u:MD) (Q:Hp->Prop),Inv X pins σ H s->RelV o b->RelV i a->RelV v u->t o i v H Q-> wpAny 48 X.A (setItem b a u) (λ_ s'=>∃H',Inv X pins σ H' s'/\Q H') X.xe s
section
variable {X:Cx}{pos:Pos}
def cP(i:Nat):TG:=λv σ H Q=>Q (σ.set i (!v)) H
def cj(c:X.N.Nodup)(hi:X.N[i]?=!x)(b:Loc X.env.scope x)(a:autoParam (X.fn x=true\/X.env.scope.names.lookup x=some .local) z14):PG X (.Name x pos) (cP i):=do _;{?_};(pins,s,σ,H,v,u,Q,I,r,h);wpAny_assign_Name (JC I c hi b r (λs' d=>{_,H,d,h}) a)
def CM:Gk:=λvs σ H Q=>vs=[]/\Q σ H
inductive jL(t:TG)(u:Gk)(vs:List V)(σ:St)(H:Hp)(Q:St->Hp->Prop):Prop
 |mk(v r:_)(_:vs=v::r)(_:t v σ H λσ' H'=>u r σ' H' Q)
def gK:CH X [] CM:=do _;{?_};(pins,s,σ,H,vs,us,Q,I,r,h);{e,h}:=h;!e;-r;assignInOrder_nil {σ,H,I,h}
def cN(h1:PG X e t)(h2:CH X es u)(f:autoParam ((assignEach (e::es) X.env).map (·.2)=assign e X.env::(assignEach es X.env).map (·.2)) z11):CH X (e::es) (jL t u):=do _;{?_};(pins,s,σ,H,vs,us,Q,I,r,h);{v,j,g,h}:=h;!g;(by cases r with|cons r b=>?_);[f];assignInOrder_cons (bI (h1 pins s σ H _ _ _ I r h) λ_ d ⟨a,H1,c,i⟩=>?_);h2 pins d a H1 _ _ Q c b i
inductive uJ(n:Nat)(t:Gk)(v:V)(σ:St)(H:Hp)(Q:St->Hp->Prop):Prop
 |mk(a xs:_)(_:v=.ref a)(_:aQ H a xs)(_:xs.length=n)(_:t xs σ H Q)
def iD(m:X.calm=true)(h:CH X es t)(hn:autoParam ((assignEach es X.env).length=n) z11)(c:autoParam ((assignEach es X.env).findIdx? (·.1)=none) z11):PG X (.Tuple es k pos) (uJ n t):=do _;{?_};(pins,s,σ,H,v,u,Q,I,r,d);{a,xs,l,p,j,d}:=d;!l;-r;{its,f,q,hz}:=I.tuple p;assign_Tuple_tuple (I.ok.hd m) q (do#[hn,<-j,f.length]) c λh' g=>?_;i:Inv X pins σ H {s with heap:=h'}:=I.kept (t':=s.toks) λb o e=>g b o (qi (qG e)) e;h pins _ σ H xs _ Q i (do 0<|f) d
def RS(to b:TE)(t:IC):TG:=λv σ H Q=>to σ H λo H1=>b σ H1 λi H2=>t o i v H2 λa=>Q σ a
def K9{to c:TE}(f:PE X o to)(hi:PE X i c)(n:Lp X t)(w:autoParam (∀v,assign (.Subscript o i pos) X.env v=(do{let a <-holding [v] (eval o X.env);let b <-holding [v,a] (eval i X.env);standAt pos;holding [v,a,b] (setItem a b v);release [v,a,b] []})) z15):PG X (.Subscript o i pos) (RS to c t):=do _;{?_};(pins,s,σ,H,v,u,Q,I,r,h);[w];qA (qK (bI (f pins s σ H _ I h) λa k ⟨x,H1,j,e,q⟩=>?_));qA (qK (bI (hi pins k σ H1 _ j q) λb s2 ⟨y,H2,l,d,m⟩=>?_));qA (wpAny_standAt (qA (qK (bI (n pins s2 σ H2 x y v a b u _ l e d r m) λ_ A ⟨g,z,p⟩=>?_))));wpAny_release {σ,g,z,p}
def se(te:TE)(g:TG):TS:=λD σ H=>te σ H λx H1=>g x σ H1 D.nx
def LP{g:TG}(i:PE X e te)(c:PG X tg g)(f:autoParam (swapsWithSole [tg] e pos.line X.env=pure false) z11)(j:autoParam (swappedStores [tg] e X.env=pure none) z11)(h1:autoParam ((assignEach [tg] X.env).map (·.2)=[assign tg X.env]) z11):PS X (.Assign [tg] e pos) (se te g):=do _;{?_};(pins,s,σ,H,D,I,h);wpAny_Assign_stores (bI (i pins s σ H _ I h) λv d ⟨x,H1,b,a,k⟩=>?_) f j;[h1];bI (c pins d σ H1 x v _ b a k) λ_ s2 q=>q
def G_(l:X.N.Nodup)(hi:X.N[i]?=!x)(c:Loc X.env.scope x)(j:PE X e te)(g:autoParam (swapsWith e (!(.Name x pos')) pos.line X.env=pure false) z11)(b:autoParam (X.fn x=true\/X.env.scope.names.lookup x=some .local) z14) : PS X (.Assign [.Name x pos'] e pos) (se te (cP i)):=do _;{?_};(pins,s,σ,H,D,I,h);wpAny_Assign_Name (bI (j pins s σ H _ I h) λv m ⟨y,H1,d,a,k⟩=>?_) g;JC d l hi c a (λs2 f=>{_,H1,f,k}) b
end
section
variable {X:Cx}{pos:Pos}
def Ei(c:TT)(tb:TS):TS:=λD σ H=>∃W:Nat->St->Hp->Prop,(∃m,W m σ H)/\∀m σ H,W m σ H-> c σ H λb H1=>if b=true then ∃N:St->Hp->Prop,(∀σ' H',N σ' H'->∃a,a<m/\W a σ' H')/\tb {D with nx:=N,ct:=N,bk:=D.nx} σ H1 else D.nx σ H1
def xr(hp:PassesOwn 48 X.A X.env X.xe)(y:PT X c tc)(C:iL X e tb):PS X (.While c e [] pos) (Ei tc tb):=do _;{?_};(pins,s,σ,H,D,I,h);{W,{t,z},turn}:=h;wpAny_While (codeAny_whileLoop (λn s'=>∃σ' H',Inv X pins σ' H' s'/\W n σ' H') ?_ t {σ,H,I,z});(n,x,{d,H1,u,B});wpAny_passesOwn hp (bI (y pins x d H1 _ u (turn n d H1 B)) λb s2 ⟨H2,q,i⟩=>?_);(by cases b with|true|false=>?_);{N,r,i}:=i;[qF rfl];wpAny_passesOwn hp (bI (C pins s2 d H2 _ q i) λf E j=>?_);(by cases f with|next|cont|brk|ret v=>?_);{a,g,l,p}:=j;{m,k,o}:=r a g p;{m,k,a,g,l,o};{a,g,l,p}:=j;{m,k,o}:=r a g p;{m,k,a,g,l,o};j;j;[qB qo];wpAny_execs_nil {d,H2,q,i}
end
structure It where
 go:Nat->Hp->Prop
 xq:Nat->Hp->V->Hp->Prop
 stop:Nat->Hp->Prop
def eV(X:Cx)(pins:List (To×Obj))(H:Hp)(b:To):Prop := H b=none/\b≠X.env.locals/\b∉X.fs/\(b∈X.ex\/X.s₀.heap.objs.size<=b)/\(∀x c,X.env.cells.lookup x=!c->c≠b)/\∀p∈X.pn++pins,p.1≠b
def Inv.lM{X:Cx}{pins:List (To×Obj)}{σ:St}{H H':Hp}{s:Tj}{b:To}(I:Inv X pins σ H s)(a:↑s<=b)(hn:H' b=none):eV X pins H' b:=do _;{hn,zo (zf I.lt a),I.vV a,.inr (qf I.sz a),λx c e z=>?_,λp hp z=>?_};{v,q}:=I.cell x c e;absurd (zf q.lt (do[z];a)) (wk _);absurd (zf (qG (I.pin p hp).1) (do[z];a)) (wk _)
structure Turn(P:Program)(w:World)(K:PySem.W.Frag)(tg:Expr)(J:It)(fp:List To)(it:To)(tn:Nat->Heap->Prop):Prop where
 mem:it∈fp
 obj:∀i h,tn i h->∀b∈fp,∃o,h.get? b=!o/\∀v,o.data≠.cell v
 keep:∀i h h',tn i h->(∀b∈fp,∀o,h.get? b=!o->h'.get? b=!o)->tn i h'
 item:∀(X:Cx),X.prog=P->X.w=w->X.K=K->X.calm=true->∀(i:Nat) (pins:List (To×Obj)) (s:Tj) (σ:St) (H:Hp) (E:KE),Inv X pins σ H s->(∀b∈fp,eV X pins H b)->tn i s.heap->J.go i H->
  wpAny (model P w) X.A (pyNext (.ref it)) (λr s1=>∃u,r=some u ∧
   wpAny (model P w) X.A (letOwnedTupleGo tg (.ref it) u) (λ_ s2=>∃x H',Inv X pins σ H' s2/\RelV x u/\J.xq i H x H'/\tn (i+1) s2.heap/\∀b∈fp,H' b=none) E s1) E s
 done:∀(X:Cx),X.prog=P->X.w=w->X.K=K->X.calm=true->∀(i:Nat) (pins:List (To×Obj)) (s:Tj) (σ:St) (H:Hp) (E:KE),Inv X pins σ H s->(∀b∈fp,eV X pins H b)->tn i s.heap->J.stop i H->
  wpAny (model P w) X.A (pyNext (.ref it)) (λr s1=>r=none/\Inv X pins σ H s1) E s
 self:∀(A:Around) (i:Nat) (s:Tj) (Q:KE) (E:KE),tn i s.heap->Q (.ref it) s->wpAny (model P w) A (pyIter (.ref it)) Q E s
abbrev TI:=St->Hp->(It->Hp->Prop)->Prop
def Pb(X:Cx)(pins:List (To×Obj))(σ:St)(tg:Expr)(R:It->Hp->Prop)(a:MD)(s2:Tj):Prop := ∃(it:To) (fp:List To) (c:Nat->Heap->Prop) (J:It) (H':Hp),a=.ref it/\Inv X pins σ H' s2/\Turn X.prog X.w X.K tg J fp it c/\c 0 s2.heap/\(∀b∈fp,eV X pins H' b)/\R J H'
def Sr(X:Cx)(tg a:Expr)(c:TI):Prop := ∀(pins:List (To×Obj)) (s:Tj) (σ:St) (H:Hp) (R:It->Hp->Prop),Inv X pins σ H s->c σ H R-> wpAny 48 X.A (eval a X.env) (λv b=>wpAny 48 X.A (pyIter v) (Pb X pins σ tg R) X.xe b) X.xe s
structure PI(X:Cx)(tg iter:Expr)(wi:TI):Prop where run:Sr X tg iter wi
instance SJ{X:Cx}{tg a:Expr}{b:TI}:CoeFun (PI X tg a b) λ_=>Sr X tg a b:={PI.run}
def sh(b:s.heap.get? it=!o)(c:o.cls=.type n)(d:o.data=.fields vs)(hn:["enumerate","zip","dict_itemiterator","dict_reverseitemiterator","odict_iterator","itertools.zip_longest","itertools.pairwise"].contains n=false)(a:Q Unit.unit s):wpAny M A (letOwnedTupleGo tg (.ref it) u) Q E s:=do@letOwnedTupleGo;by cases tg <;> first|exact qE a|cases u <;> first|exact qE a|refine qA (wpAny_load b ?_);rw[c,d];show wpAny M A (if(["enumerate","zip","dict_itemiterator","dict_reverseitemiterator","odict_iterator","itertools.zip_longest","itertools.pairwise"].contains n&&vs[0]?==!(rawInt _))=true then _ else _) Q E s;rw[qB (do(h);h<-[hn,Bool.false_and];-h)];exact qE a
def Gv(a:To):It := {λi H=>∃xs x,az H a xs/\xs[i]?=!x,λi H x H'=>H'=H/\∀xs,az H a xs->xs[i]?=!x,λi H=>∃xs,az H a xs/\xs.length<=i}
def Gm(lo:Int)(n:Nat):It:={λi _=>i<n,λi H x H'=>H'=H/\x=.int (lo+i),λi _=>n<=i}
def PP{P:Program}{w:World}{K:PySem.W.Frag}{tg:Expr}(a it:To):Turn P w K tg (Gv a) [it] it (λi h=>h.IsListIter it a i) where
 mem:=by simp
 obj:=λi h st b f=>by
  have e:b=it:=by simpa using f
  subst e;obtain⟨o,e,c,d⟩:=st;exact{o,e,λv z=>by rw[d]at z;cases z}
 keep:=λi h h' st k=>st.at λo e=>k it (by simp) o e
 item:=by
  intro X B n y G i pins s σ H E I l st r;subst B n y;obtain⟨xs,x,j,D⟩:=r;obtain⟨its,q,p,hz⟩:=I.list j;obtain⟨u,J,Q⟩:=q.get D;obtain⟨t,C,R,A,m,F⟩:=l it (by simp);refine wpAny_pyNext_list_item st p.isList (x:=u) (by simpa using J) λh' g M=>?_;have N:Inv X pins σ H { s with heap:=h' }:=I.turned (t':=s.toks) (λb o f e=>(M.2 b f).trans e) t C A m F;obtain⟨o,e,c,d⟩:=id g;exact{u,O,sh (s:={ s with heap:=h' }) e c d ⋯ {x,H,N,Q,{O,λys L=>by rw[I.fy L j];exact D},g,λb f=>(l b f).1}}
 done:=by
  intro X B n y G i pins s σ H E I l st r;subst B n y;obtain⟨xs,j,D⟩:=r;obtain⟨its,q,p,hz⟩:=I.list j;obtain⟨t,C,R,A,m,F⟩:=l it (by simp);have T:=q.length;exact wpAny_pyNext_list_end (I.ok.hd G) st p.isList (by simp;omega) λh' S=>{O,I.turned (t':=s.toks) (λb o f e=>S b o f e) t C A m F}
 self:=λ_ _ _ _ _ st h=>wpAny_pyIter_listiter st h
def NO{P:Program}{w:World}{K:PySem.W.Frag}{tg:Expr}(it:To)(lo:Int)(n:Nat):Turn P w K tg (Gm lo n) [it] it (λi h=>IsRangeIter h it (lo+(i:Nat) * 1) ((n:Int) - (i:Nat)) 1) where
 mem:=by simp
 obj:=λi h st b a=>by
  have e:b=it:=by simpa using a
  subst e
  exact{_,st,λv z=>by
   have A:Data.fields _=Data.cell v:=z
   cases A}
 keep:=λi h h' st k=>k it (by simp) _ st
 item:=by
  intro X q g m u i pins s σ H E I d st j;subst q g m;obtain⟨l,r,D,p,f,x⟩:=d it (by simp);have W:=Walks.range (prog:=X.prog) (w:=X.w) (I.ok.hd u) it lo 1 n;refine W.item i s _ _ j st λv h' tk y c C=>?_;obtain⟨t,rfl⟩:=y;have B:Inv X pins σ H { s with heap:=h',toks:=tk }:=I.turned (λb o a e=>C b o (by simpa using a) e) l r p f x;refine{_,O,sh (s:={ s with heap:=h',toks:=tk }) (n:="range_iterator") c rfl rfl ⋯ {.int (lo+i),H,B,{t,?_},{O,O},c,λb a=>(d b a).1}};rw[Int.mul_one]
 done:=by
  intro X q g m u i pins s σ H E I d st j;subst q g m;obtain⟨l,r,D,p,f,x⟩:=d it (by simp);exact wpAny_pyNext_range_end (I.ok.hd u) st (by have:n<=i:=j;omega) λh' F=>{O,I.turned (t':=s.toks) (λb o a e=>F b o a e) l r p f x}
 self:=λ_ _ _ _ _ st h=>wpAny_pyIter_rangeiter st h
section
variable {X:Cx}{tg:Expr}
inductive Ee(R:It->Hp->Prop)(x:V)(H1:Hp):Prop
 |mk(a:_)(_:x=.ref a)(_:(∃xs,az H1 a xs))(_:R (Gv a) H1)
def yV(tl:TE):TI:=λσ H R=>tl σ H λx H1=>Ee R x H1
def RV{tl:TE}(i:PE X l tl):PI X tg l (yV tl):=do _;{?_};(pins,s,σ,H,R,I,h);bI (i pins s σ H _ I h) λv d ⟨x,H1,c,f,k⟩=>?_;{a,e,{xs,g},q}:=k;!e;-f;{its,m,p,hz}:=c.list g;wpAny_pyIter_list p.isList ?_;{↑d,[↑d],_,_,H1,O,c.kept (t':=d.toks) λb o e=>qI _ e,PP a _,{_,qL _ rfl,O,O},λb j=>?_,q};e:b=↑d:=(do 0<|j);!e;c.lM (qb _) (c.aZ.fresh (qb _))
def Nv{pins:List (To×Obj)}{σ:St}{H:Hp}{s:Tj}{R:It->Hp->Prop}{E:KE}{lo hi:Int}{t u v:Tok}{tk:Nat}(I:Inv X pins σ H s)(h1:-(2 ^ 62)<=lo)(h2:lo<2 ^ 62)(h:-(2 ^ 62)<=hi)(c:hi<2 ^ 62)(q:R (Gm lo (hi - lo).toNat) H):wpAny 48 X.A (pyIter (.ref ↑s)) (Pb X pins σ tg R) E {s with heap:=s.heap.push {cls:=.type "range",data:=.fields #[.int lo t,.int hi u,.int 1 v]},toks:=tk}:=do wpAny_pyIter_range (IsRange.new ..) (small_one h1 h2 h c) ?_;a:Inv X pins σ H {s with heap:=s.heap.push {cls:=.type "range",data:=.fields #[.int lo t,.int hi u,.int 1 v]},toks:=tk}:=I.kept λb o e=>qI _ e;{(s.heap.push {cls:=.type "range",data:=.fields #[.int lo t,.int hi u,.int 1 v]}).objs.size,[(s.heap.push {cls:=.type "range",data:=.fields #[.int lo t,.int hi u,.int 1 v]}).objs.size],_,_,H,O,a.kept (t':=tk) λb o e=>qI _ e,NO _ lo (hi - lo).toNat,?_,λb f=>?_,q};g:lo+((0:Nat):Int) * 1=lo:=(do 0);d:(((hi - lo).toNat:Nat):Int) - ((0:Nat):Int)=Builtin.Range.rangeSize lo hi 1:=(by rw[rangeSize_one];split <;> omega);¬IsRangeIter _ _ (lo+((0:Nat):Int) * 1) ((((hi - lo).toNat:Nat):Int) - ((0:Nat):Int)) 1;[g,d];qL _ rfl;e:b=(s.heap.push {cls:=.type "range",data:=.fields #[.int lo t,.int hi u,.int 1 v]}).objs.size:=(do 0<|f);!e;a.lM (qb _) (a.aZ.fresh (qb _))
inductive EU(R:It->Hp->Prop)(vs:List V)(H1:Hp):Prop
 |mk(j:Int)(_:vs=[.int j])(_:-(2 ^ 62)<=j)(_:j<2 ^ 62)(_:R (Gm 0 j.toNat) H1)
def J8(ta:TA):TI:=λσ H R=>ta σ H λvs H1=>EU R vs H1
def jY(g:Gl X "range")(k:X.mg "range"=none)(m:PA X [a] ta)(l:autoParam (starEach [a] X.env=[(false,eval a X.env)]) z11):PI X tg (.Call (.Name "range" p) [a] [] pos) (J8 ta):=do _;{?_};(pins,s,σ,H,R,I,h);Call_ (iC I g k boot_range (PyProof.Rows.callWith_type1 (bI (m pos pins s σ H _ I h) λus n ⟨vs,H1,f,c,b⟩=>?_) l rfl));{j,e,b,i,q}:=b;!e;(by cases c with|cons r d=>?_);-d;{t,rfl}:=r;call_range_1 (Nv f () () b i (do 0<|q))
def Cu(c:TI)(g:TG)(tb:TS):TS:=λD σ H=>c σ H λJ H1=>∃W:Nat->Nat->St->Hp->Prop,(∃m,W 0 m σ H1)/\∀i m σ H,W i m σ H-> (J.stop i H/\D.nx σ H)\/(J.go i H/\∃N:St->Hp->Prop,(∀σ' H',N σ' H'->∃b,b<m/\W (i+1) b σ' H')/\∀x H',J.xq i H x H'->g x σ H' λa H2=>tb {D with nx:=N,ct:=N,bk:=D.nx} a H2)
def dX(fp:List To)(h:Heap):List (To×Obj):=fp.filterMap λb=>(h.get? b).map λo=>(b,o)
def ED(a:b∈fp)(e:h.get? b=!o):(b,o)∈dX fp h:=j8.mpr {b,a,do[e];2}
def GA(hp:p∈dX fp h):p.1∈fp/\h.get? p.1=!p.2:=do _;{b,c,e}:=j8.mp hp;(by cases q:h.get? b with|none|some o=>?_);e<-[q];-e;e<-[q];a:(b,o)=p:=qJ e;!a;{c,q}
def Inv.pinned{pins:List (To×Obj)}{σ:St}{H:Hp}{s:Tj}{fp:List To}(I:Inv X pins σ H s)(f:∀b∈fp,eV X pins H b)(g:∀b∈fp,∃o,s.heap.get? b=!o/\∀v,o.data≠.cell v):Inv X (pins++dX fp s.heap) σ H s := I.gZ λp hp=>(zg.mp hp).elim (λz=>I.pin p (z9 _ z)) λz=>do _;{c,e}:=GA z;{i,j,h,_}:=f p.1 c;{o,a,d}:=g p.1 c;a<-[e];-a;{e,i,j,h,d}
def Inv.fv{pins a:List (To×Obj)}{σ:St}{H:Hp}{s:Tj}(I:Inv X (pins++a) σ H s):Inv X pins σ H s:=I.gZ λp hp=>I.pin p (z9 _ (yi _ hp))
def BU{g:TG}(hp:PassesOwn 48 X.A X.env X.xe)(U:X.calm=true)(hi:PI X tg k Q)(hg:PG X tg g)(q:iL X y tb)(hs:autoParam (∀x,foldedSetIterable k X.env x=pure x) z15):PS X (.For tg k y [] pos) (Cu Q g tb):=do _;{?_};(pins,s,σ,H,D,I,h);wpAny_For (bI (hi pins s σ H _ I h) λv s1 h1=>bI h1 λitv s2 h2=>?_) hs;{it,fp,R,J,H2,e,I2,T,G,f2,W,{m0,w0},turn}:=h2;!e;j:∀{H':Hp},(∀b∈fp,H' b=none)->∀b∈fp,eV X pins H' b:=λhn b q=>{hn b q,(f2 b q).2};codeAny_forLoop_any (λn s'=>∃i σ' H',Inv X pins σ' H' s'/\R i s'.heap/\(∀b∈fp,H' b=none)/\W i n σ' H') ?_ m0 {0,σ,H2,I2,G,λb q=>(f2 b q).1,w0};(n,Y,{i,p,F,S,E,B,w3});{stop,qn}||{go,N,hN,step}:=turn i n p F w3;wpAny_passesOwn hp (bI (T.done X rfl rfl rfl U i pins Y p F X.xe S (j B) E stop) λr s4 ⟨P,I4⟩=>?_);!P;wpAny_execs_nil {p,F,I4,qn};wpAny_passesOwn hp (bI (T.item X rfl rfl rfl U i pins Y p F X.xe S (j B) E go) λr s4 ⟨u,P,h4⟩=>?_);!P;wpAny_passesOwn hp (bI h4 λ_ V ⟨x,Z,I5,r5,y5,z,O⟩=>?_);M:=I5.pinned (j O) (T.obj _ _ z);wpAny_passesOwn hp (bI (hg _ V p Z x u _ M r5 (step x Z y5)) λ_ s6 ⟨L,H6,I6,q6⟩=>?_);wpAny_passesOwn hp (bI (q _ s6 L H6 _ I6 q6) λf K t=>?_);again:∀{a:St} {l:Hp},Inv X (pins++dX fp V.heap) a l K->N a l->∃m,m<n/\∃i σ' H',Inv X pins σ' H' K/\R i K.heap/\(∀b∈fp,H' b=none)/\W i m σ' H':=λ{a l} c C=>(do _;{m',hm,w7}:=hN a l C;{m',hm,i+1,a,l,c.fv,T.keep _ _ _ z λb q o e=>(c.pin (b,o) (z9 _ (z9 _ (ED q e)))).1,λb q=>?_,w7};{o,e,d}:=T.obj _ _ z b q;(c.pin (b,o) (z9 _ (z9 _ (ED q e)))).2.1);(by cases f with|next|cont|brk|ret v=>?_);{a,l,c,C}:=t;again c C;{a,l,c,C}:=t;again c C;{a,l,c,t}:=t;{a,l,c.fv,t};{x7,a,l,c,r7,t}:=t;{x7,a,l,c.fv,r7,t}
end
def Bj{a:To}{xs:List V}{g:TG}{tb:TS}{D:Ends}{σ:St}{H:Hp}(b:Nat->St->Hp->Prop)(h0:b 0 σ H)(j:∀i σ H,i<=xs.length->b i σ H->az H a xs)(h:∀i x σ H,xs[i]?=!x->b i σ H->g x σ H λc H2=>tb {D with nx:=b (i+1),ct:=b (i+1),bk:=D.nx} c H2)(l:∀σ H,b xs.length σ H->D.nx σ H) : ∃W:Nat->Nat->St->Hp->Prop,(∃m,W 0 m σ H)/\∀i m σ H,W i m σ H-> ((Gv a).stop i H/\D.nx σ H)\/((Gv a).go i H/\∃N:St->Hp->Prop,(∀σ' H',N σ' H'->∃f,f<m/\W (i+1) f σ' H')/\∀x H',(Gv a).xq i H x H'->g x σ H' λc H2=>tb {D with nx:=N,ct:=N,bk:=D.nx} c H2):=do _;{λi m σ H=>m=xs.length - i/\i<=xs.length/\b i σ H,{xs.length,do 0,Nat.zero_le _,h0},?_};(i,m,σ,H,{rfl,hi,p});q:=j i σ H hi p;d<|i<xs.length;.inr {{xs,xs[i],q,do#[d]},b (i+1),λσ' H' k=>{xs.length - (i+1),(),O,d,k},λx H' y=>?_};{e,y}:=y;!e;h i x σ _ (y xs q) p;e:i=xs.length:=();!e;.inl {{xs,q,qb _},l σ H p}
def RF{lo:Int}{n:Nat}{g:TG}{tb:TS}{D:Ends}{σ:St}{H:Hp}(a:Nat->St->Hp->Prop)(h0:a 0 σ H)(f:∀i σ H,i<n->a i σ H->g (.int (lo+i)) σ H λc H2=>tb {D with nx:=a (i+1),ct:=a (i+1),bk:=D.nx} c H2)(j:∀σ H,a n σ H->D.nx σ H) : ∃W:Nat->Nat->St->Hp->Prop,(∃m,W 0 m σ H)/\∀i m σ H,W i m σ H-> ((Gm lo n).stop i H/\D.nx σ H)\/((Gm lo n).go i H/\∃N:St->Hp->Prop,(∀σ' H',N σ' H'->∃d,d<m/\W (i+1) d σ' H')/\∀x H',(Gm lo n).xq i H x H'->g x σ H' λc H2=>tb {D with nx:=N,ct:=N,bk:=D.nx} c H2):=do _;{λi m σ H=>m=n - i/\i<=n/\a i σ H,{n,do 0,Nat.zero_le _,h0},?_};(i,m,σ,H,{rfl,hi,p});b<|i<n;.inr {b,a (i+1),λσ' H' h=>{n - (i+1),(),O,b,h},λx H' y=>?_};{e,y}:=y;(by subst e y);f i σ _ b p;e:i=n:=();!e;.inl {qb _,j σ H p}
abbrev R2:=V->V->Hp->VK->Prop
def dn(X:Cx)(f:MD->MD->Sem MD)(r:R2):Prop := ∀(pins:List (To×Obj)) (s:Tj) (σ:St) (H:Hp) (x y:V) (v u:MD) (Q:VK),Inv X pins σ H s->RelV x v->RelV y u->r x y H Q-> wpAny 48 X.A (f v u) (EP X pins σ Q) X.xe s
def Ro(X:Cx)(f:MD->Sem MD)(r:V->Hp->VK->Prop):Prop := ∀(pins:List (To×Obj)) (s:Tj) (σ:St) (H:Hp) (x:V) (v:MD) (Q:VK),Inv X pins σ H s->RelV x v->r x H Q-> wpAny 48 X.A (f v) (EP X pins σ Q) X.xe s
def cn(X:Cx)(f:MD)(r:List V->Hp->VK->Prop):Prop := ∀(pins:List (To×Obj)) (s:Tj) (σ:St) (H:Hp) (xs:List V) (us:List MD) (Q:VK),Inv X pins σ H s->aK xs us->r xs H Q-> wpAny 48 X.A (call f us) (EP X pins σ Q) X.xe s
def oG(r:R2)(ta tb:TE):TE:=λσ H Q=>ta σ H λx H1=>tb σ H1 λy H2=>r x y H2 Q
def Tg(r:V->Hp->VK->Prop)(ta:TE):TE:=λσ H Q=>ta σ H λx H1=>r x H1 Q
inductive rI(C:Int->Int->Prop)(g:Int->Int->V)(x y:V)(H:Hp)(Q:VK):Prop
 |mk(i j:_)(_:x=.int i)(_:y=.int j)(_:C i j)(_:Q (g i j) H)
inductive xF(g:Int->Int->V)(x y:V)(H:Hp)(Q:VK):Prop
 |mk(i j:_)(_:x=.int i)(_:y=.int j)(_:Q (g i j) H)
inductive rU(g:Int->V)(x:V)(H:Hp)(Q:VK):Prop
 |mk(i:_)(_:x=.int i)(_:Q (g i) H)
section
variable {X:Cx}{a b c:Expr}{ta tb tc:TE}{pos:Pos}
def BH(l:PE X a ta)(o:PE X b tb){pins:List (To×Obj)}{s:Tj}{σ:St}{H:Hp}{R:V->V->Hp->Prop}(I:Inv X pins σ H s)(h:ta σ H λx H1=>tb σ H1 λy H2=>R x y H2){Q:KE}{f:MD->MD->Sem MD}(i:∀v u s2 x y H2,Inv X pins σ H2 s2->RelV x v->RelV y u->R x y H2->wpAny 48 X.A (f v u) Q X.xe s2) : wpAny 48 X.A (eval a X.env) (λv c=>wpAny 48 X.A (eval b X.env) (λu d=>wpAny 48 X.A (f v u) Q X.xe d) X.xe c) X.xe s:=do bI (l pins s σ H _ I h) λv k ⟨x,H1,j,g,p⟩=>?_;bI (o pins k σ H1 _ j p) λu s2 ⟨y,H2,n,e,m⟩=>?_;i v u s2 x y H2 n g e m
def aJ(c:dn X (binaryOp op) r)(e:PE X a ta)(g:PE X b tb):PE X (.BinOp a op b pos) (oG r ta tb):=do _;{?_};(pins,s,σ,H,Q,I,h);wpAny_BinOp (BH e g I h λv u s2 x y H2 f i d q=>c pins s2 σ H2 x y v u Q f i d q)
def eB(c:Ro X (unaryOp op) r)(g:PE X a ta):PE X (.UnaryOp op a pos) (Tg r ta):=do _;{?_};(pins,s,σ,H,Q,I,h);UnaryOp_ (bI (g pins s σ H _ I h) λv e ⟨x,H1,d,b,f⟩=>c pins e σ H1 x v Q d b f)
def MO{g:Int->Int->Int}(a:∀(i j:Int) (t u:Tok) (s:Tj) (Q:KE) (E:KE),C i j->Q (.int (g i j) s.toks) {s with toks:=s.toks+1}->wpAny 48 X.A (f (.int i t) (.int j u)) Q E s) : dn X f (rI C λi j=>.int (g i j)):=do(pins,s,σ,H,x,y,v,u,Q,I,d,b,h);{i,j,rfl,rfl,c,q}:=h;{t,rfl}:=d;{t',rfl}:=b;a i j t t' s _ _ c {.int (g i j),H,I.tok _,{_,O},q}
def L7{g:Int->Int->Int}(a:∀(i j:Int) (t u:Tok) (s:Tj) (Q:KE) (E:KE),Q (.int (g i j) s.toks) {s with toks:=s.toks+1}->wpAny 48 X.A (f (.int i t) (.int j u)) Q E s) : dn X f (xF λi j=>.int (g i j)):=do(pins,s,σ,H,x,y,v,u,Q,I,c,b,h);{i,j,rfl,rfl,q}:=h;{t,rfl}:=c;{t',rfl}:=b;a i j t t' s _ _ {.int (g i j),H,I.tok _,{_,O},q}
def vH{g:Int->Int->Bool}(a:∀(i j:Int) (t u:Tok) (s:Tj) (Q:KE) (E:KE),Q (.bool (g i j)) s->wpAny 48 X.A (f (.int i t) (.int j u)) Q E s) : dn X f (xF λi j=>.bl (g i j)):=do(pins,s,σ,H,x,y,v,u,Q,I,c,b,h);{i,j,rfl,rfl,q}:=h;{t,rfl}:=c;{t',rfl}:=b;a i j t t' s _ _ {.bl (g i j),H,I,O,q}
def PR(i j:Int):Prop:=0<j/\j<1073741824
def NV(i j:Int):Prop:=0<=j/\j<=1000000/\i.natAbs<2 ^ 64
def Fc(i j:Int):Prop:=(-(2 ^ 64)<i/\i<2 ^ 64)\/(-(2 ^ 64)<j/\j<2 ^ 64)
def Fc.ok(h:Fc i j):IntMulOk i j:=do _;{h1,h2}||{h1,h2}:=h;.of_left (intBits_le_64 h1 h2);.of_right (intBits_le_64 h1 h2)
def cU:dn X (binaryOp .Add) (xF λi j=>.int (i+j)):=L7 λ_ _ _ _ _ _ _ q=>add_int q
def A0:dn X (binaryOp .Sub) (xF λi j=>.int (i - j)):=L7 λ_ _ _ _ _ _ _ q=>sub_int q
def sH:dn X (binaryOp .Mult) (rI Fc λi j=>.int (i * j)):=MO λ_ _ _ _ _ _ _ a q=>mul_int q a.ok
def jX:dn X (binaryOp .FloorDiv) (rI PR λi j=>.int (i / j)):=MO λi j _ _ _ _ _ a q=>do h1:(0:Int)<j:=a.1;h2:j<1073741824:=a.2;floordiv_int () (do[Int.fdiv_eq_ediv_of_nonneg i ()];q) (.inl (PyProof.noPylong_small ()))
def eN:dn X (binaryOp .Mod) (rI (λ_ j=>0<j) λi j=>.int (i % j)):=MO λi j _ _ _ _ _ a q=>do h1:(0:Int)<j:=a;mod_int' () (do[Int.fmod_eq_emod_of_nonneg i ()];q)
def Dj:dn X (binaryOp .Pow) (rI NV λi j=>.int (i ^ j.toNat)):=MO λ_ _ _ _ _ _ _ a q=>pow_int_small a.1 a.2.1 a.2.2 q
def SK{g:Int->Int}(a:∀(i:Int) (t:Tok) (s:Tj) (Q:KE) (E:KE),Q (.int (g i) s.toks) {s with toks:=s.toks+1}->wpAny 48 X.A (f (.int i t)) Q E s) : Ro X f (rU λi=>.int (g i)):=do(pins,s,σ,H,x,v,Q,I,b,h);{i,rfl,q}:=h;{t,rfl}:=b;a i t s _ _ {.int (g i),H,I.tok _,{_,O},q}
def iY:Ro X (unaryOp .USub) (rU λi=>.int (-i)):=SK λ_ _ _ _ _ q=>neg_int q
end
def KH:V->V->Bool|.aS,.aS=>true|.aS,.int _=>true|.int _,.aS=>true|.aS,.bl _=>true|.bl _,.aS=>true|.aS,.str _=>true|.str _,.aS=>true|.int _,.int _=>true|.bl _,.bl _=>true|.str _,.str _=>true|.pZ _,.pZ _=>true|.int _,.str _=>true|.str _,.int _=>true|.bl _,.str _=>true|.str _,.bl _=>true|_,_=>false
def Sh:R2:=λx y H Q=>KH x y=true/\Q (.bl (decide (x=y))) H
def S4:R2:=λx y H Q=>KH x y=true/\Q (.bl (not (decide (x=y)))) H
def Hc:decide (V.int i=V.int j)=(i==j):=do[yo];0
def K2:decide (V.bl i=V.bl j)=(i==j):=do[yo];0
def Iq:decide (V.str i=V.str j)=(i==j):=do[yo];0
def IL:decide (V.pZ i=V.pZ j)=(i.toList==j.toList):=do[yo];-i;-j;0
section
variable {X:Cx}{a b c:Expr}{ta tb tc:TE}{pos:Pos}
def cB{pins:List (To×Obj)}{σ:St}{H:Hp}{s:Tj}{Q:VK}{k a:Bool}(I:Inv X pins σ H s)(q:Q (.bl k) H)(e:k=a):EP X pins σ Q (.bool a) s:=do !e;{.bl k,H,I,O,q}
def cR:dn X (compareOp .Eq) Sh:=do(pins,s,σ,H,x,y,v,u,Q,I,c,a,h);{b,q}:=h;by cases x with|aS=>(cases c;cases y with|aS=>(cases a;exact PySem.EqNone.eq_none_none (cB I q (do 0)))|bl j=>(cases a;exact PySem.EqNone.eq_none_bool (cB I q (do 0)))|int j=>(obtain⟨t',rfl⟩:=a;exact PySem.EqNone.eq_none_int (cB I q (do 0)))|str j=>(obtain⟨t',rfl⟩:=a;exact PySem.EqNone.eq_none_str (cB I q (do 0)))|_=>exact absurd (show false=true from b) qo)|bl i=>(cases c;cases y with|aS=>(cases a;exact PySem.EqNone.eq_bool_none (cB I q (do 0)))|bl j=>(cases a;exact eq_bool (cB I q K2))|str j=>(obtain⟨t',rfl⟩:=a;exact PySem.EqMixed.eq_bool_str (cB I q (do 0)))|_=>exact absurd (show false=true from b) qo)|int i=>(obtain⟨t,rfl⟩:=c;cases y with|aS=>(cases a;exact PySem.EqNone.eq_int_none (cB I q (do 0)))|int j=>(obtain⟨t',rfl⟩:=a;exact eq_int (cB I q Hc))|str j=>(obtain⟨t',rfl⟩:=a;exact PySem.EqMixed.eq_int_str (cB I q (do 0)))|_=>exact absurd (show false=true from b) qo)|str i=>(obtain⟨t,rfl⟩:=c;cases y with|aS=>(cases a;exact PySem.EqNone.eq_str_none (cB I q (do 0)))|bl j=>(cases a;exact PySem.EqMixed.eq_str_bool (cB I q (do 0)))|int j=>(obtain⟨t',rfl⟩:=a;exact PySem.EqMixed.eq_str_int (cB I q (do 0)))|str j=>(obtain⟨t',rfl⟩:=a;exact eq_str (cB I q Iq))|_=>exact absurd (show false=true from b) qo)|pZ i=>(obtain⟨t,rfl⟩:=c;cases y with|pZ j=>(obtain⟨t',rfl⟩:=a;exact PySem.W.eq_bytes (cB I q IL))|_=>exact absurd (show false=true from b) qo)|_=>cases y <;> exact absurd (show false=true from b) qo
def jR:dn X (compareOp .NotEq) S4:=do(pins,s,σ,H,x,y,v,u,Q,I,c,a,h);{b,q}:=h;by cases x with|aS=>(cases c;cases y with|aS=>(cases a;exact PySem.EqNone.ne_none_none (cB I q (do 0)))|bl j=>(cases a;exact PySem.EqNone.ne_none_bool (cB I q (do 0)))|int j=>(obtain⟨t',rfl⟩:=a;exact PySem.EqNone.ne_none_int (cB I q (do 0)))|str j=>(obtain⟨t',rfl⟩:=a;exact PySem.EqNone.ne_none_str (cB I q (do 0)))|_=>exact absurd (show false=true from b) qo)|bl i=>(cases c;cases y with|aS=>(cases a;exact PySem.EqNone.ne_bool_none (cB I q (do 0)))|bl j=>(cases a;exact ne_bool (cB I q (congrArg not K2)))|str j=>(obtain⟨t',rfl⟩:=a;exact PySem.EqMixed.ne_bool_str (cB I q (do 0)))|_=>exact absurd (show false=true from b) qo)|int i=>(obtain⟨t,rfl⟩:=c;cases y with|aS=>(cases a;exact PySem.EqNone.ne_int_none (cB I q (do 0)))|int j=>(obtain⟨t',rfl⟩:=a;exact ne_int (cB I q (congrArg not Hc)))|str j=>(obtain⟨t',rfl⟩:=a;exact PySem.EqMixed.ne_int_str (cB I q (do 0)))|_=>exact absurd (show false=true from b) qo)|str i=>(obtain⟨t,rfl⟩:=c;cases y with|aS=>(cases a;exact PySem.EqNone.ne_str_none (cB I q (do 0)))|bl j=>(cases a;exact PySem.EqMixed.ne_str_bool (cB I q (do 0)))|int j=>(obtain⟨t',rfl⟩:=a;exact PySem.EqMixed.ne_str_int (cB I q (do 0)))|str j=>(obtain⟨t',rfl⟩:=a;exact ne_str (cB I q (congrArg not Iq)))|_=>exact absurd (show false=true from b) qo)|pZ i=>(obtain⟨t,rfl⟩:=c;cases y with|pZ j=>(obtain⟨t',rfl⟩:=a;exact PySem.W.ne_bytes (cB I q (congrArg not IL)))|_=>exact absurd (show false=true from b) qo)|_=>cases y <;> exact absurd (show false=true from b) qo
def zV:dn X (compareOp .Lt) (xF λi j=>.bl (decide (i<j))):=vH λ_ _ _ _ _ _ _ q=>lt_int q
def Ah:dn X (compareOp .LtE) (xF λi j=>.bl (decide (i<=j))):=vH λ_ _ _ _ _ _ _ q=>le_int q
def eh:dn X (compareOp .Gt) (xF λi j=>.bl (decide (j<i))):=vH λ_ _ _ _ _ _ _ q=>gt_int q
def Kr:dn X (compareOp .GtE) (xF λi j=>.bl (decide (j<=i))):=vH λ_ _ _ _ _ _ _ q=>ge_int q
def tG:dn X (compareOp .Is) (λx y H Q=>y=.aS/\Q (.bl (decide (x=.aS))) H):=do(pins,s,σ,H,x,y,v,u,Q,I,a,b,h);{rfl,q}:=h;-b;is_none_gen (cB I q ?_);by cases x <;> first|cases a;rfl|obtain⟨t,rfl⟩:=a;rfl
def JA:dn X (compareOp .IsNot) (λx y H Q=>y=.aS/\Q (.bl (not (decide (x=.aS)))) H):=do(pins,s,σ,H,x,y,v,u,Q,I,a,b,h);{rfl,q}:=h;-b;isnot_none_gen (cB I q ?_);by cases x <;> first|cases a;rfl|obtain⟨t,rfl⟩:=a;rfl
def Py(c:dn X (compareOp op) r)(e:PE X a ta)(i:PE X b tb)(g:behindInMarks op b=false):PE X (.Compare a [op] [b] pos) (oG r ta tb):=do _;{?_};(pins,s,σ,H,Q,I,h);wpAny_Compare1 (BH e i I h λv u s2 x y H2 f j d q=>c pins s2 σ H2 x y v u Q f j d q) g
inductive Ci(Q:Bool->Hp->Prop)(x:V)(H':Hp):Prop
 |mk(k:_)(_:x=.bl k)(_:Q k H')
def tj(t:TE):TT:=λσ H Q=>t σ H λx H'=>Ci Q x H'
def Q_(g:dn X (compareOp op) r)(A:PE X a ta)(t:PE X b tb)(o:behindInMarks op b=false):PT X (.Compare a [op] [b] pos) (tj (oG r ta tb)):=do _;{?_};(pins,s,σ,H,Q,I,h);wpAny_isTrue_Compare1 (bI (A pins s σ H _ I h) λv m ⟨x,H1,j,f,w⟩=>bI (t pins m σ H1 _ j w) λu s2 ⟨y,H2,n,d,p⟩ => bI (g pins s2 σ H2 x y v u _ n f d p) λc C ⟨z,i,B,l,k,e,q⟩=>?_) o;!e;-l;wpAny_truthy_bool {i,B,q}
inductive wR(r':R2)(tc:TE)(σ:St)(Q:VK)(y z:V)(H3:Hp):Prop
 |mk(k:_)(_:z=.bl k)(_:(if k=true then tc σ H3 λw' H4=>r' y w' H4 Q else Q (.bl false) H3))
def E7(r a:R2)(ta tb tc:TE):TE:=λσ H Q=>ta σ H λx H1=>tb σ H1 λy H2=>r x y H2 λz b=>wR a tc σ Q y z b
def Q3(B:dn X (compareOp op) r)(g:dn X (compareOp f) j)(Z:PE X a ta)(W:PE X b tb)(K:PE X c tc)(t:lastMarks [op,f] [b,c]=false:=by with_unfolding_all rfl):PT X (.Compare a [op,f] [b,c] pos) (tj (E7 r j ta tb tc)):=do _;{?_};(pins,s,σ,H,Q,I,h);isTrue_chain (bI (Z pins s σ H _ I h) λv G ⟨x,H1,F,o,E⟩=>test_link (bI (W pins G σ H1 _ F E) λu s2 ⟨y,H2,q,m,D⟩ => bI (B pins s2 σ H2 x y v u _ q o m D) λd M ⟨z,i,l,P,k,e,n⟩=>?_)) t;!e;-P;wpAny_truthy_bool ?_;(by cases k with|false|true=>?_);{k',U,V}:=n;-U;ite_ff {i,l,V};ite_tt (test_last (bI (K pins M σ i _ l n) λL C ⟨w,Y,A,R,O⟩=>bI (g pins C σ Y y w u L _ A m R O) λd' s5 ⟨z2,N,S,p,k2,T,J⟩=>?_));!T;-p;wpAny_truthy_bool {N,S,J}
def mI:(sizeLine:Nat)<2 ^ 63:=by rw[sizeLine_eq];decide
inductive f_(x y:V)(H:Hp)(Q:VK):Prop
 |mk(i j:_)(_:x=.str i)(_:y=.str j)(_:i.length+j.length<=sizeLine)(_:Q (.str (i++j)) H)
def CS:dn X (binaryOp .Add) f_:=do(pins,s,σ,H,x,y,v,u,Q,I,b,a,h);{i,j,rfl,rfl,hz,q}:=h;{t,rfl}:=b;{t',rfl}:=a;add_str (λt' tk=>{.str (i++j),H,I.tok _,{_,O},q}) hz
def vals1(r:aK [x] us):∃u,us=[u]/\RelV x u:=do(by cases r with|cons b a=>?_);-a;{_,O,b}
def vals2(r:aK [x,y] us):∃u a,us=[u,a]/\RelV x u/\RelV y a:=do(by cases r with|cons c b=>?_;cases b with|cons d e=>?_);-e;{_,_,O,c,d}
inductive og(xs:List V)(H:Hp)(Q:VK):Prop
 |mk(i j:_)(_:xs=[.int i,.int j])(_:Q (.int (if j>i then j else i)) H)
def P5(b:X.calm=true):cn X (.builtin "max") og:=do(pins,s,σ,H,xs,us,Q,I,r,h);{i,j,rfl,q}:=h;{u,c,rfl,{t,rfl},{t',rfl}}:=vals2 r;max_two_ints (I.ok.hd b) λh' tk k=>{_,H,I.kept k,?_,q};a<|j>i;[qF a,qF a];{_,O};[qB a,qB a];{_,O}
def LK:cn X (.type "int") (λxs H Q=>(∃i,xs=[.int i]/\Q (.int i) H)\/∃k,xs=[.bl k]/\Q (.int (if k then 1 else 0)) H):=do(pins,s,σ,H,xs,us,Q,I,r,h);{i,rfl,q}||{k,rfl,q}:=h;{u,rfl,t,rfl}:=vals1 r;call_int_int {.int i,H,I,{_,O},q};{u,rfl,a}:=vals1 r;-a;call_int_bool {.int (if k then 1 else 0),H,I.tok _,{_,O},q}
def OO(x:V)(H:Hp)(n:Nat):Prop := match x with|.str y=>y.length<=sizeLine/\n=y.length|.pZ y=>y.size<=sizeLine/\n=y.size|.ref p=>(∃xs,az H p xs/\n=xs.length)\/∃xs,aQ H p xs/\n=xs.length|_=>False
inductive p8(xs:List V)(H:Hp)(Q:VK):Prop
 |mk(x n:_)(_:xs=[x])(_:OO x H n)(_:Q (.int n) H)
def PX:cn X (.builtin "len") (p8):=do(pins,s,σ,H,xs,us,Q,I,r,h);{x,n,rfl,e,q}:=h;{u,rfl,g}:=vals1 r;k:=mI;j:sizeLine=16777216:=sizeLine_eq;by cases x with|str y=>(obtain⟨t,rfl⟩:=g;obtain⟨i,b⟩:y.length<=sizeLine/\n=y.length:=e;subst b;exact len_str () {.int _,H,I.tok _,{_,O},q})|pZ y=>(obtain⟨t,rfl⟩:=g;obtain⟨i,b⟩:y.size<=sizeLine/\n=y.size:=e;subst b;exact PySem.W.len_bytes () {.int _,H,I.tok _,{_,O},q})|ref p=>(cases g;have b:(∃xs,az H p xs/\n=xs.length)\/∃xs,aQ H p xs/\n=xs.length:=e;rcases b with⟨xs,c,b⟩|⟨xs,c,b⟩;subst b;obtain⟨its,d,f,hz⟩:=I.list c;have a:=d.length;exact Calls.call_len_list f.isList (do#[_,List.size_toArray];()) {.int xs.length,H,I.tok _,{_,do#[_,List.size_toArray];[a]},q};subst b;obtain⟨its,d,f,hz⟩:=I.tuple c;have a:=d.length;exact len_tuple f (do#[_,List.size_toArray];()) {.int xs.length,H,I.tok _,{_,do#[_,List.size_toArray];[a]},q})|_=>exact(show False from e).elim
end
structure BJ(h:Heap)(x dx C:To)(mA:Tp->Option MD):Prop where
 obj:h.get? x=!(PySem.W.instObj C dx)
 ns:h.Ns1 dx mA
 ne:dx≠x
def Of{h:Heap}{dx:To}{c:Tp->Option MD}(n:h.Ns1 dx c):∃od,h.get? dx=!od/\∀name,PySem.W.lookIn name od=!(c name):=do _;{o,es,ep,d,j,i,_,g}:=n;{o,d,λname=>?_};e:=g name;(by unfold nsFind findBy at e);e<-[<-Array.find?_toList];@PySem.W.lookIn;[j];(by dsimp only);3;(by rename_i y q);e<-[q];congrArg some e;(by rename_i q);e<-[q];a:es.toList.any (·.refKey)=false:=(do[kx];(y,k);{z,t,b}:=i y (j9.mp k);#[DictEntry.refKey,b]);f:¬es.toList.any (·.refKey)=true:=(do[a];qo);[qB f];congrArg some e
def BJ.look(I:BJ h x dx C a):∃od,PySem.W.InstAt h x (PySem.W.instObj C dx) C (!od)/\∀name,PySem.W.lookIn name od=some (a name) := let⟨od,b,c⟩:=Of I.ns;{od,{I.obj,O,O,b},c}
def fx.some_of(r:fx (!v) o):∃u,o=!u/\RelV v u:=do(by cases o with|none|some u=>?_);(show False from r).elim;{u,O,r}
section
variable {P:Program}{w:World}{H H':Hp}{h h':Heap}{a C dx:To}{fs fs':List (Tp×V)}
def QG(c:dm P w H h)(e:H a=!(.ins C dx fs)):∃b,BJ h a dx C b/\(∀f,fx (fs.lookup f) (b f))/\PySem.Within b (fs.map (·.1))/\fs.length<=1000/\H dx=!(.own a):=do _;{d,z,ne,ob,b,n,r,q}:=(show aV P w H h a (.ins C dx fs) from c a _ e);{b,{ob,n,ne},r,q,z,d}
end
structure M1(K:PySem.W.Frag)(C:To):Prop where
 pg:PySem.W.plainGet K C Str.empty=true
 hd:PySem.W.hasDictIn K C=true
 po:PySem.W.plainOver K C=true
 sa:PySem.W.findIn K (.ref C) "__setattr__"=!(!(.builtin "object.__setattr__"))
def M1.get{K:PySem.W.Frag}{C:To}(c:M1 K C)(f:Tp):PySem.W.plainGet K C f=true:=c.pg
section
variable {X:Cx}{pins:List (To×Obj)}{σ:St}{H:Hp}{s:Tj}{A:Around}{E:KE}{Q:KE}{c:MD}{b:Bool}
inductive fj(K:PySem.W.Frag)(H:Hp):V->MD->Prop where
 |aS:fj K H .aS (.type "NoneType")
 |bl (x:Bool):fj K H (.bl x) (.type "bool")
 |int (i:Int):fj K H (.int i) (.type "int")
 |str (x:Tp):fj K H (.str x) (.type "str")
 |Gq (x:UInt64):fj K H (.Gq x) (.type "float")
 |lst {a:To} {xs:List V} (e:H a=! (.lst xs)):fj K H (.ref a) (.type "list")
 |dA {a:To} {o:Obj} {xs:List V} (e:H a=!(.dA o (.lst xs))):fj K H (.ref a) (.type "list")
 |tup {a:To} {xs:List V} (e:H a=! (.tup xs)):fj K H (.ref a) (.type "tuple")
 |dK {a:To} {kvs:List (Key×V)} (e:H a=!(.dK kvs)):fj K H (.ref a) (.type "dict")
 |dT {a:To} {kvs:List (List Key×V)} (e:H a=!(.dT kvs)):fj K H (.ref a) (.type "dict")
 |dG {a:To} {kvs:List 67} (e:H a=! 69):fj K H (.ref a) (.type "dict")
 |ins {a C dx:To} {fs:List (Tp×V)} (e:H a=!(.ins C dx fs)) (cl:M1 K C) (ha:PySem.W.findIn K (.ref C) "__class__"=!(!(.builtin "object.__class__")))
   (hn:PySem.W.specialIn K (.builtin "object.__class__") "__get__"=!(!(.builtin "getset_descriptor.__get__"))) (htk:PySem.W.takesIn K (.builtin "object.__class__")=!true)
   (hm:PySem.W.mroIn K C (.type "object")=!true):fj K H (.ref a) (.ref C)
def OL(I:Inv X pins σ H s)(f:RelV x u)(ty:fj X.K H x t)(e:PySem.W.kitOne X.K t c=!b)(h:∀tk,Q (.bool b) {s with toks:=tk}) : wpAny 48 A (call (.builtin "isinstance") [u,c]) Q E s:=do(by cases ty with|aS|bl y|int i|str y|Gq y|@lst a xs d|@dA a ob xs d|@tup a xs d|@dK a kvs d|@dT a kvs d|@dG a kvs d|@ins a C dx fs d cl j hn g k=>?_);-((show u=Value.none from f));PySem.W.kia_one PySem.W.kitx_none I.nU True.intro e (λz=>nomatch z) h;-((show u=Value.bool y from f));PySem.W.kia_one PySem.W.kitx_bool I.nU True.intro e (λz=>nomatch z) h;{t,q}:=(show ∃t,u=Value.int i t from f);-q;PySem.W.kia_one PySem.W.kitx_int I.nU True.intro e (λz=>nomatch z) h;{t,q}:=(show ∃t,u=Value.str y t from f);-q;PySem.W.kia_one PySem.W.kitx_str I.nU True.intro e (λz=>nomatch z) h;{t,q}:=(show ∃t,u=Value.float y t from f);-q;PySem.W.kia_one PySem.W.kitx_float I.nU True.intro e (λz=>nomatch z) h;-((show u=Value.ref a from f));{_,_,n,_,h1}:=(show aV X.prog X.w H s.heap a (.lst xs) from I.aZ a _ d);PySem.W.kia_one PySem.W.kitx_list I.nU {_,h1,rfl} e (λz=>nomatch z) h;-((show u=Value.ref a from f));{_,_,_,n,_,h1}:=(show aV X.prog X.w H s.heap a (.dA ob (.lst xs)) from I.aZ a _ d);PySem.W.kia_one PySem.W.kitx_list I.nU {_,h1,rfl} e (λz=>nomatch z) h;-((show u=Value.ref a from f));{_,_,_,p}:=(show aV X.prog X.w H s.heap a (.tup xs) from I.aZ a _ d);{o,h1,h2,_}:=p;PySem.W.kia_one PySem.W.kitx_tuple I.nU {o,h1,h2} e (λz=>nomatch z) h;-((show u=Value.ref a from f));{_,_,vs,_,p}:=(show aV X.prog X.w H s.heap a (.dK kvs) from I.aZ a _ d);{o,es,ep,h1,h2,_}:=p;PySem.W.kia_one PySem.W.kitx_dict I.nU {o,h1,h2.1} e (λz=>nomatch z) h;-((show u=Value.ref a from f));{_,_,xs,_,o,es,ep,h1,h2,_}:=(show aV X.prog X.w H s.heap a (.dT kvs) from I.aZ a _ d);PySem.W.kia_one PySem.W.kitx_dict I.nU {o,h1,h2.1} e (λz=>nomatch z) h;-((show u=Value.ref a from f));{_,_,xs,_,o,es,ep,h1,h2,_}:=(show aV X.prog X.w H s.heap a 69 from I.aZ a _ d);PySem.W.kia_one PySem.W.kitx_dict I.nU {o,h1,h2.1} e (λz=>nomatch z) h;-((show u=Value.ref a from f));{l,O,_}:=QG I.aZ d;{od,J,_}:=O.look;PySem.W.kia_one (PySem.W.kitx_own (cl.get _) cl.hd j hn g k) I.nU J e (λz=>nomatch z) h
end
structure bG(k:Nat)(A:Around):Prop where
 hd:A.handled=none
 dp:A.depth+3 * k+5<recursionLimit
 un:A.units+16 * k+200<cLine
 gd:A.guards=![]
def bG.mono(r:bG k A)(h:j<=k):bG j A:={r.hd,do this:=r.dp;(),do this:=r.un;(),r.gd}
theorem bG.deeper(r:bG (k+1) A)(env:Env):bG k (A.deeper env) := {r.hd,do this:=r.dp;¬A.depth+1+3 * k+5<_;(),do this:=r.un;¬A.units+3+16 * k+200<_;(),r.gd}
theorem bG.in1(r:bG (k+1) A):bG k A.in1 := {r.hd,do this:=r.dp;¬A.depth+3 * k+5<_;(),do this:=r.un;¬A.units+1+16 * k+200<_;(),r.gd}
theorem bG.depth(r:bG k A):A.depth<recursionLimit:=do this:=r.dp;()
theorem bG.units(r:bG k A):A.units+64<cLine:=do this:=r.un;()
def bG.uZ(r:bG k A):A.units<cLine:=do this:=r.un;()
def wH:TA:=λ_ H Q=>Q [] H
def jA(ta:TE)(a:TA):TA:=λσ H Q=>ta σ H λx H1=>a σ H1 λxs H2=>Q (x::xs) H2
section
variable {X:Cx}{e:Expr}{es:List Expr}{te:TE}{t:TA}{pos:Pos}
def dj:PA X [] wH:={λ_ _ _ _ H Q I h=>Calls.spliced_nil {[],H,I,.nil,h}}
def F3(l:PE X e te)(d:PA X es t)(j:autoParam (starEach (e::es) X.env=(false,eval e X.env)::starEach es X.env) z11):PA X (e::es) (jA te t):=do _;{?_};(pos,pins,s,σ,H,Q,I,h);[j];¬wpAny _ _ (spliced ((false,eval e X.env)::backTo pos (starEach es X.env))) _ _ s;Calls.spliced_cons (bI (l pins s σ H _ I h) λu f ⟨x,H1,c,b,k⟩=>?_);bI (d pos pins f σ H1 _ c k) λus s2 ⟨xs,H2,i,a,g⟩=>{x::xs,H2,i,.cons b a,g}
end
abbrev Sp:=List V->Hp->VK->XK->Prop
abbrev vE:=List Env->Hp->Tj->XK->KE
structure gP(P:Program)(w:World)(K:PySem.W.Frag)(mg:Tp->Option MD)(base:Heap)(A:Around)(outer:List Env)(s:Tj)(H:Hp):Prop where
 frames:A.frames=!outer
 mod:Mod K mg base
 bs:∀b o,base.get? b=!o->s.heap.get? b=!o/\(H b=none\/∃xs,H b=! (.tup xs))
 uQ:base.objs.size<=↑s
 d9:s.heap.FunFrames base outer
 wK:∀b∈dY outer,H b=none
 aZ:dm P w H s.heap
 bare:AllBare s.gens
def CE(outer:List Env)(P:Program)(w:World)(H:Hp)(s:Tj)(Q:VK)(u:MD)(s':Tj):Prop := ∃v H',s'.os=s.os/\AllBare s'.gens/\Un (dY outer) [] H H' s.heap s'.heap/\dm P w H' s'.heap/\RelV v u/\Q v H'
def CR(CX:vE)(outer:List Env)(P:Program)(w:World)(H:Hp)(s:Tj)(Q:VK)(E:XK)(r:Result)(s':Tj):Prop := match r with|.ok (.ret u)=>CE outer P w H s Q u s'|.ok _=>False|.error e=>CX outer H s E e s'
structure gG(P:Program)(w:World)(K:PySem.W.Frag)(mg:Tp->Option MD)(base:Heap)(CX:vE)(k:Nat)(f:To)(fd:FuncData)(ps:List Tp)(sp:Sp):Prop where
 len:∀vs H Q E,sp vs H Q E->vs.length=ps.length
 run:∀(A:Around) (outer:List Env) (s:Tj) (H:Hp) (args:Args) (us:List MD) (vs:List V) (Q:VK) (E:XK),bG k A->gP P w K mg base A outer s H->BindsTo s fd args (ps.zip us)->aK vs us->sp vs H Q E->
  codeAny (model P w) A (.call (.ref f) args) (CR CX outer P w H s Q E) s
section
variable {X:Cx}{pins:List (To×Obj)}{σ:St}{H:Hp}{s s':Tj}
def Inv.FJ(I:Inv X pins σ H s):gP X.prog X.w X.K X.mg X.base X.A X.stack s H := {I.ok.frames,I.ok.mod,I.bs,qf I.ok.uQ I.sz,I.stack,I.oE,I.aZ,I.bare}
def Inv.after(I:Inv X pins σ H s)(h:CE X.stack X.prog X.w H s Q u s'):EP X pins σ Q u s':=do _;{v,H',f,a,un,c,r,q}:=h;{i,g,d,t,e}:=s';(by obtain rfl:e=s.os:=f);{v,H',I.call (h':=i) (g':=g) (d':=d) (t':=t) (ch:=[]) un c a (λb z=>absurd z (do 0)),r,q}
end
def tF(sp:Sp)(lS:List V)(E:XK)(t:TA):TE:=λσ H Q=>t σ H λvs H1=>sp (vs++lS) H1 Q E
def Binds(K:PySem.W.Frag)(fd:FuncData)(ps:List Tp)(ds:List MD):Prop := ∀(s:Tj) (us:List MD),K.In s.heap->(us++ds).length=ps.length->BindsTo s fd {us,[]} (ps.zip (us++ds))
def Binds.all{K:PySem.W.Frag}{fd:FuncData}{ps:List Tp}(h:∀us:List MD,us.length=ps.length->bindArgs fd {us,[]}=pure (ps.zip us)):Binds K fd ps []:=λs us _ a=>do(by rw[z6]at a ⊢);.of_eq (h us a)
def nL(CX:vE)(X:Cx)(E:XK):Prop:=∀(pins:List (To×Obj)) (σ:St) (H:Hp) (s:Tj) (e:MD) (s':Tj),Inv X pins σ H s->CX X.stack H s E e s'->X.xe e s'
section
variable {X:Cx}{CX:vE}{k:Nat}{f C:To}{fd:FuncData}{ps:List Tp}{sp:Sp}{lS:List V}{ds:List MD}{E:XK}{x m:Tp}{p pos apos:Pos}{e o:Expr}{es:List Expr}{ta:TE}{t:TA}
def Cn{pins:List (To×Obj)}{σ:St}{H:Hp}{s:Tj}{Q:VK}{us:List MD}{vs:List V}(F:gG X.prog X.w X.K X.mg X.base CX k f fd ps sp)(d:bG k X.A)(j:Binds X.K fd ps ds)(g:aK lS ds)(c:nL CX X E)(I:Inv X pins σ H s)(r:aK vs us)(h:sp (vs++lS) H Q E):wpAny 48 X.A (call (.ref f) us) (EP X pins σ Q) X.xe s:=do b:aK (vs++lS) (us++ds):=r.append g;i:(us++ds).length=ps.length:=(do[<-b.length];F.len _ _ _ _ h);wpAny_call (codeAny_mono (F.run X.A X.stack s H {us,[]} (us++ds) (vs++lS) Q E d I.FJ (j s us I.nU i) b h) λr s' a=>?_);(by cases r with|error e|ok fl=>?_);c pins σ H s e s' I a;(by cases fl with|ret u|next|brk|cont=>?_);I.after a;False.elim a;False.elim a;False.elim a
def G0(F:gG X.prog X.w X.K X.mg X.base CX k f fd ps sp)(i:bG k X.A)(g:Gl X x)(j:X.mg x=!(.ref f))(m:PySem.W.keepIn X.K (.ref f)=true)(n:Binds X.K fd ps ds)(u:aK lS ds)(d:nL CX X E)(o:PA X (e::es) t)(b:autoParam ((x==("__debug__":Tp))=false) z12)(l:autoParam (starEach (e::es) X.env=(false,eval e X.env)::starEach es X.env) z11)(a:autoParam ((backTo pos (starEach es X.env)).any (·.1)=false) z11) : PE X (.Call (.Name x p) (e::es) [] pos) (tF sp lS E t):=do _;{?_};(pins,s,σ,H,Q,I,h);wpAny_Call_Name_kw (BC I g j ?_ b);PySem.W.callWith_K (h₀:=X.base) I.ok.mod.MB m (bI (o pos pins s σ H _ I h) λus v ⟨vs,H1,c,r,q⟩=>{c.nU,?_}) l a;Cn F i n u d c r q
end
structure aA(N P:List Tp)(sc:Scope):Prop where
 kind:sc.kind=.function
 co:sc.isCoroutine=false
 gen:sc.isGenerator=false
 nd:N.Nodup
 pre:N.take P.length=P
 par:∀x∈P,sc.names.lookup x=some .local\/sc.names.lookup x=some .cell
 Cy:∀y∈sc.names,y.2≠.free
theorem JE:∀{binds:List (Tp×MD)} {m:Tp->Option MD},(∀v,(x,v)∉binds)->bindL a binds m x=m x|[],_,_=>rfl|(n,v)::r,m,h=>do@bindL;[JE λw b=>h w (qz _ b)];3;this:x≠n:=(do(rfl);h v qm);#[this];2
theorem Ld:∀{binds:List (Tp×MD)} {m:Tp->Option MD},(∀v,(x,v)∉binds)->bindC a binds m x=m x|[],_,_=>rfl|(n,v)::r,m,h=>do@bindC;[Ld λw b=>h w (qz _ b)];3;2;this:x≠n:=(do(rfl);h v qm);#[this]
theorem Kc:∀{P:List Tp} {vs:List MD} {i:Nat} {m:Tp->Option MD},P.Nodup->P[i]?=!x->vs[i]?=!v->a x=some .local-> bindL a (P.zip vs) m x=!v|[],_,_,_,_,h,_,_=>(do h<-0)|_::_,[],_,_,_,_,h,_=>(do h<-0)|p::P,w::vs,0,m,nd,h1,h2,hk=>(do(by simp at h1 h2);!h1;!h2;¬bindL a ((p,w)::P.zip vs) m p=_;@bindL;[JE λv b=>(zx.mp nd).1 (kz b).1,qF hk];0)|p::P,w::vs,i+1,m,nd,h1,h2,hk=>do¬bindL a ((p,w)::P.zip vs) m x=_;@bindL;Kc (i:=i) (List.nodup_cons.mp nd).2 (do 0<|h1) (do 0<|h2) hk
theorem Lo:∀{P:List Tp} {vs:List MD} {i:Nat} {m:Tp->Option MD},P.Nodup->P[i]?=!x->vs[i]?=!v->a x≠some .local-> bindC a (P.zip vs) m x=!v|[],_,_,_,_,h,_,_=>(do h<-0)|_::_,[],_,_,_,_,h,_=>(do h<-0)|p::P,w::vs,0,m,nd,h1,h2,hk=>(do(by simp at h1 h2);!h1;!h2;¬bindC a ((p,w)::P.zip vs) m p=_;@bindC;[Ld λv b=>(zx.mp nd).1 (kz b).1,qB hk];0)|p::P,w::vs,i+1,m,nd,h1,h2,hk=>do¬bindC a ((p,w)::P.zip vs) m x=_;@bindC;Lo (i:=i) (List.nodup_cons.mp nd).2 (do 0<|h1) (do 0<|h2) hk
def start(N:List Tp)(vs:List V):St:=vs.map some++List.replicate (N.length - vs.length) none
def j1(CX:vE)(P:Program)(w:World)(K:PySem.W.Frag)(mg:Tp->Option MD)(base:Heap)(N:List Tp)(qual:Tp)(a:Scope)(f:To)(cd:MD)(A:Around)(outer:List Env)(s:Tj)(H:Hp)(E:XK):Cx where
 prog:=P
 w:=w
 K:=K
 mg:=mg
 base:=base
 A:=A.deeper (envOfC qual a ↑s f cd)
 N:=N
 s₀:=s
 H₀:=H
 env:=envOfC qual a ↑s f cd
 outer:=outer
 stack:=envOfC qual a ↑s f cd::outer
 ex:=[]
 calm:=true
 fn:=λ_=>true
 pn:=[]
 xe:=λe s'=>wpAny (model P w) (A.deeper (envOfC qual a ↑s f cd)) (leaving (envOfC qual a ↑s f cd) e) (λ_ b=>CX outer H s E e b) (λc b=>CX outer H s E c b) s'
def fh{a:Scope}{n:Nat}{x:Tp}(h:a.names.lookup x=some .cell):∃c,(cellsFrom n a.names []).lookup x=!c:=do q:=PySem.W.cellsFrom_some a.names n [] (.inl h);k8.mp q
def OV{CX:vE}{P:Program}{w:World}{K:PySem.W.Frag}{mg:Tp->Option MD}{base:Heap}{N ps:List Tp}{qual:Tp}{d:Scope}{f:To}{cd:MD}{A:Around}{outer:List Env}{s o:Tj}{H:Hp}{E:XK}{us:List MD}{vs:List V}(S:aA N ps d)(G:A.handled=none)(g:gP P w K mg base A outer s H)(I:vs.length=ps.length)(r:aK vs us)(x:InCallC s ↑s (bindL (envOfC qual d ↑s f cd).kindOf (ps.zip us) λ_=>none) (cellsFrom (↑s+1) d.names []) (bindC (envOfC qual d ↑s f cd).kindOf (ps.zip us) λ_=>none) o) : Inv (j1 CX P w K mg base N qual d f cd A outer s H E) [] (start N vs) H o:=do D:ps.length<=N.length:=(do this:=congrArg List.length S.pre;this<-[wv];());{h1,tk,rfl,B}:=x.done;j:∀b:To,b∉(j1 CX P w K mg base N qual d f cd A outer s H E).ex:=λb z=>absurd (show b∈([]:List To) from z) (do 0);{{g.mod,S.kind,O,O,qb _,λy z c h1 h2=>?_,λy l=>?_,λy c _ h=>?_,λ_=>G,Around.frames_deeper g.frames,.inr {O,O},λb z=>absurd z (j b),g.bs,g.uQ,λb _ _=>j b,λb z=>absurd z (j b),g.d9,g.wK},rfl,g.bare,Un.kept B,{_,x.toInCall.ns,λi y v h1 h2 J=>?_},λy c h=>{_,x.cell y c h},g.aZ.fresh (Nat.le_refl _),λy c h=>?_,λp hp=>absurd (show p∈([]:List (To×Obj)) from hp) (do 0),g.aZ.kept B,?_};name_of_addr x.apart (PySem.mem_of_lookup h1) (PySem.mem_of_lookup h2);l:d.names.lookup y=some .cell\/d.names.lookup y=some .free:=l;l||l:=l;fh l;absurd rfl (S.Cy _ (PySem.mem_of_lookup l));wu (x.above y c (PySem.mem_of_lookup h));hi:i<vs.length:=(do(by unfold start at h2);hi<|i<vs.length;hi;h2<-[List.getElem?_append_right (do 0<|hi)];h2<-[List.getElem?_replicate];by split at h2 <;> cases h2);F:vs[i]?=!v:=(do(by unfold start at h2);h2<-[List.getElem?_append_left (do 0<|hi),List.getElem?_map];(by cases e:vs[i]? with|none|some a=>?_);h2<-[e];-h2;h2<-[e];-h2;2);{u,t,C}:=r.get F;hp:ps[i]?=!y:=(do[<-S.pre,me ()];h1);m:ps.Nodup:=(do[<-S.pre];S.nd.sublist (mf _ _));{u,C,?_};k||k:=S.par y (qk hp);.inl ⟨k,Kc m hp t k⟩;{c,e}:=fh (n:=↑s+1) k;.inr {.inl k,c,e,?_};q:=x.cell y c e;q<-[Lo m hp t (do¬d.names.lookup y≠_;[k];by decide)];q;g.aZ.fresh (wu (x.above y c (PySem.mem_of_lookup h)));@start;¬_=N.length;[qg,qh,gc];()
def uO{CX:vE}{P:Program}{w:World}{K:PySem.W.Frag}{mg:Tp->Option MD}{base:Heap}{k:Nat}{f:To}{name qual:Tp}{d:Arguments}{g:List Stmt}{a:Scope}{M kV m X c O Y:MD}{R od:Option To}{B:Array (Option MD)}{N ps:List Tp}{sp:Sp}(lk:K.lookup f=some {Y,od,.func (PySem.W.fnOf name qual d g a M kV m X R c O),B})(F:PySem.W.codeIn K c qual=true)(S:aA N ps a)(len:∀vs H Q E,sp vs H Q E->vs.length=ps.length)(h:∀(A:Around) (outer:List Env) (s:Tj) (H:Hp) (vs:List V) (Q:VK) (E:XK),bG k (A.deeper (envOfC qual a ↑s f c))->sp vs H Q E-> ∃t,iL (j1 CX P w K mg base N qual a f c A outer s H E) g t/\t {nx:=λ_ H'=>Q .aS H',rt:=Q} (start N vs) H) : gG P w K mg base CX (k+1) f (PySem.W.fnOf name qual d g a M kV m X R c O) ps sp:=do _;{len,λA outer s H U us vs Q E G p hb r z=>?_};hl:=len _ _ _ _ z;L:K.In s.heap:=p.mod.MB.keeps λb o e=>(p.bs b o e).1;C:s.heap.NoLimit:=p.mod.nolimit.keeps λb o e=>(p.bs b o e).1;i:∀y∈ps.zip us,a.names.lookup y.1=some .local\/(a.names.lookup y.1=some .cell/\((cellsFrom (↑s+1) a.names []).lookup y.1).isSome=true):=λ⟨n,v⟩ hy=>(do q||q:=S.par n (kz hy).1;.inl q;.inr ⟨q,PySem.W.cellsFrom_some _ _ _ (.inl q)⟩);codeAny_call_function G.depth (L _ _ lk) rfl S.co S.gen rfl (PySem.W.codeRec_of L F) (hb _ _ _ _ ?_);wpAny_newFunctionEnv_cells S.kind i λenv Z T x=>?_;!Z;{C.keeps x.toInCall.keep,codeAny_func ?_};{t,ht,hq}:=h A outer s H vs Q E (G.deeper _) z;I:Inv (j1 CX P w K mg base N qual a f c A outer s H E) [] (start N vs) H T:=OV S G.hd p hl r x;qM (ht [] T (start N vs) H _ I hq) (λfl s' j=>?_) λe s' j=>j;l:∀{σ':St} {H':Hp} {v:V} {u:MD},Inv (j1 CX P w K mg base N qual a f c A outer s H E) [] σ' H' s'->RelV v u->Q v H'->CE outer P w H s Q u s':=λ{σ' H' v u} J D q=>{v,H',J.os,J.bare,J.base,J.aZ,D,q};(by cases fl with|ret u|next|brk|cont=>?_);{v,σ',H',J,D,q}:=j;l J D q;{σ',H',J,q}:=j;l (v:=V.aS) (u:=Value.none) J rfl q;{_,_,_,q}:=j;False.elim q;{_,_,_,q}:=j;False.elim q
section
variable {X:Cx}{x:Tp}{p pos:Pos}{e:Expr}{es:List Expr}{t:TA}{id T:String}{r:List V->Hp->VK->Prop}
def FY(r:List V->Hp->VK->Prop)(t:TA):TE:=λσ H Q=>t σ H λvs H1=>r vs H1 Q
def Rn(l:cn X (.builtin id) r)(f:Gl X x)(j:X.mg x=none)(g:bootBuiltins x=!(.builtin id))(n:PA X (e::es) t)(hn:autoParam (x≠"__name__") z12)(b:autoParam ((x==("__debug__":Tp))=false) z12)(k:autoParam (starEach (e::es) X.env=(false,eval e X.env)::starEach es X.env) z11)(a:autoParam ((backTo pos (starEach es X.env)).any (·.1)=false) z11):PE X (.Call (.Name x p) (e::es) [] pos) (FY r t):=do _;{?_};(pins,s,σ,H,Q,I,h);wpAny_Call_Name_kw (iC I f j g ?_ hn b);PyProof.Rows.callWith_builtin1 (bI (n pos pins s σ H _ I h) λus i ⟨vs,H1,d,c,m⟩=>l pins i σ H1 vs us Q d c m) k a
def Nj(l:cn X (.type T) r)(f:Gl X x)(j:X.mg x=none)(g:bootBuiltins x=!(.type T))(n:PA X (e::es) t)(hn:autoParam (x≠"__name__") z12)(b:autoParam ((x==("__debug__":Tp))=false) z12)(k:autoParam (starEach (e::es) X.env=(false,eval e X.env)::starEach es X.env) z11)(a:autoParam ((backTo pos (starEach es X.env)).any (·.1)=false) z11):PE X (.Call (.Name x p) (e::es) [] pos) (FY r t):=do _;{?_};(pins,s,σ,H,Q,I,h);wpAny_Call_Name_kw (iC I f j g ?_ hn b);PyProof.Rows.callWith_type1 (bI (n pos pins s σ H _ I h) λus i ⟨vs,H1,d,c,m⟩=>l pins i σ H1 vs us Q d c m) k a
end
end L2
namespace HT
open PySem PyProof.Rows
def lexLt:List Int->List Int->Bool|[],[]=>false|[],_::_=>true|_::_,[]=>false|x::xs,y::ys=>if x=y then lexLt xs ys else decide (x<y)
def eM(x y:Int)(xs ys:List Int):lexLt (x::xs) (y::ys)=if x=y then lexLt xs ys else decide (x<y):=rfl
def QM:lexLt [] []=false:=rfl
def M_(y:Int)(ys:List Int):lexLt [] (y::ys)=true:=rfl
def QC(x:Int)(xs:List Int):lexLt (x::xs) []=false:=rfl
def M7(A:Around)(s:Tj)(a:Int)(t:Tok)(c:Int)(u:Tok):∃e,SeqAt.EqAt A s (.int a t) (.int c u) e/\(e=true↔a=c) := {(a==c),SeqAt.EqAt.int_int a t c u,do 0}
def Pq(A:Around)(s:Tj)(a:Int)(t:Tok)(c:Int)(u:Tok)(prog:Program)(w:World)(E:KE)(Q:KE)(h:Q (.bool (decide (a<c))) s) : wpAny 66 A (richCompare .Lt (.int a t) (.int c u)) Q E s := (PyProof.Rows.lt_int h:wpAny 66 A (compareOp .Lt (.int a t) (.int c u)) Q E s)
section
open PySem.SeqAt
open PySem.AutoSeq1 (wpAny_loadPart')
open PySem.MeetsSeq PySem.MeetsSeq2 PySem.MeetsSeq3
def PU(l b:To)(items f:Array MD)(n I:Nat)(J D:Option To)(sl E:Array (Option MD))(ns ms:List Int)(hi:IntsAre items.toList ns)(H:IntsAre f.toList ms) : Meets (Builtin.«tuple.__lt__» {[.ref l,.ref b],[]}) (λ_ R s=>s.heap.get? l=some {cls:=.type "tuple",dict:=J,data:=.seq items n,slots:=sl}/\s.heap.get? b=some {cls:=.type "tuple",dict:=D,data:=.seq f I,slots:=E} ∧ R (.ok (.ret (.bool (lexLt ns ms)))) s) := .of_wp λprog w A R s h=>do _;{hp,g,d,tk,C}:=s;{M,N,h}:=h;U:=AutoSeq1.sub_tuple_tuple;P:items.size=ns.length:=(do[<-hi.length];0);Q:f.size=ms.length:=(do[<-H.length];0);by wp_walk using wpAny_loadPart' M,wpAny_loadPart' N,wpAny_forIn_list _ (λrest b s'=>b.1=none/\s'={hp,g,d,tk,C}/\∃(vs ws:List MD) (j k:List Int),rest=vs.zip ws ∧ IntsAre vs j/\IntsAre ws k/\j.length+f.size=k.length+items.size/\R (.ok (.ret (.bool (lexLt j k)))) {hp,g,d,tk,C}) _;(case turn =>(rintro⟨y,x⟩ rest b s' ⟨v,rfl,vs,ws,j,k,hz,r,m,i,o⟩;cases r with|nil|cons a t B=>?_;rw[List.zip_nil_left]at hz;cases hz;cases m with|nil|cons c u z=>?_;rw[List.zip_nil_right]at hz;cases hz;rw[bd]at hz;injection hz with hyx hrest;injection hyx with hy hx;subst hy hx;rw[eM]at o;simp only[List.length_cons]at i;obtain⟨e,K,p⟩:=M7 A.in1 {hp,g,d,tk,C} a t c u;refine qA (K prog w _ _ ?_);cases e with|true|false=>?_;rw[qF (p.mp rfl)]at o;wp_walk;exact{O,O,_,_,_,_,hrest,B,z,(),o};rw[qB (λq=>absurd (p.mpr q) qo)]at o;have F:=Pq A.in1 {hp,g,d,tk,C} a t c u prog w;wp_walk using F;exact{_,O,do 0<|o}));(case fin =>(rintro⟨S,T⟩ s' ⟨v,rfl,vs,ws,j,k,hz,r,m,i,o⟩;simp only at v;subst v;have G:lexLt j k=decide (items.size<f.size):=(do(by cases r with|nil|cons a t G=>?_;cases m with|nil|cons c u L=>?_);i<-#[_,List.length_nil];[QM];(decide_eq_false ()).symm;i<-#[_,List.length_nil,List.length_cons];[M_];(qH ()).symm;(by cases m with|nil|cons c u L=>?_);i<-#[_,List.length_nil,List.length_cons];[QC];(decide_eq_false ()).symm;hz<-[bd];-hz);rw[G]at o;wp_walk;exact{_,O,by simpa[Builtin.Tuple.tupleCompareSizes] using o}));case h =>exact{O,O,items.toList,f.toList,ns,ms,O,hi,H,(),h}
end
section
variable {prog:Program}{w:World}{A:Around}{E:KE}{s:Tj}
def nB(t:IsTup s.heap l items)(v:IsTup s.heap b a)(hi:IntsAre items.toList ns)(u:IntsAre a.toList ms)(q:A.units<cLine)(h:Q (.bool (lexLt ns ms)) s):wpAny 66 A (compareOp .Lt (.ref l) (.ref b)) Q E s:=do _;{{o,r,data,sl},j,k,n,m}:=id t;{{i,e,f,g},c,d,p,hd2}:=id v;(by simp only at k m d hd2;subst k m d hd2);richCompare_meets_room (op:=.Lt) {_,j,O} {_,c,O} PySem.F.slot_tuple_lt PySem.F.entry_tuple_lt (PySem.F.args_tuple_lt_2 _ _) (PU l b items a n p r e sl g ns ms hi u) {j,c,show Value.bool (lexLt ns ms)≠Value.notImplemented/\Q (.bool (lexLt ns ms)) s from{(λx=>nomatch x),h}} q
def wI(r:IsTup s.heap t vs.toArray)(q:IsTup s.heap b ws.toArray)(k:vs≠[])(h1:ws=[]->Q (.ref t) s)(h2:ws≠[]->Q (.ref ↑s) {s with heap:=s.heap.push {cls:=.type "tuple",data:=.seq (vs++ws).toArray}})(hsz:vs.length+ws.length<=sizeLine):wpAny 66 A (binaryOp .Add (.ref t) (.ref b)) Q E s:=do _;{{cls,m,data,sl},g,o,n,p}:=id r;{{j,c,i,d},a,f,l,hd2}:=id q;(by simp only at o p f hd2;subst o p f hd2);e:vs.toArray++ws.toArray=(vs++ws).toArray:=(do 0);h<|ws=[];concat_meets {_,g,O} {_,a,O} noFill_tuple_add seq_tuple_add PySem.F.slot_tuple_add PySem.F.entry_tuple_add (PySem.F.args_tuple_add_2 _ _) (tuple_addW1 t b vs.toArray ws.toArray n l m c sl d (do 0<|k) (do#[h])) {g,a,h1 h};concat_meets {_,g,O} {_,a,O} noFill_tuple_add seq_tuple_add PySem.F.slot_tuple_add PySem.F.entry_tuple_add (PySem.F.args_tuple_add_2 _ _) (tuple_addW2 t b vs.toArray ws.toArray n l m c sl d (do 0<|k) (do 0<|h) (do[List.size_toArray,List.size_toArray];hsz)) {g,a,?_};[e];h2 h
def bV(n d:Nat):Option Int->Nat|none=>d|some v=>if v<0 then(v+(n:Int)).toNat else min v.toNat n
def tS(n d:Nat):bV n d none=d:=rfl
def jW(n d k:Nat):bV n d (!(k:Int))=min k n:=do¬(if(k:Int)<0 then((k:Int)+(n:Int)).toNat else min (k:Int).toNat n)=min k n;[qB (),Int.toNat_natCast]
def C1(n d:Nat)(b:d<=n)(o:Option Int):bV n d o<=n:=do(by cases o with|none|some v=>?_);b;¬(if v<0 then(v+(n:Int)).toNat else min v.toNat n)<=n;a<|v<0;[qF a];();[qB a];ji _ _
def G8(v:Int)(n d:Nat):(if v<0 then max (v+(n:Int)) 0 else min v (n:Int))=((bV n d (!v):Nat):Int):=do¬(if v<0 then max (v+(n:Int)) 0 else min v (n:Int))=(((if v<0 then(v+(n:Int)).toNat else min v.toNat n):Nat):Int);a<|v<0;#[_,if_pos a];();#[_,if_neg a];()
def RA(lo hi:Option Int)(n:Nat):Builtin.Slice.sliceAdjust lo hi 1 (n:Int)=(((bV n 0 lo:Nat):Int),((bV n n hi:Nat):Int)):=do h1:¬((1:Int)<0):=();@Builtin.Slice.sliceAdjust;#[_,h1,if_false];Prod.ext ?_ ?_;(by cases lo with|none|some v=>?_);2;G8 v n 0;(by cases hi with|none|some v=>?_);2;G8 v n n
def Q8(i j:Nat):Builtin.Slice.slicePlaces (i:Int) (j:Int) 1=j - i:=do@Builtin.Slice.slicePlaces;h1:(1:Int)>0:=();#[_,h1,if_true,Int.ediv_one];by split <;> omega
def Lm(p:IsPart v o)(h:Q o s):wpAny 66 A (Builtin.Slice.slicePartIndex v) Q E s:=do(by cases p with|none|int i t=>?_);slicePart_none h;slicePart_int h
def Om{sl:To}{c d:MD}{lo hi:Option Int}{n:Nat}{Q:Int×Int×Nat->Tj->Prop}(f:s.heap.IsSliceOf sl c d .none)(g:IsPart c lo)(e:IsPart d hi)(h:Q (((bV n 0 lo:Nat):Int),1,bV n n hi - bV n 0 lo) s):wpAny 66 A (Builtin.Slice.sliceApplied (.ref sl) (pure (n:Int))) Q E s:=do _;{j,b,i,a}:=id f;(by unfold Builtin.Slice.sliceApplied Builtin.Slice.sliceFields);qA (qA (wpAny_field b a (x:=c) rfl (qA (wpAny_field b a (x:=d) rfl (qA (wpAny_field b a (x:=.none) rfl (qE ?_)))))));qA (slicePart_none ?_);¬wpAny _ _ (if((1:Int)==0)=true then _ else _) _ _ s;[qB ⋯];qA (Lm g (qA (Lm e (qA (qE ?_)))));¬wpAny _ _ (match Builtin.Slice.sliceAdjust lo hi 1 (n:Int) with|(lo,hi)=>pure (lo,(1:Int),Builtin.Slice.slicePlaces lo hi 1)) _ _ s;[RA lo hi n];¬wpAny _ _ (pure (((bV n 0 lo:Nat):Int),(1:Int),Builtin.Slice.slicePlaces ((bV n 0 lo:Nat):Int) ((bV n n hi:Nat):Int) 1)) _ _ s;[Q8];qE h
def Qa(xs:Array MD)(i k:Nat):((List.range k).filterMap λ(m:Nat)=>xs[((i:Int)+(m:Int) * 1).toNat]?).toArray=((xs.toList.drop i).take k).toArray:=do e:(λ(m:Nat)=>xs[((i:Int)+(m:Int) * 1).toNat]?)=λm=>xs[i+m]?:=(by funext m;have:((i:Int)+(m:Int) * 1).toNat=i+m:=();rw[this]);[e];this:=pick_run xs i k;this<-[List.filterMap_map];a:((λx=>xs[x]?)∘λx=>i+x)=λm=>xs[i+m]?:=rfl;this<-[a];[this]
def e_{t sl:To}{items:Array MD}{i j:MD}{lo hi:Option Int}{Q:KE}(b:IsTup s.heap t items)(g:s.heap.IsSliceOf sl i j .none)(p:IsPart i lo)(l:IsPart j hi)(o:¬(bV items.size 0 lo=0/\bV items.size items.size hi=items.size))(h:Q (.ref ↑s) {s with heap:=s.heap.push {cls:=.type "tuple",data:=.seq ((items.toList.drop (bV items.size 0 lo)).take (bV items.size items.size hi - bV items.size 0 lo)).toArray}})(hsz:items.size<=sizeLine):wpAny 66 A (getItem (.ref t) (.ref sl)) Q E s:=do a:sizeOk (.seq ((items.toList.drop (bV items.size 0 lo)).take (bV items.size items.size hi - bV items.size 0 lo)).toArray):=(do¬((items.toList.drop (bV items.size 0 lo)).take (bV items.size items.size hi - bV items.size 0 lo)).toArray.size<=sizeLine;[ze,wv,yq,zk];());u:bV items.size items.size hi<=items.size:=C1 _ _ (qb _) hi;{n,c,e,k}:=id g;d:s.TypeIs (.ref sl) "slice":={n,c,e};@getItem;(by(try with_reducible refine qK ?_);first|refine qA (qE ?_)|skip);qA (wpAny_sequenceKey b.typeIs ⋯ ?_);qA (wpAny_callSpecial?_slot (name:=Str.ofString "__getitem__") b.typeIs PyProof.Rows.slot_tuple_getitem (qO PyProof.Rows.slot_tuple_getitem b.typeIs entry_tuple_getitem ?_ (args_tuple_getitem _ _)));¬wpAny _ _ (Builtin.Tuple.tupleItemsOf (.ref t) >>= _) _ _ s;qA (tupleItemsOf_ b ?_);qA (wpAny_typeOf d ?_);[qF ⋯];qA (Om g p l ?_);f:¬((((bV items.size 0 lo:Nat):Int)==0&&(1:Int)==1&&(bV items.size items.size hi - bV items.size 0 lo)==items.size)=true):=(do(q);q<-[zn,zn];v:((bV items.size 0 lo:Nat):Int)=0:=eq_of_beq q.1.1;r:bV items.size items.size hi - bV items.size 0 lo=items.size:=eq_of_beq q.2;o {(),()});¬wpAny _ _ (if(((bV items.size 0 lo:Nat):Int)==0&&(1:Int)==1&&(bV items.size items.size hi - bV items.size 0 lo)==items.size)=true then _ else _) _ _ s;[qB f,Qa];by first|exact qA (m:=Builtin.Tuple.tupleExact _) (wpAny_newObj_type (qE ⟨_,O,qE h⟩) a)|exact qA (m:=Builtin.Tuple.tupleExact _) (wpAny_newObj_type (qA (qE (qE ⟨_,O,qE h⟩))) a)|exact qA (qA (m:=Builtin.Tuple.tupleExact _) (wpAny_newObj_type (qE (qE ⟨_,O,qE h⟩)) a))|exact qA (qA (m:=Builtin.Tuple.tupleExact _) (wpAny_newObj_type (qE ⟨_,O,qE h⟩) a))
end
end HT
namespace L2
open PySem PySem.Spec PyProof.Rows
abbrev TO:=St->Hp->(Option Int->Hp->Prop)->Prop
def Se(X:Cx)(e:Option Expr)(t:TO):Prop := ∀(pins:List (To×Obj)) (s:Tj) (σ:St) (H:Hp) (Q:Option Int->Hp->Prop),Inv X pins σ H s->t σ H Q-> wpAny 48 X.A (evalPart e X.env) (λu s'=>∃o H',Inv X pins σ H' s'/\IsPart u o/\Q o H') X.xe s
structure PO(X:Cx)(e:Option Expr)(t:TO):Prop where run:Se X e t
instance SD{X:Cx}{e:Option Expr}{t:TO}:CoeFun (PO X e t) λ_=>Se X e t:={PO.run}
def oV:TO:=λ_ H Q=>Q none H
inductive C8(Q:Option Int->Hp->Prop)(x:V)(H1:Hp):Prop
 |mk(i:_)(_:x=.int i)(_:Q (!i) H1)
def yC(t:TE):TO:=λσ H Q=>t σ H λx H1=>C8 Q x H1
def Ht:∀{us:List MD},aK (ns.map V.int) us->IntsAre us ns:=do(by induction ns with|nil|cons n ns c=>?_);(us,r);r<-[gf];-r;.nil;(us,r);r<-[zm];(by cases r with|cons b a=>?_);{t,e}:=b;!e;.cons n t (c a)
section
variable {X:Cx}{e:Expr}{te:TE}{lo hi:Option Expr}{tl th:TO}{pos p2:Pos}
def iS:PO X none oV:=do _;{?_};(pins,s,σ,H,Q,I,h);[evalPart_none];qE {none,H,I,.none,h}
def dN(h:PE X e te):PO X (!e) (yC te):=do _;{?_};(pins,s,σ,H,Q,I,c);[evalPart_some];bI (h pins s σ H _ I c) λu f ⟨x,H1,b,a,d⟩=>?_;{i,rfl,q}:=d;{t,rfl}:=a;{!i,H1,b,.int i t,q}
def xc(X:Cx)(r:V->Option Int->Option Int->Hp->VK->Prop):Prop := ∀(pins:List (To×Obj)) (s:Tj) (σ:St) (H:Hp) (x:V) (v a b:MD) (lo hi:Option Int) (sl:To) (Q:VK),Inv X pins σ H s->RelV x v->s.heap.IsSliceOf sl a b .none->IsPart a lo->IsPart b hi->r x lo hi H Q-> ∃T id,typeLookup (.type T) "__getitem__"=pure (!(.builtin id))/\s.TypeIs v T/\wpAny 48 X.A (getItem v (.ref sl)) (EP X pins σ Q) X.xe s
def Sb(r:V->Option Int->Option Int->Hp->VK->Prop)(te:TE)(tl th:TO):TE:=λσ H Q=>te σ H λx H1=>tl σ H1 λl H2=>th σ H2 λu a=>r x l u a Q
def fL(G:xc X r)(j:PE X e te)(t:PO X lo tl)(o:PO X hi th):PE X (.Subscript e (.Slice lo hi none p2) pos) (Sb r te tl th):=do _;{?_};(pins,s,σ,H,Q,I,h);Subscript_ (bI (j pins s σ H _ I h) λv E ⟨x,H1,C,g,y⟩=>?_);wpAny_Slice (bI (t pins E σ H1 _ C y) λd s2 ⟨l,H2,i,F,p⟩=>bI (o pins s2 σ H2 _ i p) λc a ⟨u,f,z,D,J⟩=>?_);[evalPart_none];qE ?_;k:Inv X pins σ f {a with heap:=a.heap.push {cls:=.type "slice",data:=.fields #[d,c,.none]}}:=z.kept (t':=a.toks) λb ob q=>qI _ q;{T,id,m,B,n}:=G pins {a with heap:=a.heap.push {cls:=.type "slice",data:=.fields #[d,c,.none]}} σ f x v d c l u ↑a Q k g (Heap.IsSliceOf.new ..) F D J;¬wpAny 48 X.A (subscriptTail e (.Slice lo hi none p2) v (.ref ↑a)) (EP X pins σ Q) X.xe {a with heap:=a.heap.push {cls:=.type "slice",data:=.fields #[d,c,.none]}};tail_any (ops:=[.ref ↑a,v]) B m n (by with_unfolding_all rfl)
def fm(xs:List V)(lo hi:Option Int):List V:=(xs.drop (HT.bV xs.length 0 lo)).take (HT.bV xs.length xs.length hi - HT.bV xs.length 0 lo)
def E4(xs:List V)(lo hi:Option Int):(fm xs lo hi).length<=xs.length:=do@fm;[wv,yq];()
inductive NH(x:V)(lo:Option Int)(hi:Option Int)(H:Hp)(Q:VK):Prop
 |mk(a xs:_)(_:x=.ref a)(_:aQ H a xs)(_:¬(HT.bV xs.length 0 lo=0/\HT.bV xs.length xs.length hi=xs.length))(_:∀p,H p=none->Q (.ref p) (upd H p (.tup (fm xs lo hi))))
def E1:xc X (NH):=do(pins,s,σ,H,x,v,l,m,lo,hi,sl,Q,I,k,g,j,f,h);{a,xs,rfl,e,i,q}:=h;-k;{its,r,d,hz}:=I.tuple e;c:its.toArray.size=xs.length:=(do[ze];r.length.symm);{"tuple",_,PyProof.Rows.slot_tuple_getitem.lookup,d.typeIs,?_};HT.e_ d g j f (do[c];i) ?_ (do[c];hz);[c];{.ref ↑s,_,I.laid (t':=s.toks) (o:=.tup (fm xs lo hi)) (λb ob q=>qI _ q) (qb _) ?_,O,q _ (I.aZ.fresh (qb _))};{qf (E4 xs lo hi) hz,_,(r.drop (HT.bV xs.length 0 lo)).take (HT.bV xs.length xs.length hi - HT.bV xs.length 0 lo),IsTup.new _ _}
inductive NU(x y:V)(H:Hp)(Q:VK):Prop
 |mk(a b ns ms:_)(_:x=.ref a)(_:y=.ref b)(_:aQ H a (ns.map V.int))(_:aQ H b (ms.map V.int))(_:Q (.bl (HT.lexLt ns ms)) H)
def DY(k:X.A.units<cLine):dn X (compareOp .Lt) (NU):=do(pins,s,σ,H,x,y,v,u,Q,I,n,i,h);{a,b,ns,ms,rfl,rfl,j,m,q}:=h;-n;-i;{its,e,f,_}:=I.tuple j;{c,d,p2,_}:=I.tuple m;l:IntsAre its.toArray.toList ns:=Ht e;g:IntsAre c.toArray.toList ms:=Ht d;HT.nB f p2 l g k {.bl (HT.lexLt ns ms),H,I,O,q}
inductive Iw(x y:V)(H:Hp)(Q:VK):Prop
 |mk(a b xs ys:_)(_:x=.ref a)(_:y=.ref b)(_:aQ H a xs)(_:aQ H b ys)(_:xs≠[])(_:xs.length+ys.length<=sizeLine)(_:(ys=[]->Q (.ref a) H))(_:(ys≠[]->∀p,H p=none->Q (.ref p) (upd H p (.tup (xs++ys)))))
def aK.kO(r:aK xs us):us=[]↔xs=[]:=do(by cases r with|nil|cons _ _=>?_);0;0
def Qz:dn X (binaryOp .Add) (Iw):=do(pins,s,σ,H,x,y,v,u,Q,I,n,i,h);{a,b,xs,ys,rfl,rfl,j,l,g,hz,m,k}:=h;-n;-i;{its,d,f,_}:=I.tuple j;{e,c,p2,_}:=I.tuple l;HT.wI f p2 (λz=>g (d.kO.mp z)) (λz=>{.ref a,H,I,O,m (c.kO.mp z)}) (λz=>?_) (do[<-d.length,<-c.length];hz);{.ref ↑s,_,I.laid (t':=s.toks) (o:=.tup (xs++ys)) (λb ob q=>qI _ q) (qb _) ?_,O,k (λw=>z (c.kO.mpr w)) _ (I.aZ.fresh (qb _))};{do[qg];hz,_,d.append c,IsTup.new _ _}
end
def sE(n:Nat)(i:Int):Option Nat:=if 0<=i then(if i<n then some i.toNat else none) else if -(n:Int)<=i then some (i+n).toNat else none
def nW{α:Type}(xs:List α)(i:Int):Option α:=(sE xs.length i).bind λj=>xs[j]?
def JJ(h:sE n i=!j):seqIndex? i n=!j/\j<n/\-(n:Int)<=i/\i<n:=do(by unfold sE at h);h0<|0<=i;h<-[qF h0];h1<|i<n;h<-[qF h1];e:i.toNat=j:=qJ h;{do[seqIndex_of h0 h1,e],(),(),h1};h<-[qB h1];-h;h<-[qB h0];h1<|-(n:Int)<=i;h<-[qF h1];e:(i+n).toNat=j:=qJ h;{do[seqIndex_neg () h1,e],(),h1,()};h<-[qB h1];-h
def A3{α:Type}{xs:List α}{i:Int}{v:α}(h:nW xs i=!v):∃j,seqIndex? i xs.length=!j/\xs[j]?=!v/\j<xs.length/\-(xs.length:Int)<=i/\i<xs.length:=do(by unfold nW at h;cases e:sE xs.length i with|none|some j=>?_);h<-[e];-h;h<-[e];{h1,h2,b,a}:=JJ e;{j,h1,h,h2,b,a}
def vR{α:Type}{xs:List α}{j:Nat}{v:α}(h:xs[j]?=!v):nW xs (j:Int)=!v:=do a:j<xs.length:=(qp.mp h).1;e:sE xs.length (j:Int)=!j:=(do@sE;[qF (),qF ()];0);@nW;[e];h
def g_(b:Expr):Prop:=∀o i,subscripted b false o i=operate [o,i] (getItem o i)
def Hd(X:Cx)(r:R2):Prop := ∀(value a:Expr) (pins:List (To×Obj)) (s:Tj) (σ:St) (H:Hp) (x y:V) (v u:MD) (Q:VK),Inv X pins σ H s->RelV x v->RelV y u->r x y H Q-> subscripted a false v u=operate [v,u] (getItem v u)->wpAny 48 X.A (subscriptTail value a v u) (EP X pins σ Q) X.xe s
def La(X:Cx)(id:String)(r:V->List V->Hp->VK->Prop):Prop := ∀(pins:List (To×Obj)) (s:Tj) (σ:St) (H:Hp) (x:V) (xs:List V) (v:MD) (us:List MD) (Q:VK),Inv X pins σ H s->RelV x v->aK xs us->r x xs H Q-> wpAny 48 X.A (call (.builtin id) (v::us)) (EP X pins σ Q) X.xe s
section
variable {X:Cx}{a b:Expr}{ta tb:TE}{pos:Pos}
def jP(d:Hd X r)(e:PE X a ta)(i:PE X b tb)(g:g_ b):PE X (.Subscript a b pos) (oG r ta tb):=do _;{?_};(pins,s,σ,H,Q,I,h);Subscript_ (BH e i I h λv u s2 x y H2 f j c q=>d a b pins s2 σ H2 x y v u Q f j c q (g _ _))
inductive CN(x y:V)(H:Hp)(Q:VK):Prop
 |mk(p xs i v:_)(_:x=.ref p)(_:y=.int i)(_:az H p xs)(_:nW xs i=!v)(_:Q v H)
inductive Fx(x y:V)(H:Hp)(Q:VK):Prop
 |mk(p xs i v:_)(_:x=.ref p)(_:y=.int i)(_:aQ H p xs)(_:nW xs i=!v)(_:Q v H)
inductive MY(x y:V)(H:Hp)(Q:VK):Prop
 |mk(z i c:_)(_:x=.str z)(_:y=.int i)(_:z.length<=sizeLine)(_:nW z.cps.toList i=!c)(_:Q (.str ⟨#[c]⟩) H)
def Fv:Hd X (CN):=do(value,e,pins,s,σ,H,x,y,v,u,Q,I,A,m,h,f);{p,xs,i,z,rfl,rfl,B,o,q}:=h;-A;{t,rfl}:=m;{its,r,b,hz}:=I.list B;{j,h1,h2,C,l,k}:=A3 o;{w,g,d}:=r.get h2;n:=r.length;hn:=mI;a:EP X pins σ Q w s:={z,H,I,d,q};h0<|0<=i;c:i.toNat=j:=(do h1<-[seqIndex_of h0 k];qJ h1);item_listR b.isList h0 () (do[c];0<|g) a f;c:(i+(its.toArray.size:Int)).toNat=j:=(do h1<-[seqIndex_neg () l];[ze,<-n];qJ h1);subscriptTail_builtinR (x:=w) b.isList.typeIs slot_list_getitem.lookup (wpAny_getItem_list_neg (Q:=λr s'=>r=w/\EP X pins σ Q r s') b.isList () (by rw[List.size_toArray] <;> omega) () (do[c];0<|g) {O,a}) f
def Hw:Hd X (Fx):=do(value,c,pins,s,σ,H,x,y,v,u,Q,I,m,e,h,k);{p,xs,i,z,rfl,rfl,n,g,q}:=h;-m;{t,rfl}:=e;{its,r,d,hz}:=I.tuple n;{j,h1,h2,B,A,o}:=A3 g;{w,l,b}:=r.get h2;f:=r.length;hn:=mI;a:EP X pins σ Q w s:={z,H,I,b,q};subscriptTail_builtinR (x:=w) d.typeIs slot_tuple_getitem.lookup (getItem_tuple (j:=j) (Q:=λr s'=>r=w/\EP X pins σ Q r s') d () () (do[List.size_toArray,<-f];h1) (do 0<|l) {O,a}) k
def DR:Hd X MY:=do(value,a,pins,s,σ,H,x,y,v,u,Q,I,n,e,h,g);{z,i,c,rfl,rfl,hz,l,q}:=h;{t,rfl}:=n;{t',rfl}:=e;{j,h1,h2,o,d,b}:=A3 l;k:z.cps.toList.length=z.length:=(do#[Str.length]);(by rw[k]at h1 d b);hn:=mI;tail_any (typeIs_str s z t) slot_str_getitem.lookup (getItem_str (c:=c) (do m:decide (i < -(2 ^ 63:Int))=false:=decide_eq_false ();f:decide (i>=2 ^ 63)=false:=decide_eq_false ();[m,f,Bool.or_false]) (do[h1];0<|h2) {.str {#[c]},H,I.tok _,{_,O},q}) g
def Rh(its:List MD)(n j:Nat)(u:MD):Obj.mapSeq (·.setIfInBounds j u) {cls:=.type "list",data:=.seq its.toArray n}={cls:=.type "list",data:=.seq (its.set j u).toArray n}:=do#[Obj.mapSeq]
theorem Inv.lst{pins:List (To×Obj)}{σ:St}{H:Hp}{s:Tj}{p:To}{xs:List V}(I:Inv X pins σ H s)(h:H p=! (.lst xs)) : ∃(its:List MD) (n:Nat),aK xs its/\s.heap.get? p=some {cls:=.type "list",data:=.seq its.toArray n}/\xs.length<=sizeLine:=do _;{z,its,n,r,e}:=I.aZ p _ h;{its,n,r,e,z}
def Inv.uH{pins:List (To×Obj)}{σ:St}{H:Hp}{s:Tj}{p:To}{xs ys:List V}{its its':List MD}{n n':Nat}{f:Obj->Obj}(I:Inv X pins σ H s)(h:H p=! (.lst xs))(c:s.heap.get? p=some {cls:=.type "list",data:=.seq its.toArray n})(a:f {cls:=.type "list",data:=.seq its.toArray n}={cls:=.type "list",data:=.seq its'.toArray n'})(r:aK ys its')(hz:ys.length<=sizeLine)(t:Nat) : Inv X pins σ (upd H p (.lst ys)) {s with heap:=s.heap.update p f,toks:=t}:=do e:(s.heap.update p f).get? p=some {cls:=.type "list",data:=.seq its'.toArray n'}:=(do[Heap.get?_update_self f c (by rw[a] <;> rfl),a]);I.write (x:=p) (e:=p) (by rw[h];trivial) (.inl rfl) (λb u d q=>(Heap.get?_update_other _ _ (Ne.symm d)).trans q) {_,e} ?_;{hz,its',n',r,e}
inductive IA(o i v:V)(H:Hp)(Q:(Hp->Prop)):Prop
 |mk(p xs k j:_)(_:o=.ref p)(_:i=.int k)(_:H p=! (.lst xs))(_:sE xs.length k=!j)(_:Q (upd H p (.lst (xs.set j v))))
def J5:Lp X IA:=do(pins,s,σ,H,o,i,v,y,x,u,Q,I,w,m,g,h);{p,xs,k,j,rfl,rfl,hp,l,q}:=h;-w;{t,rfl}:=m;{its,n,r,a,hz}:=I.lst hp;{h1,h2,f,d}:=JJ l;b:=r.length;hn:=mI;e:Inv X pins σ (upd H p (.lst (xs.set j v))) {s with heap:=s.heap.update p (Obj.mapSeq (·.setIfInBounds j u))}:=I.uH hp a (Rh its n j u) (r.set g j) (do[List.length_set];hz) s.toks;h0<|0<=k;c:k.toNat=j:=(do h1<-[seqIndex_of h0 d];qJ h1);PySem.W.ki_setAt a h0 () (do[ze,<-b];d) (do[c];{_,e,q});c:(k+(its.toArray.size:Int)).toNat=j:=(do h1<-[seqIndex_neg () f];[ze,<-b];qJ h1);PySem.W.ki_setBack a () (do[ze,<-b];f) () (do[c];{_,e,q})
def PD(lo hi:Option Int)(n:Nat):(sliceBounds lo hi none n).1=((HT.bV n 0 lo:Nat):Int)/\(sliceBounds lo hi none n).2.1=((HT.bV n n hi:Nat):Int)/\(sliceBounds lo hi none n).2.2=1:=do _;{?_,?_,O};(by cases lo with|none|some i=>?_);#[sliceBounds,HT.bV];#[_,sliceBounds,HT.bV,Option.getD_none,show(1:Int)>0 from ⋯,if_true];h<|i<0;(by simp only[h,if_true] <;> omega;simp only[h,if_false] <;> omega;cases hi with|none|some i=>?_);#[sliceBounds,HT.bV];#[_,sliceBounds,HT.bV,Option.getD_none,show(1:Int)>0 from ⋯,if_true];h<|i<0;by simp only[h,if_true] <;> omega;simp only[h,if_false] <;> omega
def O3(its:List MD)(lo hi:Option Int):slicePick its.toArray lo hi none=((its.drop (HT.bV its.length 0 lo)).take (HT.bV its.length its.length hi - HT.bV its.length 0 lo)).toArray:=do _;{h1,h2,a}:=PD lo hi its.toArray.size;@slicePick;[h1,h2,a];by simp only[sliceRange_one,pick_run,List.size_toArray] <;> rfl
inductive Ru(x:V)(lo:Option Int)(hi:Option Int)(H:Hp)(Q:VK):Prop
 |mk(a xs:_)(_:x=.ref a)(_:az H a xs)(_:∀p,H p=none->Q (.ref p) (upd H p (.lst (fm xs lo hi))))
def RE:xc X (Ru):=do(pins,s,σ,H,x,v,k,l,lo,hi,sl,Q,I,j,g,i,f,h);{a,xs,rfl,e,q}:=h;-j;{its,r,d,hz}:=I.list e;c:=r.length;{"list",_,slot_list_getitem.lookup,d.isList.typeIs,?_};wpAny_getItem_list_slice d.isList g i f .none (do 0) ?_ (by rw[List.size_toArray] <;> omega);[O3,<-c];{.ref ↑s,_,I.laid (t':=s.toks) (o:=.lst (fm xs lo hi)) (λb ob q=>qI _ q) (qb _) ?_,O,q _ (I.aZ.fresh (qb _))};{qf (E4 xs lo hi) hz,_,0,(r.drop (HT.bV xs.length 0 lo)).take (HT.bV xs.length xs.length hi - HT.bV xs.length 0 lo),qL _ rfl}
inductive iR(xs:List V)(H:Hp)(Q:VK):Prop
 |mk(p ys:_)(_:xs=[.ref p])(_:(az H p ys\/aQ H p ys))(_:Q (.int ys.length) H)
def de:cn X (.builtin "len") (iR):=do(pins,s,σ,H,xs,us,Q,I,r,h);{p,ys,rfl,b,q}:=h;{u,rfl,e}:=vals1 r;-e;hn:=mI;b||b:=b;{its,c,d,hz}:=I.list b;a:=c.length;Calls.call_len_list d.isList (by simp only[List.size_toArray] <;> omega) {.int ys.length,H,I.tok _,{s.toks+1,do[List.size_toArray,a]},q};{its,c,d,hz}:=I.tuple b;a:=c.length;len_tuple d (by simp only[List.size_toArray] <;> omega) {.int ys.length,H,I.tok _,{s.toks+1,do[List.size_toArray,a]},q}
inductive eg(xs:List V)(H:Hp)(Q:VK):Prop
 |mk(z:_)(_:xs=[.str z])(_:z.length<=sizeLine)(_:Q (.int z.length) H)
def M6:cn X (.builtin "len") eg:=do(pins,s,σ,H,xs,us,Q,I,r,h);{z,rfl,hz,q}:=h;{u,rfl,t,rfl}:=vals1 r;hn:=mI;len_str () {.int z.length,H,I.tok _,{_,O},q}
inductive i6(xs:List V)(H:Hp)(Q:VK):Prop
 |mk(p ys:_)(_:xs=[.ref p])(_:(az H p ys\/aQ H p ys))(_:∀l,H l=none->Q (.ref l) (upd H l (.lst ys)))
def N5:cn X (.type "list") (i6):=do(pins,s,σ,H,xs,us,Q,I,r,h);{p,ys,rfl,f,q}:=h;{u,rfl,m}:=vals1 r;-m;d:∀(its:List MD),aK ys its->ys.length<=sizeLine->∀(h':Heap) (c:Nat),(∀b o',s.heap.get? b=!o'->h'.get? b=!o')-> h'.get? ↑s=some {cls:=.type "list",dict:=none,data:=.seq its.toArray c,slots:=#[]}->EP X pins σ Q (.ref ↑s) {s with heap:=h'}:=λits a hz h' c kp e => {.ref ↑s,_,I.laid (t':=s.toks) kp (qb _) (show aV X.prog X.w _ h' _ (.lst ys) from{hz,its,c,a,e}),O,q _ (I.aZ.fresh (qb _))};f||f:=f;{its,a,j,hz}:=I.list f;g:=a.length;{o,i,k,n,l}:=j.isList;call_list_seq p (.inl rfl) i k l (λh' c kp e=>d its a hz h' c kp e) (by simp only[List.size_toArray] <;> omega);{its,a,j,hz}:=I.tuple f;g:=a.length;{o,i,k,n,l}:=j;call_list_seq p (.inr rfl) i k l (λh' c kp e=>d its a hz h' c kp e) (by simp only[List.size_toArray] <;> omega)
def Mv(T:String)(x:V)(H:Hp):Prop:=match x with|.str _=>T = "str"|.int _=>T = "int"|.ref p=>(T = "list" /\ ∃xs,az H p xs)\/(T = "tuple" /\ False) ∨ (T = "dict" /\ ((∃kvs,H p=!(.dK kvs))\/(∃kvs,H p=!(.dT kvs))\/∃kvs,H p=! 69))\/(T = "set" /\ ∃S n,H p=!(.set S n))|_=>False
def IJ{pins:List (To×Obj)}{σ:St}{H:Hp}{s:Tj}{T:String}{x:V}{v:MD}(I:Inv X pins σ H s)(r:RelV x v)(ty:Mv T x H) : s.TypeIs v T/\∀a,v=.ref a->∃ob,s.heap.get? a=!ob/\ob.dict=none:=by cases x with|str z=>(obtain⟨t,rfl⟩:=r;cases(show T = "str" from ty);exact{typeIs_str s z t,λ_ e=>nomatch e})|int i=>(obtain⟨t,rfl⟩:=r;cases(show T = "int" from ty);exact{typeIs_int s i t,λ_ e=>nomatch e})|ref p=>(cases r;rcases ty with⟨rfl,xs,j⟩|⟨rfl,g⟩|⟨rfl,b⟩|⟨rfl,S,n,b⟩;obtain⟨its,_,f,_⟩:=I.list j;refine{f.isList.typeIs,λa e=>?_};cases e;obtain⟨o,n,e,c,h,_⟩:=f;exact{o,e,h};exact g.elim;have z:∃o,s.heap.get? p=!o/\o.ExactDict:=(do _;{kvs,b}||{kvs,b}||{kvs,b}:=b;{_,_,_,_,o,_,_,e,ex,_}:=I.aZ p _ b;{o,e,ex};{_,_,_,_,o,_,_,e,ex,_}:=I.aZ p _ b;{o,e,ex};{_,_,_,_,o,_,_,e,ex,_}:=I.aZ p _ b;{o,e,ex});obtain⟨o,e,ex⟩:=z;refine{{o,e,ex.1},λa d=>?_};cases d;exact{o,e,ex.2.1};obtain⟨o,_,_,_,e,ex,_⟩:=I.aZ p _ b;refine{{o,e,ex.1},λa d=>?_};cases d;exact{o,e,ex.2.1})|_=>exact False.elim ty
def RW(T:String)(r:V->List V->Hp->VK->Prop)(to:TE):TE:=λσ H Q=>to σ H λx H1=>Mv T x H1/\r x [] H1 Q
def OX(T:String)(r:V->List V->Hp->VK->Prop)(to:TE)(t:TA):TE:=λσ H Q=>to σ H λx H1=>Mv T x H1/\t σ H1 λxs H2=>r x xs H2 Q
variable {o e:Expr}{es:List Expr}{to:TE}{t:TA}{name:Tp}{apos cpos:Pos}{T id:String}{r:V->List V->Hp->VK->Prop}
def Ll(g:PlainAttrs T)(slot:Slot T name id)(c:typeOf (.builtin id)=pure (.type "method_descriptor"))(j:La X id r)(f:PE X o to)(b:autoParam (attributeBase o name X.env (eval o X.env)=eval o X.env) z11)(a:autoParam ((apos.endLine==cpos.line)=true) z11):PE X (.Call (.Attribute o name apos) [] [] cpos) (RW T r to):=do _;{?_};(pins,s,σ,H,Q,I,h);wpAny_Call_method0_late b a (bI (f pins s σ H _ I h) λv i ⟨x,H1,e,d,ty,k⟩=>?_);{h1,h2}:=IJ e d ty;{T,id,g,slot,c,h1,h2,Calls.callWith_builtin rfl (PySem.evalArgs_none (j pins i σ H1 x [] v [] Q e d .nil k))}
def Ms(m:PlainAttrs T)(slot:Slot T name id)(f:typeOf (.builtin id)=pure (.type "method_descriptor"))(q:La X id r)(l:PE X o to)(z:PA X (e::es) t)(c:autoParam (attributeBase o name X.env (eval o X.env)=eval o X.env) z11)(d:autoParam (((backTo cpos (starEach (e::es) X.env)).all (λx=>not x.1)&&(backToKw cpos (keywordEach [] X.env)).all (λx=>x.1.isSome) && decide ((e::es).length+([]:List Keyword).length+(if([]:List Keyword).isEmpty then 0 else 1)<30))=true) z11)(b:autoParam ((apos.endLine==cpos.line)=true) z11)(w:autoParam (starEach (e::es) X.env=(false,eval e X.env)::starEach es X.env) z11)(a:autoParam ((backTo cpos (starEach es X.env)).any (·.1)=false) z11) : PE X (.Call (.Attribute o name apos) (e::es) [] cpos) (OX T r to t):=do _;{?_};(pins,s,σ,H,Q,I,h);wpAny_Call_method_late c d b rfl (bI (l pins s σ H _ I h) λv n ⟨x,H1,j,g,ty,y⟩=>?_);{h1,h2}:=IJ j g ty;{T,id,m,slot,f,h1,h2,?_};i:=z cpos pins n σ H1 _ j y;(by rw[w]at i ⊢);Calls.callWith_builtin (by show(false||(backTo cpos (starEach es X.env)).any (·.1))=false;rw[a] <;> rfl) (Calls.evalArgs_plain ?_);bI i λus s2 ⟨vs,H2,p,k,u⟩=>q pins s2 σ H2 x vs v us Q p g k u
end
def yM(X:Cx)(id:String)(r:V->List V->Hp->VK->Prop):Prop := ∀(pins:List (To×Obj)) (s:Tj) (σ:St) (H:Hp) (x:V) (xs:List V) (v:MD) (us:List MD) (Q:VK),Inv X pins σ H s->RelV x v->aK xs us->r x xs H Q-> wpAny 48 X.A (call (.builtin id) (v::us)) (EP X pins σ Q) X.xe s
def aK.tl(h:aK (x::xs) us):∃u vs,us=u::vs/\RelV x u/\aK xs vs:=do(by cases h with|cons r t=>?_);{_,_,O,r,t}
def aK.one:∀{x:V} {us:List MD},aK [x] us->∃u,us=[u]/\RelV x u:=do(x,us,h);(by cases h with|cons r t=>?_);-t;{_,O,r}
def aK.two:∀{x y:V} {us:List MD},aK [x,y] us->∃u v,us=[u,v]/\RelV x u/\RelV y v:=do(x,y,us,h);{u,vs,rfl,r,t}:=aK.tl h;{v,rfl,q}:=aK.one t;{u,v,O,r,q}
def aK.zero:∀{us:List MD},aK [] us->us=[]|_,.nil=>rfl
theorem aK.dropLast(h:aK xs us):aK xs.dropLast us.dropLast:=do(by induction h with|nil|cons r t a=>?_);.nil;(by cases t with|nil|cons q t'=>?_);.nil;.cons r a
theorem aK.rep(h:aK xs us):∀k:Nat,aK (List.replicate k xs).flatten (List.replicate k us).flatten| 0=>.nil|k+1=>do[jj,jj,ju,ju];aK.append h (aK.rep h k)
def O9{α:Type}(l:List α):l.eraseIdx (l.length - 1)=l.dropLast:=by induction l with|nil=>rfl|cons a r c=>(cases r with|nil=>rfl|cons b r=>(have e:(a::b::r).length - 1=((b::r).length - 1)+1:=(do h1:(a::b::r).length=r.length+2:=rfl;h2:(b::r).length=r.length+1:=rfl;());rw[e,List.eraseIdx_cons_succ,c];all_goals rfl))
theorem IU(its:List MD):∀(k:Nat) (acc:List MD),List.foldl (λc b=>c++b) acc.toArray (List.replicate k its.toArray)=(acc++(List.replicate k its).flatten).toArray| 0,acc=>(do 0)|k+1,acc=>do e:acc.toArray++its.toArray=(acc++its).toArray:=(do 0);a:(acc++its)++(List.replicate k its).flatten=acc++(List.replicate (k+1) its).flatten:=(do[jj,ju,wt]);[<-a,<-IU its k (acc++its),<-e,jj,gg]
section
variable {X:Cx}{pins:List (To×Obj)}{σ:St}{H:Hp}{s:Tj}{l b:To}{xs ys zs:List V}
def Inv.EO{its its':List MD}{n:Nat}{f:Array MD->Array MD}{t':Nat}(I:Inv X pins σ H s)(g:H l=! (.lst xs))(e:s.heap.get? l=some {cls:=.type "list",data:=.seq its.toArray n})(a:f its.toArray=its'.toArray)(b:aK ys its')(hz:ys.length<=sizeLine) : Inv X pins σ (upd H l (.lst ys)) {s with heap:=s.heap.update l (Obj.mapSeq f),toks:=t'}:=do q:=PySem.IsL.update e f;q<-[a];I.write (x:=l) (e:=l) (do[g];trivial) (.inl rfl) (λh u d c=>(Heap.get?_update_other s.heap (Obj.mapSeq f) (Ne.symm d)).trans c) {_,q} ?_;{hz,its',_,b,q}
def Inv.Ke(I:Inv X pins σ H s)(a:aK ys its)(hz:ys.length<=sizeLine) : Inv X pins σ (upd H ↑s (.lst ys)) {s with heap:=s.heap.push {cls:=.type "list",data:=.seq its.toArray},toks:=t'} := I.laid (λ_ _ q=>qI _ q) (qb _) {hz,its,0,a,qL _ rfl}
theorem Inv.fresh(I:Inv X pins σ H s):H ↑s=none:=I.aZ.fresh (qb _)
def Inv.mZ(I:Inv X pins σ H s)(a:H l=! (.lst xs)):xs.length<=sizeLine/\∃(its:List MD) (n:Nat),aK xs its/\xs.length=its.length/\s.heap.get? l=some {cls:=.type "list",data:=.seq its.toArray n}:=do _;{z,its,n,r,e}:=I.aZ l _ a;{z,its,n,r,r.length,e}
def Hz(h:n<=sizeLine):Builtin.List.listTooLong n=false:=do@Builtin.List.listTooLong;decide_eq_false ()
end
section
variable {X:Cx}
inductive oY(x:V)(vs:List V)(H:Hp)(Q:VK):Prop
 |mk(l xs y:_)(_:x=.ref l)(_:vs=[y])(_:H l=! (.lst xs))(_:xs.length<sizeLine)(_:Q .aS (upd H l (.lst (xs++[y]))))
def Qe:yM X "list.append" oY:=do(pins,s,σ,H,x,vs,v,us,Q,I,c,d,h);{l,xs,y,rfl,rfl,a,hz,q}:=h;-c;{u,rfl,b}:=d.one;{z,its,n,r,f,e}:=I.mZ a;call_meets F.slot_list_append {_,e,O} F.entry_list_append (F.args_list_append_2 _ _) (PySem.list_append l its.toArray n u (do[ze];())) {e,?_};{.aS,_,I.EO (its':=its++[u]) a e (do 0) (r.append (.cons b .nil)) ?_,O,q};[qg,qr];()
inductive xn(x:V)(vs:List V)(H:Hp)(Q:VK):Prop
 |mk(l b xs zs:_)(_:x=.ref l)(_:vs=[.ref b])(_:H l=! (.lst xs))(_:H b=! (.lst zs))(_:xs.length+zs.length<=sizeLine)(_:Q .aS (upd H l (.lst (xs++zs))))
def Mb:yM X "list.extend" xn:=do(pins,s,σ,H,x,vs,v,us,Q,I,o,p,h);{l,b,xs,zs,rfl,rfl,d,m,hz,q}:=h;-o;{u,rfl,i}:=p.one;-i;{z,its,n,r,w,e}:=I.mZ d;{t,a,g,f,k,j}:=I.mZ m;hsz:its.toArray.size+a.toArray.size<=sizeLine:=(do[ze,ze];());c:¬(not its.toArray.isEmpty&&Builtin.List.listTooLong (its.toArray.size+a.toArray.size))=true:=(do[Hz hsz,mh];qo);call_meets F.slot_list_extend {_,e,O} F.entry_list_extend (F.args_list_extend_2 _ _) (AutoSeq1.list_extend_list_list_0 l its.toArray n b a.toArray g c (do[ze];()) ()) {e,j,?_};{.aS,_,I.EO (its':=its++a) d e (do 0) (r.append f) ?_,O,q};[qg];()
inductive M'(x:V)(vs:List V)(H:Hp)(Q:VK):Prop
 |mk(l xs y:_)(_:x=.ref l)(_:vs=[])(_:H l=! (.lst xs))(_:xs[xs.length - 1]?=!y)(_:Q y (upd H l (.lst xs.dropLast)))
def IS:yM X "list.pop" M':=do(pins,s,σ,H,x,vs,v,us,Q,I,i,j,h);{l,xs,y,rfl,rfl,c,k,q}:=h;-i;b:=j.zero;!b;{z,its,n,r,g,e}:=I.mZ c;{u,f,d}:=r.get k;a:its.toArray[its.toArray.size - 1]?=!u:=(do¬its.toArray[its.length - 1]?=!u;[<-yr,<-g];f);call_meets F.slot_list_pop {_,e,O} F.entry_list_pop (F.args_list_pop_1 _) (MeetsSeq.list_pop_last l its.toArray n u a (do[ze];())) {e,?_};{y,_,I.EO (its':=its.dropLast) c e ?_ r.dropLast ?_,d,q};¬its.toArray.eraseIdxIfInBounds (its.toArray.size - 1)=its.dropLast.toArray;[ze,List.eraseIdxIfInBounds_toArray,O9];[List.length_dropLast];()
inductive Oq(x y:V)(H:Hp)(Q:VK):Prop
 |mk(l b xs zs:_)(_:x=.ref l)(_:y=.ref b)(_:H l=! (.lst xs))(_:H b=! (.lst zs))(_:xs.length+zs.length<=sizeLine)(_:∀p,H p=none->Q (.ref p) (upd H p (.lst (xs++zs))))
def Cq:dn X (binaryOp .Add) Oq:=do(pins,s,σ,H,x,y,v,u,Q,I,m,d,h);{l,b,xs,zs,rfl,rfl,k,j,hz,q}:=h;-m;-d;{z,its,n,r,t,e}:=I.mZ k;{p,a,o,c,g,f}:=I.mZ j;PySem.P.add_list e f ?_ (do[ze,ze];());i:its.toArray++a.toArray=(its++a).toArray:=(do 0);[i];{.ref _,_,I.Ke (t':=s.toks) (r.append c) (do[qg];()),O,q _ I.fresh}
inductive QW(x y:V)(H:Hp)(Q:VK):Prop
 |mk(l k xs:_)(_:x=.ref l)(_:y=.int k)(_:H l=! (.lst xs))(_:-(2 ^ 63)<=k)(_:k<2 ^ 63)(_:xs.length * k.toNat<=sizeLine)(_:∀p,H p=none->Q (.ref p) (upd H p (.lst (List.replicate k.toNat xs).flatten)))
def RU{α:Type}(xs:List α)(k:Nat):(List.replicate k xs).flatten.length=k * xs.length:=do(by induction k with|zero|succ k a=>?_);0;[jj,ju,qg,a,Nat.succ_mul,Nat.add_comm]
def Fj:dn X (binaryOp .Mult) QW:=do(pins,s,σ,H,x,y,v,u,Q,I,B,o,h);{l,k,xs,rfl,rfl,A,h1,h2,hz,q}:=h;-B;{t,rfl}:=o;{z,its,n,r,p,e}:=I.mZ A;g:its.toArray.size * k.toNat<=sizeLine:=(do[ze,<-p];hz);c:¬its.toArray.size * k.toNat>(2 ^ 63 - 1) / 8:=(do this:(sizeLine:Nat)<=(2 ^ 63 - 1) / 8:=⋯;());d:¬(not (Builtin.List.listFitsIndex k))=true:=(do[fitsIndex_both h1 h2];qo);b:¬Builtin.List.listTooLong (its.toArray.size * k.toNat)=true:=(do[Hz g];qo);f:List.foldl (λj i=>j++i) #[] (List.replicate (if its.toArray.isEmpty=true then 0 else k.toNat) its.toArray)=(List.replicate k.toNat its).flatten.toArray:=(do w:∀m:Nat,List.foldl (λj i=>j++i) #[] (List.replicate m its.toArray)=(List.replicate m its).flatten.toArray:=λm=>(do this:=IU its m [];this<-[z7];this);[w];(by cases its with|nil|cons a C=>?_);0;[qB (do 0)]);wpAny_binaryOp_repeat_ref (T:="list") (U:="int") ⋯ {_,e,O} (λs'=>typeIs_int s' k t) noFill_list_mul F.fills_int_mul F.slot_int_rmul repeat_list F.slot_int_index.lookup (call_meets F.slot_int_rmul (typeIs_int s k t) F.entry_int_rmul (F.args_int_rmul_2 _ _) (int___rmul___int_list k t l its.toArray n) {e,O,{_,e,O},call_meets F.slot_list_mul {_,e,O} F.entry_list_mul (F.args_list_mul_2 _ _) (AutoListH.list___mul___list_int_3 l its.toArray n k t d c b) {e,?_}});[f];{.ref _,_,I.Ke (t':=s.toks) (r.rep k.toNat) (do[RU,Nat.mul_comm];hz),O,q _ I.fresh}
end
section
variable {κ:Type}[DecidableEq κ]
def bQ(kvs:List (κ×V))(k:κ):Option V:=(kvs.find? λa=>decide (a.1=k)).map (·.2)
def putK(kvs:List (κ×V))(k:κ)(v:V):List (κ×V) := if(kvs.any λa=>decide (a.1=k))=true then kvs.map (λa=>if a.1=k then(a.1,v) else a) else kvs++[(k,v)]
def gM{p:κ×V}{r:List (κ×V)}{k:κ}(e:p.1=k):bQ (p::r) k=!p.2:=do#[bQ,List.find?_cons,e]
def gL{p:κ×V}{r:List (κ×V)}{k:κ}(e:¬p.1=k):bQ (p::r) k=bQ r k:=do#[bQ,List.find?_cons,e]
theorem m2(k:κ):∀kvs:List (κ×V),(kvs.any λa=>decide (a.1=k))=(bQ kvs k).isSome|[]=>rfl|p::r=>do[gh];e<|p.1=k;#[_,gM e,decide_eq_true e,Bool.true_or,Option.isSome_some];[gL e,decide_eq_false e,Bool.false_or];m2 k r
theorem Lx(k j:κ)(y:V):∀kvs:List (κ×V),bQ (kvs.map λa=>if a.1=k then(a.1,y) else a) j=(bQ kvs j).map λx=>if j=k then y else x|[]=>rfl|p::r=>do b:=Lx k j y r;[zm];h<|p.1=k;[qF h];e<|p.1=j;[gM (p:=(p.1,y)) e,gM e,jv,qF (e.symm.trans h)];[gL (p:=(p.1,y)) e,gL e,b];[qB h];e<|p.1=j;[gM (p:=p) e,gM e,jv,qB (λz=>h (e.trans z))];[gL (p:=p) e,gL e,b]
theorem L5(k j:κ)(y:V):∀kvs:List (κ×V),bQ kvs k=none->bQ (kvs++[(k,y)]) j=if j=k then some y else bQ kvs j|[],_=>(do e<|k=j;[qF e.symm];gM (p:=(k,y)) e;[qB (λz=>e z.symm)];gL (p:=(k,y)) e)|p::r,hn=>do[List.cons_append];a:¬p.1=k:=λz=>(do hn<-[gM z];-hn);hn<-[gL a];b:=L5 k j y r hn;e<|p.1=j;[gM e,gM e,qB (λz=>a (e.trans z))];[gL e,gL e,b]
def NK(kvs:List (κ×V))(k j:κ)(y:V):bQ (putK kvs k y) j=if j=k then some y else bQ kvs j:=do@putK;a<|(kvs.any λc=>decide (c.1=k))=true;[qF a,Lx];a<-[m2];e<|j=k;{x,b}:=k8.mp a;[qF e,e,b,jv,qF rfl];[qB e];(by cases bQ kvs j with|none|some x=>?_);2;[jv,qB e];[qB a];L5 k j y kvs ?_;a<-[m2];(by cases q:bQ kvs k with|none|some x=>?_);2;a<-[q];(a rfl).elim
def By(kvs:List (κ×V))(k:κ)(v:V):(putK kvs k v).length<=kvs.length+1:=do@putK;3;[qh];();[qg,zd,yz];()
def J4{kvs:List (κ×V)}{k:κ}(v:V)(h:bQ kvs k=none):putK kvs k v=kvs++[(k,v)]:=do@putK;[m2,h];qB ⋯
def fx.fH(r:fx o u):o.isSome=u.isSome:=do(by cases o with|none|some _=>?_;cases u with|none|some _=>?_);2;(show False from r).elim;(by cases u with|none|some _=>?_);(show False from r).elim;2
def KV.val(r:KV kvs vs)(k:κ):fx (bQ kvs k) (valueAt vs k):=do(by unfold KV at r;induction r with|nil|@cons p q ps c h t d=>?_);True.intro;{h1,h2}:=h;e<|p.1=k;a:q.1=k:=h1.symm.trans e;b:valueAt (q::c) k=!q.2:=(do#[valueAt,List.find?_cons,a]);[gM e,b];h2;a:¬q.1=k:=λz=>e (h1.trans z);b:valueAt (q::c) k=valueAt c k:=(do#[valueAt,List.find?_cons,a]);[gL e,b];d
theorem KV.any(r:KV kvs vs)(k:κ):(kvs.any λa=>decide (a.1=k))=vs.any λa=>decide (a.1=k):=by unfold KV at r;induction r with|nil|cons h t b=>?_;rfl;rw[gh,gh,b,h.1]
def KV.Gd(r:KV kvs vs)(k:κ)(b:RelV y u) : KV (kvs.map λa=>if a.1=k then(a.1,y) else a) (vs.map λa=>if a.1=k then(a.1,u) else a):=do(by unfold KV at r ⊢;induction r with|nil|@cons p q ps d h t c=>?_);.nil;[zm,zm];.cons ?_ c;{h1,h2}:=h;e<|p.1=k;[qF e,qF (h1.symm.trans e)];{h1,b};[qB e,qB (λz=>e (h1.trans z))];{h1,h2}
def KV.put(r:KV kvs vs)(k:κ)(a:RelV y u):KV (putK kvs k y) (stored vs k u):=do(by unfold putK stored);[r.any k];e<|(vs.any λb=>decide (b.1=k))=true;[qF e,qF e];r.Gd k a;[qB e,qB e];Paired.snoc r {O,a}
theorem KV.length{kvs:List (κ×V)}{vs:List (κ×MD)}(r:KV kvs vs):kvs.length=vs.length:=Paired.length r
end
def oT(r:RelV (kV k) u):(ai P w).is k u=true:=do(by cases k with|inl i|inr x=>?_);{t,e}:=(show ∃t,u=Value.int i t from r);!e;Nq P w i t;{t,e}:=(show ∃t,u=Value.str x t from r);!e;PM P w x t
def Cp(e:kV a=kV b):a=b:=do(by cases a with|inl i|inr x=>?_;cases b with|inl j|inr y=>?_);c:V.int i=V.int j:=e;(by injection c with c);[c];nomatch (show V.int i=V.str y from e);(by cases b with|inl j|inr y=>?_);nomatch (show V.str x=V.int j from e);c:V.str x=V.str y:=e;(by injection c with c);[c]
theorem HN:∀{a b:List Key},a.map kV=b.map kV->a=b|[],[],_=>rfl|[],_::_,e=>(do e<-0)|_::_,[],e=>(do e<-0)|x::xs,y::ys,e=>by rw[zm,zm]at e;injection e with e1 e2;rw[Cp e1,HN e2]
theorem JR:∀{ks:List Key} {us:List MD},aK (ks.map kV) us->ItemsAre (ai P w) ks us|[],_,r=>(do r<-[gf];-r;.nil)|k::ks,_,r=>do r<-[zm];(by cases r with|cons h t=>?_);.cons (oT h) (JR t)
abbrev KT(H:Hp):List (List Key×V)->List (List Key×To×MD)->Prop:=Paired λp q=>p.1=q.1/\H q.2.1=!(.tup (p.1.map kV))/\RelV p.2 q.2.2
def KT.val(r:KT H kvs xs)(k:List Key):fx (bQ kvs k) ((atKey xs k).map (·.2)):=do(by induction r with|nil|@cons p q ps c h t d=>?_);True.intro;{h1,_,h2}:=h;e<|p.1=k;a:q.1=k:=h1.symm.trans e;b:atKey (q::c) k=!q.2:=(do#[atKey,List.find?_cons,a]);[gM e,b];h2;a:¬q.1=k:=λz=>e (h1.trans z);b:atKey (q::c) k=atKey c k:=(do#[atKey,List.find?_cons,a]);[gL e,b];d
def KT.Gd(r:KT H kvs xs)(k:List Key)(c:RelV y u) : KT H (kvs.map λa=>if a.1=k then(a.1,y) else a) (xs.map (putAt k u)):=do(by induction r with|nil|@cons p q ps f h t b=>?_);.nil;[zm,zm];.cons ?_ b;{h1,h2,d}:=h;@putAt;e<|p.1=k;[qF e,qF (h1.symm.trans e)];{h1,h2,c};[qB e,qB (λz=>e (h1.trans z))];{h1,h2,d}
def KT.put(r:KT H kvs xs)(k:List Key)(c:H b=!(.tup (k.map kV)))(a:RelV y u) : KT H (putK kvs k y) (storedH xs k b u):=do e:(kvs.any λd=>decide (d.1=k))=(atKey xs k).isSome:=(do[m2,(r.val k).fH,Option.isSome_map]);(by unfold putK storedH);[e];q<|(atKey xs k).isSome=true;[qF q,qF q];r.Gd k a;[qB q,qB q];Paired.snoc r {O,c,a}
def KT.keeps(r:KT H kvs xs)(a:∀b ys,H b=!(.tup ys)->H' b=!(.tup ys)):KT H' kvs xs := Paired.lD r λ_ _ z=>{z.1,a _ _ z.2.1,z.2.2}
section
variable {P:Program}{w:World}{H:Hp}{h:Heap}{a:To}
def yl(ok:dm P w H h)(e:Rd H a u):aV P w H h a u:=e.ok ok
def px(ok:dm P w H h)(e:Rd H a (.dK kvs)):kvs.length<=sizeLine/\(a==sysModules)=false/\∃vs,KV kvs vs/\h.DictOf (ai P w) a vs := show aV P w H h a (.dK kvs) from yl ok e
def yZ(ok:dm P w H h)(e:H a=!(.dK kvs)):kvs.length<=sizeLine/\(a==sysModules)=false/\∃vs,KV kvs vs/\h.DictOf (ai P w) a vs:=px ok (.inl e)
def rB(ok:dm P w H h)(e:H a=!(.tup (ks.map kV))):(tupleKind (ai P w)).is h ks a:=do _;{_,its,r,o,h1,h2,n,b}:=(show aV P w H h a (.tup (ks.map kV)) from ok a _ e);{o,its.toArray,n,h1,h2,b,do 0<|JR r}
def uK(ok:dm P w H h)(e:Rd H a (.dT kvs)):kvs.length<=sizeLine/\(a==sysModules)=false ∧ ∃xs,KT H kvs xs/\h.DictOfH (tupleKind (ai P w)) a xs:=do _;{z,y,xs,r,o,es,ep,h1,h2,i,g,d}:=(show aV P w H h a (.dT kvs) from yl ok e);{z,y,xs,r,o,es,ep,h1,h2,i,g,λx b=>?_,d};all:∀{l:List (List Key×V)} {m:List (List Key×To×MD)},KT H l m->∀x∈m,(tupleKind (ai P w)).is h x.1 x.2.1:=(do(l,m,q);(by induction q with|nil|@cons p q ps j c t f=>?_);(x,b);nomatch b;(x,b);e||b:=qy.mp b;!e;rB ok (do[<-c.1];c.2.1);f x b);all r x b
def Hy(ok:dm P w H h)(e:H a=!(.dT kvs)):kvs.length<=sizeLine/\(a==sysModules)=false ∧ ∃xs,KT H kvs xs/\h.DictOfH (tupleKind (ai P w)) a xs:=uK ok (.inl e)
end
def Fe(H:Hp)(a:To)(y:V)(r:Option V):Prop := (∃kvs k,Rd H a (.dK kvs)/\y=kV k/\r=bQ kvs k)\/∃kvs k b,Rd H a (.dT kvs)/\y=.ref b/\H b=!(.tup (k.map kV))/\r=bQ kvs k
def Kg(H:Hp)(a:To)(y v:V)(H':Hp):Prop := (∃kvs k,H a=!(.dK kvs)/\y=kV k/\kvs.length<sizeLine/\H'=upd H a (.dK (putK kvs k v))) ∨ ∃kvs k b,H a=!(.dT kvs)/\y=.ref b/\H b=!(.tup (k.map kV))/\kvs.length<sizeLine/\H'=upd H a (.dT (putK kvs k v))
section
variable {X:Cx}{pins:List (To×Obj)}{σ:St}{H:Hp}{s:Tj}{a:To}{y v:V}{u r:MD}{o:Option V}{A:Around}{E:KE}
def Inv.jH(I:Inv X pins σ H s):sysModules<↑s:=do h:mainGlobals<↑s:=(I.mod.glob.keeps I.bk).lt;jw ⋯ h
def N7(r:A.units+1<cLine)(I:Inv X pins σ H s)(g:Fe H a y (!v))(q:RelV y u)(h:∀f s',Inv X pins σ H s'->RelV v f->Q f s') : wpAny 48 A (getItem (.ref a) u) Q E s:=do _;{kvs,k,e,n,l}||{kvs,k,b,e,n,t,l}:=g;!n;{z,x,vs,c,i}:=px I.aZ e;{f,j,d}:=fx.some_of (v:=v) (o:=valueAt vs k) (do[l];c.val k);wpAny_getItem_of (oT q) i.mapOf j (h f _ (I.tok _) d);!n;-((show u=Value.ref b from q));{z,x,xs,c,i}:=uK I.aZ e;{f,j,d}:=fx.some_of (v:=v) (o:=(atKey xs k).map (·.2)) (do[l];c.val k);{p,hp,m}:=wb.mp j;wpAny_getItem_heap (tupleKind_room_in1 r) (rB I.aZ t) i hp ?_;[m];h f _ (I.tok _) d
def pY(I:Inv X pins σ H s)(d:Jg (H a))(g:Heap.SameBut a s.heap h')(c:∃q,h'.get? a=!q)(new:aV X.prog X.w (upd H a ob) h' a ob) : Inv X pins σ (upd H a ob) {s with heap:=h',toks:=t'} := I.write (x:=a) (e:=a) d (.inl rfl) (λb q f z=>(g.2 b f).trans z) c new
def Kq(z:kvs.length<=sizeLine)(c:(a==sysModules)=false)(b:KV kvs vs)(d:h'.DictOf (ai P w) a vs) : aV P w H' h' a (.dK kvs):={z,c,vs,b,d}
def Pk(J:A.units+1<cLine)(I:Inv X pins σ H s)(g:Kg H a y v H')(B:RelV y u)(x:RelV v r)(h:∀s',Inv X pins σ H' s'->Q Unit.unit s') : wpAny 48 A (setItem (.ref a) u r) Q E s:=do _;{kvs,k,e,p,l,o}||{kvs,k,b,e,p,C,l,o}:=g;(by subst p o);{z,t,vs,d,j}:=yZ I.aZ e;hz:vs.length<=sizeLine:=(do[<-d.length];z);m:(putK kvs k v).length<=sizeLine:=(do this:=By kvs k v;());wpAny_setItem_pairs (hsz:=hz) (oT B) j λh' f n=>h _ ?_;K:∃q,h'.get? a=!q:=let⟨q,_,_,i,_⟩:=f;{q,i};pY I (do[e];True.intro) n K (Kq m t (d.put k x) f);(by subst p o);-((show u=Value.ref b from B));{z,t,xs,d,j}:=Hy I.aZ e;hz:xs.length<=sizeLine:=(do[<-Paired.length d];z);m:(putK kvs k v).length<=sizeLine:=(do this:=By kvs k v;());wpAny_setItem_heap (hsz:=hz) (tupleKind_room_in1 J) (rB I.aZ C) j λh' f n=>h _ ?_;{q,es,ep,i,h2,L,G,_,F}:=f;pY I (do[e];True.intro) n {q,i} {m,t,_,(d.put k C x).keeps λc ys D=>?_,q,es,ep,i,h2,L,G,F};[aB (oA D e (λz=>nomatch z))];D
end
def DD(i:Expr):Prop:=∀b a,subscripted i false b a=operate [b,a] (getItem b a)
def IP{prog:Program}{w:World}{A:Around}{E:KE}{s:Tj}{env:Env}{value a:Expr}{pos:Pos}{T id:String}{Q:KE}(l:typeLookup (.type T) "__getitem__"=pure (!(.builtin id)))(k:DD a)(h:wpAny 66 A (eval value env) (λo d=>wpAny 66 A (eval a env) (λi b=>b.TypeIs o T/\wpAny 66 A (getItem o i) Q E b) E d) E s) : wpAny 66 A (eval (.Subscript value a pos) env) Q E s:=do Subscript_ (qM h (λo d h₁=>qM h₁ (λi b c=>?_) λ_ _ x=>x) λ_ _ x=>x);{j,c}:=c;@subscriptTail;qA ?_;[getitemInPython_of_ne j.not_modules];qA (wpAny_specialOf j l ?_);f:wpAny 66 A (subscripted a false o i) (λr e=>wpAny 66 A (letTemporaryGo value o r >>= λ_=>pure r) Q E e) E b:=(do[k o i];wpAny_operating (qM c (λr e g=>qA (wpAny_letTemporaryGo (qE g))) λ_ _ x=>x));by first|exact qE (qA f)|exact qA (qE (qA f))|exact qA f
def Pg{X:Cx}{pins:List (To×Obj)}{σ:St}{H:Hp}{s:Tj}{a:To}{y:V}{o:Option V}(I:Inv X pins σ H s)(g:Fe H a y o):s.TypeIs (.ref a) "dict":=do _;{kvs,k,e,_,_}||{kvs,k,b,e,_,_,_}:=g;{_,_,vs,_,c}:=px I.aZ e;c.typeIs;{_,_,xs,_,c}:=uK I.aZ e;c.typeIs
inductive BV(Q:VK)(x y:V)(H2:Hp):Prop
 |mk(a v:_)(_:x=.ref a)(_:Fe H2 a y (!v))(_:Q v H2)
def Ki(td ty:TE):TE:=λσ H Q=>td σ H λx H1=>ty σ H1 λy H2=>BV Q x y H2
inductive EG(D:Ends)(σ:St)(v x y:V)(H3:Hp):Prop
 |mk(a H4:_)(_:x=.ref a)(_:Kg H3 a y v H4)(_:D.nx σ H4)
def Hx(td ty tv:TE):TS:=λD σ H=>tv σ H λv H1=>td σ H1 λx H2=>ty σ H2 λy a=>EG D σ v x y a
section
variable {X:Cx}{o i e value:Expr}{pos pos' tpos:Pos}{td ty tv:TE}
def c6(k:X.A.units+1<cLine)(d:PE X o td)(hi:PE X i ty)(m:DD i):PE X (.Subscript o i pos) (Ki td ty):=do _;{?_};(pins,s,σ,H,Q,I,h);IP PySem.F.slot_dict_getitem.lookup m (bI (d pins s σ H _ I h) λu j ⟨x,H1,e,p,n⟩=>bI (hi pins j σ H1 _ e n) λt s2 ⟨y,H2,c,f,a,v,ex,g,l⟩=>?_);!ex;(by obtain rfl:u=Value.ref a:=p);{Pg c g,N7 k c g f λr w q b=>{v,H2,q,b,l}}
def QP(k:X.A.units+1<cLine)(f:PE X o td)(hi:PE X i ty)(b:PE X value tv)(t:swapsWith value (!(.Subscript o i pos')) pos.line X.env=pure false) : PS X (.Assign [.Subscript o i pos'] value pos) (Hx td ty tv):=do _;{?_};(pins,s,σ,H,D,I,h);wpAny_Assign_Subscript (bI (b pins s σ H _ I h) λr q ⟨v,H1,p,e,m⟩=>bI (f pins q σ H1 _ p m) λu s2 ⟨x,H2,c,B,l⟩=>bI (hi pins s2 σ H2 _ c l) λE G ⟨y,C,n,j,a,z,ex,g,w⟩=>?_) t;!ex;(by obtain rfl:u=Value.ref a:=B);Pk k n g j e λF d=>{σ,z,d,w}
end
def PV(h:Heap)(a:sysModules<h.objs.size):aV P w H (h.push {cls:=.type "dict",data:=.dict #[]}) h.objs.size (.dK []) := {qx _,beq_eq_false_iff_ne.mpr (Ne.symm (qi a)),[],.nil,Heap.DictOf.new h}
def Cr:TE:=λ_ H Q=>∀p,H p=none->Q (.ref p) (upd H p (.dK []))
section
variable {X:Cx}{pos:Pos}
def Nh:PE X (.Dict [] [] pos) Cr:={λpins s σ H Q I h => wpAny_Dict_empty {.ref ↑s,_,I.laid (a:=↑s) (o:=.dK []) (t':=s.toks) (λ_ _ q=>qI _ q) (qb _) (PV s.heap I.jH),O,h _ (I.aZ.fresh (qb _))}}
end
end L2
namespace Att
open PySem PySem.W PySem.Calls PyProof.Rows
def O8:∀(ns:List Int) (vs:List MD),WellAll P h vs (ns.map WData.int)->IntsAre vs ns:=do(ns);(by induction ns with|nil|cons n ns c=>?_);(vs,w);w<-[gf];-w;.nil;(vs,w);w<-[zm];(by cases w with|cons a b=>?_);-a;.cons _ _ (c _ b)
def RZ{l:OpenLaw}{n:Nat}(hn:l.most=!n){P:Params}{h:Heap}{args:List WData}{b:List MD}(c:l.row.toRowW.claim.pre args=true)(k:WellAll P h b args) : ∃a vs ns,b=[Value.ref a]/\args=[WData.list (ns.map WData.int)]/\h.get? a=some {cls:=.type "list",data:=.seq vs.toArray}/\IntsAre vs ns/\ns.length<=n:=do j:WShape.hasAll [] args [.list .int]=true:=(pre_splitW c).1;m:l.pre.holds [] {args:=args}=true:=(pre_splitW c).2;{d,r,rfl,h1,h2}:=hasAllW_cons j;(by obtain rfl:=hasAllW_nil h2);{xs,rfl,u}:=hasW_list h1;{ns,rfl}:=items_int u;f:ns.length<=n:=(do(by unfold OpenLaw.pre at m);i:(WTm.not (.lt (.lit (.int (n:Int))) (.len (.arg 0)))).holds [] {args:=[.list (ns.map .int)]}=true:=(do i:=(holds_andW m).1;i<-[hn];i);g:=condW_of i (w_not (w_lt w_lit (w_len_list (w_arg rfl))));g<-[qh];Nat.le_of_not_lt λq=>?_;s:(n:Int)<((ns.length:Nat):Int):=();by first|rw[qH s]at g;exact absurd g ⋯|simp at g;omega);(by cases k with|cons t o=>?_);-o;(by cases t with|list p e=>?_);{_,_,ns,O,O,p,O8 ns _ e,f}
def QV(l:OpenLaw)(args:List WData):l.row.toRowW.claim.post args (.bool true) args=true := postW_of (r:=l.row.toRowW) (X:=(true==true)) (show WShape.has [] (.bool true) .bool=true by first|rfl|decide|simp[WShape.has,WShape.arms,WShape.armsAll]) (show(WTm.eq .res (.lit (.bool true))).value [] {args:=args,res:=!(.bool true),after:=args}=some (.bool (true==true)) from w_eq_bool (w_res rfl) w_lit) rfl
def lO{l:OpenLaw}{n:Nat}{q:Program}{c:List Tp}{z:(Tp->Option MD)->Heap->Prop}{y:World->Heap->Prop}{d:DefRec}(hn:l.most=!n)(t:d.params.defaults=[])(call:∀(w:World) (s₀ b:Tj) (mg s:Tp->Option MD) (fa:To) (o:Obj) (m cd e:MD) (a:To) (vs:List MD) (ns:List Int),Ground q c [] z w s₀ mg s b.heap->y w b.heap-> b.heap.get? fa=!o->o.data=.func (docDef d.name d.params d.body d.scope m cd e)->b.heap.CodeRec cd d.name->mg d.name=some (.ref fa)-> b.heap.get? a=some {cls:=.type "list",data:=.seq vs.toArray}->IntsAre vs ns->ns.length<=n->b.gens=#[]-> codeAny (model l.prog w) callerA (.call (.ref fa) {[.ref a],[]}) (λr s'=>r=.ok (.ret (.bool true))/\OldK b.heap s'.heap/\s'.os=b.os/\AllBare s'.gens) b) : WalkO q c z y l.row.toRowW d [] (λf vs=>PySem.call f vs):=do(w,s₀,b,mg,s,G,Y,fa,o,m,cd,e,D,kV,E,K,k,x,u,F,A,v,N,j,B,J,p,L);(by obtain rfl:D=.none:=Dflts.none x t;obtain rfl:kV=.none:=Dflts.noKw x);{a,vs,ns,rfl,rfl,i,g,h}:=RZ hn j p;enter_call (codeAny_mono (call w s₀ b mg s fa o m cd e a vs ns G Y E (fd_plain K) k u i g h F) λr s' H=>?_);{rfl,h2,I,M}:=H;{.inl {.bool true,.bool true,[],O,λ_=>rfl,.bool true,QV l _,λ_=>{List.Pairwise.nil,λ_ C=>(nomatch C)}},h2,I,M}
end Att
namespace L2
open PySem PySem.Spec PyProof.Rows
theorem GZ:∀{vs:List MD} {ns:List Int},IntsAre vs ns->aK (ns.map V.int) vs|_,_,.nil=>.nil|_,_,.cons n t h=>.cons {t,O} (GZ h)
def cc(s:Stmt):Arguments:=match s with|.FunctionDef _ a _ _ _ _ _ _ _ _=>a|_=>{posonlyargs:=[],args:=[],vararg:=none,kwonlyargs:=[],kw_defaults:=[],kwarg:=none,defaults:=[]}
def bJ(s:Stmt):List Stmt:=match s with|.FunctionDef _ _ b _ _ _ _ _ _ _=>b|_=>[]
def ah(s:Stmt):Scope:=match s with|.FunctionDef _ _ _ _ _ _ sc _ _ _=>sc|_=>{kind:=.function,names:=[],isGenerator:=false,isCoroutine:=false}
abbrev iW:vE:=λ_ _ _ _ _ _=>False
abbrev E0:XK:=λ_ _ _=>False
def yD:nL iW X E0:=λ_ _ _ _ _ _ _ h=>h.elim
structure Fh(K:PySem.W.Frag)(x qual:Tp)(st:Stmt)(f:To)(fd:FuncData):Prop where
 ex:∃(oc:MD) (od:Option To) (kV doc pm:MD) (an:Option To) (cdv ct:MD) (osl:Array (Option MD)),
  fd=PySem.W.fnOf x qual (cc st) (bJ st) (ah st) .none kV doc pm an cdv ct/\K.lookup f=some {oc,od,.func fd,osl}/\PySem.W.codeIn K cdv qual=true
 kp:PySem.W.keepIn K (.ref f)=true
section
variable {P:Program}{w:World}{K:PySem.W.Frag}{mg:Tp->Option MD}{base:Heap}
def Fh.ok{x qual:Tp}{st:Stmt}{f:To}{fd:FuncData}{N ps:List Tp}{k:Nat}{sp:Sp}(F:Fh K x qual st f fd)(S:aA N ps (ah st))(len:∀vs H Q E,sp vs H Q E->vs.length=ps.length)(b:∀(a:MD) (A:Around) (outer:List Env) (s:Tj) (H:Hp) (vs:List V) (Q:VK) (E:XK),bG k (A.deeper (envOfC qual (ah st) ↑s f a))->sp vs H Q E-> ∃t,iL (j1 iW P w K mg base N qual (ah st) f a A outer s H E).wD (bJ st) t/\t {nx:=λ_ H'=>Q .aS H',rt:=Q} (start N vs) H):gG P w K mg base iW (k+1) f fd ps sp:=do _;{m,od,kV,j,o,n,a,l,i,rfl,g,d}:=F.ex;uO g d S len λA outer s H vs Q E e c=>?_;{t,h,q}:=b a A outer s H vs Q E e c;{t,h.wD,q}
def Fh.binds{x qual:Tp}{st:Stmt}{f:To}{fd:FuncData}{ps:List Tp}(F:Fh K x qual st f fd)(h:∀{kV b e:MD}{d:Option To}{a c:MD}(us:List MD),us.length=ps.length->bindArgs (PySem.W.fnOf x qual (cc st) (bJ st) (ah st) .none kV b e d a c) {us,[]}=pure (ps.zip us)):Binds K fd ps []:=do _;{j,od,kV,b,e,d,a,c,g,rfl,k,i}:=F.ex;.all h
def JM{x qual:Tp}{st:Stmt}{f:To}{i:MD}{od g:Option To}{d:Array (Option MD)}{kV b h a e:MD}(l:K.lookup f=some {i,od,.func (PySem.W.fnOf x qual (cc st) (bJ st) (ah st) .none kV b h g a e),d})(c:PySem.W.codeIn K a qual=true)(k:PySem.W.keepIn K (.ref f)=true):Fh K x qual st f (PySem.W.fnOf x qual (cc st) (bJ st) (ah st) .none kV b h g a e):={⟨i,od,kV,b,h,g,a,e,d,O,l,c⟩,k}
end
def cY(a:bG k A):A.units+1<cLine:=jx (Nat.add_le_add_left (by decide:1<=64) _) a.units
def cC(h:n<=1000):n<sizeLine:=jx h ⋯
section
variable {X:Cx}
def pv(i:Nat)(c:autoParam (X.N[i]?=!x) z11)(d:MH X.env.scope x:=by first|exact Or.inl rfl|exact Or.inr (Or.inl rfl)|exact Or.inr (Or.inr rfl))(b:autoParam ((x==("__debug__":Tp))=false) z12)(a:autoParam ((x==("__classdict__":Tp))=false) z12):PE X (.Name x pos) (lW i):=E_ c d b a
end
def dJ{A B:Prop}(h:A):if true=true then A else B:=do[qF rfl];h
def ag(H H':Hp):Prop:=∀b o,H b=!o->H' b=!o
def ag.refl(H:Hp):ag H H:=λ_ _ h=>h
def ag.trans(a:ag H H1)(b:ag H1 H2):ag H H2:=λc o h=>b c o (a c o h)
def ag.free(e:ag H H')(h:H' l=Option.none):H l=Option.none:=do(by cases q:H l with|none|some o=>?_);2;h<-[e l o q];-h
section
variable {κ:Type}[DecidableEq κ]
def RK{kvs:List (κ×V)}{k:κ}{v:V}(h:bQ kvs k=!v):k∈kvs.map (·.1):=do q:(kvs.any λa=>decide (a.1=k))=true:=(by rw[m2,h];all_goals rfl);{p,hp,e}:=yt.mp q;qc.mpr {p,hp,qN e}
end
section
variable {prog:Program}{w:World}{A:Around}{R:Result->Tj->Prop}{s:Tj}
def Q6{ce:Env}(J:Nat->Tj->Prop)(turn:∀n s,J n s->wpAny 66 A (pyNext it) (λr g=>match r with|none=>R (.ok .next) g|some v=>wpAny 66 A (letOwnedTupleGo tg it v) (λ_ s2=>wpAny 66 A (assign tg ce v) (λ_ k => wpAny 66 A (forIn d true λc r=>if r=true then do{let ok <-isTrue c ce (eval c ce);pure (ForInStep.yield ok)}else pure (ForInStep.yield r)) (λok e => if ok=true then wpAny 66 A (eval b ce) (λx i=>wpAny 66 A (call (.builtin "list.append") [acc,x]) (λ_ j=>∃m,m<n/\J m j) (λ_ _=>False) i) (λ_ _=>False) e else ∃m,m<n/\J m e) (λ_ _=>False) k) (λ_ _=>False) s2) (λ_ _=>False) g) (λ_ _=>False) s)(n:Nat)(h:J n s):codeAny 66 A (.compLoop (.ListComp b [{tg,a,d,0}] o pos) 0 it acc ce) R s:=do codeAny_loop rfl J (λn s t=>?_) n h;¬wpAny _ A ((compTurn (.ListComp b [{tg,a,d,0}] o pos) 0 it acc ce).onRaise (λx=>do{noteFrame x ce;theTreesLotGoes x})) _ _ s;wpAny_noted ?_;[compTurn_list];qA (wpAny_standAt (qA (qM (turn n s t) (λr g h1=>?_) λ_ _ f=>f.elim)));(by cases r with|none|some v=>?_);qE h1;qA (qM h1 (λ_ s2 h2=>?_) λ_ _ f=>f.elim);qA (qM h2 (λ_ k u=>?_) λ_ _ f=>f.elim);qA (qM u (λok e l=>?_) λ_ _ f=>f.elim);(by cases ok with|false|true=>?_);qE {O,l};qA (qA (qM l (λx i q=>?_) λ_ _ f=>f.elim));qA (qM q (λ_ j p=>qE (qE {O,p})) λ_ _ f=>f.elim)
end
def bB(X:Cx)(N:List Tp)(a:Scope)(cl:List (Tp×To))(s:Tj)(H:Hp)(fp:List To):Cx where
 prog:=X.prog
 w:=X.w
 K:=X.K
 mg:=X.mg
 base:=X.base
 A:=X.A
 N:=N
 s₀:=s
 H₀:=H
 env:=compEnvC a cl (↑s+1) X.env
 outer:=X.stack
 stack:=X.stack
 ex:=fp
 fn:=λ_=>false
 calm:=X.calm
 pn:=[]
 xe:=λ_ _=>False
def cK(own:List Tp)(fr:List (Tp×Nat))(σ:St):St:=own.map (λ_=>none)++fr.map λp=>(σ[p.2]?).join
def eS(σ σ':St):Prop:=σ.length=σ'.length/\∀(i:Nat) v,σ[i]?=!(!v)->σ'[i]?=!(!v)
def jM(g:TG)(σ:St):Prop:=∀x H (Q:St->Hp->Prop),g x σ H Q->g x σ H λσ' H'=>eS σ σ'/\Q σ' H'
theorem eS.set(h:σ[i]?=!none)(v:V):eS σ (σ.set i (!v)):=do _;{do 0,λj u e=>?_};a<|i=j;!a;e<-[h];-e;[jd a];e
def jS(h:σ[i]?=!none):jM (cP i) σ:=λx H Q q=>{eS.set h x,q}
def pO(hi:σ[i]?=!none)(l:σ[j]?=!none)(b:i≠j):jM (uJ n (jL (cP i) (jL (cP j) CM))) σ:=do(x,H,Q,q);{a,xs,o,f,g,v,r,c,w,h,m,d,q}:=q;{a,xs,o,f,g,v,r,c,w,h,m,d,?_,q};h1:=eS.set hi v;h2:=eS.set (σ:=σ.set i (!v)) (i:=j) (do[jd b];l) w;{h1.1.trans h2.1,λk u e=>h2.2 k u (h1.2 k u e)}
def Hs(X:Cx)(a:List Expr)(t:TT):Prop := ∀(pins:List (To×Obj)) (s:Tj) (σ:St) (H:Hp) (Q:Bool->Hp->Prop),Inv X pins σ H s->t σ H Q-> wpAny 48 X.A (forIn a true λc r=>if r=true then do{let ok <-isTrue c X.env (eval c X.env);pure (ForInStep.yield ok)}else pure (ForInStep.yield r)) (TP X pins σ Q) X.xe s
structure v_(X:Cx)(ifs:List Expr)(t:TT):Prop where run:Hs X ifs t
instance R_{X:Cx}{a:List Expr}{t:TT}:CoeFun (v_ X a t) λ_=>Hs X a t:={v_.run}
def dF:v_ X [] (λ_ H Q=>Q true H):={λ_ _ _ H _ I h=>wpAny_tests_nil {H,I,h}}
def eF(h:PT X c t):v_ X [c] t:={λpins s σ H Q I q=>wpAny_tests_one (h pins s σ H Q I q)}
def HY(own:List Tp)(fr:List (Tp×Nat))(g:TG)(tt:TT)(te:TE)(σ:St)(Q:VK)(J:It)(H1:Hp):Prop:=∃W:Nat->Nat->List V->Hp->Prop,(∃m,W 0 m [] H1)/\∀i m ys H,W i m ys H-> (J.stop i H/\∀p,H p=none->Q (.ref p) (upd H p (.lst ys)))\/(J.go i H/\ys.length<sizeLine/\∀x H',J.xq i H x H'->g x (cK own fr σ) H' λc H2=>tt c H2 λb d => if b=true then te c d λy e=>∃a,a<m/\W (i+1) a (ys++[y]) e else ∃a,a<m/\W (i+1) a ys d)
def Mx(own:List Tp)(fr:List (Tp×Nat))(a:TI)(g:TG)(tt:TT)(te:TE):TE:=λσ H Q=>a σ H λJ H1=>HY own fr g tt te σ Q J H1
abbrev bU(us:List MD):Obj:={cls:=.type "list",data:=.seq us.toArray us.length}
def Qk(us:List MD)(u:MD):({cls:=.type "list",data:=.seq (us.toArray.push u) (us.length+1)}:Obj)=bU (us++[u]):=do@bU;[qg,qr,List.push_toArray]
structure lh(X:Cx)(sc:Scope)(cl:List (Tp×To))(fr:List (Tp×Nat)):Prop where
 xx:closureFor sc X.env=pure cl
 sub:∀x c,cl.lookup x=!c->X.env.cells.lookup x=!c
 has:∀x,((relabel sc X.env).names.lookup x=some .cell\/(relabel sc X.env).names.lookup x=some .free)->∃c,cl.lookup x=!c
 OK:∀p∈fr,X.N[p.2]?=!p.1/\X.env.kindOf p.1≠some .local/\MH X.env.scope p.1/\((relabel sc X.env).names.lookup p.1=some .cell\/(relabel sc X.env).names.lookup p.1=some .free)
structure fT(sc:Scope):Prop where
 kind:sc.kind=.function
 cell:∀y∈sc.names,y.2≠.cell
 l8:∀y∈sc.names,y.2=.local->sc.names.lookup y.1=some .local
section
variable {X:Cx}
def Inv.ig{pins:List (To×Obj)}{σ:St}{H:Hp}{s:Tj}(I:Inv X pins σ H s){b:To}(h1:b≠X.env.locals)(h2:b∉X.fs):b∉dY X.stack:=λz=>do e||e:=qy.mp (I.hG b z);h1 e;h2 e
def N8{own:List Tp}{fr:List (Tp×Nat)}{σ:St}{N:List Tp}(c:N=own++fr.map (·.1)){i:Nat}{x:Tp}{v:V}(h1:N[i]?=!x)(h2:(cK own fr σ)[i]?=!(!v)) : ∃p∈fr,p.1=x/\σ[p.2]?=!(!v):=do(by unfold cK at h2);!c;hi<|i<own.length;h2<-[List.getElem?_append_left (do 0<|hi),List.getElem?_map];h2<-[qe hi];-h2;h2<-[List.getElem?_append_right (do 0<|hi),List.length_map,List.getElem?_map];h1<-[List.getElem?_append_right (do 0<|hi),List.getElem?_map];(by cases e:fr[i - own.length]? with|none|some p=>?_);h1<-[e];-h1;(by rw[e]at h1 h2);{p,qk e,qJ h1,?_};a:(σ[p.2]?).join=!v:=qJ h2;(by cases b:σ[p.2]? with|none|some o=>?_);a<-[b];-a;a<-[b];[show o=some v from a]
def Inv.block{pins:List (To×Obj)}{σ:St}{H:Hp}{s:Tj}{own:List Tp}{fr:List (Tp×Nat)}{j:Scope}{cl:List (Tp×To)}{fp:List To}{h1:Heap}{m:Tp->Option MD}{tk:Nat}(I:Inv X pins σ H s)(h:∀b∈fp,eV X pins H b)(A:∀b∈fp,b<↑s)(S:fT j)(C:lh X j cl fr)(old:∀b o,s.heap.get? b=!o->h1.get? b=!o)(hn:h1.Ns (↑s+1) m)(J:h1.get? ↑s=!(bU [])) : Inv (bB X (own++fr.map (·.1)) j cl s H fp) [(↑s,bU [])] (cK own fr σ) H {s with heap:=h1,toks:=tk}:=do g:∀x c,cl.lookup x=!c->c<↑s:=λx c e=>(do _;{v,z}:=I.cell x c (C.sub x c e);z.lt);a:↑s<=↑s+1:=jk _;{{I.ok.mod,S.kind,I.ok.glob,I.ok.blt,a,λx y c w D=>I.ok.inj x y c (C.sub x c w) (C.sub y c D),λx Q=>C.has x Q,λ_ _ z=>(do-z),I.ok.hd,I.ok.frames,.inl rfl,λb d=>{?_,λx c e z=>?_},I.bs,qf I.ok.uQ I.sz,λb o e d=>?_,λb d z=>?_,I.stack,I.oE},O,I.bare,Un.kept old,{m,hn,λi x v w D V=>?_},λx c e=>?_,I.aZ.fresh a,λx c e=>I.dC x c (C.sub x c e),λp hp=>?_,I.aZ.kept old,?_};qi (yj (A b d));(h b d).2.2.2.2.1 x c (C.sub x c e) z;z||z:=(h b d).2.2.2.1;I.ok.uv b o e z;absurd (zf (qG e) (qf I.ok.uQ z)) (wk _);I.ig (h b d).2.1 (h b d).2.2.1 z;{p,hp,rfl,F}:=N8 rfl w D;{T,K,M,E}:=C.OK p hp;{U,G,L}:=I.loc;{u,r,l}:=L p.2 p.1 v T F M;{u,r,.inr {E,?_}};{k,_}||{_,c,N,n,B,t}:=l;absurd k K;{R,f}:=C.has p.1 E;this:=C.sub p.1 R f;this<-[N];-this;{c,f,n,old _ _ B,t};{v,o,n,P}:=I.cell x c (C.sub x c e);{v,o,old _ _ n,P};q:p=(↑s,bU []):=(by simpa[bB] using hp);!q;{J,I.aZ.fresh (qb _),?_,?_,λv z=>do-z};qi (yu _);I.ig (zo I.lt) (I.vV (qb _));¬(cK own fr σ).length=(own++fr.map (·.1)).length;@cK;[qg,qg,qh,qh,qh]
def dm.fW(x:dm P w H h)(hn:H a=none)(new:aV P w (upd H a o) h a o):dm P w (upd H a o) h:=λb u e=>do d<|b=a;!d;e<-[aE];-e;new;e<-[aB d];(x b u e).cW (λc v _ q=>q) (λc q=>do[aB (a9 q hn)];q) λc xs q=>do[aB (a9 q hn)];q
def Inv.oo{pins:List (To×Obj)}{σ:St}{H h:Hp}{s f:Tj}{N:List Tp}{r:St}{A:Scope}{cl:List (Tp×To)}{fp:List To}{h':Heap}{ys:List V}{us:List MD}(I:Inv X pins σ H s)(p:∀b∈fp,eV X pins H b)(j:Inv (bB X N A cl s H fp) [(↑s,bU us)] r h f)(y:aK ys us)(hz:ys.length<=sizeLine)(B:Heap.SameBut (↑s+1) f.heap h'):Inv X pins σ (upd h ↑s (.lst ys)) {f with heap:=h'}:=do _;{t,g,pT,_,_}:=j.pin (↑s,bU us) (List.mem_append_right _ (do 0));t:f.heap.get? ↑s=!(bU us):=t;g:h ↑s=none:=g;d:Un (dY X.stack) fp H h s.heap f.heap:=j.base;x:h (↑s+1)=none:=j.free;a:∀b o,s.heap.get? b=!o->b≠↑s+1:=λb o e=>qi (yj (qG e));m:∀b o,s.heap.get? b=!o->b≠↑s:=λb o e=>qi (qG e);l:∀b o,b≠↑s+1->f.heap.get? b=!o->h'.get? b=!o:=λb o i e=>B.extBut b o i e;I.ij (s':={f with heap:=h'}) (ch:=fp) j.os {λb o e n h1 h2=>l b o (a b o e) (d.keep b o e n h1 h2),λb o e n h1 h2=>?_,λb o e n h2=>?_,λb o e h2=>?_,λb xs e=>?_,λb o u e=>?_,λb ps e=>?_,λb o xs e n=>l b o (a b o e) (d.dM b o xs e n)} ?_ j.bare λb i=>{(p b i).2.2.2.1,(p b i).2.1,(p b i).2.2.2.2.1,(p b i).2.2.2.2.2};{sl,q}:=d.slot b o e n h1 h2;{sl,l b _ (a b o e) q};[aB (m b o e)];d.free b o e n h2;{o',q}:=d.there b o e h2;{o',l b _ (a b o e) q};q:=d.af b xs e;[aB (a9 q g)];q;q:=d.dU b o u e;[aB (a9 q g)];q;{more,q}:=d.dS b ps e;{more,do[aB (a9 q g)];q};C:dm X.prog X.w h h':=λb u e=>(j.aZ b u e).cW (λc v k q=>l c v (λz=>do !z;k||k:=k;!k;e<-[x];-e;k<-[x];-k) q) (λ_ q=>q) λ_ _ q=>q;C.fW g {hz,us,us.length,y,l _ _ (qi (yu _)) t}
def Ie{M tg D:Expr}{N:List Expr}{h:Scope}{pos:Pos}{own:List Tp}{fr:List (Tp×Nat)}{cl:List (Tp×To)}{g:TG}{tt:TT}{te:TE}{RR:MD->To->Result->Tj->Prop}{E:KE}{pins:List (To×Obj)}{σ:St}{H2:Hp}{s2:Tj}{Q:VK}{it:To}{fp:List To}{tn:Nat->Heap->Prop}{J:It}(hc:X.calm=true)(S:fT h)(C:lh X h cl fr)(hg:∀s H fp,PG (bB X (own++fr.map (·.1)) h cl s H fp) tg g)(hfr:∀σ,jM g (cK own fr σ))(ht:∀s H fp,v_ (bB X (own++fr.map (·.1)) h cl s H fp) N tt)(he:∀s H fp,PE (bB X (own++fr.map (·.1)) h cl s H fp) M te)(I2:Inv X pins σ H2 s2)(T:Turn X.prog X.w X.K tg J fp it tn)(O:tn 0 s2.heap)(f2:∀b∈fp,eV X pins H2 b)(hW:HY own fr g tt te σ Q J H2)(hRR:∀V F ys us,Inv (bB X (own++fr.map (·.1)) h cl s2 H2 fp) [(↑s2,bU us)] (cK own fr σ) F V->aK ys us->ys.length<=sizeLine->(∀p,F p=none->Q (.ref p) (upd F p (.lst ys)))-> RR (.ref ↑s2) (↑s2+1) (.ok .next) V) : wpAny 48 X.A (newList []) (λacc Z=>wpAny 48 X.A (newFunctionEnv h X.env.globals cl [] X.env.qual none .none (!X.env)) (λce s4 => codeAny 48 X.A (.compStart (.ListComp M [{tg,D,N,0}] h pos) 0 (.ref it) acc {ce with scope:=relabel h X.env}) (RR acc ce.locals) s4) E Z) E s2:=do _;{W,{m0,w0},turn}:=hW;m:∀b∈fp,b<↑s2:=λb f=>(do _;{o,e,_}:=T.obj _ _ O b f;qG e);wpAny_newObj_type (wpAny_newFunctionEnv S.cell (do(y,hy);hy<-0) (λh₁ d a=>?_) S.kind);(by dsimp only at d a ⊢;generalize L:s2.heap.push {cls:=.type "list",dict:=none,data:=.seq ([]:List MD).toArray}=G at d a ⊢);hC:G.objs.size=↑s2+1:=(do[<-L,Heap.size_push]);(by rw[hC]at d a ⊢);old:∀b o,s2.heap.get? b=!o->h₁.get? b=!o:=λb o e=>(do a.extBut b o (qi (yj (qG e))) (qI _ (L▸qI _ e)));hacc:h₁.get? ↑s2=!(bU []):=a.extBut _ _ (qi (yu _)) (qI _ (L▸qL _ rfl));I3:=I2.block (own:=own) (tk:=s2.toks+([]:List (Tp×MD)).length) f2 m S C old d hacc;k:∀{H':Hp} {us:List MD},(∀b∈fp,H' b=none)->∀b∈fp,eV (bB X (own++fr.map (·.1)) h cl s2 H2 fp) [(↑s2,bU us)] H' b:=λ{H' us} hn b f=>(do _;{_,g1,g2,g3,g4,g5}:=f2 b f;hbl:=m b f;{hn b f,?_,I2.ig g1 g2,.inl f,λx c e=>g4 x c (C.sub x c e),λp hp=>?_};qi (yj hbl);j:p=(↑s2,bU us):=(by simpa[bB] using hp);!j;zo hbl);I:∀Z:Tj,Z={s2 with heap:=h₁,toks:=s2.toks+([]:List (Tp×MD)).length}-> codeAny 48 X.A (.compLoop (.ListComp M [{tg,D,N,0}] h pos) 0 (.ref it) (.ref ↑s2) (compEnvC h cl (↑s2+1) X.env)) (RR (.ref ↑s2) (↑s2+1)) Z:=(do(Z,rfl);Q6 (λn s'=>∃i ys us H',aK ys us/\Inv (bB X (own++fr.map (·.1)) h cl s2 H2 fp) [(↑s2,bU us)] (cK own fr σ) H' s'/\tn i s'.heap/\(∀b∈fp,H' b=none)/\ys.length<=sizeLine/\W i n ys H') ?_ m0 {0,[],[],H2,.nil,I3,T.keep _ _ _ O λb _ o e=>old b o e,λb f=>(f2 b f).1,qx _,w0};(n,s4,{i,ys,us,F,hv,I4,U,fr4,hz,w4});{stop,fin}||{go,hlt,step}:=turn i n ys F w4;bI (T.done (bB X (own++fr.map (·.1)) h cl s2 H2 fp) rfl rfl rfl hc i _ s4 _ F _ I4 (k fr4) U stop) λr V ⟨hr,I5⟩=>?_;!hr;hRR V F ys us I5 hv hz fin;bI (T.item (bB X (own++fr.map (·.1)) h cl s2 H2 fp) rfl rfl rfl hc i _ s4 _ F _ I4 (k fr4) U go) λr V ⟨u,hr,h5⟩=>?_;!hr;bI h5 λ_ P ⟨x,H6,I6,r6,y6,B,fr6⟩=>?_;I6':=I6.pinned (k fr6) (T.obj _ _ B);bI (hg s2 H2 fp _ P _ H6 x u _ I6' r6 (hfr σ x H6 _ (step x H6 y6))) λ_ s7 ⟨l,H7,I7,k7,q7⟩=>?_;bI (ht s2 H2 fp _ s7 l H7 _ I7 q7) λok s8 ⟨H8,I8,q8⟩=>?_;t:∀{pins':List (To×Obj)} {σ':St} {H':Hp} {s':Tj},Inv (bB X (own++fr.map (·.1)) h cl s2 H2 fp) ([(↑s2,bU us)]++dX fp P.heap) σ' H' s'->∀b∈fp,(∀o,P.heap.get? b=!o->s'.heap.get? b=!o)/\H' b=none:=λ{pins' σ' H' s'} I' b f=>(do _;{o,e,_}:=T.obj _ _ B b f;z:=I'.pin (b,o) (z9 _ (z9 _ (ED f e)));{λo' e'=>do e'<-[e];-e';z.1,z.2.1});(by cases ok with|false|true=>?_);q8<-[qB qo];{m',hm,w8}:=q8;[qB qo];{m',hm,i+1,ys,us,H8,hv,(I8.fv).weak k7.1 k7.2,T.keep _ _ _ B λb f o e=>(t (pins':=[]) I8 b f).1 o e,λb f=>(t (pins':=[]) I8 b f).2,hz,w8};q8<-[qF rfl];[qF rfl];bI (he s2 H2 fp _ s8 l H8 _ I8 q8) λy R ⟨v,H9,I9,r9,m',hm,w9⟩=>?_;pD:=I9.pin (↑s2,bU us) (List.mem_append_right _ (List.mem_append_left _ (do 0)));zD:R.heap.get? ↑s2=!(bU us):=pD.1;nD:H9 ↑s2=none:=pD.2.1;append_at (hsz:=do¬us.toArray.size<=sizeLine;[ze,<-hv.length];hz) zD λh5 Y hD5=>?_;Ia:Inv (bB X (own++fr.map (·.1)) h cl s2 H2 fp) (dX fp P.heap) l H9 R:=I9.gZ λp hp=>I9.pin p (z9 _ (z9 _ hp));pT:↑s2≠↑s2+1:=qi (yu _);Ib:Inv (bB X (own++fr.map (·.1)) h cl s2 H2 fp) (dX fp P.heap) l H9 {R with heap:=h5,toks:=R.toks}:=Ia.turned (it:=↑s2) (λb o f e=>Y.extBut b o f e) nD pT (.inr (qb _)) (λx c e z=>do _;{v',q}:=I2.cell x c (C.sub x c e);q':=q.lt;q'<-[z];wk _ q') λp hp z=>(do j:p∈dX fp P.heap:=(by simpa[bB] using hp);q':=m p.1 (GA j).1;q'<-[z];wk _ q');Ic:Inv (bB X (own++fr.map (·.1)) h cl s2 H2 fp) [(↑s2,bU (us++[y]))] l H9 {R with heap:=h5,toks:=R.toks}:=Ib.gZ λp hp=>(do j:p=(↑s2,bU (us++[y])):=(do 0<|hp);!j;{hD5.trans (congrArg some (Qk us y)),nD,pT,pD.2.2.2.1,λv z=>do-z});{m',hm,i+1,ys++[v],us++[y],H9,hv.append (.cons r9 .nil),Ic.weak k7.1 k7.2,T.keep _ _ _ B λb f o e=>?_,λb f=>(t (pins':=[]) I9 b f).2,?_,w9};Y.extBut b o (qi (m b f)) ((t (pins':=[]) I9 b f).1 o e);[qg];hlt);codeAny_compStart_list (I _ rfl) (T.self _ 0 _ _ _ (T.keep _ _ _ O λb _ o e=>old b o e) (I _ rfl))
def gH{own:List Tp}{cl:List (Tp×To)}{g:TG}(E:X.calm=true)(hi:PI X tg a o)(S:fT b)(C:lh X b cl fr)(z:∀s H fp,PG (bB X (own++fr.map (·.1)) b cl s H fp) tg g)(j:∀σ,jM g (cK own fr σ))(B:∀s H fp,v_ (bB X (own++fr.map (·.1)) b cl s H fp) d tt)(t:∀s H fp,PE (bB X (own++fr.map (·.1)) b cl s H fp) c te)(D:autoParam (∀x,foldedSetIterable a X.env x=pure x) z15) : PE X (.ListComp c [{tg,a,d,0}] b pos) (Mx own fr o g tt te):=do _;{?_};(pins,s,σ,H,Q,I,h);[eval_ListComp];wpAny_comprehension_free (use:=none) rfl D C.xx S.kind S.l8 (bI (hi pins s σ H _ I h) λK L h1=>bI h1 λu s2 h2=>?_);{it,fp,G,J,H2,e,n,T,i,q,F}:=h2;!e;Ie (RR:=λacc A=>compPost 48 X.A X.xe none (EP X pins σ Q) acc A) E S C z j B t n T i q F λM p ys us m r hz f=>?_;{v,l,_}:=id m.loc;y:p ↑s2=none:=(m.pin (↑s2,bU us) (List.mem_append_right _ (do 0))).2.1;{v,l,λh' k=>{.ref ↑s2,upd p ↑s2 (.lst ys),n.oo q m r hz k,O,f _ y}}
def mX{own:List Tp}{cl:List (Tp×To)}{V:TI}{g:TG}(hN:X.N.Nodup)(hy:X.N[i]?=!y)(hx:Loc X.env.scope y)(hc:X.calm=true)(hi:PI X tg d V)(S:fT k)(C:lh X k cl fr)(hg:∀s H fp,PG (bB X (own++fr.map (·.1)) k cl s H fp) tg g)(O:∀σ,jM g (cK own fr σ))(ht:∀s H fp,v_ (bB X (own++fr.map (·.1)) k cl s H fp) m tt)(he:∀s H fp,PE (bB X (own++fr.map (·.1)) k cl s H fp) l te)(hs:autoParam (∀x,foldedSetIterable d X.env x=pure x) z15)(L:autoParam (swapsWith (.ListComp l [{tg,d,m,0}] k pos) (!(.Name y t)) n.line X.env=pure true) z11)(hf:autoParam (X.fn y=true\/X.env.scope.names.lookup y=some .local) z14) : PS X (.Assign [.Name y t] (.ListComp l [{tg,d,m,0}] k pos) n) (se (Mx own fr V g tt te) (cP i)):=do _;{?_};(pins,s,σ,H,D,I,h);[exec_Assign_Name_used _ _ _ _ L];qA (wpAny_standAt (qA ?_));¬wpAny _ X.A (do{let _ <-comprehension (.ListComp l [⟨tg,d,m,0⟩] k pos) k X.env _ (newList []) false (eval d X.env) (!(assign (.Name y t) X.env))}) _ _ s;qA (bI (wpAny_comprehension_free (use:=!(assign (.Name y t) X.env)) (Q:=λ_ s'=>SP X pins D .next s') rfl hs C.xx S.kind S.l8 (bI (hi pins s σ H _ I h) λxv s1 h1=>bI h1 λitv s2 h2=>?_)) λ_ s' hq=>qE (qE hq));{it,fp,tn,J,H2,e,r,T,K,Y,hW}:=h2;!e;Ie (RR:=λacc A=>compPost 48 X.A X.xe (!(assign (.Name y t) X.env)) (λ_ s'=>SP X pins D .next s') acc A) hc S C hg O ht he r T K Y hW λW P ys us B Z hz F=>?_;{m5,U,_}:=id B.loc;nD:P ↑s2=none:=(B.pin (↑s2,bU us) (List.mem_append_right _ (do 0))).2.1;nC:P (↑s2+1)=none:=B.free;I6:Inv X pins σ (upd P ↑s2 (.lst ys)) W:=r.oo Y B Z hz (Heap.SameBut.refl _ _);¬wpAny _ X.A (assign (.Name y t) X.env (.ref ↑s2)) _ _ W;wpAny_assign_Name (LG (v:=.ref ↑s2) I6 hN hy hx rfl (λs7 I7 ⟨a,M,E⟩=>?_) hf);j:↑s2<↑s2+1:=yu _;u:↑s2+1≠X.env.locals:=zo (jw r.lt j);f:∀x c,X.env.cells.lookup x=!c->c≠↑s2+1:=λx c e=>(do _;{v',q}:=r.cell x c e;qi (jw q.lt j));G:↑s2+1≠a:=(do rfl||E:=E;u;Ne.symm (f _ _ E));⟨m5,U.sameBut M G,λh' R=>⟨_,_,?_,F _ nD⟩⟩;I7.turned (it:=↑s2+1) (t':=s7.toks) (λb o hb e=>R.extBut b o hb e) (do[aB (zo j)];nC) u (.inr (qf r.sz (wu j))) f λp hp z=>do q:=qG (r.pin p hp).1;q<-[z];absurd (jw j q) (wk _)
end
section
variable {X:Cx}
inductive j_(K:PySem.W.Frag)(xs:List V)(H:Hp)(Q:VK):Prop
 |mk(x T t b:_)(_:xs=[x,.ty T])(_:fj K H x t)(_:PySem.W.kitOne K t (.type T)=!b)(_:Q (.bl b) H)
def OS:cn X (.builtin "isinstance") (j_ X.K):=do(pins,s,σ,H,xs,us,Q,I,r,h);{x,T,t,b,rfl,ty,e,q}:=h;{u,v,rfl,a,c}:=vals2 r;-((show v=Value.type T from c));OL I a ty e λtk=>{.bl b,H,I.tok tk,O,q}
inductive jI(x y:V)(H:Hp)(Q:VK):Prop
 |mk(a b xs:_)(_:x=.ref a)(_:y=.ref b)(_:az H a xs)(_:az H b [])(_:Q (.bl (decide (xs=[]))) H)
def Qf(f:X.A.units<cLine):dn X (compareOp .Eq) (jI):=do(pins,s,σ,H,x,y,v,u,Q,I,l,g,h);{a,b,xs,rfl,rfl,i,k,q}:=h;-l;-g;{its,m,p,hz}:=I.list i;{d,c,p2,_}:=I.list k;-c;(by cases m with|nil|cons o n=>?_);PySem.SeqAt.eq_listAt (e:=λ_=>true) p.isList p2.isList rfl f (λj h1 _=>absurd h1 (do 0)) {.bl true,H,I,O,do 0<|q};PySem.SeqAt.eq_list_lengthsAt p.isList p2.isList (do 0) f {.bl false,H,I,O,do 0<|q}
end
section
variable {X:Cx}{pins:List (To×Obj)}{σ σ':St}{H H':Hp}{s s':Tj}
theorem Inv.fW{a:To}{o:HO}(d:Inv X pins σ H s)(I:Inv X pins σ' H' s')(i:↑s<=a)(hn:H' a=none)(new:aV X.prog X.w (upd H' a o) s'.heap a o):Inv X pins σ' (upd H' a o) s':=do ne:∀b,b<↑s->b≠a:=λb h z=>();{I.ok,I.os,I.bare,{I.base.keep,I.base.slot,λb u e n f=>?_,I.base.there,λb xs e=>?_,λb u xs e=>?_,λb ps e=>?_,I.base.dM},I.loc,I.cell,?_,λx c e=>?_,λp hp=>?_,I.aZ.fW hn new,I.len};[aB (ne b (zf (qG e) d.sz))];I.base.free b u e n f;q:=I.base.af b xs e;[aB (a9 q hn)];q;q:=I.base.dU b u xs e;[aB (a9 q hn)];q;{more,q}:=I.base.dS b ps e;{more,do[aB (a9 q hn)];q};[aB (ne _ d.lt)];I.free;{v,q}:=d.cell x c e;[aB (ne _ q.lt)];I.dC x c e;{h1,h2,g}:=I.pin p hp;{h1,?_,g};[aB (ne _ (qG (d.pin p hp).1))];h2
def Inv.c_{t':Nat}{h':Heap}{ch:List To}(I:Inv X pins σ H s)(f:∀b∈ch,eV X pins H b)(k:∀b o,b∉ch->s.heap.get? b=!o->h'.get? b=!o):Inv X pins σ H {s with heap:=h',toks:=t'}:=do d:∀b u,H b=!u->b∉ch:=λb u e z=>(do e<-[(f b z).1];-e);I.step (g':=s.gens) (d':=s.drawn) (ch:=ch) (λb g=>{(f b g).2.2.2.1,(f b g).2.1,(f b g).2.2.2.2.1,(f b g).2.2.2.2.2}) (λb o _ _ a e _=>k b o a e) (λb o _ _ a e _=>{o.slots,k b o a e}) (λ_ _ _ _ n=>n) (λb o a e=>{o,k b o a e}) (λ_ _ e=>e) (λ_ _ _ e=>e) (λb ps e=>{#[],do[e];0}) (λb o xs e n=>k b o (d b _ n) e) (λm i=>?_) (λb u e=>?_) I.bare;{o,es,ep,h,r}:=i;{o,es,ep,k _ o (λz=>(f _ z).2.1 rfl) h,r};(I.aZ b u e).cW (λc v a q=>k c v ?_ q) (λ_ q=>q) λ_ _ q=>q;z||z:=a;[z];d b u e;d c _ z
end
def QF(a:To):It := {λi H=>∃xs x,az H a xs/\xs[i]?=!x,λi H x H'=>∃p v,H p=none/\(∀xs,az H a xs->xs[i]?=!v)/\x=.ref p/\H'=upd H p (.tup [.int i,v]),λi H=>∃xs,az H a xs/\xs.length=i}
def Od{P:Program}{w:World}{K:PySem.W.Frag}{es:List Expr}{k:Nat}{tp:Pos}(a it e:To)(F:a≠e)(y:a≠it)(l:e≠it) :
  Turn P w K (.Tuple es k tp) (QF a) [e,it] e (λi h=>(∃old,IsEnum h e it i old)/\h.IsListIter it a i) where
 mem:=by simp
 obj:=λi h st b f=>by
  rcases qy.mp f with rfl|f
  .obtain⟨⟨old,q⟩,_⟩:=st
   exact{_,q,λv z=>by cases z}
  .have q:b=it:=by simpa using f
   subst q;obtain⟨_,o,q,c,d⟩:=st;exact{o,q,λv z=>by rw[d]at z;cases z}
 keep:=λi h h' st Z=>{let⟨old,q⟩:=st.1;{old,Z e (by simp) _ q},st.2.at λo q=>Z it (by simp) o q}
 item:=by
  intro X R G N T i pins s σ H E I D st L;subst R G N;obtain⟨xs,x,C,V⟩:=L;obtain⟨its,J,p,hz⟩:=I.list C;obtain⟨u,Y,ru⟩:=J.get V;obtain⟨⟨old,t⟩,g⟩:=st
  have M:i<its.toArray.size:=by
   have:=(qp.mp Y).1;simpa using this
  refine wpAny_pyNext_enum_itemD (Draws.list (show X.A.in1.handled=none from I.ok.hd T) it a y its.toArray) t {g,p.isList} M l (by simp[l,Ne.symm F]) λm h' tk U ho Q hT hsz hk=>?_
  have ex:m=u:=by
   have q:its.toArray[i]?=!m:=U
   have q':its[i]?=!m:=by simpa using q
   rw[Y]at q';exact(qJ q').symm
  subst ex;refine{_,O,wpAny_letOwnedTupleGo_enum ho λB n j=>?_}
  have I1:Inv X pins σ H { s with heap:=B,toks:=tk+1 }:=I.c_ D λb o f q=>j.extBut b o (λz=>f (by simp[z])) (hk b o (λz=>f (by simp[z])) (λz=>f (by simp[z])) q)
  have S:↑s≠e:=zo (qG t);have eT:B.get? ↑s=some { cls:=.type "tuple",data:=.seq #[.int i tk,m] }:=j.extBut _ _ S hT;have nT:H ↑s=none:=I.aZ.fresh (qb _);refine{.ref ↑s,upd H ↑s (.tup [.int i,x]),I.fW I1 (Nat.le_refl _) nT {?_,[.int i tk,m],.cons {tk,O} (.cons ru .nil),{_,eT,O,_,O}},O,{_,x,nT,λys hy=>by rw[I.fy hy C];exact V,O,O},{{_,by simpa using n},?_},λb f=>?_}
  .show 2<=sizeLine
   decide
  .obtain⟨o,q,r⟩:=Q.1
   exact{o,j.extBut _ _ (Ne.symm l) q,r}
  .obtain⟨o,q⟩:∃o,s.heap.get? b=!o:=by
    rcases qy.mp f with rfl|f
    .exact⟨_,t⟩
    .have q:b=it:=by simpa using f
     subst q;obtain⟨o,q,_⟩:=g;exact{o,q}
   rw[aB (qi (qG q))];exact(D b f).1
 done:=by
  intro X R G N T i pins s σ H E I D st L;subst R G N;obtain⟨xs,C,V⟩:=L;obtain⟨its,J,p,hz⟩:=I.list C;obtain⟨⟨old,t⟩,g⟩:=st;have hl:=J.length
  have hi:i=its.toArray.size:=by rw[ze];omega
  have hD:=Draws.list (prog:=X.prog) (w:=X.w) (show X.A.in1.handled=none from I.ok.hd T) it a y its.toArray;rw[hi]at g
  exact wpAny_pyNext_enum_endD hD t {g,p.isList} λh' eb=>{O,I.c_ D λb o f q=>eb b o (λz=>f (by simp[z])) q}
 self:=λ_ _ _ _ _ st h=>let⟨old,q⟩:=st.1;wpAny_pyIter_enum q h
section
variable {X:Cx}
inductive BI(R:It->Hp->Prop)(vs:List V)(H1:Hp):Prop
 |mk(a:_)(_:vs=[.ref a])(_:(∃xs,az H1 a xs))(_:R (QF a) H1)
def Ho(ta:TA):TI:=λσ H R=>ta σ H λvs H1=>BI R vs H1
def Q1(v:Gl X "enumerate")(t:X.mg "enumerate"=none)(C:PA X [a] ta)(z:autoParam (starEach [a] X.env=[(false,eval a X.env)]) z11) : PI X (.Tuple es k A) (.Call (.Name "enumerate" p) [a] [] pos) (Ho ta):=do _;{?_};(pins,s,σ,H,R,I,h);Call_ (iC I v t boot_enumerate (PyProof.Rows.callWith_type1 (bI (C pos pins s σ H _ I h) λus c ⟨vs,H1,g,o,x⟩=>?_) z rfl));{l,e,{xs,y},q}:=x;!e;{u,rfl,B}:=vals1 o;-B;{its,D,n,hz}:=g.list y;d:l<↑c:=(do _;{_,e,_}:=n.isList;qG e);call_enumerate_list n.isList λh' m i hsz w=>?_;wpAny_pyIter_enum m ?_;r:Inv X pins σ H1 {c with heap:=h'}:=g.kept (t':=c.toks) w;{↑c+1,[↑c+1,↑c],_,_,H1,O,r,Od l ↑c (↑c+1) (qi (yj d)) (qi d) (zo (yu _)),{{_,m},i},λb j=>?_,q};f:↑c<=b:=(do rfl||j:=qy.mp j;jk _;e:b=↑c:=(do 0<|j);Nat.le_of_eq e.symm);g.lM f (g.aZ.fresh f)
end
def Q4(h:(relabel a env).names.lookup x=!k):∃y∈a.names,y.2=k\/y.2=.free:=do c:=PySem.mem_of_lookup h;{y,d,e}:=qc.mp c;{y,d,?_};{n,f}:=y;(by dsimp only at e;split at e;rename_i b);b<-[zn,zn];.inr (beq_iff_eq.mp b.1.1);-e;.inl rfl
def fB(h:∀y∈b.names,y.2≠.free/\y.2≠.cell):lh X b [] [] where
 xx:=closureFor_none λy a=>(h y a).1
 sub:=λx c e=>by cases e
 has:=λx e=>by
  exfalso;rcases e with e|e <;> obtain⟨y,a,z⟩:=Q4 e <;> rcases z with z|z
  .exact(h y a).2 z
  .exact(h y a).1 z
  .exact(h y a).1 z
  .exact(h y a).1 z
 OK:=λp hp=>nomatch hp
def ag.up(e:ag H H')(h:H' p=none):ag H (upd H' p o):=λb u q=>do[aB (a9 (e b u q) h)];e b u q
def ag.new(h:H p=none):ag H (upd H p o):=(ag.refl H).up h
def ag.wr(e:ag H H')(h:H p=none):ag H (upd H' p o):=λb u q=>do[aB (a9 q h)];e b u q
section
variable {X:Cx}
inductive G1(x y:V)(H:Hp)(Q:VK):Prop
 |mk(p xs i:_)(_:x=.ref p)(_:y=.int i)(_:az H p xs)(_:0<=i)(_:i<(xs.length:Int))(_:∀v∈xs,Q v H)
def EA:Hd X (G1):=do(value,a,pins,s,σ,H,x,y,v,u,Q,I,f,c,h,d);{p,xs,i,ex,e,g,h0,h1,q}:=h;{j,rfl}:=Int.eq_ofNat_of_zero_le h0;b:j<xs.length:=();Fv value a pins s σ H x y v u Q I f c {p,xs,j,xs[j],ex,e,g,vR (qe b),q _ (y0 b)} d
end
section
variable {X:Cx}{es:List Expr}{t:TA}{pos:Pos}
def Jw(t:TA):TE:=λσ H Q=>t σ H λxs H1=>xs.length<=sizeLine/\∀p H',H1 p=none->ag H1 H'->H' p=! (.tup xs)->Q (.ref p) H'
def GW(t:TA):TE:=λσ H Q=>t σ H λxs H1=>xs.length<=sizeLine/\∀p H',H1 p=none->ag H1 H'->H' p=! (.lst xs)->Q (.ref p) H'
def KR:TE:=λ_ H Q=>∀p H',H p=none->ag H H'->H' p=!(.dK [])->Q (.ref p) H'
def a_{x1}(h:PA X es t):PE X (.Tuple es x1 pos) (Jw t):=do _;{?_};(pins,s,σ,H,Q,I,f);wpAny_Tuple_spliced (bI (h pos pins s σ H _ I f) λus a ⟨xs,H1,d,r,z,q⟩=>{do[<-r.length];z,?_});c:H1 ↑a=none:=d.aZ.fresh (qb _);{.ref ↑a,upd H1 ↑a (.tup xs),d.laid (t':=a.toks) (λb u e=>qI _ e) (qb _) ?_,O,q _ _ c (ag.new c) aE};{z,us,r,{_,qL _ rfl,O,_,O}}
def bT(h:PA X es t):PE X (.List es pos) (GW t):=do _;{?_};(pins,s,σ,H,Q,I,f);wpAny_List_spliced (bI (h pos pins s σ H _ I f) λus a ⟨xs,H1,d,r,z,q⟩=>{do[<-r.length];z,?_});c:H1 ↑a=none:=d.aZ.fresh (qb _);{.ref ↑a,upd H1 ↑a (.lst xs),d.laid (t':=a.toks) (λb u e=>qI _ e) (qb _) ?_,O,q _ _ c (ag.new c) aE};{z,us,0,r,qL _ rfl}
def Ml:PE X (.Dict [] [] pos) KR:={λpins s σ H Q I h=>Nh pins s σ H Q I λp hp=>h p _ hp (ag.new hp) aE}
def dn.imp(h:dn X f r)(i:∀x y H Q,a x y H Q->r x y H Q):dn X f a:=λpins s σ H x y v u Q I c b q=>h pins s σ H x y v u Q I c b (i x y H Q q)
def xc.imp(h:xc X r)(i:∀x lo hi H Q,a x lo hi H Q->r x lo hi H Q):xc X a:=λpins s σ H x v e f lo hi sl Q I g c d b q=>h pins s σ H x v e f lo hi sl Q I g c d b (i x lo hi H Q q)
inductive IE(x y:V)(H:Hp)(Q:VK):Prop
 |mk(l b xs zs:_)(_:x=.ref l)(_:y=.ref b)(_:H l=! (.lst xs))(_:H b=! (.lst zs))(_:xs.length+zs.length<=sizeLine)(_:∀p H',H p=none->ag H H'->H' p=!(.lst (xs++zs))->Q (.ref p) H')
def JG:dn X (binaryOp .Add) IE:=Cq.imp λ_ _ _ _ ⟨l,b,xs,zs,h1,h2,d,a,c,q⟩=>{l,b,xs,zs,h1,h2,d,a,c,λp hp=>q p _ hp (ag.new hp) aE}
inductive JW(x:V)(lo:Option Int)(hi:Option Int)(H:Hp)(Q:VK):Prop
 |mk(a xs:_)(_:x=.ref a)(_:az H a xs)(_:∀p H',H p=none->ag H H'->H' p=!(.lst (fm xs lo hi))->Q (.ref p) H')
def Mh:xc X (JW):=RE.imp λ_ _ _ _ _ ⟨a,xs,h1,h2,q⟩=>{a,xs,h1,h2,λp hp=>q p _ hp (ag.new hp) aE}
end
def kY(env:Env):List (Tp×NameKind)->List (Tp×To)->List (Tp×To)|[],acc=>acc|(n,k)::r,acc=>kY env r (if k==.free then(n,(env.cells.lookup n).getD 0)::acc else acc)
def Fm(h:∀y∈b.names,y.2=.free->∃c,env.cells.lookup y.1=!c):closureFor b env=pure (kY env b.names []):=do all:∀(names:List (Tp×NameKind)) (acc:List (Tp×To)),(∀y∈names,y.2=.free->∃c,env.cells.lookup y.1=!c)-> (forIn names acc λx r=>(match x with|(name,kind)=>if(kind==NameKind.free)=true then do{let a <-cellOf env name;pure (ForInStep.yield ((name,a)::r))}else pure (ForInStep.yield r):Sem (ForInStep (List (Tp×To)))))=pure (kY env names acc):=(do(names);(by induction names with|nil|cons x r i=>?_);(acc,_);2;(acc,f);{n,k}:=x;[mi];(by cases d:(k==NameKind.free)with|true|false=>?_);{c,j}:=f (n,k) qm (beq_iff_eq.mp d);e:cellOf env n=pure c:=(do@cellOf;[j]);(by dsimp only);[qF d,e];Eq.trans (by first|rfl|simp) ((i ((n,c)::acc) λy g=>f y (List.mem_cons_of_mem _ g)).trans ?_);¬_=pure (kY env r (if(k==NameKind.free)=true then(n,(env.cells.lookup n).getD 0)::acc else acc));[qF d,show env.cells.lookup n=some c from j];2;(by dsimp only);[qB (do[d];qo)];Eq.trans (by first|rfl|simp) ((i acc λy g=>f y (List.mem_cons_of_mem _ g)).trans ?_);¬_=pure (kY env r (if(k==NameKind.free)=true then(n,(env.cells.lookup n).getD 0)::acc else acc));[qB (do[d];qo)]);e:=all b.names [] h;¬((forIn b.names [] λx r=>(match x with|(name,kind)=>if(kind==NameKind.free)=true then do{let a <-cellOf env name;pure (ForInStep.yield ((name,a)::r))}else pure (ForInStep.yield r):Sem (ForInStep (List (Tp×To))))) >>= λcs=>pure cs)=_;[e];2
theorem wF:∀{names:List (Tp×NameKind)} {acc:List (Tp×To)},(∀y∈names,y.2=.free->∃c,env.cells.lookup y.1=!c)->(∀x c,acc.lookup x=!c->env.cells.lookup x=!c)-> ∀x c,(kY env names acc).lookup x=!c->env.cells.lookup x=!c|[],_,_,h=>h|(n,k)::r,acc,hx,h=>do wF (names:=r) (λy j=>hx y (qz _ j)) λx c e=>?_;(by cases d:(k==NameKind.free)with|true|false=>?_);e<-[d,qF rfl];{g,i}:=hx (n,k) qm (beq_iff_eq.mp d);e<-[gj];(by cases a:(x==n)with|true|false=>?_);e<-[a];q:=beq_iff_eq.mp a;!q;f:(env.cells.lookup x).getD 0=c:=qJ e;b:env.cells.lookup x=!g:=i;(by rw[b]at f ⊢);congrArg some f;e<-[a];h x c e;e<-[d,qB qo];h x c e
theorem wX:∀{names:List (Tp×NameKind)} {acc:List (Tp×To)},((x,NameKind.free)∈names\/∃c,acc.lookup x=!c)->∃c,(kY env names acc).lookup x=!c|[],_,h=>h.elim (λz=>nomatch z) id|(n,k)::r,acc,h=>do wX (names:=r) ?_;put:∀b,∃c,((n,b)::acc).lookup x=!c\/(x≠n/\acc.lookup x=none):=λb=>(do[gj];(by cases a:(x==n)with|true|false=>?_);{b,.inl rfl};(by cases f:acc.lookup x with|some c|none=>?_);{c,.inl rfl};{0,.inr {λz=>do !z;a<-0,O}});h||{c,h}:=h;q||q:=qy.mp h;-q;.inr ?_;[qF (do 2),gj];0;.inl q;.inr ?_;(by cases e:(k==NameKind.free)with|true|false=>?_);[qF (do 2)];{d,q||q}:=put ((env.cells.lookup n).getD 0);{d,q};h<-[q.2];-h;[qB qo];{c,h}
def Nu(h:(relabel a env).names.lookup x=!k):∃y∈a.names,y.1=x/\(y.2=k\/y.2=.free):=do c:=PySem.mem_of_lookup h;{y,d,e}:=qc.mp c;{y,d,?_};{n,f}:=y;(by dsimp only at e;split at e;rename_i b);b<-[zn,zn];-e;{O,.inr (beq_iff_eq.mp b.1.1)};-e;{O,.inl rfl}
def M8{g:Scope}(h:∀x,X.env.kindOf x=some .cell->∃c,X.env.cells.lookup x=!c)(d:∀y∈g.names,y.2≠.cell)(a:∀y∈g.names,y.2=.free->X.env.kindOf y.1=some .cell)(f:∀p∈fr,X.N[p.2]?=!p.1/\X.env.kindOf p.1=some .cell/\(relabel g X.env).names.lookup p.1=some .cell):lh X g (kY X.env g.names []) fr where
 xx:=Fm λy b e=>h _ (a y b e)
 sub:=wF (λy b e=>h _ (a y b e)) λx c e=>by cases e
 has:=λx e=>by
  refine wX (.inl ?_);rcases e with e|e <;> obtain⟨y,b,rfl,z⟩:=Nu e <;> rcases z with z|z
  .exact absurd z (d y b)
  .rw[←z];exact b
  .rw[←z];exact b
  .rw[←z];exact b
 OK:=λp hp=>by
  obtain⟨h1,h2,i⟩:=f p hp;exact{h1,by rw[h2];decide,.inr (.inl h2),.inl i}
def iQ(d:Scope)(N:List Tp)(h1:X.env.scope=d)(h2:X.N=N)(j:∀x,X.env.kindOf x=some .cell->∃c,X.env.cells.lookup x=!c)(g:∀y∈h.names,y.2≠.cell)(f:∀y∈h.names,y.2=.free->d.names.lookup y.1=some .cell)(i:∀p∈fr,N[p.2]?=!p.1/\d.names.lookup p.1=some .cell/\(relabel h {scope:=d,locals:=0,globals:=0,cells:=[]}).names.lookup p.1=some .cell):lh X h (kY X.env h.names []) fr:=do M8 j g (λy k e=>?_) λp hp=>?_;¬X.env.scope.names.lookup y.1=some .cell;[h1];f y k e;{a,b,c}:=i p hp;{do[h2];a,?_,?_};¬X.env.scope.names.lookup p.1=some .cell;[h1];b;e:relabel h X.env=relabel h {scope:=d,locals:=0,globals:=0,cells:=[]}:=(by unfold relabel Env.kindOf;rw[h1]);[e];c
section
variable {X:Cx}
def cn.imp(h:cn X f r)(i:∀xs H Q,a xs H Q->r xs H Q):cn X f a:=λpins s σ H xs us Q I b q=>h pins s σ H xs us Q I b (i xs H Q q)
inductive IT(xs:List V)(H:Hp)(Q:VK):Prop
 |mk(p ys:_)(_:xs=[.ref p])(_:(az H p ys\/aQ H p ys))(_:∀l H',H l=none->ag H H'->H' l=! (.lst ys)->Q (.ref l) H')
def PZ:cn X (.type "list") (IT):=N5.imp λ_ _ _ ⟨p,ys,h1,h2,q⟩=>{p,ys,h1,h2,λl a=>q l _ a (ag.new a) aE}
inductive Ff(x y:V)(H:Hp)(Q:VK):Prop
 |mk(a b xs ys:_)(_:x=.ref a)(_:y=.ref b)(_:aQ H a xs)(_:aQ H b ys)(_:xs≠[])(_:ys≠[])(_:xs.length+ys.length<=sizeLine)(_:∀l H',H l=none->ag H H'->H' l=!(.tup (xs++ys))->Q (.ref l) H')
def Oi:dn X (binaryOp .Add) (Ff):=Qz.imp λ_ _ _ _ ⟨a,b,xs,ys,h1,h2,h,g,f,c,d,q⟩=>{a,b,xs,ys,h1,h2,h,g,f,d,λe=>absurd e c,λ_ p hp=>q p _ hp (ag.new hp) aE}
inductive Lk(x y:V)(H:Hp)(Q:VK):Prop
 |mk(l k xs:_)(_:x=.ref l)(_:y=.int k)(_:H l=! (.lst xs))(_:-(2 ^ 63)<=k)(_:k<2 ^ 63)(_:xs.length * k.toNat<=sizeLine)(_:∀p H',H p=none->ag H H'->H' p=!(.lst (List.replicate k.toNat xs).flatten)->Q (.ref p) H')
def IV:dn X (binaryOp .Mult) Lk:=Fj.imp λ_ _ _ _ ⟨l,k,xs,h1,h2,d,a,c,b,q⟩=>{l,k,xs,h1,h2,d,a,c,b,λp hp=>q p _ hp (ag.new hp) aE}
end
def cI{own:List Tp}{g:TG}(hz:xs.length<=sizeLine)(c:Nat->List V->Hp->Prop)(h0:c 0 [] H)(j:∀i ys H,c i ys H->az H a xs)(s:∀i x ys H' (l:V->Hp->Prop) (n:Hp->Prop),xs[i]?=!x->c i ys H'->(∀y k,c (i+1) (ys++[y]) k->l y k)->(∀f,c (i+1) ys f->n f)-> g x (cK own fr σ) H' λh H2=>tt h H2 λb f=>if b=true then te h f l else n f)(o:∀H' p ys,c xs.length ys H'->ys.length<=xs.length->H' p=none->Q (.ref p) (upd H' p (.lst ys))):HY own fr g tt te σ Q (Gv a) H:=do _;{λi m ys H=>m=xs.length - i/\i<=xs.length/\ys.length<=i/\c i ys H,{xs.length,do 0,Nat.zero_le _,Nat.zero_le _,h0},?_};(i,m,ys,H,{rfl,hi,w,p});d<|i<xs.length;.inr {{xs,xs[i],j _ _ H p,do#[d]},(),λx H' y=>?_};{rfl,y}:=y;v:=y xs (j _ _ _ p);s i x ys H' _ _ v p (λy k u=>{xs.length - (i+1),(),O,d,?_,u}) λf r=>{xs.length - (i+1),(),O,d,(),r};[qg,qr];();e:i=xs.length:=();!e;.inl {{xs,j _ _ H p,qb _},λq t=>o H q ys p w t}
theorem AH{α:Type}[DecidableEq α]:∀{S ws:List α},S.Nodup->(∀x∈S,x∈ws)->S.length<=ws.length|[],_,_,_=>qx _|x::S,ws,nd,h=>do b:=h x qm;a:=zx.mp nd;f:=AH (S:=S) (ws:=ws.erase x) a.2 λy c=>(List.mem_erase_of_ne (λ(e:y=x)=>a.1 (do[<-e];c))).mpr (h y (qz _ c));d:=List.length_erase_of_mem b;pos:0<ws.length:=List.length_pos_of_mem b;¬S.length+1<=ws.length;()
def az.same(h:az H a xs)(s:ag H H'):az H' a xs:=do h||{o,h}:=h;.inl (s _ _ h);.inr ⟨o,s _ _ h⟩
mutual
inductive DV(H:Hp):V->Tn->Prop
 |aS:DV H .aS .none
 |bl (b:Bool):DV H (.bl b) (.bool b)
 |int (i:Int):DV H (.int i) (.int i)
 |str (z:Tp):DV H (.str z) (.str z)
 |lst {p:To} {xs:List V} {ds:List Tn}:az H p xs->dD H xs ds->DV H (.ref p) (.list ds)
 |tup {p:To} {xs:List V} {ds:List Tn}:aQ H p xs->dD H xs ds->DV H (.ref p) (.tuple ds)
inductive dD(H:Hp):List V->List Tn->Prop
 |nil:dD H [] []
 |cons {x:V} {xs:List V} {d:Tn} {ds:List Tn}:DV H x d->dD H xs ds->dD H (x::xs) (d::ds)
end
section
variable {X:Cx}{pins:List (To×Obj)}{σ:St}{H H':Hp}{s:Tj}{K:PySem.W.Frag}
def aQ.same(h:aQ H a xs)(s:ag H H'):aQ H' a xs:=do h||{o,h}:=h;.inl (s _ _ h);.inr ⟨o,s _ _ h⟩
theorem DV.same(e:ag H H')(r:DV H x d):DV H' x d:=DV.rec (motive_1:=λx d _=>DV H' x d) (motive_2:=λx d _=>dD H' x d) .aS .bl .int .str (λh _ t=>.lst (h.same e) t) (λh _ t=>.tup (h.same e) t) .nil (λ_ _ h t=>.cons h t) r
theorem dD.same(e:ag H H')(r:dD H x d):dD H' x d:=dD.rec (motive_1:=λx d _=>DV H' x d) (motive_2:=λx d _=>dD H' x d) .aS .bl .int .str (λh _ t=>.lst (h.same e) t) (λh _ t=>.tup (h.same e) t) .nil (λ_ _ h t=>.cons h t) r
mutual
theorem DV.reads(I:Inv X pins σ H s):∀{x:V} {d:Tn} {v:MD},DV H x d->RelV x v->∃a,Reads s.heap v d a
 |_,_,_,.aS,r=>by cases r;exact{_,.none}
 |_,_,_,.bl b,r=>by cases r;exact{_,.bool b}
 |_,_,_,.int i,r=>by obtain⟨t,rfl⟩:=r;exact{_,.int i t}
 |_,_,_,.str z,r=>by obtain⟨t,rfl⟩:=r;exact{_,.str z t}
 |_,_,_,.lst h t,r=>by
  cases r;obtain⟨its,j,⟨o,n,g,c,_,e⟩,_⟩:=I.list h;obtain⟨a,f⟩:=dD.reads I t j;exact{_,.list g c e (by simpa using f)}
 |_,_,_,.tup h t,r=>by
  cases r;obtain⟨its,j,⟨o,g,c,n,e⟩,_⟩:=I.tuple h;obtain⟨a,f⟩:=dD.reads I t j;exact{_,.tuple g c e (by simpa using f)}
theorem dD.reads(I:Inv X pins σ H s):∀{xs:List V} {ds:List Tn} {vs:List MD},dD H xs ds->aK xs vs->∃c,ReadsAll s.heap vs ds c
 |_,_,_,.nil,r=>by cases r;exact{_,.nil}
 |_,_,_,.cons h t,r=>by
  cases r with
  |cons e d =>
   obtain⟨c,a⟩:=DV.reads I h e;obtain⟨bs,b⟩:=dD.reads I t d;exact{_,.cons a b}
end
inductive xI(u:Nat)(neg:Bool)(x y:V)(H:Hp)(Q:VK):Prop
 |mk(dx dy:_)(_:DV H x dx)(_:DV H y dy)(_:dx.canLay0=true)(_:dy.canLay0=true)(_:min dx.depth dy.depth<=u)(_:Q (.bl (if neg then not (PyData.eqv dx dy) else PyData.eqv dx dy)) H)
def D8(k:X.A.units+u<cLine):dn X (compareOp .Eq) (xI u false):=do(pins,s,σ,H,x,y,v,w,Q,I,f,c,h);{dx,j,b,g,d,cy,l,q}:=h;{i,e}:=b.reads I f;{bs,a}:=g.reads I c;SeqAt.compareEq_reads e a d cy () {.bl _,H,I,O,q}
def BZ(k:X.A.units+u<cLine):dn X (compareOp .NotEq) (xI u true):=do(pins,s,σ,H,x,y,v,w,Q,I,f,c,h);{dx,j,b,g,d,cy,l,q}:=h;{i,e}:=b.reads I f;{bs,a}:=g.reads I c;SeqAt.compareNe_reads e a d cy () {.bl _,H,I,O,q}
theorem lH:∀{vs:List MD} {ds:List Tn} {a:List To} {j:Nat} {v:MD},ReadsAll h vs ds a->vs[j]?=!v->∃d bs,ds[j]?=!d/\Reads h v d bs|_,_,_,_,_,.nil,e=>(do-e)|_,_,_,0,_,.cons r t,e=>(do-e;{_,_,O,r})|_,_,_,j+1,_,.cons r t,e=>do _;{d,bs,h1,h2}:=lH (j:=j) t (do 0<|e);{d,bs,do 0<|h1,h2}
theorem nG:∀{ds:List Tn} {j:Nat} {d:Tn},PyData.canLayAll0 ds=true->ds[j]?=!d->d.canLay0=true|[],_,_,_,e=>(do-e)|d::ds,0,_,h,e=>(do-e;h':(d.canLay0&&PyData.canLayAll0 ds)=true:=h;h'<-[zn];h'.1)|d::ds,j+1,d',h,e=>do h':(d.canLay0&&PyData.canLayAll0 ds)=true:=h;h'<-[zn];nG h'.2 (do 0<|e)
open Classical in
noncomputable def alike(vs:List MD)(ds:List Tn)(dx:Tn)(y:MD):Bool:=decide (∃(j:Nat) (d:Tn),vs[j]?=!y/\ds[j]?=!d/\PyData.eqv d dx=true)
open Classical in
def lG{h:Heap}{vs:List MD}{ds:List Tn}{m:List To}{dx:Tn}(r:ReadsAll h vs ds m)(c:PyData.canLayAll0 ds=true){j:Nat}{y:MD}{d:Tn}(e:vs[j]?=!y)(b:ds[j]?=!d):alike vs ds dx y=PyData.eqv d dx:=by
 unfold alike
 cases q:PyData.eqv d dx with
 |true=>exact qH {j,d,e,b,q}
 |false =>
  refine decide_eq_false λ⟨o,d',n,a,f⟩=>?_;obtain⟨u,t,i,k⟩:=lH r e;obtain⟨p,s,g,l⟩:=lH r n;rw[b]at i;cases i;rw[a]at g;cases g;have:=SeqAt.Reads.unique _ _ _ _ _ (nG c b) k l;rw[←this,q]at f;cases f
def Pt{g:List To}(r:ReadsAll h vs ds g)(c:PyData.canLayAll0 ds=true):vs.any (alike vs ds dx)=ds.any λd=>PyData.eqv d dx:=do l:=SeqAt.ReadsAll.length _ _ _ r;[yo,yt,yt];1;({y,k,q});{j,b,e}:=zv.mp k;{d,_,f,_}:=lH r (j:=j) (do[qe b,e]);q<-[lG r c (do[qe b,e]) f];{d,qk f,q};({d,i,q});{j,b,e}:=zv.mp i;a:j<vs.length:=();{vs[j],y0 a,?_};[lG r c (qe a) (do[qe b,e])];q
inductive Ip(u:Nat)(neg:Bool)(x y:V)(H:Hp)(Q:VK):Prop
 |mk(dx p ds xs:_)(_:DV H x dx)(_:y=.ref p)(_:(az H p xs\/aQ H p xs))(_:dD H xs ds)(_:dx.canLay0=true)(_:PyData.canLayAll0 ds=true)(_:dx.depth<=u)(_:Q (.bl (if neg then not (ds.any λd=>PyData.eqv d dx) else ds.any λd=>PyData.eqv d dx)) H)
def Ge(K:X.A.units+1+u<cLine):dn X (compareOp .In) (Ip u false):=do(pins,s,σ,H,x,y,v,w,Q,I,G,z,h);{dx,p,ds,xs,E,rfl,a,C,F,cs,L,q}:=h;-z;{J,o}:=E.reads I G;b:∀{its:List MD},aK xs its->(∀y∈its,SeqAt.EqAt X.A.in1 s y v (alike its ds dx y))/\its.any (alike its ds dx)=ds.any λd=>PyData.eqv d dx:=λ{its} t=>(do _;{bs,k}:=C.reads I t;{λy B=>?_,Pt k cs};{j,D,e}:=zv.mp B;l:its[j]?=!y:=(do[qe D,e]);{d,_,m,n}:=lH k l;[lG k cs l m];SeqAt.eqAt_reads d dx _ s y v _ _ n o (nG cs m) F (do¬X.A.units+1+_<cLine;()));a||a:=a;{its,r,i,hz}:=I.list a;{f,g}:=b r;SeqAt.in_listAt (alike its ds dx) i.isList (λw c=>f w (do 0<|c)) {.bl _,H,I,O,?_};[List.any_toArray,g];q;{its,r,i,hz}:=I.tuple a;{f,g}:=b r;SeqAt.in_tupleAt (alike its ds dx) i (λw c=>f w (do 0<|c)) {.bl _,H,I,O,?_};[List.any_toArray,g];q
inductive oD(u:Nat)(o:V)(vs:List V)(H:Hp)(Q:VK):Prop
 |mk(x dx p ds xs:_)(j:Nat)(_:vs=[x])(_:o=.ref p)(_:DV H x dx)(_:az H p xs)(_:dD H xs ds)(_:dx.canLay0=true)(_:PyData.canLayAll0 ds=true)(_:dx.depth<=u)(_:(∃d,ds[j]?=!d/\PyData.eqv d dx=true))(_:(∀(m:Nat) d,m<j->ds[m]?=!d->PyData.eqv d dx=false))(_:Q (.int (j:Int)) H)
def Ph(hu:X.A.units+3+u<cLine):yM X "list.index" (oD u):=do(pins,s,σ,H,o,vs,v,us,Q,I,Z,P,h);{x,dx,p,ds,xs,j,rfl,rfl,W,R,U,Y,cs,hd,{d,G,S},k,q}:=h;-Z;{w,rfl,i}:=P.one;{as,M}:=W.reads I i;{its,r,V,hz}:=I.list R;{{T,E,data,sl},n,e,K,C,D}:=V;(by dsimp only at K C D;subst K C D);{bs,b}:=U.reads I r;J:=SeqAt.ReadsAll.length _ _ _ b;f:j<its.length:=(do this:=(qp.mp G).1;());hl:=r.length;z:sizeLine<2 ^ 63 - 1:=⋯;call_meets F.slot_list_index {_,e,O} F.entry_list_index (F.args_list_index_2 _ _) (SeqAt.list_indexAt p its.toArray n none sl w (alike its ds dx) j (do 0<|f) () ?_ ?_) {e,λy l=>?_,?_};[be,lG b cs (qe f) G];S;(m,g,t);c:m<its.length:=(do 0<|g);{d',_,a,_}:=lH b (qe c);[be,lG b cs (qe c) a];k m d' t a;l:y∈its:=(do 0<|l);{m,g,N}:=zv.mp l;B:its[m]?=!y:=(do[qe g,N]);{d',_,a,L}:=lH b B;[lG b cs B a];SeqAt.eqAt_reads d' dx _ s y w _ _ L M (nG cs a) Y (do¬X.A.units+1+_<cLine;());{.int j,H,I.tok _,{_,O},q}
inductive oQ(u:Nat)(o:V)(vs:List V)(H:Hp)(Q:VK):Prop
 |mk(x dx p ds xs:_)(_:vs=[x])(_:o=.ref p)(_:DV H x dx)(_:az H p xs)(_:dD H xs ds)(_:dx.canLay0=true)(_:PyData.canLayAll0 ds=true)(_:dx.depth<=u)(_:Q (.int ((ds.countP λd=>PyData.eqv d dx:Nat):Int)) H)
def NX(f:MD->Bool)(r:ReadsAll h vs ds b):(∀(j:Nat) y d,vs[j]?=!y->ds[j]?=!d->f y=PyData.eqv d dx)->vs.countP f=ds.countP λd=>PyData.eqv d dx:=do(a);(by induction vs generalizing ds b with|nil|cons v vs e=>?_);-r;2;(by cases r with|cons k c=>?_);[List.countP_cons,List.countP_cons,a 0 _ _ rfl rfl,e c λj y d i g=>a (j+1) y d (do 0<|i) (do 0<|g)]
def QD(U:X.A.units+3+u<cLine):yM X "list.count" (oQ u):=do(pins,s,σ,H,o,vs,v,us,Q,I,S,E,h);{x,dx,p,ds,xs,rfl,rfl,N,J,L,P,cs,V,q}:=h;-S;{w,rfl,c}:=E.one;{T,C}:=N.reads I c;{its,r,M,hz}:=I.list J;{{K,l,data,sl},n,e,t,i,k}:=M;(by dsimp only at t i k;subst t i k);{bs,b}:=L.reads I r;call_meets F.slot_list_count {_,e,O} F.entry_list_count (F.args_list_count_2 _ _) (SeqAt.list_countAt p its.toArray n none sl w (alike its ds dx)) {e,λy f=>?_,?_};f:y∈its:=(do 0<|f);{m,z,D}:=zv.mp f;g:its[m]?=!y:=(do[qe z,D]);{d',_,a,B}:=lH b g;[lG b cs g a];SeqAt.eqAt_reads d' dx _ s y w _ _ B C (nG cs a) P (do¬X.A.units+1+_<cLine;());{.int _,H,I.tok _,{_,O},?_};[mj,NX (dx:=dx) _ b λj y d G R=>lG b cs G R];q
end
def HP(a b:To):It := {λi H=>∃xs ys x y,az H a xs/\az H b ys/\xs[i]?=!x/\ys[i]?=!y,λi H v H'=>∃p x y,H p=none/\(∀xs,az H a xs->xs[i]?=!x)/\(∀ys,az H b ys->ys[i]?=!y)/\v=.ref p/\H'=upd H p (.tup [x,y]),λi H=>∃xs ys,az H a xs/\az H b ys/\(xs.length<=i\/ys.length<=i)}
def Nw{P:Program}{w:World}{K:PySem.W.Frag}{es:List Expr}{k:Nat}{tp:Pos}(z TI TO t B a b:To)(D:ZipApart z TI TO t B a b) :
  Turn P w K (.Tuple es k tp) (HP a b) [z,TI,TO,t,B] z (λi h=>IsZip h z TI TO .none/\IsPair h TI (.ref t) (.ref B)/\(∃u v,IsPair h TO u v)/\h.IsListIter t a i/\h.IsListIter B b i) where
 mem:=by simp
 obj:=λi h st c d=>by
  obtain⟨h1,h2,⟨u,v,m⟩,⟨o4,n,_,d4⟩,⟨o5,j,_,d5⟩⟩:=st
  ac_nf at d
  rcases d with rfl|rfl|rfl|rfl|rfl
  .exact⟨_,h1,λv z=>by cases z⟩
  .exact⟨_,h2,λv z=>by cases z⟩
  .exact⟨_,m,λv z=>by cases z⟩
  .exact⟨_,n,λv z=>by rw[d4]at z;cases z⟩
  .exact⟨_,j,λv z=>by rw[d5]at z;cases z⟩
 keep:=λi h h' st r=>by
  obtain⟨h1,h2,⟨u,v,m⟩,n,j⟩:=st;exact{r z (by simp) _ h1,r TI (by simp) _ h2,{u,v,r TO (by simp) _ m},n.at λo q=>r t (by simp) o q,j.at λo q=>r B (by simp) o q}
 item:=by
  intro X Y R V d i pins s σ H E I J st T;subst Y R V;obtain⟨xs,ys,x,y,g,f,hx,hy⟩:=T;obtain⟨F,M,S,z1⟩:=I.list g;obtain⟨C,Z,p2,z2⟩:=I.list f;obtain⟨L,hu1,Q⟩:=M.get hx;obtain⟨u2,cQ,N⟩:=Z.get hy;obtain⟨h1,h2,⟨u,v,m⟩,n,j⟩:=st;refine wpAny_pyNext_zip_item D h1 h2 m n j S.isList p2.isList (by simpa using hu1) (by simpa using cQ) λh' a1 a2 a3 a4 a5 a6 a7=>?_;refine{_,O,wpAny_letOwnedTupleGo_zip a1 λG b1 bs=>?_}
  have I1:Inv X pins σ H { s with heap:=G }:=I.c_ (t':=s.toks) J λc o d q=>bs.extBut c o (λe=>d (by simp[e])) (a7 c o (λe=>d (by simp[e])) (λe=>d (by simp[e])) (λe=>d (by simp[e])) (λe=>d (by simp[e])) q)
  have U:z<↑s:=qG h1;have eT:G.get? ↑s=some { cls:=.type "tuple",data:=.seq #[L,u2] }:=bs.extBut _ _ (zo U) a5;have nT:H ↑s=none:=I.aZ.fresh (qb _);refine{.ref ↑s,upd H ↑s (.tup [x,y]),I.fW I1 (qb _) nT {?_,[L,u2],.cons Q (.cons N .nil),{_,eT,O,_,O}},O,{_,x,y,nT,λl p=>by rw[I.fy p g];exact hx,λl p=>by rw[I.fy p f];exact hy,O,O},{b1,?_,{L,u2,?_},?_,?_},λc d=>?_}
  .show 2<=sizeLine
   decide
  .exact bs.extBut _ _ D.TIz (a7 _ _ D.TIz D.TITO D.TIi1 D.TIi2 h2)
  .exact bs.extBut _ _ D.TOz a2
  .exact a3.at λo q=>bs.extBut _ _ D.i1z q
  .exact a4.at λo q=>bs.extBut _ _ D.i2z q
  .obtain⟨o,q⟩:∃o,s.heap.get? c=!o:=by
    ac_nf at d
    rcases d with rfl|rfl|rfl|rfl|rfl
    .exact⟨_,h1⟩
    .exact⟨_,h2⟩
    .exact⟨_,m⟩
    .obtain⟨o,q,_⟩:=n;exact{o,q}
    .obtain⟨o,q,_⟩:=j;exact{o,q}
   rw[aB (qi (qG q))];exact(J c d).1
 done:=by
  intro X Y R V d i pins s σ H E I J st T;subst Y R V;obtain⟨xs,ys,g,f,p⟩:=T;obtain⟨F,M,S,z1⟩:=I.list g;obtain⟨C,Z,p2,z2⟩:=I.list f;obtain⟨h1,h2,⟨u,v,m⟩,n,j⟩:=st;have l1:=M.length;have l2:=Z.length
  refine wpAny_pyNext_zip_end (show X.A.handled=none from I.ok.hd d) D h1 h2 m n j S.isList p2.isList ?_ λh' r=>{O,I.c_ (t':=s.toks) J λc o d q=>r c o (λe=>d (by simp[e])) (λe=>d (by simp[e])) (λe=>d (by simp[e])) (λe=>d (by simp[e])) q}
  rcases p with p|p
  .left
   simp
   omega
  .right
   simp
   omega
 self:=λ_ _ _ _ _ st h=>wpAny_pyIter_zip st.1 h
section
variable {X:Cx}
inductive Hu(R:It->Hp->Prop)(vs:List V)(H1:Hp):Prop
 |mk(a b:_)(_:vs=[.ref a,.ref b])(_:(∃xs,az H1 a xs))(_:(∃ys,az H1 b ys))(_:R (HP a b) H1)
def QA(ta:TA):TI:=λσ H R=>ta σ H λvs H1=>Hu R vs H1
def DN(D:Gl X "zip")(C:X.mg "zip"=none)(N:PA X [a,b] ta)(J:autoParam (starEach [a,b] X.env=(false,eval a X.env)::starEach [b] X.env) z11)(m:autoParam ((backTo pos (starEach [b] X.env)).any (·.1)=false) z11) : PI X (.Tuple es k L) (.Call (.Name "zip" p) [a,b] [] pos) (QA ta):=do _;{?_};(pins,s,σ,H,R,I,h);Call_ (iC I D C boot_zip (PyProof.Rows.callWith_type1 (bI (N pos pins s σ H _ I h) λus d ⟨vs,H1,g,z,F⟩=>?_) J m));{u,v,e,{xs,n},{ys,l},q}:=F;!e;{Q,T,rfl,j,i}:=z.two;-j;-i;{y,G,t,_}:=g.list n;{x,K,p2,_}:=g.list l;r:u<↑d:=(do _;{_,e,_}:=t.isList;qG e);o:v<↑d:=(do _;{_,e,_}:=p2.isList;qG e);call_zip_2 t.isList p2.isList λh' a1 a2 P A E S M=>?_;wpAny_pyIter_zip a1 ?_;B:Inv X pins σ H1 {d with heap:=h'}:=g.kept (t':=d.toks) M;{_,[↑d+4,↑d+2,↑d+3,↑d,↑d+1],_,_,H1,O,B,Nw _ _ _ _ _ u v (zipApart_new r o),{a1,a2,{_,_,P},A,E},λc w=>?_,q};f:↑d<=c:=(do(by ac_nf at w);rfl||rfl||rfl||rfl||rfl:=w;jl _ _;jl _ _;jl _ _;qb _;jl _ _);g.lM f (g.aZ.fresh f)
end
def Oj{own:List Tp}{g:TG}(hz:xs.length<=sizeLine)(c:Nat->List V->Hp->Prop)(h0:c 0 [] H)(u:∀i zs H,c i zs H->az H a xs)(t:∀i x zs H' p (l:V->Hp->Prop) (n:Hp->Prop),xs[i]?=!x->c i zs H'->H' p=none->(∀v k,c (i+1) (zs++[v]) k->l v k)->(∀f,c (i+1) zs f->n f)-> g (.ref p) (cK own fr σ) (upd H' p (.tup [.int i,x])) λh H2=>tt h H2 λb f=>if b=true then te h f l else n f)(o:∀H' p zs,c xs.length zs H'->zs.length<=xs.length->H' p=none->Q (.ref p) (upd H' p (.lst zs))):HY own fr g tt te σ Q (QF a) H:=do _;{λi m zs H=>m=xs.length - i/\i<=xs.length/\zs.length<=i/\c i zs H,{xs.length,do 0,Nat.zero_le _,Nat.zero_le _,h0},?_};(i,m,zs,H,{rfl,hi,B,p});j:=u _ _ H p;d<|i<xs.length;.inr {{xs,xs[i],j,do#[d]},(),λv H' y=>?_};{r,x,hn,z,rfl,rfl}:=y;t i x zs H r _ _ (z xs j) p hn (λv k A=>{xs.length - (i+1),(),O,d,?_,A}) λf s=>{xs.length - (i+1),(),O,d,(),s};[qg,qr];();e:i=xs.length:=();!e;.inl {{xs,j,O},λq w=>o H q zs p B w}
def P0{a b:To}{xs ys:List V}{g:TG}{tb:TS}{D:Ends}{σ:St}{H:Hp}(c:Nat->St->Hp->Prop)(h0:c 0 σ H)(o:∀i σ H,c i σ H->az H a xs/\az H b ys)(n:∀i x y σ H p,xs[i]?=!x->ys[i]?=!y->c i σ H->H p=none->g (.ref p) σ (upd H p (.tup [x,y])) λd H2=>tb {D with nx:=c (i+1),ct:=c (i+1),bk:=D.nx} d H2)(t:∀σ H,c (min xs.length ys.length) σ H->D.nx σ H) : ∃W:Nat->Nat->St->Hp->Prop,(∃m,W 0 m σ H)/\∀i m σ H,W i m σ H-> ((HP a b).stop i H/\D.nx σ H)\/((HP a b).go i H/\∃N:St->Hp->Prop,(∀σ' H',N σ' H'->∃k,k<m/\W (i+1) k σ' H')/\∀x H',(HP a b).xq i H x H'->g x σ H' λd H2=>tb {D with nx:=N,ct:=N,bk:=D.nx} d H2):=do _;{λi m σ H=>m=min xs.length ys.length - i/\i<=min xs.length ys.length/\c i σ H,{min xs.length ys.length,do 0,Nat.zero_le _,h0},?_};(i,m,σ,H,{rfl,hi,p});{h,f}:=o _ _ H p;j<|i<min xs.length ys.length;h1:i<xs.length:=();h2:i<ys.length:=();.inr {{xs,ys,xs[i],ys[i],h,f,do#[h1],do#[h2]},c (i+1),λσ' H' q=>{min xs.length ys.length - (i+1),(),O,j,q},λv H' y=>?_};{r,x,z,hn,s,l,rfl,rfl}:=y;n i x z σ H r (s xs h) (l ys f) p hn;e:i=min xs.length ys.length:=();!e;.inl {{xs,ys,h,f,()},t σ H p}
def HX(a:bG k A):A.units+64<cLine:=a.units
def Pz(a:bG k A):A.units+1+63<cLine:=do this:=a.units;()
def uL(a:bG k A):A.units+3+61<cLine:=do this:=a.units;()
def dQ(z:Tp)(lo hi:Option Int):Tp:={((z.cps.toList.drop (HT.bV z.length 0 lo)).take (HT.bV z.length z.length hi - HT.bV z.length 0 lo)).toArray}
def xp(i:Int)(n:Nat):max 0 (min (if i<0 then i+(n:Int) else i) (n:Int))=((if i<0 then(i+(n:Int)).toNat else min i.toNat n:Nat):Int):=do h<|i<0;[qF h,qF h];();[qB h,qB h];()
def Iv(lo hi:Option Int)(n:Nat):Builtin.Str.strSliceIndices lo hi 1 n=(List.range (HT.bV n n hi - HT.bV n 0 lo)).map (HT.bV n 0 lo+·):=do[<-sliceRange_one];@Builtin.Str.strSliceIndices;(by cases lo with|none|some i=>?_;cases hi with|none|some j=>?_);2;¬sliceRange 0 (max 0 (min (if j<0 then j+(n:Int) else j) (n:Int))) 1=_;[xp];2;(by cases hi with|none|some j=>?_);¬sliceRange (max 0 (min (if i<0 then i+(n:Int) else i) (n:Int))) n 1=_;[xp];2;¬sliceRange (max 0 (min (if i<0 then i+(n:Int) else i) (n:Int))) (max 0 (min (if j<0 then j+(n:Int) else j) (n:Int))) 1=_;[xp,xp];2
section
variable {X:Cx}
inductive IH(x:V)(lo:Option Int)(hi:Option Int)(H:Hp)(Q:VK):Prop
 |mk(z:_)(_:x=.str z)(_:z.length<=sizeLine)(_:Q (.str (dQ z lo hi)) H)
def Ra(z:Tp)(l u:Option (Int×Tok)):((slicePicked z l u none).filterMap (z.cps[·]?))=(dQ z (l.map (·.1)) (u.map (·.1))).cps.toList:=by unfold slicePicked dQ;rw[show((none:Option (Int×Tok)).map (·.1)).getD 1=(1:Int) from rfl,Iv,pick_run]
def vM:xc X IH:=do(pins,s,σ,H,x,v,y,B,lo,hi,sl,Q,I,o,d,n,m,h);{z,rfl,hz,q}:=h;{t,rfl}:=o;{"str",_,F.slot_str_getitem.lookup,typeIs_str _ z t,?_};a:∀l u:Option (Int×Tok),l.map (·.1)=lo->u.map (·.1)=hi->s.heap.IsSlice sl l u none->wpAny 48 X.A (getItem (.str z t) (.ref sl)) (EP X pins σ Q) X.xe s:=λl u k j f=>(do wpAny_getItem_str_slice (st:=none) f rfl ?_;i:=Ra z l u;i<-[k,j];@sliceMade;3;(by rename_i b);p:(slicePicked z l u none).length=z.length:=(do b<-[zn];beq_iff_eq.mp b.2);e:dQ z lo hi=z:=(do h1:(slicePicked z l u none).length=HT.bV z.length z.length hi - HT.bV z.length 0 lo:=(do@slicePicked;[show((none:Option (Int×Tok)).map (·.1)).getD 1=(1:Int) from rfl,Iv,k,j,qh,zh]);r:HT.bV z.length z.length hi<=z.length:=(do@HT.bV;by split <;> (try split)<;> omega);h2:HT.bV z.length 0 lo=0\/z.length=0:=();@dQ;h2||h2:=h2;[h2];h1<-[h2];[show HT.bV z.length z.length hi - 0=z.cps.toList.length from do this:z.cps.toList.length=z.length:=(do 0;2);(),gr,q0];this:z.cps.toList=[]:=(do this:z.cps.size=0:=h2;0<|this);[this];{c}:=z;this<-0;#[this]);{.str z,H,I,{t,O},e▸q};e:(⟨((slicePicked z l u none).filterMap (z.cps[·]?)).toArray⟩:Tp)=dQ z lo hi:=(do[i]);g:(dQ z lo hi).length<=z.length:=(do@dQ;¬(List.toArray _).size<=z.length;[ze,wv,yq];¬_<=z.cps.size;this:z.cps.toList.length=z.cps.size:=(do 0);());[e];{qf g hz,.str _,H,I.tok _,{_,O},q});(by cases n <;> cases m);a none none rfl rfl d;a none (!(_,_)) rfl rfl d;a (!(_,_)) none rfl rfl d;a (!(_,_)) (!(_,_)) rfl rfl d
end
section
variable {X:Cx}{tg:Expr}
theorem HM:∀{xs:List V} {us:List MD},aK xs us->aK xs.reverse us.reverse|[],_,h=>(do-h;.nil)|x::xs,_,h=>do(by cases h with|cons r t=>?_);[mo,mo];(HM t).append (.cons r .nil)
def IF(te:TE)(ts:TO):TE:=λσ H Q=>te σ H λx H1=>ts σ H1 λo H2=>o=!(-1)/\∃a xs,x=.ref a/\az H2 a xs/\∀p H',H2 p=none->ag H2 H'->H' p=!(.lst xs.reverse)->Q (.ref p) H'
def M3{e:Expr}{st:Expr}{te:TE}{ts:TO}{pos p2:Pos}(u:PE X e te)(d:PO X (!st) ts):PE X (.Subscript e (.Slice none none (!st) p2) pos) (IF te ts):=do _;{?_};(pins,s,σ,H,Q,I,h);Subscript_ (bI (u pins s σ H _ I h) λv p ⟨x,H1,m,k,z⟩=>?_);wpAny_Slice ?_;[evalPart_none];qE ?_;qE ?_;bI (d pins p σ H1 _ m z) λvs c ⟨o,l,B,ps,y,t⟩=>?_;!y;{a,xs,rfl,n,q}:=t;f:Inv X pins σ l {c with heap:=c.heap.push {cls:=.type "slice",data:=.fields #[.none,.none,vs]}}:=B.kept (t':=c.toks) λb ob q=>qI _ q;-k;{its,r,j,hz}:=f.list n;i:=r.length;¬wpAny 48 X.A (subscriptTail e (.Slice none none (!st) p2) (.ref a) (.ref ↑c)) (EP X pins σ Q) X.xe {c with heap:=c.heap.push {cls:=.type "slice",data:=.fields #[.none,.none,vs]}};tail_any (ops:=[.ref a,.ref ↑c]) j.isList.typeIs slot_list_getitem.lookup ?_ (by with_unfolding_all rfl);wpAny_getItem_list_slice j.isList (Heap.IsSliceOf.new ..) .none .none ps (do 0) ?_ (by rw[List.size_toArray] <;> omega);[PySem.W.krv_pick];g:=f.aZ.fresh (qb _);{.ref _,_,f.laid (t':=c.toks) (o:=.lst xs.reverse) (λb ob q=>qI _ q) (qb _) ?_,O,q _ _ g (ag.new g) aE};{do[vy];hz,its.reverse,0,?_,?_};HM r;qL _ rfl
end
end L2
set_option maxHeartbeats 40000000
namespace Srt
open PySem PySem.W PyProof.Rows
def Ok{α:Type}(n:Nat)(lt:Nat->Nat->Bool)(P:α->Prop):KasT α->Prop|.ret a=>P a|.ask i j k=>i<n/\j<n/\Ok n lt P (k (lt i j))
section
variable {α β:Type}{n:Nat}{lt:Nat->Nat->Bool}
theorem Ok.mono(h:∀a,P a->R a):∀{t:KasT α},Ok n lt P t->Ok n lt R t|.ret _,q=>h _ q|.ask _ _ _,q=>{q.1,q.2.1,Ok.mono h q.2.2}
theorem Ok.bind{R:β->Prop}{f:α->KasT β}:∀{t:KasT α},Ok n lt (λa=>Ok n lt R (f a)) t->Ok n lt R (t.bind f)|.ret _,q=>q|.ask _ _ k,q=>{q.1,q.2.1,Ok.bind (t:=k _) q.2.2}
theorem Ok.wp(c:∀i j C,i<n->j<n->C (lt i j) s->b i j C s)(d:∀a,P a->Q a s) : ∀{t:KasT α},Ok n lt P t->t.kasWp b Q s|.ret _,q=>d _ q|.ask i j k,q=>c i j _ q.1 q.2.1 (Ok.wp c d (t:=k _) q.2.2)
end
structure eP(lt:Nat->Nat->Bool):Prop where
 k_:∀a,lt a a=false
 tr:∀a b c,lt a b=true->lt b c=true->lt a c=true
 nt:∀a b c,lt a c=true->lt a b=true\/lt b c=true
section
variable {n:Nat}{lt:Nat->Nat->Bool}(W:eP lt)
include W
theorem eP.le_of_lt(h:lt a b=true):lt b a=false:=by cases e:lt b a with|false|true=>?_;rfl;rw[<-W.k_ a,<-W.tr a b a h e]
theorem eP.dB(h1:lt b a=false)(h2:lt c b=false):lt c a=false:=do(by cases e:lt c a with|false|true=>?_);2;q||q:=W.nt c b a e;h2<-[q];-h2;h1<-[q];-h1
theorem eP.HH(h1:lt a b=true)(h2:lt c b=false):lt a c=true:=do q||q:=W.nt a c b h1;q;h2<-[q];-h2
end
abbrev g(p:Array Nat)(i:Nat):Nat:=p.getD i 0
def Up(lt:Nat->Nat->Bool)(p:Array Nat)(n:Nat):Prop:=∀i j,i<=j->j<n->lt (g p j) (g p i)=false
def Dn(lt:Nat->Nat->Bool)(p:Array Nat)(n:Nat):Prop:=∀i j,i<=j->j<n->lt (g p i) (g p j)=false
def Bd(n:Nat)(p:Array Nat):Prop:=p.size=n/\∀i,g p i<n
def kM(h:p[i]?=q[j]?):g p i=g q j:=do@g;[jm,jm,h]
def nE(hn:0<n)(h:q.Perm p)(b:Bd n p):Bd n q:=do _;{do[h.size_eq];b.1,λi=>?_};@g;[jm];(by cases e:q[i]? with|none|some x=>?_);hn;f:x∈q:=Array.mem_of_getElem? e;a:x∈p:=(h.mem_iff).mp f;{j,d,c}:=Array.mem_iff_getElem.mp a;this:=b.2 j;(by unfold g at this);this<-[jm,ja d,c];this
section
variable {n:Nat}{lt:Nat->Nat->Bool}(W:eP lt)(hn:0<n)
theorem Rw(W:eP lt)(h0:1<=k)(h:Up lt p k)(b:lt (g p k) (g p (k - 1))=false):Up lt p (k+1):=do(i,j,a,d);e<|j=k;!e;c<|i=j;!c;W.k_ _;W.dB (h i (j - 1) () ()) b;h i j a ()
theorem rL(W:eP lt)(h0:1<=k)(h:Dn lt p k)(b:lt (g p (k - 1)) (g p k)=false):Dn lt p (k+1):=do(i,j,a,d);e<|j=k;!e;c<|i=j;!c;W.k_ _;W.dB b (h i (j - 1) () ());h i j a ()
theorem Fd(W:eP lt)(b:Bd n p):∀(f k:Nat),1<=k->Up lt p k->Ok n lt (λm=>k<=m/\m<=k+f/\Up lt p m/\(m<k+f->lt (g p m) (g p (m - 1))=true)) (kas_asc p f k)| 0,k,_,h=>{Nat.le_refl _,Nat.le_refl _,h,λz=>absurd z (do 0)}|f+1,k,h0,h=>do _;{b.2 _,b.2 _,?_};(by cases e:lt (p.getD k 0) (p.getD (k - 1) 0)with|true|false=>?_);¬Ok n lt _ (if true=true then _ else _);[qF rfl];{qb _,jl _ _,h,λ_=>e};¬Ok n lt _ (if false=true then _ else _);[qB ⋯];(Fd W b f (k+1) () (Rw W h0 h e)).mono λm a=>{(),(),a.2.2.1,λz=>a.2.2.2 ()}
theorem Dh(W:eP lt)(f:j<=p.size)(d:∀k,i<=k->k<j->lt (g p k) (g p (j - 1))=false/\lt (g p (j - 1)) (g p k)=false)(k:Nat) : lt (g (kas_rev p i j) k) (g p k)=false/\lt (g p k) (g (kas_rev p i j) k)=false:=do e:=getElem?_mirror_all (i:=i) f k;h<|i<=k/\k<j;e<-[qF h];b:g (kas_rev p i j) k=g p (i+j - 1 - k):=kM e;[b];a:=d (i+j - 1 - k) () ();c:=d k h.1 h.2;{W.dB c.2 a.1,W.dB a.2 c.1};e<-[qB h];b:g (kas_rev p i j) k=g p k:=kM e;[b];{W.k_ _,W.k_ _}
theorem DA(W:eP lt)(b:∀i,lt (g q i) (g p i)=false/\lt (g p i) (g q i)=false)(h:Dn lt p k):Dn lt q k:=λi j a c => W.dB (W.dB (b j).2 (h i j a c)) (b i).1
theorem AO(d:k<=p.size)(h:Dn lt p k):Up lt (kas_rev p 0 k) k:=do(i,j,f,l);e:=getElem?_mirror_all (i:=0) d i;c:=getElem?_mirror_all (i:=0) d j;(by rw[qF {qx _,()}]at e c);a:g (kas_rev p 0 k) i=g p (0+k - 1 - i):=kM e;b:g (kas_rev p 0 k) j=g p (0+k - 1 - j):=kM c;[a,b];h _ _ () ()
theorem vL(p:Array Nat)(i j:Nat):(kas_rev p i j).Perm p:=mirror_perm p i j _
def FR(lt:Nat->Nat->Bool)(p:Array Nat)(k q:Nat):Prop:=q+1<=k/\∀m,k - (q+1)<=m->m<k->lt (g p m) (g p (k - 1))=false/\lt (g p (k - 1)) (g p m)=false
theorem uP(W:eP lt)(h:1<=k):FR lt p k 0:={(),λm h1 h2=>do this:m=k - 1:=();!this;{W.k_ _,W.k_ _}}
theorem xD(W:eP lt)(hn:0<n):∀(f:Nat) (p:Array Nat) (k q:Nat),Bd n p->1<=k->k+f<=n->Dn lt p k->FR lt p k q-> Ok n lt (λr=>r.1.Perm p/\k<=r.2.1/\r.2.1<=k+f/\Dn lt r.1 r.2.1/\FR lt r.1 r.2.1 r.2.2) (kas_desc f p k q)| 0,p,k,q,_,_,_,hd,hl=>{.refl _,qb _,qb _,hd,hl}|f+1,p,k,q,b,h0,hf,hd,hl=>do _;{b.2 _,b.2 _,?_};(by cases e:lt (p.getD k 0) (p.getD (k - 1) 0)with|true|false=>?_);¬Ok n lt _ (if true=true then _ else _);[qF rfl];l<|q>0;[qF l];h:k<=p.size:=(do[b.1];());d:=Dh W h hl.2;j:=vL p (k - (q+1)) k;o:g (kas_rev p (k - (q+1)) k) k=g p k:=kM (do this:=getElem?_mirror_all (i:=k - (q+1)) h k;this<-[qB ()];this);t:Dn lt (kas_rev p (k - (q+1)) k) (k+1):=rL W h0 (DA W d hd) (do[o];W.dB (W.le_of_lt e) (d (k - 1)).1);(xD W hn f _ (k+1) 0 (nE hn j b) () () t (uP W ())).mono λr a=>{a.1.trans j,(),(),a.2.2.2};[qB l];(xD W hn f p (k+1) 0 b () () (rL W h0 hd (W.le_of_lt e)) (uP W ())).mono λr a=>{a.1,(),(),a.2.2.2};¬Ok n lt _ (if false=true then _ else _);[qB ⋯];{b.2 _,b.2 _,?_};(by cases c:lt (p.getD (k - 1) 0) (p.getD k 0)with|true|false=>?_);¬Ok n lt _ (if true=true then _ else _);[qF rfl];{.refl _,qb _,jl _ _,hd,hl};¬Ok n lt _ (if false=true then _ else _);[qB ⋯];(xD W hn f p (k+1) (q+1) b () () (rL W h0 hd c) {do this:=hl.1;(),λm h1 h2=>?_}).mono λr a=>{a.1,(),(),a.2.2.2};¬(lt (g p m) (g p k)=false/\lt (g p k) (g p m)=false);s<|m=k;!s;{W.k_ _,W.k_ _};this:=hl.2 m () ();{W.dB c this.1,W.dB this.2 e}
theorem IZ(W:eP lt)(hn:0<n)(b:Bd n p)(h1:1<=k)(c:k<=n)(d:Dn lt p k):Ok n lt (λr=>1<=r.1/\r.1<=n/\r.2.Perm p/\Up lt r.2 r.1) (kas_tail3 k n p):=do@kas_tail3;a:=vL p 0 k;Ok.bind ((Fd W (nE hn a b) (n - k) k h1 (AO (do[b.1];c) d)).mono λm e=>?_);{(),(),a,e.2.2.1}
theorem K'(W:eP lt)(hn:0<n)(b:Bd n p)(h1:1<=k)(j:k+1<=n)(h:Dn lt p (k+1)):Ok n lt (λr=>1<=r.1/\r.1<=n/\r.2.Perm p/\Up lt r.2 r.1) (kas_descPart k n p):=do@kas_descPart;Ok.bind ((xD W hn (n - (k+1)) p (k+1) 0 b () () h (uP W ())).mono λr g=>?_);{d,a1,a2,f,i}:=g;br:=nE hn d b;3;e:r.2.1<=r.1.size:=(do[br.1];());c:=vL r.1 (r.2.1 - (r.2.2+1)) r.2.1;(IZ W hn (nE hn c br) () () (DA W (Dh W e i.2) f)).mono λx a=>{a.1,a.2.1,(a.2.2.1.trans c).trans d,a.2.2.2};(IZ W hn br () () f).mono λx a=>{a.1,a.2.1,a.2.2.1.trans d,a.2.2.2}
theorem Ql(W:eP lt)(h:Up lt p k)(h0:lt (g p 0) (g p (k - 1))=false):Dn lt p k:=λi j b d=>do a:=h 0 i () ();c:=h j (k - 1) () ();W.dB (W.dB c h0) a
theorem N9(W:eP lt)(hn:0<n)(b:Bd n p):Ok n lt (λr=>1<=r.1/\r.1<=n/\r.2.Perm p/\Up lt r.2 r.1) (kas_count n p):=do@kas_count;u:Up lt p 1:=λi j l x=>(do this:i=j:=();!this;W.k_ _);Ok.bind ((Fd W b (n - 1) 1 () u).mono λk w=>?_);{h1,h2,up,A}:=w;e<|(k==n)=true;[qF e];{h1,(),.refl _,up};[qB e];t:k≠n:=λz=>e (do[z];0);d:=A ();a<|k>1;[qF a];{b.2 _,b.2 _,?_};(by cases v:lt (p.getD 0 0) (p.getD (k - 1) 0)with|true|false=>?_);¬Ok n lt _ (if true=true then _ else _);[qF rfl];{h1,do¬k<=n;(),.refl _,up};¬Ok n lt _ (if false=true then _ else _);[qB ⋯];c:k<=p.size:=(do[b.1];());q:=Ql W up v;s:=vL p 0 k;o:=Dh (i:=0) W c λm _ B=>{q m (k - 1) () ()|> λz=>z,up m (k - 1) () ()};y:g (kas_rev p 0 k) k=g p k:=kM (do this:=getElem?_mirror_all (i:=0) c k;this<-[qB ()];this);h:Dn lt (kas_rev p 0 k) (k+1):=rL W h1 (DA W o q) (do[y];W.dB (W.le_of_lt d) (o (k - 1)).1);(K' W hn (nE hn s b) h1 () h).mono λr f=>{f.1,f.2.1,f.2.2.1.trans s,f.2.2.2};[qB a];this:k=1:=();!this;h:Dn lt p 1:=λi j l x=>(do this:i=j:=();!this;W.k_ _);K' W hn b h1 () (rL W h1 h (W.le_of_lt d))
theorem Ey(W:eP lt)(b:Bd n p)(up:Up lt p k):∀(f l r:Nat),l<=r->r<=k->r - l<=f->(∀i,i<l->lt (g p k) (g p i)=false)->(∀i,r<=i->i<k->lt (g p k) (g p i)=true)-> Ok n lt (λm=>m<=k/\(∀i,i<m->lt (g p k) (g p i)=false)/\∀i,m<=i->i<k->lt (g p k) (g p i)=true) (kas_place p k f l r)| 0,l,r,h1,h2,h3,hl,hr=>{(),hl,λi hi a=>hr i () a}|f+1,l,r,h1,h2,h3,hl,hr=>do@kas_place;e<|l>=r;[qF e];{(),hl,λi hi a=>hr i () a};[qB e];{b.2 _,b.2 _,?_};(by cases c:lt (p.getD k 0) (p.getD ((l+r) / 2) 0)with|true|false=>?_);¬Ok n lt _ (if true=true then _ else _);[qF rfl];Ey W b up f l ((l+r) / 2) () () () hl λi hi a=>W.HH c (up _ i hi a);¬Ok n lt _ (if false=true then _ else _);[qB ⋯];Ey W b up f ((l+r) / 2+1) r () h2 () (λi hi=>W.dB (up i ((l+r) / 2) () ()) c) hr
theorem G9(W:eP lt)(hn:0<n):∀(f:Nat) (p:Array Nat) (k:Nat),Bd n p->k+f=n->Up lt p k->Ok n lt (λq=>q.Perm p/\Up lt q n) (kas_bin f p k)| 0,p,k,_,hk,up=>{.refl _,do[<-hk];up}|f+1,p,k,b,hk,up=>do@kas_bin;Ok.bind ((Ey W b up k 0 k (qx _) (qb _) () (λi hi=>absurd hi ()) λi h1 h2=>absurd h2 ()).mono λl v=>?_);{x,u,s}:=v;o:=bubble_perm p k (k - l);t:k<p.size:=(do[b.1];());at':∀i,g (bubble p k (k - l)) i=if i=l then g p k else if l<i/\i<=k then g p (i - 1) else g p i:=λi=>(do e:=getElem?_bubble t (k - l) () i;e<-[show k - (k - l)=l from ()];h1<|i=l;(by rw[qF h1]at e ⊢);kM e;(by rw[qB h1]at e ⊢);h2<|l<i/\i<=k;(by rw[qF h2]at e ⊢);kM e;(by rw[qB h2]at e ⊢);kM e);c:Up lt (bubble p k (k - l)) (k+1):=(do(i,j,w,y);[at' i,at' j];h<|i=l;[qF h];a<|j=l;[qF a];W.k_ _;[qB a,qF {(),()}];W.le_of_lt (s (j - 1) () ());[qB h];d<|l<i/\i<=k;[qF d,qB (),qF {(),()}];up _ _ () ();[qB d];a<|j=l;[qF a];u i ();[qB a];r<|l<j/\j<=k;[qF r];up _ _ () ();[qB r];up _ _ () ());(G9 W hn f _ (k+1) (nE hn o b) () c).mono λq m=>{m.1.trans o,m.2}
theorem xk(W:eP lt)(hn:0<n):Ok n lt (λq=>q.Perm (List.toArray (List.range n))/\Up lt q n) (kas_sort n):=do@kas_sort;b:Bd n (List.toArray (List.range n)):=(do _;{do 0,λi=>?_};@g;[jm];h<|i<n;#[h];#[h,hn]);Ok.bind ((N9 W hn b).mono λr d=>?_);{h1,h2,a,up}:=d;3;(by rename_i f);e:max r.1 1=r.1:=();[e];(G9 W hn _ _ _ (nE hn a b) () up).mono λq c=>{c.1.trans a,c.2};e:r.1=n:=();{a,do[<-e];up}
end
end Srt
namespace L2
open PySem PySem.Spec PyProof.Rows
mutual
inductive DT(H:Hp):V->Tn->Prop
 |aS:DT H .aS .none
 |bl (b:Bool):DT H (.bl b) (.bool b)
 |int (i:Int):DT H (.int i) (.int i)
 |str (z:Tp):DT H (.str z) (.str z)
 |tup {p:To} {xs:List V} {ds:List Tn}:H p=! (.tup xs)->dE H xs ds->DT H (.ref p) (.tuple ds)
inductive dE(H:Hp):List V->List Tn->Prop
 |nil:dE H [] []
 |cons {x:V} {xs:List V} {d:Tn} {ds:List Tn}:DT H x d->dE H xs ds->dE H (x::xs) (d::ds)
end
theorem DT.same(e:ag H H')(r:DT H x d):DT H' x d:=DT.rec (motive_1:=λx d _=>DT H' x d) (motive_2:=λx d _=>dE H' x d) .aS .bl .int .str (λh _ t=>.tup (e _ _ h) t) .nil (λ_ _ h t=>.cons h t) r
theorem dE.same(e:ag H H')(r:dE H x d):dE H' x d:=dE.rec (motive_1:=λx d _=>DT H' x d) (motive_2:=λx d _=>dE H' x d) .aS .bl .int .str (λh _ t=>.tup (e _ _ h) t) .nil (λ_ _ h t=>.cons h t) r
theorem DT.dv(r:DT H x d):DV H x d:=DT.rec (motive_1:=λx d _=>DV H x d) (motive_2:=λx d _=>dD H x d) .aS .bl .int .str (λh _ t=>.tup (aQ.of h) t) .nil (λ_ _ h t=>.cons h t) r
theorem dE.dv(r:dE H x d):dD H x d:=dE.rec (motive_1:=λx d _=>DV H x d) (motive_2:=λx d _=>dD H x d) .aS .bl .int .str (λh _ t=>.tup (aQ.of h) t) .nil (λ_ _ h t=>.cons h t) r
def IM{H:Hp}{a b:To}{xs:List V}{o:HO}(f:H a=! (.tup xs))(c:H b=!o)(d:∀ys,o≠.tup ys):a≠b:=λe=>do !e;c<-[f];d xs (qJ c).symm
mutual
def fF:Tn->Bool
 |.none=>true
 |.bool _=>false
 |.int _=>true
 |.str _=>true
 |.list xs=>lV xs
 |.tuple xs=>lV xs
 |.dict _=>false
def lV:List Tn->Bool
 |[]=>true
 |x::xs=>fF x&&lV xs
end
mutual
theorem mJ:∀(a b:Tn),fF a=true->fF b=true->(PyData.eqv a b=true↔a=b)
 |.list xs,b,ha,hb=>by
  cases b with
  |list ys =>
   have:=Bf xs ys (by simpa[fF] using ha) (by simpa[fF] using hb)
   simp only[PyData.eqv,this,PyData.list.injEq]
  |_=>simp[PyData.eqv]
 |.tuple xs,b,ha,hb=>by
  cases b with
  |tuple ys =>
   have:=Bf xs ys (by simpa[fF] using ha) (by simpa[fF] using hb)
   simp only[PyData.eqv,this,PyData.tuple.injEq]
  |_=>simp[PyData.eqv]
 |.dict _,_,ha,_=>by simp[fF]at ha
 |.bool _,_,ha,_=>by simp[fF]at ha
 |.none,b,_,hb=>by cases b <;> simp_all [PyData.eqv,fF]
 |.int i,b,_,hb=>by cases b <;> simp_all [PyData.eqv,fF]
 |.str i,b,_,hb=>by cases b <;> simp_all [PyData.eqv,fF]
theorem Bf:∀(xs ys:List Tn),lV xs=true->lV ys=true->(PyData.eqvAll xs ys=true↔xs=ys)
 |[],ys,_,_=>by cases ys <;> simp[PyData.eqvAll]
 |x::xs,ys,ha,hb=>by
  cases ys with
  |nil=>simp[PyData.eqvAll]
  |cons y ys =>
   rw[lV,zn]at ha hb;have h1:=mJ x y ha.1 hb.1;have h2:=Bf xs ys ha.2 hb.2
   simp only[PyData.eqvAll,Bool.and_eq_true,h1,h2,List.cons.injEq]
end
theorem mU:∀{xs:List Tn},(∀x∈xs,fF x=true)->lV xs=true|[],_=>rfl|x::xs,h=>do[lV,h x qm,mU λy a=>h y (qz _ a)];2
theorem fO:∀{xs:List Tn},(∀x∈xs,x.canLay0=true)->PyData.canLayAll0 xs=true|[],_=>rfl|x::xs,h=>do¬(x.canLay0&&PyData.canLayAll0 xs)=true;[h x qm,fO λy a=>h y (qz _ a)];2
def CF{α:Type}{l:List α}{x:α}(h:l.Nodup)(f:x∉l):(l++[x]).Nodup := yk.mpr {h,zx.mpr {λz=>(List.not_mem_nil z).elim,v9},λa c b d e=>f (do e<-[qt.mp d];[<-e];c)}
mutual
def sk:Tn->Tn->Bool
 |.none,.none=>true
 |.bool _,.bool _=>true
 |.int _,.int _=>true
 |.str _,.str _=>true
 |.tuple xs,.tuple ys=>eQ xs ys
 |_,_=>false
def eQ:List Tn->List Tn->Bool
 |[],_=>true
 |_::_,[]=>true
 |x::xs,y::ys=>sk x y&&eQ xs ys
end
mutual
def bK:Tn->Tn->Bool
 |.bool a,.bool b=>not a&&b
 |.int i,.int j=>decide (i<j)
 |.str x,.str y=>decide (x.cps.toList<y.cps.toList)
 |.tuple xs,.tuple ys=>bF xs ys
 |_,_=>false
def bF:List Tn->List Tn->Bool
 |[],[]=>false
 |[],_::_=>true
 |_::_,[]=>false
 |x::xs,y::ys=>if PyData.eqv x y=true then bF xs ys else bK x y
end
mutual
theorem cH:∀(a b:Tn),sk a b=true->(PyData.eqv a b=true↔a=b)
 |.tuple xs,b,h=>by
  cases b with
  |tuple ys=>simp only[PyData.eqv,PyData.tuple.injEq];exact Jq xs ys (by simpa[sk] using h)
  |_=>simp[sk]at h
 |.none,b,h=>by cases b <;> simp_all [sk,PyData.eqv]
 |.bool _,b,h=>by cases b <;> simp_all [sk,PyData.eqv]
 |.int _,b,h=>by cases b <;> simp_all [sk,PyData.eqv]
 |.str _,b,h=>by cases b <;> simp_all [sk,PyData.eqv]
 |.list _,b,h=>by cases b <;> simp[sk]at h
 |.dict _,b,h=>by cases b <;> simp[sk]at h
theorem Jq:∀(xs ys:List Tn),eQ xs ys=true->(PyData.eqvAll xs ys=true↔xs=ys)
 |[],ys,_=>by cases ys <;> simp[PyData.eqvAll]
 |x::xs,[],_=>by simp[PyData.eqvAll]
 |x::xs,y::ys,h=>by
  rw[eQ,zn]at h
  simp only[PyData.eqvAll,Bool.and_eq_true,cH x y h.1,Jq xs ys h.2,List.cons.injEq]
end
def Nf{x y:Tp}(h:x.cps.toList=y.cps.toList):x=y:=do _;{a}:=x;{b}:=y;congrArg Str.mk (Array.ext' h)
mutual
theorem jU:∀a:Tn,bK a a=false
 |.tuple xs=>by rw[bK];exact Kj xs
 |.none=>rfl
 |.bool b=>by cases b <;> rfl
 |.int i=>by simp[bK]
 |.str x=>by simp[bK,List.lt_irrefl]
 |.list _=>rfl
 |.dict _=>rfl
theorem Kj:∀xs:List Tn,bF xs xs=false
 |[]=>rfl
 |x::xs=>by
  rw[bF,Kj xs,jU x]
  split <;> rfl
end
mutual
theorem D4:∀(a b:Tn),sk a b=true->bK a b=false->bK b a=false->a=b
 |.tuple xs,b,h,h1,h2=>by
  cases b with
  |tuple ys=>exact congrArg PyData.tuple (LO xs ys (by simpa[sk] using h) (by simpa[bK] using h1) (by simpa[bK] using h2))
  |_=>simp[sk]at h
 |.none,b,h,_,_=>by cases b <;> simp_all [sk]
 |.bool a,b,h,h1,h2=>by
  cases b with
  |bool c=>cases a <;> cases c <;> simp_all [bK]
  |_=>simp[sk]at h
 |.int i,b,h,h1,h2=>by
  cases b with
  |int j=>simp only[bK,decide_eq_false_iff_not]at h1 h2;exact congrArg _ ()
  |_=>simp[sk]at h
 |.str x,b,h,h1,h2=>by
  cases b with
  |str y =>
   simp only[bK,decide_eq_false_iff_not]at h1 h2
   exact congrArg _ (Nf (List.le_antisymm (mr.mp h2) (mr.mp h1)))
  |_=>simp[sk]at h
 |.list _,b,h,_,_=>by cases b <;> simp[sk]at h
 |.dict _,b,h,_,_=>by cases b <;> simp[sk]at h
theorem LO:∀(xs ys:List Tn),eQ xs ys=true->bF xs ys=false->bF ys xs=false->xs=ys
 |[],[],_,_,_=>rfl
 |[],_::_,_,h,_=>by simp[bF]at h
 |_::_,[],_,_,h=>by simp[bF]at h
 |x::xs,y::ys,h,h1,h2=>by
  rw[eQ,zn]at h
  by_cases e:x=y
  .subst e
   have ex:PyData.eqv x x=true:=(cH x x h.1).mpr rfl;rw[bF,qF ex]at h1 h2;rw[LO xs ys h.2 h1 h2]
  .have b:¬PyData.eqv x y=true:=λz=>e ((cH x y h.1).mp z)
   have c:sk y x=true:=Ji x y h.1;have a:¬PyData.eqv y x=true:=λz=>e ((cH y x c).mp z).symm;rw[bF,qB b]at h1;rw[bF,qB a]at h2;exact absurd (D4 x y h.1 h1 h2) e
theorem Ji:∀(a b:Tn),sk a b=true->sk b a=true
 |.tuple xs,b,h=>by
  cases b with
  |tuple ys=>rw[sk];exact Iz xs ys (by simpa[sk] using h)
  |_=>simp[sk]at h
 |.none,b,h=>by cases b <;> simp_all [sk]
 |.bool _,b,h=>by cases b <;> simp_all [sk]
 |.int _,b,h=>by cases b <;> simp_all [sk]
 |.str _,b,h=>by cases b <;> simp_all [sk]
 |.list _,b,h=>by cases b <;> simp[sk]at h
 |.dict _,b,h=>by cases b <;> simp[sk]at h
theorem Iz:∀(xs ys:List Tn),eQ xs ys=true->eQ ys xs=true
 |[],[],_=>rfl
 |[],_::_,_=>rfl
 |_::_,[],_=>rfl
 |x::xs,y::ys,h=>by
  rw[eQ,zn]at h ⊢;exact{Ji x y h.1,Iz xs ys h.2}
end
mutual
theorem uV:∀(a b c:Tn),sk a b=true->sk b c=true->sk a c=true->bK a b=true->bK b c=true->bK a c=true
 |.tuple xs,b,c,h1,h2,h3,l1,l2=>by
  cases b with
  |tuple ys =>
   cases c with
   |tuple zs=>rw[bK];exact K5 xs ys zs (by simpa[sk] using h1) (by simpa[sk] using h2) (by simpa[sk] using h3) (by simpa[bK] using l1) (by simpa[bK] using l2)
   |_=>simp[sk]at h3
  |_=>simp[sk]at h1
 |.none,b,c,_,_,_,l1,_=>by cases b <;> simp[bK]at l1
 |.bool a,b,c,h1,h2,h3,l1,l2=>by
  cases b with
  |bool y =>
   cases c with
   |bool z=>cases a <;> cases y <;> cases z <;> simp_all [bK]
   |_=>simp[sk]at h3
  |_=>simp[sk]at h1
 |.int i,b,c,h1,h2,h3,l1,l2=>by
  cases b with
  |int y =>
   cases c with
   |int z=>simp only[bK,decide_eq_true_eq]at *;omega
   |_=>simp[sk]at h3
  |_=>simp[sk]at h1
 |.str i,b,c,h1,h2,h3,l1,l2=>by
  cases b with
  |str y =>
   cases c with
   |str z=>simp only[bK,decide_eq_true_eq]at *;exact List.lt_trans l1 l2
   |_=>simp[sk]at h3
  |_=>simp[sk]at h1
 |.list _,b,c,_,_,_,l1,_=>by cases b <;> simp[bK]at l1
 |.dict _,b,c,_,_,_,l1,_=>by cases b <;> simp[bK]at l1
theorem K5:∀(xs ys zs:List Tn),eQ xs ys=true->eQ ys zs=true->eQ xs zs=true->bF xs ys=true->bF ys zs=true->bF xs zs=true
 |_,_,[],_,_,_,_,l2=>by
  rename_i ys _ _ _ _
  cases ys <;> simp[bF]at l2
 |[],_,_::_,_,_,_,_,_=>rfl
 |x::xs,[],_::_,_,_,_,l1,_=>by simp[bF]at l1
 |x::xs,y::ys,z::zs,h1,h2,h3,l1,l2=>by
  rw[eQ,zn]at h1 h2 h3
  by_cases e:x=y
  .subst e
   have b:PyData.eqv x x=true:=(cH x x h1.1).mpr rfl;rw[bF,qF b]at l1
   by_cases a:x=z
   .subst a
    rw[bF,qF b]at l2 ⊢;exact K5 xs ys zs h1.2 h2.2 h3.2 l1 l2
   .have d:¬PyData.eqv x z=true:=λw=>a ((cH x z h3.1).mp w)
    rw[bF,qB d]at l2 ⊢;exact l2
  .have b:¬PyData.eqv x y=true:=λw=>e ((cH x y h1.1).mp w)
   rw[bF,qB b]at l1
   by_cases a:y=z
   .subst a
    rw[bF,qB b];exact l1
   .have d:¬PyData.eqv y z=true:=λw=>a ((cH y z h2.1).mp w)
    rw[bF,qB d]at l2;have c:=uV x y z h1.1 h2.1 h3.1 l1 l2
    have f:¬PyData.eqv x z=true:=λw=>by
     have:=(cH x z h3.1).mp w;subst this;rw[jU]at c;cases c
    rw[bF,qB f];exact c
end
mutual
theorem Jl:∀(a b c:Tn),sk a b=true->sk b c=true->sk a c=true->bK a c=true->bK a b=true\/bK b c=true
 |.tuple xs,b,c,h1,h2,h3,l=>by
  cases b with
  |tuple ys =>
   cases c with
   |tuple zs=>rw[bK,bK];exact LN xs ys zs (by simpa[sk] using h1) (by simpa[sk] using h2) (by simpa[sk] using h3) (by simpa[bK] using l)
   |_=>simp[sk]at h3
  |_=>simp[sk]at h1
 |.none,b,c,_,_,_,l=>by cases c <;> simp[bK]at l
 |.bool a,b,c,h1,h2,h3,l=>by
  cases b with
  |bool y =>
   cases c with
   |bool z=>cases a <;> cases y <;> cases z <;> simp_all [bK]
   |_=>simp[sk]at h3
  |_=>simp[sk]at h1
 |.int i,b,c,h1,h2,h3,l=>by
  cases b with
  |int y =>
   cases c with
   |int z=>simp only[bK,decide_eq_true_eq]at *;omega
   |_=>simp[sk]at h3
  |_=>simp[sk]at h1
 |.str i,b,c,h1,h2,h3,l=>by
  cases b with
  |str y =>
   cases c with
   |str z =>
    simp only[bK,decide_eq_true_eq]at *
    by_cases d:i.cps.toList<y.cps.toList
    .exact .inl d
    .exact .inr (List.lt_of_le_of_lt (mr.mp d) l)
   |_=>simp[sk]at h3
  |_=>simp[sk]at h1
 |.list _,b,c,_,_,_,l=>by cases c <;> simp[bK]at l
 |.dict _,b,c,_,_,_,l=>by cases c <;> simp[bK]at l
theorem LN:∀(xs ys zs:List Tn),eQ xs ys=true->eQ ys zs=true->eQ xs zs=true->bF xs zs=true->bF xs ys=true\/bF ys zs=true
 |xs,_,[],_,_,_,l=>by cases xs <;> simp[bF]at l
 |[],[],_::_,_,_,_,_=>.inr rfl
 |[],_::_,_::_,_,_,_,_=>.inl rfl
 |x::xs,[],_::_,_,_,_,_=>.inr rfl
 |x::xs,y::ys,z::zs,h1,h2,h3,l=>by
  rw[eQ,zn]at h1 h2 h3
  by_cases e:x=z
  .subst e
   have a:PyData.eqv x x=true:=(cH x x h3.1).mpr rfl;rw[bF,qF a]at l
   by_cases b:x=y
   .subst b
    rw[bF,qF a,bF,qF a];exact LN xs ys zs h1.2 h2.2 h3.2 l
   .have d:¬PyData.eqv x y=true:=λw=>b ((cH x y h1.1).mp w)
    have c:¬PyData.eqv y x=true:=λw=>b ((cH y x h2.1).mp w).symm;rw[bF,qB d,bF,qB c]
    cases f:bK x y with
    |true=>exact .inl rfl
    |false =>
     cases p2:bK y x with
     |true=>exact .inr rfl
     |false=>exact absurd (D4 x y h1.1 f p2) b
  .have a:¬PyData.eqv x z=true:=λw=>e ((cH x z h3.1).mp w)
   rw[bF,qB a]at l;rcases Jl x y z h1.1 h2.1 h3.1 l with p|p
   .left
    have d:¬PyData.eqv x y=true:=λw=>by
     have:=(cH x y h1.1).mp w;subst this;rw[jU]at p;cases p
    rw[bF,qB d];exact p
   .right
    have c:¬PyData.eqv y z=true:=λw=>by
     have:=(cH y z h2.1).mp w;subst this;rw[jU]at p;cases p
    rw[bF,qB c];exact p
end
def d_(A:Around)(s:Tj)(x y:MD)(b:Bool):Prop:=∀(prog:Program) (w:World) (E:KE) (Q:KE),Q (.bool b) s->wpAny 66 A (richCompare .Lt x y) Q E s
open SeqAt in
def N1(l b:To)(us vs:Array MD)(n u:Nat)(v p:Option To)(sl r:Array (Option MD))(e:Nat->Bool)(c:Bool) :
  Meets (Builtin.«tuple.__lt__» {[.ref l,.ref b],[]})
   (λA R s=>s.heap.get? l=some { cls:=.type "tuple",dict:=v,data:=.seq us n,slots:=sl }/\s.heap.get? b=some { cls:=.type "tuple",dict:=p,data:=.seq vs u,slots:=r } ∧
    (∀j (h1:j<us.size) (h2:j<vs.size),EqAt A.in1 s us[j] vs[j] (e j)) ∧
    (∀i (h1:i<us.size) (h2:i<vs.size),(∀j,j<i->e j=true)->e i=false->d_ A.in1 s us[i] vs[i] c) ∧
    ((∀j,j<min us.size vs.size->e j=true)->c=decide (us.size<vs.size))/\R (.ok (.ret (.bool c))) s) :=
 .of_wp λprog w A R s h=>by
  obtain⟨hp,g,d,tk,D⟩:=s;obtain⟨E,G,B,o,f,h⟩:=h;have K:=AutoSeq1.sub_tuple_tuple
  have H:(us.toList.zip vs.toList).length=min us.size vs.size:=by simp
  wp_walk using wpAny_loadPart' E,wpAny_loadPart' G,wpAny_forIn_list _ (λrest b s'=>b.1=none/\s'={hp,g,d,tk,D}/\∃i,rest=(us.toList.zip vs.toList).drop i/\∀j,j<i->e j=true) _
  case turn =>
   rintro⟨y,x⟩ rest b s' ⟨a,rfl,i,hz,hi⟩
   have k:i<(us.toList.zip vs.toList).length:=by
    rcases jn i (us.toList.zip vs.toList).length with h' |h'
    .exact h'
    .rw[bg h']at hz;cases hz
   have h1:i<us.size:=()
   have h2:i<vs.size:=()
   rw[jo k]at hz;injection hz with hyx hrest
   have m:y=us[i]:=by have:=congrArg Prod.fst hyx;simpa using this
   have F:x=vs[i]:=by have:=congrArg Prod.snd hyx;simpa using this
   subst m F;refine qA (B i h1 h2 prog w _ _ ?_)
   cases m:e i with
   |true =>
    wp_walk
    exact{O,O,i+1,hrest,λj t=>by
     by_cases z:j=i
     .rw[z];exact m
     .exact hi j ()}
   |false =>
    have q:=o i h1 h2 hi m;dsimp only;rw[qF (by rfl)];refine qA (wpAny_rule (qA (q prog w _ _ ?_)));exact qA (qE (qE (qE {_,O,h})))
  case fin =>
   rintro⟨I,J⟩ s' ⟨a,rfl,i,hz,hi⟩
   simp only at a
   subst a
   have C:min us.size vs.size<=i:=by
    rcases jn i (us.toList.zip vs.toList).length with h' |h'
    .rw[jo h']at hz;cases hz
    .omega
   have:=f λj t=>hi j ()
   wp_walk
   exact{_,O,by rw[this]at h;simpa[Builtin.Tuple.tupleCompareSizes] using h}
  case h =>
   exact{O,O,0,O,λj t=>absurd t (yg _)}
def d_.tuples{A:Around}{s:Tj}{l b:To}{us vs:Array MD}{e:Nat->Bool}{c:Bool}(C:s.heap.IsTuple l us)(D:s.heap.IsTuple b vs)(y:A.units<cLine)(B:∀j (h1:j<us.size) (h2:j<vs.size),SeqAt.EqAt A.in1 s us[j] vs[j] (e j))(o:∀i (h1:i<us.size) (h2:i<vs.size),(∀j,j<i->e j=true)->e i=false->d_ A.in1 s us[i] vs[i] c)(d:(∀j,j<min us.size vs.size->e j=true)->c=decide (us.size<vs.size)):d_ A s (.ref l) (.ref b) c:=λprog w E Q h=>do _;{{u,z,data,sl},q,r,n,t}:=id C;{{p,g,k,m},a,f,v,hd2}:=id D;(by simp only at r t f hd2;subst r t f hd2);richCompare_meets_room (op:=.Lt) {_,q,O} {_,a,O} F.slot_tuple_lt F.entry_tuple_lt (F.args_tuple_lt_2 _ _) (N1 l b us vs n v z g sl m e c) {q,a,B,o,d,show Value.bool c≠Value.notImplemented/\Q (.bool c) s from{(λx=>nomatch x),h}} y
def d_.ints(i j:Int)(t u:Tok):d_ A s (.int i t) (.int j u) (decide (i<j)):=λprog w E Q h=>PyProof.Rows.lt_int h
def d_.strs(i j:Tp)(t u:Tok):d_ A s (.str i t) (.str j u) (decide (i.cps.toList<j.cps.toList)):=λprog w E Q h=>PyProof.Rows.lt_str h
def d_.bools(i j:Bool):d_ A s (.bool i) (.bool j) (not i&&j):=λprog w E Q h=>do PyProof.Rows.lt_bool ?_;by cases i <;> cases j <;> exact h
open SeqAt in
theorem DF:∀(xs ys:List Tn) (i:Nat),i<xs.length->i<ys.length->(∀j,j<i->pairEq xs ys j=true)->pairEq xs ys i=false->bF xs ys=bK (xs.getD i .none) (ys.getD i .none)
 |x::xs,y::ys,0,_,_,_,h=>by
  have h':PyData.eqv x y=false:=h;rw[bF,qB (by rw[h'];decide)];rfl
 |x::xs,y::ys,i+1,h1,h2,hj,h=>by
  have h':PyData.eqv x y=true:=hj 0 ();rw[bF,qF h'];exact DF xs ys i (by simpa using h1) (by simpa using h2) (λj a=>hj (j+1) ()) h
 |[],_,_,h1,_,_,_=>absurd h1 (yg _)
 |_::_,[],_,_,h2,_,_=>absurd h2 (yg _)
open SeqAt in
theorem DK:∀(xs ys:List Tn),(∀j,j<min xs.length ys.length->pairEq xs ys j=true)->bF xs ys=decide (xs.length<ys.length)
 |[],[],_=>rfl
 |[],_::_,_=>by simp[bF]
 |_::_,[],_=>by simp[bF]
 |x::xs,y::ys,h=>by
  have h':PyData.eqv x y=true:=h 0 (by simp);rw[bF,qF h',DK xs ys λj a=>h (j+1) (by simp only[List.length_cons];omega)]
  simp
theorem LY:∀(xs ys:List Tn) (i:Nat),i<xs.length->i<ys.length->eQ xs ys=true->sk (xs.getD i .none) (ys.getD i .none)=true|x::xs,y::ys,0,_,_,h=>(do h<-[eQ,zn];h.1)|x::xs,y::ys,i+1,h1,h2,h=>(do h<-[eQ,zn];LY xs ys i (do 0<|h1) (do 0<|h2) h.2)|[],_,_,h1,_,_=>absurd h1 (yg _)|_::_,[],_,_,h2,_=>absurd h2 (yg _)
theorem xR:∀(xs:List Tn) (i:Nat),i<xs.length->(xs.getD i .none).depth<=PyData.depthAll xs|x::xs,0,_=>(do¬x.depth<=max x.depth _;())|x::xs,i+1,h=>(do this:=xR xs i (do 0<|h);¬(xs.getD i .none).depth<=max x.depth (PyData.depthAll xs);())|[],_,h=>absurd h (yg _)
theorem fE:∀{vs:List MD} {ds:List Tn} {a:List To} {i:Nat} (hi:i<vs.length),ReadsAll h vs ds a->∃bs,Reads h vs[i] (ds.getD i .none) bs|_,_,_,0,_,.cons r _=>{_,r}|_,_,_,i+1,hi,.cons _ t=>fE (i:=i) (do 0<|hi) t
def pU(h:PyData.canLayAll0 ds=true)(hi:i<ds.length):(ds.getD i .none).canLay0=true := nG (j:=i) h (do[zb,qe hi];2)
open SeqAt in
theorem KW:∀(n:Nat) (k c:Tn) (A:Around) (s:Tj) (a b:MD) (d bs:List To),k.depth<=n->Reads s.heap a k d->Reads s.heap b c bs->k.canLay0=true->c.canLay0=true->sk k c=true->k≠.none->
  A.units+n<cLine->d_ A s a b (bK k c)
 |n,.int i,c,A,s,a,b,d,bs,_,ra,rb,_,_,hk,_,_=>by
  cases c <;> simp[sk]at hk;cases ra;cases rb;exact d_.ints _ _ _ _
 |n,.str i,c,A,s,a,b,d,bs,_,ra,rb,_,_,hk,_,_=>by
  cases c <;> simp[sk]at hk;cases ra;cases rb;exact d_.strs _ _ _ _
 |n,.bool i,c,A,s,a,b,d,bs,_,ra,rb,_,_,hk,_,_=>by
  cases c <;> simp[sk]at hk;cases ra;cases rb;exact d_.bools _ _
 |n,.none,c,A,s,a,b,d,bs,_,_,_,_,_,_,hn,_=>absurd rfl hn
 |n,.list _,c,A,s,a,b,d,bs,_,_,_,_,_,hk,_,_=>by cases c <;> simp[sk]at hk
 |n,.dict _,c,A,s,a,b,d,bs,_,_,_,_,_,hk,_,_=>by cases c <;> simp[sk]at hk
 | 0,.tuple xs,c,A,s,a,b,d,bs,hd,_,_,_,_,_,_,_=>by
  have:PyData.depthAll xs+1<=0:=hd;omega
 |n+1,.tuple xs,c,A,s,a,b,d,bs,hd,ra,rb,ca,cb,hk,_,hu=>by
  cases c with
  |tuple ys =>
   have B:eQ xs ys=true:=by simpa[sk] using hk
   have v:PyData.depthAll xs<=n:=by
    have:PyData.depthAll xs+1<=n+1:=hd;omega
   cases ra with
   |tuple h1 h2 I y =>
    cases rb with
    |tuple F J G t =>
     rename_i l o us m L o' vs N
     have E:=ReadsAll.length _ _ _ y;have C:=ReadsAll.length _ _ _ t;rw[zk]at E C
     have e:bK (.tuple xs) (.tuple ys)=bF xs ys:=by rw[bK]
     rw[e]
     have u:∀j (q:j<us.size) (p:j<vs.size),EqAt A.in1 s us[j] vs[j] (pairEq xs ys j):=λj q p=>by
      obtain⟨H,r⟩:=fE (i:=j) (by rw[zk];exact q) y;obtain⟨p2,x⟩:=fE (i:=j) (by rw[zk];exact p) t;have M:=xR xs j ();have:=eqAt_reads (xs.getD j .none) (ys.getD j .none) A.in1 s _ _ _ _ r x (pU ca ()) (pU cb ()) (by show A.units+1+_<cLine;omega)
      simp only[Array.getElem_toList]at this
      exact this
     refine d_.tuples {_,h1,h2,_,I} {_,F,J,_,G} () u (λi q p w D=>?_) λw=>?_
     .obtain⟨H,r⟩:=fE (i:=i) (by rw[zk];exact q) y
      obtain⟨p2,x⟩:=fE (i:=i) (by rw[zk];exact p) t;rw[DF xs ys i () () w D];have f:=LY xs ys i () () B
      have:=KW n (xs.getD i .none) (ys.getD i .none) A.in1 s _ _ _ _ (qf (xR xs i ()) v) r x (pU ca ()) (pU cb ()) f (λz=>by
       have g:PyData.eqv (xs.getD i .none) (ys.getD i .none)=false:=D;rw[z]at f g
       cases K:ys.getD i .none <;> rw[K]at f g <;> simp[sk,PyData.eqv]at f g) (by show A.units+1+_<cLine;omega)
      simpa using this
     .rw[DK xs ys λj h=>w j (),E,C]
  |_=>simp[sk]at hk
end L2
namespace Tim
open PySem PySem.W PyProof.Rows Srt
abbrev S(κ:SortKind)(it:Array Keyed)(p:Array Nat)(pd:Array (Nat×Nat×Nat))(m:Nat):SortSt:=SortSt.mk' κ (p.map (kas_item it)) pd m none
def Gu(prog:Program)(w:World)(A:Around)(s:Tj)(κ:SortKind)(it:Array Keyed)(n:Nat)(lt:Nat->Nat->Bool):Prop := ∀i j (C:Bool->Tj->Prop),i<n->j<n->C (lt i j) s->kas_cmp prog w A κ it i j C s
def In(n:Nat)(p:Array Nat):Prop:=∀i,i<p.size->g p i<n
section
variable {prog:Program}{w:World}{A:Around}{E:KE}{s:Tj}{κ:SortKind}{it:Array Keyed}{n:Nat}{lt:Nat->Nat->Bool}{p:Array Nat}{pd:Array (Nat×Nat×Nat)}{mg:Nat}
def Kf(g:Gu prog w A s κ it n lt){i j:Nat}{st:SortSt}{Q:Option Bool->SortSt->Prop}(a:kindOf st=κ)(hi:i<n)(d:j<n)(h:Q (!(lt i j)) st):wpS 66 A E s (lt' (kas_item it i) (kas_item it j)) Q st:=do[lt'_eq];wpS_bind (wpS_get ?_);[a];wpS_bind (wpS_lift (wpAny_attempt (qM (g i j (λb s'=>s'=s/\b=lt i j) hi d {O,O}) (λc s' f=>?_) λ_ _ e=>e.elim)));{rfl,rfl}:=f;{O,wpS_pure h}
def AW(hi:i<p.size):(p.map (kas_item it))[i]?=!(kas_item it (g p i)):=do e:g p i=p[i]:=(do@g;#[Array.getD,hi]);[e];#[hi]
def KL{i:Nat}{st:SortSt}{Q:Keyed->SortSt->Prop}(hi:i<p.size)(h:Q (kas_item it (g p i)) st):wpS 66 A E s (elem' (p.map (kas_item it)) i) Q st:=do[elem'_eq,AW hi];wpS_pure h
def Oa(c:Gu prog w A s κ it n lt)(b:In n p){i j:Nat}{Q:Option Bool->SortSt->Prop}(hi:i<p.size)(a:j<p.size)(h:Q (!(lt (g p i) (g p j))) (S κ it p pd mg)):wpS 66 A E s (ltAt' i j) Q (S κ it p pd mg):=do[ltAt'_eq];wpS_bind (wpS_get ?_);wpS_bind (KL hi (wpS_bind (KL a (Kf c rfl (b i hi) (b j a) h))))
end
def yU(lt:Nat->Nat->Bool)(lo:Nat)(p:Array Nat)(k:Nat):Prop:=∀i j,lo<=i->i<=j->j<k->lt (g p j) (g p i)=false
section
variable {lt:Nat->Nat->Bool}{lo:Nat}{p:Array Nat}
def up1(W:eP lt):yU lt lo p (lo+1):=λi j h1 h2 a=>do this:i=j:=();!this;W.k_ _
def Nn(W:eP lt)(h0:lo+1<=k)(h:yU lt lo p k)(b:lt (g p k) (g p (k - 1))=false):yU lt lo p (k+1):=do(i,j,h1,a,d);e<|j=k;!e;c<|i=j;!c;W.k_ _;W.dB (h i (j - 1) h1 () ()) b;h i j h1 a ()
end
section
variable {prog:Program}{w:World}{A:Around}{E:KE}{s:Tj}{κ:SortKind}{it:Array Keyed}{n:Nat}{lt:Nat->Nat->Bool}{p:Array Nat}{pd:Array (Nat×Nat×Nat)}{mg:Nat}{lo nrem:Nat}
def RB(W:eP lt)(u:Gu prog w A s κ it n lt)(t:In n p){a:Nat}{Q:AscSt->SortSt->Prop}{f:Nat->AscSt->StateT SortSt Sem (ForInStep AscSt)}(m:∀x (k:Nat),f x (none,k)=(do{let r <-ltAt' (lo+k) (lo+k - 1);match r with|some b=>if b=true then pure (ForInStep.done (none,k)) else pure (ForInStep.yield (none,k+1))|_=>pure (ForInStep.done (!none,k))}))(v:1<=a)(l:a<=nrem)(hz:lo+nrem<=p.size)(o:yU lt lo p (lo+a))(h:∀k,a<=k->k<=nrem->yU lt lo p (lo+k)->(k<nrem->lt (g p (lo+k)) (g p (lo+k - 1))=true)->Q (none,k) (S κ it p pd mg)) : wpS 66 A E s (forIn [a:nrem] ((none,a):AscSt) f) Q (S κ it p pd mg):=do wpS_forRange (I:=λx c i=>i=S κ it p pd mg/\c=(none,x)/\yU lt lo p (lo+x)) ?step ?fin {O,O,o};by(case fin =>(rintro c i ⟨rfl,rfl,d⟩;rw[show max a nrem=nrem from ()]at d ⊢;exact h nrem l (qb _) d λz=>absurd z (wk _)));case step =>(rintro x c i j q ⟨rfl,rfl,d⟩;rw[m];refine wpS_bind (Oa u t () () ?_);cases e:lt (g p (lo+x)) (g p (lo+x - 1))with|true|false=>?_;dsimp only;rw[qF rfl];exact wpS_pure (h x j () d λ_=>e);dsimp only;rw[qB ⋯];exact wpS_pure {O,O,Nn (k:=lo+x) W () d e})
def pF{α:Type}{c:Prop}[Decidable c]{a b:StateT SortSt Sem α}{Q:α->SortSt->Prop}{st:SortSt}(h1:c->wpS 66 A E s a Q st)(h2:¬c->wpS 66 A E s b Q st):wpS 66 A E s (if c then a else b) Q st:=do h<|c;[qF h];h1 h;[qB h];h2 h
end
section
variable {prog:Program}{w:World}{A:Around}{E:KE}{s:Tj}{κ:SortKind}{it:Array Keyed}{n:Nat}{lt:Nat->Nat->Bool}{p:Array Nat}{pd:Array (Nat×Nat×Nat)}{mg:Nat}
theorem Ij:∀(f n r:Nat),r<=1->minRun' f n r<=n+r| 0,n,r,_=>qb _|f+1,n,r,hr=>do[minRun'_succ];3;qb _;this:=Ij f (n / 2) (max r (n % 2)) ();()
def OW(W:eP lt)(f:Gu prog w A s κ it n lt)(d:In n p){nrem:Nat}{Q:Option Nat->SortSt->Prop}(h1:1<=nrem)(hz:0+nrem<=p.size)(c:yU lt 0 p (0+nrem))(h:Q (!nrem) (S κ it p pd mg)):wpS 66 A E s (countRun' 0 nrem) Q (S κ it p pd mg):=do[countRun'_eq];wpS_bind (RB W f d (λx k=>rfl) (qb 1) h1 hz (up1 W) λk g i up a=>?_);(by dsimp only);b:k=nrem:=(do e<|k=nrem;e;this:=a ();this<-[c (0+k - 1) (0+k) () () ()];-this);[qF (do 0<|b),b];wpS_pure h
def uM(W:eP lt)(r:Gu prog w A s κ it n lt)(q:In n p)(hz:2<=p.size)(k:yU lt 0 p (0+p.size)){Q:Unit->SortSt->Prop}(h:∀pd m,Q Unit.unit (S κ it p pd m)) : wpS 66 A E s sortRuns' Q (S κ it p #[] 7):=do[sortRuns'_eq];wpS_bind (wpS_get ?_);l:(arrOf (S κ it p #[] 7)).size=p.size:=Array.size_map ..;(by dsimp only);[l];wpS_bind (wpS_mono (wpS_forRange (I:=λx c a=>(x=0/\c=(none,0)/\a=S κ it p #[] 7)\/(c=(none,p.size)/\a=S κ it p #[(0,p.size,0)] 7)) (Q:=λc a=>c=(none,p.size)/\a=S κ it p #[(0,p.size,0)] 7) ?s0 ?f0 (.inl {O,O,O})) ?p0);by(case f0 =>(rintro c a (⟨j,_,_⟩|hh);omega;exact hh));(case s0 =>(rintro x c a _ j (⟨rfl,rfl,rfl⟩|⟨rfl,rfl⟩);dsimp only;refine pF (λb=>absurd b ()) λe=>?_;refine wpS_bind (OW W r q () () (do[jp];k) ?_);dsimp only;refine pF (λd=>absurd d (do this:=Ij p.size p.size 0 ⋯;())) λi=>?_;refine wpS_bind (wpS_get ?_);split;rename_i g;have g:(none:Option (Nat×Nat×Nat))=_:=g;cases g;refine wpS_bind (wpS_modify (wpS_pure (.inr {?_,?_})));rw[jp,je];rw[jp];rfl;dsimp only;refine pF (λb=>wpS_pure {O,O}) λe=>absurd e ()));case p0 =>(rintro c a ⟨rfl,rfl⟩;dsimp only;refine wpS_bind (wpS_mono (wpS_forRange (I:=λx c a=>c=(none,Unit.unit)/\a=S κ it p #[(0,p.size,0)] 7) (Q:=λc a=>c=(none,Unit.unit)/\a=S κ it p #[(0,p.size,0)] 7) ?s1 (λc a z=>z) {O,O}) ?p1);(case s1 =>(rintro y c a _ t ⟨rfl,rfl⟩;refine wpS_bind (wpS_get ?_);refine pF (λo=>wpS_pure {O,O}) λf=>absurd (show(1:Nat)<=1 from qb 1) f));case p1 =>(rintro c a ⟨rfl,rfl⟩;exact wpS_pure (h _ _)))
end
end Tim
namespace L2
open PySem PySem.Spec PySem.W PyProof.Rows
section
variable {prog:Program}{w:World}{A:Around}{E:KE}{s:Tj}
def eO(h h':Heap):Prop:=∀b o,h.get? b=!o->h'.get? b=!o
def eO.trans(a:eO h h')(b:eO h' d):eO h d:=λc o e=>b c o (a c o e)
theorem eO.push(h:Heap)(o:Obj):eO h (h.push o):=λ_ _ e=>qI _ e
def eO.upd{h h':Heap}{a:To}{f:Obj->Obj}(x:eO h h')(c:h.objs.size<=a):eO h (h'.update a f):=λb o e=>do[Heap.get?_update_ne _ _ _ _ (qi (zf (qG e) c))];x b o e
def Answers(prog:Program)(w:World)(A:Around)(s:Tj)(ks:List MD)(lt:Nat->Nat->Bool):Prop := ∃κ,(∀(Q:SortKind->Tj->Prop),Q κ s->wpAny 66 A (keyKind' ks.toArray) Q (λ_ _=>False) s)/\∀i j C,i<ks.length->j<ks.length->C (lt i j) s->kas_ask prog w A κ ks i j C s
def Arr(n:Nat)(lt:Nat->Nat->Bool)(p:Array Nat):Prop:=p.Perm (List.toArray (List.range n))/\Srt.Up lt p n
def Lg{lt:Nat->Nat->Bool}(W:Srt.eP lt)(h:n<2):Arr n lt (List.toArray (List.range n)):=do _;{.refl _,λi j a b=>?_};this:i=j:=();!this;W.k_ _
def MU(lt:Nat->Nat->Bool)(n:Nat):Prop:=n<64\/∀i j,i<=j->j<n->lt j i=false
def Mq{vs ks:List MD}{lt:Nat->Nat->Bool}(W:Srt.eP lt)(f:ks.length=vs.length)(a:MU lt vs.length)(h2:¬vs.length<2){κ:SortKind}(t:∀i j C,i<ks.length->j<ks.length->C (lt i j) s->kas_ask prog w A κ ks i j C s){R:SortSt->Tj->Prop}(u:∀st p,Arr vs.length lt p->(arrOf st).map (·.2)=List.toArray (p.toList.map λi=>vs.getD i Value.none)->failedOf st=none->R st s) : wpAny 66 A ((sortRuns').run (SortSt.mk' κ (ks.toArray.zip vs.toArray) #[] 7 none)) (λr s'=>R r.2 s') E s:=do a||up:=a;kat_run (G:=λp s'=>s'=s/\Arr vs.length lt p) f () a (λp st s' _ a2 z v=>?_) ?_;{rfl,x}:=v;u st p x (kat_snds f a2) z;(Srt.xk W ()).wp (λi j C h1 y c=>t i j C () () c) λp hp=>{O,hp};hz:(List.toArray (List.range vs.length)).size=vs.length:=(do 0);l:Tim.Gu prog w A s κ (ks.toArray.zip vs.toArray) vs.length lt:=λi j C h1 h2 c=>(do this:=t i j C () () c;this<-[kat_ask_eq f];this);d:∀i,i<vs.length->Srt.g (List.toArray (List.range vs.length)) i=i:=λi hi=>(do@Srt.g;[jm];#[hi]);n:Tim.In vs.length (List.toArray (List.range vs.length)):=λi hi=>(do hi<-[hz];[d i hi];hi);o:=Tim.uM (E:=E) (Q:=λ_ st=>R st s) W l n (do[hz];()) (λi j _ b k=>do k<-[hz];[d i (),d j ()];up i j b ()) λpd m=>?_;q:SortSt.mk' κ (ks.toArray.zip vs.toArray) #[] 7 none=Tim.S κ (ks.toArray.zip vs.toArray) (List.toArray (List.range vs.length)) #[] 7:=(do e:=kas_range (ks.toArray.zip vs.toArray);e<-[show(ks.toArray.zip vs.toArray).size=vs.length by simp[f]];[Tim.S,e]);[q];qM o (λr s' h=>?_) λ_ _ e=>e;[h.1];h.2;u _ _ {.refl _,λi j b k=>do[d i (),d j k];up i j b k} (kat_snds f rfl) rfl
def QX{lt:Nat->Nat->Bool}(W:Srt.eP lt)(m:s.heap.get? a=!(seqObj "list" vs.toArray n))(B:vs.length<=2000)(q:MU lt vs.length)(d:h0.objs.size<=a)(y:eO h0 s.heap)(f:∀h',eO h0 h'->2<=vs.length->Answers prog w A {s with heap:=h'} vs lt)(h:∀h' p c,eO h0 h'->Arr vs.length lt p->h'.get? a=!(seqObj "list" (List.toArray (p.toList.map λi=>vs.getD i Value.none)) c)->P (.done (.ret .none)) {s with heap:=h'}) : wpAny 66 A (Builtin.«list.sort» {[.ref a],[]}) P E s:=do _;{r,v}:∃r,(s.heap.update a (Obj.mapSeq λ_=>#[])).get? a=!(seqObj "list" #[] r):={_,get?_update_seq m (λ_=>#[])};t:eO h0 (((s.heap.update a (Obj.mapSeq λ_=>#[])).push (seqObj "tuple" vs.toArray 0)).push (seqObj "list" #[] 0)):=(((y.upd d).trans (.push _ _)).trans (.push _ _));e:(((s.heap.update a (Obj.mapSeq λ_=>#[])).push (seqObj "tuple" vs.toArray 0)).push (seqObj "list" #[] 0)).get? a=!(seqObj "list" #[] r):=qI _ (qI _ v);u:vs.length<=sizeLine:=(do[sizeLine_eq];());last:∀p,Arr vs.length lt p->∀(out:Array MD),out=List.toArray (p.toList.map λi=>vs.getD i Value.none)->out.size<=sizeLine+1/\P (.done (.ret .none)) {s with heap:=(((s.heap.update a (Obj.mapSeq λ_=>#[])).push (seqObj "tuple" vs.toArray 0)).push (seqObj "list" #[] 0)).update a (Obj.mapSeq λ_=>out)}:=λp j out g=>(do _;{o,x}:∃o,((((s.heap.update a (Obj.mapSeq λ_=>#[])).push (seqObj "tuple" vs.toArray 0)).push (seqObj "list" #[] 0)).update a (Obj.mapSeq λ_=>out)).get? a=!(seqObj "list" out o):={_,get?_update_seq e (λ_=>out)};{?_,h _ p o (t.upd d) j (do[<-g];x)};[g,ze,qh,zk,j.1.size_eq];0;());[list_sort_plain];qA (listItems_at m rfl (qA (listUpdate_at m rfl (qA (seqEpoch_at v rfl (qA (wpAny_newTuple (qA (wpAny_newList (qK ?_) (qx _))) u)))) (do[ze];u) (qx _))));¬wpAny 66 A _ P E {s with heap:=((s.heap.update a (Obj.mapSeq λ_=>#[])).push (seqObj "tuple" vs.toArray 0)).push (seqObj "list" #[] 0)};(by dsimp only);h2<|vs.toArray.size<2;[qF h2,qF h2];b:vs.length<2:=(do 0<|h2);l:=last _ (Lg W b) (vs.toArray) (do(by apply gs.mp);#[_,List.toList_toArray];(by apply yb);(i);hi<|i<vs.length;#[hi];#[hi]);qA (qE ?_);[StateT.run_pure];qA (qE ?_);(by dsimp only);D:(arrOf (SortSt.mk' general' (vs.toArray.zip vs.toArray) #[] 7 none)).map (·.2)=vs.toArray:=(do(by apply gs.mp);¬((vs.toArray.zip vs.toArray).map (·.2)).toList=vs;[Array.toList_map,Array.toList_zip];List.map_snd_zip (qb _));[D];qA (seqEpoch_at e rfl (qA (listUpdate_at e rfl ?_ (qx _) l.1)));#[_,bne_self_eq_false,Bool.false_eq_true,if_false];qE l.2;[qB h2,qB h2];b:¬vs.length<2:=(do 0<|h2);{κ,C,F}:=f _ t ();qA (qM (C (λk s'=>k=κ/\s'={s with heap:=((s.heap.update a (Obj.mapSeq λ_=>#[])).push (seqObj "tuple" vs.toArray 0)).push (seqObj "list" #[] 0)}) {O,O}) ?_ λ_ _ z=>z.elim);(k,s',{rfl,rfl});qA (qM (Mq (E:=E) (R:=λst s'=>s'={s with heap:=((s.heap.update a (Obj.mapSeq λ_=>#[])).push (seqObj "tuple" vs.toArray 0)).push (seqObj "list" #[] 0)}/\∃p,Arr vs.length lt p/\(arrOf st).map (·.2)=List.toArray (p.toList.map λi=>vs.getD i Value.none)/\failedOf st=none) W rfl q b F λst p a1 a2 H=>{O,p,a1,a2,H}) ?_ λ_ _ z=>z);({{},st},s',{rfl,p,j,g,G});l:=last p j _ g;(by dsimp only);qA (seqEpoch_at e rfl (qA (listUpdate_at e rfl ?_ (qx _) l.1)));[G];#[_,bne_self_eq_false,Bool.false_eq_true,if_false];qE l.2
end
def kD(h:n<=2000):n<sizeLine:=jx h ⋯
def wC:Nat->Tn->Prop| 0,.int _=>True| 1,.str _=>True| 2,.tuple (.int _::_)=>True| 3,.tuple (.str _::_)=>True| 4,.tuple (.tuple _::_)=>True|_,_=>False
def O_(t:Nat)(d:Tn):¬wC (t+5) d:=do(h);by cases d with|tuple xs=>(cases xs with|nil|cons x xs=>?_;exact h;cases x <;> exact h)|_=>exact h
section
variable {prog:Program}{w:World}{A:Around}{s:Tj}
def Pj(h:d_ A s x y c)(q:Q c s):wpAny 66 A (oneLt' false x y) Q E s := kat_one x y (h prog w E _ q)
def AK:∀(us vs:List MD) (xs ys:List Tn) (t bs:List To) (i:Nat),ReadsAll s.heap us xs t->ReadsAll s.heap vs ys bs->PyData.canLayAll0 xs=true->PyData.canLayAll0 ys=true->eQ xs ys=true-> PyData.depthAll xs<=60->A.units+60<cLine->(i=0->b=true->(∃p q r h,xs=.int p::r/\ys=.int q::h)\/∃p q r h,xs=.str p::r/\ys=.str q::h)->a=decide (us.length<vs.length)->Q (bF xs ys) s->KatLex prog w A b a Q (us.zip vs) i s:=do(us);(by induction us with|nil|cons u us J=>?_);(vs,xs,ys,t,bs,i,k,n,_,_,_,_,_,_,o,q);-k;D:=SeqAt.ReadsAll.length _ _ _ n;¬Q a s;[o];(by cases ys with|nil|cons y ys=>?_;rw[yz]at D ⊢);[D];q;[D];q;(vs,xs,ys,t,bs,i,k,n,L,cb,l,I,F,h0,o,q);(by cases vs with|nil|cons v vs=>?_);-n;-k;¬Q a s;[o];q;(by cases k with|@cons _ _ x xs _ _ j H=>?_;cases n with|@cons _ _ y ys _ _ m K=>?_);c:(x.canLay0&&PyData.canLayAll0 xs)=true:=L;d:(y.canLay0&&PyData.canLayAll0 ys)=true:=cb;(by rw[zn]at c d);l<-[eQ,zn];g:x.depth<=60/\PyData.depthAll xs<=60:=(do this:max x.depth (PyData.depthAll xs)<=60:=I;());B:=SeqAt.eqAt_reads x y A s u v _ _ j m c.1 d.1 ();kat_cons (B prog w _ _ ?_);(by cases e:PyData.eqv x y with|true|false=>?_);q<-[bF,qF e];kat_yes (J vs xs ys _ _ (i+1) H K c.2 d.2 l.2 g.2 F (λz=>()) ?_ q);[o];0;q<-[bF,qB (by rw[e];decide)];kat_no ?_;f<|(b&&i==0)=true;[f];f<-[zn];{p,G,r,h,C,E}||{p,G,r,h,C,E}:=h0 (do 0<|f.2) f.1;-C;-E;-j;-m;oneLt_int q;-C;-E;-j;-m;oneLt_str q;f<-[Bool.not_eq_true];[f];Pj (KW 60 x y A s u v _ _ g.1 j m c.1 d.1 l.1 (λz=>do !z;this:=l.1;by cases y <;> simp[sk,PyData.eqv]at this e) F) q
theorem GO:∀{vs:List MD} {ds:List Tn} {k:List To},ReadsAll s.heap vs ds k->(∀d∈ds,∃f r,d=.tuple (f::r))->∃fs,KatTups s.heap vs fs/\fs.length=vs.length/\∀v∈fs,∃f r bs,PyData.tuple (f::r)∈ds/\Reads s.heap v f bs|[],_,_,.nil,_=>{[],trivial,O,λ_ z=>nomatch z}|v::vs,_,_,.cons (d:=d) (ds:=ds) r t,h=>do _;{fs,i,l,j}:=GO t λx p=>h x (qz _ p);{f,w,e}:=h d qm;!e;(by cases r with|tuple h1 h2 B b=>?_;rename_i a o us n;cases e:us.toList with|nil|cons u C=>?_);b<-[e];-b;b<-[e];(by cases b with|cons A D=>?_);{u::fs,KatTups.cons h1 h2 B (do[<-yr,e];2) i,do[zd,zd,l],λv c=>?_};rfl||c:=qy.mp c;⟨f,w,_,qm,A⟩;{y,g,bs,m,q}:=j v c;{y,g,bs,qz _ m,q}
def c8(ds:List Tn)(i:Nat):Tn:=ds.getD i (ds.headD .none)
def LB(h:ds≠[])(i:Nat):c8 ds i∈ds:=do@c8;[zb];(by cases e:ds[i]? with|some x|none=>?_);qk e;(by cases ds with|nil|cons a b=>?_);absurd rfl h;qm
def oJ(ds:List Tn)(i j:Nat):Bool:=bK (c8 ds i) (c8 ds j)
def G3(h:∀a∈ds,∀b∈ds,sk a b=true):Srt.eP (oJ ds):=do e<|ds=[];!e;{λ_=>rfl,λ_ _ _ z=>(do-z),λ_ _ _ z=>(do-z)};m:=LB e;{λ_=>jU _,λa b c=>uV _ _ _ (h _ (m a) _ (m b)) (h _ (m b) _ (m c)) (h _ (m a) _ (m c)),λa b c=>Jl _ _ _ (h _ (m a) _ (m b)) (h _ (m b) _ (m c)) (h _ (m a) _ (m c))}
structure KeysAre(ds:List Tn)(t:Nat):Prop where
 lay:PyData.canLayAll0 ds=true
 kind:∀d∈ds,wC t d
 one:∀a∈ds,∀b∈ds,sk a b=true
 deep:∀d∈ds,d.depth<=60
def Bq(r:Reads h v (.int i) a):∃t,v=.int i t:=do-r;{_,O}
def Et(r:Reads h v (.str i) a):∃t,v=.str i t:=do-r;{_,O}
def Jm(r:Reads h v (.tuple xs) b):∃a o vs n,v=.ref a/\h.get? a=!o/\o.cls=.type "tuple" /\ o.data=.seq vs n/\ReadsAll h vs.toList xs b:=do(by cases r with|tuple f e c d=>?_);⟨_,_,_,_,O,f,e,c,d⟩
def sU(h:wC 0 d):∃i,d=.int i:=by cases d <;> first|exact⟨_,O⟩|exact h.elim
def sT(h:wC 1 d):∃i,d=.str i:=by cases d <;> first|exact⟨_,O⟩|exact h.elim
def tT(h:wC t d)(a:2<=t):∃f r,d=.tuple (f::r):=by rcases t with _|_|_|_|_|t <;> first|omega|exact (O_ _ _ h).elim|(cases d with|tuple xs=>(cases xs with|nil=>exact h.elim|cons f r=>exact⟨f,r,O⟩)|_=>exact h.elim)
def I_(h:wC 2 d):∃p r,d=.tuple (.int p::r):=do _;{f,r,rfl}:=tT h ⋯;by cases f <;> first|exact⟨_,_,O⟩|exact h.elim
def IG(h:wC 3 d):∃p r,d=.tuple (.str p::r):=do _;{f,r,rfl}:=tT h ⋯;by cases f <;> first|exact⟨_,_,O⟩|exact h.elim
def J6(h:wC 4 d):∃p r,d=.tuple (.tuple p::r):=do _;{f,r,rfl}:=tT h ⋯;by cases f <;> first|exact⟨_,_,O⟩|exact h.elim
def KZ(r:ReadsAll s.heap ks ds as)(K:KeysAre ds t)(h2:2<=ks.length)(hu:A.units+60<cLine):Answers prog w A s ks (oJ ds):=do hl:=SeqAt.ReadsAll.length _ _ _ r;look:∀i,i<ks.length->∃bs,Reads s.heap (ks.getD i Value.none) (c8 ds i) bs/\c8 ds i∈ds:=λi hi=>(do _;{bs,q}:=fE hi r;l:ks.getD i Value.none=ks[i]:=(do#[hi]);n:c8 ds i=ds.getD i .none:=(do S:i<ds.length:=();@c8;[zb,zb,qe S];2);{bs,do[l,n];q,LB (λz=>?_) i};hl<-[z,yz];());F:∀v∈ks,∃d bs,d∈ds/\Reads s.heap v d bs:=λv G=>(do _;{i,hi,e}:=zv.mp G;{bs,q,m}:=look i hi;{_,bs,m,by rw[<-e];simpa[hi] using q});u:∀d∈ds,d.canLay0=true:=λd a=>(do _;{i,hi,e}:=zv.mp a;nG (j:=i) K.lay (do[qe hi,e]));af:(∀d∈ds,∃f r,d=.tuple (f::r))->(T:MD)->(∀v f bs r,Reads s.heap v f bs->PyData.tuple (f::r)∈ds->Looks 66 s.heap (typeOf v) T)->(T==T)=true-> ((T != Value.type "tuple")=true->∀d∈ds,∀d'∈ds,(∃p q r b,d=.tuple (.int p::r)/\d'=.tuple (.int q::b))\/∃p q r b,d=.tuple (.str p::r)/\d'=.tuple (.str q::b))->Answers prog w A s ks (oJ ds):=λh1 T O W Y=>(do _;{fs,k1,k2,k3}:=GO r h1;{tuples' (T != Value.type "tuple"),λQ q=>kat_kind k1 () (λv G=>?_) W q,λi j C hi L c=>?_};{f,b,bs,m,q}:=k3 v G;O v f bs b q m;{V,B,o}:=look i hi;{X,y,x}:=look j L;(by unfold oJ at c);{f1,J,l}:=h1 _ o;{f2,I,n}:=h1 _ x;Z:=K.deep _ o;P:=K.one _ o _ x;D:=u _ o;E:=u _ x;U:=λz=>Y z _ o _ x;(by rw[l]at B Z P D U c;rw[n]at y P E U c);@kas_ask;{a1,o1,v1,n1,h,x1,x2,x3,x4}:=Jm B;{a2,o2,v2,n2,k,y1,y2,y3,y4}:=Jm y;[h,k];kat_lt x1 x3 y1 y3 (AK _ _ _ _ _ _ 0 x4 y4 D E (by simpa[sk] using P) ?_ hu (λ_ z=>?_) (do 0) (do c<-[bK];c));this:PyData.depthAll (f1::J)+1<=60:=Z;();{p,q,r,b,R,N}||{p,q,r,b,R,N}:=U z;.inl ⟨p,q,r,b,PyData.tuple.inj R,PyData.tuple.inj N⟩;.inr ⟨p,q,r,b,PyData.tuple.inj R,PyData.tuple.inj N⟩);by match t,K.kind with| 0,hk => refine{oneType',λQ q=>kas_kind (T:=Value.type "int") h2 (λv G=>?_) rfl rfl q,λi j C hi L c=>?_};obtain⟨d,bs,m,q⟩:=F v G;obtain⟨_,rfl⟩:=sU (hk d m);obtain⟨_,rfl⟩:=Bq q;exact Looks.of_pure rfl;obtain⟨V,B,o⟩:=look i hi;obtain⟨X,y,x⟩:=look j L;unfold oJ at c;unfold kas_ask;obtain⟨_,l⟩:=sU (hk _ o);obtain⟨_,n⟩:=sU (hk _ x);rw[l]at B c;rw[n]at y c;obtain⟨_,h⟩:=Bq B;obtain⟨_,k⟩:=Bq y;rw[h,k,keyLt'_oneType];exact oneLt_int c| 1,hk => refine{oneType',λQ q=>kas_kind (T:=Value.type "str") h2 (λv G=>?_) rfl rfl q,λi j C hi L c=>?_};obtain⟨d,bs,m,q⟩:=F v G;obtain⟨_,rfl⟩:=sT (hk d m);obtain⟨_,rfl⟩:=Et q;exact Looks.of_pure rfl;obtain⟨V,B,o⟩:=look i hi;obtain⟨X,y,x⟩:=look j L;unfold oJ at c;unfold kas_ask;obtain⟨_,l⟩:=sT (hk _ o);obtain⟨_,n⟩:=sT (hk _ x);rw[l]at B c;rw[n]at y c;obtain⟨_,h⟩:=Et B;obtain⟨_,k⟩:=Et y;rw[h,k,keyLt'_oneType];exact oneLt_str c| 2,hk => have g:∀d∈ds,∃p r,d=.tuple (.int p::r):=λd a=>I_ (hk d a);refine af (λd a=>let⟨p,r,e⟩:=g d a;{_,r,e}) (Value.type "int") (λv f bs b q m=>?_) rfl λ_ d a d' H=>?_;obtain⟨p,I,e⟩:=g _ m;cases e;cases q;exact Looks.of_pure rfl;obtain⟨p,J,l⟩:=g d a;obtain⟨q,I,n⟩:=g d' H;exact .inl {p,q,J,I,l,n}| 3,hk => have g:∀d∈ds,∃p r,d=.tuple (.str p::r):=λd a=>IG (hk d a);refine af (λd a=>let⟨p,r,e⟩:=g d a;{_,r,e}) (Value.type "str") (λv f bs b q m=>?_) rfl λ_ d a d' H=>?_;obtain⟨p,I,e⟩:=g _ m;cases e;cases q;exact Looks.of_pure rfl;obtain⟨p,J,l⟩:=g d a;obtain⟨q,I,n⟩:=g d' H;exact .inr {p,q,J,I,l,n}| 4,hk => have g:∀d∈ds,∃p r,d=.tuple (.tuple p::r):=λd a=>J6 (hk d a);refine af (λd a=>let⟨p,r,e⟩:=g d a;{_,r,e}) (Value.type "tuple") (λv f bs b q m=>?_) rfl λz=>absurd z ⋯;obtain⟨p,I,e⟩:=g _ m;cases e;cases q with|tuple h1 h2 W Y=>?_;have:=(Looks.ld (M:=model prog w) (part:=none) h1);rw[<-h2];exact(Looks.ld h1).andThen .now|t+5,hk => exfalso;obtain⟨bs,q,m⟩:=look 0 ();exact O_ t _ (hk _ m)
end
def c7(ds:List Tn)(ix:List Nat):Prop:=ix.Perm (List.range ds.length)/\(ix.map (c8 ds)).Pairwise λa b=>bK b a=false
def Mc(h:Arr ds.length (oJ ds) p):c7 ds p.toList:=do c:p.size=ds.length:=(do[h.1.size_eq];0);{do 0<|h.1.toList,?_};[yv];(i,j,hi,a,b);(by rw[qh,zk]at hi a);this:=h.2 i j () ();(by unfold oJ Srt.g at this);[List.getElem_map,List.getElem_map];by simpa[Array.getD,hi,a] using this
def GX(r:aK ys us)(ix:List Nat)(h:∀i∈ix,i<ys.length):aK (ix.map λi=>ys.getD i .aS) (ix.map λi=>us.getD i Value.none):=do(by induction ix with|nil|cons i ix d=>?_);.nil;hi:=h i qm;{u,b,c}:=r.get (i:=i) (x:=ys[i]) (qe hi);.cons ?_ (d λj a=>h j (qz _ a));¬RelV (ys.getD i .aS) (us.getD i Value.none);[zb,zb,b,qe hi];c
theorem mF:∀{xs:List V} {ds:List Tn},dD H xs ds->xs.length=ds.length|_,_,.nil=>rfl|_,_,.cons _ t=>do[zd,zd,mF t]
theorem Qj(x:eO h h')(r:Reads h v d a):Reads h' v d a:=Reads.rec (motive_1:=λv d a _=>Reads h' v d a) (motive_2:=λv d a _=>ReadsAll h' v d a) .none .bool .int .str (λp q e _ i=>.list (x _ _ p) q e i) (λp q e _ i=>.tuple (x _ _ p) q e i) (λp q e _ _ i j=>.dict (x _ _ p) q e i j) .nil (λ_ _ i j=>.cons i j) r
theorem mO(x:eO h h')(r:ReadsAll h v d a):ReadsAll h' v d a:=ReadsAll.rec (motive_1:=λv d a _=>Reads h' v d a) (motive_2:=λv d a _=>ReadsAll h' v d a) .none .bool .int .str (λp q e _ i=>.list (x _ _ p) q e i) (λp q e _ i=>.tuple (x _ _ p) q e i) (λp q e _ _ i j=>.dict (x _ _ p) q e i j) .nil (λ_ _ i j=>.cons i j) r
section
variable {P:Program}{w:World}{A:Around}{E:KE}{s:Tj}
def dO(P:Program)(w:World)(h:Heap)(ks ls:List Key)(a:To):Prop:=∃o c d n,h.get? a=!o/\o.cls=.type "tuple" /\ o.data=.seq #[.ref c,.ref d] n/\(tupleKind (ai P w)).is h ks c/\(tupleKind (ai P w)).is h ls d
def dV(P:Program)(w:World)(h:Heap):KD->MD->Prop|.aS,v=>v=.none|.int i,v=>∃t,v=.int i t|.tup ks,v=>∃a,v=.ref a/\(tupleKind (ai P w)).is h ks a|.two ks ls,v=>∃a,v=.ref a/\dO P w h ks ls a
def bZ(P:Program)(w:World):KD->Nat|.aS=>1|.int _=>1|.tup ks=>(tupleKind (ai P w)).draws ks|.two ks ls=>(tupleKind (ai P w)).draws ks+(tupleKind (ai P w)).draws ls+1
def GU(x:dO P w h ks ls a)(y:dO P w h f b a):ks=f/\ls=b:=do _;{o,c,d,n,h1,h2,s,l,j}:=x;{o',q,d',n',g,t,i,k,r}:=y;g<-[h1];-g;i<-[s];(by injection i with e _);p:c=q:=(do this:=congrArg (λz:Array MD=>z[0]?) e;0<|this);m:d=d':=(do this:=congrArg (λz:Array MD=>z[1]?) e;0<|this);(by subst p m);{(tupleKind (ai P w)).inj l k,(tupleKind (ai P w)).inj j r}
def vY(x:dO P w h ks ls a)(y:(tupleKind (ai P w)).is h js a):False:=do _;{o,c,d,n,h1,h2,i,l,j}:=x;{o',its,n',b,k,f,g}:=y;b<-[h1];-b;f<-[i];(by injection f with e _);!e;this:=g.byValue (.ref c) (do 0);-this
def N4(x:ItemsAre (ai P w) ks vs):ItemsAre (ai P' a) ks vs:=do(by induction x with|nil|cons h _ b=>?_);.nil;.cons h b
def Jj(x:(tupleKind (ai P w)).is h ks a):(tupleKind (ai P' c)).is h ks a:=do _;{o,its,n,h1,h2,d,b}:=x;{o,its,n,h1,h2,d,N4 b}
def He(d:A.units<cLine)(x:(tupleKind (ai P w)).is s.heap ks a)(y:(tupleKind (ai P w)).is s.heap ls b):SeqAt.EqAt A s (.ref a) (.ref b) (decide (ks=ls)):=λP' c E Q q=>(tupleKind (ai P' c)).eqBool d (Jj x) (Jj y) q
def dO.tuple(x:dO P w h ks ls a):∃c d,h.IsTuple a #[.ref c,.ref d]/\(tupleKind (ai P w)).is h ks c/\(tupleKind (ai P w)).is h ls d:=do _;{o,c,d,n,h1,h2,f,b,e}:=x;{c,d,{o,h1,h2,n,f},b,e}
def pJ(x:(tupleKind (ai P w)).is h ks a):∃its,h.IsTuple a its/\ItemsAre (ai P w) ks its.toList:=do _;{o,its,n,h1,h2,c,b}:=x;{its,{o,h1,h2,n,c},b}
def Rz{ks ls g f:List Key}(i:A.units+1<cLine)(x:dO P w s.heap ks ls a)(y:dO P w s.heap g f b):SeqAt.EqAt A s (.ref a) (.ref b) (decide (KD.two ks ls=KD.two g f)):=do h<|a=b;!h;{rfl,rfl}:=GU x y;[qH rfl];SeqAt.EqAt.same _;{c,d,n,h1,h2}:=x.tuple;{k,d',p,l,m}:=y.tuple;e:decide (KD.two ks ls=KD.two g f)=((List.range (min (#[Value.ref c,.ref d]:Array MD).size (#[Value.ref k,.ref d']:Array MD).size)).all (λj=>if j=0 then decide (ks=g) else decide (ls=f))&&(#[Value.ref c,.ref d]:Array MD).size==(#[Value.ref k,.ref d']:Array MD).size):=(do¬_=((if 0=0 then decide (ks=g) else decide (ls=f))&&((if 1=0 then decide (ks=g) else decide (ls=f))&&true)&&true);[qF rfl,qB ⋯,mw,mw,yo];0);[e];SeqAt.EqAt.of_refs h (SeqAt.RcAt.tuples n p () λj q o=>?_);by match j,q,o with| 0,_,_=>exact He (show A.in1.units<cLine from i) h1 l| 1,_,_=>exact He (show A.in1.units<cLine from i) h2 m
def Ec(h:0<m):((List.range (min m n)).all (λ_=>false)&&m==n)=false:=do e<|m=n;!e;[mx];(by cases m with|zero|succ m=>?_);();[bj];2;[show(m==n)=false from beq_eq_false_iff_ne.mpr e,mh]
def NF(h:0<m):((List.range (min n m)).all (λ_=>false)&&n==m)=false:=do e<|n=m;!e;[mx];(by cases n with|zero|succ m=>?_);();[bj];2;[show(n==m)=false from beq_eq_false_iff_ne.mpr e,mh]
def Jx(x:ItemsAre (ai P w) ks vs):∀(j:Nat) v,vs[j]?=!v->(∃i t,v=.int i t)\/∃z t,v=.str z t:=do(by induction x with|nil|cons h _ a=>?_);(j,v,e);-e;(j,v,e);(by cases j with|zero|succ j=>?_);-e;{i,t,_,e}||{z,t,_,e}:=iv (show ip _ _=true from h);.inl ⟨i,t,e⟩;.inr ⟨z,t,e⟩;a j v (do 0<|e)
def NQ(p:A.units+1<cLine)(x:dO P w s.heap ks ls a)(y:(tupleKind (ai P w)).is s.heap js b):SeqAt.EqAt A s (.ref a) (.ref b) false:=do h:a≠b:=λz=>(do !z;vY x y);{c,d,q,h1,h2}:=x.tuple;{its,r,o}:=pJ y;e:false=((List.range (min (#[Value.ref c,.ref d]:Array MD).size its.size)).all (λ_=>false)&&(#[Value.ref c,.ref d]:Array MD).size==its.size):=(Ec (m:=2) ⋯).symm;[e];SeqAt.EqAt.of_refs h (SeqAt.RcAt.tuples q r () λj u n=>?_);{B,l,_}:=pJ h1;{v,k,_}:=pJ h2;g:=Jx o j its[j] (do[yr,ja n]);f:A.in1.units<cLine:=p;by match j,u,n,g with| 0,_,_,g => rcases g with⟨i,t,e⟩|⟨z,t,e⟩;rw[e];exact SeqAt.EqAt.tuple_int i t l f;rw[e];exact SeqAt.EqAt.tuple_str z t l f| 1,_,_,g => rcases g with⟨i,t,e⟩|⟨z,t,e⟩;rw[e];exact SeqAt.EqAt.tuple_int i t k f;rw[e];exact SeqAt.EqAt.tuple_str z t k f
def QS(p:A.units+1<cLine)(y:(tupleKind (ai P w)).is s.heap js a)(x:dO P w s.heap ks ls b):SeqAt.EqAt A s (.ref a) (.ref b) false:=do h:a≠b:=λz=>(do !z;vY x y);{c,d,q,h1,h2}:=x.tuple;{its,r,o}:=pJ y;e:false=((List.range (min its.size (#[Value.ref c,.ref d]:Array MD).size)).all (λ_=>false)&&its.size==(#[Value.ref c,.ref d]:Array MD).size):=(NF (m:=2) ⋯).symm;[e];SeqAt.EqAt.of_refs h (SeqAt.RcAt.tuples r q () λj n u=>?_);{B,l,_}:=pJ h1;{v,k,_}:=pJ h2;g:=Jx o j its[j] (do[yr,ja n]);f:A.in1.units<cLine:=p;by match j,u,n,g with| 0,_,_,g => rcases g with⟨i,t,e⟩|⟨z,t,e⟩;rw[e];exact SeqAt.EqAt.int_tuple i t l f;rw[e];exact SeqAt.EqAt.str_tuple z t l f| 1,_,_,g => rcases g with⟨i,t,e⟩|⟨z,t,e⟩;rw[e];exact SeqAt.EqAt.int_tuple i t k f;rw[e];exact SeqAt.EqAt.str_tuple z t k f
def ON(i:A.units+1<cLine)(k:dO P w s.heap ks ls a)(h:Q (bP P w (.two ks ls)) {s with toks:=s.toks+((tupleKind (ai P w)).draws ks+(tupleKind (ai P w)).draws ls+1)}):wpAny (model P w) A (pyHash (.ref a)) Q E s:=do _;{o,c,d,n,j,l,m,h1,h2}:=k;f:s.TypeIs (.ref a) "tuple":={o,j,l};@pyHash;@pyHashByItsType;qA (wpAny_cRoomFor_or (.inr ()) ?_);qA (wpAny_specialOf f F.slot_tuple_hash.lookup ?_);¬wpAny _ _ (if(some (Value.builtin "tuple.__hash__")==!Value.none)=true then _ else _) Q E s;[qB (do[beq_builtin_none];qo)];qA (wpAny_specialOf f F.slot_tuple_hash.lookup ?_);¬wpAny _ _ (callSpecialIfBoundUnlessNone? (.ref a) "__hash__" _ >>= _) Q E s;qA (wpAny_callSpecialIfBoundUnlessNone?_slot f F.slot_tuple_hash (qO F.slot_tuple_hash f F.entry_tuple_hash ?_ (F.args_tuple_hash_1 _)));¬wpAny _ _ (Builtin.Tuple.tupleItemsOf (.ref a) >>= _) _ _ s;qA (wpAny_tupleItemsOf j m ?_);qA ?_;[<-my];wpAny_forIn_list _ (λrest (b:Array Int) s'=>(rest=[.ref c,.ref d]/\b.toList=[]/\s'=s)\/(rest=[.ref d]/\b.toList=[(tupleKind (ai P w)).hash ks]/\s'={s with toks:=s.toks+(tupleKind (ai P w)).draws ks})\/(rest=[]/\b.toList=[(tupleKind (ai P w)).hash ks,(tupleKind (ai P w)).hash ls]/\s'={s with toks:=s.toks+(tupleKind (ai P w)).draws ks+(tupleKind (ai P w)).draws ls})) _ ?_ ?_ _ _ (.inl {O,O,O});(x,rest,b,s',{e,hb,rfl}||{e,hb,rfl}||{e,hb,rfl});-e;qA ((tupleKind (ai P w)).pyHash (show _<cLine by first|exact i|show A.units+1<cLine;exact i) h1 ?_);(by first|exact qE (.inr (.inl ⟨O,do#[hb],O⟩))|exact qA (qE (qE (.inr (.inl ⟨O,do#[hb],O⟩)))));-e;qA ((tupleKind (ai P w)).pyHash (s:={s with toks:=s.toks+(tupleKind (ai P w)).draws ks}) (show _<cLine by first|exact i|show A.units+1<cLine;exact i) h2 ?_);(by first|exact qE (.inr (.inr ⟨O,do#[hb],O⟩))|exact qA (qE (qE (.inr (.inr ⟨O,do#[hb],O⟩)))));-e;(b,s',{e,hb,rfl}||{e,hb,rfl}||{e,hb,rfl});-e;-e;¬wpAny _ _ (retInt (Builtin.Tuple.tupleHashOf b.toList)) _ _ _;[hb];wpAny_ret_mkInt ?_;¬wpAny _ _ (if(decide (-(2:Int) ^ 63<=Builtin.Tuple.tupleHashOf [(tupleKind (ai P w)).hash ks,(tupleKind (ai P w)).hash ls])&&decide (Builtin.Tuple.tupleHashOf [(tupleKind (ai P w)).hash ks,(tupleKind (ai P w)).hash ls]<2 ^ 63))=true then _ else _) Q E _;h:Q (reduceHash (Builtin.Tuple.tupleHashOf [(tupleKind (ai P w)).hash ks,(tupleKind (ai P w)).hash ls])) {s with toks:=s.toks+((tupleKind (ai P w)).draws ks+(tupleKind (ai P w)).draws ls+1)}:=h;(by unfold reduceHash at h);g<|(decide (-(2:Int) ^ 63<=Builtin.Tuple.tupleHashOf [(tupleKind (ai P w)).hash ks,(tupleKind (ai P w)).hash ls])&&decide (Builtin.Tuple.tupleHashOf [(tupleKind (ai P w)).hash ks,(tupleKind (ai P w)).hash ls]<2 ^ 63))=true;[qF g];h<-[qF g];qE (by simpa[Nat.add_assoc] using h);[qB g];h<-[qB g];qA (wpAny_rule (qE (by simpa[Nat.add_assoc] using h)))
def Lc(g:(tupleKind (ai P w)).is s.heap ks a)(h:Q true s):wpAny (model P w) A (eqIsQuiet (m+1) (.ref a)) Q E s:=do _;{o,items,n,e,i,j,hi}:=g;f:s.TypeIs (.ref a) "tuple":={o,e,i};@eqIsQuiet;qA (wpAny_specialOf f F.slot_tuple_eq.lookup ?_);¬wpAny _ _ (isInstance (.ref a) (.type "tuple") >>= _) _ _ s;qA (wpAny_isInstance f isSubtype_tuple_tuple ?_);#[_,Bool.not_true,Bool.false_eq_true,if_false];qA (wpAny_seqItems e j ?_);qA ?_;¬wpAny _ _ (forIn items _ _) _ _ s;[<-my];wpAny_forIn_list _ (λrest r s'=>r.1=none/\s'=s/\∀v∈rest,carriedByValue v=true) _ ?_ ?_ _ _ {O,O,hi.byValue};(v,rest,r,s',{c,rfl,b});[eqIsQuiet_byValue _ (b v qm)];qA (qE ?_);#[_,Bool.not_true,Bool.false_eq_true,if_false];qE {O,O,λu d=>b u (qz _ d)};({l,k},s',{c,rfl,_});(by simp only at c);!c;qE h
def Rb(p:dO P w s.heap ks ls a)(h:Q true s):wpAny (model P w) A (eqIsQuiet 8 (.ref a)) Q E s:=do _;{o,c,d,n,i,t,x,h1,h2}:=p;j:s.TypeIs (.ref a) "tuple":={o,i,t};@eqIsQuiet;qA (wpAny_specialOf j F.slot_tuple_eq.lookup ?_);¬wpAny _ _ (isInstance (.ref a) (.type "tuple") >>= _) _ _ s;qA (wpAny_isInstance j isSubtype_tuple_tuple ?_);#[_,Bool.not_true,Bool.false_eq_true,if_false];qA (wpAny_seqItems i x ?_);qA ?_;¬wpAny _ _ (forIn (#[.ref c,.ref d]:Array MD) _ _) _ _ s;[<-my];wpAny_forIn_list _ (λrest r s'=>r.1=none/\s'=s/\∀v∈rest,v=.ref c\/v=.ref d) _ ?_ ?_ _ _ {O,O,λv k=>do 0<|k};(v,rest,r,s',{e,rfl,b});l:∀{g:Bool->Tj->Prop},g true s'->wpAny (model P w) A (eqIsQuiet 7 v) g E s':=λq=>(do rfl||rfl:=b v qm;Lc (m:=6) h1 q;Lc (m:=6) h2 q);qA (l ?_);#[_,Bool.not_true,Bool.false_eq_true,if_false];qE ⟨O,O,λu f=>b u (qz _ f)⟩;({y,z},s',{e,rfl,_});(by simp only at e);!e;qE h
theorem dV.inj(a:dV P w h x v)(b:dV P w h y v):x=y:=do(by cases x with|aS|int i|tup ks|two ks ls=>?_);-a;(by cases y with|aS|int j|tup ks|two ks ls=>?_);2;{_,e}:=b;-e;{_,e,_}:=b;-e;{_,e,_}:=b;-e;{t,rfl}:=a;(by cases y with|aS|int j|tup ks|two ks ls=>?_);-b;{_,e}:=b;-e;2;{_,e,_}:=b;-e;{_,e,_}:=b;-e;{p,rfl,q}:=a;(by cases y with|aS|int j|tup c|two c f=>?_);-b;{_,e}:=b;-e;{_,e,d}:=b;-e;congrArg KD.tup ((tupleKind (ai P w)).inj q d);{_,e,d}:=b;-e;(vY d q).elim;{p,rfl,q}:=a;(by cases y with|aS|int j|tup c|two c f=>?_);-b;{_,e}:=b;-e;{_,e,d}:=b;-e;(vY q d).elim;{_,e,d}:=b;-e;{rfl,rfl}:=GU q d;2
def dV.ext(a:dV P w h k v)(x:∀b o,h.get? b=!o->o.cls=.type "tuple"->h'.get? b=!o):dV P w h' k v:=do(by cases k with|aS|int i|tup ks|two ks ls=>?_);a;a;{p,e,o,its,n,h1,h2,f,u}:=a;{p,e,o,its,n,x _ _ h1 h2,h2,f,u};{p,e,o,c,d,n,h1,h2,f,{y,A,q,l,g,m},{B,s,t,z,j,r}}:=a;{p,e,o,c,d,n,x _ _ h1 h2,h2,f,{y,A,q,x _ _ l g,g,m},{B,s,t,x _ _ z j,j,r}}
def Qt(h:Q 4238894112 {s with toks:=s.toks+1}):wpAny (model P w) A (pyHash .none) Q E s:=do@pyHash;a:s.TypeIs Value.none "NoneType":=rfl;b:[Value.none].any Value.onHeap=false:=rfl;@pyHashByItsType;qA ?_;[cRoomFor,qB (do[b];qo)];qE (qA (wpAny_specialOf a F.slot_NoneType_hash.lookup ?_));¬wpAny _ _ (if(some (Value.builtin "NoneType.__hash__")==!Value.none)=true then _ else _) Q E s;[qB (do[beq_builtin_none];qo)];qA (wpAny_specialOf a F.slot_NoneType_hash.lookup ?_);¬wpAny _ _ (callSpecialIfBoundUnlessNone? .none "__hash__" _ >>= _) Q E s;qA (wpAny_callSpecialIfBoundUnlessNone?_slot a F.slot_NoneType_hash (qO F.slot_NoneType_hash a F.entry_NoneType_hash (show wpAny _ _ (do{ret (<-mkInt 4238894112)}) _ _ s from wpAny_ret_mkInt ?_) (F.args_NoneType_hash_1 _)));¬wpAny _ _ (if(decide (-(2:Int) ^ 63<=4238894112)&&decide ((4238894112:Int)<2 ^ 63))=true then _ else _) Q E _;[qF ⋯];qE h
def dV.hash(b:A.units+1<cLine)(a:dV P w s.heap k v)(h:Q (bP P w k) {s with toks:=s.toks+bZ P w k}):wpAny (model P w) A (pyHash v) Q E s:=do(by cases k with|aS|int i|tup ks|two ks ls=>?_);-a;Qt h;{t,rfl}:=a;wpAny_pyHash_int h;{p,rfl,q}:=a;(tupleKind (ai P w)).pyHash (show A.units<cLine from ()) q h;{p,rfl,q}:=a;ON b q h
def dV.tuple(a:dV P w h (.tup ks) v):∃p its,v=.ref p/\h.IsTuple p its:=do _;{p,e,o,its,n,h1,h2,b,_}:=a;⟨p,its,e,o,h1,h2,n,b⟩
def dV.kT(a:dV P w h (.two ks ls) v):∃p its,v=.ref p/\h.IsTuple p its:=do _;{p,e,q}:=a;{c,d,t,_}:=q.tuple;{p,_,e,t}
def dV.eq(f:A.units+1<cLine)(a:dV P w s.heap x u)(b:dV P w s.heap y v)(h:Q (decide (x=y)) s):wpAny (model P w) A (eqBool u v) Q E s:=do ne:∀{z l:KD},z≠l->decide (z=l)=false:=λq=>decide_eq_false q;d:A.units<cLine:=();(by cases x with|aS|int i|tup ks|two ks ls=>?_);-a;(by cases y with|aS|int j|tup ks|two ks ls=>?_);-b;SeqAt.EqAt.same _ _ _ _ _ h;{t,rfl}:=b;h<-[ne (do(z);-z)];SeqAt.EqAt.none_int _ _ _ _ _ _ h;{p,its,rfl,q}:=b.tuple;h<-[ne (do(z);-z)];SeqAt.EqAt.none_tuple q d _ _ _ _ h;{p,its,rfl,q}:=b.kT;h<-[ne (do(z);-z)];SeqAt.EqAt.none_tuple q d _ _ _ _ h;{t,rfl}:=a;(by cases y with|aS|int j|tup ks|two ks ls=>?_);-b;h<-[ne (do(z);-z)];SeqAt.EqAt.int_none _ _ _ _ _ _ h;{t,rfl}:=b;SeqAt.EqAt.int_int _ _ _ _ _ _ _ _ ?_;[show(i==j)=decide (KD.int i=KD.int j) from by by_cases z:i=j <;> simp[z]];h;{p,its,rfl,q}:=b.tuple;h<-[ne (do(z);-z)];SeqAt.EqAt.int_tuple _ _ q d _ _ _ _ h;{p,its,rfl,q}:=b.kT;h<-[ne (do(z);-z)];SeqAt.EqAt.int_tuple _ _ q d _ _ _ _ h;(by cases y with|aS|int j|tup c|two c g=>?_);-b;{p,its,rfl,q}:=a.tuple;h<-[ne (do(z);-z)];SeqAt.EqAt.tuple_none q d _ _ _ _ h;{t,rfl}:=b;{p,its,rfl,q}:=a.tuple;h<-[ne (do(z);-z)];SeqAt.EqAt.tuple_int _ _ q d _ _ _ _ h;{p,rfl,q}:=a;{k,rfl,e}:=b;(tupleKind (ai P w)).eqBool d q e ?_;[show decide (ks=c)=decide (KD.tup ks=KD.tup c) from by by_cases z:ks=c <;> simp[z]];h;{p,rfl,q}:=a;{k,rfl,e}:=b;h<-[ne (do(z);-z)];QS f q e _ _ _ _ h;(by cases y with|aS|int j|tup c|two c g=>?_);-b;{p,its,rfl,q}:=a.kT;h<-[ne (do(z);-z)];SeqAt.EqAt.tuple_none q d _ _ _ _ h;{t,rfl}:=b;{p,its,rfl,q}:=a.kT;h<-[ne (do(z);-z)];SeqAt.EqAt.tuple_int _ _ q d _ _ _ _ h;{p,rfl,q}:=a;{k,rfl,e}:=b;h<-[ne (do(z);-z)];NQ f q e _ _ _ _ h;{p,rfl,q}:=a;{k,rfl,e}:=b;Rz f q e _ _ _ _ h
theorem dV.quiet(a:dV P w s.heap k v)(h:Q true s):wpAny (model P w) A (eqIsQuiet 8 v) Q E s:=do(by cases k with|aS|int i|tup ks|two ks ls=>?_);-a;qE h;{t,rfl}:=a;qE h;{p,rfl,q}:=a;(tupleKind (ai P w)).quiet q h;{p,rfl,q}:=a;Rb q h
def Ga(a:dV P w s.heap k v)(f:∀u∈l,∃c,dV P w s.heap c u)(h:Q false s):wpAny (model P w) A (tableMayTell v l) Q E s:=do@tableMayTell;3;qE h;qA (a.quiet ?_);[qB ⋯];qA (wpAny_forIn_list _ (λr b s'=>s'=s/\b=(none,Unit.unit)/\∀u∈r,∃c,dV P w s.heap c u) _ ?_ ?_ _ _ {O,O,f});(u,r,b,s',{rfl,rfl,d});{c,g}:=d u qm;qA (g.quiet ?_);[qB ⋯];qE {O,O,λx e=>d x (qz _ e)};(b,s',{rfl,rfl,_});qE h
def fR(xs:List (KD×MD×MD))(k:KD):Option Nat:=xs.findIdx? λx=>decide (x.1=k)
def K3(hn:(xs.map (·.1)).Nodup)(h:xs[j]?=!x)(e:x.1=k):fR xs k=!j:=do@fR;[mz];{b,a}:=qp.mp h;{b,do[a,e];0,λi hi=>?_};this:¬xs[i].1=k:=λz=>(do d:(xs.map (·.1))[i]?=!k:=(do[List.getElem?_map,List.getElem?_eq_getElem ()];#[z]);c:(xs.map (·.1))[j]?=!k:=(do[List.getElem?_map,h];#[e]);this:=(m3 (do[qh];()) hn).mp (d.trans c.symm);());0<|this
def Kd(h:∀(j:Nat) x,xs[j]?=!x->x.1≠k):fR xs k=none:=do@fR;[bp];(x,b);{j,a,e}:=zv.mp b;decide_eq_false (h j x (do[qe a,e]))
def Ep{xs:List (KD×MD×MD)}{k:KD}{es:Array DictEntry}(at':∀j:Nat,es[j]?=(xs[j]?).map (dP P w))(sz:es.size=xs.length)(hn:(xs.map (·.1)).Nodup){g:Nat->Option (Option Nat)×Option Nat->Sem (ForInStep (Option (Option Nat)×Option Nat))}{R:Option (Option Nat)×Option Nat->Tj->Prop}(B:∀(i:Nat) b a (R':ForInStep (Option (Option Nat)×Option Nat)->Tj->Prop),xs[i]?=!b->(b.1=k->a=none/\R' (.done (!(!i),a)) s/\R' (.yield (none,!i)) s)->(b.1≠k->R' (.yield (none,a)) s)->wpAny (model P w) A (g i (none,a)) R' E s)(K:(∀(j:Nat) x,xs[j]?=!x->x.1≠k)->R (none,none) s)(v:∀(j:Nat) x,xs[j]?=!x->x.1=k->R (!(!j),none) s/\R (none,!j) s) : wpAny (model P w) A (forIn (placesWithHash es.size (λi=>es[i]?.map (·.hash)) (bP P w k)) (none,none) g) R E s:=do has:∀(j:Nat) x,xs[j]?=!x->x.1=k->((es[j]?.map (·.hash))==!(bP P w k))=true:=λj x c e=>(do[at' j,c];¬(some (bP P w x.1)==!(bP P w k))=true;[e];0);one:∀{i j:Nat} {x y:KD×MD×MD},xs[i]?=!x->xs[j]?=!y->x.1=k->y.1=k->i=j:=λ{i j x y} h1 h2 G L=>(do z:(xs.map (·.1))[i]?=!k:=(do[qj,h1];congrArg some G);F:(xs.map (·.1))[j]?=!k:=(do[qj,h2];congrArg some L);(m3 (qp.mp z).1 hn).mp (z.trans F.symm));wpAny_forIn_list _ (λrest b s'=>s'=s/\∃i a,b=(none,a)/\rest=(List.range' i (es.size - i)).filter (λi=>(es[i]?.map (·.hash))==!(bP P w k))/\i<=es.size ∧ ((a=none/\∀(j:Nat) x,j<i->xs[j]?=!x->x.1≠k)\/∃j x,a=!j/\j<i/\xs[j]?=!x/\x.1=k)) _ ?_ ?_ _ _ {O,0,none,O,do[placesWithHash,bu,jp],qx _,.inl {O,λj x c=>absurd c (yg _)}};(x,rest,b,s',{rfl,i,a,rfl,r,hi,q});{M,J,I,h,l}:=filter_range'_cons _ _ _ _ _ r.symm;n:x<es.size:=();d:rest=(List.range' (x+1) (es.size - (x+1))).filter (λi=>(es[i]?.map (·.hash))==!(bP P w k)):=(do[l];(by congr 2);());m:xs[x]?=!(xs[x]'()):=qe _;(by generalize xs[x]'()=b at m);t:∀(j:Nat) y,i<=j->j<x->xs[j]?=!y->y.1≠k:=λj y h1 h2 c e=>(do this:=h j h1 h2;this<-[has j y c e];absurd this ⋯);B x b a _ m (λe=>?_) λe=>?_;{rfl,f}||{j,y,_,c,p,o}:=q;⟨O,(v x b m e).1,O,x+1,!x,O,d,n,.inr ⟨x,b,O,yu x,m,e⟩⟩;this:=one p m o e;();{O,x+1,a,O,d,n,?_};{h0,f}||{j,y,h1,c,p,o}:=q;.inl ⟨h0,λj y C c=>?_⟩;u<|j<i;f j y u c;D<|j<x;t j y () D c;this:j=x:=();!this;c<-[m];-c;e;.inr {j,y,h1,(),p,o};(b,s',{rfl,i,a,rfl,r,hi,q});{rfl,f}||{j,y,rfl,c,p,o}:=q;K λj x c e=>?_;u<|j<i;f j x u c e;H:j<es.size:=(do[sz];(qp.mp c).1);this:=jq.mp r.symm j (bv.mpr {(),()});this (has j x c e);(v j y p o).2
def HS(G:A.units+1<cLine)(a:dV P w s.heap k v)(u:s.heap.get? d=!o)(B:o.data=.dict es ep)(at':∀j:Nat,es[j]?=(xs[j]?).map (dP P w))(sz:es.size=xs.length)(n:∀x∈xs,dV P w s.heap x.1 x.2.1)(hn:(xs.map (·.1)).Nodup)(C:Q (fR xs k) s):wpAny (model P w) A (dictWalkPlain d v (bP P w k) es (placesWithHash es.size (λi=>es[i]?.map (·.hash)) (bP P w k))) Q E s:=do@dictWalkPlain;has:∀(j:Nat) x,xs[j]?=!x->x.1=k->((es[j]?.map (·.hash))==!(bP P w k))=true:=λj x c e=>(do[at' j,c];¬(some (bP P w x.1)==!(bP P w k))=true;[e];0);qA (wpAny_forIn_list _ (λrest b s'=>s'=s/\b=(none,Unit.unit)/\∃i,rest=(List.range' i (es.size - i)).filter (λi=>(es[i]?.map (·.hash))==!(bP P w k))/\i<=es.size/\∀(j:Nat) x,j<i->xs[j]?=!x->x.1≠k) _ ?_ ?_ _ _ {O,O,0,do[placesWithHash,bu,jp],qx _,λj x c=>absurd c (yg _)});(x,rest,b,s',{rfl,rfl,i,r,hi,f});{K,J,q,g,h}:=filter_range'_cons _ _ _ _ _ r.symm;p:x<es.size:=();m:xs[x]?=!(xs[x]'()):=qe _;(by generalize xs[x]'()=b at m);l:es[x]?=!(dP P w b):=(do[at' x,m];2);more:b.1≠k->∃i,rest=(List.range' i (es.size - i)).filter (λi=>(es[i]?.map (·.hash))==!(bP P w k))/\i<=es.size/\∀(j:Nat) x,j<i->xs[j]?=!x->x.1≠k:=λe=>{x+1,do[h];(by congr 2);(),p,λj y D c=>do t<|j<i;f j y t c;F<|j<x;(z);this:=g j () F;this<-[has j y c z];absurd this ⋯;this:j=x:=();!this;c<-[m];-c;e};[l];(by try dsimp only);H:((dP P w b).hash==bP P w k)=true:=(do this:=q;this<-[l];0<|this);[qF H];qA (wpAny_dictEpoch u B (qA ((n b (qk m)).eq G a (qA (wpAny_dictEpoch u B ?_)))));(by try dsimp only);[qB (do 0)];e<|b.1=k;[qH e,qF rfl];qA (wpAny_rule (qE (qE ?_)));[<-K3 hn m e];C;[decide_eq_false e,qB ⋯];qA (wpAny_rule (qE {O,O,more e}));(b,s',{rfl,rfl,i,r,hi,f});qE ?_;[<-Kd (xs:=xs) (k:=k) λj x c e=>?_];C;t<|j<i;f j x t c e;I:j<es.size:=(do[sz];(qp.mp c).1);jq.mp r.symm j (bv.mpr {(),()}) (has j x c e)
def EB(M:A.units+1<cLine)(a:dV P w s.heap k v)(D:s.heap.get? d=!o)(F:o.data=.dict es ep)(K:es.toList=xs.map (dP P w))(c:∀x∈xs,dV P w s.heap x.1 x.2.1)(hn:(xs.map (·.1)).Nodup)(I:Q (fR xs k) s):wpAny (model P w) A (dictFind d v (bP P w k)) Q E s:=do at':∀j:Nat,es[j]?=(xs[j]?).map (dP P w):=λj=>(do[<-yr,K,qj]);sz:es.size=xs.length:=(do[<-zk,K,qh]);key:∀(j:Nat) x,xs[j]?=!x->x.1=k->((es[j]?.map (·.hash))==!(bP P w k))=true:=λj x B e=>(do[at' j,B];¬(some (bP P w x.1)==!(bP P w k))=true;[e];0);mem:∀e∈es,∃x∈xs,e=dP P w x:=λe m=>(do _;{x,g,z}:=qc.mp (show e∈xs.map (dP P w) from K▸j9.mpr m);{x,g,z.symm});J:∀z t,v≠.str z t:=λz t e=>(do a<-[e];(by cases k with|aS|int i|tup ks|two ks ls=>?_);-a;{_,q}:=a;-q;{_,q,_}:=a;-q;{_,q,_}:=a;-q);C:¬(es.any λe=>e.key==v&&e.hash != bP P w k)=true:=(do[<-Array.any_toList,yt];({e,m,S});{x,g,rfl}:=mem e (j9.mp m);S<-[zn];W:x.2.1=v:=eq_of_beq S.1;H:=c x g;H<-[W];V:=H.inj a;T:(bP P w x.1 != bP P w k)=true:=S.2;T<-[V];T<-0);st:∀u∈(placesWithHash es.size (λi=>es[i]?.map (·.hash)) (bP P w k)).filterMap (λi=>es[i]?.map (·.key)),∃X,dV P w s.heap X u:=λu L=>(do _;{i,_,hi}:=j8.mp L;hi<-[at' i];(by cases e:xs[i]? with|none|some x=>?_);hi<-[e];-hi;hi<-[e];H:x.2.1=u:=(by simpa[dP] using hi);{x.1,H▸c x (qk e)});look:∀(x:Nat) (b:KD×MD×MD) {R:Bool->Tj->Prop},xs[x]?=!b->R (decide (b.1=k)) s->wpAny (model P w) A (eqBool b.2.1 v) R E s:=λx b R g r=>(c b (qk g)).eq M a r;l:(∀(j:Nat) x,xs[j]?=!x->x.1≠k)->Q none s:=λh=>(do[<-Kd h];I);f:∀(j:Nat) x,xs[j]?=!x->x.1=k->Q (!j) s:=λj x B e=>(do[<-K3 hn B e];I);@dictFind;(by try with_reducible refine qK ?_);qA (wpAny_dictEntries D F ?_);vc:v=.none\/(∃i t,v=.int i t)\/∃p,v=.ref p:=(do(by cases k with|aS|int i|tup ks|two ks ls=>?_);.inl a;.inr (.inl {i,a});.inr (.inr {a.choose,a.choose_spec.1});.inr (.inr {a.choose,a.choose_spec.1}));G<|(v::(placesWithHash es.size (λi=>es[i]?.map (·.hash)) (bP P w k)).filterMap (λi=>es[i]?.map (·.key))).all carriedByValue=true;rfl||{i,t,rfl}||{p,rfl}:=vc;(by dsimp only);[qF G];HS M a D F at' sz c hn I;(by dsimp only);[qF G];HS M a D F at' sz c hn I;absurd G (do#[carriedByValue]);by rcases vc with rfl|⟨i,t,rfl⟩|⟨p,rfl⟩ <;> dsimp only <;> rw[qB G] <;> (try rw[qB C])<;> refine wpAny_ite_split (λ_=>?_) (λ_=>?_) <;> (first|refine qA (qE ?_)|refine qA (Ga a st ?_))<;> (rw[qB (do 0)];refine qA (Ep at' sz hn (λi b U R' g y n=>?_) (λh=>qE (l h)) λj x B e=>{qE (f j x B e),qE (f j x B e)});have O:es[i]?=!(dP P w b):=(do[at' i,g];2);rw[O];dsimp only;by_cases N:((dP P w b).hash==bP P w k)=true;rw[qF N];refine qA (wpAny_dictEpoch D F (qA (look i b g (qA (wpAny_dictEpoch D F ?_)))));rw[qB (do 0)];by_cases e:b.1=k;obtain⟨rfl,Z,Y⟩:=y e;rw[qH e,qF rfl,qB ⋯];refine qA (wpAny_rule ?_);split;exact qE Z;exact qE Y;rw[decide_eq_false e,qB ⋯];refine qA (wpAny_rule ?_);rw[qB (do 0)];exact qE (n e);rw[qB N];exact qE (n λe=>N (do¬(bP P w b.1==bP P w k)=true;[e];0)))
end
section
variable {α β:Type}
def vG(kvs:List (KD×α×β))(k:KD):Option β:=(kvs.find? λe=>decide (e.1=k)).map (·.2.2)
def pG(kvs:List (KD×α×β))(k:KD)(a:α)(v:β):List (KD×α×β):=if(vG kvs k).isSome=true then kvs.map (λe=>if e.1=k then(e.1,e.2.1,v) else e) else kvs++[(k,a,v)]
def pM{kvs:List (KD×α×β)}{k:KD}{i:Nat}{e:KD×α×β}(hn:(kvs.map (·.1)).Nodup)(h:kvs[i]?=!e)(a:e.1=k):vG kvs k=!e.2.2:=do@vG;(by induction kvs generalizing i with|nil|cons x r c=>?_);-h;hn<-[zm,zx];[ww];(by cases i with|zero|succ i=>?_);-h;[qH a];2;h':r[i]?=!e:=(do 0<|h);b:¬x.1=k:=λz=>hn.1 (do[z,<-a];qc.mpr {e,qk h',O});[decide_eq_false b];c hn.2 h'
def nV{kvs:List (KD×α×β)}{k:KD}(h:∀e∈kvs,e.1≠k):vG kvs k=none:=do@vG;[jr.mpr λe a=>do[decide_eq_true_eq];h e a];2
def ox{kvs:List (KD×α×β)}{k:KD}(h:vG kvs k=none):∀e∈kvs,e.1≠k:=λe a z=>do(by unfold vG at h);h<-[bw,jr];h e a (qH z)
def d7(kvs:List (KD×α×β))(k a:KD)(j:α)(v:β):vG (pG kvs k j v) a=if a=k then some v else vG kvs a:=do@pG;g<|(vG kvs k).isSome=true;[qF g];{u,h}:=k8.mp g;(by clear g;unfold vG at *;induction kvs with|nil|cons x r n=>?_);h<-0;[zm,ww];(by rw[ww]at h ⊢);f<|x.1=k;[qF f];c<|a=k;!c;[qF rfl];#[f];[qB c];this:¬x.1=a:=λz=>c (z.symm.trans f);#[_,this,decide_false];(by clear h n;induction r with|nil|cons y r i=>?_);2;[zm,ww,ww];m<|y.1=k;b:¬y.1=a:=λz=>c (z.symm.trans m);[qF m];#[_,b,decide_false];i;[qB m];b<|y.1=a;#[b];#[_,b,decide_false];i;[qB f];h<-#[_,f,decide_false];d<|x.1=a;this:¬a=k:=λz=>f (d.trans z);[qB this];#[d];#[_,d,decide_false];n h;[qB g];l:=ox (kvs:=kvs) (k:=k) (do(by cases e:vG kvs k with|none|some u=>?_);2;g<-[e];absurd rfl g);@vG;[List.find?_append];c<|a=k;!c;[qF rfl,jr.mpr λe o=>do[decide_eq_true_eq];l e o];0;[qB c];(by cases e:List.find? (λe=>decide (e.1=a)) kvs with|some x|none=>?_);2;this:¬k=a:=λz=>c z.symm;#[this]
def Q9(kvs:List (KD×α×β))(k:KD)(a:α)(v:β):(pG kvs k a v).map (·.1)=if(vG kvs k).isSome=true then kvs.map (·.1) else kvs.map (·.1)++[k]:=do@pG;3;[wg];yw λe _=>?_;¬(if e.1=k then(e.1,e.2.1,v) else e).1=e.1;(by split <;> rfl);[zt];2
def iA(kvs:List (KD×α×β))(k:KD)(a:α)(v:β):(pG kvs k a v).length<=kvs.length+1:=do@pG;3;[qh];();[qg,qr];qb _
def Bh{kvs:List (KD×α×β)}{k:KD}{a:α}{v:β}(h:(kvs.map (·.1)).Nodup):((pG kvs k a v).map (·.1)).Nodup:=do[Q9];3;h;(by rename_i b);CF h λd=>?_;{e,f,rfl}:=qc.mp d;ox (kvs:=kvs) (k:=e.1) (do(by cases c:vG kvs e.1 with|none|some u=>?_);2;b<-[c];absurd rfl b) e f rfl
end
section
variable {P:Program}{w:World}{A:Around}{E:KE}{s:Tj}
def cA(P:Program)(w:World)(h:Heap)(d:To)(xs:List (KD×MD×MD)):Prop := ∃o es ep,h.get? d=!o/\o.ExactDict/\o.data=.dict es ep/\es.toList=xs.map (dP P w)/\(∀x∈xs,dV P w h x.1 x.2.1)/\(xs.map (·.1)).Nodup
def cA.typeIs(g:cA P w s.heap d xs):s.TypeIs (.ref d) "dict":=let⟨o,_,_,a,b,_⟩:=g;{o,a,b.1}
def Dm(h:fR xs k=!j):∃x,xs[j]?=!x/\x.1=k:=do(by unfold fR at h);h<-[mz];{a,h1,_}:=h;{xs[j],List.getElem?_eq_getElem a,do 0<|h1}
def CW(h:fR xs k=none):∀e∈xs,e.1≠k:=λe a=>do(by unfold fR at h);h<-[bp];0<|h e a
def CB(i:A.units+1<cLine)(a:dV P w s.heap k v)(g:cA P w s.heap d xs)(h:Q (vG xs k) {s with toks:=s.toks+bZ P w k}):wpAny (model P w) A (dictGet d v) Q E s:=do _;{o,es,ep,c,_,m,l,b,hn}:=g;@dictGet;(by try with_reducible refine qK ?_);qA (a.hash i (qA (EB (s:={s with toks:=s.toks+bZ P w k}) i a c m l b hn ?_)));(by cases e:fR xs k with|none|some j=>?_);h<-[nV (CW e)];qE h;{x,f,ex}:=Dm e;h<-[pM hn f ex];qA (wpAny_dictEntries (s:={s with toks:=s.toks+bZ P w k}) c m ?_);[<-yr,l,qj,f];qE h
def Oc{xs:List (KD×MD×MD)}{k:KD}{v:MD}{j:Nat}{x:KD×MD×MD}(hn:(xs.map (·.1)).Nodup)(a:xs[j]?=!x)(ex:x.1=k) : (xs.map (dP P w)).modify j (λe=>{e with val:=v})=(xs.map λe=>if e.1=k then(e.1,e.2.1,v) else e).map (dP P w):=do(by apply yb);(i);[List.getElem?_modify,qj,qj,qj];(by cases hi:xs[i]? with|none|some y=>?_);0;e<|j=i;!e;hi<-[a];-hi;#[ex,dP];b:¬y.1=k:=λz=>e ((List.getElem?_inj (do[List.length_map];(List.getElem?_eq_some_iff.mp a).1) hn).mp (do[List.getElem?_map,List.getElem?_map,a,hi];#[ex,z]));#[e,b]
def um{es:Array DictEntry}{ep:Nat}(f:h.get? d=!o)(i:o.ExactDict)(g:Heap.SameBut d h h')(a:dV P w h k v):dV P w h' k v:=a.ext λb o' e c=>(g.2 b (λz=>do e<-[z,f];-e;c<-[i.1];absurd c ⋯)).trans e
def FA{v val:MD}(q:A.units+1<cLine)(a:dV P w s.heap k v)(g:cA P w s.heap d xs)(hsz:xs.length<=sizeLine)(r:∀h',cA P w h' d (pG xs k v val)->Heap.SameBut d s.heap h'->Q Unit.unit {s with heap:=h',toks:=s.toks+bZ P w k}):wpAny (model P w) A (dictSet d v val) Q E s:=do _;{o,es,ep,c,i,h,m,f,hn}:=g;sz:es.size=xs.length:=(do[<-zk,m,qh]);keep:∀h',Heap.SameBut d s.heap h'->∀x∈pG xs k v val,dV P w h' x.1 x.2.1:=λh' p x b=>(do(by unfold pG at b;split at b);{y,t,rfl}:=qc.mp b;this:=um (es:=es) (ep:=ep) c i p (f y t);(by split <;> exact this);b||b:=zg.mp b;um (es:=es) (ep:=ep) c i p (f x b);[qt.mp b];um (es:=es) (ep:=ep) c i p a);@dictSet;(by try with_reducible refine qK ?_);qA (a.hash q ?_);@dictSetHashed;(by try with_reducible refine qK ?_);qA (EB (s:={s with toks:=s.toks+bZ P w k}) q a c h m f hn ?_);(by cases e:fR xs k with|none|some j=>?_);n:=nV (CW e);qA (wpAny_rule (wpAny_updateDictKeys (hz:=do()) (s:={s with toks:=s.toks+bZ P w k}) c h (r _ {_,_,ep+1,Heap.get?_update_self _ c (Obj.isFreed_of_dict (Obj.data_mapDictKeys h _)),i.mapDictKeys _,Obj.data_mapDictKeys h _,?_,keep _ (Heap.SameBut.update ..),Bh hn} (Heap.SameBut.update ..))));@pG;[n,qB ⋯];#[m,dP];{x,b,ex}:=Dm e;n:=pM hn b ex;qA (wpAny_rule (qA (wpAny_updateDict (s:={s with toks:=s.toks+bZ P w k}) c h (wpAny_point (r _ {_,_,ep,Heap.get?_update_self _ c (Obj.isFreed_of_dict (Obj.data_mapDict h _)),i.mapDict _,Obj.data_mapDict h _,?_,keep _ (Heap.SameBut.update ..),Bh hn} (Heap.SameBut.update ..))))));@pG;[n,qF (show(!x.2.2).isSome=true from rfl)];this:=Oc (P:=P) (w:=w) (v:=val) hn b ex;this<-[<-m];{l}:=es;0<|this
end
abbrev GP(H:Hp):KD×V×V->KD×MD×MD->Prop:=λp q=>p.1=q.1/\GK H p.1 p.2.1/\RelV p.2.1 q.2.1/\RelV p.2.2 q.2.2
section
variable {X:Cx}{pins:List (To×Obj)}{σ:St}{H:Hp}{s:Tj}{a:To}{y v:V}{u r:MD}{k:KD}{kvs:List 67}{A:Around}{E:KE}
def GK.is(I:Inv X pins σ H s)(g:GK H k y)(a:RelV y u):dV X.prog X.w s.heap k u:=do(by cases k with|aS|int i|tup ks|two ks ls=>?_);-g;a;-g;a;{b,rfl,e}:=g;{b,a,rB I.aZ e};{b,c,d,rfl,e,q,r}:=g;{its,p,{o,m,j,n,l},_}:=I.tuple (aQ.of e);{t,v,rfl,h,f}:=p.two;-h;-f;{b,a,o,c,d,n,m,j,l,rB I.aZ q,rB I.aZ r}
theorem J0:∀{l:List 67} {m:List (KD×MD×MD)},Paired F l m->∀x∈m,∃p∈l,F p x|_,_,.nil,x,h=>nomatch h|_,_,.cons f t,x,h=>do rfl||h:=qy.mp h;⟨_,qm,f⟩;{p,hp,q}:=J0 t x h;{p,qz _ hp,q}
theorem pR:∀{l:List 67} {m:List (KD×MD×MD)},Paired (GP H) l m->fx (vG l k) (vG m k)|_,_,.nil=>trivial|_,_,.cons (a:=p) (b:=q) f t=>do c:=pR t;(by unfold vG at c ⊢);[ww,ww,<-f.1];e<|p.1=k;[qH e];f.2.2.2;[decide_eq_false e];c
theorem Jd(c:RelV v r):∀{l:List 67} {m:List (KD×MD×MD)},Paired (GP H) l m->Paired (GP H) (l.map λe=>if e.1=k then(e.1,e.2.1,v) else e) (m.map λe=>if e.1=k then(e.1,e.2.1,r) else e)|_,_,.nil=>.nil|_,_,.cons (a:=p) (b:=q) f t=>do .cons ?_ (Jd c t);¬GP H (if p.1=k then(p.1,p.2.1,v) else p) (if q.1=k then(q.1,q.2.1,r) else q);[<-f.1];3;{O,f.2.1,f.2.2.1,c};f
def wZ(t:Paired (GP H) l m)(g:GK H k y)(b:RelV y u)(a:RelV v r):Paired (GP H) (pG l k y v) (pG m k u r):=do e:(vG l k).isSome=(vG m k).isSome:=(pR t).fH;@pG;[e];3;Jd a t;Paired.snoc t {O,g,b,a}
theorem ti:∀{l:List 67} {m:List (KD×MD×MD)},Paired (GP H) l m->l.length=m.length|_,_,.nil=>rfl|_,_,.cons _ t=>do[zd,zd,ti t]
def eA(I:Inv X pins σ H s)(e:Rd H a 69):kvs.length<=sizeLine/\(a==sysModules)=false/\∃xs,Paired (GP H) kvs xs/\cA X.prog X.w s.heap a xs:=do _;{z,y,xs,r,o,es,ep,h1,h2,g,b,c}:=(show aV X.prog X.w H s.heap a 69 from e.ok I.aZ);{z,y,xs,r,o,es,ep,h1,h2,g,b,λx d=>?_,c};{p,hp,f}:=J0 r x d;[<-f.1];f.2.1.is I f.2.2.1
def Rt(m:A.units+2<cLine)(I:Inv X pins σ H s)(e:Rd H a 69)(g:GK H k y)(l:vG kvs k=!v)(i:RelV y u)(h:∀b s',Inv X pins σ H s'->RelV v b->Q b s') : wpAny 48 A (getItem (.ref a) u) Q E s:=do _;{z,n,xs,d,c}:=eA I e;{b,j,f}:=fx.some_of (v:=v) (o:=vG xs k) (do[<-l];pR d);@getItem;(by try with_reducible refine qK ?_);qA (wpAny_sequenceKey c.typeIs ⋯ (qA (wpAny_callSpecial?_slot (name:=Str.ofString "__getitem__") c.typeIs F.slot_dict_getitem (qO F.slot_dict_getitem c.typeIs F.entry_dict_getitem ?_ (F.args_dict_getitem_2 _ _)))));¬wpAny 48 _ (dictGet a u >>= _) _ _ s;qA (CB (show A.in1.units+1<cLine from(do¬A.units+1+1<cLine;())) (g.is I i) c ?_);[j];qE {b,O,qE (h b _ (I.tok _) f)}
def Ku(l:A.units+2<cLine)(I:Inv X pins σ H s)(e:Rd H a 69)(g:GK H k y)(i:RelV y u)(h:∀s',Inv X pins σ H s'->Q (vG kvs k).isSome s') : wpAny 48 A (contains (.ref a) u) Q E s:=do _;{z,j,xs,d,b}:=eA I e;c:(vG kvs k).isSome=(vG xs k).isSome:=(pR d).fH;@contains;(by try with_reducible refine qK ?_);qA (wpAny_specialOf b.typeIs F.slot_dict_contains.lookup ?_);¬wpAny 48 A (if(some (Value.builtin "dict.__contains__")==!Value.none)=true then _ else _) _ E s;[qB (by rw[beq_builtin_none];decide)];qA (wpAny_callSpecialUnlessNone?_slot (name:=Str.ofString "__contains__") b.typeIs F.slot_dict_contains (qO F.slot_dict_contains b.typeIs F.entry_dict_contains ?_ (F.args_dict_contains_2 _ _)));¬wpAny 48 _ (dictGet a u >>= _) _ _ s;qA (CB (show A.in1.units+1<cLine from(do¬A.units+1+1<cLine;())) (g.is I i) b ?_);(by cases f:vG xs k with|some p|none=>?_);c<-[f];qE {Value.bool true,O,wpAny_truthy_bool ?_};this:=h _ (I.tok (s.toks+bZ X.prog X.w k));this<-[c];this;c<-[f];¬wpAny 48 _ (Builtin.Dict.pendingKey? a u >>= _) _ _ _;qA (wpAny_pendingKey_other j (qE {Value.bool false,O,wpAny_truthy_bool ?_}));this:=h _ (I.tok (s.toks+bZ X.prog X.w k));this<-[c];this
def Nk(D:A.units+2<cLine)(I:Inv X pins σ H s)(e:H a=! 69)(g:GK H k y)(G:kvs.length<sizeLine)(j:RelV y u)(B:RelV v r)(h:∀s',Inv X pins σ (upd H a (.dG (pG kvs k y v))) s'->Q Unit.unit s') : wpAny 48 A (setItem (.ref a) u r) Q E s:=do _;{z,C,xs,c,d}:=eA I (.inl e);@setItem;(by try with_reducible refine qK ?_);qA (wpAny_sequenceKey d.typeIs ⋯ (qA (wpAny_callSpecial?_slot (name:=Str.ofString "__setitem__") d.typeIs F.slot_dict_setitem (qO F.slot_dict_setitem d.typeIs F.entry_dict_setitem ?_ (F.args_dict_setitem_3 _ _ _)))));¬wpAny 48 _ (Builtin.Dict.notOrdered "__setitem__" {[.ref a,u,r],[]} >>= _) _ _ s;qA (wpAny_notOrdered_dict d.typeIs ?_);¬wpAny 48 _ (dictSet a u r >>= _) _ _ s;qA (FA (show A.in1.units+1<cLine from(do¬A.units+1+1<cLine;())) (g.is I j) d (do[<-ti c];z) λh' i f=>qE {Value.none,O,qE (h _ ?_)});{q,es,ep,l,h2,x,t,_,o}:=i;n:=iA kvs k y v;pY I (do[e];True.intro) f {q,l} {(),C,_,Paired.lD (wZ c g j B) λp q z=>{z.1,z.2.1.cW λb xs m=>?_,z.2.2},q,es,ep,l,h2,x,t,o};[aB (oA m e (λz=>nomatch z))];m
end
inductive wh(Q:VK)(x y:V)(H2:Hp):Prop
 |mk(a kvs k v:_)(_:x=.ref a)(_:Rd H2 a 69)(_:GK H2 k y)(_:vG kvs k=!v)(_:Q v H2)
def AS(td ty:TE):TE:=λσ H Q=>td σ H λx H1=>ty σ H1 λy H2=>wh Q x y H2
inductive Lj(neg:Bool)(y x:V)(H:Hp)(Q:VK):Prop
 |mk(a kvs k:_)(_:x=.ref a)(_:Rd H a 69)(_:GK H k y)(_:Q (.bl (if neg then not (vG kvs k).isSome else(vG kvs k).isSome)) H)
inductive vT(D:Ends)(σ:St)(v x y:V)(H3:Hp):Prop
 |mk(a kvs k:_)(_:x=.ref a)(_:H3 a=! 69)(_:GK H3 k y)(_:kvs.length<sizeLine)(_:D.nx σ (upd H3 a (.dG (pG kvs k y v))))
def FU(td ty tv:TE):TS:=λD σ H=>tv σ H λv H1=>td σ H1 λx H2=>ty σ H2 λy a=>vT D σ v x y a
section
variable {X:Cx}{o i e value:Expr}{pos pos' tpos:Pos}{td ty tv:TE}
def dI(n:X.A.units+2<cLine)(e:PE X o td)(hi:PE X i ty)(r:DD i):PE X (.Subscript o i pos) (AS td ty):=do _;{?_};(pins,s,σ,H,Q,I,h);IP PySem.F.slot_dict_getitem.lookup r (bI (e pins s σ H _ I h) λu m ⟨x,H1,f,w,t⟩=>bI (hi pins m σ H1 _ f t) λC s2 ⟨y,H2,c,j,a,kvs,k,v,ex,d,g,l,p⟩=>?_);!ex;(by obtain rfl:u=Value.ref a:=w);{_,_,xs,_,q}:=eA c d;{q.typeIs,Rt n c d g l j λB D z b=>{v,H2,z,b,p}}
def qZ(c:X.A.units+2<cLine):dn X (compareOp .In) (Lj false):=do(pins,s,σ,H,x,y,v,u,Q,I,f,b,h);{a,kvs,k,rfl,d,g,q}:=h;-b;¬wpAny 48 X.A (do{return Value.bool (<-contains (.ref a) v)}) _ _ s;qA (Ku c I d g f λs' e=>qE {.bl _,H,e,O,q})
def xj(c:X.A.units+2<cLine):dn X (compareOp .NotIn) (Lj true):=do(pins,s,σ,H,x,y,v,u,Q,I,f,b,h);{a,kvs,k,rfl,d,g,q}:=h;-b;¬wpAny 48 X.A (do{return Value.bool (not (<-contains (.ref a) v))}) _ _ s;qA (Ku c I d g f λs' e=>qE {.bl _,H,e,O,q})
def jZ(m:X.A.units+2<cLine)(j:PE X o td)(hi:PE X i ty)(b:PE X value tv)(B:swapsWith value (!(.Subscript o i pos')) pos.line X.env=pure false) : PS X (.Assign [.Subscript o i pos'] value pos) (FU td ty tv):=do _;{?_};(pins,s,σ,H,D,I,h);wpAny_Assign_Subscript (bI (b pins s σ H _ I h) λr z ⟨v,H1,w,f,q⟩=>bI (j pins z σ H1 _ w q) λu s2 ⟨x,H2,c,E,n⟩=>bI (hi pins s2 σ H2 _ c n) λG K ⟨y,F,t,l,a,kvs,k,ex,e,g,p,C⟩=>?_) B;!ex;(by obtain rfl:u=Value.ref a:=E);Nk m t e g p l f λJ d=>{σ,_,d,C}
def KI:TE:=λ_ H Q=>∀p H',H p=none->ag H H'->H' p=!(.dG [])->Q (.ref p) H'
def LQ(h:Heap)(a:sysModules<h.objs.size):aV P w H (h.push {cls:=.type "dict",data:=.dict #[]}) h.objs.size (.dG []) := {qx _,beq_eq_false_iff_ne.mpr (Ne.symm (qi a)),[],.nil,_,#[],0,qL _ rfl,{O,O,O},O,O,v9}
def kH:PE X (.Dict [] [] pos) KI:={λpins s σ H Q I h => wpAny_Dict_empty {.ref ↑s,_,I.laid (a:=↑s) (o:=.dG []) (t':=s.toks) (λ_ _ q=>qI _ q) (qb _) (LQ s.heap I.jH),O,h _ _ (I.aZ.fresh (qb _)) (ag.new (I.aZ.fresh (qb _))) aE}}
end
def Qu:typeLookup (.type "list") "keys"=pure none:=by rw[typeLookup_type,builtinLookup_eq_fast];kernel_rfl
section
variable {prog:Program}{w:World}{A:Around}{E:KE}
def NR(f:s.heap.get? a=some {cls:=.type "list",dict:=none,data:=.seq xs k,slots:=sl})(j:A.handled=none)(h:∀h' tk,eO s.heap h'->Q none {s with heap:=h',toks:=tk}):wpAny 66 A (getAttr? (.ref a) "keys") Q E s:=do _;{hp,g,d,tk,l}:=s;i:∀b,(⟨hp,g,d,b,l⟩:Tj).TypeIs (.ref a) "list":=λ_=>{_,f,O};r:=sub_AttributeError;t:=F.slot_list_getattribute.lookup;m:=F.slot_list_getattribute.bind (.ref a);p:=am_list_getattr_none;z:(Str.ofString "keys").length+100<=sizeLine:=(do this:=cC (n:=1000) (qb _);e:(Str.ofString "keys").length=4:=rfl;());(by unfold getAttr? getAttrBy? getAttrBy;repeat any_goals first|assumption|exact i _|(with_reducible show wpAny _ _ (call (Value.builtin "list.__getattribute__") _ _) _ _ _);refine call_meets F.slot_list_getattribute (i _) am_entry_list_getattribute (F.args_list_getattribute_2 _ _) (meets_getattribute_miss_list a xs k sl "keys" _ Qu ∅ z) ⟨f,j,λh' b e c=>?_⟩|wp_step);{t',q,o}:=c.there;¬wpAny 66 A (getattributeRaised _ _ _ _ _ _ _) _ _ _;@getattributeRaised;(by repeat any_goals first|assumption|wp_step);h _ _ c.keeps
end
def Kv:entryFor table "dict.update.loop"=some Builtin.«dict.update.loop»:=entryFor_of_tree (by kernel_rfl)
def wJ:plainId "dict.update.loop"=true:=∅
def Li(h h':Heap):Prop:=∀b o,h.get? b=!o->o.cls=.type "tuple"->h'.get? b=!o
section
variable {P:Program}{w:World}{A:Around}
def Oh(a:s.heap.get? b=!o)(c:o.data=.seq xs n)(q:Q (!xs) s):wpAny M A (seqItems? (.ref b)) Q E s:=do@seqItems?;qA (wpAny_load a ?_);[c];qE q
def putAll{α β:Type}(xs:List (KD×α×β)):List (KD×α×β)->List (KD×α×β)|[]=>xs|e::r=>putAll (pG xs e.1 e.2.1 e.2.2) r
def Qi{α β:Type}(ps:List (KD×α×β)):∀xs,(putAll xs ps).length<=xs.length+ps.length:=do(by induction ps with|nil|cons e r a=>?_);(xs);qb _;(xs);h1:=a (pG xs e.1 e.2.1 e.2.2);h2:=iA xs e.1 e.2.1 e.2.2;¬(putAll (pG xs e.1 e.2.1 e.2.2) r).length<=_;[zd];()
def fN(P:Program)(w:World)(h:Heap)(v:MD)(e:KD×MD×MD):Prop:=∃b,v=.ref b/\h.IsTuple b #[e.2.1,e.2.2]/\dV P w h e.1 e.2.1
def fN.cW(p:fN P w h v e)(t:Li h h'):fN P w h' v e:=do _;{b,rfl,{o,h1,h2,a},g}:=p;{b,O,{o,t _ _ h1 h2,h2,a},g.ext t}
def cA.keep(g:cA P w h d xs)(k:∀o,h.get? d=!o->h'.get? d=!o)(t:Li h h'):cA P w h' d xs:=do _;{o,es,ep,h1,h2,f,e,b,a}:=g;{o,es,ep,k o h1,h2,f,e,λx c=>(b x c).ext t,a}
def J9(a:h.IsListIter I l i)(k:∀b o,b≠I->h.get? b=!o->h'.get? b=!o):Li h h':=λb o e c=>k b o (λz=>do _;{o',f,d,_}:=a;e<-[z,f];-e;c<-[d];absurd c ⋯) e
def RJ(hh:A.handled=none)(hu:A.units+2<cLine)(hIl:l≠I)(k:D≠I)(V:D≠l) : ∀(ps:List (KD×MD×MD)) (i:Nat) (xs:List (KD×MD×MD)) (s:Tj) (j:Int) (u:Tok),i+ps.length=items.size->s.heap.IsListIter I l i->s.heap.IsList l items->cA P w s.heap D xs->xs.length+ps.length<=sizeLine-> (∀(m:Nat) e,ps[m]?=!e->∃v,items[i+m]?=!v/\fN P w s.heap v e)-> (∀s':Tj,(∀b o,b≠I->b≠D->s.heap.get? b=!o->s'.heap.get? b=!o)->cA P w s'.heap D (putAll xs ps)->(∃tk,s'={s with heap:=s'.heap,toks:=tk})->R (.ok (.ret .none)) s')-> codeAny (model P w) A (.builtin "dict.update.loop" {[.ref D,.ref I,.int j u,.none],[]}) R s:=do W:=Walks.list (prog:=P) (w:=w) (A:=A.in1) (do 0<|hh) I l hIl items;(ps);(by induction ps with|nil|cons e ps ih=>?_);(i,xs,s,j,u,hi,d,G,U,hz,hp,N);X:i=items.size:=(do 0<|hi);!X;codeAny_builtin Kv ?_;[Around.under_plainId wJ _];¬wpAny (model P w) A.in1 (pyNext (.ref I) >>= _) _ _ s;qA (W.done s _ _ {d,G} λh' tk J=>?_);h:∀b o,b≠I->s.heap.get? b=!o->h'.get? b=!o:=λb o p e=>J b o (do 0<|p) e;qA (qE (qE (N {h',s.gens,s.drawn,tk,s.os} (λb o h1 _ e=>h b o h1 e) (U.keep (λo e=>h D o k e) (J9 d h)) {tk,O})));(i,xs,s,j,u,hi,d,G,U,hz,hp,N);codeAny_builtin Kv ?_;[Around.under_plainId wJ _];¬wpAny (model P w) A.in1 (pyNext (.ref I) >>= _) _ _ s;qA (W.item i s _ _ (do hi<-[zd];()) {d,G} λv h' tk hv st J=>?_);h:∀b o,b≠I->s.heap.get? b=!o->h'.get? b=!o:=λb o p e=>J b o (do 0<|p) e;ts:=J9 d h;{v',g,pv}:=hp 0 e rfl;ev:v'=v:=(do g<-[Nat.add_zero];g<-[hv];(qJ g).symm);!ev;t:=U.keep (h':=h') (λo e=>h D o k e) ts;S:=pv.cW ts;{b,rfl,p,ge}:=id S;hT:Shared.TypeIs ⟨h',s.gens,s.drawn,tk,s.os⟩ (.ref b) "tuple":=(do _;{o,h1,h2,_}:=p;{o,h1,h2});{ob,B,hb2,nb,x}:=id p;pr:∀{Q:List MD->Tj->Prop} {E:KE},Q [e.2.1,e.2.2] ⟨h',s.gens,s.drawn,tk,s.os⟩->wpAny (model P w) A.in1 (Builtin.Dict.pairItems (.ref b)) Q E ⟨h',s.gens,s.drawn,tk,s.os⟩:=λ{Q E} q=>(do@Builtin.Dict.pairItems;qA (wpAny_typeOf hT ?_);[qF ⋯];qA (Oh B x (qE q)));qA (qK (qA (wpAny_tryCatch (pr ?_))));qK (FA (show A.in1.units+1<cLine from(do¬A.units+1+1<cLine;())) ge t (do hz<-[zd];()) λh2 hd2 f=>?_);tD:Li h' h2:=λb o K c=>(f.2 b (λz=>do _;{o',_,_,Y,r,_}:=t;K<-[z,Y];-K;c<-[r.1];absurd c ⋯)).trans K;qE {plainId_quiet wJ _,ih (i+1) _ _ _ _ (do hi<-[zd];()) ?_ ?_ hd2 ?_ (λm Y H=>?_) λs' C T Z=>?_};{o,h1,a,M}:=st.1;{o,(f.2 I (λz=>k z.symm)).trans h1,a,M};{o,h1,a,n,M}:=st.2;{o,(f.2 l (λz=>V z.symm)).trans h1,a,n,M};this:=iA xs e.1 e.2.1 e.2.2;hz<-[zd];();{v2,y,L}:=hp (m+1) Y (do 0<|H);{v2,do[<-y];(by congr 1);(),(L.cW ts).cW tD};N s' (λb o h1 a r=>C b o h1 a ((f.2 b a).trans (h b o h1 r))) T ?_;{F,r}:=Z;{F,do[r]}
def N2{s:Tj}{l:To}{items:Array MD}{n:Nat}{sl:Array (Option MD)}{E:KE}{Q:KE}{ps:List (KD×MD×MD)}(p:A.handled=none)(H:A.units+4<cLine)(k:s.heap.get? l=some {cls:=.type "list",dict:=none,data:=.seq items n,slots:=sl})(hn:ps.length=items.size)(hz:ps.length<=sizeLine)(hp:∀(m:Nat) e,ps[m]?=!e->∃v,items[m]?=!v/\fN P w s.heap v e)(h:∀h' tk d,eO s.heap h'->↑s<=d->cA P w h' d (putAll [] ps)->Q (.ref d) {s with heap:=h',toks:=tk}):wpAny (model P w) A (call (.type "dict") [.ref l]) Q E s:=do callType_codes (Q₁:=λobj c=>obj=.ref ↑s/\c={s with heap:=s.heap.push {cls:=.type "dict",data:=.dict #[]}}) F.kt_called_dict (F.kt_typeCall_dict_1 _) F.entry_dict_init (kt_code_dict_new _ {O,O}) ?_;(obj,c,{rfl,rfl});new:cA P w (s.heap.push {cls:=.type "dict",data:=.dict #[]}) ↑s []:={_,#[],0,qL _ rfl,{O,O,O},O,O,λx G=>(nomatch G),v9};a:(s.heap.push {cls:=.type "dict",data:=.dict #[]}).get? l=some {cls:=.type "list",dict:=none,data:=.seq items n,slots:=sl}:=qI _ k;j:Shared.TypeIs {s with heap:=s.heap.push {cls:=.type "dict",data:=.dict #[]}} (.ref ↑s) "dict":=cA.typeIs (P:=P) (w:=w) (s:={s with heap:=s.heap.push {cls:=.type "dict",data:=.dict #[]}}) new;{j,F.args_dict_init_2 _ _,?_};@Builtin.«dict.__init__»;qA ?_;@Builtin.Dict.selfAndRest;qA (wpAny_notOrdered_dict j (qE ?_));¬wpAny (model P w) _ (Builtin.Dict.updateFrom "dict.__init__" ↑s (.ref l) [] .none) _ _ _;@Builtin.Dict.updateFrom;qA (wpAny_typeOf (show Shared.TypeIs {s with heap:=s.heap.push {cls:=.type "dict",data:=.dict #[]}} (.ref l) "list" from{_,a,O}) ?_);[qF ⋯];qA (NR a (do 0<|p) λh1 I f=>?_);[qF (do 2)];g:h1.IsList l items:={_,f _ _ a,O,n,O};qA (wpAny_rule (qA (wpAny_pyIter_list g ?_)));r:↑s<h1.objs.size:=(do _;{o,_,_,e,_}:=new;qG (f _ _ e));D:l<h1.objs.size:=qG (f _ _ a);z:l<↑s:=qG k;q:∀b o,s.heap.get? b=!o->b≠h1.objs.size/\b≠↑s:=λb o e=>(do this:=qG e;{qi (jw this r),qi this});i:Li (s.heap.push {cls:=.type "dict",data:=.dict #[]}) (h1.push {cls:=.type "list_iterator",data:=.fields #[.ref l,.int 0 0]}):=λb o e _=>qI _ (f _ _ e);qE {plainId_quiet wJ _,RJ (A:=A.in1) (l:=l) (items:=items) (do 0<|p) (show A.units+1+2<cLine from ()) (Nat.ne_of_lt D) (Nat.ne_of_lt r) (Nat.ne_of_gt z) ps 0 [] _ _ _ (do[Nat.zero_add];hn) {_,qL _ rfl,O,O} (g.push _) (new.keep (λo e=>qI _ (f _ _ e)) i) (do 0<|hz) (λm e y=>?_) λs' B t C=>?_};{v,u,pv}:=hp m e y;{v,do[je];u,(pv.cW (λb o e _=>qI _ e)).cW i};{tk,es}:=C;(by rw[es]at t ⊢);{O,h _ tk _ (λb o e=>B b o (q b o e).1 (q b o e).2 (qI _ (f _ _ (qI _ e)))) (qb _) t}
end
def cm(H:Hp):List V->List 67->Prop|[],[]=>True|y::ys,e::es=>(∃b,y=.ref b/\H b=! (.tup [e.2.1,e.2.2])/\GK H e.1 e.2.1)/\cm H ys es|_,_=>False
section
variable {X:Cx}{pins:List (To×Obj)}{σ:St}{H:Hp}{s:Tj}
theorem HA(I:Inv X pins σ H s):∀{ys:List V} {us:List MD} {kvs:List 67},aK ys us->cm H ys kvs->∃ps,Paired (GP H) kvs ps/\ps.length=us.length/\∀(m:Nat) e,ps[m]?=!e->∃v,us[m]?=!v/\fN X.prog X.w s.heap v e|[],_,[],.nil,_=>{[],.nil,O,λm e z=>do-z}|[],_,_::_,.nil,h=>h.elim|_::_,_,[],.cons _ _,h=>h.elim|y::ys,_,e::es,.cons r t,h=>do _;{{b,rfl,u,g},h2}:=h;{ps,j,p2,l}:=HA I t h2;-r;{its,A,{o,x,p,n,q},_}:=I.tuple (aQ.of u);{f,i,rfl,c,d}:=A.two;{(e.1,f,i)::ps,.cons {O,g,c,d} j,do[zd,zd,p2],λm k a=>?_};(by cases m with|zero|succ m=>?_);-a;{_,O,b,O,{o,x,p,n,q},g.is I c};{v,h1,h2}:=l m k (do 0<|a);{v,do 0<|h1,h2}
theorem JN:∀{l:List 67} {m:List (KD×MD×MD)},Paired (GP H) l m->∀{a:List 67} {b:List (KD×MD×MD)},Paired (GP H) a b->Paired (GP H) (putAll a l) (putAll b m)|_,_,.nil,_,_,t=>t|_,_,.cons (a:=p) (b:=q) f t,a,b,t2=>do¬Paired (GP H) (putAll (pG a p.1 p.2.1 p.2.2) _) (putAll (pG b q.1 q.2.1 q.2.2) _);[<-f.1];JN t (wZ t2 f.2.1 f.2.2.1 f.2.2.2)
inductive A8(xs:List V)(H:Hp)(Q:VK):Prop
 |mk(p ys kvs:_)(_:xs=[.ref p])(_:az H p ys)(_:cm H ys kvs)(_:ys.length<=2000)(_:∀q H',H q=none->ag H H'->H' q=!(.dG (putAll [] kvs))->Q (.ref q) H')
def fG(E:X.A.handled=none)(C:X.A.units+4<cLine):cn X (.type "dict") (A8):=do(pins,s,σ,H,xs,us,Q,I,r,h);{p,ys,kvs,rfl,F,hp,hz,q}:=h;{u,rfl,P}:=vals1 r;-P;{its,i,{o,n,e,y,k,l},_}:=I.list F;{J,t,data,sl}:=o;(by dsimp only at y k l;subst y k l);{ps,j,p2,D}:=HA I i hp;S:=i.length;U:2000<=sizeLine:=⋯;N2 E C e (do[ze];p2) () (λm R c=>?_) λh' tk d x f g=>?_;{v,h1,h2}:=D m R c;{v,do 0<|h1,h2};{o',es,ep,N,B,M,L,_,G}:=g;fr:H d=none:=I.aZ.fresh f;K:=Qi kvs [];T:=ti j;{.ref d,upd H d (.dG (putAll [] kvs)),I.laid x f {?_,?_,_,Paired.lD (JN j .nil) λa b z=>{z.1,z.2.1.cW λb xs w=>?_,z.2.2},o',es,ep,N,B,M,L,G},O,q d _ fr (ag.new fr) aE};K<-[yz];();beq_eq_false_iff_ne.mpr (Ne.symm (qi (zf I.jH f)));[aB (a9 w fr)];w
end
section
variable {P:Program}{w:World}{A:Around}{E:KE}{s:Tj}
def Fp(f:(d==sysModules)=false):MeetsIn P w (Builtin.«dict.__len__» {[.ref d],[]}) (λ_ R s=>∃xs,cA P w s.heap d xs/\R (.ok (.ret (.int xs.length s.toks))) {s with toks:=s.toks+1}) := .of_wp λA R s ⟨xs,g,h⟩=>do _;{o,es,ep,b,i,a,c,_,_}:=g;¬wpAny (model P w) _ (dictSize d >>= _) _ _ s;@dictSize;qA (qA (wpAny_dictEntries b a (qE ?_)));qA (wpAny_pendingCount_other f (wpAny_ret_mkInt ?_));e:es.size=xs.length:=(do[<-zk,c,qh]);[Nat.add_zero,e];h
def CU(a:(d==sysModules)=false)(g:cA P w s.heap d xs)(hz:xs.length<=sizeLine)(h:Q (.int xs.length (s.toks+1)) {s with toks:=s.toks+1+1}):wpAny (model P w) A (call (.builtin "len") [.ref d]) Q E s:=do Calls.call_function_entry kind_len plain_len entry_len (args_len1 _) ?_;@Builtin.«len»;qA (m:=oneArg "len" _) (qE (qA (m:=callSpecial? (.ref d) (Str.ofString "__len__")) (wpAny_callSpecial?_slot (name:=Str.ofString "__len__") g.typeIs F.slot_dict_len (call_meetsIn F.slot_dict_len g.typeIs F.entry_dict_len (F.args_dict_len_1 _) (Fp a) {xs,g,?_}))));¬wpAny (model P w) _ _ _ _ {s with toks:=s.toks+1};qA (qK (qE (qA (wpAny_letGo ?_))));hz<-[sizeLine_eq];¬wpAny (model P w) _ (if((xs.length:Nat):Int)<0 then _ else _) _ _ _;[qB ()];¬wpAny (model P w) _ (if((xs.length:Nat):Int)>=2 ^ 63 then _ else _) _ _ _;[qB ()];qA (wpAny_mkInt (qE {_,O,h}))
def OY(f:(d==sysModules)=false):MeetsIn P w (Builtin.«dict.get» {[.ref d,v,b],[]}) (λA R s=>A.in1.units+1<cLine/\∃k xs,dV P w s.heap k v/\cA P w s.heap d xs/\R (.ok (.ret ((vG xs k).getD b))) {s with toks:=s.toks+bZ P w k}) := .of_wp λA R s ⟨c,k,xs,a,g,h⟩=>do¬wpAny (model P w) _ (dictGet d v >>= _) _ _ s;qA (CB c a g ?_);(by cases e:vG xs k with|some u|none=>?_);h<-[e];qE {u,O,h};h<-[e];¬wpAny (model P w) _ (Builtin.Dict.missed d v >>= _) _ _ _;qA (wpAny_missed_other f (qE {b,O,h}))
def RD{v val:MD}(n:A.units+1<cLine)(a:dV P w s.heap k v)(g:cA P w s.heap d xs)(hsz:xs.length<=sizeLine)(h1:∀u,vG xs k=!u->Q u {s with toks:=s.toks+bZ P w k})(h2:vG xs k=none->∀h',cA P w h' d (pG xs k v val)->Heap.SameBut d s.heap h'->Q val {s with heap:=h',toks:=s.toks+bZ P w k}):wpAny (model P w) A (dictSetDefault d v val) Q E s:=do _;{o,es,ep,c,m,i,l,h,hn}:=g;sz:es.size=xs.length:=(do[<-zk,l,qh]);@dictSetDefault;(by try with_reducible refine qK ?_);qA (a.hash n (qA (EB (s:={s with toks:=s.toks+bZ P w k}) n a c i l h hn ?_)));(by cases e:fR xs k with|none|some j=>?_);f:=nV (CW e);qA (wpAny_rule (qA (wpAny_updateDictKeys (hz:=do()) (s:={s with toks:=s.toks+bZ P w k}) c i (qE (h2 f _ {_,_,ep+1,Heap.get?_update_self _ c (Obj.isFreed_of_dict (Obj.data_mapDictKeys i _)),m.mapDictKeys _,Obj.data_mapDictKeys i _,?_,λx b=>?_,Bh hn} (Heap.SameBut.update ..))))));@pG;[f,qB ⋯];#[l,dP];(by unfold pG at b);b<-[f,qB ⋯];b||b:=zg.mp b;um (es:=es) (ep:=ep) c m (Heap.SameBut.update ..) (h x b);[qt.mp b];um (es:=es) (ep:=ep) c m (Heap.SameBut.update ..) a;{x,b,ex}:=Dm e;f:=pM hn b ex;qA (wpAny_dictEntries (s:={s with toks:=s.toks+bZ P w k}) c i ?_);[<-yr,l,qj,b];qA (wpAny_rule (qE (h1 _ f)))
def N0(h:(d==sysModules)=false):MeetsIn P w (Builtin.«dict.setdefault» {[.ref d,v,b],[]}) (λA R s=>A.in1.units+1<cLine/\∃k xs,dV P w s.heap k v/\cA P w s.heap d xs/\xs.length<=sizeLine ∧ (∀u,vG xs k=!u->R (.ok (.ret u)) {s with toks:=s.toks+bZ P w k})/\(vG xs k=none->∀h',cA P w h' d (pG xs k v b)->Heap.SameBut d s.heap h'->R (.ok (.ret b)) {s with heap:=h',toks:=s.toks+bZ P w k})) := .of_wp λA R s ⟨f,k,xs,a,g,hz,h1,h2⟩=>do@Builtin.«dict.setdefault»;qA ?_;@Builtin.Dict.keyAndDefault;qA (wpAny_notOrdered_dict g.typeIs (qE ?_));¬wpAny (model P w) _ (if(d==sysModules)=true then _ else(dictSetDefault d v b >>= _)) _ _ s;[qB (by rw[h];decide)];qA (RD f a g hz (λu c=>qE {u,O,h1 u c}) λc h' g' e=>qE {b,O,h2 c h' g' e})
end
def M2(h:fx a b)(r:RelV x u):RelV (a.getD x) (b.getD u):=by cases a <;> cases b <;> first|exact h|exact r|exact h.elim
section
variable {X:Cx}
inductive n_(xs:List V)(H:Hp)(Q:VK):Prop
 |mk(a kvs:_)(_:xs=[V.ref a])(_:H a=! 69)(_:Q (.int kvs.length) H)
def Cf:cn X (.builtin "len") n_:=do(pins,s,σ,H,xs,us,Q,I,r,h);{a,kvs,rfl,f,q}:=h;{u,rfl,c}:=vals1 r;-c;{z,g,ys,b,d}:=eA I (.inl f);e:=ti b;CU g d () {.int kvs.length,H,I.tok _,{_,do[e]},q}
inductive Io(x:V)(vs:List V)(H:Hp)(Q:VK):Prop
 |mk(a kvs k y d:_)(_:x=.ref a)(_:vs=[y,d])(_:H a=! 69)(_:GK H k y)(_:Q ((vG kvs k).getD d) H)
inductive wA(x:V)(vs:List V)(H:Hp)(Q:VK):Prop
 |mk(a kvs k y d:_)(_:x=.ref a)(_:vs=[y,d])(_:H a=! 69)(_:GK H k y)(_:kvs.length<sizeLine)(_:(∀u,vG kvs k=!u->Q u H))(_:(vG kvs k=none->Q d (upd H a (.dG (pG kvs k y d)))))
def kR(j:X.A.units+2<cLine):yM X "dict.get" Io:=do(pins,s,σ,H,x,xs,v,us,Q,I,m,l,h);{a,kvs,k,y,d,rfl,rfl,i,g,q}:=h;{u,o,rfl,f,c}:=l.two;-m;{z,n,ys,b,e}:=eA I (.inl i);call_meetsIn F.slot_dict_get e.typeIs F.entry_dict_get (F.args_dict_get_3 _ _ _) (OY n) {j,k,ys,g.is I f,e,{_,H,I.tok _,M2 (pR b) c,q}}
def Kt(G:X.A.units+2<cLine):yM X "dict.setdefault" wA:=do(pins,s,σ,H,x,xs,v,us,Q,I,N,D,h);{a,kvs,k,y,d,rfl,rfl,j,g,O,K,J}:=h;{u,R,rfl,B,i}:=D.two;-N;{z,t,ys,f,o}:=eA I (.inl j);c:=pR (k:=k) f;call_meetsIn F.slot_dict_setdefault o.typeIs F.entry_dict_setdefault (F.args_dict_setdefault_3 _ _ _) (N0 t) {G,k,ys,g.is I B,o,do[<-ti f];z,λP l=>?_,λl h' m n=>?_};c<-[l];(by cases e:vG kvs k with|none|some v=>?_);c<-[e];c.elim;c<-[e];{v,H,I.tok _,c,K v e};c<-[l];(by cases e:vG kvs k with|some v|none=>?_);c<-[e];c.elim;{q,es,ep,r,h2,L,M,_,E}:=m;w:=iA kvs k y d;{d,upd H a (.dG (pG kvs k y d)),pY I (do[j];True.intro) n {q,r} {(),t,_,Paired.lD (wZ f g B i) λp q z=>{z.1,z.2.1.cW λb xs C=>?_,z.2.2},q,es,ep,r,h2,L,M,E},i,J e};[aB (oA C j (λz=>nomatch z))];C
end
def pK(a:bG k A):A.units+4<cLine:=do this:=a.units;()
def cQ(a:bG k A):A.units+2<cLine:=do this:=a.units;()
section
variable {P:Program}{w:World}{fs:List To}{H H1:Hp}{h h1 h2:Heap}
def Un.later(u:Un fs [] H H1 h h1)(k:∀b o,b<h.objs.size->h1.get? b=!o->h2.get? b=!o):Un fs [] H H1 h h2 where
 keep:=λb o q n c a=>k b o (qG q) (u.keep b o q n c a)
 slot:=λb o q n c a=>let⟨sl,e⟩:=u.slot b o q n c a;{sl,k b _ (qG q) e}
 free:=u.free
 there:=λb o q a=>let⟨o',e⟩:=u.there b o q a;{o',k b o' (qG q) e}
 af:=u.af
 dU:=u.dU
 dS:=u.dS
 dM:=λb o xs q n=>k b o (qG q) (u.dM b o xs q n)
def dm.other(x:dm P w H h)(k:∀b u,b≠a->h.get? b=!u->h2.get? b=!u)(hn:H a=none):dm P w H h2:=λb o e=>do ne:∀{c u},H c=!u->c≠a:=λq z=>(do q<-[z,hn];-q);(x b o e).cW (λc u d q=>k c u ?_ q) (λ_ q=>q) λ_ _ q=>q;rfl||d:=d;ne e;ne d
def dm.adopt(x:dm P w H h)(hn:H a=none)(new:aV P w (upd H a o) h a o):dm P w (upd H a o) h:=λb u e=>do d<|b=a;!d;e<-[aE];-e;new;e<-[aB d];(x b u e).cW (λ_ _ _ q=>q) (λc q=>?_) λc xs q=>?_;[aB (λz=>do q<-[z,hn];-q)];q;[aB (λz=>do q<-[z,hn];-q)];q
def Un.adopt{a:To}{o:HO}(u:Un fs [] H H1 h h1)(c:h.objs.size<=a)(hn:H1 a=none):Un fs [] H (upd H1 a o) h h1 where
 keep:=u.keep
 slot:=u.slot
 free:=λb ob q n d=>by
  rw[aB (qi (zf (qG q) c))];exact u.free b ob q n d
 there:=u.there
 af:=λb xs q=>by
  have:=u.af b xs q;rw[aB (λz=>by rw[z,hn]at this;cases this)];exact this
 dU:=λb ob v q=>by
  have:=u.dU b ob v q;rw[aB (λz=>by rw[z,hn]at this;cases this)];exact this
 dS:=λb ps q=>by
  obtain⟨m,this⟩:=u.dS b ps q;exact{m,by rw[aB (λz=>by rw[z,hn]at this;cases this)];exact this}
 dM:=u.dM
end
def oN(n:Nat)(ds:List Tn):Prop:=n<=2000/\(n<64\/ds.Pairwise λa b=>bK a b=true)
def oN.cD(h:oN n ds)(c:ds.length=n)(W:Srt.eP (oJ ds)):MU (oJ ds) n:=do h||h:=h.2;.inl h;.inr λi j a b=>?_;e<|i=j;!e;W.k_ _;W.le_of_lt ?_;this:=yv.mp h i j () () ();(by unfold oJ c8);[zb,zb,qe (),qe ()];this
inductive iz(sp:Sp)(xs:List V)(H:Hp)(Q:VK):Prop
 |mk(p ys ds t:_)(_:xs=[.ref p])(_:az H p ys)(_:ds.length=ys.length)(_:KeysAre ds t)(_:oN ys.length ds)(_:(∀(m:Nat) y d H' (Q':VK),ys[m]?=!y->ds[m]?=!d->ag H H'->(∀H'' kv,ag H' H''->DV H'' kv d->Q' kv H'')->sp [y] H' Q' E0))(_:∀q H' ix,H q=none->ag H H'->c7 ds ix->H' q=!(.lst (ix.map λi=>ys.getD i .aS))->Q (.ref q) H')
section
variable {X:Cx}{pins:List (To×Obj)}{σ:St}{H:Hp}{s:Tj}{k:Nat}{fa:To}{fd:FuncData}{ps:List Tp}{sp:Sp}
structure MF(X:Cx)(H:Hp)(s:Tj)(a kS:To)(e1:Nat)(Hm:Hp)(s':Tj)(ks:List MD)(kvs:List V)(ds:List Tn):Prop where
 un:Un (dY X.stack) [] H Hm s.heap s'.heap
 aZ:dm X.prog X.w Hm s'.heap
 os:s'.os=s.os
 bare:AllBare s'.gens
 same:ag H Hm
 Gw:Hm a=none
 fk:Hm kS=none
 ga:s'.heap.get? a=!(seqObj "list" #[] e1)
 gk:∃e,s'.heap.get? kS=!(seqObj "list" ks.toArray e)
 vals:aK kvs ks
 dv:dD Hm kvs ds
theorem cV(h:DV H x d):∀{xs:List V} {ds:List Tn},dD H xs ds->dD H (xs++[x]) (ds++[d])|_,_,.nil=>.cons h .nil|_,_,.cons a t=>.cons a (cV h t)
theorem Ma{A':Around}{a h:To}{e1:Nat}{E:KE}{R:Tj->Prop}(i:∀(s':Tj) (c:Hp) (x:MD) (y:V) (Q:VK),gP X.prog X.w X.K X.mg X.base A' X.stack s' c->Un (dY X.stack) [] H c s.heap s'.heap->ag H c->RelV y x->sp [y] c Q E0->codeAny 48 A' (.call (.ref fa) {[x],[]}) (CR iW X.stack X.prog X.w c s' Q E0) s')(N:A'.frames=X.A.frames)(I:Inv X pins σ H s)(ha:↑s<=a)(hk:↑s<=h)(M:a≠h)(L:a∉dY X.stack)(T:h∉dY X.stack){q:MD->PUnit->Sem (ForInStep PUnit)}(g:∀x (s':Tj) (R':ForInStep PUnit->Tj->Prop),wpAny 48 A' (call (.ref fa) [x]) (λC s2=>wpAny 48 A' (Builtin.List.listUpdate (.ref h) (·.push C)) (λ_ s3=>R' (.yield ⟨⟩) s3) E s2) (λ_ _=>False) s'->wpAny 48 A' (q x ⟨⟩) R' E s') : ∀(r:List MD) (J:List V) (G:List Tn) (ks:List MD) (kvs:List V) (F:List Tn) (c:Hp) (s':Tj),aK J r->G.length=J.length-> (∀(m:Nat) y d H' (Y:VK),J[m]?=!y->G[m]?=!d->ag H H'->(∀D C,ag H' D->DV D C d->Y C D)->sp [y] H' Y E0)-> ks.length+r.length<=2000->MF X H s a h e1 c s' ks kvs F-> (∀Hn f n l,MF X H s a h e1 Hn f n l (F++G)->n.length=ks.length+r.length->R f)->wpAny 48 A' (forIn r PUnit.unit q) (λ_ f=>R f) E s'|[],J,G,ks,kvs,F,c,s',rv,hl,hsp,hz,st,fin=>(do-rv;hl<-[yz];fin<-[jb.mp hl];[List.forIn_nil];qE (fin c s' ks kvs ?_ rfl);[z6];st)|x::r,_,[],ks,kvs,F,c,s',.cons _ _,hl,hsp,hz,st,fin=>absurd hl (do 0)|x::r,_,d::G,ks,kvs,F,c,s',.cons (a:=y) (l₁:=J) r1 rv,hl,hsp,hz,st,fin=>do[mi];I':Inv X pins σ c s':=I.ij st.os st.un st.aZ st.bare (λb z=>absurd z (do 0));p:=I'.FJ;{ek,gk}:=st.gk;qA (g x s' _ ?_);wpAny_call (codeAny_mono (i s' c x y (λC H2=>ag c H2/\DV H2 C d) {N.trans p.frames,p.mod,p.bs,p.uQ,p.d9,p.wK,p.aZ,p.bare} st.un st.same r1 (hsp 0 y d c _ rfl rfl st.same λH2 C a1 a2=>{a1,a2})) λres s2 P=>?_);(by cases res with|error e|ok fl=>?_);P.elim;(by cases fl with|next|brk|cont|ret u=>?_);P.elim;P.elim;P.elim;{v,H2,os2,t,k,U,rel,j,dv2}:=P;W:=k.keep h _ gk st.fk T (do 0);ga2:=k.keep a _ st.ga st.Gw L (do 0);S:=k.free h _ gk st.fk (do 0);fa2:=k.free a _ st.ga st.Gw (do 0);hz':ks.length+(r.length+1)<=2000:=hz;z64:2000<=sizeLine:=wu (kD ⋯);listUpdate_at W rfl ?_ (do[ze];()) (do[Array.size_push,ze];());{c2,g2}:∃c2,(s2.heap.update h (Obj.mapSeq (·.push u))).get? h=!(seqObj "list" ((ks++[u]).toArray) c2):=(do ea:ks.toArray.push u=(ks++[u]).toArray:=(do 0);{_,do[<-ea];get?_update_seq W (·.push u)});sb:=Heap.SameBut.update s2.heap h (Obj.mapSeq (·.push u));Ma i N I ha hk M L T g r J G (ks++[u]) (kvs++[v]) (F++[d]) H2 _ rv (do 0<|hl) (λm y' d' H' Y h1 h2 h3 h4=>hsp (m+1) y' d' H' Y (do 0<|h1) (do 0<|h2) h3 h4) (do[List.length_append,List.length_singleton];()) {?_,?_,os2.trans st.os,t,st.same.trans j,fa2,S,(sb.2 a M).trans ga2,{c2,g2},?_,?_} λHn f n l O Z=>fin Hn f n l ?_ ?_;(st.un.trans k).later λb o B e=>(sb.2 b (qi (zf B hk))).trans e;U.other (λb u' B e=>(sb.2 b B).trans e) S;st.vals.append (.cons rel .nil);cV dv2 (st.dv.same j);O<-[wt];O;[Z,qg,qr,zd];()
def OB{A':Around}{a c:To}{p:Nat}{E:KE}{P:PySem.Fin->Tj->Prop}{q:Hp}{s':Tj}{ks:List MD}{kvs:List V}{ds:List Tn}{st:SortSt}{out:List MD}{j:List V}(x:↑s<=c)(r:↑s<=a)(m:a≠c)(S:MF X H s a c p q s' ks kvs ds)(hz:ks.length<=2000)(A:out.length<=2000)(g:(arrOf st).map (·.2)=out.toArray)(y:failedOf st=none)(i:aK j out)(k:∀s2 H2,Un (dY X.stack) [] H H2 s.heap s2.heap->dm X.prog X.w H2 s2.heap->s2.os=s.os->AllBare s2.gens->ag H H2->H2 a=!(.lst j)->P (.done (.ret .none)) s2):wpAny 48 A' (ksk_tail a false p (.ref c) st) P E s':=do _;{B,z}:=S.gk;v:2000<=sizeLine:=wu (kD ⋯);@ksk_tail;(by try dsimp only);[g];n:=Heap.SameBut.update s'.heap c (Obj.mapSeq λ_=>(#[]:Array MD));d:=(n.2 a m).trans S.ga;qA (listUpdate_at z rfl (qA (wpAny_letGo (qA (seqEpoch_at d rfl (qA (listUpdate_at d rfl ?_ (qx _) (do¬out.toArray.size<=_;[ze];()))))))) (do[ze];()) (qx _));[y];#[_,bne_self_eq_false,Bool.false_eq_true,if_false];h:=Heap.SameBut.update (s'.heap.update c (Obj.mapSeq λ_=>(#[]:Array MD))) a (Obj.mapSeq λ_=>out.toArray);{l,t}:∃l,((s'.heap.update c (Obj.mapSeq λ_=>(#[]:Array MD))).update a (Obj.mapSeq λ_=>out.toArray)).get? a=!(seqObj "list" out.toArray l):={_,get?_update_seq d λ_=>out.toArray};qE (k _ (upd q a (.lst j)) ?_ ?_ S.os S.bare (S.same.trans (ag.new S.Gw)) aE);(S.un.later λb o f e=>?_).adopt r S.Gw;h1:b≠c:=qi (zf f x);h2:b≠a:=qi (zf f r);(h.2 b h2).trans ((n.2 b h1).trans e);dm.adopt ((S.aZ.other (λb u f e=>(n.2 b f).trans e) S.fk).other (λb u f e=>(h.2 b f).trans e) S.Gw) S.Gw {?_,out,l,i,t};[i.length];()
def OG{Q:VK}{vs:List MD}{ys:List V}{ds:List Tn}{t:Nat}{h1:Heap}{a:Nat}(p:∀(s':Tj) (J:Hp) (x:MD) (y:V) (Q:VK),gP X.prog X.w X.K X.mg X.base X.A.in1.in1 X.stack s' J->Un (dY X.stack) [] H J s.heap s'.heap->ag H J->RelV y x->sp [y] J Q E0->codeAny 48 X.A.in1.in1 (.call (.ref fa) {[x],[]}) (CR iW X.stack X.prog X.w J s' Q E0) s')(hu:X.A.units+3+61<cLine)(I:Inv X pins σ H s)(U:aK ys vs)(o:ds.length=ys.length)(hk:KeysAre ds t)(D:oN ys.length ds)(hsp:∀(m:Nat) y d H' (Q':VK),ys[m]?=!y->ds[m]?=!d->ag H H'->(∀u kv,ag H' u->DV u kv d->Q' kv u)->sp [y] H' Q' E0)(q:∀q H' ix,H q=none->ag H H'->c7 ds ix->H' q=!(.lst (ix.map λi=>ys.getD i .aS))->Q (.ref q) H')(x1:eO s.heap h1)(B:h1.get? a=! (seqObj "list" vs.toArray 0))(C:↑s<=a) : wpAny 48 X.A.in1 (holding [Value.ref a] (call (.builtin "list.sort") [.ref a] [(Str.ofString "key",.ref fa)]) >>= λ_=>ret (.ref a)) (λc s'=>∃v,c=.done (.ret v)/\EP X pins σ Q v s') X.xe {s with heap:=h1}:=do h64:=D.1;hl:=U.length;hz:ys.length<=sizeLine:=(do[sizeLine_eq];());zl:vs.length<=sizeLine:=();qA (qK (wpAny_call_entry_kw slot_list_sort {_,B,O} entry_list_sort ?_ (ksk_l1 _ _)));¬wpAny 48 X.A.in1.in1 (Builtin.«list.sort» {[.ref a],[(Str.ofString "key",.ref fa)]}) _ _ _;[ksk_t1];@ksk_tree;{h,o2}:∃h,(h1.update a (Obj.mapSeq λ_=>(#[]:Array MD))).get? a=!(seqObj "list" #[] h):={_,get?_update_seq B λ_=>#[]};x2:eO s.heap (h1.update a (Obj.mapSeq λ_=>(#[]:Array MD))):=x1.upd C;qA (listItems_at B rfl (qA (listUpdate_at B rfl (qA (seqEpoch_at o2 rfl (qA (wpAny_newTuple (qA (wpAny_newList (qK ?_) (qx _))) zl)))) (do[ze];zl) (qx _))));g:↑s<=((h1.update a (Obj.mapSeq λ_=>(#[]:Array MD))).push (seqObj "tuple" vs.toArray 0)).objs.size:=(do[size_push',Heap.size_update];this:a<h1.objs.size:=qG B;());r:a≠((h1.update a (Obj.mapSeq λ_=>(#[]:Array MD))).push (seqObj "tuple" vs.toArray 0)).objs.size:=(do[size_push',Heap.size_update];this:a<h1.objs.size:=qG B;());o3:(((h1.update a (Obj.mapSeq λ_=>(#[]:Array MD))).push (seqObj "tuple" vs.toArray 0)).push (seqObj "list" #[] 0)).get? a=!(seqObj "list" #[] h):=qI _ (qI _ o2);l:(((h1.update a (Obj.mapSeq λ_=>(#[]:Array MD))).push (seqObj "tuple" vs.toArray 0)).push (seqObj "list" #[] 0)).get? ((h1.update a (Obj.mapSeq λ_=>(#[]:Array MD))).push (seqObj "tuple" vs.toArray 0)).objs.size=! (seqObj "list" #[] 0):=qL _ rfl;N:eO s.heap (((h1.update a (Obj.mapSeq λ_=>(#[]:Array MD))).push (seqObj "tuple" vs.toArray 0)).push (seqObj "list" #[] 0)):=(x2.trans (.push _ _)).trans (.push _ _);¬wpAny 48 X.A.in1.in1 (ksk_rest a (.ref fa) false vs.toArray h (.ref ((h1.update a (Obj.mapSeq λ_=>(#[]:Array MD))).push (seqObj "tuple" vs.toArray 0)).objs.size)) _ _ {s with heap:=((h1.update a (Obj.mapSeq λ_=>(#[]:Array MD))).push (seqObj "tuple" vs.toArray 0)).push (seqObj "list" #[] 0)};(by generalize ((h1.update a (Obj.mapSeq λ_=>(#[]:Array MD))).push (seqObj "tuple" vs.toArray 0)).objs.size=kS at g r l ⊢;generalize ((h1.update a (Obj.mapSeq λ_=>(#[]:Array MD))).push (seqObj "tuple" vs.toArray 0)).push (seqObj "list" #[] 0)=Z at o3 l N ⊢);M:∀b,↑s<=b->b∉dY X.stack:=λb F hm=>(do z||z:=qy.mp (I.hG b hm);absurd (zf I.lt F) (do[z];wk _);I.vV F z);S0:MF X H s a kS h H {s with heap:=Z} [] [] []:={Un.kept N,I.aZ.kept N,O,I.bare,ag.refl H,I.aZ.fresh C,I.aZ.fresh g,o3,{0,l},.nil,.nil};@ksk_rest;qA (wpAny_rule ?_);(by first|rw[List.forIn_toArray]|rw[<-Array.forIn_toList];simp only[List.toList_toArray]);qA (Ma (R:=λf=>wpAny 48 X.A.in1.in1 (do{let keys <-Builtin.List.listItems (.ref kS);ksk_end a false vs.toArray h (.ref kS) keys}) _ _ f) p rfl I C g r (M a C) (M kS g) (λx s' R' hx=>?_) vs ys ds [] [] [] H _ U o hsp (do[yz];()) S0 λHn f ks kvs S j=>?_);qA (wpAny_attempt (qM hx (λkv s2 h2=>?_) λ_ _ z=>z.elim));qA (qM h2 (λ_ s3 Z=>qE Z) λ_ _ z=>z);S<-[z7];j<-[yz,je];{ek,gk}:=S.gk;P:ks.length=ds.length:=(do[j,o,hl]);I':Inv X pins σ Hn f:=I.ij S.os S.un S.aZ S.bare (λb z=>absurd z (do 0));{as,ra}:=S.dv.reads I' S.vals;W:=G3 hk.one;qA (listItems_at gk rfl ?_);c:∀(e:Array Nat),Arr vs.length (oJ ds) e->∀st:SortSt,(arrOf st).map (·.2)=List.toArray (e.toList.map λi=>vs.getD i Value.none)->failedOf st=none->wpAny 48 X.A.in1.in1 (ksk_tail a false h (.ref kS) st) (λc s'=>∃v,c=PySem.Fin.done (.ret v)/\wpAny 48 X.A.in1 (ret (Value.ref a)) (λc s'=>∃v,c=.done (.ret v)/\EP X pins σ Q v s') X.xe s') X.xe f:=λe G st ho hf=>(do hix:∀i∈e.toList,i<ys.length:=λi hi=>(do this:=(G.1.toList.mem_iff).mp hi;this<-0;());T:e.size=vs.length:=(do[G.1.size_eq];0);OB g C r S () (do[qh,zk,T];()) ho hf (GX U _ hix) λs2 H2 un Y os L same e2=>?_;{_,O,qE {_,O,.ref a,H2,I.ij os un Y L (λb z=>absurd z (do 0)),O,q a H2 e.toList (I.aZ.fresh C) same (Mc (do[<-P,j];G)) e2}});@ksk_end;(by try dsimp only);[qB ⋯];h2<|vs.toArray.size<2;[qF h2,qF h2];n:vs.length<2:=(do 0<|h2);qA (qE ?_);[StateT.run_pure];qA (qE ?_);c _ (Lg W n) _ ?_ rfl;¬((ks.toArray.zip vs.toArray).map (·.2))=_;(by apply gs.mp);[Array.toList_map,Array.toList_zip];h:List.map (·.2) (ks.zip vs)=vs:=List.map_snd_zip ();e2:(List.toArray (List.range vs.length)).toList.map (λi=>vs.getD i Value.none)=vs:=(do(by apply yb);(i);hi<|i<vs.length;#[hi];#[hi]);¬List.map (·.2) (ks.zip vs)=(List.toArray (List.range vs.length)).toList.map (λi=>vs.getD i Value.none);[h,e2];[qB h2,qB h2];n:¬vs.length<2:=(do 0<|h2);{κ,hkk,hqq}:=KZ (prog:=X.prog) (w:=X.w) (A:=X.A.in1.in1) ra hk () (do¬X.A.units+1+1+60<cLine;());qA (qM (hkk (λk s'=>k=κ/\s'=f) {O,O}) ?_ λ_ _ z=>z.elim);(k',s',{rfl,rfl});[qB ⋯];qA (qM (Mq (E:=X.xe) (R:=λst s3=>s3=s'/\∃e,Arr vs.length (oJ ds) e/\(arrOf st).map (·.2)=List.toArray (e.toList.map λi=>vs.getD i Value.none)/\failedOf st=none) W j (do this:=D.cD o W;this<-[hl];this) n hqq λst e a1 a2 a3=>{O,e,a1,a2,a3}) ?_ λ_ _ z=>z);({{},st},s3,{rfl,e,G,eo,hf});c e G st eo hf
def Jk{Q:VK}{us:List MD}{xs:List V}(b:∀(s':Tj) (d:Hp) (x:MD) (y:V) (Q:VK),gP X.prog X.w X.K X.mg X.base X.A.in1.in1 X.stack s' d->Un (dY X.stack) [] H d s.heap s'.heap->ag H d->RelV y x->sp [y] d Q E0->codeAny 48 X.A.in1.in1 (.call (.ref fa) {[x],[]}) (CR iW X.stack X.prog X.w d s' Q E0) s')(l:X.A.units+3+61<cLine)(I:Inv X pins σ H s)(C:aK xs us)(o:iz sp xs H Q) : wpAny 48 X.A (call (.builtin "sorted") us [(Str.ofString "key",.ref fa)]) (EP X pins σ Q) X.xe s:=do _;{p,ys,ds,t,rfl,r,e,n,c,g,q}:=o;B:=c.1;{u,rfl,z}:=vals1 C;-z;{vs,j,v,hz}:=I.list r;D:=j.length;k:vs.length<=sizeLine:=();call_function_entry_kw kind_sorted plain_sorted entry_sorted (ksk_s1 _ _) ?_;@Builtin.«sorted»;qA (m:=checkCount "sorted" 1 1 _) (qE (qA (collect_list v.isList (qA (wpAny_newList ?_ k)) k)));hsz:((s.heap.push (seqObj "list" #[] 0)).update ↑s (Obj.mapSeq (·++vs.toArray))).objs.size=↑s+1:=(Heap.size_update _ _ _).trans (size_push' _ _);i:eO s.heap (((s.heap.push (seqObj "list" #[] 0)).update ↑s (Obj.mapSeq (·++vs.toArray))).push (seqObj "list" vs.toArray 0)):=((eO.push _ _).upd (qb _)).trans (.push _ _);f:(((s.heap.push (seqObj "list" #[] 0)).update ↑s (Obj.mapSeq (·++vs.toArray))).push (seqObj "list" vs.toArray 0)).get? (↑s+1)=! (seqObj "list" vs.toArray 0):=hsz▸qL _ rfl;¬wpAny 48 _ _ _ _ {s with heap:=((s.heap.push (seqObj "list" #[] 0)).update ↑s (Obj.mapSeq (·++vs.toArray))).push (seqObj "list" vs.toArray 0)};[hsz];(by generalize ((s.heap.push (seqObj "list" #[] 0)).update ↑s (Obj.mapSeq (·++vs.toArray))).push (seqObj "list" vs.toArray 0)=h1 at i f ⊢);h:↑s<=↑s+1:=jk _;(by generalize ↑s+1=a at h f ⊢);OG b l I j e n c g q i f h
def Pw{Q:VK}{us:List MD}{xs:List V}(F:gG X.prog X.w X.K X.mg X.base iW k fa fd ps sp)(g:bG k X.A.in1.in1)(l:Binds X.K fd ps [])(d:ps.length=1)(h:X.A.units+3+61<cLine)(I:Inv X pins σ H s)(m:aK xs us)(j:iz sp xs H Q) : wpAny 48 X.A (call (.builtin "sorted") us [(Str.ofString "key",.ref fa)]) (EP X pins σ Q) X.xe s := Jk (λs' i x y Q c _ _ f a=>F.run X.A.in1.in1 X.stack s' i {[x],[]} [x] [y] Q E0 g c (do this:=l s' [x] (c.mod.MB.keeps λb o e=>(c.bs b o e).1) (do[d];2);0<|this) (.cons f .nil) a) h I m j
def bG.NT(r:bG (k+1) A):bG k A.in1.in1 := {r.hd,do this:=r.dp;¬A.depth+3 * k+5<_;(),do this:=r.un;¬A.units+1+1+16 * k+200<_;(),r.gd}
def Ox{p q kp pos:Pos}(F:gG X.prog X.w X.K X.mg X.base iW k fa fd ps sp)(i:bG (k+1) X.A)(m:Gl X x)(o:X.mg x=none)(n:bootBuiltins x=!(.builtin "sorted"))(b:Gl X y)(c:X.mg y=! (.ref fa))(r:Binds X.K fd ps [])(d:ps.length=1)(v:PA X [e] t)(hn:autoParam (x≠"__name__") z12)(f:autoParam ((x==("__debug__":Tp))=false) z12)(a:autoParam ((y==("__debug__":Tp))=false) z12)(j:autoParam (starEach [e] X.env=(false,eval e X.env)::starEach [] X.env) z11):PE X (.Call (.Name x p) [e] [{!"key",.Name y q,kp}] pos) (FY (iz sp) t):=do _;{?_};(pins,s,σ,H,Q,I,h);wpAny_Call_Name_kw (iC I m o n ?_ hn f);callWith_kw (bI (v pos pins s σ H _ I h) λus z ⟨vs,H1,g,l,u⟩=>kws_cons (BC g b c (kws_nil ?_) a)) (do[j];2) (do[j];2);Pw F i.NT r d (do this:=i.un;()) g l u
end
def PK{ix:List Nat}(h:ix.Perm (List.range js.length)):(ix.map λi=>js.getD i 0).Perm js:=do this:=h.map λi=>js.getD i 0;this.trans (.of_eq ?_);(by apply yb);(i);[qj];hi<|i<js.length;[yc hi,qe hi];¬some (js.getD i 0)=_;[zb,qe hi];2;[List.getElem?_eq_none (do 0<|hi),List.getElem?_eq_none ()];2
def lj{α:Type}(xs:List α)(x:α):nW (xs++[x]) (-1)=!x:=do@nW;e:sE (xs++[x]).length (-1)=!xs.length:=(do@sE;[qg,qr,qB (),qF ()];(by congr 1);());[e];0
def Pd(h:∀d∈ds,fF d=true):PyData.eqv (.list ds) (.list ds)=true:=(mJ _ _ (do[fF];mU h) (do[fF];mU h)).mpr rfl
theorem oe:∀{ds:List Tn} {k:Nat},(∀d∈ds,d.depth<=k)->PyData.depthAll ds<=k|[],_,_=>qx _|d::ds,k,h=>do a:=h d qm;b:=oe (ds:=ds) λx c=>h x (qz _ c);¬max d.depth (PyData.depthAll ds)<=k;()
section
variable {X:Cx}{K:PySem.W.Frag}
inductive Iy(x:V)(lo:Option Int)(hi:Option Int)(H:Hp)(Q:VK):Prop
 |mk(a xs:_)(_:x=.ref a)(_:aQ H a xs)(_:¬(HT.bV xs.length 0 lo=0/\HT.bV xs.length xs.length hi=xs.length))(_:∀p H',H p=none->ag H H'->H' p=!(.tup (fm xs lo hi))->Q (.ref p) H')
def nM:xc X (Iy):=E1.imp λ_ _ _ _ _ ⟨a,xs,h1,h2,b,q⟩=>{a,xs,h1,h2,b,λp hp=>q p _ hp (ag.new hp) aE}
end
end L2
namespace Rga
def after(b a:Nat):List Nat->List Nat|[]=>[]|x::xs=>if x=b then x::a::xs else x::after b a xs
abbrev Pl:=Nat×Option Nat
def ins(p:Pl)(row:List Nat):List Nat:=match p.2 with|none=>p.1::row|some b=>after b p.1 row
def iJ:List Pl->List Nat|[]=>[]|p::qs=>ins p (iJ qs)
def l8(a:List Pl):List Nat:=a.map (·.1)
def WF:List Pl->Prop|[]=>True|p::qs=>p.1∉l8 qs/\(∀b,p.2=!b->b∈l8 qs)/\WF qs
def rk(a:List Pl)(k:Option Nat):List Nat:=(a.filter λp=>decide (p.2=k)).map (·.1)
inductive nK(f:Option Nat->List Nat):List Nat->List Nat->Prop
 |nil:nK f [] []
 |cons {x:Nat} {st out:List Nat}:nK f (f (!x)++st) out->nK f (x::st) (x::out)
theorem K6:∀{row:List Nat},b∈row->(after b a row).Perm (a::row)|x::xs,h=>do@after;e<|x=b;[qF e];.swap _ _ _;[qB e];z||z:=qy.mp h;absurd z.symm e;((K6 z).cons x).trans (.swap _ _ _)
theorem cX:∀{c:List Pl},WF c->(iJ c).Perm (l8 c)|[],_=>.refl _|(a,none)::c,h=>(cX h.2.2).cons a|(a,!b)::c,h=>(K6 ((cX h.2.2).mem_iff.mpr (h.2.1 b rfl))).trans ((cX h.2.2).cons a)
theorem K_:∀{a:List Pl},WF a->(l8 a).Nodup|[],_=>v9|_::_,h=>zx.mpr {h.1,K_ h.2.2}
def jD(h:WF a):(iJ a).Nodup:=(cX h).nodup_iff.mpr (K_ h)
def nR(p:Pl)(a:List Pl)(k:Option Nat):rk (p::a) k=if p.2=k then p.1::rk a k else rk a k:=do@rk;e<|p.2=k;[qF e,List.filter_cons_of_pos (do 0<|e)];2;[qB e,List.filter_cons_of_neg (do 0<|e)]
def G5(h:WF b)(d:a∉l8 b):rk b (!a)=[]:=do(by induction b with|nil|cons p b f=>?_);2;c:a∉l8 b:=λz=>d (qz _ z);[nR,qB (λe=>c (h.2.1 a e)),f h.2.2 c]
theorem Dx{f g:Option Nat->List Nat}:∀{st out:List Nat},nK f st out->(∀x∈out,g (!x)=f (!x))->nK g st out|_,_,.nil,_=>.nil|_,_,.cons (x:=x) d,h=>.cons (do[h x qm];Dx d λy a=>h y (qz _ a))
theorem JX{f g:Option Nat->List Nat}(c:∀x,x≠b->g (!x)=f (!x))(i:g (!b)=a::f (!b))(j:g (!a)=[]) : ∀{st out:List Nat},nK f st out->out.Nodup->nK g st (after b a out)|_,_,.nil,_=>.nil|_,_,.cons (x:=x) (st:=st) (out:=out) d,hn=>do h:=zx.mp hn;@after;e<|x=b;[qF e];!e;.cons ?_;[i];.cons ?_;[j];Dx d λy k=>c y λz=>h.1 (z▸k);[qB e];.cons ?_;[c x e];JX c i j d h.2
theorem kI:∀{c:List Pl},WF c->nK (rk c) (rk c none) (iJ c)|[],_=>.nil|(a,none)::c,h=>(do e:=kI h.2.2;i:∀x,rk ((a,none)::c) (!x)=rk c (!x):=λx=>(do[nR,qB (λz=>do-z)]);[nR,qF rfl];.cons ?_;[i a,G5 h.2.2 h.1];Dx e λx _=>i x)|(a,!b)::c,h=>do e:=kI h.2.2;d:a≠b:=λz=>h.1 (z▸h.2.1 b rfl);[nR,qB (λz=>do-z)];JX (f:=rk c) (g:=rk ((a,!b)::c)) ?_ ?_ ?_ e (jD h.2.2);(x,j);[nR,qB (λz=>j (qJ z).symm)];[nR,qF rfl];[nR,qB (λz=>d (qJ z).symm),G5 h.2.2 h.1]
def nK.nil_inv{out:List Nat}(d:nK f [] out):out=[]:=do-d;2
def nK.cons_inv{st out:List Nat}(d:nK f (x::st) out):∃a,out=x::a/\nK f (f (!x)++st) a:=do(by cases d with|cons d=>?_);{_,O,d}
theorem yT{R:Nat->Nat->Bool}:∀{xs ys:List Nat},xs.Perm ys->(xs.Pairwise λa b=>R b a=false)->(ys.Pairwise λa b=>R a b=true)->xs=ys|[],ys,p,_,_=>(List.nil_perm.mp p).symm|x::xs,[],p,_,_=>absurd p.length_eq (do 0)|x::xs,y::ys,p,hx,hy=>do e<|x=y;!e;[yT ((List.perm_cons x).mp p) (wx.mp hx).2 (wx.mp hy).2];h1:y∈xs:=(do z||z:=qy.mp (p.mem_iff.mpr qm);absurd z.symm e;z);h2:x∈ys:=(do z||z:=qy.mp (p.mem_iff.mp qm);absurd z e;z);a1:=(wx.mp hx).1 y h1;a2:=(wx.mp hy).1 x h2;a1<-[a2];-a1
end Rga
namespace L2
open PySem PySem.Spec PySem.W PyProof.Rows
def rQ{D:Nat->Tn}{js ms ix:List Nat}(hp:js.Perm ms)(f:ms.Pairwise λa b=>bK (D a) (D b)=true)(h:c7 (js.map D) ix):(ix.map λi=>js.getD i 0)=ms:=do d:ix.Perm (List.range js.length):=(by have:=h.1;rwa [qh]at this);Rga.yT (R:=λa b=>bK (D a) (D b)) ((PK d).trans hp) ?_ f;h2:=h.2;(by rw[z8]at h2 ⊢);h2.imp_of_mem λ{a b} j g c=>?_;e:∀i,i∈ix->c8 (js.map D) i=D (js.getD i 0):=λi hi=>(do this:i<js.length:=qv.mp (d.mem_iff.mp hi);@c8;[zb,qj,zb,qe this];2);c<-[e a j,e b g];c
def aj(H H':Hp):Prop:=∀b xs,H b=! (.tup xs)->H' b=! (.tup xs)
section
variable {H H1 H':Hp}
def ag.af(s:ag H H'):aj H H':=λb xs e=>s b _ e
def aj.trans(a:aj H H1)(b:aj H1 H'):aj H H':=λc xs e=>b c xs (a c xs e)
def aj.refl(H:Hp):aj H H:=λ_ _ e=>e
def aj.wr(e:H a=!o)(c:∀ys,o≠.tup ys):aj H (upd H a o'):=λb xs q=>do[aB (IM q e c)];q
def aj.wl(e:H a=! (.lst xs)):aj H (upd H a o'):=aj.wr e λys z=>do-z
def aj.wd(e:H a=! 69):aj H (upd H a o'):=aj.wr e λys z=>do-z
mutual
theorem DT.af(t:aj H H'):∀{x:V} {d:Tn},DT H x d->DT H' x d
 |_,_,.aS=>.aS
 |_,_,.bl b=>.bl b
 |_,_,.int i=>.int i
 |_,_,.str z=>.str z
 |_,_,.tup e h=>.tup (t _ _ e) (dE.af t h)
theorem dE.af(t:aj H H'):∀{x:List V} {d:List Tn},dE H x d->dE H' x d
 |_,_,.nil=>.nil
 |_,_,.cons a b=>.cons (DT.af t a) (dE.af t b)
end
def GK.af(g:GK H k v)(t:aj H H'):GK H' k v:=g.cW t
end
def AN(P:V->Nat->Prop)(vs:List V)(js:List Nat):Prop:=vs.length=js.length/\∀(m:Nat) v i,vs[m]?=!v->js[m]?=!i->P v i
section
variable {P P':V->Nat->Prop}{vs us:List V}{js ks:List Nat}
def AN.imp(h:AN P vs js)(f:∀v i,P v i->P' v i):AN P' vs js:={h.1,λm v i b a=>f _ _ (h.2 m v i b a)}
def AN.nil:AN P [] []:={O,λm v i z=>do-z}
def AN.app(h:AN P vs js)(g:AN P us ks):AN P (vs++us) (js++ks):=do _;{do[qg,qg,h.1,g.1],λm v i b a=>?_};c<|m<vs.length;b<-[zu c];a<-[zu (do[<-h.1];c)];h.2 m v i b a;b<-[ye ()];a<-[ye (do[<-h.1];()),<-h.1];g.2 _ v i b a
def AN.one(h:P v i):AN P [v] [i]:={O,λm c i' a b=>do(by cases m with|zero|succ m=>?_);-a;-b;h;-a}
def AN.snoc(h:AN P vs js)(a:P v i):AN P (vs++[v]) (js++[i]):=h.app (.one a)
theorem AN.ix(h:AN P vs js)(ix:List Nat)(f:∀i∈ix,i<vs.length):AN P (ix.map λi=>vs.getD i .aS) (ix.map λi=>js.getD i 0):=do _;{do[qh,qh],λm v i a c=>?_};(by rw[qj]at a c;cases e:ix[m]? with|none|some k=>?_);a<-[e];-a;(by rw[e]at a c);d:=f k (qk e);b:k<js.length:=(do[<-h.1];d);h.2 k v i ?_ ?_;[<-qJ a,qe d];¬some vs[k]=!(vs.getD k .aS);[zb,qe d];2;[<-qJ c,qe b];¬some js[k]=!(js.getD k 0);[zb,qe b];2
def AN.at{m:Nat}{v:V}(h:AN P vs js)(e:vs[m]?=!v):∃i,js[m]?=!i/\P v i:=do a:m<js.length:=(do[<-h.1];(qp.mp e).1);{js[m],qe a,h.2 m v _ e (qe a)}
def AN.last(h:AN P vs (js++[i])):∃us x,vs=us++[x]/\AN P us js/\P x i:=do a:=h.1;a<-[qg,qr];z||{us,x,z}:=jf vs;a<-[z];absurd a (do 0);z<-[jg];!z;c:us.length=js.length:=(do a<-[qg,qr];());{us,x,O,{c,λm v i d b=>h.2 m v i ?_ ?_},h.2 us.length x i (do 0) (do[c];0)};[zu (qp.mp d).1];d;[zu (qp.mp b).1];b
end
def kd(nk:Nat->List Key):Option Nat->KD|none=>.aS|some i=>.tup (nk i)
def NM(nk:Nat->List Key)(H:Hp)(v:V)(i:Nat):Prop:=GK H (.tup (nk i)) v
def PL(nk:Nat->List Key)(bh:Nat->Option Nat)(D:Nat->Tn)(H:Hp)(v:V)(k:Nat):Prop:=∃b vn a vk,v=.ref b/\H b=!(.tup [vn,a,vk])/\NM nk H vn k/\GK H (kd nk (bh k)) a/\DT H vk (D k)
section
variable {nk:Nat->List Key}{bh:Nat->Option Nat}{D:Nat->Tn}{H H' H0:Hp}{v:V}{k:Nat}
theorem NM.af(h:NM nk H v k)(t:aj H H'):NM nk H' v k:=GK.af h t
theorem PL.af(h:PL nk bh D H v k)(t:aj H H'):PL nk bh D H' v k:=do _;{b,vn,c,vk,e,h1,h2,d,a}:=h;{b,vn,c,vk,e,t _ _ h1,h2.af t,d.af t,a.af t}
structure xQ(nk:Nat->List Key)(bh:Nat->Option Nat)(D:Nat->Tn)(ms:List Nat)(t:Nat):Prop where
 cD:ms.length<=2000
 up:ms.Pairwise λa b=>bK (D a) (D b)=true
 inj:∀i∈ms,∀j∈ms,nk i=nk j->i=j
 wf:Rga.WF (ms.reverse.map λk=>(k,bh k))
 keys:KeysAre (ms.map D) t
def kids(bh:Nat->Option Nat)(ms:List Nat)(k:Option Nat):List Nat:=ms.filter λm=>decide (bh m=k)
def Mg(bh:Nat->Option Nat)(ms:List Nat)(m:Nat)(k:Option Nat):kids bh (ms++[m]) k=if bh m=k then kids bh ms k++[m] else kids bh ms k:=do@kids;[zy];e<|bh m=k;[qF e,List.filter_cons_of_pos (do 0<|e)];2;[qB e,List.filter_cons_of_neg (do 0<|e),List.filter_nil,List.append_nil]
def GC(bh:Nat->Option Nat)(ms:List Nat)(k:Option Nat):Rga.rk (ms.reverse.map λm=>(m,bh m)) k=(kids bh ms k).reverse:=do(by unfold Rga.rk kids);[List.filter_map,wg,<-bx];¬List.map (λx=>x) _=_;[List.map_id'];2
structure FD(nk:Nat->List Key)(bh:Nat->Option Nat)(all ms:List Nat)(H0 H:Hp)(dq:To)(kvs:List 67):Prop where
 has:H dq=! 69
 new:H0 dq=none
 each:∀k:Option Nat,(∀i,k=!i->i∈all)->(vG kvs (kd nk k)=none/\kids bh ms k=[])\/∃q vs,vG kvs (kd nk k)=! (.ref q)/\H q=!(.lst vs)/\AN (NM nk H) vs (kids bh ms k)/\H0 q=none
 inj:∀k k' q,vG kvs k=! (.ref q)->vG kvs k'=! (.ref q)->k=k'
 live:∀k q,vG kvs k=! (.ref q)->∃xs,H q=! (.lst xs)
def FD.same{all ms:List Nat}(h:FD nk bh all ms H0 H dq kvs)(s:ag H H'):FD nk bh all ms H0 H' dq kvs where
 has:=s _ _ h.has
 new:=h.new
 each:=λk a=>by
  rcases h.each k a with z|⟨q,vs,h1,h2,h3,h4⟩
  .exact .inl z
  .exact .inr ⟨q,vs,h1,s _ _ h2,h3.imp λv i g=>g.af s.af,h4⟩
 inj:=h.inj
 live:=λk q e=>let⟨xs,z⟩:=h.live k q e;{xs,s _ _ z}
def Ja{all:List Nat}(hi:∀i∈all,∀j∈all,nk i=nk j->i=j){k a:Option Nat}(h1:∀i,k=!i->i∈all)(h2:∀i,a=!i->i∈all)(e:kd nk k=kd nk a):k=a:=do(by cases k with|none|some i=>?_;cases a with|none|some j=>?_);2;-e;(by cases a with|none|some j=>?_);-e;[hi i (h1 i rfl) j (h2 j rfl) (KD.tup.inj e)]
def FD.old{all ms:List Nat}{dq q:To}{kvs:List 67}{m:Nat}{vn:V}{vs:List V}(h:FD nk bh all ms H0 H dq kvs)(hi:∀i∈all,∀j∈all,nk i=nk j->i=j)(r:∀i,bh m=!i->i∈all)(e:vG kvs (kd nk (bh m))=! (.ref q))(eq:H q=!(.lst vs))(o:NM nk H vn m):FD nk bh all (ms++[m]) H0 (upd H q (.lst (vs++[vn]))) dq kvs where
 has:=by rw[aB (λz=>by rw[←z,h.has]at eq;cases eq)];exact h.has
 new:=h.new
 inj:=h.inj
 live:=λk a p=>by
  by_cases z:a=q
  .subst z;exact{_,aE}
  .obtain⟨xs,y⟩:=h.live k a p
   exact{xs,by rw[aB z];exact y}
 each:=λk d=>by
  have n:aj H (upd H q (.lst (vs++[vn]))):=aj.wl eq;rw[Mg]
  by_cases f:bh m=k
  .subst f
   rw[qF rfl];rcases h.each _ d with⟨z,_⟩|⟨a,b,h1,h2,l,c⟩
   .rw[z]at e;cases e
   .rw[e]at h1
    cases h1;rw[eq]at h2;cases h2;exact .inr {q,_,e,aE,(l.snoc o).imp λv i g=>g.af n,c}
  .rw[qB f]
   rcases h.each k d with z|⟨a,b,h1,h2,l,c⟩
   .exact .inl z
   .refine .inr ⟨a,b,h1,?_,l.imp λv i g=>g.af n,c⟩
    have nq:a≠q:=λz=>f (Ja hi r d (h.inj _ _ q e (by rw[←z];exact h1)))
    rw[aB nq];exact h2
def FD.first{all ms:List Nat}{dq q:To}{kvs:List 67}{m:Nat}{vn vk:V}(h:FD nk bh all ms H0 H dq kvs)(hi:∀i∈all,∀j∈all,nk i=nk j->i=j)(A:∀i,bh m=!i->i∈all)(e:vG kvs (kd nk (bh m))=none)(s:H0 q=none)(eq:H q=!(.lst []))(b:∀k,vG kvs k≠some (.ref q))(x:NM nk H vn m):FD nk bh all (ms++[m]) H0 (upd (upd H dq (.dG (pG kvs (kd nk (bh m)) vk (.ref q)))) q (.lst [vn])) dq (pG kvs (kd nk (bh m)) vk (.ref q)) where
 has:=by rw[aB (λz=>by rw[←z,h.has]at eq;cases eq),aE]
 new:=h.new
 inj:=λk r a h1 h2=>by
  rw[d7]at h1 h2
  by_cases t:k=kd nk (bh m)
  .by_cases l:r=kd nk (bh m)
   .rw[t,l]
   .rw[qF t]at h1
    rw[qB l]at h2;cases h1;exact absurd h2 (b r)
  .rw[qB t]at h1
   by_cases l:r=kd nk (bh m)
   .rw[qF l]at h2
    cases h2;exact absurd h1 (b k)
   .rw[qB l]at h2
    exact h.inj _ _ _ h1 h2
 live:=λk a f=>by
  by_cases z:a=q
  .subst z;exact{_,aE}
  .rw[d7]at f
   by_cases c:k=kd nk (bh m)
   .rw[qF c]at f
    cases f;exact absurd rfl z
   .rw[qB c]at f
    obtain⟨xs,y⟩:=h.live k a f
    have n:a≠dq:=λz=>by rw[z,h.has]at y;cases y
    exact{xs,by rw[aB z,aB n];exact y}
 each:=λk p=>by
  have nq:q≠dq:=λz=>by rw[z,h.has]at eq;cases eq
  have B:aj H (upd H dq (.dG (pG kvs (kd nk (bh m)) vk (.ref q)))):=aj.wd h.has
  have o:(upd H dq (.dG (pG kvs (kd nk (bh m)) vk (.ref q)))) q=!(.lst []):=by rw[aB nq];exact eq
  have u:=B.trans (aj.wl (o':=.lst [vn]) o);rw[Mg,d7]
  by_cases c:bh m=k
  .subst c
   rw[qF rfl,qF rfl];rcases h.each _ p with⟨_,z⟩|⟨a,d,h1,_⟩
   .rw[z]
    exact .inr ⟨q,[vn],O,aE,.one (x.af u),s⟩
   .rw[e]at h1;cases h1
  .rw[qB c,qB (λz=>c (Ja hi A p z.symm))]
   rcases h.each k p with z|⟨a,d,h1,h2,h3,h4⟩
   .exact .inl z
   .refine .inr ⟨a,d,h1,?_,h3.imp λv i g=>g.af u,h4⟩
    have w:a≠q:=λz=>b _ (z▸h1)
    have n:a≠dq:=λz=>by rw[z,h.has]at h2;cases h2
    rw[aB w,aB n];exact h2
def FD.get{all ms:List Nat}(h:FD nk bh all ms H0 H dq kvs)(b:H z=!(.lst []))(k:Option Nat)(c:∀i,k=!i->i∈all):∃a vs,(vG kvs (kd nk k)).getD (.ref z)=.ref a/\H a=!(.lst vs)/\AN (NM nk H) vs (kids bh ms k):=do _;{h1,h2}||{q,vs,h1,h2,d,_}:=h.each k c;⟨z,[],do[h1];2,b,do[h2];.nil⟩;⟨q,vs,do[h1];2,h2,d⟩
end
end L2
namespace Rga
theorem yN:∀{a:List Pl},WF a->∀{k b:Nat},(k,!b)∈a->b∈l8 a|p::a,h,k,b,hm=>do z||z:=qy.mp hm;qz _ (h.2.1 b (do[<-z]));qz _ (yN h.2.2 z)
theorem jT:∀{st out:List Nat},nK f st out->st.length<=out.length|_,_,.nil=>qb _|_,_,.cons (x:=x) d=>do this:=jT d;this<-[qg];[zd,zd];()
def cS(bh:Nat->Option Nat)(ms:List Nat):List Pl:=ms.reverse.map λk=>(k,bh k)
def eG(bh:Nat->Option Nat)(ms:List Nat):l8 (cS bh ms)=ms.reverse:=do(by unfold l8 cS);[wg];¬List.map (λx=>x) _=_;[List.map_id']
def Dy(h:m∈ms):(m,bh m)∈cS bh ms:=qc.mpr {m,ym.mpr h,O}
def Mo(w:WF (cS bh ms))(a:m∈ms)(e:bh m=!i):i∈ms:=do this:=yN w (k:=m) (b:=i) (do[<-e];Dy a);this<-[eG];ym.mp this
def pC(w:WF (cS bh ms))(h:x∈iJ (cS bh ms)):x∈ms:=do this:=(cX w).mem_iff.mp h;this<-[eG];ym.mp this
def gU(w:WF (cS bh ms)):(iJ (cS bh ms)).length=ms.length:=do[(cX w).length_eq,eG,vy]
end Rga
namespace L2
open PySem PySem.Spec PySem.W PyProof.Rows
def del(H:Hp)(p:To):Hp:=λb=>if b=p then none else H b
def d6:del H p p=none:=qF rfl
def bX(h:b≠p):del H p b=H b:=qB h
def KQ(h:H b=none):del H p b=none:=do e<|b=p;!e;d6;[bX e];h
def mR:ag (del H p) H:=λb u q=>do e<|b=p;!e;q<-[d6];-q;q<-[bX e];q
def aj.cut(e:H p=! (.lst xs))(s:ag (del H p) H'):aj H H':=λb ys q=>s _ _ (do[bX (IM q e λzs z=>do-z)];q)
end L2
namespace Rga
theorem ir:∀{n:Nat},(∀i,i<n->∀b,bh i=!b->b<i)->WF (cS bh (List.range n))| 0,_=>trivial|n+1,h=>do e:cS bh (List.range (n+1))=(n,bh n)::cS bh (List.range n):=(do@cS;[yx,jt];2);[e];{?_,λb a=>?_,ir λi hi=>h i ()};[eG,ym,qv];wk n;[eG,ym,qv];h n () b a
end Rga
namespace L2
open PySem PySem.Spec PySem.W PyProof.Rows Rga
def sJ(h:x<y):bF (.int x::r) (.int y::a)=true:=do[bF,qB (λz=>by have:=(cH _ _ rfl).mp z;injection this with this;omega)];qH h
def xy(h:bF r a=true):bF (.int x::r) (.int x::a)=true:=do[bF,qF ((cH _ _ rfl).mpr rfl)];h
def SS(d:Tn):Prop:=(∃a b:Int,d=.tuple [.int a,.int b])\/∃a b c:Int,d=.tuple [.int a,.int b,.int c]
def pX(h:∀d∈ds,SS d):KeysAre ds 2:=do _;{fO λd a=>?_,λd a=>?_,λx b y c=>?_,λd a=>?_};by rcases h d a with⟨_,_,rfl⟩|⟨_,_,_,rfl⟩ <;> rfl;rcases h d a with⟨_,_,rfl⟩|⟨_,_,_,rfl⟩ <;> trivial;rcases h x b with⟨_,_,rfl⟩|⟨_,_,_,rfl⟩ <;> rcases h y c with⟨_,_,rfl⟩|⟨_,_,_,rfl⟩ <;> rfl;rcases h d a with⟨_,_,rfl⟩|⟨_,_,_,rfl⟩ <;> exact(by decide:1<=60)
end L2
namespace L2
open PySem PySem.Spec PySem.W PyProof.Rows
def fM(A:Around)(s:Tj)(x y:MD)(b:Bool):Prop:=∀(prog:Program) (w:World) (E:KE) (Q:KE),Q (.bool b) s->wpAny 66 A (richCompare .Gt x y) Q E s
open SeqAt in
def RG(l b:To)(us vs:Array MD)(n u:Nat)(v p:Option To)(sl r:Array (Option MD))(e:Nat->Bool)(c:Bool) :
  Meets (Builtin.«tuple.__gt__» {[.ref l,.ref b],[]})
   (λA R s=>s.heap.get? l=some { cls:=.type "tuple",dict:=v,data:=.seq us n,slots:=sl }/\s.heap.get? b=some { cls:=.type "tuple",dict:=p,data:=.seq vs u,slots:=r } ∧
    (∀j (h1:j<us.size) (h2:j<vs.size),EqAt A.in1 s us[j] vs[j] (e j)) ∧
    (∀i (h1:i<us.size) (h2:i<vs.size),(∀j,j<i->e j=true)->e i=false->fM A.in1 s us[i] vs[i] c) ∧
    ((∀j,j<min us.size vs.size->e j=true)->c=decide (vs.size<us.size))/\R (.ok (.ret (.bool c))) s) :=
 .of_wp λprog w A R s h=>by
  obtain⟨hp,g,d,tk,D⟩:=s;obtain⟨E,G,B,o,f,h⟩:=h;have K:=AutoSeq1.sub_tuple_tuple
  have H:(us.toList.zip vs.toList).length=min us.size vs.size:=by simp
  wp_walk using wpAny_loadPart' E,wpAny_loadPart' G,wpAny_forIn_list _ (λrest b s'=>b.1=none/\s'={hp,g,d,tk,D}/\∃i,rest=(us.toList.zip vs.toList).drop i/\∀j,j<i->e j=true) _
  case turn =>
   rintro⟨y,x⟩ rest b s' ⟨a,rfl,i,hz,hi⟩
   have k:i<(us.toList.zip vs.toList).length:=by
    rcases jn i (us.toList.zip vs.toList).length with h' |h'
    .exact h'
    .rw[bg h']at hz;cases hz
   have h1:i<us.size:=()
   have h2:i<vs.size:=()
   rw[jo k]at hz;injection hz with hyx hrest
   have m:y=us[i]:=by have:=congrArg Prod.fst hyx;simpa using this
   have F:x=vs[i]:=by have:=congrArg Prod.snd hyx;simpa using this
   subst m F;refine qA (B i h1 h2 prog w _ _ ?_)
   cases m:e i with
   |true =>
    wp_walk
    exact{O,O,i+1,hrest,λj t=>by
     by_cases z:j=i
     .rw[z];exact m
     .exact hi j ()}
   |false =>
    have q:=o i h1 h2 hi m;dsimp only;rw[qF (by rfl)];refine qA (wpAny_rule (qA (q prog w _ _ ?_)));exact qA (qE (qE (qE {_,O,h})))
  case fin =>
   rintro⟨I,J⟩ s' ⟨a,rfl,i,hz,hi⟩
   simp only at a
   subst a
   have C:min us.size vs.size<=i:=by
    rcases jn i (us.toList.zip vs.toList).length with h' |h'
    .rw[jo h']at hz;cases hz
    .omega
   have:=f λj t=>hi j ()
   wp_walk
   exact{_,O,by rw[this]at h;simpa[Builtin.Tuple.tupleCompareSizes] using h}
  case h =>
   exact{O,O,0,O,λj t=>absurd t (yg _)}
def fM.tuples{A:Around}{s:Tj}{l b:To}{us vs:Array MD}{e:Nat->Bool}{c:Bool}(C:s.heap.IsTuple l us)(D:s.heap.IsTuple b vs)(y:A.units<cLine)(B:∀j (h1:j<us.size) (h2:j<vs.size),SeqAt.EqAt A.in1 s us[j] vs[j] (e j))(o:∀i (h1:i<us.size) (h2:i<vs.size),(∀j,j<i->e j=true)->e i=false->fM A.in1 s us[i] vs[i] c)(d:(∀j,j<min us.size vs.size->e j=true)->c=decide (vs.size<us.size)):fM A s (.ref l) (.ref b) c:=λprog w E Q h=>do _;{{u,z,data,sl},q,r,n,t}:=id C;{{p,g,k,m},a,f,v,hd2}:=id D;(by simp only at r t f hd2;subst r t f hd2);richCompare_meets_room (op:=.Gt) {_,q,O} {_,a,O} F.slot_tuple_gt F.entry_tuple_gt (F.args_tuple_gt_2 _ _) (RG l b us vs n v z g sl m e c) {q,a,B,o,d,show Value.bool c≠Value.notImplemented/\Q (.bool c) s from{(λx=>nomatch x),h}} y
def fM.ints(i j:Int)(t u:Tok):fM A s (.int i t) (.int j u) (decide (j<i)):=λprog w E Q h => richCompare_gives (op:=.Gt) (typeIs_int s _ t) (typeIs_int s _ u) F.slot_int_gt F.entry_int_gt (F.args_int_gt_2 _ _) (gives_int_gt _ _ t u) (λx=>nomatch x) h
def Br{ns:List Int}{i:Nat}(h:i<(ns.map PyData.int).length):∃k,(ns.map PyData.int).getD i .none=.int k:=do h<-[qh];{ns[i],do[zb,qj,qe h];2}
theorem vU:∀ns:List Int,PyData.canLayAll0 (ns.map PyData.int)=true|[]=>rfl|n::ns=>do¬(true&&PyData.canLayAll0 (ns.map PyData.int))=true;[vU ns];2
theorem Eg:∀ns:List Int,PyData.depthAll (ns.map PyData.int)=0|[]=>rfl|n::ns=>do¬max 0 (PyData.depthAll (ns.map PyData.int))=0;[Eg ns];2
theorem lL:∀ns ms:List Int,eQ (ns.map PyData.int) (ms.map PyData.int)=true|[],_=>rfl|_::_,[]=>rfl|n::ns,m::ms=>do¬(true&&eQ (ns.map PyData.int) (ms.map PyData.int))=true;[lL ns ms];2
open SeqAt in
def QJ:∀(ns ms:List Int) (j:Nat),pairEq (ns.map PyData.int) (ms.map PyData.int) j=pairEq (ms.map PyData.int) (ns.map PyData.int) j:=λns ms j=>by
 unfold pairEq
 have sd:∀a b:Tn,(∃x,a=.int x)\/a=.none->(∃x,b=.int x)\/b=.none->PyData.eqv a b=PyData.eqv b a:=λa b d f=>by
  rcases d with⟨x,rfl⟩|rfl <;> rcases f with⟨y,rfl⟩|rfl
  .by_cases e:x=y
   .rw[e]
   .have h1:PyData.eqv (.int x) (.int y)=false:=by
     cases q:PyData.eqv (.int x) (.int y) with
     |false=>rfl
     |true=>have:=(cH _ _ rfl).mp q;injection this with this;exact absurd this e
    have h2:PyData.eqv (.int y) (.int x)=false:=by
     cases q:PyData.eqv (.int y) (.int x) with
     |false=>rfl
     |true=>have:=(cH _ _ rfl).mp q;injection this with this;exact absurd this.symm e
    rw[h1,h2]
  .rfl
  .rfl
  .rfl
 have c:∀l:List Int,(∃x,(l.map PyData.int).getD j .none=.int x)\/(l.map PyData.int).getD j .none=.none:=λl=>by
  by_cases h:j<(l.map PyData.int).length
  .exact .inl (Br h)
  .exact .inr (by rw[zb,wz ()];rfl)
 exact sd _ _ (c ns) (c ms)
open SeqAt in
def IQ{A:Around}{s:Tj}{a b:MD}{t bs:List To}{ns ms:List Int}(u:Reads s.heap a (.tuple (ns.map PyData.int)) t)(F:Reads s.heap b (.tuple (ms.map PyData.int)) bs)(I:A.units+2<cLine) :
  fM A s a b (bK (.tuple (ms.map PyData.int)) (.tuple (ns.map PyData.int))):=by
 cases u with
 |tuple h1 h2 D p =>
  cases F with
  |tuple v E w g =>
   rename_i l o us m H o' vs J
   have r:=ReadsAll.length _ _ _ p;have q:=ReadsAll.length _ _ _ g;rw[zk]at r q;rw[bK]
   have k:∀j (f:j<us.size) (e:j<vs.size),EqAt A.in1 s us[j] vs[j] (pairEq (ms.map PyData.int) (ns.map PyData.int) j):=λj f e=>by
    obtain⟨z,c⟩:=fE (i:=j) (by rw[zk];exact f) p;obtain⟨p2,d⟩:=fE (i:=j) (by rw[zk];exact e) g;have B:=xR (ns.map PyData.int) j ();rw[Eg]at B;have:=eqAt_reads ((ns.map PyData.int).getD j .none) ((ms.map PyData.int).getD j .none) A.in1 s _ _ _ _ c d (pU (vU ns) ()) (pU (vU ms) ()) (by show A.units+1+_<cLine;omega)
    simp only[Array.getElem_toList]at this
    rw[←QJ];exact this
   refine fM.tuples {_,h1,h2,_,D} {_,v,E,_,w} () k (λi f e n G=>?_) λn=>?_
   .obtain⟨z,c⟩:=fE (i:=i) (by rw[zk];exact f) p
    obtain⟨p2,d⟩:=fE (i:=i) (by rw[zk];exact e) g;rw[DF _ _ i () () n G];obtain⟨x,ex⟩:=Br (ns:=ns) (i:=i) ();obtain⟨y,C⟩:=Br (ns:=ms) (i:=i) ();rw[ex]at c ⊢;rw[C]at d ⊢
    simp only[Array.getElem_toList]at c d
    generalize us[i]=u0 at c ⊢;generalize vs[i]=v0 at d ⊢;cases c;cases d;exact fM.ints _ _ _ _
   .rw[DK _ _ λj h=>n j (),r,q]
section
variable {prog:Program}{w:World}{A:Around}{R:Result->Tj->Prop}{I:To}{fp wr:List To}{n:Nat}{P:Nat->MD->Prop}{St:Nat->Heap->Prop}{G:Heap->Prop}
def Ou(W:Walks prog w A.in1 I fp wr n P St)(bt:Nat->Nat->Bool)(S:To)(H:S∉fp)(U:∀h h',G h->(∀b o,b∉wr->b≠S->h.get? b=!o->h'.get? b=!o)->G h')(J:∀i j O Q s,G s.heap->P i O->P j Q->fM A.in1 s O Q (bt i j)) : ∀(k j:Nat) (s:Tj) (r:MD) (c:Nat),n - (j+1)=k->j+1<=n->St (j+1) s.heap->G s.heap->P (argBest bt j) r-> s.heap.get? S=some {cls:=.type "list",dict:=none,data:=.seq #[r,r] c,slots:=#[]}-> (∀v h' tk,P (argBest bt (n - 1)) v->(∀b o,b∉wr->b≠S->s.heap.get? b=!o->h'.get? b=!o)->R (.ok (.ret v)) {s with heap:=h',toks:=tk})-> codeAny 66 A (.builtin "max.loop" {[.ref I,.none,.ref S],[]}) R s:=do D:S∉wr:=λh=>H (W.sub _ h);m:(toString "max"++toString ".loop":String) = "max.loop":=⋯;(k);(by induction k with|zero|succ k X=>?_);(j,s,r,c,Y,Z,x,T,q,E,K);C:j+1=n:=();codeAny_builtin F.entry_max_loop ?_;[Around.under_plainId F.plain_max_loop _];¬wpAny _ A.in1 (seqItems? (.ref S) >>= _) _ _ s;qA (wpAny_seqItems E rfl ?_);¬wpAny _ A.in1 (tryCatch (pyNext (.ref I)) _ >>= _) _ _ s;qA (wpAny_tryCatch (W.done s _ _ (C▸x) λh' tk d=>?_));l:=d S _ D E;¬wpAny _ A.in1 (updateSeq S (λ_=>#[]) >>= _) _ _ _;qA ?_;wpAny_updateSeq l rfl (qA (wpAny_letGo (qE ?_)));K r _ tk (do[<-C];q) λb o f a e=>(Heap.get?_update_other _ _ (Ne.symm a)).trans (d b o f e);(j,s,r,c,Y,Z,x,T,q,E,K);u:j+1<n:=();codeAny_builtin F.entry_max_loop ?_;[Around.under_plainId F.plain_max_loop _];¬wpAny _ A.in1 (seqItems? (.ref S) >>= _) _ _ s;qA (wpAny_seqItems E rfl ?_);¬wpAny _ A.in1 (tryCatch (pyNext (.ref I)) _ >>= _) _ _ s;qA (wpAny_tryCatch (W.item (j+1) s _ _ u x λv h' tk V t d=>?_));l:=d S _ D E;y:G h':=U _ _ T λb o L _ e=>d b o L e;¬wpAny _ A.in1 (tryCatch (holding [v,v] (richCompare .Gt v r >>= _)) _ >>= _) _ _ _;qA (wpAny_tryCatch (qK (qA (J (j+1) (argBest bt j) v r {s with heap:=h',toks:=tk} y V q prog w _ _ ?_))));qA (qK (wpAny_truthy_bool ?_));qA (wpAny_letGo (qE ?_));(by cases L:bt (j+1) (argBest bt j)with|true|false=>?_);#[_,if_true];qA ?_;wpAny_updateSeq l rfl (qA (wpAny_letGo ?_));[m];qE {plainId_quiet F.plain_max_loop _,X (j+1) _ v _ () u (W.frame _ _ _ t λb M o e=>?_) (U _ _ y λb o _ a e=>(Heap.get?_update_other _ _ (Ne.symm a)).trans e) (do#[_,argBest,L,if_true];V) (Heap.get?_update_self _ l rfl) λN B g z p=>?_};(Heap.get?_update_other _ _ (λh:S=b=>H (do[h];M))).trans e;K N B g z λb o f a e=>p b o f a ((Heap.get?_update_other _ _ (Ne.symm a)).trans (d b o f e));#[_,Bool.false_eq_true,if_false];qA (wpAny_letGo ?_);[m];qE {plainId_quiet F.plain_max_loop _,X (j+1) _ r c () u t y (do#[_,argBest,L,Bool.false_eq_true,if_false];q) l λN B g z p=>?_};K N B g z λb o f a e=>p b o f a (d b o f e)
def Q2(W:Walks prog w A.in1 I fp wr n P St)(bt:Nat->Nat->Bool)(S:To)(g:S∉fp)(u:∀h h',G h->(∀b o,b∉wr->b≠S->h.get? b=!o->h'.get? b=!o)->G h')(q:∀i j D E s,G s.heap->P i D->P j E->fM A.in1 s D E (bt i j))(hn:0<n)(y:St 0 s.heap)(J:G s.heap)(H:s.heap.get? S=some {cls:=.type "list",dict:=none,data:=.seq #[] c,slots:=#[]})(K:∀v h' tk,P (argBest bt (n - 1)) v->(∀b o,b∉wr->b≠S->s.heap.get? b=!o->h'.get? b=!o)->R (.ok (.ret v)) {s with heap:=h',toks:=tk}) : codeAny 66 A (.builtin "max.loop" {[.ref I,.none,.ref S],[]}) R s:=do x:S∉wr:=λh=>g (W.sub _ h);f:(toString "max"++toString ".loop":String) = "max.loop":=⋯;codeAny_builtin F.entry_max_loop ?_;[Around.under_plainId F.plain_max_loop _];¬wpAny _ A.in1 (seqItems? (.ref S) >>= _) _ _ s;qA (wpAny_seqItems H rfl ?_);¬wpAny _ A.in1 (tryCatch (pyNext (.ref I)) _ >>= _) _ _ s;qA (wpAny_tryCatch (W.item 0 s _ _ hn y λv h' tk L k d=>?_));m:=d S _ x H;z:G h':=u _ _ J λb o M _ e=>d b o M e;¬wpAny _ A.in1 (updateSeq S (λ_=>#[v,v]) >>= _) _ _ _;qA ?_;wpAny_updateSeq m rfl ?_;[f];qE {plainId_quiet F.plain_max_loop _,Ou W bt S g u q _ 0 _ v _ rfl hn (W.frame _ _ _ k λb t o e=>?_) (u _ _ z λb o _ a e=>(Heap.get?_update_other _ _ (Ne.symm a)).trans e) L (Heap.get?_update_self _ m rfl) λN C l B p=>?_};(Heap.get?_update_other _ _ (λh:S=b=>g (do[h];t))).trans e;K N C l B λb o r a e=>p b o r a ((Heap.get?_update_other _ _ (Ne.symm a)).trans (d b o r e))
end
theorem Dc{bt:Nat->Nat->Bool}(a:∀i,bt i i=false)(b:∀i j k,bt i j=true->bt j k=true->bt i k=true):∀k j,j<=k->bt j (argBest bt k)=false| 0,j,h=>(do(by obtain rfl:j=0:=());a 0)|k+1,j,h=>do@argBest;(by cases c:bt (k+1) (argBest bt k)with|true|false=>?_);[qF rfl];z<|j=k+1;[z];a _;this:=Dc a b k j ();(by cases q:bt j (k+1)with|false|true=>?_);2;this<-[b _ _ _ q c];-this;[qB ⋯];z<|j=k+1;[z];c;Dc a b k j ()
theorem HL(bt:Nat->Nat->Bool):∀k,argBest bt k<=k| 0=>qb _|k+1=>do@argBest;this:=HL bt k;by split <;> omega
def D2(k:List Int×Bool):Tn:=.tuple [.tuple (k.1.map PyData.int),.bool k.2]
theorem KJ:∀{ns ms:List Int},ns.map PyData.int=ms.map PyData.int->ns=ms|[],[],_=>rfl|[],_::_,h=>nomatch h|_::_,[],h=>nomatch h|a::ns,b::ms,h=>by rw[zm,zm]at h;injection h with h1 h2;injection h1 with h1;rw[h1,KJ h2]
open SeqAt in
def Pe{z bs:List To}(B:Reads s.heap a (D2 k) z)(G:Reads s.heap b (D2 m) bs)(inj:k.1=m.1->k.2=m.2)(J:A.units+3<cLine) :
  fM A s a b (bK (.tuple (m.1.map PyData.int)) (.tuple (k.1.map PyData.int))):=by
 have p:PyData.eqv (.tuple (k.1.map PyData.int)) (.tuple (m.1.map PyData.int))=true->k.1=m.1:=λh=>by
  have:=(cH _ _ (by rw[sk];exact lL _ _)).mp h;injection this with this;exact KJ this
 cases B with
 |tuple h1 h2 E y =>
  cases G with
  |tuple C F D x =>
   rename_i l o us I H o' vs K
   have u:=ReadsAll.length _ _ _ y;have r:=ReadsAll.length _ _ _ x;rw[zk]at u r;have u:us.size=2:=u;have r:vs.size=2:=r
   have w:∀j (g:j<us.size) (d:j<vs.size),∃n p2,Reads s.heap us[j] ([PyData.tuple (k.1.map PyData.int),.bool k.2].getD j .none) n/\Reads s.heap vs[j] ([PyData.tuple (m.1.map PyData.int),.bool m.2].getD j .none) p2:=λj g d=>by
    obtain⟨n,c⟩:=fE (i:=j) (by rw[zk];exact g) y;obtain⟨p2,f⟩:=fE (i:=j) (by rw[zk];exact d) x
    simp only[Array.getElem_toList]at c f
    exact{n,p2,c,f}
   refine fM.tuples (e:=λj=>PyData.eqv ([PyData.tuple (k.1.map PyData.int),.bool k.2].getD j .none) ([PyData.tuple (m.1.map PyData.int),.bool m.2].getD j .none)) {_,h1,h2,_,E} {_,C,F,_,D} () (λj g d=>?_) (λi g d v t=>?_) λv=>?_
   .obtain⟨n,p2,c,f⟩:=w j g d
    have lay:∀q:List Int×Bool,([PyData.tuple (q.1.map PyData.int),.bool q.2].getD j .none).canLay0=true/\([PyData.tuple (q.1.map PyData.int),.bool q.2].getD j .none).depth<=1:=λq=>by
     have:j=0\/j=1:=()
     rcases this with rfl|rfl
     .exact⟨vU _,by show PyData.depthAll _+1<=1;rw[Eg];exact qb _⟩
     .exact⟨O,qx 1⟩
    have:=(lay k).2;exact eqAt_reads _ _ A.in1 s _ _ _ _ c f (lay k).1 (lay m).1 (by show A.units+1+_<cLine;omega)
   .obtain⟨n,p2,c,f⟩:=w i g d
    have:i=0\/i=1:=()
    rcases this with rfl|rfl
    .exact IQ c f (by show A.units+1+2<cLine;omega)
    .have h0:=inj (p (v 0 ()))
     have t:PyData.eqv (.bool k.2) (.bool m.2)=false:=t;rw[h0,PySem.SeqAt.eqv_refl _ rfl]at t;cases t
   .rw[p (v 0 ()),jU,u,r];rfl
inductive Lz(xs:List V)(H:Hp)(Q:VK):Prop
 |mk(p ys:_)(nss:List (List Int×Bool))(_:xs=[.ref p])(_:az H p ys)(_:dD H ys (nss.map D2))(_:0<ys.length)(_:∀a∈nss,∀b∈nss,a.1=b.1->a.2=b.2)(_:∀(m:Nat) v ns,ys[m]?=!v->nss[m]?=!ns->(∀ks∈nss,bK (.tuple (ns.1.map PyData.int)) (.tuple (ks.1.map PyData.int))=false)->Q v H)
section
variable {X:Cx}
def Qm(hc:X.calm=true)(hu:X.A.units+3+61<cLine):cn X (.builtin "max") Lz:=do(pins,s,σ,H,xs,us,Q,I,r,h);{p,ys,a,rfl,hq,S,hn,inj,q}:=h;{u,rfl,ru}:=vals1 r;-ru;{its,L,pl,hz}:=I.list hq;hl:=L.length;M:=mF S;M<-[qh];{as,Z}:=S.reads I L;hh:=I.ok.hd hc;f:=pl.isList;d:p<↑s:=(do _;{_,e,_}:=f;qG e);n:(toString "max"++toString ".loop":String) = "max.loop":=⋯;(by let D:Nat->Tn:=λi=>D2 (a.getD i ([],false));let c:Nat->Tn:=λi=>.tuple ((a.getD i ([],false)).1.map PyData.int));look:∀(h':Heap),eO s.heap h'->∀i v,its.toArray[i]?=!v->∃bs,Reads h' v (D i) bs:=λh' x i v e=>(do e<-[m7];{hi,e}:=qp.mp e;{bs,z}:=fE hi (mO x Z);ed:(a.map D2).getD i .none=D i:=(do[zb,qj,qe (do():i<a.length)];¬_=D2 (a.getD i ([],false));[zb,qe (do():i<a.length)];2);z<-[e,ed];{bs,z});call_function_tree F.kind_max F.plain_max F.entry_max (F.args_max1 _) ?_;¬wpAny _ X.A.in1 (Builtin.Builtins.bindParams "max" ["key","default"] 0 {[],[]} >>= _) _ _ s;qA (wpAny_of_eq (show Builtin.Builtins.bindParams "max" ["key","default"] 0 {[],[]}=pure [none,none] from rfl) ?_);qA (qE ?_);qA (wpAny_pyIter_list f (qA (wpAny_newObj_type ?_)));[n];C:∀b o,s.heap.get? b=!o->b≠↑s/\b≠(s.heap.push {cls:=.type "list_iterator",data:=.fields #[.ref p,.int 0 0]}).objs.size:=λb o e=>(do this:=qG e;l:(s.heap.push {cls:=.type "list_iterator",data:=.fields #[.ref p,.int 0 0]}).objs.size=↑s+1:=Heap.size_push ..;[l];{qi this,qi (yj this)});N:(s.heap.push {cls:=.type "list_iterator",data:=.fields #[.ref p,.int 0 0]}).objs.size∉[↑s,p]:=λt=>(do l:(s.heap.push {cls:=.type "list_iterator",data:=.fields #[.ref p,.int 0 0]}).objs.size=↑s+1:=Heap.size_push ..;t<-[l];z||z:=qy.mp t;absurd z (jy _);d<-[<-qt.mp z];absurd d (m8.mpr (jk _)));T:eO s.heap ((s.heap.push {cls:=.type "list_iterator",data:=.fields #[.ref p,.int 0 0]}).push {cls:=.type "list",data:=.seq #[]}):=(eO.push _ _).trans (.push _ _);W:=Walks.list (prog:=X.prog) (w:=X.w) (A:=X.A.in1) hh ↑s p (qi d) its.toArray;hsz:its.toArray.size=its.length:=ze ..;K:∀i,bK (c i) (c i)=false:=λi=>jU _;gm:∀{i},i<a.length->a.getD i ([],false)∈a:=λ{i} h=>(do[zb,qe h];y0 h);qE {plainId_quiet F.plain_max_loop _,Q2 (G:=λh'=>eO s.heap h') W (λi j=>bK (c j) (c i)) _ N (λh h' g k b o e=>k b o (do 0<|(C b o e).1) (C b o e).2 (g b o e)) (λi j V vj s' g hi E=>?_) () {{_,qI _ (qL _ rfl),O,O},(f.push _).push _} T (qL _ rfl) λv h' tk B hk=>?_};{b1,U}:=look _ g i V hi;{b2,r2}:=look _ g j vj E;hi':i<its.toArray.size:=(m9.mp hi).1;hj':j<its.toArray.size:=(m9.mp E).1;Pe U r2 (inj _ (gm ()) _ (gm ())) (do¬X.A.units+1+3<cLine;());Y:eO s.heap h':=λb o e=>hk b o (do 0<|(C b o e).1) (C b o e).2 (T b o e);R:=Dc K (λi j k h1 h2=>uV _ _ _ (do[sk];lL _ _) (do[sk];lL _ _) (do[sk];lL _ _) h2 h1) (its.toArray.size - 1) (bt:=λi j=>bK (c j) (c i));bl:=HL (λi j=>bK (c j) (c i)) (its.toArray.size - 1);B:its.toArray[argBest (λi j=>bK (c j) (c i)) (its.toArray.size - 1)]?=!v:=B;(by generalize argBest (λi j=>bK (c j) (c i)) (its.toArray.size - 1)=m at R bl B);B<-[m7];t:m<ys.length:=();{u',y,J}:=L.get (i:=m) (x:=ys[m]) (qe t);y<-[B];-y;{ys[m],H,I.kept Y,J,q m _ (a.getD m ([],false)) (qe t) (do[zb,qe (do():m<a.length)];2) λks P=>?_};{j,E,ej}:=zv.mp P;this:=R j ();¬bK (c m) _=false;ek:c j=.tuple (ks.1.map PyData.int):=(do¬PyData.tuple ((a.getD j ([],false)).1.map PyData.int)=_;[zb,qe E,ej];2);[<-ek];this
end
def tO(c:To)(q:Tp):HO:=.ext λh=>h.CodeRec (.ref c) q
def Tb(a cl:Nat)(q:Tp)(P:To)(H:Hp):Prop:=H P=!(.cF #[])\/∃c,H P=!(.cF #[rawInt a,rawInt cl,.ref c])/\H c=!(tO c q)
def Tb.same{a cl:Nat}(t:Tb a cl q P H)(s:ag H H'):Tb a cl q P H':=do t||{c,t,u}:=t;.inl (s _ _ t);.inr ⟨c,s _ _ t,s _ _ u⟩
theorem Tb.cF{a cl:Nat}(t:Tb a cl q P H):∃ps,H P=!(.cF ps):=do t||{c,t,u}:=t;⟨_,t⟩;⟨_,t⟩
def Tb.keep{a cl:Nat}(t:Tb a cl q P H)(k:∀b u,H b=!u->((∃ps,u=.cF ps)\/∃d,u=.ext d)->H' b=!u):Tb a cl q P H':=do t||{c,t,u}:=t;.inl (k _ _ t (.inl ⟨_,O⟩));.inr ⟨c,k _ _ t (.inl ⟨_,O⟩),k _ _ u (.inr ⟨_,O⟩)⟩
def Tb.cut{d cl:Nat}(t:Tb d cl q P H)(e:H a=!o)(h1:∀ps,o≠.cF ps)(h2:∀f,o≠.ext f)(s:ag (del H a) H'):Tb d cl q P H' := t.keep λb u c g=>s _ _ (do[bX (λz=>?_)];c;!z;c<-[e];-c;{ps,z}||{f,z}:=g;h1 _ z;h2 _ z)
def Tb.wr{c cl:Nat}(t:Tb c cl q P H)(e:H a=!o)(h1:∀ps,o≠.cF ps)(h2:∀d,o≠.ext d):Tb c cl q P (upd H a o') := t.cut e h1 h2 λb u q=>do z<|b=a;!z;q<-[d6];-q;q<-[bX z];[aB z];q
def MX(r:h.CodeRec (.ref c) q):aV P w H h c (tO c q):=do st:∀h1 h2:Heap,h1.CodeRec (.ref c) q->(∀o,h1.get? c=!o->h2.get? c=!o)->h2.CodeRec (.ref c) q:=(do(h1,h2,{f,d,vs,b,e,a,r},k);-e;{_,_,_,_,O,k _ a,r});{f,d,vs,b,e,a,g}:=id r;-e;{r,{_,a},st}
def mW(K:PySem.W.Frag)(x:Tp):To:=match tabIn K x with|some (_,P)=>P|none=>0
def Ng(K:PySem.W.Frag)(x:Tp):To:=match tabIn K x with|some (c,_)=>c|none=>0
section
variable {X:Cx}{pins:List (To×Obj)}{σ:St}{H:Hp}{s:Tj}
def Inv.mC(I:Inv X pins σ H s){b:To}(a:↑s<=b):b∉dY X.stack:=λc=>do z||z:=qy.mp (I.hG b c);absurd (zf I.lt a) (do[z];wk _);I.vV a z
def Inv.Dw{P c:To}{q:Tp}{h':Heap}{tk:Nat}{more:Array MD}(I:Inv X pins σ H s)(f:H P=!(.cF #[]))(k:∀b o,b≠P->s.heap.get? b=!o->h'.get? b=!o)(r:↑s<=c)(x:h'.CodeRec (.ref c) q)(w:h'.get? P=!(tabObj more)) : Inv X pins σ (upd (upd H P (.cF more)) c (tO c q)) {s with heap:=h',toks:=tk}:=do m:H c=none:=I.aZ.fresh r;B:P<↑s:=I.aZ.lt f;p:P≠c:=qi (zf B r);a:∀b,b≠P->b≠c->(upd (upd H P (.cF more)) c (tO c q)) b=H b:=λb h1 h2=>(do[aB h2,aB h1]);j:∀{b u},H b=!u->(∀ps,u≠.cF ps)->b≠P/\b≠c:=λ{b u} e A=>{λz=>do !z;f<-[e];A _ (qJ f),λz=>do !z;m<-[e];-m};I.un {λb o e n _ _=>k b o (λz=>do !z;f<-[n];-f) e,λb o e n _ _=>{o.slots,k b o (λz=>do !z;f<-[n];-f) e},λb o e n _=>?_,λb o e _=>?_,λb xs e=>?_,λb o u e=>?_,λb ps e=>?_,λb o xs e n=>k b o (j n λps z=>do-z).1 e} λb u e=>?_;[a b (λz=>do !z;f<-[n];-f) (qi (zf (qG e) r))];n;z<|b=P;!z;{_,w};{o,k b o z e};{h,i}:=j e λps z=>(do-z);[a b h i];e;{h,i}:=j e λps z=>(do-z);[a b h i];e;z<|b=P;!z;e<-[f];-e;{more,do[aB p,aE];0};{#[],?_};[a b z (λy=>do !y;e<-[m];-e),e];0;t<|b=c;!t;e<-[aE];-e;MX x;e<-[aB t];z<|b=P;!z;e<-[aE];-e;w;e<-[aB z];(I.aZ b u e).cW (λd v l g=>k d v ?_ g) (λd g=>?_) λd xs g=>?_;l||l:=l;[l];z;(j l λps y=>do-y).1;{h,i}:=j g λps y=>(do-y);[a d h i];g;{h,i}:=j g λps y=>(do-y);[a d h i];g
end
end L2
namespace Rga
def NW{P:Nat->Bool}{p:Pl}{a:List Pl}(h:P p.1=true):(p::a).filter (λp=>P p.1)=p::a.filter λp=>P p.1:=vd (p:=λp:Pl=>P p.1) h
def Rg{P:Nat->Bool}{p:Pl}{a:List Pl}(h:¬P p.1=true):(p::a).filter (λp=>P p.1)=a.filter λp=>P p.1:=yf (p:=λp:Pl=>P p.1) h
def Kb(P:Nat->Bool)(a:List Pl):Prop:=∀k b,(k,!b)∈a->P k=true->P b=true
def Kb.tail(h:Kb P (p::a)):Kb P a:=λk b c=>h k b (qz _ c)
def IW{P:Nat->Bool}{a:List Pl}{x:Nat}:x∈l8 (a.filter λp=>P p.1)↔x∈l8 a/\P x=true:=do@l8;1;(h);{p,hp,rfl}:=qc.mp h;this:=qw.mp hp;{qc.mpr {p,this.1,O},this.2};({h,b});{p,hp,rfl}:=qc.mp h;qc.mpr {p,qw.mpr {hp,b},O}
theorem jB:∀{d:List Pl},WF d->Kb P d->WF (d.filter λp=>P p.1)|[],_,_=>trivial|(a,o)::d,h,c=>do g:=jB h.2.2 c.tail;e<|P a=true;[NW (p:=(a,o)) e];{λz=>h.1 (IW.mp z).1,λb i=>IW.mpr {h.2.1 b i,?_},g};f:o=!b:=i;!f;c a b qm e;[Rg (p:=(a,o)) e];g
def rC(P:Nat->Bool)(bh:Nat->Option Nat)(ms:List Nat):cS bh (ms.filter P)=(cS bh ms).filter λp=>P p.1:=do@cS;[List.filter_map,<-bx];2
def EF(h:∀k∈ms,P k=true->∀b,bh k=!b->P b=true):Kb P (cS bh ms):=λk b c d=>do _;{j,f,e}:=qc.mp c;g:j=k:=congrArg Prod.fst e;a:bh j=!b:=congrArg Prod.snd e;!g;h _ (ym.mp f) d b a
end Rga
namespace L2
open PySem PySem.Spec PySem.W PyProof.Rows
def AN.mem(h:AN P vs js)(b:v∈vs):∃i∈js,P v i:=do _;{m,a,e}:=zv.mp b;{i,hi,p}:=h.at (m:=m) (v:=v) (do[qe a,e]);{i,qk hi,p}
theorem HF:∀{ds:List Tn},PyData.canLayAll0 ds=true->d∈ds->d.canLay0=true|e::ds,h,hm=>do a:(e.canLay0&&PyData.canLayAll0 ds)=true:=h;a<-[zn];rfl||hm:=qy.mp hm;a.1;HF a.2 hm
def KeysAre.sub{ds es:List Tn}{t:Nat}(h:KeysAre ds t)(p:∀x∈es,x∈ds):KeysAre es t := {fO λx g=>HF h.lay (p x g),λd c=>h.kind d (p d c),λa f b e=>h.one a (p a f) b (p b e),λd c=>h.deep d (p d c)}
theorem xQ.filter(W:xQ nk bh D ms t)(c:∀k∈ms,P k=true->∀b,bh k=!b->P b=true):xQ nk bh D (ms.filter P) t where
 cD:=qf (wj _ _) W.cD
 up:=W.up.filter _
 inj:=λi hi j a e=>W.inj i (qw.mp hi).1 j (qw.mp a).1 e
 wf:=by
  have:=Rga.jB W.wf (Rga.EF c);show Rga.WF (Rga.cS bh (ms.filter P));rw[Rga.rC];exact this
 keys:=W.keys.sub λx d=>by
  obtain⟨i,hi,rfl⟩:=qc.mp d;exact qc.mpr {i,(qw.mp hi).1,O}
def AN.pick:∀{vs:List V} {js:List Nat} {us:List V},AN P us (js.filter f)->∀{v:V} {i:Nat},P v i->f i=true->AN P (us++[v]) ((js++[i]).filter f):=λ{vs js us} h {v i} a hi=>do[zy,vd hi];h.snoc a
def AN.skip(h:AN P us (js.filter f))(hi:¬f i=true):AN P us ((js++[i]).filter f):=do[zy,yf hi,we,z6];h
def kU(nk:Nat->List Key)(G:V->Nat->Prop):List 67->List Nat->Prop|[],[]=>True|e::es,i::is=>(e.1=.tup (nk i)/\G e.2.2 i)/\kU nk G es is|_,_=>False
theorem kU.snoc(h1:e.1=.tup (nk i))(h2:G e.2.2 i):∀{kvs:List 67} {js:List Nat},kU nk G kvs js->kU nk G (kvs++[e]) (js++[i])|[],[],_=>{{h1,h2},trivial}|[],_::_,h=>h.elim|_::_,[],h=>h.elim|_::_,_::_,h=>{h.1,kU.snoc h1 h2 h.2}
theorem kU.get{all:List Nat}(inj:∀i∈all,∀j∈all,nk i=nk j->i=j):∀{kvs:List 67} {js done:List Nat} {acc:List 67},kU nk G kvs js->(∀i∈done,i∈all)->(∀i∈js,i∈all)-> (∀i∈done,∃v,vG acc (.tup (nk i))=!v/\G v i)->∀i,i∈done\/i∈js->∃v,vG (putAll acc kvs) (.tup (nk i))=!v/\G v i|[],[],done,acc,_,_,_,h,i,hi=>(do hi||hi:=hi;h i hi;-hi)|[],_::_,_,_,h,_,_,_,_,_=>h.elim|_::_,[],_,_,h,_,_,_,_,_=>h.elim|e::es,j::js,done,acc,h,hd,hj,ha,i,hi=>do a:=hj j qm;kU.get inj (done:=done++[j]) (acc:=pG acc e.1 e.2.1 e.2.2) h.2 (λk b=>?_) (λk b=>hj k (qz _ b)) (λk b=>?_) i ?_;z||z:=zg.mp b;hd k z;[qt.mp z];a;[d7,h.1.1];c<|nk k=nk j;[qF (do[c])];d:k∈all:=(do z||z:=zg.mp b;hd k z;[qt.mp z];a);[inj k d j a c];{_,O,h.1.2};[qB (λz=>c (KD.tup.inj z))];z||z:=zg.mp b;ha k z;absurd (do[qt.mp z]) c;z||z:=hi;.inl (yi _ z);rfl||z:=qy.mp z;.inl (z9 _ (qt.mpr rfl));.inr z
theorem cm.af(t:aj H H'):∀{ys:List V} {es:List 67},cm H ys es->cm H' ys es|[],[],_=>trivial|[],_::_,h=>h.elim|_::_,[],h=>h.elim|_::_,_::_,h=>{let⟨b,e,h1,h2⟩:=h.1;{b,e,t _ _ h1,h2.af t},cm.af t h.2}
theorem cm.snoc(a:∃b,y=.ref b/\H b=! (.tup [e.2.1,e.2.2])/\GK H e.1 e.2.1):∀{ys:List V} {es:List 67},cm H ys es->cm H (ys++[y]) (es++[e])|[],[],_=>{a,trivial}|[],_::_,h=>h.elim|_::_,[],h=>h.elim|_::_,_::_,h=>{h.1,cm.snoc a h.2}
def Jh(t u:TS):TS:=λD σ H=>∃P:St->Hp->Prop,t {D with nx:=P} σ H/\∀σ' H',P σ' H'->u D σ' H'
def AC(t:TT):TT:=λσ H Q=>∃P:Bool->Hp->Prop,t σ H P/\∀b H',P b H'->Q b H'
section
variable {X:Cx}{st:Stmt}{rest:List Stmt}{t u:TS}
def pQ(h1:PS X st t)(h2:iL X rest u):iL X (st::rest) (Jh t u):=do _;{?_};(pins,s,σ,H,D,I,h);{P,h,k}:=h;wpAny_execs_cons (bI (h1 pins s σ H {D with nx:=P} I h) λf b q=>?_);(by cases f with|next|ret v|brk|cont=>?_);{σ',H',a,q}:=q;h2 pins b σ' H' D a (k σ' H' q);q;q;q
def sR{e:Expr}{t:TT}(h:PT X e t):PT X e (AC t):=do _;{?_};(pins,s,σ,H,Q,I,q);{P,h1,h2}:=q;bI (h pins s σ H P I h1) λb c ⟨H',a,q⟩=>{H',a,h2 _ _ q}
end
section
variable {prog:Program}{w:World}{A:Around}{E:KE}{s:Tj}
def DG(f:(d==sysModules)=false)(c:s.heap.get? d=!od)(h:od.ExactDict)(b:od.data=.dict es ep)(g:Q (.ref ↑s) {s with heap:=s.heap.push {cls:=.type "dict_keyiterator",data:=.fields #[.ref d,.int 0 0,.int es.size 0,.int ep 0]}}):wpAny 66 A (pyIter (.ref d)) Q E s:=do e:s.TypeIs (.ref d) "dict":={od,c,h.1};wpAny_pyIter_slot e F.slot_dict_iter (qO F.slot_dict_iter e F.entry_dict_iter ?_ (F.args_dict_iter_1 _));(by unfold Builtin.«dict.__iter__» Builtin.Dict.dictSlotNone);qA (qA (wpAny_notOrdered_dict e ?_));qE (a:=Value.ref d) ?_;¬wpAny _ _ (Builtin.Dict.showsAll d >>= _) _ _ s;@Builtin.Dict.showsAll;[qB (by rw[f];decide)];qA (qE (qA (wpAny_dictEntries c b (qA (wpAny_dictEpoch c b ?_)))));qA (wpAny_newObj_type (qE {_,O,"dict_keyiterator",_,{_,qL _ rfl,O},F.slot_dict_keyiterator_next.lookup,by simpa[rawInt] using g}))
def vW(l:A.handled=none)(c:s.heap.IsKeyIter it d i n ep)(f:s.heap.get? d=!od)(g:od.data=.dict es ep)(hn:es.size=n)(h1:∀(hi:i<es.size) h',h'.IsKeyIter it d (i+1) n ep->Heap.SameBut it s.heap h'->Q (some es[i].key) {s with heap:=h'})(h2:es.size<=i->∀h',Heap.ExtBut it s.heap h'->Q none {s with heap:=h'}):wpAny 66 A (pyNext (.ref it)) Q E s:=do _;{o,k,p,j}:=id c;!hn;@pyNext;qA (wpAny_attempt (wpAny_callSpecial?_slot (name:=Str.ofString "__next__") c.typeIs F.slot_dict_keyiterator_next (qO F.slot_dict_keyiterator_next c.typeIs F.entry_dict_keyiterator_next ?_ (F.args_dict_keyiterator_next_1 _))));qA (qE (qA (qA ?_)));(by first|refine qA (wpAny_typeNameOfWhole_keyiter c.typeIs (qE ?_))|refine qA (wpAny_typeNameOf_keyiter c.typeIs (qE ?_)));qA (wpAny_fieldsOf k j ?_);#[_,show Builtin.Dict_items.ownsTuple "dict_keyiterator"=false from ⋯,Bool.false_eq_true,if_false];¬wpAny _ _ (if(Value.ref d==Value.none)=true then _ else _) _ _ s;[qB (show ¬((Value.ref d==Value.none)=true) from qo)];qA (qE (qA (wpAny_dictEntries f g ?_)));[qB (do 0)];qA (qE (qA (wpAny_dictEpoch f g ?_)));[qB (do 0)];qE ?_;hi<|i<es.size;#[_,show ¬((i:Int)<0) from (),if_false,Int.toNat_natCast,Array.getElem?_eq_getElem hi];qA ?_;(by first|refine qA (wpAny_typeNameOfWhole_keyiter c.typeIs (qE ?_))|refine qA (wpAny_typeNameOf_keyiter c.typeIs (qE ?_)));qA (wpAny_isOneOf_keyiter c.typeIs ?_);¬wpAny _ _ (setField (.ref it) 1 (rawInt ((i:Int)+1)) >>= _) _ _ s;qA (wpAny_setField k j (do 0) ?_);e:(s.heap.update it (Obj.mapFields (·.setIfInBounds 1 (rawInt ((i:Int)+1))))).IsKeyIter it d (i+1) es.size ep:={_,Heap.get?_update_self _ k (Obj.isFreed_of_fields (Obj.data_mapFields j _)),(Obj.cls_mapFields ..).trans p,do[Obj.data_mapFields j];#[rawInt]};qA (qK (qA (wpAny_isOneOf_keyiter (s:={s with heap:=s.heap.update it (Obj.mapFields (·.setIfInBounds 1 (rawInt ((i:Int)+1))))}) e.typeIs ?_)));¬wpAny _ _ (pure es[i].key) _ _ _;qE (qE {_,O,qE (h1 hi _ e (Heap.SameBut.update ..))});h:es.size<=i:=();#[_,show ¬((i:Int)<0) from (),if_false,Int.toNat_natCast,Array.getElem?_eq_none h];qA ?_;(by first|refine qA (wpAny_typeNameOfWhole_keyiter c.typeIs (qE ?_))|refine qA (wpAny_typeNameOf_keyiter c.typeIs (qE ?_)));¬wpAny _ _ (setField (.ref it) 0 .none >>= _) _ _ s;qA (wpAny_setField k j (do 0) ?_);¬wpAny _ _ (newExc (.type "StopIteration") [] >>= _) _ _ _;qA ?_;#[_,newExc,newTuple];qA (wpAny_newObj_type ?_ (by size_fits));qA (m:=firstArgMember _ _) (wpAny_of_eq (a:=Value.none) (by first|rfl|simp only[firstArgMember];rfl) ?_);wpAny_newObj_type ?_ (by size_fits);#[_,raiseNew];qA (wpAny_handled ?_);[show A.in1.handled=none from l];qA (qE (wpAny_throw ?_));qA (wpAny_isInstance (T:="StopIteration") (b:=true) {_,qL _ rfl,O} isSubtype_stop ?_);qE (h2 h _ (((Heap.SameBut.update ..).extBut.push _).push _))
end
theorem A6{α β:Type}{F:α->β->Prop}:∀{l₁:List α} {a:List β},Paired F l₁ a->∀(i:Nat) (h1:i<l₁.length) (h2:i<a.length),F l₁[i] a[i]|_,_,.cons r _,0,_,_=>r|_,_,.cons _ t,i+1,h1,h2=>A6 t i (bz h1) (bz h2)
section
variable {X:Cx}{pins:List (To×Obj)}{σ:St}{H:Hp}{s:Tj}
def Inv.oZ(I:Inv X pins σ H s)(e:H a=! 69)(i:s.heap.get? a=!o):Inv X pins σ (upd H a (.dA o 69)) s:=do I.un (t':=s.toks) (h':=s.heap) {λb ob q _ _ _=>q,λb ob q _ _ _=>{ob.slots,q},λb ob q n _=>?_,λb ob q _=>{ob,q},λb xs q=>?_,λb ob u q=>?_,λb ps q=>?_,λb ob xs q n=>q} λb u q=>?_;[aB (λz=>do n<-[z,e];-n)];n;[aB (λz=>do q<-[z,e];-q)];q;[aB (λz=>do q<-[z,e];-q)];q;{#[],do[aB (λz=>do q<-[z,e];-q),q];0};f:∀c {d:To},H c=!(.own d)->(upd H a (.dA o 69)) c=!(.own d):=λc d q=>(do[aB (λz=>do q<-[z,e];-q)];q);h:∀c xs,H c=! (.tup xs)->(upd H a (.dA o 69)) c=! (.tup xs):=λc xs q=>(do[aB (λz=>do q<-[z,e];-q)];q);g<|b=a;!g;q<-[aE];-q;{i,(show aV X.prog X.w H s.heap b 69 from I.aZ b _ e).cW (λ_ _ _ q=>q) (λc q=>f c q) h};q<-[aB g];(I.aZ b u q).cW (λ_ _ _ q=>q) (λc q=>f c q) h
def q_(q:o.data=.dict es ep)(I:Inv X pins σ H s)(e:H a=! (.dA o 69)):s.heap.get? a=!o/\es.size=kvs.length/\∀i (hi:i<es.size) (g:i<kvs.length),RelV kvs[i].2.1 es[i].key:=do _;{h,_,_,xs,d,o',m,l,c,_,b,k,_}:s.heap.get? a=!o/\aV X.prog X.w H s.heap a 69:=I.aZ a _ e;c<-[h];-c;b<-[q];(by injection b with b _);!b;n:es.toList.length=kvs.length:=(do[k,qh,d.length]);{h,do 0<|n,λi hi g=>?_};j:i<xs.length:=(do[<-d.length];g);f:=A6 d i g j;p:es[i].key=xs[i].2.1:=(do h1:es.toList[i]?=some es[i]:=(do#[hi]);h1<-[k,qj,qe j];[<-qJ h1];2);[p];f.2.2.1
end
def vA(a:To)(o:Obj)(kvs:List 67):It := {λi H=>H a=! (.dA o 69)/\i<kvs.length,λi H x H'=>H'=H/\∃e,kvs[i]?=!e/\x=e.2.1,λi H=>H a=! (.dA o 69)/\kvs.length<=i}
def PH{P:Program}{w:World}{K:PySem.W.Frag}{tg:Expr}(a it:To){o:Obj}{es:Array DictEntry}{ep:Nat}{kvs:List 67}(m:o.data=.dict es ep):Turn P w K tg (vA a o kvs) [it] it (λi h=>h.IsKeyIter it a i kvs.length ep) where
 mem:=by simp
 obj:=λi h st b g=>by
  have e:b=it:=by simpa using g
  subst e;obtain⟨o,e,c,d⟩:=st;exact{o,e,λv z=>by rw[d]at z;cases z}
 keep:=λi h h' st k=>st.at λo e=>k it (by simp) o e
 item:=by
  intro X C q A F i pins s σ H E I n st u;subst C q A;obtain⟨r,hi⟩:=u;obtain⟨t,x,l⟩:=q_ m I r;obtain⟨y,D,M,B,p,G⟩:=n it (by simp)
  refine vW (I.ok.hd F) st t m x (λf h' j J=>?_) λz=>absurd hi ()
  have L:Inv X pins σ H { s with heap:=h' }:=I.turned (t':=s.toks) (λb o g e=>(J.2 b g).trans e) y D B p G;obtain⟨ob,e,c,d⟩:=id j;exact{es[i].key,O,sh (s:={ s with heap:=h' }) e c d ⋯ {kvs[i].2.1,H,L,l i f hi,{O,kvs[i],qe hi,O},j,λb g=>(n b g).1}}
 done:=by
  intro X C q A F i pins s σ H E I n st u;subst C q A;obtain⟨r,hi⟩:=u;obtain⟨t,x,l⟩:=q_ m I r;obtain⟨y,D,M,B,p,G⟩:=n it (by simp);exact vW (I.ok.hd F) st t m x (λf=>absurd f ()) λ_ h' N=>{O,I.turned (t':=s.toks) (λb o g e=>N b o g e) y D B p G}
 self:=λ_ _ _ _ _ st h=>wpAny_pyIter_keyiter st h
inductive xO(R:It->Hp->Prop)(x:V)(H1:Hp):Prop
 |mk(a kvs:_)(_:x=.ref a)(_:((H1 a=! 69/\∀o,R (vA a o kvs) (upd H1 a (.dA o 69)))\/∃o,H1 a=! (.dA o 69)/\R (vA a o kvs) H1))
def CA(tl:TE):TI:=λσ H R=>tl σ H λx H1=>xO R x H1
section
variable {X:Cx}{tg:Expr}
def Hi{tl:TE}(u:PE X l tl):PI X tg l (CA tl):=do _;{?_};(pins,s,σ,H,R,I,h);bI (u pins s σ H _ I h) λv c ⟨x,H1,k,r,z⟩=>?_;{a,kvs,e,q}:=z;!e;-r;main:∀(H2:Hp) (o:Obj),Inv X pins σ H2 c->H2 a=! (.dA o 69)->R (vA a o kvs) H2->wpAny 48 X.A (pyIter (.ref a)) (Pb X pins σ tg R) X.xe c:=λH2 o f p t=>(do _;{i,_,m,xs,_,o',es,ep,d,B,n,_,_}:c.heap.get? a=!o/\aV X.prog X.w H2 c.heap a 69:=f.aZ a _ p;d<-[i];-d;{_,g,_}:=q_ n f p;DG m i B n ?_;{↑c,[↑c],_,_,H2,O,f.kept (t':=c.toks) λb o e=>qI _ e,PH a _ n,{_,qL _ rfl,O,do[g];2},λb y=>?_,t};e:b=↑c:=(do 0<|y);!e;f.lM (qb _) (f.aZ.fresh (qb _)));{j,q}||{o,j,q}:=q;{_,_,xs,_,o,es,ep,i,_}:=(show aV X.prog X.w H1 c.heap a 69 from k.aZ a _ j);main _ o (k.oZ j i) aE (q o);main _ o k j q
end
def Nr{a:To}{o:Obj}{kvs:List 67}{g:TG}{tb:TS}{D:Ends}{σ:St}{H:Hp}(b:Nat->St->Hp->Prop)(h0:b 0 σ H)(h:∀i σ H,b i σ H->H a=! (.dA o 69))(j:∀i e σ H,kvs[i]?=!e->b i σ H->g e.2.1 σ H λc H2=>tb {D with nx:=b (i+1),ct:=b (i+1),bk:=D.nx} c H2)(q:∀σ H,b kvs.length σ H->D.nx σ H) : ∃W:Nat->Nat->St->Hp->Prop,(∃m,W 0 m σ H)/\∀i m σ H,W i m σ H-> ((vA a o kvs).stop i H/\D.nx σ H)\/((vA a o kvs).go i H/\∃N:St->Hp->Prop,(∀σ' H',N σ' H'->∃f,f<m/\W (i+1) f σ' H')/\∀x H',(vA a o kvs).xq i H x H'->g x σ H' λc H2=>tb {D with nx:=N,ct:=N,bk:=D.nx} c H2):=do _;{λi m σ H=>m=kvs.length - i/\i<=kvs.length/\b i σ H,{kvs.length,do 0,Nat.zero_le _,h0},?_};(i,m,σ,H,{rfl,hi,p});d<|i<kvs.length;.inr {{h i σ H p,d},b (i+1),λσ' H' l=>{kvs.length - (i+1),(),O,d,l},λx H' y=>?_};{e,k,n,rfl}:=y;!e;j i k σ _ n p;e:i=kvs.length:=();!e;.inl {{h _ σ H p,qb _},q σ H p}
section
variable {P:Program}{w:World}{A:Around}{E:KE}{s:Tj}
def ND{v val:MD}(a:(ai P w).is k v=true)(g:s.heap.DictOf (ai P w) d vs)(hsz:vs.length<=sizeLine)(h1:∀u,valueAt vs k=!u->Q u {s with toks:=s.toks+1})(h2:valueAt vs k=none->∀h',h'.DictOf (ai P w) d (stored vs k val)->Heap.SameBut d s.heap h'->Q val {s with heap:=h',toks:=s.toks+1}):wpAny (model P w) A (dictSetDefault d v val) Q E s:=do _;{o,es,ep,p,L,n,H,hp,hn}:=g;B:es.size<=sizeLine:=(do J:=hp.length;J<-[zk];());G:(es.findIdx? λe=>(ai P w).is k e.key)=vs.findIdx? λh=>decide (h.1=k):=(do[<-hp.findIdx k];{l}:=es;0);@dictSetDefault;(by try with_reducible refine qK ?_);qA ((ai P w).pyHash a (qA (wpAny_dictFind_of (s:={s with toks:=s.toks+1}) a p n H ?_)));(by cases hi:es.findIdx? λe=>(ai P w).is k e.key with|none|some i=>?_);c:k∉vs.map (·.1):=not_mem_of_findIdx_none (G▸hi);f:¬(vs.any λh=>decide (h.1=k))=true:=λz=>(do _;{h,q,r}:=yt.mp z;c (qc.mpr {h,q,qN r}));I:valueAt vs k=none:=(do[<-hp.find k];this:es.toList.find? (λe=>(ai P w).is k e.key)=none:=(do[jr];(e,r,z);M:=Array.findIdx?_eq_none_iff.mp hi e (j9.mp r);z<-[M];-z);[this];2);qA (wpAny_rule (qA (wpAny_updateDictKeys (hz:=B) (s:={s with toks:=s.toks+1}) p n (qE (h2 I _ {_,_,ep+1,Heap.get?_update_self _ p (Obj.isFreed_of_dict (Obj.data_mapDictKeys n _)),L.mapDictKeys _,Obj.data_mapDictKeys n _,H.push a _,?_,?_} (Heap.SameBut.update ..))))));[stored,qB f];this:=hp.append a ((ai P w).hash k) val;{l}:=es;0<|this;[stored,qB f,zt,yk];{hn,do 0,λx C y K z=>?_};C<-[z];C<-[qt.mp K];c C;{b,_,_}:=Array.findIdx?_eq_some_iff_getElem.mp hi;D:vs.findIdx? (λh=>decide (h.1=k))=!i:=G▸hi;{t,j,_}:=mz.mp D;j:vs[i].1=k:=qN j;F:vs[i]?=!(k,vs[i].2):=(do[qe t,<-j]);{_,m}:=hp.get? (i:=i) (e:=es[i]) (k:=k) (v:=vs[i].2) (do[yr];ja b) F;qA (wpAny_dictEntries (s:={s with toks:=s.toks+1}) p n ?_);[ja b];qA (wpAny_rule (qE ?_));[m];h1 _ (valueAt_of_get hn F)
def Oe(f:(d==sysModules)=false):MeetsIn P w (Builtin.«dict.setdefault» {[.ref d,v,b],[]}) (λA R s=>∃k vs,(ai P w).is k v=true/\s.heap.DictOf (ai P w) d vs/\vs.length<=sizeLine ∧ (∀u,valueAt vs k=!u->R (.ok (.ret u)) {s with toks:=s.toks+1})/\(valueAt vs k=none->∀h',h'.DictOf (ai P w) d (stored vs k b)->Heap.SameBut d s.heap h'->R (.ok (.ret b)) {s with heap:=h',toks:=s.toks+1})) := .of_wp λA R s ⟨k,vs,a,g,hz,h1,h2⟩=>do@Builtin.«dict.setdefault»;qA ?_;@Builtin.Dict.keyAndDefault;qA (wpAny_notOrdered_dict g.typeIs (qE ?_));¬wpAny (model P w) _ (if(d==sysModules)=true then _ else(dictSetDefault d v b >>= _)) _ _ s;[qB (by rw[f];decide)];qA (ND a g hz (λu c=>qE {u,O,h1 u c}) λc h' g' e=>qE {b,O,h2 c h' g' e})
end
inductive sL(x:V)(vs:List V)(H:Hp)(Q:VK):Prop
 |mk(a kvs k d:_)(_:x=.ref a)(_:vs=[kV k,d])(_:H a=!(.dK kvs))(_:kvs.length<sizeLine)(_:(∀u,bQ kvs k=!u->Q u H))(_:(bQ kvs k=none->Q d (upd H a (.dK (putK kvs k d)))))
section
variable {X:Cx}
def Nl:yM X "dict.setdefault" sL:=do(pins,s,σ,H,x,xs,v,us,Q,I,B,r,h);{a,kvs,k,d,rfl,rfl,m,C,w,t}:=h;{u,E,rfl,A,f}:=r.two;-B;{z,o,ys,c,n}:=yZ I.aZ m;b:=c.val k;call_meetsIn F.slot_dict_setdefault n.typeIs F.entry_dict_setdefault (F.args_dict_setdefault_3 _ _ _) (Oe o) {k,ys,oT A,n,do[<-c.length];z,λD j=>?_,λj h' g l=>?_};b<-[j];(by cases e:bQ kvs k with|none|some v=>?_);b<-[e];b.elim;b<-[e];{v,H,I.tok _,b,w v e};b<-[j];(by cases e:bQ kvs k with|some v|none=>?_);b<-[e];b.elim;i:(putK kvs k d).length<=sizeLine:=(do this:=By kvs k d;());p:∃q,h'.get? a=!q:=let⟨q,_,_,y,_⟩:=g;{q,y};{d,upd H a (.dK (putK kvs k d)),pY I (do[m];True.intro) l p (Kq i o (c.put k f) g),f,t e}
end
section
variable {prog:Program}{w:World}{A:Around}{E:KE}{s:Tj}
def JS(q:A.handled=none)(m:it≠d)(a:od.data=.dict es ep) :
  WalksS prog w A it [it,d] [it] Eq es.size (λj v=>(es[j]?).map (·.key)=!v) (λi s=>s.heap.IsKeyIter it d i es.size ep/\s.heap.get? d=!od) where
 sub:=λb l=>by rw[qt.mp l];exact qm
 grefl:=λ_=>rfl
 gtrans:=λ_ _ _ h1 h2=>h1.trans h2
 frame:=λi s h' tk ⟨⟨o,e,c,r⟩,g⟩ _ k=>{{o,k it qm o e,c,r},k d (qz _ qm) od g}
 item:=λi s Q E hi ⟨st,g⟩ k=>vW q st g a rfl (λf h' n p=>k _ _ (by rw[ja f];rfl) {n,(p.2 d m.symm).trans g} {λb o l e=>(p.2 b (λz=>l (by rw[z];exact qm))).trans e,O,O,O,qb _}) λz=>absurd hi ()
 done:=λs Q E ⟨st,g⟩ k=>vW q st g a rfl (λf=>absurd f ()) λ_ h' t=>k _ {λb o l e=>t b o (λz=>l (by rw[z];exact qm)) e,O,O,O,qb _}
 self:=λi s Q E ⟨st,_⟩ h=>wpAny_pyIter_keyiter st h
def Ha{es:Array DictEntry}{acc:Array MD}(h:ItemsOf (λj v=>(es[j]?).map (·.key)=!v) acc es.size):acc.toList=es.toList.map (·.key):=do(by apply yb);(j);a<|j<acc.size;b:j<es.size:=(do[<-h.1];a);this:=h.2 j acc[j] (ja a);[yr,ja a,qj,yr];this.symm;b:¬j<es.size:=(do[<-h.1];a);[wz (do[zk];()),wz (do[qh,zk];())]
def QR(J:A.handled=none)(K:(d==sysModules)=false)(B:s.heap.get? d=!od)(G:od.ExactDict)(i:od.data=.dict es ep)(hz:es.size<=sizeLine)(L:∀s',Moved [] Eq s s'->Q (es.toList.map (·.key)) s'):wpAny 66 A (collect (.ref d)) Q E s:=do@collect;qA (wpAny_runValue (codeAny_builtin F.entry_proto_collect ?_));[Around.under_plainId F.plain_proto_collect _];¬wpAny _ A.in1 (newList [] >>= λl=>again (.builtin "list.__iadd__" {[l,.ref d],[]})) _ _ s;qA (wpAny_newObj_type ?_);qE {plainId_quiet F.plain_list_iadd _,codeAny_builtin F.entry_list_iadd ?_};[Around.under_plainId F.plain_list_iadd _];n:(s.heap.push {cls:=.type "list",data:=.seq ([]:List MD).toArray}).get? d=!od:=qI _ B;I:Shared.TypeIs {s with heap:=s.heap.push {cls:=.type "list",data:=.seq ([]:List MD).toArray}} (.ref d) "dict":={od,n,G.1};f:d<↑s:=(do h||h:=jn d ↑s;h;(by exfalso);this:s.heap.get? d=none:=(do@Heap.get?;[re h]);B<-[this];-B);h1:Builtin.List.listSameRef (.ref ↑s) (.ref d)=false:=(do¬(↑s==d)=false;beq_eq_false_iff_ne.mpr (zo f));¬wpAny _ A.in1 (Builtin.List.listExtendWith (.ref ↑s) (.ref d) (.ref ↑s)) _ _ _;@Builtin.List.listExtendWith;qA (wpAny_typeOf I ?_);[qB (by rw[h1];decide)];qA (DG K n G i ?_);qA (qK ?_);(by generalize g:(s.heap.push {cls:=.type "list",data:=.seq ([]:List MD).toArray}).push {cls:=.type "dict_keyiterator",data:=.fields #[.ref d,.int 0 0,.int es.size 0,.int ep 0]}=h2);p:h2.get? d=!od:=(do[<-g];qI _ n);k:Shared.TypeIs {s with heap:=h2} (.ref d) "dict":={od,p,G.1};@Builtin.List.listLengthHint;qA (wpAny_specialOf (name:=Str.ofString "__len__") k F.slot_dict_len.lookup ?_);(by generalize u:("dict.__len__":String)=id0;wp_delta);[show splitId id0=some ("dict","__len__") from do !u;by decide +kernel];!u;qA (wpAny_isInstance (T:="dict") k PySem.F.sub_dict_dict ?_);[qB ⋯];(by wp_delta);[qF ∅];qA (wpAny_typeOf k (qE ?_));[qF ∅];x:h2.get? ↑s=some {cls:=.type "list",data:=.seq ([]:List MD).toArray}:=(do[<-g];qI _ (qL _ rfl));qA (wpAny_rule (qA ?_));@Builtin.List.listTouch;qA (listUpdate_at x rfl ?_);{H,m}:∃H,(h2.update ↑s (Obj.mapSeq (·.push Value.none))).get? ↑s=!(seqObj "list" #[Value.none] H):={_,get?_update_seq x _};c:∀b o,b≠↑s->h2.get? b=!o->(h2.update ↑s (Obj.mapSeq (·.push Value.none))).get? b=!o:=λb o j e=>(Heap.get?_update_other _ _ (λz=>j z.symm)).trans e;(by generalize h2.update ↑s (Obj.mapSeq (·.push Value.none))=h3 at m c);listUpdate_at (s:={s with heap:=h3}) m rfl ?_;{C,v}:∃C,(h3.update ↑s (Obj.mapSeq (·.pop))).get? ↑s=!(seqObj "list" #[] C):={_,get?_update_seq m _};a:∀b o,b≠↑s->h2.get? b=!o->(h3.update ↑s (Obj.mapSeq (·.pop))).get? b=!o:=λb o j e=>(Heap.get?_update_other _ _ (λz=>j z.symm)).trans (c b o j e);¬wpAny _ _ _ _ _ {s with heap:=h3.update ↑s (Obj.mapSeq (·.pop))};(by generalize h3.update ↑s (Obj.mapSeq (·.pop))=h4 at v a);hsz:(s.heap.push {cls:=.type "list",data:=.seq ([]:List MD).toArray}).objs.size=↑s+1:=size_push' _ _;t:h2.get? (↑s+1)=some {cls:=.type "dict_keyiterator",data:=.fields #[.ref d,.int 0 0,.int es.size 0,.int ep 0]}:=(do[<-g,<-hsz];qL _ rfl);¬wpAny _ _ (again (Code.builtin "list.extend.loop" {[Value.ref ↑s,Value.ref (s.heap.push {cls:=.type "list",data:=.seq ([]:List MD).toArray}).objs.size,Value.ref ↑s],[]})) _ _ _;[hsz];W:=JS (prog:=prog) (w:=w) (A:=A.in1) (it:=↑s+1) (d:=d) (od:=od) (es:=es) (ep:=ep) J (zo (yj f)) i;qE {plainId_quiet F.plain_extend_loop _,codeAny_extend_loopS W hz ↑s (λz=>?_) _ es.size 0 {s with heap:=h4} #[] C rfl (qx _) {{_,a _ _ (jy _) t,O,O},a _ _ (qi f) p} v (ItemsOf.nil _) λs' y M q D r=>?_};(by ac_nf at z);z||z:=z;jy _ z.symm;zo f z;¬wpAny _ A (load ↑s >>= _) _ _ s';qA (wpAny_load D ?_);¬wpAny _ _ (pure y.toList) Q E s';[Ha r];qE (L s' {λb o _ e=>?_,q.gens,q.drawn,q.os,q.toks});j:b<↑s:=(do h||h:=jn b ↑s;h;(by exfalso);this:s.heap.get? b=none:=(do@Heap.get?;[re h]);e<-[this];-e);q.heap b o (λz=>?_) (a b o (qi j) ?_);(by ac_nf at z);z||z:=z;qi j z;qi (yj j) z;[<-g];qI _ (qI _ e)
def RH{lt:Nat->Nat->Bool}(W:Srt.eP lt)(v:A.handled=none)(t:(d==sysModules)=false)(o:s.heap.get? d=!od)(u:od.ExactDict)(f:od.data=.dict es ep)(k:es.toList.map (·.key)=vs)(g:vs.length<=2000)(j:MU lt vs.length)(b:∀s',Moved [] Eq s s'->∀h',eO s'.heap h'->2<=vs.length->Answers prog w A.in1.in1 {s' with heap:=h'} vs lt)(h:∀s' h' a p c,Moved [] Eq s s'->eO s'.heap h'->↑s'<=a->Arr vs.length lt p->h'.get? a=!(seqObj "list" (List.toArray (p.toList.map λi=>vs.getD i Value.none)) c)->Q (.ref a) {s' with heap:=h'}) : wpAny 66 A (call (.builtin "sorted") [.ref d]) Q E s:=do z:es.size=vs.length:=(do[<-k,qh,zk]);q:vs.length<=sizeLine:=(do[sizeLine_eq];());Calls.call_function_entry kind_sorted plain_sorted entry_sorted (args_sorted1 _) ?_;@Builtin.«sorted»;qA (m:=checkCount "sorted" 1 1 _) (qE (qA (QR v t o u f () λs' n=>?_)));[k];qA (wpAny_newList ?_ q);y:eO s'.heap (s'.heap.push (seqObj "list" vs.toArray 0)):=.push _ _;l:(s'.heap.push (seqObj "list" vs.toArray 0)).get? ↑s'=! (seqObj "list" vs.toArray 0):=qL _ rfl;¬wpAny 66 _ _ _ _ {s' with heap:=s'.heap.push (seqObj "list" vs.toArray 0)};qA (qK (qO slot_list_sort {_,l,O} entry_list_sort (QX W l g j (h0:=s'.heap) (qb _) y (b s' n) λh' p c x r e=>?_) (args_list_sort _)));{_,O,qE {_,O,h s' h' _ p c n x (qb _) r e}}
end
def Inv.moved{X:Cx}{pins:List (To×Obj)}{σ:St}{H:Hp}{s s':Tj}(I:Inv X pins σ H s)(m:Moved [] Eq s s'):Inv X pins σ H s':=do e:s'={s with heap:=s'.heap,toks:=s'.toks}:=(do _;{h1,h2,c,a,d}:=m;-s;-s';-h2;-c;-a;2);[e];I.kept (t':=s'.toks) λb o q=>m.heap b o (do 0) q
inductive CC(xs:List V)(H:Hp)(Q:VK):Prop
 |mk(p kvs ds t:_)(_:xs=[.ref p])(_:Rd H p 69)(_:dD H (kvs.map (·.2.1)) ds)(_:KeysAre ds t)(_:kvs.length<64)(_:∀q H' ix,H q=none->ag H H'->c7 ds ix->H' q=!(.lst (ix.map λi=>(kvs.map (·.2.1)).getD i .aS))->Q (.ref q) H')
inductive wV(xs:List V)(H:Hp)(Q:VK):Prop
 |mk(p kvs ds t:_)(_:xs=[.ref p])(_:Rd H p (.dK kvs))(_:dD H (kvs.map λe=>kV e.1) ds)(_:KeysAre ds t)(_:kvs.length<64)(_:∀q H' ix,H q=none->ag H H'->c7 ds ix->H' q=!(.lst (ix.map λi=>(kvs.map λe=>kV e.1).getD i .aS))->Q (.ref q) H')
section
variable {X:Cx}
def JF{pins:List (To×Obj)}{σ:St}{H:Hp}{s:Tj}{p:To}{od:Obj}{es:Array DictEntry}{ep:Nat}{ys:List V}{its:List MD}{ds:List Tn}{t:_}{Q:VK}(G:X.A.units+3+61<cLine)(B:X.A.handled=none)(I:Inv X pins σ H s)(C:(p==sysModules)=false)(y:s.heap.get? p=!od)(D:od.ExactDict)(b:od.data=.dict es ep)(r:es.toList.map (·.key)=its)(d:aK ys its)(o:dD H ys ds)(n:KeysAre ds t)(E:ys.length<64)(q:∀q H' ix,H q=none->ag H H'->c7 ds ix->H' q=!(.lst (ix.map λi=>ys.getD i .aS))->Q (.ref q) H') : wpAny 48 X.A (call (.builtin "sorted") [.ref p]) (λv s'=>∃x H',Inv X pins σ H' s'/\RelV x v/\Q x H') X.xe s:=do z:=d.length;f:=mF o;RH (lt:=oJ ds) (G3 n.one) B C y D b r () (.inl ()) (λs' m h' x h2=>?_) λs' h' a h c m x l g e=>?_;{F,u}:=o.reads (I.moved m) d;KZ (s:={s' with heap:=h'}) (mO x u) n h2 (do¬X.A.units+1+1+60<cLine;());j:=I.moved m;k:∀i∈h.toList,i<ys.length:=λi hi=>(do this:=(g.1.toList.mem_iff).mp hi;this<-0;());{.ref a,upd H a (.lst (h.toList.map λi=>ys.getD i .aS)),j.laid x l {?_,_,c,GX d _ k,e},O,q a _ h.toList (j.aZ.fresh l) (ag.new (j.aZ.fresh l)) (Mc (do[<-f,z];g)) aE};hz:its.length<=sizeLine:=wu (cC ());[qh,zk,g.1.size_eq];0;()
def GR{xa:List (KD×MD×MD)}(h:Paired (GP H) b xa):aK (b.map (·.2.1)) (xa.map (·.2.1)):=do(by induction h with|nil|cons a _ c=>?_);.nil;.cons a.2.2.1 c
def OI(h:Pairs (ai P w) es vs):∀{kvs:List (Key×V)},KV kvs vs->aK (kvs.map λe=>kV e.1) (es.map (·.key)):=do(by induction h with|nil|@cons g _ _ _ f _ _ d=>?_);(kvs,r);-r;.nil;(kvs,r);(by cases r with|@cons i _ _ _ a t=>?_);.cons ?_ (d t);¬RelV (kV i.1) g.key;[a.1];{j,u,c,b}||{x,u,c,b}:=iv f;[c,b];{u,O};[c,b];{u,O}
def Nc(i:X.A.units+3+61<cLine)(n:X.A.handled=none):cn X (.builtin "sorted") (CC):=do(pins,s,σ,H,xs,us,Q,I,r,h);{p,kvs,ds,t,rfl,l,w,m,b,q}:=h;{u,rfl,g}:=vals1 r;-g;{_,c,f,d,o,es,ep,e,v,a,k,j,hn}:=eA I l;JF i n I c e v a (its:=f.map (·.2.1)) (do[k,wg];2) (GR d) w m (do[qh];b) q
def M5(g:X.A.units+3+61<cLine)(k:X.A.handled=none):cn X (.builtin "sorted") (wV):=do(pins,s,σ,H,xs,us,Q,I,r,h);{p,kvs,ds,t,rfl,i,m,j,c,q}:=h;{u,rfl,f}:=vals1 r;-f;{_,d,vs,b,o,es,ep,e,l,a,_,hp,_}:=px I.aZ i;JF g k I d e l a rfl (OI hp b) m j (do[qh];c) q
end
section
variable {prog:Program}{w:World}{A:Around}{E:KE}{s:Tj}
def OQ{l m sl:To}{xs ys:Array MD}{p i:MD}{lo hi:Nat}{Q:Unit->Tj->Prop}(g:s.heap.IsList l xs)(q:s.heap.IsList m ys)(j:l≠m)(y:s.heap.IsSliceOf sl p i .none)(z:IsPart p (!(lo:Int)))(v:IsPart i (!(hi:Int)))(h1:lo<=hi)(h2:hi<=xs.size)(hz:xs.size+ys.size<=sizeLine)(C:Q Unit.unit {s with heap:=s.heap.update l (Obj.mapSeq λxs=>xs.extract 0 lo++ys++xs.extract hi)}) : wpAny 66 A (setItem (.ref l) (.ref sl) (.ref m)) Q E s:=do _;{o,r,G,ne,t}:=id g;{H,h,B,F,k}:=id q;{u,a,n,b}:=id y;e:s.TypeIs (.ref sl) "slice":={u,a,n};@setItem;(by(try with_reducible refine qK ?_);first|refine qA (qE ?_)|skip);qA (wpAny_sequenceKey g.typeIs ⋯ ?_);qA (wpAny_callSpecial?_slot (name:=Str.ofString "__setitem__") g.typeIs slot_list_setitem (qO slot_list_setitem g.typeIs entry_list_setitem ?_ (args_list_setitem _ _ _)));¬wpAny _ _ (Builtin.List.listSubscript? (.ref sl) >>= _) _ _ s;@Builtin.List.listSubscript?;qA (qA (wpAny_specialOf e slice_no_index ?_));#[_,Option.isNone_none,if_true];qE ?_;¬wpAny _ _ (typeOf (.ref sl) >>= _) _ _ s;qA (wpAny_typeOf e ?_);[qB ⋯];[listSliceParts_eq];qA (qA (wpAny_field a b (x:=.none) rfl (qA (wpAny_listPart .none ?_))));[qB ⋯];qA (wpAny_field a b (x:=p) rfl (qA (wpAny_listPart z ?_)));qA (wpAny_field a b (x:=i) rfl (qA (wpAny_listPart v (qE ?_))));c:Builtin.List.listSameRef (.ref l) (.ref m)=false:=beq_eq_false_iff_ne.mpr j;[qB (by rw[c];decide)];@Builtin.List.listAllItems;qA (qA (wpAny_typeOf q.typeIs ?_));[qF ⋯];listItems_at h k ?_;qA (listItems_at r t ?_);qA (wpAny_of_eq (sliceIndices_raw (!(lo:Int)) (!(hi:Int)) none xs.size (do 0)) ?_);D:sliceBounds (!(lo:Int)) (!(hi:Int)) none xs.size=((lo:Int),(hi:Int),1):=(do@sliceBounds;#[_,Option.getD_none];a1:¬((lo:Int)<0):=();a2:¬((hi:Int)<0):=();[qB a1,qB a2,qF ⋯,qF ⋯];(by congr 1);();(by congr 1);());[D];f:(max (lo:Int) (hi:Int)).toNat=hi:=();d:((lo:Int)).toNat=lo:=Int.toNat_natCast lo;#[_,f,d];[qF ⋯];qA (wpAny_rule ?_);[qB (do¬(¬(decide (xs.size+ys.size>sizeLine))=true);0;())];qA (listUpdate_at r t ?_ () (do 0;()));qA (wpAny_letGo (qE {.none,O,qE C}))
end
def OC(its:List MD)(n lo hi:Nat)(ys:List MD):∃n',Obj.mapSeq (λxs=>xs.extract 0 lo++ys.toArray++xs.extract hi) {cls:=.type "list",data:=.seq its.toArray n}={cls:=.type "list",data:=.seq (its.take lo++ys++its.drop hi).toArray n'}:=do e:its.toArray.extract 0 lo++ys.toArray++its.toArray.extract hi=(its.take lo++ys++its.drop hi).toArray:=(do 0;jc (do[yq];qb _));@Obj.mapSeq;#[_,e];{_,O}
inductive wY(D:Ends)(σ:St)(v x:V)(lo:Option Int)(hi:Option Int)(H4:Hp):Prop
 |mk(a b xs ys:_)(i j:Nat)(_:x=.ref a)(_:v=.ref b)(_:a≠b)(_:H4 a=! (.lst xs))(_:az H4 b ys)(_:lo=!(i:Int))(_:hi=!(j:Int))(_:i<=j)(_:j<=xs.length)(_:xs.length+ys.length<=sizeLine)(_:D.nx σ (upd H4 a (.lst (xs.take i++ys++xs.drop j))))
def BM(to:TE)(tl th:TO)(tv:TE):TS:=λD σ H=>tv σ H λv H1=>to σ H1 λx H2=>tl σ H2 λlo b=>th σ b λhi a=>wY D σ v x lo hi a
section
variable {X:Cx}{o value:Expr}{lo hi:Option Expr}{pos pos' p2:Pos}{to tv:TE}{tl th:TO}
def N3(A:PE X o to)(F:PO X lo tl)(C:PO X hi th)(p:PE X value tv)(Q:swapsWith value (!(.Subscript o (.Slice lo hi none p2) pos')) pos.line X.env=pure false):PS X (.Assign [.Subscript o (.Slice lo hi none p2) pos'] value pos) (BM to tl th tv):=do _;{?_};(pins,s,σ,H,D,I,h);wpAny_Assign_Subscript (bI (p pins s σ H _ I h) λr P ⟨v,H1,M,y,J⟩=>bI (A pins P σ H1 _ M J) λu s2 ⟨x,H2,t,rx,E⟩=>?_) Q;wpAny_Slice (bI (F pins s2 σ H2 _ t E) λS V ⟨l,m,L,R,Y⟩=>bI (C pins V σ m _ L Y) λK d ⟨u',H4,w,N,W⟩=>?_);[evalPart_none];qE ?_;{a,b,xs,ys,i,j,rfl,rfl,e,k,Z,rfl,rfl,h1,h2,hz,q}:=W;-rx;-y;f:Inv X pins σ H4 {d with heap:=d.heap.push {cls:=.type "slice",data:=.fields #[S,K,.none]}}:=w.kept (t':=d.toks) λb ob q=>qI _ q;{its,n,r,c,B}:=f.lst k;{its',g,T,z}:=f.list Z;la:=r.length;lb:=g.length;{n',U}:=OC its n i j its';G:=f.uH k c U ((r.take i).append g |>.append (r.drop j)) (do[qg,qg,wv,yq];()) d.toks;OQ (xs:=its.toArray) (ys:=its'.toArray) {_,c,O,n,O} T.isList e (Heap.IsSliceOf.new ..) R N h1 (do[ze];()) (do[ze,ze];()) {_,_,G,q}
end
def Qr:entryFor table "dict_itemiterator.__iter__"=some Builtin.«dict_keyiterator.__iter__»:=entryFor_alias (id':="dict_keyiterator.__iter__") (by kernel_rfl) rfl ∅ (by kernel_rfl)
section
variable {prog:Program}{w:World}{A:Around}{E:KE}{s:Tj}
def PN(c:(d==sysModules)=false)(b:s.heap.get? d=!od)(f:od.ExactDict)(e:Q (.ref ↑s) {s with heap:=s.heap.push {cls:=.type "dict_items",data:=.fields #[.ref d]}}):wpAny 66 A (call (.builtin "dict.items") [.ref d]) Q E s:=do a:s.TypeIs (.ref d) "dict":={od,b,f.1};qO F.slot_dict_items a F.entry_dict_items ?_ (F.args_dict_items_1 _);@Builtin.«dict.items»;qA ?_;@Builtin.Dict.noArgs;qA (wpAny_notOrdered_dict a ?_);¬wpAny _ _ (pure d) _ _ s;qE ?_;¬wpAny _ _ (Builtin.Dict.showsAll d >>= _) _ _ s;@Builtin.Dict.showsAll;[qB (do[c];qo)];qA (qE ?_);qA (wpAny_newObj_type (qE {_,O,e}))
def Ri(e:s.heap.IsItemsView v d)(g:s.heap.get? d=!od)(a:od.data=.dict es ep)(i:Q (.ref ↑s) {s with heap:=s.heap.push {cls:=.type "dict_itemiterator",data:=.fields #[.none,.bool false,.ref d,.int 0 0,.int es.size 0,.int ep 0,.none,.none]}}) : wpAny 66 A (pyIter (.ref v)) Q E s:=do _;{j,f,h,c}:=id e;wpAny_pyIter_slot e.typeIs F.slot_dict_items_iter (qO F.slot_dict_items_iter e.typeIs F.entry_dict_items_iter ?_ (F.args_dict_items_iter_1 _));@Builtin.«dict_items.__iter__»;qA (qE ?_);qA ?_;@Builtin.Dict_items.dictOf;qA (wpAny_field f c (x:=.ref d) rfl (qE ?_));qA ?_;@Builtin.Dict_items.newIterator;qA (wpAny_dictEntries g a ?_);qA (wpAny_dictEpoch g a ?_);b:Builtin.Dict_items.ownsTuple "dict_itemiterator"=true:=⋯;#[_,b,if_true];wpAny_newObj_type (qE {_,O,"dict_itemiterator",_,{_,qL _ rfl,O},F.slot_dict_itemiterator_next.lookup,?_}) (do#[_,sizeOk,Builtin.Dict_items.ownedTupleFields,List.size_toArray,List.length_append,List.length_cons,List.length_nil,sizeLine_eq];());by simpa[rawInt,Builtin.Dict_items.ownedTupleFields] using i
def Ny{ok M:MD}(D:IsItemIter s.heap it d i n ep ok M)(S:s.heap.get? d=!od)(N:od.data=.dict es ep)(hn:es.size=n)(T:i<es.size)(V:∀h',IsItemIterOut h' it d (i+1) n ep es[i].key es[i].val ↑s-> h'.get? ↑s=some {cls:=.type "tuple",data:=.seq #[es[i].key,es[i].val]}->h'.objs.size=↑s+1-> (∀b o,b≠it->s.heap.get? b=!o->h'.get? b=!o)->Q (! (.ref ↑s)) {s with heap:=h'}) : wpAny 66 A (pyNext (.ref it)) Q E s:=do _;{hp,g,P,tk,R}:=s;!hn;J:Shared.TypeIs ⟨hp,g,P,tk,R⟩ (.ref it) "dict_itemiterator":={_,D,O};@pyNext;qA (wpAny_attempt (wpAny_callSpecial?_slot (name:=Str.ofString "__next__") J F.slot_dict_itemiterator_next (qO F.slot_dict_itemiterator_next J F.entry_dict_itemiterator_next ?_ (F.args_dict_itemiterator_next_1 _))));qA (qE ?_);qA ?_;qA ?_;(by first|refine qA (wpAny_typeNameOfWhole_itemiter J (qE ?_))|refine qA (wpAny_typeNameOf_itemiter J (qE ?_)));qA (wpAny_fieldsOf D rfl ?_);U:Builtin.Dict_items.ownsTuple "dict_itemiterator"=true:=⋯;#[_,U,if_true];¬wpAny _ _ (if(Value.ref d==Value.none)=true then _ else _) _ _ _;[qB (show ¬((Value.ref d==Value.none)=true) from qo)];qA (qE ?_);qA (wpAny_dictEntries S N ?_);[qB (do 0)];qA (qE ?_);qA (wpAny_dictEpoch S N ?_);[qB (do 0)];qE ?_;#[_,show ¬((i:Int)<0) from (),if_false,Int.toNat_natCast,Array.getElem?_eq_getElem T];qA ?_;(by first|refine qA (wpAny_typeNameOfWhole_itemiter J (qE ?_))|refine qA (wpAny_typeNameOf_itemiter J (qE ?_)));qA (wpAny_isOneOf_itemiter J ?_);¬wpAny _ _ (setField (.ref it) 3 (rawInt ((i:Int)+1)) >>= _) _ _ {hp,g,P,tk,R};qA (wpAny_setField_rec D (do 0) λh₁ h f=>?_);(by replace f:Heap.SameBut it hp h₁:=f;replace h:IsItemIter h₁ it d (i+1) es.size ep ok M:=do e:((i+1:Nat):Int)=(i:Int)+1:=();@IsItemIter;[e];by simpa[rawInt] using h);q:Shared.TypeIs ⟨h₁,g,P,tk,R⟩ (.ref it) "dict_itemiterator":={_,h,O};qA (qK ?_);qA (wpAny_isOneOf_itemiter q ?_);qA (wpAny_isOneOf_itemiter q ?_);¬wpAny _ _ (Builtin.Dict_items.pairFromOwner (.ref it) 6 es[i].key es[i].val) _ _ {h₁,g,P,tk,R};@Builtin.Dict_items.pairFromOwner;qA (wpAny_newTuple ?_);a:IsItemIter (h₁.push {cls:=.type "tuple",data:=.seq #[es[i].key,es[i].val]}) it d (i+1) es.size ep ok M:=qI _ h;(by generalize m:h₁.push {cls:=.type "tuple",data:=.seq #[es[i].key,es[i].val]}=h₂ at a);p:h₁.objs.size=hp.objs.size:=f.1;G:it<hp.objs.size:=qG D;I:h₂.get? hp.objs.size=some {cls:=.type "tuple",data:=.seq #[es[i].key,es[i].val]}:=(do[<-m,<-p];qL _ rfl);K:h₂.objs.size=hp.objs.size+1:=(do[<-m,Heap.size_push,p]);H:∀b o,b≠it->hp.get? b=!o->h₂.get? b=!o:=λb o L e=>(do[<-m];qI _ (f.extBut b o L e));¬wpAny _ _ (Builtin.Dict_items.ownedTupleIsFree (.ref it) >>= _) _ _ {h₂,g,P,tk,R};[p];(by clear m h f q p h₁);qA ?_;@Builtin.Dict_items.ownedTupleIsFree;qA (wpAny_field a rfl (x:=.none) rfl (qE ?_));#[_,if_true];qA (wpAny_field a rfl (x:=ok) rfl ?_);qA (wpAny_field a rfl (x:=M) rfl ?_);qA (wpAny_setField_rec a (do 0) λC v k=>?_);(by replace k:Heap.SameBut it h₂ C:=k;replace v:IsItemIter C it d (i+1) es.size ep es[i].key M:=v);qA (wpAny_setField_rec v (do 0) λz r c=>?_);(by replace c:Heap.SameBut it C z:=c;replace r:IsItemIter z it d (i+1) es.size ep es[i].key es[i].val:=r);qA (wpAny_setField_rec r (do 0) λB u j=>?_);(by replace j:Heap.SameBut it z B:=j;replace u:IsItemIterOut B it d (i+1) es.size ep es[i].key es[i].val hp.objs.size:=u);qA (wpAny_setField_rec u (do 0) λy t l=>?_);(by replace l:Heap.SameBut it B y:=l;replace t:IsItemIterOut y it d (i+1) es.size ep es[i].key es[i].val hp.objs.size:=t);qA (wpAny_letGo (qE (qE {_,O,qE (V y t ?_ ?_ ?_)})));l.extBut _ _ (zo G) (j.extBut _ _ (zo G) (c.extBut _ _ (zo G) (k.extBut _ _ (zo G) I)));¬y.objs.size=hp.objs.size+1;[l.1,j.1,c.1,k.1,K];λb o L e=>l.extBut b o L (j.extBut b o L (c.extBut b o L (k.extBut b o L (H b o L e))))
def Pa{ok k:MD}(o:A.handled=none)(c:IsItemIter s.heap it d i n ep ok k)(f:s.heap.get? d=!od)(g:od.data=.dict es ep)(hn:es.size=n)(j:es.size<=i)(l:∀h',Heap.ExtBut it s.heap h'->Q none {s with heap:=h'}):wpAny 66 A (pyNext (.ref it)) Q E s:=do !hn;e:s.TypeIs (.ref it) "dict_itemiterator":={_,c,O};@pyNext;qA (wpAny_attempt (wpAny_callSpecial?_slot (name:=Str.ofString "__next__") e F.slot_dict_itemiterator_next (qO F.slot_dict_itemiterator_next e F.entry_dict_itemiterator_next ?_ (F.args_dict_itemiterator_next_1 _))));qA (qE ?_);qA ?_;qA ?_;(by first|refine qA (wpAny_typeNameOfWhole_itemiter e (qE ?_))|refine qA (wpAny_typeNameOf_itemiter e (qE ?_)));qA (wpAny_fieldsOf c rfl ?_);h:Builtin.Dict_items.ownsTuple "dict_itemiterator"=true:=⋯;#[_,h,if_true];¬wpAny _ _ (if(Value.ref d==Value.none)=true then _ else _) _ _ s;[qB (show ¬((Value.ref d==Value.none)=true) from qo)];qA (qE ?_);qA (wpAny_dictEntries f g ?_);[qB (do 0)];qA (qE ?_);qA (wpAny_dictEpoch f g ?_);[qB (do 0)];qE ?_;#[_,show ¬((i:Int)<0) from (),if_false,Int.toNat_natCast,Array.getElem?_eq_none j];qA ?_;(by first|refine qA (wpAny_typeNameOfWhole_itemiter e (qE ?_))|refine qA (wpAny_typeNameOf_itemiter e (qE ?_)));¬wpAny _ _ (setField (.ref it) 2 .none >>= _) _ _ s;qA (wpAny_setField c rfl (do 0) ?_);¬wpAny _ _ (newExc (.type "StopIteration") [] >>= _) _ _ _;qA ?_;#[_,newExc,newTuple];qA (wpAny_newObj_type ?_ (by size_fits));qA (m:=firstArgMember _ _) (wpAny_of_eq (a:=Value.none) (by first|rfl|simp only[firstArgMember];rfl) ?_);wpAny_newObj_type ?_ (by size_fits);#[_,raiseNew];qA (wpAny_handled ?_);[show A.in1.handled=none from o];qA (qE (wpAny_throw ?_));qA (wpAny_isInstance (T:="StopIteration") (b:=true) {_,qL _ rfl,O} isSubtype_stop ?_);qE (l _ (((Heap.SameBut.update ..).extBut.push _).push _))
end
section
variable {X:Cx}{pins:List (To×Obj)}{σ:St}{H:Hp}{s:Tj}
def Px(p:o.data=.dict es ep)(I:Inv X pins σ H s)(e:H a=! (.dA o 69)):∀i (hi:i<es.size) (f:i<kvs.length),RelV kvs[i].2.2 es[i].val:=do _;{j,_,_,xs,g,o',l,k,c,_,b,m,_}:s.heap.get? a=!o/\aV X.prog X.w H s.heap a 69:=I.aZ a _ e;c<-[j];-c;b<-[p];(by injection b with b _);!b;(i,hi,f);h:i<xs.length:=(do[<-g.length];f);d:=A6 g i f h;n:es[i].val=xs[i].2.2:=(do h1:es.toList[i]?=some es[i]:=(do#[hi]);h1<-[m,qj,qe h];[<-qJ h1];2);[n];d.2.2.2
end
def u_(a:To)(o:Obj)(kvs:List 67):It := {λi H=>H a=! (.dA o 69)/\i<kvs.length,λi H x H'=>∃p e,H p=none/\kvs[i]?=!e/\x=.ref p/\H'=upd H p (.tup [e.2.1,e.2.2]),λi H=>H a=! (.dA o 69)/\kvs.length<=i}
def QB{P:Program}{w:World}{K:PySem.W.Frag}{C:List Expr}{k:Nat}{T:Pos}(a it:To){o:Obj}{es:Array DictEntry}{ep:Nat}{kvs:List 67}(n:o.data=.dict es ep) :
  Turn P w K (.Tuple C k T) (u_ a o kvs) [it] it (λi h=>∃ok f,IsItemIter h it a i kvs.length ep ok f) where
 mem:=by simp
 obj:=λi h st b U=>by
  have e:b=it:=by simpa using U
  subst e;obtain⟨ok,f,e⟩:=st;exact{_,e,λv z=>by cases z}
 keep:=λi h h' st k=>by
  obtain⟨ok,f,e⟩:=st;exact{ok,f,k it (by simp) _ e}
 item:=by
  intro X J u G d i pins s σ H E I t st y;subst J u G;obtain⟨r,hi⟩:=y;obtain⟨ok,f,st⟩:=st;obtain⟨x,D,l⟩:=q_ n I r;have m:=Px n I r
  have g:i<es.size:=()
  have j:it<↑s:=qG st;refine Ny st x n D g λh' a1 a2 Z M=>{_,O,wpAny_letOwnedTupleGo_items a1 λp N bs=>?_}
  have S:Inv X pins σ H { s with heap:=p }:=I.c_ (t':=s.toks) t λc o d q=>bs.extBut c o (λe=>d (by simp[e])) (M c o (λe=>d (by simp[e])) q)
  have R:p.get? ↑s=some { cls:=.type "tuple",data:=.seq #[es[i].key,es[i].val] }:=bs.extBut _ _ (zo j) a2;have L:H ↑s=none:=I.aZ.fresh (qb _);refine{.ref ↑s,upd H ↑s (.tup [kvs[i].2.1,kvs[i].2.2]),I.fW S (qb _) L {?_,[es[i].key,es[i].val],.cons (l i g hi) (.cons (m i g hi) .nil),{_,R,O,_,O}},O,{_,kvs[i],L,qe hi,O,O},{_,_,N},λc d=>?_}
  .show 2<=sizeLine
   decide
  .have e:c=it:=by simpa using d
   subst e;rw[aB (qi j)];exact(t c (by simp)).1
 done:=by
  intro X J u G d i pins s σ H E I t st y;subst J u G;obtain⟨r,hi⟩:=y;obtain⟨ok,f,st⟩:=st;obtain⟨x,D,l⟩:=q_ n I r
  exact Pa (I.ok.hd d) st x n D () λh' Y=>{O,I.c_ (t':=s.toks) t λc o d q=>Y c o (λe=>d (by simp[e])) q}
 self:=λA i s Q E st h=>by
  obtain⟨ok,f,st⟩:=st;have B:s.TypeIs (.ref it) "dict_itemiterator":={_,st,O};refine wpAny_pyIter_slot B F.slot_dict_itemiterator_iter (qO F.slot_dict_itemiterator_iter B Qr ?_ (F.args_dict_itemiterator_iter_1 _));show wpAny _ _ (ret (.ref it)) _ _ s;exact qE {_,O,"dict_itemiterator",_,B,F.slot_dict_itemiterator_next.lookup,h}
inductive rT(R:It->Hp->Prop)(x:V)(H1:Hp):Prop
 |mk(a kvs:_)(_:x=.ref a)(_:((H1 a=! 69/\∀o,R (u_ a o kvs) (upd H1 a (.dA o 69)))\/∃o,H1 a=! (.dA o 69)/\R (u_ a o kvs) H1))
def xG(tl:TE):TI:=λσ H R=>tl σ H λx H1=>rT R x H1
section
variable {X:Cx}
def ux{l:Expr}{tl:TE}{r:List Expr}{k:Nat}{K apos cpos:Pos}(G:PE X l tl)(g:autoParam (attributeBase l "items" X.env (eval l X.env)=eval l X.env) z11)(d:autoParam ((apos.endLine==cpos.line)=true) z11):PI X (.Tuple r k K) (.Call (.Attribute l "items" apos) [] [] cpos) (xG tl):=do _;{?_};(pins,s,σ,H,R,I,h);wpAny_Call_method0_late g d (bI (G pins s σ H _ I h) λv c ⟨x,H1,u,D,J⟩=>?_);{a,kvs,e,q}:=J;!e;-D;{H2,o,n,C,E}:∃(H2:Hp) (o:Obj),Inv X pins σ H2 c/\H2 a=! (.dA o 69)/\R (u_ a o kvs) H2:=(do _;{m,q}||{o,m,q}:=q;{_,_,xs,_,o,es,ep,f,_}:=(show aV X.prog X.w H1 c.heap a 69 from u.aZ a _ m);{_,o,u.oZ m f,aE,q o};{_,o,u,m,q});{f,_,y,xs,_,o',es,ep,i,A,B,_,_}:c.heap.get? a=!o/\aV X.prog X.w H2 c.heap a 69:=n.aZ a _ C;i<-[f];-i;{_,j,_}:=q_ B n C;{"dict","dict.items",PySem.F.plainAttrs_dict,PySem.F.slot_dict_items,PySem.F.type_dict_items,{o,f,A.1},λb z=>?_,Calls.callWith_builtin rfl (PySem.evalArgs_none (PN y f A ?_))};-z;{o,f,A.2.1};p:(c.heap.push {cls:=.type "dict_items",data:=.fields #[.ref a]}).get? a=!o:=qI _ f;Ri (s:={c with heap:=c.heap.push {cls:=.type "dict_items",data:=.fields #[.ref a]}}) (v:=↑c) {_,qL _ rfl,O,O} p B ?_;t:Inv X pins σ H2 {c with heap:=c.heap.push {cls:=.type "dict_items",data:=.fields #[.ref a]}}:=n.kept (t':=c.toks) λb o e=>qI _ e;{(c.heap.push {cls:=.type "dict_items",data:=.fields #[.ref a]}).objs.size,[(c.heap.push {cls:=.type "dict_items",data:=.fields #[.ref a]}).objs.size],_,_,H2,O,t.kept (t':=c.toks) λb o e=>qI _ e,QB a _ B,{_,_,do[<-j];qL _ rfl},λb L=>?_,E};e:b=(c.heap.push {cls:=.type "dict_items",data:=.fields #[.ref a]}).objs.size:=(do 0<|L);!e;t.lM (qb _) (t.aZ.fresh (qb _))
end
def Ot{a:To}{o:Obj}{kvs:List 67}{g:TG}{tb:TS}{D:Ends}{σ:St}{H:Hp}(b:Nat->St->Hp->Prop)(h0:b 0 σ H)(h:∀i σ H,b i σ H->H a=! (.dA o 69))(j:∀i e σ H p,kvs[i]?=!e->b i σ H->H p=none->g (.ref p) σ (upd H p (.tup [e.2.1,e.2.2])) λc H2=>tb {D with nx:=b (i+1),ct:=b (i+1),bk:=D.nx} c H2)(n:∀σ H,b kvs.length σ H->D.nx σ H) : ∃W:Nat->Nat->St->Hp->Prop,(∃m,W 0 m σ H)/\∀i m σ H,W i m σ H-> ((u_ a o kvs).stop i H/\D.nx σ H)\/((u_ a o kvs).go i H/\∃N:St->Hp->Prop,(∀σ' H',N σ' H'->∃f,f<m/\W (i+1) f σ' H')/\∀x H',(u_ a o kvs).xq i H x H'->g x σ H' λc H2=>tb {D with nx:=N,ct:=N,bk:=D.nx} c H2):=do _;{λi m σ H=>m=kvs.length - i/\i<=kvs.length/\b i σ H,{kvs.length,do 0,Nat.zero_le _,h0},?_};(i,m,σ,H,{rfl,hi,p});d<|i<kvs.length;.inr {{h i σ H p,d},b (i+1),λσ' H' k=>{kvs.length - (i+1),(),O,d,k},λx H' y=>?_};{q,e,hn,l,rfl,rfl}:=y;j i e σ _ q l p hn;e:i=kvs.length:=();!e;.inl {{h _ σ H p,qb _},n σ H p}
def xo{own:List Tp}{g:TG}(hz:kvs.length<=sizeLine)(c:Nat->List V->Hp->Prop)(h0:c 0 [] H)(l:∀i ys H,c i ys H->H a=! (.dA o 69))(t:∀i e ys H' p (k:V->Hp->Prop) (n:Hp->Prop),kvs[i]?=!e->c i ys H'->H' p=none->(∀y j,c (i+1) (ys++[y]) j->k y j)->(∀f,c (i+1) ys f->n f)-> g (.ref p) (cK own fr σ) (upd H' p (.tup [e.2.1,e.2.2])) λh H2=>tt h H2 λb f=>if b=true then te h f k else n f)(r:∀H' p ys,c kvs.length ys H'->ys.length<=kvs.length->H' p=none->Q (.ref p) (upd H' p (.lst ys))):HY own fr g tt te σ Q (u_ a o kvs) H:=do _;{λi m ys H=>m=kvs.length - i/\i<=kvs.length/\ys.length<=i/\c i ys H,{kvs.length,do 0,Nat.zero_le _,Nat.zero_le _,h0},?_};(i,m,ys,H,{rfl,hi,z,p});d<|i<kvs.length;.inr {{l _ _ H p,d},(),λx H' y=>?_};{q,e,hn,v,rfl,rfl}:=y;t i e ys _ q _ _ v p hn (λy j w=>{kvs.length - (i+1),(),O,d,?_,w}) λf s=>{kvs.length - (i+1),(),O,d,(),s};[qg,qr];();e:i=kvs.length:=();!e;.inl {{l _ _ H p,qb _},λq u=>r H q ys p z u}
def Qq(a v:MD):argsOk "max" {[a],[(Str.ofString "key",v)]}:=do@argsOk;by kernel_rfl
def RI{prog:Program}{w:World}{A:Around}{E:KE}{s:Tj}{id:String}{b:Builtin}{a:List MD}{d:List (Tp×MD)}{Q:KE}(k:builtinKind id=none)(hp:plainId id=true)(l:entryFor table id=!b)(m:argsOk id {a,d})(j:wpAny 66 A.in1 (b {a,d}) (λg s'=>match g with|.done f=>(match(Except.ok f:Result) with|.ok (.ret v)=>Q v s'|.ok _=>False|.error e=>E e s')|.again c'=>c'.quiet=true/\codeAny 66 A c' (λr s'=>match r with|.ok (.ret v)=>Q v s'|.ok _=>False|.error e=>E e s') s') E s) : wpAny 66 A (call (.builtin id) a d) Q E s:=do wpAny_call (codeAny_call_builtin hp l ?_);#[_,checkBuiltinCall,k];(by cases c:Manifest.signature? id with|none|some h=>?_);qE j;i:Bind.checkArgs id h ⟨a,d⟩=pure Unit.unit:=(by simpa only[argsOk,c] using m);#[_,i];qE j
theorem Eh:∀{names:List (Tp×NameKind)} {acc:List (Tp×To)},(kY env names acc).lookup x=!c->(x,NameKind.free)∈names\/acc.lookup x=!c|[],_,h=>.inr h|(n,k)::r,acc,h=>do q||q:=Eh (names:=r) h;.inl (qz _ q);(by cases b:(k==NameKind.free)with|false|true=>?_);q<-[b,qB qo];.inr q;q<-[b,qF rfl,gj];(by cases a:(x==n)with|true|false=>?_);this:=beq_iff_eq.mp a;!this;this:=beq_iff_eq.mp b;!this;.inl qm;q<-[a];.inr q
structure oR(y z:Tp)(sc:Scope):Prop where
 kind:sc.kind=.function
 co:sc.isCoroutine=false
 gen:sc.isGenerator=false
 cell:∀p∈sc.names,p.2≠.cell
 ly:sc.names.lookup y=some .local
 lz:sc.names.lookup z=some .free
 fr:∀p∈sc.names,p.2=.free->p.1=z
def mG(qual:Tp)(a:Scope)(cl:List (Tp×To))(L f:To)(cd:MD):Env := {scope:=a,locals:=L,globals:=mainGlobals,cells:=cl,qual:=qual++".<locals>.",func:=!f,code:=cd,frame:=!L,builtins:=builtinsNs}
def hP(P:Program)(w:World)(K:PySem.W.Frag)(mg:Tp->Option MD)(base:Heap)(y z qual:Tp)(a:Scope)(cl:List (Tp×To))(f:To)(cd:MD)(A:Around)(outer:List Env)(s:Tj)(H:Hp):Cx where
 prog:=P
 w:=w
 K:=K
 mg:=mg
 base:=base
 A:=A.deeper (mG qual a cl ↑s f cd)
 N:=[y,z]
 s₀:=s
 H₀:=H
 env:=mG qual a cl ↑s f cd
 outer:=outer
 stack:=mG qual a cl ↑s f cd::outer
 ex:=[]
 calm:=true
 fn:=λ_=>false
 pn:=[]
 xe:=λ_ _=>False
def O'{P:Program}{w:World}{K:PySem.W.Frag}{mg:Tp->Option MD}{base:Heap}{y z qual:Tp}{q:Scope}{cl:List (Tp×To)}{f c:To}{cd x u:MD}{A:Around}{outer:List Env}{s:Tj}{H:Hp}{v t:V}{h':Heap}{tk:Nat}(S:oR y z q)(E:A.handled=none)(j:gP P w K mg base A outer s H)(D:RelV v x)(g:∀n a,cl.lookup n=!a->n=z/\a=c)(hz:cl.lookup z=!c)(C:s.heap.IsCell c (!u))(r:H c=none)(B:RelV t u)(hn:h'.Ns ↑s (λn=>[(y,x)].reverse.lookup n))(old:∀b o,s.heap.get? b=!o->h'.get? b=!o):Inv (hP P w K mg base y z qual q cl f cd A outer s H) [] [!v,!t] H {s with heap:=h',toks:=tk}:=do k:∀b:To,b∉(hP P w K mg base y z qual q cl f cd A outer s H).ex:=λb z=>absurd (show b∈([]:List To) from z) (do 0);l:h'.IsCell c (!u):=let⟨o,e,d⟩:=C;{o,old _ _ e,d};{{j.mod,S.kind,O,O,qb _,λn m a h1 h2=>(g n a h1).1.trans (g m a h2).1.symm,λn hn=>?_,λn a z=>(do-z),λ_=>E,Around.frames_deeper j.frames,.inr {O,O},λb z=>absurd z (k b),j.bs,j.uQ,λb _ _=>k b,λb z=>absurd z (k b),j.d9,j.wK},rfl,j.bare,Un.kept old,{_,hn,λi n F h1 h2 G=>?_},λn a h=>?_,j.aZ.fresh (Nat.le_refl _),λn a h=>?_,λp hp=>absurd (show p∈([]:List (To×Obj)) from hp) (do 0),j.aZ.kept old,O};hn:q.names.lookup n=some .cell\/q.names.lookup n=some .free:=hn;hn||hn:=hn;absurd rfl (S.cell _ (PySem.mem_of_lookup hn));this:=S.fr _ (PySem.mem_of_lookup hn) rfl;this:n=z:=this;[this];{c,hz};(by match i,h1,h2 with| 0,h1,h2 => cases h1;cases h2;exact{x,D,.inl {S.ly,do 0}}| 1,h1,h2 => cases h1;cases h2;exact{u,B,.inr {.inr S.lz,c,hz,l}}|i+2,h1,h2=>cases h1);{_,e}:=g n a h;[e];{_,l};{_,e}:=g n a h;[e];r
def JT{P:Program}{w:World}{K:PySem.W.Frag}{mg:Tp->Option MD}{base:Heap}{A:Around}{outer:List Env}{s:Tj}{H:Hp}{k:Nat}{f l c:To}{q:Tp}{g:Arguments}{h:Expr}{d:Scope}{cl:List (Tp×To)}{G j x u:MD}{y z:Tp}{v r:V}{Q:VK}{tb:TE}(L:bG k A)(B:gP P w K mg base A outer s H)(N:s.heap.get? f=!(kla_obj "<lambda>" q g h d cl G l j))(D:s.heap.CodeRec (.ref l) q)(S:oR y z d)(i:bindArgs (kla_fn "<lambda>" q g h d cl G (.ref l) j) {[x],[]}=pure [(y,x)])(Z:RelV v x)(E:∀n a,cl.lookup n=!a->n=z/\a=c)(hz:cl.lookup z=!c)(T:s.heap.IsCell c (!u))(F:H c=none)(U:RelV r u)(Y:PE (hP P w K mg base y z q d cl f (.ref l) A outer s H) h tb)(R:tb [!v,!r] H Q) : codeAny (model P w) A (.call (.ref f) {[x],[]}) (CR iW outer P w H s Q E0) s:=do p:s.heap.NoLimit:=B.mod.nolimit.keeps λb o e=>(B.bs b o e).1;kla_callFunE L.depth N rfl S.co S.gen rfl D ?_;[i];qE ?_;wpAny_newFunctionEnv S.cell (λn hn=>do[qt.mp hn];S.ly) (λh' m t=>?_) S.kind;old:∀b o,s.heap.get? b=!o->h'.get? b=!o:=λb o e=>t.extBut b o (qi (qG e)) (qI _ e);{p.keeps old,kla_codeExpr ?_};I:=O' (f:=f) (cd:=.ref l) (qual:=q) (tk:=s.toks+[(y,x)].length) S L.hd B Z E hz T F U m old;qM (Y [] _ [!v,!r] H Q I R) (λu s' C=>?_) λe s' C=>False.elim C;{O,H',J,M,X}:=C;{O,H',J.os,J.bare,J.base,J.aZ,M,X}
section
variable {X:Cx}{pins:List (To×Obj)}{σ:St}{H:Hp}{s:Tj}
def Kw{cl:List (Tp×To)}(I:Inv X pins σ H s)(j:X.env.code=.ref c)(Z:codeHdIn X.K c P=true)(hB:X.base.BuiltinsAt X.mg P)(m:Tb a.line a.col (X.env.qual++"<lambda>") P H)(D:defaultsOf d X.env=([],[]))(E:closureFor i X.env=pure cl)(h:∀f g k pm s' H',Inv X pins σ H' s'->Tb a.line a.col (X.env.qual++"<lambda>") P H'->H' g=!(tO g (X.env.qual++"<lambda>"))->ag (del H P) (del H' P)->H' f=none->f∉dY X.stack->s'.heap.get? f=!(kla_obj "<lambda>" (X.env.qual++"<lambda>") d n i cl pm g k)->Q (.ref f) s') : wpAny 48 X.A (eval (.Lambda d n i a) X.env) Q X.xe s:=do x:s.heap.Ns mainGlobals X.mg:=I.mod.glob.keeps I.bk;C:CodeHd s.heap c P:=codeHd_of_K I.nU Z;S:s.heap.BuiltinsAt X.mg P:=hB.keeps I.bk;J:mainGlobals≠P:=λz=>(do _;{o,es,ep,e,_}:=I.mod.glob;{ps,t}:=m.cF;t<-[<-z];by rcases(I.bs _ _ e).2 with y|⟨xs,y⟩ <;> rw[y]at t <;> cases t);kla_eval D ?_;m||{g,m,hc'}:=m;L:s.heap.get? P=!(tabObj #[]):=I.aZ P _ m;kla_makeFunction E I.ok.glob x j C L trivial rfl J S λg k h' tk hx l v B F=>?_;R:P<↑s:=I.aZ.lt m;N:P≠g:=qi (zf R l);p:↑s<=h'.objs.size:=wu (jx l v);e0:(#[]:Array MD)++#[rawInt a.line,rawInt a.col,.ref g]=#[rawInt a.line,rawInt a.col,.ref g]:=(do 0);F<-[e0];G:h'.objs.size≠g:=zo v;M:h'.objs.size≠P:=zo (zf R p);h _ g k _ _ _ (Inv.Dw (q:=X.env.qual++"<lambda>") (more:=#[rawInt a.line,rawInt a.col,.ref g]) I m (λb o Y e=>qI _ (hx b o Y e)) l ?_ (qI _ F)) (.inr {g,do[aB N,aE],aE}) aE (λb u e=>?_) ?_ (I.mC p) (qL _ rfl);{W,U,vs,T,e,V,r}:=B;{W,U,vs,T,e,qI _ V,r};z<|b=P;!z;e<-[d6];-e;(by rw[bX z]at e ⊢);[aB (λy=>do !y;e<-[I.aZ.fresh l];-e),aB z];e;[aB G,aB M];I.aZ.fresh p;L:s.heap.get? P=!(tabObj #[rawInt a.line,rawInt a.col,.ref g]):=I.aZ P _ m;kla_makeFunctionHit (cv:=.ref g) E I.ok.glob x j C L (do#[TriplesOk,rawInt]) (do#[codeAmong,rawInt]) S λk h' tk O hsz=>?_;h _ g k _ _ H ?_ (.inr {g,m,hc'}) hc' (ag.refl _) (I.aZ.fresh hsz) (I.mC hsz) (qL _ rfl);I.un (Un.kept λb o e=>qI _ (O b o e)) (I.aZ.kept λb o e=>qI _ (O b o e))
abbrev eL(xs:Array MD)(c:Nat):Obj:={cls:=.type "list",dict:=none,data:=.seq xs c,slots:=#[]}
structure Gr(X:Cx)(H:Hp)(s:Tj)(it S p:To)(Hm:Hp)(s':Tj)(j:Nat)(bst:Array MD):Prop where
 un:Un (dY X.stack) [] H Hm s.heap s'.heap
 aZ:dm X.prog X.w Hm s'.heap
 os:s'.os=s.os
 bare:AllBare s'.gens
 same:ag H Hm
 fI:Hm it=none
 fS:Hm S=none
 gI:s'.heap.IsListIter it p j
 gS:∃c,s'.heap.get? S=!(eL bst c)
def Gr.inv{it S p:To}(M:Gr X H s it S p c s' j a)(I:Inv X pins σ H s):Inv X pins σ c s':=I.ij M.os M.un M.aZ M.bare (λb z=>absurd z (do 0))
def JL{fa it S p:To}{ys:List V}{D:Nat->List Int}{C:Hp->V->VK->Prop}{a:Hp}{s':Tj}{j:Nat}{P:Array MD}{E:KE}(k:∀(s':Tj) (a:Hp) (x:MD) (y:V) (Q:VK),gP X.prog X.w X.K X.mg X.base X.A.in1 X.stack s' a->Un (dY X.stack) [] H a s.heap s'.heap->ag H a->RelV y x->C a y Q->codeAny 48 X.A.in1 (.call (.ref fa) {[x],[]}) (CR iW X.stack X.prog X.w a s' Q E0) s')(hsp:∀(m:Nat) y H' (Q':VK),ys[m]?=!y->ag H H'->(∀t g,ag H' t->DV t g (.tuple ((D m).map PyData.int))->Q' g t)->C H' y Q')(hh:X.A.handled=none)(I:Inv X pins σ H s)(hp:az H p ys)(hi:↑s<=it)(hS:↑s<=S)(Z:it≠S)(nI:it∉dY X.stack)(nS:S∉dY X.stack)(hj:j<ys.length)(M:Gr X H s it S p a s' j P) : wpAny 48 X.A.in1 (pyNext (.ref it)) (λr s1=>∃item,r=!item/\∀E',wpAny 48 X.A.in1 (call (.ref fa) [item]) (λval s2=>∃y g H2,ys[j]?=!y/\RelV y item/\RelV g val/\DV H2 g (.tuple ((D j).map PyData.int))/\ag a H2/\Gr X H s it S p H2 s2 (j+1) P) E' s1) E s':=do I':=M.inv I;l:=hp.same M.same;{its,rv,pl,hz}:=I'.list l;hl:=rv.length;hlt:p<↑s':=(do _;{_,e,_}:=pl.isList;qG e);hip:p≠it:=λz=>(do _;{o1,e1,c1,d1}:=pl.isList;{o2,e2,c2,d2}:=M.gI;e1<-[z,e2];-e1;c2<-[c1];(by injection c2 with z);absurd z ⋯);hpS:p≠S:=λz=>(do e||{o,e}:=hp;this:=I.aZ.lt e;absurd this (do[z];m8.mpr hS);this:=I.aZ.lt e;absurd this (do[z];m8.mpr hS));W:=Walks.list (prog:=X.prog) (w:=X.w) (A:=X.A.in1) hh it p hip its.toArray;W.item j s' _ _ (do[ze];()) {M.gI,pl.isList} λv h' tk R G T=>{v,O,λE'=>?_};R:its.toArray[j]?=!v:=R;R<-[m7];n:ys[j]?=some ys[j]:=qe hj;{u',J,B}:=rv.get n;J<-[R];-J;wr:∀b o,b≠it->s'.heap.get? b=!o->h'.get? b=!o:=λb o hb e=>T b o (do 0<|hb) e;q:Un (dY X.stack) [] H a s.heap h':=M.un.later λb o hb e=>wr b o (qi (zf hb hi)) e;N:dm X.prog X.w a h':=M.aZ.other wr M.fI;I1:Inv X pins σ a {s' with heap:=h',toks:=tk}:=I.ij (s':={s' with heap:=h',toks:=tk}) M.os q N M.bare (λb z=>absurd z (do 0));h:=I1.FJ;wpAny_call (codeAny_mono (k {s' with heap:=h',toks:=tk} a v ys[j] (λg H2=>ag a H2/\DV H2 g (.tuple ((D j).map PyData.int))) {h.frames,h.mod,h.bs,h.uQ,h.d9,h.wK,h.aZ,h.bare} q M.same B (hsp j ys[j] a _ n M.same λH2 g a1 a2=>{a1,a2})) λU s2 l=>?_);(by cases U with|error e|ok fl=>?_);l.elim;(by cases fl with|next|brk|cont|ret u=>?_);l.elim;l.elim;l.elim;{g,H2,os2,i,f,L,Y,d,dv2}:=l;{c,gS}:=M.gS;{oi,gi,ci,di}:=G.1;F:=wr S _ Z.symm gS;{ys[j],g,H2,n,B,Y,dv2,d,q.trans f,L,os2.trans M.os,i,M.same.trans d,f.free it _ gi M.fI (do 0),f.free S _ F M.fS (do 0),{oi,f.keep it _ gi M.fI nI (do 0),ci,di},c,f.keep S _ F M.fS nS (do 0)}
def NA{fa it S p:To}{ys:List V}{D:Nat->List Int}{C:Hp->V->VK->Prop}{R:Result->Tj->Prop}(E:∀(s':Tj) (n:Hp) (x:MD) (y:V) (Q:VK),gP X.prog X.w X.K X.mg X.base X.A.in1 X.stack s' n->Un (dY X.stack) [] H n s.heap s'.heap->ag H n->RelV y x->C n y Q->codeAny 48 X.A.in1 (.call (.ref fa) {[x],[]}) (CR iW X.stack X.prog X.w n s' Q E0) s')(hsp:∀(m:Nat) y H' (Q':VK),ys[m]?=!y->ag H H'->(∀J B,ag H' J->DV J B (.tuple ((D m).map PyData.int))->Q' B J)->C H' y Q')(hu:X.A.units+3+61<cLine)(hh:X.A.handled=none)(I:Inv X pins σ H s)(hp:az H p ys)(hi:↑s<=it)(hS:↑s<=S)(G:it≠S)(nI:it∉dY X.stack)(nS:S∉dY X.stack)(Z:∀(m:Nat) (y:V) (u:MD) Hn U,ys[m]?=!y->RelV y u->(∀i,i<ys.length->bK (.tuple ((D m).map PyData.int)) (.tuple ((D i).map PyData.int))=false)->Inv X pins σ Hn U->ag H Hn->R (.ok (.ret u)) U) : ∀(k j:Nat) (n:Hp) (s':Tj) (b:Nat) (y:V) (item val:MD) (B:V),ys.length - j=k->1<=j->j<=ys.length->Gr X H s it S p n s' j #[item,val]->b<j->ys[b]?=!y->RelV y item->RelV B val->DV n B (.tuple ((D b).map PyData.int))-> (∀i,i<j->bK (.tuple ((D b).map PyData.int)) (.tuple ((D i).map PyData.int))=false)->codeAny 48 X.A (.builtin "max.loop" {[.ref it,.ref fa,.ref S],[]}) R s':=do t:(toString "max"++toString ".loop":String) = "max.loop":=⋯;(k);(by induction k with|zero|succ k ih=>?_);(j,n,s',b,y,item,val,B,hk,h1,hj,M,g,hy,ry,rk,dk,v);hjl:j=ys.length:=();{c,Y}:=id M.gS;I':=M.inv I;{its,rv,pl,hz}:=I'.list (hp.same M.same);hl:=rv.length;hip:p≠it:=λz=>(do _;{o1,e1,c1,d1}:=pl.isList;{o2,e2,c2,d2}:=M.gI;e1<-[z,e2];-e1;c2<-[c1];(by injection c2 with z);absurd z ⋯);W:=Walks.list (prog:=X.prog) (w:=X.w) (A:=X.A.in1) hh it p hip its.toArray;codeAny_builtin F.entry_max_loop ?_;[Around.under_plainId F.plain_max_loop _];¬wpAny _ X.A.in1 (seqItems? (.ref S) >>= _) _ _ s';qA (wpAny_seqItems Y rfl ?_);¬wpAny _ X.A.in1 (tryCatch (pyNext (.ref it)) _ >>= _) _ _ s';qA (wpAny_tryCatch (W.done s' _ _ {do[ze,<-hl,<-hjl];M.gI,pl.isList} λh' tk hk'=>?_));wr:∀b o,b≠it->s'.heap.get? b=!o->h'.get? b=!o:=λb o g e=>hk' b o (do 0<|g) e;gS':=wr S _ G.symm Y;¬wpAny _ X.A.in1 (updateSeq S (λ_=>#[]) >>= _) _ _ _;qA ?_;wpAny_updateSeq gS' rfl (qA (wpAny_letGo (qE ?_)));wr2:∀b o,b≠it->b≠S->s'.heap.get? b=!o->(h'.update S (Obj.mapSeq λ_=>(#[]:Array MD))).get? b=!o:=λb o h1 h2 e=>(Heap.get?_update_other _ _ (Ne.symm h2)).trans (wr b o h1 e);Z b y item n _ hy ry (λi T=>v i ()) ?_ M.same;I.ij (s':={s' with heap:=h'.update S (Obj.mapSeq λ_=>(#[]:Array MD)),toks:=tk}) M.os (M.un.later λb o g e=>wr2 b o (Nat.ne_of_lt (Nat.lt_of_lt_of_le g hi)) (Nat.ne_of_lt (Nat.lt_of_lt_of_le g hS)) e) ?_ M.bare (λb z=>absurd z (do 0));(M.aZ.other wr M.fI).other (λb u g e=>(Heap.get?_update_other _ _ (Ne.symm g)).trans e) M.fS;(j,n,s',b,y,item,val,B,hk,h1,hj,M,g,hy,ry,rk,dk,v);hlt:j<ys.length:=();{c,Y}:=id M.gS;codeAny_builtin F.entry_max_loop ?_;[Around.under_plainId F.plain_max_loop _];¬wpAny _ X.A.in1 (seqItems? (.ref S) >>= _) _ _ s';qA (wpAny_seqItems Y rfl ?_);¬wpAny _ X.A.in1 (tryCatch (pyNext (.ref it)) _ >>= _) _ _ s';qA (wpAny_tryCatch (qM (JL E hsp hh I hp hi hS G nI nS hlt M) (λr s1 hr=>?_) (λ_ _ z=>z)));{d,rfl,hr}:=hr;¬wpAny _ X.A.in1 (tryCatch (holding [d] (call (.ref fa) [d])) _ >>= _) _ _ s1;qA (wpAny_tryCatch (qK (qM (hr (λ_ _=>False)) (λf s2 hR=>?_) (λ_ _ z=>z.elim))));{y2,kv2,H2,hy2,ry2,N,L,l,h}:=hR;I2:=h.inv I;{as1,r1}:=L.reads I2 N;{as2,r2}:=(dk.same l).reads I2 rk;{c2,O}:=id h.gS;k_:∀i,bK (.tuple ((D i).map PyData.int)) (.tuple ((D i).map PyData.int))=false:=λi=>jU _;tr:∀a b c:Nat,bK (.tuple ((D a).map PyData.int)) (.tuple ((D b).map PyData.int))=true->bK (.tuple ((D b).map PyData.int)) (.tuple ((D c).map PyData.int))=true->bK (.tuple ((D a).map PyData.int)) (.tuple ((D c).map PyData.int))=true:=λa b c h1 h2=>uV _ _ _ (do[sk];lL _ _) (do[sk];lL _ _) (do[sk];lL _ _) h1 h2;¬wpAny _ X.A.in1 (tryCatch (holding [d,f] (richCompare .Gt f val >>= _)) _ >>= _) _ _ s2;qA (wpAny_tryCatch (qK (qA (IQ r1 r2 (do¬X.A.units+1+2<cLine;()) X.prog X.w _ _ ?_))));qA (qK (wpAny_truthy_bool ?_));qA (wpAny_letGo (qE ?_));(by cases P:bK (.tuple ((D b).map PyData.int)) (.tuple ((D j).map PyData.int))with|true|false=>?_);#[_,if_true];qA ?_;wpAny_updateSeq O rfl (qA (wpAny_letGo ?_));[t];ot:∀b o,b≠S->s2.heap.get? b=!o->(s2.heap.update S (Obj.mapSeq λ_=>#[d,f])).get? b=!o:=λb o h2 e=>(Heap.get?_update_other _ _ (Ne.symm h2)).trans e;{oi,gi,ci,di}:=id h.gI;qE {plainId_quiet F.plain_max_loop _,ih (j+1) H2 _ j y2 d f kv2 () () () {h.un.later λb o g e=>ot b o (qi (zf g hS)) e,h.aZ.other (λb u g e=>ot b u g e) h.fS,h.os,h.bare,h.same,h.fI,h.fS,{oi,ot _ _ G gi,ci,di},_,Heap.get?_update_self _ O rfl} () hy2 ry2 N L λi T=>?_};z<|i=j;[z];k_ j;this:=v i ();(by cases q:bK (.tuple ((D j).map PyData.int)) (.tuple ((D i).map PyData.int)) with|false|true=>?_);2;this<-[tr _ _ _ P q];-this;#[_,Bool.false_eq_true,if_false];qA (wpAny_letGo ?_);[t];qE {plainId_quiet F.plain_max_loop _,ih (j+1) H2 _ b y item val B () () () h () hy ry rk (dk.same l) λi T=>?_};z<|i=j;[z];P;v i ()
def QQ{fa p:To}{ys:List V}{D:Nat->List Int}{C:Hp->V->VK->Prop}{Q:VK}(c:∀(s':Tj) (B:Hp) (x:MD) (y:V) (Q:VK),gP X.prog X.w X.K X.mg X.base X.A.in1 X.stack s' B->Un (dY X.stack) [] H B s.heap s'.heap->ag H B->RelV y x->C B y Q->codeAny 48 X.A.in1 (.call (.ref fa) {[x],[]}) (CR iW X.stack X.prog X.w B s' Q E0) s')(E:∀(m:Nat) y H' (Q':VK),ys[m]?=!y->ag H H'->(∀k kv,ag H' k->DV k kv (.tuple ((D m).map PyData.int))->Q' kv k)->C H' y Q')(hu:X.A.units+3+61<cLine)(hh:X.A.handled=none)(I:Inv X pins σ H s)(hp:az H p ys)(hn:0<ys.length)(L:∀(m:Nat) (y:V) j,ys[m]?=!y->(∀i,i<ys.length->bK (.tuple ((D m).map PyData.int)) (.tuple ((D i).map PyData.int))=false)->ag H j->Q y j) : wpAny 48 X.A (call (.builtin "max") [.ref p] [(Str.ofString "key",.ref fa)]) (EP X pins σ Q) X.xe s:=do f:(toString "max"++toString ".loop":String) = "max.loop":=⋯;{its,rv,pl,hz}:=I.list hp;q:=pl.isList;hlt:p<↑s:=(do _;{_,e,_}:=q;qG e);RI F.kind_max F.plain_max F.entry_max (Qq _ _) ?_;¬wpAny _ X.A.in1 (Builtin.Builtins.bindParams "max" ["key","default"] 0 {[],[(Str.ofString "key",.ref fa)]} >>= _) _ _ s;qA (wpAny_of_eq (show Builtin.Builtins.bindParams "max" ["key","default"] 0 {[],[(Str.ofString "key",.ref fa)]}=pure [! (.ref fa),none] from rfl) ?_);qA (qE ?_);qA (wpAny_pyIter_list q (qA (wpAny_newObj_type ?_)));[f];R:(s.heap.push {cls:=.type "list_iterator",data:=.fields #[.ref p,.int 0 0]}).objs.size=↑s+1:=Heap.size_push ..;x2:∀b o,s.heap.get? b=!o->((s.heap.push {cls:=.type "list_iterator",data:=.fields #[.ref p,.int 0 0]}).push (eL #[] 0)).get? b=!o:=λb o e=>qI _ (qI _ e);gI:((s.heap.push {cls:=.type "list_iterator",data:=.fields #[.ref p,.int 0 0]}).push (eL #[] 0)).IsListIter ↑s p 0:={_,qI _ (qL _ rfl),O,O};G:((s.heap.push {cls:=.type "list_iterator",data:=.fields #[.ref p,.int 0 0]}).push (eL #[] 0)).get? (s.heap.push {cls:=.type "list_iterator",data:=.fields #[.ref p,.int 0 0]}).objs.size=!(eL #[] 0):=qL _ rfl;qE {plainId_quiet F.plain_max_loop _,?_};¬codeAny _ X.A (.builtin "max.loop" {[.ref ↑s,.ref fa,.ref (s.heap.push {cls:=.type "list_iterator",data:=.fields #[.ref p,.int 0 0]}).objs.size],[]}) _ {s with heap:=(s.heap.push {cls:=.type "list_iterator",data:=.fields #[.ref p,.int 0 0]}).push (eL #[] 0)};(by rw[R]at G ⊢;generalize (s.heap.push {cls:=.type "list_iterator",data:=.fields #[.ref p,.int 0 0]}).push (eL #[] 0)=h2 at x2 gI G ⊢);hi:↑s<=↑s:=qb _;n:↑s<=↑s+1:=jk _;h:↑s≠↑s+1:=qi (yu _);nI:=I.mC hi;T:=I.mC n;fI:=I.aZ.fresh hi;fS:=I.aZ.fresh n;(by generalize ↑s+1=S at G n h T fS ⊢);M0:Gr X H s ↑s S p H {s with heap:=h2} 0 #[]:={Un.kept x2,I.aZ.kept x2,O,I.bare,ag.refl _,fI,fS,gI,0,G};J:∀(m:Nat) (y:V) (u:MD) j l,ys[m]?=!y->RelV y u->(∀i,i<ys.length->bK (.tuple ((D m).map PyData.int)) (.tuple ((D i).map PyData.int))=false)->Inv X pins σ j l->ag H j->(λ(r:Result) s'=>match r with|.ok (.ret v)=>EP X pins σ Q v s'|.ok _=>False|.error e=>X.xe e s') (.ok (.ret u)) l:=λm y u j l h1 h2 h3 h4 h5=>{y,j,h4,h2,L m y j h1 h3 h5};codeAny_builtin F.entry_max_loop ?_;[Around.under_plainId F.plain_max_loop _];¬wpAny _ X.A.in1 (seqItems? (.ref S) >>= _) _ _ {s with heap:=h2};qA (wpAny_seqItems G rfl ?_);¬wpAny _ X.A.in1 (tryCatch (pyNext (.ref ↑s)) _ >>= _) _ _ {s with heap:=h2};qA (wpAny_tryCatch (qM (JL c E hh I hp hi n h nI T hn M0) (λr s1 Z=>?_) (λ_ _ z=>z)));{a,rfl,Z}:=Z;¬wpAny _ X.A.in1 (tryCatch (holding [a] (call (.ref fa) [a])) _ >>= _) _ _ s1;qA (wpAny_tryCatch (qK (qM (Z (λ_ _=>False)) (λd s2 hR=>?_) (λ_ _ z=>z.elim))));{y2,U,H2,W,Y,N,M,P,g}:=hR;{c2,t}:=id g.gS;¬wpAny _ X.A.in1 (updateSeq S (λ_=>#[a,d]) >>= _) _ _ s2;qA ?_;wpAny_updateSeq t rfl ?_;[f];ot:∀b o,b≠S->s2.heap.get? b=!o->(s2.heap.update S (Obj.mapSeq λ_=>#[a,d])).get? b=!o:=λb o h2 e=>(Heap.get?_update_other _ _ (Ne.symm h2)).trans e;{oi,gi,ci,di}:=id g.gI;qE {plainId_quiet F.plain_max_loop _,NA c E hu hh I hp hi n h nI T J _ 1 H2 _ 0 y2 a d U rfl () () {g.un.later λb o hb e=>ot b o (qi (zf hb n)) e,g.aZ.other (λb u hb e=>ot b u hb e) g.fS,g.os,g.bare,g.same,g.fI,g.fS,{oi,ot _ _ h gi,ci,di},_,Heap.get?_update_self _ t rfl} () W Y N M λi hi'=>?_};this:i=0:=();[this];jU _
def GF(c cl:Nat)(q:Tp)(P:To)(i:Nat)(tb:TE)(t:TA):TE:=λσ H Q=>t σ H λvs H1=>Tb c cl q P H1/\∀H2,Tb c cl q P H2->ag (del H1 P) (del H2 P)->∃p ys d,∃D:Nat->List Int,vs=[.ref p]/\az H2 p ys/\0<ys.length/\σ[i]?=some (!d) ∧ (∀(m:Nat) y H' (b:VK),ys[m]?=!y->ag H2 H'->(∀a e,ag H' a->DV a e (.tuple ((D m).map PyData.int))->b e a)->tb [!y,!d] H' b) ∧ ∀(m:Nat) y f,ys[m]?=!y->(∀j,j<ys.length->bK (.tuple ((D m).map PyData.int)) (.tuple ((D j).map PyData.int))=false)->ag H2 f->Q y f
end
section
variable {X:Cx}{k:Nat}
def QZ{p l kp pos:Pos}(G:X.env.code=.ref c)(hC:codeHdIn X.K c P=true)(hB:X.base.BuiltinsAt X.mg P)(hr:bG (k+2) X.A)(hg:Gl X x)(hm:X.mg x=none)(hv:bootBuiltins x=!(.builtin "max"))(S:oR y z b)(hN:X.N[i]?=!z)(hk:X.env.kindOf z=some .cell)(hX:∀x,X.env.kindOf x=some .cell->∃c,X.env.cells.lookup x=!c)(hcm:X.calm=true)(hfn:X.fn z=true)(L:∀cl pm cd U x,bindArgs (kla_fn "<lambda>" (X.env.qual++"<lambda>") d r b cl pm cd U) {[x],[]}=pure [(y,x)])(hb:∀cl f cd A outer s H,bG k (hP X.prog X.w X.K X.mg X.base y z (X.env.qual++"<lambda>") b cl f cd A outer s H).A->PE (hP X.prog X.w X.K X.mg X.base y z (X.env.qual++"<lambda>") b cl f cd A outer s H) r tb)(ha:PA X [e] t)(T:autoParam (defaultsOf d X.env=([],[])) z11)(hn:autoParam (x≠"__name__") z12)(hdb:autoParam ((x==("__debug__":Tp))=false) z12)(he:autoParam (starEach [e] X.env=(false,eval e X.env)::starEach [] X.env) z11):PE X (.Call (.Name x p) [e] [{!"key",.Lambda d r b l,kp}] pos) (GF l.line l.col (X.env.qual++"<lambda>") P i tb t):=do _;{?_};(pins,s,σ,H,Q,I,h);{v,j}:=hX z hk;u:∀y∈b.names,y.2=.free->∃c,X.env.cells.lookup y.1=!c:=λn hn e=>(do[S.fr n hn e];{v,j});hcl:=Fm u;O:=wF u (acc:=[]) (λx c e=>do-e);m:∀n a,(kY X.env b.names []).lookup n=!a->n=z/\a=v:=λn a e=>(do q||q:=Eh e;R:n=z:=S.fr _ q rfl;this:=O n a e;this<-[R,j];{R,(qJ this).symm};-q);hzc:(kY X.env b.names []).lookup z=!v:=(do _;{V,M}:=wX (env:=X.env) (acc:=[]) (.inl (PySem.mem_of_lookup S.lz));[M,(m z V M).2]);wpAny_Call_Name_kw (iC I hg hm hv ?_ hn hdb);callWith_kw (bI (ha pos pins s σ H _ I h) λus s1 ⟨vs,H1,I1,Y,hT,q1⟩=>kws_cons (Kw I1 G hC hB hT T hcl λf V U pm s2 H2 E hT2 hc2 sm hf nf of=>kws_nil ?_)) (do[he];2) (do[he];2);{p,ys,vz,D,rfl,hq,hn0,W,J,fin}:=q1 H2 hT2 sm;{u0,rfl,ru0}:=vals1 Y;-ru0;{m0,hn1,hl}:=E.loc;{uz,Z,look}:=hl i z vz hN W (.inr (.inl hk));g:s2.heap.IsCell v (!uz):=(do _;{kk,_}||{_,c2,F,g}:=look;kk<-[hk];-kk;F<-[j];-F;g);B:=E.dC z v j;mC:v∉dY X.stack:=E.ig (E.xA z v j) (λhm=>do _;{_,o,ho,_}:=E.ok.d9.mem hm;absurd (zf (qG ho) (E.ok.zC z v hfn j)) (wk _));QQ (C:=λHm y Q=>tb [!y,!vz] Hm Q) (λs' Hm x y Q e0 un same Y J=>?_) J (do this:=hr.un;()) (E.ok.hd hcm) E hq hn0 fin;hcr:s'.heap.CodeRec (.ref V) (X.env.qual++"<lambda>"):=(e0.aZ V _ (same _ _ hc2)).1;{oc,ec,dc}:=g;JT hr.in1 e0 (un.keep f _ of hf nf (do 0)) hcr S (L _ _ _ _ _) Y m hzc {oc,un.keep v _ ec B mC (do 0),dc} (un.free v _ ec B (do 0)) Z (hb _ _ _ _ _ _ _ (hr.in1.deeper _)) J
end
def wU(tk tv:TE):TE:=λσ H Q=>∀p H0,H p=none->ag H H0->H0 p=!(.dG [])->tk σ H0 λx H1=>tv σ H1 λy H2=>H2 p=!(.dG [])/\∃k,GK H2 k x/\Q (.ref p) (upd H2 p (.dG [(k,x,y)]))
section
variable {X:Cx}
def Kp(N:X.A.units+2<cLine)(E:PE X k tk)(r:PE X v tv):PE X (.Dict [!k] [v] pos) (wU tk tv):=do _;{?_};(pins,s,σ,H,Q,I,q);hn:=I.aZ.fresh (qb ↑s);J:=I.laid (a:=↑s) (o:=.dG []) (h':=s.heap.push {cls:=.type "dict",data:=.dict #[]}) (t':=s.toks) (λ_ _ q=>qI _ q) (qb _) (LQ s.heap I.jH);[arm_eval_Dict,zip_pairTrees [!k] [v] X.env pos rfl rfl,dictDisplay_pairs (pairTrees [!k] [v] X.env pos) (do#[pairTrees]) (do[pairTrees_length [!k] [v] X.env pos rfl rfl];Nat.le_of_ble_eq_true rfl)];qA (wpAny_standAt (qA ?_));@subDict;qA (wpAny_alloc ?_);qA (qK ?_);[qF (do[pairTrees_length [!k] [v] X.env pos rfl rfl];jz rfl)];qA (pairTrees_cons_walk (bI (E pins _ σ _ _ J (q _ _ hn (ag.new hn) aE)) λu K ⟨x,H1,t,n,F⟩=>bI (r pins K σ H1 _ t F) λP s2 ⟨y,H2,d,C,e,kd,j,D⟩=>pairTrees_nil_walk ?_));{z,L,xs,f,w}:=eA d (.inl e);-f;qK ?_;qA ?_;[mi];qA (qA (FA () (j.is d n) w (qx _) λh' c g=>qE ?_));¬wpAny _ _ (forIn [] _ _) _ _ _;[List.forIn_nil];qE (qE (qE (qE ?_)));{o,es,ep,h,h2,G,M,_,B}:=c;{.ref ↑s,_,pY (ob:=.dG [(kd,x,y)]) d (do[e];True.intro) g {o,h} {do¬1<=sizeLine;by decide,L,_,Paired.lD (wZ (l:=[]) (m:=[]) .nil j n C) λp q z=>{z.1,z.2.1.cW λb xs i=>?_,z.2.2},o,es,ep,h,h2,G,M,B},O,D};[aB (oA i e (λz=>nomatch z))];i
end
def sI(Ps:List To)(M:To->Option (List V))(H:Hp):Prop:=∀b,(b∈Ps/\H b=!(.cF #[]))\/(b∉Ps/\∃xs,M b=!xs/\H b=! (.tup xs))\/(b∉Ps/\M b=none/\(H b=none\/∃o xs,H b=!(.dA o (.lst xs))))
def sP(K:PySem.W.Frag):Bool:=K.all λp=>match p.2.cls,p.2.data with|.type t,.seq ..=>not (t=="list")|_,_=>true
def RQ{K:PySem.W.Frag}{a:To}{us:Array MD}{n:Nat}(h:sP K=true)(e:K.lookup a=some {cls:=.type "list",data:=.seq us n}):False:=do this:=ng.mp h _ (PySem.W.mem_of_lookupK e);h2:(not (("list":String)=="list"))=true:=this;absurd h2 ⋯
section
variable {prog:Program}{w:World}{A:Around}{E:KE}{s:Tj}
def OE(R:A.handled=none)(V:(d==sysModules)=false)(t:s.heap.get? d=!od)(J:od.ExactDict)(f:od.data=.dict es ep)(hz:es.size<=sizeLine)(X:∀s' acc c,Moved [] Eq s s'->s'.heap.get? ↑s=some {cls:=.type "list",dict:=none,data:=.seq acc c,slots:=#[]}->acc.toList=es.toList.map (·.key)->Q (.ref ↑s) s') : wpAny 66 A (call (.type "list") [.ref d]) Q E s:=do callType_codes (Q₁:=λobj g=>obj=.ref ↑s/\g={s with heap:=s.heap.push {cls:=.type "list",data:=.seq #[]}}) F.called_list (F.typeCall_list_1 _) F.entry_list_init (code_list_new _ {O,O}) λobj g h₁=>?_;{rfl,rfl}:=h₁;y:(s.heap.push {cls:=.type "list",data:=.seq #[]}).get? ↑s=some {cls:=.type "list",data:=.seq #[]}:=qL _ rfl;{{_,y,O},F.args_list_init_2 _ _,?_};a:d<↑s:=qG t;(by generalize q:s.heap.push {cls:=.type "list",data:=.seq #[]}=h1 at y);N:∀b o,s.heap.get? b=!o->h1.get? b=!o:=λb o e=>(do[<-q];qI _ e);¬wpAny _ A.in1.in1 (do{let old <-Builtin.List.listItems (.ref ↑s);Builtin.List.listUpdate (.ref ↑s) (λ_=>#[]);letGo old.toList.reverse;Builtin.List.listExtendWith (.ref ↑s) (.ref d) .none}) _ _ {s with heap:=h1};qA ?_;@Builtin.List.listItems;qA (wpAny_seqItems (s:={s with heap:=h1}) y rfl (qE ?_));¬wpAny _ A.in1.in1 (updateSeq ↑s (λ_=>#[]) >>= λ_=>letGo (#[]:Array MD).toList.reverse >>= λ_=>Builtin.List.listExtendWith (.ref ↑s) (.ref d) .none) _ _ {s with heap:=h1};qA (wpAny_updateSeq (s:={s with heap:=h1}) y rfl ?_);B:=Heap.get?_update_self (Obj.mapSeq (λ_=>(#[]:Array MD))) y rfl;l:∀b o,s.heap.get? b=!o->(h1.update ↑s (Obj.mapSeq (λ_=>(#[]:Array MD)))).get? b=some o:=λb o e=>(Heap.get?_update_other _ _ (zo (qG e))).trans (N b o e);u:(h1.update ↑s (Obj.mapSeq (λ_=>(#[]:Array MD)))).objs.size=↑s+1:=(do[Heap.size_update,<-q,Heap.size_push]);¬wpAny _ _ _ _ _ {s with heap:=h1.update ↑s (Obj.mapSeq (λ_=>(#[]:Array MD)))};(by generalize h1.update ↑s (Obj.mapSeq (λ_=>(#[]:Array MD)))=h2 at B l u);qA (wpAny_letGo ?_);G:Shared.TypeIs {s with heap:=h2} (.ref d) "dict":={od,l _ _ t,J.1};S:Builtin.List.listSameRef (.ref ↑s) (.ref d)=false:=(do¬(↑s==d)=false;beq_eq_false_iff_ne.mpr (zo a));@Builtin.List.listExtendWith;qA (wpAny_typeOf G ?_);[qB (by rw[S];decide)];qA (DG (s:={s with heap:=h2}) V (l _ _ t) J f ?_);qA (qK ?_);¬wpAny _ _ _ _ _ {s with heap:=h2.push {cls:=.type "dict_keyiterator",data:=.fields #[.ref d,.int 0 0,.int es.size 0,.int ep 0]}};i:(h2.push {cls:=.type "dict_keyiterator",data:=.fields #[.ref d,.int 0 0,.int es.size 0,.int ep 0]}).IsKeyIter h2.objs.size d 0 es.size ep:={_,qL _ rfl,O,O};r:∀b o,h2.get? b=!o->(h2.push {cls:=.type "dict_keyiterator",data:=.fields #[.ref d,.int 0 0,.int es.size 0,.int ep 0]}).get? b=!o:=λb o e=>qI _ e;(by generalize h2.push {cls:=.type "dict_keyiterator",data:=.fields #[.ref d,.int 0 0,.int es.size 0,.int ep 0]}=h3 at i r);k:Shared.TypeIs {s with heap:=h3} (.ref d) "dict":={od,r _ _ (l _ _ t),J.1};@Builtin.List.listLengthHint;qA (wpAny_specialOf (name:=Str.ofString "__len__") k F.slot_dict_len.lookup ?_);(by generalize v:("dict.__len__":String)=id0;wp_delta);[show splitId id0=some ("dict","__len__") from do !v;by decide +kernel];!v;qA (wpAny_isInstance (T:="dict") k PySem.F.sub_dict_dict ?_);[qB ⋯];(by wp_delta);[qF ∅];qA (wpAny_typeOf k (qE ?_));[qF ∅];n:=r _ _ B;qA (wpAny_rule (qA ?_));@Builtin.List.listTouch;qA (listUpdate_at (s:={s with heap:=h3}) n rfl ?_);{L,j}:∃L,(h3.update ↑s (Obj.mapSeq (·.push Value.none))).get? ↑s=!(seqObj "list" #[Value.none] L):={_,get?_update_seq n _};K:∀b o,b≠↑s->h3.get? b=!o->(h3.update ↑s (Obj.mapSeq (·.push Value.none))).get? b=!o:=λb o h e=>(Heap.get?_update_other _ _ (λz=>h z.symm)).trans e;¬wpAny _ _ _ _ _ {s with heap:=h3.update ↑s (Obj.mapSeq (·.push Value.none))};(by generalize h3.update ↑s (Obj.mapSeq (·.push Value.none))=h4 at j K);listUpdate_at (s:={s with heap:=h4}) j rfl ?_;{H,x}:∃H,(h4.update ↑s (Obj.mapSeq (·.pop))).get? ↑s=!(seqObj "list" #[] H):={_,get?_update_seq j _};D:∀b o,b≠↑s->h3.get? b=!o->(h4.update ↑s (Obj.mapSeq (·.pop))).get? b=!o:=λb o h e=>(Heap.get?_update_other _ _ (λz=>h z.symm)).trans (K b o h e);¬wpAny _ _ _ _ _ {s with heap:=h4.update ↑s (Obj.mapSeq (·.pop))};(by generalize h4.update ↑s (Obj.mapSeq (·.pop))=h5 at x D);¬wpAny _ _ (again (Code.builtin "list.extend.loop" {[Value.ref ↑s,Value.ref h2.objs.size,Value.none],[]})) _ _ _;(by rw[u]at i ⊢);W:=JS (prog:=prog) (w:=w) (A:=A.in1.in1) (it:=↑s+1) (d:=d) (od:=od) (es:=es) (ep:=ep) R (zo (yj a)) f;{U,M,Y,P}:=i;qE {plainId_quiet F.plain_extend_loop _,codeAny_extend_loopS W hz ↑s (λz=>?_) _ es.size 0 {s with heap:=h5} #[] H rfl (qx _) {{U,D _ _ (jy _) M,Y,P},D _ _ (qi a) (r _ _ (l _ _ t))} x (ItemsOf.nil _) λs' C Z m I p=>?_};(by ac_nf at z);z||z:=z;jy _ z.symm;zo a z;⟨O,X s' C Z ⟨λb o _ e=>?_,m.gens,m.drawn,m.os,m.toks⟩ I (Ha p)⟩;h:b<↑s:=qG e;m.heap b o (λz=>?_) (D b o (qi h) (r _ _ (l _ _ e)));(by ac_nf at z);z||z:=z;qi h z;qi (yj h) z
end
inductive Bm(xs:List V)(H1:Hp)(Q:VK):Prop
 |mk(a kvs:_)(_:xs=[.ref a])(_:Rd H1 a 69)(_:kvs.length<=1000)(_:∀p H',H1 p=none->ag H1 H'->H' p=!(.lst (kvs.map (·.2.1)))->Q (.ref p) H')
section
variable {X:Cx}
def RX(w:X.A.handled=none):cn X (.type "list") Bm:=do(pins,s,σ,H,xs,us,Q,I,r,h);{a,kvs,rfl,p,hz,q}:=h;{u,rfl,D}:=vals1 r;-D;{_,g,J,j,o,es,ep,v,B,d,i,n,hn}:=eA I p;f:es.size=kvs.length:=(do this:es.toList.length=kvs.length:=(do[i,qh,j.length]);0<|this);OE w g v B d (do[f,sizeLine_eq];()) λs' acc c m t z=>?_;E:s'={s with heap:=s'.heap,toks:=s'.toks}:=(do _;{G,l,C,y,F}:=m;-s';-l;-C;-y;2);k:=I.aZ.fresh (a:=↑s) (qb _);x:Inv X pins σ (upd H ↑s (.lst (kvs.map (·.2.1)))) s':=(do[E];I.laid (t':=s'.toks) (h':=s'.heap) (λb u e=>m.heap b u (do 0) e) (Nat.le_refl _) {?_,acc.toList,c,?_,do 0<|t};¬(kvs.map (·.2.1)).length<=sizeLine;[qh,sizeLine_eq];();[z,i,wg];GR j);{.ref _,_,x,O,q _ _ k (ag.new k) aE}
end
section
variable {X:Cx}{a b e:Expr}{ta tb te:TE}{es:List Expr}{t:TA}{pos p:Pos}
def QE(X:Cx)(i:Nat)(x:Tp)(k:NameKind):Prop:=(X.N[i]?,X.env.scope.names.lookup x,(x==("__debug__":Tp)),(x==("__classdict__":Tp)))=(!x,!k,false,false)
def vv(i:Nat)(h:autoParam (QE X i x .local) z10):PE X (.Name x pos) (lW i):=pv i (congrArg (·.1) h) (.inl (congrArg (·.2.1) h)) (congrArg (·.2.2.1) h) (congrArg (·.2.2.2) h)
def vc(i:Nat)(h:autoParam (QE X i x .cell) z10):PE X (.Name x pos) (lW i):=pv i (congrArg (·.1) h) (.inr (.inl (congrArg (·.2.1) h))) (congrArg (·.2.2.1) h) (congrArg (·.2.2.2) h)
def vf(i:Nat)(h:autoParam (QE X i x .free) z10):PE X (.Name x pos) (lW i):=pv i (congrArg (·.1) h) (.inr (.inr (congrArg (·.2.1) h))) (congrArg (·.2.2.1) h) (congrArg (·.2.2.2) h)
def rX(X:Cx)(e:Expr):Prop:=∀es,starEach (e::es) X.env=(false,eval e X.env)::starEach es X.env
def a1(b:PE X a ta)(h:autoParam (rX X a) z13):PA X [a] (jA ta wH):=F3 b dj (h _)
def a2(c:PE X a ta)(d:PE X b tb)(h:autoParam (rX X a) z13)(h2:autoParam (rX X b) z13):PA X [a,b] (jA ta (jA tb wH)):=F3 c (a1 d h2) (h _)
def ac(c:PE X a ta)(b:PA X es t)(h:autoParam (rX X a) z13):PA X (a::es) (jA ta t):=F3 c b (h _)
def xt(b:PE X a ta):PE X (.Subscript a (.Constant (.int i) j p) pos) (oG (Fx) ta (tC (.int i))):=jP Hw b aD (λ_ _=>rfl)
def xl(b:PE X a ta):PE X (.Subscript a (.Constant (.int i) j p) pos) (oG (CN) ta (tC (.int i))):=jP Fv b aD (λ_ _=>rfl)
def xa(c:PE X a ta)(d:PE X b tb)(e:autoParam (g_ b) z17):PE X (.Subscript a b pos) (oG (G1) ta tb):=jP EA c d e
def xi(c:PE X a ta)(d:PE X b tb)(e:autoParam (g_ b) z17):PE X (.Subscript a b pos) (oG (CN) ta tb):=jP Fv c d e
def xu(c:PE X a ta)(d:PE X b tb)(e:autoParam (g_ b) z17):PE X (.Subscript a b pos) (oG (Fx) ta tb):=jP Hw c d e
def ce(c:dn X (compareOp op) r)(d:PE X a ta)(e:PE X b tb)(f:autoParam (behindInMarks op b=false) z10):PE X (.Compare a [op] [b] pos) (oG r ta tb):=Py c d e f
def ck(c:dn X (compareOp op) r)(d:PE X a ta)(e:PE X b tb)(f:autoParam (behindInMarks op b=false) z10):PT X (.Compare a [op] [b] pos) (tj (oG r ta tb)):=Q_ c d e f
structure cL(P:Program)(w:World)(K:PySem.W.Frag)(mg:Tp->Option MD)(base:Heap)(k:Nat)(x:Tp)(ps:List Tp)(sp:Sp):Prop where
 out:∃f fd,gG P w K mg base iW k f fd ps sp/\mg x=!(.ref f)/\PySem.W.keepIn K (.ref f)=true/\Binds K fd ps []
variable {k n:Nat}{x:Tp}{ps:List Tp}{sp:Sp}
def cl(F:cL X.prog X.w X.K X.mg X.base k x ps sp)(g:bG n X.A)(m:PA X (e::es) t)(j:autoParam (k<=n) z12)(d:autoParam (Gl X x) z10)(c:autoParam ((x==("__debug__":Tp))=false) z10)(i:autoParam (rX X e) z13)(a:autoParam ((backTo pos (starEach es X.env)).any (·.1)=false) z10) : PE X (.Call (.Name x p) (e::es) [] pos) (tF sp [] E0 t):=do _;{f,fd,F,h,b,l}:=F.out;G0 F (g.mono j) d h b l .nil yD m c (i _) a
def cb{id:String}{r:List V->Hp->VK->Prop}(i:cn X (.builtin id) r)(g:X.mg x=none)(c:bootBuiltins x=!(.builtin id))(f:PA X (e::es) t)(d:autoParam (Gl X x) z10)(hn:autoParam (x≠"__name__") z12)(b:autoParam ((x==("__debug__":Tp))=false) z10)(h:autoParam (rX X e) z13)(a:autoParam ((backTo pos (starEach es X.env)).any (·.1)=false) z10):PE X (.Call (.Name x p) (e::es) [] pos) (FY r t):=Rn i d g c f hn b (h _) a
def cy(i:cn X (.type T) r)(g:X.mg x=none)(c:bootBuiltins x=!(.type T))(f:PA X (e::es) t)(d:autoParam (Gl X x) z10)(hn:autoParam (x≠"__name__") z12)(b:autoParam ((x==("__debug__":Tp))=false) z10)(h:autoParam (rX X e) z13)(a:autoParam ((backTo pos (starEach es X.env)).any (·.1)=false) z10):PE X (.Call (.Name x p) (e::es) [] pos) (FY r t):=Nj i d g c f hn b (h _) a
def sn(c:X.N.Nodup)(i:Nat)(b:PE X e te)(hi:autoParam (X.N[i]?=!x) z10)(a:autoParam (X.env.scope.names.lookup x=some .local) z10)(d:autoParam (swapsWith e (!(.Name x pos')) pos.line X.env=pure false) z10):PS X (.Assign [.Name x pos'] e pos) (se te (cP i)):=G_ c hi (.inl a) b d (.inr a)
def sm(f:X.N.Nodup)(i:Nat)(d:PE X e te)(hi:autoParam (X.N[i]?=!x) z10)(b:autoParam (X.env.scope.names.lookup x=some .cell) z10)(c:autoParam (swapsWith e (!(.Name x pos')) pos.line X.env=pure false) z10)(a:autoParam (X.fn x=true) z10):PS X (.Assign [.Name x pos'] e pos) (se te (cP i)):=G_ f hi (.inr b) d c (.inl a)
def gn(b:X.N.Nodup)(i:Nat)(hi:autoParam (X.N[i]?=!x) z10)(a:autoParam (X.env.scope.names.lookup x=some .local) z10):PG X (.Name x pos) (cP i):=cj b hi (.inl a) (.inr a)
def gm(b:X.N.Nodup)(i:Nat)(hi:autoParam (X.N[i]?=!x) z10)(c:autoParam (X.env.scope.names.lookup x=some .cell) z10)(a:autoParam (X.fn x=true) z10):PG X (.Name x pos) (cP i):=cj b hi (.inr c) (.inl a)
def gt(h:CH X es u)(b:autoParam (X.calm=true) z10)(hn:autoParam ((assignEach es X.env).length=n) z10)(a:autoParam ((assignEach es X.env).findIdx? (·.1)=none) z10):PG X (.Tuple es k pos) (uJ n u):=iD b h hn a
def fo{tg a:Expr}{b:List Stmt}{c:TI}{g:TG}{tb:TS}(hi:PI X tg a c)(d:PG X tg g)(f:iL X b tb)(hp:PassesOwn 48 X.A X.env X.xe:=by exact PassesOwn.never)(h:autoParam (X.calm=true) z10)(e:autoParam (∀x,foldedSetIterable a X.env x=pure x) z13):PS X (.For tg a b [] pos) (Cu c g tb):=BU hp h hi d f e
def il{tl:TE}(a:PE X l tl):PI X tg l (yV tl):=RV a
def bm{o:Expr}{to:TE}{name:Tp}{T id:String}{apos:Pos}{r:V->List V->Hp->VK->Prop}(h:PlainAttrs T)(slot:Slot T name id)(f:typeOf (.builtin id)=pure (.type "method_descriptor"))(i:La X id r)(g:PE X o to)(k:PA X (e::es) t)(c:autoParam (attributeBase o name X.env (eval o X.env)=eval o X.env) z10)(d:autoParam (((backTo pos (starEach (e::es) X.env)).all (λx=>not x.1)&&(backToKw pos (keywordEach [] X.env)).all (λx=>x.1.isSome)&&decide ((e::es).length+([]:List Keyword).length+(if([]:List Keyword).isEmpty then 0 else 1)<30))=true) z10)(b:autoParam ((apos.endLine==pos.line)=true) z10)(j:autoParam (rX X e) z13)(a:autoParam ((backTo pos (starEach es X.env)).any (·.1)=false) z10) : PE X (.Call (.Attribute o name apos) (e::es) [] pos) (OX T r to t):=Ms h slot f i g k c d b (j _) a
def ap{to:TE}(d:PE X o to)(g:PA X [e] t)(b:autoParam (attributeBase o "append" X.env (eval o X.env)=eval o X.env) z10)(f:autoParam (rX X e) z13)(c:autoParam (((backTo pos (starEach [e] X.env)).all (λx=>not x.1)&&(backToKw pos (keywordEach [] X.env)).all (λx=>x.1.isSome)&&decide (([e]:List Expr).length+([]:List Keyword).length+(if([]:List Keyword).isEmpty then 0 else 1)<30))=true) z10)(a:autoParam ((apos.endLine==pos.line)=true) z10):PS X (.Expr (.Call (.Attribute o "append" apos) [e] [] pos) p2) (xX (OX "list" oY to t)) := pL (bm PySem.F.plainAttrs_list PySem.F.slot_list_append PySem.F.type_list_append Qe d g b c a f rfl)
def S3{y:Tp}:[y].Nodup:=zx.mpr {List.not_mem_nil,v9}
def yH(a:bG n X.A):dn X (compareOp .Eq) (xI 64 false):=D8 (HX a)
def pT(a:bG n X.A):dn X (compareOp .NotEq) (xI 64 true):=BZ (HX a)
def inD(a:bG n X.A):dn X (compareOp .In) (Ip 63 false):=Ge (Pz a)
def Th(a:bG n X.A):dn X (compareOp .Eq) (jI):=Qf a.uZ
def MP(a:bG n X.A):La X "list.index" (oD 61):=Ph (uL a)
def S8(a:bG n X.A):La X "list.count" (oQ 61):=QD (uL a)
def KO{m kp:Pos}(F:cL X.prog X.w X.K X.mg X.base k y ps sp)(i:bG n X.A)(l:X.mg x=none)(j:bootBuiltins x=!(.builtin "sorted"))(s:PA X [e] t)(q:autoParam (k+1<=n) z12)(h:autoParam (Gl X x) z10)(b:autoParam (Gl X y) z10)(d:autoParam (ps.length=1) z10)(hn:autoParam (x≠"__name__") z12)(g:autoParam ((x==("__debug__":Tp))=false) z10)(a:autoParam ((y==("__debug__":Tp))=false) z10)(o:autoParam (rX X e) z13):PE X (.Call (.Name x p) [e] [{!"key",.Name y m,kp}] pos) (FY (iz sp) t):=do _;{f,fd,F,c,u,r}:=F.out;Ox F (i.mono q) h l j b c r d s hn g a (o _)
def DM{y:Tp}{e:Pos}{a c:Expr}{d:List Expr}{b:Scope}{f:TI}{tt:TT}{te:TE}(hi:PI X (.Name y e) a f)(k:∀s H fp,v_ (bB X [y] b [] s H fp) d tt)(i:∀s H fp,PE (bB X [y] b [] s H fp) c te)(j:autoParam (X.calm=true) z10)(S:autoParam (fT b) z18)(C:lh X b [] []:=by exact fB ∅)(g:∀s H fp,PG (bB X [y] b [] s H fp) (.Name y e) (cP 0):=by exact λ_ _ _=>cj (S3) rfl (.inl rfl) (.inr rfl))(h:autoParam (∀x,foldedSetIterable a X.env x=pure x) z13) : PE X (.ListComp c [{.Name y e,a,d,0}] b pos) (Mx [y] [] f (cP 0) tt te):=gH (own:=[y]) (fr:=[]) j hi S C g (λ_=>jS rfl) k i h
def rH(a:Scope)(N:List Tp)(fr:List (Tp×Nat)){y:Tp}{o:Pos}{d k:Expr}{l:List Expr}{b:Scope}{n:TI}{tt:TT}{te:TE}(hi:PI X (.Name y o) d n)(w:∀s H fp,v_ (bB X (y::fr.map (·.1)) b (kY X.env b.names []) s H fp) l tt)(t:∀s H fp,PE (bB X (y::fr.map (·.1)) b (kY X.env b.names []) s H fp) k te)(u:autoParam (X.calm=true) z10)(S:autoParam (fT b) z18)(h1:autoParam (X.env.scope=a) z10)(h2:autoParam (X.N=N) z10)(q:∀x,X.env.kindOf x=some .cell->∃c,X.env.cells.lookup x=!c:=by exact λ_ h=>fh h)(g:autoParam (∀y∈b.names,y.2≠.cell) z16)(f:autoParam (∀y∈b.names,y.2=.free->a.names.lookup y.1=some .cell) z16)(j:autoParam (∀p∈fr,N[p.2]?=!p.1/\a.names.lookup p.1=some .cell/\(relabel b {scope:=a,locals:=0,globals:=0,cells:=[]}).names.lookup p.1=some .cell) z16)(m:autoParam ((y::fr.map (·.1)).Nodup) z16)(v:autoParam ((relabel b {scope:=a,locals:=0,globals:=0,cells:=[]}).names.lookup y=some .local) z16)(r:autoParam (∀x,foldedSetIterable d X.env x=pure x) z13) : PE X (.ListComp k [{.Name y o,d,l,0}] b pos) (Mx [y] fr n (cP 0) tt te):=do i:(relabel b X.env).names.lookup y=some .local:=(do e:relabel b X.env=relabel b {scope:=a,locals:=0,globals:=0,cells:=[]}:=(by unfold relabel Env.kindOf;rw[h1]);[e];v);gH (own:=[y]) (fr:=fr) u hi S (iQ a N h1 h2 q g f j) (λ_ _ _=>cj m rfl (.inl i) (.inr i)) (λ_=>jS rfl) w t r
end
structure FO(K:PySem.W.Frag)(mg:Tp->Option MD)(x:Tp)(st:Stmt):Prop where
 out:∃f fd,Fh K x x st f fd/\mg x=!(.ref f)
def aO{P:Program}{w:World}{K:PySem.W.Frag}{mg:Tp->Option MD}{base:Heap}{x:Tp}{st:Stmt}{N ps:List Tp}{k:Nat}{sp:Sp}(F:FO K mg x st)(S:aA N ps (ah st))(g:∀{kV c i:MD}{h:Option To}{a d:MD}(us:List MD),us.length=ps.length->bindArgs (PySem.W.fnOf x x (cc st) (bJ st) (ah st) .none kV c i h a d) {us,[]}=pure (ps.zip us))(len:∀vs H Q E,sp vs H Q E->vs.length=ps.length)(b:∀(f:To) (a:MD) (A:Around) (outer:List Env) (s:Tj) (H:Hp) (vs:List V) (Q:VK) (E:XK),bG k (A.deeper (envOfC x (ah st) ↑s f a))->sp vs H Q E-> ∃t,iL (j1 iW P w K mg base N x (ah st) f a A outer s H E).wD (bJ st) t/\t {nx:=λ_ H'=>Q .aS H',rt:=Q} (start N vs) H):cL P w K mg base (k+1) x ps sp:=do _;{f,fd,F,e}:=F.out;{f,fd,F.ok S len (b f),e,F.kp,F.binds g}
inductive FX(K:PySem.W.Frag)(n:Tp)(s:Stmt):Prop
 |mk{a:To}{od an:Option To}{sl:Array (Option MD)}{oc kV dc pm cd ct:MD}(z1:PySem.W.nsIn K mainGlobals n=!(! (.ref a)))(z2:K.lookup a=some ⟨oc,od,.func (PySem.W.fnOf n n (cc s) (bJ s) (ah s) .none kV dc pm an cd ct),sl⟩)(z3:PySem.W.codeIn K cd n=true)(z4:PySem.W.keepIn K (.ref a)=true)
def FX.fo{K:PySem.W.Frag}{n:Tp}{s:Stmt}{h:Heap}{mg:Tp->Option MD}(f:FX K n s)(X:K.In h)(G:h.Ns mainGlobals mg):FO K mg n s:=do _;{a,c,b,d}:=f;{_,_,JM (st:=s) c b d,PySem.W.mg_of X G a}
def fK(o:Obj)(xs:List V):Bool:=match o with|⟨.type t,none,.seq its _,_⟩=>t=="tuple"&&decide (its.toList.map mQ=xs.map some)|_=>false
def Ab(K:PySem.W.Frag)(c:To×List V):Bool:=match K.lookup c.1 with|some o=>fK o c.2&&Nat.ble c.2.length 1000|none=>false
def QI(h:mQ u=!x):RelV x u:=by cases u <;> simp only[mQ,Option.some.injEq,reduceCtorEq]at h <;> subst h <;> first|rfl|exact⟨_,O⟩
theorem HU:∀{us:List MD} {xs:List V},us.map mQ=xs.map some->aK xs us|[],[],_=>.nil|u::us,x::xs,h=>do h<-[zm,zm];(by injection h with h1 h2);.cons (QI h1) (HU h2)
def Nt(e:h.get? b=!o)(t:fK o xs=true)(f:xs.length<=sizeLine):aV P w H h b (.tup xs):=do _;{c,d,a,sl}:=o;by unfold fK at t;cases c with|type ty=>(cases d with|none|some _=>?_;(cases a with|seq its n=>(have t:(ty=="tuple"&&decide (its.toList.map mQ=xs.map some))=true:=t;rw[zn]at t;have g:ty = "tuple":=(do 0<|t.1);subst g;exact{f,its.toList,HU (qN t.2),_,e,O,n,do 0})|_=>exact absurd t qo);exact absurd t qo)|_=>exact absurd t qo
def OA{P:Program}{w:World}{K:PySem.W.Frag}{mg mb:Tp->Option MD}{CX:vE}{k:Nat}{fa a:To}{fd:FuncData}{x:Tp}{sp:Sp}{c:Tj}{vs:List MD}{ns:List Int}{Ps:List To}{M:To->Option (List V)}(KX:K.In c.heap)(Z:c.heap.Ns mainGlobals mg)(j:c.heap.Ns builtinsNs mb)(hbb:∀x:Tp,x≠"__name__"->mb x=bootBuiltins x)(hlim:c.heap.NoLimit)(hg:c.gens=#[])(hnt:noTabs K=true)(hnl:sP K=true)(t:∀Q∈Ps,c.heap.get? Q=!(tabObj #[])/\isCodeTable c.heap Q)(hbm:∀Q∈Ps,c.heap.BuiltinsAt mg Q)(S:∀b xs,M b=!xs->∃o,K.lookup b=!o/\fK o xs=true/\xs.length<=sizeLine)(X:c.heap.get? a=some {cls:=.type "list",data:=.seq vs.toArray})(hi:IntsAre vs ns)(hl:ns.length<=sizeLine)(hr:bG k callerA)(F:∀base:Heap,K.In base->base.Ns mainGlobals mg->(∀Q∈Ps,base.BuiltinsAt mg Q)->gG P w K mg base CX k fa fd [x] sp)(U:∀(s:Tj) (u:MD),BindsTo s fd {[u],[]} [(x,u)])(hsp:∀H:Hp,sI Ps M H->az H a (ns.map V.int)->sp [.ref a] H (λv _=>v=.bl true) λ_ _ _=>False)(hCX:∀H e s',CX [] H c (λ_ _ _=>False) e s'->False) : codeAny (model P w) callerA (.call (.ref fa) {[.ref a],[]}) (λr s'=>r=.ok (.ret (.bool true))/\OldK c.heap s'.heap/\s'.os=c.os/\AllBare s'.gens) c:=do rv:=GZ hi;lenV:=hi.length;naP:a∉Ps:=λz=>(do this:=(t a z).1;this<-[X];-this);kP:∀Q∈Ps,K.lookup Q=none:=λQ hQ=>(do(by cases q:K.lookup Q with|none|some o=>?_);2;e:=KX Q o q;e<-[(t Q hQ).1];-e;h2:=ng.mp hnt (Q,_) (mem_of_lookupK q);absurd (show false=true from h2) qo);mP:∀b xs,M b=!xs->b∉Ps:=λb xs e z=>(do _;{o,h1,_}:=S b xs e;h1<-[kP b z];-h1);ma:M a=none:=(do(by cases q:M a with|none|some xs=>?_);2;{o,h1,h2,_}:=S a xs q;e:=KX a o h1;e<-[X];-e;h2:(("list"=="tuple")&&decide (vs.toArray.toList.map mQ=xs.map some))=true:=h2;h2<-[zn];absurd h2.1 ⋯);core:∀H:Hp,sI Ps M H->az H a (ns.map V.int)->dm P w H c.heap->(∀b,H b≠none->b=a\/b∈Ps\/∃xs,M b=!xs)->(H a≠none->K.lookup a=none)-> codeAny (model P w) callerA (.call (.ref fa) {[.ref a],[]}) (λr s'=>r=.ok (.ret (.bool true))/\OldK c.heap s'.heap/\s'.os=c.os/\AllBare s'.gens) c:=(do(H,hO,hS,R,hA,hK);(by let H0:Hp:=λb=>if(M b).isSome=true then none else H b);L:∀b,H b=none->H0 b=none:=λb e=>(do¬(if(M b).isSome=true then none else H b)=none;3;2;e);H0m:∀b xs,M b=!xs->H0 b=none:=λb xs e=>(do¬(if(M b).isSome=true then none else H b)=none;[e];2);f:∀{b:To} {o:Obj},c.heap.get? b=!o->H0 b=none->(hZ c.heap H0).get? b=!o:=λe n=>OP e n;l:∀{b:To} {o:Obj},c.heap.get? b=!o->(∀xs y,o.data≠.seq xs y)->o.data≠.fields #[]->H b=none:=λ{b o} e d1 d2=>(do(by cases q:H b with|none|some u=>?_);2;e'||e'||{xs,e'}:=hA b (do[q];0);!e';e<-[X];-e;absurd rfl (d1 _ _);e<-[(t b e').1];-e;absurd rfl d2;{_,z}||{_,ys,_,z}||{_,z,_}:=hO b;absurd (by assumption) (mP b xs e');{_,its,_,o',Y,_,n,hd'}:=(show aV P w H c.heap b (.tup ys) from R b _ z);Y<-[e];-Y;absurd hd' (d1 _ _);z<-[e'];-z);I:∀{b:To} {m:Tp->Option MD},c.heap.Ns b m->(hZ c.heap H0).Ns b m:=λ{b m} ⟨o,es,ep,e,d,r⟩=>{o,es,ep,f e (L _ (l e (λxs y z=>do z<-[d];-z) (λz=>do z<-[d];-z))),d,r};hKb:K.In (hZ c.heap H0):=λb o e=>f (KX b o e) (do(by cases q:H b with|none|some u=>?_);L b q;e'||e'||{xs,e'}:=hA b (do[q];0);!e';e<-[hK (do[q];0)];-e;e<-[kP b e'];-e;H0m b xs e');hBb:∀Q∈Ps,(hZ c.heap H0).BuiltinsAt mg Q:=λQ hQ=>(do _;{bm,ob,b1,b2,b3,b4,b5,b6,b7,b8}:=hbm Q hQ;{bm,ob,b1,b2,b3,b4,f b5 (L _ (l b5 (λxs y z=>do z<-[b8];-z) (λz=>do z<-[b8];-z))),b6,b7,b8});hM:Mod K mg (hZ c.heap H0):={hKb,I Z,{mb,I j,hbb},let⟨mc,h1,h2⟩:=hlim;{mc,I h1,h2}};hbs:∀b o,(hZ c.heap H0).get? b=!o->c.heap.get? b=!o/\(H b=none\/∃xs,H b=! (.tup xs)):=λb o e=>(do _;{h1,h2}:=OH e;{h1,?_};{G,z}||{_,xs,_,z}||{_,z,_}:=hO b;D:(if(M b).isSome=true then none else H b)=none:=h2;mb:M b=none:=(do(by cases q:M b with|none|some xs=>?_);2;absurd G (mP b xs q));D<-[mb,qB ⋯,z];-D;.inr {xs,z};D:(if(M b).isSome=true then none else H b)=none:=h2;D<-[z,qB ⋯];.inl D);e0:gP P w K mg (hZ c.heap H0) callerA [] c H:={O,hM,hbs,Nat.le_of_eq (PC _ _),trivial,λb j=>absurd (show b∈([]:List To) from j) (do 0),R,.of_eq hg};codeAny_mono ((F _ hKb (I Z) hBb).run callerA [] c H {[.ref a],[]} [.ref a] [.ref a] _ _ hr e0 (U c (.ref a)) (.cons rfl .nil) (hsp H hO hS)) λr s' h=>?_;(by cases r with|error e|ok fl=>?_);(hCX H e s' h).elim;(by cases fl with|next|brk|cont|ret u=>?_);False.elim h;False.elim h;False.elim h;{v,H',os,bare,un,J,r',q}:=h;q':v=.bl true:=q;!q';(by obtain rfl:u=Value.bool true:=r');{O,{λb o e=>?_,λb o e=>un.there b o e (do 0)},os,bare};{G,z}||{_,xs,_,z}||{_,_,z||{ob,xs,z}}:=hO b;{more,z2}:=un.dS b _ z;e2:s'.heap.get? b=some {cls:=.none,data:=.fields (#[]++more)}:=J b _ z2;e<-[(t b G).1];-e;.inr (.inl {(t b G).2,O,#[],more,O,e2});.inl (un.dM b o xs e z);.inl (un.keep b o e z (do(y);absurd (show b∈([]:List To) from y) (do 0)) (do 0));z2:=un.dU b ob _ z;{e1,_}:=R b _ z;{e2,_}:=J b _ z2;e1<-[e];-e1;.inl e2);B:∀i:Option HO,(∀u,i=!u->aV P w (λb=>if b∈Ps then some (.cF #[]) else match M b with|some xs=>! (.tup xs)|none=>if b=a then i else none) c.heap a u)-> dm P w (λb=>if b∈Ps then some (.cF #[]) else match M b with|some xs=>! (.tup xs)|none=>if b=a then i else none) c.heap:=λi T b u z=>(do j<|b∈Ps;z':=(qF j).symm.trans z;-z';(t b j).1;N:=(qB j).symm.trans z;(by cases E:M b with|some xs|none=>?_);N<-#[_,E];-N;{o,h1,h2,h3}:=S b xs E;Nt (KX b o h1) h2 h3;N<-#[_,E];g<|b=a;N<-[qF g];!g;T u N;N<-[qB g];-N);p:∀i:Option HO,(i=none\/∃o xs,i=!(.dA o (.lst xs)))->sI Ps M (λb=>if b∈Ps then some (.cF #[]) else match M b with|some xs=>! (.tup xs)|none=>if b=a then i else none):=λi T b=>(do j<|b∈Ps;.inl {j,qF j};(by cases E:M b with|some xs|none=>?_);.inr (.inl {j,xs,O,(qB j).trans (do#[_,E])});.inr (.inr {j,O,?_});g<|b=a;this:(if b∈Ps then some (.cF #[]) else match M b with|some xs=>! (.tup xs)|none=>if b=a then i else none)=i:=(qB j).trans (do#[_,E];[qF g]);z||{o,xs,z}:=T;.inl (this.trans z);.inr ⟨o,xs,this.trans z⟩;.inl ((qB j).trans (do#[_,E];[qB g])));A:∀i:Option HO,∀b,(if b∈Ps then some (.cF #[]) else match M b with|some xs=>! (.tup xs)|none=>if b=a then i else none)≠none->b=a\/b∈Ps\/∃xs,M b=!xs:=λi b z=>(do j<|b∈Ps;.inr (.inl j);(by cases E:M b with|some xs|none=>?_);.inr (.inr {xs,O});g<|b=a;.inl g;absurd ((qB j).trans (do#[_,E];[qB g])) z);C:∀i:Option HO,(if a∈Ps then some (.cF #[]) else match M a with|some xs=>! (.tup xs)|none=>if a=a then i else none)=i:=λi=>(qB naP).trans (do#[_,ma];qF trivial);(by cases hk:K.lookup a with|some o|none=>?_);e:=KX a o hk;e<-[X];-e;(RQ hnl hk).elim;core _ (p (!(.dA {cls:=.type "list",data:=.seq vs.toArray} (.lst (ns.map V.int)))) (.inr {_,_,O})) (.inr {{cls:=.type "list",data:=.seq vs.toArray},C _}) (B _ λu z=>do-z;{X,do[qh];hl,vs,_,rv,X}) (A _) λ_=>hk
def uR{l:PySem.W.OpenLaw}{n k:Nat}{q:Program}{p:List Tp}{XP:(Tp->Option MD)->Heap->Prop}{X:World->Heap->Prop}{d:DefRec}{K:Params->PySem.W.Frag}{CX:vE}{sp:Sp}{x:Tp}{Ps:List To}(ts:List Tp)(ms:List (To×List V))(tb:Tp->To)(hn:l.most=!n)(R:n<=sizeLine)(hdf:d.params.defaults=[])(hr:bG k callerA)(hY:∀(w:World) (h:Heap),X w h->(K w.params).In h)(L:∀(w:World) (h:Heap),X w h->∀Q∈Ps,h.get? Q=!(tabObj #[]))(hC:∀w:World,∀Q∈Ps,∃t∈ts,codeHdIn (K w.params) (Ng (K w.params) t) Q=true)(U:∀w:World,noTabs (K w.params)=true)(P:∀w:World,sP (K w.params)=true)(htb:∀w:World,∀t∈ts,mW (K w.params) t=tb t)(y:∀w:World,∀t∈ts,mW (K w.params) t∈Ps)(hms:∀w:World,(ms.all λc=>Ab (K w.params) c)=true)(Z:(ms.map (·.1)).Nodup)(F:∀(w:World) (mg:Tp->Option MD) (fa:To) (h:Heap),(K w.params).In h->h.Ns mainGlobals mg->mg d.name=some (.ref fa)-> ∃fd:FuncData,(∀(s:Tj) (u:MD),BindsTo s fd {[u],[]} [(x,u)]) ∧ ∀base:Heap,(K w.params).In base->base.Ns mainGlobals mg->(∀t∈ts,base.BuiltinsAt mg (mW (K w.params) t))->gG l.prog w (K w.params) mg base CX k fa fd [x] sp)(hsp:∀(H:Hp) (a:To) (ns:List Int),ns.length<=n->(∀t∈ts,H (tb t)=!(.cF #[]))->(∀c∈ms,H c.1=!(.tup c.2))->az H a (ns.map V.int)->sp [.ref a] H (λv _=>v=.bl true) λ_ _ _=>False)(S:∀(H:Hp) (s:Tj) (e:MD) (s':Tj),CX [] H s (λ_ _ _=>False) e s'->False) : PySem.W.WalkO q p XP X l.row.toRowW d [] (λf vs=>PySem.call f vs):=do Att.lO hn hdf λw s₀ m mg mb fa o pm cd doc a vs ns G Y ho hd hcd hmg C r j hg=>?_;I:=hY w _ Y;{fd,hb,hF}:=F w mg fa _ I G.T.g hmg;J:=L w _ Y;hbm:∀Q∈Ps,m.heap.BuiltinsAt mg Q:=λQ D=>(do _;{bm,ob,b1,b2,A,b4,b5,b6}:=G.T.bmain;{bm,ob,b1,b2,λq=>?_,λq=>?_,A,b4,b5,b6};{o,es,ep,e,hd,_}:=G.T.g;A<-[q,e];-A;b6<-[hd];-b6;A<-[q,J Q D];-A;-b4);(by let M:To->Option (List V):=λb=>(ms.find? λc=>decide (c.1=b)).map (·.2));N:∀b xs,M b=!xs->(b,xs)∈ms:=λb xs e=>(do _;{c,i,rfl}:=wb.mp e;h1:c.1=b:=(do 0<|List.find?_some i);[<-h1];j0 i);E:∀c∈ms,M c.1=!c.2:=λc i=>(do go:∀(l:List (To×List V)),(l.map (·.1)).Nodup->c∈l->(l.find? λd=>decide (d.1=c.1)).map (·.2)=!c.2:=λl=>(do(by induction l with|nil|cons d l ih=>?_);(_,z);-z;(nd,hm);nd<-[zm,zx];[ww];h<|d.1=c.1;[qH h];z||z:=qy.mp hm;[z];2;absurd (h▸qc.mpr {c,z,O}:d.1∈l.map (·.1)) nd.1;[decide_eq_false h];z||z:=qy.mp hm;absurd (do[z]) h;ih nd.2 z);go ms Z i);look:∀c∈ms,∃o,(K w.params).lookup c.1=!o/\fK o c.2=true/\c.2.length<=sizeLine:=λc i=>(do h:=ng.mp (hms w) c i;(by unfold Ab at h;cases q:(K w.params).lookup c.1 with|none|some o=>?_);h<-[q];absurd h qo;h<-[q];h:(fK o c.2&&Nat.ble c.2.length 1000)=true:=h;h<-[zn];{o,O,h.1,wu (cC (jz h.2))});OA (M:=M) I G.T.g G.T.b G.T.builtins G.T.nolimit hg (U w) (P w) (λQ D=>{J Q D,(((codeHd_of_K I (hC w Q D).choose_spec.2)).tab (J Q D)).isCodeTable}) hbm (λb xs e=>look _ (N b xs e)) C r (qf j R) hr (λbase h1 h2 h3=>hF base h1 h2 λt B=>h3 _ (y w t B)) hb (λH hO hS=>hsp H a ns j (λt B=>htb w t B▸?_) (λc i=>?_) hS) λH e s'=>S H m e s';z||z||z:=hO (mW (K w.params) t);z.2;absurd (y w t B) z.1;absurd (y w t B) z.1;z||{_,ys,hy,z}||{_,z,_}:=hO c.1;{o,h1,h2,_}:=look c i;e:=I _ _ h1;e<-[J _ z.1];-e;absurd h2 qo;hy<-[E c i];-hy;z;z<-[E c i];-z
def Cs(a cl:Nat)(q:Tp)(P:To)(i:Nat)(tb:TE)(t:TA):TE:=λσ H Q=>t σ H λvs H1=>Tb a cl q P H1/\∀H2,Tb a cl q P H2->ag (del H1 P) (del H2 P)->∃b,σ[i]?=!(!b)/\iz (λvs H Q _=>∃y,vs=[y]/\tb [!y,!b] H Q) vs H2 Q
section
variable {X:Cx}{k:Nat}
def Qw{p l kp pos:Pos}(E:X.env.code=.ref c)(hC:codeHdIn X.K c P=true)(hB:X.base.BuiltinsAt X.mg P)(hr:bG (k+2) X.A)(hg:Gl X x)(Z:X.mg x=none)(hv:bootBuiltins x=!(.builtin "sorted"))(S:oR y z b)(hN:X.N[i]?=!z)(hk:X.env.kindOf z=some .cell)(hX:∀x,X.env.kindOf x=some .cell->∃c,X.env.cells.lookup x=!c)(hcm:X.calm=true)(hfn:X.fn z=true)(G:∀cl pm cd R x,bindArgs (kla_fn "<lambda>" (X.env.qual++"<lambda>") d r b cl pm cd R) {[x],[]}=pure [(y,x)])(hb:∀cl f cd A outer s H,bG k (hP X.prog X.w X.K X.mg X.base y z (X.env.qual++"<lambda>") b cl f cd A outer s H).A->PE (hP X.prog X.w X.K X.mg X.base y z (X.env.qual++"<lambda>") b cl f cd A outer s H) r tb)(ha:PA X [e] t)(O:autoParam (defaultsOf d X.env=([],[])) z11)(hn:autoParam (x≠"__name__") z12)(hdb:autoParam ((x==("__debug__":Tp))=false) z12)(he:autoParam (starEach [e] X.env=(false,eval e X.env)::starEach [] X.env) z11):PE X (.Call (.Name x p) [e] [{!"key",.Lambda d r b l,kp}] pos) (Cs l.line l.col (X.env.qual++"<lambda>") P i tb t):=do _;{?_};(pins,s,σ,H,Q,I,h);{v,j}:=hX z hk;u:∀y∈b.names,y.2=.free->∃c,X.env.cells.lookup y.1=!c:=λn hn e=>(do[S.fr n hn e];{v,j});hcl:=Fm u;L:=wF u (acc:=[]) (λx c e=>do-e);m:∀n a,(kY X.env b.names []).lookup n=!a->n=z/\a=v:=λn a e=>(do q||q:=Eh e;M:n=z:=S.fr _ q rfl;this:=L n a e;this<-[M,j];{M,(qJ this).symm};-q);hzc:(kY X.env b.names []).lookup z=!v:=(do _;{T,J}:=wX (env:=X.env) (acc:=[]) (.inl (PySem.mem_of_lookup S.lz));[J,(m z T J).2]);wpAny_Call_Name_kw (iC I hg Z hv ?_ hn hdb);callWith_kw (bI (ha pos pins s σ H _ I h) λus s1 ⟨vs,H1,I1,V,hT,q1⟩=>kws_cons (Kw I1 E hC hB hT O hcl λf T R pm s2 H2 D Y hc2 sm hf nf of=>kws_nil ?_)) (do[he];2) (do[he];2);{vz,U,q2}:=q1 H2 Y sm;{m0,hn1,hl}:=D.loc;{uz,W,look}:=hl i z vz hN U (.inr (.inl hk));g:s2.heap.IsCell v (!uz):=(do _;{kk,_}||{_,c2,C,g}:=look;kk<-[hk];-kk;C<-[j];-C;g);B:=D.dC z v j;mC:v∉dY X.stack:=D.ig (D.xA z v j) (λZ=>do _;{_,o,ho,_}:=D.ok.d9.mem Z;absurd (zf (qG ho) (D.ok.zC z v hfn j)) (wk _));Jk (λs' Hm x y Q e0 un same V F=>?_) (do this:=hr.un;()) D V q2;{y',hy,F}:=F;-hy;hcr:s'.heap.CodeRec (.ref T) (X.env.qual++"<lambda>"):=(e0.aZ T _ (same _ _ hc2)).1;{oc,ec,dc}:=g;JT hr.NT e0 (un.keep f _ of hf nf (do 0)) hcr S (G _ _ _ _ _) V m hzc {oc,un.keep v _ ec B mC (do 0),dc} (un.free v _ ec B (do 0)) W (hb _ _ _ _ _ _ _ (hr.NT.deeper _)) F
end
abbrev TJ:=St->Hp->Tp->(Tp->Hp->Prop)->Prop
def PJ(X:Cx)(es:List Expr)(a:TJ):Prop:=∀pins s σ H acc R,Inv X pins σ H s->a σ H acc R-> Joins 48 X.A X.xe (evalEach es X.env) acc (λout b=>∃H1,Inv X pins σ H1 b/\R out H1) s
def KP:TJ:=λ_ H acc R=>R acc H
def Dd(te:TE)(a:TJ):TJ:=λσ H acc R=>te σ H λx H1=>∃z,x=.str z/\(acc++z).length<=16777216/\a σ H1 (acc++z) R
inductive Rp(Q:VK)(x:V)(H1:Hp):Prop
 |mk(z:_)(_:x=.str z)(_:z.length<=16777216)(_:Q (.str z) H1)
def Tf(te:TE):TE:=λσ H Q=>te σ H λx H1=>Rp Q x H1
def Oo(a:TJ):TE:=λσ H Q=>a σ H Str.empty λout H1=>out.length<=16777216/\Q (.str out) H1
section
variable {X:Cx}
def DU:PJ X [] KP:=λpins s σ H acc R I h=>{H,I,h}
def Ct(f:PE X e te)(g:PJ X es a):PJ X (e::es) (Dd te a):=do(pins,s,σ,H,acc,R,I,h);qM (f pins s σ H _ I h) (λv d ⟨x,H1,c,b,i⟩=>?_) λ_ _ e=>e;{z,rfl,hz,q}:=i;{t,rfl}:=b;{z,t,O,do[sizeLine_eq];hz,g pins d σ H1 _ R c q}
def GN(c:PE X e te):PE X (.FormattedValue e (-1) none pos) (Tf te):=do _;{?_};(pins,s,σ,H,Q,I,h);wpAny_FormattedValue_plain (qM (c pins s σ H _ I h) (λv f ⟨x,H1,a,b,d⟩=>?_) λ_ _ e=>e);{z,rfl,hz,q}:=d;{t,rfl}:=b;wpAny_formatField_str {.str z,H1,a,{_,O},q} {.str z,H1,a.tok _,{_,O},q} (do[sizeLine_eq];hz)
def DL(i:PJ X (c::b::es) a):PE X (.JoinedStr (c::b::es) pos) (Oo a):=do _;{?_};(pins,s,σ,H,Q,I,h);wpAny_JoinedStr ?_;this:=i pins s σ H _ _ I h;(?_:∀(ps:List (Sem MD)) acc s,Joins 48 X.A X.xe ps acc _ s->Joins 48 X.A X.xe ps acc _ s) _ _ _ this;(ps);(by induction ps with|nil|cons p ps f=>?_);(acc,s,{H1,d,hz,q});{do[sizeLine_eq];hz,.str acc,H1,d.tok _,{_,O},q};(acc,s,h);qM h (λv j h1=>?_) λ_ _ e=>e;{y,t,rfl,hz,g}:=h1;{y,t,O,hz,f _ _ g}
end
section
variable {prog:Program}{w:World}{A:Around}{E:KE}{s:Tj}
def M9(a v:MD):checkTypeCall "enumerate" {pos:=[a],kw:=[("start",v)]}=pure Unit.unit:=by first|rfl|kernel_rfl
def NJ(a v:MD):checkBuiltinCall "enumerate.__new__" {pos:=[.type "enumerate",a],kw:=[("start",v)]}=pure Unit.unit:=by first|rfl|kernel_rfl
def FI{α:Type}{M:Model}{c:Bool}{a b:Sem α}{Q:α->Tj->Prop}(h1:wpAny M A a Q E s)(h2:wpAny M A b Q E s):wpAny M A (if c=true then a else b) Q E s:=do-c;h2;h1
def Pp(a x v:MD):argsOk "object.__init__" {pos:=[a,x],kw:=[("start",v)]}:=do@argsOk;[signature?_of (id:="object.__init__") (n:=['_','_','t','i','n','i','_','_']) (o:=['t','c','e','j','b','o']) (by kernel_rfl) F.owner_object];by kernel_rfl
def Ol(c:s.TypeIs (.ref a) "enumerate")(h:Q Unit.unit s):wpAny 66 A (checkBuiltinCall "object.__init__" {pos:=[.ref a,x],kw:=[("start",v)]}) Q E s:=do@checkBuiltinCall;[show builtinKind "object.__init__"=some .slot from by kernel_rfl,show splitId "object.__init__"=some ("object","__init__") from ∅];(by dsimp only);qA (wpAny_isInstance (T:="enumerate") (b:=true) c (by rw[isSubtype_type];kernel_rfl) ?_);[qB ⋯];wpAny_of_eq (Pp _ _ _) h
def Rr(a:MD)(kw:List (Tp×MD)):Builtin.SmallTypes.newClass "enumerate" {pos:=[.type "enumerate",a],kw:=kw}=pure (.type "enumerate",[a]):=by first|rfl|kernel_rfl
def Pu(p:s.heap.IsList l items)(q:∀h',IsEnum h' (↑s+1) ↑s 1 .none->h'.IsListIter ↑s l 0->h'.objs.size=↑s+2->(∀b o,s.heap.get? b=!o->h'.get? b=!o)->Q (.ref (↑s+1)) {s with heap:=h'}) : wpAny 66 A (call (.type "enumerate") [.ref l] [("start",.int 1 tk)]) Q E s:=do d:=F.called_enumerate;{c,tl,g}:=d.mro;wpAny_call (codeAny_of_tree ?_);¬wpAny _ _ (pure _) _ _ s;qE {Code.quiet_builtin _ ∅,codeAny_builtin F.entry_type_call ?_};[Around.under_plain (weight_type_call_type _ _ _) rfl];@Builtin.«type.__call__»;(by dsimp only);[qB (do[d.notType];qo)];[qB (do[d.canCreate];qo)];qA (wpAny_of_eq (M9 _ _) ?_);qA (wpAny_of_eq g ?_);[qB (do qo)];qA (wpAny_of_eq d.made ?_);qA (qE (qA (qK (wpAny_call ?_))));codeAny_call_builtin d.plain F.entry_enumerate_new (wpAny_of_eq (NJ _ _) ?_);¬wpAny _ A.in1.in1 (Builtin.«enumerate.__new__» {pos:=[Value.type "enumerate",Value.ref l],kw:=[("start",Value.int 1 tk)]}) _ _ s;@Builtin.«enumerate.__new__»;qA (wpAny_of_eq (Rr _ _) ?_);(by dsimp only);[qF ⋯];qA ?_;@Builtin.SmallTypes.calledThroughType;qA (wpAny_stack λst _ _ _=>qE ?_);m:∀b o,s.heap.get? b=!o->((s.heap.push {cls:=.type "list_iterator",data:=.fields #[.ref l,.int 0 0]}).push {cls:=.type "enumerate",data:=.fields #[.none,.bool false,.ref ↑s,rawInt 1,.none,.none]}).get? b=!o:=λb o e=>qI _ (qI _ e);i:(s.heap.push {cls:=.type "list_iterator",data:=.fields #[.ref l,.int 0 0]}).objs.size=↑s+1:=size_push' _ _;j:((s.heap.push {cls:=.type "list_iterator",data:=.fields #[.ref l,.int 0 0]}).push {cls:=.type "enumerate",data:=.fields #[.none,.bool false,.ref ↑s,rawInt 1,.none,.none]}).get? (↑s+1)=some {cls:=.type "enumerate",data:=.fields #[.none,.bool false,.ref ↑s,rawInt 1,.none,.none]}:=(do[<-i];qL _ rfl);k:((s.heap.push {cls:=.type "list_iterator",data:=.fields #[.ref l,.int 0 0]}).push {cls:=.type "enumerate",data:=.fields #[.none,.bool false,.ref ↑s,rawInt 1,.none,.none]}).IsListIter ↑s l 0:={_,qI _ (qL _ rfl),O,O};n:((s.heap.push {cls:=.type "list_iterator",data:=.fields #[.ref l,.int 0 0]}).push {cls:=.type "enumerate",data:=.fields #[.none,.bool false,.ref ↑s,rawInt 1,.none,.none]}).objs.size=↑s+2:=(do[size_push',i]);f:=q _ j k n m;FI ?_ ?_;by all_goals(refine qA (wpAny_of_eq (a:=(Value.ref l,!(Value.int 1 tk))) (by first|rfl|kernel_rfl) ?_);dsimp only;refine qA (wpAny_of_eq (a:=Value.int 1 tk) (do 2) ?_);refine qA (wpAny_of_eq (a:=some 1) (do 2) ?_);dsimp only;rw[qB ⋯];refine qA (wpAny_pyIter_list p ?_);refine qA ?_;show wpAny _ _ (newObj (Value.type "enumerate") (Data.fields #[.none,.bool false,.ref ↑s,rawInt 1,.none,.none])) _ _ _;refine wpAny_newObj_type (qE ?_);show wpAny _ A.in1 _ _ _ {s with heap:=(s.heap.push {cls:=.type "list_iterator",data:=.fields #[.ref l,.int 0 0]}).push {cls:=.type "enumerate",data:=.fields #[.none,.bool false,.ref ↑s,rawInt 1,.none,.none]}};rw[i];generalize (s.heap.push {cls:=.type "list_iterator",data:=.fields #[.ref l,.int 0 0]}).push {cls:=.type "enumerate",data:=.fields #[.none,.bool false,.ref ↑s,rawInt 1,.none,.none]}=h2 at j f;have h:Shared.TypeIs {s with heap:=h2} (.ref (↑s+1)) "enumerate":={_,j,O};refine qA (wpAny_isInstance h sub_enumerate ?_);rw[qB ⋯];refine qA (qK (wpAny_callSpecial?_slot h d.init ?_));refine wpAny_call (codeAny_call_builtin ∅ F.entry_object_init (Ol h ?_));refine qA (wpAny_typeOf h ?_);refine qA (wpAny_of_eq d.init.lookup ?_);refine qA (wpAny_of_eq d.made ?_);rw[qB ∅,qB ∅];exact qE (qE f))
def jC(a:s.heap.get? e=some {cls:=c,data:=.fields vs})(d:k<vs.size)(g:∀h',h'.get? e=some {cls:=c,data:=.fields (vs.setIfInBounds k x)}->(∀b,b≠e->h'.get? b=s.heap.get? b)->h'.objs.size=↑s->Q Unit.unit {s with heap:=h'}):wpAny M A (setField (.ref e) k x) Q E s:=do wpAny_setField a rfl d (g _ ?_ (λb f=>Heap.get?_update_other _ _ f.symm) (Heap.size_update ..));Heap.get?_update_self _ a rfl
def Mt(h:Heap)(e it:To)(i:Nat):Prop:=∃b c old,h.get? e=some {cls:=.type "enumerate",data:=.fields #[b,.bool c,.ref it,rawInt ((i:Int)+1),.none,old]}/\(b=.none\/∃(a:Nat) (o:Obj),b=rawInt (a:Int)/\h.get? a=!o)
def JH(hh:A.handled=none)(S:s.heap.IsList l items)(p:s.heap.IsListIter it l i)(Z:Mt s.heap e it i)(B:e≠it)(n2:l≠e)(n3:l≠it)(hi:i<=items.size)(h1:∀x h' tk,items[i]?=!x->Mt h' e it (i+1)->h'.IsListIter it l (i+1)->h'.get? ↑s=some {cls:=.type "tuple",data:=.seq #[.int ((i:Int)+1) tk,x]}->(∀b o,b≠e->b≠it->s.heap.get? b=!o->h'.get? b=!o)->Q (! (.ref ↑s)) {s with heap:=h',toks:=tk+1})(h2:i=items.size->∀h',Heap.ExtBut it s.heap h'->Q none {s with heap:=h'}):wpAny 66 A (pyNext (.ref e)) Q E s:=do _;{U,P,old,z,hf}:=Z;R:s.TypeIs (.ref e) "enumerate":={_,z,O};D:=Draws.list (prog:=prog) (w:=w) (A:=A.in1) hh it l n3 items;@pyNext;qA (wpAny_attempt (wpAny_callSpecial?_slot (name:=Str.ofString "__next__") R F.slot_enumerate_next (qO F.slot_enumerate_next R F.entry_enumerate_next ?_ (F.args_enumerate_next_1 _))));@Builtin.«enumerate.__next__»;qA (wpAny_of_eq (a:=(Value.ref e,[])) rfl ?_);qA (wpAny_field z rfl (x:=.ref it) rfl ?_);L<|i<items.size;qA (D.item i s _ _ L {p,S} λx d tk N st C=>?_);j:d.get? e=some {cls:=.type "enumerate",data:=.fields #[U,.bool P,.ref it,rawInt ((i:Int)+1),.none,old]}:=(C.2 e B).trans z;qA (wpAny_field (s:={s with heap:=d,toks:=tk}) j rfl (x:=rawInt ((i:Int)+1)) rfl ?_);qA (wpAny_field (s:={s with heap:=d,toks:=tk}) j rfl (x:=.none) rfl ?_);(by dsimp only);[qF ⋯];qA (wpAny_mkInt ?_);qA (jC (s:={s with heap:=d,toks:=tk+1}) j (do 0) λg1 o1 k1 Y=>?_);qA (jC (s:={s with heap:=g1,toks:=tk+1}) o1 (do 0) λh o2 k2 z2=>?_);qA (wpAny_newTuple (s:={s with heap:=h,toks:=tk+1}) ?_);hz:h.objs.size=↑s:=z2.trans (Y.trans C.1);t:(h.push {cls:=.type "tuple",data:=.seq #[.int ((i:Int)+1) tk,x]}).get? ↑s=some {cls:=.type "tuple",data:=.seq #[.int ((i:Int)+1) tk,x]}:=(do[<-hz];qL _ rfl);f:=qI {cls:=.type "tuple",data:=.seq #[.int ((i:Int)+1) tk,x]} o2;v:∀b u,b≠e->d.get? b=!u->(h.push {cls:=.type "tuple",data:=.seq #[.int ((i:Int)+1) tk,x]}).get? b=!u:=λb u X q=>qI _ (((k2 b X).trans (k1 b X)).trans q);¬wpAny _ _ _ _ _ {s with heap:=h.push {cls:=.type "tuple",data:=.seq #[.int ((i:Int)+1) tk,x]},toks:=tk+1};[show Value.ref h.objs.size=Value.ref ↑s by rw[hz]];(by generalize h.push {cls:=.type "tuple",data:=.seq #[.int ((i:Int)+1) tk,x]}=g3 at t f v);m:↑s≠e:=zo (qG z);k:∀c:Heap,(∀b u,b≠e->g3.get? b=!u->c.get? b=!u)->c.IsListIter it l (i+1):=λc q=>(do _;{V,J,ci,di}:=st.1;{V,q _ _ (Ne.symm B) (v _ _ (Ne.symm B) J),ci,di});ks:∀c:Heap,(∀b u,b≠e->g3.get? b=!u->c.get? b=!u)->∀b o,b≠e->b≠it->s.heap.get? b=!o->c.get? b=!o:=λc q b o g H M=>q b o g (v b o g ((C.2 b H).trans M));qA ?_;@Builtin.SmallTypes.ownedTupleIsFree;qA (wpAny_field (s:={s with heap:=g3,toks:=tk+1}) f rfl (x:=U) rfl ?_);rfl||{a,o,rfl,ea}:=hf;qE ?_;[qF rfl];qA (wpAny_rule (qA (wpAny_field (s:={s with heap:=g3,toks:=tk+1}) f rfl (x:=old) rfl ?_)));qA (jC (s:={s with heap:=g3,toks:=tk+1}) f (do 0) λc G K _=>?_);qA (qA (jC (s:={s with heap:=c,toks:=tk+1}) G (do 0) λg5 o5 k5 _=>?_));jC (s:={s with heap:=g5,toks:=tk+1}) o5 (do 0) λW o6 k6 _=>?_;qA (wpAny_letGo (qE {_,O,qE ?_}));y:∀b u,b≠e->g3.get? b=!u->W.get? b=!u:=λb u r q=>((k6 b r).trans ((k5 b r).trans (K b r))).trans q;h1 x W tk N {_,_,_,o6,.inr {_,_,O,y _ _ m t}} (k _ y) (y _ _ m t) (ks _ y);{o',n}:∃o',g3.get? a=!o':=(do g<|a=e;[g];{_,f};H<|a=it;{V,J,_}:=st.1;[H];{_,v _ _ (Ne.symm B) J};{_,v _ _ g ((C.2 _ H).trans ea)});qA (kdx_alive (s:={s with heap:=g3,toks:=tk+1}) (a:=((a:Int)).toNat) n ?_);[qB (do 0)];qA (wpAny_field (s:={s with heap:=g3,toks:=tk+1}) f rfl (x:=.bool P) rfl ?_);(by dsimp only);-P;[qF ⋯];qA (jC (s:={s with heap:=g3,toks:=tk+1}) f (do 0) λc G K _=>qE ?_);[qB ⋯];I:∀b u,b≠e->g3.get? b=!u->c.get? b=!u:=λb u r q=>(K b r).trans q;qE {_,O,qE (h1 x c tk N {_,_,_,G,.inr {a,?_}} (k _ I) (I _ _ m t) (ks _ I))};g<|a=e;[g];{_,O,G};{_,O,I _ _ g n};[qB ⋯];qE ?_;[qB ⋯];qE {_,O,qE (h1 x g3 tk N {_,_,_,f,.inr {a,_,O,n}} (k _ λ_ _ _ q=>q) t (ks _ λ_ _ _ q=>q))};hn:i=items.size:=();!hn;qA (D.done s _ _ {p,S} λh' x eb ⟨o,M,ec⟩=>?_);(by dsimp only);qA (wpAny_isInstance (T:="StopIteration") (b:=true) {o,M,ec} isSubtype_stop ?_);qE (h2 rfl h' eb)
end
section
variable {X:Cx}{pins:List (To×Obj)}{σ:St}
def mT(H:Hp)(xs zs:List V):Prop:=∀(j:Nat) z,zs[j]?=!z->∃T x,xs[j]?=!x/\z=.ref T/\H T=!(.tup [.int ((j:Int)+1),x])
def mT.mono(h:mT H xs zs)(s:ag H H'):mT H' xs zs:=λj z e=>let⟨T,x,h1,h2,a⟩:=h j z e;{T,x,h1,h2,s _ _ a}
def Rf{e it S l:To}(hh:A.in1.handled=none)(n1:e≠it)(n2:l≠e)(n3:l≠it)(n4:S≠e)(Y:S≠it)(n6:l≠S) : ∀(k i:Nat) (s:Tj) (H:Hp) (zs:List V) (acc:Array MD) (c:Nat),xs.length - i=k->i<=xs.length->Inv X pins σ H s->az H l xs->Mt s.heap e it i->s.heap.IsListIter it l i->(∀b∈[e,it,S],eV X pins H b)-> s.heap.get? S=!(seqObj "list" acc c)->aK zs acc.toList->zs.length=i->mT H xs zs-> (∀s' H' g f c',Inv X pins σ H' s'->ag H H'->H' S=none->s'.heap.get? S=!(seqObj "list" f c')->aK g f.toList->g.length=xs.length->mT H' xs g->R (.ok (.ret D)) s')-> codeAny 48 A (.builtin "list.extend.loop" {[.ref S,.ref e,D],[]}) R s:=do(k);(by induction k with|zero|succ k ih=>?_);(i,s,H,zs,acc,c,hk,hi,I,M,K,m,t,N,L,hz,hp,T);{its,P,W,_}:=I.list M;hl:=P.length;codeAny_builtin F.entry_extend_loop ?_;[Around.under_plainId F.plain_extend_loop _];¬wpAny _ A.in1 (pyNext (.ref e) >>= _) _ _ s;qA (JH hh W.isList m K n1 n2 n3 (do[ze];()) (λx _ _ Z=>?_) λ_ h' eb=>?_);this:=(m9.mp Z).1;this<-[ze];();qE (T {s with heap:=h'} H zs acc c (I.c_ (t':=s.toks) (ch:=[it]) (λb d=>t b (do[List.mem_singleton.mp d];0)) λb o d n=>eb b o (λz=>d (do#[z])) n) (ag.refl _) (t S (do 0)).1 (eb _ _ Y N) L () hp);(i,s,H,zs,acc,c,hk,hi,I,M,K,m,t,N,L,hz,hp,T);{its,P,W,zl}:=I.list M;hl:=P.length;za:acc.size=i:=(do e1:=aK.length L;e2:acc.toList.length=acc.size:=zk;());codeAny_builtin F.entry_extend_loop ?_;[Around.under_plainId F.plain_extend_loop _];¬wpAny _ A.in1 (pyNext (.ref e) >>= _) _ _ s;qA (JH hh W.isList m K n1 n2 n3 (do[ze];()) (λu h' tk Z U y hT kp=>?_) λhn=>?_);hu:its[i]?=!u:=(do 0<|Z);{x,ex,ru}:∃x,xs[i]?=!x/\RelV x u:=(do G:i<xs.length:=();{u',e',r'}:=P.get (qe G);e'<-[hu];-e';{_,qe G,r'});C:=I.aZ.fresh (a:=↑s) (qb _);ob:∀b∈[e,it,S],b<↑s:=λb d=>(do(by ac_nf at d);rfl||rfl||rfl:=d;{_,_,_,q,_}:=K;qG q;{_,q,_}:=m;qG q;qG N);I1:Inv X pins σ H {s with heap:=h',toks:=tk+1}:=I.c_ (t':=tk+1) (ch:=[e,it]) (λb d=>t b (by simp only[List.mem_cons,List.not_mem_nil,or_false]at d ⊢;rcases d with h|h <;> simp[h])) λb o d n=>kp b o (λz=>d (do#[z])) (λz=>d (do#[z])) n;I2:=I.fW I1 (qb _) C (o:=.tup [.int ((i:Int)+1),x]) {do¬2<=sizeLine;by decide,[.int ((i:Int)+1) tk,u],.cons {tk,O} (.cons ru .nil),{_,hT,O,_,O}};s2:ag H (upd H ↑s (.tup [.int ((i:Int)+1),x])):=ag.new C;p:∀b∈[e,it,S],eV X pins (upd H ↑s (.tup [.int ((i:Int)+1),x])) b:=λb d=>{do[aB (qi (ob b d))];(t b d).1,(t b d).2};eT:(upd H ↑s (.tup [.int ((i:Int)+1),x])) ↑s=!(.tup [.int ((i:Int)+1),x]):=aE;J:h'.get? S=!(seqObj "list" acc c):=kp _ _ n4 Y N;(by generalize upd H ↑s (.tup [.int ((i:Int)+1),x])=H2 at I2 s2 p eT);¬wpAny _ A.in1 (Builtin.List.listUpdate (.ref S) (λa=>a.push (.ref ↑s)) >>= _) _ _ _;qA (listUpdate_at (s:={s with heap:=h',toks:=tk+1}) J rfl ?_ () (do[Array.size_push];()));{c1,r}:∃c1,(h'.update S (Obj.mapSeq (·.push (Value.ref ↑s)))).get? S=!(seqObj "list" (acc.push (.ref ↑s)) c1):={_,get?_update_seq J _};E:∀b o,b≠S->h'.get? b=!o->(h'.update S (Obj.mapSeq (·.push (Value.ref ↑s)))).get? b=!o:=λb o d n=>(Heap.get?_update_other _ _ (λz=>d z.symm)).trans n;¬wpAny _ _ _ _ _ {s with heap:=h'.update S (Obj.mapSeq (·.push (Value.ref ↑s))),toks:=tk+1};(by generalize h'.update S (Obj.mapSeq (·.push (Value.ref ↑s)))=h2 at r E);I3:Inv X pins σ H2 {s with heap:=h2,toks:=tk+1}:=I2.c_ (s:={s with heap:=h',toks:=tk+1}) (t':=tk+1) (ch:=[S]) (λb d=>p b (do[List.mem_singleton.mp d];0)) λb o d n=>E b o (λz=>d (do#[z])) n;qE {plainId_quiet F.plain_extend_loop _,ih (i+1) _ H2 (zs++[.ref ↑s]) _ c1 () () I3 (M.same s2) ?_ ?_ p r ?_ (do[qg,hz];2) ?_ λs' H' g f c' a1 a2 a3 a4 a5 a6 a7=>T s' H' g f c' a1 (s2.trans a2) a3 a4 a5 a6 a7};{f0,f1,old,Q,B}:=U;{f0,f1,old,E _ _ (Ne.symm n4) Q,?_};B||{a,o,q3,q4}:=B;.inl B;z<|a=S;q3<-[z];.inr {S,_,q3,r};.inr {a,o,q3,E _ _ z q4};{o,Q,B}:=y;{o,E _ _ (Ne.symm Y) Q,B};[Array.toList_push];aK.append L (.cons rfl .nil);(j,z,v);hj<|j<zs.length;v<-[zu hj];hp.mono s2 j z v;hj':j=zs.length:=(do this:=(qp.mp v).1;this<-[qg,qr];());!hj';v<-[ye (qb _),j3];-v;{_,x,do[hz];ex,O,do[hz];eT};hn<-[ze];()
def P_(hh:A.handled=none)(I:Inv X pins σ H s)(D:az H l xs)(n1:e≠it)(T:l≠e)(n3:l≠it)(U:Mt s.heap e it 0)(B:s.heap.IsListIter it l 0)(N:∀b∈[e,it],eV X pins H b)(hQ:∀s' H' zs p,Inv X pins σ H' s'->H p=none->ag H H'->H' p=! (.lst zs)->zs.length=xs.length->mT H' xs zs->Q (.ref p) s') : wpAny 48 A (call (.type "list") [.ref e]) Q E s:=do _;{f0,f1,old,y,G}:=id U;callType_codes (Q₁:=λobj f=>obj=.ref ↑s/\f={s with heap:=s.heap.push {cls:=.type "list",data:=.seq #[]}}) F.called_list (F.typeCall_list_1 _) F.entry_list_init (code_list_new _ {O,O}) λobj f h₁=>?_;{rfl,rfl}:=h₁;m:(s.heap.push {cls:=.type "list",data:=.seq #[]}).get? ↑s=some {cls:=.type "list",data:=.seq #[]}:=qL _ rfl;{{_,m,O},F.args_list_init_2 _ _,?_};n:e<↑s:=qG y;(by generalize v:s.heap.push {cls:=.type "list",data:=.seq #[]}=h1 at m);Y:∀b o,s.heap.get? b=!o->h1.get? b=!o:=λb o e=>(do[<-v];qI _ e);¬wpAny _ A.in1.in1 (do{let old <-Builtin.List.listItems (.ref ↑s);Builtin.List.listUpdate (.ref ↑s) (λ_=>#[]);letGo old.toList.reverse;Builtin.List.listExtendWith (.ref ↑s) (.ref e) .none}) _ _ {s with heap:=h1};qA ?_;@Builtin.List.listItems;qA (wpAny_seqItems (s:={s with heap:=h1}) m rfl (qE ?_));¬wpAny _ A.in1.in1 (updateSeq ↑s (λ_=>#[]) >>= λ_=>letGo (#[]:Array MD).toList.reverse >>= λ_=>Builtin.List.listExtendWith (.ref ↑s) (.ref e) .none) _ _ {s with heap:=h1};qA (wpAny_updateSeq (s:={s with heap:=h1}) m rfl ?_);i:=Heap.get?_update_self (Obj.mapSeq (λ_=>(#[]:Array MD))) m rfl;J:∀b o,s.heap.get? b=!o->(h1.update ↑s (Obj.mapSeq (λ_=>(#[]:Array MD)))).get? b=some o:=λb o e=>(Heap.get?_update_other _ _ (zo (qG e))).trans (Y b o e);¬wpAny _ _ _ _ _ {s with heap:=h1.update ↑s (Obj.mapSeq (λ_=>(#[]:Array MD)))};(by generalize h1.update ↑s (Obj.mapSeq (λ_=>(#[]:Array MD)))=h2 at i J);qA (wpAny_letGo ?_);d:Shared.TypeIs {s with heap:=h2} (.ref e) "enumerate":={_,J _ _ y,O};e1:Builtin.List.listSameRef (.ref ↑s) (.ref e)=false:=(do¬(↑s==e)=false;beq_eq_false_iff_ne.mpr (zo n));@Builtin.List.listExtendWith;qA (wpAny_typeOf d ?_);[qB (by rw[e1];decide)];qA (wpAny_pyIter_slot d F.slot_enumerate_iter (qO F.slot_enumerate_iter d F.entry_enumerate_iter ?_ (F.args_enumerate_iter_1 _)));¬wpAny _ _ (ret (.ref _)) _ _ {s with heap:=h2};qE {_,O,"enumerate",_,d,F.slot_enumerate_next.lookup,?_};qA (qK ?_);@Builtin.List.listLengthHint;qA (wpAny_specialOf (name:=Str.ofString "__len__") d (r:=none) (by rw[typeLookup_type,builtinLookup_eq_fast];kernel_rfl) ?_);(by dsimp only);[qB ⋯,qB ⋯];qA (wpAny_specialOf (name:=Str.ofString "__length_hint__") d (r:=none) (by rw[typeLookup_type,builtinLookup_eq_fast];kernel_rfl) (qE ?_));[qF (do 2)];qA (wpAny_rule (qA ?_));@Builtin.List.listTouch;qA (listUpdate_at (s:={s with heap:=h2}) i rfl ?_);{P,g}:∃P,(h2.update ↑s (Obj.mapSeq (·.push Value.none))).get? ↑s=!(seqObj "list" #[Value.none] P):={_,get?_update_seq i _};L:∀b o,b≠↑s->h2.get? b=!o->(h2.update ↑s (Obj.mapSeq (·.push Value.none))).get? b=!o:=λb o u e=>(Heap.get?_update_other _ _ (λz=>u z.symm)).trans e;¬wpAny _ _ _ _ _ {s with heap:=h2.update ↑s (Obj.mapSeq (·.push Value.none))};(by generalize h2.update ↑s (Obj.mapSeq (·.push Value.none))=h4 at g L);listUpdate_at (s:={s with heap:=h4}) g rfl ?_;{C,k}:∃C,(h4.update ↑s (Obj.mapSeq (·.pop))).get? ↑s=!(seqObj "list" #[] C):={_,get?_update_seq g _};t:∀b o,s.heap.get? b=!o->(h4.update ↑s (Obj.mapSeq (·.pop))).get? b=!o:=λb o e=>(Heap.get?_update_other _ _ (zo (qG e))).trans (L b o (qi (qG e)) (J b o e));¬wpAny _ _ _ _ _ {s with heap:=h4.update ↑s (Obj.mapSeq (·.pop))};(by generalize h4.update ↑s (Obj.mapSeq (·.pop))=h5 at k t);¬wpAny _ _ (again (Code.builtin "list.extend.loop" {[Value.ref ↑s,Value.ref e,Value.none],[]})) _ _ _;hn:=I.aZ.fresh (a:=↑s) (qb _);I5:Inv X pins σ H {s with heap:=h5}:=I.kept (t':=s.toks) t;{oi,K,ci,Z}:=id B;x:l<↑s:=(do _;{_,_,pl,_}:=I.list D;{_,q,_}:=pl.isList;qG q);qE {plainId_quiet F.plain_extend_loop _,Rf (A:=A.in1) (X:=X) (pins:=pins) (σ:=σ) hh n1 T n3 (Nat.ne_of_gt n) (Nat.ne_of_gt (qG K)) (Nat.ne_of_lt x) xs.length 0 {s with heap:=h5} H [] #[] C (Nat.sub_zero _) (Nat.zero_le _) I5 D {f0,f1,old,t _ _ y,?_} {oi,t _ _ K,ci,Z} (λb u=>?_) k .nil rfl (λj z W=>do W<-0) λs' H' zs acc c a1 a2 R S a5 a6 a7=>{O,?_}};h||{a,o,h,q}:=G;.inl h;.inr ⟨a,o,h,t _ _ q⟩;(by ac_nf at u);rfl||rfl||rfl:=u;N _ (do 0);N _ (do 0);I.lM (qb _) hn;zl:xs.length<=sizeLine:=(do _;{_,_,_,z}:=I.list D;z);M:ag H' (upd H' ↑s (.lst zs)):=ag.new R;hQ s' (upd H' ↑s (.lst zs)) zs _ (I.fW a1 (Nat.le_refl _) R {do¬zs.length<=sizeLine;(),acc.toList,c,a5,do 0<|S}) hn (a2.trans M) aE a6 (a7.mono M)
end
def QL(h1:(b.any λx=>x.fst)=false)(h2:(d.any λx=>x.fst.isNone)=false)(h:wpAny M A (evalArgs (.type T) true b d) (λa c=>wpAny M A (call (.type T) a.pos a.kw) Q E c) E s):wpAny M A (callWith pos (.type T) [] b d) Q E s:=do@callWith;qA (qK (qM h (λa c h₁=>?_) λ_ _ e=>e));qA (wpAny_standAt ?_);#[_,h1,h2,Bool.or_false];qA (wpAny_of_eq (a:=Keeper.machine) (by first|rfl|kernel_rfl) ?_);(by dsimp only);qA (qM h₁ (λv s2 q=>?_) λ_ _ e=>e);qA (qK (wpAny_point (qE q)))
inductive xb(Q:VK)(x:V)(H1:Hp):Prop
 |mk(a xs:_)(_:x=.ref a)(_:az H1 a xs)(_:∀p H' zs,H1 p=none->ag H1 H'->H' p=! (.lst zs)->zs.length=xs.length->mT H' xs zs->Q (.ref p) H')
def El(tl:TE):TE:=λσ H Q=>tl σ H λx H1=>xb Q x H1
section
variable {X:Cx}
def N_{tl:TE}{p n p2 kp cpos pos:Pos}(K:X.calm=true)(k:Gl X "list")(r:X.mg "list"=none)(m:Gl X "enumerate")(t:X.mg "enumerate"=none)(D:PE X l tl)(u:autoParam (starEach [l] X.env=[(false,eval l X.env)]) z11)(f:autoParam (starEach [.Call (.Name "enumerate" n) [l] [{!"start",.Constant (.int 1) j p2,kp}] cpos] X.env=[(false,eval (.Call (.Name "enumerate" n) [l] [{!"start",.Constant (.int 1) j p2,kp}] cpos) X.env)]) z11) : PE X (.Call (.Name "list" p) [.Call (.Name "enumerate" n) [l] [{!"start",.Constant (.int 1) j p2,kp}] cpos] [] pos) (El tl):=do _;{?_};(pins,s,σ,H,Q,I,h);wpAny_Call_Name_kw (iC I k r boot_list ?_ ⋯ ⋯);PyProof.Rows.callWith_type1 ?_ f rfl;[f];Calls.spliced_cons ?_;wpAny_Call_Name_kw (iC I m t boot_enumerate ?_ ⋯ ⋯);QL (do[u];2) rfl ?_;[u];evalArgs_kwB rfl (Calls.spliced_cons (bI (D pins s σ H _ I h) λv c ⟨x,H1,i,A,J⟩=>Calls.spliced_nil (kws_cons (wpAny_Constant_int (kws_nil ?_)))));{a,xs,e,w,q}:=J;!e;-A;{its,P,y,M}:=i.list w;o:=i.tok (c.toks+1);d:a<↑c:=(do _;{_,q,_}:=y.isList;qG q);Pu (s:={c with toks:=c.toks+1}) y.isList λh' en hi hz E=>?_;C:Inv X pins σ H1 {c with heap:=h',toks:=c.toks+1}:=o.kept (t':=c.toks+1) E;Calls.spliced_nil (P_ (s:={c with heap:=h',toks:=c.toks+1}) (i.ok.hd K) C w (zo (yu _)) (qi (yj d)) (qi d) {_,_,_,en,.inl rfl} hi (λb z=>?_) λs' H' zs N a1 a2 L B F G=>{.ref _,_,a1,O,q _ _ _ a2 L B F G});g:↑c<=b:=(do(by ac_nf at z);rfl||rfl:=z;jk _;qb _);i.lM g (i.aZ.fresh g)
end
structure ML(K:PySem.W.Frag)(mg:Tp->Option MD)(x:Tp)(st:Stmt)(T:To):Prop where
 out:∃(f c:To) (oc:MD) (od an:Option To) (kV doc pm ct:MD) (osl:Array (Option MD)),K.lookup f=some {oc,od,.func (PySem.W.fnOf x x (cc st) (bJ st) (ah st) .none kV doc pm an (.ref c) ct),osl}/\PySem.W.codeIn K (.ref c) x=true/\PySem.W.keepIn K (.ref f)=true/\codeHdIn K c T=true/\mg x=!(.ref f)
def Mj{P:Program}{w:World}{K:PySem.W.Frag}{mg:Tp->Option MD}{base:Heap}{x:Tp}{st:Stmt}{T:To}{N ps:List Tp}{k:Nat}{sp:Sp}(F:ML K mg x st T)(S:aA N ps (ah st))(v:∀{kV b j:MD}{i:Option To}{d g:MD}(us:List MD),us.length=ps.length->bindArgs (PySem.W.fnOf x x (cc st) (bJ st) (ah st) .none kV b j i d g) {us,[]}=pure (ps.zip us))(len:∀vs H Q E,sp vs H Q E->vs.length=ps.length)(a:∀(f c:To) (A:Around) (outer:List Env) (s:Tj) (H:Hp) (vs:List V) (Q:VK) (E:XK),codeHdIn K c T=true->bG k (A.deeper (envOfC x (ah st) ↑s f (.ref c)))->sp vs H Q E-> ∃t,iL (j1 iW P w K mg base N x (ah st) f (.ref c) A outer s H E).wD (bJ st) t/\t {nx:=λ_ H'=>Q .aS H',rt:=Q} (start N vs) H):cL P w K mg base (k+1) x ps sp:=do _;{f,c,y,od,i,kV,b,j,g,r,o,l,p,u,n}:=F.out;{f,_,uO o l S len λA outer s H vs Q E m e=>?_,n,p,.all v};{t,h,q}:=a f c A outer s H vs Q E u m e;{t,h.wD,q}
inductive FL(K:PySem.W.Frag)(n:Tp)(s:Stmt)(T:To):Prop
 |mk{a c:To}{od an:Option To}{sl:Array (Option MD)}{oc kV dc pm ct:MD}(z1:PySem.W.nsIn K mainGlobals n=!(! (.ref a)))(z2:K.lookup a=some ⟨oc,od,.func (PySem.W.fnOf n n (cc s) (bJ s) (ah s) .none kV dc pm an (.ref c) ct),sl⟩)(z3:PySem.W.codeIn K (.ref c) n=true)(z4:PySem.W.keepIn K (.ref a)=true)(z5:codeHdIn K c T=true)
def FL.fo{K:PySem.W.Frag}{n:Tp}{s:Stmt}{T:To}{h:Heap}{mg:Tp->Option MD}(f:FL K n s T)(X:K.In h)(G:h.Ns mainGlobals mg):ML K mg n s T:=do _;{b,c,a,e,d}:=f;{_,_,_,_,_,_,_,_,_,_,c,a,e,d,PySem.W.mg_of X G b}
def wM(hi:σ[i]?=!none)(z:σ[j]?=!none)(t:σ[l]?=!none)(f:i≠j)(c:i≠l)(d:j≠l):jM (uJ n (jL (cP i) (jL (cP j) (jL (cP l) CM)))) σ:=do(x,H,Q,q);{a,xs,A,p,s,v,r,m,w,y,B,u,b,h,o,q}:=q;{a,xs,A,p,s,v,r,m,w,y,B,u,b,h,o,?_,q};h1:=eS.set hi v;h2:=eS.set (σ:=σ.set i (!v)) (i:=j) (do[jd f];z) w;g:=eS.set (σ:=(σ.set i (!v)).set j (!w)) (i:=l) (do[jd d,jd c];t) u;{(h1.1.trans h2.1).trans g.1,λk u e=>g.2 k u (h2.2 k u (h1.2 k u e))}
inductive uj(x y:V)(H:Hp)(Q:VK):Prop
 |mk(n:Int)(_:x=.str "hm")(_:y=.int n)(_:1<=n)(_:n<=4)(_:∀z:Tp,PyData.strOk z=true->Q (.str z) H)
def O2:dn X (binaryOp .Mult) uj:=do(pins,s,σ,H,x,y,v,u,Q,I,b,a,h);{n,rfl,rfl,h1,h2,q}:=h;{t,rfl}:=b;{t',rfl}:=a;this:n=1\/n=2\/n=3\/n=4:=();rfl||rfl||rfl||rfl:=this;P.mul_str ⋯ (λ_ h=>absurd h (do 0)) (λ_ h=>absurd h (do 0)) ⟨.str "hm",H,I,⟨t,O⟩,q _ ∅⟩;P.mul_str ⋯ (λ_ _=>∅) (λ_ _=>∅) ?_;[qB ⋯,qB ∅];{∅,.str _,H,I.tok _,{_,O},q _ ∅};P.mul_str ⋯ (λ_ _=>∅) (λ_ _=>∅) ?_;[qB ⋯,qB ∅];{∅,.str _,H,I.tok _,{_,O},q _ ∅};P.mul_str ⋯ (λ_ _=>∅) (λ_ _=>∅) ?_;[qB ⋯,qB ∅];{∅,.str _,H,I.tok _,{_,O},q _ ∅}
inductive Hh(Q:VK)(x:V)(H1:Hp):Prop
 |mk(i:Nat)(_:x=.int i)(_:i<=1000)(_:Q (.str (Str.ofString (toString (i:Int)))) H1)
def RY(te:TE):TE:=λσ H Q=>te σ H λx H1=>Hh Q x H1
def L_(c:PE X e te):PE X (.FormattedValue e (-1) none pos) (RY te):=do _;{?_};(pins,s,σ,H,Q,I,h);wpAny_FormattedValue_plain (qM (c pins s σ H _ I h) (λv f ⟨x,H1,b,a,d⟩=>?_) λ_ _ e=>e);{i,rfl,hz,q}:=d;{t,rfl}:=a;wpAny_formatField_int ?_ {.str _,H1,b.tok _,{_,O},q};[Int.natAbs_natCast];h<|i=0;[h];(by decide);(Nat.log2_lt h).mpr (jx hz (zf (by decide:1000<2 ^ 10) (Nat.pow_le_pow_right ⋯ ⋯)))
def K7(a:PE X e te):PE X (.JoinedStr [e] pos) te:={λpins s σ H Q I h=>do[arm_eval_JoinedStr];a pins s σ H Q I h}
structure QK(P:Program)(w:World)(K:PySem.W.Frag)(mg:Tp->Option MD)(base:Heap)(k:Nat)(x:Tp)(ps:List Tp)(sp:Sp):Prop where
 b:cL P w K mg base k x ps sp
 d:∃f fd,gG P w K mg base iW k f fd ps sp/\mg x=!(.ref f)/\PySem.W.keepIn K (.ref f)=true/\Binds K fd ps [.none]
structure Rk(K:PySem.W.Frag)(mg:Tp->Option MD)(x:Tp)(st:Stmt):Prop where
 out:∃(f t:To) (oc oc':MD) (od od' an:Option To) (kV doc pm cdv ct:MD) (osl osl':Array (Option MD)) (n:Nat),K.lookup f=some {oc,od,.func (PySem.W.fnOf x x (cc st) (bJ st) (ah st) (.ref t) kV doc pm an cdv ct),osl}/\PySem.W.codeIn K cdv x=true/\PySem.W.keepIn K (.ref f)=true/\K.lookup t=some {oc',od',.seq #[.none] n,osl'}/\mg x=!(.ref f)
def D_{P:Program}{w:World}{K:PySem.W.Frag}{mg:Tp->Option MD}{base:Heap}{x:Tp}{st:Stmt}{N ps:List Tp}{k:Nat}{sp:Sp}(F:Rk K mg x st)(S:aA N ps (ah st))(D:∀(t:To) (kV b g:MD) (e:Option To) (a d:MD) (us:List MD),us.length=ps.length->∃q,bindArgs (PySem.W.fnOf x x (cc st) (bJ st) (ah st) (.ref t) kV b g e a d) {us,[]}=seqItems? (.ref t) >>= q/\q (some #[.none])=pure (ps.zip us))(j:∀(t:To) (kV b g:MD) (e:Option To) (a d:MD) (us:List MD),us.length+1=ps.length->∃q,bindArgs (PySem.W.fnOf x x (cc st) (bJ st) (ah st) (.ref t) kV b g e a d) {us,[]}=seqItems? (.ref t) >>= q/\q (some #[.none])=pure (ps.zip (us++[.none])))(len:∀vs H Q E,sp vs H Q E->vs.length=ps.length)(c:∀(f:To) (a:MD) (A:Around) (outer:List Env) (s:Tj) (H:Hp) (vs:List V) (Q:VK) (E:XK),bG k (A.deeper (envOfC x (ah st) ↑s f a))->sp vs H Q E-> ∃t,iL (j1 iW P w K mg base N x (ah st) f a A outer s H E).wD (bJ st) t/\t {nx:=λ_ H'=>Q .aS H',rt:=Q} (start N vs) H):QK P w K mg base (k+1) x ps sp:=do _;{f,t,G,z,od,v,e,kV,b,g,a,d,y,p,n,C,l,r,u,o}:=F.out;ok:=uO (CX:=iW) (base:=base) C l S len λA outer s H vs Q E B m=>let⟨t,h,q⟩:=c f a A outer s H vs Q E B m;{t,h.wD,q};{{f,_,ok,o,r,λs us X i=>?_},f,_,ok,o,r,λs us X i=>?_};(by rw[z6]at i ⊢);{q,h1,h2}:=D t kV b g e a d us i;.of_defaults rfl (X _ _ u) rfl h1 h2;i<-[qg];{q,h1,h2}:=j t kV b g e a d us i;.of_defaults rfl (X _ _ u) rfl h1 h2
inductive Mu(K:PySem.W.Frag)(n:Tp)(s:Stmt):Prop
 |mk{a t:To}{od an od':Option To}{sl sl':Array (Option MD)}{oc oc' kV dc pm cd ct:MD}{m:Nat}(z1:PySem.W.nsIn K mainGlobals n=!(! (.ref a)))(z2:K.lookup a=some ⟨oc,od,.func (PySem.W.fnOf n n (cc s) (bJ s) (ah s) (.ref t) kV dc pm an cd ct),sl⟩)(z3:PySem.W.codeIn K cd n=true)(z4:PySem.W.keepIn K (.ref a)=true)(z5:K.lookup t=some ⟨oc',od',.seq #[.none] m,sl'⟩)
def Mu.fo{K:PySem.W.Frag}{n:Tp}{s:Stmt}{h:Heap}{mg:Tp->Option MD}(f:Mu K n s)(X:K.In h)(G:h.Ns mainGlobals mg):Rk K mg n s:=do _;{b,c,a,e,d}:=f;{_,_,_,_,_,_,_,_,_,_,_,_,_,_,_,c,a,e,d,PySem.W.mg_of X G b}
section
variable {X:Cx}{e:Expr}{es:List Expr}{t:TA}{p pos:Pos}{k n:Nat}{x:Tp}{ps:List Tp}{sp:Sp}
def SX(F:QK X.prog X.w X.K X.mg X.base k x ps sp)(h:bG n X.A)(o:PA X (e::es) t)(l:autoParam (k<=n) z12)(g:autoParam (Gl X x) z10)(c:autoParam ((x==("__debug__":Tp))=false) z10)(j:autoParam (rX X e) z13)(a:autoParam ((backTo pos (starEach es X.env)).any (·.1)=false) z10) : PE X (.Call (.Name x p) (e::es) [] pos) (tF sp [.aS] E0 t):=do _;{f,fd,F,i,b,m}:=F.d;G0 F (h.mono l) g i b m (.cons rfl .nil) yD o c (j _) a
end
end L2
namespace My
open PySem L2 PyProof.Rows
def aG(h:Nat.ble n 1000=true):n<=sizeLine:=wu (cC (jz h))
def jH(h:n<=1000):n<=sizeLine:=wu (cC h)
def cf{A B:Prop}(h:c=true)(a:A):if c=true then A else B:=do[qF h];a
def bL{A B:Prop}(h:c=false)(b:B):if c=true then A else B:=do[qB (by rw[h];decide)];b
def kP:Key->Tn|.inl i=>.int i|.inr s=>.str s
theorem Eu:∀ks:List Key,dE H (ks.map kV) (ks.map kP)|[]=>.nil|.inl i::ks=>.cons (.int i) (Eu ks)|.inr s::ks=>.cons (.str s) (Eu ks)
theorem CO(h:DT H x d):∀{xs:List V} {ds:List Tn},dE H xs ds->dE H (xs++[x]) (ds++[d])|_,_,.nil=>.cons h .nil|_,_,.cons a t=>.cons a (CO h t)
theorem l_{α β:Type}:∀(es xs:List (KD×α×β)),((xs++es).map (·.1)).Nodup->putAll xs es=xs++es|[],xs,_=>(z6 xs).symm|e::es,xs,h=>do hn:∀x∈xs,x.1≠e.1:=λx a z=>(do h<-[zt,zm];(yk.mp h).2.2 x.1 (qc.mpr {x,a,O}) e.1 qm z);b:=nV hn;hp:pG xs e.1 e.2.1 e.2.2=xs++[e]:=(do@pG;[b,qB (λz=>nomatch z)]);¬putAll (pG xs e.1 e.2.1 e.2.2) es=_;[hp,l_ es (xs++[e]) (do[wt];h),wt];2
inductive Fb(vs:List V)(H:Hp)(Q:VK)(_:XK):Prop
 |mk(v nk bh D k:_)(_:vs=[v])(_:PL nk bh D H v k)(_:∀kv,DT H kv (D k)->Q kv H)
inductive BW(vs:List V)(H:Hp)(Q:VK)(_:XK):Prop
 |mk(p ys nk bh D ms js t:_)(_:vs=[.ref p])(_:az H p ys)(_:AN (PL nk bh D H) ys js)(_:ms=js)(_:xQ nk bh D ms t)(_:∀H' dq kvs,ag H H'->FD nk bh ms ms H H' dq kvs->Q (.ref dq) H')
inductive AM(vs:List V)(H:Hp)(Q:VK)(_:XK):Prop
 |mk(p ys nk bh D ms js t:_)(_:vs=[.ref p])(_:az H p ys)(_:AN (PL nk bh D H) ys js)(_:ms=js)(_:xQ nk bh D ms t)(_:∀H' q zs,ag H H'->H q=none->H' q=! (.lst zs)->AN (NM nk H') zs (Rga.iJ (Rga.cS bh ms))->Q (.ref q) H')
def cM(h:n<=2000):n<=sizeLine:=wu (kD h)
def sM(h:AN P vs js)(f:∀v i,i∈js->P v i->P' v i):AN P' vs js:={h.1,λm v i b a=>f _ _ (qk a) (h.2 m v i b a)}
def tD(ks:List Key):Tn:=.tuple (ks.map kP)
def ET:∀k:Key,fF (kP k)=true|.inl _=>rfl|.inr _=>rfl
def lE(ks:List Key):fF (tD ks)=true:=do¬fF (.tuple (ks.map kP))=true;[fF];mU λd a=>do _;{k,_,rfl}:=qc.mp a;ET k
def eK(ks:List Key):(tD ks).depth<=1:=do this:PyData.depthAll (ks.map kP)<=0:=oe λd a=>(do _;{k,_,rfl}:=qc.mp a;by cases k <;> exact qb 0);¬PyData.depthAll (ks.map kP)+1<=1;()
def Ef:∀{a b:Key},kP a=kP b->a=b|.inl _,.inl _,h=>(by injection h with h;rw[h])|.inl _,.inr _,h=>(do-h)|.inr _,.inl _,h=>(do-h)|.inr _,.inr _,h=>by injection h with h;rw[h]
theorem Im:∀{a b:List Key},a.map kP=b.map kP->a=b|[],[],_=>rfl|[],_::_,h=>(do-h)|_::_,[],h=>(do-h)|x::a,y::b,h=>by rw[zm,zm]at h;injection h with h1 h2;rw[Ef h1,Im h2]
def ER(h:tD a=tD b):a=b:=Im (PyData.tuple.inj h)
def gN(a b:List Key):PyData.eqv (tD a) (tD b)=decide (a=b):=do h<|a=b;[qH h,h];(mJ _ _ (lE b) (lE b)).mpr rfl;[decide_eq_false h];(by cases q:PyData.eqv (tD a) (tD b)with|false|true=>?_);2;absurd (ER ((mJ _ _ (lE a) (lE b)).mp q)) h
def bE(h:GK H (.tup ks) v):DT H v (tD ks):=do _;{b,rfl,h}:=h;.tup h (Eu _)
def A4:∀k:Key,sk (kP k) (kP k)=true|.inl _=>rfl|.inr _=>rfl
theorem IX:∀ks:List Key,eQ (ks.map kP) (ks.map kP)=true|[]=>rfl|k::ks=>do¬(sk (kP k) (kP k)&&eQ (ks.map kP) (ks.map kP))=true;[A4,IX ks];2
def LC(ks:List Key):sk (tD ks) (tD ks)=true:=IX ks
def Lay(ks:List Key):Prop:=(tD ks).canLay0=true
def bO(a b c d:Int):Prop:=a<c\/(a=c/\b<d)
def f7(h:bO a b c d):bK (.tuple [.int a,.int b]) (.tuple [.int c,.int d])=true:=do[bK];h||{rfl,h}:=h;sJ h;xy (sJ h)
def tH(n:Nat):(List.range n).Pairwise λa b=>a<b:=List.pairwise_lt_range
def Rd.same(r:Rd H a u)(s:ag H H'):Rd H' a u:=do r||{o,r}:=r;.inl (s _ _ r);.inr ⟨o,s _ _ r⟩
def kN(i:Nat):Key:=.inr ((["births","places","cuts","signs","marks","notes","lines","cells","leaves"]:List Tp).getD i "")
def du(F:Nat->To)(n:Nat):List (Key×V):=(List.range n).map λi=>(kN i,.ref (F i))
def Lr:∀i,i<9->∀j,j<9->kN i=kN j->i=j:=∅
def dh(F:Nat->To)(i:Nat)(h:i<9):bQ (du F 9) (kN i)=!(.ref (F i)):=do d:∀(l:List Nat),(∀j∈l,j<9)->i∈l->bQ (l.map λi=>(kN i,V.ref (F i))) (kN i)=!(.ref (F i)):=λl=>(do(by induction l with|nil|cons j l c=>?_);(_,z);-z;(b,hi);[zm];e<|j=i;!e;gM rfl;[gL (λz=>e (Lr j (b j qm) i h z))];z||z:=qy.mp hi;absurd z.symm e;c (λj a=>b j (qz _ a)) z);d _ (λj a=>qv.mp a) (qv.mpr h)
def PY(h:PyData.strOk z=true)(x:Int):Lay [.inr z,.inl x]:=do¬(PyData.strOk z&&(true&&true))=true;[h];2
theorem Mp:∀{ds:List Tn},(∀d∈ds,sk d d=true)->eQ ds ds=true|[],_=>rfl|d::ds,h=>do¬(sk d d&&eQ ds ds)=true;[h d qm,Mp λx a=>h x (qz _ a)];2
def L0(h:Lay ks):(tD ks).canLay0=true/\sk (tD ks) (tD ks)=true/\(tD ks).depth<=1:={h,LC ks,eK ks}
def tL(h:PyData.strOk z=true):(PyData.str z).canLay0=true/\sk (.str z) (.str z)=true/\(PyData.str z).depth<=1:={h,O,qx 1}
def Rest(H H':Hp)(S:To->Prop):Prop:=∀b o,H b=!o->¬S b->H' b=!o
def Oz(h:AN P vs js)(f:∀v i,v∈vs->P v i->P' v i):AN P' vs js:={h.1,λm v i a b=>f _ _ (qk a) (h.2 m v i a b)}
def AL{β α:Type}(P:β->α->Prop)(vs:List β)(rs:List α):Prop:=vs.length=rs.length/\∀(m:Nat) v r,vs[m]?=!v->rs[m]?=!r->P v r
section
variable {β α:Type}{P P':β->α->Prop}{vs us:List β}{rs ts:List α}
def AL.imp(h:AL P vs rs)(f:∀v r,P v r->P' v r):AL P' vs rs:={h.1,λm v r b a=>f _ _ (h.2 m v r b a)}
def AL.EJ(h:AL P vs rs)(f:∀v r,v∈vs->r∈rs->P v r->P' v r):AL P' vs rs:={h.1,λm v r b a=>f _ _ (qk b) (qk a) (h.2 m v r b a)}
def AL.nil:AL P [] []:={O,λm v r z=>nomatch z}
def AL.cons{v:β}{r:α}(h:P v r)(g:AL P vs rs):AL P (v::vs) (r::rs):=do _;{do[zd,zd,g.1],λm d c b a=>?_};(by cases m with|zero|succ m=>?_);-b;-a;h;g.2 m _ _ b a
def AL.head(g:AL P (v::vs) (r::rs)):P v r:=g.2 0 _ _ rfl rfl
def AL.tail(g:AL P (v::vs) (r::rs)):AL P vs rs:={do this:=g.1;0<|this,λm d c b a=>g.2 (m+1) _ _ b a}
def AL.none(g:AL P [] (r::rs)):False:=do this:=g.1;this<-0
def AL.nothing(g:AL P (v::vs) []):False:=do this:=g.1;this<-0
def AL.app(h:AL P vs rs)(g:AL P us ts):AL P (vs++us) (rs++ts):=do(by induction vs generalizing rs with|nil|cons v vs a=>?_;cases rs with|nil|cons r rs=>?_);g;h.none.elim;(by cases rs with|nil|cons r rs=>?_);h.nothing.elim;.cons h.head (a h.tail)
def AL.snoc(h:AL P vs rs)(a:P v r):AL P (vs++[v]) (rs++[r]):=h.app (.cons a .nil)
def AL.at{m:Nat}{v:β}(h:AL P vs rs)(e:vs[m]?=!v):∃r,rs[m]?=!r/\P v r:=do a:m<rs.length:=(do[<-h.1];(qp.mp e).1);{rs[m],qe a,h.2 m v _ e (qe a)}
def AL.at'{m:Nat}{r:α}(h:AL P vs rs)(e:rs[m]?=!r):∃v,vs[m]?=!v/\P v r:=do a:m<vs.length:=(do[h.1];(qp.mp e).1);{vs[m],qe a,h.2 m _ r (qe a) e}
def AL.mem(h:AL P vs rs)(e:v∈vs):∃r,r∈rs/\P v r:=do _;{m,b,rfl}:=zv.mp e;{r,a,p}:=h.at (qe b);{r,qk a,p}
def AL.ri(h:AL P vs rs)(e:r∈rs):∃v,v∈vs/\P v r:=do _;{m,a,rfl}:=zv.mp e;{v,b,p}:=h.at' (qe a);{v,qk b,p}
theorem AL.map(h:AL P vs rs){a:Type}{f:β->a}{b:a->α->Prop}(k:∀v r,v∈vs->r∈rs->P v r->b (f v) r):AL b (vs.map f) rs:=do _;{do[qh,h.1],λm v r e c=>?_};e<-[qj];{u,d,rfl}:=wb.mp e;k _ _ (qk d) (qk c) (h.2 m u r d c)
end
theorem AL.oH{α:Type}{P:V->α->Prop}{H:Hp}{D:α->Tn}(a:∀v r,P v r->DT H v (D r)):∀{vs:List V} {rs:List α},AL P vs rs->dE H vs (rs.map D)|[],[],_=>.nil|[],_::_,h=>h.none.elim|_::_,[],h=>h.nothing.elim|_::_,_::_,h=>.cons (a _ _ h.head) (AL.oH a h.tail)
def aN:List Key:=[.inr "",.inl 0]
def Nm(ks:List Key):Prop:=∃w x,ks=[.inr w,.inl x]/\(w = "ann" \/ w = "bo" \/ w = "cyan")
def Pn(ks:List Key):Prop:=ks=aN\/Nm ks
def Nm.lay(h:Nm ks):Lay ks:=do _;{w,x,rfl,h}:=h;PY ?_ x;by rcases h with rfl|rfl|rfl <;> decide +kernel
def Q7:Lay aN:=by unfold Lay aN;decide +kernel
theorem Pn.lay(h:Pn ks):Lay ks:=do rfl||h:=h;Q7;h.lay
def Nm.main(h:Nm ks):ks≠aN:=do _;{w,x,rfl,h}:=h;(z);(by unfold aN at z;injection z with z _;injection z with z);!z;by revert h;decide +kernel
def Pn.two(h:Pn ks):∃w x,ks=[.inr w,.inl x]:=do rfl||{w,x,rfl,_}:=h;⟨_,_,O⟩;⟨_,_,O⟩
structure Pc where
 pt:List Key
 ou:List Key
 nm:List Key
 ka:Int
 kb:Int
def f'(H:Hp)(v:V)(r:Pc):Prop:=∃b a c vn kq,v=.ref b/\H b=!(.tup [a,c,vn,.ref kq])/\GK H (.tup r.pt) a/\GK H (.tup r.ou) c/\GK H (.tup r.nm) vn/\H kq=!(.tup [.int r.ka,.int r.kb])
theorem f'.af(h:f' H v r)(t:aj H H'):f' H' v r:=do _;{b,d,f,vn,kq,e,h1,h2,g,c,a}:=h;{b,d,f,vn,kq,e,t _ _ h1,h2.af t,g.af t,c.af t,t _ _ a}
structure xW(r:Pc):Prop where
 pt:Nm r.pt
 ou:Pn r.ou
 nm:Nm r.nm
def hp(xs:List Pc)(k:List Key):Bool:=xs.any λx=>decide (x.pt=k)
def iw(xs:List Pc)(r:Pc):List Pc:=if hp xs r.pt=true then xs.map (λx=>if x.pt=r.pt then r else x) else xs++[r]
def tl(rs:List Pc):List Pc:=rs.foldl iw []
def ur(rs:List Pc)(r:Pc):tl (rs++[r])=iw (tl rs) r:=do@tl;[j4];2
def gJ:hp xs k=true↔k∈xs.map (·.pt):=do@hp;[yt];1;({x,a,h});qc.mpr {x,a,qN h};(h);{x,a,h}:=qc.mp h;{x,a,qH h}
def JZ(xs:List Pc)(r:Pc):(iw xs r).map (·.pt)=if hp xs r.pt=true then xs.map (·.pt) else xs.map (·.pt)++[r.pt]:=do@iw;h<|hp xs r.pt=true;[qF h,qF h,wg];yw λx _=>?_;¬(if x.pt=r.pt then r else x).pt=x.pt;z<|x.pt=r.pt;[qF z,z];[qB z];[qB h,qB h,zt];2
def O5(h:x∈iw xs r):x=r\/(x∈xs/\x.pt≠r.pt):=do(by unfold iw at h);q<|hp xs r.pt=true;h<-[qF q];{y,a,rfl}:=qc.mp h;z<|y.pt=r.pt;[qF z];.inl rfl;[qB z];.inr {a,z};h<-[qB q];z||z:=zg.mp h;.inr ⟨z,λe=>q (gJ.mpr (e▸qc.mpr ⟨x,z,O⟩))⟩;.inl (qt.mp z)
theorem Gg(rs:List Pc):((tl rs).map (·.pt)).Nodup:=by
 rcases jf rs with rfl|⟨us,r,rfl⟩
 .exact v9
 .rw[jg,ur,JZ]
  have c:=Gg us
  split
  .exact c
  .rename_i h
   rw[yk];exact{c,zx.mpr {(λz=>nomatch z),v9},λa d b f e=>h (gJ.mpr (by rw[←qt.mp f,←e];exact d))}
termination_by rs.length
decreasing_by all_goals (subst_vars;simp)
theorem pN(h:x∈tl rs):x∈rs:=by
 rcases jf rs with rfl|⟨us,r,rfl⟩
 .exact h
 .rw[jg]at h ⊢
  rw[ur]at h;rcases O5 h with rfl|⟨z,_⟩
  .exact z9 _ (qt.mpr rfl)
  .exact yi _ (pN z)
termination_by rs.length
decreasing_by all_goals (subst_vars;simp)
theorem vX(rs:List Pc):(tl rs).length<=rs.length:=by
 rcases jf rs with rfl|⟨us,r,rfl⟩
 .exact qb _
 .rw[jg,ur]
  have a:=vX us;have e:=congrArg List.length (JZ (tl us) r);rw[qh]at e;rw[e,qg,qr]
  split
  .rw[qh];omega
  .rw[qg,qh,qr];omega
termination_by rs.length
decreasing_by all_goals (subst_vars;simp)
def EK(R:V->Pc->Prop)(H:Hp)(e:KD×V×V)(x:Pc):Prop:=e.1=.tup x.pt/\GK H (.tup x.pt) e.2.1/\R e.2.2 x
def EK.imp(h:EK R H e x)(t:aj H H')(f:R e.2.2 x->R' e.2.2 x):EK R' H' e x:={h.1,h.2.1.af t,f h.2.2}
section
variable {R:V->Pc->Prop}{H:Hp}{kvs:List 67}{xs:List Pc}
def MW(h:AL (EK R H) kvs xs):kvs.map (·.1)=(xs.map (·.pt)).map KD.tup:=do(by apply yb);(m);[qj,qj,qj];(by cases e:kvs[m]? with|none|some v=>?_);this:xs[m]?=none:=wz (do[<-h.1];List.getElem?_eq_none_iff.mp e);[this];2;{r,a,p}:=h.at e;[a];¬some v.1=!(KD.tup r.pt);[p.1]
def vZ(h:KD.tup a=KD.tup b):a=b:=by injection h
def vQ(h:AL (EK R H) kvs xs)(hn:(xs.map (·.pt)).Nodup):(kvs.map (·.1)).Nodup:=do[MW h];List.Pairwise.map _ (λa b c z=>c (vZ z)) hn
def pP(h:AL (EK R H) kvs xs)(hn:(xs.map (·.pt)).Nodup)(b:x∈xs):∃v,vG kvs (.tup x.pt)=!v/\R v x:=do _;{m,c,rfl}:=zv.mp b;{e,a,p}:=h.at' (qe c);{e.2.2,pM (vQ h hn) a p.1,p.2.2}
def Qg(h:AL (EK R H) kvs xs)(c:k∉xs.map (·.pt)):vG kvs (.tup k)=none:=nV λe a z=>do _;{r,b,p}:=h.mem a;z<-[p.1];c (qc.mpr {r,b,vZ z})
def Eo(h:AL (EK R H) kvs xs)(hn:(xs.map (·.pt)).Nodup):(vG kvs (.tup k)).isSome=hp xs k:=do a<|hp xs k=true;{x,b,rfl}:=qc.mp (gJ.mp a);{v,c,_}:=pP h hn b;[c,a];2;[Qg h (λz=>a (gJ.mpr z)),gw.mpr a];2
def CY(h:AL (EK R H) kvs xs)(hn:(xs.map (·.pt)).Nodup)(n:GK H (.tup r.pt) y)(g:R v r):AL (EK R H) (pG kvs (.tup r.pt) y v) (iw xs r):=do(by unfold pG iw);[Eo h hn];b<|hp xs r.pt=true;[qF b,qF b];{do[qh,qh,h.1],λm e x j i=>?_};(by rw[qj]at j i);{l,d,rfl}:=wb.mp j;{f,c,rfl}:=wb.mp i;{a,p2,k}:=h.2 m l f d c;z<|f.pt=r.pt;[qF (do[a,z]),qF z];{do[<-z];a,do[<-z];p2,g};[qB (do[a];λy=>z (vZ y)),qB z];{a,p2,k};[qB b,qB b];h.snoc {O,n,g}
end
def BT(H:Hp)(v:V):Prop:=∃b vn a x y,v=.ref b/\H b=!(.tup [vn,a])/\GK H (.tup x) vn/\Nm x/\GK H (.tup y) a/\Pn y
theorem BT.af(h:BT H v)(t:aj H H'):BT H' v:=do _;{b,vn,c,x,y,e,h1,h2,f,a,d}:=h;{b,vn,c,x,y,e,t _ _ h1,h2.af t,f,a.af t,d}
def CT(H:Hp)(v:V)(k:List Key):Prop:=∃b a vn y,v=.ref b/\H b=!(.tup [a,vn])/\GK H (.tup k) a/\Pn k/\GK H (.tup y) vn/\Nm y
theorem CT.af(h:CT H v k)(t:aj H H'):CT H' v k:=do _;{b,c,vn,y,e,h1,h2,f,a,d}:=h;{b,c,vn,y,e,t _ _ h1,h2.af t,f,a.af t,d}
structure vI(H:Hp)(bs vs cs:List V)(rs:List Pc)(cu:List (List Key))(k:Nat):Prop where
 bt:∀v∈bs,BT H v
 pc:AL (f' H) vs rs
 ct:AL (CT H) cs cu
 w:∀r∈rs,xW r
 up:rs.Pairwise λa b=>bO a.ka a.kb b.ka b.kb
 bl:bs.length<=k
 vl:vs.length<=k
 cl:cs.length<=k
theorem vI.af{bs vs cs:List V}(h:vI H bs vs cs rs cu k)(t:aj H H'):vI H' bs vs cs rs cu k := {λv a=>(h.bt v a).af t,h.pc.imp λv r p=>p.af t,h.ct.imp λv r p=>p.af t,h.w,h.up,h.bl,h.vl,h.cl}
def vI.place{bs vs cs:List V}(h:vI H bs vs cs rs cu k)(d:f' H v r)(e:xW r)(lt:∀x∈rs,bO x.ka x.kb r.ka r.kb)(i:vs.length<k):vI H bs (vs++[v]) cs (rs++[r]) cu k := {h.bt,h.pc.snoc d,h.ct,λx c=>do z||z:=zg.mp c;h.w x z;[qt.mp z];e,nh.mpr {h.up,g0 _ _,λa g b f=>do[qt.mp f];lt a g},h.bl,do[qg,qr];(),h.cl}
structure FB(H:Hp)(fa:To)(F:Nat->To)(bs vs cs:List V)(rs:List Pc)(cu:List (List Key))(k:Nat):Prop where
 dk:Rd H fa (.dK (du F 9))
 inj:∀i,i<9->∀j,j<9->F i=F j->i=j
 rest:∀i,i<9->3<=i->∃xs,H (F i)=! (.lst xs)
 eb:H (F 0)=!(.lst bs)
 ev:H (F 1)=!(.lst vs)
 ec:H (F 2)=!(.lst cs)
 fi:vI H bs vs cs rs cu k
theorem FB.same{bs vs cs:List V}(h:FB H fa F bs vs cs rs cu k)(s:ag H H'):FB H' fa F bs vs cs rs cu k := {Rd.same h.dk s,h.inj,λi h1 h2=>let⟨xs,e⟩:=h.rest i h1 h2;{xs,s _ _ e},s _ _ h.eb,s _ _ h.ev,s _ _ h.ec,h.fi.af s.af}
open Classical in
noncomputable def cE(H:Hp)(S:To->Prop):Hp:=λb=>if S b then none else H b
section
open Classical
variable {H H':Hp}{S:To->Prop}
def fJ(h:S b):cE H S b=none:=qF h
def ia(h:¬S b):cE H S b=H b:=qB h
def Po:ag (cE H S) H:=λb o e=>do h<|S b;e<-[fJ h];-e;e<-[ia h];e
def mM(s:ag (cE H S) H')(e:H b=!o)(h:¬S b):H' b=!o:=s _ _ (do[ia h];e)
def Qo(s:ag (cE H S) H')(h:∀b,S b->∀xs,H b≠some (.tup xs)):aj H H':=λb xs e=>mM s e λz=>h b z xs e
def Rl(h:H b=none):cE H S b=none:=do z<|S b;fJ z;[ia z];h
end
def Ov(h:bO a b c d):HT.lexLt [a,b] [c,d]=true:=do[HT.eM,HT.eM];h||{rfl,h}:=h;[qB ()];qH h;[qF rfl,qB ()];qH h
end My
namespace Rnd
variable {α:Type}
structure WO(g:α->Option α)(E:α->Prop)(p:α)(ini:List α)(las:α):Prop where
 hd:(ini++[las]).head?=!p
 ch:∀(i:Nat) a b,(ini++[las])[i]?=!a->(ini++[las])[i+1]?=!b->g a=!b
 nd:ini.Nodup
 out:∀a∈ini,¬E a
 en:las∈ini\/(las∉ini/\(g las=none\/E las))
section
variable {g:α->Option α}{E:α->Prop}{p las:α}{ini:List α}
def WO.Gj(w:WO g E p ini las)(h:a∈ini):g a≠none:=λz=>do _;{i,hi,rfl}:=zv.mp h;b:(ini++[las])[i]?=some ini[i]:=(do[zu hi,qe hi]);c:i+1<(ini++[las]).length:=(do[qg,qr];());this:=w.ch i _ _ b (qe c);this<-[z];-this
end
end Rnd
namespace My
open PySem L2 PyProof.Rows
def fX(xs:List Pc)(k:List Key):Option Pc:=xs.find? λx=>decide (x.pt=k)
def gX(xs:List Pc)(k:List Key):Option (List Key):=(fX xs k).map (·.ou)
def MK(xs:List Pc)(a b:List Key):Prop:=∃x y,fX xs a=!x/\fX xs b=!y/\bO x.ka x.kb y.ka y.kb
section
variable {xs:List Pc}
def tV(h:fX xs k=!x):x∈xs/\x.pt=k:={List.mem_of_find?_eq_some h,do 0<|List.find?_some h}
def lZ(hn:(xs.map (·.pt)).Nodup)(h:x∈xs):fX xs x.pt=!x:=do(by induction xs with|nil|cons y xs a=>?_);-h;hn<-[zm,zx];@fX;[ww];z<|y.pt=x.pt;[qH z];rfl||h:=qy.mp h;2;absurd (qc.mpr ⟨x,h,z.symm⟩) hn.1;[decide_eq_false z];rfl||h:=qy.mp h;absurd rfl z;a hn.2 h
def QY(h:k∉xs.map (·.pt)):fX xs k=none:=jr.mpr λx a z=>h (qc.mpr {x,a,qN z})
def zF(k:List Key):(fX xs k).isSome=hp xs k:=do(by cases q:fX xs k with|some x|none=>?_);{h1,h2}:=tV q;[gJ.mpr (qc.mpr {x,h1,h2})];2;(by cases z:hp xs k with|false|true=>?_);2;{x,a,e}:=qc.mp (gJ.mp z);absurd (List.find?_eq_none.mp q x a) (do#[e])
def o8:gX xs k≠none↔hp xs k=true:=do[<-zF];@gX;by cases fX xs k <;> simp
def tP(h:gX xs k=!o):∃x∈xs,x.pt=k/\x.ou=o:=do _;{x,h1,h2}:=wb.mp h;{x,(tV h1).1,(tV h1).2,h2}
def Qd(h:k∉xs.map (·.pt)):gX xs k=none:=do@gX;[QY h];2
end
structure XW(xs:List Pc):Prop where
 nd:(xs.map (·.pt)).Nodup
 w:∀x∈xs,xW x
 Gx:∀x∈xs,∀y∈xs,x=y\/bO x.ka x.kb y.ka y.kb\/bO y.ka y.kb x.ka x.kb
 cD:xs.length<=100
def Js(a b:Int):¬bO a b a b:=do@bO;()
def IB(h:bO a b c d)(g:bO c d e f):bO a b e f:=by unfold bO at *;omega
section
variable {xs:List Pc}
def XW.SW(W:XW xs)(a b:List Key)(e:gX xs a≠none)(f:gX xs b≠none):a=b\/MK xs a b\/MK xs b a:=do _;{x,c,rfl}:=qc.mp (gJ.mp (o8.mp e));{y,d,rfl}:=qc.mp (gJ.mp (o8.mp f));rfl||h||h:=W.Gx x c y d;.inl rfl;.inr (.inl ⟨x,y,lZ W.nd c,lZ W.nd d,h⟩);.inr (.inr ⟨y,x,lZ W.nd d,lZ W.nd c,h⟩)
def XW.pn(W:XW xs)(h:gX xs k=!o):Pn o:=do _;{x,a,_,rfl}:=tP h;(W.w x a).ou
end
def DX{rs:List Pc}(h:rs.Pairwise λa b=>bO a.ka a.kb b.ka b.kb){x y:Pc}(e:x∈rs)(d:y∈rs):x=y\/bO x.ka x.kb y.ka y.kb\/bO y.ka y.kb x.ka x.kb:=do _;{i,hi,rfl}:=zv.mp e;{j,c,rfl}:=zv.mp d;hp:=yv.mp h;z||z||z:=rg i j;.inr (.inl (hp i j hi c z));!z;.inl rfl;.inr (.inr (hp j i c hi z))
def Kh(d:∀r∈rs,xW r)(up:rs.Pairwise λa b=>bO a.ka a.kb b.ka b.kb)(f:rs.length<=100):XW (tl rs) := {Gg rs,λx c=>d x (pN c),λx c y e=>DX up (pN c) (pN e),qf (vX rs) f}
open Classical in
noncomputable def d8(T:List Key->Prop)(x:Pc):Pc:=if T x.pt then{ x with ou:=aN } else x
section
variable {T:List Key->Prop}{xs:List Pc}
def xg(x:Pc):(d8 T x).pt=x.pt:=do@d8;by split <;> rfl
def Nz(h:T x.pt):d8 T x={x with ou:=aN}:=do@d8;[qF h]
def Cw(h:¬T x.pt):d8 T x=x:=do@d8;[qB h]
def zE(w:xW x):xW (d8 T x):=do@d8;3;{w.pt,.inl rfl,w.nm};w
def IR(l:List Pc):(l.map (d8 T)).map (·.pt)=l.map (·.pt):=do[wg];yw λx _=>xg x
end
def iZ(H:Hp)(v:V)(k:List Key):Prop:=GK H (.tup k) v
def pS(H:Hp)(v:V)(x:Pc):Prop:=GK H (.tup x.ou) v
theorem pS.af(h:pS H v x)(t:aj H H'):pS H' v x:=GK.af h t
theorem iZ.af(h:iZ H v k)(t:aj H H'):iZ H' v k:=GK.af h t
def SM(kvs:List 67)(S:List Key->Prop):Prop:=∀k,(vG kvs (.tup k)).isSome=true↔S k
def SM.nil:SM [] (λ_=>False):=λk=>{λz=>absurd z qo,λz=>z.elim}
def SM.put{S S':List Key->Prop}(h:SM kvs S)(y v:V)(a:∀k,S' k↔(k=p\/S k)):SM (pG kvs (.tup p) y v) S':=λk=>do[d7,a];z<|k=p;!z;[qF rfl];{λ_=>.inl rfl,λ_=>rfl};[qB (λy=>z (vZ y)),h k];{.inr,λy=>y.resolve_left z}
def SM.yes{S:List Key->Prop}(h:SM kvs S)(a:S k):(vG kvs (.tup k)).isSome=true:=(h k).mpr a
def SM.no{S:List Key->Prop}(h:SM kvs S)(a:¬S k):(vG kvs (.tup k)).isSome=false:=gw.mpr λz=>a ((h k).mp z)
def Gi(h:AL (EK R H) kvs xs)(hn:(xs.map (·.pt)).Nodup):(vG kvs (.tup k)).isSome=(gX xs k).isSome:=do[Eo h hn,<-zF];@gX;by cases fX xs k <;> rfl
def OD(h:r.pt∉A.map (·.pt)):iw A r=A++[r]:=do@iw;[qB λz=>h (gJ.mp z)]
def NY{l:List (List Key)}{xs:List Pc}(hn:l.Nodup)(h:∀a∈l,hp xs a=true):l.length<=xs.length:=by have:l.length<=(xs.map (·.pt)).length:=(do sub:∀(l m:List (List Key)),l.Nodup->(∀a∈l,a∈m)->l.length<=m.length:=λl=>(do(by induction l with|nil|cons a l g=>?_);(m,_,_);qx _;(m,hn,d);{A,B,e}:=rh (d a qm);this:=g (A++B) (zx.mp hn).2 λb c=>(do h1:=d b (qz _ c);h1<-[e];z||z:=zg.mp h1;yi _ z;rfl||z:=qy.mp z;absurd c (zx.mp hn).1;z9 _ z);[e,qg,zd];this<-[qg];[zd];());sub l _ hn λa f=>gJ.mp (h a f));rwa [qh]at this
def j2(h:n<=100000):n<sizeLine:=do[sizeLine_eq];()
def wW{β α:Type}{P:β->α->Prop}{ws:List β}{ini:List α}{las:α}(h:AL P ws (ini++[las])):∃us v,ws=us++[v]/\AL P us ini/\P v las:=do a:=h.1;a<-[qg,qr];z||{us,v,z}:=jf ws;a<-[z];absurd a (do 0);z<-[jg];!z;c:us.length=ini.length:=(do a<-[qg,qr];());{us,v,O,{c,λm v r d b=>h.2 m v r ?_ ?_},h.2 us.length v las (do 0) (do[c];0)};[zu (qp.mp d).1];d;[zu (qp.mp b).1];b
def PF{β α:Type}{P:β->α->Prop}{ws:List β}{ls:List α}(h:AL P ws ls)(r:Nat):AL P (ws.drop r) (ls.drop r) := {do[yq,yq,h.1],λm v k b a=>do(by rw[rj]at b a);h.2 _ v k b a}
def Ni{a:To}{kvs:List 67}{H:Hp}{R:It->Hp->Prop}(r:Rd H a 69)(k:∀(o:Obj) (Y:Hp),(∀b u,b≠a->H b=!u->Y b=!u)->(∀b,Y b=none->H b=none)->Y a=! (.dA o 69)->R (vA a o kvs) Y) : (H a=! 69/\∀o,R (vA a o kvs) (upd H a (.dA o 69)))\/∃o,H a=! (.dA o 69)/\R (vA a o kvs) H:=do e||{o,e}:=r;.inl ⟨e,λo=>k o _ (λb u n e=>do[aB n];e) (λb q=>?_) aE⟩;z<|b=a;!z;q<-[aE];-q;q<-[aB z];q;.inr {o,e,k o H (λ_ _ _ e=>e) (λ_ e=>e) e}
def rG{a:To}{kvs:List 67}{H:Hp}{R:It->Hp->Prop}(r:Rd H a 69)(k:∀(o:Obj) (Y:Hp),(∀b u,b≠a->H b=!u->Y b=!u)->(∀b,Y b=none->H b=none)->Y a=! (.dA o 69)->R (u_ a o kvs) Y) : (H a=! 69/\∀o,R (u_ a o kvs) (upd H a (.dA o 69)))\/∃o,H a=! (.dA o 69)/\R (u_ a o kvs) H:=do e||{o,e}:=r;.inl ⟨e,λo=>k o _ (λb u n e=>do[aB n];e) (λb q=>?_) aE⟩;z<|b=a;!z;q<-[aE];-q;q<-[aB z];q;.inr {o,e,k o H (λ_ _ _ e=>e) (λ_ e=>e) e}
def RO{us:List V}{v:V}{r:Nat}(h:r<=us.length):fm (us++[v]) (!(r:Int)) (!(-1))=us.drop r:=do@fm;[HT.jW];e:HT.bV (us++[v]).length (us++[v]).length (!(-1))=us.length:=(do@HT.bV;[qg,qr];#[_,show((-1:Int)<0) from ⋯,if_true];());[e,qg,qr,Nat.min_eq_left (),List.drop_append_of_le_length h];[List.take_append_of_le_length (do[yq];qb _),jc (do[yq];qb _)]
def Ob(h:AL (iZ H) ws ls):dE H ws (ls.map tD):=AL.oH (λ_ _ z=>bE z) h
def Nd(ls:List (List Key))(k:List Key):((ls.map tD).countP λd=>PyData.eqv d (tD k))=ls.countP λa=>decide (a=k):=do[List.countP_map];List.countP_congr λa _=>do¬(PyData.eqv (tD a) (tD k)=true↔_);[gN]
def Ih(hn:ini.Nodup):((((ini++[las]).map tD).countP λd=>PyData.eqv d (tD las))>1)↔las∈ini:=do[Nd,List.countP_append];h1:List.countP (λa=>decide (a=las)) [las]=1:=(do 0);[h1];1;(h);this:0<List.countP (λa=>decide (a=las)) ini:=();{a,b,e}:=rn.mp this;[<-qN e];b;(h);this:0<List.countP (λa=>decide (a=las)) ini:=rn.mpr {las,h,qH rfl};()
structure WP(g:List Key->Option (List Key))(E:List Key->Prop)(p:List Key)(ini:List (List Key))(las:List Key):Prop where
 hd:(ini++[las]).head?=!p
 ch:∀(i:Nat) a b,(ini++[las])[i]?=!a->(ini++[las])[i+1]?=!b->g a=!b
 nd:(ini++[las]).Nodup
 out:∀a∈ini,¬E a
section
variable {g:List Key->Option (List Key)}{E:List Key->Prop}{p las o:List Key}{ini:List (List Key)}
def WP.one:WP g E p [] p:={O,λi a b h1 h2=>do h2<-0,List.nodup_cons.mpr {(λz=>nomatch z),List.nodup_nil},λa z=>nomatch z}
def WP.R0(w:WP g E p ini las):ini.Nodup:=(yk.mp w.nd).1
def WP.EY(w:WP g E p ini las):las∉ini:=λz=>(yk.mp w.nd).2.2 las z las (qt.mpr rfl) rfl
def WP.stop(w:WP g E p ini las)(h:g las=none\/E las):Rnd.WO g E p ini las:={w.hd,w.ch,w.R0,w.out,.inr {w.EY,h}}
def WP.hd2(w:WP g E p ini las)(o:List Key):((ini++[las])++[o]).head?=!p:=do this:=w.hd;[List.head?_append,this];2
def WP.Ss(w:WP g E p ini las)(e:g las=!o):∀(i:Nat) a b,((ini++[las])++[o])[i]?=!a->((ini++[las])++[o])[i+1]?=!b->g a=!b:=λi a b h1 h2=>do d:(ini++[las]).length=ini.length+1:=(do[qg,qr]);z<|i+1<(ini++[las]).length;h1<-[zu ()];h2<-[zu z];w.ch i a b h1 h2;c:=(qp.mp h2).1;c<-[qg,qr];hi:i=ini.length:=();!hi;h1<-[zu ()];h2<-[ye ()];h1:las=a:=(do 0<|h1);h2:o=b:=(by simpa[d] using h2);[<-h1,<-h2];e
def WP.again(w:WP g E p ini las)(e:g las=!o)(b:¬E las)(h:o∈ini++[las]):Rnd.WO g E p (ini++[las]) o:={w.hd2 o,w.Ss e,w.nd,λa c=>do z||z:=zg.mp c;w.out a z;[qt.mp z];b,.inl h}
def WP.on(w:WP g E p ini las)(e:g las=!o)(d:¬E las)(h:o∉ini++[las]):WP g E p (ini++[las]) o:={w.hd2 o,w.Ss e,yk.mpr {w.nd,zx.mpr {(λz=>nomatch z),v9},λa c b f z=>h (do[<-qt.mp f,<-z];c)},λa c=>do z||z:=zg.mp c;w.out a z;[qt.mp z];d}
def WP.Gj(w:WP g E p ini las)(h:a∈ini):g a≠none:=λz=>do _;{i,hi,rfl}:=zv.mp h;b:(ini++[las])[i]?=some ini[i]:=(do[zu hi,qe hi]);c:i+1<(ini++[las]).length:=(do[qg,qr];());this:=w.ch i _ _ b (qe c);this<-[z];-this
def WP.fits(w:WP (gX ys) E p ini las):ini.length<=ys.length:=NY w.R0 λa b=>o8.mp (w.Gj b)
end
def Pm(g:TG)(tb:TS)(D:Ends)(σ:L2.St)(J:It)(H1:Hp):Prop:=∃W:Nat->Nat->L2.St->Hp->Prop,(∃m,W 0 m σ H1)/\∀i m σ H,W i m σ H-> (J.stop i H/\D.nx σ H)\/(J.go i H/\∃N:L2.St->Hp->Prop,(∀σ' H',N σ' H'->∃b,b<m/\W (i+1) b σ' H')/\∀x H',J.xq i H x H'->g x σ H' λa H2=>tb {D with nx:=N,ct:=N,bk:=D.nx} a H2)
def Jr{g:TG}(h:a σ H (Pm g tb D σ)):Cu a g tb D σ H:=h
def rM(e:H a=!o)(c:∀ys,o≠.tup ys)(s:ag (del H a) H'):aj H H':=λb xs q=>s _ _ (do[bX (λz=>do q<-[z,e];c xs (qJ q))];q)
def nd:List Key->KD|[]=>.aS|a::r=>.tup (a::r)
def md(h:k≠[]):nd k=.tup k:=do(by cases k with|nil|cons a r=>?_);absurd rfl h;2
def qV(h:nd a=nd b):a=b:=by cases a with|nil|cons a r=>?_;cases b with|nil|cons b r=>?_;rfl;cases h;cases b with|nil|cons b q=>?_;cases h;injection h
def Nm.ne(h:Nm k):k≠[]:=do _;{w,x,rfl,_}:=h;λz=>nomatch z
def Pn.ne(h:Pn k):k≠[]:=do _;{w,x,rfl}:=h.two;λz=>nomatch z
def Qn(k:List Key):Prop:=k=[]\/Pn k
def Cm(H:Hp)(v:V)(k:List Key):Prop:=GK H (nd k) v
def iu(H:Hp)(v:V)(x:Pc):Prop:=GK H (nd x.ou) v
theorem iu.af(h:iu H v x)(t:aj H H'):iu H' v x:=GK.af h t
theorem Cm.af(h:Cm H v k)(t:aj H H'):Cm H' v k:=GK.af h t
def hH(h:k≠[])(g:GK H (.tup k) v):GK H (nd k) v:=do[md h];g
def Mr(h:k≠[])(g:GK H (nd k) v):GK H (.tup k) v:=do g<-[md h];g
def fD(kvs:List 67)(S:List Key->Prop):Prop:=∀k,(vG kvs (nd k)).isSome=true↔S k
def fD.nil:fD [] (λ_=>False):=λk=>{λz=>absurd z qo,λz=>z.elim}
def fD.put{S S':List Key->Prop}(h:fD kvs S)(y v:V)(a:∀k,S' k↔(k=p\/S k)):fD (pG kvs (nd p) y v) S':=λk=>do[d7,a];z<|k=p;!z;[qF rfl];{λ_=>.inl rfl,λ_=>rfl};[qB (λy=>z (qV y)),h k];{.inr,λy=>y.resolve_left z}
def fD.Rc{S S':List Key->Prop}(h:fD kvs S)(hp:p≠[])(y v:V)(a:∀k,S' k↔(k=p\/S k)):fD (pG kvs (.tup p) y v) S':=do[<-md hp];h.put y v a
def fD.yes{S:List Key->Prop}(h:fD kvs S)(a:S k):(vG kvs (nd k)).isSome=true:=(h k).mpr a
def fD.no{S:List Key->Prop}(h:fD kvs S)(a:¬S k):(vG kvs (nd k)).isSome=false:=gw.mpr λz=>a ((h k).mp z)
section
variable {R:V->Pc->Prop}{H:Hp}{kvs:List 67}{xs:List Pc}{k:List Key}
def Fy(hz:∀x∈xs,x.pt≠[]):gX xs []=none:=Qd λz=>do _;{x,a,e}:=qc.mp z;hz x a e
def CG(h:AL (EK R H) kvs xs)(hn:(xs.map (·.pt)).Nodup)(hz:∀x∈xs,x.pt≠[]):(vG kvs (nd k)).isSome=(gX xs k).isSome:=do e<|k=[];!e;[Fy hz,show nd []=KD.aS from rfl,nV λe a z=>?_];2;{r,_,p}:=h.mem a;z<-[p.1];-z;[md e];Gi h hn
def Hl(h:AL (EK (iu H) H) kvs xs)(hn:(xs.map (·.pt)).Nodup)(hz:∀x∈xs,x.pt≠[])(e:gX xs k=!o):∃v,vG kvs (nd k)=!v/\GK H (nd o) v:=do _;{x,a,rfl,rfl}:=tP e;[md (hz x a)];pP h hn a
end
theorem HG{α:Type}:∀(l m:List α),l.Nodup->(∀a∈l,a∈m)->l.length<=m.length|[],m,_,_=>qx _|a::l,m,hn,hs=>do _;{A,B,e}:=rh (hs a qm);this:=HG l (A++B) (zx.mp hn).2 λb c=>(do h1:=hs b (qz _ c);h1<-[e];z||z:=zg.mp h1;yi _ z;rfl||z:=qy.mp z;absurd c (zx.mp hn).1;z9 _ z);[e,qg,zd];this<-[qg];[zd];()
def nodes(ys:List Pc):List (List Key):=aN::(ys.map (·.pt)++ys.map (·.ou))
def Qs(h:x∈ys):x.pt∈nodes ys:=qz _ (yi _ (qc.mpr {x,h,O}))
def NI(h:gX ys k=!o):o∈nodes ys:=do _;{x,a,_,rfl}:=tP h;qz _ (z9 _ (qc.mpr {x,a,O}))
section
variable {H H':Hp}{ys:List Pc}{f:List Key->Option Bool}{kr:List 67}
def Ry{α β:Type}(kvs:List (KD×α×β))(k:KD)(y:α)(v:β):(pG kvs k y v).map (·.1)=if(vG kvs k).isSome=true then kvs.map (·.1) else kvs.map (·.1)++[k]:=do@pG;h<|(vG kvs k).isSome=true;[qF h,qF h,wg];yw λe _=>?_;¬(if e.1=k then(e.1,e.2.1,v) else e).1=e.1;(by split <;> rfl);[qB h,qB h,zt];2
def OM{α β:Type}{kvs:List (KD×α×β)}(h:(kvs.map (·.1)).Nodup)(k:KD)(y:α)(v:β):((pG kvs k y v).map (·.1)).Nodup:=do[Ry];q<|(vG kvs k).isSome=true;[qF q];h;[qB q,yk];hn:vG kvs k=none:=(do(by cases z:vG kvs k with|none|some u=>?_);2;q<-[z];absurd rfl q);{h,zx.mpr {(λz=>nomatch z),v9},λa c b d e=>?_};{x,f,rfl}:=qc.mp c;ox hn x f (e.trans (qt.mp d))
def Ig{α β:Type}{kvs:List (KD×α×β)}{k:KD}{y:α}{v:β}{e:KD×α×β}(h:e∈pG kvs k y v):(e=(k,y,v))\/∃a∈kvs,a.1=e.1/\a.2.1=e.2.1:=do(by unfold pG at h);q<|(vG kvs k).isSome=true;h<-[qF q];{a,b,rfl}:=qc.mp h;.inr {a,b,?_};z<|a.1=k;[qF z];{O,O};[qB z];{O,O};h<-[qB q];z||z:=zg.mp h;.inr ⟨e,z,O,O⟩;.inl (qt.mp z)
end
open Classical in
noncomputable def lfp(cu:List (List Key))(x:Pc):Bool:=decide (x.pt∉cu)
def GS(h:x.pt∉cu):lfp cu x=true:=do@lfp;0<|h
def Ii(h:x.pt∈cu):lfp cu x=false:=do@lfp;0<|h
def Mn:∀{ks:List (List Key)} {xs:List 67} {S:List Key->Prop},AL (λe k=>e.1=nd k) es ks->fD xs S->fD (putAll xs es) (λk=>S k\/k∈ks):=do(by induction es with|nil|cons e es b=>?_);(ks,xs,S,h,g);(by cases ks with|nil|cons k ks=>?_);λk=>(g k).trans {.inl,λz=>z.resolve_right (λy=>nomatch y)};h.none.elim;(ks,xs,S,h,g);(by cases ks with|nil|cons k ks=>?_);h.nothing.elim;h1:=b (xs:=pG xs e.1 e.2.1 e.2.2) (S:=λa=>a=k\/S a) h.tail (do[h.head];g.put _ _ λa=>Iff.rfl);λa=>(h1 a).trans ?_;¬(((a=k\/S a)\/a∈ks)↔(S a\/a∈k::ks));[qy];1;((z||z)||z);.inr (.inl z);.inl z;.inr (.inr z);(z||z||z);.inl (.inr z);.inl (.inl z);.inr z
theorem zL{β α:Type}{P:β->α->Prop}:∀{vs:List β},(∀v∈vs,∃r,P v r)->∃rs,AL P vs rs|[],_=>{[],.nil}|v::vs,h=>do _;{r,a}:=h v qm;{rs,h2}:=zL λx b=>h x (qz _ b);{r::rs,.cons a h2}
theorem xV{β α a:Type}{P:β->α->Prop}{f:β->a}{g:α->a}:∀{vs:List β} {rs:List α},AL P vs rs->(∀v r,P v r->f v=g r)->vs.map f=rs.map g|[],[],_,_=>rfl|[],_::_,h,_=>h.none.elim|_::_,[],h,_=>h.nothing.elim|_::_,_::_,h,k=>do[zm,zm,k _ _ h.head,xV h.tail k]
def GH{kvs:List 67}{k:KD}{v:V}(h:vG kvs k=!v):∃e∈kvs,e.1=k:=do _;{e,a,_}:=wb.mp h;{e,List.mem_of_find?_eq_some a,do 0<|List.find?_some a}
structure Sg where
 pt:List Key
 nk:List Key
 bh:Option Nat
 ka:Int
 kb:Int
 kc:Int
 sg:Tn
 lv:Bool
def cJ(S:Nat->Sg)(i:Nat):List Key:=(S i).nk
def vB(S:Nat->Sg)(i:Nat):Option Nat:=(S i).bh
def DS(S:Nat->Sg)(i:Nat):Tn:=.tuple [.int (S i).ka,.int (S i).kb,.int (S i).kc]
inductive SN(S:Nat->Sg)(H:Hp)(v:V)(i:Nat):Prop
 |mk(b:To)(vp vn vb:V)(kq:To)(vs:V)(h0:v=.ref b)(h1:H b=!(.tup [vp,vn,vb,.ref kq,vs,.bl (S i).lv]))(h2:GK H (.tup (S i).pt) vp)(h3:NM (cJ S) H vn i)(h4:GK H (kd (cJ S) (vB S i)) vb)(h5:H kq=!(.tup [.int (S i).ka,.int (S i).kb,.int (S i).kc]))(h6:DT H vs (S i).sg)
theorem SN.af{S:Nat->Sg}(h:SN S H v i)(t:aj H H'):SN S H' v i:=do _;{b,f,vn,g,kq,vs,e,h1,h2,j,d,c,a}:=h;{b,f,vn,g,kq,vs,e,t _ _ h1,h2.af t,j.af t,d.af t,t _ _ c,a.af t}
def MR(x y:Sg):Prop:=x.ka<y.ka\/(x.ka=y.ka/\(x.kb<y.kb\/(x.kb=y.kb/\x.kc<y.kc)))
def Kk{S:Nat->Sg}(h:MR (S i) (S j)):bK (DS S i) (DS S j)=true:=do@DS;[bK];h||{e,h||{e',h}}:=h;sJ h;[e];xy (sJ h);[e,e'];xy (xy (sJ h))
def Hq(d:Tn):Prop:=d.canLay0=true/\sk d d=true/\d.depth<=3
structure WS(S:Nat->Sg)(n:Nat):Prop where
 cD:n<=1400
 up:∀i j,i<j->j<n->MR (S i) (S j)
 inj:∀i,i<n->∀j,j<n->(S i).nk=(S j).nk->i=j
 back:∀i,i<n->∀j,(S i).bh=!j->j<i/\(S j).pt=(S i).pt
 lay:∀i,i<n->Lay (S i).nk/\Lay (S i).pt
 sgn:∀i,i<n->Hq (S i).sg
def om(S:Nat->Sg)(pt:List Key)(i:Nat):Bool:=decide ((S i).pt=pt)
def iG{S:Nat->Sg}{pt:List Key}:om S pt i=true↔(S i).pt=pt:=decide_eq_true_iff
def bM(S:Nat->Sg)(n:Nat)(pt:List Key):List Nat:=(List.range n).filter (om S pt)
def aH(S:Nat->Sg)(n:Nat)(pt:List Key):List Nat:=Rga.iJ (Rga.cS (vB S) (bM S n pt))
def bA(S:Nat->Sg)(n:Nat)(pt:List Key):List Nat:=(aH S n pt).filter λi=>(S i).lv
def WS.vD{S:Nat->Sg}(W:WS S n)(pt:List Key):xQ (cJ S) (vB S) (DS S) (bM S n pt) 2:=do f:xQ (cJ S) (vB S) (DS S) (List.range n) 2:=(do _;{do[zh];this:=W.cD;(),?_,λi hi j l e=>W.inj i (qv.mp hi) j (qv.mp l) e,Rga.ir λi hi b e=>(W.back i hi b e).1,pX λd o=>?_};(tH n).imp_of_mem λ{a b} p m h=>Kk (W.up a b h (qv.mp m));{i,_,rfl}:=qc.mp o;.inr {_,_,_,O});f.filter λk g c b e=>?_;{h1,h2}:=W.back k (qv.mp g) b e;iG.mpr (h2.trans (iG.mp c))
def RM{S:Nat->Sg}{pt:List Key}(h:i∈bM S n pt):i<n/\(S i).pt=pt:={qv.mp (qw.mp h).1,iG.mp (qw.mp h).2}
def qQ{S:Nat->Sg}{pt:List Key}(W:WS S n):i∈aH S n pt↔i<n/\(S i).pt=pt:=do e:=Rga.eG (vB S) (bM S n pt);h:i∈aH S n pt↔i∈Rga.l8 (Rga.cS (vB S) (bM S n pt)):=(Rga.cX (W.vD pt).wf).mem_iff;[h,e,ym];{RM,λz=>qw.mpr {qv.mpr z.1,iG.mpr z.2}}
def mY{S:Nat->Sg}{pt:List Key}(W:WS S n)(h:i∈aH S n pt):i<n:=((qQ W).mp h).1
def pI{S:Nat->Sg}{pt:List Key}(W:WS S n):(aH S n pt).Nodup:=Rga.jD (W.vD pt).wf
def kJ{S:Nat->Sg}{pt:List Key}(W:WS S n):(aH S n pt).length<=n:=do@aH;[Rga.gU (W.vD pt).wf];qf (wj _ _) (do[zh];qb _)
def FG(H:Hp)(fa:To)(S:Nat->Sg)(n:Nat):Prop:=∃kvs a vs,Rd H fa (.dK kvs)/\bQ kvs (.inr "signs")=! (.ref a)/\H a=!(.lst vs)/\AN (SN S H) vs (List.range n)/\WS S n
theorem FG.same{S:Nat->Sg}(h:FG H fa S n)(s:ag H H'):FG H' fa S n:=do _;{kvs,c,vs,h1,h2,d,a,b}:=h;{kvs,c,vs,Rd.same h1 s,h2,s _ _ d,a.imp λv i g=>g.af s.af,b}
def lC(S:Nat->Sg)(n:Nat)(r:Sg):Nat->Sg:=λi=>if i=n then r else S i
def eH{S:Nat->Sg}(h:i<n):lC S n r i=S i:=qB ()
def gO{S:Nat->Sg}:lC S n r n=r:=qF rfl
def Gs(S S':Nat->Sg)(n:Nat):Prop:=∀i,i<n->S' i=S i
def Gs.ext(S:Nat->Sg)(n:Nat)(r:Sg):Gs S (lC S n r) n:=λi hi=>eH hi
def NM.FN{S S':Nat->Sg}(a:Gs S S' n)(hi:i<n)(h:NM (cJ S) H v i):NM (cJ S') H v i:=do(by unfold NM cJ at h ⊢);[a i hi];h
theorem SN.FN{S S':Nat->Sg}(a:Gs S S' n)(hi:i<n)(l:∀j,(S i).bh=!j->j<n)(h:SN S H v i):SN S' H v i:=do _;{b,k,vn,m,kq,vs,e,h1,h2,o,c,g,f}:=h;d:S' i=S i:=a i hi;{b,k,vn,m,kq,vs,e,do[d];h1,do[d];h2,NM.FN a hi o,?_,do[d];g,do[d];f};(by unfold vB at c ⊢);[d];(by cases z:(S i).bh with|none|some j=>?_);c<-[z];c;c<-[z];NM.FN a (l j z) c
def WS.ext{S:Nat->Sg}(W:WS S n)(hn:n<1400)(up:∀i,i<n->MR (S i) r)(ne:∀i,i<n->(S i).nk≠r.nk)(bk:∀j,r.bh=!j->j<n/\(S j).pt=r.pt)(d:Lay r.nk)(f:Lay r.pt)(b:Hq r.sg):WS (lC S n r) (n+1) where
 cD:=hn
 up:=λi j h1 h2=>by
  by_cases z:j=n
  .subst z
   rw[gO,eH h1];exact up i h1
  .rw[eH (show j<n from ()),eH (show i<n from ())]
   exact W.up i j h1 ()
 inj:=λi hi j g e=>by
  by_cases c:i=n
  .by_cases a:j=n
   .omega
   .rw[c,gO,eH (show j<n from ())]at e
    exact absurd e.symm (ne j ())
  .by_cases a:j=n
   .rw[a,gO,eH (show i<n from ())]at e
    exact absurd e (ne i ())
   .rw[eH (show i<n from ()),eH (show j<n from ())]at e
    exact W.inj i () j () e
 back:=λi hi j e=>by
  by_cases z:i=n
  .subst z
   rw[gO]at e ⊢;obtain⟨h1,h2⟩:=bk j e;rw[eH h1];exact{h1,h2}
  .rw[eH (show i<n from ())]at e ⊢
   obtain⟨h1,h2⟩:=W.back i () j e;rw[eH (show j<n from ())];exact{h1,h2}
 lay:=λi hi=>by
  by_cases z:i=n
  .subst z;rw[gO];exact{d,f}
  .rw[eH (show i<n from ())];exact W.lay i ()
 sgn:=λi hi=>by
  by_cases z:i=n
  .subst z;rw[gO];exact b
  .rw[eH (show i<n from ())];exact W.sgn i ()
abbrev Sd:=Option (Nat×Bool)
def Sa(b:Bool):Tp:=if b then "behind" else "ahead"
def rE(S:Nat->Sg)(H:Hp):Sd->V->Prop|none,v=>v=.aS|some (i,b),v=>∃a vn,v=.ref a/\H a=!(.tup [vn,.str (Sa b)])/\NM (cJ S) H vn i
theorem rE.af{S:Nat->Sg}(h:rE S H d v)(t:aj H H'):rE S H' d v:=by match d,h with|none,h=>exact h|some (i,b),⟨a,vn,e,h1,h2⟩=>exact{a,vn,e,t _ _ h1,h2.af t}
def dZ(S:Nat->Sg)(n:Nat)(pt:List Key)(d:Sd):Prop:=∀i b,d=!(i,b)->i<n/\(S i).pt=pt
structure Mk where
 pt:List Key
 b:Sd
 e:Sd
 kd:Tp
 vl:Option Tp
 nm:List Key
 ka:Int
 kb:Int
def Sn:Option Tp->V|none=>.aS|some z=>.str z
inductive MN(S:Nat->Sg)(M:Nat->Mk)(H:Hp)(v:V)(i:Nat):Prop
 |mk(b:To)(vp vb ve vn:V)(kq:To)(h0:v=.ref b)(h1:H b=!(.tup [vp,vb,ve,.str (M i).kd,Sn (M i).vl,vn,.ref kq]))(h2:GK H (.tup (M i).pt) vp)(h3:rE S H (M i).b vb)(h4:rE S H (M i).e ve)(h5:GK H (.tup (M i).nm) vn)(h6:H kq=!(.tup [.int (M i).ka,.int (M i).kb]))
theorem MN.af{S:Nat->Sg}(h:MN S M H v i)(t:aj H H'):MN S M H' v i:=do _;{b,g,j,d,vn,kq,e,h1,h2,k,f,c,a}:=h;{b,g,j,d,vn,kq,e,t _ _ h1,h2.af t,k.af t,f.af t,c.af t,t _ _ a}
structure WK(S:Nat->Sg)(n:Nat)(M:Nat->Mk)(m:Nat):Prop where
 cD:m<=70
 up:∀i j,i<j->j<m->bO (M i).ka (M i).kb (M j).ka (M j).kb
 sd:∀i,i<m->dZ S n (M i).pt (M i).b/\dZ S n (M i).pt (M i).e
 lay:∀i,i<m->Lay (M i).pt/\Lay (M i).nm/\PyData.strOk (M i).kd=true/\∀z,(M i).vl=!z->PyData.strOk z=true
def iF(M:Nat->Mk)(n:Nat)(r:Mk):Nat->Mk:=λi=>if i=n then r else M i
def kW(h:i<n):iF M n r i=M i:=qB ()
def mS:iF M n r n=r:=qF rfl
def MN.ext{S:Nat->Sg}(hi:i<n)(h:MN S M H v i):MN S (iF M n r) H v i:=do e:iF M n r i=M i:=kW hi;{b,g,j,d,vn,kq,h0,h1,h2,k,f,c,a}:=h;{b,g,j,d,vn,kq,h0,do[e];h1,do[e];h2,do[e];k,do[e];f,do[e];c,do[e];a}
def WK.ext{S:Nat->Sg}(W:WK S n M m)(a:m<70)(up:∀i,i<m->bO (M i).ka (M i).kb r.ka r.kb)(sd:dZ S n r.pt r.b/\dZ S n r.pt r.e)(l:Lay r.pt/\Lay r.nm/\PyData.strOk r.kd=true/\∀z,r.vl=!z->PyData.strOk z=true):WK S n (iF M m r) (m+1) where
 cD:=a
 up:=λi j h1 h2=>by
  by_cases z:j=m
  .subst z
   rw[mS,kW h1];exact up i h1
  .rw[kW (show j<m from ()),kW (show i<m from ())]
   exact W.up i j h1 ()
 sd:=λi hi=>by
  by_cases z:i=m
  .subst z;rw[mS];exact sd
  .rw[kW (show i<m from ())];exact W.sd i ()
 lay:=λi hi=>by
  by_cases z:i=m
  .subst z;rw[mS];exact l
  .rw[kW (show i<m from ())];exact W.lay i ()
inductive NN(S:Nat->Sg)(M:Nat->Mk)(H:Hp)(v:V)(i:Nat):Prop
 |mk(b:To)(vp vb ve vn:V)(kq:To)(h0:v=.ref b)(h1:H b=!(.tup [vp,vb,ve,.str (M i).kd,vn,.ref kq]))(h2:GK H (.tup (M i).pt) vp)(h3:rE S H (M i).b vb)(h4:rE S H (M i).e ve)(h5:GK H (.tup (M i).nm) vn)(h6:H kq=!(.tup [.int (M i).ka,.int (M i).kb]))
theorem NN.af{S:Nat->Sg}(h:NN S M H v i)(t:aj H H'):NN S M H' v i:=do _;{b,g,j,d,vn,kq,e,h1,h2,k,f,c,a}:=h;{b,g,j,d,vn,kq,e,t _ _ h1,h2.af t,k.af t,f.af t,c.af t,t _ _ a}
def NN.ext{S:Nat->Sg}(hi:i<n)(h:NN S M H v i):NN S (iF M n r) H v i:=do e:iF M n r i=M i:=kW hi;{b,g,j,d,vn,kq,h0,h1,h2,k,f,c,a}:=h;{b,g,j,d,vn,kq,h0,do[e];h1,do[e];h2,do[e];k,do[e];f,do[e];c,do[e];a}
structure FS(H:Hp)(fa:To)(F:Nat->To)(S:Nat->Sg)(n:Nat)(M:Nat->Mk)(m:Nat)(N:Nat->Mk)(q:Nat)(vs ms ns:List V):Prop where
 dk:Rd H fa (.dK (du F 9))
 inj:∀i,i<9->∀j,j<9->F i=F j->i=j
 rest:∀i,i<9->i≠3->i≠4->i≠5->∃xs,H (F i)=! (.lst xs)
 sl:H (F 3)=!(.lst vs)
 sa:AN (SN S H) vs (List.range n)
 ws:WS S n
 ml:H (F 4)=!(.lst ms)
 ma:AN (MN S M H) ms (List.range m)
 wm:WK S n M m
 nl:H (F 5)=!(.lst ns)
 na:AN (NN S N H) ns (List.range q)
 wn:WK S n N q
section
variable {H H':Hp}{fa:To}{F:Nat->To}{S S':Nat->Sg}{n n':Nat}{M:Nat->Mk}{m:Nat}{N:Nat->Mk}{q:Nat}{vs ms ns:List V}
def FS.fg(h:FS H fa F S n M m N q vs ms ns):FG H fa S n:={du F 9,F 3,vs,h.dk,dh F 3 ⋯,h.sl,h.sa,h.ws}
def FS.to(h:FS H fa F S n M m N q vs ms ns)(t:aj H H')(c:Rd H' fa (.dK (du F 9)))(a:∀i,i<9->∀xs,H (F i)=! (.lst xs)->H' (F i)=! (.lst xs)):FS H' fa F S n M m N q vs ms ns where
 dk:=c
 inj:=h.inj
 rest:=λi h1 h2 d b=>let⟨xs,e⟩:=h.rest i h1 h2 d b;{xs,a i h1 _ e}
 sl:=a 3 ⋯ _ h.sl
 sa:=h.sa.imp λv i g=>g.af t
 ws:=h.ws
 ml:=a 4 ⋯ _ h.ml
 ma:=h.ma.imp λv i g=>g.af t
 wm:=h.wm
 nl:=a 5 ⋯ _ h.nl
 na:=h.na.imp λv i g=>g.af t
 wn:=h.wn
theorem FS.same(h:FS H fa F S n M m N q vs ms ns)(s:ag H H'):FS H' fa F S n M m N q vs ms ns:=h.to s.af (Rd.same h.dk s) λ_ _ _ e=>s _ _ e
end
end My
namespace L2
open PySem PySem.Spec PySem.W PyProof.Rows
inductive zQ(H:Hp)(T:String):V->Bool->Prop
 |str (z:Tp):zQ H T (.str z) (T=="str")
 |int (i:Int):zQ H T (.int i) (T=="int")
 |bl (b:Bool):zQ H T (.bl b) (T=="bool"||T=="int")
 |aS:zQ H T .aS false
 |tup {p:To} {xs:List V} (h:H p=! (.tup xs)):zQ H T (.ref p) (T=="tuple")
 |lst {p:To} {xs:List V} (h:H p=! (.lst xs)):zQ H T (.ref p) (T=="list")
 |SO {p:To} {xs:List (Key×V)} (h:H p=!(.dK xs)):zQ H T (.ref p) (T=="dict")
inductive SH(xs:List V)(H:Hp)(Q:VK):Prop
 |mk(x:V)(T:String)(b:Bool)(h0:xs=[x,.ty T])(hT:(["str","int","bool","tuple","list"]:List String).contains T=true)(h1:zQ H T x b)(h2:Q (.bl b) H)
def N':cn X (.builtin "isinstance") SH:=do(pins,s,σ,H,xs,us,Q,I,c,h);{x,T,b,rfl,a,h1,q}:=h;a:T = "str" \/ T = "int" \/ T = "bool" \/ T = "tuple" \/ T = "list":=(do 0<|a);OS pins s σ H _ us Q I c ?_;(by cases h1 with|str z|int i|bl i|aS|tup h|lst h|SO h=>?_);{_,T,.type "str",_,O,.str _,by rcases a with rfl|rfl|rfl|rfl|rfl <;> rfl,q};{_,T,.type "int",_,O,.int _,by rcases a with rfl|rfl|rfl|rfl|rfl <;> rfl,q};{_,T,.type "bool",_,O,.bl _,by rcases a with rfl|rfl|rfl|rfl|rfl <;> rfl,q};{_,T,.type "NoneType",_,O,.aS,by rcases a with rfl|rfl|rfl|rfl|rfl <;> rfl,q};{_,T,.type "tuple",_,O,.tup h,by rcases a with rfl|rfl|rfl|rfl|rfl <;> rfl,q};{_,T,.type "list",_,O,.lst h,by rcases a with rfl|rfl|rfl|rfl|rfl <;> rfl,q};{_,T,.type "dict",_,O,.dK h,by rcases a with rfl|rfl|rfl|rfl|rfl <;> rfl,q}
end L2
namespace L2
open PySem PySem.Spec PySem.W PyProof.Rows My
def HZ(a b:Tp):PyData.eqv (.str a) (.str b)=decide (a=b):=do(by cases e:PyData.eqv (.str a) (.str b)with|true|false=>?_);(qH (PyData.str.inj ((mJ _ _ rfl rfl).mp e))).symm;(decide_eq_false λh=>do e<-[(mJ _ _ rfl rfl).mpr (congrArg PyData.str h)];Bool.noConfusion e).symm
end L2
namespace My
open PySem L2 PyProof.Rows
def top(i:Nat):Stmt:=PySem.Challenge.pw_pagefolk_k46_closed_to_a_hand.main.body.getD i (.Pass {0,0,0,0})
abbrev uC:Stmt:=top 2
abbrev tI:Stmt:=top 3
abbrev uk:Stmt:=top 4
abbrev uD:Stmt:=top 5
abbrev tM:Stmt:=top 6
abbrev su:Stmt:=top 8
abbrev rW:Stmt:=top 9
abbrev uI:Stmt:=top 10
abbrev mB:Stmt:=top 12
abbrev uu:Stmt:=top 13
abbrev oI:Stmt:=top 14
abbrev tJ:Stmt:=top 16
abbrev uE:Stmt:=top 17
abbrev sD:Stmt:=top 18
abbrev t_:Stmt:=top 19
abbrev lK:Stmt:=top 20
abbrev jE:Stmt:=top 21
abbrev sF:Stmt:=top 22
abbrev uq:Stmt:=top 23
abbrev jG:Stmt:=top 24
abbrev lR:Stmt:=top 26
abbrev uB:Stmt:=top 27
abbrev sG:Stmt:=top 28
abbrev uy:Stmt:=top 29
abbrev rJ:Stmt:=top 30
abbrev uG:Stmt:=top 31
abbrev pB:Stmt:=top 32
abbrev lI:Stmt:=top 33
abbrev rK:Stmt:=top 34
abbrev jK:Stmt:=top 36
abbrev uw:Stmt:=top 37
abbrev lU:Stmt:=top 38
abbrev ow:Stmt:=top 39
abbrev oy:Stmt:=top 41
abbrev tR:Stmt:=top 42
abbrev oK:Stmt:=top 43
abbrev uY:Stmt:=top 44
abbrev i_:Stmt:=top 45
abbrev sC:Stmt:=top 46
abbrev pz:Stmt:=top 47
abbrev rV:Stmt:=top 49
abbrev uT:Stmt:=top 50
abbrev tQ:Stmt:=top 51
abbrev pE:Stmt:=top 52
abbrev rP:Stmt:=top 53
abbrev oC:Stmt:=top 54
abbrev uX:Stmt:=top 55
abbrev oB:Stmt:=top 56
abbrev oU:Stmt:=top 57
abbrev pH:Stmt:=top 58
abbrev oM:Stmt:=top 59
abbrev lX:Stmt:=top 60
abbrev sr:Stmt:=top 61
abbrev lJ:Stmt:=top 62
abbrev uo:Stmt:=top 63
abbrev ie:Stmt:=top 64
abbrev J':List Tp:=["births","part","outer_of","chain"]
abbrev G2:List Tp:=["leaves","hand","to","told","leave"]
abbrev G4:List Tp:=["leave"]
abbrev Lq:List Tp:=["leaves","chain","hand","to","told","part"]
abbrev LD:List Tp:=["roll","births","leaves","hand","part","to","chain"]
abbrev IK:List Tp:=["place"]
abbrev Jp:List Tp:=["places","followers","place"]
abbrev Lb:List Tp:=["places","followers","row","to_come","name"]
abbrev Af:List Tp:=["facts","part"]
abbrev Lv:List Tp:=["facts","part"]
abbrev zX:List Tp:=["facts","part","lives"]
abbrev Hr:List Tp:=["seats","side"]
abbrev KC:List Tp:=["seats","begin","end","first"]
abbrev Ky:List Tp:=["row"]
abbrev IY:List Tp:=["mark"]
abbrev yS:List Tp:=["facts","part","row","seats","telling","mark","over","between"]
abbrev yO:List Tp:=["facts","part","place","row","seats","telling","told","name","marks"]
abbrev HK:List Tp:=["facts","part"]
abbrev Kz:List Tp:=["note"]
abbrev Ad:List Tp:=["facts","part","seats","alive","told","note","between","under"]
abbrev K8:List Tp:=["facts","telling","place","part"]
abbrev LH:List Tp:=["outer_of","part","ended","way","on_way","outer"]
abbrev Hk:List Tp:=["telling","parts"]
abbrev JV:List Tp:=["telling","outer_of","turned","ended","part","way","one"]
abbrev Me:List Tp:=["telling","turned","stands","part","place"]
abbrev Ik:List Tp:=["outer_of","reaching","part","way","comes","one"]
abbrev HE:List Tp:=["facts","outer_of","reaching"]
abbrev GQ:List Tp:=["facts","stands","cut","left","reaching"]
abbrev LL:List Tp:=["facts","telling","stands","shown","inner","part"]
abbrev x_:List Tp:=["facts","part","way","lines","lives"]
abbrev HI:List Tp:=["cell"]
abbrev Aj:List Tp:=["facts","part","cells"]
abbrev zP:List Tp:=["facts","part","rows","columns","told","words","row"]
abbrev LW:List Tp:=["facts","roll","hand","part"]
abbrev GB:List Tp:=["number","place"]
abbrev KU:List Tp:=["facts","roll","hand","inner","told","to_come","coming","is_open","within"]
abbrev GV:List Tp:=["numbers","sign"]
abbrev sQ:List Tp:=["facts","part","numbers","signs","marks"]
abbrev Hf:List Tp:=["facts","numbers","part","is_open"]
abbrev GD:List Tp:=["facts","roll","hand","told","numbers"]
abbrev Jt:List Tp:=["_law_script","_law_k"]
abbrev Jv:List Tp:=["_law_cell","_law_digits"]
abbrev Ir:List Tp:=["_law_drawn_here","_law_many","_law_number"]
abbrev Jo:List Tp:=["_law_drawn_here","_law_facts_here","_law_roll","_law_known","_law_wide","_law_k","_law_part","_law_outer","_law_counts","_law_placed"]
abbrev LF:List Tp:=["_law_drawn_here","_law_known","_law_way"]
abbrev K4:List Tp:=["_law_drawn_here","_law_facts_here","_law_roll","_law_known","_law_names","_law_k","_law_part","_law_behind","_law_name","_law_lives","_law_key"]
abbrev G6:List Tp:=["_law_drawn_here","_law_names"]
abbrev Kn:List Tp:=["_law_drawn_here","_law_facts_here","_law_roll","_law_names","_law_k","_law_parts_here","_law_part","_law_begin","_law_end","_law_name","_law_value","_law_kind"]
abbrev GG:List Tp:=["_law_drawn_here","_law_facts_here","_law_roll","_law_known","_law_part","_law_rows","_law_columns","_law_k","_law_way","_law_line_name","_law_key","_law_row","_law_column","_law_word"]
abbrev LU:List Tp:=["_law_drawn_here","_law_facts_here","_law_roll","_law_known","_law_k","_law_part","_law_hand","_law_to"]
abbrev Hb:List Tp:=["_law_script","_law_roll","_law_digits","_law_facts_here","_law_key","_law_known","_law_names"]
abbrev Ls:List Tp:=["_law_facts_here","_law_part","_law_births","_law_here","_law_turn","_law_about"]
abbrev Al:List Tp:=["_law_number","_law_other"]
abbrev Aa:List Tp:=["_law_facts_here","_law_whole","_law_shut","_law_found","_law_entry"]
abbrev Iu:List Tp:=["_law_one","_law_other","_law_known","_law_mine","_law_theirs"]
abbrev GL:List Tp:=["_law_script","_law_roll","_law_facts_here","_law_whole","_law_due_here","_law_found","_law_known","_law_k"]
abbrev cx:To:=15
abbrev bD:To:=157
abbrev bf:To:=193
abbrev OR:List Tp:=["greatest_place","all_inner_parts"]
def R9(t:Tp):To:=if t = "greatest_place" then bD else if t = "all_inner_parts" then bf else 0
abbrev MS:List (To×List V):=[(cx,[.str "",.int 0])]
structure Txt(K:PySem.W.Frag)(mg:Tp->Option MD)(tk:Tp->Tok):Prop where
 cT:mg "dict"=none
 f9:mg "enumerate"=none
 zU:mg "int"=none
 kK:mg "isinstance"=none
 bS:mg "len"=none
 oj:mg "list"=none
 tu:mg "max"=none
 c9:mg "range"=none
 cZ:mg "sorted"=none
 Jb:mg "str"=none
 JU:mg "zip"=none
 cx:mg "MAIN"=!(.ref cx)
def Rest.refl{S:To->Prop}:Rest H H S:=λ_ _ e _=>e
def Rest.same{S:To->Prop}(h:Rest H Z S)(s:ag Z Z'):Rest H Z' S:=λb o e n=>s _ _ (h b o e n)
theorem Rest.del{S:To->Prop}(h:Rest H Z S)(hp:S p)(s:ag (del Z p) Z'):Rest H Z' S:=λb o e n=>s _ _ (do[bX (λz=>n (do[z];hp))];h b o e n)
def Rest.wr{S:To->Prop}(h:Rest H Z S)(hp:S p):Rest H (upd Z p o) S:=λb u e n=>do[aB (λz=>n (do[z];hp))];h b u e n
def Rest.af{S:To->Prop}(h:Rest H Z S)(c:∀b,S b->∃xs,H b=! (.lst xs)):aj H Z:=λb ys e=>h b _ e λz=>do _;{xs,a}:=c b z;a<-[e];-a
def DP(H:Hp)(p:To):Prop:=∃ds:List Int,H p=!(.lst (ds.map V.int))/\∀d∈ds,0<=d/\d<60
def DP.to(s:ag (del H p) H')(h:H b=!o)(n:b≠p):H' b=!o:=s _ _ (do[bX n];h)
def JD:ag (del H p) (upd H p o):=λb u e=>do z<|b=p;!z;e<-[d6];-e;e<-[bX z];[aB z];e
def ag.kE(a:ag (del H p) H')(b:ag (del H' p) d):ag (del H p) d:=λc o e=>do z<|c=p;!z;e<-[d6];-e;b _ _ (do[bX z];a _ _ e)
def ag.sd(a:ag H H')(b:ag (del H' p) d):ag (del H p) d:=λc o e=>do z<|c=p;!z;e<-[d6];-e;b _ _ (do(by rw[bX z]at e ⊢);a _ _ e)
def lg(x y:Tp):(x++y).length=x.length+y.length:=do¬(x.cps++y.cps).size=_;[Array.size_append];2
def Dg(y v:V)(h:∀x∈kvs,x.1≠k):pG kvs k y v=kvs++[(k,y,v)]:=do@pG;[nV h,qB (λz=>nomatch z)]
def bH(js:List Nat):Sd->Nat|none=>js.length|some (i,b)=>js.idxOf i+if b then 1 else 0
def QO(js:List Nat)(b e:Sd):List Nat:=(js.drop (bH js b)).take (bH js e - bH js b)
def uW(nk:Nat->List Key)(js:List Nat)(kvs:List 67):Prop:=kvs.length=js.length/\∀i∈js,vG kvs (.tup (nk i))=!(.int ((js.idxOf i:Nat):Int))
def qR(js:List Nat)(d:Sd):Prop:=∀i b,d=!(i,b)->i∈js
def Inj(nk:Nat->List Key)(js:List Nat):Prop:=∀i∈js,∀j∈js,nk i=nk j->i=j
def Ew{js:List Nat}(nd:js.Nodup){j i:Nat}(h:js[j]?=!i):js.idxOf i=j:=do _;{h1,h2}:=qp.mp h;[<-h2];List.Nodup.idxOf_getElem nd j h1
def Ko(h:qR js d):bH js d<=js.length:=by match d,h with|none,_=>exact qb _|some (i,b),h => have:=rz (h i b rfl);show js.idxOf i+(if b then 1 else 0)<=_;split <;> omega
theorem Il:∀{kvs:List 67} {js:List Nat},kU nk G kvs js->kvs.length=js.length|[],[],_=>rfl|[],_::_,h=>h.elim|_::_,[],h=>h.elim|_::_,_::_,h=>do[zd,zd,Il h.2]
theorem L8:∀{kvs:List 67} {js:List Nat},kU nk G kvs js->kvs.map (·.1)=js.map λi=>KD.tup (nk i)|[],[],_=>rfl|[],_::_,h=>h.elim|_::_,[],h=>h.elim|_::_,_::_,h=>do[zm,zm,L8 h.2,h.1.1]
def NL(h:i∈QO js b e):i∈js:=kg (r8 h)
inductive A5(vs:List V)(H:Hp)(Q:VK)(_:XK):Prop
 |mk(fa vp pt S n:_)(_:vs=[.ref fa,vp])(_:FG H fa S n)(_:GK H (.tup pt) vp)(_:Lay pt)(_:∀H' q zs,ag H H'->H q=none->H' q=! (.lst zs)->AN (SN S H') zs (bM S n pt)->Q (.ref q) H')
inductive BY(vs:List V)(H:Hp)(Q:VK)(_:XK):Prop
 |mk(fa vp pt S n:_)(_:vs=[.ref fa,vp])(_:FG H fa S n)(_:GK H (.tup pt) vp)(_:Lay pt)(_:∀H' q zs,ag H H'->H q=none->H' q=! (.lst zs)->AN (NM (cJ S) H') zs 68->Q (.ref q) H')
inductive EW(vs:List V)(H:Hp)(Q:VK)(_:XK):Prop
 |mk(p zs nk js:_)(h0:vs=[.ref p])(h1:H p=! (.lst zs))(h2:AN (NM nk H) zs js)(h3:js.Nodup)(h4:Inj nk js)(h5:js.length<=1400)(h6:∀H' dq kvs,ag H H'->H dq=none->H' dq=! 69->uW nk js kvs->Q (.ref dq) H')
inductive AR(vs:List V)(H:Hp)(Q:VK)(_:XK):Prop
 |mk(dq kvs S js v d:_)(h0:vs=[.ref dq,v])(h1:H dq=! 69)(h2:uW (cJ S) js kvs)(h3:rE S H d v)(h4:qR js d)(h5:Q (.int ((bH js d:Nat):Int)) H)
inductive F4(vs:List V)(H:Hp)(Q:VK)(_:XK):Prop
 |mk(dq kvs S js vb ve b e:_)(h0:vs=[.ref dq,vb,ve])(h1:H dq=! 69)(h2:uW (cJ S) js kvs)(h3:rE S H b vb)(h4:qR js b)(h5:rE S H e ve)(h6:qR js e)(h7:∀H' q,ag H H'->H' q=!(.tup [.int ((bH js b:Nat):Int),.int ((max (bH js b) (bH js e):Nat):Int)])->Q (.ref q) H')
section
variable {K:PySem.W.Frag}{vs:List V}{H:Hp}{Q:VK}{E:XK}
end
theorem Kl:∀(js:List Nat),js.Nodup->∀f l:Nat,js.filter (λk=>decide (f<=js.idxOf k/\js.idxOf k<l))=(js.drop f).take (l - f)|[],_,f,l=>(do[List.drop_nil,List.take_nil];2)|x::xs,nd,f,l=>do _;{g,c}:=zx.mp nd;ix:∀k∈xs,(x::xs).idxOf k=xs.idxOf k+1:=λk a=>(do this:(x==k)=false:=(do[beq_eq_false_iff_ne];λz=>g (do[z];a));[List.idxOf_cons,this];2);d:(x::xs).idxOf x=0:=List.idxOf_cons_self;(by cases l with|zero|succ l=>?_);[jq.mpr (λk _ z=>do this:=qN z;()),Nat.zero_sub,List.take_zero];tail:∀b,xs.filter (λk=>decide (b+1<=(x::xs).idxOf k/\(x::xs).idxOf k<l+1))=(xs.drop b).take (l - b):=λb=>(do[<-Kl xs c b l];ni λk a=>?_;[ix k a];decide_eq_decide.mpr ());(by cases f with|zero|succ f=>?_);[vd (do[d];qH {qb 0,Nat.succ_pos l})];this:=tail 0;e:xs.filter (λk=>decide (0<=(x::xs).idxOf k/\(x::xs).idxOf k<l+1))=xs.filter (λk=>decide (0+1<=(x::xs).idxOf k/\(x::xs).idxOf k<l+1)):=ni λk a=>(do[ix k a];decide_eq_decide.mpr ());[e,this];2;[yf (do[d];λz=>absurd (qN z).1 ()),tail f,Nat.succ_sub_succ];2
def iq(S:Nat->Sg)(js:List Nat)(b e:Sd):List Nat:=(QO js b e).filter λi=>(S i).lv
def Pr{S:Nat->Sg}(nd:js.Nodup):(js.filter λi=>(S i).lv).filter (λk=>decide (bH js b<=js.idxOf k/\js.idxOf k<max (bH js b) (bH js e)))=iq S js b e:=do(by unfold iq QO);[tf];h:=Kl js nd (bH js b) (max (bH js b) (bH js e));h<-[show max (bH js b) (bH js e) - bH js b=bH js e - bH js b from ()];[<-h,tf];ni λk _=>Bool.and_comm _ _
def cz(N:Nat->Mk)(q:Nat)(pt:List Key):List Nat:=(List.range q).filter λi=>decide ((N i).pt=pt)
def mD(S:Nat->Sg):Option Nat->Tn|none=>.none|some k=>tD (cJ S k)
def vF(S:Nat->Sg)(js:List Nat)(N:Nat->Mk)(i:Nat):Tn:=.tuple [tD (N i).nm,.str (N i).kd,mD S (iq S js (N i).b (N i).e).head?]
def Mm{S:Nat->Sg}{pt:List Key}(W:WS S n)(g:WK S n N q):PyData.canLayAll0 ((cz N q pt).map (vF S 68 N))=true/\PyData.depthAll ((cz N q pt).map (vF S 68 N))<=2/\PyData.eqv (.list ((cz N q pt).map (vF S 68 N))) (.list ((cz N q pt).map (vF S 68 N)))=true:=do c:∀i,(mD S (iq S 68 (N i).b (N i).e).head?).canLay0=true/\fF (mD S (iq S 68 (N i).b (N i).e).head?)=true/\(mD S (iq S 68 (N i).b (N i).e).head?).depth<=1:=λi=>(do(by cases h:(iq S 68 (N i).b (N i).e).head? with|none|some k=>?_);{O,O,qx 1};l:k∈aH S n pt:=NL (qw.mp (tz h)).1;{(W.lay k (mY W l)).1,lE _,eK _});{fO λd a=>?_,oe λd a=>?_,Pd λd a=>?_};{i,hi,rfl}:=qc.mp a;hi:=qv.mp (qw.mp hi).1;{_,j,f,_}:=g.lay i hi;¬((tD (N i).nm).canLay0&&(PyData.strOk (N i).kd&&((mD S _).canLay0&&true)))=true;[show(tD (N i).nm).canLay0=true from j,f,(c i).1];2;{i,hi,rfl}:=qc.mp a;h1:=eK (N i).nm;h2:=(c i).2.2;¬max (tD (N i).nm).depth (max 0 (max (mD S _).depth 0))+1<=2;();{i,hi,rfl}:=qc.mp a;[vF,fF];mU λd a=>?_;(by ac_nf at a);rfl||rfl||rfl:=a;lE _;2;(c i).2.1
inductive Du(vs:List V)(H:Hp)(Q:VK)(_:XK):Prop
 |mk(fa vp pt S n:_)(_:vs=[.ref fa,vp])(_:FG H fa S n)(_:GK H (.tup pt) vp)(_:Lay pt)(_:∀H' q zs,ag H H'->H q=none->H' q=! (.lst zs)->AN (NM (cJ S) H') zs (bA S n pt)->Q (.ref q) H')
inductive AX(vs:List V)(H:Hp)(Q:VK)(_:XK):Prop
 |mk(v S N i:_)(_:vs=[v])(_:NN S N H v i)(_:∀kv,DT H kv (.tuple [.int (N i).ka,.int (N i).kb])->Q kv H)
inductive Gb(vs:List V)(H:Hp)(Q:VK)(_:XK):Prop
 |mk(fa F S n M m N q xs ms ns vp pt:_)(h0:vs=[.ref fa,vp])(h1:FS H fa F S n M m N q xs ms ns)(h2:GK H (.tup pt) vp)(h3:Lay pt)(h4:∀H' qq zs,ag H H'->H qq=none->H' qq=! (.lst zs)->dE H' zs ((cz N q pt).map (vF S 68 N))->Q (.ref qq) H')
section
variable {K:PySem.W.Frag}{vs:List V}{H:Hp}{Q:VK}{E:XK}
end
def aI(M:Nat->Mk)(m:Nat)(pt:List Key):List Nat:=(List.range m).filter λi=>decide ((M i).pt=pt)
def zZ(js:List Nat)(k:Mk)(p:Nat):Bool:=decide (bH js k.b<=p/\p<max (bH js k.b) (bH js k.e))
def tell(M:Nat->Mk)(js:List Nat)(l:List Nat)(kd:Tp)(p:Nat):Option Nat:=l.foldl (λacc i=>if(M i).kd=kd/\zZ js (M i) p=true then some i else acc) none
def kinds(M:Nat->Mk)(l:List Nat):List Tp:=l.foldl (λks i=>if(M i).kd∈ks then ks else ks++[(M i).kd]) []
def Je{kd:Tp}:tell M js (l++[i]) kd p=if(M i).kd=kd/\zZ js (M i) p=true then some i else tell M js l kd p:=do@tell;[j4];2
def LZ:kinds M (l++[i])=if(M i).kd∈kinds M l then kinds M l else kinds M l++[(M i).kd]:=do@kinds;[j4];2
theorem Ly{M:Nat->Mk}:∀(l:List Nat) (ks:List Tp),ks.Nodup->(l.foldl (λks i=>if(M i).kd∈ks then ks else ks++[(M i).kd]) ks).Nodup|[],_,h=>h|i::l,ks,h=>do Ly l _ ?_;¬((if(M i).kd∈ks then ks else ks++[(M i).kd]).Nodup);z<|(M i).kd∈ks;[qF z];h;[qB z];List.nodup_append.mpr {h,do 0,λx b y a e=>?_};e<-[qt.mp a];z (e▸b)
theorem Ea{M:Nat->Mk}:∀(l:List Nat) (ks:List Tp),(l.foldl (λks i=>if(M i).kd∈ks then ks else ks++[(M i).kd]) ks).length<=ks.length+l.length|[],_=>qb _|i::l,ks=>do qf (Ea l _) ?_;¬(if(M i).kd∈ks then ks else ks++[(M i).kd]).length+l.length<=_;z<|(M i).kd∈ks;[qF z,zd];();[qB z,qg,qr,zd];()
theorem Jf{M:Nat->Mk}{js:List Nat}{kd:Tp}{p k:Nat}:∀(l:List Nat) (acc:Option Nat),l.foldl (λacc i=>if(M i).kd=kd/\zZ js (M i) p=true then some i else acc) acc=!k->acc=!k\/(k∈l/\(M k).kd=kd)|[],_,h=>.inl h|i::l,acc,h=>do z||z:=Jf l _ h;z:(if(M i).kd=kd/\zZ js (M i) p=true then some i else acc)=!k:=z;q<|(M i).kd=kd/\zZ js (M i) p=true;z<-[qF q];-z;.inr {qm,q.1};z<-[qB q];.inl z;.inr {qz _ z.1,z.2}
def KY{kd:Tp}(h:tell M js l kd p=!k):k∈l/\(M k).kd=kd:=do z||z:=Jf l none h;-z;z
theorem HQ{M:Nat->Mk}{js:List Nat}{kd:Tp}{p:Nat}:∀(l:List Nat) (acc:Option Nat),(∀i∈l,(M i).kd≠kd)->l.foldl (λacc i=>if(M i).kd=kd/\zZ js (M i) p=true then some i else acc) acc=acc|[],_,_=>rfl|i::l,acc,h=>do[gg,qB λz=>h i qm z.1];HQ l acc λj a=>h j (qz _ a)
theorem BR{M:Nat->Mk}{kd:Tp}:∀(l:List Nat) (ks:List Tp),kd∈l.foldl (λks i=>if(M i).kd∈ks then ks else ks++[(M i).kd]) ks↔kd∈ks\/∃i∈l,(M i).kd=kd|[],ks=>{.inl,λh=>h.elim id λ⟨_,z,_⟩=>nomatch z}|i::l,ks=>do[gg,BR l];z<|(M i).kd∈ks;[qF z];1;(h||{j,h1,h2});.inl h;.inr {j,qz _ h1,h2};(h||{j,h1,h2});.inl h;y||y:=qy.mp h1;!y;.inl (h2▸z);.inr {j,y,h2};[qB z];1;(h||{j,h1,h2});y||y:=zg.mp h;.inl y;.inr ⟨i,qm,(qt.mp y).symm⟩;.inr ⟨j,qz _ h1,h2⟩;(h||{j,h1,h2});.inl (yi _ h);y||y:=qy.mp h1;!y;.inl (z9 _ (qt.mpr h2.symm));.inr {j,y,h2}
def mV(ms:List V):Option Nat->V|none=>.aS|some i=>ms.getD i .aS
def iO(M:Nat->Mk)(js l:List Nat)(ms:List V)(kd:Tp):List V:=(List.range js.length).map λp=>mV ms (tell M js l kd p)
def p9{kd:Tp}:(iO M js l ms kd).length=js.length:=do@iO;[qh,zh]
def JK(k:bH js (M i).b=b)(j:max (bH js (M i).b) (bH js (M i).e)=e)(h:b<=e)(m:e<=js.length):((iO M js l ms (M i).kd).take b++List.replicate (e - b) (ms.getD i .aS))++(iO M js l ms (M i).kd).drop e=iO M js (l++[i]) ms (M i).kd:=do(by apply yb);(p);n:zZ js (M i) p=decide (b<=p/\p<e):=(do@zZ;[j,k]);f:(iO M js l ms (M i).kd).length=js.length:=p9;d:((iO M js l ms (M i).kd).take b).length=b:=(do[wv,f];());c:((iO M js l ms (M i).kd).take b++List.replicate (e - b) (ms.getD i .aS)).length=e:=(do[qg,d,gc];());a:p<js.length->(iO M js (l++[i]) ms (M i).kd)[p]?=!(mV ms (if b<=p/\p<e then some i else tell M js l (M i).kd p)):=λhp=>(do@iO;[qj,yc hp,jv,Je,n];z<|b<=p/\p<e;[qF z,qF {O,qH z}];[qB z,qB (λy=>z (qN y.2))]);old:p<js.length->(iO M js l ms (M i).kd)[p]?=!(mV ms (tell M js l (M i).kd p)):=λhp=>(do@iO;[qj,yc hp];2);h1<|p<b;[zu (do[c];()),zu (do[d];h1),me h1,old (),a (),qB ()];h2<|p<e;[zu (do[c];h2),ye (do[d];()),d,List.getElem?_replicate_of_lt (),a (),qF {(),h2}];2;[ye (do[c];()),c,rj,show e+(p - e)=p from ()];g<|p<js.length;[old g,a g,qB ()];[wz (do[f];()),wz (do[p9];())]
def Rx{kd:Tp}(h:kd∉kinds M l):iO M js l ms kd=List.replicate js.length .aS:=do@iO;[List.eq_replicate_iff];{do[qh,zh],λx a=>?_};{p,_,rfl}:=qc.mp a;this:tell M js l kd p=none:=HQ l none λi hi z=>h ((BR l []).mpr (.inr {i,hi,z}));[this];2
def Jy{kd:Tp}(h:(M i).kd≠kd):iO M js (l++[i]) ms kd=iO M js l ms kd:=do@iO;yw λp _=>?_;[Je,qB λz=>h z.1]
structure TK(M:Nat->Mk)(js l:List Nat)(ms:List V)(S:To->Prop)(Z:Hp)(kvs:List (Key×V)):Prop where
 keys:kvs.map (·.1)=(kinds M l).map .inr
 val:∀kd∈kinds M l,∃a,bQ kvs (.inr kd)=! (.ref a)/\S a/\Z a=!(.lst (iO M js l ms kd))
 ne:∀kd∈kinds M l,∀kd'∈kinds M l,bQ kvs (.inr kd)=bQ kvs (.inr kd')->kd=kd'
def TK.same{S:To->Prop}(h:TK M js l ms S Z kvs)(s:ag Z Z'):TK M js l ms S Z' kvs:={h.keys,λkd b=>let⟨a,h1,h2,c⟩:=h.val kd b;{a,h1,h2,s _ _ c},h.ne}
def TK.no{S:To->Prop}(h:TK M js l ms S Z kvs){kd:Tp}:bQ kvs (.inr kd)=none↔kd∉kinds M l:=do 1;(z,b);{a,h1,_}:=h.val kd b;h1<-[z];-h1;(b);(by cases e:bQ kvs (.inr kd)with|none|some v=>?_);2;(by exfalso);this:=(m2 (kvs:=kvs) (k:=.inr kd)).trans (do[e];2:(bQ kvs (.inr kd)).isSome=true);{x,g,ex}:=yt.mp this;f:x.1∈kvs.map (·.1):=qc.mpr {x,g,O};f<-[h.keys];{i,c,d}:=qc.mp f;d<-[qN ex];b (Sum.inr.inj d▸c)
def TK.old{S:To->Prop}(h:TK M js l ms S Z kvs)(f:(M i).kd∈kinds M l)(e:bQ kvs (.inr (M i).kd)=! (.ref a))(g:xs=iO M js (l++[i]) ms (M i).kd):TK M js (l++[i]) ms S (upd Z a (.lst xs)) kvs:=do d:kinds M (l++[i])=kinds M l:=(do[LZ,qF f]);{do[d];h.keys,λkd b=>?_,do[d];h.ne};b<-[d];{c,h1,h2,k}:=h.val kd b;z<|(M i).kd=kd;!z;h1<-[e];-h1;{_,e,h2,do[aE,g]};j:c≠a:=λy=>z (h.ne _ f kd b (do[e,h1,y]));{c,h1,h2,do[aB j,Jy z];k}
def TK.new{S:To->Prop}(h:TK M js l ms S Z kvs)(n:(M i).kd∉kinds M l)(sa:S a)(na:∀kd c,bQ kvs (.inr kd)=!(.ref c)->c≠a)(o:xs=iO M js (l++[i]) ms (M i).kd)(p:Z a=! (.lst xs)):TK M js (l++[i]) ms S Z (putK kvs (.inr (M i).kd) (.ref a)):=do g:kinds M (l++[i])=kinds M l++[(M i).kd]:=(do[LZ,qB n]);k:putK kvs (.inr (M i).kd) (.ref a)=kvs++[(.inr (M i).kd,.ref a)]:=J4 _ (h.no.mpr n);m:∀kd,bQ (putK kvs (.inr (M i).kd) (.ref a)) (.inr kd)=if(M i).kd=kd then some (.ref a) else bQ kvs (.inr kd):=λkd=>(do[NK];z<|(M i).kd=kd;[qF z,qF (do[z])];[qB z,qB (λy=>z (Sum.inr.inj y).symm)]);{do[k,zt,h.keys,g,zt];2,λkd b=>?_,λkd b d f e=>?_};[m];z<|(M i).kd=kd;[qF z,<-z];{a,O,sa,do[p,o]};[qB z,Jy z];b<-[g];y||y:=zg.mp b;h.val kd y;absurd (qt.mp y).symm z;e<-[m,m];(by rw[g]at b f);z<|(M i).kd=kd;j<|(M i).kd=d;z.symm.trans j;e<-[qF z,qB j];absurd rfl (na d a e.symm);j<|(M i).kd=d;e<-[qB z,qF j];absurd rfl (na kd a e);e<-[qB z,qB j];y||y:=zg.mp b;y'||y':=zg.mp f;h.ne kd y d y' e;absurd (qt.mp y').symm j;absurd (qt.mp y).symm z
theorem vN{x:V}:∀n:Nat,(List.replicate n [x]).flatten=List.replicate n x| 0=>rfl|n+1=>do[jj,ju,vN n];2
inductive Bv(vs:List V)(H:Hp)(Q:VK)(_:XK):Prop
 |mk(v S M i:_)(_:vs=[v])(_:MN S M H v i)(_:∀kv,DT H kv (.tuple [.int (M i).ka,.int (M i).kb])->Q kv H)
inductive oF(vs:List V)(H:Hp)(Q:VK):Prop
 |mk (fa:To) (F:Nat->To) (S:Nat->Sg) (n:Nat) (M:Nat->Mk) (m:Nat) (N:Nat->Mk) (q:Nat) (xs ms ns:List V) (vp:V) (pt:List Key) (rp:To) (rv:List V) (h0:vs=[.ref fa,vp,.ref rp]) (h1:FS H fa F S n M m N q xs ms ns) (h2:GK H (.tup pt) vp) (h3:Lay pt) (h4:H rp=!(.lst rv)) (h5:AN (NM (cJ S) H) rv 68)
  (h6:∀H' tq kvs,ag H H'->H tq=none->H' tq=!(.dK kvs)->TK M 68 (aI M m pt) ms (λa=>H a=none/\a≠tq) H' kvs->Q (.ref tq) H'):oF vs H Q
def Ba:Sp:=λvs H Q _=>oF vs H Q
section
variable {K:PySem.W.Frag}{vs:List V}{H:Hp}{Q:VK}{E:XK}
end
def pV(x:Tp):List Tp->List Tp|[]=>[x]|y::ys=>if bK (.str x) (.str y)=true then x::y::ys else y::pV x ys
def fe(l:List Tp):List Tp:=l.foldr pV []
theorem Ds(x:Tp):∀l,(pV x l).Perm (x::l)|[]=>.refl _|y::ys=>do@pV;3;.refl _;((Ds x ys).cons y).trans (.swap x y ys)
theorem uN:∀l,(fe l).Perm l|[]=>.refl _|x::l=>(Ds x _).trans ((uN l).cons x)
abbrev Mw(l:List Tp):Prop:=l.Pairwise λa b=>bK (.str a) (.str b)=true
def Qp(h:¬bK (.str x) (.str y)=true)(n:x≠y):bK (.str y) (.str x)=true:=do(by cases q:bK (.str y) (.str x)with|true|false=>?_);2;absurd (PyData.str.inj (D4 (.str x) (.str y) rfl (do 0<|h) q)) n
theorem Ks:∀{l:List Tp},Mw l->x∉l->Mw (pV x l)|[],_,_=>g0 ..|y::ys,h,hx=>do _;{h1,h2}:=wx.mp h;@pV;3;(by rename_i z);wx.mpr {λb a=>?_,h};rfl||a:=qy.mp a;z;uV _ _ _ rfl rfl rfl z (h1 b a);(by rename_i z);wx.mpr ⟨λb a=>?_,Ks h2 λq=>hx (qz _ q)⟩;rfl||a:=qy.mp ((Ds x ys).mem_iff.mp a);Qp z λe=>hx (e▸qm);h1 b a
theorem HJ:∀{l:List Tp},l.Nodup->Mw (fe l)|[],_=>.nil|x::l,h=>Ks (HJ (zx.mp h).2) λz=>(zx.mp h).1 ((uN l).mem_iff.mp z)
theorem HC:∀{xs ys:List Tp},xs.Perm ys->(xs.Pairwise λa b=>bK (.str b) (.str a)=false)->Mw ys->xs=ys|[],ys,p,_,_=>(List.nil_perm.mp p).symm|x::xs,[],p,_,_=>absurd p.length_eq (do 0)|x::xs,y::ys,p,hx,hy=>do e<|x=y;!e;[HC ((List.perm_cons x).mp p) (wx.mp hx).2 (wx.mp hy).2];h1:y∈xs:=(do z||z:=qy.mp (p.mem_iff.mpr qm);absurd z.symm e;z);h2:x∈ys:=(do z||z:=qy.mp (p.mem_iff.mp qm);absurd z e;z);a1:=(wx.mp hx).1 y h1;a2:=(wx.mp hy).1 x h2;a1<-[a2];-a1
def Ow(js:List Tp):(List.range js.length).map (λi=>js.getD i "")=js:=do(by apply yb);(i);[qj];hi<|i<js.length;[yc hi,qe hi];¬some (js.getD i "")=_;[zb,qe hi];2;[List.getElem?_eq_none (do 0<|hi),List.getElem?_eq_none ()];2
def EV{js:List Tp}{ix:List Nat}(nd:js.Nodup)(h:c7 (js.map .str) ix):(ix.map λi=>(js.map V.str).getD i .aS)=(fe js).map V.str:=do e:ix.Perm (List.range js.length):=(by have:=h.1;rwa [qh]at this);d:∀i∈ix,i<js.length:=λi hi=>qv.mp (e.mem_iff.mp hi);j:(ix.map λi=>(js.map V.str).getD i .aS)=(ix.map λi=>js.getD i "").map V.str:=(do[wg];yw λi hi=>?_;¬_=V.str (js.getD i "");[zb,qj,zb,qe (d i hi)];2);[j];(by congr 1);HC (((e.map _).trans (.of_eq (Ow js))).trans (uN js).symm) ?_ (HJ nd);h2:=h.2;(by rw[z8]at h2 ⊢);h2.imp_of_mem λ{a b} k g c=>?_;f:∀i,i∈ix->c8 (js.map .str) i=.str (js.getD i ""):=λi hi=>(do@c8;[zb,qj,zb,qe (d i hi)];2);c<-[f a k,f b g];c
def J3{f:Tp->Option Tn}{l:List Tp}{j:Nat}{kd:Tp}(h:l[j]?=!kd):(l.take (j+1)).filterMap f=(l.take j).filterMap f++(f kd).toList:=do[qu,h,List.filterMap_append];(by cases e:f kd with|none|some d=>?_);[yy,List.filterMap_cons_none e];2;[yy,List.filterMap_cons_some e];2
def ua(M:Nat->Mk)(a:Bool)(k:Nat):Tn:=if a then tD (M k).nm else match(M k).vl with|none=>.none|some z=>.str z
def C0(M:Nat->Mk)(a:Bool):Option Nat->Option Tn|none=>none|some k=>if(M k).vl=none then none else some (.tuple [.str (M k).kd,ua M a k])
def Gy(M:Nat->Mk)(a:Bool)(js l:List Nat)(p:Nat):List Tn:=(fe (kinds M l)).filterMap λkd=>C0 M a (tell M js l kd p)
structure kB(nk:Nat->List Key)(f:Nat->List Tn)(B:To->Prop)(Z:Hp)(kvs:List 67)(js:List Nat):Prop where
 len:kvs.length=js.length
 ent:∀(j:Nat) e i,kvs[j]?=!e->js[j]?=!i->e.1=.tup (nk i)/\NM nk Z e.2.1 i/\∃a zs,e.2.2=.ref a/\B a/\Z a=! (.lst zs)/\dE Z zs (f i)
def kB.to(h:kB nk f B Z kvs js)(t:aj Z Z')(s:∀a zs,B a->Z a=! (.lst zs)->Z' a=! (.lst zs))(b:∀a,B a->B' a):kB nk f B' Z' kvs js := {h.len,λj e i h1 h2=>do _;{m,g,a,zs,l,c,k,d}:=h.ent j e i h1 h2;{m,NM.af g t,a,zs,l,b a c,s a zs c k,d.af t}}
def kB.same(h:kB nk f B Z kvs js)(s:ag Z Z'):kB nk f B Z' kvs js:=h.to s.af (λ_ _ _ e=>s _ _ e) λ_ b=>b
def kB.snoc(h:kB nk f B Z kvs js)(h2:NM nk Z k i)(m:B a)(l:Z a=! (.lst zs))(g:dE Z zs (f i)):kB nk f B Z (kvs++[(.tup (nk i),k,.ref a)]) (js++[i]):=do _;{do[qg,qg,h.len];2,λj e i' c b=>?_};d<|j<js.length;c<-[zu (do[h.len];d)];b<-[zu d];h.ent j e i' c b;b<-[ye ()];c<-[ye (do[h.len];()),h.len];(by cases q:j - js.length with|zero|succ x=>?_;rw[q]at c b);-c;-b;⟨O,h2,a,zs,O,m,l,g⟩;b<-[q];-b
def kB.keys(h:kB nk f B Z kvs js):kvs.map (·.1)=js.map λi=>KD.tup (nk i):=do(by apply yb);(j);[qj,qj];b<|j<js.length;a:j<kvs.length:=(do[h.len];b);[qe b,qe a];congrArg some (h.ent j _ _ (qe a) (qe b)).1;[wz (do[h.len];()),wz ()];2
def N6(nd:js.Nodup)(inj:Inj nk js):(js.map λi=>KD.tup (nk i)).Nodup := z8.mpr (nd.imp_of_mem λ{a b} c d h e=>h (inj a c b d (KD.tup.inj e)))
def kB.get(h:kB nk f B Z kvs js)(nd:js.Nodup)(inj:Inj nk js)(hi:i∈js):∃a zs,vG kvs (.tup (nk i))=! (.ref a)/\B a/\Z a=! (.lst zs)/\dE Z zs (f i):=do _;{j,c}:=jh hi;b:j<kvs.length:=(do[h.len];(qp.mp c).1);{l,m,a,zs,k,e,g,d}:=h.ent j _ i (qe b) c;{a,zs,?_,e,g,d};[<-k];pM (do[h.keys];N6 nd inj) (qe b) l
theorem JI:∀l:List Tp,dE H (l.map V.str) (l.map .str)|[]=>.nil|x::l=>.cons (.str x) (JI l)
inductive oO(vs:List V)(H:Hp)(Q:VK):Prop
 |mk (fa:To) (F:Nat->To) (S:Nat->Sg) (n:Nat) (M:Nat->Mk) (m:Nat) (N:Nat->Mk) (q:Nat) (xs ms ns:List V) (vp:V) (pt:List Key) (pl:Bool) (h0:vs=[.ref fa,vp,.int (if pl then 5 else 4)]) (h1:FS H fa F S n M m N q xs ms ns) (h2:GK H (.tup pt) vp) (h3:Lay pt) (h4:m<=63)
  (h5:∀H' tq kvs,ag H H'->H tq=none->H' tq=! 69->kB (cJ S) (λi=>Gy M pl 68 (aI M m pt) ((aH S n pt).idxOf i)) (λa=>H a=none/\a≠tq) H' kvs (bA S n pt)->(kvs.map (·.2.2)).Nodup->Q (.ref tq) H'):oO vs H Q
def A_:Sp:=λvs H Q _=>oO vs H Q
inductive ov(pl:Bool)(vs:List V)(H:Hp)(Q:VK):Prop
 |mk (fa:To) (F:Nat->To) (S:Nat->Sg) (n:Nat) (M:Nat->Mk) (m:Nat) (N:Nat->Mk) (q:Nat) (xs ms ns:List V) (vp:V) (pt:List Key) (h0:vs=[.ref fa,vp]) (h1:FS H fa F S n M m N q xs ms ns) (h2:GK H (.tup pt) vp) (h3:Lay pt) (h4:m<=63)
  (h5:∀H' tq kvs,ag H H'->H tq=none->H' tq=! 69->kB (cJ S) (λi=>Gy M pl 68 (aI M m pt) ((aH S n pt).idxOf i)) (λa=>H a=none/\a≠tq) H' kvs (bA S n pt)->(kvs.map (·.2.2)).Nodup->Q (.ref tq) H'):ov pl vs H Q
def En:Sp:=λvs H Q _=>ov false vs H Q
section
variable {K:PySem.W.Frag}{vs:List V}{H:Hp}{Q:VK}{E:XK}
end
abbrev gQ:To:=bD
abbrev BL:To:=bf
abbrev MA(H:Hp):Prop:=H cx=!(.tup [.str "",.int 0])
def FQ(H:Hp)(fa:To)(es:List V)(rs:List Pc):Prop:=∃F:Nat->To,Rd H fa (.dK (du F 9))/\H (F 1)=!(.lst es)/\AL (f' H) es rs/\(∀r∈rs,xW r)/\(rs.Pairwise λa b=>bO a.ka a.kb b.ka b.kb)/\es.length<=100
def FB.fq{bs vs cs:List V}(h:FB H fa F bs vs cs rs cu k)(a:k<=100):FQ H fa vs rs:={F,h.dk,h.ev,h.fi.pc,h.fi.w,h.fi.up,qf h.fi.vl a}
def FQ.xw(h:FQ H fa es rs):XW (tl rs):=do _;{F,_,_,d,a,c,b}:=h;Kh a c (do[<-d.1];b)
abbrev O6:Tp:=(("greatest_place":Tp)++".<locals>.")++"<lambda>"
abbrev jF(H:Hp):Prop:=Tb 116 26 O6 gQ H
def jQ(t:jF H)(s:ag (del H gQ) H')(e:H b=!o)(h:∀ps,o≠.cF ps):H' b=!o:=s _ _ (do[bX (λz=>?_)];e;{ps,t}:=t.cF;e<-[z,t];h ps (qJ e).symm)
def x8(t:jF H)(s:ag (del H gQ) H'):aj H H':=λb xs e=>jQ t s e (λps z=>nomatch z)
def S1(t:jF H)(s:ag (del H gQ) H')(r:Rd H a u)(h:∀ps,u≠.cF ps):Rd H' a u:=do e||{o,e}:=r;.inl (jQ t s e h);.inr ⟨o,jQ t s e (λps z=>nomatch z)⟩
def sS(a:To):To->Prop:=λb=>b=a\/b=gQ
def Bx :Sp:=λvs H Q _=>∃fa es rs,vs=[.ref fa]/\FQ H fa es rs/\∀H' dq kvs,ag H H'->H dq=none->H' dq=! 69->AL (EK (f' H') H') kvs (tl rs)->Q (.ref dq) H'
def EZ :Sp:=λvs H Q _=>∃d c f e ys b E p,∃C:List Key->Prop,vs=[.ref d,c,.ref f]/\Rd H d (.dG e)/\AL (EK (iu H) H) e ys/\(ys.map (·.pt)).Nodup/\(∀x∈ys,x.pt≠[])/\ys.length<=100/\Rd H f (.dG b)/\fD b E/\GK H (nd p) c/\C p/\(∀k o,gX ys k=!o->C o) ∧ ∀H' a ws ini las,ag H H'->H a=none->H' a=!(.lst ws)->AL (Cm H') ws (ini++[las])->Rnd.WO (gX ys) E p ini las->ini.length<=101->(∀k∈ini++[las],C k)->Q (.ref a) H'
def CL :Sp:=λvs H Q _=>∃d c a xs ws ls,vs=[.ref d,.ref c]/\Rd H d (.dG a)/\AL (EK (f' H) H) a xs/\(xs.map (·.pt)).Nodup/\H c=!(.lst ws)/\AL (iZ H) ws ls/\ls≠[]/\(∀k∈ls,hp xs k=true)/\jF H ∧ ∀H' v m,ag (del H gQ) H'->jF H'->m∈ls->(∀b∈ls,¬MK xs m b)->GK H' (.tup m) v->Q v H'
abbrev GI:Tp:=(("all_inner_parts":Tp)++".<locals>.")++"<lambda>"
structure fC(H:Hp):Prop where
 ne:gQ≠BL
 a:jF H
 b:Tb 156 41 GI BL H
def s2 :To->Prop:=λb=>b=gQ\/b=BL
section
variable {H H':Hp}
theorem fC.same(t:fC H)(s:ag H H'):fC H':={t.ne,t.a.same s,t.b.same s}
theorem fC.cut{a:To}{o:HO}(t:fC H)(e:H a=!o)(h1:∀ps,o≠.cF ps)(h2:∀c,o≠.ext c)(s:ag (del H a) H'):fC H':={t.ne,t.a.cut e h1 h2 s,t.b.cut e h1 h2 s}
def fC.no(t:fC H){b:To}(h:s2 b):∃ps,H b=!(.cF ps):=do rfl||rfl:=h;t.a.cF;t.b.cF
def b_(t:fC H)(s:ag (cE H (s2)) H')(e:H b=!o)(h:∀ps,o≠.cF ps):H' b=!o:=mM s e λz=>do _;{ps,q}:=t.no z;e<-[q];h ps (qJ e).symm
def tW(t:fC H)(s:ag (cE H (s2)) H'):aj H H':=λb xs e=>b_ t s e (λps z=>nomatch z)
def Qy(t:fC H)(s:ag (cE H (s2)) H')(r:Rd H a u)(h:∀ps,u≠.cF ps):Rd H' a u:=do e||{o,e}:=r;.inl (b_ t s e h);.inr ⟨o,b_ t s e (λps z=>nomatch z)⟩
theorem FB.b_{bs vs cs:List V}(h:FB H fa F bs vs cs rs cu k)(t:fC H)(s:ag (cE H (s2)) H'):FB H' fa F bs vs cs rs cu k := {Qy t s h.dk (λps z=>nomatch z),h.inj,λi h1 h2=>let⟨xs,e⟩:=h.rest i h1 h2;{xs,My.b_ t s e (λps z=>nomatch z)},My.b_ t s h.eb (λps z=>nomatch z),My.b_ t s h.ev (λps z=>nomatch z),My.b_ t s h.ec (λps z=>nomatch z),h.fi.af (tW t s)}
theorem fC.free(t:fC H)(s:ag (cE H (s2)) H')(t':fC H'){b:To}(h:H' b=none):H b=none:=do this:=s.free h;z<|s2 b;{ps,q}:=t'.no z;h<-[q];-h;this<-[ia z];this
def fC.SI(t:fC H)(s:ag (del H gQ) H')(a:jF H'):fC H'/\ag (cE H (s2)) H':=do _;{{t.ne,a,?_},λb u e=>?_};to:∀{b u},b≠gQ->H b=!u->H' b=!u:=λn e=>s _ _ (do[bX n];e);e||{c,e1,e2}:=t.b;.inl (to t.ne.symm e);.inr ⟨c,to t.ne.symm e1,to (λz=>?_) e2⟩;{ps,q}:=t.a.cF;q<-[<-z,e2];-q;d:¬s2 b:=λz=>(do e<-[fJ z];-e);e<-[ia d];s _ _ (do[bX λz=>d (.inl z)];e)
def fC.SG(t:fC H)(s:ag (del H BL) (del H' BL))(f:Tb 156 41 GI BL H'):fC H'/\ag (cE H (s2)) H':=do to:∀{b u},b≠BL->H b=!u->H' b=!u:=λ{b u} n e=>(do this:=s b u (do[bX n];e);this<-[bX n];this);{{t.ne,?_,f},λb u e=>?_};e||{c,e1,e2}:=t.a;.inl (to t.ne e);.inr ⟨c,to t.ne e1,to (λz=>?_) e2⟩;{ps,q}:=t.b.cF;q<-[<-z,e2];-q;d:¬s2 b:=λz=>(do e<-[fJ z];-e);e<-[ia d];to (λz=>d (.inr z)) e
end
theorem up_eq{α:Type}{lt:α->α->Prop}(f:∀a b,lt a b->¬lt b a):∀{xs ys:List α},xs.Pairwise lt->ys.Pairwise lt->(∀a,a∈xs↔a∈ys)->xs=ys|[],ys,_,_,h=>(do(by cases ys with|nil|cons b m=>?_);2;absurd ((h b).mpr List.mem_cons_self) (do 0))|x::xs,[],_,_,h=>absurd ((h x).mp List.mem_cons_self) (do 0)|x::xs,y::ys,hx,hy,h=>do g:=wx.mp hx;i:=wx.mp hy;e:x=y:=(do z||z:=qy.mp ((h x).mp qm);z;w||w:=qy.mp ((h y).mpr qm);w.symm;absurd (i.1 x z) (f _ _ (g.1 y w)));!e;c:¬lt x x:=λz=>f _ _ z z;[up_eq f g.2 i.2 λa=>?_];this:=h a;this<-[qy,qy];1;(d);(this.mp (.inr d)).resolve_left λz=>c (do this:=g.1 a d;this<-[z];this);(d);(this.mpr (.inr d)).resolve_left λz=>c (do this:=i.1 a d;this<-[z];this)
def Rm{α:Type}(js:List α)(d:α):(List.range js.length).map (λi=>js.getD i d)=js:=do(by apply yb);(i);[qj];hi<|i<js.length;[yc hi,qe hi];¬some (js.getD i d)=_;[zb,qe hi];2;[List.getElem?_eq_none (do 0<|hi),List.getElem?_eq_none ()];2
def Np{α:Type}{P:V->α->Prop}{D:α->Tn}(d:α){vs:List V}{ls:List α}{ix:List Nat}(h:AL P vs ls)(g:c7 (ls.map D) ix):∃ms,AL P (ix.map λi=>vs.getD i .aS) ms/\((ms.map D).Pairwise λa b=>bK b a=false)/\ms.Perm ls:=do l:ix.Perm (List.range ls.length):=(by have:=g.1;rwa [qh]at this);f:∀i∈ix,i<ls.length:=λi hi=>qv.mp (l.mem_iff.mp hi);{ix.map λi=>ls.getD i d,{do[qh,qh],λm v r n j=>?_},?_,(l.map _).trans (.of_eq (Rm ls d))};(by rw[qj]at n j);{i,hi,rfl}:=wb.mp n;j<-[hi];-j;e:=f i (qk hi);k:i<vs.length:=(do[h.1];e);h.2 i _ _ ?_ ?_;[zb,qe k];2;¬ls[i]?=!(ls.getD i d);[zb,qe e];2;[wg];h2:=g.2;(by rw[z8]at h2 ⊢);h2.imp_of_mem λ{a b} q p c=>?_;o:∀i,i∈ix->c8 (ls.map D) i=D (ls.getD i d):=λi hi=>(do this:=f i hi;@c8;[zb,qj,zb,qe this];2);c<-[o a q,o b p];c
def NP(H:Hp)(v:V)(x:Pc):Prop:=GK H (.tup x.pt) v
theorem NP.af(h:NP H v x)(t:aj H H'):NP H' v x:=GK.af h t
def MG(x:Pc):Tn:=.tuple [.int x.ka,.int x.kb]
def CP(a b:Pc)(h:bO a.ka a.kb b.ka b.kb):bK (MG a) (MG b)=true:=f7 h
def OU(ls:List Pc):KeysAre (ls.map MG) 2:=do _;{fO λd c=>?_,λd c=>?_,λa e b f=>?_,λd c=>?_};{x,_,rfl}:=qc.mp c;2;{x,_,rfl}:=qc.mp c;(by trivial);{x,_,rfl}:=qc.mp e;{y,_,rfl}:=qc.mp f;2;{x,_,rfl}:=qc.mp c;(by decide:1<=60)
def CZ(P:Pc->Bool)(ms:List Pc)(x:Pc):(ms++[x]).filter P=if P x=true then ms.filter P++[x] else ms.filter P:=do[zy];h<|P x=true;[qF h,vd h,we];[qB h,yf h,we,z6]
def PQ{kd:List 67}(h:AL (EK R H) kd xs):AL (NP H) (kd.map (·.2.1)) xs:=h.map λe x _ _ p=>p.2.1
section
variable {vs:List V}{H:Hp}{Q:VK}{E:XK}
end
def uS{ls:List (List Key)}(h:∀k∈ls,Pn k):PyData.canLayAll0 (ls.map tD)=true/\PyData.depthAll (ls.map tD)<=1 := {fO λd a=>do _;{k,b,rfl}:=qc.mp a;(h k b).lay,oe λd a=>do _;{k,b,rfl}:=qc.mp a;eK k}
structure Ln where
 pt:List Key
 wy:Tp
 nk:List Key
 bh:Option Nat
 ka:Int
 kb:Int
 lv:Bool
def dr(L:Nat->Ln)(i:Nat):List Key:=(L i).nk
def xS(L:Nat->Ln)(i:Nat):Option Nat:=(L i).bh
def MI(L:Nat->Ln)(i:Nat):Tn:=.tuple [.int (L i).ka,.int (L i).kb]
def pw(L:Nat->Ln)(H:Hp)(v:V)(i:Nat):Prop:=∃b a vn c kq,v=.ref b/\H b=!(.tup [a,.str (L i).wy,vn,c,.ref kq,.bl (L i).lv])/\GK H (.tup (L i).pt) a/\NM (dr L) H vn i/\GK H (kd (dr L) (xS L i)) c/\H kq=!(.tup [.int (L i).ka,.int (L i).kb])
theorem pw.af(h:pw L H v i)(t:aj H H'):pw L H' v i:=do _;{b,d,vn,f,kq,e,h1,h2,g,c,a}:=h;{b,d,vn,f,kq,e,t _ _ h1,h2.af t,g.af t,c.af t,t _ _ a}
structure WL(L:Nat->Ln)(n:Nat):Prop where
 cD:n<=1300
 up:∀i j,i<j->j<n->bO (L i).ka (L i).kb (L j).ka (L j).kb
 inj:∀i,i<n->∀j,j<n->(L i).nk=(L j).nk->i=j
 back:∀i,i<n->∀j,(L i).bh=!j->j<i/\(L j).pt=(L i).pt/\(L j).wy=(L i).wy
 lay:∀i,i<n->Lay (L i).nk/\Lay (L i).pt
 wy:∀i,i<n->PyData.strOk (L i).wy=true
def tE(L:Nat->Ln)(pt:List Key)(wy:Tp)(i:Nat):Bool:=decide ((L i).pt=pt)&&decide ((L i).wy=wy)
def cG(L:Nat->Ln)(n:Nat)(pt:List Key)(wy:Tp):List Nat:=(List.range n).filter (tE L pt wy)
def i8(L:Nat->Ln)(n:Nat)(pt:List Key)(wy:Tp):List Nat:=Rga.iJ (Rga.cS (xS L) (cG L n pt wy))
def bW(L:Nat->Ln)(n:Nat)(pt:List Key)(wy:Tp):List Nat:=(i8 L n pt wy).filter λi=>(L i).lv
def WL.vD(W:WL L n)(pt:List Key)(wy:Tp):xQ (dr L) (xS L) (MI L) (cG L n pt wy) 2:=do f:xQ (dr L) (xS L) (MI L) (List.range n) 2:=(do _;{do[zh];this:=W.cD;(),?_,λi hi j l e=>W.inj i (qv.mp hi) j (qv.mp l) e,Rga.ir λi hi b e=>(W.back i hi b e).1,pX λd o=>?_};(tH n).imp_of_mem λ{a b} q m h=>f7 (W.up a b h (qv.mp m));{i,_,rfl}:=qc.mp o;.inl {_,_,O});f.filter λk g c b e=>?_;{h1,h2,p}:=W.back k (qv.mp g) b e;(by unfold tE at c ⊢);[h2,p];c
def DO{pt:List Key}:tE L pt wy i=true↔(L i).pt=pt/\(L i).wy=wy:=do@tE;[zn,decide_eq_true_iff,decide_eq_true_iff]
def OJ{pt:List Key}(W:WL L n):(i8 L n pt wy).length<=n:=do@i8;[Rga.gU (W.vD pt wy).wf];@cG;qf (wj _ _) (do[zh];qb _)
def Sx(H:Hp)(fa:To)(L:Nat->Ln)(n:Nat):Prop:=∃kvs a vs,Rd H fa (.dK kvs)/\bQ kvs (.inr "lines")=! (.ref a)/\H a=!(.lst vs)/\AN (pw L H) vs (List.range n)/\WL L n
structure Ce where
 pt:List Key
 rw:List Key
 cl:List Key
 wd:Tp
 ka:Int
 kb:Int
def mu(C:Nat->Ce)(H:Hp)(v:V)(i:Nat):Prop:=∃b c a vc kq,v=.ref b/\H b=!(.tup [c,a,vc,.str (C i).wd,.ref kq])/\GK H (.tup (C i).pt) c/\GK H (.tup (C i).rw) a/\GK H (.tup (C i).cl) vc/\H kq=!(.tup [.int (C i).ka,.int (C i).kb])
theorem mu.af(h:mu C H v i)(t:aj H H'):mu C H' v i:=do _;{b,f,a,vc,kq,e,h1,h2,g,d,c}:=h;{b,f,a,vc,kq,e,t _ _ h1,h2.af t,g.af t,d.af t,t _ _ c}
def ME(z:Tp):Prop:=z = "" \/ z = "ten" \/ z = "abcdefgh" \/ z = "x"
structure RT(C:Nat->Ce)(m:Nat):Prop where
 cD:m<=100
 up:∀i j,i<j->j<m->bO (C i).ka (C i).kb (C j).ka (C j).kb
 lay:∀i,i<m->Lay (C i).pt/\Lay (C i).rw/\Lay (C i).cl
 wd:∀i,i<m->ME (C i).wd
def LM(W:WL L n){pt:List Key}:(bW L n pt wy).length<=1300:=do@bW;this:=wj (λi=>(L i).lv) (i8 L n pt wy);h2:=OJ (pt:=pt) (wy:=wy) W;this:=W.cD;()
def p5(C:Nat->Ce)(m:Nat)(pt r c:List Key):Tp:=(List.range m).foldl (λacc i=>if(C i).pt=pt/\(C i).rw=r/\(C i).cl=c then(C i).wd else acc) ""
def Km(C:Nat->Ce)(m:Nat)(pt r c:List Key):p5 C (m+1) pt r c=if(C m).pt=pt/\(C m).rw=r/\(C m).cl=c then(C m).wd else p5 C m pt r c:=do@p5;[yx,j4];2
def Le(L:Nat->Ln)(C:Nat->Ce)(m:Nat)(pt:List Key)(a:List Nat)(r:Nat):List V:=a.map λc=>.str (p5 C m pt (dr L r) (dr L c))
def H_(L:Nat->Ln)(C:Nat->Ce)(m:Nat)(pt:List Key)(b:List Nat)(H0 H:Hp)(v:V)(r:Nat):Prop:=∃a,v=.ref a/\H0 a=none/\H a=!(.lst (Le L C m pt b r))
def H_.same{pt:List Key}(h:H_ L C m pt b H0 H v r)(s:ag H H'):H_ L C m pt b H0 H' v r:=do _;{a,h1,h2,c}:=h;{a,h1,h2,s _ _ c}
theorem Mi:∀(kvs acc:List 67),(vG (putAll acc kvs) k).getD d=kvs.foldl (λa e=>if e.1=k then e.2.2 else a) ((vG acc k).getD d)|[],acc=>rfl|e::kvs,acc=>do¬(vG (putAll (pG acc e.1 e.2.1 e.2.2) kvs) k).getD d=_;[Mi kvs,d7,gg];h<|e.1=k;[qF h.symm,qF h];2;[qB (λz=>h z.symm),qB h]
theorem LJ(C:Nat->Ce)(pt r c:List Key):∀m,((List.range m).filter λi=>decide ((C i).pt=pt)).foldl (λa i=>if KD.two (C i).rw (C i).cl=KD.two r c then V.str (C i).wd else a) (V.str "")=.str (p5 C m pt r c)| 0=>rfl|m+1=>do[yx,zy,j4,LJ C pt r c m,Km];hp<|(C m).pt=pt;[List.filter_cons_of_pos (do 0<|hp)];¬(if KD.two (C m).rw (C m).cl=KD.two r c then V.str (C m).wd else _)=_;b<|(C m).rw=r/\(C m).cl=c;[qF (do[b.1,b.2]),qF {hp,b}];[qB (λz=>b (do(by injection z with z1 z2);{z1,z2})),qB (λz=>b z.2)];[List.filter_cons_of_neg (do 0<|hp)];¬V.str _=_;[qB (λz=>hp z.1)]
def y_(H:Hp)(fa:To)(L:Nat->Ln)(n:Nat)(C:Nat->Ce)(m:Nat):Prop:=∃kvs a vs b cs,Rd H fa (.dK kvs)/\bQ kvs (.inr "lines")=! (.ref a)/\H a=!(.lst vs)/\AN (pw L H) vs (List.range n)/\WL L n/\bQ kvs (.inr "cells")=!(.ref b)/\H b=!(.lst cs)/\AN (mu C H) cs (List.range m)/\RT C m
def y_.fl(h:y_ H fa L n C m):Sx H fa L n:=do _;{kvs,c,vs,e,cs,h1,h2,d,b,a,_}:=h;⟨kvs,c,vs,h1,h2,d,b,a⟩
theorem y_.same(h:y_ H fa L n C m)(s:ag H H'):y_ H' fa L n C m:=do _;{kvs,e,vs,k,cs,h1,h2,l,d,c,b,j,a,f}:=h;{kvs,e,vs,k,cs,Rd.same h1 s,h2,s _ _ l,d.imp λv i g=>g.af s.af,c,b,s _ _ j,a.imp λv i g=>g.af s.af,f}
def DQ :Sp:=λvs H Q _=>∃fa a pt wy L n,vs=[.ref fa,a,.str wy]/\Sx H fa L n/\GK H (.tup pt) a/\Lay pt/\∀H' q zs,ag H H'->H q=none->H' q=! (.lst zs)->AN (NM (dr L) H') zs (bW L n pt wy)->Q (.ref q) H'
def Bi :Sp:=λvs H Q _=>∃v C i,vs=[v]/\mu C H v i/\∀a,DT H a (.tuple [.int (C i).ka,.int (C i).kb])->Q a H
def Fu :Sp:=λvs H Q _=>∃fa a pt L n C m,vs=[.ref fa,a]/\y_ H fa L n C m/\GK H (.tup pt) a/\Lay pt/\∀H' dq kvs,ag H H'->H dq=none->H' dq=! 69->(∀r c,(vG kvs (.two r c)).getD (.str "")=.str (p5 C m pt r c))->Q (.ref dq) H'
def Eb :Sp:=λvs H Q _=>∃fa d pt L n C m,vs=[.ref fa,d]/\y_ H fa L n C m/\GK H (.tup pt) d/\Lay pt ∧ ∀H' q b c wp e f ws,ag H H'->H q=none->H' q=!(.tup [.ref b,.ref c,.ref wp])->H b=none->H c=none->H wp=none->b≠c->b≠wp->c≠wp->H' b=!(.lst e)->H' c=!(.lst f)->H' wp=some (.lst ws)-> AN (NM (dr L) H') e (bW L n pt "row")->AN (NM (dr L) H') f (bW L n pt "column")->AN (H_ L C m pt (bW L n pt "column") H H') ws (bW L n pt "row")->ws.Nodup->(∀a,V.ref a∈ws->a≠b/\a≠c/\a≠wp)->Q (.ref q) H'
inductive uA{A B:Type}(p:A->B->Prop):Prop
 |mk (a1:A) (b1:B) (h:p a1 b1):uA p
inductive vC{A B C:Type}(p:A->B->C->Prop):Prop
 |mk (a1:A) (b1:B) (c1:C) (h:p a1 b1 c1):vC p
inductive Gn{A B C D:Type}(p:A->B->C->D->Prop):Prop
 |mk (a1:A) (b1:B) (c1:C) (d1:D) (h:p a1 b1 c1 d1):Gn p
inductive AF{A B C D E F:Type}(p:A->B->C->D->E->F->Prop):Prop
 |mk (a1:A) (b1:B) (c1:C) (d1:D) (e1:E) (f1:F) (h:p a1 b1 c1 d1 e1 f1):AF p
inductive AD{A B C D E F G H:Type}(p:A->B->C->D->E->F->G->H->Prop):Prop
 |mk (a1:A) (b1:B) (c1:C) (d1:D) (e1:E) (f1:F) (g1:G) (h1:H) (h:p a1 b1 c1 d1 e1 f1 g1 h1):AD p
inductive gF(A B C D:Prop):Prop
 |mk(a1:A)(b1:B)(c1:C)(d1:D)
inductive m_(A B C D E F:Prop):Prop
 |mk(a1:A)(b1:B)(c1:C)(d1:D)(e1:E)(f1:F)
section
variable {a:To}{o:Obj}{xs:List V}{kvs:List 67}{lo:Int}{n:Nat}{g:TG}{t u tb:TS}{D:Ends}{σ:L2.St}{H:Hp}{tt:TT}{Q:Bool->Hp->Prop}
def bN(b:Nat->L2.St->Hp->Prop)(h0:b 0 σ H)(e:∀i σ H,i<=xs.length->b i σ H->az H a xs)(d:∀i x σ H,xs[i]?=!x->b i σ H->∀N:L2.St->Hp->Prop,(∀σ H,b (i+1) σ H->N σ H)->g x σ H λc H2=>tb {D with nx:=N,ct:=N,bk:=D.nx} c H2)(f:∀σ H,b xs.length σ H->D.nx σ H):=Bj (a:=a) (g:=g) (tb:=tb) b h0 e (λi x σ H p q=>d i x σ H p q _ λ_ _ h=>h) f
def bY(a:Nat->L2.St->Hp->Prop)(h0:a 0 σ H)(d:∀i σ H,i<n->a i σ H->∀N:L2.St->Hp->Prop,(∀σ H,a (i+1) σ H->N σ H)->g (.int (lo+i)) σ H λb H2=>tb {D with nx:=N,ct:=N,bk:=D.nx} b H2)(c:∀σ H,a n σ H->D.nx σ H):=RF (g:=g) (tb:=tb) a h0 (λi σ H p q=>d i σ H p q _ λ_ _ h=>h) c
def iE(b:Nat->L2.St->Hp->Prop)(h0:b 0 σ H)(f:∀i σ H,b i σ H->H a=! (.dA o 69))(d:∀i e σ H,kvs[i]?=!e->b i σ H->∀N:L2.St->Hp->Prop,(∀σ H,b (i+1) σ H->N σ H)->g e.2.1 σ H λc H2=>tb {D with nx:=N,ct:=N,bk:=D.nx} c H2)(j:∀σ H,b kvs.length σ H->D.nx σ H):=Nr (g:=g) (tb:=tb) b h0 f (λi x σ H p q=>d i x σ H p q _ λ_ _ h=>h) j
def lT(b:Nat->L2.St->Hp->Prop)(h0:b 0 σ H)(f:∀i σ H,b i σ H->H a=! (.dA o 69))(d:∀i e σ H p,kvs[i]?=!e->b i σ H->H p=none->∀N:L2.St->Hp->Prop,(∀σ H,b (i+1) σ H->N σ H)->g (.ref p) σ (upd H p (.tup [e.2.1,e.2.2])) λc H2=>tb {D with nx:=N,ct:=N,bk:=D.nx} c H2)(j:∀σ H,b kvs.length σ H->D.nx σ H):=Ot (g:=g) (tb:=tb) b h0 f (λi x σ H p q r s=>d i x σ H p q r s _ λ_ _ h=>h) j
def rY(P:L2.St->Hp->Prop)(h1:∀N:L2.St->Hp->Prop,(∀σ H,P σ H->N σ H)->t {D with nx:=N} σ H)(h2:∀σ H,P σ H->u D σ H):Jh t u D σ H:={P,h1 P λ_ _ h=>h,h2}
def o_(P:Bool->Hp->Prop)(h1:∀N:Bool->Hp->Prop,(∀b H,P b H->N b H)->tt σ H N)(h2:∀b H,P b H->Q b H):AC tt σ H Q:={P,h1 P λ_ _ h=>h,h2}
def Na{R:(L2.St->Hp->Prop)->Prop}{B:(L2.St->Hp->Prop)->Prop}(P:L2.St->Hp->Prop)(h1:R P)(h2:∀N:L2.St->Hp->Prop,(∀σ H,P σ H->N σ H)->B N):∃N:L2.St->Hp->Prop,R N/\B N:={P,h1,h2 P λ_ _ h=>h}
end
def sV(h:c<e\/c=e/\d<=d')(g:bO a b c d):bO a b e d':=by unfold bO at g ⊢;omega
section
variable {g:List Key->Option (List Key)}{E:List Key->Prop}{p l l':List Key}{i i':List (List Key)}
theorem ph(h:Rnd.WO g E p i l)(h':Rnd.WO g E p i' l'):∀n:Nat,n<(i++[l]).length->n<(i'++[l']).length->(i++[l])[n]?=(i'++[l'])[n]?| 0,_,_=>(do[<-ub,<-ub,h.hd,h'.hd])|n+1,a,b=>do e:=ph h h' n () ();c:=qe (show n<(i++[l]).length from ());f:=h.ch n _ _ c (qe a);d:=h'.ch n _ _ (e.symm.trans c) (qe b);[qe a,qe b,qJ (f.symm.trans d)]
def Aw(h:Rnd.WO g E p i l)(h':Rnd.WO g E p i' l'):¬i.length<i'.length:=λz=>do f:(i++[l]).length=i.length+1:=(do[qg,qr]);c:(i'++[l']).length=i'.length+1:=(do[qg,qr]);e:=ph h h' i.length () ();e<-[ye (qb _),j3,zu z,qe z];e:l=i'[i.length]:=qJ e;b:l∈i':=e▸y0 z;y||{_,y||y}:=h.en;{r,a,d}:=zv.mp y;q:=ph h h' r () ();q<-[zu a,zu (),qe a,qe ()];yv.mp (nj.mp h'.nd) r i.length () z a (do[<-qJ q,d,e]);h'.Gj b y;h'.out _ b y
def mE(h:Rnd.WO g E p i l)(h':Rnd.WO g E p i' l'):i=i'/\l=l':=do e:i.length=i'.length:=(do this:=Aw h h';this:=Aw h' h;());q:i++[l]=i'++[l']:=yb λn=>(do z<|n<(i++[l]).length;ph h h' n z (by rw[qg,qr]at z ⊢;omega);[wz (),wz (by rw[qg,qr]at z ⊢;omega)]);{a,b}:=List.append_inj q e;{a,by injection b}
end
inductive rA(xs:List Pc):Nat->(List Key->Prop)->(List Key->Prop)->Prop
 |z:rA xs 0 (λ_=>False) λ_=>False
 |no {j E T x ini las}:rA xs j E T->xs[j]?=!x->Rnd.WO (gX xs) E x.pt ini las->las∉ini->rA xs (j+1) (λk=>E k\/k∈ini++[las]) T
 |yes {j E T x ini las r m}:rA xs j E T->xs[j]?=!x->Rnd.WO (gX xs) E x.pt ini las->(∃h:r<ini.length,ini[r]=las)->m∈ini.drop r->(∀b∈ini.drop r,¬MK xs m b)->rA xs (j+1) (λk=>E k\/k∈ini++[las]) λk=>k=m\/T k
def rA.eq(W:XW xs)(h:rA xs j E T):∀{i f:List Key->Prop},rA xs j i f->E=i/\T=f:=do(by induction h with|z|no h e w n g|yes h e w q m x g=>?_);(i,f,h');-h';{O,O};(i,f,h');(by cases h' with|no h2 c d l|yes h2 c d k _ _=>?_);{rfl,rfl}:=g h2;c<-[e];-c;{rfl,rfl}:=mE w d;{O,O};{rfl,rfl}:=g h2;c<-[e];-c;{rfl,rfl}:=mE w d;{a,b}:=k;absurd (b▸y0 a) n;(i,f,h');(by cases h' with|no h2 c d l|yes h2 c d k o s=>?_);{rfl,rfl}:=g h2;c<-[e];-c;{rfl,rfl}:=mE w d;{a,b}:=q;absurd (b▸y0 a) l;{rfl,rfl}:=g h2;c<-[e];-c;{rfl,rfl}:=mE w d;{a,b}:=q;{a2,r}:=k;p:=(List.getElem_inj w.nd (h₀:=a) (h₁:=a2)).mp (b.trans r.symm);!p;this:=(W.SW _ _ (w.Gj (kg m)) (w.Gj (kg o))).resolve_right λz=>z.elim (x _ o) (s _ m);[this];{O,O}
def vO(w:List (List Key))(k:List Key):Bool:=w.any λx=>decide (x=k)
def HW:vO w k=true↔k∈w:=do@vO;0
inductive s_(ys:List Pc):Nat->(List Key->Option Bool)->Prop
 |z:s_ ys 0 λk=>if k=aN then some true else none
 |s {j f x} {ini:List (List Key)} {las:List Key}:s_ ys j f->ys[j]?=!x->Rnd.WO (gX ys) (λk=>f k≠none) x.pt ini las->s_ ys (j+1) λk=>if vO (ini++[las]) k=true then some ((f las).getD false) else f k
def s_.eq(h:s_ ys j f):∀{a:List Key->Option Bool},s_ ys j a->f=a:=do(by induction h with|z|s h e w d=>?_);(a,h');-h';2;(a,h');(by cases h' with|s h2 b c=>?_);this:=d h2;!this;b<-[e];-b;{rfl,rfl}:=mE w c;2
structure ZW(ys:List Pc):Prop where
 nd:(ys.map (·.pt)).Nodup
 pt:∀x∈ys,Nm x.pt
 ou:∀x∈ys,Qn x.ou
 cD:ys.length<=100
 Gx:∀x∈ys,∀y∈ys,x=y\/bO x.ka x.kb y.ka y.kb\/bO y.ka y.kb x.ka x.kb
def ZW.Rv(W:ZW ys)(P:Pc->Bool):ZW (ys.filter P) := {W.nd.sublist ((kh).map _),λx a=>W.pt x (qw.mp a).1,λx a=>W.ou x (qw.mp a).1,qf (wj _ _) W.cD,λx a y b=>W.Gx x (qw.mp a).1 y (qw.mp b).1}
theorem ZW.map(W:ZW ys)(h:∀x,(F x).pt=x.pt/\(F x).ka=x.ka/\(F x).kb=x.kb)(o:∀x∈ys,Qn (F x).ou):ZW (ys.map F):=do e:(ys.map F).map (·.pt)=ys.map (·.pt):=(do[wg];yw λx _=>(h x).1);{e▸W.nd,λx a=>?_,λx a=>?_,do[qh];W.cD,λx a y c=>?_};{z,hz,rfl}:=qc.mp a;[(h z).1];W.pt z hz;{z,hz,rfl}:=qc.mp a;o z hz;{z,hz,rfl}:=qc.mp a;{u,b,rfl}:=qc.mp c;[(h z).2.1,(h z).2.2,(h u).2.1,(h u).2.2];(W.Gx z hz u b).imp (λe=>do[e]) id
def sv(f:List Key->Option Bool)(x:Pc):Pc:=if f x.pt=some true then x else{x with ou:=[]}
def pA(f:List Key->Option Bool)(x:Pc):(sv f x).pt=x.pt/\(sv f x).ka=x.ka/\(sv f x).kb=x.kb:=do@sv;by split <;> exact{O,O,O}
def Ae(x:Pc):(d8 T x).pt=x.pt/\(d8 T x).ka=x.ka/\(d8 T x).kb=x.kb:=do@d8;by split <;> exact{O,O,O}
def XW.zw(W:XW xs)(T:List Key->Prop):ZW (xs.map (d8 T)) := ZW.map {W.nd,λx a=>(W.w x a).pt,λx a=>.inr (W.w x a).ou,W.cD,W.Gx} Ae λx a=>.inr (zE (W.w x a)).ou
def rD(rs zs:List Pc):Prop:=∃E T f,rA (tl rs) (tl rs).length E T/\s_ ((tl rs).map (d8 T)) (tl rs).length f/\zs=((tl rs).map (d8 T)).map (sv f)
theorem rD.zw(h:rD rs zs)(W:XW (tl rs)):ZW zs:=do _;{E,T,f,_,_,rfl}:=h;(W.zw T).map (pA f) λx a=>?_;@sv;3;(W.zw T).ou x a;.inl rfl
theorem rD.eq(h:rD rs zs)(W:XW (tl rs))(h':rD rs c):zs=c:=do _;{E,T,f,a,b,rfl}:=h;{j,g,i,e,d,rfl}:=h';{rfl,rfl}:=a.eq W e;[b.eq d]
def J1(rs:List Pc)(cu:List (List Key))(zs:List Pc)(g:List Key->Option Bool):Prop:=rD rs zs/\s_ (zs.filter (lfp cu)) (zs.filter (lfp cu)).length g
theorem J1.eq{g g':List Key->Option Bool}(h:J1 rs cu zs g)(W:XW (tl rs))(h':J1 rs cu a g'):zs=a/\g=g':=do this:=h.1.eq W h'.1;!this;{O,h.2.eq h'.2}
structure RN(H:Hp)(ys:List Pc)(f:List Key->Option Bool)(kr:List 67):Prop where
 kn:(kr.map (·.1)).Nodup
 ent:∀e∈kr,∃k,k∈nodes ys/\e.1=nd k/\GK H (nd k) e.2.1
 at_:∀k,vG kr (nd k)=(f k).map V.bl
section
variable {H H':Hp}{ys:List Pc}{f:List Key->Option Bool}{kr:List 67}
theorem RN.af(h:RN H ys f kr)(t:aj H H'):RN H' ys f kr:={h.kn,λe a=>let⟨k,h1,h2,b⟩:=h.ent e a;{k,h1,h2,b.af t},h.at_}
def RN.cD(h:RN H ys f kr)(d:ys.length<=100):kr.length<=201:=do this:=HG (kr.map (·.1)) ((nodes ys).map My.nd) h.kn λa c=>(do _;{e,b,rfl}:=qc.mp c;{k,h1,h2,_}:=h.ent e b;qc.mpr {k,h1,h2.symm});this<-[qh,qh];(by unfold nodes at this);this<-[zd,qg,qh,qh];()
def RN.put(h:RN H ys f kr){k:List Key}{y:V}(c:Bool)(j:k∈nodes ys)(g:GK H (My.nd k) y):RN H ys (λa=>if a=k then some c else f a) (pG kr (My.nd k) y (.bl c)) where
 kn:=OM h.kn _ _ _
 ent:=λe i=>by
  rcases Ig i with rfl|⟨e',he',h1,h2⟩
  .exact⟨k,j,O,g⟩
  .obtain⟨l,m,b,d⟩:=h.ent e' he'
   exact{l,m,h1.symm.trans b,by rw[←h2];exact d}
 at_:=λa=>by
  rw[d7];show _=(if a=k then some c else f a).map V.bl
  by_cases z:a=k
  .subst z;rw[qF rfl,qF rfl];rfl
  .rw[qB (λy=>z (qV y)),qB z];exact h.at_ a
def RN.sn(h:RN H ys f kr):fD kr (λk=>f k≠none):=λk=>do¬(_↔f k≠none);[h.at_ k];(by cases q:f k with|none|some b=>?_);{λz=>absurd z qo,λz=>absurd rfl z};{(λ_ z=>nomatch z),λ_=>rfl}
def RN.one(g:GK H (.tup aN) y):RN H ys (λk=>if k=aN then some true else none) [((.tup aN,y,.bl true):KD×V×V)] where
 kn:=zx.mpr {(λz=>nomatch z),v9}
 ent:=λe c=>by rw[qt.mp c];exact{aN,qm,O,g}
 at_:=λk=>by
  have h:=d7 ([]:List 67) (.tup aN) (My.nd k) y (.bl true);rw[show pG ([]:List 67) (.tup aN) y (.bl true)=[(.tup aN,y,.bl true)] from rfl]at h;rw[h];show _=(if k=aN then some true else none:Option Bool).map V.bl
  by_cases z:k=aN
  .rw[qF z,qF (by rw[z];rfl)];rfl
  .rw[qB z,qB (λq:My.nd k=KD.tup aN=>z (qV (a:=k) (b:=aN) q))];rfl
end
structure rF(zs:List Pc)(G:List Key->Prop)(p:List Key)(l:List Pc):Prop where
 up:l.Pairwise λa b=>bO a.ka a.kb b.ka b.kb
 mem:∀x,x∈l↔(x∈zs/\x.ou=p/\G x.pt)
def rF.eq(h:rF zs G p l)(g:rF zs G p m):l=m := up_eq (lt:=λa b:Pc=>bO a.ka a.kb b.ka b.kb) (λa b h1 h2=>by unfold bO at h1 h2;omega) h.up g.up λx=>(h.mem x).trans (g.mem x).symm
open Classical in
noncomputable def Fg(G:List Key->Prop)(p:List Key)(x:Pc):Bool:=decide (x.ou=p/\G x.pt)
def xK:Fg G p x=true↔(x.ou=p/\G x.pt):=do@Fg;0
def A7(h:¬(x.ou=p/\G x.pt)):Fg G p x=false:=gw.mpr λz=>h (xK.mp z)
def QU{zs ms:List Pc}{G:List Key->Prop}{p:List Key}(c:ms.Pairwise λa b=>bO a.ka a.kb b.ka b.kb)(d:∀x,x∈ms↔x∈zs):rF zs G p (ms.filter (Fg G p)) := {c.sublist kh,λx=>do[qw,d,xK]}
def Q5{zs:List Pc}(W:ZW zs){D:Pc->Tn}(f:∀a b:Pc,bO a.ka a.kb b.ka b.kb->bK (D a) (D b)=true){ms:List Pc}(c:(ms.map D).Pairwise λa b=>bK b a=false)(hn:ms.Nodup)(d:∀x∈ms,x∈zs):ms.Pairwise λa b=>bO a.ka a.kb b.ka b.kb:=do c:=z8.mp c;List.Pairwise.imp_of_mem (λ{a b} i g h=>?_) (c.and (nj.mp hn));e||e||e:=W.Gx a (d a i) b (d b g);absurd e h.2;e;h<-[f _ _ e];absurd h.1 Bool.true_eq_false.mp
structure qS(G:List Key->Prop)(ms:List Pc)(H0 H:Hp)(dq:To)(kvs:List 67):Prop where
 has:H dq=! 69
 each:∀p,(vG kvs (nd p)=none/\ms.filter (Fg G p)=[])\/∃q vs,vG kvs (nd p)=! (.ref q)/\H q=!(.lst vs)/\AL (NP H) vs (ms.filter (Fg G p))/\H0 q=none
 inj:∀k k' q,vG kvs k=! (.ref q)->vG kvs k'=! (.ref q)->k=k'
 live:∀k q,vG kvs k=! (.ref q)->∃xs,H q=! (.lst xs)
section
variable {ms:List Pc}{G:List Key->Prop}{H0 H H':Hp}{dq q:To}{kvs:List 67}{x:Pc}{vn vk:V}{vs:List V}
def qS.same(h:qS G ms H0 H dq kvs)(s:ag H H'):qS G ms H0 H' dq kvs where
 has:=s _ _ h.has
 each:=λk=>by
  rcases h.each k with z|⟨q,vs,h1,h2,h3,h4⟩
  .exact .inl z
  .exact .inr ⟨q,vs,h1,s _ _ h2,h3.imp λv i g=>NP.af g s.af,h4⟩
 inj:=h.inj
 live:=λk q e=>let⟨xs,z⟩:=h.live k q e;{xs,s _ _ z}
def qS.skip(h:qS G ms H0 H dq kvs)(a:¬G x.pt):qS G (ms++[x]) H0 H dq kvs := {h.has,λp=>do[CZ,qB (do[A7 λz=>a z.2];qo)];h.each p,h.inj,h.live}
def qS.old(h:qS G ms H0 H dq kvs)(l:G x.pt)(e:vG kvs (nd x.ou)=! (.ref q))(eq:H q=!(.lst vs))(m:NP H vn x):qS G (ms++[x]) H0 (upd H q (.lst (vs++[vn]))) dq kvs where
 has:=by rw[aB (λz=>by rw[←z,h.has]at eq;cases eq)];exact h.has
 inj:=h.inj
 live:=λk a n=>by
  by_cases z:a=q
  .subst z;exact{_,aE}
  .obtain⟨xs,y⟩:=h.live k a n
   exact{xs,by rw[aB z];exact y}
 each:=λk=>by
  have j:aj H (upd H q (.lst (vs++[vn]))):=aj.wl eq;rw[CZ]
  by_cases d:x.ou=k
  .subst d
   rw[qF (xK.mpr {O,l})];rcases h.each x.ou with⟨z,_⟩|⟨a,b,h1,h2,f,c⟩
   .rw[z]at e;cases e
   .rw[e]at h1
    cases h1;rw[eq]at h2;cases h2;exact .inr {q,_,e,aE,(f.snoc m).imp λv i g=>NP.af g j,c}
  .rw[qB (by rw[A7 λz=>d z.1];exact qo)]
   rcases h.each k with z|⟨a,b,h1,h2,f,c⟩
   .exact .inl z
   .refine .inr ⟨a,b,h1,?_,f.imp λv i g=>NP.af g j,c⟩
    have nq:a≠q:=λz=>d (qV (h.inj _ _ q e (by rw[←z];exact h1)))
    rw[aB nq];exact h2
def qS.first(h:qS G ms H0 H dq kvs)(t:G x.pt)(e:vG kvs (nd x.ou)=none)(p:H0 q=none)(eq:H q=!(.lst []))(b:∀k,vG kvs k≠some (.ref q))(u:NP H vn x):qS G (ms++[x]) H0 (upd (upd H dq (.dG (pG kvs (nd x.ou) vk (.ref q)))) q (.lst [vn])) dq (pG kvs (nd x.ou) vk (.ref q)) where
 has:=by rw[aB (λz=>by rw[←z,h.has]at eq;cases eq),aE]
 inj:=λk n a h1 h2=>by
  rw[d7]at h1 h2
  by_cases o:k=nd x.ou
  .by_cases j:n=nd x.ou
   .rw[o,j]
   .rw[qF o]at h1
    rw[qB j]at h2;cases h1;exact absurd h2 (b n)
  .rw[qB o]at h1
   by_cases j:n=nd x.ou
   .rw[qF j]at h2
    cases h2;exact absurd h1 (b k)
   .rw[qB j]at h2
    exact h.inj _ _ _ h1 h2
 live:=λk a f=>by
  by_cases z:a=q
  .subst z;exact{_,aE}
  .rw[d7]at f
   by_cases c:k=nd x.ou
   .rw[qF c]at f
    cases f;exact absurd rfl z
   .rw[qB c]at f
    obtain⟨xs,y⟩:=h.live k a f
    have l:a≠dq:=λz=>by rw[z,h.has]at y;cases y
    exact{xs,by rw[aB z,aB l];exact y}
 each:=λk=>by
  have nq:q≠dq:=λz=>by rw[z,h.has]at eq;cases eq
  have w:aj H (upd H dq (.dG (pG kvs (nd x.ou) vk (.ref q)))):=aj.wd h.has
  have m:(upd H dq (.dG (pG kvs (nd x.ou) vk (.ref q)))) q=!(.lst []):=by rw[aB nq];exact eq
  have r:=w.trans (aj.wl (o':=.lst [vn]) m);rw[CZ,d7]
  by_cases c:x.ou=k
  .subst c
   rw[qF rfl,qF (xK.mpr {O,t})];rcases h.each x.ou with⟨_,z⟩|⟨a,d,h1,_⟩
   .rw[z]
    exact .inr ⟨q,[vn],O,aE,.cons (u.af r) .nil,p⟩
   .rw[e]at h1;cases h1
  .rw[qB (λz:nd k=nd x.ou=>c (qV z.symm)),qB (show ¬Fg G k x=true by rw[A7 λz=>c z.1];exact qo)]
   rcases h.each k with z|⟨a,d,h1,h2,h3,h4⟩
   .exact .inl z
   .refine .inr ⟨a,d,h1,?_,h3.imp λv i g=>NP.af g r,h4⟩
    have s:a≠q:=λz=>b _ (z▸h1)
    have l:a≠dq:=λz=>by rw[z,h.has]at h2;cases h2
    rw[aB s,aB l];exact h2
end
inductive Df(vs:List V)(H:Hp)(Q:VK)(_:XK):Prop
 |mk(tq kt xs:_)(_:vs=[.ref tq])(_:Rd H tq (.dG kt))(_:AL (EK (f' H) H) kt xs)(_:XW xs)(_:jF H)(_:∀H' ta ku E T,ag (cE H (sS tq)) H'->Rd H' tq (.dG kt)->jF H'->H ta=none->H' ta=!(.dG ku)->rA xs xs.length E T->SM ku T->Q (.ref ta) H')
inductive Gc(vs:List V)(H:Hp)(Q:VK)(_:XK):Prop
 |mk(tq kt xs:_)(_:vs=[.ref tq])(_:Rd H tq (.dG kt))(_:AL (EK (f' H) H) kt xs)(_:XW xs)(_:jF H)(_:MA H)(_:∀H' sa ks E T,ag (cE H (sS tq)) H'->jF H'->H sa=none->H' sa=!(.dG ks)->rA xs xs.length E T->AL (EK (pS H') H') ks (xs.map (d8 T))->Q (.ref sa) H')
inductive D9(vs:List V)(H:Hp)(Q:VK)(_:XK):Prop
 |mk(oa ko ys:_)(_:vs=[.ref oa])(_:Rd H oa (.dG ko))(_:AL (EK (iu H) H) ko ys)(_:ZW ys)(_:MA H)(_:∀H' ra kr f,ag (del H oa) H'->Rd H' oa (.dG ko)->H ra=none->H' ra=!(.dG kr)->RN H' ys f kr->s_ ys ys.length f->(∀x∈ys,f x.pt≠none)->Q (.ref ra) H')
inductive BS(vs:List V)(H:Hp)(Q:VK)(_:XK):Prop
 |mk(fa es rs:_)(_:vs=[.ref fa])(_:FQ H fa es rs)(_:jF H)(_:MA H)(_:∀H' da kd zs,ag (del H gQ) H'->jF H'->H da=none->H' da=!(.dG kd)->rD rs zs->AL (EK (iu H') H') kd zs->Q (.ref da) H')
inductive EC(vs:List V)(H:Hp)(Q:VK)(_:XK):Prop
 |mk(fa F bs es cs rs cu k da kd zs:_)(_:vs=[.ref fa,.ref da])(_:FB H fa F bs es cs rs cu k)(_:k<=100)(_:Rd H da (.dG kd))(_:AL (EK (iu H) H) kd zs)(_:ZW zs)(_:MA H)(_:∀H' qa kq g,ag (del H da) H'->Rd H' da (.dG kd)->H qa=none->H' qa=!(.dG kq)->s_ (zs.filter (lfp cu)) (zs.filter (lfp cu)).length g->fD kq (λk=>g k=!true)->Q (.ref qa) H')
def GT(g:List Key->Option Bool)(k:List Key):Prop:=g k=!true
inductive Fl(vs:List V)(H:Hp)(Q:VK)(_:XK):Prop
 |mk(fa F bs es cs rs cu k:_)(_:vs=[.ref fa])(_:FB H fa F bs es cs rs cu k)(_:k<=63)(_:(tl rs).length<=62)(_:fC H)(_:MA H)(_:∀H' da kd zs g,ag (cE H s2) H'->fC H'->H da=none->H' da=!(.dG kd)->J1 rs cu zs g->(∀p,Pn p->(vG kd (.tup p)=none/\rF zs (GT g) p [])\/∃q ws l,vG kd (.tup p)=! (.ref q)/\H q=none/\H' q=!(.lst ws)/\AL (NP H') ws l/\rF zs (GT g) p l)->Q (.ref da) H')
section
variable {vs:List V}{H:Hp}{Q:VK}{E:XK}
end
def rD.len(h:rD rs zs):zs.length=(tl rs).length:=do _;{E,T,f,_,_,rfl}:=h;[qh,qh]
def rD.of(h:rD rs zs)(d:x∈zs):∃z∈tl rs,x.pt=z.pt/\x.ka=z.ka/\x.kb=z.kb:=do _;{E,T,f,_,_,rfl}:=h;{y,c,rfl}:=qc.mp d;{z,hz,rfl}:=qc.mp c;a:=pA f (d8 T z);b:=Ae (T:=T) z;{z,hz,a.1.trans b.1,a.2.1.trans b.2.1,a.2.2.trans b.2.2}
def kB.xE{nk:Nat->List Key}{f:Nat->List Tn}{B:To->Prop}{Z:Hp}{kvs:List 67}{js:List Nat}(h:kB nk f B Z kvs js)(nd:(kvs.map (·.2.2)).Nodup){k:KD}{y:V}{a:To}(g:Z a=none):((kvs++[(k,y,V.ref a)]).map (·.2.2)).Nodup:=do[zt];yk.mpr {nd,g0 _ _,λx i z hz e=>?_};{t,n,rfl}:=qc.mp i;e<-[qt.mp hz];{j,d}:=jh n;m:j<js.length:=(do[<-h.len];(qp.mp d).1);{_,_,c,zs,l,_,b,_}:=h.ent j t _ d (qe m);e:t.2.2=.ref a:=e;e<-[l];-e;b<-[g];-b
def dR(a b:Tp):decide (V.str a=V.str b)=decide (a=b):=do h<|a=b;[h,qH rfl,qH rfl];[decide_eq_false h,decide_eq_false λz=>h (by injection z)]
def O7{α:Type}(x:α)(xs:List α):nW (x::xs) 0=!x:=do@nW;e:sE (x::xs).length 0=some 0:=(do@sE;[zd,qF (),qF ()];2);[e];2
def E8(H:Hp)(v:V):Prop:=∃p,GK H (.tup p) v/\Pn p
theorem E8.af(h:E8 H v)(t:aj H H'):E8 H' v:=let⟨p,g,q⟩:=h;{p,g.af t,q}
theorem xN{α:Type}{P:V->α->Prop}:∀{ys:List V},(∀y∈ys,∃k,P y k)->∃ks:List α,ks.length=ys.length/\∀(m:Nat) y k,ys[m]?=!y->ks[m]?=!k->P y k|[],_=>{[],O,λm y k z=>do z<-0}|y::ys,h=>do _;{k,c}:=h y qm;{ks,a1,a2}:=xN λz hz=>h z (qz _ hz);{k::ks,do[zd,zd,a1],λm z j b a=>?_};(by cases m with|zero|succ m=>?_);-b;-a;c;a2 m z j (do 0<|b) (do 0<|a)
def Mz(H:Hp)(v:V)(a:Int×Int):Prop:=∃b d p h t y c,v=.ref b/\H b=!(.tup [d,.str h,.str t,.bl y,.ref c])/\GK H (.tup p) d/\Pn p/\H c=!(.tup [.int a.1,.int a.2])/\PyData.strOk h=true/\PyData.strOk t=true
def LR(H:Hp)(v:V):Prop:=∃a,Mz H v a
theorem Mz.af(h:Mz H v a)(s:aj H H'):Mz H' v a:=do _;{b,f,p,x,t,y,c,e,h1,h2,i,d,g}:=h;{b,f,p,x,t,y,c,e,s _ _ h1,h2.af s,i,s _ _ d,g}
theorem LR.af(h:LR H v)(s:aj H H'):LR H' v:=let⟨a,g⟩:=h;{a,g.af s}
structure Lf where
 pt:List Key
 hd:Tp
 to:Tp
 ys:Bool
 ka:Int
 kb:Int
def LX(H:Hp)(v:V)(l:Lf):Prop:=∃b a c,v=.ref b/\H b=!(.tup [a,.str l.hd,.str l.to,.bl l.ys,.ref c])/\GK H (.tup l.pt) a/\Pn l.pt/\H c=!(.tup [.int l.ka,.int l.kb])/\PyData.strOk l.hd=true/\PyData.strOk l.to=true
theorem LX.af(h:LX H v l)(s:aj H H'):LX H' v l:=do _;{b,d,c,e,h1,h2,g,a,f}:=h;{b,d,c,e,s _ _ h1,h2.af s,g,s _ _ a,f}
def LS(ls:List Lf):Prop:=ls.Pairwise (λa b=>bO a.ka a.kb b.ka b.kb)
def cO(a to:Tp):List Lf->List Key->Option Bool|[],_=>none|l::ls,p=>(cO a to ls p).or (if l.pt=p/\l.hd=a/\l.to=to then some l.ys else none)
theorem E3(a to:Tp)(l:Lf)(p:List Key):∀ls:List Lf,cO a to (ls++[l]) p=(if l.pt=p/\l.hd=a/\l.to=to then some l.ys else none).or (cO a to ls p)|[]=>(do¬(none:Option Bool).or _=Option.or _ none;[nr,Option.or_none])|x::ls=>do¬(cO a to (ls++[l]) p).or _=_;[E3 a to l p ls,Option.or_assoc];2
def rR(br:List (List Key×List Key))(p:List Key):Option (List Key):=(br.find? λe=>decide (e.1=p)).map (·.2)
def kZ(br:List (List Key×List Key)):Nat->List Key->List (List Key)| 0,p=>[p]|n+1,p=>p::match rR br p with|none=>[]|some o=>kZ br n o
def eI(br:List (List Key×List Key))(ls:List Lf)(a:Tp)(p:List Key):Bool:=((kZ br br.length p).findSome? (cO a "read" ls)).getD false
def BP(H:Hp)(v:V)(x:List Key×List Key):Prop:=∃b vn a,v=.ref b/\H b=!(.tup [vn,a])/\GK H (.tup x.1) vn/\GK H (.tup x.2) a/\Pn x.1/\Pn x.2
theorem BP.af(h:BP H v x)(t:aj H H'):BP H' v x:=do _;{b,vn,c,e,h1,h2,d,a}:=h;{b,vn,c,e,t _ _ h1,h2.af t,d.af t,a}
def kX(H:Hp)(v:V)(p:List Key):Prop:=GK H (.tup p) v/\Pn p
theorem kX.af(h:kX H v p)(t:aj H H'):kX H' v p:={h.1.af t,h.2}
theorem BQ:∀{ys:List V} {br:List (List Key×List Key)},AL (BP H) ys br->∃es,cm H ys es/\AL (λ(e:KD×V×V) x=>e.1=.tup x.1/\kX H e.2.2 x.2) es br|[],[],_=>{[],trivial,.nil}|[],_::_,h=>h.none.elim|_::_,[],h=>h.nothing.elim|y::ys,x::br,h=>do _;{b,vn,a,e,h1,h2,d,f,c}:=h.head;{es,a1,a2}:=BQ h.tail;{(.tup x.1,vn,a)::es,{{b,e,h1,h2},a1},.cons {O,d,c} a2}
theorem B0:∀{kvs:List 67} {br:List (List Key×List Key)},AL (λ(e:KD×V×V) x=>e.1=.tup x.1/\kX H e.2.2 x.2) kvs br->∀p,(vG kvs (.tup p)=none/\rR br p=none)\/∃v o,vG kvs (.tup p)=!v/\rR br p=!o/\kX H v o|[],[],_,_=>.inl {O,O}|[],_::_,h,_=>h.none.elim|_::_,[],h,_=>h.nothing.elim|e::kvs,x::br,h,p=>do a:=h.head;b:=B0 h.tail p;(by unfold vG rR at b ⊢);[ww,ww,a.1];z<|x.1=p;[qH (do[z]),qH z];.inr {_,_,O,O,a.2};[decide_eq_false λy=>z (KD.tup.inj y),decide_eq_false z];b
inductive FH(vs:List V)(H:Hp)(Q:VK)(_:XK):Prop
 |mk(q v p ys br:_)(_:vs=[.ref q,v])(_:az H q ys)(_:AL (BP H) ys br)(_:br.length<=100)(_:(br.map (·.1)).Nodup)(_:kX H v p)(_:∀H' c cv,ag H H'->H c=none->H' c=!(.lst cv)->AL (kX H') cv (kZ br br.length p)->Q (.ref c) H')
inductive AI(vs:List V)(H:Hp)(Q:VK)(_:XK):Prop
 |mk(v l:_)(_:vs=[v])(_:LX H v l)(_:∀kv,DT H kv (.tuple [.int l.ka,.int l.kb])->Q kv H)
inductive EM(vs:List V)(H:Hp)(Q:VK)(_:XK):Prop
 |mk(p ys ls hd tt:_)(_:vs=[.ref p,.str hd,.str tt])(_:az H p ys)(_:AL (LX H) ys ls)(_:LS ls)(_:ls.length<=45)(_:∀H' q kvs,ag H H'->H q=none->H' q=! 69->(∀p,vG kvs (.tup p)=(cO hd tt ls p).map V.bl)->Q (.ref q) H')
inductive C4(vs:List V)(H:Hp)(Q:VK)(_:XK):Prop
 |mk(p c ys ls hd tt cv ps:_)(_:vs=[.ref p,.ref c,.str hd,.str tt])(_:az H p ys)(_:AL (LX H) ys ls)(_:LS ls)(_:ls.length<=45)(_:az H c cv)(_:AL (kX H) cv ps)(_:∀H',ag H H'->Q (.bl ((ps.findSome? (cO hd tt ls)).getD false)) H')
inductive ES(vs:List V)(H:Hp)(Q:VK)(_:XK):Prop
 |mk(r b p hd v k r0 rs bs br ys ls:_)(_:vs=[.ref r,.ref b,.ref p,.str hd,v,.str "read"])(_:az H r (.str r0::rs))(_:az H b bs)(_:AL (BP H) bs br)(_:br.length<=100)(_:(br.map (·.1)).Nodup)(_:az H p ys)(_:AL (LX H) ys ls)(_:LS ls)(_:ls.length<=45)(_:kX H v k)(_:∀H',ag H H'->Q (.bl (decide (hd=r0)||eI br ls hd k)) H')
section
variable {vs:List V}{H:Hp}{Q:VK}{E:XK}
end
def HD{ls:List Lf}(g:LS ls){ix:List Nat}(a:c7 (ls.map λl=>.tuple [.int l.ka,.int l.kb]) ix):ix=List.range ls.length:=do(by let D:Nat->Tn:=λi=>((ls.map λl=>PyData.tuple [.int l.ka,.int l.kb])[i]?).getD .none);e:(ls.map λl=>PyData.tuple [.int l.ka,.int l.kb])=(List.range ls.length).map D:=(do yb λm=>?_;[qj,qj];b<|m<ls.length;[yc b,qe b];¬_=!(((ls.map λl=>PyData.tuple [.int l.ka,.int l.kb])[m]?).getD PyData.none);[qj,qe b];2;[wz (),wz (do[zh];())];2);a<-[e];h:=rQ (js:=List.range ls.length) (ms:=List.range ls.length) (.refl _) ?_ a;f:∀i∈ix,i<ls.length:=λi hi=>(do this:=(a.1.mem_iff).mp hi;this<-[qv,qh,zh];this);[<-h];(List.map_id _).symm.trans (yw λi hi=>?_);[zb,yc (f i hi)];2;yv.mpr λi j hi c d=>?_;[uc,uc];(by rw[zh]at hi c);¬bK (((ls.map λl=>PyData.tuple [.int l.ka,.int l.kb])[i]?).getD PyData.none) (((ls.map λl=>PyData.tuple [.int l.ka,.int l.kb])[j]?).getD PyData.none)=true;[qj,qj,qe hi,qe c];this:=yv.mp g i j hi c d;f7 this
def iV(d:Tn):Prop:=(∃z:Tp,d=.str z/\z.length<=10)\/(∃w:Tp,d=.tuple [.str "picture",.str w]/\w.length<=10)\/∃p,d=.tuple [.str "refer",tD p]/\Pn p
structure DZ where
 S:Nat->Sg
 n:Nat
 M:Nat->Mk
 m:Nat
 N:Nat->Mk
 q:Nat
 L:Nat->Ln
 a:Nat
 C:Nat->Ce
 b:Nat
 rs:List Pc
 cu:List (List Key)
structure FZ(H:Hp)(fa:To)(F:Nat->To)(d:DZ):Prop where
 fs:∃xs ms ns,FS H fa F d.S d.n d.M d.m d.N d.q xs ms ns
 hm:d.m<=63
 fb:∃bs es cs k,FB H fa F bs es cs d.rs d.cu k/\k<=63/\(tl d.rs).length<=62
 lv:∃ys,H (F 8)=! (.lst ys)/\(∀y∈ys,LR H y)/\ys.length<=45
 tb:y_ H fa d.L d.a d.C d.b
 sg:∀i,i<d.n->iV (d.S i).sg
def FZ.kp(h:FZ H fa F d)(k:∀b o,H b=!o->(∀ps,o≠.cF ps)->H' b=!o):FZ H' fa F d:=do t:aj H H':=λb xs e=>k _ _ e λ_ z=>nomatch z;c:∀{b xs},H b=! (.lst xs)->H' b=! (.lst xs):=λe=>k _ _ e λ_ z=>nomatch z;kr:∀{a kvs},Rd H a (.dK kvs)->Rd H' a (.dK kvs):=λr=>(do e||{o,e}:=r;.inl (k _ _ e λ_ z=>nomatch z);.inr ⟨o,k _ _ e λ_ z=>nomatch z⟩);⟨?_,h.hm,?_,?_,?_,h.sg⟩;{xs,ms,ns,g}:=h.fs;{xs,ms,ns,g.to t (kr g.dk) λi _ xs e=>c e};{bs,es,cs,j,g,h1,h2}:=h.fb;{bs,es,cs,j,{kr g.dk,g.inj,λi h1 h2=>let⟨xs,e⟩:=g.rest i h1 h2;{xs,c e},c g.eb,c g.ev,c g.ec,g.fi.af t},h1,h2};{ys,e,h1,h2}:=h.lv;{ys,c e,λy s=>(h1 y s).af t,h2};{kvs,p,vs,w,cs,h1,h2,x,n,m,l,u,f,q}:=h.tb;{kvs,p,vs,w,cs,kr h1,h2,c x,n.imp λv i g=>pw.af g t,m,l,c u,f.imp λv i g=>mu.af g t,q}
def FZ.same(h:FZ H fa F d)(s:ag H H'):FZ H' fa F d:=h.kp λb o e _=>s _ _ e
theorem FZ.xw(h:FZ H fa F d):XW (tl d.rs):=let⟨_,_,_,_,g,h1,_⟩:=h.fb;(g.fq ()).xw
def iK(i:Nat):Tp:=Str.ofString (toString (i:Int))
def kL(z:Tp)(i:Nat):Tp:=if z = "" then iK i else((Str.empty++z)++".")++iK i
def subs(z:Tp):Nat->List Pc->List (List Key×Tp)|_,[]=>[]|i,x::l=>(x.pt,kL z (i+1))::subs z (i+1) l
theorem xP(z:Tp):∀(l:List Pc) (i m:Nat),(subs z i l)[m]?=l[m]?.map λx=>(x.pt,kL z (i+m+1))|[],_,_=>(do[show subs z _ []=[] from rfl];2)|x::l,i,0=>rfl|x::l,i,m+1=>do¬(subs z (i+1) l)[m]?=l[m]?.map _;[xP z l (i+1) m,show i+1+m+1=i+(m+1)+1 from ()]
theorem uU(z:Tp):∀(l:List Pc) (i:Nat),(subs z i l).length=l.length|[],_=>rfl|_::l,i=>congrArg (·+1) (uU z l (i+1))
theorem JO(z:Tp):∀(l:List Pc) (i:Nat),(subs z i l).map (·.1)=l.map (·.pt)|[],_=>rfl|_::l,i=>congrArg (_::·) (JO z l (i+1))
def nY(H:Hp)(nq:To)(num:List Key->Option Tp):Prop:=∃kvs,H nq=! 69/\∀p,Pn p->vG kvs (.tup p)=(num p).map V.str/\∀z,num p=!z->z.length<=1000
def nY.same(h:nY H nq num)(s:ag H H'):nY H' nq num:=let⟨kvs,r,k⟩:=h;{kvs,s _ _ r,k}
def df(a:List (List Key×Tp))(p:List Key):Option Tp:=(a.find? λe=>decide (e.1=p)).map (·.2)
def txt(num:List Key->Option Tp)(d:Tn)(t:Tp):Prop:=d=.str t\/(∃w:Tp,d=.tuple [.str "picture",.str w]/\t = "*"++w)\/∃p,d=.tuple [.str "refer",tD p]/\t = "#"++(num p).getD "?"
def Dt(h:txt num d t)(g:txt num d u):t=u:=do(by rcases h with h|⟨w,h,e⟩|⟨p,h,e⟩ <;> rcases g with g|⟨w',g,e'⟩|⟨p',g,e'⟩ <;> rw[h]at g;injection g);-g;-g;-g;(by injection g with g;injection g with _ g;injection g with g _;injection g with g);[e,e',g];(by injection g with g;injection g with g _;injection g with g);absurd g ∅;-g;(by injection g with g;injection g with g _;injection g with g);absurd g ∅;(by injection g with g;injection g with _ g;injection g with g _);[e,e',ER g]
noncomputable def tx(num:List Key->Option Tp)(d:Tn):Tp:=Classical.epsilon (txt num d)
def eE(h:txt num d t):t=tx num d:=Dt h (Classical.epsilon_spec {t,h})
theorem Ca{p:List Key}:∀{xs:List V},dE H xs (p.map kP)->xs=p.map kV:=by induction p with|nil=>intro _ h;cases h;rfl|cons a p i=>cases a <;> (intro _ h;cases h with|cons c t=>cases c;rw[i t];rfl)
def LI(h:DT H v (tD p)):GK H (.tup p) v:=do(by cases h with|tup e t=>?_);e<-[Ca t];{_,O,e}
def LV:∀i:Nat,i<=63->(iK i).length<=3:=do this:∀i:Nat,i<64->(iK i).length<=3:=∅;λi h=>this i ()
def Cj(z:Tp):(Str.empty++z).length=z.length:=do[lg];je _
def NG(z:Tp)(h:i<=63):(kL z i).length<=z.length+4:=do nl:=LV i h;@kL;3;();a:((Str.empty++z)++".").length=z.length+1:=(do[lg,Cj];2);[lg,a];()
def MC(d:DZ)(p:List Key)(i:Nat):List Tn:=Gy d.M false (aH d.S d.n p) (aI d.M d.m p) ((aH d.S d.n p).idxOf i)
theorem Kx:∀{kvs:List 67} {a:List (List Key×Tp)},AL (λe x=>e.1=.tup x.1/\e.2.2=.str x.2) kvs a->∀p,vG kvs (.tup p)=(df a p).map V.str|[],[],_,_=>rfl|[],_::_,h,_=>h.none.elim|_::_,[],h,_=>h.nothing.elim|e::kvs,x::a,h,p=>do b:=h.head;c:=Kx h.tail p;(by unfold vG df at c ⊢);[ww,ww,b.1];z<|x.1=p;[qH (do[z]),qH z];¬some e.2.2=_;[b.2];2;[decide_eq_false λy=>z (KD.tup.inj y),decide_eq_false z];c
theorem mK:∀{a:List (List Key×Tp)},(a.map (·.1)).Nodup->∀{x:List Key×Tp},x∈a->df a x.1=!x.2|y::a,h,x,hx=>do h<-[zm,zx];@df;[ww];rfl||hx:=qy.mp hx;[qH rfl];2;[decide_eq_false λz=>h.1 (qc.mpr {x,hx,z.symm})];mK h.2 hx
inductive FT(vs:List V)(H:Hp)(Q:VK)(_:XK):Prop
 |mk(z:_)(i:Nat)(_:vs=[.str z,.int i])(_:i<=63)(_:z.length<=900)(_:Q (.str (kL z i)) H)
inductive C6(vs:List V)(H:Hp)(Q:VK)(_:XK):Prop
 |mk(nq num v d:_)(_:vs=[.ref nq,v])(_:nY H nq num)(_:DT H v d)(_:iV d)(_:∀t,txt num d t->Q (.str t) H)
section
variable {vs:List V}{H:Hp}{Q:VK}{E:XK}
end
def iH(k:Nat)(d:Tn):Prop:=d.canLay0=true/\d.depth<=k
def fV(h:∀d∈ds,iH k d):iH (k+1) (.list ds):={fO λd a=>(h d a).1,j5 (oe λd a=>(h d a).2)}
def gB(h:∀d∈ds,iH k d):iH (k+1) (.tuple ds):={fO λd a=>(h d a).1,j5 (oe λd a=>(h d a).2)}
def fZ(h:PyData.strOk z=true):iH k (.str z):={h,qx _}
def iH.up(h:iH k d)(l:k<=m):iH m d:={h.1,qf h.2 l}
def oh(h:Lay p):iH 1 (tD p):={h,eK p}
def xC(h:PyData.strOk a=true)(g:PyData.strOk b=true):PyData.strOk (a++b)=true:=do(by unfold PyData.strOk at *);¬(a.cps++b.cps).all _=true;[Array.all_append,h,g];2
def G':∀i:Nat,i<=101->PyData.strOk (iK i)=true:=do this:∀i:Nat,i<102->PyData.strOk (iK i)=true:=∅;λi h=>this i ()
def zA(z:Tp):Str.empty++z=z:=do¬({#[]++z.cps}:Tp)=z;[Array.empty_append]
def AJ(h:PyData.strOk z=true)(hi:i<=101):PyData.strOk (kL z i)=true:=do@kL;3;G' i hi;[zA];xC (xC h ∅) (G' i hi)
def zG{S:Nat->Sg}{pt:List Key}(W:WK S n M m)(h:d∈Gy M a js (aI M m pt) p):d.canLay0=true/\d.depth<=2/\fF d=true:=do(by unfold Gy at h);{kd,_,h2}:=j8.mp h;(by cases c:tell M js (aI M m pt) kd p with|none|some k=>?_);h2<-[c];-h2;h2<-[c];h2:(if(M k).vl=none then none else some (PyData.tuple [.str (M k).kd,ua M a k]))=!d:=h2;j:k<m:=qv.mp (qw.mp (KY c).1).1;{l,i,f,g}:=W.lay k j;z<|(M k).vl=none;h2<-[qF z];-h2;h2<-[qB z];-h2;b:(ua M a k).canLay0=true/\(ua M a k).depth<=1/\fF (ua M a k)=true:=(do@ua;(by cases a with|true|false=>?_);{i,eK _,lE _};(by cases q:(M k).vl with|none|some y=>?_);absurd q z;{g y q,qx 1,O});{?_,?_,?_};¬(PyData.strOk (M k).kd&&((ua M a k).canLay0&&true))=true;[f,b.1];2;¬max 0 (max (ua M a k).depth 0)+1<=2;();[fF];mU λd e=>?_;(by ac_nf at e);rfl||rfl:=e;2;b.2.2
theorem mH{α:Type}{P:V->α->Prop}{H:Hp}{D:α->Tn}(a:∀v r,P v r->DV H v (D r)):∀{vs:List V} {rs:List α},AL P vs rs->dD H vs (rs.map D)|[],[],_=>.nil|[],_::_,h=>h.none.elim|_::_,[],h=>h.nothing.elim|_::_,_::_,h=>.cons (a _ _ h.head) (mH a h.tail)
theorem KG{H:Hp}{f:Nat->Tp}:∀js:List Nat,dD H (js.map λc=>.str (f c)) (js.map λc=>.str (f c))|[]=>.nil|_::js=>.cons (.str _) (KG js)
def Sj(d:DZ)(p:List Key)(r:Nat):Tn:=.list ((bW d.L d.a p "column").map λc=>.str (p5 d.C d.b p (dr d.L r) (dr d.L c)))
def Dq(d:DZ)(p:List Key):Tn:=.tuple [.list ((bW d.L d.a p "row").map λi=>tD (dr d.L i)),.list ((bW d.L d.a p "column").map λi=>tD (dr d.L i)),.list ((bW d.L d.a p "row").map (Sj d p))]
def QT(d:DZ)(p:List Key):List Tn:=(cz d.N d.q p).map (vF d.S (aH d.S d.n p) d.N)
noncomputable def qW(d:DZ)(num:List Key->Option Tp)(p:List Key)(i:Nat):Tn:=.tuple [tD (cJ d.S i),.str (tx num (d.S i).sg),.list (MC d p i)]
noncomputable def MV(d:DZ)(num:List Key->Option Tp)(x:List Key×Tp):Tn:=.tuple [.str x.2,tD x.1,.list ((bA d.S d.n x.1).map (qW d num x.1)),.list (QT d x.1),Dq d x.1]
def Og{pt:List Key}(h:i∈bW L n pt wy)(W:WL L n):i<n:=do h:=(qw.mp h).1;e:i∈i8 L n pt wy↔i∈Rga.l8 (Rga.cS (xS L) (cG L n pt wy)):=(Rga.cX (W.vD pt wy).wf).mem_iff;h<-[e,Rga.eG,ym];qv.mp (qw.mp h).1
theorem Hv(pt r c:List Key):∀m,(∀i,i<m->ME (C i).wd)->PyData.strOk (p5 C m pt r c)=true| 0,_=>(do¬PyData.strOk ""=true;by decide +kernel)|m+1,h=>do[Km];3;(by rcases h m () with e|e|e|e <;> rw[e] <;> decide +kernel);Hv pt r c m λi hi=>h i ()
def JY(hn:∀p z,num p=!z->PyData.strOk z=true)(o:iV x)(l:x.canLay0=true):PyData.strOk (tx num x)=true:=do ex:∃t,txt num x t/\PyData.strOk t=true:=(do _;{z,rfl,_}||{w,rfl,_}||{p,rfl,_}:=o;⟨z,.inl rfl,l⟩;⟨_,.inr (.inl ⟨w,O,O⟩),xC ∅ ?_⟩;l:(PyData.strOk "picture"&&(PyData.strOk w&&true))=true:=l;l<-[mw,zn];l.2;{_,.inr (.inr {p,O,O}),xC ∅ ?_};(by cases q:num p with|none|some z=>?_);¬PyData.strOk "?"=true;(by decide +kernel);hn p z q);{t,h1,h2}:=ex;[<-eE h1];h2
def xf(h:x=y)(l:x.canLay0=true):(if true=true then not (PyData.eqv x y) else PyData.eqv x y)=false:=do[qF rfl,<-h,PySem.SeqAt.eqv_refl x l];2
section
variable {H:Hp}{fa:To}{F:Nat->To}{d:DZ}{p:List Key}
def FZ.Ju(h:FZ H fa F d):iH 3 (Dq d p):=do _;{kvs,j,vs,l,cs,_,_,_,_,e,_,_,_,f}:=h.tb;g:∀wy,iH 2 (.list ((bW d.L d.a p wy).map λi=>tD (dr d.L i))):=λwy=>fV λx b=>(do _;{i,hi,rfl}:=qc.mp b;oh (e.lay i (Og hi e)).1);gB λx b=>?_;(by ac_nf at b);rfl||rfl||rfl:=b;g _;g _;fV λx b=>?_;{i,hi,rfl}:=qc.mp b;fV λx b=>?_;{c,k,rfl}:=qc.mp b;fZ (Hv _ _ _ _ f.wd)
def FZ.Sv(h:FZ H fa F d):iH 3 (.list (QT d p)):=do _;{xs,ms,ns,fs}:=h.fs;{a,b,_}:=Mm (pt:=p) fs.ws fs.wn;{a,j5 b}
def FZ.Su(h:FZ H fa F d)(i:Nat):iH 3 (.list (MC d p i)):=do _;{xs,ms,ns,fs}:=h.fs;fV λx a=>{(zG fs.wm a).1,(zG fs.wm a).2.1}
def FZ.Qc(h:FZ H fa F d)(hi:i∈bA d.S d.n p):i<d.n:=let⟨_,_,_,fs⟩:=h.fs;((qQ fs.ws).mp (qw.mp hi).1).1
def FZ.O1(h:FZ H fa F d)(hn:∀p z,num p=!z->PyData.strOk z=true)(hp:Pn x.1)(hz:PyData.strOk x.2=true):iH 6 (MV d num x):=do _;{xs,ms,ns,fs}:=h.fs;gB λy a=>?_;(by ac_nf at a);rfl||rfl||rfl||rfl||rfl:=a;fZ hz;(oh hp.lay).up ⋯;fV λy a=>?_;{i,hi,rfl}:=qc.mp a;b:=h.Qc hi;gB λy a=>?_;(by ac_nf at a);rfl||rfl||rfl:=a;(oh (fs.ws.lay i b).1).up ⋯;fZ (JY hn (h.sg i b) (fs.ws.sgn i b).1);h.Su i;h.Sv.up ⋯;h.Ju.up ⋯
end
abbrev lF:HO:=.lst [.str "ann",.str "bo"]
structure D6 where
 d:DZ
 br:List (List Key×List Key)
 ls:List Lf
structure F6(H:Hp)(fa:To)(F:Nat->To)(x:D6):Prop where
 fz:FZ H fa F x.d
 eb:∃bs,H (F 0)=!(.lst bs)/\AL (BP H) bs x.br
 ev:∃ys,H (F 8)=! (.lst ys)/\AL (LX H) ys x.ls
 nb:(x.br.map (·.1)).Nodup
 lb:x.br.length<=60
 ls:LS x.ls
 ll:x.ls.length<=45
 cl:∀b∈x.br,b.2=aN\/b.2∈x.br.map (·.1)
 nm:aN∉x.br.map (·.1)
 rp:∀r∈x.d.rs,r.pt∈x.br.map (·.1)
section
variable {H H':Hp}{fa:To}{F:Nat->To}{x:D6}
theorem F6.kp(h:F6 H fa F x)(k:∀b o,H b=!o->(∀ps,o≠.cF ps)->H' b=!o):F6 H' fa F x:=do t:aj H H':=λb xs e=>k _ _ e λ_ z=>nomatch z;a:∀{b xs},H b=! (.lst xs)->H' b=! (.lst xs):=λe=>k _ _ e λ_ z=>nomatch z;{bs,h1,h2}:=h.eb;{ys,d,c}:=h.ev;{h.fz.kp k,{bs,a h1,h2.imp λv i g=>BP.af g t},{ys,a d,c.imp λv i g=>LX.af g t},h.nb,h.lb,h.ls,h.ll,h.cl,h.nm,h.rp}
def F6.same(h:F6 H fa F x)(s:ag H H'):F6 H' fa F x:=h.kp λb o e _=>s _ _ e
theorem F6.dk(h:F6 H fa F x):Rd H fa (.dK (du F 9)):=let⟨_,_,_,g⟩:=h.fz.fs;g.dk
end
def hV:Option Tp->V|none=>.aS|some z=>.str z
def nJ(x:D6):Option Tp->List Key->Bool|none,_=>true|some z,p=>decide (z = "ann")||eI x.br x.ls z p
inductive Wk(zs:List Pc)(G:List Key->Prop)(op:List Key->Bool):List (List Key×Tp)->List (List Key×Tp)->Prop
 |nil:Wk zs G op [] []
 |cons {p z st l out}:op p=true->rF zs G p l->Wk zs G op (subs z 0 l++st) out->Wk zs G op ((p,z)::st) ((p,z)::out)
 |nQ {p z st out}:op p=false->Wk zs G op st out->Wk zs G op ((p,z)::st) ((p,z)::out)
theorem Wk.eq{zs:List Pc}{G:List Key->Prop}{op:List Key->Bool}{st a:List (List Key×Tp)}(h:Wk zs G op st a):∀{b:List (List Key×Tp)},Wk zs G op st b->a=b:=do(by induction h with|nil|cons o i w e|nQ o w e=>?_);(b,h');-h';2;(b,h');(by cases h' with|cons c f d|nQ c d=>?_);this:=i.eq f;!this;[e d];c<-[o];-c;(b,h');(by cases h' with|cons c f d|nQ c d=>?_);c<-[o];-c;[e d]
def Nums(d:DZ)(op:List Key->Bool)(a:List (List Key×Tp)):Prop:=∃zs g,J1 d.rs d.cu zs g/\Wk zs (GT g) op [(aN,"")] a
def TN(op:List Key->Bool)(H:Hp)(v:V)(e:List Key×Tp):Prop:=∃b a,v=.ref b/\H b=!(.tup [a,.str e.2,.bl (op e.1)])/\GK H (.tup e.1) a/\Pn e.1/\e.2.length<=1000
theorem TN.af(h:TN op H v e)(t:aj H H'):TN op H' v e:=do _;{b,a,c,h1,h2,d}:=h;{b,a,c,t _ _ h1,h2.af t,d}
noncomputable def yW(d:DZ)(op:List Key->Bool)(num:List Key->Option Tp)(p:List Key):Tn:=if op p=true then .list ((bA d.S d.n p).map (qW d num p)) else .none
def sy(d:DZ)(op:List Key->Bool)(p:List Key):Tn:=if op p=true then .list (QT d p) else .none
def sx(d:DZ)(op:List Key->Bool)(p:List Key):Tn:=if op p=true then Dq d p else .none
noncomputable def MM(d:DZ)(op:List Key->Bool)(num:List Key->Option Tp)(e:List Key×Tp):Tn:=.tuple [.str e.2,tD e.1,yW d op num e.1,sy d op e.1,sx d op e.1]
def EN(d:DZ)(op:List Key->Bool)(num:List Key->Option Tp)(H:Hp)(v:V)(e:List Key×Tp):Prop:=∃b c a f g,v=.ref b/\H b=!(.tup [.str e.2,c,a,f,g])/\GK H (.tup e.1) c/\DV H a (yW d op num e.1)/\DV H f (sy d op e.1)/\DV H g (sx d op e.1)
theorem EN.same(h:EN d op num H v e)(s:ag H H'):EN d op num H' v e:=do _;{b,j,i,a,k,h1,h2,l,g,f,c}:=h;{b,j,i,a,k,h1,s _ _ h2,l.af s.af,g.same s,f.same s,c.same s}
theorem EN.dv(h:EN d op num H v e):DV H v (MM d op num e):=do _;{b,k,j,i,l,rfl,h2,g,f,c,a}:=h;.tup (aQ.of h2) (.cons (.str _) (.cons (bE g).dv (.cons f (.cons c (.cons a .nil)))))
inductive Ed(vs:List V)(H:Hp)(Q:VK)(_:XK):Prop
 |mk(fa F x r h v p:_)(_:vs=[.ref fa,.ref r,hV h,v])(_:F6 H fa F x)(_:H r=!lF)(_:kX H v p)(_:∀H',ag H H'->Q (.bl (nJ x h p)) H')
inductive E6(vs:List V)(H:Hp)(Q:VK)(_:XK):Prop
 |mk(fa F x r h:_)(_:vs=[.ref fa,.ref r,hV h])(_:F6 H fa F x)(_:H r=!lF)(_:fC H)(_:MA H)(_:∀H' q ts nu,ag (cE H s2) H'->fC H'->H q=none->H' q=!(.lst ts)->AL (TN (nJ x h) H') ts nu->Nums x.d (nJ x h) nu->nu.length<=63->(nu.map (·.1)).Nodup->Q (.ref q) H')
inductive Em(vs:List V)(H:Hp)(Q:VK)(_:XK):Prop
 |mk(fa F d vp p nq num:_)(_:vs=[.ref fa,vp,.ref nq])(_:FZ H fa F d)(_:GK H (.tup p) vp)(_:Pn p)(_:nY H nq num)(_:∀H' q,ag H H'->H q=none->DV H' (.ref q) (.list ((bA d.S d.n p).map (qW d num p)))->Q (.ref q) H')
inductive D3(vs:List V)(H:Hp)(Q:VK)(_:XK):Prop
 |mk(fa F d nq num vp p z op:_)(_:vs=[.ref fa,.ref nq,vp,.bl (op p)])(_:FZ H fa F d)(_:GK H (.tup p) vp)(_:Pn p)(_:nY H nq num)(_:num p=!z)(_:∀H' v,ag H H'->EN d op num H' v (p,z)->Q v H')
inductive Dv(vs:List V)(H:Hp)(Q:VK)(_:XK):Prop
 |mk(fa F x r h:_)(_:vs=[.ref fa,.ref r,hV h])(_:F6 H fa F x)(_:H r=!lF)(_:fC H)(_:MA H)(_:∀H' q es nu,ag (cE H s2) H'->fC H'->H' q=!(.lst es)->Nums x.d (nJ x h) nu->nu.length<=63->(nu.map (·.1)).Nodup->(∀e∈nu,Pn e.1/\e.2.length<=1000)->AL (EN x.d (nJ x h) (df nu) H') es nu->Q (.ref q) H')
section
variable {vs:List V}{H:Hp}{Q:VK}{E:XK}
end
theorem cV:∀{vs:List V} {ds:List Tn},dD H vs ds->DV H v e->dD H (vs++[v]) (ds++[e])|_,_,.nil,g=>.cons g .nil|_,_,.cons h t,g=>.cons h (cV t g)
inductive i0(vs:List V)(H:Hp)(Q:VK)(_:XK):Prop
 |mk(sp ns r:_)(_:vs=[.ref sp,.ref r])(_:az H sp (List.map V.int ns))(_:ns.length<=63)(_:H r=!lF)(_:∀H' fa F x,ag H H'->F6 H' fa F x->Q (.ref fa) H')
structure Jz(A:List Pc)(D U:List (List Key)):Prop where
 nd:(D++U).Nodup
 up:∀c∈D++U,c=aN\/∃x∈A,x.pt=c/\x.ou∈D
def Jz.pn(h:Jz A D U)(b:∀x∈A,Nm x.pt)(a:c∈D++U):Pn c:=do z||{x,hx,rfl,_}:=h.up c a;.inl z;.inr (b x hx)
def Jz.len(h:Jz A D U):D.length+U.length<=A.length+1:=do this:=AH (ws:=aN::A.map (·.pt)) h.nd λc a=>(do z||{x,hx,z,_}:=h.up c a;[z];qm;[<-z];qz _ (qc.mpr {x,hx,O}));this<-[qg,zd,qh];this
theorem vK:∀{A:List Pc},(A.map (·.pt)).Nodup->∀{x y:Pc},x∈A->y∈A->x.pt=y.pt->x=y|a::A,h,x,y,hx,hy,e=>do h<-[zm,zx];(by rcases qy.mp hx with h1|h1 <;> rcases qy.mp hy with h2|h2);[h1,h2];(h.1 (qc.mpr ⟨y,h2,do[<-e,h1]⟩)).elim;(h.1 (qc.mpr ⟨x,h1,do[e,h2]⟩)).elim;vK h.2 h1 h2 e
def Jz.step{A l:List Pc}{D U:List (List Key)}{u:List Key}(m:(A.map (·.pt)).Nodup)(q:∀x∈A,Nm x.pt)(h:Jz A D (U++[u]))(g:∀x∈l,x∈A/\x.ou=u)(o:l.Nodup):Jz A (D++[u]) (U++(l.map (·.pt)).reverse):=do n:(D++[u]++U).Perm (D++(U++[u])):=(do[wt];List.Perm.append_left D List.perm_append_comm);mem:∀c,c∈D++[u]++U->c∈D++(U++[u]):=λc d=>n.mem_iff.mp d;p:u∉D:=λz=>(do this:=(List.nodup_append.mp h.nd).2.2 u z u (do 0);this rfl);{?_,λc d=>?_};[<-wt];yk.mpr {n.nodup_iff.mpr h.nd,?_,λa k b j e=>?_};(List.reverse_perm _).nodup_iff.mpr ?_;[List.Nodup,z8];List.Pairwise.imp_of_mem (λ{a b} k j i e=>i (vK m (g a k).1 (g b j).1 e)) o;!e;{x,f,rfl}:=qc.mp (ym.mp j);{h1,h2}:=g x f;z||{x',hx',e,ho}:=h.up _ (mem _ k);(q x h1).main z;ho<-[vK m hx' h1 e,h2];p ho;d<-[<-wt];d||d:=zg.mp d;z||{x,f,e,ho}:=h.up c (mem c d);.inl z;.inr ⟨x,f,e,yi _ ho⟩;{x,f,rfl}:=qc.mp (ym.mp d);{h1,h2}:=g x f;.inr {x,h1,O,do[h2];0}
def UN(H:Hp)(v:V)(e:List Key×Tp):Prop:=∃b a,v=.ref b/\H b=!(.tup [a,.str e.2])/\GK H (.tup e.1) a
theorem UN.af(h:UN H v e)(t:aj H H'):UN H' v e:=do _;{b,a,c,h1,h2}:=h;{b,a,c,t _ _ h1,h2.af t}
def DW(H:Hp)(p:To):Prop:=∃a b:Int,H p=!(.lst [.int a,.int b])
def DW.same(h:DW H p)(s:ag H H'):DW H' p:=let⟨a,b,e⟩:=h;{a,b,s _ _ e}
def DW.af(h:DW H p)(s:ag (del H p) H'):aj H H':=let⟨_,_,e⟩:=h;aj.cut e s
def DW.ne(h:DW H p)(g:H q=none):q≠p:=let⟨_,_,e⟩:=h;λz=>do g<-[z,e];-g
def Fz:∀r:Nat,r<8->PyData.strOk (dQ "abcdefgh" none (!(1+(r:Int))))=true/\(dQ "abcdefgh" none (!(1+(r:Int)))).length<=10:=∅
def DH:∀r:Nat,r<29->∃c,nW ("abcdefghijklmnopqrstuvwxyz .,":Tp).cps.toList (r:Int)=!c/\PyData.strOk {#[c]}=true:=do this:∀r:Nat,r<29->(match nW ("abcdefghijklmnopqrstuvwxyz .,":Tp).cps.toList (r:Int) with|some c=>PyData.strOk ⟨#[c]⟩|none=>false)=true:=∅;(r,h);this:=this r h;(by cases e:nW ("abcdefghijklmnopqrstuvwxyz .,":Tp).cps.toList (r:Int)with|none|some c=>?_);this<-[e];-this;this<-[e];{c,O,this}
def J7(h1:PyData.strOk z=true)(h2:d.canLay0=true/\sk d d=true/\d.depth<=1):Hq (.tuple [.str z,d]):=do b:∀x∈[PyData.str z,d],x.canLay0=true/\sk x x=true/\x.depth<=1:=λx a=>(do(by ac_nf at a);rfl||rfl:=a;tL h1;h2);⟨fO λx a=>(b x a).1,Mp λx a=>(b x a).2.1,?_⟩;this:=oe λx a=>(b x a).2.2;¬PyData.depthAll _+1<=3;()
inductive kQ(vs:List V)(H:Hp)(Q:VK)(_:XK):Prop
 |mk(d l us:_)(_:vs=[.ref d,.ref l])(_:DW H d)(_:H l=! (.lst us))(_:l≠d)(_:0<us.length)(_:us.length<1000)(_:∀H' q v bb,ag (del H d) H'->DW H' d->H' q=!(.tup [v,.str (Sa bb)])->v∈us->Q (.ref q) H')
inductive jV(vs:List V)(H:Hp)(Q:VK)(_:XK):Prop
 |mk(d l us:_)(_:vs=[.ref d,.ref l])(_:DW H d)(_:H l=! (.lst us))(_:l≠d)(_:0<us.length)(_:us.length<1000)(_:(∀v∈us,E8 H v))(_:∀H' v dd,ag (del H d) H'->DW H' d->DT H' v dd->iV dd->Hq dd->Q v H')
inductive gR(vs:List V)(H:Hp)(Q:VK)(_:XK):Prop
 |mk(sp ns k:_)(_:vs=[.ref sp,.int k])(_:az H sp (List.map V.int ns))(_:0<=k)(_:∀c,Q (.int c) H)
inductive iU(vs:List V)(H:Hp)(Q:VK)(_:XK):Prop
 |mk(c b:_)(_:vs=[.int c,.bl b])(_:∀H' p,ag H H'->H p=none->DW H' p->Q (.ref p) H')
inductive kA(vs:List V)(H:Hp)(Q:VK)(_:XK):Prop
 |mk(p q:_)(_:vs=[.ref p,.int q])(_:DW H p)(_:0<q)(_:q<1000)(_:∀r H',ag (del H p) H'->DW H' p->0<=r->r<q->Q (.int r) H')
inductive gT(vs:List V)(H:Hp)(Q:VK)(_:XK):Prop
 |mk(sp ns:_)(_:vs=[.ref sp])(_:az H sp (List.map V.int ns))(_:ns.length<=63)(_:fC H)(_:MA H)(_:∀H',Q (.bl true) H')
def p7:∀(H:Hp) (a:To) (ns:List Int),ns.length<=63->(∀t∈OR,H (R9 t)=!(.cF #[]))->(∀c∈MS,H c.1=!(.tup c.2))->az H a (ns.map V.int)->gT [.ref a] H (λv _=>v=.bl true) λ_ _ _=>False:=λH a ns h1 h2 d b => {a,ns,O,b,h1,{⋯,.inl (h2 "greatest_place" ∅),.inl (h2 "all_inner_parts" ∅)},d _ qm,λ_=>rfl}
section
variable {vs:List V}{H:Hp}{Q:VK}{E:XK}
end
def KN(H:Hp)(kn:List V):Prop:=∀(j:Nat) v,kn[j]?=!v->∃w:Tp,GK H (.tup [.inr w,.inl (j:Int)]) v/\Pn [.inr w,.inl (j:Int)]
theorem KN.af(h:KN H kn)(t:aj H H'):KN H' kn:=λj v e=>let⟨w,g,p⟩:=h j v e;{w,g.af t,p}
def KN.np(h:KN H kn)(b:v∈kn):E8 H v:=do _;{j,a,e}:=zv.mp b;{w,g,p}:=h j v (do[qe a,e]);{_,g,p}
def mL(h:Rest H Z X)(a:∀b,X b->∀xs,H b≠some (.tup xs)):aj H Z:=λb ys e=>h b _ e λz=>a b z ys e
abbrev oP:HO:=.lst [.str "ann",.str "bo"]
def xm(H:Hp)(kvs:List 67):Prop:=∀e∈kvs,∃p,Pn p/\e.1=.tup p/\GK H (.tup p) e.2.1
theorem xm.af(h:xm H kvs)(t:aj H H'):xm H' kvs:=λe d=>let⟨p,a,b,c⟩:=h e d;{p,a,b,c.af t}
def vP(S:Nat->Sg)(n:Nat)(H:Hp)(kvs:List 67):Prop:=xm H kvs/\∀k u,vG kvs k=!u->∃p a us,k=.tup p/\Pn p/\u=.ref a/\H a=! (.lst us)/\0<us.length/\us.length<=n/\∀v∈us,∃i,i<n/\(S i).pt=p/\NM (cJ S) H v i
def vP.same{S:Nat->Sg}(h:vP S n H kvs)(s:ag H H'):vP S n H' kvs:={h.1.af s.af,λk u e=>do _;{p,l,us,h1,h2,o,j,f,d,m}:=h.2 k u e;{p,l,us,h1,h2,o,s _ _ j,f,d,λv g=>let⟨i,a,b,c⟩:=m v g;{i,a,b,NM.af c s.af}}}
inductive iN(vs:List V)(H:Hp)(Q:VK)(_:XK):Prop
 |mk(d fa r kq F kn:_)(_:vs=[.ref d,.ref fa,.ref r,.ref kq])(_:DW H d)(_:H fa=! (.dK (du F 9)))(_:H (F 3)=!(.lst []))(_:H r=!oP)(_:H kq=!(.lst kn))(_:KN H kn)(_:0<kn.length)(_:kn.length<=15)(_:r≠d)(_:kq≠d)(_:F 3≠d)(_:r≠F 3)(_:kq≠F 3)(_:∀H' S n xs nq kvs,Rest H H' (λb=>b=d\/b=F 3)->H' (F 3)=! (.lst xs)->AN (SN S H') xs (List.range n)->WS S n->n<=24->(∀i,i<n->iV (S i).sg)->H nq=none->H' nq=! 69->kvs.length<=24->vP S n H' kvs->(∀k lq,vG kvs k=!(.ref lq)->H lq=none)->Q (.ref nq) H')
inductive eR(vs:List V)(H:Hp)(Q:VK)(_:XK):Prop
 |mk(d fa r nq F S n xs kvs:_)(_:vs=[.ref d,.ref fa,.ref r,.ref nq])(_:DW H d)(_:H fa=! (.dK (du F 9)))(_:H (F 3)=! (.lst xs))(_:AN (SN S H) xs (List.range n))(_:WS S n)(_:n<=24)(_:H (F 4)=!(.lst []))(_:H (F 5)=!(.lst []))(_:H r=!oP)(_:H nq=! 69)(_:kvs.length<=24)(_:vP S n H kvs)(_:r≠d)(_:(∀i,i<9->F i≠d/\r≠F i))(_:(∀i,i<9->∀j,j<9->F i=F j->i=j))(_:(∀k lq,vG kvs k=!(.ref lq)->lq≠d/\lq≠F 4/\lq≠F 5))(_:∀H' M m N q ms ns,Rest H H' (λb=>b=d\/b=F 4\/b=F 5\/b=nq)->H' (F 4)=!(.lst ms)->AN (MN S M H') ms (List.range m)->WK S n M m->m<=9->H' (F 5)=!(.lst ns)->AN (NN S N H') ns (List.range q)->WK S n N q->Q .aS H')
inductive iy(vs:List V)(H:Hp)(Q:VK)(_:XK):Prop
 |mk(d fa r kq F kn:_)(_:vs=[.ref d,.ref fa,.ref r,.ref kq])(_:DW H d)(_:H fa=! (.dK (du F 9)))(_:H (F 6)=!(.lst []))(_:H (F 7)=!(.lst []))(_:H r=!oP)(_:H kq=!(.lst kn))(_:KN H kn)(_:0<kn.length)(_:kn.length<=15)(_:r≠d)(_:kq≠d)(_:(∀i,i<9->F i≠d/\r≠F i/\kq≠F i))(_:F 6≠F 7)(_:∀H' L a C b ls cs,Rest H H' (λb=>b=d\/b=F 6\/b=F 7)->H' (F 6)=!(.lst ls)->AN (pw L H') ls (List.range a)->WL L a->H' (F 7)=!(.lst cs)->AN (mu C H') cs (List.range b)->RT C b->Q .aS H')
section
variable {vs:List V}{H:Hp}{Q:VK}{E:XK}
end
structure Gp(d:To)(F:Nat->To)(kq:To):Prop where
 kd:kq≠d
 kf:∀i,i<3->kq≠F i
 fd:∀i,i<3->F i≠d
 ff:∀i,i<3->∀j,j<3->i≠j->F i≠F j
structure PB(H0 H:Hp)(d:To)(F:Nat->To)(kq:To)(kn bs es cs:List V)(rs:List Pc)(cu:List (List Key)):Prop where
 ro:Rest H0 H (λb=>b=d\/b=F 0\/b=F 1\/b=F 2)
 dw:DW H d
 ek:H kq=!(.lst kn)
 vJ:KN H kn
 eb:H (F 0)=!(.lst bs)
 ev:H (F 1)=!(.lst es)
 ec:H (F 2)=!(.lst cs)
 fi:vI H bs es cs rs cu 60
section
variable {H0 H H':Hp}{d kq:To}{F:Nat->To}{kn bs es cs:List V}{rs:List Pc}{cu:List (List Key)}{v:V}
def PB.draw(h:PB H0 H d F kq kn bs es cs rs cu)(a:Gp d F kq)(s:ag (del H d) H')(w:DW H' d):PB H0 H' d F kq kn bs es cs rs cu := have t:=h.dw.af s;{h.ro.del (.inl rfl) s,w,DP.to s h.ek a.kd,h.vJ.af t,DP.to s h.eb (a.fd 0 ⋯),DP.to s h.ev (a.fd 1 ⋯),DP.to s h.ec (a.fd 2 ⋯),h.fi.af t}
theorem PB.same(h:PB H0 H d F kq kn bs es cs rs cu)(s:ag H H'):PB H0 H' d F kq kn bs es cs rs cu := {h.ro.same s,h.dw.same s,s _ _ h.ek,h.vJ.af s.af,s _ _ h.eb,s _ _ h.ev,s _ _ h.ec,h.fi.af s.af}
def DW.wr(h:DW H d)(n:d≠p):DW (upd H p o) d:=let⟨a,b,e⟩:=h;{a,b,do[aB n];e}
def PB.ui(h:PB H0 H d F kq kn bs es cs rs cu)(a:Gp d F kq)(b:BT H v)(e:bs.length<60):PB H0 (upd H (F 0) (.lst (bs++[v]))) d F kq kn (bs++[v]) es cs rs cu:=do t:aj H (upd H (F 0) (.lst (bs++[v]))):=aj.wl h.eb;g:=h.fi.af t;{h.ro.wr (.inr (.inl rfl)),h.dw.wr (a.fd 0 ⋯).symm,do[aB (a.kf 0 ⋯)];h.ek,h.vJ.af t,aE,do[aB (a.ff 1 ⋯ 0 ⋯ ⋯)];h.ev,do[aB (a.ff 2 ⋯ 0 ⋯ ⋯)];h.ec,{λu c=>?_,g.pc,g.ct,g.w,g.up,do[qg];e,g.vl,g.cl}};z||z:=zg.mp c;g.bt u z;[qt.mp z];b.af t
theorem PB.place(h:PB H0 H d F kq kn bs es cs rs cu)(a:Gp d F kq)(c:f' H v r)(b:xW r)(lt:∀x∈rs,bO x.ka x.kb r.ka r.kb)(e:es.length<60):PB H0 (upd H (F 1) (.lst (es++[v]))) d F kq kn bs (es++[v]) cs (rs++[r]) cu:=do t:aj H (upd H (F 1) (.lst (es++[v]))):=aj.wl h.ev;g:=(h.fi.af t).place (c.af t) b lt e;{h.ro.wr (.inr (.inr (.inl rfl))),h.dw.wr (a.fd 1 ⋯).symm,do[aB (a.kf 1 ⋯)];h.ek,h.vJ.af t,do[aB (a.ff 0 ⋯ 1 ⋯ ⋯)];h.eb,aE,do[aB (a.ff 2 ⋯ 1 ⋯ ⋯)];h.ec,g}
def PB.cut(h:PB H0 H d F kq kn bs es cs rs cu)(a:Gp d F kq)(b:CT H v k)(c:cs.length<60):PB H0 (upd H (F 2) (.lst (cs++[v]))) d F kq kn bs es (cs++[v]) rs (cu++[k]):=do t:aj H (upd H (F 2) (.lst (cs++[v]))):=aj.wl h.ec;g:=h.fi.af t;{h.ro.wr (.inr (.inr (.inr rfl))),h.dw.wr (a.fd 2 ⋯).symm,do[aB (a.kf 2 ⋯)];h.ek,h.vJ.af t,do[aB (a.ff 0 ⋯ 2 ⋯ ⋯)];h.eb,do[aB (a.ff 1 ⋯ 2 ⋯ ⋯)];h.ev,aE,{g.bt,g.pc,g.ct.snoc (b.af t),g.w,g.up,g.bl,g.vl,do[qg];c}}
def PB.Dl(h:PB H0 H d F kq kn bs es cs rs cu)(a:Gp d F kq)(f:H0 kq=none)(i:GK H (.tup [.inr w,.inl (kn.length:Int)]) v)(hp:Pn [.inr w,.inl (kn.length:Int)]):PB H0 (upd H kq (.lst (kn++[v]))) d F kq (kn++[v]) bs es cs rs cu:=do t:aj H (upd H kq (.lst (kn++[v]))):=aj.wl h.ek;{λb o e n=>do[aB (λz=>do e<-[z,f];-e)];h.ro b o e n,h.dw.wr a.kd.symm,aE,λj u e=>?_,do[aB (a.kf 0 ⋯).symm];h.eb,do[aB (a.kf 1 ⋯).symm];h.ev,do[aB (a.kf 2 ⋯).symm];h.ec,h.fi.af t};g<|j<kn.length;e<-[zu g];h.vJ.af t j u e;c:j=kn.length:=(do this:=(qp.mp e).1;this<-[qg,qr];());!c;e<-[ye (qb _),j3];-e;{w,i.af t,hp}
def PB.out(h:PB H0 H d F kq kn bs es cs rs cu)(e:H0 b=!o)(n:b≠d)(m:∀i,i<3->b≠F i):H b=!o:=h.ro b o e λz=>do z||z||z||z:=z;n z;m 0 ⋯ z;m 1 ⋯ z;m 2 ⋯ z
end
def zM(h:V.str w∈[V.str "ann",V.str "bo"]):Nm [.inr w,.inl x]:=do(by ac_nf at h;rcases h with h|h <;> injection h with h);⟨w,x,O,.inl h⟩;⟨w,x,O,.inr (.inl h)⟩
def Qv(e:H p=! 69):Mv "dict" (.ref p) H:=.inr (.inr (.inl {O,.inr (.inr {_,e})}))
structure SB(H0 Z:Hp)(d f nq:To)(S:Nat->Sg)(j:Nat)(xs:List V)(kvs:List 67):Prop where
 ro:Rest H0 Z (λb=>b=d\/b=f)
 dw:DW Z d
 ex:Z f=! (.lst xs)
 an:AN (SN S Z) xs (List.range j)
 ws:WS S j
 nm:∀i,i<j->∃w:Tp,(S i).nk=[.inr w,.inl (40+(i:Int)),.inl 0]
 ky:∀i,i<j->(S i).ka=50+(i:Int) / 2/\(S i).kb=(i:Int) % 2/\(S i).kc=0
 ok:∀i,i<j->iV (S i).sg
 en:Z nq=! 69
 nd:vP S j Z kvs
 fr:∀k lq,vG kvs k=!(.ref lq)->H0 lq=none
section
variable {H0 Z Z':Hp}{d f nq:To}{S:Nat->Sg}{j:Nat}{xs:List V}{kvs:List 67}
def vP.mv(h:vP S j Z kvs)(t:aj Z Z')(k:∀c d us,vG kvs c=! (.ref d)->Z d=! (.lst us)->Z' d=! (.lst us)):vP S j Z' kvs:={h.1.af t,λc u e=>do _;{p,d,us,h1,h2,rfl,n,l,f,o}:=h.2 c u e;{p,d,us,h1,h2,O,k c d us e n,l,f,λv m=>let⟨i,a,b,g⟩:=o v m;{i,a,b,NM.af g t}}}
def SB.draw(h:SB H0 Z d f nq S j xs kvs)(m:H0 d≠none)(a:f≠d)(b:nq≠d)(s:ag (del Z d) Z')(w:DW Z' d):SB H0 Z' d f nq S j xs kvs := have t:=h.dw.af s;{h.ro.del (.inl rfl) s,w,DP.to s h.ex a,h.an.imp λv i g=>g.af t,h.ws,h.nm,h.ky,h.ok,DP.to s h.en b,h.nd.mv t λc l us e k=>DP.to s k λz=>m (z▸h.fr c l e),h.fr}
theorem SB.same(h:SB H0 Z d f nq S j xs kvs)(s:ag Z Z'):SB H0 Z' d f nq S j xs kvs := {h.ro.same s,h.dw.same s,s _ _ h.ex,h.an.imp λv i g=>g.af s.af,h.ws,h.nm,h.ky,h.ok,s _ _ h.en,h.nd.same s,h.fr}
def SB.sign(h:SB H0 Z d f nq S j xs kvs)(Q:H0 f≠none)(K:f≠d)(B:nq≠f)(hj:j<24)(e:Z p=!(.tup [o,vn,k,.ref kq,n,.bl r.lv]))(R:GK Z (.tup r.pt) o)(y:GK Z (.tup r.nk) vn)(b:GK Z (kd (cJ S) r.bh) k)(L:Z kq=!(.tup [.int r.ka,.int r.kb,.int r.kc]))(H:DT Z n r.sg)(hn:r.nk=[.inr w,.inl (40+(j:Int)),.inl 0])(C:PyData.strOk w=true)(hp:Pn r.pt)(q:r.ka=50+(j:Int) / 2/\r.kb=(j:Int) % 2/\r.kc=0)(s:∀i,r.bh=!i->i<j/\(S i).pt=r.pt)(M:iV r.sg)(F:Hq r.sg) : SB H0 (upd Z f (.lst (xs++[.ref p]))) d f nq (lC S j r) (j+1) (xs++[.ref p]) kvs:=do t:aj Z (upd Z f (.lst (xs++[.ref p]))):=aj.wl h.ex;a:=Gs.ext S j r;I:Lay r.nk:=(do[hn];¬(PyData.strOk w&&(true&&(true&&true)))=true;[C];2);W:WS (lC S j r) (j+1):=h.ws.ext () (λi hi=>do _;{a1,a2,x}:=h.ky i hi;{G,N,Y}:=q;@MR;[a1,a2,G,N];()) (λi hi z=>do _;{w',U}:=h.nm i hi;z<-[U,hn];(by injection z with _ z;injection z with z _;injection z with z);()) s I hp.lay F;lt:∀i,i<j->lC S j r i=S i:=λi hi=>eH hi;cs:∀{P:Nat->Prop},(∀i,i<j->P i)->P j->∀i,i<j+1->P i:=λh1 h2 i hi=>(do z<|i=j;[z];h2;h1 i ());{h.ro.wr (.inr rfl),h.dw.wr K.symm,aE,?_,W,cs (λi hi=>do[lt i hi];h.nm i hi) {w,do[gO];hn},cs (λi hi=>do[lt i hi];h.ky i hi) (do[gO];q),cs (λi hi=>do[lt i hi];h.ok i hi) (do[gO];M),do[aB B];h.en,?_,h.fr};[yx];AN.snoc (sM h.an λv i hi g=>(g.af t).FN a (qv.mp hi) λm z=>?_) ?_;hi:=qv.mp hi;this:=(h.ws.back i hi m z).1;();ex:lC S j r j=r:=gO;{p,o,vn,k,kq,n,O,do[ex];t _ _ e,do[ex];R.af t,do(by unfold NM cJ);[ex];y.af t,?_,do[ex];t _ _ L,do[ex];H.af t};@vB;[ex];(by cases z:r.bh with|none|some m=>?_);b<-[z];b;b<-[z];NM.af (NM.FN a (s m z).1 b) t;{h.nd.1.af t,λc u e=>?_};{D,l,us,h1,h2,rfl,T,E,X,J}:=h.nd.2 c u e;{D,l,us,h1,h2,O,(aB λ(z:l=f)=>Q (z▸h.fr c l e)).trans T,E,(),λv A=>?_};{i,a1,a2,x}:=J v A;{i,(),do[lt i a1];a2,NM.af (NM.FN a a1 x) t}
def SB.out(h:SB H0 Z d f nq S j xs kvs)(e:H0 b=!o)(c:b≠d)(a:b≠f):Z b=!o:=h.ro b o e λz=>z.elim c a
def SB.free(h:SB H0 Z d f nq S j xs kvs)(e:Z b=none):H0 b=none:=do(by cases z:H0 b with|none|some o=>?_);2;a1:b≠d:=h.dw.ne e;a2:b≠f:=λy=>(do e<-[y,h.ex];-e);e<-[h.out z a1 a2];-e
def SB.get(h:SB H0 Z d f nq S j xs kvs)(p:List Key):∃us:List V,us.length<=j/\(∀v∈us,∃i,i<j/\(S i).pt=p/\NM (cJ S) Z v i)/\∀(Z':Hp) (e:To),(∀b o,H0 b=none->Z b=!o->Z' b=!o)->Z' e=!(.lst [])->∃a,(vG kvs (.tup p)).getD (.ref e)=.ref a/\Z' a=! (.lst us):=do(by cases z:vG kvs (.tup p) with|none|some u=>?_);{[],qx _,(λv z=>nomatch z),λZ' e s c=>{e,O,c}};{n,a,us,h1,h2,rfl,k,m,g,l}:=h.nd.2 _ _ z;(by injection h1 with h1);!h1;{us,g,l,λZ' e s c=>{a,O,s _ _ (h.fr _ _ z) k}}
def SB.put(h:SB H0 Z d f nq S j xs kvs)(hn:H0 nq=none)(I:nq≠d)(M:nq≠f)(pn:Pn p)(J:GK Z (.tup p) m)(e:Z l=! (.lst us))(fq:H0 l=none)(B:0<us.length)(F:us.length<=j)(s:∀v∈us,∃i,i<j/\(S i).pt=p/\NM (cJ S) Z v i) : SB H0 (upd Z nq (.dG (pG kvs (.tup p) m (.ref l)))) d f nq S j xs (pG kvs (.tup p) m (.ref l)):=do t:aj Z (upd Z nq (.dG (pG kvs (.tup p) m (.ref l)))):=aj.wd h.en;ne:∀{b:To} {ys:List V},Z b=! (.lst ys)->upd Z nq (.dG (pG kvs (.tup p) m (.ref l))) b=! (.lst ys):=λ{b} {ys} e=>(do[aB λz=>do e<-[z,h.en];-e];e);{λb o e n=>do[aB (λz=>do e<-[z,hn];-e)];h.ro b o e n,h.dw.wr I.symm,ne h.ex,h.an.imp λv i g=>g.af t,h.ws,h.nm,h.ky,h.ok,aE,{λe C=>?_,λk u z=>?_},λk u z=>?_};rfl||{e',he',h1,h2}:=Ig C;⟨p,pn,O,J.af t⟩;{r,G,E,L}:=h.nd.1 e' he';{r,G,h1.symm.trans E,do[<-h2];L.af t};z<-[d7];y<|k=.tup p;z<-[qF y];(by injection z with z);{p,l,us,y,pn,z.symm,ne e,B,F,λv q=>let⟨i,a,b,c⟩:=s v q;{i,a,b,NM.af c t}};z<-[qB y];{r,w,x,h1,h2,H,K,D,A,s}:=h.nd.2 k u z;{r,w,x,h1,h2,H,ne K,D,A,λv q=>let⟨i,a,b,c⟩:=s v q;{i,a,b,NM.af c t}};z<-[d7];y<|k=.tup p;z<-[qF y];(by injection z with z;injection z with z);[<-z];fq;z<-[qB y];h.fr k u z
end
def MJ:KD->Tn|.tup p=>tD p|_=>.none
theorem xm.lS:∀{kvs:List 67},xm H kvs->dD H (kvs.map (·.2.1)) (kvs.map λe=>MJ e.1)|[],_=>.nil|e::r,h=>do _;{p,pn,b,g}:=h e qm;.cons ?_ (xm.lS λe a=>h e (qz _ a));¬DV H e.2.1 (MJ e.1);[b];(bE g).dv
def xm.keys(h:xm H kvs):KeysAre (kvs.map λe=>MJ e.1) 3:=do all:∀d∈kvs.map (λe=>MJ e.1),∃s n,d=.tuple [.str s,.int n]/\d.canLay0=true:=λd c=>(do _;{e,f,rfl}:=qc.mp c;{p,pn,j,g}:=h e f;{w,x,rfl}:=pn.two;[j];{w,x,O,pn.lay});{fO λd c=>?_,λd c=>?_,λa k b i=>?_,λd c=>?_};{s,n,rfl,l}:=all d c;l;{s,n,rfl,l}:=all d c;trivial;{s,n,rfl,_}:=all a k;{t,m,rfl,_}:=all b i;2;{s,n,rfl,_}:=all d c;jz rfl
def NZ{α:Type}{ds:List Tn}{ix:List Nat}{ys:List α}{c:α}(a:c7 ds ix)(d:ds.length=ys.length):∀v∈ix.map (λi=>ys.getD i c),v∈ys:=λv b=>do _;{i,hi,rfl}:=qc.mp b;this:=qv.mp (a.1.mem_iff.mp hi);[zb,qe ()];y0 _
def OF{ds:List Tn}{ix:List Nat}(a:c7 ds ix):ix.length=ds.length:=do[a.1.length_eq,zh]
structure TB(H0 Z:Hp)(d:To)(F:Nat->To)(S:Nat->Sg)(n k:Nat)(M:Nat->Mk)(m:Nat)(N:Nat->Mk)(q:Nat)(ms ns:List V):Prop where
 ro:Rest H0 Z (λb=>b=d\/b=F 4\/b=F 5)
 dw:DW Z d
 e4:Z (F 4)=!(.lst ms)
 am:AN (MN S M Z) ms (List.range m)
 wm:WK S n M m
 lm:m<=k
 km:∀i,i<m->bO (M i).ka (M i).kb (80+(k:Int) / 2) ((k:Int) % 2)
 e5:Z (F 5)=!(.lst ns)
 an:AN (NN S N Z) ns (List.range q)
 wn:WK S n N q
 ln:q<=k
 kn:∀i,i<q->bO (N i).ka (N i).kb (80+(k:Int) / 2) ((k:Int) % 2)
section
variable {H0 Z Z':Hp}{d:To}{F:Nat->To}{S:Nat->Sg}{n k:Nat}{M N:Nat->Mk}{m q:Nat}{ms ns:List V}
def TB.to(h:TB H0 Z d F S n k M m N q ms ns)(r:Rest H0 Z' (λb=>b=d\/b=F 4\/b=F 5))(t:aj Z Z')(w:DW Z' d)(a:Z' (F 4)=!(.lst ms))(b:Z' (F 5)=!(.lst ns)):TB H0 Z' d F S n k M m N q ms ns := {r,w,a,h.am.imp λv i g=>g.af t,h.wm,h.lm,h.km,b,h.an.imp λv i g=>g.af t,h.wn,h.ln,h.kn}
def TB.draw(h:TB H0 Z d F S n k M m N q ms ns)(a:F 4≠d)(b:F 5≠d)(s:ag (del Z d) Z')(w:DW Z' d):TB H0 Z' d F S n k M m N q ms ns := h.to (h.ro.del (.inl rfl) s) (h.dw.af s) w (DP.to s h.e4 a) (DP.to s h.e5 b)
theorem TB.same(h:TB H0 Z d F S n k M m N q ms ns)(s:ag Z Z'):TB H0 Z' d F S n k M m N q ms ns := h.to (h.ro.same s) s.af (h.dw.same s) (s _ _ h.e4) (s _ _ h.e5)
def jO(h:bO a b (80+(k:Int) / 2) ((k:Int) % 2)):bO a b (80+((k+1:Nat):Int) / 2) (((k+1:Nat):Int) % 2):=by unfold bO at h ⊢;omega
def Ao:bO (80+(k:Int) / 2) ((k:Int) % 2) (80+((k+1:Nat):Int) / 2) (((k+1:Nat):Int) % 2):=do@bO;()
def TB.next(h:TB H0 Z d F S n k M m N q ms ns):TB H0 Z d F S n (k+1) M m N q ms ns := {h.ro,h.dw,h.e4,h.am,h.wm,j6 h.lm,λi hi=>jO (h.km i hi),h.e5,h.an,h.wn,j6 h.ln,λi hi=>jO (h.kn i hi)}
def TB.out(h:TB H0 Z d F S n k M m N q ms ns)(e:H0 b=!o)(a:b≠d)(c:b≠F 4)(f:b≠F 5):Z b=!o:=h.ro b o e λz=>do z||z||z:=z;a z;c z;f z
def TB.mark(h:TB H0 Z d F S n k M m N q ms ns)(y:F 4≠d)(a:F 4≠F 5)(C:k<60)(p:MN S (λ_=>r) Z v m)(f:r.ka=80+(k:Int) / 2)(c:r.kb=(k:Int) % 2)(sd:dZ S n r.pt r.b/\dZ S n r.pt r.e)(l:Lay r.pt/\Lay r.nm/\PyData.strOk r.kd=true/\∀z,r.vl=!z->PyData.strOk z=true) : TB H0 (upd Z (F 4) (.lst (ms++[v]))) d F S n (k+1) (iF M m r) (m+1) N q (ms++[v]) ns:=do t:aj Z (upd Z (F 4) (.lst (ms++[v]))):=aj.wl h.e4;B:=h.lm;{h.ro.wr (.inr (.inl rfl)),h.dw.wr y.symm,aE,?_,h.wm.ext () (λi hi=>do[f,c];h.km i hi) sd l,(),λi hi=>?_,do[aB a.symm];h.e5,h.an.imp λv i g=>g.af t,h.wn,j6 h.ln,λi hi=>jO (h.kn i hi)};[yx];AN.snoc (sM h.am λv i hi g=>(g.af t).ext (qv.mp hi)) ?_;{b,w,x,u,vn,kq,h0,h1,h2,A,s,o,j}:=p;ex:iF M m r m=r:=mS;{b,w,x,u,vn,kq,h0,do[ex];t _ _ h1,do[ex];h2.af t,do[ex];A.af t,do[ex];s.af t,do[ex];o.af t,do[ex];t _ _ j};z<|i=m;[z,mS,f,c];Ao;[kW (show i<m from ())];jO (h.km i ())
def TB.note(h:TB H0 Z d F S n k M m N q ms ns)(A:F 5≠d)(a:F 4≠F 5)(C:k<60)(p:NN S (λ_=>r) Z v q)(f:r.ka=80+(k:Int) / 2)(c:r.kb=(k:Int) % 2)(sd:dZ S n r.pt r.b/\dZ S n r.pt r.e)(l:Lay r.pt/\Lay r.nm/\PyData.strOk r.kd=true/\∀z,r.vl=!z->PyData.strOk z=true) : TB H0 (upd Z (F 5) (.lst (ns++[v]))) d F S n (k+1) M m (iF N q r) (q+1) ms (ns++[v]):=do t:aj Z (upd Z (F 5) (.lst (ns++[v]))):=aj.wl h.e5;B:=h.ln;{h.ro.wr (.inr (.inr rfl)),h.dw.wr A.symm,do[aB a];h.e4,h.am.imp λv i g=>g.af t,h.wm,j6 h.lm,λi hi=>jO (h.km i hi),aE,?_,h.wn.ext () (λi hi=>do[f,c];h.kn i hi) sd l,(),λi hi=>?_};[yx];AN.snoc (sM h.an λv i hi g=>(g.af t).ext (qv.mp hi)) ?_;{b,w,x,u,vn,kq,h0,h1,h2,y,s,o,j}:=p;ex:iF N q r q=r:=mS;{b,w,x,u,vn,kq,h0,do[ex];t _ _ h1,do[ex];h2.af t,do[ex];y.af t,do[ex];s.af t,do[ex];o.af t,do[ex];t _ _ j};z<|i=q;[z,mS,f,c];Ao;[kW (show i<q from ())];jO (h.kn i ())
end
def lQ{α:Type}(f:Nat->α)(n:Nat)(r:α):Nat->α:=λi=>if i=n then r else f i
def Hj{α:Type}{f:Nat->α}{n:Nat}{r:α}{i:Nat}(h:i<n):lQ f n r i=f i:=qB ()
def Lh{α:Type}{f:Nat->α}{n:Nat}{r:α}:lQ f n r n=r:=qF rfl
structure UB(H0 Z:Hp)(d:To)(F:Nat->To)(X A B A2 B2:Int)(L:Nat->Ln)(l:Nat)(C:Nat->Ce)(c:Nat)(ls cs:List V):Prop where
 ro:Rest H0 Z (λb=>b=d\/b=F 6\/b=F 7)
 dw:DW Z d
 e6:Z (F 6)=!(.lst ls)
 al:AN (pw L Z) ls (List.range l)
 wl:WL L l
 nb:∀i,i<l->(L i).bh=none
 nk:∀i,i<l->∃z,(L i).nk=[.inr "bo",.inl z]/\z<X
 lk:∀i,i<l->bO (L i).ka (L i).kb A B
 e7:Z (F 7)=!(.lst cs)
 ac:AN (mu C Z) cs (List.range c)
 wc:RT C c
 ck:∀i,i<c->bO (C i).ka (C i).kb A2 B2
section
variable {H0 Z Z':Hp}{d:To}{F:Nat->To}{X A B A2 B2 X' A' B':Int}{L:Nat->Ln}{l:Nat}{C:Nat->Ce}{c:Nat}{ls cs:List V}
def UB.to(h:UB H0 Z d F X A B A2 B2 L l C c ls cs)(r:Rest H0 Z' (λb=>b=d\/b=F 6\/b=F 7))(t:aj Z Z')(w:DW Z' d)(a:Z' (F 6)=!(.lst ls))(b:Z' (F 7)=!(.lst cs)):UB H0 Z' d F X A B A2 B2 L l C c ls cs := {r,w,a,h.al.imp λv i g=>g.af t,h.wl,h.nb,h.nk,h.lk,b,h.ac.imp λv i g=>g.af t,h.wc,h.ck}
def UB.draw(h:UB H0 Z d F X A B A2 B2 L l C c ls cs)(b:F 6≠d)(a:F 7≠d)(s:ag (del Z d) Z')(w:DW Z' d):UB H0 Z' d F X A B A2 B2 L l C c ls cs := h.to (h.ro.del (.inl rfl) s) (h.dw.af s) w (DP.to s h.e6 b) (DP.to s h.e7 a)
theorem UB.same(h:UB H0 Z d F X A B A2 B2 L l C c ls cs)(s:ag Z Z'):UB H0 Z' d F X A B A2 B2 L l C c ls cs := h.to (h.ro.same s) s.af (h.dw.same s) (s _ _ h.e6) (s _ _ h.e7)
def UB.own(h:UB H0 Z d F X A B A2 B2 L l C c ls cs)(e:Z q=! (.lst us))(f:H0 q=none)(g:q≠d)(a:q≠F 6)(i:q≠F 7):UB H0 (upd Z q o) d F X A B A2 B2 L l C c ls cs := h.to (λb o e n=>do[aB (λz=>do e<-[z,f];-e)];h.ro b o e n) (aj.wl e) (h.dw.wr g.symm) (do[aB a.symm];h.e6) (do[aB i.symm];h.e7)
def UB.up(h:UB H0 Z d F X A B A2 B2 L l C c ls cs)(k:X<=X')(g:∀a b,bO a b A B->bO a b A' B')(j:∀a b,bO a b A2 B2->bO a b e f):UB H0 Z d F X' A' B' e f L l C c ls cs := {h.ro,h.dw,h.e6,h.al,h.wl,h.nb,λi hi=>let⟨z,a,b⟩:=h.nk i hi;{z,a,()},λi hi=>g _ _ (h.lk i hi),h.e7,h.ac,h.wc,λi hi=>j _ _ (h.ck i hi)}
def UB.out(h:UB H0 Z d F X A B A2 B2 L l C c ls cs)(e:H0 b=!o)(a:b≠d)(g:b≠F 6)(f:b≠F 7):Z b=!o:=h.ro b o e λz=>do z||z||z:=z;a z;g z;f z
def UB.free(h:UB H0 Z d F X A B A2 B2 L l C c ls cs)(e:Z b=none):H0 b=none/\b≠d/\b≠F 6/\b≠F 7:=do a1:b≠d:=h.dw.ne e;a2:b≠F 6:=λy=>(do e<-[y,h.e6];-e);a:b≠F 7:=λy=>(do e<-[y,h.e7];-e);{?_,a1,a2,a};(by cases z:H0 b with|none|some o=>?_);2;e<-[h.out z a1 a2 a];-e
def UB.line(h:UB H0 Z d F X A B A2 B2 L l C c ls cs)(I:F 6≠d)(q:F 6≠F 7)(J:l<1000)(E:pw (λ_=>r) Z v l)(nk:r.nk=[.inr "bo",.inl X])(bh:r.bh=none)(D:r.ka=A)(w:r.kb=B)(H:Lay r.pt)(s:PyData.strOk r.wy=true)(G:X<X')(u:bO A B A' B') : UB H0 (upd Z (F 6) (.lst (ls++[v]))) d F X' A' B' A2 B2 (lQ L l r) (l+1) C c (ls++[v]) cs:=do t:aj Z (upd Z (F 6) (.lst (ls++[v]))):=aj.wl h.e6;lt:∀i,i<l->lQ L l r i=L i:=λi hi=>Hj hi;at_:lQ L l r l=r:=Lh;f:∀{P:Nat->Prop},(∀i,i<l->P i)->P l->∀i,i<l+1->P i:=λh1 h2 i hi=>(do z<|i=l;[z];h2;h1 i ());x:∀i,i<l->(L i).nk≠r.nk:=λi hi z=>(do _;{y,e,g}:=h.nk i hi;z<-[e,nk];(by injection z with _ z;injection z with z _;injection z with z);());{h.ro.wr (.inr (.inl rfl)),h.dw.wr I.symm,aE,?_,{(),λi j a b=>?_,λi hi j K e=>?_,λi hi j e=>?_,?_,f (λi hi=>do[lt i hi];h.wl.wy i hi) (do[at_];s)},?_,?_,?_,do[aB q.symm];h.e7,h.ac.imp λv i g=>g.af t,h.wc,h.ck};[yx];AN.snoc (sM h.al λv i hi g=>?_) ?_;hi:=qv.mp hi;{b,o,vn,p,kq,e,h1,h2,m,k,n}:=pw.af g t;{b,o,vn,p,kq,e,do[lt i hi];h1,do[lt i hi];h2,do(by unfold NM dr at m ⊢);[lt i hi];m,?_,do[lt i hi];n};(by unfold xS at k ⊢);k<-[h.nb i hi];[lt i hi,h.nb i hi];k;{b,o,vn,p,kq,e,h1,h2,m,k,n}:=pw.af E t;{b,o,vn,p,kq,e,do[at_];h1,do[at_];h2,do(by unfold NM dr at m ⊢);[at_];m,?_,do[at_];n};(by unfold xS at k ⊢);k<-[bh];[at_,bh];k;z<|j=l;[z,at_,lt i (),D,w];h.lk i ();[lt i (),lt j ()];h.wl.up i j a ();z<|i=l;y<|j=l;[z,y];e<-[z,at_,lt j ()];absurd e.symm (x j ());y<|j=l;e<-[y,at_,lt i ()];absurd e (x i ());e<-[lt i (),lt j ()];h.wl.inj i () j () e;z<|i=l;e<-[z,at_,bh];-e;e<-[lt i (),h.nb i ()];-e;f (λi hi=>do[lt i hi];h.wl.lay i hi) ?_;[at_,nk];{by show(PyData.strOk "bo"&&(true&&true))=true;decide +kernel,H};f (λi hi=>do[lt i hi];h.nb i hi) (do[at_];bh);f (λi hi=>do[lt i hi];(let⟨z,a,b⟩:=h.nk i hi;{z,a,()})) (do[at_];{X,nk,G});f (λi hi=>do[lt i hi];IB (h.lk i hi) u) (do[at_,D,w];u)
def UB.cell(h:UB H0 Z d F X A B A2 B2 L l C c ls cs)(o:F 7≠d)(f:F 6≠F 7)(s:c<100)(p:mu (λ_=>r) Z v c)(n:r.ka=A2)(m:r.kb=B2)(q:Lay r.pt/\Lay r.rw/\Lay r.cl)(wd:ME r.wd)(k:bO A2 B2 A' B') : UB H0 (upd Z (F 7) (.lst (cs++[v]))) d F X A B A' B' L l (lQ C c r) (c+1) ls (cs++[v]):=do t:aj Z (upd Z (F 7) (.lst (cs++[v]))):=aj.wl h.e7;lt:∀i,i<c->lQ C c r i=C i:=λi hi=>Hj hi;at_:lQ C c r c=r:=Lh;e:∀{P:Nat->Prop},(∀i,i<c->P i)->P c->∀i,i<c+1->P i:=λh1 h2 i hi=>(do z<|i=c;[z];h2;h1 i ());{h.ro.wr (.inr (.inr rfl)),h.dw.wr o.symm,do[aB f];h.e6,h.al.imp λv i g=>g.af t,h.wl,h.nb,h.nk,h.lk,aE,?_,{(),λi j a b=>?_,?_,?_},?_};[yx];AN.snoc (sM h.ac λv i hi g=>?_) ?_;hi:=qv.mp hi;this:=mu.af g t;(by unfold mu at this ⊢);[lt i hi];this;this:=mu.af p t;(by unfold mu at this ⊢);[at_];this;z<|j=c;[z,at_,lt i (),n,m];h.ck i ();[lt i (),lt j ()];h.wc.up i j a ();e (λi hi=>do[lt i hi];h.wc.lay i hi) (do[at_];q);e (λi hi=>do[lt i hi];h.wc.wd i hi) (do[at_];wd);e (λi hi=>do[lt i hi];IB (h.ck i hi) k) (do[at_,n,m];k)
end
structure RC(Z:Hp)(rq cq:To)(us vs:List V)(k:Nat):Prop where
 er:Z rq=! (.lst us)
 ec:Z cq=!(.lst vs)
 ru:∀u∈us,∃p,GK Z (.tup p) u/\Pn p
 cu:∀u∈vs,∃p,GK Z (.tup p) u/\Pn p
 lu:us.length<=k
 lv:vs.length<=k
section
variable {Z Z':Hp}{rq cq:To}{us vs:List V}{k:Nat}
def RC.to(h:RC Z rq cq us vs k)(t:aj Z Z')(a:Z' rq=! (.lst us))(b:Z' cq=!(.lst vs)):RC Z' rq cq us vs k := {a,b,λu c=>let⟨p,g,n⟩:=h.ru u c;{p,g.af t,n},λu c=>let⟨p,g,n⟩:=h.cu u c;{p,g.af t,n},h.lu,h.lv}
def RC.same(h:RC Z rq cq us vs k)(s:ag Z Z'):RC Z' rq cq us vs k:=h.to s.af (s _ _ h.er) (s _ _ h.ec)
def RC.draw(h:RC Z rq cq us vs k)(w:DW Z d)(b:rq≠d)(a:cq≠d)(s:ag (del Z d) Z'):RC Z' rq cq us vs k:=h.to (w.af s) (DP.to s h.er b) (DP.to s h.ec a)
def RC.wr(h:RC Z rq cq us vs k)(e:Z q=! (.lst xs))(b:rq≠q)(a:cq≠q):RC (upd Z q o) rq cq us vs k:=h.to (aj.wl e) (do[aB b];h.er) (do[aB a];h.ec)
def RC.le(h:RC Z rq cq us vs k)(a:k<=b):RC Z rq cq us vs b:={h.er,h.ec,h.ru,h.cu,qf h.lu a,qf h.lv a}
def RC.row(h:RC Z rq cq us vs k)(n:rq≠cq)(g:GK Z (.tup p) v)(pn:Pn p):RC (upd Z rq (.lst (us++[v]))) rq cq (us++[v]) vs (k+1):=do t:aj Z (upd Z rq (.lst (us++[v]))):=aj.wl h.er;b:=h.lu;{aE,do[aB n.symm];h.ec,λu a=>?_,λu a=>let⟨p,g,n⟩:=h.cu u a;{p,g.af t,n},do[qg,qr];(),j6 h.lv};z||z:=zg.mp a;{p,g,n}:=h.ru u z;{p,g.af t,n};[qt.mp z];{p,g.af t,pn}
def RC.turn(h:RC Z rq cq us vs k):RC Z cq rq vs us k:={h.ec,h.er,h.cu,h.ru,h.lv,h.lu}
def Jn(h:∀u∈us,∃p,GK Z (.tup p) u/\Pn p):∃ps:List (List Key),us.length=ps.length/\dE Z us (ps.map tD)/\PyData.canLayAll0 (ps.map tD)=true:=do _;{ps,h1,h2}:=xN (P:=λu p=>GK Z (.tup p) u/\Pn p) h;a:AL (λu p=>GK Z (.tup p) u/\Pn p) us ps:={h1.symm,h2};{ps,h1.symm,AL.oH (λv p g=>bE g.1) a,(uS λk b=>do _;{_,_,_,h}:=a.ri b;h).1}
end
theorem KN.data(h:KN H kn):∀n,n<=kn.length->∃ps:List (List Key),ps.length=n/\∀(i:Nat) p,ps[i]?=!p->∃v w,kn[i]?=!v/\p=[.inr w,.inl (i:Int)]/\GK H (.tup p) v/\Pn p| 0,_=>{[],O,(λi p z=>nomatch z)}|n+1,hn=>do _;{ps,a,hp}:=KN.data h n ();e:=qe (show n<kn.length from ());{w,g,pn}:=h n _ e;{ps++[[.inr w,.inl (n:Int)]],do[qg,a];2,λi p z=>?_};hi<|i<n;z<-[zu ()];hp i p z;this:i=n:=(do this:=(qp.mp z).1;this<-[qg,a];this:i<n+1:=this;());!this;z<-[ye (),a,j3];-z;{_,w,e,O,g,pn}
def KN.idx(h:KN H kn)(e:kn[j]?=!v):∃p ds,GK H (.tup p) v/\Pn p/\DV H v (tD p)/\dD H kn ds/\(tD p).canLay0=true/\PyData.canLayAll0 ds=true/\(tD p).depth<=61/\(∃d,ds[j]?=!d/\PyData.eqv d (tD p)=true)/\∀(m:Nat) d,m<j->ds[m]?=!d->PyData.eqv d (tD p)=false:=do _;{ps,n,hp}:=h.data kn.length (qb _);x:=(qp.mp e).1;b:ps[j]?=!(ps[j]'()):=qe ();{A,w,f,ep,g,pn}:=hp j _ b;f<-[e];-f;(by generalize ps[j]'()=p at b ep g pn);!ep;c:AL (λu p=>GK H (.tup p) u/\Pn p) kn ps:={n.symm,λm u q a l=>do _;{r,_,i,_,g,pn}:=hp m q l;i<-[a];-i;{g,pn}};{_,ps.map tD,g,pn,(bE g).dv,(AL.oH (λv p g=>bE g.1) c).dv,pn.lay,(uS λk o=>do _;{_,_,_,h}:=c.ri o;h).1,jz rfl,{_,do[qj,b];2,do[gN];qH rfl},λm d t a=>?_};a<-[qj];(by cases z:ps[m]? with|none|some q=>?_);a<-[z];-a;a<-[z];-a;{_,s,_,eq,_,_}:=hp m q z;[gN,eq];decide_eq_false λy=>?_;(by injection y with _ y;injection y with y _;injection y with y);()
def Qx{xs:List V}{j:Nat}{v:V}(e:(fm xs none (some 3))[j]?=!v):xs[j]?=!v:=do(by unfold fm at e);e<-[show HT.bV xs.length 0 none=0 from rfl,gr];e<-[List.getElem?_take];(by split at e);e;-e
def RP(h:GK H (.tup p) v)(g:GK H (.tup q) v):p=q:=do _;{a,rfl,e}:=h;{b,z,c}:=g;-z;c<-[e];(by injection c with c;injection c with c);HN c
def Cl(H:Hp)(bs:List V)(p:List Key):Prop:=p=aN\/∃b vn a,V.ref b∈bs/\H b=!(.tup [vn,a])/\GK H (.tup p) vn
def NC(H:Hp)(bs:List V)(v:V):Prop:=∃p,GK H (.tup p) v/\Pn p/\Cl H bs p
def yE(H:Hp)(bs:List V)(j:Nat)(v:V):Prop:=∃b vn a w o,v=.ref b/\H b=!(.tup [vn,a])/\GK H (.tup [.inr w,.inl ((j+1:Nat):Int)]) vn/\Nm [.inr w,.inl ((j+1:Nat):Int)]/\GK H (.tup o) a/\Pn o/\Cl H bs o
section
variable {H H':Hp}{bs:List V}{p:List Key}{v u:V}{j:Nat}
theorem Cl.af(h:Cl H bs p)(t:aj H H'):Cl H' bs p:=do h||{b,vn,vo,h1,h2,h3}:=h;.inl h;.inr ⟨b,vn,vo,h1,t _ _ h2,h3.af t⟩
def Cl.more(h:Cl H bs p):Cl H (bs++[u]) p:=do h||{b,vn,vo,h1,h2}:=h;.inl h;.inr ⟨b,vn,vo,yi _ h1,h2⟩
theorem NC.af(h:NC H bs v)(t:aj H H'):NC H' bs v:=let⟨p,a,b,c⟩:=h;{p,a.af t,b,c.af t}
theorem NC.more(h:NC H bs v):NC H (bs++[u]) v:=let⟨p,a,b,c⟩:=h;{p,a,b,c.more}
theorem yE.af(h:yE H bs j v)(t:aj H H'):yE H' bs j v:=do _;{b,vn,f,w,o,e,h1,h2,g,d,c,a}:=h;{b,vn,f,w,o,e,t _ _ h1,h2.af t,g,d.af t,c,a.af t}
theorem yE.more(h:yE H bs j v):yE H (bs++[u]) j v:=do _;{b,vn,f,w,o,e,h1,h2,g,d,c,a}:=h;{b,vn,f,w,o,e,h1,h2,g,d,c,a.more}
end
structure gV(H:Hp)(kn bs:List V)(rs:List Pc):Prop where
 kk:∀v∈kn,NC H bs v
 bi:∀(j:Nat) v,bs[j]?=!v->yE H bs j v
 rr:∀r∈rs,Cl H bs r.pt
section
variable {H H':Hp}{kn bs:List V}{rs:List Pc}{v:V}
theorem gV.af(h:gV H kn bs rs)(t:aj H H'):gV H' kn bs rs:={λv b=>(h.kk v b).af t,λj v e=>(h.bi j v e).af t,λr a=>(h.rr r a).af t}
def gV.ui(h:gV H kn bs rs)(b:yE H bs bs.length v):gV H kn (bs++[v]) rs:={λv d=>(h.kk v d).more,λj u e=>do c<|j<bs.length;e<-[zu c];(h.bi j u e).more;this:=(qp.mp e).1;this<-[qg,qr];z:j=bs.length:=();!z;e<-[ye (qb _),j3];-e;b.more,λr a=>(h.rr r a).more}
def gV.place(h:gV H kn bs rs)(c:Cl H bs r.pt):gV H kn bs (rs++[r]):={h.kk,h.bi,λx a=>do a||a:=zg.mp a;h.rr x a;[qt.mp a];c}
def gV.Dl(h:gV H kn bs rs)(c:NC H bs v):gV H (kn++[v]) bs rs:={λx a=>do a||a:=zg.mp a;h.kk x a;[qt.mp a];c,h.bi,h.rr}
end
theorem An{α:Type}:∀{ys:List V} {P:Nat->V->α->Prop},(∀(j:Nat) y,ys[j]?=!y->∃k,P j y k)->∃ks:List α,ks.length=ys.length/\∀(j:Nat) y k,ys[j]?=!y->ks[j]?=!k->P j y k|[],_,_=>{[],O,λm y k z=>do z<-0}|y::ys,P,h=>do _;{k,c}:=h 0 y rfl;{ks,a1,a2}:=An (P:=λj=>P (j+1)) (ys:=ys) λj z e=>h (j+1) z (do 0<|e);{k::ks,do[zd,zd,a1],λm z j b a=>?_};(by cases m with|zero|succ m=>?_);-b;-a;c;a2 m z j (do 0<|b) (do 0<|a)
theorem gV.br{kn bs:List V}(h:gV H kn bs rs)(I:∀r∈rs,Nm r.pt):∃br,AL (BP H) bs br/\(br.map (·.1)).Nodup/\br.length=bs.length/\(∀b∈br,b.2=aN\/b.2∈br.map (·.1))/\aN∉br.map (·.1)/\∀r∈rs,r.pt∈br.map (·.1):=do _;{br,l,k}:=An (ys:=bs) (P:=λj v (x:List Key×List Key)=>BP H v x/\(∃w,x.1=[.inr w,.inl ((j+1:Nat):Int)])/\Nm x.1/\Cl H bs x.2) λj v e=>(do _;{b,vn,t,w,o,e,h1,h2,f,G,D,B}:=h.bi j v e;{(_,o),{b,vn,t,e,h1,h2,G,.inr f,D},{w,O},f,B});at_:∀{j:Nat} {x},br[j]?=!x->∃v,bs[j]?=!v/\BP H v x/\(∃w,x.1=[.inr w,.inl ((j+1:Nat):Int)])/\Nm x.1/\Cl H bs x.2:=λ{j x} e=>(do a:=(qp.mp e).1;{_,qe (),k j _ x (qe ()) e});y:AL (BP H) bs br:={l.symm,λm v x g s=>(k m v x g s).1};cl:∀{p},Cl H bs p->p=aN\/p∈br.map (·.1):=λ{p} c=>(do c||{b,vn,t,h1,h2,f}:=c;.inl c;{x,q,L,F,E,e,u,A,_}:=y.mem h1;-e;u<-[h2];-u;.inr (qc.mpr {x,q,RP A f}));{br,y,?_,l,λb J=>?_,λC=>?_,λr d=>?_};z8.mpr (yv.mpr λi j hi a K z=>?_);{_,_,_,{w,g},_}:=at_ (qe hi);{_,_,_,{M,s},_}:=at_ (qe a);z<-[g,s];(by injection z with _ z;injection z with z _;injection z with z);();{j,a}:=jh J;{_,_,_,_,_,c}:=at_ a;cl c;{x,q,e}:=qc.mp C;{j,a}:=jh q;{_,_,_,_,n,_}:=at_ a;n.main e;(cl (h.rr r d)).resolve_left (I r d).main
structure xH(H0 H:Hp)(d f:To)(ys:List V)(ls:List Lf):Prop where
 rs:Rest H0 H (λb=>b=d\/b=f)
 dw:DW H d
 ey:H f=! (.lst ys)
 lr:AL (LX H) ys ls
def xH.draw(h:xH H0 H d f ys ls)(n:f≠d)(s:ag (del H d) H')(w:DW H' d):xH H0 H' d f ys ls := {h.rs.del (.inl rfl) s,w,DP.to s h.ey n,h.lr.imp λv l g=>LX.af g (h.dw.af s)}
theorem xH.same(h:xH H0 H d f ys ls)(s:ag H H'):xH H0 H' d f ys ls := {h.rs.same s,h.dw.same s,s _ _ h.ey,h.lr.imp λv l g=>LX.af g s.af}
inductive ic(vs:List V)(H:Hp)(Q:VK)(_:XK):Prop
 |mk(d fa r kq F kn:_)(_:vs=[.ref d,.ref fa,.ref r,.ref kq])(_:DW H d)(_:H fa=! (.dK (du F 9)))(_:H (F 8)=!(.lst []))(_:H r=!(.lst [.str "ann",.str "bo"]))(_:H kq=!(.lst kn))(_:0<kn.length)(_:kn.length<1000)(_:(∀v∈kn,E8 H v))(_:r≠d)(_:kq≠d)(_:F 8≠d)(_:r≠F 8)(_:kq≠F 8)(_:∀H' ys ls,Rest H H' (λb=>b=d\/b=F 8)->H' (F 8)=! (.lst ys)->AL (LX H') ys ls->LS ls->ls.length<=45->Q .aS H')
inductive iM(vs:List V)(H:Hp)(Q:VK)(_:XK):Prop
 |mk(d fa r F:_)(_:vs=[.ref d,.ref fa,.ref r])(_:DW H d)(_:H fa=! (.dK (du F 9)))(_:H (F 0)=!(.lst []))(_:H (F 1)=!(.lst []))(_:H (F 2)=!(.lst []))(_:H r=!oP)(_:r≠d)(_:(∀i,i<9->F i≠d/\r≠F i))(_:(∀i,i<9->∀j,j<9->F i=F j->i=j))(_:∀H' kq kn bs es cs rs cu,Rest H H' (λb=>b=d\/b=F 0\/b=F 1\/b=F 2)->H kq=none->H' kq=!(.lst kn)->KN H' kn->0<kn.length->kn.length<=15->H' (F 0)=!(.lst bs)->H' (F 1)=!(.lst es)->H' (F 2)=!(.lst cs)->vI H' bs es cs rs cu 60->gV H' kn bs rs->Q (.ref kq) H')
section
variable {vs:List V}{H:Hp}{Q:VK}{E:XK}
end
def h_(z:Tp):List Nat:=z.cps.toList
def qT(h:h_ z=h_ w):z=w:=do-z;-w;congrArg Str.mk (gs.mp h)
def sO(z w:Tp):h_ (z++w)=h_ z++h_ w:=Array.toList_append
def BG(z:Tp):(h_ z).length=z.length:=zk
def wL(z w:Tp):Bool:=(decide (w = "")&&not (decide (z = "")))||decide (dQ z none (!((w.length:Int)+1))=w++".")
def Mf(z:Tp)(k:Nat):h_ (dQ z none (!(k:Int)))=(h_ z).take k:=do(by unfold dQ h_);¬((z.cps.toList.drop 0).take (HT.bV z.length z.length (!(k:Int)) - 0)).toArray.toList=_;[gr,jp,mj];this:HT.bV z.length z.length (!(k:Int))=min k z.length:=HT.jW _ _ _;[this];[show z.length=z.cps.toList.length from zk.symm,ud,Nat.min_assoc,mx,<-ud]
def HV(z:Tp):z = ""↔h_ z=[]:={λh=>do[h];2,λh=>qT (h.trans rfl)}
def Dz:wL z w=true↔(w = "" /\ z≠"")\/(h_ w++[46]) <+: h_ z:=do e:dQ z none (!((w.length:Int)+1))=w++"."↔(h_ w++[46]) <+: h_ z:=(do l:(h_ w++[46]).length=w.length+1:=(do[qg,BG];2);[List.prefix_iff_eq_take,l];c:=Mf z (w.length+1);a:h_ (w++".")=h_ w++[46]:=sO w ".";{λh=>do[<-c,<-a];congrArg h_ h.symm,λh=>qT (do[a,h];c)});@wL;[Bool.or_eq_true,zn,decide_eq_true_eq,decide_eq_true_eq,e,nv,decide_eq_false_iff_not]
def dg(i:Nat):List Nat:=h_ (iK i)
def pe:∀i,i<=101->46∉dg i/\dg i≠[]:=do this:∀i,i<102->46∉dg i/\dg i≠[]:=∅;λi h=>this i ()
def Hg:∀i j,i<=101->j<=101->dg i=dg j->i=j:=do n:((List.range 102).map dg).Nodup:=∅;(i,j,hi,a,e);(m3 (i:=i) (j:=j) (do[qh,zh];()) n).mp ?_;[qj,qj,yc (),yc ()];congrArg some e
def vS(z:Tp)(i:Nat):h_ (kL z i)=if z = "" then dg i else h_ z++46::dg i:=do@kL;h<|z = "";[qF h,qF h];2;[qB h,qB h,zA,sO,sO,wt];2
theorem GY:∀{X Y d e:List Nat},46∉d->46∉e->X++46::d=Y++46::e->X=Y/\d=e|[],[],_,_,_,_,h=>(do(by injection h with _ h);{O,h})|[],y::Y,d,e,hd,_,h=>(do(by injection h with _ h);absurd (do[h];0) hd)|x::X,[],d,e,_,he,h=>(do(by injection h with _ h);absurd (do[<-h];0) he)|x::X,y::Y,d,e,hd,he,h=>do(by injection h with h1 h2);{a,b}:=GY hd he h2;{do[h1,a],b}
def QH(c:46∉d):(W++[46]) <+: (X++46::d)↔(W++[46]) <+: X\/W=X:=do 1;({t,h});h<-[wt];{a,h1,h2}||{a,h1,h2}:=List.append_eq_append_iff.mp h;(by cases a with|nil|cons b a=>?_);.inr (do[h1,z6]);(by injection h2 with h2 _);!h2;.inl {a,do[h1,wt];2};(by cases a with|nil|cons b a=>?_);.inr (do[h1,z6]);(by injection h2 with _ h2);absurd (do[h2];0) c;(h||h);h.trans (List.prefix_append _ _);[h];{d,do[wt];2}
def xU(z:Tp)(hi:i<=101):kL z i≠"":=λh=>do this:=(HV _).mp h;this<-[vS];e<|z = "";this<-[qF e];(pe i hi).2 this;this<-[qB e];this<-0
def De(hi:i<=101):wL (kL z i) w=true↔wL z w=true\/w=z:=do _;{h1,h2}:=pe i hi;nd:∀{X:List Nat},¬(X++[46]) <+: dg i:=λ{X} ⟨t,h⟩=>h1 (do[<-h];0);[Dz,Dz,vS];e<|z = "";[qF e];1;({h,_}||h);.inr (do[h,e]);absurd h nd;(({_,h}||h)||h);absurd e h;h<-[(HV z).mp e];this:=List.prefix_nil.mp h;this<-0;.inl {do[h,e],xU z hi};[qB e,QH h1];1;({h,_}||h||h);.inl (.inl {h,e});.inl (.inr h);.inr (qT h);(({h,_}||h)||h);.inl {h,xU z hi};.inr (.inl h);.inr (.inr (do[h]))
def QN(hi:i<=101)(a:j<=101)(h:kL z i=kL w j):z=w/\i=j:=do c:=congrArg h_ h;c<-[vS,vS];{a1,_}:=pe i hi;{b,_}:=pe j a;e<|z = "";f<|w = "";c<-[qF e,qF f];{do[e,f],Hg i j hi a c};c<-[qF e,qB f];absurd (do[c];0) a1;f<|w = "";c<-[qB e,qF f];absurd (do[<-c];0) b;c<-[qB e,qB f];{p,q}:=GY a1 b c;{qT p,Hg i j hi a q}
inductive sf(zs:List Pc)(G:List Key->Prop):Tp->List Key->Prop
 |main:sf zs G "" aN
 |sub {z p l i x}:sf zs G z p->rF zs G p l->l[i]?=!x->i<=100->sf zs G (kL z (i+1)) x.pt
theorem sf.eq(h:sf zs G z p):∀{w:Tp} {q:List Key},sf zs G w q->w=z->p=q:=do(by induction h with|main|@sub z p l i x r il c hi d=>?_);(w,q,h,e);(by cases h with|main|sub _ _ _ hi=>?_);2;absurd e (xU _ ());(w,q,h,e);(by cases h with|main|@sub o n l' i' k g b a f=>?_);absurd e.symm (xU _ ());{j,m}:=QN () () e;this:=d g j;!this;this:=il.eq b;!this;this:i'=i:=();!this;a<-[c];-a;2
def rF.G7(h:rF zs G p l)(W:ZW zs):l.length<=100:=do nd:(l.map (·.pt)).Nodup:=z8.mpr (List.Pairwise.imp_of_mem (λ{a b} f g d z=>do d<-[vK W.nd ((h.mem a).mp f).1 ((h.mem b).mp g).1 z];Js _ _ d) h.up);this:=AH nd (ws:=zs.map (·.pt)) λc i=>(do _;{x,e,rfl}:=qc.mp i;qc.mpr {x,((h.mem x).mp e).1,O});this<-[qh,qh];qf this W.cD
def Lu(h:c∈subs z 0 l):∃i x,l[i]?=!x/\c=(x.pt,kL z (i+1)):=do _;{m,a}:=jh h;a<-[xP];{x,b,rfl}:=wb.mp a;{m,x,b,do[je]}
def Wk.Q0{st out:List (List Key×Tp)}(W:ZW zs)(h:Wk zs G op st out):(∀e∈st,sf zs G e.2 e.1)->∀e∈out,sf zs G e.2 e.1:=do(by induction h with|nil|@cons p z st l out o i w d|nQ o w d=>?_);λ_ e z=>nomatch z;(h,e,a);rfl||a:=qy.mp a;h _ qm;d (λc b=>?_) e a;b||b:=zg.mp b;{m,x,f,rfl}:=Lu b;this:=(qp.mp f).1;this:=i.G7 W;.sub (h (p,z) qm) i f ();h c (qz _ b);(h,e,a);rfl||a:=qy.mp a;h _ qm;d (λc b=>h c (qz _ b)) e a
def kp(a:List Tp)(e:List Key×Tp):Bool:=not (a.any λs=>wL e.2 s)
def OT(hi:i<=101):kp b (q,kL z i)=(kp b (p,z)&&not (decide (z∈b))):=do@kp;[<-Bool.not_or];(by congr 1);[yo,Bool.or_eq_true,yt,yt,decide_eq_true_eq];1;({s,a,h});h||h:=(De hi).mp h;.inl ⟨s,a,h⟩;.inr (h▸a);({s,a,h}||h);⟨s,a,(De hi).mpr (.inl h)⟩;⟨z,h,(De hi).mpr (.inr rfl)⟩
def BN(W:ZW zs)(h1:∀p,op1 p=true){st out:List (List Key×Tp)}(h:Wk zs G op1 st out):(∀e∈out,(e.2∈b↔op e.1=false))->Wk zs G op (st.filter (kp b)) (out.filter (kp b)):=do(by induction h with|nil|nQ o w a|@cons p z st l out o i w a=>?_);λ_=>.nil;o<-[h1];-o;(j);a:=a λe n=>j e (qz _ n);h0:z∈b↔op p=false:=j (p,z) qm;cD:=i.G7 W;ch:∀c∈subs z 0 l,kp b c=(kp b (p,z)&&not (decide (z∈b))):=λc f=>(do _;{m,x,k,rfl}:=Lu f;this:=(qp.mp k).1;OT ());a<-[zy];(by cases d:kp b (p,z)with|false|true=>?_);a<-[jq.mpr λc f=>do[ch c f,d];qo,z7];[yf (by rw[d];decide),yf (by rw[d];decide)];a;[vd d,vd d];(by cases g:op p with|false|true=>?_);a<-[jq.mpr λc f=>by rw[ch c f,qH (h0.mpr g),d];decide,z7];.nQ g a;a<-[List.filter_eq_self.mpr λc f=>do[ch c f,d,decide_eq_false λz=>do g<-[h0.mp z];-g];2];.cons g i a
def bR(op:List Key->Bool)(a:List (List Key×Tp)):List Tp:=(a.filter λe=>not (op e.1)).map (·.2)
def JB(W:ZW zs)(h:Wk zs G op1 [(aN,"")] a):∀e∈a,(e.2∈bR op a↔op e.1=false):=λe b=>do r:=h.Q0 W λc m=>(do[qt.mp m];.main);1;(j);{f,d,k}:=qc.mp j;{l,i}:=qw.mp d;[(r e b).eq (r f l) k];0<|i;λg=>qc.mpr {e,qw.mpr {b,do[g];2},O}
def Nums.cut(W:XW (tl d.rs))(h1:∀p,op1 p=true)(h:Nums d op1 a)(h':Nums d op b):b=a.filter (kp (bR op a))/\(∀e∈a,(e.2∈bR op a↔op e.1=false))/\∀e∈a,∀f∈a,e.2=f.2->e.1=f.1:=do _;{zs,g,h2,k}:=h;{t,g',i,j}:=h';{rfl,rfl}:=h2.eq W i;Z:=h2.1.zw W;si:=JB (op:=op) Z k;r:=k.Q0 Z λc q=>(do[qt.mp q];.main);{?_,si,λe o f m z=>(r e o).eq (r f m) z.symm};c:=BN Z h1 k si;l:kp (bR op a) (aN,"")=true:=(do@kp;[nv,kx];(s,_,n);{_,h}||h:=Dz.mp n;h rfl;this:=List.prefix_nil.mp h;this<-0);c<-[vd l,we];j.eq c
def sf.ok(h:sf zs G z p):PyData.strOk z=true:=do(by induction h with|main|sub _ _ _ hi a=>?_;decide +kernel);AJ a ()
inductive ib(vs:List V)(H:Hp)(Q:VK)(_:XK):Prop
 |mk(z w:_)(_:vs=[.str z,.str w])(_:z.length<=1000)(_:w.length<=1000)(_:Q (.bl (wL z w)) H)
inductive kC(vs:List V)(H:Hp)(Q:VK)(_:XK):Prop
 |mk(fa F x v p:_)(_:vs=[.ref fa,v])(_:F6 H fa F x)(_:kX H v p)(_:(p=aN\/p∈x.br.map (·.1)))(_:∀H',ag H H'->Q (.bl (eI x.br x.ls "bo" p)) H')
inductive lP(vs:List V)(H:Hp)(Q:VK)(_:XK):Prop
 |mk(fa F x wq es nu num op1 op:_)(_:vs=[.ref fa,.ref wq])(_:F6 H fa F x)(_:H wq=!(.lst es))(_:nu.length<=63)(_:(∀p,op1 p=true))(_:AL (EN x.d op1 num H) es nu)(_:(∀e∈nu,Pn e.1/\e.2.length<=1000/\PyData.strOk e.2=true/\(e.1=aN\/e.1∈x.br.map (·.1))))(_:op=eI x.br x.ls "bo")(_:(∀e∈nu,(e.2∈bR op nu↔op e.1=false)))(_:∀H' q us,ag H H'->H' q=! (.lst us)->AL (EN x.d op num H') us (nu.filter (kp (bR op nu)))->Q (.ref q) H')
inductive iT(vs:List V)(H:Hp)(Q:VK)(_:XK):Prop
 |mk(fa F d op num num' v u e kq:_)(zs:List Tp)(_:vs=[v,u,.ref kq])(_:FZ H fa F d)(_:EN d op num' H v e)(_:EN d op num H u e)(_:H kq=!(.lst (zs.map V.str)))(_:zs.length<=63)(_:(∀z∈zs,PyData.strOk z=true))(_:PyData.strOk e.2=true)(_:Pn e.1)(_:(∀p,Pn p->num' p=num p\/num' p=none/\∃z,num p=!z/\z∉zs))(_:(∀p z,num p=!z->PyData.strOk z=true/\z.length<=1000))(_:∀H',ag H H'->Q (.bl true) H')
section
variable {vs:List V}{H:Hp}{Q:VK}{E:XK}
end
def jN(q:List Key)(l:Lf):Bool:=decide (l.pt=q/\l.hd = "bo" /\ l.to = "read")
theorem C9:∀{ls:List Lf},ls.filter (jN q)=[]->cO "bo" "read" ls q=none|[],_=>rfl|l::ls,h=>do h<-[List.filter_cons];a<|jN q l=true;h<-[qF a];-h;h<-[qB a];¬(cO "bo" "read" ls q).or _=_;[C9 h,qB λz=>a (qH z)];2
theorem I0:∀{ls:List Lf},LS ls->m∈ls.filter (jN q)->(∀k∈ls.filter (jN q),¬bO m.ka m.kb k.ka k.kb)->cO "bo" "read" ls q=!m.ys|[],_,h,_=>nomatch h|l::ls,hs,h,hm=>do hp:=wx.mp hs;¬(cO "bo" "read" ls q).or _=_;sub:∀k∈ls.filter (jN q),k∈(l::ls).filter (jN q):=λk c=>(do _;{a,b}:=qw.mp c;qw.mpr {qz _ a,b});d<|m∈ls.filter (jN q);[I0 hp.2 d λk c=>hm k (sub k c)];2;{a,b}:=qw.mp h;rfl||a:=qy.mp a;hn:ls.filter (jN q)=[]:=List.eq_nil_iff_forall_not_mem.mpr λk c=>hm k (sub k c) (hp.1 k (qw.mp c).1);[C9 hn,qF (qN b)];2;absurd (qw.mpr {a,b}) d
def So(e:Lay a)(c:PyData.strOk h=true)(lt:PyData.strOk t=true):iH 2 (.tuple [tD a,.str h,.str t]):=gB λd b=>do(by ac_nf at b);rfl||rfl||rfl:=b;oh e;fZ c;fZ lt
def SR(a b:List Key)(h t h' t':Tp):PyData.eqv (.tuple [tD a,.str h,.str t]) (.tuple [tD b,.str h',.str t'])=decide (a=b/\h=h'/\t=t'):=do n:∀(c:List Key) (x y:Tp),fF (.tuple [tD c,.str x,.str y])=true:=λc x y=>(do[fF];mU λd e=>?_;(by ac_nf at e);rfl||rfl||rfl:=e;lE _;2;2);[yo,mJ _ _ (n _ _ _) (n _ _ _),decide_eq_true_eq];1;(z);(by injection z with z;injection z with z1 z;injection z with z2 z;injection z with z3 _;injection z2 with z2;injection z3 with z3);{ER z1,z2,z3};({rfl,rfl,rfl});2
def JP(l:Lf):Tn:=.tuple [tD l.pt,.str l.hd,.str l.to,.bool l.ys,.tuple [.int l.ka,.int l.kb]]
theorem LX.dv(h:LX H v l):DV H v (JP l):=do _;{b,d,c,rfl,h1,h2,_,a,_}:=h;.tup (aQ.of h1) (.cons (bE h2).dv (.cons (.str _) (.cons (.str _) (.cons (.bl _) (.cons (.tup (aQ.of a) (.cons (.int _) (.cons (.int _) .nil))) .nil)))))
def LX.SA(h:LX H v l):iH 2 (JP l):=do _;{b,j,c,rfl,h1,h2,g,i,f,e}:=h;gB λd a=>?_;(by ac_nf at a);rfl||rfl||rfl||rfl||rfl:=a;oh g.lay;fZ f;fZ e;⟨O,qx _⟩;⟨O,qb _⟩
def MZ(br:List (List Key×List Key))(n:Nat)(q:List Key):∃l,kZ br n q=q::l:=do(by cases n with|zero|succ n=>?_);{[],O};{_,O}
def NE(d:DZ)(op:List Key->Bool)(num:List Key->Option Tp)(H0 Z:Hp)(v:V)(e:List Key×Tp):Prop:=(op e.1=true/\EN d op num H0 v e)\/(op e.1=false/\∃b a,v=.ref b/\Z b=!(.tup [.str e.2,a,.aS,.aS,.aS])/\GK Z (.tup e.1) a)
section
variable {d:DZ}{op op1:List Key->Bool}{num:List Key->Option Tp}{H0 Z Z':Hp}{v:V}{e:List Key×Tp}
theorem NE.af(h:NE d op num H0 Z v e)(t:aj Z Z'):NE d op num H0 Z' v e:=do h||{h,b,vp,h1,h2,h3}:=h;.inl h;.inr ⟨h,b,vp,h1,t _ _ h2,h3.af t⟩
def NE.en(h:NE d op num H0 Z v e)(s:ag H0 Z):EN d op num Z v e:=do _;{_,h}||{h,b,a,h1,h2,c}:=h;h.same s;⟨b,a,_,_,_,h1,h2,c,do@yW;[h];.aS,do@sy;[h];.aS,do@sx;[h];.aS⟩
def EN.SY(h:EN d op1 num Z v e)(h1:op1 e.1=true)(h2:op e.1=true):EN d op num Z v e:=do _;{b,k,l,g,m,i,j,n,a,c,f}:=h;(by unfold yW at a;unfold sy at c;unfold sx at f;rw[qF h1]at a c f);{b,k,l,g,m,i,j,n,do@yW;[qF h2];a,do@sy;[qF h2];c,do@sx;[qF h2];f}
end
theorem Dp:∀zs:List Tp,dD H (zs.map V.str) (zs.map PyData.str)|[]=>.nil|_::zs=>.cons (.str _) (Dp zs)
def A1{zs:List Tp}{z:Tp}:(if false=true then not ((zs.map PyData.str).any λd=>PyData.eqv d (.str z)) else(zs.map PyData.str).any λd=>PyData.eqv d (.str z))=decide (z∈zs):=do¬(zs.map PyData.str).any (λd=>PyData.eqv d (.str z))=_;[yo,yt,decide_eq_true_eq];1;({d,b,h});{w,a,rfl}:=qc.mp b;h<-[HZ,decide_eq_true_eq];h▸a;λh=>{_,qc.mpr {z,h,O},do[HZ];qH rfl}
def BK{num a:List Key->Option Tp}{zs:List Tp}(b:∀p,Pn p->a p=num p\/a p=none/\∃z,num p=!z/\z∉zs)(c:∀p z,num p=!z->PyData.strOk z=true/\z.length<=1000){x:Tn}(o:iV x):tx a x=tx num x\/tx a x = "#?" /\ ∃z,tx num x = "#"++z/\z∉zs/\PyData.strOk z=true/\z.length<=1000:=do _;{z,rfl,_}||{w,rfl,_}||{p,rfl,hp}:=o;.inl ((eE (.inl rfl)).symm.trans (eE (.inl rfl)));.inl ((eE (.inr (.inl ⟨w,O,O⟩))).symm.trans (eE (.inr (.inl ⟨w,O,O⟩))));e:∀n:List Key->Option Tp,tx n (.tuple [.str "refer",tD p]) = "#"++(n p).getD "?":=λn=>(eE (.inr (.inr {p,O,O}))).symm;[e,e];h||{h,z,h2,h3}:=b p hp;[h];.inl rfl;[h,h2];.inr {∅,z,O,h3,c p z h2}
def KA(d:DZ)(p:List Key)(i:Nat):Tn:=.tuple [tD (cJ d.S i),.list (MC d p i)]
def GJ(h:DV H v (.list ds)):∃q xs,v=.ref q/\az H q xs/\dD H xs ds:=do(by cases h with|lst a b=>?_);{_,_,O,a,b}
theorem Md:∀{xs:List V} {ds:List Tn},dD H xs ds->∀{m:Nat} {v:V},xs[m]?=!v->∃d,ds[m]?=!d/\DV H v d|_,_,.nil,m,v,h=>(do h<-0)|_,_,.cons a t,0,v,h=>(do-h;{_,O,a})|_,_,.cons a t,m+1,v,h=>do 0<|Md t (m:=m) (v:=v) (do 0<|h)
def xT{d:DZ}{num:List Key->Option Tp}{p:List Key}{H:Hp}{xs:List V}(h:dD H xs ((bA d.S d.n p).map (qW d num p))){m:Nat}{v:V}(e:xs[m]?=!v):∃i b vn f,(bA d.S d.n p)[m]?=!i/\v=.ref b/\aQ H b [vn,.str (tx num (d.S i).sg),f]/\DV H vn (tD (cJ d.S i))/\DV H f (.list (MC d p i)):=do _;{x,c,g}:=Md h e;c<-[qj];{i,hi,rfl}:=wb.mp c;(by unfold qW at g;cases g with|tup a b=>?_;cases b with|cons k b=>?_;cases b with|cons j b=>?_;cases b with|cons l b=>?_);-b;-j;⟨i,_,_,_,hi,O,a,k,l⟩
section
variable {H:Hp}{fa:To}{F:Nat->To}{d:DZ}{p:List Key}
def FZ.Qh(h:FZ H fa F d)(op:List Key->Bool):iH 4 (.tuple [sy d op p,sx d op p]):=gB λx a=>do(by ac_nf at a);rfl||rfl:=a;@sy;3;h.Sv;⟨O,qx _⟩;@sx;3;h.Ju;⟨O,qx _⟩
def FZ.P4(h:FZ H fa F d):iH 5 (.list ((bA d.S d.n p).map (KA d p))):=fV λx b=>do _;{xs,ms,ns,fs}:=h.fs;{i,hi,rfl}:=qc.mp b;gB λy a=>?_;(by ac_nf at a);rfl||rfl:=a;(oh (fs.ws.lay i (h.Qc hi)).1).up ⋯;h.Su i
end
def C_(a:∀p z,num p=!z->PyData.strOk z=true/\z.length<=1000)(o:iV x):(tx num x).length<=1001:=do _;{z,rfl,h}||{w,rfl,h}||{p,rfl,hp}:=o;[<-eE (num:=num) (.inl rfl)];();[<-eE (num:=num) (.inr (.inl {w,O,O})),lg];¬1+w.length<=_;();[<-eE (num:=num) (.inr (.inr {p,O,O})),lg];(by cases q:num p with|none|some z=>?_;decide);this:=(a p z q).2;¬1+z.length<=_;()
def A9(z:Tp):dQ ("#"++z) none (some 1) = "#":=qT (do[show(1:Int)=((1:Nat):Int) from rfl,Mf,sO];2)
def Bc(z:Tp):dQ ("#"++z) (some 1) none=z:=do qT ?_;(by unfold dQ h_);l:("#"++z:Tp).length=1+z.length:=lg _ _;e:HT.bV ("#"++z:Tp).length 0 (some 1)=1:=(do[show(1:Int)=((1:Nat):Int) from rfl,HT.jW,l];());[e,HT.tS,mj,show("#"++z:Tp).cps.toList=35::z.cps.toList from sO "#" z,List.drop_succ_cons,gr,l,show 1+z.length - 1=z.cps.toList.length by rw[zk];show 1+z.length - 1=z.length;omega,q0]
mutual
theorem oS(k:∀b o,H b=!o->(∀ps,o≠.cF ps)->H' b=!o):∀{x:V} {d:Tn},DV H x d->DV H' x d
 |_,_,.aS=>.aS
 |_,_,.bl b=>.bl b
 |_,_,.int i=>.int i
 |_,_,.str z=>.str z
 |_,_,.lst h t=>.lst (by
   rcases h with h|⟨o,h⟩
   .exact .inl (k _ _ h λ_ z=>nomatch z)
   .exact .inr ⟨o,k _ _ h λ_ z=>nomatch z⟩) (Fw k t)
 |_,_,.tup h t=>.tup (by
   rcases h with h|⟨o,h⟩
   .exact .inl (k _ _ h λ_ z=>nomatch z)
   .exact .inr ⟨o,k _ _ h λ_ z=>nomatch z⟩) (Fw k t)
theorem Fw(k:∀b o,H b=!o->(∀ps,o≠.cF ps)->H' b=!o):∀{xs:List V} {ds:List Tn},dD H xs ds->dD H' xs ds
 |_,_,.nil=>.nil
 |_,_,.cons h t=>.cons (oS k h) (Fw k t)
end
def EN.kp(h:EN d op num H v e)(k:∀b o,H b=!o->(∀ps,o≠.cF ps)->H' b=!o):EN d op num H' v e:=do _;{b,j,i,a,l,h1,h2,m,g,f,c}:=h;t:aj H H':=λb xs e=>k _ _ e λ_ z=>nomatch z;{b,j,i,a,l,h1,t _ _ h2,m.af t,oS k g,oS k f,oS k c}
def Nums.Td(h:Nums d op a)(W:XW (tl d.rs))(h':Nums d op b):a=b:=do _;{zs,g,h1,h2}:=h;{f,g',e,c}:=h';{rfl,rfl}:=h1.eq W e;h2.eq c
def Nums.si(h:Nums d op1 a)(W:XW (tl d.rs)):∀e∈a,(e.2∈bR op a↔op e.1=false):=do _;{zs,g,h2,b}:=h;JB (h2.1.zw W) b
def Nums.known(h:Nums d op1 a)(W:XW (tl d.rs)):∀e∈a,PyData.strOk e.2=true/\(e.1=aN\/∃r∈d.rs,r.pt=e.1):=do _;{zs,g,h2,m}:=h;r:=m.Q0 (h2.1.zw W) λc j=>(do[qt.mp j];.main);(e,b);{(r e b).ok,?_};k:∀{z p},sf zs (GT g) z p->p=aN\/∃x∈d.rs,x.pt=p:=λ{z p} r=>(do(by cases r with|main|sub _ il f _=>?_);.inl rfl;{y,l,i,_}:=h2.1.of ((il.mem _).mp (qk f)).1;.inr {y,pN l,i.symm});k (r e b)
def Rq(nd:(b.map (·.1)).Nodup)(inj:∀e∈b,∀f∈b,e.2=f.2->e.1=f.1)(p:List Key):df (b.filter k) p=df b p\/df (b.filter k) p=none/\∃z,df b p=!z/\z∉(b.filter k).map (·.2):=do g:((b.filter k).map (·.1)).Nodup:=(List.Sublist.map _ kh).nodup nd;no:∀{l:List (List Key×Tp)},(∀e∈l,e.1≠p)->df l p=none:=λ{l} h=>(do@df;[List.find?_eq_none.mpr λe a=>do 0<|h e a];2);h<|∃e∈b,e.1=p;{e,a,rfl}:=h;(by cases i:k e with|true|false=>?_);.inl ((mK g (qw.mpr {a,i})).trans (mK nd a).symm);.inr {no λf d z=>?_,e.2,mK nd a,λm=>?_};{j,c}:=qw.mp d;this:f.2=e.2:=qJ ((mK nd j).symm.trans (do[z];mK nd a));c<-[show f=e from Prod.ext z this,i];-c;{f,d,z}:=qc.mp m;{j,c}:=qw.mp d;c<-[show f=e from Prod.ext (inj f j e a z) z,i];-c;.inl ((no λe a z=>h {e,(qw.mp a).1,z}).trans (no λe a z=>h {e,a,z}).symm)
def FF:aA J' ["births","part"] (ah uC):=65
def AE:aA G4 ["leave"] (ah uk):=65
def B_:aA IK ["place"] (ah su):=65
def Co:aA Af ["facts","part"] (ah mB):=65
def Dr:aA Hr ["seats","side"] (ah tJ):=65
def Be:aA Ky ["row"] (ah sD):=65
def FP:aA IY ["mark"] (ah t_):=65
def BE:aA Kz ["note"] (ah uq):=65
def w_:aA K8 ["facts"] (ah lR):=65
def xJ:aA LH ["outer_of","part","ended"] (ah uB):=65
def C':aA HI ["cell"] (ah uw):=65
def Ex:aA GB ["number","place"] (ah tR):=65
def D0:aA GV ["numbers","sign"] (ah uY):=65
def AY:aA Jt ["_law_script","_law_k"] (ah rV):=65
def BX:aA Jv ["_law_cell","_law_digits"] (ah uT):=65
def Lw:aA Ir ["_law_drawn_here","_law_many"] (ah tQ):=65
def qU:aA Ls ["_law_facts_here","_law_part"] (ah lX):=65
def Bu:aA Al ["_law_number","_law_other"] (ah sr):=65
def C2:aA Iu ["_law_one","_law_other","_law_known"] (ah uo):=65
def J_:aA KC ["seats","begin","end"] (ah uE):=65
def qX:aA Ik ["outer_of"] (ah uG):=65
def fQ:aA Jo ["_law_drawn_here","_law_facts_here","_law_roll"] (ah pE):=65
def JQ:aA LF ["_law_drawn_here","_law_known"] (ah rP):=65
def Ft:aA G6 ["_law_drawn_here","_law_names"] (ah uX):=65
def fP:aA GG ["_law_drawn_here","_law_facts_here","_law_roll","_law_known"] (ah oU):=65
def sj:aA LU ["_law_drawn_here","_law_facts_here","_law_roll","_law_known"] (ah pH):=65
def wQ:aA Aa ["_law_facts_here","_law_whole"] (ah lJ):=65
def F1:aA G2 ["leaves","hand","to"] (ah tI):=65
def CD:aA Jp ["places"] (ah rW):=65
def pW:aA yS ["facts","part","row"] (ah lK):=65
def Fs:aA Hk ["telling","parts"] (ah sG):=65
def wG:aA GQ ["facts","stands"] (ah lI):=65
def Gz:aA Aj ["facts","part"] (ah lU):=65
def lY:aA K4 ["_law_drawn_here","_law_facts_here","_law_roll","_law_known"] (ah oC):=65
def kG:aA Kn ["_law_drawn_here","_law_facts_here","_law_roll","_law_names"] (ah oB):=65
def Ej:aA Lq ["leaves","chain","hand","to"] (ah uD):=65
def rS:aA Lb ["places"] (ah uI):=65
def nO:aA JV ["telling"] (ah uy):=65
def p_:aA Hb ["_law_script","_law_roll"] (ah oM):=65
def HB:aA LD ["roll","births","leaves","hand","part","to"] (ah tM):=65
def DI:aA Lv ["facts","part"] (ah uu):=65
def tN:aA Me ["telling"] (ah rJ):=65
def EI:aA x_ ["facts","part","way"] (ah jK):=65
def Jc:aA zX ["facts","part"] (ah oI):=65
def DB:aA HE ["facts"] (ah pB):=65
def p6:aA zP ["facts","part"] (ah ow):=65
def CV:aA LW ["facts","roll","hand","part"] (ah oy):=65
def mN:aA yO ["facts","part","place"] (ah jE):=65
def nP:aA Ad ["facts","part"] (ah jG):=65
def qP:aA LL ["facts"] (ah rK):=65
def FK:aA HK ["facts","part"] (ah sF):=65
def nc:aA KU ["facts","roll","hand"] (ah oK):=65
def E2:aA sQ ["facts","part","numbers"] (ah i_):=65
def Fo:aA Hf ["facts","numbers","part","is_open"] (ah sC):=65
def F':aA GD ["facts","roll","hand"] (ah pz):=65
def lB:aA GL ["_law_script"] (ah ie):=65
section
variable (P:Program)(w:World)(K:PySem.W.Frag)(mg:Tp->Option MD)(base:Heap)
abbrev Az:Prop:=cL P w K mg base 1 "birth_chain" ["births","part"] FH
abbrev z_:Prop:=cL P w K mg base 1 "key_of_leave" ["leave"] AI
abbrev Au:Prop:=cL P w K mg base 1 "key_of_place" ["place"] Fb
abbrev rO:Prop:=cL P w K mg base 1 "signs_in" ["facts","part"] A5
abbrev Am:Prop:=cL P w K mg base 1 "place_of_side" ["seats","side"] AR
abbrev pj:Prop:=cL P w K mg base 1 "seats_in" ["row"] EW
abbrev yR:Prop:=cL P w K mg base 1 "key_of_mark" ["mark"] Bv
abbrev ya:Prop:=cL P w K mg base 1 "key_of_note" ["note"] AX
abbrev uF:Prop:=cL P w K mg base 1 "telling_places" ["facts"] Bx
abbrev tK:Prop:=cL P w K mg base 1 "way_out" ["outer_of","part","ended"] EZ
abbrev zY:Prop:=cL P w K mg base 1 "key_of_cell" ["cell"] Bi
abbrev zi:Prop:=cL P w K mg base 1 "inner_number" ["number","place"] FT
abbrev AA:Prop:=cL P w K mg base 1 "text_of_sign" ["numbers","sign"] C6
abbrev zI:Prop:=cL P w K mg base 1 "_law_cell_at" ["_law_script","_law_k"] gR
abbrev Ag:Prop:=cL P w K mg base 1 "_law_drawn" ["_law_cell","_law_digits"] iU
abbrev gE:Prop:=cL P w K mg base 1 "_law_draw" ["_law_drawn_here","_law_many"] kA
abbrev xZ:Prop:=cL P w K mg base 1 "_law_open" ["_law_facts_here","_law_part"] kC
abbrev Ax:Prop:=cL P w K mg base 1 "_law_within" ["_law_number","_law_other"] ib
abbrev yK:Prop:=cL P w K mg base 1 "_law_alike" ["_law_one","_law_other","_law_known"] iT
abbrev sN:Prop:=cL P w K mg base 2 "stretch" ["seats","begin","end"] F4
abbrev vi:Prop:=cL P w K mg base 2 "reaching_main" ["outer_of"] D9
abbrev yF:Prop:=cL P w K mg base 2 "_law_parts" ["_law_drawn_here","_law_facts_here","_law_roll"] iM
abbrev Ac:Prop:=cL P w K mg base 2 "_law_sign" ["_law_drawn_here","_law_known"] jV
abbrev zO:Prop:=cL P w K mg base 2 "_law_side" ["_law_drawn_here","_law_names"] kQ
abbrev yL:Prop:=cL P w K mg base 2 "_law_tables" ["_law_drawn_here","_law_facts_here","_law_roll","_law_known"] iy
abbrev Aq:Prop:=cL P w K mg base 2 "_law_leaves" ["_law_drawn_here","_law_facts_here","_law_roll","_law_known"] ic
abbrev zK:Prop:=cL P w K mg base 2 "_law_due" ["_law_facts_here","_law_whole"] lP
abbrev yQ:Prop:=cL P w K mg base 3 "told_leaves" ["leaves","hand","to"] EM
abbrev Ak:Prop:=cL P w K mg base 3 "followers_of" ["places"] BW
abbrev As:Prop:=cL P w K mg base 3 "telling_in_row" ["facts","part","row"] Ba
abbrev AB:Prop:=cL P w K mg base 3 "greatest_place" ["telling","parts"] CL
abbrev zT:Prop:=cL P w K mg base 3 "shown_among" ["facts","stands"] EC
abbrev Ai:Prop:=cL P w K mg base 3 "words_told" ["facts","part"] Fu
abbrev yG:Prop:=cL P w K mg base 3 "_law_signs" ["_law_drawn_here","_law_facts_here","_law_roll","_law_known"] iN
abbrev zN:Prop:=cL P w K mg base 3 "_law_stretches" ["_law_drawn_here","_law_facts_here","_law_roll","_law_names"] eR
abbrev Ar:Prop:=cL P w K mg base 4 "is_let" ["leaves","chain","hand","to"] C4
abbrev rN:Prop:=cL P w K mg base 4 "ordered" ["places"] AM
abbrev Ap:Prop:=cL P w K mg base 4 "turned_in" ["telling"] Df
abbrev zJ:Prop:=cL P w K mg base 4 "_law_facts" ["_law_script","_law_roll"] i0
abbrev Av:Prop:=cL P w K mg base 5 "has_leave" ["roll","births","leaves","hand","part","to"] ES
abbrev oz:Prop:=cL P w K mg base 5 "row_of" ["facts","part"] BY
abbrev yY:Prop:=cL P w K mg base 5 "stood_in" ["telling"] Gc
abbrev yX:Prop:=cL P w K mg base 5 "lines_of" ["facts","part","way"] DQ
abbrev pf:Prop:=cL P w K mg base 6 "living" ["facts","part"] Du
abbrev yp:Prop:=cL P w K mg base 6 "stands_in" ["facts"] BS
abbrev zB:Prop:=cL P w K mg base 6 "table_of" ["facts","part"] Eb
abbrev yJ:Prop:=cL P w K mg base 6 "may_read" ["facts","roll","hand","part"] Ed
abbrev Ay:Prop:=cL P w K mg base 7 "told_of_signs" ["facts","part","place"] A_
abbrev zH:Prop:=cL P w K mg base 7 "notes_of" ["facts","part"] Gb
abbrev zR:Prop:=cL P w K mg base 7 "all_inner_parts" ["facts"] Fl
abbrev x6:Prop:=cL P w K mg base 8 "marks_of" ["facts","part"] En
abbrev yP:Prop:=cL P w K mg base 8 "numbered_parts" ["facts","roll","hand"] E6
abbrev yI:Prop:=cL P w K mg base 9 "shown_row" ["facts","part","numbers"] Em
abbrev zW:Prop:=cL P w K mg base 10 "entry" ["facts","numbers","part","is_open"] D3
abbrev zj:Prop:=QK P w K mg base 11 "document" ["facts","roll","hand"] Dv
end
section
variable (P:Program)(w:World){K:PySem.W.Frag}{mg:Tp->Option MD}(base:Heap){tk:Tp->Tok}
def Ez(T:Txt K mg tk)(F:FO K mg "birth_chain" uC):Az P w K mg base:=do aO F FF (ik λ_ _=>rfl) {} λfa cdv A outer s H vs Q E y h=>?_;{_,(ax (sn FF.nd 2 (cy (fG y.hd (pK y)) T.cT boot_dict (a1 (vv 0)))) (ax (sn FF.nd 3 (bT (a1 (vv 1)))) (ax (xr PassesOwn.never (PW.pt (iP (ck (qZ (cQ y)) (xi (vv 3) (eB iY aD)) (vv 2)) (iI (ck Ah (cb de T.bS boot_len (a1 (vv 3))) (cb Cf T.bS boot_len (a1 (vv 2))))))) (aF (ap (vv 3) (a1 (dI (cQ y) (vv 2) (xi (vv 3) (eB iY aD)) (λ_ _=>rfl)))))) (aF (aR (vv 3)))))),?_};{p,v,S,ys,br,rfl,hp,U,cD,G,X,R}:=h;{es,Z,I}:=BQ U;hel:es.length=br.length:=I.1;Y:ys.length=br.length:=U.1;{_,O,p,ys,es,O,hp,Z,(),λdq H1 g1 N D=>?_};B:(es.map (·.1)).Nodup:=(do[xV (g:=λx:List Key×List Key=>KD.tup x.1) I λe x p=>p.1];z8.mpr (List.Pairwise.imp (λh z=>h (KD.tup.inj z)) (z8.mp G)));D<-[l_ _ [] (do[z7];B),z7];lk:=B0 I;{_,O,aG rfl,λc H2 L s2 e2=>?_};n:=N.trans s2;J:dq≠c:=a9 D L;C:H c=none:=N.free L;{λm σ b=>∃cv us x ps a,cv=us++[x]/\σ=[! (.ref p),!v,!(.ref dq),!(.ref c)]/\ag H b/\b dq=!(.dG es)/\b c=!(.lst cv)/\AL (kX b) us ps/\kX b x a/\ps++kZ br m a=kZ br br.length S/\us.length+m=br.length,{br.length,[v],[],v,[],S,O,O,n,s2 _ _ D,e2,.nil,X.af n.af,O,je _},?_};(m,σ,b,{cv,us,x,ps,a,rfl,rfl,t,r,d,pn,j,f,hm});i:(us++[x]).length=us.length+1:=(do[qg];2);{_,O,1,O,c,_,-1,x,O,O,az.of d,lj us x,_,O,dq,es,.tup a,O,.inl r,j.1,_,O,?_};{h1,h2}||{k,o,h1,h2,h3}:=lk a;[h1];bL (do[show(if false=true then not (none:Option V).isSome else(none:Option V).isSome)=false from rfl]) (bL rfl ?_);{_,O,R b c _ t C d ?_};[<-f];this:kZ br m a=[a]:=(do(by cases m with|zero|succ m=>?_);2;¬a::(match rR br a with|none=>[]|some o=>kZ br m o)=_;[h2]);[this];pn.snoc j;[h1];cf (do 2) ?_;{_,O,c,_,O,.inl (az.of d),_,O,dq,es,O,r,_,_,O,O,_,O,?_};(by cases m with|succ m|zero=>?_);cf (qH (do[i];())) ?_;{λσ' H'=>m_ (σ'=[! (.ref p),!v,!(.ref dq),!(.ref c)]) (ag H H') (H' dq=!(.dG es)) (H' c=!(.lst ((us++[x])++[k]))) (AL (kX H') (us++[x]) (ps++[a])) (kX H' k o),λσ' H' ⟨a1,a2,a3,W,a5,a6⟩=>{m,(),_,us++[x],k,ps++[a],o,O,a1,a2,a3,W,a5,a6,?_,do[i];()},?_};[<-f,wt];¬_=ps++(a::(match rR br a with|none=>[]|some o=>kZ br m o));[h2];2;{_,O,.inl {O,_,az.of d},_,O,_,O,1,O,c,_,-1,x,O,O,az.of d,lj us x,dq,es,.tup a,k,O,.inl r,j.1,h1,c,_,_,O,O,d,cC (),?_};M:aj b (upd b c (.lst ((us++[x])++[k]))):=aj.wl d;{O,t.wr C,do[aB J];r,aE,(pn.snoc j).imp λv q g=>kX.af g M,(h3.af t.af).af M};bL (decide_eq_false (do[i];())) ?_;{_,O,R b c _ t C d ?_};[<-f];pn.snoc j
def Gh(T:Txt K mg tk)(F:FO K mg "key_of_leave" uk):z_ P w K mg base:=do aO F AE (nN λ_=>rfl) {} λfa d A outer s H vs Q E i h=>?_;{_,(aF (aR (xt (vv 0)))),?_};{v,a,rfl,{b,g,c,rfl,h1,_,_,e,_},f}:=h;{_,O,b,_,4,_,O,O,aQ.of h1,O,f _ (.tup e (.cons (.int _) (.cons (.int _) .nil)))}
def AQ(T:Txt K mg tk)(F:FO K mg "key_of_place" su):Au P w K mg base:=do aO F B_ (nN λ_=>rfl) {} λfa c A outer s H vs Q E g h=>?_;{_,(aF (aR (xt (vv 0)))),?_};{v,nk,bh,D,k,rfl,d,f}:=h;{b,vn,m,vk,rfl,e,i,j,a}:=d;{_,O,b,_,2,_,O,O,aQ.of e,O,f vk a}
def Cc(T:Txt K mg tk)(F:FO K mg "signs_in" mB):rO P w K mg base:=do aO F Co (ik λ_ _=>rfl) {} λfa q A outer s H vs Q E I h=>?_;t:(A.deeper (envOfC "signs_in" (ah mB) ↑s fa q)).units+1<cLine:=cY I;{_,(aF (aR (rH (ah mB) Af [("part",1)] (il (c6 t (vv 0) aM (λ_ _=>rfl))) (λ_ _ _=>(eF (ck (yH I) (xt (vv 0)) (vc 1)))) (λ_ _ _=>(vv 0))))),?_};{fa,vp,pt,S,n,rfl,{e,J,vs,L,f,a,C,W},o,k,R}:=h;p:vs.length=n:=(do[C.1,zh]);cD:=W.cD;{_,O,fa,.ref J,O,.inl {e,.inr "signs",L,O,f.symm},J,O,{_,az.of a},cI (xs:=vs) (cM ()) (λj ys H'=>H'=H/\AN (SN S H) ys (((List.range n).take j).filter (om S pt))) {O,.nil} (λ_ _ H' s'=>do[s'.1];az.of a) (λj x ys H' K1 K0 U s' M N=>?_) λH1 B ys s' Z D=>?_};{rfl,c}:=s';{i,y,sn}:=C.at U;r:i<n:=qv.mp (qk y);m:=sn;{b,vq,vn,Y,kq,vg,rfl,h1,h2,h3,h4,X,V}:=sn;tk:(List.range n).take (j+1)=(List.range n).take j++[i]:=(do[qu,y];2);{_,O,b,_,0,_,O,O,aQ.of h1,O,_,O,tD (S i).pt,tD pt,(bE h2).dv,(bE o).dv,(W.lay i r).2,k,qf (yh _ _) (qf (eK _) ⋯),_,O,?_};d:(if false=true then not (PyData.eqv (tD (S i).pt) (tD pt)) else PyData.eqv (tD (S i).pt) (tD pt))=decide ((S i).pt=pt):=gN _ _;hp<|(S i).pt=pt;cf (do[d];qH hp) ?_;{_,O,M _ _ {O,?_}};[tk];AN.pick (vs:=vs) c m (iG.mpr hp);bL (do[d];decide_eq_false hp) ?_;N _ {O,?_};[tk];c.skip λz=>hp (iG.mp z);{rfl,c}:=s';c<-[p,jc (do[zh];qb _)];G:ag H1 (upd H1 B (.lst ys)):=ag.new D;R _ B ys G D aE (c.imp λv i g=>SN.af g G.af)
def Dk(T:Txt K mg tk)(F:FO K mg "place_of_side" tJ):Am P w K mg base:=do aO F Dr (ik λ_ _=>rfl) {} λfa q A outer s H vs Q E o h=>?_;{_,(pQ (bC (sR (PW.pt (jJ (ck tG (vv 1) dH) (xM (ck (xj (cQ o)) (xt (vv 1)) (vv 0)))))) (aF (aR (cb Cf T.bS boot_len (a1 (vv 0))))) cg) (aF (aR (aJ cU (dI (cQ o) (vv 0) (xt (vv 1)) (λ_ _=>rfl)) (rZ (ck cR (xt (vv 1)) aM) aD aD))))),?_};{dq,kvs,S,js,v,d,rfl,e,{g,j},c,f,m}:=h;by match d,c,f with|none,c,_ => have c:v=.aS:=c;subst c;refine{λ_ _=>False,{λb H'=>b=true/\H'=H,{_,O,O,_,O,cf rfl {O,O}},?_},λ_ _ z=>z.elim};rintro b H' ⟨rfl,rfl⟩;refine cf rfl {_,O,dq,kvs,O,e,?_};rw[g];exact m|some (i,b),c,f => obtain⟨a,vn,rfl,k,p⟩:=c;have hi:=f i b rfl;have n:=j i hi;refine{λσ' H'=>σ'=[!(.ref dq),! (.ref a)]/\H'=H,{λb H'=>b=false/\H'=H,{_,O,O,_,O,bL rfl {_,O,a,_,0,_,O,O,aQ.of k,O,_,O,dq,kvs,.tup (cJ S i),O,.inl e,p,_,O,?_,O}},?_},?_};rw[n];rfl;rintro r H' ⟨rfl,rfl⟩;exact bL rfl {O,O};rintro σ' H' ⟨rfl,rfl⟩;refine{_,O,_,O,a,_,0,_,O,O,aQ.of k,O,dq,kvs,.tup (cJ S i),_,O,.inl e,p,n,_,O,a,_,1,_,O,O,aQ.of k,O,O,_,O,?_};cases b with|true|false=>?_;exact cf (qH rfl) {_,_,O,O,m};exact bL (decide_eq_false (λz=>absurd (V.str.inj z) ∅)) {_,_,O,O,do¬Q (V.int ((js.idxOf i:Int)+0)) _;[Int.add_zero];m}
def C3(T:Txt K mg tk)(F:FO K mg "seats_in" sD):pj P w K mg base:=do aO F Be (nN λ_=>rfl) {} λfa N A outer s H vs Q E I h=>?_;{_,(aF (aR (cy (fG I.hd (pK I)) T.cT boot_dict (a1 (gH (own:=["seat","name"]) (fr:=[]) rfl (Q1 (do 2) T.f9 (a1 (vv 0))) {O,∅,∅} (fB ∅) (λ_ _ _=>(iD (n:=2) rfl (cN (cj (i:=0) (do¬List.Nodup (["seat","name"]:List Tp);by decide +kernel) rfl (Or.inl rfl)) (cN (cj (i:=1) (do¬List.Nodup (["seat","name"]:List Tp);by decide +kernel) rfl (Or.inl rfl)) gK)))) (λ_=>pO rfl rfl ⋯) (λ_ _ _=>dF) (λ_ _ _=>(a_ (a2 (vv 1) (vv 0))))))))),?_};{p,zs,nk,js,rfl,ep,D,nd,inj,hl,U}:=h;q:zs.length=js.length:=D.1;{_,O,p,O,{_,az.of ep},Oj (xs:=zs) (cM ()) (λj us H'=>ag H H'/\∃kvs,cm H' us kvs/\kU nk (λv i=>v=.int ((js.idxOf i:Nat):Int)) kvs (js.take j)) {ag.refl _,[],trivial,trivial} (λ_ _ H' s'=>az.of (s'.1 _ _ ep)) (λj x us H' r K1 K0 X s' W M k0=>?_) λH1 C us s' hy R=>?_};{s',kvs,m,d}:=s';{i,y,L}:=D.at X;tk:js.take (j+1)=js.take j++[i]:=(do[qu,y];2);g:js.idxOf i=j:=Ew nd y;c:ag H' (upd H' r (.tup [.int j,x])):=ag.new W;{r,_,O,aQ.of aE,O,_,_,O,_,_,O,O,dJ (B:=K0 _) ?_};(by generalize upd H' r (.tup [.int j,x])=H2 at c);{_,O,_,O,aG rfl,λJ t G k o=>M _ _ {(s'.trans c).trans k,kvs++[(.tup (nk i),x,.int (j:Int))],cm.snoc (e:=(.tup (nk i),x,.int (j:Int))) {J,O,o,NM.af L ((s'.trans c).trans k).af} (m.af (c.trans k).af),?_}};[tk];d.snoc rfl (do¬V.int _=_;[g]);{S,kvs,m,d}:=s';d<-[q,q0];c:ag H1 (upd H1 C (.lst us)):=ag.new R;f:=S.trans c;{C,us,kvs,O,az.of aE,m.af c.af,(),λdq t G k o=>U t dq _ (f.trans k) (f.free G) o {?_,λi hi=>?_}};[l_ kvs [] (do[z7,L8 d];z8.mpr (nd.imp_of_mem λ{a b} Z Y h e=>h (inj a Z b Y (KD.tup.inj e)))),z7,Il d];{v,h1,rfl}:=kU.get (all:=js) inj (done:=[]) (acc:=[]) d (λi z=>nomatch z) (λi h=>h) (λi z=>nomatch z) i (.inr hi);h1
def Bp(T:Txt K mg tk)(F:FO K mg "key_of_mark" t_):yR P w K mg base:=do aO F FP (nN λ_=>rfl) {} λfa c A outer s H vs Q E k h=>?_;{_,(aF (aR (xt (vv 0)))),?_};{v,S,M,i,rfl,d,e}:=h;{b,m,n,g,vn,kq,rfl,h1,h2,o,j,f,a}:=d;{_,O,b,_,6,_,O,O,aQ.of h1,O,e _ (.tup a (.cons (.int _) (.cons (.int _) .nil)))}
def Cb(T:Txt K mg tk)(F:FO K mg "key_of_note" uq):ya P w K mg base:=do aO F BE (nN λ_=>rfl) {} λfa c A outer s H vs Q E k h=>?_;{_,(aF (aR (xt (vv 0)))),?_};{v,S,N,i,rfl,d,e}:=h;{b,m,n,g,vn,kq,rfl,h1,h2,o,j,f,a}:=d;{_,O,b,_,5,_,O,O,aQ.of h1,O,e _ (.tup a (.cons (.int _) (.cons (.int _) .nil)))}
def Es(T:Txt K mg tk)(F:FO K mg "telling_places" lR):uF P w K mg base:=do aO F w_ (nN λ_=>rfl) {} λfa y A outer s H vs Q E g h=>?_;hu:(A.deeper (envOfC "telling_places" (ah lR) ↑s fa y)).units<cLine:=g.uZ;R:(A.deeper (envOfC "telling_places" (ah lR) ↑s fa y)).units+1<cLine:=cY g;{_,(ax (sn w_.nd 1 kH) (ax (fo (il (c6 R (vv 0) aM (λ_ _=>rfl))) (gn w_.nd 2) (ax (sn w_.nd 3 (xt (vv 2))) (aF (bC (PW.pt (jJ (ck (xj (cQ g)) (vv 3) (vv 1)) (xM (ck (DY hu) (xt (dI (cQ g) (vv 1) (vv 3) (λ_ _=>rfl))) (xt (vv 2)))))) (aF (jZ (cQ g) (vv 1) (vv 3) (vv 2) rfl)) cg)))) (aF (aR (vv 1))))),?_};{fa,es,rs,rfl,fq,kk}:=h;{F,dk,Y,S,hw,up,hl}:=id fq;(dq,H1,Z,L,ed);{_,O,fa,.ref (F 1),O,.inl {du F 9,.inr "places",Rd.same dk L,O,(dh F 1 ⋯).symm},?_};{F 1,O,{_,az.of (L _ _ Y)},bN (xs:=es) (λj σ X=>vC λ(kvs:List 67) (k:Option V) (i:Option V)=>gF (σ=[! (.ref fa),!(.ref dq),k,i]) (ag H X) (X dq=! 69) (AL (EK (f' X) X) kvs (tl (rs.take j)))) {[],none,none,O,L,ed,.nil} (λj σ X _ ⟨_,_,_,_,s,_,_⟩=>az.of (s _ _ Y)) ?_ ?_};(j,x,σ,X,hx,{kvs,k,i,rfl,G,d,f},Nx,B);{r,g,M}:=S.at hx;J:=M.af G.af;c:=Gg (rs.take j);hjl:j<rs.length:=(qp.mp g).1;m:rs.take (j+1)=rs.take j++[r]:=(do[qu,g];2);{b,vp,vo,vn,kq,rfl,h1,h2,h3,h4,h5}:=id J;t:kvs.length<sizeLine:=cC (do[f.1];this:=vX (rs.take j);this<-[wv];this:=S.1;());o:∀a,AL (EK (f' X) X) a (tl (rs.take j++[r]))->vC λ(kvs:List 67) (k:Option V) (i:Option V)=>gF ([!(V.ref fa),!(V.ref dq),!(V.ref b),!vp]=[! (.ref fa),!(.ref dq),k,i]) (ag H (upd X dq (.dG a))) ((upd X dq (.dG a)) dq=! 69) (AL (EK (f' (upd X dq (.dG a))) (upd X dq (.dG a))) kvs (tl (rs.take (j+1)))):=λa a' => {a,_,_,O,G.wr Z,aE,do[m];a'.imp λe x p=>p.imp (aj.wd d) λq=>q.af (aj.wd d)};{_,O,b,_,0,vp,O,O,aQ.of h1,O,?_};body:∀D:Ends,(∀σ X,(∃(kvs:List 67) (k i:Option V),σ=[! (.ref fa),!(.ref dq),k,i]/\ag H X/\X dq=! 69/\AL (EK (f' X) X) kvs (tl (rs.take (j+1))))->D.nx σ X)->True:=λ_ _=>trivial;{_,O,_,O,dq,kvs,.tup r.pt,O,.inl d,h2,_,O,?_};[qF rfl,Eo f c];(by cases hb:hp (tl (rs.take j)) r.pt with|false|true=>?_);cf rfl ?_;{_,O,_,O,_,O,dq,kvs,.tup r.pt,O,d,h2,t,?_};B _ _ (o _ (do[ur];CY f c h2 J));bL rfl ?_;{n,C,ex'}:=qc.mp (gJ.mp hb);{v,W,pv}:=pP f c C;W<-[ex'];{b',vp',vo',vn',z,rfl,U,h2',h3',h4',N}:=pv;{_,O,_,O,dq,kvs,.tup r.pt,_,O,.inl d,h2,W,b',_,3,.ref z,O,O,aQ.of U,O,_,O,b,_,3,.ref kq,O,O,aQ.of h1,O,z,kq,[n.ka,n.kb],[r.ka,r.kb],O,O,aQ.of N,aQ.of h5,_,O,?_};I:bO n.ka n.kb r.ka r.kb:=(do hm:=pN C;this:=nh.mp (m▸(up.sublist (mf (j+1) rs)));this.2.2 n hm r (qt.mpr rfl));cf (Ov I) ?_;{_,O,_,O,_,O,dq,kvs,.tup r.pt,O,d,h2,t,?_};B _ _ (o _ (do[ur];CY f c h2 J));(σ,X,{kvs,k,i,rfl,G,d,f});f<-[S.1,q0];{_,O,kk X dq kvs G Z d f}
def DJ(T:Txt K mg tk)(F:FO K mg "way_out" uB):tK P w K mg base:=do aO F xJ (r_ λ_ _ _=>rfl) {} λfa cdv A outer s H vs Q E J h=>?_;{_,(ax (sn xJ.nd 3 (bT (a1 (vv 1)))) (ax (sn xJ.nd 4 (Kp (cQ J) (vv 1) cw)) (ax (xr PassesOwn.never (sR (PW.pt (iP (ck (qZ (cQ J)) (xi (vv 3) (eB iY aD)) (vv 0)) (iI (ck (xj (cQ J)) (xi (vv 3) (eB iY aD)) (vv 2)))))) (ax (sn xJ.nd 5 (dI (cQ J) (vv 0) (xi (vv 3) (eB iY aD)) (λ_ _=>rfl))) (ax (ap (vv 3) (a1 (vv 5))) (ax (bC (ck (qZ (cQ J)) (vv 5) (vv 4)) (aF (aR (vv 3))) cg) (aF (jZ (cQ J) (vv 4) (vv 5) cw rfl)))))) (aF (aR (vv 3)))))),?_};{oa,i,ea,ko,ys,ke,E',p,C,rfl,hoa,ako,Z,W,hfew,hea,M,gp,hpp,hpn,kk}:=h;{_,O,aG rfl,λc H1 g1 s1 e1=>?_};(a,H2,g2,s2,e2);s12:=s1.trans s2;{_,O,e2,nd p,gp.af s12.af,?_};s3:ag H (upd H2 a (.dG [(nd p,i,.bl true)])):=s12.wr (s1.free g2);G:c≠a:=a9 e1 g2;e3:(upd H2 a (.dG [(nd p,i,.bl true)])) c=!(.lst [i]):=(do[aB G];s2 _ _ e1);o3:(upd H2 a (.dG [(nd p,i,.bl true)])) a=!(.dG [(nd p,i,.bl true)]):=aE;gon:H a=none:=s1.free g2;(by generalize upd H2 a (.dG [(nd p,i,.bl true)])=H3 at s3 e3 o3);sm0:fD [((nd p,i,.bl true):KD×V×V)] (λk=>k∈[]++[p]):=(do this:=fD.nil.put (S':=λk=>k∈([]:List (List Key))++[p]) (p:=p) i (.bl true) λk=>(do 0);this);{λm σ X=>∃(ini:List (List Key)) (las:List Key) (ws:List V) (d:List 67) (u5:Option V),σ=[!(.ref oa),!i,!(.ref ea),!(.ref c),! (.ref a),u5]/\ag H X/\X c=!(.lst ws)/\AL (Cm X) ws (ini++[las])/\X a=!(.dG d)/\fD d (λk=>k∈ini++[las])/\d.length<=ini.length+1/\WP (gX ys) E' p ini las/\(∀k∈ini++[las],C k)/\m=102 - ini.length,{102,[],p,[i],_,none,O,s3,e3,.cons (gp.af s3.af) .nil,o3,sm0,qb _,.one,λk hk=>do[qt.mp hk];hpp,O},?_};(m,σ,X,{ini,las,ws,d,u5,rfl,L,B,aX,oX,I,hkl,wp,t,rfl});hfit:=wp.fits;{us,v,rfl,aU,hv}:=wW aX;hul:us.length=ini.length:=aU.1;R:=ako.imp λe x q=>q.imp (R':=iu X) L.af λr=>r.af L.af;S:=Rd.same hoa L;heX:=Rd.same hea L;o_ (λb j=>j=X/\(b=true->gX ys las≠none/\¬E' las)/\(b=false->gX ys las=none\/E' las)) (λNb N=>?_) ?_;{_,O,1,O,c,_,-1,v,O,O,az.of B,lj us v,_,O,oa,ko,nd las,O,S,hv,_,O,?_};[qB qo,CG R Z W];(by cases hg:gX ys las with|none|some o=>?_);bL rfl (N _ _ {O,(λz=>do-z),λ_=>.inl hg});cf rfl ?_;{_,O,1,O,c,_,-1,v,O,O,az.of B,lj us v,_,O,ea,ke,nd las,O,heX,hv,_,O,?_};[qF rfl];N _ _ {O,λz=>{(λy=>do y<-[hg];-y),λy=>?_},λz=>.inr ((M las).mp ?_)};z<-[M.yes y];-z;(by cases q:(vG ke (nd las)).isSome with|true|false=>?_);2;z<-[q];-z;(b,j,{rfl,hT,hF});(by cases b with|false|true=>?_);bL rfl ?_;{_,O,kk j c (us++[v]) ini las L g1 B aX (wp.stop (hF rfl)) () t};cf rfl ?_;{hg,hE}:=hT rfl;{o,ho}:=ue.mp hg;{f,hv',gv'}:=Hl R Z W ho;Na (λσ' H'=>∃m',m'<102 - ini.length/\∃(ini:List (List Key)) (las:List Key) (ws:List V) (d:List 67) (u5:Option V),σ'=[!(.ref oa),!i,!(.ref ea),!(.ref c),! (.ref a),u5]/\ag H H'/\H' c=!(.lst ws)/\AL (Cm H') ws (ini++[las])/\H' a=!(.dG d)/\fD d (λk=>k∈ini++[las])/\d.length<=ini.length+1/\WP (gX ys) E' p ini las/\(∀k∈ini++[las],C k)/\m'=102 - ini.length) (λ_ _ z=>z) λNx hNx=>?_;{_,O,_,O,1,O,c,_,-1,v,O,O,az.of B,lj us v,oa,ko,nd las,f,O,S,hv,hv',?_};{_,O,.inl {O,_,az.of B},_,O,c,_,_,O,O,B,j2 (do[qg,qr];()),?_};tw:aj j (upd j c (.lst ((us++[v])++[f]))):=aj.wl B;sW:ag H (upd j c (.lst ((us++[v])++[f]))):=L.wr g1;eW:(upd j c (.lst ((us++[v])++[f]))) c=!(.lst ((us++[v])++[f])):=aE;oW:(upd j c (.lst ((us++[v])++[f]))) a=!(.dG d):=(do[aB G.symm];oX);aW:AL (Cm (upd j c (.lst ((us++[v])++[f])))) ((us++[v])++[f]) ((ini++[las])++[o]):=(aX.imp λv k q=>q.af tw).snoc (GK.af gv' tw);gW:=GK.af gv' tw;(by generalize upd j c (.lst ((us++[v])++[f]))=Y at tw sW eW oW aW gW);hpo:C o:=hpn las o ho;g:∀k∈(ini++[las])++[o],C k:=λk hk=>(do z||z:=zg.mp hk;t k z;[qt.mp z];hpo);{_,O,_,O,a,d,nd o,O,.inl oW,gW,_,O,?_};[qB qo];n<|o∈ini++[las];[I.yes n];cf rfl ?_;{_,O,kk Y c _ (ini++[las]) o sW g1 eW aW (wp.again ho hE n) (do[qg,qr];()) g};[I.no n];bL rfl ?_;U:=wp.on ho hE n;D:=U.fits;D<-[qg,qr];{_,O,_,O,a,d,nd o,O,oW,gW,j2 (),?_};t2:aj Y (upd Y a (.dG (pG d (nd o) f (.bl true)))):=aj.wd oW;hNx _ _ {102 - (ini.length+1),(),ini++[las],o,(us++[v])++[f],_,_,O,sW.wr gon,do[aB G];eW,aW.imp λv k q=>q.af t2,aE,I.put _ _ λk=>?_,?_,U,g,do[qg,qr]};[zg,qt];{λz=>z.symm,λz=>z.symm};this:=iA d (nd o) f (.bl true);[qg,qr];()
def Ck(T:Txt K mg tk)(F:FO K mg "key_of_cell" uw):zY P w K mg base:=do aO F C' (nN λ_=>rfl) {} λfa c A outer s H vs Q E g h=>?_;{_,(aF (aR (xt (vv 0)))),?_};{v,C,i,rfl,ce,d}:=h;{b,j,e,vc,kq,rfl,h1,h2,k,f,a}:=ce;{_,O,b,_,4,_,O,O,aQ.of h1,O,d _ (.tup a (.cons (.int _) (.cons (.int _) .nil)))}
def EH(T:Txt K mg tk)(F:FO K mg "inner_number" tR):zi P w K mg base:=do aO F Ex (ik λ_ _=>rfl) {} λfa d A outer s H vs Q E e h=>?_;{_,(aF (aR (rZ (ck cR (vv 0) aM) (K7 (L_ (vv 1))) (DL (Ct (GN (vv 0)) (Ct aM (Ct (L_ (vv 1)) DU))))))),?_};{z,i,rfl,hi,hz,a}:=h;nl:=LV i hi;{_,O,O,_,O,?_};h0<|z = "";cf (do[dR];qH h0) ?_;a<-[show kL z i=iK i from qF h0];{_,O,i,O,(),a};bL (do[dR];decide_eq_false h0) ?_;a<-[show kL z i=((Str.empty++z)++".")++iK i from qB h0];c:((Str.empty++z)++".").length=z.length+1:=(do[lg,Cj];2);b:(((Str.empty++z)++".")++iK i).length<=z.length+4:=(do[lg,c];());{_,O,z,O,(),z,O,do[Cj];(),".",O,do[c];(),_,O,i,O,(),_,O,qf b (),qf b (),a}
def AU(T:Txt K mg tk)(F:FO K mg "text_of_sign" uY):AA P w K mg base:=do aO F D0 (ik λ_ _=>rfl) {} λfa i A outer s H vs Q E j h=>?_;{_,(ax (bC (eJ (cb N' T.kK boot_isinstance (a2 (vv 1) (O4 (v:=.ty "str") (do 2) T.Jb boot_str rfl)))) (aF (aR (vv 1))) cg) (ax (bC (ck cR (xt (vv 1)) aM) (aF (aR (aJ CS aM (xt (vv 1))))) cg) (aF (aR (aJ CS aM (bm PySem.F.plainAttrs_dict PySem.F.slot_dict_get PySem.F.type_dict_get (kR (cQ j)) (vv 0) (a2 (xt (vv 1)) aM))))))),?_};{nq,num,v,d,rfl,{kvs,hn,nk},c,ok,b}:=h;sz:∀{m:Nat},m<=1900->m<=sizeLine:=λh=>cM ();{z,rfl,hz}||{w,rfl,n}||{p,rfl,hp}:=ok;-c;⟨_,O,_,"str",true,O,⋯,.str z,_,O,cf rfl ⟨_,O,b z (.inl rfl)⟩⟩;{a,xs,rfl,e,g}:∃a xs,v=.ref a/\H a=! (.tup xs)/\dE H xs [.str "picture",.str w]:=(do(by cases c with|tup e t=>?_);{_,_,O,e,t});{}||{{},{}||{{},{}}}:=g;{_,O,_,"str",false,O,⋯,.tup e,_,O,bL rfl ?_};{_,O,_,_,0,_,O,O,aQ.of e,O,O,_,O,cf (do[dR];qH rfl) ?_};{_,O,_,_,1,_,O,O,aQ.of e,O,"*",w,O,O,sz (do¬1+w.length<=_;()),b _ (.inr (.inl {w,O,O}))};{a,xs,rfl,e,g}:∃a xs,v=.ref a/\H a=! (.tup xs)/\dE H xs [.str "refer",tD p]:=(do(by cases c with|tup e t=>?_);{_,_,O,e,t});{}||{{},{}||{k,{}}}:=g;{_,O,_,"str",false,O,⋯,.tup e,_,O,bL rfl ?_};{_,O,_,_,0,_,O,O,aQ.of e,O,O,_,O,bL (do[dR];decide_eq_false ∅) ?_};{_,O,.inr (.inr (.inl {O,.inr (.inr {kvs,hn})})),_,O,_,_,1,_,O,O,aQ.of e,O,nq,kvs,.tup p,_,_,O,O,hn,LI k,?_};{h1,h2}:=nk p hp;[h1];(by cases f:num p with|none|some z=>?_);{"#","?",O,O,sz ⋯,b _ (.inr (.inr {p,O,do[f];2}))};{"#",z,O,O,sz (do this:=h2 z f;¬1+z.length<=_;()),b _ (.inr (.inr {p,O,do[f];2}))}
def BA(T:Txt K mg tk)(F:FO K mg "_law_cell_at" rV):zI P w K mg base:=do aO F AY (ik λ_ _=>rfl) {} λfa d A outer s H vs Q E g h=>?_;{_,(ax (bC (ck zV (vv 1) (cb de T.bS boot_len (a1 (vv 0)))) (aF (aR (xa (vv 0) (vv 1)))) cg) (aF (aR aD))),?_};{sp,ns,k,rfl,b,f,c}:=h;{_,O,_,O,sp,_,O,.inl b,_,_,O,O,_,O,?_};a<|k<((List.map V.int ns).length:Nat);cf (qH a) ?_;{_,O,_,O,sp,_,_,O,O,b,f,a,λv e=>?_};{m,_,rfl}:=qc.mp e;c m;bL (decide_eq_false a) (c 0)
def AV(T:Txt K mg tk)(F:FO K mg "_law_drawn" uT):Ag P w K mg base:=do aO F BX (ik λ_ _=>rfl) {} λfa d A outer s H vs Q E f h=>?_;{_,(ax (bC (PW.pt (iP (eJ (vv 1)) (iI (ck Kr (vv 0) (aJ Dj aD aD))))) (aF (aR (bT (a2 (vv 0) aD)))) cg) (aF (aR (bT (a2 (aJ eN (vv 0) aD) aD))))),?_};{c,b,rfl,a}:=h;{_,O,b,O,?_};(by cases b with|false|true=>?_);bL rfl (bL rfl {_,O,_,_,O,O,(by show(0:Int)<2147483629;decide),aG rfl,λp H' g s e=>a H' p s g {_,_,e}});cf rfl {_,O,_,_,O,O,{⋯,⋯,⋯},_,_,O,O,_,O,?_};h1<|(10:Int) ^ 18<=c;cf (qH h1) {_,O,aG rfl,λp H' g s e=>a H' p s g {_,_,e}};bL (decide_eq_false h1) {_,O,_,_,O,O,(by show(0:Int)<2147483629;decide),aG rfl,λp H' g s e=>a H' p s g {_,_,e}}
def C7(T:Txt K mg tk)(F:FO K mg "_law_draw" tQ):gE P w K mg base:=do aO F Lw (ik λ_ _=>rfl) {} λfa f A outer s H vs Q E i h=>?_;{_,(ax (sn Lw.nd 2 (xl (vv 0))) (ax (bC (ck cR (xl (vv 0)) aD) (ax (LP (aJ jX (vv 2) (vv 1)) (K9 (vv 0) aD J5)) (aF (aR (aJ eN (vv 2) (vv 1))))) cg) (ax (LP (aJ eN (aJ cU (aJ sH (vv 2) aD) aD) aD) (K9 (vv 0) aD J5)) (aF (aR (aJ eN (aJ jX (aJ eN (aJ sH (xl (vv 0)) aD) aD) aD) (vv 1))))))),?_};{p,q,rfl,{a,b,hp},d,g,e}:=h;{_,O,p,_,0,.int a,O,O,az.of hp,O,_,O,p,_,1,.int b,O,O,az.of hp,O,O,_,O,?_};c:∀x:Int,0<=x % q/\x % q<q:=λx=>{Int.emod_nonneg x (),Int.emod_lt_of_pos x d};h0<|b=0;cf (do[h0];2) {_,O,_,O,_,_,O,O,{d,()},_,O,p,_,0,0,O,O,hp,O,_,O,_,O,_,_,O,O,d,?_};e _ _ JD {_,_,aE} (c _).1 (c _).2;bL (decide_eq_false λz=>h0 (by injection z)) {_,O,_,_,O,O,.inr {⋯,⋯},_,_,O,O,_,_,O,O,(by show(0:Int)<2147483629;decide),_,O,p,_,0,0,O,O,hp,O,?_};{_,O,p,_,0,_,O,O,az.of aE,O,_,_,O,O,.inr {⋯,⋯},_,_,O,O,(by show(0:Int)<2147483647;decide),_,_,O,O,{⋯,⋯},_,O,_,_,O,O,d,?_};e _ _ JD {_,_,aE} (c _).1 (c _).2
def D1(T:Txt K mg tk)(F:FO K mg "_law_open" lX):xZ P w K mg base:=do aO F qU (ik λ_ _=>rfl) {} λfa cdv A outer s H vs Q E hr h=>?_;hu1:(A.deeper (envOfC "_law_open" (ah lX) ↑s fa cdv)).units+1<cLine:=cY hr;{_,(ax (sn qU.nd 2 (cy (fG hr.hd (pK hr)) T.cT boot_dict (a1 (c6 hu1 (vv 0) aM (λ_ _=>rfl))))) (ax (sm qU.nd 3 (vv 1)) (ax (fo (jY (do 2) T.c9 (a1 (aJ cU (cb Cf T.bS boot_len (a1 (vv 2))) aD))) (gn qU.nd 4) (ax (mX (i:=5) qU.nd rfl (Or.inl rfl) (own:=["_law_row"]) (fr:=[("_law_here",3)]) rfl (il (c6 hu1 (vv 0) aM (λ_ _=>rfl))) {O,∅,∅} (iQ (ah lX) ["_law_facts_here","_law_part","_law_births","_law_here","_law_turn","_law_about"] rfl rfl (λ_ h=>fh h) ∅ ∅ ∅) (λ_ _ _=>(cj (i:=0) (do¬List.Nodup (["_law_row","_law_here"]:List Tp);by decide +kernel) rfl (Or.inl rfl))) (λ_=>jS rfl) (λ_ _ _=>(eF (ck (yH hr) (fL nM (vv 0) iS (dN aD)) (a_ (ac (vc 1) (a2 aM aM)))))) (λ_ _ _=>(vv 0))) (ax (bC (ck (pT hr) (vv 5) (bT dj)) (aF (aR (xt (cb (Qm rfl (uL hr)) T.tu boot_max (a1 (DM (il (vv 5)) (λ_ _ _=>dF) (λ_ _ _=>(a_ (a2 (xt (vv 0)) (xt (vv 0))))))))))) cg) (ax (bC (ck (yH hr) (vc 3) (a_ (a2 aM aD))) (aF (aR cw)) cg) (aF (sm qU.nd 3 (dI (cQ hr) (vv 2) (vc 3) (λ_ _=>rfl)))))))) (aF (aR cw))))),?_};{fa,F,x,v,p,rfl,N,hv,hp,kk}:=h;{bs,eb,ab}:=N.eb;{ys,ev,al}:=N.ev;{es,k1,k2}:=BQ ab;hel:es.length=x.br.length:=k2.1;hyl:bs.length=x.br.length:=ab.1;hll:ys.length=x.ls.length:=al.1;lb:=N.lb;ll:=N.ll;{_,O,fa,.ref (F 0),O,.inl {du F 9,.inr "births",N.dk,O,(dh F 0 ⋯).symm},F 0,bs,es,O,az.of eb,k1,(),λdq H1 g1 s1 e1=>?_};hnk:(es.map (·.1)).Nodup:=(do[xV (g:=λx:List Key×List Key=>KD.tup x.1) k2 λe x p=>p.1];z8.mpr (List.Pairwise.imp (λh z=>h (KD.tup.inj z)) (z8.mp N.nb)));e1<-[l_ _ [] (do[z7];hnk),z7];lk:=B0 k2;{T,hT}:∃T,T=cO "bo" "read" x.ls:={_,O};{_,O,_,O,dq,es,O,e1,_,_,O,O,((es.length:Nat):Int)+1,O,(),(),bY (lo:=0) (n:=(((es.length:Nat):Int)+1).toNat) (λj σ Z=>Gn λv' q u4 u5=>gF (σ=[! (.ref fa),!v,!(.ref dq),!v',u4,u5]) (ag H1 Z) (kX Z v' q/\(q=aN\/q∈x.br.map (·.1))) (j<=x.br.length/\(kZ x.br x.br.length p).findSome? T=(kZ x.br (x.br.length - j) q).findSome? T\/x.br.length<j/\(kZ x.br x.br.length p).findSome? T=none)) {v,p,none,none,O,ag.refl _,{hv.af s1.af,hp},.inl {qx _,O}} ?_ ?_};(j,σ,Z,hj,{v',q,u4,u5,rfl,sZ,{hq,hqk},f},Nx,hNx);hjl:j<=x.br.length:=();f:(kZ x.br x.br.length p).findSome? T=(kZ x.br (x.br.length - j) q).findSome? T:=(do h||h:=f;h.2;());L:=s1.trans sZ;dk:=Rd.same N.dk L;evZ:=L _ _ ev;{_,O,fa,.ref (F 8),O,.inl {du F 9,.inr "leaves",dk,O,(dh F 8 ⋯).symm},F 8,O,{_,az.of evZ},cI (xs:=ys) (jH ()) (λj us W=>ag Z W/\AL (LX W) us ((x.ls.take j).filter (jN q))) {ag.refl _,.nil} (λ_ _ W s'=>az.of (s'.1 _ _ evZ)) (λj y us W K1 K0 hx s' k1 k0=>?_) λH3 up us s' hu huq=>?_};{sW,R}:=s';{l,el,lx}:=al.at hx;lx:=lx.af (L.trans sW).af;{b,vp,c,rfl,h1,h2,h3,h4,h5,h6}:=id lx;hqW:=hq.af sW.af;{_,O,3,O,b,_,O,aQ.of h1,(λz=>absurd z.2 (show ¬HT.bV 5 5 (some 3)=5 from ⋯)),λsp W1 g1' s1' e1'=>?_};e1':W1 sp=!(.tup [vp,.str l.hd,.str l.to]):=e1';{_,O,aG rfl,λsq W2 g2 s2 e2=>?_};G:=s1'.trans s2;y1:=So h3.lay h5 h6;y2:=So (a:=q) (h:="bo") (t:="read") hq.2.lay ∅ ∅;{.tuple [tD l.pt,.str l.hd,.str l.to],.tuple [tD q,.str "bo",.str "read"],.tup (aQ.of (s2 _ _ e1')) (.cons (bE (h2.af G.af)).dv (.cons (.str _) (.cons (.str _) .nil))),.tup (aQ.of e2) (.cons (bE (hqW.1.af G.af)).dv (.cons (.str _) (.cons (.str _) .nil))),y1.1,y2.1,qf (yh _ _) (qf y1.2 ⋯),_,O,?_};ee:(if false=true then not (PyData.eqv (.tuple [tD l.pt,.str l.hd,.str l.to]) (.tuple [tD q,.str "bo",.str "read"])) else PyData.eqv (.tuple [tD l.pt,.str l.hd,.str l.to]) (.tuple [tD q,.str "bo",.str "read"]))=jN q l:=SR _ _ _ _ _ _;tk:x.ls.take (j+1)=x.ls.take j++[l]:=(do[qu,el];2);an2:=R.imp λv l g=>LX.af g G.af;(by cases hm:jN q l with|true|false=>?_);cf (do[ee];hm) {_,O,k1 _ _ {sW.trans G,?_}};[tk,zy,vd hm,we];an2.snoc (lx.af G.af);bL (do[ee];hm) (k0 _ {sW.trans G,?_});[tk,zy,yf (by rw[hm];decide),we,z6];an2;{s3,R}:=s';R<-[hll,q0];n3:ag H3 (upd H3 up (.lst us)):=ag.new huq;R:=R.imp λv l g=>LX.af g n3.af;eu:(upd H3 up (.lst us)) up=! (.lst us):=aE;M:=s3.trans n3;¬lN _ _ _ _ (upd H3 up (.lst us));(by generalize upd H3 up (.lst us)=H4 at R eu M);hfl:(x.ls.filter (jN q)).length<=45:=qf (wj _ _) ll;hul:us.length=(x.ls.filter (jN q)).length:=R.1;{_,O,aG rfl,λzq H5 g5 S e5=>?_};lS:=mH (H:=H4) (D:=JP) (λv l g=>LX.dv g) R;oks:iH 3 (.list ((x.ls.filter (jN q)).map JP)):=fV λd hd=>(do _;{l,hl,rfl}:=qc.mp hd;{v,_,g}:=R.ri hl;g.SA);{.list ((x.ls.filter (jN q)).map JP),.list [],.lst (az.of (S _ _ eu)) (lS.same S),.lst (az.of e5) .nil,oks.1,O,qf (ji _ _) ⋯,_,O,?_};(by cases hf:x.ls.filter (jN q)with|cons l0 r0|nil=>?_);cf rfl ?_;{_,O,up,O,{_,az.of (S _ _ eu)},cI (xs:=us) (jH ()) (λj vs W=>ag H5 W/\dD W vs (((x.ls.filter (jN q)).take j).map λl=>D2 ([l.ka,l.kb],l.ys))/\∀(m:Nat) v l,vs[m]?=!v->((x.ls.filter (jN q)).take j)[m]?=!l->∃t vk,v=.ref t/\W t=!(.tup [vk,.bl l.ys])) {ag.refl _,.nil,λm v l z=>nomatch z} (λ_ _ W s'=>az.of ((S.trans s'.1) _ _ eu)) (λj y vs W K1 K0 hx s' k1 k0=>?_) λH6 np vs s' hu6 hnp=>?_};{sW,I,vt}:=s';{l,el,lx}:=R.at hx;{b,vp,c,rfl,h1,h2,h3,h4,h5,h6}:=lx.af (S.trans sW).af;dJ (B:=K0 W) ?_;{_,O,b,_,4,_,O,O,aQ.of h1,O,_,O,b,_,3,_,O,O,aQ.of h1,O,aG rfl,λtq W2 g2 s2 e2=>k1 _ _ {sW.trans s2,?_,λm v l' Y V=>?_}};[qu,el,yy,zt];cV (I.same s2) (.tup (aQ.of e2) (.cons (.tup (aQ.of (s2 _ _ h4)) (.cons (.int _) (.cons (.int _) .nil))) (.cons (.bl _) .nil)));l1:=mF I;l1<-[qh];V<-[qu,el,yy];hm<|m<vs.length;Y<-[zu hm];V<-[zu ()];{t,vk,e,g}:=vt m v l' Y V;{t,vk,e,s2 _ _ g};(by rw[ye ()]at Y V);hz:m - vs.length=0:=(do this:=(qp.mp Y).1;this<-[qr];());Y<-[hz];V<-[<-l1,hz];-Y;-V;{tq,_,O,e2};{s6,I,vt}:=s';(by rw[hul,q0]at I vt);n6:ag H6 (upd H6 np (.lst vs)):=ag.new hnp;l6:=mF I;l6<-[qh];{np,vs,(x.ls.filter (jN q)).map λl=>([l.ka,l.kb],l.ys),O,az.of aE,do[wg];I.same n6,do[l6,hf];Nat.zero_lt_succ _,λa ha b hb hab=>?_,λm v k Y V hmx=>?_};{l,hl,rfl}:=qc.mp ha;{l',hl',rfl}:=qc.mp hb;hpw:(x.ls.filter (jN q)).Pairwise (λa b=>bO a.ka a.kb b.ka b.kb):=List.Pairwise.filter _ N.ls;(by injection hab with h1 h2;injection h2 with h2 _);{i,hi,ei}:=zv.mp hl;{i',hi',U}:=zv.mp hl';z||z||z:=rg i i';this:=yv.mp hpw i i' hi hi' z;this<-[ei,U];(by unfold bO at this);();!z;U<-[ei];[U];this:=yv.mp hpw i' i hi' hi z;this<-[ei,U];(by unfold bO at this);();V<-[qj];{l,hl,rfl}:=wb.mp V;{t,vk,rfl,et}:=vt m v l Y hl;J:T q=!l.ys:=(do[hT];I0 N.ls (qk hl) λk hk hlt=>?_;this:=hmx _ (qc.mpr {k,hk,O});this<-[show bK (.tuple (([l.ka,l.kb],l.ys).1.map PyData.int)) (.tuple (([k.ka,k.kb],k.ys).1.map PyData.int))=true from f7 hlt];-this);C:eI x.br x.ls "bo" p=l.ys:=(do@eI;[<-hT,f];{r,er}:=MZ x.br (x.br.length - j) q;[er,j7,J];2);kk<-[C];{t,_,1,_,O,O,aQ.of (n6 _ _ et),O,kk _ ((L.trans M).trans (S.trans (s6.trans n6)))};bL rfl ?_;J:T q=none:=(do[hT];C9 hf);s05:=(L.trans M).trans S;{_,O,aG rfl,λmq H6 g6 s6 e6=>?_};hq6:=hq.af ((M.trans S).trans s6).af;{tD q,tD aN,(bE hq6.1).dv,.tup (aQ.of e6) (.cons (.str _) (.cons (.int _) .nil)),hq.2.lay,∅,qf (yh _ _) (qf (eK _) ⋯),_,O,?_};ee:(if false=true then not (PyData.eqv (tD q) (tD aN)) else PyData.eqv (tD q) (tD aN))=decide (q=aN):=gN _ _;X<|q=aN;cf (do[ee];qH X) ?_;C:eI x.br x.ls "bo" p=false:=(do@eI;[<-hT,f];this:kZ x.br (x.br.length - j) q=[q]:=(do(by cases x.br.length - j with|zero|succ n=>?_);2;¬q::(match rR x.br q with|none=>[]|some o=>kZ x.br n o)=_;{_,h2}||{_,o,_,h2,_}:=lk q;[h2];(by unfold rR at h2);{e,he,_}:=wb.mp h2;h9:decide (e.1=q)=true:=List.find?_some (p:=λe:List Key×List Key=>decide (e.1=q)) he;absurd (qc.mpr {e,j0 he,(qN h9).trans X}) N.nm);[this,j7,J];2);kk<-[C];kk _ (s05.trans s6);bL (do[ee];decide_eq_false X) ?_;hk:q∈x.br.map (·.1):=hqk.resolve_left X;{_,h2}||{vo,o,h1,h2,h3}:=lk q;(by unfold rR at h2);{e,he,ee'}:=qc.mp hk;h2<-[bw,jr];absurd (qH ee') (h2 e he);s16:=((sZ.trans M).trans S).trans s6;{_,O,_,O,dq,es,.tup q,vo,O,.inl (s16 _ _ e1),hq6.1,h1,hNx _ _ {vo,o,_,_,O,s16,{h3.af (s05.trans s6).af,?_},?_}};(by unfold rR at h2);{e,he,rfl}:=wb.mp h2;N.cl e (j0 he);[f];(by cases hn:x.br.length - j with|zero|succ n=>?_);.inr {(),?_};¬[q].findSome? T=none;[j7,J];2;.inl {(),?_};¬(q::(match rR x.br q with|none=>[]|some o=>kZ x.br n o)).findSome? T=_;[h2,j7,J,show x.br.length - (j+1)=n from ()];(σ,Z,{v',q,u4,u5,rfl,sZ,_,f});C:eI x.br x.ls "bo" p=false:=(do@eI;[<-hT];h||h:=f;();[h.2];2);kk<-[C];kk Z (s1.trans sZ)
def Bt(T:Txt K mg tk)(F:FO K mg "_law_within" sr):Ax P w K mg base:=do aO F Bu (ik λ_ _=>rfl) {} λfa n A outer s H vs Q E p h=>?_;{_,(aF (aR (xY (HR (ce cR (vv 1) aM) (xh (ce jR (vv 0) aM))) (xh (ce cR (fL vM (vv 0) iS (dN (aJ cU (cb M6 T.bS boot_len (a1 (vv 1))) aD))) (aJ CS (vv 1) aM)))))),?_};{z,w,rfl,hz,q,a}:=h;e:∀{m:Nat},m<=1900->m<=sizeLine:=λh=>cM ();f:decide (V.str w=V.str (Str.ofString ""))=decide (w = ""):=dR _ _;d:∀{Q:VK},(∀b:Bool,b=decide (dQ z none (!((w.length:Int)+1))=w++".")->Q (.bl b) H)->oG Sh (Sb IH (lW 0) oV (yC (oG (xF λi j=>V.int (i+j)) (FY eg (jA (lW 1) wH)) (tC (V.int 1))))) (oG f_ (lW 1) (tC (V.str (Str.ofString ".")))) (L2.start Al [V.str z,V.str w]) H Q:=λ{Q} k=>{_,O,_,O,w,O,e (),_,_,O,O,_,O,z,O,e (),_,O,w,".",O,O,e (do¬w.length+1<=_;()),O,k _ (dR _ _)};(by unfold wL at a);{_,O,O,_,O,?_};h0<|w = "";cf (do[f];qH h0) ?_;{_,O,O,_,O,?_};o:decide (V.str z=V.str (Str.ofString ""))=decide (z = ""):=dR _ _;[o];a<-[qH h0,Bool.true_and];(by cases g:decide (z = "")with|false|true=>?_);a<-[g];cf rfl a;a<-[g];bL rfl (d λb c=>do[c];a);bL (do[f];decide_eq_false h0) ?_;a<-[decide_eq_false h0,Bool.false_and,Bool.false_or];{_,O,bL rfl (d λb c=>do[c];a)}
def DC(T:Txt K mg tk)(F:FO K mg "_law_alike" uo):yK P w K mg base:=do aO F C2 (r_ λ_ _ _=>rfl) {} λfa cdv A outer s H vs Q E hr h=>?_;{_,(ax (bC (PW.pt (jJ (ck (pT hr) (fL nM (vv 0) iS (dN aD)) (fL nM (vv 1) iS (dN aD))) (jJ (ck (pT hr) (fL nM (vv 0) (dN aD) iS) (fL nM (vv 1) (dN aD) iS)) (xM (ck jR (ce tG (xt (vv 0)) dH) (ce tG (xt (vv 1)) dH)))))) (aF (aR cw)) cg) (ax (bC (ck tG (xt (vv 0)) dH) (aF (aR cw)) cg) (ax (bC (ck (pT hr) (gH (own:=["_law_name","_law_text","_law_marks"]) (fr:=[]) rfl (il (xt (vv 0))) {O,∅,∅} (fB ∅) (λ_ _ _=>(iD (n:=3) rfl (cN (cj (i:=0) (do¬List.Nodup (["_law_name","_law_text","_law_marks"]:List Tp);by decide +kernel) rfl (Or.inl rfl)) (cN (cj (i:=1) (do¬List.Nodup (["_law_name","_law_text","_law_marks"]:List Tp);by decide +kernel) rfl (Or.inl rfl)) (cN (cj (i:=2) (do¬List.Nodup (["_law_name","_law_text","_law_marks"]:List Tp);by decide +kernel) rfl (Or.inl rfl)) gK))))) (λ_=>wM rfl rfl rfl ⋯ ⋯ ⋯) (λ_ _ _=>dF) (λ_ _ _=>(a_ (a2 (vv 0) (vv 2))))) (gH (own:=["_law_name","_law_text","_law_marks"]) (fr:=[]) rfl (il (xt (vv 1))) {O,∅,∅} (fB ∅) (λ_ _ _=>(iD (n:=3) rfl (cN (cj (i:=0) (do¬List.Nodup (["_law_name","_law_text","_law_marks"]:List Tp);by decide +kernel) rfl (Or.inl rfl)) (cN (cj (i:=1) (do¬List.Nodup (["_law_name","_law_text","_law_marks"]:List Tp);by decide +kernel) rfl (Or.inl rfl)) (cN (cj (i:=2) (do¬List.Nodup (["_law_name","_law_text","_law_marks"]:List Tp);by decide +kernel) rfl (Or.inl rfl)) gK))))) (λ_=>wM rfl rfl rfl ⋯ ⋯ ⋯) (λ_ _ _=>dF) (λ_ _ _=>(a_ (a2 (vv 0) (vv 2)))))) (aF (aR cw)) cg) (ax (fo (DN (do 2) T.JU (a2 (xt (vv 0)) (xt (vv 1)))) (gt (cN (gn C2.nd 3) (cN (gn C2.nd 4) gK))) (aF (bC (PW.pt (iP (ck jR (xt (vv 3)) (xt (vv 4))) (iI (PW.pt (jJ (ck jR (xt (vv 3)) aM) (jJ (ck jR (fL vM (xt (vv 4)) iS (dN aD)) aM) (xM (ck (inD hr) (fL vM (xt (vv 4)) (dN aD) iS) (vv 2))))))))) (aF (aR cw)) cg))) (aF (aR cw)))))),?_};{fa,F,d,op,num,num',v,u,e,kq,zs,rfl,fz,en',en,ek,hzl,hzo,heo,hep,rel,hno,kk}:=h;{U,vp',v2,v3,v4,rfl,h1',h2',I,h4',h5'}:=en';{b,vp,u2,u3,u4,rfl,h1,h2,h3,h4,h5}:=en;J:iH 2 (.tuple [.str e.2,tD e.1]):=gB λx hx=>(do(by ac_nf at hx);rfl||rfl:=hx;fZ heo;oh hep.lay);L:=fz.Qh (p:=e.1) op;c2:¬(HT.bV 5 0 none=0/\HT.bV 5 5 (some 2)=5):=⋯;c3:¬(HT.bV 5 0 (some 3)=0/\HT.bV 5 5 none=5):=⋯;{_,O,2,O,U,_,O,aQ.of h1',c2,λp1 W1 g1 s1 e1=>{_,O,2,O,b,_,O,aQ.of (s1 _ _ h1),c2,λp2 W2 g2 s2 e2=>?_}};e1:W1 p1=!(.tup [.str e.2,vp']):=e1;e2:W2 p2=!(.tup [.str e.2,vp]):=e2;G:=s1.trans s2;{.tuple [.str e.2,tD e.1],.tuple [.str e.2,tD e.1],.tup (aQ.of (s2 _ _ e1)) (.cons (.str _) (.cons (bE (h2'.af G.af)).dv .nil)),.tup (aQ.of e2) (.cons (.str _) (.cons (bE (h2.af G.af)).dv .nil)),J.1,J.1,qf (yh _ _) (qf J.2 ⋯),_,O,bL (xf rfl J.1) ?_};{_,O,3,O,U,_,O,aQ.of (G _ _ h1'),c3,λp3 W3 g3 s3 e3=>{_,O,3,O,b,_,O,aQ.of ((G.trans s3) _ _ h1),c3,λp4 W4 g4 s4 e4=>?_}};e3:W3 p3=!(.tup [v3,v4]):=e3;e4:W4 p4=!(.tup [u3,u4]):=e4;a:=(G.trans s3).trans s4;{.tuple [sy d op e.1,sx d op e.1],.tuple [sy d op e.1,sx d op e.1],.tup (aQ.of (s4 _ _ e3)) (.cons (h4'.same a) (.cons (h5'.same a) .nil)),.tup (aQ.of e4) (.cons (h4.same a) (.cons (h5.same a) .nil)),L.1,L.1,qf (yh _ _) (qf L.2 ⋯),_,O,bL (xf rfl L.1) ?_};f:=a _ _ h1';h14:=a _ _ h1;(by unfold yW at h3 I);{_,O,U,_,2,_,O,O,aQ.of f,O,O,_,O,b,_,2,_,O,O,aQ.of h14,O,O,O,_,O,?_};(by cases ho:op e.1 with|false|true=>?_;rw[ho]at h3 I);-h3;-I;bL rfl {_,O,U,_,2,_,O,O,aQ.of f,O,O,_,O,cf rfl (kk _ a)};(by rw[ho]at h3 I);{q',xs',rfl,sq',dv'}:=GJ I;{q,xs,rfl,sq,dv}:=GJ h3;bL rfl {_,O,U,_,2,_,O,O,aQ.of f,O,O,_,O,bL rfl ?_};yn:=fz.P4 (p:=e.1);{xs0,ms0,ns0,fs}:=fz.fs;cD:=fs.ws.cD;hal:(bA d.S d.n e.1).length<=1400:=qf (qf (wj _ _) (kJ fs.ws)) cD;hl':=mF dv';hl:=mF dv;(by rw[qh]at hl hl');sg:∀{m i:Nat},(bA d.S d.n e.1)[m]?=!i->iV (d.S i).sg:=λ{m i} h=>fz.sg i (fz.Qc (qk h));C:=sq'.same a;dv4':=dv'.same a;s4q:=sq.same a;dv4:=dv.same a;{_,O,U,_,2,_,O,O,aQ.of f,O,q',O,{_,C},cI (xs:=xs') (cM ()) (λj us W=>ag W4 W/\dD W us (((bA d.S d.n e.1).take j).map (KA d e.1))) {ag.refl _,.nil} (λ_ _ W s'=>C.same s'.1) (λj y us W K1 K0 hx s' k1 k0=>?_) λW5 n5 M s' hu5 hn5=>?_};{sW,an}:=s';{i,br,vn,vm,hi,rfl,r1,r2,r3}:=xT (dv4'.same sW) hx;{br,_,O,r1,O,_,_,O,_,_,O,_,_,O,O,?_};dJ (B:=K0 W) ?_;{_,O,_,O,aG rfl,λtq W2 g2 s2 e2=>k1 _ _ {sW.trans s2,?_}};[qu,hi,yy,zt];cV (an.same s2) (.tup (aQ.of e2) (.cons (r2.same s2) (.cons (r3.same s2) .nil)));{s5,o}:=s';o<-[hl',q0];m5:ag W5 (upd W5 n5 (.lst M)):=ag.new hn5;eu5:(upd W5 n5 (.lst M)) n5=!(.lst M):=aE;o:=o.same m5;g:=s5.trans m5;h15:=g _ _ h14;Y:=g _ _ f;R:=s4q.same g;dv5:=dv4.same g;s5q':=C.same g;dv5':=dv4'.same g;(by generalize upd W5 n5 (.lst M)=Y5 at eu5 o g h15 Y R dv5 s5q' dv5');{_,O,b,_,2,_,O,O,aQ.of h15,O,q,O,{_,R},cI (xs:=xs) (cM ()) (λj us W=>ag Y5 W/\dD W us (((bA d.S d.n e.1).take j).map (KA d e.1))) {ag.refl _,.nil} (λ_ _ W s'=>R.same s'.1) (λj y us W K1 K0 hx s' k1 k0=>?_) λW6 n6 N s' hu6 hn6=>?_};{sW,an}:=s';{i,br,vn,vm,hi,rfl,r1,r2,r3}:=xT (dv5.same sW) hx;{br,_,O,r1,O,_,_,O,_,_,O,_,_,O,O,?_};dJ (B:=K0 W) ?_;{_,O,_,O,aG rfl,λtq W2 g2 s2 e2=>k1 _ _ {sW.trans s2,?_}};[qu,hi,yy,zt];cV (an.same s2) (.tup (aQ.of e2) (.cons (r2.same s2) (.cons (r3.same s2) .nil)));{s6,t}:=s';t<-[hl,q0];m6:ag W6 (upd W6 n6 (.lst N)):=ag.new hn6;eu6:(upd W6 n6 (.lst N)) n6=!(.lst N):=aE;t:=t.same m6;c:=s6.trans m6;h16:=c _ _ h15;X:=c _ _ Y;s6q:=R.same c;dv6:=dv5.same c;D:=s5q'.same c;dv6':=dv5'.same c;eu56:=c _ _ eu5;an56:=o.same c;s06:=(a.trans g).trans c;(by generalize upd W6 n6 (.lst N)=Y6 at eu6 t c h16 X s6q dv6 D dv6' eu56 an56 s06);{.list ((bA d.S d.n e.1).map (KA d e.1)),.list ((bA d.S d.n e.1).map (KA d e.1)),.lst (az.of eu56) an56,.lst (az.of eu6) t,yn.1,yn.1,qf (yh _ _) (qf yn.2 ⋯),_,O,bL (xf rfl yn.1) ?_};hb:∀{m:Nat},m<=1900->m<=sizeLine:=λh=>cM ();{_,O,U,_,2,_,O,O,aQ.of X,O,_,O,b,_,2,_,O,O,aQ.of h16,O,q',q,O,{_,D},{_,s6q},P0 (xs:=xs') (ys:=xs) (λj σ Z=>uA λu3 u4=>σ=[!(.ref U),!(.ref b),!(.ref kq),u3,u4]/\ag Y6 Z) {none,none,O,ag.refl _} (λj σ Z h=>do _;{_,_,_,s}:=h;{D.same s,s6q.same s}) ?_ ?_};(m,y1,J,σ,Z,tp,hx1,hx2,{w3,w4,rfl,sZ},htp);nZ:ag Z (upd Z tp (.tup [y1,J])):=ag.new htp;etp:(upd Z tp (.tup [y1,J])) tp=!(.tup [y1,J]):=aE;k:=sZ.trans nZ;¬uJ _ _ _ _ (upd Z tp (.tup [y1,J])) _;(by generalize upd Z tp (.tup [y1,J])=Z1 at etp k);{i,r',vn',vm',hi',rfl,r1',_,_}:=xT (dv6'.same k) hx1;{i2,r,vn,vm,hi,rfl,r1,_,_}:=xT (dv6.same k) hx2;hi<-[hi'];-hi;{tp,_,O,aQ.of etp,O,_,_,O,_,_,O,O,?_};{_,O,r',_,1,_,O,O,r1',O,_,O,r,_,1,_,O,O,r1,O,O,_,O,?_};tl:=C_ hno (sg hi');ht<|tx num' (d.S i).sg=tx num (d.S i).sg;bL (do[dR,qH ht];2) (bL rfl {_,_,O,k});{t1,z,t2,t3,t4,t5}:=(BK rel hno (sg hi')).resolve_left ht;cf (do[dR,decide_eq_false ht];2) ?_;{_,O,r',_,1,_,O,O,r1',O,O,_,O,bL (do[dR,qH t1];2) ?_};(by rw[t2]at r1 tl);{_,O,r,_,1,_,O,O,r1,O,1,O,_,O,hb (),O,_,O,bL (do[A9,dR];2) ?_};{_,O,r,_,1,_,O,O,r1,O,1,O,_,O,hb (),_,O,.str z,kq,zs.map PyData.str,zs.map V.str,do[Bc];.str z,O,.inl (az.of ((s06.trans k) _ _ ek)),Dp _,t4,fO λx hx=>?_,qx _,_,O,bL (do[A1];decide_eq_false t3) {_,_,O,k}};{w,hw,rfl}:=qc.mp hx;hzo w hw;(σ,Z,{w3,w4,rfl,sZ});kk Z (s06.trans sZ)
def D7(T:Txt K mg tk)(F:FO K mg "stretch" uE)(a:Am P w K mg base):sN P w K mg base:=do aO F J_ (r_ λ_ _ _=>rfl) {} λfa i A outer s H vs Q E f h=>?_;{_,(ax (sn J_.nd 3 (cl a f (a2 (vv 0) (vv 1)))) (aF (aR (a_ (a2 (vv 3) (cb (P5 rfl) T.tu boot_max (a2 (vv 3) (cl a f (a2 (vv 0) (vv 2)))))))))),?_};{dq,kvs,S,js,r,j,b,e,rfl,c,d,n,o,p,m,t}:=h;{_,O,_,O,dq,kvs,S,js,r,b,O,c,d,n,o,?_};{_,O,_,O,_,O,_,O,dq,kvs,S,js,j,e,O,c,d,p,m,_,_,O,aG rfl,λq H' g s k=>t H' q s ?_};[k];by congr 5;split <;> omega
def Er(T:Txt K mg tk)(F:FO K mg "reaching_main" uG)(gfBw:tK P w K mg base):vi P w K mg base:=do aO F qX (nN λ_=>rfl) {} λfa cdv A outer s H vs Q E I h=>?_;{_,(ax (sn qX.nd 1 (Kp (cQ I) (Fk (v:=.ref cx) rfl T.cx rfl) cw)) (ax (fo (Hi (vv 0)) (gn qX.nd 2) (ax (sn qX.nd 3 (cl gfBw I (ac (vv 0) (a2 (vv 2) (vv 1))))) (ax (sn qX.nd 4 (bm PySem.F.plainAttrs_dict PySem.F.slot_dict_get PySem.F.type_dict_get (kR (cQ I)) (vv 1) (a2 (xi (vv 3) (eB iY aD)) cw))) (aF (fo (il (vv 3)) (gn qX.nd 5) (aF (jZ (cQ I) (vv 1) (vv 5) (vv 4) rfl))))))) (aF (aR (vv 1))))),?_};{oa,ko,ys,rfl,hoa,S,W,ma,kk}:=h;B:=W.cD;(d,H1,g1,s1,e1);ma1:=s1 _ _ ma;{e1,.tup aN,{_,O,ma1},?_};s2:ag H (upd H1 d (.dG [(.tup aN,.ref cx,.bl true)])):=s1.wr g1;e2:(upd H1 d (.dG [(.tup aN,.ref cx,.bl true)])) d=!(.dG [(.tup aN,.ref cx,.bl true)]):=aE;(by generalize upd H1 d (.dG [(.tup aN,.ref cx,.bl true)])=H2 at s2 e2);L:=Rd.same hoa s2;(by dsimp only[cP,lN]);Jr ?_;{_,O,oa,ko,O,Ni L λo Y hY fY eY=>?_};tY:aj H2 Y:=λb us e=>hY b _ (λz=>do !z;by rcases L with q|⟨o',q⟩ <;> rw[q]at e <;> cases e) e;D:d≠oa:=λz=>(by rw[z]at g1;rcases hoa with q|⟨o',q⟩ <;> rw[g1]at q <;> cases q);N:=hY d _ D e2;U:=s2.af.trans tY;aY:=S.imp λe x q=>q.imp (R':=iu Y) U λr=>r.af U;rm0:RN Y ys _ [((.tup aN,.ref cx,.bl true):KD×V×V)]:=RN.one {_,O,U _ _ ma};iE (λj σ X=>AF λ(f:List Key->Option Bool) (kr:List 67) (u2:Option V) (u3:Option V) (u4:Option V) (u5:Option V)=>m_ (σ=[!(.ref oa),! (.ref d),u2,u3,u4,u5]) (ag (del Y d) X) (X d=!(.dG kr)) (RN X ys f kr) (s_ ys j f) (∀i x,i<j->ys[i]?=!x->f x.pt≠none)) {_,_,none,none,none,none,O,(λb u e=>mR _ _ e),N,rm0,.z,λi x z=>absurd z (yg i)} (λj σ X ⟨_,_,_,_,_,_,_,s,_,_,_,_⟩=>s _ _ (do[bX D.symm];eY)) ?_ ?_;(j,e,σ,X,hx,{f,kr,u2,u3,u4,u5,rfl,sX,eX,rm,rcr,m},Nx,hNx);hkl:=rm.cD B;tX:aj Y X:=rM N (λys z=>nomatch z) sX;{r,I,p1,p2,p3}:=aY.at hx;hjl:j<ys.length:=(qp.mp I).1;hrm:=qk I;aX:=aY.imp λe x q=>q.imp (R':=iu X) tX λr=>r.af tX;eoX:X oa=!(.dA o (.dG ko)):=sX _ _ (do[bX D.symm];eY);{_,O,_,O,_,O,oa,e.2.1,d,ko,ys,kr,λk=>f k≠none,r.pt,λk=>k∈nodes ys,O,.inr {o,eoX},aX,W.nd,λx hx=>(W.pt x hx).ne,B,.inl eX,rm.sn,hH (W.pt r hrm).ne (p2.af tX),Qs hrm,λk o h=>NI h,λZ wa ws ini las sz gwa R aws wo hil hpns=>?_};{us,v,rfl,aus,hv}:=wW aws;hul:us.length=ini.length:=aus.1;p:=sz _ _ eX;nwr:wa≠d:=(a9 eX gwa).symm;{_,O,.inr (.inr (.inl {O,.inr (.inr {kr,p})})),_,O,1,O,wa,_,-1,v,O,O,az.of R,lj us v,d,kr,nd las,v,.bl false,O,O,p,hv,?_};hc:(vG kr (nd las)).getD (.bl false)=.bl ((f las).getD false):=(by rw[rm.at_ las];cases f las <;> rfl);[hc];{c,hcd}:∃c,c=(f las).getD false:={_,O};[<-hcd];swX:ag (del Y d) Z:=sX.trans sz;{_,O,wa,O,{_,az.of R},bN (xs:=us++[v]) (λi σ C=>vC λ(M:List Key->Option Bool) (g:List 67) (u5:Option V)=>m_ (σ=[!(.ref oa),! (.ref d),!e.2.1,!(.ref wa),!(.bl c),u5]) (ag (del Y d) C) (C d=!(.dG g)) (C wa=!(.lst (us++[v]))) (aj Z C) (RN C ys M g/\∀k,M k=if vO ((ini++[las]).take i) k=true then some c else f k)) {f,kr,u5,O,swX,p,R,aj.refl _,rm.af sz.af,λk=>(qB qo).symm} (λi σ C _ ⟨_,_,_,_,_,_,e,_,_⟩=>az.of e) ?_ ?_};(i,x,σ,C,n,{M,g,u5',rfl,s5,J,ew5,t5,G,t},Nx,hNx);{k,hk,gx}:=aws.at n;hkm:=qk hk;{_,O,_,O,_,O,d,g,nd k,O,J,GK.af gx t5,j2 (do this:=G.cD B;()),?_};t6:aj C (upd C d (.dG (pG g (nd k) x (.bl c)))):=aj.wd J;rm6:=(G.put c (hpns k hkm) (GK.af gx t5)).af t6;hNx _ _ {λa=>if a=k then some c else M a,_,_,O,s5.wr d6,aE,do[aB nwr];ew5,t5.trans t6,rm6,λa=>?_};¬(if a=k then some c else M a)=_;[qu,hk,t a];z<|a=k;[qF z,qF (HW.mpr (do[z];0))];[qB z];e:vO ((ini++[las]).take i++[k]) a=vO ((ini++[las]).take i) a:=(do@vO;[List.any_append,show[k].any (λx=>decide (x=a))=false by rw[gh,List.any_nil,decide_eq_false (Ne.symm z)];rfl,Bool.or_false]);(congrArg (λb:Bool=>if b=true then some c else f a) e).symm;(σ,C,{M,g,u5',rfl,s5,J,ew5,t5,G,t});hwl:(us++[v]).length=(ini++[las]).length:=aws.1;t<-[hwl,q0,hcd];hNx _ _ {M,g,_,_,_,_,O,s5,J,G,(funext t:M=λk=>if vO (ini++[las]) k=true then some ((f las).getD false) else f k)▸rcr.s I wo,λi x hi n=>?_};[t];y<|vO (ini++[las]) x.pt=true;[qF y];λz=>nomatch z;[qB y];z<|i<j;m i x z n;this:i=j:=();!this;n<-[I];-n;absurd (HW.mpr (tz wo.hd)) y;(σ,X,{f,kr,u2,u3,u4,u5,rfl,sX,eX,rm,rcr,m});{_,O,kk X d kr f (λb u e=>sX _ _ ?_) (.inr {o,sX _ _ (do[bX D.symm];eY)}) g1 eX rm (S.1▸rcr) λx hx=>?_};nb:b≠oa:=λz=>(do e<-[z,d6];-e);e<-[bX nb];[bX (λz=>do e<-[z,g1];-e)];hY b u nb (s2 _ _ e);{i,hi,ei}:=zv.mp hx;m i x (do[S.1];hi) (do[qe hi,ei])
def E9(T:Txt K mg tk)(F:FO K mg "_law_parts" pE)(f:gE P w K mg base):yF P w K mg base:=do aO F fQ (r_ λ_ _ _=>rfl) {} λfa cdv A outer s H vs Q E hr h=>?_;hu1:(A.deeper (envOfC "_law_parts" (ah pE) ↑s fa cdv)).units+1<cLine:=cY hr;{_,(ax (sn fQ.nd 3 (bT (a1 (a_ (a2 aM aD))))) (ax (sn fQ.nd 4 (ce cR (cl f hr (a2 (vv 0) aD)) aD)) (ax (fo (jY (do 2) T.c9 (a1 (xa (bT (a2 (cl f hr (a2 (vv 0) aD)) (aJ cU aD (cl f hr (a2 (vv 0) aD))))) (cy LK T.zU boot_int (a1 (vv 4)))))) (gn fQ.nd 5) (ax (sn fQ.nd 6 (a_ (a2 (xa (vv 2) (cl f hr (a2 (vv 0) (cb de T.bS boot_len (a1 (vv 2)))))) (aJ cU aD (vv 5))))) (ax (sn fQ.nd 7 (xa (vv 3) (cl f hr (a2 (vv 0) (cb de T.bS boot_len (a1 (vv 3))))))) (pQ (bC (sR (PW.pt (iP (eJ (vv 4)) (iI (ck eh (cl f hr (a2 (vv 0) aD)) aD))))) (aF (sn fQ.nd 7 (a_ (a2 aM aD)))) cg) (ax (ap (c6 hu1 (vv 1) aM (λ_ _=>rfl)) (a1 (a_ (a2 (vv 6) (vv 7))))) (ax (sn fQ.nd 8 (ce eh (cl f hr (a2 (vv 0) aD)) aD)) (pQ (bC (eJ (vv 8)) (aF (ap (c6 hu1 (vv 1) aM (λ_ _=>rfl)) (a1 (a_ (ac (vv 6) (ac (vv 7) (a2 (vv 6) (a_ (a2 (vv 5) aD))))))))) cg) (pQ (bC (sR (PW.pt (iP (eJ (vv 8)) (iI (ck cR (cl f hr (a2 (vv 0) aD)) aD))))) (ax (sn fQ.nd 7 (xa (vv 3) (cl f hr (a2 (vv 0) (cb de T.bS boot_len (a1 (vv 3))))))) (aF (ap (c6 hu1 (vv 1) aM (λ_ _=>rfl)) (a1 (a_ (ac (vv 6) (ac (vv 7) (a2 (a_ (a2 (xl (vv 2)) (aJ cU aD (vv 5)))) (a_ (a2 (aJ cU (vv 5) aD) aD)))))))))) cg) (pQ (bC (ck cR (cl f hr (a2 (vv 0) aD)) aD) (aF (ap (c6 hu1 (vv 1) aM (λ_ _=>rfl)) (a1 (a_ (a2 (vv 6) (a_ (a2 (xl (vv 2)) (aJ cU aD (vv 5))))))))) cg) (aF (ap (vv 3) (a1 (vv 6))))))))))))) (ax (mX (i:=9) fQ.nd rfl (Or.inl rfl) (own:=["_law_row"]) (fr:=[]) rfl (il (c6 hu1 (vv 1) aM (λ_ _=>rfl))) {O,∅,∅} (fB ∅) (λ_ _ _=>(cj (i:=0) (do¬List.Nodup (["_law_row"]:List Tp);by decide +kernel) rfl (Or.inl rfl))) (λ_=>jS rfl) (λ_ _ _=>dF) (λ_ _ _=>(xt (vv 0)))) (ax (fo (jY (do 2) T.c9 (a1 (cl f hr (a2 (vv 0) aD)))) (gn fQ.nd 5) (aF (bC (ck (pT hr) (vv 9) (bT dj)) (ax (sn fQ.nd 6 (xa (vv 9) (cl f hr (a2 (vv 0) (cb de T.bS boot_len (a1 (vv 9))))))) (ax (sn fQ.nd 7 (xa (vv 3) (cl f hr (a2 (vv 0) (cb de T.bS boot_len (a1 (vv 3))))))) (aF (ap (c6 hu1 (vv 1) aM (λ_ _=>rfl)) (a1 (a_ (ac (vv 6) (ac (vv 7) (a2 (a_ (a2 (xl (vv 2)) (aJ cU aD (vv 5)))) (a_ (a2 (aJ cU aD (aJ jX (vv 5) aD)) (aJ eN (vv 5) aD)))))))))))) cg))) (aF (aR (vv 3)))))))),?_};{d,fa,r,F,rfl,dw,dk,e0,e1,e2,er,rd,fd,hi,kk}:=h;nF:∀i,i<9->∀j,j<9->i≠j->F i≠F j:=λi a j b n e=>n (hi i a j b e);{aG rfl,λtq H1 g1 C h1=>{aG rfl,λkq H2 g2 s2 h2=>?_}};kf:∀{b:To} {o:HO},H b=!o->kq≠b:=λe z=>(do g2<-[z,C _ _ e];-g2);a:Gp d F kq:={let⟨_,_,e⟩:=dw;kf e,λi hi'=>do this:i=0\/i=1\/i=2:=();rfl||rfl||rfl:=this;kf e0;kf e1;kf e2,λi hi'=>(fd i ()).1,λi h1 j h2 n=>nF i () j () n};fk:H kq=none:=C.free g2;s12:=C.trans s2;B2:PB H H2 d F kq [.ref tq] [] [] [] [] []:={Rest.refl.same s12,dw.same s12,h2,λj v e=>do hj:=(qp.mp e).1;this:j=0:=(do 0<|hj);!this;-e;{"",{tq,O,s2 _ _ h1},.inl rfl},s12 _ _ e0,s12 _ _ e1,s12 _ _ e2,{(λv z=>nomatch z),.nil,.nil,(λr z=>nomatch z),.nil,qx _,qx _,qx _}};P2:gV H2 [.ref tq] [] []:={λv hv=>do[qt.mp hv];{aN,{tq,O,s2 _ _ h1},.inl rfl,.inl rfl},(λj v e=>nomatch e),λr z=>nomatch z};nfa:fa≠d:=λz=>(do _;{_,_,e}:=dw;e<-[<-z,dk];-e);nff:∀i,i<3->fa≠F i:=λi hi' z=>(do this:i=0\/i=1\/i=2:=();rfl||rfl||rfl:=this;e0<-[<-z,dk];-e0;e1<-[<-z,dk];-e1;e2<-[<-z,dk];-e2);rf:∀i,i<3->r≠F i:=λi h=>(fd i ()).2;{_,O,d,8,O,B2.dw,⋯,⋯,λi1 H3 y w3 a3 b3=>{O,?_}};N:=B2.draw a y w3;(by generalize decide (V.int i1=V.int 7)=wd);{_,O,d,7,O,N.dw,⋯,⋯,λi2 H4 I w4 a4 b4=>{_,O,d,5,O,w4,⋯,⋯,λi3 H5 L w5 a5 b5=>{_,_,O,O,aG rfl,λlq H6 g6 s6 e6=>?_}}};B6:=((N.draw a I w4).draw a L w5).same s6;P6:=(((P2.af (B2.dw.af y)).af (N.dw.af I)).af ((N.draw a I w4).dw.af L)).af s6.af;ixw:((if wd=true then 1 else 0:Int))<2:=(by cases wd <;> decide);{_,O,.inr {wd,O,lq,_,_,O,O,az.of e6,by cases wd <;> decide,ixw,λv hv=>?_}};{c,rfl,c0,c1}:∃c:Int,v=.int c/\0<=c/\c<=14:=(do(by ac_nf at hv);rfl||rfl:=hv;⟨_,O,a4,()⟩;⟨_,O,(),()⟩);⟨c,O,(),(),bY (lo:=0) (n:=c.toNat) (λj σ Z=>AD λkn bs es cs rs cu u5 u6=>uA λu7 u8=>m_ (σ=[! (.ref d),! (.ref fa),!(.ref r),!(.ref kq),!(.bl wd),u5,u6,u7,u8,none]) (PB H Z d F kq kn bs es cs rs cu) (kn.length=j+1) (bs.length=j/\gV Z kn bs rs) (es.length<=2 * j) (cs.length<=j/\∀x∈rs,bO x.ka x.kb (j:Int) 1)) ⟨_,_,_,_,_,_,_,_,_,_,O,B6,O,⟨O,P6⟩,qb _,qb _,λx z=>nomatch z⟩ ?_ ?_⟩;(j,σ,Z,hj,{kn,bs,es,cs,rs,cu,u5,u6,u7,u8,rfl,B,hk,{hb,P},he,hc,hx},Nx,q);erZ:=B.out er rd rf;{_,O,_,O,_,O,r,_,O,.inl (az.of erZ),d,_,O,B.dw,by show(0:Int)<2;decide,by show(2:Int)<1000;decide,λi1 Z1 C w1 x1 y1=>{r,_,i1,O,O,az.of (DP.to C erZ rd),x1,y1,λvw hvw=>?_}};{w,rfl}:∃w,vw=.str w:=(by have:=hvw;ac_nf at this;rcases this with h|h <;> exact{_,h});{_,O,_,_,O,O,aG rfl,λG Z2 g2 s2 e2=>?_};ej:(1+(0+(j:Int)))=((kn.length:Nat):Int):=(do[hk];());e2<-[ej];np:Nm [.inr w,.inl ((kn.length:Nat):Int)]:=zM hvw;B2:=(B.draw a C w1).same s2;P2:=(P.af (B.dw.af C)).af s2.af;{_,O,_,O,_,O,kq,_,O,.inl (az.of B2.ek),d,_,O,B2.dw,(),(),λi2 Z3 y w3 x2 y2=>{kq,kn,i2,O,O,az.of (B2.draw a y w3).ek,x2,y2,λvo hvo=>?_}};N:=B2.draw a y w3;ep3:Z3 G=! (.tup [.str w,.int ((kn.length:Nat):Int)]):=B2.dw.af y _ _ e2;P3:=P2.af (B2.dw.af y);no3:NC Z3 bs vo:=P3.kk vo hvo;rY (λσ' Z'=>∃vo',gF (σ'=[! (.ref d),! (.ref fa),!(.ref r),!(.ref kq),!(.bl wd),!(.int (0+(j:Int))),!(.ref G),!vo',u8,none]) (PB H Z' d F kq kn bs es cs rs cu) (Z' G=! (.tup [.str w,.int ((kn.length:Nat):Int)])) (NC Z' bs vo'/\gV Z' kn bs rs)) (λNx q=>?_) ?_;o_ (λb Z'=>PB H Z' d F kq kn bs es cs rs cu/\Z' G=! (.tup [.str w,.int ((kn.length:Nat):Int)])/\NC Z' bs vo/\gV Z' kn bs rs) (λNb hNb=>{_,O,wd,O,?_}) ?_;(by cases wd with|false|true=>?_);bL rfl (hNb _ _ {N,ep3,no3,P3});cf rfl {_,O,d,8,O,N.dw,⋯,⋯,λi Z4 I w4 _ _=>{_,_,O,O,_,O,hNb _ _ {N.draw a I w4,N.dw.af I _ _ ep3,no3.af (N.dw.af I),P3.af (N.dw.af I)}}};(b,Z',{B',ep,no,P'});(by cases b with|false|true=>?_);bL rfl (q _ _ {vo,O,B',ep,no,P'});cf rfl {aG rfl,λmq Z5 g s e=>(q _ _ {.ref mq,O,B'.same s,s _ _ ep,{aN,{mq,O,e},.inl rfl,.inl rfl},P'.af s.af})};(σ',Z',{vo',rfl,B',ep,no,P'});{_,O,fa,.ref (F 0),O,.inl {du F 9,.inr "births",.inl (B'.out dk nfa nff),O,(dh F 0 ⋯).symm},.inl {O,_,az.of B'.eb},_,O,_,O,aG rfl,λJ Z6 g6 s6 e6=>{F 0,bs,_,O,O,(B'.same s6).eb,cC (),?_}};B6':=B'.same s6;{po,go,hpo,kY}:=no.af s6.af;hbk:bs.length+1=kn.length:=();ep6:=s6 _ _ ep;B7:=B6'.ui a (v:=.ref J) {J,_,_,[.inr w,.inl ((kn.length:Nat):Int)],po,O,e6,{G,O,ep6},np,go,hpo} ();t7:aj Z6 (upd Z6 (F 0) (.lst (bs++[.ref J]))):=aj.wl B6'.eb;ep7:=t7 _ _ ep6;P7:=((P'.af s6.af).ui (v:=.ref J) {J,_,_,w,po,O,e6,do[hbk];{G,O,ep6},do[hbk];np,go,hpo,kY}).af t7;cl7:Cl (upd Z6 (F 0) (.lst (bs++[.ref J]))) (bs++[.ref J]) [.inr w,.inl ((kn.length:Nat):Int)]:=Cl.af (.inr {J,_,_,do 0,e6,{G,O,ep6}}) t7;go7:=go.af t7;(by generalize upd Z6 (F 0) (.lst (bs++[.ref J]))=Z7 at B7 ep7 go7 P7 cl7);{_,O,d,9,O,B7.dw,⋯,⋯,λi4 Z8 s8 w8 _ _=>{_,_,O,O,?_}};B8:=B7.draw a s8 w8;t8:=B7.dw.af s8;ep8:=t8 _ _ ep7;go8:=go7.af t8;P8:=P7.af t8;cl8:=cl7.af t8;(by generalize decide ((0:Int)<i4)=ct);lw:∀x∈rs,bO x.ka x.kb ((j:Int)+1) 0:=λx h=>(by have:=hx x h;unfold bO at this ⊢;omega);gpt:∀{W:Hp},W G=! (.tup [.str w,.int ((kn.length:Nat):Int)])->GK W (.tup [.inr w,.inl ((kn.length:Nat):Int)]) (.ref G):=λe=>{G,O,e};rY (λσ' Z'=>uA λX M=>gF (σ'=[! (.ref d),! (.ref fa),!(.ref r),!(.ref kq),!(.bl wd),!(.int (0+(j:Int))),!(.ref G),!vo',!(.bl ct),none]) (PB H Z' d F kq kn (bs++[.ref J]) X cs M cu) (Z' G=! (.tup [.str w,.int ((kn.length:Nat):Int)])) ((gV Z' kn (bs++[.ref J]) M/\Cl Z' (bs++[.ref J]) [.inr w,.inl ((kn.length:Nat):Int)])/\X.length<=2 * j+1/\∀x∈M,bO x.ka x.kb ((j:Int)+1) 0)) (λNx q=>{_,O,ct,O,?_}) ?_;(by cases ct with|false|true=>?_);bL rfl (q _ _ {es,rs,O,B8,ep8,{P8,cl8},(),lw});cf rfl {_,O,fa,.ref (F 1),O,.inl {du F 9,.inr "places",.inl (B8.out dk nfa nff),O,(dh F 1 ⋯).symm},.inl {O,_,az.of B8.ev},_,O,_,O,_,O,_,O,aG rfl,λcq Z9 g9 s9 e9=>{aG rfl,λt Z10 g10 s10 e10=>{F 1,es,_,O,O,((B8.same s9).same s10).ev,cC (),?_}}};S:=(B8.same s9).same s10;Y:=s9.trans s10;U:=Y _ _ ep8;t11:aj Z10 (upd Z10 (F 1) (.lst (es++[.ref t]))):=aj.wl S.ev;q _ _ {es++[.ref t],rs++[{[.inr w,.inl ((kn.length:Nat):Int)],po,[.inr w,.inl ((kn.length:Nat):Int)],0+(j:Int),1}],O,S.place a {t,.ref G,vo',.ref G,cq,O,e10,gpt U,go8.af Y.af,gpt U,s10 _ _ e9} {np,hpo,np} (λx h=>do this:=hx x h;¬bO x.ka x.kb (0+(j:Int)) 1;(by unfold bO at this ⊢);()) (),t11 _ _ U,{((P8.af Y.af).place (cl8.af Y.af)).af t11,(cl8.af Y.af).af t11},do[qg,qr];(),λx h=>?_};h||h:=zg.mp h;lw x h;[qt.mp h];¬bO (0+(j:Int)) 1 ((j:Int)+1) 0;@bO;();(σ',Z9,{X,M,rfl,B9,ep9,{P9,cl9},he9,hx9});lw9:∀x∈M,bO x.ka x.kb ((j:Int)+1) 1:=λx h=>(by have:=hx9 x h;unfold bO at this ⊢;omega);rY (λσ' Z'=>vC λes2 rs2 u7'=>gF (σ'=[! (.ref d),! (.ref fa),!(.ref r),!(.ref kq),!(.bl wd),!(.int (0+(j:Int))),!(.ref G),u7',!(.bl ct),none]) (PB H Z' d F kq kn (bs++[.ref J]) es2 cs rs2 cu) (Z' G=! (.tup [.str w,.int ((kn.length:Nat):Int)])) ((gV Z' kn (bs++[.ref J]) rs2/\Cl Z' (bs++[.ref J]) [.inr w,.inl ((kn.length:Nat):Int)])/\es2.length<=2 * j+2/\∀x∈rs2,bO x.ka x.kb ((j:Int)+1) 1)) (λNx q=>?_) ?_;o_ (λb Z'=>PB H Z' d F kq kn (bs++[.ref J]) X cs M cu/\Z' G=! (.tup [.str w,.int ((kn.length:Nat):Int)])/\gV Z' kn (bs++[.ref J]) M/\Cl Z' (bs++[.ref J]) [.inr w,.inl ((kn.length:Nat):Int)]) (λNb hNb=>{_,O,ct,O,?_}) ?_;(by cases ct with|false|true=>?_);bL rfl (hNb _ _ {B9,ep9,P9,cl9});cf rfl {_,O,d,3,O,B9.dw,⋯,⋯,λi Z4 I w4 _ _=>{O,_,O,hNb _ _ {B9.draw a I w4,B9.dw.af I _ _ ep9,P9.af (B9.dw.af I),cl9.af (B9.dw.af I)}}};(b,Z',{B',ep,P',cl'});(by cases b with|false|true=>?_);bL rfl (q _ _ {X,M,_,O,B',ep,{P',cl'},(),lw9});cf rfl {_,O,_,O,_,O,kq,_,O,.inl (az.of B'.ek),d,_,O,B'.dw,(),(),λi Z1 C w1 x1 y1=>{kq,kn,i,O,O,az.of (B'.draw a C w1).ek,x1,y1,λvo2 hvo2=>?_}};D:=B'.draw a C w1;ep1:=B'.dw.af C _ _ ep;P1:=P'.af (B'.dw.af C);cl1:=cl'.af (B'.dw.af C);{p2,gp2,hp2}:=D.vJ.np hvo2;er1:=D.out er rd rf;{_,O,fa,.ref (F 1),O,.inl {du F 9,.inr "places",.inl (D.out dk nfa nff),O,(dh F 1 ⋯).symm},.inl {O,_,az.of D.ev},_,O,_,O,_,O,r,_,0,_,O,O,az.of er1,O,_,O,_,_,O,O,aG rfl,λmq Z3 g3 y e3=>{_,O,_,_,O,O,aG rfl,λcq Z4 g4 I e4=>{aG rfl,λt Z5 g5 L e5=>{F 1,X,_,O,O,(((D.same y).same I).same L).ev,cC (),?_}}}};B5:=((D.same y).same I).same L;s15:=(y.trans I).trans L;ep5:=s15 _ _ ep1;t6:aj Z5 (upd Z5 (F 1) (.lst (X++[.ref t]))):=aj.wl B5.ev;q _ _ {X++[.ref t],M++[{[.inr w,.inl ((kn.length:Nat):Int)],p2,[.inr "ann",.inl (20+(0+(j:Int)))],0+(j:Int)+1,0}],_,O,B5.place (r:={[.inr w,.inl ((kn.length:Nat):Int)],p2,[.inr "ann",.inl (20+(0+(j:Int)))],0+(j:Int)+1,0}) a {t,.ref G,vo2,.ref mq,cq,O,e5,gpt ep5,gp2.af s15.af,{mq,O,(I.trans L) _ _ e3},L _ _ e4} {np,hp2,zM (do 0)} (λx h=>do this:=hx9 x h;¬bO x.ka x.kb (0+(j:Int)+1) 0;(by unfold bO at this ⊢);()) (),t6 _ _ ep5,{((P1.af s15.af).place (cl1.af s15.af)).af t6,(cl1.af s15.af).af t6},do[List.length_append,List.length_singleton];(),λx h=>?_};h||h:=zg.mp h;lw9 x h;[qt.mp h];¬bO (0+(j:Int)+1) 0 ((j:Int)+1) 1;@bO;();(σ',Z10,{es2,rs2,u7',rfl,S,U,{P10,cl10},he10,hx10});rY (λσ' Z'=>uA λcs' cu'=>gF (σ'=[! (.ref d),! (.ref fa),!(.ref r),!(.ref kq),!(.bl wd),!(.int (0+(j:Int))),!(.ref G),u7',!(.bl ct),none]) (PB H Z' d F kq kn (bs++[.ref J]) es2 cs' rs2 cu') (Z' G=! (.tup [.str w,.int ((kn.length:Nat):Int)])) ((gV Z' kn (bs++[.ref J]) rs2/\Cl Z' (bs++[.ref J]) [.inr w,.inl ((kn.length:Nat):Int)])/\cs'.length<=j+1)) (λNx q=>?_) ?_;{_,O,d,8,O,S.dw,⋯,⋯,λi Z1 C w1 _ _=>{O,_,O,?_}};D:=S.draw a C w1;ep1:=S.dw.af C _ _ U;P1:=P10.af (S.dw.af C);cl1:=cl10.af (S.dw.af C);hz<|i=0;er1:=D.out er rd rf;cf (qH (do[hz])) {_,O,fa,.ref (F 2),O,.inl {du F 9,.inr "cuts",.inl (D.out dk nfa nff),O,(dh F 2 ⋯).symm},.inl {O,_,az.of D.ec},_,O,_,O,r,_,1,_,O,O,az.of er1,O,_,O,_,_,O,O,aG rfl,λmq Z3 g3 y e3=>{aG rfl,λt Z5 g5 L e5=>{F 2,cs,_,O,O,((D.same y).same L).ec,cC (),?_}}};B5:=(D.same y).same L;ep5:=(y.trans L) _ _ ep1;t6:aj Z5 (upd Z5 (F 2) (.lst (cs++[.ref t]))):=aj.wl B5.ec;q _ _ {cs++[.ref t],cu++[[.inr w,.inl ((kn.length:Nat):Int)]],O,B5.cut a {t,.ref G,.ref mq,[.inr "bo",.inl (30+(0+(j:Int)))],O,e5,gpt ep5,.inr np,{mq,O,L _ _ e3},zM (do 0)} (),t6 _ _ ep5,{(P1.af (y.trans L).af).af t6,(cl1.af (y.trans L).af).af t6},do[List.length_append,List.length_singleton];()};bL (decide_eq_false λz=>hz (by injection z)) (q _ _ {cs,cu,O,D,ep1,{P1,cl1},()});(σ',Z11,{cs',cu',rfl,B11,ep11,{P11,cl11},hc11});{_,O,.inl {O,_,az.of B11.ek},_,O,kq,kn,_,O,O,B11.ek,cC (),?_};q _ _ {kn++[.ref G],_,_,_,_,_,_,_,_,_,O,B11.Dl a fk (gpt ep11) (.inr np),do[qg,hk];2,{do[qg,hb];2,(P11.Dl (v:=.ref G) {_,gpt ep11,.inr np,cl11}).af (aj.wl B11.ek)},(),(),λx h=>do this:=hx10 x h;¬bO x.ka x.kb ((j+1:Nat):Int) 1;(by unfold bO at this ⊢);()};(σ,Z,{kn,bs,es,cs,rs,cu,u5,u6,u7,u8,rfl,B,hk,{hb,P},he,hc,hx});hcn:c.toNat<=14:=();{_,O,fa,.ref (F 1),O,.inl {du F 9,.inr "places",.inl (B.out dk nfa nff),O,(dh F 1 ⋯).symm},F 1,O,{_,az.of B.ev},cI (xs:=es) (jH ()) (λj us Z'=>Z'=Z/\us.length<=j/\∀u∈us,∃p,GK Z (.tup p) u/\Nm p/\Cl Z bs p) {O,qb _,λu z=>nomatch z} (λ_ _ Z' s'=>do[s'.1];az.of B.ev) (λj x us Z' K1 K0 hx' s' k1 k0=>?_) λZ1 lq us s' hu R=>?_};{rfl,ul,ru}:=s';{r',er',pc}:=B.fi.pc.at hx';hw:=(B.fi.w r' (qk er')).pt;hw2:=P.rr r' (qk er');{b,vp,vo,vn,kq',rfl,h1,h2,h3,h4,h5}:=pc;dJ (B:=K0 Z') ?_;{_,O,b,_,0,_,O,O,aQ.of h1,O,k1 _ _ {O,do[qg];nw ul 1,λu hu=>?_}};hu||hu:=zg.mp hu;ru u hu;[qt.mp hu];{_,h2,hw,hw2};{rfl,ul,ru}:=s';n1:ag Z1 (upd Z1 lq (.lst us)):=ag.new R;D:=B.same n1;e1:(upd Z1 lq (.lst us)) lq=! (.lst us):=aE;ru1:∀u∈us,∃p,GK (upd Z1 lq (.lst us)) (.tup p) u/\Nm p/\Cl (upd Z1 lq (.lst us)) bs p:=λu h=>let⟨p,g,n,c⟩:=ru u h;{p,g.af n1.af,n,c.af n1.af};P1:=P.af n1.af;nl:lq≠d:=B.dw.ne R;nlf:∀{i},i<3->lq≠F i:=λ{i} h z=>(do this:i=0\/i=1\/i=2:=();rfl||rfl||rfl:=this;R<-[z,B.eb];-R;R<-[z,B.ev];-R;R<-[z,B.ec];-R);¬lN _ _ _ _ (upd Z1 lq (.lst us));(by generalize upd Z1 lq (.lst us)=Z2 at D e1 ru1 P1);{_,O,d,4,O,D.dw,⋯,⋯,λm Z3 y w3 m0 m1=>?_};{m,O,(),(),bY (lo:=0) (n:=m.toNat) (λj σ W=>Gn λes rs u5 u6=>∃u7,m_ (σ=[! (.ref d),! (.ref fa),!(.ref r),!(.ref kq),!(.bl wd),u5,u6,u7,u8,!(.ref lq)]) (PB H W d F kq kn bs es cs rs cu) (W lq=! (.lst us)) (∀u∈us,∃p,GK W (.tup p) u/\Nm p/\Cl W bs p) (gV W kn bs rs/\es.length<=28+j) (∀x∈rs,bO x.ka x.kb (20+(j:Int) / 2) ((j:Int) % 2))) {es,rs,_,_,_,O,D.draw a y w3,DP.to y e1 nl,λu h=>let⟨p,g,n,c⟩:=ru1 u h;{p,g.af (D.dw.af y),n,c.af (D.dw.af y)},{P1.af (D.dw.af y),()},λx h=>by have:=hx x h;unfold bO at this ⊢;omega} ?_ ?_};(j,σ,W,hj,{es,rs,u5,u6,u7,rfl,B,el,ru,{P,he},hx},Nx,q);{ps,pa}:∃ps:List (List Key),AL (λu p=>GK W (.tup p) u/\Nm p/\Cl W bs p) us ps:=let⟨ps,h1,h2⟩:=xN ru;{ps,h1.symm,h2};pd:dE W us (ps.map tD):=AL.oH (λv p g=>bE g.1) pa;{_,O,aG rfl,λzq W1 g1 C f1=>?_};{.list (ps.map tD),.list [],.lst (az.of (C _ _ el)) (pd.same C).dv,.lst (az.of f1) .nil,?_,O,?_,_,O,?_};(uS λk hk=>do _;{_,_,_,h,_}:=pa.ri hk;.inr h).1;qf (ji _ _) ⋯;D:=B.same C;el1:=C _ _ el;ru1:∀u∈us,∃p,GK W1 (.tup p) u/\Nm p/\Cl W1 bs p:=λu h=>let⟨p,g,n,c⟩:=ru u h;{p,g.af C.af,n,c.af C.af};P1:=P.af C.af;nx:∀x∈rs,bO x.ka x.kb (20+((j+1:Nat):Int) / 2) (((j+1:Nat):Int) % 2):=λx h=>(by have:=hx x h;unfold bO at this ⊢;omega);(by cases us with|nil|cons u0 us0=>?_);this:ps=[]:=jb.mp pa.1.symm;!this;bL rfl (q _ _ {es,rs,_,_,_,O,D,el1,ru1,{P1,()},nx});{p0,ps0,rfl}:∃p0 ps0,ps=p0::ps0:=(do(by cases ps with|nil|cons p0 ps0=>?_);this:=pa.1;-this;{p0,ps0,O});cf rfl ?_;hul:((u0::us0).length:Int)<=28:=(do this:=hu;());hu0:(0:Int)<((u0::us0).length:Nat):=(do[zd];());{_,O,_,O,_,O,lq,_,O,.inl (az.of el1),d,_,O,D.dw,hu0,(),λi2 W2 s2 w2 x2 y2=>{lq,_,i2,O,O,az.of (DP.to s2 el1 nl),x2,y2,λvp hvp=>?_}};B2:=D.draw a s2 w2;{_,O,_,O,_,O,kq,_,O,.inl (az.of B2.ek),d,_,O,B2.dw,(),(),λi3 W3 y w3 x3 y3=>{kq,kn,i3,O,O,az.of (B2.draw a y w3).ek,x3,y3,λvo hvo=>?_}};N:=B2.draw a y w3;t13:=(D.dw.af s2).trans (B2.dw.af y);{p1,gp1,hp1,cp1}:=ru1 vp hvp;{p2,gp2,hp2}:=N.vJ.np hvo;er3:=N.out er rd rf;el3:=DP.to y (DP.to s2 el1 nl) nl;{_,O,fa,.ref (F 1),O,.inl {du F 9,.inr "places",.inl (N.out dk nfa nff),O,(dh F 1 ⋯).symm},.inl {O,_,az.of N.ev},_,O,_,O,_,O,r,_,0,_,O,O,az.of er3,O,_,O,_,_,O,O,aG rfl,λmq W4 g4 I e4=>{_,O,_,_,O,O,{⋯,⋯},_,_,O,O,_,O,_,_,O,O,(by show(0:Int)<2;decide),aG rfl,λcq W5 g5 L e5=>{aG rfl,λt W6 g6 s6 e6=>{F 1,es,_,O,O,(((N.same I).same L).same s6).ev,cC (),?_}}}};B6:=((N.same I).same L).same s6;s36:=(I.trans L).trans s6;t7:aj W6 (upd W6 (F 1) (.lst (es++[.ref t]))):=aj.wl B6.ev;t17:=(t13.trans s36.af).trans t7;q _ _ {es++[.ref t],rs++[{p1,p2,[.inr "ann",.inl (35+(0+(j:Int)))],20+(0+(j:Int)) / 2,(0+(j:Int)) % 2}],_,_,_,O,B6.place (r:={p1,p2,[.inr "ann",.inl (35+(0+(j:Int)))],20+(0+(j:Int)) / 2,(0+(j:Int)) % 2}) a {t,vp,vo,.ref mq,cq,O,e6,gp1.af (t13.trans s36.af),gp2.af s36.af,{mq,O,(L.trans s6) _ _ e4},s6 _ _ e5} {hp1,hp2,zM (do 0)} (λx h=>do this:=hx x h;¬bO x.ka x.kb (20+(0+(j:Int)) / 2) ((0+(j:Int)) % 2);(by unfold bO at this ⊢);()) (),do[aB (nlf ⋯)];s36 _ _ el3,λu h=>let⟨p,g,n,c⟩:=ru1 u h;{p,g.af t17,n,c.af t17},{((P1.af (t13.trans s36.af)).place (cp1.af (t13.trans s36.af))).af t7,do[List.length_append,List.length_singleton];()},λx h=>?_};h||h:=zg.mp h;nx x h;[qt.mp h];¬bO (20+(0+(j:Int)) / 2) ((0+(j:Int)) % 2) _ _;@bO;();(σ,W,{es,rs,u5,u6,u7,rfl,B,el,ru,{P,he},hx});{_,O,kk W kq kn bs es cs rs cu B.ro fk B.ek B.vJ () () B.eb B.ev B.ec B.fi P}
def FC(T:Txt K mg tk)(F:FO K mg "_law_sign" rP)(e:gE P w K mg base):Ac P w K mg base:=do aO F JQ (ik λ_ _=>rfl) {} λfa M A outer s H vs Q E n h=>?_;{_,(ax (sn JQ.nd 2 (cl e n (a2 (vv 0) aD))) (ax (bC (ck cR (vv 2) aD) (aF (aR (a_ (a2 aM (fL vM aM iS (dN (aJ cU aD (cl e n (a2 (vv 0) aD))))))))) cg) (ax (bC (ck cR (vv 2) aD) (aF (aR (a_ (a2 aM (xa (vv 1) (cl e n (a2 (vv 0) (cb de T.bS boot_len (a1 (vv 1)))))))))) cg) (aF (aR (jP DR aM (cl e n (a2 (vv 0) aD)) (λ_ _=>rfl))))))),?_};{d,l,us,rfl,C,N,nl,h0,h1,np,y}:=h;{_,O,d,8,O,C,⋯,⋯,λr H1 m o W V=>?_};{_,O,O,_,O,?_};R:=C.af m;G<|r=0;cf (qH (do[G])) ?_;{_,O,d,8,O,o,⋯,⋯,λD H2 s2 g a2 X=>?_};{k,rfl}:∃k:Nat,D=k:={D.toNat,()};{B,t}:=Fz k ();{_,_,O,O,_,O,"abcdefgh",O,aG rfl,aG rfl,λJ q S f x=>y q _ (.tuple [.str "picture",.str _]) ((ag.kE m s2).trans f) (g.same f) (.tup x (.cons (.str _) (.cons (.str _) .nil))) (.inr (.inl {_,O,t})) (J7 ∅ (tL B))};bL (decide_eq_false λz=>G (by injection z)) ?_;{_,O,O,_,O,?_};I<|r=1;cf (qH (do[I])) ?_;j:=DP.to m N nl;{_,O,_,O,_,O,l,_,O,.inl (az.of j),d,_,O,o,(),(),λi H2 s2 g a b=>{l,us,i,O,O,az.of (DP.to s2 j nl),a,b,λv L=>{aG rfl,λJ q S f x=>?_}}};{p,U,hp}:=(((np v L).af R).af (o.af s2)).af f.af;y q _ (.tuple [.str "refer",tD p]) ((ag.kE m s2).trans f) (g.same f) (.tup x (.cons (.str _) (.cons (bE U) .nil))) (.inr (.inr {p,O,hp})) (J7 ∅ (L0 hp.lay));bL (decide_eq_false λz=>I (by injection z)) ?_;{_,O,d,29,O,o,⋯,⋯,λi H2 s2 g a b=>?_};{k,rfl}:∃k:Nat,i=k:={i.toNat,()};{c,B,t}:=DH k ();{_,_,c,O,O,aG rfl,B,y H2 _ (.str {#[c]}) (ag.kE m s2) g (.str _) (.inl {_,O,do¬1<=10;by decide}) {t,O,qx 3}}
def Fn(T:Txt K mg tk)(F:FO K mg "_law_side" uX)(a:gE P w K mg base):zO P w K mg base:=do aO F Ft (ik λ_ _=>rfl) {} λfa J A outer s H vs Q E y h=>?_;{_,(aF (aR (a_ (a2 (xa (vv 1) (cl a y (a2 (vv 0) (cb de T.bS boot_len (a1 (vv 1)))))) (xa (bT (a2 aM aM)) (cl a y (a2 (vv 0) aD))))))),?_};{d,l,us,rfl,I,o,nl,h0,h1,t}:=h;{_,O,_,O,_,O,l,_,O,.inl (az.of o),d,_,O,I,(),(),λr H1 q B L C=>{l,us,r,O,O,az.of (DP.to q o nl),L,C,λv k=>?_}};{aG rfl,λz H2 D s2 M=>?_};e:z≠d:=B.ne D;{_,O,d,2,O,B.same s2,⋯,⋯,λG N x p f g=>{z,_,G,O,O,az.of (DP.to x M e),f,g,λw n=>{aG rfl,λm i R c j=>?_}}};b:ag (del H d) i:=(ag.kE q (ag.sd s2 x)).trans c;(by ac_nf at n);rfl||rfl:=n;t i m v false b (p.same c) j k;t i m v true b (p.same c) j k
def EX(T:Txt K mg tk)(F:FO K mg "_law_tables" oU)(q:gE P w K mg base):yL P w K mg base:=do aO F fP (zS λ_ _ _ _=>rfl) {} λfa cdv A outer s H vs Q E X h=>?_;hu1:(A.deeper (envOfC "_law_tables" (ah oU) ↑s fa cdv)).units+1<cLine:=cY X;{_,(aF (fo (il (fL Mh (vv 3) iS (dN aD))) (gn fP.nd 4) (ax (sn fP.nd 5 (bT dj)) (ax (sn fP.nd 6 (bT dj)) (ax (fo (jY (do 2) T.c9 (a1 (cl q X (a2 (vv 0) aD)))) (gn fP.nd 7) (ax (sn fP.nd 8 (xa (bT (a2 aM aM)) (cl q X (a2 (vv 0) aD)))) (ax (sn fP.nd 9 (a_ (a2 (xl (vv 2)) (aJ cU (aJ cU aD (aJ sH aD (bm PySem.F.plainAttrs_list PySem.F.slot_list_index PySem.F.type_list_index (MP X) (vv 3) (a1 (vv 4))))) (vv 7))))) (ax (sn fP.nd 10 (a_ (a2 (aJ cU (aJ cU aD (aJ sH aD (bm PySem.F.plainAttrs_list PySem.F.slot_list_index PySem.F.type_list_index (MP X) (vv 3) (a1 (vv 4))))) (aJ jX (vv 7) aD)) (aJ eN (vv 7) aD)))) (ax (ap (c6 hu1 (vv 1) aM (λ_ _=>rfl)) (a1 (a_ (ac (vv 4) (ac (vv 8) (ac (vv 9) (ac dH (a2 (vv 10) (ce eh (cl q X (a2 (vv 0) aD)) aD))))))))) (aF (ap (xa (bT (a2 (vv 5) (vv 6))) (cy LK T.zU boot_int (a1 (ce cR (vv 8) aM)))) (a1 (vv 9))))))))) (aF (fo (jY (do 2) T.c9 (a1 (cl q X (a2 (vv 0) aD)))) (gn fP.nd 7) (aF (bC (sR (PW.pt (iP (ck (pT X) (vv 5) (bT dj)) (iI (ck (pT X) (vv 6) (bT dj)))))) (ax (sn fP.nd 11 (xa (vv 5) (cl q X (a2 (vv 0) (cb de T.bS boot_len (a1 (vv 5))))))) (ax (sn fP.nd 12 (xa (vv 6) (cl q X (a2 (vv 0) (cb de T.bS boot_len (a1 (vv 6))))))) (ax (sn fP.nd 13 (xa (bT (ac aM (a2 aM aM))) (cl q X (a2 (vv 0) aD)))) (ax (sn fP.nd 10 (a_ (a2 (aJ cU (aJ cU aD (aJ sH aD (bm PySem.F.plainAttrs_list PySem.F.slot_list_index PySem.F.type_list_index (MP X) (vv 3) (a1 (vv 4))))) (aJ jX (vv 7) aD)) (aJ eN (vv 7) aD)))) (aF (ap (c6 hu1 (vv 1) aM (λ_ _=>rfl)) (a1 (a_ (ac (vv 4) (ac (vv 11) (ac (vv 12) (a2 (vv 13) (vv 10))))))))))))) cg))))))))),?_};{d,fa,r,kq,F,kn,rfl,dw,dk,e6,e7,er,ek,hkn,k0,k1,rd,kd',fr,n67,kk}:=h;n6:F 6≠d:=(fr 6 ⋯).1;n7:F 7≠d:=(fr 7 ⋯).1;nfd:fa≠d:=λz=>(do _;{_,_,e}:=dw;e<-[<-z,dk];-e);nf6:fa≠F 6:=λz=>(do e6<-[<-z,dk];-e6);nf7:fa≠F 7:=λz=>(do e7<-[<-z,dk];-e7);r6:r≠F 6:=(fr 6 ⋯).2.1;r7:r≠F 7:=(fr 7 ⋯).2.1;q6:kq≠F 6:=(fr 6 ⋯).2.2;q7:kq≠F 7:=(fr 7 ⋯).2.2;{_,O,3,O,kq,kn,O,az.of ek,λsq H1 g1 U e1=>?_};sd:sq≠d:=dw.ne g1;s6:sq≠F 6:=λz=>(do g1<-[z,e6];-g1);s7:sq≠F 7:=λz=>(do g1<-[z,e7];-g1);lc:(fm kn none (some 3)).length<=15:=qf (E4 _ _ _) k1;B1:UB H1 H1 d F (90+10 * ((0:Nat):Int)) (100+10 * ((0:Nat):Int)) 0 (150+10 * ((0:Nat):Int)) 0 (λ_=>⟨[],"",[],none,0,0,false⟩) 0 (λ_=>⟨[],[],[],"",0,0⟩) 0 [] []:={Rest.refl,dw.same U,U _ _ e6,.nil,{qx _,(λi j _ z=>nomatch z),(λi z=>nomatch z),(λi z=>nomatch z),(λi z=>nomatch z),(λi z=>nomatch z)},(λi z=>nomatch z),(λi z=>nomatch z),(λi z=>nomatch z),U _ _ e7,.nil,{qx _,(λi j _ z=>nomatch z),(λi z=>nomatch z),(λi z=>nomatch z)},(λi z=>nomatch z)};{sq,O,{_,az.of e1},bN (xs:=fm kn none (some 3)) (λj σ Z=>AD λL l C c ls cs u4 u5=>AD λu6 u7 u8 u9 g t D I=>m_ (σ=[! (.ref d),! (.ref fa),!(.ref r),!(.ref kq),u4,u5,u6,u7,u8,u9,g,t,D,I]) (UB H1 Z d F (90+10 * (j:Int)) (100+10 * (j:Int)) 0 (150+10 * (j:Int)) 0 L l C c ls cs) (l<=5 * j) (c<=4 * j) (ls.length=l) (cs.length=c)) {_,_,_,_,_,_,_,_,_,_,_,_,_,_,_,_,O,B1,qb _,qb _,O,O} ?_ ?_ ?_};(by rintro j σ Z - ⟨L,l,C,c,ls,cs,u4,u5,u6,u7,u8,u9,g,t,D,I,rfl,B,-⟩);az.of (B.out e1 sd s6 s7);(j,vp,σ,Z,hx,{L,l,C,c,ls,cs,u4,u5,u6,u7,u8,u9,g,t,D,I,rfl,B,hl,hc,S,M},Nx,N);hj:j<15:=zf (qp.mp hx).1 lc;hxk:=Qx hx;kn1:=hkn.af U.af;nt:∀b,(b=d\/b=F 6\/b=F 7)->∀xs,H1 b≠some (.tup xs):=λb z ys e=>(do(by rcases z with z|z|z <;> subst z);{_,_,e'}:=dw;e<-[U _ _ e'];-e;e<-[U _ _ e6];-e;e<-[U _ _ e7];-e);knz:∀{Z':Hp},Rest H1 Z' (λb=>b=d\/b=F 6\/b=F 7)->KN Z' kn:=λr=>kn1.af (mL r nt);{aG rfl,λrq Z1 g1' f e1'=>{aG rfl,λcq Z2 g2 s2 e2=>?_}};{rq0,G,rq6,rq7}:=B.free g1';{cq0,J,cq6,cq7}:=(B.same f).free g2;rc:rq≠cq:=λz=>(do g2<-[<-z,e1'];-g2);B2:=(B.same f).same s2;R2:RC Z2 rq cq [] [] 0:={s2 _ _ e1',e2,(λu z=>nomatch z),(λu z=>nomatch z),qb _,qb _};{_,O,d,5,O,B2.dw,⋯,⋯,λi3 Z3 s3 w3 x3 y3=>?_};{i3,O,(),(),bY (lo:=0) (n:=i3.toNat) (λk σ Z=>AD λL l ls us vs u7 u8 u9=>∃g,gF (σ=[! (.ref d),! (.ref fa),!(.ref r),!(.ref kq),!vp,!(.ref rq),!(.ref cq),u7,u8,u9,g,t,D,I]) (UB H1 Z d F (90+10 * (j:Int)+(k:Int)) (100+10 * (j:Int)+(k:Int) / 2) ((k:Int) % 2) (150+10 * (j:Int)) 0 L l C c ls cs) (RC Z rq cq us vs k) (l<=5 * j+k/\ls.length=l)) {_,_,_,_,_,_,_,_,_,O,(B2.draw n6 n7 s3 w3).up (Int.le_of_eq ()) (λa b h=>sV () h) (λa b h=>h),R2.draw B2.dw G J s3,(),S} ?_ ?_};(k,σ,W,hk,{L,l,ls,us,vs,u7,u8,u9,g,rfl,B,R,hl,S},Nx,N);{aG rfl,λy1 Z1 g1 f f1=>{_,O,d,2,O,(B.same f).dw,⋯,⋯,λi2 Z2 s2 w2 x2 y2=>{y1,_,i2,O,O,az.of (DP.to s2 f1 (B.dw.ne g1)),x2,y2,λvw hvw=>?_}}};{wy,rfl,wyo}:∃wy,vw=.str wy/\PyData.strOk wy=true:=(by ac_nf at hvw;rcases hvw with h|h <;> exact{_,h,∅});B2:=(B.same f).draw n6 n7 s2 w2;R2:=(R.same f).draw (B.same f).dw G J s2;ek2:=B2.out (U _ _ ek) kd' q6 q7;{p,ds,gp2,pn,dv,lS,la,lal,dep,ix1,ix2}:=(knz B2.ro).idx hxk;{_,O,r,_,1,_,O,O,az.of (B2.out (U _ _ er) rd r6 r7),O,_,O,.inl {O,_,az.of ek2},_,O,_,_,kq,ds,kn,j,O,O,dv,az.of ek2,lS,la,lal,dep,ix1,ix2,_,_,O,O,.inl {⋯,⋯},_,_,O,O,_,O,_,_,O,O,aG rfl,λq3 Z3 g3 s3' e3=>?_};e3<-[Int.zero_add];B3:=B2.same s3';R3:=R2.same s3';ek3:=s3' _ _ ek2;{p',ds',gp3,pn',dv',dvs',la',lal',dep',ix1',ix2'}:=(knz B3.ro).idx hxk;{_,O,.inl {O,_,az.of ek3},_,O,_,_,kq,ds',kn,j,O,O,dv',az.of ek3,dvs',la',lal',dep',ix1',ix2',_,_,O,O,.inl {⋯,⋯},_,_,O,O,_,O,_,_,O,O,{⋯,⋯},_,_,O,O,_,O,_,_,O,O,(by decide:(0:Int)<2),aG rfl,λq4 Z4 g4 s4 e4=>?_};e4<-[Int.zero_add];B4:=B3.same s4;R4:=R3.same s4;{_,O,fa,.ref (F 6),O,.inl {du F 9,.inr "lines",.inl (B4.out (U _ _ dk) nfd nf6 nf7),O,(dh F 6 ⋯).symm},.inl {O,_,az.of B4.e6},_,O,_,O,_,O,_,O,_,O,d,4,O,B4.dw,⋯,⋯,λi5 Z5 s5 w5 x5 y5=>{_,_,O,O,aG rfl,λY Z6 g6 x e6'=>{F 6,ls,_,O,O,((B4.draw n6 n7 s5 w5).same x).e6,cC (),?_}}};B5:=B4.draw n6 n7 s5 w5;B6:=B5.same x;R6:=(R4.draw B4.dw G J s5).same x;t46:=(B4.dw.af s5).trans x.af;t36:=s4.af.trans t46;e36:=t36 _ _ e3;B7:=B6.line (X':=90+10 * (j:Int)+((k+1:Nat):Int)) (A':=100+10 * (j:Int)+((k+1:Nat):Int) / 2) (B':=((k+1:Nat):Int) % 2) (r:={p,wy,[.inr "bo",.inl (90+10 * (j:Int)+(k:Int))],none,100+10 * (j:Int)+(k:Int) / 2,(k:Int) % 2,_}) n6 n67 () {Y,_,_,_,q4,O,e6',gp2.af (s3'.af.trans t36),{q3,O,e36},O,t46 _ _ e4} rfl rfl rfl rfl pn.lay wyo () (do@bO;());R7:=R6.wr (o:=.lst (ls++[.ref Y])) B6.e6 rq6 cq6;t7:aj Z6 (upd Z6 (F 6) (.lst (ls++[.ref Y]))):=aj.wl B6.e6;e37:=t7 _ _ e36;(by generalize upd Z6 (F 6) (.lst (ls++[.ref Y]))=Z7 at B7 R7 e37);{_,O,_,O,aG rfl,λy8 Z8 g8 s8 f8=>?_};B8:=B7.same s8;R8:=R7.same s8;e38:=s8 _ _ e37;(by generalize hbb:decide (V.str wy=V.str "column")=bb);ixw:((if bb=true then 1 else 0:Int))<2:=(by cases bb <;> decide);{_,O,O,.inr {bb,do[hbb],y8,_,_,O,O,az.of f8,by cases bb <;> decide,ixw,λv hv=>?_}};np:Pn [.inr "bo",.inl (90+10 * (j:Int)+(k:Int))]:=.inr (zM (do 0));vc:v=.ref rq\/v=.ref cq:=(by simpa only[List.mem_cons,List.not_mem_nil,or_false] using hv);lu:=R8.lu;lv:=R8.lv;rfl||rfl:=vc;⟨.inl ⟨O,_,az.of R8.er⟩,_,O,rq,us,_,O,O,R8.er,cC (),?_⟩;N _ _ ⟨_,_,_,_,_,_,_,_,_,O,B8.own R8.er rq0 G rq6 rq7,R8.row rc (p:=[.inr "bo",.inl (90+10 * (j:Int)+(k:Int))]) ⟨q3,O,e38⟩ np,(),do[qg,qr,S]⟩;⟨.inl ⟨O,_,az.of R8.ec⟩,_,O,cq,vs,_,O,O,R8.ec,cC (),?_⟩;N _ _ ⟨_,_,_,_,_,_,_,_,_,O,B8.own R8.ec cq0 J cq6 cq7,(R8.turn.row rc.symm (p:=[.inr "bo",.inl (90+10 * (j:Int)+(k:Int))]) ⟨q3,O,e38⟩ np).turn,(),do[qg,qr,S]⟩;(σ,W,{L,l,ls,us,vs,u7,u8,u9,g,rfl,B,R,hl,S});R5:=R.le (show i3.toNat<=5 from ());{_,O,d,4,O,B.dw,⋯,⋯,λm Z3 s3 w3 x3' y3'=>?_};{m,O,(),(),bY (lo:=0) (n:=m.toNat) (λk σ Z=>AD λC c cs u7 g t D I=>gF (σ=[! (.ref d),! (.ref fa),!(.ref r),!(.ref kq),!vp,!(.ref rq),!(.ref cq),u7,u8,u9,g,t,D,I]) (UB H1 Z d F (90+10 * ((j+1:Nat):Int)) (100+10 * ((j+1:Nat):Int)) 0 (150+10 * (j:Int)+(k:Int) / 2) ((k:Int) % 2) L l C c ls cs) (RC Z rq cq us vs 5) (c<=4 * j+k/\cs.length=c)) {_,_,_,_,_,_,_,_,O,(B.draw n6 n7 s3 w3).up () (λa b h=>sV () h) (λa b h=>sV () h),R5.draw B.dw G J s3,(),M} ?_ ?_};(k,σ,W,hk,{C,c,cs,u7,g,t,D,I,rfl,B,R,hc,M},Nx,N);o_ (λb Z=>(b=true->us≠[]/\vs≠[])/\UB H1 Z d F (90+10 * ((j+1:Nat):Int)) (100+10 * ((j+1:Nat):Int)) 0 (150+10 * (j:Int)+(k:Int) / 2) ((k:Int) % 2) L l C c ls cs/\RC Z rq cq us vs 5) (λNb hNb=>?_) ?_;{ps,pl,pd,lay}:=Jn R.ru;{_,O,aG rfl,λzq W1 g1 f f1=>{.list (ps.map tD),.list [],.lst (az.of (f _ _ R.er)) (pd.same f).dv,.lst (az.of f1) .nil,lay,O,qf (ji _ _) ⋯,_,O,?_}};B1:=B.same f;R1:=R.same f;(by cases us with|nil|cons w0 ws0=>?_);this:ps=[]:=jb.mp pl.symm;!this;bL rfl (hNb _ _ {(λz=>nomatch z),B1,R1});{p0,ps0,rfl}:∃p0 ps0,ps=p0::ps0:=(do(by cases ps with|nil|cons p0 ps0=>?_);-pl;{p0,ps0,O});cf rfl ?_;{qs,ql,qd,qlay}:=Jn R1.cu;{_,O,aG rfl,λzq W2 g2 s2 f2=>{.list (qs.map tD),.list [],.lst (az.of (s2 _ _ R1.ec)) (qd.same s2).dv,.lst (az.of f2) .nil,qlay,O,qf (ji _ _) ⋯,_,O,?_}};hNb _ _ {λz=>{(λy=>nomatch y),λy=>?_},B1.same s2,R1.same s2};!y;this:qs=[]:=jb.mp ql.symm;!this;-z;(b,Z,{hb,B,R});(by cases b with|false|true=>?_);bL rfl (N _ _ {C,c,cs,_,_,_,_,_,O,B.up (Int.le_refl _) (λa b h=>h) (λa b h=>sV () h),R,(),M});cf rfl ?_;{u1,v1}:=hb rfl;u0:0<us.length:=ny.mpr u1;v0:0<vs.length:=ny.mpr v1;lu:=R.lu;lv:=R.lv;{_,O,_,O,_,O,rq,_,O,.inl (az.of R.er),d,_,O,B.dw,(),(),λi1 Z1 f w1 x1 y1=>{rq,us,i1,O,O,az.of (DP.to f R.er G),x1,y1,λva hva=>?_}};B1:=B.draw n6 n7 f w1;R1:=R.draw B.dw G J f;{pa,ga,na}:=R1.ru va hva;{_,O,_,O,_,O,cq,_,O,.inl (az.of R1.ec),d,_,O,B1.dw,(),(),λi2 Z2 s2 w2 x2 y2=>{cq,vs,i2,O,O,az.of (DP.to s2 R1.ec J),x2,y2,λvb hvb=>?_}};B2:=B1.draw n6 n7 s2 w2;R2:=R1.draw B1.dw G J s2;{pb,gb,nb}:=R2.cu vb hvb;{aG rfl,λy3 Z3 g3 s3 f3=>{_,O,d,3,O,(B2.same s3).dw,⋯,⋯,λi4 Z4 s4 w4 x4 y4=>{y3,_,i4,O,O,az.of (DP.to s4 f3 (B2.dw.ne g3)),x4,y4,λvw hvw=>?_}}};{wd,rfl,hwd}:∃wd,vw=.str wd/\ME wd:=(do(by ac_nf at hvw);h||h||h:=hvw;⟨_,h,.inl rfl⟩;⟨_,h,.inr (.inl rfl)⟩;⟨_,h,.inr (.inr (.inl rfl))⟩);B4:=(B2.same s3).draw n6 n7 s4 w4;R4:=(R2.same s3).draw (B2.same s3).dw G J s4;t24:=s3.af.trans ((B2.same s3).dw.af s4);ek4:=B4.out (U _ _ ek) kd' q6 q7;{p,ds,gp4,pn,dv,lS,la,lal,dep,ix1,ix2}:=(knz B4.ro).idx hxk;{_,O,.inl {O,_,az.of ek4},_,O,_,_,kq,ds,kn,j,O,O,dv,az.of ek4,lS,la,lal,dep,ix1,ix2,_,_,O,O,.inl {⋯,⋯},_,_,O,O,_,O,_,_,O,O,{⋯,⋯},_,_,O,O,_,O,_,_,O,O,(by decide:(0:Int)<2),aG rfl,λq5 Z5 g5 s5 e5=>?_};e5<-[Int.zero_add];B5:=B4.same s5;{_,O,fa,.ref (F 7),O,.inl {du F 9,.inr "cells",.inl (B5.out (U _ _ dk) nfd nf6 nf7),O,(dh F 7 ⋯).symm},.inl {O,_,az.of B5.e7},_,O,_,O,_,O,_,O,_,O,aG rfl,λY Z6 g6 x e6'=>{F 7,cs,_,O,O,(B5.same x).e7,cC (),?_}};B6:=B5.same x;s46:=s5.trans x;t26:=t24.trans s46.af;t16:=(B1.dw.af s2).trans t26;N _ _ {_,_,_,_,_,_,_,_,O,B6.cell (A':=150+10 * (j:Int)+((k+1:Nat):Int) / 2) (B':=((k+1:Nat):Int) % 2) (r:={p,pa,pb,wd,150+10 * (j:Int)+(k:Int) / 2,(k:Int) % 2}) n7 n67 () {Y,_,_,_,q5,O,e6',gp4.af s46.af,ga.af t16,gb.af t26,x _ _ e5} rfl rfl {pn.lay,na.lay,nb.lay} hwd (do@bO;()),(R4.same s46).wr B6.e7 rq7 cq7,(),do[qg,qr,M]};(σ,W,{C,c,cs,u7,g,t,D,I,rfl,B,R,hc,M});N _ _ {L,l,C,c,ls,cs,_,_,_,_,_,_,_,_,_,_,O,B.up (Int.le_refl _) (λa b h=>h) (λa b h=>sV () h),(),(),S,M};(σ,Z,{L,l,C,c,ls,cs,u4,u5,u6,u7,u8,u9,g,t,D,I,rfl,B,hl,hc,S,M});kk Z L l C c ls cs (λb o e n=>B.ro b o (U _ _ e) n) B.e6 B.al B.wl B.e7 B.ac B.wc
def BO(T:Txt K mg tk)(F:FO K mg "_law_leaves" pH)(c:gE P w K mg base):Aq P w K mg base:=do aO F sj (zS λ_ _ _ _=>rfl) {} λfa J A outer s H vs Q E q h=>?_;S:(A.deeper (envOfC "_law_leaves" (ah pH) ↑s fa J)).units+1<cLine:=cY q;{_,(aF (fo (jY (do 2) T.c9 (a1 (cl c q (a2 (vv 0) aD)))) (gn sj.nd 4) (ax (sn sj.nd 5 (xa (vv 3) (cl c q (a2 (vv 0) (cb de T.bS boot_len (a1 (vv 3))))))) (ax (sn sj.nd 6 (xa (vv 2) (cl c q (a2 (vv 0) (cb de T.bS boot_len (a1 (vv 2))))))) (ax (sn sj.nd 7 (xa (bT (ac aM (ac aM (ac aM (a2 aM aM))))) (cl c q (a2 (vv 0) aD)))) (aF (ap (c6 S (vv 1) aM (λ_ _=>rfl)) (a1 (a_ (ac (vv 5) (ac (vv 6) (ac (vv 7) (a2 (ce eh (cl c q (a2 (vv 0) aD)) aD) (a_ (a2 (aJ cU aD (aJ jX (vv 4) aD)) (aJ eN (vv 4) aD)))))))))))))))),?_};{d,fa,r,kq,F,kn,rfl,M,dk,I,er,ek,k0,k1,np,N,n2,k,n4,n5,kk}:=h;nd:fa≠d:=λz=>(do _;{_,_,e}:=M;e<-[<-z,dk];-e);n8:fa≠F 8:=λz=>(do I<-[<-z,dk];-I);hX:∀b,(b=d\/b=F 8)->∃xs,H b=! (.lst xs):=λb hb=>(do rfl||rfl:=hb;{_,_,e}:=M;{_,e};{_,I});{_,O,d,7,O,M,⋯,⋯,λm H1 x X m0 m1=>?_};L1:xH H H1 d (F 8) [] []:={Rest.refl.del (.inl rfl) x,X,DP.to x I k,.nil};{_,O,(),(),bY (lo:=0) (n:=m.toNat) (λj σ Z=>AF λys ls u4 R u6 u7=>gF (σ=[! (.ref d),! (.ref fa),!(.ref r),!(.ref kq),u4,R,u6,u7]) (xH H Z d (F 8) ys ls) (ys.length=j) (LS ls/\∀l∈ls,bO l.ka l.kb (200+(j:Int) / 2) ((j:Int) % 2))) {[],[],_,_,_,_,O,L1,O,.nil,λl z=>nomatch z} ?_ ?_};(j,σ,Z,hj,{ys,ls,u4,R,u6,u7,rfl,L,hl,i,f},Nx,U);out:∀{b:To} {o:HO} {W:Hp} {zs:List V} {ms:List Lf},xH H W d (F 8) zs ms->b≠d->b≠F 8->H b=!o->W b=!o:=λL a1 a2 e=>L.rs _ _ e λz=>z.elim a1 a2;{_,O,_,O,_,O,kq,_,O,.inl (az.of (out L n2 n5 ek)),d,_,O,L.dw,(),(),λi1 Z1 x X a1 b1=>{kq,kn,i1,O,O,az.of (DP.to x (out L n2 n5 ek) n2),a1,b1,λvp hvp=>?_}};D:=L.draw k x X;{_,O,_,O,_,O,r,_,O,.inl (az.of (out D N n4 er)),d,_,O,D.dw,by show(0:Int)<2;decide,by show(2:Int)<1000;decide,λi2 Z2 s2 d2 a2 b2=>{r,_,i2,O,O,az.of (DP.to s2 (out D N n4 er) N),a2,b2,λvh y=>?_}};L3:=D.draw k s2 d2;{aG rfl,λtl H4 g4 s4 e4=>?_};L4:=L3.same s4;nt:tl≠d:=L3.dw.ne g4;{_,O,d,5,O,L4.dw,⋯,⋯,λi3 Z3 s3 d3 a3 b3=>{tl,_,i3,O,O,az.of (DP.to s3 e4 nt),a3,b3,λvt B=>?_}};G:=L4.draw k s3 d3;{hd,rfl,hdo}:∃z,vh=.str z/\PyData.strOk z=true:=(by ac_nf at y;rcases y with h|h <;> exact{_,h,∅});{tt,rfl,tto}:∃z,vt=.str z/\PyData.strOk z=true:=(by ac_nf at B;rcases B with h|h|h|h|h <;> exact{_,h,∅});{_,O,fa,.ref (F 8),O,.inl {du F 9,.inr "leaves",.inl (out G nd n8 dk),O,(dh F 8 ⋯).symm},.inl {O,_,az.of G.ey},_,O,_,O,_,O,_,O,d,3,O,G.dw,⋯,⋯,λi4 Z4 s5 d5 a4 b4=>?_};L6:=G.draw k s5 d5;{_,_,O,O,_,O,_,_,O,O,{⋯,⋯},_,_,O,O,_,O,_,_,O,O,(by show(0:Int)<2;decide),aG rfl,λcq Z5 g5 s6 e5=>{aG rfl,λY Z6 g6 s7 e6=>?_}};t:=(L6.same s6).same s7;{F 8,ys,_,O,O,t.ey,cC (),?_};C:aj Z6 (upd Z6 (F 8) (.lst (ys++[.ref Y]))):=aj.wl t.ey;{p,gp,hp}:=(np vp hvp).af (t.rs.af hX);U _ _ {ys++[.ref Y],ls++[{p,hd,tt,decide (0<i4),200+(0+(j:Int)) / 2,(0+(j:Int)) % 2}],_,_,_,_,O,{t.rs.wr (.inr rfl),?_,aE,?_},do[qg,hl];2,?_,λl h=>?_};{a,b,e}:=t.dw;{a,b,do[aB k.symm];e};(t.lr.imp λv l g=>LX.af g C).snoc {Y,vp,cq,O,C _ _ e6,gp.af C,hp,C _ _ (s7 _ _ e5),hdo,tto};nh.mpr {i,g0 _ _,λa ha b hb=>?_};[qt.mp hb];this:=f a ha;¬bO a.ka a.kb (200+(0+(j:Int)) / 2) ((0+(j:Int)) % 2);(by unfold bO at this ⊢);();h||h:=zg.mp h;this:=f l h;(by unfold bO at this ⊢);();[qt.mp h];¬bO (200+(0+(j:Int)) / 2) ((0+(j:Int)) % 2) _ _;@bO;();(σ,Z,{ys,ls,u4,R,u6,u7,rfl,L,hl,i,f});kk Z ys ls L.rs L.ey L.lr i (do this:=L.lr.1;())
def Bg(T:Txt K mg tk)(F:FO K mg "_law_due" lJ)(Y:xZ P w K mg base)(gfAv:Ax P w K mg base):zK P w K mg base:=do aO F wQ (ik λ_ _=>rfl) {} λfa cdv A outer s H vs Q E hr h=>?_;{_,(ax (mX (i:=2) wQ.nd rfl (Or.inl rfl) (own:=["_law_entry"]) (fr:=[("_law_facts_here",0)]) rfl (il (vv 1)) {O,∅,∅} (iQ (ah lJ) ["_law_facts_here","_law_whole","_law_shut","_law_found","_law_entry"] rfl rfl (λ_ h=>fh h) ∅ ∅ ∅) (λ_ _ _=>(cj (i:=0) (do¬List.Nodup (["_law_entry","_law_facts_here"]:List Tp);by decide +kernel) rfl (Or.inl rfl))) (λ_=>jS rfl) (λ_ _ _=>(eF (DE (eJ (cl Y hr (a2 (vc 1) (xt (vv 0)))))))) (λ_ _ _=>(xt (vv 0)))) (ax (sn wQ.nd 3 (bT dj)) (ax (fo (il (vv 1)) (gm wQ.nd 4) (aF (bC (ck (Th hr) (rH (ah lJ) Aa [("_law_entry",4)] (il (vv 2)) (λ_ _ _=>(eF (eJ (cl gfAv hr (a2 (xt (vc 1)) (vv 0)))))) (λ_ _ _=>(vv 0))) (bT dj)) (aF (bC (ck (inD hr) (xt (vc 4)) (vv 2)) (aF (ap (vv 3) (a1 (a_ (ac (xt (vc 4)) (ac (xt (vc 4)) (ac dH (a2 dH dH)))))))) (aF (ap (vv 3) (a1 (vc 4)))))) cg))) (aF (aR (vv 3)))))),?_};{fa,F,x,wq,es,a,num,op1,op,rfl,f6,ew,hl,ho1,al,o,hop,hsi,kk}:=h;R:es.length=a.length:=al.1;hsl:∀{s},s∈bR op a->s.length<=1000/\PyData.strOk s=true:=λ{s} h=>(do _;{e,he,rfl}:=qc.mp h;{(o e (qw.mp he).1).2.1,(o e (qw.mp he).1).2.2.1});hsn:(bR op a).length<=63:=(do@bR;[qh];qf (wj _ _) hl);{_,O,wq,O,{_,az.of ew},cI (xs:=es) (jH ()) (λj us W=>ag H W/\us=((a.take j).filter λe=>not (op e.1)).map λe=>V.str e.2) {ag.refl _,O} (λ_ _ W s'=>az.of (s'.1 _ _ ew)) (λj y us W K1 K0 hx s' k1 k0=>?_) λH3 up us s' hu huq=>?_};{B,c}:=s';{e,I,en}:=al.at hx;{hp,_,_,hk}:=o e (qk I);{b,vp,v2,v3,v4,rfl,h1,h2,_}:=en.same B;{_,O,_,O,b,_,1,_,O,O,aQ.of h1,O,fa,F,x,vp,e.1,O,f6.same B,{h2,hp},hk,λW2 s2=>{_,O,?_}};[<-hop];tk:a.take (j+1)=a.take j++[e]:=(do[qu,I];2);(by cases U:op e.1 with|false|true=>?_);cf rfl {_,O,b,_,0,_,O,O,aQ.of (s2 _ _ h1),O,k1 _ _ {B.trans s2,?_}};[tk,zy,vd (do[U];2),we,zt,c];2;bL rfl (k0 _ {B.trans s2,?_});[tk,zy,yf (by rw[U];decide),we,z6,c];{s3,c}:=s';c<-[R,q0];c:us=(bR op a).map V.str:=(do[c];@bR;[wg];2);!c;n3:ag H3 (upd H3 up (.lst ((bR op a).map V.str))):=ag.new huq;eu:(upd H3 up (.lst ((bR op a).map V.str))) up=!(.lst ((bR op a).map V.str)):=aE;m:=s3.trans n3;¬lN _ _ _ _ (upd H3 up (.lst ((bR op a).map V.str)));(by generalize upd H3 up (.lst ((bR op a).map V.str))=H4 at eu m);al4:=al.imp λv e g=>EN.same g m;{aG rfl,λfq H5 g5 s5 e5=>?_};{_,O,wq,O,{_,az.of ((m.trans s5) _ _ ew)},bN (xs:=es) (λj σ Z=>uA λus u4=>gF (σ=[! (.ref fa),!(.ref wq),!(.ref up),!(.ref fq),u4]) (ag H4 Z) (Z fq=! (.lst us)) (AL (NE x.d op num H4 Z) us ((a.take j).filter (kp (bR op a)))/\us.length<=j)) {[],none,O,s5,e5,.nil,qb _} (λj σ Z _ h=>do _;{_,_,_,s,_}:=h;az.of ((m.trans s) _ _ ew)) ?_ ?_};(j,y,σ,Z,hx,{us,u4,rfl,J,ef,an,D},Nx,C);{e,I,N}:=al4.at hx;hj:j<es.length:=(qp.mp hx).1;{hp,hz1,hz2,hk}:=o e (qk I);hse:=hsi e (qk I);{b,vp,v2,v3,v4,rfl,h1,h2,_}:=id (N.same J);tk:a.take (j+1)=a.take j++[e]:=(do[qu,I];2);euZ:=J _ _ eu;{_,O,up,O,{_,az.of euZ},cI (xs:=(bR op a).map V.str) (jH (do[qh];())) (λi vs W=>ag Z W/\vs=(((bR op a).take i).filter (wL e.2)).map V.str) {ag.refl _,O} (λ_ _ W s'=>az.of (s'.1 _ _ euZ)) (λi y vs W K1 K0 X s' k1 k0=>?_) λH6 np vs s' hu6 hnp=>?_};{B,n}:=s';X<-[qj];{s,L,rfl}:=wb.mp X;{_,O,b,_,0,_,O,O,aQ.of (B _ _ h1),O,_,O,e.2,s,O,hz1,(hsl (qk L)).1,{_,O,?_}};tk2:(bR op a).take (i+1)=(bR op a).take i++[s]:=(do[qu,L];2);(by cases hw:wL e.2 s with|true|false=>?_);cf rfl {_,O,k1 _ _ {B,?_}};[tk2,zy,vd hw,we,zt,n];2;bL rfl (k0 _ {B,?_});[tk2,zy,yf (by rw[hw];decide),we,z6,n];{s6,n}:=s';n<-[qh,q0];n6:ag H6 (upd H6 np (.lst vs)):=ag.new hnp;{aG rfl,λzq H7 g7 s7 e7=>?_};k:=(s6.trans n6).trans s7;p:=J.trans k;{np,zq,vs,O,O,az.of (s7 _ _ aE),az.of e7,_,O,?_};an7:=an.imp λv e g=>NE.af g k.af;f:=k _ _ ef;G:=k _ _ h1;h27:=h2.af k.af;f4:H4 fq=none:=g5;r:kp (bR op a) e=decide (vs=[]):=(do[n];@kp;[yo,nv,kx,decide_eq_true_eq,List.map_eq_nil_iff,jq]);hv<|vs=[];cf (qH hv) ?_;r:kp (bR op a) e=true:=r.trans (qH hv);ae:∀{W:Hp} {v:V} {ts:List V},aj H7 W->NE x.d op num H4 W v e->AL (NE x.d op num H4 W) (us++[v]) ((a.take (j+1)).filter (kp (bR op a))):=λ{W v ts} t g=>(do[tk,zy,vd r,we];(an7.imp λv e g=>NE.af g t).snoc g);{_,O,b,_,0,_,O,O,aQ.of G,O,_,O,.str e.2,up,(bR op a).map PyData.str,(bR op a).map V.str,.str _,O,.inl (az.of (p _ _ eu)),Dp _,hz2,fO λd hd=>?_,qx _,_,O,?_};{s,hs,rfl}:=qc.mp hd;(hsl hs).2;z<|e.2∈bR op a;cf (do[A1];qH z) ?_;{_,O,.inl {O,_,az.of f},_,O,b,_,0,_,O,O,aQ.of G,O,_,O,b,_,1,_,O,O,aQ.of G,O,aG rfl,λtq H8 g8 s8 e8=>?_};M:=s8 _ _ f;S:aj H8 (upd H8 fq (.lst (us++[.ref tq]))):=aj.wl M;{fq,us,_,O,O,M,cC (),C _ _ {us++[.ref tq],_,O,(p.trans s8).wr f4,aE,ae (ts:=us) (s8.af.trans S) (.inr {hse.mp z,tq,vp,O,S _ _ e8,(h27.af s8.af).af S}),do[qg];nw D 1}};bL (do[A1];decide_eq_false z) ?_;U:op e.1=true:=(do(by cases q:op e.1 with|true|false=>?_);2;absurd (hse.mpr q) z);S:aj H7 (upd H7 fq (.lst (us++[.ref b]))):=aj.wl f;{_,O,.inl {O,_,az.of f},_,O,fq,us,_,O,O,f,cC (),C _ _ {us++[.ref b],_,O,p.wr f4,aE,ae (ts:=us) S (.inl {U,N.SY (ho1 _) U}),do[qg];nw D 1}};bL (decide_eq_false hv) (C _ _ {us,_,O,p,f,?_,()});[tk,zy,yf (by rw[r,decide_eq_false hv];decide),we,z6];an7;(σ,Z,{us,u4,rfl,J,ef,an,D});an<-[R,q0];{_,O,kk Z fq us (m.trans J) ef (an.imp λv e g=>NE.en g J)}
def AZ(T:Txt K mg tk)(F:FO K mg "told_leaves" tI)(o:z_ P w K mg base):yQ P w K mg base:=do aO F F1 (r_ λ_ _ _=>rfl) {} λfa cdv A outer s H vs Q E hr h=>?_;{_,(ax (sn F1.nd 3 kH) (ax (fo (il (KO o hr T.cZ boot_sorted (a1 (vv 0)))) (gn F1.nd 4) (aF (bC (PW.pt (iP (ck cR (xt (vv 4)) (vv 1)) (iI (ck cR (xt (vv 4)) (vv 2))))) (aF (jZ (cQ hr) (vv 3) (xt (vv 4)) (xt (vv 4)) rfl)) cg))) (aF (aR (vv 3))))),?_};{p,ys,ls,g,tt,rfl,hp,M,R,cD,kk}:=h;(dq,H1,g1,N,e1);L:ys.length=ls.length:=M.1;{_,O,p,ys,ls.map λa=>.tuple [.int a.ka,.int a.kb],2,O,hp.same N,do[qh,L],pX λd g=>do _;{i,_,rfl}:=qc.mp g;.inl {_,_,O},{(),.inl ()},λm y d H' Q' q1 J s q=>?_,λq H2 ix C s2 Z U=>?_};J<-[qj];{a,e,Y}:=M.at q1;J<-[e];-J;{y,a,O,Y.af (N.trans s).af,λkv hk=>q H' _ (ag.refl _) hk.dv};W:=N.trans s2;S:ix.map (λi=>ys.getD i .aS)=ys:=(do[HD R Z,<-L];yb λm=>?_;[qj];D<|m<ys.length;[yc D,qe D];¬some (ys.getD m .aS)=_;[zb,qe D];2;[wz (do[zh];()),wz ()];2);U<-[S];I:q≠dq:=λz=>(do C<-[z];C<-[e1];-C);fd:H dq=none:=g1;{q,O,{_,az.of U},Bj (xs:=ys) (λj σ f=>∃kvs X,σ=[! (.ref p),!(.str g),!(.str tt),!(.ref dq),X]/\ag H f/\f q=! (.lst ys)/\f dq=! 69/\kvs.length<=j/\∀k,vG kvs (.tup k)=(cO g tt (ls.take j) k).map V.bl) {[],_,O,W,U,s2 _ _ e1,qb _,λk=>rfl} (λj σ f _ ⟨_,_,_,_,e,_⟩=>az.of e) ?_ ?_};(j,x,σ,f,hx,{kvs,X,rfl,n,eq,r,G,inv});hj:j<ys.length:=(qp.mp hx).1;{l,el,Y}:=M.at hx;{b,vp,c,rfl,B,pv,_,ec,_}:=Y.af n.af;tk:ls.take (j+1)=ls.take j++[l]:=(do[qu,el];2);{_,O,b,_,1,_,O,O,aQ.of B,O,_,O,O,_,O,?_};no:¬(l.hd=g/\l.to=tt)->∀k,vG kvs (.tup k)=(cO g tt (ls.take (j+1)) k).map V.bl:=λh k=>(do[tk,E3,qB (λz=>h z.2),nr];inv k);t<|l.hd=g;cf (do[dR];qH t) ?_;{_,O,b,_,2,_,O,O,aQ.of B,O,_,O,O,_,O,?_};v<|l.to=tt;cf (do[dR];qH v) ?_;{_,O,b,_,3,_,O,O,aQ.of B,O,_,O,_,O,b,_,0,_,O,O,aQ.of B,O,dq,kvs,.tup l.pt,O,r,pv,cC (),?_};{_,_,O,n.wr fd,do[aB I];eq,aE,qf (iA _ _ _ _) (),λk=>?_};[d7,tk,E3];z<|l.pt=k;[qF (do[z]),qF {z,t,v}];2;[qB λy=>z (KD.tup.inj y).symm,qB λy=>z y.1,nr];inv k;bL (do[dR];decide_eq_false v) ?_;{kvs,_,O,n,eq,r,(),no λz=>v z.2};bL (do[dR];decide_eq_false t) (bL rfl ?_);{kvs,_,O,n,eq,r,(),no λz=>t z.1};(σ,f,{kvs,X,rfl,n,eq,r,G,inv});inv<-[L,q0];{_,O,kk f dq kvs n fd r inv}
def EE(T:Txt K mg tk)(F:FO K mg "followers_of" rW)(I:Au P w K mg base):Ak P w K mg base:=do aO F CD (nN λ_=>rfl) {} λfa cdv A outer s H vs Q E hr h=>?_;{_,(ax (sn CD.nd 1 kH) (ax (fo (il (KO I hr T.cZ boot_sorted (a1 (vv 0)))) (gn CD.nd 2) (aF (ap (bm PySem.F.plainAttrs_dict PySem.F.slot_dict_setdefault PySem.F.type_dict_setdefault (Kt (cQ hr)) (vv 1) (a2 (xt (vv 2)) (bT dj))) (a1 (xt (vv 2)))))) (aF (aR (vv 1))))),?_};{p,ys,nk,bh,D,ms,js,t,rfl,hp,B,eqj,W,kk}:=h;!eqj;n:ms.Perm ms:=.refl _;(dq,H1,g1,M,e1);hyl:ys.length=ms.length:=(do[B.1,n.length_eq]);cD:=W.cD;{_,O,p,ys,ms.map D,t,O,hp.same M,do[qh,B.1],W.keys,{(),.inr (z8.mpr W.up)},λm y d H' Q' q1 q2 s q=>?_,λq H2 ix g2 s2 L e2=>?_};{k,N,Y}:=B.at q1;q2<-[qj,N];-qJ q2;{y,nk,bh,D,k,O,Y.af (M.trans s).af,λkv hk=>q H' _ (ag.refl _) hk.dv};hix:∀i∈ix,i<ys.length:=λi hi=>(do this:=(L.1.mem_iff).mp hi;this<-[qv,qh];[B.1];this);a2:=B.ix ix hix;a2<-[rQ n W.up L];(by generalize ix.map (λi=>ys.getD i .aS)=zs at e2 a2);X:zs.length=ms.length:=a2.1;s02:=M.trans s2;fq:H q=none:=M.free g2;{q,O,{_,az.of e2},bN (xs:=zs) (λj σ o=>uA λkvs u2=>m_ (σ=[! (.ref p),!(.ref dq),u2]) (ag H o) (o q=! (.lst zs)) (FD nk bh ms (ms.take j) H o dq kvs) (kvs.length<=j) (∀k,vG kvs k≠some (.ref q))) {[],none,O,s02,e2,{s2 _ _ e1,g1,λk _=>.inl {O,O},λk k' q z=>(do-z),λk q z=>(do-z)},qb _,λk z=>(do-z)} (λj σ o _ ⟨_,_,_,_,e,_,_,_⟩=>az.of e) ?_ ?_};(j,x,σ,o,hx,{kvs,u2,rfl,G,eq,fd,v,nq},Nx,J);{m,U,Y}:=a2.at hx;Z:m∈ms:=qk U;hj:j<ms.length:=(qp.mp U).1;C:ms.take (j+1)=ms.take j++[m]:=(do[qu,U];2);hb:∀i,bh m=!i->i∈ms:=λi e=>Rga.Mo W.wf Z e;{b,vn,vb,vk,rfl,V,hn,S,hd}:=Y.af G.af;{_,O,.inr (.inr (.inl {O,.inr (.inr {kvs,fd.has})})),_,O,b,_,1,_,O,O,aQ.of V,O,aG rfl,λg H4 f c R=>?_};a:=fd.same c;t4:=G.trans c;f0:H g=none:=G.free f;{dq,kvs,kd nk (bh m),vb,.ref g,O,O,a.has,S.af c.af,kD (),λu r=>?_,λr=>?_};{h1,_}||{q',vs,h1,h2,h3,h4}:=a.each (bh m) hb;r<-[h1];-r;r<-[h1];-r;vl:vs.length<=2000:=(do[h3.1];@kids;qf (wj _ _) (do[wv];()));{.inl {O,_,az.of h2},_,O,b,_,0,_,O,O,aQ.of (c _ _ V),O,q',_,_,O,O,h2,kD (),?_};J _ _ {kvs,_,O,t4.wr h4,?_,?_,(),nq};[aB (λz=>nq _ (do[z];h1))];c _ _ eq;[C];a.old W.inj hb h1 h2 (hn.af c.af);nz:g≠dq:=λz=>(do f<-[z,fd.has];-f);{.inl {O,_,az.of (do[aB nz];R)},_,O,b,_,0,_,O,O,aQ.of (aj.wd a.has _ _ (c _ _ V)),O,g,_,_,O,O,(do[aB nz];R),kD (do¬0<=_;()),?_};hqn:∀k,vG kvs k≠some (.ref g):=λk z=>(do _;{xs,y}:=fd.live k g z;f<-[y];-f);J _ _ {pG kvs (kd nk (bh m)) vb (.ref g),_,O,(t4.wr g1).wr f0,?_,?_,qf (iA kvs _ _ _) (j5 v),λk z=>?_};n1:q≠g:=λz=>(do f<-[<-z,eq];-f);n2:q≠dq:=λz=>(do eq<-[z,fd.has];-eq);[aB n1,aB n2];c _ _ eq;[C];a.first W.inj hb r f0 R hqn (hn.af c.af);z<-[d7];N<|k=kd nk (bh m);z<-[qF N];-z;f<-[eq];-f;z<-[qB N];nq k z;(σ,o,{kvs,u2,rfl,G,eq,fd,v,nq});fd<-[X,q0];{_,O,kk o dq kvs G fd}
def Bb(T:Txt K mg tk)(F:FO K mg "telling_in_row" lK)(gfAu:yR P w K mg base)(gfBq:pj P w K mg base)(gfBx:sN P w K mg base):As P w K mg base:=do aO F pW (r_ λ_ _ _=>rfl) {} λfa cdv A outer s H vs Q E hr h=>?_;hu1:(A.deeper (envOfC "telling_in_row" (ah lK) ↑s fa cdv)).units+1<cLine:=cY hr;{_,(ax (sn pW.nd 3 (cl gfBq hr (a1 (vv 2)))) (ax (sn pW.nd 4 Ml) (ax (fo (il (KO gfAu hr T.cZ boot_sorted (a1 (rH (ah lK) yS [("part",1)] (il (c6 hu1 (vv 0) aM (λ_ _=>rfl))) (λ_ _ _=>(eF (ck (yH hr) (xt (vv 0)) (vc 1)))) (λ_ _ _=>(vv 0)))))) (gn pW.nd 5) (ax (sn pW.nd 6 (bm PySem.F.plainAttrs_dict PySem.F.slot_dict_setdefault PySem.F.type_dict_setdefault Nl (vv 4) (a2 (xt (vv 5)) (aJ IV (bT (a1 dH)) (cb de T.bS boot_len (a1 (vv 2))))))) (ax (sn pW.nd 7 (cl gfBx hr (ac (vv 3) (a2 (xt (vv 5)) (xt (vv 5)))))) (aF (N3 (vv 6) (dN (xt (vv 7))) (dN (xt (vv 7))) (aJ IV (bT (a1 (vv 5))) (aJ A0 (xt (vv 7)) (xt (vv 7)))) rfl))))) (aF (aR (vv 4)))))),?_};{fa,F,S,n,M,m,N,q,xs,ms,ns,vp,pt,rp,rv,rfl,fs,gvp,hlay,erp,ar,kk}:=h;W:=fs.ws;WM:=fs.wm;inj:Inj (cJ S) 68:=λi hi j hj=>W.inj i (mY W hi) j (mY W hj);I:∀{d:Sd},dZ S n pt d->qR 68 d:=λo i b z=>(qQ W).mpr (o i b z);hml:ms.length=m:=(do[fs.ma.1,zh]);fewm:=WM.cD;hrl:rv.length<=1400:=(do[ar.1];qf (kJ W) W.cD);{_,O,rp,rv,cJ S,aH S n pt,O,erp,ar,pI W,inj,qf (kJ W) W.cD,λH2 dq kvs s2 g2 e2 hse=>?_};(t,H4,g4,B,e4);s04:=s2.trans B;f4:=fs.same s04;erp4:=s04 _ _ erp;edq4:=B _ _ e2;gtq:H t=none:=s2.free g4;{_,O,fa,.ref (F 4),O,.inl {du F 9,.inr "marks",f4.dk,O,(dh F 4 ⋯).symm},F 4,O,{_,az.of f4.ml},cI (xs:=ms) (cM ()) (λj ys H'=>H'=H4/\AN (λv i=>MN S M H4 v i/\v=ms.getD i .aS) ys (((List.range m).take j).filter λi=>decide ((M i).pt=pt))) {O,.nil} (λ_ _ H' s'=>do[s'.1];az.of f4.ml) (λj x ys H' K1 K0 hx s' k1 k0=>?_) λH5 lp ys s' hy hq=>?_};{rfl,ay}:=s';{i,ei,nn}:=f4.ma.at hx;hin:i<m:=qv.mp (qk ei);hj:j<m:=(do[<-hml];(qp.mp hx).1);eij:i=j:=(do ei<-[yc hj];(qJ ei).symm);nn':MN S M H' x i/\x=ms.getD i .aS:={nn,do[eij,zb,hx];2};{b,vq,vb,ve,vn,kq,rfl,h1,h2,h3,h4,h5,h6}:=nn;tk:(List.range m).take (j+1)=(List.range m).take j++[i]:=(do[qu,ei];2);{_,O,b,_,0,_,O,O,aQ.of h1,O,_,O,tD (M i).pt,tD pt,(bE h2).dv,(bE (gvp.af s04.af)).dv,(WM.lay i hin).1,hlay,qf (yh _ _) (qf (eK _) ⋯),_,O,?_};eqp:(if false=true then not (PyData.eqv (tD (M i).pt) (tD pt)) else PyData.eqv (tD (M i).pt) (tD pt))=decide ((M i).pt=pt):=gN _ _;hp<|(M i).pt=pt;cf (do[eqp];qH hp) {_,O,k1 _ _ {O,?_}};[tk];AN.pick (vs:=ms) ay nn' (qH hp);bL (do[eqp];decide_eq_false hp) (k0 _ {O,?_});[tk];ay.skip (do 0<|hp);{rfl,ay}:=s';ay<-[hml,jc (do[zh];qb _)];ay:AN (λv i=>MN S M H5 v i/\v=ms.getD i .aS) ys (aI M m pt):=ay;n5:ag H5 (upd H5 lp (.lst ys)):=ag.new hq;e5:(upd H5 lp (.lst ys)) lp=! (.lst ys):=aE;C:AN (λv i=>MN S M (upd H5 lp (.lst ys)) v i/\v=ms.getD i .aS) ys (aI M m pt):=ay.imp λv i g=>{MN.af g.1 n5.af,g.2};(by generalize upd H5 lp (.lst ys)=H6 at n5 e5 C);hin:∀i∈aI M m pt,i<m/\(M i).pt=pt:=λi hi=>{qv.mp (qw.mp hi).1,qN (qw.mp hi).2};mup:(aI M m pt).Pairwise λa b=>bK (.tuple [.int (M a).ka,.int (M a).kb]) (.tuple [.int (M b).ka,.int (M b).kb])=true:=((tH m).imp_of_mem λ{a b} ha hb h=>f7 (WM.up a b h (qv.mp hb))).filter _;keys:KeysAre ((aI M m pt).map λi=>.tuple [.int (M i).ka,.int (M i).kb]) 2:=pX λd hd=>(do _;{i,_,rfl}:=qc.mp hd;.inl {_,_,O});hyl:ys.length<=70:=(do hy<-[hml];());{lp,ys,(aI M m pt).map λi=>.tuple [.int (M i).ka,.int (M i).kb],2,O,az.of e5,do[qh,C.1],keys,{(),.inr (z8.mpr mup)},λmm y d H' Q' q1 q2 s q=>?_,λsq H7 ix g7 s7 six e7=>?_};{k,ek,nn}:=C.at q1;q2<-[qj,ek];-qJ q2;{y,S,M,k,O,nn.1.af s.af,λkv G=>q H' _ (ag.refl _) G.dv};hix:∀i∈ix,i<ys.length:=λi hi=>(do this:=(six.1.mem_iff).mp hi;this<-[qv,qh];[C.1];this);a2:=C.ix ix hix;a2<-[rQ (.refl _) mup six];(by generalize ix.map (λi=>ys.getD i .aS)=zs at e7 a2);hzl:zs.length<=70:=(do[a2.1,<-C.1];hyl);a7:AN (λv i=>MN S M H7 v i/\v=ms.getD i .aS) zs (aI M m pt):=a2.imp λv i g=>{MN.af g.1 s7.af,g.2};R:=n5.trans s7;s07:=s04.trans R;etq7:=R _ _ e4;nsq:sq≠t:=(a9 (n5 _ _ e4) g7).symm;ndq:dq≠t:=a9 e2 g4;nrp:rp≠t:=a9 (s2 _ _ erp) g4;edq7:=R _ _ edq4;erp7:=R _ _ erp4;g7H:∀{a:To},H7 a=none->H a=none:=λh=>s07.free h;{sq,O,{_,az.of e7},bN (xs:=zs) (λj σ Z=>Gn λ(tv:List (Key×V)) (u5:Option V) (u6:Option V) (u7:Option V)=>gF (σ=[! (.ref fa),!vp,!(.ref rp),!(.ref dq),!(.ref t),u5,u6,u7]) (ag (del H7 t) Z) (Z t=!(.dK tv)) (TK M 68 ((aI M m pt).take j) ms (λa=>H7 a=none/\a≠t) Z tv)) {[],none,none,none,O,mR,etq7,{O,(λkd G=>nomatch G),λkd G=>nomatch G}} (λj σ Z _ ⟨_,_,_,_,_,r,_,_⟩=>az.of (DP.to r e7 nsq)) ?_ ?_};(j,x,σ,Z,hx,{tv,u5,u6,u7,rfl,sZ,eZ,tk},Nx,hNx);{i,ei,nn,hxm}:=a7.at hx;{hi,hpt}:=hin i (qk ei);tZ:aj H7 Z:=λa ys e=>DP.to sZ e (λz=>do e<-[z,etq7];-e);{b,vq,vb,ve,vn,kq,rfl,h1,h2,h3,h4,h5,h6}:=MN.af nn tZ;hsb:dZ S n pt (M i).b:=(do[<-hpt];(WM.sd i hi).1);L:dZ S n pt (M i).e:=(do[<-hpt];(WM.sd i hi).2);tk':(aI M m pt).take (j+1)=(aI M m pt).take j++[i]:=(do[qu,ei];2);hls1:=Ko (I hsb);hls2:=Ko (I L);hrv:rv.length=(aH S n pt).length:=ar.1;hj:j<70:=(do this:=(qp.mp hx).1;());htv:tv.length<=70:=(do e:=congrArg List.length tk.keys;e<-[qh,qh];[e];qf (Ea _ []) ?_;[wv];¬0+_<=_;());erpZ:=DP.to sZ erp7 nrp;edqZ:=DP.to sZ edq7 ndq;{_,O,.inr (.inr (.inl {O,.inl {tv,eZ}})),_,O,b,_,3,_,O,O,aQ.of h1,O,aG rfl,λl1 Z1 g1 s1 e1=>{_,O,rp,rv,O,.inl (az.of (s1 _ _ erpZ)),l1,(rv.length:Int),_,O,O,e1,(),(),cM (do[Int.toNat_natCast];¬1 * rv.length<=2000;()),λD Z2 g2 s2 e2=>?_}};f:=s1.trans s2;eZ2:=f _ _ eZ;tk2:=tk.same f;X:Z D=none:=s1.free g2;{t,tv,.inr (M i).kd,.ref D,O,O,eZ2,cC (),λu hu=>?_,λhn=>?_};G:(M i).kd∈kinds M ((aI M m pt).take j):=Classical.byContradiction λz=>(do this:=tk.no.mpr z;hu<-[this];-hu);{a,ha,{fa1,fa2},hva}:=tk2.val _ G;hu<-[ha];-hu;{_,O,_,O,b,_,1,_,O,O,aQ.of (f _ _ h1),O,_,O,b,_,2,_,O,O,aQ.of (f _ _ h1),O,dq,kvs,S,aH S n pt,vb,ve,(M i).b,(M i).e,O,(f _ _ edqZ),hse,h3.af f.af,I hsb,h4.af f.af,I L,λZ3 Y s3 e3=>?_};{_,O,aG rfl,λl4 Z4 g4 B e4=>{_,O,Y,_,1,_,O,O,aQ.of (B _ _ e3),O,_,O,Y,_,0,_,O,O,aQ.of (B _ _ e3),O,_,_,O,O,l4,_,_,O,O,e4,(),(),cM (do¬1 * _<=2000;()),λc5 Z5 g5 s5 e5=>?_}};p:=(s3.trans B).trans s5;J:=s5 _ _ (B _ _ e3);e5<-[vN,show((max (bH 68 (M i).b) (bH 68 (M i).e):Nat) - (bH 68 (M i).b:Nat):Int).toNat=max (bH 68 (M i).b) (bH 68 (M i).e) - bH 68 (M i).b from ()];ea5:=p _ _ hva;nac:a≠c5:=a9 ((s3.trans B) _ _ hva) g5;{_,O,_,O,Y,_,0,_,O,O,aQ.of J,O,_,O,_,O,Y,_,1,_,O,O,aQ.of J,O,_,O,a,c5,_,_,bH 68 (M i).b,max (bH 68 (M i).b) (bH 68 (M i).e),O,O,nac,ea5,az.of e5,O,O,(),do[p9];(),(do[p9,gc,sizeLine_eq];()),?_};[show V.ref b=ms.getD i .aS from hxm,JK rfl rfl () ()];hNx _ _ {tv,_,_,_,O,(ag.trans sZ (f.trans p)).wr (do[bX fa2];fa1),do[aB fa2.symm];p _ _ eZ2,?_};[tk'];(tk2.same p).old G ha rfl;G:=tk.no.mp hn;U:D≠t:=(a9 eZ X).symm;e2<-[Int.toNat_natCast,hrv,vN,<-Rx (ms:=ms) G];r2:∀c o,c≠t->Z2 c=!o->(upd Z2 t (.dK (putK tv (.inr (M i).kd) (.ref D)))) c=!o:=λc o h e=>(do[aB h];e);tx:aj Z (upd Z2 t (.dK (putK tv (.inr (M i).kd) (.ref D)))):=λc ys e=>r2 c _ (λz=>do e<-[z,eZ];-e) (f _ _ e);sn:ag (del H7 t) (upd Z2 t (.dK (putK tv (.inr (M i).kd) (.ref D)))):=(ag.trans sZ f).wr d6;en:(upd Z2 t (.dK (putK tv (.inr (M i).kd) (.ref D)))) t=! (.dK (putK tv (.inr (M i).kd) (.ref D))):=aE;e2n:=r2 _ _ U e2;edqn:=r2 _ _ ndq (f _ _ edqZ);h1n:=tx _ _ h1;(by generalize upd Z2 t (.dK (putK tv (.inr (M i).kd) (.ref D)))=Zn at r2 tx sn en e2n edqn h1n);{_,O,_,O,b,_,1,_,O,O,aQ.of h1n,O,_,O,b,_,2,_,O,O,aQ.of h1n,O,dq,kvs,S,aH S n pt,vb,ve,(M i).b,(M i).e,O,edqn,hse,h3.af tx,I hsb,h4.af tx,I L,λZ3 Y s3 e3=>?_};{_,O,aG rfl,λl4 Z4 g4 B e4=>{_,O,Y,_,1,_,O,O,aQ.of (B _ _ e3),O,_,O,Y,_,0,_,O,O,aQ.of (B _ _ e3),O,_,_,O,O,l4,_,_,O,O,e4,(),(),cM (do¬1 * _<=2000;()),λc5 Z5 g5 s5 e5=>?_}};p:=(s3.trans B).trans s5;J:=s5 _ _ (B _ _ e3);e5<-[vN,show((max (bH 68 (M i).b) (bH 68 (M i).e):Nat) - (bH 68 (M i).b:Nat):Int).toNat=max (bH 68 (M i).b) (bH 68 (M i).e) - bH 68 (M i).b from ()];ea5:=p _ _ e2n;nac:D≠c5:=a9 ((s3.trans B) _ _ e2n) g5;{_,O,_,O,Y,_,0,_,O,O,aQ.of J,O,_,O,_,O,Y,_,1,_,O,O,aQ.of J,O,_,O,D,c5,_,_,bH 68 (M i).b,max (bH 68 (M i).b) (bH 68 (M i).e),O,O,nac,ea5,az.of e5,O,O,(),do[p9];(),(do[p9,gc,sizeLine_eq];()),?_};[show V.ref b=ms.getD i .aS from hxm,JK rfl rfl () ()];hNx _ _ {putK tv (.inr (M i).kd) (.ref D),_,_,_,O,(ag.trans sn p).wr (sZ.free X),do[aB U.symm];p _ _ en,?_};[tk'];nev:∀kd c,bQ tv (.inr kd)=!(.ref c)->c≠D:=λkd c e z=>(do hkd:kd∈kinds M ((aI M m pt).take j):=Classical.byContradiction λy=>(do e<-[tk.no.mpr y];-e);{c',q1,_,q3}:=tk.val kd hkd;q1<-[e];-q1;q3<-[z,X];-q3);TK.new {tk.keys,λkd hkd=>?_,tk.ne} G {?_,U} nev rfl aE;{c,q1,q2,q3}:=tk2.val kd hkd;{c,q1,q2,do[aB (nev kd c q1)];p _ _ (r2 _ _ q2.2 q3)};this:=sZ.free X;this<-[bX U];this;(σ,Z,{tv,u5,u6,u7,rfl,sZ,eZ,tk});tk<-[show zs.length=(aI M m pt).length from a2.1,q0];{_,O,kk Z t tv (λb o e=>DP.to sZ (s07 _ _ e) (a9 e gtq)) gtq eZ {tk.keys,λkd G=>let⟨a,h1,h2,h3⟩:=tk.val kd G;{a,h1,{g7H h2.1,h2.2},h3},tk.ne}}
def FW(T:Txt K mg tk)(F:ML K mg "greatest_place" sG bD)(hB:base.BuiltinsAt mg bD):AB P w K mg base:=do Mj F Fs (ik λ_ _=>rfl) {} λfa cdv A outer s H vs Q E hC V h=>?_;{_,(aF (aR (QZ (k:=0) (y:="one") (z:="telling") (i:=0) rfl hC hB (V.mono ⋯) (do 2) T.tu boot_max {O,O,O,∅,O,O,∅} rfl rfl (λ_ h=>fh h) rfl rfl (λ_ _ _ _ _=>rfl) (λ_ _ _ _ _ _ _ V=>(xt (dI (cQ V) (vf 1) (vv 0) (λ_ _=>rfl)))) (a1 (vv 1))))),?_};{W,la,kt,xs,ws,ls,rfl,M,L,G,B,g,S,R,tb,kk}:=h;nla:la≠gQ:=λz=>(do _;{ps,t}:=tb.cF;t<-[<-z,B];-t);{_,O,tb,λH2 t2 sd=>?_};s2:ag (del H gQ) H2:=λb o e=>mR _ _ (sd _ _ e);p:=My.jQ tb s2 B λps z=>nomatch z;tt:=x8 tb s2;f:=L.imp λe x q=>q.imp (R':=f' H2) tt λr=>r.af tt;D:=S1 tb s2 M λps z=>nomatch z;d:=g.imp λv k q=>iZ.af q tt;U:ws.length=ls.length:=g.1;hl0:0<ls.length:=ny.mpr S;{la,ws,.ref W,λm=>match fX xs (ls.getD m []) with|some x=>[x.ka,x.kb]|none=>[],O,az.of p,(),O,λm y H' Q' N s' k=>?_,λm y Hn N n sn=>?_};{J,a,I}:=d.at N;c:=qk a;{x,Z,ex}:=qc.mp (gJ.mp (R J c));C:=f.imp λe x q=>q.imp (R':=f' H') s'.af λr=>r.af s'.af;{v,hv,b,vp,vo,vn,kq,rfl,h1,h2,X,h4,h5}:=pP C G Z;eD:ls.getD m []=x.pt:=(do[zb,a];ex.symm);I<-[<-ex];{_,O,_,O,W,kt,.tup x.pt,.ref b,O,Rd.same D s',GK.af I s'.af,hv,b,_,3,.ref kq,O,O,aQ.of h1,O,k H' _ (ag.refl _) ?_};¬DV H' (.ref kq) (.tuple ((match fX xs (ls.getD m []) with|some x=>[x.ka,x.kb]|none=>[]).map PyData.int));[eD,lZ G Z];.tup (aQ.of h5) (.cons (.int _) (.cons (.int _) .nil));{J,a,I}:=d.at N;c:=qk a;kk Hn y J (s2.trans sn) (t2.same sn) c (λb hb=>?_) (iZ.af I sn.af);({x,z,h1,h2,X});{j,Y,ej}:=zv.mp hb;this:=n j (do[U];Y);e1:ls.getD m []=J:=(do[zb,a];2);e2:ls.getD j []=b:=(do[zb,qe Y,ej];2);this<-#[_,e1,e2,h1,h2];this<-[show bK (.tuple ([x.ka,x.kb].map PyData.int)) (.tuple ([z.ka,z.kb].map PyData.int))=true from f7 X];-this
def CI(T:Txt K mg tk)(F:FO K mg "shown_among" lI)(gfAi:vi P w K mg base):zT P w K mg base:=do aO F wG (ik λ_ _=>rfl) {} λfa cdv A outer s H vs Q E I h=>?_;hu1:(A.deeper (envOfC "shown_among" (ah lI) ↑s fa cdv)).units+1<cLine:=cY I;{_,(ax (sm wG.nd 2 (cy (fG I.hd (pK I)) T.cT boot_dict (a1 (DM (il (c6 hu1 (vv 0) aM (λ_ _=>rfl))) (λ_ _ _=>dF) (λ_ _ _=>(a_ (a2 (xt (vv 0)) cw))))))) (ax (sn wG.nd 3 (cy (fG I.hd (pK I)) T.cT boot_dict (a1 (gH (own:=["part","outer"]) (fr:=[("cut",2)]) rfl (ux (vv 1)) {O,∅,∅} (iQ (ah lI) ["facts","stands","cut","left","reaching"] rfl rfl (λ_ h=>fh h) ∅ ∅ ∅) (λ_ _ _=>(iD (n:=2) rfl (cN (cj (i:=0) (do¬List.Nodup (["part","outer","cut"]:List Tp);by decide +kernel) rfl (Or.inl rfl)) (cN (cj (i:=1) (do¬List.Nodup (["part","outer","cut"]:List Tp);by decide +kernel) rfl (Or.inl rfl)) gK)))) (λ_=>pO rfl rfl ⋯) (λ_ _ _=>(eF (ck (xj (cQ I)) (vv 0) (vc 2)))) (λ_ _ _=>(a_ (a2 (vv 0) (vv 1)))))))) (ax (sn wG.nd 4 (cl gfAi I (a1 (vv 3)))) (aF (aR (cy (fG I.hd (pK I)) T.cT boot_dict (a1 (gH (own:=["part","comes"]) (fr:=[]) rfl (ux (vv 4)) {O,∅,∅} (fB ∅) (λ_ _ _=>(iD (n:=2) rfl (cN (cj (i:=0) (do¬List.Nodup (["part","comes"]:List Tp);by decide +kernel) rfl (Or.inl rfl)) (cN (cj (i:=1) (do¬List.Nodup (["part","comes"]:List Tp);by decide +kernel) rfl (Or.inl rfl)) gK)))) (λ_=>pO rfl rfl ⋯) (λ_ _ _=>(eF (eJ (vv 1)))) (λ_ _ _=>(a_ (a2 (vv 0) cw))))))))))),?_};{fa,F,bs,es,cs,rs,cu,k,da,kd,zs,rfl,fb,hk,hda,akd,W,ma,kk}:=h;hcl:=fb.fi.cl;hfew:=W.cD;L:=W.Rv (lfp cu);{_,O,fa,.ref (F 2),O,.inl {du F 9,.inr "cuts",fb.dk,O,(dh F 2 ⋯).symm},F 2,O,{_,az.of fb.ec},cI (xs:=cs) (jH ()) (λj us X=>ag H X/\∃es:List 67,cm X us es/\AL (λe k=>e.1=nd k) es (cu.take j)) {ag.refl _,[],trivial,.nil} (λ_ _ X s=>az.of (s.1 _ _ fb.ec)) (λj x us X K1 K0 hx s' k1 k0=>?_) λX np us s' hu hq=>?_};{m,d,v,t}:=s';{c,hc,p}:=fb.fi.ct.at hx;{b,vp,vn,y,rfl,h1,h2,h3,h4,h5}:=p.af m.af;dJ (B:=K0 X) ?_;{_,O,b,_,0,vp,O,O,aQ.of h1,O,aG rfl,λtq X4 g4 s4 e4=>k1 _ _ {m.trans s4,d++[(nd c,vp,.bl true)],cm.snoc (e:=(nd c,vp,.bl true)) {tq,O,e4,hH h3.ne (h2.af s4.af)} (v.af s4.af),?_}};[qu,hc];t.snoc rfl;{m,d,v,t}:=s';t<-[fb.fi.ct.1,q0];C:ag X (upd X np (.lst us)):=ag.new hq;{np,us,d,O,az.of aE,v.af C.af,(),λca X2 g2 s2 e2=>?_};smC:fD (putAll [] d) (λk=>k∈cu):=λa=>(Mn t fD.nil a).trans {λz=>z.resolve_left id,.inr};(by generalize putAll [] d=kc at e2 smC);M:=(m.trans C).trans s2;fca:H ca=none:=(m.trans C).free g2;(by clear v t hq hu C s2 g2 m);nca:ca≠da:=λz=>(by rw[z]at fca;rcases hda with q|⟨o',q⟩ <;> rw[fca]at q <;> cases q);hda2:=Rd.same hda M;{_,O,da,kd,O,rG hda2 λo Y hY fY eY=>?_};tY:aj X2 Y:=λb us e=>hY b _ (λz=>do !z;by rcases hda2 with q|⟨o',q⟩ <;> rw[q]at e <;> cases e) e;tHY:=M.af.trans tY;ecY:=hY ca _ nca e2;aY:=akd.imp λe x q=>q.imp (R':=iu Y) tHY λr=>r.af tHY;xo (jH (do[aY.1];())) (λj us X=>ag Y X/\∃es:List 67,cm X us es/\AL (EK (iu X) X) es ((zs.take j).filter (lfp cu))) {ag.refl _,[],trivial,.nil} (λ_ _ X s'=>s'.1 _ _ eY) (λj e us X p K1 K0 hx s' hp k1 k0=>?_) λX3 np us s' hy hq=>?_;{m,d,v,t}:=s';{r,I,p1,p2,p3}:=aY.at hx;sp:ag X (upd X p (.tup [e.2.1,e.2.2])):=ag.new hp;ep:(upd X p (.tup [e.2.1,e.2.2])) p=! (.tup [e.2.1,e.2.2]):=aE;(by generalize upd X p (.tup [e.2.1,e.2.2])=X1 at sp ep);g:=m.trans sp;hpt:r.pt≠[]:=(W.pt r (qk I)).ne;{p,_,O,aQ.of ep,O,_,_,O,_,_,O,O,?_};{_,O,_,O,ca,kc,nd r.pt,O,.inl (g _ _ ecY),hH hpt (p2.af g.af),_,O,?_};[qF rfl];S<|r.pt∈cu;[smC.yes S];bL rfl (k0 _ {g,d,v.af sp.af,?_});[qu,I,zy,show(!r).toList=[r] from rfl,yf (do[Ii S];qo),we,z6];t.imp λe x p=>p.imp sp.af λq=>q.af sp.af;[smC.no S];cf rfl ?_;{_,O,_,O,aG rfl,λt3 X3 g3 s3 e3=>?_};D:=sp.trans s3;k1 _ _ {m.trans D,d++[(.tup r.pt,e.2.1,e.2.2)],?_,?_};cm.snoc (e:=(.tup r.pt,e.2.1,e.2.2)) {t3,O,e3,(p2.af g.af).af s3.af} (v.af D.af);[qu,I,zy,show(!r).toList=[r] from rfl,vd (GS S),we];(t.imp λe x p=>p.imp D.af λq=>q.af D.af).snoc {O,(p2.af g.af).af s3.af,(iu.af p3 g.af).af s3.af};{m,d,v,t}:=s';t<-[aY.1,q0];C:ag X3 (upd X3 np (.lst us)):=ag.new hq;{np,us,d,O,az.of aE,v.af C.af,?_,λla X4 g4 s4 e4=>?_};this:us.length<=kd.length:=hy;this:=aY.1;();e4<-[l_ _ [] (do[z7];vQ t L.nd),z7];J:=(m.trans C).trans s4;al4:AL (EK (iu X4) X4) d (zs.filter (lfp cu)):=t.imp λe x p=>p.imp (C.trans s4).af λq=>q.af (C.trans s4).af;fla:Y la=none:=(m.trans C).free g4;(by clear t v hq hy C s4 g4 m);fla2:=fY _ fla;flaH:=M.free fla2;ma4:MA X4:=J.af _ _ (tHY _ _ ma);{_,O,la,d,zs.filter (lfp cu),O,.inl e4,al4,L,ma4,λX5 ra kr f s5 hla5 gra era rm rcr hkf=>?_};N:=J.free gra;fra2:=fY _ N;fraH:=M.free fra2;s5o:∀{b u},X4 b=!u->b≠la->X5 b=!u:=λe n=>s5 _ _ (do[bX n];e);hkl:=rm.cD L.cD;{_,O,ra,kr,O,rG (.inl era) λo2 U hU fU eU=>?_};tU:aj X5 U:=λb us e=>hU b _ (λz=>do !z;e<-[era];-e) e;R:=rm.af tU;{ks,aks}:=zL R.ent;xo (jH ()) (λj us X=>ag U X/\∃es:List 67,cm X us es/\AL (λe k=>e.1=nd k) es ((ks.take j).filter λk=>decide (f k=!true))) {ag.refl _,[],trivial,.nil} (λ_ _ X s'=>s'.1 _ _ eU) (λj e us X p K1 K0 hx s' hp k1 k0=>?_) λX6 np us s' hy hq=>?_;{m,d,v,t}:=s';{a,ha,p1,p2,p3}:=aks.at hx;hv:=pM R.kn hx p2;hv<-[R.at_];{b,hb,hbv}:=wb.mp hv;{e1,G,e22}:=e;hbv:V.bl b=e22:=hbv;!hbv;sp:ag X (upd X p (.tup [G,.bl b])):=ag.new hp;ep:(upd X p (.tup [G,.bl b])) p=!(.tup [G,.bl b]):=aE;¬(_);(by generalize upd X p (.tup [G,.bl b])=X1 at sp ep);g:=m.trans sp;{p,_,O,aQ.of ep,O,_,_,O,_,_,O,O,?_};(by cases b with|false|true=>?_);{_,O,_,O,bL rfl (k0 _ {g,d,v.af sp.af,?_})};[qu,ha,zy,show(!a).toList=[a] from rfl,yf (by rw[hb];decide),we,z6];t;{_,O,_,O,cf rfl {_,O,aG rfl,λt3 X3 g3 s3 e3=>?_}};D:=sp.trans s3;k1 _ _ {m.trans D,d++[(nd a,G,.bl true)],cm.snoc (e:=(nd a,G,.bl true)) {t3,O,e3,(GK.af p3 g.af).af s3.af} (v.af D.af),?_};[qu,ha,zy,show(!a).toList=[a] from rfl,vd (by rw[hb];decide),we];t.snoc rfl;{m,d,v,t}:=s';t<-[aks.1,q0];C:ag X6 (upd X6 np (.lst us)):=ag.new hq;{np,us,d,O,az.of aE,v.af C.af,?_,λqa X7 g7 s7 e7=>?_};this:us.length<=kr.length:=hy;();smQ:fD (putAll [] d) (λk=>k∈ks.filter λk=>decide (f k=!true)):=λa=>(Mn t fD.nil a).trans {λz=>z.resolve_left id,.inr};sU7:=(m.trans C).trans s7;Z:U qa=none:=(m.trans C).free g7;toU:∀{b u},H b=!u->b≠da->X7 b=!u:=λe n=>sU7 _ _ (hU _ _ (a9 e fraH) (s5o (J _ _ (hY _ _ n (M _ _ e))) (a9 e flaH)));eda7:X7 da=!(.dA o (.dG kd)):=sU7 _ _ (hU _ _ (a9 eY N) (s5o (J _ _ eY) (a9 eY fla)));fqH:H qa=none:=(do h5:=fU _ Z;(by cases q:H qa with|none|some u=>?_);2;z<|qa=da;Z<-[z];Z<-[hU _ _ (a9 eY N) (s5o (J _ _ eY) (a9 eY fla))];-Z;h5<-[s5o (J _ _ (hY _ _ z (M _ _ q))) (a9 q flaH)];-h5);kk X7 qa _ f (λb u e=>?_) (.inr {o,eda7}) fqH e7 rcr λa=>(smQ a).trans {λz=>qN (qw.mp z).2,λh=>qw.mpr {?_,qH h}};nb:b≠da:=λz=>(do e<-[z,d6];-e);e<-[bX nb];toU e nb;h:f a=!true:=h;hv:=R.at_ a;hv<-[h];{e,he,e1}:=GH hv;{k',hk',p}:=aks.mem he;[<-qV (p.2.1.symm.trans e1)];hk'
def Bz(T:Txt K mg tk)(F:FO K mg "words_told" lU)(p:zY P w K mg base):Ai P w K mg base:=do aO F Gz (ik λ_ _=>rfl) {} λfa cdv A outer s H vs Q E S h=>?_;hu1:(A.deeper (envOfC "words_told" (ah lU) ↑s fa cdv)).units+1<cLine:=cY S;{_,(ax (sn Gz.nd 2 (KO p S T.cZ boot_sorted (a1 (rH (ah lU) Aj [("part",1)] (il (c6 hu1 (vv 0) aM (λ_ _=>rfl))) (λ_ _ _=>(eF (ck (yH S) (xt (vv 0)) (vc 1)))) (λ_ _ _=>(vv 0)))))) (aF (aR (cy (fG S.hd (pK S)) T.cT boot_dict (a1 (DM (il (vv 2)) (λ_ _ _=>dF) (λ_ _ _=>(a_ (a2 (a_ (a2 (xt (vv 0)) (xt (vv 0)))) (xt (vv 0))))))))))),?_};{fa,vp,pt,L,n,C,m,rfl,{M,la,vs,ca,cs,rd,_,_,_,_,t,N,an,W},hvp,z,kk}:=h;G:cs.length=m:=(do[an.1,zh]);cD:=W.cD;{_,O,fa,.ref ca,O,.inl {M,.inr "cells",rd,O,t.symm},ca,O,{_,az.of N},cI (xs:=cs) (cM ()) (λj ys H'=>H'=H/\AN (mu C H) ys (((List.range m).take j).filter λi=>decide ((C i).pt=pt))) {O,.nil} (λ_ _ H' s'=>do[s'.1];az.of N) (λj x ys H' K1 K0 hx s' k1 k0=>?_) λH1 J ys s' hy hq=>?_};{rfl,X}:=s';{i,ei,ce}:=an.at hx;hin:i<m:=qv.mp (qk ei);ce':=ce;{b,vq,vr,vc,kq,rfl,h1,h2,h3,h4,h5}:=ce;tk:(List.range m).take (j+1)=(List.range m).take j++[i]:=(do[qu,ei];2);{_,O,b,_,0,_,O,O,aQ.of h1,O,_,O,tD (C i).pt,tD pt,(bE h2).dv,(bE hvp).dv,(W.lay i hin).1,z,qf (yh _ _) (qf (eK _) ⋯),_,O,?_};U:(if false=true then not (PyData.eqv (tD (C i).pt) (tD pt)) else PyData.eqv (tD (C i).pt) (tD pt))=decide ((C i).pt=pt):=gN _ _;hp<|(C i).pt=pt;cf (do[U];qH hp) ?_;{_,O,k1 _ _ {O,?_}};[tk];AN.pick (vs:=cs) X ce' (qH hp);bL (do[U];decide_eq_false hp) ?_;k0 _ {O,?_};[tk];X.skip (do 0<|hp);{rfl,X}:=s';X<-[G,jc (do[zh];qb _)];hyl:ys.length<=100:=(do hy<-[G];());n1:ag H1 (upd H1 J (.lst ys)):=ag.new hq;e1:(upd H1 J (.lst ys)) J=! (.lst ys):=aE;f:=X.imp λv i g=>mu.af g n1.af;(by generalize upd H1 J (.lst ys)=H2 at n1 e1 f);R:((List.range m).filter λi=>decide ((C i).pt=pt)).Pairwise λa b=>bK (.tuple [.int (C a).ka,.int (C a).kb]) (.tuple [.int (C b).ka,.int (C b).kb])=true:=((tH m).imp_of_mem λ{a b} ha hb h=>f7 (W.up a b h (qv.mp hb))).filter _;keys:KeysAre (((List.range m).filter λi=>decide ((C i).pt=pt)).map λi=>.tuple [.int (C i).ka,.int (C i).kb]) 2:=pX λd hd=>(do _;{i,_,rfl}:=qc.mp hd;.inl {_,_,O});{J,ys,((List.range m).filter λi=>decide ((C i).pt=pt)).map λi=>.tuple [.int (C i).ka,.int (C i).kb],2,O,az.of e1,do[qh,f.1],keys,{(),.inr (z8.mpr R)},λmm y d H' Q' q1 q2 s q=>?_,λq H3 ix g3 s3 Z e3=>?_};{k,ek,ce}:=f.at q1;q2<-[qj,ek];-qJ q2;{y,C,k,O,ce.af s.af,λkv hk=>q H' _ (ag.refl _) hk.dv};hix:∀i∈ix,i<ys.length:=λi hi=>(do this:=(Z.1.mem_iff).mp hi;this<-[qv,qh];[f.1];this);a2:=f.ix ix hix;a2<-[rQ (.refl _) R Z];(by generalize ix.map (λi=>ys.getD i .aS)=zs at e3 a2;generalize Y:((List.range m).filter λi=>decide ((C i).pt=pt))=ms at a2);hzl:zs.length<=100:=(do[a2.1,<-Y];qf (wj _ _) (do[zh];cD));a3:=a2.imp λv i g=>mu.af g s3.af;{_,O,q,O,{_,az.of e3},cI (xs:=zs) (cM ()) (λj us H'=>ag H3 H'/\∃kvs,cm H' us kvs/\kvs.map (λe=>(e.1,e.2.2))=(ms.take j).map (λi=>(KD.two (C i).rw (C i).cl,V.str (C i).wd))) {ag.refl _,[],trivial,O} (λ_ _ H' s'=>az.of (s'.1 _ _ e3)) (λj x us H' K1 K0 hx s' k1 k0=>?_) λH4 up us s' hu4' huq=>?_};{s',kvs,pr,pk}:=s';{i,ei,ce}:=a3.at hx;{b,vq,vr,vc,kq,rfl,h1,h2,h3,h4,h5}:=ce.af s'.af;{c,rfl,hc}:=h3;{d',rfl,hd}:=h4;tk:ms.take (j+1)=ms.take j++[i]:=(do[qu,ei];2);dJ (B:=K0 H') ?_;{_,O,b,_,1,_,O,O,aQ.of h1,O,_,O,b,_,2,_,O,O,aQ.of h1,O,aG rfl,λtq H5 g5 D e5=>?_};{_,O,b,_,3,_,O,O,aQ.of (D _ _ h1),O,aG rfl,λpq H6 g6 o e6=>k1 _ _ {(s'.trans D).trans o,kvs++[(.two (C i).rw (C i).cl,.ref tq,.str (C i).wd)],cm.snoc (e:=(.two (C i).rw (C i).cl,.ref tq,.str (C i).wd)) {pq,O,e6,tq,c,d',O,o _ _ e5,o _ _ (D _ _ hc),o _ _ (D _ _ hd)} (pr.af (D.trans o).af),?_}};[tk,zt,zt,pk];2;{s4,kvs,pr,pk}:=s';n4:ag H4 (upd H4 up (.lst us)):=ag.new huq;I:=((n1.trans s3).trans s4).trans n4;{up,us,kvs,O,az.of aE,pr.af n4.af,(),λdq H7 g7 s7 e7=>kk H7 dq _ (I.trans s7) (I.free g7) e7 λr c=>?_};pk<-[show zs.length=ms.length from a2.1,q0];[Mi];¬List.foldl _ (V.str "") kvs=_;e:kvs.foldl (λa e=>if e.1=KD.two r c then e.2.2 else a) (V.str "")=(kvs.map (λe=>(e.1,e.2.2))).foldl (λa (e:KD×V)=>if e.1=KD.two r c then e.2 else a) (V.str ""):=(do[List.foldl_map]);[e,pk,List.foldl_map,<-Y];LJ C pt r c m
def AG(T:Txt K mg tk)(F:FO K mg "_law_signs" oC)(m:gE P w K mg base)(gfBg:Ac P w K mg base):yG P w K mg base:=do aO F lY (zS λ_ _ _ _=>rfl) {} λfa cdv A outer s H vs Q E y h=>?_;hu1:(A.deeper (envOfC "_law_signs" (ah oC) ↑s fa cdv)).units+1<cLine:=cY y;{_,(ax (sn lY.nd 4 kH) (ax (fo (jY (do 2) T.c9 (a1 (cl m y (a2 (vv 0) aD)))) (gn lY.nd 5) (ax (sn lY.nd 6 (xa (vv 3) (cl m y (a2 (vv 0) (cb de T.bS boot_len (a1 (vv 3))))))) (ax (sn lY.nd 7 (xa (aJ JG (bT (a1 dH)) (bm PySem.F.plainAttrs_dict PySem.F.slot_dict_get PySem.F.type_dict_get (kR (cQ y)) (vv 4) (a2 (vv 6) (bT dj)))) (cl m y (a2 (vv 0) (aJ cU aD (cb PX T.bS boot_len (a1 (bm PySem.F.plainAttrs_dict PySem.F.slot_dict_get PySem.F.type_dict_get (kR (cQ y)) (vv 4) (a2 (vv 6) (bT dj)))))))))) (ax (sn lY.nd 8 (a_ (ac (xa (vv 2) (aJ eN (vv 5) (cb de T.bS boot_len (a1 (vv 2))))) (a2 (aJ cU aD (vv 5)) aD)))) (ax (sn lY.nd 9 (ce eh (cl m y (a2 (vv 0) aD)) aD)) (ax (sn lY.nd 10 (a_ (ac (aJ cU aD (aJ jX (vv 5) aD)) (a2 (aJ eN (vv 5) aD) aD)))) (ax (ap (c6 hu1 (vv 1) aM (λ_ _=>rfl)) (a1 (a_ (ac (vv 6) (ac (vv 8) (ac (vv 7) (ac (vv 10) (a2 (cl gfBg y (a2 (vv 0) (vv 3))) (vv 9))))))))) (aF (jZ (cQ y) (vv 4) (vv 6) (aJ JG (bm PySem.F.plainAttrs_dict PySem.F.slot_dict_get PySem.F.type_dict_get (kR (cQ y)) (vv 4) (a2 (vv 6) (bT dj))) (bT (a1 (vv 8)))) rfl))))))))) (aF (aR (vv 4))))),?_};{d,fa,r,kq,F,kn,rfl,dw,dk,e3,er,ek,hkn,k0,k1,rd,G,fd,rf,kf,kk}:=h;λnq H1 gn W en=>?_;hd:H d≠none:=let⟨_,_,e⟩:=dw;(do[e];λz=>nomatch z);hf:H (F 3)≠none:=(do[e3];λz=>nomatch z);nd:nq≠d:=λz=>hd (z▸gn);nf:nq≠F 3:=λz=>hf (z▸gn);nfa:fa≠d:=λz=>(do _;{_,_,e}:=dw;e<-[<-z,dk];-e);nff:fa≠F 3:=λz=>(do e3<-[<-z,dk];-e3);B1:SB H H1 d (F 3) nq (λ_=>⟨[],[],none,0,0,0,.none,false⟩) 0 [] []:={Rest.refl.same W,dw.same W,W _ _ e3,.nil,{qx _,(λi j _ z=>nomatch z),(λi z=>nomatch z),(λi z=>nomatch z),(λi z=>nomatch z),(λi z=>nomatch z)},(λi z=>nomatch z),(λi z=>nomatch z),(λi z=>nomatch z),en,{(λe z=>nomatch z),(λk u z=>nomatch z)},(λk u z=>nomatch z)};{_,O,d,25,O,B1.dw,⋯,⋯,λc H2 s2 w2 a2 b2=>?_};B2:=B1.draw hd fd nd s2 w2;{c,O,(),(),bY (lo:=0) (n:=c.toNat) (λj σ Z=>AD λS xs kvs u5 u6 u7 u8 u9=>∃u10,gF (σ=[! (.ref d),! (.ref fa),!(.ref r),!(.ref kq),!(.ref nq),u5,u6,u7,u8,u9,u10]) (SB H Z d (F 3) nq S j xs kvs) (xs.length=j) (kvs.length<=j)) {_,_,_,_,_,_,_,_,_,O,B2,O,qb _} ?_ ?_};(j,σ,Z,hj,{S,xs,kvs,u5,u6,u7,u8,u9,u10,rfl,B,hx,hk},Nx,hNx);ekZ:=B.out ek G kf;erZ:=B.out er rd rf;knZ:KN Z kn:=hkn.af (mL B.ro λb z ys e=>do(by rcases z with z|z <;> subst z);{_,_,e'}:=dw;e<-[e'];-e;e<-[e3];-e);{_,O,_,O,_,O,kq,_,O,.inl (az.of ekZ),d,_,O,B.dw,(),(),λi1 Z1 W w1 x1 y1=>{kq,kn,i1,O,O,az.of (DP.to W ekZ G),x1,y1,λvp hvp=>?_}};t1:=B.dw.af W;B1:=B.draw hd fd nd W w1;kn1:=knZ.af t1;{p,gp,pn}:=kn1.np hvp;{aG rfl,λl2 Z2 g2 s2 e2=>?_};{_,O,Qv (B1.same s2).en,_,O,aG rfl,λl3 Z3 g3 s3 e3'=>?_};C:=s2.trans s3;B3:=B1.same C;{us,hl,hu,gu}:=B1.get p;{lq,gl,el}:=gu Z3 l3 (λb o _ e=>C _ _ e) e3';{nq,kvs,.tup p,_,_,O,O,B3.en,gp.af C.af,l2,lq,[.aS],us,O,gl,s3 _ _ e2,el,?_,λcq Z4 g4 s4 e4=>?_};¬1+us.length<=sizeLine;wu (cC ());B4:=B3.same s4;{_,O,_,O,Qv B4.en,_,O,aG rfl,λl5 Z5 g5 s5 e5=>?_};B5:=B4.same s5;M:=(C.trans s4).trans s5;{lq',gl',el'}:=gu Z5 l5 (λb o _ e=>M _ _ e) e5;{nq,kvs,.tup p,_,_,O,O,B5.en,gp.af M.af,_,us.length,O,do[gl'];.inl {_,az.of el',O},_,_,O,O,d,_,O,B5.dw,(),(),λi2 Z6 s6 w6 x2 y2=>{cq,_,i2,O,O,az.of (DP.to s6 (s5 _ _ e4) (λz=>hd (z▸B3.free g4))),x2,do[qg,qr];(),λvb hvb=>?_}};B6:=B5.draw hd fd nd s6 w6;X:=M.af.trans (B5.dw.af s6);gp6:=gp.af X;{bo,gb,hb}:∃bo,GK Z6 (kd (cJ S) bo) vb/\∀i,bo=!i->i<j/\(S i).pt=p:=(do z||z:=qy.mp hvb;⟨none,z,(λi z=>nomatch z)⟩;{i,a1,a2,a3}:=hu vb z;{!i,NM.af a3 X,λi' z=>do-z;{a1,a2}});er6:=B6.out er rd rf;{_,O,_,O,_,O,r,_,O,.inl (az.of er6),_,_,O,O,(by decide:(0:Int)<2),r,_,_,O,O,az.of er6,Int.emod_nonneg _ ⋯,Int.emod_lt_of_pos _ ⋯,λvw hvw=>?_};{w,rfl,hw}:∃w,vw=.str w/\PyData.strOk w=true:=(by have:=hvw;ac_nf at this;rcases this with h|h <;> exact{_,h,∅});{_,O,_,_,O,O,aG rfl,λq7 Z7 g7 s7 e7=>?_};B7:=B6.same s7;{_,O,d,5,O,B7.dw,⋯,⋯,λi3 Z8 s8 w8 x3 y3=>{_,_,O,O,?_}};B8:=B7.draw hd fd nd s8 w8;(by generalize decide ((0:Int)<i3)=lv);{_,O,_,_,O,O,{⋯,⋯},_,_,O,O,_,O,_,_,O,O,(by decide:(0:Int)<2),aG rfl,λq9 Z9 g9 s9 e9=>?_};B9:=B8.same s9;(by rw[Int.zero_add]at e7 e9);s69:=(B7.dw.af s8).trans s9.af;t69:=s7.af.trans s69;ek9:=B9.out ek G kf;kn9:∀v∈kn,E8 Z9 v:=λv hv=>(kn1.af (X.trans t69)).np hv;{_,O,fa,.ref (F 3),O,.inl {du F 9,.inr "signs",.inl (B9.out dk nfa nff),O,(dh F 3 ⋯).symm},.inl {O,_,az.of B9.ex},_,O,_,O,_,O,_,O,_,O,_,O,d,kq,kn,O,B9.dw,ek9,G,k0,(),kn9,λZ10 vg dd s10 w10 dt so os=>?_};B10:=B9.draw hd fd nd s10 w10;U:=B9.dw.af s10;{_,O,aG rfl,λV t g11 q e11=>{F 3,xs,_,O,O,(B10.same q).ex,cC (),?_}};L:=B10.same q;x:=(t69.trans U).trans q.af;I:=(s69.trans U).trans q.af;t911:=U.trans q.af;N:=L.sign (r:={p,[.inr w,.inl (40+(j:Int)),.inl 0],bo,50+(j:Int) / 2,(j:Int) % 2,0,dd,lv}) hf fd nf () e11 (gp6.af x) {q7,O,I _ _ e7} (gb.af x) (t911 _ _ e9) (dt.af q.af) rfl hw pn {O,O,O} hb so os;D:aj t (upd t (F 3) (.lst (xs++[.ref V]))):=aj.wl L.ex;f:=gp6.af (x.trans D);e12:=(I.trans D) _ _ e7;k12:∀b o,H b=none->t b=!o->upd t (F 3) (.lst (xs++[.ref V])) b=!o:=λb o hn e=>(aB λ(z:b=F 3)=>hf (z▸hn)).trans e;(by generalize upd t (F 3) (.lst (xs++[.ref V]))=Z12 at N f e12 k12 D);{_,O,Qv N.en,_,O,aG rfl,λl13 Z13 g13 g e13=>?_};B13:=N.same g;{us2,hl2,cQ,gu2}:=L.get p;{nq,kvs,.tup p,_,_,O,O,B13.en,f.af g.af,_,O,aG rfl,λl14 Z14 g14 R e14=>?_};Y:=g.trans R;B14:=B13.same R;{lq2,gl2,el2}:=gu2 Z13 l13 (λb o hn e=>g _ _ (k12 b o hn e)) e13;{lq2,l14,us2,[.ref q7],gl2,O,R _ _ el2,e14,?_,λl15 Z15 g15 J e15=>?_};¬us2.length+1<=sizeLine;wu (cC ());B15:=B14.same J;a:=Y.trans J;{_,O,_,O,nq,kvs,.tup p,O,B15.en,f.af a.af,cC (),?_};hNx _ _ {_,_,_,_,_,_,_,_,_,O,B15.put gn nd nf pn (f.af a.af) e15 (B14.free g15) (do[qg,qr];()) (do[qg,qr];()) (λv hv=>?_),do[qg,qr,hx],qf (iA _ _ _ _) ()};z||z:=zg.mp hv;{i,a1,a2,a3}:=cQ v z;{i,(),do[eH a1];a2,NM.af (NM.FN (Gs.ext S j _) a1 a3) (D.trans a.af)};[qt.mp z];{j,yu _,do[gO],?_};(by unfold NM cJ);[gO];{q7,O,a _ _ e12};(σ,Z,{S,xs,kvs,u5,u6,u7,u8,u9,u10,rfl,B,hx,hk});{_,O,kk Z S _ xs nq kvs B.ro B.ex B.an B.ws () B.ok gn B.en () B.nd B.fr}
def D'(T:Txt K mg tk)(F:FO K mg "_law_stretches" oB)(f:gE P w K mg base)(R:zO P w K mg base):zN P w K mg base:=do aO F kG (zS λ_ _ _ _=>rfl) {} λfa cdv A outer s H vs Q E C h=>?_;hu1:(A.deeper (envOfC "_law_stretches" (ah oB) ↑s fa cdv)).units+1<cLine:=cY C;{_,(aF (fo (jY (do 2) T.c9 (a1 (cl f C (a2 (vv 0) aD)))) (gn kG.nd 4) (ax (sn kG.nd 5 (cb (Nc (uL C) C.hd) T.cZ boot_sorted (a1 (vv 3)))) (aF (bC (ck (pT C) (vv 5) (bT dj)) (ax (sn kG.nd 6 (xa (vv 5) (cl f C (a2 (vv 0) (cb de T.bS boot_len (a1 (vv 5))))))) (ax (sn kG.nd 7 (cl R C (a2 (vv 0) (dI (cQ C) (vv 3) (vv 6) (λ_ _=>rfl))))) (ax (sn kG.nd 8 (cl R C (a2 (vv 0) (dI (cQ C) (vv 3) (vv 6) (λ_ _=>rfl))))) (ax (sn kG.nd 9 (a_ (a2 (xl (vv 2)) (aJ cU aD (vv 4))))) (aF (bC (ck eh (cl f C (a2 (vv 0) aD)) aD) (ax (sn kG.nd 10 (xa (bT (ac aM (a2 aM dH))) (cl f C (a2 (vv 0) aD)))) (ax (sn kG.nd 11 (xa (bT (ac aM (a2 aM aM))) (cl f C (a2 (vv 0) aD)))) (aF (ap (c6 hu1 (vv 1) aM (λ_ _=>rfl)) (a1 (a_ (ac (vv 6) (ac (vv 7) (ac (vv 8) (ac (vv 11) (ac (vv 10) (a2 (vv 9) (a_ (a2 (aJ cU aD (aJ jX (vv 4) aD)) (aJ eN (vv 4) aD))))))))))))))) (aF (ap (c6 hu1 (vv 1) aM (λ_ _=>rfl)) (a1 (a_ (ac (vv 6) (ac (vv 7) (ac (vv 8) (ac (aJ O2 aM (aJ cU aD (aJ eN (vv 4) aD))) (a2 (vv 9) (a_ (a2 (aJ cU aD (aJ jX (vv 4) aD)) (aJ eN (vv 4) aD)))))))))))))))))) cg))))),?_};{d,fa,r,nq,F,S,n,xs,kvs,rfl,dw,dk,e3,an3,W,n24,e4,e5,er,en,kl,nmd,rd,fr,hi,lqn,kk}:=h;U:F 4≠d:=(fr 4 ⋯).1;L:F 5≠d:=(fr 5 ⋯).1;n45:F 4≠F 5:=λz=>absurd (hi 4 ⋯ 5 ⋯ z) ⋯;nqd:nq≠d:=λz=>(do _;{_,_,e}:=dw;e<-[<-z,en];-e);nq4:nq≠F 4:=λz=>(do e4<-[<-z,en];-e4);nq5:nq≠F 5:=λz=>(do e5<-[<-z,en];-e5);nfd:fa≠d:=λz=>(do _;{_,_,e}:=dw;e<-[<-z,dk];-e);nf4:fa≠F 4:=λz=>(do e4<-[<-z,dk];-e4);nf5:fa≠F 5:=λz=>(do e5<-[<-z,dk];-e5);r4:r≠F 4:=(fr 4 ⋯).2;r5:r≠F 5:=(fr 5 ⋯).2;{_,O,d,9,O,dw,⋯,⋯,λc H2 s2 w2 a2 b2=>?_};B2:TB H H2 d F S n 0 (λ_=>⟨[],none,none,"",none,[],0,0⟩) 0 (λ_=>⟨[],none,none,"",none,[],0,0⟩) 0 [] []:={Rest.refl.del (.inl rfl) s2,w2,DP.to s2 e4 U,.nil,{qx _,(λi j _ z=>nomatch z),(λi z=>nomatch z),(λi z=>nomatch z)},qb _,(λi z=>nomatch z),DP.to s2 e5 L,.nil,{qx _,(λi j _ z=>nomatch z),(λi z=>nomatch z),(λi z=>nomatch z)},qb _,(λi z=>nomatch z)};{c,O,(),(),bY (lo:=0) (n:=c.toNat) (λj σ Z=>AD λM m N q ms ns u4 u5=>AF λu6 u7 u8 u9 u10 u11=>gF (σ=[! (.ref d),! (.ref fa),!(.ref r),!(.ref nq),u4,u5,u6,u7,u8,u9,u10,u11]) (TB H Z d F S n j M m N q ms ns) (ms.length=m) (ns.length=q)) ⟨_,_,_,_,_,_,_,_,_,_,_,_,_,_,O,B2,O,O⟩ ?_ ?_};(j,σ,Z,hj,{M,m,N,q,ms,ns,u4,u5,u6,u7,u8,u9,u10,u11,rfl,B,hm,hn},Nx,hNx);t0:aj H Z:=mL B.ro λb z ys e=>(do(by rcases z with z|z|z <;> subst z);{_,_,e'}:=dw;e<-[e'];-e;e<-[e4];-e;e<-[e5];-e);enZ:=B.out en nqd nq4 nq5;ks:=nmd.1.af t0;{_,O,nq,kvs,_,3,O,Rd.of enZ,ks.lS,ks.keys,(),λpq Z1 ix g1 s1 six e1=>?_};hul:(ix.map λi=>(kvs.map (·.2.1)).getD i V.aS).length<=24:=(do[qh,OF six,qh];kl);ru:∀u∈ix.map (λi=>(kvs.map (·.2.1)).getD i V.aS),∃p,GK Z1 (.tup p) u/\Pn p/\∃lq us,vG kvs (.tup p)=!(.ref lq)/\H lq=! (.lst us)/\0<us.length/\us.length<=n/\∀v∈us,∃i,i<n/\(S i).pt=p/\NM (cJ S) H v i:=λu hu=>(do _;{e,he,rfl}:=qc.mp (NZ six (do[qh,qh]) u hu);{p,pn,h1,h2}:=ks e he;{p,h2.af s1.af,pn,?_};(by cases z:vG kvs (.tup p) with|none|some w=>?_);absurd h1 (ox z e he);{p',lq,us,h1,h2,rfl,h4,h5,h6,h7}:=nmd.2 _ _ z;(by injection h1 with h1);!h1;{lq,us,O,h4,h5,h6,h7});(by generalize (ix.map λi=>(kvs.map (·.2.1)).getD i V.aS)=us at e1 hul ru);{ps,pa}:∃ps:List (List Key),AL (λu p=>GK Z1 (.tup p) u/\Pn p) us ps:=let⟨ps,h1,h2⟩:=xN (P:=λu p=>GK Z1 (.tup p) u/\Pn p) λu h=>let⟨p,a,b,_⟩:=ru u h;{p,a,b};{ps,h1.symm,h2};pd:dE Z1 us (ps.map tD):=AL.oH (λv p g=>bE g.1) pa;{_,O,aG rfl,λzq Z2 g2 D f2=>?_};{.list (ps.map tD),.list [],.lst (az.of (D _ _ e1)) (pd.same D).dv,.lst (az.of f2) .nil,?_,O,?_,_,O,?_};(uS λk hk=>do _;{_,_,_,h}:=pa.ri hk;h).1;qf (ji _ _) ⋯;s02:=s1.trans D;B2:=B.same s02;hpq:pq≠d:=B.dw.ne g1;(by cases us with|nil|cons w0 ws0=>?_);this:ps=[]:=jb.mp pa.1.symm;!this;bL rfl (hNx _ _ {M,m,N,q,ms,ns,_,_,_,_,_,_,_,_,O,B2.next,hm,hn});{p0,J,rfl}:∃p0 J,ps=p0::J:=(do(by cases ps with|nil|cons p0 J=>?_);this:=pa.1;-this;{p0,J,O});cf rfl ?_;hu0:(0:Int)<((w0::ws0).length:Nat):=(do[zd];());e12:=D _ _ e1;{_,O,_,O,_,O,pq,_,O,.inl (az.of e12),d,_,O,B2.dw,hu0,(),λi3 Z3 s3 w3 x3 y3=>{pq,_,i3,O,O,az.of (DP.to s3 e12 hpq),x3,y3,λvp hvp=>?_}};{p,gp1,pn,lq,vs,gv,elH,l0,l1,hvs}:=ru vp hvp;{ld,l4,l5}:=lqn _ _ gv;B3:=B2.draw U L s3 w3;t13:=D.af.trans (B2.dw.af s3);t03:=s1.af.trans t13;gp3:=gp1.af t13;{_,O,_,O,_,O,nq,kvs,.tup p,_,O,Rd.of (B3.out en nqd nq4 nq5),gp3,gv,d,lq,vs,O,B3.dw,B3.out elH ld l4 l5,ld,l0,(),λZ4 q4 v4 b4 s4 w4 e4' m4=>?_};B4:=B3.draw U L s4 w4;t34:=B3.dw.af s4;{_,O,_,O,_,O,nq,kvs,.tup p,_,O,Rd.of (B4.out en nqd nq4 nq5),gp3.af t34,gv,d,lq,vs,O,B4.dw,B4.out elH ld l4 l5,ld,l0,(),λZ5 q5 v5 b5 s5 w5 e5' m5=>?_};B5:=B4.draw U L s5 w5;t45:=B4.dw.af s5;t35:=t34.trans t45;t05:=(t0.trans t03).trans t35;{i4,hi4,pt4,nm4}:=hvs v4 m4;{i5,hi5,pt5,nm5'}:=hvs v5 m5;sd4:rE S Z5 (!(i4,b4)) (.ref q4):={q4,v4,O,t45 _ _ e4',NM.af nm4 t05};sd5:rE S Z5 (!(i5,b5)) (.ref q5):={q5,v5,O,e5',NM.af nm5' t05};so4:dZ S n p (!(i4,b4)):=λi b z=>(do-z;{hi4,pt4});so5:dZ S n p (!(i5,b5)):=λi b z=>(do-z;{hi5,pt5});gp5:=gp3.af t35;{_,O,r,_,0,_,O,O,az.of (B5.out er rd r4 r5),O,_,O,_,_,O,O,aG rfl,λq6 Z6 g6 s6 e6=>?_};e6<-[Int.zero_add];B6:=B5.same s6;{_,O,d,3,O,B6.dw,⋯,⋯,λi7 Z7 s7 w7 x7 y7=>{_,_,O,O,_,O,?_}};X:=B6.draw U L s7 w7;t67:=B6.dw.af s7;t57:=s6.af.trans t67;e7:=t67 _ _ e6;nl:Lay [.inr "ann",.inl (70+(j:Int))]:=(zM (x:=70+(j:Int)) (qm)).lay;(by generalize decide ((0:Int)<i7)=bb;cases bb with|true|false=>?_);cf rfl ?_;{aG rfl,λy8 Z8 g8 s8 f8=>{_,O,d,3,O,(X.same s8).dw,⋯,⋯,λi9 Z9 s9 w9 x9 y9=>{y8,_,i9,O,O,az.of (DP.to s9 f8 (X.dw.ne g8)),x9,y9,λvv hvv=>?_}}};{vl,rfl,hvl}:∃vl,vv=Sn vl/\∀z,vl=!z->PyData.strOk z=true:=(do(by ac_nf at hvv;rcases hvv with h|h|h <;> subst h);{!"thin",O,λz e=>do-e;by decide +kernel};{!"thick",O,λz e=>do-e;by decide +kernel};{none,O,(λz e=>nomatch e)});B9:=(X.same s8).draw U L s9 w9;t79:=s8.af.trans ((X.same s8).dw.af s9);{aG rfl,λyA ZA gA sA fA=>{_,O,d,3,O,(B9.same sA).dw,⋯,⋯,λiB ZB sB wB xB yB=>{yA,_,iB,O,O,az.of (DP.to sB fA (B9.dw.ne gA)),xB,yB,λvk hvk=>?_}}};{kd,rfl,hkd}:∃kd,vk=.str kd/\PyData.strOk kd=true:=(by ac_nf at hvk;rcases hvk with h|h|h <;> subst h <;> exact{_,O,∅});BB:=(B9.same sA).draw U L sB wB;t9B:=sA.af.trans ((B9.same sA).dw.af sB);{_,O,fa,.ref (F 4),O,.inl {du F 9,.inr "marks",.inl (BB.out dk nfd nf4 nf5),O,(dh F 4 ⋯).symm},.inl {O,_,az.of BB.e4},_,O,_,O,_,O,_,O,_,O,_,O,_,O,_,_,O,O,{⋯,⋯},_,_,O,O,_,O,_,_,O,O,(by decide:(0:Int)<2),aG rfl,λqC ZC gC Y eC=>{aG rfl,λqD ZD gD I eD=>{F 4,ms,_,O,O,((BB.same Y).same I).e4,cC (do this:=B.lm;()),?_}}};eC<-[Int.zero_add];BD:=(BB.same Y).same I;tBD:=Y.af.trans I.af;G:=(t79.trans t9B).trans tBD;t:=t57.trans G;hNx _ _ {_,_,N,q,_,ns,_,_,_,_,_,_,_,_,O,BD.mark (r:={p,!(i4,b4),!(i5,b5),kd,vl,[.inr "ann",.inl (70+(j:Int))],80+(j:Int) / 2,(j:Int) % 2}) U n45 () {qD,_,_,_,_,qC,O,eD,gp5.af t,sd4.af t,sd5.af t,{q6,O,G _ _ e7},I _ _ eC} rfl rfl {so4,so5} {pn.lay,nl,hkd,hvl},do[qg,qr,hm],hn};bL rfl ?_;{_,O,fa,.ref (F 5),O,.inl {du F 9,.inr "notes",.inl (X.out dk nfd nf4 nf5),O,(dh F 5 ⋯).symm},.inl {O,_,az.of X.e5},_,O,_,O,_,O,_,O,_,_,O,O,(by decide:(0:Int)<4),_,_,O,O,_,O,O,(),(),λhm' aZ=>?_};{_,O,_,O,_,_,O,O,{⋯,⋯},_,_,O,O,_,O,_,_,O,O,(by decide:(0:Int)<2),aG rfl,λqC ZC gC Y eC=>{aG rfl,λqD ZD gD I eD=>{F 5,ns,_,O,O,((X.same Y).same I).e5,cC (do this:=B.ln;()),?_}}};eC<-[Int.zero_add];BD:=(X.same Y).same I;G:=Y.af.trans I.af;t:=t57.trans G;hNx _ _ {M,m,_,_,ms,_,_,_,_,_,_,_,_,_,O,BD.note (r:={p,!(i4,b4),!(i5,b5),hm',none,[.inr "ann",.inl (70+(j:Int))],80+(j:Int) / 2,(j:Int) % 2}) L n45 () {qD,_,_,_,_,qC,O,eD,gp5.af t,sd4.af t,sd5.af t,{q6,O,G _ _ e7},I _ _ eC} rfl rfl {so4,so5} {pn.lay,nl,aZ,(λz e=>nomatch e)},hm,do[qg,qr,hn]};(σ,Z,{M,m,N,q,ms,ns,u4,u5,u6,u7,u8,u9,u10,u11,rfl,B,hm,hn});this:=B.lm;kk Z M m N q ms ns (λb o e z=>B.ro b o e λy=>z (y.elim .inl λy=>.inr (y.elim .inl λy=>.inr (.inl y)))) B.e4 B.am B.wm () B.e5 B.an B.wn
def FV(T:Txt K mg tk)(F:FO K mg "is_let" uD)(i:yQ P w K mg base):Ar P w K mg base:=do aO F Ej (zS λ_ _ _ _=>rfl) {} λfa C A outer s H vs Q E t h=>?_;{_,(ax (sn Ej.nd 4 (cl i t (ac (vv 0) (a2 (vv 2) (vv 3))))) (ax (fo (il (vv 1)) (gn Ej.nd 5) (aF (bC (ck (qZ (cQ t)) (vv 5) (vv 4)) (aF (aR (dI (cQ t) (vv 4) (vv 5) (λ_ _=>rfl)))) cg))) (aF (aR cw)))),?_};{p,c,ys,ls,g,tt,cv,ps,rfl,hp,D,o,cD,B,pn,m}:=h;{_,O,_,O,_,O,p,ys,ls,g,tt,O,hp,D,o,cD,λH1 q kvs f L v tl=>?_};{_,O,c,O,{_,B.same f},Bj (xs:=cv) (λj σ H2=>∃r,σ=[! (.ref p),!(.ref c),!(.str g),!(.str tt),! (.ref q),r]/\ag H1 H2/\ps.findSome? (cO g tt ls)=(ps.drop j).findSome? (cO g tt ls)) {_,O,ag.refl _,O} (λj σ J _ ⟨_,_,s,_⟩=>(B.same f).same s) ?_ ?_};(j,x,σ,H2,I,{r,rfl,s2,a});{d,b,k}:=pn.at I;k:=k.af (f.trans s2).af;n:ps.drop j=d::ps.drop (j+1):=(do G:=(qp.mp b).1;[jo G,(qp.mp b).2]);a<-[n,j7];{_,O,_,O,q,kvs,.tup d,O,.inl (s2 _ _ v),k.1,_,O,?_};e:=tl d;(by cases z:cO g tt ls d with|none|some y=>?_;rw[z]at e a);[e];bL (do 2) {_,O,s2,a};(by rw[z]at e a);[e];cf (do 2) ?_;m<-[a];{_,O,_,O,q,kvs,.tup d,.bl y,O,.inl (s2 _ _ v),k.1,e,m H2 (f.trans s2)};(σ,H2,{r,rfl,s2,a});a<-[pn.1,List.drop_length];m<-[a];m H2 (f.trans s2)
def Cd(T:Txt K mg tk)(F:FO K mg "ordered" uI)(L:Ak P w K mg base):rN P w K mg base:=do aO F rS (nN λ_=>rfl) {} λfa cdv A outer s H vs Q E hr h=>?_;{_,(ax (sn rS.nd 1 (cl L hr (a1 (vv 0)))) (ax (sn rS.nd 2 (bT dj)) (ax (sn rS.nd 3 (cy PZ T.oj boot_list (a1 (bm PySem.F.plainAttrs_dict PySem.F.slot_dict_get PySem.F.type_dict_get (kR (cQ hr)) (vv 1) (a2 dH (bT dj)))))) (ax (xr PassesOwn.never (ck eh (cb de T.bS boot_len (a1 (vv 3))) aD) (ax (sn rS.nd 4 (Ll PySem.F.plainAttrs_list PySem.F.slot_list_pop PySem.F.type_list_pop IS (vv 3))) (ax (ap (vv 2) (a1 (vv 4))) (aF (pL (bm PySem.F.plainAttrs_list PySem.F.slot_list_extend PySem.F.type_list_extend Mb (vv 3) (a1 (bm PySem.F.plainAttrs_dict PySem.F.slot_dict_get PySem.F.type_dict_get (kR (cQ hr)) (vv 1) (a2 (vv 4) (bT dj)))))))))) (aF (aR (vv 2))))))),?_};{p,ys,nk,bh,D,ms,js,t,rfl,hp,an,G,W,kk}:=h;cD:=W.cD;{_,O,p,ys,nk,bh,D,ms,js,t,O,hp,an,G,W,λH1 dq kvs s1 fd=>?_};{aG rfl,λe H2 g2 s2 e2=>?_};U:=fd.same s2;{_,O,.inr (.inr (.inl {O,.inr (.inr {kvs,U.has})})),aG rfl,λz0 H3 g3 I e3=>?_};r:=U.same I;{a,vs,ea,eva,ava}:=r.get e3 none (λi z=>do-z);{dq,kvs,.aS,.aS,.ref z0,O,O,r.has,O,?_};[show(vG kvs KD.aS).getD (V.ref z0)=.ref a from ea];{a,vs,O,.inl (az.of eva),λb H4 g4 s4 e4=>?_};w:Rga.WF (Rga.cS bh ms):=W.wf;rl:=Rga.gU w;n:e≠b:=λz=>(do g4<-[<-z,I _ _ e2];-g4);y:H1 e=none:=g2;Y:H1 b=none:=(s2.trans I).free g4;s14:=(s2.trans I).trans s4;d0:=Rga.kI w;d0<-[show Rga.rk (Rga.cS bh ms) none=(kids bh ms none).reverse from GC bh ms none];{λmm σ c=>∃(out done st:List Nat) (d tv:List V) (u4:Option V),σ=[! (.ref p),!(.ref dq),!(.ref e),!(.ref b),u4]/\ag H1 c/\c e=!(.lst d)/\AN (NM nk c) d done/\c b=!(.lst tv)/\AN (NM nk c) tv st/\Rga.nK (Rga.rk (Rga.cS bh ms)) st.reverse out/\done++out=Rga.iJ (Rga.cS bh ms)/\mm=out.length,{_,_,[],kids bh ms none,[],vs,none,O,s14,s4 _ _ (I _ _ e2),.nil,e4,ava.imp λv i g=>g.af s4.af,d0,O,O},?_};(mm,σ,c,{out,done,st,d,tv,u4,rfl,s5,er,ar,Z,at',j,N,rfl});R:done.length+out.length=ms.length:=(do[<-rl,<-N,qg]);hst:=Rga.jT j;hst<-[vy];{_,O,b,_,O,.inl (az.of Z),_,_,O,O,_,O,?_};z||{st',x,z}:=jf st;!z;h0:tv=[]:=jb.mp at'.1;!h0;bL rfl ?_;this:=j.nil_inv;!this;N<-[z6];!N;{_,O,kk c e d (s1.trans s5) (s1.free y) er ar};z<-[jg];!z;{us,o,rfl,au,hx}:=at'.last;j<-[jt,mo,List.reverse_nil,z7,List.singleton_append];{k,rfl,f}:=j.cons_inv;hxm:x∈ms:=Rga.pC w (do[<-N];z9 _ qm);f<-[show Rga.rk (Rga.cS bh ms) (!x)=(kids bh ms (!x)).reverse from GC bh ms (!x)];hl2:=Rga.jT f;hl2<-[qg,vy,vy];R<-[zd];cf (qH (do¬(0:Int)<((us++[o]).length:Nat);[qg,qr];())) ?_;Na (λσ' H'=>vC λ(d:List V) (tv:List V) (u4:Option V)=>m_ (σ'=[! (.ref p),!(.ref dq),!(.ref e),!(.ref b),u4]) (ag H1 H') (H' e=!(.lst d)) (AN (NM nk H') d (done++[x])) (H' b=!(.lst tv)) (AN (NM nk H') tv (st'++kids bh ms (!x)))) (λσ' H' ⟨rv',tv',u4',b1,b2,b3,b4,b5,b6⟩=>{k.length,do[zd];(),k,done++[x],_,rv',tv',u4',b1,b2,b3,b4,b5,b6,?_,?_,O}) λNx hNx=>?_;[jt];f;[wt];N;{_,O,.inl {O,_,az.of Z},b,_,o,O,O,Z,(do 0),?_};[uf];t6:aj c (upd c b (.lst us)):=aj.wl Z;q:(upd c b (.lst us)) e=!(.lst d):=(do[aB n];er);{_,O,.inl {O,_,az.of q},_,O,e,_,_,O,O,q,(do[ar.1];kD ()),?_};t7:aj (upd c b (.lst us)) (upd (upd c b (.lst us)) e (.lst (d++[o]))):=aj.wl q;B:(upd (upd c b (.lst us)) e (.lst (d++[o]))) b=! (.lst us):=(do[aB n.symm,aE]);s7:ag H1 (upd (upd c b (.lst us)) e (.lst (d++[o]))):=(s5.wr Y).wr y;S:=fd.same s7;{_,O,.inl {O,_,az.of B},_,O,.inr (.inr (.inl {O,.inr (.inr {kvs,S.has})})),_,O,aG rfl,λz1 H8 g8 M e8=>?_};C:=S.same M;t8:=(t6.trans t7).trans M.af;{a8,m,ea8,ev8,X}:=C.get e8 (!x) (λi z=>do-z;hxm);{dq,kvs,.tup (nk x),o,.ref z1,O,O,C.has,hx.af t8,?_};[show(vG kvs (KD.tup (nk x))).getD (V.ref z1)=.ref a8 from ea8];J:=M _ _ B;{b,a8,us,m,O,O,J,ev8,cM (do[au.1,X.1];()),?_};t9:aj H8 (upd H8 b (.lst (us++m))):=aj.wl J;hNx _ _ {d++[o],us++m,_,O,(s7.trans M).wr Y,?_,?_,aE,?_};[aB n];M _ _ aE;(ar.snoc hx).imp λv i g=>g.af (t8.trans t9);(au.imp λv i g=>g.af (t8.trans t9)).app (X.imp λv i g=>g.af t9)
def Bw(T:Txt K mg tk)(F:FO K mg "turned_in" uy)(gfAd:AB P w K mg base)(gfBw:tK P w K mg base):Ap P w K mg base:=do aO F nO (nN λ_=>rfl) {} λfa cdv A outer s H vs Q E G h=>?_;{_,(ax (sn nO.nd 1 (cy (fG G.hd (pK G)) T.cT boot_dict (a1 (gH (own:=["part","place"]) (fr:=[]) rfl (ux (vv 0)) {O,∅,∅} (fB ∅) (λ_ _ _=>(iD (n:=2) rfl (cN (cj (i:=0) (do¬List.Nodup (["part","place"]:List Tp);by decide +kernel) rfl (Or.inl rfl)) (cN (cj (i:=1) (do¬List.Nodup (["part","place"]:List Tp);by decide +kernel) rfl (Or.inl rfl)) gK)))) (λ_=>pO rfl rfl ⋯) (λ_ _ _=>dF) (λ_ _ _=>(a_ (a2 (vv 0) (xt (vv 1))))))))) (ax (sn nO.nd 2 kH) (ax (sn nO.nd 3 kH) (ax (fo (Hi (vv 0)) (gn nO.nd 4) (ax (sn nO.nd 5 (cl gfBw G (ac (vv 1) (a2 (vv 4) (vv 3))))) (pQ (bC (ck eh (bm PySem.F.plainAttrs_list PySem.F.slot_list_count PySem.F.type_list_count (S8 G) (vv 5) (a1 (xi (vv 5) (eB iY aD)))) aD) (aF (jZ (cQ G) (vv 2) (cl gfAd G (a2 (vv 0) (fL Mh (vv 5) (dN (bm PySem.F.plainAttrs_list PySem.F.slot_list_index PySem.F.type_list_index (MP G) (vv 5) (a1 (xi (vv 5) (eB iY aD))))) (dN (eB iY aD))))) cw rfl)) cg) (aF (fo (il (vv 5)) (gn nO.nd 6) (aF (jZ (cQ G) (vv 3) (vv 6) cw rfl))))))) (aF (aR (vv 2))))))),?_};{J,kt,xs,rfl,htq,akt,W,tb,kk}:=h;hfew:=W.cD;ntP:J≠gQ:=λz=>(do _;{ps,t}:=tb.cF;by rcases htq with e|⟨o,e⟩ <;> rw[z,t]at e <;> cases e);{_,O,J,kt,O,rG htq λo Y hY fY eY=>?_};sS0:ag (cE H (sS J)) Y:=λb u e=>(do nb:¬sS J b:=λz=>(do e<-[fJ z];-e);e<-[ia nb];hY b u (λz=>nb (.inl z)) e);tbY:jF Y:=tb.keep λb u e hu=>hY b u (λz=>do !z;q||{o',q}:=htq;e<-[q];-e;(by rcases hu with⟨ps,y⟩|⟨φ,y⟩ <;> cases y);e<-[q];-e;by rcases hu with⟨ps,y⟩|⟨φ,y⟩ <;> cases y) e;tY:aj H Y:=λb us e=>hY b _ (λz=>do !z;by rcases htq with q|⟨o',q⟩ <;> rw[q]at e <;> cases e) e;aY:=akt.imp λe x q=>q.imp (R':=f' Y) tY λr=>r.af tY;xo (jH (do[aY.1];())) (λj ys X=>ag Y X/\∃es:List 67,cm X ys es/\AL (EK (pS X) X) es (xs.take j)) {ag.refl _,[],trivial,.nil} (λ_ _ X s'=>s'.1 _ _ eY) (λj e ys X p K1 K0 hx s' hp k1 k0=>?_) λX np ys s' hy hq=>?_;{sX,es',pr,ae}:=s';{r,G,p1,p2,p3}:=aY.at hx;sp:ag X (upd X p (.tup [e.2.1,e.2.2])):=ag.new hp;ep:(upd X p (.tup [e.2.1,e.2.2])) p=! (.tup [e.2.1,e.2.2]):=aE;(by generalize upd X p (.tup [e.2.1,e.2.2])=X1 at sp ep);sX1:=sX.trans sp;{b,vp,vo,vn,kq,hbv,h1,h2,h3,h4,h5}:=p3.af sX1.af;{p,_,O,aQ.of ep,O,_,_,O,_,_,O,O,?_};dJ (B:=K0 X1) ?_;{_,O,_,O,b,_,1,vo,hbv,O,aQ.of h1,O,aG rfl,λt3 X3 g3 s3 e3=>?_};sX3:=sp.trans s3;k1 _ _ {sX.trans sX3,es'++[(.tup r.pt,e.2.1,vo)],?_,?_};cm.snoc (e:=(.tup r.pt,e.2.1,vo)) {t3,O,e3,(p2.af sX1.af).af s3.af} (pr.af sX3.af);[qu,G];(ae.imp λe x p=>p.imp sX3.af λq=>q.af sX3.af).snoc {O,(p2.af sX1.af).af s3.af,GK.af h3 s3.af};{sX,es',pr,ae}:=s';ae<-[aY.1,q0];nH:ag X (upd X np (.lst ys)):=ag.new hq;{np,ys,es',O,az.of aE,pr.af nH.af,?_,λoa X2 g2 s2 e2=>?_};this:ys.length<=kt.length:=hy;this:=aY.1;();e2<-[l_ _ [] (do[z7];vQ ae W.nd),z7];sY2:=(sX.trans nH).trans s2;ao:AL (EK (pS X2) X2) es' xs:=ae.imp λe x p=>p.imp (nH.trans s2).af λq=>q.af (nH.trans s2).af;foa:Y oa=none:=(sX.trans nH).free g2;(by clear ae pr hq hy nH);(g,X3,g3,s3,e3);(en,L,g4,s4,e4);s24:=s3.trans s4;C:=sY2.trans s24;ftu:Y g=none:=sY2.free g3;fen:Y en=none:=(sY2.trans s3).free g4;nte:g≠en:=a9 e3 g4;ntP':g≠gQ:=λz=>(do _;{ps,t}:=tbY.cF;t<-[<-z,ftu];-t);neP':en≠gQ:=λz=>(do _;{ps,t}:=tbY.cF;t<-[<-z,fen];-t);(by let S2:To->Prop:=λb=>b=g\/b=en\/b=gQ);fix:∀{Z:Hp} {b:To} {u:HO},ag (cE L S2) Z->L b=!u->(∀ps,u≠.cF ps)->b≠g->b≠en->Z b=!u:=λ{Z b u} s e hu h1 h2=>mM s e λz=>(do z||z||z:=z;h1 z;h2 z;{ps,t}:=(tbY.same C).cF;e<-[z,t];hu ps (qJ e).symm);tb4:=tbY.same C;fixT:∀{Z:Hp},ag (cE L S2) Z->aj L Z:=λ{Z} s b us e=>fix s e (λps z=>nomatch z) (λz=>do e<-[z,s4 _ _ e3];-e) (λz=>do e<-[z,e4];-e);c:L J=!(.dA o (.dG kt)):=C _ _ eY;noe:oa≠en:=a9 (s3 _ _ e2) g4;noo:oa≠g:=a9 e2 g3;U:J≠g:=λz=>(do c<-[z,s4 _ _ e3];-c);ntqe:J≠en:=λz=>(do c<-[z,e4];-c);back:∀{Z:Hp},ag (cE L S2) Z->ag (cE H (sS J)) Z:=λ{Z} s b u e=>(do nb:¬sS J b:=λz=>(do e<-[fJ z];-e);e<-[ia nb];e':=C _ _ (hY b u (λz=>nb (.inl z)) e);mM s e' λz=>?_;z||z||z:=z;absurd (fY _ ftu) (do[<-z,e];λy=>nomatch y);absurd (fY _ fen) (do[<-z,e];λy=>nomatch y);nb (.inr z));⟨_,O,J,kt,O,.inr ⟨o,c,?_⟩⟩;iE (λj σ Z=>AF λ(E':List Key->Prop) (T':List Key->Prop) (ku:List 67) (ke:List 67) (u4:Option V) (u5:Option V)=>∃(u6:Option V),m_ (σ=[!(.ref J),!(.ref oa),!(.ref g),!(.ref en),u4,u5,u6]) (ag (cE L S2) Z) (Z g=!(.dG ku)) (SM ku T') (Z en=!(.dG ke)) (gF (fD ke E') (jF Z) (ku.length<=j) (ke.length<=200 * j/\rA xs j E' T'))) ⟨λ_=>False,λ_=>False,[],[],none,none,none,O,Po,s4 _ _ e3,SM.nil,e4,fD.nil,tb4,qb _,qx _,.z⟩ (λj σ Z ⟨_,_,_,_,_,_,_,_,s,_,_,_,_⟩=>fix s c (λps z=>nomatch z) U ntqe) ?_ ?_;(j,e,σ,Z,hx,{E',T',ku,ke,u4,u5,u6,rfl,sZ,etZ,smT,eeZ,smE,tbZ,hkul,hkel,htu},Nx,N);a4:=aY.imp λe x q=>q.imp (R':=f' L) C.af λr=>r.af C.af;{r,G,p1,p2,p3}:=a4.at hx;hjl:j<xs.length:=(qp.mp G).1;hrm:=qk G;tZ:=fixT sZ;ao4:=ao.imp λe x q=>q.imp (R':=pS L) s24.af λr=>r.af s24.af;aoZ:=ao4.imp λe x q=>q.imp (R':=pS Z) tZ λr=>r.af tZ;eoZ:=fix sZ (s24 _ _ e2) (λps z=>nomatch z) noo noe;{_,O,_,O,_,O,oa,e.2.1,en,es',xs,ke,E',r.pt,Pn,O,.inl eoZ,aoZ.EJ λe x _ hx q=>{q.1,q.2.1,hH (W.w x hx).ou.ne q.2.2},W.nd,λx hx=>(W.w x hx).pt.ne,hfew,.inl eeZ,smE,hH (W.w r hrm).pt.ne (p2.af tZ),.inr (W.w r hrm).pt,λk o h=>W.pn h,λZ1 R ws ini las s1 gwa f S wo hil I=>?_};S:AL (iZ Z1) ws (ini++[las]):=S.EJ λv k _ hk q=>Mr (I k hk).ne q;{us,v,rfl,aus,hv}:=wW S;hul:us.length=ini.length:=aus.1;lay:PyData.canLayAll0 ((ini++[las]).map tD)=true:=(uS I).1;llas:Pn las:=I las (z9 _ (qt.mpr rfl));tb1:=tbZ.same s1;nwt:R≠g:=(a9 etZ gwa).symm;nwe:R≠en:=(a9 eeZ gwa).symm;nwP:R≠gQ:=λz=>(do _;{ps,t}:=tbZ.cF;t<-[<-z,gwa];-t);rY (λσ' Z2=>uA λ(T2:List Key->Prop) (M:List 67)=>m_ (σ'=[!(.ref J),!(.ref oa),!(.ref g),!(.ref en),!e.2.1,!(.ref R),u6]) (ag (cE L S2) Z2) (Z2 g=!(.dG M)) (SM M T2) (Z2 en=!(.dG ke)) (gF (jF Z2) (M.length<=j+1) (Z2 R=!(.lst (us++[v]))) (aj Z1 Z2/\rA xs (j+1) (λk=>E' k\/k∈ini++[las]) T2))) (λNx N=>?_) ?_;d1:=(Ob S).dv;{_,O,.inl {O,_,az.of f},_,O,1,O,R,_,-1,v,O,O,az.of f,lj us v,v,tD las,R,_,_,O,O,(bE hv).dv,az.of f,d1,llas.lay,lay,qf (eK las) ⋯,_,_,O,O,_,O,?_};sZ1:ag (cE L S2) Z1:=sZ.trans s1;hin<|las∈ini;cf (qH (do this:=(Ih (las:=las) wo.nd).mpr hin;())) ?_;{r0,hr0,er0}:∃r0,∃h:r0<ini.length,ini[r0]=las:=zv.mp hin;dd:∀(m:Nat) d,m<r0->((ini++[las]).map tD)[m]?=!d->PyData.eqv d (tD las)=false:=λm d hm hd=>(do hd<-[qj,zu (),qe (do():m<ini.length)];-hd;¬PyData.eqv (tD _) (tD las)=false;[gN];decide_eq_false λz=>?_;this:=yv.mp (nj.mp wo.nd) m r0 () hr0 hm;this (z.trans er0.symm));atr:((ini++[las]).map tD)[r0]?=!(tD las):=(do[qj,zu hr0,qe hr0,er0];2);{_,O,_,O,_,O,_,O,.inl {O,_,az.of f},_,O,1,O,R,_,-1,v,O,O,az.of f,lj us v,v,tD las,R,_,_,r0,O,O,(bE hv).dv,az.of f,d1,llas.lay,lay,qf (eK las) ⋯,{tD las,atr,do[gN];qH rfl},dd,?_};{_,O,1,O,_,O,R,_,O,az.of f,λla Z3 g3' s3' e3'=>?_};e3'<-[RO ()];s13:=s1.trans s3';tZ3:=(fixT sZ).trans s13.af;a3:=(aY.imp λe x q=>q.imp (R':=f' L) C.af λr=>r.af C.af).imp λe x q=>q.imp (R':=f' Z3) tZ3 λr=>r.af tZ3;etq3:=s13 _ _ (fix sZ c (λps z=>nomatch z) U ntqe);tb3:=tb1.same s3';adr:=(PF aus r0).imp λv k q=>iZ.af q s3'.af;hdne:ini.drop r0≠[]:=λz=>(do this:=congrArg List.length z;this<-[yq,yz];());{J,la,kt,xs,us.drop r0,ini.drop r0,O,.inr {o,etq3},a3,W.nd,e3',adr,hdne,λk hk=>o8.mp (wo.Gj (kg hk)),tb3,λZ4 vm m s4' tb4' hm hmax gm=>?_};t34:=x8 tb3 s4';k34:∀{b:To} {u:HO},Z3 b=!u->(∀ps,u≠.cF ps)->Z4 b=!u:=λe h=>My.jQ tb3 s4' e h;et4:=k34 (s13 _ _ etZ) λps z=>nomatch z;ee4:=k34 (s13 _ _ eeZ) λps z=>nomatch z;ew4:=k34 (s3' _ _ f) λps z=>nomatch z;{g,ku,.tup m,O,et4,gm,j2 (),?_};t4:aj Z4 (upd Z4 g (.dG (pG ku (.tup m) vm (.bl true)))):=aj.wd et4;sZ4:ag (cE L S2) Z4:=λb u e=>(do e':=(sZ.trans s13) _ _ e;s4' _ _ ?_;[bX (λz=>?_)];e';!z;e<-[fJ (.inr (.inr rfl))];-e);N _ _ {λa=>a=m\/T' a,_,O,sZ4.wr (fJ (.inl rfl)),aE,smT.put _ _ λk=>Iff.rfl,do[aB nte.symm];ee4,tb4'.wr et4 (λps z=>nomatch z) (λφ z=>nomatch z),qf (iA _ _ _ _) (),do[aB nwt];ew4,(s3'.af.trans t34).trans t4,htu.yes G wo {hr0,er0} hm hmax};bL (decide_eq_false (do this:=(not_congr (Ih (las:=las) wo.nd)).mpr hin;())) ?_;N _ _ {T',ku,O,sZ1,s1 _ _ etZ,smT,s1 _ _ eeZ,tb1,(),f,aj.refl _,htu.no G wo hin};(σ',Z2,{T2,M,rfl,s2',et2,sm2,ee2,tb2,hl2,ew2,t12,htu'});aw2:=S.imp λv k q=>iZ.af q t12;{_,O,R,O,{_,az.of ew2},bN (xs:=us++[v]) (λi σ Z5=>vC λ(E5:List Key->Prop) (D:List 67) (u6:Option V)=>m_ (σ=[!(.ref J),!(.ref oa),!(.ref g),!(.ref en),!e.2.1,!(.ref R),u6]) (ag (cE L S2) Z5) (Z5 g=!(.dG M)) (Z5 en=!(.dG D)) (fD D E5) (gF (D.length<=ke.length+i) (jF Z5) (Z5 R=!(.lst (us++[v]))) (aj Z2 Z5/\∀k,E5 k↔(E' k\/k∈(ini++[las]).take i)))) {E',ke,u6,O,s2',et2,ee2,smE,Nat.le_refl _,tb2,ew2,aj.refl _,λk=>do 0} (λi σ Z5 _ ⟨_,_,_,_,_,_,_,_,_,_,e,_⟩=>az.of e) ?_ ?_};(i,x,σ,Z5,hx',{E5,D,u6',rfl,s5,et5,ee5,sm5,hl5,tb5,ew5,t5,hE5},Nx,N);{k,hk,gx}:=aw2.at hx';hi:i<(ini++[las]).length:=(qp.mp hk).1;hi<-[qg,qr];{_,O,_,O,en,D,.tup k,O,ee5,GK.af gx t5,j2 (),?_};t6:aj Z5 (upd Z5 en (.dG (pG D (.tup k) x (.bl true)))):=aj.wd ee5;N _ _ {λa=>a=k\/E5 a,_,_,O,s5.wr (fJ (.inr (.inl rfl))),do[aB nte];et5,aE,sm5.Rc (I k (qk hk)).ne _ _ λa=>Iff.rfl,qf (iA _ _ _ _) (),tb5.wr ee5 (λps z=>nomatch z) (λφ z=>nomatch z),do[aB nwe];ew5,t5.trans t6,λa=>?_};¬((a=k\/E5 a)↔_);[hE5,qu,hk];#[_,Option.toList_some,List.mem_append,List.mem_singleton];1;(h||h||h);.inr (.inr h);.inl h;.inr (.inl h);(h||h||h);.inr (.inl h);.inr (.inr h);.inl h;(σ,Z5,{E5,D,u6',rfl,s5,et5,ee5,sm5,hl5,tb5,ew5,t5,hE5});hwl:(us++[v]).length=(ini++[las]).length:=S.1;hE5<-[hwl,q0];hwl2:(us++[v]).length=ini.length+1:=(do[qg,qr,hul]);N _ _ {E5,T2,M,D,_,_,_,O,s5,et5,sm2,ee5,sm5,tb5,hl2,do hl5<-[hwl2];(),(funext λk=>propext (hE5 k):E5=λk=>E' k\/k∈ini++[las])▸htu'};(σ,Z,{E',T',ku,ke,u4,u5,u6,rfl,sZ,etZ,smT,eeZ,smE,tbZ,hkul,hkel,htu});{_,O,kk Z g ku E' T' (back sZ) (.inr {o,fix sZ c (λps z=>nomatch z) U ntqe}) tbZ (fY _ ftu) etZ (akt.1▸htu) smT}
def Fi(T:Txt K mg tk)(F:FO K mg "_law_facts" oM)(t:zI P w K mg base)(R:Ag P w K mg base)(gfAq:Aq P w K mg base)(gfBd:yF P w K mg base)(gfBa:yG P w K mg base)(gfAc:zN P w K mg base)(gfAs:yL P w K mg base):zJ P w K mg base:=do aO F p_ (ik λ_ _=>rfl) {} λfa cdv A outer s H vs Q E D h=>?_;hu1:(A.deeper (envOfC "_law_facts" (ah oM) ↑s fa cdv)).units+1<cLine:=cY D;{_,(ax (sn p_.nd 2 (ce cR (aJ eN (cl t D (a2 (vv 0) aD)) aD) aD)) (ax (sn p_.nd 3 Ml) (ax (fo (il (bT (ac aM (ac aM (ac aM (ac aM (ac aM (ac aM (ac aM (a2 aM aM)))))))))) (gn p_.nd 4) (aF (QP hu1 (vv 3) (vv 4) (bT dj) rfl))) (ax (sn p_.nd 5 (cl gfBd D (ac (cl R D (a2 (cl t D (a2 (vv 0) aD)) (vv 2))) (a2 (vv 3) (vv 1))))) (ax (sn p_.nd 6 (cl gfBa D (ac (cl R D (a2 (cl t D (a2 (vv 0) aD)) (vv 2))) (ac (vv 3) (a2 (vv 1) (vv 5)))))) (ax (pL (cl gfAc D (ac (cl R D (a2 (cl t D (a2 (vv 0) aD)) (vv 2))) (ac (vv 3) (a2 (vv 1) (vv 6)))))) (ax (pL (cl gfAs D (ac (cl R D (a2 (cl t D (a2 (vv 0) aD)) (vv 2))) (ac (vv 3) (a2 (vv 1) (vv 5)))))) (ax (pL (cl gfAq D (ac (cl R D (a2 (cl t D (a2 (vv 0) aD)) (vv 2))) (ac (vv 3) (a2 (vv 1) (vv 5)))))) (aF (aR (vv 3))))))))))),?_};{sp,ns,r,rfl,hs,hn,U,kk}:=h;{_,O,sp,ns,0,O,hs,⋯,λc=>{_,_,O,O,(by show(0:Int)<2;decide),O,?_}};(by generalize decide (V.int (c % 2)=V.int 1)=dg);(dq,H1,g1,s1,e1);{aG rfl,λlp H2 g2 s2 e2=>?_};s02:=s1.trans s2;{lp,O,{_,az.of e2},bN (xs:=(["births","places","cuts","signs","marks","notes","lines","cells","leaves"]:List Tp).map V.str) (λj σ H3=>uA λ(F:Nat->To) (u1:Option V)=>m_ (σ=[!(.ref sp),!(.ref r),!(.bl dg),!(.ref dq),u1,none,none]) (ag H H3) (H3 lp=!(.lst ((["births","places","cuts","signs","marks","notes","lines","cells","leaves"]:List Tp).map V.str))) (H3 dq=!(.dK (du F j))) (∀i,i<j->H (F i)=none/\H3 (F i)=!(.lst [])) (∀i,i<j->∀i',i'<j->F i=F i'->i=i')) {λ_=>dq,none,O,s02,e2,s2 _ _ e1,λi z=>absurd z (yg i),λi z=>absurd z (yg i)} (λj σ H3 _ ⟨_,_,_,_,e,_,_,_⟩=>az.of e) ?_ ?_};(j,x,σ,H3,hx,{F,u1,rfl,s3,el,ed,X,hi},Nx,hNx);hj:j<9:=(qp.mp hx).1;ex:x=kV (kN j):=(do hx<-[qj];¬x=.str _;[zb];(by cases q:(["births","places","cuts","signs","marks","notes","lines","cells","leaves"]:List Tp)[j]? with|none|some z=>?_);hx<-[q];-hx;hx<-[q];(qJ hx).symm);{aG rfl,λq H4 g4 Y e4=>?_};nq:q≠dq:=(a9 ed g4).symm;hv:bQ (du F j) (kN j)=none:=(do(by cases e:bQ (du F j) (kN j)with|none|some v=>?_);2;this:=RK e;(by unfold du at this);this<-[wg];{i,hi1,hi2}:=qc.mp this;hi3:=qv.mp hi1;absurd (Lr i () j hj hi2) ());{_,O,_,O,dq,_,O,.inl {du F j,kN j,Y _ _ ed,ex,cC (do@du;[qh,zh];()),O},?_};F0:∀i,i<j->(if i=j then q else F i)=F i:=λi h=>qB ();ne:∀i,i<j->F i≠q:=λi h=>a9 (X i h).2 g4;neq:∀i,i<j->F i≠dq:=λi h z=>(do this:=(X i h).2;this<-[z,ed];-this);hNx _ _ {λi=>if i=j then q else F i,_,O,(s3.trans Y).wr g1,?_,?_,λi h=>?_,λi h i' h' e=>?_};[aB (λz=>do el<-[z,ed];-el)];Y _ _ el;[aE,J4 _ hv];@du;[yx,zt];this:(List.range j).map (λi=>(kN i,V.ref (if i=j then q else F i)))=(List.range j).map (λi=>(kN i,V.ref (F i))):=yw λi hi=>(do[F0 i (qv.mp hi)]);[this];0;¬(H (if i=j then q else F i)=none/\(upd H4 dq _) (if i=j then q else F i)=_);z<|i=j;!z;[qF rfl];{s3.free g4,do[aB nq];e4};[qB z];hij:i<j:=();{(X i hij).1,do[aB (neq i hij)];Y _ _ (X i hij).2};e:(if i=j then q else F i)=(if i'=j then q else F i'):=e;z<|i=j;z'<|i'=j;();e<-[qF z,qB z'];absurd e.symm (ne i' ());z'<|i'=j;e<-[qB z,qF z'];absurd e (ne i ());e<-[qB z,qB z'];hi i () i' () e;(σ,H3,{F,u1,rfl,s3,el,ed,X,hi});d:∀i,i<9->∀j,j<9->i≠j->F i≠F j:=λi a j b n e=>n (hi i a j b e);old:∀{b:To} {o:HO},H b=!o->∀i,i<9->b≠F i:=λe i a z=>(do e<-[z,(X i a).1];-e);oq:∀i,i<9->F i≠dq:=λi a z=>(do this:=(X i a).2;this<-[z,ed];-this);{_,O,sp,ns,1,O,hs.same s3,⋯,λc1=>{_,O,c1,dg,O,λH4 d1 Y g4 w4=>?_}};f1:∀{b:To} {o:HO},H3 b=!o->b≠d1:=λe z=>(do e<-[z,g4];-e);{_,O,_,O,d1,dq,r,F,O,w4,Y _ _ ed,Y _ _ (X 0 ⋯).2,Y _ _ (X 1 ⋯).2,Y _ _ (X 2 ⋯).2,(s3.trans Y) _ _ U,f1 (s3 _ _ U),λi a=>{f1 (X i a).2,old U i a},hi,λH5 kq kn bs es cs rs cu o5 gk ek kn5 k0 k1 eb ev ec fi pq5=>?_};S5:ag H H5:=λb o e=>o5 b o ((s3.trans Y) _ _ e) λz=>(do z||z||z||z:=z;f1 (s3 _ _ e) z;old e 0 ⋯ z;old e 1 ⋯ z;old e 2 ⋯ z);q5:H5 dq=! (.dK (du F 9)):=o5 _ _ (Y _ _ ed) λz=>(do z||z||z||z:=z;f1 ed z;oq 0 ⋯ z.symm;oq 1 ⋯ z.symm;oq 2 ⋯ z.symm);F5:∀i,i<9->3<=i->H5 (F i)=!(.lst []):=λi a b=>o5 _ _ (Y _ _ (X i a).2) λz=>(do z||z||z||z:=z;f1 (X i a).2 z;d i a 0 ⋯ () z;d i a 1 ⋯ () z;d i a 2 ⋯ () z);kF:∀i,i<9->kq≠F i:=λi a z=>(do gk<-[z,Y _ _ (X i a).2];-gk);{_,O,sp,ns,2,O,hs.same S5,⋯,λc2=>{_,O,c2,dg,O,λH6 d2 s6 g6 w6=>?_}};f2:∀{b:To} {o:HO},H5 b=!o->b≠d2:=λe z=>(do e<-[z,g6];-e);l5:∀i,i<9->∃xs,H5 (F i)=! (.lst xs):=λi a=>(do h0<|i=0;[h0];{_,eb};h1<|i=1;[h1];{_,ev};h2<|i=2;[h2];{_,ec};{_,F5 i a ()});fd2:∀i,i<9->F i≠d2:=λi a=>let⟨_,e⟩:=l5 i a;f2 e;{_,O,_,O,_,O,d2,dq,r,kq,F,kn,O,w6,s6 _ _ q5,s6 _ _ (F5 3 ⋯ ⋯),(S5.trans s6) _ _ U,s6 _ _ ek,kn5.af s6.af,k0,k1,f2 (S5 _ _ U),f2 ek,fd2 3 ⋯,old U 3 ⋯,kF 3 ⋯,λH7 S n xs nq kvs o7 e3 an W n24 sok gn en kl nmd fr=>?_};t7:aj H5 H7:=s6.af.trans (mL o7 λb z xs e=>do rfl||rfl:=z;{_,_,q}:=w6;e<-[q];-e;e<-[s6 _ _ (F5 3 ⋯ ⋯)];-e);k7:∀{b:To} {o:HO},H5 b=!o->b≠F 3->H7 b=!o:=λe n=>o7 _ _ (s6 _ _ e) λz=>z.elim (f2 e) n;S7:ag H H7:=λb o e=>k7 (S5 _ _ e) (old e 3 ⋯);q7:H7 dq=! (.dK (du F 9)):=k7 q5 (oq 3 ⋯).symm;F7:∀i,i<9->4<=i->H7 (F i)=!(.lst []):=λi a b=>k7 (F5 i a ()) (d i a 3 ⋯ ());l7:∀i,i<9->∃xs,H7 (F i)=! (.lst xs):=λi a=>(do h<|i=3;[h];{_,e3};{ys,e}:=l5 i a;{ys,k7 e (d i a 3 ⋯ h)});nq6:∀{b:To} {o:HO},H5 b=!o->b≠nq:=λe z=>(do gn<-[<-z,s6 _ _ e];-gn);{_,O,sp,ns,3,O,hs.same S7,⋯,λc3=>{_,O,c3,dg,O,λH8 d3 s8 g8 w8=>?_}};f3:∀{b:To} {o:HO},H7 b=!o->b≠d3:=λe z=>(do e<-[z,g8];-e);fd3:∀i,i<9->F i≠d3:=λi a=>let⟨_,e⟩:=l7 i a;f3 e;{_,O,_,O,_,O,d3,dq,r,nq,F,S,n,xs,kvs,O,w8,s8 _ _ q7,s8 _ _ e3,an.imp λv i g=>g.af s8.af,W,n24,s8 _ _ (F7 4 ⋯ ⋯),s8 _ _ (F7 5 ⋯ ⋯),(S7.trans s8) _ _ U,s8 _ _ en,kl,nmd.same s8,f3 (S7 _ _ U),λi a=>{fd3 i a,old U i a},hi,λk lq e=>?_,λH9 M m N q ms ns2 o9 e4 am wm hm e5 an5 wn=>?_};{p,lq',us,_,_,hu,h1,_}:=nmd.2 k _ e;-hu;h6:=fr k lq e;{f3 h1,(λz=>do h6<-[z,s6 _ _ (F5 4 ⋯ ⋯)];-h6),λz=>do h6<-[z,s6 _ _ (F5 5 ⋯ ⋯)];-h6};t9:aj H7 H9:=s8.af.trans (mL o9 λb z xs e=>do rfl||rfl||rfl||rfl:=z;{_,_,q}:=w8;e<-[q];-e;e<-[s8 _ _ (F7 4 ⋯ ⋯)];-e;e<-[s8 _ _ (F7 5 ⋯ ⋯)];-e;e<-[s8 _ _ en];-e);k9:∀{b:To} {o:HO},H7 b=!o->b≠F 4->b≠F 5->b≠nq->H9 b=!o:=λe n1 n2 n3=>o9 _ _ (s8 _ _ e) λz=>(do z||z||z||z:=z;f3 e z;n1 z;n2 z;n3 z);S9:ag H H9:=λb o e=>k9 (S7 _ _ e) (old e 4 ⋯) (old e 5 ⋯) (nq6 (S5 _ _ e));Fq:∀i,i<9->F i≠nq:=λi a=>let⟨_,e⟩:=l5 i a;nq6 e;q9:H9 dq=! (.dK (du F 9)):=k9 q7 (oq 4 ⋯).symm (oq 5 ⋯).symm (nq6 q5);kq9:H9 kq=!(.lst kn):=k9 (k7 ek (kF 3 ⋯)) (kF 4 ⋯) (kF 5 ⋯) (nq6 ek);F9:∀i,i<9->6<=i->H9 (F i)=!(.lst []):=λi a b=>k9 (F7 i a ()) (d i a 4 ⋯ ()) (d i a 5 ⋯ ()) (Fq i a);l9:∀i,i<9->∃xs,H9 (F i)=! (.lst xs):=λi a=>(do h4<|i=4;[h4];{_,e4};h5<|i=5;[h5];{_,e5};{ys,e}:=l7 i a;{ys,k9 e (d i a 4 ⋯ h4) (d i a 5 ⋯ h5) (Fq i a)});{_,O,sp,ns,4,O,hs.same S9,⋯,λc4=>{_,O,c4,dg,O,λH10 d4 f g10 w10=>?_}};f4:∀{b:To} {o:HO},H9 b=!o->b≠d4:=λe z=>(do e<-[z,g10];-e);kn9:KN H9 kn:=(kn5.af t7).af t9;{_,O,_,O,_,O,d4,dq,r,kq,F,kn,O,w10,f _ _ q9,f _ _ (F9 6 ⋯ ⋯),f _ _ (F9 7 ⋯ ⋯),(S9.trans f) _ _ U,f _ _ kq9,kn9.af f.af,k0,k1,f4 (S9 _ _ U),f4 kq9,λi a=>{let⟨_,e⟩:=l9 i a;f4 e,old U i a,kF i a},d 6 ⋯ 7 ⋯ ⋯,λG L a C b ls cs2 o11 e6 aL WL' e7 aC WC'=>?_};t11:aj H9 G:=f.af.trans (mL o11 λb z xs e=>do rfl||rfl||rfl:=z;{_,_,q}:=w10;e<-[q];-e;e<-[f _ _ (F9 6 ⋯ ⋯)];-e;e<-[f _ _ (F9 7 ⋯ ⋯)];-e);k11:∀{b:To} {o:HO},H9 b=!o->b≠F 6->b≠F 7->G b=!o:=λe n1 n2=>o11 _ _ (f _ _ e) λz=>(do z||z||z:=z;f4 e z;n1 z;n2 z);S11:ag H G:=λb o e=>k11 (S9 _ _ e) (old e 6 ⋯) (old e 7 ⋯);q11:G dq=! (.dK (du F 9)):=k11 q9 (oq 6 ⋯).symm (oq 7 ⋯).symm;kq11:=k11 kq9 (kF 6 ⋯) (kF 7 ⋯);e811:G (F 8)=!(.lst []):=k11 (F9 8 ⋯ ⋯) (d 8 ⋯ 6 ⋯ ⋯) (d 8 ⋯ 7 ⋯ ⋯);{_,O,sp,ns,5,O,hs.same S11,⋯,λc5=>{_,O,c5,dg,O,λH12 d5 I g12 w12=>?_}};f5:∀{b:To} {o:HO},G b=!o->b≠d5:=λe z=>(do e<-[z,g12];-e);kn11:=kn9.af t11;{_,O,_,O,_,O,d5,dq,r,kq,F,kn,O,w12,I _ _ q11,I _ _ e811,(S11.trans I) _ _ U,I _ _ kq11,k0,(),λv hv=>(kn11.np hv).af I.af,f5 (S11 _ _ U),f5 kq11,f5 e811,old U 8 ⋯,kF 8 ⋯,λB ys lss o13 e8 ly lsd lf=>?_};t13:aj G B:=I.af.trans (mL o13 λb z xs e=>do rfl||rfl:=z;{_,_,q}:=w12;e<-[q];-e;e<-[I _ _ e811];-e);k13:∀{b:To} {o:HO},G b=!o->b≠F 8->B b=!o:=λe n=>o13 _ _ (I _ _ e) λz=>z.elim (f5 e) n;q13:Rd B dq (.dK (du F 9)):=.inl (k13 q11 (oq 8 ⋯).symm);up7:∀i,i<9->i≠4->i≠5->i≠6->i≠7->i≠8->∀{o},H7 (F i)=!o->B (F i)=!o:=λi a n4 n5 n6 n7 n8 {o} e=>k13 (k11 (k9 e (d i a 4 ⋯ n4) (d i a 5 ⋯ n5) (Fq i a)) (d i a 6 ⋯ n6) (d i a 7 ⋯ n7)) (d i a 8 ⋯ n8);up5:∀i,i<3->∀{o},H5 (F i)=!o->B (F i)=!o:=λi a {o} e=>up7 i () () () () () () (k7 e (d i () 3 ⋯ ()));up9:∀i,i<6->∀{o},H9 (F i)=!o->B (F i)=!o:=λi a {o} e=>k13 (k11 e (d i () 6 ⋯ ()) (d i () 7 ⋯ ())) (d i () 8 ⋯ ());Z:∀i,i<8->∀{o},G (F i)=!o->B (F i)=!o:=λi a {o} e=>k13 e (d i () 8 ⋯ ());l13:∀i,i<9->∃xs,B (F i)=! (.lst xs):=λi a=>(do h8<|i=8;[h8];{_,e8};h6<|i=6;[h6];{_,Z 6 ⋯ e6};h7<|i=7;[h7];{_,Z 7 ⋯ e7};{zs,e}:=l9 i a;{zs,up9 i () e});J:=t11.trans t13;fi13:=((fi.af t7).af t9).af J;{br,ab,bnd,bl,bcl,bnm,brp}:=(((pq5.af t7).af t9).af J).br λr D=>(fi13.w r D).pt;bl0:=fi.bl;vl:=fi.vl;pl:=fi.pc.1;{_,O,kk B dq F {⟨S,n,M,m,N,q,L,a,C,b,rs,cu⟩,br,lss} (λb o e=>k13 (S11 _ _ e) (old e 8 ⋯)) {{{xs,ms,ns2,{q13,hi,λi a _ _ _=>l13 i a,up7 3 ⋯ ⋯ ⋯ ⋯ ⋯ ⋯ e3,an.imp λv i g=>(g.af t9).af J,W,up9 4 ⋯ e4,am.imp λv i g=>g.af J,wm,up9 5 ⋯ e5,an5.imp λv i g=>g.af J,wn}},do¬m<=63;(),{bs,es,cs,60,{q13,hi,λi a _=>l13 i a,up5 0 ⋯ eb,up5 1 ⋯ ev,up5 2 ⋯ ec,fi13},⋯,qf (vX rs) ()},{ys,e8,λy hy=>let⟨l,_,b,vp,c,h1,h2,h3,h4,h5,h6⟩:=ly.mem hy;{(_,_),b,vp,_,_,_,_,c,h1,h2,h3,h4,h5,h6},do[ly.1];lf},{du F 9,F 6,ls,F 7,cs2,q13,dh F 6 ⋯,Z 6 ⋯ e6,aL.imp λv i g=>pw.af g t13,WL',dh F 7 ⋯,Z 7 ⋯ e7,aC.imp λv i g=>mu.af g t13,WC'},sok},{bs,up5 0 ⋯ eb,ab},{ys,e8,ly},bnd,do¬br.length<=60;(),lsd,lf,bcl,bnm,brp}}
def Di(T:Txt K mg tk)(F:FO K mg "has_leave" tM)(d:Az P w K mg base)(c:Ar P w K mg base):Av P w K mg base:=do aO F HB (Tc λ_ _ _ _ _ _=>rfl) {} λfa B A outer s H vs Q E o h=>?_;{_,(ax (bC (ck cR (vv 3) (xl (vv 0))) (aF (aR cw)) cg) (ax (sn HB.nd 6 (cl d o (a2 (vv 1) (vv 4)))) (ax (bC (eJ (cl c o (ac (vv 2) (ac (vv 6) (a2 (vv 3) (vv 5)))))) (aF (aR cw)) cg) (aF (aR (HR (ce cR (vv 5) aM) (xh (cl c o (ac (vv 2) (ac (vv 6) (a2 (vv 3) aM))))))))))),?_};{r,b,p,m,v,k,y,rs,bs,br,ys,ls,rfl,n,J,I,D,j,hp,G,i,cD,pv,e}:=h;{_,O,_,O,r,_,0,.str y,O,O,n,O7 _ _,O,_,O,?_};h0<|m=y;e<-[qH h0];cf (do[dR];qH h0) (e H (ag.refl _));e<-[decide_eq_false h0];bL (do[dR];decide_eq_false h0) ?_;{_,O,_,O,b,v,k,bs,br,O,J,I,D,j,pv,λH1 q cv f L C z=>?_};{_,O,_,O,_,O,_,O,p,q,ys,ls,m,"read",cv,_,O,hp.same f,G.imp λv l g=>LX.af g f.af,i,cD,az.of C,z,λH2 s2=>{_,O,?_}};t:=f.trans s2;a:=e H2 t;(by unfold eI at a;cases x:(((kZ br br.length k).findSome? (cO m "read" ls)).getD false)with|true|false=>?_);a<-[x];cf rfl a;a<-[x];bL rfl ?_;{_,O,O,_,O,?_};bL (do[dR];decide_eq_false ∅) a
def F8(T:Txt K mg tk)(F:FO K mg "row_of" uu)(c:rN P w K mg base)(a:rO P w K mg base):oz P w K mg base:=do aO F DI (ik λ_ _=>rfl) {} λfa N A outer s H vs Q E z h=>?_;{_,(aF (aR (cl c z (a1 (DM (il (cl a z (a2 (vv 0) (vv 1)))) (λ_ _ _=>dF) (λ_ _ _=>(fL nM (vv 0) (dN aD) (dN aD)))))))),?_};{fa,vp,pt,S,n,rfl,fg,p,e,kk}:=h;W:WS S n:=(do _;{_,_,_,_,_,_,_,W}:=fg;W);qY:=W.vD pt;{_,O,_,O,fa,vp,pt,S,n,O,fg,p,e,λH1 q zs s1 g1 y r=>?_};U:zs.length<=1400:=(do[r.1];qf (qf (wj _ _) (do[zh];qb _)) W.cD);{q,O,{_,az.of y},cI (xs:=zs) (cM ()) (λj us H'=>ag H1 H'/\AN (PL (cJ S) (vB S) (DS S) H') us ((bM S n pt).take j)) {ag.refl _,.nil} (λ_ _ H' s'=>az.of (s'.1 _ _ y)) (λj x us H' K1 K0 hx s' L k0=>?_) λt up us s' G k=>?_};{s',f}:=s';{i,I,sn}:=r.at hx;{b,vq,vn,V,kq,vg,rfl,h1,h2,Y,h4,M,h6}:=SN.af sn s'.af;tk:(bM S n pt).take (j+1)=(bM S n pt).take j++[i]:=(do[qu,I];2);dJ (B:=K0 H') ?_;{_,O,1,O,4,O,b,_,O,aQ.of h1,(by show ¬(HT.bV 6 0 (some 1)=0/\HT.bV 6 6 (some 4)=6);decide),λD H7 g7 o e7=>L _ _ {s'.trans o,?_}};[tk];m:=o.af;(f.imp λv i g=>g.af m).snoc {D,vn,V,.ref kq,O,e7,Y.af m,h4.af m,.tup (o _ _ M) (.cons (.int _) (.cons (.int _) (.cons (.int _) .nil)))};{Z,f}:=s';C:ag t (upd t up (.lst us)):=ag.new k;f<-[show zs.length=(bM S n pt).length from r.1,q0];d:=(s1.trans Z).trans C;{up,us,cJ S,vB S,DS S,bM S n pt,bM S n pt,2,O,az.of aE,f.imp λv i g=>g.af C.af,O,qY,λH8 J ws X R e8 aw=>kk H8 J ws (d.trans X) (d.free R) e8 aw}
def Gf(T:Txt K mg tk)(F:FO K mg "stood_in" rJ)(gfBf:Ap P w K mg base):yY P w K mg base:=do aO F tN (nN λ_=>rfl) {} λfa cdv A outer s H vs Q E D h=>?_;{_,(ax (sn tN.nd 1 (cl gfBf D (a1 (vv 0)))) (ax (sn tN.nd 2 kH) (ax (fo (ux (vv 0)) (gt (cN (gn tN.nd 3) (cN (gn tN.nd 4) gK))) (aF (jZ (cQ D) (vv 2) (vv 3) (rZ (ck (qZ (cQ D)) (vv 3) (vv 1)) (Fk (v:=.ref cx) rfl T.cx rfl) (xt (vv 4))) rfl))) (aF (aR (vv 2)))))),?_};{c,kt,xs,rfl,k,akt,W,tb,ma,kk}:=h;hfew:=W.cD;ntup:∀b,sS c b->∀us,H b≠some (.tup us):=λb z us e=>(do rfl||rfl:=z;(by rcases k with q|⟨o',q⟩ <;> rw[q]at e <;> cases e);{ps,t}:=tb.cF;e<-[t];-e);{_,O,c,kt,xs,O,k,akt,W,tb,λH1 B ku E' T s1 n tb1 gtu G tur smT=>?_};t01:=Qo s1 ntup;(st,H2,J,s2,e2);d:=Rd.same n s2;t02:=t01.trans s2.af;nst:st≠B:=(a9 G J).symm;i:H st=none:=(do this:=s1.free J;z<|sS c st;z||z:=z;J<-[z];(by rcases n with q|⟨o',q⟩ <;> rw[q]at J <;> cases J);{ps,t}:=tb1.cF;t<-[<-z,J];-t;this<-[ia z];this);(by dsimp only[cP,lN]);Jr ?_;{_,O,c,kt,O,rG d λo Y hY fY eY=>?_};tY:aj H2 Y:=λb us e=>hY b _ (λz=>do !z;by rcases d with q|⟨o',q⟩ <;> rw[q]at e <;> cases e) e;nqu:B≠c:=λz=>(do this:=s2 _ _ G;this<-[z];f:=fJ (H:=H) (S:=sS c) (b:=c) (.inl rfl);gtu<-[z];by rcases k with q|⟨o',q⟩ <;> rw[gtu]at q <;> cases q);R:st≠c:=λz=>(do e2<-[z];i<-[z];by rcases k with q|⟨o',q⟩ <;> rw[i]at q <;> cases q);sYd:ag (cE H (sS c)) Y:=λb u e=>(do nb:¬sS c b:=λz=>(do e<-[fJ z];-e);hY b u (λz=>nb (.inl z)) (s2 _ _ (s1 _ _ e)));tbY:jF Y:=(tb1.same s2).keep λb u e hu=>hY b u (λz=>do !z;q||{o',q}:=d;e<-[q];-e;(by rcases hu with⟨ps,y⟩|⟨φ,y⟩ <;> cases y);e<-[q];-e;by rcases hu with⟨ps,y⟩|⟨φ,y⟩ <;> cases y) e;etuY:=hY B _ nqu (s2 _ _ G);g:=hY st _ R e2;C:=t02.trans tY;aY:=akt.imp λe x q=>q.imp (R':=f' Y) C λr=>r.af C;maY:=C _ _ ma;lT (λj σ X=>vC λ(ks:List 67) (N:Option V) (u4:Option V)=>gF (σ=[!(.ref c),!(.ref B),!(.ref st),N,u4]) (ag (del Y st) X) (X st=!(.dG ks)) (AL (EK (pS X) X) ks ((xs.take j).map (d8 T)))) {[],none,none,O,(λb u e=>mR _ _ e),g,.nil} (λj σ X ⟨_,_,_,_,s,_,_⟩=>s _ _ (do[bX R.symm];eY)) ?_ ?_;(j,e,σ,X,p,hx,{ks,N,u4,rfl,L,eX,ak},hp,Nx,hNx);tX:aj Y X:=rM g (λys z=>nomatch z) L;{r,D,p1,p2,p3}:=aY.at hx;hjl:j<xs.length:=(qp.mp D).1;sp:ag X (upd X p (.tup [e.2.1,e.2.2])):=ag.new hp;ep:(upd X p (.tup [e.2.1,e.2.2])) p=! (.tup [e.2.1,e.2.2]):=aE;(by generalize upd X p (.tup [e.2.1,e.2.2])=X1 at sp ep);I:=tX.trans sp.af;{b,vp,vo,vn,kq,hbv,h1,h2,h3,h4,h5}:=p3.af I;U:=sp _ _ (L _ _ (do[bX nst.symm];etuY));a:=sp _ _ eX;m:=p2.af I;ak1:=ak.imp λe x q=>q.imp (R':=pS X1) sp.af λr=>r.af sp.af;Z:ks.length<sizeLine:=j2 (do[ak.1,qh,wv];());hnd:(((xs.take j).map (d8 T)).map (·.pt)).Nodup:=(do[IR];W.nd.sublist ((mf j xs).map _));hnew:(d8 T r).pt∉((xs.take j).map (d8 T)).map (·.pt):=(do[IR,xg];(z);hn:=W.nd;e1:xs=xs.take j++r::xs.drop (j+1):=(do this:=List.take_append_drop j xs;this<-[jo hjl];[<-qJ ((qe hjl).symm.trans D)];this.symm);hn<-[e1,zt,zm];(yk.mp hn).2.2 r.pt z r.pt qm rfl);etk:(xs.take (j+1)).map (d8 T)=iw ((xs.take j).map (d8 T)) (d8 T r):=(do[OD hnew,qu,D,zt];2);M:∀vv,GK X1 (.tup (d8 T r).ou) vv->vC λ(ks':List 67) (N:Option V) (u4:Option V)=>gF ([!(V.ref c),!(V.ref B),!(V.ref st),!e.2.1,!e.2.2]=[!(.ref c),!(.ref B),!(.ref st),N,u4]) (ag (del Y st) (upd X1 st (.dG (pG ks (.tup r.pt) e.2.1 vv)))) ((upd X1 st (.dG (pG ks (.tup r.pt) e.2.1 vv))) st=!(.dG ks')) (AL (EK (pS (upd X1 st (.dG (pG ks (.tup r.pt) e.2.1 vv)))) (upd X1 st (.dG (pG ks (.tup r.pt) e.2.1 vv)))) ks' ((xs.take (j+1)).map (d8 T))):=λvv gv=>(do aP:=CY (r:=d8 T r) (y:=e.2.1) (v:=vv) ak1 hnd (do[xg];m) gv;aP<-[xg,<-etk];{_,_,_,O,(L.trans sp).wr d6,aE,aP.imp λe x q=>q.imp (aj.wd a) λr=>r.af (aj.wd a)});{p,_,O,aQ.of ep,O,_,_,O,_,_,O,O,?_};{_,O,_,O,B,ku,.tup r.pt,O,.inl U,m,_,O,?_};[qB qo];ht<|T r.pt;[smT.yes ht];cf rfl ?_;{_,O,_,O,st,ks,.tup r.pt,O,a,m,Z,hNx _ _ (M _ ?_)};[Nz ht];{_,O,I _ _ maY};[smT.no ht];bL rfl ?_;{_,O,b,_,1,vo,hbv,O,aQ.of h1,O,_,O,_,O,st,ks,.tup r.pt,O,a,m,Z,hNx _ _ (M _ ?_)};[Cw ht];h3;(σ,X,{ks,N,u4,rfl,L,eX,ak});ak<-[aY.1,q0];{_,O,kk X st ks E' T (λb u e=>L _ _ ?_) (tbY.cut g (λps z=>nomatch z) (λφ z=>nomatch z) L) i eX tur ak};[bX (λz=>?_)];sYd _ _ e;!z;e<-[Rl i];-e
def BF(T:Txt K mg tk)(F:FO K mg "lines_of" jK)(U:rN P w K mg base):yX P w K mg base:=do aO F EI (r_ λ_ _ _=>rfl) {} λfa cdv A outer s H vs Q E t h=>?_;hu1:(A.deeper (envOfC "lines_of" (ah jK) ↑s fa cdv)).units+1<cLine:=cY t;{_,(ax (mX (i:=3) EI.nd rfl (Or.inl rfl) (own:=["fact"]) (fr:=[("part",1),("way",2)]) rfl (il (c6 hu1 (vv 0) aM (λ_ _=>rfl))) {O,∅,∅} (iQ (ah jK) ["facts","part","way","lines","lives"] rfl rfl (λ_ h=>fh h) ∅ ∅ ∅) (λ_ _ _=>(cj (i:=0) (do¬List.Nodup (["fact","part","way"]:List Tp);by decide +kernel) rfl (Or.inl rfl))) (λ_=>jS rfl) (λ_ _ _=>(eF (PW.pt (iP (ck (yH t) (xt (vv 0)) (vc 1)) (iI (ck cR (xt (vv 0)) (vc 2))))))) (λ_ _ _=>(vv 0))) (ax (sm EI.nd 4 (cy (fG t.hd (pK t)) T.cT boot_dict (a1 (DM (il (vv 3)) (λ_ _ _=>dF) (λ_ _ _=>(a_ (a2 (xt (vv 0)) (xt (vv 0))))))))) (aF (aR (rH (ah jK) x_ [("lives",4)] (il (cl U t (a1 (DM (il (vv 3)) (λ_ _ _=>dF) (λ_ _ _=>(fL nM (vv 0) (dN aD) (dN aD))))))) (λ_ _ _=>(eF (eJ (dI (cQ t) (vc 1) (vv 0) (λ_ _=>rfl))))) (λ_ _ _=>(vv 0))))))),?_};{fa,vp,pt,wy,L,n,rfl,{J,la,vs,rd,C,M,an,W},hvp,D,kk}:=h;I:vs.length=n:=(do[an.1,zh]);cD:=W.cD;qY:=W.vD pt wy;{_,O,fa,.ref la,O,.inl {J,.inr "lines",rd,O,C.symm},la,O,{_,az.of M},cI (xs:=vs) (cM ()) (λj ys H'=>H'=H/\AN (pw L H) ys (((List.range n).take j).filter (tE L pt wy))) {O,.nil} (λ_ _ H' s'=>do[s'.1];az.of M) (λj x ys H' K1 R o s' m p=>?_) λH1 r ys s' hy hq=>?_};{rfl,f}:=s';{i,c,q}:=an.at o;hin:i<n:=qv.mp (qk c);ln':=q;{b,vq,vn,vb,kq,rfl,h1,h2,h3,h4,h5}:=q;tk:(List.range n).take (j+1)=(List.range n).take j++[i]:=(do[qu,c];2);{_,O,b,_,0,_,O,O,aQ.of h1,O,_,O,tD (L i).pt,tD pt,(bE h2).dv,(bE hvp).dv,(W.lay i hin).2,D,qf (yh _ _) (qf (eK _) ⋯),_,O,?_};N:(if false=true then not (PyData.eqv (tD (L i).pt) (tD pt)) else PyData.eqv (tD (L i).pt) (tD pt))=decide ((L i).pt=pt):=gN _ _;hp<|(L i).pt=pt;cf (do[N];qH hp) ?_;{_,O,b,_,1,_,O,O,aQ.of h1,O,_,O,O,_,O,?_};X<|(L i).wy=wy;cf (qH (do[X])) ?_;{_,O,m _ _ {O,?_}};[tk];AN.pick (vs:=vs) f ln' (DO.mpr {hp,X});bL (decide_eq_false (λz=>X (V.str.inj z))) ?_;p _ {O,?_};[tk];f.skip λz=>X (DO.mp z).2;bL (do[N];decide_eq_false hp) (bL rfl ?_);p _ {O,?_};[tk];f.skip λz=>hp (DO.mp z).1;{rfl,f}:=s';f<-[I,jc (do[zh];qb _)];f:AN (pw L H1) ys (cG L n pt wy):=f;hyl:ys.length<=1300:=(do hy<-[I];());n1:ag H1 (upd H1 r (.lst ys)):=ag.new hq;y:(upd H1 r (.lst ys)) r=! (.lst ys):=aE;a:=f.imp λv i g=>g.af n1.af;(by generalize upd H1 r (.lst ys)=H2 at n1 y a);{_,O,r,O,{_,az.of y},cI (xs:=ys) (cM ()) (λj zs H'=>ag H2 H'/\∃kvs,cm H' zs kvs/\kU (dr L) (λv i=>v=.bl (L i).lv) kvs ((cG L n pt wy).take j)) {ag.refl _,[],trivial,trivial} (λ_ _ H' s'=>az.of (s'.1 _ _ y)) (λj x zs H' K1 R o s' m p=>?_) λH3 zp zs s' hz hzq=>?_};{s',kvs,pr,Y}:=s';{i,c,q}:=a.at o;{b,vq,vn,vb,kq,rfl,h1,h2,h3,h4,h5}:=q.af s'.af;tk:(cG L n pt wy).take (j+1)=(cG L n pt wy).take j++[i]:=(do[qu,c];2);dJ (B:=R H') ?_;{_,O,b,_,2,_,O,O,aQ.of h1,O,_,O,b,_,5,_,O,O,aQ.of h1,O,aG rfl,λtq H4 g4 s4 e4=>m _ _ {s'.trans s4,kvs++[(.tup (dr L i),vn,.bl (L i).lv)],cm.snoc (e:=(.tup (dr L i),vn,.bl (L i).lv)) {tq,O,e4,h3.af s4.af} (pr.af s4.af),?_}};[tk];Y.snoc rfl rfl;{s3,kvs,pr,Y}:=s';n3:ag H3 (upd H3 zp (.lst zs)):=ag.new hzq;pkF:kU (dr L) (λv i=>v=.bl (L i).lv) kvs (cG L n pt wy):=(do Y<-[show ys.length=(cG L n pt wy).length from a.1,q0];Y);{zp,zs,kvs,O,az.of aE,pr.af n3.af,(),λdq H5 g5 s5 e5=>?_};d:=(s3.trans n3).trans s5;get:∀i∈cG L n pt wy,vG (putAll [] kvs) (.tup (dr L i))=!(.bl (L i).lv):=λi hi=>(do _;{v,h1,rfl}:=kU.get (all:=cG L n pt wy) qY.inj (done:=[]) (acc:=[]) pkF (λi z=>nomatch z) (λi h=>h) (λi z=>nomatch z) i (.inr hi);h1);{_,O,r,O,{_,az.of (d _ _ y)},cI (xs:=ys) (cM ()) (λj us H'=>ag H5 H'/\AN (PL (dr L) (xS L) (MI L) H') us ((cG L n pt wy).take j)) {ag.refl _,.nil} (λ_ _ H' s'=>az.of ((d.trans s'.1) _ _ y)) (λj x us H' K1 R o s' m p=>?_) λH6 up us s' hu6 huq=>?_};{s',k}:=s';{i,c,q}:=a.at o;{b,vq,vn,vb,kq,rfl,h1,h2,h3,h4,h5}:=q.af (d.trans s').af;tk:(cG L n pt wy).take (j+1)=(cG L n pt wy).take j++[i]:=(do[qu,c];2);dJ (B:=R H') ?_;{_,O,2,O,5,O,b,_,O,aQ.of h1,(by show ¬(HT.bV 6 0 (some 2)=0/\HT.bV 6 6 (some 5)=6);decide),λtq H7 g7 s7 e7=>m _ _ {s'.trans s7,?_}};[tk];t7:=s7.af;(k.imp λv i g=>g.af t7).snoc {tq,vn,vb,.ref kq,O,e7,h3.af t7,h4.af t7,.tup (s7 _ _ h5) (.cons (.int _) (.cons (.int _) .nil))};{s6,k}:=s';n6:ag H6 (upd H6 up (.lst us)):=ag.new huq;k<-[show ys.length=(cG L n pt wy).length from a.1,q0];{up,us,dr L,xS L,MI L,cG L n pt wy,cG L n pt wy,2,O,az.of aE,k.imp λv i g=>g.af n6.af,.refl _,qY,λH8 q8 ws s8 g8 e8 aw=>?_};wl:ws.length=(cG L n pt wy).length:=(do[aw.1];Rga.gU qY.wf);G:=(s6.trans n6).trans s8;{q8,O,{_,az.of e8},cI (xs:=ws) (cM (do[wl,<-a.1];())) (λj us H'=>H'=H8/\AN (NM (dr L) H8) us (((i8 L n pt wy).take j).filter λi=>(L i).lv)) {O,.nil} (λ_ _ H' s'=>do[s'.1];az.of e8) (λj x us H' K1 R o s' m p=>?_) λH9 rp rs s' hr9 S=>?_};{rfl,k}:=s';{i,c,nm}:=aw.at o;him:i∈cG L n pt wy:=Rga.pC qY.wf (qk c);tk:(i8 L n pt wy).take (j+1)=(i8 L n pt wy).take j++[i]:=(do[qu,show(i8 L n pt wy)[j]?=some i from c];2);{_,O,_,O,dq,_,.tup (dr L i),.bl (L i).lv,O,.inl (G _ _ e5),nm,get i him,_,O,?_};Z<|(L i).lv=true;cf Z {_,O,m _ _ {O,?_}};[tk];AN.pick (vs:=ws) k nm Z;bL (do 0<|Z) (p _ {O,?_});[tk];k.skip Z;{rfl,ar}:=s';n9:ag H9 (upd H9 rp (.lst rs)):=ag.new S;s1:=(n1.trans d).trans G;ar<-[show ws.length=(i8 L n pt wy).length from aw.1,q0];kk _ rp rs (s1.trans n9) (s1.free S) aE (ar.imp λv i g=>g.af n9.af)
def FE(T:Txt K mg tk)(F:FO K mg "living" oI)(o:oz P w K mg base)(f:rO P w K mg base):pf P w K mg base:=do aO F Jc (ik λ_ _=>rfl) {} λfa cdv A outer s H vs Q E r h=>?_;{_,(ax (sm Jc.nd 2 (cy (fG r.hd (pK r)) T.cT boot_dict (a1 (DM (il (cl f r (a2 (vv 0) (vv 1)))) (λ_ _ _=>dF) (λ_ _ _=>(a_ (a2 (xt (vv 0)) (xt (vv 0))))))))) (aF (aR (rH (ah oI) zX [("lives",2)] (il (cl o r (a2 (vv 0) (vv 1)))) (λ_ _ _=>(eF (eJ (dI (cQ r) (vc 1) (vv 0) (λ_ _=>rfl))))) (λ_ _ _=>(vv 0)))))),?_};{fa,vp,pt,S,n,rfl,fg,m,a,kk}:=h;W:WS S n:=(do _;{_,_,_,_,_,_,_,W}:=fg;W);qY:=W.vD pt;{_,O,_,O,fa,vp,pt,S,n,O,fg,m,a,λH1 q zs s1 g1 e1 N=>?_};hzl:zs.length<=1400:=(do[N.1];qf (qf (wj _ _) (do[zh];qb _)) W.cD);{q,O,{_,az.of e1},cI (xs:=zs) (cM ()) (λj us H'=>ag H1 H'/\∃kvs,cm H' us kvs/\kU (cJ S) (λv i=>v=.bl (S i).lv) kvs ((bM S n pt).take j)) {ag.refl _,[],trivial,trivial} (λ_ _ H' s'=>az.of (s'.1 _ _ e1)) (λj x us H' K1 K0 V s' J k0=>?_) λX up us s' hu3 G=>?_};{s',kvs,I,y}:=s';{i,t,sn}:=N.at V;{b,vq,vn,vb,kq,vg,rfl,h1,h2,h3,h4,h5,h6}:=SN.af sn s'.af;tk:(bM S n pt).take (j+1)=(bM S n pt).take j++[i]:=(do[qu,t];2);dJ (B:=K0 H') ?_;{_,O,b,_,1,_,O,O,aQ.of h1,O,_,O,b,_,5,_,O,O,aQ.of h1,O,aG rfl,λtq H4 g4 L e4=>J _ _ {s'.trans L,kvs++[(.tup (cJ S i),vn,.bl (S i).lv)],cm.snoc (e:=(.tup (cJ S i),vn,.bl (S i).lv)) {tq,O,e4,h3.af L.af} (I.af L.af),?_}};[tk];y.snoc rfl rfl;{s3,kvs,I,y}:=s';n3:ag X (upd X up (.lst us)):=ag.new G;y<-[show zs.length=(bM S n pt).length from N.1,q0];{up,us,kvs,O,az.of aE,I.af n3.af,(),λdq H5 g5 s5 e5=>?_};R:=(s3.trans n3).trans s5;c:=s1.trans R;get:∀i∈bM S n pt,vG (putAll [] kvs) (.tup (cJ S i))=!(.bl (S i).lv):=λi hi=>(do _;{v,h1,rfl}:=kU.get (all:=bM S n pt) qY.inj (done:=[]) (acc:=[]) y (λi z=>nomatch z) (λi h=>h) (λi z=>nomatch z) i (.inr hi);h1);{_,O,_,O,fa,vp,pt,S,n,O,fg.same c,m.af c.af,a,λH6 rp C s6 g6 Y U=>?_};hrl:C.length<=1400:=(do[U.1];qf (kJ W) W.cD);{rp,O,{_,az.of Y},cI (xs:=C) (cM ()) (λj us H'=>H'=H6/\AN (NM (cJ S) H6) us (((aH S n pt).take j).filter λi=>(S i).lv)) {O,.nil} (λ_ _ H' s'=>do[s'.1];az.of Y) (λj x us H' K1 K0 V s' J k0=>?_) λH9 np rs s' hr9 k=>?_};{rfl,au}:=s';{i,t,Z}:=U.at V;M:i∈bM S n pt:=qw.mpr (do this:=(qQ W).mp (qk t);{qv.mpr this.1,iG.mpr this.2});tk:(aH S n pt).take (j+1)=(aH S n pt).take j++[i]:=(do[qu,t];2);{_,O,_,O,dq,_,.tup (cJ S i),.bl (S i).lv,O,.inl (s6 _ _ e5),Z,get i M,_,O,?_};D<|(S i).lv=true;cf D {_,O,J _ _ {O,?_}};[tk];AN.pick (vs:=C) au Z D;bL (do 0<|D) (k0 _ {O,?_});[tk];au.skip D;{rfl,p}:=s';n9:ag H9 (upd H9 np (.lst rs)):=ag.new k;d:=c.trans s6;p<-[show C.length=(aH S n pt).length from U.1,q0];kk _ np rs (d.trans n9) (d.free k) aE (p.imp λv i g=>NM.af g n9.af)
def Cz(T:Txt K mg tk)(F:FO K mg "stands_in" pB)(Z:vi P w K mg base)(J:yY P w K mg base)(S:uF P w K mg base):yp P w K mg base:=do aO F DB (nN λ_=>rfl) {} λfa cdv A outer s H vs Q E d h=>?_;{_,(ax (sn DB.nd 1 (cl J d (a1 (cl S d (a1 (vv 0)))))) (ax (sm DB.nd 2 (cl Z d (a1 (vv 1)))) (aF (aR (cy (fG d.hd (pK d)) T.cT boot_dict (a1 (gH (own:=["part","outer"]) (fr:=[("reaching",2)]) rfl (ux (vv 1)) {O,∅,∅} (iQ (ah pB) ["facts","outer_of","reaching"] rfl rfl (λ_ h=>fh h) ∅ ∅ ∅) (λ_ _ _=>(iD (n:=2) rfl (cN (cj (i:=0) (do¬List.Nodup (["part","outer","reaching"]:List Tp);by decide +kernel) rfl (Or.inl rfl)) (cN (cj (i:=1) (do¬List.Nodup (["part","outer","reaching"]:List Tp);by decide +kernel) rfl (Or.inl rfl)) gK)))) (λ_=>pO rfl rfl ⋯) (λ_ _ _=>dF) (λ_ _ _=>(a_ (a2 (vv 0) (rZ (eJ (dI (cQ d) (vc 2) (vv 0) (λ_ _=>rfl))) (vv 1) dH))))))))))),?_};{fa,es,rs,rfl,fq,tb,ma,kk}:=h;W:=fq.xw;hfew:=W.cD;{_,O,fa,es,rs,O,fq,λH1 tq kt s1 g1 e1 ak1=>?_};tb1:=tb.same s1;{tq,kt,tl rs,O,.inl e1,ak1,W,tb1,s1 _ _ ma,λH2 sa ks E T s2 M gsa g tur ak2=>?_};ntP:tq≠gQ:=λz=>(do _;{ps,t}:=tb1.cF;t<-[<-z,e1];-t);G:ag (del H gQ) H2:=λb u e=>(do nb:b≠gQ:=λz=>(do e<-[z,d6];-e);e<-[bX nb];mM s2 (s1 _ _ e) λz=>?_;z||z:=z;e<-[z,g1];-e;nb z);fsa:H sa=none:=s1.free gsa;wO:∀x∈((tl rs).map (d8 T)),xW x:=λx C=>(do _;{y,hy,rfl}:=qc.mp C;zE (W.w y hy));ma2:MA H2:=My.jQ tb G ma λps z=>nomatch z;{_,O,sa,ks,((tl rs).map (d8 T)),O,.inl g,ak2.EJ λe x _ C q=>{q.1,q.2.1,hH (wO x C).ou.ne q.2.2},W.zw T,ma2,λH3 U kr f v c D era rm rcr hkf=>?_};hkr:∀x∈((tl rs).map (d8 T)),∃b:Bool,vG kr (.tup x.pt)=!(.bl b)/\f x.pt=!b:=λx C=>(do _;{b,hb}:=ue.mp (hkf x C);this:=rm.at_ x.pt;this<-[md (wO x C).pt.ne,hb];{b,this,hb});N:aj H2 H3:=rM g (λys z=>nomatch z) v;s03:ag (del H gQ) H3:=λb u e=>v _ _ (do[bX (λz=>?_)];G _ _ e;!z;e<-[KQ fsa];-e);tb3:jF H3:=M.cut g (λps z=>nomatch z) (λφ z=>nomatch z) v;fra:H U=none:=(do this:=G.free D;z<|U=gQ;{ps,t}:=M.cF;t<-[<-z,D];-t;this<-[bX z];this);ak3:=ak2.imp λe x q=>q.imp (R':=pS H3) N λr=>r.af N;nrs:U≠sa:=(a9 g D).symm;{_,O,sa,ks,O,rG c λo Y hY fY eY=>?_};tY:aj H3 Y:=λb us e=>hY b _ (λz=>do !z;by rcases c with q|⟨o',q⟩ <;> rw[q]at e <;> cases e) e;eraY:=hY U _ nrs era;s0Y:ag (del H gQ) Y:=λb u e=>hY b u (λz=>do !z;e<-[KQ fsa];-e) (s03 _ _ e);tbY:jF Y:=tb3.keep λb u e hu=>hY b u (λz=>do !z;q||{o',q}:=c;e<-[q];-e;(by rcases hu with⟨ps,y⟩|⟨φ,y⟩ <;> cases y);e<-[q];-e;by rcases hu with⟨ps,y⟩|⟨φ,y⟩ <;> cases y) e;aY:=ak3.imp λe x q=>q.imp (R':=pS Y) tY λr=>r.af tY;xo (jH (do[aY.1,qh];())) (λj ys X=>ag Y X/\∃es:List 67,cm X ys es/\AL (EK (iu X) X) es ((((tl rs).map (d8 T)).take j).map (sv f))) {ag.refl _,[],trivial,.nil} (λ_ _ X s'=>s'.1 _ _ eY) (λj e ys X p K1 K0 C s' hp k1 k0=>?_) λX np ys s' hy hq=>?_;{I,k,pr,ae}:=s';{r,d,p1,p2,p3}:=aY.at C;sp:ag X (upd X p (.tup [e.2.1,e.2.2])):=ag.new hp;ep:(upd X p (.tup [e.2.1,e.2.2])) p=! (.tup [e.2.1,e.2.2]):=aE;(by generalize upd X p (.tup [e.2.1,e.2.2])=X1 at sp ep);a:=I.trans sp;{b,hb,hbv}:=hkr r (qk d);L:∀vv,iu X1 vv (sv f r)->∀(R:To) X3,X1 R=none->ag X1 X3->X3 R=!(.tup [e.2.1,vv])->K1 (.ref R) X3:=λvv hvv R X3 g3 v e3=>(do m:=sp.trans v;k1 _ _ {I.trans m,k++[(.tup r.pt,e.2.1,vv)],?_,?_};cm.snoc (e:=(.tup r.pt,e.2.1,vv)) {R,O,e3,(p2.af a.af).af v.af} (pr.af m.af);[qu,d,zt];(ae.imp λe x p=>p.imp m.af λq=>q.af m.af).snoc {do[(pA f r).1],do[(pA f r).1];(p2.af a.af).af v.af,hvv.af v.af});{p,_,O,aQ.of ep,O,_,_,O,_,_,O,O,?_};dJ (B:=K0 X1) ?_;{_,O,_,O,_,O,U,kr,.tup r.pt,.bl b,O,.inl (a _ _ eraY),p2.af a.af,hb,_,O,?_};(by cases b with|true|false=>?_);cf rfl {_,O,aG rfl,L _ (do(by unfold iu sv);[qF hbv];hH (wO r (qk d)).ou.ne (GK.af p3 a.af))};bL rfl {aG rfl,L _ (by unfold iu sv;rw[qB (do[hbv];λz=>nomatch z)];rfl)};{I,k,pr,ae}:=s';ae<-[aY.1,q0];oH:rD rs (((tl rs).map (d8 T)).map (sv f)):={E,T,f,tur,do rcr<-[qh];rcr,O};ds:=oH.zw W;nH:ag X (upd X np (.lst ys)):=ag.new hq;{np,ys,k,O,az.of aE,pr.af nH.af,?_,λq X2 g2 s2 e2=>?_};this:ys.length<=ks.length:=hy;this:=aY.1;this<-[qh];();e2<-[l_ _ [] (do[z7];vQ ae ds.nd),z7];s0:=nH.trans s2;fq':H q=none:=(do h1:=I.free (nH.free g2);this:=s0Y.free h1;z<|q=gQ;{ps,t}:=tbY.cF;t<-[<-z,h1];-t;this<-[bX z];this);kk X2 q k _ ((s0Y.trans I).trans s0) (tbY.same (I.trans s0)) fq' e2 oH (ae.imp λe x p=>p.imp s0.af λq=>q.af s0.af)
def C5(T:Txt K mg tk)(F:FO K mg "table_of" ow)(M:yX P w K mg base)(gfBb:Ai P w K mg base):zB P w K mg base:=do aO F p6 (ik λ_ _=>rfl) {} λfa cdv A outer s H vs Q E hr h=>?_;{_,(ax (sn p6.nd 2 (cl M hr (ac (vv 0) (a2 (vv 1) aM)))) (ax (sn p6.nd 3 (cl M hr (ac (vv 0) (a2 (vv 1) aM)))) (ax (sm p6.nd 4 (cl gfBb hr (a2 (vv 0) (vv 1)))) (ax (sn p6.nd 5 (bT dj)) (ax (fo (il (vv 2)) (gm p6.nd 6) (aF (ap (vv 5) (a1 (rH (ah ow) zP [("told",4),("row",6)] (il (vv 3)) (λ_ _ _=>dF) (λ_ _ _=>(bm PySem.F.plainAttrs_dict PySem.F.slot_dict_get PySem.F.type_dict_get (kR (cQ hr)) (vc 1) (a2 (a_ (a2 (vc 2) (vv 0))) aM)))))))) (aF (aR (a_ (ac (vv 2) (a2 (vv 3) (vv 5))))))))))),?_};{fa,vp,pt,L,n,C,m,rfl,tb,N,f,kk}:=h;WLn:=(show WL L n by obtain⟨_,_,_,_,_,_,_,_,_,h,_⟩:=tb;exact h);{_,O,_,O,fa,vp,pt,"row",L,n,O,tb.fl,N,f,λH1 S zr s1 g1 e1 ar=>?_};{_,O,_,O,fa,vp,pt,"column",L,n,O,(tb.same s1).fl,N.af s1.af,f,λH2 W zc s2 g2 e2 ac=>?_};R:=s1.trans s2;{_,O,_,O,fa,vp,pt,L,n,C,m,O,tb.same R,N.af R.af,f,λH3 dq kvs s3 g3 e3 tell=>?_};D:=R.trans s3;p:=s3 _ _ (s2 _ _ e1);t:=s3 _ _ e2;Y:AN (NM (dr L) H3) zr (bW L n pt "row"):=ar.imp λv i g=>g.af (s2.trans s3).af;X:AN (NM (dr L) H3) zc (bW L n pt "column"):=ac.imp λv i g=>g.af s3.af;nrc:S≠W:=a9 e1 g2;hrl:zr.length<=1300:=(do[ar.1];LM WLn);hcl:zc.length<=1300:=(do[ac.1];LM WLn);{aG rfl,λwp H4 g4 s4 e4=>?_};nrw:S≠wp:=a9 p g4;ncw:W≠wp:=a9 t g4;{_,O,S,O,{_,az.of (s4 _ _ p)},bN (xs:=zr) (λj σ Z=>uA λ(ws:List V) (u6:Option V)=>m_ (σ=[! (.ref fa),!vp,!(.ref S),!(.ref W),!(.ref dq),!(.ref wp),u6]) (ag H3 Z) (Z wp=!(.lst ws)) (AN (H_ L C m pt (bW L n pt "column") H Z) ws ((bW L n pt "row").take j)) ws.Nodup (∀a,V.ref a∈ws->a≠S/\a≠W/\a≠wp)) {[],none,O,s4,e4,.nil,v9,λa z=>nomatch z} (λj σ Z _ ⟨_,_,_,d,_,_,_,_⟩=>az.of (d _ _ p)) ?_ ?_};(j,x,σ,Z,hx,{ws,u6,rfl,d,ew,U,nd,ne},Nx,hNx);{r,er,nmr}:=Y.at hx;hj:j<1300:=(do this:=(qp.mp hx).1;());hwl:ws.length<=j:=(do[U.1,wv];());tk:(bW L n pt "row").take (j+1)=(bW L n pt "row").take j++[r]:=(do[qu,er];2);{_,O,.inl {O,_,az.of ew},_,O,W,O,{_,az.of (d _ _ t)},cI (xs:=zc) (cM ()) (λj' ys Z'=>ag Z Z'/\ys=((bW L n pt "column").take j').map λc=>V.str (p5 C m pt (dr L r) (dr L c))) {ag.refl _,O} (λ_ _ Z' s'=>az.of (s'.1 _ _ (d _ _ t))) (λj' y ys Z' K1 K0 hy s' k1 k0=>?_) λZ1 a ys s' hyl hqa=>?_};{s',rfl}:=s';{c,ec,nmc}:=X.at hy;I:=d.trans s';{c1,rfl,hc1}:=nmr.af I.af;{c2,rfl,hc2}:=nmc.af I.af;dJ (B:=K0 Z') ?_;{_,O,.inr (.inr (.inl {O,.inr (.inr {kvs,I _ _ e3})})),_,O,_,O,aG rfl,λtq Z2 g2' G e2'=>?_};{dq,kvs,.two (dr L r) (dr L c),.ref tq,.str "",O,O,G _ _ (I _ _ e3),{tq,c1,c2,O,e2',G _ _ hc1,G _ _ hc2},?_};[show(vG kvs (.two (dr L r) (dr L c))).getD (V.str "")=.str (p5 C m pt (dr L r) (dr L c)) from tell _ _];k1 _ _ {s'.trans G,?_};[qu,ec,zt];2;{s',rfl}:=s';[show zc.length=(bW L n pt "column").length from ac.1,q0];nZ:ag Z1 (upd Z1 a (.lst ((bW L n pt "column").map λc=>V.str (p5 C m pt (dr L r) (dr L c))))):=ag.new hqa;ea:(upd Z1 a (.lst ((bW L n pt "column").map λc=>V.str (p5 C m pt (dr L r) (dr L c))))) a=!(.lst (Le L C m pt (bW L n pt "column") r)):=aE;J:=s'.trans nZ;o:Z a=none:=s'.free hqa;(by generalize upd Z1 a (.lst ((bW L n pt "column").map λc=>V.str (p5 C m pt (dr L r) (dr L c))))=Z2 at nZ ea J);{wp,_,_,O,O,J _ _ ew,kD (),?_};naw:a≠wp:=(a9 ew o).symm;hNx _ _ {ws++[.ref a],_,O,(d.trans J).wr g4,aE,?_,?_,λb hb=>?_};[tk];AN.snoc (Oz U λv i hv g=>?_) {a,O,(D.trans d).free o,do[aB naw];ea};{b,rfl,h1,h2}:=g;{b,O,h1,do[aB (ne b hv).2.2];J _ _ h2};List.nodup_append.mpr {nd,do 0,λx hx y hy z=>?_};z<-[qt.mp hy];!z;{i,_,b,e,_,h2}:=U.mem hx;-e;h2<-[o];-h2;z||z:=zg.mp hb;ne b z;-qt.mp z;⟨(a9 (d _ _ p) o).symm,(a9 (d _ _ t) o).symm,naw⟩;(σ,Z,{ws,u6,rfl,d,ew,U,nd,ne});U<-[show zr.length=(bW L n pt "row").length from ar.1,q0];{_,O,_,O,_,O,aG rfl,λq H9 g9 s9 e9=>?_};k:=d.trans s9;kk H9 q S W wp zr zc ws (D.trans k) ((D.trans d).free g9) e9 g1 (s1.free g2) (D.free g4) nrc nrw ncw (k _ _ p) (k _ _ t) (s9 _ _ ew) (Y.imp λv i g=>g.af k.af) (X.imp λv i g=>g.af k.af) (U.imp λv i g=>g.same s9) nd ne
def Cg(T:Txt K mg tk)(F:FO K mg "may_read" oy)(b:Av P w K mg base):yJ P w K mg base:=do aO F CV (zS λ_ _ _ _=>rfl) {} λfa d A outer s H vs Q E e h=>?_;c:(A.deeper (envOfC "may_read" (ah oy) ↑s fa d)).units+1<cLine:=cY e;{_,(aF (aR (xY (ce tG (vv 2) dH) (xh (cl b e (ac (vv 1) (ac (c6 c (vv 0) aM (λ_ _=>rfl)) (ac (c6 c (vv 0) aM (λ_ _=>rfl)) (ac (vv 2) (a2 (vv 3) aM)))))))))),?_};{fa,F,x,r,h,v,p,rfl,a,i,g,f}:=h;(by cases h with|none|some z=>?_);{_,O,O,_,O,cf (qH rfl) (f H (ag.refl _))};{bs,m,j}:=a.eb;{ys,k,n}:=a.ev;{_,O,O,_,O,bL (decide_eq_false λz=>nomatch z) ?_};{_,O,_,O,fa,.ref (F 0),O,.inl {du F 9,.inr "births",a.dk,O,(dh F 0 ⋯).symm},_,O,fa,.ref (F 8),O,.inl {du F 9,.inr "leaves",a.dk,O,(dh F 8 ⋯).symm},_,O,_,O,r,F 0,F 8,z,v,p,"ann",[.str "bo"],bs,x.br,ys,x.ls,O,az.of i,az.of m,j,qf a.lb ⋯,a.nb,az.of k,n,a.ls,a.ll,g,f}
def Ek(T:Txt K mg tk)(F:FO K mg "told_of_signs" jE)(gfCb:pf P w K mg base)(gfCa:oz P w K mg base)(gfBq:pj P w K mg base)(gfAe:As P w K mg base):Ay P w K mg base:=do aO F mN (r_ λ_ _ _=>rfl) {} λfa cdv A outer s H vs Q E hr h=>?_;hu1:(A.deeper (envOfC "told_of_signs" (ah jE) ↑s fa cdv)).units+1<cLine:=cY hr;{_,(ax (sn mN.nd 3 (cl gfCa hr (a2 (vv 0) (vv 1)))) (ax (sm mN.nd 4 (cl gfBq hr (a1 (vv 3)))) (ax (sm mN.nd 5 (cl gfAe hr (ac (vv 0) (a2 (vv 1) (vv 3))))) (ax (sn mN.nd 6 kH) (ax (fo (il (cl gfCb hr (a2 (vv 0) (vv 1)))) (gm mN.nd 7) (ax (mX (i:=8) mN.nd rfl (Or.inl rfl) (own:=["kind"]) (fr:=[("telling",5),("seats",4),("name",7)]) rfl (il (cb (M5 (uL hr) hr.hd) T.cZ boot_sorted (a1 (vc 5)))) {O,∅,∅} (iQ (ah jE) ["facts","part","place","row","seats","telling","told","name","marks"] rfl rfl (λ_ h=>fh h) ∅ ∅ ∅) (λ_ _ _=>(cj (i:=0) (do¬List.Nodup (["kind","telling","seats","name"]:List Tp);by decide +kernel) rfl (Or.inl rfl))) (λ_=>jS rfl) (λ_ _ _=>dF) (λ_ _ _=>(xi (c6 hu1 (vc 1) (vv 0) (λ_ _=>rfl)) (dI (cQ hr) (vc 2) (vc 3) (λ_ _=>rfl))))) (aF (jZ (cQ hr) (vv 6) (vc 7) (rH (ah jE) yO [("place",2)] (il (vv 8)) (λ_ _ _=>(eF (PW.pt (iP (ck JA (vv 0) dH) (iI (ck JA (xt (vv 0)) dH)))))) (λ_ _ _=>(a_ (a2 (xt (vv 0)) (xu (vv 0) (vc 1)))))) rfl)))) (aF (aR (vv 6)))))))),?_};{fa,F,S,n,M,m,N,q,xs,ms,ns,vp,pt,G,rfl,fs,gvp,I,hm,kk}:=h;W:=fs.ws;WM:=fs.wm;inj:Inj (cJ S) 68:=λi hi j hj=>W.inj i (mY W hi) j (mY W hj);hml:ms.length=m:=(do[fs.ma.1,zh]);{_,O,_,O,fa,vp,pt,S,n,O,fs.fg,gvp,I,λH1 rp rv s1 g1 e1 ar=>?_};{_,O,rp,rv,cJ S,aH S n pt,O,e1,ar,pI W,inj,qf (kJ W) W.cD,λH2 dq kvs s2 g2 e2 hse=>?_};s02:=s1.trans s2;{_,O,_,O,_,O,fa,F,S,n,M,m,N,q,xs,ms,ns,vp,pt,rp,rv,O,fs.same s02,gvp.af s02.af,I,s2 _ _ e1,ar.imp (λv i g=>NM.af g s2.af),λH3 lq tv s3 g3 e3 tk=>?_};s03:=s02.trans s3;(D,H4,g4,s4,e4);s04:=s03.trans s4;gtq:H D=none:=s03.free g4;{_,O,_,O,fa,vp,pt,S,n,O,(fs.same s04).fg,gvp.af s04.af,I,λH5 aq av s5 g5 e5 aa=>?_};s05:=s04.trans s5;hal:av.length<=1400:=(do[aa.1];qf (wj _ _) (qf (kJ W) W.cD));L:=s5 _ _ e4;naq:aq≠D:=(a9 e4 g5).symm;ndq:dq≠D:=a9 (s3 _ _ e2) g4;nlq:lq≠D:=a9 e3 g4;edq5:=(s4.trans s5) _ _ (s3 _ _ e2);elq5:=(s4.trans s5) _ _ e3;ma5:=fs.ma.imp λv i g=>MN.af g s05.af;knd:(kinds M (aI M m pt)).Nodup:=Ly _ [] v9;hmp:(aI M m pt).length<=63:=qf (qf (wj _ _) (do[zh];qb _)) hm;hkl:(kinds M (aI M m pt)).length<=63:=qf (Ea _ []) (do¬0+_<=63;());hin:∀i∈aI M m pt,i<m:=λi hi=>qv.mp (qw.mp hi).1;htv:(tv.map λe=>kV e.1)=(kinds M (aI M m pt)).map V.str:=(do this:=congrArg (List.map kV) tk.keys;this<-[wg,wg];this);hkey:∀kd∈kinds M (aI M m pt),PyData.strOk kd=true:=λkd p=>(do z||{i,h1,h2}:=(BR _ []).mp p;-z;[<-h2];(WM.lay i (hin i h1)).2.2.1);keys:KeysAre ((kinds M (aI M m pt)).map .str) 1:=(do _;{fO λd hd=>?_,λd hd=>?_,λx hx y f=>?_,λd hd=>?_};{k,p,rfl}:=qc.mp hd;hkey k p;{k,p,rfl}:=qc.mp hd;(by trivial);{k,p,rfl}:=qc.mp hx;{k',hk',rfl}:=qc.mp f;2;{k,p,rfl}:=qc.mp hd;qx 60);hsl:(fe (kinds M (aI M m pt))).length<=63:=(do[(uN _).length_eq];hkl);{aq,O,{_,az.of e5},bN (xs:=av) (λj σ Z=>vC λ(R:List 67) (u7:Option V) (u8:Option V)=>gF (σ=[! (.ref fa),!vp,!(.int (if G then 5 else 4)),!(.ref rp),!(.ref dq),!(.ref lq),!(.ref D),u7,u8]) (ag (del H5 D) Z) (Z D=!(.dG R)) (kB (cJ S) (λi=>Gy M G 68 (aI M m pt) ((aH S n pt).idxOf i)) (λa=>H a=none/\a≠D) Z R ((bA S n pt).take j)/\(R.map (·.2.2)).Nodup)) {[],none,none,O,mR,L,{O,λj e i z=>nomatch z},v9} (λj σ Z _ ⟨_,_,_,_,r,_,_⟩=>az.of (DP.to r e5 naq)) ?_ ?_};(j,x,σ,Z,hx,{R,u7,u8,rfl,sZ,eZ,td,nd0},Nx,hNx);{i,ei,zM}:=aa.at hx;tZ:aj H5 Z:=λa ys e=>DP.to sZ e (λz=>do e<-[z,L];-e);nm:=NM.af zM tZ;hir:i∈aH S n pt:=(qw.mp (qk ei)).1;hjl:j<(bA S n pt).length:=(qp.mp ei).1;hp:(aH S n pt).idxOf i<(aH S n pt).length:=rz hir;edqZ:=DP.to sZ edq5 ndq;elqZ:=DP.to sZ elq5 nlq;tkZ:TK M 68 (aI M m pt) ms (λ_=>True) Z tv:={tk.keys,λkd p=>do _;{a,h1,_,h3}:=tk.val kd p;h5:=(s4.trans s5) _ _ h3;{a,h1,trivial,DP.to sZ h5 (λz=>do h5<-[z,L];-h5)},tk.ne};{_,O,lq,tv,(kinds M (aI M m pt)).map .str,1,O,.inl elqZ,do[htv];(JI _).dv,keys,do this:=congrArg List.length tk.keys;this<-[qh,qh];(),λsq Z1 ix g1 s1 six e1=>?_};e1<-[htv,EV knd six];{sq,O,{_,az.of e1},cI (xs:=(fe (kinds M (aI M m pt))).map V.str) (cM (do[qh];())) (λU ys X=>X=Z1/\ys=((fe (kinds M (aI M m pt))).take U).map λkd=>mV ms (tell M 68 (aI M m pt) kd ((aH S n pt).idxOf i))) {O,O} (λ_ _ X s'=>do[s'.1];az.of e1) (λU y ys X K1 K0 f s' k1 k0=>?_) λX np ys s' hyl hnq=>?_};{rfl,rfl}:=s';f<-[qj];(by cases p:(fe (kinds M (aI M m pt)))[U]? with|none|some kd=>?_);f<-[p];-f;f<-[p];-f;hkm:kd∈kinds M (aI M m pt):=(uN _).mem_iff.mp (qk p);{a,h1,_,h3}:=tkZ.val kd hkm;dJ (B:=K0 X) ?_;{_,O,_,O,lq,.ref a,O,.inl {tv,.inr kd,.inl (s1 _ _ elqZ),O,h1.symm},_,O,_,O,dq,kvs,.tup (cJ S i),_,O,.inl (s1 _ _ edqZ),NM.af nm s1.af,hse.2 i hir,a,_,_,_,O,O,az.of (s1 _ _ h3),vR (j:=(aH S n pt).idxOf i) (v:=mV ms (tell M 68 (aI M m pt) kd ((aH S n pt).idxOf i))) ?_,k1 _ _ {O,?_}};@iO;[qj,yc hp];2;[qu,p,zt];2;{rfl,hys}:=s';hys<-[qh,q0];nX:ag X (upd X np (.lst ys)):=ag.new hnq;eX:(upd X np (.lst ys)) np=! (.lst ys):=aE;(by generalize upd X np (.lst ys)=Z2 at nX eX);J:=s1.trans nX;ma2:AN (MN S M Z2) ms (List.range m):=ma5.imp λv i g=>MN.af g (tZ.trans J.af);hyl2:ys.length<=63:=(do[hys,qh];hsl);{_,O,np,O,{_,az.of eX},cI (xs:=ys) (cM ()) (λU zs X2=>ag Z2 X2/\dE X2 zs (((fe (kinds M (aI M m pt))).take U).filterMap λkd=>C0 M G (tell M 68 (aI M m pt) kd ((aH S n pt).idxOf i)))) {ag.refl _,.nil} (λ_ _ X2 s'=>az.of (s'.1 _ _ eX)) (λU y zs X2 K1 K0 f s' k1 k0=>?_) λX3 lp zs s' hzl hlq=>?_};{s',dz}:=s';f<-[hys,qj];(by cases p:(fe (kinds M (aI M m pt)))[U]? with|none|some kd=>?_);f<-[p];-f;f<-[p];f:=qJ f;f:mV ms (tell M 68 (aI M m pt) kd ((aH S n pt).idxOf i))=y:=f;nxt:∀{Y:Hp},ag Z2 Y->dE Y zs (((fe (kinds M (aI M m pt))).take U).filterMap λkd=>C0 M G (tell M 68 (aI M m pt) kd ((aH S n pt).idxOf i)))->C0 M G (tell M 68 (aI M m pt) kd ((aH S n pt).idxOf i))=none->ag Z2 Y/\dE Y zs (((fe (kinds M (aI M m pt))).take (U+1)).filterMap λkd=>C0 M G (tell M 68 (aI M m pt) kd ((aH S n pt).idxOf i))):=λ{Y} a b c=>{a,do[J3 p,c];¬dE _ _ (_++[]);[z6];b};(by cases ht:tell M 68 (aI M m pt) kd ((aH S n pt).idxOf i)with|none|some k=>?_);f<-[ht];!f;{_,O,O,_,O,?_};bL rfl (bL rfl (k0 _ (nxt s' dz (do[ht];2))));f<-[ht];hkm:k<m:=hin k (KY ht).1;{v,hv}:∃v,ms[k]?=!v:={_,qe (do[hml];hkm)};hyv:v=y:=(do[<-f];¬v=ms.getD k .aS;[zb,hv];2);!hyv;mn:=ma2.2 k v k hv (yc hkm);{b,vq,vb,ve,vn,kq,rfl,h1,h2,h3,h4,h5,h6}:=MN.af mn s'.af;{_,O,O,_,O,?_};cf rfl ?_;{_,O,b,_,4,_,O,O,aQ.of h1,O,O,_,O,?_};(by cases hvl:(M k).vl with|none|some z=>?_);bL rfl (k0 _ (nxt s' dz (do[ht];¬(if(M k).vl=none then none else _)=none;[qF hvl])));cf rfl ?_;hto:C0 M G (tell M 68 (aI M m pt) kd ((aH S n pt).idxOf i))=!(.tuple [.str (M k).kd,ua M G k]):=(do[ht];¬(if(M k).vl=none then none else _)=_;[qB (do[hvl];λq=>nomatch q)]);fin:∀{Y:Hp} {tp:To} {vu:V},ag X2 Y->Y tp=!(.tup [.str (M k).kd,vu])->DT Y vu (ua M G k)->ag Z2 Y/\dE Y (zs++[.ref tp]) (((fe (kinds M (aI M m pt))).take (U+1)).filterMap λkd=>C0 M G (tell M 68 (aI M m pt) kd ((aH S n pt).idxOf i))):=λ{Y tp vu} a b c=>{s'.trans a,do[J3 p,hto];CO (.tup b (.cons (.str _) (.cons c .nil))) (dz.af a.af)};(by cases G with|false|true=>?_);{_,O,b,_,3,_,O,O,aQ.of h1,O,_,O,_,O,b,_,4,_,O,O,aQ.of h1,O,aG rfl,λtp Y gY sY eY=>k1 _ _ (fin sY eY (do@ua;[hvl];.str z))};{_,O,b,_,3,_,O,O,aQ.of h1,O,_,O,_,O,b,_,5,_,O,O,aQ.of h1,O,aG rfl,λtp Y gY sY eY=>k1 _ _ (fin sY eY (bE (h5.af sY.af)))};{s',dz}:=s';dz<-[show ys.length=(fe (kinds M (aI M m pt))).length by rw[hys,qh],q0];n3:ag X3 (upd X3 lp (.lst zs)):=ag.new hlq;e3':(upd X3 lp (.lst zs)) lp=! (.lst zs):=aE;dz3:=dE.af n3.af dz;C:ag Z (upd X3 lp (.lst zs)):=(J.trans s').trans n3;glp:Z lp=none:=(J.trans s').free hlq;(by generalize upd X3 lp (.lst zs)=X4 at n3 e3' dz3 C);nlp:lp≠D:=(a9 eZ glp).symm;hklen:=td.len;hnew:∀x∈R,x.1≠KD.tup (cJ S i):=λx hx e=>(do hm1:x.1∈R.map (·.1):=qc.mpr {x,hx,O};hm1<-[td.keys];{i',hi',e'}:=qc.mp hm1;e'<-[e];e2:=KD.tup.inj e';hi'r:i'∈aH S n pt:=(qw.mp (r8 hi')).1;this:=inj i' hi'r i hir e2;!this;nd:(bA S n pt).Nodup:=(pI W).sublist kh;{t,ht1}:=jh hi';ht2:t<j:=(do this:=(qp.mp ht1).1;this<-[wv];());ht1<-[me ht2];a1:=Ew nd ht1;a2:=Ew nd ei;());{_,O,_,O,D,R,.tup (cJ S i),O,C _ _ eZ,NM.af nm C.af,kD (do[hklen,wv];this:=aa.1;()),?_};[Dg _ _ hnew];tw:aj X4 (upd X4 D (.dG (R++[(.tup (cJ S i),x,.ref lp)]))):=aj.wd (C _ _ eZ);hNx _ _ {_,_,_,O,(ag.trans sZ C).wr d6,aE,?_,td.xE nd0 glp};[qu,ei];kB.snoc ((td.same C).to tw (λa zs' hb e=>do[aB hb.2];e) λ_ h=>h) (NM.af nm (C.af.trans tw)) {?_,nlp} (do[aB nlp];e3') (dz3.af tw);this:=sZ.free glp;this<-[bX nlp];s05.free this;(σ,Z,{R,u7,u8,rfl,sZ,eZ,td,nd0});td<-[show av.length=(bA S n pt).length from aa.1,q0];{_,O,kk Z D R (λb o e=>DP.to sZ (s05 _ _ e) (a9 e gtq)) gtq eZ td nd0}
def Bk(T:Txt K mg tk)(F:FO K mg "notes_of" jG)(gfAw:ya P w K mg base)(gfCb:pf P w K mg base)(gfCa:oz P w K mg base)(gfBq:pj P w K mg base)(gfBx:sN P w K mg base):zH P w K mg base:=do aO F nP (ik λ_ _=>rfl) {} λfa cdv A outer s H vs Q E hr h=>?_;hu1:(A.deeper (envOfC "notes_of" (ah jG) ↑s fa cdv)).units+1<cLine:=cY hr;{_,(ax (sm nP.nd 2 (cl gfBq hr (a1 (cl gfCa hr (a2 (vv 0) (vc 1)))))) (ax (sn nP.nd 3 (cl gfCb hr (a2 (vv 0) (vc 1)))) (ax (sn nP.nd 4 (bT dj)) (ax (fo (il (KO gfAw hr T.cZ boot_sorted (a1 (rH (ah jG) Ad [("part",1)] (il (c6 hu1 (vv 0) aM (λ_ _=>rfl))) (λ_ _ _=>(eF (ck (yH hr) (xt (vv 0)) (vc 1)))) (λ_ _ _=>(vv 0)))))) (gn nP.nd 5) (ax (sm nP.nd 6 (cl gfBx hr (ac (vc 2) (a2 (xt (vv 5)) (xt (vv 5)))))) (ax (mX (i:=7) nP.nd rfl (Or.inl rfl) (own:=["name"]) (fr:=[("between",6),("seats",2)]) rfl (il (vv 3)) {O,∅,∅} (iQ (ah jG) ["facts","part","seats","alive","told","note","between","under"] rfl rfl (λ_ h=>fh h) ∅ ∅ ∅) (λ_ _ _=>(cj (i:=0) (do¬List.Nodup (["name","between","seats"]:List Tp);by decide +kernel) rfl (Or.inl rfl))) (λ_=>jS rfl) (λ_ _ _=>(eF (Q3 Ah zV (xt (vc 1)) (dI (cQ hr) (vc 2) (vv 0) (λ_ _=>rfl)) (xt (vc 1))))) (λ_ _ _=>(vv 0))) (aF (ap (vv 4) (a1 (a_ (ac (xt (vv 5)) (a2 (xt (vv 5)) (rZ (ck eh (cb de T.bS boot_len (a1 (vv 7))) aD) (xl (vv 7)) dH)))))))))) (aF (aR (vv 4))))))),?_};{fa,F,S,n,M,m,N,q,xs,ms,ns,vp,pt,rfl,fs,gvp,C,kk}:=h;W:=fs.ws;WN:=fs.wn;inj:Inj (cJ S) 68:=λi hi j hj=>W.inj i (mY W hi) j (mY W hj);sin:∀{d:Sd},dZ S n pt d->qR 68 d:=λo i b z=>(qQ W).mpr (o i b z);hnl:ns.length=q:=(do[fs.na.1,zh]);fewq:=WN.cD;{_,O,_,O,fa,vp,pt,S,n,O,fs.fg,gvp,C,λH1 rp rv s1 g1 e1 ar=>?_};{rp,rv,cJ S,aH S n pt,O,e1,ar,pI W,inj,qf (kJ W) W.cD,λH2 dq kvs s2 g2 e2 hse=>?_};s02:=s1.trans s2;{_,O,_,O,fa,vp,pt,S,n,O,(fs.same s02).fg,gvp.af s02.af,C,λH3 aq av s3 g3 e3 aa=>?_};s03:=s02.trans s3;hal:av.length<=1400:=(do[aa.1];qf (wj _ _) (qf (kJ W) W.cD));{aG rfl,λc H4 g4 s4 e4=>?_};s04:=s03.trans s4;f4:=fs.same s04;{_,O,fa,.ref (F 5),O,.inl {du F 9,.inr "notes",f4.dk,O,(dh F 5 ⋯).symm},F 5,O,{_,az.of f4.nl},cI (xs:=ns) (cM ()) (λj ys H'=>H'=H4/\AN (NN S N H4) ys (((List.range q).take j).filter λi=>decide ((N i).pt=pt))) {O,.nil} (λ_ _ H' s'=>do[s'.1];az.of f4.nl) (λj x ys H' K1 K0 hx s' k1 k0=>?_) λH5 lp ys s' hy hq=>?_};{rfl,ay}:=s';{i,ei,nn}:=f4.na.at hx;hin:i<q:=qv.mp (qk ei);nn':=nn;{b,vq,vb,ve,vn,kq,rfl,h1,h2,h3,h4,h5,h6}:=nn;tk:(List.range q).take (j+1)=(List.range q).take j++[i]:=(do[qu,ei];2);{_,O,b,_,0,_,O,O,aQ.of h1,O,_,O,tD (N i).pt,tD pt,(bE h2).dv,(bE (gvp.af s04.af)).dv,(WN.lay i hin).1,C,qf (yh _ _) (qf (eK _) ⋯),_,O,?_};eqp:(if false=true then not (PyData.eqv (tD (N i).pt) (tD pt)) else PyData.eqv (tD (N i).pt) (tD pt))=decide ((N i).pt=pt):=gN _ _;hp<|(N i).pt=pt;cf (do[eqp];qH hp) {_,O,k1 _ _ {O,?_}};[tk];AN.pick (vs:=ns) ay nn' (qH hp);bL (do[eqp];decide_eq_false hp) (k0 _ {O,?_});[tk];ay.skip (do 0<|hp);{rfl,ay}:=s';ay<-[hnl,jc (do[zh];qb _)];ay:AN (NN S N H5) ys (cz N q pt):=ay;n5:ag H5 (upd H5 lp (.lst ys)):=ag.new hq;e5:(upd H5 lp (.lst ys)) lp=! (.lst ys):=aE;B:=ay.imp λv i g=>NN.af g n5.af;(by generalize upd H5 lp (.lst ys)=H6 at n5 e5 B);hin:∀i∈cz N q pt,i<q/\(N i).pt=pt:=λi hi=>{qv.mp (qw.mp hi).1,qN (qw.mp hi).2};mup:(cz N q pt).Pairwise λa b=>bK (.tuple [.int (N a).ka,.int (N a).kb]) (.tuple [.int (N b).ka,.int (N b).kb])=true:=((tH q).imp_of_mem λ{a b} ha hb h=>f7 (WN.up a b h (qv.mp hb))).filter _;keys:KeysAre ((cz N q pt).map λi=>.tuple [.int (N i).ka,.int (N i).kb]) 2:=pX λd hd=>(do _;{i,_,rfl}:=qc.mp hd;.inl {_,_,O});hyl:ys.length<=70:=(do hy<-[hnl];());{lp,ys,(cz N q pt).map λi=>.tuple [.int (N i).ka,.int (N i).kb],2,O,az.of e5,do[qh,B.1],keys,{(),.inr (z8.mpr mup)},λmm y d H' Q' q1 q2 s q=>?_,λsq H7 ix g7 s7 six e7=>?_};{k,ek,nn}:=B.at q1;q2<-[qj,ek];-qJ q2;{y,S,N,k,O,nn.af s.af,λkv hk=>q H' _ (ag.refl _) hk.dv};hix:∀i∈ix,i<ys.length:=λi hi=>(do this:=(six.1.mem_iff).mp hi;this<-[qv,qh];[B.1];this);a2:=B.ix ix hix;a2<-[rQ (.refl _) mup six];(by generalize ix.map (λi=>ys.getD i .aS)=zs at e7 a2);hzl:zs.length<=70:=(do[a2.1,<-B.1];hyl);a7:=a2.imp λv i g=>NN.af g s7.af;R:=n5.trans s7;s07:=s04.trans R;etp6:H6 c=!(.lst []):=n5 _ _ e4;etp:H7 c=!(.lst []):=s7 _ _ etp6;gtp:H c=none:=s03.free g4;nsq:sq≠c:=(a9 etp6 g7).symm;ndq:dq≠c:=a9 (s3 _ _ e2) g4;naq:aq≠c:=a9 e3 g4;edq7:H7 dq=_:=R _ _ (s4 _ _ (s3 _ _ e2));eaq7:H7 aq=_:=R _ _ (s4 _ _ e3);aa7:AN (NM (cJ S) H7) av (bA S n pt):=aa.imp λv i g=>NM.af g (s4.trans R).af;{sq,O,{_,az.of e7},bN (xs:=zs) (λj σ Z=>Gn λ(tv:List V) (u5:Option V) (u6:Option V) (u7:Option V)=>gF (σ=[! (.ref fa),!vp,!(.ref dq),!(.ref aq),!(.ref c),u5,u6,u7]) (ag (del H7 c) Z) (Z c=!(.lst tv)) (tv.length=j/\dE Z tv (((cz N q pt).take j).map (vF S 68 N)))) {[],none,none,none,O,mR,etp,O,.nil} (λj σ Z _ ⟨_,_,_,_,_,r,_,_⟩=>az.of (DP.to r e7 nsq)) ?_ ?_};(j,x,σ,Z,hx,{tv,u5,u6,u7,rfl,sZ,eZ,htl,dt},Nx,hNx);{i,ei,nn}:=a7.at hx;hj:j<70:=(do this:=(qp.mp hx).1;());{hi,hpt}:=hin i (qk ei);tZ:aj H7 Z:=aj.cut etp sZ;{b,vq,vb,ve,vn,kq,rfl,h1,h2,h3,h4,h5,h6}:=NN.af nn tZ;hsb:dZ S n pt (N i).b:=(do[<-hpt];(WN.sd i hi).1);hse':dZ S n pt (N i).e:=(do[<-hpt];(WN.sd i hi).2);edqZ:=DP.to sZ edq7 ndq;{_,O,_,O,b,_,1,_,O,O,aQ.of h1,O,_,O,b,_,2,_,O,O,aQ.of h1,O,dq,kvs,S,aH S n pt,vb,ve,(N i).b,(N i).e,O,edqZ,hse,h3,sin hsb,h4,sin hse',λZ1 bq s1 e1=>?_};U:=s1 _ _ (DP.to sZ eaq7 naq);aaZ:AN (NM (cJ S) Z1) av (bA S n pt):=aa7.imp λv i g=>NM.af g (tZ.trans s1.af);{_,O,aq,O,{_,az.of U},cI (xs:=av) (cM ()) (λj' us X=>X=Z1/\AN (NM (cJ S) Z1) us (((bA S n pt).take j').filter λk=>decide (bH 68 (N i).b<=(aH S n pt).idxOf k/\(aH S n pt).idxOf k<max (bH 68 (N i).b) (bH 68 (N i).e)))) {O,.nil} (λ_ _ X s'=>do[s'.1];az.of U) (λj' y us X K1 K0 hy s' k1 k0=>?_) λX np I s' hyl hnq=>?_};{rfl,Y}:=s';{k,ek,nm}:=aaZ.at hy;hk:k∈aH S n pt:=(qw.mp (qk ek)).1;tk:(bA S n pt).take (j'+1)=(bA S n pt).take j'++[k]:=(do[qu,ek];2);{_,O,bq,_,0,_,O,O,aQ.of e1,O,_,O,_,O,dq,kvs,.tup (cJ S k),_,O,.inl (s1 _ _ edqZ),nm,hse.2 k hk,_,_,O,O,_,O,?_};hle<|bH 68 (N i).b<=(aH S n pt).idxOf k;cf (qH ()) ?_;{_,O,bq,_,1,_,O,O,aQ.of e1,O,_,_,O,O,_,O,?_};hlt<|(aH S n pt).idxOf k<max (bH 68 (N i).b) (bH 68 (N i).e);cf (qH ()) {_,O,k1 _ _ {O,?_}};[tk];AN.pick (vs:=av) Y nm (qH {hle,hlt});bL (decide_eq_false ()) (k0 _ {O,?_});[tk];Y.skip λz=>hlt (qN z).2;bL (decide_eq_false ()) {_,O,bL rfl (k0 _ {O,?_})};[tk];Y.skip λz=>hle (qN z).1;{rfl,Y}:=s';Y<-[show av.length=(bA S n pt).length from aa.1,q0];Y:AN (NM (cJ S) X) I (iq S 68 (N i).b (N i).e):=(do[<-Pr (pI W)];Y);nX:ag X (upd X np (.lst I)):=ag.new hnq;eX:(upd X np (.lst I)) np=!(.lst I):=aE;t:=Y.imp λv i g=>NM.af g nX.af;(by generalize upd X np (.lst I)=Z2 at nX eX t);p:=s1.trans nX;h1':=p _ _ h1;hkey:vF S 68 N i=.tuple [tD (N i).nm,.str (N i).kd,mD S (iq S 68 (N i).b (N i).e).head?]:=rfl;tk:(cz N q pt).take (j+1)=(cz N q pt).take j++[i]:=(do[qu,ei];2);L:∀{D:Hp} {tq:To} {vu:V},ag Z2 D->D tq=!(.tup [vn,.str (N i).kd,vu])->DT D vu (mD S (iq S 68 (N i).b (N i).e).head?)->Gn λ(tv':List V) (v5:Option V) (v6:Option V) (v7:Option V)=>gF ([!(V.ref fa),!vp,!(.ref dq),!(.ref aq),!(.ref c),!(.ref b),!(.ref bq),!(.ref np)]=[! (.ref fa),!vp,!(.ref dq),!(.ref aq),!(.ref c),v5,v6,v7]) (ag (del H7 c) (upd D c (.lst (tv++[.ref tq])))) ((upd D c (.lst (tv++[.ref tq]))) c=!(.lst tv')) (tv'.length=j+1/\dE (upd D c (.lst (tv++[.ref tq]))) tv' (((cz N q pt).take (j+1)).map (vF S 68 N))):=λ{D tq vu} f G d3'=>(do J:=p.trans f;tw:aj D (upd D c (.lst (tv++[.ref tq]))):=aj.wl (J _ _ eZ);{_,_,_,_,O,(ag.trans sZ J).wr d6,aE,do[qg,htl];2,?_};[tk,zt];CO ?_ (dt.af (J.af.trans tw));.tup (tw _ _ G) (.cons (bE (h5.af (J.af.trans tw))) (.cons (.str _) (.cons (d3'.af tw) .nil))));{_,O,.inl {O,_,az.of (p _ _ eZ)},_,O,b,_,4,_,O,O,aQ.of h1',O,_,O,b,_,3,_,O,O,aQ.of h1',O,_,O,np,I,O,.inl (az.of eX),_,_,O,O,_,O,?_};(by cases hL:iq S 68 (N i).b (N i).e with|nil|cons k L'=>?_;rw[hL]at t L);this:I=[]:=jb.mp t.1;!this;bL (decide_eq_false ⋯) {aG rfl,λtq D g3' f G=>{c,tv,_,O,O,(p.trans f) _ _ eZ,cC (),hNx _ _ (L f G .aS)}};(by rw[hL]at t L;cases I with|nil|cons v0 I=>?_);absurd t.1 (do 0);cf (qH (do¬(0:Int)<((I.length+1:Nat):Int);())) {_,O,np,_,0,v0,O,O,az.of eX,vR (j:=0) rfl,aG rfl,λtq D g3' f G=>{c,tv,_,O,O,(p.trans f) _ _ eZ,cC (),hNx _ _ (L f G (bE (NM.af (t.2 0 v0 k rfl rfl) f.af)))}};(σ,Z,{tv,u5,u6,u7,rfl,sZ,eZ,htl,dt});dt<-[show zs.length=(cz N q pt).length from a2.1,q0];{_,O,kk Z c tv (λb o e=>DP.to sZ (s07 _ _ e) (a9 e gtp)) gtp eZ dt}
def F2(T:Txt K mg tk)(F:ML K mg "all_inner_parts" rK bf)(hB:base.BuiltinsAt mg bf)(gfAx:zT P w K mg base)(gfBe:yp P w K mg base)(gfAf:uF P w K mg base):zR P w K mg base:=do Mj F qP (nN λ_=>rfl) {} λfa cdv A outer s H vs Q E hC W h=>?_;{_,(ax (sm qP.nd 1 (cl gfAf W (a1 (vv 0)))) (ax (sn qP.nd 2 (cl gfBe W (a1 (vv 0)))) (ax (sn qP.nd 3 (cl gfAx W (a2 (vv 0) (vv 2)))) (ax (sn qP.nd 4 kH) (ax (fo (il (Qw (k:=0) (y:="one") (z:="telling") (i:=1) rfl hC hB (W.mono ⋯) (do 2) T.cZ boot_sorted {O,O,O,∅,O,O,∅} rfl rfl (λ_ h=>fh h) rfl rfl (λ_ _ _ _ _=>rfl) (λ_ _ _ _ _ _ _ W=>(xt (dI (cQ W) (vf 1) (vv 0) (λ_ _=>rfl)))) (a1 (cy (RX W.hd) T.oj boot_list (a1 (vv 2)))))) (gn qP.nd 5) (aF (bC (ck (qZ (cQ W)) (vv 5) (vv 3)) (aF (ap (bm PySem.F.plainAttrs_dict PySem.F.slot_dict_setdefault PySem.F.type_dict_setdefault (Kt (cQ W)) (vv 4) (a2 (dI (cQ W) (vv 2) (vv 5) (λ_ _=>rfl)) (bT dj))) (a1 (vv 5)))) cg))) (aF (aR (vv 4)))))))),?_};{fa,F,bs,es,cs,rs,cu,k,rfl,fb,hk,hl,tt,ma,kk}:=h;fq:=fb.fq (do():k<=100);XWt:=fq.xw;{_,O,fa,es,rs,O,fq,λH1 tq kt s1 gtq etq akt=>?_};f:=tt.same s1;fb1:=fb.same s1;{_,O,fa,es,rs,O,fb1.fq (),f.a,s1 _ _ ma,λH2 da kd zz s2a tb2 gda eda oH akd=>?_};S:=oH.zw XWt;hstl:zz.length<=62:=(do[oH.len];hl);{tt2,B}:=f.SI s2a tb2;fb2:=fb1.b_ f B;ma2:MA H2:=tW f B _ _ (s1 _ _ ma);{_,O,_,O,fa,F,bs,es,cs,rs,cu,k,da,kd,zz,O,fb2,(),.inl eda,akd,S,ma2,λH3 qa kq g s3 C gqa eqa rcr snq=>?_};tt3:=tt2.cut eda (λps z=>nomatch z) (λφ z=>nomatch z) s3;L:aj H2 H3:=rM eda (λys z=>nomatch z) s3;etq2:=b_ f B etq λps z=>nomatch z;etq3:H3 tq=!(.dG kt):=s3 _ _ (do[bX (a9 etq gda)];etq2);akt3:=((akt.imp λe x q=>q.imp (R':=f' H2) (tW f B) λr=>r.af (tW f B))).imp λe x q=>q.imp (R':=f' H3) L λr=>r.af L;R:=akd.imp λe x q=>q.imp (R':=iu H3) L λr=>r.af L;sH3:ag (cE H (s2)) H3:=λb u e=>(do nb:¬s2 b:=λz=>(do e<-[fJ z];-e);e<-[ia nb];s3 _ _ (do[bX (a9 (s1 _ _ e) gda)];mM B (s1 _ _ e) nb));(by clear s3 L akd akt etq2 etq B s2a tb2 tt2 fb2 ma2 fb1 f s1);(c,H4,g4,s4,e4);{_,O,da,kd,O,Rd.same C s4,do this:=R.1;(),λlp H5 g5 s5 e5=>?_};D:=s4.trans s5;J:=tt3.same D;{J.b,λH6 tb6 sd6=>?_};{tt6,s56}:=J.SG sd6 tb6;U:∀{b:To} {u:HO},H5 b=!u->(∀ps,u≠.cF ps)->H6 b=!u:=λe h=>b_ J s56 e h;t56:=tW J s56;M:=D.af.trans t56;e6:=U e5 λps z=>nomatch z;akt6:=akt3.imp λe x q=>q.imp (R':=f' H6) M λr=>r.af M;akd6:=R.imp λe x q=>q.imp (R':=iu H6) M λr=>r.af M;etq6:=U (D _ _ etq3) λps z=>nomatch z;N:=PQ akd6;{.ref tq,O,lp,_,zz.map MG,2,O,az.of e6,do[qh];N.1.symm,OU _,{do[N.1];(),.inl (do[N.1];())},λm y d H' Q' hy hd s' kq'=>{y,O,?_},λq I ix gq s7 six e7=>?_};{x,hx,gy}:=N.at hy;hd<-[qj,hx];-hd;{z,hz,ez,ka,kb}:=oH.of (qk hx);akt':=akt6.imp λe x q=>q.imp (R':=f' H') s'.af λr=>r.af s'.af;{v,hv,b,vp,vo,vn,kq2,rfl,h1,h2,h3,h4,h5}:=pP akt' XWt.nd hz;gy:GK H6 (.tup x.pt) y:=gy;gy<-[ez];{_,O,_,O,tq,kt,.tup z.pt,.ref b,O,.inl (s' _ _ etq6),gy.af s'.af,hv,b,_,3,.ref kq2,O,O,aQ.of h1,O,kq' H' _ (ag.refl _) ?_};¬DV H' (.ref kq2) (.tuple [.int x.ka,.int x.kb]);[ka,kb];.tup (aQ.of h5) (.cons (.int _) (.cons (.int _) .nil));{ms,am,hw,o}:=Np {[],[],[],0,0} N six;hms:∀x,x∈ms↔x∈zz:=λx=>o.mem_iff;hup:=Q5 S CP hw (o.nodup_iff.mpr (List.Pairwise.of_map (·.pt) (λa b h z=>h (do[z])) S.nd)) λx hx=>(hms x).mp hx;hml:ms.length<=62:=(do[o.length_eq];hstl);am7:=am.imp λv k z=>NP.af z s7.af;(by generalize ix.map (λi=>(kd.map (·.2.1)).getD i .aS)=zs at e7 am7 am);t37:=M.trans s7.af;k37:∀{b:To} {u:HO},H3 b=!u->(∀ps,u≠.cF ps)->I b=!u:=λe h=>s7 _ _ (U (D _ _ e) h);eqa7:=k37 eqa λps z=>nomatch z;t:I c=!(.dG []):=s7 _ _ (U (s5 _ _ e4) λps z=>nomatch z);akd7:=R.imp λe x q=>q.imp (R':=iu I) t37 λr=>r.af t37;nda:da≠c:=λz=>(by rw[z]at C;rcases C with y|⟨o',y⟩ <;> rw[g4]at y <;> cases y);hda7:Rd I da (.dG kd):=(do y||{o',y}:=C;.inl (k37 y λps z=>nomatch z);.inr ⟨o',k37 y λps z=>nomatch z⟩);nqa:qa≠c:=a9 eqa g4;nqi:q≠c:=λz=>(do gq<-[z,U (s5 _ _ e4) λps z=>nomatch z];-gq);tt7:=tt6.same s7;b0:∀{b u},I b=!u->b≠c->(del I c) b=!u:=λe n=>(do[bX n];e);{q,O,{_,az.of e7},bN (xs:=zs) (λj σ X=>uA λkvs u5=>gF (σ=[! (.ref fa),!(.ref tq),!(.ref da),!(.ref qa),!(.ref c),u5]) (ag (del I c) X) (qS (GT g) (ms.take j) (del I c) X c kvs) (kvs.length<=j)) {[],none,O,(λb u e=>mR _ _ e),{t,λp=>.inl {O,O},λk k' q z=>(do-z),λk q z=>(do-z)},qb _} (λj σ X _ ⟨_,_,_,s,_,_⟩=>az.of (s _ _ (b0 e7 nqi))) ?_ ?_};(j,x,σ,X,hx,{kvs,u5,rfl,Y,id,hkl},Nx,hNx);{m,em,gx7}:=am7.at hx;hj:j<ms.length:=(qp.mp em).1;hmm:=(hms m).mp (qk em);htk:ms.take (j+1)=ms.take j++[m]:=(do[qu,em];2);tX:aj I X:=rM t (λys z=>nomatch z) Y;gx:GK X (.tup m.pt) x:=GK.af gx7 tX;{_,O,_,O,qa,kq,.tup m.pt,O,.inl (Y _ _ (b0 eqa7 nqa)),gx,_,O,?_};[qB qo];ndm:=md (S.pt m hmm).ne;V<|GT g m.pt;cf (do[<-ndm];snq.yes V) ?_;akX:=akd7.imp λe x q=>q.imp (R':=iu X) tX λr=>r.af tX;{v',hv',gv'}:=pP akX S.nd hmm;hdX:Rd X da (.dG kd):=(do y||{o',y}:=hda7;.inl (Y _ _ (b0 y nda));.inr ⟨o',Y _ _ (b0 y nda)⟩);⟨_,O,.inr (.inr (.inl ⟨O,.inr (.inr ⟨kvs,id.has⟩)⟩)),_,O,_,O,da,kd,.tup m.pt,v',O,hdX,gx,hv',aG rfl,λz0 X4 gz sz ez=>?_⟩;Z:=id.same sz;s74:=Y.trans sz;f0:(del I c) z0=none:=Y.free gz;gv4:GK X4 (nd m.ou) v':=GK.af gv' sz.af;{c,kvs,nd m.ou,v',.ref z0,O,O,Z.has,gv4,j2 (),λu hu=>?_,λhu=>?_};{h1,_}||{q',vs,h1,h2,h3,h4}:=Z.each m.ou;hu<-[h1];-hu;hu<-[h1];-hu;vl:vs.length<=62:=(do[h3.1];qf (wj _ _) (do[wv];()));{.inl {O,_,az.of h2},_,O,q',vs,_,O,O,h2,j2 (),?_};hNx _ _ {kvs,_,O,s74.wr h4,?_,()};[htk];Z.old V h1 h2 (GK.af gx sz.af);nz:z0≠c:=λz=>(do gz<-[z,id.has];-gz);ez1:(upd X4 c (.dG (pG kvs (nd m.ou) v' (.ref z0)))) z0=!(.lst []):=(do[aB nz];ez);{.inl {O,_,az.of ez1},_,O,z0,_,_,O,O,ez1,j2 (do¬0<=_;()),?_};hqn:∀k,vG kvs k≠some (.ref z0):=λk z=>(do _;{xs,y}:=id.live k z0 z;gz<-[y];-gz);hNx _ _ {pG kvs (nd m.ou) v' (.ref z0),_,O,(s74.wr d6).wr f0,?_,qf (iA kvs _ _ _) (j5 hkl)};[htk];Z.first V hu f0 ez hqn (GK.af gx sz.af);bL (do[<-ndm];snq.no V) (hNx _ _ {kvs,_,O,Y,?_,()});[htk];id.skip V;(σ,X,{kvs,u5,rfl,Y,id,hkl});id<-[am7.1,q0];fr7:∀{b},I b=none->H b=none:=λ{b} e=>(do h6:=s7.free e;h5:=J.free s56 tt6 h6;tt.free sH3 tt3 (D.free h5));finn:H c=none:=tt.free sH3 tt3 g4;{_,O,kk X c kvs zz g (λb u e=>?_) (tt7.cut t (λps z=>nomatch z) (λφ z=>nomatch z) Y) finn id.has {oH,rcr} λp hp=>?_};nb:¬s2 b:=λz=>(do e<-[fJ z];-e);e3:=D _ _ (sH3 _ _ e);e<-[ia nb];Y _ _ (b0 (s7 _ _ (mM s56 e3 nb)) (a9 e finn));hI:=QU (G:=GT g) (p:=p) hup hms;this:=id.each p;this<-[md hp.ne];{h1,h2}||{q',vs,h1,h2,h3,h4}:=this;hI<-[h2];.inl ⟨h1,hI⟩;.inr ⟨q',vs,_,h1,fr7 ?_,h2,h3,hI⟩;nq:q'≠c:=λz=>(do h2<-[z,id.has];-h2);h4<-[bX nq];h4
def CK(T:Txt K mg tk)(F:FO K mg "marks_of" sF)(a:Ay P w K mg base):x6 P w K mg base:=do aO F FK (ik λ_ _=>rfl) {} λfa d A outer s H vs Q E e h=>?_;{_,(aF (aR (cl a e (ac (vv 0) (a2 (vv 1) aD))))),?_};{fa,F,S,n,M,m,N,q,xs,ms,ns,f,pt,rfl,fs,c,b,g,i}:=h;⟨_,O,_,O,fa,F,S,n,M,m,N,q,xs,ms,ns,f,pt,false,O,fs,c,b,g,i⟩
def Bs(T:Txt K mg tk)(F:FO K mg "numbered_parts" oK)(gfAa:zR P w K mg base)(gfAm:zi P w K mg base)(gfBr:yJ P w K mg base):yP P w K mg base:=do aO F nc (r_ λ_ _ _=>rfl) {} λfa cdv A outer s H vs Q E hr h=>?_;{_,(ax (sn nc.nd 3 (cl gfAa hr (a1 (vv 0)))) (ax (sn nc.nd 4 (bT dj)) (ax (sn nc.nd 5 (bT (a1 (a_ (a2 (Fk (v:=.ref cx) rfl T.cx rfl) aM))))) (ax (xr PassesOwn.never (ck eh (cb de T.bS boot_len (a1 (vv 5))) aD) (ax (sm nc.nd 6 (Ll PySem.F.plainAttrs_list PySem.F.slot_list_pop PySem.F.type_list_pop IS (vv 5))) (ax (sn nc.nd 7 (cl gfBr hr (ac (vv 0) (ac (vv 1) (a2 (vv 2) (xt (vc 6))))))) (ax (ap (vv 4) (a1 (aJ Oi (vc 6) (a_ (a1 (vv 7)))))) (aF (bC (eJ (vv 7)) (ax (sn nc.nd 8 (N_ rfl (do 2) T.oj (do 2) T.f9 (bm PySem.F.plainAttrs_dict PySem.F.slot_dict_get PySem.F.type_dict_get (kR (cQ hr)) (vv 3) (a2 (xt (vc 6)) (bT dj))))) (aF (pL (bm PySem.F.plainAttrs_list PySem.F.slot_list_extend PySem.F.type_list_extend Mb (vv 5) (a1 (gH (own:=["place","part"]) (fr:=[("coming",6)]) rfl (il (M3 (vv 8) (dN (eB iY aD)))) {O,∅,∅} (iQ (ah oK) ["facts","roll","hand","inner","told","to_come","coming","is_open","within"] rfl rfl (λ_ h=>fh h) ∅ ∅ ∅) (λ_ _ _=>(iD (n:=2) rfl (cN (cj (i:=0) (do¬List.Nodup (["place","part","coming"]:List Tp);by decide +kernel) rfl (Or.inl rfl)) (cN (cj (i:=1) (do¬List.Nodup (["place","part","coming"]:List Tp);by decide +kernel) rfl (Or.inl rfl)) gK)))) (λ_=>pO rfl rfl ⋯) (λ_ _ _=>dF) (λ_ _ _=>(a_ (a2 (vv 1) (cl gfAm hr (a2 (xt (vc 2)) (vv 0)))))))))))) cg)))))) (aF (aR (vv 4))))))),?_};{fa,F,x,r,h,rfl,f6,er,tt,ma,kk}:=h;fz:=f6.fz;f61:∀{W:Hp},ag (cE H s2) W->F6 W fa F x/\W r=!lF:=λs=>{f6.kp λb o e h=>b_ tt s e h,b_ tt s er λ_ z=>nomatch z};{op,hop}:∃op,op=nJ x h:={_,O};kk<-[<-hop];(by generalize x.d=d at fz kk);{bs,es0,cs,k,fb,hk,hl}:=fz.fb;W:=fz.xw;{_,O,fa,F,bs,es0,cs,d.rs,d.cu,k,O,fb,hk,hl,tt,ma,λH1 da kd A g s1 t1 g1 e1 dtr inn=>?_};ma1:MA H1:=b_ tt s1 ma (λps z=>nomatch z);S:=dtr.1.zw W;nA:=S.nd;hN:=S.pt;lA:A.length<=62:=(do[dtr.1.len];hl);inU:∀p l,rF A (GT g) p l->(∀x∈l,x∈A/\x.ou=p)/\l.Nodup:=λp l h=>{λx I=>let⟨a,b,_⟩:=(h.mem x).mp I;{a,b},h.up.imp λ{a b} hl z=>do hl<-[z];Js _ _ hl};{aG rfl,λta H2 g2 s2 e2=>{aG rfl,λtq H3 g3 s3 e3=>{aG rfl,λt H4 g4 s4 e4=>?_}}};s14:=(s2.trans s3).trans s4;nt:ta≠t:=λz=>(do g4<-[<-z,s3 _ _ e2];-g4);ft:H1 ta=none:=g2;fu:H1 t=none:=(s2.trans s3).free g4;{λmm σ U=>AF λD es Us us u6 u7=>∃u8,m_ (σ=[! (.ref fa),!(.ref r),!(hV h),!(.ref da),!(.ref ta),!(.ref t),u6,u7,u8]) (ag H1 U) (U ta=!(.lst D)) (AL (TN op U) D es) (U t=!(.lst Us)) (gF (AL (UN U) Us us) (Jz A (es.map (·.1)) (us.map (·.1))) (∀x∈us,x.2.length<=4 * es.length) ((∀out,Wk A (GT g) op us.reverse out->Wk A (GT g) op [(aN,"")] (es++out))/\mm+es.length=64)),{64,[],[],[.ref tq],[(aN,"")],none,none,none,O,s14,s4 _ _ (s3 _ _ e2),.nil,e4,.cons {tq,_,O,s4 _ _ e3,{_,O,s14 _ _ ma1}} .nil,{do 0,λc hc=>.inl (do 0<|hc)},λx I=>do[List.mem_singleton.mp I];Nat.le_refl _,(λout h=>h),O},?_};(mm,σ,U,{D,es,Us,us,u6,u7,u8,rfl,s5,eT,aT,eU,aU,J,hz,hw,hm});hJ:=J.len;hJ<-[qh,qh];hTl:D.length=es.length:=aT.1;{_,O,t,_,O,.inl (az.of eU),_,_,O,O,_,O,?_};z||{us',{u,z0},z}:=jf us;!z;h0:Us=[]:=jb.mp aU.1;!h0;bL rfl ?_;{_,O,kk U ta D es (s1.trans s5) (t1.same s5) (tt.free s1 t1 ft) eT aT {A,g,dtr,by have:=hw [] .nil;rwa [z6]at this} () (by have:=J.nd;rwa [gf,z6]at this)};z<-[jg];!z;hJ<-[qg,qr];{f,vx,rfl,aU',b,vp,rfl,h1,h2}:=wW aU;hUl:f.length=us'.length:=aU'.1;pu:Pn u:=J.pn hN (do 0);hzu:z0.length<=4 * es.length:=hz (u,z0) (do 0);cf (qH (do¬(0:Int)<((f++[V.ref b]).length:Nat);[qg,qr];())) ?_;Na (λσ' H'=>AF λD Us us u6 u7 u8=>m_ (σ'=[! (.ref fa),!(.ref r),!(hV h),!(.ref da),!(.ref ta),!(.ref t),u6,u7,u8]) (ag H1 H') (H' ta=!(.lst D)) (AL (TN op H') D (es++[(u,z0)])) (H' t=!(.lst Us)) (gF (AL (UN H') Us us) (Jz A (es.map (·.1)++[u]) (us.map (·.1))) (∀x∈us,x.2.length<=4 * (es.length+1)) (∀out,Wk A (GT g) op us.reverse out->Wk A (GT g) op [(aN,"")] ((es++[(u,z0)])++out)))) (λσ' H' ⟨Ts',Us2,us2,v6,v7,v8,b1,b2,b3,b4,b5,b6,b7,b8,b9⟩=>{mm - 1,(),Ts',es++[(u,z0)],Us2,us2,v6,v7,v8,b1,b2,b3,b4,b5,b6,do[zt];b7,do[qg];b8,b9,do[qg,qr];()}) λNx hNx=>?_;J<-[zt];{_,O,.inl {O,_,az.of eU},t,_,.ref b,O,O,eU,(do 0),?_};[uf];t6:aj U (upd U t (.lst f)):=aj.wl eU;s6:ag H1 (upd U t (.lst f)):=s5.wr fu;eT6:(upd U t (.lst f)) ta=!(.lst D):=(do[aB nt];eT);eU6:(upd U t (.lst f)) t=!(.lst f):=aE;aT6:=aT.imp λv e g=>TN.af g t6;aU6:=aU'.imp λv e g=>UN.af g t6;h16:=t6 _ _ h1;h26:=h2.af t6;¬lN _ _ _ _ (upd U t (.lst f));(by generalize upd U t (.lst f)=H6 at s6 eT6 eU6 aT6 aU6 h16 h26);{_,O,_,O,_,O,_,O,b,_,0,_,O,O,aQ.of h16,O,fa,F,x,r,h,vp,u,O,(f61 (s1.trans s6)).1,(f61 (s1.trans s6)).2,{h26,pu},λH7 s7=>?_};[<-hop];s17:=s6.trans s7;eT7:=s7 _ _ eT6;{_,O,.inl {O,_,az.of eT7},_,O,_,O,aG rfl,λtp H8 g8 s8 e8=>?_};{b,tp,_,_,O,O,aQ.of ((s7.trans s8) _ _ h16),aQ.of e8,(λz=>nomatch z),(λz=>nomatch z),aG rfl,λC H9 g9 s9 e9=>?_};s79:=(s7.trans s8).trans s9;s19:=s6.trans s79;eT9:=s79 _ _ eT6;{ta,_,_,O,O,eT9,cC (),?_};t10:aj H9 (upd H9 ta (.lst (D++[.ref C]))):=aj.wl eT9;G:ag H1 (upd H9 ta (.lst (D++[.ref C]))):=s19.wr ft;eT10:(upd H9 ta (.lst (D++[.ref C]))) ta=!(.lst (D++[.ref C])):=aE;R:(upd H9 ta (.lst (D++[.ref C]))) t=!(.lst f):=(do[aB nt.symm];s79 _ _ eU6);N:=s79.af.trans t10;Z:=aU6.imp λv e g=>UN.af g N;Y:=N _ _ h16;h210:=h26.af N;aT10:AL (TN op (upd H9 ta (.lst (D++[.ref C])))) (D++[.ref C]) (es++[(u,z0)]):=(aT6.imp λv e g=>TN.af g N).snoc {C,vp,O,t10 _ _ e9,h210,pu,do¬z0.length<=1000;()};(by generalize upd H9 ta (.lst (D++[.ref C]))=H10 at G eT10 R Z Y h210 aT10);{_,O,op u,O,?_};(by cases ho:op u with|false|true=>?_);J2:=Jz.step (l:=[]) nA hN J (λx z=>nomatch z) .nil;bL rfl (hNx _ _ {_,f,us',_,_,_,O,G,eT10,aT10,R,Z,do 0<|J2,λx I=>Nat.le_trans (hz x (List.mem_append_left _ I)) (),λout h=>?_});this:=hw _ (do[jt];Wk.nQ ho h);[wt];this;cf rfl ?_;{_,O,.inr (.inr (.inl {O,.inr (.inr {kd,G _ _ e1})})),_,O,b,_,0,_,O,O,aQ.of Y,O,aG rfl,λzq H11 g11 s11 e11=>?_};{da,kd,.tup u,vp,.ref zq,O,O,(G.trans s11) _ _ e1,h210.af s11.af,?_};{a,ws,l,ea,ew,aw,hin}:∃a ws l,(vG kd (.tup u)).getD (.ref zq)=.ref a/\H11 a=!(.lst ws)/\AL (NP H11) ws l/\rF A (GT g) u l:=(do _;{h,g}||{qa,ws,l,h,_,h3,h4,h5}:=inn u pu;⟨zq,[],[],do[h];2,e11,.nil,g⟩;⟨qa,ws,l,do[h];2,(G.trans s11) _ _ h3,h4.imp λv x g=>NP.af g (G.trans s11).af,h5⟩);[ea];{il,ind}:=inU u l hin;J2:=Jz.step nA hN J il ind;hJ2:=J2.len;hJ2<-[qg,qh,qg,qh,vy,qh];hwl:ws.length=l.length:=aw.1;{a,ws,O,az.of ew,λwq H12 zs g12 s12 e12 hl12 pr=>?_};s1012:=s11.trans s12;eU12:=s1012 _ _ R;{_,O,.inl {O,_,az.of eU12},_,O,1,O,-1,O,O,wq,zs,O,az.of e12,λvq H13 g13 s13 e13=>?_};L:=s1012.trans s13;hll:l.reverse.length=zs.length:=(do[vy,hl12,hwl]);{vq,O,{_,az.of e13},cI (xs:=zs.reverse) (jH (do[vy];())) (λj q H'=>ag H13 H'/\AL (UN H') q ((subs z0 0 l).reverse.take j)) {ag.refl _,.nil} (λ_ _ H' s'=>az.of (s'.1 _ _ e13)) (λj x q H' K1 K0 I s' k1 k0=>?_) λX lq q s' hv3 hlq=>?_};{s',an}:=s';hj:j<zs.length:=(by have:=(qp.mp I).1;rwa [vy]at this);I<-[ug hj];{T,w,ew2,rfl,hT}:=pr _ _ I;{y,ey,hy}:=aw.at ew2;tk:(subs z0 0 l).reverse.take (j+1)=(subs z0 0 l).reverse.take j++[(y.pt,kL z0 (zs.length - 1 - j+1))]:=(do[qu,ug (do[uU];()),xP,uU,show l.length - 1 - j=zs.length - 1 - j from (),ey,je];2);s13':=s13.trans s';{T,_,O,aQ.of (s13' _ _ hT),O,_,_,O,_,_,O,O,?_};dJ (B:=K0 H') ?_;{_,O,_,O,b,_,1,_,O,O,aQ.of ((L.trans s') _ _ Y),O,_,O,z0,zs.length - 1 - j+1,O,(),(),aG rfl,λpq H15 g15 s15 e15=>k1 _ _ {s'.trans s15,?_}};[tk];(an.imp λv e g=>UN.af g s15.af).snoc {pq,w,O,e15,NP.af hy ((s12.trans s13').trans s15).af};{s',an}:=s';an<-[vy,<-hll,vy,<-uU z0 l 0,<-vy,q0];eU14:X t=!(.lst f):=(L.trans s') _ _ R;nlu:t≠lq:=a9 eU14 hlq;n14:ag X (upd X lq (.lst q)):=ag.new hlq;eU15:(upd X lq (.lst q)) t=!(.lst f):=(do[aB nlu];eU14);M:=(L.trans s').trans n14;hnl:q.length=l.length:=(by have:=an.1;rwa [vy,uU]at this);{t,lq,f,q,O,O,eU15,aE,jH (),?_};t16:aj (upd X lq (.lst q)) (upd (upd X lq (.lst q)) t (.lst (f++q))):=aj.wl eU15;t1016:=M.af.trans t16;hNx _ _ {_,f++q,us'++(subs z0 0 l).reverse,_,_,_,O,(G.trans M).wr fu,do[aB nt];M _ _ eT10,aT10.imp λv e g=>TN.af g t1016,aE,(Z.imp λv e g=>UN.af g t1016).app (an.imp λv e g=>UN.af g (n14.af.trans t16)),do[zt,List.map_reverse,JO];J2,λx I=>?_,λout h=>?_};I||I:=zg.mp I;qf (hz x (yi _ I)) ();{m,hm'}:=jh (ym.mp I);hm'<-[xP];{y,hy,rfl}:=wb.mp hm';this:=(qp.mp hy).1;qf (NG z0 ()) ();h<-[jt,List.reverse_reverse];this:=hw _ (do[jt];Wk.cons ho hin h);[wt];this
def Bn(T:Txt K mg tk)(F:FO K mg "shown_row" i_)(J:pf P w K mg base)(gfBn:x6 P w K mg base)(gfAl:AA P w K mg base):yI P w K mg base:=do aO F E2 (r_ λ_ _ _=>rfl) {} λfa cdv A outer s H vs Q E o h=>?_;hu1:(A.deeper (envOfC "shown_row" (ah i_) ↑s fa cdv)).units+1<cLine:=cY o;{_,(ax (sm E2.nd 3 (cy (fG o.hd (pK o)) T.cT boot_dict (a1 (rH (ah i_) sQ [("part",1)] (il (c6 hu1 (vv 0) aM (λ_ _=>rfl))) (λ_ _ _=>(eF (ck (yH o) (xt (vv 0)) (vc 1)))) (λ_ _ _=>(a_ (a2 (xt (vv 0)) (xt (vv 0))))))))) (ax (sm E2.nd 4 (cl gfBn o (a2 (vv 0) (vc 1)))) (aF (aR (rH (ah i_) sQ [("numbers",2),("signs",3),("marks",4)] (il (cl J o (a2 (vv 0) (vc 1)))) (λ_ _ _=>dF) (λ_ _ _=>(a_ (ac (vv 0) (a2 (cl gfAl o (a2 (vc 1) (dI (cQ o) (vc 2) (vv 0) (λ_ _=>rfl)))) (dI (cQ o) (vc 3) (vv 0) (λ_ _=>rfl))))))))))),?_};{fa,F,d,vp,p,nq,num,rfl,fz,gp,hp,nd,kk}:=h;{xs,ms,ns,fs}:=fz.fs;fg:=fs.fg;{U,la,vs,rd,L,V,an,W}:=fs.fg;c:=hp.lay;hvl:vs.length=d.n:=(do[an.1,zh]);cD:=W.cD;qY:=W.vD p;{_,O,fa,.ref la,O,.inl {U,.inr "signs",rd,O,L.symm},la,O,{_,az.of V},cI (xs:=vs) (cM ()) (λj us H'=>ag H H'/\∃kvs,cm H' us kvs/\kU (cJ d.S) (λv i=>DT H v (d.S i).sg) kvs (((List.range d.n).take j).filter (om d.S p))) {ag.refl _,[],trivial,trivial} (λ_ _ H' s'=>az.of (s'.1 _ _ V)) (λj x us H' K1 K0 hx s' k1 k0=>?_) λH3 up us s' hu3 huq=>?_};{s',kvs,pr,R}:=s';{i,I,sn}:=an.at hx;k:i<d.n:=qv.mp (qk I);{b,vq,vn,vb,kq,vg,rfl,h1,h2,h3,h4,h5,h6}:=sn;t:=s'.af;tk:(List.range d.n).take (j+1)=(List.range d.n).take j++[i]:=(do[qu,I];2);{_,O,b,_,0,_,O,O,aQ.of (t _ _ h1),O,_,O,tD (d.S i).pt,tD p,(bE (h2.af t)).dv,(bE (gp.af t)).dv,(W.lay i k).2,c,qf (yh _ _) (qf (eK _) ⋯),_,O,?_};Y:(if false=true then not (PyData.eqv (tD (d.S i).pt) (tD p)) else PyData.eqv (tD (d.S i).pt) (tD p))=decide ((d.S i).pt=p):=gN _ _;r<|(d.S i).pt=p;cf (do[Y];qH r) ?_;{_,O,b,_,1,_,O,O,aQ.of (t _ _ h1),O,_,O,b,_,4,_,O,O,aQ.of (t _ _ h1),O,aG rfl,λtq H4 g4 g e4=>k1 _ _ {s'.trans g,kvs++[(.tup (cJ d.S i),vn,vg)],cm.snoc (e:=(.tup (cJ d.S i),vn,vg)) {tq,O,e4,(h3.af t).af g.af} (pr.af g.af),?_}};[tk,zy,vd (iG.mpr r),we];R.snoc rfl h6;bL (do[Y];decide_eq_false r) (k0 _ {s',kvs,pr,?_});[tk,zy,yf (λz=>r (iG.mp z)),we,z6];R;{s3,kvs,pr,R}:=s';n3:ag H3 (upd H3 up (.lst us)):=ag.new huq;R<-[hvl,jc (do[zh];qb _)];{up,us,kvs,O,az.of aE,pr.af n3.af,(),λdq H5 g5 s5 e5=>?_};D:=(s3.trans n3).trans s5;get:∀i∈bM d.S d.n p,∃v,vG (putAll [] kvs) (.tup (cJ d.S i))=!v/\DT H v (d.S i).sg:=λi hi=>kU.get (all:=bM d.S d.n p) qY.inj (done:=[]) (acc:=[]) R (λi z=>nomatch z) (λi h=>h) (λi z=>nomatch z) i (.inr hi);{_,O,_,O,fa,F,d.S,d.n,d.M,d.m,d.N,d.q,xs,ms,ns,vp,p,O,fs.same D,gp.af D.af,c,fz.hm,λH6 mq kvm s6 g6 e6 tdk knd=>?_};y:=D.trans s6;{_,O,_,O,fa,vp,p,d.S,d.n,O,fg.same y,gp.af y.af,c,λH7 lq zs s7 g7 e7 al=>?_};G:∀i∈bA d.S d.n p,i<d.n/\(d.S i).pt=p:=λi hi=>(qQ W).mp (qw.mp hi).1;hzl:zs.length<=1400:=(do[al.1];qf (qf (wj _ _) (kJ W)) W.cD);{lq,O,{_,az.of e7},cI (xs:=zs) (cM ()) (λj us H'=>ag H7 H'/\dD H' us (((bA d.S d.n p).take j).map (qW d num p))) {ag.refl _,.nil} (λ_ _ H' s'=>az.of (s'.1 _ _ e7)) (λj x us H' K1 K0 hx s' k1 k0=>?_) λH9 rq us s' hu hrq=>?_};{s',ar}:=s';{i,I,nmx}:=al.at hx;Z:i∈bA d.S d.n p:=qk I;{k,hpt}:=G i Z;him:i∈bM d.S d.n p:=qw.mpr {qv.mpr k,iG.mpr hpt};C:NM (cJ d.S) H' x i:=NM.af nmx s'.af;{v,gv,dv}:=get i him;f:=s7.trans s';s07:=y.trans f;{a,zs',gm,ba,za,dz}:=tdk.get ((pI W).filter _) (λa ha b hb e=>W.inj a (G a ha).1 b (G b hb).1 e) Z;dJ (B:=K0 H') ?_;{_,O,_,O,_,O,_,O,dq,_,.tup (cJ d.S i),v,O,.inl ((s6.trans f) _ _ e5),C,gv,nq,num,v,(d.S i).sg,O,nd.same s07,dv.af s07.af,fz.sg i k,λt ht=>?_};ht:=eE ht;!ht;{_,O,_,O,mq,kvm,.tup (cJ d.S i),.ref a,O,.inl (f _ _ e6),C,gm,aG rfl,λtq H4 g4 g e4=>k1 _ _ {s'.trans g,?_}};[qu,I,yy,zt];cV (ar.same g) (.tup (aQ.of e4) (.cons (bE (NM.af C g.af)).dv (.cons (.str _) (.cons (.lst (az.of ((f.trans g) _ _ za)) (dz.af (f.trans g).af).dv) .nil))));{s9,ar}:=s';ar<-[al.1,q0];n9:ag H9 (upd H9 rq (.lst us)):=ag.new hrq;X:=(y.trans s7).trans s9;kk _ rq (X.trans n9) (X.free hrq) (.lst (az.of aE) (ar.same n9))
def Bo(T:Txt K mg tk)(F:FO K mg "entry" sC)(x:zH P w K mg base)(t:yI P w K mg base)(o:zB P w K mg base):zW P w K mg base:=do aO F Fo (zS λ_ _ _ _=>rfl) {} λfa cdv A outer s H vs Q E y h=>?_;{_,(ax (bC (DE (eJ (vv 3))) (aF (aR (a_ (ac (dI (cQ y) (vv 1) (vv 2) (λ_ _=>rfl)) (ac (vv 2) (ac dH (a2 dH dH))))))) cg) (aF (aR (a_ (ac (dI (cQ y) (vv 1) (vv 2) (λ_ _=>rfl)) (ac (vv 2) (ac (cl t y (ac (vv 0) (a2 (vv 2) (vv 1)))) (a2 (cl x y (a2 (vv 0) (vv 2))) (cl o y (a2 (vv 0) (vv 2))))))))))),?_};{fa,F,d,nq,num,B,p,z,op,rfl,R,f,hp,nd,hz,X}:=h;V:=nd;{kvs,en,nk}:=nd;{h1,h2}:=nk p hp;h1<-[hz];{_,O,_,O,?_};(by cases j:op p with|false|true=>?_);cf rfl ?_;{_,O,_,O,nq,kvs,.tup p,.str z,O,.inl en,f,h1,_,O,aG rfl,λeq J g4 k I=>X J _ k {eq,B,_,_,_,O,I,f.af k.af,do@yW;[j];.aS,do@sy;[j];.aS,do@sx;[j];.aS}};bL rfl ?_;{_,O,_,O,nq,kvs,.tup p,.str z,O,.inl en,f,h1,_,O,_,O,_,O,_,O,fa,F,d,B,p,nq,num,O,R,f,hp,V,λH1 rq r g1 e1=>?_};{xs,ms,ns,fs}:=(R.same r).fs;{_,O,_,O,fa,F,d.S,d.n,d.M,d.m,d.N,d.q,xs,ms,ns,B,p,O,fs,f.af r.af,hp.lay,λH2 nq2 zs2 s2 g2 e2 U=>?_};G:=r.trans s2;{_,O,_,O,fa,B,p,d.L,d.a,d.C,d.b,O,(R.same G).tb,f.af G.af,hp.lay,λW tq rp cp wp zr zc ws s3 Y e3 fr fc fw nrc nrw Z er ec ew ar ac aw wn wd=>?_};{aG rfl,λeq J g4 k I=>?_};c:=s3.trans k;e:=s2.trans c;X J _ (r.trans e) {eq,B,_,_,_,O,I,f.af (r.trans e).af,do@yW;[j];e1.same e,do@sy;[j];.lst (az.of (c _ _ e2)) (U.af c.af).dv,?_};@sx;[j];DV.same k (.tup (aQ.of e3) (.cons (.lst (az.of er) (mH (P:=NM (dr d.L) W) (D:=λi=>tD (dr d.L i)) (λv i g=>(bE g).dv) ar)) (.cons (.lst (az.of ec) (mH (P:=NM (dr d.L) W) (D:=λi=>tD (dr d.L i)) (λv i g=>(bE g).dv) ac)) (.cons (.lst (az.of ew) (mH (D:=Sj d p) (λv i g=>?_) aw)) .nil))));{a,rfl,_,Y}:=g;.lst (az.of Y) (KG _)
def CQ(T:Txt K mg tk)(F:Rk K mg "document" pz)(J:zW P w K mg base)(I:yP P w K mg base):zj P w K mg base:=do D_ F F' (λ_ _ _ _ _ _ _=>r_ λ_ _ _=>{_,O,O}) (λ_ _ _ _ _ _ _=>ik1 λ_ _=>{_,O,O}) {} λfa cdv A outer s H vs Q E N h=>?_;{_,(ax (sn F'.nd 3 (cl I N (ac (vc 0) (a2 (vv 1) (vv 2))))) (ax (sm F'.nd 4 (cy (fG N.hd (pK N)) T.cT boot_dict (a1 (gH (own:=["part","number","is_open"]) (fr:=[]) rfl (il (vv 3)) {O,∅,∅} (fB ∅) (λ_ _ _=>(iD (n:=3) rfl (cN (cj (i:=0) (do¬List.Nodup (["part","number","is_open"]:List Tp);by decide +kernel) rfl (Or.inl rfl)) (cN (cj (i:=1) (do¬List.Nodup (["part","number","is_open"]:List Tp);by decide +kernel) rfl (Or.inl rfl)) (cN (cj (i:=2) (do¬List.Nodup (["part","number","is_open"]:List Tp);by decide +kernel) rfl (Or.inl rfl)) gK))))) (λ_=>wM rfl rfl rfl ⋯ ⋯ ⋯) (λ_ _ _=>dF) (λ_ _ _=>(a_ (a2 (vv 0) (vv 1)))))))) (aF (aR (gH (own:=["part","number","is_open"]) (fr:=[("facts",0),("numbers",4)]) rfl (il (vv 3)) {O,∅,∅} (iQ (ah pz) ["facts","roll","hand","told","numbers"] rfl rfl (λ_ h=>fh h) ∅ ∅ ∅) (λ_ _ _=>(iD (n:=3) rfl (cN (cj (i:=0) (do¬List.Nodup (["part","number","is_open","facts","numbers"]:List Tp);by decide +kernel) rfl (Or.inl rfl)) (cN (cj (i:=1) (do¬List.Nodup (["part","number","is_open","facts","numbers"]:List Tp);by decide +kernel) rfl (Or.inl rfl)) (cN (cj (i:=2) (do¬List.Nodup (["part","number","is_open","facts","numbers"]:List Tp);by decide +kernel) rfl (Or.inl rfl)) gK))))) (λ_=>wM rfl rfl rfl ⋯ ⋯ ⋯) (λ_ _ _=>dF) (λ_ _ _=>(cl J N (ac (vc 3) (ac (vc 4) (a2 (vv 0) (vv 2))))))))))),?_};{fa,F,x,r,h,rfl,f6,er,tt,ma,kk}:=h;{_,O,_,O,_,O,fa,F,x,r,h,O,f6,er,tt,ma,λH1 q ts f s1 t1 g1 e1 C hnu l1 nn=>?_};l2:=C.1;{_,O,q,O,{_,az.of e1},cI (xs:=ts) (jH ()) (λj us H'=>ag H1 H'/\∃kvs:List 67,cm H' us kvs/\AL (λe x=>e.1=.tup x.1/\e.2.2=.str x.2) kvs (f.take j)) {ag.refl _,[],trivial,.nil} (λ_ _ H' s'=>az.of (s'.1 _ _ e1)) (λj x us H' K1 K0 k s' Z k0=>?_) λH3 up us s' hu3 U=>?_};{s',kvs,Y,L}:=s';{t,S,tn}:=C.at k;{b,R,rfl,h1,h2,h3,h4}:=tn.af s'.af;{b,_,O,aQ.of h1,O,_,_,O,_,_,O,_,_,O,O,?_};dJ (B:=K0 H') ?_;{_,O,_,O,aG rfl,λtq H4 g4 m e4=>Z _ _ {s'.trans m,kvs++[(.tup t.1,R,.str t.2)],cm.snoc (e:=(.tup t.1,R,.str t.2)) {tq,O,e4,h2.af m.af} (Y.af m.af),?_}};[qu,S];L.snoc {O,O};{s3,kvs,Y,L}:=s';n3:ag H3 (upd H3 up (.lst us)):=ag.new U;L<-[C.1,q0];{up,us,kvs,O,az.of aE,Y.af n3.af,(),λdq H5 g5 s5 e5=>?_};c:=(s3.trans n3).trans s5;W:(kvs.map (·.1)).Nodup:=(do[xV (g:=λx:List Key×Tp=>KD.tup x.1) L λe x p=>p.1];z8.mpr (List.Pairwise.imp (λh z=>h (KD.tup.inj z)) (z8.mp nn)));e5<-[l_ _ [] (do[z7];W),z7];nk:=Kx L;nl:∀x∈f,Pn x.1/\x.2.length<=1000:=λx k=>(do _;{_,_,_,_,_,_,_,a,b}:=C.ri k;{a,b});nd5:nY H5 dq (df f):={_,e5,λp _=>{nk p,λz h=>do _;{x,k,rfl}:=wb.mp h;(nl x (j0 k)).2}};fz5:=(f6.fz.kp λb o e h=>b_ tt s1 e h).same c;D:=c _ _ e1;{_,O,q,O,{_,az.of D},cI (xs:=ts) (jH ()) (λj us H'=>ag H5 H'/\AL (EN x.d (nJ x h) (df f) H') us (f.take j)) {ag.refl _,.nil} (λ_ _ H' s'=>az.of (s'.1 _ _ D)) (λj y us H' K1 K0 k s' Z k0=>?_) λH9 rq us s' hu X=>?_};{s',M}:=s';{t,S,tn}:=C.at k;tm:=qk S;{b,R,rfl,h1,h2,h3,h4}:=tn.af (c.trans s').af;{b,_,O,aQ.of h1,O,_,_,O,_,_,O,_,_,O,O,?_};dJ (B:=K0 H') ?_;{_,O,_,O,_,O,_,O,fa,F,x.d,dq,df f,R,t.1,t.2,nJ x h,O,fz5.same s',h2,h3,nd5.same s',mK nn tm,λH4 v m ez=>Z _ _ {s'.trans m,?_}};[qu,S,yy];(M.imp λv e g=>EN.same g m).snoc ez;{s9,M}:=s';n9:ag H9 (upd H9 rq (.lst us)):=ag.new X;M<-[C.1,q0];G:=c.trans s9;kk _ rq us f (s1.trans (G.trans n9)) (t1.same (G.trans n9)) aE hnu l1 nn nl (M.imp λv e g=>EN.same g n9)
def Cv(T:Txt K mg tk)(F:Fh K "law" "law" ie fa fd)(gfAz:yK P w K mg base)(gfBo:zK P w K mg base)(gfBc:zJ P w K mg base)(t:zj P w K mg base):gG P w K mg base iW 12 fa fd ["_law_script"] gT:=do F.ok lB {} λcdv A outer s H vs Q E Y h=>?_;{_,(ax (sn lB.nd 1 (bT (a2 aM aM))) (ax (sn lB.nd 2 (cl gfBc Y (a2 (vv 0) (vv 1)))) (ax (sn lB.nd 3 (SX t Y (a2 (vv 2) (vv 1)))) (ax (bC (ck (pT Y) (cl t.b Y (ac (vv 2) (a2 (vv 1) aM))) (vv 3)) (aF (aR cw)) cg) (ax (sn lB.nd 4 (cl gfBo Y (a2 (vv 2) (vv 3)))) (ax (sn lB.nd 5 (cl t.b Y (ac (vv 2) (a2 (vv 1) aM)))) (ax (bC (ck jR (cb de T.bS boot_len (a1 (vv 5))) (cb de T.bS boot_len (a1 (vv 4)))) (aF (aR cw)) cg) (ax (mX (i:=6) lB.nd rfl (Or.inl rfl) (own:=["_law_entry"]) (fr:=[]) rfl (il (vv 4)) {O,∅,∅} (fB ∅) (λ_ _ _=>(cj (i:=0) (do¬List.Nodup (["_law_entry"]:List Tp);by decide +kernel) rfl (Or.inl rfl))) (λ_=>jS rfl) (λ_ _ _=>dF) (λ_ _ _=>(xt (vv 0)))) (ax (fo (jY (do 2) T.c9 (a1 (cb de T.bS boot_len (a1 (vv 4))))) (gn lB.nd 7) (aF (bC (DE (eJ (cl gfAz Y (ac (xi (vv 5) (vv 7)) (a2 (xi (vv 4) (vv 7)) (vv 6)))))) (aF (aR cw)) cg))) (aF (aR cw))))))))))),?_};{sp,ns,rfl,hs,hn,tt,ma,kk}:=h;{aG rfl,λr H1 g1 s1 e1=>?_};{_,O,_,O,sp,ns,r,O,hs.same s1,hn,e1,λH2 fa F x s2 f6=>?_};s02:=s1.trans s2;W:=f6.fz.xw;ha:nJ x (!"ann")=nJ x none:=funext λp=>(do¬(decide (("ann":Tp) = "ann")||eI x.br x.ls "ann" p)=true;[qH rfl];2);hb:nJ x (!"bo")=eI x.br x.ls "bo":=funext λp=>(do¬(decide (("bo":Tp) = "ann")||eI x.br x.ls "bo" p)=_;[decide_eq_false ∅];2);tt2:=tt.same s02;{_,O,_,O,fa,F,x,r,none,O,f6,s2 _ _ e1,tt2,s02 _ _ ma,λH3 q es nu s3 t3 e3 C l3 nd3 k al3=>?_};k3:∀b o,H2 b=!o->(∀ps,o≠.cF ps)->H3 b=!o:=λb o e h=>b_ tt2 s3 e h;f63:=f6.kp k3;er3:=k3 _ _ (s2 _ _ e1) λ_ z=>nomatch z;ma3:MA H3:=k3 _ _ (s02 _ _ ma) λ_ z=>nomatch z;{_,O,_,O,fa,F,x,r,!"ann",O,f63,er3,t3,ma3,λH4 q4 es4 c s4 t4 e4 J l4 nd4 nl4 al4=>?_};k4:∀b o,H3 b=!o->(∀ps,o≠.cF ps)->H4 b=!o:=λb o e h=>b_ t3 s4 e h;(by rw[ha]at J al4;obtain rfl:=J.Td W C);f64:=f63.kp k4;er4:=k4 _ _ er3 λ_ z=>nomatch z;ma4:MA H4:=k4 _ _ ma3 λ_ z=>nomatch z;e34:=k4 _ _ e3 λ_ z=>nomatch z;R:=al3.imp λv e g=>EN.kp g k4;kn:=C.known W;hnF:∀p z,df c p=!z->PyData.strOk z=true/\z.length<=1000:=λp z h=>(do(by unfold df at h);{e,m,rfl}:=wb.mp h;hm:=j0 m;{(kn e hm).1,(k e hm).2});yd:iH 7 (.list (c.map (MM x.d (nJ x none) (df c)))):=fV λd hd=>(do _;{e,m,rfl}:=qc.mp hd;this:=f6.fz.O1 (num:=df c) (λp z h=>(hnF p z h).1) (x:=e) (k e m).1 (kn e m).1;this);dv4:=mH (H:=H4) (D:=MM x.d (nJ x none) (df c)) (λv e g=>EN.dv g) al4;dv3:=mH (H:=H4) (D:=MM x.d (nJ x none) (df c)) (λv e g=>EN.dv g) R;{_,O,_,_,.lst (az.of e4) dv4,.lst (az.of e34) dv3,yd.1,yd.1,qf (yh _ _) (qf yd.2 ⋯),_,O,bL (xf rfl yd.1) ?_};{op,hop}:∃op,op=eI x.br x.ls "bo":={_,O};{_,O,_,O,fa,F,x,q,es,c,df c,nJ x none,op,O,f64,e34,l3,λp=>rfl,R,λe m=>{(k e m).1,(k e m).2,(kn e m).1,?_},hop,C.si W,λH5 qd us s5 e5 ad=>?_};h||{y,hy,h}:=(kn e m).2;.inl h;[<-h];.inr (f6.rp y hy);t5:=t4.same s5;f65:=f64.same s5;{_,O,_,O,fa,F,x,r,!"bo",O,f65,s5 _ _ er4,t5,s5 _ _ ma4,λH6 q6 es6 a s6 t6 e6 N l6 nd6 nl6 X=>?_};k6:∀b o,H5 b=!o->(∀ps,o≠.cF ps)->H6 b=!o:=λb o e h=>b_ t5 s6 e h;(by rw[hb,<-hop]at N X);{l,_,inj}:=Nums.cut W (λp=>rfl) C N;f66:=f65.kp k6;G:=k6 _ _ e5 λ_ z=>nomatch z;I:=ad.imp λv e g=>EN.kp g k6;I<-[<-l];hl6:es6.length=a.length:=X.1;hld:us.length=a.length:=I.1;{_,O,q6,_,O,.inl (az.of e6),_,O,qd,_,O,.inl (az.of G),O,_,O,bL (do[hl6,hld];0) ?_};{_,O,qd,O,{_,az.of G},cI (xs:=us) (jH ()) (λj vs Z=>Z=H6/\vs=(a.take j).map λe=>V.str e.2) {O,O} (λ_ _ Z s'=>do[s'.1];az.of G) (λj y vs Z K1 K0 hx s' k1 k0=>?_) λH7 np vs s' hu7 hnp=>?_};{rfl,f}:=s';{e,ee,en}:=I.at hx;{b,vp,v2,v3,v4,rfl,h1,_}:=en;dJ (B:=K0 Z) ?_;{_,O,b,_,0,_,O,O,aQ.of h1,O,k1 _ _ {O,?_}};[qu,ee,yy,zt,f];2;{rfl,f}:=s';f<-[hld,q0];f:vs=(a.map (·.2)).map V.str:=(do[f,wg];2);!f;n7:ag H7 (upd H7 np (.lst ((a.map (·.2)).map V.str))):=ag.new hnp;ek:(upd H7 np (.lst ((a.map (·.2)).map V.str))) np=!(.lst ((a.map (·.2)).map V.str)):=aE;f67:=f66.same n7;e67:=n7 _ _ e6;S:=n7 _ _ G;al7:=X.imp λv e g=>EN.same g n7;ad7:=I.imp λv e g=>EN.same g n7;¬lN _ _ _ _ (upd H7 np (.lst ((a.map (·.2)).map V.str)));(by generalize upd H7 np (.lst ((a.map (·.2)).map V.str))=H8 at ek f67 e67 S al7 ad7);{_,O,qd,_,O,.inl (az.of S),?_};{(us.length:Int),O,(),(),bY (lo:=0) (n:=us.length) (λj σ Z=>∃u7,σ=[!(.ref sp),!(.ref r),! (.ref fa),! (.ref q),!(.ref qd),!(.ref q6),!(.ref np),u7]/\ag H8 Z) {_,O,ag.refl _} ?_ ?_};(j,σ,Z,hj,{u7,rfl,L},Nx,hNx);U:j<a.length:=();a0:∀{α:Type} {xs:List α} {v:α},xs[j]?=!v->nW xs (0+(j:Int))=!v:=λh=>(do[Int.zero_add];vR h);{v,hv,g1}:=al7.at' (qe U);{u,hu,g2}:=ad7.at' (qe U);M:∀{e},e∈a->e∈c:=λ{e} h=>(do h<-[l];(qw.mp h).1);hm:a[j]∈c:=M (y0 U);{_,O,_,O,q6,es6,_,v,O,O,az.of (L _ _ e67),a0 hv,_,O,_,O,qd,us,_,u,O,O,az.of (L _ _ S),a0 hu,_,O,fa,F,x.d,op,df c,df a,v,u,a[j],np,a.map (·.2),O,f67.fz.same L,g1.same L,g2.same L,L _ _ ek,do[qh];l6,λz hz=>?_,(kn _ hm).1,(k _ hm).1,λp _=>?_,hnF,λZ2 s2=>{true,O,bL rfl (hNx _ _ {_,O,L.trans s2})}};{e,m,rfl}:=qc.mp hz;(kn e (M m)).1;[l];Rq nd3 inj p;(σ,Z,{u7,rfl,L});kk Z
end
def all_mk{l:PySem.W.OpenLaw}{w:World}{K:PySem.W.Frag}{h:Heap}{mg:Tp->Option MD}{fa:To}(X:K.In h)(G:h.Ns mainGlobals mg)(hfa:mg "law"=! (.ref fa))(p:PySem.W.nsIn K mainGlobals "dict"=!none)(f:PySem.W.nsIn K mainGlobals "enumerate"=!none)(F:PySem.W.nsIn K mainGlobals "int"=!none)(d:PySem.W.nsIn K mainGlobals "isinstance"=!none)(B:PySem.W.nsIn K mainGlobals "len"=!none)(y:PySem.W.nsIn K mainGlobals "list"=!none)(D:PySem.W.nsIn K mainGlobals "max"=!none)(m:PySem.W.nsIn K mainGlobals "range"=!none)(i:PySem.W.nsIn K mainGlobals "sorted"=!none)(E:PySem.W.nsIn K mainGlobals "str"=!none)(C:PySem.W.nsIn K mainGlobals "zip"=!none)(u:PySem.W.nsIn K mainGlobals "MAIN"=!(!(.ref cx)))(z_fAp:FX K "birth_chain" uC)(z_fAr:FX K "told_leaves" tI)(z_fAn:FX K "key_of_leave" uk)(N:FX K "is_let" uD)(R:FX K "has_leave" tM)(z_fAo:FX K "key_of_place" su)(z_fAk:FX K "followers_of" rW)(z_fBy:FX K "ordered" uI)(z_fBu:FX K "signs_in" mB)(z_fCa:FX K "row_of" uu)(M:FX K "living" oI)(z_fAg:FX K "place_of_side" tJ)(z_fBx:FX K "stretch" uE)(z_fBq:FX K "seats_in" sD)(z_fAu:FX K "key_of_mark" t_)(U:FX K "telling_in_row" lK)(z_fAh:FX K "told_of_signs" jE)(z_fBn:FX K "marks_of" sF)(z_fAw:FX K "key_of_note" uq)(z_fBp:FX K "notes_of" jG)(z_fAf:FX K "telling_places" lR)(z_fBw:FX K "way_out" uB)(b:mW K "greatest_place"=bD)(z_fAd:FL K "greatest_place" sG bD)(O:FX K "turned_in" uy)(z_fBt:FX K "stood_in" rJ)(z_fAi:FX K "reaching_main" uG)(z_fBe:FX K "stands_in" pB)(z_fAx:FX K "shown_among" lI)(a:mW K "all_inner_parts"=bf)(z_fAa:FL K "all_inner_parts" rK bf)(z_fBm:FX K "lines_of" jK)(z_fAt:FX K "key_of_cell" uw)(z_fBb:FX K "words_told" lU)(z_fBs:FX K "table_of" ow)(z_fBr:FX K "may_read" oy)(z_fAm:FX K "inner_number" tR)(z_fAb:FX K "numbered_parts" oK)(Q:FX K "text_of_sign" uY)(V:FX K "shown_row" i_)(Z:FX K "entry" sC)(z_fBv:Mu K "document" pz)(z_fAj:FX K "_law_cell_at" rV)(L:FX K "_law_drawn" uT)(z_fBk:FX K "_law_draw" tQ)(S:FX K "_law_parts" pE)(z_fBg:FX K "_law_sign" rP)(I:FX K "_law_signs" oC)(z_fBi:FX K "_law_side" uX)(z_fAc:FX K "_law_stretches" oB)(z_fAs:FX K "_law_tables" oU)(z_fAq:FX K "_law_leaves" pH)(z_fBc:FX K "_law_facts" oM)(z_fBj:FX K "_law_open" lX)(z_fAv:FX K "_law_within" sr)(z_fBo:FX K "_law_due" lJ)(z_fAz:FX K "_law_alike" uo)(z_fCd:FX K "law" ie) : ∃fd:FuncData,(∀(s:Tj) (v:MD),BindsTo s fd {[v],[]} [("_law_script",v)])/\∀base:Heap,K.In base->base.Ns mainGlobals mg->(∀t∈OR,base.BuiltinsAt mg (mW K t))->gG l.prog w K mg base iW 12 fa fd ["_law_script"] gT:=do T:Txt K mg (λx=>0):={PySem.W.mg_none_of X G p,PySem.W.mg_none_of X G f,PySem.W.mg_none_of X G F,PySem.W.mg_none_of X G d,PySem.W.mg_none_of X G B,PySem.W.mg_none_of X G y,PySem.W.mg_none_of X G D,PySem.W.mg_none_of X G m,PySem.W.mg_none_of X G i,PySem.W.mg_none_of X G E,PySem.W.mg_none_of X G C,PySem.W.mg_of X G u};(by obtain @⟨_,_,an,_,_,kV,dc,pm,cd,ct,z1,z2,z3,z4⟩:=z_fCd);e:=hfa.symm.trans (PySem.W.mg_of X G z1);-e;{PySem.W.fnOf "law" "law" (cc ie) (bJ ie) (ah ie) .none kV dc pm an cd ct,λs v=>.of_eq rfl,λbase _ _ hBs=>?_};r_fAp:=Ez l.prog w base T (z_fAp.fo X G);r_fAn:=Gh l.prog w base T (z_fAn.fo X G);r_fAo:=AQ l.prog w base T (z_fAo.fo X G);n:=Cc l.prog w base T (z_fBu.fo X G);J:=Dk l.prog w base T (z_fAg.fo X G);g:=C3 l.prog w base T (z_fBq.fo X G);r_fAu:=Bp l.prog w base T (z_fAu.fo X G);r_fAw:=Cb l.prog w base T (z_fAw.fo X G);o:=Es l.prog w base T (z_fAf.fo X G);z:=DJ l.prog w base T (z_fBw.fo X G);r_fAt:=Ck l.prog w base T (z_fAt.fo X G);r_fAm:=EH l.prog w base T (z_fAm.fo X G);r_fAl:=AU l.prog w base T (Q.fo X G);r_fAj:=BA l.prog w base T (z_fAj.fo X G);r_fAy:=AV l.prog w base T (L.fo X G);c:=C7 l.prog w base T (z_fBk.fo X G);r_fBj:=D1 l.prog w base T (z_fBj.fo X G);r_fAv:=Bt l.prog w base T (z_fAv.fo X G);r_fAz:=DC l.prog w base T (z_fAz.fo X G);A:=D7 l.prog w base T (z_fBx.fo X G) J;q:=Er l.prog w base T (z_fAi.fo X G) z;r_fBd:=E9 l.prog w base T (S.fo X G) c;r_fBg:=FC l.prog w base T (z_fBg.fo X G) c;r_fBi:=Fn l.prog w base T (z_fBi.fo X G) c;Y:=EX l.prog w base T (z_fAs.fo X G) c;r_fAq:=BO l.prog w base T (z_fAq.fo X G) c;r_fBo:=Bg l.prog w base T (z_fBo.fo X G) r_fBj r_fAv;r_fAr:=AZ l.prog w base T (z_fAr.fo X G) r_fAn;r_fAk:=EE l.prog w base T (z_fAk.fo X G) r_fAo;r_fAe:=Bb l.prog w base T (U.fo X G) r_fAu g A;r_fAd:=FW l.prog w base T (z_fAd.fo X G) (b▸hBs "greatest_place" (do 0));r_fAx:=CI l.prog w base T (z_fAx.fo X G) q;r_fBb:=Bz l.prog w base T (z_fBb.fo X G) r_fAt;r_fBa:=AG l.prog w base T (I.fo X G) c r_fBg;r_fAc:=D' l.prog w base T (z_fAc.fo X G) c r_fBi;r_fBz:=FV l.prog w base T (N.fo X G) r_fAr;r:=Cd l.prog w base T (z_fBy.fo X G) r_fAk;r_fBf:=Bw l.prog w base T (O.fo X G) r_fAd z;r_fBc:=Fi l.prog w base T (z_fBc.fo X G) r_fAj r_fAy r_fAq r_fBd r_fBa r_fAc Y;r_fBh:=Di l.prog w base T (R.fo X G) r_fAp r_fBz;j:=F8 l.prog w base T (z_fCa.fo X G) r n;r_fBt:=Gf l.prog w base T (z_fBt.fo X G) r_fBf;r_fBm:=BF l.prog w base T (z_fBm.fo X G) r;k:=FE l.prog w base T (M.fo X G) j n;r_fBe:=Cz l.prog w base T (z_fBe.fo X G) q r_fBt o;r_fBs:=C5 l.prog w base T (z_fBs.fo X G) r_fBm r_fBb;r_fBr:=Cg l.prog w base T (z_fBr.fo X G) r_fBh;r_fAh:=Ek l.prog w base T (z_fAh.fo X G) k j g r_fAe;r_fBp:=Bk l.prog w base T (z_fBp.fo X G) r_fAw k j g A;r_fAa:=F2 l.prog w base T (z_fAa.fo X G) (a▸hBs "all_inner_parts" (do 0)) r_fAx r_fBe o;r_fBn:=CK l.prog w base T (z_fBn.fo X G) r_fAh;r_fAb:=Bs l.prog w base T (z_fAb.fo X G) r_fAa r_fAm r_fBr;r_fBl:=Bn l.prog w base T (V.fo X G) k r_fBn r_fAl;r_fCc:=Bo l.prog w base T (Z.fo X G) r_fBp r_fBl r_fBs;H:=CQ l.prog w base T (z_fBv.fo X G) r_fCc r_fAb;Cv l.prog w base T (JM (st:=ie) z2 z3 z4) r_fAz r_fBo r_fBc H
end My
end
namespace PySem.W.Fast
def tw9159072076920205376:=0
def tw14399069925117356192:=0
def tw3722843002616992000:=0
def tw506355751715291424:=0
def tw10388233630115792256:=0
def tw277026636270550464:=0
def tw13367362788184659424:=0
def tw6046489402961887904:=0
def tw2592549199219160832:=0
def tw10281682309933995808:=0
def tw357372409577807648:=0
def tw13770996555239578464:=0
def tw10874514865747063680:=0
def tw13767242994045720480:=0
def tw14559756774862724449:=0
def tw9632916853333443969:=0
def tw6703367666462344609:=0
def tw5173770649006391713:=0
def tw6837858883980194273:=0
def tw16748479252263436801:=0
def tw10157357575634144001:=0
def tw14818818956643920673:=0
def tw16018454616045502305:=0
def tw4461448694342444001:=0
def tw483270099363765346:=0
def tw17078825023532084354:=0
def tw893934948580916450:=0
def tw7592481694016703874:=0
def tw11437848643960742594:=0
def tw1777881108296072930:=0
def tw10637731775555041026:=0
def tw17926834853739832162:=0
def tw3839588568270575586:=0
def tw4673821409474545827:=0
def tw15694509159398517923:=0
def tw12793512182155962019:=0
def tw4372701226813663971:=0
def tw1859644140391452547:=0
def tw8498116763184923716:=0
def tw7737016485612418596:=0
def tw10757044351512497700:=0
def tw541553703636809316:=0
def tw15009945863420935876:=0
def tw17529605334528671460:=0
def tw12474286909780887300:=0
def tw16518460879350212388:=0
def tw18438336550713132932:=0
def tw3517623741096334405:=0
def tw3983421122411323493:=0
def tw16443114909125859557:=0
def tw11307784463508789509:=0
def tw273092514941713733:=0
def tw8281089332046677445:=0
def tw2326064382764917221:=0
def tw8945057879310782981:=0
def tw1152850070903202437:=0
def tw18182417693551118085:=0
def tw17397056637695841157:=0
def tw11924192402723840965:=0
def tw15623757178450357318:=0
def tw2322636121229623366:=0
def tw17864915194327660806:=0
def tw7050560755104023846:=0
def tw9089054292193935718:=0
def tw10018565179113054566:=0
def tw9554642279306644838:=0
def tw3283957516270136166:=0
def tw11352945977325795302:=0
def tw7755154090968495175:=0
def tw6891858532069131335:=0
def tw15786281786363570407:=0
def tw16173961009132348199:=0
def tw8286912088073071559:=0
def tw6730649777412218920:=0
def tw12798222064504981576:=0
def tw12829310142562478184:=0
def tw697272084177583208:=0
def tw12406135734292443336:=0
def tw7057465149405818088:=0
def tw326278522971093384:=0
def tw7444238649284484872:=0
def tw15475458622071042984:=0
def tw14796253085315732713:=0
def tw6025325672468865257:=0
def tw9548034980654637705:=0
def tw13509154612907753129:=0
def tw13079194428130771178:=0
def tw12367129882949742890:=0
def tw11939852205983214986:=0
def tw15525259316529150378:=0
def tw17215571679768422890:=0
def tw15802181945634302506:=0
def tw6644680496897137226:=0
def tw2754353114302516906:=0
def tw9563249668248964010:=0
def tw16507209392096131211:=0
def tw15414860037843351691:=0
def tw18261147491752593835:=0
def tw9982065299096406571:=0
def tw8022083471570057067:=0
def tw9305695696246666380:=0
def tw15960079465134534892:=0
def tw13944915991213515180:=0
def tw1150806148727693068:=0
def tw13333128132149762956:=0
def tw17840426363213568045:=0
def tw7407626251522265165:=0
def tw3980553110926567757:=0
def tw1091600664406228333:=0
def tw3243655534896850381:=0
def tw13361201258798300653:=0
def tw8092268765302196781:=0
def tw3896603209493989229:=0
def tw1208645062721501037:=0
def tw14485544856126500845:=0
def tw13022504780835070094:=0
def tw1348755130437135790:=0
def tw4704454420114469422:=0
def tw10650051278237619822:=0
def tw7291957289610634894:=0
def tw8032539002986195598:=0
def tw11998921828651560814:=0
def tw17318293250108783566:=0
def tw15482549689023543439:=0
def tw12743038423707088879:=0
def tw8235806243353907183:=0
def tw2413815197180627312:=0
def tw3858293135335012816:=0
def tw738714670793774768:=0
def tw9924267601168998256:=0
def tw4869638582220167281:=0
def tw5358000336290787537:=0
def tw2909595834323274001:=0
def tw13010282484745083249:=0
def tw18016982645291711857:=0
def tw9837255126539667825:=0
def tw13546067696467476369:=0
def tw10997992267305783281:=0
def tw9704540147245583506:=0
def tw652818717178561778:=0
def tw6650690229229537586:=0
def tw16253896041826984370:=0
def tw234685512199890514:=0
def tw10128435590755971762:=0
def tw18373182350348188402:=0
def tw14743038522387869522:=0
def tw16985578754088955091:=0
def tw14676569186076301555:=0
def tw6780375278679934227:=0
def tw10313447297557277971:=0
def tw2459617216178602259:=0
def tw17333295740380769587:=0
def tw7152570785807947123:=0
def tw12811163211588528499:=0
def tw3965479752236182931:=0
def tw8750833153665040787:=0
def tw12024117373734781427:=0
def tw6898115881247548947:=0
def tw12997813212332953171:=0
def tw4797035119211523667:=0
def tw8865590241642429267:=0
def tw13942978785646860275:=0
def tw15920139392880484339:=0
def tw91927482937406580:=0
def tw13229560828013275348:=0
def tw1366721456152138228:=0
def tw15437588843119490580:=0
def tw10501450708798460660:=0
def tw12554784300766895892:=0
def tw15492452405596706965:=0
def tw4837417354964814037:=0
def tw13850115608295637301:=0
def tw1835894792367237461:=0
def tw9767816294537845109:=0
def tw6582008089079656917:=0
def tw8446741020379716213:=0
def tw1390828285770686197:=0
def tw12173686730338888597:=0
def tw9714295125012929558:=0
def tw1181404974051852342:=0
def tw3253915884147783734:=0
def tw5931278894398397846:=0
def tw10183218406583799254:=0
def tw1414068575329706710:=0
def tw2209889918544595191:=0
def tw10971953325732554007:=0
def tw169920014956010871:=0
def tw138224492237311959:=0
def tw16095281733536151511:=0
def tw10603502154445583416:=0
def tw5321382962279123288:=0
def tw3184353319344174968:=0
def tw5614635879145685912:=0
def tw14309931603827071001:=0
def tw17574036217701674233:=0
def tw12191247111274768697:=0
def tw9911877451164551513:=0
def tw5275516782815913433:=0
def tw7258245657218100921:=0
def tw11613763635748358873:=0
def tw3567234348595288921:=0
def tw15374451736793253817:=0
def tw14563778907688281114:=0
def tw5060805628905777210:=0
def tw3120992213249758458:=0
def tw7181337875563021594:=0
def tw4653920528849128858:=0
def tw2979392228049461722:=0
def tw16379712093876404794:=0
def tw16276021626987585306:=0
def tw2651725725588413274:=0
def tw3797212578697616250:=0
def tw5234580036595252186:=0
def tw16140447364284624187:=0
def tw18070908922744476443:=0
def tw8716777403120977755:=0
def tw1917799340593819579:=0
def tw9640863816601918427:=0
def tw16042904507055889564:=0
def tw2278064517982685820:=0
def tw8214357375483097084:=0
def tw4375069976597191709:=0
def tw635752628867040861:=0
def tw1072343543390665437:=0
def tw13133671616319589181:=0
def tw10312561882594493405:=0
def tw1488402988700788958:=0
def tw7871755181002911070:=0
def tw1650018040457605598:=0
def tw263222271340741150:=0
def tw9019941454480832190:=0
def tw13871989161323880222:=0
def tw10136995301130763102:=0
def tw13801036575969977246:=0
def tw17141747974532867038:=0
def tw12472569986433286207:=0
def tw4083922689392922719:=0
def tw2322690826610177215:=0
def tw8232336797535245535:=0
def tw9664547055340132575:=0
def tw1659290511250231551:=0
def tw16378413401158651167:=0
def tw14832054669343623583:=0
def tw17176992119239709087:=0
def tw7483020543014264383:=0
def tw464313190638756447:=0
def tw2731602641988677215:=0
def tw1409392836150101599:=0
def tw14057734366469883647:=0
def tw13469082362956811205:=0
end PySem.W.Fast
open PySem PySem.W PyProof.Rows
set_option maxRecDepth 100000 in
set_option maxHeartbeats 0 in
theorem PySem.Challenge.cw_pagefolk_k46_closed_to_a_hand_holds : PySem.Challenge.rw_pagefolk_k46_closed_to_a_hand.Holds := by
 w_on;o_law;k_head;(case hw=>w_witness2)
 k_fill
 refine L2.uR (l:=PySem.Challenge.rw_pagefolk_k46_closed_to_a_hand) (n:=63) (k:=12) (x:="_law_script") (CX:=L2.iW) (sp:=My.gT) (Ps:=[My.bD,My.bf]) My.OR My.MS My.R9 rfl (by decide) rfl ⟨rfl,by decide,by decide,rfl⟩ (fun w h Y=>PySem.W.km_in_of Y) (fun w h Y=>PySem.W.km_tabs_of Y) ?hC ?hnt ?hnl ?htb ?htp ?hms (by decide) ?F My.p7 (fun _ _ _ _ z=>z)
 case hC=>exact fun w=>List.forall_mem_cons.mpr ⟨⟨"greatest_place",by simp,by kernel_rfl⟩,List.forall_mem_cons.mpr ⟨⟨"all_inner_parts",by simp,by kernel_rfl⟩,fun _ h=>nomatch h⟩⟩
 case htb=>(intro w;exact ki.mpr ⟨by kernel_rfl,ki.mpr ⟨by kernel_rfl,fun _ h=>nomatch h⟩⟩)
 case htp=>(intro w;exact ki.mpr ⟨(by refine uh ?_;kernel_rfl),ki.mpr ⟨(by refine uh ?_;kernel_rfl),fun _ h=>nomatch h⟩⟩)
 case hms=>(intro w;kernel_rfl)
 case hnt=>(intro w;kernel_rfl)
 case hnl=>(intro w;kernel_rfl)
 case F =>
  intro w mg fa h KX G hmg;refine' My.all_mk KX G hmg ?_ ?_ ?_ ?_ ?_ ?_ ?_ ?_ ?_ ?_ ?_ ?_ ?_ ?_ ?_ ?_ ?_ ?_ ?_ ?_ ?_ ?_ ?_ ?_ ?_ ?_ ?_ ?_ ?_ ?_ ?_ ?_ ?_ ?_ ?_ ?_ ?_ ?_ ?_ ?_ ?_ ?_ ?_ ?_ ?_ ?_ ?_ ?_ ?_ ?_ ?_ ?_ ?_ ?_ ?_ ?_ ?_ ?_ ?_ ?_ ?_ ?_ ?_ ?_ ?_ ?_ ?_ ?_ ?_ ?_
  all_goals try first|k_is|(refine' L2.FX.mk ?z1 ?z2 ?z3 ?z4;(case z1=>k_is);(case z2=>k_is);(case z3=>k_is);(case z4=>k_is))|(refine' L2.MD.mk ?z1 ?z2;(case z1=>k_is);(case z2=>kernel_rfl))|kernel_rfl|(refine' L2.Mu.mk ?z1 ?z2 ?z3 ?z4 ?z5;(case z1=>k_is);(case z2=>k_is);(case z3=>k_is);(case z4=>k_is);(case z5=>k_is))|(refine' L2.FL.mk ?z1 ?z2 ?z3 ?z4 ?z5;(case z1=>k_is);(case z2=>k_is);(case z3=>k_is);(case z4=>k_is);(case z5=>kernel_rfl))