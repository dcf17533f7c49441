import PyProof.Rows.All
import Wide.All
import OpenK.AllK
import Wide.FinOn
import Lean
import PyProof.EqAt
import PyProof.EqKinds
import PyProof.TupleCall
import KE.KSortTup
import KE.KDictOf
import PyProof.AttrMissHeap
import KE.KSortKey
import KE.KNestM
import KE.KLam
import KE.KEqDict
import KE.KBoundM
import KE.KSuperObj
import PySem.Challenge.RW_pagefolk_k44_entries_and_numbers
set_option Elab.async false
set_option linter.all false
set_option maxRecDepth 100000
section
set_option compiler.extract_closed false
local macro_rules|`(())=>`(by first|lia|omega)
local macro_rules|`(∅)=>`(by decide +kernel)
local macro_rules|`(⋯)=>`(by decide)
local macro_rules(kind:=«term{}»)|`({})=>`(fun _ _ _ _ h=>by cases h;subst_vars;first|rfl|grind)
local macro_rules(kind:=«term{_}»)|`({$x,*})=>`(⟨$x,*⟩)
local macro_rules|`(↑$x)=>`(($x).heap.objs.size)
local macro_rules|`(!$x)=>`(some $x)
local macro_rules|`(tactic|ac_nf at $h:ident)=>`(tactic|simp only[List.mem_cons,List.not_mem_nil,or_false]at $h:ident)
set_option hygiene false
def M0z(a:Array Lean.Syntax):Lean.Syntax:=Lean.mkNode `Lean.Parser.Tactic.rcasesPatLo #[Lean.mkNode `Lean.Parser.Tactic.rcasesPatMed #[Lean.mkNullNode (Lean.mkSepArray a (Lean.mkAtom "|"))],Lean.mkNullNode]
def M1z:Nat->Lean.Syntax->Array Lean.Syntax
|0,_=>#[]
|n+1,s=>
 let s:=if s.isOfKind `choice then s[0] else s
 if s.isOfKind `«term_||_» then M1z n s[0]++M1z n s[2]
 else if s.isOfKind `«term{_}» then #[Lean.mkNode `Lean.Parser.Tactic.rcasesPat.tuple #[Lean.mkAtom "⟨",Lean.mkNullNode (Lean.mkSepArray (s[1].getSepArgs.map (fun x=>M0z (M1z n x))) (Lean.mkAtom ",")),Lean.mkAtom "⟩"]]
 else if s.isOfKind `«term{}» then #[Lean.mkNode `Lean.Parser.Tactic.rcasesPat.tuple #[Lean.mkAtom "⟨",Lean.mkNullNode,Lean.mkAtom "⟩"]]
 else if s.isOfKind `Lean.Parser.Term.paren then #[Lean.mkNode `Lean.Parser.Tactic.rcasesPat.paren #[Lean.mkAtom "(",M0z (M1z n s[1]),Lean.mkAtom ")"]]
 else if s.isIdent then #[Lean.mkNode `Lean.Parser.Tactic.rcasesPat.one #[s]]
 else #[Lean.mkNode `Lean.Parser.Tactic.rcasesPat.ignore #[Lean.mkAtom "_"]]
def M2z(s:Lean.Syntax):Bool:=let s:=if s.isOfKind `choice then s[0] else s
 s.isIdent||[`Lean.Parser.Term.hole,`«term{_}»,`«term{}»,`«term_||_»].contains s.getKind
def M3z(s:Lean.Syntax)(o:Option Lean.Syntax):Lean.MacroM (Array Lean.Syntax):=do
 let l:=match o with|none=>Lean.mkNullNode|some h=>Lean.mkNullNode #[Lean.mkNode `Lean.Parser.Tactic.location #[Lean.mkAtom "at",Lean.mkNode `Lean.Parser.Tactic.locationHyp #[Lean.mkNullNode #[h],Lean.mkNullNode]]]
 let c:=Lean.mkNode `Lean.Parser.Tactic.optConfig #[Lean.mkNullNode]
 let a:Lean.Syntax->Array Lean.Syntax:=fun x=>if x.isOfKind `Lean.Parser.Term.nestedAction then #[Lean.mkNullNode #[Lean.mkAtom "←"],x[1][0]] else #[Lean.mkNullNode,x]
 let sm:Array Lean.Syntax->Bool->Lean.Syntax:=fun x b=>Lean.mkNode `Lean.Parser.Tactic.simp #[Lean.mkAtom "simp",c,Lean.mkNullNode,if b then Lean.mkNullNode #[Lean.mkAtom "only"] else Lean.mkNullNode,if x.isEmpty then Lean.mkNullNode else Lean.mkNullNode #[Lean.mkAtom "[",Lean.mkNullNode (Lean.mkSepArray (x.map (fun y=>Lean.mkNode `Lean.Parser.Tactic.simpLemma (#[Lean.mkNullNode]++a y))) (Lean.mkAtom ",")),Lean.mkAtom "]"],l]
 let s:=if s.isOfKind `Lean.Parser.Term.paren&&s[1].isOfKind `Lean.Parser.Term.byTactic then s[1] else s
 let k:=s.getKind
 let t:Lean.Term:=⟨s⟩
 if k==`Lean.Parser.Term.hole then return #[]
 if k==`Lean.Parser.Term.byTactic then return s[1][0][0].getSepArgs
 if k==`«term[_]» then return #[Lean.mkNode `Lean.Parser.Tactic.rwSeq #[Lean.mkAtom "rw",c,Lean.mkNode `Lean.Parser.Tactic.rwRuleSeq #[Lean.mkAtom "[",Lean.mkNullNode (Lean.mkSepArray (s[1].getSepArgs.map (fun x=>Lean.mkNode `Lean.Parser.Tactic.rwRule (a x))) (Lean.mkAtom ",")),Lean.mkAtom "]"],l]]
 if k==`«term#[_,]» then
  let x:=s[1].getSepArgs
  return #[if x[0]!.isOfKind `Lean.Parser.Term.hole then sm (x.drop 1) true else sm x false]
 if k==`num then match s.isNatLit?.getD 0,o with
  |0,_=>return #[sm #[] false]
  |_,some h=>let h:Lean.Ident:=⟨h⟩;return #[←`(tactic|simp only[List.mem_cons,List.not_mem_nil,or_false]at $h:ident)]
  |1,_=>return #[←`(tactic|constructor)]
  |2,_=>return #[←`(tactic|rfl)]
  |3,_=>return #[←`(tactic|split)]
  |4,_=>return #[←`(tactic|grind)]
  |5,_=>return #[←`(tactic|simp_all)]
  |_,_=>return #[←`(tactic|subst_vars)]
 if k==`«term-_» then let x:Lean.Term:=⟨s[1]⟩;return #[←`(tactic|cases $x:term)]
 if k==`«term!_» then let x:Lean.Ident:=⟨s[1]⟩;return #[←`(tactic|subst $x)]
 if k==`«term¬_» then let x:Lean.Term:=⟨s[1]⟩;return #[←`(tactic|show $x)]
 if k==`Lean.Parser.Term.explicit then let x:Lean.Ident:=⟨s[1]⟩;return #[←`(tactic|unfold $x)]
 if k==`«term_<|_» then
  let y:Lean.Term:=⟨s[2]⟩
  if s[0].isIdent then let x:Lean.Ident:=⟨s[0]⟩;return #[←`(tactic|by_cases $x:ident:$y)]
  return #[←`(tactic|simpa using $y)]
 let i:Array Lean.Syntax->Lean.Syntax:=fun x=>Lean.mkNode `Lean.Parser.Tactic.rintro #[Lean.mkAtom "rintro",Lean.mkNullNode (x.map (fun y=>Lean.mkNode `Lean.Parser.Tactic.rintroPat.one #[let p:=M1z 9 y;if p.size==1 then p[0]! else Lean.mkNode `Lean.Parser.Tactic.rcasesPat.paren #[Lean.mkAtom "(",M0z p,Lean.mkAtom ")"]])),Lean.mkNullNode]
 if k==`Lean.Parser.Term.tuple then
  if s[1].getNumArgs==0 then return #[←`(tactic|first|lia|omega)]
  return #[i (#[s[1][0]]++s[1][2].getSepArgs)]
 if k==`Lean.Parser.Term.paren then
  if M2z s[1] then return #[i #[s[1]]]
  let x:Lean.Term:=⟨s[1]⟩
  return #[←`(tactic|refine $x)]
 return #[←`(tactic|refine $t)]
local macro_rules|`(do $s)=>do
 if not (s.raw.isOfKind `Lean.Parser.Term.doSeqIndent) then Lean.Macro.throwUnsupported
 let mut t:=#[]
 for e in s.raw[0].getArgs do
  let d:=e[0][0]
  match e[0].getKind with
  |`Lean.Parser.Term.doExpr=>t:=t++(←M3z d none)
  |`Lean.Parser.Term.doReassignArrow=>t:=t++(←M3z d[3][0] (some d[0]))
  |`Lean.Parser.Term.doReassign=>
   t:=t.push (if d.isOfKind `Lean.Parser.Term.letPatDecl then Lean.mkNode `Lean.Parser.Tactic.obtain #[Lean.mkAtom "obtain",Lean.mkNullNode #[(M0z (M1z 9 d[0]))[0]],if d[2].isNone then d[2] else Lean.mkNullNode #[Lean.mkAtom ":",d[2][0][1]],Lean.mkNullNode #[Lean.mkAtom ":=",Lean.mkNullNode #[d[4]]]] else Lean.mkNode `Lean.Parser.Tactic.tacticHave__ #[Lean.mkAtom "have",Lean.mkNode `Lean.Parser.Term.letConfig #[Lean.mkNullNode],Lean.mkNode `Lean.Parser.Term.letDecl #[Lean.mkNode `Lean.Parser.Term.letIdDecl d.getArgs]])
  |_=>Lean.Macro.throwUnsupported
 let r:Array (Lean.TSyntax `tactic):=t.map (fun x=>⟨x⟩)
 `(by $r;*)
abbrev KE:=PySem.Value->PySem.Shared->Prop
abbrev MD:=PySem.Value
abbrev Sv:=PySem.Shared
abbrev Sw:=PySem.PyData
abbrev Sx:=PySem.Addr
abbrev Sy:=PySem.Str
def qA:=@PySem.wpAny_bind
def qB:=@if_neg
def qE:=@PySem.wpAny_pure
def qF:=@if_pos
def qG:=@PySem.Heap.lt_size
def qH:=@PySem.Heap.get?_push_of_some
def qI:=@decide_eq_true
def qJ:=@Option.some.inj
def qK:=@PySem.wpAny_holding
def qL:=@PySem.Heap.get?_push_size
def qM:=@PySem.wpAny_mono
def qN:=@PySem.wpAny_call_entry
def qO:=@of_decide_eq_true
def O{α:Sort u}{a:α}:a=a:=rfl
def qe:=@Nat.le_refl
def qf:=@List.mem_map
def qg:=@Nat.le_trans
def qh:=@List.getElem?_eq_getElem
def qi:=@List.length_append
def qj:=@List.length_map
def qk:=@List.getElem?_eq_some_iff
def qm:=@List.mem_cons_self
def qo:=@List.mem_range
def qp:=@Nat.ne_of_lt
def qr:=@Bool.false_ne_true
def qt:=@List.length_singleton
def qu:=@List.getElem?_map
def qv:=@Nat.zero_le
def qw:=@List.mem_of_getElem?
def qx:=@List.mem_singleton
def qy:=@List.mem_cons_of_mem
def qz:=@List.take_add_one
def q0:=@List.mem_cons
def zd:=@List.length_cons
def ze:=@List.take_length
def zf:=@Nat.lt_of_lt_of_le
def zg:=@List.size_toArray
def zh:=@List.mem_append
def zk:=@List.mem_filter
def zm:=@List.getD_eq_getElem?_getD
def zn:=@List.map_cons
def zo:=@List.length_range
def zt:=@Bool.and_eq_true
def zu:=@Nat.ne_of_gt
def zv:=@List.getElem?_append_left
def zx:=@Array.length_toList
def zy:=@List.mem_append_right
def z6:=@List.nodup_cons
def z7:=@List.map_append
def z8:=@List.mem_iff_getElem
def z9:=@List.map_map
def wb:=@List.pairwise_map
def we:=@List.length_filter_le
def wg:=@List.mem_append_left
def wj:=@Option.map_eq_some_iff
def wt:=@List.nodup_append
def wu:=@Nat.lt_irrefl
def wv:=@List.length_take
def ww:=@Nat.le_of_lt
def wx:=@List.append_nil
def wz:=@List.nil_append
def vd:=@List.length_reverse
def vi:=@List.nodup_nil
def vj:=@Nat.not_lt_zero
def vy:=@List.pairwise_cons
def v9:=@List.getElem?_eq_none
def yb:=@Nat.min_le_left
def yc:=@List.ext_getElem?
def yd:=@List.find?_cons
def ye:=@List.getElem?_append_right
def yf:=@List.length_drop
def yg:=@List.filter_append
def yh:=@List.mem_reverse
def yi:=@List.range_succ
def yj:=@List.mem_of_mem_take
def yk:=@List.append_assoc
def ym:=@Array.getElem?_toList
def yn:=@Nat.lt_succ_of_lt
def yo:=@Nat.lt_succ_self
def yq:=@List.getElem?_range
def yr:=@List.take_of_length_le
def yt:=@List.length_nil
def yu:=@List.map_congr_left
def yv:=@List.filter_nil
def yw:=@Array.getElem?_eq_getElem
def yx:=@List.length_eq_zero_iff
def yy:=@List.getElem?_set_ne
def yz:=@List.any_eq_true
def y0:=@List.getElem_mem
def ja:=@Nat.zero_add
def jb:=@List.eq_nil_or_concat
def jc:=@List.concat_eq_append
def jd:=@List.filter_cons_of_pos
def je:=@List.filter_cons_of_neg
def jf:=@List.getElem?_of_mem
def jg:=@Bool.eq_iff_iff
def jh:=@Nat.min_le_right
def ji:=@List.replicate_succ
def jj:=@Nat.lt_of_le_of_lt
def jk:=@Array.getD_eq_getD_getElem?
def jl:=@Nat.lt_or_ge
def jm:=@List.drop_eq_getElem_cons
def jn:=@Nat.le_of_ble_eq_true
def jo:=@List.mem_filterMap
def jp:=@List.flatten_cons
def jq:=@Option.map_some
def jr:=@Nat.lt_trans
def jt:=@Nat.le_succ
def ju:=@Nat.sub_zero
def jv:=@List.pairwise_iff_getElem
def jw:=@List.find?_eq_none
def jx:=@List.mem_of_find?_eq_some
def jy:=@List.reverse_append
def jz:=@List.foldl_append
def j0:=@Nat.le_succ_of_le
def j3:=@Nat.succ_le_succ
def j4:=@List.getElem_inj
def j5:=@Array.mem_toList_iff
def j6:=@List.length_replicate
def j7:=@List.map_nil
def j8:=@List.foldl_cons
def j9:=@List.any_cons
def gf:=@List.lookup_cons
def gg:=@Nat.succ_ne_self
def gh:=@Nat.sub_self
def gj:=@Bool.eq_false_iff
def gr:=@List.mem_of_mem_drop
def gw:=@List.forall_mem_cons
def g0:=@List.filterMap_cons
def kg:=@List.of_mem_zip
def kh:=@Option.isSome_iff_exists
def ki:=@List.getElem?_take_of_lt
def kj:=@List.take_sublist
def kx:=@Bool.and_false
def kz:=@List.forIn_cons
def me:=@List.reverse_cons
def mf:=@List.not_lt
def mh:=@Array.toList_inj
def mi:=@Bool.and_true
def mj:=@Array.forIn_toList
def mo:=@List.findIdx?_eq_some_iff_getElem
def mr:=@List.getElem?_inj
def mw:=@List.filter_eq_nil_iff
def mx:=@List.all_eq_true
def mz:=@List.getElem?_eq_none_iff
def m3:=@List.pairwise_singleton
def m6:=@List.filter_congr
def m7:=@List.nodup_iff_pairwise_ne
def m8:=@List.filter_sublist
def m9:=@List.length_pos_iff
def ng:=@Array.append_assoc
def nh:=@List.getElem?_set_self
def ni:=@List.any_eq_false
def nj:=@List.zip_cons_cons
def nr:=@List.getElem_toArray
def nv:=@List.drop_of_length_le
def nw:=@List.range_succ_eq_map
def n0:=@List.findIdx?_eq_none_iff
def bc:=@List.range_eq_range'
def bd:=@List.mem_range'_1
def be:=@List.filter_reverse
def bf:=@Nat.lt_of_succ_lt_succ
def bg:=@Array.getElem?_eq_none
def bi:=@Nat.pow_le_pow_right
def bj:=@List.pairwise_append
def bn:=@List.append_of_mem
def bp:=@List.getElem?_drop
def bu:=@List.countP_pos_iff
def bv:=@List.idxOf_lt_length_of_mem
def bw:=@List.filter_filter
def bx:=@List.mem_of_mem_head?
def bz:=@Option.toList_some
def re:=@List.head?_eq_getElem?
def rg:=@List.flatMap_append
def rh:=@List.take_append_drop
def rj:=@Option.ne_none_iff_exists'
def r8:=@List.mem_take_iff_getElem
def tf:=@List.dropLast_concat
def tz:=@List.getElem?_reverse
def ub:=@List.mem_of_elem_eq_true
namespace L2
open PySem PySem.Spec PyProof.Rows
def RJ{P:List MD->Prop}(h:P [])(u:List MD)(l:u.length=0):P u:=do-u;h;-l
def ll{P:List MD->Prop}(h:∀a,P [a])(u:List MD)(l:u.length=1):P u:=do-u;-l;RJ (P:=λx=>P (_::x)) (h _) _ (Nat.succ.inj l)
def ip{P:List MD->Prop}(h:∀a b,P [a,b])(u:List MD)(l:u.length=2):P u:=do-u;-l;ll (P:=λx=>P (_::x)) (h _) _ (Nat.succ.inj l)
def uY{P:List MD->Prop}(h:∀a b c,P [a,b,c])(u:List MD)(l:u.length=3):P u:=do-u;-l;ip (P:=λx=>P (_::x)) (h _) _ (Nat.succ.inj l)
def vY{P:List MD->Prop}(h:∀a b c d,P [a,b,c,d])(u:List MD)(l:u.length=4):P u:=do-u;-l;uY (P:=λx=>P (_::x)) (h _) _ (Nat.succ.inj l)
def Sl{P:List MD->Prop}(h:∀a b c d e,P [a,b,c,d,e])(u:List MD)(l:u.length=5):P u:=do-u;-l;vY (P:=λx=>P (_::x)) (h _) _ (Nat.succ.inj l)
def RQ{P:List MD->Prop}(h:∀a b c d e f,P [a,b,c,d,e,f])(u:List MD)(l:u.length=6):P u:=do-u;-l;Sl (P:=λx=>P (_::x)) (h _) _ (Nat.succ.inj l)
abbrev Key:=Sum Int Sy
def fP:Key->MD->Bool|.inl k,v=>Value.isInt k v|.inr x,v=>Value.isStrOf x v
def QB(w:World):Key->Int|.inl k=>hashInt k|.inr x=>hashStr w x
def fV:∀{k:Key} {v:MD},fP k v=true->(∃i t,k=Sum.inl i/\v=Value.int i t)\/(∃x t,k=Sum.inr x/\v=Value.str x t)|.inl i,v,h=>(do _;{t,e}:=Value.isInt_shape (k:=i) (v:=v) h;.inl {i,t,O,e})|.inr x,v,h=>do _;{t,e}:=Value.isStrOf_shape (x:=x) (v:=v) h;.inr {x,t,O,e}
def P2(i:Int)(t:Tok):fP (.inl i) (.int i t)=true:=do#[fP,Value.isInt]
def Of(x:Sy)(t:Tok):fP (.inr x) (.str x t)=true:=do#[fP,Value.isStrOf]
def BW(a b:Int):decide ((Sum.inl a:Key)=Sum.inl b)=(a==b):=do e<|a=b;!e;0;h:¬(Sum.inl a:Key)=Sum.inl b:=λq=>e (Sum.inl.inj q);[decide_eq_false h];(beq_eq_false_iff_ne.mpr e).symm
def D7(a b:Sy):decide ((Sum.inr a:Key)=Sum.inr b)=decide (a=b):=do e<|a=b;!e;0;h:¬(Sum.inr a:Key)=Sum.inr b:=λq=>e (Sum.inr.inj q);[decide_eq_false h,decide_eq_false e]
def ET(a:Int)(b:Sy):decide ((Sum.inl a:Key)=Sum.inr b)=false:=decide_eq_false (λq=>nomatch q)
def Cq(a:Sy)(b:Int):decide ((Sum.inr a:Key)=Sum.inl b)=false:=decide_eq_false (λq=>nomatch q)
def ah(prog:Program)(w:World):PySem.KeyKind prog w Key where
 is:=fP
 hash:=QB w
 inj:=λv a b f d=>by
  rcases fV f with⟨i,t,rfl,rfl⟩|⟨x,t,rfl,rfl⟩
  .rcases fV d with⟨j,u,rfl,e⟩|⟨y,u,rfl,e⟩
   .injection e with e1 _;rw[e1]
   .exact nomatch e
  .rcases fV d with⟨j,u,rfl,e⟩|⟨y,u,rfl,e⟩
   .exact nomatch e
   .injection e with e1 _;rw[e1]
 byValue:=λk v h=>by
  rcases fV h with⟨i,t,rfl,rfl⟩|⟨x,t,rfl,rfl⟩ <;> rfl
 pyHash:=λc h=>by
  rcases fV c with⟨i,t,rfl,rfl⟩|⟨x,t,rfl,rfl⟩
  .exact wpAny_pyHash_int h
  .exact wpAny_pyHash_str h
 eqBool:=λg c h=>by
  rcases fV g with⟨i,t,rfl,rfl⟩|⟨x,t,rfl,rfl⟩
  .rcases fV c with⟨j,u,rfl,rfl⟩|⟨y,u,rfl,rfl⟩
   .rw[BW]at h;exact wpAny_eqBool_int h
   .rw[ET]at h;exact SeqAt.EqAt.int_str i t y u _ _ _ _ h
  .rcases fV c with⟨j,u,rfl,rfl⟩|⟨y,u,rfl,rfl⟩
   .rw[Cq]at h;exact SeqAt.EqAt.str_int x t j u _ _ _ _ h
   .rw[D7]at h;exact wpAny_eqBool_str h
 «strs»:=λk x t v h=>by
  rcases fV h with⟨i,u,rfl,e⟩|⟨y,u,rfl,e⟩
  .exact nomatch e
  .injection e with e1 _
   subst e1;cases v <;> rfl
def Oy(prog:Program)(w:World)(i:Int)(t:Tok):(ah prog w).is (.inl i) (.int i t)=true:=P2 i t
def NX(prog:Program)(w:World)(x:Sy)(t:Tok):(ah prog w).is (.inr x) (.str x t)=true:=Of x t
inductive V where
 |aQ|bl (b:Bool)|int (i:Int)|str (x:Sy)|oV (b:Array UInt8)|FK (b:UInt64)|ref (a:Sx)|ty (n:String)
 deriving DecidableEq
def RelV:V->MD->Prop|.aQ,u=>u=Value.none|.bl b,u=>u=Value.bool b|.int i,u=>∃t,u=Value.int i t|.str x,u=>∃t,u=Value.str x t|.oV b,u=>∃t,u=Value.bytes b t|.FK b,u=>∃t,u=Value.float b t|.ref a,u=>u=Value.ref a|.ty n,u=>u=Value.type n
abbrev aJ:List V->List MD->Prop:=Paired RelV
theorem aJ.length(r:aJ xs us):xs.length=us.length:=Paired.length r
theorem aJ.get:∀{xs:List V} {us:List MD} {i:Nat} {x:V},aJ xs us->xs[i]?=!x->∃u,us[i]?=!u/\RelV x u|_,_,_,_,.nil,e=>(do e←0)|_,_,0,_,.cons r _,e=>(do e←0;!e;{_,O,r})|_,_,i+1,x,.cons _ t,e=>do _;{u,h1,h2}:=aJ.get (i:=i) (x:=x) t (do 0<|e);{u,do 0<|h1,h2}
theorem aJ.set(r:RelV x u):∀{xs:List V} {us:List MD} (i:Nat),aJ xs us->aJ (xs.set i x) (us.set i u)|_,_,_,.nil=>.nil|_,_,0,.cons _ t=>.cons r t|_,_,i+1,.cons q t=>.cons q (aJ.set r i t)
theorem aJ.append:∀{xs ys:List V} {us ws:List MD},aJ xs us->aJ ys ws->aJ (xs++ys) (us++ws)|_,_,_,_,.nil,s=>s|_,_,_,_,.cons r t,s=>.cons r (aJ.append t s)
theorem aJ.take:∀{xs:List V} {us:List MD} (n:Nat),aJ xs us->aJ (xs.take n) (us.take n)|_,_,0,_=>.nil|_,_,_+1,.nil=>.nil|_,_,n+1,.cons r t=>.cons r (aJ.take n t)
theorem aJ.drop:∀{xs:List V} {us:List MD} (n:Nat),aJ xs us->aJ (xs.drop n) (us.drop n)|_,_,0,r=>r|_,_,_+1,.nil=>.nil|_,_,n+1,.cons _ t=>aJ.drop n t
def e_:Option V->Option MD->Prop|some v,!u=>RelV v u|none,none=>True|_,_=>False
def KV{κ:Type}:List (κ×V)->List (κ×MD)->Prop:=Paired λ(p:κ×V) (q:κ×MD)=>p.1=q.1/\RelV p.2 q.2
def kV:Key->V|.inl i=>.int i|.inr x=>.str x
inductive KD where
 |aQ
 |int (i:Int)
 |tup (ks:List Key)
 |two (ks ls:List Key)
deriving DecidableEq
def bO(P:Program)(w:World):KD->Int|.aQ=>4238894112|.int i=>hashInt i|.tup ks=>(tupleKind (ah P w)).hash ks|.two ks ls=>reduceHash (Builtin.Tuple.tupleHashOf [(tupleKind (ah P w)).hash ks,(tupleKind (ah P w)).hash ls])
def dQ(P:Program)(w:World)(x:KD×MD×MD):DictEntry:={bO P w x.1,x.2.1,x.2.2}
inductive HO where
 |lst (xs:List V)
 |tup (xs:List V)
 |dK (kvs:List (Key×V))|dT (kvs:List (List Key×V))
 |dG (kvs:List (KD×V×V))
 |set (S:Int->Bool) (n:Nat)
 |ins (C dx:Sx) (fs:List (Sy×V))
 |own (x:Sx)
 |xd (fs:List (Sy×V))
 |met (f x:Sx)
 |PR (lo hi:Int)
 |cI (o:Obj) (u:HO)
 |cf (ps:Array MD)
 |ext (φ:Heap->Prop)
abbrev Hp:=Sx->Option HO
def GK(H:Hp):KD->V->Prop|.aQ,v=>v=.aQ|.int i,v=>v=.int i|.tup ks,v=>∃b,v=.ref b/\H b=!(.tup (ks.map kV))|.two ks ls,v=>∃b c d,v=.ref b/\H b=!(.tup [.ref c,.ref d])/\H c=!(.tup (ks.map kV))/\H d=!(.tup (ls.map kV))
def upd(H:Hp)(a:Sx)(o:HO):Hp:=λb=>if b=a then some o else H b
def aB:upd H a o a=!o:=do@upd;[qF rfl]
def ak(h:b≠a):upd H a o b=H b:=do@upd;[qB h]
def oE{H:Hp}{a b:Sx}{o u:HO}(h:H a=!o)(h':H b=!u)(d:o≠u):a≠b:=do(e);!e;h'←[h];d (qJ h')
def aZ{H:Hp}{a b:Sx}{o:HO}(h:H a=!o)(h':H b=none):a≠b:=do(e);!e;h'←[h];-h'
section
variable (P:Program)(w:World)
def aS(H:Hp)(h:Heap)(a:Sx):HO->Prop|.lst xs=>xs.length<=sizeLine/\∃(its:List MD) (n:Nat),aJ xs its/\h.get? a=some {cls:=.type "list",data:=.seq its.toArray n}|.tup xs=>xs.length<=sizeLine/\∃its:List MD,aJ xs its/\IsTup h a its.toArray|.dK kvs=>kvs.length<=sizeLine/\(a==sysModules)=false/\∃vs,KV kvs vs/\h.DictOf (ah P w) a vs|.dT kvs=>kvs.length<=sizeLine/\(a==sysModules)=false/\∃xs:List (List Key×Sx×MD),Paired (λ(p:List Key×V) (q:List Key×Sx×MD)=>p.1=q.1/\H q.2.1=!(.tup (p.1.map kV))/\RelV p.2 q.2.2) kvs xs ∧ ∃o es ep,h.get? a=!o/\o.ExactDict/\o.data=.dict es ep/\es.toList=xs.map (entryOfKey (tupleKind (ah P w)))/\(xs.map (·.1)).Nodup|.dG kvs=>kvs.length<=sizeLine/\(a==sysModules)=false/\∃xs:List (KD×MD×MD),Paired (λ(p:KD×V×V) (q:KD×MD×MD)=>p.1=q.1/\GK H p.1 p.2.1/\RelV p.2.1 q.2.1/\RelV p.2.2 q.2.2) kvs xs ∧ ∃o es ep,h.get? a=!o/\o.ExactDict/\o.data=.dict es ep/\es.toList=xs.map (dQ P w)/\(xs.map (·.1)).Nodup|.set S n=>h.SetOf (intKind P w) a S n|.ins C dx fs=>H dx=!(.own a)/\fs.length<=1000/\dx≠a/\h.get? a=some (PySem.W.instObj C dx) ∧ ∃b,h.Ns1 dx b/\(∀f,e_ (fs.lookup f) (b f))/\PySem.Within b (fs.map (·.1))|.own _=>∃o,h.get? a=!o|.xd fs=>∃b,h.Ns1 a b/\∀f,e_ (fs.lookup f) (b f)|.PR lo hi=>∃t u v,h.get? a=some {cls:=.type "range",data:=.fields #[.int lo t,.int hi u,.int 1 v]}|.cI o u=>h.get? a=!o/\aS H h a u|.cf ps=>h.get? a=some {cls:=.none,data:=.fields ps}|.met f x=>h.get? a=!(PySem.W.methodObj (.ref f) (.ref x))|.ext φ=>φ h/\(∃o,h.get? a=!o)/\∀h1 h2:Heap,φ h1->(∀o,h1.get? a=!o->h2.get? a=!o)->φ h2
def dn(H:Hp)(h:Heap):Prop:=∀a o,H a=!o->aS P w H h a o
end
section
variable {P:Program}{w:World}{H H':Hp}{h h':Heap}{a:Sx}{o:HO}
theorem aS.lt(x:aS P w H h a o):a<h.objs.size:=do(by cases o with|lst xs|tup xs|dK kvs|dT kvs|dG kvs|set S n|ins C dx fs|own y|xd fs|PR lo hi|cI ob u|cf ps|met f y|ext b=>?_);{_,_,_,_,e}:=x;qG e;{_,_,_,p}:=x;p.lt;{_,_,_,_,o,_,_,e,_}:=x;qG e;{_,_,_,_,o,_,_,e,_}:=x;qG e;{_,_,_,_,o,_,_,e,_}:=x;qG e;{o,_,_,_,e,_}:=x;qG e;{_,_,_,e,_}:=x;qG e;{_,e}:=x;qG e;{_,{_,_,_,e,_},_}:=x;qG e;{_,_,_,e}:=x;qG e;{e,_}:=x;qG e;qG (show h.get? a=some _ from x);qG (show h.get? a=some _ from x);{_,{_,e},_}:=x;qG e
theorem Paired.k_{α β:Type}{F G:α->β->Prop}:∀{l₁:List α} {c:List β},Paired F l₁ c->(∀a b,F a b->G a b)->Paired G l₁ c|_,_,.nil,_=>.nil|_,_,.cons r t,f=>.cons (f _ _ r) (Paired.k_ t f)
def GK.cQ(g:GK H k v)(a:∀b xs,H b=!(.tup xs)->H' b=!(.tup xs)):GK H' k v:=do(by cases k with|aQ|int i|tup ks|two ks ls=>?_);g;g;{b,e,h}:=g;{b,e,a _ _ h};{b,c,d,e,h1,h2,f}:=g;{b,c,d,e,a _ _ h1,a _ _ h2,a _ _ f}
theorem aS.cQ(x:aS P w H h a o)(k:∀b u,(b=a\/H b=!(.own a))->h.get? b=!u->h'.get? b=!u)(j:∀b,H b=!(.own a)->H' b=!(.own a))(i:∀b xs,H b=!(.tup xs)->H' b=!(.tup xs)):aS P w H' h' a o:=do(by induction o with|lst xs|tup xs|dK kvs|dT kvs|dG kvs|set S n|ins C dx fs|own y|xd fs|PR lo hi|cI ob u l|cf ps|met f y|ext s=>?_);{z,its,n,r,e}:=x;{z,its,n,r,k _ _ (.inl rfl) e};{z,its,r,ob,e,c}:=x;{z,its,r,ob,k _ _ (.inl rfl) e,c};{z,y,vs,r,ob,es,ep,e,c}:=x;{z,y,vs,r,ob,es,ep,k _ _ (.inl rfl) e,c};{z,y,xs,r,ob,es,ep,e,c}:=x;{z,y,xs,Paired.k_ r λp q z=>{z.1,i _ _ z.2.1,z.2.2},ob,es,ep,k _ _ (.inl rfl) e,c};{z,y,xs,r,ob,es,ep,e,c}:=x;{z,y,xs,Paired.k_ r λp q z=>{z.1,z.2.1.cQ i,z.2.2},ob,es,ep,k _ _ (.inl rfl) e,c};{ob,es,ep,t,e,c}:=x;{ob,es,ep,t,k _ _ (.inl rfl) e,c};{d,z,ne,e,g,{od,es,ep,m,c},r}:=x;{j _ d,z,ne,k _ _ (.inl rfl) e,g,{od,es,ep,k _ _ (.inr d) m,c},r};{ob,e}:=x;{ob,k _ _ (.inl rfl) e};{g,{od,es,ep,e,c},r}:=x;{g,{od,es,ep,k _ _ (.inl rfl) e,c},r};{t,u,v,e}:=x;{t,u,v,k _ _ (.inl rfl) e};{e,q}:=x;{k _ _ (.inl rfl) e,l q};e:h.get? a=some {cls:=.none,data:=.fields ps}:=x;¬h'.get? a=some {cls:=.none,data:=.fields ps};k a _ (.inl rfl) e;e:h.get? a=!(PySem.W.methodObj (.ref f) (.ref y)):=x;¬h'.get? a=!(PySem.W.methodObj (.ref f) (.ref y));k a _ (.inl rfl) e;{p,{o,e},st}:=x;{st _ _ p λo q=>k _ _ (.inl rfl) q,{o,k _ _ (.inl rfl) e},st}
theorem dn.lt(x:dn P w H h)(e:H a=!o):a<h.objs.size:=(x a o e).lt
def dn.fresh(x:dn P w H h)(e:h.objs.size<=a):H a=none:=do(by cases q:H a with|none|some u=>?_);2;absurd (zf (x.lt q) e) (wu _)
def dn.kept(x:dn P w H h)(k:∀b u,h.get? b=!u->h'.get? b=!u):dn P w H h':=λa o e => (x a o e).cQ (λb u _ q=>k b u q) (λ_ q=>q) λ_ _ q=>q
def dn.laid(x:dn P w H h)(k:∀b u,h.get? b=!u->h'.get? b=!u)(hp:h.objs.size<=a)(new:aS P w (upd H a o) h' a o):dn P w (upd H a o) h':=λb u e=>do hn:=x.fresh hp;d<|b=a;!d;e←[aB];-e;new;e←[ak d];(x b u e).cQ (λc v _ q=>k c v q) (λc q=>do[ak (aZ q hn)];q) λc xs q=>do[ak (aZ q hn)];q
end
def Rd(H:Hp)(a:Sx)(u:HO):Prop:=H a=!u\/∃o,H a=!(.cI o u)
def Rd.of(h:H a=!u):Rd H a u:=.inl h
def Rd.ok(r:Rd H a u)(x:dn P w H h):aS P w H h a u:=do r||{o,r}:=r;x a u r;{_,q}:=x a _ r;q
def J5:Option HO->Prop|some (.lst _)=>True|some (.dK _)=>True|some (.dT _)=>True|some (.dG _)=>True|some (.set _ _)=>True|some (.ins _ _ _)=>True|some (.ext _)=>True|_=>False
section
variable {P:Program}{w:World}{H:Hp}{h h':Heap}{x e:Sx}{o':HO}
def dn.write(ok:dn P w H h)(j:J5 (H x))(m:e=x\/H e=!(.own x))(k:∀b u,b≠e->h.get? b=!u->h'.get? b=!u)(l:∃u,h'.get? e=!u)(new:aS P w (upd H x o') h' x o'):dn P w (upd H x o') h':=λb u q=>do d:∀c y,H c=!(.own y)->c≠x:=λc y r z=>(do !z;j←[r];j);f:∀c xs,H c=!(.tup xs)->c≠x:=λc xs r z=>(do !z;j←[r];j);i<|b=x;!i;q←[aB];-q;new;q←[ak i];a<|b=e;n:H b=!(.own x):=(do z||z:=m;absurd (a.trans z) i;[a];z);n←[q];-n;{v,o}:=l;{v,do[a];o};(ok b u q).cQ (λc v g r=>k c v ?_ r) (λc r=>do[ak (d c b r)];r) λc xs r=>(do[ak (f c xs r)];r);rfl||g:=g;a;(rfl);z||z:=m;d c b g z;z←[g];-z;i rfl
end
structure Un(fs ex:List Sx)(H H':Hp)(h h':Heap):Prop where
 keep:∀b o,h.get? b=!o->H b=none->b∉fs->b∉ex->h'.get? b=!o
 slot:∀b o,h.get? b=!o->H b=none->b∈fs->b∉ex->∃sl,h'.get? b=some { o with slots:=sl }
 free:∀b o,h.get? b=!o->H b=none->b∉ex->H' b=none
 there:∀b o,h.get? b=!o->b∉ex->∃o',h'.get? b=!o'
 ab:∀b xs,H b=!(.tup xs)->H' b=!(.tup xs)
 dP:∀b o u,H b=!(.cI o u)->H' b=!(.cI o u)
 dR:∀b ps,H b=!(.cf ps)->∃more,H' b=!(.cf (ps++more))
 dM:∀b o xs,h.get? b=!o->H b=!(.tup xs)->h'.get? b=!o
section
variable {fs fs' ex ex':List Sx}{H H1 H2:Hp}{h h1 h2 h':Heap}{a x e:Sx}{o:HO}
def Un.any(u:Un fs ex H H1 h h1)(q:h.get? b=!ob)(n:H b=none)(c:b∉ex):∃sl,h1.get? b=some {ob with slots:=sl}:=do a<|b∈fs;u.slot b ob q n a c;{ob.slots,u.keep b ob q n a c}
def Un.trans(a:Un fs ex H H1 h h1)(b:Un fs ex H1 H2 h1 h2):Un fs ex H H2 h h2 where
 keep:=λc ob q n f d=>b.keep c ob (a.keep c ob q n f d) (a.free c ob q n d) f d
 slot:=λc ob q n f d=>by
  obtain⟨sl,e⟩:=a.slot c ob q n f d;obtain⟨g,i⟩:=b.slot c _ e (a.free c ob q n d) f d;exact{g,i}
 free:=λc ob q n d=>by
  obtain⟨o',e⟩:=a.there c ob q d;exact b.free c o' e (a.free c ob q n d) d
 there:=λc ob q d=>by
  obtain⟨o',e⟩:=a.there c ob q d;exact b.there c o' e d
 ab:=λc xs q=>b.ab c xs (a.ab c xs q)
 dP:=λc ob xs q=>b.dP c ob xs (a.dP c ob xs q)
 dR:=λc ps q=>by
  obtain⟨k,e⟩:=a.dR c ps q;obtain⟨j,i⟩:=b.dR c _ e;exact{k++j,by rw[i,ng]}
 dM:=λc ob xs q n=>b.dM c ob xs (a.dM c ob xs q n) (a.ab c xs n)
def Un.kept(k:∀b u,h.get? b=!u->h'.get? b=!u):Un fs ex H H h h' := {λb ob q _ _ _=>k b ob q,λb ob q _ _ _=>{ob.slots,k b ob q},λ_ _ _ n _=>n,λb ob q _=>{ob,k b ob q},λ_ _ q=>q,λ_ _ _ q=>q,λ_ ps q=>{#[],do[q];0},λb ob _ q _=>k b ob q}
def Un.refl:Un fs ex H H h h:=Un.kept λ_ _ q=>q
def Un.laid(k:∀b u,h.get? b=!u->h'.get? b=!u)(hp:h.objs.size<=a)(hn:H a=none):Un fs ex H (upd H a o) h h' where
 keep:=λb u q _ _ _=>k b u q
 slot:=λb u q _ _ _=>{u.slots,k b u q}
 free:=λb u q n _=>by rw[ak (qp (zf (qG q) hp))];exact n
 there:=λb u q _=>{u,k b u q}
 ab:=λb xs q=>by rw[ak (aZ q hn)];exact q
 dP:=λb u xs q=>by rw[ak (aZ q hn)];exact q
 dR:=λb ps q=>{#[],by rw[ak (aZ q hn),q];simp}
 dM:=λb u _ q _=>k b u q
def Un.write(d:J5 (H x))(g:e=x\/H e=!(.own x))(k:∀b u,b≠e->h.get? b=!u->h'.get? b=!u)(f:∃u,h'.get? e=!u):Un fs ex H (upd H x o) h h':=do i:∀b,H b=none->b≠x:=λb n z=>(do !z;d←[n];d);j:∀b,H b=none->b≠e:=λb n z=>(do !z;r||r:=g;i b n r;r←[n];-r);c:∀b u,H b=!u->¬J5 (!u)->b≠x:=λb u q l z=>(do !z;d←[q];l d);{λb u q n _ _=>k b u (j b n) q,λb u q n _ _=>{u.slots,k b u (j b n) q},λb u q n _=>do[ak (i b n)];n,λb u q _=>?_,λb xs q=>do[ak (c b _ q λz=>z)];q,λb u xs q=>do[ak (c b _ q λz=>z)];q,λb ps q=>{#[],do[ak (c b _ q λz=>z),q];0},λb u xs q n=>k b u (λz=>do !z;r||r:=g;c b _ n (λz=>z) r;r←[n];-r) q};a<|b=e;!a;f;{u,k b u a q}
end
def L_(h:Heap)(H:Hp):List Sx:=(List.range h.objs.size).filter λa=>(H a).isSome
def gO(h:Heap)(H:Hp):Heap:=PySem.W.hideAll h (L_ h H)
def OH(h:Heap)(H:Hp):(gO h H).objs.size=h.objs.size:=PySem.W.hideAll_size _ _
def Ow(e:h.get? b=!o)(n:H b=none):(gO h H).get? b=some o := PySem.W.hideAll_get _ e λa=>do q:(H b).isSome=true:=(zk.mp a).2;q←[n];q←0
def Ob(e:(gO h H).get? b=!o):h.get? b=!o/\H b=none:=do a:h.get? b=!o:=PySem.W.of_hideAll (L_ h H) e;{a,?_};(by cases q:H b with|none|some x=>?_);2;c:b∈L_ h H:=List.mem_filter.mpr {List.mem_range.mpr (qG a),do#[q]};z:(gO h H).get? b=none:=PySem.W.hideAll_none (L_ h H) c;e←[z];-e
structure Mod(K:PySem.W.Frag)(mg:Sy->Option MD)(base:Heap):Prop where
 LQ:K.In base
 glob:base.Ns mainGlobals mg
 blt:∃mb,base.Ns builtinsNs mb/\∀x:Sy,x≠"__name__"->mb x=bootBuiltins x
 nolimit:base.NoLimit
structure Cx where
 prog:Program
 w:World
 K:PySem.W.Frag
 mg:Sy->Option MD
 base:Heap
 A:Around
 N:List Sy
 s₀:Sv
 H₀:Hp
 env:Env
 outer:List Env
 stack:List Env
 ex:List Sx
 fn:Sy->Bool
 calm:Bool
 pn:List (Sx×Obj)
 xe:KE
def d_(l:List Env):List Sx:=l.filterMap (·.frame)
abbrev Cx.fs(X:Cx):List Sx:=d_ X.outer
def L0(a:Scope)(x:Sy):Prop:=a.names.lookup x=some .local\/a.names.lookup x=some .cell\/a.names.lookup x=some .free
def Loc(a:Scope)(x:Sy):Prop:=a.names.lookup x=some .local\/a.names.lookup x=some .cell
def Look(env:Env)(h:Heap)(m:Sy->Option MD)(x:Sy)(u:MD):Prop := (env.kindOf x=some .local/\m x=!u)\/((env.kindOf x=some .cell\/env.kindOf x=some .free)/\∃c,env.cells.lookup x=!c/\h.IsCell c (!u))
structure Cx.Ok(X:Cx):Prop where
 mod:Mod X.K X.mg X.base
 kind:X.env.scope.kind=.function
 glob:X.env.globals=mainGlobals
 blt:X.env.builtins=builtinsNs
 above:X.s₀.heap.objs.size<=X.env.locals
 inj:∀x y c,X.env.cells.lookup x=!c->X.env.cells.lookup y=!c->x=y
 has:∀x,(X.env.kindOf x=some .cell\/X.env.kindOf x=some .free)->∃c,X.env.cells.lookup x=!c
 zR:∀x c,X.fn x=true->X.env.cells.lookup x=!c->X.s₀.heap.objs.size<=c
 hd:X.calm=true->X.A.handled=none
 frames:X.A.frames=!X.stack
 Mg:X.stack=X.outer\/(X.stack=X.env::X.outer/\X.env.frame=!X.env.locals)
 Ru:∀b∈X.ex,b≠X.env.locals/\∀x c,X.env.cells.lookup x=!c->c≠b
 bs:∀b o,X.base.get? b=!o->X.s₀.heap.get? b=!o/\(X.H₀ b=none\/∃xs,X.H₀ b=!(.tup xs))
 tN:X.base.objs.size<=X.s₀.heap.objs.size
 sM:∀b o,X.base.get? b=!o->b∉X.ex
 xg:∀b∈X.ex,b∉X.fs
 ee:X.s₀.heap.FunFrames X.base X.outer
 xJ:∀b∈X.fs,X.H₀ b=none
structure Inv(X:Cx)(pins:List (Sx×Obj))(σ:List (Option V))(H:Hp)(s:Sv):Prop where
 ok:X.Ok
 os:s.os=X.s₀.os
 bare:AllBare s.gens
 base:Un X.fs X.ex X.H₀ H X.s₀.heap s.heap
 loc:∃m,s.heap.Ns X.env.locals m/\∀(i:Nat) (x:Sy) (v:V),X.N[i]?=!x->σ[i]?=!(!v)->L0 X.env.scope x->∃u,RelV v u/\Look X.env s.heap m x u
 cell:∀x c,X.env.cells.lookup x=!c->∃v,s.heap.IsCell c v
 free:H X.env.locals=none
 du:∀x c,X.env.cells.lookup x=!c->H c=none
 pin:∀p∈X.pn++pins,s.heap.get? p.1=!p.2/\H p.1=none/\p.1≠X.env.locals/\p.1∉X.fs/\∀v,p.2.data≠.cell v
 aR:dn X.prog X.w H s.heap
 len:σ.length=X.N.length
section
variable {X:Cx}{pins:List (Sx×Obj)}{σ:List (Option V)}{H H':Hp}{s:Sv}{h':Heap}
def Cx.Ok.M_(ok:X.Ok)(e:X.base.get? b=!o):b∉X.fs:=λa=>do this:=(ok.ee.mem a).1;this←[e];-this
theorem Inv.bs(I:Inv X pins σ H s):∀b o,X.base.get? b=!o->s.heap.get? b=!o/\(H b=none\/∃xs,H b=!(.tup xs)):=λb o e => match I.ok.bs b o e with|⟨h1,.inl h2⟩=>{I.base.keep b o h1 h2 (I.ok.M_ e) (I.ok.sM b o e),.inl (I.base.free b o h1 h2 (I.ok.sM b o e))}|⟨h1,.inr ⟨xs,h2⟩⟩=>{I.base.dM b o xs h1 h2,.inr {xs,I.base.ab b xs h2}}
def Inv.bk(I:Inv X pins σ H s):∀b o,X.base.get? b=!o->s.heap.get? b=!o:=λb o e=>(I.bs b o e).1
theorem Inv.mod(I:Inv X pins σ H s):Mod X.K X.mg X.base:=I.ok.mod
def Inv.lY(I:Inv X pins σ H s):X.K.In s.heap:=I.ok.mod.LQ.keeps I.bk
theorem Inv.lt(I:Inv X pins σ H s):X.env.locals<↑s:=let⟨_,hn,_⟩:=I.loc;hn.lt
def Inv.sz(I:Inv X pins σ H s):X.s₀.heap.objs.size<=↑s:=qg I.ok.above (ww I.lt)
def Inv.vO(I:Inv X pins σ H s){a:Sx}(h:↑s<=a):a∉X.fs:=λb=>do _;{_,o,c,_}:=I.ok.ee.mem b;absurd (zf (qG c) (qg I.sz h)) (wu _)
def Inv.xF(I:Inv X pins σ H s):∀x c,X.env.cells.lookup x=!c->c≠X.env.locals:=λx c e z=>do _;{v,o,d,f}:=I.cell x c e;{m,{o',es,ep,a,b,_},_}:=I.loc;d←[z,a];-d;f←[b];-f
theorem Inv.ee(I:Inv X pins σ H s):s.heap.FunFrames X.base X.outer:=do all:∀(l:List Env),(∀b∈d_ l,b∈X.fs)->X.s₀.heap.FunFrames X.base l->s.heap.FunFrames X.base l:=(do(l);(by induction l with|nil|cons env r k=>?_);(_,_);(by trivial);(f,i);{h,{L,o,d,hn,j,g},m}:=i;c:L∈X.fs:=f L (do@d_;[g0,d];qm);{sl,e}:=I.base.slot L o j (I.ok.xJ L c) c λz=>I.ok.xg L z c;{h,{L,_,d,hn,e,g},k (λb a=>f b (do@d_;[g0,d];qy _ a)) m});all X.outer (λ_ a=>a) I.ok.ee
theorem Inv.stack(I:Inv X pins σ H s):s.heap.FunFrames X.base X.stack:=do e||{e,hf}:=I.ok.Mg;[e];I.ee;[e];{m,hn,_}:=I.loc;.cons (by rw[I.ok.kind];decide) hf hn ?_ I.ee;Heap.get?_none_of_le (qg I.ok.tN I.ok.above)
def Inv.gU(I:Inv X pins σ H s):∀b∈d_ X.stack,b∈X.env.locals::X.fs:=λb a=>do e||{e,hf}:=I.ok.Mg;a←[e];qy _ a;a←[e];(by unfold d_ at a);a←[g0,hf];a
def Inv.oo(I:Inv X pins σ H s):∀b∈d_ X.stack,H b=none:=λb a=>do e||a:=q0.mp (I.gU b a);[e];I.free;{_,o,c,_}:=I.ok.ee.mem a;I.base.free b o c (I.ok.xJ b a) λz=>I.ok.xg b z a
def Inv.step{g':Array GenState}{t':Nat}{d':Drawn}{ch:List Sx}(I:Inv X pins σ H s)(f:∀b∈ch,(b∈X.ex\/X.s₀.heap.objs.size<=b)/\b≠X.env.locals/\(∀x c,X.env.cells.lookup x=!c->c≠b)/\∀p∈X.pn++pins,p.1≠b)(keep:∀b o,b≠X.env.locals->b∉X.fs->b∉ch->s.heap.get? b=!o->H b=none->h'.get? b=!o)(slot:∀b o,b≠X.env.locals->b∈X.fs->b∉ch->s.heap.get? b=!o->H b=none->∃sl,h'.get? b=some {o with slots:=sl})(free:∀b o,b∉ch->s.heap.get? b=!o->H b=none->H' b=none)(there:∀b o,b∉ch->s.heap.get? b=!o->∃o',h'.get? b=!o')(ab:∀b xs,H b=!(.tup xs)->H' b=!(.tup xs))(dP:∀b o u,H b=!(.cI o u)->H' b=!(.cI o u))(dR:∀b ps,H b=!(.cf ps)->∃more,H' b=!(.cf (ps++more)))(dM:∀b o xs,s.heap.get? b=!o->H b=!(.tup xs)->h'.get? b=!o)(ns:∀m,s.heap.Ns X.env.locals m->h'.Ns X.env.locals m)(D:dn X.prog X.w H' h')(O:AllBare g') : Inv X pins σ H' {s with heap:=h',gens:=g',drawn:=d',toks:=t'}:=do C:∀b o,X.s₀.heap.get? b=!o->b≠X.env.locals:=λb o e=>qp (zf (qG e) I.ok.above);t:∀b o,X.s₀.heap.get? b=!o->b∉X.ex->b∉ch:=λb o e a y=>(do z||z:=(f b y).1;a z;absurd (zf (qG e) z) (wu _));g:∀x c,X.env.cells.lookup x=!c->∀v,s.heap.IsCell c v->h'.IsCell c v:=λx c e v ⟨o,A,F⟩=>(do h:c∉ch:=λz=>(f c z).2.2.1 x c e rfl;J<|c∈X.fs;{sl,q}:=slot c o (I.xF x c e) J h A (I.du x c e);{_,q,F};{o,keep c o (I.xF x c e) J h A (I.du x c e),F});{I.ok,I.os,O,{λb o e n y a=>?_,λb o e n y a=>?_,λb o e n a=>?_,λb o e a=>?_,λb xs e=>ab b xs (I.base.ab b xs e),λb o xs e=>dP b o xs (I.base.dP b o xs e),λb ps e=>?_,λb o xs e n=>dM b o xs (I.base.dM b o xs e n) (I.base.ab b xs n)},?_,λx c e=>?_,?_,λx c e=>?_,λp hp=>?_,D,I.len};keep b o (C b o e) y (t b o e a) (I.base.keep b o e n y a) (I.base.free b o e n a);{sl,j}:=I.base.slot b o e n y a;{E,B}:=slot b _ (C b o e) y (t b o e a) j (I.base.free b o e n a);{E,B};{o',j}:=I.base.there b o e a;free b o' (t b o e a) j (I.base.free b o e n a);{o',j}:=I.base.there b o e a;there b o' (t b o e a) j;{K,j}:=I.base.dR b ps e;{M,B}:=dR b _ j;{K++M,do[B,ng]};{m,hn,N}:=I.loc;{m,ns m hn,λi x v j B L=>?_};{u,r,l}:=N i x v j B L;{u,r,?_};l||{k,c,e,z}:=l;.inl l;.inr ⟨k,c,e,g x c e _ z⟩;{v,z}:=I.cell x c e;{v,g x c e v z};{m,{o,_,_,A,_},_}:=I.loc;free _ o (λz=>(f _ z).2.1 rfl) A I.free;{v,o,A,F}:=I.cell x c e;free c o (λz=>(f c z).2.2.1 x c e rfl) A (I.du x c e);{e,n,ne,G,d}:=I.pin p hp;h:p.1∉ch:=λz=>(f p.1 z).2.2.2 p hp rfl;{keep p.1 p.2 ne G h e n,free p.1 p.2 h e n,ne,G,d}
def Inv.un(I:Inv X pins σ H s)(u:Un X.fs [] H H' s.heap h')(f:dn X.prog X.w H' h'):Inv X pins σ H' {s with heap:=h',toks:=t'}:=do _;{m,{o,es,ep,h,r},_}:=id I.loc;{sl,j}:=u.any h I.free (do 0);I.step (g':=s.gens) (d':=s.drawn) (ch:=[]) (λ_ z=>nomatch z) (λb o _ d _ e n=>u.keep b o e n d (do 0)) (λb o _ d _ e n=>u.slot b o e n d (do 0)) (λb o _ e n=>u.free b o e n (do 0)) (λb o _ e=>u.there b o e (do 0)) u.ab u.dP u.dR u.dM (λl i=>do _;{o',c,g,a,k}:=i;a←[h];-a;{_,c,g,j,k}) f I.bare
def Inv.call(I:Inv X pins σ H s)(u:Un (d_ X.stack) ch H H' s.heap h')(j:dn X.prog X.w H' h')(v:AllBare g')(d:∀b∈ch,(b∈X.ex\/X.s₀.heap.objs.size<=b)/\b≠X.env.locals/\(∀x c,X.env.cells.lookup x=!c->c≠b)/\∀p∈X.pn++pins,p.1≠b) : Inv X pins σ H' {s with heap:=h',gens:=g',drawn:=d',toks:=t'}:=do _;{m,{o,es,ep,k,r},_}:=id I.loc;{sl,i}:=u.any k I.free λz=>(d _ z).2.1 rfl;I.step (ch:=ch) d (λb o i q a e n=>u.keep b o e n (λz=>(q0.mp (I.gU b z)).elim i q) a) (λb o _ _ a e n=>u.any e n a) (λb o a e n=>u.free b o e n a) (λb o a e=>u.there b o e a) u.ab u.dP u.dR u.dM (λy l=>do _;{o',g,h,f,t}:=l;f←[k];-f;{_,g,h,i,t}) j v
def Inv.turned(I:Inv X pins σ H s)(k:∀b o,b≠it->s.heap.get? b=!o->h'.get? b=!o)(hn:H it=none)(f:it≠X.env.locals)(h1:it∈X.ex\/X.s₀.heap.objs.size<=it)(h2:∀x c,X.env.cells.lookup x=!c->c≠it)(i:∀p∈X.pn++pins,p.1≠it):Inv X pins σ H {s with heap:=h',toks:=t'}:=do d:∀b u,H b=!u->b≠it:=λb u e z=>(do e←[z,hn];-e);I.step (g':=s.gens) (d':=s.drawn) (ch:=[it]) (λb h=>?_) (λb o _ _ a e _=>k b o (λz=>a (do#[z])) e) (λb o _ _ a e _=>{o.slots,k b o (λz=>a (do#[z])) e}) (λ_ _ _ _ n=>n) (λb o a e=>{o,k b o (λz=>a (do#[z])) e}) (λ_ _ e=>e) (λ_ _ _ e=>e) (λb ps e=>{#[],do[e];0}) (λb o xs e n=>k b o (d b _ n) e) (λm g=>?_) (λb u e=>?_) I.bare;e:b=it:=(do 0<|h);!e;{h1,f,h2,i};{o,es,ep,j,r}:=g;{o,es,ep,k _ o (Ne.symm f) j,r};(I.aR b u e).cQ (λc v a q=>k c v ?_ q) (λ_ q=>q) λ_ _ q=>q;z||z:=a;[z];d b u e;d c _ z
def Inv.tok(I:Inv X pins σ H s)(t:Nat):Inv X pins σ H {s with toks:=t}:=I.un (h':=s.heap) (t':=t) Un.refl I.aR
theorem Inv.kept(I:Inv X pins σ H s)(k:∀b u,s.heap.get? b=!u->h'.get? b=!u):Inv X pins σ H {s with heap:=h',toks:=t'}:=I.un (Un.kept k) (I.aR.kept k)
theorem Inv.laid{a:Sx}{o:HO}{t':Nat}(I:Inv X pins σ H s)(k:∀b u,s.heap.get? b=!u->h'.get? b=!u)(hp:↑s<=a)(new:aS X.prog X.w (upd H a o) h' a o) : Inv X pins σ (upd H a o) {s with heap:=h',toks:=t'}:=I.un (Un.laid k hp (I.aR.fresh hp)) (I.aR.laid k hp new)
theorem Inv.write(I:Inv X pins σ H s)(d:J5 (H x))(c:e=x\/H e=!(.own x))(k:∀b u,b≠e->s.heap.get? b=!u->h'.get? b=!u)(a:∃u,h'.get? e=!u)(new:aS X.prog X.w (upd H x o) h' x o):Inv X pins σ (upd H x o) {s with heap:=h',toks:=t'}:=I.un (Un.write d c k a) (I.aR.write d c k a new)
def Inv.weak(I:Inv X pins σ H s)(c:σ'.length=σ.length)(w:∀(i:Nat) v,σ'[i]?=!(!v)->σ[i]?=!(!v)):Inv X pins σ' H s := {I.ok,I.os,I.bare,I.base,let⟨m,hn,a⟩:=I.loc;{m,hn,λi x v b e d=>a i x v b (w i v e) d},I.cell,I.free,I.du,I.pin,I.aR,c.trans I.len}
def Inv.gL(I:Inv X pins σ H s)(h:∀p∈pins',s.heap.get? p.1=!p.2/\H p.1=none/\p.1≠X.env.locals/\p.1∉X.fs/\∀v,p.2.data≠.cell v):Inv X pins' σ H s := {I.ok,I.os,I.bare,I.base,I.loc,I.cell,I.free,I.du,λp hp=>(zh.mp hp).elim (λz=>I.pin p (wg _ z)) (h p),I.aR,I.len}
def HV{N:List Sy}(e:N.Nodup){i j:Nat}{x:Sy}(a:N[i]?=!x)(b:N[j]?=!x):i=j:=do _;{h1,c}:=qk.mp a;{h2,d}:=qk.mp b;(j4 e).mp (c.trans d.symm)
def JC{A:Around}(I:Inv X pins σ H s)(hN:X.N.Nodup)(hi:X.N[i]?=!x)(B:Loc X.env.scope x)(r:RelV v u)(h:∀s',Inv X pins (σ.set i (!v)) H s'->(∃a,Heap.SameBut a s.heap s'.heap/\(a=X.env.locals\/X.env.cells.lookup x=!a))->Q Unit.unit s')(hf:X.fn x=true\/X.env.scope.names.lookup x=some .local:=by first|exact .inl rfl|exact .inr rfl|assumption):wpAny M A (storeName X.env x u) Q E s:=do _;{m,hn,hl}:=id I.loc;P:(X.env.scope.kind==.class||(X.env.scope.kind==.module&&X.env.locals != X.env.globals))=false:=(do[I.ok.kind];2);G:i<σ.length:=(do[I.len];(qk.mp hi).1);xF:=I.xF;l:∀{a:Sx} {h':Heap},(∃o,s.heap.get? a=!o/\H a=none)->Heap.SameBut a s.heap h'->dn X.prog X.w H h':=λ{a h'} ha f b ob e=>(do _;{_,_,C}:=ha;(I.aR b ob e).cQ (λc U t q=>(f.2 c ?_).trans q) (λ_ q=>q) λ_ _ q=>q;(rfl);rfl||t:=t;e←[C];-e;t←[C];-t);hk||hk:=B;wpAny_storeName_local hk hn (λh' Y f=>?_) P;{oL,_,_,W,_}:=id hn;h _ {I.ok,I.os,I.bare,{λb o e n K B=>?_,λb o e n K B=>?_,I.base.free,λb o e B=>?_,I.base.ab,I.base.dP,I.base.dR,λb o xs e n=>(f.2 b (Nat.ne_of_lt (Nat.lt_of_lt_of_le (qG e) I.ok.above))).trans (I.base.dM b o xs e n)},{_,Y,λj y Z g F e3=>?_},λy c e=>?_,I.free,I.du,λp hp=>?_,l {oL,W,I.free} f,do 0<|I.len} {_,f,.inl rfl};(f.2 b (qp (zf (qG e) I.ok.above))).trans (I.base.keep b o e n K B);{sl,g}:=I.base.slot b o e n K B;{sl,(f.2 b (qp (zf (qG e) I.ok.above))).trans g};{o',g}:=I.base.there b o e B;{o',(f.2 b (qp (zf (qG e) I.ok.above))).trans g};J<|j=i;!J;g←[hi];-g;F←[nh G];-F;{u,r,.inl {hk,do 0}};F←[yy (Ne.symm J)];{u',r',q}:=hl j y Z g F e3;{u',r',?_};{k,e}||{k,c,e,z}:=q;.inl ⟨k,?_⟩;this:y≠x:=λe=>J (HV hN g (e▸hi));#[this,e];.inr {k,c,e,z.sameBut f (xF y c e)};{U,z}:=I.cell y c e;{U,z.sameBut f (xF y c e)};{e,n,ne,nf,d}:=I.pin p hp;{(f.2 p.1 ne).trans e,n,ne,nf,d};D:X.fn x=true:=(do z||z:=hf;z;hk←[z];-hk);{c,t}:=I.ok.has x (.inl hk);{U,z}:=I.cell x c t;wpAny_storeName_cell I.ok.kind hk t z (λh' R f=>?_);{oc,S,L}:=id z;h {s with heap:=h'} {I.ok,I.os,I.bare,{λb o e n K B=>?_,λb o e n K B=>?_,I.base.free,λb o e B=>?_,I.base.ab,I.base.dP,I.base.dR,λb o xs e n=>(f.2 b (Nat.ne_of_lt (Nat.lt_of_lt_of_le (qG e) (I.ok.zR x c D t)))).trans (I.base.dM b o xs e n)},{m,hn.sameBut f (Ne.symm (xF x c t)),λj y Z g F e3=>?_},λy T e=>?_,I.free,I.du,λp hp=>?_,l {oc,S,I.du x c t} f,do 0<|I.len} {c,f,.inr t};(f.2 b (qp (zf (qG e) (I.ok.zR x c D t)))).trans (I.base.keep b o e n K B);{sl,g}:=I.base.slot b o e n K B;{sl,(f.2 b (qp (zf (qG e) (I.ok.zR x c D t)))).trans g};{o',g}:=I.base.there b o e B;{o',(f.2 b (qp (zf (qG e) (I.ok.zR x c D t)))).trans g};J<|j=i;!J;g←[hi];-g;F←[nh G];-F;{u,r,.inr {.inl hk,c,t,R}};F←[yy (Ne.symm J)];{u',r',q}:=hl j y Z g F e3;{u',r',?_};q||{k,T,e,z'}:=q;.inl q;.inr ⟨k,T,e,z'.sameBut f ?_⟩;(rfl);J (HV hN g (I.ok.inj _ _ _ e t▸hi));O<|T=c;!O;{_,R};{w2,z2}:=I.cell y T e;{w2,z2.sameBut f O};{e,n,ne,nf,d}:=I.pin p hp;{(f.2 p.1 ?_).trans e,n,ne,nf,d};(q);e←[q,S];q':oc=p.2:=qJ e;d U (do[←q'];L)
def IH{A:Around}(I:Inv X pins σ H s)(d:X.N.Nodup)(hi:X.N[i]?=!x)(c:Loc X.env.scope x)(r:RelV v u)(h:∀s',Inv X pins (σ.set i (!v)) H s'->Q Unit.unit s')(b:X.fn x=true\/X.env.scope.names.lookup x=some .local:=by first|exact .inl rfl|exact .inr rfl|assumption):wpAny M A (storeName X.env x u) Q E s := JC I d hi c r (λs' a _=>h s' a) b
def Inv.gP(I:Inv X pins σ H s)(f:s'.os=s.os)(u:Un (d_ X.stack) ch H H' s.heap s'.heap)(a:dn X.prog X.w H' s'.heap)(g:AllBare s'.gens)(d:∀b∈ch,(b∈X.ex\/X.s₀.heap.objs.size<=b)/\b≠X.env.locals/\(∀x c,X.env.cells.lookup x=!c->c≠b)/\∀p∈X.pn++pins,p.1≠b):Inv X pins σ H' s':=do _;{h',g',d',t',o'}:=s';e:o'=s.os:=f;!e;I.call (g':=g') (t':=t') (d':=d') u a g d
end
abbrev XK:=MD->Option Sx->Hp->Prop
abbrev St:=List (Option V)
abbrev VK:=V->Hp->Prop
abbrev TE:=St->Hp->VK->Prop
abbrev TT:=St->Hp->(Bool->Hp->Prop)->Prop
abbrev TA:=St->Hp->(List V->Hp->Prop)->Prop
structure Ends where
 nx:St->Hp->Prop
 rt:VK
 bk:St->Hp->Prop:=λ_ _=>False
 ct:St->Hp->Prop:=λ_ _=>False
abbrev TS:=Ends->St->Hp->Prop
def EP(X:Cx)(pins:List (Sx×Obj))(σ:St)(Q:VK)(u:MD)(s':Sv):Prop:=∃v H',Inv X pins σ H' s'/\RelV v u/\Q v H'
def TP(X:Cx)(pins:List (Sx×Obj))(σ:St)(Q:Bool->Hp->Prop)(b:Bool)(s':Sv):Prop:=∃H',Inv X pins σ H' s'/\Q b H'
def AP(X:Cx)(pins:List (Sx×Obj))(σ:St)(Q:List V->Hp->Prop)(us:List MD)(s':Sv):Prop:=∃vs H',Inv X pins σ H' s'/\aJ vs us/\Q vs H'
def SP(X:Cx)(pins:List (Sx×Obj))(D:Ends)(f:Flow)(s':Sv):Prop := match f with|.next=>∃σ' H',Inv X pins σ' H' s'/\D.nx σ' H'|.brk=>∃σ' H',Inv X pins σ' H' s'/\D.bk σ' H'|.cont=>∃σ' H',Inv X pins σ' H' s'/\D.ct σ' H'|.ret u=>∃v σ' H',Inv X pins σ' H' s'/\RelV v u/\D.rt v H'
def RD(X:Cx)(e:Expr)(t:TE):Prop := ∀(pins:List (Sx×Obj)) (s:Sv) (σ:St) (H:Hp) (Q:VK),Inv X pins σ H s->t σ H Q->wpAny (model X.prog X.w) X.A (eval e X.env) (EP X pins σ Q) X.xe s
structure PE(X:Cx)(e:Expr)(t:TE):Prop where run:RD X e t
instance RV{X:Cx}{e:Expr}{t:TE}:CoeFun (PE X e t) λ_=>RD X e t:={PE.run}
def Rp(X:Cx)(e:Expr)(t:TT):Prop := ∀(pins:List (Sx×Obj)) (s:Sv) (σ:St) (H:Hp) (Q:Bool->Hp->Prop),Inv X pins σ H s->t σ H Q->wpAny (model X.prog X.w) X.A (isTrue e X.env (eval e X.env)) (TP X pins σ Q) X.xe s
structure PT(X:Cx)(e:Expr)(t:TT):Prop where run:Rp X e t
instance RY{X:Cx}{e:Expr}{t:TT}:CoeFun (PT X e t) λ_=>Rp X e t:={PT.run}
def p4(X:Cx)(e:Expr)(t:TT):Prop := ∀(a:Sem MD) (pins:List (Sx×Obj)) (s:Sv) (σ:St) (H:Hp) (Q:Bool->Hp->Prop),Inv X pins σ H s->t σ H Q->wpAny (model X.prog X.w) X.A (isTrue e X.env a) (TP X pins σ Q) X.xe s
structure PW(X:Cx)(e:Expr)(t:TT):Prop where run:p4 X e t
instance RI{X:Cx}{e:Expr}{t:TT}:CoeFun (PW X e t) λ_=>p4 X e t:={PW.run}
def PW.pt(h:PW X e t):PT X e t:={h _}
def Rx(X:Cx)(es:List Expr)(t:TA):Prop := ∀(pos:Pos) (pins:List (Sx×Obj)) (s:Sv) (σ:St) (H:Hp) (Q:List V->Hp->Prop),Inv X pins σ H s->t σ H Q->wpAny (model X.prog X.w) X.A (spliced (backTo pos (starEach es X.env))) (AP X pins σ Q) X.xe s
structure PA(X:Cx)(es:List Expr)(t:TA):Prop where run:Rx X es t
instance Ss{X:Cx}{es:List Expr}{t:TA}:CoeFun (PA X es t) λ_=>Rx X es t:={PA.run}
def Rz(X:Cx)(st:Stmt)(t:TS):Prop := ∀(pins:List (Sx×Obj)) (s:Sv) (σ:St) (H:Hp) (D:Ends),Inv X pins σ H s->t D σ H->wpAny (model X.prog X.w) X.A (exec st X.env) (SP X pins D) X.xe s
structure PS(X:Cx)(st:Stmt)(t:TS):Prop where run:Rz X st t
instance Sn{X:Cx}{st:Stmt}{t:TS}:CoeFun (PS X st t) λ_=>Rz X st t:={PS.run}
def J'(X:Cx)(st:List Stmt)(t:TS):Prop := ∀(pins:List (Sx×Obj)) (s:Sv) (σ:St) (H:Hp) (D:Ends),Inv X pins σ H s->t D σ H->wpAny (model X.prog X.w) X.A (execs st X.env) (SP X pins D) X.xe s
structure iG(X:Cx)(st:List Stmt)(t:TS):Prop where run:J' X st t
instance Rv{X:Cx}{st:List Stmt}{t:TS}:CoeFun (iG X st t) λ_=>J' X st t:={iG.run}
def bI{α:Type}{t:Sem α}{Q b:α->Sv->Prop}{M:Model}{A:Around}{E:KE}{s:Sv}(h:wpAny M A t Q E s)(c:∀a s,Q a s->b a s):wpAny M A t b E s:=qM h c λ_ _ x=>x
section
variable {X:Cx}
inductive uh(i:Nat)(σ:St)(H:Hp)(Q:VK):Prop
 |mk(v:_)(_:σ[i]?=!(!v))(_:Q v H)
def tC(v:V):TE:=λ_ H Q=>Q v H
def De(p:X.N[i]?=!x)(n:L0 X.env.scope x)(f:(x==("__debug__":Sy))=false:=by decide)(g:(x==("__classdict__":Sy))=false:=by decide):PE X (.Name x pos) (uh i):=do _;{?_};(pins,s,σ,H,Q,I,h);{v,e,h}:=h;{m,hn,o}:=I.loc;{u,r,l}:=o i x v p e n;d:EP X pins σ Q u s:={v,H,I,r,h};{b,k}||{b,c,j,a}:=l;wpAny_Name (wpAny_loadName_local I.ok.kind b hn k d) f;b||b:=b;wpAny_Name (wpAny_loadName_cell I.ok.kind b j a d) f;wpAny_Name (wpAny_loadName_free I.ok.kind b j a d g) f
def aA{i j pos}:PE X (.Constant (.int i) j pos) (tC (.int i)):={λ_ _ _ H _ I h=>wpAny_Constant_int {.int i,H,I.tok _,{_,O},h}}
def bW{b j pos}:PE X (.Constant (.bool b) j pos) (tC (.bl b)):={λ_ _ _ H _ I h=>Constant_bool {.bl b,H,I,O,h}}
def dE{j pos}:PE X (.Constant .none j pos) (tC .aQ):={λ_ _ _ H _ I h=>Constant_none {.aQ,H,I,O,h}}
def aO{x j pos}:PE X (.Constant (.str x) j pos) (tC (.str x)):={λ_ _ _ H _ I h=>Calls.Constant_str {.str x,H,I.tok _,{_,O},h}}
def Gl(X:Cx)(x:Sy):Prop:=X.env.kindOf x=some .globalImplicit
def AB{E:KE}{pins:List (Sx×Obj)}{s:Sv}{σ:St}{H:Hp}{x:Sy}{u:MD}{pos:Pos}{Q:KE}(I:Inv X pins σ H s)(c:Gl X x)(a:X.mg x=!u)(h:Q u s)(b:(x==("__debug__":Sy))=false:=by decide):wpAny (model X.prog X.w) X.A (eval (.Name x pos) X.env) Q E s := Calls.Name_function_global I.ok.kind c (Calls.loadGlobal_global (do[I.ok.glob];I.mod.glob.keeps I.bk) a h) b
def iq{E:KE}{pins:List (Sx×Obj)}{s:Sv}{σ:St}{H:Hp}{x:Sy}{u:MD}{pos:Pos}{Q:KE}(I:Inv X pins σ H s)(d:Gl X x)(a:X.mg x=none)(c:bootBuiltins x=!u)(h:Q u s)(hn:x≠"__name__":=by decide)(b:(x==("__debug__":Sy))=false:=by decide):wpAny (model X.prog X.w) X.A (eval (.Name x pos) X.env) Q E s:=do _;{e,h1,h2}:=I.mod.blt;Calls.Name_function_global I.ok.kind d (Calls.loadGlobal_builtin (do[I.ok.glob];I.mod.glob.keeps I.bk) a (do[I.ok.blt];h1.keeps I.bk) ((h2 x hn).trans c) h) b
def Co(c:Gl X x)(a:X.mg x=!u)(r:RelV v u)(b:(x==("__debug__":Sy))=false:=by decide):PE X (.Name x pos) (tC v):={λ_ _ _ H _ I h=>AB I c a {v,H,I,r,h} b}
def pK(c:Gl X x)(a:X.mg x=none)(d:bootBuiltins x=!u)(r:RelV v u)(hn:x≠"__name__":=by decide)(b:(x==("__debug__":Sy))=false:=by decide):PE X (.Name x pos) (tC v):={λ_ _ _ H _ I h=>iq I c a d {v,H,I,r,h} hn b}
variable {a b:Expr}{ta tb:TE}{pos:Pos}
inductive Sj(Q:Bool->Hp->Prop)(x:V)(H1:Hp):Prop
 |mk(c:_)(_:x=.bl c)(_:Q c H1)
def tB(t:TE):TT:=λσ H Q=>t σ H λx H1=>Sj Q x H1
def dB(h:PE X e t)(b:∀a,isTrue e X.env a=(do{let v ←a;standAt e.pos;holding [v] (truthy v)}):=by intro _;rfl):PT X e (tB t):=do _;{?_};(pins,s,σ,H,Q,I,i);isTrue_plain (bI (h pins s σ H _ I i) λv j ⟨x,H1,f,c,g⟩=>?_) (b _);{d,rfl,q}:=g;-c;wpAny_truthy_bool {H1,f,q}
variable {tA tB':TT}{rest:List Expr}
def MJ(t u:TT):TT:=λσ H Q=>t σ H λc H1=>if c=true then u σ H1 Q else Q false H1
def RT(t u:TT):TT:=λσ H Q=>t σ H λc H1=>if c=true then Q true H1 else u σ H1 Q
def MT(t:TT):TT:=λσ H Q=>t σ H λc H1=>Q (not c) H1
def jP(b:PT X a tA):PW X (.BoolOp .And [a] pos) tA:=do _;{?_};(f,pins,s,σ,H,Q,I,h);isTrue_and (bI (b pins s σ H Q I h) λc d e=>?_);(by cases c with|true|false=>?_);isTrue_and_nil e;e
def lL(b:PT X a tA):PW X (.BoolOp .Or [a] pos) tA:=do _;{?_};(f,pins,s,σ,H,Q,I,h);isTrue_or (bI (b pins s σ H Q I h) λc d e=>?_);(by cases c with|false|true=>?_);isTrue_or_nil e;e
def jO(f:PT X a tA)(i:PW X (.BoolOp .And (b::rest) pos) tB'):PW X (.BoolOp .And (a::b::rest) pos) (MJ tA tB'):=do _;{?_};(g,pins,s,σ,H,Q,I,h);isTrue_and (bI (f pins s σ H _ I h) λc j ⟨H1,d,e⟩=>?_);(by cases c with|true|false=>?_);i g pins j σ H1 Q d e;{H1,d,e}
def dC(f:PT X a tA)(i:PW X (.BoolOp .Or (b::rest) pos) tB'):PW X (.BoolOp .Or (a::b::rest) pos) (RT tA tB'):=do _;{?_};(g,pins,s,σ,H,Q,I,h);isTrue_or (bI (f pins s σ H _ I h) λc j ⟨H1,d,e⟩=>?_);(by cases c with|true|false=>?_);{H1,d,e};i g pins j σ H1 Q d e
def iS(b:PT X a tA):PT X (.UnaryOp .Not a pos) (MT tA):=do _;{?_};(pins,s,σ,H,Q,I,h);isTrue_not (b pins s σ H (λc H1=>Q (not c) H1) I h)
inductive AR(tb:TE)(σ:St)(Q:VK)(x:V)(H1:Hp):Prop
 |mk(c:_)(_:x=.bl c)(_:if c=true then tb σ H1 Q else Q (.bl false) H1)
def K6(ta tb:TE):TE:=λσ H Q=>ta σ H λx H1=>AR tb σ Q x H1
inductive ID(tb:TE)(σ:St)(Q:VK)(x:V)(H1:Hp):Prop
 |mk(c:_)(_:x=.bl c)(_:if c=true then Q (.bl true) H1 else tb σ H1 Q)
def OL(ta tb:TE):TE:=λσ H Q=>ta σ H λx H1=>ID tb σ Q x H1
def J_{op}(h:PE X a t):PE X (.BoolOp op [a] pos) t:={λpins s σ H Q I b=>BoolOp_one (h pins s σ H Q I b)}
def BY(f:PE X a ta)(g:PE X (.BoolOp .And (b::rest) pos) tb):PE X (.BoolOp .And (a::b::rest) pos) (K6 ta tb):=do _;{?_};(pins,s,σ,H,Q,I,h);BoolOp_and (bI (f pins s σ H _ I h) λv i ⟨x,H1,e,j,d⟩=>?_);{c,rfl,d}:=d;-j;wpAny_truthy_bool ?_;(by cases c with|true|false=>?_);g pins i σ H1 Q e d;{.bl false,H1,e,O,d}
def JE(f:PE X a ta)(g:PE X (.BoolOp .Or (b::rest) pos) tb):PE X (.BoolOp .Or (a::b::rest) pos) (OL ta tb):=do _;{?_};(pins,s,σ,H,Q,I,h);BoolOp_or (bI (f pins s σ H _ I h) λv i ⟨x,H1,e,j,d⟩=>?_);{c,rfl,d}:=d;-j;wpAny_truthy_bool ?_;(by cases c with|false|true=>?_);g pins i σ H1 Q e d;{.bl true,H1,e,O,d}
def RM(t:TT)(ta tb:TE):TE:=λσ H Q=>t σ H λc H1=>if c=true then ta σ H1 Q else tb σ H1 Q
def rY(j:PT X c tA)(i:PE X a ta)(k:PE X b tb):PE X (.IfExp c a b pos) (RM tA ta tb):=do _;{?_};(pins,s,σ,H,Q,I,h);wpAny_IfExp (bI (j pins s σ H _ I h) λd e ⟨H1,f,g⟩=>?_);(by cases d with|true|false=>?_);i pins e σ H1 Q f g;k pins e σ H1 Q f g
end
def az(H:Hp)(a:Sx)(xs:List V):Prop := Rd H a (.lst xs)
def aV(H:Hp)(a:Sx)(xs:List V):Prop := Rd H a (.tup xs)
def mE:MD->Option V|.none=>some .aQ|.bool b=>!(.bl b)|.int i _=>!(.int i)|.str x _=>!(.str x)|.bytes b _=>!(.oV b)|.float b _=>!(.FK b)|.ref a=>!(.ref a)|.type n=>!(.ty n)|_=>none
def RelV.abs(r:RelV x u):mE u=!x:=do(by cases x with|aQ|bl _|int _|str _|oV _|FK _|ref _|ty _=>?_);-r;2;-r;2;{t,rfl}:=r;2;{t,rfl}:=r;2;{t,rfl}:=r;2;{t,rfl}:=r;2;-r;2;-r;2
theorem RelV.inj(r:RelV x u)(q:RelV y u):x=y:=qJ (r.abs.symm.trans q.abs)
theorem aJ.inj:∀{xs ys:List V} {us:List MD},aJ xs us->aJ ys us->xs=ys|_,_,_,.nil,.nil=>rfl|_,_,_,.cons r t,.cons r' t'=>do[r.inj r',aJ.inj t t']
section
variable {X:Cx}{pins:List (Sx×Obj)}{σ:St}{H:Hp}{s:Sv}{a:Sx}{xs ys:List V}
def az.of(h:H a=!(.lst xs)):az H a xs:=.inl h
def aV.of(h:H a=!(.tup xs)):aV H a xs:=.inl h
def Inv.list(I:Inv X pins σ H s)(h:az H a xs):∃its:List MD,aJ xs its/\PlainL s.heap a its.toArray/\xs.length<=sizeLine:=do _;{z,its,n,r,e}:=Rd.ok h I.aR;{its,r,{_,n,e,O,O,O},z}
def Inv.tuple(I:Inv X pins σ H s)(h:aV H a xs):∃its:List MD,aJ xs its/\IsTup s.heap a its.toArray/\xs.length<=sizeLine:=do _;{z,its,r,p}:=Rd.ok h I.aR;{its,r,p,z}
def Inv.lQ(I:Inv X pins σ H s)(h:az H a xs)(h':az H a ys):xs=ys:=do _;{its,r,{o,n,e,_,_,d},_}:=I.list h;{its',c,{o',n',b,_,_,d'},_}:=I.list h';b←[e];-b;d'←[d];(by injection d' with d1 _);this:its=its':=(do 0<|congrArg Array.toList d1);!this;r.inj c
end
abbrev Cx.iF(X:Cx)(E:KE):Cx:={X with xe:=E}
abbrev Cx.wW(X:Cx):Cx:=X.iF λ_ _=>False
theorem Cx.Ok.iF{X:Cx}(ok:X.Ok)(E:KE):(X.iF E).Ok := {ok.mod,ok.kind,ok.glob,ok.blt,ok.above,ok.inj,ok.has,ok.zR,ok.hd,ok.frames,ok.Mg,ok.Ru,ok.bs,ok.tN,ok.sM,ok.xg,ok.ee,ok.xJ}
def Cx.Ok.dY{X:Cx}{E:KE}(ok:(X.iF E).Ok):X.Ok := {ok.mod,ok.kind,ok.glob,ok.blt,ok.above,ok.inj,ok.has,ok.zR,ok.hd,ok.frames,ok.Mg,ok.Ru,ok.bs,ok.tN,ok.sM,ok.xg,ok.ee,ok.xJ}
section
variable {X:Cx}{pins:List (Sx×Obj)}{σ:St}{H:Hp}{s:Sv}{E:KE}
theorem Inv.iF(I:Inv X pins σ H s)(E:KE):Inv (X.iF E) pins σ H s:={I.ok.iF E,I.os,I.bare,I.base,I.loc,I.cell,I.free,I.du,I.pin,I.aR,I.len}
theorem Inv.dY(I:Inv (X.iF E) pins σ H s):Inv X pins σ H s:={I.ok.dY,I.os,I.bare,I.base,I.loc,I.cell,I.free,I.du,I.pin,I.aR,I.len}
theorem SP.dY(h:SP (X.iF E) pins D f s'):SP X pins D f s':=do(by cases f with|next|brk|cont|ret u=>?_);{σ',H',I,q}:=h;{σ',H',I.dY,q};{σ',H',I,q}:=h;{σ',H',I.dY,q};{σ',H',I,q}:=h;{σ',H',I.dY,q};{v,σ',H',I,r,q}:=h;{v,σ',H',I.dY,r,q}
theorem iG.wW{st:List Stmt}{t:TS}(h:iG X.wW st t):iG X st t:={λpins s σ H D I a => qM (h pins s σ H D (I.iF _) a) (λ_ _ q=>q.dY) λ_ _ z=>False.elim z}
end
section
variable {X:Cx}{st:Stmt}{rest:List Stmt}{t u:TS}{e:Expr}{te:TE}{pos:Pos}
def Ld:TS:=λD σ H=>D.nx σ H
def nE(t u:TS):TS:=λD σ H=>t {D with nx:=u D} σ H
def cc:iG X [] Ld:={λ_ _ σ H _ I h=>wpAny_execs_nil {σ,H,I,h}}
def aj(h1:PS X st t)(h2:iG X rest u):iG X (st::rest) (nE t u):=do _;{?_};(pins,s,σ,H,D,I,h);wpAny_execs_cons (bI (h1 pins s σ H {D with nx:=u D} I h) λf b q=>?_);(by cases f with|next|ret v|brk|cont=>?_);{σ',H',a,q}:=q;h2 pins b σ' H' D a q;q;q;q
def aD(h1:PS X st t):iG X [st] t:=do _;{?_};(pins,s,σ,H,D,I,h);wpAny_execs_cons (bI (h1 pins s σ H D I h) λf a q=>?_);(by cases f with|next|ret v|brk|cont=>?_);wpAny_execs_nil q;q;q;q
def Inv.quiet{pins:List (Sx×Obj)}{σ:St}{H:Hp}{s:Sv}(I:Inv X pins σ H s):interactive X.env=false:=do#[interactive,I.ok.kind]
def xX(te:TE):TS:=λD σ H=>te σ H λ_ H1=>D.nx σ H1
def mX(a:PE X e te)(b:swapsWith e none pos.line X.env=pure false:=by rfl):PS X (.Expr e pos) (xX te):=do _;{?_};(pins,s,σ,H,D,I,h);wpAny_Expr_any (bI (a pins s σ H _ I h) λv f ⟨x,H1,c,g,d⟩=>{σ,H1,c,d}) I.quiet b
def Qf(te:TE):TS:=λD σ H=>te σ H D.rt
def aN(a:PE X e te):PS X (.Return (!e) pos) (Qf te):=do _;{?_};(pins,s,σ,H,D,I,h);wpAny_Return_some (bI (a pins s σ H _ I h) λv f ⟨x,H1,c,b,d⟩=>{x,σ,H1,c,b,d})
def Px(c:TT)(t u:TS):TS:=λD σ H=>c σ H λb H1=>if b=true then t D σ H1 else u D σ H1
def br(j:PT X c tc)(i:iG X a t)(k:iG X b u):PS X (.If c a b pos) (Px tc t u):=do _;{?_};(pins,s,σ,H,D,I,h);wpAny_If (bI (j pins s σ H _ I h) λd e ⟨H1,f,g⟩=>?_);(by cases d with|true|false=>?_);i pins e σ H1 D f g;k pins e σ H1 D f g
end
abbrev TG:=V->St->Hp->(St->Hp->Prop)->Prop
abbrev FN:=List V->St->Hp->(St->Hp->Prop)->Prop
def RA(X:Cx)(a:Expr)(t:TG):Prop := ∀(pins:List (Sx×Obj)) (s:Sv) (σ:St) (H:Hp) (v:V) (u:MD) (Q:St->Hp->Prop),Inv X pins σ H s->RelV v u->t v σ H Q-> wpAny (model X.prog X.w) X.A (assign a X.env u) (λ_ s'=>∃σ' H',Inv X pins σ' H' s'/\Q σ' H') X.xe s
structure PG(X:Cx)(target:Expr)(t:TG):Prop where run:RA X target t
instance Sr{X:Cx}{a:Expr}{t:TG}:CoeFun (PG X a t) λ_=>RA X a t:={PG.run}
def IV(X:Cx)(ts:List Expr)(t:FN):Prop := ∀(pins:List (Sx×Obj)) (s:Sv) (σ:St) (H:Hp) (vs:List V) (us:List MD) (Q:St->Hp->Prop),Inv X pins σ H s->aJ vs us->t vs σ H Q-> wpAny (model X.prog X.w) X.A (assignInOrder ((assignEach ts X.env).map (·.2)) us) (λ_ s'=>∃σ' H',Inv X pins σ' H' s'/\Q σ' H') X.xe s
structure Dk(X:Cx)(ts:List Expr)(t:FN):Prop where run:IV X ts t
instance Rt{X:Cx}{ts:List Expr}{t:FN}:CoeFun (Dk X ts t) λ_=>IV X ts t:={Dk.run}
abbrev Jv:=V->V->V->Hp->(Hp->Prop)->Prop
def Gn(X:Cx)(t:Jv):Prop := ∀(pins:List (Sx×Obj)) (s:Sv) (σ:St) (H:Hp) (o i v:V) (b a u:MD) (Q:Hp->Prop),Inv X pins σ H s->RelV o b->RelV i a->RelV v u->t o i v H Q-> wpAny (model X.prog X.w) X.A (setItem b a u) (λ_ s'=>∃H',Inv X pins σ H' s'/\Q H') X.xe s
section
variable {X:Cx}{pos:Pos}
def cM(i:Nat):TG:=λv σ H Q=>Q (σ.set i (!v)) H
def cO(d:X.N.Nodup)(hi:X.N[i]?=!x)(c:Loc X.env.scope x)(b:X.fn x=true\/X.env.scope.names.lookup x=some .local:=by first|exact .inl rfl|exact .inr rfl|assumption):PG X (.Name x pos) (cM i):=do _;{?_};(pins,s,σ,H,v,u,Q,I,r,h);wpAny_assign_Name (IH I d hi c r (λs' a=>{_,H,a,h}) b)
def CA:FN:=λvs σ H Q=>vs=[]/\Q σ H
inductive iU(t:TG)(u:FN)(vs:List V)(σ:St)(H:Hp)(Q:St->Hp->Prop):Prop
 |mk(v r:_)(_:vs=v::r)(_:t v σ H λσ' H'=>u r σ' H' Q)
def ik:Dk X [] CA:=do _;{?_};(pins,s,σ,H,vs,us,Q,I,r,h);{e,h}:=h;!e;-r;assignInOrder_nil {σ,H,I,h}
def df{es:List Expr}(h1:PG X e t)(h2:Dk X es u)(f:(assignEach (e::es) X.env).map (·.2)=assign e X.env::(assignEach es X.env).map (·.2):=by rfl):Dk X (e::es) (iU t u):=do _;{?_};(pins,s,σ,H,vs,us,Q,I,r,h);{v,j,b,h}:=h;!b;(by cases r with|cons r c=>?_);[f];assignInOrder_cons (bI (h1 pins s σ H _ _ _ I r h) λ_ d ⟨a,H1,g,i⟩=>?_);h2 pins d a H1 _ _ Q g c i
inductive wI(n:Nat)(t:FN)(v:V)(σ:St)(H:Hp)(Q:St->Hp->Prop):Prop
 |mk(a xs:_)(_:v=.ref a)(_:aV H a xs)(_:xs.length=n)(_:t xs σ H Q)
def jT{es:List Expr}(g:X.calm=true)(h:Dk X es t)(hn:(assignEach es X.env).length=n:=by rfl)(c:(assignEach es X.env).findIdx? (·.1)=none:=by rfl):PG X (.Tuple es k pos) (wI n t):=do _;{?_};(pins,s,σ,H,v,u,Q,I,r,d);{a,xs,i,m,p,d}:=d;!i;-r;{its,f,q,hz}:=I.tuple m;assign_Tuple_tuple (I.ok.hd g) q (do#[hn,←p,f.length]) c λh' j=>?_;l:Inv X pins σ H {s with heap:=h'}:=I.kept (t':=s.toks) λb o e=>j b o (qp (qG e)) e;h pins _ σ H xs _ Q l (do 0<|f) d
def Q2(to a:TE)(t:Jv):TG:=λv σ H Q=>to σ H λo H1=>a σ H1 λi H2=>t o i v H2 λb=>Q σ b
def J4{to c:TE}(w:PE X o to)(hi:PE X i c)(j:Gn X t)(d:∀v,assign (.Subscript o i pos) X.env v=(do{let a ←holding [v] (eval o X.env);let b ←holding [v,a] (eval i X.env);standAt pos;holding [v,a,b] (setItem a b v);release [v,a,b] []}):=by intro _;rfl):PG X (.Subscript o i pos) (Q2 to c t):=do _;{?_};(pins,s,σ,H,v,u,Q,I,r,h);[d];qA (qK (bI (w pins s σ H _ I h) λa g ⟨x,H1,l,k,q⟩=>?_));qA (qK (bI (hi pins g σ H1 _ l q) λb s2 ⟨y,H2,e,p,m⟩=>?_));qA (wpAny_standAt (qA (qK (bI (j pins s2 σ H2 x y v a b u _ e k p r m) λ_ A ⟨n,f,z⟩=>?_))));wpAny_release {σ,n,f,z}
def sQ(te:TE)(g:TG):TS:=λD σ H=>te σ H λx H1=>g x σ H1 D.nx
def C6{g:TG}(a:PE X e te)(k:PG X tg g)(d:swapsWithSole [tg] e pos.line X.env=pure false:=by rfl)(j:swappedStores [tg] e X.env=pure none:=by rfl)(h1:(assignEach [tg] X.env).map (·.2)=[assign tg X.env]:=by rfl):PS X (.Assign [tg] e pos) (sQ te g):=do _;{?_};(pins,s,σ,H,D,I,h);wpAny_Assign_stores (bI (a pins s σ H _ I h) λv c ⟨x,H1,f,b,i⟩=>?_) d j;[h1];bI (k pins c σ H1 x v _ f b i) λ_ s2 q=>q
def KR(l:X.N.Nodup)(hi:X.N[i]?=!x)(c:Loc X.env.scope x)(a:PE X e te)(d:swapsWith e (!(.Name x pos')) pos.line X.env=pure false:=by rfl)(k:X.fn x=true\/X.env.scope.names.lookup x=some .local:=by first|exact .inl rfl|exact .inr rfl|assumption) : PS X (.Assign [.Name x pos'] e pos) (sQ te (cM i)):=do _;{?_};(pins,s,σ,H,D,I,h);wpAny_Assign_Name (bI (a pins s σ H _ I h) λv m ⟨y,H1,g,f,j⟩=>?_) d;IH g l hi c f (λs2 b=>{_,H1,b,j}) k
end
section
variable {X:Cx}{pos:Pos}
def Bw(c:TT)(tb:TS):TS:=λD σ H=>∃W:Nat->St->Hp->Prop,(∃m,W m σ H)/\∀m σ H,W m σ H-> c σ H λb H1=>if b=true then ∃N:St->Hp->Prop,(∀σ' H',N σ' H'->∃a,a<m/\W a σ' H')/\tb {D with nx:=N,ct:=N,bk:=D.nx} σ H1 else D.nx σ H1
def q_(hp:PassesOwn (model X.prog X.w) X.A X.env X.xe)(B:PT X c tc)(u:iG X e tb):PS X (.While c e [] pos) (Bw tc tb):=do _;{?_};(pins,s,σ,H,D,I,h);{W,{t,z},turn}:=h;wpAny_While (codeAny_whileLoop (λn s'=>∃σ' H',Inv X pins σ' H' s'/\W n σ' H') ?_ t {σ,H,I,z});(n,x,{d,H1,y,C});wpAny_passesOwn hp (bI (B pins x d H1 _ y (turn n d H1 C)) λb s2 ⟨H2,r,i⟩=>?_);(by cases b with|true|false=>?_);{N,q,i}:=i;[qF rfl];wpAny_passesOwn hp (bI (u pins s2 d H2 _ r i) λf E j=>?_);(by cases f with|next|cont|brk|ret v=>?_);{a,g,o,l}:=j;{m,k,p}:=q a g l;{m,k,a,g,o,p};{a,g,o,l}:=j;{m,k,p}:=q a g l;{m,k,a,g,o,p};j;j;[qB qr];wpAny_execs_nil {d,H2,r,i}
end
structure It where
 go:Nat->Hp->Prop
 wM:Nat->Hp->V->Hp->Prop
 stop:Nat->Hp->Prop
def fx(X:Cx)(pins:List (Sx×Obj))(H:Hp)(b:Sx):Prop := H b=none/\b≠X.env.locals/\b∉X.fs/\(b∈X.ex\/X.s₀.heap.objs.size<=b)/\(∀x c,X.env.cells.lookup x=!c->c≠b)/\∀p∈X.pn++pins,p.1≠b
def Inv.lG{X:Cx}{pins:List (Sx×Obj)}{σ:St}{H H':Hp}{s:Sv}{b:Sx}(I:Inv X pins σ H s)(a:↑s<=b)(hn:H' b=none):fx X pins H' b:=do _;{hn,zu (zf I.lt a),I.vO a,.inr (qg I.sz a),λx c e z=>?_,λp hp z=>?_};{v,q}:=I.cell x c e;absurd (zf q.lt (do[z];a)) (wu _);absurd (zf (qG (I.pin p hp).1) (do[z];a)) (wu _)
structure Turn(P:Program)(w:World)(K:PySem.W.Frag)(tg:Expr)(J:It)(fp:List Sx)(it:Sx)(tn:Nat->Heap->Prop):Prop where
 mem:it∈fp
 obj:∀i h,tn i h->∀b∈fp,∃o,h.get? b=!o/\∀v,o.data≠.cell v
 keep:∀i h h',tn i h->(∀b∈fp,∀o,h.get? b=!o->h'.get? b=!o)->tn i h'
 item:∀(X:Cx),X.prog=P->X.w=w->X.K=K->X.calm=true->∀(i:Nat) (pins:List (Sx×Obj)) (s:Sv) (σ:St) (H:Hp) (E:KE),Inv X pins σ H s->(∀b∈fp,fx X pins H b)->tn i s.heap->J.go i H->
  wpAny (model P w) X.A (pyNext (.ref it)) (λr s1=>∃u,r=some u ∧
   wpAny (model P w) X.A (letOwnedTupleGo tg (.ref it) u) (λ_ s2=>∃x H',Inv X pins σ H' s2/\RelV x u/\J.wM i H x H'/\tn (i+1) s2.heap/\∀b∈fp,H' b=none) E s1) E s
 done:∀(X:Cx),X.prog=P->X.w=w->X.K=K->X.calm=true->∀(i:Nat) (pins:List (Sx×Obj)) (s:Sv) (σ:St) (H:Hp) (E:KE),Inv X pins σ H s->(∀b∈fp,fx X pins H b)->tn i s.heap->J.stop i H->
  wpAny (model P w) X.A (pyNext (.ref it)) (λr s1=>r=none/\Inv X pins σ H s1) E s
 self:∀(A:Around) (i:Nat) (s:Sv) (Q:KE) (E:KE),tn i s.heap->Q (.ref it) s->wpAny (model P w) A (pyIter (.ref it)) Q E s
abbrev TI:=St->Hp->(It->Hp->Prop)->Prop
def LZ(X:Cx)(pins:List (Sx×Obj))(σ:St)(tg:Expr)(R:It->Hp->Prop)(a:MD)(s2:Sv):Prop := ∃(it:Sx) (c:List Sx) (d:Nat->Heap->Prop) (J:It) (H':Hp),a=.ref it/\Inv X pins σ H' s2/\Turn X.prog X.w X.K tg J c it d/\d 0 s2.heap/\(∀b∈c,fx X pins H' b)/\R J H'
def Rr(X:Cx)(tg a:Expr)(c:TI):Prop := ∀(pins:List (Sx×Obj)) (s:Sv) (σ:St) (H:Hp) (R:It->Hp->Prop),Inv X pins σ H s->c σ H R-> wpAny (model X.prog X.w) X.A (eval a X.env) (λv b=>wpAny (model X.prog X.w) X.A (pyIter v) (LZ X pins σ tg R) X.xe b) X.xe s
structure PI(X:Cx)(tg iter:Expr)(wi:TI):Prop where run:Rr X tg iter wi
instance Sk{X:Cx}{tg a:Expr}{b:TI}:CoeFun (PI X tg a b) λ_=>Rr X tg a b:={PI.run}
def nP{A:Around}(b:s.heap.get? it=!o)(c:o.cls=.type n)(d:o.data=.fields vs)(hn:["enumerate","zip","dict_itemiterator","dict_reverseitemiterator","odict_iterator","itertools.zip_longest","itertools.pairwise"].contains n=false)(a:Q Unit.unit s):wpAny M A (letOwnedTupleGo tg (.ref it) u) Q E s:=do@letOwnedTupleGo;by cases tg <;> first|exact qE a|cases u <;> first|exact qE a|refine qA (wpAny_load b ?_);rw[c,d];show wpAny M A (if(["enumerate","zip","dict_itemiterator","dict_reverseitemiterator","odict_iterator","itertools.zip_longest","itertools.pairwise"].contains n&&vs[0]?==!(rawInt _))=true then _ else _) Q E s;rw[qB (do(h);h←[hn,Bool.false_and];-h)];exact qE a
def FU(a:Sx):It := {λi H=>∃xs x,az H a xs/\xs[i]?=!x,λi H x H'=>H'=H/\∀xs,az H a xs->xs[i]?=!x,λi H=>∃xs,az H a xs/\xs.length<=i}
def F1(lo:Int)(n:Nat):It:={λi _=>i<n,λi H x H'=>H'=H/\x=.int (lo+i),λi _=>n<=i}
def Rh{P:Program}{w:World}{K:PySem.W.Frag}{tg:Expr}(a it:Sx):Turn P w K tg (FU a) [it] it (λi h=>h.IsListIter it a i) where
 mem:=by simp
 obj:=λi h st b f=>by
  have e:b=it:=by simpa using f
  subst e;obtain⟨o,e,c,d⟩:=st;exact{o,e,λv z=>by rw[d]at z;cases z}
 keep:=λi h h' st k=>st.at λo e=>k it (by simp) o e
 item:=by
  intro X n r A G i pins s σ H E I l st F;subst n r A;obtain⟨xs,x,j,m⟩:=F;obtain⟨its,t,p,hz⟩:=I.list j;obtain⟨u,L,J⟩:=t.get m;obtain⟨C,B,M,y,D,q⟩:=l it (by simp);refine wpAny_pyNext_list_item st p.isList (x:=u) (by simpa using L) λh' g R=>?_;have N:Inv X pins σ H { s with heap:=h' }:=I.turned (t':=s.toks) (λb o f e=>(R.2 b f).trans e) C B y D q;obtain⟨o,e,c,d⟩:=id g;exact{u,O,nP (s:={ s with heap:=h' }) e c d ⋯ {x,H,N,J,{O,λys Q=>by rw[I.lQ Q j];exact m},g,λb f=>(l b f).1}}
 done:=by
  intro X n r A G i pins s σ H E I l st F;subst n r A;obtain⟨xs,j,m⟩:=F;obtain⟨its,t,p,hz⟩:=I.list j;obtain⟨C,B,M,y,D,q⟩:=l it (by simp);have T:=t.length;exact wpAny_pyNext_list_end (I.ok.hd G) st p.isList (by simp;omega) λh' S=>{O,I.turned (t':=s.toks) (λb o f e=>S b o f e) C B y D q}
 self:=λ_ _ _ _ _ st h=>wpAny_pyIter_listiter st h
def Ol{P:Program}{w:World}{K:PySem.W.Frag}{tg:Expr}(it:Sx)(lo:Int)(n:Nat):Turn P w K tg (F1 lo n) [it] it (λi h=>IsRangeIter h it (lo+(i:Nat) * 1) ((n:Int) - (i:Nat)) 1) where
 mem:=by simp
 obj:=λi h st b a=>by
  have e:b=it:=by simpa using a
  subst e
  exact{_,st,λv z=>by
   have y:Data.fields _=Data.cell v:=z
   cases y}
 keep:=λi h h' st k=>k it (by simp) _ st
 item:=by
  intro X f j m r i pins s σ H E I d st x;subst f j m;obtain⟨q,p,C,l,u,g⟩:=d it (by simp);have W:=Walks.range (prog:=X.prog) (w:=X.w) (I.ok.hd r) it lo 1 n;refine W.item i s _ _ x st λv h' tk B c A=>?_;obtain⟨t,rfl⟩:=B;have D:Inv X pins σ H { s with heap:=h',toks:=tk }:=I.turned (λb o a e=>A b o (by simpa using a) e) q p l u g;refine{_,O,nP (s:={ s with heap:=h',toks:=tk }) (n:="range_iterator") c rfl rfl ⋯ {.int (lo+i),H,D,{t,?_},{O,O},c,λb a=>(d b a).1}};rw[Int.mul_one]
 done:=by
  intro X f j m r i pins s σ H E I d st x;subst f j m;obtain⟨q,p,C,l,u,g⟩:=d it (by simp);exact wpAny_pyNext_range_end (I.ok.hd r) st (by have:n<=i:=x;omega) λh' F=>{O,I.turned (t':=s.toks) (λb o a e=>F b o a e) q p l u g}
 self:=λ_ _ _ _ _ st h=>wpAny_pyIter_rangeiter st h
section
variable {X:Cx}{tg:Expr}
inductive FA(R:It->Hp->Prop)(x:V)(H1:Hp):Prop
 |mk(a:_)(_:x=.ref a)(_:(∃xs,az H1 a xs))(_:R (FU a) H1)
def y_(tl:TE):TI:=λσ H R=>tl σ H λx H1=>FA R x H1
def NY{tl:TE}(i:PE X l tl):PI X tg l (y_ tl):=do _;{?_};(pins,s,σ,H,R,I,h);bI (i pins s σ H _ I h) λv c ⟨x,H1,d,g,j⟩=>?_;{a,e,{xs,k},q}:=j;!e;-g;{its,m,p,hz}:=d.list k;wpAny_pyIter_list p.isList ?_;{↑c,[↑c],_,_,H1,O,d.kept (t':=c.toks) λb o e=>qH _ e,Rh a _,{_,qL _ rfl,O,O},λb f=>?_,q};e:b=↑c:=(do 0<|f);!e;d.lG (qe _) (d.aR.fresh (qe _))
def MM{pins:List (Sx×Obj)}{σ:St}{H:Hp}{s:Sv}{R:It->Hp->Prop}{E:KE}{lo hi:Int}{t u v:Tok}{tk:Nat}(I:Inv X pins σ H s)(h1:-(2 ^ 62)<=lo)(h2:lo<2 ^ 62)(f:-(2 ^ 62)<=hi)(g:hi<2 ^ 62)(q:R (F1 lo (hi - lo).toNat) H):wpAny (model X.prog X.w) X.A (pyIter (.ref ↑s)) (LZ X pins σ tg R) E {s with heap:=s.heap.push {cls:=.type "range",data:=.fields #[.int lo t,.int hi u,.int 1 v]},toks:=tk}:=do wpAny_pyIter_range (IsRange.new ..) (small_one h1 h2 f g) ?_;a:Inv X pins σ H {s with heap:=s.heap.push {cls:=.type "range",data:=.fields #[.int lo t,.int hi u,.int 1 v]},toks:=tk}:=I.kept λb o e=>qH _ e;{(s.heap.push {cls:=.type "range",data:=.fields #[.int lo t,.int hi u,.int 1 v]}).objs.size,[(s.heap.push {cls:=.type "range",data:=.fields #[.int lo t,.int hi u,.int 1 v]}).objs.size],_,_,H,O,a.kept (t':=tk) λb o e=>qH _ e,Ol _ lo (hi - lo).toNat,?_,λb d=>?_,q};c:lo+((0:Nat):Int) * 1=lo:=(do 0);h:(((hi - lo).toNat:Nat):Int) - ((0:Nat):Int)=Builtin.Range.rangeSize lo hi 1:=(by rw[rangeSize_one];split <;> omega);¬IsRangeIter _ _ (lo+((0:Nat):Int) * 1) ((((hi - lo).toNat:Nat):Int) - ((0:Nat):Int)) 1;[c,h];qL _ rfl;e:b=(s.heap.push {cls:=.type "range",data:=.fields #[.int lo t,.int hi u,.int 1 v]}).objs.size:=(do 0<|d);!e;a.lG (qe _) (a.aR.fresh (qe _))
inductive El(R:It->Hp->Prop)(vs:List V)(H1:Hp):Prop
 |mk(j:Int)(_:vs=[.int j])(_:-(2 ^ 62)<=j)(_:j<2 ^ 62)(_:R (F1 0 j.toNat) H1)
def Iw(ta:TA):TI:=λσ H R=>ta σ H λvs H1=>El R vs H1
def lh(m:Gl X "range")(c:X.mg "range"=none)(d:PA X [a] ta)(g:starEach [a] X.env=[(false,eval a X.env)]:=by rfl):PI X tg (.Call (.Name "range" p) [a] [] pos) (Iw ta):=do _;{?_};(pins,s,σ,H,R,I,h);Call_ (iq I m c boot_range (PyProof.Rows.callWith_type1 (bI (d pos pins s σ H _ I h) λus n ⟨vs,H1,k,i,b⟩=>?_) g rfl));{j,e,b,l,q}:=b;!e;(by cases i with|cons r f=>?_);-f;{t,rfl}:=r;call_range_1 (MM k () () b l (do 0<|q))
def Fx(c:TI)(g:TG)(tb:TS):TS:=λD σ H=>c σ H λJ H1=>∃W:Nat->Nat->St->Hp->Prop,(∃m,W 0 m σ H1)/\∀i m σ H,W i m σ H-> (J.stop i H/\D.nx σ H)\/(J.go i H/\∃N:St->Hp->Prop,(∀σ' H',N σ' H'->∃b,b<m/\W (i+1) b σ' H')/\∀x H',J.wM i H x H'->g x σ H' λa H2=>tb {D with nx:=N,ct:=N,bk:=D.nx} a H2)
def dX(a:List Sx)(h:Heap):List (Sx×Obj):=a.filterMap λb=>(h.get? b).map λo=>(b,o)
def CL(c:b∈a)(e:h.get? b=!o):(b,o)∈dX a h:=jo.mpr {b,c,do[e];2}
def Ip(hp:p∈dX a h):p.1∈a/\h.get? p.1=!p.2:=do _;{b,c,e}:=jo.mp hp;(by cases q:h.get? b with|none|some o=>?_);e←[q];-e;e←[q];d:(b,o)=p:=qJ e;!d;{c,q}
def Inv.pinned{pins:List (Sx×Obj)}{σ:St}{H:Hp}{s:Sv}{a:List Sx}(I:Inv X pins σ H s)(j:∀b∈a,fx X pins H b)(i:∀b∈a,∃o,s.heap.get? b=!o/\∀v,o.data≠.cell v):Inv X (pins++dX a s.heap) σ H s := I.gL λp hp=>(zh.mp hp).elim (λz=>I.pin p (zy _ z)) λz=>do _;{f,e}:=Ip z;{k,g,h,_}:=j p.1 f;{o,c,d}:=i p.1 f;c←[e];-c;{e,k,g,h,d}
def Inv.fj{pins a:List (Sx×Obj)}{σ:St}{H:Hp}{s:Sv}(I:Inv X (pins++a) σ H s):Inv X pins σ H s:=I.gL λp hp=>I.pin p (zy _ (wg _ hp))
def Ex{g:TG}(hp:PassesOwn (model X.prog X.w) X.A X.env X.xe)(hc:X.calm=true)(hi:PI X tg q R)(hg:PG X tg g)(j:iG X t tb)(hs:∀x,foldedSetIterable q X.env x=pure x:=by intro _;rfl):PS X (.For tg q t [] pos) (Fx R g tb):=do _;{?_};(pins,s,σ,H,D,I,h);wpAny_For (bI (hi pins s σ H _ I h) λv s1 h1=>bI h1 λitv s2 h2=>?_) hs;{it,B,Z,J,H2,e,I2,T,Q,Y,W,{m0,w0},turn}:=h2;!e;p:∀{H':Hp},(∀b∈B,H' b=none)->∀b∈B,fx X pins H' b:=λhn b j=>{hn b j,(Y b j).2};codeAny_forLoop_any (λn s'=>∃i σ' H',Inv X pins σ' H' s'/\Z i s'.heap/\(∀b∈B,H' b=none)/\W i n σ' H') ?_ m0 {0,σ,H2,I2,Q,λb j=>(Y b j).1,w0};(n,S,{i,k,G,I3,C,E,w3});{stop,qn}||{go,N,hN,step}:=turn i n k G w3;wpAny_passesOwn hp (bI (T.done X rfl rfl rfl hc i pins S k G X.xe I3 (p E) C stop) λr s4 ⟨M,I4⟩=>?_);!M;wpAny_execs_nil {k,G,I4,qn};wpAny_passesOwn hp (bI (T.item X rfl rfl rfl hc i pins S k G X.xe I3 (p E) C go) λr s4 ⟨u,M,h4⟩=>?_);!M;wpAny_passesOwn hp (bI h4 λ_ V ⟨x,U,I5,r5,y5,z,L⟩=>?_);P:=I5.pinned (p L) (T.obj _ _ z);wpAny_passesOwn hp (bI (hg _ V k U x u _ P r5 (step x U y5)) λ_ s6 ⟨O,H6,I6,q6⟩=>?_);wpAny_passesOwn hp (bI (j _ s6 O H6 _ I6 q6) λf K y=>?_);again:∀{a:St} {l:Hp},Inv X (pins++dX B V.heap) a l K->N a l->∃m,m<n/\∃i σ' H',Inv X pins σ' H' K/\Z i K.heap/\(∀b∈B,H' b=none)/\W i m σ' H':=λ{a l} c F=>(do _;{m',hm,w7}:=hN a l F;{m',hm,i+1,a,l,c.fj,T.keep _ _ _ z λb j o e=>(c.pin (b,o) (zy _ (zy _ (CL j e)))).1,λb j=>?_,w7};{o,e,d}:=T.obj _ _ z b j;(c.pin (b,o) (zy _ (zy _ (CL j e)))).2.1);(by cases f with|next|cont|brk|ret v=>?_);{a,l,c,F}:=y;again c F;{a,l,c,F}:=y;again c F;{a,l,c,y}:=y;{a,l,c.fj,y};{x7,a,l,c,r7,y}:=y;{x7,a,l,c.fj,r7,y}
end
def GC{a:Sx}{xs:List V}{g:TG}{tb:TS}{D:Ends}{σ:St}{H:Hp}(b:Nat->St->Hp->Prop)(h0:b 0 σ H)(k:∀i σ H,i<=xs.length->b i σ H->az H a xs)(j:∀i x σ H,xs[i]?=!x->b i σ H->g x σ H λc H2=>tb {D with nx:=b (i+1),ct:=b (i+1),bk:=D.nx} c H2)(h:∀σ H,b xs.length σ H->D.nx σ H) : ∃W:Nat->Nat->St->Hp->Prop,(∃m,W 0 m σ H)/\∀i m σ H,W i m σ H-> ((FU a).stop i H/\D.nx σ H)\/((FU a).go i H/\∃N:St->Hp->Prop,(∀σ' H',N σ' H'->∃f,f<m/\W (i+1) f σ' H')/\∀x H',(FU a).wM i H x H'->g x σ H' λc H2=>tb {D with nx:=N,ct:=N,bk:=D.nx} c H2):=do _;{λi m σ H=>m=xs.length - i/\i<=xs.length/\b i σ H,{xs.length,do 0,Nat.zero_le _,h0},?_};(i,m,σ,H,{rfl,hi,p});q:=k i σ H hi p;d<|i<xs.length;.inr {{xs,xs[i],q,do#[d]},b (i+1),λσ' H' l=>{xs.length - (i+1),(),O,d,l},λx H' y=>?_};{e,y}:=y;!e;j i x σ _ (y xs q) p;e:i=xs.length:=();!e;.inl {{xs,q,qe _},h σ H p}
def Qb{lo:Int}{n:Nat}{g:TG}{tb:TS}{D:Ends}{σ:St}{H:Hp}(a:Nat->St->Hp->Prop)(h0:a 0 σ H)(h:∀i σ H,i<n->a i σ H->g (.int (lo+i)) σ H λb H2=>tb {D with nx:=a (i+1),ct:=a (i+1),bk:=D.nx} b H2)(f:∀σ H,a n σ H->D.nx σ H) : ∃W:Nat->Nat->St->Hp->Prop,(∃m,W 0 m σ H)/\∀i m σ H,W i m σ H-> ((F1 lo n).stop i H/\D.nx σ H)\/((F1 lo n).go i H/\∃N:St->Hp->Prop,(∀σ' H',N σ' H'->∃d,d<m/\W (i+1) d σ' H')/\∀x H',(F1 lo n).wM i H x H'->g x σ H' λb H2=>tb {D with nx:=N,ct:=N,bk:=D.nx} b H2):=do _;{λi m σ H=>m=n - i/\i<=n/\a i σ H,{n,do 0,Nat.zero_le _,h0},?_};(i,m,σ,H,{rfl,hi,p});c<|i<n;.inr {c,a (i+1),λσ' H' j=>{n - (i+1),(),O,c,j},λx H' y=>?_};{e,y}:=y;(by subst e y);h i σ _ c p;e:i=n:=();!e;.inl {qe _,f σ H p}
abbrev R2:=V->V->Hp->VK->Prop
def dm(X:Cx)(f:MD->MD->Sem MD)(r:R2):Prop := ∀(pins:List (Sx×Obj)) (s:Sv) (σ:St) (H:Hp) (x y:V) (v u:MD) (Q:VK),Inv X pins σ H s->RelV x v->RelV y u->r x y H Q-> wpAny (model X.prog X.w) X.A (f v u) (EP X pins σ Q) X.xe s
def P7(X:Cx)(f:MD->Sem MD)(r:V->Hp->VK->Prop):Prop := ∀(pins:List (Sx×Obj)) (s:Sv) (σ:St) (H:Hp) (x:V) (v:MD) (Q:VK),Inv X pins σ H s->RelV x v->r x H Q-> wpAny (model X.prog X.w) X.A (f v) (EP X pins σ Q) X.xe s
def cB(X:Cx)(f:MD)(r:List V->Hp->VK->Prop):Prop := ∀(pins:List (Sx×Obj)) (s:Sv) (σ:St) (H:Hp) (xs:List V) (us:List MD) (Q:VK),Inv X pins σ H s->aJ xs us->r xs H Q-> wpAny (model X.prog X.w) X.A (call f us) (EP X pins σ Q) X.xe s
def uf(r:R2)(ta tb:TE):TE:=λσ H Q=>ta σ H λx H1=>tb σ H1 λy H2=>r x y H2 Q
def RU(r:V->Hp->VK->Prop)(ta:TE):TE:=λσ H Q=>ta σ H λx H1=>r x H1 Q
inductive rI(C:Int->Int->Prop)(g:Int->Int->V)(x y:V)(H:Hp)(Q:VK):Prop
 |mk(i j:_)(_:x=.int i)(_:y=.int j)(_:C i j)(_:Q (g i j) H)
inductive xY(g:Int->Int->V)(x y:V)(H:Hp)(Q:VK):Prop
 |mk(i j:_)(_:x=.int i)(_:y=.int j)(_:Q (g i j) H)
inductive rU(g:Int->V)(x:V)(H:Hp)(Q:VK):Prop
 |mk(i:_)(_:x=.int i)(_:Q (g i) H)
section
variable {X:Cx}{a b c:Expr}{ta tb tc:TE}{pos:Pos}
def AY(e:PE X a ta)(i:PE X b tb){pins:List (Sx×Obj)}{s:Sv}{σ:St}{H:Hp}{R:V->V->Hp->Prop}(I:Inv X pins σ H s)(h:ta σ H λx H1=>tb σ H1 λy H2=>R x y H2){Q:KE}{f:MD->MD->Sem MD}(p:∀v u s2 x y H2,Inv X pins σ H2 s2->RelV x v->RelV y u->R x y H2->wpAny (model X.prog X.w) X.A (f v u) Q X.xe s2) : wpAny (model X.prog X.w) X.A (eval a X.env) (λv c=>wpAny (model X.prog X.w) X.A (eval b X.env) (λu d=>wpAny (model X.prog X.w) X.A (f v u) Q X.xe d) X.xe c) X.xe s:=do bI (e pins s σ H _ I h) λv j ⟨x,H1,l,k,o⟩=>?_;bI (i pins j σ H1 _ l o) λu s2 ⟨y,H2,g,n,m⟩=>?_;p v u s2 x y H2 g k n m
def aG(g:dm X (binaryOp op) r)(c:PE X a ta)(e:PE X b tb):PE X (.BinOp a op b pos) (uf r ta tb):=do _;{?_};(pins,s,σ,H,Q,I,h);wpAny_BinOp (AY c e I h λv u s2 x y H2 d f i q=>g pins s2 σ H2 x y v u Q d f i q)
def eF(g:P7 X (unaryOp op) r)(b:PE X a ta):PE X (.UnaryOp op a pos) (RU r ta):=do _;{?_};(pins,s,σ,H,Q,I,h);UnaryOp_ (bI (b pins s σ H _ I h) λv c ⟨x,H1,e,d,f⟩=>g pins c σ H1 x v Q e d f)
def Mn{g:Int->Int->Int}(a:∀(i j:Int) (t u:Tok) (s:Sv) (Q:KE) (E:KE),C i j->Q (.int (g i j) s.toks) {s with toks:=s.toks+1}->wpAny (model X.prog X.w) X.A (f (.int i t) (.int j u)) Q E s) : dm X f (rI C λi j=>.int (g i j)):=do(pins,s,σ,H,x,y,v,u,Q,I,d,c,h);{i,j,rfl,rfl,b,q}:=h;{t,rfl}:=d;{t',rfl}:=c;a i j t t' s _ _ b {.int (g i j),H,I.tok _,{_,O},q}
def Hv{g:Int->Int->Int}(a:∀(i j:Int) (t u:Tok) (s:Sv) (Q:KE) (E:KE),Q (.int (g i j) s.toks) {s with toks:=s.toks+1}->wpAny (model X.prog X.w) X.A (f (.int i t) (.int j u)) Q E s) : dm X f (xY λi j=>.int (g i j)):=do(pins,s,σ,H,x,y,v,u,Q,I,c,b,h);{i,j,rfl,rfl,q}:=h;{t,rfl}:=c;{t',rfl}:=b;a i j t t' s _ _ {.int (g i j),H,I.tok _,{_,O},q}
def wh{g:Int->Int->Bool}(a:∀(i j:Int) (t u:Tok) (s:Sv) (Q:KE) (E:KE),Q (.bool (g i j)) s->wpAny (model X.prog X.w) X.A (f (.int i t) (.int j u)) Q E s) : dm X f (xY λi j=>.bl (g i j)):=do(pins,s,σ,H,x,y,v,u,Q,I,c,b,h);{i,j,rfl,rfl,q}:=h;{t,rfl}:=c;{t',rfl}:=b;a i j t t' s _ _ {.bl (g i j),H,I,O,q}
def Ng(i j:Int):Prop:=0<j/\j<1073741824
def Mv(i j:Int):Prop:=0<=j/\j<=1000000/\i.natAbs<2 ^ 64
def CM(i j:Int):Prop:=(-(2 ^ 64)<i/\i<2 ^ 64)\/(-(2 ^ 64)<j/\j<2 ^ 64)
def CM.ok(h:CM i j):IntMulOk i j:=do _;{h1,h2}||{h1,h2}:=h;.of_left (intBits_le_64 h1 h2);.of_right (intBits_le_64 h1 h2)
def c8:dm X (binaryOp .Add) (xY λi j=>.int (i+j)):=Hv λ_ _ _ _ _ _ _ q=>add_int q
def Bs:dm X (binaryOp .Sub) (xY λi j=>.int (i - j)):=Hv λ_ _ _ _ _ _ _ q=>sub_int q
def uq:dm X (binaryOp .Mult) (rI CM λi j=>.int (i * j)):=Mn λ_ _ _ _ _ _ _ a q=>mul_int q a.ok
def jY:dm X (binaryOp .FloorDiv) (rI Ng λi j=>.int (i / j)):=Mn λi j _ _ _ _ _ a q=>do h1:(0:Int)<j:=a.1;h2:j<1073741824:=a.2;floordiv_int () (do[Int.fdiv_eq_ediv_of_nonneg i ()];q) (.inl (PyProof.noPylong_small ()))
def eP:dm X (binaryOp .Mod) (rI (λ_ j=>0<j) λi j=>.int (i % j)):=Mn λi j _ _ _ _ _ a q=>do h1:(0:Int)<j:=a;mod_int' () (do[Int.fmod_eq_emod_of_nonneg i ()];q)
def Cn:dm X (binaryOp .Pow) (rI Mv λi j=>.int (i ^ j.toNat)):=Mn λ_ _ _ _ _ _ _ a q=>pow_int_small a.1 a.2.1 a.2.2 q
def Sh{g:Int->Int}(a:∀(i:Int) (t:Tok) (s:Sv) (Q:KE) (E:KE),Q (.int (g i) s.toks) {s with toks:=s.toks+1}->wpAny (model X.prog X.w) X.A (f (.int i t)) Q E s) : P7 X f (rU λi=>.int (g i)):=do(pins,s,σ,H,x,v,Q,I,b,h);{i,rfl,q}:=h;{t,rfl}:=b;a i t s _ _ {.int (g i),H,I.tok _,{_,O},q}
def iT:P7 X (unaryOp .USub) (rU λi=>.int (-i)):=Sh λ_ _ _ _ _ q=>neg_int q
end
def Ga:V->V->Bool|.aQ,.aQ=>true|.aQ,.int _=>true|.int _,.aQ=>true|.aQ,.bl _=>true|.bl _,.aQ=>true|.aQ,.str _=>true|.str _,.aQ=>true|.int _,.int _=>true|.bl _,.bl _=>true|.str _,.str _=>true|.oV _,.oV _=>true|.int _,.str _=>true|.str _,.int _=>true|.bl _,.str _=>true|.str _,.bl _=>true|_,_=>false
def R_:R2:=λx y H Q=>Ga x y=true/\Q (.bl (decide (x=y))) H
def RP:R2:=λx y H Q=>Ga x y=true/\Q (.bl (not (decide (x=y)))) H
def J7:decide (V.int i=V.int j)=(i==j):=do[jg];0
def IL:decide (V.bl i=V.bl j)=(i==j):=do[jg];0
def G_:decide (V.str i=V.str j)=(i==j):=do[jg];0
def Kf:decide (V.oV i=V.oV j)=(i.toList==j.toList):=do[jg];-i;-j;0
section
variable {X:Cx}{a b c:Expr}{ta tb tc:TE}{pos:Pos}
def cC{pins:List (Sx×Obj)}{σ:St}{H:Hp}{s:Sv}{Q:VK}{k a:Bool}(I:Inv X pins σ H s)(q:Q (.bl k) H)(e:k=a):EP X pins σ Q (.bool a) s:=do !e;{.bl k,H,I,O,q}
def c9:dm X (compareOp .Eq) R_:=do(pins,s,σ,H,x,y,v,u,Q,I,c,a,h);{b,q}:=h;by cases x with|aQ=>(cases c;cases y with|aQ=>(cases a;exact PySem.EqNone.eq_none_none (cC I q (do 0)))|bl j=>(cases a;exact PySem.EqNone.eq_none_bool (cC I q (do 0)))|int j=>(obtain⟨t',rfl⟩:=a;exact PySem.EqNone.eq_none_int (cC I q (do 0)))|str j=>(obtain⟨t',rfl⟩:=a;exact PySem.EqNone.eq_none_str (cC I q (do 0)))|_=>exact absurd (show false=true from b) qr)|bl i=>(cases c;cases y with|aQ=>(cases a;exact PySem.EqNone.eq_bool_none (cC I q (do 0)))|bl j=>(cases a;exact eq_bool (cC I q IL))|str j=>(obtain⟨t',rfl⟩:=a;exact PySem.EqMixed.eq_bool_str (cC I q (do 0)))|_=>exact absurd (show false=true from b) qr)|int i=>(obtain⟨t,rfl⟩:=c;cases y with|aQ=>(cases a;exact PySem.EqNone.eq_int_none (cC I q (do 0)))|int j=>(obtain⟨t',rfl⟩:=a;exact eq_int (cC I q J7))|str j=>(obtain⟨t',rfl⟩:=a;exact PySem.EqMixed.eq_int_str (cC I q (do 0)))|_=>exact absurd (show false=true from b) qr)|str i=>(obtain⟨t,rfl⟩:=c;cases y with|aQ=>(cases a;exact PySem.EqNone.eq_str_none (cC I q (do 0)))|bl j=>(cases a;exact PySem.EqMixed.eq_str_bool (cC I q (do 0)))|int j=>(obtain⟨t',rfl⟩:=a;exact PySem.EqMixed.eq_str_int (cC I q (do 0)))|str j=>(obtain⟨t',rfl⟩:=a;exact eq_str (cC I q G_))|_=>exact absurd (show false=true from b) qr)|oV i=>(obtain⟨t,rfl⟩:=c;cases y with|oV j=>(obtain⟨t',rfl⟩:=a;exact PySem.W.eq_bytes (cC I q Kf))|_=>exact absurd (show false=true from b) qr)|_=>cases y <;> exact absurd (show false=true from b) qr
def kQ:dm X (compareOp .NotEq) RP:=do(pins,s,σ,H,x,y,v,u,Q,I,c,a,h);{b,q}:=h;by cases x with|aQ=>(cases c;cases y with|aQ=>(cases a;exact PySem.EqNone.ne_none_none (cC I q (do 0)))|bl j=>(cases a;exact PySem.EqNone.ne_none_bool (cC I q (do 0)))|int j=>(obtain⟨t',rfl⟩:=a;exact PySem.EqNone.ne_none_int (cC I q (do 0)))|str j=>(obtain⟨t',rfl⟩:=a;exact PySem.EqNone.ne_none_str (cC I q (do 0)))|_=>exact absurd (show false=true from b) qr)|bl i=>(cases c;cases y with|aQ=>(cases a;exact PySem.EqNone.ne_bool_none (cC I q (do 0)))|bl j=>(cases a;exact ne_bool (cC I q (congrArg not IL)))|str j=>(obtain⟨t',rfl⟩:=a;exact PySem.EqMixed.ne_bool_str (cC I q (do 0)))|_=>exact absurd (show false=true from b) qr)|int i=>(obtain⟨t,rfl⟩:=c;cases y with|aQ=>(cases a;exact PySem.EqNone.ne_int_none (cC I q (do 0)))|int j=>(obtain⟨t',rfl⟩:=a;exact ne_int (cC I q (congrArg not J7)))|str j=>(obtain⟨t',rfl⟩:=a;exact PySem.EqMixed.ne_int_str (cC I q (do 0)))|_=>exact absurd (show false=true from b) qr)|str i=>(obtain⟨t,rfl⟩:=c;cases y with|aQ=>(cases a;exact PySem.EqNone.ne_str_none (cC I q (do 0)))|bl j=>(cases a;exact PySem.EqMixed.ne_str_bool (cC I q (do 0)))|int j=>(obtain⟨t',rfl⟩:=a;exact PySem.EqMixed.ne_str_int (cC I q (do 0)))|str j=>(obtain⟨t',rfl⟩:=a;exact ne_str (cC I q (congrArg not G_)))|_=>exact absurd (show false=true from b) qr)|oV i=>(obtain⟨t,rfl⟩:=c;cases y with|oV j=>(obtain⟨t',rfl⟩:=a;exact PySem.W.ne_bytes (cC I q (congrArg not Kf)))|_=>exact absurd (show false=true from b) qr)|_=>cases y <;> exact absurd (show false=true from b) qr
def yL:dm X (compareOp .Lt) (xY λi j=>.bl (decide (i<j))):=wh λ_ _ _ _ _ _ _ q=>lt_int q
def x6:dm X (compareOp .LtE) (xY λi j=>.bl (decide (i<=j))):=wh λ_ _ _ _ _ _ _ q=>le_int q
def eB:dm X (compareOp .Gt) (xY λi j=>.bl (decide (j<i))):=wh λ_ _ _ _ _ _ _ q=>gt_int q
def Gc:dm X (compareOp .GtE) (xY λi j=>.bl (decide (j<=i))):=wh λ_ _ _ _ _ _ _ q=>ge_int q
def HG:dm X (compareOp .Is) (λx y H Q=>y=.aQ/\Q (.bl (decide (x=.aQ))) H):=do(pins,s,σ,H,x,y,v,u,Q,I,a,b,h);{rfl,q}:=h;-b;is_none_gen (cC I q ?_);by cases x <;> first|cases a;rfl|obtain⟨t,rfl⟩:=a;rfl
def Gq:dm X (compareOp .IsNot) (λx y H Q=>y=.aQ/\Q (.bl (not (decide (x=.aQ)))) H):=do(pins,s,σ,H,x,y,v,u,Q,I,a,b,h);{rfl,q}:=h;-b;isnot_none_gen (cC I q ?_);by cases x <;> first|cases a;rfl|obtain⟨t,rfl⟩:=a;rfl
def NB(i:dm X (compareOp op) r)(c:PE X a ta)(f:PE X b tb)(d:behindInMarks op b=false):PE X (.Compare a [op] [b] pos) (uf r ta tb):=do _;{?_};(pins,s,σ,H,Q,I,h);wpAny_Compare1 (AY c f I h λv u s2 x y H2 e g j q=>i pins s2 σ H2 x y v u Q e g j q) d
inductive Az(Q:Bool->Hp->Prop)(x:V)(H':Hp):Prop
 |mk(k:_)(_:x=.bl k)(_:Q k H')
def rA(t:TE):TT:=λσ H Q=>t σ H λx H'=>Az Q x H'
def O9(A:dm X (compareOp op) r)(d:PE X a ta)(j:PE X b tb)(f:behindInMarks op b=false):PT X (.Compare a [op] [b] pos) (rA (uf r ta tb)):=do _;{?_};(pins,s,σ,H,Q,I,h);wpAny_isTrue_Compare1 (bI (d pins s σ H _ I h) λv m ⟨x,H1,o,n,w⟩=>bI (j pins m σ H1 _ o w) λu s2 ⟨y,H2,g,t,p⟩ => bI (A pins s2 σ H2 x y v u _ g n t p) λc C ⟨z,q,i,l,k,e,B⟩=>?_) f;!e;-l;wpAny_truthy_bool {q,i,B}
inductive vL(r':R2)(tc:TE)(σ:St)(Q:VK)(y z:V)(H3:Hp):Prop
 |mk(k:_)(_:z=.bl k)(_:(if k=true then tc σ H3 λw' H4=>r' y w' H4 Q else Q (.bl false) H3))
def AI(r b:R2)(ta tb tc:TE):TE:=λσ H Q=>ta σ H λx H1=>tb σ H1 λy H2=>r x y H2 λz a=>vL b tc σ Q y z a
def PC(K:dm X (compareOp op) r)(g:dm X (compareOp f) l)(B:PE X a ta)(F:PE X b tb)(V:PE X c tc)(C:lastMarks [op,f] [b,c]=false:=by with_unfolding_all rfl):PT X (.Compare a [op,f] [b,c] pos) (rA (AI r l ta tb tc)):=do _;{?_};(pins,s,σ,H,Q,I,h);isTrue_chain (bI (B pins s σ H _ I h) λv J ⟨x,H1,O,Z,R⟩=>test_link (bI (F pins J σ H1 _ O R) λu s2 ⟨y,H2,W,n,q⟩ => bI (K pins s2 σ H2 x y v u _ W Z n q) λd t ⟨z,j,m,Y,k,e,i⟩=>?_)) C;!e;-Y;wpAny_truthy_bool ?_;(by cases k with|false|true=>?_);{k',U,E}:=i;-U;ite_ff {j,m,E};ite_tt (test_last (bI (V pins t σ j _ m i) λN D ⟨w,L,o,G,M⟩=>bI (g pins D σ L y w u N _ o n G M) λd' s5 ⟨z2,A,S,P,k2,T,p⟩=>?_));!T;-P;wpAny_truthy_bool {A,S,p}
def pI:(sizeLine:Nat)<2 ^ 63:=by rw[sizeLine_eq];decide
inductive kZ(x y:V)(H:Hp)(Q:VK):Prop
 |mk(i j:_)(_:x=.str i)(_:y=.str j)(_:i.length+j.length<=sizeLine)(_:Q (.str (i++j)) H)
def vH:dm X (binaryOp .Add) kZ:=do(pins,s,σ,H,x,y,v,u,Q,I,b,a,h);{i,j,rfl,rfl,hz,q}:=h;{t,rfl}:=b;{t',rfl}:=a;add_str (λt' tk=>{.str (i++j),H,I.tok _,{_,O},q}) hz
def vals1(r:aJ [x] us):∃u,us=[u]/\RelV x u:=do(by cases r with|cons b a=>?_);-a;{_,O,b}
def vals2(r:aJ [x,y] us):∃u a,us=[u,a]/\RelV x u/\RelV y a:=do(by cases r with|cons d e=>?_;cases e with|cons c b=>?_);-b;{_,_,O,d,c}
inductive mC(xs:List V)(H:Hp)(Q:VK):Prop
 |mk(i j:_)(_:xs=[.int i,.int j])(_:Q (.int (if j>i then j else i)) H)
def QJ(b:X.calm=true):cB X (.builtin "max") mC:=do(pins,s,σ,H,xs,us,Q,I,r,h);{i,j,rfl,q}:=h;{u,c,rfl,{t,rfl},{t',rfl}}:=vals2 r;max_two_ints (I.ok.hd b) λh' tk k=>{_,H,I.kept k,?_,q};a<|j>i;[qF a,qF a];{_,O};[qB a,qB a];{_,O}
def AF:cB X (.type "int") (λxs H Q=>(∃i,xs=[.int i]/\Q (.int i) H)\/∃k,xs=[.bl k]/\Q (.int (if k then 1 else 0)) H):=do(pins,s,σ,H,xs,us,Q,I,r,h);{i,rfl,q}||{k,rfl,q}:=h;{u,rfl,t,rfl}:=vals1 r;call_int_int {.int i,H,I,{_,O},q};{u,rfl,a}:=vals1 r;-a;call_int_bool {.int (if k then 1 else 0),H,I.tok _,{_,O},q}
def MP(x:V)(H:Hp)(n:Nat):Prop := match x with|.str y=>y.length<=sizeLine/\n=y.length|.oV y=>y.size<=sizeLine/\n=y.size|.ref p=>(∃xs,az H p xs/\n=xs.length)\/∃xs,aV H p xs/\n=xs.length|_=>False
inductive ph(xs:List V)(H:Hp)(Q:VK):Prop
 |mk(x n:_)(_:xs=[x])(_:MP x H n)(_:Q (.int n) H)
def O':cB X (.builtin "len") (ph):=do(pins,s,σ,H,xs,us,Q,I,r,h);{x,n,rfl,e,q}:=h;{u,rfl,f}:=vals1 r;k:=pI;j:sizeLine=16777216:=sizeLine_eq;by cases x with|str y=>(obtain⟨t,rfl⟩:=f;obtain⟨i,b⟩:y.length<=sizeLine/\n=y.length:=e;subst b;exact len_str () {.int _,H,I.tok _,{_,O},q})|oV y=>(obtain⟨t,rfl⟩:=f;obtain⟨i,b⟩:y.size<=sizeLine/\n=y.size:=e;subst b;exact PySem.W.len_bytes () {.int _,H,I.tok _,{_,O},q})|ref p=>(cases f;have b:(∃xs,az H p xs/\n=xs.length)\/∃xs,aV H p xs/\n=xs.length:=e;rcases b with⟨xs,c,b⟩|⟨xs,c,b⟩;subst b;obtain⟨its,g,d,hz⟩:=I.list c;have a:=g.length;exact Calls.call_len_list d.isList (do#[_,List.size_toArray];()) {.int xs.length,H,I.tok _,{_,do#[_,List.size_toArray];[a]},q};subst b;obtain⟨its,g,d,hz⟩:=I.tuple c;have a:=g.length;exact len_tuple d (do#[_,List.size_toArray];()) {.int xs.length,H,I.tok _,{_,do#[_,List.size_toArray];[a]},q})|_=>exact(show False from e).elim
end
structure Fw(h:Heap)(x dx C:Sx)(mA:Sy->Option MD):Prop where
 obj:h.get? x=!(PySem.W.instObj C dx)
 ns:h.Ns1 dx mA
 ne:dx≠x
def Nh{h:Heap}{dx:Sx}{c:Sy->Option MD}(n:h.Ns1 dx c):∃od,h.get? dx=!od/\∀name,PySem.W.lookIn name od=!(c name):=do _;{o,es,ep,k,f,g,_,d}:=n;{o,k,λname=>?_};e:=d name;(by unfold nsFind findBy at e);e←[←Array.find?_toList];@PySem.W.lookIn;[f];(by dsimp only);3;(by rename_i y q);e←[q];congrArg some e;(by rename_i q);e←[q];a:es.toList.any (·.refKey)=false:=(do[ni];(y,j);{z,t,b}:=g y (j5.mp j);#[DictEntry.refKey,b]);i:¬es.toList.any (·.refKey)=true:=(do[a];qr);[qB i];congrArg some e
def Fw.look(I:Fw h x dx C a):∃od,PySem.W.InstAt h x (PySem.W.instObj C dx) C (!od)/\∀name,PySem.W.lookIn name od=some (a name) := let⟨od,b,c⟩:=Nh I.ns;{od,{I.obj,O,O,b},c}
def e_.some_of(r:e_ (!v) o):∃u,o=!u/\RelV v u:=do(by cases o with|none|some u=>?_);(show False from r).elim;{u,O,r}
section
variable {P:Program}{w:World}{H H':Hp}{h h':Heap}{a C dx:Sx}{fs fs':List (Sy×V)}
def QX(c:dn P w H h)(e:H a=!(.ins C dx fs)):∃b,Fw h a dx C b/\(∀f,e_ (fs.lookup f) (b f))/\PySem.Within b (fs.map (·.1))/\fs.length<=1000/\H dx=!(.own a):=do _;{d,z,ne,ob,b,n,r,q}:=(show aS P w H h a (.ins C dx fs) from c a _ e);{b,{ob,n,ne},r,q,z,d}
end
structure OK(K:PySem.W.Frag)(C:Sx):Prop where
 pg:PySem.W.plainGet K C Str.empty=true
 hd:PySem.W.hasDictIn K C=true
 po:PySem.W.plainOver K C=true
 sa:PySem.W.findIn K (.ref C) "__setattr__"=!(!(.builtin "object.__setattr__"))
def OK.get{K:PySem.W.Frag}{C:Sx}(c:OK K C)(f:Sy):PySem.W.plainGet K C f=true:=c.pg
section
variable {X:Cx}{pins:List (Sx×Obj)}{σ:St}{H:Hp}{s:Sv}{A:Around}{E:KE}{Q:KE}{c:MD}{b:Bool}
inductive fh(K:PySem.W.Frag)(H:Hp):V->MD->Prop where
 |aQ:fh K H .aQ (.type "NoneType")
 |bl (x:Bool):fh K H (.bl x) (.type "bool")
 |int (i:Int):fh K H (.int i) (.type "int")
 |str (x:Sy):fh K H (.str x) (.type "str")
 |FK (x:UInt64):fh K H (.FK x) (.type "float")
 |lst {a:Sx} {xs:List V} (e:H a=!(.lst xs)):fh K H (.ref a) (.type "list")
 |cI {a:Sx} {o:Obj} {xs:List V} (e:H a=!(.cI o (.lst xs))):fh K H (.ref a) (.type "list")
 |tup {a:Sx} {xs:List V} (e:H a=!(.tup xs)):fh K H (.ref a) (.type "tuple")
 |dK {a:Sx} {kvs:List (Key×V)} (e:H a=!(.dK kvs)):fh K H (.ref a) (.type "dict")
 |dT {a:Sx} {kvs:List (List Key×V)} (e:H a=!(.dT kvs)):fh K H (.ref a) (.type "dict")
 |dG {a:Sx} {kvs:List (KD×V×V)} (e:H a=!(.dG kvs)):fh K H (.ref a) (.type "dict")
 |ins {a C dx:Sx} {fs:List (Sy×V)} (e:H a=!(.ins C dx fs)) (cl:OK K C) (ha:PySem.W.findIn K (.ref C) "__class__"=!(!(.builtin "object.__class__")))
   (hn:PySem.W.specialIn K (.builtin "object.__class__") "__get__"=!(!(.builtin "getset_descriptor.__get__"))) (htk:PySem.W.takesIn K (.builtin "object.__class__")=!true)
   (hm:PySem.W.mroIn K C (.type "object")=!true):fh K H (.ref a) (.ref C)
def Nl(I:Inv X pins σ H s)(f:RelV x u)(ty:fh X.K H x t)(e:PySem.W.kitOne X.K t c=!b)(h:∀tk,Q (.bool b) {s with toks:=tk}) : wpAny (model X.prog X.w) A (call (.builtin "isinstance") [u,c]) Q E s:=do(by cases ty with|aQ|bl y|int i|str y|FK y|@lst a xs d|@cI a ob xs d|@tup a xs d|@dK a kvs d|@dT a kvs d|@dG a kvs d|@ins a C dx fs d cl j hn g k=>?_);-((show u=Value.none from f));PySem.W.kia_one PySem.W.kitx_none I.lY True.intro e (λz=>nomatch z) h;-((show u=Value.bool y from f));PySem.W.kia_one PySem.W.kitx_bool I.lY True.intro e (λz=>nomatch z) h;{t,q}:=(show ∃t,u=Value.int i t from f);-q;PySem.W.kia_one PySem.W.kitx_int I.lY True.intro e (λz=>nomatch z) h;{t,q}:=(show ∃t,u=Value.str y t from f);-q;PySem.W.kia_one PySem.W.kitx_str I.lY True.intro e (λz=>nomatch z) h;{t,q}:=(show ∃t,u=Value.float y t from f);-q;PySem.W.kia_one PySem.W.kitx_float I.lY True.intro e (λz=>nomatch z) h;-((show u=Value.ref a from f));{_,_,n,_,h1}:=(show aS X.prog X.w H s.heap a (.lst xs) from I.aR a _ d);PySem.W.kia_one PySem.W.kitx_list I.lY {_,h1,rfl} e (λz=>nomatch z) h;-((show u=Value.ref a from f));{_,_,_,n,_,h1}:=(show aS X.prog X.w H s.heap a (.cI ob (.lst xs)) from I.aR a _ d);PySem.W.kia_one PySem.W.kitx_list I.lY {_,h1,rfl} e (λz=>nomatch z) h;-((show u=Value.ref a from f));{_,_,_,p}:=(show aS X.prog X.w H s.heap a (.tup xs) from I.aR a _ d);{o,h1,h2,_}:=p;PySem.W.kia_one PySem.W.kitx_tuple I.lY {o,h1,h2} e (λz=>nomatch z) h;-((show u=Value.ref a from f));{_,_,vs,_,p}:=(show aS X.prog X.w H s.heap a (.dK kvs) from I.aR a _ d);{o,es,ep,h1,h2,_}:=p;PySem.W.kia_one PySem.W.kitx_dict I.lY {o,h1,h2.1} e (λz=>nomatch z) h;-((show u=Value.ref a from f));{_,_,xs,_,o,es,ep,h1,h2,_}:=(show aS X.prog X.w H s.heap a (.dT kvs) from I.aR a _ d);PySem.W.kia_one PySem.W.kitx_dict I.lY {o,h1,h2.1} e (λz=>nomatch z) h;-((show u=Value.ref a from f));{_,_,xs,_,o,es,ep,h1,h2,_}:=(show aS X.prog X.w H s.heap a (.dG kvs) from I.aR a _ d);PySem.W.kia_one PySem.W.kitx_dict I.lY {o,h1,h2.1} e (λz=>nomatch z) h;-((show u=Value.ref a from f));{l,O,_}:=QX I.aR d;{od,J,_}:=O.look;PySem.W.kia_one (PySem.W.kitx_own (cl.get _) cl.hd j hn g k) I.lY J e (λz=>nomatch z) h
end
structure bG(k:Nat)(A:Around):Prop where
 hd:A.handled=none
 dp:A.depth+3 * k+5<recursionLimit
 un:A.units+16 * k+200<cLine
 gd:A.guards=![]
def bG.mono{A:Around}(r:bG k A)(h:j<=k):bG j A:={r.hd,do this:=r.dp;(),do this:=r.un;(),r.gd}
theorem bG.deeper{A:Around}(r:bG (k+1) A)(env:Env):bG k (A.deeper env) := {r.hd,do this:=r.dp;¬A.depth+1+3 * k+5<_;(),do this:=r.un;¬A.units+3+16 * k+200<_;(),r.gd}
theorem bG.in1{A:Around}(r:bG (k+1) A):bG k A.in1 := {r.hd,do this:=r.dp;¬A.depth+3 * k+5<_;(),do this:=r.un;¬A.units+1+16 * k+200<_;(),r.gd}
theorem bG.depth{A:Around}(r:bG k A):A.depth<recursionLimit:=do this:=r.dp;()
theorem bG.units{A:Around}(r:bG k A):A.units+64<cLine:=do this:=r.un;()
def bG.uU{A:Around}(r:bG k A):A.units<cLine:=do this:=r.un;()
def AS:TA:=λ_ H Q=>Q [] H
def kI(ta:TE)(a:TA):TA:=λσ H Q=>ta σ H λx H1=>a σ H1 λxs H2=>Q (x::xs) H2
section
variable {X:Cx}{e:Expr}{es:List Expr}{te:TE}{t:TA}{pos:Pos}
def cS:PA X [] AS:={λ_ _ _ _ H Q I h=>Calls.spliced_nil {[],H,I,.nil,h}}
def CN(a:PE X e te)(l:PA X es t)(d:starEach (e::es) X.env=(false,eval e X.env)::starEach es X.env:=by rfl):PA X (e::es) (kI te t):=do _;{?_};(pos,pins,s,σ,H,Q,I,h);[d];¬wpAny _ _ (spliced ((false,eval e X.env)::backTo pos (starEach es X.env))) _ _ s;Calls.spliced_cons (bI (a pins s σ H _ I h) λu c ⟨x,H1,g,f,k⟩=>?_);bI (l pos pins c σ H1 _ g k) λus s2 ⟨xs,H2,b,j,i⟩=>{x::xs,H2,b,.cons f j,i}
end
abbrev Sp:=List V->Hp->VK->XK->Prop
abbrev u_:=List Env->Hp->Sv->XK->KE
structure f_(P:Program)(w:World)(K:PySem.W.Frag)(mg:Sy->Option MD)(base:Heap)(A:Around)(outer:List Env)(s:Sv)(H:Hp):Prop where
 frames:A.frames=!outer
 mod:Mod K mg base
 bs:∀b o,base.get? b=!o->s.heap.get? b=!o/\(H b=none\/∃xs,H b=!(.tup xs))
 tN:base.objs.size<=↑s
 ee:s.heap.FunFrames base outer
 xJ:∀b∈d_ outer,H b=none
 aR:dn P w H s.heap
 bare:AllBare s.gens
def CE(outer:List Env)(P:Program)(w:World)(H:Hp)(s:Sv)(Q:VK)(u:MD)(s':Sv):Prop := ∃v H',s'.os=s.os/\AllBare s'.gens/\Un (d_ outer) [] H H' s.heap s'.heap/\dn P w H' s'.heap/\RelV v u/\Q v H'
def CR(CX:u_)(outer:List Env)(P:Program)(w:World)(H:Hp)(s:Sv)(Q:VK)(E:XK)(r:Result)(s':Sv):Prop := match r with|.ok (.ret u)=>CE outer P w H s Q u s'|.ok _=>False|.error e=>CX outer H s E e s'
structure f9(P:Program)(w:World)(K:PySem.W.Frag)(mg:Sy->Option MD)(base:Heap)(CX:u_)(k:Nat)(f:Sx)(fd:FuncData)(ps:List Sy)(sp:Sp):Prop where
 len:∀vs H Q E,sp vs H Q E->vs.length=ps.length
 run:∀(A:Around) (outer:List Env) (s:Sv) (H:Hp) (args:Args) (us:List MD) (vs:List V) (Q:VK) (E:XK),bG k A->f_ P w K mg base A outer s H->BindsTo s fd args (ps.zip us)->aJ vs us->sp vs H Q E->
  codeAny (model P w) A (.call (.ref f) args) (CR CX outer P w H s Q E) s
section
variable {X:Cx}{pins:List (Sx×Obj)}{σ:St}{H:Hp}{s s':Sv}
def Inv.BL(I:Inv X pins σ H s):f_ X.prog X.w X.K X.mg X.base X.A X.stack s H := {I.ok.frames,I.ok.mod,I.bs,qg I.ok.tN I.sz,I.stack,I.oo,I.aR,I.bare}
def Inv.after(I:Inv X pins σ H s)(h:CE X.stack X.prog X.w H s Q u s'):EP X pins σ Q u s':=do _;{v,H',f,a,un,e,r,q}:=h;{i,g,d,t,c}:=s';(by obtain rfl:c=s.os:=f);{v,H',I.call (h':=i) (g':=g) (d':=d) (t':=t) (ch:=[]) un e a (λb z=>absurd z (do 0)),r,q}
end
def uD(sp:Sp)(l_:List V)(E:XK)(t:TA):TE:=λσ H Q=>t σ H λvs H1=>sp (vs++l_) H1 Q E
def Binds(K:PySem.W.Frag)(fd:FuncData)(ps:List Sy)(ds:List MD):Prop := ∀(s:Sv) (us:List MD),K.In s.heap->(us++ds).length=ps.length->BindsTo s fd {us,[]} (ps.zip (us++ds))
def Binds.all{K:PySem.W.Frag}{fd:FuncData}{ps:List Sy}(h:∀us:List MD,us.length=ps.length->bindArgs fd {us,[]}=pure (ps.zip us)):Binds K fd ps []:=λs us _ a=>do(by rw[wx]at a ⊢);.of_eq (h us a)
def mL(CX:u_)(X:Cx)(E:XK):Prop:=∀(pins:List (Sx×Obj)) (σ:St) (H:Hp) (s:Sv) (e:MD) (s':Sv),Inv X pins σ H s->CX X.stack H s E e s'->X.xe e s'
section
variable {X:Cx}{CX:u_}{k:Nat}{f C:Sx}{fd:FuncData}{ps:List Sy}{sp:Sp}{l_:List V}{ds:List MD}{E:XK}{x m:Sy}{p pos apos:Pos}{e o:Expr}{es:List Expr}{ta:TE}{t:TA}
def BE{pins:List (Sx×Obj)}{σ:St}{H:Hp}{s:Sv}{Q:VK}{us:List MD}{vs:List V}(F:f9 X.prog X.w X.K X.mg X.base CX k f fd ps sp)(j:bG k X.A)(g:Binds X.K fd ps ds)(c:aJ l_ ds)(d:mL CX X E)(I:Inv X pins σ H s)(r:aJ vs us)(h:sp (vs++l_) H Q E):wpAny (model X.prog X.w) X.A (call (.ref f) us) (EP X pins σ Q) X.xe s:=do b:aJ (vs++l_) (us++ds):=r.append c;i:(us++ds).length=ps.length:=(do[←b.length];F.len _ _ _ _ h);wpAny_call (codeAny_mono (F.run X.A X.stack s H {us,[]} (us++ds) (vs++l_) Q E j I.BL (g s us I.lY i) b h) λr s' a=>?_);(by cases r with|error e|ok fl=>?_);d pins σ H s e s' I a;(by cases fl with|ret u|next|brk|cont=>?_);I.after a;False.elim a;False.elim a;False.elim a
def Kk(F:f9 X.prog X.w X.K X.mg X.base CX k f fd ps sp)(u:bG k X.A)(o:Gl X x)(d:X.mg x=!(.ref f))(j:PySem.W.keepIn X.K (.ref f)=true)(n:Binds X.K fd ps ds)(l:aJ l_ ds)(m:mL CX X E)(g:PA X (e::es) t)(a:(x==("__debug__":Sy))=false:=by decide)(i:starEach (e::es) X.env=(false,eval e X.env)::starEach es X.env:=by rfl)(b:(backTo pos (starEach es X.env)).any (·.1)=false:=by rfl) : PE X (.Call (.Name x p) (e::es) [] pos) (uD sp l_ E t):=do _;{?_};(pins,s,σ,H,Q,I,h);wpAny_Call_Name_kw (AB I o d ?_ a);PySem.W.callWith_K (h₀:=X.base) I.ok.mod.LQ j (bI (g pos pins s σ H _ I h) λus v ⟨vs,H1,c,r,q⟩=>{c.lY,?_}) i b;BE F u n l m c r q
end
structure ax(N P:List Sy)(sc:Scope):Prop where
 kind:sc.kind=.function
 co:sc.isCoroutine=false
 gen:sc.isGenerator=false
 nd:N.Nodup
 pre:N.take P.length=P
 par:∀x∈P,sc.names.lookup x=some .local\/sc.names.lookup x=some .cell
 Fv:∀y∈sc.names,y.2≠.free
theorem J8:∀{binds:List (Sy×MD)} {m:Sy->Option MD},(∀v,(x,v)∉binds)->bindL a binds m x=m x|[],_,_=>rfl|(n,v)::r,m,h=>do@bindL;[J8 λw b=>h w (qy _ b)];3;this:x≠n:=(do(rfl);h v qm);#[this];2
theorem GG:∀{binds:List (Sy×MD)} {m:Sy->Option MD},(∀v,(x,v)∉binds)->bindC a binds m x=m x|[],_,_=>rfl|(n,v)::r,m,h=>do@bindC;[GG λw b=>h w (qy _ b)];3;2;this:x≠n:=(do(rfl);h v qm);#[this]
theorem JY:∀{P:List Sy} {vs:List MD} {i:Nat} {m:Sy->Option MD},P.Nodup->P[i]?=!x->vs[i]?=!v->a x=some .local-> bindL a (P.zip vs) m x=!v|[],_,_,_,_,h,_,_=>(do h←0)|_::_,[],_,_,_,_,h,_=>(do h←0)|p::P,w::vs,0,m,nd,h1,h2,hk=>(do(by simp at h1 h2);!h1;!h2;¬bindL a ((p,w)::P.zip vs) m p=_;@bindL;[J8 λv b=>(z6.mp nd).1 (kg b).1,qF hk];0)|p::P,w::vs,i+1,m,nd,h1,h2,hk=>do¬bindL a ((p,w)::P.zip vs) m x=_;@bindL;JY (i:=i) (List.nodup_cons.mp nd).2 (do 0<|h1) (do 0<|h2) hk
theorem IF:∀{P:List Sy} {vs:List MD} {i:Nat} {m:Sy->Option MD},P.Nodup->P[i]?=!x->vs[i]?=!v->a x≠some .local-> bindC a (P.zip vs) m x=!v|[],_,_,_,_,h,_,_=>(do h←0)|_::_,[],_,_,_,_,h,_=>(do h←0)|p::P,w::vs,0,m,nd,h1,h2,hk=>(do(by simp at h1 h2);!h1;!h2;¬bindC a ((p,w)::P.zip vs) m p=_;@bindC;[GG λv b=>(z6.mp nd).1 (kg b).1,qB hk];0)|p::P,w::vs,i+1,m,nd,h1,h2,hk=>do¬bindC a ((p,w)::P.zip vs) m x=_;@bindC;IF (i:=i) (List.nodup_cons.mp nd).2 (do 0<|h1) (do 0<|h2) hk
def start(N:List Sy)(vs:List V):St:=vs.map some++List.replicate (N.length - vs.length) none
def kB(CX:u_)(P:Program)(w:World)(K:PySem.W.Frag)(mg:Sy->Option MD)(base:Heap)(N:List Sy)(qual:Sy)(a:Scope)(f:Sx)(cd:MD)(A:Around)(outer:List Env)(s:Sv)(H:Hp)(E:XK):Cx where
 prog:=P
 w:=w
 K:=K
 mg:=mg
 base:=base
 A:=A.deeper (envOfC qual a ↑s f cd)
 N:=N
 s₀:=s
 H₀:=H
 env:=envOfC qual a ↑s f cd
 outer:=outer
 stack:=envOfC qual a ↑s f cd::outer
 ex:=[]
 calm:=true
 fn:=λ_=>true
 pn:=[]
 xe:=λe s'=>wpAny (model P w) (A.deeper (envOfC qual a ↑s f cd)) (leaving (envOfC qual a ↑s f cd) e) (λ_ b=>CX outer H s E e b) (λc b=>CX outer H s E c b) s'
def fM{a:Scope}{n:Nat}{x:Sy}(h:a.names.lookup x=some .cell):∃c,(cellsFrom n a.names []).lookup x=!c:=do q:=PySem.W.cellsFrom_some a.names n [] (.inl h);kh.mp q
def QI{CX:u_}{P:Program}{w:World}{K:PySem.W.Frag}{mg:Sy->Option MD}{base:Heap}{N ps:List Sy}{qual:Sy}{d:Scope}{f:Sx}{cd:MD}{A:Around}{outer:List Env}{s t:Sv}{H:Hp}{E:XK}{us:List MD}{vs:List V}(S:ax N ps d)(D:A.handled=none)(g:f_ P w K mg base A outer s H)(J:vs.length=ps.length)(r:aJ vs us)(x:InCallC s ↑s (bindL (envOfC qual d ↑s f cd).kindOf (ps.zip us) λ_=>none) (cellsFrom (↑s+1) d.names []) (bindC (envOfC qual d ↑s f cd).kindOf (ps.zip us) λ_=>none) t) : Inv (kB CX P w K mg base N qual d f cd A outer s H E) [] (start N vs) H t:=do G:ps.length<=N.length:=(do this:=congrArg List.length S.pre;this←[wv];());{h1,tk,rfl,o}:=x.done;j:∀b:Sx,b∉(kB CX P w K mg base N qual d f cd A outer s H E).ex:=λb z=>absurd (show b∈([]:List Sx) from z) (do 0);{{g.mod,S.kind,O,O,qe _,λy z c h1 h2=>?_,λy l=>?_,λy c _ h=>?_,λ_=>D,Around.frames_deeper g.frames,.inr {O,O},λb z=>absurd z (j b),g.bs,g.tN,λb _ _=>j b,λb z=>absurd z (j b),g.ee,g.xJ},rfl,g.bare,Un.kept o,{_,x.toInCall.ns,λi y v h1 h2 I=>?_},λy c h=>{_,x.cell y c h},g.aR.fresh (Nat.le_refl _),λy c h=>?_,λp hp=>absurd (show p∈([]:List (Sx×Obj)) from hp) (do 0),g.aR.kept o,?_};name_of_addr x.apart (PySem.mem_of_lookup h1) (PySem.mem_of_lookup h2);l:d.names.lookup y=some .cell\/d.names.lookup y=some .free:=l;l||l:=l;fM l;absurd rfl (S.Fv _ (PySem.mem_of_lookup l));ww (x.above y c (PySem.mem_of_lookup h));hi:i<vs.length:=(do(by unfold start at h2);hi<|i<vs.length;hi;h2←[List.getElem?_append_right (do 0<|hi)];h2←[List.getElem?_replicate];by split at h2 <;> cases h2);C:vs[i]?=!v:=(do(by unfold start at h2);h2←[List.getElem?_append_left (do 0<|hi),List.getElem?_map];(by cases e:vs[i]? with|none|some a=>?_);h2←[e];-h2;h2←[e];-h2;2);{u,B,F}:=r.get C;hp:ps[i]?=!y:=(do[←S.pre,ki ()];h1);m:ps.Nodup:=(do[←S.pre];S.nd.sublist (kj _ _));{u,F,?_};k||k:=S.par y (qw hp);.inl ⟨k,JY m hp B k⟩;{c,e}:=fM (n:=↑s+1) k;.inr {.inl k,c,e,?_};q:=x.cell y c e;q←[IF m hp B (do¬d.names.lookup y≠_;[k];by decide)];q;g.aR.fresh (ww (x.above y c (PySem.mem_of_lookup h)));@start;¬_=N.length;[qi,qj,j6];()
def ud{CX:u_}{P:Program}{w:World}{K:PySem.W.Frag}{mg:Sy->Option MD}{base:Heap}{k:Nat}{f:Sx}{name qual:Sy}{d:Arguments}{g:List Stmt}{a:Scope}{M kV l O c L oc:MD}{X od:Option Sx}{G:Array (Option MD)}{N ps:List Sy}{sp:Sp}(lk:K.lookup f=some {oc,od,.func (PySem.W.fnOf name qual d g a M kV l O X c L),G})(D:PySem.W.codeIn K c qual=true)(S:ax N ps a)(len:∀vs H Q E,sp vs H Q E->vs.length=ps.length)(i:∀(A:Around) (outer:List Env) (s:Sv) (H:Hp) (vs:List V) (Q:VK) (E:XK),bG k (A.deeper (envOfC qual a ↑s f c))->sp vs H Q E-> ∃t,iG (kB CX P w K mg base N qual a f c A outer s H E) g t/\t {nx:=λ_ H'=>Q .aQ H',rt:=Q} (start N vs) H) : f9 P w K mg base CX (k+1) f (PySem.W.fnOf name qual d g a M kV l O X c L) ps sp:=do _;{len,λA outer s H T us vs Q E F z Z r m=>?_};hl:=len _ _ _ _ m;U:K.In s.heap:=z.mod.LQ.keeps λb o e=>(z.bs b o e).1;C:s.heap.NoLimit:=z.mod.nolimit.keeps λb o e=>(z.bs b o e).1;h:∀y∈ps.zip us,a.names.lookup y.1=some .local\/(a.names.lookup y.1=some .cell/\((cellsFrom (↑s+1) a.names []).lookup y.1).isSome=true):=λ⟨n,v⟩ hy=>(do q||q:=S.par n (kg hy).1;.inl q;.inr ⟨q,PySem.W.cellsFrom_some _ _ _ (.inl q)⟩);codeAny_call_function F.depth (U _ _ lk) rfl S.co S.gen rfl (PySem.W.codeRec_of U D) (Z _ _ _ _ ?_);wpAny_newFunctionEnv_cells S.kind h λenv he R x=>?_;!he;{C.keeps x.toInCall.keep,codeAny_func ?_};{t,Y,hq}:=i A outer s H vs Q E (F.deeper _) m;I:Inv (kB CX P w K mg base N qual a f c A outer s H E) [] (start N vs) H R:=QI S F.hd z hl r x;qM (Y [] R (start N vs) H _ I hq) (λfl s' j=>?_) λe s' j=>j;p:∀{σ':St} {H':Hp} {v:V} {u:MD},Inv (kB CX P w K mg base N qual a f c A outer s H E) [] σ' H' s'->RelV v u->Q v H'->CE outer P w H s Q u s':=λ{σ' H' v u} J B q=>{v,H',J.os,J.bare,J.base,J.aR,B,q};(by cases fl with|ret u|next|brk|cont=>?_);{v,σ',H',J,B,q}:=j;p J B q;{σ',H',J,q}:=j;p (v:=V.aQ) (u:=Value.none) J rfl q;{_,_,_,q}:=j;False.elim q;{_,_,_,q}:=j;False.elim q
section
variable {X:Cx}{x:Sy}{p pos:Pos}{e:Expr}{es:List Expr}{t:TA}{id T:String}{r:List V->Hp->VK->Prop}
def F6(r:List V->Hp->VK->Prop)(t:TA):TE:=λσ H Q=>t σ H λvs H1=>r vs H1 Q
def Oq(d:cB X (.builtin id) r)(n:Gl X x)(c:X.mg x=none)(i:bootBuiltins x=!(.builtin id))(f:PA X (e::es) t)(hn:x≠"__name__":=by decide)(a:(x==("__debug__":Sy))=false:=by decide)(g:starEach (e::es) X.env=(false,eval e X.env)::starEach es X.env:=by rfl)(b:(backTo pos (starEach es X.env)).any (·.1)=false:=by rfl):PE X (.Call (.Name x p) (e::es) [] pos) (F6 r t):=do _;{?_};(pins,s,σ,H,Q,I,h);wpAny_Call_Name_kw (iq I n c i ?_ hn a);PyProof.Rows.callWith_builtin1 (bI (f pos pins s σ H _ I h) λus j ⟨vs,H1,l,k,m⟩=>d pins j σ H1 vs us Q l k m) g b
def Ox(d:cB X (.type T) r)(n:Gl X x)(c:X.mg x=none)(i:bootBuiltins x=!(.type T))(f:PA X (e::es) t)(hn:x≠"__name__":=by decide)(a:(x==("__debug__":Sy))=false:=by decide)(g:starEach (e::es) X.env=(false,eval e X.env)::starEach es X.env:=by rfl)(b:(backTo pos (starEach es X.env)).any (·.1)=false:=by rfl):PE X (.Call (.Name x p) (e::es) [] pos) (F6 r t):=do _;{?_};(pins,s,σ,H,Q,I,h);wpAny_Call_Name_kw (iq I n c i ?_ hn a);PyProof.Rows.callWith_type1 (bI (f pos pins s σ H _ I h) λus j ⟨vs,H1,l,k,m⟩=>d pins j σ H1 vs us Q l k m) g b
end
end L2
namespace HT
open PySem PyProof.Rows
def lexLt:List Int->List Int->Bool|[],[]=>false|[],_::_=>true|_::_,[]=>false|x::xs,y::ys=>if x=y then lexLt xs ys else decide (x<y)
def eM(x y:Int)(xs ys:List Int):lexLt (x::xs) (y::ys)=if x=y then lexLt xs ys else decide (x<y):=rfl
def Nt:lexLt [] []=false:=rfl
def PQ(y:Int)(ys:List Int):lexLt [] (y::ys)=true:=rfl
def M9(x:Int)(xs:List Int):lexLt (x::xs) []=false:=rfl
def OQ(A:Around)(s:Sv)(a:Int)(t:Tok)(c:Int)(u:Tok):∃e,SeqAt.EqAt A s (.int a t) (.int c u) e/\(e=true↔a=c) := {(a==c),SeqAt.EqAt.int_int a t c u,do 0}
def QG(A:Around)(s:Sv)(a:Int)(t:Tok)(c:Int)(u:Tok)(prog:Program)(w:World)(E:KE)(Q:KE)(h:Q (.bool (decide (a<c))) s) : wpAny (model prog w) A (richCompare .Lt (.int a t) (.int c u)) Q E s := (PyProof.Rows.lt_int h:wpAny (model prog w) A (compareOp .Lt (.int a t) (.int c u)) Q E s)
section
open PySem.SeqAt
open PySem.AutoSeq1 (wpAny_loadPart')
open PySem.MeetsSeq PySem.MeetsSeq2 PySem.MeetsSeq3
def P6(l b:Sx)(items f:Array MD)(n L:Nat)(I E:Option Sx)(sl D:Array (Option MD))(ns ms:List Int)(hi:IntsAre items.toList ns)(G:IntsAre f.toList ms) : Meets (Builtin.«tuple.__lt__» {[.ref l,.ref b],[]}) (λ_ R s=>s.heap.get? l=some {cls:=.type "tuple",dict:=I,data:=.seq items n,slots:=sl}/\s.heap.get? b=some {cls:=.type "tuple",dict:=E,data:=.seq f L,slots:=D} ∧ R (.ok (.ret (.bool (lexLt ns ms)))) s) := .of_wp λprog w A R s h=>do _;{hp,g,d,tk,C}:=s;{N,K,h}:=h;S:=AutoSeq1.sub_tuple_tuple;Q:items.size=ns.length:=(do[←hi.length];0);P:f.size=ms.length:=(do[←G.length];0);by wp_walk using wpAny_loadPart' N,wpAny_loadPart' K,wpAny_forIn_list _ (λrest b s'=>b.1=none/\s'={hp,g,d,tk,C}/\∃(vs ws:List MD) (k j:List Int),rest=vs.zip ws ∧ IntsAre vs k/\IntsAre ws j/\k.length+f.size=j.length+items.size/\R (.ok (.ret (.bool (lexLt k j)))) {hp,g,d,tk,C}) _;(case turn =>(rintro⟨y,x⟩ rest b s' ⟨v,rfl,vs,ws,k,j,hz,r,m,i,p⟩;cases r with|nil|cons a t B=>?_;rw[List.zip_nil_left]at hz;cases hz;cases m with|nil|cons c u z=>?_;rw[List.zip_nil_right]at hz;cases hz;rw[nj]at hz;injection hz with hyx hrest;injection hyx with hy hx;subst hy hx;rw[eM]at p;simp only[List.length_cons]at i;obtain⟨e,M,o⟩:=OQ A.in1 {hp,g,d,tk,C} a t c u;refine qA (M prog w _ _ ?_);cases e with|true|false=>?_;rw[qF (o.mp rfl)]at p;wp_walk;exact{O,O,_,_,_,_,hrest,B,z,(),p};rw[qB (λq=>absurd (o.mpr q) qr)]at p;have F:=QG A.in1 {hp,g,d,tk,C} a t c u prog w;wp_walk using F;exact{_,O,do 0<|p}));(case fin =>(rintro⟨U,T⟩ s' ⟨v,rfl,vs,ws,k,j,hz,r,m,i,p⟩;simp only at v;subst v;have H:lexLt k j=decide (items.size<f.size):=(do(by cases r with|nil|cons a t H=>?_;cases m with|nil|cons c u J=>?_);i←#[_,List.length_nil];[Nt];(decide_eq_false ()).symm;i←#[_,List.length_nil,List.length_cons];[PQ];(qI ()).symm;(by cases m with|nil|cons c u J=>?_);i←#[_,List.length_nil,List.length_cons];[M9];(decide_eq_false ()).symm;hz←[nj];-hz);rw[H]at p;wp_walk;exact{_,O,by simpa[Builtin.Tuple.tupleCompareSizes] using p}));case h =>exact{O,O,items.toList,f.toList,ns,ms,O,hi,G,(),h}
end
section
variable {prog:Program}{w:World}{A:Around}{E:KE}{s:Sv}
def mu(v:IsTup s.heap l items)(q:IsTup s.heap b a)(hi:IntsAre items.toList ns)(o:IntsAre a.toList ms)(u:A.units<cLine)(h:Q (.bool (lexLt ns ms)) s):wpAny (model prog w) A (compareOp .Lt (.ref l) (.ref b)) Q E s:=do _;{{t,p,data,sl},m,i,n,k}:=id v;{{j,e,f,g},c,d,r,hd2}:=id q;(by simp only at i k d hd2;subst i k d hd2);richCompare_meets_room (op:=.Lt) {_,m,O} {_,c,O} PySem.F.slot_tuple_lt PySem.F.entry_tuple_lt (PySem.F.args_tuple_lt_2 _ _) (P6 l b items a n r p e sl g ns ms hi o) {m,c,show Value.bool (lexLt ns ms)≠Value.notImplemented/\Q (.bool (lexLt ns ms)) s from{(λx=>nomatch x),h}} u
def wL(r:IsTup s.heap t vs.toArray)(q:IsTup s.heap b ws.toArray)(m:vs≠[])(h1:ws=[]->Q (.ref t) s)(h2:ws≠[]->Q (.ref ↑s) {s with heap:=s.heap.push {cls:=.type "tuple",data:=.seq (vs++ws).toArray}})(hsz:vs.length+ws.length<=sizeLine):wpAny (model prog w) A (binaryOp .Add (.ref t) (.ref b)) Q E s:=do _;{{cls,o,data,sl},h,j,n,k}:=id r;{{l,c,i,d},a,f,p,hd2}:=id q;(by simp only at j k f hd2;subst j k f hd2);e:vs.toArray++ws.toArray=(vs++ws).toArray:=(do 0);g<|ws=[];concat_meets {_,h,O} {_,a,O} noFill_tuple_add seq_tuple_add PySem.F.slot_tuple_add PySem.F.entry_tuple_add (PySem.F.args_tuple_add_2 _ _) (tuple_addW1 t b vs.toArray ws.toArray n p o c sl d (do 0<|m) (do#[g])) {h,a,h1 g};concat_meets {_,h,O} {_,a,O} noFill_tuple_add seq_tuple_add PySem.F.slot_tuple_add PySem.F.entry_tuple_add (PySem.F.args_tuple_add_2 _ _) (tuple_addW2 t b vs.toArray ws.toArray n p o c sl d (do 0<|m) (do 0<|g) (do[List.size_toArray,List.size_toArray];hsz)) {h,a,?_};[e];h2 g
def b_(n d:Nat):Option Int->Nat|none=>d|some v=>if v<0 then(v+(n:Int)).toNat else min v.toNat n
def rD(n d:Nat):b_ n d none=d:=rfl
def oQ(n d k:Nat):b_ n d (!(k:Int))=min k n:=do¬(if(k:Int)<0 then((k:Int)+(n:Int)).toNat else min (k:Int).toNat n)=min k n;[qB (),Int.toNat_natCast]
def B0(n d:Nat)(b:d<=n)(o:Option Int):b_ n d o<=n:=do(by cases o with|none|some v=>?_);b;¬(if v<0 then(v+(n:Int)).toNat else min v.toNat n)<=n;a<|v<0;[qF a];();[qB a];jh _ _
def KY(v:Int)(n d:Nat):(if v<0 then max (v+(n:Int)) 0 else min v (n:Int))=((b_ n d (!v):Nat):Int):=do¬(if v<0 then max (v+(n:Int)) 0 else min v (n:Int))=(((if v<0 then(v+(n:Int)).toNat else min v.toNat n):Nat):Int);a<|v<0;#[_,if_pos a];();#[_,if_neg a];()
def M2(lo hi:Option Int)(n:Nat):Builtin.Slice.sliceAdjust lo hi 1 (n:Int)=(((b_ n 0 lo:Nat):Int),((b_ n n hi:Nat):Int)):=do h1:¬((1:Int)<0):=();@Builtin.Slice.sliceAdjust;#[_,h1,if_false];Prod.ext ?_ ?_;(by cases lo with|none|some v=>?_);2;KY v n 0;(by cases hi with|none|some v=>?_);2;KY v n n
def MK(i j:Nat):Builtin.Slice.slicePlaces (i:Int) (j:Int) 1=j - i:=do@Builtin.Slice.slicePlaces;h1:(1:Int)>0:=();#[_,h1,if_true,Int.ediv_one];by split <;> omega
def GL(p:IsPart v o)(h:Q o s):wpAny (model prog w) A (Builtin.Slice.slicePartIndex v) Q E s:=do(by cases p with|none|int i t=>?_);slicePart_none h;slicePart_int h
def MX{sl:Sx}{c d:MD}{lo hi:Option Int}{n:Nat}{Q:Int×Int×Nat->Sv->Prop}(g:s.heap.IsSliceOf sl c d .none)(f:IsPart c lo)(e:IsPart d hi)(h:Q (((b_ n 0 lo:Nat):Int),1,b_ n n hi - b_ n 0 lo) s):wpAny (model prog w) A (Builtin.Slice.sliceApplied (.ref sl) (pure (n:Int))) Q E s:=do _;{j,b,i,a}:=id g;(by unfold Builtin.Slice.sliceApplied Builtin.Slice.sliceFields);qA (qA (wpAny_field b a (x:=c) rfl (qA (wpAny_field b a (x:=d) rfl (qA (wpAny_field b a (x:=.none) rfl (qE ?_)))))));qA (slicePart_none ?_);¬wpAny _ _ (if((1:Int)==0)=true then _ else _) _ _ s;[qB ⋯];qA (GL f (qA (GL e (qA (qE ?_)))));¬wpAny _ _ (match Builtin.Slice.sliceAdjust lo hi 1 (n:Int) with|(lo,hi)=>pure (lo,(1:Int),Builtin.Slice.slicePlaces lo hi 1)) _ _ s;[M2 lo hi n];¬wpAny _ _ (pure (((b_ n 0 lo:Nat):Int),(1:Int),Builtin.Slice.slicePlaces ((b_ n 0 lo:Nat):Int) ((b_ n n hi:Nat):Int) 1)) _ _ s;[MK];qE h
def OB(xs:Array MD)(i k:Nat):((List.range k).filterMap λ(m:Nat)=>xs[((i:Int)+(m:Int) * 1).toNat]?).toArray=((xs.toList.drop i).take k).toArray:=do e:(λ(m:Nat)=>xs[((i:Int)+(m:Int) * 1).toNat]?)=λm=>xs[i+m]?:=(by funext m;have:((i:Int)+(m:Int) * 1).toNat=i+m:=();rw[this]);[e];this:=pick_run xs i k;this←[List.filterMap_map];a:((λx=>xs[x]?)∘λx=>i+x)=λm=>xs[i+m]?:=rfl;this←[a];[this]
def eV{t sl:Sx}{items:Array MD}{g j:MD}{lo hi:Option Int}{Q:KE}(b:IsTup s.heap t items)(i:s.heap.IsSliceOf sl g j .none)(l:IsPart g lo)(k:IsPart j hi)(p:¬(b_ items.size 0 lo=0/\b_ items.size items.size hi=items.size))(h:Q (.ref ↑s) {s with heap:=s.heap.push {cls:=.type "tuple",data:=.seq ((items.toList.drop (b_ items.size 0 lo)).take (b_ items.size items.size hi - b_ items.size 0 lo)).toArray}})(hsz:items.size<=sizeLine):wpAny (model prog w) A (getItem (.ref t) (.ref sl)) Q E s:=do a:sizeOk (.seq ((items.toList.drop (b_ items.size 0 lo)).take (b_ items.size items.size hi - b_ items.size 0 lo)).toArray):=(do¬((items.toList.drop (b_ items.size 0 lo)).take (b_ items.size items.size hi - b_ items.size 0 lo)).toArray.size<=sizeLine;[zg,wv,yf,zx];());r:b_ items.size items.size hi<=items.size:=B0 _ _ (qe _) hi;{n,d,e,o}:=id i;f:s.TypeIs (.ref sl) "slice":={n,d,e};@getItem;(by(try with_reducible refine qK ?_);first|refine qA (qE ?_)|skip);qA (wpAny_sequenceKey b.typeIs ⋯ ?_);qA (wpAny_callSpecial?_slot (name:=Str.ofString "__getitem__") b.typeIs PyProof.Rows.slot_tuple_getitem (qN PyProof.Rows.slot_tuple_getitem b.typeIs entry_tuple_getitem ?_ (args_tuple_getitem _ _)));¬wpAny _ _ (Builtin.Tuple.tupleItemsOf (.ref t) >>= _) _ _ s;qA (tupleItemsOf_ b ?_);qA (wpAny_typeOf f ?_);[qF ⋯];qA (MX i l k ?_);c:¬((((b_ items.size 0 lo:Nat):Int)==0&&(1:Int)==1&&(b_ items.size items.size hi - b_ items.size 0 lo)==items.size)=true):=(do(q);q←[zt,zt];v:((b_ items.size 0 lo:Nat):Int)=0:=eq_of_beq q.1.1;u:b_ items.size items.size hi - b_ items.size 0 lo=items.size:=eq_of_beq q.2;p {(),()});¬wpAny _ _ (if(((b_ items.size 0 lo:Nat):Int)==0&&(1:Int)==1&&(b_ items.size items.size hi - b_ items.size 0 lo)==items.size)=true then _ else _) _ _ s;[qB c,OB];by first|exact qA (m:=Builtin.Tuple.tupleExact _) (wpAny_newObj_type (qE ⟨_,O,qE h⟩) a)|exact qA (m:=Builtin.Tuple.tupleExact _) (wpAny_newObj_type (qA (qE (qE ⟨_,O,qE h⟩))) a)|exact qA (qA (m:=Builtin.Tuple.tupleExact _) (wpAny_newObj_type (qE (qE ⟨_,O,qE h⟩)) a))|exact qA (qA (m:=Builtin.Tuple.tupleExact _) (wpAny_newObj_type (qE ⟨_,O,qE h⟩) a))
end
end HT
namespace L2
open PySem PySem.Spec PyProof.Rows
abbrev TO:=St->Hp->(Option Int->Hp->Prop)->Prop
def Rw(X:Cx)(e:Option Expr)(t:TO):Prop := ∀(pins:List (Sx×Obj)) (s:Sv) (σ:St) (H:Hp) (Q:Option Int->Hp->Prop),Inv X pins σ H s->t σ H Q-> wpAny (model X.prog X.w) X.A (evalPart e X.env) (λu s'=>∃o H',Inv X pins σ H' s'/\IsPart u o/\Q o H') X.xe s
structure PO(X:Cx)(e:Option Expr)(t:TO):Prop where run:Rw X e t
instance Si{X:Cx}{e:Option Expr}{t:TO}:CoeFun (PO X e t) λ_=>Rw X e t:={PO.run}
def xk:TO:=λ_ H Q=>Q none H
inductive ER(Q:Option Int->Hp->Prop)(x:V)(H1:Hp):Prop
 |mk(i:_)(_:x=.int i)(_:Q (!i) H1)
def Lm(t:TE):TO:=λσ H Q=>t σ H λx H1=>ER Q x H1
def Jq:∀{us:List MD},aJ (ns.map V.int) us->IntsAre us ns:=do(by induction ns with|nil|cons n ns a=>?_);(us,r);r←[j7];-r;.nil;(us,r);r←[zn];(by cases r with|cons c b=>?_);{t,e}:=c;!e;.cons n t (a b)
section
variable {X:Cx}{e:Expr}{te:TE}{lo hi:Option Expr}{tl th:TO}{pos p2:Pos}
def Fj:PO X none xk:=do _;{?_};(pins,s,σ,H,Q,I,h);[evalPart_none];qE {none,H,I,.none,h}
def fT(h:PE X e te):PO X (!e) (Lm te):=do _;{?_};(pins,s,σ,H,Q,I,d);[evalPart_some];bI (h pins s σ H _ I d) λu f ⟨x,H1,b,a,c⟩=>?_;{i,rfl,q}:=c;{t,rfl}:=a;{!i,H1,b,.int i t,q}
def vU(X:Cx)(r:V->Option Int->Option Int->Hp->VK->Prop):Prop := ∀(pins:List (Sx×Obj)) (s:Sv) (σ:St) (H:Hp) (x:V) (v a b:MD) (lo hi:Option Int) (sl:Sx) (Q:VK),Inv X pins σ H s->RelV x v->s.heap.IsSliceOf sl a b .none->IsPart a lo->IsPart b hi->r x lo hi H Q-> ∃T id,typeLookup (.type T) "__getitem__"=pure (!(.builtin id))/\s.TypeIs v T/\wpAny (model X.prog X.w) X.A (getItem v (.ref sl)) (EP X pins σ Q) X.xe s
def Sa(r:V->Option Int->Option Int->Hp->VK->Prop)(te:TE)(tl th:TO):TE:=λσ H Q=>te σ H λx H1=>tl σ H1 λl H2=>th σ H2 λu a=>r x l u a Q
def p8(y:vU X r)(z:PE X e te)(G:PO X lo tl)(p:PO X hi th):PE X (.Subscript e (.Slice lo hi none p2) pos) (Sa r te tl th):=do _;{?_};(pins,s,σ,H,Q,I,h);Subscript_ (bI (z pins s σ H _ I h) λv o ⟨x,H1,B,F,C⟩=>?_);wpAny_Slice (bI (G pins o σ H1 _ B C) λc s2 ⟨l,H2,D,n,j⟩=>bI (p pins s2 σ H2 _ D j) λd a ⟨u,f,E,g,m⟩=>?_);[evalPart_none];qE ?_;i:Inv X pins σ f {a with heap:=a.heap.push {cls:=.type "slice",data:=.fields #[c,d,.none]}}:=E.kept (t':=a.toks) λb ob q=>qH _ q;{T,id,t,k,J}:=y pins {a with heap:=a.heap.push {cls:=.type "slice",data:=.fields #[c,d,.none]}} σ f x v c d l u ↑a Q i F (Heap.IsSliceOf.new ..) n g m;¬wpAny (model X.prog X.w) X.A (subscriptTail e (.Slice lo hi none p2) v (.ref ↑a)) (EP X pins σ Q) X.xe {a with heap:=a.heap.push {cls:=.type "slice",data:=.fields #[c,d,.none]}};tail_any (ops:=[.ref ↑a,v]) k t J (by with_unfolding_all rfl)
def d6(xs:List V)(lo hi:Option Int):List V:=(xs.drop (HT.b_ xs.length 0 lo)).take (HT.b_ xs.length xs.length hi - HT.b_ xs.length 0 lo)
def BQ(xs:List V)(lo hi:Option Int):(d6 xs lo hi).length<=xs.length:=do@d6;[wv,yf];()
inductive Pr(x:V)(lo:Option Int)(hi:Option Int)(H:Hp)(Q:VK):Prop
 |mk(a xs:_)(_:x=.ref a)(_:aV H a xs)(_:¬(HT.b_ xs.length 0 lo=0/\HT.b_ xs.length xs.length hi=xs.length))(_:∀p,H p=none->Q (.ref p) (upd H p (.tup (d6 xs lo hi))))
def D_:vU X (Pr):=do(pins,s,σ,H,x,v,l,m,lo,hi,sl,Q,I,j,i,g,e,h);{a,xs,rfl,f,k,q}:=h;-j;{its,r,d,hz}:=I.tuple f;c:its.toArray.size=xs.length:=(do[zg];r.length.symm);{"tuple",_,PyProof.Rows.slot_tuple_getitem.lookup,d.typeIs,?_};HT.eV d i g e (do[c];k) ?_ (do[c];hz);[c];{.ref ↑s,_,I.laid (t':=s.toks) (o:=.tup (d6 xs lo hi)) (λb ob q=>qH _ q) (qe _) ?_,O,q _ (I.aR.fresh (qe _))};{qg (BQ xs lo hi) hz,_,(r.drop (HT.b_ xs.length 0 lo)).take (HT.b_ xs.length xs.length hi - HT.b_ xs.length 0 lo),IsTup.new _ _}
inductive Qv(x y:V)(H:Hp)(Q:VK):Prop
 |mk(a b ns ms:_)(_:x=.ref a)(_:y=.ref b)(_:aV H a (ns.map V.int))(_:aV H b (ms.map V.int))(_:Q (.bl (HT.lexLt ns ms)) H)
def A_(j:X.A.units<cLine):dm X (compareOp .Lt) (Qv):=do(pins,s,σ,H,x,y,v,u,Q,I,k,m,h);{a,b,ns,ms,rfl,rfl,d,f,q}:=h;-k;-m;{its,g,n,_}:=I.tuple d;{c,l,p2,_}:=I.tuple f;i:IntsAre its.toArray.toList ns:=Jq g;e:IntsAre c.toArray.toList ms:=Jq l;HT.mu n p2 i e j {.bl (HT.lexLt ns ms),H,I,O,q}
inductive LI(x y:V)(H:Hp)(Q:VK):Prop
 |mk(a b xs ys:_)(_:x=.ref a)(_:y=.ref b)(_:aV H a xs)(_:aV H b ys)(_:xs≠[])(_:xs.length+ys.length<=sizeLine)(_:(ys=[]->Q (.ref a) H))(_:(ys≠[]->∀p,H p=none->Q (.ref p) (upd H p (.tup (xs++ys)))))
def aJ.jM(r:aJ xs us):us=[]↔xs=[]:=do(by cases r with|nil|cons _ _=>?_);0;0
def Nc:dm X (binaryOp .Add) (LI):=do(pins,s,σ,H,x,y,v,u,Q,I,j,m,h);{a,b,xs,ys,rfl,rfl,f,i,g,hz,l,k}:=h;-j;-m;{its,d,n,_}:=I.tuple f;{e,c,p2,_}:=I.tuple i;HT.wL n p2 (λz=>g (d.jM.mp z)) (λz=>{.ref a,H,I,O,l (c.jM.mp z)}) (λz=>?_) (do[←d.length,←c.length];hz);{.ref ↑s,_,I.laid (t':=s.toks) (o:=.tup (xs++ys)) (λb ob q=>qH _ q) (qe _) ?_,O,k (λw=>z (c.jM.mpr w)) _ (I.aR.fresh (qe _))};{do[qi];hz,_,d.append c,IsTup.new _ _}
end
def uE(n:Nat)(i:Int):Option Nat:=if 0<=i then(if i<n then some i.toNat else none) else if -(n:Int)<=i then some (i+n).toNat else none
def m_{α:Type}(xs:List α)(i:Int):Option α:=(uE xs.length i).bind λj=>xs[j]?
def G6(h:uE n i=!j):seqIndex? i n=!j/\j<n/\-(n:Int)<=i/\i<n:=do(by unfold uE at h);h0<|0<=i;h←[qF h0];h1<|i<n;h←[qF h1];e:i.toNat=j:=qJ h;{do[seqIndex_of h0 h1,e],(),(),h1};h←[qB h1];-h;h←[qB h0];h1<|-(n:Int)<=i;h←[qF h1];e:(i+n).toNat=j:=qJ h;{do[seqIndex_neg () h1,e],(),h1,()};h←[qB h1];-h
def DG{α:Type}{xs:List α}{i:Int}{v:α}(h:m_ xs i=!v):∃j,seqIndex? i xs.length=!j/\xs[j]?=!v/\j<xs.length/\-(xs.length:Int)<=i/\i<xs.length:=do(by unfold m_ at h;cases e:uE xs.length i with|none|some j=>?_);h←[e];-h;h←[e];{h1,h2,b,a}:=G6 e;{j,h1,h,h2,b,a}
def vN{α:Type}{xs:List α}{j:Nat}{v:α}(h:xs[j]?=!v):m_ xs (j:Int)=!v:=do a:j<xs.length:=(qk.mp h).1;e:uE xs.length (j:Int)=!j:=(do@uE;[qF (),qF ()];0);@m_;[e];h
def gM(b:Expr):Prop:=∀o i,subscripted b false o i=operate [o,i] (getItem o i)
def Hw(X:Cx)(r:R2):Prop := ∀(value a:Expr) (pins:List (Sx×Obj)) (s:Sv) (σ:St) (H:Hp) (x y:V) (v u:MD) (Q:VK),Inv X pins σ H s->RelV x v->RelV y u->r x y H Q-> subscripted a false v u=operate [v,u] (getItem v u)->wpAny (model X.prog X.w) X.A (subscriptTail value a v u) (EP X pins σ Q) X.xe s
def Jc(X:Cx)(id:String)(r:V->List V->Hp->VK->Prop):Prop := ∀(pins:List (Sx×Obj)) (s:Sv) (σ:St) (H:Hp) (x:V) (xs:List V) (v:MD) (us:List MD) (Q:VK),Inv X pins σ H s->RelV x v->aJ xs us->r x xs H Q-> wpAny (model X.prog X.w) X.A (call (.builtin id) (v::us)) (EP X pins σ Q) X.xe s
section
variable {X:Cx}{a b:Expr}{ta tb:TE}{pos:Pos}
def iY(j:Hw X r)(c:PE X a ta)(e:PE X b tb)(f:gM b):PE X (.Subscript a b pos) (uf r ta tb):=do _;{?_};(pins,s,σ,H,Q,I,h);Subscript_ (AY c e I h λv u s2 x y H2 d g i q=>j a b pins s2 σ H2 x y v u Q d g i q (f _ _))
inductive Et(x y:V)(H:Hp)(Q:VK):Prop
 |mk(p xs i v:_)(_:x=.ref p)(_:y=.int i)(_:az H p xs)(_:m_ xs i=!v)(_:Q v H)
inductive Dj(x y:V)(H:Hp)(Q:VK):Prop
 |mk(p xs i v:_)(_:x=.ref p)(_:y=.int i)(_:aV H p xs)(_:m_ xs i=!v)(_:Q v H)
inductive NG(x y:V)(H:Hp)(Q:VK):Prop
 |mk(z i c:_)(_:x=.str z)(_:y=.int i)(_:z.length<=sizeLine)(_:m_ z.cps.toList i=!c)(_:Q (.str ⟨#[c]⟩) H)
def CS:Hw X (Et):=do(value,e,pins,s,σ,H,x,y,v,u,Q,I,m,l,h,g);{p,xs,i,z,rfl,rfl,A,k,q}:=h;-m;{t,rfl}:=l;{its,r,d,hz}:=I.list A;{j,h1,h2,C,o,B}:=DG k;{w,f,b}:=r.get h2;n:=r.length;hn:=pI;a:EP X pins σ Q w s:={z,H,I,b,q};h0<|0<=i;c:i.toNat=j:=(do h1←[seqIndex_of h0 B];qJ h1);item_listR d.isList h0 () (do[c];0<|f) a g;c:(i+(its.toArray.size:Int)).toNat=j:=(do h1←[seqIndex_neg () o];[zg,←n];qJ h1);subscriptTail_builtinR (x:=w) d.isList.typeIs slot_list_getitem.lookup (wpAny_getItem_list_neg (Q:=λr s'=>r=w/\EP X pins σ Q r s') d.isList () (by rw[List.size_toArray] <;> omega) () (do[c];0<|f) {O,a}) g
def IU:Hw X (Dj):=do(value,c,pins,s,σ,H,x,y,v,u,Q,I,l,f,h,k);{p,xs,i,z,rfl,rfl,n,e,q}:=h;-l;{t,rfl}:=f;{its,r,d,hz}:=I.tuple n;{j,h1,h2,o,A,B}:=DG e;{w,g,a}:=r.get h2;m:=r.length;hn:=pI;b:EP X pins σ Q w s:={z,H,I,a,q};subscriptTail_builtinR (x:=w) d.typeIs slot_tuple_getitem.lookup (getItem_tuple (j:=j) (Q:=λr s'=>r=w/\EP X pins σ Q r s') d () () (do[List.size_toArray,←m];h1) (do 0<|g) {O,b}) k
def CJ:Hw X NG:=do(value,a,pins,s,σ,H,x,y,v,u,Q,I,f,l,h,e);{z,i,c,rfl,rfl,hz,b,q}:=h;{t,rfl}:=f;{t',rfl}:=l;{j,h1,h2,o,k,m}:=DG b;g:z.cps.toList.length=z.length:=(do#[Str.length]);(by rw[g]at h1 k m);hn:=pI;tail_any (typeIs_str s z t) slot_str_getitem.lookup (getItem_str (c:=c) (do d:decide (i < -(2 ^ 63:Int))=false:=decide_eq_false ();n:decide (i>=2 ^ 63)=false:=decide_eq_false ();[d,n,Bool.or_false]) (do[h1];0<|h2) {.str {#[c]},H,I.tok _,{_,O},q}) e
def QQ(its:List MD)(n j:Nat)(u:MD):Obj.mapSeq (·.setIfInBounds j u) {cls:=.type "list",data:=.seq its.toArray n}={cls:=.type "list",data:=.seq (its.set j u).toArray n}:=do#[Obj.mapSeq]
theorem Inv.lst{pins:List (Sx×Obj)}{σ:St}{H:Hp}{s:Sv}{p:Sx}{xs:List V}(I:Inv X pins σ H s)(h:H p=!(.lst xs)) : ∃(its:List MD) (n:Nat),aJ xs its/\s.heap.get? p=some {cls:=.type "list",data:=.seq its.toArray n}/\xs.length<=sizeLine:=do _;{z,its,n,r,e}:=I.aR p _ h;{its,n,r,e,z}
def Inv.ue{pins:List (Sx×Obj)}{σ:St}{H:Hp}{s:Sv}{p:Sx}{xs ys:List V}{its its':List MD}{n n':Nat}{f:Obj->Obj}(I:Inv X pins σ H s)(h:H p=!(.lst xs))(d:s.heap.get? p=some {cls:=.type "list",data:=.seq its.toArray n})(a:f {cls:=.type "list",data:=.seq its.toArray n}={cls:=.type "list",data:=.seq its'.toArray n'})(r:aJ ys its')(hz:ys.length<=sizeLine)(t:Nat) : Inv X pins σ (upd H p (.lst ys)) {s with heap:=s.heap.update p f,toks:=t}:=do e:(s.heap.update p f).get? p=some {cls:=.type "list",data:=.seq its'.toArray n'}:=(do[Heap.get?_update_self f d (by rw[a] <;> rfl),a]);I.write (x:=p) (e:=p) (by rw[h];trivial) (.inl rfl) (λb u c q=>(Heap.get?_update_other _ _ (Ne.symm c)).trans q) {_,e} ?_;{hz,its',n',r,e}
inductive Hk(o i v:V)(H:Hp)(Q:(Hp->Prop)):Prop
 |mk(p xs k j:_)(_:o=.ref p)(_:i=.int k)(_:H p=!(.lst xs))(_:uE xs.length k=!j)(_:Q (upd H p (.lst (xs.set j v))))
def GX:Gn X Hk:=do(pins,s,σ,H,o,i,v,x,y,u,Q,I,l,m,w,h);{p,xs,k,j,rfl,rfl,hp,g,q}:=h;-l;{t,rfl}:=m;{its,n,r,c,hz}:=I.lst hp;{h1,h2,e,f}:=G6 g;b:=r.length;hn:=pI;d:Inv X pins σ (upd H p (.lst (xs.set j v))) {s with heap:=s.heap.update p (Obj.mapSeq (·.setIfInBounds j u))}:=I.ue hp c (QQ its n j u) (r.set w j) (do[List.length_set];hz) s.toks;h0<|0<=k;a:k.toNat=j:=(do h1←[seqIndex_of h0 f];qJ h1);PySem.W.ki_setAt c h0 () (do[zg,←b];f) (do[a];{_,d,q});a:(k+(its.toArray.size:Int)).toNat=j:=(do h1←[seqIndex_neg () e];[zg,←b];qJ h1);PySem.W.ki_setBack c () (do[zg,←b];e) () (do[a];{_,d,q})
def Pp(lo hi:Option Int)(n:Nat):(sliceBounds lo hi none n).1=((HT.b_ n 0 lo:Nat):Int)/\(sliceBounds lo hi none n).2.1=((HT.b_ n n hi:Nat):Int)/\(sliceBounds lo hi none n).2.2=1:=do _;{?_,?_,O};(by cases lo with|none|some i=>?_);#[sliceBounds,HT.b_];#[_,sliceBounds,HT.b_,Option.getD_none,show(1:Int)>0 from ⋯,if_true];h<|i<0;(by simp only[h,if_true] <;> omega;simp only[h,if_false] <;> omega;cases hi with|none|some i=>?_);#[sliceBounds,HT.b_];#[_,sliceBounds,HT.b_,Option.getD_none,show(1:Int)>0 from ⋯,if_true];h<|i<0;by simp only[h,if_true] <;> omega;simp only[h,if_false] <;> omega
def Rk(its:List MD)(lo hi:Option Int):slicePick its.toArray lo hi none=((its.drop (HT.b_ its.length 0 lo)).take (HT.b_ its.length its.length hi - HT.b_ its.length 0 lo)).toArray:=do _;{h1,h2,a}:=Pp lo hi its.toArray.size;@slicePick;[h1,h2,a];by simp only[sliceRange_one,pick_run,List.size_toArray] <;> rfl
inductive OA(x:V)(lo:Option Int)(hi:Option Int)(H:Hp)(Q:VK):Prop
 |mk(a xs:_)(_:x=.ref a)(_:az H a xs)(_:∀p,H p=none->Q (.ref p) (upd H p (.lst (d6 xs lo hi))))
def Mp:vU X (OA):=do(pins,s,σ,H,x,v,k,l,lo,hi,sl,Q,I,j,i,g,e,h);{a,xs,rfl,f,q}:=h;-j;{its,r,d,hz}:=I.list f;c:=r.length;{"list",_,slot_list_getitem.lookup,d.isList.typeIs,?_};wpAny_getItem_list_slice d.isList i g e .none (do 0) ?_ (by rw[List.size_toArray] <;> omega);[Rk,←c];{.ref ↑s,_,I.laid (t':=s.toks) (o:=.lst (d6 xs lo hi)) (λb ob q=>qH _ q) (qe _) ?_,O,q _ (I.aR.fresh (qe _))};{qg (BQ xs lo hi) hz,_,0,(r.drop (HT.b_ xs.length 0 lo)).take (HT.b_ xs.length xs.length hi - HT.b_ xs.length 0 lo),qL _ rfl}
inductive iP(xs:List V)(H:Hp)(Q:VK):Prop
 |mk(p ys:_)(_:xs=[.ref p])(_:(az H p ys\/aV H p ys))(_:Q (.int ys.length) H)
def c6:cB X (.builtin "len") (iP):=do(pins,s,σ,H,xs,us,Q,I,r,h);{p,ys,rfl,b,q}:=h;{u,rfl,e}:=vals1 r;-e;hn:=pI;b||b:=b;{its,d,c,hz}:=I.list b;a:=d.length;Calls.call_len_list c.isList (by simp only[List.size_toArray] <;> omega) {.int ys.length,H,I.tok _,{s.toks+1,do[List.size_toArray,a]},q};{its,d,c,hz}:=I.tuple b;a:=d.length;len_tuple c (by simp only[List.size_toArray] <;> omega) {.int ys.length,H,I.tok _,{s.toks+1,do[List.size_toArray,a]},q}
inductive iA(xs:List V)(H:Hp)(Q:VK):Prop
 |mk(p ys:_)(_:xs=[.ref p])(_:(az H p ys\/aV H p ys))(_:∀l,H l=none->Q (.ref l) (upd H l (.lst ys)))
def NH:cB X (.type "list") (iA):=do(pins,s,σ,H,xs,us,Q,I,r,h);{p,ys,rfl,f,q}:=h;{u,rfl,m}:=vals1 r;-m;d:∀(its:List MD),aJ ys its->ys.length<=sizeLine->∀(h':Heap) (a:Nat),(∀b o',s.heap.get? b=!o'->h'.get? b=!o')-> h'.get? ↑s=some {cls:=.type "list",dict:=none,data:=.seq its.toArray a,slots:=#[]}->EP X pins σ Q (.ref ↑s) {s with heap:=h'}:=λits c hz h' a kp e => {.ref ↑s,_,I.laid (t':=s.toks) kp (qe _) (show aS X.prog X.w _ h' _ (.lst ys) from{hz,its,a,c,e}),O,q _ (I.aR.fresh (qe _))};f||f:=f;{its,c,k,hz}:=I.list f;g:=c.length;{o,l,i,n,j}:=k.isList;call_list_seq p (.inl rfl) l i j (λh' a kp e=>d its c hz h' a kp e) (by simp only[List.size_toArray] <;> omega);{its,c,k,hz}:=I.tuple f;g:=c.length;{o,l,i,n,j}:=k;call_list_seq p (.inr rfl) l i j (λh' a kp e=>d its c hz h' a kp e) (by simp only[List.size_toArray] <;> omega)
def Mj(T:String)(x:V)(H:Hp):Prop:=match x with|.str _=>T = "str"|.int _=>T = "int"|.ref p=>(T = "list" /\ ∃xs,az H p xs)\/(T = "tuple" /\ False) ∨ (T = "dict" /\ ((∃kvs,H p=!(.dK kvs))\/(∃kvs,H p=!(.dT kvs))\/∃kvs,H p=!(.dG kvs)))\/(T = "set" /\ ∃S n,H p=!(.set S n))|_=>False
def HQ{pins:List (Sx×Obj)}{σ:St}{H:Hp}{s:Sv}{T:String}{x:V}{v:MD}(I:Inv X pins σ H s)(r:RelV x v)(ty:Mj T x H) : s.TypeIs v T/\∀a,v=.ref a->∃ob,s.heap.get? a=!ob/\ob.dict=none:=by cases x with|str z=>(obtain⟨t,rfl⟩:=r;cases(show T = "str" from ty);exact{typeIs_str s z t,λ_ e=>nomatch e})|int i=>(obtain⟨t,rfl⟩:=r;cases(show T = "int" from ty);exact{typeIs_int s i t,λ_ e=>nomatch e})|ref p=>(cases r;rcases ty with⟨rfl,xs,h⟩|⟨rfl,j⟩|⟨rfl,b⟩|⟨rfl,S,n,b⟩;obtain⟨its,_,f,_⟩:=I.list h;refine{f.isList.typeIs,λa e=>?_};cases e;obtain⟨o,n,e,c,g,_⟩:=f;exact{o,e,g};exact j.elim;have z:∃o,s.heap.get? p=!o/\o.ExactDict:=(do _;{kvs,b}||{kvs,b}||{kvs,b}:=b;{_,_,_,_,o,_,_,e,ex,_}:=I.aR p _ b;{o,e,ex};{_,_,_,_,o,_,_,e,ex,_}:=I.aR p _ b;{o,e,ex};{_,_,_,_,o,_,_,e,ex,_}:=I.aR p _ b;{o,e,ex});obtain⟨o,e,ex⟩:=z;refine{{o,e,ex.1},λa d=>?_};cases d;exact{o,e,ex.2.1};obtain⟨o,_,_,_,e,ex,_⟩:=I.aR p _ b;refine{{o,e,ex.1},λa d=>?_};cases d;exact{o,e,ex.2.1})|_=>exact False.elim ty
def M8(T:String)(r:V->List V->Hp->VK->Prop)(to:TE):TE:=λσ H Q=>to σ H λx H1=>Mj T x H1/\r x [] H1 Q
def P1(T:String)(r:V->List V->Hp->VK->Prop)(to:TE)(t:TA):TE:=λσ H Q=>to σ H λx H1=>Mj T x H1/\t σ H1 λxs H2=>r x xs H2 Q
variable {o e:Expr}{es:List Expr}{to:TE}{t:TA}{name:Sy}{apos cpos:Pos}{T id:String}{r:V->List V->Hp->VK->Prop}
def Ds(g:PlainAttrs T)(slot:Slot T name id)(c:typeOf (.builtin id)=pure (.type "method_descriptor"))(f:Jc X id r)(k:PE X o to)(b:attributeBase o name X.env (eval o X.env)=eval o X.env:=by rfl)(a:(apos.endLine==cpos.line)=true:=by rfl):PE X (.Call (.Attribute o name apos) [] [] cpos) (M8 T r to):=do _;{?_};(pins,s,σ,H,Q,I,h);wpAny_Call_method0_late b a (bI (k pins s σ H _ I h) λv i ⟨x,H1,e,d,ty,j⟩=>?_);{h1,h2}:=HQ e d ty;{T,id,g,slot,c,h1,h2,Calls.callWith_builtin rfl (PySem.evalArgs_none (f pins i σ H1 x [] v [] Q e d .nil j))}
def JN(n:PlainAttrs T)(slot:Slot T name id)(f:typeOf (.builtin id)=pure (.type "method_descriptor"))(k:Jc X id r)(z:PE X o to)(l:PA X (e::es) t)(c:attributeBase o name X.env (eval o X.env)=eval o X.env:=by rfl)(d:((backTo cpos (starEach (e::es) X.env)).all (λx=>not x.1)&&(backToKw cpos (keywordEach [] X.env)).all (λx=>x.1.isSome) && decide ((e::es).length+([]:List Keyword).length+(if([]:List Keyword).isEmpty then 0 else 1)<30))=true:=by rfl)(b:(apos.endLine==cpos.line)=true:=by rfl)(q:starEach (e::es) X.env=(false,eval e X.env)::starEach es X.env:=by rfl)(a:(backTo cpos (starEach es X.env)).any (·.1)=false:=by rfl) : PE X (.Call (.Attribute o name apos) (e::es) [] cpos) (P1 T r to t):=do _;{?_};(pins,s,σ,H,Q,I,h);wpAny_Call_method_late c d b rfl (bI (z pins s σ H _ I h) λv p ⟨x,H1,g,i,ty,y⟩=>?_);{h1,h2}:=HQ g i ty;{T,id,n,slot,f,h1,h2,?_};j:=l cpos pins p σ H1 _ g y;(by rw[q]at j ⊢);Calls.callWith_builtin (by show(false||(backTo cpos (starEach es X.env)).any (·.1))=false;rw[a] <;> rfl) (Calls.evalArgs_plain ?_);bI j λus s2 ⟨vs,H2,m,w,u⟩=>k pins s2 σ H2 x vs v us Q m i w u
end
def wG(X:Cx)(id:String)(r:V->List V->Hp->VK->Prop):Prop := ∀(pins:List (Sx×Obj)) (s:Sv) (σ:St) (H:Hp) (x:V) (xs:List V) (v:MD) (us:List MD) (Q:VK),Inv X pins σ H s->RelV x v->aJ xs us->r x xs H Q-> wpAny (model X.prog X.w) X.A (call (.builtin id) (v::us)) (EP X pins σ Q) X.xe s
def aJ.tl(h:aJ (x::xs) us):∃u vs,us=u::vs/\RelV x u/\aJ xs vs:=do(by cases h with|cons r t=>?_);{_,_,O,r,t}
def aJ.one:∀{x:V} {us:List MD},aJ [x] us->∃u,us=[u]/\RelV x u:=do(x,us,h);(by cases h with|cons r t=>?_);-t;{_,O,r}
def aJ.two:∀{x y:V} {us:List MD},aJ [x,y] us->∃u v,us=[u,v]/\RelV x u/\RelV y v:=do(x,y,us,h);{u,vs,rfl,r,t}:=aJ.tl h;{v,rfl,q}:=aJ.one t;{u,v,O,r,q}
def aJ.zero:∀{us:List MD},aJ [] us->us=[]|_,.nil=>rfl
theorem aJ.dropLast(h:aJ xs us):aJ xs.dropLast us.dropLast:=do(by induction h with|nil|cons r t a=>?_);.nil;(by cases t with|nil|cons q t'=>?_);.nil;.cons r a
theorem aJ.rep(h:aJ xs us):∀k:Nat,aJ (List.replicate k xs).flatten (List.replicate k us).flatten| 0=>.nil|k+1=>do[ji,ji,jp,jp];aJ.append h (aJ.rep h k)
def Nd{α:Type}(l:List α):l.eraseIdx (l.length - 1)=l.dropLast:=by induction l with|nil=>rfl|cons a r c=>(cases r with|nil=>rfl|cons b r=>(have e:(a::b::r).length - 1=((b::r).length - 1)+1:=(do h1:(a::b::r).length=r.length+2:=rfl;h2:(b::r).length=r.length+1:=rfl;());rw[e,List.eraseIdx_cons_succ,c];all_goals rfl))
theorem Jd(its:List MD):∀(k:Nat) (acc:List MD),List.foldl (λc a=>c++a) acc.toArray (List.replicate k its.toArray)=(acc++(List.replicate k its).flatten).toArray| 0,acc=>(do 0)|k+1,acc=>do e:acc.toArray++its.toArray=(acc++its).toArray:=(do 0);b:(acc++its)++(List.replicate k its).flatten=acc++(List.replicate (k+1) its).flatten:=(do[ji,jp,yk]);[←b,←Jd its k (acc++its),←e,ji,j8]
section
variable {X:Cx}{pins:List (Sx×Obj)}{σ:St}{H:Hp}{s:Sv}{l b:Sx}{xs ys zs:List V}
def Inv.v_{its its':List MD}{n:Nat}{f:Array MD->Array MD}{t':Nat}(I:Inv X pins σ H s)(a:H l=!(.lst xs))(e:s.heap.get? l=some {cls:=.type "list",data:=.seq its.toArray n})(g:f its.toArray=its'.toArray)(b:aJ ys its')(hz:ys.length<=sizeLine) : Inv X pins σ (upd H l (.lst ys)) {s with heap:=s.heap.update l (Obj.mapSeq f),toks:=t'}:=do q:=PySem.IsL.update e f;q←[g];I.write (x:=l) (e:=l) (do[a];trivial) (.inl rfl) (λh u c d=>(Heap.get?_update_other s.heap (Obj.mapSeq f) (Ne.symm c)).trans d) {_,q} ?_;{hz,its',_,b,q}
def Inv.K9(I:Inv X pins σ H s)(a:aJ ys its)(hz:ys.length<=sizeLine) : Inv X pins σ (upd H ↑s (.lst ys)) {s with heap:=s.heap.push {cls:=.type "list",data:=.seq its.toArray},toks:=t'} := I.laid (λ_ _ q=>qH _ q) (qe _) {hz,its,0,a,qL _ rfl}
theorem Inv.fresh(I:Inv X pins σ H s):H ↑s=none:=I.aR.fresh (qe _)
def Inv.lE(I:Inv X pins σ H s)(a:H l=!(.lst xs)):xs.length<=sizeLine/\∃(its:List MD) (n:Nat),aJ xs its/\xs.length=its.length/\s.heap.get? l=some {cls:=.type "list",data:=.seq its.toArray n}:=do _;{z,its,n,r,e}:=I.aR l _ a;{z,its,n,r,r.length,e}
def Hd(h:n<=sizeLine):Builtin.List.listTooLong n=false:=do@Builtin.List.listTooLong;decide_eq_false ()
end
section
variable {X:Cx}
inductive oP(x:V)(vs:List V)(H:Hp)(Q:VK):Prop
 |mk(l xs y:_)(_:x=.ref l)(_:vs=[y])(_:H l=!(.lst xs))(_:xs.length<sizeLine)(_:Q .aQ (upd H l (.lst (xs++[y]))))
def Ql:wG X "list.append" oP:=do(pins,s,σ,H,x,vs,v,us,Q,I,c,d,h);{l,xs,y,rfl,rfl,a,hz,q}:=h;-c;{u,rfl,b}:=d.one;{z,its,n,r,f,e}:=I.lE a;call_meets F.slot_list_append {_,e,O} F.entry_list_append (F.args_list_append_2 _ _) (PySem.list_append l its.toArray n u (do[zg];())) {e,?_};{.aQ,_,I.v_ (its':=its++[u]) a e (do 0) (r.append (.cons b .nil)) ?_,O,q};[qi,qt];()
inductive vM(x:V)(vs:List V)(H:Hp)(Q:VK):Prop
 |mk(l b xs zs:_)(_:x=.ref l)(_:vs=[.ref b])(_:H l=!(.lst xs))(_:H b=!(.lst zs))(_:xs.length+zs.length<=sizeLine)(_:Q .aQ (upd H l (.lst (xs++zs))))
def Kg:wG X "list.extend" vM:=do(pins,s,σ,H,x,vs,v,us,Q,I,j,o,h);{l,b,xs,zs,rfl,rfl,d,m,hz,q}:=h;-j;{u,rfl,f}:=o.one;-f;{z,its,n,r,t,e}:=I.lE d;{w,a,g,k,i,p}:=I.lE m;hsz:its.toArray.size+a.toArray.size<=sizeLine:=(do[zg,zg];());c:¬(not its.toArray.isEmpty&&Builtin.List.listTooLong (its.toArray.size+a.toArray.size))=true:=(do[Hd hsz,kx];qr);call_meets F.slot_list_extend {_,e,O} F.entry_list_extend (F.args_list_extend_2 _ _) (AutoSeq1.list_extend_list_list_0 l its.toArray n b a.toArray g c (do[zg];()) ()) {e,p,?_};{.aQ,_,I.v_ (its':=its++a) d e (do 0) (r.append k) ?_,O,q};[qi];()
inductive O2(x:V)(vs:List V)(H:Hp)(Q:VK):Prop
 |mk(l xs y:_)(_:x=.ref l)(_:vs=[])(_:H l=!(.lst xs))(_:xs[xs.length - 1]?=!y)(_:Q y (upd H l (.lst xs.dropLast)))
def I_:wG X "list.pop" O2:=do(pins,s,σ,H,x,vs,v,us,Q,I,g,k,h);{l,xs,y,rfl,rfl,c,j,q}:=h;-g;b:=k.zero;!b;{z,its,n,r,i,e}:=I.lE c;{u,f,d}:=r.get j;a:its.toArray[its.toArray.size - 1]?=!u:=(do¬its.toArray[its.length - 1]?=!u;[←ym,←i];f);call_meets F.slot_list_pop {_,e,O} F.entry_list_pop (F.args_list_pop_1 _) (MeetsSeq.list_pop_last l its.toArray n u a (do[zg];())) {e,?_};{y,_,I.v_ (its':=its.dropLast) c e ?_ r.dropLast ?_,d,q};¬its.toArray.eraseIdxIfInBounds (its.toArray.size - 1)=its.dropLast.toArray;[zg,List.eraseIdxIfInBounds_toArray,Nd];[List.length_dropLast];()
inductive C'(x:V)(vs:List V)(H:Hp)(Q:VK):Prop
 |mk(l xs:_)(_:x=.ref l)(_:vs=[])(_:H l=!(.lst xs))(_:Q .aQ (upd H l (.lst [])))
def OJ:wG X "list.clear" C':=do(pins,s,σ,H,x,vs,v,us,Q,I,c,d,h);{l,xs,rfl,rfl,b,q}:=h;-c;a:=d.zero;!a;{z,its,n,r,f,e}:=I.lE b;call_meets F.slot_list_clear {_,e,O} F.entry_list_clear (F.args_list_clear_1 _) (AutoSeq1.list_clear_list_0 l its.toArray n (do[zg];())) {e,?_};{.aQ,_,I.v_ (its':=[]) (ys:=[]) b e rfl .nil (qv _),O,q}
inductive MI(x y:V)(H:Hp)(Q:VK):Prop
 |mk(l b xs zs:_)(_:x=.ref l)(_:y=.ref b)(_:H l=!(.lst xs))(_:H b=!(.lst zs))(_:xs.length+zs.length<=sizeLine)(_:∀p,H p=none->Q (.ref p) (upd H p (.lst (xs++zs))))
def A6:dm X (binaryOp .Add) MI:=do(pins,s,σ,H,x,y,v,u,Q,I,f,k,h);{l,b,xs,zs,rfl,rfl,c,j,hz,q}:=h;-f;-k;{z,its,n,r,p,e}:=I.lE c;{t,a,o,i,d,m}:=I.lE j;PySem.P.add_list e m ?_ (do[zg,zg];());g:its.toArray++a.toArray=(its++a).toArray:=(do 0);[g];{.ref _,_,I.K9 (t':=s.toks) (r.append i) (do[qi];()),O,q _ I.fresh}
inductive QK(x y:V)(H:Hp)(Q:VK):Prop
 |mk(l k xs:_)(_:x=.ref l)(_:y=.int k)(_:H l=!(.lst xs))(_:-(2 ^ 63)<=k)(_:k<2 ^ 63)(_:xs.length * k.toNat<=sizeLine)(_:∀p,H p=none->Q (.ref p) (upd H p (.lst (List.replicate k.toNat xs).flatten)))
def MR{α:Type}(xs:List α)(k:Nat):(List.replicate k xs).flatten.length=k * xs.length:=do(by induction k with|zero|succ k a=>?_);0;[ji,jp,qi,a,Nat.succ_mul,Nat.add_comm]
def By:dm X (binaryOp .Mult) QK:=do(pins,s,σ,H,x,y,v,u,Q,I,p,A,h);{l,k,xs,rfl,rfl,o,h1,h2,hz,q}:=h;-p;{t,rfl}:=A;{z,its,n,r,w,e}:=I.lE o;g:its.toArray.size * k.toNat<=sizeLine:=(do[zg,←w];hz);f:¬its.toArray.size * k.toNat>(2 ^ 63 - 1) / 8:=(do this:(sizeLine:Nat)<=(2 ^ 63 - 1) / 8:=⋯;());d:¬(not (Builtin.List.listFitsIndex k))=true:=(do[fitsIndex_both h1 h2];qr);b:¬Builtin.List.listTooLong (its.toArray.size * k.toNat)=true:=(do[Hd g];qr);c:List.foldl (λj i=>j++i) #[] (List.replicate (if its.toArray.isEmpty=true then 0 else k.toNat) its.toArray)=(List.replicate k.toNat its).flatten.toArray:=(do B:∀m:Nat,List.foldl (λj i=>j++i) #[] (List.replicate m its.toArray)=(List.replicate m its).flatten.toArray:=λm=>(do this:=Jd its m [];this←[wz];this);[B];(by cases its with|nil|cons a C=>?_);0;[qB (do 0)]);wpAny_binaryOp_repeat_ref (T:="list") (U:="int") ⋯ {_,e,O} (λs'=>typeIs_int s' k t) noFill_list_mul F.fills_int_mul F.slot_int_rmul repeat_list F.slot_int_index.lookup (call_meets F.slot_int_rmul (typeIs_int s k t) F.entry_int_rmul (F.args_int_rmul_2 _ _) (int___rmul___int_list k t l its.toArray n) {e,O,{_,e,O},call_meets F.slot_list_mul {_,e,O} F.entry_list_mul (F.args_list_mul_2 _ _) (AutoListH.list___mul___list_int_3 l its.toArray n k t d f b) {e,?_}});[c];{.ref _,_,I.K9 (t':=s.toks) (r.rep k.toNat) (do[MR,Nat.mul_comm];hz),O,q _ I.fresh}
end
section
variable {κ:Type}[DecidableEq κ]
def bN(kvs:List (κ×V))(k:κ):Option V:=(kvs.find? λa=>decide (a.1=k)).map (·.2)
def putK(kvs:List (κ×V))(k:κ)(v:V):List (κ×V) := if(kvs.any λa=>decide (a.1=k))=true then kvs.map (λa=>if a.1=k then(a.1,v) else a) else kvs++[(k,v)]
def fW{p:κ×V}{r:List (κ×V)}{k:κ}(e:p.1=k):bN (p::r) k=!p.2:=do#[bN,List.find?_cons,e]
def gF{p:κ×V}{r:List (κ×V)}{k:κ}(e:¬p.1=k):bN (p::r) k=bN r k:=do#[bN,List.find?_cons,e]
theorem mN(k:κ):∀kvs:List (κ×V),(kvs.any λa=>decide (a.1=k))=(bN kvs k).isSome|[]=>rfl|p::r=>do[j9];e<|p.1=k;#[_,fW e,decide_eq_true e,Bool.true_or,Option.isSome_some];[gF e,decide_eq_false e,Bool.false_or];mN k r
theorem HA(k j:κ)(y:V):∀kvs:List (κ×V),bN (kvs.map λa=>if a.1=k then(a.1,y) else a) j=(bN kvs j).map λx=>if j=k then y else x|[]=>rfl|p::r=>do b:=HA k j y r;[zn];h<|p.1=k;[qF h];e<|p.1=j;[fW (p:=(p.1,y)) e,fW e,jq,qF (e.symm.trans h)];[gF (p:=(p.1,y)) e,gF e,b];[qB h];e<|p.1=j;[fW (p:=p) e,fW e,jq,qB (λz=>h (e.trans z))];[gF (p:=p) e,gF e,b]
theorem HB(k j:κ)(y:V):∀kvs:List (κ×V),bN kvs k=none->bN (kvs++[(k,y)]) j=if j=k then some y else bN kvs j|[],_=>(do e<|k=j;[qF e.symm];fW (p:=(k,y)) e;[qB (λz=>e z.symm)];gF (p:=(k,y)) e)|p::r,hn=>do[List.cons_append];a:¬p.1=k:=λz=>(do hn←[fW z];-hn);hn←[gF a];b:=HB k j y r hn;e<|p.1=j;[fW e,fW e,qB (λz=>a (e.trans z))];[gF e,gF e,b]
def M5(kvs:List (κ×V))(k j:κ)(y:V):bN (putK kvs k y) j=if j=k then some y else bN kvs j:=do@putK;a<|(kvs.any λb=>decide (b.1=k))=true;[qF a,HA];a←[mN];e<|j=k;{x,c}:=kh.mp a;[qF e,e,c,jq,qF rfl];[qB e];(by cases bN kvs j with|none|some x=>?_);2;[jq,qB e];[qB a];HB k j y kvs ?_;a←[mN];(by cases q:bN kvs k with|none|some x=>?_);2;a←[q];(a rfl).elim
def Bf(kvs:List (κ×V))(k:κ)(v:V):(putK kvs k v).length<=kvs.length+1:=do@putK;3;[qj];();[qi,zd,yt];()
def K'{kvs:List (κ×V)}{k:κ}(v:V)(h:bN kvs k=none):putK kvs k v=kvs++[(k,v)]:=do@putK;[mN,h];qB ⋯
def e_.fJ(r:e_ o u):o.isSome=u.isSome:=do(by cases o with|none|some _=>?_;cases u with|none|some _=>?_);2;(show False from r).elim;(by cases u with|none|some _=>?_);(show False from r).elim;2
def KV.val(r:KV kvs vs)(k:κ):e_ (bN kvs k) (valueAt vs k):=do(by unfold KV at r;induction r with|nil|@cons p q ps a h t d=>?_);True.intro;{h1,h2}:=h;e<|p.1=k;c:q.1=k:=h1.symm.trans e;b:valueAt (q::a) k=!q.2:=(do#[valueAt,List.find?_cons,c]);[fW e,b];h2;c:¬q.1=k:=λz=>e (h1.trans z);b:valueAt (q::a) k=valueAt a k:=(do#[valueAt,List.find?_cons,c]);[gF e,b];d
theorem KV.any(r:KV kvs vs)(k:κ):(kvs.any λa=>decide (a.1=k))=vs.any λa=>decide (a.1=k):=by unfold KV at r;induction r with|nil|cons h t b=>?_;rfl;rw[j9,j9,b,h.1]
def KV.Bj(r:KV kvs vs)(k:κ)(c:RelV y u) : KV (kvs.map λa=>if a.1=k then(a.1,y) else a) (vs.map λa=>if a.1=k then(a.1,u) else a):=do(by unfold KV at r ⊢;induction r with|nil|@cons p q ps d h t b=>?_);.nil;[zn,zn];.cons ?_ b;{h1,h2}:=h;e<|p.1=k;[qF e,qF (h1.symm.trans e)];{h1,c};[qB e,qB (λz=>e (h1.trans z))];{h1,h2}
def KV.put(r:KV kvs vs)(k:κ)(a:RelV y u):KV (putK kvs k y) (stored vs k u):=do(by unfold putK stored);[r.any k];e<|(vs.any λb=>decide (b.1=k))=true;[qF e,qF e];r.Bj k a;[qB e,qB e];Paired.snoc r {O,a}
theorem KV.length{kvs:List (κ×V)}{vs:List (κ×MD)}(r:KV kvs vs):kvs.length=vs.length:=Paired.length r
end
def nT(r:RelV (kV k) u):(ah P w).is k u=true:=do(by cases k with|inl i|inr x=>?_);{t,e}:=(show ∃t,u=Value.int i t from r);!e;Oy P w i t;{t,e}:=(show ∃t,u=Value.str x t from r);!e;NX P w x t
theorem JW:∀{ks:List Key} {us:List MD},aJ (ks.map kV) us->ItemsAre (ah P w) ks us|[],_,r=>(do r←[j7];-r;.nil)|k::ks,_,r=>do r←[zn];(by cases r with|cons h t=>?_);.cons (nT h) (JW t)
abbrev KT(H:Hp):List (List Key×V)->List (List Key×Sx×MD)->Prop:=Paired λp q=>p.1=q.1/\H q.2.1=!(.tup (p.1.map kV))/\RelV p.2 q.2.2
def KT.val(r:KT H kvs xs)(k:List Key):e_ (bN kvs k) ((atKey xs k).map (·.2)):=do(by induction r with|nil|@cons p q ps c h t d=>?_);True.intro;{h1,_,h2}:=h;e<|p.1=k;a:q.1=k:=h1.symm.trans e;b:atKey (q::c) k=!q.2:=(do#[atKey,List.find?_cons,a]);[fW e,b];h2;a:¬q.1=k:=λz=>e (h1.trans z);b:atKey (q::c) k=atKey c k:=(do#[atKey,List.find?_cons,a]);[gF e,b];d
def KT.Bj(r:KT H kvs xs)(k:List Key)(b:RelV y u) : KT H (kvs.map λa=>if a.1=k then(a.1,y) else a) (xs.map (putAt k u)):=do(by induction r with|nil|@cons p q ps f h t d=>?_);.nil;[zn,zn];.cons ?_ d;{h1,h2,c}:=h;@putAt;e<|p.1=k;[qF e,qF (h1.symm.trans e)];{h1,h2,b};[qB e,qB (λz=>e (h1.trans z))];{h1,h2,c}
def KT.put(r:KT H kvs xs)(k:List Key)(c:H b=!(.tup (k.map kV)))(a:RelV y u) : KT H (putK kvs k y) (storedH xs k b u):=do e:(kvs.any λd=>decide (d.1=k))=(atKey xs k).isSome:=(do[mN,(r.val k).fJ,Option.isSome_map]);(by unfold putK storedH);[e];q<|(atKey xs k).isSome=true;[qF q,qF q];r.Bj k a;[qB q,qB q];Paired.snoc r {O,c,a}
def KT.keeps(r:KT H kvs xs)(a:∀b ys,H b=!(.tup ys)->H' b=!(.tup ys)):KT H' kvs xs := Paired.k_ r λ_ _ z=>{z.1,a _ _ z.2.1,z.2.2}
section
variable {P:Program}{w:World}{H:Hp}{h:Heap}{a:Sx}
def yK(ok:dn P w H h)(e:Rd H a u):aS P w H h a u:=e.ok ok
def oz(ok:dn P w H h)(e:Rd H a (.dK kvs)):kvs.length<=sizeLine/\(a==sysModules)=false/\∃vs,KV kvs vs/\h.DictOf (ah P w) a vs := show aS P w H h a (.dK kvs) from yK ok e
def tT(ok:dn P w H h)(e:H a=!(.dK kvs)):kvs.length<=sizeLine/\(a==sysModules)=false/\∃vs,KV kvs vs/\h.DictOf (ah P w) a vs:=oz ok (.inl e)
def pX(ok:dn P w H h)(e:H a=!(.tup (ks.map kV))):(tupleKind (ah P w)).is h ks a:=do _;{_,its,r,o,h1,h2,n,b}:=(show aS P w H h a (.tup (ks.map kV)) from ok a _ e);{o,its.toArray,n,h1,h2,b,do 0<|JW r}
def uc(ok:dn P w H h)(e:Rd H a (.dT kvs)):kvs.length<=sizeLine/\(a==sysModules)=false ∧ ∃xs,KT H kvs xs/\h.DictOfH (tupleKind (ah P w)) a xs:=do _;{z,y,xs,r,o,es,ep,h1,h2,d,f,i}:=(show aS P w H h a (.dT kvs) from yK ok e);{z,y,xs,r,o,es,ep,h1,h2,d,f,λx b=>?_,i};all:∀{l:List (List Key×V)} {m:List (List Key×Sx×MD)},KT H l m->∀x∈m,(tupleKind (ah P w)).is h x.1 x.2.1:=(do(l,m,q);(by induction q with|nil|@cons p q ps j c t g=>?_);(x,b);nomatch b;(x,b);e||b:=q0.mp b;!e;pX ok (do[←c.1];c.2.1);g x b);all r x b
def Gu(ok:dn P w H h)(e:H a=!(.dT kvs)):kvs.length<=sizeLine/\(a==sysModules)=false ∧ ∃xs,KT H kvs xs/\h.DictOfH (tupleKind (ah P w)) a xs:=uc ok (.inl e)
end
def En(H:Hp)(a:Sx)(y:V)(r:Option V):Prop := (∃kvs k,Rd H a (.dK kvs)/\y=kV k/\r=bN kvs k)\/∃kvs k b,Rd H a (.dT kvs)/\y=.ref b/\H b=!(.tup (k.map kV))/\r=bN kvs k
def Je(H:Hp)(a:Sx)(y v:V)(H':Hp):Prop := (∃kvs k,H a=!(.dK kvs)/\y=kV k/\kvs.length<sizeLine/\H'=upd H a (.dK (putK kvs k v))) ∨ ∃kvs k b,H a=!(.dT kvs)/\y=.ref b/\H b=!(.tup (k.map kV))/\kvs.length<sizeLine/\H'=upd H a (.dT (putK kvs k v))
section
variable {X:Cx}{pins:List (Sx×Obj)}{σ:St}{H:Hp}{s:Sv}{a:Sx}{y v:V}{u r:MD}{o:Option V}{A:Around}{E:KE}
def Inv.kK(I:Inv X pins σ H s):sysModules<↑s:=do h:mainGlobals<↑s:=(I.mod.glob.keeps I.bk).lt;jr ⋯ h
def ML(t:A.units+1<cLine)(I:Inv X pins σ H s)(g:En H a y (!v))(q:RelV y u)(h:∀f s',Inv X pins σ H s'->RelV v f->Q f s') : wpAny (model X.prog X.w) A (getItem (.ref a) u) Q E s:=do _;{kvs,k,e,m,l}||{kvs,k,b,e,m,x,l}:=g;!m;{z,r,vs,d,j}:=oz I.aR e;{f,n,c}:=e_.some_of (v:=v) (o:=valueAt vs k) (do[l];d.val k);wpAny_getItem_of (nT q) j.mapOf n (h f _ (I.tok _) c);!m;-((show u=Value.ref b from q));{z,r,xs,d,j}:=uc I.aR e;{f,n,c}:=e_.some_of (v:=v) (o:=(atKey xs k).map (·.2)) (do[l];d.val k);{p,hp,i}:=wj.mp n;wpAny_getItem_heap (tupleKind_room_in1 t) (pX I.aR x) j hp ?_;[i];h f _ (I.tok _) c
def pN(I:Inv X pins σ H s)(d:J5 (H a))(f:Heap.SameBut a s.heap h')(c:∃q,h'.get? a=!q)(new:aS X.prog X.w (upd H a ob) h' a ob) : Inv X pins σ (upd H a ob) {s with heap:=h',toks:=t'} := I.write (x:=a) (e:=a) d (.inl rfl) (λb q g z=>(f.2 b g).trans z) c new
def IZ(z:kvs.length<=sizeLine)(c:(a==sysModules)=false)(b:KV kvs vs)(d:h'.DictOf (ah P w) a vs) : aS P w H' h' a (.dK kvs):={z,c,vs,b,d}
def QH(G:A.units+1<cLine)(I:Inv X pins σ H s)(g:Je H a y v H')(D:RelV y u)(x:RelV v r)(h:∀s',Inv X pins σ H' s'->Q Unit.unit s') : wpAny (model X.prog X.w) A (setItem (.ref a) u r) Q E s:=do _;{kvs,k,e,o,l,n}||{kvs,k,b,e,o,C,l,n}:=g;(by subst o n);{z,j,vs,d,m}:=tT I.aR e;hz:vs.length<=sizeLine:=(do[←d.length];z);t:(putK kvs k v).length<=sizeLine:=(do this:=Bf kvs k v;());wpAny_setItem_pairs (hsz:=hz) (nT D) m λh' f p=>h _ ?_;F:∃q,h'.get? a=!q:=let⟨q,_,_,i,_⟩:=f;{q,i};pN I (do[e];True.intro) p F (IZ t j (d.put k x) f);(by subst o n);-((show u=Value.ref b from D));{z,j,xs,d,m}:=Gu I.aR e;hz:xs.length<=sizeLine:=(do[←Paired.length d];z);t:(putK kvs k v).length<=sizeLine:=(do this:=Bf kvs k v;());wpAny_setItem_heap (hsz:=hz) (tupleKind_room_in1 G) (pX I.aR C) m λh' f p=>h _ ?_;{q,es,ep,i,h2,J,K,_,L}:=f;pN I (do[e];True.intro) p {q,i} {t,j,_,(d.put k C x).keeps λc ys B=>?_,q,es,ep,i,h2,J,K,L};[ak (oE B e (λz=>nomatch z))];B
end
def Bx(i:Expr):Prop:=∀b a,subscripted i false b a=operate [b,a] (getItem b a)
def HX{prog:Program}{w:World}{A:Around}{E:KE}{s:Sv}{env:Env}{value a:Expr}{pos:Pos}{T id:String}{Q:KE}(l:typeLookup (.type T) "__getitem__"=pure (!(.builtin id)))(k:Bx a)(h:wpAny (model prog w) A (eval value env) (λo d=>wpAny (model prog w) A (eval a env) (λi b=>b.TypeIs o T/\wpAny (model prog w) A (getItem o i) Q E b) E d) E s) : wpAny (model prog w) A (eval (.Subscript value a pos) env) Q E s:=do Subscript_ (qM h (λo d h₁=>qM h₁ (λi b c=>?_) λ_ _ x=>x) λ_ _ x=>x);{j,c}:=c;@subscriptTail;qA ?_;[getitemInPython_of_ne j.not_modules];qA (wpAny_specialOf j l ?_);f:wpAny (model prog w) A (subscripted a false o i) (λr e=>wpAny (model prog w) A (letTemporaryGo value o r >>= λ_=>pure r) Q E e) E b:=(do[k o i];wpAny_operating (qM c (λr e g=>qA (wpAny_letTemporaryGo (qE g))) λ_ _ x=>x));by first|exact qE (qA f)|exact qA (qE (qA f))|exact qA f
def Pu{X:Cx}{pins:List (Sx×Obj)}{σ:St}{H:Hp}{s:Sv}{a:Sx}{y:V}{o:Option V}(I:Inv X pins σ H s)(g:En H a y o):s.TypeIs (.ref a) "dict":=do _;{kvs,k,e,_,_}||{kvs,k,b,e,_,_,_}:=g;{_,_,vs,_,c}:=oz I.aR e;c.typeIs;{_,_,xs,_,c}:=uc I.aR e;c.typeIs
inductive E2(Q:VK)(x y:V)(H2:Hp):Prop
 |mk(a v:_)(_:x=.ref a)(_:En H2 a y (!v))(_:Q v H2)
def LO(td ty:TE):TE:=λσ H Q=>td σ H λx H1=>ty σ H1 λy H2=>E2 Q x y H2
inductive C7(D:Ends)(σ:St)(v x y:V)(H3:Hp):Prop
 |mk(a H4:_)(_:x=.ref a)(_:Je H3 a y v H4)(_:D.nx σ H4)
def LD(td ty tv:TE):TS:=λD σ H=>tv σ H λv H1=>td σ H1 λx H2=>ty σ H2 λy a=>C7 D σ v x y a
section
variable {X:Cx}{o i e value:Expr}{pos pos' tpos:Pos}{td ty tv:TE}
def cU(j:X.A.units+1<cLine)(p:PE X o td)(hi:PE X i ty)(f:Bx i):PE X (.Subscript o i pos) (LO td ty):=do _;{?_};(pins,s,σ,H,Q,I,h);HX PySem.F.slot_dict_getitem.lookup f (bI (p pins s σ H _ I h) λu e ⟨x,H1,k,l,n⟩=>bI (hi pins e σ H1 _ k n) λw s2 ⟨y,H2,c,q,a,v,ex,g,m⟩=>?_);!ex;(by obtain rfl:u=Value.ref a:=l);{Pu c g,ML j c g q λr t d b=>{v,H2,d,b,m}}
def NQ(m:X.A.units+1<cLine)(n:PE X o td)(hi:PE X i ty)(j:PE X value tv)(l:swapsWith value (!(.Subscript o i pos')) pos.line X.env=pure false) : PS X (.Assign [.Subscript o i pos'] value pos) (LD td ty tv):=do _;{?_};(pins,s,σ,H,D,I,h);wpAny_Assign_Subscript (bI (j pins s σ H _ I h) λr k ⟨v,H1,q,d,w⟩=>bI (n pins k σ H1 _ q w) λu s2 ⟨x,H2,z,t,c⟩=>bI (hi pins s2 σ H2 _ z c) λG C ⟨y,F,B,e,a,p,ex,g,f⟩=>?_) l;!ex;(by obtain rfl:u=Value.ref a:=t);QH m B g e d λE b=>{σ,p,b,f}
end
def OW(h:Heap)(a:sysModules<h.objs.size):aS P w H (h.push {cls:=.type "dict",data:=.dict #[]}) h.objs.size (.dK []) := {qv _,beq_eq_false_iff_ne.mpr (Ne.symm (qp a)),[],.nil,Heap.DictOf.new h}
def Dm:TE:=λ_ H Q=>∀p,H p=none->Q (.ref p) (upd H p (.dK []))
section
variable {X:Cx}{pos:Pos}
def O8:PE X (.Dict [] [] pos) Dm:={λpins s σ H Q I h => wpAny_Dict_empty {.ref ↑s,_,I.laid (a:=↑s) (o:=.dK []) (t':=s.toks) (λ_ _ q=>qH _ q) (qe _) (OW s.heap I.kK),O,h _ (I.aR.fresh (qe _))}}
end
end L2
namespace Att
open PySem PySem.W PySem.Calls PyProof.Rows
def Ms:∀(ns:List Int) (vs:List MD),WellAll P h vs (ns.map WData.int)->IntsAre vs ns:=do(ns);(by induction ns with|nil|cons n ns c=>?_);(vs,w);w←[j7];-w;.nil;(vs,w);w←[zn];(by cases w with|cons a b=>?_);-a;.cons _ _ (c _ b)
def OZ{l:OpenLaw}{n:Nat}(hn:l.most=!n){P:Params}{h:Heap}{args:List WData}{c:List MD}(b:l.row.toRowW.claim.pre args=true)(j:WellAll P h c args) : ∃a vs ns,c=[Value.ref a]/\args=[WData.list (ns.map WData.int)]/\h.get? a=some {cls:=.type "list",data:=.seq vs.toArray}/\IntsAre vs ns/\ns.length<=n:=do k:WShape.hasAll [] args [.list .int]=true:=(pre_splitW b).1;m:l.pre.holds [] {args:=args}=true:=(pre_splitW b).2;{d,r,rfl,h1,h2}:=hasAllW_cons k;(by obtain rfl:=hasAllW_nil h2);{xs,rfl,p}:=hasW_list h1;{ns,rfl}:=items_int p;f:ns.length<=n:=(do(by unfold OpenLaw.pre at m);g:(WTm.not (.lt (.lit (.int (n:Int))) (.len (.arg 0)))).holds [] {args:=[.list (ns.map .int)]}=true:=(do g:=(holds_andW m).1;g←[hn];g);i:=condW_of g (w_not (w_lt w_lit (w_len_list (w_arg rfl))));i←[qj];Nat.le_of_not_lt λq=>?_;o:(n:Int)<((ns.length:Nat):Int):=();by first|rw[qI o]at i;exact absurd i ⋯|simp at i;omega);(by cases j with|cons t s=>?_);-s;(by cases t with|list u e=>?_);{_,_,ns,O,O,u,Ms ns _ e,f}
def OF(l:OpenLaw)(args:List WData):l.row.toRowW.claim.post args (.bool true) args=true := postW_of (r:=l.row.toRowW) (X:=(true==true)) (show WShape.has [] (.bool true) .bool=true by first|rfl|decide|simp[WShape.has,WShape.arms,WShape.armsAll]) (show(WTm.eq .res (.lit (.bool true))).value [] {args:=args,res:=!(.bool true),after:=args}=some (.bool (true==true)) from w_eq_bool (w_res rfl) w_lit) rfl
def lS{l:OpenLaw}{n:Nat}{q:Program}{c:List Sy}{A:(Sy->Option MD)->Heap->Prop}{B:World->Heap->Prop}{d:DefRec}(hn:l.most=!n)(s:d.params.defaults=[])(call:∀(w:World) (s₀ b:Sv) (mg t:Sy->Option MD) (fa:Sx) (o:Obj) (k cd e:MD) (a:Sx) (vs:List MD) (ns:List Int),Ground q c [] A w s₀ mg t b.heap->B w b.heap-> b.heap.get? fa=!o->o.data=.func (docDef d.name d.params d.body d.scope k cd e)->b.heap.CodeRec cd d.name->mg d.name=some (.ref fa)-> b.heap.get? a=some {cls:=.type "list",data:=.seq vs.toArray}->IntsAre vs ns->ns.length<=n->b.gens=#[]-> codeAny (model l.prog w) callerA (.call (.ref fa) {[.ref a],[]}) (λr s'=>r=.ok (.ret (.bool true))/\OldK b.heap s'.heap/\s'.os=b.os/\AllBare s'.gens) b) : WalkO q c A B l.row.toRowW d [] (λf vs=>PySem.call f vs):=do(w,s₀,b,mg,t,G,Y,fa,o,k,cd,e,C,kV,H,J,m,v,u,M,z,y,N,i,x,K,p,E);(by obtain rfl:C=.none:=Dflts.none v s;obtain rfl:kV=.none:=Dflts.noKw v);{a,vs,ns,rfl,rfl,j,g,h}:=OZ hn i p;enter_call (codeAny_mono (call w s₀ b mg t fa o k cd e a vs ns G Y H (fd_plain J) m u j g h M) λr s' I=>?_);{rfl,h2,L,F}:=I;{.inl {.bool true,.bool true,[],O,λ_=>rfl,.bool true,OF l _,λ_=>{List.Pairwise.nil,λ_ D=>(nomatch D)}},h2,L,F}
end Att
namespace L2
open PySem PySem.Spec PyProof.Rows
theorem HF:∀{vs:List MD} {ns:List Int},IntsAre vs ns->aJ (ns.map V.int) vs|_,_,.nil=>.nil|_,_,.cons n t h=>.cons {t,O} (HF h)
def bZ(s:Stmt):Arguments:=match s with|.FunctionDef _ a _ _ _ _ _ _ _ _=>a|_=>{posonlyargs:=[],args:=[],vararg:=none,kwonlyargs:=[],kw_defaults:=[],kwarg:=none,defaults:=[]}
def bL(s:Stmt):List Stmt:=match s with|.FunctionDef _ _ b _ _ _ _ _ _ _=>b|_=>[]
def ag(s:Stmt):Scope:=match s with|.FunctionDef _ _ _ _ _ _ sc _ _ _=>sc|_=>{kind:=.function,names:=[],isGenerator:=false,isCoroutine:=false}
abbrev iO:u_:=λ_ _ _ _ _ _=>False
abbrev E0:XK:=λ_ _ _=>False
def zT:mL iO X E0:=λ_ _ _ _ _ _ _ h=>h.elim
structure Ei(K:PySem.W.Frag)(x qual:Sy)(st:Stmt)(f:Sx)(fd:FuncData):Prop where
 ex:∃(oc:MD) (od:Option Sx) (kV doc pm:MD) (an:Option Sx) (cdv ct:MD) (osl:Array (Option MD)),
  fd=PySem.W.fnOf x qual (bZ st) (bL st) (ag st) .none kV doc pm an cdv ct/\K.lookup f=some {oc,od,.func fd,osl}/\PySem.W.codeIn K cdv qual=true
 kp:PySem.W.keepIn K (.ref f)=true
section
variable {P:Program}{w:World}{K:PySem.W.Frag}{mg:Sy->Option MD}{base:Heap}
def Ei.ok{x qual:Sy}{st:Stmt}{f:Sx}{fd:FuncData}{N ps:List Sy}{k:Nat}{sp:Sp}(F:Ei K x qual st f fd)(S:ax N ps (ag st))(len:∀vs H Q E,sp vs H Q E->vs.length=ps.length)(b:∀(a:MD) (A:Around) (outer:List Env) (s:Sv) (H:Hp) (vs:List V) (Q:VK) (E:XK),bG k (A.deeper (envOfC qual (ag st) ↑s f a))->sp vs H Q E-> ∃t,iG (kB iO P w K mg base N qual (ag st) f a A outer s H E).wW (bL st) t/\t {nx:=λ_ H'=>Q .aQ H',rt:=Q} (start N vs) H):f9 P w K mg base iO (k+1) f fd ps sp:=do _;{o,od,kV,g,n,l,a,m,e,rfl,j,d}:=F.ex;ud j d S len λA outer s H vs Q E i c=>?_;{t,h,q}:=b a A outer s H vs Q E i c;{t,h.wW,q}
def Ei.binds{x qual:Sy}{st:Stmt}{f:Sx}{fd:FuncData}{ps:List Sy}(F:Ei K x qual st f fd)(h:∀{kV a e:MD}{c:Option Sx}{b d:MD}(us:List MD),us.length=ps.length->bindArgs (PySem.W.fnOf x qual (bZ st) (bL st) (ag st) .none kV a e c b d) {us,[]}=pure (ps.zip us)):Binds K fd ps []:=do _;{j,od,kV,a,e,c,b,d,g,rfl,k,i}:=F.ex;.all h
def Im{x qual:Sy}{st:Stmt}{f:Sx}{i:MD}{od e:Option Sx}{d:Array (Option MD)}{kV b h a g:MD}(l:K.lookup f=some {i,od,.func (PySem.W.fnOf x qual (bZ st) (bL st) (ag st) .none kV b h e a g),d})(c:PySem.W.codeIn K a qual=true)(k:PySem.W.keepIn K (.ref f)=true):Ei K x qual st f (PySem.W.fnOf x qual (bZ st) (bL st) (ag st) .none kV b h e a g):={⟨i,od,kV,b,h,e,a,g,d,O,l,c⟩,k}
end
def cR{A:Around}(a:bG k A):A.units+1<cLine:=jj (Nat.add_le_add_left (by decide:1<=64) _) a.units
def cG(h:n<=1000):n<sizeLine:=jj h ⋯
section
variable {X:Cx}
def pv(i:Nat)(c:X.N[i]?=!x:=by rfl)(d:L0 X.env.scope x:=by first|exact Or.inl rfl|exact Or.inr (Or.inl rfl)|exact Or.inr (Or.inr rfl))(b:(x==("__debug__":Sy))=false:=by decide)(a:(x==("__classdict__":Sy))=false:=by decide):PE X (.Name x pos) (uh i):=De c d b a
end
def dI{A B:Prop}(h:A):if true=true then A else B:=do[qF rfl];h
def af(H H':Hp):Prop:=∀b o,H b=!o->H' b=!o
def af.refl(H:Hp):af H H:=λ_ _ h=>h
def af.trans(a:af H H1)(b:af H1 H2):af H H2:=λc o h=>b c o (a c o h)
def af.free(e:af H H')(h:H' l=Option.none):H l=Option.none:=do(by cases q:H l with|none|some o=>?_);2;h←[e l o q];-h
section
variable {κ:Type}[DecidableEq κ]
def OS{kvs:List (κ×V)}{k:κ}{v:V}(h:bN kvs k=!v):k∈kvs.map (·.1):=do q:(kvs.any λa=>decide (a.1=k))=true:=(by rw[mN,h];all_goals rfl);{p,hp,e}:=yz.mp q;qf.mpr {p,hp,qO e}
end
section
variable {prog:Program}{w:World}{A:Around}{R:Result->Sv->Prop}{s:Sv}
def Ro{ce:Env}(J:Nat->Sv->Prop)(turn:∀n s,J n s->wpAny (model prog w) A (pyNext it) (λr g=>match r with|none=>R (.ok .next) g|some v=>wpAny (model prog w) A (letOwnedTupleGo tg it v) (λ_ s2=>wpAny (model prog w) A (assign tg ce v) (λ_ k => wpAny (model prog w) A (forIn b true λc r=>if r=true then do{let ok ←isTrue c ce (eval c ce);pure (ForInStep.yield ok)}else pure (ForInStep.yield r)) (λok e => if ok=true then wpAny (model prog w) A (eval d ce) (λx j=>wpAny (model prog w) A (call (.builtin "list.append") [acc,x]) (λ_ i=>∃m,m<n/\J m i) (λ_ _=>False) j) (λ_ _=>False) e else ∃m,m<n/\J m e) (λ_ _=>False) k) (λ_ _=>False) s2) (λ_ _=>False) g) (λ_ _=>False) s)(n:Nat)(h:J n s):codeAny (model prog w) A (.compLoop (.ListComp d [{tg,a,b,0}] o pos) 0 it acc ce) R s:=do codeAny_loop rfl J (λn s t=>?_) n h;¬wpAny _ A ((compTurn (.ListComp d [{tg,a,b,0}] o pos) 0 it acc ce).onRaise (λx=>do{noteFrame x ce;theTreesLotGoes x})) _ _ s;wpAny_noted ?_;[compTurn_list];qA (wpAny_standAt (qA (qM (turn n s t) (λr g h1=>?_) λ_ _ f=>f.elim)));(by cases r with|none|some v=>?_);qE h1;qA (qM h1 (λ_ s2 h2=>?_) λ_ _ f=>f.elim);qA (qM h2 (λ_ k q=>?_) λ_ _ f=>f.elim);qA (qM q (λok e l=>?_) λ_ _ f=>f.elim);(by cases ok with|false|true=>?_);qE {O,l};qA (qA (qM l (λx j u=>?_) λ_ _ f=>f.elim));qA (qM u (λ_ i p=>qE (qE {O,p})) λ_ _ f=>f.elim)
end
def a_(X:Cx)(N:List Sy)(a:Scope)(cl:List (Sy×Sx))(s:Sv)(H:Hp)(b:List Sx):Cx where
 prog:=X.prog
 w:=X.w
 K:=X.K
 mg:=X.mg
 base:=X.base
 A:=X.A
 N:=N
 s₀:=s
 H₀:=H
 env:=compEnvC a cl (↑s+1) X.env
 outer:=X.stack
 stack:=X.stack
 ex:=b
 fn:=λ_=>false
 calm:=X.calm
 pn:=[]
 xe:=λ_ _=>False
def cD(own:List Sy)(fr:List (Sy×Nat))(σ:St):St:=own.map (λ_=>none)++fr.map λp=>(σ[p.2]?).join
def fv(σ σ':St):Prop:=σ.length=σ'.length/\∀(i:Nat) v,σ[i]?=!(!v)->σ'[i]?=!(!v)
def i6(g:TG)(σ:St):Prop:=∀x H (Q:St->Hp->Prop),g x σ H Q->g x σ H λσ' H'=>fv σ σ'/\Q σ' H'
theorem fv.set(h:σ[i]?=!none)(v:V):fv σ (σ.set i (!v)):=do _;{do 0,λj u e=>?_};a<|i=j;!a;e←[h];-e;[yy a];e
def mI(h:σ[i]?=!none):i6 (cM i) σ:=λx H Q q=>{fv.set h x,q}
def pP(hi:σ[i]?=!none)(f:σ[j]?=!none)(b:i≠j):i6 (wI n (iU (cM i) (iU (cM j) CA))) σ:=do(x,H,Q,q);{a,xs,c,o,h,v,r,l,w,m,d,g,q}:=q;{a,xs,c,o,h,v,r,l,w,m,d,g,?_,q};h1:=fv.set hi v;h2:=fv.set (σ:=σ.set i (!v)) (i:=j) (do[yy b];f) w;{h1.1.trans h2.1,λk u e=>h2.2 k u (h1.2 k u e)}
def Le(X:Cx)(a:List Expr)(t:TT):Prop := ∀(pins:List (Sx×Obj)) (s:Sv) (σ:St) (H:Hp) (Q:Bool->Hp->Prop),Inv X pins σ H s->t σ H Q-> wpAny (model X.prog X.w) X.A (forIn a true λc r=>if r=true then do{let ok ←isTrue c X.env (eval c X.env);pure (ForInStep.yield ok)}else pure (ForInStep.yield r)) (TP X pins σ Q) X.xe s
structure vW(X:Cx)(ifs:List Expr)(t:TT):Prop where run:Le X ifs t
instance RE{X:Cx}{a:List Expr}{t:TT}:CoeFun (vW X a t) λ_=>Le X a t:={vW.run}
def dJ:vW X [] (λ_ H Q=>Q true H):={λ_ _ _ H _ I h=>wpAny_tests_nil {H,I,h}}
def fN(h:PT X c t):vW X [c] t:={λpins s σ H Q I q=>wpAny_tests_one (h pins s σ H Q I q)}
def FR(own:List Sy)(fr:List (Sy×Nat))(g:TG)(tt:TT)(te:TE)(σ:St)(Q:VK)(J:It)(H1:Hp):Prop:=∃W:Nat->Nat->List V->Hp->Prop,(∃m,W 0 m [] H1)/\∀i m ys H,W i m ys H-> (J.stop i H/\∀p,H p=none->Q (.ref p) (upd H p (.lst ys)))\/(J.go i H/\ys.length<sizeLine/\∀x H',J.wM i H x H'->g x (cD own fr σ) H' λa H2=>tt a H2 λb d => if b=true then te a d λy e=>∃c,c<m/\W (i+1) c (ys++[y]) e else ∃c,c<m/\W (i+1) c ys d)
def LS(own:List Sy)(fr:List (Sy×Nat))(a:TI)(g:TG)(tt:TT)(te:TE):TE:=λσ H Q=>a σ H λJ H1=>FR own fr g tt te σ Q J H1
abbrev bS(us:List MD):Obj:={cls:=.type "list",data:=.seq us.toArray us.length}
def OY(us:List MD)(u:MD):({cls:=.type "list",data:=.seq (us.toArray.push u) (us.length+1)}:Obj)=bS (us++[u]):=do@bS;[qi,qt,List.push_toArray]
structure lO(X:Cx)(sc:Scope)(cl:List (Sy×Sx))(fr:List (Sy×Nat)):Prop where
 vQ:closureFor sc X.env=pure cl
 sub:∀x c,cl.lookup x=!c->X.env.cells.lookup x=!c
 has:∀x,((relabel sc X.env).names.lookup x=some .cell\/(relabel sc X.env).names.lookup x=some .free)->∃c,cl.lookup x=!c
 ND:∀p∈fr,X.N[p.2]?=!p.1/\X.env.kindOf p.1≠some .local/\L0 X.env.scope p.1/\((relabel sc X.env).names.lookup p.1=some .cell\/(relabel sc X.env).names.lookup p.1=some .free)
structure fF(sc:Scope):Prop where
 kind:sc.kind=.function
 cell:∀y∈sc.names,y.2≠.cell
 lK:∀y∈sc.names,y.2=.local->sc.names.lookup y.1=some .local
section
variable {X:Cx}
def Inv.ib{pins:List (Sx×Obj)}{σ:St}{H:Hp}{s:Sv}(I:Inv X pins σ H s){b:Sx}(h1:b≠X.env.locals)(h2:b∉X.fs):b∉d_ X.stack:=λz=>do e||e:=q0.mp (I.gU b z);h1 e;h2 e
def Qg{own:List Sy}{fr:List (Sy×Nat)}{σ:St}{N:List Sy}(c:N=own++fr.map (·.1)){i:Nat}{x:Sy}{v:V}(h1:N[i]?=!x)(h2:(cD own fr σ)[i]?=!(!v)) : ∃p∈fr,p.1=x/\σ[p.2]?=!(!v):=do(by unfold cD at h2);!c;hi<|i<own.length;h2←[List.getElem?_append_left (do 0<|hi),List.getElem?_map];h2←[qh hi];-h2;h2←[List.getElem?_append_right (do 0<|hi),List.length_map,List.getElem?_map];h1←[List.getElem?_append_right (do 0<|hi),List.getElem?_map];(by cases e:fr[i - own.length]? with|none|some p=>?_);h1←[e];-h1;(by rw[e]at h1 h2);{p,qw e,qJ h1,?_};a:(σ[p.2]?).join=!v:=qJ h2;(by cases b:σ[p.2]? with|none|some o=>?_);a←[b];-a;a←[b];[show o=some v from a]
def Inv.block{pins:List (Sx×Obj)}{σ:St}{H:Hp}{s:Sv}{own:List Sy}{fr:List (Sy×Nat)}{E:Scope}{cl:List (Sy×Sx)}{j:List Sx}{h1:Heap}{m:Sy->Option MD}{tk:Nat}(I:Inv X pins σ H s)(h:∀b∈j,fx X pins H b)(n:∀b∈j,b<↑s)(S:fF E)(C:lO X E cl fr)(old:∀b o,s.heap.get? b=!o->h1.get? b=!o)(hn:h1.Ns (↑s+1) m)(K:h1.get? ↑s=!(bS [])) : Inv (a_ X (own++fr.map (·.1)) E cl s H j) [(↑s,bS [])] (cD own fr σ) H {s with heap:=h1,toks:=tk}:=do g:∀x c,cl.lookup x=!c->c<↑s:=λx c e=>(do _;{v,z}:=I.cell x c (C.sub x c e);z.lt);a:↑s<=↑s+1:=jt _;{{I.ok.mod,S.kind,I.ok.glob,I.ok.blt,a,λx y c q B=>I.ok.inj x y c (C.sub x c q) (C.sub y c B),λx G=>C.has x G,λ_ _ z=>(do-z),I.ok.hd,I.ok.frames,.inl rfl,λb d=>{?_,λx c e z=>?_},I.bs,qg I.ok.tN I.sz,λb o e d=>?_,λb d z=>?_,I.stack,I.oo},O,I.bare,Un.kept old,{m,hn,λi x v q B W=>?_},λx c e=>?_,I.aR.fresh a,λx c e=>I.du x c (C.sub x c e),λp hp=>?_,I.aR.kept old,?_};qp (yn (n b d));(h b d).2.2.2.2.1 x c (C.sub x c e) z;z||z:=(h b d).2.2.2.1;I.ok.sM b o e z;absurd (zf (qG e) (qg I.ok.tN z)) (wu _);I.ib (h b d).2.1 (h b d).2.2.1 z;{p,hp,rfl,N}:=Qg rfl q B;{R,L,M,F}:=C.ND p hp;{V,T,U}:=I.loc;{u,r,l}:=U p.2 p.1 v R N M;{u,r,.inr {F,?_}};{k,_}||{_,c,P,w,D,A}:=l;absurd k L;{J,f}:=C.has p.1 F;this:=C.sub p.1 J f;this←[P];-this;{c,f,w,old _ _ D,A};{v,o,w,Q}:=I.cell x c (C.sub x c e);{v,o,old _ _ w,Q};t:p=(↑s,bS []):=(by simpa[a_] using hp);!t;{K,I.aR.fresh (qe _),?_,?_,λv z=>do-z};qp (yo _);I.ib (zu I.lt) (I.vO (qe _));¬(cD own fr σ).length=(own++fr.map (·.1)).length;@cD;[qi,qi,qj,qj,qj]
def dn.ie(x:dn P w H h)(hn:H a=none)(new:aS P w (upd H a o) h a o):dn P w (upd H a o) h:=λb u e=>do d<|b=a;!d;e←[aB];-e;new;e←[ak d];(x b u e).cQ (λc v _ q=>q) (λc q=>do[ak (aZ q hn)];q) λc xs q=>do[ak (aZ q hn)];q
def Inv.nN{pins:List (Sx×Obj)}{σ:St}{H k:Hp}{s f:Sv}{N:List Sy}{t:St}{D:Scope}{cl:List (Sy×Sx)}{p:List Sx}{h':Heap}{ys:List V}{us:List MD}(I:Inv X pins σ H s)(r:∀b∈p,fx X pins H b)(g:Inv (a_ X N D cl s H p) [(↑s,bS us)] t k f)(B:aJ ys us)(hz:ys.length<=sizeLine)(C:Heap.SameBut (↑s+1) f.heap h'):Inv X pins σ (upd k ↑s (.lst ys)) {f with heap:=h'}:=do _;{x,i,lB,_,_}:=g.pin (↑s,bS us) (List.mem_append_right _ (do 0));x:f.heap.get? ↑s=!(bS us):=x;i:k ↑s=none:=i;d:Un (d_ X.stack) p H k s.heap f.heap:=g.base;y:k (↑s+1)=none:=g.free;a:∀b o,s.heap.get? b=!o->b≠↑s+1:=λb o e=>qp (yn (qG e));m:∀b o,s.heap.get? b=!o->b≠↑s:=λb o e=>qp (qG e);h:∀b o,b≠↑s+1->f.heap.get? b=!o->h'.get? b=!o:=λb o j e=>C.extBut b o j e;I.gP (s':={f with heap:=h'}) (ch:=p) g.os {λb o e n h1 h2=>h b o (a b o e) (d.keep b o e n h1 h2),λb o e n h1 h2=>?_,λb o e n h2=>?_,λb o e h2=>?_,λb xs e=>?_,λb o u e=>?_,λb ps e=>?_,λb o xs e n=>h b o (a b o e) (d.dM b o xs e n)} ?_ g.bare λb j=>{(r b j).2.2.2.1,(r b j).2.1,(r b j).2.2.2.2.1,(r b j).2.2.2.2.2};{sl,q}:=d.slot b o e n h1 h2;{sl,h b _ (a b o e) q};[ak (m b o e)];d.free b o e n h2;{o',q}:=d.there b o e h2;{o',h b _ (a b o e) q};q:=d.ab b xs e;[ak (aZ q i)];q;q:=d.dP b o u e;[ak (aZ q i)];q;{more,q}:=d.dR b ps e;{more,do[ak (aZ q i)];q};A:dn X.prog X.w k h':=λb u e=>(g.aR b u e).cQ (λc v l q=>h c v (λz=>do !z;l||l:=l;!l;e←[y];-e;l←[y];-l) q) (λ_ q=>q) λ_ _ q=>q;A.ie i {hz,us,us.length,B,h _ _ (qp (yo _)) x}
def Il{O tg F:Expr}{M:List Expr}{j:Scope}{pos:Pos}{own:List Sy}{fr:List (Sy×Nat)}{cl:List (Sy×Sx)}{g:TG}{tt:TT}{te:TE}{RR:MD->Sx->Result->Sv->Prop}{E:KE}{pins:List (Sx×Obj)}{σ:St}{H2:Hp}{s2:Sv}{Q:VK}{it:Sx}{a:List Sx}{tn:Nat->Heap->Prop}{J:It}(hc:X.calm=true)(S:fF j)(C:lO X j cl fr)(hg:∀s H a,PG (a_ X (own++fr.map (·.1)) j cl s H a) tg g)(hfr:∀σ,i6 g (cD own fr σ))(ht:∀s H a,vW (a_ X (own++fr.map (·.1)) j cl s H a) M tt)(he:∀s H a,PE (a_ X (own++fr.map (·.1)) j cl s H a) O te)(I2:Inv X pins σ H2 s2)(T:Turn X.prog X.w X.K tg J a it tn)(N:tn 0 s2.heap)(f2:∀b∈a,fx X pins H2 b)(hW:FR own fr g tt te σ Q J H2)(hRR:∀s5 I ys us,Inv (a_ X (own++fr.map (·.1)) j cl s2 H2 a) [(↑s2,bS us)] (cD own fr σ) I s5->aJ ys us->ys.length<=sizeLine->(∀p,I p=none->Q (.ref p) (upd I p (.lst ys)))-> RR (.ref ↑s2) (↑s2+1) (.ok .next) s5) : wpAny (model X.prog X.w) X.A (newList []) (λacc s3=>wpAny (model X.prog X.w) X.A (newFunctionEnv j X.env.globals cl [] X.env.qual none .none (!X.env)) (λce s4 => codeAny (model X.prog X.w) X.A (.compStart (.ListComp O [{tg,F,M,0}] j pos) 0 (.ref it) acc {ce with scope:=relabel j X.env}) (RR acc ce.locals) s4) E s3) E s2:=do _;{W,{m0,w0},turn}:=hW;B:∀b∈a,b<↑s2:=λb h=>(do _;{o,e,_}:=T.obj _ _ N b h;qG e);wpAny_newObj_type (wpAny_newFunctionEnv S.cell (do(y,hy);hy←0) (λh₁ f d=>?_) S.kind);(by dsimp only at f d ⊢;generalize P:s2.heap.push {cls:=.type "list",dict:=none,data:=.seq ([]:List MD).toArray}=G at f d ⊢);hC:G.objs.size=↑s2+1:=(do[←P,Heap.size_push]);(by rw[hC]at f d ⊢);old:∀b o,s2.heap.get? b=!o->h₁.get? b=!o:=λb o e=>(do d.extBut b o (qp (yn (qG e))) (qH _ (P▸qH _ e)));hacc:h₁.get? ↑s2=!(bS []):=d.extBut _ _ (qp (yo _)) (qH _ (P▸qL _ rfl));I3:=I2.block (own:=own) (tk:=s2.toks+([]:List (Sy×MD)).length) f2 B S C old f hacc;l:∀{H':Hp} {us:List MD},(∀b∈a,H' b=none)->∀b∈a,fx (a_ X (own++fr.map (·.1)) j cl s2 H2 a) [(↑s2,bS us)] H' b:=λ{H' us} hn b h=>(do _;{_,g1,g2,g3,g4,g5}:=f2 b h;Z:=B b h;{hn b h,?_,I2.ib g1 g2,.inl h,λx c e=>g4 x c (C.sub x c e),λp hp=>?_};qp (yn Z);m:p=(↑s2,bS us):=(by simpa[a_] using hp);!m;zu Z);L:∀s3:Sv,s3={s2 with heap:=h₁,toks:=s2.toks+([]:List (Sy×MD)).length}-> codeAny (model X.prog X.w) X.A (.compLoop (.ListComp O [{tg,F,M,0}] j pos) 0 (.ref it) (.ref ↑s2) (compEnvC j cl (↑s2+1) X.env)) (RR (.ref ↑s2) (↑s2+1)) s3:=(do(s3,rfl);Ro (λn s'=>∃i ys us H',aJ ys us/\Inv (a_ X (own++fr.map (·.1)) j cl s2 H2 a) [(↑s2,bS us)] (cD own fr σ) H' s'/\tn i s'.heap/\(∀b∈a,H' b=none)/\ys.length<=sizeLine/\W i n ys H') ?_ m0 {0,[],[],H2,.nil,I3,T.keep _ _ _ N λb _ o e=>old b o e,λb h=>(f2 b h).1,qv _,w0};(n,s4,{i,ys,us,I,hv,I4,st4,fr4,hz,w4});{stop,fin}||{go,hlt,step}:=turn i n ys I w4;bI (T.done (a_ X (own++fr.map (·.1)) j cl s2 H2 a) rfl rfl rfl hc i _ s4 _ I _ I4 (l fr4) st4 stop) λr s5 ⟨hr,I5⟩=>?_;!hr;hRR s5 I ys us I5 hv hz fin;bI (T.item (a_ X (own++fr.map (·.1)) j cl s2 H2 a) rfl rfl rfl hc i _ s4 _ I _ I4 (l fr4) st4 go) λr s5 ⟨u,hr,h5⟩=>?_;!hr;bI h5 λ_ R ⟨x,H6,I6,r6,y6,t,fr6⟩=>?_;I6':=I6.pinned (l fr6) (T.obj _ _ t);bI (hg s2 H2 a _ R _ H6 x u _ I6' r6 (hfr σ x H6 _ (step x H6 y6))) λ_ s7 ⟨k,H7,I7,k7,q7⟩=>?_;bI (ht s2 H2 a _ s7 k H7 _ I7 q7) λok s8 ⟨H8,I8,q8⟩=>?_;D:∀{pins':List (Sx×Obj)} {σ':St} {H':Hp} {s':Sv},Inv (a_ X (own++fr.map (·.1)) j cl s2 H2 a) ([(↑s2,bS us)]++dX a R.heap) σ' H' s'->∀b∈a,(∀o,R.heap.get? b=!o->s'.heap.get? b=!o)/\H' b=none:=λ{pins' σ' H' s'} I' b h=>(do _;{o,e,_}:=T.obj _ _ t b h;z:=I'.pin (b,o) (zy _ (zy _ (CL h e)));{λo' e'=>do e'←[e];-e';z.1,z.2.1});(by cases ok with|false|true=>?_);q8←[qB qr];{m',hm,w8}:=q8;[qB qr];{m',hm,i+1,ys,us,H8,hv,(I8.fj).weak k7.1 k7.2,T.keep _ _ _ t λb h o e=>(D (pins':=[]) I8 b h).1 o e,λb h=>(D (pins':=[]) I8 b h).2,hz,w8};q8←[qF rfl];[qF rfl];bI (he s2 H2 a _ s8 k H8 _ I8 q8) λy U ⟨v,H9,I9,r9,m',hm,w9⟩=>?_;pD:=I9.pin (↑s2,bS us) (List.mem_append_right _ (List.mem_append_left _ (do 0)));zD:U.heap.get? ↑s2=!(bS us):=pD.1;nD:H9 ↑s2=none:=pD.2.1;append_at (hsz:=do¬us.toArray.size<=sizeLine;[zg,←hv.length];hz) zD λh5 V hD5=>?_;Ia:Inv (a_ X (own++fr.map (·.1)) j cl s2 H2 a) (dX a R.heap) k H9 U:=I9.gL λp hp=>I9.pin p (zy _ (zy _ hp));lB:↑s2≠↑s2+1:=qp (yo _);Ib:Inv (a_ X (own++fr.map (·.1)) j cl s2 H2 a) (dX a R.heap) k H9 {U with heap:=h5,toks:=U.toks}:=Ia.turned (it:=↑s2) (λb o h e=>V.extBut b o h e) nD lB (.inr (qe _)) (λx c e z=>do _;{v',q}:=I2.cell x c (C.sub x c e);Y:=q.lt;Y←[z];wu _ Y) λp hp z=>(do m:p∈dX a R.heap:=(by simpa[a_] using hp);Y:=B p.1 (Ip m).1;Y←[z];wu _ Y);Ic:Inv (a_ X (own++fr.map (·.1)) j cl s2 H2 a) [(↑s2,bS (us++[y]))] k H9 {U with heap:=h5,toks:=U.toks}:=Ib.gL λp hp=>(do m:p=(↑s2,bS (us++[y])):=(do 0<|hp);!m;{hD5.trans (congrArg some (OY us y)),nD,lB,pD.2.2.2.1,λv z=>do-z});{m',hm,i+1,ys++[v],us++[y],H9,hv.append (.cons r9 .nil),Ic.weak k7.1 k7.2,T.keep _ _ _ t λb h o e=>?_,λb h=>(D (pins':=[]) I9 b h).2,?_,w9};V.extBut b o (qp (B b h)) ((D (pins':=[]) I9 b h).1 o e);[qi];hlt);codeAny_compStart_list (L _ rfl) (T.self _ 0 _ _ _ (T.keep _ _ _ N λb _ o e=>old b o e) (L _ rfl))
def iz{own:List Sy}{cl:List (Sy×Sx)}{g:TG}(E:X.calm=true)(hi:PI X tg a o)(S:fF c)(C:lO X c cl fr)(G:∀s H b,PG (a_ X (own++fr.map (·.1)) c cl s H b) tg g)(j:∀σ,i6 g (cD own fr σ))(u:∀s H b,vW (a_ X (own++fr.map (·.1)) c cl s H b) f tt)(B:∀s H b,PE (a_ X (own++fr.map (·.1)) c cl s H b) d te)(z:∀x,foldedSetIterable a X.env x=pure x:=by intro _;rfl) : PE X (.ListComp d [{tg,a,f,0}] c pos) (LS own fr o g tt te):=do _;{?_};(pins,s,σ,H,Q,I,h);[eval_ListComp];wpAny_comprehension_free (use:=none) rfl z C.vQ S.kind S.lK (bI (hi pins s σ H _ I h) λN K h1=>bI h1 λD s2 h2=>?_);{it,b,M,J,H2,e,r,T,m,q,F}:=h2;!e;Il (RR:=λacc A=>compPost (model X.prog X.w) X.A X.xe none (EP X pins σ Q) acc A) E S C G j u B r T m q F λL p ys us l y hz k=>?_;{t,i,_}:=id l.loc;v:p ↑s2=none:=(l.pin (↑s2,bS us) (List.mem_append_right _ (do 0))).2.1;{t,i,λh' n=>{.ref ↑s2,upd p ↑s2 (.lst ys),r.nN q l y hz n,O,k _ v}}
def uw{own:List Sy}{cl:List (Sy×Sx)}{g:TG}(hN:X.N.Nodup)(hy:X.N[i]?=!y)(hx:Loc X.env.scope y)(hc:X.calm=true)(hi:PI X tg d W)(S:fF m)(C:lO X m cl fr)(hg:∀s H r,PG (a_ X (own++fr.map (·.1)) m cl s H r) tg g)(O:∀σ,i6 g (cD own fr σ))(ht:∀s H r,vW (a_ X (own++fr.map (·.1)) m cl s H r) l tt)(he:∀s H r,PE (a_ X (own++fr.map (·.1)) m cl s H r) k te)(hs:∀x,foldedSetIterable d X.env x=pure x:=by intro _;rfl)(G:swapsWith (.ListComp k [{tg,d,l,0}] m pos) (!(.Name y t)) n.line X.env=pure true:=by rfl)(hf:X.fn y=true\/X.env.scope.names.lookup y=some .local:=by first|exact .inl rfl|exact .inr rfl|assumption) : PS X (.Assign [.Name y t] (.ListComp k [{tg,d,l,0}] m pos) n) (sQ (LS own fr W g tt te) (cM i)):=do _;{?_};(pins,s,σ,H,D,I,h);[exec_Assign_Name_used _ _ _ _ G];qA (wpAny_standAt (qA ?_));¬wpAny _ X.A (do{let _ ←comprehension (.ListComp k [⟨tg,d,l,0⟩] m pos) m X.env _ (newList []) false (eval d X.env) (!(assign (.Name y t) X.env))}) _ _ s;qA (bI (wpAny_comprehension_free (use:=!(assign (.Name y t) X.env)) (Q:=λ_ s'=>SP X pins D .next s') rfl hs C.vQ S.kind S.lK (bI (hi pins s σ H _ I h) λxv s1 h1=>bI h1 λitv s2 h2=>?_)) λ_ s' hq=>qE (qE hq));{it,r,tn,J,H2,e,u,T,U,Z,hW}:=h2;!e;Il (RR:=λacc A=>compPost (model X.prog X.w) X.A X.xe (!(assign (.Name y t) X.env)) (λ_ s'=>SP X pins D .next s') acc A) hc S C hg O ht he u T U Z hW λY P ys us E hv hz R=>?_;{m5,M,_}:=id E.loc;nD:P ↑s2=none:=(E.pin (↑s2,bS us) (List.mem_append_right _ (do 0))).2.1;nC:P (↑s2+1)=none:=E.free;I6:Inv X pins σ (upd P ↑s2 (.lst ys)) Y:=u.nN Z E hv hz (Heap.SameBut.refl _ _);¬wpAny _ X.A (assign (.Name y t) X.env (.ref ↑s2)) _ _ Y;wpAny_assign_Name (JC (v:=.ref ↑s2) I6 hN hy hx rfl (λs7 I7 ⟨a,L,K⟩=>?_) hf);j:↑s2<↑s2+1:=yo _;B:↑s2+1≠X.env.locals:=zu (jr u.lt j);f:∀x c,X.env.cells.lookup x=!c->c≠↑s2+1:=λx c e=>(do _;{v',q}:=u.cell x c e;qp (jr q.lt j));F:↑s2+1≠a:=(do rfl||K:=K;B;Ne.symm (f _ _ K));⟨m5,M.sameBut L F,λh' V=>⟨_,_,?_,R _ nD⟩⟩;I7.turned (it:=↑s2+1) (t':=s7.toks) (λb o hb e=>V.extBut b o hb e) (do[ak (zu j)];nC) B (.inr (qg u.sz (ww j))) f λp hp z=>do q:=qG (u.pin p hp).1;q←[z];absurd (jr j q) (wu _)
end
section
variable {X:Cx}
inductive jZ(K:PySem.W.Frag)(xs:List V)(H:Hp)(Q:VK):Prop
 |mk(x T t b:_)(_:xs=[x,.ty T])(_:fh K H x t)(_:PySem.W.kitOne K t (.type T)=!b)(_:Q (.bl b) H)
def QL:cB X (.builtin "isinstance") (jZ X.K):=do(pins,s,σ,H,xs,us,Q,I,r,h);{x,T,t,b,rfl,ty,e,q}:=h;{u,v,rfl,a,c}:=vals2 r;-((show v=Value.type T from c));Nl I a ty e λtk=>{.bl b,H,I.tok tk,O,q}
inductive i_(x y:V)(H:Hp)(Q:VK):Prop
 |mk(a b xs:_)(_:x=.ref a)(_:y=.ref b)(_:az H a xs)(_:az H b [])(_:Q (.bl (decide (xs=[]))) H)
def P4(d:X.A.units<cLine):dm X (compareOp .Eq) (i_):=do(pins,s,σ,H,x,y,v,u,Q,I,l,i,h);{a,b,xs,rfl,rfl,g,k,q}:=h;-l;-i;{its,m,p,hz}:=I.list g;{f,c,p2,_}:=I.list k;-c;(by cases m with|nil|cons n o=>?_);PySem.SeqAt.eq_listAt (e:=λ_=>true) p.isList p2.isList rfl d (λj h1 _=>absurd h1 (do 0)) {.bl true,H,I,O,do 0<|q};PySem.SeqAt.eq_list_lengthsAt p.isList p2.isList (do 0) d {.bl false,H,I,O,do 0<|q}
end
section
variable {X:Cx}{pins:List (Sx×Obj)}{σ σ':St}{H H':Hp}{s s':Sv}
theorem Inv.ie{a:Sx}{o:HO}(d:Inv X pins σ H s)(I:Inv X pins σ' H' s')(h:↑s<=a)(hn:H' a=none)(new:aS X.prog X.w (upd H' a o) s'.heap a o):Inv X pins σ' (upd H' a o) s':=do ne:∀b,b<↑s->b≠a:=λb i z=>();{I.ok,I.os,I.bare,{I.base.keep,I.base.slot,λb u e n f=>?_,I.base.there,λb xs e=>?_,λb u xs e=>?_,λb ps e=>?_,I.base.dM},I.loc,I.cell,?_,λx c e=>?_,λp hp=>?_,I.aR.ie hn new,I.len};[ak (ne b (zf (qG e) d.sz))];I.base.free b u e n f;q:=I.base.ab b xs e;[ak (aZ q hn)];q;q:=I.base.dP b u xs e;[ak (aZ q hn)];q;{more,q}:=I.base.dR b ps e;{more,do[ak (aZ q hn)];q};[ak (ne _ d.lt)];I.free;{v,q}:=d.cell x c e;[ak (ne _ q.lt)];I.du x c e;{h1,h2,g}:=I.pin p hp;{h1,?_,g};[ak (ne _ (qG (d.pin p hp).1))];h2
def Inv.dN{t':Nat}{h':Heap}{ch:List Sx}(I:Inv X pins σ H s)(f:∀b∈ch,fx X pins H b)(k:∀b o,b∉ch->s.heap.get? b=!o->h'.get? b=!o):Inv X pins σ H {s with heap:=h',toks:=t'}:=do d:∀b u,H b=!u->b∉ch:=λb u e z=>(do e←[(f b z).1];-e);I.step (g':=s.gens) (d':=s.drawn) (ch:=ch) (λb g=>{(f b g).2.2.2.1,(f b g).2.1,(f b g).2.2.2.2.1,(f b g).2.2.2.2.2}) (λb o _ _ a e _=>k b o a e) (λb o _ _ a e _=>{o.slots,k b o a e}) (λ_ _ _ _ n=>n) (λb o a e=>{o,k b o a e}) (λ_ _ e=>e) (λ_ _ _ e=>e) (λb ps e=>{#[],do[e];0}) (λb o xs e n=>k b o (d b _ n) e) (λm h=>?_) (λb u e=>?_) I.bare;{o,es,ep,i,r}:=h;{o,es,ep,k _ o (λz=>(f _ z).2.1 rfl) i,r};(I.aR b u e).cQ (λc v a q=>k c v ?_ q) (λ_ q=>q) λ_ _ q=>q;z||z:=a;[z];d b u e;d c _ z
end
def F3(a:Sx):It := {λi H=>∃xs x,az H a xs/\xs[i]?=!x,λi H x H'=>∃p v,H p=none/\(∀xs,az H a xs->xs[i]?=!v)/\x=.ref p/\H'=upd H p (.tup [.int i,v]),λi H=>∃xs,az H a xs/\xs.length=i}
def Ov{P:Program}{w:World}{K:PySem.W.Frag}{es:List Expr}{k:Nat}{tp:Pos}(a it e:Sx)(R:a≠e)(y:a≠it)(l:e≠it) :
  Turn P w K (.Tuple es k tp) (F3 a) [e,it] e (λi h=>(∃old,IsEnum h e it i old)/\h.IsListIter it a i) where
 mem:=by simp
 obj:=λi h st b f=>by
  rcases q0.mp f with rfl|f
  .obtain⟨⟨old,q⟩,_⟩:=st
   exact{_,q,λv z=>by cases z}
  .have q:b=it:=by simpa using f
   subst q;obtain⟨_,o,q,c,d⟩:=st;exact{o,q,λv z=>by rw[d]at z;cases z}
 keep:=λi h h' st Z=>{let⟨old,q⟩:=st.1;{old,Z e (by simp) _ q},st.2.at λo q=>Z it (by simp) o q}
 item:=by
  intro X G M Q S i pins s σ H E I D st V;subst G M Q;obtain⟨xs,x,C,F⟩:=V;obtain⟨its,N,p,hz⟩:=I.list C;obtain⟨u,hu,ru⟩:=N.get F;obtain⟨⟨old,t⟩,j⟩:=st
  have L:i<its.toArray.size:=by
   have:=(qk.mp hu).1;simpa using this
  refine wpAny_pyNext_enum_itemD (Draws.list (show X.A.in1.handled=none from I.ok.hd S) it a y its.toArray) t {j,p.isList} L l (by simp[l,Ne.symm R]) λB h' tk J ho T hT hsz hk=>?_
  have ex:B=u:=by
   have q:its.toArray[i]?=!B:=J
   have q':its[i]?=!B:=by simpa using q
   rw[hu]at q';exact(qJ q').symm
  subst ex;refine{_,O,wpAny_letOwnedTupleGo_enum ho λn m g=>?_}
  have I1:Inv X pins σ H { s with heap:=n,toks:=tk+1 }:=I.dN D λb o f q=>g.extBut b o (λz=>f (by simp[z])) (hk b o (λz=>f (by simp[z])) (λz=>f (by simp[z])) q)
  have U:↑s≠e:=zu (qG t);have eT:n.get? ↑s=some { cls:=.type "tuple",data:=.seq #[.int i tk,B] }:=g.extBut _ _ U hT;have Y:H ↑s=none:=I.aR.fresh (qe _);refine{.ref ↑s,upd H ↑s (.tup [.int i,x]),I.ie I1 (Nat.le_refl _) Y {?_,[.int i tk,B],.cons {tk,O} (.cons ru .nil),{_,eT,O,_,O}},O,{_,x,Y,λys hy=>by rw[I.lQ hy C];exact F,O,O},{{_,by simpa using m},?_},λb f=>?_}
  .show 2<=sizeLine
   decide
  .obtain⟨o,q,r⟩:=T.1
   exact{o,g.extBut _ _ (Ne.symm l) q,r}
  .obtain⟨o,q⟩:∃o,s.heap.get? b=!o:=by
    rcases q0.mp f with rfl|f
    .exact⟨_,t⟩
    .have q:b=it:=by simpa using f
     subst q;obtain⟨o,q,_⟩:=j;exact{o,q}
   rw[ak (qp (qG q))];exact(D b f).1
 done:=by
  intro X G M Q S i pins s σ H E I D st V;subst G M Q;obtain⟨xs,C,F⟩:=V;obtain⟨its,N,p,hz⟩:=I.list C;obtain⟨⟨old,t⟩,j⟩:=st;have hl:=N.length
  have hi:i=its.toArray.size:=by rw[zg];omega
  have hD:=Draws.list (prog:=X.prog) (w:=X.w) (show X.A.in1.handled=none from I.ok.hd S) it a y its.toArray;rw[hi]at j
  exact wpAny_pyNext_enum_endD hD t {j,p.isList} λh' eb=>{O,I.dN D λb o f q=>eb b o (λz=>f (by simp[z])) q}
 self:=λ_ _ _ _ _ st h=>let⟨old,q⟩:=st.1;wpAny_pyIter_enum q h
section
variable {X:Cx}
inductive Au(R:It->Hp->Prop)(vs:List V)(H1:Hp):Prop
 |mk(a:_)(_:vs=[.ref a])(_:(∃xs,az H1 a xs))(_:R (F3 a) H1)
def IB(ta:TA):TI:=λσ H R=>ta σ H λvs H1=>Au R vs H1
def JH{es:List Expr}(C:Gl X "enumerate")(o:X.mg "enumerate"=none)(r:PA X [a] ta)(w:starEach [a] X.env=[(false,eval a X.env)]:=by rfl) : PI X (.Tuple es k x) (.Call (.Name "enumerate" p) [a] [] pos) (IB ta):=do _;{?_};(pins,s,σ,H,R,I,h);Call_ (iq I C o boot_enumerate (PyProof.Rows.callWith_type1 (bI (r pos pins s σ H _ I h) λus c ⟨vs,H1,g,B,y⟩=>?_) w rfl));{l,e,{xs,z},q}:=y;!e;{u,rfl,t}:=vals1 B;-t;{its,D,m,hz}:=g.list z;d:l<↑c:=(do _;{_,e,_}:=m.isList;qG e);call_enumerate_list m.isList λh' n j hsz v=>?_;wpAny_pyIter_enum n ?_;A:Inv X pins σ H1 {c with heap:=h'}:=g.kept (t':=c.toks) v;{↑c+1,[↑c+1,↑c],_,_,H1,O,A,Ov l ↑c (↑c+1) (qp (yn d)) (qp d) (zu (yo _)),{{_,n},j},λb i=>?_,q};f:↑c<=b:=(do rfl||i:=q0.mp i;jt _;e:b=↑c:=(do 0<|i);Nat.le_of_eq e.symm);g.lG f (g.aR.fresh f)
end
def OR{a:Sx}{xs:List V}{g:TG}{tb:TS}{D:Ends}{σ:St}{H:Hp}(c:Nat->St->Hp->Prop)(h0:c 0 σ H)(o:∀i σ H,i<=xs.length->c i σ H->az H a xs)(n:∀i x σ H p,xs[i]?=!x->c i σ H->H p=none->g (.ref p) σ (upd H p (.tup [.int i,x])) λd H2=>tb {D with nx:=c (i+1),ct:=c (i+1),bk:=D.nx} d H2)(j:∀σ H,c xs.length σ H->D.nx σ H) : ∃W:Nat->Nat->St->Hp->Prop,(∃m,W 0 m σ H)/\∀i m σ H,W i m σ H-> ((F3 a).stop i H/\D.nx σ H)\/((F3 a).go i H/\∃N:St->Hp->Prop,(∀σ' H',N σ' H'->∃h,h<m/\W (i+1) h σ' H')/\∀x H',(F3 a).wM i H x H'->g x σ H' λd H2=>tb {D with nx:=N,ct:=N,bk:=D.nx} d H2):=do _;{λi m σ H=>m=xs.length - i/\i<=xs.length/\c i σ H,{xs.length,do 0,Nat.zero_le _,h0},?_};(i,m,σ,H,{rfl,hi,p});q:=o i σ H hi p;f<|i<xs.length;.inr {{xs,xs[i],q,do#[f]},c (i+1),λσ' H' r=>{xs.length - (i+1),(),O,f,r},λx H' y=>?_};{b,v,l,k,rfl,rfl}:=y;n i v σ H b (k xs q) p l;e:i=xs.length:=();!e;.inl {{xs,q,O},j σ H p}
def NK(h:(relabel b env).names.lookup x=!k):∃y∈b.names,y.2=k\/y.2=.free:=do c:=PySem.mem_of_lookup h;{y,d,e}:=qf.mp c;{y,d,?_};{n,f}:=y;(by dsimp only at e;split at e;rename_i a);a←[zt,zt];.inr (beq_iff_eq.mp a.1.1);-e;.inl rfl
def i0(h:∀y∈b.names,y.2≠.free/\y.2≠.cell):lO X b [] [] where
 vQ:=closureFor_none λy a=>(h y a).1
 sub:=λx c e=>by cases e
 has:=λx e=>by
  exfalso;rcases e with e|e <;> obtain⟨y,a,z⟩:=NK e <;> rcases z with z|z
  .exact(h y a).2 z
  .exact(h y a).1 z
  .exact(h y a).1 z
  .exact(h y a).1 z
 ND:=λp hp=>nomatch hp
def af.up(e:af H H')(h:H' p=none):af H (upd H' p o):=λb u q=>do[ak (aZ (e b u q) h)];e b u q
def af.new(h:H p=none):af H (upd H p o):=(af.refl H).up h
def af.wr(e:af H H')(h:H p=none):af H (upd H' p o):=λb u q=>do[ak (aZ q h)];e b u q
section
variable {X:Cx}
inductive GY(x y:V)(H:Hp)(Q:VK):Prop
 |mk(p xs i:_)(_:x=.ref p)(_:y=.int i)(_:az H p xs)(_:0<=i)(_:i<(xs.length:Int))(_:∀v∈xs,Q v H)
def EX:Hw X (GY):=do(value,a,pins,s,σ,H,x,y,v,u,Q,I,f,c,h,e);{p,xs,i,ex,d,g,h0,h1,q}:=h;{j,rfl}:=Int.eq_ofNat_of_zero_le h0;b:j<xs.length:=();CS value a pins s σ H x y v u Q I f c {p,xs,j,xs[j],ex,d,g,vN (qh b),q _ (y0 b)} e
end
section
variable {X:Cx}{es:List Expr}{t:TA}{pos:Pos}
def GU(t:TA):TE:=λσ H Q=>t σ H λxs H1=>xs.length<=sizeLine/\∀p H',H1 p=none->af H1 H'->H' p=!(.tup xs)->Q (.ref p) H'
def Lc(t:TA):TE:=λσ H Q=>t σ H λxs H1=>xs.length<=sizeLine/\∀p H',H1 p=none->af H1 H'->H' p=!(.lst xs)->Q (.ref p) H'
def GQ:TE:=λ_ H Q=>∀p H',H p=none->af H H'->H' p=!(.dK [])->Q (.ref p) H'
def a0{x1}(h:PA X es t):PE X (.Tuple es x1 pos) (GU t):=do _;{?_};(pins,s,σ,H,Q,I,f);wpAny_Tuple_spliced (bI (h pos pins s σ H _ I f) λus a ⟨xs,H1,d,r,z,q⟩=>{do[←r.length];z,?_});c:H1 ↑a=none:=d.aR.fresh (qe _);{.ref ↑a,upd H1 ↑a (.tup xs),d.laid (t':=a.toks) (λb u e=>qH _ e) (qe _) ?_,O,q _ _ c (af.new c) aB};{z,us,r,{_,qL _ rfl,O,_,O}}
def bK(h:PA X es t):PE X (.List es pos) (Lc t):=do _;{?_};(pins,s,σ,H,Q,I,f);wpAny_List_spliced (bI (h pos pins s σ H _ I f) λus a ⟨xs,H1,d,r,z,q⟩=>{do[←r.length];z,?_});c:H1 ↑a=none:=d.aR.fresh (qe _);{.ref ↑a,upd H1 ↑a (.lst xs),d.laid (t':=a.toks) (λb u e=>qH _ e) (qe _) ?_,O,q _ _ c (af.new c) aB};{z,us,0,r,qL _ rfl}
def HH:PE X (.Dict [] [] pos) GQ:={λpins s σ H Q I h=>O8 pins s σ H Q I λp hp=>h p _ hp (af.new hp) aB}
def dm.imp(h:dm X f r)(i:∀x y H Q,a x y H Q->r x y H Q):dm X f a:=λpins s σ H x y v u Q I c b q=>h pins s σ H x y v u Q I c b (i x y H Q q)
def vU.imp(h:vU X r)(i:∀x lo hi H Q,a x lo hi H Q->r x lo hi H Q):vU X a:=λpins s σ H x v c g lo hi sl Q I f e d b q=>h pins s σ H x v c g lo hi sl Q I f e d b (i x lo hi H Q q)
inductive Ku(x y:V)(H:Hp)(Q:VK):Prop
 |mk(l b xs zs:_)(_:x=.ref l)(_:y=.ref b)(_:H l=!(.lst xs))(_:H b=!(.lst zs))(_:xs.length+zs.length<=sizeLine)(_:∀p H',H p=none->af H H'->H' p=!(.lst (xs++zs))->Q (.ref p) H')
def sP:dm X (binaryOp .Add) Ku:=A6.imp λ_ _ _ _ ⟨l,b,xs,zs,h1,h2,d,c,a,q⟩=>{l,b,xs,zs,h1,h2,d,c,a,λp hp=>q p _ hp (af.new hp) aB}
inductive Hs(x:V)(lo:Option Int)(hi:Option Int)(H:Hp)(Q:VK):Prop
 |mk(a xs:_)(_:x=.ref a)(_:az H a xs)(_:∀p H',H p=none->af H H'->H' p=!(.lst (d6 xs lo hi))->Q (.ref p) H')
def E9:vU X (Hs):=Mp.imp λ_ _ _ _ _ ⟨a,xs,h1,h2,q⟩=>{a,xs,h1,h2,λp hp=>q p _ hp (af.new hp) aB}
end
def lV(env:Env):List (Sy×NameKind)->List (Sy×Sx)->List (Sy×Sx)|[],acc=>acc|(n,k)::r,acc=>lV env r (if k==.free then(n,(env.cells.lookup n).getD 0)::acc else acc)
def Fy(h:∀y∈d.names,y.2=.free->∃c,env.cells.lookup y.1=!c):closureFor d env=pure (lV env d.names []):=do all:∀(names:List (Sy×NameKind)) (acc:List (Sy×Sx)),(∀y∈names,y.2=.free->∃c,env.cells.lookup y.1=!c)-> (forIn names acc λx r=>(match x with|(name,kind)=>if(kind==NameKind.free)=true then do{let a ←cellOf env name;pure (ForInStep.yield ((name,a)::r))}else pure (ForInStep.yield r):Sem (ForInStep (List (Sy×Sx)))))=pure (lV env names acc):=(do(names);(by induction names with|nil|cons x r j=>?_);(acc,_);2;(acc,f);{n,k}:=x;[kz];(by cases b:(k==NameKind.free)with|true|false=>?_);{c,i}:=f (n,k) qm (beq_iff_eq.mp b);e:cellOf env n=pure c:=(do@cellOf;[i]);(by dsimp only);[qF b,e];Eq.trans (by first|rfl|simp) ((j ((n,c)::acc) λy g=>f y (List.mem_cons_of_mem _ g)).trans ?_);¬_=pure (lV env r (if(k==NameKind.free)=true then(n,(env.cells.lookup n).getD 0)::acc else acc));[qF b,show env.cells.lookup n=some c from i];2;(by dsimp only);[qB (do[b];qr)];Eq.trans (by first|rfl|simp) ((j acc λy g=>f y (List.mem_cons_of_mem _ g)).trans ?_);¬_=pure (lV env r (if(k==NameKind.free)=true then(n,(env.cells.lookup n).getD 0)::acc else acc));[qB (do[b];qr)]);e:=all d.names [] h;¬((forIn d.names [] λx r=>(match x with|(name,kind)=>if(kind==NameKind.free)=true then do{let a ←cellOf env name;pure (ForInStep.yield ((name,a)::r))}else pure (ForInStep.yield r):Sem (ForInStep (List (Sy×Sx))))) >>= λcs=>pure cs)=_;[e];2
theorem xo:∀{names:List (Sy×NameKind)} {acc:List (Sy×Sx)},(∀y∈names,y.2=.free->∃c,env.cells.lookup y.1=!c)->(∀x c,acc.lookup x=!c->env.cells.lookup x=!c)-> ∀x c,(lV env names acc).lookup x=!c->env.cells.lookup x=!c|[],_,_,h=>h|(n,k)::r,acc,hx,h=>do xo (names:=r) (λy j=>hx y (qy _ j)) λx c e=>?_;(by cases b:(k==NameKind.free)with|true|false=>?_);e←[b,qF rfl];{i,g}:=hx (n,k) qm (beq_iff_eq.mp b);e←[gf];(by cases a:(x==n)with|true|false=>?_);e←[a];q:=beq_iff_eq.mp a;!q;f:(env.cells.lookup x).getD 0=c:=qJ e;d:env.cells.lookup x=!i:=g;(by rw[d]at f ⊢);congrArg some f;e←[a];h x c e;e←[b,qB qr];h x c e
theorem vS:∀{names:List (Sy×NameKind)} {acc:List (Sy×Sx)},((x,NameKind.free)∈names\/∃c,acc.lookup x=!c)->∃c,(lV env names acc).lookup x=!c|[],_,h=>h.elim (λz=>nomatch z) id|(n,k)::r,acc,h=>do vS (names:=r) ?_;put:∀b,∃c,((n,b)::acc).lookup x=!c\/(x≠n/\acc.lookup x=none):=λb=>(do[gf];(by cases a:(x==n)with|true|false=>?_);{b,.inl rfl};(by cases e:acc.lookup x with|some c|none=>?_);{c,.inl rfl};{0,.inr {λz=>do !z;a←0,O}});h||{c,h}:=h;q||q:=q0.mp h;-q;.inr ?_;[qF (do 2),gf];0;.inl q;.inr ?_;(by cases f:(k==NameKind.free)with|true|false=>?_);[qF (do 2)];{d,q||q}:=put ((env.cells.lookup n).getD 0);{d,q};h←[q.2];-h;[qB qr];{c,h}
def Rl(h:(relabel b env).names.lookup x=!k):∃y∈b.names,y.1=x/\(y.2=k\/y.2=.free):=do c:=PySem.mem_of_lookup h;{y,d,e}:=qf.mp c;{y,d,?_};{n,f}:=y;(by dsimp only at e;split at e;rename_i a);a←[zt,zt];-e;{O,.inr (beq_iff_eq.mp a.1.1)};-e;{O,.inl rfl}
def N_{g:Scope}(h:∀x,X.env.kindOf x=some .cell->∃c,X.env.cells.lookup x=!c)(d:∀y∈g.names,y.2≠.cell)(a:∀y∈g.names,y.2=.free->X.env.kindOf y.1=some .cell)(f:∀p∈fr,X.N[p.2]?=!p.1/\X.env.kindOf p.1=some .cell/\(relabel g X.env).names.lookup p.1=some .cell):lO X g (lV X.env g.names []) fr where
 vQ:=Fy λy b e=>h _ (a y b e)
 sub:=xo (λy b e=>h _ (a y b e)) λx c e=>by cases e
 has:=λx e=>by
  refine vS (.inl ?_);rcases e with e|e <;> obtain⟨y,b,rfl,z⟩:=Rl e <;> rcases z with z|z
  .exact absurd z (d y b)
  .rw[←z];exact b
  .rw[←z];exact b
  .rw[←z];exact b
 ND:=λp hp=>by
  obtain⟨h1,h2,i⟩:=f p hp;exact{h1,by rw[h2];decide,.inr (.inl h2),.inl i}
def jX(d:Scope)(N:List Sy)(h1:X.env.scope=d)(h2:X.N=N)(j:∀x,X.env.kindOf x=some .cell->∃c,X.env.cells.lookup x=!c)(f:∀y∈h.names,y.2≠.cell)(g:∀y∈h.names,y.2=.free->d.names.lookup y.1=some .cell)(i:∀p∈fr,N[p.2]?=!p.1/\d.names.lookup p.1=some .cell/\(relabel h {scope:=d,locals:=0,globals:=0,cells:=[]}).names.lookup p.1=some .cell):lO X h (lV X.env h.names []) fr:=do N_ j f (λy k e=>?_) λp hp=>?_;¬X.env.scope.names.lookup y.1=some .cell;[h1];g y k e;{a,b,c}:=i p hp;{do[h2];a,?_,?_};¬X.env.scope.names.lookup p.1=some .cell;[h1];b;e:relabel h X.env=relabel h {scope:=d,locals:=0,globals:=0,cells:=[]}:=(by unfold relabel Env.kindOf;rw[h1]);[e];c
section
variable {X:Cx}
def cB.imp(h:cB X f r)(i:∀xs H Q,a xs H Q->r xs H Q):cB X f a:=λpins s σ H xs us Q I b q=>h pins s σ H xs us Q I b (i xs H Q q)
inductive Gd(xs:List V)(H:Hp)(Q:VK):Prop
 |mk(p ys:_)(_:xs=[.ref p])(_:(az H p ys\/aV H p ys))(_:∀l H',H l=none->af H H'->H' l=!(.lst ys)->Q (.ref l) H')
def BR:cB X (.type "list") (Gd):=NH.imp λ_ _ _ ⟨p,ys,h1,h2,q⟩=>{p,ys,h1,h2,λl a=>q l _ a (af.new a) aB}
inductive Bi(x y:V)(H:Hp)(Q:VK):Prop
 |mk(a b xs ys:_)(_:x=.ref a)(_:y=.ref b)(_:aV H a xs)(_:aV H b ys)(_:xs≠[])(_:ys≠[])(_:xs.length+ys.length<=sizeLine)(_:∀l H',H l=none->af H H'->H' l=!(.tup (xs++ys))->Q (.ref l) H')
def Pj:dm X (binaryOp .Add) (Bi):=Nc.imp λ_ _ _ _ ⟨a,b,xs,ys,h1,h2,f,g,h,c,d,q⟩=>{a,b,xs,ys,h1,h2,f,g,h,d,λe=>absurd e c,λ_ p hp=>q p _ hp (af.new hp) aB}
inductive JA(x y:V)(H:Hp)(Q:VK):Prop
 |mk(l k xs:_)(_:x=.ref l)(_:y=.int k)(_:H l=!(.lst xs))(_:-(2 ^ 63)<=k)(_:k<2 ^ 63)(_:xs.length * k.toNat<=sizeLine)(_:∀p H',H p=none->af H H'->H' p=!(.lst (List.replicate k.toNat xs).flatten)->Q (.ref p) H')
def JD:dm X (binaryOp .Mult) JA:=By.imp λ_ _ _ _ ⟨l,k,xs,h1,h2,d,c,b,a,q⟩=>{l,k,xs,h1,h2,d,c,b,a,λp hp=>q p _ hp (af.new hp) aB}
end
def c7{own:List Sy}{g:TG}(hz:xs.length<=sizeLine)(c:Nat->List V->Hp->Prop)(h0:c 0 [] H)(k:∀i ys H,c i ys H->az H a xs)(t:∀i x ys H' (n:V->Hp->Prop) (l:Hp->Prop),xs[i]?=!x->c i ys H'->(∀y j,c (i+1) (ys++[y]) j->n y j)->(∀f,c (i+1) ys f->l f)-> g x (cD own fr σ) H' λh H2=>tt h H2 λb f=>if b=true then te h f n else l f)(r:∀H' p ys,c xs.length ys H'->ys.length<=xs.length->H' p=none->Q (.ref p) (upd H' p (.lst ys))):FR own fr g tt te σ Q (FU a) H:=do _;{λi m ys H=>m=xs.length - i/\i<=xs.length/\ys.length<=i/\c i ys H,{xs.length,do 0,Nat.zero_le _,Nat.zero_le _,h0},?_};(i,m,ys,H,{rfl,hi,u,p});d<|i<xs.length;.inr {{xs,xs[i],k _ _ H p,do#[d]},(),λx H' y=>?_};{rfl,y}:=y;o:=y xs (k _ _ _ p);t i x ys H' _ _ o p (λy j s=>{xs.length - (i+1),(),O,d,?_,s}) λf w=>{xs.length - (i+1),(),O,d,(),w};[qi,qt];();e:i=xs.length:=();!e;.inl {{xs,k _ _ H p,qe _},λq v=>r H q ys p u v}
theorem Cj{α:Type}[DecidableEq α]:∀{S ws:List α},S.Nodup->(∀x∈S,x∈ws)->S.length<=ws.length|[],_,_,_=>qv _|x::S,ws,nd,h=>do b:=h x qm;a:=z6.mp nd;f:=Cj (S:=S) (ws:=ws.erase x) a.2 λy c=>(List.mem_erase_of_ne (λ(e:y=x)=>a.1 (do[←e];c))).mpr (h y (qy _ c));d:=List.length_erase_of_mem b;pos:0<ws.length:=List.length_pos_of_mem b;¬S.length+1<=ws.length;()
def az.same(h:az H a xs)(s:af H H'):az H' a xs:=do h||{o,h}:=h;.inl (s _ _ h);.inr ⟨o,s _ _ h⟩
mutual
inductive DV(H:Hp):V->Sw->Prop
 |aQ:DV H .aQ .none
 |bl (b:Bool):DV H (.bl b) (.bool b)
 |int (i:Int):DV H (.int i) (.int i)
 |str (z:Sy):DV H (.str z) (.str z)
 |lst {p:Sx} {xs:List V} {ds:List Sw}:az H p xs->dU H xs ds->DV H (.ref p) (.list ds)
 |tup {p:Sx} {xs:List V} {ds:List Sw}:aV H p xs->dU H xs ds->DV H (.ref p) (.tuple ds)
inductive dU(H:Hp):List V->List Sw->Prop
 |nil:dU H [] []
 |cons {x:V} {xs:List V} {d:Sw} {ds:List Sw}:DV H x d->dU H xs ds->dU H (x::xs) (d::ds)
end
section
variable {X:Cx}{pins:List (Sx×Obj)}{σ:St}{H H':Hp}{s:Sv}{K:PySem.W.Frag}
def aV.same(h:aV H a xs)(s:af H H'):aV H' a xs:=do h||{o,h}:=h;.inl (s _ _ h);.inr ⟨o,s _ _ h⟩
mutual
theorem DV.same(e:af H H'):∀{x:V} {d:Sw},DV H x d->DV H' x d
 |_,_,.aQ=>.aQ
 |_,_,.bl b=>.bl b
 |_,_,.int i=>.int i
 |_,_,.str z=>.str z
 |_,_,.lst h t=>.lst (h.same e) (dU.same e t)
 |_,_,.tup h t=>.tup (h.same e) (dU.same e t)
theorem dU.same(e:af H H'):∀{xs:List V} {ds:List Sw},dU H xs ds->dU H' xs ds
 |_,_,.nil=>.nil
 |_,_,.cons h t=>.cons (DV.same e h) (dU.same e t)
end
mutual
theorem DV.reads(I:Inv X pins σ H s):∀{x:V} {d:Sw} {v:MD},DV H x d->RelV x v->∃g,Reads s.heap v d g
 |_,_,_,.aQ,r=>by cases r;exact{_,.none}
 |_,_,_,.bl b,r=>by cases r;exact{_,.bool b}
 |_,_,_,.int i,r=>by obtain⟨t,rfl⟩:=r;exact{_,.int i t}
 |_,_,_,.str z,r=>by obtain⟨t,rfl⟩:=r;exact{_,.str z t}
 |_,_,_,.lst h t,r=>by
  cases r;obtain⟨its,f,⟨o,n,a,j,_,c⟩,_⟩:=I.list h;obtain⟨g,e⟩:=dU.reads I t f;exact{_,.list a j c (by simpa using e)}
 |_,_,_,.tup h t,r=>by
  cases r;obtain⟨its,f,⟨o,a,j,n,c⟩,_⟩:=I.tuple h;obtain⟨g,e⟩:=dU.reads I t f;exact{_,.tuple a j c (by simpa using e)}
theorem dU.reads(I:Inv X pins σ H s):∀{xs:List V} {ds:List Sw} {vs:List MD},dU H xs ds->aJ xs vs->∃c,ReadsAll s.heap vs ds c
 |_,_,_,.nil,r=>by cases r;exact{_,.nil}
 |_,_,_,.cons h t,r=>by
  cases r with
  |cons e d =>
   obtain⟨c,a⟩:=DV.reads I h e;obtain⟨bs,b⟩:=dU.reads I t d;exact{_,.cons a b}
end
inductive xq(u:Nat)(neg:Bool)(x y:V)(H:Hp)(Q:VK):Prop
 |mk(dx dy:_)(_:DV H x dx)(_:DV H y dy)(_:dx.canLay0=true)(_:dy.canLay0=true)(_:min dx.depth dy.depth<=u)(_:Q (.bl (if neg then not (PyData.eqv dx dy) else PyData.eqv dx dy)) H)
def A8(k:X.A.units+u<cLine):dm X (compareOp .Eq) (xq u false):=do(pins,s,σ,H,x,y,v,w,Q,I,d,f,h);{dx,j,b,e,a,cy,i,q}:=h;{l,g}:=b.reads I d;{bs,c}:=e.reads I f;SeqAt.compareEq_reads g c a cy () {.bl _,H,I,O,q}
def DK(k:X.A.units+u<cLine):dm X (compareOp .NotEq) (xq u true):=do(pins,s,σ,H,x,y,v,w,Q,I,d,f,h);{dx,j,b,e,a,cy,i,q}:=h;{l,g}:=b.reads I d;{bs,c}:=e.reads I f;SeqAt.compareNe_reads g c a cy () {.bl _,H,I,O,q}
theorem lF:∀{vs:List MD} {ds:List Sw} {a:List Sx} {j:Nat} {v:MD},ReadsAll h vs ds a->vs[j]?=!v->∃d bs,ds[j]?=!d/\Reads h v d bs|_,_,_,_,_,.nil,e=>(do-e)|_,_,_,0,_,.cons r t,e=>(do-e;{_,_,O,r})|_,_,_,j+1,_,.cons r t,e=>do _;{d,bs,h1,h2}:=lF (j:=j) t (do 0<|e);{d,bs,do 0<|h1,h2}
theorem mG:∀{ds:List Sw} {j:Nat} {d:Sw},PyData.canLayAll0 ds=true->ds[j]?=!d->d.canLay0=true|[],_,_,_,e=>(do-e)|d::ds,0,_,h,e=>(do-e;h':(d.canLay0&&PyData.canLayAll0 ds)=true:=h;h'←[zt];h'.1)|d::ds,j+1,d',h,e=>do h':(d.canLay0&&PyData.canLayAll0 ds)=true:=h;h'←[zt];mG h'.2 (do 0<|e)
open Classical in
noncomputable def alike(vs:List MD)(ds:List Sw)(dx:Sw)(y:MD):Bool:=decide (∃(j:Nat) (d:Sw),vs[j]?=!y/\ds[j]?=!d/\PyData.eqv d dx=true)
open Classical in
def kW{h:Heap}{vs:List MD}{ds:List Sw}{n:List Sx}{dx:Sw}(r:ReadsAll h vs ds n)(c:PyData.canLayAll0 ds=true){j:Nat}{y:MD}{d:Sw}(e:vs[j]?=!y)(b:ds[j]?=!d):alike vs ds dx y=PyData.eqv d dx:=by
 unfold alike
 cases q:PyData.eqv d dx with
 |true=>exact qI {j,d,e,b,q}
 |false =>
  refine decide_eq_false λ⟨o,d',m,a,g⟩=>?_;obtain⟨s,u,i,k⟩:=lF r e;obtain⟨t,p,f,l⟩:=lF r m;rw[b]at i;cases i;rw[a]at f;cases f;have:=SeqAt.Reads.unique _ _ _ _ _ (mG c b) k l;rw[←this,q]at g;cases g
def Pm(r:ReadsAll h vs ds k)(c:PyData.canLayAll0 ds=true):vs.any (alike vs ds dx)=ds.any λd=>PyData.eqv d dx:=do l:=SeqAt.ReadsAll.length _ _ _ r;[jg,yz,yz];1;({y,i,q});{j,b,e}:=z8.mp i;{d,_,f,_}:=lF r (j:=j) (do[qh b,e]);q←[kW r c (do[qh b,e]) f];{d,qw f,q};({d,g,q});{j,b,e}:=z8.mp g;a:j<vs.length:=();{vs[j],y0 a,?_};[kW r c (qh a) (do[qh b,e])];q
inductive J6(u:Nat)(neg:Bool)(x y:V)(H:Hp)(Q:VK):Prop
 |mk(dx p ds xs:_)(_:DV H x dx)(_:y=.ref p)(_:(az H p xs\/aV H p xs))(_:dU H xs ds)(_:dx.canLay0=true)(_:PyData.canLayAll0 ds=true)(_:dx.depth<=u)(_:Q (.bl (if neg then not (ds.any λd=>PyData.eqv d dx) else ds.any λd=>PyData.eqv d dx)) H)
def EY(J:X.A.units+1+u<cLine):dm X (compareOp .In) (J6 u false):=do(pins,s,σ,H,x,y,v,w,Q,I,E,o,h);{dx,p,ds,xs,n,rfl,a,B,D,cs,L,q}:=h;-o;{K,C}:=n.reads I E;b:∀{its:List MD},aJ xs its->(∀y∈its,SeqAt.EqAt X.A.in1 s y v (alike its ds dx y))/\its.any (alike its ds dx)=ds.any λd=>PyData.eqv d dx:=λ{its} t=>(do _;{bs,g}:=B.reads I t;{λy G=>?_,Pm g cs};{j,z,e}:=z8.mp G;m:its[j]?=!y:=(do[qh z,e]);{d,_,l,F}:=lF g m;[kW g cs m l];SeqAt.eqAt_reads d dx _ s y v _ _ F C (mG cs l) D (do¬X.A.units+1+_<cLine;()));a||a:=a;{its,r,f,hz}:=I.list a;{i,k}:=b r;SeqAt.in_listAt (alike its ds dx) f.isList (λw c=>i w (do 0<|c)) {.bl _,H,I,O,?_};[List.any_toArray,k];q;{its,r,f,hz}:=I.tuple a;{i,k}:=b r;SeqAt.in_tupleAt (alike its ds dx) f (λw c=>i w (do 0<|c)) {.bl _,H,I,O,?_};[List.any_toArray,k];q
inductive nY(u:Nat)(o:V)(vs:List V)(H:Hp)(Q:VK):Prop
 |mk(x dx p ds xs:_)(j:Nat)(_:vs=[x])(_:o=.ref p)(_:DV H x dx)(_:az H p xs)(_:dU H xs ds)(_:dx.canLay0=true)(_:PyData.canLayAll0 ds=true)(_:dx.depth<=u)(_:(∃d,ds[j]?=!d/\PyData.eqv d dx=true))(_:(∀(m:Nat) d,m<j->ds[m]?=!d->PyData.eqv d dx=false))(_:Q (.int (j:Int)) H)
def Qt(hu:X.A.units+3+u<cLine):wG X "list.index" (nY u):=do(pins,s,σ,H,o,vs,v,us,Q,I,M,N,h);{x,dx,p,ds,xs,j,rfl,rfl,L,Z,R,U,cs,hd,{d,C,Y},i,q}:=h;-M;{w,rfl,g}:=N.one;{as,T}:=L.reads I g;{its,r,P,hz}:=I.list Z;{{S,D,data,sl},n,e,K,E,G}:=P;(by dsimp only at K E G;subst K E G);{bs,b}:=R.reads I r;B:=SeqAt.ReadsAll.length _ _ _ b;c:j<its.length:=(do this:=(qk.mp C).1;());hl:=r.length;z:sizeLine<2 ^ 63 - 1:=⋯;call_meets F.slot_list_index {_,e,O} F.entry_list_index (F.args_list_index_2 _ _) (SeqAt.list_indexAt p its.toArray n none sl w (alike its ds dx) j (do 0<|c) () ?_ ?_) {e,λy t=>?_,?_};[nr,kW b cs (qh c) C];Y;(m,k,l);f:m<its.length:=(do 0<|k);{d',_,a,_}:=lF b (qh f);[nr,kW b cs (qh f) a];i m d' l a;t:y∈its:=(do 0<|t);{m,k,V}:=z8.mp t;J:its[m]?=!y:=(do[qh k,V]);{d',_,a,W}:=lF b J;[kW b cs J a];SeqAt.eqAt_reads d' dx _ s y w _ _ W T (mG cs a) U (do¬X.A.units+1+_<cLine;());{.int j,H,I.tok _,{_,O},q}
inductive nQ(u:Nat)(o:V)(vs:List V)(H:Hp)(Q:VK):Prop
 |mk(x dx p ds xs:_)(_:vs=[x])(_:o=.ref p)(_:DV H x dx)(_:az H p xs)(_:dU H xs ds)(_:dx.canLay0=true)(_:PyData.canLayAll0 ds=true)(_:dx.depth<=u)(_:Q (.int ((ds.countP λd=>PyData.eqv d dx:Nat):Int)) H)
def MO(f:MD->Bool)(r:ReadsAll h vs ds b):(∀(j:Nat) y d,vs[j]?=!y->ds[j]?=!d->f y=PyData.eqv d dx)->vs.countP f=ds.countP λd=>PyData.eqv d dx:=do(a);(by induction vs generalizing ds b with|nil|cons v vs g=>?_);-r;2;(by cases r with|cons k e=>?_);[List.countP_cons,List.countP_cons,a 0 _ _ rfl rfl,g e λj y d c i=>a (j+1) y d (do 0<|c) (do 0<|i)]
def M6(T:X.A.units+3+u<cLine):wG X "list.count" (nQ u):=do(pins,s,σ,H,o,vs,v,us,Q,I,B,C,h);{x,dx,p,ds,xs,rfl,rfl,z,R,J,M,cs,V,q}:=h;-B;{w,rfl,c}:=C.one;{U,L}:=z.reads I c;{its,r,G,hz}:=I.list R;{{K,g,data,sl},n,e,t,i,k}:=G;(by dsimp only at t i k;subst t i k);{bs,b}:=J.reads I r;call_meets F.slot_list_count {_,e,O} F.entry_list_count (F.args_list_count_2 _ _) (SeqAt.list_countAt p its.toArray n none sl w (alike its ds dx)) {e,λy f=>?_,?_};f:y∈its:=(do 0<|f);{m,D,N}:=z8.mp f;l:its[m]?=!y:=(do[qh D,N]);{d',_,a,P}:=lF b l;[kW b cs l a];SeqAt.eqAt_reads d' dx _ s y w _ _ P L (mG cs a) M (do¬X.A.units+1+_<cLine;());{.int _,H,I.tok _,{_,O},?_};[List.toList_toArray,MO (dx:=dx) _ b λj y d E S=>kW b cs E S];q
end
def Q8{own:List Sy}{g:TG}(hz:xs.length<=sizeLine)(c:Nat->List V->Hp->Prop)(h0:c 0 [] H)(z:∀i zs H,c i zs H->az H a xs)(w:∀i x zs H' p (n:V->Hp->Prop) (l:Hp->Prop),xs[i]?=!x->c i zs H'->H' p=none->(∀v j,c (i+1) (zs++[v]) j->n v j)->(∀f,c (i+1) zs f->l f)-> g (.ref p) (cD own fr σ) (upd H' p (.tup [.int i,x])) λh H2=>tt h H2 λb f=>if b=true then te h f n else l f)(s:∀H' p zs,c xs.length zs H'->zs.length<=xs.length->H' p=none->Q (.ref p) (upd H' p (.lst zs))):FR own fr g tt te σ Q (F3 a) H:=do _;{λi m zs H=>m=xs.length - i/\i<=xs.length/\zs.length<=i/\c i zs H,{xs.length,do 0,Nat.zero_le _,Nat.zero_le _,h0},?_};(i,m,zs,H,{rfl,hi,u,p});k:=z _ _ H p;d<|i<xs.length;.inr {{xs,xs[i],k,do#[d]},(),λv H' y=>?_};{r,x,hn,o,rfl,rfl}:=y;w i x zs H r _ _ (o xs k) p hn (λv j t=>{xs.length - (i+1),(),O,d,?_,t}) λf B=>{xs.length - (i+1),(),O,d,(),B};[qi,qt];();e:i=xs.length:=();!e;.inl {{xs,k,O},λq A=>s H q zs p u A}
def Ks{A:Around}(a:bG k A):A.units+64<cLine:=a.units
def Rb{A:Around}(a:bG k A):A.units+1+63<cLine:=do this:=a.units;()
def xx{A:Around}(a:bG k A):A.units+3+61<cLine:=do this:=a.units;()
def iE(z:Sy)(lo hi:Option Int):Sy:={((z.cps.toList.drop (HT.b_ z.length 0 lo)).take (HT.b_ z.length z.length hi - HT.b_ z.length 0 lo)).toArray}
def wV(i:Int)(n:Nat):max 0 (min (if i<0 then i+(n:Int) else i) (n:Int))=((if i<0 then(i+(n:Int)).toNat else min i.toNat n:Nat):Int):=do h<|i<0;[qF h,qF h];();[qB h,qB h];()
def Lq(lo hi:Option Int)(n:Nat):Builtin.Str.strSliceIndices lo hi 1 n=(List.range (HT.b_ n n hi - HT.b_ n 0 lo)).map (HT.b_ n 0 lo+·):=do[←sliceRange_one];@Builtin.Str.strSliceIndices;(by cases lo with|none|some i=>?_;cases hi with|none|some j=>?_);2;¬sliceRange 0 (max 0 (min (if j<0 then j+(n:Int) else j) (n:Int))) 1=_;[wV];2;(by cases hi with|none|some j=>?_);¬sliceRange (max 0 (min (if i<0 then i+(n:Int) else i) (n:Int))) n 1=_;[wV];2;¬sliceRange (max 0 (min (if i<0 then i+(n:Int) else i) (n:Int))) (max 0 (min (if j<0 then j+(n:Int) else j) (n:Int))) 1=_;[wV,wV];2
section
variable {X:Cx}
inductive Oz(x:V)(lo:Option Int)(hi:Option Int)(H:Hp)(Q:VK):Prop
 |mk(z:_)(_:x=.str z)(_:z.length<=sizeLine)(_:Q (.str (iE z lo hi)) H)
def QN(z:Sy)(l u:Option (Int×Tok)):((slicePicked z l u none).filterMap (z.cps[·]?))=(iE z (l.map (·.1)) (u.map (·.1))).cps.toList:=by unfold slicePicked iE;rw[show((none:Option (Int×Tok)).map (·.1)).getD 1=(1:Int) from rfl,Lq,pick_run]
def Nq:vU X Oz:=do(pins,s,σ,H,x,v,p,r,lo,hi,sl,Q,I,o,d,n,m,h);{z,rfl,hz,q}:=h;{t,rfl}:=o;{"str",_,F.slot_str_getitem.lookup,typeIs_str _ z t,?_};a:∀l u:Option (Int×Tok),l.map (·.1)=lo->u.map (·.1)=hi->s.heap.IsSlice sl l u none->wpAny (model X.prog X.w) X.A (getItem (.str z t) (.ref sl)) (EP X pins σ Q) X.xe s:=λl u i k f=>(do wpAny_getItem_str_slice (st:=none) f rfl ?_;j:=QN z l u;j←[i,k];@sliceMade;3;(by rename_i b);y:(slicePicked z l u none).length=z.length:=(do b←[zt];beq_iff_eq.mp b.2);e:iE z lo hi=z:=(do h1:(slicePicked z l u none).length=HT.b_ z.length z.length hi - HT.b_ z.length 0 lo:=(do@slicePicked;[show((none:Option (Int×Tok)).map (·.1)).getD 1=(1:Int) from rfl,Lq,i,k,qj,zo]);B:HT.b_ z.length z.length hi<=z.length:=(do@HT.b_;by split <;> (try split)<;> omega);h2:HT.b_ z.length 0 lo=0\/z.length=0:=();@iE;h2||h2:=h2;[h2];h1←[h2];[show HT.b_ z.length z.length hi - 0=z.cps.toList.length from do this:z.cps.toList.length=z.length:=(do 0;2);(),List.drop_zero,ze];this:z.cps.toList=[]:=(do this:z.cps.size=0:=h2;0<|this);[this];{c}:=z;this←0;#[this]);{.str z,H,I,{t,O},e▸q};e:(⟨((slicePicked z l u none).filterMap (z.cps[·]?)).toArray⟩:Sy)=iE z lo hi:=(do[j]);g:(iE z lo hi).length<=z.length:=(do@iE;¬(List.toArray _).size<=z.length;[zg,wv,yf];¬_<=z.cps.size;this:z.cps.toList.length=z.cps.size:=(do 0);());[e];{qg g hz,.str _,H,I.tok _,{_,O},q});(by cases n <;> cases m);a none none rfl rfl d;a none (!(_,_)) rfl rfl d;a (!(_,_)) none rfl rfl d;a (!(_,_)) (!(_,_)) rfl rfl d
end
section
variable {X:Cx}{tg:Expr}
theorem KG:∀{xs:List V} {us:List MD},aJ xs us->aJ xs.reverse us.reverse|[],_,h=>(do-h;.nil)|x::xs,_,h=>do(by cases h with|cons r t=>?_);[me,me];(KG t).append (.cons r .nil)
def GA(te:TE)(ts:TO):TE:=λσ H Q=>te σ H λx H1=>ts σ H1 λo H2=>o=!(-1)/\∃a xs,x=.ref a/\az H2 a xs/\∀p H',H2 p=none->af H2 H'->H' p=!(.lst xs.reverse)->Q (.ref p) H'
def Py{e:Expr}{st:Expr}{te:TE}{ts:TO}{pos p2:Pos}(k:PE X e te)(f:PO X (!st) ts):PE X (.Subscript e (.Slice none none (!st) p2) pos) (GA te ts):=do _;{?_};(pins,s,σ,H,Q,I,h);Subscript_ (bI (k pins s σ H _ I h) λv p ⟨x,H1,u,t,B⟩=>?_);wpAny_Slice ?_;[evalPart_none];qE ?_;qE ?_;bI (f pins p σ H1 _ u B) λvs c ⟨o,z,m,ps,l,y⟩=>?_;!l;{a,xs,rfl,n,q}:=y;d:Inv X pins σ z {c with heap:=c.heap.push {cls:=.type "slice",data:=.fields #[.none,.none,vs]}}:=m.kept (t':=c.toks) λb ob q=>qH _ q;-t;{its,r,g,hz}:=d.list n;j:=r.length;¬wpAny (model X.prog X.w) X.A (subscriptTail e (.Slice none none (!st) p2) (.ref a) (.ref ↑c)) (EP X pins σ Q) X.xe {c with heap:=c.heap.push {cls:=.type "slice",data:=.fields #[.none,.none,vs]}};tail_any (ops:=[.ref a,.ref ↑c]) g.isList.typeIs slot_list_getitem.lookup ?_ (by with_unfolding_all rfl);wpAny_getItem_list_slice g.isList (Heap.IsSliceOf.new ..) .none .none ps (do 0) ?_ (by rw[List.size_toArray] <;> omega);[PySem.W.krv_pick];i:=d.aR.fresh (qe _);{.ref _,_,d.laid (t':=c.toks) (o:=.lst xs.reverse) (λb ob q=>qH _ q) (qe _) ?_,O,q _ _ i (af.new i) aB};{do[vd];hz,its.reverse,0,?_,?_};KG r;qL _ rfl
end
def GJ:V->Sy|.str z=>z|.int i=>toString i|_=>""
section
variable {X:Cx}
inductive mM(xs:List V)(H:Hp)(Q:VK):Prop
 |mk(x:_)(_:xs=[x])(_:((∃z,x=.str z)\/∃i:Int,x=.int i/\i.natAbs.log2<1920))(_:Q (.str (GJ x)) H)
def Qu:cB X (.type "str") mM:=do(pins,s,σ,H,xs,us,Q,I,r,h);{x,rfl,b,q}:=h;{u,rfl,a}:=vals1 r;{z,rfl}||{i,rfl,hi}:=b;{t,rfl}:=a;PySem.P.str_of_str {.str z,H,I,{t,O},q};{t,rfl}:=a;PySem.P.str_of_int hi {.str _,H,I.tok _,{_,O},q}
end
end L2
set_option maxHeartbeats 40000000
namespace Srt
open PySem PySem.W PyProof.Rows
def Ok{α:Type}(n:Nat)(lt:Nat->Nat->Bool)(P:α->Prop):KasT α->Prop|.ret a=>P a|.ask i j k=>i<n/\j<n/\Ok n lt P (k (lt i j))
section
variable {α β:Type}{n:Nat}{lt:Nat->Nat->Bool}
theorem Ok.mono(h:∀a,P a->R a):∀{t:KasT α},Ok n lt P t->Ok n lt R t|.ret _,q=>h _ q|.ask _ _ _,q=>{q.1,q.2.1,Ok.mono h q.2.2}
theorem Ok.bind{R:β->Prop}{f:α->KasT β}:∀{t:KasT α},Ok n lt (λa=>Ok n lt R (f a)) t->Ok n lt R (t.bind f)|.ret _,q=>q|.ask _ _ k,q=>{q.1,q.2.1,Ok.bind (t:=k _) q.2.2}
theorem Ok.wp(c:∀i j C,i<n->j<n->C (lt i j) s->b i j C s)(d:∀a,P a->Q a s) : ∀{t:KasT α},Ok n lt P t->t.kasWp b Q s|.ret _,q=>d _ q|.ask i j k,q=>c i j _ q.1 q.2.1 (Ok.wp c d (t:=k _) q.2.2)
end
structure eR(lt:Nat->Nat->Bool):Prop where
 kE:∀a,lt a a=false
 tr:∀a b c,lt a b=true->lt b c=true->lt a c=true
 nt:∀a b c,lt a c=true->lt a b=true\/lt b c=true
section
variable {n:Nat}{lt:Nat->Nat->Bool}(W:eR lt)
include W
theorem eR.le_of_lt(h:lt a b=true):lt b a=false:=by cases e:lt b a with|false|true=>?_;rfl;rw[←W.kE a,←W.tr a b a h e]
theorem eR.dr(h1:lt b a=false)(h2:lt c b=false):lt c a=false:=do(by cases e:lt c a with|false|true=>?_);2;q||q:=W.nt c b a e;h2←[q];-h2;h1←[q];-h1
theorem eR.Jp(h1:lt a b=true)(h2:lt c b=false):lt a c=true:=do q||q:=W.nt a c b h1;q;h2←[q];-h2
end
abbrev g(p:Array Nat)(i:Nat):Nat:=p.getD i 0
def Up(lt:Nat->Nat->Bool)(p:Array Nat)(n:Nat):Prop:=∀i j,i<=j->j<n->lt (g p j) (g p i)=false
def Dn(lt:Nat->Nat->Bool)(p:Array Nat)(n:Nat):Prop:=∀i j,i<=j->j<n->lt (g p i) (g p j)=false
def Bd(n:Nat)(p:Array Nat):Prop:=p.size=n/\∀i,g p i<n
def jR(h:p[i]?=q[j]?):g p i=g q j:=do@g;[jk,jk,h]
def mR(hn:0<n)(h:q.Perm p)(b:Bd n p):Bd n q:=do _;{do[h.size_eq];b.1,λi=>?_};@g;[jk];(by cases e:q[i]? with|none|some x=>?_);hn;d:x∈q:=Array.mem_of_getElem? e;a:x∈p:=(h.mem_iff).mp d;{j,f,c}:=Array.mem_iff_getElem.mp a;this:=b.2 j;(by unfold g at this);this←[jk,yw f,c];this
section
variable {n:Nat}{lt:Nat->Nat->Bool}(W:eR lt)(hn:0<n)
theorem M1(W:eR lt)(h0:1<=k)(h:Up lt p k)(b:lt (g p k) (g p (k - 1))=false):Up lt p (k+1):=do(i,j,a,d);e<|j=k;!e;c<|i=j;!c;W.kE _;W.dr (h i (j - 1) () ()) b;h i j a ()
theorem ug(W:eR lt)(h0:1<=k)(h:Dn lt p k)(b:lt (g p (k - 1)) (g p k)=false):Dn lt p (k+1):=do(i,j,a,d);e<|j=k;!e;c<|i=j;!c;W.kE _;W.dr b (h i (j - 1) () ());h i j a ()
theorem Cr(W:eR lt)(b:Bd n p):∀(f k:Nat),1<=k->Up lt p k->Ok n lt (λm=>k<=m/\m<=k+f/\Up lt p m/\(m<k+f->lt (g p m) (g p (m - 1))=true)) (kas_asc p f k)| 0,k,_,h=>{Nat.le_refl _,Nat.le_refl _,h,λz=>absurd z (do 0)}|f+1,k,h0,h=>do _;{b.2 _,b.2 _,?_};(by cases e:lt (p.getD k 0) (p.getD (k - 1) 0)with|true|false=>?_);¬Ok n lt _ (if true=true then _ else _);[qF rfl];{qe _,Nat.le_add_right _ _,h,λ_=>e};¬Ok n lt _ (if false=true then _ else _);[qB ⋯];(Cr W b f (k+1) () (M1 W h0 h e)).mono λm a=>{(),(),a.2.2.1,λz=>a.2.2.2 ()}
theorem Dq(W:eR lt)(f:j<=p.size)(d:∀k,i<=k->k<j->lt (g p k) (g p (j - 1))=false/\lt (g p (j - 1)) (g p k)=false)(k:Nat) : lt (g (kas_rev p i j) k) (g p k)=false/\lt (g p k) (g (kas_rev p i j) k)=false:=do e:=getElem?_mirror_all (i:=i) f k;h<|i<=k/\k<j;e←[qF h];b:g (kas_rev p i j) k=g p (i+j - 1 - k):=jR e;[b];a:=d (i+j - 1 - k) () ();c:=d k h.1 h.2;{W.dr c.2 a.1,W.dr a.2 c.1};e←[qB h];b:g (kas_rev p i j) k=g p k:=jR e;[b];{W.kE _,W.kE _}
theorem CV(W:eR lt)(b:∀i,lt (g q i) (g p i)=false/\lt (g p i) (g q i)=false)(h:Dn lt p k):Dn lt q k:=λi j a c => W.dr (W.dr (b j).2 (h i j a c)) (b i).1
theorem C3(d:k<=p.size)(h:Dn lt p k):Up lt (kas_rev p 0 k) k:=do(i,j,f,l);c:=getElem?_mirror_all (i:=0) d i;e:=getElem?_mirror_all (i:=0) d j;(by rw[qF {qv _,()}]at c e);a:g (kas_rev p 0 k) i=g p (0+k - 1 - i):=jR c;b:g (kas_rev p 0 k) j=g p (0+k - 1 - j):=jR e;[a,b];h _ _ () ()
theorem vR(p:Array Nat)(i j:Nat):(kas_rev p i j).Perm p:=mirror_perm p i j _
def C4(lt:Nat->Nat->Bool)(p:Array Nat)(k q:Nat):Prop:=q+1<=k/\∀m,k - (q+1)<=m->m<k->lt (g p m) (g p (k - 1))=false/\lt (g p (k - 1)) (g p m)=false
theorem uO(W:eR lt)(h:1<=k):C4 lt p k 0:={(),λm h1 h2=>do this:m=k - 1:=();!this;{W.kE _,W.kE _}}
theorem xP(W:eR lt)(hn:0<n):∀(f:Nat) (p:Array Nat) (k q:Nat),Bd n p->1<=k->k+f<=n->Dn lt p k->C4 lt p k q-> Ok n lt (λr=>r.1.Perm p/\k<=r.2.1/\r.2.1<=k+f/\Dn lt r.1 r.2.1/\C4 lt r.1 r.2.1 r.2.2) (kas_desc f p k q)| 0,p,k,q,_,_,_,hd,hl=>{.refl _,qe _,qe _,hd,hl}|f+1,p,k,q,b,h0,hf,hd,hl=>do _;{b.2 _,b.2 _,?_};(by cases e:lt (p.getD k 0) (p.getD (k - 1) 0)with|true|false=>?_);¬Ok n lt _ (if true=true then _ else _);[qF rfl];j<|q>0;[qF j];d:k<=p.size:=(do[b.1];());c:=Dq W d hl.2;h:=vR p (k - (q+1)) k;o:g (kas_rev p (k - (q+1)) k) k=g p k:=jR (do this:=getElem?_mirror_all (i:=k - (q+1)) d k;this←[qB ()];this);t:Dn lt (kas_rev p (k - (q+1)) k) (k+1):=ug W h0 (CV W c hd) (do[o];W.dr (W.le_of_lt e) (c (k - 1)).1);(xP W hn f _ (k+1) 0 (mR hn h b) () () t (uO W ())).mono λr a=>{a.1.trans h,(),(),a.2.2.2};[qB j];(xP W hn f p (k+1) 0 b () () (ug W h0 hd (W.le_of_lt e)) (uO W ())).mono λr a=>{a.1,(),(),a.2.2.2};¬Ok n lt _ (if false=true then _ else _);[qB ⋯];{b.2 _,b.2 _,?_};(by cases l:lt (p.getD (k - 1) 0) (p.getD k 0)with|true|false=>?_);¬Ok n lt _ (if true=true then _ else _);[qF rfl];{.refl _,qe _,Nat.le_add_right _ _,hd,hl};¬Ok n lt _ (if false=true then _ else _);[qB ⋯];(xP W hn f p (k+1) (q+1) b () () (ug W h0 hd l) {do this:=hl.1;(),λm h1 h2=>?_}).mono λr a=>{a.1,(),(),a.2.2.2};¬(lt (g p m) (g p k)=false/\lt (g p k) (g p m)=false);s<|m=k;!s;{W.kE _,W.kE _};this:=hl.2 m () ();{W.dr l this.1,W.dr this.2 e}
theorem G7(W:eR lt)(hn:0<n)(b:Bd n p)(h1:1<=k)(e:k<=n)(d:Dn lt p k):Ok n lt (λr=>1<=r.1/\r.1<=n/\r.2.Perm p/\Up lt r.2 r.1) (kas_tail3 k n p):=do@kas_tail3;a:=vR p 0 k;Ok.bind ((Cr W (mR hn a b) (n - k) k h1 (C3 (do[b.1];e) d)).mono λm c=>?_);{(),(),a,c.2.2.1}
theorem JP(W:eR lt)(hn:0<n)(b:Bd n p)(h1:1<=k)(l:k+1<=n)(i:Dn lt p (k+1)):Ok n lt (λr=>1<=r.1/\r.1<=n/\r.2.Perm p/\Up lt r.2 r.1) (kas_descPart k n p):=do@kas_descPart;Ok.bind ((xP W hn (n - (k+1)) p (k+1) 0 b () () i (uO W ())).mono λr j=>?_);{e,a1,a2,g,h}:=j;d:=mR hn e b;3;f:r.2.1<=r.1.size:=(do[d.1];());c:=vR r.1 (r.2.1 - (r.2.2+1)) r.2.1;(G7 W hn (mR hn c d) () () (CV W (Dq W f h.2) g)).mono λx a=>{a.1,a.2.1,(a.2.2.1.trans c).trans e,a.2.2.2};(G7 W hn d () () g).mono λx a=>{a.1,a.2.1,a.2.2.1.trans e,a.2.2.2}
theorem Og(W:eR lt)(h:Up lt p k)(h0:lt (g p 0) (g p (k - 1))=false):Dn lt p k:=λi j b d=>do a:=h 0 i () ();c:=h j (k - 1) () ();W.dr (W.dr c h0) a
theorem N5(W:eR lt)(hn:0<n)(b:Bd n p):Ok n lt (λr=>1<=r.1/\r.1<=n/\r.2.Perm p/\Up lt r.2 r.1) (kas_count n p):=do@kas_count;A:Up lt p 1:=λi j l v=>(do this:i=j:=();!this;W.kE _);Ok.bind ((Cr W b (n - 1) 1 () A).mono λk u=>?_);{h1,h2,up,y}:=u;e<|(k==n)=true;[qF e];{h1,(),.refl _,up};[qB e];x:k≠n:=λz=>e (do[z];0);d:=y ();a<|k>1;[qF a];{b.2 _,b.2 _,?_};(by cases w:lt (p.getD 0 0) (p.getD (k - 1) 0)with|true|false=>?_);¬Ok n lt _ (if true=true then _ else _);[qF rfl];{h1,do¬k<=n;(),.refl _,up};¬Ok n lt _ (if false=true then _ else _);[qB ⋯];c:k<=p.size:=(do[b.1];());q:=Og W up w;o:=vR p 0 k;s:=Dq (i:=0) W c λm _ B=>{q m (k - 1) () ()|> λz=>z,up m (k - 1) () ()};t:g (kas_rev p 0 k) k=g p k:=jR (do this:=getElem?_mirror_all (i:=0) c k;this←[qB ()];this);h:Dn lt (kas_rev p 0 k) (k+1):=ug W h1 (CV W s q) (do[t];W.dr (W.le_of_lt d) (s (k - 1)).1);(JP W hn (mR hn o b) h1 () h).mono λr f=>{f.1,f.2.1,f.2.2.1.trans o,f.2.2.2};[qB a];this:k=1:=();!this;h:Dn lt p 1:=λi j l v=>(do this:i=j:=();!this;W.kE _);JP W hn b h1 () (ug W h1 h (W.le_of_lt d))
theorem Fe(W:eR lt)(b:Bd n p)(up:Up lt p k):∀(f l r:Nat),l<=r->r<=k->r - l<=f->(∀i,i<l->lt (g p k) (g p i)=false)->(∀i,r<=i->i<k->lt (g p k) (g p i)=true)-> Ok n lt (λm=>m<=k/\(∀i,i<m->lt (g p k) (g p i)=false)/\∀i,m<=i->i<k->lt (g p k) (g p i)=true) (kas_place p k f l r)| 0,l,r,h1,h2,h3,hl,hr=>{(),hl,λi hi a=>hr i () a}|f+1,l,r,h1,h2,h3,hl,hr=>do@kas_place;e<|l>=r;[qF e];{(),hl,λi hi a=>hr i () a};[qB e];{b.2 _,b.2 _,?_};(by cases c:lt (p.getD k 0) (p.getD ((l+r) / 2) 0)with|true|false=>?_);¬Ok n lt _ (if true=true then _ else _);[qF rfl];Fe W b up f l ((l+r) / 2) () () () hl λi hi a=>W.Jp c (up _ i hi a);¬Ok n lt _ (if false=true then _ else _);[qB ⋯];Fe W b up f ((l+r) / 2+1) r () h2 () (λi hi=>W.dr (up i ((l+r) / 2) () ()) c) hr
theorem IJ(W:eR lt)(hn:0<n):∀(f:Nat) (p:Array Nat) (k:Nat),Bd n p->k+f=n->Up lt p k->Ok n lt (λq=>q.Perm p/\Up lt q n) (kas_bin f p k)| 0,p,k,_,hk,up=>{.refl _,do[←hk];up}|f+1,p,k,b,hk,up=>do@kas_bin;Ok.bind ((Fe W b up k 0 k (qv _) (qe _) () (λi hi=>absurd hi ()) λi h1 h2=>absurd h2 ()).mono λl v=>?_);{y,s,w}:=v;h:=bubble_perm p k (k - l);u:k<p.size:=(do[b.1];());at':∀i,g (bubble p k (k - l)) i=if i=l then g p k else if l<i/\i<=k then g p (i - 1) else g p i:=λi=>(do e:=getElem?_bubble u (k - l) () i;e←[show k - (k - l)=l from ()];h1<|i=l;(by rw[qF h1]at e ⊢);jR e;(by rw[qB h1]at e ⊢);h2<|l<i/\i<=k;(by rw[qF h2]at e ⊢);jR e;(by rw[qB h2]at e ⊢);jR e);c:Up lt (bubble p k (k - l)) (k+1):=(do(i,j,t,x);[at' i,at' j];m<|i=l;[qF m];a<|j=l;[qF a];W.kE _;[qB a,qF {(),()}];W.le_of_lt (w (j - 1) () ());[qB m];r<|l<i/\i<=k;[qF r,qB (),qF {(),()}];up _ _ () ();[qB r];a<|j=l;[qF a];s i ();[qB a];d<|l<j/\j<=k;[qF d];up _ _ () ();[qB d];up _ _ () ());(IJ W hn f _ (k+1) (mR hn h b) () c).mono λq o=>{o.1.trans h,o.2}
theorem xR(W:eR lt)(hn:0<n):Ok n lt (λq=>q.Perm (List.toArray (List.range n))/\Up lt q n) (kas_sort n):=do@kas_sort;b:Bd n (List.toArray (List.range n)):=(do _;{do 0,λi=>?_};@g;[jk];h<|i<n;#[h];#[h,hn]);Ok.bind ((N5 W hn b).mono λr d=>?_);{h1,h2,a,up}:=d;3;(by rename_i f);e:max r.1 1=r.1:=();[e];(IJ W hn _ _ _ (mR hn a b) () up).mono λq c=>{c.1.trans a,c.2};e:r.1=n:=();{a,do[←e];up}
end
end Srt
namespace L2
open PySem PySem.Spec PyProof.Rows
mutual
inductive DT(H:Hp):V->Sw->Prop
 |aQ:DT H .aQ .none
 |bl (b:Bool):DT H (.bl b) (.bool b)
 |int (i:Int):DT H (.int i) (.int i)
 |str (z:Sy):DT H (.str z) (.str z)
 |tup {p:Sx} {xs:List V} {ds:List Sw}:H p=!(.tup xs)->cz H xs ds->DT H (.ref p) (.tuple ds)
inductive cz(H:Hp):List V->List Sw->Prop
 |nil:cz H [] []
 |cons {x:V} {xs:List V} {d:Sw} {ds:List Sw}:DT H x d->cz H xs ds->cz H (x::xs) (d::ds)
end
mutual
theorem DT.same(e:af H H'):∀{x:V} {d:Sw},DT H x d->DT H' x d
 |_,_,.aQ=>.aQ
 |_,_,.bl b=>.bl b
 |_,_,.int i=>.int i
 |_,_,.str z=>.str z
 |_,_,.tup h t=>.tup (e _ _ h) (cz.same e t)
theorem cz.same(e:af H H'):∀{xs:List V} {ds:List Sw},cz H xs ds->cz H' xs ds
 |_,_,.nil=>.nil
 |_,_,.cons h t=>.cons (DT.same e h) (cz.same e t)
end
mutual
theorem DT.dv:∀{x:V} {d:Sw},DT H x d->DV H x d
 |_,_,.aQ=>.aQ
 |_,_,.bl b=>.bl b
 |_,_,.int i=>.int i
 |_,_,.str z=>.str z
 |_,_,.tup h t=>.tup (aV.of h) (cz.dv t)
theorem cz.dv:∀{xs:List V} {ds:List Sw},cz H xs ds->dU H xs ds
 |_,_,.nil=>.nil
 |_,_,.cons h t=>.cons (DT.dv h) (cz.dv t)
end
def Lh{H:Hp}{a b:Sx}{xs:List V}{o:HO}(d:H a=!(.tup xs))(c:H b=!o)(f:∀ys,o≠.tup ys):a≠b:=λe=>do !e;c←[d];f xs (qJ c).symm
mutual
def f':Sw->Bool
 |.none=>true
 |.bool _=>false
 |.int _=>true
 |.str _=>true
 |.list xs=>kH xs
 |.tuple xs=>kH xs
 |.dict _=>false
def kH:List Sw->Bool
 |[]=>true
 |x::xs=>f' x&&kH xs
end
mutual
theorem wK:∀(a b:Sw),f' a=true->f' b=true->(PyData.eqv a b=true↔a=b)
 |.list xs,b,ha,hb=>by
  cases b with
  |list ys =>
   have:=DA xs ys (by simpa[f'] using ha) (by simpa[f'] using hb)
   simp only[PyData.eqv,this,PyData.list.injEq]
  |_=>simp[PyData.eqv]
 |.tuple xs,b,ha,hb=>by
  cases b with
  |tuple ys =>
   have:=DA xs ys (by simpa[f'] using ha) (by simpa[f'] using hb)
   simp only[PyData.eqv,this,PyData.tuple.injEq]
  |_=>simp[PyData.eqv]
 |.dict _,_,ha,_=>by simp[f']at ha
 |.bool _,_,ha,_=>by simp[f']at ha
 |.none,b,_,hb=>by cases b <;> simp_all [PyData.eqv,f']
 |.int i,b,_,hb=>by cases b <;> simp_all [PyData.eqv,f']
 |.str i,b,_,hb=>by cases b <;> simp_all [PyData.eqv,f']
theorem DA:∀(xs ys:List Sw),kH xs=true->kH ys=true->(PyData.eqvAll xs ys=true↔xs=ys)
 |[],ys,_,_=>by cases ys <;> simp[PyData.eqvAll]
 |x::xs,ys,ha,hb=>by
  cases ys with
  |nil=>simp[PyData.eqvAll]
  |cons y ys =>
   rw[kH,zt]at ha hb;have h1:=wK x y ha.1 hb.1;have h2:=DA xs ys ha.2 hb.2
   simp only[PyData.eqvAll,Bool.and_eq_true,h1,h2,List.cons.injEq]
end
theorem pF:∀{xs:List Sw},(∀x∈xs,f' x=true)->kH xs=true|[],_=>rfl|x::xs,h=>do[kH,h x qm,pF λy a=>h y (qy _ a)];2
theorem dH:∀{xs:List Sw},(∀x∈xs,x.canLay0=true)->PyData.canLayAll0 xs=true|[],_=>rfl|x::xs,h=>do¬(x.canLay0&&PyData.canLayAll0 xs)=true;[h x qm,dH λy a=>h y (qy _ a)];2
def Cm{α:Type}{l:List α}{x:α}(h:l.Nodup)(d:x∉l):(l++[x]).Nodup := wt.mpr {h,z6.mpr {λz=>(List.not_mem_nil z).elim,vi},λa c b f e=>d (do e←[qx.mp f];[←e];c)}
mutual
def sk:Sw->Sw->Bool
 |.none,.none=>true
 |.bool _,.bool _=>true
 |.int _,.int _=>true
 |.str _,.str _=>true
 |.tuple xs,.tuple ys=>eN xs ys
 |_,_=>false
def eN:List Sw->List Sw->Bool
 |[],_=>true
 |_::_,[]=>true
 |x::xs,y::ys=>sk x y&&eN xs ys
end
mutual
def bT:Sw->Sw->Bool
 |.bool a,.bool b=>not a&&b
 |.int i,.int j=>decide (i<j)
 |.str x,.str y=>decide (x.cps.toList<y.cps.toList)
 |.tuple xs,.tuple ys=>bF xs ys
 |_,_=>false
def bF:List Sw->List Sw->Bool
 |[],[]=>false
 |[],_::_=>true
 |_::_,[]=>false
 |x::xs,y::ys=>if PyData.eqv x y=true then bF xs ys else bT x y
end
mutual
theorem cK:∀(a b:Sw),sk a b=true->(PyData.eqv a b=true↔a=b)
 |.tuple xs,b,h=>by
  cases b with
  |tuple ys=>simp only[PyData.eqv,PyData.tuple.injEq];exact EL xs ys (by simpa[sk] using h)
  |_=>simp[sk]at h
 |.none,b,h=>by cases b <;> simp_all [sk,PyData.eqv]
 |.bool _,b,h=>by cases b <;> simp_all [sk,PyData.eqv]
 |.int _,b,h=>by cases b <;> simp_all [sk,PyData.eqv]
 |.str _,b,h=>by cases b <;> simp_all [sk,PyData.eqv]
 |.list _,b,h=>by cases b <;> simp[sk]at h
 |.dict _,b,h=>by cases b <;> simp[sk]at h
theorem EL:∀(xs ys:List Sw),eN xs ys=true->(PyData.eqvAll xs ys=true↔xs=ys)
 |[],ys,_=>by cases ys <;> simp[PyData.eqvAll]
 |x::xs,[],_=>by simp[PyData.eqvAll]
 |x::xs,y::ys,h=>by
  rw[eN,zt]at h
  simp only[PyData.eqvAll,Bool.and_eq_true,cK x y h.1,EL xs ys h.2,List.cons.injEq]
end
def ME{x y:Sy}(h:x.cps.toList=y.cps.toList):x=y:=do _;{a}:=x;{b}:=y;congrArg Str.mk (Array.ext' h)
mutual
theorem mY:∀a:Sw,bT a a=false
 |.tuple xs=>by rw[bT];exact Lo xs
 |.none=>rfl
 |.bool b=>by cases b <;> rfl
 |.int i=>by simp[bT]
 |.str x=>by simp[bT,List.lt_irrefl]
 |.list _=>rfl
 |.dict _=>rfl
theorem Lo:∀xs:List Sw,bF xs xs=false
 |[]=>rfl
 |x::xs=>by
  rw[bF,Lo xs,mY x]
  split <;> rfl
end
mutual
theorem CU:∀(a b:Sw),sk a b=true->bT a b=false->bT b a=false->a=b
 |.tuple xs,b,h,h1,h2=>by
  cases b with
  |tuple ys=>exact congrArg PyData.tuple (Ke xs ys (by simpa[sk] using h) (by simpa[bT] using h1) (by simpa[bT] using h2))
  |_=>simp[sk]at h
 |.none,b,h,_,_=>by cases b <;> simp_all [sk]
 |.bool a,b,h,h1,h2=>by
  cases b with
  |bool c=>cases a <;> cases c <;> simp_all [bT]
  |_=>simp[sk]at h
 |.int i,b,h,h1,h2=>by
  cases b with
  |int j=>simp only[bT,decide_eq_false_iff_not]at h1 h2;exact congrArg _ ()
  |_=>simp[sk]at h
 |.str x,b,h,h1,h2=>by
  cases b with
  |str y =>
   simp only[bT,decide_eq_false_iff_not]at h1 h2
   exact congrArg _ (ME (List.le_antisymm (mf.mp h2) (mf.mp h1)))
  |_=>simp[sk]at h
 |.list _,b,h,_,_=>by cases b <;> simp[sk]at h
 |.dict _,b,h,_,_=>by cases b <;> simp[sk]at h
theorem Ke:∀(xs ys:List Sw),eN xs ys=true->bF xs ys=false->bF ys xs=false->xs=ys
 |[],[],_,_,_=>rfl
 |[],_::_,_,h,_=>by simp[bF]at h
 |_::_,[],_,_,h=>by simp[bF]at h
 |x::xs,y::ys,h,h1,h2=>by
  rw[eN,zt]at h
  by_cases e:x=y
  .subst e
   have ex:PyData.eqv x x=true:=(cK x x h.1).mpr rfl;rw[bF,qF ex]at h1 h2;rw[Ke xs ys h.2 h1 h2]
  .have a:¬PyData.eqv x y=true:=λz=>e ((cK x y h.1).mp z)
   have c:sk y x=true:=Ka x y h.1;have b:¬PyData.eqv y x=true:=λz=>e ((cK y x c).mp z).symm;rw[bF,qB a]at h1;rw[bF,qB b]at h2;exact absurd (CU x y h.1 h1 h2) e
theorem Ka:∀(a b:Sw),sk a b=true->sk b a=true
 |.tuple xs,b,h=>by
  cases b with
  |tuple ys=>rw[sk];exact JV xs ys (by simpa[sk] using h)
  |_=>simp[sk]at h
 |.none,b,h=>by cases b <;> simp_all [sk]
 |.bool _,b,h=>by cases b <;> simp_all [sk]
 |.int _,b,h=>by cases b <;> simp_all [sk]
 |.str _,b,h=>by cases b <;> simp_all [sk]
 |.list _,b,h=>by cases b <;> simp[sk]at h
 |.dict _,b,h=>by cases b <;> simp[sk]at h
theorem JV:∀(xs ys:List Sw),eN xs ys=true->eN ys xs=true
 |[],[],_=>rfl
 |[],_::_,_=>rfl
 |_::_,[],_=>rfl
 |x::xs,y::ys,h=>by
  rw[eN,zt]at h ⊢;exact{Ka x y h.1,JV xs ys h.2}
end
mutual
theorem vX:∀(a b c:Sw),sk a b=true->sk b c=true->sk a c=true->bT a b=true->bT b c=true->bT a c=true
 |.tuple xs,b,c,h1,h2,h3,l1,l2=>by
  cases b with
  |tuple ys =>
   cases c with
   |tuple zs=>rw[bT];exact Gf xs ys zs (by simpa[sk] using h1) (by simpa[sk] using h2) (by simpa[sk] using h3) (by simpa[bT] using l1) (by simpa[bT] using l2)
   |_=>simp[sk]at h3
  |_=>simp[sk]at h1
 |.none,b,c,_,_,_,l1,_=>by cases b <;> simp[bT]at l1
 |.bool a,b,c,h1,h2,h3,l1,l2=>by
  cases b with
  |bool y =>
   cases c with
   |bool z=>cases a <;> cases y <;> cases z <;> simp_all [bT]
   |_=>simp[sk]at h3
  |_=>simp[sk]at h1
 |.int i,b,c,h1,h2,h3,l1,l2=>by
  cases b with
  |int y =>
   cases c with
   |int z=>simp only[bT,decide_eq_true_eq]at *;omega
   |_=>simp[sk]at h3
  |_=>simp[sk]at h1
 |.str i,b,c,h1,h2,h3,l1,l2=>by
  cases b with
  |str y =>
   cases c with
   |str z=>simp only[bT,decide_eq_true_eq]at *;exact List.lt_trans l1 l2
   |_=>simp[sk]at h3
  |_=>simp[sk]at h1
 |.list _,b,c,_,_,_,l1,_=>by cases b <;> simp[bT]at l1
 |.dict _,b,c,_,_,_,l1,_=>by cases b <;> simp[bT]at l1
theorem Gf:∀(xs ys zs:List Sw),eN xs ys=true->eN ys zs=true->eN xs zs=true->bF xs ys=true->bF ys zs=true->bF xs zs=true
 |_,_,[],_,_,_,_,l2=>by
  rename_i ys _ _ _ _
  cases ys <;> simp[bF]at l2
 |[],_,_::_,_,_,_,_,_=>rfl
 |x::xs,[],_::_,_,_,_,l1,_=>by simp[bF]at l1
 |x::xs,y::ys,z::zs,h1,h2,h3,l1,l2=>by
  rw[eN,zt]at h1 h2 h3
  by_cases e:x=y
  .subst e
   have a:PyData.eqv x x=true:=(cK x x h1.1).mpr rfl;rw[bF,qF a]at l1
   by_cases b:x=z
   .subst b
    rw[bF,qF a]at l2 ⊢;exact Gf xs ys zs h1.2 h2.2 h3.2 l1 l2
   .have c:¬PyData.eqv x z=true:=λw=>b ((cK x z h3.1).mp w)
    rw[bF,qB c]at l2 ⊢;exact l2
  .have a:¬PyData.eqv x y=true:=λw=>e ((cK x y h1.1).mp w)
   rw[bF,qB a]at l1
   by_cases b:y=z
   .subst b
    rw[bF,qB a];exact l1
   .have c:¬PyData.eqv y z=true:=λw=>b ((cK y z h2.1).mp w)
    rw[bF,qB c]at l2;have d:=vX x y z h1.1 h2.1 h3.1 l1 l2
    have f:¬PyData.eqv x z=true:=λw=>by
     have:=(cK x z h3.1).mp w;subst this;rw[mY]at d;cases d
    rw[bF,qB f];exact d
end
mutual
theorem Hl:∀(a b c:Sw),sk a b=true->sk b c=true->sk a c=true->bT a c=true->bT a b=true\/bT b c=true
 |.tuple xs,b,c,h1,h2,h3,l=>by
  cases b with
  |tuple ys =>
   cases c with
   |tuple zs=>rw[bT,bT];exact Jx xs ys zs (by simpa[sk] using h1) (by simpa[sk] using h2) (by simpa[sk] using h3) (by simpa[bT] using l)
   |_=>simp[sk]at h3
  |_=>simp[sk]at h1
 |.none,b,c,_,_,_,l=>by cases c <;> simp[bT]at l
 |.bool a,b,c,h1,h2,h3,l=>by
  cases b with
  |bool y =>
   cases c with
   |bool z=>cases a <;> cases y <;> cases z <;> simp_all [bT]
   |_=>simp[sk]at h3
  |_=>simp[sk]at h1
 |.int i,b,c,h1,h2,h3,l=>by
  cases b with
  |int y =>
   cases c with
   |int z=>simp only[bT,decide_eq_true_eq]at *;omega
   |_=>simp[sk]at h3
  |_=>simp[sk]at h1
 |.str i,b,c,h1,h2,h3,l=>by
  cases b with
  |str y =>
   cases c with
   |str z =>
    simp only[bT,decide_eq_true_eq]at *
    by_cases d:i.cps.toList<y.cps.toList
    .exact .inl d
    .exact .inr (List.lt_of_le_of_lt (mf.mp d) l)
   |_=>simp[sk]at h3
  |_=>simp[sk]at h1
 |.list _,b,c,_,_,_,l=>by cases c <;> simp[bT]at l
 |.dict _,b,c,_,_,_,l=>by cases c <;> simp[bT]at l
theorem Jx:∀(xs ys zs:List Sw),eN xs ys=true->eN ys zs=true->eN xs zs=true->bF xs zs=true->bF xs ys=true\/bF ys zs=true
 |xs,_,[],_,_,_,l=>by cases xs <;> simp[bF]at l
 |[],[],_::_,_,_,_,_=>.inr rfl
 |[],_::_,_::_,_,_,_,_=>.inl rfl
 |x::xs,[],_::_,_,_,_,_=>.inr rfl
 |x::xs,y::ys,z::zs,h1,h2,h3,l=>by
  rw[eN,zt]at h1 h2 h3
  by_cases e:x=z
  .subst e
   have a:PyData.eqv x x=true:=(cK x x h3.1).mpr rfl;rw[bF,qF a]at l
   by_cases b:x=y
   .subst b
    rw[bF,qF a,bF,qF a];exact Jx xs ys zs h1.2 h2.2 h3.2 l
   .have d:¬PyData.eqv x y=true:=λw=>b ((cK x y h1.1).mp w)
    have c:¬PyData.eqv y x=true:=λw=>b ((cK y x h2.1).mp w).symm;rw[bF,qB d,bF,qB c]
    cases f:bT x y with
    |true=>exact .inl rfl
    |false =>
     cases p2:bT y x with
     |true=>exact .inr rfl
     |false=>exact absurd (CU x y h1.1 f p2) b
  .have a:¬PyData.eqv x z=true:=λw=>e ((cK x z h3.1).mp w)
   rw[bF,qB a]at l;rcases Hl x y z h1.1 h2.1 h3.1 l with p|p
   .left
    have d:¬PyData.eqv x y=true:=λw=>by
     have:=(cK x y h1.1).mp w;subst this;rw[mY]at p;cases p
    rw[bF,qB d];exact p
   .right
    have c:¬PyData.eqv y z=true:=λw=>by
     have:=(cK y z h2.1).mp w;subst this;rw[mY]at p;cases p
    rw[bF,qB c];exact p
end
def eu(A:Around)(s:Sv)(x y:MD)(b:Bool):Prop:=∀(prog:Program) (w:World) (E:KE) (Q:KE),Q (.bool b) s->wpAny (model prog w) A (richCompare .Lt x y) Q E s
open SeqAt in
def Rf(l b:Sx)(us vs:Array MD)(n D:Nat)(v t:Option Sx)(sl r:Array (Option MD))(e:Nat->Bool)(c:Bool) :
  Meets (Builtin.«tuple.__lt__» {[.ref l,.ref b],[]})
   (λA R s=>s.heap.get? l=some { cls:=.type "tuple",dict:=v,data:=.seq us n,slots:=sl }/\s.heap.get? b=some { cls:=.type "tuple",dict:=t,data:=.seq vs D,slots:=r } ∧
    (∀j (h1:j<us.size) (h2:j<vs.size),EqAt A.in1 s us[j] vs[j] (e j)) ∧
    (∀i (h1:i<us.size) (h2:i<vs.size),(∀j,j<i->e j=true)->e i=false->eu A.in1 s us[i] vs[i] c) ∧
    ((∀j,j<min us.size vs.size->e j=true)->c=decide (us.size<vs.size))/\R (.ok (.ret (.bool c))) s) :=
 .of_wp λprog w A R s h=>by
  obtain⟨hp,g,d,tk,F⟩:=s;obtain⟨G,B,E,o,k,h⟩:=h;have I:=AutoSeq1.sub_tuple_tuple
  have H:(us.toList.zip vs.toList).length=min us.size vs.size:=by simp
  wp_walk using wpAny_loadPart' G,wpAny_loadPart' B,wpAny_forIn_list _ (λrest b s'=>b.1=none/\s'={hp,g,d,tk,F}/\∃i,rest=(us.toList.zip vs.toList).drop i/\∀j,j<i->e j=true) _
  case turn =>
   rintro⟨y,x⟩ rest b s' ⟨a,rfl,i,hz,hi⟩
   have f:i<(us.toList.zip vs.toList).length:=by
    rcases jl i (us.toList.zip vs.toList).length with h' |h'
    .exact h'
    .rw[nv h']at hz;cases hz
   have h1:i<us.size:=()
   have h2:i<vs.size:=()
   rw[jm f]at hz;injection hz with hyx hrest
   have m:y=us[i]:=by have:=congrArg Prod.fst hyx;simpa using this
   have u:x=vs[i]:=by have:=congrArg Prod.snd hyx;simpa using this
   subst m u;refine qA (E i h1 h2 prog w _ _ ?_)
   cases m:e i with
   |true =>
    wp_walk
    exact{O,O,i+1,hrest,λj p=>by
     by_cases z:j=i
     .rw[z];exact m
     .exact hi j ()}
   |false =>
    have q:=o i h1 h2 hi m;dsimp only;rw[qF (by rfl)];refine qA (wpAny_rule (qA (q prog w _ _ ?_)));exact qA (qE (qE (qE {_,O,h})))
  case fin =>
   rintro⟨K,J⟩ s' ⟨a,rfl,i,hz,hi⟩
   simp only at a
   subst a
   have C:min us.size vs.size<=i:=by
    rcases jl i (us.toList.zip vs.toList).length with h' |h'
    .rw[jm h']at hz;cases hz
    .omega
   have:=k λj p=>hi j ()
   wp_walk
   exact{_,O,by rw[this]at h;simpa[Builtin.Tuple.tupleCompareSizes] using h}
  case h =>
   exact{O,O,0,O,λj p=>absurd p (vj _)}
def eu.tuples{A:Around}{s:Sv}{l b:Sx}{us vs:Array MD}{e:Nat->Bool}{c:Bool}(C:s.heap.IsTuple l us)(y:s.heap.IsTuple b vs)(B:A.units<cLine)(u:∀j (h1:j<us.size) (h2:j<vs.size),SeqAt.EqAt A.in1 s us[j] vs[j] (e j))(m:∀i (h1:i<us.size) (h2:i<vs.size),(∀j,j<i->e j=true)->e i=false->eu A.in1 s us[i] vs[i] c)(a:(∀j,j<min us.size vs.size->e j=true)->c=decide (us.size<vs.size)):eu A s (.ref l) (.ref b) c:=λprog w E Q h=>do _;{{D,v,data,sl},t,p,n,r}:=id C;{{q,g,k,o},f,d,z,hd2}:=id y;(by simp only at p r d hd2;subst p r d hd2);richCompare_meets_room (op:=.Lt) {_,t,O} {_,f,O} F.slot_tuple_lt F.entry_tuple_lt (F.args_tuple_lt_2 _ _) (Rf l b us vs n z v g sl o e c) {t,f,u,m,a,show Value.bool c≠Value.notImplemented/\Q (.bool c) s from{(λx=>nomatch x),h}} B
def eu.ints{A:Around}(i j:Int)(t u:Tok):eu A s (.int i t) (.int j u) (decide (i<j)):=λprog w E Q h=>PyProof.Rows.lt_int h
def eu.strs{A:Around}(i j:Sy)(t u:Tok):eu A s (.str i t) (.str j u) (decide (i.cps.toList<j.cps.toList)):=λprog w E Q h=>PyProof.Rows.lt_str h
def eu.bools{A:Around}(i j:Bool):eu A s (.bool i) (.bool j) (not i&&j):=λprog w E Q h=>do PyProof.Rows.lt_bool ?_;by cases i <;> cases j <;> exact h
open SeqAt in
theorem Fg:∀(xs ys:List Sw) (i:Nat),i<xs.length->i<ys.length->(∀j,j<i->pairEq xs ys j=true)->pairEq xs ys i=false->bF xs ys=bT (xs.getD i .none) (ys.getD i .none)
 |x::xs,y::ys,0,_,_,_,h=>by
  have h':PyData.eqv x y=false:=h;rw[bF,qB (by rw[h'];decide)];rfl
 |x::xs,y::ys,i+1,h1,h2,hj,h=>by
  have h':PyData.eqv x y=true:=hj 0 ();rw[bF,qF h'];exact Fg xs ys i (by simpa using h1) (by simpa using h2) (λj a=>hj (j+1) ()) h
 |[],_,_,h1,_,_,_=>absurd h1 (vj _)
 |_::_,[],_,_,h2,_,_=>absurd h2 (vj _)
open SeqAt in
theorem BV:∀(xs ys:List Sw),(∀j,j<min xs.length ys.length->pairEq xs ys j=true)->bF xs ys=decide (xs.length<ys.length)
 |[],[],_=>rfl
 |[],_::_,_=>by simp[bF]
 |_::_,[],_=>by simp[bF]
 |x::xs,y::ys,h=>by
  have h':PyData.eqv x y=true:=h 0 (by simp);rw[bF,qF h',BV xs ys λj a=>h (j+1) (by simp only[List.length_cons];omega)]
  simp
theorem Gs:∀(xs ys:List Sw) (i:Nat),i<xs.length->i<ys.length->eN xs ys=true->sk (xs.getD i .none) (ys.getD i .none)=true|x::xs,y::ys,0,_,_,h=>(do h←[eN,zt];h.1)|x::xs,y::ys,i+1,h1,h2,h=>(do h←[eN,zt];Gs xs ys i (do 0<|h1) (do 0<|h2) h.2)|[],_,_,h1,_,_=>absurd h1 (vj _)|_::_,[],_,_,h2,_=>absurd h2 (vj _)
theorem xc:∀(xs:List Sw) (i:Nat),i<xs.length->(xs.getD i .none).depth<=PyData.depthAll xs|x::xs,0,_=>(do¬x.depth<=max x.depth _;())|x::xs,i+1,h=>(do this:=xc xs i (do 0<|h);¬(xs.getD i .none).depth<=max x.depth (PyData.depthAll xs);())|[],_,h=>absurd h (vj _)
theorem iw:∀{vs:List MD} {ds:List Sw} {a:List Sx} {i:Nat} (hi:i<vs.length),ReadsAll h vs ds a->∃bs,Reads h vs[i] (ds.getD i .none) bs|_,_,_,0,_,.cons r _=>{_,r}|_,_,_,i+1,hi,.cons _ t=>iw (i:=i) (do 0<|hi) t
def oY(h:PyData.canLayAll0 ds=true)(hi:i<ds.length):(ds.getD i .none).canLay0=true := mG (j:=i) h (do[zm,qh hi];2)
open SeqAt in
theorem Hc:∀(n:Nat) (k c:Sw) (A:Around) (s:Sv) (a b:MD) (d bs:List Sx),k.depth<=n->Reads s.heap a k d->Reads s.heap b c bs->k.canLay0=true->c.canLay0=true->sk k c=true->k≠.none->
  A.units+n<cLine->eu A s a b (bT k c)
 |n,.int i,c,A,s,a,b,d,bs,_,ra,rb,_,_,hk,_,_=>by
  cases c <;> simp[sk]at hk;cases ra;cases rb;exact eu.ints _ _ _ _
 |n,.str i,c,A,s,a,b,d,bs,_,ra,rb,_,_,hk,_,_=>by
  cases c <;> simp[sk]at hk;cases ra;cases rb;exact eu.strs _ _ _ _
 |n,.bool i,c,A,s,a,b,d,bs,_,ra,rb,_,_,hk,_,_=>by
  cases c <;> simp[sk]at hk;cases ra;cases rb;exact eu.bools _ _
 |n,.none,c,A,s,a,b,d,bs,_,_,_,_,_,_,hn,_=>absurd rfl hn
 |n,.list _,c,A,s,a,b,d,bs,_,_,_,_,_,hk,_,_=>by cases c <;> simp[sk]at hk
 |n,.dict _,c,A,s,a,b,d,bs,_,_,_,_,_,hk,_,_=>by cases c <;> simp[sk]at hk
 | 0,.tuple xs,c,A,s,a,b,d,bs,hd,_,_,_,_,_,_,_=>by
  have:PyData.depthAll xs+1<=0:=hd;omega
 |n+1,.tuple xs,c,A,s,a,b,d,bs,hd,ra,rb,ca,cb,hk,_,hu=>by
  cases c with
  |tuple ys =>
   have t:eN xs ys=true:=by simpa[sk] using hk
   have w:PyData.depthAll xs<=n:=by
    have:PyData.depthAll xs+1<=n+1:=hd;omega
   cases ra with
   |tuple h1 h2 I v =>
    cases rb with
    |tuple J G F r =>
     rename_i l o us m N o' vs M
     have C:=ReadsAll.length _ _ _ v;have D:=ReadsAll.length _ _ _ r;rw[zx]at C D
     have e:bT (.tuple xs) (.tuple ys)=bF xs ys:=by rw[bT]
     rw[e]
     have B:∀j (p:j<us.size) (q:j<vs.size),EqAt A.in1 s us[j] vs[j] (pairEq xs ys j):=λj p q=>by
      obtain⟨K,x⟩:=iw (i:=j) (by rw[zx];exact p) v;obtain⟨p2,y⟩:=iw (i:=j) (by rw[zx];exact q) r;have L:=xc xs j ();have:=eqAt_reads (xs.getD j .none) (ys.getD j .none) A.in1 s _ _ _ _ x y (oY ca ()) (oY cb ()) (by show A.units+1+_<cLine;omega)
      simp only[Array.getElem_toList]at this
      exact this
     refine eu.tuples {_,h1,h2,_,I} {_,J,G,_,F} () B (λi p q u E=>?_) λu=>?_
     .obtain⟨K,x⟩:=iw (i:=i) (by rw[zx];exact p) v
      obtain⟨p2,y⟩:=iw (i:=i) (by rw[zx];exact q) r;rw[Fg xs ys i () () u E];have f:=Gs xs ys i () () t
      have:=Hc n (xs.getD i .none) (ys.getD i .none) A.in1 s _ _ _ _ (qg (xc xs i ()) w) x y (oY ca ()) (oY cb ()) f (λz=>by
       have g:PyData.eqv (xs.getD i .none) (ys.getD i .none)=false:=E;rw[z]at f g
       cases H:ys.getD i .none <;> rw[H]at f g <;> simp[sk,PyData.eqv]at f g) (by show A.units+1+_<cLine;omega)
      simpa using this
     .rw[BV xs ys λj h=>u j (),C,D]
  |_=>simp[sk]at hk
end L2
namespace Tim
open PySem PySem.W PyProof.Rows Srt
abbrev S(κ:SortKind)(it:Array Keyed)(p:Array Nat)(pd:Array (Nat×Nat×Nat))(m:Nat):SortSt:=SortSt.mk' κ (p.map (kas_item it)) pd m none
def FJ(prog:Program)(w:World)(A:Around)(s:Sv)(κ:SortKind)(it:Array Keyed)(n:Nat)(lt:Nat->Nat->Bool):Prop := ∀i j (C:Bool->Sv->Prop),i<n->j<n->C (lt i j) s->kas_cmp prog w A κ it i j C s
def In(n:Nat)(p:Array Nat):Prop:=∀i,i<p.size->g p i<n
section
variable {prog:Program}{w:World}{A:Around}{E:KE}{s:Sv}{κ:SortKind}{it:Array Keyed}{n:Nat}{lt:Nat->Nat->Bool}{p:Array Nat}{pd:Array (Nat×Nat×Nat)}{mg:Nat}
def HS(g:FJ prog w A s κ it n lt){i j:Nat}{st:SortSt}{Q:Option Bool->SortSt->Prop}(e:kindOf st=κ)(hi:i<n)(f:j<n)(h:Q (!(lt i j)) st):wpS (model prog w) A E s (lt' (kas_item it i) (kas_item it j)) Q st:=do[lt'_eq];wpS_bind (wpS_get ?_);[e];wpS_bind (wpS_lift (wpAny_attempt (qM (g i j (λb s'=>s'=s/\b=lt i j) hi f {O,O}) (λc s' d=>?_) λ_ _ a=>a.elim)));{rfl,rfl}:=d;{O,wpS_pure h}
def Ft(hi:i<p.size):(p.map (kas_item it))[i]?=!(kas_item it (g p i)):=do e:g p i=p[i]:=(do@g;#[Array.getD,hi]);[e];#[hi]
def JT{i:Nat}{st:SortSt}{Q:Keyed->SortSt->Prop}(hi:i<p.size)(h:Q (kas_item it (g p i)) st):wpS (model prog w) A E s (elem' (p.map (kas_item it)) i) Q st:=do[elem'_eq,Ft hi];wpS_pure h
def PY(c:FJ prog w A s κ it n lt)(a:In n p){i j:Nat}{Q:Option Bool->SortSt->Prop}(hi:i<p.size)(b:j<p.size)(h:Q (!(lt (g p i) (g p j))) (S κ it p pd mg)):wpS (model prog w) A E s (ltAt' i j) Q (S κ it p pd mg):=do[ltAt'_eq];wpS_bind (wpS_get ?_);wpS_bind (JT hi (wpS_bind (JT b (HS c rfl (a i hi) (a j b) h))))
end
def yW(lt:Nat->Nat->Bool)(lo:Nat)(p:Array Nat)(k:Nat):Prop:=∀i j,lo<=i->i<=j->j<k->lt (g p j) (g p i)=false
section
variable {lt:Nat->Nat->Bool}{lo:Nat}{p:Array Nat}
def up1(W:eR lt):yW lt lo p (lo+1):=λi j h1 h2 a=>do this:i=j:=();!this;W.kE _
def PF(W:eR lt)(h0:lo+1<=k)(h:yW lt lo p k)(b:lt (g p k) (g p (k - 1))=false):yW lt lo p (k+1):=do(i,j,h1,a,d);e<|j=k;!e;c<|i=j;!c;W.kE _;W.dr (h i (j - 1) h1 () ()) b;h i j h1 a ()
end
section
variable {prog:Program}{w:World}{A:Around}{E:KE}{s:Sv}{κ:SortKind}{it:Array Keyed}{n:Nat}{lt:Nat->Nat->Bool}{p:Array Nat}{pd:Array (Nat×Nat×Nat)}{mg:Nat}{lo nrem:Nat}
def QC(W:eR lt)(t:FJ prog w A s κ it n lt)(o:In n p){a:Nat}{Q:AscSt->SortSt->Prop}{f:Nat->AscSt->StateT SortSt Sem (ForInStep AscSt)}(u:∀x (k:Nat),f x (none,k)=(do{let r ←ltAt' (lo+k) (lo+k - 1);match r with|some b=>if b=true then pure (ForInStep.done (none,k)) else pure (ForInStep.yield (none,k+1))|_=>pure (ForInStep.done (!none,k))}))(v:1<=a)(l:a<=nrem)(hz:lo+nrem<=p.size)(q:yW lt lo p (lo+a))(h:∀k,a<=k->k<=nrem->yW lt lo p (lo+k)->(k<nrem->lt (g p (lo+k)) (g p (lo+k - 1))=true)->Q (none,k) (S κ it p pd mg)) : wpS (model prog w) A E s (forIn [a:nrem] ((none,a):AscSt) f) Q (S κ it p pd mg):=do wpS_forRange (I:=λx c i=>i=S κ it p pd mg/\c=(none,x)/\yW lt lo p (lo+x)) ?step ?fin {O,O,q};by(case fin =>(rintro c i ⟨rfl,rfl,d⟩;rw[show max a nrem=nrem from ()]at d ⊢;exact h nrem l (qe _) d λz=>absurd z (wu _)));case step =>(rintro x c i j m ⟨rfl,rfl,d⟩;rw[u];refine wpS_bind (PY t o () () ?_);cases e:lt (g p (lo+x)) (g p (lo+x - 1))with|true|false=>?_;dsimp only;rw[qF rfl];exact wpS_pure (h x j () d λ_=>e);dsimp only;rw[qB ⋯];exact wpS_pure {O,O,PF (k:=lo+x) W () d e})
def oh{α:Type}{c:Prop}[Decidable c]{a b:StateT SortSt Sem α}{Q:α->SortSt->Prop}{st:SortSt}(h1:c->wpS (model prog w) A E s a Q st)(h2:¬c->wpS (model prog w) A E s b Q st):wpS (model prog w) A E s (if c then a else b) Q st:=do h<|c;[qF h];h1 h;[qB h];h2 h
end
section
variable {prog:Program}{w:World}{A:Around}{E:KE}{s:Sv}{κ:SortKind}{it:Array Keyed}{n:Nat}{lt:Nat->Nat->Bool}{p:Array Nat}{pd:Array (Nat×Nat×Nat)}{mg:Nat}
theorem Jb:∀(f n r:Nat),r<=1->minRun' f n r<=n+r| 0,n,r,_=>qe _|f+1,n,r,hr=>do[minRun'_succ];3;qe _;this:=Jb f (n / 2) (max r (n % 2)) ();()
def MQ(W:eR lt)(f:FJ prog w A s κ it n lt)(c:In n p){nrem:Nat}{Q:Option Nat->SortSt->Prop}(h1:1<=nrem)(hz:0+nrem<=p.size)(d:yW lt 0 p (0+nrem))(h:Q (!nrem) (S κ it p pd mg)):wpS (model prog w) A E s (countRun' 0 nrem) Q (S κ it p pd mg):=do[countRun'_eq];wpS_bind (QC W f c (λx k=>rfl) (qe 1) h1 hz (up1 W) λk i g up a=>?_);(by dsimp only);b:k=nrem:=(do e<|k=nrem;e;this:=a ();this←[d (0+k - 1) (0+k) () () ()];-this);[qF (do 0<|b),b];wpS_pure h
def rR(W:eR lt)(q:FJ prog w A s κ it n lt)(k:In n p)(hz:2<=p.size)(o:yW lt 0 p (0+p.size)){Q:Unit->SortSt->Prop}(h:∀pd m,Q Unit.unit (S κ it p pd m)) : wpS (model prog w) A E s sortRuns' Q (S κ it p #[] 7):=do[sortRuns'_eq];wpS_bind (wpS_get ?_);l:(arrOf (S κ it p #[] 7)).size=p.size:=Array.size_map ..;(by dsimp only);[l];wpS_bind (wpS_mono (wpS_forRange (I:=λx c a=>(x=0/\c=(none,0)/\a=S κ it p #[] 7)\/(c=(none,p.size)/\a=S κ it p #[(0,p.size,0)] 7)) (Q:=λc a=>c=(none,p.size)/\a=S κ it p #[(0,p.size,0)] 7) ?s0 ?f0 (.inl {O,O,O})) ?p0);by(case f0 =>(rintro c a (⟨j,_,_⟩|hh);omega;exact hh));(case s0 =>(rintro x c a _ j (⟨rfl,rfl,rfl⟩|⟨rfl,rfl⟩);dsimp only;refine oh (λd=>absurd d ()) λe=>?_;refine wpS_bind (MQ W q k () () (do[ju];o) ?_);dsimp only;refine oh (λb=>absurd b (do this:=Jb p.size p.size 0 ⋯;())) λi=>?_;refine wpS_bind (wpS_get ?_);split;rename_i f;have f:(none:Option (Nat×Nat×Nat))=_:=f;cases f;refine wpS_bind (wpS_modify (wpS_pure (.inr {?_,?_})));rw[ju,ja];rw[ju];rfl;dsimp only;refine oh (λd=>wpS_pure {O,O}) λe=>absurd e ()));case p0 =>(rintro c a ⟨rfl,rfl⟩;dsimp only;refine wpS_bind (wpS_mono (wpS_forRange (I:=λx c a=>c=(none,Unit.unit)/\a=S κ it p #[(0,p.size,0)] 7) (Q:=λc a=>c=(none,Unit.unit)/\a=S κ it p #[(0,p.size,0)] 7) ?s1 (λc a z=>z) {O,O}) ?p1);(case s1 =>(rintro y c a _ t ⟨rfl,rfl⟩;refine wpS_bind (wpS_get ?_);refine oh (λr=>wpS_pure {O,O}) λg=>absurd (show(1:Nat)<=1 from qe 1) g));case p1 =>(rintro c a ⟨rfl,rfl⟩;exact wpS_pure (h _ _)))
end
end Tim
namespace L2
open PySem PySem.Spec PySem.W PyProof.Rows
section
variable {prog:Program}{w:World}{A:Around}{E:KE}{s:Sv}
def fR(h h':Heap):Prop:=∀b o,h.get? b=!o->h'.get? b=!o
def fR.trans(a:fR h h')(b:fR h' d):fR h d:=λc o e=>b c o (a c o e)
theorem fR.push(h:Heap)(o:Obj):fR h (h.push o):=λ_ _ e=>qH _ e
def fR.upd{h h':Heap}{a:Sx}{f:Obj->Obj}(x:fR h h')(c:h.objs.size<=a):fR h (h'.update a f):=λb o e=>do[Heap.get?_update_ne _ _ _ _ (qp (zf (qG e) c))];x b o e
def Answers(prog:Program)(w:World)(A:Around)(s:Sv)(ks:List MD)(lt:Nat->Nat->Bool):Prop := ∃κ,(∀(Q:SortKind->Sv->Prop),Q κ s->wpAny (model prog w) A (keyKind' ks.toArray) Q (λ_ _=>False) s)/\∀i j C,i<ks.length->j<ks.length->C (lt i j) s->kas_ask prog w A κ ks i j C s
def Arr(n:Nat)(lt:Nat->Nat->Bool)(p:Array Nat):Prop:=p.Perm (List.toArray (List.range n))/\Srt.Up lt p n
def LA{lt:Nat->Nat->Bool}(W:Srt.eR lt)(h:n<2):Arr n lt (List.toArray (List.range n)):=do _;{.refl _,λi j a b=>?_};this:i=j:=();!this;W.kE _
def Mi(lt:Nat->Nat->Bool)(n:Nat):Prop:=n<64\/∀i j,i<=j->j<n->lt j i=false
def Iv{vs ks:List MD}{lt:Nat->Nat->Bool}(W:Srt.eR lt)(f:ks.length=vs.length)(a:Mi lt vs.length)(h2:¬vs.length<2){κ:SortKind}(t:∀i j C,i<ks.length->j<ks.length->C (lt i j) s->kas_ask prog w A κ ks i j C s){R:SortSt->Sv->Prop}(u:∀st p,Arr vs.length lt p->(arrOf st).map (·.2)=List.toArray (p.toList.map λi=>vs.getD i Value.none)->failedOf st=none->R st s) : wpAny (model prog w) A ((sortRuns').run (SortSt.mk' κ (ks.toArray.zip vs.toArray) #[] 7 none)) (λr s'=>R r.2 s') E s:=do a||up:=a;kat_run (G:=λp s'=>s'=s/\Arr vs.length lt p) f () a (λp st s' _ a2 v y=>?_) ?_;{rfl,x}:=y;u st p x (kat_snds f a2) v;(Srt.xR W ()).wp (λi j C h1 z c=>t i j C () () c) λp hp=>{O,hp};hz:(List.toArray (List.range vs.length)).size=vs.length:=(do 0);o:Tim.FJ prog w A s κ (ks.toArray.zip vs.toArray) vs.length lt:=λi j C h1 h2 c=>(do this:=t i j C () () c;this←[kat_ask_eq f];this);d:∀i,i<vs.length->Srt.g (List.toArray (List.range vs.length)) i=i:=λi hi=>(do@Srt.g;[jk];#[hi]);q:Tim.In vs.length (List.toArray (List.range vs.length)):=λi hi=>(do hi←[hz];[d i hi];hi);n:=Tim.rR (E:=E) (Q:=λ_ st=>R st s) W o q (do[hz];()) (λi j _ b k=>do k←[hz];[d i (),d j ()];up i j b ()) λpd m=>?_;l:SortSt.mk' κ (ks.toArray.zip vs.toArray) #[] 7 none=Tim.S κ (ks.toArray.zip vs.toArray) (List.toArray (List.range vs.length)) #[] 7:=(do e:=kas_range (ks.toArray.zip vs.toArray);e←[show(ks.toArray.zip vs.toArray).size=vs.length by simp[f]];[Tim.S,e]);[l];qM n (λr s' h=>?_) λ_ _ e=>e;[h.1];h.2;u _ _ {.refl _,λi j b k=>do[d i (),d j k];up i j b k} (kat_snds f rfl) rfl
def Nz{lt:Nat->Nat->Bool}(W:Srt.eR lt)(o:s.heap.get? a=!(seqObj "list" vs.toArray n))(x:vs.length<=2000)(m:Mi lt vs.length)(e:h0.objs.size<=a)(H:fR h0 s.heap)(d:∀h',fR h0 h'->2<=vs.length->Answers prog w A {s with heap:=h'} vs lt)(h:∀h' p c,fR h0 h'->Arr vs.length lt p->h'.get? a=!(seqObj "list" (List.toArray (p.toList.map λi=>vs.getD i Value.none)) c)->P (.done (.ret .none)) {s with heap:=h'}) : wpAny (model prog w) A (Builtin.«list.sort» {[.ref a],[]}) P E s:=do _;{r,v}:∃r,(s.heap.update a (Obj.mapSeq λ_=>#[])).get? a=!(seqObj "list" #[] r):={_,get?_update_seq o (λ_=>#[])};t:fR h0 (((s.heap.update a (Obj.mapSeq λ_=>#[])).push (seqObj "tuple" vs.toArray 0)).push (seqObj "list" #[] 0)):=(((H.upd e).trans (.push _ _)).trans (.push _ _));f:(((s.heap.update a (Obj.mapSeq λ_=>#[])).push (seqObj "tuple" vs.toArray 0)).push (seqObj "list" #[] 0)).get? a=!(seqObj "list" #[] r):=qH _ (qH _ v);u:vs.length<=sizeLine:=(do[sizeLine_eq];());last:∀p,Arr vs.length lt p->∀(out:Array MD),out=List.toArray (p.toList.map λi=>vs.getD i Value.none)->out.size<=sizeLine+1/\P (.done (.ret .none)) {s with heap:=(((s.heap.update a (Obj.mapSeq λ_=>#[])).push (seqObj "tuple" vs.toArray 0)).push (seqObj "list" #[] 0)).update a (Obj.mapSeq λ_=>out)}:=λp j out g=>(do _;{q,D}:∃q,((((s.heap.update a (Obj.mapSeq λ_=>#[])).push (seqObj "tuple" vs.toArray 0)).push (seqObj "list" #[] 0)).update a (Obj.mapSeq λ_=>out)).get? a=!(seqObj "list" out q):={_,get?_update_seq f (λ_=>out)};{?_,h _ p q (t.upd e) j (do[←g];D)};[g,zg,qj,zx,j.1.size_eq];0;());[list_sort_plain];qA (listItems_at o rfl (qA (listUpdate_at o rfl (qA (seqEpoch_at v rfl (qA (wpAny_newTuple (qA (wpAny_newList (qK ?_) (qv _))) u)))) (do[zg];u) (qv _))));¬wpAny (model prog w) A _ P E {s with heap:=((s.heap.update a (Obj.mapSeq λ_=>#[])).push (seqObj "tuple" vs.toArray 0)).push (seqObj "list" #[] 0)};(by dsimp only);h2<|vs.toArray.size<2;[qF h2,qF h2];b:vs.length<2:=(do 0<|h2);l:=last _ (LA W b) (vs.toArray) (do(by apply mh.mp);#[_,List.toList_toArray];(by apply yc);(i);hi<|i<vs.length;#[hi];#[hi]);qA (qE ?_);[StateT.run_pure];qA (qE ?_);(by dsimp only);y:(arrOf (SortSt.mk' general' (vs.toArray.zip vs.toArray) #[] 7 none)).map (·.2)=vs.toArray:=(do(by apply mh.mp);¬((vs.toArray.zip vs.toArray).map (·.2)).toList=vs;[Array.toList_map,Array.toList_zip];List.map_snd_zip (qe _));[y];qA (seqEpoch_at f rfl (qA (listUpdate_at f rfl ?_ (qv _) l.1)));#[_,bne_self_eq_false,Bool.false_eq_true,if_false];qE l.2;[qB h2,qB h2];b:¬vs.length<2:=(do 0<|h2);{κ,B,F}:=d _ t ();qA (qM (B (λk s'=>k=κ/\s'={s with heap:=((s.heap.update a (Obj.mapSeq λ_=>#[])).push (seqObj "tuple" vs.toArray 0)).push (seqObj "list" #[] 0)}) {O,O}) ?_ λ_ _ z=>z.elim);(k,s',{rfl,rfl});qA (qM (Iv (E:=E) (R:=λst s'=>s'={s with heap:=((s.heap.update a (Obj.mapSeq λ_=>#[])).push (seqObj "tuple" vs.toArray 0)).push (seqObj "list" #[] 0)}/\∃p,Arr vs.length lt p/\(arrOf st).map (·.2)=List.toArray (p.toList.map λi=>vs.getD i Value.none)/\failedOf st=none) W rfl m b F λst p a1 a2 G=>{O,p,a1,a2,G}) ?_ λ_ _ z=>z);({{},st},s',{rfl,p,j,g,C});l:=last p j _ g;(by dsimp only);qA (seqEpoch_at f rfl (qA (listUpdate_at f rfl ?_ (qv _) l.1)));[C];#[_,bne_self_eq_false,Bool.false_eq_true,if_false];qE l.2
end
def jL(h:n<=2000):n<sizeLine:=jj h ⋯
def xn:Nat->Sw->Prop| 0,.int _=>True| 1,.str _=>True| 2,.tuple (.int _::_)=>True| 3,.tuple (.str _::_)=>True| 4,.tuple (.tuple _::_)=>True|_,_=>False
def QO(t:Nat)(d:Sw):¬xn (t+5) d:=do(h);by cases d with|tuple xs=>(cases xs with|nil|cons x xs=>?_;exact h;cases x <;> exact h)|_=>exact h
section
variable {prog:Program}{w:World}{A:Around}{s:Sv}
def P0(h:eu A s x y c)(q:Q c s):wpAny (model prog w) A (oneLt' false x y) Q E s := kat_one x y (h prog w E _ q)
def ED:∀(us vs:List MD) (xs ys:List Sw) (B bs:List Sx) (i:Nat),ReadsAll s.heap us xs B->ReadsAll s.heap vs ys bs->PyData.canLayAll0 xs=true->PyData.canLayAll0 ys=true->eN xs ys=true-> PyData.depthAll xs<=60->A.units+60<cLine->(i=0->b=true->(∃p q r h,xs=.int p::r/\ys=.int q::h)\/∃p q r h,xs=.str p::r/\ys=.str q::h)->c=decide (us.length<vs.length)->Q (bF xs ys) s->KatLex prog w A b c Q (us.zip vs) i s:=do(us);(by induction us with|nil|cons u us G=>?_);(vs,xs,ys,B,bs,i,k,l,_,_,_,_,_,_,o,q);-k;C:=SeqAt.ReadsAll.length _ _ _ l;¬Q c s;[o];(by cases ys with|nil|cons y ys=>?_;rw[yt]at C ⊢);[C];q;[C];q;(vs,xs,ys,B,bs,i,k,l,L,cb,j,K,F,h0,o,q);(by cases vs with|nil|cons v vs=>?_);-l;-k;¬Q c s;[o];q;(by cases k with|@cons _ _ x xs _ _ m H=>?_;cases l with|@cons _ _ y ys _ _ n I=>?_);a:(x.canLay0&&PyData.canLayAll0 xs)=true:=L;d:(y.canLay0&&PyData.canLayAll0 ys)=true:=cb;(by rw[zt]at a d);j←[eN,zt];g:x.depth<=60/\PyData.depthAll xs<=60:=(do this:max x.depth (PyData.depthAll xs)<=60:=K;());E:=SeqAt.eqAt_reads x y A s u v _ _ m n a.1 d.1 ();kat_cons (E prog w _ _ ?_);(by cases e:PyData.eqv x y with|true|false=>?_);q←[bF,qF e];kat_yes (G vs xs ys _ _ (i+1) H I a.2 d.2 j.2 g.2 F (λz=>()) ?_ q);[o];0;q←[bF,qB (by rw[e];decide)];kat_no ?_;f<|(b&&i==0)=true;[f];f←[zt];{p,J,r,h,t,D}||{p,J,r,h,t,D}:=h0 (do 0<|f.2) f.1;-t;-D;-m;-n;oneLt_int q;-t;-D;-m;-n;oneLt_str q;f←[Bool.not_eq_true];[f];P0 (Hc 60 x y A s u v _ _ g.1 m n a.1 d.1 j.1 (λz=>do !z;this:=j.1;by cases y <;> simp[sk,PyData.eqv]at this e) F) q
theorem G0:∀{vs:List MD} {ds:List Sw} {B:List Sx},ReadsAll s.heap vs ds B->(∀d∈ds,∃f r,d=.tuple (f::r))->∃fs,KatTups s.heap vs fs/\fs.length=vs.length/\∀v∈fs,∃f r bs,PyData.tuple (f::r)∈ds/\Reads s.heap v f bs|[],_,_,.nil,_=>{[],trivial,O,λ_ z=>nomatch z}|v::vs,_,_,.cons (d:=d) (ds:=ds) r t,h=>do _;{fs,y,A,j}:=G0 t λx k=>h x (qy _ k);{f,p,e}:=h d qm;!e;(by cases r with|tuple h1 h2 l b=>?_;rename_i a o us n;cases e:us.toList with|nil|cons u C=>?_);b←[e];-b;b←[e];(by cases b with|cons w D=>?_);{u::fs,KatTups.cons h1 h2 l (do[←ym,e];2) y,do[zd,zd,A],λv c=>?_};rfl||c:=q0.mp c;⟨f,p,_,qm,w⟩;{i,g,bs,m,q}:=j v c;{i,g,bs,qy _ m,q}
def c_(ds:List Sw)(i:Nat):Sw:=ds.getD i (ds.headD .none)
def Kt(h:ds≠[])(i:Nat):c_ ds i∈ds:=do@c_;[zm];(by cases e:ds[i]? with|some x|none=>?_);qw e;(by cases ds with|nil|cons a b=>?_);absurd rfl h;qm
def ov(ds:List Sw)(i j:Nat):Bool:=bT (c_ ds i) (c_ ds j)
def J0(h:∀a∈ds,∀b∈ds,sk a b=true):Srt.eR (ov ds):=do e<|ds=[];!e;{λ_=>rfl,λ_ _ _ z=>(do-z),λ_ _ _ z=>(do-z)};m:=Kt e;{λ_=>mY _,λa b c=>vX _ _ _ (h _ (m a) _ (m b)) (h _ (m b) _ (m c)) (h _ (m a) _ (m c)),λa b c=>Hl _ _ _ (h _ (m a) _ (m b)) (h _ (m b) _ (m c)) (h _ (m a) _ (m c))}
structure KeysAre(ds:List Sw)(t:Nat):Prop where
 lay:PyData.canLayAll0 ds=true
 kind:∀d∈ds,xn t d
 one:∀a∈ds,∀b∈ds,sk a b=true
 deep:∀d∈ds,d.depth<=60
def Dx(r:Reads h v (.int i) a):∃t,v=.int i t:=do-r;{_,O}
def Fn(r:Reads h v (.str i) a):∃t,v=.str i t:=do-r;{_,O}
def JS(r:Reads h v (.tuple xs) b):∃a o vs n,v=.ref a/\h.get? a=!o/\o.cls=.type "tuple" /\ o.data=.seq vs n/\ReadsAll h vs.toList xs b:=do(by cases r with|tuple d c f e=>?_);⟨_,_,_,_,O,d,c,f,e⟩
def uA(h:xn 0 d):∃i,d=.int i:=by cases d <;> first|exact⟨_,O⟩|exact h.elim
def uW(h:xn 1 d):∃i,d=.str i:=by cases d <;> first|exact⟨_,O⟩|exact h.elim
def rP(h:xn t d)(a:2<=t):∃f r,d=.tuple (f::r):=by unfold xn at h;split at h <;> first|exact⟨_,_,O⟩|omega|exact h.elim
def Hj(h:xn 2 d):∃p r,d=.tuple (.int p::r):=do _;{f,r,rfl}:=rP h ⋯;by cases f <;> first|exact⟨_,_,O⟩|exact h.elim
def La(h:xn 3 d):∃p r,d=.tuple (.str p::r):=do _;{f,r,rfl}:=rP h ⋯;by cases f <;> first|exact⟨_,_,O⟩|exact h.elim
def IQ(h:xn 4 d):∃p r,d=.tuple (.tuple p::r):=do _;{f,r,rfl}:=rP h ⋯;by cases f <;> first|exact⟨_,_,O⟩|exact h.elim
def GS(r:ReadsAll s.heap ks ds as)(K:KeysAre ds t)(h2:2<=ks.length)(hu:A.units+60<cLine):Answers prog w A s ks (ov ds):=do hl:=SeqAt.ReadsAll.length _ _ _ r;look:∀i,i<ks.length->∃bs,Reads s.heap (ks.getD i Value.none) (c_ ds i) bs/\c_ ds i∈ds:=λi hi=>(do _;{bs,q}:=iw hi r;h:ks.getD i Value.none=ks[i]:=(do#[hi]);n:c_ ds i=ds.getD i .none:=(do U:i<ds.length:=();@c_;[zm,zm,qh U];2);{bs,do[h,n];q,Kt (λz=>?_) i};hl←[z,yt];());y:∀v∈ks,∃d bs,d∈ds/\Reads s.heap v d bs:=λv G=>(do _;{i,hi,e}:=z8.mp G;{bs,q,m}:=look i hi;{_,bs,m,by rw[←e];simpa[hi] using q});x:∀d∈ds,d.canLay0=true:=λd a=>(do _;{i,hi,e}:=z8.mp a;mG (j:=i) K.lay (do[qh hi,e]));ab:(∀d∈ds,∃f r,d=.tuple (f::r))->(T:MD)->(∀v f bs r,Reads s.heap v f bs->PyData.tuple (f::r)∈ds->Looks (model prog w) s.heap (typeOf v) T)->(T==T)=true-> ((T != Value.type "tuple")=true->∀d∈ds,∀d'∈ds,(∃p q r g,d=.tuple (.int p::r)/\d'=.tuple (.int q::g))\/∃p q r g,d=.tuple (.str p::r)/\d'=.tuple (.str q::g))->Answers prog w A s ks (ov ds):=λh1 T O Y W=>(do _;{fs,k1,k2,k3}:=G0 r h1;{tuples' (T != Value.type "tuple"),λQ q=>kat_kind k1 () (λv G=>?_) Y q,λi j C hi J c=>?_};{f,g,bs,m,q}:=k3 v G;O v f bs g q m;{Z,D,o}:=look i hi;{X,u,E}:=look j J;(by unfold ov at c);{f1,L,h}:=h1 _ o;{f2,I,n}:=h1 _ E;V:=K.deep _ o;P:=K.one _ o _ E;B:=x _ o;F:=x _ E;S:=λz=>W z _ o _ E;(by rw[h]at D V P B S c;rw[n]at u P F S c);@kas_ask;{a1,o1,v1,n1,l,x1,x2,x3,x4}:=JS D;{a2,o2,v2,n2,k,y1,y2,y3,y4}:=JS u;[l,k];kat_lt x1 x3 y1 y3 (ED _ _ _ _ _ _ 0 x4 y4 B F (by simpa[sk] using P) ?_ hu (λ_ z=>?_) (do 0) (do c←[bT];c));this:PyData.depthAll (f1::L)+1<=60:=V;();{p,q,r,g,N,R}||{p,q,r,g,N,R}:=S z;.inl ⟨p,q,r,g,PyData.tuple.inj N,PyData.tuple.inj R⟩;.inr ⟨p,q,r,g,PyData.tuple.inj N,PyData.tuple.inj R⟩);by match t,K.kind with| 0,hk => refine{oneType',λQ q=>kas_kind (T:=Value.type "int") h2 (λv G=>?_) rfl rfl q,λi j C hi J c=>?_};obtain⟨d,bs,m,q⟩:=y v G;obtain⟨_,rfl⟩:=uA (hk d m);obtain⟨_,rfl⟩:=Dx q;exact Looks.of_pure rfl;obtain⟨Z,D,o⟩:=look i hi;obtain⟨X,u,E⟩:=look j J;unfold ov at c;unfold kas_ask;obtain⟨_,h⟩:=uA (hk _ o);obtain⟨_,n⟩:=uA (hk _ E);rw[h]at D c;rw[n]at u c;obtain⟨_,l⟩:=Dx D;obtain⟨_,k⟩:=Dx u;rw[l,k,keyLt'_oneType];exact oneLt_int c| 1,hk => refine{oneType',λQ q=>kas_kind (T:=Value.type "str") h2 (λv G=>?_) rfl rfl q,λi j C hi J c=>?_};obtain⟨d,bs,m,q⟩:=y v G;obtain⟨_,rfl⟩:=uW (hk d m);obtain⟨_,rfl⟩:=Fn q;exact Looks.of_pure rfl;obtain⟨Z,D,o⟩:=look i hi;obtain⟨X,u,E⟩:=look j J;unfold ov at c;unfold kas_ask;obtain⟨_,h⟩:=uW (hk _ o);obtain⟨_,n⟩:=uW (hk _ E);rw[h]at D c;rw[n]at u c;obtain⟨_,l⟩:=Fn D;obtain⟨_,k⟩:=Fn u;rw[l,k,keyLt'_oneType];exact oneLt_str c| 2,hk => have b:∀d∈ds,∃p r,d=.tuple (.int p::r):=λd a=>Hj (hk d a);refine ab (λd a=>let⟨p,r,e⟩:=b d a;{_,r,e}) (Value.type "int") (λv f bs g q m=>?_) rfl λ_ d a d' H=>?_;obtain⟨p,I,e⟩:=b _ m;cases e;cases q;exact Looks.of_pure rfl;obtain⟨p,L,h⟩:=b d a;obtain⟨q,I,n⟩:=b d' H;exact .inl {p,q,L,I,h,n}| 3,hk => have b:∀d∈ds,∃p r,d=.tuple (.str p::r):=λd a=>La (hk d a);refine ab (λd a=>let⟨p,r,e⟩:=b d a;{_,r,e}) (Value.type "str") (λv f bs g q m=>?_) rfl λ_ d a d' H=>?_;obtain⟨p,I,e⟩:=b _ m;cases e;cases q;exact Looks.of_pure rfl;obtain⟨p,L,h⟩:=b d a;obtain⟨q,I,n⟩:=b d' H;exact .inr {p,q,L,I,h,n}| 4,hk => have b:∀d∈ds,∃p r,d=.tuple (.tuple p::r):=λd a=>IQ (hk d a);refine ab (λd a=>let⟨p,r,e⟩:=b d a;{_,r,e}) (Value.type "tuple") (λv f bs g q m=>?_) rfl λz=>absurd z ⋯;obtain⟨p,I,e⟩:=b _ m;cases e;cases q with|tuple h1 h2 Y W=>?_;have:=(Looks.ld (M:=model prog w) (part:=none) h1);rw[←h2];exact(Looks.ld h1).andThen .now|t+5,hk => exfalso;obtain⟨bs,q,m⟩:=look 0 ();exact QO t _ (hk _ m)
end
def dj(ds:List Sw)(ix:List Nat):Prop:=ix.Perm (List.range ds.length)/\(ix.map (c_ ds)).Pairwise λa b=>bT b a=false
def GD(h:Arr ds.length (ov ds) p):dj ds p.toList:=do c:p.size=ds.length:=(do[h.1.size_eq];0);{do 0<|h.1.toList,?_};[jv];(i,j,hi,a,b);(by rw[qj,zx]at hi a);this:=h.2 i j () ();(by unfold ov Srt.g at this);[List.getElem_map,List.getElem_map];by simpa[Array.getD,hi,a] using this
def JG(r:aJ ys us)(ix:List Nat)(h:∀i∈ix,i<ys.length):aJ (ix.map λi=>ys.getD i .aQ) (ix.map λi=>us.getD i Value.none):=do(by induction ix with|nil|cons i ix b=>?_);.nil;hi:=h i qm;{u,d,a}:=r.get (i:=i) (x:=ys[i]) (qh hi);.cons ?_ (b λj c=>h j (qy _ c));¬RelV (ys.getD i .aQ) (us.getD i Value.none);[zm,zm,d,qh hi];a
theorem Jo:∀{xs:List V} {ds:List Sw},dU H xs ds->xs.length=ds.length|_,_,.nil=>rfl|_,_,.cons _ t=>do[zd,zd,Jo t]
mutual
theorem NS(x:fR h h'):∀{v:MD} {d:Sw} {a:List Sx},Reads h v d a->Reads h' v d a
 |_,_,_,.none=>.none
 |_,_,_,.bool b=>.bool b
 |_,_,_,.int i t=>.int i t
 |_,_,_,.str z t=>.str z t
 |_,_,_,.list h1 h2 h3 h4=>.list (x _ _ h1) h2 h3 (p7 x h4)
 |_,_,_,.tuple h1 h2 h3 h4=>.tuple (x _ _ h1) h2 h3 (p7 x h4)
 |_,_,_,.dict h1 h2 h3 h4 h5=>.dict (x _ _ h1) h2 h3 (p7 x h4) (p7 x h5)
theorem p7(x:fR h h'):∀{v:List MD} {d:List Sw} {c:List Sx},ReadsAll h v d c->ReadsAll h' v d c
 |_,_,_,.nil=>.nil
 |_,_,_,.cons a b=>.cons (NS x a) (p7 x b)
end
section
variable {P:Program}{w:World}{A:Around}{E:KE}{s:Sv}
def dO(P:Program)(w:World)(h:Heap)(ks ls:List Key)(a:Sx):Prop:=∃o c d n,h.get? a=!o/\o.cls=.type "tuple" /\ o.data=.seq #[.ref c,.ref d] n/\(tupleKind (ah P w)).is h ks c/\(tupleKind (ah P w)).is h ls d
def dV(P:Program)(w:World)(h:Heap):KD->MD->Prop|.aQ,v=>v=.none|.int i,v=>∃t,v=.int i t|.tup ks,v=>∃a,v=.ref a/\(tupleKind (ah P w)).is h ks a|.two ks ls,v=>∃a,v=.ref a/\dO P w h ks ls a
def bX(P:Program)(w:World):KD->Nat|.aQ=>1|.int _=>1|.tup ks=>(tupleKind (ah P w)).draws ks|.two ks ls=>(tupleKind (ah P w)).draws ks+(tupleKind (ah P w)).draws ls+1
def Gi(x:dO P w h ks ls a)(y:dO P w h f b a):ks=f/\ls=b:=do _;{o,c,d,n,h1,h2,l,q,r}:=x;{o',k,d',n',i,t,g,m,p}:=y;i←[h1];-i;g←[l];(by injection g with e _);j:c=k:=(do this:=congrArg (λz:Array MD=>z[0]?) e;0<|this);s:d=d':=(do this:=congrArg (λz:Array MD=>z[1]?) e;0<|this);(by subst j s);{(tupleKind (ah P w)).inj q m,(tupleKind (ah P w)).inj r p}
def wR(x:dO P w h ks ls a)(y:(tupleKind (ah P w)).is h js a):False:=do _;{o,c,d,n,h1,h2,g,j,k}:=x;{o',its,n',f,l,b,i}:=y;f←[h1];-f;b←[g];(by injection b with e _);!e;this:=i.byValue (.ref c) (do 0);-this
def Qs(x:ItemsAre (ah P w) ks vs):ItemsAre (ah P' b) ks vs:=do(by induction x with|nil|cons h _ a=>?_);.nil;.cons h a
def LL(x:(tupleKind (ah P w)).is h ks a):(tupleKind (ah P' c)).is h ks a:=do _;{o,its,n,h1,h2,d,b}:=x;{o,its,n,h1,h2,d,Qs b}
def GF(d:A.units<cLine)(x:(tupleKind (ah P w)).is s.heap ks a)(y:(tupleKind (ah P w)).is s.heap ls b):SeqAt.EqAt A s (.ref a) (.ref b) (decide (ks=ls)):=λP' c E Q q=>(tupleKind (ah P' c)).eqBool d (LL x) (LL y) q
def dO.tuple(x:dO P w h ks ls a):∃c d,h.IsTuple a #[.ref c,.ref d]/\(tupleKind (ah P w)).is h ks c/\(tupleKind (ah P w)).is h ls d:=do _;{o,c,d,n,h1,h2,f,e,b}:=x;{c,d,{o,h1,h2,n,f},e,b}
def pE(x:(tupleKind (ah P w)).is h ks a):∃its,h.IsTuple a its/\ItemsAre (ah P w) ks its.toList:=do _;{o,its,n,h1,h2,c,b}:=x;{its,{o,h1,h2,n,c},b}
def O7{ks ls g f:List Key}(k:A.units+1<cLine)(x:dO P w s.heap ks ls a)(y:dO P w s.heap g f b):SeqAt.EqAt A s (.ref a) (.ref b) (decide (KD.two ks ls=KD.two g f)):=do h<|a=b;!h;{rfl,rfl}:=Gi x y;[qI rfl];SeqAt.EqAt.same _;{c,d,o,h1,h2}:=x.tuple;{i,d',n,p,q}:=y.tuple;e:decide (KD.two ks ls=KD.two g f)=((List.range (min (#[Value.ref c,.ref d]:Array MD).size (#[Value.ref i,.ref d']:Array MD).size)).all (λj=>if j=0 then decide (ks=g) else decide (ls=f))&&(#[Value.ref c,.ref d]:Array MD).size==(#[Value.ref i,.ref d']:Array MD).size):=(do¬_=((if 0=0 then decide (ks=g) else decide (ls=f))&&((if 1=0 then decide (ks=g) else decide (ls=f))&&true)&&true);[qF rfl,qB ⋯,mi,mi,jg];0);[e];SeqAt.EqAt.of_refs h (SeqAt.RcAt.tuples o n () λj l m=>?_);by match j,l,m with| 0,_,_=>exact GF (show A.in1.units<cLine from k) h1 p| 1,_,_=>exact GF (show A.in1.units<cLine from k) h2 q
def Cv(h:0<m):((List.range (min m n)).all (λ_=>false)&&m==n)=false:=do e<|m=n;!e;[Nat.min_self];(by cases m with|zero|succ m=>?_);();[nw];2;[show(m==n)=false from beq_eq_false_iff_ne.mpr e,kx]
def Q3(h:0<m):((List.range (min n m)).all (λ_=>false)&&n==m)=false:=do e<|n=m;!e;[Nat.min_self];(by cases n with|zero|succ m=>?_);();[nw];2;[show(n==m)=false from beq_eq_false_iff_ne.mpr e,kx]
def Ir(x:ItemsAre (ah P w) ks vs):∀(j:Nat) v,vs[j]?=!v->(∃i t,v=.int i t)\/∃z t,v=.str z t:=do(by induction x with|nil|cons h _ a=>?_);(j,v,e);-e;(j,v,e);(by cases j with|zero|succ j=>?_);-e;{i,t,_,e}||{z,t,_,e}:=fV (show fP _ _=true from h);.inl ⟨i,t,e⟩;.inr ⟨z,t,e⟩;a j v (do 0<|e)
def QU(r:A.units+1<cLine)(x:dO P w s.heap ks ls a)(y:(tupleKind (ah P w)).is s.heap js b):SeqAt.EqAt A s (.ref a) (.ref b) false:=do h:a≠b:=λz=>(do !z;wR x y);{c,d,q,h1,h2}:=x.tuple;{its,p,u}:=pE y;e:false=((List.range (min (#[Value.ref c,.ref d]:Array MD).size its.size)).all (λ_=>false)&&(#[Value.ref c,.ref d]:Array MD).size==its.size):=(Cv (m:=2) ⋯).symm;[e];SeqAt.EqAt.of_refs h (SeqAt.RcAt.tuples q p () λj o k=>?_);{v,n,_}:=pE h1;{B,l,_}:=pE h2;g:=Ir u j its[j] (do[ym,yw k]);f:A.in1.units<cLine:=r;by match j,o,k,g with| 0,_,_,g => rcases g with⟨i,t,e⟩|⟨z,t,e⟩;rw[e];exact SeqAt.EqAt.tuple_int i t n f;rw[e];exact SeqAt.EqAt.tuple_str z t n f| 1,_,_,g => rcases g with⟨i,t,e⟩|⟨z,t,e⟩;rw[e];exact SeqAt.EqAt.tuple_int i t l f;rw[e];exact SeqAt.EqAt.tuple_str z t l f
def Mt(r:A.units+1<cLine)(y:(tupleKind (ah P w)).is s.heap js a)(x:dO P w s.heap ks ls b):SeqAt.EqAt A s (.ref a) (.ref b) false:=do h:a≠b:=λz=>(do !z;wR x y);{c,d,q,h1,h2}:=x.tuple;{its,p,u}:=pE y;e:false=((List.range (min its.size (#[Value.ref c,.ref d]:Array MD).size)).all (λ_=>false)&&its.size==(#[Value.ref c,.ref d]:Array MD).size):=(Q3 (m:=2) ⋯).symm;[e];SeqAt.EqAt.of_refs h (SeqAt.RcAt.tuples p q () λj k o=>?_);{v,n,_}:=pE h1;{B,l,_}:=pE h2;g:=Ir u j its[j] (do[ym,yw k]);f:A.in1.units<cLine:=r;by match j,o,k,g with| 0,_,_,g => rcases g with⟨i,t,e⟩|⟨z,t,e⟩;rw[e];exact SeqAt.EqAt.int_tuple i t n f;rw[e];exact SeqAt.EqAt.str_tuple z t n f| 1,_,_,g => rcases g with⟨i,t,e⟩|⟨z,t,e⟩;rw[e];exact SeqAt.EqAt.int_tuple i t l f;rw[e];exact SeqAt.EqAt.str_tuple z t l f
def P_(f:A.units+1<cLine)(m:dO P w s.heap ks ls a)(h:Q (bO P w (.two ks ls)) {s with toks:=s.toks+((tupleKind (ah P w)).draws ks+(tupleKind (ah P w)).draws ls+1)}):wpAny (model P w) A (pyHash (.ref a)) Q E s:=do _;{o,c,d,n,j,k,l,h1,h2}:=m;g:s.TypeIs (.ref a) "tuple":={o,j,k};@pyHash;@pyHashByItsType;qA (wpAny_cRoomFor_or (.inr ()) ?_);qA (wpAny_specialOf g F.slot_tuple_hash.lookup ?_);¬wpAny _ _ (if(some (Value.builtin "tuple.__hash__")==!Value.none)=true then _ else _) Q E s;[qB (do[beq_builtin_none];qr)];qA (wpAny_specialOf g F.slot_tuple_hash.lookup ?_);¬wpAny _ _ (callSpecialIfBoundUnlessNone? (.ref a) "__hash__" _ >>= _) Q E s;qA (wpAny_callSpecialIfBoundUnlessNone?_slot g F.slot_tuple_hash (qN F.slot_tuple_hash g F.entry_tuple_hash ?_ (F.args_tuple_hash_1 _)));¬wpAny _ _ (Builtin.Tuple.tupleItemsOf (.ref a) >>= _) _ _ s;qA (wpAny_tupleItemsOf j l ?_);qA ?_;[←mj];wpAny_forIn_list _ (λrest (b:Array Int) s'=>(rest=[.ref c,.ref d]/\b.toList=[]/\s'=s)\/(rest=[.ref d]/\b.toList=[(tupleKind (ah P w)).hash ks]/\s'={s with toks:=s.toks+(tupleKind (ah P w)).draws ks})\/(rest=[]/\b.toList=[(tupleKind (ah P w)).hash ks,(tupleKind (ah P w)).hash ls]/\s'={s with toks:=s.toks+(tupleKind (ah P w)).draws ks+(tupleKind (ah P w)).draws ls})) _ ?_ ?_ _ _ (.inl {O,O,O});(x,rest,b,s',{e,hb,rfl}||{e,hb,rfl}||{e,hb,rfl});-e;qA ((tupleKind (ah P w)).pyHash (show _<cLine by first|exact f|show A.units+1<cLine;exact f) h1 ?_);(by first|exact qE (.inr (.inl ⟨O,do#[hb],O⟩))|exact qA (qE (qE (.inr (.inl ⟨O,do#[hb],O⟩)))));-e;qA ((tupleKind (ah P w)).pyHash (s:={s with toks:=s.toks+(tupleKind (ah P w)).draws ks}) (show _<cLine by first|exact f|show A.units+1<cLine;exact f) h2 ?_);(by first|exact qE (.inr (.inr ⟨O,do#[hb],O⟩))|exact qA (qE (qE (.inr (.inr ⟨O,do#[hb],O⟩)))));-e;(b,s',{e,hb,rfl}||{e,hb,rfl}||{e,hb,rfl});-e;-e;¬wpAny _ _ (retInt (Builtin.Tuple.tupleHashOf b.toList)) _ _ _;[hb];wpAny_ret_mkInt ?_;¬wpAny _ _ (if(decide (-(2:Int) ^ 63<=Builtin.Tuple.tupleHashOf [(tupleKind (ah P w)).hash ks,(tupleKind (ah P w)).hash ls])&&decide (Builtin.Tuple.tupleHashOf [(tupleKind (ah P w)).hash ks,(tupleKind (ah P w)).hash ls]<2 ^ 63))=true then _ else _) Q E _;h:Q (reduceHash (Builtin.Tuple.tupleHashOf [(tupleKind (ah P w)).hash ks,(tupleKind (ah P w)).hash ls])) {s with toks:=s.toks+((tupleKind (ah P w)).draws ks+(tupleKind (ah P w)).draws ls+1)}:=h;(by unfold reduceHash at h);i<|(decide (-(2:Int) ^ 63<=Builtin.Tuple.tupleHashOf [(tupleKind (ah P w)).hash ks,(tupleKind (ah P w)).hash ls])&&decide (Builtin.Tuple.tupleHashOf [(tupleKind (ah P w)).hash ks,(tupleKind (ah P w)).hash ls]<2 ^ 63))=true;[qF i];h←[qF i];qE (by simpa[Nat.add_assoc] using h);[qB i];h←[qB i];qA (wpAny_rule (qE (by simpa[Nat.add_assoc] using h)))
def HC(j:(tupleKind (ah P w)).is s.heap ks a)(h:Q true s):wpAny (model P w) A (eqIsQuiet (m+1) (.ref a)) Q E s:=do _;{o,items,n,e,g,i,hi}:=j;f:s.TypeIs (.ref a) "tuple":={o,e,g};@eqIsQuiet;qA (wpAny_specialOf f F.slot_tuple_eq.lookup ?_);¬wpAny _ _ (isInstance (.ref a) (.type "tuple") >>= _) _ _ s;qA (wpAny_isInstance f isSubtype_tuple_tuple ?_);#[_,Bool.not_true,Bool.false_eq_true,if_false];qA (wpAny_seqItems e i ?_);qA ?_;¬wpAny _ _ (forIn items _ _) _ _ s;[←mj];wpAny_forIn_list _ (λrest r s'=>r.1=none/\s'=s/\∀v∈rest,carriedByValue v=true) _ ?_ ?_ _ _ {O,O,hi.byValue};(v,rest,r,s',{d,rfl,b});[eqIsQuiet_byValue _ (b v qm)];qA (qE ?_);#[_,Bool.not_true,Bool.false_eq_true,if_false];qE {O,O,λu c=>b u (qy _ c)};({k,l},s',{d,rfl,_});(by simp only at d);!d;qE h
def MZ(p:dO P w s.heap ks ls a)(h:Q true s):wpAny (model P w) A (eqIsQuiet 8 (.ref a)) Q E s:=do _;{o,c,d,n,i,k,l,h1,h2}:=p;j:s.TypeIs (.ref a) "tuple":={o,i,k};@eqIsQuiet;qA (wpAny_specialOf j F.slot_tuple_eq.lookup ?_);¬wpAny _ _ (isInstance (.ref a) (.type "tuple") >>= _) _ _ s;qA (wpAny_isInstance j isSubtype_tuple_tuple ?_);#[_,Bool.not_true,Bool.false_eq_true,if_false];qA (wpAny_seqItems i l ?_);qA ?_;¬wpAny _ _ (forIn (#[.ref c,.ref d]:Array MD) _ _) _ _ s;[←mj];wpAny_forIn_list _ (λrest r s'=>r.1=none/\s'=s/\∀v∈rest,v=.ref c\/v=.ref d) _ ?_ ?_ _ _ {O,O,λv t=>do 0<|t};(v,rest,r,s',{f,rfl,b});x:∀{g:Bool->Sv->Prop},g true s'->wpAny (model P w) A (eqIsQuiet 7 v) g E s':=λq=>(do rfl||rfl:=b v qm;HC (m:=6) h1 q;HC (m:=6) h2 q);qA (x ?_);#[_,Bool.not_true,Bool.false_eq_true,if_false];qE ⟨O,O,λu e=>b u (qy _ e)⟩;({y,z},s',{f,rfl,_});(by simp only at f);!f;qE h
theorem dV.inj(a:dV P w h x v)(b:dV P w h y v):x=y:=do(by cases x with|aQ|int i|tup ks|two ks ls=>?_);-a;(by cases y with|aQ|int j|tup ks|two ks ls=>?_);2;{_,e}:=b;-e;{_,e,_}:=b;-e;{_,e,_}:=b;-e;{t,rfl}:=a;(by cases y with|aQ|int j|tup ks|two ks ls=>?_);-b;{_,e}:=b;-e;2;{_,e,_}:=b;-e;{_,e,_}:=b;-e;{p,rfl,q}:=a;(by cases y with|aQ|int j|tup d|two d f=>?_);-b;{_,e}:=b;-e;{_,e,c}:=b;-e;congrArg KD.tup ((tupleKind (ah P w)).inj q c);{_,e,c}:=b;-e;(wR c q).elim;{p,rfl,q}:=a;(by cases y with|aQ|int j|tup d|two d f=>?_);-b;{_,e}:=b;-e;{_,e,c}:=b;-e;(wR q c).elim;{_,e,c}:=b;-e;{rfl,rfl}:=Gi q c;2
def dV.ext(a:dV P w h k v)(x:∀b o,h.get? b=!o->o.cls=.type "tuple"->h'.get? b=!o):dV P w h' k v:=do(by cases k with|aQ|int i|tup ks|two ks ls=>?_);a;a;{p,e,o,its,n,h1,h2,f,s}:=a;{p,e,o,its,n,x _ _ h1 h2,h2,f,s};{p,e,o,c,d,n,h1,h2,f,{m,r,u,y,g,q},{l,B,A,z,j,t}}:=a;{p,e,o,c,d,n,x _ _ h1 h2,h2,f,{m,r,u,x _ _ y g,g,q},{l,B,A,x _ _ z j,j,t}}
def Oa(h:Q 4238894112 {s with toks:=s.toks+1}):wpAny (model P w) A (pyHash .none) Q E s:=do@pyHash;a:s.TypeIs Value.none "NoneType":=rfl;b:[Value.none].any Value.onHeap=false:=rfl;@pyHashByItsType;qA ?_;[cRoomFor,qB (do[b];qr)];qE (qA (wpAny_specialOf a F.slot_NoneType_hash.lookup ?_));¬wpAny _ _ (if(some (Value.builtin "NoneType.__hash__")==!Value.none)=true then _ else _) Q E s;[qB (do[beq_builtin_none];qr)];qA (wpAny_specialOf a F.slot_NoneType_hash.lookup ?_);¬wpAny _ _ (callSpecialIfBoundUnlessNone? .none "__hash__" _ >>= _) Q E s;qA (wpAny_callSpecialIfBoundUnlessNone?_slot a F.slot_NoneType_hash (qN F.slot_NoneType_hash a F.entry_NoneType_hash (show wpAny _ _ (do{ret (←mkInt 4238894112)}) _ _ s from wpAny_ret_mkInt ?_) (F.args_NoneType_hash_1 _)));¬wpAny _ _ (if(decide (-(2:Int) ^ 63<=4238894112)&&decide ((4238894112:Int)<2 ^ 63))=true then _ else _) Q E _;[qF ⋯];qE h
def dV.hash(b:A.units+1<cLine)(a:dV P w s.heap k v)(h:Q (bO P w k) {s with toks:=s.toks+bX P w k}):wpAny (model P w) A (pyHash v) Q E s:=do(by cases k with|aQ|int i|tup ks|two ks ls=>?_);-a;Oa h;{t,rfl}:=a;wpAny_pyHash_int h;{p,rfl,q}:=a;(tupleKind (ah P w)).pyHash (show A.units<cLine from ()) q h;{p,rfl,q}:=a;P_ b q h
def dV.tuple(a:dV P w h (.tup ks) v):∃p its,v=.ref p/\h.IsTuple p its:=do _;{p,e,o,its,n,h1,h2,b,_}:=a;⟨p,its,e,o,h1,h2,n,b⟩
def dV.kD(a:dV P w h (.two ks ls) v):∃p its,v=.ref p/\h.IsTuple p its:=do _;{p,e,q}:=a;{c,d,t,_}:=q.tuple;{p,_,e,t}
def dV.eq(e:A.units+1<cLine)(a:dV P w s.heap x u)(b:dV P w s.heap y v)(h:Q (decide (x=y)) s):wpAny (model P w) A (eqBool u v) Q E s:=do ne:∀{z l:KD},z≠l->decide (z=l)=false:=λq=>decide_eq_false q;d:A.units<cLine:=();(by cases x with|aQ|int i|tup ks|two ks ls=>?_);-a;(by cases y with|aQ|int j|tup ks|two ks ls=>?_);-b;SeqAt.EqAt.same _ _ _ _ _ h;{t,rfl}:=b;h←[ne (do(z);-z)];SeqAt.EqAt.none_int _ _ _ _ _ _ h;{p,its,rfl,q}:=b.tuple;h←[ne (do(z);-z)];SeqAt.EqAt.none_tuple q d _ _ _ _ h;{p,its,rfl,q}:=b.kD;h←[ne (do(z);-z)];SeqAt.EqAt.none_tuple q d _ _ _ _ h;{t,rfl}:=a;(by cases y with|aQ|int j|tup ks|two ks ls=>?_);-b;h←[ne (do(z);-z)];SeqAt.EqAt.int_none _ _ _ _ _ _ h;{t,rfl}:=b;SeqAt.EqAt.int_int _ _ _ _ _ _ _ _ ?_;[show(i==j)=decide (KD.int i=KD.int j) from by by_cases z:i=j <;> simp[z]];h;{p,its,rfl,q}:=b.tuple;h←[ne (do(z);-z)];SeqAt.EqAt.int_tuple _ _ q d _ _ _ _ h;{p,its,rfl,q}:=b.kD;h←[ne (do(z);-z)];SeqAt.EqAt.int_tuple _ _ q d _ _ _ _ h;(by cases y with|aQ|int j|tup c|two c g=>?_);-b;{p,its,rfl,q}:=a.tuple;h←[ne (do(z);-z)];SeqAt.EqAt.tuple_none q d _ _ _ _ h;{t,rfl}:=b;{p,its,rfl,q}:=a.tuple;h←[ne (do(z);-z)];SeqAt.EqAt.tuple_int _ _ q d _ _ _ _ h;{p,rfl,q}:=a;{k,rfl,f}:=b;(tupleKind (ah P w)).eqBool d q f ?_;[show decide (ks=c)=decide (KD.tup ks=KD.tup c) from by by_cases z:ks=c <;> simp[z]];h;{p,rfl,q}:=a;{k,rfl,f}:=b;h←[ne (do(z);-z)];Mt e q f _ _ _ _ h;(by cases y with|aQ|int j|tup c|two c g=>?_);-b;{p,its,rfl,q}:=a.kD;h←[ne (do(z);-z)];SeqAt.EqAt.tuple_none q d _ _ _ _ h;{t,rfl}:=b;{p,its,rfl,q}:=a.kD;h←[ne (do(z);-z)];SeqAt.EqAt.tuple_int _ _ q d _ _ _ _ h;{p,rfl,q}:=a;{k,rfl,f}:=b;h←[ne (do(z);-z)];QU e q f _ _ _ _ h;{p,rfl,q}:=a;{k,rfl,f}:=b;O7 e q f _ _ _ _ h
theorem dV.quiet(a:dV P w s.heap k v)(h:Q true s):wpAny (model P w) A (eqIsQuiet 8 v) Q E s:=do(by cases k with|aQ|int i|tup ks|two ks ls=>?_);-a;qE h;{t,rfl}:=a;qE h;{p,rfl,q}:=a;(tupleKind (ah P w)).quiet q h;{p,rfl,q}:=a;MZ q h
def BG(a:dV P w s.heap k v)(g:∀u∈l,∃c,dV P w s.heap c u)(h:Q false s):wpAny (model P w) A (tableMayTell v l) Q E s:=do@tableMayTell;3;qE h;qA (a.quiet ?_);[qB ⋯];qA (wpAny_forIn_list _ (λr b s'=>s'=s/\b=(none,Unit.unit)/\∀u∈r,∃c,dV P w s.heap c u) _ ?_ ?_ _ _ {O,O,g});(u,r,b,s',{rfl,rfl,d});{c,e}:=d u qm;qA (e.quiet ?_);[qB ⋯];qE {O,O,λx f=>d x (qy _ f)};(b,s',{rfl,rfl,_});qE h
def fD(xs:List (KD×MD×MD))(k:KD):Option Nat:=xs.findIdx? λx=>decide (x.1=k)
def GH(hn:(xs.map (·.1)).Nodup)(h:xs[j]?=!x)(e:x.1=k):fD xs k=!j:=do@fD;[mo];{d,a}:=qk.mp h;{d,do[a,e];0,λi hi=>?_};this:¬xs[i].1=k:=λz=>(do b:(xs.map (·.1))[i]?=!k:=(do[List.getElem?_map,List.getElem?_eq_getElem ()];#[z]);c:(xs.map (·.1))[j]?=!k:=(do[List.getElem?_map,h];#[e]);this:=(mr (do[qj];()) hn).mp (b.trans c.symm);());0<|this
def IA(h:∀(j:Nat) x,xs[j]?=!x->x.1≠k):fD xs k=none:=do@fD;[n0];(x,a);{j,b,e}:=z8.mp a;decide_eq_false (h j x (do[qh b,e]))
def Dg{xs:List (KD×MD×MD)}{k:KD}{es:Array DictEntry}(at':∀j:Nat,es[j]?=(xs[j]?).map (dQ P w))(sz:es.size=xs.length)(hn:(xs.map (·.1)).Nodup){g:Nat->Option (Option Nat)×Option Nat->Sem (ForInStep (Option (Option Nat)×Option Nat))}{R:Option (Option Nat)×Option Nat->Sv->Prop}(B:∀(i:Nat) b a (R':ForInStep (Option (Option Nat)×Option Nat)->Sv->Prop),xs[i]?=!b->(b.1=k->a=none/\R' (.done (!(!i),a)) s/\R' (.yield (none,!i)) s)->(b.1≠k->R' (.yield (none,a)) s)->wpAny (model P w) A (g i (none,a)) R' E s)(M:(∀(j:Nat) x,xs[j]?=!x->x.1≠k)->R (none,none) s)(z:∀(j:Nat) x,xs[j]?=!x->x.1=k->R (!(!j),none) s/\R (none,!j) s) : wpAny (model P w) A (forIn (placesWithHash es.size (λi=>es[i]?.map (·.hash)) (bO P w k)) (none,none) g) R E s:=do has:∀(j:Nat) x,xs[j]?=!x->x.1=k->((es[j]?.map (·.hash))==!(bO P w k))=true:=λj x c e=>(do[at' j,c];¬(some (bO P w x.1)==!(bO P w k))=true;[e];0);one:∀{i j:Nat} {x y:KD×MD×MD},xs[i]?=!x->xs[j]?=!y->x.1=k->y.1=k->i=j:=λ{i j x y} h1 h2 H K=>(do v:(xs.map (·.1))[i]?=!k:=(do[qu,h1];congrArg some H);F:(xs.map (·.1))[j]?=!k:=(do[qu,h2];congrArg some K);(mr (qk.mp v).1 hn).mp (v.trans F.symm));wpAny_forIn_list _ (λrest b s'=>s'=s/\∃i a,b=(none,a)/\rest=(List.range' i (es.size - i)).filter (λi=>(es[i]?.map (·.hash))==!(bO P w k))/\i<=es.size ∧ ((a=none/\∀(j:Nat) x,j<i->xs[j]?=!x->x.1≠k)\/∃j x,a=!j/\j<i/\xs[j]?=!x/\x.1=k)) _ ?_ ?_ _ _ {O,0,none,O,do[placesWithHash,bc,ju],qv _,.inl {O,λj x c=>absurd c (vj _)}};(x,rest,b,s',{rfl,i,a,rfl,t,hi,q});{L,C,J,l,h}:=filter_range'_cons _ _ _ _ _ t.symm;o:x<es.size:=();d:rest=(List.range' (x+1) (es.size - (x+1))).filter (λi=>(es[i]?.map (·.hash))==!(bO P w k)):=(do[h];(by congr 2);());m:xs[x]?=!(xs[x]'()):=qh _;(by generalize xs[x]'()=b at m);r:∀(j:Nat) y,i<=j->j<x->xs[j]?=!y->y.1≠k:=λj y h1 h2 c e=>(do this:=l j h1 h2;this←[has j y c e];absurd this ⋯);B x b a _ m (λe=>?_) λe=>?_;{rfl,f}||{j,y,_,c,p,n}:=q;⟨O,(z x b m e).1,O,x+1,!x,O,d,o,.inr ⟨x,b,O,yo x,m,e⟩⟩;this:=one p m n e;();{O,x+1,a,O,d,o,?_};{h0,f}||{j,y,h1,c,p,n}:=q;.inl ⟨h0,λj y G c=>?_⟩;u<|j<i;f j y u c;I<|j<x;r j y () I c;this:j=x:=();!this;c←[m];-c;e;.inr {j,y,h1,(),p,n};(b,s',{rfl,i,a,rfl,t,hi,q});{rfl,f}||{j,y,rfl,c,p,n}:=q;M λj x c e=>?_;u<|j<i;f j x u c e;D:j<es.size:=(do[sz];(qk.mp c).1);this:=mw.mp t.symm j (bd.mpr {(),()});this (has j x c e);(z j y p n).2
def Iu{es:Array DictEntry}(I:A.units+1<cLine)(a:dV P w s.heap k v)(u:s.heap.get? d=!o)(C:o.data=.dict es ep)(at':∀j:Nat,es[j]?=(xs[j]?).map (dQ P w))(sz:es.size=xs.length)(n:∀x∈xs,dV P w s.heap x.1 x.2.1)(hn:(xs.map (·.1)).Nodup)(B:Q (fD xs k) s):wpAny (model P w) A (dictWalkPlain d v (bO P w k) es (placesWithHash es.size (λi=>es[i]?.map (·.hash)) (bO P w k))) Q E s:=do@dictWalkPlain;has:∀(j:Nat) x,xs[j]?=!x->x.1=k->((es[j]?.map (·.hash))==!(bO P w k))=true:=λj x c e=>(do[at' j,c];¬(some (bO P w x.1)==!(bO P w k))=true;[e];0);qA (wpAny_forIn_list _ (λrest b s'=>s'=s/\b=(none,Unit.unit)/\∃i,rest=(List.range' i (es.size - i)).filter (λi=>(es[i]?.map (·.hash))==!(bO P w k))/\i<=es.size/\∀(j:Nat) x,j<i->xs[j]?=!x->x.1≠k) _ ?_ ?_ _ _ {O,O,0,do[placesWithHash,bc,ju],qv _,λj x c=>absurd c (vj _)});(x,rest,b,s',{rfl,rfl,i,q,hi,f});{K,D,r,h,g}:=filter_range'_cons _ _ _ _ _ q.symm;p:x<es.size:=();l:xs[x]?=!(xs[x]'()):=qh _;(by generalize xs[x]'()=b at l);m:es[x]?=!(dQ P w b):=(do[at' x,l];2);more:b.1≠k->∃i,rest=(List.range' i (es.size - i)).filter (λi=>(es[i]?.map (·.hash))==!(bO P w k))/\i<=es.size/\∀(j:Nat) x,j<i->xs[j]?=!x->x.1≠k:=λe=>{x+1,do[g];(by congr 2);(),p,λj y H c=>do t<|j<i;f j y t c;J<|j<x;(z);this:=h j () J;this←[has j y c z];absurd this ⋯;this:j=x:=();!this;c←[l];-c;e};[m];(by try dsimp only);G:((dQ P w b).hash==bO P w k)=true:=(do this:=r;this←[m];0<|this);[qF G];qA (wpAny_dictEpoch u C (qA ((n b (qw l)).eq I a (qA (wpAny_dictEpoch u C ?_)))));(by try dsimp only);[qB (do 0)];e<|b.1=k;[qI e,qF rfl];qA (wpAny_rule (qE (qE ?_)));[←GH hn l e];B;[decide_eq_false e,qB ⋯];qA (wpAny_rule (qE {O,O,more e}));(b,s',{rfl,rfl,i,q,hi,f});qE ?_;[←IA (xs:=xs) (k:=k) λj x c e=>?_];B;t<|j<i;f j x t c e;F:j<es.size:=(do[sz];(qk.mp c).1);mw.mp q.symm j (bd.mpr {(),()}) (has j x c e)
def AX{es:Array DictEntry}(K:A.units+1<cLine)(a:dV P w s.heap k v)(C:s.heap.get? d=!o)(D:o.data=.dict es ep)(L:es.toList=xs.map (dQ P w))(c:∀x∈xs,dV P w s.heap x.1 x.2.1)(hn:(xs.map (·.1)).Nodup)(H:Q (fD xs k) s):wpAny (model P w) A (dictFind d v (bO P w k)) Q E s:=do at':∀j:Nat,es[j]?=(xs[j]?).map (dQ P w):=λj=>(do[←ym,L,qu]);sz:es.size=xs.length:=(do[←zx,L,qj]);key:∀(j:Nat) x,xs[j]?=!x->x.1=k->((es[j]?.map (·.hash))==!(bO P w k))=true:=λj x B e=>(do[at' j,B];¬(some (bO P w x.1)==!(bO P w k))=true;[e];0);mem:∀e∈es,∃x∈xs,e=dQ P w x:=λe m=>(do _;{x,g,z}:=qf.mp (show e∈xs.map (dQ P w) from L▸j5.mpr m);{x,g,z.symm});O:∀z t,v≠.str z t:=λz t e=>(do a←[e];(by cases k with|aQ|int i|tup ks|two ks ls=>?_);-a;{_,q}:=a;-q;{_,q,_}:=a;-q;{_,q,_}:=a;-q);F:¬(es.any λe=>e.key==v&&e.hash != bO P w k)=true:=(do[←Array.any_toList,yz];({e,m,N});{x,g,rfl}:=mem e (j5.mp m);N←[zt];V:x.2.1=v:=eq_of_beq N.1;I:=c x g;I←[V];X:=I.inj a;T:(bO P w x.1 != bO P w k)=true:=N.2;T←[X];T←0);st:∀u∈(placesWithHash es.size (λi=>es[i]?.map (·.hash)) (bO P w k)).filterMap (λi=>es[i]?.map (·.key)),∃Z,dV P w s.heap Z u:=λu M=>(do _;{i,_,hi}:=jo.mp M;hi←[at' i];(by cases e:xs[i]? with|none|some x=>?_);hi←[e];-hi;hi←[e];I:x.2.1=u:=(by simpa[dQ] using hi);{x.1,I▸c x (qw e)});look:∀(x:Nat) (b:KD×MD×MD) {R:Bool->Sv->Prop},xs[x]?=!b->R (decide (b.1=k)) s->wpAny (model P w) A (eqBool b.2.1 v) R E s:=λx b R g r=>(c b (qw g)).eq K a r;l:(∀(j:Nat) x,xs[j]?=!x->x.1≠k)->Q none s:=λh=>(do[←IA h];H);f:∀(j:Nat) x,xs[j]?=!x->x.1=k->Q (!j) s:=λj x B e=>(do[←GH hn B e];H);@dictFind;(by try with_reducible refine qK ?_);qA (wpAny_dictEntries C D ?_);vc:v=.none\/(∃i t,v=.int i t)\/∃p,v=.ref p:=(do(by cases k with|aQ|int i|tup ks|two ks ls=>?_);.inl a;.inr (.inl {i,a});.inr (.inr {a.choose,a.choose_spec.1});.inr (.inr {a.choose,a.choose_spec.1}));G<|(v::(placesWithHash es.size (λi=>es[i]?.map (·.hash)) (bO P w k)).filterMap (λi=>es[i]?.map (·.key))).all carriedByValue=true;rfl||{i,t,rfl}||{p,rfl}:=vc;(by dsimp only);[qF G];Iu K a C D at' sz c hn H;(by dsimp only);[qF G];Iu K a C D at' sz c hn H;absurd G (do#[carriedByValue]);by rcases vc with rfl|⟨i,t,rfl⟩|⟨p,rfl⟩ <;> dsimp only <;> rw[qB G] <;> (try rw[qB F])<;> refine wpAny_ite_split (λ_=>?_) (λ_=>?_) <;> (first|refine qA (qE ?_)|refine qA (BG a st ?_))<;> (rw[qB (do 0)];refine qA (Dg at' sz hn (λi b Y R' g y n=>?_) (λh=>qE (l h)) λj x B e=>{qE (f j x B e),qE (f j x B e)});have S:es[i]?=!(dQ P w b):=(do[at' i,g];2);rw[S];dsimp only;by_cases J:((dQ P w b).hash==bO P w k)=true;rw[qF J];refine qA (wpAny_dictEpoch C D (qA (look i b g (qA (wpAny_dictEpoch C D ?_)))));rw[qB (do 0)];by_cases e:b.1=k;obtain⟨rfl,W,U⟩:=y e;rw[qI e,qF rfl,qB ⋯];refine qA (wpAny_rule ?_);split;exact qE W;exact qE U;rw[decide_eq_false e,qB ⋯];refine qA (wpAny_rule ?_);rw[qB (do 0)];exact qE (n e);rw[qB J];exact qE (n λe=>J (do¬(bO P w b.1==bO P w k)=true;[e];0)))
end
section
variable {α β:Type}
def vG(kvs:List (KD×α×β))(k:KD):Option β:=(kvs.find? λe=>decide (e.1=k)).map (·.2.2)
def pG(kvs:List (KD×α×β))(k:KD)(a:α)(v:β):List (KD×α×β):=if(vG kvs k).isSome=true then kvs.map (λe=>if e.1=k then(e.1,e.2.1,v) else e) else kvs++[(k,a,v)]
def pQ{kvs:List (KD×α×β)}{k:KD}{i:Nat}{e:KD×α×β}(hn:(kvs.map (·.1)).Nodup)(h:kvs[i]?=!e)(a:e.1=k):vG kvs k=!e.2.2:=do@vG;(by induction kvs generalizing i with|nil|cons x r b=>?_);-h;hn←[zn,z6];[yd];(by cases i with|zero|succ i=>?_);-h;[qI a];2;h':r[i]?=!e:=(do 0<|h);c:¬x.1=k:=λz=>hn.1 (do[z,←a];qf.mpr {e,qw h',O});[decide_eq_false c];b hn.2 h'
def mD{kvs:List (KD×α×β)}{k:KD}(h:∀e∈kvs,e.1≠k):vG kvs k=none:=do@vG;[jw.mpr λe a=>do[decide_eq_true_eq];h e a];2
def Km(h:vG kvs k=!v):∃(i:Nat) (e:KD×α×β),kvs[i]?=!e/\e.1=k/\e.2.2=v:=do(by unfold vG at h);{e,a,rfl}:=wj.mp h;{i,hi,b}:=z8.mp (jx a);{i,e,do[List.getElem?_eq_getElem hi,b],do 0<|List.find?_some a,O}
def nM{kvs:List (KD×α×β)}{k:KD}(h:vG kvs k=none):∀e∈kvs,e.1≠k:=λe a z=>do(by unfold vG at h);h←[Option.map_eq_none_iff,jw];h e a (qI z)
def eL(kvs:List (KD×α×β))(k a:KD)(m:α)(v:β):vG (pG kvs k m v) a=if a=k then some v else vG kvs a:=do@pG;g<|(vG kvs k).isSome=true;[qF g];{u,i}:=kh.mp g;(by clear g;unfold vG at *;induction kvs with|nil|cons x r n=>?_);i←0;[zn,yd];(by rw[yd]at i ⊢);f<|x.1=k;[qF f];c<|a=k;!c;[qF rfl];#[f];[qB c];this:¬x.1=a:=λz=>c (z.symm.trans f);#[_,this,decide_false];(by clear i n;induction r with|nil|cons y r h=>?_);2;[zn,yd,yd];l<|y.1=k;b:¬y.1=a:=λz=>c (z.symm.trans l);[qF l];#[_,b,decide_false];h;[qB l];b<|y.1=a;#[b];#[_,b,decide_false];h;[qB f];i←#[_,f,decide_false];d<|x.1=a;this:¬a=k:=λz=>f (d.trans z);[qB this];#[d];#[_,d,decide_false];n i;[qB g];j:=nM (kvs:=kvs) (k:=k) (do(by cases e:vG kvs k with|none|some u=>?_);2;g←[e];absurd rfl g);@vG;[List.find?_append];c<|a=k;!c;[qF rfl,jw.mpr λe o=>do[decide_eq_true_eq];j e o];0;[qB c];(by cases e:List.find? (λe=>decide (e.1=a)) kvs with|some x|none=>?_);2;this:¬k=a:=λz=>c z.symm;#[this]
def Nw(kvs:List (KD×α×β))(k:KD)(a:α)(v:β):(pG kvs k a v).map (·.1)=if(vG kvs k).isSome=true then kvs.map (·.1) else kvs.map (·.1)++[k]:=do@pG;3;[z9];yu λe _=>?_;¬(if e.1=k then(e.1,e.2.1,v) else e).1=e.1;(by split <;> rfl);[z7];2
def iN(kvs:List (KD×α×β))(k:KD)(a:α)(v:β):(pG kvs k a v).length<=kvs.length+1:=do@pG;3;[qj];();[qi,qt];qe _
def AE{kvs:List (KD×α×β)}{k:KD}{a:α}{v:β}(h:(kvs.map (·.1)).Nodup):((pG kvs k a v).map (·.1)).Nodup:=do[Nw];3;h;(by rename_i b);Cm h λc=>?_;{e,d,rfl}:=qf.mp c;nM (kvs:=kvs) (k:=e.1) (do(by cases f:vG kvs e.1 with|none|some u=>?_);2;b←[f];absurd rfl b) e d rfl
end
section
variable {P:Program}{w:World}{A:Around}{E:KE}{s:Sv}
def cA(P:Program)(w:World)(h:Heap)(d:Sx)(xs:List (KD×MD×MD)):Prop := ∃o es ep,h.get? d=!o/\o.ExactDict/\o.data=.dict es ep/\es.toList=xs.map (dQ P w)/\(∀x∈xs,dV P w h x.1 x.2.1)/\(xs.map (·.1)).Nodup
def cA.typeIs(g:cA P w s.heap d xs):s.TypeIs (.ref d) "dict":=let⟨o,_,_,a,b,_⟩:=g;{o,a,b.1}
def Fp(h:fD xs k=!j):∃x,xs[j]?=!x/\x.1=k:=do(by unfold fD at h);h←[mo];{a,h1,_}:=h;{xs[j],List.getElem?_eq_getElem a,do 0<|h1}
def CO(h:fD xs k=none):∀e∈xs,e.1≠k:=λe a=>do(by unfold fD at h);h←[n0];0<|h e a
def Cp(l:A.units+1<cLine)(a:dV P w s.heap k v)(g:cA P w s.heap d xs)(h:Q (vG xs k) {s with toks:=s.toks+bX P w k}):wpAny (model P w) A (dictGet d v) Q E s:=do _;{o,es,ep,m,_,f,c,b,hn}:=g;@dictGet;(by try with_reducible refine qK ?_);qA (a.hash l (qA (AX (s:={s with toks:=s.toks+bX P w k}) l a m f c b hn ?_)));(by cases e:fD xs k with|none|some j=>?_);h←[mD (CO e)];qE h;{x,i,ex}:=Fp e;h←[pQ hn i ex];qA (wpAny_dictEntries (s:={s with toks:=s.toks+bX P w k}) m f ?_);[←ym,c,qu,i];qE h
def Qd{xs:List (KD×MD×MD)}{k:KD}{v:MD}{j:Nat}{x:KD×MD×MD}(hn:(xs.map (·.1)).Nodup)(a:xs[j]?=!x)(ex:x.1=k) : (xs.map (dQ P w)).modify j (λe=>{e with val:=v})=(xs.map λe=>if e.1=k then(e.1,e.2.1,v) else e).map (dQ P w):=do(by apply yc);(i);[List.getElem?_modify,qu,qu,qu];(by cases hi:xs[i]? with|none|some y=>?_);0;e<|j=i;!e;hi←[a];-hi;#[ex,dQ];b:¬y.1=k:=λz=>e ((List.getElem?_inj (do[List.length_map];(List.getElem?_eq_some_iff.mp a).1) hn).mp (do[List.getElem?_map,List.getElem?_map,a,hi];#[ex,z]));#[e,b]
def uQ{es:Array DictEntry}{ep:Nat}(i:h.get? d=!o)(f:o.ExactDict)(g:Heap.SameBut d h h')(a:dV P w h k v):dV P w h' k v:=a.ext λb o' e c=>(g.2 b (λz=>do e←[z,i];-e;c←[f.1];absurd c ⋯)).trans e
def DQ{v val:MD}(q:A.units+1<cLine)(a:dV P w s.heap k v)(g:cA P w s.heap d xs)(hsz:xs.length<=sizeLine)(r:∀h',cA P w h' d (pG xs k v val)->Heap.SameBut d s.heap h'->Q Unit.unit {s with heap:=h',toks:=s.toks+bX P w k}):wpAny (model P w) A (dictSet d v val) Q E s:=do _;{o,es,ep,c,i,f,m,h,hn}:=g;sz:es.size=xs.length:=(do[←zx,m,qj]);keep:∀h',Heap.SameBut d s.heap h'->∀x∈pG xs k v val,dV P w h' x.1 x.2.1:=λh' p x b=>(do(by unfold pG at b;split at b);{y,t,rfl}:=qf.mp b;this:=uQ (es:=es) (ep:=ep) c i p (h y t);(by split <;> exact this);b||b:=zh.mp b;uQ (es:=es) (ep:=ep) c i p (h x b);[qx.mp b];uQ (es:=es) (ep:=ep) c i p a);@dictSet;(by try with_reducible refine qK ?_);qA (a.hash q ?_);@dictSetHashed;(by try with_reducible refine qK ?_);qA (AX (s:={s with toks:=s.toks+bX P w k}) q a c f m h hn ?_);(by cases e:fD xs k with|none|some j=>?_);n:=mD (CO e);qA (wpAny_rule (wpAny_updateDictKeys (hz:=do()) (s:={s with toks:=s.toks+bX P w k}) c f (r _ {_,_,ep+1,Heap.get?_update_self _ c (Obj.isFreed_of_dict (Obj.data_mapDictKeys f _)),i.mapDictKeys _,Obj.data_mapDictKeys f _,?_,keep _ (Heap.SameBut.update ..),AE hn} (Heap.SameBut.update ..))));@pG;[n,qB ⋯];#[m,dQ];{x,b,ex}:=Fp e;n:=pQ hn b ex;qA (wpAny_rule (qA (wpAny_updateDict (s:={s with toks:=s.toks+bX P w k}) c f (wpAny_point (r _ {_,_,ep,Heap.get?_update_self _ c (Obj.isFreed_of_dict (Obj.data_mapDict f _)),i.mapDict _,Obj.data_mapDict f _,?_,keep _ (Heap.SameBut.update ..),AE hn} (Heap.SameBut.update ..))))));@pG;[n,qF (show(!x.2.2).isSome=true from rfl)];this:=Qd (P:=P) (w:=w) (v:=val) hn b ex;this←[←m];{l}:=es;0<|this
end
abbrev GP(H:Hp):KD×V×V->KD×MD×MD->Prop:=λp q=>p.1=q.1/\GK H p.1 p.2.1/\RelV p.2.1 q.2.1/\RelV p.2.2 q.2.2
section
variable {X:Cx}{pins:List (Sx×Obj)}{σ:St}{H:Hp}{s:Sv}{a:Sx}{y v:V}{u r:MD}{k:KD}{kvs:List (KD×V×V)}{A:Around}{E:KE}
def GK.is(I:Inv X pins σ H s)(g:GK H k y)(a:RelV y u):dV X.prog X.w s.heap k u:=do(by cases k with|aQ|int i|tup ks|two ks ls=>?_);-g;a;-g;a;{b,rfl,e}:=g;{b,a,pX I.aR e};{b,c,d,rfl,e,f,j}:=g;{its,l,{o,h,r,n,q},_}:=I.tuple (aV.of e);{v,t,rfl,m,p}:=l.two;-m;-p;{b,a,o,c,d,n,h,r,q,pX I.aR f,pX I.aR j}
theorem LF:∀{l:List (KD×V×V)} {m:List (KD×MD×MD)},Paired F l m->∀x∈m,∃p∈l,F p x|_,_,.nil,x,h=>nomatch h|_,_,.cons f t,x,h=>do rfl||h:=q0.mp h;⟨_,qm,f⟩;{p,hp,q}:=LF t x h;{p,qy _ hp,q}
theorem o8:∀{l:List (KD×V×V)} {m:List (KD×MD×MD)},Paired (GP H) l m->e_ (vG l k) (vG m k)|_,_,.nil=>trivial|_,_,.cons (a:=p) (b:=q) f t=>do c:=o8 t;(by unfold vG at c ⊢);[yd,yd,←f.1];e<|p.1=k;[qI e];f.2.2.2;[decide_eq_false e];c
theorem HM(c:RelV v r):∀{l:List (KD×V×V)} {m:List (KD×MD×MD)},Paired (GP H) l m->Paired (GP H) (l.map λe=>if e.1=k then(e.1,e.2.1,v) else e) (m.map λe=>if e.1=k then(e.1,e.2.1,r) else e)|_,_,.nil=>.nil|_,_,.cons (a:=p) (b:=q) f t=>do .cons ?_ (HM c t);¬GP H (if p.1=k then(p.1,p.2.1,v) else p) (if q.1=k then(q.1,q.2.1,r) else q);[←f.1];3;{O,f.2.1,f.2.2.1,c};f
def vJ(t:Paired (GP H) l m)(g:GK H k y)(b:RelV y u)(a:RelV v r):Paired (GP H) (pG l k y v) (pG m k u r):=do e:(vG l k).isSome=(vG m k).isSome:=(o8 t).fJ;@pG;[e];3;HM a t;Paired.snoc t {O,g,b,a}
theorem rK:∀{l:List (KD×V×V)} {m:List (KD×MD×MD)},Paired (GP H) l m->l.length=m.length|_,_,.nil=>rfl|_,_,.cons _ t=>do[zd,zd,rK t]
def eE(I:Inv X pins σ H s)(e:Rd H a (.dG kvs)):kvs.length<=sizeLine/\(a==sysModules)=false/\∃xs,Paired (GP H) kvs xs/\cA X.prog X.w s.heap a xs:=do _;{z,y,xs,r,o,es,ep,h1,h2,g,c,b}:=(show aS X.prog X.w H s.heap a (.dG kvs) from e.ok I.aR);{z,y,xs,r,o,es,ep,h1,h2,g,c,λx d=>?_,b};{p,hp,f}:=LF r x d;[←f.1];f.2.1.is I f.2.2.1
def Nv(n:A.units+2<cLine)(I:Inv X pins σ H s)(e:Rd H a (.dG kvs))(g:GK H k y)(l:vG kvs k=!v)(j:RelV y u)(h:∀b s',Inv X pins σ H s'->RelV v b->Q b s') : wpAny (model X.prog X.w) A (getItem (.ref a) u) Q E s:=do _;{z,m,xs,f,c}:=eE I e;{b,i,d}:=e_.some_of (v:=v) (o:=vG xs k) (do[←l];o8 f);@getItem;(by try with_reducible refine qK ?_);qA (wpAny_sequenceKey c.typeIs ⋯ (qA (wpAny_callSpecial?_slot (name:=Str.ofString "__getitem__") c.typeIs F.slot_dict_getitem (qN F.slot_dict_getitem c.typeIs F.entry_dict_getitem ?_ (F.args_dict_getitem_2 _ _)))));¬wpAny (model X.prog X.w) _ (dictGet a u >>= _) _ _ s;qA (Cp (show A.in1.units+1<cLine from(do¬A.units+1+1<cLine;())) (g.is I j) c ?_);[i];qE {b,O,qE (h b _ (I.tok _) d)}
def Ih(l:A.units+2<cLine)(I:Inv X pins σ H s)(e:Rd H a (.dG kvs))(g:GK H k y)(j:RelV y u)(h:∀s',Inv X pins σ H s'->Q (vG kvs k).isSome s') : wpAny (model X.prog X.w) A (contains (.ref a) u) Q E s:=do _;{z,i,xs,d,b}:=eE I e;c:(vG kvs k).isSome=(vG xs k).isSome:=(o8 d).fJ;@contains;(by try with_reducible refine qK ?_);qA (wpAny_specialOf b.typeIs F.slot_dict_contains.lookup ?_);¬wpAny (model X.prog X.w) A (if(some (Value.builtin "dict.__contains__")==!Value.none)=true then _ else _) _ E s;[qB (by rw[beq_builtin_none];decide)];qA (wpAny_callSpecialUnlessNone?_slot (name:=Str.ofString "__contains__") b.typeIs F.slot_dict_contains (qN F.slot_dict_contains b.typeIs F.entry_dict_contains ?_ (F.args_dict_contains_2 _ _)));¬wpAny (model X.prog X.w) _ (dictGet a u >>= _) _ _ s;qA (Cp (show A.in1.units+1<cLine from(do¬A.units+1+1<cLine;())) (g.is I j) b ?_);(by cases f:vG xs k with|some p|none=>?_);c←[f];qE {Value.bool true,O,wpAny_truthy_bool ?_};this:=h _ (I.tok (s.toks+bX X.prog X.w k));this←[c];this;c←[f];¬wpAny (model X.prog X.w) _ (Builtin.Dict.pendingKey? a u >>= _) _ _ _;qA (wpAny_pendingKey_other i (qE {Value.bool false,O,wpAny_truthy_bool ?_}));this:=h _ (I.tok (s.toks+bX X.prog X.w k));this←[c];this
def Pf(D:A.units+2<cLine)(I:Inv X pins σ H s)(e:H a=!(.dG kvs))(g:GK H k y)(G:kvs.length<sizeLine)(m:RelV y u)(o:RelV v r)(h:∀s',Inv X pins σ (upd H a (.dG (pG kvs k y v))) s'->Q Unit.unit s') : wpAny (model X.prog X.w) A (setItem (.ref a) u r) Q E s:=do _;{z,t,xs,c,d}:=eE I (.inl e);@setItem;(by try with_reducible refine qK ?_);qA (wpAny_sequenceKey d.typeIs ⋯ (qA (wpAny_callSpecial?_slot (name:=Str.ofString "__setitem__") d.typeIs F.slot_dict_setitem (qN F.slot_dict_setitem d.typeIs F.entry_dict_setitem ?_ (F.args_dict_setitem_3 _ _ _)))));¬wpAny (model X.prog X.w) _ (Builtin.Dict.notOrdered "__setitem__" {[.ref a,u,r],[]} >>= _) _ _ s;qA (wpAny_notOrdered_dict d.typeIs ?_);¬wpAny (model X.prog X.w) _ (dictSet a u r >>= _) _ _ s;qA (DQ (show A.in1.units+1<cLine from(do¬A.units+1+1<cLine;())) (g.is I m) d (do[←rK c];z) λh' i f=>qE {Value.none,O,qE (h _ ?_)});{q,es,ep,l,h2,x,B,_,C}:=i;n:=iN kvs k y v;pN I (do[e];True.intro) f {q,l} {(),t,_,Paired.k_ (vJ c g m o) λp q z=>{z.1,z.2.1.cQ λb xs j=>?_,z.2.2},q,es,ep,l,h2,x,B,C};[ak (oE j e (λz=>nomatch z))];j
end
inductive xy(Q:VK)(x y:V)(H2:Hp):Prop
 |mk(a kvs k v:_)(_:x=.ref a)(_:Rd H2 a (.dG kvs))(_:GK H2 k y)(_:vG kvs k=!v)(_:Q v H2)
def BZ(td ty:TE):TE:=λσ H Q=>td σ H λx H1=>ty σ H1 λy H2=>xy Q x y H2
inductive Hg(neg:Bool)(y x:V)(H:Hp)(Q:VK):Prop
 |mk(a kvs k:_)(_:x=.ref a)(_:Rd H a (.dG kvs))(_:GK H k y)(_:Q (.bl (if neg then not (vG kvs k).isSome else(vG kvs k).isSome)) H)
inductive xI(D:Ends)(σ:St)(v x y:V)(H3:Hp):Prop
 |mk(a kvs k:_)(_:x=.ref a)(_:H3 a=!(.dG kvs))(_:GK H3 k y)(_:kvs.length<sizeLine)(_:D.nx σ (upd H3 a (.dG (pG kvs k y v))))
def Ea(td ty tv:TE):TS:=λD σ H=>tv σ H λv H1=>td σ H1 λx H2=>ty σ H2 λy a=>xI D σ v x y a
section
variable {X:Cx}{o i e value:Expr}{pos pos' tpos:Pos}{td ty tv:TE}
def dD(n:X.A.units+2<cLine)(w:PE X o td)(hi:PE X i ty)(m:Bx i):PE X (.Subscript o i pos) (BZ td ty):=do _;{?_};(pins,s,σ,H,Q,I,h);HX PySem.F.slot_dict_getitem.lookup m (bI (w pins s σ H _ I h) λu j ⟨x,H1,p,q,t⟩=>bI (hi pins j σ H1 _ p t) λD s2 ⟨y,H2,c,z,a,kvs,k,v,ex,d,g,l,r⟩=>?_);!ex;(by obtain rfl:u=Value.ref a:=q);{_,_,xs,_,f}:=eE c d;{f.typeIs,Nv n c d g l z λB C e b=>{v,H2,e,b,r}}
def p_(c:X.A.units+2<cLine):dm X (compareOp .In) (Hg false):=do(pins,s,σ,H,x,y,v,u,Q,I,d,f,h);{a,kvs,k,rfl,e,g,q}:=h;-f;¬wpAny (model X.prog X.w) X.A (do{return Value.bool (←contains (.ref a) v)}) _ _ s;qA (Ih c I e g d λs' b=>qE {.bl _,H,b,O,q})
def xO(c:X.A.units+2<cLine):dm X (compareOp .NotIn) (Hg true):=do(pins,s,σ,H,x,y,v,u,Q,I,d,f,h);{a,kvs,k,rfl,e,g,q}:=h;-f;¬wpAny (model X.prog X.w) X.A (do{return Value.bool (not (←contains (.ref a) v))}) _ _ s;qA (Ih c I e g d λs' b=>qE {.bl _,H,b,O,q})
def j1(p:X.A.units+2<cLine)(q:PE X o td)(hi:PE X i ty)(l:PE X value tv)(n:swapsWith value (!(.Subscript o i pos')) pos.line X.env=pure false) : PS X (.Assign [.Subscript o i pos'] value pos) (Ea td ty tv):=do _;{?_};(pins,s,σ,H,D,I,h);wpAny_Assign_Subscript (bI (l pins s σ H _ I h) λr m ⟨v,H1,t,d,z⟩=>bI (q pins m σ H1 _ t z) λu s2 ⟨x,H2,B,w,c⟩=>bI (hi pins s2 σ H2 _ B c) λK F ⟨y,J,C,f,a,kvs,k,ex,e,g,E,j⟩=>?_) n;!ex;(by obtain rfl:u=Value.ref a:=w);Pf p C e g E f d λG b=>{σ,_,b,j}
def Kl:TE:=λ_ H Q=>∀p H',H p=none->af H H'->H' p=!(.dG [])->Q (.ref p) H'
def G2(h:Heap)(a:sysModules<h.objs.size):aS P w H (h.push {cls:=.type "dict",data:=.dict #[]}) h.objs.size (.dG []) := {qv _,beq_eq_false_iff_ne.mpr (Ne.symm (qp a)),[],.nil,_,#[],0,qL _ rfl,{O,O,O},O,O,vi}
def jH:PE X (.Dict [] [] pos) Kl:={λpins s σ H Q I h => wpAny_Dict_empty {.ref ↑s,_,I.laid (a:=↑s) (o:=.dG []) (t':=s.toks) (λ_ _ q=>qH _ q) (qe _) (G2 s.heap I.kK),O,h _ _ (I.aR.fresh (qe _)) (af.new (I.aR.fresh (qe _))) aB}}
end
def MW:typeLookup (.type "list") "keys"=pure none:=by rw[typeLookup_type,builtinLookup_eq_fast];kernel_rfl
section
variable {prog:Program}{w:World}{A:Around}{E:KE}
def QW(f:s.heap.get? a=some {cls:=.type "list",dict:=none,data:=.seq xs k,slots:=sl})(l:A.handled=none)(h:∀h' tk,fR s.heap h'->Q none {s with heap:=h',toks:=tk}):wpAny (model prog w) A (getAttr? (.ref a) "keys") Q E s:=do _;{hp,g,d,tk,j}:=s;i:∀c,(⟨hp,g,d,c,j⟩:Sv).TypeIs (.ref a) "list":=λ_=>{_,f,O};o:=sub_AttributeError;p:=F.slot_list_getattribute.lookup;q:=F.slot_list_getattribute.bind (.ref a);r:=am_list_getattr_none;z:(Str.ofString "keys").length+100<=sizeLine:=(do this:=cG (n:=1000) (qe _);e:(Str.ofString "keys").length=4:=rfl;());(by unfold getAttr? getAttrBy? getAttrBy;repeat any_goals first|assumption|exact i _|(with_reducible show wpAny _ _ (call (Value.builtin "list.__getattribute__") _ _) _ _ _);refine call_meets F.slot_list_getattribute (i _) am_entry_list_getattribute (F.args_list_getattribute_2 _ _) (meets_getattribute_miss_list a xs k sl "keys" _ MW ∅ z) ⟨f,l,λh' c e b=>?_⟩|wp_step);{t',t,m}:=b.there;¬wpAny (model prog w) A (getattributeRaised _ _ _ _ _ _ _) _ _ _;@getattributeRaised;(by repeat any_goals first|assumption|wp_step);h _ _ b.keeps
end
def Hh:entryFor table "dict.update.loop"=some Builtin.«dict.update.loop»:=entryFor_of_tree (by kernel_rfl)
def vZ:plainId "dict.update.loop"=true:=∅
def GN(h h':Heap):Prop:=∀b o,h.get? b=!o->o.cls=.type "tuple"->h'.get? b=!o
section
variable {P:Program}{w:World}{A:Around}
def Oo(a:s.heap.get? b=!o)(c:o.data=.seq xs n)(q:Q (!xs) s):wpAny M A (seqItems? (.ref b)) Q E s:=do@seqItems?;qA (wpAny_load a ?_);[c];qE q
def putAll{α β:Type}(xs:List (KD×α×β)):List (KD×α×β)->List (KD×α×β)|[]=>xs|e::r=>putAll (pG xs e.1 e.2.1 e.2.2) r
def QT{α β:Type}(ps:List (KD×α×β)):∀xs,(putAll xs ps).length<=xs.length+ps.length:=do(by induction ps with|nil|cons e r a=>?_);(xs);qe _;(xs);h1:=a (pG xs e.1 e.2.1 e.2.2);h2:=iN xs e.1 e.2.1 e.2.2;¬(putAll (pG xs e.1 e.2.1 e.2.2) r).length<=_;[zd];()
def fK(P:Program)(w:World)(h:Heap)(v:MD)(e:KD×MD×MD):Prop:=∃b,v=.ref b/\h.IsTuple b #[e.2.1,e.2.2]/\dV P w h e.1 e.2.1
def fK.cQ(p:fK P w h v e)(t:GN h h'):fK P w h' v e:=do _;{b,rfl,{o,h1,h2,a},g}:=p;{b,O,{o,t _ _ h1 h2,h2,a},g.ext t}
def cA.keep(g:cA P w h d xs)(k:∀o,h.get? d=!o->h'.get? d=!o)(t:GN h h'):cA P w h' d xs:=do _;{o,es,ep,h1,h2,c,e,f,b}:=g;{o,es,ep,k o h1,h2,c,e,λx a=>(f x a).ext t,b}
def HN(a:h.IsListIter I l i)(k:∀b o,b≠I->h.get? b=!o->h'.get? b=!o):GN h h':=λb o e c=>k b o (λz=>do _;{o',d,f,_}:=a;e←[z,d];-e;c←[f];absurd c ⋯) e
def QY(hh:A.handled=none)(hu:A.units+2<cLine)(B:l≠I)(g:D≠I)(hDl:D≠l) : ∀(ps:List (KD×MD×MD)) (i:Nat) (xs:List (KD×MD×MD)) (s:Sv) (j:Int) (u:Tok),i+ps.length=items.size->s.heap.IsListIter I l i->s.heap.IsList l items->cA P w s.heap D xs->xs.length+ps.length<=sizeLine-> (∀(m:Nat) e,ps[m]?=!e->∃v,items[i+m]?=!v/\fK P w s.heap v e)-> (∀s':Sv,(∀b o,b≠I->b≠D->s.heap.get? b=!o->s'.heap.get? b=!o)->cA P w s'.heap D (putAll xs ps)->(∃tk,s'={s with heap:=s'.heap,toks:=tk})->R (.ok (.ret .none)) s')-> codeAny (model P w) A (.builtin "dict.update.loop" {[.ref D,.ref I,.int j u,.none],[]}) R s:=do W:=Walks.list (prog:=P) (w:=w) (A:=A.in1) (do 0<|hh) I l B items;(ps);(by induction ps with|nil|cons e ps ih=>?_);(i,xs,s,j,u,hi,d,Z,U,hz,hp,M);T:i=items.size:=(do 0<|hi);!T;codeAny_builtin Hh ?_;[Around.under_plainId vZ _];¬wpAny (model P w) A.in1 (pyNext (.ref I) >>= _) _ _ s;qA (W.done s _ _ {d,Z} λh' tk H=>?_);k:∀b o,b≠I->s.heap.get? b=!o->h'.get? b=!o:=λb o p e=>H b o (do 0<|p) e;qA (qE (qE (M {h',s.gens,s.drawn,tk,s.os} (λb o h1 _ e=>k b o h1 e) (U.keep (λo e=>k D o g e) (HN d k)) {tk,O})));(i,xs,s,j,u,hi,d,Z,U,hz,hp,M);codeAny_builtin Hh ?_;[Around.under_plainId vZ _];¬wpAny (model P w) A.in1 (pyNext (.ref I) >>= _) _ _ s;qA (W.item i s _ _ (do hi←[zd];()) {d,Z} λv h' tk hv st H=>?_);k:∀b o,b≠I->s.heap.get? b=!o->h'.get? b=!o:=λb o p e=>H b o (do 0<|p) e;ts:=HN d k;{v',h,pv}:=hp 0 e rfl;ev:v'=v:=(do h←[Nat.add_zero];h←[hv];(qJ h).symm);!ev;t:=U.keep (h':=h') (λo e=>k D o g e) ts;x:=pv.cQ ts;{b,rfl,p,ge}:=id x;hT:Shared.TypeIs ⟨h',s.gens,s.drawn,tk,s.os⟩ (.ref b) "tuple":=(do _;{o,h1,h2,_}:=p;{o,h1,h2});{ob,y,hb2,nb,S}:=id p;pr:∀{Q:List MD->Sv->Prop} {E:KE},Q [e.2.1,e.2.2] ⟨h',s.gens,s.drawn,tk,s.os⟩->wpAny (model P w) A.in1 (Builtin.Dict.pairItems (.ref b)) Q E ⟨h',s.gens,s.drawn,tk,s.os⟩:=λ{Q E} q=>(do@Builtin.Dict.pairItems;qA (wpAny_typeOf hT ?_);[qF ⋯];qA (Oo y S (qE q)));qA (qK (qA (wpAny_tryCatch (pr ?_))));qK (DQ (show A.in1.units+1<cLine from(do¬A.units+1+1<cLine;())) ge t (do hz←[zd];()) λh2 hd2 f=>?_);tD:GN h' h2:=λb o G c=>(f.2 b (λz=>do _;{o',_,_,N,r,_}:=t;G←[z,N];-G;c←[r.1];absurd c ⋯)).trans G;qE {plainId_quiet vZ _,ih (i+1) _ _ _ _ (do hi←[zd];()) ?_ ?_ hd2 ?_ (λm N V=>?_) λs' C X K=>?_};{o,h1,a,Y}:=st.1;{o,(f.2 I (λz=>g z.symm)).trans h1,a,Y};{o,h1,a,n,Y}:=st.2;{o,(f.2 l (λz=>hDl z.symm)).trans h1,a,n,Y};this:=iN xs e.1 e.2.1 e.2.2;hz←[zd];();{v2,F,J}:=hp (m+1) N (do 0<|V);{v2,do[←F];(by congr 1);(),(J.cQ ts).cQ tD};M s' (λb o h1 a r=>C b o h1 a ((f.2 b a).trans (k b o h1 r))) X ?_;{L,r}:=K;{L,do[r]}
def Ny{s:Sv}{l:Sx}{items:Array MD}{n:Nat}{sl:Array (Option MD)}{E:KE}{Q:KE}{ps:List (KD×MD×MD)}(j:A.handled=none)(I:A.units+4<cLine)(t:s.heap.get? l=some {cls:=.type "list",dict:=none,data:=.seq items n,slots:=sl})(hn:ps.length=items.size)(hz:ps.length<=sizeLine)(hp:∀(m:Nat) e,ps[m]?=!e->∃v,items[m]?=!v/\fK P w s.heap v e)(h:∀h' tk d,fR s.heap h'->↑s<=d->cA P w h' d (putAll [] ps)->Q (.ref d) {s with heap:=h',toks:=tk}):wpAny (model P w) A (call (.type "dict") [.ref l]) Q E s:=do callType_codes (Q₁:=λobj c=>obj=.ref ↑s/\c={s with heap:=s.heap.push {cls:=.type "dict",data:=.dict #[]}}) F.kt_called_dict (F.kt_typeCall_dict_1 _) F.entry_dict_init (kt_code_dict_new _ {O,O}) ?_;(obj,c,{rfl,rfl});new:cA P w (s.heap.push {cls:=.type "dict",data:=.dict #[]}) ↑s []:={_,#[],0,qL _ rfl,{O,O,O},O,O,λx u=>(nomatch u),vi};a:(s.heap.push {cls:=.type "dict",data:=.dict #[]}).get? l=some {cls:=.type "list",dict:=none,data:=.seq items n,slots:=sl}:=qH _ t;p:Shared.TypeIs {s with heap:=s.heap.push {cls:=.type "dict",data:=.dict #[]}} (.ref ↑s) "dict":=cA.typeIs (P:=P) (w:=w) (s:={s with heap:=s.heap.push {cls:=.type "dict",data:=.dict #[]}}) new;{p,F.args_dict_init_2 _ _,?_};@Builtin.«dict.__init__»;qA ?_;@Builtin.Dict.selfAndRest;qA (wpAny_notOrdered_dict p (qE ?_));¬wpAny (model P w) _ (Builtin.Dict.updateFrom "dict.__init__" ↑s (.ref l) [] .none) _ _ _;@Builtin.Dict.updateFrom;qA (wpAny_typeOf (show Shared.TypeIs {s with heap:=s.heap.push {cls:=.type "dict",data:=.dict #[]}} (.ref l) "list" from{_,a,O}) ?_);[qF ⋯];qA (QW a (do 0<|j) λh1 H f=>?_);[qF (do 2)];i:h1.IsList l items:={_,f _ _ a,O,n,O};qA (wpAny_rule (qA (wpAny_pyIter_list i ?_)));q:↑s<h1.objs.size:=(do _;{o,_,_,e,_}:=new;qG (f _ _ e));z:l<h1.objs.size:=qG (f _ _ a);C:l<↑s:=qG t;k:∀b o,s.heap.get? b=!o->b≠h1.objs.size/\b≠↑s:=λb o e=>(do this:=qG e;{qp (jr this q),qp this});g:GN (s.heap.push {cls:=.type "dict",data:=.dict #[]}) (h1.push {cls:=.type "list_iterator",data:=.fields #[.ref l,.int 0 0]}):=λb o e _=>qH _ (f _ _ e);qE {plainId_quiet vZ _,QY (A:=A.in1) (l:=l) (items:=items) (do 0<|j) (show A.units+1+2<cLine from ()) (Nat.ne_of_lt z) (Nat.ne_of_lt q) (Nat.ne_of_gt C) ps 0 [] _ _ _ (do[Nat.zero_add];hn) {_,qL _ rfl,O,O} (i.push _) (new.keep (λo e=>qH _ (f _ _ e)) g) (do 0<|hz) (λm e G=>?_) λs' y r D=>?_};{v,B,pv}:=hp m e G;{v,do[ja];B,(pv.cQ (λb o e _=>qH _ e)).cQ g};{tk,es}:=D;(by rw[es]at r ⊢);{O,h _ tk _ (λb o e=>y b o (k b o e).1 (k b o e).2 (qH _ (f _ _ (qH _ e)))) (qe _) r}
end
def cx(H:Hp):List V->List (KD×V×V)->Prop|[],[]=>True|y::ys,e::es=>(∃b,y=.ref b/\H b=!(.tup [e.2.1,e.2.2])/\GK H e.1 e.2.1)/\cx H ys es|_,_=>False
section
variable {X:Cx}{pins:List (Sx×Obj)}{σ:St}{H:Hp}{s:Sv}
theorem GR(I:Inv X pins σ H s):∀{ys:List V} {us:List MD} {kvs:List (KD×V×V)},aJ ys us->cx H ys kvs->∃ps,Paired (GP H) kvs ps/\ps.length=us.length/\∀(m:Nat) e,ps[m]?=!e->∃v,us[m]?=!v/\fK X.prog X.w s.heap v e|[],_,[],.nil,_=>{[],.nil,O,λm e z=>do-z}|[],_,_::_,.nil,h=>h.elim|_::_,_,[],.cons _ _,h=>h.elim|y::ys,_,e::es,.cons r t,h=>do _;{{b,rfl,i,g},h2}:=h;{ps,A,p2,x}:=GR I t h2;-r;{its,p,{o,d,u,n,k},_}:=I.tuple (aV.of i);{l,f,rfl,c,j}:=p.two;{(e.1,l,f)::ps,.cons {O,g,c,j} A,do[zd,zd,p2],λm q a=>?_};(by cases m with|zero|succ m=>?_);-a;{_,O,b,O,{o,d,u,n,k},g.is I c};{v,h1,h2}:=x m q (do 0<|a);{v,do 0<|h1,h2}
theorem Lv:∀{l:List (KD×V×V)} {m:List (KD×MD×MD)},Paired (GP H) l m->∀{a:List (KD×V×V)} {b:List (KD×MD×MD)},Paired (GP H) a b->Paired (GP H) (putAll a l) (putAll b m)|_,_,.nil,_,_,t=>t|_,_,.cons (a:=p) (b:=q) f t,a,b,t2=>do¬Paired (GP H) (putAll (pG a p.1 p.2.1 p.2.2) _) (putAll (pG b q.1 q.2.1 q.2.2) _);[←f.1];Lv t (vJ t2 f.2.1 f.2.2.1 f.2.2.2)
inductive AG(xs:List V)(H:Hp)(Q:VK):Prop
 |mk(p ys kvs:_)(_:xs=[.ref p])(_:az H p ys)(_:cx H ys kvs)(_:ys.length<=2000)(_:∀q H',H q=none->af H H'->H' q=!(.dG (putAll [] kvs))->Q (.ref q) H')
def gJ(B:X.A.handled=none)(J:X.A.units+4<cLine):cB X (.type "dict") (AG):=do(pins,s,σ,H,xs,us,Q,I,r,h);{p,ys,kvs,rfl,M,hp,hz,q}:=h;{u,rfl,F}:=vals1 r;-F;{its,i,{o,n,e,w,l,t},_}:=I.list M;{K,k,data,sl}:=o;(by dsimp only at w l t;subst w l t);{ps,y,p2,R}:=GR I i hp;U:=i.length;T:2000<=sizeLine:=⋯;Ny B J e (do[zg];p2) () (λm N c=>?_) λh' tk d x f g=>?_;{v,h1,h2}:=R m N c;{v,do 0<|h1,h2};{o',es,ep,D,G,C,L,_,E}:=g;fr:H d=none:=I.aR.fresh f;P:=QT kvs [];S:=rK y;{.ref d,upd H d (.dG (putAll [] kvs)),I.laid x f {?_,?_,_,Paired.k_ (Lv y .nil) λa b z=>{z.1,z.2.1.cQ λb xs j=>?_,z.2.2},o',es,ep,D,G,C,L,E},O,q d _ fr (af.new fr) aB};P←[yt];();beq_eq_false_iff_ne.mpr (Ne.symm (qp (zf I.kK f)));[ak (aZ j fr)];j
end
section
variable {P:Program}{w:World}{A:Around}{E:KE}{s:Sv}
def Fl(c:(d==sysModules)=false):MeetsIn P w (Builtin.«dict.__len__» {[.ref d],[]}) (λ_ R s=>∃xs,cA P w s.heap d xs/\R (.ok (.ret (.int xs.length s.toks))) {s with toks:=s.toks+1}) := .of_wp λA R s ⟨xs,g,h⟩=>do _;{o,es,ep,f,i,a,b,_,_}:=g;¬wpAny (model P w) _ (dictSize d >>= _) _ _ s;@dictSize;qA (qA (wpAny_dictEntries f a (qE ?_)));qA (wpAny_pendingCount_other c (wpAny_ret_mkInt ?_));e:es.size=xs.length:=(do[←zx,b,qj]);[Nat.add_zero,e];h
def Er(a:(d==sysModules)=false)(g:cA P w s.heap d xs)(hz:xs.length<=sizeLine)(h:Q (.int xs.length (s.toks+1)) {s with toks:=s.toks+1+1}):wpAny (model P w) A (call (.builtin "len") [.ref d]) Q E s:=do Calls.call_function_entry kind_len plain_len entry_len (args_len1 _) ?_;@Builtin.«len»;qA (m:=oneArg "len" _) (qE (qA (m:=callSpecial? (.ref d) (Str.ofString "__len__")) (wpAny_callSpecial?_slot (name:=Str.ofString "__len__") g.typeIs F.slot_dict_len (call_meetsIn F.slot_dict_len g.typeIs F.entry_dict_len (F.args_dict_len_1 _) (Fl a) {xs,g,?_}))));¬wpAny (model P w) _ _ _ _ {s with toks:=s.toks+1};qA (qK (qE (qA (wpAny_letGo ?_))));hz←[sizeLine_eq];¬wpAny (model P w) _ (if((xs.length:Nat):Int)<0 then _ else _) _ _ _;[qB ()];¬wpAny (model P w) _ (if((xs.length:Nat):Int)>=2 ^ 63 then _ else _) _ _ _;[qB ()];qA (wpAny_mkInt (qE {_,O,h}))
def O4(c:(d==sysModules)=false):MeetsIn P w (Builtin.«dict.get» {[.ref d,v,b],[]}) (λA R s=>A.in1.units+1<cLine/\∃k xs,dV P w s.heap k v/\cA P w s.heap d xs/\R (.ok (.ret ((vG xs k).getD b))) {s with toks:=s.toks+bX P w k}) := .of_wp λA R s ⟨f,k,xs,a,g,h⟩=>do¬wpAny (model P w) _ (dictGet d v >>= _) _ _ s;qA (Cp f a g ?_);(by cases e:vG xs k with|some u|none=>?_);h←[e];qE {u,O,h};h←[e];¬wpAny (model P w) _ (Builtin.Dict.missed d v >>= _) _ _ _;qA (wpAny_missed_other c (qE {b,O,h}))
def Pe{v val:MD}(n:A.units+1<cLine)(a:dV P w s.heap k v)(g:cA P w s.heap d xs)(hsz:xs.length<=sizeLine)(h1:∀u,vG xs k=!u->Q u {s with toks:=s.toks+bX P w k})(h2:vG xs k=none->∀h',cA P w h' d (pG xs k v val)->Heap.SameBut d s.heap h'->Q val {s with heap:=h',toks:=s.toks+bX P w k}):wpAny (model P w) A (dictSetDefault d v val) Q E s:=do _;{o,es,ep,c,m,f,l,i,hn}:=g;sz:es.size=xs.length:=(do[←zx,l,qj]);@dictSetDefault;(by try with_reducible refine qK ?_);qA (a.hash n (qA (AX (s:={s with toks:=s.toks+bX P w k}) n a c f l i hn ?_)));(by cases e:fD xs k with|none|some j=>?_);h:=mD (CO e);qA (wpAny_rule (qA (wpAny_updateDictKeys (hz:=do()) (s:={s with toks:=s.toks+bX P w k}) c f (qE (h2 h _ {_,_,ep+1,Heap.get?_update_self _ c (Obj.isFreed_of_dict (Obj.data_mapDictKeys f _)),m.mapDictKeys _,Obj.data_mapDictKeys f _,?_,λx b=>?_,AE hn} (Heap.SameBut.update ..))))));@pG;[h,qB ⋯];#[l,dQ];(by unfold pG at b);b←[h,qB ⋯];b||b:=zh.mp b;uQ (es:=es) (ep:=ep) c m (Heap.SameBut.update ..) (i x b);[qx.mp b];uQ (es:=es) (ep:=ep) c m (Heap.SameBut.update ..) a;{x,b,ex}:=Fp e;h:=pQ hn b ex;qA (wpAny_dictEntries (s:={s with toks:=s.toks+bX P w k}) c f ?_);[←ym,l,qu,b];qA (wpAny_rule (qE (h1 _ h)))
def O_(f:(d==sysModules)=false):MeetsIn P w (Builtin.«dict.setdefault» {[.ref d,v,b],[]}) (λA R s=>A.in1.units+1<cLine/\∃k xs,dV P w s.heap k v/\cA P w s.heap d xs/\xs.length<=sizeLine ∧ (∀u,vG xs k=!u->R (.ok (.ret u)) {s with toks:=s.toks+bX P w k})/\(vG xs k=none->∀h',cA P w h' d (pG xs k v b)->Heap.SameBut d s.heap h'->R (.ok (.ret b)) {s with heap:=h',toks:=s.toks+bX P w k})) := .of_wp λA R s ⟨h,k,xs,a,g,hz,h1,h2⟩=>do@Builtin.«dict.setdefault»;qA ?_;@Builtin.Dict.keyAndDefault;qA (wpAny_notOrdered_dict g.typeIs (qE ?_));¬wpAny (model P w) _ (if(d==sysModules)=true then _ else(dictSetDefault d v b >>= _)) _ _ s;[qB (by rw[f];decide)];qA (Pe h a g hz (λu c=>qE {u,O,h1 u c}) λc h' g' e=>qE {b,O,h2 c h' g' e})
end
def Q6(h:e_ a b)(r:RelV x u):RelV (a.getD x) (b.getD u):=by cases a <;> cases b <;> first|exact h|exact r|exact h.elim
section
variable {X:Cx}
inductive lZ(xs:List V)(H:Hp)(Q:VK):Prop
 |mk(a kvs:_)(_:xs=[V.ref a])(_:H a=!(.dG kvs))(_:Q (.int kvs.length) H)
def Ju:cB X (.builtin "len") lZ:=do(pins,s,σ,H,xs,us,Q,I,r,h);{a,kvs,rfl,c,q}:=h;{u,rfl,d}:=vals1 r;-d;{z,f,ys,b,g}:=eE I (.inl c);e:=rK b;Er f g () {.int kvs.length,H,I.tok _,{_,do[e]},q}
inductive Jg(x:V)(vs:List V)(H:Hp)(Q:VK):Prop
 |mk(a kvs k y d:_)(_:x=.ref a)(_:vs=[y,d])(_:H a=!(.dG kvs))(_:GK H k y)(_:Q ((vG kvs k).getD d) H)
inductive xE(x:V)(vs:List V)(H:Hp)(Q:VK):Prop
 |mk(a kvs k y d:_)(_:x=.ref a)(_:vs=[y,d])(_:H a=!(.dG kvs))(_:GK H k y)(_:kvs.length<sizeLine)(_:(∀u,vG kvs k=!u->Q u H))(_:(vG kvs k=none->Q d (upd H a (.dG (pG kvs k y d)))))
def iL(l:X.A.units+2<cLine):wG X "dict.get" Jg:=do(pins,s,σ,H,x,xs,v,us,Q,I,m,n,h);{a,kvs,k,y,d,rfl,rfl,f,g,q}:=h;{u,o,rfl,i,c}:=n.two;-m;{z,j,ys,b,e}:=eE I (.inl f);call_meetsIn F.slot_dict_get e.typeIs F.entry_dict_get (F.args_dict_get_3 _ _ _) (O4 j) {l,k,ys,g.is I i,e,{_,H,I.tok _,Q6 (o8 b) c,q}}
def IR(G:X.A.units+2<cLine):wG X "dict.setdefault" xE:=do(pins,s,σ,H,x,xs,v,us,Q,I,K,E,h);{a,kvs,k,y,d,rfl,rfl,l,g,R,L,D}:=h;{u,O,rfl,t,i}:=E.two;-K;{z,C,ys,f,o}:=eE I (.inl l);c:=o8 (k:=k) f;call_meetsIn F.slot_dict_setdefault o.typeIs F.entry_dict_setdefault (F.args_dict_setdefault_3 _ _ _) (O_ C) {G,k,ys,g.is I t,o,do[←rK f];z,λP j=>?_,λj h' n m=>?_};c←[j];(by cases e:vG kvs k with|none|some v=>?_);c←[e];c.elim;c←[e];{v,H,I.tok _,c,L v e};c←[j];(by cases e:vG kvs k with|some v|none=>?_);c←[e];c.elim;{q,es,ep,B,h2,M,J,_,N}:=n;r:=iN kvs k y d;{d,upd H a (.dG (pG kvs k y d)),pN I (do[l];True.intro) m {q,B} {(),C,_,Paired.k_ (vJ f g t i) λp q z=>{z.1,z.2.1.cQ λb xs w=>?_,z.2.2},q,es,ep,B,h2,M,J,N},i,D e};[ak (oE w l (λz=>nomatch z))];w
end
def qS{A:Around}(a:bG k A):A.units+4<cLine:=do this:=a.units;()
def cN{A:Around}(a:bG k A):A.units+2<cLine:=do this:=a.units;()
section
variable {P:Program}{w:World}{fs:List Sx}{H H1:Hp}{h h1 h2:Heap}
def Un.later(u:Un fs [] H H1 h h1)(k:∀b o,b<h.objs.size->h1.get? b=!o->h2.get? b=!o):Un fs [] H H1 h h2 where
 keep:=λb o q n c a=>k b o (qG q) (u.keep b o q n c a)
 slot:=λb o q n c a=>let⟨sl,e⟩:=u.slot b o q n c a;{sl,k b _ (qG q) e}
 free:=u.free
 there:=λb o q a=>let⟨o',e⟩:=u.there b o q a;{o',k b o' (qG q) e}
 ab:=u.ab
 dP:=u.dP
 dR:=u.dR
 dM:=λb o xs q n=>k b o (qG q) (u.dM b o xs q n)
def dn.other(x:dn P w H h)(k:∀b u,b≠a->h.get? b=!u->h2.get? b=!u)(hn:H a=none):dn P w H h2:=λb o e=>do ne:∀{c u},H c=!u->c≠a:=λq z=>(do q←[z,hn];-q);(x b o e).cQ (λc u d q=>k c u ?_ q) (λ_ q=>q) λ_ _ q=>q;rfl||d:=d;ne e;ne d
def dn.adopt(x:dn P w H h)(hn:H a=none)(new:aS P w (upd H a o) h a o):dn P w (upd H a o) h:=λb u e=>do d<|b=a;!d;e←[aB];-e;new;e←[ak d];(x b u e).cQ (λ_ _ _ q=>q) (λc q=>?_) λc xs q=>?_;[ak (λz=>do q←[z,hn];-q)];q;[ak (λz=>do q←[z,hn];-q)];q
def Un.adopt{a:Sx}{o:HO}(u:Un fs [] H H1 h h1)(c:h.objs.size<=a)(hn:H1 a=none):Un fs [] H (upd H1 a o) h h1 where
 keep:=u.keep
 slot:=u.slot
 free:=λb ob q n d=>by
  rw[ak (qp (zf (qG q) c))];exact u.free b ob q n d
 there:=u.there
 ab:=λb xs q=>by
  have:=u.ab b xs q;rw[ak (λz=>by rw[z,hn]at this;cases this)];exact this
 dP:=λb ob v q=>by
  have:=u.dP b ob v q;rw[ak (λz=>by rw[z,hn]at this;cases this)];exact this
 dR:=λb ps q=>by
  obtain⟨m,this⟩:=u.dR b ps q;exact{m,by rw[ak (λz=>by rw[z,hn]at this;cases this)];exact this}
 dM:=u.dM
end
def ow(n:Nat)(ds:List Sw):Prop:=n<=2000/\(n<64\/ds.Pairwise λa b=>bT a b=true)
def ow.cJ(h:ow n ds)(b:ds.length=n)(W:Srt.eR (ov ds)):Mi (ov ds) n:=do h||h:=h.2;.inl h;.inr λi j a c=>?_;e<|i=j;!e;W.kE _;W.le_of_lt ?_;this:=jv.mp h i j () () ();(by unfold ov c_);[zm,zm,qh (),qh ()];this
inductive gQ(sp:Sp)(xs:List V)(H:Hp)(Q:VK):Prop
 |mk(p ys ds t:_)(_:xs=[.ref p])(_:az H p ys)(_:ds.length=ys.length)(_:KeysAre ds t)(_:ow ys.length ds)(_:(∀(m:Nat) y d H' (Q':VK),ys[m]?=!y->ds[m]?=!d->af H H'->(∀H'' kv,af H' H''->DV H'' kv d->Q' kv H'')->sp [y] H' Q' E0))(_:∀q H' ix,H q=none->af H H'->dj ds ix->H' q=!(.lst (ix.map λi=>ys.getD i .aQ))->Q (.ref q) H')
section
variable {X:Cx}{pins:List (Sx×Obj)}{σ:St}{H:Hp}{s:Sv}{k:Nat}{fa:Sx}{fd:FuncData}{ps:List Sy}{sp:Sp}
structure LU(X:Cx)(H:Hp)(s:Sv)(a kS:Sx)(e1:Nat)(Hm:Hp)(s':Sv)(ks:List MD)(kvs:List V)(ds:List Sw):Prop where
 un:Un (d_ X.stack) [] H Hm s.heap s'.heap
 aR:dn X.prog X.w Hm s'.heap
 os:s'.os=s.os
 bare:AllBare s'.gens
 same:af H Hm
 F2:Hm a=none
 fk:Hm kS=none
 ga:s'.heap.get? a=!(seqObj "list" #[] e1)
 gk:∃e,s'.heap.get? kS=!(seqObj "list" ks.toArray e)
 vals:aJ kvs ks
 dv:dU Hm kvs ds
theorem JX(h:DV H x d):∀{xs:List V} {ds:List Sw},dU H xs ds->dU H (xs++[x]) (ds++[d])|_,_,.nil=>.cons h .nil|_,_,.cons a t=>.cons a (JX h t)
theorem K8{A':Around}{a h:Sx}{e1:Nat}{E:KE}{R:Sv->Prop}(g:∀(s':Sv) (c:Hp) (x:MD) (y:V) (Q:VK),f_ X.prog X.w X.K X.mg X.base A' X.stack s' c->Un (d_ X.stack) [] H c s.heap s'.heap->af H c->RelV y x->sp [y] c Q E0->codeAny (model X.prog X.w) A' (.call (.ref fa) {[x],[]}) (CR iO X.stack X.prog X.w c s' Q E0) s')(O:A'.frames=X.A.frames)(I:Inv X pins σ H s)(ha:↑s<=a)(hk:↑s<=h)(L:a≠h)(S:a∉d_ X.stack)(P:h∉d_ X.stack){p:MD->PUnit->Sem (ForInStep PUnit)}(k:∀x (s':Sv) (R':ForInStep PUnit->Sv->Prop),wpAny (model X.prog X.w) A' (call (.ref fa) [x]) (λt s2=>wpAny (model X.prog X.w) A' (Builtin.List.listUpdate (.ref h) (·.push t)) (λ_ s3=>R' (.yield ⟨⟩) s3) E s2) (λ_ _=>False) s'->wpAny (model X.prog X.w) A' (p x ⟨⟩) R' E s') : ∀(r:List MD) (G:List V) (J:List Sw) (ks:List MD) (kvs:List V) (F:List Sw) (c:Hp) (s':Sv),aJ G r->J.length=G.length-> (∀(m:Nat) y d H' (Y:VK),G[m]?=!y->J[m]?=!d->af H H'->(∀D t,af H' D->DV D t d->Y t D)->sp [y] H' Y E0)-> ks.length+r.length<=2000->LU X H s a h e1 c s' ks kvs F-> (∀Z f n i,LU X H s a h e1 Z f n i (F++J)->n.length=ks.length+r.length->R f)->wpAny (model X.prog X.w) A' (forIn r PUnit.unit p) (λ_ f=>R f) E s'|[],G,J,ks,kvs,F,c,s',rv,hl,hsp,hz,st,fin=>(do-rv;hl←[yt];fin←[yx.mp hl];[List.forIn_nil];qE (fin c s' ks kvs ?_ rfl);[wx];st)|x::r,_,[],ks,kvs,F,c,s',.cons _ _,hl,hsp,hz,st,fin=>absurd hl (do 0)|x::r,_,d::J,ks,kvs,F,c,s',.cons (a:=y) (l₁:=G) r1 rv,hl,hsp,hz,st,fin=>do[kz];I':Inv X pins σ c s':=I.gP st.os st.un st.aR st.bare (λb z=>absurd z (do 0));q:=I'.BL;{ek,gk}:=st.gk;qA (k x s' _ ?_);wpAny_call (codeAny_mono (g s' c x y (λt H2=>af c H2/\DV H2 t d) {O.trans q.frames,q.mod,q.bs,q.tN,q.ee,q.xJ,q.aR,q.bare} st.un st.same r1 (hsp 0 y d c _ rfl rfl st.same λH2 t a1 a2=>{a1,a2})) λres s2 U=>?_);(by cases res with|error e|ok fl=>?_);U.elim;(by cases fl with|next|brk|cont|ret u=>?_);U.elim;U.elim;U.elim;{v,H2,os2,C,j,T,rel,l,dv2}:=U;N:=j.keep h _ gk st.fk P (do 0);ga2:=j.keep a _ st.ga st.F2 S (do 0);M:=j.free h _ gk st.fk (do 0);fa2:=j.free a _ st.ga st.F2 (do 0);hz':ks.length+(r.length+1)<=2000:=hz;z64:2000<=sizeLine:=ww (jL ⋯);listUpdate_at N rfl ?_ (do[zg];()) (do[Array.size_push,zg];());{c2,g2}:∃c2,(s2.heap.update h (Obj.mapSeq (·.push u))).get? h=!(seqObj "list" ((ks++[u]).toArray) c2):=(do ea:ks.toArray.push u=(ks++[u]).toArray:=(do 0);{_,do[←ea];get?_update_seq N (·.push u)});sb:=Heap.SameBut.update s2.heap h (Obj.mapSeq (·.push u));K8 g O I ha hk L S P k r G J (ks++[u]) (kvs++[v]) (F++[d]) H2 _ rv (do 0<|hl) (λm y' d' H' Y h1 h2 h3 h4=>hsp (m+1) y' d' H' Y (do 0<|h1) (do 0<|h2) h3 h4) (do[List.length_append,List.length_singleton];()) {?_,?_,os2.trans st.os,C,st.same.trans l,fa2,M,(sb.2 a L).trans ga2,{c2,g2},?_,?_} λZ f n i W hl'=>fin Z f n i ?_ ?_;(st.un.trans j).later λb o B e=>(sb.2 b (qp (zf B hk))).trans e;T.other (λb u' B e=>(sb.2 b B).trans e) M;st.vals.append (.cons rel .nil);JX dv2 (st.dv.same l);W←[yk];W;[hl',qi,qt,zd];()
def QM{A':Around}{a c:Sx}{r:Nat}{E:KE}{P:PySem.Fin->Sv->Prop}{p:Hp}{s':Sv}{ks:List MD}{kvs:List V}{ds:List Sw}{st:SortSt}{out:List MD}{n:List V}(x:↑s<=c)(q:↑s<=a)(j:a≠c)(S:LU X H s a c r p s' ks kvs ds)(hz:ks.length<=2000)(A:out.length<=2000)(i:(arrOf st).map (·.2)=out.toArray)(z:failedOf st=none)(h:aJ n out)(l:∀s2 H2,Un (d_ X.stack) [] H H2 s.heap s2.heap->dn X.prog X.w H2 s2.heap->s2.os=s.os->AllBare s2.gens->af H H2->H2 a=!(.lst n)->P (.done (.ret .none)) s2):wpAny (model X.prog X.w) A' (ksk_tail a false r (.ref c) st) P E s':=do _;{B,y}:=S.gk;t:2000<=sizeLine:=ww (jL ⋯);@ksk_tail;(by try dsimp only);[i];m:=Heap.SameBut.update s'.heap c (Obj.mapSeq λ_=>(#[]:Array MD));d:=(m.2 a j).trans S.ga;qA (listUpdate_at y rfl (qA (wpAny_letGo (qA (seqEpoch_at d rfl (qA (listUpdate_at d rfl ?_ (qv _) (do¬out.toArray.size<=_;[zg];()))))))) (do[zg];()) (qv _));[z];#[_,bne_self_eq_false,Bool.false_eq_true,if_false];g:=Heap.SameBut.update (s'.heap.update c (Obj.mapSeq λ_=>(#[]:Array MD))) a (Obj.mapSeq λ_=>out.toArray);{k,v}:∃k,((s'.heap.update c (Obj.mapSeq λ_=>(#[]:Array MD))).update a (Obj.mapSeq λ_=>out.toArray)).get? a=!(seqObj "list" out.toArray k):={_,get?_update_seq d λ_=>out.toArray};qE (l _ (upd p a (.lst n)) ?_ ?_ S.os S.bare (S.same.trans (af.new S.F2)) aB);(S.un.later λb o f e=>?_).adopt q S.F2;h1:b≠c:=qp (zf f x);h2:b≠a:=qp (zf f q);(g.2 b h2).trans ((m.2 b h1).trans e);dn.adopt ((S.aR.other (λb u f e=>(m.2 b f).trans e) S.fk).other (λb u f e=>(g.2 b f).trans e) S.F2) S.F2 {?_,out,k,h,v};[h.length];()
def O6{Q:VK}{vs:List MD}{ys:List V}{ds:List Sw}{t:Nat}{h1:Heap}{a:Nat}(n:∀(s':Sv) (D:Hp) (x:MD) (y:V) (Q:VK),f_ X.prog X.w X.K X.mg X.base X.A.in1.in1 X.stack s' D->Un (d_ X.stack) [] H D s.heap s'.heap->af H D->RelV y x->sp [y] D Q E0->codeAny (model X.prog X.w) X.A.in1.in1 (.call (.ref fa) {[x],[]}) (CR iO X.stack X.prog X.w D s' Q E0) s')(hu:X.A.units+3+61<cLine)(I:Inv X pins σ H s)(U:aJ ys vs)(r:ds.length=ys.length)(hk:KeysAre ds t)(L:ow ys.length ds)(hsp:∀(m:Nat) y d H' (Q':VK),ys[m]?=!y->ds[m]?=!d->af H H'->(∀u T,af H' u->DV u T d->Q' T u)->sp [y] H' Q' E0)(q:∀q H' ix,H q=none->af H H'->dj ds ix->H' q=!(.lst (ix.map λi=>ys.getD i .aQ))->Q (.ref q) H')(x1:fR s.heap h1)(C:h1.get? a=!(seqObj "list" vs.toArray 0))(B:↑s<=a) : wpAny (model X.prog X.w) X.A.in1 (holding [Value.ref a] (call (.builtin "list.sort") [.ref a] [(Str.ofString "key",.ref fa)]) >>= λ_=>ret (.ref a)) (λc s'=>∃v,c=.done (.ret v)/\EP X pins σ Q v s') X.xe {s with heap:=h1}:=do h64:=L.1;hl:=U.length;hz:ys.length<=sizeLine:=(do[sizeLine_eq];());zl:vs.length<=sizeLine:=();qA (qK (wpAny_call_entry_kw slot_list_sort {_,C,O} entry_list_sort ?_ (ksk_l1 _ _)));¬wpAny (model X.prog X.w) X.A.in1.in1 (Builtin.«list.sort» {[.ref a],[(Str.ofString "key",.ref fa)]}) _ _ _;[ksk_t1];@ksk_tree;{h,o2}:∃h,(h1.update a (Obj.mapSeq λ_=>(#[]:Array MD))).get? a=!(seqObj "list" #[] h):={_,get?_update_seq C λ_=>#[]};x2:fR s.heap (h1.update a (Obj.mapSeq λ_=>(#[]:Array MD))):=x1.upd B;qA (listItems_at C rfl (qA (listUpdate_at C rfl (qA (seqEpoch_at o2 rfl (qA (wpAny_newTuple (qA (wpAny_newList (qK ?_) (qv _))) zl)))) (do[zg];zl) (qv _))));g:↑s<=((h1.update a (Obj.mapSeq λ_=>(#[]:Array MD))).push (seqObj "tuple" vs.toArray 0)).objs.size:=(do[size_push',Heap.size_update];this:a<h1.objs.size:=qG C;());l:a≠((h1.update a (Obj.mapSeq λ_=>(#[]:Array MD))).push (seqObj "tuple" vs.toArray 0)).objs.size:=(do[size_push',Heap.size_update];this:a<h1.objs.size:=qG C;());o3:(((h1.update a (Obj.mapSeq λ_=>(#[]:Array MD))).push (seqObj "tuple" vs.toArray 0)).push (seqObj "list" #[] 0)).get? a=!(seqObj "list" #[] h):=qH _ (qH _ o2);p:(((h1.update a (Obj.mapSeq λ_=>(#[]:Array MD))).push (seqObj "tuple" vs.toArray 0)).push (seqObj "list" #[] 0)).get? ((h1.update a (Obj.mapSeq λ_=>(#[]:Array MD))).push (seqObj "tuple" vs.toArray 0)).objs.size=!(seqObj "list" #[] 0):=qL _ rfl;Y:fR s.heap (((h1.update a (Obj.mapSeq λ_=>(#[]:Array MD))).push (seqObj "tuple" vs.toArray 0)).push (seqObj "list" #[] 0)):=(x2.trans (.push _ _)).trans (.push _ _);¬wpAny (model X.prog X.w) X.A.in1.in1 (ksk_rest a (.ref fa) false vs.toArray h (.ref ((h1.update a (Obj.mapSeq λ_=>(#[]:Array MD))).push (seqObj "tuple" vs.toArray 0)).objs.size)) _ _ {s with heap:=((h1.update a (Obj.mapSeq λ_=>(#[]:Array MD))).push (seqObj "tuple" vs.toArray 0)).push (seqObj "list" #[] 0)};(by generalize ((h1.update a (Obj.mapSeq λ_=>(#[]:Array MD))).push (seqObj "tuple" vs.toArray 0)).objs.size=kS at g l p ⊢;generalize ((h1.update a (Obj.mapSeq λ_=>(#[]:Array MD))).push (seqObj "tuple" vs.toArray 0)).push (seqObj "list" #[] 0)=h3 at o3 p Y ⊢);M:∀b,↑s<=b->b∉d_ X.stack:=λb F hm=>(do z||z:=q0.mp (I.gU b hm);absurd (zf I.lt F) (do[z];wu _);I.vO F z);S0:LU X H s a kS h H {s with heap:=h3} [] [] []:={Un.kept Y,I.aR.kept Y,O,I.bare,af.refl H,I.aR.fresh B,I.aR.fresh g,o3,{0,p},.nil,.nil};@ksk_rest;qA (wpAny_rule ?_);(by first|rw[List.forIn_toArray]|rw[←Array.forIn_toList];simp only[List.toList_toArray]);qA (K8 (R:=λf=>wpAny (model X.prog X.w) X.A.in1.in1 (do{let keys ←Builtin.List.listItems (.ref kS);ksk_end a false vs.toArray h (.ref kS) keys}) _ _ f) n rfl I B g l (M a B) (M kS g) (λx s' R' hx=>?_) vs ys ds [] [] [] H _ U r hsp (do[yt];()) S0 λHn f ks kvs S j=>?_);qA (wpAny_attempt (qM hx (λT s2 h2=>?_) λ_ _ z=>z.elim));qA (qM h2 (λ_ P h3=>qE h3) λ_ _ z=>z);S←[wz];j←[yt,ja];{ek,gk}:=S.gk;N:ks.length=ds.length:=(do[j,r,hl]);I':Inv X pins σ Hn f:=I.gP S.os S.un S.aR S.bare (λb z=>absurd z (do 0));{as,ra}:=S.dv.reads I' S.vals;W:=J0 hk.one;qA (listItems_at gk rfl ?_);c:∀(e:Array Nat),Arr vs.length (ov ds) e->∀st:SortSt,(arrOf st).map (·.2)=List.toArray (e.toList.map λi=>vs.getD i Value.none)->failedOf st=none->wpAny (model X.prog X.w) X.A.in1.in1 (ksk_tail a false h (.ref kS) st) (λc s'=>∃v,c=PySem.Fin.done (.ret v)/\wpAny (model X.prog X.w) X.A.in1 (ret (Value.ref a)) (λc s'=>∃v,c=.done (.ret v)/\EP X pins σ Q v s') X.xe s') X.xe f:=λe G st ho hf=>(do hix:∀i∈e.toList,i<ys.length:=λi hi=>(do this:=(G.1.toList.mem_iff).mp hi;this←0;());hpl:e.size=vs.length:=(do[G.1.size_eq];0);QM g B l S () (do[qj,zx,hpl];()) ho hf (JG U _ hix) λs2 H2 un aR os J same e2=>?_;{_,O,qE {_,O,.ref a,H2,I.gP os un aR J (λb z=>absurd z (do 0)),O,q a H2 e.toList (I.aR.fresh B) same (GD (do[←N,j];G)) e2}});@ksk_end;(by try dsimp only);[qB ⋯];h2<|vs.toArray.size<2;[qF h2,qF h2];o:vs.length<2:=(do 0<|h2);qA (qE ?_);[StateT.run_pure];qA (qE ?_);c _ (LA W o) _ ?_ rfl;¬((ks.toArray.zip vs.toArray).map (·.2))=_;(by apply mh.mp);[Array.toList_map,Array.toList_zip];h:List.map (·.2) (ks.zip vs)=vs:=List.map_snd_zip ();e2:(List.toArray (List.range vs.length)).toList.map (λi=>vs.getD i Value.none)=vs:=(do(by apply yc);(i);hi<|i<vs.length;#[hi];#[hi]);¬List.map (·.2) (ks.zip vs)=(List.toArray (List.range vs.length)).toList.map (λi=>vs.getD i Value.none);[h,e2];[qB h2,qB h2];o:¬vs.length<2:=(do 0<|h2);{κ,Z,hqq}:=GS (prog:=X.prog) (w:=X.w) (A:=X.A.in1.in1) ra hk () (do¬X.A.units+1+1+60<cLine;());qA (qM (Z (λk s'=>k=κ/\s'=f) {O,O}) ?_ λ_ _ z=>z.elim);(k',s',{rfl,rfl});[qB ⋯];qA (qM (Iv (E:=X.xe) (R:=λst P=>P=s'/\∃e,Arr vs.length (ov ds) e/\(arrOf st).map (·.2)=List.toArray (e.toList.map λi=>vs.getD i Value.none)/\failedOf st=none) W j (do this:=L.cJ r W;this←[hl];this) o hqq λst e a1 a2 a3=>{O,e,a1,a2,a3}) ?_ λ_ _ z=>z);({{},st},P,{rfl,e,G,eo,hf});c e G st eo hf
def Iy{Q:VK}{us:List MD}{xs:List V}(b:∀(s':Sv) (c:Hp) (x:MD) (y:V) (Q:VK),f_ X.prog X.w X.K X.mg X.base X.A.in1.in1 X.stack s' c->Un (d_ X.stack) [] H c s.heap s'.heap->af H c->RelV y x->sp [y] c Q E0->codeAny (model X.prog X.w) X.A.in1.in1 (.call (.ref fa) {[x],[]}) (CR iO X.stack X.prog X.w c s' Q E0) s')(z:X.A.units+3+61<cLine)(I:Inv X pins σ H s)(B:aJ xs us)(l:gQ sp xs H Q) : wpAny (model X.prog X.w) X.A (call (.builtin "sorted") us [(Str.ofString "key",.ref fa)]) (EP X pins σ Q) X.xe s:=do _;{p,ys,ds,t,rfl,C,e,o,d,f,q}:=l;r:=d.1;{u,rfl,n}:=vals1 B;-n;{vs,i,v,hz}:=I.list C;D:=i.length;k:vs.length<=sizeLine:=();call_function_entry_kw kind_sorted plain_sorted entry_sorted (ksk_s1 _ _) ?_;@Builtin.«sorted»;qA (m:=checkCount "sorted" 1 1 _) (qE (qA (collect_list v.isList (qA (wpAny_newList ?_ k)) k)));hsz:((s.heap.push (seqObj "list" #[] 0)).update ↑s (Obj.mapSeq (·++vs.toArray))).objs.size=↑s+1:=(Heap.size_update _ _ _).trans (size_push' _ _);h:fR s.heap (((s.heap.push (seqObj "list" #[] 0)).update ↑s (Obj.mapSeq (·++vs.toArray))).push (seqObj "list" vs.toArray 0)):=((fR.push _ _).upd (qe _)).trans (.push _ _);g:(((s.heap.push (seqObj "list" #[] 0)).update ↑s (Obj.mapSeq (·++vs.toArray))).push (seqObj "list" vs.toArray 0)).get? (↑s+1)=!(seqObj "list" vs.toArray 0):=hsz▸qL _ rfl;¬wpAny (model X.prog X.w) _ _ _ _ {s with heap:=((s.heap.push (seqObj "list" #[] 0)).update ↑s (Obj.mapSeq (·++vs.toArray))).push (seqObj "list" vs.toArray 0)};[hsz];(by generalize ((s.heap.push (seqObj "list" #[] 0)).update ↑s (Obj.mapSeq (·++vs.toArray))).push (seqObj "list" vs.toArray 0)=h1 at h g ⊢);j:↑s<=↑s+1:=jt _;(by generalize ↑s+1=a at j g ⊢);O6 b z I i e o d f q h g j
def OI{Q:VK}{us:List MD}{xs:List V}(F:f9 X.prog X.w X.K X.mg X.base iO k fa fd ps sp)(m:bG k X.A.in1.in1)(f:Binds X.K fd ps [])(d:ps.length=1)(j:X.A.units+3+61<cLine)(I:Inv X pins σ H s)(i:aJ xs us)(l:gQ sp xs H Q) : wpAny (model X.prog X.w) X.A (call (.builtin "sorted") us [(Str.ofString "key",.ref fa)]) (EP X pins σ Q) X.xe s := Iy (λs' g x y Q a _ _ h c=>F.run X.A.in1.in1 X.stack s' g {[x],[]} [x] [y] Q E0 m a (do this:=f s' [x] (a.mod.LQ.keeps λb o e=>(a.bs b o e).1) (do[d];2);0<|this) (.cons h .nil) c) j I i l
def bG.Qo{A:Around}(r:bG (k+1) A):bG k A.in1.in1 := {r.hd,do this:=r.dp;¬A.depth+3 * k+5<_;(),do this:=r.un;¬A.units+1+1+16 * k+200<_;(),r.gd}
def Mr{p q kp pos:Pos}(F:f9 X.prog X.w X.K X.mg X.base iO k fa fd ps sp)(j:bG (k+1) X.A)(v:Gl X x)(l:X.mg x=none)(n:bootBuiltins x=!(.builtin "sorted"))(b:Gl X y)(c:X.mg y=!(.ref fa))(o:Binds X.K fd ps [])(f:ps.length=1)(m:PA X [e] t)(hn:x≠"__name__":=by decide)(d:(x==("__debug__":Sy))=false:=by decide)(a:(y==("__debug__":Sy))=false:=by decide)(g:starEach [e] X.env=(false,eval e X.env)::starEach [] X.env:=by rfl):PE X (.Call (.Name x p) [e] [{!"key",.Name y q,kp}] pos) (F6 (gQ sp) t):=do _;{?_};(pins,s,σ,H,Q,I,h);wpAny_Call_Name_kw (iq I v l n ?_ hn d);callWith_kw (bI (m pos pins s σ H _ I h) λus z ⟨vs,H1,i,r,u⟩=>kws_cons (AB i b c (kws_nil ?_) a)) (do[g];2) (do[g];2);OI F j.Qo o f (do this:=j.un;()) i r u
end
def NI{ix:List Nat}(h:ix.Perm (List.range js.length)):(ix.map λi=>js.getD i 0).Perm js:=do this:=h.map λi=>js.getD i 0;this.trans (.of_eq ?_);(by apply yc);(i);[qu];hi<|i<js.length;[yq hi,qh hi];¬some (js.getD i 0)=_;[zm,qh hi];2;[List.getElem?_eq_none (do 0<|hi),List.getElem?_eq_none ()];2
def pR{α:Type}(xs:List α)(x:α):m_ (xs++[x]) (-1)=!x:=do@m_;e:uE (xs++[x]).length (-1)=!xs.length:=(do@uE;[qi,qt,qB (),qF ()];(by congr 1);());[e];0
def Mz(h:∀d∈ds,f' d=true):PyData.eqv (.list ds) (.list ds)=true:=(wK _ _ (do[f'];pF h) (do[f'];pF h)).mpr rfl
theorem gR:∀{ds:List Sw} {k:Nat},(∀d∈ds,d.depth<=k)->PyData.depthAll ds<=k|[],_,_=>qv _|d::ds,k,h=>do a:=h d qm;b:=gR (ds:=ds) λx c=>h x (qy _ c);¬max d.depth (PyData.depthAll ds)<=k;()
section
variable {X:Cx}{K:PySem.W.Frag}
inductive Kp(x:V)(lo:Option Int)(hi:Option Int)(H:Hp)(Q:VK):Prop
 |mk(a xs:_)(_:x=.ref a)(_:aV H a xs)(_:¬(HT.b_ xs.length 0 lo=0/\HT.b_ xs.length xs.length hi=xs.length))(_:∀p H',H p=none->af H H'->H' p=!(.tup (d6 xs lo hi))->Q (.ref p) H')
def GB:vU X (Kp):=D_.imp λ_ _ _ _ _ ⟨a,xs,h1,h2,b,q⟩=>{a,xs,h1,h2,b,λp hp=>q p _ hp (af.new hp) aB}
end
theorem dZ:∀{ds:List Sw},(∀d∈ds,sk d d=true)->eN ds ds=true|[],_=>rfl|d::ds,h=>do[eN,h d qm,dZ λx a=>h x (qy _ a)];2
def Qc(h:∀d∈ds,sk d d=true):PyData.eqv (.list ds) (.list ds)=true:=do¬PyData.eqvAll ds ds=true;(EL ds ds (dZ h)).mpr rfl
end L2
namespace Rga
def after(b a:Nat):List Nat->List Nat|[]=>[]|x::xs=>if x=b then x::a::xs else x::after b a xs
abbrev Pl:=Nat×Option Nat
def ins(p:Pl)(row:List Nat):List Nat:=match p.2 with|none=>p.1::row|some b=>after b p.1 row
def iC:List Pl->List Nat|[]=>[]|p::qs=>ins p (iC qs)
def lK(a:List Pl):List Nat:=a.map (·.1)
def WF:List Pl->Prop|[]=>True|p::qs=>p.1∉lK qs/\(∀b,p.2=!b->b∈lK qs)/\WF qs
def rk(a:List Pl)(k:Option Nat):List Nat:=(a.filter λp=>decide (p.2=k)).map (·.1)
inductive mB(f:Option Nat->List Nat):List Nat->List Nat->Prop
 |nil:mB f [] []
 |cons {x:Nat} {st out:List Nat}:mB f (f (!x)++st) out->mB f (x::st) (x::out)
theorem HW:∀{row:List Nat},b∈row->(after b a row).Perm (a::row)|x::xs,h=>do@after;e<|x=b;[qF e];.swap _ _ _;[qB e];z||z:=q0.mp h;absurd z.symm e;((HW z).cons x).trans (.swap _ _ _)
theorem cY:∀{c:List Pl},WF c->(iC c).Perm (lK c)|[],_=>.refl _|(a,none)::c,h=>(cY h.2.2).cons a|(a,!b)::c,h=>(HW ((cY h.2.2).mem_iff.mpr (h.2.1 b rfl))).trans ((cY h.2.2).cons a)
theorem Ji:∀{a:List Pl},WF a->(lK a).Nodup|[],_=>vi|_::_,h=>z6.mpr {h.1,Ji h.2.2}
def jE(h:WF a):(iC a).Nodup:=(cY h).nodup_iff.mpr (Ji h)
def mU(p:Pl)(a:List Pl)(k:Option Nat):rk (p::a) k=if p.2=k then p.1::rk a k else rk a k:=do@rk;e<|p.2=k;[qF e,List.filter_cons_of_pos (do 0<|e)];2;[qB e,List.filter_cons_of_neg (do 0<|e)]
def Iz(h:WF b)(d:a∉lK b):rk b (!a)=[]:=do(by induction b with|nil|cons p b f=>?_);2;c:a∉lK b:=λz=>d (qy _ z);[mU,qB (λe=>c (h.2.1 a e)),f h.2.2 c]
theorem E_{f g:Option Nat->List Nat}:∀{st out:List Nat},mB f st out->(∀x∈out,g (!x)=f (!x))->mB g st out|_,_,.nil,_=>.nil|_,_,.cons (x:=x) d,h=>.cons (do[h x qm];E_ d λy a=>h y (qy _ a))
theorem Kh{f g:Option Nat->List Nat}(c:∀x,x≠b->g (!x)=f (!x))(j:g (!b)=a::f (!b))(h:g (!a)=[]) : ∀{st out:List Nat},mB f st out->out.Nodup->mB g st (after b a out)|_,_,.nil,_=>.nil|_,_,.cons (x:=x) (st:=st) (out:=out) d,hn=>do i:=z6.mp hn;@after;e<|x=b;[qF e];!e;.cons ?_;[j];.cons ?_;[h];E_ d λy k=>c y λz=>i.1 (z▸k);[qB e];.cons ?_;[c x e];Kh c j h d i.2
theorem jQ:∀{c:List Pl},WF c->mB (rk c) (rk c none) (iC c)|[],_=>.nil|(a,none)::c,h=>(do e:=jQ h.2.2;i:∀x,rk ((a,none)::c) (!x)=rk c (!x):=λx=>(do[mU,qB (λz=>do-z)]);[mU,qF rfl];.cons ?_;[i a,Iz h.2.2 h.1];E_ e λx _=>i x)|(a,!b)::c,h=>do e:=jQ h.2.2;d:a≠b:=λz=>h.1 (z▸h.2.1 b rfl);[mU,qB (λz=>do-z)];Kh (f:=rk c) (g:=rk ((a,!b)::c)) ?_ ?_ ?_ e (jE h.2.2);(x,j);[mU,qB (λz=>j (qJ z).symm)];[mU,qF rfl];[mU,qB (λz=>d (qJ z).symm),Iz h.2.2 h.1]
def mB.nil_inv{out:List Nat}(d:mB f [] out):out=[]:=do-d;2
def mB.cons_inv{st out:List Nat}(d:mB f (x::st) out):∃a,out=x::a/\mB f (f (!x)++st) a:=do(by cases d with|cons d=>?_);{_,O,d}
theorem zZ{R:Nat->Nat->Bool}:∀{xs ys:List Nat},xs.Perm ys->(xs.Pairwise λa b=>R b a=false)->(ys.Pairwise λa b=>R a b=true)->xs=ys|[],ys,p,_,_=>(List.nil_perm.mp p).symm|x::xs,[],p,_,_=>absurd p.length_eq (do 0)|x::xs,y::ys,p,hx,hy=>do e<|x=y;!e;[zZ ((List.perm_cons x).mp p) (vy.mp hx).2 (vy.mp hy).2];h1:y∈xs:=(do z||z:=q0.mp (p.mem_iff.mpr qm);absurd z.symm e;z);h2:x∈ys:=(do z||z:=q0.mp (p.mem_iff.mp qm);absurd z e;z);a1:=(vy.mp hx).1 y h1;a2:=(vy.mp hy).1 x h2;a1←[a2];-a1
end Rga
namespace L2
open PySem PySem.Spec PySem.W PyProof.Rows
def wH{D:Nat->Sw}{js ms ix:List Nat}(hp:js.Perm ms)(f:ms.Pairwise λa b=>bT (D a) (D b)=true)(h:dj (js.map D) ix):(ix.map λi=>js.getD i 0)=ms:=do e:ix.Perm (List.range js.length):=(by have:=h.1;rwa [qj]at this);Rga.zZ (R:=λa b=>bT (D a) (D b)) ((NI e).trans hp) ?_ f;h2:=h.2;(by rw[wb]at h2 ⊢);h2.imp_of_mem λ{a b} g j c=>?_;d:∀i,i∈ix->c_ (js.map D) i=D (js.getD i 0):=λi hi=>(do this:i<js.length:=qo.mp (e.mem_iff.mp hi);@c_;[zm,qu,zm,qh this];2);c←[d a g,d b j];c
def ai(H H':Hp):Prop:=∀b xs,H b=!(.tup xs)->H' b=!(.tup xs)
section
variable {H H1 H':Hp}
def af.ab(s:af H H'):ai H H':=λb xs e=>s b _ e
def ai.trans(a:ai H H1)(b:ai H1 H'):ai H H':=λc xs e=>b c xs (a c xs e)
def ai.refl(H:Hp):ai H H:=λ_ _ e=>e
def ai.wr(e:H a=!o)(c:∀ys,o≠.tup ys):ai H (upd H a o'):=λb xs q=>do[ak (Lh q e c)];q
def ai.wl(e:H a=!(.lst xs)):ai H (upd H a o'):=ai.wr e λys z=>do-z
def ai.wd(e:H a=!(.dG kvs)):ai H (upd H a o'):=ai.wr e λys z=>do-z
mutual
theorem DT.ab(t:ai H H'):∀{x:V} {d:Sw},DT H x d->DT H' x d
 |_,_,.aQ=>.aQ
 |_,_,.bl b=>.bl b
 |_,_,.int i=>.int i
 |_,_,.str z=>.str z
 |_,_,.tup e h=>.tup (t _ _ e) (cz.ab t h)
theorem cz.ab(t:ai H H'):∀{x:List V} {d:List Sw},cz H x d->cz H' x d
 |_,_,.nil=>.nil
 |_,_,.cons a b=>.cons (DT.ab t a) (cz.ab t b)
end
def GK.ab(g:GK H k v)(t:ai H H'):GK H' k v:=g.cQ t
end
def AN(P:V->Nat->Prop)(vs:List V)(js:List Nat):Prop:=vs.length=js.length/\∀(m:Nat) v i,vs[m]?=!v->js[m]?=!i->P v i
section
variable {P P':V->Nat->Prop}{vs us:List V}{js ks:List Nat}
def AN.imp(h:AN P vs js)(f:∀v i,P v i->P' v i):AN P' vs js:={h.1,λm v i a b=>f _ _ (h.2 m v i a b)}
def AN.nil:AN P [] []:={O,λm v i z=>do-z}
def AN.app(h:AN P vs js)(g:AN P us ks):AN P (vs++us) (js++ks):=do _;{do[qi,qi,h.1,g.1],λm v i a b=>?_};c<|m<vs.length;a←[zv c];b←[zv (do[←h.1];c)];h.2 m v i a b;a←[ye ()];b←[ye (do[←h.1];()),←h.1];g.2 _ v i a b
def AN.one(h:P v i):AN P [v] [i]:={O,λm c i' a b=>do(by cases m with|zero|succ m=>?_);-a;-b;h;-a}
def AN.snoc(h:AN P vs js)(a:P v i):AN P (vs++[v]) (js++[i]):=h.app (.one a)
theorem AN.ix(h:AN P vs js)(ix:List Nat)(c:∀i∈ix,i<vs.length):AN P (ix.map λi=>vs.getD i .aQ) (ix.map λi=>js.getD i 0):=do _;{do[qj,qj],λm v i a f=>?_};(by rw[qu]at a f;cases e:ix[m]? with|none|some k=>?_);a←[e];-a;(by rw[e]at a f);d:=c k (qw e);b:k<js.length:=(do[←h.1];d);h.2 k v i ?_ ?_;[←qJ a,qh d];¬some vs[k]=!(vs.getD k .aQ);[zm,qh d];2;[←qJ f,qh b];¬some js[k]=!(js.getD k 0);[zm,qh b];2
def AN.at{m:Nat}{v:V}(h:AN P vs js)(e:vs[m]?=!v):∃i,js[m]?=!i/\P v i:=do a:m<js.length:=(do[←h.1];(qk.mp e).1);{js[m],qh a,h.2 m v _ e (qh a)}
def AN.last(h:AN P vs (js++[i])):∃us x,vs=us++[x]/\AN P us js/\P x i:=do a:=h.1;a←[qi,qt];z||{us,x,z}:=jb vs;a←[z];absurd a (do 0);z←[jc];!z;d:us.length=js.length:=(do a←[qi,qt];());{us,x,O,{d,λm v i b c=>h.2 m v i ?_ ?_},h.2 us.length x i (do 0) (do[d];0)};[zv (qk.mp b).1];b;[zv (qk.mp c).1];c
end
def kd(nk:Nat->List Key):Option Nat->KD|none=>.aQ|some i=>.tup (nk i)
def NM(nk:Nat->List Key)(H:Hp)(v:V)(i:Nat):Prop:=GK H (.tup (nk i)) v
def PL(nk:Nat->List Key)(bh:Nat->Option Nat)(D:Nat->Sw)(H:Hp)(v:V)(k:Nat):Prop:=∃b vn a vk,v=.ref b/\H b=!(.tup [vn,a,vk])/\NM nk H vn k/\GK H (kd nk (bh k)) a/\DT H vk (D k)
section
variable {nk:Nat->List Key}{bh:Nat->Option Nat}{D:Nat->Sw}{H H' H0:Hp}{v:V}{k:Nat}
theorem NM.ab(h:NM nk H v k)(t:ai H H'):NM nk H' v k:=GK.ab h t
theorem PL.ab(h:PL nk bh D H v k)(t:ai H H'):PL nk bh D H' v k:=do _;{b,vn,c,vk,e,h1,h2,d,a}:=h;{b,vn,c,vk,e,t _ _ h1,h2.ab t,d.ab t,a.ab t}
structure wC(nk:Nat->List Key)(bh:Nat->Option Nat)(D:Nat->Sw)(ms:List Nat)(t:Nat):Prop where
 cJ:ms.length<=2000
 up:ms.Pairwise λa b=>bT (D a) (D b)=true
 inj:∀i∈ms,∀j∈ms,nk i=nk j->i=j
 wf:Rga.WF (ms.reverse.map λk=>(k,bh k))
 keys:KeysAre (ms.map D) t
def kids(bh:Nat->Option Nat)(ms:List Nat)(k:Option Nat):List Nat:=ms.filter λm=>decide (bh m=k)
def Gh(bh:Nat->Option Nat)(ms:List Nat)(m:Nat)(k:Option Nat):kids bh (ms++[m]) k=if bh m=k then kids bh ms k++[m] else kids bh ms k:=do@kids;[yg];e<|bh m=k;[qF e,List.filter_cons_of_pos (do 0<|e)];2;[qB e,List.filter_cons_of_neg (do 0<|e),List.filter_nil,List.append_nil]
def Ha(bh:Nat->Option Nat)(ms:List Nat)(k:Option Nat):Rga.rk (ms.reverse.map λm=>(m,bh m)) k=(kids bh ms k).reverse:=do(by unfold Rga.rk kids);[List.filter_map,z9,←be];¬List.map (λx=>x) _=_;[List.map_id'];2
structure FD(nk:Nat->List Key)(bh:Nat->Option Nat)(all ms:List Nat)(H0 H:Hp)(dq:Sx)(kvs:List (KD×V×V)):Prop where
 has:H dq=!(.dG kvs)
 new:H0 dq=none
 each:∀k:Option Nat,(∀i,k=!i->i∈all)->(vG kvs (kd nk k)=none/\kids bh ms k=[])\/∃q vs,vG kvs (kd nk k)=!(.ref q)/\H q=!(.lst vs)/\AN (NM nk H) vs (kids bh ms k)/\H0 q=none
 inj:∀k k' q,vG kvs k=!(.ref q)->vG kvs k'=!(.ref q)->k=k'
 live:∀k q,vG kvs k=!(.ref q)->∃xs,H q=!(.lst xs)
def FD.same{all ms:List Nat}(h:FD nk bh all ms H0 H dq kvs)(s:af H H'):FD nk bh all ms H0 H' dq kvs where
 has:=s _ _ h.has
 new:=h.new
 each:=λk a=>by
  rcases h.each k a with z|⟨q,vs,h1,h2,h3,h4⟩
  .exact .inl z
  .exact .inr ⟨q,vs,h1,s _ _ h2,h3.imp λv i g=>g.ab s.ab,h4⟩
 inj:=h.inj
 live:=λk q e=>let⟨xs,z⟩:=h.live k q e;{xs,s _ _ z}
def KQ{all:List Nat}(hi:∀i∈all,∀j∈all,nk i=nk j->i=j){k a:Option Nat}(h1:∀i,k=!i->i∈all)(h2:∀i,a=!i->i∈all)(e:kd nk k=kd nk a):k=a:=do(by cases k with|none|some i=>?_;cases a with|none|some j=>?_);2;-e;(by cases a with|none|some j=>?_);-e;[hi i (h1 i rfl) j (h2 j rfl) (KD.tup.inj e)]
def FD.old{all ms:List Nat}{dq q:Sx}{kvs:List (KD×V×V)}{m:Nat}{vn:V}{vs:List V}(h:FD nk bh all ms H0 H dq kvs)(hi:∀i∈all,∀j∈all,nk i=nk j->i=j)(o:∀i,bh m=!i->i∈all)(e:vG kvs (kd nk (bh m))=!(.ref q))(eq:H q=!(.lst vs))(p:NM nk H vn m):FD nk bh all (ms++[m]) H0 (upd H q (.lst (vs++[vn]))) dq kvs where
 has:=by rw[ak (λz=>by rw[←z,h.has]at eq;cases eq)];exact h.has
 new:=h.new
 inj:=h.inj
 live:=λk a r=>by
  by_cases z:a=q
  .subst z;exact{_,aB}
  .obtain⟨xs,y⟩:=h.live k a r
   exact{xs,by rw[ak z];exact y}
 each:=λk d=>by
  have n:ai H (upd H q (.lst (vs++[vn]))):=ai.wl eq;rw[Gh]
  by_cases c:bh m=k
  .subst c
   rw[qF rfl];rcases h.each _ d with⟨z,_⟩|⟨a,b,h1,h2,f,l⟩
   .rw[z]at e;cases e
   .rw[e]at h1
    cases h1;rw[eq]at h2;cases h2;exact .inr {q,_,e,aB,(f.snoc p).imp λv i g=>g.ab n,l}
  .rw[qB c]
   rcases h.each k d with z|⟨a,b,h1,h2,f,l⟩
   .exact .inl z
   .refine .inr ⟨a,b,h1,?_,f.imp λv i g=>g.ab n,l⟩
    have nq:a≠q:=λz=>c (KQ hi o d (h.inj _ _ q e (by rw[←z];exact h1)))
    rw[ak nq];exact h2
def FD.first{all ms:List Nat}{dq q:Sx}{kvs:List (KD×V×V)}{m:Nat}{vn vk:V}(h:FD nk bh all ms H0 H dq kvs)(hi:∀i∈all,∀j∈all,nk i=nk j->i=j)(w:∀i,bh m=!i->i∈all)(e:vG kvs (kd nk (bh m))=none)(t:H0 q=none)(eq:H q=!(.lst []))(b:∀k,vG kvs k≠some (.ref q))(x:NM nk H vn m):FD nk bh all (ms++[m]) H0 (upd (upd H dq (.dG (pG kvs (kd nk (bh m)) vk (.ref q)))) q (.lst [vn])) dq (pG kvs (kd nk (bh m)) vk (.ref q)) where
 has:=by rw[ak (λz=>by rw[←z,h.has]at eq;cases eq),aB]
 new:=h.new
 inj:=λk r a h1 h2=>by
  rw[eL]at h1 h2
  by_cases n:k=kd nk (bh m)
  .by_cases l:r=kd nk (bh m)
   .rw[n,l]
   .rw[qF n]at h1
    rw[qB l]at h2;cases h1;exact absurd h2 (b r)
  .rw[qB n]at h1
   by_cases l:r=kd nk (bh m)
   .rw[qF l]at h2
    cases h2;exact absurd h1 (b k)
   .rw[qB l]at h2
    exact h.inj _ _ _ h1 h2
 live:=λk a f=>by
  by_cases z:a=q
  .subst z;exact{_,aB}
  .rw[eL]at f
   by_cases c:k=kd nk (bh m)
   .rw[qF c]at f
    cases f;exact absurd rfl z
   .rw[qB c]at f
    obtain⟨xs,y⟩:=h.live k a f
    have p:a≠dq:=λz=>by rw[z,h.has]at y;cases y
    exact{xs,by rw[ak z,ak p];exact y}
 each:=λk o=>by
  have nq:q≠dq:=λz=>by rw[z,h.has]at eq;cases eq
  have A:ai H (upd H dq (.dG (pG kvs (kd nk (bh m)) vk (.ref q)))):=ai.wd h.has
  have s:(upd H dq (.dG (pG kvs (kd nk (bh m)) vk (.ref q)))) q=!(.lst []):=by rw[ak nq];exact eq
  have u:=A.trans (ai.wl (o':=.lst [vn]) s);rw[Gh,eL]
  by_cases c:bh m=k
  .subst c
   rw[qF rfl,qF rfl];rcases h.each _ o with⟨_,z⟩|⟨a,d,h1,_⟩
   .rw[z]
    exact .inr ⟨q,[vn],O,aB,.one (x.ab u),t⟩
   .rw[e]at h1;cases h1
  .rw[qB c,qB (λz=>c (KQ hi w o z.symm))]
   rcases h.each k o with z|⟨a,d,h1,h2,h3,h4⟩
   .exact .inl z
   .refine .inr ⟨a,d,h1,?_,h3.imp λv i g=>g.ab u,h4⟩
    have B:a≠q:=λz=>b _ (z▸h1)
    have p:a≠dq:=λz=>by rw[z,h.has]at h2;cases h2
    rw[ak B,ak p];exact h2
def FD.get{all ms:List Nat}(h:FD nk bh all ms H0 H dq kvs)(b:H z=!(.lst []))(k:Option Nat)(c:∀i,k=!i->i∈all):∃a vs,(vG kvs (kd nk k)).getD (.ref z)=.ref a/\H a=!(.lst vs)/\AN (NM nk H) vs (kids bh ms k):=do _;{h1,h2}||{q,vs,h1,h2,d,_}:=h.each k c;⟨z,[],do[h1];2,b,do[h2];.nil⟩;⟨q,vs,do[h1];2,h2,d⟩
end
end L2
namespace Rga
theorem Af:∀{a:List Pl},WF a->∀{k b:Nat},(k,!b)∈a->b∈lK a|p::a,h,k,b,hm=>do z||z:=q0.mp hm;qy _ (h.2.1 b (do[←z]));qy _ (Af h.2.2 z)
theorem j_:∀{st out:List Nat},mB f st out->st.length<=out.length|_,_,.nil=>qe _|_,_,.cons (x:=x) d=>do this:=j_ d;this←[qi];[zd,zd];()
def cP(bh:Nat->Option Nat)(ms:List Nat):List Pl:=ms.reverse.map λk=>(k,bh k)
def eO(bh:Nat->Option Nat)(ms:List Nat):lK (cP bh ms)=ms.reverse:=do(by unfold lK cP);[z9];¬List.map (λx=>x) _=_;[List.map_id']
def DD(h:m∈ms):(m,bh m)∈cP bh ms:=qf.mpr {m,yh.mpr h,O}
def Gm(w:WF (cP bh ms))(a:m∈ms)(e:bh m=!i):i∈ms:=do this:=Af w (k:=m) (b:=i) (do[←e];DD a);this←[eO];yh.mp this
def nU(w:WF (cP bh ms))(h:x∈iC (cP bh ms)):x∈ms:=do this:=(cY w).mem_iff.mp h;this←[eO];yh.mp this
def gK(w:WF (cP bh ms)):(iC (cP bh ms)).length=ms.length:=do[(cY w).length_eq,eO,vd]
end Rga
namespace L2
open PySem PySem.Spec PySem.W PyProof.Rows
def del(H:Hp)(p:Sx):Hp:=λb=>if b=p then none else H b
def d9:del H p p=none:=qF rfl
def bR(h:b≠p):del H p b=H b:=qB h
def HD(h:H b=none):del H p b=none:=do e<|b=p;!e;d9;[bR e];h
def lJ:af (del H p) H:=λb u q=>do e<|b=p;!e;q←[d9];-q;q←[bR e];q
def ai.cut(e:H p=!(.lst xs))(s:af (del H p) H'):ai H H':=λb ys q=>s _ _ (do[bR (Lh q e λzs z=>do-z)];q)
end L2
namespace Rga
theorem hG:∀{n:Nat},(∀i,i<n->∀b,bh i=!b->b<i)->WF (cP bh (List.range n))| 0,_=>trivial|n+1,h=>do e:cP bh (List.range (n+1))=(n,bh n)::cP bh (List.range n):=(do@cP;[yi,jy];2);[e];{?_,λb a=>?_,hG λi hi=>h i ()};[eO,yh,qo];wu n;[eO,yh,qo];h n () b a
end Rga
namespace L2
open PySem PySem.Spec PySem.W PyProof.Rows Rga
def qX(h:x<y):bF (.int x::r) (.int y::a)=true:=do[bF,qB (λz=>by have:=(cK _ _ rfl).mp z;injection this with this;omega)];qI h
def wX(h:bF r a=true):bF (.int x::r) (.int x::a)=true:=do[bF,qF ((cK _ _ rfl).mpr rfl)];h
def R9(d:Sw):Prop:=(∃a b:Int,d=.tuple [.int a,.int b])\/∃a b c:Int,d=.tuple [.int a,.int b,.int c]
def tG(h:∀d∈ds,R9 d):KeysAre ds 2:=do _;{dH λd a=>?_,λd a=>?_,λx b y c=>?_,λd a=>?_};by rcases h d a with⟨_,_,rfl⟩|⟨_,_,_,rfl⟩ <;> rfl;rcases h d a with⟨_,_,rfl⟩|⟨_,_,_,rfl⟩ <;> trivial;rcases h x b with⟨_,_,rfl⟩|⟨_,_,_,rfl⟩ <;> rcases h y c with⟨_,_,rfl⟩|⟨_,_,_,rfl⟩ <;> rfl;rcases h d a with⟨_,_,rfl⟩|⟨_,_,_,rfl⟩ <;> exact(by decide:1<=60)
end L2
namespace L2
open PySem PySem.Spec PySem.W PyProof.Rows
def jK(A:Around)(s:Sv)(x y:MD)(b:Bool):Prop:=∀(prog:Program) (w:World) (E:KE) (Q:KE),Q (.bool b) s->wpAny (model prog w) A (richCompare .Gt x y) Q E s
open SeqAt in
def MC(l b:Sx)(us vs:Array MD)(n D:Nat)(v t:Option Sx)(sl r:Array (Option MD))(e:Nat->Bool)(c:Bool) :
  Meets (Builtin.«tuple.__gt__» {[.ref l,.ref b],[]})
   (λA R s=>s.heap.get? l=some { cls:=.type "tuple",dict:=v,data:=.seq us n,slots:=sl }/\s.heap.get? b=some { cls:=.type "tuple",dict:=t,data:=.seq vs D,slots:=r } ∧
    (∀j (h1:j<us.size) (h2:j<vs.size),EqAt A.in1 s us[j] vs[j] (e j)) ∧
    (∀i (h1:i<us.size) (h2:i<vs.size),(∀j,j<i->e j=true)->e i=false->jK A.in1 s us[i] vs[i] c) ∧
    ((∀j,j<min us.size vs.size->e j=true)->c=decide (vs.size<us.size))/\R (.ok (.ret (.bool c))) s) :=
 .of_wp λprog w A R s h=>by
  obtain⟨hp,g,d,tk,F⟩:=s;obtain⟨G,B,E,o,k,h⟩:=h;have I:=AutoSeq1.sub_tuple_tuple
  have H:(us.toList.zip vs.toList).length=min us.size vs.size:=by simp
  wp_walk using wpAny_loadPart' G,wpAny_loadPart' B,wpAny_forIn_list _ (λrest b s'=>b.1=none/\s'={hp,g,d,tk,F}/\∃i,rest=(us.toList.zip vs.toList).drop i/\∀j,j<i->e j=true) _
  case turn =>
   rintro⟨y,x⟩ rest b s' ⟨a,rfl,i,hz,hi⟩
   have f:i<(us.toList.zip vs.toList).length:=by
    rcases jl i (us.toList.zip vs.toList).length with h' |h'
    .exact h'
    .rw[nv h']at hz;cases hz
   have h1:i<us.size:=()
   have h2:i<vs.size:=()
   rw[jm f]at hz;injection hz with hyx hrest
   have m:y=us[i]:=by have:=congrArg Prod.fst hyx;simpa using this
   have u:x=vs[i]:=by have:=congrArg Prod.snd hyx;simpa using this
   subst m u;refine qA (E i h1 h2 prog w _ _ ?_)
   cases m:e i with
   |true =>
    wp_walk
    exact{O,O,i+1,hrest,λj p=>by
     by_cases z:j=i
     .rw[z];exact m
     .exact hi j ()}
   |false =>
    have q:=o i h1 h2 hi m;dsimp only;rw[qF (by rfl)];refine qA (wpAny_rule (qA (q prog w _ _ ?_)));exact qA (qE (qE (qE {_,O,h})))
  case fin =>
   rintro⟨K,J⟩ s' ⟨a,rfl,i,hz,hi⟩
   simp only at a
   subst a
   have C:min us.size vs.size<=i:=by
    rcases jl i (us.toList.zip vs.toList).length with h' |h'
    .rw[jm h']at hz;cases hz
    .omega
   have:=k λj p=>hi j ()
   wp_walk
   exact{_,O,by rw[this]at h;simpa[Builtin.Tuple.tupleCompareSizes] using h}
  case h =>
   exact{O,O,0,O,λj p=>absurd p (vj _)}
def jK.tuples{A:Around}{s:Sv}{l b:Sx}{us vs:Array MD}{e:Nat->Bool}{c:Bool}(C:s.heap.IsTuple l us)(y:s.heap.IsTuple b vs)(B:A.units<cLine)(u:∀j (h1:j<us.size) (h2:j<vs.size),SeqAt.EqAt A.in1 s us[j] vs[j] (e j))(m:∀i (h1:i<us.size) (h2:i<vs.size),(∀j,j<i->e j=true)->e i=false->jK A.in1 s us[i] vs[i] c)(a:(∀j,j<min us.size vs.size->e j=true)->c=decide (vs.size<us.size)):jK A s (.ref l) (.ref b) c:=λprog w E Q h=>do _;{{D,v,data,sl},t,p,n,r}:=id C;{{q,g,k,o},f,d,z,hd2}:=id y;(by simp only at p r d hd2;subst p r d hd2);richCompare_meets_room (op:=.Gt) {_,t,O} {_,f,O} F.slot_tuple_gt F.entry_tuple_gt (F.args_tuple_gt_2 _ _) (MC l b us vs n z v g sl o e c) {t,f,u,m,a,show Value.bool c≠Value.notImplemented/\Q (.bool c) s from{(λx=>nomatch x),h}} B
def jK.ints{A:Around}(i j:Int)(t u:Tok):jK A s (.int i t) (.int j u) (decide (j<i)):=λprog w E Q h => richCompare_gives (op:=.Gt) (typeIs_int s _ t) (typeIs_int s _ u) F.slot_int_gt F.entry_int_gt (F.args_int_gt_2 _ _) (gives_int_gt _ _ t u) (λx=>nomatch x) h
def BS{ns:List Int}{i:Nat}(h:i<(ns.map PyData.int).length):∃k,(ns.map PyData.int).getD i .none=.int k:=do h←[qj];{ns[i],do[zm,qu,qh h];2}
theorem D0:∀ns:List Int,PyData.canLayAll0 (ns.map PyData.int)=true|[]=>rfl|n::ns=>do¬(true&&PyData.canLayAll0 (ns.map PyData.int))=true;[D0 ns];2
theorem KW:∀ns:List Int,PyData.depthAll (ns.map PyData.int)=0|[]=>rfl|n::ns=>do¬max 0 (PyData.depthAll (ns.map PyData.int))=0;[KW ns];2
theorem xA:∀ns ms:List Int,eN (ns.map PyData.int) (ms.map PyData.int)=true|[],_=>rfl|_::_,[]=>rfl|n::ns,m::ms=>do¬(true&&eN (ns.map PyData.int) (ms.map PyData.int))=true;[xA ns ms];2
open SeqAt in
def PM:∀(ns ms:List Int) (j:Nat),pairEq (ns.map PyData.int) (ms.map PyData.int) j=pairEq (ms.map PyData.int) (ns.map PyData.int) j:=λns ms j=>by
 unfold pairEq
 have sd:∀a b:Sw,(∃x,a=.int x)\/a=.none->(∃x,b=.int x)\/b=.none->PyData.eqv a b=PyData.eqv b a:=λa b d f=>by
  rcases d with⟨x,rfl⟩|rfl <;> rcases f with⟨y,rfl⟩|rfl
  .by_cases e:x=y
   .rw[e]
   .have h1:PyData.eqv (.int x) (.int y)=false:=by
     cases q:PyData.eqv (.int x) (.int y) with
     |false=>rfl
     |true=>have:=(cK _ _ rfl).mp q;injection this with this;exact absurd this e
    have h2:PyData.eqv (.int y) (.int x)=false:=by
     cases q:PyData.eqv (.int y) (.int x) with
     |false=>rfl
     |true=>have:=(cK _ _ rfl).mp q;injection this with this;exact absurd this.symm e
    rw[h1,h2]
  .rfl
  .rfl
  .rfl
 have c:∀l:List Int,(∃x,(l.map PyData.int).getD j .none=.int x)\/(l.map PyData.int).getD j .none=.none:=λl=>by
  by_cases h:j<(l.map PyData.int).length
  .exact .inl (BS h)
  .exact .inr (by rw[zm,v9 ()];rfl)
 exact sd _ _ (c ns) (c ms)
open SeqAt in
def Qx{A:Around}{s:Sv}{a b:MD}{C bs:List Sx}{ns ms:List Int}(w:Reads s.heap a (.tuple (ns.map PyData.int)) C)(z:Reads s.heap b (.tuple (ms.map PyData.int)) bs)(H:A.units+2<cLine) :
  jK A s a b (bT (.tuple (ms.map PyData.int)) (.tuple (ns.map PyData.int))):=by
 cases w with
 |tuple h1 h2 D n =>
  cases z with
  |tuple E B v g =>
   rename_i l o us m J o' vs I
   have q:=ReadsAll.length _ _ _ n;have r:=ReadsAll.length _ _ _ g;rw[zx]at q r;rw[bT]
   have p:∀j (e:j<us.size) (f:j<vs.size),EqAt A.in1 s us[j] vs[j] (pairEq (ms.map PyData.int) (ns.map PyData.int) j):=λj e f=>by
    obtain⟨G,c⟩:=iw (i:=j) (by rw[zx];exact e) n;obtain⟨p2,d⟩:=iw (i:=j) (by rw[zx];exact f) g;have u:=xc (ns.map PyData.int) j ();rw[KW]at u;have:=eqAt_reads ((ns.map PyData.int).getD j .none) ((ms.map PyData.int).getD j .none) A.in1 s _ _ _ _ c d (oY (D0 ns) ()) (oY (D0 ms) ()) (by show A.units+1+_<cLine;omega)
    simp only[Array.getElem_toList]at this
    rw[←PM];exact this
   refine jK.tuples {_,h1,h2,_,D} {_,E,B,_,v} () p (λi e f k F=>?_) λk=>?_
   .obtain⟨G,c⟩:=iw (i:=i) (by rw[zx];exact e) n
    obtain⟨p2,d⟩:=iw (i:=i) (by rw[zx];exact f) g;rw[Fg _ _ i () () k F];obtain⟨x,ex⟩:=BS (ns:=ns) (i:=i) ();obtain⟨y,t⟩:=BS (ns:=ms) (i:=i) ();rw[ex]at c ⊢;rw[t]at d ⊢
    simp only[Array.getElem_toList]at c d
    generalize us[i]=u0 at c ⊢;generalize vs[i]=v0 at d ⊢;cases c;cases d;exact jK.ints _ _ _ _
   .rw[BV _ _ λj h=>k j (),q,r]
def uB(c:Sx)(q:Sy):HO:=.ext λh=>h.CodeRec (.ref c) q
def Tb(a cl:Nat)(q:Sy)(P:Sx)(H:Hp):Prop:=H P=!(.cf #[])\/∃c,H P=!(.cf #[rawInt a,rawInt cl,.ref c])/\H c=!(uB c q)
def Tb.same{a cl:Nat}(t:Tb a cl q P H)(s:af H H'):Tb a cl q P H':=do t||{c,t,u}:=t;.inl (s _ _ t);.inr ⟨c,s _ _ t,s _ _ u⟩
theorem Tb.cf{a cl:Nat}(t:Tb a cl q P H):∃ps,H P=!(.cf ps):=do t||{c,t,u}:=t;⟨_,t⟩;⟨_,t⟩
def Tb.keep{a cl:Nat}(t:Tb a cl q P H)(k:∀b u,H b=!u->((∃ps,u=.cf ps)\/∃d,u=.ext d)->H' b=!u):Tb a cl q P H':=do t||{c,t,u}:=t;.inl (k _ _ t (.inl ⟨_,O⟩));.inr ⟨c,k _ _ t (.inl ⟨_,O⟩),k _ _ u (.inr ⟨_,O⟩)⟩
def Tb.cut{f cl:Nat}(t:Tb f cl q P H)(e:H a=!o)(h1:∀ps,o≠.cf ps)(h2:∀d,o≠.ext d)(s:af (del H a) H'):Tb f cl q P H' := t.keep λb u c g=>s _ _ (do[bR (λz=>?_)];c;!z;c←[e];-c;{ps,z}||{d,z}:=g;h1 _ z;h2 _ z)
def Tb.wr{c cl:Nat}(t:Tb c cl q P H)(e:H a=!o)(h1:∀ps,o≠.cf ps)(h2:∀d,o≠.ext d):Tb c cl q P (upd H a o') := t.cut e h1 h2 λb u q=>do z<|b=a;!z;q←[d9];-q;q←[bR z];[ak z];q
def QE(r:h.CodeRec (.ref c) q):aS P w H h c (uB c q):=do st:∀h1 h2:Heap,h1.CodeRec (.ref c) q->(∀o,h1.get? c=!o->h2.get? c=!o)->h2.CodeRec (.ref c) q:=(do(h1,h2,{d,f,vs,b,e,a,r},k);-e;{_,_,_,_,O,k _ a,r});{d,f,vs,b,e,a,g}:=id r;-e;{r,{_,a},st}
def mK(K:PySem.W.Frag)(x:Sy):Sx:=match tabIn K x with|some (_,P)=>P|none=>0
def Oi(K:PySem.W.Frag)(x:Sy):Sx:=match tabIn K x with|some (c,_)=>c|none=>0
section
variable {X:Cx}{pins:List (Sx×Obj)}{σ:St}{H:Hp}{s:Sv}
def Inv.kO(I:Inv X pins σ H s){b:Sx}(a:↑s<=b):b∉d_ X.stack:=λc=>do z||z:=q0.mp (I.gU b c);absurd (zf I.lt a) (do[z];wu _);I.vO a z
def Inv.FH{P c:Sx}{q:Sy}{h':Heap}{tk:Nat}{more:Array MD}(I:Inv X pins σ H s)(f:H P=!(.cf #[]))(l:∀b o,b≠P->s.heap.get? b=!o->h'.get? b=!o)(m:↑s<=c)(B:h'.CodeRec (.ref c) q)(w:h'.get? P=!(tabObj more)) : Inv X pins σ (upd (upd H P (.cf more)) c (uB c q)) {s with heap:=h',toks:=tk}:=do r:H c=none:=I.aR.fresh m;x:P<↑s:=I.aR.lt f;p:P≠c:=qp (zf x m);a:∀b,b≠P->b≠c->(upd (upd H P (.cf more)) c (uB c q)) b=H b:=λb h1 h2=>(do[ak h2,ak h1]);j:∀{b u},H b=!u->(∀ps,u≠.cf ps)->b≠P/\b≠c:=λ{b u} e A=>{λz=>do !z;f←[e];A _ (qJ f),λz=>do !z;r←[e];-r};I.un {λb o e n _ _=>l b o (λz=>do !z;f←[n];-f) e,λb o e n _ _=>{o.slots,l b o (λz=>do !z;f←[n];-f) e},λb o e n _=>?_,λb o e _=>?_,λb xs e=>?_,λb o u e=>?_,λb ps e=>?_,λb o xs e n=>l b o (j n λps z=>do-z).1 e} λb u e=>?_;[a b (λz=>do !z;f←[n];-f) (qp (zf (qG e) m))];n;z<|b=P;!z;{_,w};{o,l b o z e};{h,i}:=j e λps z=>(do-z);[a b h i];e;{h,i}:=j e λps z=>(do-z);[a b h i];e;z<|b=P;!z;e←[f];-e;{more,do[ak p,aB];0};{#[],?_};[a b z (λy=>do !y;e←[r];-e),e];0;t<|b=c;!t;e←[aB];-e;QE B;e←[ak t];z<|b=P;!z;e←[aB];-e;w;e←[ak z];(I.aR b u e).cQ (λd v k g=>l d v ?_ g) (λd g=>?_) λd xs g=>?_;k||k:=k;[k];z;(j k λps y=>do-y).1;{h,i}:=j g λps y=>(do-y);[a d h i];g;{h,i}:=j g λps y=>(do-y);[a d h i];g
end
end L2
namespace Rga
def Mq{P:Nat->Bool}{p:Pl}{a:List Pl}(h:P p.1=true):(p::a).filter (λp=>P p.1)=p::a.filter λp=>P p.1:=jd (p:=λp:Pl=>P p.1) h
def Oj{P:Nat->Bool}{p:Pl}{a:List Pl}(h:¬P p.1=true):(p::a).filter (λp=>P p.1)=a.filter λp=>P p.1:=je (p:=λp:Pl=>P p.1) h
def KS(P:Nat->Bool)(a:List Pl):Prop:=∀k b,(k,!b)∈a->P k=true->P b=true
def KS.tail(h:KS P (p::a)):KS P a:=λk b c=>h k b (qy _ c)
def Hz{P:Nat->Bool}{a:List Pl}{x:Nat}:x∈lK (a.filter λp=>P p.1)↔x∈lK a/\P x=true:=do@lK;1;(h);{p,hp,rfl}:=qf.mp h;this:=zk.mp hp;{qf.mpr {p,this.1,O},this.2};({h,b});{p,hp,rfl}:=qf.mp h;qf.mpr {p,zk.mpr {hp,b},O}
theorem jB:∀{d:List Pl},WF d->KS P d->WF (d.filter λp=>P p.1)|[],_,_=>trivial|(a,o)::d,h,c=>do i:=jB h.2.2 c.tail;e<|P a=true;[Mq (p:=(a,o)) e];{λz=>h.1 (Hz.mp z).1,λb g=>Hz.mpr {h.2.1 b g,?_},i};f:o=!b:=g;!f;c a b qm e;[Oj (p:=(a,o)) e];i
def pf(P:Nat->Bool)(bh:Nat->Option Nat)(ms:List Nat):cP bh (ms.filter P)=(cP bh ms).filter λp=>P p.1:=do@cP;[List.filter_map,←be];2
def Bn(h:∀k∈ms,P k=true->∀b,bh k=!b->P b=true):KS P (cP bh ms):=λk b a d=>do _;{j,f,e}:=qf.mp a;c:j=k:=congrArg Prod.fst e;g:bh j=!b:=congrArg Prod.snd e;!c;h _ (yh.mp f) d b g
end Rga
namespace L2
open PySem PySem.Spec PySem.W PyProof.Rows
def AN.mem(h:AN P vs js)(b:v∈vs):∃i∈js,P v i:=do _;{m,a,e}:=z8.mp b;{i,hi,p}:=h.at (m:=m) (v:=v) (do[qh a,e]);{i,qw hi,p}
theorem Ll:∀{ds:List Sw},PyData.canLayAll0 ds=true->d∈ds->d.canLay0=true|e::ds,h,hm=>do a:(e.canLay0&&PyData.canLayAll0 ds)=true:=h;a←[zt];rfl||hm:=q0.mp hm;a.1;Ll a.2 hm
def KeysAre.sub{ds es:List Sw}(h:KeysAre ds t)(p:∀x∈es,x∈ds):KeysAre es t := {dH λx f=>Ll h.lay (p x f),λd c=>h.kind d (p d c),λa e b g=>h.one a (p a e) b (p b g),λd c=>h.deep d (p d c)}
theorem wC.filter(W:wC nk bh D ms t)(c:∀k∈ms,P k=true->∀b,bh k=!b->P b=true):wC nk bh D (ms.filter P) t where
 cJ:=qg (we _ _) W.cJ
 up:=W.up.filter _
 inj:=λi hi j a e=>W.inj i (zk.mp hi).1 j (zk.mp a).1 e
 wf:=by
  have:=Rga.jB W.wf (Rga.Bn c);show Rga.WF (Rga.cP bh (ms.filter P));rw[Rga.pf];exact this
 keys:=W.keys.sub λx d=>by
  obtain⟨i,hi,rfl⟩:=qf.mp d;exact qf.mpr {i,(zk.mp hi).1,O}
def AN.pick:∀{vs:List V} {js:List Nat} {us:List V},AN P us (js.filter f)->∀{v:V} {i:Nat},P v i->f i=true->AN P (us++[v]) ((js++[i]).filter f):=λ{vs js us} h {v i} a hi=>do[yg,jd hi];h.snoc a
def AN.skip(h:AN P us (js.filter f))(hi:¬f i=true):AN P us ((js++[i]).filter f):=do[yg,je hi,yv,wx];h
def kA(nk:Nat->List Key)(G:V->Nat->Prop):List (KD×V×V)->List Nat->Prop|[],[]=>True|e::es,i::is=>(e.1=.tup (nk i)/\G e.2.2 i)/\kA nk G es is|_,_=>False
theorem kA.snoc(h1:e.1=.tup (nk i))(h2:G e.2.2 i):∀{kvs:List (KD×V×V)} {js:List Nat},kA nk G kvs js->kA nk G (kvs++[e]) (js++[i])|[],[],_=>{{h1,h2},trivial}|[],_::_,h=>h.elim|_::_,[],h=>h.elim|_::_,_::_,h=>{h.1,kA.snoc h1 h2 h.2}
theorem kA.get{all:List Nat}(inj:∀i∈all,∀j∈all,nk i=nk j->i=j):∀{kvs:List (KD×V×V)} {js done:List Nat} {acc:List (KD×V×V)},kA nk G kvs js->(∀i∈done,i∈all)->(∀i∈js,i∈all)-> (∀i∈done,∃v,vG acc (.tup (nk i))=!v/\G v i)->∀i,i∈done\/i∈js->∃v,vG (putAll acc kvs) (.tup (nk i))=!v/\G v i|[],[],done,acc,_,_,_,h,i,hi=>(do hi||hi:=hi;h i hi;-hi)|[],_::_,_,_,h,_,_,_,_,_=>h.elim|_::_,[],_,_,h,_,_,_,_,_=>h.elim|e::es,j::js,done,acc,h,hd,hj,ha,i,hi=>do a:=hj j qm;kA.get inj (done:=done++[j]) (acc:=pG acc e.1 e.2.1 e.2.2) h.2 (λk b=>?_) (λk b=>hj k (qy _ b)) (λk b=>?_) i ?_;z||z:=zh.mp b;hd k z;[qx.mp z];a;[eL,h.1.1];c<|nk k=nk j;[qF (do[c])];d:k∈all:=(do z||z:=zh.mp b;hd k z;[qx.mp z];a);[inj k d j a c];{_,O,h.1.2};[qB (λz=>c (KD.tup.inj z))];z||z:=zh.mp b;ha k z;absurd (do[qx.mp z]) c;z||z:=hi;.inl (wg _ z);rfl||z:=q0.mp z;.inl (zy _ (qx.mpr rfl));.inr z
theorem cx.ab(t:ai H H'):∀{ys:List V} {es:List (KD×V×V)},cx H ys es->cx H' ys es|[],[],_=>trivial|[],_::_,h=>h.elim|_::_,[],h=>h.elim|_::_,_::_,h=>{let⟨b,e,h1,h2⟩:=h.1;{b,e,t _ _ h1,h2.ab t},cx.ab t h.2}
theorem cx.snoc(a:∃b,y=.ref b/\H b=!(.tup [e.2.1,e.2.2])/\GK H e.1 e.2.1):∀{ys:List V} {es:List (KD×V×V)},cx H ys es->cx H (ys++[y]) (es++[e])|[],[],_=>{a,trivial}|[],_::_,h=>h.elim|_::_,[],h=>h.elim|_::_,_::_,h=>{h.1,cx.snoc a h.2}
def Jy{b:List (Key×V)}{c:List (Key×MD)}(h:KV b c):c.map (·.1)=b.map (·.1):=by induction h with|nil|cons a _ d=>?_;rfl;rw[zn,zn,d,a.1]
section
variable {X:Cx}{pins:List (Sx×Obj)}{σ:St}{H:Hp}{s:Sv}
def Inv.freeze(I:Inv X pins σ H s)(e:H a=!(.dK kvs))(f:s.heap.get? a=!o):Inv X pins σ (upd H a (.cI o (.dK kvs))) s:=do I.un (t':=s.toks) (h':=s.heap) {λb ob q _ _ _=>q,λb ob q _ _ _=>{ob.slots,q},λb ob q n _=>?_,λb ob q _=>{ob,q},λb xs q=>?_,λb ob u q=>?_,λb ps q=>?_,λb ob xs q n=>q} λb u q=>?_;[ak (λz=>do n←[z,e];-n)];n;[ak (λz=>do q←[z,e];-q)];q;[ak (λz=>do q←[z,e];-q)];q;{#[],do[ak (λz=>do q←[z,e];-q),q];0};d<|b=a;!d;q←[aB];-q;{f,I.aR b _ e};q←[ak d];(I.aR b u q).cQ (λ_ _ _ q=>q) (λc q=>?_) λc xs q=>?_;[ak (λz=>do q←[z,e];-q)];q;[ak (λz=>do q←[z,e];-q)];q
end
def zL(a:Sx)(o:Obj)(kvs:List (Key×V)):It := {λi H=>H a=!(.cI o (.dK kvs))/\i<kvs.length,λi H x H'=>H'=H/\∃k v,kvs[i]?=!(k,v)/\x=kV k,λi H=>H a=!(.cI o (.dK kvs))/\kvs.length<=i}
def D9{X:Cx}{pins:List (Sx×Obj)}{σ:St}{H:Hp}{s:Sv}{a:Sx}{o:Obj}{es:Array DictEntry}{ep:Nat}{kvs:List (Key×V)}(i:o.data=.dict es ep)(I:Inv X pins σ H s)(e:H a=!(.cI o (.dK kvs))):∃vs,KV kvs vs/\vs.length=kvs.length/\s.heap.DictAt (ah X.prog X.w) a vs ep:=do _;{g,_,_,vs,f,o',c,d,b,r}:s.heap.get? a=!o/\kvs.length<=sizeLine/\(a==sysModules)=false/\∃vs,KV kvs vs/\s.heap.DictOf (ah X.prog X.w) a vs:=I.aR a _ e;b←[g];-b;this:d=ep:=(do this:=r.2.1;this←[i];(by injection this with _ h);h.symm);!this;{vs,f,?_,o,c,g,r};this:=congrArg List.length (Jy f);0<|this
def Qa{P:Program}{w:World}{K:PySem.W.Frag}{tg:Expr}(a it:Sx){o:Obj}{es:Array DictEntry}{ep:Nat}{kvs:List (Key×V)}(S:o.data=.dict es ep):Turn P w K tg (zL a o kvs) [it] it (λi h=>h.IsKeyIter it a i kvs.length ep) where
 mem:=by simp
 obj:=λi h st b f=>by
  have e:b=it:=by simpa using f
  subst e;obtain⟨o,e,c,d⟩:=st;exact{o,e,λv z=>by rw[d]at z;cases z}
 keep:=λi h h' st k=>st.at λo e=>k it (by simp) o e
 item:=by
  intro X r y D R i pins s σ H E I q st C;subst r y D;obtain⟨F,hi⟩:=C;obtain⟨vs,Q,p,J⟩:=D9 S I F;have T:vs[i]?=!(vs[i].1,vs[i].2):=qh ();obtain⟨L,G,U,B,N,u⟩:=q it (by simp);rw[←p]at st;refine wpAny_pyNext_dict_item st J T λm h' n g Z=>?_;have Y:Inv X pins σ H { s with heap:=h' }:=I.turned (t':=s.toks) (λb o f e=>(Z.2 b f).trans e) L G B N u;obtain⟨ob,e,c,d⟩:=id g
  have ek:vs[i].1=kvs[i].1:=by
   have:=congrArg (λl=>l[i]?) (Jy Q);simpa[hi,p] using this
  have rk:RelV (kV kvs[i].1) m:=by
   rw[←ek];rcases fV (show fP vs[i].1 m=true from n) with⟨j,t,A,M⟩|⟨x,t,A,M⟩
   .rw[A,M];exact{t,O}
   .rw[A,M];exact{t,O}
  rw[p]at g;exact{m,O,nP (s:={ s with heap:=h' }) e c d ⋯ {kV kvs[i].1,H,Y,rk,{O,kvs[i].1,kvs[i].2,qh hi,O},g,λb f=>(q b f).1}}
 done:=by
  intro X r y D R i pins s σ H E I q st C;subst r y D;obtain⟨F,hi⟩:=C;obtain⟨vs,Q,p,J⟩:=D9 S I F;obtain⟨L,G,U,B,N,u⟩:=q it (by simp);rw[←p]at st;exact wpAny_pyNext_dict_end (I.ok.hd R) st J (v9 ()) λh' eb=>{O,I.turned (t':=s.toks) (λb o f e=>eb b o f e) L G B N u}
 self:=λ_ _ _ _ _ st h=>wpAny_pyIter_keyiter st h
inductive Ci(R:It->Hp->Prop)(x:V)(H1:Hp):Prop
 |mk(a kvs:_)(_:x=.ref a)(_:((H1 a=!(.dK kvs)/\∀o,R (zL a o kvs) (upd H1 a (.cI o (.dK kvs))))\/∃o,H1 a=!(.cI o (.dK kvs))/\R (zL a o kvs) H1))
def G3(tl:TE):TI:=λσ H R=>tl σ H λx H1=>Ci R x H1
section
variable {X:Cx}{tg:Expr}
def Kw{tl:TE}(C:PE X l tl):PI X tg l (G3 tl):=do _;{?_};(pins,s,σ,H,R,I,h);bI (C pins s σ H _ I h) λv c ⟨x,H1,m,B,z⟩=>?_;{a,kvs,e,q}:=z;!e;-B;main:∀(H2:Hp) (o:Obj),Inv X pins σ H2 c->H2 a=!(.cI o (.dK kvs))->R (zL a o kvs) H2->wpAny (model X.prog X.w) X.A (pyIter (.ref a)) (LZ X pins σ tg R) X.xe c:=λH2 o g n t=>(do _;{k,_,j,D,_,o',es,ep,d,F,p,r}:c.heap.get? a=!o/\kvs.length<=sizeLine/\(a==sysModules)=false/\∃vs,KV kvs vs/\c.heap.DictOf (ah X.prog X.w) a vs:=g.aR a _ n;d←[k];-d;{vs,E,f,y}:=D9 p g n;wpAny_pyIter_dict j y ?_;{↑c,[↑c],_,_,H2,O,g.kept (t':=c.toks) λb o e=>qH _ e,Qa a _ p,{_,qL _ rfl,O,do[f];2},λb u=>?_,t};e:b=↑c:=(do 0<|u);!e;g.lG (qe _) (g.aR.fresh (qe _)));{i,q}||{o,i,q}:=q;{_,_,vs,_,o,es,ep,k,_}:=tT m.aR i;main _ o (m.freeze i k) aB (q o);main _ o m i q
end
def Jk{own:List Sy}{g:TG}(hz:kvs.length<=sizeLine)(c:Nat->List V->Hp->Prop)(h0:c 0 [] H)(n:∀i ys H,c i ys H->H a=!(.cI o (.dK kvs)))(w:∀i k v ys H' (r:V->Hp->Prop) (l:Hp->Prop),kvs[i]?=!(k,v)->c i ys H'->(∀y j,c (i+1) (ys++[y]) j->r y j)->(∀f,c (i+1) ys f->l f)-> g (kV k) (cD own fr σ) H' λh H2=>tt h H2 λb f=>if b=true then te h f r else l f)(s:∀H' p ys,c kvs.length ys H'->ys.length<=kvs.length->H' p=none->Q (.ref p) (upd H' p (.lst ys))):FR own fr g tt te σ Q (zL a o kvs) H:=do _;{λi m ys H=>m=kvs.length - i/\i<=kvs.length/\ys.length<=i/\c i ys H,{kvs.length,do 0,Nat.zero_le _,Nat.zero_le _,h0},?_};(i,m,ys,H,{rfl,hi,z,p});d<|i<kvs.length;.inr {{n _ _ H p,d},(),λx H' y=>?_};{e,k,v,t,rfl}:=y;!e;w i k v ys _ _ _ t p (λy j u=>{kvs.length - (i+1),(),O,d,?_,u}) λf B=>{kvs.length - (i+1),(),O,d,(),B};[qi,qt];();e:i=kvs.length:=();!e;.inl {{n _ _ H p,qe _},λq A=>s H q ys p z A}
def j2(H:Hp):List V->List (Key×V)->Prop|[],[]=>True|y::ys,e::es=>(∃b,y=.ref b/\H b=!(.tup [kV e.1,e.2]))/\j2 H ys es|_,_=>False
def JQ(t u:TS):TS:=λD σ H=>∃P:St->Hp->Prop,t {D with nx:=P} σ H/\∀σ' H',P σ' H'->u D σ' H'
def zj(t:TT):TT:=λσ H Q=>∃P:Bool->Hp->Prop,t σ H P/\∀b H',P b H'->Q b H'
section
variable {X:Cx}{st:Stmt}{rest:List Stmt}{t u:TS}
def pB(h1:PS X st t)(h2:iG X rest u):iG X (st::rest) (JQ t u):=do _;{?_};(pins,s,σ,H,D,I,h);{P,h,k}:=h;wpAny_execs_cons (bI (h1 pins s σ H {D with nx:=P} I h) λf b q=>?_);(by cases f with|next|ret v|brk|cont=>?_);{σ',H',a,q}:=q;h2 pins b σ' H' D a (k σ' H' q);q;q;q
def tW{e:Expr}{t:TT}(h:PT X e t):PT X e (zj t):=do _;{?_};(pins,s,σ,H,Q,I,q);{P,h1,h2}:=q;bI (h pins s σ H P I h1) λb c ⟨H',a,q⟩=>{H',a,h2 _ _ q}
end
section
variable {prog:Program}{w:World}{A:Around}{E:KE}{s:Sv}
def Dd{es:Array DictEntry}(g:(d==sysModules)=false)(c:s.heap.get? d=!od)(f:od.ExactDict)(b:od.data=.dict es ep)(h:Q (.ref ↑s) {s with heap:=s.heap.push {cls:=.type "dict_keyiterator",data:=.fields #[.ref d,.int 0 0,.int es.size 0,.int ep 0]}}):wpAny (model prog w) A (pyIter (.ref d)) Q E s:=do e:s.TypeIs (.ref d) "dict":={od,c,f.1};wpAny_pyIter_slot e F.slot_dict_iter (qN F.slot_dict_iter e F.entry_dict_iter ?_ (F.args_dict_iter_1 _));(by unfold Builtin.«dict.__iter__» Builtin.Dict.dictSlotNone);qA (qA (wpAny_notOrdered_dict e ?_));qE (a:=Value.ref d) ?_;¬wpAny _ _ (Builtin.Dict.showsAll d >>= _) _ _ s;@Builtin.Dict.showsAll;[qB (by rw[g];decide)];qA (qE (qA (wpAny_dictEntries c b (qA (wpAny_dictEpoch c b ?_)))));qA (wpAny_newObj_type (qE {_,O,"dict_keyiterator",_,{_,qL _ rfl,O},F.slot_dict_keyiterator_next.lookup,by simpa[rawInt] using h}))
def wF{es:Array DictEntry}(p:A.handled=none)(c:s.heap.IsKeyIter it d i n ep)(h:s.heap.get? d=!od)(j:od.data=.dict es ep)(hn:es.size=n)(h1:∀(hi:i<es.size) h',h'.IsKeyIter it d (i+1) n ep->Heap.SameBut it s.heap h'->Q (some es[i].key) {s with heap:=h'})(h2:es.size<=i->∀h',Heap.ExtBut it s.heap h'->Q none {s with heap:=h'}):wpAny (model prog w) A (pyNext (.ref it)) Q E s:=do _;{o,k,l,f}:=id c;!hn;@pyNext;qA (wpAny_attempt (wpAny_callSpecial?_slot (name:=Str.ofString "__next__") c.typeIs F.slot_dict_keyiterator_next (qN F.slot_dict_keyiterator_next c.typeIs F.entry_dict_keyiterator_next ?_ (F.args_dict_keyiterator_next_1 _))));qA (qE (qA (qA ?_)));(by first|refine qA (wpAny_typeNameOfWhole_keyiter c.typeIs (qE ?_))|refine qA (wpAny_typeNameOf_keyiter c.typeIs (qE ?_)));qA (wpAny_fieldsOf k f ?_);#[_,show Builtin.Dict_items.ownsTuple "dict_keyiterator"=false from ⋯,Bool.false_eq_true,if_false];¬wpAny _ _ (if(Value.ref d==Value.none)=true then _ else _) _ _ s;[qB (show ¬((Value.ref d==Value.none)=true) from qr)];qA (qE (qA (wpAny_dictEntries h j ?_)));[qB (do 0)];qA (qE (qA (wpAny_dictEpoch h j ?_)));[qB (do 0)];qE ?_;hi<|i<es.size;#[_,show ¬((i:Int)<0) from (),if_false,Int.toNat_natCast,Array.getElem?_eq_getElem hi];qA ?_;(by first|refine qA (wpAny_typeNameOfWhole_keyiter c.typeIs (qE ?_))|refine qA (wpAny_typeNameOf_keyiter c.typeIs (qE ?_)));qA (wpAny_isOneOf_keyiter c.typeIs ?_);¬wpAny _ _ (setField (.ref it) 1 (rawInt ((i:Int)+1)) >>= _) _ _ s;qA (wpAny_setField k f (do 0) ?_);e:(s.heap.update it (Obj.mapFields (·.setIfInBounds 1 (rawInt ((i:Int)+1))))).IsKeyIter it d (i+1) es.size ep:={_,Heap.get?_update_self _ k (Obj.isFreed_of_fields (Obj.data_mapFields f _)),(Obj.cls_mapFields ..).trans l,do[Obj.data_mapFields f];#[rawInt]};qA (qK (qA (wpAny_isOneOf_keyiter (s:={s with heap:=s.heap.update it (Obj.mapFields (·.setIfInBounds 1 (rawInt ((i:Int)+1))))}) e.typeIs ?_)));¬wpAny _ _ (pure es[i].key) _ _ _;qE (qE {_,O,qE (h1 hi _ e (Heap.SameBut.update ..))});g:es.size<=i:=();#[_,show ¬((i:Int)<0) from (),if_false,Int.toNat_natCast,Array.getElem?_eq_none g];qA ?_;(by first|refine qA (wpAny_typeNameOfWhole_keyiter c.typeIs (qE ?_))|refine qA (wpAny_typeNameOf_keyiter c.typeIs (qE ?_)));¬wpAny _ _ (setField (.ref it) 0 .none >>= _) _ _ s;qA (wpAny_setField k f (do 0) ?_);¬wpAny _ _ (newExc (.type "StopIteration") [] >>= _) _ _ _;qA ?_;#[_,newExc,newTuple];qA (wpAny_newObj_type ?_ (by size_fits));qA (m:=firstArgMember _ _) (wpAny_of_eq (a:=Value.none) (by first|rfl|simp only[firstArgMember];rfl) ?_);wpAny_newObj_type ?_ (by size_fits);#[_,raiseNew];qA (wpAny_handled ?_);[show A.in1.handled=none from p];qA (qE (wpAny_throw ?_));qA (wpAny_isInstance (T:="StopIteration") (b:=true) {_,qL _ rfl,O} isSubtype_stop ?_);qE (h2 g _ (((Heap.SameBut.update ..).extBut.push _).push _))
end
theorem EB{α β:Type}{F:α->β->Prop}:∀{l₁:List α} {a:List β},Paired F l₁ a->∀(i:Nat) (h1:i<l₁.length) (h2:i<a.length),F l₁[i] a[i]|_,_,.cons r _,0,_,_=>r|_,_,.cons _ t,i+1,h1,h2=>EB t i (bf h1) (bf h2)
section
variable {X:Cx}{pins:List (Sx×Obj)}{σ:St}{H:Hp}{s:Sv}
def Inv.oO(I:Inv X pins σ H s)(e:H a=!(.dG kvs))(i:s.heap.get? a=!o):Inv X pins σ (upd H a (.cI o (.dG kvs))) s:=do I.un (t':=s.toks) (h':=s.heap) {λb ob q _ _ _=>q,λb ob q _ _ _=>{ob.slots,q},λb ob q n _=>?_,λb ob q _=>{ob,q},λb xs q=>?_,λb ob u q=>?_,λb ps q=>?_,λb ob xs q n=>q} λb u q=>?_;[ak (λz=>do n←[z,e];-n)];n;[ak (λz=>do q←[z,e];-q)];q;[ak (λz=>do q←[z,e];-q)];q;{#[],do[ak (λz=>do q←[z,e];-q),q];0};f:∀c {d:Sx},H c=!(.own d)->(upd H a (.cI o (.dG kvs))) c=!(.own d):=λc d q=>(do[ak (λz=>do q←[z,e];-q)];q);h:∀c xs,H c=!(.tup xs)->(upd H a (.cI o (.dG kvs))) c=!(.tup xs):=λc xs q=>(do[ak (λz=>do q←[z,e];-q)];q);g<|b=a;!g;q←[aB];-q;{i,(show aS X.prog X.w H s.heap b (.dG kvs) from I.aR b _ e).cQ (λ_ _ _ q=>q) (λc q=>f c q) h};q←[ak g];(I.aR b u q).cQ (λ_ _ _ q=>q) (λc q=>f c q) h
def p9{es:Array DictEntry}(n:o.data=.dict es ep)(I:Inv X pins σ H s)(e:H a=!(.cI o (.dG kvs))):s.heap.get? a=!o/\es.size=kvs.length/\∀i (hi:i<es.size) (f:i<kvs.length),RelV kvs[i].2.1 es[i].key:=do _;{k,_,_,xs,g,o',l,q,c,_,b,h,_}:s.heap.get? a=!o/\aS X.prog X.w H s.heap a (.dG kvs):=I.aR a _ e;c←[k];-c;b←[n];(by injection b with b _);!b;p:es.toList.length=kvs.length:=(do[h,qj,g.length]);{k,do 0<|p,λi hi f=>?_};j:i<xs.length:=(do[←g.length];f);d:=EB g i f j;m:es[i].key=xs[i].2.1:=(do h1:es.toList[i]?=some es[i]:=(do#[hi]);h1←[h,qu,qh j];[←qJ h1];2);[m];d.2.2.1
end
def vB(a:Sx)(o:Obj)(kvs:List (KD×V×V)):It := {λi H=>H a=!(.cI o (.dG kvs))/\i<kvs.length,λi H x H'=>H'=H/\∃e,kvs[i]?=!e/\x=e.2.1,λi H=>H a=!(.cI o (.dG kvs))/\kvs.length<=i}
def Q1{P:Program}{w:World}{K:PySem.W.Frag}{tg:Expr}(a it:Sx){o:Obj}{es:Array DictEntry}{ep:Nat}{kvs:List (KD×V×V)}(m:o.data=.dict es ep):Turn P w K tg (vB a o kvs) [it] it (λi h=>h.IsKeyIter it a i kvs.length ep) where
 mem:=by simp
 obj:=λi h st b f=>by
  have e:b=it:=by simpa using f
  subst e;obtain⟨o,e,c,d⟩:=st;exact{o,e,λv z=>by rw[d]at z;cases z}
 keep:=λi h h' st k=>st.at λo e=>k it (by simp) o e
 item:=by
  intro X p r u C i pins s σ H E I n st G;subst p r u;obtain⟨y,hi⟩:=G;obtain⟨x,F,j⟩:=p9 m I y;obtain⟨B,A,J,t,D,q⟩:=n it (by simp)
  refine wF (I.ok.hd C) st x m F (λg h' l M=>?_) λz=>absurd hi ()
  have L:Inv X pins σ H { s with heap:=h' }:=I.turned (t':=s.toks) (λb o f e=>(M.2 b f).trans e) B A t D q;obtain⟨ob,e,c,d⟩:=id l;exact{es[i].key,O,nP (s:={ s with heap:=h' }) e c d ⋯ {kvs[i].2.1,H,L,j i g hi,{O,kvs[i],qh hi,O},l,λb f=>(n b f).1}}
 done:=by
  intro X p r u C i pins s σ H E I n st G;subst p r u;obtain⟨y,hi⟩:=G;obtain⟨x,F,j⟩:=p9 m I y;obtain⟨B,A,J,t,D,q⟩:=n it (by simp);exact wF (I.ok.hd C) st x m F (λg=>absurd g ()) λ_ h' N=>{O,I.turned (t':=s.toks) (λb o f e=>N b o f e) B A t D q}
 self:=λ_ _ _ _ _ st h=>wpAny_pyIter_keyiter st h
inductive wZ(R:It->Hp->Prop)(x:V)(H1:Hp):Prop
 |mk(a kvs:_)(_:x=.ref a)(_:((H1 a=!(.dG kvs)/\∀o,R (vB a o kvs) (upd H1 a (.cI o (.dG kvs))))\/∃o,H1 a=!(.cI o (.dG kvs))/\R (vB a o kvs) H1))
def DJ(tl:TE):TI:=λσ H R=>tl σ H λx H1=>wZ R x H1
section
variable {X:Cx}{tg:Expr}
def Ki{tl:TE}(z:PE X l tl):PI X tg l (DJ tl):=do _;{?_};(pins,s,σ,H,R,I,h);bI (z pins s σ H _ I h) λv c ⟨x,H1,n,u,B⟩=>?_;{a,kvs,e,q}:=B;!e;-u;main:∀(H2:Hp) (o:Obj),Inv X pins σ H2 c->H2 a=!(.cI o (.dG kvs))->R (vB a o kvs) H2->wpAny (model X.prog X.w) X.A (pyIter (.ref a)) (LZ X pins σ tg R) X.xe c:=λH2 o d p y=>(do _;{j,_,k,xs,_,o',es,ep,f,r,m,_,_}:c.heap.get? a=!o/\aS X.prog X.w H2 c.heap a (.dG kvs):=d.aR a _ p;f←[j];-f;{_,g,_}:=p9 m d p;Dd k j r m ?_;{↑c,[↑c],_,_,H2,O,d.kept (t':=c.toks) λb o e=>qH _ e,Q1 a _ m,{_,qL _ rfl,O,do[g];2},λb t=>?_,y};e:b=↑c:=(do 0<|t);!e;d.lG (qe _) (d.aR.fresh (qe _)));{i,q}||{o,i,q}:=q;{_,_,xs,_,o,es,ep,j,_}:=(show aS X.prog X.w H1 c.heap a (.dG kvs) from n.aR a _ i);main _ o (n.oO i j) aB (q o);main _ o n i q
end
def M3{a:Sx}{o:Obj}{kvs:List (KD×V×V)}{g:TG}{tb:TS}{D:Ends}{σ:St}{H:Hp}(b:Nat->St->Hp->Prop)(h0:b 0 σ H)(h:∀i σ H,b i σ H->H a=!(.cI o (.dG kvs)))(n:∀i e σ H,kvs[i]?=!e->b i σ H->g e.2.1 σ H λc H2=>tb {D with nx:=b (i+1),ct:=b (i+1),bk:=D.nx} c H2)(j:∀σ H,b kvs.length σ H->D.nx σ H) : ∃W:Nat->Nat->St->Hp->Prop,(∃m,W 0 m σ H)/\∀i m σ H,W i m σ H-> ((vB a o kvs).stop i H/\D.nx σ H)\/((vB a o kvs).go i H/\∃N:St->Hp->Prop,(∀σ' H',N σ' H'->∃f,f<m/\W (i+1) f σ' H')/\∀x H',(vB a o kvs).wM i H x H'->g x σ H' λc H2=>tb {D with nx:=N,ct:=N,bk:=D.nx} c H2):=do _;{λi m σ H=>m=kvs.length - i/\i<=kvs.length/\b i σ H,{kvs.length,do 0,Nat.zero_le _,h0},?_};(i,m,σ,H,{rfl,hi,p});d<|i<kvs.length;.inr {{h i σ H p,d},b (i+1),λσ' H' q=>{kvs.length - (i+1),(),O,d,q},λx H' y=>?_};{e,k,l,rfl}:=y;!e;n i k σ _ l p;e:i=kvs.length:=();!e;.inl {{h _ σ H p,qe _},j σ H p}
section
variable {P:Program}{w:World}{A:Around}{E:KE}{s:Sv}
def Rj{v val:MD}(a:(ah P w).is k v=true)(g:s.heap.DictOf (ah P w) d vs)(hsz:vs.length<=sizeLine)(h1:∀u,valueAt vs k=!u->Q u {s with toks:=s.toks+1})(h2:valueAt vs k=none->∀h',h'.DictOf (ah P w) d (stored vs k val)->Heap.SameBut d s.heap h'->Q val {s with heap:=h',toks:=s.toks+1}):wpAny (model P w) A (dictSetDefault d v val) Q E s:=do _;{o,es,ep,p,L,n,F,hp,hn}:=g;C:es.size<=sizeLine:=(do I:=hp.length;I←[zx];());G:(es.findIdx? λe=>(ah P w).is k e.key)=vs.findIdx? λh=>decide (h.1=k):=(do[←hp.findIdx k];{l}:=es;0);@dictSetDefault;(by try with_reducible refine qK ?_);qA ((ah P w).pyHash a (qA (wpAny_dictFind_of (s:={s with toks:=s.toks+1}) a p n F ?_)));(by cases hi:es.findIdx? λe=>(ah P w).is k e.key with|none|some i=>?_);f:k∉vs.map (·.1):=not_mem_of_findIdx_none (G▸hi);b:¬(vs.any λh=>decide (h.1=k))=true:=λz=>(do _;{h,B,t}:=yz.mp z;f (qf.mpr {h,B,qO t}));J:valueAt vs k=none:=(do[←hp.find k];this:es.toList.find? (λe=>(ah P w).is k e.key)=none:=(do[jw];(e,t,z);M:=Array.findIdx?_eq_none_iff.mp hi e (j5.mp t);z←[M];-z);[this];2);qA (wpAny_rule (qA (wpAny_updateDictKeys (hz:=C) (s:={s with toks:=s.toks+1}) p n (qE (h2 J _ {_,_,ep+1,Heap.get?_update_self _ p (Obj.isFreed_of_dict (Obj.data_mapDictKeys n _)),L.mapDictKeys _,Obj.data_mapDictKeys n _,F.push a _,?_,?_} (Heap.SameBut.update ..))))));[stored,qB b];this:=hp.append a ((ah P w).hash k) val;{l}:=es;0<|this;[stored,qB b,z7,wt];{hn,do 0,λx q y K z=>?_};q←[z];q←[qx.mp K];f q;{c,_,_}:=Array.findIdx?_eq_some_iff_getElem.mp hi;D:vs.findIdx? (λh=>decide (h.1=k))=!i:=G▸hi;{r,j,_}:=mo.mp D;j:vs[i].1=k:=qO j;H:vs[i]?=!(k,vs[i].2):=(do[qh r,←j]);{_,m}:=hp.get? (i:=i) (e:=es[i]) (k:=k) (v:=vs[i].2) (do[ym];yw c) H;qA (wpAny_dictEntries (s:={s with toks:=s.toks+1}) p n ?_);[yw c];qA (wpAny_rule (qE ?_));[m];h1 _ (valueAt_of_get hn H)
def Qe(f:(d==sysModules)=false):MeetsIn P w (Builtin.«dict.setdefault» {[.ref d,v,b],[]}) (λA R s=>∃k vs,(ah P w).is k v=true/\s.heap.DictOf (ah P w) d vs/\vs.length<=sizeLine ∧ (∀u,valueAt vs k=!u->R (.ok (.ret u)) {s with toks:=s.toks+1})/\(valueAt vs k=none->∀h',h'.DictOf (ah P w) d (stored vs k b)->Heap.SameBut d s.heap h'->R (.ok (.ret b)) {s with heap:=h',toks:=s.toks+1})) := .of_wp λA R s ⟨k,vs,a,g,hz,h1,h2⟩=>do@Builtin.«dict.setdefault»;qA ?_;@Builtin.Dict.keyAndDefault;qA (wpAny_notOrdered_dict g.typeIs (qE ?_));¬wpAny (model P w) _ (if(d==sysModules)=true then _ else(dictSetDefault d v b >>= _)) _ _ s;[qB (by rw[f];decide)];qA (Rj a g hz (λu e=>qE {u,O,h1 u e}) λe h' g' c=>qE {b,O,h2 e h' g' c})
end
inductive sh(x:V)(vs:List V)(H:Hp)(Q:VK):Prop
 |mk(a kvs k d:_)(_:x=.ref a)(_:vs=[kV k,d])(_:H a=!(.dK kvs))(_:kvs.length<sizeLine)(_:(∀u,bN kvs k=!u->Q u H))(_:(bN kvs k=none->Q d (upd H a (.dK (putK kvs k d)))))
section
variable {X:Cx}
def NF:wG X "dict.setdefault" sh:=do(pins,s,σ,H,x,xs,v,us,Q,I,y,r,h);{a,kvs,k,d,rfl,rfl,n,E,A,p}:=h;{u,C,rfl,t,f}:=r.two;-y;{z,o,ys,c,m}:=tT I.aR n;b:=c.val k;call_meetsIn F.slot_dict_setdefault m.typeIs F.entry_dict_setdefault (F.args_dict_setdefault_3 _ _ _) (Qe o) {k,ys,nT t,m,do[←c.length];z,λD i=>?_,λi h' g l=>?_};b←[i];(by cases e:bN kvs k with|none|some v=>?_);b←[e];b.elim;b←[e];{v,H,I.tok _,b,A v e};b←[i];(by cases e:bN kvs k with|some v|none=>?_);b←[e];b.elim;j:(putK kvs k d).length<=sizeLine:=(do this:=Bf kvs k d;());w:∃q,h'.get? a=!q:=let⟨q,_,_,B,_⟩:=g;{q,B};{d,upd H a (.dK (putK kvs k d)),pN I (do[n];True.intro) l w (IZ j o (c.put k f) g),f,p e}
end
section
variable {prog:Program}{w:World}{A:Around}{E:KE}{s:Sv}
def Kx{es:Array DictEntry}(q:A.handled=none)(m:it≠d)(a:od.data=.dict es ep) :
  WalksS prog w A it [it,d] [it] Eq es.size (λj v=>(es[j]?).map (·.key)=!v) (λi s=>s.heap.IsKeyIter it d i es.size ep/\s.heap.get? d=!od) where
 sub:=λb l=>by rw[qx.mp l];exact qm
 grefl:=λ_=>rfl
 gtrans:=λ_ _ _ h1 h2=>h1.trans h2
 frame:=λi s h' tk ⟨⟨o,e,c,r⟩,g⟩ _ k=>{{o,k it qm o e,c,r},k d (qy _ qm) od g}
 item:=λi s Q E hi ⟨st,g⟩ k=>wF q st g a rfl (λf h' n p=>k _ _ (by rw[yw f];rfl) {n,(p.2 d m.symm).trans g} {λb o l e=>(p.2 b (λz=>l (by rw[z];exact qm))).trans e,O,O,O,qe _}) λz=>absurd hi ()
 done:=λs Q E ⟨st,g⟩ k=>wF q st g a rfl (λf=>absurd f ()) λ_ h' t=>k _ {λb o l e=>t b o (λz=>l (by rw[z];exact qm)) e,O,O,O,qe _}
 self:=λi s Q E ⟨st,_⟩ h=>wpAny_pyIter_keyiter st h
def JJ{es:Array DictEntry}(h:ItemsOf (λj v=>(es[j]?).map (·.key)=!v) acc es.size):acc.toList=es.toList.map (·.key):=do(by apply yc);(j);a<|j<acc.size;b:j<es.size:=(do[←h.1];a);this:=h.2 j acc[j] (yw a);[ym,yw a,qu,ym];this.symm;b:¬j<es.size:=(do[←h.1];a);[v9 (do[zx];()),v9 (do[qj,zx];())]
def Pt{es:Array DictEntry}(I:A.handled=none)(J:(d==sysModules)=false)(B:s.heap.get? d=!od)(D:od.ExactDict)(j:od.data=.dict es ep)(hz:es.size<=sizeLine)(L:∀s',Moved [] Eq s s'->Q (es.toList.map (·.key)) s'):wpAny (model prog w) A (collect (.ref d)) Q E s:=do@collect;qA (wpAny_runValue (codeAny_builtin F.entry_proto_collect ?_));[Around.under_plainId F.plain_proto_collect _];¬wpAny _ A.in1 (newList [] >>= λl=>again (.builtin "list.__iadd__" {[l,.ref d],[]})) _ _ s;qA (wpAny_newObj_type ?_);qE {plainId_quiet F.plain_list_iadd _,codeAny_builtin F.entry_list_iadd ?_};[Around.under_plainId F.plain_list_iadd _];m:(s.heap.push {cls:=.type "list",data:=.seq ([]:List MD).toArray}).get? d=!od:=qH _ B;K:Shared.TypeIs {s with heap:=s.heap.push {cls:=.type "list",data:=.seq ([]:List MD).toArray}} (.ref d) "dict":={od,m,D.1};f:d<↑s:=(do h||h:=jl d ↑s;h;(by exfalso);this:s.heap.get? d=none:=(do@Heap.get?;[bg h]);B←[this];-B);h1:Builtin.List.listSameRef (.ref ↑s) (.ref d)=false:=(do¬(↑s==d)=false;beq_eq_false_iff_ne.mpr (zu f));¬wpAny _ A.in1 (Builtin.List.listExtendWith (.ref ↑s) (.ref d) (.ref ↑s)) _ _ _;@Builtin.List.listExtendWith;qA (wpAny_typeOf K ?_);[qB (by rw[h1];decide)];qA (Dd J m D j ?_);qA (qK ?_);(by generalize g:(s.heap.push {cls:=.type "list",data:=.seq ([]:List MD).toArray}).push {cls:=.type "dict_keyiterator",data:=.fields #[.ref d,.int 0 0,.int es.size 0,.int ep 0]}=h2);u:h2.get? d=!od:=(do[←g];qH _ m);k:Shared.TypeIs {s with heap:=h2} (.ref d) "dict":={od,u,D.1};@Builtin.List.listLengthHint;qA (wpAny_specialOf (name:=Str.ofString "__len__") k F.slot_dict_len.lookup ?_);(by generalize x:("dict.__len__":String)=id0;wp_delta);[show splitId id0=some ("dict","__len__") from do !x;by decide +kernel];!x;qA (wpAny_isInstance (T:="dict") k PySem.F.sub_dict_dict ?_);[qB ⋯];(by wp_delta);[qF ∅];qA (wpAny_typeOf k (qE ?_));[qF ∅];t:h2.get? ↑s=some {cls:=.type "list",data:=.seq ([]:List MD).toArray}:=(do[←g];qH _ (qL _ rfl));qA (wpAny_rule (qA ?_));@Builtin.List.listTouch;qA (listUpdate_at t rfl ?_);{H,n}:∃H,(h2.update ↑s (Obj.mapSeq (·.push Value.none))).get? ↑s=!(seqObj "list" #[Value.none] H):={_,get?_update_seq t _};c:∀b o,b≠↑s->h2.get? b=!o->(h2.update ↑s (Obj.mapSeq (·.push Value.none))).get? b=!o:=λb o i e=>(Heap.get?_update_other _ _ (λz=>i z.symm)).trans e;(by generalize h2.update ↑s (Obj.mapSeq (·.push Value.none))=h3 at n c);listUpdate_at (s:={s with heap:=h3}) n rfl ?_;{C,p}:∃C,(h3.update ↑s (Obj.mapSeq (·.pop))).get? ↑s=!(seqObj "list" #[] C):={_,get?_update_seq n _};a:∀b o,b≠↑s->h2.get? b=!o->(h3.update ↑s (Obj.mapSeq (·.pop))).get? b=!o:=λb o i e=>(Heap.get?_update_other _ _ (λz=>i z.symm)).trans (c b o i e);¬wpAny _ _ _ _ _ {s with heap:=h3.update ↑s (Obj.mapSeq (·.pop))};(by generalize h3.update ↑s (Obj.mapSeq (·.pop))=h4 at p a);hsz:(s.heap.push {cls:=.type "list",data:=.seq ([]:List MD).toArray}).objs.size=↑s+1:=size_push' _ _;r:h2.get? (↑s+1)=some {cls:=.type "dict_keyiterator",data:=.fields #[.ref d,.int 0 0,.int es.size 0,.int ep 0]}:=(do[←g,←hsz];qL _ rfl);¬wpAny _ _ (again (Code.builtin "list.extend.loop" {[Value.ref ↑s,Value.ref (s.heap.push {cls:=.type "list",data:=.seq ([]:List MD).toArray}).objs.size,Value.ref ↑s],[]})) _ _ _;[hsz];W:=Kx (prog:=prog) (w:=w) (A:=A.in1) (it:=↑s+1) (d:=d) (od:=od) (es:=es) (ep:=ep) I (zu (yn f)) j;qE {plainId_quiet F.plain_extend_loop _,codeAny_extend_loopS W hz ↑s (λz=>?_) _ es.size 0 {s with heap:=h4} #[] C rfl (qv _) {{_,a _ _ (gg _) r,O,O},a _ _ (qp f) u} p (ItemsOf.nil _) λs' y M q G v=>?_};(by ac_nf at z);z||z:=z;gg _ z.symm;zu f z;¬wpAny _ A (load ↑s >>= _) _ _ s';qA (wpAny_load G ?_);¬wpAny _ _ (pure y.toList) Q E s';[JJ v];qE (L s' {λb o _ e=>?_,q.gens,q.drawn,q.os,q.toks});i:b<↑s:=(do h||h:=jl b ↑s;h;(by exfalso);this:s.heap.get? b=none:=(do@Heap.get?;[bg h]);e←[this];-e);q.heap b o (λz=>?_) (a b o (qp i) ?_);(by ac_nf at z);z||z:=z;qp i z;qp (yn i) z;[←g];qH _ (qH _ e)
def QP{es:Array DictEntry}{lt:Nat->Nat->Bool}(W:Srt.eR lt)(v:A.handled=none)(t:(d==sysModules)=false)(y:s.heap.get? d=!od)(o:od.ExactDict)(f:od.data=.dict es ep)(n:es.toList.map (·.key)=vs)(g:vs.length<=2000)(j:Mi lt vs.length)(b:∀s',Moved [] Eq s s'->∀h',fR s'.heap h'->2<=vs.length->Answers prog w A.in1.in1 {s' with heap:=h'} vs lt)(h:∀s' h' a p c,Moved [] Eq s s'->fR s'.heap h'->↑s'<=a->Arr vs.length lt p->h'.get? a=!(seqObj "list" (List.toArray (p.toList.map λi=>vs.getD i Value.none)) c)->Q (.ref a) {s' with heap:=h'}) : wpAny (model prog w) A (call (.builtin "sorted") [.ref d]) Q E s:=do z:es.size=vs.length:=(do[←n,qj,zx]);q:vs.length<=sizeLine:=(do[sizeLine_eq];());Calls.call_function_entry kind_sorted plain_sorted entry_sorted (args_sorted1 _) ?_;@Builtin.«sorted»;qA (m:=checkCount "sorted" 1 1 _) (qE (qA (Pt v t y o f () λs' l=>?_)));[n];qA (wpAny_newList ?_ q);u:fR s'.heap (s'.heap.push (seqObj "list" vs.toArray 0)):=.push _ _;k:(s'.heap.push (seqObj "list" vs.toArray 0)).get? ↑s'=!(seqObj "list" vs.toArray 0):=qL _ rfl;¬wpAny (model prog w) _ _ _ _ {s' with heap:=s'.heap.push (seqObj "list" vs.toArray 0)};qA (qK (qN slot_list_sort {_,k,O} entry_list_sort (Nz W k g j (h0:=s'.heap) (qe _) u (b s' l) λh' p c x r e=>?_) (args_list_sort _)));{_,O,qE {_,O,h s' h' _ p c l x (qe _) r e}}
end
def Inv.moved{X:Cx}{pins:List (Sx×Obj)}{σ:St}{H:Hp}{s s':Sv}(I:Inv X pins σ H s)(m:Moved [] Eq s s'):Inv X pins σ H s':=do e:s'={s with heap:=s'.heap,toks:=s'.toks}:=(do _;{h1,h2,c,a,d}:=m;-s;-s';-h2;-c;-a;2);[e];I.kept (t':=s'.toks) λb o q=>m.heap b o (do 0) q
inductive Cf(xs:List V)(H:Hp)(Q:VK):Prop
 |mk(p kvs ds t:_)(_:xs=[.ref p])(_:Rd H p (.dG kvs))(_:dU H (kvs.map (·.2.1)) ds)(_:KeysAre ds t)(_:kvs.length<64)(_:∀q H' ix,H q=none->af H H'->dj ds ix->H' q=!(.lst (ix.map λi=>(kvs.map (·.2.1)).getD i .aQ))->Q (.ref q) H')
inductive vV(xs:List V)(H:Hp)(Q:VK):Prop
 |mk(p kvs ds t:_)(_:xs=[.ref p])(_:Rd H p (.dK kvs))(_:dU H (kvs.map λe=>kV e.1) ds)(_:KeysAre ds t)(_:kvs.length<64)(_:∀q H' ix,H q=none->af H H'->dj ds ix->H' q=!(.lst (ix.map λi=>(kvs.map λe=>kV e.1).getD i .aQ))->Q (.ref q) H')
section
variable {X:Cx}
def KZ{pins:List (Sx×Obj)}{σ:St}{H:Hp}{s:Sv}{p:Sx}{od:Obj}{es:Array DictEntry}{ep:Nat}{ys:List V}{its:List MD}{ds:List Sw}{t:_}{Q:VK}(F:X.A.units+3+61<cLine)(r:X.A.handled=none)(I:Inv X pins σ H s)(z:(p==sysModules)=false)(B:s.heap.get? p=!od)(D:od.ExactDict)(b:od.data=.dict es ep)(y:es.toList.map (·.key)=its)(d:aJ ys its)(o:dU H ys ds)(n:KeysAre ds t)(u:ys.length<64)(q:∀q H' ix,H q=none->af H H'->dj ds ix->H' q=!(.lst (ix.map λi=>ys.getD i .aQ))->Q (.ref q) H') : wpAny (model X.prog X.w) X.A (call (.builtin "sorted") [.ref p]) (λv s'=>∃x H',Inv X pins σ H' s'/\RelV x v/\Q x H') X.xe s:=do E:=d.length;j:=Jo o;QP (lt:=ov ds) (J0 n.one) r z B D b y () (.inl ()) (λs' m h' x h2=>?_) λs' h' a h c m x f k e=>?_;{G,C}:=o.reads (I.moved m) d;GS (s:={s' with heap:=h'}) (p7 x C) n h2 (do¬X.A.units+1+1+60<cLine;());g:=I.moved m;l:∀i∈h.toList,i<ys.length:=λi hi=>(do this:=(k.1.toList.mem_iff).mp hi;this←0;());{.ref a,upd H a (.lst (h.toList.map λi=>ys.getD i .aQ)),g.laid x f {?_,_,c,JG d _ l,e},O,q a _ h.toList (g.aR.fresh f) (af.new (g.aR.fresh f)) (GD (do[←j,E];k)) aB};hz:its.length<=sizeLine:=ww (cG ());[qj,zx,k.1.size_eq];0;()
def HZ{xa:List (KD×MD×MD)}(h:Paired (GP H) b xa):aJ (b.map (·.2.1)) (xa.map (·.2.1)):=do(by induction h with|nil|cons a _ c=>?_);.nil;.cons a.2.2.1 c
def OM{es:List DictEntry}(h:Pairs (ah P w) es vs):∀{kvs:List (Key×V)},KV kvs vs->aJ (kvs.map λe=>kV e.1) (es.map (·.key)):=do(by induction h with|nil|@cons f _ _ _ d _ _ i=>?_);(kvs,r);-r;.nil;(kvs,r);(by cases r with|@cons g _ _ _ a t=>?_);.cons ?_ (i t);¬RelV (kV g.1) f.key;[a.1];{j,u,b,c}||{x,u,b,c}:=fV d;[b,c];{u,O};[b,c];{u,O}
def NO(l:X.A.units+3+61<cLine)(n:X.A.handled=none):cB X (.builtin "sorted") (Cf):=do(pins,s,σ,H,xs,us,Q,I,r,h);{p,kvs,ds,t,rfl,m,i,g,c,q}:=h;{u,rfl,f}:=vals1 r;-f;{_,b,w,k,o,es,ep,v,e,a,d,j,hn}:=eE I m;KZ l n I b v e a (its:=w.map (·.2.1)) (do[d,z9];2) (HZ k) i g (do[qj];c) q
def PZ(j:X.A.units+3+61<cLine)(l:X.A.handled=none):cB X (.builtin "sorted") (vV):=do(pins,s,σ,H,xs,us,Q,I,r,h);{p,kvs,ds,t,rfl,k,i,f,d,q}:=h;{u,rfl,e}:=vals1 r;-e;{_,c,vs,b,o,es,ep,m,g,a,_,hp,_}:=oz I.aR k;KZ j l I c m g a rfl (OM hp b) i f (do[qj];d) q
end
section
variable {prog:Program}{w:World}{A:Around}{E:KE}{s:Sv}
def Nr{l m sl:Sx}{xs ys:Array MD}{h k:MD}{lo hi:Nat}{Q:Unit->Sv->Prop}(g:s.heap.IsList l xs)(q:s.heap.IsList m ys)(i:l≠m)(B:s.heap.IsSliceOf sl h k .none)(z:IsPart h (!(lo:Int)))(u:IsPart k (!(hi:Int)))(h1:lo<=hi)(h2:hi<=xs.size)(hz:xs.size+ys.size<=sizeLine)(C:Q Unit.unit {s with heap:=s.heap.update l (Obj.mapSeq λxs=>xs.extract 0 lo++ys++xs.extract hi)}) : wpAny (model prog w) A (setItem (.ref l) (.ref sl) (.ref m)) Q E s:=do _;{o,r,G,ne,t}:=id g;{H,j,v,F,p}:=id q;{D,a,n,b}:=id B;e:s.TypeIs (.ref sl) "slice":={D,a,n};@setItem;(by(try with_reducible refine qK ?_);first|refine qA (qE ?_)|skip);qA (wpAny_sequenceKey g.typeIs ⋯ ?_);qA (wpAny_callSpecial?_slot (name:=Str.ofString "__setitem__") g.typeIs slot_list_setitem (qN slot_list_setitem g.typeIs entry_list_setitem ?_ (args_list_setitem _ _ _)));¬wpAny _ _ (Builtin.List.listSubscript? (.ref sl) >>= _) _ _ s;@Builtin.List.listSubscript?;qA (qA (wpAny_specialOf e slice_no_index ?_));#[_,Option.isNone_none,if_true];qE ?_;¬wpAny _ _ (typeOf (.ref sl) >>= _) _ _ s;qA (wpAny_typeOf e ?_);[qB ⋯];[listSliceParts_eq];qA (qA (wpAny_field a b (x:=.none) rfl (qA (wpAny_listPart .none ?_))));[qB ⋯];qA (wpAny_field a b (x:=h) rfl (qA (wpAny_listPart z ?_)));qA (wpAny_field a b (x:=k) rfl (qA (wpAny_listPart u (qE ?_))));c:Builtin.List.listSameRef (.ref l) (.ref m)=false:=beq_eq_false_iff_ne.mpr i;[qB (by rw[c];decide)];@Builtin.List.listAllItems;qA (qA (wpAny_typeOf q.typeIs ?_));[qF ⋯];listItems_at j p ?_;qA (listItems_at r t ?_);qA (wpAny_of_eq (sliceIndices_raw (!(lo:Int)) (!(hi:Int)) none xs.size (do 0)) ?_);y:sliceBounds (!(lo:Int)) (!(hi:Int)) none xs.size=((lo:Int),(hi:Int),1):=(do@sliceBounds;#[_,Option.getD_none];a1:¬((lo:Int)<0):=();a2:¬((hi:Int)<0):=();[qB a1,qB a2,qF ⋯,qF ⋯];(by congr 1);();(by congr 1);());[y];d:(max (lo:Int) (hi:Int)).toNat=hi:=();f:((lo:Int)).toNat=lo:=Int.toNat_natCast lo;#[_,d,f];[qF ⋯];qA (wpAny_rule ?_);[qB (do¬(¬(decide (xs.size+ys.size>sizeLine))=true);0;())];qA (listUpdate_at r t ?_ () (do 0;()));qA (wpAny_letGo (qE {.none,O,qE C}))
end
def NJ(its:List MD)(n lo hi:Nat)(ys:List MD):∃n',Obj.mapSeq (λxs=>xs.extract 0 lo++ys.toArray++xs.extract hi) {cls:=.type "list",data:=.seq its.toArray n}={cls:=.type "list",data:=.seq (its.take lo++ys++its.drop hi).toArray n'}:=do e:its.toArray.extract 0 lo++ys.toArray++its.toArray.extract hi=(its.take lo++ys++its.drop hi).toArray:=(do 0;yr (do[yf];qe _));@Obj.mapSeq;#[_,e];{_,O}
inductive xm(D:Ends)(σ:St)(v x:V)(lo:Option Int)(hi:Option Int)(H4:Hp):Prop
 |mk(a b xs ys:_)(i j:Nat)(_:x=.ref a)(_:v=.ref b)(_:a≠b)(_:H4 a=!(.lst xs))(_:az H4 b ys)(_:lo=!(i:Int))(_:hi=!(j:Int))(_:i<=j)(_:j<=xs.length)(_:xs.length+ys.length<=sizeLine)(_:D.nx σ (upd H4 a (.lst (xs.take i++ys++xs.drop j))))
def EO(to:TE)(tl th:TO)(tv:TE):TS:=λD σ H=>tv σ H λv H1=>to σ H1 λx H2=>tl σ H2 λlo b=>th σ b λhi a=>xm D σ v x lo hi a
section
variable {X:Cx}{o value:Expr}{lo hi:Option Expr}{pos pos' p2:Pos}{to tv:TE}{tl th:TO}
def M7(M:PE X o to)(hl:PO X lo tl)(K:PO X hi th)(C:PE X value tv)(J:swapsWith value (!(.Subscript o (.Slice lo hi none p2) pos')) pos.line X.env=pure false):PS X (.Assign [.Subscript o (.Slice lo hi none p2) pos'] value pos) (EO to tl th tv):=do _;{?_};(pins,s,σ,H,D,I,h);wpAny_Assign_Subscript (bI (C pins s σ H _ I h) λr G ⟨v,H1,T,A,W⟩=>bI (M pins G σ H1 _ T W) λu s2 ⟨x,H2,Y,U,y⟩=>?_) J;wpAny_Slice (bI (hl pins s2 σ H2 _ Y y) λp z ⟨l,L,Z,F,B⟩=>bI (K pins z σ L _ Z B) λN d ⟨u',Q,t,m,R⟩=>?_);[evalPart_none];qE ?_;{a,b,xs,ys,i,j,rfl,rfl,e,g,E,rfl,rfl,h1,h2,hz,q}:=R;-U;-A;f:Inv X pins σ Q {d with heap:=d.heap.push {cls:=.type "slice",data:=.fields #[p,N,.none]}}:=t.kept (t':=d.toks) λb ob q=>qH _ q;{its,n,r,c,P}:=f.lst g;{its',k,V,w}:=f.list E;la:=r.length;lb:=k.length;{n',hf}:=NJ its n i j its';S:=f.ue g c hf ((r.take i).append k |>.append (r.drop j)) (do[qi,qi,wv,yf];()) d.toks;Nr (xs:=its.toArray) (ys:=its'.toArray) {_,c,O,n,O} V.isList e (Heap.IsSliceOf.new ..) F m h1 (do[zg];()) (do[zg,zg];()) {_,_,S,q}
end
def Nf:entryFor table "dict_itemiterator.__iter__"=some Builtin.«dict_keyiterator.__iter__»:=entryFor_alias (id':="dict_keyiterator.__iter__") (by kernel_rfl) rfl ∅ (by kernel_rfl)
section
variable {prog:Program}{w:World}{A:Around}{E:KE}{s:Sv}
def Na(c:(d==sysModules)=false)(e:s.heap.get? d=!od)(b:od.ExactDict)(f:Q (.ref ↑s) {s with heap:=s.heap.push {cls:=.type "dict_items",data:=.fields #[.ref d]}}):wpAny (model prog w) A (call (.builtin "dict.items") [.ref d]) Q E s:=do a:s.TypeIs (.ref d) "dict":={od,e,b.1};qN F.slot_dict_items a F.entry_dict_items ?_ (F.args_dict_items_1 _);@Builtin.«dict.items»;qA ?_;@Builtin.Dict.noArgs;qA (wpAny_notOrdered_dict a ?_);¬wpAny _ _ (pure d) _ _ s;qE ?_;¬wpAny _ _ (Builtin.Dict.showsAll d >>= _) _ _ s;@Builtin.Dict.showsAll;[qB (do[c];qr)];qA (qE ?_);qA (wpAny_newObj_type (qE {_,O,f}))
def Pd{es:Array DictEntry}(c:s.heap.IsItemsView v d)(g:s.heap.get? d=!od)(a:od.data=.dict es ep)(i:Q (.ref ↑s) {s with heap:=s.heap.push {cls:=.type "dict_itemiterator",data:=.fields #[.none,.bool false,.ref d,.int 0 0,.int es.size 0,.int ep 0,.none,.none]}}) : wpAny (model prog w) A (pyIter (.ref v)) Q E s:=do _;{j,e,h,f}:=id c;wpAny_pyIter_slot c.typeIs F.slot_dict_items_iter (qN F.slot_dict_items_iter c.typeIs F.entry_dict_items_iter ?_ (F.args_dict_items_iter_1 _));@Builtin.«dict_items.__iter__»;qA (qE ?_);qA ?_;@Builtin.Dict_items.dictOf;qA (wpAny_field e f (x:=.ref d) rfl (qE ?_));qA ?_;@Builtin.Dict_items.newIterator;qA (wpAny_dictEntries g a ?_);qA (wpAny_dictEpoch g a ?_);b:Builtin.Dict_items.ownsTuple "dict_itemiterator"=true:=⋯;#[_,b,if_true];wpAny_newObj_type (qE {_,O,"dict_itemiterator",_,{_,qL _ rfl,O},F.slot_dict_itemiterator_next.lookup,?_}) (do#[_,sizeOk,Builtin.Dict_items.ownedTupleFields,List.size_toArray,List.length_append,List.length_cons,List.length_nil,sizeLine_eq];());by simpa[rawInt,Builtin.Dict_items.ownedTupleFields] using i
def Pa{es:Array DictEntry}{ok T:MD}(G:IsItemIter s.heap it d i n ep ok T)(R:s.heap.get? d=!od)(M:od.data=.dict es ep)(hn:es.size=n)(N:i<es.size)(V:∀h',IsItemIterOut h' it d (i+1) n ep es[i].key es[i].val ↑s-> h'.get? ↑s=some {cls:=.type "tuple",data:=.seq #[es[i].key,es[i].val]}->h'.objs.size=↑s+1-> (∀b o,b≠it->s.heap.get? b=!o->h'.get? b=!o)->Q (!(.ref ↑s)) {s with heap:=h'}) : wpAny (model prog w) A (pyNext (.ref it)) Q E s:=do _;{hp,g,S,tk,U}:=s;!hn;K:Shared.TypeIs ⟨hp,g,S,tk,U⟩ (.ref it) "dict_itemiterator":={_,G,O};@pyNext;qA (wpAny_attempt (wpAny_callSpecial?_slot (name:=Str.ofString "__next__") K F.slot_dict_itemiterator_next (qN F.slot_dict_itemiterator_next K F.entry_dict_itemiterator_next ?_ (F.args_dict_itemiterator_next_1 _))));qA (qE ?_);qA ?_;qA ?_;(by first|refine qA (wpAny_typeNameOfWhole_itemiter K (qE ?_))|refine qA (wpAny_typeNameOf_itemiter K (qE ?_)));qA (wpAny_fieldsOf G rfl ?_);P:Builtin.Dict_items.ownsTuple "dict_itemiterator"=true:=⋯;#[_,P,if_true];¬wpAny _ _ (if(Value.ref d==Value.none)=true then _ else _) _ _ _;[qB (show ¬((Value.ref d==Value.none)=true) from qr)];qA (qE ?_);qA (wpAny_dictEntries R M ?_);[qB (do 0)];qA (qE ?_);qA (wpAny_dictEpoch R M ?_);[qB (do 0)];qE ?_;#[_,show ¬((i:Int)<0) from (),if_false,Int.toNat_natCast,Array.getElem?_eq_getElem N];qA ?_;(by first|refine qA (wpAny_typeNameOfWhole_itemiter K (qE ?_))|refine qA (wpAny_typeNameOf_itemiter K (qE ?_)));qA (wpAny_isOneOf_itemiter K ?_);¬wpAny _ _ (setField (.ref it) 3 (rawInt ((i:Int)+1)) >>= _) _ _ {hp,g,S,tk,U};qA (wpAny_setField_rec G (do 0) λh₁ l f=>?_);(by replace f:Heap.SameBut it hp h₁:=f;replace l:IsItemIter h₁ it d (i+1) es.size ep ok T:=do e:((i+1:Nat):Int)=(i:Int)+1:=();@IsItemIter;[e];by simpa[rawInt] using l);r:Shared.TypeIs ⟨h₁,g,S,tk,U⟩ (.ref it) "dict_itemiterator":={_,l,O};qA (qK ?_);qA (wpAny_isOneOf_itemiter r ?_);qA (wpAny_isOneOf_itemiter r ?_);¬wpAny _ _ (Builtin.Dict_items.pairFromOwner (.ref it) 6 es[i].key es[i].val) _ _ {h₁,g,S,tk,U};@Builtin.Dict_items.pairFromOwner;qA (wpAny_newTuple ?_);j:IsItemIter (h₁.push {cls:=.type "tuple",data:=.seq #[es[i].key,es[i].val]}) it d (i+1) es.size ep ok T:=qH _ l;(by generalize m:h₁.push {cls:=.type "tuple",data:=.seq #[es[i].key,es[i].val]}=h₂ at j);p:h₁.objs.size=hp.objs.size:=f.1;D:it<hp.objs.size:=qG G;J:h₂.get? hp.objs.size=some {cls:=.type "tuple",data:=.seq #[es[i].key,es[i].val]}:=(do[←m,←p];qL _ rfl);L:h₂.objs.size=hp.objs.size+1:=(do[←m,Heap.size_push,p]);H:∀b o,b≠it->hp.get? b=!o->h₂.get? b=!o:=λb o I e=>(do[←m];qH _ (f.extBut b o I e));¬wpAny _ _ (Builtin.Dict_items.ownedTupleIsFree (.ref it) >>= _) _ _ {h₂,g,S,tk,U};[p];(by clear m l f r p h₁);qA ?_;@Builtin.Dict_items.ownedTupleIsFree;qA (wpAny_field j rfl (x:=.none) rfl (qE ?_));#[_,if_true];qA (wpAny_field j rfl (x:=ok) rfl ?_);qA (wpAny_field j rfl (x:=T) rfl ?_);qA (wpAny_setField_rec j (do 0) λB q k=>?_);(by replace k:Heap.SameBut it h₂ B:=k;replace q:IsItemIter B it d (i+1) es.size ep es[i].key T:=q);qA (wpAny_setField_rec q (do 0) λC t c=>?_);(by replace c:Heap.SameBut it B C:=c;replace t:IsItemIter C it d (i+1) es.size ep es[i].key es[i].val:=t);qA (wpAny_setField_rec t (do 0) λz v a=>?_);(by replace a:Heap.SameBut it C z:=a;replace v:IsItemIterOut z it d (i+1) es.size ep es[i].key es[i].val hp.objs.size:=v);qA (wpAny_setField_rec v (do 0) λy u h=>?_);(by replace h:Heap.SameBut it z y:=h;replace u:IsItemIterOut y it d (i+1) es.size ep es[i].key es[i].val hp.objs.size:=u);qA (wpAny_letGo (qE (qE {_,O,qE (V y u ?_ ?_ ?_)})));h.extBut _ _ (zu D) (a.extBut _ _ (zu D) (c.extBut _ _ (zu D) (k.extBut _ _ (zu D) J)));¬y.objs.size=hp.objs.size+1;[h.1,a.1,c.1,k.1,L];λb o I e=>h.extBut b o I (a.extBut b o I (c.extBut b o I (k.extBut b o I (H b o I e))))
def N8{es:Array DictEntry}{ok k:MD}(l:A.handled=none)(c:IsItemIter s.heap it d i n ep ok k)(f:s.heap.get? d=!od)(g:od.data=.dict es ep)(hn:es.size=n)(j:es.size<=i)(o:∀h',Heap.ExtBut it s.heap h'->Q none {s with heap:=h'}):wpAny (model prog w) A (pyNext (.ref it)) Q E s:=do !hn;e:s.TypeIs (.ref it) "dict_itemiterator":={_,c,O};@pyNext;qA (wpAny_attempt (wpAny_callSpecial?_slot (name:=Str.ofString "__next__") e F.slot_dict_itemiterator_next (qN F.slot_dict_itemiterator_next e F.entry_dict_itemiterator_next ?_ (F.args_dict_itemiterator_next_1 _))));qA (qE ?_);qA ?_;qA ?_;(by first|refine qA (wpAny_typeNameOfWhole_itemiter e (qE ?_))|refine qA (wpAny_typeNameOf_itemiter e (qE ?_)));qA (wpAny_fieldsOf c rfl ?_);h:Builtin.Dict_items.ownsTuple "dict_itemiterator"=true:=⋯;#[_,h,if_true];¬wpAny _ _ (if(Value.ref d==Value.none)=true then _ else _) _ _ s;[qB (show ¬((Value.ref d==Value.none)=true) from qr)];qA (qE ?_);qA (wpAny_dictEntries f g ?_);[qB (do 0)];qA (qE ?_);qA (wpAny_dictEpoch f g ?_);[qB (do 0)];qE ?_;#[_,show ¬((i:Int)<0) from (),if_false,Int.toNat_natCast,Array.getElem?_eq_none j];qA ?_;(by first|refine qA (wpAny_typeNameOfWhole_itemiter e (qE ?_))|refine qA (wpAny_typeNameOf_itemiter e (qE ?_)));¬wpAny _ _ (setField (.ref it) 2 .none >>= _) _ _ s;qA (wpAny_setField c rfl (do 0) ?_);¬wpAny _ _ (newExc (.type "StopIteration") [] >>= _) _ _ _;qA ?_;#[_,newExc,newTuple];qA (wpAny_newObj_type ?_ (by size_fits));qA (m:=firstArgMember _ _) (wpAny_of_eq (a:=Value.none) (by first|rfl|simp only[firstArgMember];rfl) ?_);wpAny_newObj_type ?_ (by size_fits);#[_,raiseNew];qA (wpAny_handled ?_);[show A.in1.handled=none from l];qA (qE (wpAny_throw ?_));qA (wpAny_isInstance (T:="StopIteration") (b:=true) {_,qL _ rfl,O} isSubtype_stop ?_);qE (o _ (((Heap.SameBut.update ..).extBut.push _).push _))
end
section
variable {X:Cx}{pins:List (Sx×Obj)}{σ:St}{H:Hp}{s:Sv}
def OT{es:Array DictEntry}(m:o.data=.dict es ep)(I:Inv X pins σ H s)(e:H a=!(.cI o (.dG kvs))):∀i (hi:i<es.size) (f:i<kvs.length),RelV kvs[i].2.2 es[i].val:=do _;{n,_,_,xs,h,o',j,p,c,_,b,l,_}:s.heap.get? a=!o/\aS X.prog X.w H s.heap a (.dG kvs):=I.aR a _ e;c←[n];-c;b←[m];(by injection b with b _);!b;(i,hi,f);g:i<xs.length:=(do[←h.length];f);d:=EB h i f g;k:es[i].val=xs[i].2.2:=(do h1:es.toList[i]?=some es[i]:=(do#[hi]);h1←[l,qu,qh g];[←qJ h1];2);[k];d.2.2.2
end
def sG(a:Sx)(o:Obj)(kvs:List (KD×V×V)):It := {λi H=>H a=!(.cI o (.dG kvs))/\i<kvs.length,λi H x H'=>∃p e,H p=none/\kvs[i]?=!e/\x=.ref p/\H'=upd H p (.tup [e.2.1,e.2.2]),λi H=>H a=!(.cI o (.dG kvs))/\kvs.length<=i}
def PV{P:Program}{w:World}{K:PySem.W.Frag}{y:List Expr}{k:Nat}{R:Pos}(a it:Sx){o:Obj}{es:Array DictEntry}{ep:Nat}{kvs:List (KD×V×V)}(n:o.data=.dict es ep) :
  Turn P w K (.Tuple y k R) (sG a o kvs) [it] it (λi h=>∃ok f,IsItemIter h it a i kvs.length ep ok f) where
 mem:=by simp
 obj:=λi h st b N=>by
  have e:b=it:=by simpa using N
  subst e;obtain⟨ok,f,e⟩:=st;exact{_,e,λv z=>by cases z}
 keep:=λi h h' st k=>by
  obtain⟨ok,f,e⟩:=st;exact{ok,f,k it (by simp) _ e}
 item:=by
  intro X u x B d i pins s σ H E I t st J;subst u x B;obtain⟨r,hi⟩:=J;obtain⟨ok,f,st⟩:=st;obtain⟨C,G,m⟩:=p9 n I r;have l:=OT n I r
  have g:i<es.size:=()
  have p:it<↑s:=qG st;refine Pa st C n G g λh' a1 a2 Z T=>{_,O,wpAny_letOwnedTupleGo_items a1 λj Y bs=>?_}
  have S:Inv X pins σ H { s with heap:=j }:=I.dN (t':=s.toks) t λc o d q=>bs.extBut c o (λe=>d (by simp[e])) (T c o (λe=>d (by simp[e])) q)
  have M:j.get? ↑s=some { cls:=.type "tuple",data:=.seq #[es[i].key,es[i].val] }:=bs.extBut _ _ (zu p) a2;have L:H ↑s=none:=I.aR.fresh (qe _);refine{.ref ↑s,upd H ↑s (.tup [kvs[i].2.1,kvs[i].2.2]),I.ie S (qe _) L {?_,[es[i].key,es[i].val],.cons (m i g hi) (.cons (l i g hi) .nil),{_,M,O,_,O}},O,{_,kvs[i],L,qh hi,O,O},{_,_,Y},λc d=>?_}
  .show 2<=sizeLine
   decide
  .have e:c=it:=by simpa using d
   subst e;rw[ak (qp p)];exact(t c (by simp)).1
 done:=by
  intro X u x B d i pins s σ H E I t st J;subst u x B;obtain⟨r,hi⟩:=J;obtain⟨ok,f,st⟩:=st;obtain⟨C,G,m⟩:=p9 n I r
  exact N8 (I.ok.hd d) st C n G () λh' U=>{O,I.dN (t':=s.toks) t λc o d q=>U c o (λe=>d (by simp[e])) q}
 self:=λA i s Q E st h=>by
  obtain⟨ok,f,st⟩:=st;have D:s.TypeIs (.ref it) "dict_itemiterator":={_,st,O};refine wpAny_pyIter_slot D F.slot_dict_itemiterator_iter (qN F.slot_dict_itemiterator_iter D Nf ?_ (F.args_dict_itemiterator_iter_1 _));show wpAny _ _ (ret (.ref it)) _ _ s;exact qE {_,O,"dict_itemiterator",_,D,F.slot_dict_itemiterator_next.lookup,h}
inductive r3(R:It->Hp->Prop)(x:V)(H1:Hp):Prop
 |mk(a kvs:_)(_:x=.ref a)(_:((H1 a=!(.dG kvs)/\∀o,R (sG a o kvs) (upd H1 a (.cI o (.dG kvs))))\/∃o,H1 a=!(.cI o (.dG kvs))/\R (sG a o kvs) H1))
def xb(tl:TE):TI:=λσ H R=>tl σ H λx H1=>r3 R x H1
section
variable {X:Cx}
def rr{tl:TE}(L:PE X l tl)(f:attributeBase l "items" X.env (eval l X.env)=eval l X.env:=by rfl)(d:(apos.endLine==cpos.line)=true:=by rfl):PI X (.Tuple n k G) (.Call (.Attribute l "items" apos) [] [] cpos) (xb tl):=do _;{?_};(pins,s,σ,H,R,I,h);wpAny_Call_method0_late f d (bI (L pins s σ H _ I h) λv c ⟨x,H1,r,K,J⟩=>?_);{a,kvs,e,q}:=J;!e;-K;{H2,o,y,C,D}:∃(H2:Hp) (o:Obj),Inv X pins σ H2 c/\H2 a=!(.cI o (.dG kvs))/\R (sG a o kvs) H2:=(do _;{m,q}||{o,m,q}:=q;{_,_,xs,_,o,es,ep,g,_}:=(show aS X.prog X.w H1 c.heap a (.dG kvs) from r.aR a _ m);{_,o,r.oO m g,aB,q o};{_,o,r,m,q});{g,_,p,xs,_,o',es,ep,i,u,A,_,_}:c.heap.get? a=!o/\aS X.prog X.w H2 c.heap a (.dG kvs):=y.aR a _ C;i←[g];-i;{_,j,_}:=p9 A y C;{"dict","dict.items",PySem.F.plainAttrs_dict,PySem.F.slot_dict_items,PySem.F.type_dict_items,{o,g,u.1},λb z=>?_,Calls.callWith_builtin rfl (PySem.evalArgs_none (Na p g u ?_))};-z;{o,g,u.2.1};t:(c.heap.push {cls:=.type "dict_items",data:=.fields #[.ref a]}).get? a=!o:=qH _ g;Pd (s:={c with heap:=c.heap.push {cls:=.type "dict_items",data:=.fields #[.ref a]}}) (v:=↑c) {_,qL _ rfl,O,O} t A ?_;B:Inv X pins σ H2 {c with heap:=c.heap.push {cls:=.type "dict_items",data:=.fields #[.ref a]}}:=y.kept (t':=c.toks) λb o e=>qH _ e;{(c.heap.push {cls:=.type "dict_items",data:=.fields #[.ref a]}).objs.size,[(c.heap.push {cls:=.type "dict_items",data:=.fields #[.ref a]}).objs.size],_,_,H2,O,B.kept (t':=c.toks) λb o e=>qH _ e,PV a _ A,{_,_,do[←j];qL _ rfl},λb E=>?_,D};e:b=(c.heap.push {cls:=.type "dict_items",data:=.fields #[.ref a]}).objs.size:=(do 0<|E);!e;B.lG (qe _) (B.aR.fresh (qe _))
end
def Rm{a:Sx}{o:Obj}{kvs:List (KD×V×V)}{g:TG}{tb:TS}{D:Ends}{σ:St}{H:Hp}(b:Nat->St->Hp->Prop)(h0:b 0 σ H)(h:∀i σ H,b i σ H->H a=!(.cI o (.dG kvs)))(l:∀i e σ H p,kvs[i]?=!e->b i σ H->H p=none->g (.ref p) σ (upd H p (.tup [e.2.1,e.2.2])) λc H2=>tb {D with nx:=b (i+1),ct:=b (i+1),bk:=D.nx} c H2)(j:∀σ H,b kvs.length σ H->D.nx σ H) : ∃W:Nat->Nat->St->Hp->Prop,(∃m,W 0 m σ H)/\∀i m σ H,W i m σ H-> ((sG a o kvs).stop i H/\D.nx σ H)\/((sG a o kvs).go i H/\∃N:St->Hp->Prop,(∀σ' H',N σ' H'->∃f,f<m/\W (i+1) f σ' H')/\∀x H',(sG a o kvs).wM i H x H'->g x σ H' λc H2=>tb {D with nx:=N,ct:=N,bk:=D.nx} c H2):=do _;{λi m σ H=>m=kvs.length - i/\i<=kvs.length/\b i σ H,{kvs.length,do 0,Nat.zero_le _,h0},?_};(i,m,σ,H,{rfl,hi,p});d<|i<kvs.length;.inr {{h i σ H p,d},b (i+1),λσ' H' n=>{kvs.length - (i+1),(),O,d,n},λx H' y=>?_};{q,e,hn,k,rfl,rfl}:=y;l i e σ _ q k p hn;e:i=kvs.length:=();!e;.inl {{h _ σ H p,qe _},j σ H p}
def vP{own:List Sy}{g:TG}(hz:kvs.length<=sizeLine)(c:Nat->List V->Hp->Prop)(h0:c 0 [] H)(l:∀i ys H,c i ys H->H a=!(.cI o (.dG kvs)))(u:∀i e ys H' p (n:V->Hp->Prop) (k:Hp->Prop),kvs[i]?=!e->c i ys H'->H' p=none->(∀y j,c (i+1) (ys++[y]) j->n y j)->(∀f,c (i+1) ys f->k f)-> g (.ref p) (cD own fr σ) (upd H' p (.tup [e.2.1,e.2.2])) λh H2=>tt h H2 λb f=>if b=true then te h f n else k f)(r:∀H' p ys,c kvs.length ys H'->ys.length<=kvs.length->H' p=none->Q (.ref p) (upd H' p (.lst ys))):FR own fr g tt te σ Q (sG a o kvs) H:=do _;{λi m ys H=>m=kvs.length - i/\i<=kvs.length/\ys.length<=i/\c i ys H,{kvs.length,do 0,Nat.zero_le _,Nat.zero_le _,h0},?_};(i,m,ys,H,{rfl,hi,v,p});d<|i<kvs.length;.inr {{l _ _ H p,d},(),λx H' y=>?_};{q,e,hn,s,rfl,rfl}:=y;u i e ys _ q _ _ s p hn (λy j t=>{kvs.length - (i+1),(),O,d,?_,t}) λf z=>{kvs.length - (i+1),(),O,d,(),z};[qi,qt];();e:i=kvs.length:=();!e;.inl {{l _ _ H p,qe _},λq w=>r H q ys p v w}
def MF(a v:MD):argsOk "max" {[a],[(Str.ofString "key",v)]}:=do@argsOk;by kernel_rfl
def Q4{prog:Program}{w:World}{A:Around}{E:KE}{s:Sv}{id:String}{b:Builtin}{a:List MD}{d:List (Sy×MD)}{Q:KE}(l:builtinKind id=none)(hp:plainId id=true)(m:entryFor table id=!b)(k:argsOk id {a,d})(j:wpAny (model prog w) A.in1 (b {a,d}) (λg s'=>match g with|.done f=>(match(Except.ok f:Result) with|.ok (.ret v)=>Q v s'|.ok _=>False|.error e=>E e s')|.again c'=>c'.quiet=true/\codeAny (model prog w) A c' (λr s'=>match r with|.ok (.ret v)=>Q v s'|.ok _=>False|.error e=>E e s') s') E s) : wpAny (model prog w) A (call (.builtin id) a d) Q E s:=do wpAny_call (codeAny_call_builtin hp m ?_);#[_,checkBuiltinCall,l];(by cases c:Manifest.signature? id with|none|some i=>?_);qE j;h:Bind.checkArgs id i ⟨a,d⟩=pure Unit.unit:=(by simpa only[argsOk,c] using k);#[_,h];qE j
theorem CB:∀{names:List (Sy×NameKind)} {acc:List (Sy×Sx)},(lV env names acc).lookup x=!c->(x,NameKind.free)∈names\/acc.lookup x=!c|[],_,h=>.inr h|(n,k)::r,acc,h=>do q||q:=CB (names:=r) h;.inl (qy _ q);(by cases b:(k==NameKind.free)with|false|true=>?_);q←[b,qB qr];.inr q;q←[b,qF rfl,gf];(by cases a:(x==n)with|true|false=>?_);this:=beq_iff_eq.mp a;!this;this:=beq_iff_eq.mp b;!this;.inl qm;q←[a];.inr q
structure og(y z:Sy)(sc:Scope):Prop where
 kind:sc.kind=.function
 co:sc.isCoroutine=false
 gen:sc.isGenerator=false
 cell:∀p∈sc.names,p.2≠.cell
 ly:sc.names.lookup y=some .local
 lz:sc.names.lookup z=some .free
 fr:∀p∈sc.names,p.2=.free->p.1=z
def m2(qual:Sy)(a:Scope)(cl:List (Sy×Sx))(L f:Sx)(cd:MD):Env := {scope:=a,locals:=L,globals:=mainGlobals,cells:=cl,qual:=qual++".<locals>.",func:=!f,code:=cd,frame:=!L,builtins:=builtinsNs}
def ij(P:Program)(w:World)(K:PySem.W.Frag)(mg:Sy->Option MD)(base:Heap)(y z qual:Sy)(a:Scope)(cl:List (Sy×Sx))(f:Sx)(cd:MD)(A:Around)(outer:List Env)(s:Sv)(H:Hp):Cx where
 prog:=P
 w:=w
 K:=K
 mg:=mg
 base:=base
 A:=A.deeper (m2 qual a cl ↑s f cd)
 N:=[y,z]
 s₀:=s
 H₀:=H
 env:=m2 qual a cl ↑s f cd
 outer:=outer
 stack:=m2 qual a cl ↑s f cd::outer
 ex:=[]
 calm:=true
 fn:=λ_=>false
 pn:=[]
 xe:=λ_ _=>False
def N2{P:Program}{w:World}{K:PySem.W.Frag}{mg:Sy->Option MD}{base:Heap}{y z qual:Sy}{q:Scope}{cl:List (Sy×Sx)}{f c:Sx}{cd x u:MD}{A:Around}{outer:List Env}{s:Sv}{H:Hp}{v t:V}{h':Heap}{tk:Nat}(S:og y z q)(D:A.handled=none)(g:f_ P w K mg base A outer s H)(E:RelV v x)(j:∀n a,cl.lookup n=!a->n=z/\a=c)(hz:cl.lookup z=!c)(B:s.heap.IsCell c (!u))(r:H c=none)(C:RelV t u)(hn:h'.Ns ↑s (λn=>[(y,x)].reverse.lookup n))(old:∀b o,s.heap.get? b=!o->h'.get? b=!o):Inv (ij P w K mg base y z qual q cl f cd A outer s H) [] [!v,!t] H {s with heap:=h',toks:=tk}:=do k:∀b:Sx,b∉(ij P w K mg base y z qual q cl f cd A outer s H).ex:=λb z=>absurd (show b∈([]:List Sx) from z) (do 0);l:h'.IsCell c (!u):=let⟨o,e,d⟩:=B;{o,old _ _ e,d};{{g.mod,S.kind,O,O,qe _,λn m a h1 h2=>(j n a h1).1.trans (j m a h2).1.symm,λn hn=>?_,λn a z=>(do-z),λ_=>D,Around.frames_deeper g.frames,.inr {O,O},λb z=>absurd z (k b),g.bs,g.tN,λb _ _=>k b,λb z=>absurd z (k b),g.ee,g.xJ},rfl,g.bare,Un.kept old,{_,hn,λi n F h1 h2 G=>?_},λn a h=>?_,g.aR.fresh (Nat.le_refl _),λn a h=>?_,λp hp=>absurd (show p∈([]:List (Sx×Obj)) from hp) (do 0),g.aR.kept old,O};hn:q.names.lookup n=some .cell\/q.names.lookup n=some .free:=hn;hn||hn:=hn;absurd rfl (S.cell _ (PySem.mem_of_lookup hn));this:=S.fr _ (PySem.mem_of_lookup hn) rfl;this:n=z:=this;[this];{c,hz};(by match i,h1,h2 with| 0,h1,h2 => cases h1;cases h2;exact{x,E,.inl {S.ly,do 0}}| 1,h1,h2 => cases h1;cases h2;exact{u,C,.inr {.inr S.lz,c,hz,l}}|i+2,h1,h2=>cases h1);{_,e}:=j n a h;[e];{_,l};{_,e}:=j n a h;[e];r
def HK{P:Program}{w:World}{K:PySem.W.Frag}{mg:Sy->Option MD}{base:Heap}{A:Around}{outer:List Env}{s:Sv}{H:Hp}{k:Nat}{f j c:Sx}{q:Sy}{g:Arguments}{h:Expr}{d:Scope}{cl:List (Sy×Sx)}{G l x u:MD}{y z:Sy}{v C:V}{Q:VK}{tb:TE}(L:bG k A)(F:f_ P w K mg base A outer s H)(U:s.heap.get? f=!(kla_obj "<lambda>" q g h d cl G j l))(B:s.heap.CodeRec (.ref j) q)(S:og y z d)(i:bindArgs (kla_fn "<lambda>" q g h d cl G (.ref j) l) {[x],[]}=pure [(y,x)])(X:RelV v x)(E:∀n a,cl.lookup n=!a->n=z/\a=c)(hz:cl.lookup z=!c)(Z:s.heap.IsCell c (!u))(D:H c=none)(N:RelV C u)(R:PE (ij P w K mg base y z q d cl f (.ref j) A outer s H) h tb)(Y:tb [!v,!C] H Q) : codeAny (model P w) A (.call (.ref f) {[x],[]}) (CR iO outer P w H s Q E0) s:=do r:s.heap.NoLimit:=F.mod.nolimit.keeps λb o e=>(F.bs b o e).1;kla_callFunE L.depth U rfl S.co S.gen rfl B ?_;[i];qE ?_;wpAny_newFunctionEnv S.cell (λn hn=>do[qx.mp hn];S.ly) (λh' m p=>?_) S.kind;old:∀b o,s.heap.get? b=!o->h'.get? b=!o:=λb o e=>p.extBut b o (qp (qG e)) (qH _ e);{r.keeps old,kla_codeExpr ?_};I:=N2 (f:=f) (cd:=.ref j) (qual:=q) (tk:=s.toks+[(y,x)].length) S L.hd F X E hz Z D N m old;qM (R [] _ [!v,!C] H Q I Y) (λu s' t=>?_) λe s' t=>False.elim t;{T,H',J,M,O}:=t;{T,H',J.os,J.bare,J.base,J.aR,M,O}
section
variable {X:Cx}{pins:List (Sx×Obj)}{σ:St}{H:Hp}{s:Sv}
def Hi{cl:List (Sy×Sx)}(I:Inv X pins σ H s)(j:X.env.code=.ref c)(V:codeHdIn X.K c P=true)(Z:X.base.BuiltinsAt X.mg P)(m:Tb a.line a.col (X.env.qual++"<lambda>") P H)(F:defaultsOf d X.env=([],[]))(D:closureFor i X.env=pure cl)(h:∀f g k W s' H',Inv X pins σ H' s'->Tb a.line a.col (X.env.qual++"<lambda>") P H'->H' g=!(uB g (X.env.qual++"<lambda>"))->af (del H P) (del H' P)->H' f=none->f∉d_ X.stack->s'.heap.get? f=!(kla_obj "<lambda>" (X.env.qual++"<lambda>") d n i cl W g k)->Q (.ref f) s') : wpAny (model X.prog X.w) X.A (eval (.Lambda d n i a) X.env) Q X.xe s:=do x:s.heap.Ns mainGlobals X.mg:=I.mod.glob.keeps I.bk;C:CodeHd s.heap c P:=codeHd_of_K I.lY V;S:s.heap.BuiltinsAt X.mg P:=Z.keeps I.bk;N:mainGlobals≠P:=λz=>(do _;{o,es,ep,e,_}:=I.mod.glob;{ps,t}:=m.cf;t←[←z];by rcases(I.bs _ _ e).2 with y|⟨xs,y⟩ <;> rw[y]at t <;> cases t);kla_eval F ?_;m||{g,m,hc'}:=m;J:s.heap.get? P=!(tabObj #[]):=I.aR P _ m;kla_makeFunction D I.ok.glob x j C J trivial rfl N S λg k h' tk U l v B E=>?_;O:P<↑s:=I.aR.lt m;M:P≠g:=qp (zf O l);p:↑s<=h'.objs.size:=ww (jj l v);e0:(#[]:Array MD)++#[rawInt a.line,rawInt a.col,.ref g]=#[rawInt a.line,rawInt a.col,.ref g]:=(do 0);E←[e0];L:h'.objs.size≠g:=zu v;G:h'.objs.size≠P:=zu (zf O p);h _ g k _ _ _ (Inv.FH (q:=X.env.qual++"<lambda>") (more:=#[rawInt a.line,rawInt a.col,.ref g]) I m (λb o nb e=>qH _ (U b o nb e)) l ?_ (qH _ E)) (.inr {g,do[ak M,aB],aB}) aB (λb u e=>?_) ?_ (I.kO p) (qL _ rfl);{c2,oc,vs,T,e,Y,r}:=B;{c2,oc,vs,T,e,qH _ Y,r};z<|b=P;!z;e←[d9];-e;(by rw[bR z]at e ⊢);[ak (λy=>do !y;e←[I.aR.fresh l];-e),ak z];e;[ak L,ak G];I.aR.fresh p;J:s.heap.get? P=!(tabObj #[rawInt a.line,rawInt a.col,.ref g]):=I.aR P _ m;kla_makeFunctionHit (cv:=.ref g) D I.ok.glob x j C J (do#[TriplesOk,rawInt]) (do#[codeAmong,rawInt]) S λk h' tk R hsz=>?_;h _ g k _ _ H ?_ (.inr {g,m,hc'}) hc' (af.refl _) (I.aR.fresh hsz) (I.kO hsz) (qL _ rfl);I.un (Un.kept λb o e=>qH _ (R b o e)) (I.aR.kept λb o e=>qH _ (R b o e))
abbrev eJ(xs:Array MD)(c:Nat):Obj:={cls:=.type "list",dict:=none,data:=.seq xs c,slots:=#[]}
structure FI(X:Cx)(H:Hp)(s:Sv)(it S p:Sx)(Hm:Hp)(s':Sv)(j:Nat)(bst:Array MD):Prop where
 un:Un (d_ X.stack) [] H Hm s.heap s'.heap
 aR:dn X.prog X.w Hm s'.heap
 os:s'.os=s.os
 bare:AllBare s'.gens
 same:af H Hm
 fI:Hm it=none
 fS:Hm S=none
 gI:s'.heap.IsListIter it p j
 gS:∃c,s'.heap.get? S=!(eJ bst c)
def FI.inv{it S p:Sx}(M:FI X H s it S p c s' j a)(I:Inv X pins σ H s):Inv X pins σ c s':=I.gP M.os M.un M.aR M.bare (λb z=>absurd z (do 0))
def Lg{fa it S p:Sx}{ys:List V}{D:Nat->List Int}{C:Hp->V->VK->Prop}{a:Hp}{s':Sv}{j:Nat}{F:Array MD}{E:KE}(i:∀(s':Sv) (a:Hp) (x:MD) (y:V) (Q:VK),f_ X.prog X.w X.K X.mg X.base X.A.in1 X.stack s' a->Un (d_ X.stack) [] H a s.heap s'.heap->af H a->RelV y x->C a y Q->codeAny (model X.prog X.w) X.A.in1 (.call (.ref fa) {[x],[]}) (CR iO X.stack X.prog X.w a s' Q E0) s')(hsp:∀(m:Nat) y H' (Q':VK),ys[m]?=!y->af H H'->(∀q g,af H' q->DV q g (.tuple ((D m).map PyData.int))->Q' g q)->C H' y Q')(hh:X.A.handled=none)(I:Inv X pins σ H s)(hp:az H p ys)(hi:↑s<=it)(hS:↑s<=S)(hIS:it≠S)(nI:it∉d_ X.stack)(nS:S∉d_ X.stack)(hj:j<ys.length)(M:FI X H s it S p a s' j F) : wpAny (model X.prog X.w) X.A.in1 (pyNext (.ref it)) (λr s1=>∃item,r=!item/\∀E',wpAny (model X.prog X.w) X.A.in1 (call (.ref fa) [item]) (λval s2=>∃y g H2,ys[j]?=!y/\RelV y item/\RelV g val/\DV H2 g (.tuple ((D j).map PyData.int))/\af a H2/\FI X H s it S p H2 s2 (j+1) F) E' s1) E s':=do I':=M.inv I;l:=hp.same M.same;{its,rv,Y,hz}:=I'.list l;hl:=rv.length;hlt:p<↑s':=(do _;{_,e,_}:=Y.isList;qG e);hip:p≠it:=λz=>(do _;{o1,e1,c1,d1}:=Y.isList;{o2,e2,c2,d2}:=M.gI;e1←[z,e2];-e1;c2←[c1];(by injection c2 with z);absurd z ⋯);hpS:p≠S:=λz=>(do e||{o,e}:=hp;this:=I.aR.lt e;absurd this (do[z];Nat.not_lt.mpr hS);this:=I.aR.lt e;absurd this (do[z];Nat.not_lt.mpr hS));W:=Walks.list (prog:=X.prog) (w:=X.w) (A:=X.A.in1) hh it p hip its.toArray;W.item j s' _ _ (do[zg];()) {M.gI,Y.isList} λv h' tk R B T=>{v,O,λE'=>?_};R:its.toArray[j]?=!v:=R;R←[List.getElem?_toArray];t:ys[j]?=some ys[j]:=qh hj;{u',N,G}:=rv.get t;N←[R];-N;wr:∀b o,b≠it->s'.heap.get? b=!o->h'.get? b=!o:=λb o Z e=>T b o (do 0<|Z) e;k:Un (d_ X.stack) [] H a s.heap h':=M.un.later λb o Z e=>wr b o (qp (zf Z hi)) e;L:dn X.prog X.w a h':=M.aR.other wr M.fI;I1:Inv X pins σ a {s' with heap:=h',toks:=tk}:=I.gP (s':={s' with heap:=h',toks:=tk}) M.os k L M.bare (λb z=>absurd z (do 0));h:=I1.BL;wpAny_call (codeAny_mono (i {s' with heap:=h',toks:=tk} a v ys[j] (λg H2=>af a H2/\DV H2 g (.tuple ((D j).map PyData.int))) {h.frames,h.mod,h.bs,h.tN,h.ee,h.xJ,h.aR,h.bare} k M.same G (hsp j ys[j] a _ t M.same λH2 g a1 a2=>{a1,a2})) λres s2 l=>?_);(by cases res with|error e|ok fl=>?_);l.elim;(by cases fl with|next|brk|cont|ret u=>?_);l.elim;l.elim;l.elim;{g,H2,os2,n,d,J,rel,f,U}:=l;{c,gS}:=M.gS;{oi,gi,ci,di}:=B.1;P:=wr S _ hIS.symm gS;{ys[j],g,H2,t,G,rel,U,f,k.trans d,J,os2.trans M.os,n,M.same.trans f,d.free it _ gi M.fI (do 0),d.free S _ P M.fS (do 0),{oi,d.keep it _ gi M.fI nI (do 0),ci,di},c,d.keep S _ P M.fS nS (do 0)}
def PD{fa it S p:Sx}{ys:List V}{D:Nat->List Int}{C:Hp->V->VK->Prop}{R:Result->Sv->Prop}(E:∀(s':Sv) (l:Hp) (x:MD) (y:V) (Q:VK),f_ X.prog X.w X.K X.mg X.base X.A.in1 X.stack s' l->Un (d_ X.stack) [] H l s.heap s'.heap->af H l->RelV y x->C l y Q->codeAny (model X.prog X.w) X.A.in1 (.call (.ref fa) {[x],[]}) (CR iO X.stack X.prog X.w l s' Q E0) s')(hsp:∀(m:Nat) y H' (Q':VK),ys[m]?=!y->af H H'->(∀J B,af H' J->DV J B (.tuple ((D m).map PyData.int))->Q' B J)->C H' y Q')(hu:X.A.units+3+61<cLine)(hh:X.A.handled=none)(I:Inv X pins σ H s)(hp:az H p ys)(hi:↑s<=it)(hS:↑s<=S)(G:it≠S)(nI:it∉d_ X.stack)(nS:S∉d_ X.stack)(fin:∀(m:Nat) (y:V) (u:MD) Hn L,ys[m]?=!y->RelV y u->(∀i,i<ys.length->bT (.tuple ((D m).map PyData.int)) (.tuple ((D i).map PyData.int))=false)->Inv X pins σ Hn L->af H Hn->R (.ok (.ret u)) L) : ∀(k j:Nat) (l:Hp) (s':Sv) (b:Nat) (y:V) (item val:MD) (B:V),ys.length - j=k->1<=j->j<=ys.length->FI X H s it S p l s' j #[item,val]->b<j->ys[b]?=!y->RelV y item->RelV B val->DV l B (.tuple ((D b).map PyData.int))-> (∀i,i<j->bT (.tuple ((D b).map PyData.int)) (.tuple ((D i).map PyData.int))=false)->codeAny (model X.prog X.w) X.A (.builtin "max.loop" {[.ref it,.ref fa,.ref S],[]}) R s':=do n:(toString "max"++toString ".loop":String) = "max.loop":=⋯;(k);(by induction k with|zero|succ k ih=>?_);(j,l,s',b,y,item,val,B,hk,h1,hj,M,g,hy,ry,rk,dk,v);Z:j=ys.length:=();{c,Y}:=id M.gS;I':=M.inv I;{its,rv,pl,hz}:=I'.list (hp.same M.same);hl:=rv.length;hip:p≠it:=λz=>(do _;{o1,e1,c1,d1}:=pl.isList;{o2,e2,c2,d2}:=M.gI;e1←[z,e2];-e1;c2←[c1];(by injection c2 with z);absurd z ⋯);W:=Walks.list (prog:=X.prog) (w:=X.w) (A:=X.A.in1) hh it p hip its.toArray;codeAny_builtin F.entry_max_loop ?_;[Around.under_plainId F.plain_max_loop _];¬wpAny _ X.A.in1 (seqItems? (.ref S) >>= _) _ _ s';qA (wpAny_seqItems Y rfl ?_);¬wpAny _ X.A.in1 (tryCatch (pyNext (.ref it)) _ >>= _) _ _ s';qA (wpAny_tryCatch (W.done s' _ _ {do[zg,←hl,←Z];M.gI,pl.isList} λh' tk hk'=>?_));wr:∀b o,b≠it->s'.heap.get? b=!o->h'.get? b=!o:=λb o g e=>hk' b o (do 0<|g) e;gS':=wr S _ G.symm Y;¬wpAny _ X.A.in1 (updateSeq S (λ_=>#[]) >>= _) _ _ _;qA ?_;wpAny_updateSeq gS' rfl (qA (wpAny_letGo (qE ?_)));wr2:∀b o,b≠it->b≠S->s'.heap.get? b=!o->(h'.update S (Obj.mapSeq λ_=>(#[]:Array MD))).get? b=!o:=λb o h1 h2 e=>(Heap.get?_update_other _ _ (Ne.symm h2)).trans (wr b o h1 e);fin b y item l _ hy ry (λi T=>v i ()) ?_ M.same;I.gP (s':={s' with heap:=h'.update S (Obj.mapSeq λ_=>(#[]:Array MD)),toks:=tk}) M.os (M.un.later λb o g e=>wr2 b o (Nat.ne_of_lt (Nat.lt_of_lt_of_le g hi)) (Nat.ne_of_lt (Nat.lt_of_lt_of_le g hS)) e) ?_ M.bare (λb z=>absurd z (do 0));(M.aR.other wr M.fI).other (λb u g e=>(Heap.get?_update_other _ _ (Ne.symm g)).trans e) M.fS;(j,l,s',b,y,item,val,B,hk,h1,hj,M,g,hy,ry,rk,dk,v);hlt:j<ys.length:=();{c,Y}:=id M.gS;codeAny_builtin F.entry_max_loop ?_;[Around.under_plainId F.plain_max_loop _];¬wpAny _ X.A.in1 (seqItems? (.ref S) >>= _) _ _ s';qA (wpAny_seqItems Y rfl ?_);¬wpAny _ X.A.in1 (tryCatch (pyNext (.ref it)) _ >>= _) _ _ s';qA (wpAny_tryCatch (qM (Lg E hsp hh I hp hi hS G nI nS hlt M) (λr s1 hr=>?_) (λ_ _ z=>z)));{d,rfl,hr}:=hr;¬wpAny _ X.A.in1 (tryCatch (holding [d] (call (.ref fa) [d])) _ >>= _) _ _ s1;qA (wpAny_tryCatch (qK (qM (hr (λ_ _=>False)) (λf s2 hR=>?_) (λ_ _ z=>z.elim))));{y2,kv2,H2,hy2,ry2,N,O,t,h}:=hR;I2:=h.inv I;{as1,r1}:=O.reads I2 N;{as2,r2}:=(dk.same t).reads I2 rk;{c2,U}:=id h.gS;kE:∀i,bT (.tuple ((D i).map PyData.int)) (.tuple ((D i).map PyData.int))=false:=λi=>mY _;tr:∀a b c:Nat,bT (.tuple ((D a).map PyData.int)) (.tuple ((D b).map PyData.int))=true->bT (.tuple ((D b).map PyData.int)) (.tuple ((D c).map PyData.int))=true->bT (.tuple ((D a).map PyData.int)) (.tuple ((D c).map PyData.int))=true:=λa b c h1 h2=>vX _ _ _ (do[sk];xA _ _) (do[sk];xA _ _) (do[sk];xA _ _) h1 h2;¬wpAny _ X.A.in1 (tryCatch (holding [d,f] (richCompare .Gt f val >>= _)) _ >>= _) _ _ s2;qA (wpAny_tryCatch (qK (qA (Qx r1 r2 (do¬X.A.units+1+2<cLine;()) X.prog X.w _ _ ?_))));qA (qK (wpAny_truthy_bool ?_));qA (wpAny_letGo (qE ?_));(by cases P:bT (.tuple ((D b).map PyData.int)) (.tuple ((D j).map PyData.int))with|true|false=>?_);#[_,if_true];qA ?_;wpAny_updateSeq U rfl (qA (wpAny_letGo ?_));[n];ot:∀b o,b≠S->s2.heap.get? b=!o->(s2.heap.update S (Obj.mapSeq λ_=>#[d,f])).get? b=!o:=λb o h2 e=>(Heap.get?_update_other _ _ (Ne.symm h2)).trans e;{oi,gi,ci,di}:=id h.gI;qE {plainId_quiet F.plain_max_loop _,ih (j+1) H2 _ j y2 d f kv2 () () () {h.un.later λb o g e=>ot b o (qp (zf g hS)) e,h.aR.other (λb u g e=>ot b u g e) h.fS,h.os,h.bare,h.same,h.fI,h.fS,{oi,ot _ _ G gi,ci,di},_,Heap.get?_update_self _ U rfl} () hy2 ry2 N O λi T=>?_};z<|i=j;[z];kE j;this:=v i ();(by cases q:bT (.tuple ((D j).map PyData.int)) (.tuple ((D i).map PyData.int))with|false|true=>?_);2;this←[tr _ _ _ P q];-this;#[_,Bool.false_eq_true,if_false];qA (wpAny_letGo ?_);[n];qE {plainId_quiet F.plain_max_loop _,ih (j+1) H2 _ b y item val B () () () h () hy ry rk (dk.same t) λi T=>?_};z<|i=j;[z];P;v i ()
def O3{fa p:Sx}{ys:List V}{D:Nat->List Int}{C:Hp->V->VK->Prop}{Q:VK}(c:∀(s':Sv) (t:Hp) (x:MD) (y:V) (Q:VK),f_ X.prog X.w X.K X.mg X.base X.A.in1 X.stack s' t->Un (d_ X.stack) [] H t s.heap s'.heap->af H t->RelV y x->C t y Q->codeAny (model X.prog X.w) X.A.in1 (.call (.ref fa) {[x],[]}) (CR iO X.stack X.prog X.w t s' Q E0) s')(B:∀(m:Nat) y H' (Q':VK),ys[m]?=!y->af H H'->(∀l kv,af H' l->DV l kv (.tuple ((D m).map PyData.int))->Q' kv l)->C H' y Q')(hu:X.A.units+3+61<cLine)(hh:X.A.handled=none)(I:Inv X pins σ H s)(hp:az H p ys)(hn:0<ys.length)(Y:∀(m:Nat) (y:V) j,ys[m]?=!y->(∀i,i<ys.length->bT (.tuple ((D m).map PyData.int)) (.tuple ((D i).map PyData.int))=false)->af H j->Q y j) : wpAny (model X.prog X.w) X.A (call (.builtin "max") [.ref p] [(Str.ofString "key",.ref fa)]) (EP X pins σ Q) X.xe s:=do d:(toString "max"++toString ".loop":String) = "max.loop":=⋯;{its,rv,pl,hz}:=I.list hp;q:=pl.isList;hlt:p<↑s:=(do _;{_,e,_}:=q;qG e);Q4 F.kind_max F.plain_max F.entry_max (MF _ _) ?_;¬wpAny _ X.A.in1 (Builtin.Builtins.bindParams "max" ["key","default"] 0 {[],[(Str.ofString "key",.ref fa)]} >>= _) _ _ s;qA (wpAny_of_eq (show Builtin.Builtins.bindParams "max" ["key","default"] 0 {[],[(Str.ofString "key",.ref fa)]}=pure [!(.ref fa),none] from rfl) ?_);qA (qE ?_);qA (wpAny_pyIter_list q (qA (wpAny_newObj_type ?_)));[d];R:(s.heap.push {cls:=.type "list_iterator",data:=.fields #[.ref p,.int 0 0]}).objs.size=↑s+1:=Heap.size_push ..;U:∀b o,s.heap.get? b=!o->((s.heap.push {cls:=.type "list_iterator",data:=.fields #[.ref p,.int 0 0]}).push (eJ #[] 0)).get? b=!o:=λb o e=>qH _ (qH _ e);gI:((s.heap.push {cls:=.type "list_iterator",data:=.fields #[.ref p,.int 0 0]}).push (eJ #[] 0)).IsListIter ↑s p 0:={_,qH _ (qL _ rfl),O,O};E:((s.heap.push {cls:=.type "list_iterator",data:=.fields #[.ref p,.int 0 0]}).push (eJ #[] 0)).get? (s.heap.push {cls:=.type "list_iterator",data:=.fields #[.ref p,.int 0 0]}).objs.size=!(eJ #[] 0):=qL _ rfl;qE {plainId_quiet F.plain_max_loop _,?_};¬codeAny _ X.A (.builtin "max.loop" {[.ref ↑s,.ref fa,.ref (s.heap.push {cls:=.type "list_iterator",data:=.fields #[.ref p,.int 0 0]}).objs.size],[]}) _ {s with heap:=(s.heap.push {cls:=.type "list_iterator",data:=.fields #[.ref p,.int 0 0]}).push (eJ #[] 0)};(by rw[R]at E ⊢;generalize (s.heap.push {cls:=.type "list_iterator",data:=.fields #[.ref p,.int 0 0]}).push (eJ #[] 0)=h2 at U gI E ⊢);hi:↑s<=↑s:=qe _;n:↑s<=↑s+1:=jt _;h:↑s≠↑s+1:=qp (yo _);nI:=I.kO hi;M:=I.kO n;fI:=I.aR.fresh hi;fS:=I.aR.fresh n;(by generalize ↑s+1=S at E n h M fS ⊢);M0:FI X H s ↑s S p H {s with heap:=h2} 0 #[]:={Un.kept U,I.aR.kept U,O,I.bare,af.refl _,fI,fS,gI,0,E};G:∀(m:Nat) (y:V) (u:MD) j k,ys[m]?=!y->RelV y u->(∀i,i<ys.length->bT (.tuple ((D m).map PyData.int)) (.tuple ((D i).map PyData.int))=false)->Inv X pins σ j k->af H j->(λ(r:Result) s'=>match r with|.ok (.ret v)=>EP X pins σ Q v s'|.ok _=>False|.error e=>X.xe e s') (.ok (.ret u)) k:=λm y u j k h1 h2 h3 h4 h5=>{y,j,h4,h2,Y m y j h1 h3 h5};codeAny_builtin F.entry_max_loop ?_;[Around.under_plainId F.plain_max_loop _];¬wpAny _ X.A.in1 (seqItems? (.ref S) >>= _) _ _ {s with heap:=h2};qA (wpAny_seqItems E rfl ?_);¬wpAny _ X.A.in1 (tryCatch (pyNext (.ref ↑s)) _ >>= _) _ _ {s with heap:=h2};qA (wpAny_tryCatch (qM (Lg c B hh I hp hi n h nI M hn M0) (λr s1 T=>?_) (λ_ _ z=>z)));{a,rfl,T}:=T;¬wpAny _ X.A.in1 (tryCatch (holding [a] (call (.ref fa) [a])) _ >>= _) _ _ s1;qA (wpAny_tryCatch (qK (qM (T (λ_ _=>False)) (λf s2 hR=>?_) (λ_ _ z=>z.elim))));{y2,Z,H2,W,ry2,L,N,same2,g}:=hR;{c2,J}:=id g.gS;¬wpAny _ X.A.in1 (updateSeq S (λ_=>#[a,f]) >>= _) _ _ s2;qA ?_;wpAny_updateSeq J rfl ?_;[d];ot:∀b o,b≠S->s2.heap.get? b=!o->(s2.heap.update S (Obj.mapSeq λ_=>#[a,f])).get? b=!o:=λb o h2 e=>(Heap.get?_update_other _ _ (Ne.symm h2)).trans e;{oi,gi,ci,di}:=id g.gI;qE {plainId_quiet F.plain_max_loop _,PD c B hu hh I hp hi n h nI M G _ 1 H2 _ 0 y2 a f Z rfl () () {g.un.later λb o P e=>ot b o (qp (zf P n)) e,g.aR.other (λb u P e=>ot b u P e) g.fS,g.os,g.bare,g.same,g.fI,g.fS,{oi,ot _ _ h gi,ci,di},_,Heap.get?_update_self _ J rfl} () W ry2 L N λi hi'=>?_};this:i=0:=();[this];mY _
def LB(d cl:Nat)(q:Sy)(P:Sx)(i:Nat)(tb:TE)(t:TA):TE:=λσ H Q=>t σ H λvs H1=>Tb d cl q P H1/\∀H2,Tb d cl q P H2->af (del H1 P) (del H2 P)->∃p ys c,∃D:Nat->List Int,vs=[.ref p]/\az H2 p ys/\0<ys.length/\σ[i]?=some (!c) ∧ (∀(m:Nat) y H' (e:VK),ys[m]?=!y->af H2 H'->(∀a f,af H' a->DV a f (.tuple ((D m).map PyData.int))->e f a)->tb [!y,!c] H' e) ∧ ∀(m:Nat) y b,ys[m]?=!y->(∀j,j<ys.length->bT (.tuple ((D m).map PyData.int)) (.tuple ((D j).map PyData.int))=false)->af H2 b->Q y b
end
section
variable {X:Cx}{k:Nat}
def Ou{p l kp pos:Pos}(J:X.env.code=.ref c)(hC:codeHdIn X.K c P=true)(hB:X.base.BuiltinsAt X.mg P)(hr:bG (k+2) X.A)(hg:Gl X x)(Z:X.mg x=none)(hv:bootBuiltins x=!(.builtin "max"))(S:og y z b)(hN:X.N[i]?=!z)(hk:X.env.kindOf z=some .cell)(hX:∀x,X.env.kindOf x=some .cell->∃c,X.env.cells.lookup x=!c)(hcm:X.calm=true)(Y:X.fn z=true)(L:∀cl pm cd R x,bindArgs (kla_fn "<lambda>" (X.env.qual++"<lambda>") d m b cl pm cd R) {[x],[]}=pure [(y,x)])(hb:∀cl f cd A outer s H,bG k (ij X.prog X.w X.K X.mg X.base y z (X.env.qual++"<lambda>") b cl f cd A outer s H).A->PE (ij X.prog X.w X.K X.mg X.base y z (X.env.qual++"<lambda>") b cl f cd A outer s H) m tb)(ha:PA X [e] t)(U:defaultsOf d X.env=([],[]):=by rfl)(hn:x≠"__name__":=by decide)(hdb:(x==("__debug__":Sy))=false:=by decide)(he:starEach [e] X.env=(false,eval e X.env)::starEach [] X.env:=by rfl):PE X (.Call (.Name x p) [e] [{!"key",.Lambda d m b l,kp}] pos) (LB l.line l.col (X.env.qual++"<lambda>") P i tb t):=do _;{?_};(pins,s,σ,H,Q,I,h);{v,j}:=hX z hk;u:∀y∈b.names,y.2=.free->∃c,X.env.cells.lookup y.1=!c:=λn hn e=>(do[S.fr n hn e];{v,j});hcl:=Fy u;M:=xo u (acc:=[]) (λx c e=>do-e);r:∀n a,(lV X.env b.names []).lookup n=!a->n=z/\a=v:=λn a e=>(do q||q:=CB e;T:n=z:=S.fr _ q rfl;this:=M n a e;this←[T,j];{T,(qJ this).symm};-q);hzc:(lV X.env b.names []).lookup z=!v:=(do _;{V,O}:=vS (env:=X.env) (acc:=[]) (.inl (PySem.mem_of_lookup S.lz));[O,(r z V O).2]);wpAny_Call_Name_kw (iq I hg Z hv ?_ hn hdb);callWith_kw (bI (ha pos pins s σ H _ I h) λus s1 ⟨vs,H1,I1,r1,hT,q1⟩=>kws_cons (Hi I1 J hC hB hT U hcl λf V R pm s2 H2 E hT2 hc2 sm hf nf of=>kws_nil ?_)) (do[he];2) (do[he];2);{p,ys,vz,D,rfl,hq,hn0,hσ,G,fin}:=q1 H2 hT2 sm;{u0,rfl,W}:=vals1 r1;-W;{m0,hn1,hl}:=E.loc;{uz,ruz,look}:=hl i z vz hN hσ (.inr (.inl hk));g:s2.heap.IsCell v (!uz):=(do _;{kk,_}||{_,c2,B,g}:=look;kk←[hk];-kk;B←[j];-B;g);F:=E.du z v j;kO:v∉d_ X.stack:=E.ib (E.xF z v j) (λZ=>do _;{_,o,ho,_}:=E.ok.ee.mem Z;absurd (zf (qG ho) (E.ok.zR z v Y j)) (wu _));O3 (C:=λHm y Q=>tb [!y,!vz] Hm Q) (λs' Hm x y Q e0 un same r1 G=>?_) G (do this:=hr.un;()) (E.ok.hd hcm) E hq hn0 fin;hcr:s'.heap.CodeRec (.ref V) (X.env.qual++"<lambda>"):=(e0.aR V _ (same _ _ hc2)).1;{oc,ec,dc}:=g;HK hr.in1 e0 (un.keep f _ of hf nf (do 0)) hcr S (L _ _ _ _ _) r1 r hzc {oc,un.keep v _ ec F kO (do 0),dc} (un.free v _ ec F (do 0)) ruz (hb _ _ _ _ _ _ _ (hr.in1.deeper _)) G
end
def w_(tk tv:TE):TE:=λσ H Q=>∀p H0,H p=none->af H H0->H0 p=!(.dG [])->tk σ H0 λx H1=>tv σ H1 λy H2=>H2 p=!(.dG [])/\∃k,GK H2 k x/\Q (.ref p) (upd H2 p (.dG [(k,x,y)]))
section
variable {X:Cx}
def Lw(N:X.A.units+2<cLine)(B:PE X k tk)(C:PE X v tv):PE X (.Dict [!k] [v] pos) (w_ tk tv):=do _;{?_};(pins,s,σ,H,Q,I,q);hn:=I.aR.fresh (qe ↑s);F:=I.laid (a:=↑s) (o:=.dG []) (h':=s.heap.push {cls:=.type "dict",data:=.dict #[]}) (t':=s.toks) (λ_ _ q=>qH _ q) (qe _) (G2 s.heap I.kK);[arm_eval_Dict,zip_pairTrees [!k] [v] X.env pos rfl rfl,dictDisplay_pairs (pairTrees [!k] [v] X.env pos) (do#[pairTrees]) (do[pairTrees_length [!k] [v] X.env pos rfl rfl];Nat.le_of_ble_eq_true rfl)];qA (wpAny_standAt (qA ?_));@subDict;qA (wpAny_alloc ?_);qA (qK ?_);[qF (do[pairTrees_length [!k] [v] X.env pos rfl rfl];jn rfl)];qA (pairTrees_cons_walk (bI (B pins _ σ _ _ F (q _ _ hn (af.new hn) aB)) λu D ⟨x,H1,J,i,G⟩=>bI (C pins D σ H1 _ J G) λP s2 ⟨y,H2,d,w,e,kd,n,t⟩=>pairTrees_nil_walk ?_));{z,K,xs,c,r}:=eE d (.inl e);-c;qK ?_;qA ?_;[kz];qA (qA (DQ () (n.is d i) r (qv _) λh' g f=>qE ?_));¬wpAny _ _ (forIn [] _ _) _ _ _;[List.forIn_nil];qE (qE (qE (qE ?_)));{o,es,ep,j,h2,L,E,_,M}:=g;{.ref ↑s,_,pN (ob:=.dG [(kd,x,y)]) d (do[e];True.intro) f {o,j} {do¬1<=sizeLine;by decide,K,_,Paired.k_ (vJ (l:=[]) (m:=[]) .nil n i w) λp q z=>{z.1,z.2.1.cQ λb xs h=>?_,z.2.2},o,es,ep,j,h2,L,E,M},O,t};[ak (oE h e (λz=>nomatch z))];h
end
def sr(Ps:List Sx)(M:Sx->Option (List V))(H:Hp):Prop:=∀b,(b∈Ps/\H b=!(.cf #[]))\/(b∉Ps/\∃xs,M b=!xs/\H b=!(.tup xs))\/(b∉Ps/\M b=none/\(H b=none\/∃o xs,H b=!(.cI o (.lst xs))))
def rE(K:PySem.W.Frag):Bool:=K.all λp=>match p.2.cls,p.2.data with|.type t,.seq ..=>not (t=="list")|_,_=>true
def Qj{K:PySem.W.Frag}{a:Sx}{us:Array MD}{n:Nat}(h:rE K=true)(e:K.lookup a=some {cls:=.type "list",data:=.seq us n}):False:=do this:=mx.mp h _ (PySem.W.mem_of_lookupK e);h2:(not (("list":String)=="list"))=true:=this;absurd h2 ⋯
section
variable {prog:Program}{w:World}{A:Around}{E:KE}{s:Sv}
def Qr{es:Array DictEntry}(P:A.handled=none)(U:(d==sysModules)=false)(t:s.heap.get? d=!od)(I:od.ExactDict)(h:od.data=.dict es ep)(hz:es.size<=sizeLine)(X:∀s' acc c,Moved [] Eq s s'->s'.heap.get? ↑s=some {cls:=.type "list",dict:=none,data:=.seq acc c,slots:=#[]}->acc.toList=es.toList.map (·.key)->Q (.ref ↑s) s') : wpAny (model prog w) A (call (.type "list") [.ref d]) Q E s:=do callType_codes (Q₁:=λobj g=>obj=.ref ↑s/\g={s with heap:=s.heap.push {cls:=.type "list",data:=.seq #[]}}) F.called_list (F.typeCall_list_1 _) F.entry_list_init (code_list_new _ {O,O}) λobj g h₁=>?_;{rfl,rfl}:=h₁;q:(s.heap.push {cls:=.type "list",data:=.seq #[]}).get? ↑s=some {cls:=.type "list",data:=.seq #[]}:=qL _ rfl;{{_,q,O},F.args_list_init_2 _ _,?_};a:d<↑s:=qG t;(by generalize C:s.heap.push {cls:=.type "list",data:=.seq #[]}=h1 at q);Z:∀b o,s.heap.get? b=!o->h1.get? b=!o:=λb o e=>(do[←C];qH _ e);¬wpAny _ A.in1.in1 (do{let old ←Builtin.List.listItems (.ref ↑s);Builtin.List.listUpdate (.ref ↑s) (λ_=>#[]);letGo old.toList.reverse;Builtin.List.listExtendWith (.ref ↑s) (.ref d) .none}) _ _ {s with heap:=h1};qA ?_;@Builtin.List.listItems;qA (wpAny_seqItems (s:={s with heap:=h1}) q rfl (qE ?_));¬wpAny _ A.in1.in1 (updateSeq ↑s (λ_=>#[]) >>= λ_=>letGo (#[]:Array MD).toList.reverse >>= λ_=>Builtin.List.listExtendWith (.ref ↑s) (.ref d) .none) _ _ {s with heap:=h1};qA (wpAny_updateSeq (s:={s with heap:=h1}) q rfl ?_);u:=Heap.get?_update_self (Obj.mapSeq (λ_=>(#[]:Array MD))) q rfl;l:∀b o,s.heap.get? b=!o->(h1.update ↑s (Obj.mapSeq (λ_=>(#[]:Array MD)))).get? b=some o:=λb o e=>(Heap.get?_update_other _ _ (zu (qG e))).trans (Z b o e);m:(h1.update ↑s (Obj.mapSeq (λ_=>(#[]:Array MD)))).objs.size=↑s+1:=(do[Heap.size_update,←C,Heap.size_push]);¬wpAny _ _ _ _ _ {s with heap:=h1.update ↑s (Obj.mapSeq (λ_=>(#[]:Array MD)))};(by generalize h1.update ↑s (Obj.mapSeq (λ_=>(#[]:Array MD)))=h2 at u l m);qA (wpAny_letGo ?_);G:Shared.TypeIs {s with heap:=h2} (.ref d) "dict":={od,l _ _ t,I.1};S:Builtin.List.listSameRef (.ref ↑s) (.ref d)=false:=(do¬(↑s==d)=false;beq_eq_false_iff_ne.mpr (zu a));@Builtin.List.listExtendWith;qA (wpAny_typeOf G ?_);[qB (by rw[S];decide)];qA (Dd (s:={s with heap:=h2}) U (l _ _ t) I h ?_);qA (qK ?_);¬wpAny _ _ _ _ _ {s with heap:=h2.push {cls:=.type "dict_keyiterator",data:=.fields #[.ref d,.int 0 0,.int es.size 0,.int ep 0]}};k:(h2.push {cls:=.type "dict_keyiterator",data:=.fields #[.ref d,.int 0 0,.int es.size 0,.int ep 0]}).IsKeyIter h2.objs.size d 0 es.size ep:={_,qL _ rfl,O,O};p:∀b o,h2.get? b=!o->(h2.push {cls:=.type "dict_keyiterator",data:=.fields #[.ref d,.int 0 0,.int es.size 0,.int ep 0]}).get? b=!o:=λb o e=>qH _ e;(by generalize h2.push {cls:=.type "dict_keyiterator",data:=.fields #[.ref d,.int 0 0,.int es.size 0,.int ep 0]}=h3 at k p);j:Shared.TypeIs {s with heap:=h3} (.ref d) "dict":={od,p _ _ (l _ _ t),I.1};@Builtin.List.listLengthHint;qA (wpAny_specialOf (name:=Str.ofString "__len__") j F.slot_dict_len.lookup ?_);(by generalize y:("dict.__len__":String)=id0;wp_delta);[show splitId id0=some ("dict","__len__") from do !y;by decide +kernel];!y;qA (wpAny_isInstance (T:="dict") j PySem.F.sub_dict_dict ?_);[qB ⋯];(by wp_delta);[qF ∅];qA (wpAny_typeOf j (qE ?_));[qF ∅];v:=p _ _ u;qA (wpAny_rule (qA ?_));@Builtin.List.listTouch;qA (listUpdate_at (s:={s with heap:=h3}) v rfl ?_);{L,i}:∃L,(h3.update ↑s (Obj.mapSeq (·.push Value.none))).get? ↑s=!(seqObj "list" #[Value.none] L):={_,get?_update_seq v _};K:∀b o,b≠↑s->h3.get? b=!o->(h3.update ↑s (Obj.mapSeq (·.push Value.none))).get? b=!o:=λb o f e=>(Heap.get?_update_other _ _ (λz=>f z.symm)).trans e;¬wpAny _ _ _ _ _ {s with heap:=h3.update ↑s (Obj.mapSeq (·.push Value.none))};(by generalize h3.update ↑s (Obj.mapSeq (·.push Value.none))=h4 at i K);listUpdate_at (s:={s with heap:=h4}) i rfl ?_;{H,r}:∃H,(h4.update ↑s (Obj.mapSeq (·.pop))).get? ↑s=!(seqObj "list" #[] H):={_,get?_update_seq i _};D:∀b o,b≠↑s->h3.get? b=!o->(h4.update ↑s (Obj.mapSeq (·.pop))).get? b=!o:=λb o f e=>(Heap.get?_update_other _ _ (λz=>f z.symm)).trans (K b o f e);¬wpAny _ _ _ _ _ {s with heap:=h4.update ↑s (Obj.mapSeq (·.pop))};(by generalize h4.update ↑s (Obj.mapSeq (·.pop))=h5 at r D);¬wpAny _ _ (again (Code.builtin "list.extend.loop" {[Value.ref ↑s,Value.ref h2.objs.size,Value.none],[]})) _ _ _;(by rw[m]at k ⊢);W:=Kx (prog:=prog) (w:=w) (A:=A.in1.in1) (it:=↑s+1) (d:=d) (od:=od) (es:=es) (ep:=ep) P (zu (yn a)) h;{R,Y,M,V}:=k;qE {plainId_quiet F.plain_extend_loop _,codeAny_extend_loopS W hz ↑s (λz=>?_) _ es.size 0 {s with heap:=h5} #[] H rfl (qv _) {{R,D _ _ (gg _) Y,M,V},D _ _ (qp a) (p _ _ (l _ _ t))} r (ItemsOf.nil _) λs' B N n J x=>?_};(by ac_nf at z);z||z:=z;gg _ z.symm;zu a z;⟨O,X s' B N ⟨λb o _ e=>?_,n.gens,n.drawn,n.os,n.toks⟩ J (JJ x)⟩;f:b<↑s:=qG e;n.heap b o (λz=>?_) (D b o (qp f) (p _ _ (l _ _ e)));(by ac_nf at z);z||z:=z;qp f z;qp (yn f) z
end
inductive Di(xs:List V)(H1:Hp)(Q:VK):Prop
 |mk(a kvs:_)(_:xs=[.ref a])(_:Rd H1 a (.dG kvs))(_:kvs.length<=1000)(_:∀p H',H1 p=none->af H1 H'->H' p=!(.lst (kvs.map (·.2.1)))->Q (.ref p) H')
section
variable {X:Cx}
def Ph(n:X.A.handled=none):cB X (.type "list") Di:=do(pins,s,σ,H,xs,us,Q,I,r,h);{a,kvs,rfl,B,hz,q}:=h;{u,rfl,t}:=vals1 r;-t;{_,g,G,i,o,es,ep,y,D,f,j,l,hn}:=eE I B;d:es.size=kvs.length:=(do this:es.toList.length=kvs.length:=(do[j,qj,i.length]);0<|this);Qr n g y D f (do[d,sizeLine_eq];()) λs' acc c m w x=>?_;C:s'={s with heap:=s'.heap,toks:=s'.toks}:=(do _;{F,v,p,z,J}:=m;-s';-v;-p;-z;2);k:=I.aR.fresh (a:=↑s) (qe _);E:Inv X pins σ (upd H ↑s (.lst (kvs.map (·.2.1)))) s':=(do[C];I.laid (t':=s'.toks) (h':=s'.heap) (λb u e=>m.heap b u (do 0) e) (Nat.le_refl _) {?_,acc.toList,c,?_,do 0<|w};¬(kvs.map (·.2.1)).length<=sizeLine;[qj,sizeLine_eq];();[x,j,z9];HZ i);{.ref _,_,E,O,q _ _ k (af.new k) aB}
end
section
variable {X:Cx}{a b e:Expr}{ta tb te:TE}{es:List Expr}{t:TA}{pos p:Pos}
def Mu(X:Cx)(i:Nat)(x:Sy)(k:NameKind):Prop:=(X.N[i]?,X.env.scope.names.lookup x,(x==("__debug__":Sy)),(x==("__classdict__":Sy)))=(!x,!k,false,false)
def vv(i:Nat)(h:Mu X i x .local:=by exact rfl):PE X (.Name x pos) (uh i):=pv i (congrArg (·.1) h) (.inl (congrArg (·.2.1) h)) (congrArg (·.2.2.1) h) (congrArg (·.2.2.2) h)
def vc(i:Nat)(h:Mu X i x .cell:=by exact rfl):PE X (.Name x pos) (uh i):=pv i (congrArg (·.1) h) (.inr (.inl (congrArg (·.2.1) h))) (congrArg (·.2.2.1) h) (congrArg (·.2.2.2) h)
def vf(i:Nat)(h:Mu X i x .free:=by exact rfl):PE X (.Name x pos) (uh i):=pv i (congrArg (·.1) h) (.inr (.inr (congrArg (·.2.1) h))) (congrArg (·.2.2.1) h) (congrArg (·.2.2.2) h)
def ua(X:Cx)(e:Expr):Prop:=∀es,starEach (e::es) X.env=(false,eval e X.env)::starEach es X.env
def a1(b:PE X a ta)(h:ua X a:=by exact λ_=>rfl):PA X [a] (kI ta AS):=CN b cS (h _)
def a2(c:PE X a ta)(d:PE X b tb)(h:ua X a:=by exact λ_=>rfl)(h2:ua X b:=by exact λ_=>rfl):PA X [a,b] (kI ta (kI tb AS)):=CN c (a1 d h2) (h _)
def ac{es:List Expr}(b:PE X a ta)(c:PA X es t)(h:ua X a:=by exact λ_=>rfl):PA X (a::es) (kI ta t):=CN b c (h _)
def xt(b:PE X a ta):PE X (.Subscript a (.Constant (.int i) j p) pos) (uf (Dj) ta (tC (.int i))):=iY IU b aA (λ_ _=>rfl)
def xl(b:PE X a ta):PE X (.Subscript a (.Constant (.int i) j p) pos) (uf (Et) ta (tC (.int i))):=iY CS b aA (λ_ _=>rfl)
def xa(c:PE X a ta)(e:PE X b tb)(d:gM b:=by exact λ_ _=>rfl):PE X (.Subscript a b pos) (uf (GY) ta tb):=iY EX c e d
def xi(c:PE X a ta)(e:PE X b tb)(d:gM b:=by exact λ_ _=>rfl):PE X (.Subscript a b pos) (uf (Et) ta tb):=iY CS c e d
def xu(c:PE X a ta)(e:PE X b tb)(d:gM b:=by exact λ_ _=>rfl):PE X (.Subscript a b pos) (uf (Dj) ta tb):=iY IU c e d
def ce(d:dm X (compareOp op) r)(c:PE X a ta)(f:PE X b tb)(e:behindInMarks op b=false:=by exact rfl):PE X (.Compare a [op] [b] pos) (uf r ta tb):=NB d c f e
def ck(d:dm X (compareOp op) r)(c:PE X a ta)(f:PE X b tb)(e:behindInMarks op b=false:=by exact rfl):PT X (.Compare a [op] [b] pos) (rA (uf r ta tb)):=O9 d c f e
structure cH(P:Program)(w:World)(K:PySem.W.Frag)(mg:Sy->Option MD)(base:Heap)(k:Nat)(x:Sy)(ps:List Sy)(sp:Sp):Prop where
 out:∃f fd,f9 P w K mg base iO k f fd ps sp/\mg x=!(.ref f)/\PySem.W.keepIn K (.ref f)=true/\Binds K fd ps []
variable {k n:Nat}{x:Sy}{ps:List Sy}{sp:Sp}
def cl(F:cH X.prog X.w X.K X.mg X.base k x ps sp)(m:bG n X.A)(d:PA X (e::es) t)(i:k<=n:=by decide)(l:Gl X x:=by exact rfl)(a:(x==("__debug__":Sy))=false:=by exact rfl)(g:ua X e:=by exact λ_=>rfl)(c:(backTo pos (starEach es X.env)).any (·.1)=false:=by exact rfl) : PE X (.Call (.Name x p) (e::es) [] pos) (uD sp [] E0 t):=do _;{f,fd,F,h,b,j}:=F.out;Kk F (m.mono i) l h b j .nil zT d a (g _) c
def cb{id:String}{r:List V->Hp->VK->Prop}(d:cB X (.builtin id) r)(c:X.mg x=none)(h:bootBuiltins x=!(.builtin id))(f:PA X (e::es) t)(i:Gl X x:=by exact rfl)(hn:x≠"__name__":=by decide)(a:(x==("__debug__":Sy))=false:=by exact rfl)(g:ua X e:=by exact λ_=>rfl)(b:(backTo pos (starEach es X.env)).any (·.1)=false:=by exact rfl):PE X (.Call (.Name x p) (e::es) [] pos) (F6 r t):=Oq d i c h f hn a (g _) b
def cy(d:cB X (.type T) r)(c:X.mg x=none)(h:bootBuiltins x=!(.type T))(f:PA X (e::es) t)(i:Gl X x:=by exact rfl)(hn:x≠"__name__":=by decide)(a:(x==("__debug__":Sy))=false:=by exact rfl)(g:ua X e:=by exact λ_=>rfl)(b:(backTo pos (starEach es X.env)).any (·.1)=false:=by exact rfl):PE X (.Call (.Name x p) (e::es) [] pos) (F6 r t):=Ox d i c h f hn a (g _) b
def sn(d:X.N.Nodup)(i:Nat)(b:PE X e te)(hi:X.N[i]?=!x:=by exact rfl)(a:X.env.scope.names.lookup x=some .local:=by exact rfl)(c:swapsWith e (!(.Name x pos')) pos.line X.env=pure false:=by exact rfl):PS X (.Assign [.Name x pos'] e pos) (sQ te (cM i)):=KR d hi (.inl a) b c (.inr a)
def sm(f:X.N.Nodup)(i:Nat)(a:PE X e te)(hi:X.N[i]?=!x:=by exact rfl)(b:X.env.scope.names.lookup x=some .cell:=by exact rfl)(c:swapsWith e (!(.Name x pos')) pos.line X.env=pure false:=by exact rfl)(d:X.fn x=true:=by exact rfl):PS X (.Assign [.Name x pos'] e pos) (sQ te (cM i)):=KR f hi (.inr b) a c (.inl d)
def gn(b:X.N.Nodup)(i:Nat)(hi:X.N[i]?=!x:=by exact rfl)(a:X.env.scope.names.lookup x=some .local:=by exact rfl):PG X (.Name x pos) (cM i):=cO b hi (.inl a) (.inr a)
def gm(c:X.N.Nodup)(i:Nat)(hi:X.N[i]?=!x:=by exact rfl)(b:X.env.scope.names.lookup x=some .cell:=by exact rfl)(a:X.fn x=true:=by exact rfl):PG X (.Name x pos) (cM i):=cO c hi (.inr b) (.inl a)
def gt(h:Dk X es u)(b:X.calm=true:=by exact rfl)(hn:(assignEach es X.env).length=n:=by exact rfl)(a:(assignEach es X.env).findIdx? (·.1)=none:=by exact rfl):PG X (.Tuple es k pos) (wI n u):=jT b h hn a
def fo{tg a:Expr}{b:List Stmt}{c:TI}{g:TG}{tb:TS}(hi:PI X tg a c)(h:PG X tg g)(e:iG X b tb)(hp:PassesOwn (model X.prog X.w) X.A X.env X.xe:=by exact PassesOwn.never)(d:X.calm=true:=by exact rfl)(f:∀x,foldedSetIterable a X.env x=pure x:=by exact λ_=>rfl):PS X (.For tg a b [] pos) (Fx c g tb):=Ex hp d hi h e f
def il{tl:TE}(a:PE X l tl):PI X tg l (y_ tl):=NY a
def bm{o:Expr}{to:TE}{name:Sy}{T id:String}{apos:Pos}{r:V->List V->Hp->VK->Prop}(i:PlainAttrs T)(slot:Slot T name id)(f:typeOf (.builtin id)=pure (.type "method_descriptor"))(g:Jc X id r)(k:PE X o to)(h:PA X (e::es) t)(c:attributeBase o name X.env (eval o X.env)=eval o X.env:=by exact rfl)(d:((backTo pos (starEach (e::es) X.env)).all (λx=>not x.1)&&(backToKw pos (keywordEach [] X.env)).all (λx=>x.1.isSome)&&decide ((e::es).length+([]:List Keyword).length+(if([]:List Keyword).isEmpty then 0 else 1)<30))=true:=by exact rfl)(b:(apos.endLine==pos.line)=true:=by exact rfl)(j:ua X e:=by exact λ_=>rfl)(a:(backTo pos (starEach es X.env)).any (·.1)=false:=by exact rfl) : PE X (.Call (.Attribute o name apos) (e::es) [] pos) (P1 T r to t):=JN i slot f g k h c d b (j _) a
def ap{to:TE}(g:PE X o to)(d:PA X [e] t)(b:attributeBase o "append" X.env (eval o X.env)=eval o X.env:=by exact rfl)(f:ua X e:=by exact λ_=>rfl)(c:((backTo pos (starEach [e] X.env)).all (λx=>not x.1)&&(backToKw pos (keywordEach [] X.env)).all (λx=>x.1.isSome)&&decide (([e]:List Expr).length+([]:List Keyword).length+(if([]:List Keyword).isEmpty then 0 else 1)<30))=true:=by exact rfl)(a:(apos.endLine==pos.line)=true:=by exact rfl):PS X (.Expr (.Call (.Attribute o "append" apos) [e] [] pos) p2) (xX (P1 "list" oP to t)) := mX (bm PySem.F.plainAttrs_list PySem.F.slot_list_append PySem.F.type_list_append Ql g d b c a f rfl)
def RX{y:Sy}:[y].Nodup:=z6.mpr {List.not_mem_nil,vi}
def FT(a:bG n X.A):dm X (compareOp .Eq) (xq 64 false):=A8 (Ks a)
def lB(a:bG n X.A):dm X (compareOp .NotEq) (xq 64 true):=DK (Ks a)
def inD(a:bG n X.A):dm X (compareOp .In) (J6 63 false):=EY (Rb a)
def RS(a:bG n X.A):dm X (compareOp .Eq) (i_):=P4 a.uU
def LX(a:bG n X.A):Jc X "list.index" (nY 61):=Qt (xx a)
def RL(a:bG n X.A):Jc X "list.count" (nQ 61):=M6 (xx a)
def K5{q kp:Pos}(F:cH X.prog X.w X.K X.mg X.base k y ps sp)(u:bG n X.A)(h:X.mg x=none)(m:bootBuiltins x=!(.builtin "sorted"))(i:PA X [e] t)(l:k+1<=n:=by decide)(s:Gl X x:=by exact rfl)(b:Gl X y:=by exact rfl)(g:ps.length=1:=by exact rfl)(hn:x≠"__name__":=by decide)(d:(x==("__debug__":Sy))=false:=by exact rfl)(a:(y==("__debug__":Sy))=false:=by exact rfl)(j:ua X e:=by exact λ_=>rfl):PE X (.Call (.Name x p) [e] [{!"key",.Name y q,kp}] pos) (F6 (gQ sp) t):=do _;{f,fd,F,c,r,o}:=F.out;Mr F (u.mono l) s h m b c o g i hn d a (j _)
def z_{y:Sy}{f:Pos}{a d:Expr}{c:List Expr}{b:Scope}{g:TI}{tt:TT}{te:TE}(hi:PI X (.Name y f) a g)(j:∀s H e,vW (a_ X [y] b [] s H e) c tt)(h:∀s H e,PE (a_ X [y] b [] s H e) d te)(i:X.calm=true:=by exact rfl)(S:fF b:=by exact{O,∅,∅})(C:lO X b [] []:=by exact i0 ∅)(l:∀s H e,PG (a_ X [y] b [] s H e) (.Name y f) (cM 0):=by exact λ_ _ _=>cO (RX) rfl (.inl rfl) (.inr rfl))(k:∀x,foldedSetIterable a X.env x=pure x:=by exact λ_=>rfl) : PE X (.ListComp d [{.Name y f,a,c,0}] b pos) (LS [y] [] g (cM 0) tt te):=iz (own:=[y]) (fr:=[]) i hi S C l (λ_=>mI rfl) j h k
def sj(a:Scope)(N:List Sy)(fr:List (Sy×Nat)){y:Sy}{q:Pos}{d j:Expr}{l:List Expr}{b:Scope}{o:TI}{tt:TT}{te:TE}(hi:PI X (.Name y q) d o)(r:∀s H m,vW (a_ X (y::fr.map (·.1)) b (lV X.env b.names []) s H m) l tt)(u:∀s H m,PE (a_ X (y::fr.map (·.1)) b (lV X.env b.names []) s H m) j te)(z:X.calm=true:=by exact rfl)(S:fF b:=by exact{O,∅,∅})(h1:X.env.scope=a:=by exact rfl)(h2:X.N=N:=by exact rfl)(v:∀x,X.env.kindOf x=some .cell->∃c,X.env.cells.lookup x=!c:=by exact λ_ h=>fM h)(f:∀y∈b.names,y.2≠.cell:=by decide +kernel)(g:∀y∈b.names,y.2=.free->a.names.lookup y.1=some .cell:=by decide +kernel)(i:∀p∈fr,N[p.2]?=!p.1/\a.names.lookup p.1=some .cell/\(relabel b {scope:=a,locals:=0,globals:=0,cells:=[]}).names.lookup p.1=some .cell:=by decide +kernel)(n:(y::fr.map (·.1)).Nodup:=by decide +kernel)(w:(relabel b {scope:=a,locals:=0,globals:=0,cells:=[]}).names.lookup y=some .local:=by decide +kernel)(t:∀x,foldedSetIterable d X.env x=pure x:=by exact λ_=>rfl) : PE X (.ListComp j [{.Name y q,d,l,0}] b pos) (LS [y] fr o (cM 0) tt te):=do k:(relabel b X.env).names.lookup y=some .local:=(do e:relabel b X.env=relabel b {scope:=a,locals:=0,globals:=0,cells:=[]}:=(by unfold relabel Env.kindOf;rw[h1]);[e];w);iz (own:=[y]) (fr:=fr) z hi S (jX a N h1 h2 v f g i) (λ_ _ _=>cO n rfl (.inl k) (.inr k)) (λ_=>mI rfl) r u t
end
structure FO(K:PySem.W.Frag)(mg:Sy->Option MD)(x:Sy)(st:Stmt):Prop where
 out:∃f fd,Ei K x x st f fd/\mg x=!(.ref f)
def aM{P:Program}{w:World}{K:PySem.W.Frag}{mg:Sy->Option MD}{base:Heap}{x:Sy}{st:Stmt}{N ps:List Sy}{k:Nat}{sp:Sp}(F:FO K mg x st)(S:ax N ps (ag st))(g:∀{kV c i:MD}{e:Option Sx}{a h:MD}(us:List MD),us.length=ps.length->bindArgs (PySem.W.fnOf x x (bZ st) (bL st) (ag st) .none kV c i e a h) {us,[]}=pure (ps.zip us))(len:∀vs H Q E,sp vs H Q E->vs.length=ps.length)(b:∀(f:Sx) (a:MD) (A:Around) (outer:List Env) (s:Sv) (H:Hp) (vs:List V) (Q:VK) (E:XK),bG k (A.deeper (envOfC x (ag st) ↑s f a))->sp vs H Q E-> ∃t,iG (kB iO P w K mg base N x (ag st) f a A outer s H E).wW (bL st) t/\t {nx:=λ_ H'=>Q .aQ H',rt:=Q} (start N vs) H):cH P w K mg base (k+1) x ps sp:=do _;{f,fd,F,d}:=F.out;{f,fd,F.ok S len (b f),d,F.kp,F.binds g}
inductive FX(K:PySem.W.Frag)(n:Sy)(s:Stmt):Prop
 |mk{a:Sx}{od an:Option Sx}{sl:Array (Option MD)}{oc kV dc pm cd ct:MD}(z1:PySem.W.nsIn K mainGlobals n=!(!(.ref a)))(z2:K.lookup a=some ⟨oc,od,.func (PySem.W.fnOf n n (bZ s) (bL s) (ag s) .none kV dc pm an cd ct),sl⟩)(z3:PySem.W.codeIn K cd n=true)(z4:PySem.W.keepIn K (.ref a)=true)
def FX.fo{K:PySem.W.Frag}{n:Sy}{s:Stmt}{h:Heap}{mg:Sy->Option MD}(f:FX K n s)(X:K.In h)(G:h.Ns mainGlobals mg):FO K mg n s:=do _;{a,c,d,b}:=f;{_,_,Im (st:=s) c d b,PySem.W.mg_of X G a}
def fE(o:Obj)(xs:List V):Bool:=match o with|⟨.type t,none,.seq its _,_⟩=>t=="tuple"&&decide (its.toList.map mE=xs.map some)|_=>false
def Ad(K:PySem.W.Frag)(c:Sx×List V):Bool:=match K.lookup c.1 with|some o=>fE o c.2&&Nat.ble c.2.length 1000|none=>false
def NT(h:mE u=!x):RelV x u:=by cases u <;> simp only[mE,Option.some.injEq,reduceCtorEq]at h <;> subst h <;> first|rfl|exact⟨_,O⟩
theorem HP:∀{us:List MD} {xs:List V},us.map mE=xs.map some->aJ xs us|[],[],_=>.nil|u::us,x::xs,h=>do h←[zn,zn];(by injection h with h1 h2);.cons (NT h1) (HP h2)
def OP(e:h.get? b=!o)(t:fE o xs=true)(a:xs.length<=sizeLine):aS P w H h b (.tup xs):=do _;{c,d,dt,sl}:=o;(by unfold fE at t;cases c <;> cases d <;> cases dt <;> (first|exact absurd t qr|skip);rename_i ty its n);t:(ty=="tuple"&&decide (its.toList.map mE=xs.map some))=true:=t;t←[zt];f:ty = "tuple":=(do 0<|t.1);!f;{a,its.toList,HP (qO t.2),_,e,O,n,do 0}
def QR{P:Program}{w:World}{K:PySem.W.Frag}{mg mb:Sy->Option MD}{CX:u_}{k:Nat}{fa a:Sx}{fd:FuncData}{x:Sy}{sp:Sp}{c:Sv}{vs:List MD}{ns:List Int}{Ps:List Sx}{M:Sx->Option (List V)}(KX:K.In c.heap)(Y:c.heap.Ns mainGlobals mg)(i:c.heap.Ns builtinsNs mb)(hbb:∀x:Sy,x≠"__name__"->mb x=bootBuiltins x)(hlim:c.heap.NoLimit)(hg:c.gens=#[])(hnt:noTabs K=true)(hnl:rE K=true)(A:∀Q∈Ps,c.heap.get? Q=!(tabObj #[])/\isCodeTable c.heap Q)(hbm:∀Q∈Ps,c.heap.BuiltinsAt mg Q)(T:∀b xs,M b=!xs->∃o,K.lookup b=!o/\fE o xs=true/\xs.length<=sizeLine)(X:c.heap.get? a=some {cls:=.type "list",data:=.seq vs.toArray})(hi:IntsAre vs ns)(hl:ns.length<=sizeLine)(hr:bG k callerA)(F:∀base:Heap,K.In base->base.Ns mainGlobals mg->(∀Q∈Ps,base.BuiltinsAt mg Q)->f9 P w K mg base CX k fa fd [x] sp)(U:∀(s:Sv) (u:MD),BindsTo s fd {[u],[]} [(x,u)])(hsp:∀H:Hp,sr Ps M H->az H a (ns.map V.int)->sp [.ref a] H (λv _=>v=.bl true) λ_ _ _=>False)(hCX:∀H e s',CX [] H c (λ_ _ _=>False) e s'->False) : codeAny (model P w) callerA (.call (.ref fa) {[.ref a],[]}) (λr s'=>r=.ok (.ret (.bool true))/\OldK c.heap s'.heap/\s'.os=c.os/\AllBare s'.gens) c:=do rv:=HF hi;lenV:=hi.length;naP:a∉Ps:=λz=>(do this:=(A a z).1;this←[X];-this);kP:∀Q∈Ps,K.lookup Q=none:=λQ hQ=>(do(by cases q:K.lookup Q with|none|some o=>?_);2;e:=KX Q o q;e←[(A Q hQ).1];-e;h2:=mx.mp hnt (Q,_) (mem_of_lookupK q);absurd (show false=true from h2) qr);mP:∀b xs,M b=!xs->b∉Ps:=λb xs e z=>(do _;{o,h1,_}:=T b xs e;h1←[kP b z];-h1);ma:M a=none:=(do(by cases q:M a with|none|some xs=>?_);2;{o,h1,h2,_}:=T a xs q;e:=KX a o h1;e←[X];-e;h2:(("list"=="tuple")&&decide (vs.toArray.toList.map mE=xs.map some))=true:=h2;h2←[zt];absurd h2.1 ⋯);core:∀H:Hp,sr Ps M H->az H a (ns.map V.int)->dn P w H c.heap->(∀b,H b≠none->b=a\/b∈Ps\/∃xs,M b=!xs)->(H a≠none->K.lookup a=none)-> codeAny (model P w) callerA (.call (.ref fa) {[.ref a],[]}) (λr s'=>r=.ok (.ret (.bool true))/\OldK c.heap s'.heap/\s'.os=c.os/\AllBare s'.gens) c:=(do(H,hO,hS,N,hA,hK);(by let H0:Hp:=λb=>if(M b).isSome=true then none else H b);S:∀b,H b=none->H0 b=none:=λb e=>(do¬(if(M b).isSome=true then none else H b)=none;3;2;e);H0m:∀b xs,M b=!xs->H0 b=none:=λb xs e=>(do¬(if(M b).isSome=true then none else H b)=none;[e];2);f:∀{b:Sx} {o:Obj},c.heap.get? b=!o->H0 b=none->(gO c.heap H0).get? b=!o:=λe n=>Ow e n;l:∀{b:Sx} {o:Obj},c.heap.get? b=!o->(∀xs y,o.data≠.seq xs y)->o.data≠.fields #[]->H b=none:=λ{b o} e d1 d2=>(do(by cases q:H b with|none|some u=>?_);2;e'||e'||{xs,e'}:=hA b (do[q];0);!e';e←[X];-e;absurd rfl (d1 _ _);e←[(A b e').1];-e;absurd rfl d2;{_,z}||{_,ys,_,z}||{_,z,_}:=hO b;absurd (by assumption) (mP b xs e');{_,its,_,o',Z,_,n,hd'}:=(show aS P w H c.heap b (.tup ys) from N b _ z);Z←[e];-Z;absurd hd' (d1 _ _);z←[e'];-z);G:∀{b:Sx} {m:Sy->Option MD},c.heap.Ns b m->(gO c.heap H0).Ns b m:=λ{b m} ⟨o,es,ep,e,d,r⟩=>{o,es,ep,f e (S _ (l e (λxs y z=>do z←[d];-z) (λz=>do z←[d];-z))),d,r};hKb:K.In (gO c.heap H0):=λb o e=>f (KX b o e) (do(by cases q:H b with|none|some u=>?_);S b q;e'||e'||{xs,e'}:=hA b (do[q];0);!e';e←[hK (do[q];0)];-e;e←[kP b e'];-e;H0m b xs e');hBb:∀Q∈Ps,(gO c.heap H0).BuiltinsAt mg Q:=λQ hQ=>(do _;{bm,ob,b1,b2,b3,b4,b5,b6,b7,b8}:=hbm Q hQ;{bm,ob,b1,b2,b3,b4,f b5 (S _ (l b5 (λxs y z=>do z←[b8];-z) (λz=>do z←[b8];-z))),b6,b7,b8});hM:Mod K mg (gO c.heap H0):={hKb,G Y,{mb,G i,hbb},let⟨mc,h1,h2⟩:=hlim;{mc,G h1,h2}};hbs:∀b o,(gO c.heap H0).get? b=!o->c.heap.get? b=!o/\(H b=none\/∃xs,H b=!(.tup xs)):=λb o e=>(do _;{h1,h2}:=Ob e;{h1,?_};{I,z}||{_,xs,_,z}||{_,z,_}:=hO b;C:(if(M b).isSome=true then none else H b)=none:=h2;mb:M b=none:=(do(by cases q:M b with|none|some xs=>?_);2;absurd I (mP b xs q));C←[mb,qB ⋯,z];-C;.inr {xs,z};C:(if(M b).isSome=true then none else H b)=none:=h2;C←[z,qB ⋯];.inl C);e0:f_ P w K mg (gO c.heap H0) callerA [] c H:={O,hM,hbs,Nat.le_of_eq (OH _ _),trivial,λb i=>absurd (show b∈([]:List Sx) from i) (do 0),N,.of_eq hg};codeAny_mono ((F _ hKb (G Y) hBb).run callerA [] c H {[.ref a],[]} [.ref a] [.ref a] _ _ hr e0 (U c (.ref a)) (.cons rfl .nil) (hsp H hO hS)) λr s' h=>?_;(by cases r with|error e|ok fl=>?_);(hCX H e s' h).elim;(by cases fl with|next|brk|cont|ret u=>?_);False.elim h;False.elim h;False.elim h;{v,H',os,bare,un,J,r',q}:=h;q':v=.bl true:=q;!q';(by obtain rfl:u=Value.bool true:=r');{O,{λb o e=>?_,λb o e=>un.there b o e (do 0)},os,bare};{I,z}||{_,xs,_,z}||{_,_,z||{ob,xs,z}}:=hO b;{more,z2}:=un.dR b _ z;e2:s'.heap.get? b=some {cls:=.none,data:=.fields (#[]++more)}:=J b _ z2;e←[(A b I).1];-e;.inr (.inl {(A b I).2,O,#[],more,O,e2});.inl (un.dM b o xs e z);.inl (un.keep b o e z (do(y);absurd (show b∈([]:List Sx) from y) (do 0)) (do 0));z2:=un.dP b ob _ z;{e1,_}:=N b _ z;{e2,_}:=J b _ z2;e1←[e];-e1;.inl e2);t:∀j:Option HO,(∀u,j=!u->aS P w (λb=>if b∈Ps then some (.cf #[]) else match M b with|some xs=>!(.tup xs)|none=>if b=a then j else none) c.heap a u)-> dn P w (λb=>if b∈Ps then some (.cf #[]) else match M b with|some xs=>!(.tup xs)|none=>if b=a then j else none) c.heap:=λj R b u z=>(do i<|b∈Ps;z':=(qF i).symm.trans z;-z';(A b i).1;L:=(qB i).symm.trans z;(by cases E:M b with|some xs|none=>?_);L←#[_,E];-L;{o,h1,h2,h3}:=T b xs E;OP (KX b o h1) h2 h3;L←#[_,E];g<|b=a;L←[qF g];!g;R u L;L←[qB g];-L);p:∀j:Option HO,(j=none\/∃o xs,j=!(.cI o (.lst xs)))->sr Ps M (λb=>if b∈Ps then some (.cf #[]) else match M b with|some xs=>!(.tup xs)|none=>if b=a then j else none):=λj R b=>(do i<|b∈Ps;.inl {i,qF i};(by cases E:M b with|some xs|none=>?_);.inr (.inl {i,xs,O,(qB i).trans (do#[_,E])});.inr (.inr {i,O,?_});g<|b=a;this:(if b∈Ps then some (.cf #[]) else match M b with|some xs=>!(.tup xs)|none=>if b=a then j else none)=j:=(qB i).trans (do#[_,E];[qF g]);z||{o,xs,z}:=R;.inl (this.trans z);.inr ⟨o,xs,this.trans z⟩;.inl ((qB i).trans (do#[_,E];[qB g])));B:∀j:Option HO,∀b,(if b∈Ps then some (.cf #[]) else match M b with|some xs=>!(.tup xs)|none=>if b=a then j else none)≠none->b=a\/b∈Ps\/∃xs,M b=!xs:=λj b z=>(do i<|b∈Ps;.inr (.inl i);(by cases E:M b with|some xs|none=>?_);.inr (.inr {xs,O});g<|b=a;.inl g;absurd ((qB i).trans (do#[_,E];[qB g])) z);D:∀j:Option HO,(if a∈Ps then some (.cf #[]) else match M a with|some xs=>!(.tup xs)|none=>if a=a then j else none)=j:=λj=>(qB naP).trans (do#[_,ma];qF trivial);(by cases hk:K.lookup a with|some o|none=>?_);e:=KX a o hk;e←[X];-e;(Qj hnl hk).elim;core _ (p (!(.cI {cls:=.type "list",data:=.seq vs.toArray} (.lst (ns.map V.int)))) (.inr {_,_,O})) (.inr {{cls:=.type "list",data:=.seq vs.toArray},D _}) (t _ λu z=>do-z;{X,do[qj];hl,vs,_,rv,X}) (B _) λ_=>hk
def sT{l:PySem.W.OpenLaw}{n k:Nat}{q:Program}{p:List Sy}{XP:(Sy->Option MD)->Heap->Prop}{YP:World->Heap->Prop}{d:DefRec}{K:Params->PySem.W.Frag}{CX:u_}{sp:Sp}{x:Sy}{Ps:List Sx}(ts:List Sy)(ms:List (Sx×List V))(tb:Sy->Sx)(hn:l.most=!n)(R:n<=sizeLine)(hdf:d.params.defaults=[])(hr:bG k callerA)(hY:∀(w:World) (h:Heap),YP w h->(K w.params).In h)(N:∀(w:World) (h:Heap),YP w h->∀Q∈Ps,h.get? Q=!(tabObj #[]))(hC:∀w:World,∀Q∈Ps,∃t∈ts,codeHdIn (K w.params) (Oi (K w.params) t) Q=true)(hnt:∀w:World,noTabs (K w.params)=true)(hnl:∀w:World,rE (K w.params)=true)(htb:∀w:World,∀t∈ts,mK (K w.params) t=tb t)(y:∀w:World,∀t∈ts,mK (K w.params) t∈Ps)(Z:∀w:World,(ms.all λc=>Ad (K w.params) c)=true)(hmd:(ms.map (·.1)).Nodup)(F:∀(w:World) (mg:Sy->Option MD) (fa:Sx) (h:Heap),(K w.params).In h->h.Ns mainGlobals mg->mg d.name=some (.ref fa)-> ∃fd:FuncData,(∀(s:Sv) (u:MD),BindsTo s fd {[u],[]} [(x,u)]) ∧ ∀base:Heap,(K w.params).In base->base.Ns mainGlobals mg->(∀t∈ts,base.BuiltinsAt mg (mK (K w.params) t))->f9 l.prog w (K w.params) mg base CX k fa fd [x] sp)(U:∀(H:Hp) (a:Sx) (ns:List Int),ns.length<=n->(∀t∈ts,H (tb t)=!(.cf #[]))->(∀c∈ms,H c.1=!(.tup c.2))->az H a (ns.map V.int)->sp [.ref a] H (λv _=>v=.bl true) λ_ _ _=>False)(P:∀(H:Hp) (s:Sv) (e:MD) (s':Sv),CX [] H s (λ_ _ _=>False) e s'->False) : PySem.W.WalkO q p XP YP l.row.toRowW d [] (λf vs=>PySem.call f vs):=do Att.lS hn hdf λw s₀ m mg mb fa o pm cd doc a vs ns G Y ho hd hcd hmg D r j hg=>?_;J:=hY w _ Y;{fd,hb,hF}:=F w mg fa _ J G.T.g hmg;I:=N w _ Y;X:∀Q∈Ps,m.heap.BuiltinsAt mg Q:=λQ C=>(do _;{bm,ob,b1,b2,B,b4,b5,S}:=G.T.bmain;{bm,ob,b1,b2,λq=>?_,λq=>?_,B,b4,b5,S};{o,es,ep,e,hd,_}:=G.T.g;B←[q,e];-B;S←[hd];-S;B←[q,I Q C];-B;-b4);(by let M:Sx->Option (List V):=λb=>(ms.find? λc=>decide (c.1=b)).map (·.2));L:∀b xs,M b=!xs->(b,xs)∈ms:=λb xs e=>(do _;{c,i,rfl}:=wj.mp e;h1:c.1=b:=(do 0<|List.find?_some i);[←h1];jx i);E:∀c∈ms,M c.1=!c.2:=λc i=>(do go:∀(l:List (Sx×List V)),(l.map (·.1)).Nodup->c∈l->(l.find? λd=>decide (d.1=c.1)).map (·.2)=!c.2:=λl=>(do(by induction l with|nil|cons d l ih=>?_);(_,z);-z;(nd,hm);nd←[zn,z6];[yd];h<|d.1=c.1;[qI h];z||z:=q0.mp hm;[z];2;absurd (h▸qf.mpr {c,z,O}:d.1∈l.map (·.1)) nd.1;[decide_eq_false h];z||z:=q0.mp hm;absurd (do[z]) h;ih nd.2 z);go ms hmd i);look:∀c∈ms,∃o,(K w.params).lookup c.1=!o/\fE o c.2=true/\c.2.length<=sizeLine:=λc i=>(do h:=mx.mp (Z w) c i;(by unfold Ad at h;cases q:(K w.params).lookup c.1 with|none|some o=>?_);h←[q];absurd h qr;h←[q];h:(fE o c.2&&Nat.ble c.2.length 1000)=true:=h;h←[zt];{o,O,h.1,ww (cG (jn h.2))});QR (M:=M) J G.T.g G.T.b G.T.builtins G.T.nolimit hg (hnt w) (hnl w) (λQ C=>{I Q C,(((codeHd_of_K J (hC w Q C).choose_spec.2)).tab (I Q C)).isCodeTable}) X (λb xs e=>look _ (L b xs e)) D r (qg j R) hr (λbase h1 h2 h3=>hF base h1 h2 λt A=>h3 _ (y w t A)) hb (λH hO hS=>U H a ns j (λt A=>htb w t A▸?_) (λc i=>?_) hS) λH e s'=>P H m e s';z||z||z:=hO (mK (K w.params) t);z.2;absurd (y w t A) z.1;absurd (y w t A) z.1;z||{_,ys,hy,z}||{_,z,_}:=hO c.1;{o,h1,h2,_}:=look c i;e:=J _ _ h1;e←[I _ z.1];-e;absurd h2 qr;hy←[E c i];-hy;z;z←[E c i];-z
def DY(a cl:Nat)(q:Sy)(P:Sx)(i:Nat)(tb:TE)(t:TA):TE:=λσ H Q=>t σ H λvs H1=>Tb a cl q P H1/\∀H2,Tb a cl q P H2->af (del H1 P) (del H2 P)->∃b,σ[i]?=!(!b)/\gQ (λvs H Q _=>∃y,vs=[y]/\tb [!y,!b] H Q) vs H2 Q
section
variable {X:Cx}{k:Nat}
def Qp{p l kp pos:Pos}(E:X.env.code=.ref c)(hC:codeHdIn X.K c P=true)(hB:X.base.BuiltinsAt X.mg P)(hr:bG (k+2) X.A)(hg:Gl X x)(V:X.mg x=none)(hv:bootBuiltins x=!(.builtin "sorted"))(S:og y z b)(hN:X.N[i]?=!z)(Y:X.env.kindOf z=some .cell)(hX:∀x,X.env.kindOf x=some .cell->∃c,X.env.cells.lookup x=!c)(hcm:X.calm=true)(U:X.fn z=true)(F:∀cl pm cd M x,bindArgs (kla_fn "<lambda>" (X.env.qual++"<lambda>") d m b cl pm cd M) {[x],[]}=pure [(y,x)])(hb:∀cl f cd A outer s H,bG k (ij X.prog X.w X.K X.mg X.base y z (X.env.qual++"<lambda>") b cl f cd A outer s H).A->PE (ij X.prog X.w X.K X.mg X.base y z (X.env.qual++"<lambda>") b cl f cd A outer s H) m tb)(ha:PA X [e] t)(R:defaultsOf d X.env=([],[]):=by rfl)(hn:x≠"__name__":=by decide)(hdb:(x==("__debug__":Sy))=false:=by decide)(he:starEach [e] X.env=(false,eval e X.env)::starEach [] X.env:=by rfl):PE X (.Call (.Name x p) [e] [{!"key",.Lambda d m b l,kp}] pos) (DY l.line l.col (X.env.qual++"<lambda>") P i tb t):=do _;{?_};(pins,s,σ,H,Q,I,h);{v,j}:=hX z Y;u:∀y∈b.names,y.2=.free->∃c,X.env.cells.lookup y.1=!c:=λn hn e=>(do[S.fr n hn e];{v,j});hcl:=Fy u;J:=xo u (acc:=[]) (λx c e=>do-e);r:∀n a,(lV X.env b.names []).lookup n=!a->n=z/\a=v:=λn a e=>(do q||q:=CB e;O:n=z:=S.fr _ q rfl;this:=J n a e;this←[O,j];{O,(qJ this).symm};-q);hzc:(lV X.env b.names []).lookup z=!v:=(do _;{T,L}:=vS (env:=X.env) (acc:=[]) (.inl (PySem.mem_of_lookup S.lz));[L,(r z T L).2]);wpAny_Call_Name_kw (iq I hg V hv ?_ hn hdb);callWith_kw (bI (ha pos pins s σ H _ I h) λus s1 ⟨vs,H1,I1,r1,hT,q1⟩=>kws_cons (Hi I1 E hC hB hT R hcl λf T M pm s2 H2 G Z hc2 sm hf nf of=>kws_nil ?_)) (do[he];2) (do[he];2);{vz,hσ,q2}:=q1 H2 Z sm;{m0,hn1,hl}:=G.loc;{uz,ruz,look}:=hl i z vz hN hσ (.inr (.inl Y));g:s2.heap.IsCell v (!uz):=(do _;{kk,_}||{_,c2,B,g}:=look;kk←[Y];-kk;B←[j];-B;g);C:=G.du z v j;kO:v∉d_ X.stack:=G.ib (G.xF z v j) (λV=>do _;{_,o,ho,_}:=G.ok.ee.mem V;absurd (zf (qG ho) (G.ok.zR z v U j)) (wu _));Iy (λs' Hm x y Q e0 un same r1 D=>?_) (do this:=hr.un;()) G r1 q2;{y',hy,D}:=D;-hy;W:s'.heap.CodeRec (.ref T) (X.env.qual++"<lambda>"):=(e0.aR T _ (same _ _ hc2)).1;{oc,ec,dc}:=g;HK hr.Qo e0 (un.keep f _ of hf nf (do 0)) W S (F _ _ _ _ _) r1 r hzc {oc,un.keep v _ ec C kO (do 0),dc} (un.free v _ ec C (do 0)) ruz (hb _ _ _ _ _ _ _ (hr.Qo.deeper _)) D
end
abbrev TJ:=St->Hp->Sy->(Sy->Hp->Prop)->Prop
def PJ(X:Cx)(es:List Expr)(b:TJ):Prop:=∀pins s σ H acc R,Inv X pins σ H s->b σ H acc R-> Joins (model X.prog X.w) X.A X.xe (evalEach es X.env) acc (λout a=>∃H1,Inv X pins σ H1 a/\R out H1) s
def JL:TJ:=λ_ H acc R=>R acc H
def BM(te:TE)(a:TJ):TJ:=λσ H acc R=>te σ H λx H1=>∃z,x=.str z/\(acc++z).length<=16777216/\a σ H1 (acc++z) R
inductive Oh(Q:VK)(x:V)(H1:Hp):Prop
 |mk(z:_)(_:x=.str z)(_:z.length<=16777216)(_:Q (.str z) H1)
def Sq(te:TE):TE:=λσ H Q=>te σ H λx H1=>Oh Q x H1
def Mo(a:TJ):TE:=λσ H Q=>a σ H Str.empty λout H1=>out.length<=16777216/\Q (.str out) H1
section
variable {X:Cx}
def BH:PJ X [] JL:=λpins s σ H acc R I h=>{H,I,h}
def C9{es:List Expr}(b:PE X e te)(c:PJ X es a):PJ X (e::es) (BM te a):=do(pins,s,σ,H,acc,R,I,h);qM (b pins s σ H _ I h) (λv d ⟨x,H1,g,f,i⟩=>?_) λ_ _ e=>e;{z,rfl,hz,q}:=i;{t,rfl}:=f;{z,t,O,do[sizeLine_eq];hz,c pins d σ H1 _ R g q}
def IM(b:PE X e te):PE X (.FormattedValue e (-1) none pos) (Sq te):=do _;{?_};(pins,s,σ,H,Q,I,h);wpAny_FormattedValue_plain (qM (b pins s σ H _ I h) (λv f ⟨x,H1,a,c,d⟩=>?_) λ_ _ e=>e);{z,rfl,hz,q}:=d;{t,rfl}:=c;wpAny_formatField_str {.str z,H1,a,{_,O},q} {.str z,H1,a.tok _,{_,O},q} (do[sizeLine_eq];hz)
def DB{es:List Expr}(d:PJ X (a::c::es) b):PE X (.JoinedStr (a::c::es) pos) (Mo b):=do _;{?_};(pins,s,σ,H,Q,I,h);wpAny_JoinedStr ?_;this:=d pins s σ H _ _ I h;(?_:∀(ps:List (Sem MD)) acc s,Joins (model X.prog X.w) X.A X.xe ps acc _ s->Joins (model X.prog X.w) X.A X.xe ps acc _ s) _ _ _ this;(ps);(by induction ps with|nil|cons p ps g=>?_);(acc,s,{H1,f,hz,q});{do[sizeLine_eq];hz,.str acc,H1,f.tok _,{_,O},q};(acc,s,h);qM h (λv j h1=>?_) λ_ _ e=>e;{y,t,rfl,hz,i}:=h1;{y,t,O,hz,g _ _ i}
end
section
variable {prog:Program}{w:World}{A:Around}{E:KE}{s:Sv}
def Ni(a v:MD):checkTypeCall "enumerate" {pos:=[a],kw:=[("start",v)]}=pure Unit.unit:=by first|rfl|kernel_rfl
def Rc(a v:MD):checkBuiltinCall "enumerate.__new__" {pos:=[.type "enumerate",a],kw:=[("start",v)]}=pure Unit.unit:=by first|rfl|kernel_rfl
def A5{α:Type}{M:Model}{c:Bool}{a b:Sem α}{Q:α->Sv->Prop}(h1:wpAny M A a Q E s)(h2:wpAny M A b Q E s):wpAny M A (if c=true then a else b) Q E s:=do-c;h2;h1
def Qy(a x v:MD):argsOk "object.__init__" {pos:=[a,x],kw:=[("start",v)]}:=do@argsOk;[signature?_of (id:="object.__init__") (n:=['_','_','t','i','n','i','_','_']) (o:=['t','c','e','j','b','o']) (by kernel_rfl) F.owner_object];by kernel_rfl
def N4(c:s.TypeIs (.ref a) "enumerate")(h:Q Unit.unit s):wpAny (model prog w) A (checkBuiltinCall "object.__init__" {pos:=[.ref a,x],kw:=[("start",v)]}) Q E s:=do@checkBuiltinCall;[show builtinKind "object.__init__"=some .slot from by kernel_rfl,show splitId "object.__init__"=some ("object","__init__") from ∅];(by dsimp only);qA (wpAny_isInstance (T:="enumerate") (b:=true) c (by rw[isSubtype_type];kernel_rfl) ?_);[qB ⋯];wpAny_of_eq (Qy _ _ _) h
def Rn(a:MD)(kw:List (Sy×MD)):Builtin.SmallTypes.newClass "enumerate" {pos:=[.type "enumerate",a],kw:=kw}=pure (.type "enumerate",[a]):=by first|rfl|kernel_rfl
def Po(k:s.heap.IsList l items)(m:∀h',IsEnum h' (↑s+1) ↑s 1 .none->h'.IsListIter ↑s l 0->h'.objs.size=↑s+2->(∀b o,s.heap.get? b=!o->h'.get? b=!o)->Q (.ref (↑s+1)) {s with heap:=h'}) : wpAny (model prog w) A (call (.type "enumerate") [.ref l] [("start",.int 1 tk)]) Q E s:=do d:=F.called_enumerate;{c,tl,f}:=d.mro;wpAny_call (codeAny_of_tree ?_);¬wpAny _ _ (pure _) _ _ s;qE {Code.quiet_builtin _ ∅,codeAny_builtin F.entry_type_call ?_};[Around.under_plain (weight_type_call_type _ _ _) rfl];@Builtin.«type.__call__»;(by dsimp only);[qB (do[d.notType];qr)];[qB (do[d.canCreate];qr)];qA (wpAny_of_eq (Ni _ _) ?_);qA (wpAny_of_eq f ?_);[qB (do qr)];qA (wpAny_of_eq d.made ?_);qA (qE (qA (qK (wpAny_call ?_))));codeAny_call_builtin d.plain F.entry_enumerate_new (wpAny_of_eq (Rc _ _) ?_);¬wpAny _ A.in1.in1 (Builtin.«enumerate.__new__» {pos:=[Value.type "enumerate",Value.ref l],kw:=[("start",Value.int 1 tk)]}) _ _ s;@Builtin.«enumerate.__new__»;qA (wpAny_of_eq (Rn _ _) ?_);(by dsimp only);[qF ⋯];qA ?_;@Builtin.SmallTypes.calledThroughType;qA (wpAny_stack λst _ _ _=>qE ?_);n:∀b o,s.heap.get? b=!o->((s.heap.push {cls:=.type "list_iterator",data:=.fields #[.ref l,.int 0 0]}).push {cls:=.type "enumerate",data:=.fields #[.none,.bool false,.ref ↑s,rawInt 1,.none,.none]}).get? b=!o:=λb o e=>qH _ (qH _ e);i:(s.heap.push {cls:=.type "list_iterator",data:=.fields #[.ref l,.int 0 0]}).objs.size=↑s+1:=size_push' _ _;j:((s.heap.push {cls:=.type "list_iterator",data:=.fields #[.ref l,.int 0 0]}).push {cls:=.type "enumerate",data:=.fields #[.none,.bool false,.ref ↑s,rawInt 1,.none,.none]}).get? (↑s+1)=some {cls:=.type "enumerate",data:=.fields #[.none,.bool false,.ref ↑s,rawInt 1,.none,.none]}:=(do[←i];qL _ rfl);q:((s.heap.push {cls:=.type "list_iterator",data:=.fields #[.ref l,.int 0 0]}).push {cls:=.type "enumerate",data:=.fields #[.none,.bool false,.ref ↑s,rawInt 1,.none,.none]}).IsListIter ↑s l 0:={_,qH _ (qL _ rfl),O,O};p:((s.heap.push {cls:=.type "list_iterator",data:=.fields #[.ref l,.int 0 0]}).push {cls:=.type "enumerate",data:=.fields #[.none,.bool false,.ref ↑s,rawInt 1,.none,.none]}).objs.size=↑s+2:=(do[size_push',i]);g:=m _ j q p n;A5 ?_ ?_;by all_goals(refine qA (wpAny_of_eq (a:=(Value.ref l,!(Value.int 1 tk))) (by first|rfl|kernel_rfl) ?_);dsimp only;refine qA (wpAny_of_eq (a:=Value.int 1 tk) (do 2) ?_);refine qA (wpAny_of_eq (a:=some 1) (do 2) ?_);dsimp only;rw[qB ⋯];refine qA (wpAny_pyIter_list k ?_);refine qA ?_;show wpAny _ _ (newObj (Value.type "enumerate") (Data.fields #[.none,.bool false,.ref ↑s,rawInt 1,.none,.none])) _ _ _;refine wpAny_newObj_type (qE ?_);show wpAny _ A.in1 _ _ _ {s with heap:=(s.heap.push {cls:=.type "list_iterator",data:=.fields #[.ref l,.int 0 0]}).push {cls:=.type "enumerate",data:=.fields #[.none,.bool false,.ref ↑s,rawInt 1,.none,.none]}};rw[i];generalize (s.heap.push {cls:=.type "list_iterator",data:=.fields #[.ref l,.int 0 0]}).push {cls:=.type "enumerate",data:=.fields #[.none,.bool false,.ref ↑s,rawInt 1,.none,.none]}=h2 at j g;have h:Shared.TypeIs {s with heap:=h2} (.ref (↑s+1)) "enumerate":={_,j,O};refine qA (wpAny_isInstance h sub_enumerate ?_);rw[qB ⋯];refine qA (qK (wpAny_callSpecial?_slot h d.init ?_));refine wpAny_call (codeAny_call_builtin ∅ F.entry_object_init (N4 h ?_));refine qA (wpAny_typeOf h ?_);refine qA (wpAny_of_eq d.init.lookup ?_);refine qA (wpAny_of_eq d.made ?_);rw[qB ∅,qB ∅];exact qE (qE g))
def jF(a:s.heap.get? e=some {cls:=c,data:=.fields vs})(d:k<vs.size)(g:∀h',h'.get? e=some {cls:=c,data:=.fields (vs.setIfInBounds k x)}->(∀b,b≠e->h'.get? b=s.heap.get? b)->h'.objs.size=↑s->Q Unit.unit {s with heap:=h'}):wpAny M A (setField (.ref e) k x) Q E s:=do wpAny_setField a rfl d (g _ ?_ (λb f=>Heap.get?_update_other _ _ f.symm) (Heap.size_update ..));Heap.get?_update_self _ a rfl
def LY(h:Heap)(e it:Sx)(i:Nat):Prop:=∃b c old,h.get? e=some {cls:=.type "enumerate",data:=.fields #[b,.bool c,.ref it,rawInt ((i:Int)+1),.none,old]}/\(b=.none\/∃(a:Nat) (o:Obj),b=rawInt (a:Int)/\h.get? a=!o)
def Js(hh:A.handled=none)(X:s.heap.IsList l items)(v:s.heap.IsListIter it l i)(he:LY s.heap e it i)(z:e≠it)(n2:l≠e)(n3:l≠it)(hi:i<=items.size)(h1:∀x h' tk,items[i]?=!x->LY h' e it (i+1)->h'.IsListIter it l (i+1)->h'.get? ↑s=some {cls:=.type "tuple",data:=.seq #[.int ((i:Int)+1) tk,x]}->(∀b o,b≠e->b≠it->s.heap.get? b=!o->h'.get? b=!o)->Q (!(.ref ↑s)) {s with heap:=h',toks:=tk+1})(h2:i=items.size->∀h',Heap.ExtBut it s.heap h'->Q none {s with heap:=h'}):wpAny (model prog w) A (pyNext (.ref e)) Q E s:=do _;{W,N,old,B,hf}:=he;V:s.TypeIs (.ref e) "enumerate":={_,B,O};D:=Draws.list (prog:=prog) (w:=w) (A:=A.in1) hh it l n3 items;@pyNext;qA (wpAny_attempt (wpAny_callSpecial?_slot (name:=Str.ofString "__next__") V F.slot_enumerate_next (qN F.slot_enumerate_next V F.entry_enumerate_next ?_ (F.args_enumerate_next_1 _))));@Builtin.«enumerate.__next__»;qA (wpAny_of_eq (a:=(Value.ref e,[])) rfl ?_);qA (wpAny_field B rfl (x:=.ref it) rfl ?_);K<|i<items.size;qA (D.item i s _ _ K {v,X} λx d tk M st H=>?_);m:d.get? e=some {cls:=.type "enumerate",data:=.fields #[W,.bool N,.ref it,rawInt ((i:Int)+1),.none,old]}:=(H.2 e z).trans B;qA (wpAny_field (s:={s with heap:=d,toks:=tk}) m rfl (x:=rawInt ((i:Int)+1)) rfl ?_);qA (wpAny_field (s:={s with heap:=d,toks:=tk}) m rfl (x:=.none) rfl ?_);(by dsimp only);[qF ⋯];qA (wpAny_mkInt ?_);qA (jF (s:={s with heap:=d,toks:=tk+1}) m (do 0) λg1 o1 k1 z1=>?_);qA (jF (s:={s with heap:=g1,toks:=tk+1}) o1 (do 0) λh o2 k2 z2=>?_);qA (wpAny_newTuple (s:={s with heap:=h,toks:=tk+1}) ?_);hz:h.objs.size=↑s:=z2.trans (z1.trans H.1);p:(h.push {cls:=.type "tuple",data:=.seq #[.int ((i:Int)+1) tk,x]}).get? ↑s=some {cls:=.type "tuple",data:=.seq #[.int ((i:Int)+1) tk,x]}:=(do[←hz];qL _ rfl);g:=qH {cls:=.type "tuple",data:=.seq #[.int ((i:Int)+1) tk,x]} o2;r:∀b u,b≠e->d.get? b=!u->(h.push {cls:=.type "tuple",data:=.seq #[.int ((i:Int)+1) tk,x]}).get? b=!u:=λb u U q=>qH _ (((k2 b U).trans (k1 b U)).trans q);¬wpAny _ _ _ _ _ {s with heap:=h.push {cls:=.type "tuple",data:=.seq #[.int ((i:Int)+1) tk,x]},toks:=tk+1};[show Value.ref h.objs.size=Value.ref ↑s by rw[hz]];(by generalize h.push {cls:=.type "tuple",data:=.seq #[.int ((i:Int)+1) tk,x]}=g3 at p g r);n:↑s≠e:=zu (qG B);k:∀c:Heap,(∀b u,b≠e->g3.get? b=!u->c.get? b=!u)->c.IsListIter it l (i+1):=λc q=>(do _;{R,P,Y,di}:=st.1;{R,q _ _ (Ne.symm z) (r _ _ (Ne.symm z) P),Y,di});ks:∀c:Heap,(∀b u,b≠e->g3.get? b=!u->c.get? b=!u)->∀b o,b≠e->b≠it->s.heap.get? b=!o->c.get? b=!o:=λc q b o f G J=>q b o f (r b o f ((H.2 b G).trans J));qA ?_;@Builtin.SmallTypes.ownedTupleIsFree;qA (wpAny_field (s:={s with heap:=g3,toks:=tk+1}) g rfl (x:=W) rfl ?_);rfl||{a,o,rfl,ea}:=hf;qE ?_;[qF rfl];qA (wpAny_rule (qA (wpAny_field (s:={s with heap:=g3,toks:=tk+1}) g rfl (x:=old) rfl ?_)));qA (jF (s:={s with heap:=g3,toks:=tk+1}) g (do 0) λc I L _=>?_);qA (qA (jF (s:={s with heap:=c,toks:=tk+1}) I (do 0) λg5 o5 Z _=>?_));jF (s:={s with heap:=g5,toks:=tk+1}) o5 (do 0) λS o6 k6 _=>?_;qA (wpAny_letGo (qE {_,O,qE ?_}));y:∀b u,b≠e->g3.get? b=!u->S.get? b=!u:=λb u t q=>((k6 b t).trans ((Z b t).trans (L b t))).trans q;h1 x S tk M {_,_,_,o6,.inr {_,_,O,y _ _ n p}} (k _ y) (y _ _ n p) (ks _ y);{o',j}:∃o',g3.get? a=!o':=(do f<|a=e;[f];{_,g};G<|a=it;{R,P,_}:=st.1;[G];{_,r _ _ (Ne.symm z) P};{_,r _ _ f ((H.2 _ G).trans ea)});qA (kdx_alive (s:={s with heap:=g3,toks:=tk+1}) (a:=((a:Int)).toNat) j ?_);[qB (do 0)];qA (wpAny_field (s:={s with heap:=g3,toks:=tk+1}) g rfl (x:=.bool N) rfl ?_);(by dsimp only);-N;[qF ⋯];qA (jF (s:={s with heap:=g3,toks:=tk+1}) g (do 0) λc I L _=>qE ?_);[qB ⋯];C:∀b u,b≠e->g3.get? b=!u->c.get? b=!u:=λb u t q=>(L b t).trans q;qE {_,O,qE (h1 x c tk M {_,_,_,I,.inr {a,?_}} (k _ C) (C _ _ n p) (ks _ C))};f<|a=e;[f];{_,O,I};{_,O,C _ _ f j};[qB ⋯];qE ?_;[qB ⋯];qE {_,O,qE (h1 x g3 tk M {_,_,_,g,.inr {a,_,O,j}} (k _ λ_ _ _ q=>q) p (ks _ λ_ _ _ q=>q))};hn:i=items.size:=();!hn;qA (D.done s _ _ {v,X} λh' x eb ⟨o,J,ec⟩=>?_);(by dsimp only);qA (wpAny_isInstance (T:="StopIteration") (b:=true) {o,J,ec} isSubtype_stop ?_);qE (h2 rfl h' eb)
end
section
variable {X:Cx}{pins:List (Sx×Obj)}{σ:St}
def ny(H:Hp)(xs zs:List V):Prop:=∀(j:Nat) z,zs[j]?=!z->∃T x,xs[j]?=!x/\z=.ref T/\H T=!(.tup [.int ((j:Int)+1),x])
def ny.mono(h:ny H xs zs)(s:af H H'):ny H' xs zs:=λj z e=>let⟨T,x,h1,h2,a⟩:=h j z e;{T,x,h1,h2,s _ _ a}
def QV{A:Around}{e it S l:Sx}{B:MD}(hh:A.in1.handled=none)(n1:e≠it)(n2:l≠e)(n3:l≠it)(n4:S≠e)(Z:S≠it)(n6:l≠S) : ∀(k i:Nat) (s:Sv) (H:Hp) (zs:List V) (acc:Array MD) (c:Nat),xs.length - i=k->i<=xs.length->Inv X pins σ H s->az H l xs->LY s.heap e it i->s.heap.IsListIter it l i->(∀b∈[e,it,S],fx X pins H b)-> s.heap.get? S=!(seqObj "list" acc c)->aJ zs acc.toList->zs.length=i->ny H xs zs-> (∀s' H' g f T,Inv X pins σ H' s'->af H H'->H' S=none->s'.heap.get? S=!(seqObj "list" f T)->aJ g f.toList->g.length=xs.length->ny H' xs g->R (.ok (.ret B)) s')-> codeAny (model X.prog X.w) A (.builtin "list.extend.loop" {[.ref S,.ref e,B],[]}) R s:=do(k);(by induction k with|zero|succ k ih=>?_);(i,s,H,zs,acc,c,hk,hi,I,P,M,m,t,L,K,hz,hp,hR);{its,N,U,_}:=I.list P;hl:=N.length;codeAny_builtin F.entry_extend_loop ?_;[Around.under_plainId F.plain_extend_loop _];¬wpAny _ A.in1 (pyNext (.ref e) >>= _) _ _ s;qA (Js hh U.isList m M n1 n2 n3 (do[zg];()) (λx _ _ Q=>?_) λ_ h' eb=>?_);this:=(Array.getElem?_eq_some_iff.mp Q).1;this←[zg];();qE (hR {s with heap:=h'} H zs acc c (I.dN (t':=s.toks) (ch:=[it]) (λb d=>t b (do[List.mem_singleton.mp d];0)) λb o d n=>eb b o (λz=>d (do#[z])) n) (af.refl _) (t S (do 0)).1 (eb _ _ Z L) K () hp);(i,s,H,zs,acc,c,hk,hi,I,P,M,m,t,L,K,hz,hp,hR);{its,N,U,zl}:=I.list P;hl:=N.length;za:acc.size=i:=(do e1:=aJ.length K;e2:acc.toList.length=acc.size:=zx;());codeAny_builtin F.entry_extend_loop ?_;[Around.under_plainId F.plain_extend_loop _];¬wpAny _ A.in1 (pyNext (.ref e) >>= _) _ _ s;qA (Js hh U.isList m M n1 n2 n3 (do[zg];()) (λu h' tk Q W v hT kp=>?_) λhn=>?_);hu:its[i]?=!u:=(do 0<|Q);{x,ex,ru}:∃x,xs[i]?=!x/\RelV x u:=(do E:i<xs.length:=();{u',e',r'}:=N.get (qh E);e'←[hu];-e';{_,qh E,r'});G:=I.aR.fresh (a:=↑s) (qe _);ob:∀b∈[e,it,S],b<↑s:=λb d=>(do(by ac_nf at d);rfl||rfl||rfl:=d;{_,_,_,q,_}:=M;qG q;{_,q,_}:=m;qG q;qG L);I1:Inv X pins σ H {s with heap:=h',toks:=tk+1}:=I.dN (t':=tk+1) (ch:=[e,it]) (λb d=>t b (by simp only[List.mem_cons,List.not_mem_nil,or_false]at d ⊢;rcases d with h|h <;> simp[h])) λb o d n=>kp b o (λz=>d (do#[z])) (λz=>d (do#[z])) n;I2:=I.ie I1 (qe _) G (o:=.tup [.int ((i:Int)+1),x]) {do¬2<=sizeLine;by decide,[.int ((i:Int)+1) tk,u],.cons {tk,O} (.cons ru .nil),{_,hT,O,_,O}};s2:af H (upd H ↑s (.tup [.int ((i:Int)+1),x])):=af.new G;r:∀b∈[e,it,S],fx X pins (upd H ↑s (.tup [.int ((i:Int)+1),x])) b:=λb d=>{do[ak (qp (ob b d))];(t b d).1,(t b d).2};eT:(upd H ↑s (.tup [.int ((i:Int)+1),x])) ↑s=!(.tup [.int ((i:Int)+1),x]):=aB;C:h'.get? S=!(seqObj "list" acc c):=kp _ _ n4 Z L;(by generalize upd H ↑s (.tup [.int ((i:Int)+1),x])=H2 at I2 s2 r eT);¬wpAny _ A.in1 (Builtin.List.listUpdate (.ref S) (λa=>a.push (.ref ↑s)) >>= _) _ _ _;qA (listUpdate_at (s:={s with heap:=h',toks:=tk+1}) C rfl ?_ () (do[Array.size_push];()));{c1,p}:∃c1,(h'.update S (Obj.mapSeq (·.push (Value.ref ↑s)))).get? S=!(seqObj "list" (acc.push (.ref ↑s)) c1):={_,get?_update_seq C _};J:∀b o,b≠S->h'.get? b=!o->(h'.update S (Obj.mapSeq (·.push (Value.ref ↑s)))).get? b=!o:=λb o d n=>(Heap.get?_update_other _ _ (λz=>d z.symm)).trans n;¬wpAny _ _ _ _ _ {s with heap:=h'.update S (Obj.mapSeq (·.push (Value.ref ↑s))),toks:=tk+1};(by generalize h'.update S (Obj.mapSeq (·.push (Value.ref ↑s)))=h2 at p J);I3:Inv X pins σ H2 {s with heap:=h2,toks:=tk+1}:=I2.dN (s:={s with heap:=h',toks:=tk+1}) (t':=tk+1) (ch:=[S]) (λb d=>r b (do[List.mem_singleton.mp d];0)) λb o d n=>J b o (λz=>d (do#[z])) n;qE {plainId_quiet F.plain_extend_loop _,ih (i+1) _ H2 (zs++[.ref ↑s]) _ c1 () () I3 (P.same s2) ?_ ?_ r p ?_ (do[qi,hz];2) ?_ λs' H' g f T a1 a2 a3 a4 a5 a6 a7=>hR s' H' g f T a1 (s2.trans a2) a3 a4 a5 a6 a7};{f0,f1,old,q1,y}:=W;{f0,f1,old,J _ _ (Ne.symm n4) q1,?_};y||{a,o,q3,q4}:=y;.inl y;z<|a=S;q3←[z];.inr {S,_,q3,p};.inr {a,o,q3,J _ _ z q4};{o,q1,y}:=v;{o,J _ _ (Ne.symm Z) q1,y};[Array.toList_push];aJ.append K (.cons rfl .nil);(j,z,D);hj<|j<zs.length;D←[zv hj];hp.mono s2 j z D;Y:j=zs.length:=(do this:=(qk.mp D).1;this←[qi,qt];());!Y;D←[ye (qe _),gh];-D;{_,x,do[hz];ex,O,do[hz];eT};hn←[zg];()
def Qk{A:Around}(W:A.handled=none)(I:Inv X pins σ H s)(D:az H l xs)(n1:e≠it)(n2:l≠e)(n3:l≠it)(he:LY s.heap e it 0)(G:s.heap.IsListIter it l 0)(R:∀b∈[e,it],fx X pins H b)(hQ:∀s' H' zs p,Inv X pins σ H' s'->H p=none->af H H'->H' p=!(.lst zs)->zs.length=xs.length->ny H' xs zs->Q (.ref p) s') : wpAny (model X.prog X.w) A (call (.type "list") [.ref e]) Q E s:=do _;{f0,f1,old,x,y}:=id he;callType_codes (Q₁:=λobj f=>obj=.ref ↑s/\f={s with heap:=s.heap.push {cls:=.type "list",data:=.seq #[]}}) F.called_list (F.typeCall_list_1 _) F.entry_list_init (code_list_new _ {O,O}) λobj f h₁=>?_;{rfl,rfl}:=h₁;m:(s.heap.push {cls:=.type "list",data:=.seq #[]}).get? ↑s=some {cls:=.type "list",data:=.seq #[]}:=qL _ rfl;{{_,m,O},F.args_list_init_2 _ _,?_};t:e<↑s:=qG x;(by generalize J:s.heap.push {cls:=.type "list",data:=.seq #[]}=h1 at m);k1:∀b o,s.heap.get? b=!o->h1.get? b=!o:=λb o e=>(do[←J];qH _ e);¬wpAny _ A.in1.in1 (do{let old ←Builtin.List.listItems (.ref ↑s);Builtin.List.listUpdate (.ref ↑s) (λ_=>#[]);letGo old.toList.reverse;Builtin.List.listExtendWith (.ref ↑s) (.ref e) .none}) _ _ {s with heap:=h1};qA ?_;@Builtin.List.listItems;qA (wpAny_seqItems (s:={s with heap:=h1}) m rfl (qE ?_));¬wpAny _ A.in1.in1 (updateSeq ↑s (λ_=>#[]) >>= λ_=>letGo (#[]:Array MD).toList.reverse >>= λ_=>Builtin.List.listExtendWith (.ref ↑s) (.ref e) .none) _ _ {s with heap:=h1};qA (wpAny_updateSeq (s:={s with heap:=h1}) m rfl ?_);i:=Heap.get?_update_self (Obj.mapSeq (λ_=>(#[]:Array MD))) m rfl;C:∀b o,s.heap.get? b=!o->(h1.update ↑s (Obj.mapSeq (λ_=>(#[]:Array MD)))).get? b=some o:=λb o e=>(Heap.get?_update_other _ _ (zu (qG e))).trans (k1 b o e);¬wpAny _ _ _ _ _ {s with heap:=h1.update ↑s (Obj.mapSeq (λ_=>(#[]:Array MD)))};(by generalize h1.update ↑s (Obj.mapSeq (λ_=>(#[]:Array MD)))=h2 at i C);qA (wpAny_letGo ?_);d:Shared.TypeIs {s with heap:=h2} (.ref e) "enumerate":={_,C _ _ x,O};Z:Builtin.List.listSameRef (.ref ↑s) (.ref e)=false:=(do¬(↑s==e)=false;beq_eq_false_iff_ne.mpr (zu t));@Builtin.List.listExtendWith;qA (wpAny_typeOf d ?_);[qB (by rw[Z];decide)];qA (wpAny_pyIter_slot d F.slot_enumerate_iter (qN F.slot_enumerate_iter d F.entry_enumerate_iter ?_ (F.args_enumerate_iter_1 _)));¬wpAny _ _ (ret (.ref _)) _ _ {s with heap:=h2};qE {_,O,"enumerate",_,d,F.slot_enumerate_next.lookup,?_};qA (qK ?_);@Builtin.List.listLengthHint;qA (wpAny_specialOf (name:=Str.ofString "__len__") d (r:=none) (by rw[typeLookup_type,builtinLookup_eq_fast];kernel_rfl) ?_);(by dsimp only);[qB ⋯,qB ⋯];qA (wpAny_specialOf (name:=Str.ofString "__length_hint__") d (r:=none) (by rw[typeLookup_type,builtinLookup_eq_fast];kernel_rfl) (qE ?_));[qF (do 2)];qA (wpAny_rule (qA ?_));@Builtin.List.listTouch;qA (listUpdate_at (s:={s with heap:=h2}) i rfl ?_);{P,g}:∃P,(h2.update ↑s (Obj.mapSeq (·.push Value.none))).get? ↑s=!(seqObj "list" #[Value.none] P):={_,get?_update_seq i _};K:∀b o,b≠↑s->h2.get? b=!o->(h2.update ↑s (Obj.mapSeq (·.push Value.none))).get? b=!o:=λb o u e=>(Heap.get?_update_other _ _ (λz=>u z.symm)).trans e;¬wpAny _ _ _ _ _ {s with heap:=h2.update ↑s (Obj.mapSeq (·.push Value.none))};(by generalize h2.update ↑s (Obj.mapSeq (·.push Value.none))=h4 at g K);listUpdate_at (s:={s with heap:=h4}) g rfl ?_;{B,n}:∃B,(h4.update ↑s (Obj.mapSeq (·.pop))).get? ↑s=!(seqObj "list" #[] B):={_,get?_update_seq g _};k:∀b o,s.heap.get? b=!o->(h4.update ↑s (Obj.mapSeq (·.pop))).get? b=!o:=λb o e=>(Heap.get?_update_other _ _ (zu (qG e))).trans (K b o (qp (qG e)) (C b o e));¬wpAny _ _ _ _ _ {s with heap:=h4.update ↑s (Obj.mapSeq (·.pop))};(by generalize h4.update ↑s (Obj.mapSeq (·.pop))=h5 at n k);¬wpAny _ _ (again (Code.builtin "list.extend.loop" {[Value.ref ↑s,Value.ref e,Value.none],[]})) _ _ _;hn:=I.aR.fresh (a:=↑s) (qe _);I5:Inv X pins σ H {s with heap:=h5}:=I.kept (t':=s.toks) k;{Y,M,T,di}:=id G;v:l<↑s:=(do _;{_,_,pl,_}:=I.list D;{_,q,_}:=pl.isList;qG q);qE {plainId_quiet F.plain_extend_loop _,QV (A:=A.in1) (X:=X) (pins:=pins) (σ:=σ) W n1 n2 n3 (Nat.ne_of_gt t) (Nat.ne_of_gt (qG M)) (Nat.ne_of_lt v) xs.length 0 {s with heap:=h5} H [] #[] B (Nat.sub_zero _) (Nat.zero_le _) I5 D {f0,f1,old,k _ _ x,?_} {Y,k _ _ M,T,di} (λb u=>?_) n .nil rfl (λj z ez=>do ez←0) λs' H' zs acc c a1 a2 N U S a6 a7=>{O,?_}};h||{a,o,h,q}:=y;.inl h;.inr ⟨a,o,h,k _ _ q⟩;(by ac_nf at u);rfl||rfl||rfl:=u;R _ (do 0);R _ (do 0);I.lG (qe _) hn;zl:xs.length<=sizeLine:=(do _;{_,_,_,z}:=I.list D;z);L:af H' (upd H' ↑s (.lst zs)):=af.new N;hQ s' (upd H' ↑s (.lst zs)) zs _ (I.ie a1 (Nat.le_refl _) N {do¬zs.length<=sizeLine;(),acc.toList,c,S,do 0<|U}) hn (a2.trans L) aB a6 (a7.mono L)
end
def OG{A:Around}(h1:(b.any λx=>x.fst)=false)(h2:(d.any λx=>x.fst.isNone)=false)(h:wpAny M A (evalArgs (.type T) true b d) (λa c=>wpAny M A (call (.type T) a.pos a.kw) Q E c) E s):wpAny M A (callWith pos (.type T) [] b d) Q E s:=do@callWith;qA (qK (qM h (λa c h₁=>?_) λ_ _ e=>e));qA (wpAny_standAt ?_);#[_,h1,h2,Bool.or_false];qA (wpAny_of_eq (a:=Keeper.machine) (by first|rfl|kernel_rfl) ?_);(by dsimp only);qA (qM h₁ (λv s2 q=>?_) λ_ _ e=>e);qA (qK (wpAny_point (qE q)))
inductive xD(Q:VK)(x:V)(H1:Hp):Prop
 |mk(a xs:_)(_:x=.ref a)(_:az H1 a xs)(_:∀p H' zs,H1 p=none->af H1 H'->H' p=!(.lst zs)->zs.length=xs.length->ny H' xs zs->Q (.ref p) H')
def BP(tl:TE):TE:=λσ H Q=>tl σ H λx H1=>xD Q x H1
section
variable {X:Cx}
def Nk{tl:TE}{p t p2 kp cpos pos:Pos}(D:X.calm=true)(n:Gl X "list")(m:X.mg "list"=none)(k:Gl X "enumerate")(r:X.mg "enumerate"=none)(L:PE X l tl)(y:starEach [l] X.env=[(false,eval l X.env)]:=by rfl)(f:starEach [.Call (.Name "enumerate" t) [l] [{!"start",.Constant (.int 1) j p2,kp}] cpos] X.env=[(false,eval (.Call (.Name "enumerate" t) [l] [{!"start",.Constant (.int 1) j p2,kp}] cpos) X.env)]:=by rfl) : PE X (.Call (.Name "list" p) [.Call (.Name "enumerate" t) [l] [{!"start",.Constant (.int 1) j p2,kp}] cpos] [] pos) (BP tl):=do _;{?_};(pins,s,σ,H,Q,I,h);wpAny_Call_Name_kw (iq I n m boot_list ?_ ⋯ ⋯);PyProof.Rows.callWith_type1 ?_ f rfl;[f];Calls.spliced_cons ?_;wpAny_Call_Name_kw (iq I k r boot_enumerate ?_ ⋯ ⋯);OG (do[y];2) rfl ?_;[y];evalArgs_kwB rfl (Calls.spliced_cons (bI (L pins s σ H _ I h) λv c ⟨x,H1,i,J,C⟩=>Calls.spliced_nil (kws_cons (wpAny_Constant_int (kws_nil ?_)))));{a,xs,e,z,q}:=C;!e;-J;{its,R,w,P}:=i.list z;o:=i.tok (c.toks+1);d:a<↑c:=(do _;{_,q,_}:=w.isList;qG q);Po (s:={c with toks:=c.toks+1}) w.isList λh' K hi hz B=>?_;E:Inv X pins σ H1 {c with heap:=h',toks:=c.toks+1}:=o.kept (t':=c.toks+1) B;Calls.spliced_nil (Qk (s:={c with heap:=h',toks:=c.toks+1}) (i.ok.hd D) E z (zu (yo _)) (qp (yn d)) (qp d) {_,_,_,K,.inl rfl} hi (λb u=>?_) λs' H' zs N a1 a2 G M A F=>{.ref _,_,a1,O,q _ _ _ a2 G M A F});g:↑c<=b:=(do(by ac_nf at u);rfl||rfl:=u;jt _;qe _);i.lG g (i.aR.fresh g)
end
structure Me(K:PySem.W.Frag)(mg:Sy->Option MD)(x:Sy)(st:Stmt)(T:Sx):Prop where
 out:∃(f c:Sx) (oc:MD) (od an:Option Sx) (kV doc pm ct:MD) (osl:Array (Option MD)),K.lookup f=some {oc,od,.func (PySem.W.fnOf x x (bZ st) (bL st) (ag st) .none kV doc pm an (.ref c) ct),osl}/\PySem.W.codeIn K (.ref c) x=true/\PySem.W.keepIn K (.ref f)=true/\codeHdIn K c T=true/\mg x=!(.ref f)
def Kr{P:Program}{w:World}{K:PySem.W.Frag}{mg:Sy->Option MD}{base:Heap}{x:Sy}{st:Stmt}{T:Sx}{N ps:List Sy}{k:Nat}{sp:Sp}(F:Me K mg x st T)(S:ax N ps (ag st))(p:∀{kV b g:MD}{d:Option Sx}{i e:MD}(us:List MD),us.length=ps.length->bindArgs (PySem.W.fnOf x x (bZ st) (bL st) (ag st) .none kV b g d i e) {us,[]}=pure (ps.zip us))(len:∀vs H Q E,sp vs H Q E->vs.length=ps.length)(a:∀(f c:Sx) (A:Around) (outer:List Env) (s:Sv) (H:Hp) (vs:List V) (Q:VK) (E:XK),codeHdIn K c T=true->bG k (A.deeper (envOfC x (ag st) ↑s f (.ref c)))->sp vs H Q E-> ∃t,iG (kB iO P w K mg base N x (ag st) f (.ref c) A outer s H E).wW (bL st) t/\t {nx:=λ_ H'=>Q .aQ H',rt:=Q} (start N vs) H):cH P w K mg base (k+1) x ps sp:=do _;{f,c,y,od,d,kV,b,g,e,o,v,l,n,r,m}:=F.out;{f,_,ud v l S len λA outer s H vs Q E u j=>?_,m,n,.all p};{t,h,q}:=a f c A outer s H vs Q E r u j;{t,h.wW,q}
inductive FL(K:PySem.W.Frag)(n:Sy)(s:Stmt)(T:Sx):Prop
 |mk{a c:Sx}{od an:Option Sx}{sl:Array (Option MD)}{oc kV dc pm ct:MD}(z1:PySem.W.nsIn K mainGlobals n=!(!(.ref a)))(z2:K.lookup a=some ⟨oc,od,.func (PySem.W.fnOf n n (bZ s) (bL s) (ag s) .none kV dc pm an (.ref c) ct),sl⟩)(z3:PySem.W.codeIn K (.ref c) n=true)(z4:PySem.W.keepIn K (.ref a)=true)(z5:codeHdIn K c T=true)
def FL.fo{K:PySem.W.Frag}{n:Sy}{s:Stmt}{T:Sx}{h:Heap}{mg:Sy->Option MD}(f:FL K n s T)(X:K.In h)(G:h.Ns mainGlobals mg):Me K mg n s T:=do _;{a,e,d,c,b}:=f;{_,_,_,_,_,_,_,_,_,_,e,d,c,b,PySem.W.mg_of X G a}
def Ij(hi:σ[i]?=!none)(o:σ[j]?=!none)(t:σ[l]?=!none)(b:i≠j)(f:i≠l)(d:j≠l):i6 (wI n (iU (cM i) (iU (cM j) (iU (cM l) CA)))) σ:=do(x,H,Q,q);{a,xs,h,B,y,v,r,z,w,A,m,u,c,s,p,q}:=q;{a,xs,h,B,y,v,r,z,w,A,m,u,c,s,p,?_,q};h1:=fv.set hi v;h2:=fv.set (σ:=σ.set i (!v)) (i:=j) (do[yy b];o) w;g:=fv.set (σ:=(σ.set i (!v)).set j (!w)) (i:=l) (do[yy d,yy f];t) u;{(h1.1.trans h2.1).trans g.1,λk u e=>g.2 k u (h2.2 k u (h1.2 k u e))}
inductive tH(x y:V)(H:Hp)(Q:VK):Prop
 |mk(n:Int)(_:x=.str "hm")(_:y=.int n)(_:1<=n)(_:n<=4)(_:∀z:Sy,PyData.strOk z=true->Q (.str z) H)
def Mw:dm X (binaryOp .Mult) tH:=do(pins,s,σ,H,x,y,v,u,Q,I,b,a,h);{n,rfl,rfl,h1,h2,q}:=h;{t,rfl}:=b;{t',rfl}:=a;this:n=1\/n=2\/n=3\/n=4:=();rfl||rfl||rfl||rfl:=this;P.mul_str ⋯ (λ_ h=>absurd h (do 0)) (λ_ h=>absurd h (do 0)) ⟨.str "hm",H,I,⟨t,O⟩,q _ ∅⟩;P.mul_str ⋯ (λ_ _=>∅) (λ_ _=>∅) ?_;[qB ⋯,qB ∅];{∅,.str _,H,I.tok _,{_,O},q _ ∅};P.mul_str ⋯ (λ_ _=>∅) (λ_ _=>∅) ?_;[qB ⋯,qB ∅];{∅,.str _,H,I.tok _,{_,O},q _ ∅};P.mul_str ⋯ (λ_ _=>∅) (λ_ _=>∅) ?_;[qB ⋯,qB ∅];{∅,.str _,H,I.tok _,{_,O},q _ ∅}
inductive IW(Q:VK)(x:V)(H1:Hp):Prop
 |mk(i:Nat)(_:x=.int i)(_:i<=1000)(_:Q (.str (Str.ofString (toString (i:Int)))) H1)
def QF(te:TE):TE:=λσ H Q=>te σ H λx H1=>IW Q x H1
def Jt(a:PE X e te):PE X (.FormattedValue e (-1) none pos) (QF te):=do _;{?_};(pins,s,σ,H,Q,I,h);wpAny_FormattedValue_plain (qM (a pins s σ H _ I h) (λv f ⟨x,H1,c,b,d⟩=>?_) λ_ _ e=>e);{i,rfl,hz,q}:=d;{t,rfl}:=b;wpAny_formatField_int ?_ {.str _,H1,c.tok _,{_,O},q};[Int.natAbs_natCast];h<|i=0;[h];(by decide);(Nat.log2_lt h).mpr (jj hz (zf (by decide:1000<2 ^ 10) (bi ⋯ ⋯)))
def Ko(a:PE X e te):PE X (.JoinedStr [e] pos) te:={λpins s σ H Q I h=>do[arm_eval_JoinedStr];a pins s σ H Q I h}
structure Ra(P:Program)(w:World)(K:PySem.W.Frag)(mg:Sy->Option MD)(base:Heap)(k:Nat)(x:Sy)(ps:List Sy)(sp:Sp):Prop where
 b:cH P w K mg base k x ps sp
 d:∃f fd,f9 P w K mg base iO k f fd ps sp/\mg x=!(.ref f)/\PySem.W.keepIn K (.ref f)=true/\Binds K fd ps [.none]
structure OV(K:PySem.W.Frag)(mg:Sy->Option MD)(x:Sy)(st:Stmt):Prop where
 out:∃(f t:Sx) (oc oc':MD) (od od' an:Option Sx) (kV doc pm cdv ct:MD) (osl osl':Array (Option MD)) (n:Nat),K.lookup f=some {oc,od,.func (PySem.W.fnOf x x (bZ st) (bL st) (ag st) (.ref t) kV doc pm an cdv ct),osl}/\PySem.W.codeIn K cdv x=true/\PySem.W.keepIn K (.ref f)=true/\K.lookup t=some {oc',od',.seq #[.none] n,osl'}/\mg x=!(.ref f)
def D5{P:Program}{w:World}{K:PySem.W.Frag}{mg:Sy->Option MD}{base:Heap}{x:Sy}{st:Stmt}{N ps:List Sy}{k:Nat}{sp:Sp}(F:OV K mg x st)(S:ax N ps (ag st))(y:∀(t:Sx) (kV b e:MD) (g:Option Sx) (a d:MD) (us:List MD),us.length=ps.length->∃q,bindArgs (PySem.W.fnOf x x (bZ st) (bL st) (ag st) (.ref t) kV b e g a d) {us,[]}=seqItems? (.ref t) >>= q/\q (some #[.none])=pure (ps.zip us))(m:∀(t:Sx) (kV b e:MD) (g:Option Sx) (a d:MD) (us:List MD),us.length+1=ps.length->∃q,bindArgs (PySem.W.fnOf x x (bZ st) (bL st) (ag st) (.ref t) kV b e g a d) {us,[]}=seqItems? (.ref t) >>= q/\q (some #[.none])=pure (ps.zip (us++[.none])))(len:∀vs H Q E,sp vs H Q E->vs.length=ps.length)(c:∀(f:Sx) (a:MD) (A:Around) (outer:List Env) (s:Sv) (H:Hp) (vs:List V) (Q:VK) (E:XK),bG k (A.deeper (envOfC x (ag st) ↑s f a))->sp vs H Q E-> ∃t,iG (kB iO P w K mg base N x (ag st) f a A outer s H E).wW (bL st) t/\t {nx:=λ_ H'=>Q .aQ H',rt:=Q} (start N vs) H):Ra P w K mg base (k+1) x ps sp:=do _;{f,t,G,v,od,z,g,kV,b,e,a,d,D,p,n,B,l,u,o,r}:=F.out;ok:=ud (CX:=iO) (base:=base) B l S len λA outer s H vs Q E C j=>let⟨t,h,q⟩:=c f a A outer s H vs Q E C j;{t,h.wW,q};{{f,_,ok,r,u,λs us X i=>?_},f,_,ok,r,u,λs us X i=>?_};(by rw[wx]at i ⊢);{q,h1,h2}:=y t kV b e g a d us i;.of_defaults rfl (X _ _ o) rfl h1 h2;i←[qi];{q,h1,h2}:=m t kV b e g a d us i;.of_defaults rfl (X _ _ o) rfl h1 h2
inductive LW(K:PySem.W.Frag)(n:Sy)(s:Stmt):Prop
 |mk{a t:Sx}{od an od':Option Sx}{sl sl':Array (Option MD)}{oc oc' kV dc pm cd ct:MD}{m:Nat}(z1:PySem.W.nsIn K mainGlobals n=!(!(.ref a)))(z2:K.lookup a=some ⟨oc,od,.func (PySem.W.fnOf n n (bZ s) (bL s) (ag s) (.ref t) kV dc pm an cd ct),sl⟩)(z3:PySem.W.codeIn K cd n=true)(z4:PySem.W.keepIn K (.ref a)=true)(z5:K.lookup t=some ⟨oc',od',.seq #[.none] m,sl'⟩)
def LW.fo{K:PySem.W.Frag}{n:Sy}{s:Stmt}{h:Heap}{mg:Sy->Option MD}(f:LW K n s)(X:K.In h)(G:h.Ns mainGlobals mg):OV K mg n s:=do _;{a,e,d,c,b}:=f;{_,_,_,_,_,_,_,_,_,_,_,_,_,_,_,e,d,c,b,PySem.W.mg_of X G a}
section
variable {X:Cx}{e:Expr}{es:List Expr}{t:TA}{p pos:Pos}{k n:Nat}{x:Sy}{ps:List Sy}{sp:Sp}
def N7(F:Ra X.prog X.w X.K X.mg X.base k x ps sp)(o:bG n X.A)(g:PA X (e::es) t)(j:k<=n:=by decide)(m:Gl X x:=by exact rfl)(a:(x==("__debug__":Sy))=false:=by exact rfl)(h:ua X e:=by exact λ_=>rfl)(c:(backTo pos (starEach es X.env)).any (·.1)=false:=by exact rfl) : PE X (.Call (.Name x p) (e::es) [] pos) (uD sp [.aQ] E0 t):=do _;{f,fd,F,i,b,l}:=F.d;Kk F (o.mono j) m i b l (.cons rfl .nil) zT g a (h _) c
end
inductive tL(x y:V)(H:Hp)(Q:VK):Prop
 |mk(b:Bool)(_:x=.str ".")(_:y=.int (if b then 1 else 0))(_:Q (.str (if b then "." else "")) H)
def Pg:dm X (binaryOp .Mult) tL:=do(pins,s,σ,H,x,y,v,u,Q,I,c,a,h);{b,rfl,rfl,q}:=h;{t,rfl}:=c;{t',rfl}:=a;(by cases b with|true|false=>?_);P.mul_str ⋯ (λ_ h=>absurd h (do 0)) (λ_ h=>absurd h (do 0)) {.str ".",H,I,{t,O},q};P.mul_str_none ⋯ ⋯ {.str "",H,I.tok _,{_,O},q}
end L2
namespace My
open PySem L2 PyProof.Rows
def aE(h:Nat.ble n 1000=true):n<=sizeLine:=ww (cG (jn h))
def kK(h:n<=1000):n<=sizeLine:=ww (cG h)
def cW{A B:Prop}(h:c=true)(a:A):if c=true then A else B:=do[qF h];a
def bU{A B:Prop}(h:c=false)(b:B):if c=true then A else B:=do[qB (by rw[h];decide)];b
def kP:Key->Sw|.inl i=>.int i|.inr s=>.str s
theorem Ef:∀ks:List Key,cz H (ks.map kV) (ks.map kP)|[]=>.nil|.inl i::ks=>.cons (.int i) (Ef ks)|.inr s::ks=>.cons (.str s) (Ef ks)
theorem A0(h:DT H x d):∀{xs:List V} {ds:List Sw},cz H xs ds->cz H (xs++[x]) (ds++[d])|_,_,.nil=>.cons h .nil|_,_,.cons a t=>.cons a (A0 h t)
def OX{pv:List V}(h:r<=pv.length):d6 pv (!(r:Int)) none=pv.drop r:=do@d6;[HT.oQ,HT.rD,Nat.min_eq_left h];yr (do[yf];qe _)
theorem pO{α β:Type}:∀(es xs:List (KD×α×β)),((xs++es).map (·.1)).Nodup->putAll xs es=xs++es|[],xs,_=>(wx xs).symm|e::es,xs,h=>do hn:∀x∈xs,x.1≠e.1:=λx a z=>(do h←[z7,zn];(wt.mp h).2.2 x.1 (qf.mpr {x,a,O}) e.1 qm z);b:=mD hn;hp:pG xs e.1 e.2.1 e.2.2=xs++[e]:=(do@pG;[b,qB (λz=>nomatch z)]);¬putAll (pG xs e.1 e.2.1 e.2.2) es=_;[hp,pO es (xs++[e]) (do[yk];h),yk];2
inductive Bu(vs:List V)(H:Hp)(Q:VK)(_:XK):Prop
 |mk(v nk bh D k:_)(_:vs=[v])(_:PL nk bh D H v k)(_:∀kv,DT H kv (D k)->Q kv H)
inductive Fd(vs:List V)(H:Hp)(Q:VK)(_:XK):Prop
 |mk(p ys nk bh D ms js t:_)(_:vs=[.ref p])(_:az H p ys)(_:AN (PL nk bh D H) ys js)(_:ms=js)(_:wC nk bh D ms t)(_:∀H' dq kvs,af H H'->FD nk bh ms ms H H' dq kvs->Q (.ref dq) H')
inductive CY(vs:List V)(H:Hp)(Q:VK)(_:XK):Prop
 |mk(p ys nk bh D ms js t:_)(_:vs=[.ref p])(_:az H p ys)(_:AN (PL nk bh D H) ys js)(_:ms=js)(_:wC nk bh D ms t)(_:∀H' q zs,af H H'->H q=none->H' q=!(.lst zs)->AN (NM nk H') zs (Rga.iC (Rga.cP bh ms))->Q (.ref q) H')
def cL(h:n<=2000):n<=sizeLine:=ww (jL h)
def qY(h:AN P vs js)(f:∀v i,i∈js->P v i->P' v i):AN P' vs js:={h.1,λm v i b a=>f _ _ (qw a) (h.2 m v i b a)}
def tD(ks:List Key):Sw:=.tuple (ks.map kP)
def AK:∀k:Key,f' (kP k)=true|.inl _=>rfl|.inr _=>rfl
def mJ(ks:List Key):f' (tD ks)=true:=do¬f' (.tuple (ks.map kP))=true;[f'];pF λd a=>do _;{k,_,rfl}:=qf.mp a;AK k
def eh(ks:List Key):(tD ks).depth<=1:=do this:PyData.depthAll (ks.map kP)<=0:=gR λd a=>(do _;{k,_,rfl}:=qf.mp a;by cases k <;> exact qe 0);¬PyData.depthAll (ks.map kP)+1<=1;()
def Fh:∀{a b:Key},kP a=kP b->a=b|.inl _,.inl _,h=>(by injection h with h;rw[h])|.inl _,.inr _,h=>(do-h)|.inr _,.inl _,h=>(do-h)|.inr _,.inr _,h=>by injection h with h;rw[h]
theorem Gx:∀{a b:List Key},a.map kP=b.map kP->a=b|[],[],_=>rfl|[],_::_,h=>(do-h)|_::_,[],h=>(do-h)|x::a,y::b,h=>by rw[zn,zn]at h;injection h with h1 h2;rw[Fh h1,Gx h2]
def Li(h:tD a=tD b):a=b:=Gx (PyData.tuple.inj h)
def hP(a b:List Key):PyData.eqv (tD a) (tD b)=decide (a=b):=do h<|a=b;[qI h,h];(wK _ _ (mJ b) (mJ b)).mpr rfl;[decide_eq_false h];(by cases q:PyData.eqv (tD a) (tD b)with|false|true=>?_);2;absurd (Li ((wK _ _ (mJ a) (mJ b)).mp q)) h
def aK(h:GK H (.tup ks) v):DT H v (tD ks):=do _;{b,rfl,h}:=h;.tup h (Ef _)
def BU:∀k:Key,sk (kP k) (kP k)=true|.inl _=>rfl|.inr _=>rfl
theorem dZ:∀ks:List Key,eN (ks.map kP) (ks.map kP)=true|[]=>rfl|k::ks=>do¬(sk (kP k) (kP k)&&eN (ks.map kP) (ks.map kP))=true;[BU,dZ ks];2
def zB(ks:List Key):sk (tD ks) (tD ks)=true:=dZ ks
def Lay(ks:List Key):Prop:=(tD ks).canLay0=true
def bV(a b c d:Int):Prop:=a<c\/(a=c/\b<d)
def iZ(h:bV a b c d):bT (.tuple [.int a,.int b]) (.tuple [.int c,.int d])=true:=do[bT];h||{rfl,h}:=h;qX h;wX (qX h)
def uv(n:Nat):(List.range n).Pairwise λa b=>a<b:=List.pairwise_lt_range
def Rd.same(r:Rd H a u)(s:af H H'):Rd H' a u:=do r||{o,r}:=r;.inl (s _ _ r);.inr ⟨o,s _ _ r⟩
def kN(i:Nat):Key:=.inr ((["births","places","cuts","signs","marks","notes","lines","cells","leaves"]:List Sy).getD i "")
def cE(F:Nat->Sx)(n:Nat):List (Key×V):=(List.range n).map λi=>(kN i,.ref (F i))
def LJ:∀i,i<9->∀j,j<9->kN i=kN j->i=j:=∅
def cX(F:Nat->Sx)(i:Nat)(h:i<9):bN (cE F 9) (kN i)=!(.ref (F i)):=do c:∀(l:List Nat),(∀j∈l,j<9)->i∈l->bN (l.map λi=>(kN i,V.ref (F i))) (kN i)=!(.ref (F i)):=λl=>(do(by induction l with|nil|cons j l d=>?_);(_,z);-z;(b,hi);[zn];e<|j=i;!e;fW rfl;[gF (λz=>e (LJ j (b j qm) i h z))];z||z:=q0.mp hi;absurd z.symm e;d (λj a=>b j (qy _ a)) z);c _ (λj a=>qo.mp a) (qo.mpr h)
def lU(H:Hp)(v:V):Prop:=∃d,DT H v d/\d.canLay0=true/\sk d d=true/\d.depth<=5
def HJ(r:Rd H a (.dK kvs))(e:H b=!(.lst xs)):a≠b:=λz=>do !z;by rcases r with r|⟨o,r⟩ <;> rw[e]at r <;> cases r
def Rd.wr(r:Rd H a u)(h:a≠b):Rd (upd H b o) a u:=do r||{o,r}:=r;.inl (do[ak h];r);.inr ⟨o,do[ak h];r⟩
def Np(h:PyData.strOk z=true)(x:Int):Lay [.inr z,.inl x]:=do¬(PyData.strOk z&&(true&&true))=true;[h];2
theorem qU:∀{ds:List Sw},(∀d∈ds,sk d d=true)->eN ds ds=true|[],_=>rfl|d::ds,h=>do¬(sk d d&&eN ds ds)=true;[h d qm,qU λx a=>h x (qy _ a)];2
def pJ(e:H q=!(.tup xs))(h:cz H xs ds)(ok:∀d∈ds,d.canLay0=true/\sk d d=true/\d.depth<=1):lU H (.ref q):=do _;{.tuple ds,.tup e h,dH λd a=>(ok d a).1,qU λd a=>(ok d a).2.1,?_};this:=gR λd a=>(ok d a).2.2;¬PyData.depthAll ds+1<=5;()
def cm(h:Lay ks):(tD ks).canLay0=true/\sk (tD ks) (tD ks)=true/\(tD ks).depth<=1:={h,zB ks,eh ks}
def d8(h:PyData.strOk z=true):(PyData.str z).canLay0=true/\sk (.str z) (.str z)=true/\(PyData.str z).depth<=1:={h,O,qv 1}
def fH(a b:Int):(PyData.tuple [.int a,.int b]).canLay0=true/\sk (.tuple [.int a,.int b]) (.tuple [.int a,.int b])=true/\(PyData.tuple [.int a,.int b]).depth<=1:={O,O,qe 1}
theorem pw(t:ai H H'):∀{ys:List V} {es:List (Key×V)},j2 H ys es->j2 H' ys es|[],[],_=>trivial|[],_::_,h=>h.elim|_::_,[],h=>h.elim|_::_,_::_,h=>{let⟨b,e,h1⟩:=h.1;{b,e,t _ _ h1},pw t h.2}
theorem Br(a:∃b,y=.ref b/\H b=!(.tup [kV e.1,e.2])):∀{ys:List V} {es:List (Key×V)},j2 H ys es->j2 H (ys++[y]) (es++[e])|[],[],_=>{a,trivial}|[],_::_,h=>h.elim|_::_,[],h=>h.elim|_::_,_::_,h=>{h.1,Br a h.2}
theorem xN:∀{zs:List V},(∀z∈zs,lU H z)->∃ds,cz H zs ds/\∀d∈ds,d.canLay0=true/\sk d d=true/\d.depth<=5|[],_=>{[],.nil,λd z=>nomatch z}|z::zs,h=>do _;{d,h1,h2}:=h z qm;{ds,c,b}:=xN λx a=>h x (qy _ a);{d::ds,.cons h1 c,λx a=>do rfl||q:=q0.mp a;h2;b x q}
structure RO(d:Sw):Prop where
 lay:d.canLay0=true
 self:PyData.eqv d d=true
 deep:d.depth<=6
def RK(h:∀d∈ds,d.canLay0=true/\sk d d=true/\d.depth<=5):RO (.list ds) := {dH λd a=>(h d a).1,Qc λd a=>(h d a).2.1,do this:=gR λd a=>(h d a).2.2;¬PyData.depthAll ds+1<=6;()}
def Nu:cE (λi=>if i=j then c else C i) (j+1)=cE C j++[(kN j,.ref c)]:=do@cE;[yi,z7];this:(List.range j).map (λi=>(kN i,V.ref (if i=j then c else C i)))=(List.range j).map (λi=>(kN i,V.ref (C i))):=yu λi hi=>(do this:=qo.mp hi;[qB ()]);[this];0
def Rest(H H':Hp)(S:Sx->Prop):Prop:=∀b o,H b=!o->¬S b->H' b=!o
def QD{a:Sx}{kvs:List (Key×V)}{H:Hp}{R:It->Hp->Prop}(r:Rd H a (.dK kvs))(k:∀(o:Obj) (Y:Hp),(∀b u,b≠a->H b=!u->Y b=!u)->(∀b,Y b=none->H b=none)->Y a=!(.cI o (.dK kvs))->R (zL a o kvs) Y) : (H a=!(.dK kvs)/\∀o,R (zL a o kvs) (upd H a (.cI o (.dK kvs))))\/∃o,H a=!(.cI o (.dK kvs))/\R (zL a o kvs) H:=do e||{o,e}:=r;.inl ⟨e,λo=>k o _ (λb u n e=>do[ak n];e) (λb q=>?_) aB⟩;z<|b=a;!z;q←[aB];-q;q←[ak z];q;.inr {o,e,k o H (λ_ _ _ e=>e) (λ_ e=>e) e}
def M'(h:AN P vs js)(f:∀v i,v∈vs->P v i->P' v i):AN P' vs js:={h.1,λm v i a b=>f _ _ (qw a) (h.2 m v i a b)}
def AL{β α:Type}(P:β->α->Prop)(vs:List β)(rs:List α):Prop:=vs.length=rs.length/\∀(m:Nat) v r,vs[m]?=!v->rs[m]?=!r->P v r
section
variable {β α:Type}{P P':β->α->Prop}{vs us:List β}{rs ts:List α}
def AL.imp(h:AL P vs rs)(f:∀v r,P v r->P' v r):AL P' vs rs:={h.1,λm v r a b=>f _ _ (h.2 m v r a b)}
def AL.px(h:AL P vs rs)(f:∀v r,v∈vs->r∈rs->P v r->P' v r):AL P' vs rs:={h.1,λm v r a b=>f _ _ (qw a) (qw b) (h.2 m v r a b)}
def AL.nil:AL P [] []:={O,λm v r z=>nomatch z}
def AL.cons{v:β}{r:α}(h:P v r)(g:AL P vs rs):AL P (v::vs) (r::rs):=do _;{do[zd,zd,g.1],λm d c a b=>?_};(by cases m with|zero|succ m=>?_);-a;-b;h;g.2 m _ _ a b
def AL.head(g:AL P (v::vs) (r::rs)):P v r:=g.2 0 _ _ rfl rfl
def AL.tail(g:AL P (v::vs) (r::rs)):AL P vs rs:={do this:=g.1;0<|this,λm d c a b=>g.2 (m+1) _ _ a b}
def AL.none(g:AL P [] (r::rs)):False:=do this:=g.1;this←0
def AL.nothing(g:AL P (v::vs) []):False:=do this:=g.1;this←0
def AL.app(h:AL P vs rs)(g:AL P us ts):AL P (vs++us) (rs++ts):=do(by induction vs generalizing rs with|nil|cons v vs a=>?_;cases rs with|nil|cons r rs=>?_);g;h.none.elim;(by cases rs with|nil|cons r rs=>?_);h.nothing.elim;.cons h.head (a h.tail)
def AL.snoc(h:AL P vs rs)(a:P v r):AL P (vs++[v]) (rs++[r]):=h.app (.cons a .nil)
def AL.at{m:Nat}{v:β}(h:AL P vs rs)(e:vs[m]?=!v):∃r,rs[m]?=!r/\P v r:=do a:m<rs.length:=(do[←h.1];(qk.mp e).1);{rs[m],qh a,h.2 m v _ e (qh a)}
def AL.at'{m:Nat}{r:α}(h:AL P vs rs)(e:rs[m]?=!r):∃v,vs[m]?=!v/\P v r:=do a:m<vs.length:=(do[h.1];(qk.mp e).1);{vs[m],qh a,h.2 m _ r (qh a) e}
def AL.mem(h:AL P vs rs)(e:v∈vs):∃r,r∈rs/\P v r:=do _;{m,a,rfl}:=z8.mp e;{r,b,p}:=h.at (qh a);{r,qw b,p}
def AL.gG(h:AL P vs rs)(e:r∈rs):∃v,v∈vs/\P v r:=do _;{m,a,rfl}:=z8.mp e;{v,b,p}:=h.at' (qh a);{v,qw b,p}
theorem AL.map(h:AL P vs rs){b:Type}{f:β->b}{d:b->α->Prop}(k:∀v r,v∈vs->r∈rs->P v r->d (f v) r):AL d (vs.map f) rs:=do _;{do[qj,h.1],λm v r a e=>?_};a←[qu];{u,c,rfl}:=wj.mp a;k _ _ (qw c) (qw e) (h.2 m u r c e)
end
theorem AL.lW{α:Type}{P:V->α->Prop}{H:Hp}{D:α->Sw}(a:∀v r,P v r->DT H v (D r)):∀{vs:List V} {rs:List α},AL P vs rs->cz H vs (rs.map D)|[],[],_=>.nil|[],_::_,h=>h.none.elim|_::_,[],h=>h.nothing.elim|_::_,_::_,h=>.cons (a _ _ h.head) (AL.lW a h.tail)
def bE:List Key:=[.inr "",.inl 0]
def Nm(ks:List Key):Prop:=∃w x,ks=[.inr w,.inl x]/\(w = "ann" \/ w = "bo" \/ w = "cyan")
def Pn(ks:List Key):Prop:=ks=bE\/Nm ks
def Nm.lay(h:Nm ks):Lay ks:=do _;{w,x,rfl,h}:=h;Np ?_ x;by rcases h with rfl|rfl|rfl <;> decide +kernel
def PH:Lay bE:=by unfold Lay bE;decide +kernel
theorem Pn.lay(h:Pn ks):Lay ks:=do rfl||h:=h;PH;h.lay
def Nm.main(h:Nm ks):ks≠bE:=do _;{w,x,rfl,h}:=h;(z);(by unfold bE at z;injection z with z _;injection z with z);!z;by revert h;decide +kernel
def Pn.two(h:Pn ks):∃w x,ks=[.inr w,.inl x]:=do rfl||{w,x,rfl,_}:=h;⟨_,_,O⟩;⟨_,_,O⟩
structure Pc where
 pt:List Key
 ou:List Key
 nm:List Key
 ka:Int
 kb:Int
def fB(H:Hp)(v:V)(r:Pc):Prop:=∃b a c vn kq,v=.ref b/\H b=!(.tup [a,c,vn,.ref kq])/\GK H (.tup r.pt) a/\GK H (.tup r.ou) c/\GK H (.tup r.nm) vn/\H kq=!(.tup [.int r.ka,.int r.kb])
theorem fB.ab(h:fB H v r)(t:ai H H'):fB H' v r:=do _;{b,f,a,vn,kq,e,h1,h2,c,d,g}:=h;{b,f,a,vn,kq,e,t _ _ h1,h2.ab t,c.ab t,d.ab t,t _ _ g}
structure vE(r:Pc):Prop where
 pt:Nm r.pt
 ou:Pn r.ou
 nm:Nm r.nm
def fB.eQ(h:fB H v r)(w:vE r):lU H v:=do _;{b,i,g,vn,kq,rfl,h1,h2,c,e,f}:=h;pJ h1 (.cons (aK h2) (.cons (aK c) (.cons (aK e) (.cons (.tup f (.cons (.int _) (.cons (.int _) .nil))) .nil)))) λd a=>?_;(by ac_nf at a);rfl||rfl||rfl||rfl:=a;cm w.pt.lay;cm w.ou.lay;cm w.nm.lay;fH _ _
def hp(xs:List Pc)(k:List Key):Bool:=xs.any λx=>decide (x.pt=k)
def g_(xs:List Pc)(r:Pc):List Pc:=if hp xs r.pt=true then xs.map (λx=>if x.pt=r.pt then r else x) else xs++[r]
def tl(rs:List Pc):List Pc:=rs.foldl g_ []
def qV(rs:List Pc)(r:Pc):tl (rs++[r])=g_ (tl rs) r:=do@tl;[jz];2
def gE:hp xs k=true↔k∈xs.map (·.pt):=do@hp;[yz];1;({x,a,h});qf.mpr {x,a,qO h};(h);{x,a,h}:=qf.mp h;{x,a,qI h}
def Ls(xs:List Pc)(r:Pc):(g_ xs r).map (·.pt)=if hp xs r.pt=true then xs.map (·.pt) else xs.map (·.pt)++[r.pt]:=do@g_;h<|hp xs r.pt=true;[qF h,qF h,z9];yu λx _=>?_;¬(if x.pt=r.pt then r else x).pt=x.pt;z<|x.pt=r.pt;[qF z,z];[qB z];[qB h,qB h,z7];2
def N3(h:x∈g_ xs r):x=r\/(x∈xs/\x.pt≠r.pt):=do(by unfold g_ at h);q<|hp xs r.pt=true;h←[qF q];{y,a,rfl}:=qf.mp h;z<|y.pt=r.pt;[qF z];.inl rfl;[qB z];.inr {a,z};h←[qB q];z||z:=zh.mp h;.inr ⟨z,λe=>q (gE.mpr (e▸qf.mpr ⟨x,z,O⟩))⟩;.inl (qx.mp z)
theorem Aw(rs:List Pc):((tl rs).map (·.pt)).Nodup:=by
 rcases jb rs with rfl|⟨us,r,rfl⟩
 .exact vi
 .rw[jc,qV,Ls]
  have c:=Aw us
  split
  .exact c
  .rename_i h
   rw[wt];exact{c,z6.mpr {(λz=>nomatch z),vi},λa d b f e=>h (gE.mpr (by rw[←qx.mp f,←e];exact d))}
termination_by rs.length
decreasing_by all_goals (subst_vars;simp)
theorem uR(h:x∈tl rs):x∈rs:=by
 rcases jb rs with rfl|⟨us,r,rfl⟩
 .exact h
 .rw[jc]at h ⊢
  rw[qV]at h;rcases N3 h with rfl|⟨z,_⟩
  .exact zy _ (qx.mpr rfl)
  .exact wg _ (uR z)
termination_by rs.length
decreasing_by all_goals (subst_vars;simp)
theorem xh(rs:List Pc):(tl rs).length<=rs.length:=by
 rcases jb rs with rfl|⟨us,r,rfl⟩
 .exact qe _
 .rw[jc,qV]
  have a:=xh us;have e:=congrArg List.length (Ls (tl us) r);rw[qj]at e;rw[e,qi,qt]
  split
  .rw[qj];omega
  .rw[qi,qj,qt];omega
termination_by rs.length
decreasing_by all_goals (subst_vars;simp)
def EK(R:V->Pc->Prop)(H:Hp)(e:KD×V×V)(x:Pc):Prop:=e.1=.tup x.pt/\GK H (.tup x.pt) e.2.1/\R e.2.2 x
def EK.imp(h:EK R H e x)(t:ai H H')(f:R e.2.2 x->R' e.2.2 x):EK R' H' e x:={h.1,h.2.1.ab t,f h.2.2}
section
variable {R:V->Pc->Prop}{H:Hp}{kvs:List (KD×V×V)}{xs:List Pc}
def Q5(h:AL (EK R H) kvs xs):kvs.map (·.1)=(xs.map (·.pt)).map KD.tup:=do(by apply yc);(m);[qu,qu,qu];(by cases e:kvs[m]? with|none|some v=>?_);this:xs[m]?=none:=v9 (do[←h.1];mz.mp e);[this];2;{r,a,p}:=h.at e;[a];¬some v.1=!(KD.tup r.pt);[p.1]
def xV(h:KD.tup a=KD.tup b):a=b:=by injection h
def xH(h:AL (EK R H) kvs xs)(hn:(xs.map (·.pt)).Nodup):(kvs.map (·.1)).Nodup:=do[Q5 h];List.Pairwise.map _ (λa b c z=>c (xV z)) hn
def pj(h:AL (EK R H) kvs xs)(hn:(xs.map (·.pt)).Nodup)(c:x∈xs):∃v,vG kvs (.tup x.pt)=!v/\R v x:=do _;{m,a,rfl}:=z8.mp c;{e,b,p}:=h.at' (qh a);{e.2.2,pQ (xH h hn) b p.1,p.2.2}
def NC(h:AL (EK R H) kvs xs)(b:k∉xs.map (·.pt)):vG kvs (.tup k)=none:=mD λe a z=>do _;{r,c,p}:=h.mem a;z←[p.1];b (qf.mpr {r,c,xV z})
def Ed(h:AL (EK R H) kvs xs)(hn:(xs.map (·.pt)).Nodup):(vG kvs (.tup k)).isSome=hp xs k:=do a<|hp xs k=true;{x,b,rfl}:=qf.mp (gE.mp a);{v,c,_}:=pj h hn b;[c,a];2;[NC h (λz=>a (gE.mpr z)),gj.mpr a];2
def Cd(h:AL (EK R H) kvs xs)(hn:(xs.map (·.pt)).Nodup)(k:GK H (.tup r.pt) y)(g:R v r):AL (EK R H) (pG kvs (.tup r.pt) y v) (g_ xs r):=do(by unfold pG g_);[Ed h hn];a<|hp xs r.pt=true;[qF a,qF a];{do[qj,qj,h.1],λm e x f j=>?_};(by rw[qu]at f j);{l,d,rfl}:=wj.mp f;{i,c,rfl}:=wj.mp j;{b,p2,n}:=h.2 m l i d c;z<|i.pt=r.pt;[qF (do[b,z]),qF z];{do[←z];b,do[←z];p2,g};[qB (do[b];λy=>z (xV y)),qB z];{b,p2,n};[qB a,qB a];h.snoc {O,k,g}
end
def BT(H:Hp)(v:V):Prop:=∃b vn a x y,v=.ref b/\H b=!(.tup [vn,a])/\GK H (.tup x) vn/\Nm x/\GK H (.tup y) a/\Pn y
theorem BT.ab(h:BT H v)(t:ai H H'):BT H' v:=do _;{b,vn,a,x,y,e,h1,h2,f,d,c}:=h;{b,vn,a,x,y,e,t _ _ h1,h2.ab t,f,d.ab t,c}
def BT.eQ(h:BT H v):lU H v:=do _;{b,vn,g,x,y,rfl,h1,h2,c,e,f}:=h;pJ h1 (.cons (aK h2) (.cons (aK e) .nil)) λd a=>?_;(by ac_nf at a);rfl||rfl:=a;cm c.lay;cm f.lay
def CT(H:Hp)(v:V)(k:List Key):Prop:=∃b a vn y,v=.ref b/\H b=!(.tup [a,vn])/\GK H (.tup k) a/\Pn k/\GK H (.tup y) vn/\Nm y
theorem CT.ab(h:CT H v k)(t:ai H H'):CT H' v k:=do _;{b,a,vn,y,e,h1,h2,f,d,c}:=h;{b,a,vn,y,e,t _ _ h1,h2.ab t,f,d.ab t,c}
def CT.eQ(h:CT H v k):lU H v:=do _;{b,g,vn,y,rfl,h1,h2,c,e,f}:=h;pJ h1 (.cons (aK h2) (.cons (aK e) .nil)) λd a=>?_;(by ac_nf at a);rfl||rfl:=a;cm c.lay;cm f.lay
structure qW(H:Hp)(bs vs cs:List V)(rs:List Pc)(cu:List (List Key))(k:Nat):Prop where
 bt:∀v∈bs,BT H v
 pc:AL (fB H) vs rs
 ct:AL (CT H) cs cu
 w:∀r∈rs,vE r
 up:rs.Pairwise λa b=>bV a.ka a.kb b.ka b.kb
 bl:bs.length<=k
 vl:vs.length<=k
 cl:cs.length<=k
theorem qW.ab{bs vs cs:List V}(h:qW H bs vs cs rs cu k)(t:ai H H'):qW H' bs vs cs rs cu k := {λv a=>(h.bt v a).ab t,h.pc.imp λv r p=>p.ab t,h.ct.imp λv r p=>p.ab t,h.w,h.up,h.bl,h.vl,h.cl}
def qW.place{bs vs cs:List V}(h:qW H bs vs cs rs cu k)(e:fB H v r)(g:vE r)(lt:∀x∈rs,bV x.ka x.kb r.ka r.kb)(i:vs.length<k):qW H bs (vs++[v]) cs (rs++[r]) cu k := {h.bt,h.pc.snoc e,h.ct,λx d=>do z||z:=zh.mp d;h.w x z;[qx.mp z];g,bj.mpr {h.up,m3 _ _,λa c b f=>do[qx.mp f];lt a c},h.bl,do[qi,qt];(),h.cl}
structure FB(H:Hp)(fa:Sx)(F:Nat->Sx)(bs vs cs:List V)(rs:List Pc)(cu:List (List Key))(k:Nat):Prop where
 dk:Rd H fa (.dK (cE F 9))
 inj:∀i,i<9->∀j,j<9->F i=F j->i=j
 rest:∀i,i<9->3<=i->∃xs,H (F i)=!(.lst xs)
 eb:H (F 0)=!(.lst bs)
 ev:H (F 1)=!(.lst vs)
 ec:H (F 2)=!(.lst cs)
 fi:qW H bs vs cs rs cu k
theorem FB.same{bs vs cs:List V}(h:FB H fa F bs vs cs rs cu k)(s:af H H'):FB H' fa F bs vs cs rs cu k := {Rd.same h.dk s,h.inj,λi h1 h2=>let⟨xs,e⟩:=h.rest i h1 h2;{xs,s _ _ e},s _ _ h.eb,s _ _ h.ev,s _ _ h.ec,h.fi.ab s.ab}
def G9(bs vs cs:List V)(i:Nat):List V:=if i=0 then bs else if i=1 then vs else if i=2 then cs else[]
theorem qW.eQ{bs vs cs:List V}(h:qW H bs vs cs rs cu k)(i:Nat):∀z∈G9 bs vs cs i,lU H z:=λz hz=>do(by unfold G9 at hz);h0<|i=0;hz←[qF h0];(h.bt z hz).eQ;h1<|i=1;hz←[qB h0,qF h1];{r,a,p}:=h.pc.mem hz;p.eQ (h.w r a);h2<|i=2;hz←[qB h0,qB h1,qF h2];{r,a,p}:=h.ct.mem hz;p.eQ;hz←[qB h0,qB h1,qB h2];nomatch hz
structure KP(H:Hp)(kp:Sx)(ps:List V)(C:Nat->Sx)(xs:Nat->List V):Prop where
 ek:H kp=!(.lst ps)
 pr:j2 H ps (cE C 9)
 at_:∀i,i<9->H (C i)=!(.lst (xs i))
def hV(a:Nat->List Sw):Sw:=.list ((List.range 9).map λi=>.tuple [kP (kN i),.list (a i)])
def Ly:∀i,i<9->(kP (kN i)).canLay0=true/\PyData.eqv (kP (kN i)) (kP (kN i))=true/\(kP (kN i)).depth<=0:=∅
def II:∀k:Key,DV H (kV k) (kP k)|.inl i=>.int i|.inr z=>.str z
def MB(h:∀i,∀d∈a i,d.canLay0=true/\sk d d=true/\d.depth<=5):(hV a).canLay0=true/\PyData.eqv (hV a) (hV a)=true/\(hV a).depth<=8:=do one:∀d∈(List.range 9).map (λi=>PyData.tuple [kP (kN i),.list (a i)]),d.canLay0=true/\PyData.eqv d d=true/\d.depth<=7:=λd b=>(do _;{i,hi,rfl}:=qf.mp b;{j,g,k}:=Ly i (qo.mp hi);o:=RK (h i);{?_,?_,?_};¬((kP (kN i)).canLay0&&((PyData.list (a i)).canLay0&&true))=true;[j,o.lay];2;¬(PyData.eqv (kP (kN i)) (kP (kN i))&&(PyData.eqv (.list (a i)) (.list (a i))&&true))=true;[g,o.self];2;this:=o.deep;¬max (kP (kN i)).depth (max (PyData.list (a i)).depth 0)+1<=7;());all:∀l:List Sw,(∀d∈l,d.canLay0=true/\PyData.eqv d d=true/\d.depth<=7)->PyData.eqvAll l l=true:=λl=>(do(by induction l with|nil|cons d l f=>?_);(_);2;(c);¬(PyData.eqv d d&&PyData.eqvAll l l)=true;[(c d qm).2.1,f λx e=>c x (qy _ e)];2);{dH λd b=>(one d b).1,all _ one,?_};this:=gR λd b=>(one d b).2.2;¬PyData.depthAll _+1<=8;()
theorem KP.dv{kp:Sx}(h:KP H kp ps C xs)(e:∀i,i<9->cz H (xs i) (c i)):DV H (.ref kp) (hV c):=do m:∀(l:List Nat) (ps:List V),(∀i∈l,i<9)->j2 H ps (l.map λi=>(kN i,V.ref (C i)))->dU H ps (l.map λi=>PyData.tuple [kP (kN i),.list (c i)]):=λl=>(do(by induction l with|nil|cons i l k=>?_);(ps,_,a);(by cases ps with|nil|cons p ps=>?_);.nil;a.elim;(ps,d,a);(by cases ps with|nil|cons p ps=>?_);a.elim;{{b,rfl,g},a}:=a;hi:=d i qm;.cons (.tup (aV.of g) (.cons (II _) (.cons (.lst (az.of (h.at_ i hi)) (e i hi).dv) .nil))) (k ps (λj f=>d j (qy _ f)) a));.lst (az.of h.ek) (m _ _ (λi hi=>qo.mp hi) h.pr)
open Classical in
noncomputable def bP(H:Hp)(S:Sx->Prop):Hp:=λb=>if S b then none else H b
section
open Classical
variable {H H':Hp}{S:Sx->Prop}
def dS(h:S b):bP H S b=none:=qF h
def eg(h:¬S b):bP H S b=H b:=qB h
def tJ:af (bP H S) H:=λb o e=>do h<|S b;e←[dS h];-e;e←[eg h];e
def de(s:af (bP H S) H')(e:H b=!o)(h:¬S b):H' b=!o:=s _ _ (do[eg h];e)
def OO(s:af (bP H S) H')(h:∀b,S b->∀xs,H b≠some (.tup xs)):ai H H':=λb xs e=>de s e λz=>h b z xs e
def Qm(h:H b=none):bP H S b=none:=do z<|S b;dS z;[eg z];h
end
def Q_(h:bV a b c d):HT.lexLt [a,b] [c,d]=true:=do[HT.eM,HT.eM];h||{rfl,h}:=h;[qB ()];qI h;[qF rfl,qB ()];qI h
end My
namespace Rnd
variable {α:Type}
structure WO(g:α->Option α)(E:α->Prop)(p:α)(ini:List α)(las:α):Prop where
 hd:(ini++[las]).head?=!p
 ch:∀(i:Nat) a b,(ini++[las])[i]?=!a->(ini++[las])[i+1]?=!b->g a=!b
 nd:ini.Nodup
 out:∀a∈ini,¬E a
 en:las∈ini\/(las∉ini/\(g las=none\/E las))
section
variable {g:α->Option α}{E:α->Prop}{p las:α}{ini:List α}
def WO.F8(w:WO g E p ini las)(h:a∈ini):g a≠none:=λz=>do _;{i,hi,rfl}:=z8.mp h;c:(ini++[las])[i]?=some ini[i]:=(do[zv hi,qh hi]);b:i+1<(ini++[las]).length:=(do[qi,qt];());this:=w.ch i _ _ c (qh b);this←[z];-this
end
end Rnd
namespace My
open PySem L2 PyProof.Rows
def fX(xs:List Pc)(k:List Key):Option Pc:=xs.find? λx=>decide (x.pt=k)
def gX(xs:List Pc)(k:List Key):Option (List Key):=(fX xs k).map (·.ou)
def Mh(xs:List Pc)(a b:List Key):Prop:=∃x y,fX xs a=!x/\fX xs b=!y/\bV x.ka x.kb y.ka y.kb
section
variable {xs:List Pc}
def rB(h:fX xs k=!x):x∈xs/\x.pt=k:={List.mem_of_find?_eq_some h,do 0<|List.find?_some h}
def lM(hn:(xs.map (·.pt)).Nodup)(h:x∈xs):fX xs x.pt=!x:=do(by induction xs with|nil|cons y xs a=>?_);-h;hn←[zn,z6];@fX;[yd];z<|y.pt=x.pt;[qI z];rfl||h:=q0.mp h;2;absurd (qf.mpr ⟨x,h,z.symm⟩) hn.1;[decide_eq_false z];rfl||h:=q0.mp h;absurd rfl z;a hn.2 h
def OC(h:k∉xs.map (·.pt)):fX xs k=none:=jw.mpr λx a z=>h (qf.mpr {x,a,qO z})
def yM(k:List Key):(fX xs k).isSome=hp xs k:=do(by cases q:fX xs k with|some x|none=>?_);{h1,h2}:=rB q;[gE.mpr (qf.mpr {x,h1,h2})];2;(by cases z:hp xs k with|false|true=>?_);2;{x,a,e}:=qf.mp (gE.mp z);absurd (List.find?_eq_none.mp q x a) (do#[e])
def nO:gX xs k≠none↔hp xs k=true:=do[←yM];@gX;by cases fX xs k <;> simp
def rG(h:gX xs k=!o):∃x∈xs,x.pt=k/\x.ou=o:=do _;{x,h1,h2}:=wj.mp h;{x,(rB h1).1,(rB h1).2,h2}
def ON(h:k∉xs.map (·.pt)):gX xs k=none:=do@gX;[OC h];2
end
structure XW(xs:List Pc):Prop where
 nd:(xs.map (·.pt)).Nodup
 w:∀x∈xs,vE x
 A1:∀x∈xs,∀y∈xs,x=y\/bV x.ka x.kb y.ka y.kb\/bV y.ka y.kb x.ka x.kb
 cJ:xs.length<=100
def HL(a b:Int):¬bV a b a b:=do@bV;()
def JO(h:bV a b c d)(g:bV c d e f):bV a b e f:=by unfold bV at *;omega
section
variable {xs:List Pc}
def XW.Su(W:XW xs)(a b:List Key)(e:gX xs a≠none)(f:gX xs b≠none):a=b\/Mh xs a b\/Mh xs b a:=do _;{x,c,rfl}:=qf.mp (gE.mp (nO.mp e));{y,d,rfl}:=qf.mp (gE.mp (nO.mp f));rfl||h||h:=W.A1 x c y d;.inl rfl;.inr (.inl ⟨x,y,lM W.nd c,lM W.nd d,h⟩);.inr (.inr ⟨y,x,lM W.nd d,lM W.nd c,h⟩)
def XW.pn(W:XW xs)(h:gX xs k=!o):Pn o:=do _;{x,a,_,rfl}:=rG h;(W.w x a).ou
end
def Bk{rs:List Pc}(h:rs.Pairwise λa b=>bV a.ka a.kb b.ka b.kb){x y:Pc}(d:x∈rs)(e:y∈rs):x=y\/bV x.ka x.kb y.ka y.kb\/bV y.ka y.kb x.ka x.kb:=do _;{i,hi,rfl}:=z8.mp d;{j,c,rfl}:=z8.mp e;hp:=jv.mp h;z||z||z:=Nat.lt_trichotomy i j;.inr (.inl (hp i j hi c z));!z;.inl rfl;.inr (.inr (hp j i c hi z))
def Gj(d:∀r∈rs,vE r)(up:rs.Pairwise λa b=>bV a.ka a.kb b.ka b.kb)(e:rs.length<=100):XW (tl rs) := {Aw rs,λx c=>d x (uR c),λx c y f=>Bk up (uR c) (uR f),qg (xh rs) e}
open Classical in
noncomputable def ef(T:List Key->Prop)(x:Pc):Pc:=if T x.pt then{ x with ou:=bE } else x
section
variable {T:List Key->Prop}{xs:List Pc}
def vT(x:Pc):(ef T x).pt=x.pt:=do@ef;by split <;> rfl
def Om(h:T x.pt):ef T x={x with ou:=bE}:=do@ef;[qF h]
def EJ(h:¬T x.pt):ef T x=x:=do@ef;[qB h]
def zC(w:vE x):vE (ef T x):=do@ef;3;{w.pt,.inl rfl,w.nm};w
def LP(l:List Pc):(l.map (ef T)).map (·.pt)=l.map (·.pt):=do[z9];yu λx _=>vT x
end
def iH(H:Hp)(v:V)(k:List Key):Prop:=GK H (.tup k) v
def pW(H:Hp)(v:V)(x:Pc):Prop:=GK H (.tup x.ou) v
theorem pW.ab(h:pW H v x)(t:ai H H'):pW H' v x:=GK.ab h t
theorem iH.ab(h:iH H v k)(t:ai H H'):iH H' v k:=GK.ab h t
def SM(kvs:List (KD×V×V))(S:List Key->Prop):Prop:=∀k,(vG kvs (.tup k)).isSome=true↔S k
def SM.nil:SM [] (λ_=>False):=λk=>{λz=>absurd z qr,λz=>z.elim}
def SM.put{S S':List Key->Prop}(h:SM kvs S)(y v:V)(a:∀k,S' k↔(k=p\/S k)):SM (pG kvs (.tup p) y v) S':=λk=>do[eL,a];z<|k=p;!z;[qF rfl];{λ_=>.inl rfl,λ_=>rfl};[qB (λy=>z (xV y)),h k];{.inr,λy=>y.resolve_left z}
def SM.yes{S:List Key->Prop}(h:SM kvs S)(a:S k):(vG kvs (.tup k)).isSome=true:=(h k).mpr a
def SM.no{S:List Key->Prop}(h:SM kvs S)(a:¬S k):(vG kvs (.tup k)).isSome=false:=gj.mpr λz=>a ((h k).mp z)
def Bl(h:AL (EK R H) kvs xs)(hn:(xs.map (·.pt)).Nodup):(vG kvs (.tup k)).isSome=(gX xs k).isSome:=do[Ed h hn,←yM];@gX;by cases fX xs k <;> rfl
def Qh{A:List Pc}(h:r.pt∉A.map (·.pt)):g_ A r=A++[r]:=do@g_;[qB λz=>h (gE.mp z)]
def Pb{l:List (List Key)}{xs:List Pc}(hn:l.Nodup)(h:∀a∈l,hp xs a=true):l.length<=xs.length:=by have:l.length<=(xs.map (·.pt)).length:=(do sub:∀(l m:List (List Key)),l.Nodup->(∀a∈l,a∈m)->l.length<=m.length:=λl=>(do(by induction l with|nil|cons a l g=>?_);(m,_,_);qv _;(m,hn,c);{A,B,e}:=bn (c a qm);this:=g (A++B) (z6.mp hn).2 λb d=>(do h1:=c b (qy _ d);h1←[e];z||z:=zh.mp h1;wg _ z;rfl||z:=q0.mp z;absurd d (z6.mp hn).1;zy _ z);[e,qi,zd];this←[qi];[zd];());sub l _ hn λa f=>gE.mp (h a f));rwa [qj]at this
def f6(h:n<=100000):n<sizeLine:=do[sizeLine_eq];()
def wQ{β α:Type}{P:β->α->Prop}{ws:List β}{ini:List α}{las:α}(h:AL P ws (ini++[las])):∃us v,ws=us++[v]/\AL P us ini/\P v las:=do a:=h.1;a←[qi,qt];z||{us,v,z}:=jb ws;a←[z];absurd a (do 0);z←[jc];!z;d:us.length=ini.length:=(do a←[qi,qt];());{us,v,O,{d,λm v r b c=>h.2 m v r ?_ ?_},h.2 us.length v las (do 0) (do[d];0)};[zv (qk.mp b).1];b;[zv (qk.mp c).1];c
def OU{β α:Type}{P:β->α->Prop}{ws:List β}{ls:List α}(h:AL P ws ls)(r:Nat):AL P (ws.drop r) (ls.drop r) := {do[yf,yf,h.1],λm v k a b=>do(by rw[bp]at a b);h.2 _ v k a b}
def MV{a:Sx}{kvs:List (KD×V×V)}{H:Hp}{R:It->Hp->Prop}(r:Rd H a (.dG kvs))(k:∀(o:Obj) (Y:Hp),(∀b u,b≠a->H b=!u->Y b=!u)->(∀b,Y b=none->H b=none)->Y a=!(.cI o (.dG kvs))->R (vB a o kvs) Y) : (H a=!(.dG kvs)/\∀o,R (vB a o kvs) (upd H a (.cI o (.dG kvs))))\/∃o,H a=!(.cI o (.dG kvs))/\R (vB a o kvs) H:=do e||{o,e}:=r;.inl ⟨e,λo=>k o _ (λb u n e=>do[ak n];e) (λb q=>?_) aB⟩;z<|b=a;!z;q←[aB];-q;q←[ak z];q;.inr {o,e,k o H (λ_ _ _ e=>e) (λ_ e=>e) e}
def su{a:Sx}{kvs:List (KD×V×V)}{H:Hp}{R:It->Hp->Prop}(r:Rd H a (.dG kvs))(k:∀(o:Obj) (Y:Hp),(∀b u,b≠a->H b=!u->Y b=!u)->(∀b,Y b=none->H b=none)->Y a=!(.cI o (.dG kvs))->R (sG a o kvs) Y) : (H a=!(.dG kvs)/\∀o,R (sG a o kvs) (upd H a (.cI o (.dG kvs))))\/∃o,H a=!(.cI o (.dG kvs))/\R (sG a o kvs) H:=do e||{o,e}:=r;.inl ⟨e,λo=>k o _ (λb u n e=>do[ak n];e) (λb q=>?_) aB⟩;z<|b=a;!z;q←[aB];-q;q←[ak z];q;.inr {o,e,k o H (λ_ _ _ e=>e) (λ_ e=>e) e}
def Ri{us:List V}{v:V}{r:Nat}(h:r<=us.length):d6 (us++[v]) (!(r:Int)) (!(-1))=us.drop r:=do@d6;[HT.oQ];e:HT.b_ (us++[v]).length (us++[v]).length (!(-1))=us.length:=(do@HT.b_;[qi,qt];#[_,show((-1:Int)<0) from ⋯,if_true];());[e,qi,qt,Nat.min_eq_left (),List.drop_append_of_le_length h];[List.take_append_of_le_length (do[yf];qe _),yr (do[yf];qe _)]
def OE(h:AL (iH H) ws ls):cz H ws (ls.map tD):=AL.lW (λ_ _ z=>aK z) h
def OD(ls:List (List Key))(k:List Key):((ls.map tD).countP λd=>PyData.eqv d (tD k))=ls.countP λa=>decide (a=k):=do[List.countP_map];List.countP_congr λa _=>do¬(PyData.eqv (tD a) (tD k)=true↔_);[hP]
def Ig(hn:ini.Nodup):((((ini++[las]).map tD).countP λd=>PyData.eqv d (tD las))>1)↔las∈ini:=do[OD,List.countP_append];h1:List.countP (λa=>decide (a=las)) [las]=1:=(do 0);[h1];1;(h);this:0<List.countP (λa=>decide (a=las)) ini:=();{a,b,e}:=bu.mp this;[←qO e];b;(h);this:0<List.countP (λa=>decide (a=las)) ini:=bu.mpr {las,h,qI rfl};()
structure WP(g:List Key->Option (List Key))(E:List Key->Prop)(p:List Key)(ini:List (List Key))(las:List Key):Prop where
 hd:(ini++[las]).head?=!p
 ch:∀(i:Nat) a b,(ini++[las])[i]?=!a->(ini++[las])[i+1]?=!b->g a=!b
 nd:(ini++[las]).Nodup
 out:∀a∈ini,¬E a
section
variable {g:List Key->Option (List Key)}{E:List Key->Prop}{p las o:List Key}{ini:List (List Key)}
def WP.one:WP g E p [] p:={O,λi a b h1 h2=>do h2←0,List.nodup_cons.mpr {(λz=>nomatch z),List.nodup_nil},λa z=>nomatch z}
def WP.RG(w:WP g E p ini las):ini.Nodup:=(wt.mp w.nd).1
def WP.Cc(w:WP g E p ini las):las∉ini:=λz=>(wt.mp w.nd).2.2 las z las (qx.mpr rfl) rfl
def WP.stop(w:WP g E p ini las)(h:g las=none\/E las):Rnd.WO g E p ini las:={w.hd,w.ch,w.RG,w.out,.inr {w.Cc,h}}
def WP.hd2(w:WP g E p ini las)(o:List Key):((ini++[las])++[o]).head?=!p:=do this:=w.hd;[List.head?_append,this];2
def WP.RF(w:WP g E p ini las)(e:g las=!o):∀(i:Nat) a b,((ini++[las])++[o])[i]?=!a->((ini++[las])++[o])[i+1]?=!b->g a=!b:=λi a b h1 h2=>do d:(ini++[las]).length=ini.length+1:=(do[qi,qt]);z<|i+1<(ini++[las]).length;h1←[zv ()];h2←[zv z];w.ch i a b h1 h2;c:=(qk.mp h2).1;c←[qi,qt];hi:i=ini.length:=();!hi;h1←[zv ()];h2←[ye ()];h1:las=a:=(do 0<|h1);h2:o=b:=(by simpa[d] using h2);[←h1,←h2];e
def WP.again(w:WP g E p ini las)(e:g las=!o)(c:¬E las)(h:o∈ini++[las]):Rnd.WO g E p (ini++[las]) o:={w.hd2 o,w.RF e,w.nd,λa b=>do z||z:=zh.mp b;w.out a z;[qx.mp z];c,.inl h}
def WP.on(w:WP g E p ini las)(e:g las=!o)(d:¬E las)(h:o∉ini++[las]):WP g E p (ini++[las]) o:={w.hd2 o,w.RF e,wt.mpr {w.nd,z6.mpr {(λz=>nomatch z),vi},λa c b f z=>h (do[←qx.mp f,←z];c)},λa c=>do z||z:=zh.mp c;w.out a z;[qx.mp z];d}
def WP.F8(w:WP g E p ini las)(h:a∈ini):g a≠none:=λz=>do _;{i,hi,rfl}:=z8.mp h;c:(ini++[las])[i]?=some ini[i]:=(do[zv hi,qh hi]);b:i+1<(ini++[las]).length:=(do[qi,qt];());this:=w.ch i _ _ c (qh b);this←[z];-this
def WP.fits(w:WP (gX ys) E p ini las):ini.length<=ys.length:=Pb w.RG λa b=>nO.mp (w.F8 b)
end
def P5(g:TG)(tb:TS)(D:Ends)(σ:L2.St)(J:It)(H1:Hp):Prop:=∃W:Nat->Nat->L2.St->Hp->Prop,(∃m,W 0 m σ H1)/\∀i m σ H,W i m σ H-> (J.stop i H/\D.nx σ H)\/(J.go i H/\∃N:L2.St->Hp->Prop,(∀σ' H',N σ' H'->∃b,b<m/\W (i+1) b σ' H')/\∀x H',J.wM i H x H'->g x σ H' λa H2=>tb {D with nx:=N,ct:=N,bk:=D.nx} a H2)
def GW{g:TG}(h:a σ H (P5 g tb D σ)):Fx a g tb D σ H:=h
def mZ(e:H a=!o)(c:∀ys,o≠.tup ys)(s:af (del H a) H'):ai H H':=λb xs q=>s _ _ (do[bR (λz=>do q←[z,e];c xs (qJ q))];q)
def nd:List Key->KD|[]=>.aQ|a::r=>.tup (a::r)
def lN(h:k≠[]):nd k=.tup k:=do(by cases k with|nil|cons a r=>?_);absurd rfl h;2
def pz(h:nd a=nd b):a=b:=by cases a with|nil|cons a r=>?_;cases b with|nil|cons b r=>?_;rfl;cases h;cases b with|nil|cons b q=>?_;cases h;injection h
def Nm.ne(h:Nm k):k≠[]:=do _;{w,x,rfl,_}:=h;λz=>nomatch z
def Pn.ne(h:Pn k):k≠[]:=do _;{w,x,rfl}:=h.two;λz=>nomatch z
def Qn(k:List Key):Prop:=k=[]\/Pn k
def AZ(H:Hp)(v:V)(k:List Key):Prop:=GK H (nd k) v
def gT(H:Hp)(v:V)(x:Pc):Prop:=GK H (nd x.ou) v
theorem gT.ab(h:gT H v x)(t:ai H H'):gT H' v x:=GK.ab h t
theorem AZ.ab(h:AZ H v k)(t:ai H H'):AZ H' v k:=GK.ab h t
def h9(h:k≠[])(g:GK H (.tup k) v):GK H (nd k) v:=do[lN h];g
def Hf(h:k≠[])(g:GK H (nd k) v):GK H (.tup k) v:=do g←[lN h];g
def fy(kvs:List (KD×V×V))(S:List Key->Prop):Prop:=∀k,(vG kvs (nd k)).isSome=true↔S k
def fy.nil:fy [] (λ_=>False):=λk=>{λz=>absurd z qr,λz=>z.elim}
def fy.put{S S':List Key->Prop}(h:fy kvs S)(y v:V)(a:∀k,S' k↔(k=p\/S k)):fy (pG kvs (nd p) y v) S':=λk=>do[eL,a];z<|k=p;!z;[qF rfl];{λ_=>.inl rfl,λ_=>rfl};[qB (λy=>z (pz y)),h k];{.inr,λy=>y.resolve_left z}
def fy.NZ{S S':List Key->Prop}(h:fy kvs S)(hp:p≠[])(y v:V)(a:∀k,S' k↔(k=p\/S k)):fy (pG kvs (.tup p) y v) S':=do[←lN hp];h.put y v a
def fy.yes{S:List Key->Prop}(h:fy kvs S)(a:S k):(vG kvs (nd k)).isSome=true:=(h k).mpr a
def fy.no{S:List Key->Prop}(h:fy kvs S)(a:¬S k):(vG kvs (nd k)).isSome=false:=gj.mpr λz=>a ((h k).mp z)
section
variable {R:V->Pc->Prop}{H:Hp}{kvs:List (KD×V×V)}{xs:List Pc}{k:List Key}
def C2(hz:∀x∈xs,x.pt≠[]):gX xs []=none:=ON λz=>do _;{x,a,e}:=qf.mp z;hz x a e
def Bz(h:AL (EK R H) kvs xs)(hn:(xs.map (·.pt)).Nodup)(hz:∀x∈xs,x.pt≠[]):(vG kvs (nd k)).isSome=(gX xs k).isSome:=do e<|k=[];!e;[C2 hz,show nd []=KD.aQ from rfl,mD λe a z=>?_];2;{r,_,p}:=h.mem a;z←[p.1];-z;[lN e];Bl h hn
def KI(h:AL (EK (gT H) H) kvs xs)(hn:(xs.map (·.pt)).Nodup)(hz:∀x∈xs,x.pt≠[])(e:gX xs k=!o):∃v,vG kvs (nd k)=!v/\GK H (nd o) v:=do _;{x,a,rfl,rfl}:=rG e;[lN (hz x a)];pj h hn a
end
theorem Ja{α:Type}:∀(l m:List α),l.Nodup->(∀a∈l,a∈m)->l.length<=m.length|[],m,_,_=>qv _|a::l,m,hn,hs=>do _;{A,B,e}:=bn (hs a qm);this:=Ja l (A++B) (z6.mp hn).2 λb c=>(do h1:=hs b (qy _ c);h1←[e];z||z:=zh.mp h1;wg _ z;rfl||z:=q0.mp z;absurd c (z6.mp hn).1;zy _ z);[e,qi,zd];this←[qi];[zd];()
def nodes(ys:List Pc):List (List Key):=bE::(ys.map (·.pt)++ys.map (·.ou))
def Pk(h:x∈ys):x.pt∈nodes ys:=qy _ (wg _ (qf.mpr {x,h,O}))
def NR(h:gX ys k=!o):o∈nodes ys:=do _;{x,a,_,rfl}:=rG h;qy _ (zy _ (qf.mpr {x,a,O}))
section
variable {H H':Hp}{ys:List Pc}{f:List Key->Option Bool}{kr:List (KD×V×V)}
def NV{α β:Type}(kvs:List (KD×α×β))(k:KD)(y:α)(v:β):(pG kvs k y v).map (·.1)=if(vG kvs k).isSome=true then kvs.map (·.1) else kvs.map (·.1)++[k]:=do@pG;h<|(vG kvs k).isSome=true;[qF h,qF h,z9];yu λe _=>?_;¬(if e.1=k then(e.1,e.2.1,v) else e).1=e.1;(by split <;> rfl);[qB h,qB h,z7];2
def O0{α β:Type}{kvs:List (KD×α×β)}(h:(kvs.map (·.1)).Nodup)(k:KD)(y:α)(v:β):((pG kvs k y v).map (·.1)).Nodup:=do[NV];q<|(vG kvs k).isSome=true;[qF q];h;[qB q,wt];hn:vG kvs k=none:=(do(by cases z:vG kvs k with|none|some u=>?_);2;q←[z];absurd rfl q);{h,z6.mpr {(λz=>nomatch z),vi},λa c b f e=>?_};{x,d,rfl}:=qf.mp c;nM hn x d (e.trans (qx.mp f))
def IK{α β:Type}{kvs:List (KD×α×β)}{k:KD}{y:α}{v:β}{e:KD×α×β}(h:e∈pG kvs k y v):(e=(k,y,v))\/∃a∈kvs,a.1=e.1/\a.2.1=e.2.1:=do(by unfold pG at h);q<|(vG kvs k).isSome=true;h←[qF q];{a,b,rfl}:=qf.mp h;.inr {a,b,?_};z<|a.1=k;[qF z];{O,O};[qB z];{O,O};h←[qB q];z||z:=zh.mp h;.inr ⟨e,z,O,O⟩;.inl (qx.mp z)
end
open Classical in
noncomputable def lfp(cu:List (List Key))(x:Pc):Bool:=decide (x.pt∉cu)
def Ho(h:x.pt∉cu):lfp cu x=true:=do@lfp;0<|h
def HI(h:x.pt∈cu):lfp cu x=false:=do@lfp;0<|h
def IY{es:List (KD×V×V)}:∀{ks:List (List Key)} {xs:List (KD×V×V)} {S:List Key->Prop},AL (λe k=>e.1=nd k) es ks->fy xs S->fy (putAll xs es) (λk=>S k\/k∈ks):=do(by induction es with|nil|cons e es b=>?_);(ks,xs,S,h,g);(by cases ks with|nil|cons k ks=>?_);λk=>(g k).trans {.inl,λz=>z.resolve_right (λy=>nomatch y)};h.none.elim;(ks,xs,S,h,g);(by cases ks with|nil|cons k ks=>?_);h.nothing.elim;h1:=b (xs:=pG xs e.1 e.2.1 e.2.2) (S:=λa=>a=k\/S a) h.tail (do[h.head];g.put _ _ λa=>Iff.rfl);λa=>(h1 a).trans ?_;¬(((a=k\/S a)\/a∈ks)↔(S a\/a∈k::ks));[q0];1;((z||z)||z);.inr (.inl z);.inl z;.inr (.inr z);(z||z||z);.inl (.inr z);.inl (.inl z);.inr z
theorem x8{β α:Type}{P:β->α->Prop}:∀{vs:List β},(∀v∈vs,∃r,P v r)->∃rs,AL P vs rs|[],_=>{[],.nil}|v::vs,h=>do _;{r,b}:=h v qm;{rs,h2}:=x8 λx a=>h x (qy _ a);{r::rs,.cons b h2}
theorem KL{β α a:Type}{P:β->α->Prop}{f:β->a}{g:α->a}:∀{vs:List β} {rs:List α},AL P vs rs->(∀v r,P v r->f v=g r)->vs.map f=rs.map g|[],[],_,_=>rfl|[],_::_,h,_=>h.none.elim|_::_,[],h,_=>h.nothing.elim|_::_,_::_,h,k=>do[zn,zn,k _ _ h.head,KL h.tail k]
def K2{kvs:List (KD×V×V)}{k:KD}{v:V}(h:vG kvs k=!v):∃e∈kvs,e.1=k:=do _;{e,a,_}:=wj.mp h;{e,List.mem_of_find?_eq_some a,do 0<|List.find?_some a}
structure Sg where
 pt:List Key
 nk:List Key
 bh:Option Nat
 ka:Int
 kb:Int
 kc:Int
 sg:Sw
 lv:Bool
def cn(S:Nat->Sg)(i:Nat):List Key:=(S i).nk
def r_(S:Nat->Sg)(i:Nat):Option Nat:=(S i).bh
def DS(S:Nat->Sg)(i:Nat):Sw:=.tuple [.int (S i).ka,.int (S i).kb,.int (S i).kc]
inductive SN(S:Nat->Sg)(H:Hp)(v:V)(i:Nat):Prop
 |mk(b:Sx)(vp vn vb:V)(kq:Sx)(vs:V)(h0:v=.ref b)(h1:H b=!(.tup [vp,vn,vb,.ref kq,vs,.bl (S i).lv]))(h2:GK H (.tup (S i).pt) vp)(h3:NM (cn S) H vn i)(h4:GK H (kd (cn S) (r_ S i)) vb)(h5:H kq=!(.tup [.int (S i).ka,.int (S i).kb,.int (S i).kc]))(h6:DT H vs (S i).sg)
theorem SN.ab{S:Nat->Sg}(h:SN S H v i)(t:ai H H'):SN S H' v i:=do _;{b,f,vn,j,kq,vs,e,h1,h2,c,d,g,a}:=h;{b,f,vn,j,kq,vs,e,t _ _ h1,h2.ab t,c.ab t,d.ab t,t _ _ g,a.ab t}
def Mf(x y:Sg):Prop:=x.ka<y.ka\/(x.ka=y.ka/\(x.kb<y.kb\/(x.kb=y.kb/\x.kc<y.kc)))
def K4{S:Nat->Sg}(h:Mf (S i) (S j)):bT (DS S i) (DS S j)=true:=do@DS;[bT];h||{e,h||{e',h}}:=h;qX h;[e];wX (qX h);[e,e'];wX (wX (qX h))
def LK(d:Sw):Prop:=d.canLay0=true/\sk d d=true/\d.depth<=3
structure WS(S:Nat->Sg)(n:Nat):Prop where
 cJ:n<=1400
 up:∀i j,i<j->j<n->Mf (S i) (S j)
 inj:∀i,i<n->∀j,j<n->(S i).nk=(S j).nk->i=j
 back:∀i,i<n->∀j,(S i).bh=!j->j<i/\(S j).pt=(S i).pt
 lay:∀i,i<n->Lay (S i).nk/\Lay (S i).pt
 sgn:∀i,i<n->LK (S i).sg
def n_(S:Nat->Sg)(pt:List Key)(i:Nat):Bool:=decide ((S i).pt=pt)
def iu{S:Nat->Sg}{pt:List Key}:n_ S pt i=true↔(S i).pt=pt:=decide_eq_true_iff
def bM(S:Nat->Sg)(n:Nat)(pt:List Key):List Nat:=(List.range n).filter (n_ S pt)
def aF(S:Nat->Sg)(n:Nat)(pt:List Key):List Nat:=Rga.iC (Rga.cP (r_ S) (bM S n pt))
def bB(S:Nat->Sg)(n:Nat)(pt:List Key):List Nat:=(aF S n pt).filter λi=>(S i).lv
def WS.vD{S:Nat->Sg}(W:WS S n)(pt:List Key):wC (cn S) (r_ S) (DS S) (bM S n pt) 2:=do c:wC (cn S) (r_ S) (DS S) (List.range n) 2:=(do _;{do[zo];this:=W.cJ;(),?_,λi hi j l e=>W.inj i (qo.mp hi) j (qo.mp l) e,Rga.hG λi hi b e=>(W.back i hi b e).1,tG λd g=>?_};(uv n).imp_of_mem λ{a b} p m h=>K4 (W.up a b h (qo.mp m));{i,_,rfl}:=qf.mp g;.inr {_,_,_,O});c.filter λk f o b e=>?_;{h1,h2}:=W.back k (qo.mp f) b e;iu.mpr (h2.trans (iu.mp o))
def N'{S:Nat->Sg}{pt:List Key}(h:i∈bM S n pt):i<n/\(S i).pt=pt:={qo.mp (zk.mp h).1,iu.mp (zk.mp h).2}
def lX{S:Nat->Sg}{pt:List Key}(W:WS S n):i∈aF S n pt↔i<n/\(S i).pt=pt:=do e:=Rga.eO (r_ S) (bM S n pt);h:i∈aF S n pt↔i∈Rga.lK (Rga.cP (r_ S) (bM S n pt)):=(Rga.cY (W.vD pt).wf).mem_iff;[h,e,yh];{N',λz=>zk.mpr {qo.mpr z.1,iu.mpr z.2}}
def l8{S:Nat->Sg}{pt:List Key}(W:WS S n)(h:i∈aF S n pt):i<n:=((lX W).mp h).1
def kM{S:Nat->Sg}{pt:List Key}(W:WS S n):(aF S n pt).Nodup:=Rga.jE (W.vD pt).wf
def iJ{S:Nat->Sg}{pt:List Key}(W:WS S n):(aF S n pt).length<=n:=do@aF;[Rga.gK (W.vD pt).wf];qg (we _ _) (do[zo];qe _)
def FG(H:Hp)(fa:Sx)(S:Nat->Sg)(n:Nat):Prop:=∃kvs a vs,Rd H fa (.dK kvs)/\bN kvs (.inr "signs")=!(.ref a)/\H a=!(.lst vs)/\AN (SN S H) vs (List.range n)/\WS S n
theorem FG.same{S:Nat->Sg}(h:FG H fa S n)(s:af H H'):FG H' fa S n:=do _;{kvs,c,vs,h1,h2,d,b,a}:=h;{kvs,c,vs,Rd.same h1 s,h2,s _ _ d,b.imp λv i g=>g.ab s.ab,a}
def kR(S:Nat->Sg)(n:Nat)(r:Sg):Nat->Sg:=λi=>if i=n then r else S i
def eG{S:Nat->Sg}(h:i<n):kR S n r i=S i:=qB ()
def gB{S:Nat->Sg}:kR S n r n=r:=qF rfl
def FP(S S':Nat->Sg)(n:Nat):Prop:=∀i,i<n->S' i=S i
def FP.ext(S:Nat->Sg)(n:Nat)(r:Sg):FP S (kR S n r) n:=λi hi=>eG hi
def NM.CI{S S':Nat->Sg}(a:FP S S' n)(hi:i<n)(h:NM (cn S) H v i):NM (cn S') H v i:=do(by unfold NM cn at h ⊢);[a i hi];h
theorem SN.CI{S S':Nat->Sg}(a:FP S S' n)(hi:i<n)(f:∀j,(S i).bh=!j->j<n)(h:SN S H v i):SN S' H v i:=do _;{b,l,vn,o,kq,vs,e,h1,h2,k,d,m,g}:=h;c:S' i=S i:=a i hi;{b,l,vn,o,kq,vs,e,do[c];h1,do[c];h2,NM.CI a hi k,?_,do[c];m,do[c];g};(by unfold r_ at d ⊢);[c];(by cases z:(S i).bh with|none|some j=>?_);d←[z];d;d←[z];NM.CI a (f j z) d
def WS.ext{S:Nat->Sg}(W:WS S n)(hn:n<1400)(up:∀i,i<n->Mf (S i) r)(ne:∀i,i<n->(S i).nk≠r.nk)(bk:∀j,r.bh=!j->j<n/\(S j).pt=r.pt)(f:Lay r.nk)(b:Lay r.pt)(d:LK r.sg):WS (kR S n r) (n+1) where
 cJ:=hn
 up:=λi j h1 h2=>by
  by_cases z:j=n
  .subst z
   rw[gB,eG h1];exact up i h1
  .rw[eG (show j<n from ()),eG (show i<n from ())]
   exact W.up i j h1 ()
 inj:=λi hi j g e=>by
  by_cases c:i=n
  .by_cases a:j=n
   .omega
   .rw[c,gB,eG (show j<n from ())]at e
    exact absurd e.symm (ne j ())
  .by_cases a:j=n
   .rw[a,gB,eG (show i<n from ())]at e
    exact absurd e (ne i ())
   .rw[eG (show i<n from ()),eG (show j<n from ())]at e
    exact W.inj i () j () e
 back:=λi hi j e=>by
  by_cases z:i=n
  .subst z
   rw[gB]at e ⊢;obtain⟨h1,h2⟩:=bk j e;rw[eG h1];exact{h1,h2}
  .rw[eG (show i<n from ())]at e ⊢
   obtain⟨h1,h2⟩:=W.back i () j e;rw[eG (show j<n from ())];exact{h1,h2}
 lay:=λi hi=>by
  by_cases z:i=n
  .subst z;rw[gB];exact{f,b}
  .rw[eG (show i<n from ())];exact W.lay i ()
 sgn:=λi hi=>by
  by_cases z:i=n
  .subst z;rw[gB];exact d
  .rw[eG (show i<n from ())];exact W.sgn i ()
abbrev Sd:=Option (Nat×Bool)
def FW(b:Bool):Sy:=if b then "behind" else "ahead"
def oy(S:Nat->Sg)(H:Hp):Sd->V->Prop|none,v=>v=.aQ|some (i,b),v=>∃a vn,v=.ref a/\H a=!(.tup [vn,.str (FW b)])/\NM (cn S) H vn i
theorem oy.ab{S:Nat->Sg}(h:oy S H d v)(t:ai H H'):oy S H' d v:=by match d,h with|none,h=>exact h|some (i,b),⟨a,vn,e,h1,h2⟩=>exact{a,vn,e,t _ _ h1,h2.ab t}
def d7(S:Nat->Sg)(n:Nat)(pt:List Key)(d:Sd):Prop:=∀i b,d=!(i,b)->i<n/\(S i).pt=pt
structure Mk where
 pt:List Key
 b:Sd
 e:Sd
 kd:Sy
 vl:Option Sy
 nm:List Key
 ka:Int
 kb:Int
def Oe:Option Sy->V|none=>.aQ|some z=>.str z
inductive MN(S:Nat->Sg)(M:Nat->Mk)(H:Hp)(v:V)(i:Nat):Prop
 |mk(b:Sx)(vp vb ve vn:V)(kq:Sx)(h0:v=.ref b)(h1:H b=!(.tup [vp,vb,ve,.str (M i).kd,Oe (M i).vl,vn,.ref kq]))(h2:GK H (.tup (M i).pt) vp)(h3:oy S H (M i).b vb)(h4:oy S H (M i).e ve)(h5:GK H (.tup (M i).nm) vn)(h6:H kq=!(.tup [.int (M i).ka,.int (M i).kb]))
theorem MN.ab{S:Nat->Sg}(h:MN S M H v i)(t:ai H H'):MN S M H' v i:=do _;{b,g,k,a,vn,kq,e,h1,h2,d,f,j,c}:=h;{b,g,k,a,vn,kq,e,t _ _ h1,h2.ab t,d.ab t,f.ab t,j.ab t,t _ _ c}
structure WK(S:Nat->Sg)(n:Nat)(M:Nat->Mk)(m:Nat):Prop where
 cJ:m<=70
 up:∀i j,i<j->j<m->bV (M i).ka (M i).kb (M j).ka (M j).kb
 sd:∀i,i<m->d7 S n (M i).pt (M i).b/\d7 S n (M i).pt (M i).e
 lay:∀i,i<m->Lay (M i).pt/\Lay (M i).nm/\PyData.strOk (M i).kd=true/\∀z,(M i).vl=!z->PyData.strOk z=true
def h_(M:Nat->Mk)(n:Nat)(r:Mk):Nat->Mk:=λi=>if i=n then r else M i
def jS(h:i<n):h_ M n r i=M i:=qB ()
def mF:h_ M n r n=r:=qF rfl
def MN.ext{S:Nat->Sg}(hi:i<n)(h:MN S M H v i):MN S (h_ M n r) H v i:=do e:h_ M n r i=M i:=jS hi;{b,g,k,a,vn,kq,h0,h1,h2,d,f,j,c}:=h;{b,g,k,a,vn,kq,h0,do[e];h1,do[e];h2,do[e];d,do[e];f,do[e];j,do[e];c}
def WK.ext{S:Nat->Sg}(W:WK S n M m)(a:m<70)(up:∀i,i<m->bV (M i).ka (M i).kb r.ka r.kb)(sd:d7 S n r.pt r.b/\d7 S n r.pt r.e)(l:Lay r.pt/\Lay r.nm/\PyData.strOk r.kd=true/\∀z,r.vl=!z->PyData.strOk z=true):WK S n (h_ M m r) (m+1) where
 cJ:=a
 up:=λi j h1 h2=>by
  by_cases z:j=m
  .subst z
   rw[mF,jS h1];exact up i h1
  .rw[jS (show j<m from ()),jS (show i<m from ())]
   exact W.up i j h1 ()
 sd:=λi hi=>by
  by_cases z:i=m
  .subst z;rw[mF];exact sd
  .rw[jS (show i<m from ())];exact W.sd i ()
 lay:=λi hi=>by
  by_cases z:i=m
  .subst z;rw[mF];exact l
  .rw[jS (show i<m from ())];exact W.lay i ()
inductive NN(S:Nat->Sg)(M:Nat->Mk)(H:Hp)(v:V)(i:Nat):Prop
 |mk(b:Sx)(vp vb ve vn:V)(kq:Sx)(h0:v=.ref b)(h1:H b=!(.tup [vp,vb,ve,.str (M i).kd,vn,.ref kq]))(h2:GK H (.tup (M i).pt) vp)(h3:oy S H (M i).b vb)(h4:oy S H (M i).e ve)(h5:GK H (.tup (M i).nm) vn)(h6:H kq=!(.tup [.int (M i).ka,.int (M i).kb]))
theorem NN.ab{S:Nat->Sg}(h:NN S M H v i)(t:ai H H'):NN S M H' v i:=do _;{b,g,k,a,vn,kq,e,h1,h2,d,f,j,c}:=h;{b,g,k,a,vn,kq,e,t _ _ h1,h2.ab t,d.ab t,f.ab t,j.ab t,t _ _ c}
def NN.ext{S:Nat->Sg}(hi:i<n)(h:NN S M H v i):NN S (h_ M n r) H v i:=do e:h_ M n r i=M i:=jS hi;{b,g,k,a,vn,kq,h0,h1,h2,d,f,j,c}:=h;{b,g,k,a,vn,kq,h0,do[e];h1,do[e];h2,do[e];d,do[e];f,do[e];j,do[e];c}
structure FS(H:Hp)(fa:Sx)(F:Nat->Sx)(S:Nat->Sg)(n:Nat)(M:Nat->Mk)(m:Nat)(N:Nat->Mk)(q:Nat)(vs ms ns:List V):Prop where
 dk:Rd H fa (.dK (cE F 9))
 inj:∀i,i<9->∀j,j<9->F i=F j->i=j
 rest:∀i,i<9->i≠3->i≠4->i≠5->∃xs,H (F i)=!(.lst xs)
 sl:H (F 3)=!(.lst vs)
 sa:AN (SN S H) vs (List.range n)
 ws:WS S n
 ml:H (F 4)=!(.lst ms)
 ma:AN (MN S M H) ms (List.range m)
 wm:WK S n M m
 nl:H (F 5)=!(.lst ns)
 na:AN (NN S N H) ns (List.range q)
 wn:WK S n N q
section
variable {H H':Hp}{fa:Sx}{F:Nat->Sx}{S S':Nat->Sg}{n n':Nat}{M:Nat->Mk}{m:Nat}{N:Nat->Mk}{q:Nat}{vs ms ns:List V}
def FS.fg(h:FS H fa F S n M m N q vs ms ns):FG H fa S n:={cE F 9,F 3,vs,h.dk,cX F 3 ⋯,h.sl,h.sa,h.ws}
def FS.to(h:FS H fa F S n M m N q vs ms ns)(t:ai H H')(b:Rd H' fa (.dK (cE F 9)))(a:∀i,i<9->∀xs,H (F i)=!(.lst xs)->H' (F i)=!(.lst xs)):FS H' fa F S n M m N q vs ms ns where
 dk:=b
 inj:=h.inj
 rest:=λi h1 h2 d c=>let⟨xs,e⟩:=h.rest i h1 h2 d c;{xs,a i h1 _ e}
 sl:=a 3 ⋯ _ h.sl
 sa:=h.sa.imp λv i g=>g.ab t
 ws:=h.ws
 ml:=a 4 ⋯ _ h.ml
 ma:=h.ma.imp λv i g=>g.ab t
 wm:=h.wm
 nl:=a 5 ⋯ _ h.nl
 na:=h.na.imp λv i g=>g.ab t
 wn:=h.wn
theorem FS.same(h:FS H fa F S n M m N q vs ms ns)(s:af H H'):FS H' fa F S n M m N q vs ms ns:=h.to s.ab (Rd.same h.dk s) λ_ _ _ e=>s _ _ e
end
end My
namespace L2
open PySem PySem.Spec PySem.W PyProof.Rows
inductive yI(H:Hp)(T:String):V->Bool->Prop
 |str (z:Sy):yI H T (.str z) (T=="str")
 |int (i:Int):yI H T (.int i) (T=="int")
 |bl (b:Bool):yI H T (.bl b) (T=="bool"||T=="int")
 |aQ:yI H T .aQ false
 |tup {p:Sx} {xs:List V} (h:H p=!(.tup xs)):yI H T (.ref p) (T=="tuple")
 |lst {p:Sx} {xs:List V} (h:H p=!(.lst xs)):yI H T (.ref p) (T=="list")
 |Sm {p:Sx} {xs:List (Key×V)} (h:H p=!(.dK xs)):yI H T (.ref p) (T=="dict")
inductive So(xs:List V)(H:Hp)(Q:VK):Prop
 |mk(x:V)(T:String)(b:Bool)(h0:xs=[x,.ty T])(hT:(["str","int","bool","tuple","list"]:List String).contains T=true)(h1:yI H T x b)(h2:Q (.bl b) H)
def p6:cB X (.builtin "isinstance") So:=do(pins,s,σ,H,xs,us,Q,I,c,h);{x,T,b,rfl,a,h1,q}:=h;a:T = "str" \/ T = "int" \/ T = "bool" \/ T = "tuple" \/ T = "list":=(do 0<|a);QL pins s σ H _ us Q I c ?_;(by cases h1 with|str z|int i|bl i|aQ|tup h|lst h|Sm h=>?_);{_,T,.type "str",_,O,.str _,by rcases a with rfl|rfl|rfl|rfl|rfl <;> rfl,q};{_,T,.type "int",_,O,.int _,by rcases a with rfl|rfl|rfl|rfl|rfl <;> rfl,q};{_,T,.type "bool",_,O,.bl _,by rcases a with rfl|rfl|rfl|rfl|rfl <;> rfl,q};{_,T,.type "NoneType",_,O,.aQ,by rcases a with rfl|rfl|rfl|rfl|rfl <;> rfl,q};{_,T,.type "tuple",_,O,.tup h,by rcases a with rfl|rfl|rfl|rfl|rfl <;> rfl,q};{_,T,.type "list",_,O,.lst h,by rcases a with rfl|rfl|rfl|rfl|rfl <;> rfl,q};{_,T,.type "dict",_,O,.dK h,by rcases a with rfl|rfl|rfl|rfl|rfl <;> rfl,q}
end L2
namespace My
open PySem L2 PyProof.Rows
def top(i:Nat):Stmt:=PySem.Challenge.pw_pagefolk_k44_entries_and_numbers.main.body.getD i (.Pass {0,0,0,0})
abbrev uk:Stmt:=top 2
abbrev sR:Stmt:=top 3
abbrev rx:Stmt:=top 4
abbrev sN:Stmt:=top 5
abbrev rS:Stmt:=top 6
abbrev sU:Stmt:=top 8
abbrev sf:Stmt:=top 9
abbrev uj:Stmt:=top 10
abbrev lT:Stmt:=top 12
abbrev tS:Stmt:=top 13
abbrev oT:Stmt:=top 14
abbrev sE:Stmt:=top 16
abbrev sH:Stmt:=top 17
abbrev uC:Stmt:=top 18
abbrev t_:Stmt:=top 19
abbrev lg:Stmt:=top 20
abbrev iW:Stmt:=top 21
abbrev rX:Stmt:=top 22
abbrev tV:Stmt:=top 23
abbrev iX:Stmt:=top 24
abbrev lP:Stmt:=top 26
abbrev uy:Stmt:=top 27
abbrev ux:Stmt:=top 28
abbrev uI:Stmt:=top 29
abbrev sD:Stmt:=top 30
abbrev rV:Stmt:=top 31
abbrev oj:Stmt:=top 32
abbrev kJ:Stmt:=top 33
abbrev rC:Stmt:=top 34
abbrev se:Stmt:=top 35
abbrev iV:Stmt:=top 37
abbrev uX:Stmt:=top 38
abbrev lD:Stmt:=top 39
abbrev oH:Stmt:=top 40
abbrev oe:Stmt:=top 42
abbrev tO:Stmt:=top 43
abbrev oC:Stmt:=top 44
abbrev uJ:Stmt:=top 45
abbrev jD:Stmt:=top 46
abbrev sv:Stmt:=top 47
abbrev nR:Stmt:=top 48
abbrev uS:Stmt:=top 50
abbrev uN:Stmt:=top 51
abbrev s_:Stmt:=top 52
abbrev oM:Stmt:=top 53
abbrev tF:Stmt:=top 54
abbrev oN:Stmt:=top 55
abbrev tP:Stmt:=top 56
abbrev nL:Stmt:=top 57
abbrev oK:Stmt:=top 58
abbrev ox:Stmt:=top 59
abbrev oJ:Stmt:=top 60
abbrev uF:Stmt:=top 61
abbrev si:Stmt:=top 62
abbrev uM:Stmt:=top 63
abbrev tu:Stmt:=top 64
abbrev eA:Stmt:=top 65
abbrev Kd:List Sy:=["births","part","outer_of","chain"]
abbrev Iq:List Sy:=["leaves","hand","to","told","leave"]
abbrev HR:List Sy:=["leave"]
abbrev JM:List Sy:=["leaves","chain","hand","to","told","part"]
abbrev Gz:List Sy:=["roll","births","leaves","hand","part","to","chain"]
abbrev GZ:List Sy:=["place"]
abbrev JZ:List Sy:=["places","followers","place"]
abbrev Kc:List Sy:=["places","followers","row","to_come","name"]
abbrev zA:List Sy:=["facts","part"]
abbrev LC:List Sy:=["facts","part"]
abbrev yS:List Sy:=["facts","part","lives"]
abbrev G8:List Sy:=["seats","side"]
abbrev Jl:List Sy:=["seats","begin","end","first"]
abbrev Ht:List Sy:=["row"]
abbrev Gg:List Sy:=["mark"]
abbrev yZ:List Sy:=["facts","part","row","seats","telling","mark","over","between"]
abbrev yJ:List Sy:=["facts","part","place","row","seats","telling","told","name","marks"]
abbrev HE:List Sy:=["facts","part"]
abbrev Lz:List Sy:=["note"]
abbrev yP:List Sy:=["facts","part","seats","alive","told","note","between","under"]
abbrev KJ:List Sy:=["facts","telling","place","part"]
abbrev Kn:List Sy:=["outer_of","part","ended","way","on_way","outer"]
abbrev JB:List Sy:=["telling","parts"]
abbrev GO:List Sy:=["telling","outer_of","turned","ended","part","way","one"]
abbrev JI:List Sy:=["telling","turned","stands","part","place"]
abbrev Hq:List Sy:=["outer_of","reaching","part","way","comes","one"]
abbrev Ii:List Sy:=["facts","outer_of","reaching"]
abbrev Kb:List Sy:=["facts","stands","cut","left","reaching"]
abbrev KO:List Sy:=["facts","telling","stands","shown","inner","part"]
abbrev Io:List Sy:=["facts","part"]
abbrev zO:List Sy:=["facts","part","way","lines","lives"]
abbrev KU:List Sy:=["cell"]
abbrev Ak:List Sy:=["facts","part","cells"]
abbrev zX:List Sy:=["facts","part","rows","columns","told","words","row"]
abbrev Lj:List Sy:=["facts","roll","hand","part"]
abbrev Gv:List Sy:=["number","place"]
abbrev Jn:List Sy:=["facts","roll","hand","inner","told","to_come","coming","is_open","within"]
abbrev Ik:List Sy:=["numbers","sign"]
abbrev rZ:List Sy:=["facts","part","numbers","signs","marks"]
abbrev Gk:List Sy:=["facts","numbers","part","is_open"]
abbrev H_:List Sy:=["facts","roll","hand","told","numbers"]
abbrev GI:List Sy:=["_law_script","_law_k"]
abbrev Lf:List Sy:=["_law_cell","_law_digits"]
abbrev Gr:List Sy:=["_law_drawn_here","_law_many","_law_number"]
abbrev F':List Sy:=["_law_drawn_here","_law_facts_here","_law_roll","_law_known","_law_wide","_law_k","_law_part","_law_outer","_law_counts","_law_placed"]
abbrev Lk:List Sy:=["_law_drawn_here","_law_known","_law_way"]
abbrev IX:List Sy:=["_law_drawn_here","_law_facts_here","_law_roll","_law_known","_law_names","_law_k","_law_part","_law_behind","_law_name","_law_lives","_law_key"]
abbrev Lb:List Sy:=["_law_drawn_here","_law_names"]
abbrev IE:List Sy:=["_law_drawn_here","_law_facts_here","_law_roll","_law_names","_law_k","_law_parts_here","_law_part","_law_begin","_law_end","_law_name","_law_value","_law_kind"]
abbrev K7:List Sy:=["_law_drawn_here","_law_facts_here","_law_roll","_law_known","_law_part","_law_rows","_law_columns","_law_k","_law_way","_law_line_name","_law_key","_law_row","_law_column","_law_word"]
abbrev Lr:List Sy:=["_law_drawn_here","_law_facts_here","_law_roll","_law_known","_law_k","_law_part","_law_hand","_law_to"]
abbrev HY:List Sy:=["_law_script","_law_roll","_law_digits","_law_facts_here","_law_key","_law_known","_law_names"]
abbrev Gw:List Sy:=["_law_facts_here","_law_found","_law_left","_law_number","_law_part","_law_inner","_law_k","_law_one"]
abbrev Hr:List Sy:=["_law_facts_here","_law_entry","_law_number","_law_part","_law_told","_law_names","_law_one"]
abbrev KC:List Sy:=["_law_facts_here","_law_found","_law_due","_law_k"]
abbrev LH:List Sy:=["_law_entry","_law_some"]
abbrev Ae:List Sy:=["_law_script","_law_roll","_law_facts_here","_law_same","_law_found","_law_entry","_law_one"]
abbrev cw:Sx:=15
abbrev bA:Sx:=157
abbrev a9:Sx:=193
abbrev PP:List Sy:=["greatest_place","all_inner_parts"]
def Rq(t:Sy):Sx:=if t = "greatest_place" then bA else if t = "all_inner_parts" then a9 else 0
abbrev MS:List (Sx×List V):=[(cw,[.str "",.int 0])]
structure Txt(K:PySem.W.Frag)(mg:Sy->Option MD)(tk:Sy->Tok):Prop where
 cZ:mg "dict"=none
 dW:mg "enumerate"=none
 uu:mg "int"=none
 cj:mg "isinstance"=none
 bQ:mg "len"=none
 eK:mg "list"=none
 Ah:mg "max"=none
 dA:mg "range"=none
 cV:mg "sorted"=none
 uH:mg "str"=none
 oS:mg "tuple"=none
 cw:mg "MAIN"=!(.ref cw)
def Rest.refl{S:Sx->Prop}:Rest H H S:=λ_ _ e _=>e
def Rest.same{S:Sx->Prop}(h:Rest H Z S)(s:af Z Z'):Rest H Z' S:=λb o e n=>s _ _ (h b o e n)
theorem Rest.del{S:Sx->Prop}(h:Rest H Z S)(hp:S p)(s:af (del Z p) Z'):Rest H Z' S:=λb o e n=>s _ _ (do[bR (λz=>n (do[z];hp))];h b o e n)
def Rest.wr{S:Sx->Prop}(h:Rest H Z S)(hp:S p):Rest H (upd Z p o) S:=λb u e n=>do[ak (λz=>n (do[z];hp))];h b u e n
def Rest.ab{S:Sx->Prop}(h:Rest H Z S)(c:∀b,S b->∃xs,H b=!(.lst xs)):ai H Z:=λb ys e=>h b _ e λz=>do _;{xs,a}:=c b z;a←[e];-a
def DP(H:Hp)(p:Sx):Prop:=∃ds:List Int,H p=!(.lst (ds.map V.int))/\∀d∈ds,0<=d/\d<60
def DP.to(s:af (del H p) H')(h:H b=!o)(n:b≠p):H' b=!o:=s _ _ (do[bR n];h)
def Kv:af (del H p) (upd H p o):=λb u e=>do z<|b=p;!z;e←[d9];-e;e←[bR z];[ak z];e
def af.jU(a:af (del H p) H')(b:af (del H' p) d):af (del H p) d:=λc o e=>do z<|c=p;!z;e←[d9];-e;b _ _ (do[bR z];a _ _ e)
def af.sd(a:af H H')(b:af (del H' p) d):af (del H p) d:=λc o e=>do z<|c=p;!z;e←[d9];-e;b _ _ (do(by rw[bR z]at e ⊢);a _ _ e)
def p5(x y:Sy):(x++y).length=x.length+y.length:=do¬(x.cps++y.cps).size=_;[Array.size_append];2
def E6(y v:V)(h:∀x∈kvs,x.1≠k):pG kvs k y v=kvs++[(k,y,v)]:=do@pG;[mD h,qB (λz=>nomatch z)]
def bH(js:List Nat):Sd->Nat|none=>js.length|some (i,b)=>js.idxOf i+if b then 1 else 0
def O5(js:List Nat)(b e:Sd):List Nat:=(js.drop (bH js b)).take (bH js e - bH js b)
def uP(nk:Nat->List Key)(js:List Nat)(kvs:List (KD×V×V)):Prop:=kvs.length=js.length/\∀i∈js,vG kvs (.tup (nk i))=!(.int ((js.idxOf i:Nat):Int))
def pe(js:List Nat)(d:Sd):Prop:=∀i b,d=!(i,b)->i∈js
def Inj(nk:Nat->List Key)(js:List Nat):Prop:=∀i∈js,∀j∈js,nk i=nk j->i=j
def Em{js:List Nat}(nd:js.Nodup){j i:Nat}(h:js[j]?=!i):js.idxOf i=j:=do _;{h1,h2}:=qk.mp h;[←h2];List.Nodup.idxOf_getElem nd j h1
def Ie(h:pe js d):bH js d<=js.length:=by match d,h with|none,_=>exact qe _|some (i,b),h => have:=bv (h i b rfl);show js.idxOf i+(if b then 1 else 0)<=_;split <;> omega
theorem Gp:∀{kvs:List (KD×V×V)} {js:List Nat},kA nk G kvs js->kvs.length=js.length|[],[],_=>rfl|[],_::_,h=>h.elim|_::_,[],h=>h.elim|_::_,_::_,h=>do[zd,zd,Gp h.2]
theorem Gb:∀{kvs:List (KD×V×V)} {js:List Nat},kA nk G kvs js->kvs.map (·.1)=js.map λi=>KD.tup (nk i)|[],[],_=>rfl|[],_::_,h=>h.elim|_::_,[],h=>h.elim|_::_,_::_,h=>do[zn,zn,Gb h.2,h.1.1]
def Ec(e:H q=!(.tup xs))(h:cz H xs ds)(ok:∀d∈ds,d.canLay0=true/\sk d d=true/\d.depth<=4):lU H (.ref q):=do _;{.tuple ds,.tup e h,dH λd a=>(ok d a).1,qU λd a=>(ok d a).2.1,?_};this:=gR λd a=>(ok d a).2.2;¬PyData.depthAll ds+1<=5;()
abbrev L8(d:Sw):Prop:=d.canLay0=true/\sk d d=true/\d.depth<=4
def ur(h:d.canLay0=true/\sk d d=true/\d.depth<=1):L8 d:={h.1,h.2.1,qg h.2.2 ⋯}
def SN.eQ{S:Nat->Sg}(h:SN S H v i)(W:WS S n)(hi:i<n):lU H v:=do _;{b,s,vn,o,kq,r,rfl,h1,h2,l,a,m,k}:=h;e:∃d,DT H o d/\L8 d:=(do(by unfold r_ at a;cases q:(S i).bh with|none|some j=>?_);a←[q];-a;{.none,.aQ,O,O,qv 4};a←[q];this:=W.back i hi j q;{_,aK a,ur (cm (W.lay j ()).1)});{p,c,f}:=e;Ec (ds:=[tD (S i).pt,tD (S i).nk,p,.tuple [.int (S i).ka,.int (S i).kb,.int (S i).kc],(S i).sg,.bool (S i).lv]) h1 (.cons (aK h2) (.cons (aK l) (.cons c (.cons (.tup m (.cons (.int _) (.cons (.int _) (.cons (.int _) .nil)))) (.cons k (.cons (.bl _) .nil)))))) λd g=>?_;(by ac_nf at g);rfl||rfl||rfl||rfl||rfl||rfl:=g;ur (cm (W.lay i hi).2);ur (cm (W.lay i hi).1);f;⟨O,O,jn rfl⟩;⟨(W.sgn i hi).1,(W.sgn i hi).2.1,qg (W.sgn i hi).2.2 ⋯⟩;⟨O,O,qv 4⟩
def oy.eQ{S:Nat->Sg}{pt:List Key}(h:oy S H d v)(W:WS S n)(o:d7 S n pt d):∃x,DT H v x/\L8 x:=by match d,h,o with|none,h,_=>cases h;exact{.none,.aQ,O,O,qv 4}|some (i,b),⟨a,vn,e,h1,h2⟩,o => subst e;have l:=(W.lay i (o i b rfl).1).1;refine{.tuple [tD (S i).nk,.str (FW b)],.tup h1 (.cons (aK h2) (.cons (.str _) .nil)),?_,?_,?_};show((tD (S i).nk).canLay0&&(PyData.strOk (FW b)&&true))=true;rw[show(tD (S i).nk).canLay0=true from l,show PyData.strOk (FW b)=true by cases b <;> decide +kernel];rfl;exact qU (ds:=[tD (S i).nk,.str (FW b)]) λd c=>(do(by ac_nf at c);rfl||rfl:=c;zB _;2);have:=eh (S i).nk;show max (tD (S i).nk).depth (max 0 0)+1<=4;omega
theorem MN.eQ{S:Nat->Sg}(h:MN S M H v i)(W:WS S n)(a:WK S n M m)(hi:i<m):lU H v:=do _;{b,B,D,C,vn,kq,rfl,h1,h2,x,o,t,w}:=h;{f,A,r}:=x.eQ W (a.sd i hi).1;{l,j,u}:=o.eQ W (a.sd i hi).2;{y,e,p,s}:=a.lay i hi;{dv,k,g}:∃dv,DT H (Oe (M i).vl) dv/\L8 dv:=(do(by cases q:(M i).vl with|none|some z=>?_);{.none,.aQ,O,O,qv 4};{.str z,.str z,s z q,O,qv 4});Ec (ds:=[tD (M i).pt,f,l,.str (M i).kd,dv,tD (M i).nm,.tuple [.int (M i).ka,.int (M i).kb]]) h1 (.cons (aK h2) (.cons A (.cons j (.cons (.str _) (.cons k (.cons (aK t) (.cons (.tup w (.cons (.int _) (.cons (.int _) .nil))) .nil))))))) λd c=>?_;(by ac_nf at c);rfl||rfl||rfl||rfl||rfl||rfl||rfl:=c;ur (cm y);r;u;ur (d8 p);g;ur (cm e);ur (fH _ _)
theorem NN.eQ{S:Nat->Sg}(h:NN S M H v i)(W:WS S n)(a:WK S n M m)(hi:i<m):lU H v:=do _;{b,w,z,y,vn,kq,rfl,h1,h2,s,k,p,r}:=h;{f,u,o}:=s.eQ W (a.sd i hi).1;{j,g,q}:=k.eQ W (a.sd i hi).2;{t,e,l,x}:=a.lay i hi;Ec (ds:=[tD (M i).pt,f,j,.str (M i).kd,tD (M i).nm,.tuple [.int (M i).ka,.int (M i).kb]]) h1 (.cons (aK h2) (.cons u (.cons g (.cons (.str _) (.cons (aK p) (.cons (.tup r (.cons (.int _) (.cons (.int _) .nil))) .nil)))))) λd c=>?_;(by ac_nf at c);rfl||rfl||rfl||rfl||rfl||rfl:=c;ur (cm t);o;q;ur (d8 l);ur (cm e);ur (fH _ _)
def RB(xs ms ns:List V)(i:Nat):List V:=if i=3 then xs else if i=4 then ms else if i=5 then ns else[]
theorem FS.eQ{S:Nat->Sg}(h:FS H fa F S n M m N q vs ms ns)(i:Nat):∀z∈RB vs ms ns i,lU H z:=do@RB;3;(z,hz);{i,hi,g}:=h.sa.mem hz;g.eQ h.ws (qo.mp hi);3;(z,hz);{i,hi,g}:=h.ma.mem hz;g.eQ h.ws h.wm (qo.mp hi);3;(z,hz);{i,hi,g}:=h.na.mem hz;g.eQ h.ws h.wn (qo.mp hi);(z,hz);-hz
def Ot(h:i∈O5 js b e):i∈js:=gr (yj h)
inductive Ep(vs:List V)(H:Hp)(Q:VK)(_:XK):Prop
 |mk(fa vp pt S n:_)(_:vs=[.ref fa,vp])(_:FG H fa S n)(_:GK H (.tup pt) vp)(_:Lay pt)(_:∀H' q zs,af H H'->H q=none->H' q=!(.lst zs)->AN (SN S H') zs (bM S n pt)->Q (.ref q) H')
inductive Ez(vs:List V)(H:Hp)(Q:VK)(_:XK):Prop
 |mk(fa vp pt S n:_)(_:vs=[.ref fa,vp])(_:FG H fa S n)(_:GK H (.tup pt) vp)(_:Lay pt)(_:∀H' q zs,af H H'->H q=none->H' q=!(.lst zs)->AN (NM (cn S) H') zs (aF S n pt)->Q (.ref q) H')
inductive Fm(vs:List V)(H:Hp)(Q:VK)(_:XK):Prop
 |mk(p zs nk js:_)(h0:vs=[.ref p])(h1:H p=!(.lst zs))(h2:AN (NM nk H) zs js)(h3:js.Nodup)(h4:Inj nk js)(h5:js.length<=1400)(h6:∀H' dq kvs,af H H'->H dq=none->H' dq=!(.dG kvs)->uP nk js kvs->Q (.ref dq) H')
inductive Fu(vs:List V)(H:Hp)(Q:VK)(_:XK):Prop
 |mk(dq kvs S js v d:_)(h0:vs=[.ref dq,v])(h1:H dq=!(.dG kvs))(h2:uP (cn S) js kvs)(h3:oy S H d v)(h4:pe js d)(h5:Q (.int ((bH js d:Nat):Int)) H)
inductive CG(vs:List V)(H:Hp)(Q:VK)(_:XK):Prop
 |mk(dq kvs S js vb ve b e:_)(h0:vs=[.ref dq,vb,ve])(h1:H dq=!(.dG kvs))(h2:uP (cn S) js kvs)(h3:oy S H b vb)(h4:pe js b)(h5:oy S H e ve)(h6:pe js e)(h7:∀H' q,af H H'->H' q=!(.tup [.int ((bH js b:Nat):Int),.int ((max (bH js b) (bH js e):Nat):Int)])->Q (.ref q) H')
section
variable {K:PySem.W.Frag}{vs:List V}{H:Hp}{Q:VK}{E:XK}
end
theorem JR:∀(js:List Nat),js.Nodup->∀f l:Nat,js.filter (λk=>decide (f<=js.idxOf k/\js.idxOf k<l))=(js.drop f).take (l - f)|[],_,f,l=>(do[List.drop_nil,List.take_nil];2)|x::xs,nd,f,l=>do _;{g,c}:=z6.mp nd;ix:∀k∈xs,(x::xs).idxOf k=xs.idxOf k+1:=λk b=>(do this:(x==k)=false:=(do[beq_eq_false_iff_ne];λz=>g (do[z];b));[List.idxOf_cons,this];2);d:(x::xs).idxOf x=0:=List.idxOf_cons_self;(by cases l with|zero|succ l=>?_);[mw.mpr (λk _ z=>do this:=qO z;()),Nat.zero_sub,List.take_zero];tail:∀a,xs.filter (λk=>decide (a+1<=(x::xs).idxOf k/\(x::xs).idxOf k<l+1))=(xs.drop a).take (l - a):=λa=>(do[←JR xs c a l];m6 λk b=>?_;[ix k b];decide_eq_decide.mpr ());(by cases f with|zero|succ f=>?_);[jd (do[d];qI {qe 0,Nat.succ_pos l})];this:=tail 0;e:xs.filter (λk=>decide (0<=(x::xs).idxOf k/\(x::xs).idxOf k<l+1))=xs.filter (λk=>decide (0+1<=(x::xs).idxOf k/\(x::xs).idxOf k<l+1)):=m6 λk b=>(do[ix k b];decide_eq_decide.mpr ());[e,this];2;[je (do[d];λz=>absurd (qO z).1 ()),tail f,Nat.succ_sub_succ];2
def ig(S:Nat->Sg)(js:List Nat)(b e:Sd):List Nat:=(O5 js b e).filter λi=>(S i).lv
def N0{S:Nat->Sg}(nd:js.Nodup):(js.filter λi=>(S i).lv).filter (λk=>decide (bH js b<=js.idxOf k/\js.idxOf k<max (bH js b) (bH js e)))=ig S js b e:=do(by unfold ig O5);[bw];h:=JR js nd (bH js b) (max (bH js b) (bH js e));h←[show max (bH js b) (bH js e) - bH js b=bH js e - bH js b from ()];[←h,bw];m6 λk _=>Bool.and_comm _ _
def bY(N:Nat->Mk)(q:Nat)(pt:List Key):List Nat:=(List.range q).filter λi=>decide ((N i).pt=pt)
def lR(S:Nat->Sg):Option Nat->Sw|none=>.none|some k=>tD (cn S k)
def qT(S:Nat->Sg)(js:List Nat)(N:Nat->Mk)(i:Nat):Sw:=.tuple [tD (N i).nm,.str (N i).kd,lR S (ig S js (N i).b (N i).e).head?]
def Jh{S:Nat->Sg}{pt:List Key}(W:WS S n)(j:WK S n N q):PyData.canLayAll0 ((bY N q pt).map (qT S (aF S n pt) N))=true/\PyData.depthAll ((bY N q pt).map (qT S (aF S n pt) N))<=2/\PyData.eqv (.list ((bY N q pt).map (qT S (aF S n pt) N))) (.list ((bY N q pt).map (qT S (aF S n pt) N)))=true:=do c:∀i,(lR S (ig S (aF S n pt) (N i).b (N i).e).head?).canLay0=true/\f' (lR S (ig S (aF S n pt) (N i).b (N i).e).head?)=true/\(lR S (ig S (aF S n pt) (N i).b (N i).e).head?).depth<=1:=λi=>(do(by cases h:(ig S (aF S n pt) (N i).b (N i).e).head? with|none|some k=>?_);{O,O,qv 1};f:k∈aF S n pt:=Ot (zk.mp (bx h)).1;{(W.lay k (l8 W f)).1,mJ _,eh _});{dH λd a=>?_,gR λd a=>?_,Mz λd a=>?_};{i,hi,rfl}:=qf.mp a;hi:=qo.mp (zk.mp hi).1;{_,g,l,_}:=j.lay i hi;¬((tD (N i).nm).canLay0&&(PyData.strOk (N i).kd&&((lR S _).canLay0&&true)))=true;[show(tD (N i).nm).canLay0=true from g,l,(c i).1];2;{i,hi,rfl}:=qf.mp a;h1:=eh (N i).nm;h2:=(c i).2.2;¬max (tD (N i).nm).depth (max 0 (max (lR S _).depth 0))+1<=2;();{i,hi,rfl}:=qf.mp a;[qT,f'];pF λd a=>?_;(by ac_nf at a);rfl||rfl||rfl:=a;mJ _;2;(c i).2.1
theorem cz.len:∀{xs:List V} {ds:List Sw},cz H xs ds->xs.length=ds.length|_,_,.nil=>rfl|_,_,.cons _ t=>do[zd,zd,cz.len t]
inductive EN(vs:List V)(H:Hp)(Q:VK)(_:XK):Prop
 |mk(fa vp pt S n:_)(_:vs=[.ref fa,vp])(_:FG H fa S n)(_:GK H (.tup pt) vp)(_:Lay pt)(_:∀H' q zs,af H H'->H q=none->H' q=!(.lst zs)->AN (NM (cn S) H') zs (bB S n pt)->Q (.ref q) H')
inductive FC(vs:List V)(H:Hp)(Q:VK)(_:XK):Prop
 |mk(v S N i:_)(_:vs=[v])(_:NN S N H v i)(_:∀kv,DT H kv (.tuple [.int (N i).ka,.int (N i).kb])->Q kv H)
inductive EE(vs:List V)(H:Hp)(Q:VK)(_:XK):Prop
 |mk(fa F S n M m N q xs ms ns vp pt:_)(h0:vs=[.ref fa,vp])(h1:FS H fa F S n M m N q xs ms ns)(h2:GK H (.tup pt) vp)(h3:Lay pt)(h4:∀H' qq zs,af H H'->H qq=none->H' qq=!(.lst zs)->cz H' zs ((bY N q pt).map (qT S (aF S n pt) N))->Q (.ref qq) H')
section
variable {K:PySem.W.Frag}{vs:List V}{H:Hp}{Q:VK}{E:XK}
end
def aH(M:Nat->Mk)(m:Nat)(pt:List Key):List Nat:=(List.range m).filter λi=>decide ((M i).pt=pt)
def yG(js:List Nat)(k:Mk)(p:Nat):Bool:=decide (bH js k.b<=p/\p<max (bH js k.b) (bH js k.e))
def tell(M:Nat->Mk)(js:List Nat)(l:List Nat)(kd:Sy)(p:Nat):Option Nat:=l.foldl (λacc i=>if(M i).kd=kd/\yG js (M i) p=true then some i else acc) none
def kinds(M:Nat->Mk)(l:List Nat):List Sy:=l.foldl (λks i=>if(M i).kd∈ks then ks else ks++[(M i).kd]) []
def Ky{kd:Sy}:tell M js (l++[i]) kd p=if(M i).kd=kd/\yG js (M i) p=true then some i else tell M js l kd p:=do@tell;[jz];2
def I0:kinds M (l++[i])=if(M i).kd∈kinds M l then kinds M l else kinds M l++[(M i).kd]:=do@kinds;[jz];2
theorem GV{M:Nat->Mk}:∀(l:List Nat) (ks:List Sy),ks.Nodup->(l.foldl (λks i=>if(M i).kd∈ks then ks else ks++[(M i).kd]) ks).Nodup|[],_,h=>h|i::l,ks,h=>do GV l _ ?_;¬((if(M i).kd∈ks then ks else ks++[(M i).kd]).Nodup);z<|(M i).kd∈ks;[qF z];h;[qB z];List.nodup_append.mpr {h,do 0,λx a y b e=>?_};e←[qx.mp b];z (e▸a)
theorem xK{M:Nat->Mk}:∀(l:List Nat) (ks:List Sy),(l.foldl (λks i=>if(M i).kd∈ks then ks else ks++[(M i).kd]) ks).length<=ks.length+l.length|[],_=>qe _|i::l,ks=>do qg (xK l _) ?_;¬(if(M i).kd∈ks then ks else ks++[(M i).kd]).length+l.length<=_;z<|(M i).kd∈ks;[qF z,zd];();[qB z,qi,qt,zd];()
theorem KA{M:Nat->Mk}{js:List Nat}{kd:Sy}{p k:Nat}:∀(l:List Nat) (acc:Option Nat),l.foldl (λacc i=>if(M i).kd=kd/\yG js (M i) p=true then some i else acc) acc=!k->acc=!k\/(k∈l/\(M k).kd=kd)|[],_,h=>.inl h|i::l,acc,h=>do z||z:=KA l _ h;z:(if(M i).kd=kd/\yG js (M i) p=true then some i else acc)=!k:=z;q<|(M i).kd=kd/\yG js (M i) p=true;z←[qF q];-z;.inr {qm,q.1};z←[qB q];.inl z;.inr {qy _ z.1,z.2}
def JF{kd:Sy}(h:tell M js l kd p=!k):k∈l/\(M k).kd=kd:=do z||z:=KA l none h;-z;z
theorem IG{M:Nat->Mk}{js:List Nat}{kd:Sy}{p:Nat}:∀(l:List Nat) (acc:Option Nat),(∀i∈l,(M i).kd≠kd)->l.foldl (λacc i=>if(M i).kd=kd/\yG js (M i) p=true then some i else acc) acc=acc|[],_,_=>rfl|i::l,acc,h=>do[j8,qB λz=>h i qm z.1];IG l acc λj a=>h j (qy _ a)
theorem Fi{M:Nat->Mk}{kd:Sy}:∀(l:List Nat) (ks:List Sy),kd∈l.foldl (λks i=>if(M i).kd∈ks then ks else ks++[(M i).kd]) ks↔kd∈ks\/∃i∈l,(M i).kd=kd|[],ks=>{.inl,λh=>h.elim id λ⟨_,z,_⟩=>nomatch z}|i::l,ks=>do[j8,Fi l];z<|(M i).kd∈ks;[qF z];1;(h||{j,h1,h2});.inl h;.inr {j,qy _ h1,h2};(h||{j,h1,h2});.inl h;y||y:=q0.mp h1;!y;.inl (h2▸z);.inr {j,y,h2};[qB z];1;(h||{j,h1,h2});y||y:=zh.mp h;.inl y;.inr ⟨i,qm,(qx.mp y).symm⟩;.inr ⟨j,qy _ h1,h2⟩;(h||{j,h1,h2});.inl (wg _ h);y||y:=q0.mp h1;!y;.inl (zy _ (qx.mpr h2.symm));.inr {j,y,h2}
def mV(ms:List V):Option Nat->V|none=>.aQ|some i=>ms.getD i .aQ
def iD(M:Nat->Mk)(js l:List Nat)(ms:List V)(kd:Sy):List V:=(List.range js.length).map λp=>mV ms (tell M js l kd p)
def pA{kd:Sy}:(iD M js l ms kd).length=js.length:=do@iD;[qj,zo]
def LM(k:bH js (M i).b=b)(h:max (bH js (M i).b) (bH js (M i).e)=e)(m:b<=e)(n:e<=js.length):((iD M js l ms (M i).kd).take b++List.replicate (e - b) (ms.getD i .aQ))++(iD M js l ms (M i).kd).drop e=iD M js (l++[i]) ms (M i).kd:=do(by apply yc);(p);j:yG js (M i) p=decide (b<=p/\p<e):=(do@yG;[h,k]);g:(iD M js l ms (M i).kd).length=js.length:=pA;d:((iD M js l ms (M i).kd).take b).length=b:=(do[wv,g];());c:((iD M js l ms (M i).kd).take b++List.replicate (e - b) (ms.getD i .aQ)).length=e:=(do[qi,d,j6];());a:p<js.length->(iD M js (l++[i]) ms (M i).kd)[p]?=!(mV ms (if b<=p/\p<e then some i else tell M js l (M i).kd p)):=λhp=>(do@iD;[qu,yq hp,jq,Ky,j];z<|b<=p/\p<e;[qF z,qF {O,qI z}];[qB z,qB (λy=>z (qO y.2))]);old:p<js.length->(iD M js l ms (M i).kd)[p]?=!(mV ms (tell M js l (M i).kd p)):=λhp=>(do@iD;[qu,yq hp];2);h1<|p<b;[zv (do[c];()),zv (do[d];h1),ki h1,old (),a (),qB ()];h2<|p<e;[zv (do[c];h2),ye (do[d];()),d,List.getElem?_replicate_of_lt (),a (),qF {(),h2}];2;[ye (do[c];()),c,bp,show e+(p - e)=p from ()];f<|p<js.length;[old f,a f,qB ()];[v9 (do[g];()),v9 (do[pA];())]
def NL{kd:Sy}(h:kd∉kinds M l):iD M js l ms kd=List.replicate js.length .aQ:=do@iD;[List.eq_replicate_iff];{do[qj,zo],λx a=>?_};{p,_,rfl}:=qf.mp a;this:tell M js l kd p=none:=IG l none λi hi z=>h ((Fi l []).mpr (.inr {i,hi,z}));[this];2
def Jj{kd:Sy}(h:(M i).kd≠kd):iD M js (l++[i]) ms kd=iD M js l ms kd:=do@iD;yu λp _=>?_;[Ky,qB λz=>h z.1]
structure TK(M:Nat->Mk)(js l:List Nat)(ms:List V)(S:Sx->Prop)(Z:Hp)(kvs:List (Key×V)):Prop where
 keys:kvs.map (·.1)=(kinds M l).map .inr
 val:∀kd∈kinds M l,∃a,bN kvs (.inr kd)=!(.ref a)/\S a/\Z a=!(.lst (iD M js l ms kd))
 ne:∀kd∈kinds M l,∀kd'∈kinds M l,bN kvs (.inr kd)=bN kvs (.inr kd')->kd=kd'
def TK.same{S:Sx->Prop}(h:TK M js l ms S Z kvs)(s:af Z Z'):TK M js l ms S Z' kvs:={h.keys,λkd b=>let⟨a,h1,h2,c⟩:=h.val kd b;{a,h1,h2,s _ _ c},h.ne}
def TK.no{S:Sx->Prop}(h:TK M js l ms S Z kvs){kd:Sy}:bN kvs (.inr kd)=none↔kd∉kinds M l:=do 1;(z,b);{a,h1,_}:=h.val kd b;h1←[z];-h1;(b);(by cases e:bN kvs (.inr kd)with|none|some v=>?_);2;(by exfalso);this:=(mN (kvs:=kvs) (k:=.inr kd)).trans (do[e];2:(bN kvs (.inr kd)).isSome=true);{x,g,ex}:=yz.mp this;d:x.1∈kvs.map (·.1):=qf.mpr {x,g,O};d←[h.keys];{i,c,f}:=qf.mp d;f←[qO ex];b (Sum.inr.inj f▸c)
def TK.old{S:Sx->Prop}(h:TK M js l ms S Z kvs)(f:(M i).kd∈kinds M l)(e:bN kvs (.inr (M i).kd)=!(.ref a))(g:xs=iD M js (l++[i]) ms (M i).kd):TK M js (l++[i]) ms S (upd Z a (.lst xs)) kvs:=do b:kinds M (l++[i])=kinds M l:=(do[I0,qF f]);{do[b];h.keys,λkd d=>?_,do[b];h.ne};d←[b];{c,h1,h2,j}:=h.val kd d;z<|(M i).kd=kd;!z;h1←[e];-h1;{_,e,h2,do[aB,g]};k:c≠a:=λy=>z (h.ne _ f kd d (do[e,h1,y]));{c,h1,h2,do[ak k,Jj z];j}
def TK.new{S:Sx->Prop}(h:TK M js l ms S Z kvs)(n:(M i).kd∉kinds M l)(sa:S a)(na:∀kd c,bN kvs (.inr kd)=!(.ref c)->c≠a)(p:xs=iD M js (l++[i]) ms (M i).kd)(o:Z a=!(.lst xs)):TK M js (l++[i]) ms S Z (putK kvs (.inr (M i).kd) (.ref a)):=do g:kinds M (l++[i])=kinds M l++[(M i).kd]:=(do[I0,qB n]);k:putK kvs (.inr (M i).kd) (.ref a)=kvs++[(.inr (M i).kd,.ref a)]:=K' _ (h.no.mpr n);m:∀kd,bN (putK kvs (.inr (M i).kd) (.ref a)) (.inr kd)=if(M i).kd=kd then some (.ref a) else bN kvs (.inr kd):=λkd=>(do[M5];z<|(M i).kd=kd;[qF z,qF (do[z])];[qB z,qB (λy=>z (Sum.inr.inj y).symm)]);{do[k,z7,h.keys,g,z7];2,λkd b=>?_,λkd b d f e=>?_};[m];z<|(M i).kd=kd;[qF z,←z];{a,O,sa,do[o,p]};[qB z,Jj z];b←[g];y||y:=zh.mp b;h.val kd y;absurd (qx.mp y).symm z;e←[m,m];(by rw[g]at b f);z<|(M i).kd=kd;j<|(M i).kd=d;z.symm.trans j;e←[qF z,qB j];absurd rfl (na d a e.symm);j<|(M i).kd=d;e←[qB z,qF j];absurd rfl (na kd a e);e←[qB z,qB j];y||y:=zh.mp b;y'||y':=zh.mp f;h.ne kd y d y' e;absurd (qx.mp y').symm j;absurd (qx.mp y).symm z
theorem xr{x:V}:∀n:Nat,(List.replicate n [x]).flatten=List.replicate n x| 0=>rfl|n+1=>do[ji,jp,xr n];2
inductive Bb(vs:List V)(H:Hp)(Q:VK)(_:XK):Prop
 |mk(v S M i:_)(_:vs=[v])(_:MN S M H v i)(_:∀kv,DT H kv (.tuple [.int (M i).ka,.int (M i).kb])->Q kv H)
inductive oB(vs:List V)(H:Hp)(Q:VK):Prop
 |mk (fa:Sx) (F:Nat->Sx) (S:Nat->Sg) (n:Nat) (M:Nat->Mk) (m:Nat) (N:Nat->Mk) (q:Nat) (xs ms ns:List V) (vp:V) (pt:List Key) (rp:Sx) (rv:List V) (h0:vs=[.ref fa,vp,.ref rp]) (h1:FS H fa F S n M m N q xs ms ns) (h2:GK H (.tup pt) vp) (h3:Lay pt) (h4:H rp=!(.lst rv)) (h5:AN (NM (cn S) H) rv (aF S n pt))
  (h6:∀H' tq kvs,af H H'->H tq=none->H' tq=!(.dK kvs)->TK M (aF S n pt) (aH M m pt) ms (λa=>H a=none/\a≠tq) H' kvs->Q (.ref tq) H'):oB vs H Q
def Fb:Sp:=λvs H Q _=>oB vs H Q
section
variable {K:PySem.W.Frag}{vs:List V}{H:Hp}{Q:VK}{E:XK}
end
def pS(x:Sy):List Sy->List Sy|[]=>[x]|y::ys=>if bT (.str x) (.str y)=true then x::y::ys else y::pS x ys
def fe(l:List Sy):List Sy:=l.foldr pS []
theorem Fk(x:Sy):∀l,(pS x l).Perm (x::l)|[]=>.refl _|y::ys=>do@pS;3;.refl _;((Fk x ys).cons y).trans (.swap x y ys)
theorem o_:∀l,(fe l).Perm l|[]=>.refl _|x::l=>(Fk x _).trans ((o_ l).cons x)
abbrev Ma(l:List Sy):Prop:=l.Pairwise λa b=>bT (.str a) (.str b)=true
def PX(h:¬bT (.str x) (.str y)=true)(n:x≠y):bT (.str y) (.str x)=true:=do(by cases q:bT (.str y) (.str x)with|true|false=>?_);2;absurd (PyData.str.inj (CU (.str x) (.str y) rfl (do 0<|h) q)) n
theorem Hx:∀{l:List Sy},Ma l->x∉l->Ma (pS x l)|[],_,_=>m3 ..|y::ys,h,hx=>do _;{h1,h2}:=vy.mp h;@pS;3;(by rename_i z);vy.mpr {λb a=>?_,h};rfl||a:=q0.mp a;z;vX _ _ _ rfl rfl rfl z (h1 b a);(by rename_i z);vy.mpr ⟨λb a=>?_,Hx h2 λq=>hx (qy _ q)⟩;rfl||a:=q0.mp ((Fk x ys).mem_iff.mp a);PX z λe=>hx (e▸qm);h1 b a
theorem J1:∀{l:List Sy},l.Nodup->Ma (fe l)|[],_=>.nil|x::l,h=>Hx (J1 (z6.mp h).2) λz=>(z6.mp h).1 ((o_ l).mem_iff.mp z)
theorem K3:∀{xs ys:List Sy},xs.Perm ys->(xs.Pairwise λa b=>bT (.str b) (.str a)=false)->Ma ys->xs=ys|[],ys,p,_,_=>(List.nil_perm.mp p).symm|x::xs,[],p,_,_=>absurd p.length_eq (do 0)|x::xs,y::ys,p,hx,hy=>do e<|x=y;!e;[K3 ((List.perm_cons x).mp p) (vy.mp hx).2 (vy.mp hy).2];h1:y∈xs:=(do z||z:=q0.mp (p.mem_iff.mpr qm);absurd z.symm e;z);h2:x∈ys:=(do z||z:=q0.mp (p.mem_iff.mp qm);absurd z e;z);a1:=(vy.mp hx).1 y h1;a2:=(vy.mp hy).1 x h2;a1←[a2];-a1
def QZ(js:List Sy):(List.range js.length).map (λi=>js.getD i "")=js:=do(by apply yc);(i);[qu];hi<|i<js.length;[yq hi,qh hi];¬some (js.getD i "")=_;[zm,qh hi];2;[List.getElem?_eq_none (do 0<|hi),List.getElem?_eq_none ()];2
def Du{js:List Sy}{ix:List Nat}(nd:js.Nodup)(h:dj (js.map .str) ix):(ix.map λi=>(js.map V.str).getD i .aQ)=(fe js).map V.str:=do f:ix.Perm (List.range js.length):=(by have:=h.1;rwa [qj]at this);c:∀i∈ix,i<js.length:=λi hi=>qo.mp (f.mem_iff.mp hi);j:(ix.map λi=>(js.map V.str).getD i .aQ)=(ix.map λi=>js.getD i "").map V.str:=(do[z9];yu λi hi=>?_;¬_=V.str (js.getD i "");[zm,qu,zm,qh (c i hi)];2);[j];(by congr 1);K3 (((f.map _).trans (.of_eq (QZ js))).trans (o_ js).symm) ?_ (J1 nd);h2:=h.2;(by rw[wb]at h2 ⊢);h2.imp_of_mem λ{a b} g k d=>?_;e:∀i,i∈ix->c_ (js.map .str) i=.str (js.getD i ""):=λi hi=>(do@c_;[zm,qu,zm,qh (c i hi)];2);d←[e a g,e b k];d
def G'{f:Sy->Option Sw}{l:List Sy}{j:Nat}{kd:Sy}(h:l[j]?=!kd):(l.take (j+1)).filterMap f=(l.take j).filterMap f++(f kd).toList:=do[qz,h,List.filterMap_append];(by cases e:f kd with|none|some d=>?_);[bz,List.filterMap_cons_none e];2;[bz,List.filterMap_cons_some e];2
def qR(M:Nat->Mk)(a:Bool)(k:Nat):Sw:=if a then tD (M k).nm else match(M k).vl with|none=>.none|some z=>.str z
def BA(M:Nat->Mk)(a:Bool):Option Nat->Option Sw|none=>none|some k=>if(M k).vl=none then none else some (.tuple [.str (M k).kd,qR M a k])
def vI(M:Nat->Mk)(a:Bool)(js l:List Nat)(p:Nat):List Sw:=(fe (kinds M l)).filterMap λkd=>BA M a (tell M js l kd p)
structure jI(nk:Nat->List Key)(f:Nat->List Sw)(B:Sx->Prop)(Z:Hp)(kvs:List (KD×V×V))(js:List Nat):Prop where
 len:kvs.length=js.length
 ent:∀(j:Nat) e i,kvs[j]?=!e->js[j]?=!i->e.1=.tup (nk i)/\NM nk Z e.2.1 i/\∃a zs,e.2.2=.ref a/\B a/\Z a=!(.lst zs)/\cz Z zs (f i)
def jI.to{B B':Sx->Prop}(h:jI nk f B Z kvs js)(t:ai Z Z')(s:∀a zs,B a->Z a=!(.lst zs)->Z' a=!(.lst zs))(b:∀a,B a->B' a):jI nk f B' Z' kvs js := {h.len,λj e i h1 h2=>do _;{l,k,a,zs,m,c,g,d}:=h.ent j e i h1 h2;{l,NM.ab k t,a,zs,m,b a c,s a zs c g,d.ab t}}
def jI.same{B:Sx->Prop}(h:jI nk f B Z kvs js)(s:af Z Z'):jI nk f B Z' kvs js:=h.to s.ab (λ_ _ _ e=>s _ _ e) λ_ b=>b
def jI.snoc{B:Sx->Prop}(h:jI nk f B Z kvs js)(h2:NM nk Z k i)(l:B a)(m:Z a=!(.lst zs))(g:cz Z zs (f i)):jI nk f B Z (kvs++[(.tup (nk i),k,.ref a)]) (js++[i]):=do _;{do[qi,qi,h.len];2,λj e i' c b=>?_};d<|j<js.length;c←[zv (do[h.len];d)];b←[zv d];h.ent j e i' c b;b←[ye ()];c←[ye (do[h.len];()),h.len];(by cases q:j - js.length with|zero|succ x=>?_;rw[q]at c b);-c;-b;⟨O,h2,a,zs,O,l,m,g⟩;b←[q];-b
def jI.keys{B:Sx->Prop}(h:jI nk f B Z kvs js):kvs.map (·.1)=js.map λi=>KD.tup (nk i):=do(by apply yc);(j);[qu,qu];b<|j<js.length;a:j<kvs.length:=(do[h.len];b);[qh b,qh a];congrArg some (h.ent j _ _ (qh a) (qh b)).1;[v9 (do[h.len];()),v9 ()];2
def Qz(nd:js.Nodup)(inj:Inj nk js):(js.map λi=>KD.tup (nk i)).Nodup := wb.mpr (nd.imp_of_mem λ{a b} c d h e=>h (inj a c b d (KD.tup.inj e)))
def jI.get{B:Sx->Prop}(h:jI nk f B Z kvs js)(nd:js.Nodup)(inj:Inj nk js)(hi:i∈js):∃a zs,vG kvs (.tup (nk i))=!(.ref a)/\B a/\Z a=!(.lst zs)/\cz Z zs (f i):=do _;{j,b}:=jf hi;c:j<kvs.length:=(do[h.len];(qk.mp b).1);{k,m,a,zs,l,d,g,e}:=h.ent j _ i (qh c) b;{a,zs,?_,d,g,e};[←l];pQ (do[h.keys];Qz nd inj) (qh c) k
theorem Jm:∀l:List Sy,cz H (l.map V.str) (l.map .str)|[]=>.nil|x::l=>.cons (.str x) (Jm l)
inductive nJ(vs:List V)(H:Hp)(Q:VK):Prop
 |mk (fa:Sx) (F:Nat->Sx) (S:Nat->Sg) (n:Nat) (M:Nat->Mk) (m:Nat) (N:Nat->Mk) (q:Nat) (xs ms ns:List V) (vp:V) (pt:List Key) (pl:Bool) (h0:vs=[.ref fa,vp,.int (if pl then 5 else 4)]) (h1:FS H fa F S n M m N q xs ms ns) (h2:GK H (.tup pt) vp) (h3:Lay pt) (h4:m<=63)
  (h5:∀H' tq kvs,af H H'->H tq=none->H' tq=!(.dG kvs)->jI (cn S) (λi=>vI M pl (aF S n pt) (aH M m pt) ((aF S n pt).idxOf i)) (λa=>H a=none/\a≠tq) H' kvs (bB S n pt)->(kvs.map (·.2.2)).Nodup->Q (.ref tq) H'):nJ vs H Q
def Ff:Sp:=λvs H Q _=>nJ vs H Q
inductive oD(pl:Bool)(vs:List V)(H:Hp)(Q:VK):Prop
 |mk (fa:Sx) (F:Nat->Sx) (S:Nat->Sg) (n:Nat) (M:Nat->Mk) (m:Nat) (N:Nat->Mk) (q:Nat) (xs ms ns:List V) (vp:V) (pt:List Key) (h0:vs=[.ref fa,vp]) (h1:FS H fa F S n M m N q xs ms ns) (h2:GK H (.tup pt) vp) (h3:Lay pt) (h4:m<=63)
  (h5:∀H' tq kvs,af H H'->H tq=none->H' tq=!(.dG kvs)->jI (cn S) (λi=>vI M pl (aF S n pt) (aH M m pt) ((aF S n pt).idxOf i)) (λa=>H a=none/\a≠tq) H' kvs (bB S n pt)->(kvs.map (·.2.2)).Nodup->Q (.ref tq) H'):oD pl vs H Q
def Fz:Sp:=λvs H Q _=>oD false vs H Q
section
variable {K:PySem.W.Frag}{vs:List V}{H:Hp}{Q:VK}{E:XK}
end
abbrev gH:Sx:=bA
abbrev Bc:Sx:=a9
abbrev MA(H:Hp):Prop:=H cw=!(.tup [.str "",.int 0])
def FQ(H:Hp)(fa:Sx)(es:List V)(rs:List Pc):Prop:=∃F:Nat->Sx,Rd H fa (.dK (cE F 9))/\H (F 1)=!(.lst es)/\AL (fB H) es rs/\(∀r∈rs,vE r)/\(rs.Pairwise λa b=>bV a.ka a.kb b.ka b.kb)/\es.length<=100
def FB.fq{bs vs cs:List V}(h:FB H fa F bs vs cs rs cu k)(a:k<=100):FQ H fa vs rs:={F,h.dk,h.ev,h.fi.pc,h.fi.w,h.fi.up,qg h.fi.vl a}
def FQ.xw{es:List V}(h:FQ H fa es rs):XW (tl rs):=do _;{F,_,_,d,c,b,a}:=h;Gj c b (do[←d.1];a)
abbrev QS:Sy:=(("greatest_place":Sy)++".<locals>.")++"<lambda>"
abbrev jC(H:Hp):Prop:=Tb 116 26 QS gH H
def i8(t:jC H)(s:af (del H gH) H')(e:H b=!o)(h:∀ps,o≠.cf ps):H' b=!o:=s _ _ (do[bR (λz=>?_)];e;{ps,t}:=t.cf;e←[z,t];h ps (qJ e).symm)
def yX(t:jC H)(s:af (del H gH) H'):ai H H':=λb xs e=>i8 t s e (λps z=>nomatch z)
def RW(t:jC H)(s:af (del H gH) H')(r:Rd H a u)(h:∀ps,u≠.cf ps):Rd H' a u:=do e||{o,e}:=r;.inl (i8 t s e h);.inr ⟨o,i8 t s e (λps z=>nomatch z)⟩
def sS(a:Sx):Sx->Prop:=λb=>b=a\/b=gH
def EU :Sp:=λvs H Q _=>∃fa es rs,vs=[.ref fa]/\FQ H fa es rs/\∀H' dq kvs,af H H'->H dq=none->H' dq=!(.dG kvs)->AL (EK (fB H') H') kvs (tl rs)->Q (.ref dq) H'
def E3 :Sp:=λvs H Q _=>∃e f d c ys b E p,∃C:List Key->Prop,vs=[.ref e,f,.ref d]/\Rd H e (.dG c)/\AL (EK (gT H) H) c ys/\(ys.map (·.pt)).Nodup/\(∀x∈ys,x.pt≠[])/\ys.length<=100/\Rd H d (.dG b)/\fy b E/\GK H (nd p) f/\C p/\(∀k o,gX ys k=!o->C o) ∧ ∀H' a ws ini las,af H H'->H a=none->H' a=!(.lst ws)->AL (AZ H') ws (ini++[las])->Rnd.WO (gX ys) E p ini las->ini.length<=101->(∀k∈ini++[las],C k)->Q (.ref a) H'
def Fo :Sp:=λvs H Q _=>∃d c a xs ws ls,vs=[.ref d,.ref c]/\Rd H d (.dG a)/\AL (EK (fB H) H) a xs/\(xs.map (·.pt)).Nodup/\H c=!(.lst ws)/\AL (iH H) ws ls/\ls≠[]/\(∀k∈ls,hp xs k=true)/\jC H ∧ ∀H' v m,af (del H gH) H'->jC H'->m∈ls->(∀b∈ls,¬Mh xs m b)->GK H' (.tup m) v->Q v H'
abbrev Kj:Sy:=(("all_inner_parts":Sy)++".<locals>.")++"<lambda>"
structure dh(H:Hp):Prop where
 ne:gH≠Bc
 a:jC H
 b:Tb 156 41 Kj Bc H
def s2 :Sx->Prop:=λb=>b=gH\/b=Bc
section
variable {H H':Hp}
theorem dh.same(t:dh H)(s:af H H'):dh H':={t.ne,t.a.same s,t.b.same s}
theorem dh.keep(t:dh H)(k:∀b u,H b=!u->((∃ps,u=.cf ps)\/∃c,u=.ext c)->H' b=!u):dh H':={t.ne,t.a.keep k,t.b.keep k}
theorem dh.cut{a:Sx}{o:HO}(t:dh H)(e:H a=!o)(h1:∀ps,o≠.cf ps)(h2:∀c,o≠.ext c)(s:af (del H a) H'):dh H':={t.ne,t.a.cut e h1 h2 s,t.b.cut e h1 h2 s}
theorem dh.wr{a:Sx}{o o':HO}(t:dh H)(e:H a=!o)(h1:∀ps,o≠.cf ps)(h2:∀c,o≠.ext c):dh (upd H a o'):={t.ne,t.a.wr e h1 h2,t.b.wr e h1 h2}
def dh.no(t:dh H){b:Sx}(h:s2 b):∃ps,H b=!(.cf ps):=do rfl||rfl:=h;t.a.cf;t.b.cf
def bJ(t:dh H)(s:af (bP H (s2)) H')(e:H b=!o)(h:∀ps,o≠.cf ps):H' b=!o:=de s e λz=>do _;{ps,q}:=t.no z;e←[q];h ps (qJ e).symm
def kL(t:dh H)(s:af (bP H (s2)) H'):ai H H':=λb xs e=>bJ t s e (λps z=>nomatch z)
def Rg(t:dh H)(s:af (bP H (s2)) H')(r:Rd H a u)(h:∀ps,u≠.cf ps):Rd H' a u:=do e||{o,e}:=r;.inl (bJ t s e h);.inr ⟨o,bJ t s e (λps z=>nomatch z)⟩
theorem FB.bJ{bs vs cs:List V}(h:FB H fa F bs vs cs rs cu k)(t:dh H)(s:af (bP H (s2)) H'):FB H' fa F bs vs cs rs cu k := {Rg t s h.dk (λps z=>nomatch z),h.inj,λi h1 h2=>let⟨xs,e⟩:=h.rest i h1 h2;{xs,My.bJ t s e (λps z=>nomatch z)},My.bJ t s h.eb (λps z=>nomatch z),My.bJ t s h.ev (λps z=>nomatch z),My.bJ t s h.ec (λps z=>nomatch z),h.fi.ab (kL t s)}
theorem dh.free(t:dh H)(s:af (bP H (s2)) H')(t':dh H'){b:Sx}(h:H' b=none):H b=none:=do this:=s.free h;z<|s2 b;{ps,q}:=t'.no z;h←[q];-h;this←[eg z];this
def MY(s:af H H'):af (bP H (s2)) H':=λb u e=>s _ _ (tJ _ _ e)
def dh.Sf(t:dh H)(s:af (del H gH) H')(a:jC H'):dh H'/\af (bP H (s2)) H':=do _;{{t.ne,a,?_},λb u e=>?_};to:∀{b u},b≠gH->H b=!u->H' b=!u:=λn e=>s _ _ (do[bR n];e);e||{c,e1,e2}:=t.b;.inl (to t.ne.symm e);.inr ⟨c,to t.ne.symm e1,to (λz=>?_) e2⟩;{ps,q}:=t.a.cf;q←[←z,e2];-q;d:¬s2 b:=λz=>(do e←[dS z];-e);e←[eg d];s _ _ (do[bR λz=>d (.inl z)];e)
def dh.R0(t:dh H)(s:af (del H Bc) (del H' Bc))(f:Tb 156 41 Kj Bc H'):dh H'/\af (bP H (s2)) H':=do to:∀{b u},b≠Bc->H b=!u->H' b=!u:=λ{b u} n e=>(do this:=s b u (do[bR n];e);this←[bR n];this);{{t.ne,?_,f},λb u e=>?_};e||{c,e1,e2}:=t.a;.inl (to t.ne e);.inr ⟨c,to t.ne e1,to (λz=>?_) e2⟩;{ps,q}:=t.b.cf;q←[←z,e2];-q;d:¬s2 b:=λz=>(do e←[dS z];-e);e←[eg d];to (λz=>d (.inr z)) e
end
theorem up_eq{α:Type}{lt:α->α->Prop}(i:∀a b,lt a b->¬lt b a):∀{xs ys:List α},xs.Pairwise lt->ys.Pairwise lt->(∀a,a∈xs↔a∈ys)->xs=ys|[],ys,_,_,h=>(do(by cases ys with|nil|cons b m=>?_);2;absurd ((h b).mpr List.mem_cons_self) (do 0))|x::xs,[],_,_,h=>absurd ((h x).mp List.mem_cons_self) (do 0)|x::xs,y::ys,hx,hy,h=>do g:=vy.mp hx;f:=vy.mp hy;e:x=y:=(do z||z:=q0.mp ((h x).mp qm);z;w||w:=q0.mp ((h y).mpr qm);w.symm;absurd (f.1 x z) (i _ _ (g.1 y w)));!e;d:¬lt x x:=λz=>i _ _ z z;[up_eq i g.2 f.2 λa=>?_];this:=h a;this←[q0,q0];1;(c);(this.mp (.inr c)).resolve_left λz=>d (do this:=g.1 a c;this←[z];this);(c);(this.mpr (.inr c)).resolve_left λz=>d (do this:=f.1 a c;this←[z];this)
def O1{α:Type}(js:List α)(d:α):(List.range js.length).map (λi=>js.getD i d)=js:=do(by apply yc);(i);[qu];hi<|i<js.length;[yq hi,qh hi];¬some (js.getD i d)=_;[zm,qh hi];2;[List.getElem?_eq_none (do 0<|hi),List.getElem?_eq_none ()];2
def NW{α:Type}{P:V->α->Prop}{D:α->Sw}(d:α){vs:List V}{ls:List α}{ix:List Nat}(h:AL P vs ls)(e:dj (ls.map D) ix):∃ms,AL P (ix.map λi=>vs.getD i .aQ) ms/\((ms.map D).Pairwise λa b=>bT b a=false)/\ms.Perm ls:=do o:ix.Perm (List.range ls.length):=(by have:=e.1;rwa [qj]at this);f:∀i∈ix,i<ls.length:=λi hi=>qo.mp (o.mem_iff.mp hi);{ix.map λi=>ls.getD i d,{do[qj,qj],λm v r l j=>?_},?_,(o.map _).trans (.of_eq (O1 ls d))};(by rw[qu]at l j);{i,hi,rfl}:=wj.mp l;j←[hi];-j;c:=f i (qw hi);k:i<vs.length:=(do[h.1];c);h.2 i _ _ ?_ ?_;[zm,qh k];2;¬ls[i]?=!(ls.getD i d);[zm,qh c];2;[z9];h2:=e.2;(by rw[wb]at h2 ⊢);h2.imp_of_mem λ{a b} p q g=>?_;n:∀i,i∈ix->c_ (ls.map D) i=D (ls.getD i d):=λi hi=>(do this:=f i hi;@c_;[zm,qu,zm,qh this];2);g←[n a p,n b q];g
def NP(H:Hp)(v:V)(x:Pc):Prop:=GK H (.tup x.pt) v
theorem NP.ab(h:NP H v x)(t:ai H H'):NP H' v x:=GK.ab h t
def L5(x:Pc):Sw:=.tuple [.int x.ka,.int x.kb]
def E4(a b:Pc)(h:bV a.ka a.kb b.ka b.kb):bT (L5 a) (L5 b)=true:=iZ h
def Qq(ls:List Pc):KeysAre (ls.map L5) 2:=do _;{dH λd c=>?_,λd c=>?_,λa e b f=>?_,λd c=>?_};{x,_,rfl}:=qf.mp c;2;{x,_,rfl}:=qf.mp c;(by trivial);{x,_,rfl}:=qf.mp e;{y,_,rfl}:=qf.mp f;2;{x,_,rfl}:=qf.mp c;(by decide:1<=60)
def Ej(P:Pc->Bool)(ms:List Pc)(x:Pc):(ms++[x]).filter P=if P x=true then ms.filter P++[x] else ms.filter P:=do[yg];h<|P x=true;[qF h,jd h,yv];[qB h,je h,yv,wx]
def M4{kd:List (KD×V×V)}(h:AL (EK R H) kd xs):AL (NP H) (kd.map (·.2.1)) xs:=h.map λe x _ _ p=>p.2.1
section
variable {vs:List V}{H:Hp}{Q:VK}{E:XK}
end
def tR{ls:List (List Key)}(h:∀k∈ls,Pn k):PyData.canLayAll0 (ls.map tD)=true/\PyData.depthAll (ls.map tD)<=1 := {dH λd a=>do _;{k,b,rfl}:=qf.mp a;(h k b).lay,gR λd a=>do _;{k,b,rfl}:=qf.mp a;eh k}
structure Ln where
 pt:List Key
 wy:Sy
 nk:List Key
 bh:Option Nat
 ka:Int
 kb:Int
 lv:Bool
def cT(L:Nat->Ln)(i:Nat):List Key:=(L i).nk
def uZ(L:Nat->Ln)(i:Nat):Option Nat:=(L i).bh
def L9(L:Nat->Ln)(i:Nat):Sw:=.tuple [.int (L i).ka,.int (L i).kb]
def kG(L:Nat->Ln)(H:Hp)(v:V)(i:Nat):Prop:=∃b a vn c kq,v=.ref b/\H b=!(.tup [a,.str (L i).wy,vn,c,.ref kq,.bl (L i).lv])/\GK H (.tup (L i).pt) a/\NM (cT L) H vn i/\GK H (kd (cT L) (uZ L i)) c/\H kq=!(.tup [.int (L i).ka,.int (L i).kb])
theorem kG.ab(h:kG L H v i)(t:ai H H'):kG L H' v i:=do _;{b,d,vn,g,kq,e,h1,h2,a,c,f}:=h;{b,d,vn,g,kq,e,t _ _ h1,h2.ab t,a.ab t,c.ab t,t _ _ f}
structure WL(L:Nat->Ln)(n:Nat):Prop where
 cJ:n<=1300
 up:∀i j,i<j->j<n->bV (L i).ka (L i).kb (L j).ka (L j).kb
 inj:∀i,i<n->∀j,j<n->(L i).nk=(L j).nk->i=j
 back:∀i,i<n->∀j,(L i).bh=!j->j<i/\(L j).pt=(L i).pt/\(L j).wy=(L i).wy
 lay:∀i,i<n->Lay (L i).nk/\Lay (L i).pt
 wy:∀i,i<n->PyData.strOk (L i).wy=true
def qZ(L:Nat->Ln)(pt:List Key)(wy:Sy)(i:Nat):Bool:=decide ((L i).pt=pt)&&decide ((L i).wy=wy)
def cF(L:Nat->Ln)(n:Nat)(pt:List Key)(wy:Sy):List Nat:=(List.range n).filter (qZ L pt wy)
def iQ(L:Nat->Ln)(n:Nat)(pt:List Key)(wy:Sy):List Nat:=Rga.iC (Rga.cP (uZ L) (cF L n pt wy))
def bC(L:Nat->Ln)(n:Nat)(pt:List Key)(wy:Sy):List Nat:=(iQ L n pt wy).filter λi=>(L i).lv
def WL.vD(W:WL L n)(pt:List Key)(wy:Sy):wC (cT L) (uZ L) (L9 L) (cF L n pt wy) 2:=do f:wC (cT L) (uZ L) (L9 L) (List.range n) 2:=(do _;{do[zo];this:=W.cJ;(),?_,λi hi j m e=>W.inj i (qo.mp hi) j (qo.mp m) e,Rga.hG λi hi b e=>(W.back i hi b e).1,tG λd l=>?_};(uv n).imp_of_mem λ{a b} q o h=>iZ (W.up a b h (qo.mp o));{i,_,rfl}:=qf.mp l;.inl {_,_,O});f.filter λk g c b e=>?_;{h1,h2,p}:=W.back k (qo.mp g) b e;(by unfold qZ at c ⊢);[h2,p];c
def Ew{pt:List Key}:qZ L pt wy i=true↔(L i).pt=pt/\(L i).wy=wy:=do@qZ;[zt,decide_eq_true_iff,decide_eq_true_iff]
def N9{pt:List Key}(W:WL L n):(iQ L n pt wy).length<=n:=do@iQ;[Rga.gK (W.vD pt wy).wf];@cF;qg (we _ _) (do[zo];qe _)
def Ry(H:Hp)(fa:Sx)(L:Nat->Ln)(n:Nat):Prop:=∃kvs a vs,Rd H fa (.dK kvs)/\bN kvs (.inr "lines")=!(.ref a)/\H a=!(.lst vs)/\AN (kG L H) vs (List.range n)/\WL L n
structure Ce where
 pt:List Key
 rw:List Key
 cl:List Key
 wd:Sy
 ka:Int
 kb:Int
def ir(C:Nat->Ce)(H:Hp)(v:V)(i:Nat):Prop:=∃b a c vc kq,v=.ref b/\H b=!(.tup [a,c,vc,.str (C i).wd,.ref kq])/\GK H (.tup (C i).pt) a/\GK H (.tup (C i).rw) c/\GK H (.tup (C i).cl) vc/\H kq=!(.tup [.int (C i).ka,.int (C i).kb])
theorem ir.ab(h:ir C H v i)(t:ai H H'):ir C H' v i:=do _;{b,f,a,vc,kq,e,h1,h2,c,d,g}:=h;{b,f,a,vc,kq,e,t _ _ h1,h2.ab t,c.ab t,d.ab t,t _ _ g}
def Ml(z:Sy):Prop:=z = "" \/ z = "ten" \/ z = "abcdefgh" \/ z = "x"
structure Mm(C:Nat->Ce)(m:Nat):Prop where
 cJ:m<=100
 up:∀i j,i<j->j<m->bV (C i).ka (C i).kb (C j).ka (C j).kb
 lay:∀i,i<m->Lay (C i).pt/\Lay (C i).rw/\Lay (C i).cl
 wd:∀i,i<m->Ml (C i).wd
def Dt(W:WL L n){pt:List Key}:(bC L n pt wy).length<=1300:=do@bC;this:=we (λi=>(L i).lv) (iQ L n pt wy);h2:=N9 (pt:=pt) (wy:=wy) W;this:=W.cJ;()
def o4(C:Nat->Ce)(m:Nat)(pt r c:List Key):Sy:=(List.range m).foldl (λacc i=>if(C i).pt=pt/\(C i).rw=r/\(C i).cl=c then(C i).wd else acc) ""
def Ge(C:Nat->Ce)(m:Nat)(pt r c:List Key):o4 C (m+1) pt r c=if(C m).pt=pt/\(C m).rw=r/\(C m).cl=c then(C m).wd else o4 C m pt r c:=do@o4;[yi,jz];2
def xG(L:Nat->Ln)(C:Nat->Ce)(m:Nat)(pt:List Key)(a:List Nat)(r:Nat):List V:=a.map λc=>.str (o4 C m pt (cT L r) (cT L c))
def Jw(L:Nat->Ln)(C:Nat->Ce)(m:Nat)(pt:List Key)(b:List Nat)(H0 H:Hp)(v:V)(r:Nat):Prop:=∃a,v=.ref a/\H0 a=none/\H a=!(.lst (xG L C m pt b r))
def Jw.same{pt:List Key}(h:Jw L C m pt b H0 H v r)(s:af H H'):Jw L C m pt b H0 H' v r:=do _;{a,h1,h2,c}:=h;{a,h1,h2,s _ _ c}
theorem Hu:∀(kvs acc:List (KD×V×V)),(vG (putAll acc kvs) k).getD d=kvs.foldl (λa e=>if e.1=k then e.2.2 else a) ((vG acc k).getD d)|[],acc=>rfl|e::kvs,acc=>do¬(vG (putAll (pG acc e.1 e.2.1 e.2.2) kvs) k).getD d=_;[Hu kvs,eL,j8];h<|e.1=k;[qF h.symm,qF h];2;[qB (λz=>h z.symm),qB h]
theorem LG(C:Nat->Ce)(pt r c:List Key):∀m,((List.range m).filter λi=>decide ((C i).pt=pt)).foldl (λa i=>if KD.two (C i).rw (C i).cl=KD.two r c then V.str (C i).wd else a) (V.str "")=.str (o4 C m pt r c)| 0=>rfl|m+1=>do[yi,yg,jz,LG C pt r c m,Ge];hp<|(C m).pt=pt;[List.filter_cons_of_pos (do 0<|hp)];¬(if KD.two (C m).rw (C m).cl=KD.two r c then V.str (C m).wd else _)=_;b<|(C m).rw=r/\(C m).cl=c;[qF (do[b.1,b.2]),qF {hp,b}];[qB (λz=>b (do(by injection z with z1 z2);{z1,z2})),qB (λz=>b z.2)];[List.filter_cons_of_neg (do 0<|hp)];¬V.str _=_;[qB (λz=>hp z.1)]
def zJ(H:Hp)(fa:Sx)(L:Nat->Ln)(n:Nat)(C:Nat->Ce)(m:Nat):Prop:=∃kvs a vs b cs,Rd H fa (.dK kvs)/\bN kvs (.inr "lines")=!(.ref a)/\H a=!(.lst vs)/\AN (kG L H) vs (List.range n)/\WL L n/\bN kvs (.inr "cells")=!(.ref b)/\H b=!(.lst cs)/\AN (ir C H) cs (List.range m)/\Mm C m
def zJ.fl(h:zJ H fa L n C m):Ry H fa L n:=do _;{kvs,c,vs,e,cs,h1,h2,a,b,d,_}:=h;⟨kvs,c,vs,h1,h2,a,b,d⟩
theorem zJ.same(h:zJ H fa L n C m)(s:af H H'):zJ H' fa L n C m:=do _;{kvs,f,vs,j,cs,h1,h2,d,e,k,c,a,b,l}:=h;{kvs,f,vs,j,cs,Rd.same h1 s,h2,s _ _ d,e.imp λv i g=>g.ab s.ab,k,c,s _ _ a,b.imp λv i g=>g.ab s.ab,l}
def EW :Sp:=λvs H Q _=>∃fa a pt wy L n,vs=[.ref fa,a,.str wy]/\Ry H fa L n/\GK H (.tup pt) a/\Lay pt/\∀H' q zs,af H H'->H q=none->H' q=!(.lst zs)->AN (NM (cT L) H') zs (bC L n pt wy)->Q (.ref q) H'
def D' :Sp:=λvs H Q _=>∃v C i,vs=[v]/\ir C H v i/\∀a,DT H a (.tuple [.int (C i).ka,.int (C i).kb])->Q a H
def Eg :Sp:=λvs H Q _=>∃fa a pt L n C m,vs=[.ref fa,a]/\zJ H fa L n C m/\GK H (.tup pt) a/\Lay pt/\∀H' dq kvs,af H H'->H dq=none->H' dq=!(.dG kvs)->(∀r c,(vG kvs (.two r c)).getD (.str "")=.str (o4 C m pt r c))->Q (.ref dq) H'
def Dc :Sp:=λvs H Q _=>∃fa e pt L n C m,vs=[.ref fa,e]/\zJ H fa L n C m/\GK H (.tup pt) e/\Lay pt ∧ ∀H' q b c wp f d ws,af H H'->H q=none->H' q=!(.tup [.ref b,.ref c,.ref wp])->H b=none->H c=none->H wp=none->b≠c->b≠wp->c≠wp->H' b=!(.lst f)->H' c=!(.lst d)->H' wp=some (.lst ws)-> AN (NM (cT L) H') f (bC L n pt "row")->AN (NM (cT L) H') d (bC L n pt "column")->AN (Jw L C m pt (bC L n pt "column") H H') ws (bC L n pt "row")->ws.Nodup->(∀a,V.ref a∈ws->a≠b/\a≠c/\a≠wp)->Q (.ref q) H'
inductive vA{A B:Type}(p:A->B->Prop):Prop
 |mk (a1:A) (b1:B) (h:p a1 b1):vA p
inductive rQ{A B C:Type}(p:A->B->C->Prop):Prop
 |mk (a1:A) (b1:B) (c1:C) (h:p a1 b1 c1):rQ p
inductive F4{A B C D:Type}(p:A->B->C->D->Prop):Prop
 |mk (a1:A) (b1:B) (c1:C) (d1:D) (h:p a1 b1 c1 d1):F4 p
inductive FV{A B C D E F:Type}(p:A->B->C->D->E->F->Prop):Prop
 |mk (a1:A) (b1:B) (c1:C) (d1:D) (e1:E) (f1:F) (h:p a1 b1 c1 d1 e1 f1):FV p
inductive wN{A B C D E F G H:Type}(p:A->B->C->D->E->F->G->H->Prop):Prop
 |mk (a1:A) (b1:B) (c1:C) (d1:D) (e1:E) (f1:F) (g1:G) (h1:H) (h:p a1 b1 c1 d1 e1 f1 g1 h1):wN p
inductive PK(A B C:Prop):Prop
 |mk(a1:A)(b1:B)(c1:C)
inductive ic(A B C D:Prop):Prop
 |mk(a1:A)(b1:B)(c1:C)(d1:D)
inductive mT(A B C D E F:Prop):Prop
 |mk(a1:A)(b1:B)(c1:C)(d1:D)(e1:E)(f1:F)
section
variable {a:Sx}{o:Obj}{xs:List V}{kvs:List (KD×V×V)}{lo:Int}{n:Nat}{g:TG}{t u tb:TS}{D:Ends}{σ:L2.St}{H:Hp}{tt:TT}{Q:Bool->Hp->Prop}
def bD(b:Nat->L2.St->Hp->Prop)(h0:b 0 σ H)(f:∀i σ H,i<=xs.length->b i σ H->az H a xs)(e:∀i x σ H,xs[i]?=!x->b i σ H->∀N:L2.St->Hp->Prop,(∀σ H,b (i+1) σ H->N σ H)->g x σ H λc H2=>tb {D with nx:=N,ct:=N,bk:=D.nx} c H2)(d:∀σ H,b xs.length σ H->D.nx σ H):=GC (a:=a) (g:=g) (tb:=tb) b h0 f (λi x σ H p q=>e i x σ H p q _ λ_ _ h=>h) d
def cg(a:Nat->L2.St->Hp->Prop)(h0:a 0 σ H)(d:∀i σ H,i<n->a i σ H->∀N:L2.St->Hp->Prop,(∀σ H,a (i+1) σ H->N σ H)->g (.int (lo+i)) σ H λb H2=>tb {D with nx:=N,ct:=N,bk:=D.nx} b H2)(c:∀σ H,a n σ H->D.nx σ H):=Qb (g:=g) (tb:=tb) a h0 (λi σ H p q=>d i σ H p q _ λ_ _ h=>h) c
def pT(b:Nat->L2.St->Hp->Prop)(h0:b 0 σ H)(f:∀i σ H,i<=xs.length->b i σ H->az H a xs)(e:∀i x σ H p,xs[i]?=!x->b i σ H->H p=none->∀N:L2.St->Hp->Prop,(∀σ H,b (i+1) σ H->N σ H)->g (.ref p) σ (upd H p (.tup [.int i,x])) λc H2=>tb {D with nx:=N,ct:=N,bk:=D.nx} c H2)(d:∀σ H,b xs.length σ H->D.nx σ H):=OR (a:=a) (g:=g) (tb:=tb) b h0 f (λi x σ H p q r s=>e i x σ H p q r s _ λ_ _ h=>h) d
def hZ(b:Nat->L2.St->Hp->Prop)(h0:b 0 σ H)(j:∀i σ H,b i σ H->H a=!(.cI o (.dG kvs)))(f:∀i e σ H,kvs[i]?=!e->b i σ H->∀N:L2.St->Hp->Prop,(∀σ H,b (i+1) σ H->N σ H)->g e.2.1 σ H λc H2=>tb {D with nx:=N,ct:=N,bk:=D.nx} c H2)(d:∀σ H,b kvs.length σ H->D.nx σ H):=M3 (g:=g) (tb:=tb) b h0 j (λi x σ H p q=>f i x σ H p q _ λ_ _ h=>h) d
def lC(b:Nat->L2.St->Hp->Prop)(h0:b 0 σ H)(j:∀i σ H,b i σ H->H a=!(.cI o (.dG kvs)))(f:∀i e σ H p,kvs[i]?=!e->b i σ H->H p=none->∀N:L2.St->Hp->Prop,(∀σ H,b (i+1) σ H->N σ H)->g (.ref p) σ (upd H p (.tup [e.2.1,e.2.2])) λc H2=>tb {D with nx:=N,ct:=N,bk:=D.nx} c H2)(d:∀σ H,b kvs.length σ H->D.nx σ H):=Rm (g:=g) (tb:=tb) b h0 j (λi x σ H p q r s=>f i x σ H p q r s _ λ_ _ h=>h) d
def tK(P:L2.St->Hp->Prop)(h1:∀N:L2.St->Hp->Prop,(∀σ H,P σ H->N σ H)->t {D with nx:=N} σ H)(h2:∀σ H,P σ H->u D σ H):JQ t u D σ H:={P,h1 P λ_ _ h=>h,h2}
def om(P:Bool->Hp->Prop)(h1:∀N:Bool->Hp->Prop,(∀b H,P b H->N b H)->tt σ H N)(h2:∀b H,P b H->Q b H):zj tt σ H Q:={P,h1 P λ_ _ h=>h,h2}
def L7{R:(L2.St->Hp->Prop)->Prop}{B:(L2.St->Hp->Prop)->Prop}(P:L2.St->Hp->Prop)(h1:R P)(h2:∀N:L2.St->Hp->Prop,(∀σ H,P σ H->N σ H)->B N):∃N:L2.St->Hp->Prop,R N/\B N:={P,h1,h2 P λ_ _ h=>h}
end
def rF(h:c<e\/c=e/\d<=d')(g:bV a b c d):bV a b e d':=by unfold bV at g ⊢;omega
section
variable {g:List Key->Option (List Key)}{E:List Key->Prop}{p l l':List Key}{i i':List (List Key)}
theorem nW(h:Rnd.WO g E p i l)(h':Rnd.WO g E p i' l'):∀n:Nat,n<(i++[l]).length->n<(i'++[l']).length->(i++[l])[n]?=(i'++[l'])[n]?| 0,_,_=>(do[←re,←re,h.hd,h'.hd])|n+1,a,b=>do e:=nW h h' n () ();c:=qh (show n<(i++[l]).length from ());f:=h.ch n _ _ c (qh a);d:=h'.ch n _ _ (e.symm.trans c) (qh b);[qh a,qh b,qJ (f.symm.trans d)]
def Aj(h:Rnd.WO g E p i l)(h':Rnd.WO g E p i' l'):¬i.length<i'.length:=λz=>do f:(i++[l]).length=i.length+1:=(do[qi,qt]);c:(i'++[l']).length=i'.length+1:=(do[qi,qt]);e:=nW h h' i.length () ();e←[ye (qe _),gh,zv z,qh z];e:l=i'[i.length]:=qJ e;b:l∈i':=e▸y0 z;y||{_,y||y}:=h.en;{r,a,d}:=z8.mp y;q:=nW h h' r () ();q←[zv a,zv (),qh a,qh ()];jv.mp (m7.mp h'.nd) r i.length () z a (do[←qJ q,d,e]);h'.F8 b y;h'.out _ b y
def kY(h:Rnd.WO g E p i l)(h':Rnd.WO g E p i' l'):i=i'/\l=l':=do e:i.length=i'.length:=(do this:=Aj h h';this:=Aj h' h;());q:i++[l]=i'++[l']:=yc λn=>(do z<|n<(i++[l]).length;nW h h' n z (by rw[qi,qt]at z ⊢;omega);[v9 (),v9 (by rw[qi,qt]at z ⊢;omega)]);{a,b}:=List.append_inj q e;{a,by injection b}
end
inductive pH(xs:List Pc):Nat->(List Key->Prop)->(List Key->Prop)->Prop
 |z:pH xs 0 (λ_=>False) λ_=>False
 |no {j E T x ini las}:pH xs j E T->xs[j]?=!x->Rnd.WO (gX xs) E x.pt ini las->las∉ini->pH xs (j+1) (λk=>E k\/k∈ini++[las]) T
 |yes {j E T x ini las r m}:pH xs j E T->xs[j]?=!x->Rnd.WO (gX xs) E x.pt ini las->(∃h:r<ini.length,ini[r]=las)->m∈ini.drop r->(∀b∈ini.drop r,¬Mh xs m b)->pH xs (j+1) (λk=>E k\/k∈ini++[las]) λk=>k=m\/T k
def pH.eq(W:XW xs)(h:pH xs j E T):∀{g f:List Key->Prop},pH xs j g f->E=g/\T=f:=do(by induction h with|z|no h e w n i|yes h e w q m x i=>?_);(g,f,h');-h';{O,O};(g,f,h');(by cases h' with|no h2 c d o|yes h2 c d k _ _=>?_);{rfl,rfl}:=i h2;c←[e];-c;{rfl,rfl}:=kY w d;{O,O};{rfl,rfl}:=i h2;c←[e];-c;{rfl,rfl}:=kY w d;{a,b}:=k;absurd (b▸y0 a) n;(g,f,h');(by cases h' with|no h2 c d o|yes h2 c d k l p=>?_);{rfl,rfl}:=i h2;c←[e];-c;{rfl,rfl}:=kY w d;{a,b}:=q;absurd (b▸y0 a) o;{rfl,rfl}:=i h2;c←[e];-c;{rfl,rfl}:=kY w d;{a,b}:=q;{a2,r}:=k;s:=(j4 w.nd (h₀:=a) (h₁:=a2)).mp (b.trans r.symm);!s;this:=(W.Su _ _ (w.F8 (gr m)) (w.F8 (gr l))).resolve_right λz=>z.elim (x _ l) (p _ m);[this];{O,O}
def wA(w:List (List Key))(k:List Key):Bool:=w.any λx=>decide (x=k)
def Kz:wA w k=true↔k∈w:=do@wA;0
inductive sI(ys:List Pc):Nat->(List Key->Option Bool)->Prop
 |z:sI ys 0 λk=>if k=bE then some true else none
 |s {j f x} {ini:List (List Key)} {las:List Key}:sI ys j f->ys[j]?=!x->Rnd.WO (gX ys) (λk=>f k≠none) x.pt ini las->sI ys (j+1) λk=>if wA (ini++[las]) k=true then some ((f las).getD false) else f k
def sI.eq(h:sI ys j f):∀{a:List Key->Option Bool},sI ys j a->f=a:=do(by induction h with|z|s h e w d=>?_);(a,h');-h';2;(a,h');(by cases h' with|s h2 b c=>?_);this:=d h2;!this;b←[e];-b;{rfl,rfl}:=kY w c;2
structure ZW(ys:List Pc):Prop where
 nd:(ys.map (·.pt)).Nodup
 pt:∀x∈ys,Nm x.pt
 ou:∀x∈ys,Qn x.ou
 cJ:ys.length<=100
 A1:∀x∈ys,∀y∈ys,x=y\/bV x.ka x.kb y.ka y.kb\/bV y.ka y.kb x.ka x.kb
def ZW.Q0(W:ZW ys)(P:Pc->Bool):ZW (ys.filter P) := {W.nd.sublist ((m8).map _),λx a=>W.pt x (zk.mp a).1,λx a=>W.ou x (zk.mp a).1,qg (we _ _) W.cJ,λx a y b=>W.A1 x (zk.mp a).1 y (zk.mp b).1}
theorem ZW.map(W:ZW ys)(h:∀x,(F x).pt=x.pt/\(F x).ka=x.ka/\(F x).kb=x.kb)(o:∀x∈ys,Qn (F x).ou):ZW (ys.map F):=do e:(ys.map F).map (·.pt)=ys.map (·.pt):=(do[z9];yu λx _=>(h x).1);{e▸W.nd,λx a=>?_,λx a=>?_,do[qj];W.cJ,λx a y b=>?_};{z,hz,rfl}:=qf.mp a;[(h z).1];W.pt z hz;{z,hz,rfl}:=qf.mp a;o z hz;{z,hz,rfl}:=qf.mp a;{u,c,rfl}:=qf.mp b;[(h z).2.1,(h z).2.2,(h u).2.1,(h u).2.2];(W.A1 z hz u c).imp (λe=>do[e]) id
def uL(f:List Key->Option Bool)(x:Pc):Pc:=if f x.pt=some true then x else{x with ou:=[]}
def oR(f:List Key->Option Bool)(x:Pc):(uL f x).pt=x.pt/\(uL f x).ka=x.ka/\(uL f x).kb=x.kb:=do@uL;by split <;> exact{O,O,O}
def yV(x:Pc):(ef T x).pt=x.pt/\(ef T x).ka=x.ka/\(ef T x).kb=x.kb:=do@ef;by split <;> exact{O,O,O}
def XW.zw(W:XW xs)(T:List Key->Prop):ZW (xs.map (ef T)) := ZW.map {W.nd,λx a=>(W.w x a).pt,λx a=>.inr (W.w x a).ou,W.cJ,W.A1} yV λx a=>.inr (zC (W.w x a)).ou
def qP(rs zs:List Pc):Prop:=∃E T f,pH (tl rs) (tl rs).length E T/\sI ((tl rs).map (ef T)) (tl rs).length f/\zs=((tl rs).map (ef T)).map (uL f)
theorem qP.zw(h:qP rs zs)(W:XW (tl rs)):ZW zs:=do _;{E,T,f,_,_,rfl}:=h;(W.zw T).map (oR f) λx a=>?_;@uL;3;(W.zw T).ou x a;.inl rfl
theorem qP.eq(h:qP rs zs)(W:XW (tl rs))(h':qP rs c):zs=c:=do _;{E,T,f,a,b,rfl}:=h;{j,i,g,d,e,rfl}:=h';{rfl,rfl}:=a.eq W d;[b.eq e]
def F_(rs:List Pc)(cu:List (List Key))(zs:List Pc)(g:List Key->Option Bool):Prop:=qP rs zs/\sI (zs.filter (lfp cu)) (zs.filter (lfp cu)).length g
theorem F_.eq{g g':List Key->Option Bool}(h:F_ rs cu zs g)(W:XW (tl rs))(h':F_ rs cu a g'):zs=a/\g=g':=do this:=h.1.eq W h'.1;!this;{O,h.2.eq h'.2}
structure RN(H:Hp)(ys:List Pc)(f:List Key->Option Bool)(kr:List (KD×V×V)):Prop where
 kn:(kr.map (·.1)).Nodup
 ent:∀e∈kr,∃k,k∈nodes ys/\e.1=nd k/\GK H (nd k) e.2.1
 at_:∀k,vG kr (nd k)=(f k).map V.bl
section
variable {H H':Hp}{ys:List Pc}{f:List Key->Option Bool}{kr:List (KD×V×V)}
theorem RN.ab(h:RN H ys f kr)(t:ai H H'):RN H' ys f kr:={h.kn,λe a=>let⟨k,h1,h2,b⟩:=h.ent e a;{k,h1,h2,b.ab t},h.at_}
def RN.cJ(h:RN H ys f kr)(d:ys.length<=100):kr.length<=201:=do this:=Ja (kr.map (·.1)) ((nodes ys).map My.nd) h.kn λa b=>(do _;{e,c,rfl}:=qf.mp b;{k,h1,h2,_}:=h.ent e c;qf.mpr {k,h1,h2.symm});this←[qj,qj];(by unfold nodes at this);this←[zd,qi,qj,qj];()
def RN.put(h:RN H ys f kr){k:List Key}{y:V}(c:Bool)(d:k∈nodes ys)(g:GK H (My.nd k) y):RN H ys (λa=>if a=k then some c else f a) (pG kr (My.nd k) y (.bl c)) where
 kn:=O0 h.kn _ _ _
 ent:=λe b=>by
  rcases IK b with rfl|⟨e',he',h1,h2⟩
  .exact⟨k,d,O,g⟩
  .obtain⟨i,l,j,m⟩:=h.ent e' he'
   exact{i,l,h1.symm.trans j,by rw[←h2];exact m}
 at_:=λa=>by
  rw[eL];show _=(if a=k then some c else f a).map V.bl
  by_cases z:a=k
  .subst z;rw[qF rfl,qF rfl];rfl
  .rw[qB (λy=>z (pz y)),qB z];exact h.at_ a
def RN.sn(h:RN H ys f kr):fy kr (λk=>f k≠none):=λk=>do¬(_↔f k≠none);[h.at_ k];(by cases q:f k with|none|some b=>?_);{λz=>absurd z qr,λz=>absurd rfl z};{(λ_ z=>nomatch z),λ_=>rfl}
def RN.one(g:GK H (.tup bE) y):RN H ys (λk=>if k=bE then some true else none) [((.tup bE,y,.bl true):KD×V×V)] where
 kn:=z6.mpr {(λz=>nomatch z),vi}
 ent:=λe c=>by rw[qx.mp c];exact{bE,qm,O,g}
 at_:=λk=>by
  have h:=eL ([]:List (KD×V×V)) (.tup bE) (My.nd k) y (.bl true);rw[show pG ([]:List (KD×V×V)) (.tup bE) y (.bl true)=[(.tup bE,y,.bl true)] from rfl]at h;rw[h];show _=(if k=bE then some true else none:Option Bool).map V.bl
  by_cases z:k=bE
  .rw[qF z,qF (by rw[z];rfl)];rfl
  .rw[qB z,qB (λq:My.nd k=KD.tup bE=>z (pz (a:=k) (b:=bE) q))];rfl
end
structure qQ(zs:List Pc)(G:List Key->Prop)(p:List Key)(l:List Pc):Prop where
 up:l.Pairwise λa b=>bV a.ka a.kb b.ka b.kb
 mem:∀x,x∈l↔(x∈zs/\x.ou=p/\G x.pt)
def qQ.eq(h:qQ zs G p l)(g:qQ zs G p m):l=m := up_eq (lt:=λa b:Pc=>bV a.ka a.kb b.ka b.kb) (λa b h1 h2=>by unfold bV at h1 h2;omega) h.up g.up λx=>(h.mem x).trans (g.mem x).symm
open Classical in
noncomputable def Cy(G:List Key->Prop)(p:List Key)(x:Pc):Bool:=decide (x.ou=p/\G x.pt)
def xj:Cy G p x=true↔(x.ou=p/\G x.pt):=do@Cy;0
def E8(h:¬(x.ou=p/\G x.pt)):Cy G p x=false:=gj.mpr λz=>h (xj.mp z)
def Pw{zs ms:List Pc}{G:List Key->Prop}{p:List Key}(c:ms.Pairwise λa b=>bV a.ka a.kb b.ka b.kb)(d:∀x,x∈ms↔x∈zs):qQ zs G p (ms.filter (Cy G p)) := {c.sublist m8,λx=>do[zk,d,xj]}
def Qw{zs:List Pc}(W:ZW zs){D:Pc->Sw}(i:∀a b:Pc,bV a.ka a.kb b.ka b.kb->bT (D a) (D b)=true){ms:List Pc}(c:(ms.map D).Pairwise λa b=>bT b a=false)(hn:ms.Nodup)(d:∀x∈ms,x∈zs):ms.Pairwise λa b=>bV a.ka a.kb b.ka b.kb:=do c:=wb.mp c;List.Pairwise.imp_of_mem (λ{a b} f g h=>?_) (c.and (m7.mp hn));e||e||e:=W.A1 a (d a f) b (d b g);absurd e h.2;e;h←[i _ _ e];absurd h.1 Bool.true_eq_false.mp
structure pC(G:List Key->Prop)(ms:List Pc)(H0 H:Hp)(dq:Sx)(kvs:List (KD×V×V)):Prop where
 has:H dq=!(.dG kvs)
 each:∀p,(vG kvs (nd p)=none/\ms.filter (Cy G p)=[])\/∃q vs,vG kvs (nd p)=!(.ref q)/\H q=!(.lst vs)/\AL (NP H) vs (ms.filter (Cy G p))/\H0 q=none
 inj:∀k k' q,vG kvs k=!(.ref q)->vG kvs k'=!(.ref q)->k=k'
 live:∀k q,vG kvs k=!(.ref q)->∃xs,H q=!(.lst xs)
section
variable {ms:List Pc}{G:List Key->Prop}{H0 H H':Hp}{dq q:Sx}{kvs:List (KD×V×V)}{x:Pc}{vn vk:V}{vs:List V}
def pC.same(h:pC G ms H0 H dq kvs)(s:af H H'):pC G ms H0 H' dq kvs where
 has:=s _ _ h.has
 each:=λk=>by
  rcases h.each k with z|⟨q,vs,h1,h2,h3,h4⟩
  .exact .inl z
  .exact .inr ⟨q,vs,h1,s _ _ h2,h3.imp λv i g=>NP.ab g s.ab,h4⟩
 inj:=h.inj
 live:=λk q e=>let⟨xs,z⟩:=h.live k q e;{xs,s _ _ z}
def pC.skip(h:pC G ms H0 H dq kvs)(a:¬G x.pt):pC G (ms++[x]) H0 H dq kvs := {h.has,λp=>do[Ej,qB (do[E8 λz=>a z.2];qr)];h.each p,h.inj,h.live}
def pC.old(h:pC G ms H0 H dq kvs)(l:G x.pt)(e:vG kvs (nd x.ou)=!(.ref q))(eq:H q=!(.lst vs))(m:NP H vn x):pC G (ms++[x]) H0 (upd H q (.lst (vs++[vn]))) dq kvs where
 has:=by rw[ak (λz=>by rw[←z,h.has]at eq;cases eq)];exact h.has
 inj:=h.inj
 live:=λk a n=>by
  by_cases z:a=q
  .subst z;exact{_,aB}
  .obtain⟨xs,y⟩:=h.live k a n
   exact{xs,by rw[ak z];exact y}
 each:=λk=>by
  have j:ai H (upd H q (.lst (vs++[vn]))):=ai.wl eq;rw[Ej]
  by_cases c:x.ou=k
  .subst c
   rw[qF (xj.mpr {O,l})];rcases h.each x.ou with⟨z,_⟩|⟨a,b,h1,h2,d,f⟩
   .rw[z]at e;cases e
   .rw[e]at h1
    cases h1;rw[eq]at h2;cases h2;exact .inr {q,_,e,aB,(d.snoc m).imp λv i g=>NP.ab g j,f}
  .rw[qB (by rw[E8 λz=>c z.1];exact qr)]
   rcases h.each k with z|⟨a,b,h1,h2,d,f⟩
   .exact .inl z
   .refine .inr ⟨a,b,h1,?_,d.imp λv i g=>NP.ab g j,f⟩
    have nq:a≠q:=λz=>c (pz (h.inj _ _ q e (by rw[←z];exact h1)))
    rw[ak nq];exact h2
def pC.first(h:pC G ms H0 H dq kvs)(s:G x.pt)(e:vG kvs (nd x.ou)=none)(p:H0 q=none)(eq:H q=!(.lst []))(b:∀k,vG kvs k≠some (.ref q))(t:NP H vn x):pC G (ms++[x]) H0 (upd (upd H dq (.dG (pG kvs (nd x.ou) vk (.ref q)))) q (.lst [vn])) dq (pG kvs (nd x.ou) vk (.ref q)) where
 has:=by rw[ak (λz=>by rw[←z,h.has]at eq;cases eq),aB]
 inj:=λk n a h1 h2=>by
  rw[eL]at h1 h2
  by_cases l:k=nd x.ou
  .by_cases j:n=nd x.ou
   .rw[l,j]
   .rw[qF l]at h1
    rw[qB j]at h2;cases h1;exact absurd h2 (b n)
  .rw[qB l]at h1
   by_cases j:n=nd x.ou
   .rw[qF j]at h2
    cases h2;exact absurd h1 (b k)
   .rw[qB j]at h2
    exact h.inj _ _ _ h1 h2
 live:=λk a f=>by
  by_cases z:a=q
  .subst z;exact{_,aB}
  .rw[eL]at f
   by_cases c:k=nd x.ou
   .rw[qF c]at f
    cases f;exact absurd rfl z
   .rw[qB c]at f
    obtain⟨xs,y⟩:=h.live k a f
    have m:a≠dq:=λz=>by rw[z,h.has]at y;cases y
    exact{xs,by rw[ak z,ak m];exact y}
 each:=λk=>by
  have nq:q≠dq:=λz=>by rw[z,h.has]at eq;cases eq
  have u:ai H (upd H dq (.dG (pG kvs (nd x.ou) vk (.ref q)))):=ai.wd h.has
  have o:(upd H dq (.dG (pG kvs (nd x.ou) vk (.ref q)))) q=!(.lst []):=by rw[ak nq];exact eq
  have r:=u.trans (ai.wl (o':=.lst [vn]) o);rw[Ej,eL]
  by_cases c:x.ou=k
  .subst c
   rw[qF rfl,qF (xj.mpr {O,s})];rcases h.each x.ou with⟨_,z⟩|⟨a,d,h1,_⟩
   .rw[z]
    exact .inr ⟨q,[vn],O,aB,.cons (t.ab r) .nil,p⟩
   .rw[e]at h1;cases h1
  .rw[qB (λz:nd k=nd x.ou=>c (pz z.symm)),qB (show ¬Cy G k x=true by rw[E8 λz=>c z.1];exact qr)]
   rcases h.each k with z|⟨a,d,h1,h2,h3,h4⟩
   .exact .inl z
   .refine .inr ⟨a,d,h1,?_,h3.imp λv i g=>NP.ab g r,h4⟩
    have w:a≠q:=λz=>b _ (z▸h1)
    have m:a≠dq:=λz=>by rw[z,h.has]at h2;cases h2
    rw[ak w,ak m];exact h2
end
inductive Cs(vs:List V)(H:Hp)(Q:VK)(_:XK):Prop
 |mk(tq kt xs:_)(_:vs=[.ref tq])(_:Rd H tq (.dG kt))(_:AL (EK (fB H) H) kt xs)(_:XW xs)(_:jC H)(_:∀H' ta ku E T,af (bP H (sS tq)) H'->Rd H' tq (.dG kt)->jC H'->H ta=none->H' ta=!(.dG ku)->pH xs xs.length E T->SM ku T->Q (.ref ta) H')
inductive Ca(vs:List V)(H:Hp)(Q:VK)(_:XK):Prop
 |mk(tq kt xs:_)(_:vs=[.ref tq])(_:Rd H tq (.dG kt))(_:AL (EK (fB H) H) kt xs)(_:XW xs)(_:jC H)(_:MA H)(_:∀H' sa ks E T,af (bP H (sS tq)) H'->jC H'->H sa=none->H' sa=!(.dG ks)->pH xs xs.length E T->AL (EK (pW H') H') ks (xs.map (ef T))->Q (.ref sa) H')
inductive DO(vs:List V)(H:Hp)(Q:VK)(_:XK):Prop
 |mk(oa ko ys:_)(_:vs=[.ref oa])(_:Rd H oa (.dG ko))(_:AL (EK (gT H) H) ko ys)(_:ZW ys)(_:MA H)(_:∀H' ra kr f,af (del H oa) H'->Rd H' oa (.dG ko)->H ra=none->H' ra=!(.dG kr)->RN H' ys f kr->sI ys ys.length f->(∀x∈ys,f x.pt≠none)->Q (.ref ra) H')
inductive Dp(vs:List V)(H:Hp)(Q:VK)(_:XK):Prop
 |mk(fa es rs:_)(_:vs=[.ref fa])(_:FQ H fa es rs)(_:jC H)(_:MA H)(_:∀H' da kd zs,af (del H gH) H'->jC H'->H da=none->H' da=!(.dG kd)->qP rs zs->AL (EK (gT H') H') kd zs->Q (.ref da) H')
inductive D6(vs:List V)(H:Hp)(Q:VK)(_:XK):Prop
 |mk(fa F bs es cs rs cu k da kd zs:_)(_:vs=[.ref fa,.ref da])(_:FB H fa F bs es cs rs cu k)(_:k<=100)(_:Rd H da (.dG kd))(_:AL (EK (gT H) H) kd zs)(_:ZW zs)(_:MA H)(_:∀H' qa kq g,af (del H da) H'->Rd H' da (.dG kd)->H qa=none->H' qa=!(.dG kq)->sI (zs.filter (lfp cu)) (zs.filter (lfp cu)).length g->fy kq (λk=>g k=!true)->Q (.ref qa) H')
def GT(g:List Key->Option Bool)(k:List Key):Prop:=g k=!true
inductive BK(vs:List V)(H:Hp)(Q:VK)(_:XK):Prop
 |mk(fa F bs es cs rs cu k:_)(_:vs=[.ref fa])(_:FB H fa F bs es cs rs cu k)(_:k<=63)(_:(tl rs).length<=62)(_:dh H)(_:MA H)(_:∀H' da kd zs g,af (bP H s2) H'->dh H'->H da=none->H' da=!(.dG kd)->F_ rs cu zs g->(∀p,Pn p->(vG kd (.tup p)=none/\qQ zs (GT g) p [])\/∃q ws l,vG kd (.tup p)=!(.ref q)/\H q=none/\H' q=!(.lst ws)/\AL (NP H') ws l/\qQ zs (GT g) p l)->Q (.ref da) H')
inductive Ek(vs:List V)(H:Hp)(Q:VK)(_:XK):Prop
 |mk(fa F bs es cs rs cu k vp p:_)(_:vs=[.ref fa,vp])(_:FB H fa F bs es cs rs cu k)(_:k<=63)(_:(tl rs).length<=62)(_:dh H)(_:MA H)(_:GK H (.tup p) vp)(_:Pn p)(_:∀H' q ws l zs g,af (bP H s2) H'->dh H'->H q=none->H' q=!(.lst ws)->F_ rs cu zs g->AL (NP H') ws l->qQ zs (GT g) p l->Q (.ref q) H')
section
variable {vs:List V}{H:Hp}{Q:VK}{E:XK}
end
def qP.len(h:qP rs zs):zs.length=(tl rs).length:=do _;{E,T,f,_,_,rfl}:=h;[qj,qj]
def qP.of(h:qP rs zs)(c:x∈zs):∃z∈tl rs,x.pt=z.pt/\x.ka=z.ka/\x.kb=z.kb:=do _;{E,T,f,_,_,rfl}:=h;{y,d,rfl}:=qf.mp c;{z,hz,rfl}:=qf.mp d;a:=oR f (ef T z);b:=yV (T:=T) z;{z,hz,a.1.trans b.1,a.2.1.trans b.2.1,a.2.2.trans b.2.2}
def jI.wU{nk:Nat->List Key}{f:Nat->List Sw}{B:Sx->Prop}{Z:Hp}{kvs:List (KD×V×V)}{js:List Nat}(h:jI nk f B Z kvs js)(nd:(kvs.map (·.2.2)).Nodup){k:KD}{y:V}{a:Sx}(g:Z a=none):((kvs++[(k,y,V.ref a)]).map (·.2.2)).Nodup:=do[z7];wt.mpr {nd,m3 _ _,λx i z hz e=>?_};{t,m,rfl}:=qf.mp i;e←[qx.mp hz];{j,b}:=jf m;l:j<js.length:=(do[←h.len];(qk.mp b).1);{_,_,c,zs,n,_,d,_}:=h.ent j t _ b (qh l);e:t.2.2=.ref a:=e;e←[n];-e;d←[g];-d
def tQ(a b:Sy):decide (V.str a=V.str b)=decide (a=b):=do h<|a=b;[h,qI rfl,qI rfl];[decide_eq_false h,decide_eq_false λz=>h (by injection z)]
def Pq{α:Type}(x:α)(xs:List α):m_ (x::xs) 0=!x:=do@m_;e:uE (x::xs).length 0=some 0:=(do@uE;[zd,qF (),qF ()];2);[e];2
def vF(H:Hp)(v:V):Prop:=∃p,GK H (.tup p) v/\Pn p
theorem vF.ab(h:vF H v)(t:ai H H'):vF H' v:=let⟨p,g,q⟩:=h;{p,g.ab t,q}
theorem xM{α:Type}{P:V->α->Prop}:∀{ys:List V},(∀y∈ys,∃k,P y k)->∃ks:List α,ks.length=ys.length/\∀(m:Nat) y k,ys[m]?=!y->ks[m]?=!k->P y k|[],_=>{[],O,λm y k z=>do z←0}|y::ys,h=>do _;{k,c}:=h y qm;{ks,a1,a2}:=xM λz hz=>h z (qy _ hz);{k::ks,do[zd,zd,a1],λm z j a b=>?_};(by cases m with|zero|succ m=>?_);-a;-b;c;a2 m z j (do 0<|a) (do 0<|b)
def Mc(H:Hp)(v:V)(a:Int×Int):Prop:=∃b d p h t y c,v=.ref b/\H b=!(.tup [d,.str h,.str t,.bl y,.ref c])/\GK H (.tup p) d/\Pn p/\H c=!(.tup [.int a.1,.int a.2])/\PyData.strOk h=true/\PyData.strOk t=true
def LR(H:Hp)(v:V):Prop:=∃a,Mc H v a
theorem Mc.ab(h:Mc H v a)(s:ai H H'):Mc H' v a:=do _;{b,d,p,x,t,y,c,e,h1,h2,i,g,f}:=h;{b,d,p,x,t,y,c,e,s _ _ h1,h2.ab s,i,s _ _ g,f}
theorem LR.ab(h:LR H v)(s:ai H H'):LR H' v:=let⟨a,g⟩:=h;{a,g.ab s}
def l6(d:Sw):Prop:=(∃z:Sy,d=.str z/\z.length<=10)\/(∃w:Sy,d=.tuple [.str "picture",.str w]/\w.length<=10)\/∃p,d=.tuple [.str "refer",tD p]/\Pn p
structure DZ where
 S:Nat->Sg
 n:Nat
 M:Nat->Mk
 m:Nat
 N:Nat->Mk
 q:Nat
 L:Nat->Ln
 a:Nat
 C:Nat->Ce
 b:Nat
 rs:List Pc
 cu:List (List Key)
structure FZ(H:Hp)(fa:Sx)(F:Nat->Sx)(d:DZ):Prop where
 fs:∃xs ms ns,FS H fa F d.S d.n d.M d.m d.N d.q xs ms ns
 hm:d.m<=63
 fb:∃bs es cs k,FB H fa F bs es cs d.rs d.cu k/\k<=63/\(tl d.rs).length<=62
 lv:∃ys,H (F 8)=!(.lst ys)/\(∀y∈ys,LR H y)/\ys.length<=45
 tb:zJ H fa d.L d.a d.C d.b
 sg:∀i,i<d.n->l6 (d.S i).sg
def FZ.kp(h:FZ H fa F d)(k:∀b o,H b=!o->(∀ps,o≠.cf ps)->H' b=!o):FZ H' fa F d:=do t:ai H H':=λb xs e=>k _ _ e λ_ z=>nomatch z;c:∀{b xs},H b=!(.lst xs)->H' b=!(.lst xs):=λe=>k _ _ e λ_ z=>nomatch z;kr:∀{a kvs},Rd H a (.dK kvs)->Rd H' a (.dK kvs):=λr=>(do e||{o,e}:=r;.inl (k _ _ e λ_ z=>nomatch z);.inr ⟨o,k _ _ e λ_ z=>nomatch z⟩);⟨?_,h.hm,?_,?_,?_,h.sg⟩;{xs,ms,ns,g}:=h.fs;{xs,ms,ns,g.to t (kr g.dk) λi _ xs e=>c e};{bs,es,cs,j,g,h1,h2}:=h.fb;{bs,es,cs,j,{kr g.dk,g.inj,λi h1 h2=>let⟨xs,e⟩:=g.rest i h1 h2;{xs,c e},c g.eb,c g.ev,c g.ec,g.fi.ab t},h1,h2};{ys,e,h1,h2}:=h.lv;{ys,c e,λy u=>(h1 y u).ab t,h2};{kvs,q,vs,s,cs,h1,h2,n,p,w,m,f,l,x}:=h.tb;{kvs,q,vs,s,cs,kr h1,h2,c n,p.imp λv i g=>kG.ab g t,w,m,c f,l.imp λv i g=>ir.ab g t,x}
def FZ.same(h:FZ H fa F d)(s:af H H'):FZ H' fa F d:=h.kp λb o e _=>s _ _ e
theorem FZ.xw(h:FZ H fa F d):XW (tl d.rs):=let⟨_,_,_,_,g,h1,_⟩:=h.fb;(g.fq ()).xw
def hH(i:Nat):Sy:=Str.ofString (toString (i:Int))
def pZ(z:Sy)(i:Nat):Sy:=if z = "" then hH i else((Str.empty++z)++".")++hH i
def subs(z:Sy):Nat->List Pc->List (List Key×Sy)|_,[]=>[]|i,x::l=>(x.pt,pZ z (i+1))::subs z (i+1) l
theorem sF(z:Sy):∀(l:List Pc) (i m:Nat),(subs z i l)[m]?=l[m]?.map λx=>(x.pt,pZ z (i+m+1))|[],_,_=>(do[show subs z _ []=[] from rfl];2)|x::l,i,0=>rfl|x::l,i,m+1=>do¬(subs z (i+1) l)[m]?=l[m]?.map _;[sF z l (i+1) m,show i+1+m+1=i+(m+1)+1 from ()]
theorem jV(z:Sy):∀(l:List Pc) (i:Nat),(subs z i l).length=l.length|[],_=>rfl|_::l,i=>congrArg (·+1) (jV z l (i+1))
theorem J9(z:Sy):∀(l:List Pc) (i:Nat),(subs z i l).map (·.1)=l.map (·.pt)|[],_=>rfl|_::l,i=>congrArg (_::·) (J9 z l (i+1))
inductive Wk(zs:List Pc)(G:List Key->Prop):List (List Key×Sy)->List (List Key×Sy)->Prop
 |nil:Wk zs G [] []
 |cons {p z st l out}:qQ zs G p l->Wk zs G (subs z 0 l++st) out->Wk zs G ((p,z)::st) ((p,z)::out)
theorem Wk.eq{zs:List Pc}{G:List Key->Prop}{st a:List (List Key×Sy)}(h:Wk zs G st a):∀{b:List (List Key×Sy)},Wk zs G st b->a=b:=do(by induction h with|nil|cons i w d=>?_);(b,h');-h';2;(b,h');(by cases h' with|cons e c=>?_);this:=i.eq e;!this;[d c]
def Nums(d:DZ)(a:List (List Key×Sy)):Prop:=∃zs g,F_ d.rs d.cu zs g/\Wk zs (GT g) [(bE,"")] a
theorem Nums.eq(h:Nums d a)(W:XW (tl d.rs))(h':Nums d b):a=b:=do _;{zs,g,h1,h2}:=h;{f,g',c,e}:=h';{rfl,rfl}:=h1.eq W c;h2.eq e
def TN(H:Hp)(v:V)(e:List Key×Sy):Prop:=∃b a,v=.ref b/\H b=!(.tup [a,.str e.2,.bl true])/\GK H (.tup e.1) a/\Pn e.1/\e.2.length<=1000
theorem TN.ab(h:TN H v e)(t:ai H H'):TN H' v e:=do _;{b,a,c,h1,h2,d}:=h;{b,a,c,t _ _ h1,h2.ab t,d}
def mO(H:Hp)(nq:Sx)(num:List Key->Option Sy):Prop:=∃kvs,H nq=!(.dG kvs)/\∀p,Pn p->vG kvs (.tup p)=(num p).map V.str/\∀z,num p=!z->z.length<=1000
def mO.same(h:mO H nq num)(s:af H H'):mO H' nq num:=let⟨kvs,r,k⟩:=h;{kvs,s _ _ r,k}
def eS(a:List (List Key×Sy))(p:List Key):Option Sy:=(a.find? λe=>decide (e.1=p)).map (·.2)
def txt(num:List Key->Option Sy)(d:Sw)(t:Sy):Prop:=d=.str t\/(∃w:Sy,d=.tuple [.str "picture",.str w]/\t = "*"++w)\/∃p,d=.tuple [.str "refer",tD p]/\t = "#"++(num p).getD "?"
def AD(h:txt num d t)(g:txt num d u):t=u:=do(by rcases h with h|⟨w,h,e⟩|⟨p,h,e⟩ <;> rcases g with g|⟨w',g,e'⟩|⟨p',g,e'⟩ <;> rw[h]at g;injection g);-g;-g;-g;(by injection g with g;injection g with _ g;injection g with g _;injection g with g);[e,e',g];(by injection g with g;injection g with g _;injection g with g);absurd g ∅;-g;(by injection g with g;injection g with g _;injection g with g);absurd g ∅;(by injection g with g;injection g with _ g;injection g with g _);[e,e',Li g]
noncomputable def tx(num:List Key->Option Sy)(d:Sw):Sy:=Classical.epsilon (txt num d)
def Ab(h:txt num d t):t=tx num d:=AD h (Classical.epsilon_spec {t,h})
def Ck{H:Hp}{p:List Key}:∀{xs:List V},cz H xs (p.map kP)->xs=p.map kV:=do(by induction p with|nil|cons k p b=>?_);(xs,h);-h;2;(xs,h);(by cases h with|cons a t=>?_);[b t];by cases k <;> cases a <;> rfl
def Gy(h:DT H v (tD p)):GK H (.tup p) v:=do(by cases h with|tup e t=>?_);e←[Ck t];{_,O,e}
def He:∀i:Nat,i<=63->(hH i).length<=3:=do this:∀i:Nat,i<64->(hH i).length<=3:=∅;λi h=>this i ()
def Bq(z:Sy):(Str.empty++z).length=z.length:=do[p5];ja _
def IS(z:Sy)(h:i<=63):(pZ z i).length<=z.length+4:=do nl:=He i h;@pZ;3;();a:((Str.empty++z)++".").length=z.length+1:=(do[p5,Bq];2);[p5,a];()
def wD(d:DZ)(p:List Key)(i:Nat):List Sw:=vI d.M false (aF d.S d.n p) (aH d.M d.m p) ((aF d.S d.n p).idxOf i)
def RZ(d:DZ)(p:List Key)(num:List Key->Option Sy)(H:Hp)(v:V)(e:Nat×Sx):Prop:=∃b vn ms,v=.ref b/\H b=!(.tup [vn,.str (tx num (d.S e.1).sg),.ref e.2])/\NM (cn d.S) H vn e.1/\H e.2=!(.lst ms)/\cz H ms (wD d p e.1)
def RZ.to(h:RZ d p num H v e)(t:ai H H')(k:∀o,H e.2=!(.lst o)->H' e.2=!(.lst o)):RZ d p num H' v e:=do _;{b,vn,ms,a,h1,h2,f,c}:=h;{b,vn,ms,a,t _ _ h1,h2.ab t,k _ f,c.ab t}
def WZ(d:DZ)(p:List Key)(H:Hp)(v:V)(e:Nat×Sx):Prop:=v=.ref e.2/\H e.2=!(.lst (xG d.L d.C d.b p (bC d.L d.a p "column") e.1))
structure EP where
 b:Sx
 vp:V
 q2:Sx
 q3:Sx
 b4:Sx
 qa:Sx
 qb:Sx
 qc:Sx
 ia:List (Nat×Sx)
 wa:List (Nat×Sx)
def EP.A(e:EP):List Sx:=e.ia.map (·.2)
def EP.B(e:EP):List Sx:=e.q2::e.q3::e.qa::e.qb::e.qc::e.wa.map (·.2)
structure EZ(d:DZ)(num:List Key->Option Sy)(H:Hp)(v:V)(e:EP)(p:List Key)(z:Sy):Prop where
 vb:v=.ref e.b
 tp:H e.b=!(.tup [.str z,e.vp,.ref e.q2,.ref e.q3,.ref e.b4])
 gp:GK H (.tup p) e.vp
 rw_:∃zs,H e.q2=!(.lst zs)/\AL (RZ d p num H) zs e.ia
 ri:e.ia.map (·.1)=bB d.S d.n p
 nt:∃ns,H e.q3=!(.lst ns)/\cz H ns ((bY d.N d.q p).map (qT d.S (aF d.S d.n p) d.N))
 t4:H e.b4=!(.tup [.ref e.qa,.ref e.qb,.ref e.qc])
 ra:∃zs,H e.qa=!(.lst zs)/\AN (NM (cT d.L) H) zs (bC d.L d.a p "row")
 cb:∃zs,H e.qb=!(.lst zs)/\AN (NM (cT d.L) H) zs (bC d.L d.a p "column")
 wc:∃ws,H e.qc=!(.lst ws)/\AL (WZ d p H) ws e.wa
 wi:e.wa.map (·.1)=bC d.L d.a p "row"
 nd:(e.A++e.B).Nodup
theorem EZ.to(h:EZ d num H v e p z)(t:ai H H')(k:∀a∈e.A++e.B,∀o,H a=!(.lst o)->H' a=!(.lst o)):EZ d num H' v e p z:=do b:∀{a},a∈e.B->∀{o},H a=!(.lst o)->H' a=!(.lst o):=λ{a} f {o}=>k a (zy _ f) o;{h.vb,t _ _ h.tp,h.gp.ab t,?_,h.ri,?_,t _ _ h.t4,?_,?_,?_,h.wi,h.nd};{zs,h1,h2}:=h.rw_;{zs,b (do#[EP.B]) h1,h2.px λv x _ c g=>g.to t (k _ (List.mem_append_left _ (List.mem_map.mpr {x,c,O})))};{zs,h1,h2}:=h.nt;{zs,b (do#[EP.B]) h1,h2.ab t};{zs,h1,h2}:=h.ra;{zs,b (do#[EP.B]) h1,h2.imp λv i g=>NM.ab g t};{zs,h1,h2}:=h.cb;{zs,b (do#[EP.B]) h1,h2.imp λv i g=>NM.ab g t};{zs,h1,h2}:=h.wc;{zs,b (do#[EP.B]) h1,h2.px λv x _ c g=>{g.1,b (do#[_,EP.B,List.mem_cons,List.mem_map];.inr (.inr (.inr (.inr (.inr {x,c,O}))))) g.2}}
def EZ.same(h:EZ d num H v e p z)(s:af H H'):EZ d num H' v e p z:=h.to s.ab λ_ _ _ q=>s _ _ q
structure DC(d:DZ)(num:List Key->Option Sy)(nu:List (List Key×Sy))(H0 H:Hp)(es:List V)(ps:List EP):Prop where
 len:es.length=nu.length
 iv:ps.length=nu.length
 at_:∀(m:Nat) v e x,es[m]?=!v->ps[m]?=!e->nu[m]?=!x->EZ d num H v e x.1 x.2
 nd:(ps.flatMap λe=>e.A++e.B).Nodup
 fr:∀e∈ps,∀a∈e.A++e.B,H0 a=none
def EZ.has(h:EZ d num H v e p z):∀a∈e.A++e.B,∃o,H a=!(.lst o):=λa f=>do _;{n,h1,h2}:=h.rw_;{q,k,_}:=h.nt;{t,l,_}:=h.ra;{s,m,_}:=h.cb;{r,j,i}:=h.wc;f←#[_,EP.A,EP.B,List.mem_append,List.mem_cons,List.mem_map];{x,c,rfl}||rfl||rfl||rfl||rfl||rfl||{x,c,rfl}:=f;{v,_,b,vn,ms,_,_,_,g,_}:=h2.gG c;{_,g};{_,h1};{_,k};{_,l};{_,m};{_,j};{v,_,_,g}:=i.gG c;{_,g}
theorem sO{P:V->Nat->Prop}{R:V->Nat×Sx->Prop}(k:∀v i,P v i->∃a,R v (i,a)):∀{vs:List V} {js:List Nat},AL P vs js->∃l,AL R vs l/\l.map (·.1)=js|[],[],_=>{[],.nil,O}|[],_::_,h=>h.none.elim|_::_,[],h=>h.nothing.elim|v::vs,i::js,h=>do _;{l,h1,h2}:=sO k h.tail;{a,b}:=k v i h.head;{(i,a)::l,.cons b h1,do[zn,h2]}
theorem LN:∀{kvs:List (KD×V×V)} {a:List (List Key×Sy)},AL (λe x=>e.1=.tup x.1/\e.2.2=.str x.2) kvs a->∀p,vG kvs (.tup p)=(eS a p).map V.str|[],[],_,_=>rfl|[],_::_,h,_=>h.none.elim|_::_,[],h,_=>h.nothing.elim|e::kvs,x::a,h,p=>do c:=h.head;b:=LN h.tail p;(by unfold vG eS at b ⊢);[yd,yd,c.1];z<|x.1=p;[qI (do[z]),qI z];¬some e.2.2=_;[c.2];2;[decide_eq_false λy=>z (KD.tup.inj y),decide_eq_false z];b
theorem Lp:∀{a:List (List Key×Sy)},(a.map (·.1)).Nodup->∀{x:List Key×Sy},x∈a->eS a x.1=!x.2|y::a,h,x,hx=>do h←[zn,z6];@eS;[yd];rfl||hx:=q0.mp hx;[qI rfl];2;[decide_eq_false λz=>h.1 (qf.mpr {x,hx,z.symm})];Lp h.2 hx
def DC.snoc{es:List V}(h:DC d num i H0 H es ps)(z:EZ d num H v e x.1 x.2)(f:∀a∈e.A++e.B,H0 a=none)(n:∀y∈ps,∀a∈y.A++y.B,a∉e.A++e.B):DC d num (i++[x]) H0 H (es++[v]) (ps++[e]):=do l:=h.len;k:=h.iv;{do#[l],do#[k],λm r o s a b c=>?_,?_,λy g=>?_};q<|m<i.length;(by rw[zv ()]at a b c);h.at_ m r o s a b c;(by rw[ye ()]at a b c);this:m - i.length=0:=(do this:=(qk.mp c).1;this←[qt];());a←[l,this];b←[k,this];c←[this];-a;-b;-c;z;[rg,List.flatMap_singleton];wt.mpr {h.nd,z.nd,λa j b p q=>?_};{y,g,j}:=List.mem_flatMap.mp j;n y g a j (q▸p);g||g:=zh.mp g;h.fr y g;[qx.mp g];f
theorem DC.same{es:List V}(h:DC d num f H0 H es ps)(s:af H H'):DC d num f H0 H' es ps:={h.len,h.iv,λm v e x a b c=>(h.at_ m v e x a b c).same s,h.nd,h.fr}
theorem DC.has{es:List V}(h:DC d num f H0 H es ps)(c:e∈ps):∀a∈e.A++e.B,∃o,H a=!(.lst o):=do _;{m,b}:=jf c;l:=(qk.mp b).1;(h.at_ m _ e _ (qh (do[h.len,←h.iv];l)) b (qh (do[←h.iv];l))).has
inductive CH(vs:List V)(H:Hp)(Q:VK)(_:XK):Prop
 |mk(a b c:_)(_:vs=[a,b,.aQ,c])(_:Q (.bl true) H)
inductive Dv(vs:List V)(H:Hp)(Q:VK)(_:XK):Prop
 |mk(z:_)(i:Nat)(_:vs=[.str z,.int i])(_:i<=63)(_:z.length<=900)(_:Q (.str (pZ z i)) H)
inductive Es(vs:List V)(H:Hp)(Q:VK)(_:XK):Prop
 |mk(fa F d r:_)(_:vs=[.ref fa,r,.aQ])(_:FZ H fa F d)(_:dh H)(_:MA H)(_:∀H' q ts nu,af (bP H s2) H'->dh H'->H q=none->H' q=!(.lst ts)->AL (TN H') ts nu->Nums d nu->nu.length<=63->(nu.map (·.1)).Nodup->Q (.ref q) H')
inductive CK(vs:List V)(H:Hp)(Q:VK)(_:XK):Prop
 |mk(nq num v d:_)(_:vs=[.ref nq,v])(_:mO H nq num)(_:DT H v d)(_:l6 d)(_:∀t,txt num d t->Q (.str t) H)
inductive Bh(vs:List V)(H:Hp)(Q:VK)(_:XK):Prop
 |mk(fa F d vp p nq num:_)(_:vs=[.ref fa,vp,.ref nq])(_:FZ H fa F d)(_:GK H (.tup p) vp)(_:Pn p)(_:mO H nq num)(_:∀H' q zs ia,af H H'->H q=none->H' q=!(.lst zs)->AL (RZ d p num H') zs ia->ia.map (·.1)=bB d.S d.n p->(ia.map (·.2)).Nodup->(∀e∈ia,H e.2=none/\e.2≠q)->Q (.ref q) H')
inductive Dy(vs:List V)(H:Hp)(Q:VK)(_:XK):Prop
 |mk(fa F d nq num vp p z:_)(_:vs=[.ref fa,.ref nq,vp,.bl true])(_:FZ H fa F d)(_:GK H (.tup p) vp)(_:Pn p)(_:mO H nq num)(_:num p=!z)(_:∀H' v e,af H H'->EZ d num H' v e p z->(∀a∈e.A++e.B,H a=none)->Q v H')
inductive Bt(vs:List V)(H:Hp)(Q:VK)(_:XK):Prop
 |mk(fa F d r:_)(_:vs=[.ref fa,r,.aQ])(_:FZ H fa F d)(_:dh H)(_:MA H)(_:∀H' q es ps nu,af (bP H s2) H'->dh H'->H q=none->H' q=!(.lst es)->Nums d nu->nu.length<=63->(∀x∈nu,Pn x.1/\x.2.length<=1000)->DC d (eS nu) nu H H' es ps->(∀e∈ps,q∉e.A++e.B)->Q (.ref q) H')
section
variable {vs:List V}{H:Hp}{Q:VK}{E:XK}
end
inductive iy(vs:List V)(H:Hp)(Q:VK)(_:XK):Prop
 |mk(sp ns r:_)(_:vs=[.ref sp,.ref r])(_:az H sp (List.map V.int ns))(_:ns.length<=63)(_:H r=!(.lst [.str "ann",.str "bo"]))(_:∀H' fa F d,af H H'->FZ H' fa F d->Q (.ref fa) H')
structure Jz(A:List Pc)(D U:List (List Key)):Prop where
 nd:(D++U).Nodup
 up:∀c∈D++U,c=bE\/∃x∈A,x.pt=c/\x.ou∈D
def Jz.pn{A:List Pc}(h:Jz A D U)(b:∀x∈A,Nm x.pt)(a:c∈D++U):Pn c:=do z||{x,hx,rfl,_}:=h.up c a;.inl z;.inr (b x hx)
def Jz.len{A:List Pc}(h:Jz A D U):D.length+U.length<=A.length+1:=do this:=Cj (ws:=bE::A.map (·.pt)) h.nd λc a=>(do z||{x,hx,z,_}:=h.up c a;[z];qm;[←z];qy _ (qf.mpr {x,hx,O}));this←[qi,zd,qj];this
theorem rN:∀{A:List Pc},(A.map (·.pt)).Nodup->∀{x y:Pc},x∈A->y∈A->x.pt=y.pt->x=y|a::A,h,x,y,hx,hy,e=>do h←[zn,z6];(by rcases q0.mp hx with h1|h1 <;> rcases q0.mp hy with h2|h2);[h1,h2];(h.1 (qf.mpr ⟨y,h2,do[←e,h1]⟩)).elim;(h.1 (qf.mpr ⟨x,h1,do[e,h2]⟩)).elim;rN h.2 h1 h2 e
def Jz.step{A l:List Pc}(m:(A.map (·.pt)).Nodup)(q:∀x∈A,Nm x.pt)(h:Jz A D (U++[u]))(g:∀x∈l,x∈A/\x.ou=u)(o:l.Nodup):Jz A (D++[u]) (U++(l.map (·.pt)).reverse):=do n:(D++[u]++U).Perm (D++(U++[u])):=(do[yk];List.Perm.append_left D List.perm_append_comm);mem:∀c,c∈D++[u]++U->c∈D++(U++[u]):=λc d=>n.mem_iff.mp d;p:u∉D:=λz=>(do this:=(List.nodup_append.mp h.nd).2.2 u z u (do 0);this rfl);{?_,λc d=>?_};[←yk];wt.mpr {n.nodup_iff.mpr h.nd,?_,λa i b j e=>?_};(List.reverse_perm _).nodup_iff.mpr ?_;[List.Nodup,wb];List.Pairwise.imp_of_mem (λ{a b} i j k e=>k (rN m (g a i).1 (g b j).1 e)) o;!e;{x,f,rfl}:=qf.mp (yh.mp j);{h1,h2}:=g x f;z||{x',hx',e,ho}:=h.up _ (mem _ i);(q x h1).main z;ho←[rN m hx' h1 e,h2];p ho;d←[←yk];d||d:=zh.mp d;z||{x,f,e,ho}:=h.up c (mem c d);.inl z;.inr ⟨x,f,e,wg _ ho⟩;{x,f,rfl}:=qf.mp (yh.mp d);{h1,h2}:=g x f;.inr {x,h1,O,do[h2];0}
def UN(H:Hp)(v:V)(e:List Key×Sy):Prop:=∃b a,v=.ref b/\H b=!(.tup [a,.str e.2])/\GK H (.tup e.1) a
theorem UN.ab(h:UN H v e)(t:ai H H'):UN H' v e:=do _;{b,a,c,h1,h2}:=h;{b,a,c,t _ _ h1,h2.ab t}
def DW(H:Hp)(p:Sx):Prop:=∃a b:Int,H p=!(.lst [.int a,.int b])
def DW.same(h:DW H p)(s:af H H'):DW H' p:=let⟨a,b,e⟩:=h;{a,b,s _ _ e}
def DW.ab(h:DW H p)(s:af (del H p) H'):ai H H':=let⟨_,_,e⟩:=h;ai.cut e s
def DW.ne(h:DW H p)(g:H q=none):q≠p:=let⟨_,_,e⟩:=h;λz=>do g←[z,e];-g
def BN:∀r:Nat,r<8->PyData.strOk (iE "abcdefgh" none (!(1+(r:Int))))=true/\(iE "abcdefgh" none (!(1+(r:Int)))).length<=10:=∅
def CC:∀r:Nat,r<29->∃c,m_ ("abcdefghijklmnopqrstuvwxyz .,":Sy).cps.toList (r:Int)=!c/\PyData.strOk {#[c]}=true:=do this:∀r:Nat,r<29->(match m_ ("abcdefghijklmnopqrstuvwxyz .,":Sy).cps.toList (r:Int) with|some c=>PyData.strOk ⟨#[c]⟩|none=>false)=true:=∅;(r,h);this:=this r h;(by cases e:m_ ("abcdefghijklmnopqrstuvwxyz .,":Sy).cps.toList (r:Int)with|none|some c=>?_);this←[e];-this;this←[e];{c,O,this}
def Hy(h1:PyData.strOk z=true)(h2:d.canLay0=true/\sk d d=true/\d.depth<=1):LK (.tuple [.str z,d]):=do b:∀x∈[PyData.str z,d],x.canLay0=true/\sk x x=true/\x.depth<=1:=λx a=>(do(by ac_nf at a);rfl||rfl:=a;d8 h1;h2);⟨dH λx a=>(b x a).1,qU λx a=>(b x a).2.1,?_⟩;this:=gR λx a=>(b x a).2.2;¬PyData.depthAll _+1<=3;()
inductive jN(vs:List V)(H:Hp)(Q:VK)(_:XK):Prop
 |mk(d l us:_)(_:vs=[.ref d,.ref l])(_:DW H d)(_:H l=!(.lst us))(_:l≠d)(_:0<us.length)(_:us.length<1000)(_:∀H' q v bb,af (del H d) H'->DW H' d->H' q=!(.tup [v,.str (FW bb)])->v∈us->Q (.ref q) H')
inductive jJ(vs:List V)(H:Hp)(Q:VK)(_:XK):Prop
 |mk(d l us:_)(_:vs=[.ref d,.ref l])(_:DW H d)(_:H l=!(.lst us))(_:l≠d)(_:0<us.length)(_:us.length<1000)(_:(∀v∈us,vF H v))(_:∀H' v dd,af (del H d) H'->DW H' d->DT H' v dd->l6 dd->LK dd->Q v H')
inductive fZ(vs:List V)(H:Hp)(Q:VK)(_:XK):Prop
 |mk(sp ns k:_)(_:vs=[.ref sp,.int k])(_:az H sp (List.map V.int ns))(_:0<=k)(_:∀c,Q (.int c) H)
inductive iK(vs:List V)(H:Hp)(Q:VK)(_:XK):Prop
 |mk(c b:_)(_:vs=[.int c,.bl b])(_:∀H' p,af H H'->H p=none->DW H' p->Q (.ref p) H')
inductive jW(vs:List V)(H:Hp)(Q:VK)(_:XK):Prop
 |mk(p q:_)(_:vs=[.ref p,.int q])(_:DW H p)(_:0<q)(_:q<1000)(_:∀r H',af (del H p) H'->DW H' p->0<=r->r<q->Q (.int r) H')
inductive gN(vs:List V)(H:Hp)(Q:VK)(_:XK):Prop
 |mk(sp ns:_)(_:vs=[.ref sp])(_:az H sp (List.map V.int ns))(_:ns.length<=63)(_:dh H)(_:MA H)(_:∀H',Q (.bl true) H')
def pL:∀(H:Hp) (a:Sx) (ns:List Int),ns.length<=63->(∀t∈PP,H (Rq t)=!(.cf #[]))->(∀c∈MS,H c.1=!(.tup c.2))->az H a (ns.map V.int)->gN [.ref a] H (λv _=>v=.bl true) λ_ _ _=>False:=λH a ns h1 h2 d b => {a,ns,O,b,h1,{⋯,.inl (h2 "greatest_place" ∅),.inl (h2 "all_inner_parts" ∅)},d _ qm,λ_=>rfl}
section
variable {vs:List V}{H:Hp}{Q:VK}{E:XK}
end
structure LV(H0 H:Hp)(d f:Sx)(ys:List V):Prop where
 rs:Rest H0 H (λb=>b=d\/b=f)
 dw:DW H d
 ey:H f=!(.lst ys)
 lr:∀y∈ys,LR H y
def LV.draw(h:LV H0 H d f ys)(n:f≠d)(s:af (del H d) H')(w:DW H' d):LV H0 H' d f ys := {h.rs.del (.inl rfl) s,w,DP.to s h.ey n,λy a=>(h.lr y a).ab (h.dw.ab s)}
theorem LV.same(h:LV H0 H d f ys)(s:af H H'):LV H0 H' d f ys := {h.rs.same s,h.dw.same s,s _ _ h.ey,λy a=>(h.lr y a).ab s.ab}
inductive gV(vs:List V)(H:Hp)(Q:VK)(_:XK):Prop
 |mk(d fa r kq F kn:_)(_:vs=[.ref d,.ref fa,.ref r,.ref kq])(_:DW H d)(_:H fa=!(.dK (cE F 9)))(_:H (F 8)=!(.lst []))(_:H r=!(.lst [.str "ann",.str "bo"]))(_:H kq=!(.lst kn))(_:0<kn.length)(_:kn.length<1000)(_:(∀v∈kn,vF H v))(_:r≠d)(_:kq≠d)(_:F 8≠d)(_:r≠F 8)(_:kq≠F 8)(_:∀H' ys,Rest H H' (λb=>b=d\/b=F 8)->H' (F 8)=!(.lst ys)->(∀y∈ys,LR H' y)->ys.length<=45->Q .aQ H')
section
variable {vs:List V}{H:Hp}{Q:VK}{E:XK}
end
def KN(H:Hp)(kn:List V):Prop:=∀(j:Nat) v,kn[j]?=!v->∃w:Sy,GK H (.tup [.inr w,.inl (j:Int)]) v/\Pn [.inr w,.inl (j:Int)]
theorem KN.ab(h:KN H kn)(t:ai H H'):KN H' kn:=λj v e=>let⟨w,g,p⟩:=h j v e;{w,g.ab t,p}
def KN.np(h:KN H kn)(b:v∈kn):vF H v:=do _;{j,a,e}:=z8.mp b;{w,g,p}:=h j v (do[qh a,e]);{_,g,p}
def mW(h:Rest H Z X)(a:∀b,X b->∀xs,H b≠some (.tup xs)):ai H Z:=λb ys e=>h b _ e λz=>a b z ys e
abbrev oA:HO:=.lst [.str "ann",.str "bo"]
inductive iM(vs:List V)(H:Hp)(Q:VK)(_:XK):Prop
 |mk(d fa r F:_)(_:vs=[.ref d,.ref fa,.ref r])(_:DW H d)(_:H fa=!(.dK (cE F 9)))(_:H (F 0)=!(.lst []))(_:H (F 1)=!(.lst []))(_:H (F 2)=!(.lst []))(_:H r=!oA)(_:r≠d)(_:(∀i,i<9->F i≠d/\r≠F i))(_:(∀i,i<9->∀j,j<9->F i=F j->i=j))(_:∀H' kq kn bs es cs rs cu,Rest H H' (λb=>b=d\/b=F 0\/b=F 1\/b=F 2)->H kq=none->H' kq=!(.lst kn)->KN H' kn->0<kn.length->kn.length<=15->H' (F 0)=!(.lst bs)->H' (F 1)=!(.lst es)->H' (F 2)=!(.lst cs)->qW H' bs es cs rs cu 60->Q (.ref kq) H')
def xC(H:Hp)(kvs:List (KD×V×V)):Prop:=∀e∈kvs,∃p,Pn p/\e.1=.tup p/\GK H (.tup p) e.2.1
theorem xC.ab(h:xC H kvs)(t:ai H H'):xC H' kvs:=λe d=>let⟨p,a,b,c⟩:=h e d;{p,a,b,c.ab t}
def xf(S:Nat->Sg)(n:Nat)(H:Hp)(kvs:List (KD×V×V)):Prop:=xC H kvs/\∀k u,vG kvs k=!u->∃p a us,k=.tup p/\Pn p/\u=.ref a/\H a=!(.lst us)/\0<us.length/\us.length<=n/\∀v∈us,∃i,i<n/\(S i).pt=p/\NM (cn S) H v i
def xf.same{S:Nat->Sg}(h:xf S n H kvs)(s:af H H'):xf S n H' kvs:={h.1.ab s.ab,λk u e=>do _;{p,o,us,h1,h2,j,l,m,g,d}:=h.2 k u e;{p,o,us,h1,h2,j,s _ _ l,m,g,λv f=>let⟨i,a,b,c⟩:=d v f;{i,a,b,NM.ab c s.ab}}}
inductive iI(vs:List V)(H:Hp)(Q:VK)(_:XK):Prop
 |mk(d fa r kq F kn:_)(_:vs=[.ref d,.ref fa,.ref r,.ref kq])(_:DW H d)(_:H fa=!(.dK (cE F 9)))(_:H (F 3)=!(.lst []))(_:H r=!oA)(_:H kq=!(.lst kn))(_:KN H kn)(_:0<kn.length)(_:kn.length<=15)(_:r≠d)(_:kq≠d)(_:F 3≠d)(_:r≠F 3)(_:kq≠F 3)(_:∀H' S n xs nq kvs,Rest H H' (λb=>b=d\/b=F 3)->H' (F 3)=!(.lst xs)->AN (SN S H') xs (List.range n)->WS S n->n<=24->(∀i,i<n->l6 (S i).sg)->H nq=none->H' nq=!(.dG kvs)->kvs.length<=24->xf S n H' kvs->(∀k lq,vG kvs k=!(.ref lq)->H lq=none)->Q (.ref nq) H')
inductive fm(vs:List V)(H:Hp)(Q:VK)(_:XK):Prop
 |mk(d fa r nq F S n xs kvs:_)(_:vs=[.ref d,.ref fa,.ref r,.ref nq])(_:DW H d)(_:H fa=!(.dK (cE F 9)))(_:H (F 3)=!(.lst xs))(_:AN (SN S H) xs (List.range n))(_:WS S n)(_:n<=24)(_:H (F 4)=!(.lst []))(_:H (F 5)=!(.lst []))(_:H r=!oA)(_:H nq=!(.dG kvs))(_:kvs.length<=24)(_:xf S n H kvs)(_:r≠d)(_:(∀i,i<9->F i≠d/\r≠F i))(_:(∀i,i<9->∀j,j<9->F i=F j->i=j))(_:(∀k lq,vG kvs k=!(.ref lq)->lq≠d/\lq≠F 4/\lq≠F 5))(_:∀H' M m N q ms ns,Rest H H' (λb=>b=d\/b=F 4\/b=F 5\/b=nq)->H' (F 4)=!(.lst ms)->AN (MN S M H') ms (List.range m)->WK S n M m->m<=9->H' (F 5)=!(.lst ns)->AN (NN S N H') ns (List.range q)->WK S n N q->Q .aQ H')
inductive gZ(vs:List V)(H:Hp)(Q:VK)(_:XK):Prop
 |mk(d fa r kq F kn:_)(_:vs=[.ref d,.ref fa,.ref r,.ref kq])(_:DW H d)(_:H fa=!(.dK (cE F 9)))(_:H (F 6)=!(.lst []))(_:H (F 7)=!(.lst []))(_:H r=!oA)(_:H kq=!(.lst kn))(_:KN H kn)(_:0<kn.length)(_:kn.length<=15)(_:r≠d)(_:kq≠d)(_:(∀i,i<9->F i≠d/\r≠F i/\kq≠F i))(_:F 6≠F 7)(_:∀H' L a C b ls cs,Rest H H' (λb=>b=d\/b=F 6\/b=F 7)->H' (F 6)=!(.lst ls)->AN (kG L H') ls (List.range a)->WL L a->H' (F 7)=!(.lst cs)->AN (ir C H') cs (List.range b)->Mm C b->Q .aQ H')
section
variable {vs:List V}{H:Hp}{Q:VK}{E:XK}
end
structure FY(d:Sx)(F:Nat->Sx)(kq:Sx):Prop where
 kd:kq≠d
 kf:∀i,i<3->kq≠F i
 fd:∀i,i<3->F i≠d
 ff:∀i,i<3->∀j,j<3->i≠j->F i≠F j
structure PB(H0 H:Hp)(d:Sx)(F:Nat->Sx)(kq:Sx)(kn bs es cs:List V)(rs:List Pc)(cu:List (List Key)):Prop where
 ro:Rest H0 H (λb=>b=d\/b=F 0\/b=F 1\/b=F 2)
 dw:DW H d
 ek:H kq=!(.lst kn)
 vC:KN H kn
 eb:H (F 0)=!(.lst bs)
 ev:H (F 1)=!(.lst es)
 ec:H (F 2)=!(.lst cs)
 fi:qW H bs es cs rs cu 60
section
variable {H0 H H':Hp}{d kq:Sx}{F:Nat->Sx}{kn bs es cs:List V}{rs:List Pc}{cu:List (List Key)}{v:V}
def PB.draw(h:PB H0 H d F kq kn bs es cs rs cu)(a:FY d F kq)(s:af (del H d) H')(w:DW H' d):PB H0 H' d F kq kn bs es cs rs cu := have t:=h.dw.ab s;{h.ro.del (.inl rfl) s,w,DP.to s h.ek a.kd,h.vC.ab t,DP.to s h.eb (a.fd 0 ⋯),DP.to s h.ev (a.fd 1 ⋯),DP.to s h.ec (a.fd 2 ⋯),h.fi.ab t}
theorem PB.same(h:PB H0 H d F kq kn bs es cs rs cu)(s:af H H'):PB H0 H' d F kq kn bs es cs rs cu := {h.ro.same s,h.dw.same s,s _ _ h.ek,h.vC.ab s.ab,s _ _ h.eb,s _ _ h.ev,s _ _ h.ec,h.fi.ab s.ab}
def DW.wr(h:DW H d)(n:d≠p):DW (upd H p o) d:=let⟨a,b,e⟩:=h;{a,b,do[ak n];e}
def PB.Lu(h:PB H0 H d F kq kn bs es cs rs cu)(a:FY d F kq)(c:BT H v)(b:bs.length<60):PB H0 (upd H (F 0) (.lst (bs++[v]))) d F kq kn (bs++[v]) es cs rs cu:=do t:ai H (upd H (F 0) (.lst (bs++[v]))):=ai.wl h.eb;g:=h.fi.ab t;{h.ro.wr (.inr (.inl rfl)),h.dw.wr (a.fd 0 ⋯).symm,do[ak (a.kf 0 ⋯)];h.ek,h.vC.ab t,aB,do[ak (a.ff 1 ⋯ 0 ⋯ ⋯)];h.ev,do[ak (a.ff 2 ⋯ 0 ⋯ ⋯)];h.ec,{λu e=>?_,g.pc,g.ct,g.w,g.up,do[qi];b,g.vl,g.cl}};z||z:=zh.mp e;g.bt u z;[qx.mp z];c.ab t
theorem PB.place(h:PB H0 H d F kq kn bs es cs rs cu)(a:FY d F kq)(e:fB H v r)(b:vE r)(lt:∀x∈rs,bV x.ka x.kb r.ka r.kb)(c:es.length<60):PB H0 (upd H (F 1) (.lst (es++[v]))) d F kq kn bs (es++[v]) cs (rs++[r]) cu:=do t:ai H (upd H (F 1) (.lst (es++[v]))):=ai.wl h.ev;g:=(h.fi.ab t).place (e.ab t) b lt c;{h.ro.wr (.inr (.inr (.inl rfl))),h.dw.wr (a.fd 1 ⋯).symm,do[ak (a.kf 1 ⋯)];h.ek,h.vC.ab t,do[ak (a.ff 0 ⋯ 1 ⋯ ⋯)];h.eb,aB,do[ak (a.ff 2 ⋯ 1 ⋯ ⋯)];h.ec,g}
def PB.cut(h:PB H0 H d F kq kn bs es cs rs cu)(a:FY d F kq)(c:CT H v k)(b:cs.length<60):PB H0 (upd H (F 2) (.lst (cs++[v]))) d F kq kn bs es (cs++[v]) rs (cu++[k]):=do t:ai H (upd H (F 2) (.lst (cs++[v]))):=ai.wl h.ec;g:=h.fi.ab t;{h.ro.wr (.inr (.inr (.inr rfl))),h.dw.wr (a.fd 2 ⋯).symm,do[ak (a.kf 2 ⋯)];h.ek,h.vC.ab t,do[ak (a.ff 0 ⋯ 2 ⋯ ⋯)];h.eb,do[ak (a.ff 1 ⋯ 2 ⋯ ⋯)];h.ev,aB,{g.bt,g.pc,g.ct.snoc (c.ab t),g.w,g.up,g.bl,g.vl,do[qi];b}}
def PB.PU(h:PB H0 H d F kq kn bs es cs rs cu)(a:FY d F kq)(f:H0 kq=none)(i:GK H (.tup [.inr w,.inl (kn.length:Int)]) v)(hp:Pn [.inr w,.inl (kn.length:Int)]):PB H0 (upd H kq (.lst (kn++[v]))) d F kq (kn++[v]) bs es cs rs cu:=do t:ai H (upd H kq (.lst (kn++[v]))):=ai.wl h.ek;{λb o e n=>do[ak (λz=>do e←[z,f];-e)];h.ro b o e n,h.dw.wr a.kd.symm,aB,λj u e=>?_,do[ak (a.kf 0 ⋯).symm];h.eb,do[ak (a.kf 1 ⋯).symm];h.ev,do[ak (a.kf 2 ⋯).symm];h.ec,h.fi.ab t};g<|j<kn.length;e←[zv g];h.vC.ab t j u e;c:j=kn.length:=(do this:=(qk.mp e).1;this←[qi,qt];());!c;e←[ye (qe _),gh];-e;{w,i.ab t,hp}
def PB.out(h:PB H0 H d F kq kn bs es cs rs cu)(e:H0 b=!o)(n:b≠d)(m:∀i,i<3->b≠F i):H b=!o:=h.ro b o e λz=>do z||z||z||z:=z;n z;m 0 ⋯ z;m 1 ⋯ z;m 2 ⋯ z
end
def zV(h:V.str w∈[V.str "ann",V.str "bo"]):Nm [.inr w,.inl x]:=do(by ac_nf at h;rcases h with h|h <;> injection h with h);⟨w,x,O,.inl h⟩;⟨w,x,O,.inr (.inl h)⟩
def N1(e:H p=!(.dG kvs)):Mj "dict" (.ref p) H:=.inr (.inr (.inl {O,.inr (.inr {_,e})}))
structure SB(H0 Z:Hp)(d f nq:Sx)(S:Nat->Sg)(j:Nat)(xs:List V)(kvs:List (KD×V×V)):Prop where
 ro:Rest H0 Z (λb=>b=d\/b=f)
 dw:DW Z d
 ex:Z f=!(.lst xs)
 an:AN (SN S Z) xs (List.range j)
 ws:WS S j
 nm:∀i,i<j->∃w:Sy,(S i).nk=[.inr w,.inl (40+(i:Int)),.inl 0]
 ky:∀i,i<j->(S i).ka=50+(i:Int) / 2/\(S i).kb=(i:Int) % 2/\(S i).kc=0
 ok:∀i,i<j->l6 (S i).sg
 en:Z nq=!(.dG kvs)
 nd:xf S j Z kvs
 fr:∀k lq,vG kvs k=!(.ref lq)->H0 lq=none
section
variable {H0 Z Z':Hp}{d f nq:Sx}{S:Nat->Sg}{j:Nat}{xs:List V}{kvs:List (KD×V×V)}
def xf.mv(h:xf S j Z kvs)(t:ai Z Z')(k:∀c d us,vG kvs c=!(.ref d)->Z d=!(.lst us)->Z' d=!(.lst us)):xf S j Z' kvs:={h.1.ab t,λc u e=>do _;{p,d,us,h1,h2,rfl,n,o,m,f}:=h.2 c u e;{p,d,us,h1,h2,O,k c d us e n,o,m,λv l=>let⟨i,a,b,g⟩:=f v l;{i,a,b,NM.ab g t}}}
def SB.draw(h:SB H0 Z d f nq S j xs kvs)(a:H0 d≠none)(b:f≠d)(m:nq≠d)(s:af (del Z d) Z')(w:DW Z' d):SB H0 Z' d f nq S j xs kvs := have t:=h.dw.ab s;{h.ro.del (.inl rfl) s,w,DP.to s h.ex b,h.an.imp λv i g=>g.ab t,h.ws,h.nm,h.ky,h.ok,DP.to s h.en m,h.nd.mv t λc l us e k=>DP.to s k λz=>a (z▸h.fr c l e),h.fr}
theorem SB.same(h:SB H0 Z d f nq S j xs kvs)(s:af Z Z'):SB H0 Z' d f nq S j xs kvs := {h.ro.same s,h.dw.same s,s _ _ h.ex,h.an.imp λv i g=>g.ab s.ab,h.ws,h.nm,h.ky,h.ok,s _ _ h.en,h.nd.same s,h.fr}
def SB.sign(h:SB H0 Z d f nq S j xs kvs)(T:H0 f≠none)(E:f≠d)(F:nq≠f)(Y:j<24)(e:Z p=!(.tup [l,vn,o,.ref kq,k,.bl r.lv]))(A:GK Z (.tup r.pt) l)(B:GK Z (.tup r.nk) vn)(b:GK Z (kd (cn S) r.bh) o)(I:Z kq=!(.tup [.int r.ka,.int r.kb,.int r.kc]))(J:DT Z k r.sg)(hn:r.nk=[.inr w,.inl (40+(j:Int)),.inl 0])(y:PyData.strOk w=true)(hp:Pn r.pt)(q:r.ka=50+(j:Int) / 2/\r.kb=(j:Int) % 2/\r.kc=0)(s:∀i,r.bh=!i->i<j/\(S i).pt=r.pt)(G:l6 r.sg)(R:LK r.sg) : SB H0 (upd Z f (.lst (xs++[.ref p]))) d f nq (kR S j r) (j+1) (xs++[.ref p]) kvs:=do t:ai Z (upd Z f (.lst (xs++[.ref p]))):=ai.wl h.ex;a:=FP.ext S j r;N:Lay r.nk:=(do[hn];¬(PyData.strOk w&&(true&&(true&&true)))=true;[y];2);W:WS (kR S j r) (j+1):=h.ws.ext () (λi hi=>do _;{a1,a2,x}:=h.ky i hi;{U,H,X}:=q;@Mf;[a1,a2,U,H];()) (λi hi z=>do _;{w',L}:=h.nm i hi;z←[L,hn];(by injection z with _ z;injection z with z _;injection z with z);()) s N hp.lay R;lt:∀i,i<j->kR S j r i=S i:=λi hi=>eG hi;cs:∀{P:Nat->Prop},(∀i,i<j->P i)->P j->∀i,i<j+1->P i:=λh1 h2 i hi=>(do z<|i=j;[z];h2;h1 i ());{h.ro.wr (.inr rfl),h.dw.wr E.symm,aB,?_,W,cs (λi hi=>do[lt i hi];h.nm i hi) {w,do[gB];hn},cs (λi hi=>do[lt i hi];h.ky i hi) (do[gB];q),cs (λi hi=>do[lt i hi];h.ok i hi) (do[gB];G),do[ak F];h.en,?_,h.fr};[yi];AN.snoc (qY h.an λv i hi g=>(g.ab t).CI a (qo.mp hi) λm z=>?_) ?_;hi:=qo.mp hi;this:=(h.ws.back i hi m z).1;();ex:kR S j r j=r:=gB;{p,l,vn,o,kq,k,O,do[ex];t _ _ e,do[ex];A.ab t,do(by unfold NM cn);[ex];B.ab t,?_,do[ex];t _ _ I,do[ex];J.ab t};@r_;[ex];(by cases z:r.bh with|none|some m=>?_);b←[z];b;b←[z];NM.ab (NM.CI a (s m z).1 b) t;{h.nd.1.ab t,λc u e=>?_};{M,n,us,h1,h2,rfl,D,K,h6,Q}:=h.nd.2 c u e;{M,n,us,h1,h2,O,(ak λ(z:n=f)=>T (z▸h.fr c n e)).trans D,K,(),λv C=>?_};{i,a1,a2,x}:=Q v C;{i,(),do[lt i a1];a2,NM.ab (NM.CI a a1 x) t}
def SB.out(h:SB H0 Z d f nq S j xs kvs)(e:H0 b=!o)(c:b≠d)(a:b≠f):Z b=!o:=h.ro b o e λz=>z.elim c a
def SB.free(h:SB H0 Z d f nq S j xs kvs)(e:Z b=none):H0 b=none:=do(by cases z:H0 b with|none|some o=>?_);2;a1:b≠d:=h.dw.ne e;a2:b≠f:=λy=>(do e←[y,h.ex];-e);e←[h.out z a1 a2];-e
def SB.get(h:SB H0 Z d f nq S j xs kvs)(p:List Key):∃us:List V,us.length<=j/\(∀v∈us,∃i,i<j/\(S i).pt=p/\NM (cn S) Z v i)/\∀(Z':Hp) (e:Sx),(∀b o,H0 b=none->Z b=!o->Z' b=!o)->Z' e=!(.lst [])->∃a,(vG kvs (.tup p)).getD (.ref e)=.ref a/\Z' a=!(.lst us):=do(by cases z:vG kvs (.tup p)with|none|some u=>?_);{[],qv _,(λv z=>nomatch z),λZ' e s c=>{e,O,c}};{n,a,us,h1,h2,rfl,l,m,k,g}:=h.nd.2 _ _ z;(by injection h1 with h1);!h1;{us,k,g,λZ' e s c=>{a,O,s _ _ (h.fr _ _ z) l}}
def SB.put(h:SB H0 Z d f nq S j xs kvs)(hn:H0 nq=none)(E:nq≠d)(M:nq≠f)(pn:Pn p)(I:GK Z (.tup p) m)(e:Z l=!(.lst us))(fq:H0 l=none)(B:0<us.length)(L:us.length<=j)(w:∀v∈us,∃i,i<j/\(S i).pt=p/\NM (cn S) Z v i) : SB H0 (upd Z nq (.dG (pG kvs (.tup p) m (.ref l)))) d f nq S j xs (pG kvs (.tup p) m (.ref l)):=do t:ai Z (upd Z nq (.dG (pG kvs (.tup p) m (.ref l)))):=ai.wd h.en;ne:∀{b:Sx} {ys:List V},Z b=!(.lst ys)->upd Z nq (.dG (pG kvs (.tup p) m (.ref l))) b=!(.lst ys):=λ{b} {ys} e=>(do[ak λz=>do e←[z,h.en];-e];e);{λb o e n=>do[ak (λz=>do e←[z,hn];-e)];h.ro b o e n,h.dw.wr E.symm,ne h.ex,h.an.imp λv i g=>g.ab t,h.ws,h.nm,h.ky,h.ok,aB,{λe F=>?_,λk u z=>?_},λk u z=>?_};rfl||{e',he',h1,h2}:=IK F;⟨p,pn,O,I.ab t⟩;{s,G,A,C}:=h.nd.1 e' he';{s,G,h1.symm.trans A,do[←h2];C.ab t};z←[eL];y<|k=.tup p;z←[qF y];(by injection z with z);{p,l,us,y,pn,z.symm,ne e,B,L,λv q=>let⟨i,a,b,c⟩:=w v q;{i,a,b,NM.ab c t}};z←[qB y];{s,x,r,h1,h2,K,D,H,J,w}:=h.nd.2 k u z;{s,x,r,h1,h2,K,ne D,H,J,λv q=>let⟨i,a,b,c⟩:=w v q;{i,a,b,NM.ab c t}};z←[eL];y<|k=.tup p;z←[qF y];(by injection z with z;injection z with z);[←z];fq;z←[qB y];h.fr k u z
end
def Md:KD->Sw|.tup p=>tD p|_=>.none
theorem xC.l_:∀{kvs:List (KD×V×V)},xC H kvs->dU H (kvs.map (·.2.1)) (kvs.map λe=>Md e.1)|[],_=>.nil|e::r,h=>do _;{p,pn,b,g}:=h e qm;.cons ?_ (xC.l_ λe a=>h e (qy _ a));¬DV H e.2.1 (Md e.1);[b];(aK g).dv
def xC.keys(h:xC H kvs):KeysAre (kvs.map λe=>Md e.1) 3:=do all:∀d∈kvs.map (λe=>Md e.1),∃s n,d=.tuple [.str s,.int n]/\d.canLay0=true:=λd c=>(do _;{e,i,rfl}:=qf.mp c;{p,pn,j,g}:=h e i;{w,x,rfl}:=pn.two;[j];{w,x,O,pn.lay});{dH λd c=>?_,λd c=>?_,λa f b k=>?_,λd c=>?_};{s,n,rfl,l}:=all d c;l;{s,n,rfl,l}:=all d c;trivial;{s,n,rfl,_}:=all a f;{t,m,rfl,_}:=all b k;2;{s,n,rfl,_}:=all d c;jn rfl
def NA{α:Type}{ds:List Sw}{ix:List Nat}{ys:List α}{b:α}(a:dj ds ix)(d:ds.length=ys.length):∀v∈ix.map (λi=>ys.getD i b),v∈ys:=λv c=>do _;{i,hi,rfl}:=qf.mp c;this:=qo.mp (a.1.mem_iff.mp hi);[zm,qh ()];y0 _
def MH{ds:List Sw}{ix:List Nat}(a:dj ds ix):ix.length=ds.length:=do[a.1.length_eq,zo]
structure TB(H0 Z:Hp)(d:Sx)(F:Nat->Sx)(S:Nat->Sg)(n k:Nat)(M:Nat->Mk)(m:Nat)(N:Nat->Mk)(q:Nat)(ms ns:List V):Prop where
 ro:Rest H0 Z (λb=>b=d\/b=F 4\/b=F 5)
 dw:DW Z d
 e4:Z (F 4)=!(.lst ms)
 am:AN (MN S M Z) ms (List.range m)
 wm:WK S n M m
 lm:m<=k
 km:∀i,i<m->bV (M i).ka (M i).kb (80+(k:Int) / 2) ((k:Int) % 2)
 e5:Z (F 5)=!(.lst ns)
 an:AN (NN S N Z) ns (List.range q)
 wn:WK S n N q
 ln:q<=k
 kn:∀i,i<q->bV (N i).ka (N i).kb (80+(k:Int) / 2) ((k:Int) % 2)
section
variable {H0 Z Z':Hp}{d:Sx}{F:Nat->Sx}{S:Nat->Sg}{n k:Nat}{M N:Nat->Mk}{m q:Nat}{ms ns:List V}
def TB.to(h:TB H0 Z d F S n k M m N q ms ns)(r:Rest H0 Z' (λb=>b=d\/b=F 4\/b=F 5))(t:ai Z Z')(w:DW Z' d)(a:Z' (F 4)=!(.lst ms))(b:Z' (F 5)=!(.lst ns)):TB H0 Z' d F S n k M m N q ms ns := {r,w,a,h.am.imp λv i g=>g.ab t,h.wm,h.lm,h.km,b,h.an.imp λv i g=>g.ab t,h.wn,h.ln,h.kn}
def TB.draw(h:TB H0 Z d F S n k M m N q ms ns)(a:F 4≠d)(b:F 5≠d)(s:af (del Z d) Z')(w:DW Z' d):TB H0 Z' d F S n k M m N q ms ns := h.to (h.ro.del (.inl rfl) s) (h.dw.ab s) w (DP.to s h.e4 a) (DP.to s h.e5 b)
theorem TB.same(h:TB H0 Z d F S n k M m N q ms ns)(s:af Z Z'):TB H0 Z' d F S n k M m N q ms ns := h.to (h.ro.same s) s.ab (h.dw.same s) (s _ _ h.e4) (s _ _ h.e5)
def jA(h:bV a b (80+(k:Int) / 2) ((k:Int) % 2)):bV a b (80+((k+1:Nat):Int) / 2) (((k+1:Nat):Int) % 2):=by unfold bV at h ⊢;omega
def zN:bV (80+(k:Int) / 2) ((k:Int) % 2) (80+((k+1:Nat):Int) / 2) (((k+1:Nat):Int) % 2):=do@bV;()
def TB.next(h:TB H0 Z d F S n k M m N q ms ns):TB H0 Z d F S n (k+1) M m N q ms ns := {h.ro,h.dw,h.e4,h.am,h.wm,j0 h.lm,λi hi=>jA (h.km i hi),h.e5,h.an,h.wn,j0 h.ln,λi hi=>jA (h.kn i hi)}
def TB.out(h:TB H0 Z d F S n k M m N q ms ns)(e:H0 b=!o)(f:b≠d)(a:b≠F 4)(c:b≠F 5):Z b=!o:=h.ro b o e λz=>do z||z||z:=z;f z;a z;c z
def TB.mark(h:TB H0 Z d F S n k M m N q ms ns)(u:F 4≠d)(a:F 4≠F 5)(B:k<60)(o:MN S (λ_=>r) Z v m)(c:r.ka=80+(k:Int) / 2)(f:r.kb=(k:Int) % 2)(sd:d7 S n r.pt r.b/\d7 S n r.pt r.e)(l:Lay r.pt/\Lay r.nm/\PyData.strOk r.kd=true/\∀z,r.vl=!z->PyData.strOk z=true) : TB H0 (upd Z (F 4) (.lst (ms++[v]))) d F S n (k+1) (h_ M m r) (m+1) N q (ms++[v]) ns:=do t:ai Z (upd Z (F 4) (.lst (ms++[v]))):=ai.wl h.e4;C:=h.lm;{h.ro.wr (.inr (.inl rfl)),h.dw.wr u.symm,aB,?_,h.wm.ext () (λi hi=>do[c,f];h.km i hi) sd l,(),λi hi=>?_,do[ak a.symm];h.e5,h.an.imp λv i g=>g.ab t,h.wn,j0 h.ln,λi hi=>jA (h.kn i hi)};[yi];AN.snoc (qY h.am λv i hi g=>(g.ab t).ext (qo.mp hi)) ?_;{b,x,A,j,vn,kq,h0,h1,h2,s,w,y,p}:=o;ex:h_ M m r m=r:=mF;{b,x,A,j,vn,kq,h0,do[ex];t _ _ h1,do[ex];h2.ab t,do[ex];s.ab t,do[ex];w.ab t,do[ex];y.ab t,do[ex];t _ _ p};z<|i=m;[z,mF,c,f];zN;[jS (show i<m from ())];jA (h.km i ())
def TB.note(h:TB H0 Z d F S n k M m N q ms ns)(s:F 5≠d)(a:F 4≠F 5)(B:k<60)(o:NN S (λ_=>r) Z v q)(c:r.ka=80+(k:Int) / 2)(f:r.kb=(k:Int) % 2)(sd:d7 S n r.pt r.b/\d7 S n r.pt r.e)(l:Lay r.pt/\Lay r.nm/\PyData.strOk r.kd=true/\∀z,r.vl=!z->PyData.strOk z=true) : TB H0 (upd Z (F 5) (.lst (ns++[v]))) d F S n (k+1) M m (h_ N q r) (q+1) ms (ns++[v]):=do t:ai Z (upd Z (F 5) (.lst (ns++[v]))):=ai.wl h.e5;C:=h.ln;{h.ro.wr (.inr (.inr rfl)),h.dw.wr s.symm,do[ak a];h.e4,h.am.imp λv i g=>g.ab t,h.wm,j0 h.lm,λi hi=>jA (h.km i hi),aB,?_,h.wn.ext () (λi hi=>do[c,f];h.kn i hi) sd l,(),λi hi=>?_};[yi];AN.snoc (qY h.an λv i hi g=>(g.ab t).ext (qo.mp hi)) ?_;{b,x,A,j,vn,kq,h0,h1,h2,u,w,y,p}:=o;ex:h_ N q r q=r:=mF;{b,x,A,j,vn,kq,h0,do[ex];t _ _ h1,do[ex];h2.ab t,do[ex];u.ab t,do[ex];w.ab t,do[ex];y.ab t,do[ex];t _ _ p};z<|i=q;[z,mF,c,f];zN;[jS (show i<q from ())];jA (h.kn i ())
end
def lx{α:Type}(f:Nat->α)(n:Nat)(r:α):Nat->α:=λi=>if i=n then r else f i
def Hb{α:Type}{f:Nat->α}{n:Nat}{r:α}{i:Nat}(h:i<n):lx f n r i=f i:=qB ()
def G1{α:Type}{f:Nat->α}{n:Nat}{r:α}:lx f n r n=r:=qF rfl
structure UB(H0 Z:Hp)(d:Sx)(F:Nat->Sx)(X A B A2 B2:Int)(L:Nat->Ln)(l:Nat)(C:Nat->Ce)(c:Nat)(ls cs:List V):Prop where
 ro:Rest H0 Z (λb=>b=d\/b=F 6\/b=F 7)
 dw:DW Z d
 e6:Z (F 6)=!(.lst ls)
 al:AN (kG L Z) ls (List.range l)
 wl:WL L l
 nb:∀i,i<l->(L i).bh=none
 nk:∀i,i<l->∃z,(L i).nk=[.inr "bo",.inl z]/\z<X
 lk:∀i,i<l->bV (L i).ka (L i).kb A B
 e7:Z (F 7)=!(.lst cs)
 ac:AN (ir C Z) cs (List.range c)
 wc:Mm C c
 ck:∀i,i<c->bV (C i).ka (C i).kb A2 B2
section
variable {H0 Z Z':Hp}{d:Sx}{F:Nat->Sx}{X A B A2 B2 X' A' B':Int}{L:Nat->Ln}{l:Nat}{C:Nat->Ce}{c:Nat}{ls cs:List V}
def UB.to(h:UB H0 Z d F X A B A2 B2 L l C c ls cs)(r:Rest H0 Z' (λb=>b=d\/b=F 6\/b=F 7))(t:ai Z Z')(w:DW Z' d)(a:Z' (F 6)=!(.lst ls))(b:Z' (F 7)=!(.lst cs)):UB H0 Z' d F X A B A2 B2 L l C c ls cs := {r,w,a,h.al.imp λv i g=>g.ab t,h.wl,h.nb,h.nk,h.lk,b,h.ac.imp λv i g=>g.ab t,h.wc,h.ck}
def UB.draw(h:UB H0 Z d F X A B A2 B2 L l C c ls cs)(b:F 6≠d)(a:F 7≠d)(s:af (del Z d) Z')(w:DW Z' d):UB H0 Z' d F X A B A2 B2 L l C c ls cs := h.to (h.ro.del (.inl rfl) s) (h.dw.ab s) w (DP.to s h.e6 b) (DP.to s h.e7 a)
theorem UB.same(h:UB H0 Z d F X A B A2 B2 L l C c ls cs)(s:af Z Z'):UB H0 Z' d F X A B A2 B2 L l C c ls cs := h.to (h.ro.same s) s.ab (h.dw.same s) (s _ _ h.e6) (s _ _ h.e7)
def UB.own(h:UB H0 Z d F X A B A2 B2 L l C c ls cs)(e:Z q=!(.lst us))(f:H0 q=none)(i:q≠d)(a:q≠F 6)(g:q≠F 7):UB H0 (upd Z q o) d F X A B A2 B2 L l C c ls cs := h.to (λb o e n=>do[ak (λz=>do e←[z,f];-e)];h.ro b o e n) (ai.wl e) (h.dw.wr i.symm) (do[ak a.symm];h.e6) (do[ak g.symm];h.e7)
def UB.up(h:UB H0 Z d F X A B A2 B2 L l C c ls cs)(k:X<=X')(j:∀a b,bV a b A B->bV a b A' B')(g:∀a b,bV a b A2 B2->bV a b f e):UB H0 Z d F X' A' B' f e L l C c ls cs := {h.ro,h.dw,h.e6,h.al,h.wl,h.nb,λi hi=>let⟨z,a,b⟩:=h.nk i hi;{z,a,()},λi hi=>j _ _ (h.lk i hi),h.e7,h.ac,h.wc,λi hi=>g _ _ (h.ck i hi)}
def UB.out(h:UB H0 Z d F X A B A2 B2 L l C c ls cs)(e:H0 b=!o)(g:b≠d)(f:b≠F 6)(a:b≠F 7):Z b=!o:=h.ro b o e λz=>do z||z||z:=z;g z;f z;a z
def UB.free(h:UB H0 Z d F X A B A2 B2 L l C c ls cs)(e:Z b=none):H0 b=none/\b≠d/\b≠F 6/\b≠F 7:=do a1:b≠d:=h.dw.ne e;a2:b≠F 6:=λy=>(do e←[y,h.e6];-e);a:b≠F 7:=λy=>(do e←[y,h.e7];-e);{?_,a1,a2,a};(by cases z:H0 b with|none|some o=>?_);2;e←[h.out z a1 a2 a];-e
def UB.line(h:UB H0 Z d F X A B A2 B2 L l C c ls cs)(G:F 6≠d)(s:F 6≠F 7)(K:l<1000)(H:kG (λ_=>r) Z v l)(nk:r.nk=[.inr "bo",.inl X])(bh:r.bh=none)(u:r.ka=A)(x:r.kb=B)(I:Lay r.pt)(n:PyData.strOk r.wy=true)(E:X<X')(D:bV A B A' B') : UB H0 (upd Z (F 6) (.lst (ls++[v]))) d F X' A' B' A2 B2 (lx L l r) (l+1) C c (ls++[v]) cs:=do t:ai Z (upd Z (F 6) (.lst (ls++[v]))):=ai.wl h.e6;lt:∀i,i<l->lx L l r i=L i:=λi hi=>Hb hi;at_:lx L l r l=r:=G1;f:∀{P:Nat->Prop},(∀i,i<l->P i)->P l->∀i,i<l+1->P i:=λh1 h2 i hi=>(do z<|i=l;[z];h2;h1 i ());w:∀i,i<l->(L i).nk≠r.nk:=λi hi z=>(do _;{y,e,g}:=h.nk i hi;z←[e,nk];(by injection z with _ z;injection z with z _;injection z with z);());{h.ro.wr (.inr (.inl rfl)),h.dw.wr G.symm,aB,?_,{(),λi j a b=>?_,λi hi j J e=>?_,λi hi j e=>?_,?_,f (λi hi=>do[lt i hi];h.wl.wy i hi) (do[at_];n)},?_,?_,?_,do[ak s.symm];h.e7,h.ac.imp λv i g=>g.ab t,h.wc,h.ck};[yi];AN.snoc (qY h.al λv i hi g=>?_) ?_;hi:=qo.mp hi;{b,o,vn,q,kq,e,h1,h2,m,k,p}:=kG.ab g t;{b,o,vn,q,kq,e,do[lt i hi];h1,do[lt i hi];h2,do(by unfold NM cT at m ⊢);[lt i hi];m,?_,do[lt i hi];p};(by unfold uZ at k ⊢);k←[h.nb i hi];[lt i hi,h.nb i hi];k;{b,o,vn,q,kq,e,h1,h2,m,k,p}:=kG.ab H t;{b,o,vn,q,kq,e,do[at_];h1,do[at_];h2,do(by unfold NM cT at m ⊢);[at_];m,?_,do[at_];p};(by unfold uZ at k ⊢);k←[bh];[at_,bh];k;z<|j=l;[z,at_,lt i (),u,x];h.lk i ();[lt i (),lt j ()];h.wl.up i j a ();z<|i=l;y<|j=l;[z,y];e←[z,at_,lt j ()];absurd e.symm (w j ());y<|j=l;e←[y,at_,lt i ()];absurd e (w i ());e←[lt i (),lt j ()];h.wl.inj i () j () e;z<|i=l;e←[z,at_,bh];-e;e←[lt i (),h.nb i ()];-e;f (λi hi=>do[lt i hi];h.wl.lay i hi) ?_;[at_,nk];{by show(PyData.strOk "bo"&&(true&&true))=true;decide +kernel,I};f (λi hi=>do[lt i hi];h.nb i hi) (do[at_];bh);f (λi hi=>do[lt i hi];(let⟨z,a,b⟩:=h.nk i hi;{z,a,()})) (do[at_];{X,nk,E});f (λi hi=>do[lt i hi];JO (h.lk i hi) D) (do[at_,u,x];D)
def UB.cell(h:UB H0 Z d F X A B A2 B2 L l C c ls cs)(q:F 7≠d)(f:F 6≠F 7)(s:c<100)(o:ir (λ_=>r) Z v c)(k:r.ka=A2)(m:r.kb=B2)(p:Lay r.pt/\Lay r.rw/\Lay r.cl)(wd:Ml r.wd)(n:bV A2 B2 A' B') : UB H0 (upd Z (F 7) (.lst (cs++[v]))) d F X A B A' B' L l (lx C c r) (c+1) ls (cs++[v]):=do t:ai Z (upd Z (F 7) (.lst (cs++[v]))):=ai.wl h.e7;lt:∀i,i<c->lx C c r i=C i:=λi hi=>Hb hi;at_:lx C c r c=r:=G1;e:∀{P:Nat->Prop},(∀i,i<c->P i)->P c->∀i,i<c+1->P i:=λh1 h2 i hi=>(do z<|i=c;[z];h2;h1 i ());{h.ro.wr (.inr (.inr rfl)),h.dw.wr q.symm,do[ak f];h.e6,h.al.imp λv i g=>g.ab t,h.wl,h.nb,h.nk,h.lk,aB,?_,{(),λi j a b=>?_,?_,?_},?_};[yi];AN.snoc (qY h.ac λv i hi g=>?_) ?_;hi:=qo.mp hi;this:=ir.ab g t;(by unfold ir at this ⊢);[lt i hi];this;this:=ir.ab o t;(by unfold ir at this ⊢);[at_];this;z<|j=c;[z,at_,lt i (),k,m];h.ck i ();[lt i (),lt j ()];h.wc.up i j a ();e (λi hi=>do[lt i hi];h.wc.lay i hi) (do[at_];p);e (λi hi=>do[lt i hi];h.wc.wd i hi) (do[at_];wd);e (λi hi=>do[lt i hi];JO (h.ck i hi) n) (do[at_,k,m];n)
end
structure RC(Z:Hp)(rq cq:Sx)(us vs:List V)(k:Nat):Prop where
 er:Z rq=!(.lst us)
 ec:Z cq=!(.lst vs)
 ru:∀u∈us,∃p,GK Z (.tup p) u/\Pn p
 cu:∀u∈vs,∃p,GK Z (.tup p) u/\Pn p
 lu:us.length<=k
 lv:vs.length<=k
section
variable {Z Z':Hp}{rq cq:Sx}{us vs:List V}{k:Nat}
def RC.to(h:RC Z rq cq us vs k)(t:ai Z Z')(a:Z' rq=!(.lst us))(b:Z' cq=!(.lst vs)):RC Z' rq cq us vs k := {a,b,λu c=>let⟨p,g,n⟩:=h.ru u c;{p,g.ab t,n},λu c=>let⟨p,g,n⟩:=h.cu u c;{p,g.ab t,n},h.lu,h.lv}
def RC.same(h:RC Z rq cq us vs k)(s:af Z Z'):RC Z' rq cq us vs k:=h.to s.ab (s _ _ h.er) (s _ _ h.ec)
def RC.draw(h:RC Z rq cq us vs k)(w:DW Z d)(b:rq≠d)(a:cq≠d)(s:af (del Z d) Z'):RC Z' rq cq us vs k:=h.to (w.ab s) (DP.to s h.er b) (DP.to s h.ec a)
def RC.wr(h:RC Z rq cq us vs k)(e:Z q=!(.lst xs))(b:rq≠q)(a:cq≠q):RC (upd Z q o) rq cq us vs k:=h.to (ai.wl e) (do[ak b];h.er) (do[ak a];h.ec)
def RC.le(h:RC Z rq cq us vs k)(b:k<=a):RC Z rq cq us vs a:={h.er,h.ec,h.ru,h.cu,qg h.lu b,qg h.lv b}
def RC.row(h:RC Z rq cq us vs k)(n:rq≠cq)(g:GK Z (.tup p) v)(pn:Pn p):RC (upd Z rq (.lst (us++[v]))) rq cq (us++[v]) vs (k+1):=do t:ai Z (upd Z rq (.lst (us++[v]))):=ai.wl h.er;b:=h.lu;{aB,do[ak n.symm];h.ec,λu a=>?_,λu a=>let⟨p,g,n⟩:=h.cu u a;{p,g.ab t,n},do[qi,qt];(),j0 h.lv};z||z:=zh.mp a;{p,g,n}:=h.ru u z;{p,g.ab t,n};[qx.mp z];{p,g.ab t,pn}
def RC.turn(h:RC Z rq cq us vs k):RC Z cq rq vs us k:={h.ec,h.er,h.cu,h.ru,h.lv,h.lu}
def JU(h:∀u∈us,∃p,GK Z (.tup p) u/\Pn p):∃ps:List (List Key),us.length=ps.length/\cz Z us (ps.map tD)/\PyData.canLayAll0 (ps.map tD)=true:=do _;{ps,h1,h2}:=xM (P:=λu p=>GK Z (.tup p) u/\Pn p) h;a:AL (λu p=>GK Z (.tup p) u/\Pn p) us ps:={h1.symm,h2};{ps,h1.symm,AL.lW (λv p g=>aK g.1) a,(tR λk b=>do _;{_,_,_,h}:=a.gG b;h).1}
end
theorem KN.data(h:KN H kn):∀n,n<=kn.length->∃ps:List (List Key),ps.length=n/\∀(i:Nat) p,ps[i]?=!p->∃v w,kn[i]?=!v/\p=[.inr w,.inl (i:Int)]/\GK H (.tup p) v/\Pn p| 0,_=>{[],O,(λi p z=>nomatch z)}|n+1,hn=>do _;{ps,a,hp}:=KN.data h n ();e:=qh (show n<kn.length from ());{w,g,pn}:=h n _ e;{ps++[[.inr w,.inl (n:Int)]],do[qi,a];2,λi p z=>?_};hi<|i<n;z←[zv ()];hp i p z;this:i=n:=(do this:=(qk.mp z).1;this←[qi,a];this:i<n+1:=this;());!this;z←[ye (),a,gh];-z;{_,w,e,O,g,pn}
def KN.idx(h:KN H kn)(e:kn[j]?=!v):∃p ds,GK H (.tup p) v/\Pn p/\DV H v (tD p)/\dU H kn ds/\(tD p).canLay0=true/\PyData.canLayAll0 ds=true/\(tD p).depth<=61/\(∃d,ds[j]?=!d/\PyData.eqv d (tD p)=true)/\∀(m:Nat) d,m<j->ds[m]?=!d->PyData.eqv d (tD p)=false:=do _;{ps,o,hp}:=h.data kn.length (qe _);x:=(qk.mp e).1;b:ps[j]?=!(ps[j]'()):=qh ();{A,w,i,ep,g,pn}:=hp j _ b;i←[e];-i;(by generalize ps[j]'()=p at b ep g pn);!ep;c:AL (λu p=>GK H (.tup p) u/\Pn p) kn ps:={o.symm,λm u q a r=>do _;{n,_,f,_,g,pn}:=hp m q r;f←[a];-f;{g,pn}};{_,ps.map tD,g,pn,(aK g).dv,(AL.lW (λv p g=>aK g.1) c).dv,pn.lay,(tR λk l=>do _;{_,_,_,h}:=c.gG l;h).1,jn rfl,{_,do[qu,b];2,do[hP];qI rfl},λm d s a=>?_};a←[qu];(by cases z:ps[m]? with|none|some q=>?_);a←[z];-a;a←[z];-a;{_,t,_,eq,_,_}:=hp m q z;[hP,eq];decide_eq_false λy=>?_;(by injection y with _ y;injection y with y _;injection y with y);()
def Oc{xs:List V}{j:Nat}{v:V}(e:(d6 xs none (some 3))[j]?=!v):xs[j]?=!v:=do(by unfold d6 at e);e←[show HT.b_ xs.length 0 none=0 from rfl,List.drop_zero];e←[List.getElem?_take];(by split at e);e;-e
def kT(k:Nat)(d:Sw):Prop:=d.canLay0=true/\d.depth<=k
def fQ(h:∀d∈ds,kT k d):kT (k+1) (.list ds):={dH λd a=>(h d a).1,j3 (gR λd a=>(h d a).2)}
def nK(h:∀d∈ds,kT k d):kT (k+1) (.tuple ds):={dH λd a=>(h d a).1,j3 (gR λd a=>(h d a).2)}
def nV(h:PyData.strOk z=true):kT k (.str z):={h,qv _}
def kT.up(h:kT k d)(l:k<=m):kT m d:={h.1,qg h.2 l}
def ti(h:Lay p):kT 1 (tD p):={h,eh p}
def xQ(h:PyData.strOk a=true)(g:PyData.strOk b=true):PyData.strOk (a++b)=true:=do(by unfold PyData.strOk at *);¬(a.cps++b.cps).all _=true;[Array.all_append,h,g];2
def Jr:∀i:Nat,i<=101->PyData.strOk (hH i)=true:=do this:∀i:Nat,i<102->PyData.strOk (hH i)=true:=∅;λi h=>this i ()
def oG(z:Sy):Str.empty++z=z:=do¬({#[]++z.cps}:Sy)=z;[Array.empty_append]
def BJ(h:PyData.strOk z=true)(hi:i<=101):PyData.strOk (pZ z i)=true:=do@pZ;3;Jr i hi;[oG];xQ (xQ h ∅) (Jr i hi)
theorem qQ.cJ(h:qQ zs G p l)(W:ZW zs):l.length<=100:=do nd:(l.map (·.pt)).Nodup:=wb.mpr (List.Pairwise.imp_of_mem (λ{a b} d f g z=>do e:a=b:=(do e||e||e:=W.A1 a ((h.mem a).mp d).1 b ((h.mem b).mp f).1;e;rN W.nd ((h.mem a).mp d).1 ((h.mem b).mp f).1 z;rN W.nd ((h.mem a).mp d).1 ((h.mem b).mp f).1 z);g←[e];HL _ _ g) h.up);this:=Cj nd (ws:=zs.map (·.pt)) λc i=>(do _;{x,j,rfl}:=qf.mp i;qf.mpr {x,((h.mem x).mp j).1,O});this←[qj,qj];qg this W.cJ
def Wk.ok(W:ZW zs){st out:List (List Key×Sy)}(h:Wk zs G st out):(∀x∈st,PyData.strOk x.2=true)->(∀x∈out,PyData.strOk x.2=true)/\∀x∈st,x∈out:=do(by induction h with|nil|@cons p z st l out i w e=>?_);λ_=>{(λx z=>nomatch z),λx z=>nomatch z};(c);hz:PyData.strOk z=true:=c (p,z) qm;f:=i.cJ W;{h1,h2}:=e λx a=>(do a||a:=zh.mp a;{m,b}:=jf a;b←[sF];{y,d,rfl}:=wj.mp b;this:=(qk.mp d).1;BJ hz ();c x (qy _ a));{λx a=>?_,λx a=>?_};rfl||a:=q0.mp a;hz;h1 x a;rfl||a:=q0.mp a;qm;qy _ (h2 x (zy _ a))
theorem Nums.ok(h:Nums d a)(W:XW (tl d.rs)):∀x∈a,PyData.strOk x.2=true:=do _;{zs,g,h1,h2}:=h;(h2.ok (h1.1.zw W) λx b=>by rw[qx.mp b];decide +kernel).1
def NU(H:Hp)(v:V)(e:List Key×Sy):Prop:=∃b a,v=.ref b/\H b=!(.tup [.str e.2,a])/\GK H (.tup e.1) a
theorem NU.ab(h:NU H v e)(t:ai H H'):NU H' v e:=do _;{b,a,c,h1,h2}:=h;{b,a,c,t _ _ h1,h2.ab t}
def Od(e:List Key×Sy):Sw:=.tuple [.str e.2,tD e.1]
def NU.dt(h:NU H v e):DT H v (Od e):=do _;{b,a,rfl,h1,h2}:=h;.tup h1 (.cons (.str _) (.cons (aK h2) .nil))
def Ax(z:Sy)(i:Nat):(z++if decide (z = "") then("":Sy) else ".")++hH i=pZ z i:=do@pZ;h<|z = "";[qF (qI h),qF h,h];(congrArg (·++hH i) (oG _)).trans (oG _);[qB (do[decide_eq_false h];qr),qB h,oG]
inductive fG(vs:List V)(H:Hp)(Q:VK)(_:XK):Prop
 |mk(fa F d nu:_)(_:vs=[.ref fa])(_:FZ H fa F d)(_:dh H)(_:MA H)(_:Nums d nu)(_:nu.length<=63)(_:(∀x∈nu,Pn x.1/\x.2.length<=1000))(_:∀H' q ts,af (bP H s2) H'->dh H'->H q=none->H' q=!(.lst ts)->AL (NU H') ts nu->Q (.ref q) H')
section
variable {vs:List V}{H:Hp}{Q:VK}{E:XK}
end
def Wk.len{st out:List (List Key×Sy)}(h:Wk zs G st out):st.length<=out.length:=do(by induction h with|nil|cons i w a=>?_);qe _;a←[qi];[zd,zd];()
def Wk.sub{st out:List (List Key×Sy)}(h:Wk zs G st out):∀x∈st,x∈out:=do(by induction h with|nil|cons i w b=>?_);λx z=>nomatch z;(x,a);rfl||a:=q0.mp a;qm;qy _ (b x (zy _ a))
def G5(z:Sy)(j:Nat):(z++if(not (decide (V.str z=V.str "")))=true then(".":Sy) else "")++GJ (V.int ((j:Int)+1))=pZ z (j+1):=do[←Ax z (j+1),tQ];h<|z = "";[qI h];2;[decide_eq_false h];2
def PN{j:Nat}(h:j<=900):((j:Int)+1).natAbs.log2<1920:=do¬(j+1).log2<1920;(Nat.log2_lt ()).mpr (jj (show j+1<=1000 from ()) (zf (by decide:1000<2 ^ 10) (bi ⋯ ⋯)))
def sy{S:Nat->Sg}{pt:List Key}(W:WK S n M m)(h:d∈vI M a js (aH M m pt) p):d.canLay0=true/\d.depth<=2/\f' d=true:=do(by unfold vI at h);{kd,_,h2}:=jo.mp h;(by cases c:tell M js (aH M m pt) kd p with|none|some k=>?_);h2←[c];-h2;h2←[c];h2:(if(M k).vl=none then none else some (PyData.tuple [.str (M k).kd,qR M a k]))=!d:=h2;f:k<m:=qo.mp (zk.mp (JF c).1).1;{l,g,i,j}:=W.lay k f;z<|(M k).vl=none;h2←[qF z];-h2;h2←[qB z];-h2;b:(qR M a k).canLay0=true/\(qR M a k).depth<=1/\f' (qR M a k)=true:=(do@qR;(by cases a with|true|false=>?_);{g,eh _,mJ _};(by cases q:(M k).vl with|none|some y=>?_);absurd q z;{j y q,qv 1,O});{?_,?_,?_};¬(PyData.strOk (M k).kd&&((qR M a k).canLay0&&true))=true;[i,b.1];2;¬max 0 (max (qR M a k).depth 0)+1<=2;();[f'];pF λd e=>?_;(by ac_nf at e);rfl||rfl:=e;2;b.2.2
theorem lI{α:Type}{P:V->α->Prop}{H:Hp}{D:α->Sw}(a:∀v r,P v r->DV H v (D r)):∀{vs:List V} {rs:List α},AL P vs rs->dU H vs (rs.map D)|[],[],_=>.nil|[],_::_,h=>h.none.elim|_::_,[],h=>h.nothing.elim|_::_,_::_,h=>.cons (a _ _ h.head) (lI a h.tail)
theorem HU{H:Hp}{f:Nat->Sy}:∀js:List Nat,dU H (js.map λc=>.str (f c)) (js.map λc=>.str (f c))|[]=>.nil|_::js=>.cons (.str _) (HU js)
def Mb(d:DZ)(p:List Key)(r:Nat):Sw:=.list ((bC d.L d.a p "column").map λc=>.str (o4 d.C d.b p (cT d.L r) (cT d.L c)))
def pM(d:DZ)(p:List Key):Sw:=.tuple [.list ((bC d.L d.a p "row").map λi=>tD (cT d.L i)),.list ((bC d.L d.a p "column").map λi=>tD (cT d.L i)),.list ((bC d.L d.a p "row").map (Mb d p))]
def K_(d:DZ)(p:List Key):List Sw:=(bY d.N d.q p).map (qT d.S (aF d.S d.n p) d.N)
noncomputable def rW(d:DZ)(num:List Key->Option Sy)(p:List Key)(i:Nat):Sw:=.tuple [tD (cn d.S i),.str (tx num (d.S i).sg),.list (wD d p i)]
noncomputable def xT(d:DZ)(num:List Key->Option Sy)(x:List Key×Sy):Sw:=.tuple [.str x.2,tD x.1,.list ((bB d.S d.n x.1).map (rW d num x.1)),.list (K_ d x.1),pM d x.1]
section
variable {d:DZ}{num:List Key->Option Sy}{H:Hp}{v:V}{e:EP}{p:List Key}{z:Sy}
def EZ.row(h:EZ d num H v e p z):DV H (.ref e.q2) (.list ((bB d.S d.n p).map (rW d num p))):=do _;{zs,h1,h2}:=h.rw_;this:=lI (H:=H) (D:=λx:Nat×Sx=>rW d num p x.1) (λv x ⟨b,vn,ms,a,g,i,c,f⟩=>do[a];.tup (aV.of g) (.cons (aK i).dv (.cons (.str _) (.cons (.lst (az.of c) f.dv) .nil)))) h2;this←[show e.ia.map (λx=>rW d num p x.1)=(e.ia.map (·.1)).map (rW d num p) by rw[z9];rfl,h.ri];.lst (az.of h1) this
def Kq{q f j k:Sx}{l m ws:List V}{e:List (Nat×Sx)}(h:H q=!(.tup [.ref f,.ref j,.ref k]))(a:H f=!(.lst l))(a2:AN (NM (cT d.L) H) l (bC d.L d.a p "row"))(b:H j=!(.lst m))(s:AN (NM (cT d.L) H) m (bC d.L d.a p "column"))(c:H k=!(.lst ws))(r:AL (WZ d p H) ws e)(o:e.map (·.1)=bC d.L d.a p "row"):DV H (.ref q) (pM d p):=do this:=lI (H:=H) (D:=λx:Nat×Sx=>Mb d p x.1) (λv x ⟨n,t⟩=>do[n];.lst (az.of t) (HU _)) r;this←[show e.map (λx=>Mb d p x.1)=(e.map (·.1)).map (Mb d p) by rw[z9];rfl,o];.tup (aV.of h) (.cons (.lst (az.of a) (lI (P:=NM (cT d.L) H) (D:=λi=>tD (cT d.L i)) (λv i g=>(aK g).dv) a2)) (.cons (.lst (az.of b) (lI (P:=NM (cT d.L) H) (D:=λi=>tD (cT d.L i)) (λv i g=>(aK g).dv) s)) (.cons (.lst (az.of c) this) .nil)))
def EZ.tab(h:EZ d num H v e p z):DV H (.ref e.b4) (pM d p):=let⟨_,a,a2⟩:=h.ra;let⟨_,b,g⟩:=h.cb;let⟨_,c,f⟩:=h.wc;Kq h.t4 a a2 b g c f h.wi
def EZ.not(h:EZ d num H v e p z):DV H (.ref e.q3) (.list (K_ d p)):=let⟨_,a,b⟩:=h.nt;.lst (az.of a) b.dv
theorem EZ.dv(h:EZ d num H v e p z):DV H v (xT d num (p,z)):=do[h.vb];.tup (aV.of h.tp) (.cons (.str _) (.cons (aK h.gp).dv (.cons h.row (.cons h.not (.cons h.tab .nil)))))
end
def Lx{pt:List Key}(h:i∈bC L n pt wy)(W:WL L n):i<n:=do h:=(zk.mp h).1;e:i∈iQ L n pt wy↔i∈Rga.lK (Rga.cP (uZ L) (cF L n pt wy)):=(Rga.cY (W.vD pt wy).wf).mem_iff;h←[e,Rga.eO,yh];qo.mp (zk.mp h).1
theorem Dz(pt r c:List Key):∀m,(∀i,i<m->Ml (C i).wd)->PyData.strOk (o4 C m pt r c)=true| 0,_=>(do¬PyData.strOk ""=true;by decide +kernel)|m+1,h=>do[Ge];3;(by rcases h m () with e|e|e|e <;> rw[e] <;> decide +kernel);Dz pt r c m λi hi=>h i ()
section
variable {H:Hp}{fa:Sx}{F:Nat->Sx}{d:DZ}{p:List Key}
def FZ.C5(h:FZ H fa F d):kT 3 (pM d p):=do _;{kvs,k,vs,l,cs,_,_,_,_,e,_,_,_,f}:=h.tb;g:∀wy,kT 2 (.list ((bC d.L d.a p wy).map λi=>tD (cT d.L i))):=λwy=>fQ λx b=>(do _;{i,hi,rfl}:=qf.mp b;ti (e.lay i (Lx hi e)).1);nK λx b=>?_;(by ac_nf at b);rfl||rfl||rfl:=b;g _;g _;fQ λx b=>?_;{i,hi,rfl}:=qf.mp b;fQ λx b=>?_;{c,j,rfl}:=qf.mp b;nV (Dz _ _ _ _ f.wd)
def FZ.Q9(h:FZ H fa F d):kT 3 (.list (K_ d p)):=do _;{xs,ms,ns,fs}:=h.fs;{a,b,_}:=Jh (pt:=p) fs.ws fs.wn;{a,j3 b}
def FZ.MG(h:FZ H fa F d)(i:Nat):kT 3 (.list (wD d p i)):=do _;{xs,ms,ns,fs}:=h.fs;fQ λx a=>{(sy fs.wm a).1,(sy fs.wm a).2.1}
def FZ.Qi(h:FZ H fa F d)(hi:i∈bB d.S d.n p):i<d.n:=let⟨_,_,_,fs⟩:=h.fs;((lX fs.ws).mp (zk.mp hi).1).1
def FZ.Se(h:FZ H fa F d):kT 2 (.list ((bB d.S d.n p).map λi=>tD (cn d.S i))):=do _;{xs,ms,ns,fs}:=h.fs;fQ λx a=>do _;{i,hi,rfl}:=qf.mp a;ti (fs.ws.lay i (h.Qi hi)).1
def Ac(hn:∀p z,num p=!z->PyData.strOk z=true)(o:l6 x)(l:x.canLay0=true):PyData.strOk (tx num x)=true:=do ex:∃t,txt num x t/\PyData.strOk t=true:=(do _;{z,rfl,_}||{w,rfl,_}||{p,rfl,_}:=o;⟨z,.inl rfl,l⟩;⟨_,.inr (.inl ⟨w,O,O⟩),xQ ∅ ?_⟩;l:(PyData.strOk "picture"&&(PyData.strOk w&&true))=true:=l;l←[mi,zt];l.2;{_,.inr (.inr {p,O,O}),xQ ∅ ?_};(by cases q:num p with|none|some z=>?_);¬PyData.strOk "?"=true;(by decide +kernel);hn p z q);{t,h1,h2}:=ex;[←Ab h1];h2
def FZ.P9(h:FZ H fa F d)(hn:∀p z,num p=!z->PyData.strOk z=true)(hp:Pn x.1)(hz:PyData.strOk x.2=true):kT 6 (xT d num x):=do _;{xs,ms,ns,fs}:=h.fs;nK λy b=>?_;(by ac_nf at b);rfl||rfl||rfl||rfl||rfl:=b;nV hz;(ti hp.lay).up ⋯;fQ λy b=>?_;{i,hi,rfl}:=qf.mp b;a:=h.Qi hi;nK λy b=>?_;(by ac_nf at b);rfl||rfl||rfl:=b;(ti (fs.ws.lay i a).1).up ⋯;nV (Ac hn (h.sg i a) (fs.ws.sgn i a).1);h.MG i;h.Q9.up ⋯;h.C5.up ⋯
end
def md(h:x=y)(l:x.canLay0=true):(if true=true then not (PyData.eqv x y) else PyData.eqv x y)=false:=do[qF rfl,←h,PySem.SeqAt.eqv_refl x l];2
inductive eH(vs:List V)(H:Hp)(Q:VK)(_:XK):Prop
 |mk(fa F d num v e p z vp:_)(_:vs=[.ref fa,v,.str z,vp])(_:FZ H fa F d)(_:EZ d num H v e p z)(_:GK H (.tup p) vp)(_:Pn p)(_:∀H',af H H'->Q (.bl true) H')
inductive iR(vs:List V)(H:Hp)(Q:VK)(_:XK):Prop
 |mk(fa F d nu fq es ps H0:_)(_:vs=[.ref fa,.ref fq])(_:FZ H fa F d)(_:dh H)(_:MA H)(_:H fq=!(.lst es))(_:Nums d nu)(_:nu.length<=63)(_:(∀x∈nu,Pn x.1/\x.2.length<=1000))(_:DC d (eS nu) nu H0 H es ps)(_:∀H',af (bP H s2) H'->dh H'->Q (.bl true) H')
section
variable {vs:List V}{H:Hp}{Q:VK}{E:XK}
end
def rM(ds:List Sw):Prop:=PyData.canLayAll0 ds=true/\(ds.any λd=>PyData.eqv d .none)=false
structure ES(H:Hp)(e:EP)(z:Sy):Prop where
 tp:H e.b=!(.tup [.str z,e.vp,.ref e.q2,.ref e.q3,.ref e.b4])
 t4:H e.b4=!(.tup [.ref e.qa,.ref e.qb,.ref e.qc])
 rw_:∃zs ds,H e.q2=!(.lst zs)/\dU H zs ds/\rM ds/\zs.length<=2000
 nt:∃zs ds,H e.q3=!(.lst zs)/\cz H zs ds/\rM ds/\zs.length<=2000
 ra:∃zs ds,H e.qa=!(.lst zs)/\cz H zs ds/\rM ds/\zs.length<=2000
 cb:∃zs ds,H e.qb=!(.lst zs)/\cz H zs ds/\rM ds/\zs.length<=2000
 wc:H e.qc=!(.lst (e.wa.map λx=>.ref x.2))
 ws:∀x∈e.wa,∃zs ds,H x.2=!(.lst zs)/\cz H zs ds/\rM ds/\zs.length<=2000
 wl:e.wa.length<=1400
 nd:e.B.Nodup
section
variable {H X:Hp}{e:EP}{z:Sy}
theorem ES.at(h:ES H e z)(d:e.B[j]?=!a):∃zs,H a=!(.lst zs)/\zs.length<=2000/\∀X,ai H X->(∀b o,b∉e.B.take j->H b=!o->X b=!o)->∃ds,dU X zs ds/\rM ds:=do one:(∃zs ds,H a=!(.lst zs)/\cz H zs ds/\rM ds/\zs.length<=2000)->∃zs,H a=!(.lst zs)/\zs.length<=2000/\∀X,ai H X->(∀b o,b∉e.B.take j->H b=!o->X b=!o)->∃ds,dU X zs ds/\rM ds:=λ⟨zs,ds,a,b,c,l⟩=>{zs,a,l,λX t _=>{ds,(b.ab t).dv,c}};by match j,d with| 0,d=>cases d;obtain⟨zs,ds,a,b,c,l⟩:=h.rw_;exact{zs,a,l,λX t k=>{ds,b.same λb o e=>k b o (λz=>nomatch z) e,c}}| 1,d=>cases d;exact one h.nt| 2,d=>cases d;exact one h.ra| 3,d=>cases d;exact one h.cb| 4,d => cases d;refine{_,h.wc,do[qj];qg h.wl ⋯,λX t k=>?_};have p:∀l:List (Nat×Sx),(∀x∈l,x∈e.wa)->∃ds,dU X (l.map λx=>.ref x.2) ds/\rM ds:=λl=>(do(by induction l with|nil|cons x l n=>?_);λ_=>{[],.nil,O,O};(i);{ds,h1,h2}:=n λy m=>i y (qy _ m);g:=i x qm;{zs,f,a,b,c,_}:=h.ws x g;{.list f::ds,.cons (.lst (az.of (k _ _ (λz=>?_) a)) (b.ab t).dv) h1,?_,?_};nd:=h.nd;this:x.2∈e.wa.map (·.2):=qf.mpr {x,g,O};nd←#[_,EP.B,List.nodup_cons,List.mem_cons,not_or];z:x.2∈[e.q2,e.q3,e.qa,e.qb]:=z;(by ac_nf at z);z||z||z||z:=z;nd.1.2.2.2.2 (z▸this);nd.2.1.2.2.2 (z▸this);nd.2.2.1.2.2 (z▸this);nd.2.2.2.1.2 (z▸this);¬(PyData.canLayAll0 f&&PyData.canLayAll0 ds)=true;[c.1,h2.1];2;h2.2);exact p e.wa λx h=>h|j+5,d => have d:(e.wa.map (·.2))[j]?=!a:=d;rw[qu]at d;obtain⟨x,g,rfl⟩:=wj.mp d;exact one (h.ws x (qw g))
def ES.has(h:ES H e z)(b:a∈e.B):∃zs,H a=!(.lst zs):=let⟨_,c⟩:=jf b;let⟨zs,e,_⟩:=h.at c;{zs,e}
end
inductive f7(vs:List V)(H:Hp)(Q:VK)(_:XK):Prop
 |mk(e z:_)(_:vs=[.ref e.b])(_:ES H e z)(_:∀H',af (bP H (·∈e.B)) H'->Q (.bl true) H')
def LR.eQ(h:LR H v):lU H v:=do _;{a,b,k,p,x,t,y,c,rfl,h1,h2,g,i,j,f}:=h;pJ h1 (.cons (aK h2) (.cons (.str _) (.cons (.str _) (.cons (.bl _) (.cons (.tup i (.cons (.int _) (.cons (.int _) .nil))) .nil))))) λd e=>?_;(by ac_nf at e);rfl||rfl||rfl||rfl||rfl:=e;cm g.lay;d8 j;d8 f;⟨O,O,qv _⟩;fH _ _
def kG.eQ(h:kG L H v i)(W:WL L n)(hi:i<n):lU H v:=do _;{b,r,vn,f,kq,rfl,h1,h2,l,c,m}:=h;k:∃a,DT H f a/\(a.canLay0=true/\sk a a=true/\a.depth<=1):=(do(by cases q:uZ L i with|none|some j=>?_);c←[q];c:f=.aQ:=c;!c;{.none,.aQ,O,O,qv _};c←[q];p:=(W.back i hi j q).1;{tD (cT L j),aK c,cm (W.lay j ()).1});{a,o,g}:=k;pJ h1 (.cons (aK h2) (.cons (.str _) (.cons (aK l) (.cons o (.cons (.tup m (.cons (.int _) (.cons (.int _) .nil))) (.cons (.bl _) .nil)))))) λd e=>?_;(by ac_nf at e);rfl||rfl||rfl||rfl||rfl||rfl:=e;cm (W.lay i hi).2;d8 (W.wy i hi);cm (W.lay i hi).1;g;fH _ _;⟨O,O,qv _⟩
def ir.eQ(h:ir C H v i)(W:Mm C m)(hi:i<m):lU H v:=do _;{b,k,j,vc,kq,rfl,h1,h2,c,f,g}:=h;pJ h1 (.cons (aK h2) (.cons (aK c) (.cons (aK f) (.cons (.str _) (.cons (.tup g (.cons (.int _) (.cons (.int _) .nil))) .nil))))) λd a=>?_;(by ac_nf at a);rfl||rfl||rfl||rfl||rfl:=a;cm (W.lay i hi).1;cm (W.lay i hi).2.1;cm (W.lay i hi).2.2;d8 ?_;(by rcases W.wd i hi with e|e|e|e <;> rw[e] <;> decide +kernel);fH _ _
def FZ.lists(h:FZ H fa F d):∃xs:Nat->List V,∀i,i<9->H (F i)=!(.lst (xs i))/\∀z∈xs i,lU H z:=do each:∀i,i<9->∃xs,H (F i)=!(.lst xs)/\∀z∈xs,lU H z:=λi hi=>(do _;{t,v,m,fs}:=h.fs;{bs,es,cs,k,c,_}:=h.fb;{kvs,A,vs,B,f,h1,h2,p,r,u,e,l,n,x}:=h.tb;{ys,q,w,_}:=h.lv;j:kvs=cE F 9:=(by rcases h1 with a|⟨o,a⟩ <;> rcases fs.dk with b|⟨o',b⟩ <;> rw[a]at b <;> cases b <;> rfl);!j;h2:=(cX F 6 ⋯).symm.trans h2;e:=(cX F 7 ⋯).symm.trans e;-h2;-e;by match i,hi with| 0,_=>exact{bs,c.eb,c.fi.eQ 0}| 1,_=>exact{es,c.ev,c.fi.eQ 1}| 2,_=>exact{cs,c.ec,c.fi.eQ 2}| 3,_=>exact{t,fs.sl,fs.eQ 3}| 4,_=>exact{v,fs.ml,fs.eQ 4}| 5,_=>exact{m,fs.nl,fs.eQ 5}| 6,_=>exact{vs,p,λz hz=>let⟨i,hi,g⟩:=r.mem hz;g.eQ u (qo.mp hi)}| 7,_=>exact{f,l,λz hz=>let⟨i,hi,g⟩:=n.mem hz;g.eQ x (qo.mp hi)}| 8,_=>exact{ys,q,λy s=>(w y s).eQ});{λi=>if h:i<9 then Classical.choose (each i h) else[],λi hi=>do#[_,dif_pos hi];Classical.choose_spec (each i hi)}
theorem FZ.cI{H H':Hp}{fa:Sx}{F:Nat->Sx}{d:DZ}(h:FZ H fa F d)(l:Rd H' fa (.dK (cE F 9)))(k:∀b o,b≠fa->H b=!o->(∀ps,o≠.cf ps)->H' b=!o):FZ H' fa F d:=do _;{xs,ms,ns,fs}:=h.fs;ne:∀{b o},H b=!o->(∀f,o≠.dK f)->(∀u f,o≠.cI u (.dK f))->b≠fa:=λe h1 h2 z=>(do e←[z];(by rcases fs.dk with q|⟨o',q⟩ <;> rw[q]at e <;> cases e);h1 _ rfl;h2 _ _ rfl);c:∀{b xs},H b=!(.lst xs)->H' b=!(.lst xs):=λe=>k _ _ (ne e (λ_ z=>nomatch z) λ_ _ z=>nomatch z) e λ_ z=>nomatch z;t:ai H H':=λb xs e=>k _ _ (ne e (λ_ z=>nomatch z) λ_ _ z=>nomatch z) e λ_ z=>nomatch z;{{xs,ms,ns,fs.to t l λi _ xs e=>c e},h.hm,?_,?_,?_,h.sg};{bs,es,cs,j,g,h1,h2}:=h.fb;{bs,es,cs,j,{l,g.inj,λi h1 h2=>let⟨xs,e⟩:=g.rest i h1 h2;{xs,c e},c g.eb,c g.ev,c g.ec,g.fi.ab t},h1,h2};{ys,e,h1,h2}:=h.lv;{ys,c e,λy A=>(h1 y A).ab t,h2};{kvs,x,vs,B,cs,h1,h2,s,w,C,r,m,p,D}:=h.tb;n:kvs=cE F 9:=(by rcases h1 with a|⟨o,a⟩ <;> rcases fs.dk with b|⟨o',b⟩ <;> rw[a]at b <;> cases b <;> rfl);{kvs,x,vs,B,cs,n▸l,h2,c s,w.imp λv i g=>kG.ab g t,C,r,c m,p.imp λv i g=>ir.ab g t,D}
def DC.kp{es:List V}(h:DC d num f H0 H es ps)(k:∀b o,H b=!o->(∀ps,o≠.cf ps)->H' b=!o):DC d num f H0 H' es ps := {h.len,h.iv,λm v e x a b c=>(h.at_ m v e x a b c).to (λb xs e=>k _ _ e (λ_ z=>nomatch z)) (λa _ o q=>k _ _ q (λ_ z=>nomatch z)),h.nd,h.fr}
noncomputable def xS(d:DZ)(a:List (List Key×Sy)):Sw:=.list (a.map (xT d (eS a)))
def BO{d:DZ}{num:List Key->Option Sy}{H:Hp}{f:List (List Key×Sy)}:∀{es:List V} {ps:List EP},es.length=f.length->ps.length=f.length->(∀(m:Nat) v e x,es[m]?=!v->ps[m]?=!e->f[m]?=!x->EZ d num H v e x.1 x.2)->dU H es (f.map (xT d num)):=do(by induction f with|nil|cons x f g=>?_);(es,ps,h1,h2,h);(by cases es with|nil|cons v es=>?_);.nil;-h1;(es,ps,h1,h2,h);(by cases es with|nil|cons v es=>?_);-h1;(by cases ps with|nil|cons e ps=>?_);-h2;.cons (h 0 v e x rfl rfl rfl).dv (g (Nat.succ.inj h1) (Nat.succ.inj h2) λm v e x a b c=>h (m+1) v e x a b c)
def DC.dv{es:List V}(h:DC d (eS a) a H0 H es ps)(e:H q=!(.lst es)):DV H (.ref q) (xS d a):=.lst (az.of e) (BO h.len h.iv h.at_)
def FZ.MU(h:FZ H fa F d)(hn:Nums d a)(nk:∀x∈a,Pn x.1/\x.2.length<=1000):kT 7 (xS d a):=do ok:=hn.ok h.xw;fQ λy b=>?_;{x,c,rfl}:=qf.mp b;h.P9 (λp z e=>?_) (nk x c).1 (ok x c);{y,b,rfl}:=wj.mp e;ok y (jx b)
def FZ.Sb(h:FZ H fa F d):FZ (upd H (F 5) (.lst [])) fa F {d with q:=0}:=do _;{xs,ms,ns,fs}:=h.fs;E:∀i,i<9->i≠5->F i≠F 5:=λi hi n z=>n (fs.inj i hi 5 ⋯ z);t:ai H (upd H (F 5) (.lst [])):=ai.wl fs.nl;f:∀i,i<9->i≠5->∀{o},H (F i)=!o->(upd H (F 5) (.lst [])) (F i)=!o:=λi hi n {o} e=>(do[ak (E i hi n)];e);l:∀i,i<9->(∃xs,H (F i)=!(.lst xs))->∃xs,(upd H (F 5) (.lst [])) (F i)=!(.lst xs):=λi hi ⟨xs,e⟩=>(do z<|i=5;[z];{_,aB};{xs,f i hi z e});k:Rd (upd H (F 5) (.lst [])) fa (.dK (cE F 9)):=Rd.wr fs.dk λz=>(by have:=fs.nl;rw[←z]at this;rcases fs.dk with q|⟨o',q⟩ <;> rw[q]at this <;> cases this);{{xs,ms,[],{k,fs.inj,λi a b c e=>l i a (fs.rest i a b c e),f 3 ⋯ ⋯ fs.sl,fs.sa.imp λv i g=>g.ab t,fs.ws,f 4 ⋯ ⋯ fs.ml,fs.ma.imp λv i g=>g.ab t,fs.wm,aB,.nil,{qv _,(λi j _ z=>nomatch z),(λi z=>nomatch z),(λi z=>nomatch z)}}},h.hm,?_,?_,?_,h.sg};{bs,es,cs,j,g,h1,h2}:=h.fb;{bs,es,cs,j,{k,g.inj,λi h1 h2=>l i h1 (g.rest i h1 h2),f 0 ⋯ ⋯ g.eb,f 1 ⋯ ⋯ g.ev,f 2 ⋯ ⋯ g.ec,g.fi.ab t},h1,h2};{ys,e,h1,h2}:=h.lv;{ys,f 8 ⋯ ⋯ e,λy B=>(h1 y B).ab t,h2};{kvs,G,vs,I,cs,h1,h2,w,A,C,m,s,u,D}:=h.tb;r:kvs=cE F 9:=(by rcases h1 with a|⟨o,a⟩ <;> rcases fs.dk with b|⟨o',b⟩ <;> rw[a]at b <;> cases b <;> rfl);!r;x:=(cX F 6 ⋯).symm.trans h2;p:=(cX F 7 ⋯).symm.trans m;-x;-p;{_,_,vs,_,cs,k,h2,f 6 ⋯ ⋯ w,A.imp λv i g=>kG.ab g t,C,m,f 7 ⋯ ⋯ s,u.imp λv i g=>ir.ab g t,D}
def N6(h:FZ H fa F d)(p:List Key)(i:Nat):(wD d p i).length<=63:=do(by unfold wD vI);qg (List.length_filterMap_le _ _) ?_;[(o_ _).length_eq];h1:=xK (M:=d.M) (aH d.M d.m p) [];h2:=we (λi=>decide ((d.M i).pt=p)) (List.range d.m);h2←[zo];h1←[yt,ja];qg h1 (qg h2 h.hm)
def DM(h:d∈vI M b js l p):PyData.eqv d .none=false:=do(by unfold vI at h);{kd,_,h2}:=jo.mp h;(by cases a:tell M js l kd p with|none|some k=>?_);h2←[a];-h2;h2←[a];h2:(if(M k).vl=none then none else some (PyData.tuple [.str (M k).kd,qR M b k]))=!d:=h2;z<|(M k).vl=none;h2←[qF z];-h2;h2←[qB z];-h2;2
def sV(l:PyData.canLayAll0 ds=true)(h:∀d∈ds,PyData.eqv d .none=false):rM ds:={l,ni.mpr λd a=>do[h d a];qr}
theorem KH{H:Hp}{f:Nat->Sy}:∀js:List Nat,cz H (js.map λc=>.str (f c)) (js.map λc=>.str (f c))|[]=>.nil|_::js=>.cons (.str _) (KH js)
def RH(d:DZ)(p:List Key)(num:List Key->Option Sy)(H:Hp)(v:V)(e:Nat×Sx):Prop:=∃b vn ms,v=.ref b/\H b=!(.tup [vn,.str (tx num (d.S e.1).sg),.ref e.2])/\NM (cn d.S) H vn e.1/\H e.2=!(.lst (ms++[.aQ]))/\cz H ms (wD d p e.1)
def Pz{es:List Sw}(g:cz H ys es):∀{ds:List Sw},cz H xs ds->cz H (xs++ys) (ds++es):=do(by induction xs with|nil|cons x xs b=>?_);(ds,h);-h;g;(ds,h);(by cases h with|cons a t=>?_);.cons a (b t)
def EZ.es(k:FZ H fa F d)(hn:∀p z,num p=!z->PyData.strOk z=true)(h:EZ d num X v e p z)(s:af (bP X (·∈e.A)) Y)(e2:X e.q2=!(.lst zs))(M:AL (RH d p num Y) zs e.ia):ES Y e z:=do _;{f3,f4,f5,fs}:=k.fs;na:∀{a},a∈e.B->a∉e.A:=λE C=>(wt.mp h.nd).2.2 _ C _ E rfl;t:ai X Y:=λb us q=>de s q λE=>(do _;{o,J}:=h.has b (wg _ E);J←[q];-J);r:∀{a},a∈e.B->∀{o},X a=!o->Y a=!o:=λ{a} C {o} q=>de s q (na C);Z:(bB d.S d.n p).length<=1400:=qg (qg (we _ _) (iJ fs.ws)) fs.ws.cJ;G:∀wy,(bC d.L d.a p wy).length<=1300:=λwy=>(do _;{kvs,K,vs,R,cs,_,_,_,_,j,_}:=k.tb;Dt j);hwl:e.wa.length<=1300:=(do this:=congrArg List.length h.wi;this←[qj];[this];G _);Q:∀{zs js} (wy:Sy),AN (NM (cT d.L) X) zs js->js=bC d.L d.a p wy->∃ds,cz Y zs ds/\rM ds/\zs.length<=2000:=λ{zs js} wy a b=>(do !b;nm:=(k.C5 (p:=p)).1;{_,(AL.lW (P:=NM (cT d.L) X) (D:=λi=>tD (cT d.L i)) (λv i g=>aK g) a).ab t,sV ?_ λx f=>?_,do[a.1];qg (G wy) ⋯};{kvs,K,vs,R,cs,_,_,_,_,j,_}:=k.tb;dH λx f=>(do _;{i,hi,rfl}:=qf.mp f;(j.lay i (Lx hi j)).1);{i,hi,rfl}:=qf.mp f;2);{t _ _ h.tp,t _ _ h.t4,?_,?_,?_,?_,?_,?_,(),(wt.mp h.nd).2.1};{zs,_,r (do#[EP.B]) e2,lI (D:=λx:Nat×Sx=>.tuple [tD (cn d.S x.1),.str (tx num (d.S x.1).sg),.list (wD d p x.1++[.none])]) (λv x ⟨b,vn,ms,U,k1,k2,W,T⟩=>do[U];.tup (aV.of k1) (.cons (aK k2).dv (.cons (.str _) (.cons (.lst (az.of W) (Pz (.cons .aQ .nil) T).dv) .nil)))) M,sV (dH λx f=>?_) λx f=>?_,?_};{y,u,rfl}:=qf.mp f;hi:y.1∈bB d.S d.n p:=(do[←h.ri];qf.mpr {y,u,O});l:=k.Qi hi;dH λx f=>?_;(by ac_nf at f);rfl||rfl||rfl:=f;(fs.ws.lay _ l).1;Ac hn (k.sg _ l) (fs.ws.sgn _ l).1;dH λx f=>?_;f||f:=zh.mp f;(sy fs.wm f).1;[qx.mp f];2;{y,u,rfl}:=qf.mp f;2;[M.1];this:=congrArg List.length h.ri;this←[qj];();{w,h1,h2}:=h.nt;{w,_,r (do#[EP.B]) h1,h2.ab t,sV (k.Q9 (p:=p)).1 λx f=>?_,?_};{i,_,rfl}:=qf.mp f;2;[My.cz.len h2,qj];this:=we (λi=>decide ((d.N i).pt=p)) (List.range d.q);this←[zo];this:=fs.wn.cJ;@bY;();{w,h1,h2}:=h.ra;{ds,a,b,c}:=Q _ h2 rfl;{w,ds,r (do#[EP.B]) h1,a,b,c};{w,h1,h2}:=h.cb;{ds,a,b,c}:=Q _ h2 rfl;{w,ds,r (do#[EP.B]) h1,a,b,c};{ws,h1,h2}:=h.wc;[r (do#[EP.B]) h1,show ws=e.wa.map (λe=>V.ref e.2) from List.ext_getElem? λm=>?_];[qu];(by cases q:ws[m]? with|none|some v=>?_);[v9 (do[←h2.1];mz.mp q)];2;{e,he,g}:=h2.at q;[he,g.1];2;(x,f);{ws,h1,h2}:=h.wc;{v,_,_,g}:=h2.gG f;{kvs,K,vs,R,cs,_,_,_,_,_,_,_,_,I}:=k.tb;{_,_,r (do#[_,EP.B,List.mem_cons,List.mem_map];.inr (.inr (.inr (.inr (.inr {x,f,O}))))) g,KH _,sV (dH λy u=>?_) λy u=>?_,?_};{c,_,rfl}:=qf.mp u;Dz _ _ _ _ I.wd;{c,_,rfl}:=qf.mp u;2;@xG;[qj];qg (G _) ⋯
def QA{ps:List EP}(nd:(ps.flatMap λe=>e.A++e.B).Nodup){j:Nat}{e:EP}(h:ps[j]?=!e):∀a∈e.A++e.B,∀y∈ps.take j,a∉y.A++y.B:=λa b y g f=>do d:=(qk.mp h).1;c:ps=ps.take j++e::ps.drop (j+1):=(do this:=rh j ps;this←[jm d,(qk.mp h).2];this.symm);nd←[c,rg,List.flatMap_cons];(wt.mp nd).2.2 a (List.mem_flatMap.mpr {y,g,f}) a (wg _ b) rfl
def uT:Sp:=λvs H Q _=>vs.length=2/\False
def Nn(h:uT vs H Q E):vs.length=2:=h.1
def rO:Sp:=λvs H Q _=>vs.length=3/\False
def Mx(h:rO vs H Q E):vs.length=3:=h.1
def uG:Sp:=λvs H Q _=>vs.length=1/\False
def Q7(h:uG vs H Q E):vs.length=1:=h.1
def uV:Sp:=λvs H Q _=>vs.length=4/\False
def Nj(h:uV vs H Q E):vs.length=4:=h.1
def uo:Sp:=λvs H Q _=>vs.length=6/\False
def P8(h:uo vs H Q E):vs.length=6:=h.1
def EG:ax Kd ["births","part"] (ag uk):={O,O,O,∅,O,∅,∅}
def DH:ax HR ["leave"] (ag rx):={O,O,O,∅,O,∅,∅}
def Bg:ax GZ ["place"] (ag sU):={O,O,O,∅,O,∅,∅}
def CF:ax zA ["facts","part"] (ag lT):={O,O,O,∅,O,∅,∅}
def Be:ax G8 ["seats","side"] (ag sE):={O,O,O,∅,O,∅,∅}
def Ey:ax Ht ["row"] (ag uC):={O,O,O,∅,O,∅,∅}
def Cb:ax Gg ["mark"] (ag t_):={O,O,O,∅,O,∅,∅}
def BI:ax Lz ["note"] (ag tV):={O,O,O,∅,O,∅,∅}
def wJ:ax KJ ["facts"] (ag lP):={O,O,O,∅,O,∅,∅}
def vK:ax Kn ["outer_of","part","ended"] (ag uy):={O,O,O,∅,O,∅,∅}
def Eo:ax KU ["cell"] (ag uX):={O,O,O,∅,O,∅,∅}
def FE:ax Gv ["number","place"] (ag tO):={O,O,O,∅,O,∅,∅}
def Fc:ax Ik ["numbers","sign"] (ag uJ):={O,O,O,∅,O,∅,∅}
def EV:ax GI ["_law_script","_law_k"] (ag uS):={O,O,O,∅,O,∅,∅}
def Eu:ax Lf ["_law_cell","_law_digits"] (ag uN):={O,O,O,∅,O,∅,∅}
def JK:ax Gr ["_law_drawn_here","_law_many"] (ag s_):={O,O,O,∅,O,∅,∅}
def G4:ax LH ["_law_entry"] (ag tu):={O,O,O,∅,O,∅,∅}
def IT:ax Jl ["seats","begin","end"] (ag sH):={O,O,O,∅,O,∅,∅}
def pU:ax Hq ["outer_of"] (ag rV):={O,O,O,∅,O,∅,∅}
def fC:ax F' ["_law_drawn_here","_law_facts_here","_law_roll"] (ag oM):={O,O,O,∅,O,∅,∅}
def IC:ax Lk ["_law_drawn_here","_law_known"] (ag tF):={O,O,O,∅,O,∅,∅}
def Bo:ax Lb ["_law_drawn_here","_law_names"] (ag tP):={O,O,O,∅,O,∅,∅}
def fL:ax K7 ["_law_drawn_here","_law_facts_here","_law_roll","_law_known"] (ag oK):={O,O,O,∅,O,∅,∅}
def tM:ax Lr ["_law_drawn_here","_law_facts_here","_law_roll","_law_known"] (ag ox):={O,O,O,∅,O,∅,∅}
def Bv:ax Iq ["leaves","hand","to"] (ag sR):={O,O,O,∅,O,∅,∅}
def EC:ax JZ ["places"] (ag sf):={O,O,O,∅,O,∅,∅}
def pY:ax yZ ["facts","part","row"] (ag lg):={O,O,O,∅,O,∅,∅}
def CQ:ax JB ["telling","parts"] (ag ux):={O,O,O,∅,O,∅,∅}
def xU:ax Kb ["facts","stands"] (ag kJ):={O,O,O,∅,O,∅,∅}
def J3:ax Ak ["facts","part"] (ag lD):={O,O,O,∅,O,∅,∅}
def lH:ax IX ["_law_drawn_here","_law_facts_here","_law_roll","_law_known"] (ag oN):={O,O,O,∅,O,∅,∅}
def kC:ax IE ["_law_drawn_here","_law_facts_here","_law_roll","_law_names"] (ag nL):={O,O,O,∅,O,∅,∅}
def Cz:ax JM ["leaves","chain","hand","to"] (ag sN):={O,O,O,∅,O,∅,∅}
def uK:ax Kc ["places"] (ag uj):={O,O,O,∅,O,∅,∅}
def mS:ax GO ["telling"] (ag uI):={O,O,O,∅,O,∅,∅}
def oU:ax HY ["_law_script","_law_roll"] (ag oJ):={O,O,O,∅,O,∅,∅}
def IP:ax Gz ["roll","births","leaves","hand","part","to"] (ag rS):={O,O,O,∅,O,∅,∅}
def AU:ax LC ["facts","part"] (ag tS):={O,O,O,∅,O,∅,∅}
def tI:ax JI ["telling"] (ag sD):={O,O,O,∅,O,∅,∅}
def A3:ax zO ["facts","part","way"] (ag iV):={O,O,O,∅,O,∅,∅}
def Jf:ax yS ["facts","part"] (ag oT):={O,O,O,∅,O,∅,∅}
def Ee:ax Ii ["facts"] (ag oj):={O,O,O,∅,O,∅,∅}
def oZ:ax zX ["facts","part"] (ag oH):={O,O,O,∅,O,∅,∅}
def Cg:ax Lj ["facts","roll","hand","part"] (ag oe):={O,O,O,∅,O,∅,∅}
def mQ:ax yJ ["facts","part","place"] (ag iW):={O,O,O,∅,O,∅,∅}
def nB:ax yP ["facts","part"] (ag iX):={O,O,O,∅,O,∅,∅}
def pV:ax KO ["facts"] (ag rC):={O,O,O,∅,O,∅,∅}
def Ct:ax HE ["facts","part"] (ag rX):={O,O,O,∅,O,∅,∅}
def FF:ax Io ["facts","part"] (ag se):={O,O,O,∅,O,∅,∅}
def mH:ax Jn ["facts","roll","hand"] (ag oC):={O,O,O,∅,O,∅,∅}
def DX:ax rZ ["facts","part","numbers"] (ag jD):={O,O,O,∅,O,∅,∅}
def jG:ax Gw ["_law_facts_here"] (ag uF):={O,O,O,∅,O,∅,∅}
def wY:ax Hr ["_law_facts_here","_law_entry","_law_number","_law_part"] (ag si):={O,O,O,∅,O,∅,∅}
def DR:ax Gk ["facts","numbers","part","is_open"] (ag sv):={O,O,O,∅,O,∅,∅}
def Ay:ax KC ["_law_facts_here","_law_found"] (ag uM):={O,O,O,∅,O,∅,∅}
def Bm:ax H_ ["facts","roll","hand"] (ag nR):={O,O,O,∅,O,∅,∅}
def nG:ax Ae ["_law_script"] (ag eA):={O,O,O,∅,O,∅,∅}
section
variable (P:Program)(w:World)(K:PySem.W.Frag)(mg:Sy->Option MD)(base:Heap)
abbrev yH:Prop:=cH P w K mg base 1 "birth_chain" ["births","part"] uT
abbrev Al:Prop:=cH P w K mg base 1 "key_of_leave" ["leave"] uG
abbrev xZ:Prop:=cH P w K mg base 1 "key_of_place" ["place"] Bu
abbrev ui:Prop:=cH P w K mg base 1 "signs_in" ["facts","part"] Ep
abbrev zG:Prop:=cH P w K mg base 1 "place_of_side" ["seats","side"] Fu
abbrev oF:Prop:=cH P w K mg base 1 "seats_in" ["row"] Fm
abbrev zY:Prop:=cH P w K mg base 1 "key_of_mark" ["mark"] Bb
abbrev zQ:Prop:=cH P w K mg base 1 "key_of_note" ["note"] FC
abbrev rH:Prop:=cH P w K mg base 1 "telling_places" ["facts"] EU
abbrev rL:Prop:=cH P w K mg base 1 "way_out" ["outer_of","part","ended"] E3
abbrev Ap:Prop:=cH P w K mg base 1 "key_of_cell" ["cell"] D'
abbrev zE:Prop:=cH P w K mg base 1 "inner_number" ["number","place"] Dv
abbrev zP:Prop:=cH P w K mg base 1 "text_of_sign" ["numbers","sign"] CK
abbrev Aa:Prop:=cH P w K mg base 1 "_law_cell_at" ["_law_script","_law_k"] fZ
abbrev yQ:Prop:=cH P w K mg base 1 "_law_drawn" ["_law_cell","_law_digits"] iK
abbrev fO:Prop:=cH P w K mg base 1 "_law_draw" ["_law_drawn_here","_law_many"] jW
abbrev zF:Prop:=cH P w K mg base 1 "_law_spoiled" ["_law_entry"] f7
abbrev tj:Prop:=cH P w K mg base 2 "stretch" ["seats","begin","end"] CG
abbrev tE:Prop:=cH P w K mg base 2 "reaching_main" ["outer_of"] DO
abbrev zM:Prop:=cH P w K mg base 2 "_law_parts" ["_law_drawn_here","_law_facts_here","_law_roll"] iM
abbrev yC:Prop:=cH P w K mg base 2 "_law_sign" ["_law_drawn_here","_law_known"] jJ
abbrev yY:Prop:=cH P w K mg base 2 "_law_side" ["_law_drawn_here","_law_names"] jN
abbrev Ag:Prop:=cH P w K mg base 2 "_law_tables" ["_law_drawn_here","_law_facts_here","_law_roll","_law_known"] gZ
abbrev yl:Prop:=cH P w K mg base 2 "_law_leaves" ["_law_drawn_here","_law_facts_here","_law_roll","_law_known"] gV
abbrev Aq:Prop:=cH P w K mg base 3 "told_leaves" ["leaves","hand","to"] rO
abbrev Am:Prop:=cH P w K mg base 3 "followers_of" ["places"] Fd
abbrev zH:Prop:=cH P w K mg base 3 "telling_in_row" ["facts","part","row"] Fb
abbrev yO:Prop:=cH P w K mg base 3 "greatest_place" ["telling","parts"] Fo
abbrev Ai:Prop:=cH P w K mg base 3 "shown_among" ["facts","stands"] D6
abbrev zS:Prop:=cH P w K mg base 3 "words_told" ["facts","part"] Eg
abbrev yE:Prop:=cH P w K mg base 3 "_law_signs" ["_law_drawn_here","_law_facts_here","_law_roll","_law_known"] iI
abbrev yT:Prop:=cH P w K mg base 3 "_law_stretches" ["_law_drawn_here","_law_facts_here","_law_roll","_law_names"] fm
abbrev zi:Prop:=cH P w K mg base 4 "is_let" ["leaves","chain","hand","to"] uV
abbrev sJ:Prop:=cH P w K mg base 4 "ordered" ["places"] CY
abbrev yR:Prop:=cH P w K mg base 4 "turned_in" ["telling"] Cs
abbrev zI:Prop:=cH P w K mg base 4 "_law_facts" ["_law_script","_law_roll"] iy
abbrev x_:Prop:=cH P w K mg base 5 "has_leave" ["roll","births","leaves","hand","part","to"] uo
abbrev oI:Prop:=cH P w K mg base 5 "row_of" ["facts","part"] Ez
abbrev yN:Prop:=cH P w K mg base 5 "stood_in" ["telling"] Ca
abbrev yD:Prop:=cH P w K mg base 5 "lines_of" ["facts","part","way"] EW
abbrev lj:Prop:=cH P w K mg base 6 "living" ["facts","part"] EN
abbrev zU:Prop:=cH P w K mg base 6 "stands_in" ["facts"] Dp
abbrev rT:Prop:=cH P w K mg base 6 "table_of" ["facts","part"] Dc
abbrev yU:Prop:=cH P w K mg base 6 "may_read" ["facts","roll","hand","part"] CH
abbrev An:Prop:=cH P w K mg base 7 "told_of_signs" ["facts","part","place"] Ff
abbrev rJ:Prop:=cH P w K mg base 7 "notes_of" ["facts","part"] EE
abbrev sL:Prop:=cH P w K mg base 7 "all_inner_parts" ["facts"] BK
abbrev um:Prop:=cH P w K mg base 8 "marks_of" ["facts","part"] Fz
abbrev zK:Prop:=cH P w K mg base 8 "inner_parts" ["facts","part"] Ek
abbrev zW:Prop:=cH P w K mg base 8 "numbered_parts" ["facts","roll","hand"] Es
abbrev Ao:Prop:=cH P w K mg base 9 "shown_row" ["facts","part","numbers"] Bh
abbrev ya:Prop:=cH P w K mg base 9 "_law_numbered" ["_law_facts_here"] fG
abbrev zb:Prop:=cH P w K mg base 9 "_law_entry_good" ["_law_facts_here","_law_entry","_law_number","_law_part"] eH
abbrev yF:Prop:=cH P w K mg base 10 "entry" ["facts","numbers","part","is_open"] Dy
abbrev xW:Prop:=cH P w K mg base 10 "_law_right" ["_law_facts_here","_law_found"] iR
abbrev yp:Prop:=Ra P w K mg base 11 "document" ["facts","roll","hand"] Bt
end
section
variable (P:Program)(w:World){K:PySem.W.Frag}{mg:Sy->Option MD}(base:Heap){tk:Sy->Tok}
def DL(T:Txt K mg tk)(F:FO K mg "birth_chain" uk):yH P w K mg base:=do aM F EG (ip λ_ _=>rfl) (λ_ _ _ _ h=>Nn h) λfa b A outer s H vs Q E a h=>?_;{_,(aj (sn EG.nd 2 (cy (gJ a.hd (qS a)) T.cZ boot_dict (a1 (vv 0)))) (aj (sn EG.nd 3 (bK (a1 (vv 1)))) (aj (q_ PassesOwn.never (PW.pt (jO (ck (p_ (cN a)) (xi (vv 3) (eF iT aA)) (vv 2)) (jP (ck x6 (cb c6 T.bQ boot_len (a1 (vv 3))) (cb Ju T.bQ boot_len (a1 (vv 2))))))) (aD (ap (vv 3) (a1 (dD (cN a) (vv 2) (xi (vv 3) (eF iT aA)) (λ_ _=>rfl)))))) (aD (aN (vv 3)))))),?_};h.2.elim
def Bp(T:Txt K mg tk)(F:FO K mg "key_of_leave" rx):Al P w K mg base:=do aM F DH (ll λ_=>rfl) (λ_ _ _ _ h=>Q7 h) λfa a A outer s H vs Q E b h=>?_;{_,(aD (aN (xt (vv 0)))),?_};h.2.elim
def BC(T:Txt K mg tk)(F:FO K mg "key_of_place" sU):xZ P w K mg base:=do aM F Bg (ll λ_=>rfl) {} λfa d A outer s H vs Q E m h=>?_;{_,(aD (aN (xt (vv 0)))),?_};{v,nk,bh,D,k,rfl,c,f}:=h;{b,vn,i,vk,rfl,a,j,g,e}:=c;{_,O,b,_,2,_,O,O,aV.of a,O,f vk e}
def Cu(T:Txt K mg tk)(F:FO K mg "signs_in" lT):ui P w K mg base:=do aM F CF (ip λ_ _=>rfl) {} λfa m A outer s H vs Q E C h=>?_;q:(A.deeper (envOfC "signs_in" (ag lT) ↑s fa m)).units+1<cLine:=cR C;{_,(aD (aN (sj (ag lT) zA [("part",1)] (il (cU q (vv 0) aO (λ_ _=>rfl))) (λ_ _ _=>(fN (ck (FT C) (xt (vv 0)) (vc 1)))) (λ_ _ _=>(vv 0))))),?_};{fa,X,pt,S,n,rfl,{a,D,vs,R,d,e,J,W},o,c,N}:=h;r:vs.length=n:=(do[J.1,zo]);cJ:=W.cJ;{_,O,fa,.ref D,O,.inl {a,.inr "signs",R,O,d.symm},D,O,{_,az.of e},c7 (xs:=vs) (cL ()) (λj ys H'=>H'=H/\AN (SN S H) ys (((List.range n).take j).filter (n_ S pt))) {O,.nil} (λ_ _ H' s'=>do[s'.1];az.of e) (λj x ys H' K1 K0 M s' U L=>?_) λH1 B ys s' hy G=>?_};{rfl,k}:=s';{i,I,sn}:=J.at M;p:i<n:=qo.mp (qw I);t:=sn;{b,Z,vn,vb,kq,V,rfl,h1,h2,h3,Y,h5,h6}:=sn;tk:(List.range n).take (j+1)=(List.range n).take j++[i]:=(do[qz,I];2);{_,O,b,_,0,_,O,O,aV.of h1,O,_,O,tD (S i).pt,tD pt,(aK h2).dv,(aK o).dv,(W.lay i p).2,c,qg (yb _ _) (qg (eh _) ⋯),_,O,?_};f:(if false=true then not (PyData.eqv (tD (S i).pt) (tD pt)) else PyData.eqv (tD (S i).pt) (tD pt))=decide ((S i).pt=pt):=hP _ _;hp<|(S i).pt=pt;cW (do[f];qI hp) ?_;{_,O,U _ _ {O,?_}};[tk];AN.pick (vs:=vs) k t (iu.mpr hp);bU (do[f];decide_eq_false hp) ?_;L _ {O,?_};[tk];k.skip λz=>hp (iu.mp z);{rfl,k}:=s';k←[r,yr (do[zo];qe _)];y:af H1 (upd H1 B (.lst ys)):=af.new G;N _ B ys y G aB (k.imp λv i g=>SN.ab g y.ab)
def Ar(T:Txt K mg tk)(F:FO K mg "place_of_side" sE):zG P w K mg base:=do aM F Be (ip λ_ _=>rfl) {} λfa q A outer s H vs Q E p h=>?_;{_,(pB (br (tW (PW.pt (dC (ck HG (vv 1) dE) (lL (ck (xO (cN p)) (xt (vv 1)) (vv 0)))))) (aD (aN (cb Ju T.bQ boot_len (a1 (vv 0))))) cc) (aD (aN (aG c8 (dD (cN p) (vv 0) (xt (vv 1)) (λ_ _=>rfl)) (rY (ck c9 (xt (vv 1)) aO) aA aA))))),?_};{dq,kvs,S,js,v,d,rfl,e,{g,k},c,f,m}:=h;by match d,c,f with|none,c,_ => have c:v=.aQ:=c;subst c;refine{λ_ _=>False,{λb H'=>b=true/\H'=H,{_,O,O,_,O,cW rfl {O,O}},?_},λ_ _ z=>z.elim};rintro b H' ⟨rfl,rfl⟩;refine cW rfl {_,O,dq,kvs,O,e,?_};rw[g];exact m|some (i,b),c,f => obtain⟨a,vn,rfl,j,o⟩:=c;have hi:=f i b rfl;have n:=k i hi;refine{λσ' H'=>σ'=[!(.ref dq),!(.ref a)]/\H'=H,{λb H'=>b=false/\H'=H,{_,O,O,_,O,bU rfl {_,O,a,_,0,_,O,O,aV.of j,O,_,O,dq,kvs,.tup (cn S i),O,.inl e,o,_,O,?_,O}},?_},?_};rw[n];rfl;rintro r H' ⟨rfl,rfl⟩;exact bU rfl {O,O};rintro σ' H' ⟨rfl,rfl⟩;refine{_,O,_,O,a,_,0,_,O,O,aV.of j,O,dq,kvs,.tup (cn S i),_,O,.inl e,o,n,_,O,a,_,1,_,O,O,aV.of j,O,O,_,O,?_};cases b with|true|false=>?_;exact cW (qI rfl) {_,_,O,O,m};exact bU (decide_eq_false (λz=>absurd (V.str.inj z) ∅)) {_,_,O,O,do¬Q (V.int ((js.idxOf i:Int)+0)) _;[Int.add_zero];m}
def EI(T:Txt K mg tk)(F:FO K mg "seats_in" uC):oF P w K mg base:=do aM F Ey (ll λ_=>rfl) {} λfa W A outer s H vs Q E G h=>?_;{_,(aD (aN (cy (gJ G.hd (qS G)) T.cZ boot_dict (a1 (iz (own:=["seat","name"]) (fr:=[]) rfl (JH (do 2) T.dW (a1 (vv 0))) {O,∅,∅} (i0 ∅) (λ_ _ _=>(jT (n:=2) rfl (df (cO (i:=0) (do¬List.Nodup (["seat","name"]:List Sy);by decide +kernel) rfl (Or.inl rfl)) (df (cO (i:=1) (do¬List.Nodup (["seat","name"]:List Sy);by decide +kernel) rfl (Or.inl rfl)) ik)))) (λ_=>pP rfl rfl ⋯) (λ_ _ _=>dJ) (λ_ _ _=>(a0 (a2 (vv 1) (vv 0))))))))),?_};{p,zs,nk,js,rfl,ep,C,nd,inj,hl,N}:=h;m:zs.length=js.length:=C.1;{_,O,p,O,{_,az.of ep},Q8 (xs:=zs) (cL ()) (λj us H'=>af H H'/\∃kvs,cx H' us kvs/\kA nk (λv i=>v=.int ((js.idxOf i:Nat):Int)) kvs (js.take j)) {af.refl _,[],trivial,trivial} (λ_ _ H' s'=>az.of (s'.1 _ _ ep)) (λj x us H' r K1 Z J s' Y k1 k0=>?_) λH1 D us s' hy X=>?_};{s',kvs,o,d}:=s';{i,I,M}:=C.at J;tk:js.take (j+1)=js.take j++[i]:=(do[qz,I];2);k:js.idxOf i=j:=Em nd I;c:af H' (upd H' r (.tup [.int j,x])):=af.new Y;{r,_,O,aV.of aB,O,_,_,O,_,_,O,O,dI (B:=Z _) ?_};(by generalize upd H' r (.tup [.int j,x])=H2 at c);{_,O,_,O,aE rfl,λL y t f q=>k1 _ _ {(s'.trans c).trans f,kvs++[(.tup (nk i),x,.int (j:Int))],cx.snoc (e:=(.tup (nk i),x,.int (j:Int))) {L,O,q,NM.ab M ((s'.trans c).trans f).ab} (o.ab (c.trans f).ab),?_}};[tk];d.snoc rfl (do¬V.int _=_;[k]);{U,kvs,o,d}:=s';d←[m,ze];c:af H1 (upd H1 D (.lst us)):=af.new X;g:=U.trans c;{D,us,kvs,O,az.of aB,o.ab c.ab,(),λdq y t f q=>N y dq _ (g.trans f) (g.free t) q {?_,λi hi=>?_}};[pO kvs [] (do[wz,Gb d];wb.mpr (nd.imp_of_mem λ{a b} R S h e=>h (inj a R b S (KD.tup.inj e)))),wz,Gp d];{v,h1,rfl}:=kA.get (all:=js) inj (done:=[]) (acc:=[]) d (λi z=>nomatch z) (λi h=>h) (λi z=>nomatch z) i (.inr hi);h1
def CW(T:Txt K mg tk)(F:FO K mg "key_of_mark" t_):zY P w K mg base:=do aM F Cb (ll λ_=>rfl) {} λfa d A outer s H vs Q E o h=>?_;{_,(aD (aN (xt (vv 0)))),?_};{v,S,M,i,rfl,a,e}:=h;{b,k,n,f,vn,kq,rfl,h1,h2,g,j,m,c}:=a;{_,O,b,_,6,_,O,O,aV.of h1,O,e _ (.tup c (.cons (.int _) (.cons (.int _) .nil)))}
def D2(T:Txt K mg tk)(F:FO K mg "key_of_note" tV):zQ P w K mg base:=do aM F BI (ll λ_=>rfl) {} λfa d A outer s H vs Q E o h=>?_;{_,(aD (aN (xt (vv 0)))),?_};{v,S,N,i,rfl,a,e}:=h;{b,k,n,f,vn,kq,rfl,h1,h2,g,j,m,c}:=a;{_,O,b,_,5,_,O,O,aV.of h1,O,e _ (.tup c (.cons (.int _) (.cons (.int _) .nil)))}
def A4(T:Txt K mg tk)(F:FO K mg "telling_places" lP):rH P w K mg base:=do aM F wJ (ll λ_=>rfl) {} λfa o A outer s H vs Q E f h=>?_;hu:(A.deeper (envOfC "telling_places" (ag lP) ↑s fa o)).units<cLine:=f.uU;S:(A.deeper (envOfC "telling_places" (ag lP) ↑s fa o)).units+1<cLine:=cR f;{_,(aj (sn wJ.nd 1 jH) (aj (fo (il (cU S (vv 0) aO (λ_ _=>rfl))) (gn wJ.nd 2) (aj (sn wJ.nd 3 (xt (vv 2))) (aD (br (PW.pt (dC (ck (xO (cN f)) (vv 3) (vv 1)) (lL (ck (A_ hu) (xt (dD (cN f) (vv 1) (vv 3) (λ_ _=>rfl))) (xt (vv 2)))))) (aD (j1 (cN f) (vv 1) (vv 3) (vv 2) rfl)) cc)))) (aD (aN (vv 1))))),?_};{fa,es,rs,rfl,fq,kk}:=h;{F,dk,Z,U,hw,up,hl}:=id fq;(dq,H1,Y,M,ed);{_,O,fa,.ref (F 1),O,.inl {cE F 9,.inr "places",Rd.same dk M,O,(cX F 1 ⋯).symm},?_};{F 1,O,{_,az.of (M _ _ Z)},bD (xs:=es) (λj σ X=>rQ λ(kvs:List (KD×V×V)) (k:Option V) (i:Option V)=>ic (σ=[!(.ref fa),!(.ref dq),k,i]) (af H X) (X dq=!(.dG kvs)) (AL (EK (fB X) X) kvs (tl (rs.take j)))) {[],none,none,O,M,ed,.nil} (λj σ X _ ⟨_,_,_,_,s,_,_⟩=>az.of (s _ _ Z)) ?_ ?_};(j,x,σ,X,hx,{kvs,k,i,rfl,G,d,g},Nx,z);{r,f,L}:=U.at hx;J:=L.ab G.ab;c:=Aw (rs.take j);hjl:j<rs.length:=(qk.mp f).1;t:rs.take (j+1)=rs.take j++[r]:=(do[qz,f];2);{b,W,vo,vn,kq,rfl,h1,h2,h3,h4,h5}:=id J;m:kvs.length<sizeLine:=cG (do[g.1];this:=xh (rs.take j);this←[wv];this:=U.1;());B:∀a,AL (EK (fB X) X) a (tl (rs.take j++[r]))->rQ λ(kvs:List (KD×V×V)) (k:Option V) (i:Option V)=>ic ([!(V.ref fa),!(V.ref dq),!(V.ref b),!W]=[!(.ref fa),!(.ref dq),k,i]) (af H (upd X dq (.dG a))) ((upd X dq (.dG a)) dq=!(.dG kvs)) (AL (EK (fB (upd X dq (.dG a))) (upd X dq (.dG a))) kvs (tl (rs.take (j+1)))):=λa a' => {a,_,_,O,G.wr Y,aB,do[t];a'.imp λe x p=>p.imp (ai.wd d) λq=>q.ab (ai.wd d)};{_,O,b,_,0,W,O,O,aV.of h1,O,?_};body:∀D:Ends,(∀σ X,(∃(kvs:List (KD×V×V)) (k i:Option V),σ=[!(.ref fa),!(.ref dq),k,i]/\af H X/\X dq=!(.dG kvs)/\AL (EK (fB X) X) kvs (tl (rs.take (j+1))))->D.nx σ X)->True:=λ_ _=>trivial;{_,O,_,O,dq,kvs,.tup r.pt,O,.inl d,h2,_,O,?_};[qF rfl,Ed g c];(by cases hb:hp (tl (rs.take j)) r.pt with|false|true=>?_);cW rfl ?_;{_,O,_,O,_,O,dq,kvs,.tup r.pt,O,d,h2,m,?_};z _ _ (B _ (do[qV];Cd g c h2 J));bU rfl ?_;{C,y,ex'}:=qf.mp (gE.mp hb);{v,hv,pv}:=pj g c y;hv←[ex'];{b',vp',vo',vn',n,rfl,N,h2',h3',h4',R}:=pv;{_,O,_,O,dq,kvs,.tup r.pt,_,O,.inl d,h2,hv,b',_,3,.ref n,O,O,aV.of N,O,_,O,b,_,3,.ref kq,O,O,aV.of h1,O,n,kq,[C.ka,C.kb],[r.ka,r.kb],O,O,aV.of R,aV.of h5,_,O,?_};I:bV C.ka C.kb r.ka r.kb:=(do hm:=uR y;this:=bj.mp (t▸(up.sublist (kj (j+1) rs)));this.2.2 C hm r (qx.mpr rfl));cW (Q_ I) ?_;{_,O,_,O,_,O,dq,kvs,.tup r.pt,O,d,h2,m,?_};z _ _ (B _ (do[qV];Cd g c h2 J));(σ,X,{kvs,k,i,rfl,G,d,g});g←[U.1,ze];{_,O,kk X dq kvs G Y d g}
def AV(T:Txt K mg tk)(F:FO K mg "way_out" uy):rL P w K mg base:=do aM F vK (uY λ_ _ _=>rfl) {} λfa cdv A outer s H vs Q E J h=>?_;{_,(aj (sn vK.nd 3 (bK (a1 (vv 1)))) (aj (sn vK.nd 4 (Lw (cN J) (vv 1) bW)) (aj (q_ PassesOwn.never (tW (PW.pt (jO (ck (p_ (cN J)) (xi (vv 3) (eF iT aA)) (vv 0)) (jP (ck (xO (cN J)) (xi (vv 3) (eF iT aA)) (vv 2)))))) (aj (sn vK.nd 5 (dD (cN J) (vv 0) (xi (vv 3) (eF iT aA)) (λ_ _=>rfl))) (aj (ap (vv 3) (a1 (vv 5))) (aj (br (ck (p_ (cN J)) (vv 5) (vv 4)) (aD (aN (vv 3))) cc) (aD (j1 (cN J) (vv 4) (vv 5) bW rfl)))))) (aD (aN (vv 3)))))),?_};{oa,g,ea,ko,ys,ke,E',p,C,rfl,hoa,ako,Z,hnz,hfew,hea,U,gp,hpp,hpn,kk}:=h;{_,O,aE rfl,λc H1 g1 s1 e1=>?_};(a,H2,g2,s2,e2);S:=s1.trans s2;{_,O,e2,nd p,gp.ab S.ab,?_};s3:af H (upd H2 a (.dG [(nd p,g,.bl true)])):=S.wr (s1.free g2);G:c≠a:=aZ e1 g2;e3:(upd H2 a (.dG [(nd p,g,.bl true)])) c=!(.lst [g]):=(do[ak G];s2 _ _ e1);o3:(upd H2 a (.dG [(nd p,g,.bl true)])) a=!(.dG [(nd p,g,.bl true)]):=aB;gon:H a=none:=s1.free g2;(by generalize upd H2 a (.dG [(nd p,g,.bl true)])=H3 at s3 e3 o3);sm0:fy [((nd p,g,.bl true):KD×V×V)] (λk=>k∈[]++[p]):=(do this:=fy.nil.put (S':=λk=>k∈([]:List (List Key))++[p]) (p:=p) g (.bl true) λk=>(do 0);this);{λm σ X=>∃(ini:List (List Key)) (las:List Key) (ws:List V) (d:List (KD×V×V)) (u5:Option V),σ=[!(.ref oa),!g,!(.ref ea),!(.ref c),!(.ref a),u5]/\af H X/\X c=!(.lst ws)/\AL (AZ X) ws (ini++[las])/\X a=!(.dG d)/\fy d (λk=>k∈ini++[las])/\d.length<=ini.length+1/\WP (gX ys) E' p ini las/\(∀k∈ini++[las],C k)/\m=102 - ini.length,{102,[],p,[g],_,none,O,s3,e3,.cons (gp.ab s3.ab) .nil,o3,sm0,qe _,.one,λk hk=>do[qx.mp hk];hpp,O},?_};(m,σ,X,{ini,las,ws,d,u5,rfl,L,D,aX,oX,I,hkl,wp,t,rfl});hfit:=wp.fits;{us,v,rfl,aU,hv}:=wQ aX;hul:us.length=ini.length:=aU.1;M:=ako.imp λe x q=>q.imp (R':=gT X) L.ab λr=>r.ab L.ab;R:=Rd.same hoa L;heX:=Rd.same hea L;om (λb j=>j=X/\(b=true->gX ys las≠none/\¬E' las)/\(b=false->gX ys las=none\/E' las)) (λNb N=>?_) ?_;{_,O,1,O,c,_,-1,v,O,O,az.of D,pR us v,_,O,oa,ko,nd las,O,R,hv,_,O,?_};[qB qr,Bz M Z hnz];(by cases hg:gX ys las with|none|some o=>?_);bU rfl (N _ _ {O,(λz=>do-z),λ_=>.inl hg});cW rfl ?_;{_,O,1,O,c,_,-1,v,O,O,az.of D,pR us v,_,O,ea,ke,nd las,O,heX,hv,_,O,?_};[qF rfl];N _ _ {O,λz=>{(λy=>do y←[hg];-y),λy=>?_},λz=>.inr ((U las).mp ?_)};z←[U.yes y];-z;(by cases q:(vG ke (nd las)).isSome with|true|false=>?_);2;z←[q];-z;(b,j,{rfl,hT,hF});(by cases b with|false|true=>?_);bU rfl ?_;{_,O,kk j c (us++[v]) ini las L g1 D aX (wp.stop (hF rfl)) () t};cW rfl ?_;{hg,hE}:=hT rfl;{o,ho}:=rj.mp hg;{f,hv',W}:=KI M Z hnz ho;L7 (λσ' H'=>∃m',m'<102 - ini.length/\∃(ini:List (List Key)) (las:List Key) (ws:List V) (d:List (KD×V×V)) (u5:Option V),σ'=[!(.ref oa),!g,!(.ref ea),!(.ref c),!(.ref a),u5]/\af H H'/\H' c=!(.lst ws)/\AL (AZ H') ws (ini++[las])/\H' a=!(.dG d)/\fy d (λk=>k∈ini++[las])/\d.length<=ini.length+1/\WP (gX ys) E' p ini las/\(∀k∈ini++[las],C k)/\m'=102 - ini.length) (λ_ _ z=>z) λNx hNx=>?_;{_,O,_,O,1,O,c,_,-1,v,O,O,az.of D,pR us v,oa,ko,nd las,f,O,R,hv,hv',?_};{_,O,.inl {O,_,az.of D},_,O,c,_,_,O,O,D,f6 (do[qi,qt];()),?_};tw:ai j (upd j c (.lst ((us++[v])++[f]))):=ai.wl D;sW:af H (upd j c (.lst ((us++[v])++[f]))):=L.wr g1;eW:(upd j c (.lst ((us++[v])++[f]))) c=!(.lst ((us++[v])++[f])):=aB;oW:(upd j c (.lst ((us++[v])++[f]))) a=!(.dG d):=(do[ak G.symm];oX);aW:AL (AZ (upd j c (.lst ((us++[v])++[f])))) ((us++[v])++[f]) ((ini++[las])++[o]):=(aX.imp λv k q=>q.ab tw).snoc (GK.ab W tw);gW:=GK.ab W tw;(by generalize upd j c (.lst ((us++[v])++[f]))=Y at tw sW eW oW aW gW);hpo:C o:=hpn las o ho;i:∀k∈(ini++[las])++[o],C k:=λk hk=>(do z||z:=zh.mp hk;t k z;[qx.mp z];hpo);{_,O,_,O,a,d,nd o,O,.inl oW,gW,_,O,?_};[qB qr];n<|o∈ini++[las];[I.yes n];cW rfl ?_;{_,O,kk Y c _ (ini++[las]) o sW g1 eW aW (wp.again ho hE n) (do[qi,qt];()) i};[I.no n];bU rfl ?_;wp':=wp.on ho hE n;B:=wp'.fits;B←[qi,qt];{_,O,_,O,a,d,nd o,O,oW,gW,f6 (),?_};t2:ai Y (upd Y a (.dG (pG d (nd o) f (.bl true)))):=ai.wd oW;hNx _ _ {102 - (ini.length+1),(),ini++[las],o,(us++[v])++[f],_,_,O,sW.wr gon,do[ak G];eW,aW.imp λv k q=>q.ab t2,aB,I.put _ _ λk=>?_,?_,wp',i,do[qi,qt]};[zh,qx];{λz=>z.symm,λz=>z.symm};this:=iN d (nd o) f (.bl true);[qi,qt];()
def DU(T:Txt K mg tk)(F:FO K mg "key_of_cell" uX):Ap P w K mg base:=do aM F Eo (ll λ_=>rfl) {} λfa a A outer s H vs Q E k h=>?_;{_,(aD (aN (xt (vv 0)))),?_};{v,C,i,rfl,ce,d}:=h;{b,j,f,vc,kq,rfl,h1,h2,e,g,c}:=ce;{_,O,b,_,4,_,O,O,aV.of h1,O,d _ (.tup c (.cons (.int _) (.cons (.int _) .nil)))}
def D4(T:Txt K mg tk)(F:FO K mg "inner_number" tO):zE P w K mg base:=do aM F FE (ip λ_ _=>rfl) {} λfa d A outer s H vs Q E e h=>?_;{_,(aD (aN (rY (ck c9 (vv 0) aO) (Ko (Jt (vv 1))) (DB (C9 (IM (vv 0)) (C9 aO (C9 (Jt (vv 1)) BH))))))),?_};{z,i,rfl,hi,hz,a}:=h;nl:=He i hi;{_,O,O,_,O,?_};h0<|z = "";cW (do[tQ];qI h0) ?_;a←[show pZ z i=hH i from qF h0];{_,O,i,O,(),a};bU (do[tQ];decide_eq_false h0) ?_;a←[show pZ z i=((Str.empty++z)++".")++hH i from qB h0];b:((Str.empty++z)++".").length=z.length+1:=(do[p5,Bq];2);c:(((Str.empty++z)++".")++hH i).length<=z.length+4:=(do[p5,b];());{_,O,z,O,(),z,O,do[Bq];(),".",O,do[b];(),_,O,i,O,(),_,O,qg c (),qg c (),a}
def DE(T:Txt K mg tk)(F:FO K mg "text_of_sign" uJ):zP P w K mg base:=do aM F Fc (ip λ_ _=>rfl) {} λfa i A outer s H vs Q E j h=>?_;{_,(aj (br (dB (cb p6 T.cj boot_isinstance (a2 (vv 1) (pK (v:=.ty "str") (do 2) T.uH boot_str rfl)))) (aD (aN (vv 1))) cc) (aj (br (ck c9 (xt (vv 1)) aO) (aD (aN (aG vH aO (xt (vv 1))))) cc) (aD (aN (aG vH aO (bm PySem.F.plainAttrs_dict PySem.F.slot_dict_get PySem.F.type_dict_get (iL (cN j)) (vv 0) (a2 (xt (vv 1)) aO))))))),?_};{nq,num,v,d,rfl,{kvs,hn,nk},dt,ok,b}:=h;sz:∀{m:Nat},m<=1900->m<=sizeLine:=λh=>cL ();{z,rfl,hz}||{w,rfl,k}||{p,rfl,hp}:=ok;-dt;⟨_,O,_,"str",true,O,⋯,.str z,_,O,cW rfl ⟨_,O,b z (.inl rfl)⟩⟩;{a,xs,rfl,e,c}:∃a xs,v=.ref a/\H a=!(.tup xs)/\cz H xs [.str "picture",.str w]:=(do(by cases dt with|tup e t=>?_);{_,_,O,e,t});{}||{{},{}||{{},{}}}:=c;{_,O,_,"str",false,O,⋯,.tup e,_,O,bU rfl ?_};{_,O,_,_,0,_,O,O,aV.of e,O,O,_,O,cW (do[tQ];qI rfl) ?_};{_,O,_,_,1,_,O,O,aV.of e,O,"*",w,O,O,sz (do¬1+w.length<=_;()),b _ (.inr (.inl {w,O,O}))};{a,xs,rfl,e,c}:∃a xs,v=.ref a/\H a=!(.tup xs)/\cz H xs [.str "refer",tD p]:=(do(by cases dt with|tup e t=>?_);{_,_,O,e,t});{}||{{},{}||{g,{}}}:=c;{_,O,_,"str",false,O,⋯,.tup e,_,O,bU rfl ?_};{_,O,_,_,0,_,O,O,aV.of e,O,O,_,O,bU (do[tQ];decide_eq_false ∅) ?_};{_,O,.inr (.inr (.inl {O,.inr (.inr {kvs,hn})})),_,O,_,_,1,_,O,O,aV.of e,O,nq,kvs,.tup p,_,_,O,O,hn,Gy g,?_};{h1,h2}:=nk p hp;[h1];(by cases f:num p with|none|some z=>?_);{"#","?",O,O,sz ⋯,b _ (.inr (.inr {p,O,do[f];2}))};{"#",z,O,O,sz (do this:=h2 z f;¬1+z.length<=_;()),b _ (.inr (.inr {p,O,do[f];2}))}
def D3(T:Txt K mg tk)(F:FO K mg "_law_cell_at" uS):Aa P w K mg base:=do aM F EV (ip λ_ _=>rfl) {} λfa f A outer s H vs Q E g h=>?_;{_,(aj (br (ck yL (vv 1) (cb c6 T.bQ boot_len (a1 (vv 0)))) (aD (aN (xa (vv 0) (vv 1)))) cc) (aD (aN aA))),?_};{sp,ns,k,rfl,b,d,c}:=h;{_,O,_,O,sp,_,O,.inl b,_,_,O,O,_,O,?_};a<|k<((List.map V.int ns).length:Nat);cW (qI a) ?_;{_,O,_,O,sp,_,_,O,O,b,d,a,λv e=>?_};{m,_,rfl}:=qf.mp e;c m;bU (decide_eq_false a) (c 0)
def CP(T:Txt K mg tk)(F:FO K mg "_law_drawn" uN):yQ P w K mg base:=do aM F Eu (ip λ_ _=>rfl) {} λfa d A outer s H vs Q E f h=>?_;{_,(aj (br (PW.pt (jO (dB (vv 1)) (jP (ck Gc (vv 0) (aG Cn aA aA))))) (aD (aN (bK (a2 (vv 0) aA)))) cc) (aD (aN (bK (a2 (aG eP (vv 0) aA) aA))))),?_};{c,b,rfl,a}:=h;{_,O,b,O,?_};(by cases b with|false|true=>?_);bU rfl (bU rfl {_,O,_,_,O,O,(by show(0:Int)<2147483629;decide),aE rfl,λp H' g s e=>a H' p s g {_,_,e}});cW rfl {_,O,_,_,O,O,{⋯,⋯,⋯},_,_,O,O,_,O,?_};h1<|(10:Int) ^ 18<=c;cW (qI h1) {_,O,aE rfl,λp H' g s e=>a H' p s g {_,_,e}};bU (decide_eq_false h1) {_,O,_,_,O,O,(by show(0:Int)<2147483629;decide),aE rfl,λp H' g s e=>a H' p s g {_,_,e}}
def E7(T:Txt K mg tk)(F:FO K mg "_law_draw" s_):fO P w K mg base:=do aM F JK (ip λ_ _=>rfl) {} λfa g A outer s H vs Q E i h=>?_;{_,(aj (sn JK.nd 2 (xl (vv 0))) (aj (br (ck c9 (xl (vv 0)) aA) (aj (C6 (aG jY (vv 2) (vv 1)) (J4 (vv 0) aA GX)) (aD (aN (aG eP (vv 2) (vv 1))))) cc) (aj (C6 (aG eP (aG c8 (aG uq (vv 2) aA) aA) aA) (J4 (vv 0) aA GX)) (aD (aN (aG eP (aG jY (aG eP (aG uq (xl (vv 0)) aA) aA) aA) (vv 1))))))),?_};{p,q,rfl,{a,b,hp},d,f,e}:=h;{_,O,p,_,0,.int a,O,O,az.of hp,O,_,O,p,_,1,.int b,O,O,az.of hp,O,O,_,O,?_};c:∀x:Int,0<=x % q/\x % q<q:=λx=>{Int.emod_nonneg x (),Int.emod_lt_of_pos x d};h0<|b=0;cW (do[h0];2) {_,O,_,O,_,_,O,O,{d,()},_,O,p,_,0,0,O,O,hp,O,_,O,_,O,_,_,O,O,d,?_};e _ _ Kv {_,_,aB} (c _).1 (c _).2;bU (decide_eq_false λz=>h0 (by injection z)) {_,O,_,_,O,O,.inr {⋯,⋯},_,_,O,O,_,_,O,O,(by show(0:Int)<2147483629;decide),_,O,p,_,0,0,O,O,hp,O,?_};{_,O,p,_,0,_,O,O,az.of aB,O,_,_,O,O,.inr {⋯,⋯},_,_,O,O,(by show(0:Int)<2147483647;decide),_,_,O,O,{⋯,⋯},_,O,_,_,O,O,d,?_};e _ _ Kv {_,_,aB} (c _).1 (c _).2
def CD(T:Txt K mg tk)(F:FO K mg "_law_spoiled" tu):zF P w K mg base:=do aM F G4 (ll λ_=>rfl) {} λfa Y A outer s H vs Q E hr h=>?_;{_,(aj (fo (il (aG sP (aG sP (bK (a2 (xt (vv 0)) (xt (vv 0)))) (cy BR T.eK boot_list (a1 (xt (vv 0))))) (xt (xt (vv 0))))) (gn G4.nd 1) (aj (br (ck (inD hr) dE (vv 1)) (aD (aN bW)) cc) (aD (ap (vv 1) (a1 dE))))) (aD (aN bW))),?_};{e,z,rfl,es,R}:=h;J:=aV.of es.tp;{_,O,e.b,_,2,_,O,O,J,O,_,O,e.b,_,3,_,O,O,J,O,aE rfl,λp1 H1 g1 r S=>?_};t:=aV.of (r _ _ es.tp);{_,O,e.b,_,4,_,O,O,t,O,e.b4,_,O,.inr (aV.of (r _ _ es.t4)),λp2 H2 g2 s2 e2=>?_};{p1,p2,_,_,O,O,s2 _ _ S,e2,(do¬5<=sizeLine;by decide),λp3 H3 g3 N e3=>?_};c:=(r.trans s2).trans N;wl:=es.wl;{_,O,e.b,_,4,_,O,O,aV.of (c _ _ es.tp),O,e.b4,_,2,_,O,O,aV.of (c _ _ es.t4),O,p3,e.qc,_,_,O,O,e3,c _ _ es.wc,cL (do[qj];¬5+_<=_;()),λI H4 L U C=>?_};f:=c.trans U;hB:[V.ref e.q2,V.ref e.q3]++[V.ref e.qa,V.ref e.qb,V.ref e.qc]++(e.wa.map λx=>V.ref x.2)=e.B.map V.ref:=(do¬_=V.ref e.q2::V.ref e.q3::V.ref e.qa::V.ref e.qb::V.ref e.qc::((e.wa.map (·.2)).map V.ref);[z9];2);C←[hB];n4:I∉e.B:=λh=>(do _;{zs,q}:=es.has h;L←[c _ _ q];-L);{I,O,{_,az.of C},GC (xs:=e.B.map V.ref) (λj σ X=>∃v,σ=[!(.ref e.b),v]/\af (bP H4 (·∈e.B.take j)) X) {_,O,tJ} (λj σ X _ ⟨_,_,s⟩=>az.of (de s C λh=>n4 (yj h))) ?_ ?_};(j,x,σ,X,D,{v,rfl,g});D←[qu];{a,i,rfl}:=wj.mp D;W:=(qk.mp i).1;{zs,h1,h2,h3}:=es.at i;na:a∉e.B.take j:=λh=>(do _;{m,hm,q}:=r8.mp h;this:=(j4 es.nd (h₀:=do()) (h₁:=W)).mp (q.trans (qk.mp i).2.symm);());p:∀b o,b∉e.B.take j->H b=!o->X b=!o:=λb o n q=>de g (f _ _ q) n;Z:ai H X:=λb us q=>p b _ (λh=>do _;{zs,y}:=es.has (yj h);y←[q];-y) q;{ds,M,G}:=h3 X Z p;k:=p a _ na h1;{_,O,.none,a,ds,zs,.aQ,O,.inl (az.of k),M,O,G.1,qv _,_,O,bU G.2 ?_};{_,O,.inl {O,_,az.of k},a,zs,_,O,O,k,f6 (),_,O,λb o q=>?_};d:b∉e.B.take (j+1):=λh=>(do q←[dS h];-q);q←[eg d];d←[qz,i];n1:b∉e.B.take j:=λh=>d (wg _ h);n2:b≠a:=λh=>d (do[h];0);[ak n2];de g q n1;(σ,X,{v,rfl,g});g←[qj,ze];R X λb o q=>g _ _ (do d:b∉e.B:=λh=>(do q←[dS h];-q);(by rw[eg d]at q ⊢);f _ _ q)
def BX(T:Txt K mg tk)(F:FO K mg "stretch" sH)(a:zG P w K mg base):tj P w K mg base:=do aM F IT (uY λ_ _ _=>rfl) {} λfa o A outer s H vs Q E f h=>?_;{_,(aj (sn IT.nd 3 (cl a f (a2 (vv 0) (vv 1)))) (aD (aN (a0 (a2 (vv 3) (cb (QJ rfl) T.Ah boot_max (a2 (vv 3) (cl a f (a2 (vv 0) (vv 2)))))))))),?_};{dq,kvs,S,js,r,j,b,e,rfl,d,c,n,m,k,i,t}:=h;{_,O,_,O,dq,kvs,S,js,r,b,O,d,c,n,m,?_};{_,O,_,O,_,O,_,O,dq,kvs,S,js,j,e,O,d,c,k,i,_,_,O,aE rfl,λq H' g s p=>t H' q s ?_};[p];by congr 5;split <;> omega
def A9(T:Txt K mg tk)(F:FO K mg "reaching_main" rV)(gfBx:rL P w K mg base):tE P w K mg base:=do aM F pU (ll λ_=>rfl) {} λfa cdv A outer s H vs Q E J h=>?_;{_,(aj (sn pU.nd 1 (Lw (cN J) (Co (v:=.ref cw) rfl T.cw rfl) bW)) (aj (fo (Ki (vv 0)) (gn pU.nd 2) (aj (sn pU.nd 3 (cl gfBx J (ac (vv 0) (a2 (vv 2) (vv 1))))) (aj (sn pU.nd 4 (bm PySem.F.plainAttrs_dict PySem.F.slot_dict_get PySem.F.type_dict_get (iL (cN J)) (vv 1) (a2 (xi (vv 3) (eF iT aA)) bW))) (aD (fo (il (vv 3)) (gn pU.nd 5) (aD (j1 (cN J) (vv 1) (vv 5) (vv 4) rfl))))))) (aD (aN (vv 1))))),?_};{oa,ko,ys,rfl,hoa,U,W,ma,kk}:=h;n:=W.cJ;(d,H1,g1,s1,e1);ma1:=s1 _ _ ma;{e1,.tup bE,{_,O,ma1},?_};s2:af H (upd H1 d (.dG [(.tup bE,.ref cw,.bl true)])):=s1.wr g1;e2:(upd H1 d (.dG [(.tup bE,.ref cw,.bl true)])) d=!(.dG [(.tup bE,.ref cw,.bl true)]):=aB;(by generalize upd H1 d (.dG [(.tup bE,.ref cw,.bl true)])=H2 at s2 e2);M:=Rd.same hoa s2;(by dsimp only[cM,nE]);GW ?_;{_,O,oa,ko,O,MV M λo Y hY fY eY=>?_};tY:ai H2 Y:=λb us e=>hY b _ (λz=>do !z;by rcases M with q|⟨o',q⟩ <;> rw[q]at e <;> cases e) e;G:d≠oa:=λz=>(by rw[z]at g1;rcases hoa with q|⟨o',q⟩ <;> rw[g1]at q <;> cases q);L:=hY d _ G e2;tHY:=s2.ab.trans tY;aY:=U.imp λe x q=>q.imp (R':=gT Y) tHY λr=>r.ab tHY;rm0:RN Y ys _ [((.tup bE,.ref cw,.bl true):KD×V×V)]:=RN.one {_,O,tHY _ _ ma};hZ (λj σ X=>FV λ(f:List Key->Option Bool) (kr:List (KD×V×V)) (u2:Option V) (u3:Option V) (u4:Option V) (u5:Option V)=>mT (σ=[!(.ref oa),!(.ref d),u2,u3,u4,u5]) (af (del Y d) X) (X d=!(.dG kr)) (RN X ys f kr) (sI ys j f) (∀i x,i<j->ys[i]?=!x->f x.pt≠none)) {_,_,none,none,none,none,O,(λb u e=>lJ _ _ e),L,rm0,.z,λi x z=>absurd z (vj i)} (λj σ X ⟨_,_,_,_,_,_,_,s,_,_,_,_⟩=>s _ _ (do[bR G.symm];eY)) ?_ ?_;(j,e,σ,X,hx,{f,kr,u2,u3,u4,u5,rfl,sX,eX,rm,rcr,g},Nx,S);hkl:=rm.cJ n;tX:ai Y X:=mZ L (λys z=>nomatch z) sX;{r,J,p1,p2,p3}:=aY.at hx;hjl:j<ys.length:=(qk.mp J).1;hrm:=qw J;aX:=aY.imp λe x q=>q.imp (R':=gT X) tX λr=>r.ab tX;eoX:X oa=!(.cI o (.dG ko)):=sX _ _ (do[bR G.symm];eY);{_,O,_,O,_,O,oa,e.2.1,d,ko,ys,kr,λk=>f k≠none,r.pt,λk=>k∈nodes ys,O,.inr {o,eoX},aX,W.nd,λx hx=>(W.pt x hx).ne,n,.inl eX,rm.sn,h9 (W.pt r hrm).ne (p2.ab tX),Pk hrm,λk o h=>NR h,λZ wa ws ini las sz gwa R aws wo hil hpns=>?_};{us,v,rfl,aus,hv}:=wQ aws;hul:us.length=ini.length:=aus.1;t:=sz _ _ eX;nwr:wa≠d:=(aZ eX gwa).symm;{_,O,.inr (.inr (.inl {O,.inr (.inr {kr,t})})),_,O,1,O,wa,_,-1,v,O,O,az.of R,pR us v,d,kr,nd las,v,.bl false,O,O,t,hv,?_};hc:(vG kr (nd las)).getD (.bl false)=.bl ((f las).getD false):=(by rw[rm.at_ las];cases f las <;> rfl);[hc];{c,hcd}:∃c,c=(f las).getD false:={_,O};[←hcd];swX:af (del Y d) Z:=sX.trans sz;{_,O,wa,O,{_,az.of R},bD (xs:=us++[v]) (λi σ C=>rQ λ(N:List Key->Option Bool) (m:List (KD×V×V)) (u5:Option V)=>mT (σ=[!(.ref oa),!(.ref d),!e.2.1,!(.ref wa),!(.bl c),u5]) (af (del Y d) C) (C d=!(.dG m)) (C wa=!(.lst (us++[v]))) (ai Z C) (RN C ys N m/\∀k,N k=if wA ((ini++[las]).take i) k=true then some c else f k)) {f,kr,u5,O,swX,t,R,ai.refl _,rm.ab sz.ab,λk=>(qB qr).symm} (λi σ C _ ⟨_,_,_,_,_,_,e,_,_⟩=>az.of e) ?_ ?_};(i,x,σ,C,p,{N,m,u5',rfl,s5,I,ew5,t5,D,B},Nx,S);{k,hk,gx}:=aws.at p;hkm:=qw hk;{_,O,_,O,_,O,d,m,nd k,O,I,GK.ab gx t5,f6 (do this:=D.cJ n;()),?_};t6:ai C (upd C d (.dG (pG m (nd k) x (.bl c)))):=ai.wd I;rm6:=(D.put c (hpns k hkm) (GK.ab gx t5)).ab t6;S _ _ {λa=>if a=k then some c else N a,_,_,O,s5.wr d9,aB,do[ak nwr];ew5,t5.trans t6,rm6,λa=>?_};¬(if a=k then some c else N a)=_;[qz,hk,B a];z<|a=k;[qF z,qF (Kz.mpr (do[z];0))];[qB z];e:wA ((ini++[las]).take i++[k]) a=wA ((ini++[las]).take i) a:=(do@wA;[List.any_append,show[k].any (λx=>decide (x=a))=false by rw[j9,List.any_nil,decide_eq_false (Ne.symm z)];rfl,Bool.or_false]);(congrArg (λb:Bool=>if b=true then some c else f a) e).symm;(σ,C,{N,m,u5',rfl,s5,I,ew5,t5,D,B});hwl:(us++[v]).length=(ini++[las]).length:=aws.1;B←[hwl,ze,hcd];S _ _ {N,m,_,_,_,_,O,s5,I,D,(funext B:N=λk=>if wA (ini++[las]) k=true then some ((f las).getD false) else f k)▸rcr.s J wo,λi x hi p=>?_};[B];y<|wA (ini++[las]) x.pt=true;[qF y];λz=>nomatch z;[qB y];z<|i<j;g i x z p;this:i=j:=();!this;p←[J];-p;absurd (Kz.mpr (bx wo.hd)) y;(σ,X,{f,kr,u2,u3,u4,u5,rfl,sX,eX,rm,rcr,g});{_,O,kk X d kr f (λb u e=>sX _ _ ?_) (.inr {o,sX _ _ (do[bR G.symm];eY)}) g1 eX rm (U.1▸rcr) λx hx=>?_};nb:b≠oa:=λz=>(do e←[z,d9];-e);e←[bR nb];[bR (λz=>do e←[z,g1];-e)];hY b u nb (s2 _ _ e);{i,hi,ei}:=z8.mp hx;g i x (do[U.1];hi) (do[qh hi,ei])
def AW(T:Txt K mg tk)(F:FO K mg "_law_parts" oM)(f:fO P w K mg base):zM P w K mg base:=do aM F fC (uY λ_ _ _=>rfl) {} λfa cdv A outer s H vs Q E U h=>?_;hu1:(A.deeper (envOfC "_law_parts" (ag oM) ↑s fa cdv)).units+1<cLine:=cR U;{_,(aj (sn fC.nd 3 (bK (a1 (a0 (a2 aO aA))))) (aj (sn fC.nd 4 (ce c9 (cl f U (a2 (vv 0) aA)) aA)) (aj (fo (lh (do 2) T.dA (a1 (xa (bK (a2 (cl f U (a2 (vv 0) aA)) (aG c8 aA (cl f U (a2 (vv 0) aA))))) (cy AF T.uu boot_int (a1 (vv 4)))))) (gn fC.nd 5) (aj (sn fC.nd 6 (a0 (a2 (xa (vv 2) (cl f U (a2 (vv 0) (cb c6 T.bQ boot_len (a1 (vv 2)))))) (aG c8 aA (vv 5))))) (aj (sn fC.nd 7 (xa (vv 3) (cl f U (a2 (vv 0) (cb c6 T.bQ boot_len (a1 (vv 3))))))) (pB (br (tW (PW.pt (jO (dB (vv 4)) (jP (ck eB (cl f U (a2 (vv 0) aA)) aA))))) (aD (sn fC.nd 7 (a0 (a2 aO aA)))) cc) (aj (ap (cU hu1 (vv 1) aO (λ_ _=>rfl)) (a1 (a0 (a2 (vv 6) (vv 7))))) (aj (sn fC.nd 8 (ce eB (cl f U (a2 (vv 0) aA)) aA)) (pB (br (dB (vv 8)) (aD (ap (cU hu1 (vv 1) aO (λ_ _=>rfl)) (a1 (a0 (ac (vv 6) (ac (vv 7) (a2 (vv 6) (a0 (a2 (vv 5) aA))))))))) cc) (pB (br (tW (PW.pt (jO (dB (vv 8)) (jP (ck c9 (cl f U (a2 (vv 0) aA)) aA))))) (aj (sn fC.nd 7 (xa (vv 3) (cl f U (a2 (vv 0) (cb c6 T.bQ boot_len (a1 (vv 3))))))) (aD (ap (cU hu1 (vv 1) aO (λ_ _=>rfl)) (a1 (a0 (ac (vv 6) (ac (vv 7) (a2 (a0 (a2 (xl (vv 2)) (aG c8 aA (vv 5)))) (a0 (a2 (aG c8 (vv 5) aA) aA)))))))))) cc) (pB (br (ck c9 (cl f U (a2 (vv 0) aA)) aA) (aD (ap (cU hu1 (vv 1) aO (λ_ _=>rfl)) (a1 (a0 (a2 (vv 6) (a0 (a2 (xl (vv 2)) (aG c8 aA (vv 5))))))))) cc) (aD (ap (vv 3) (a1 (vv 6))))))))))))) (aj (uw (i:=9) fC.nd rfl (Or.inl rfl) (own:=["_law_row"]) (fr:=[]) rfl (il (cU hu1 (vv 1) aO (λ_ _=>rfl))) {O,∅,∅} (i0 ∅) (λ_ _ _=>(cO (i:=0) (do¬List.Nodup (["_law_row"]:List Sy);by decide +kernel) rfl (Or.inl rfl))) (λ_=>mI rfl) (λ_ _ _=>dJ) (λ_ _ _=>(xt (vv 0)))) (aj (fo (lh (do 2) T.dA (a1 (cl f U (a2 (vv 0) aA)))) (gn fC.nd 5) (aD (br (ck (lB U) (vv 9) (bK cS)) (aj (sn fC.nd 6 (xa (vv 9) (cl f U (a2 (vv 0) (cb c6 T.bQ boot_len (a1 (vv 9))))))) (aj (sn fC.nd 7 (xa (vv 3) (cl f U (a2 (vv 0) (cb c6 T.bQ boot_len (a1 (vv 3))))))) (aD (ap (cU hu1 (vv 1) aO (λ_ _=>rfl)) (a1 (a0 (ac (vv 6) (ac (vv 7) (a2 (a0 (a2 (xl (vv 2)) (aG c8 aA (vv 5)))) (a0 (a2 (aG c8 aA (aG jY (vv 5) aA)) (aG eP (vv 5) aA)))))))))))) cc))) (aD (aN (vv 3)))))))),?_};{d,fa,r,F,rfl,dw,dk,e0,e1,e2,er,rd,fd,hi,kk}:=h;nF:∀i,i<9->∀j,j<9->i≠j->F i≠F j:=λi a j b n e=>n (hi i a j b e);{aE rfl,λtq H1 g1 G h1=>{aE rfl,λkq H2 g2 s2 h2=>?_}};kf:∀{b:Sx} {o:HO},H b=!o->kq≠b:=λe z=>(do g2←[z,G _ _ e];-g2);a:FY d F kq:={let⟨_,_,e⟩:=dw;kf e,λi hi'=>do this:i=0\/i=1\/i=2:=();rfl||rfl||rfl:=this;kf e0;kf e1;kf e2,λi hi'=>(fd i ()).1,λi h1 j h2 n=>nF i () j () n};fk:H kq=none:=G.free g2;s12:=G.trans s2;B2:PB H H2 d F kq [.ref tq] [] [] [] [] []:={Rest.refl.same s12,dw.same s12,h2,λj v e=>do hj:=(qk.mp e).1;this:j=0:=(do 0<|hj);!this;-e;{"",{tq,O,s2 _ _ h1},.inl rfl},s12 _ _ e0,s12 _ _ e1,s12 _ _ e2,{(λv z=>nomatch z),.nil,.nil,(λr z=>nomatch z),.nil,qv _,qv _,qv _}};nfa:fa≠d:=λz=>(do _;{_,_,e}:=dw;e←[←z,dk];-e);nff:∀i,i<3->fa≠F i:=λi hi' z=>(do this:i=0\/i=1\/i=2:=();rfl||rfl||rfl:=this;e0←[←z,dk];-e0;e1←[←z,dk];-e1;e2←[←z,dk];-e2);rf:∀i,i<3->r≠F i:=λi h=>(fd i ()).2;{_,O,d,8,O,B2.dw,⋯,⋯,λi1 H3 C w3 a3 b3=>{O,?_}};R:=B2.draw a C w3;(by generalize decide (V.int i1=V.int 7)=wd);{_,O,d,7,O,R.dw,⋯,⋯,λi2 H4 N w4 a4 b4=>{_,O,d,5,O,w4,⋯,⋯,λi3 H5 J w5 a5 b5=>{_,_,O,O,aE rfl,λX H6 g6 s6 e6=>?_}}};B6:=((R.draw a N w4).draw a J w5).same s6;ixw:((if wd=true then 1 else 0:Int))<2:=(by cases wd <;> decide);{_,O,.inr {wd,O,X,_,_,O,O,az.of e6,by cases wd <;> decide,ixw,λv hv=>?_}};{c,rfl,c0,c1}:∃c:Int,v=.int c/\0<=c/\c<=14:=(do(by ac_nf at hv);rfl||rfl:=hv;⟨_,O,a4,()⟩;⟨_,O,(),()⟩);⟨c,O,(),(),cg (lo:=0) (n:=c.toNat) (λj σ Z=>wN λkn bs es cs rs cu u5 u6=>vA λu7 u8=>mT (σ=[!(.ref d),!(.ref fa),!(.ref r),!(.ref kq),!(.bl wd),u5,u6,u7,u8,none]) (PB H Z d F kq kn bs es cs rs cu) (kn.length=j+1) (bs.length<=j) (es.length<=2 * j) (cs.length<=j/\∀x∈rs,bV x.ka x.kb (j:Int) 1)) ⟨_,_,_,_,_,_,_,_,_,_,O,B6,O,qe _,qe _,qe _,λx z=>nomatch z⟩ ?_ ?_⟩;(j,σ,Z,hj,{kn,bs,es,cs,rs,cu,u5,u6,u7,u8,rfl,B,hk,hb,he,hc,hx},Nx,q);erZ:=B.out er rd rf;{_,O,_,O,_,O,r,_,O,.inl (az.of erZ),d,_,O,B.dw,by show(0:Int)<2;decide,by show(2:Int)<1000;decide,λi1 Z1 G w1 x1 y1=>{r,_,i1,O,O,az.of (DP.to G erZ rd),x1,y1,λvw hvw=>?_}};{w,rfl}:∃w,vw=.str w:=(by have:=hvw;ac_nf at this;rcases this with h|h <;> exact{_,h});{_,O,_,_,O,O,aE rfl,λD Z2 g2 s2 e2=>?_};ej:(1+(0+(j:Int)))=((kn.length:Nat):Int):=(do[hk];());e2←[ej];np:Nm [.inr w,.inl ((kn.length:Nat):Int)]:=zV hvw;B2:=(B.draw a G w1).same s2;{_,O,_,O,_,O,kq,_,O,.inl (az.of B2.ek),d,_,O,B2.dw,(),(),λi2 Z3 C w3 x2 y2=>{kq,kn,i2,O,O,az.of (B2.draw a C w3).ek,x2,y2,λvo hvo=>?_}};R:=B2.draw a C w3;ep3:Z3 D=!(.tup [.str w,.int ((kn.length:Nat):Int)]):=B2.dw.ab C _ _ e2;no3:vF Z3 vo:=R.vC.np hvo;tK (λσ' Z'=>∃vo',ic (σ'=[!(.ref d),!(.ref fa),!(.ref r),!(.ref kq),!(.bl wd),!(.int (0+(j:Int))),!(.ref D),!vo',u8,none]) (PB H Z' d F kq kn bs es cs rs cu) (Z' D=!(.tup [.str w,.int ((kn.length:Nat):Int)])) (vF Z' vo')) (λNx q=>?_) ?_;om (λb Z'=>PB H Z' d F kq kn bs es cs rs cu/\Z' D=!(.tup [.str w,.int ((kn.length:Nat):Int)])/\vF Z' vo) (λNb hNb=>{_,O,wd,O,?_}) ?_;(by cases wd with|false|true=>?_);bU rfl (hNb _ _ {R,ep3,no3});cW rfl {_,O,d,8,O,R.dw,⋯,⋯,λi Z4 N w4 _ _=>{_,_,O,O,_,O,hNb _ _ {R.draw a N w4,R.dw.ab N _ _ ep3,no3.ab (R.dw.ab N)}}};(b,Z',{B',ep,no});(by cases b with|false|true=>?_);bU rfl (q _ _ {vo,O,B',ep,no});cW rfl {aE rfl,λmq Z5 g s e=>(q _ _ {.ref mq,O,B'.same s,s _ _ ep,bE,{mq,O,e},.inl rfl})};(σ',Z',{vo',rfl,B',ep,no});{_,O,fa,.ref (F 0),O,.inl {cE F 9,.inr "births",.inl (B'.out dk nfa nff),O,(cX F 0 ⋯).symm},.inl {O,_,az.of B'.eb},_,O,_,O,aE rfl,λbq Z6 g6 s6 e6=>{F 0,bs,_,O,O,(B'.same s6).eb,cG (),?_}};B6':=B'.same s6;{po,go,hpo}:=no.ab s6.ab;ep6:=s6 _ _ ep;B7:=B6'.Lu a (v:=.ref bq) {bq,_,_,[.inr w,.inl ((kn.length:Nat):Int)],po,O,e6,{D,O,ep6},np,go,hpo} ();t7:ai Z6 (upd Z6 (F 0) (.lst (bs++[.ref bq]))):=ai.wl B6'.eb;ep7:=t7 _ _ ep6;go7:=go.ab t7;(by generalize upd Z6 (F 0) (.lst (bs++[.ref bq]))=Z7 at B7 ep7 go7);{_,O,d,9,O,B7.dw,⋯,⋯,λi4 Z8 s8 w8 _ _=>{_,_,O,O,?_}};B8:=B7.draw a s8 w8;t8:=B7.dw.ab s8;ep8:=t8 _ _ ep7;go8:=go7.ab t8;(by generalize decide ((0:Int)<i4)=ct);lw:∀x∈rs,bV x.ka x.kb ((j:Int)+1) 0:=λx h=>(by have:=hx x h;unfold bV at this ⊢;omega);gpt:∀{W:Hp},W D=!(.tup [.str w,.int ((kn.length:Nat):Int)])->GK W (.tup [.inr w,.inl ((kn.length:Nat):Int)]) (.ref D):=λe=>{D,O,e};tK (λσ' Z'=>vA λM S=>ic (σ'=[!(.ref d),!(.ref fa),!(.ref r),!(.ref kq),!(.bl wd),!(.int (0+(j:Int))),!(.ref D),!vo',!(.bl ct),none]) (PB H Z' d F kq kn (bs++[.ref bq]) M cs S cu) (Z' D=!(.tup [.str w,.int ((kn.length:Nat):Int)])) (M.length<=2 * j+1/\∀x∈S,bV x.ka x.kb ((j:Int)+1) 0)) (λNx q=>{_,O,ct,O,?_}) ?_;(by cases ct with|false|true=>?_);bU rfl (q _ _ {es,rs,O,B8,ep8,(),lw});cW rfl {_,O,fa,.ref (F 1),O,.inl {cE F 9,.inr "places",.inl (B8.out dk nfa nff),O,(cX F 1 ⋯).symm},.inl {O,_,az.of B8.ev},_,O,_,O,_,O,_,O,aE rfl,λcq Z9 g9 s9 e9=>{aE rfl,λt Z10 g10 s10 e10=>{F 1,es,_,O,O,((B8.same s9).same s10).ev,cG (),?_}}};Y:=(B8.same s9).same s10;s810:=s9.trans s10;I:=s810 _ _ ep8;t11:ai Z10 (upd Z10 (F 1) (.lst (es++[.ref t]))):=ai.wl Y.ev;q _ _ {es++[.ref t],rs++[{[.inr w,.inl ((kn.length:Nat):Int)],po,[.inr w,.inl ((kn.length:Nat):Int)],0+(j:Int),1}],O,Y.place a {t,.ref D,vo',.ref D,cq,O,e10,gpt I,go8.ab s810.ab,gpt I,s10 _ _ e9} {np,hpo,np} (λx h=>do this:=hx x h;¬bV x.ka x.kb (0+(j:Int)) 1;(by unfold bV at this ⊢);()) (),t11 _ _ I,do[qi,qt];(),λx h=>?_};h||h:=zh.mp h;lw x h;[qx.mp h];¬bV (0+(j:Int)) 1 ((j:Int)+1) 0;@bV;();(σ',Z9,{M,S,rfl,B9,ep9,he9,hx9});lw9:∀x∈S,bV x.ka x.kb ((j:Int)+1) 1:=λx h=>(by have:=hx9 x h;unfold bV at this ⊢;omega);tK (λσ' Z'=>rQ λes2 rs2 u7'=>ic (σ'=[!(.ref d),!(.ref fa),!(.ref r),!(.ref kq),!(.bl wd),!(.int (0+(j:Int))),!(.ref D),u7',!(.bl ct),none]) (PB H Z' d F kq kn (bs++[.ref bq]) es2 cs rs2 cu) (Z' D=!(.tup [.str w,.int ((kn.length:Nat):Int)])) (es2.length<=2 * j+2/\∀x∈rs2,bV x.ka x.kb ((j:Int)+1) 1)) (λNx q=>?_) ?_;om (λb Z'=>PB H Z' d F kq kn (bs++[.ref bq]) M cs S cu/\Z' D=!(.tup [.str w,.int ((kn.length:Nat):Int)])) (λNb hNb=>{_,O,ct,O,?_}) ?_;(by cases ct with|false|true=>?_);bU rfl (hNb _ _ {B9,ep9});cW rfl {_,O,d,3,O,B9.dw,⋯,⋯,λi Z4 N w4 _ _=>{O,_,O,hNb _ _ {B9.draw a N w4,B9.dw.ab N _ _ ep9}}};(b,Z',{B',ep});(by cases b with|false|true=>?_);bU rfl (q _ _ {M,S,_,O,B',ep,(),lw9});cW rfl {_,O,_,O,_,O,kq,_,O,.inl (az.of B'.ek),d,_,O,B'.dw,(),(),λi Z1 G w1 x1 y1=>{kq,kn,i,O,O,az.of (B'.draw a G w1).ek,x1,y1,λvo2 hvo2=>?_}};y:=B'.draw a G w1;ep1:=B'.dw.ab G _ _ ep;{p2,gp2,hp2}:=y.vC.np hvo2;er1:=y.out er rd rf;{_,O,fa,.ref (F 1),O,.inl {cE F 9,.inr "places",.inl (y.out dk nfa nff),O,(cX F 1 ⋯).symm},.inl {O,_,az.of y.ev},_,O,_,O,_,O,r,_,0,_,O,O,az.of er1,O,_,O,_,_,O,O,aE rfl,λmq Z3 g3 C e3=>{_,O,_,_,O,O,aE rfl,λcq Z4 g4 N e4=>{aE rfl,λt Z5 g5 J e5=>{F 1,M,_,O,O,(((y.same C).same N).same J).ev,cG (),?_}}}};B5:=((y.same C).same N).same J;s15:=(C.trans N).trans J;ep5:=s15 _ _ ep1;t6:ai Z5 (upd Z5 (F 1) (.lst (M++[.ref t]))):=ai.wl B5.ev;q _ _ {M++[.ref t],S++[{[.inr w,.inl ((kn.length:Nat):Int)],p2,[.inr "ann",.inl (20+(0+(j:Int)))],0+(j:Int)+1,0}],_,O,B5.place (r:={[.inr w,.inl ((kn.length:Nat):Int)],p2,[.inr "ann",.inl (20+(0+(j:Int)))],0+(j:Int)+1,0}) a {t,.ref D,vo2,.ref mq,cq,O,e5,gpt ep5,gp2.ab s15.ab,{mq,O,(N.trans J) _ _ e3},J _ _ e4} {np,hp2,zV (do 0)} (λx h=>do this:=hx9 x h;¬bV x.ka x.kb (0+(j:Int)+1) 0;(by unfold bV at this ⊢);()) (),t6 _ _ ep5,do[List.length_append,List.length_singleton];(),λx h=>?_};h||h:=zh.mp h;lw9 x h;[qx.mp h];¬bV (0+(j:Int)+1) 0 ((j:Int)+1) 1;@bV;();(σ',Z10,{es2,rs2,u7',rfl,Y,I,he10,hx10});tK (λσ' Z'=>vA λcs' cu'=>ic (σ'=[!(.ref d),!(.ref fa),!(.ref r),!(.ref kq),!(.bl wd),!(.int (0+(j:Int))),!(.ref D),u7',!(.bl ct),none]) (PB H Z' d F kq kn (bs++[.ref bq]) es2 cs' rs2 cu') (Z' D=!(.tup [.str w,.int ((kn.length:Nat):Int)])) (cs'.length<=j+1)) (λNx q=>?_) ?_;{_,O,d,8,O,Y.dw,⋯,⋯,λi Z1 G w1 _ _=>{O,_,O,?_}};y:=Y.draw a G w1;ep1:=Y.dw.ab G _ _ I;hz<|i=0;er1:=y.out er rd rf;cW (qI (do[hz])) {_,O,fa,.ref (F 2),O,.inl {cE F 9,.inr "cuts",.inl (y.out dk nfa nff),O,(cX F 2 ⋯).symm},.inl {O,_,az.of y.ec},_,O,_,O,r,_,1,_,O,O,az.of er1,O,_,O,_,_,O,O,aE rfl,λmq Z3 g3 C e3=>{aE rfl,λt Z5 g5 J e5=>{F 2,cs,_,O,O,((y.same C).same J).ec,cG (),?_}}};B5:=(y.same C).same J;ep5:=(C.trans J) _ _ ep1;t6:ai Z5 (upd Z5 (F 2) (.lst (cs++[.ref t]))):=ai.wl B5.ec;q _ _ {cs++[.ref t],cu++[[.inr w,.inl ((kn.length:Nat):Int)]],O,B5.cut a {t,.ref D,.ref mq,[.inr "bo",.inl (30+(0+(j:Int)))],O,e5,gpt ep5,.inr np,{mq,O,J _ _ e3},zV (do 0)} (),t6 _ _ ep5,do[List.length_append,List.length_singleton];()};bU (decide_eq_false λz=>hz (by injection z)) (q _ _ {cs,cu,O,y,ep1,()});(σ',Z11,{cs',cu',rfl,B11,ep11,hc11});{_,O,.inl {O,_,az.of B11.ek},_,O,kq,kn,_,O,O,B11.ek,cG (),?_};q _ _ {kn++[.ref D],_,_,_,_,_,_,_,_,_,O,B11.PU a fk (gpt ep11) (.inr np),do[qi,hk];2,do[qi,qt];(),(),(),λx h=>do this:=hx10 x h;¬bV x.ka x.kb ((j+1:Nat):Int) 1;(by unfold bV at this ⊢);()};(σ,Z,{kn,bs,es,cs,rs,cu,u5,u6,u7,u8,rfl,B,hk,hb,he,hc,hx});hcn:c.toNat<=14:=();{_,O,fa,.ref (F 1),O,.inl {cE F 9,.inr "places",.inl (B.out dk nfa nff),O,(cX F 1 ⋯).symm},F 1,O,{_,az.of B.ev},c7 (xs:=es) (kK ()) (λj us Z'=>Z'=Z/\us.length<=j/\∀u∈us,∃p,GK Z (.tup p) u/\Nm p) {O,qe _,λu z=>nomatch z} (λ_ _ Z' s'=>do[s'.1];az.of B.ev) (λj x us Z' K1 K0 hx' s' k1 k0=>?_) λZ1 X us s' hu L=>?_};{rfl,ul,ru}:=s';{r',er',pc}:=B.fi.pc.at hx';hw:=(B.fi.w r' (qw er')).pt;{b,vp,vo,vn,kq',rfl,h1,h2,h3,h4,h5}:=pc;dI (B:=K0 Z') ?_;{_,O,b,_,0,_,O,O,aV.of h1,O,k1 _ _ {O,do[qi];Nat.add_le_add_right ul 1,λu hu=>?_}};hu||hu:=zh.mp hu;ru u hu;[qx.mp hu];{_,h2,hw};{rfl,ul,ru}:=s';n1:af Z1 (upd Z1 X (.lst us)):=af.new L;y:=B.same n1;e1:(upd Z1 X (.lst us)) X=!(.lst us):=aB;ru1:∀u∈us,∃p,GK (upd Z1 X (.lst us)) (.tup p) u/\Nm p:=λu h=>let⟨p,g,n⟩:=ru u h;{p,g.ab n1.ab,n};nl:X≠d:=B.dw.ne L;nlf:∀{i},i<3->X≠F i:=λ{i} h z=>(do this:i=0\/i=1\/i=2:=();rfl||rfl||rfl:=this;L←[z,B.eb];-L;L←[z,B.ev];-L;L←[z,B.ec];-L);¬nE _ _ _ _ (upd Z1 X (.lst us));(by generalize upd Z1 X (.lst us)=Z2 at y e1 ru1);{_,O,d,4,O,y.dw,⋯,⋯,λm Z3 C w3 m0 m1=>?_};{m,O,(),(),cg (lo:=0) (n:=m.toNat) (λj σ W=>F4 λes rs u5 u6=>∃u7,mT (σ=[!(.ref d),!(.ref fa),!(.ref r),!(.ref kq),!(.bl wd),u5,u6,u7,u8,!(.ref X)]) (PB H W d F kq kn bs es cs rs cu) (W X=!(.lst us)) (∀u∈us,∃p,GK W (.tup p) u/\Nm p) (es.length<=28+j) (∀x∈rs,bV x.ka x.kb (20+(j:Int) / 2) ((j:Int) % 2))) {es,rs,_,_,_,O,y.draw a C w3,DP.to C e1 nl,λu h=>let⟨p,g,n⟩:=ru1 u h;{p,g.ab (y.dw.ab C),n},(),λx h=>by have:=hx x h;unfold bV at this ⊢;omega} ?_ ?_};(j,σ,W,hj,{es,rs,u5,u6,u7,rfl,B,el,ru,he,hx},Nx,q);{ps,pa}:∃ps:List (List Key),AL (λu p=>GK W (.tup p) u/\Nm p) us ps:=let⟨ps,h1,h2⟩:=xM ru;{ps,h1.symm,h2};pd:cz W us (ps.map tD):=AL.lW (λv p g=>aK g.1) pa;{_,O,aE rfl,λzq W1 g1 G f1=>?_};{.list (ps.map tD),.list [],.lst (az.of (G _ _ el)) (pd.same G).dv,.lst (az.of f1) .nil,?_,O,?_,_,O,?_};(tR λk hk=>do _;{_,_,_,h}:=pa.gG hk;.inr h).1;qg (jh _ _) ⋯;y:=B.same G;el1:=G _ _ el;ru1:∀u∈us,∃p,GK W1 (.tup p) u/\Nm p:=λu h=>let⟨p,g,n⟩:=ru u h;{p,g.ab G.ab,n};nx:∀x∈rs,bV x.ka x.kb (20+((j+1:Nat):Int) / 2) (((j+1:Nat):Int) % 2):=λx h=>(by have:=hx x h;unfold bV at this ⊢;omega);(by cases us with|nil|cons u0 us0=>?_);this:ps=[]:=yx.mp pa.1.symm;!this;bU rfl (q _ _ {es,rs,_,_,_,O,y,el1,ru1,(),nx});{p0,ps0,rfl}:∃p0 ps0,ps=p0::ps0:=(do(by cases ps with|nil|cons p0 ps0=>?_);this:=pa.1;-this;{p0,ps0,O});cW rfl ?_;hul:((u0::us0).length:Int)<=28:=(do this:=hu;());hu0:(0:Int)<((u0::us0).length:Nat):=(do[zd];());{_,O,_,O,_,O,X,_,O,.inl (az.of el1),d,_,O,y.dw,hu0,(),λi2 W2 s2 w2 x2 y2=>{X,_,i2,O,O,az.of (DP.to s2 el1 nl),x2,y2,λvp hvp=>?_}};B2:=y.draw a s2 w2;{_,O,_,O,_,O,kq,_,O,.inl (az.of B2.ek),d,_,O,B2.dw,(),(),λi3 W3 C w3 x3 y3=>{kq,kn,i3,O,O,az.of (B2.draw a C w3).ek,x3,y3,λvo hvo=>?_}};R:=B2.draw a C w3;t13:=(y.dw.ab s2).trans (B2.dw.ab C);{p1,gp1,hp1}:=ru1 vp hvp;{p2,gp2,hp2}:=R.vC.np hvo;er3:=R.out er rd rf;el3:=DP.to C (DP.to s2 el1 nl) nl;{_,O,fa,.ref (F 1),O,.inl {cE F 9,.inr "places",.inl (R.out dk nfa nff),O,(cX F 1 ⋯).symm},.inl {O,_,az.of R.ev},_,O,_,O,_,O,r,_,0,_,O,O,az.of er3,O,_,O,_,_,O,O,aE rfl,λmq W4 g4 N e4=>{_,O,_,_,O,O,{⋯,⋯},_,_,O,O,_,O,_,_,O,O,(by show(0:Int)<2;decide),aE rfl,λcq W5 g5 J e5=>{aE rfl,λt W6 g6 s6 e6=>{F 1,es,_,O,O,(((R.same N).same J).same s6).ev,cG (),?_}}}};B6:=((R.same N).same J).same s6;s36:=(N.trans J).trans s6;t7:ai W6 (upd W6 (F 1) (.lst (es++[.ref t]))):=ai.wl B6.ev;t17:=(t13.trans s36.ab).trans t7;q _ _ {es++[.ref t],rs++[{p1,p2,[.inr "ann",.inl (35+(0+(j:Int)))],20+(0+(j:Int)) / 2,(0+(j:Int)) % 2}],_,_,_,O,B6.place (r:={p1,p2,[.inr "ann",.inl (35+(0+(j:Int)))],20+(0+(j:Int)) / 2,(0+(j:Int)) % 2}) a {t,vp,vo,.ref mq,cq,O,e6,gp1.ab (t13.trans s36.ab),gp2.ab s36.ab,{mq,O,(J.trans s6) _ _ e4},s6 _ _ e5} {hp1,hp2,zV (do 0)} (λx h=>do this:=hx x h;¬bV x.ka x.kb (20+(0+(j:Int)) / 2) ((0+(j:Int)) % 2);(by unfold bV at this ⊢);()) (),do[ak (nlf ⋯)];s36 _ _ el3,λu h=>let⟨p,g,n⟩:=ru1 u h;{p,g.ab t17,n},do[List.length_append,List.length_singleton];(),λx h=>?_};h||h:=zh.mp h;nx x h;[qx.mp h];¬bV (20+(0+(j:Int)) / 2) ((0+(j:Int)) % 2) _ _;@bV;();(σ,W,{es,rs,u5,u6,u7,rfl,B,el,ru,he,hx});{_,O,kk W kq kn bs es cs rs cu B.ro fk B.ek B.vC () () B.eb B.ev B.ec B.fi}
def DI(T:Txt K mg tk)(F:FO K mg "_law_sign" tF)(e:fO P w K mg base):yC P w K mg base:=do aM F IC (ip λ_ _=>rfl) {} λfa S A outer s H vs Q E o h=>?_;{_,(aj (sn IC.nd 2 (cl e o (a2 (vv 0) aA))) (aj (br (ck c9 (vv 2) aA) (aD (aN (a0 (a2 aO (p8 Nq aO Fj (fT (aG c8 aA (cl e o (a2 (vv 0) aA))))))))) cc) (aj (br (ck c9 (vv 2) aA) (aD (aN (a0 (a2 aO (xa (vv 1) (cl e o (a2 (vv 0) (cb c6 T.bQ boot_len (a1 (vv 1)))))))))) cc) (aD (aN (iY CJ aO (cl e o (a2 (vv 0) aA)) (λ_ _=>rfl))))))),?_};{d,l,us,rfl,C,L,nl,h0,h1,np,q}:=h;{_,O,d,8,O,C,⋯,⋯,λr H1 g n W X=>?_};{_,O,O,_,O,?_};R:=C.ab g;D<|r=0;cW (qI (do[D])) ?_;{_,O,d,8,O,n,⋯,⋯,λG H2 s2 j a2 V=>?_};{k,rfl}:∃k:Nat,G=k:={G.toNat,()};{B,y}:=BN k ();{_,_,O,O,_,O,"abcdefgh",O,aE rfl,aE rfl,λJ t M f x=>q t _ (.tuple [.str "picture",.str _]) ((af.jU g s2).trans f) (j.same f) (.tup x (.cons (.str _) (.cons (.str _) .nil))) (.inr (.inl {_,O,y})) (Hy ∅ (d8 B))};bU (decide_eq_false λz=>D (by injection z)) ?_;{_,O,O,_,O,?_};I<|r=1;cW (qI (do[I])) ?_;m:=DP.to g L nl;{_,O,_,O,_,O,l,_,O,.inl (az.of m),d,_,O,n,(),(),λi H2 s2 j a b=>{l,us,i,O,O,az.of (DP.to s2 m nl),a,b,λv N=>{aE rfl,λJ t M f x=>?_}}};{p,U,hp}:=(((np v N).ab R).ab (n.ab s2)).ab f.ab;q t _ (.tuple [.str "refer",tD p]) ((af.jU g s2).trans f) (j.same f) (.tup x (.cons (.str _) (.cons (aK U) .nil))) (.inr (.inr {p,O,hp})) (Hy ∅ (cm hp.lay));bU (decide_eq_false λz=>I (by injection z)) ?_;{_,O,d,29,O,n,⋯,⋯,λi H2 s2 j a b=>?_};{k,rfl}:∃k:Nat,i=k:={i.toNat,()};{c,B,y}:=CC k ();{_,_,c,O,O,aE rfl,B,q H2 _ (.str {#[c]}) (af.jU g s2) j (.str _) (.inl {_,O,do¬1<=10;by decide}) {y,O,qv 3}}
def Cw(T:Txt K mg tk)(F:FO K mg "_law_side" tP)(a:fO P w K mg base):yY P w K mg base:=do aM F Bo (ip λ_ _=>rfl) {} λfa G A outer s H vs Q E y h=>?_;{_,(aD (aN (a0 (a2 (xa (vv 1) (cl a y (a2 (vv 0) (cb c6 T.bQ boot_len (a1 (vv 1)))))) (xa (bK (a2 aO aO)) (cl a y (a2 (vv 0) aA))))))),?_};{d,l,us,rfl,D,k,nl,h0,h1,p}:=h;{_,O,_,O,_,O,l,_,O,.inl (az.of k),d,_,O,D,(),(),λr H1 t m I M=>{l,us,r,O,O,az.of (DP.to t k nl),I,M,λv q=>?_}};{aE rfl,λx H2 C s2 L=>?_};g:x≠d:=m.ne C;{_,O,d,2,O,m.same s2,⋯,⋯,λJ N n z i c=>{x,_,J,O,O,az.of (DP.to n L g),i,c,λw o=>{aE rfl,λj f R e B=>?_}}};b:af (del H d) f:=(af.jU t (af.sd s2 n)).trans e;(by ac_nf at o);rfl||rfl:=o;p f j v false b (z.same e) B q;p f j v true b (z.same e) B q
def EF(T:Txt K mg tk)(F:FO K mg "_law_tables" oK)(q:fO P w K mg base):Ag P w K mg base:=do aM F fL (vY λ_ _ _ _=>rfl) {} λfa cdv A outer s H vs Q E X h=>?_;hu1:(A.deeper (envOfC "_law_tables" (ag oK) ↑s fa cdv)).units+1<cLine:=cR X;{_,(aD (fo (il (p8 E9 (vv 3) Fj (fT aA))) (gn fL.nd 4) (aj (sn fL.nd 5 (bK cS)) (aj (sn fL.nd 6 (bK cS)) (aj (fo (lh (do 2) T.dA (a1 (cl q X (a2 (vv 0) aA)))) (gn fL.nd 7) (aj (sn fL.nd 8 (xa (bK (a2 aO aO)) (cl q X (a2 (vv 0) aA)))) (aj (sn fL.nd 9 (a0 (a2 (xl (vv 2)) (aG c8 (aG c8 aA (aG uq aA (bm PySem.F.plainAttrs_list PySem.F.slot_list_index PySem.F.type_list_index (LX X) (vv 3) (a1 (vv 4))))) (vv 7))))) (aj (sn fL.nd 10 (a0 (a2 (aG c8 (aG c8 aA (aG uq aA (bm PySem.F.plainAttrs_list PySem.F.slot_list_index PySem.F.type_list_index (LX X) (vv 3) (a1 (vv 4))))) (aG jY (vv 7) aA)) (aG eP (vv 7) aA)))) (aj (ap (cU hu1 (vv 1) aO (λ_ _=>rfl)) (a1 (a0 (ac (vv 4) (ac (vv 8) (ac (vv 9) (ac dE (a2 (vv 10) (ce eB (cl q X (a2 (vv 0) aA)) aA))))))))) (aD (ap (xa (bK (a2 (vv 5) (vv 6))) (cy AF T.uu boot_int (a1 (ce c9 (vv 8) aO)))) (a1 (vv 9))))))))) (aD (fo (lh (do 2) T.dA (a1 (cl q X (a2 (vv 0) aA)))) (gn fL.nd 7) (aD (br (tW (PW.pt (jO (ck (lB X) (vv 5) (bK cS)) (jP (ck (lB X) (vv 6) (bK cS)))))) (aj (sn fL.nd 11 (xa (vv 5) (cl q X (a2 (vv 0) (cb c6 T.bQ boot_len (a1 (vv 5))))))) (aj (sn fL.nd 12 (xa (vv 6) (cl q X (a2 (vv 0) (cb c6 T.bQ boot_len (a1 (vv 6))))))) (aj (sn fL.nd 13 (xa (bK (ac aO (a2 aO aO))) (cl q X (a2 (vv 0) aA)))) (aj (sn fL.nd 10 (a0 (a2 (aG c8 (aG c8 aA (aG uq aA (bm PySem.F.plainAttrs_list PySem.F.slot_list_index PySem.F.type_list_index (LX X) (vv 3) (a1 (vv 4))))) (aG jY (vv 7) aA)) (aG eP (vv 7) aA)))) (aD (ap (cU hu1 (vv 1) aO (λ_ _=>rfl)) (a1 (a0 (ac (vv 4) (ac (vv 11) (ac (vv 12) (a2 (vv 13) (vv 10))))))))))))) cc))))))))),?_};{d,fa,r,kq,F,kn,rfl,dw,dk,e6,e7,er,ek,hkn,k0,k1,rd,kd',fr,n67,kk}:=h;n6:F 6≠d:=(fr 6 ⋯).1;n7:F 7≠d:=(fr 7 ⋯).1;nfd:fa≠d:=λz=>(do _;{_,_,e}:=dw;e←[←z,dk];-e);nf6:fa≠F 6:=λz=>(do e6←[←z,dk];-e6);nf7:fa≠F 7:=λz=>(do e7←[←z,dk];-e7);r6:r≠F 6:=(fr 6 ⋯).2.1;r7:r≠F 7:=(fr 7 ⋯).2.1;q6:kq≠F 6:=(fr 6 ⋯).2.2;q7:kq≠F 7:=(fr 7 ⋯).2.2;{_,O,3,O,kq,kn,O,az.of ek,λsq H1 g1 Y e1=>?_};sd:sq≠d:=dw.ne g1;s6:sq≠F 6:=λz=>(do g1←[z,e6];-g1);s7:sq≠F 7:=λz=>(do g1←[z,e7];-g1);lc:(d6 kn none (some 3)).length<=15:=qg (BQ _ _ _) k1;B1:UB H1 H1 d F (90+10 * ((0:Nat):Int)) (100+10 * ((0:Nat):Int)) 0 (150+10 * ((0:Nat):Int)) 0 (λ_=>⟨[],"",[],none,0,0,false⟩) 0 (λ_=>⟨[],[],[],"",0,0⟩) 0 [] []:={Rest.refl,dw.same Y,Y _ _ e6,.nil,{qv _,(λi j _ z=>nomatch z),(λi z=>nomatch z),(λi z=>nomatch z),(λi z=>nomatch z),(λi z=>nomatch z)},(λi z=>nomatch z),(λi z=>nomatch z),(λi z=>nomatch z),Y _ _ e7,.nil,{qv _,(λi j _ z=>nomatch z),(λi z=>nomatch z),(λi z=>nomatch z)},(λi z=>nomatch z)};{sq,O,{_,az.of e1},bD (xs:=d6 kn none (some 3)) (λj σ Z=>wN λL l C c ls cs u4 u5=>wN λu6 u7 u8 u9 g t x D=>mT (σ=[!(.ref d),!(.ref fa),!(.ref r),!(.ref kq),u4,u5,u6,u7,u8,u9,g,t,x,D]) (UB H1 Z d F (90+10 * (j:Int)) (100+10 * (j:Int)) 0 (150+10 * (j:Int)) 0 L l C c ls cs) (l<=5 * j) (c<=4 * j) (ls.length=l) (cs.length=c)) {_,_,_,_,_,_,_,_,_,_,_,_,_,_,_,_,O,B1,qe _,qe _,O,O} ?_ ?_ ?_};(by rintro j σ Z - ⟨L,l,C,c,ls,cs,u4,u5,u6,u7,u8,u9,g,t,x,D,rfl,B,-⟩);az.of (B.out e1 sd s6 s7);(j,vp,σ,Z,hx,{L,l,C,c,ls,cs,u4,u5,u6,u7,u8,u9,g,t,x,D,rfl,B,hl,hc,N,S},Nx,M);hj:j<15:=zf (qk.mp hx).1 lc;hxk:=Oc hx;kn1:=hkn.ab Y.ab;nt:∀b,(b=d\/b=F 6\/b=F 7)->∀xs,H1 b≠some (.tup xs):=λb z ys e=>(do(by rcases z with z|z|z <;> subst z);{_,_,e'}:=dw;e←[Y _ _ e'];-e;e←[Y _ _ e6];-e;e←[Y _ _ e7];-e);knz:∀{Z':Hp},Rest H1 Z' (λb=>b=d\/b=F 6\/b=F 7)->KN Z' kn:=λr=>kn1.ab (mW r nt);{aE rfl,λrq Z1 g1' f e1'=>{aE rfl,λcq Z2 g2 s2 e2=>?_}};{rq0,J,rq6,rq7}:=B.free g1';{cq0,G,cq6,cq7}:=(B.same f).free g2;rc:rq≠cq:=λz=>(do g2←[←z,e1'];-g2);B2:=(B.same f).same s2;R2:RC Z2 rq cq [] [] 0:={s2 _ _ e1',e2,(λu z=>nomatch z),(λu z=>nomatch z),qe _,qe _};{_,O,d,5,O,B2.dw,⋯,⋯,λi3 Z3 s3 w3 x3 y3=>?_};{i3,O,(),(),cg (lo:=0) (n:=i3.toNat) (λk σ Z=>wN λL l ls us vs u7 u8 u9=>∃g,ic (σ=[!(.ref d),!(.ref fa),!(.ref r),!(.ref kq),!vp,!(.ref rq),!(.ref cq),u7,u8,u9,g,t,x,D]) (UB H1 Z d F (90+10 * (j:Int)+(k:Int)) (100+10 * (j:Int)+(k:Int) / 2) ((k:Int) % 2) (150+10 * (j:Int)) 0 L l C c ls cs) (RC Z rq cq us vs k) (l<=5 * j+k/\ls.length=l)) {_,_,_,_,_,_,_,_,_,O,(B2.draw n6 n7 s3 w3).up (Int.le_of_eq ()) (λa b h=>rF () h) (λa b h=>h),R2.draw B2.dw J G s3,(),N} ?_ ?_};(k,σ,W,hk,{L,l,ls,us,vs,u7,u8,u9,g,rfl,B,R,hl,N},Nx,M);{aE rfl,λy1 Z1 g1 f f1=>{_,O,d,2,O,(B.same f).dw,⋯,⋯,λi2 Z2 s2 w2 x2 y2=>{y1,_,i2,O,O,az.of (DP.to s2 f1 (B.dw.ne g1)),x2,y2,λvw hvw=>?_}}};{wy,rfl,wyo}:∃wy,vw=.str wy/\PyData.strOk wy=true:=(by ac_nf at hvw;rcases hvw with h|h <;> exact{_,h,∅});B2:=(B.same f).draw n6 n7 s2 w2;R2:=(R.same f).draw (B.same f).dw J G s2;ek2:=B2.out (Y _ _ ek) kd' q6 q7;{p,ds,gp2,pn,dv,l_,la,lal,dep,ix1,ix2}:=(knz B2.ro).idx hxk;{_,O,r,_,1,_,O,O,az.of (B2.out (Y _ _ er) rd r6 r7),O,_,O,.inl {O,_,az.of ek2},_,O,_,_,kq,ds,kn,j,O,O,dv,az.of ek2,l_,la,lal,dep,ix1,ix2,_,_,O,O,.inl {⋯,⋯},_,_,O,O,_,O,_,_,O,O,aE rfl,λq3 Z3 g3 s3' e3=>?_};e3←[Int.zero_add];B3:=B2.same s3';R3:=R2.same s3';ek3:=s3' _ _ ek2;{p',ds',gp3,pn',dv',dvs',la',lal',dep',ix1',ix2'}:=(knz B3.ro).idx hxk;{_,O,.inl {O,_,az.of ek3},_,O,_,_,kq,ds',kn,j,O,O,dv',az.of ek3,dvs',la',lal',dep',ix1',ix2',_,_,O,O,.inl {⋯,⋯},_,_,O,O,_,O,_,_,O,O,{⋯,⋯},_,_,O,O,_,O,_,_,O,O,(by decide:(0:Int)<2),aE rfl,λq4 Z4 g4 s4 e4=>?_};e4←[Int.zero_add];B4:=B3.same s4;R4:=R3.same s4;{_,O,fa,.ref (F 6),O,.inl {cE F 9,.inr "lines",.inl (B4.out (Y _ _ dk) nfd nf6 nf7),O,(cX F 6 ⋯).symm},.inl {O,_,az.of B4.e6},_,O,_,O,_,O,_,O,_,O,d,4,O,B4.dw,⋯,⋯,λi5 Z5 s5 w5 x5 y5=>{_,_,O,O,aE rfl,λU Z6 g6 I e6'=>{F 6,ls,_,O,O,((B4.draw n6 n7 s5 w5).same I).e6,cG (),?_}}};B5:=B4.draw n6 n7 s5 w5;B6:=B5.same I;R6:=(R4.draw B4.dw J G s5).same I;t46:=(B4.dw.ab s5).trans I.ab;t36:=s4.ab.trans t46;e36:=t36 _ _ e3;B7:=B6.line (X':=90+10 * (j:Int)+((k+1:Nat):Int)) (A':=100+10 * (j:Int)+((k+1:Nat):Int) / 2) (B':=((k+1:Nat):Int) % 2) (r:={p,wy,[.inr "bo",.inl (90+10 * (j:Int)+(k:Int))],none,100+10 * (j:Int)+(k:Int) / 2,(k:Int) % 2,_}) n6 n67 () {U,_,_,_,q4,O,e6',gp2.ab (s3'.ab.trans t36),{q3,O,e36},O,t46 _ _ e4} rfl rfl rfl rfl pn.lay wyo () (do@bV;());R7:=R6.wr (o:=.lst (ls++[.ref U])) B6.e6 rq6 cq6;t7:ai Z6 (upd Z6 (F 6) (.lst (ls++[.ref U]))):=ai.wl B6.e6;e37:=t7 _ _ e36;(by generalize upd Z6 (F 6) (.lst (ls++[.ref U]))=Z7 at B7 R7 e37);{_,O,_,O,aE rfl,λy8 Z8 g8 s8 f8=>?_};B8:=B7.same s8;R8:=R7.same s8;e38:=s8 _ _ e37;(by generalize hbb:decide (V.str wy=V.str "column")=bb);ixw:((if bb=true then 1 else 0:Int))<2:=(by cases bb <;> decide);{_,O,O,.inr {bb,do[hbb],y8,_,_,O,O,az.of f8,by cases bb <;> decide,ixw,λv hv=>?_}};np:Pn [.inr "bo",.inl (90+10 * (j:Int)+(k:Int))]:=.inr (zV (do 0));vc:v=.ref rq\/v=.ref cq:=(by simpa only[List.mem_cons,List.not_mem_nil,or_false] using hv);lu:=R8.lu;lv:=R8.lv;rfl||rfl:=vc;⟨.inl ⟨O,_,az.of R8.er⟩,_,O,rq,us,_,O,O,R8.er,cG (),?_⟩;M _ _ ⟨_,_,_,_,_,_,_,_,_,O,B8.own R8.er rq0 J rq6 rq7,R8.row rc (p:=[.inr "bo",.inl (90+10 * (j:Int)+(k:Int))]) ⟨q3,O,e38⟩ np,(),do[qi,qt,N]⟩;⟨.inl ⟨O,_,az.of R8.ec⟩,_,O,cq,vs,_,O,O,R8.ec,cG (),?_⟩;M _ _ ⟨_,_,_,_,_,_,_,_,_,O,B8.own R8.ec cq0 G cq6 cq7,(R8.turn.row rc.symm (p:=[.inr "bo",.inl (90+10 * (j:Int)+(k:Int))]) ⟨q3,O,e38⟩ np).turn,(),do[qi,qt,N]⟩;(σ,W,{L,l,ls,us,vs,u7,u8,u9,g,rfl,B,R,hl,N});R5:=R.le (show i3.toNat<=5 from ());{_,O,d,4,O,B.dw,⋯,⋯,λm Z3 s3 w3 x3' y3'=>?_};{m,O,(),(),cg (lo:=0) (n:=m.toNat) (λk σ Z=>wN λC c cs u7 g t x D=>ic (σ=[!(.ref d),!(.ref fa),!(.ref r),!(.ref kq),!vp,!(.ref rq),!(.ref cq),u7,u8,u9,g,t,x,D]) (UB H1 Z d F (90+10 * ((j+1:Nat):Int)) (100+10 * ((j+1:Nat):Int)) 0 (150+10 * (j:Int)+(k:Int) / 2) ((k:Int) % 2) L l C c ls cs) (RC Z rq cq us vs 5) (c<=4 * j+k/\cs.length=c)) {_,_,_,_,_,_,_,_,O,(B.draw n6 n7 s3 w3).up () (λa b h=>rF () h) (λa b h=>rF () h),R5.draw B.dw J G s3,(),S} ?_ ?_};(k,σ,W,hk,{C,c,cs,u7,g,t,x,D,rfl,B,R,hc,S},Nx,M);om (λb Z=>(b=true->us≠[]/\vs≠[])/\UB H1 Z d F (90+10 * ((j+1:Nat):Int)) (100+10 * ((j+1:Nat):Int)) 0 (150+10 * (j:Int)+(k:Int) / 2) ((k:Int) % 2) L l C c ls cs/\RC Z rq cq us vs 5) (λNb hNb=>?_) ?_;{ps,pl,pd,lay}:=JU R.ru;{_,O,aE rfl,λzq W1 g1 f f1=>{.list (ps.map tD),.list [],.lst (az.of (f _ _ R.er)) (pd.same f).dv,.lst (az.of f1) .nil,lay,O,qg (jh _ _) ⋯,_,O,?_}};B1:=B.same f;R1:=R.same f;(by cases us with|nil|cons w0 ws0=>?_);this:ps=[]:=yx.mp pl.symm;!this;bU rfl (hNb _ _ {(λz=>nomatch z),B1,R1});{p0,ps0,rfl}:∃p0 ps0,ps=p0::ps0:=(do(by cases ps with|nil|cons p0 ps0=>?_);-pl;{p0,ps0,O});cW rfl ?_;{qs,ql,qd,qlay}:=JU R1.cu;{_,O,aE rfl,λzq W2 g2 s2 f2=>{.list (qs.map tD),.list [],.lst (az.of (s2 _ _ R1.ec)) (qd.same s2).dv,.lst (az.of f2) .nil,qlay,O,qg (jh _ _) ⋯,_,O,?_}};hNb _ _ {λz=>{(λy=>nomatch y),λy=>?_},B1.same s2,R1.same s2};!y;this:qs=[]:=yx.mp ql.symm;!this;-z;(b,Z,{hb,B,R});(by cases b with|false|true=>?_);bU rfl (M _ _ {C,c,cs,_,_,_,_,_,O,B.up (Int.le_refl _) (λa b h=>h) (λa b h=>rF () h),R,(),S});cW rfl ?_;{u1,v1}:=hb rfl;u0:0<us.length:=m9.mpr u1;v0:0<vs.length:=m9.mpr v1;lu:=R.lu;lv:=R.lv;{_,O,_,O,_,O,rq,_,O,.inl (az.of R.er),d,_,O,B.dw,(),(),λi1 Z1 f w1 x1 y1=>{rq,us,i1,O,O,az.of (DP.to f R.er J),x1,y1,λva hva=>?_}};B1:=B.draw n6 n7 f w1;R1:=R.draw B.dw J G f;{pa,ga,na}:=R1.ru va hva;{_,O,_,O,_,O,cq,_,O,.inl (az.of R1.ec),d,_,O,B1.dw,(),(),λi2 Z2 s2 w2 x2 y2=>{cq,vs,i2,O,O,az.of (DP.to s2 R1.ec G),x2,y2,λvb hvb=>?_}};B2:=B1.draw n6 n7 s2 w2;R2:=R1.draw B1.dw J G s2;{pb,gb,nb}:=R2.cu vb hvb;{aE rfl,λy3 Z3 g3 s3 f3=>{_,O,d,3,O,(B2.same s3).dw,⋯,⋯,λi4 Z4 s4 w4 x4 y4=>{y3,_,i4,O,O,az.of (DP.to s4 f3 (B2.dw.ne g3)),x4,y4,λvw hvw=>?_}}};{wd,rfl,hwd}:∃wd,vw=.str wd/\Ml wd:=(do(by ac_nf at hvw);h||h||h:=hvw;⟨_,h,.inl rfl⟩;⟨_,h,.inr (.inl rfl)⟩;⟨_,h,.inr (.inr (.inl rfl))⟩);B4:=(B2.same s3).draw n6 n7 s4 w4;R4:=(R2.same s3).draw (B2.same s3).dw J G s4;t24:=s3.ab.trans ((B2.same s3).dw.ab s4);ek4:=B4.out (Y _ _ ek) kd' q6 q7;{p,ds,gp4,pn,dv,l_,la,lal,dep,ix1,ix2}:=(knz B4.ro).idx hxk;{_,O,.inl {O,_,az.of ek4},_,O,_,_,kq,ds,kn,j,O,O,dv,az.of ek4,l_,la,lal,dep,ix1,ix2,_,_,O,O,.inl {⋯,⋯},_,_,O,O,_,O,_,_,O,O,{⋯,⋯},_,_,O,O,_,O,_,_,O,O,(by decide:(0:Int)<2),aE rfl,λq5 Z5 g5 s5 e5=>?_};e5←[Int.zero_add];B5:=B4.same s5;{_,O,fa,.ref (F 7),O,.inl {cE F 9,.inr "cells",.inl (B5.out (Y _ _ dk) nfd nf6 nf7),O,(cX F 7 ⋯).symm},.inl {O,_,az.of B5.e7},_,O,_,O,_,O,_,O,_,O,aE rfl,λU Z6 g6 I e6'=>{F 7,cs,_,O,O,(B5.same I).e7,cG (),?_}};B6:=B5.same I;s46:=s5.trans I;t26:=t24.trans s46.ab;t16:=(B1.dw.ab s2).trans t26;M _ _ {_,_,_,_,_,_,_,_,O,B6.cell (A':=150+10 * (j:Int)+((k+1:Nat):Int) / 2) (B':=((k+1:Nat):Int) % 2) (r:={p,pa,pb,wd,150+10 * (j:Int)+(k:Int) / 2,(k:Int) % 2}) n7 n67 () {U,_,_,_,q5,O,e6',gp4.ab s46.ab,ga.ab t16,gb.ab t26,I _ _ e5} rfl rfl {pn.lay,na.lay,nb.lay} hwd (do@bV;()),(R4.same s46).wr B6.e7 rq7 cq7,(),do[qi,qt,S]};(σ,W,{C,c,cs,u7,g,t,x,D,rfl,B,R,hc,S});M _ _ {L,l,C,c,ls,cs,_,_,_,_,_,_,_,_,_,_,O,B.up (Int.le_refl _) (λa b h=>h) (λa b h=>rF () h),(),(),N,S};(σ,Z,{L,l,C,c,ls,cs,u4,u5,u6,u7,u8,u9,g,t,x,D,rfl,B,hl,hc,N,S});kk Z L l C c ls cs (λb o e n=>B.ro b o (Y _ _ e) n) B.e6 B.al B.wl B.e7 B.ac B.wc
def Ba(T:Txt K mg tk)(F:FO K mg "_law_leaves" ox)(c:fO P w K mg base):yl P w K mg base:=do aM F tM (vY λ_ _ _ _=>rfl) {} λfa I A outer s H vs Q E i h=>?_;U:(A.deeper (envOfC "_law_leaves" (ag ox) ↑s fa I)).units+1<cLine:=cR i;{_,(aD (fo (lh (do 2) T.dA (a1 (cl c i (a2 (vv 0) aA)))) (gn tM.nd 4) (aj (sn tM.nd 5 (xa (vv 3) (cl c i (a2 (vv 0) (cb c6 T.bQ boot_len (a1 (vv 3))))))) (aj (sn tM.nd 6 (xa (vv 2) (cl c i (a2 (vv 0) (cb c6 T.bQ boot_len (a1 (vv 2))))))) (aj (sn tM.nd 7 (xa (bK (ac aO (ac aO (ac aO (a2 aO aO))))) (cl c i (a2 (vv 0) aA)))) (aD (ap (cU U (vv 1) aO (λ_ _=>rfl)) (a1 (a0 (ac (vv 5) (ac (vv 6) (ac (vv 7) (a2 (ce eB (cl c i (a2 (vv 0) aA)) aA) (a0 (a2 (aG c8 aA (aG jY (vv 4) aA)) (aG eP (vv 4) aA)))))))))))))))),?_};{d,fa,r,kq,F,kn,rfl,S,dk,D,er,ek,k0,k1,np,J,n2,f,n4,n5,kk}:=h;nd:fa≠d:=λz=>(do _;{_,_,e}:=S;e←[←z,dk];-e);n8:fa≠F 8:=λz=>(do D←[←z,dk];-D);hX:∀b,(b=d\/b=F 8)->∃xs,H b=!(.lst xs):=λb hb=>(do rfl||rfl:=hb;{_,_,e}:=S;{_,e};{_,D});{_,O,d,7,O,S,⋯,⋯,λm H1 t G m0 m1=>?_};L1:LV H H1 d (F 8) []:={Rest.refl.del (.inl rfl) t,G,DP.to t D f,λy z=>nomatch z};{_,O,(),(),cg (lo:=0) (n:=m.toNat) (λj σ Z=>F4 λys u4 u5 M=>∃R,PK (σ=[!(.ref d),!(.ref fa),!(.ref r),!(.ref kq),u4,u5,M,R]) (LV H Z d (F 8) ys) (ys.length=j)) {[],_,_,_,_,O,L1,O} ?_ ?_};(j,σ,Z,hj,{ys,u4,u5,M,R,rfl,L,hl},Nx,X);out:∀{b:Sx} {o:HO} {W:Hp} {zs:List V},LV H W d (F 8) zs->b≠d->b≠F 8->H b=!o->W b=!o:=λL a1 a2 e=>L.rs _ _ e λz=>z.elim a1 a2;{_,O,_,O,_,O,kq,_,O,.inl (az.of (out L n2 n5 ek)),d,_,O,L.dw,(),(),λi1 Z1 t G a1 b1=>{kq,kn,i1,O,O,az.of (DP.to t (out L n2 n5 ek) n2),a1,b1,λvp hvp=>?_}};C:=L.draw f t G;{_,O,_,O,_,O,r,_,O,.inl (az.of (out C J n4 er)),d,_,O,C.dw,by show(0:Int)<2;decide,by show(2:Int)<1000;decide,λi2 Z2 s2 d2 a2 b2=>{r,_,i2,O,O,az.of (DP.to s2 (out C J n4 er) J),a2,b2,λvh v=>?_}};L3:=C.draw f s2 d2;{aE rfl,λtl H4 g4 s4 e4=>?_};L4:=L3.same s4;nt:tl≠d:=L3.dw.ne g4;{_,O,d,5,O,L4.dw,⋯,⋯,λi3 Z3 s3 d3 a3 b3=>{tl,_,i3,O,O,az.of (DP.to s3 e4 nt),a3,b3,λvt k=>?_}};x:=L4.draw f s3 d3;{hd,rfl,hdo}:∃z,vh=.str z/\PyData.strOk z=true:=(by ac_nf at v;rcases v with h|h <;> exact{_,h,∅});{tt,rfl,Y}:∃z,vt=.str z/\PyData.strOk z=true:=(by ac_nf at k;rcases k with h|h|h|h|h <;> exact{_,h,∅});{_,O,fa,.ref (F 8),O,.inl {cE F 9,.inr "leaves",.inl (out x nd n8 dk),O,(cX F 8 ⋯).symm},.inl {O,_,az.of x.ey},_,O,_,O,_,O,_,O,d,3,O,x.dw,⋯,⋯,λi4 Z4 s5 d5 a4 b4=>?_};L6:=x.draw f s5 d5;{_,_,O,O,_,O,_,_,O,O,{⋯,⋯},_,_,O,O,_,O,_,_,O,O,(by show(0:Int)<2;decide),aE rfl,λcq Z5 g5 s6 e5=>{aE rfl,λN Z6 g6 s7 e6=>?_}};g:=(L6.same s6).same s7;{F 8,ys,_,O,O,g.ey,cG (),?_};B:ai Z6 (upd Z6 (F 8) (.lst (ys++[.ref N]))):=ai.wl g.ey;X _ _ {ys++[.ref N],_,_,_,_,O,{g.rs.wr (.inr rfl),?_,aB,λy q=>?_},do[qi,hl];2};{a,b,e}:=g.dw;{a,b,do[ak f.symm];e};q||q:=zh.mp q;(g.lr y q).ab B;[qx.mp q];{p,gp,hp}:=(np vp hvp).ab (g.rs.ab hX);{(_,_),N,vp,p,hd,tt,_,cq,O,B _ _ e6,gp.ab B,hp,B _ _ (s7 _ _ e5),hdo,Y};(σ,Z,{ys,u4,u5,M,R,rfl,L,hl});kk Z ys L.rs L.ey L.lr ()
def As(T:Txt K mg tk)(F:FO K mg "told_leaves" sR)(a:Al P w K mg base):Aq P w K mg base:=do aM F Bv (uY λ_ _ _=>rfl) (λ_ _ _ _ h=>Mx h) λfa c A outer s H vs Q E b h=>?_;{_,(aj (sn Bv.nd 3 jH) (aj (fo (il (K5 a b T.cV boot_sorted (a1 (vv 0)))) (gn Bv.nd 4) (aD (br (PW.pt (jO (ck c9 (xt (vv 4)) (vv 1)) (jP (ck c9 (xt (vv 4)) (vv 2))))) (aD (j1 (cN b) (vv 3) (xt (vv 4)) (xt (vv 4)) rfl)) cc))) (aD (aN (vv 3))))),?_};h.2.elim
def Eh(T:Txt K mg tk)(F:FO K mg "followers_of" sf)(G:xZ P w K mg base):Am P w K mg base:=do aM F EC (ll λ_=>rfl) {} λfa cdv A outer s H vs Q E hr h=>?_;{_,(aj (sn EC.nd 1 jH) (aj (fo (il (K5 G hr T.cV boot_sorted (a1 (vv 0)))) (gn EC.nd 2) (aD (ap (bm PySem.F.plainAttrs_dict PySem.F.slot_dict_setdefault PySem.F.type_dict_setdefault (IR (cN hr)) (vv 1) (a2 (xt (vv 2)) (bK cS))) (a1 (xt (vv 2)))))) (aD (aN (vv 1))))),?_};{p,ys,nk,bh,D,ms,js,t,rfl,hp,L,Y,W,kk}:=h;!Y;n:ms.Perm ms:=.refl _;(dq,H1,g1,M,e1);hyl:ys.length=ms.length:=(do[L.1,n.length_eq]);cJ:=W.cJ;{_,O,p,ys,ms.map D,t,O,hp.same M,do[qj,L.1],W.keys,{(),.inr (wb.mpr W.up)},λm y d H' Q' q1 q2 s q=>?_,λq H2 ix g2 s2 B e2=>?_};{k,N,X}:=L.at q1;q2←[qu,N];-qJ q2;{y,nk,bh,D,k,O,X.ab (M.trans s).ab,λkv hk=>q H' _ (af.refl _) hk.dv};hix:∀i∈ix,i<ys.length:=λi hi=>(do this:=(B.1.mem_iff).mp hi;this←[qo,qj];[L.1];this);a2:=L.ix ix hix;a2←[wH n W.up B];(by generalize ix.map (λi=>ys.getD i .aQ)=zs at e2 a2);R:zs.length=ms.length:=a2.1;s02:=M.trans s2;fq:H q=none:=M.free g2;{q,O,{_,az.of e2},bD (xs:=zs) (λj σ o=>vA λkvs V=>mT (σ=[!(.ref p),!(.ref dq),V]) (af H o) (o q=!(.lst zs)) (FD nk bh ms (ms.take j) H o dq kvs) (kvs.length<=j) (∀k,vG kvs k≠some (.ref q))) {[],none,O,s02,e2,{s2 _ _ e1,g1,λk _=>.inl {O,O},λk k' q z=>(do-z),λk q z=>(do-z)},qe _,λk z=>(do-z)} (λj σ o _ ⟨_,_,_,_,e,_,_,_⟩=>az.of e) ?_ ?_};(j,x,σ,o,hx,{kvs,V,rfl,C,eq,fd,v,nq},Nx,I);{m,em,X}:=a2.at hx;Z:m∈ms:=qw em;hj:j<ms.length:=(qk.mp em).1;J:ms.take (j+1)=ms.take j++[m]:=(do[qz,em];2);U:∀i,bh m=!i->i∈ms:=λi e=>Rga.Gm W.wf Z e;{b,vn,vb,vk,rfl,eb,hn,hbk,hd}:=X.ab C.ab;{_,O,.inr (.inr (.inl {O,.inr (.inr {kvs,fd.has})})),_,O,b,_,1,_,O,O,aV.of eb,O,aE rfl,λg H4 f c e4=>?_};a:=fd.same c;t4:=C.trans c;f0:H g=none:=C.free f;{dq,kvs,kd nk (bh m),vb,.ref g,O,O,a.has,hbk.ab c.ab,jL (),λu r=>?_,λr=>?_};{h1,_}||{q',vs,h1,h2,h3,h4}:=a.each (bh m) U;r←[h1];-r;r←[h1];-r;vl:vs.length<=2000:=(do[h3.1];@kids;qg (we _ _) (do[wv];()));{.inl {O,_,az.of h2},_,O,b,_,0,_,O,O,aV.of (c _ _ eb),O,q',_,_,O,O,h2,jL (),?_};I _ _ {kvs,_,O,t4.wr h4,?_,?_,(),nq};[ak (λz=>nq _ (do[z];h1))];c _ _ eq;[J];a.old W.inj U h1 h2 (hn.ab c.ab);nz:g≠dq:=λz=>(do f←[z,fd.has];-f);{.inl {O,_,az.of (do[ak nz];e4)},_,O,b,_,0,_,O,O,aV.of (ai.wd a.has _ _ (c _ _ eb)),O,g,_,_,O,O,(do[ak nz];e4),jL (do¬0<=_;()),?_};S:∀k,vG kvs k≠some (.ref g):=λk z=>(do _;{xs,y}:=fd.live k g z;f←[y];-f);I _ _ {pG kvs (kd nk (bh m)) vb (.ref g),_,O,(t4.wr g1).wr f0,?_,?_,qg (iN kvs _ _ _) (j3 v),λk z=>?_};n1:q≠g:=λz=>(do f←[←z,eq];-f);n2:q≠dq:=λz=>(do eq←[z,fd.has];-eq);[ak n1,ak n2];c _ _ eq;[J];a.first W.inj U r f0 e4 S (hn.ab c.ab);z←[eL];N<|k=kd nk (bh m);z←[qF N];-z;f←[eq];-f;z←[qB N];nq k z;(σ,o,{kvs,V,rfl,C,eq,fd,v,nq});fd←[R,ze];{_,O,kk o dq kvs C fd}
def EH(T:Txt K mg tk)(F:FO K mg "telling_in_row" lg)(gfAu:zY P w K mg base)(gfBr:oF P w K mg base)(gfBz:tj P w K mg base):zH P w K mg base:=do aM F pY (uY λ_ _ _=>rfl) {} λfa cdv A outer s H vs Q E hr h=>?_;hu1:(A.deeper (envOfC "telling_in_row" (ag lg) ↑s fa cdv)).units+1<cLine:=cR hr;{_,(aj (sn pY.nd 3 (cl gfBr hr (a1 (vv 2)))) (aj (sn pY.nd 4 HH) (aj (fo (il (K5 gfAu hr T.cV boot_sorted (a1 (sj (ag lg) yZ [("part",1)] (il (cU hu1 (vv 0) aO (λ_ _=>rfl))) (λ_ _ _=>(fN (ck (FT hr) (xt (vv 0)) (vc 1)))) (λ_ _ _=>(vv 0)))))) (gn pY.nd 5) (aj (sn pY.nd 6 (bm PySem.F.plainAttrs_dict PySem.F.slot_dict_setdefault PySem.F.type_dict_setdefault NF (vv 4) (a2 (xt (vv 5)) (aG JD (bK (a1 dE)) (cb c6 T.bQ boot_len (a1 (vv 2))))))) (aj (sn pY.nd 7 (cl gfBz hr (ac (vv 3) (a2 (xt (vv 5)) (xt (vv 5)))))) (aD (M7 (vv 6) (fT (xt (vv 7))) (fT (xt (vv 7))) (aG JD (bK (a1 (vv 5))) (aG Bs (xt (vv 7)) (xt (vv 7)))) rfl))))) (aD (aN (vv 4)))))),?_};{fa,F,S,n,M,m,N,q,xs,ms,ns,vp,pt,rp,rv,rfl,fs,gvp,hlay,erp,ar,kk}:=h;W:=fs.ws;WM:=fs.wm;inj:Inj (cn S) (aF S n pt):=λi hi j hj=>W.inj i (l8 W hi) j (l8 W hj);G:∀{d:Sd},d7 S n pt d->pe (aF S n pt) d:=λo i b z=>(lX W).mpr (o i b z);hml:ms.length=m:=(do[fs.ma.1,zo]);fewm:=WM.cJ;hrl:rv.length<=1400:=(do[ar.1];qg (iJ W) W.cJ);{_,O,rp,rv,cn S,aF S n pt,O,erp,ar,kM W,inj,qg (iJ W) W.cJ,λH2 dq kvs s2 g2 e2 hse=>?_};(p,H4,g4,B,e4);R:=s2.trans B;f4:=fs.same R;erp4:=R _ _ erp;edq4:=B _ _ e2;gtq:H p=none:=s2.free g4;{_,O,fa,.ref (F 4),O,.inl {cE F 9,.inr "marks",f4.dk,O,(cX F 4 ⋯).symm},F 4,O,{_,az.of f4.ml},c7 (xs:=ms) (cL ()) (λj ys H'=>H'=H4/\AN (λv i=>MN S M H4 v i/\v=ms.getD i .aQ) ys (((List.range m).take j).filter λi=>decide ((M i).pt=pt))) {O,.nil} (λ_ _ H' s'=>do[s'.1];az.of f4.ml) (λj x ys H' K1 K0 hx s' k1 k0=>?_) λH5 lp ys s' hy hq=>?_};{rfl,ay}:=s';{i,ei,nn}:=f4.ma.at hx;hin:i<m:=qo.mp (qw ei);hj:j<m:=(do[←hml];(qk.mp hx).1);eij:i=j:=(do ei←[yq hj];(qJ ei).symm);nn':MN S M H' x i/\x=ms.getD i .aQ:={nn,do[eij,zm,hx];2};{b,vq,vb,ve,vn,kq,rfl,h1,h2,h3,h4,h5,h6}:=nn;tk:(List.range m).take (j+1)=(List.range m).take j++[i]:=(do[qz,ei];2);{_,O,b,_,0,_,O,O,aV.of h1,O,_,O,tD (M i).pt,tD pt,(aK h2).dv,(aK (gvp.ab R.ab)).dv,(WM.lay i hin).1,hlay,qg (yb _ _) (qg (eh _) ⋯),_,O,?_};eqp:(if false=true then not (PyData.eqv (tD (M i).pt) (tD pt)) else PyData.eqv (tD (M i).pt) (tD pt))=decide ((M i).pt=pt):=hP _ _;hp<|(M i).pt=pt;cW (do[eqp];qI hp) {_,O,k1 _ _ {O,?_}};[tk];AN.pick (vs:=ms) ay nn' (qI hp);bU (do[eqp];decide_eq_false hp) (k0 _ {O,?_});[tk];ay.skip (do 0<|hp);{rfl,ay}:=s';ay←[hml,yr (do[zo];qe _)];ay:AN (λv i=>MN S M H5 v i/\v=ms.getD i .aQ) ys (aH M m pt):=ay;n5:af H5 (upd H5 lp (.lst ys)):=af.new hq;e5:(upd H5 lp (.lst ys)) lp=!(.lst ys):=aB;C:AN (λv i=>MN S M (upd H5 lp (.lst ys)) v i/\v=ms.getD i .aQ) ys (aH M m pt):=ay.imp λv i g=>{MN.ab g.1 n5.ab,g.2};(by generalize upd H5 lp (.lst ys)=H6 at n5 e5 C);hin:∀i∈aH M m pt,i<m/\(M i).pt=pt:=λi hi=>{qo.mp (zk.mp hi).1,qO (zk.mp hi).2};mup:(aH M m pt).Pairwise λa b=>bT (.tuple [.int (M a).ka,.int (M a).kb]) (.tuple [.int (M b).ka,.int (M b).kb])=true:=((uv m).imp_of_mem λ{a b} ha hb h=>iZ (WM.up a b h (qo.mp hb))).filter _;keys:KeysAre ((aH M m pt).map λi=>.tuple [.int (M i).ka,.int (M i).kb]) 2:=tG λd hd=>(do _;{i,_,rfl}:=qf.mp hd;.inl {_,_,O});hyl:ys.length<=70:=(do hy←[hml];());{lp,ys,(aH M m pt).map λi=>.tuple [.int (M i).ka,.int (M i).kb],2,O,az.of e5,do[qj,C.1],keys,{(),.inr (wb.mpr mup)},λmm y d H' Q' q1 q2 s q=>?_,λsq H7 ix g7 s7 six e7=>?_};{k,ek,nn}:=C.at q1;q2←[qu,ek];-qJ q2;{y,S,M,k,O,nn.1.ab s.ab,λkv D=>q H' _ (af.refl _) D.dv};hix:∀i∈ix,i<ys.length:=λi hi=>(do this:=(six.1.mem_iff).mp hi;this←[qo,qj];[C.1];this);a2:=C.ix ix hix;a2←[wH (.refl _) mup six];(by generalize ix.map (λi=>ys.getD i .aQ)=zs at e7 a2);hzl:zs.length<=70:=(do[a2.1,←C.1];hyl);a7:AN (λv i=>MN S M H7 v i/\v=ms.getD i .aQ) zs (aH M m pt):=a2.imp λv i g=>{MN.ab g.1 s7.ab,g.2};s47:=n5.trans s7;s07:=R.trans s47;etq7:=s47 _ _ e4;nsq:sq≠p:=(aZ (n5 _ _ e4) g7).symm;ndq:dq≠p:=aZ e2 g4;nrp:rp≠p:=aZ (s2 _ _ erp) g4;edq7:=s47 _ _ edq4;erp7:=s47 _ _ erp4;g7H:∀{a:Sx},H7 a=none->H a=none:=λh=>s07.free h;{sq,O,{_,az.of e7},bD (xs:=zs) (λj σ Z=>F4 λ(tv:List (Key×V)) (u5:Option V) (u6:Option V) (u7:Option V)=>ic (σ=[!(.ref fa),!vp,!(.ref rp),!(.ref dq),!(.ref p),u5,u6,u7]) (af (del H7 p) Z) (Z p=!(.dK tv)) (TK M (aF S n pt) ((aH M m pt).take j) ms (λa=>H7 a=none/\a≠p) Z tv)) {[],none,none,none,O,lJ,etq7,{O,(λkd D=>nomatch D),λkd D=>nomatch D}} (λj σ Z _ ⟨_,_,_,_,_,r,_,_⟩=>az.of (DP.to r e7 nsq)) ?_ ?_};(j,x,σ,Z,hx,{tv,u5,u6,u7,rfl,sZ,eZ,tk},Nx,hNx);{i,ei,nn,hxm}:=a7.at hx;{hi,hpt}:=hin i (qw ei);tZ:ai H7 Z:=λa ys e=>DP.to sZ e (λz=>do e←[z,etq7];-e);{b,vq,vb,ve,vn,kq,rfl,h1,h2,h3,h4,h5,h6}:=MN.ab nn tZ;hsb:d7 S n pt (M i).b:=(do[←hpt];(WM.sd i hi).1);L:d7 S n pt (M i).e:=(do[←hpt];(WM.sd i hi).2);tk':(aH M m pt).take (j+1)=(aH M m pt).take j++[i]:=(do[qz,ei];2);hls1:=Ie (G hsb);hls2:=Ie (G L);hrv:rv.length=(aF S n pt).length:=ar.1;hj:j<70:=(do this:=(qk.mp hx).1;());htv:tv.length<=70:=(do e:=congrArg List.length tk.keys;e←[qj,qj];[e];qg (xK _ []) ?_;[wv];¬0+_<=_;());erpZ:=DP.to sZ erp7 nrp;edqZ:=DP.to sZ edq7 ndq;{_,O,.inr (.inr (.inl {O,.inl {tv,eZ}})),_,O,b,_,3,_,O,O,aV.of h1,O,aE rfl,λl1 Z1 g1 s1 e1=>{_,O,rp,rv,O,.inl (az.of (s1 _ _ erpZ)),l1,(rv.length:Int),_,O,O,e1,(),(),cL (do[Int.toNat_natCast];¬1 * rv.length<=2000;()),λI Z2 g2 s2 e2=>?_}};f:=s1.trans s2;eZ2:=f _ _ eZ;tk2:=tk.same f;X:Z I=none:=s1.free g2;{p,tv,.inr (M i).kd,.ref I,O,O,eZ2,cG (),λu hu=>?_,λhn=>?_};D:(M i).kd∈kinds M ((aH M m pt).take j):=Classical.byContradiction λz=>(do this:=tk.no.mpr z;hu←[this];-hu);{a,ha,{fa1,fa2},hva}:=tk2.val _ D;hu←[ha];-hu;{_,O,_,O,b,_,1,_,O,O,aV.of (f _ _ h1),O,_,O,b,_,2,_,O,O,aV.of (f _ _ h1),O,dq,kvs,S,aF S n pt,vb,ve,(M i).b,(M i).e,O,(f _ _ edqZ),hse,h3.ab f.ab,G hsb,h4.ab f.ab,G L,λZ3 Y s3 e3=>?_};{_,O,aE rfl,λl4 Z4 g4 B e4=>{_,O,Y,_,1,_,O,O,aV.of (B _ _ e3),O,_,O,Y,_,0,_,O,O,aV.of (B _ _ e3),O,_,_,O,O,l4,_,_,O,O,e4,(),(),cL (do¬1 * _<=2000;()),λc5 Z5 g5 s5 e5=>?_}};t:=(s3.trans B).trans s5;J:=s5 _ _ (B _ _ e3);e5←[xr,show((max (bH (aF S n pt) (M i).b) (bH (aF S n pt) (M i).e):Nat) - (bH (aF S n pt) (M i).b:Nat):Int).toNat=max (bH (aF S n pt) (M i).b) (bH (aF S n pt) (M i).e) - bH (aF S n pt) (M i).b from ()];ea5:=t _ _ hva;nac:a≠c5:=aZ ((s3.trans B) _ _ hva) g5;{_,O,_,O,Y,_,0,_,O,O,aV.of J,O,_,O,_,O,Y,_,1,_,O,O,aV.of J,O,_,O,a,c5,_,_,bH (aF S n pt) (M i).b,max (bH (aF S n pt) (M i).b) (bH (aF S n pt) (M i).e),O,O,nac,ea5,az.of e5,O,O,(),do[pA];(),(do[pA,j6,sizeLine_eq];()),?_};[show V.ref b=ms.getD i .aQ from hxm,LM rfl rfl () ()];hNx _ _ {tv,_,_,_,O,(af.trans sZ (f.trans t)).wr (do[bR fa2];fa1),do[ak fa2.symm];t _ _ eZ2,?_};[tk'];(tk2.same t).old D ha rfl;D:=tk.no.mp hn;U:I≠p:=(aZ eZ X).symm;e2←[Int.toNat_natCast,hrv,xr,←NL (ms:=ms) D];r2:∀c o,c≠p->Z2 c=!o->(upd Z2 p (.dK (putK tv (.inr (M i).kd) (.ref I)))) c=!o:=λc o h e=>(do[ak h];e);tx:ai Z (upd Z2 p (.dK (putK tv (.inr (M i).kd) (.ref I)))):=λc ys e=>r2 c _ (λz=>do e←[z,eZ];-e) (f _ _ e);sn:af (del H7 p) (upd Z2 p (.dK (putK tv (.inr (M i).kd) (.ref I)))):=(af.trans sZ f).wr d9;en:(upd Z2 p (.dK (putK tv (.inr (M i).kd) (.ref I)))) p=!(.dK (putK tv (.inr (M i).kd) (.ref I))):=aB;e2n:=r2 _ _ U e2;edqn:=r2 _ _ ndq (f _ _ edqZ);h1n:=tx _ _ h1;(by generalize upd Z2 p (.dK (putK tv (.inr (M i).kd) (.ref I)))=Zn at r2 tx sn en e2n edqn h1n);{_,O,_,O,b,_,1,_,O,O,aV.of h1n,O,_,O,b,_,2,_,O,O,aV.of h1n,O,dq,kvs,S,aF S n pt,vb,ve,(M i).b,(M i).e,O,edqn,hse,h3.ab tx,G hsb,h4.ab tx,G L,λZ3 Y s3 e3=>?_};{_,O,aE rfl,λl4 Z4 g4 B e4=>{_,O,Y,_,1,_,O,O,aV.of (B _ _ e3),O,_,O,Y,_,0,_,O,O,aV.of (B _ _ e3),O,_,_,O,O,l4,_,_,O,O,e4,(),(),cL (do¬1 * _<=2000;()),λc5 Z5 g5 s5 e5=>?_}};t:=(s3.trans B).trans s5;J:=s5 _ _ (B _ _ e3);e5←[xr,show((max (bH (aF S n pt) (M i).b) (bH (aF S n pt) (M i).e):Nat) - (bH (aF S n pt) (M i).b:Nat):Int).toNat=max (bH (aF S n pt) (M i).b) (bH (aF S n pt) (M i).e) - bH (aF S n pt) (M i).b from ()];ea5:=t _ _ e2n;nac:I≠c5:=aZ ((s3.trans B) _ _ e2n) g5;{_,O,_,O,Y,_,0,_,O,O,aV.of J,O,_,O,_,O,Y,_,1,_,O,O,aV.of J,O,_,O,I,c5,_,_,bH (aF S n pt) (M i).b,max (bH (aF S n pt) (M i).b) (bH (aF S n pt) (M i).e),O,O,nac,ea5,az.of e5,O,O,(),do[pA];(),(do[pA,j6,sizeLine_eq];()),?_};[show V.ref b=ms.getD i .aQ from hxm,LM rfl rfl () ()];hNx _ _ {putK tv (.inr (M i).kd) (.ref I),_,_,_,O,(af.trans sn t).wr (sZ.free X),do[ak U.symm];t _ _ en,?_};[tk'];nev:∀kd c,bN tv (.inr kd)=!(.ref c)->c≠I:=λkd c e z=>(do hkd:kd∈kinds M ((aH M m pt).take j):=Classical.byContradiction λy=>(do e←[tk.no.mpr y];-e);{c',q1,_,q3}:=tk.val kd hkd;q1←[e];-q1;q3←[z,X];-q3);TK.new {tk.keys,λkd hkd=>?_,tk.ne} D {?_,U} nev rfl aB;{c,q1,q2,q3}:=tk2.val kd hkd;{c,q1,q2,do[ak (nev kd c q1)];t _ _ (r2 _ _ q2.2 q3)};this:=sZ.free X;this←[bR U];this;(σ,Z,{tv,u5,u6,u7,rfl,sZ,eZ,tk});tk←[show zs.length=(aH M m pt).length from a2.1,ze];{_,O,kk Z p tv (λb o e=>DP.to sZ (s07 _ _ e) (aZ e gtq)) gtq eZ {tk.keys,λkd D=>let⟨a,h1,h2,h3⟩:=tk.val kd D;{a,h1,{g7H h2.1,h2.2},h3},tk.ne}}
def DF(T:Txt K mg tk)(F:Me K mg "greatest_place" ux bA)(hB:base.BuiltinsAt mg bA):yO P w K mg base:=do Kr F CQ (ip λ_ _=>rfl) {} λfa cdv A outer s H vs Q E hC N h=>?_;{_,(aD (aN (Ou (k:=0) (y:="one") (z:="telling") (i:=0) rfl hC hB (N.mono ⋯) (do 2) T.Ah boot_max {O,O,O,∅,O,O,∅} rfl rfl (λ_ h=>fM h) rfl rfl (λ_ _ _ _ _=>rfl) (λ_ _ _ _ _ _ _ N=>(xt (dD (cN N) (vf 1) (vv 0) (λ_ _=>rfl)))) (a1 (vv 1))))),?_};{W,Z,kt,xs,ws,ls,rfl,L,V,G,C,g,M,R,tb,kk}:=h;nla:Z≠gH:=λz=>(do _;{ps,t}:=tb.cf;t←[←z,C];-t);{_,O,tb,λH2 t2 sd=>?_};s2:af (del H gH) H2:=λb o e=>lJ _ _ (sd _ _ e);p:=My.i8 tb s2 C λps z=>nomatch z;tt:=yX tb s2;f:=V.imp λe x q=>q.imp (R':=fB H2) tt λr=>r.ab tt;D:=RW tb s2 L λps z=>nomatch z;d:=g.imp λv k q=>iH.ab q tt;S:ws.length=ls.length:=g.1;hl0:0<ls.length:=m9.mpr M;{Z,ws,.ref W,λm=>match fX xs (ls.getD m []) with|some x=>[x.ka,x.kb]|none=>[],O,az.of p,(),O,λm y H' Q' U s' k=>?_,λm y Hn U n sn=>?_};{I,a,J}:=d.at U;c:=qw a;{x,X,ex}:=qf.mp (gE.mp (R I c));B:=f.imp λe x q=>q.imp (R':=fB H') s'.ab λr=>r.ab s'.ab;{v,hv,b,vp,vo,vn,kq,rfl,h1,h2,h3,h4,h5}:=pj B G X;eD:ls.getD m []=x.pt:=(do[zm,a];ex.symm);J←[←ex];{_,O,_,O,W,kt,.tup x.pt,.ref b,O,Rd.same D s',GK.ab J s'.ab,hv,b,_,3,.ref kq,O,O,aV.of h1,O,k H' _ (af.refl _) ?_};¬DV H' (.ref kq) (.tuple ((match fX xs (ls.getD m []) with|some x=>[x.ka,x.kb]|none=>[]).map PyData.int));[eD,lM G X];.tup (aV.of h5) (.cons (.int _) (.cons (.int _) .nil));{I,a,J}:=d.at U;c:=qw a;kk Hn y I (s2.trans sn) (t2.same sn) c (λb hb=>?_) (iH.ab J sn.ab);({x,z,h1,h2,h3});{j,Y,ej}:=z8.mp hb;this:=n j (do[S];Y);e1:ls.getD m []=I:=(do[zm,a];2);e2:ls.getD j []=b:=(do[zm,qh Y,ej];2);this←#[_,e1,e2,h1,h2];this←[show bT (.tuple ([x.ka,x.kb].map PyData.int)) (.tuple ([z.ka,z.kb].map PyData.int))=true from iZ h3];-this
def AO(T:Txt K mg tk)(F:FO K mg "shown_among" kJ)(gfAk:tE P w K mg base):Ai P w K mg base:=do aM F xU (ip λ_ _=>rfl) {} λfa cdv A outer s H vs Q E J h=>?_;hu1:(A.deeper (envOfC "shown_among" (ag kJ) ↑s fa cdv)).units+1<cLine:=cR J;{_,(aj (sm xU.nd 2 (cy (gJ J.hd (qS J)) T.cZ boot_dict (a1 (z_ (il (cU hu1 (vv 0) aO (λ_ _=>rfl))) (λ_ _ _=>dJ) (λ_ _ _=>(a0 (a2 (xt (vv 0)) bW))))))) (aj (sn xU.nd 3 (cy (gJ J.hd (qS J)) T.cZ boot_dict (a1 (iz (own:=["part","outer"]) (fr:=[("cut",2)]) rfl (rr (vv 1)) {O,∅,∅} (jX (ag kJ) ["facts","stands","cut","left","reaching"] rfl rfl (λ_ h=>fM h) ∅ ∅ ∅) (λ_ _ _=>(jT (n:=2) rfl (df (cO (i:=0) (do¬List.Nodup (["part","outer","cut"]:List Sy);by decide +kernel) rfl (Or.inl rfl)) (df (cO (i:=1) (do¬List.Nodup (["part","outer","cut"]:List Sy);by decide +kernel) rfl (Or.inl rfl)) ik)))) (λ_=>pP rfl rfl ⋯) (λ_ _ _=>(fN (ck (xO (cN J)) (vv 0) (vc 2)))) (λ_ _ _=>(a0 (a2 (vv 0) (vv 1)))))))) (aj (sn xU.nd 4 (cl gfAk J (a1 (vv 3)))) (aD (aN (cy (gJ J.hd (qS J)) T.cZ boot_dict (a1 (iz (own:=["part","comes"]) (fr:=[]) rfl (rr (vv 4)) {O,∅,∅} (i0 ∅) (λ_ _ _=>(jT (n:=2) rfl (df (cO (i:=0) (do¬List.Nodup (["part","comes"]:List Sy);by decide +kernel) rfl (Or.inl rfl)) (df (cO (i:=1) (do¬List.Nodup (["part","comes"]:List Sy);by decide +kernel) rfl (Or.inl rfl)) ik)))) (λ_=>pP rfl rfl ⋯) (λ_ _ _=>(fN (dB (vv 1)))) (λ_ _ _=>(a0 (a2 (vv 0) bW))))))))))),?_};{fa,F,bs,es,cs,rs,cu,k,da,kd,zs,rfl,fb,hk,hda,akd,W,ma,kk}:=h;hcl:=fb.fi.cl;hfew:=W.cJ;L:=W.Q0 (lfp cu);{_,O,fa,.ref (F 2),O,.inl {cE F 9,.inr "cuts",fb.dk,O,(cX F 2 ⋯).symm},F 2,O,{_,az.of fb.ec},c7 (xs:=cs) (kK ()) (λj us X=>af H X/\∃es:List (KD×V×V),cx X us es/\AL (λe k=>e.1=nd k) es (cu.take j)) {af.refl _,[],trivial,.nil} (λ_ _ X s=>az.of (s.1 _ _ fb.ec)) (λj x us X K1 K0 hx s' k1 k0=>?_) λX np us s' hu hq=>?_};{t,d,v,m}:=s';{c,hc,p}:=fb.fi.ct.at hx;{b,vp,vn,y,rfl,h1,h2,h3,h4,h5}:=p.ab t.ab;dI (B:=K0 X) ?_;{_,O,b,_,0,vp,O,O,aV.of h1,O,aE rfl,λtq X4 g4 s4 e4=>k1 _ _ {t.trans s4,d++[(nd c,vp,.bl true)],cx.snoc (e:=(nd c,vp,.bl true)) {tq,O,e4,h9 h3.ne (h2.ab s4.ab)} (v.ab s4.ab),?_}};[qz,hc];m.snoc rfl;{t,d,v,m}:=s';m←[fb.fi.ct.1,ze];C:af X (upd X np (.lst us)):=af.new hq;{np,us,d,O,az.of aB,v.ab C.ab,(),λca X2 g2 s2 e2=>?_};smC:fy (putAll [] d) (λk=>k∈cu):=λa=>(IY m fy.nil a).trans {λz=>z.resolve_left id,.inr};(by generalize putAll [] d=kc at e2 smC);I:=(t.trans C).trans s2;fca:H ca=none:=(t.trans C).free g2;(by clear v m hq hu C s2 g2 t);nca:ca≠da:=λz=>(by rw[z]at fca;rcases hda with q|⟨o',q⟩ <;> rw[fca]at q <;> cases q);hda2:=Rd.same hda I;{_,O,da,kd,O,su hda2 λo Y hY fY eY=>?_};tY:ai X2 Y:=λb us e=>hY b _ (λz=>do !z;by rcases hda2 with q|⟨o',q⟩ <;> rw[q]at e <;> cases e) e;tHY:=I.ab.trans tY;ecY:=hY ca _ nca e2;aY:=akd.imp λe x q=>q.imp (R':=gT Y) tHY λr=>r.ab tHY;vP (kK (do[aY.1];())) (λj us X=>af Y X/\∃es:List (KD×V×V),cx X us es/\AL (EK (gT X) X) es ((zs.take j).filter (lfp cu))) {af.refl _,[],trivial,.nil} (λ_ _ X s'=>s'.1 _ _ eY) (λj e us X p K1 K0 hx s' hp k1 k0=>?_) λX3 np us s' hy hq=>?_;{t,d,v,m}:=s';{r,J,p1,p2,p3}:=aY.at hx;sp:af X (upd X p (.tup [e.2.1,e.2.2])):=af.new hp;ep:(upd X p (.tup [e.2.1,e.2.2])) p=!(.tup [e.2.1,e.2.2]):=aB;(by generalize upd X p (.tup [e.2.1,e.2.2])=X1 at sp ep);g:=t.trans sp;hpt:r.pt≠[]:=(W.pt r (qw J)).ne;{p,_,O,aV.of ep,O,_,_,O,_,_,O,O,?_};{_,O,_,O,ca,kc,nd r.pt,O,.inl (g _ _ ecY),h9 hpt (p2.ab g.ab),_,O,?_};[qF rfl];S<|r.pt∈cu;[smC.yes S];bU rfl (k0 _ {g,d,v.ab sp.ab,?_});[qz,J,yg,show(!r).toList=[r] from rfl,je (do[HI S];qr),yv,wx];m.imp λe x p=>p.imp sp.ab λq=>q.ab sp.ab;[smC.no S];cW rfl ?_;{_,O,_,O,aE rfl,λt3 X3 g3 s3 e3=>?_};D:=sp.trans s3;k1 _ _ {t.trans D,d++[(.tup r.pt,e.2.1,e.2.2)],?_,?_};cx.snoc (e:=(.tup r.pt,e.2.1,e.2.2)) {t3,O,e3,(p2.ab g.ab).ab s3.ab} (v.ab D.ab);[qz,J,yg,show(!r).toList=[r] from rfl,jd (Ho S),yv];(m.imp λe x p=>p.imp D.ab λq=>q.ab D.ab).snoc {O,(p2.ab g.ab).ab s3.ab,(gT.ab p3 g.ab).ab s3.ab};{t,d,v,m}:=s';m←[aY.1,ze];C:af X3 (upd X3 np (.lst us)):=af.new hq;{np,us,d,O,az.of aB,v.ab C.ab,?_,λla X4 g4 s4 e4=>?_};this:us.length<=kd.length:=hy;this:=aY.1;();e4←[pO _ [] (do[wz];xH m L.nd),wz];G:=(t.trans C).trans s4;al4:AL (EK (gT X4) X4) d (zs.filter (lfp cu)):=m.imp λe x p=>p.imp (C.trans s4).ab λq=>q.ab (C.trans s4).ab;fla:Y la=none:=(t.trans C).free g4;(by clear m v hq hy C s4 g4 t);fla2:=fY _ fla;flaH:=I.free fla2;ma4:MA X4:=G.ab _ _ (tHY _ _ ma);{_,O,la,d,zs.filter (lfp cu),O,.inl e4,al4,L,ma4,λX5 ra kr f s5 hla5 gra era rm rcr hkf=>?_};N:=G.free gra;fra2:=fY _ N;fraH:=I.free fra2;R:∀{b u},X4 b=!u->b≠la->X5 b=!u:=λe n=>s5 _ _ (do[bR n];e);hkl:=rm.cJ L.cJ;{_,O,ra,kr,O,su (.inl era) λo2 U hU fU eU=>?_};tU:ai X5 U:=λb us e=>hU b _ (λz=>do !z;e←[era];-e) e;rmU:=rm.ab tU;{ks,aks}:=x8 rmU.ent;vP (kK ()) (λj us X=>af U X/\∃es:List (KD×V×V),cx X us es/\AL (λe k=>e.1=nd k) es ((ks.take j).filter λk=>decide (f k=!true))) {af.refl _,[],trivial,.nil} (λ_ _ X s'=>s'.1 _ _ eU) (λj e us X p K1 K0 hx s' hp k1 k0=>?_) λX6 np us s' hy hq=>?_;{t,d,v,m}:=s';{a,ha,p1,p2,p3}:=aks.at hx;hv:=pQ rmU.kn hx p2;hv←[rmU.at_];{b,hb,hbv}:=wj.mp hv;{e1,M,e22}:=e;hbv:V.bl b=e22:=hbv;!hbv;sp:af X (upd X p (.tup [M,.bl b])):=af.new hp;ep:(upd X p (.tup [M,.bl b])) p=!(.tup [M,.bl b]):=aB;¬(_);(by generalize upd X p (.tup [M,.bl b])=X1 at sp ep);g:=t.trans sp;{p,_,O,aV.of ep,O,_,_,O,_,_,O,O,?_};(by cases b with|false|true=>?_);{_,O,_,O,bU rfl (k0 _ {g,d,v.ab sp.ab,?_})};[qz,ha,yg,show(!a).toList=[a] from rfl,je (by rw[hb];decide),yv,wx];m;{_,O,_,O,cW rfl {_,O,aE rfl,λt3 X3 g3 s3 e3=>?_}};D:=sp.trans s3;k1 _ _ {t.trans D,d++[(nd a,M,.bl true)],cx.snoc (e:=(nd a,M,.bl true)) {t3,O,e3,(GK.ab p3 g.ab).ab s3.ab} (v.ab D.ab),?_};[qz,ha,yg,show(!a).toList=[a] from rfl,jd (by rw[hb];decide),yv];m.snoc rfl;{t,d,v,m}:=s';m←[aks.1,ze];C:af X6 (upd X6 np (.lst us)):=af.new hq;{np,us,d,O,az.of aB,v.ab C.ab,?_,λqa X7 g7 s7 e7=>?_};this:us.length<=kr.length:=hy;();smQ:fy (putAll [] d) (λk=>k∈ks.filter λk=>decide (f k=!true)):=λa=>(IY m fy.nil a).trans {λz=>z.resolve_left id,.inr};sU7:=(t.trans C).trans s7;Z:U qa=none:=(t.trans C).free g7;toU:∀{b u},H b=!u->b≠da->X7 b=!u:=λe n=>sU7 _ _ (hU _ _ (aZ e fraH) (R (G _ _ (hY _ _ n (I _ _ e))) (aZ e flaH)));eda7:X7 da=!(.cI o (.dG kd)):=sU7 _ _ (hU _ _ (aZ eY N) (R (G _ _ eY) (aZ eY fla)));fqH:H qa=none:=(do h5:=fU _ Z;(by cases q:H qa with|none|some u=>?_);2;z<|qa=da;Z←[z];Z←[hU _ _ (aZ eY N) (R (G _ _ eY) (aZ eY fla))];-Z;h5←[R (G _ _ (hY _ _ z (I _ _ q))) (aZ q flaH)];-h5);kk X7 qa _ f (λb u e=>?_) (.inr {o,eda7}) fqH e7 rcr λa=>(smQ a).trans {λz=>qO (zk.mp z).2,λh=>zk.mpr {?_,qI h}};nb:b≠da:=λz=>(do e←[z,d9];-e);e←[bR nb];toU e nb;h:f a=!true:=h;hv:=rmU.at_ a;hv←[h];{e,he,e1}:=K2 hv;{k',hk',p}:=aks.mem he;[←pz (p.2.1.symm.trans e1)];hk'
def AA(T:Txt K mg tk)(F:FO K mg "words_told" lD)(z:Ap P w K mg base):zS P w K mg base:=do aM F J3 (ip λ_ _=>rfl) {} λfa cdv A outer s H vs Q E R h=>?_;hu1:(A.deeper (envOfC "words_told" (ag lD) ↑s fa cdv)).units+1<cLine:=cR R;{_,(aj (sn J3.nd 2 (K5 z R T.cV boot_sorted (a1 (sj (ag lD) Ak [("part",1)] (il (cU hu1 (vv 0) aO (λ_ _=>rfl))) (λ_ _ _=>(fN (ck (FT R) (xt (vv 0)) (vc 1)))) (λ_ _ _=>(vv 0)))))) (aD (aN (cy (gJ R.hd (qS R)) T.cZ boot_dict (a1 (z_ (il (vv 2)) (λ_ _ _=>dJ) (λ_ _ _=>(a0 (a2 (a0 (a2 (xt (vv 0)) (xt (vv 0)))) (xt (vv 0))))))))))),?_};{fa,vp,pt,L,n,C,m,rfl,{U,la,vs,ca,cs,rd,_,_,_,_,M,X,an,W},hvp,D,kk}:=h;S:cs.length=m:=(do[an.1,zo]);cJ:=W.cJ;{_,O,fa,.ref ca,O,.inl {U,.inr "cells",rd,O,M.symm},ca,O,{_,az.of X},c7 (xs:=cs) (cL ()) (λj ys H'=>H'=H/\AN (ir C H) ys (((List.range m).take j).filter λi=>decide ((C i).pt=pt))) {O,.nil} (λ_ _ H' s'=>do[s'.1];az.of X) (λj x ys H' K1 K0 hx s' k1 k0=>?_) λH1 Y ys s' hy hq=>?_};{rfl,Z}:=s';{i,ei,ce}:=an.at hx;hin:i<m:=qo.mp (qw ei);ce':=ce;{b,vq,vr,vc,kq,rfl,h1,h2,h3,h4,h5}:=ce;tk:(List.range m).take (j+1)=(List.range m).take j++[i]:=(do[qz,ei];2);{_,O,b,_,0,_,O,O,aV.of h1,O,_,O,tD (C i).pt,tD pt,(aK h2).dv,(aK hvp).dv,(W.lay i hin).1,D,qg (yb _ _) (qg (eh _) ⋯),_,O,?_};I:(if false=true then not (PyData.eqv (tD (C i).pt) (tD pt)) else PyData.eqv (tD (C i).pt) (tD pt))=decide ((C i).pt=pt):=hP _ _;hp<|(C i).pt=pt;cW (do[I];qI hp) ?_;{_,O,k1 _ _ {O,?_}};[tk];AN.pick (vs:=cs) Z ce' (qI hp);bU (do[I];decide_eq_false hp) ?_;k0 _ {O,?_};[tk];Z.skip (do 0<|hp);{rfl,Z}:=s';Z←[S,yr (do[zo];qe _)];hyl:ys.length<=100:=(do hy←[S];());n1:af H1 (upd H1 Y (.lst ys)):=af.new hq;e1:(upd H1 Y (.lst ys)) Y=!(.lst ys):=aB;f:=Z.imp λv i g=>ir.ab g n1.ab;(by generalize upd H1 Y (.lst ys)=H2 at n1 e1 f);G:((List.range m).filter λi=>decide ((C i).pt=pt)).Pairwise λa b=>bT (.tuple [.int (C a).ka,.int (C a).kb]) (.tuple [.int (C b).ka,.int (C b).kb])=true:=((uv m).imp_of_mem λ{a b} ha hb h=>iZ (W.up a b h (qo.mp hb))).filter _;keys:KeysAre (((List.range m).filter λi=>decide ((C i).pt=pt)).map λi=>.tuple [.int (C i).ka,.int (C i).kb]) 2:=tG λd hd=>(do _;{i,_,rfl}:=qf.mp hd;.inl {_,_,O});{Y,ys,((List.range m).filter λi=>decide ((C i).pt=pt)).map λi=>.tuple [.int (C i).ka,.int (C i).kb],2,O,az.of e1,do[qj,f.1],keys,{(),.inr (wb.mpr G)},λmm y d H' Q' q1 q2 s q=>?_,λq H3 ix g3 s3 J e3=>?_};{k,ek,ce}:=f.at q1;q2←[qu,ek];-qJ q2;{y,C,k,O,ce.ab s.ab,λkv hk=>q H' _ (af.refl _) hk.dv};hix:∀i∈ix,i<ys.length:=λi hi=>(do this:=(J.1.mem_iff).mp hi;this←[qo,qj];[f.1];this);a2:=f.ix ix hix;a2←[wH (.refl _) G J];(by generalize ix.map (λi=>ys.getD i .aQ)=zs at e3 a2;generalize p:((List.range m).filter λi=>decide ((C i).pt=pt))=ms at a2);hzl:zs.length<=100:=(do[a2.1,←p];qg (we _ _) (do[zo];cJ));a3:=a2.imp λv i g=>ir.ab g s3.ab;{_,O,q,O,{_,az.of e3},c7 (xs:=zs) (cL ()) (λj us H'=>af H3 H'/\∃kvs,cx H' us kvs/\kvs.map (λe=>(e.1,e.2.2))=(ms.take j).map (λi=>(KD.two (C i).rw (C i).cl,V.str (C i).wd))) {af.refl _,[],trivial,O} (λ_ _ H' s'=>az.of (s'.1 _ _ e3)) (λj x us H' K1 K0 hx s' k1 k0=>?_) λH4 up us s' hu4' huq=>?_};{s',kvs,pr,pk}:=s';{i,ei,ce}:=a3.at hx;{b,vq,vr,vc,kq,rfl,h1,h2,h3,h4,h5}:=ce.ab s'.ab;{c,rfl,hc}:=h3;{d',rfl,hd}:=h4;tk:ms.take (j+1)=ms.take j++[i]:=(do[qz,ei];2);dI (B:=K0 H') ?_;{_,O,b,_,1,_,O,O,aV.of h1,O,_,O,b,_,2,_,O,O,aV.of h1,O,aE rfl,λtq H5 g5 N e5=>?_};{_,O,b,_,3,_,O,O,aV.of (N _ _ h1),O,aE rfl,λpq H6 g6 o e6=>k1 _ _ {(s'.trans N).trans o,kvs++[(.two (C i).rw (C i).cl,.ref tq,.str (C i).wd)],cx.snoc (e:=(.two (C i).rw (C i).cl,.ref tq,.str (C i).wd)) {pq,O,e6,tq,c,d',O,o _ _ e5,o _ _ (N _ _ hc),o _ _ (N _ _ hd)} (pr.ab (N.trans o).ab),?_}};[tk,z7,z7,pk];2;{s4,kvs,pr,pk}:=s';n4:af H4 (upd H4 up (.lst us)):=af.new huq;t:=((n1.trans s3).trans s4).trans n4;{up,us,kvs,O,az.of aB,pr.ab n4.ab,(),λdq H7 g7 s7 e7=>kk H7 dq _ (t.trans s7) (t.free g7) e7 λr c=>?_};pk←[show zs.length=ms.length from a2.1,ze];[Hu];¬List.foldl _ (V.str "") kvs=_;e:kvs.foldl (λa e=>if e.1=KD.two r c then e.2.2 else a) (V.str "")=(kvs.map (λe=>(e.1,e.2.2))).foldl (λa (e:KD×V)=>if e.1=KD.two r c then e.2 else a) (V.str ""):=(do[List.foldl_map]);[e,pk,List.foldl_map,←p];LG C pt r c m
def AC(T:Txt K mg tk)(F:FO K mg "_law_signs" oN)(g:fO P w K mg base)(gfBm:yC P w K mg base):yE P w K mg base:=do aM F lH (vY λ_ _ _ _=>rfl) {} λfa cdv A outer s H vs Q E y h=>?_;hu1:(A.deeper (envOfC "_law_signs" (ag oN) ↑s fa cdv)).units+1<cLine:=cR y;{_,(aj (sn lH.nd 4 jH) (aj (fo (lh (do 2) T.dA (a1 (cl g y (a2 (vv 0) aA)))) (gn lH.nd 5) (aj (sn lH.nd 6 (xa (vv 3) (cl g y (a2 (vv 0) (cb c6 T.bQ boot_len (a1 (vv 3))))))) (aj (sn lH.nd 7 (xa (aG sP (bK (a1 dE)) (bm PySem.F.plainAttrs_dict PySem.F.slot_dict_get PySem.F.type_dict_get (iL (cN y)) (vv 4) (a2 (vv 6) (bK cS)))) (cl g y (a2 (vv 0) (aG c8 aA (cb O' T.bQ boot_len (a1 (bm PySem.F.plainAttrs_dict PySem.F.slot_dict_get PySem.F.type_dict_get (iL (cN y)) (vv 4) (a2 (vv 6) (bK cS)))))))))) (aj (sn lH.nd 8 (a0 (ac (xa (vv 2) (aG eP (vv 5) (cb c6 T.bQ boot_len (a1 (vv 2))))) (a2 (aG c8 aA (vv 5)) aA)))) (aj (sn lH.nd 9 (ce eB (cl g y (a2 (vv 0) aA)) aA)) (aj (sn lH.nd 10 (a0 (ac (aG c8 aA (aG jY (vv 5) aA)) (a2 (aG eP (vv 5) aA) aA)))) (aj (ap (cU hu1 (vv 1) aO (λ_ _=>rfl)) (a1 (a0 (ac (vv 6) (ac (vv 8) (ac (vv 7) (ac (vv 10) (a2 (cl gfBm y (a2 (vv 0) (vv 3))) (vv 9))))))))) (aD (j1 (cN y) (vv 4) (vv 6) (aG sP (bm PySem.F.plainAttrs_dict PySem.F.slot_dict_get PySem.F.type_dict_get (iL (cN y)) (vv 4) (a2 (vv 6) (bK cS))) (bK (a1 (vv 8)))) rfl))))))))) (aD (aN (vv 4))))),?_};{d,fa,r,kq,F,kn,rfl,dw,dk,e3,er,ek,hkn,k0,k1,rd,G,fd,rf,kf,kk}:=h;λnq H1 gn Y en=>?_;hd:H d≠none:=let⟨_,_,e⟩:=dw;(do[e];λz=>nomatch z);hf:H (F 3)≠none:=(do[e3];λz=>nomatch z);nd:nq≠d:=λz=>hd (z▸gn);nf:nq≠F 3:=λz=>hf (z▸gn);nfa:fa≠d:=λz=>(do _;{_,_,e}:=dw;e←[←z,dk];-e);nff:fa≠F 3:=λz=>(do e3←[←z,dk];-e3);B1:SB H H1 d (F 3) nq (λ_=>⟨[],[],none,0,0,0,.none,false⟩) 0 [] []:={Rest.refl.same Y,dw.same Y,Y _ _ e3,.nil,{qv _,(λi j _ z=>nomatch z),(λi z=>nomatch z),(λi z=>nomatch z),(λi z=>nomatch z),(λi z=>nomatch z)},(λi z=>nomatch z),(λi z=>nomatch z),(λi z=>nomatch z),en,{(λe z=>nomatch z),(λk u z=>nomatch z)},(λk u z=>nomatch z)};{_,O,d,25,O,B1.dw,⋯,⋯,λc H2 s2 w2 a2 b2=>?_};B2:=B1.draw hd fd nd s2 w2;{c,O,(),(),cg (lo:=0) (n:=c.toNat) (λj σ Z=>wN λS xs kvs u5 u6 u7 u8 u9=>∃V,ic (σ=[!(.ref d),!(.ref fa),!(.ref r),!(.ref kq),!(.ref nq),u5,u6,u7,u8,u9,V]) (SB H Z d (F 3) nq S j xs kvs) (xs.length=j) (kvs.length<=j)) {_,_,_,_,_,_,_,_,_,O,B2,O,qe _} ?_ ?_};(j,σ,Z,hj,{S,xs,kvs,u5,u6,u7,u8,u9,V,rfl,B,hx,hk},Nx,hNx);ekZ:=B.out ek G kf;erZ:=B.out er rd rf;knZ:KN Z kn:=hkn.ab (mW B.ro λb z ys e=>do(by rcases z with z|z <;> subst z);{_,_,e'}:=dw;e←[e'];-e;e←[e3];-e);{_,O,_,O,_,O,kq,_,O,.inl (az.of ekZ),d,_,O,B.dw,(),(),λi1 Z1 Y w1 x1 y1=>{kq,kn,i1,O,O,az.of (DP.to Y ekZ G),x1,y1,λvp hvp=>?_}};t1:=B.dw.ab Y;B1:=B.draw hd fd nd Y w1;kn1:=knZ.ab t1;{p,gp,pn}:=kn1.np hvp;{aE rfl,λl2 Z2 g2 s2 e2=>?_};{_,O,N1 (B1.same s2).en,_,O,aE rfl,λl3 Z3 g3 s3 e3'=>?_};C:=s2.trans s3;B3:=B1.same C;{us,hl,hu,gu}:=B1.get p;{lq,gl,el}:=gu Z3 l3 (λb o _ e=>C _ _ e) e3';{nq,kvs,.tup p,_,_,O,O,B3.en,gp.ab C.ab,l2,lq,[.aQ],us,O,gl,s3 _ _ e2,el,?_,λcq Z4 g4 s4 e4=>?_};¬1+us.length<=sizeLine;ww (cG ());B4:=B3.same s4;{_,O,_,O,N1 B4.en,_,O,aE rfl,λl5 Z5 g5 s5 e5=>?_};B5:=B4.same s5;X:=(C.trans s4).trans s5;{lq',gl',el'}:=gu Z5 l5 (λb o _ e=>X _ _ e) e5;{nq,kvs,.tup p,_,_,O,O,B5.en,gp.ab X.ab,_,us.length,O,do[gl'];.inl {_,az.of el',O},_,_,O,O,d,_,O,B5.dw,(),(),λi2 Z6 s6 w6 x2 y2=>{cq,_,i2,O,O,az.of (DP.to s6 (s5 _ _ e4) (λz=>hd (z▸B3.free g4))),x2,do[qi,qt];(),λvb hvb=>?_}};B6:=B5.draw hd fd nd s6 w6;L:=X.ab.trans (B5.dw.ab s6);gp6:=gp.ab L;{bo,gb,hb}:∃bo,GK Z6 (kd (cn S) bo) vb/\∀i,bo=!i->i<j/\(S i).pt=p:=(do z||z:=q0.mp hvb;⟨none,z,(λi z=>nomatch z)⟩;{i,a1,a2,a3}:=hu vb z;{!i,NM.ab a3 L,λi' z=>do-z;{a1,a2}});er6:=B6.out er rd rf;{_,O,_,O,_,O,r,_,O,.inl (az.of er6),_,_,O,O,(by decide:(0:Int)<2),r,_,_,O,O,az.of er6,Int.emod_nonneg _ ⋯,Int.emod_lt_of_pos _ ⋯,λvw hvw=>?_};{w,rfl,hw}:∃w,vw=.str w/\PyData.strOk w=true:=(by have:=hvw;ac_nf at this;rcases this with h|h <;> exact{_,h,∅});{_,O,_,_,O,O,aE rfl,λq7 Z7 g7 s7 e7=>?_};B7:=B6.same s7;{_,O,d,5,O,B7.dw,⋯,⋯,λi3 Z8 s8 w8 x3 y3=>{_,_,O,O,?_}};B8:=B7.draw hd fd nd s8 w8;(by generalize decide ((0:Int)<i3)=lv);{_,O,_,_,O,O,{⋯,⋯},_,_,O,O,_,O,_,_,O,O,(by decide:(0:Int)<2),aE rfl,λq9 Z9 g9 s9 e9=>?_};B9:=B8.same s9;(by rw[Int.zero_add]at e7 e9);s69:=(B7.dw.ab s8).trans s9.ab;t69:=s7.ab.trans s69;ek9:=B9.out ek G kf;kn9:∀v∈kn,vF Z9 v:=λv hv=>(kn1.ab (L.trans t69)).np hv;{_,O,fa,.ref (F 3),O,.inl {cE F 9,.inr "signs",.inl (B9.out dk nfa nff),O,(cX F 3 ⋯).symm},.inl {O,_,az.of B9.ex},_,O,_,O,_,O,_,O,_,O,_,O,d,kq,kn,O,B9.dw,ek9,G,k0,(),kn9,λZ10 vg dd s10 w10 dt so os=>?_};B10:=B9.draw hd fd nd s10 w10;t10:=B9.dw.ab s10;{_,O,aE rfl,λM t g11 q e11=>{F 3,xs,_,O,O,(B10.same q).ex,cG (),?_}};W:=B10.same q;x:=(t69.trans t10).trans q.ab;J:=(s69.trans t10).trans q.ab;t911:=t10.trans q.ab;U:=W.sign (r:={p,[.inr w,.inl (40+(j:Int)),.inl 0],bo,50+(j:Int) / 2,(j:Int) % 2,0,dd,lv}) hf fd nf () e11 (gp6.ab x) {q7,O,J _ _ e7} (gb.ab x) (t911 _ _ e9) (dt.ab q.ab) rfl hw pn {O,O,O} hb so os;D:ai t (upd t (F 3) (.lst (xs++[.ref M]))):=ai.wl W.ex;m:=gp6.ab (x.trans D);e12:=(J.trans D) _ _ e7;k12:∀b o,H b=none->t b=!o->upd t (F 3) (.lst (xs++[.ref M])) b=!o:=λb o hn e=>(ak λ(z:b=F 3)=>hf (z▸hn)).trans e;(by generalize upd t (F 3) (.lst (xs++[.ref M]))=Z12 at U m e12 k12 D);{_,O,N1 U.en,_,O,aE rfl,λl13 Z13 g13 f e13=>?_};B13:=U.same f;{us2,hl2,cN,gu2}:=W.get p;{nq,kvs,.tup p,_,_,O,O,B13.en,m.ab f.ab,_,O,aE rfl,λl14 Z14 g14 N e14=>?_};R:=f.trans N;B14:=B13.same N;{lq2,gl2,el2}:=gu2 Z13 l13 (λb o hn e=>f _ _ (k12 b o hn e)) e13;{lq2,l14,us2,[.ref q7],gl2,O,N _ _ el2,e14,?_,λl15 Z15 g15 I e15=>?_};¬us2.length+1<=sizeLine;ww (cG ());B15:=B14.same I;a:=R.trans I;{_,O,_,O,nq,kvs,.tup p,O,B15.en,m.ab a.ab,cG (),?_};hNx _ _ {_,_,_,_,_,_,_,_,_,O,B15.put gn nd nf pn (m.ab a.ab) e15 (B14.free g15) (do[qi,qt];()) (do[qi,qt];()) (λv hv=>?_),do[qi,qt,hx],qg (iN _ _ _ _) ()};z||z:=zh.mp hv;{i,a1,a2,a3}:=cN v z;{i,(),do[eG a1];a2,NM.ab (NM.CI (FP.ext S j _) a1 a3) (D.trans a.ab)};[qx.mp z];{j,yo _,do[gB],?_};(by unfold NM cn);[gB];{q7,O,a _ _ e12};(σ,Z,{S,xs,kvs,u5,u6,u7,u8,u9,V,rfl,B,hx,hk});{_,O,kk Z S _ xs nq kvs B.ro B.ex B.an B.ws () B.ok gn B.en () B.nd B.fr}
def Av(T:Txt K mg tk)(F:FO K mg "_law_stretches" nL)(f:fO P w K mg base)(L:yY P w K mg base):yT P w K mg base:=do aM F kC (vY λ_ _ _ _=>rfl) {} λfa cdv A outer s H vs Q E C h=>?_;hu1:(A.deeper (envOfC "_law_stretches" (ag nL) ↑s fa cdv)).units+1<cLine:=cR C;{_,(aD (fo (lh (do 2) T.dA (a1 (cl f C (a2 (vv 0) aA)))) (gn kC.nd 4) (aj (sn kC.nd 5 (cb (NO (xx C) C.hd) T.cV boot_sorted (a1 (vv 3)))) (aD (br (ck (lB C) (vv 5) (bK cS)) (aj (sn kC.nd 6 (xa (vv 5) (cl f C (a2 (vv 0) (cb c6 T.bQ boot_len (a1 (vv 5))))))) (aj (sn kC.nd 7 (cl L C (a2 (vv 0) (dD (cN C) (vv 3) (vv 6) (λ_ _=>rfl))))) (aj (sn kC.nd 8 (cl L C (a2 (vv 0) (dD (cN C) (vv 3) (vv 6) (λ_ _=>rfl))))) (aj (sn kC.nd 9 (a0 (a2 (xl (vv 2)) (aG c8 aA (vv 4))))) (aD (br (ck eB (cl f C (a2 (vv 0) aA)) aA) (aj (sn kC.nd 10 (xa (bK (ac aO (a2 aO dE))) (cl f C (a2 (vv 0) aA)))) (aj (sn kC.nd 11 (xa (bK (ac aO (a2 aO aO))) (cl f C (a2 (vv 0) aA)))) (aD (ap (cU hu1 (vv 1) aO (λ_ _=>rfl)) (a1 (a0 (ac (vv 6) (ac (vv 7) (ac (vv 8) (ac (vv 11) (ac (vv 10) (a2 (vv 9) (a0 (a2 (aG c8 aA (aG jY (vv 4) aA)) (aG eP (vv 4) aA))))))))))))))) (aD (ap (cU hu1 (vv 1) aO (λ_ _=>rfl)) (a1 (a0 (ac (vv 6) (ac (vv 7) (ac (vv 8) (ac (aG Mw aO (aG c8 aA (aG eP (vv 4) aA))) (a2 (vv 9) (a0 (a2 (aG c8 aA (aG jY (vv 4) aA)) (aG eP (vv 4) aA)))))))))))))))))) cc))))),?_};{d,fa,r,nq,F,S,n,xs,kvs,rfl,dw,dk,e3,an3,W,n24,e4,e5,er,en,kl,nmd,rd,fr,hi,lqn,kk}:=h;X:F 4≠d:=(fr 4 ⋯).1;U:F 5≠d:=(fr 5 ⋯).1;n45:F 4≠F 5:=λz=>absurd (hi 4 ⋯ 5 ⋯ z) ⋯;nqd:nq≠d:=λz=>(do _;{_,_,e}:=dw;e←[←z,en];-e);nq4:nq≠F 4:=λz=>(do e4←[←z,en];-e4);nq5:nq≠F 5:=λz=>(do e5←[←z,en];-e5);nfd:fa≠d:=λz=>(do _;{_,_,e}:=dw;e←[←z,dk];-e);nf4:fa≠F 4:=λz=>(do e4←[←z,dk];-e4);nf5:fa≠F 5:=λz=>(do e5←[←z,dk];-e5);r4:r≠F 4:=(fr 4 ⋯).2;r5:r≠F 5:=(fr 5 ⋯).2;{_,O,d,9,O,dw,⋯,⋯,λc H2 s2 w2 a2 b2=>?_};B2:TB H H2 d F S n 0 (λ_=>⟨[],none,none,"",none,[],0,0⟩) 0 (λ_=>⟨[],none,none,"",none,[],0,0⟩) 0 [] []:={Rest.refl.del (.inl rfl) s2,w2,DP.to s2 e4 X,.nil,{qv _,(λi j _ z=>nomatch z),(λi z=>nomatch z),(λi z=>nomatch z)},qe _,(λi z=>nomatch z),DP.to s2 e5 U,.nil,{qv _,(λi j _ z=>nomatch z),(λi z=>nomatch z),(λi z=>nomatch z)},qe _,(λi z=>nomatch z)};{c,O,(),(),cg (lo:=0) (n:=c.toNat) (λj σ Z=>wN λM m N q ms ns u4 u5=>FV λu6 u7 u8 u9 u10 Y=>ic (σ=[!(.ref d),!(.ref fa),!(.ref r),!(.ref nq),u4,u5,u6,u7,u8,u9,u10,Y]) (TB H Z d F S n j M m N q ms ns) (ms.length=m) (ns.length=q)) ⟨_,_,_,_,_,_,_,_,_,_,_,_,_,_,O,B2,O,O⟩ ?_ ?_};(j,σ,Z,hj,{M,m,N,q,ms,ns,u4,u5,u6,u7,u8,u9,u10,Y,rfl,B,hm,hn},Nx,hNx);t0:ai H Z:=mW B.ro λb z ys e=>(do(by rcases z with z|z|z <;> subst z);{_,_,e'}:=dw;e←[e'];-e;e←[e4];-e;e←[e5];-e);enZ:=B.out en nqd nq4 nq5;ks:=nmd.1.ab t0;{_,O,nq,kvs,_,3,O,Rd.of enZ,ks.l_,ks.keys,(),λpq Z1 ix g1 s1 six e1=>?_};hul:(ix.map λi=>(kvs.map (·.2.1)).getD i V.aQ).length<=24:=(do[qj,MH six,qj];kl);ru:∀u∈ix.map (λi=>(kvs.map (·.2.1)).getD i V.aQ),∃p,GK Z1 (.tup p) u/\Pn p/\∃lq us,vG kvs (.tup p)=!(.ref lq)/\H lq=!(.lst us)/\0<us.length/\us.length<=n/\∀v∈us,∃i,i<n/\(S i).pt=p/\NM (cn S) H v i:=λu hu=>(do _;{e,he,rfl}:=qf.mp (NA six (do[qj,qj]) u hu);{p,pn,h1,h2}:=ks e he;{p,h2.ab s1.ab,pn,?_};(by cases z:vG kvs (.tup p)with|none|some w=>?_);absurd h1 (nM z e he);{p',lq,us,h1,h2,rfl,h4,h5,h6,h7}:=nmd.2 _ _ z;(by injection h1 with h1);!h1;{lq,us,O,h4,h5,h6,h7});(by generalize (ix.map λi=>(kvs.map (·.2.1)).getD i V.aQ)=us at e1 hul ru);{ps,pa}:∃ps:List (List Key),AL (λu p=>GK Z1 (.tup p) u/\Pn p) us ps:=let⟨ps,h1,h2⟩:=xM (P:=λu p=>GK Z1 (.tup p) u/\Pn p) λu h=>let⟨p,a,b,_⟩:=ru u h;{p,a,b};{ps,h1.symm,h2};pd:cz Z1 us (ps.map tD):=AL.lW (λv p g=>aK g.1) pa;{_,O,aE rfl,λzq Z2 g2 D f2=>?_};{.list (ps.map tD),.list [],.lst (az.of (D _ _ e1)) (pd.same D).dv,.lst (az.of f2) .nil,?_,O,?_,_,O,?_};(tR λk hk=>do _;{_,_,_,h}:=pa.gG hk;h).1;qg (jh _ _) ⋯;s02:=s1.trans D;B2:=B.same s02;hpq:pq≠d:=B.dw.ne g1;(by cases us with|nil|cons w0 ws0=>?_);this:ps=[]:=yx.mp pa.1.symm;!this;bU rfl (hNx _ _ {M,m,N,q,ms,ns,_,_,_,_,_,_,_,_,O,B2.next,hm,hn});{p0,J,rfl}:∃p0 J,ps=p0::J:=(do(by cases ps with|nil|cons p0 J=>?_);this:=pa.1;-this;{p0,J,O});cW rfl ?_;hu0:(0:Int)<((w0::ws0).length:Nat):=(do[zd];());e12:=D _ _ e1;{_,O,_,O,_,O,pq,_,O,.inl (az.of e12),d,_,O,B2.dw,hu0,(),λi3 Z3 s3 w3 x3 y3=>{pq,_,i3,O,O,az.of (DP.to s3 e12 hpq),x3,y3,λvp hvp=>?_}};{p,gp1,pn,lq,vs,gv,elH,l0,l1,hvs}:=ru vp hvp;{ld,l4,l5}:=lqn _ _ gv;B3:=B2.draw X U s3 w3;t13:=D.ab.trans (B2.dw.ab s3);t03:=s1.ab.trans t13;gp3:=gp1.ab t13;{_,O,_,O,_,O,nq,kvs,.tup p,_,O,Rd.of (B3.out en nqd nq4 nq5),gp3,gv,d,lq,vs,O,B3.dw,B3.out elH ld l4 l5,ld,l0,(),λZ4 q4 v4 b4 s4 w4 e4' m4=>?_};B4:=B3.draw X U s4 w4;t34:=B3.dw.ab s4;{_,O,_,O,_,O,nq,kvs,.tup p,_,O,Rd.of (B4.out en nqd nq4 nq5),gp3.ab t34,gv,d,lq,vs,O,B4.dw,B4.out elH ld l4 l5,ld,l0,(),λZ5 q5 v5 b5 s5 w5 e5' m5=>?_};B5:=B4.draw X U s5 w5;t45:=B4.dw.ab s5;t35:=t34.trans t45;t05:=(t0.trans t03).trans t35;{i4,hi4,pt4,nm4}:=hvs v4 m4;{i5,hi5,pt5,nm5'}:=hvs v5 m5;sd4:oy S Z5 (!(i4,b4)) (.ref q4):={q4,v4,O,t45 _ _ e4',NM.ab nm4 t05};sd5:oy S Z5 (!(i5,b5)) (.ref q5):={q5,v5,O,e5',NM.ab nm5' t05};so4:d7 S n p (!(i4,b4)):=λi b z=>(do-z;{hi4,pt4});so5:d7 S n p (!(i5,b5)):=λi b z=>(do-z;{hi5,pt5});gp5:=gp3.ab t35;{_,O,r,_,0,_,O,O,az.of (B5.out er rd r4 r5),O,_,O,_,_,O,O,aE rfl,λq6 Z6 g6 s6 e6=>?_};e6←[Int.zero_add];B6:=B5.same s6;{_,O,d,3,O,B6.dw,⋯,⋯,λi7 Z7 s7 w7 x7 y7=>{_,_,O,O,_,O,?_}};R:=B6.draw X U s7 w7;t67:=B6.dw.ab s7;t57:=s6.ab.trans t67;e7:=t67 _ _ e6;nl:Lay [.inr "ann",.inl (70+(j:Int))]:=(zV (x:=70+(j:Int)) (qm)).lay;(by generalize decide ((0:Int)<i7)=bb;cases bb with|true|false=>?_);cW rfl ?_;{aE rfl,λy8 Z8 g8 s8 f8=>{_,O,d,3,O,(R.same s8).dw,⋯,⋯,λi9 Z9 s9 w9 x9 y9=>{y8,_,i9,O,O,az.of (DP.to s9 f8 (R.dw.ne g8)),x9,y9,λvv hvv=>?_}}};{vl,rfl,hvl}:∃vl,vv=Oe vl/\∀z,vl=!z->PyData.strOk z=true:=(do(by ac_nf at hvv;rcases hvv with h|h|h <;> subst h);{!"thin",O,λz e=>do-e;by decide +kernel};{!"thick",O,λz e=>do-e;by decide +kernel};{none,O,(λz e=>nomatch e)});B9:=(R.same s8).draw X U s9 w9;t79:=s8.ab.trans ((R.same s8).dw.ab s9);{aE rfl,λyA ZA gA sA fA=>{_,O,d,3,O,(B9.same sA).dw,⋯,⋯,λiB ZB sB wB xB yB=>{yA,_,iB,O,O,az.of (DP.to sB fA (B9.dw.ne gA)),xB,yB,λvk hvk=>?_}}};{kd,rfl,hkd}:∃kd,vk=.str kd/\PyData.strOk kd=true:=(by ac_nf at hvk;rcases hvk with h|h|h <;> subst h <;> exact{_,O,∅});BB:=(B9.same sA).draw X U sB wB;t9B:=sA.ab.trans ((B9.same sA).dw.ab sB);{_,O,fa,.ref (F 4),O,.inl {cE F 9,.inr "marks",.inl (BB.out dk nfd nf4 nf5),O,(cX F 4 ⋯).symm},.inl {O,_,az.of BB.e4},_,O,_,O,_,O,_,O,_,O,_,O,_,O,_,_,O,O,{⋯,⋯},_,_,O,O,_,O,_,_,O,O,(by decide:(0:Int)<2),aE rfl,λqC ZC gC sC eC=>{aE rfl,λqD ZD gD I eD=>{F 4,ms,_,O,O,((BB.same sC).same I).e4,cG (do this:=B.lm;()),?_}}};eC←[Int.zero_add];BD:=(BB.same sC).same I;tBD:=sC.ab.trans I.ab;G:=(t79.trans t9B).trans tBD;t:=t57.trans G;hNx _ _ {_,_,N,q,_,ns,_,_,_,_,_,_,_,_,O,BD.mark (r:={p,!(i4,b4),!(i5,b5),kd,vl,[.inr "ann",.inl (70+(j:Int))],80+(j:Int) / 2,(j:Int) % 2}) X n45 () {qD,_,_,_,_,qC,O,eD,gp5.ab t,sd4.ab t,sd5.ab t,{q6,O,G _ _ e7},I _ _ eC} rfl rfl {so4,so5} {pn.lay,nl,hkd,hvl},do[qi,qt,hm],hn};bU rfl ?_;{_,O,fa,.ref (F 5),O,.inl {cE F 9,.inr "notes",.inl (R.out dk nfd nf4 nf5),O,(cX F 5 ⋯).symm},.inl {O,_,az.of R.e5},_,O,_,O,_,O,_,O,_,_,O,O,(by decide:(0:Int)<4),_,_,O,O,_,O,O,(),(),λhm' aR=>?_};{_,O,_,O,_,_,O,O,{⋯,⋯},_,_,O,O,_,O,_,_,O,O,(by decide:(0:Int)<2),aE rfl,λqC ZC gC sC eC=>{aE rfl,λqD ZD gD I eD=>{F 5,ns,_,O,O,((R.same sC).same I).e5,cG (do this:=B.ln;()),?_}}};eC←[Int.zero_add];BD:=(R.same sC).same I;G:=sC.ab.trans I.ab;t:=t57.trans G;hNx _ _ {M,m,_,_,ms,_,_,_,_,_,_,_,_,_,O,BD.note (r:={p,!(i4,b4),!(i5,b5),hm',none,[.inr "ann",.inl (70+(j:Int))],80+(j:Int) / 2,(j:Int) % 2}) U n45 () {qD,_,_,_,_,qC,O,eD,gp5.ab t,sd4.ab t,sd5.ab t,{q6,O,G _ _ e7},I _ _ eC} rfl rfl {so4,so5} {pn.lay,nl,aR,(λz e=>nomatch e)},hm,do[qi,qt,hn]};(σ,Z,{M,m,N,q,ms,ns,u4,u5,u6,u7,u8,u9,u10,Y,rfl,B,hm,hn});this:=B.lm;kk Z M m N q ms ns (λb o e z=>B.ro b o e λy=>z (y.elim .inl λy=>.inr (y.elim .inl λy=>.inr (.inl y)))) B.e4 B.am B.wm () B.e5 B.an B.wn
def BF(T:Txt K mg tk)(F:FO K mg "is_let" sN)(a:Aq P w K mg base):zi P w K mg base:=do aM F Cz (vY λ_ _ _ _=>rfl) (λ_ _ _ _ h=>Nj h) λfa c A outer s H vs Q E b h=>?_;{_,(aj (sn Cz.nd 4 (cl a b (ac (vv 0) (a2 (vv 2) (vv 3))))) (aj (fo (il (vv 1)) (gn Cz.nd 5) (aD (br (ck (p_ (cN b)) (vv 5) (vv 4)) (aD (aN (dD (cN b) (vv 4) (vv 5) (λ_ _=>rfl)))) cc))) (aD (aN bW)))),?_};h.2.elim
def Dl(T:Txt K mg tk)(F:FO K mg "ordered" uj)(I:Am P w K mg base):sJ P w K mg base:=do aM F uK (ll λ_=>rfl) {} λfa cdv A outer s H vs Q E hr h=>?_;{_,(aj (sn uK.nd 1 (cl I hr (a1 (vv 0)))) (aj (sn uK.nd 2 (bK cS)) (aj (sn uK.nd 3 (cy BR T.eK boot_list (a1 (bm PySem.F.plainAttrs_dict PySem.F.slot_dict_get PySem.F.type_dict_get (iL (cN hr)) (vv 1) (a2 dE (bK cS)))))) (aj (q_ PassesOwn.never (ck eB (cb c6 T.bQ boot_len (a1 (vv 3))) aA) (aj (sn uK.nd 4 (Ds PySem.F.plainAttrs_list PySem.F.slot_list_pop PySem.F.type_list_pop I_ (vv 3))) (aj (ap (vv 2) (a1 (vv 4))) (aD (mX (bm PySem.F.plainAttrs_list PySem.F.slot_list_extend PySem.F.type_list_extend Kg (vv 3) (a1 (bm PySem.F.plainAttrs_dict PySem.F.slot_dict_get PySem.F.type_dict_get (iL (cN hr)) (vv 1) (a2 (vv 4) (bK cS)))))))))) (aD (aN (vv 2))))))),?_};{p,ys,nk,bh,D,ms,js,t,rfl,hp,an,L,W,kk}:=h;cJ:=W.cJ;{_,O,p,ys,nk,bh,D,ms,js,t,O,hp,an,L,W,λH1 dq kvs s1 fd=>?_};{aE rfl,λd H2 g2 s2 e2=>?_};U:=fd.same s2;{_,O,.inr (.inr (.inl {O,.inr (.inr {kvs,U.has})})),aE rfl,λz0 H3 g3 X e3=>?_};r:=U.same X;{a,vs,ea,eva,ava}:=r.get e3 none (λi z=>do-z);{dq,kvs,.aQ,.aQ,.ref z0,O,O,r.has,O,?_};[show(vG kvs KD.aQ).getD (V.ref z0)=.ref a from ea];{a,vs,O,.inl (az.of eva),λb H4 g4 s4 e4=>?_};w:Rga.WF (Rga.cP bh ms):=W.wf;rl:=Rga.gK w;o:d≠b:=λz=>(do g4←[←z,X _ _ e2];-g4);M:H1 d=none:=g2;S:H1 b=none:=(s2.trans X).free g4;s14:=(s2.trans X).trans s4;d0:=Rga.jQ w;d0←[show Rga.rk (Rga.cP bh ms) none=(kids bh ms none).reverse from Ha bh ms none];{λmm σ c=>∃(out done st:List Nat) (e tv:List V) (u4:Option V),σ=[!(.ref p),!(.ref dq),!(.ref d),!(.ref b),u4]/\af H1 c/\c d=!(.lst e)/\AN (NM nk c) e done/\c b=!(.lst tv)/\AN (NM nk c) tv st/\Rga.mB (Rga.rk (Rga.cP bh ms)) st.reverse out/\done++out=Rga.iC (Rga.cP bh ms)/\mm=out.length,{_,_,[],kids bh ms none,[],vs,none,O,s14,s4 _ _ (X _ _ e2),.nil,e4,ava.imp λv i g=>g.ab s4.ab,d0,O,O},?_};(mm,σ,c,{out,done,st,e,tv,u4,rfl,s5,er,ar,Z,at',j,G,rfl});J:done.length+out.length=ms.length:=(do[←rl,←G,qi]);hst:=Rga.j_ j;hst←[vd];{_,O,b,_,O,.inl (az.of Z),_,_,O,O,_,O,?_};z||{st',x,z}:=jb st;!z;h0:tv=[]:=yx.mp at'.1;!h0;bU rfl ?_;this:=j.nil_inv;!this;G←[wx];!G;{_,O,kk c d e (s1.trans s5) (s1.free M) er ar};z←[jc];!z;{us,n,rfl,au,hx}:=at'.last;j←[jy,me,List.reverse_nil,wz,List.singleton_append];{k,rfl,f}:=j.cons_inv;hxm:x∈ms:=Rga.nU w (do[←G];zy _ qm);f←[show Rga.rk (Rga.cP bh ms) (!x)=(kids bh ms (!x)).reverse from Ha bh ms (!x)];hl2:=Rga.j_ f;hl2←[qi,vd,vd];J←[zd];cW (qI (do¬(0:Int)<((us++[n]).length:Nat);[qi,qt];())) ?_;L7 (λσ' H'=>rQ λ(e:List V) (tv:List V) (u4:Option V)=>mT (σ'=[!(.ref p),!(.ref dq),!(.ref d),!(.ref b),u4]) (af H1 H') (H' d=!(.lst e)) (AN (NM nk H') e (done++[x])) (H' b=!(.lst tv)) (AN (NM nk H') tv (st'++kids bh ms (!x)))) (λσ' H' ⟨rv',tv',u4',b1,b2,b3,b4,b5,b6⟩=>{k.length,do[zd];(),k,done++[x],_,rv',tv',u4',b1,b2,b3,b4,b5,b6,?_,?_,O}) λNx hNx=>?_;[jy];f;[yk];G;{_,O,.inl {O,_,az.of Z},b,_,n,O,O,Z,(do 0),?_};[tf];t6:ai c (upd c b (.lst us)):=ai.wl Z;m:(upd c b (.lst us)) d=!(.lst e):=(do[ak o];er);{_,O,.inl {O,_,az.of m},_,O,d,_,_,O,O,m,(do[ar.1];jL ()),?_};t7:ai (upd c b (.lst us)) (upd (upd c b (.lst us)) d (.lst (e++[n]))):=ai.wl m;y:(upd (upd c b (.lst us)) d (.lst (e++[n]))) b=!(.lst us):=(do[ak o.symm,aB]);s7:af H1 (upd (upd c b (.lst us)) d (.lst (e++[n]))):=(s5.wr S).wr M;B:=fd.same s7;{_,O,.inl {O,_,az.of y},_,O,.inr (.inr (.inl {O,.inr (.inr {kvs,B.has})})),_,O,aE rfl,λz1 H8 g8 C e8=>?_};Y:=B.same C;t8:=(t6.trans t7).trans C.ab;{a8,q,ea8,ev8,R}:=Y.get e8 (!x) (λi z=>do-z;hxm);{dq,kvs,.tup (nk x),n,.ref z1,O,O,Y.has,hx.ab t8,?_};[show(vG kvs (KD.tup (nk x))).getD (V.ref z1)=.ref a8 from ea8];N:=C _ _ y;{b,a8,us,q,O,O,N,ev8,cL (do[au.1,R.1];()),?_};t9:ai H8 (upd H8 b (.lst (us++q))):=ai.wl N;hNx _ _ {e++[n],us++q,_,O,(s7.trans C).wr S,?_,?_,aB,?_};[ak o];C _ _ aB;(ar.snoc hx).imp λv i g=>g.ab (t8.trans t9);(au.imp λv i g=>g.ab (t8.trans t9)).app (R.imp λv i g=>g.ab t9)
def EM(T:Txt K mg tk)(F:FO K mg "turned_in" uI)(gfAg:yO P w K mg base)(gfBx:rL P w K mg base):yR P w K mg base:=do aM F mS (ll λ_=>rfl) {} λfa cdv A outer s H vs Q E I h=>?_;{_,(aj (sn mS.nd 1 (cy (gJ I.hd (qS I)) T.cZ boot_dict (a1 (iz (own:=["part","place"]) (fr:=[]) rfl (rr (vv 0)) {O,∅,∅} (i0 ∅) (λ_ _ _=>(jT (n:=2) rfl (df (cO (i:=0) (do¬List.Nodup (["part","place"]:List Sy);by decide +kernel) rfl (Or.inl rfl)) (df (cO (i:=1) (do¬List.Nodup (["part","place"]:List Sy);by decide +kernel) rfl (Or.inl rfl)) ik)))) (λ_=>pP rfl rfl ⋯) (λ_ _ _=>dJ) (λ_ _ _=>(a0 (a2 (vv 0) (xt (vv 1))))))))) (aj (sn mS.nd 2 jH) (aj (sn mS.nd 3 jH) (aj (fo (Ki (vv 0)) (gn mS.nd 4) (aj (sn mS.nd 5 (cl gfBx I (ac (vv 1) (a2 (vv 4) (vv 3))))) (pB (br (ck eB (bm PySem.F.plainAttrs_list PySem.F.slot_list_count PySem.F.type_list_count (RL I) (vv 5) (a1 (xi (vv 5) (eF iT aA)))) aA) (aD (j1 (cN I) (vv 2) (cl gfAg I (a2 (vv 0) (p8 E9 (vv 5) (fT (bm PySem.F.plainAttrs_list PySem.F.slot_list_index PySem.F.type_list_index (LX I) (vv 5) (a1 (xi (vv 5) (eF iT aA))))) (fT (eF iT aA))))) bW rfl)) cc) (aD (fo (il (vv 5)) (gn mS.nd 6) (aD (j1 (cN I) (vv 3) (vv 6) bW rfl))))))) (aD (aN (vv 2))))))),?_};{L,kt,xs,rfl,htq,akt,W,tb,kk}:=h;hfew:=W.cJ;ntP:L≠gH:=λz=>(do _;{ps,t}:=tb.cf;by rcases htq with e|⟨o,e⟩ <;> rw[z,t]at e <;> cases e);{_,O,L,kt,O,su htq λo Y hY fY eY=>?_};sS0:af (bP H (sS L)) Y:=λb u e=>(do nb:¬sS L b:=λz=>(do e←[dS z];-e);e←[eg nb];hY b u (λz=>nb (.inl z)) e);tbY:jC Y:=tb.keep λb u e hu=>hY b u (λz=>do !z;q||{o',q}:=htq;e←[q];-e;(by rcases hu with⟨ps,y⟩|⟨φ,y⟩ <;> cases y);e←[q];-e;by rcases hu with⟨ps,y⟩|⟨φ,y⟩ <;> cases y) e;tY:ai H Y:=λb us e=>hY b _ (λz=>do !z;by rcases htq with q|⟨o',q⟩ <;> rw[q]at e <;> cases e) e;aY:=akt.imp λe x q=>q.imp (R':=fB Y) tY λr=>r.ab tY;vP (kK (do[aY.1];())) (λj ys X=>af Y X/\∃es:List (KD×V×V),cx X ys es/\AL (EK (pW X) X) es (xs.take j)) {af.refl _,[],trivial,.nil} (λ_ _ X s'=>s'.1 _ _ eY) (λj e ys X p K1 K0 hx s' hp k1 k0=>?_) λX np ys s' hy hq=>?_;{sX,es',pr,ae}:=s';{r,I,p1,p2,p3}:=aY.at hx;sp:af X (upd X p (.tup [e.2.1,e.2.2])):=af.new hp;ep:(upd X p (.tup [e.2.1,e.2.2])) p=!(.tup [e.2.1,e.2.2]):=aB;(by generalize upd X p (.tup [e.2.1,e.2.2])=X1 at sp ep);sX1:=sX.trans sp;{b,vp,vo,vn,kq,hbv,h1,h2,h3,h4,h5}:=p3.ab sX1.ab;{p,_,O,aV.of ep,O,_,_,O,_,_,O,O,?_};dI (B:=K0 X1) ?_;{_,O,_,O,b,_,1,vo,hbv,O,aV.of h1,O,aE rfl,λt3 X3 g3 s3 e3=>?_};sX3:=sp.trans s3;k1 _ _ {sX.trans sX3,es'++[(.tup r.pt,e.2.1,vo)],?_,?_};cx.snoc (e:=(.tup r.pt,e.2.1,vo)) {t3,O,e3,(p2.ab sX1.ab).ab s3.ab} (pr.ab sX3.ab);[qz,I];(ae.imp λe x p=>p.imp sX3.ab λq=>q.ab sX3.ab).snoc {O,(p2.ab sX1.ab).ab s3.ab,GK.ab h3 s3.ab};{sX,es',pr,ae}:=s';ae←[aY.1,ze];nH:af X (upd X np (.lst ys)):=af.new hq;{np,ys,es',O,az.of aB,pr.ab nH.ab,?_,λoa X2 g2 s2 e2=>?_};this:ys.length<=kt.length:=hy;this:=aY.1;();e2←[pO _ [] (do[wz];xH ae W.nd),wz];sY2:=(sX.trans nH).trans s2;ao:AL (EK (pW X2) X2) es' xs:=ae.imp λe x p=>p.imp (nH.trans s2).ab λq=>q.ab (nH.trans s2).ab;foa:Y oa=none:=(sX.trans nH).free g2;(by clear ae pr hq hy nH);(g,X3,g3,s3,e3);(D,M,g4,s4,e4);s24:=s3.trans s4;C:=sY2.trans s24;ftu:Y g=none:=sY2.free g3;fen:Y D=none:=(sY2.trans s3).free g4;nte:g≠D:=aZ e3 g4;ntP':g≠gH:=λz=>(do _;{ps,t}:=tbY.cf;t←[←z,ftu];-t);neP':D≠gH:=λz=>(do _;{ps,t}:=tbY.cf;t←[←z,fen];-t);(by let S2:Sx->Prop:=λb=>b=g\/b=D\/b=gH);fix:∀{Z:Hp} {b:Sx} {u:HO},af (bP M S2) Z->M b=!u->(∀ps,u≠.cf ps)->b≠g->b≠D->Z b=!u:=λ{Z b u} s e hu h1 h2=>de s e λz=>(do z||z||z:=z;h1 z;h2 z;{ps,t}:=(tbY.same C).cf;e←[z,t];hu ps (qJ e).symm);tb4:=tbY.same C;fixT:∀{Z:Hp},af (bP M S2) Z->ai M Z:=λ{Z} s b us e=>fix s e (λps z=>nomatch z) (λz=>do e←[z,s4 _ _ e3];-e) (λz=>do e←[z,e4];-e);c:M L=!(.cI o (.dG kt)):=C _ _ eY;noe:oa≠D:=aZ (s3 _ _ e2) g4;noo:oa≠g:=aZ e2 g3;ntqt:L≠g:=λz=>(do c←[z,s4 _ _ e3];-c);ntqe:L≠D:=λz=>(do c←[z,e4];-c);back:∀{Z:Hp},af (bP M S2) Z->af (bP H (sS L)) Z:=λ{Z} s b u e=>(do nb:¬sS L b:=λz=>(do e←[dS z];-e);e←[eg nb];e':=C _ _ (hY b u (λz=>nb (.inl z)) e);de s e' λz=>?_;z||z||z:=z;absurd (fY _ ftu) (do[←z,e];λy=>nomatch y);absurd (fY _ fen) (do[←z,e];λy=>nomatch y);nb (.inr z));⟨_,O,L,kt,O,.inr ⟨o,c,?_⟩⟩;hZ (λj σ Z=>FV λ(E':List Key->Prop) (T':List Key->Prop) (ku:List (KD×V×V)) (ke:List (KD×V×V)) (u4:Option V) (u5:Option V)=>∃(u6:Option V),mT (σ=[!(.ref L),!(.ref oa),!(.ref g),!(.ref D),u4,u5,u6]) (af (bP M S2) Z) (Z g=!(.dG ku)) (SM ku T') (Z D=!(.dG ke)) (ic (fy ke E') (jC Z) (ku.length<=j) (ke.length<=200 * j/\pH xs j E' T'))) ⟨λ_=>False,λ_=>False,[],[],none,none,none,O,tJ,s4 _ _ e3,SM.nil,e4,fy.nil,tb4,qe _,qv _,.z⟩ (λj σ Z ⟨_,_,_,_,_,_,_,_,s,_,_,_,_⟩=>fix s c (λps z=>nomatch z) ntqt ntqe) ?_ ?_;(j,e,σ,Z,hx,{E',T',ku,ke,u4,u5,u6,rfl,sZ,etZ,smT,eeZ,smE,tbZ,hkul,hkel,htu},Nx,R);a4:=aY.imp λe x q=>q.imp (R':=fB M) C.ab λr=>r.ab C.ab;{r,I,p1,p2,p3}:=a4.at hx;hjl:j<xs.length:=(qk.mp I).1;hrm:=qw I;tZ:=fixT sZ;ao4:=ao.imp λe x q=>q.imp (R':=pW M) s24.ab λr=>r.ab s24.ab;aoZ:=ao4.imp λe x q=>q.imp (R':=pW Z) tZ λr=>r.ab tZ;eoZ:=fix sZ (s24 _ _ e2) (λps z=>nomatch z) noo noe;{_,O,_,O,_,O,oa,e.2.1,D,es',xs,ke,E',r.pt,Pn,O,.inl eoZ,aoZ.px λe x _ hx q=>{q.1,q.2.1,h9 (W.w x hx).ou.ne q.2.2},W.nd,λx hx=>(W.w x hx).pt.ne,hfew,.inl eeZ,smE,h9 (W.w r hrm).pt.ne (p2.ab tZ),.inr (W.w r hrm).pt,λk o h=>W.pn h,λZ1 U ws ini las s1 gwa f S wo hil J=>?_};S:AL (iH Z1) ws (ini++[las]):=S.px λv k _ hk q=>Hf (J k hk).ne q;{us,v,rfl,aus,hv}:=wQ S;hul:us.length=ini.length:=aus.1;lay:PyData.canLayAll0 ((ini++[las]).map tD)=true:=(tR J).1;llas:Pn las:=J las (zy _ (qx.mpr rfl));tb1:=tbZ.same s1;nwt:U≠g:=(aZ etZ gwa).symm;nwe:U≠D:=(aZ eeZ gwa).symm;nwP:U≠gH:=λz=>(do _;{ps,t}:=tbZ.cf;t←[←z,gwa];-t);tK (λσ' Z2=>vA λ(T2:List Key->Prop) (N:List (KD×V×V))=>mT (σ'=[!(.ref L),!(.ref oa),!(.ref g),!(.ref D),!e.2.1,!(.ref U),u6]) (af (bP M S2) Z2) (Z2 g=!(.dG N)) (SM N T2) (Z2 D=!(.dG ke)) (ic (jC Z2) (N.length<=j+1) (Z2 U=!(.lst (us++[v]))) (ai Z1 Z2/\pH xs (j+1) (λk=>E' k\/k∈ini++[las]) T2))) (λNx R=>?_) ?_;d1:=(OE S).dv;{_,O,.inl {O,_,az.of f},_,O,1,O,U,_,-1,v,O,O,az.of f,pR us v,v,tD las,U,_,_,O,O,(aK hv).dv,az.of f,d1,llas.lay,lay,qg (eh las) ⋯,_,_,O,O,_,O,?_};sZ1:af (bP M S2) Z1:=sZ.trans s1;hin<|las∈ini;cW (qI (do this:=(Ig (las:=las) wo.nd).mpr hin;())) ?_;{r0,hr0,er0}:∃r0,∃h:r0<ini.length,ini[r0]=las:=z8.mp hin;dd:∀(m:Nat) d,m<r0->((ini++[las]).map tD)[m]?=!d->PyData.eqv d (tD las)=false:=λm d hm hd=>(do hd←[qu,zv (),qh (do():m<ini.length)];-hd;¬PyData.eqv (tD _) (tD las)=false;[hP];decide_eq_false λz=>?_;this:=jv.mp (m7.mp wo.nd) m r0 () hr0 hm;this (z.trans er0.symm));atr:((ini++[las]).map tD)[r0]?=!(tD las):=(do[qu,zv hr0,qh hr0,er0];2);{_,O,_,O,_,O,_,O,.inl {O,_,az.of f},_,O,1,O,U,_,-1,v,O,O,az.of f,pR us v,v,tD las,U,_,_,r0,O,O,(aK hv).dv,az.of f,d1,llas.lay,lay,qg (eh las) ⋯,{tD las,atr,do[hP];qI rfl},dd,?_};{_,O,1,O,_,O,U,_,O,az.of f,λla Z3 g3' s3' e3'=>?_};e3'←[Ri ()];s13:=s1.trans s3';tZ3:=(fixT sZ).trans s13.ab;a3:=(aY.imp λe x q=>q.imp (R':=fB M) C.ab λr=>r.ab C.ab).imp λe x q=>q.imp (R':=fB Z3) tZ3 λr=>r.ab tZ3;etq3:=s13 _ _ (fix sZ c (λps z=>nomatch z) ntqt ntqe);tb3:=tb1.same s3';adr:=(OU aus r0).imp λv k q=>iH.ab q s3'.ab;hdne:ini.drop r0≠[]:=λz=>(do this:=congrArg List.length z;this←[yf,yt];());{L,la,kt,xs,us.drop r0,ini.drop r0,O,.inr {o,etq3},a3,W.nd,e3',adr,hdne,λk hk=>nO.mp (wo.F8 (gr hk)),tb3,λZ4 vm m s4' tb4' hm hmax gm=>?_};t34:=yX tb3 s4';k34:∀{b:Sx} {u:HO},Z3 b=!u->(∀ps,u≠.cf ps)->Z4 b=!u:=λe h=>My.i8 tb3 s4' e h;et4:=k34 (s13 _ _ etZ) λps z=>nomatch z;ee4:=k34 (s13 _ _ eeZ) λps z=>nomatch z;ew4:=k34 (s3' _ _ f) λps z=>nomatch z;{g,ku,.tup m,O,et4,gm,f6 (),?_};t4:ai Z4 (upd Z4 g (.dG (pG ku (.tup m) vm (.bl true)))):=ai.wd et4;sZ4:af (bP M S2) Z4:=λb u e=>(do e':=(sZ.trans s13) _ _ e;s4' _ _ ?_;[bR (λz=>?_)];e';!z;e←[dS (.inr (.inr rfl))];-e);R _ _ {λa=>a=m\/T' a,_,O,sZ4.wr (dS (.inl rfl)),aB,smT.put _ _ λk=>Iff.rfl,do[ak nte.symm];ee4,tb4'.wr et4 (λps z=>nomatch z) (λφ z=>nomatch z),qg (iN _ _ _ _) (),do[ak nwt];ew4,(s3'.ab.trans t34).trans t4,htu.yes I wo {hr0,er0} hm hmax};bU (decide_eq_false (do this:=(not_congr (Ig (las:=las) wo.nd)).mpr hin;())) ?_;R _ _ {T',ku,O,sZ1,s1 _ _ etZ,smT,s1 _ _ eeZ,tb1,(),f,ai.refl _,htu.no I wo hin};(σ',Z2,{T2,N,rfl,s2',et2,sm2,ee2,tb2,hl2,ew2,t12,htu'});aw2:=S.imp λv k q=>iH.ab q t12;{_,O,U,O,{_,az.of ew2},bD (xs:=us++[v]) (λi σ Z5=>rQ λ(E5:List Key->Prop) (G:List (KD×V×V)) (u6:Option V)=>mT (σ=[!(.ref L),!(.ref oa),!(.ref g),!(.ref D),!e.2.1,!(.ref U),u6]) (af (bP M S2) Z5) (Z5 g=!(.dG N)) (Z5 D=!(.dG G)) (fy G E5) (ic (G.length<=ke.length+i) (jC Z5) (Z5 U=!(.lst (us++[v]))) (ai Z2 Z5/\∀k,E5 k↔(E' k\/k∈(ini++[las]).take i)))) {E',ke,u6,O,s2',et2,ee2,smE,Nat.le_refl _,tb2,ew2,ai.refl _,λk=>do 0} (λi σ Z5 _ ⟨_,_,_,_,_,_,_,_,_,_,e,_⟩=>az.of e) ?_ ?_};(i,x,σ,Z5,hx',{E5,G,u6',rfl,s5,et5,ee5,sm5,hl5,tb5,ew5,t5,hE5},Nx,R);{k,hk,gx}:=aw2.at hx';hi:i<(ini++[las]).length:=(qk.mp hk).1;hi←[qi,qt];{_,O,_,O,D,G,.tup k,O,ee5,GK.ab gx t5,f6 (),?_};t6:ai Z5 (upd Z5 D (.dG (pG G (.tup k) x (.bl true)))):=ai.wd ee5;R _ _ {λa=>a=k\/E5 a,_,_,O,s5.wr (dS (.inr (.inl rfl))),do[ak nte];et5,aB,sm5.NZ (J k (qw hk)).ne _ _ λa=>Iff.rfl,qg (iN _ _ _ _) (),tb5.wr ee5 (λps z=>nomatch z) (λφ z=>nomatch z),do[ak nwe];ew5,t5.trans t6,λa=>?_};¬((a=k\/E5 a)↔_);[hE5,qz,hk];#[_,Option.toList_some,List.mem_append,List.mem_singleton];1;(h||h||h);.inr (.inr h);.inl h;.inr (.inl h);(h||h||h);.inr (.inl h);.inr (.inr h);.inl h;(σ,Z5,{E5,G,u6',rfl,s5,et5,ee5,sm5,hl5,tb5,ew5,t5,hE5});hwl:(us++[v]).length=(ini++[las]).length:=S.1;hE5←[hwl,ze];hwl2:(us++[v]).length=ini.length+1:=(do[qi,qt,hul]);R _ _ {E5,T2,N,G,_,_,_,O,s5,et5,sm2,ee5,sm5,tb5,hl2,do hl5←[hwl2];(),(funext λk=>propext (hE5 k):E5=λk=>E' k\/k∈ini++[las])▸htu'};(σ,Z,{E',T',ku,ke,u4,u5,u6,rfl,sZ,etZ,smT,eeZ,smE,tbZ,hkul,hkel,htu});{_,O,kk Z g ku E' T' (back sZ) (.inr {o,fix sZ c (λps z=>nomatch z) ntqt ntqe}) tbZ (fY _ ftu) etZ (akt.1▸htu) smT}
def DN(T:Txt K mg tk)(F:FO K mg "_law_facts" oJ)(t:Aa P w K mg base)(I:yQ P w K mg base)(gfAt:yl P w K mg base)(gfBf:zM P w K mg base)(gfBb:yE P w K mg base)(gfAe:yT P w K mg base)(gfAs:Ag P w K mg base):zI P w K mg base:=do aM F oU (ip λ_ _=>rfl) {} λfa cdv A outer s H vs Q E G h=>?_;hu1:(A.deeper (envOfC "_law_facts" (ag oJ) ↑s fa cdv)).units+1<cLine:=cR G;{_,(aj (sn oU.nd 2 (ce c9 (aG eP (cl t G (a2 (vv 0) aA)) aA) aA)) (aj (sn oU.nd 3 HH) (aj (fo (il (bK (ac aO (ac aO (ac aO (ac aO (ac aO (ac aO (ac aO (a2 aO aO)))))))))) (gn oU.nd 4) (aD (NQ hu1 (vv 3) (vv 4) (bK cS) rfl))) (aj (sn oU.nd 5 (cl gfBf G (ac (cl I G (a2 (cl t G (a2 (vv 0) aA)) (vv 2))) (a2 (vv 3) (vv 1))))) (aj (sn oU.nd 6 (cl gfBb G (ac (cl I G (a2 (cl t G (a2 (vv 0) aA)) (vv 2))) (ac (vv 3) (a2 (vv 1) (vv 5)))))) (aj (mX (cl gfAe G (ac (cl I G (a2 (cl t G (a2 (vv 0) aA)) (vv 2))) (ac (vv 3) (a2 (vv 1) (vv 6)))))) (aj (mX (cl gfAs G (ac (cl I G (a2 (cl t G (a2 (vv 0) aA)) (vv 2))) (ac (vv 3) (a2 (vv 1) (vv 5)))))) (aj (mX (cl gfAt G (ac (cl I G (a2 (cl t G (a2 (vv 0) aA)) (vv 2))) (ac (vv 3) (a2 (vv 1) (vv 5)))))) (aD (aN (vv 3))))))))))),?_};{sp,ns,r,rfl,hs,hn,J,kk}:=h;{_,O,sp,ns,0,O,hs,⋯,λc=>{_,_,O,O,(by show(0:Int)<2;decide),O,?_}};(by generalize decide (V.int (c % 2)=V.int 1)=dg);(dq,H1,g1,s1,e1);{aE rfl,λlp H2 g2 s2 e2=>?_};s02:=s1.trans s2;{lp,O,{_,az.of e2},bD (xs:=(["births","places","cuts","signs","marks","notes","lines","cells","leaves"]:List Sy).map V.str) (λj σ H3=>vA λ(F:Nat->Sx) (u1:Option V)=>mT (σ=[!(.ref sp),!(.ref r),!(.bl dg),!(.ref dq),u1,none,none]) (af H H3) (H3 lp=!(.lst ((["births","places","cuts","signs","marks","notes","lines","cells","leaves"]:List Sy).map V.str))) (H3 dq=!(.dK (cE F j))) (∀i,i<j->H (F i)=none/\H3 (F i)=!(.lst [])) (∀i,i<j->∀i',i'<j->F i=F i'->i=i')) {λ_=>dq,none,O,s02,e2,s2 _ _ e1,λi z=>absurd z (vj i),λi z=>absurd z (vj i)} (λj σ H3 _ ⟨_,_,_,_,e,_,_,_⟩=>az.of e) ?_ ?_};(j,x,σ,H3,hx,{F,u1,rfl,s3,el,ed,U,hi},Nx,hNx);hj:j<9:=(qk.mp hx).1;ex:x=kV (kN j):=(do hx←[qu];¬x=.str _;[zm];(by cases q:(["births","places","cuts","signs","marks","notes","lines","cells","leaves"]:List Sy)[j]? with|none|some z=>?_);hx←[q];-hx;hx←[q];(qJ hx).symm);{aE rfl,λq H4 g4 Y e4=>?_};nq:q≠dq:=(aZ ed g4).symm;hv:bN (cE F j) (kN j)=none:=(do(by cases e:bN (cE F j) (kN j)with|none|some v=>?_);2;this:=OS e;(by unfold cE at this);this←[z9];{i,hi1,hi2}:=qf.mp this;hi3:=qo.mp hi1;absurd (LJ i () j hj hi2) ());{_,O,_,O,dq,_,O,.inl {cE F j,kN j,Y _ _ ed,ex,cG (do@cE;[qj,zo];()),O},?_};F0:∀i,i<j->(if i=j then q else F i)=F i:=λi h=>qB ();ne:∀i,i<j->F i≠q:=λi h=>aZ (U i h).2 g4;neq:∀i,i<j->F i≠dq:=λi h z=>(do this:=(U i h).2;this←[z,ed];-this);hNx _ _ {λi=>if i=j then q else F i,_,O,(s3.trans Y).wr g1,?_,?_,λi h=>?_,λi h i' h' e=>?_};[ak (λz=>do el←[z,ed];-el)];Y _ _ el;[aB,K' _ hv];@cE;[yi,z7];this:(List.range j).map (λi=>(kN i,V.ref (if i=j then q else F i)))=(List.range j).map (λi=>(kN i,V.ref (F i))):=yu λi hi=>(do[F0 i (qo.mp hi)]);[this];0;¬(H (if i=j then q else F i)=none/\(upd H4 dq _) (if i=j then q else F i)=_);z<|i=j;!z;[qF rfl];{s3.free g4,do[ak nq];e4};[qB z];hij:i<j:=();{(U i hij).1,do[ak (neq i hij)];Y _ _ (U i hij).2};e:(if i=j then q else F i)=(if i'=j then q else F i'):=e;z<|i=j;z'<|i'=j;();e←[qF z,qB z'];absurd e.symm (ne i' ());z'<|i'=j;e←[qB z,qF z'];absurd e (ne i ());e←[qB z,qB z'];hi i () i' () e;(σ,H3,{F,u1,rfl,s3,el,ed,U,hi});d:∀i,i<9->∀j,j<9->i≠j->F i≠F j:=λi a j b n e=>n (hi i a j b e);old:∀{b:Sx} {o:HO},H b=!o->∀i,i<9->b≠F i:=λe i a z=>(do e←[z,(U i a).1];-e);oq:∀i,i<9->F i≠dq:=λi a z=>(do this:=(U i a).2;this←[z,ed];-this);{_,O,sp,ns,1,O,hs.same s3,⋯,λc1=>{_,O,c1,dg,O,λH4 d1 Y g4 w4=>?_}};f1:∀{b:Sx} {o:HO},H3 b=!o->b≠d1:=λe z=>(do e←[z,g4];-e);{_,O,_,O,d1,dq,r,F,O,w4,Y _ _ ed,Y _ _ (U 0 ⋯).2,Y _ _ (U 1 ⋯).2,Y _ _ (U 2 ⋯).2,(s3.trans Y) _ _ J,f1 (s3 _ _ J),λi a=>{f1 (U i a).2,old J i a},hi,λH5 kq kn bs es cs rs cu o5 gk ek kn5 k0 k1 eb ev ec fi=>?_};S5:af H H5:=λb o e=>o5 b o ((s3.trans Y) _ _ e) λz=>(do z||z||z||z:=z;f1 (s3 _ _ e) z;old e 0 ⋯ z;old e 1 ⋯ z;old e 2 ⋯ z);q5:H5 dq=!(.dK (cE F 9)):=o5 _ _ (Y _ _ ed) λz=>(do z||z||z||z:=z;f1 ed z;oq 0 ⋯ z.symm;oq 1 ⋯ z.symm;oq 2 ⋯ z.symm);F5:∀i,i<9->3<=i->H5 (F i)=!(.lst []):=λi a b=>o5 _ _ (Y _ _ (U i a).2) λz=>(do z||z||z||z:=z;f1 (U i a).2 z;d i a 0 ⋯ () z;d i a 1 ⋯ () z;d i a 2 ⋯ () z);kF:∀i,i<9->kq≠F i:=λi a z=>(do gk←[z,Y _ _ (U i a).2];-gk);{_,O,sp,ns,2,O,hs.same S5,⋯,λc2=>{_,O,c2,dg,O,λH6 d2 s6 g6 w6=>?_}};f2:∀{b:Sx} {o:HO},H5 b=!o->b≠d2:=λe z=>(do e←[z,g6];-e);l5:∀i,i<9->∃xs,H5 (F i)=!(.lst xs):=λi a=>(do h0<|i=0;[h0];{_,eb};h1<|i=1;[h1];{_,ev};h2<|i=2;[h2];{_,ec};{_,F5 i a ()});fd2:∀i,i<9->F i≠d2:=λi a=>let⟨_,e⟩:=l5 i a;f2 e;{_,O,_,O,_,O,d2,dq,r,kq,F,kn,O,w6,s6 _ _ q5,s6 _ _ (F5 3 ⋯ ⋯),(S5.trans s6) _ _ J,s6 _ _ ek,kn5.ab s6.ab,k0,k1,f2 (S5 _ _ J),f2 ek,fd2 3 ⋯,old J 3 ⋯,kF 3 ⋯,λH7 S n xs nq kvs o7 e3 an W n24 sok gn en kl nmd fr=>?_};t7:ai H5 H7:=s6.ab.trans (mW o7 λb z xs e=>do rfl||rfl:=z;{_,_,q}:=w6;e←[q];-e;e←[s6 _ _ (F5 3 ⋯ ⋯)];-e);k7:∀{b:Sx} {o:HO},H5 b=!o->b≠F 3->H7 b=!o:=λe n=>o7 _ _ (s6 _ _ e) λz=>z.elim (f2 e) n;S7:af H H7:=λb o e=>k7 (S5 _ _ e) (old e 3 ⋯);q7:H7 dq=!(.dK (cE F 9)):=k7 q5 (oq 3 ⋯).symm;F7:∀i,i<9->4<=i->H7 (F i)=!(.lst []):=λi a b=>k7 (F5 i a ()) (d i a 3 ⋯ ());l7:∀i,i<9->∃xs,H7 (F i)=!(.lst xs):=λi a=>(do h<|i=3;[h];{_,e3};{ys,e}:=l5 i a;{ys,k7 e (d i a 3 ⋯ h)});nq6:∀{b:Sx} {o:HO},H5 b=!o->b≠nq:=λe z=>(do gn←[←z,s6 _ _ e];-gn);{_,O,sp,ns,3,O,hs.same S7,⋯,λc3=>{_,O,c3,dg,O,λH8 d3 s8 g8 w8=>?_}};f3:∀{b:Sx} {o:HO},H7 b=!o->b≠d3:=λe z=>(do e←[z,g8];-e);fd3:∀i,i<9->F i≠d3:=λi a=>let⟨_,e⟩:=l7 i a;f3 e;{_,O,_,O,_,O,d3,dq,r,nq,F,S,n,xs,kvs,O,w8,s8 _ _ q7,s8 _ _ e3,an.imp λv i g=>g.ab s8.ab,W,n24,s8 _ _ (F7 4 ⋯ ⋯),s8 _ _ (F7 5 ⋯ ⋯),(S7.trans s8) _ _ J,s8 _ _ en,kl,nmd.same s8,f3 (S7 _ _ J),λi a=>{fd3 i a,old J i a},hi,λk lq e=>?_,λH9 M m N q ms ns2 o9 e4 am wm hm e5 an5 wn=>?_};{p,lq',us,_,_,hu,h1,_}:=nmd.2 k _ e;-hu;h6:=fr k lq e;{f3 h1,(λz=>do h6←[z,s6 _ _ (F5 4 ⋯ ⋯)];-h6),λz=>do h6←[z,s6 _ _ (F5 5 ⋯ ⋯)];-h6};t9:ai H7 H9:=s8.ab.trans (mW o9 λb z xs e=>do rfl||rfl||rfl||rfl:=z;{_,_,q}:=w8;e←[q];-e;e←[s8 _ _ (F7 4 ⋯ ⋯)];-e;e←[s8 _ _ (F7 5 ⋯ ⋯)];-e;e←[s8 _ _ en];-e);k9:∀{b:Sx} {o:HO},H7 b=!o->b≠F 4->b≠F 5->b≠nq->H9 b=!o:=λe n1 n2 n3=>o9 _ _ (s8 _ _ e) λz=>(do z||z||z||z:=z;f3 e z;n1 z;n2 z;n3 z);S9:af H H9:=λb o e=>k9 (S7 _ _ e) (old e 4 ⋯) (old e 5 ⋯) (nq6 (S5 _ _ e));Fq:∀i,i<9->F i≠nq:=λi a=>let⟨_,e⟩:=l5 i a;nq6 e;q9:H9 dq=!(.dK (cE F 9)):=k9 q7 (oq 4 ⋯).symm (oq 5 ⋯).symm (nq6 q5);kq9:H9 kq=!(.lst kn):=k9 (k7 ek (kF 3 ⋯)) (kF 4 ⋯) (kF 5 ⋯) (nq6 ek);F9:∀i,i<9->6<=i->H9 (F i)=!(.lst []):=λi a b=>k9 (F7 i a ()) (d i a 4 ⋯ ()) (d i a 5 ⋯ ()) (Fq i a);l9:∀i,i<9->∃xs,H9 (F i)=!(.lst xs):=λi a=>(do h4<|i=4;[h4];{_,e4};h5<|i=5;[h5];{_,e5};{ys,e}:=l7 i a;{ys,k9 e (d i a 4 ⋯ h4) (d i a 5 ⋯ h5) (Fq i a)});{_,O,sp,ns,4,O,hs.same S9,⋯,λc4=>{_,O,c4,dg,O,λH10 d4 f g10 w10=>?_}};f4:∀{b:Sx} {o:HO},H9 b=!o->b≠d4:=λe z=>(do e←[z,g10];-e);kn9:KN H9 kn:=(kn5.ab t7).ab t9;{_,O,_,O,_,O,d4,dq,r,kq,F,kn,O,w10,f _ _ q9,f _ _ (F9 6 ⋯ ⋯),f _ _ (F9 7 ⋯ ⋯),(S9.trans f) _ _ J,f _ _ kq9,kn9.ab f.ab,k0,k1,f4 (S9 _ _ J),f4 kq9,λi a=>{let⟨_,e⟩:=l9 i a;f4 e,old J i a,kF i a},d 6 ⋯ 7 ⋯ ⋯,λB L a C b ls cs2 o11 e6 aL WL' e7 aC WC'=>?_};t11:ai H9 B:=f.ab.trans (mW o11 λb z xs e=>do rfl||rfl||rfl:=z;{_,_,q}:=w10;e←[q];-e;e←[f _ _ (F9 6 ⋯ ⋯)];-e;e←[f _ _ (F9 7 ⋯ ⋯)];-e);Z:∀{b:Sx} {o:HO},H9 b=!o->b≠F 6->b≠F 7->B b=!o:=λe n1 n2=>o11 _ _ (f _ _ e) λz=>(do z||z||z:=z;f4 e z;n1 z;n2 z);S11:af H B:=λb o e=>Z (S9 _ _ e) (old e 6 ⋯) (old e 7 ⋯);q11:B dq=!(.dK (cE F 9)):=Z q9 (oq 6 ⋯).symm (oq 7 ⋯).symm;kq11:=Z kq9 (kF 6 ⋯) (kF 7 ⋯);e811:B (F 8)=!(.lst []):=Z (F9 8 ⋯ ⋯) (d 8 ⋯ 6 ⋯ ⋯) (d 8 ⋯ 7 ⋯ ⋯);{_,O,sp,ns,5,O,hs.same S11,⋯,λc5=>{_,O,c5,dg,O,λH12 d5 D g12 w12=>?_}};f5:∀{b:Sx} {o:HO},B b=!o->b≠d5:=λe z=>(do e←[z,g12];-e);kn11:=kn9.ab t11;{_,O,_,O,_,O,d5,dq,r,kq,F,kn,O,w12,D _ _ q11,D _ _ e811,(S11.trans D) _ _ J,D _ _ kq11,k0,(),λv hv=>(kn11.np hv).ab D.ab,f5 (S11 _ _ J),f5 kq11,f5 e811,old J 8 ⋯,kF 8 ⋯,λy ys o13 e8 ly lf=>?_};t13:ai B y:=D.ab.trans (mW o13 λb z xs e=>do rfl||rfl:=z;{_,_,q}:=w12;e←[q];-e;e←[D _ _ e811];-e);k13:∀{b:Sx} {o:HO},B b=!o->b≠F 8->y b=!o:=λe n=>o13 _ _ (D _ _ e) λz=>z.elim (f5 e) n;q13:Rd y dq (.dK (cE F 9)):=.inl (k13 q11 (oq 8 ⋯).symm);up7:∀i,i<9->i≠4->i≠5->i≠6->i≠7->i≠8->∀{o},H7 (F i)=!o->y (F i)=!o:=λi a n4 n5 n6 n7 n8 {o} e=>k13 (Z (k9 e (d i a 4 ⋯ n4) (d i a 5 ⋯ n5) (Fq i a)) (d i a 6 ⋯ n6) (d i a 7 ⋯ n7)) (d i a 8 ⋯ n8);up5:∀i,i<3->∀{o},H5 (F i)=!o->y (F i)=!o:=λi a {o} e=>up7 i () () () () () () (k7 e (d i () 3 ⋯ ()));up9:∀i,i<6->∀{o},H9 (F i)=!o->y (F i)=!o:=λi a {o} e=>k13 (Z e (d i () 6 ⋯ ()) (d i () 7 ⋯ ())) (d i () 8 ⋯ ());X:∀i,i<8->∀{o},B (F i)=!o->y (F i)=!o:=λi a {o} e=>k13 e (d i () 8 ⋯ ());l13:∀i,i<9->∃xs,y (F i)=!(.lst xs):=λi a=>(do h8<|i=8;[h8];{_,e8};h6<|i=6;[h6];{_,X 6 ⋯ e6};h7<|i=7;[h7];{_,X 7 ⋯ e7};{zs,e}:=l9 i a;{zs,up9 i () e});R:=t11.trans t13;vl:=fi.vl;pl:=fi.pc.1;{_,O,kk y dq F ⟨S,n,M,m,N,q,L,a,C,b,rs,cu⟩ (λb o e=>k13 (S11 _ _ e) (old e 8 ⋯)) {{xs,ms,ns2,{q13,hi,λi a _ _ _=>l13 i a,up7 3 ⋯ ⋯ ⋯ ⋯ ⋯ ⋯ e3,an.imp λv i g=>(g.ab t9).ab R,W,up9 4 ⋯ e4,am.imp λv i g=>g.ab R,wm,up9 5 ⋯ e5,an5.imp λv i g=>g.ab R,wn}},do¬m<=63;(),{bs,es,cs,60,{q13,hi,λi a _=>l13 i a,up5 0 ⋯ eb,up5 1 ⋯ ev,up5 2 ⋯ ec,((fi.ab t7).ab t9).ab R},⋯,qg (xh rs) ()},{ys,e8,ly,lf},{cE F 9,F 6,ls,F 7,cs2,q13,cX F 6 ⋯,X 6 ⋯ e6,aL.imp λv i g=>kG.ab g t13,WL',cX F 7 ⋯,X 7 ⋯ e7,aC.imp λv i g=>ir.ab g t13,WC'},sok}}
def Fs(T:Txt K mg tk)(F:FO K mg "has_leave" rS)(b:yH P w K mg base)(a:zi P w K mg base):x_ P w K mg base:=do aM F IP (RQ λ_ _ _ _ _ _=>rfl) (λ_ _ _ _ h=>P8 h) λfa d A outer s H vs Q E c h=>?_;{_,(aj (br (ck c9 (vv 3) (xl (vv 0))) (aD (aN bW)) cc) (aj (sn IP.nd 6 (cl b c (a2 (vv 1) (vv 4)))) (aj (br (dB (cl a c (ac (vv 2) (ac (vv 6) (a2 (vv 3) (vv 5)))))) (aD (aN bW)) cc) (aD (aN (BY (ce c9 (vv 5) aO) (J_ (cl a c (ac (vv 2) (ac (vv 6) (a2 (vv 3) aO))))))))))),?_};h.2.elim
def B_(T:Txt K mg tk)(F:FO K mg "row_of" tS)(d:sJ P w K mg base)(e:ui P w K mg base):oI P w K mg base:=do aM F AU (ip λ_ _=>rfl) {} λfa V A outer s H vs Q E C h=>?_;{_,(aD (aN (cl d C (a1 (z_ (il (cl e C (a2 (vv 0) (vv 1)))) (λ_ _ _=>dJ) (λ_ _ _=>(p8 GB (vv 0) (fT aA) (fT aA)))))))),?_};{fa,M,pt,S,n,rfl,fg,r,c,R}:=h;W:WS S n:=(do _;{_,_,_,_,_,_,_,W}:=fg;W);p4:=W.vD pt;{_,O,_,O,fa,M,pt,S,n,O,fg,r,c,λH1 q zs U g1 z p=>?_};D:zs.length<=1400:=(do[p.1];qg (qg (we _ _) (do[zo];qe _)) W.cJ);{q,O,{_,az.of z},c7 (xs:=zs) (cL ()) (λj us H'=>af H1 H'/\AN (PL (cn S) (r_ S) (DS S) H') us ((bM S n pt).take j)) {af.refl _,.nil} (λ_ _ H' s'=>az.of (s'.1 _ _ z)) (λj x us H' K1 K0 I s' k1 k0=>?_) λy up us s' hu6 m=>?_};{s',f}:=s';{i,ei,sn}:=p.at I;{b,vq,vn,J,kq,vg,rfl,h1,h2,h3,X,h5,h6}:=SN.ab sn s'.ab;tk:(bM S n pt).take (j+1)=(bM S n pt).take j++[i]:=(do[qz,ei];2);dI (B:=K0 H') ?_;{_,O,1,O,4,O,b,_,O,aV.of h1,(by show ¬(HT.b_ 6 0 (some 1)=0/\HT.b_ 6 6 (some 4)=6);decide),λG H7 g7 o e7=>k1 _ _ {s'.trans o,?_}};[tk];k:=o.ab;(f.imp λv i g=>g.ab k).snoc {G,vn,J,.ref kq,O,e7,h3.ab k,X.ab k,.tup (o _ _ h5) (.cons (.int _) (.cons (.int _) (.cons (.int _) .nil)))};{L,f}:=s';t:af y (upd y up (.lst us)):=af.new m;f←[show zs.length=(bM S n pt).length from p.1,ze];a:=(U.trans L).trans t;{up,us,cn S,r_ S,DS S,bM S n pt,bM S n pt,2,O,az.of aB,f.imp λv i g=>g.ab t.ab,O,p4,λH8 N ws Z Y e8 aw=>R H8 N ws (a.trans Z) (a.free Y) e8 aw}
def C0(T:Txt K mg tk)(F:FO K mg "stood_in" sD)(gfBl:yR P w K mg base):yN P w K mg base:=do aM F tI (ll λ_=>rfl) {} λfa cdv A outer s H vs Q E D h=>?_;{_,(aj (sn tI.nd 1 (cl gfBl D (a1 (vv 0)))) (aj (sn tI.nd 2 jH) (aj (fo (rr (vv 0)) (gt (df (gn tI.nd 3) (df (gn tI.nd 4) ik))) (aD (j1 (cN D) (vv 2) (vv 3) (rY (ck (p_ (cN D)) (vv 3) (vv 1)) (Co (v:=.ref cw) rfl T.cw rfl) (xt (vv 4))) rfl))) (aD (aN (vv 2)))))),?_};{c,kt,xs,rfl,i,akt,W,tb,ma,kk}:=h;hfew:=W.cJ;ntup:∀b,sS c b->∀us,H b≠some (.tup us):=λb z us e=>(do rfl||rfl:=z;(by rcases i with q|⟨o',q⟩ <;> rw[q]at e <;> cases e);{ps,t}:=tb.cf;e←[t];-e);{_,O,c,kt,xs,O,i,akt,W,tb,λH1 B ku E' T s1 n tb1 gtu G tur smT=>?_};t01:=OO s1 ntup;(st,H2,J,s2,e2);g:=Rd.same n s2;t02:=t01.trans s2.ab;nst:st≠B:=(aZ G J).symm;k:H st=none:=(do this:=s1.free J;z<|sS c st;z||z:=z;J←[z];(by rcases n with q|⟨o',q⟩ <;> rw[q]at J <;> cases J);{ps,t}:=tb1.cf;t←[←z,J];-t;this←[eg z];this);(by dsimp only[cM,nE]);GW ?_;{_,O,c,kt,O,su g λo Y hY fY eY=>?_};tY:ai H2 Y:=λb us e=>hY b _ (λz=>do !z;by rcases g with q|⟨o',q⟩ <;> rw[q]at e <;> cases e) e;nqu:B≠c:=λz=>(do this:=s2 _ _ G;this←[z];f:=dS (H:=H) (S:=sS c) (b:=c) (.inl rfl);gtu←[z];by rcases i with q|⟨o',q⟩ <;> rw[gtu]at q <;> cases q);nqs:st≠c:=λz=>(do e2←[z];k←[z];by rcases i with q|⟨o',q⟩ <;> rw[k]at q <;> cases q);sYd:af (bP H (sS c)) Y:=λb u e=>(do nb:¬sS c b:=λz=>(do e←[dS z];-e);hY b u (λz=>nb (.inl z)) (s2 _ _ (s1 _ _ e)));tbY:jC Y:=(tb1.same s2).keep λb u e hu=>hY b u (λz=>do !z;q||{o',q}:=g;e←[q];-e;(by rcases hu with⟨ps,y⟩|⟨φ,y⟩ <;> cases y);e←[q];-e;by rcases hu with⟨ps,y⟩|⟨φ,y⟩ <;> cases y) e;Z:=hY B _ nqu (s2 _ _ G);d:=hY st _ nqs e2;I:=t02.trans tY;aY:=akt.imp λe x q=>q.imp (R':=fB Y) I λr=>r.ab I;maY:=I _ _ ma;lC (λj σ X=>rQ λ(ks:List (KD×V×V)) (M:Option V) (u4:Option V)=>ic (σ=[!(.ref c),!(.ref B),!(.ref st),M,u4]) (af (del Y st) X) (X st=!(.dG ks)) (AL (EK (pW X) X) ks ((xs.take j).map (ef T)))) {[],none,none,O,(λb u e=>lJ _ _ e),d,.nil} (λj σ X ⟨_,_,_,_,s,_,_⟩=>s _ _ (do[bR nqs.symm];eY)) ?_ ?_;(j,e,σ,X,p,hx,{ks,M,u4,rfl,L,eX,R},hp,Nx,hNx);tX:ai Y X:=mZ d (λys z=>nomatch z) L;{r,D,p1,p2,p3}:=aY.at hx;N:j<xs.length:=(qk.mp D).1;sp:af X (upd X p (.tup [e.2.1,e.2.2])):=af.new hp;ep:(upd X p (.tup [e.2.1,e.2.2])) p=!(.tup [e.2.1,e.2.2]):=aB;(by generalize upd X p (.tup [e.2.1,e.2.2])=X1 at sp ep);C:=tX.trans sp.ab;{b,vp,vo,vn,kq,hbv,h1,h2,h3,h4,h5}:=p3.ab C;U:=sp _ _ (L _ _ (do[bR nst.symm];Z));a:=sp _ _ eX;m:=p2.ab C;ak1:=R.imp λe x q=>q.imp (R':=pW X1) sp.ab λr=>r.ab sp.ab;hkl:ks.length<sizeLine:=f6 (do[R.1,qj,wv];());hnd:(((xs.take j).map (ef T)).map (·.pt)).Nodup:=(do[LP];W.nd.sublist ((kj j xs).map _));hnew:(ef T r).pt∉((xs.take j).map (ef T)).map (·.pt):=(do[LP,vT];(z);hn:=W.nd;e1:xs=xs.take j++r::xs.drop (j+1):=(do this:=rh j xs;this←[jm N];[←qJ ((qh N).symm.trans D)];this.symm);hn←[e1,z7,zn];(wt.mp hn).2.2 r.pt z r.pt qm rfl);etk:(xs.take (j+1)).map (ef T)=g_ ((xs.take j).map (ef T)) (ef T r):=(do[Qh hnew,qz,D,z7];2);fin:∀vv,GK X1 (.tup (ef T r).ou) vv->rQ λ(ks':List (KD×V×V)) (M:Option V) (u4:Option V)=>ic ([!(V.ref c),!(V.ref B),!(V.ref st),!e.2.1,!e.2.2]=[!(.ref c),!(.ref B),!(.ref st),M,u4]) (af (del Y st) (upd X1 st (.dG (pG ks (.tup r.pt) e.2.1 vv)))) ((upd X1 st (.dG (pG ks (.tup r.pt) e.2.1 vv))) st=!(.dG ks')) (AL (EK (pW (upd X1 st (.dG (pG ks (.tup r.pt) e.2.1 vv)))) (upd X1 st (.dG (pG ks (.tup r.pt) e.2.1 vv)))) ks' ((xs.take (j+1)).map (ef T))):=λvv gv=>(do aP:=Cd (r:=ef T r) (y:=e.2.1) (v:=vv) ak1 hnd (do[vT];m) gv;aP←[vT,←etk];{_,_,_,O,(L.trans sp).wr d9,aB,aP.imp λe x q=>q.imp (ai.wd a) λr=>r.ab (ai.wd a)});{p,_,O,aV.of ep,O,_,_,O,_,_,O,O,?_};{_,O,_,O,B,ku,.tup r.pt,O,.inl U,m,_,O,?_};[qB qr];ht<|T r.pt;[smT.yes ht];cW rfl ?_;{_,O,_,O,st,ks,.tup r.pt,O,a,m,hkl,hNx _ _ (fin _ ?_)};[Om ht];{_,O,C _ _ maY};[smT.no ht];bU rfl ?_;{_,O,b,_,1,vo,hbv,O,aV.of h1,O,_,O,_,O,st,ks,.tup r.pt,O,a,m,hkl,hNx _ _ (fin _ ?_)};[EJ ht];h3;(σ,X,{ks,M,u4,rfl,L,eX,R});R←[aY.1,ze];{_,O,kk X st ks E' T (λb u e=>L _ _ ?_) (tbY.cut d (λps z=>nomatch z) (λφ z=>nomatch z) L) k eX tur R};[bR (λz=>?_)];sYd _ _ e;!z;e←[Qm k];-e
def E1(T:Txt K mg tk)(F:FO K mg "lines_of" iV)(G:sJ P w K mg base):yD P w K mg base:=do aM F A3 (uY λ_ _ _=>rfl) {} λfa cdv A outer s H vs Q E p h=>?_;hu1:(A.deeper (envOfC "lines_of" (ag iV) ↑s fa cdv)).units+1<cLine:=cR p;{_,(aj (uw (i:=3) A3.nd rfl (Or.inl rfl) (own:=["fact"]) (fr:=[("part",1),("way",2)]) rfl (il (cU hu1 (vv 0) aO (λ_ _=>rfl))) {O,∅,∅} (jX (ag iV) ["facts","part","way","lines","lives"] rfl rfl (λ_ h=>fM h) ∅ ∅ ∅) (λ_ _ _=>(cO (i:=0) (do¬List.Nodup (["fact","part","way"]:List Sy);by decide +kernel) rfl (Or.inl rfl))) (λ_=>mI rfl) (λ_ _ _=>(fN (PW.pt (jO (ck (FT p) (xt (vv 0)) (vc 1)) (jP (ck c9 (xt (vv 0)) (vc 2))))))) (λ_ _ _=>(vv 0))) (aj (sm A3.nd 4 (cy (gJ p.hd (qS p)) T.cZ boot_dict (a1 (z_ (il (vv 3)) (λ_ _ _=>dJ) (λ_ _ _=>(a0 (a2 (xt (vv 0)) (xt (vv 0))))))))) (aD (aN (sj (ag iV) zO [("lives",4)] (il (cl G p (a1 (z_ (il (vv 3)) (λ_ _ _=>dJ) (λ_ _ _=>(p8 GB (vv 0) (fT aA) (fT aA))))))) (λ_ _ _=>(fN (dB (dD (cN p) (vc 1) (vv 0) (λ_ _=>rfl))))) (λ_ _ _=>(vv 0))))))),?_};{fa,vp,pt,wy,L,n,rfl,{S,la,vs,rd,N,I,an,W},hvp,D,kk}:=h;J:vs.length=n:=(do[an.1,zo]);cJ:=W.cJ;p4:=W.vD pt wy;{_,O,fa,.ref la,O,.inl {S,.inr "lines",rd,O,N.symm},la,O,{_,az.of I},c7 (xs:=vs) (cL ()) (λj ys H'=>H'=H/\AN (kG L H) ys (((List.range n).take j).filter (qZ L pt wy))) {O,.nil} (λ_ _ H' s'=>do[s'.1];az.of I) (λj x ys H' K1 R m s' k r=>?_) λH1 t ys s' hy hq=>?_};{rfl,f}:=s';{i,c,q}:=an.at m;hin:i<n:=qo.mp (qw c);ln':=q;{b,vq,vn,vb,kq,rfl,h1,h2,Z,h4,h5}:=q;tk:(List.range n).take (j+1)=(List.range n).take j++[i]:=(do[qz,c];2);{_,O,b,_,0,_,O,O,aV.of h1,O,_,O,tD (L i).pt,tD pt,(aK h2).dv,(aK hvp).dv,(W.lay i hin).2,D,qg (yb _ _) (qg (eh _) ⋯),_,O,?_};M:(if false=true then not (PyData.eqv (tD (L i).pt) (tD pt)) else PyData.eqv (tD (L i).pt) (tD pt))=decide ((L i).pt=pt):=hP _ _;hp<|(L i).pt=pt;cW (do[M];qI hp) ?_;{_,O,b,_,1,_,O,O,aV.of h1,O,_,O,O,_,O,?_};X<|(L i).wy=wy;cW (qI (do[X])) ?_;{_,O,k _ _ {O,?_}};[tk];AN.pick (vs:=vs) f ln' (Ew.mpr {hp,X});bU (decide_eq_false (λz=>X (V.str.inj z))) ?_;r _ {O,?_};[tk];f.skip λz=>X (Ew.mp z).2;bU (do[M];decide_eq_false hp) (bU rfl ?_);r _ {O,?_};[tk];f.skip λz=>hp (Ew.mp z).1;{rfl,f}:=s';f←[J,yr (do[zo];qe _)];f:AN (kG L H1) ys (cF L n pt wy):=f;hyl:ys.length<=1300:=(do hy←[J];());n1:af H1 (upd H1 t (.lst ys)):=af.new hq;y:(upd H1 t (.lst ys)) t=!(.lst ys):=aB;a:=f.imp λv i g=>g.ab n1.ab;(by generalize upd H1 t (.lst ys)=H2 at n1 y a);{_,O,t,O,{_,az.of y},c7 (xs:=ys) (cL ()) (λj zs H'=>af H2 H'/\∃kvs,cx H' zs kvs/\kA (cT L) (λv i=>v=.bl (L i).lv) kvs ((cF L n pt wy).take j)) {af.refl _,[],trivial,trivial} (λ_ _ H' s'=>az.of (s'.1 _ _ y)) (λj x zs H' K1 R m s' k r=>?_) λH3 zp zs s' hz hzq=>?_};{s',kvs,pr,Y}:=s';{i,c,q}:=a.at m;{b,vq,vn,vb,kq,rfl,h1,h2,Z,h4,h5}:=q.ab s'.ab;tk:(cF L n pt wy).take (j+1)=(cF L n pt wy).take j++[i]:=(do[qz,c];2);dI (B:=R H') ?_;{_,O,b,_,2,_,O,O,aV.of h1,O,_,O,b,_,5,_,O,O,aV.of h1,O,aE rfl,λtq H4 g4 s4 e4=>k _ _ {s'.trans s4,kvs++[(.tup (cT L i),vn,.bl (L i).lv)],cx.snoc (e:=(.tup (cT L i),vn,.bl (L i).lv)) {tq,O,e4,Z.ab s4.ab} (pr.ab s4.ab),?_}};[tk];Y.snoc rfl rfl;{s3,kvs,pr,Y}:=s';n3:af H3 (upd H3 zp (.lst zs)):=af.new hzq;pkF:kA (cT L) (λv i=>v=.bl (L i).lv) kvs (cF L n pt wy):=(do Y←[show ys.length=(cF L n pt wy).length from a.1,ze];Y);{zp,zs,kvs,O,az.of aB,pr.ab n3.ab,(),λdq H5 g5 s5 e5=>?_};d:=(s3.trans n3).trans s5;get:∀i∈cF L n pt wy,vG (putAll [] kvs) (.tup (cT L i))=!(.bl (L i).lv):=λi hi=>(do _;{v,h1,rfl}:=kA.get (all:=cF L n pt wy) p4.inj (done:=[]) (acc:=[]) pkF (λi z=>nomatch z) (λi h=>h) (λi z=>nomatch z) i (.inr hi);h1);{_,O,t,O,{_,az.of (d _ _ y)},c7 (xs:=ys) (cL ()) (λj us H'=>af H5 H'/\AN (PL (cT L) (uZ L) (L9 L) H') us ((cF L n pt wy).take j)) {af.refl _,.nil} (λ_ _ H' s'=>az.of ((d.trans s'.1) _ _ y)) (λj x us H' K1 R m s' k r=>?_) λH6 up us s' hu6 huq=>?_};{s',o}:=s';{i,c,q}:=a.at m;{b,vq,vn,vb,kq,rfl,h1,h2,Z,h4,h5}:=q.ab (d.trans s').ab;tk:(cF L n pt wy).take (j+1)=(cF L n pt wy).take j++[i]:=(do[qz,c];2);dI (B:=R H') ?_;{_,O,2,O,5,O,b,_,O,aV.of h1,(by show ¬(HT.b_ 6 0 (some 2)=0/\HT.b_ 6 6 (some 5)=6);decide),λtq H7 g7 s7 e7=>k _ _ {s'.trans s7,?_}};[tk];t7:=s7.ab;(o.imp λv i g=>g.ab t7).snoc {tq,vn,vb,.ref kq,O,e7,Z.ab t7,h4.ab t7,.tup (s7 _ _ h5) (.cons (.int _) (.cons (.int _) .nil))};{s6,o}:=s';n6:af H6 (upd H6 up (.lst us)):=af.new huq;o←[show ys.length=(cF L n pt wy).length from a.1,ze];{up,us,cT L,uZ L,L9 L,cF L n pt wy,cF L n pt wy,2,O,az.of aB,o.imp λv i g=>g.ab n6.ab,.refl _,p4,λH8 q8 ws s8 g8 e8 aw=>?_};wl:ws.length=(cF L n pt wy).length:=(do[aw.1];Rga.gK p4.wf);U:=(s6.trans n6).trans s8;{q8,O,{_,az.of e8},c7 (xs:=ws) (cL (do[wl,←a.1];())) (λj us H'=>H'=H8/\AN (NM (cT L) H8) us (((iQ L n pt wy).take j).filter λi=>(L i).lv)) {O,.nil} (λ_ _ H' s'=>do[s'.1];az.of e8) (λj x us H' K1 R m s' k r=>?_) λH9 rp rs s' hr9 C=>?_};{rfl,o}:=s';{i,c,nm}:=aw.at m;him:i∈cF L n pt wy:=Rga.nU p4.wf (qw c);tk:(iQ L n pt wy).take (j+1)=(iQ L n pt wy).take j++[i]:=(do[qz,show(iQ L n pt wy)[j]?=some i from c];2);{_,O,_,O,dq,_,.tup (cT L i),.bl (L i).lv,O,.inl (U _ _ e5),nm,get i him,_,O,?_};hl<|(L i).lv=true;cW hl {_,O,k _ _ {O,?_}};[tk];AN.pick (vs:=ws) o nm hl;bU (do 0<|hl) (r _ {O,?_});[tk];o.skip hl;{rfl,ar}:=s';n9:af H9 (upd H9 rp (.lst rs)):=af.new C;s1:=(n1.trans d).trans U;ar←[show ws.length=(iQ L n pt wy).length from aw.1,ze];kk _ rp rs (s1.trans n9) (s1.free C) aB (ar.imp λv i g=>g.ab n9.ab)
def A7(T:Txt K mg tk)(F:FO K mg "living" oT)(p:oI P w K mg base)(r:ui P w K mg base):lj P w K mg base:=do aM F Jf (ip λ_ _=>rfl) {} λfa cdv A outer s H vs Q E f h=>?_;{_,(aj (sm Jf.nd 2 (cy (gJ f.hd (qS f)) T.cZ boot_dict (a1 (z_ (il (cl r f (a2 (vv 0) (vv 1)))) (λ_ _ _=>dJ) (λ_ _ _=>(a0 (a2 (xt (vv 0)) (xt (vv 0))))))))) (aD (aN (sj (ag oT) yS [("lives",2)] (il (cl p f (a2 (vv 0) (vv 1)))) (λ_ _ _=>(fN (dB (dD (cN f) (vc 1) (vv 0) (λ_ _=>rfl))))) (λ_ _ _=>(vv 0)))))),?_};{fa,vp,pt,S,n,rfl,fg,d,a,kk}:=h;W:WS S n:=(do _;{_,_,_,_,_,_,_,W}:=fg;W);p4:=W.vD pt;{_,O,_,O,fa,vp,pt,S,n,O,fg,d,a,λH1 q zs s1 g1 e1 N=>?_};hzl:zs.length<=1400:=(do[N.1];qg (qg (we _ _) (do[zo];qe _)) W.cJ);{q,O,{_,az.of e1},c7 (xs:=zs) (cL ()) (λj us H'=>af H1 H'/\∃kvs,cx H' us kvs/\kA (cn S) (λv i=>v=.bl (S i).lv) kvs ((bM S n pt).take j)) {af.refl _,[],trivial,trivial} (λ_ _ H' s'=>az.of (s'.1 _ _ e1)) (λj x us H' K1 K0 G s' V X=>?_) λH3 up us s' hu3 J=>?_};{s',kvs,I,y}:=s';{i,C,sn}:=N.at G;{b,vq,vn,vb,kq,vg,rfl,h1,h2,h3,h4,h5,h6}:=SN.ab sn s'.ab;tk:(bM S n pt).take (j+1)=(bM S n pt).take j++[i]:=(do[qz,C];2);dI (B:=K0 H') ?_;{_,O,b,_,1,_,O,O,aV.of h1,O,_,O,b,_,5,_,O,O,aV.of h1,O,aE rfl,λtq H4 g4 M e4=>V _ _ {s'.trans M,kvs++[(.tup (cn S i),vn,.bl (S i).lv)],cx.snoc (e:=(.tup (cn S i),vn,.bl (S i).lv)) {tq,O,e4,h3.ab M.ab} (I.ab M.ab),?_}};[tk];y.snoc rfl rfl;{s3,kvs,I,y}:=s';n3:af H3 (upd H3 up (.lst us)):=af.new J;y←[show zs.length=(bM S n pt).length from N.1,ze];{up,us,kvs,O,az.of aB,I.ab n3.ab,(),λdq H5 g5 s5 e5=>?_};R:=(s3.trans n3).trans s5;c:=s1.trans R;get:∀i∈bM S n pt,vG (putAll [] kvs) (.tup (cn S i))=!(.bl (S i).lv):=λi hi=>(do _;{v,h1,rfl}:=kA.get (all:=bM S n pt) p4.inj (done:=[]) (acc:=[]) y (λi z=>nomatch z) (λi h=>h) (λi z=>nomatch z) i (.inr hi);h1);{_,O,_,O,fa,vp,pt,S,n,O,fg.same c,d.ab c.ab,a,λH6 rp t Z g6 e6 U=>?_};hrl:t.length<=1400:=(do[U.1];qg (iJ W) W.cJ);{rp,O,{_,az.of e6},c7 (xs:=t) (cL ()) (λj us H'=>H'=H6/\AN (NM (cn S) H6) us (((aF S n pt).take j).filter λi=>(S i).lv)) {O,.nil} (λ_ _ H' s'=>do[s'.1];az.of e6) (λj x us H' K1 K0 G s' V X=>?_) λH9 np rs s' hr9 m=>?_};{rfl,au}:=s';{i,C,Y}:=U.at G;L:i∈bM S n pt:=zk.mpr (do this:=(lX W).mp (qw C);{qo.mpr this.1,iu.mpr this.2});tk:(aF S n pt).take (j+1)=(aF S n pt).take j++[i]:=(do[qz,C];2);{_,O,_,O,dq,_,.tup (cn S i),.bl (S i).lv,O,.inl (Z _ _ e5),Y,get i L,_,O,?_};D<|(S i).lv=true;cW D {_,O,V _ _ {O,?_}};[tk];AN.pick (vs:=t) au Y D;bU (do 0<|D) (X _ {O,?_});[tk];au.skip D;{rfl,o}:=s';n9:af H9 (upd H9 np (.lst rs)):=af.new m;k:=c.trans Z;o←[show t.length=(aF S n pt).length from U.1,ze];kk _ np rs (k.trans n9) (k.free m) aB (o.imp λv i g=>NM.ab g n9.ab)
def Dh(T:Txt K mg tk)(F:FO K mg "stands_in" oj)(gfAk:tE P w K mg base)(gfBq:yN P w K mg base)(gfAd:rH P w K mg base):zU P w K mg base:=do aM F Ee (ll λ_=>rfl) {} λfa cdv A outer s H vs Q E d h=>?_;{_,(aj (sn Ee.nd 1 (cl gfBq d (a1 (cl gfAd d (a1 (vv 0)))))) (aj (sm Ee.nd 2 (cl gfAk d (a1 (vv 1)))) (aD (aN (cy (gJ d.hd (qS d)) T.cZ boot_dict (a1 (iz (own:=["part","outer"]) (fr:=[("reaching",2)]) rfl (rr (vv 1)) {O,∅,∅} (jX (ag oj) ["facts","outer_of","reaching"] rfl rfl (λ_ h=>fM h) ∅ ∅ ∅) (λ_ _ _=>(jT (n:=2) rfl (df (cO (i:=0) (do¬List.Nodup (["part","outer","reaching"]:List Sy);by decide +kernel) rfl (Or.inl rfl)) (df (cO (i:=1) (do¬List.Nodup (["part","outer","reaching"]:List Sy);by decide +kernel) rfl (Or.inl rfl)) ik)))) (λ_=>pP rfl rfl ⋯) (λ_ _ _=>dJ) (λ_ _ _=>(a0 (a2 (vv 0) (rY (dB (dD (cN d) (vc 2) (vv 0) (λ_ _=>rfl))) (vv 1) dE))))))))))),?_};{fa,es,rs,rfl,fq,tb,ma,kk}:=h;W:=fq.xw;hfew:=W.cJ;{_,O,fa,es,rs,O,fq,λH1 tq kt s1 g1 e1 ak1=>?_};tb1:=tb.same s1;{tq,kt,tl rs,O,.inl e1,ak1,W,tb1,s1 _ _ ma,λH2 sa ks E T s2 tb2 gsa g tur ak2=>?_};ntP:tq≠gH:=λz=>(do _;{ps,t}:=tb1.cf;t←[←z,e1];-t);G:af (del H gH) H2:=λb u e=>(do nb:b≠gH:=λz=>(do e←[z,d9];-e);e←[bR nb];de s2 (s1 _ _ e) λz=>?_;z||z:=z;e←[z,g1];-e;nb z);J:H sa=none:=s1.free gsa;wO:∀x∈((tl rs).map (ef T)),vE x:=λx v=>(do _;{y,hy,rfl}:=qf.mp v;zC (W.w y hy));ma2:MA H2:=My.i8 tb G ma λps z=>nomatch z;{_,O,sa,ks,((tl rs).map (ef T)),O,.inl g,ak2.px λe x _ v q=>{q.1,q.2.1,h9 (wO x v).ou.ne q.2.2},W.zw T,ma2,λH3 U kr f C c D era rm rcr hkf=>?_};hkr:∀x∈((tl rs).map (ef T)),∃b:Bool,vG kr (.tup x.pt)=!(.bl b)/\f x.pt=!b:=λx v=>(do _;{b,hb}:=rj.mp (hkf x v);this:=rm.at_ x.pt;this←[lN (wO x v).pt.ne,hb];{b,this,hb});N:ai H2 H3:=mZ g (λys z=>nomatch z) C;s03:af (del H gH) H3:=λb u e=>C _ _ (do[bR (λz=>?_)];G _ _ e;!z;e←[HD J];-e);tb3:jC H3:=tb2.cut g (λps z=>nomatch z) (λφ z=>nomatch z) C;fra:H U=none:=(do this:=G.free D;z<|U=gH;{ps,t}:=tb2.cf;t←[←z,D];-t;this←[bR z];this);ak3:=ak2.imp λe x q=>q.imp (R':=pW H3) N λr=>r.ab N;nrs:U≠sa:=(aZ g D).symm;{_,O,sa,ks,O,su c λo Y hY fY eY=>?_};tY:ai H3 Y:=λb us e=>hY b _ (λz=>do !z;by rcases c with q|⟨o',q⟩ <;> rw[q]at e <;> cases e) e;L:=hY U _ nrs era;Z:af (del H gH) Y:=λb u e=>hY b u (λz=>do !z;e←[HD J];-e) (s03 _ _ e);R:jC Y:=tb3.keep λb u e hu=>hY b u (λz=>do !z;q||{o',q}:=c;e←[q];-e;(by rcases hu with⟨ps,y⟩|⟨φ,y⟩ <;> cases y);e←[q];-e;by rcases hu with⟨ps,y⟩|⟨φ,y⟩ <;> cases y) e;aY:=ak3.imp λe x q=>q.imp (R':=pW Y) tY λr=>r.ab tY;vP (kK (do[aY.1,qj];())) (λj ys X=>af Y X/\∃es:List (KD×V×V),cx X ys es/\AL (EK (gT X) X) es ((((tl rs).map (ef T)).take j).map (uL f))) {af.refl _,[],trivial,.nil} (λ_ _ X s'=>s'.1 _ _ eY) (λj e ys X p K1 K0 v s' hp k1 k0=>?_) λX np ys s' hy hq=>?_;{I,m,pr,ae}:=s';{r,d,p1,p2,p3}:=aY.at v;sp:af X (upd X p (.tup [e.2.1,e.2.2])):=af.new hp;ep:(upd X p (.tup [e.2.1,e.2.2])) p=!(.tup [e.2.1,e.2.2]):=aB;(by generalize upd X p (.tup [e.2.1,e.2.2])=X1 at sp ep);a:=I.trans sp;{b,hb,S}:=hkr r (qw d);fin:∀vv,gT X1 vv (uL f r)->∀(M:Sx) X3,X1 M=none->af X1 X3->X3 M=!(.tup [e.2.1,vv])->K1 (.ref M) X3:=λvv hvv M X3 g3 C e3=>(do k:=sp.trans C;k1 _ _ {I.trans k,m++[(.tup r.pt,e.2.1,vv)],?_,?_};cx.snoc (e:=(.tup r.pt,e.2.1,vv)) {M,O,e3,(p2.ab a.ab).ab C.ab} (pr.ab k.ab);[qz,d,z7];(ae.imp λe x p=>p.imp k.ab λq=>q.ab k.ab).snoc {do[(oR f r).1],do[(oR f r).1];(p2.ab a.ab).ab C.ab,hvv.ab C.ab});{p,_,O,aV.of ep,O,_,_,O,_,_,O,O,?_};dI (B:=K0 X1) ?_;{_,O,_,O,_,O,U,kr,.tup r.pt,.bl b,O,.inl (a _ _ L),p2.ab a.ab,hb,_,O,?_};(by cases b with|true|false=>?_);cW rfl {_,O,aE rfl,fin _ (do(by unfold gT uL);[qF S];h9 (wO r (qw d)).ou.ne (GK.ab p3 a.ab))};bU rfl {aE rfl,fin _ (by unfold gT uL;rw[qB (do[S];λz=>nomatch z)];rfl)};{I,m,pr,ae}:=s';ae←[aY.1,ze];lW:qP rs (((tl rs).map (ef T)).map (uL f)):={E,T,f,tur,do rcr←[qj];rcr,O};ds:=lW.zw W;nH:af X (upd X np (.lst ys)):=af.new hq;{np,ys,m,O,az.of aB,pr.ab nH.ab,?_,λq X2 g2 s2 e2=>?_};this:ys.length<=ks.length:=hy;this:=aY.1;this←[qj];();e2←[pO _ [] (do[wz];xH ae ds.nd),wz];s0:=nH.trans s2;fq':H q=none:=(do h1:=I.free (nH.free g2);this:=Z.free h1;z<|q=gH;{ps,t}:=R.cf;t←[←z,h1];-t;this←[bR z];this);kk X2 q m _ ((Z.trans I).trans s0) (R.same (I.trans s0)) fq' e2 lW (ae.imp λe x p=>p.imp s0.ab λq=>q.ab s0.ab)
def Eb(T:Txt K mg tk)(F:FO K mg "table_of" oH)(M:yD P w K mg base)(Y:zS P w K mg base):rT P w K mg base:=do aM F oZ (ip λ_ _=>rfl) {} λfa cdv A outer s H vs Q E hr h=>?_;{_,(aj (sn oZ.nd 2 (cl M hr (ac (vv 0) (a2 (vv 1) aO)))) (aj (sn oZ.nd 3 (cl M hr (ac (vv 0) (a2 (vv 1) aO)))) (aj (sm oZ.nd 4 (cl Y hr (a2 (vv 0) (vv 1)))) (aj (sn oZ.nd 5 (bK cS)) (aj (fo (il (vv 2)) (gm oZ.nd 6) (aD (ap (vv 5) (a1 (sj (ag oH) zX [("told",4),("row",6)] (il (vv 3)) (λ_ _ _=>dJ) (λ_ _ _=>(bm PySem.F.plainAttrs_dict PySem.F.slot_dict_get PySem.F.type_dict_get (iL (cN hr)) (vc 1) (a2 (a0 (a2 (vc 2) (vv 0))) aO)))))))) (aD (aN (a0 (ac (vv 2) (a2 (vv 3) (vv 5))))))))))),?_};{fa,vp,pt,L,n,C,m,rfl,tb,N,k,kk}:=h;WLn:=(show WL L n by obtain⟨_,_,_,_,_,_,_,_,_,h,_⟩:=tb;exact h);{_,O,_,O,fa,vp,pt,"row",L,n,O,tb.fl,N,k,λH1 S zr s1 g1 e1 ar=>?_};{_,O,_,O,fa,vp,pt,"column",L,n,O,(tb.same s1).fl,N.ab s1.ab,k,λH2 W zc s2 g2 e2 ac=>?_};R:=s1.trans s2;{_,O,_,O,fa,vp,pt,L,n,C,m,O,tb.same R,N.ab R.ab,k,λH3 dq kvs s3 g3 e3 tell=>?_};D:=R.trans s3;o:=s3 _ _ (s2 _ _ e1);p:=s3 _ _ e2;ar3:AN (NM (cT L) H3) zr (bC L n pt "row"):=ar.imp λv i g=>g.ab (s2.trans s3).ab;ac3:AN (NM (cT L) H3) zc (bC L n pt "column"):=ac.imp λv i g=>g.ab s3.ab;nrc:S≠W:=aZ e1 g2;hrl:zr.length<=1300:=(do[ar.1];Dt WLn);hcl:zc.length<=1300:=(do[ac.1];Dt WLn);{aE rfl,λwp H4 g4 s4 e4=>?_};nrw:S≠wp:=aZ o g4;ncw:W≠wp:=aZ p g4;{_,O,S,O,{_,az.of (s4 _ _ o)},bD (xs:=zr) (λj σ Z=>vA λ(ws:List V) (u6:Option V)=>mT (σ=[!(.ref fa),!vp,!(.ref S),!(.ref W),!(.ref dq),!(.ref wp),u6]) (af H3 Z) (Z wp=!(.lst ws)) (AN (Jw L C m pt (bC L n pt "column") H Z) ws ((bC L n pt "row").take j)) ws.Nodup (∀a,V.ref a∈ws->a≠S/\a≠W/\a≠wp)) {[],none,O,s4,e4,.nil,vi,λa z=>nomatch z} (λj σ Z _ ⟨_,_,_,d,_,_,_,_⟩=>az.of (d _ _ o)) ?_ ?_};(j,x,σ,Z,hx,{ws,u6,rfl,d,X,U,nd,ne},Nx,hNx);{r,er,nmr}:=ar3.at hx;hj:j<1300:=(do this:=(qk.mp hx).1;());hwl:ws.length<=j:=(do[U.1,wv];());tk:(bC L n pt "row").take (j+1)=(bC L n pt "row").take j++[r]:=(do[qz,er];2);{_,O,.inl {O,_,az.of X},_,O,W,O,{_,az.of (d _ _ p)},c7 (xs:=zc) (cL ()) (λj' ys Z'=>af Z Z'/\ys=((bC L n pt "column").take j').map λc=>V.str (o4 C m pt (cT L r) (cT L c))) {af.refl _,O} (λ_ _ Z' s'=>az.of (s'.1 _ _ (d _ _ p))) (λj' y ys Z' K1 K0 hy s' k1 k0=>?_) λZ1 a ys s' hyl hqa=>?_};{s',rfl}:=s';{c,ec,nmc}:=ac3.at hy;J:=d.trans s';{c1,rfl,hc1}:=nmr.ab J.ab;{c2,rfl,hc2}:=nmc.ab J.ab;dI (B:=K0 Z') ?_;{_,O,.inr (.inr (.inl {O,.inr (.inr {kvs,J _ _ e3})})),_,O,_,O,aE rfl,λtq Z2 g2' G e2'=>?_};{dq,kvs,.two (cT L r) (cT L c),.ref tq,.str "",O,O,G _ _ (J _ _ e3),{tq,c1,c2,O,e2',G _ _ hc1,G _ _ hc2},?_};[show(vG kvs (.two (cT L r) (cT L c))).getD (V.str "")=.str (o4 C m pt (cT L r) (cT L c)) from tell _ _];k1 _ _ {s'.trans G,?_};[qz,ec,z7];2;{s',rfl}:=s';[show zc.length=(bC L n pt "column").length from ac.1,ze];nZ:af Z1 (upd Z1 a (.lst ((bC L n pt "column").map λc=>V.str (o4 C m pt (cT L r) (cT L c))))):=af.new hqa;ea:(upd Z1 a (.lst ((bC L n pt "column").map λc=>V.str (o4 C m pt (cT L r) (cT L c))))) a=!(.lst (xG L C m pt (bC L n pt "column") r)):=aB;I:=s'.trans nZ;t:Z a=none:=s'.free hqa;(by generalize upd Z1 a (.lst ((bC L n pt "column").map λc=>V.str (o4 C m pt (cT L r) (cT L c))))=Z2 at nZ ea I);{wp,_,_,O,O,I _ _ X,jL (),?_};naw:a≠wp:=(aZ X t).symm;hNx _ _ {ws++[.ref a],_,O,(d.trans I).wr g4,aB,?_,?_,λb hb=>?_};[tk];AN.snoc (M' U λv i hv g=>?_) {a,O,(D.trans d).free t,do[ak naw];ea};{b,rfl,h1,h2}:=g;{b,O,h1,do[ak (ne b hv).2.2];I _ _ h2};List.nodup_append.mpr {nd,do 0,λx hx y hy z=>?_};z←[qx.mp hy];!z;{i,_,b,e,_,h2}:=U.mem hx;-e;h2←[t];-h2;z||z:=zh.mp hb;ne b z;-qx.mp z;⟨(aZ (d _ _ o) t).symm,(aZ (d _ _ p) t).symm,naw⟩;(σ,Z,{ws,u6,rfl,d,X,U,nd,ne});U←[show zr.length=(bC L n pt "row").length from ar.1,ze];{_,O,_,O,_,O,aE rfl,λq H9 g9 s9 e9=>?_};f:=d.trans s9;kk H9 q S W wp zr zc ws (D.trans f) ((D.trans d).free g9) e9 g1 (s1.free g2) (D.free g4) nrc nrw ncw (f _ _ o) (f _ _ p) (s9 _ _ X) (ar3.imp λv i g=>g.ab f.ab) (ac3.imp λv i g=>g.ab f.ab) (U.imp λv i g=>g.same s9) nd ne
def Df(T:Txt K mg tk)(F:FO K mg "may_read" oe)(e:x_ P w K mg base):yU P w K mg base:=do aM F Cg (vY λ_ _ _ _=>rfl) {} λfa f A outer s H vs Q E g h=>?_;d:(A.deeper (envOfC "may_read" (ag oe) ↑s fa f)).units+1<cLine:=cR g;{_,(aD (aN (JE (ce HG (vv 2) dE) (J_ (cl e g (ac (vv 1) (ac (cU d (vv 0) aO (λ_ _=>rfl)) (ac (cU d (vv 0) aO (λ_ _=>rfl)) (ac (vv 2) (a2 (vv 3) aO)))))))))),?_};{a,b,c,rfl,i}:=h;{_,O,O,_,O,cW (qI rfl) i}
def AH(T:Txt K mg tk)(F:FO K mg "told_of_signs" iW)(gfCb:lj P w K mg base)(gfCa:oI P w K mg base)(gfBr:oF P w K mg base)(gfAf:zH P w K mg base):An P w K mg base:=do aM F mQ (uY λ_ _ _=>rfl) {} λfa cdv A outer s H vs Q E hr h=>?_;hu1:(A.deeper (envOfC "told_of_signs" (ag iW) ↑s fa cdv)).units+1<cLine:=cR hr;{_,(aj (sn mQ.nd 3 (cl gfCa hr (a2 (vv 0) (vv 1)))) (aj (sm mQ.nd 4 (cl gfBr hr (a1 (vv 3)))) (aj (sm mQ.nd 5 (cl gfAf hr (ac (vv 0) (a2 (vv 1) (vv 3))))) (aj (sn mQ.nd 6 jH) (aj (fo (il (cl gfCb hr (a2 (vv 0) (vv 1)))) (gm mQ.nd 7) (aj (uw (i:=8) mQ.nd rfl (Or.inl rfl) (own:=["kind"]) (fr:=[("telling",5),("seats",4),("name",7)]) rfl (il (cb (PZ (xx hr) hr.hd) T.cV boot_sorted (a1 (vc 5)))) {O,∅,∅} (jX (ag iW) ["facts","part","place","row","seats","telling","told","name","marks"] rfl rfl (λ_ h=>fM h) ∅ ∅ ∅) (λ_ _ _=>(cO (i:=0) (do¬List.Nodup (["kind","telling","seats","name"]:List Sy);by decide +kernel) rfl (Or.inl rfl))) (λ_=>mI rfl) (λ_ _ _=>dJ) (λ_ _ _=>(xi (cU hu1 (vc 1) (vv 0) (λ_ _=>rfl)) (dD (cN hr) (vc 2) (vc 3) (λ_ _=>rfl))))) (aD (j1 (cN hr) (vv 6) (vc 7) (sj (ag iW) yJ [("place",2)] (il (vv 8)) (λ_ _ _=>(fN (PW.pt (jO (ck Gq (vv 0) dE) (jP (ck Gq (xt (vv 0)) dE)))))) (λ_ _ _=>(a0 (a2 (xt (vv 0)) (xu (vv 0) (vc 1)))))) rfl)))) (aD (aN (vv 6)))))))),?_};{fa,F,S,n,M,m,N,q,xs,ms,ns,vp,pt,G,rfl,fs,gvp,J,hm,kk}:=h;W:=fs.ws;WM:=fs.wm;inj:Inj (cn S) (aF S n pt):=λi hi j hj=>W.inj i (l8 W hi) j (l8 W hj);hml:ms.length=m:=(do[fs.ma.1,zo]);{_,O,_,O,fa,vp,pt,S,n,O,fs.fg,gvp,J,λH1 rp rv s1 g1 e1 ar=>?_};{_,O,rp,rv,cn S,aF S n pt,O,e1,ar,kM W,inj,qg (iJ W) W.cJ,λH2 dq kvs s2 g2 e2 hse=>?_};s02:=s1.trans s2;{_,O,_,O,_,O,fa,F,S,n,M,m,N,q,xs,ms,ns,vp,pt,rp,rv,O,fs.same s02,gvp.ab s02.ab,J,s2 _ _ e1,ar.imp (λv i g=>NM.ab g s2.ab),λH3 lq tv s3 g3 e3 tk=>?_};s03:=s02.trans s3;(D,H4,g4,s4,e4);s04:=s03.trans s4;gtq:H D=none:=s03.free g4;{_,O,_,O,fa,vp,pt,S,n,O,(fs.same s04).fg,gvp.ab s04.ab,J,λH5 aq av s5 g5 e5 aa=>?_};s05:=s04.trans s5;hal:av.length<=1400:=(do[aa.1];qg (we _ _) (qg (iJ W) W.cJ));L:=s5 _ _ e4;naq:aq≠D:=(aZ e4 g5).symm;ndq:dq≠D:=aZ (s3 _ _ e2) g4;nlq:lq≠D:=aZ e3 g4;edq5:=(s4.trans s5) _ _ (s3 _ _ e2);elq5:=(s4.trans s5) _ _ e3;ma5:=fs.ma.imp λv i g=>MN.ab g s05.ab;knd:(kinds M (aH M m pt)).Nodup:=GV _ [] vi;hmp:(aH M m pt).length<=63:=qg (qg (we _ _) (do[zo];qe _)) hm;hkl:(kinds M (aH M m pt)).length<=63:=qg (xK _ []) (do¬0+_<=63;());hin:∀i∈aH M m pt,i<m:=λi hi=>qo.mp (zk.mp hi).1;htv:(tv.map λe=>kV e.1)=(kinds M (aH M m pt)).map V.str:=(do this:=congrArg (List.map kV) tk.keys;this←[z9,z9];this);hkey:∀kd∈kinds M (aH M m pt),PyData.strOk kd=true:=λkd p=>(do z||{i,h1,h2}:=(Fi _ []).mp p;-z;[←h2];(WM.lay i (hin i h1)).2.2.1);keys:KeysAre ((kinds M (aH M m pt)).map .str) 1:=(do _;{dH λd hd=>?_,λd hd=>?_,λx hx y f=>?_,λd hd=>?_};{k,p,rfl}:=qf.mp hd;hkey k p;{k,p,rfl}:=qf.mp hd;(by trivial);{k,p,rfl}:=qf.mp hx;{k',hk',rfl}:=qf.mp f;2;{k,p,rfl}:=qf.mp hd;qv 60);hsl:(fe (kinds M (aH M m pt))).length<=63:=(do[(o_ _).length_eq];hkl);{aq,O,{_,az.of e5},bD (xs:=av) (λj σ Z=>rQ λ(U:List (KD×V×V)) (u7:Option V) (u8:Option V)=>ic (σ=[!(.ref fa),!vp,!(.int (if G then 5 else 4)),!(.ref rp),!(.ref dq),!(.ref lq),!(.ref D),u7,u8]) (af (del H5 D) Z) (Z D=!(.dG U)) (jI (cn S) (λi=>vI M G (aF S n pt) (aH M m pt) ((aF S n pt).idxOf i)) (λa=>H a=none/\a≠D) Z U ((bB S n pt).take j)/\(U.map (·.2.2)).Nodup)) {[],none,none,O,lJ,L,{O,λj e i z=>nomatch z},vi} (λj σ Z _ ⟨_,_,_,_,r,_,_⟩=>az.of (DP.to r e5 naq)) ?_ ?_};(j,x,σ,Z,hx,{U,u7,u8,rfl,sZ,eZ,td,nd0},Nx,hNx);{i,ei,zV}:=aa.at hx;tZ:ai H5 Z:=λa ys e=>DP.to sZ e (λz=>do e←[z,L];-e);nm:=NM.ab zV tZ;hir:i∈aF S n pt:=(zk.mp (qw ei)).1;hjl:j<(bB S n pt).length:=(qk.mp ei).1;hp:(aF S n pt).idxOf i<(aF S n pt).length:=bv hir;edqZ:=DP.to sZ edq5 ndq;elqZ:=DP.to sZ elq5 nlq;tkZ:TK M (aF S n pt) (aH M m pt) ms (λ_=>True) Z tv:={tk.keys,λkd p=>do _;{a,h1,_,h3}:=tk.val kd p;h5:=(s4.trans s5) _ _ h3;{a,h1,trivial,DP.to sZ h5 (λz=>do h5←[z,L];-h5)},tk.ne};{_,O,lq,tv,(kinds M (aH M m pt)).map .str,1,O,.inl elqZ,do[htv];(Jm _).dv,keys,do this:=congrArg List.length tk.keys;this←[qj,qj];(),λsq Z1 ix g1 s1 six e1=>?_};e1←[htv,Du knd six];{sq,O,{_,az.of e1},c7 (xs:=(fe (kinds M (aH M m pt))).map V.str) (cL (do[qj];())) (λR ys X=>X=Z1/\ys=((fe (kinds M (aH M m pt))).take R).map λkd=>mV ms (tell M (aF S n pt) (aH M m pt) kd ((aF S n pt).idxOf i))) {O,O} (λ_ _ X s'=>do[s'.1];az.of e1) (λR y ys X K1 K0 f s' k1 k0=>?_) λX np ys s' hyl hnq=>?_};{rfl,rfl}:=s';f←[qu];(by cases p:(fe (kinds M (aH M m pt)))[R]? with|none|some kd=>?_);f←[p];-f;f←[p];-f;hkm:kd∈kinds M (aH M m pt):=(o_ _).mem_iff.mp (qw p);{a,h1,_,h3}:=tkZ.val kd hkm;dI (B:=K0 X) ?_;{_,O,_,O,lq,.ref a,O,.inl {tv,.inr kd,.inl (s1 _ _ elqZ),O,h1.symm},_,O,_,O,dq,kvs,.tup (cn S i),_,O,.inl (s1 _ _ edqZ),NM.ab nm s1.ab,hse.2 i hir,a,_,_,_,O,O,az.of (s1 _ _ h3),vN (j:=(aF S n pt).idxOf i) (v:=mV ms (tell M (aF S n pt) (aH M m pt) kd ((aF S n pt).idxOf i))) ?_,k1 _ _ {O,?_}};@iD;[qu,yq hp];2;[qz,p,z7];2;{rfl,hys}:=s';hys←[qj,ze];nX:af X (upd X np (.lst ys)):=af.new hnq;eX:(upd X np (.lst ys)) np=!(.lst ys):=aB;(by generalize upd X np (.lst ys)=Z2 at nX eX);I:=s1.trans nX;ma2:AN (MN S M Z2) ms (List.range m):=ma5.imp λv i g=>MN.ab g (tZ.trans I.ab);hyl2:ys.length<=63:=(do[hys,qj];hsl);{_,O,np,O,{_,az.of eX},c7 (xs:=ys) (cL ()) (λR zs X2=>af Z2 X2/\cz X2 zs (((fe (kinds M (aH M m pt))).take R).filterMap λkd=>BA M G (tell M (aF S n pt) (aH M m pt) kd ((aF S n pt).idxOf i)))) {af.refl _,.nil} (λ_ _ X2 s'=>az.of (s'.1 _ _ eX)) (λR y zs X2 K1 K0 f s' k1 k0=>?_) λX3 lp zs s' hzl hlq=>?_};{s',dz}:=s';f←[hys,qu];(by cases p:(fe (kinds M (aH M m pt)))[R]? with|none|some kd=>?_);f←[p];-f;f←[p];f:=qJ f;f:mV ms (tell M (aF S n pt) (aH M m pt) kd ((aF S n pt).idxOf i))=y:=f;nxt:∀{Y:Hp},af Z2 Y->cz Y zs (((fe (kinds M (aH M m pt))).take R).filterMap λkd=>BA M G (tell M (aF S n pt) (aH M m pt) kd ((aF S n pt).idxOf i)))->BA M G (tell M (aF S n pt) (aH M m pt) kd ((aF S n pt).idxOf i))=none->af Z2 Y/\cz Y zs (((fe (kinds M (aH M m pt))).take (R+1)).filterMap λkd=>BA M G (tell M (aF S n pt) (aH M m pt) kd ((aF S n pt).idxOf i))):=λ{Y} a b c=>{a,do[G' p,c];¬cz _ _ (_++[]);[wx];b};(by cases ht:tell M (aF S n pt) (aH M m pt) kd ((aF S n pt).idxOf i)with|none|some k=>?_);f←[ht];!f;{_,O,O,_,O,?_};bU rfl (bU rfl (k0 _ (nxt s' dz (do[ht];2))));f←[ht];hkm:k<m:=hin k (JF ht).1;{v,hv}:∃v,ms[k]?=!v:={_,qh (do[hml];hkm)};hyv:v=y:=(do[←f];¬v=ms.getD k .aQ;[zm,hv];2);!hyv;mn:=ma2.2 k v k hv (yq hkm);{b,vq,vb,ve,vn,kq,rfl,h1,h2,h3,h4,h5,h6}:=MN.ab mn s'.ab;{_,O,O,_,O,?_};cW rfl ?_;{_,O,b,_,4,_,O,O,aV.of h1,O,O,_,O,?_};(by cases hvl:(M k).vl with|none|some z=>?_);bU rfl (k0 _ (nxt s' dz (do[ht];¬(if(M k).vl=none then none else _)=none;[qF hvl])));cW rfl ?_;hto:BA M G (tell M (aF S n pt) (aH M m pt) kd ((aF S n pt).idxOf i))=!(.tuple [.str (M k).kd,qR M G k]):=(do[ht];¬(if(M k).vl=none then none else _)=_;[qB (do[hvl];λq=>nomatch q)]);fin:∀{Y:Hp} {tp:Sx} {vu:V},af X2 Y->Y tp=!(.tup [.str (M k).kd,vu])->DT Y vu (qR M G k)->af Z2 Y/\cz Y (zs++[.ref tp]) (((fe (kinds M (aH M m pt))).take (R+1)).filterMap λkd=>BA M G (tell M (aF S n pt) (aH M m pt) kd ((aF S n pt).idxOf i))):=λ{Y tp vu} a b c=>{s'.trans a,do[G' p,hto];A0 (.tup b (.cons (.str _) (.cons c .nil))) (dz.ab a.ab)};(by cases G with|false|true=>?_);{_,O,b,_,3,_,O,O,aV.of h1,O,_,O,_,O,b,_,4,_,O,O,aV.of h1,O,aE rfl,λtp Y gY sY eY=>k1 _ _ (fin sY eY (do@qR;[hvl];.str z))};{_,O,b,_,3,_,O,O,aV.of h1,O,_,O,_,O,b,_,5,_,O,O,aV.of h1,O,aE rfl,λtp Y gY sY eY=>k1 _ _ (fin sY eY (aK (h5.ab sY.ab)))};{s',dz}:=s';dz←[show ys.length=(fe (kinds M (aH M m pt))).length by rw[hys,qj],ze];n3:af X3 (upd X3 lp (.lst zs)):=af.new hlq;e3':(upd X3 lp (.lst zs)) lp=!(.lst zs):=aB;dz3:=cz.ab n3.ab dz;C:af Z (upd X3 lp (.lst zs)):=(I.trans s').trans n3;glp:Z lp=none:=(I.trans s').free hlq;(by generalize upd X3 lp (.lst zs)=X4 at n3 e3' dz3 C);nlp:lp≠D:=(aZ eZ glp).symm;hklen:=td.len;hnew:∀x∈U,x.1≠KD.tup (cn S i):=λx hx e=>(do hm1:x.1∈U.map (·.1):=qf.mpr {x,hx,O};hm1←[td.keys];{i',hi',e'}:=qf.mp hm1;e'←[e];e2:=KD.tup.inj e';hi'r:i'∈aF S n pt:=(zk.mp (yj hi')).1;this:=inj i' hi'r i hir e2;!this;nd:(bB S n pt).Nodup:=(kM W).sublist m8;{t,ht1}:=jf hi';ht2:t<j:=(do this:=(qk.mp ht1).1;this←[wv];());ht1←[ki ht2];a1:=Em nd ht1;a2:=Em nd ei;());{_,O,_,O,D,U,.tup (cn S i),O,C _ _ eZ,NM.ab nm C.ab,jL (do[hklen,wv];this:=aa.1;()),?_};[E6 _ _ hnew];tw:ai X4 (upd X4 D (.dG (U++[(.tup (cn S i),x,.ref lp)]))):=ai.wd (C _ _ eZ);hNx _ _ {_,_,_,O,(af.trans sZ C).wr d9,aB,?_,td.wU nd0 glp};[qz,ei];jI.snoc ((td.same C).to tw (λa zs' hb e=>do[ak hb.2];e) λ_ h=>h) (NM.ab nm (C.ab.trans tw)) {?_,nlp} (do[ak nlp];e3') (dz3.ab tw);this:=sZ.free glp;this←[bR nlp];s05.free this;(σ,Z,{U,u7,u8,rfl,sZ,eZ,td,nd0});td←[show av.length=(bB S n pt).length from aa.1,ze];{_,O,kk Z D U (λb o e=>DP.to sZ (s05 _ _ e) (aZ e gtq)) gtq eZ td nd0}
def AQ(T:Txt K mg tk)(F:FO K mg "notes_of" iX)(gfAy:zQ P w K mg base)(gfCb:lj P w K mg base)(gfCa:oI P w K mg base)(gfBr:oF P w K mg base)(gfBz:tj P w K mg base):rJ P w K mg base:=do aM F nB (ip λ_ _=>rfl) {} λfa cdv A outer s H vs Q E hr h=>?_;hu1:(A.deeper (envOfC "notes_of" (ag iX) ↑s fa cdv)).units+1<cLine:=cR hr;{_,(aj (sm nB.nd 2 (cl gfBr hr (a1 (cl gfCa hr (a2 (vv 0) (vc 1)))))) (aj (sn nB.nd 3 (cl gfCb hr (a2 (vv 0) (vc 1)))) (aj (sn nB.nd 4 (bK cS)) (aj (fo (il (K5 gfAy hr T.cV boot_sorted (a1 (sj (ag iX) yP [("part",1)] (il (cU hu1 (vv 0) aO (λ_ _=>rfl))) (λ_ _ _=>(fN (ck (FT hr) (xt (vv 0)) (vc 1)))) (λ_ _ _=>(vv 0)))))) (gn nB.nd 5) (aj (sm nB.nd 6 (cl gfBz hr (ac (vc 2) (a2 (xt (vv 5)) (xt (vv 5)))))) (aj (uw (i:=7) nB.nd rfl (Or.inl rfl) (own:=["name"]) (fr:=[("between",6),("seats",2)]) rfl (il (vv 3)) {O,∅,∅} (jX (ag iX) ["facts","part","seats","alive","told","note","between","under"] rfl rfl (λ_ h=>fM h) ∅ ∅ ∅) (λ_ _ _=>(cO (i:=0) (do¬List.Nodup (["name","between","seats"]:List Sy);by decide +kernel) rfl (Or.inl rfl))) (λ_=>mI rfl) (λ_ _ _=>(fN (PC x6 yL (xt (vc 1)) (dD (cN hr) (vc 2) (vv 0) (λ_ _=>rfl)) (xt (vc 1))))) (λ_ _ _=>(vv 0))) (aD (ap (vv 4) (a1 (a0 (ac (xt (vv 5)) (a2 (xt (vv 5)) (rY (ck eB (cb c6 T.bQ boot_len (a1 (vv 7))) aA) (xl (vv 7)) dE)))))))))) (aD (aN (vv 4))))))),?_};{fa,F,S,n,M,m,N,q,xs,ms,ns,vp,pt,rfl,fs,gvp,D,kk}:=h;W:=fs.ws;WN:=fs.wn;inj:Inj (cn S) (aF S n pt):=λi hi j hj=>W.inj i (l8 W hi) j (l8 W hj);sin:∀{d:Sd},d7 S n pt d->pe (aF S n pt) d:=λo i b z=>(lX W).mpr (o i b z);hnl:ns.length=q:=(do[fs.na.1,zo]);fewq:=WN.cJ;{_,O,_,O,fa,vp,pt,S,n,O,fs.fg,gvp,D,λH1 rp rv s1 g1 e1 ar=>?_};{rp,rv,cn S,aF S n pt,O,e1,ar,kM W,inj,qg (iJ W) W.cJ,λH2 dq kvs s2 g2 e2 hse=>?_};s02:=s1.trans s2;{_,O,_,O,fa,vp,pt,S,n,O,(fs.same s02).fg,gvp.ab s02.ab,D,λH3 aq av s3 g3 e3 aa=>?_};s03:=s02.trans s3;hal:av.length<=1400:=(do[aa.1];qg (we _ _) (qg (iJ W) W.cJ));{aE rfl,λc H4 g4 s4 e4=>?_};s04:=s03.trans s4;f4:=fs.same s04;{_,O,fa,.ref (F 5),O,.inl {cE F 9,.inr "notes",f4.dk,O,(cX F 5 ⋯).symm},F 5,O,{_,az.of f4.nl},c7 (xs:=ns) (cL ()) (λj ys H'=>H'=H4/\AN (NN S N H4) ys (((List.range q).take j).filter λi=>decide ((N i).pt=pt))) {O,.nil} (λ_ _ H' s'=>do[s'.1];az.of f4.nl) (λj x ys H' K1 K0 hx s' k1 k0=>?_) λH5 lp ys s' hy hq=>?_};{rfl,ay}:=s';{i,ei,nn}:=f4.na.at hx;hin:i<q:=qo.mp (qw ei);nn':=nn;{b,vq,vb,ve,vn,kq,rfl,h1,h2,h3,h4,h5,h6}:=nn;tk:(List.range q).take (j+1)=(List.range q).take j++[i]:=(do[qz,ei];2);{_,O,b,_,0,_,O,O,aV.of h1,O,_,O,tD (N i).pt,tD pt,(aK h2).dv,(aK (gvp.ab s04.ab)).dv,(WN.lay i hin).1,D,qg (yb _ _) (qg (eh _) ⋯),_,O,?_};eqp:(if false=true then not (PyData.eqv (tD (N i).pt) (tD pt)) else PyData.eqv (tD (N i).pt) (tD pt))=decide ((N i).pt=pt):=hP _ _;hp<|(N i).pt=pt;cW (do[eqp];qI hp) {_,O,k1 _ _ {O,?_}};[tk];AN.pick (vs:=ns) ay nn' (qI hp);bU (do[eqp];decide_eq_false hp) (k0 _ {O,?_});[tk];ay.skip (do 0<|hp);{rfl,ay}:=s';ay←[hnl,yr (do[zo];qe _)];ay:AN (NN S N H5) ys (bY N q pt):=ay;n5:af H5 (upd H5 lp (.lst ys)):=af.new hq;e5:(upd H5 lp (.lst ys)) lp=!(.lst ys):=aB;B:=ay.imp λv i g=>NN.ab g n5.ab;(by generalize upd H5 lp (.lst ys)=H6 at n5 e5 B);hin:∀i∈bY N q pt,i<q/\(N i).pt=pt:=λi hi=>{qo.mp (zk.mp hi).1,qO (zk.mp hi).2};mup:(bY N q pt).Pairwise λa b=>bT (.tuple [.int (N a).ka,.int (N a).kb]) (.tuple [.int (N b).ka,.int (N b).kb])=true:=((uv q).imp_of_mem λ{a b} ha hb h=>iZ (WN.up a b h (qo.mp hb))).filter _;keys:KeysAre ((bY N q pt).map λi=>.tuple [.int (N i).ka,.int (N i).kb]) 2:=tG λd hd=>(do _;{i,_,rfl}:=qf.mp hd;.inl {_,_,O});hyl:ys.length<=70:=(do hy←[hnl];());{lp,ys,(bY N q pt).map λi=>.tuple [.int (N i).ka,.int (N i).kb],2,O,az.of e5,do[qj,B.1],keys,{(),.inr (wb.mpr mup)},λmm y d H' Q' q1 q2 s q=>?_,λsq H7 ix g7 s7 six e7=>?_};{k,ek,nn}:=B.at q1;q2←[qu,ek];-qJ q2;{y,S,N,k,O,nn.ab s.ab,λkv hk=>q H' _ (af.refl _) hk.dv};hix:∀i∈ix,i<ys.length:=λi hi=>(do this:=(six.1.mem_iff).mp hi;this←[qo,qj];[B.1];this);a2:=B.ix ix hix;a2←[wH (.refl _) mup six];(by generalize ix.map (λi=>ys.getD i .aQ)=zs at e7 a2);hzl:zs.length<=70:=(do[a2.1,←B.1];hyl);a7:=a2.imp λv i g=>NN.ab g s7.ab;L:=n5.trans s7;s07:=s04.trans L;etp6:H6 c=!(.lst []):=n5 _ _ e4;etp:H7 c=!(.lst []):=s7 _ _ etp6;gtp:H c=none:=s03.free g4;nsq:sq≠c:=(aZ etp6 g7).symm;ndq:dq≠c:=aZ (s3 _ _ e2) g4;naq:aq≠c:=aZ e3 g4;edq7:H7 dq=_:=L _ _ (s4 _ _ (s3 _ _ e2));eaq7:H7 aq=_:=L _ _ (s4 _ _ e3);aa7:AN (NM (cn S) H7) av (bB S n pt):=aa.imp λv i g=>NM.ab g (s4.trans L).ab;{sq,O,{_,az.of e7},bD (xs:=zs) (λj σ Z=>F4 λ(tv:List V) (u5:Option V) (u6:Option V) (u7:Option V)=>ic (σ=[!(.ref fa),!vp,!(.ref dq),!(.ref aq),!(.ref c),u5,u6,u7]) (af (del H7 c) Z) (Z c=!(.lst tv)) (tv.length=j/\cz Z tv (((bY N q pt).take j).map (qT S (aF S n pt) N)))) {[],none,none,none,O,lJ,etp,O,.nil} (λj σ Z _ ⟨_,_,_,_,_,r,_,_⟩=>az.of (DP.to r e7 nsq)) ?_ ?_};(j,x,σ,Z,hx,{tv,u5,u6,u7,rfl,sZ,eZ,htl,dt},Nx,hNx);{i,ei,nn}:=a7.at hx;hj:j<70:=(do this:=(qk.mp hx).1;());{hi,hpt}:=hin i (qw ei);tZ:ai H7 Z:=ai.cut etp sZ;{b,vq,vb,ve,vn,kq,rfl,h1,h2,h3,h4,h5,h6}:=NN.ab nn tZ;hsb:d7 S n pt (N i).b:=(do[←hpt];(WN.sd i hi).1);hse':d7 S n pt (N i).e:=(do[←hpt];(WN.sd i hi).2);edqZ:=DP.to sZ edq7 ndq;{_,O,_,O,b,_,1,_,O,O,aV.of h1,O,_,O,b,_,2,_,O,O,aV.of h1,O,dq,kvs,S,aF S n pt,vb,ve,(N i).b,(N i).e,O,edqZ,hse,h3,sin hsb,h4,sin hse',λZ1 bq s1 e1=>?_};U:=s1 _ _ (DP.to sZ eaq7 naq);aaZ:AN (NM (cn S) Z1) av (bB S n pt):=aa7.imp λv i g=>NM.ab g (tZ.trans s1.ab);{_,O,aq,O,{_,az.of U},c7 (xs:=av) (cL ()) (λj' us X=>X=Z1/\AN (NM (cn S) Z1) us (((bB S n pt).take j').filter λk=>decide (bH (aF S n pt) (N i).b<=(aF S n pt).idxOf k/\(aF S n pt).idxOf k<max (bH (aF S n pt) (N i).b) (bH (aF S n pt) (N i).e)))) {O,.nil} (λ_ _ X s'=>do[s'.1];az.of U) (λj' y us X K1 K0 hy s' k1 k0=>?_) λX np I s' hyl hnq=>?_};{rfl,au}:=s';{k,ek,nm}:=aaZ.at hy;hk:k∈aF S n pt:=(zk.mp (qw ek)).1;tk:(bB S n pt).take (j'+1)=(bB S n pt).take j'++[k]:=(do[qz,ek];2);{_,O,bq,_,0,_,O,O,aV.of e1,O,_,O,_,O,dq,kvs,.tup (cn S k),_,O,.inl (s1 _ _ edqZ),nm,hse.2 k hk,_,_,O,O,_,O,?_};hle<|bH (aF S n pt) (N i).b<=(aF S n pt).idxOf k;cW (qI ()) ?_;{_,O,bq,_,1,_,O,O,aV.of e1,O,_,_,O,O,_,O,?_};hlt<|(aF S n pt).idxOf k<max (bH (aF S n pt) (N i).b) (bH (aF S n pt) (N i).e);cW (qI ()) {_,O,k1 _ _ {O,?_}};[tk];AN.pick (vs:=av) au nm (qI {hle,hlt});bU (decide_eq_false ()) (k0 _ {O,?_});[tk];au.skip λz=>hlt (qO z).2;bU (decide_eq_false ()) {_,O,bU rfl (k0 _ {O,?_})};[tk];au.skip λz=>hle (qO z).1;{rfl,au}:=s';au←[show av.length=(bB S n pt).length from aa.1,ze];au:AN (NM (cn S) X) I (ig S (aF S n pt) (N i).b (N i).e):=(do[←N0 (kM W)];au);nX:af X (upd X np (.lst I)):=af.new hnq;eX:(upd X np (.lst I)) np=!(.lst I):=aB;t:=au.imp λv i g=>NM.ab g nX.ab;(by generalize upd X np (.lst I)=Z2 at nX eX t);p:=s1.trans nX;h1':=p _ _ h1;hkey:qT S (aF S n pt) N i=.tuple [tD (N i).nm,.str (N i).kd,lR S (ig S (aF S n pt) (N i).b (N i).e).head?]:=rfl;tk:(bY N q pt).take (j+1)=(bY N q pt).take j++[i]:=(do[qz,ei];2);R:∀{G:Hp} {Y:Sx} {vu:V},af Z2 G->G Y=!(.tup [vn,.str (N i).kd,vu])->DT G vu (lR S (ig S (aF S n pt) (N i).b (N i).e).head?)->F4 λ(tv':List V) (v5:Option V) (v6:Option V) (v7:Option V)=>ic ([!(V.ref fa),!vp,!(.ref dq),!(.ref aq),!(.ref c),!(.ref b),!(.ref bq),!(.ref np)]=[!(.ref fa),!vp,!(.ref dq),!(.ref aq),!(.ref c),v5,v6,v7]) (af (del H7 c) (upd G c (.lst (tv++[.ref Y])))) ((upd G c (.lst (tv++[.ref Y]))) c=!(.lst tv')) (tv'.length=j+1/\cz (upd G c (.lst (tv++[.ref Y]))) tv' (((bY N q pt).take (j+1)).map (qT S (aF S n pt) N))):=λ{G Y vu} f C d3'=>(do J:=p.trans f;tw:ai G (upd G c (.lst (tv++[.ref Y]))):=ai.wl (J _ _ eZ);{_,_,_,_,O,(af.trans sZ J).wr d9,aB,do[qi,htl];2,?_};[tk,z7];A0 ?_ (dt.ab (J.ab.trans tw));.tup (tw _ _ C) (.cons (aK (h5.ab (J.ab.trans tw))) (.cons (.str _) (.cons (d3'.ab tw) .nil))));{_,O,.inl {O,_,az.of (p _ _ eZ)},_,O,b,_,4,_,O,O,aV.of h1',O,_,O,b,_,3,_,O,O,aV.of h1',O,_,O,np,I,O,.inl (az.of eX),_,_,O,O,_,O,?_};(by cases hL:ig S (aF S n pt) (N i).b (N i).e with|nil|cons k L'=>?_;rw[hL]at t R);this:I=[]:=yx.mp t.1;!this;bU (decide_eq_false ⋯) {aE rfl,λY G g3' f C=>{c,tv,_,O,O,(p.trans f) _ _ eZ,cG (),hNx _ _ (R f C .aQ)}};(by rw[hL]at t R;cases I with|nil|cons v0 I=>?_);absurd t.1 (do 0);cW (qI (do¬(0:Int)<((I.length+1:Nat):Int);())) {_,O,np,_,0,v0,O,O,az.of eX,vN (j:=0) rfl,aE rfl,λY G g3' f C=>{c,tv,_,O,O,(p.trans f) _ _ eZ,cG (),hNx _ _ (R f C (aK (NM.ab (t.2 0 v0 k rfl rfl) f.ab)))}};(σ,Z,{tv,u5,u6,u7,rfl,sZ,eZ,htl,dt});dt←[show zs.length=(bY N q pt).length from a2.1,ze];{_,O,kk Z c tv (λb o e=>DP.to sZ (s07 _ _ e) (aZ e gtp)) gtp eZ dt}
def AM(T:Txt K mg tk)(F:Me K mg "all_inner_parts" rC a9)(hB:base.BuiltinsAt mg a9)(gfAx:Ai P w K mg base)(gfBh:zU P w K mg base)(gfAd:rH P w K mg base):sL P w K mg base:=do Kr F pV (ll λ_=>rfl) {} λfa cdv A outer s H vs Q E hC W h=>?_;{_,(aj (sm pV.nd 1 (cl gfAd W (a1 (vv 0)))) (aj (sn pV.nd 2 (cl gfBh W (a1 (vv 0)))) (aj (sn pV.nd 3 (cl gfAx W (a2 (vv 0) (vv 2)))) (aj (sn pV.nd 4 jH) (aj (fo (il (Qp (k:=0) (y:="one") (z:="telling") (i:=1) rfl hC hB (W.mono ⋯) (do 2) T.cV boot_sorted {O,O,O,∅,O,O,∅} rfl rfl (λ_ h=>fM h) rfl rfl (λ_ _ _ _ _=>rfl) (λ_ _ _ _ _ _ _ W=>(xt (dD (cN W) (vf 1) (vv 0) (λ_ _=>rfl)))) (a1 (cy (Ph W.hd) T.eK boot_list (a1 (vv 2)))))) (gn pV.nd 5) (aD (br (ck (p_ (cN W)) (vv 5) (vv 3)) (aD (ap (bm PySem.F.plainAttrs_dict PySem.F.slot_dict_setdefault PySem.F.type_dict_setdefault (IR (cN W)) (vv 4) (a2 (dD (cN W) (vv 2) (vv 5) (λ_ _=>rfl)) (bK cS))) (a1 (vv 5)))) cc))) (aD (aN (vv 4)))))))),?_};{fa,F,bs,es,cs,rs,cu,k,rfl,fb,hk,hl,tt,ma,kk}:=h;fq:=fb.fq (do():k<=100);XWt:=fq.xw;{_,O,fa,es,rs,O,fq,λH1 tq kt s1 gtq etq akt=>?_};f:=tt.same s1;fb1:=fb.same s1;{_,O,fa,es,rs,O,fb1.fq (),f.a,s1 _ _ ma,λH2 da kd zz s2a tb2 gda eda lW akd=>?_};S:=lW.zw XWt;hstl:zz.length<=62:=(do[lW.len];hl);{tt2,t}:=f.Sf s2a tb2;fb2:=fb1.bJ f t;ma2:MA H2:=kL f t _ _ (s1 _ _ ma);{_,O,_,O,fa,F,bs,es,cs,rs,cu,k,da,kd,zz,O,fb2,(),.inl eda,akd,S,ma2,λH3 qa kq g s3 C gqa eqa rcr snq=>?_};tt3:=tt2.cut eda (λps z=>nomatch z) (λφ z=>nomatch z) s3;N:ai H2 H3:=mZ eda (λys z=>nomatch z) s3;etq2:=bJ f t etq λps z=>nomatch z;etq3:H3 tq=!(.dG kt):=s3 _ _ (do[bR (aZ etq gda)];etq2);akt3:=((akt.imp λe x q=>q.imp (R':=fB H2) (kL f t) λr=>r.ab (kL f t))).imp λe x q=>q.imp (R':=fB H3) N λr=>r.ab N;I:=akd.imp λe x q=>q.imp (R':=gT H3) N λr=>r.ab N;sH3:af (bP H (s2)) H3:=λb u e=>(do nb:¬s2 b:=λz=>(do e←[dS z];-e);e←[eg nb];s3 _ _ (do[bR (aZ (s1 _ _ e) gda)];de t (s1 _ _ e) nb));(by clear s3 N akd akt etq2 etq t s2a tb2 tt2 fb2 ma2 fb1 f s1);(c,H4,g4,s4,e4);{_,O,da,kd,O,Rd.same C s4,do this:=I.1;(),λlp H5 g5 s5 e5=>?_};D:=s4.trans s5;M:=tt3.same D;{M.b,λH6 tb6 sd6=>?_};{tt6,s56}:=M.R0 sd6 tb6;J:∀{b:Sx} {u:HO},H5 b=!u->(∀ps,u≠.cf ps)->H6 b=!u:=λe h=>bJ M s56 e h;t56:=kL M s56;L:=D.ab.trans t56;e6:=J e5 λps z=>nomatch z;akt6:=akt3.imp λe x q=>q.imp (R':=fB H6) L λr=>r.ab L;akd6:=I.imp λe x q=>q.imp (R':=gT H6) L λr=>r.ab L;etq6:=J (D _ _ etq3) λps z=>nomatch z;V:=M4 akd6;{.ref tq,O,lp,_,zz.map L5,2,O,az.of e6,do[qj];V.1.symm,Qq _,{do[V.1];(),.inl (do[V.1];())},λm y d H' Q' hy hd s' kq'=>{y,O,?_},λq R ix gq s7 six e7=>?_};{x,hx,gy}:=V.at hy;hd←[qu,hx];-hd;{z,hz,ez,ka,kb}:=lW.of (qw hx);akt':=akt6.imp λe x q=>q.imp (R':=fB H') s'.ab λr=>r.ab s'.ab;{v,hv,b,vp,vo,vn,kq2,rfl,h1,h2,h3,h4,h5}:=pj akt' XWt.nd hz;gy:GK H6 (.tup x.pt) y:=gy;gy←[ez];{_,O,_,O,tq,kt,.tup z.pt,.ref b,O,.inl (s' _ _ etq6),gy.ab s'.ab,hv,b,_,3,.ref kq2,O,O,aV.of h1,O,kq' H' _ (af.refl _) ?_};¬DV H' (.ref kq2) (.tuple [.int x.ka,.int x.kb]);[ka,kb];.tup (aV.of h5) (.cons (.int _) (.cons (.int _) .nil));{ms,am,hw,o}:=NW {[],[],[],0,0} V six;hms:∀x,x∈ms↔x∈zz:=λx=>o.mem_iff;hup:=Qw S E4 hw (o.nodup_iff.mpr (List.Pairwise.of_map (·.pt) (λa b h z=>h (do[z])) S.nd)) λx hx=>(hms x).mp hx;hml:ms.length<=62:=(do[o.length_eq];hstl);am7:=am.imp λv k z=>NP.ab z s7.ab;(by generalize ix.map (λi=>(kd.map (·.2.1)).getD i .aQ)=zs at e7 am7 am);t37:=L.trans s7.ab;k37:∀{b:Sx} {u:HO},H3 b=!u->(∀ps,u≠.cf ps)->R b=!u:=λe h=>s7 _ _ (J (D _ _ e) h);eqa7:=k37 eqa λps z=>nomatch z;B:R c=!(.dG []):=s7 _ _ (J (s5 _ _ e4) λps z=>nomatch z);akd7:=I.imp λe x q=>q.imp (R':=gT R) t37 λr=>r.ab t37;nda:da≠c:=λz=>(by rw[z]at C;rcases C with y|⟨o',y⟩ <;> rw[g4]at y <;> cases y);hda7:Rd R da (.dG kd):=(do y||{o',y}:=C;.inl (k37 y λps z=>nomatch z);.inr ⟨o',k37 y λps z=>nomatch z⟩);nqa:qa≠c:=aZ eqa g4;nqi:q≠c:=λz=>(do gq←[z,J (s5 _ _ e4) λps z=>nomatch z];-gq);tt7:=tt6.same s7;b0:∀{b u},R b=!u->b≠c->(del R c) b=!u:=λe n=>(do[bR n];e);{q,O,{_,az.of e7},bD (xs:=zs) (λj σ X=>vA λkvs u5=>ic (σ=[!(.ref fa),!(.ref tq),!(.ref da),!(.ref qa),!(.ref c),u5]) (af (del R c) X) (pC (GT g) (ms.take j) (del R c) X c kvs) (kvs.length<=j)) {[],none,O,(λb u e=>lJ _ _ e),{B,λp=>.inl {O,O},λk k' q z=>(do-z),λk q z=>(do-z)},qe _} (λj σ X _ ⟨_,_,_,s,_,_⟩=>az.of (s _ _ (b0 e7 nqi))) ?_ ?_};(j,x,σ,X,hx,{kvs,u5,rfl,Y,id,hkl},Nx,hNx);{m,em,gx7}:=am7.at hx;hj:j<ms.length:=(qk.mp em).1;hmm:=(hms m).mp (qw em);htk:ms.take (j+1)=ms.take j++[m]:=(do[qz,em];2);tX:ai R X:=mZ B (λys z=>nomatch z) Y;gx:GK X (.tup m.pt) x:=GK.ab gx7 tX;{_,O,_,O,qa,kq,.tup m.pt,O,.inl (Y _ _ (b0 eqa7 nqa)),gx,_,O,?_};[qB qr];ndm:=lN (S.pt m hmm).ne;U<|GT g m.pt;cW (do[←ndm];snq.yes U) ?_;akX:=akd7.imp λe x q=>q.imp (R':=gT X) tX λr=>r.ab tX;{v',hv',gv'}:=pj akX S.nd hmm;hdX:Rd X da (.dG kd):=(do y||{o',y}:=hda7;.inl (Y _ _ (b0 y nda));.inr ⟨o',Y _ _ (b0 y nda)⟩);⟨_,O,.inr (.inr (.inl ⟨O,.inr (.inr ⟨kvs,id.has⟩)⟩)),_,O,_,O,da,kd,.tup m.pt,v',O,hdX,gx,hv',aE rfl,λZ X4 gz sz ez=>?_⟩;id4:=id.same sz;s74:=Y.trans sz;f0:(del R c) Z=none:=Y.free gz;gv4:GK X4 (nd m.ou) v':=GK.ab gv' sz.ab;{c,kvs,nd m.ou,v',.ref Z,O,O,id4.has,gv4,f6 (),λu hu=>?_,λhu=>?_};{h1,_}||{q',vs,h1,h2,h3,h4}:=id4.each m.ou;hu←[h1];-hu;hu←[h1];-hu;vl:vs.length<=62:=(do[h3.1];qg (we _ _) (do[wv];()));{.inl {O,_,az.of h2},_,O,q',vs,_,O,O,h2,f6 (),?_};hNx _ _ {kvs,_,O,s74.wr h4,?_,()};[htk];id4.old U h1 h2 (GK.ab gx sz.ab);nz:Z≠c:=λz=>(do gz←[z,id.has];-gz);ez1:(upd X4 c (.dG (pG kvs (nd m.ou) v' (.ref Z)))) Z=!(.lst []):=(do[ak nz];ez);{.inl {O,_,az.of ez1},_,O,Z,_,_,O,O,ez1,f6 (do¬0<=_;()),?_};hqn:∀k,vG kvs k≠some (.ref Z):=λk z=>(do _;{xs,y}:=id.live k Z z;gz←[y];-gz);hNx _ _ {pG kvs (nd m.ou) v' (.ref Z),_,O,(s74.wr d9).wr f0,?_,qg (iN kvs _ _ _) (j3 hkl)};[htk];id4.first U hu f0 ez hqn (GK.ab gx sz.ab);bU (do[←ndm];snq.no U) (hNx _ _ {kvs,_,O,Y,?_,()});[htk];id.skip U;(σ,X,{kvs,u5,rfl,Y,id,hkl});id←[am7.1,ze];fr7:∀{b},R b=none->H b=none:=λ{b} e=>(do h6:=s7.free e;h5:=M.free s56 tt6 h6;tt.free sH3 tt3 (D.free h5));finn:H c=none:=tt.free sH3 tt3 g4;{_,O,kk X c kvs zz g (λb u e=>?_) (tt7.cut B (λps z=>nomatch z) (λφ z=>nomatch z) Y) finn id.has {lW,rcr} λp hp=>?_};nb:¬s2 b:=λz=>(do e←[dS z];-e);e3:=D _ _ (sH3 _ _ e);e←[eg nb];Y _ _ (b0 (s7 _ _ (de s56 e3 nb)) (aZ e finn));hI:=Pw (G:=GT g) (p:=p) hup hms;this:=id.each p;this←[lN hp.ne];{h1,h2}||{q',vs,h1,h2,h3,h4}:=this;hI←[h2];.inl ⟨h1,hI⟩;.inr ⟨q',vs,_,h1,fr7 ?_,h2,h3,hI⟩;nq:q'≠c:=λz=>(do h2←[z,id.has];-h2);h4←[bR nq];h4
def C8(T:Txt K mg tk)(F:FO K mg "marks_of" rX)(a:An P w K mg base):um P w K mg base:=do aM F Ct (ip λ_ _=>rfl) {} λfa e A outer s H vs Q E g h=>?_;{_,(aD (aN (cl a g (ac (vv 0) (a2 (vv 1) aA))))),?_};{fa,F,S,n,M,m,N,q,xs,ms,ns,f,pt,rfl,fs,c,b,d,i}:=h;⟨_,O,_,O,fa,F,S,n,M,m,N,q,xs,ms,ns,f,pt,false,O,fs,c,b,d,i⟩
def AJ(T:Txt K mg tk)(F:FO K mg "inner_parts" se)(b:sL P w K mg base):zK P w K mg base:=do aM F FF (ip λ_ _=>rfl) {} λfa G A outer s H vs Q E n h=>?_;{_,(aD (aN (bm PySem.F.plainAttrs_dict PySem.F.slot_dict_get PySem.F.type_dict_get (iL (cN n)) (cl b n (a1 (vv 0))) (a2 (vv 1) (bK cS))))),?_};{fa,F,bs,es,cs,rs,cu,k,y,p,rfl,C,D,U,tt,ma,M,hp,m}:=h;{_,O,fa,F,bs,es,cs,rs,cu,k,O,C,D,U,tt,ma,λH1 J kd r g i f N c d j=>?_};{.inr (.inr (.inl {O,.inr (.inr {kd,c})})),_,O,aE rfl,λo H2 B a R=>?_};t:af (bP H (s2)) H2:=i.trans a;e:=f.same a;{J,kd,.tup p,y,.ref o,O,O,a _ _ c,(M.ab (kL tt i)).ab a.ab,?_};{h1,h2}||{q,ws,l,h1,h2,S,I,L}:=j p hp;[h1];m H2 o [] [] r g t e (tt.free i f B) R d .nil h2;[h1];m H2 q ws l r g t e h2 (a _ _ S) d (I.imp λv x z=>NP.ab z a.ab) L
def EA(T:Txt K mg tk)(F:FO K mg "numbered_parts" oC)(gfAa:sL P w K mg base)(gfAq:zE P w K mg base)(gfBw:yU P w K mg base):zW P w K mg base:=do aM F mH (uY λ_ _ _=>rfl) {} λfa cdv A outer s H vs Q E hr h=>?_;{_,(aj (sn mH.nd 3 (cl gfAa hr (a1 (vv 0)))) (aj (sn mH.nd 4 (bK cS)) (aj (sn mH.nd 5 (bK (a1 (a0 (a2 (Co (v:=.ref cw) rfl T.cw rfl) aO))))) (aj (q_ PassesOwn.never (ck eB (cb c6 T.bQ boot_len (a1 (vv 5))) aA) (aj (sm mH.nd 6 (Ds PySem.F.plainAttrs_list PySem.F.slot_list_pop PySem.F.type_list_pop I_ (vv 5))) (aj (sn mH.nd 7 (cl gfBw hr (ac (vv 0) (ac (vv 1) (a2 (vv 2) (xt (vc 6))))))) (aj (ap (vv 4) (a1 (aG Pj (vc 6) (a0 (a1 (vv 7)))))) (aD (br (dB (vv 7)) (aj (sn mH.nd 8 (Nk rfl (do 2) T.eK (do 2) T.dW (bm PySem.F.plainAttrs_dict PySem.F.slot_dict_get PySem.F.type_dict_get (iL (cN hr)) (vv 3) (a2 (xt (vc 6)) (bK cS))))) (aD (mX (bm PySem.F.plainAttrs_list PySem.F.slot_list_extend PySem.F.type_list_extend Kg (vv 5) (a1 (iz (own:=["place","part"]) (fr:=[("coming",6)]) rfl (il (Py (vv 8) (fT (eF iT aA)))) {O,∅,∅} (jX (ag oC) ["facts","roll","hand","inner","told","to_come","coming","is_open","within"] rfl rfl (λ_ h=>fM h) ∅ ∅ ∅) (λ_ _ _=>(jT (n:=2) rfl (df (cO (i:=0) (do¬List.Nodup (["place","part","coming"]:List Sy);by decide +kernel) rfl (Or.inl rfl)) (df (cO (i:=1) (do¬List.Nodup (["place","part","coming"]:List Sy);by decide +kernel) rfl (Or.inl rfl)) ik)))) (λ_=>pP rfl rfl ⋯) (λ_ _ _=>dJ) (λ_ _ _=>(a0 (a2 (vv 1) (cl gfAq hr (a2 (xt (vc 2)) (vv 0)))))))))))) cc)))))) (aD (aN (vv 4))))))),?_};{fa,F,d,r,rfl,fz,tt,ma,kk}:=h;{bs,es0,cs,k,fb,hk,hl}:=fz.fb;W:=fz.xw;{_,O,fa,F,bs,es0,cs,d.rs,d.cu,k,O,fb,hk,hl,tt,ma,λH1 da kd A g s1 t1 g1 e1 dtr inn=>?_};ma1:MA H1:=bJ tt s1 ma (λps z=>nomatch z);S:=dtr.1.zw W;nA:=S.nd;hN:=S.pt;lA:A.length<=62:=(do[dtr.1.len];hl);inU:∀p l,qQ A (GT g) p l->(∀x∈l,x∈A/\x.ou=p)/\l.Nodup:=λp l h=>{λx R=>let⟨a,b,_⟩:=(h.mem x).mp R;{a,b},h.up.imp λ{a b} hl z=>do hl←[z];HL _ _ hl};{aE rfl,λta H2 g2 s2 e2=>{aE rfl,λtq H3 g3 s3 e3=>{aE rfl,λq H4 g4 s4 e4=>?_}}};s14:=(s2.trans s3).trans s4;nt:ta≠q:=λz=>(do g4←[←z,s3 _ _ e2];-g4);ft:H1 ta=none:=g2;fu:H1 q=none:=(s2.trans s3).free g4;{λmm σ L=>FV λC es Us us u6 u7=>∃u8,mT (σ=[!(.ref fa),!r,some .aQ,!(.ref da),!(.ref ta),!(.ref q),u6,u7,u8]) (af H1 L) (L ta=!(.lst C)) (AL (TN L) C es) (L q=!(.lst Us)) (ic (AL (UN L) Us us) (Jz A (es.map (·.1)) (us.map (·.1))) (∀x∈us,x.2.length<=4 * es.length) ((∀out,Wk A (GT g) us.reverse out->Wk A (GT g) [(bE,"")] (es++out))/\mm+es.length=64)),{64,[],[],[.ref tq],[(bE,"")],none,none,none,O,s14,s4 _ _ (s3 _ _ e2),.nil,e4,.cons {tq,_,O,s4 _ _ e3,{_,O,s14 _ _ ma1}} .nil,{do 0,λc hc=>.inl (do 0<|hc)},λx R=>do[List.mem_singleton.mp R];Nat.le_refl _,(λout h=>h),O},?_};(mm,σ,L,{C,es,Us,us,u6,u7,u8,rfl,s5,eT,aT,eU,aU,J,hz,hw,hm});hJ:=J.len;hJ←[qj,qj];hTl:C.length=es.length:=aT.1;{_,O,q,_,O,.inl (az.of eU),_,_,O,O,_,O,?_};z||{us',{u,z0},z}:=jb us;!z;h0:Us=[]:=yx.mp aU.1;!h0;bU rfl ?_;{_,O,kk L ta C es (s1.trans s5) (t1.same s5) (tt.free s1 t1 ft) eT aT {A,g,dtr,by have:=hw [] .nil;rwa [wx]at this} () (by have:=J.nd;rwa [j7,wx]at this)};z←[jc];!z;hJ←[qi,qt];{f,vx,rfl,aU',b,vp,rfl,h1,h2}:=wQ aU;hUl:f.length=us'.length:=aU'.1;pu:Pn u:=J.pn hN (do 0);hzu:z0.length<=4 * es.length:=hz (u,z0) (do 0);cW (qI (do¬(0:Int)<((f++[V.ref b]).length:Nat);[qi,qt];())) ?_;L7 (λσ' H'=>FV λC Us us u6 u7 u8=>mT (σ'=[!(.ref fa),!r,some .aQ,!(.ref da),!(.ref ta),!(.ref q),u6,u7,u8]) (af H1 H') (H' ta=!(.lst C)) (AL (TN H') C (es++[(u,z0)])) (H' q=!(.lst Us)) (ic (AL (UN H') Us us) (Jz A (es.map (·.1)++[u]) (us.map (·.1))) (∀x∈us,x.2.length<=4 * (es.length+1)) (∀out,Wk A (GT g) us.reverse out->Wk A (GT g) [(bE,"")] ((es++[(u,z0)])++out)))) (λσ' H' ⟨Ts',Us2,us2,v6,v7,v8,b1,b2,b3,b4,b5,b6,b7,b8,b9⟩=>{mm - 1,(),Ts',es++[(u,z0)],Us2,us2,v6,v7,v8,b1,b2,b3,b4,b5,b6,do[z7];b7,do[qi];b8,b9,do[qi,qt];()}) λNx hNx=>?_;J←[z7];{_,O,.inl {O,_,az.of eU},q,_,.ref b,O,O,eU,(do 0),?_};[tf];t6:ai L (upd L q (.lst f)):=ai.wl eU;s6:af H1 (upd L q (.lst f)):=s5.wr fu;eT6:(upd L q (.lst f)) ta=!(.lst C):=(do[ak nt];eT);eU6:(upd L q (.lst f)) q=!(.lst f):=aB;aT6:=aT.imp λv e g=>TN.ab g t6;aU6:=aU'.imp λv e g=>UN.ab g t6;h16:=t6 _ _ h1;h26:=h2.ab t6;¬nE _ _ _ _ (upd L q (.lst f));(by generalize upd L q (.lst f)=H6 at s6 eT6 eU6 aT6 aU6 h16 h26);{_,O,_,O,_,O,_,O,b,_,0,_,O,O,aV.of h16,O,_,_,_,O,?_};s7:af H6 H6:=af.refl _;s17:=s6.trans s7;eT7:=s7 _ _ eT6;{_,O,.inl {O,_,az.of eT7},_,O,_,O,aE rfl,λtp H8 g8 s8 e8=>?_};{b,tp,_,_,O,O,aV.of ((s7.trans s8) _ _ h16),aV.of e8,(λz=>nomatch z),(λz=>nomatch z),aE rfl,λt H9 g9 s9 e9=>?_};s79:=(s7.trans s8).trans s9;s19:=s6.trans s79;eT9:=s79 _ _ eT6;{ta,_,_,O,O,eT9,cG (),?_};t10:ai H9 (upd H9 ta (.lst (C++[.ref t]))):=ai.wl eT9;N:af H1 (upd H9 ta (.lst (C++[.ref t]))):=s19.wr ft;eT10:(upd H9 ta (.lst (C++[.ref t]))) ta=!(.lst (C++[.ref t])):=aB;U:(upd H9 ta (.lst (C++[.ref t]))) q=!(.lst f):=(do[ak nt.symm];s79 _ _ eU6);I:=s79.ab.trans t10;aU10:=aU6.imp λv e g=>UN.ab g I;X:=I _ _ h16;Y:=h26.ab I;aT10:AL (TN (upd H9 ta (.lst (C++[.ref t])))) (C++[.ref t]) (es++[(u,z0)]):=(aT6.imp λv e g=>TN.ab g I).snoc {t,vp,O,t10 _ _ e9,Y,pu,do¬z0.length<=1000;()};(by generalize upd H9 ta (.lst (C++[.ref t]))=H10 at N eT10 U aU10 X Y aT10);{_,O,true,O,cW rfl ?_};{_,O,.inr (.inr (.inl {O,.inr (.inr {kd,N _ _ e1})})),_,O,b,_,0,_,O,O,aV.of X,O,aE rfl,λzq H11 g11 s11 e11=>?_};{da,kd,.tup u,vp,.ref zq,O,O,(N.trans s11) _ _ e1,Y.ab s11.ab,?_};{a,ws,l,ea,ew,aw,hin}:∃a ws l,(vG kd (.tup u)).getD (.ref zq)=.ref a/\H11 a=!(.lst ws)/\AL (NP H11) ws l/\qQ A (GT g) u l:=(do _;{h,g}||{qa,ws,l,h,_,h3,h4,h5}:=inn u pu;⟨zq,[],[],do[h];2,e11,.nil,g⟩;⟨qa,ws,l,do[h];2,(N.trans s11) _ _ h3,h4.imp λv x g=>NP.ab g (N.trans s11).ab,h5⟩);[ea];{il,ind}:=inU u l hin;J2:=Jz.step nA hN J il ind;hJ2:=J2.len;hJ2←[qi,qj,qi,qj,vd,qj];hwl:ws.length=l.length:=aw.1;{a,ws,O,az.of ew,λwq H12 zs g12 s12 e12 hl12 pr=>?_};s1012:=s11.trans s12;eU12:=s1012 _ _ U;{_,O,.inl {O,_,az.of eU12},_,O,1,O,-1,O,O,wq,zs,O,az.of e12,λvq H13 g13 s13 e13=>?_};D:=s1012.trans s13;hll:l.reverse.length=zs.length:=(do[vd,hl12,hwl]);{vq,O,{_,az.of e13},c7 (xs:=zs.reverse) (kK (do[vd];())) (λj o H'=>af H13 H'/\AL (UN H') o ((subs z0 0 l).reverse.take j)) {af.refl _,.nil} (λ_ _ H' s'=>az.of (s'.1 _ _ e13)) (λj x o H' K1 K0 R s' k1 k0=>?_) λM lq o s' hv3 hlq=>?_};{s',an}:=s';hj:j<zs.length:=(by have:=(qk.mp R).1;rwa [vd]at this);R←[tz hj];{T,w,ew2,rfl,hT}:=pr _ _ R;{y,ey,hy}:=aw.at ew2;tk:(subs z0 0 l).reverse.take (j+1)=(subs z0 0 l).reverse.take j++[(y.pt,pZ z0 (zs.length - 1 - j+1))]:=(do[qz,tz (do[jV];()),sF,jV,show l.length - 1 - j=zs.length - 1 - j from (),ey,ja];2);s13':=s13.trans s';{T,_,O,aV.of (s13' _ _ hT),O,_,_,O,_,_,O,O,?_};dI (B:=K0 H') ?_;{_,O,_,O,b,_,1,_,O,O,aV.of ((D.trans s') _ _ X),O,_,O,z0,zs.length - 1 - j+1,O,(),(),aE rfl,λpq H15 g15 s15 e15=>k1 _ _ {s'.trans s15,?_}};[tk];(an.imp λv e g=>UN.ab g s15.ab).snoc {pq,w,O,e15,NP.ab hy ((s12.trans s13').trans s15).ab};{s',an}:=s';an←[vd,←hll,vd,←jV z0 l 0,←vd,ze];eU14:M q=!(.lst f):=(D.trans s') _ _ U;nlu:q≠lq:=aZ eU14 hlq;n14:af M (upd M lq (.lst o)):=af.new hlq;eU15:(upd M lq (.lst o)) q=!(.lst f):=(do[ak nlu];eU14);G:=(D.trans s').trans n14;hnl:o.length=l.length:=(by have:=an.1;rwa [vd,jV]at this);{q,lq,f,o,O,O,eU15,aB,kK (),?_};t16:ai (upd M lq (.lst o)) (upd (upd M lq (.lst o)) q (.lst (f++o))):=ai.wl eU15;Z:=G.ab.trans t16;hNx _ _ {_,f++o,us'++(subs z0 0 l).reverse,_,_,_,O,(N.trans G).wr fu,do[ak nt];G _ _ eT10,aT10.imp λv e g=>TN.ab g Z,aB,(aU10.imp λv e g=>UN.ab g Z).app (an.imp λv e g=>UN.ab g (n14.ab.trans t16)),do[z7,List.map_reverse,J9];J2,λx R=>?_,λout h=>?_};R||R:=zh.mp R;qg (hz x (wg _ R)) ();{m,hm'}:=jf (yh.mp R);hm'←[sF];{y,hy,rfl}:=wj.mp hm';this:=(qk.mp hy).1;qg (IS z0 ()) ();h←[jy,List.reverse_reverse];this:=hw _ (do[jy];Wk.cons hin h);[yk];this
def D8(T:Txt K mg tk)(F:FO K mg "shown_row" jD)(gfCb:lj P w K mg base)(gfBt:um P w K mg base)(gfAr:zP P w K mg base):Ao P w K mg base:=do aM F DX (uY λ_ _ _=>rfl) {} λfa cdv A outer s H vs Q E J h=>?_;hu1:(A.deeper (envOfC "shown_row" (ag jD) ↑s fa cdv)).units+1<cLine:=cR J;{_,(aj (sm DX.nd 3 (cy (gJ J.hd (qS J)) T.cZ boot_dict (a1 (sj (ag jD) rZ [("part",1)] (il (cU hu1 (vv 0) aO (λ_ _=>rfl))) (λ_ _ _=>(fN (ck (FT J) (xt (vv 0)) (vc 1)))) (λ_ _ _=>(a0 (a2 (xt (vv 0)) (xt (vv 0))))))))) (aj (sm DX.nd 4 (cl gfBt J (a2 (vv 0) (vc 1)))) (aD (aN (sj (ag jD) rZ [("numbers",2),("signs",3),("marks",4)] (il (cl gfCb J (a2 (vv 0) (vc 1)))) (λ_ _ _=>dJ) (λ_ _ _=>(a0 (ac (vv 0) (a2 (cl gfAr J (a2 (vc 1) (dD (cN J) (vc 2) (vv 0) (λ_ _=>rfl)))) (dD (cN J) (vc 3) (vv 0) (λ_ _=>rfl))))))))))),?_};{fa,F,d,vp,p,nq,num,rfl,fz,gp,hp,nd,kk}:=h;{xs,ms,ns,fs}:=fz.fs;fg:=fs.fg;{kvs0,la,vs,rd,hval,hla,an,W}:=fs.fg;f:=hp.lay;hvl:vs.length=d.n:=(do[an.1,zo]);cJ:=W.cJ;p4:=W.vD p;{_,O,fa,.ref la,O,.inl {kvs0,.inr "signs",rd,O,hval.symm},la,O,{_,az.of hla},c7 (xs:=vs) (cL ()) (λj us H'=>af H H'/\∃kvs,cx H' us kvs/\kA (cn d.S) (λv i=>DT H v (d.S i).sg) kvs (((List.range d.n).take j).filter (n_ d.S p))) {af.refl _,[],trivial,trivial} (λ_ _ H' s'=>az.of (s'.1 _ _ hla)) (λj x us H' K1 K0 Z s' k1 k0=>?_) λH3 up us s' hu3 huq=>?_};{s',kvs,pr,pk}:=s';{i,ei,sn}:=an.at Z;I:i<d.n:=qo.mp (qw ei);{b,vq,vn,vb,kq,vg,rfl,h1,h2,h3,h4,h5,h6}:=sn;t:=s'.ab;tk:(List.range d.n).take (j+1)=(List.range d.n).take j++[i]:=(do[qz,ei];2);{_,O,b,_,0,_,O,O,aV.of (t _ _ h1),O,_,O,tD (d.S i).pt,tD p,(aK (h2.ab t)).dv,(aK (gp.ab t)).dv,(W.lay i I).2,f,qg (yb _ _) (qg (eh _) ⋯),_,O,?_};eqp:(if false=true then not (PyData.eqv (tD (d.S i).pt) (tD p)) else PyData.eqv (tD (d.S i).pt) (tD p))=decide ((d.S i).pt=p):=hP _ _;G<|(d.S i).pt=p;cW (do[eqp];qI G) ?_;{_,O,b,_,1,_,O,O,aV.of (t _ _ h1),O,_,O,b,_,4,_,O,O,aV.of (t _ _ h1),O,aE rfl,λtq H4 g4 C e4=>k1 _ _ {s'.trans C,kvs++[(.tup (cn d.S i),vn,vg)],cx.snoc (e:=(.tup (cn d.S i),vn,vg)) {tq,O,e4,(h3.ab t).ab C.ab} (pr.ab C.ab),?_}};[tk,yg,jd (iu.mpr G),yv];pk.snoc rfl h6;bU (do[eqp];decide_eq_false G) (k0 _ {s',kvs,pr,?_});[tk,yg,je (λz=>G (iu.mp z)),yv,wx];pk;{s3,kvs,pr,pk}:=s';n3:af H3 (upd H3 up (.lst us)):=af.new huq;pk←[hvl,yr (do[zo];qe _)];{up,us,kvs,O,az.of aB,pr.ab n3.ab,(),λdq H5 g5 s5 e5=>?_};D:=(s3.trans n3).trans s5;get:∀i∈bM d.S d.n p,∃v,vG (putAll [] kvs) (.tup (cn d.S i))=!v/\DT H v (d.S i).sg:=λi hi=>kA.get (all:=bM d.S d.n p) p4.inj (done:=[]) (acc:=[]) pk (λi z=>nomatch z) (λi h=>h) (λi z=>nomatch z) i (.inr hi);{_,O,_,O,fa,F,d.S,d.n,d.M,d.m,d.N,d.q,xs,ms,ns,vp,p,O,fs.same D,gp.ab D.ab,f,fz.hm,λH6 mq L s6 g6 e6 tdk knd=>?_};R:=D.trans s6;{_,O,_,O,fa,vp,p,d.S,d.n,O,fg.same R,gp.ab R.ab,f,λH7 lq zs s7 g7 e7 al=>?_};k:∀i∈bB d.S d.n p,i<d.n/\(d.S i).pt=p:=λi hi=>(lX W).mp (zk.mp hi).1;hzl:zs.length<=1400:=(do[al.1];qg (qg (we _ _) (iJ W)) W.cJ);{lq,O,{_,az.of e7},c7 (xs:=zs) (cL ()) (λj us H'=>af H7 H'/\∃r:List (Nat×Sx),AL (RZ d p num H') us r/\r.map (·.1)=(bB d.S d.n p).take j/\∀e∈r,vG L (.tup (cn d.S e.1))=!(.ref e.2)/\H e.2=none) {af.refl _,[],.nil,O,λe z=>nomatch z} (λ_ _ H' s'=>az.of (s'.1 _ _ e7)) (λj x us H' K1 K0 Z s' k1 k0=>?_) λH9 rq us s' hu V=>?_};{s',r,ar,Y,rk}:=s';{i,ei,nmx}:=al.at Z;hia:i∈bB d.S d.n p:=qw ei;{I,hpt}:=k i hia;him:i∈bM d.S d.n p:=zk.mpr {qo.mpr I,iu.mpr hpt};X:NM (cn d.S) H' x i:=NM.ab nmx s'.ab;{v,gv,dv}:=get i him;c:=s7.trans s';s07:=R.trans c;{a,zs',gm,ba,za,dz}:=tdk.get ((kM W).filter _) (λa ha b hb e=>W.inj a (k a ha).1 b (k b hb).1 e) hia;dI (B:=K0 H') ?_;{_,O,_,O,_,O,_,O,dq,_,.tup (cn d.S i),v,O,.inl ((s6.trans c) _ _ e5),X,gv,nq,num,v,(d.S i).sg,O,nd.same s07,dv.ab s07.ab,fz.sg i I,λt ht=>?_};ht:=Ab ht;!ht;{_,O,_,O,mq,L,.tup (cn d.S i),.ref a,O,.inl (c _ _ e6),X,gm,aE rfl,λtq H4 g4 C e4=>k1 _ _ {s'.trans C,r++[(i,a)],?_,?_,λe U=>?_}};(ar.imp λv e g=>g.to C.ab λo q=>C _ _ q).snoc {tq,x,zs',O,e4,NM.ab X C.ab,(c.trans C) _ _ za,dz.ab (c.trans C).ab};[z7,Y,qz,ei];2;U||U:=zh.mp U;rk e U;[qx.mp U];{gm,D.free ba.1};{s9,r,ar,Y,rk}:=s';Y←[al.1,ze];n9:af H9 (upd H9 rq (.lst us)):=af.new V;s09:=(R.trans s7).trans s9;rn:(r.map (·.2)).Nodup:=(do h1:(r.map (·.1)).Nodup:=Y▸(kM W).filter _;wb.mpr (List.Pairwise.imp_of_mem (λ{x y} Z hy h z=>h ?_) (wb.mp h1));{i1,c1,d1,e1,f1}:=Km (rk x Z).1;{i2,c2,d2,e2,f2}:=Km (rk y hy).1;hl1:=(qk.mp d1).1;hl2:=(qk.mp d2).1;q1:(L.map (·.2.2))[i1]?=!(.ref x.2):=(do[qu,d1,←f1];2);q2:(L.map (·.2.2))[i2]?=!(.ref x.2):=(do[qu,d2,z,←f2];2);hi:=(mr (do[qj];hl1) knd).mp (q1.trans q2.symm);!hi;d2←[d1];-d2;hm:∀{u},u∈r->u.1∈bB d.S d.n p:=λh=>Y▸qf.mpr {_,h,O};W.inj _ (k _ (hm Z)).1 _ (k _ (hm hy)).1 (KD.tup.inj (e1.symm.trans e2)));kk _ rq us r (s09.trans n9) (s09.free V) aB (ar.imp λv e g=>g.to n9.ab λo q=>n9 _ _ q) Y rn λe U=>{(rk e U).2,λz=>do _;{_,_,b,vn,ms,_,_,_,g,_}:=ar.gG U;g←[z,V];-g}
def C1(T:Txt K mg tk)(F:FO K mg "_law_numbered" uF)(gfBa:zK P w K mg base):ya P w K mg base:=do aM F jG (ll λ_=>rfl) {} λfa cdv A outer s H vs Q E hr h=>?_;{_,(aj (sn jG.nd 1 (bK cS)) (aj (sn jG.nd 2 (bK (a1 (a0 (a2 aO (a0 (a2 aO aA))))))) (aj (q_ PassesOwn.never (ck (lB hr) (vv 2) (bK cS)) (aj (C6 (xl (vv 2)) (gt (df (gn jG.nd 3) (df (gn jG.nd 4) ik)))) (aj (sn jG.nd 5 (bK cS)) (aj (fo (JH (do 2) T.dW (a1 (cl gfBa hr (a2 (vv 0) (vv 4))))) (gt (df (gn jG.nd 6) (df (gn jG.nd 7) ik))) (aD (ap (vv 5) (a1 (a0 (a2 (aG vH (aG vH (vv 3) (aG Pg aO (cy AF T.uu boot_int (a1 (ce kQ (vv 3) aO))))) (cy Qu T.uH boot_str (a1 (aG c8 (vv 6) aA)))) (vv 7))))))) (aj (ap (vv 1) (a1 (a0 (a2 (vv 3) (vv 4))))) (aD (sn jG.nd 2 (aG sP (vv 5) (p8 E9 (vv 2) (fT aA) Fj))))))))) (aD (aN (vv 1)))))),?_};{fa,F,d,nu,rfl,fz,tt,ma,hnu,nl,nk,kk}:=h;W:=fz.xw;sok:=hnu.ok W;{A,g,dtr,wk}:=hnu;{aE rfl,λta H1 g1 s1 e1=>?_};{aE rfl,λmq H2 g2 s2' e2=>{aE rfl,λpq H3 g3 S e3=>{aE rfl,λG H4 g4 s4 e4=>?_}}};s14:=(s2'.trans S).trans s4;s04:=s1.trans s14;{λmm σ H5=>∃f done G Us us out u3 u4 u5 u6 u7,σ=[!(.ref fa),!(.ref ta),!(.ref G),u3,u4,u5,u6,u7]/\af (bP H s2) H5/\dh H5/\H5 ta=!(.lst f)/\AL (NU H5) f done/\H5 G=!(.lst Us)/\G≠ta/\AL (NU H5) Us us/\Wk A (GT g) us out/\done++out=nu/\mm=out.length,{nu.length,[],[],G,[.ref pq],[(bE,"")],nu,none,none,none,none,none,O,MY s04,tt.same s04,s14 _ _ e1,.nil,e4,(λz=>do g4←[z,(s2'.trans S) _ _ e1];-g4),.cons {pq,.ref mq,O,s4 _ _ e3,{_,O,(S.trans s4) _ _ e2}} .nil,wk,O,O},?_};(mm,σ,H5,{f,done,G,Us,us,out,u3,u4,u5,u6,u7,rfl,s5,t5,eT,aT,eU,ntu,aU,w5,hd,rfl});hUl:=aU.1;hwl:=w5.len;hol:done.length+out.length=nu.length:=(do[←hd,qi]);sokU:∀x∈us,PyData.strOk x.2=true/\Pn x.1/\x.2.length<=1000:=λx hx=>(do hm:x∈nu:=(do[←hd];zy _ (w5.sub x hx));{sok x hm,nk x hm});{_,O,aE rfl,λlp H6 g6 t e6=>?_};aU6:=aU.imp λv e g=>NU.ab g t.ab;okU:kT 3 (.list (us.map Od)):=fQ λx hx=>(do _;{e,he,rfl}:=qf.mp hx;{h1,h2,_}:=sokU e he;nK λy hy=>do(by ac_nf at hy);rfl||rfl:=hy;nV h1;ti h2.lay);⟨.list (us.map Od),.list [],.lst (az.of (t _ _ eU)) (AL.lW (λv e g=>NU.dt g) aU6).dv,.lst (az.of e6) .nil,okU.1,O,qg (jh _ _) ⋯,_,O,?_⟩;(by cases w5 with|nil|@cons p z us' l Z i w=>?_);bU rfl {_,O,?_};hd←[wx];!hd;kk H6 ta f (s5.trans t) (t5.same t) g1 (t _ _ eT) (aT.imp λv e g=>NU.ab g t.ab);cW rfl ?_;{v0,a,rfl,hx0,aU'}:∃v0 a,Us=v0::a/\NU H6 v0 (p,z)/\AL (NU H6) a us':=(do(by cases Us with|nil|cons v a=>?_);aU.none.elim;{v,a,O,aU6.head,aU6.tail});{b,vp,rfl,h1,h2}:=hx0;{hzo,hpn,hzl}:=sokU (p,z) qm;hzl:z.length<=1000:=hzl;L7 (λσ' H'=>wN λL B N u3 u4 u5 u6 u7=>mT (σ'=[!(.ref fa),!(.ref ta),!(.ref B),u3,u4,u5,u6,u7]) (af (bP H s2) H') (dh H') (H' ta=!(.lst L)) (AL (NU H') L (done++[(p,z)])) (PK (H' B=!(.lst N)) (B≠ta) (AL (NU H') N (subs z 0 l++us')))) (λσ' H' ⟨L,B,N,v3,v4,v5,v6,v7,b1,b2,b3,b4,b5,b6,b8,b7⟩=>{Z.length,do[zd];(),L,done++[(p,z)],B,N,_,Z,v3,v4,v5,v6,v7,b1,b2,b3,b4,b5,b6,b8,b7,w,do[yk];hd,O}) λNx hNx=>?_;J:=t _ _ eU;I:=t _ _ eT;{_,O,G,_,0,.ref b,O,O,az.of J,Pq _ _,?_};{b,_,O,aV.of h1,O,_,_,O,_,_,O,O,?_};{aE rfl,λD H7 g7 s7 e7=>?_};U:af H5 H7:=t.trans s7;fz7:FZ H7 fa F d:=(fz.kp λb o e h=>bJ tt s5 e h).same U;{bs,es0,cs,k,fb,hk,hl}:=fz7.fb;t7:=t5.same U;ma7:MA H7:=U _ _ (bJ tt s5 ma λps z=>nomatch z);{_,O,_,O,fa,F,bs,es0,cs,d.rs,d.cu,k,vp,p,O,fb,hk,hl,t7,ma7,h2.ab s7.ab,hpn,λH8 q ws l' zs' g' s8 t8 gq eq dtr' aw in'=>?_};{rfl,rfl}:=dtr'.eq W dtr;hll:=in'.eq i;!hll;k8:∀{b o},H7 b=!o->(∀ps,o≠.cf ps)->H8 b=!o:=λe h=>bJ t7 s8 e h;tt8:=kL t7 s8;R:=k8 e7 λps z=>nomatch z;nqi:q≠D:=λz=>(do gq←[z,e7];-gq);hll:=aw.1;wln:=w.len;wln←[qi,jV];hol←[zd];{q,O,{_,az.of eq},pT (xs:=ws) (λj σ X=>rQ λC u6 u7=>ic (σ=[!(.ref fa),!(.ref ta),!(.ref G),!(.str z),!vp,!(.ref D),u6,u7]) (af (del H8 D) X) (X D=!(.lst C)) (AL (NU X) C ((subs z 0 l').take j))) {[],u6,u7,O,(λb o e=>lJ _ _ e),R,.nil} (λj σ X _ ⟨_,_,_,_,s,_,_⟩=>az.of (s _ _ (do[bR nqi];eq))) ?_ ?_};(j,x,σ,X,tp,hx,{C,v6,v7,rfl,sX,eI,aI},hp,Nx,hNx);hj:=(qk.mp hx).1;{y,hy,gy}:=aw.at hx;sp:af X (upd X tp (.tup [.int j,x])):=af.new hp;ep:(upd X tp (.tup [.int j,x])) tp=!(.tup [.int j,x]):=aB;(by generalize upd X tp (.tup [.int j,x])=X1 at sp ep);eI1:=sp _ _ eI;hil:C.length<=63:=(do[aI.1,wv,jV];());{tp,_,O,aV.of ep,O,_,_,O,_,_,O,O,?_};{_,O,.inl {O,_,az.of eI1},_,O,_,O,O,.inr {_,O,_,O,O,z,_,O,O,?_,?_}};cL ?_;this:(if(not (decide (V.str z=V.str "")))=true then(".":Sy) else "").length<=1:=(by split <;> decide +kernel);();{_,O,_,_,O,O,_,O,.inr {_,O,PN ()},_,_,O,O,?_,_,O,aE rfl,λxp m gx sx ex=>?_};[←p5,G5];cL (qg (IS z ()) ());ex←[G5];eI2:=sx _ _ eI1;{D,C,_,O,O,eI2,cG (),?_};t3:ai m (upd m D (.lst (C++[.ref xp]))):=ai.wl eI2;tX:ai H8 X:=mZ R (λys z=>nomatch z) sX;t13:=(sp.trans sx).ab.trans t3;hNx _ _ {_,_,_,O,((sX.trans sp).trans sx).wr d9,aB,?_};[qz,sF,hy,ja];(aI.imp λv e g=>NU.ab g t13).snoc {xp,x,O,t3 _ _ ex,NP.ab gy (tX.trans t13)};(σ,X,{C,v6,v7,rfl,sX,eI,aI});aI←[hll,←jV z l' 0,ze];tX:ai H8 X:=mZ R (λys z=>nomatch z) sX;t7X:=tt8.trans tX;up:∀{b o},H7 b=!o->(∀ps,o≠.cf ps)->b≠D->X b=!o:=λe h n=>sX _ _ (do[bR n];k8 e h);eTX:=up (s7 _ _ I) (λps z=>nomatch z) (λz=>do I←[z];g7←[I];-g7);eUX:=up (s7 _ _ J) (λps z=>nomatch z) (λz=>do J←[z];g7←[J];-g7);hTl:=aT.1;hIl:=aI.1;hIl←[jV];{_,O,.inl {O,_,az.of eTX},_,O,_,O,aE rfl,λnp m gn sn en=>?_};eT2:=sn _ _ eTX;{ta,f,_,O,O,eT2,cG (),?_};nti:D≠ta:=λz=>(do g7←[z,I];-g7);eI3:(upd m ta (.lst (f++[.ref np]))) D=!(.lst C):=(do[ak nti];sn _ _ eI);t3:ai m (upd m ta (.lst (f++[.ref np]))):=ai.wl eT2;eT3:(upd m ta (.lst (f++[.ref np]))) ta=!(.lst (f++[.ref np])):=aB;eU3:(upd m ta (.lst (f++[.ref np]))) G=!(.lst (.ref b::a)):=(do[ak ntu];sn _ _ eUX);sY:af (bP H s2) (upd m ta (.lst (f++[.ref np]))):=λc o e=>(do nb:¬s2 c:=λz=>(do e←[dS z];-e);e':=eg nb▸e;nc:c≠ta:=λz=>(do e'←[z,g1];-e');e5:=U _ _ (s5 _ _ e);[ak nc];sn _ _ (sX _ _ (do[bR (λz=>do h6:=t _ _ (s5 _ _ e);h6←[z,g7];-h6)];de s8 e5 nb)));tY:dh (upd m ta (.lst (f++[.ref np]))):=((t8.cut R (λps z=>nomatch z) (λφ z=>nomatch z) sX).same sn).wr eT2 (λps z=>nomatch z) (λφ z=>nomatch z);M:ai X (upd m ta (.lst (f++[.ref np]))):=sn.ab.trans t3;t67:=s7.ab.trans t7X;aT3:AL (NU (upd m ta (.lst (f++[.ref np])))) (f++[.ref np]) (done++[(p,z)]):=(aT.imp λv e g=>NU.ab (NU.ab g t.ab) (t67.trans M)).snoc {np,vp,O,t3 _ _ en,h2.ab (t67.trans M)};aI3:=aI.imp λv e g=>NU.ab g M;aU3:=aU'.imp λv e g=>NU.ab g (t67.trans M);(by generalize upd m ta (.lst (f++[.ref np]))=Y at eI3 eT3 eU3 sY tY aT3 aI3 aU3);{_,O,_,O,1,O,G,_,O,az.of eU3,λsq Y2 gs ss es=>?_};es←[show d6 (V.ref b::a) (some 1) none=a from OX (pv:=V.ref b::a) (r:=1) (do 0)];hUl':=aU'.1;{D,sq,C,a,O,O,ss _ _ eI3,es,kK (),λcq Y3 gc sc ec=>?_};S:=ss.trans sc;hNx _ _ {f++[.ref np],cq,C++a,_,_,_,_,_,O,sY.trans S,tY.same S,S _ _ eT3,aT3.imp λv e g=>NU.ab g S.ab,ec,(λz=>do gc←[z,ss _ _ eT3];-gc),(aI3.app aU3).imp λv e g=>NU.ab g S.ab}
def Dr(T:Txt K mg tk)(F:FO K mg "_law_entry_good" si)(gfCb:lj P w K mg base)(gfBt:um P w K mg base)(gfBv:rJ P w K mg base)(gfBp:rT P w K mg base):zb P w K mg base:=do aM F wY (vY λ_ _ _ _=>rfl) {} λfa cdv A outer s H vs Q E r h=>?_;{_,(aj (br (PW.pt (dC (iS (dB (cb p6 T.cj boot_isinstance (a2 (vv 1) (pK (v:=.ty "tuple") (do 2) T.oS boot_tuple rfl))))) (dC (ck kQ (cb c6 T.bQ boot_len (a1 (vv 1))) aA) (dC (ck kQ (xt (vv 1)) (vv 2)) (lL (ck (lB r) (xt (vv 1)) (vv 3))))))) (aD (aN bW)) cc) (aj (br (PW.pt (dC (iS (dB (cb p6 T.cj boot_isinstance (a2 (xt (vv 1)) (pK (v:=.ty "list") (do 2) T.eK boot_list rfl))))) (dC (ck (lB r) (xt (vv 1)) (cl gfBv r (a2 (vv 0) (vv 3)))) (lL (ck (lB r) (xt (vv 1)) (cl gfBp r (a2 (vv 0) (vv 3)))))))) (aD (aN bW)) cc) (aj (sn wY.nd 4 (cl gfBt r (a2 (vv 0) (vv 3)))) (aj (sn wY.nd 5 (cl gfCb r (a2 (vv 0) (vv 3)))) (aj (br (ck (lB r) (z_ (il (xt (vv 1))) (λ_ _ _=>dJ) (λ_ _ _=>(xt (vv 0)))) (vv 5)) (aD (aN bW)) cc) (aj (fo (il (xt (vv 1))) (gn wY.nd 6) (aD (br (PW.pt (dC (iS (dB (cb p6 T.cj boot_isinstance (a2 (vv 6) (pK (v:=.ty "tuple") (do 2) T.oS boot_tuple rfl))))) (dC (ck kQ (cb c6 T.bQ boot_len (a1 (vv 6))) aA) (dC (iS (dB (cb p6 T.cj boot_isinstance (a2 (xt (vv 6)) (pK (v:=.ty "str") (do 2) T.uH boot_str rfl))))) (lL (ck (lB r) (xt (vv 6)) (dD (cN r) (vv 4) (xt (vv 6)) (λ_ _=>rfl)))))))) (aD (aN bW)) cc))) (aD (aN bW)))))))),?_};{fa,F,d,num,v,e,p,z,vp,rfl,V,f,gp,hp,kk}:=h;(by obtain rfl:=f.vb);tp:=aV.of f.tp;{xs,ms,ns,fs}:=V.fs;{zs,o,J}:=f.rw_;W:=fs.ws;{_,O,_,"tuple",true,O,⋯,.tup f.tp,true,O,bU rfl ?_};{_,O,e.b,_,O,.inr tp,O,_,O,bU rfl ?_};{_,O,e.b,_,0,_,O,O,tp,O,_,O,O,_,O,bU (do 0) ?_};{_,O,e.b,_,1,_,O,O,tp,O,_,O,tD p,tD p,(aK f.gp).dv,(aK gp).dv,hp.lay,hp.lay,qg (yb _ _) (qg (eh _) ⋯),_,O,bU (md rfl hp.lay) ?_};{_,O,e.b,_,2,_,O,O,tp,O,_,"list",true,O,⋯,.lst o,true,O,bU rfl ?_};{_,O,e.b,_,3,_,O,O,tp,O,_,O,_,O,fa,F,d.S,d.n,d.M,d.m,d.N,d.q,xs,ms,ns,vp,p,O,fs,gp,hp.lay,λH1 q1 z1 s1 g1 e1 n1=>?_};G:=V.Q9 (p:=p);ez1:=f.same s1;{.list (K_ d p),.list (K_ d p),ez1.not,.lst (az.of e1) n1.dv,G.1,G.1,qg (yb _ _) (qg G.2 ⋯),_,O,bU (md rfl G.1) ?_};tp1:=aV.of ez1.tp;{_,O,e.b,_,4,_,O,O,tp1,O,_,O,_,O,fa,vp,p,d.L,d.a,d.C,d.b,O,(V.same s1).tb,gp.ab s1.ab,hp.lay,λH2 tq rp cp wp zr zc ws s2 g2 e2 fr fc fw nrc nrw ncw er ec ew ar ac aw wn wd=>?_};s02:=s1.trans s2;ty:=V.C5 (p:=p);{wa,aw2,wi}:=sO (R:=WZ d p H2) (λv i ⟨a,h1,_,h3⟩=>{a,h1,h3}) aw;{pM d p,pM d p,(ez1.same s2).tab,Kq e2 er ar ec ac ew aw2 wi,ty.1,ty.1,qg (yb _ _) (qg ty.2 ⋯),_,O,bU (md rfl ty.1) ?_};{_,O,_,O,fa,F,d.S,d.n,d.M,d.m,d.N,d.q,xs,ms,ns,vp,p,O,fs.same s02,gp.ab s02.ab,hp.lay,V.hm,λH3 mq kvm s3 g3 e3 tdk knd=>?_};Z:=s02.trans s3;{_,O,_,O,fa,vp,p,d.S,d.n,O,(fs.same Z).fg,gp.ab Z.ab,hp.lay,λH4 lq ls s4 g4 e4 al=>?_};k:=Z.trans s4;ez4:=f.same k;tp4:=aV.of ez4.tp;G:=V.Se (p:=p);hal:∀i∈bB d.S d.n p,i<d.n/\(d.S i).pt=p:=λi hi=>(lX W).mp (zk.mp hi).1;hzl:zs.length<=1400:=(do[J.1];this:=congrArg List.length f.ri;this←[qj];[this];qg (qg (we _ _) (iJ W)) W.cJ);{_,O,e.b,_,2,_,O,O,tp4,O,e.q2,O,{_,az.of (k _ _ o)},c7 (xs:=zs) (cL ()) (λj us X=>af H4 X/\AL (λv x=>NM (cn d.S) X v x.1) us (e.ia.take j)) {af.refl _,.nil} (λ_ _ X s'=>az.of ((k.trans s'.1) _ _ o)) (λj x us X K1 K0 hx s' k1 k0=>?_) λX np us s' hu hq=>?_};{s',au}:=s';{y,ey,b,vn,ms,rfl,h1,h2,h3,h4}:=J.at hx;t:=(k.trans s').ab;dI (B:=K0 X) ?_;{_,O,b,_,0,_,O,O,aV.of (t _ _ h1),O,k1 _ _ {s',?_}};[qz,ey];au.snoc (NM.ab h2 t);{sX,au}:=s';au←[J.1,ze];nH:af X (upd X np (.lst us)):=af.new hq;e1':(upd X np (.lst us)) np=!(.lst us):=aB;au1:=au.imp λv x g=>NM.ab g nH.ab;(by generalize upd X np (.lst us)=X2 at nH e1' au1);U:=sX.trans nH;c:=k.trans U;dl:=lI (H:=X2) (D:=λx:Nat×Sx=>tD (cn d.S x.1)) (λv x g=>(aK g).dv) au1;dl←[show e.ia.map (λx=>tD (cn d.S x.1))=(e.ia.map (·.1)).map (λi=>tD (cn d.S i)) by rw[z9];rfl,f.ri];{_,O,_,_,.lst (az.of e1') dl,.lst (az.of (U _ _ e4)) (lI (λv i g=>(aK (NM.ab g U.ab)).dv) al),G.1,G.1,qg (yb _ _) (qg G.2 ⋯),_,O,bU (md rfl G.1) ?_};ez2:=f.same c;{_,O,e.b,_,2,_,O,O,aV.of ez2.tp,O,e.q2,O,{_,az.of (c _ _ o)},bD (xs:=zs) (λj σ Y=>∃u6,σ=[!(.ref fa),!(.ref e.b),!(.str z),!vp,!(.ref mq),!(.ref lq),u6]/\af X2 Y) {_,O,af.refl _} (λj σ Y _ ⟨_,_,s⟩=>az.of ((c.trans s) _ _ o)) ?_ ?_};(j,x,σ,Y,hx,{u6,rfl,sY},Nx,hNx);{y,ey,b,vn,ms,rfl,h1,h2,h3,h4}:=J.at hx;I:=c.trans sY;s3Y:=(s4.trans U).trans sY;h1':=I _ _ h1;t1:=aV.of h1';hia:y.1∈bB d.S d.n p:=(do[←f.ri];qf.mpr {y,qw ey,O});{a,zs',gm,ba,za,dz}:=tdk.get ((kM W).filter _) (λa ha b hb e=>W.inj a (hal a ha).1 b (hal b hb).1 e) hia;my:=V.MG (p:=p) y.1;{_,O,_,"tuple",true,O,⋯,.tup h1',true,O,bU rfl ?_};{_,O,b,_,O,.inr t1,O,_,O,bU rfl ?_};{_,O,b,_,1,_,O,O,t1,O,_,"str",true,O,⋯,.str _,true,O,bU rfl ?_};{_,O,b,_,2,_,O,O,t1,O,_,O,_,O,b,_,0,_,O,O,t1,O,mq,kvm,.tup (cn d.S y.1),.ref a,O,.inl (s3Y _ _ e3),NM.ab h2 I.ab,gm,.list (wD d p y.1),.list (wD d p y.1),.lst (az.of (I _ _ h3)) (h4.ab I.ab).dv,.lst (az.of (s3Y _ _ za)) (dz.ab s3Y.ab).dv,my.1,my.1,qg (yb _ _) (qg my.2 ⋯),_,O,bU (md rfl my.1) (hNx _ _ {_,O,sY})};(σ,Y,{u6,rfl,sY});kk Y (c.trans sY)
def C_(T:Txt K mg tk)(F:FO K mg "entry" sv)(gfBv:rJ P w K mg base)(J:Ao P w K mg base)(Z:rT P w K mg base):yF P w K mg base:=do aM F DR (vY λ_ _ _ _=>rfl) {} λfa cdv A outer s H vs Q E X h=>?_;{_,(aj (br (iS (dB (vv 3))) (aD (aN (a0 (ac (dD (cN X) (vv 1) (vv 2) (λ_ _=>rfl)) (ac (vv 2) (ac dE (a2 dE dE))))))) cc) (aD (aN (a0 (ac (dD (cN X) (vv 1) (vv 2) (λ_ _=>rfl)) (ac (vv 2) (ac (cl J X (ac (vv 0) (a2 (vv 2) (vv 1)))) (a2 (cl gfBv X (a2 (vv 0) (vv 2))) (cl Z X (a2 (vv 0) (vv 2))))))))))),?_};{fa,F,d,nq,num,vp,p,z,rfl,fz,gp,hp,nd,hz,kk}:=h;nd0:=nd;{kvs,en,nk}:=nd;{h1,h2}:=nk p hp;h1←[hz];{_,O,_,O,bU rfl ?_};{_,O,_,O,nq,kvs,.tup p,.str z,O,.inl en,gp,h1,_,O,_,O,_,O,_,O,fa,F,d,vp,p,nq,num,O,fz,gp,hp,nd0,λH1 rq zs ia U g1 I rz ri rn rf=>?_};{xs,ms,ns,fs}:=(fz.same U).fs;{_,O,_,O,fa,F,d.S,d.n,d.M,d.m,d.N,d.q,xs,ms,ns,vp,p,O,fs,gp.ab U.ab,hp.lay,λH2 t zs2 s2 g2 e2 nt2=>?_};j:=U.trans s2;{_,O,_,O,fa,vp,p,d.L,d.a,d.C,d.b,O,(fz.same j).tb,gp.ab j.ab,hp.lay,λH3 tq rp cp wp zr zc ws s3 g3 e3 fr fc fw nrc nrw ncw er ec ew ar ac aw wn wd=>?_};{aE rfl,λeq H4 g4 y e4=>?_};G:=s3.trans y;x:=s2.trans G;Y:=U.trans x;{D,k,wi}:=sO (R:=λv e=>WZ d p H4 v e/\H2 e.2=none) (λv i ⟨a,h1,h2,h3⟩=>{a,{h1,y _ _ h3},h2}) aw;wsm:∀e∈D,V.ref e.2∈ws:=λe c=>(do _;{v,hv,q,_}:=k.gG c;[←q.1];hv);wnd:(D.map (·.2)).Nodup:=(do h1:=wn;h1←[show ws=D.map (λe=>V.ref e.2) from yc λm=>?_];wb.mpr (List.Pairwise.imp (λh z=>h (do[z])) (wb.mp h1));[qu];(by cases q:ws[m]? with|none|some v=>?_);[v9 (do[←k.1];mz.mp q)];2;{e,c,g,_}:=k.at q;[c,g.1];2);hA:∀e∈ia,∃o,H1 e.2=!(.lst o):=λe c=>(do _;{_,_,b,vn,ms,_,_,_,g,_}:=rz.gG c;{_,g});w2:∀e∈D,H2 e.2=none:=λe c=>(do _;{_,_,_,g}:=k.gG c;g);n1:∀{a b o},H1 a=!(HO.lst o)->H1 b=none->a≠b:=λh g z=>(do h←[z,g];-h);B:∀{a b o},H1 a=!(HO.lst o)->H2 b=none->a≠b:=λh g z=>(do h←[z];g←[s2 _ _ h];-g);n3:∀{b},H2 b=none->t≠b:=λg z=>(do g←[←z,e2];-g);kk H4 _ ⟨eq,vp,rq,t,tq,rp,cp,wp,ia,D⟩ Y {O,e4,gp.ab Y.ab,{zs,x _ _ I,rz.imp λv e g=>g.to x.ab λo q=>x _ _ q},ri,{zs2,G _ _ e2,nt2.ab G.ab},y _ _ e3,{zr,y _ _ er,ar.imp λv i g=>NM.ab g y.ab},{zc,y _ _ ec,ac.imp λv i g=>NM.ab g y.ab},{ws,y _ _ ew,k.imp λv e g=>g.1},wi,?_} λa r=>?_;¬((ia.map (·.2)++rq::t::rp::cp::wp::D.map (·.2)).Nodup);wm:∀{a},a∈D.map (·.2)->H2 a=none/\a≠rp/\a≠cp/\a≠wp:=λh=>(do _;{e,c,rfl}:=qf.mp h;{w2 e c,wd _ (wsm e c)});wt.mpr {rn,?_,λa r b f q=>?_};#[_,List.nodup_cons,List.mem_cons,not_or];{{n1 I g2,B I fr,B I fc,B I fw,λh=>B I (wm h).1 rfl},{n3 fr,n3 fc,n3 fw,λh=>n3 (wm h).1 rfl},{nrc,nrw,λh=>(wm h).2.1 rfl},{ncw,λh=>(wm h).2.2.1 rfl},λh=>(wm h).2.2.2 rfl,wnd};{e,c,rfl}:=qf.mp r;{o,W}:=hA e c;!q;f←#[_,List.mem_cons];f||f||f||f||f||f:=f;(rf e c).2 f;n1 W g2 f;B W fr f;B W fc f;B W fw f;B W (wm f).1 rfl;r:a∈ia.map (·.2)++rq::t::rp::cp::wp::D.map (·.2):=r;r←#[_,List.mem_append,List.mem_cons];r||rfl||rfl||rfl||rfl||rfl||r:=r;{e,c,rfl}:=qf.mp r;(rf e c).1;g1;U.free g2;j.free fr;j.free fc;j.free fw;{e,c,rfl}:=qf.mp r;j.free (w2 e c)
def CZ(T:Txt K mg tk)(F:FO K mg "_law_right" uM)(k:zb P w K mg base)(p:ya P w K mg base):xW P w K mg base:=do aM F Ay (ip λ_ _=>rfl) {} λfa cdv A outer s H vs Q E W h=>?_;{_,(aj (sn Ay.nd 2 (cl p W (a1 (vv 0)))) (aj (br (PW.pt (dC (iS (dB (cb p6 T.cj boot_isinstance (a2 (vv 1) (pK (v:=.ty "list") (do 2) T.eK boot_list rfl))))) (lL (ck kQ (cb c6 T.bQ boot_len (a1 (vv 1))) (cb c6 T.bQ boot_len (a1 (vv 2))))))) (aD (aN bW)) cc) (aj (fo (lh (do 2) T.dA (a1 (cb c6 T.bQ boot_len (a1 (vv 2))))) (gn Ay.nd 3) (aD (br (iS (dB (cl k W (ac (vv 0) (ac (xi (vv 1) (vv 3)) (a2 (xt (xi (vv 2) (vv 3))) (xt (xi (vv 2) (vv 3))))))))) (aD (aN bW)) cc))) (aD (aN bW))))),?_};{fa,F,d,V,fq,es,ps,H0,rfl,R,tt,ma,J,M,nl,nk,t,kk}:=h;{_,O,fa,F,d,V,O,R,tt,ma,M,nl,nk,λH1 dq ts x t1 g1 D Y=>?_};Z:∀{b o},H b=!o->(∀ps,o≠.cf ps)->H1 b=!o:=λe h=>bJ tt x e h;f:=Z J λps z=>nomatch z;N:FZ H1 fa F d:=R.kp λb o e h=>bJ tt x e h;G:=Y.1;m:=kL tt x;{_,O,_,"list",true,O,⋯,.lst f,true,O,bU rfl ?_};{_,O,fq,_,O,.inl (az.of f),_,O,dq,_,O,.inl (az.of D),O,_,O,bU (do[t.len,G];0) ?_};{_,O,dq,_,O,.inl (az.of D),?_};{(ts.length:Int),O,(),(),cg (n:=ts.length) (λj σ X=>∃y,σ=[!(.ref fa),!(.ref fq),!(.ref dq),y]/\af H1 X) {_,O,af.refl _} ?_ ?_};(j,σ,X,hj,{y,rfl,g},Nx,L);c:j<V.length:=();i:j<es.length:=(do[t.len];c);B:j<ps.length:=(do[t.iv];c);ez:=t.at_ j _ _ _ (qh i) (qh B) (qh c);{v,U,b,vp,rfl,h1,h2}:=Y.at' (qh c);C:∀{α:Type} {xs:List α} {v:α},xs[j]?=!v->m_ xs (0+(j:Int))=!v:=λh=>(do[Int.zero_add];vN h);I:=g _ _ h1;S:=aV.of I;r:=az.of (g _ _ D);{_,O,_,O,_,O,fq,es,_,es[j],O,O,az.of (g _ _ f),C (qh i),_,O,_,O,dq,ts,_,_,O,O,r,C U,b,_,0,_,O,O,S,O,_,O,_,O,dq,ts,_,_,O,O,r,C U,b,_,1,_,O,O,S,O,fa,F,d,_,_,_,_,_,vp,O,N.same g,(ez.to m λa ha o q=>Z q λps z=>nomatch z).same g,h2.ab g.ab,(nk _ (y0 c)).1,λX2 s2=>{true,O,bU rfl (L _ _ {_,O,g.trans s2})}};(σ,X,{y,rfl,g});kk X (x.trans g) (t1.same g)
def D1(T:Txt K mg tk)(F:OV K mg "document" nR)(R:yF P w K mg base)(U:zW P w K mg base):yp P w K mg base:=do D5 F Bm (λ_ _ _ _ _ _ _ u l=>match u,l with|[_,_,_],_=>{_,O,O}) (λ_ _ _ _ _ _ _ u l=>match u,l with|[_,_],_=>{_,O,O}) {} λfa cdv A outer s H vs Q E Z h=>?_;{_,(aj (sn Bm.nd 3 (cl U Z (ac (vc 0) (a2 (vv 1) (vv 2))))) (aj (sm Bm.nd 4 (cy (gJ Z.hd (qS Z)) T.cZ boot_dict (a1 (iz (own:=["part","number","is_open"]) (fr:=[]) rfl (il (vv 3)) {O,∅,∅} (i0 ∅) (λ_ _ _=>(jT (n:=3) rfl (df (cO (i:=0) (do¬List.Nodup (["part","number","is_open"]:List Sy);by decide +kernel) rfl (Or.inl rfl)) (df (cO (i:=1) (do¬List.Nodup (["part","number","is_open"]:List Sy);by decide +kernel) rfl (Or.inl rfl)) (df (cO (i:=2) (do¬List.Nodup (["part","number","is_open"]:List Sy);by decide +kernel) rfl (Or.inl rfl)) ik))))) (λ_=>Ij rfl rfl rfl ⋯ ⋯ ⋯) (λ_ _ _=>dJ) (λ_ _ _=>(a0 (a2 (vv 0) (vv 1)))))))) (aD (aN (iz (own:=["part","number","is_open"]) (fr:=[("facts",0),("numbers",4)]) rfl (il (vv 3)) {O,∅,∅} (jX (ag nR) ["facts","roll","hand","told","numbers"] rfl rfl (λ_ h=>fM h) ∅ ∅ ∅) (λ_ _ _=>(jT (n:=3) rfl (df (cO (i:=0) (do¬List.Nodup (["part","number","is_open","facts","numbers"]:List Sy);by decide +kernel) rfl (Or.inl rfl)) (df (cO (i:=1) (do¬List.Nodup (["part","number","is_open","facts","numbers"]:List Sy);by decide +kernel) rfl (Or.inl rfl)) (df (cO (i:=2) (do¬List.Nodup (["part","number","is_open","facts","numbers"]:List Sy);by decide +kernel) rfl (Or.inl rfl)) ik))))) (λ_=>Ij rfl rfl rfl ⋯ ⋯ ⋯) (λ_ _ _=>dJ) (λ_ _ _=>(cl R Z (ac (vc 3) (ac (vc 4) (a2 (vv 0) (vv 2))))))))))),?_};{fa,F,d,r,rfl,fz,tt,ma,kk}:=h;{_,O,_,O,_,O,fa,F,d,r,O,fz,tt,ma,λH1 q ts C Y t1 g1 e1 J hnu l1 nn=>?_};l2:=J.1;{_,O,q,O,{_,az.of e1},c7 (xs:=ts) (kK ()) (λj us H'=>af H1 H'/\∃kvs:List (KD×V×V),cx H' us kvs/\AL (λe x=>e.1=.tup x.1/\e.2.2=.str x.2) kvs (C.take j)) {af.refl _,[],trivial,.nil} (λ_ _ H' s'=>az.of (s'.1 _ _ e1)) (λj x us H' K1 K0 k s' k1 k0=>?_) λH3 up us s' hu3 huq=>?_};{s',kvs,pr,L}:=s';{t,et,tn}:=J.at k;{b,W,rfl,h1,h2,h3,h4}:=tn.ab s'.ab;{b,_,O,aV.of h1,O,_,_,O,_,_,O,_,_,O,O,?_};dI (B:=K0 H') ?_;{_,O,_,O,aE rfl,λtq H4 g4 I e4=>k1 _ _ {s'.trans I,kvs++[(.tup t.1,W,.str t.2)],cx.snoc (e:=(.tup t.1,W,.str t.2)) {tq,O,e4,h2.ab I.ab} (pr.ab I.ab),?_}};[qz,et];L.snoc {O,O};{s3,kvs,pr,L}:=s';n3:af H3 (upd H3 up (.lst us)):=af.new huq;L←[J.1,ze];{up,us,kvs,O,az.of aB,pr.ab n3.ab,(),λdq X g5 s5 e5=>?_};c:=(s3.trans n3).trans s5;hnk:(kvs.map (·.1)).Nodup:=(do[KL (g:=λx:List Key×Sy=>KD.tup x.1) L λe x p=>p.1];wb.mpr (List.Pairwise.imp (λh z=>h (KD.tup.inj z)) (wb.mp nn)));e5←[pO _ [] (do[wz];hnk),wz];nk:=LN L;nl:∀x∈C,Pn x.1/\x.2.length<=1000:=λx k=>(do _;{_,_,_,_,_,_,_,a,b}:=J.gG k;{a,b});nd5:mO X dq (eS C):={_,e5,λp _=>{nk p,λz h=>do _;{x,k,rfl}:=wj.mp h;(nl x (jx k)).2}};fz5:=(fz.kp λb o e h=>bJ tt Y e h).same c;S:=c _ _ e1;{_,O,q,O,{_,az.of S},c7 (xs:=ts) (kK ()) (λj us H'=>af X H'/\∃ps,DC d (eS C) (C.take j) X H' us ps) {af.refl _,[],{O,O,(λm v e x z=>nomatch z),.nil,λe z=>nomatch z}} (λ_ _ H' s'=>az.of (s'.1 _ _ S)) (λj x us H' K1 K0 k s' k1 k0=>?_) λH9 rq us s' hu D=>?_};{s',ps,f}:=s';{t,et,tn}:=J.at k;tm:=qw et;{b,W,rfl,h1,h2,h3,h4}:=tn.ab (c.trans s').ab;{b,_,O,aV.of h1,O,_,_,O,_,_,O,_,_,O,O,?_};dI (B:=K0 H') ?_;{_,O,_,O,_,O,_,O,fa,F,d,dq,eS C,W,t.1,t.2,O,fz5.same s',h2,h3,nd5.same s',Lp nn tm,λH4 v e I ez fr=>k1 _ _ {s'.trans I,ps++[e],?_}};[qz,et];(f.same I).snoc ez (λa M=>s'.free (fr a M)) λy hy a M hb=>?_;{o,N}:=f.has hy a M;N←[fr a hb];-N;{s9,ps,f}:=s';n9:af H9 (upd H9 rq (.lst us)):=af.new D;f←[J.1,ze];G:=c.trans s9;fr5:∀{a},X a=none->H a=none:=λh=>tt.free Y t1 (c.free h);kk _ rq us ps C (Y.trans (G.trans n9)) (t1.same (G.trans n9)) (tt.free Y t1 (G.free D)) aB hnu l1 nl (DC.same {f.len,f.iv,f.at_,f.nd,λe he a M=>fr5 (f.fr e he a M)} n9) λe he h=>?_;{o,N}:=f.has he rq h;N←[D];-N
def Dw(T:Txt K mg tk)(F:Ei K "law" "law" eA fa fd)(gfBg:zI P w K mg base)(gfBd:xW P w K mg base)(gfAm:zF P w K mg base)(t:yp P w K mg base):f9 P w K mg base iO 12 fa fd ["_law_script"] gN:=do F.ok nG {} λcdv A outer s H vs Q E l h=>?_;hu1:(A.deeper (envOfC "law" (ag eA) ↑s fa cdv)).units+1<cLine:=cR l;{_,(aj (sn nG.nd 1 (bK (a2 aO aO))) (aj (sm nG.nd 2 (cl gfBg l (a2 (vv 0) (vv 1)))) (aj (uw (i:=3) nG.nd rfl (Or.inl rfl) (own:=["_law_key"]) (fr:=[("_law_facts_here",2)]) rfl (Kw (vc 2)) {O,∅,∅} (jX (ag eA) ["_law_script","_law_roll","_law_facts_here","_law_same","_law_found","_law_entry","_law_one"] rfl rfl (λ_ h=>fM h) ∅ ∅ ∅) (λ_ _ _=>(cO (i:=0) (do¬List.Nodup (["_law_key","_law_facts_here"]:List Sy);by decide +kernel) rfl (Or.inl rfl))) (λ_=>mI rfl) (λ_ _ _=>dJ) (λ_ _ _=>(a0 (a2 (vv 0) (cy BR T.eK boot_list (a1 (cU hu1 (vc 1) (vv 0) (λ_ _=>rfl)))))))) (aj (sn nG.nd 4 (N7 t l (a2 (vc 2) (vv 1)))) (aj (br (PW.pt (dC (iS (dB (cl gfBd l (a2 (vc 2) (vv 4))))) (lL (ck (lB l) (vv 4) (cl t.b l (ac (vc 2) (a2 (vv 1) dE))))))) (aD (aN bW)) cc) (aj (fo (il (vv 4)) (gn nG.nd 5) (aj (fo (il (xt (vv 5))) (gn nG.nd 6) (aj (br (ck (inD l) dE (xt (vv 6))) (aD (aN bW)) cc) (aD (ap (xt (vv 6)) (a1 dE))))) (aD (br (iS (dB (cl gfAm l (a1 (vv 5))))) (aD (aN bW)) cc)))) (aj (ap (vv 4) (a1 dE)) (aj (br (PW.pt (dC (iS (dB (cl gfBd l (a2 (vc 2) (N7 t l (a2 (vc 2) (vv 1))))))) (lL (ck (lB l) (sj (ag eA) Ae [("_law_facts_here",2)] (Kw (vc 2)) (λ_ _ _=>dJ) (λ_ _ _=>(a0 (a2 (vv 0) (cU hu1 (vc 1) (vv 0) (λ_ _=>rfl)))))) (vv 3))))) (aD (aN bW)) cc) (aj (mX (Ds PySem.F.plainAttrs_list PySem.F.slot_list_clear PySem.F.type_list_clear OJ (cU hu1 (vc 2) aO (λ_ _=>rfl)))) (aD (aN (ce (RS l) (z_ (il (N7 t l (a2 (vc 2) (vv 1)))) (λ_ _ _=>(fN (ck (lB l) (xt (vv 0)) (bK cS)))) (λ_ _ _=>(vv 0))) (bK cS))))))))))))),?_};{sp,ns,rfl,hs,hl,tt,ma,kk}:=h;{aE rfl,λr H1 g1 s1 e1=>?_};{_,O,_,O,sp,ns,r,O,hs.same s1,hl,e1,λH2 fa F d s12 fz=>?_};s02:=s1.trans s12;{xs,hx}:=fz.lists;{x3,x4,x5,fs2}:=fz.fs;nF:∀i,i<9->F i≠fa:=λi hi=>(HJ fs2.dk (hx i hi).1).symm;{_,O,fa,cE F 9,O,QD fs2.dk λo Y hY fY eY=>?_};Jk (do¬9<=_;aE rfl) (λj ys H'=>af Y H'/\∃C:Nat->Sx,j2 H' ys (cE C j)/\∀i,i<j->H' (C i)=!(.lst (xs i))) {af.refl _,λ_=>fa,trivial,λi z=>absurd z (vj i)} (λ_ _ H' s'=>s'.1 _ _ eY) (λj k v ys H' K1 K0 f s' k1 k0=>?_) λH' np ys s' D hq=>?_;{s',C,pr,hC}:=s';J:j<9:=(qk.mp f).1;hk:k=kN j:=(do(by unfold cE at f);f←[qu,yq J];(congrArg Prod.fst (qJ f)).symm);!hk;dI (B:=K0 H') ?_;{_,O,_,O,_,O,fa,.ref (F j),O,.inl {cE F 9,kN j,.inr {o,s' _ _ eY},O,(cX F j J).symm},F j,xs j,O,.inl (az.of (s' _ _ (hY _ _ (nF j J) (hx j J).1))),λq H3 g3 s3 e3=>?_};{aE rfl,λtq H4 g4 s4 e4=>k1 _ _ {(s'.trans s3).trans s4,λi=>if i=j then q else C i,?_,λi hi=>?_}};[Nu];Br (e:=(kN j,.ref q)) {tq,O,e4} (pw (s3.trans s4).ab pr);¬H4 (if i=j then q else C i)=_;z<|i=j;[qF z,z];s4 _ _ e3;[qB z];(s3.trans s4) _ _ (hC i ());{s',C,pr,hC}:=s';nH:af H' (upd H' np (.lst ys)):=af.new hq;kp3:KP (upd H' np (.lst ys)) np ys C xs:={aB,pw nH.ab pr,λi hi=>nH _ _ (hC i hi)};k3:∀b u,b≠fa->H2 b=!u->(upd H' np (.lst ys)) b=!u:=λb u n e=>nH _ _ (s' _ _ (hY b u n e));e3:=nH _ _ (s' _ _ eY);fz3:FZ (upd H' np (.lst ys)) fa F d:=fz.cI (.inr {o,e3}) λb u n e _=>k3 b u n e;M:∀{b u},H2 b=!u->(∀kv,u≠.dK kv)->(∀o kv,u≠.cI o (.dK kv))->b≠fa:=λ{b u} e h1 h2 z=>(do e←[z];(by rcases fs2.dk with q|⟨o',q⟩ <;> rw[q]at e <;> cases e);h1 _ rfl;h2 _ _ rfl);tt3:dh (upd H' np (.lst ys)):=(tt.same s02).keep λb u e h=>k3 b u (M e (λkv z=>by rcases h with⟨_,y⟩|⟨_,y⟩ <;> rw[y]at z <;> cases z) λo kv z=>by rcases h with⟨_,y⟩|⟨_,y⟩ <;> rw[y]at z <;> cases z) e;V:MA (upd H' np (.lst ys)):=k3 _ _ (M (s02 _ _ ma) (λ_ z=>nomatch z) λ_ _ z=>nomatch z) (s02 _ _ ma);hx3:∀i,i<9->(upd H' np (.lst ys)) (F i)=!(.lst (xs i)):=λi hi=>k3 _ _ (nF i hi) (hx i hi).1;t23:ai H2 (upd H' np (.lst ys)):=λb us e=>k3 _ _ (M e (λ_ z=>nomatch z) λ_ _ z=>nomatch z) e;{dF,hdF,hdO}:∃dF:Nat->List Sw,(∀i,i<9->cz H2 (xs i) (dF i))/\∀i,∀d∈dF i,d.canLay0=true/\sk d d=true/\d.depth<=5:=(do _;{λi=>if h:i<9 then Classical.choose (xN (hx i h).2) else[],λi hi=>?_,λi=>?_};#[_,dif_pos hi];(Classical.choose_spec (xN (hx i hi).2)).1;hi<|i<9;#[_,dif_pos hi];(Classical.choose_spec (xN (hx i hi).2)).2;#[_,dif_neg hi];λd z=>nomatch z);er3:(upd H' np (.lst ys)) r=!(.lst [.str "ann",.str "bo"]):=k3 _ _ (M (s12 _ _ e1) (λ_ z=>nomatch z) λ_ _ z=>nomatch z) (s12 _ _ e1);¬nE _ _ _ _ (upd H' np (.lst ys));(by generalize upd H' np (.lst ys)=H3 at kp3 e3 fz3 tt3 V hx3 t23 er3;clear nH k3 M hY fY eY s' pr hC hq D);{_,O,_,O,fa,F,d,.ref r,O,fz3,tt3,V,λH4 q es ps nu s4 t4 gq eq hnu nl nk dc nq=>?_};k4:∀b o,H3 b=!o->(∀ps,o≠.cf ps)->H4 b=!o:=λb o e h=>bJ tt3 s4 e h;fz4:=fz3.kp k4;ma4:MA H4:=k4 _ _ V λps z=>nomatch z;{_,O,_,O,fa,F,d,nu,q,es,ps,H3,O,fz4,t4,ma4,eq,hnu,nl,nk,dc,λH5 s5 t5=>{true,O,bU rfl ?_}};k5:∀b o,H4 b=!o->(∀ps,o≠.cf ps)->H5 b=!o:=λb o e h=>bJ t4 s5 e h;fz5:=fz4.kp k5;ma5:MA H5:=k5 _ _ ma4 λps z=>nomatch z;{_,O,_,O,_,O,fa,F,d,.ref r,O,fz5,t5,ma5,λH6 q' es' ps' g s6 t6 gq' eq' hnu' nl' nk' dc' nq'=>?_};k6:∀b o,H5 b=!o->(∀ps,o≠.cf ps)->H6 b=!o:=λb o e h=>bJ t5 s6 e h;hnn:=hnu'.eq fz.xw hnu;!hnn;k46:∀b o,H4 b=!o->(∀ps,o≠.cf ps)->H6 b=!o:=λb o e h=>k6 _ _ (k5 _ _ e h) h;R:=dc.kp k46;eq6:=k46 _ _ eq λps z=>nomatch z;dy:=fz.MU hnu nk;{xS d g,xS d g,R.dv eq6,dc'.dv eq',dy.1,dy.1,qg (yb _ _) (qg dy.2 ⋯),_,O,bU (md rfl dy.1) ?_};k36:∀b o,H3 b=!o->(∀ps,o≠.cf ps)->H6 b=!o:=λb o e h=>k46 _ _ (k4 _ _ e h) h;hnS:∀p z,eS g p=!z->PyData.strOk z=true:=λp z e=>(do _;{y,D,rfl}:=wj.mp e;hnu.ok fz.xw y (jx D));{_,O,q,O,{_,az.of eq6},bD (xs:=es) (λj σ X=>vA λu5 u6=>σ=[!(.ref sp),!(.ref r),!(.ref fa),!(.ref np),!(.ref q),u5,u6]/\af (bP H6 (λb=>∃e∈ps.take j,b∈e.A++e.B)) X) {_,_,O,tJ} (λj σ X _ ⟨_,_,_,s⟩=>az.of (de s eq6 λ⟨e,he,h⟩=>nq e (yj he) h)) ?_ ?_};(j,x,σ,X,f,{u5,u6,rfl,sX},Nx,hNx);J:=(qk.mp f).1;I:j<g.length:=(do[←dc.len];J);hjp:j<ps.length:=(do[dc.iv];I);{e,he}:∃e,ps[j]?=!e:={_,qh hjp};{{p,z},hn}:∃y,g[j]?=!y:={_,qh I};ez6:=R.at_ j _ _ _ f he hn;own:=QA dc.nd he;kX:∀b o,(∀e∈ps.take j,b∉e.A++e.B)->H6 b=!o->X b=!o:=λb o n q=>de sX q λ⟨e,he,h⟩=>n e he h;tX:ai H6 X:=λb us q=>kX b _ (λe he h=>do _;{o,ho}:=R.has (yj he) b h;ho←[q];-ho) q;L:EZ d (eS g) X x e p z:=ez6.to tX λa ha o q=>kX a _ (own a ha) q;(by obtain rfl:=L.vb);{zs,eq2,arz}:=L.rw_;ndA:=(wt.mp L.nd).1;q2A:e.q2∉e.A:=λh=>(List.nodup_append.mp L.nd).2.2 _ h _ (do#[EP.B]) rfl;lia:=arz.1;{_,O,e.b,_,2,_,O,O,aV.of L.tp,O,e.q2,O,{_,az.of eq2},bD (xs:=zs) (λi σ Y=>∃u6,PK (σ=[!(.ref sp),!(.ref r),!(.ref fa),!(.ref np),!(.ref q),!(.ref e.b),u6]) (af (bP X (·∈e.A.take i)) Y) (AL (RH d p (eS g) Y) (zs.take i) (e.ia.take i))) {_,O,tJ,.nil} (λi σ Y _ ⟨_,_,s,_⟩=>az.of (de s eq2 λh=>q2A (yj h))) ?_ ?_};(i,v,σ,Y,hv,{v6,rfl,sY,aY},Nx,hNx);{y,ey,b,vn,ms,rfl,h1,h2,h3,h4}:=arz.at hv;hi:=(qk.mp ey).1;hAi:e.A[i]?=!y.2:=(do@EP.A;[qu,ey];2);na:y.2∉e.A.take i:=λh=>(do _;{m,hm,q}:=r8.mp h;hAl:=(qk.mp hAi).1;this:=(j4 ndA (h₀:=do()) (h₁:=hAl)).mp (q.trans (qk.mp hAi).2.symm);());tY:ai X Y:=λb us q=>de sY q λh=>(do _;{o,ho}:=L.has b (wg _ (yj h));ho←[q];-ho);eY:=de sY h3 na;h1':=aV.of (tY _ _ h1);d4:=h4.ab tY;my:=fz.MG (p:=p) y.1;ml:ms.length<=63:=(do[My.cz.len h4];N6 fz p y.1);{_,O,b,_,2,_,O,O,h1',O,.none,y.2,_,ms,.aQ,O,.inl (az.of eY),d4.dv,O,my.1,qv _,_,O,bU (sV my.1 λx hx=>DM hx).2 ?_};{_,O,b,_,2,_,O,O,h1',O,.inl {O,_,az.of eY},y.2,ms,_,O,O,eY,f6 (),?_};t2:ai Y (upd Y y.2 (.lst (ms++[.aQ]))):=ai.wl eY;hNx _ _ {_,O,λc o q=>?_,?_};nb:c∉e.A.take (i+1):=λh=>(do q←[dS h];-q);q←[eg nb];nb←[qz,hAi];n1:c∉e.A.take i:=λh=>nb (wg _ h);n2:c≠y.2:=λh=>nb (do[h];0);[ak n2];de sY q n1;[qz,qz,hv,ey];AL.snoc (aY.px λv x _ hx ⟨b,vn,ms',e1,k1,k2,k3,k4⟩=>{b,vn,ms',e1,t2 _ _ k1,NM.ab k2 t2,?_,k4.ab t2}) {b,vn,ms,O,t2 _ _ (tY _ _ h1),NM.ab h2 (tY.trans t2),aB,d4.ab t2};[ak (λz=>na ?_)];k3;[←z];@EP.A;[←List.map_take];qf.mpr {x,hx,O};(σ,Y,{v6,rfl,sY,aY});aY←[ze,lia,ze];hAl:e.A.take zs.length=e.A:=yr (do@EP.A;[qj,lia];qe _);sY←[hAl];esY:=L.es fz hnS sY eq2 aY;{_,O,e,z,O,esY,λZ sZ=>{true,O,bU rfl (hNx _ _ {_,_,O,λb o q=>?_})}};nb:¬∃y∈ps.take (j+1),b∈y.A++y.B:=λh=>(do q←[dS h];-q);q←[eg nb];nb←[qz,he];n1:∀y∈ps.take j,b∉y.A++y.B:=λy D h=>nb {y,wg _ D,h};n2:b∉e.A++e.B:=λh=>nb {e,do 0,h};de sZ (de sY (kX b o n1 q) λh=>n2 (wg _ h)) λh=>n2 (zy _ h);(σ,X,{u5,u6,rfl,sX});nS:∀{b o},H3 b=!o->¬∃e∈ps.take es.length,b∈e.A++e.B:=λ{b o} e ⟨y,D,hb⟩=>(do e←[dc.fr y (yj D) b hb];-e);kX:∀b o,H3 b=!o->(∀ps,o≠.cf ps)->X b=!o:=λb o e h=>de sX (k36 b o e h) (nS e);tX:dh X:=t6.keep λb u e h=>de sX e λ⟨y,D,hb⟩=>(do _;{o,ho}:=R.has (yj D) b hb;ho←[e];by rcases h with⟨_,h⟩|⟨_,h⟩ <;> rw[h]at ho <;> cases ho);eqX:X q=!(.lst es):=de sX eq6 λ⟨y,D,h⟩=>nq y (yj D) h;{_,O,.inl {O,_,az.of eqX},q,es,_,O,O,eqX,f6 (do[dc.len];()),?_};kU:∀b o,H3 b=!o->(∀ps,o≠.cf ps)->(upd X q (.lst (es++[.aQ]))) b=!o:=λb o e h=>(do[ak (λz=>do e←[z,gq];-e)];kX b o e h);tU:dh (upd X q (.lst (es++[.aQ]))):=tX.wr eqX (λps z=>nomatch z) (λφ z=>nomatch z);¬nE _ _ _ _ (upd X q (.lst (es++[.aQ])));(by generalize upd X q (.lst (es++[.aQ]))=U at kU tU;clear tX kX eqX sX nS k36 R eq6 k46 k6 dc' k5 k4);fzU:=fz3.kp kU;maU:MA U:=kU _ _ V λps z=>nomatch z;{_,O,_,O,_,O,fa,F,d,.ref r,O,fzU,tU,maU,λH7 q7 es7 ps7 nu7 s7 t7 gq7 eq7 hnu7 nl7 nk7 dc7 nq7=>?_};k7:∀b o,U b=!o->(∀ps,o≠.cf ps)->H7 b=!o:=λb o e h=>bJ tU s7 e h;fz7:=fzU.kp k7;ma7:MA H7:=k7 _ _ maU λps z=>nomatch z;{fa,F,d,nu7,q7,es7,ps7,U,O,fz7,t7,ma7,eq7,hnu7,nl7,nk7,dc7,λH8 s8 t8=>{true,O,bU rfl ?_}};k8:∀b o,H3 b=!o->(∀ps,o≠.cf ps)->H8 b=!o:=λb o e h=>bJ t7 s8 (k7 _ _ (kU b o e h) h) h;e8:H8 fa=!(.cI o (.dK (cE F 9))):=k8 _ _ e3 λps z=>nomatch z;{_,O,fa,cE F 9,O,.inr {o,e8,?_}};Jk (do¬9<=_;aE rfl) (λj ys H'=>af H8 H'/\j2 H' ys (cE F j)) {af.refl _,trivial} (λ_ _ H' s'=>s'.1 _ _ e8) (λj k v ys H' K1 K0 f s' k1 k0=>?_) λH9 N ys9 s' D hq=>?_;{s',pr}:=s';J:j<9:=(qk.mp f).1;hk:k=kN j:=(do(by unfold cE at f);f←[qu,yq J];(congrArg Prod.fst (qJ f)).symm);!hk;dI (B:=K0 H') ?_;{_,O,_,O,_,O,fa,.ref (F j),O,.inl {cE F 9,kN j,.inr {o,s' _ _ e8},O,(cX F j J).symm},aE rfl,λtq H4 g4 s4 e4=>k1 _ _ {s'.trans s4,?_}};this:cE F (j+1)=cE F j++[(kN j,.ref (F j))]:=(do@cE;[yi,z7];2);[this];Br (e:=(kN j,.ref (F j))) {tq,O,e4} (pw s4.ab pr);{s9,pr}:=s';nH:af H9 (upd H9 N (.lst ys9)):=af.new hq;kp9:KP (upd H9 N (.lst ys9)) N ys9 F xs:={aB,pw nH.ab pr,λi hi=>nH _ _ (s9 _ _ (k8 _ _ (hx3 i hi) λps z=>nomatch z))};k9:∀b o,H3 b=!o->(∀ps,o≠.cf ps)->(upd H9 N (.lst ys9)) b=!o:=λb o e h=>nH _ _ (s9 _ _ (k8 b o e h));t9:=(t8.same s9).same nH;¬(_);(by generalize upd H9 N (.lst ys9)=G at kp9 k9 t9);t2G:ai H2 G:=λb us e=>k9 _ _ (t23 _ _ e) λps z=>nomatch z;dG:∀i,i<9->cz G (xs i) (dF i):=λi hi=>(hdF i hi).ab t2G;kpG:KP G np ys C xs:={k9 _ _ kp3.ek (λps z=>nomatch z),pw (λb us e=>k9 _ _ e (λps z=>nomatch z)) kp3.pr,λi hi=>k9 _ _ (kp3.at_ i hi) (λps z=>nomatch z)};{o1,o2,o3}:=MB hdO;{_,O,hV dF,hV dF,kp9.dv dG,kpG.dv dG,o1,o1,qg (yb _ _) (qg o3 ⋯),_,O,bU (md rfl o1) ?_};fzG:=fz3.kp k9;maG:MA G:=k9 _ _ V λps z=>nomatch z;{y3,y4,y5,S}:=fzG.fs;{_,O,fa,.ref (F 5),O,.inl {cE F 9,.inr "notes",S.dk,O,(cX F 5 ⋯).symm},?_};{.inl {O,_,az.of S.nl},F 5,y5,O,O,S.nl,?_};fzC:=fzG.Sb;tZ:dh (upd G (F 5) (.lst [])):=t9.wr S.nl (λps z=>nomatch z) (λφ z=>nomatch z);maC:MA (upd G (F 5) (.lst [])):=ai.wl S.nl _ _ maG;(by generalize upd G (F 5) (.lst [])=Z at fzC tZ maC);{_,O,_,O,fa,F,_,.ref r,O,fzC,tZ,maC,λZ1 q1 es1 ps1 nu1 s1' t1' gq1 eq1 hnu1 nl1 nk1 dc1 nq1=>?_};hel:es1.length<=63:=(do[dc1.len];nl1);{q1,O,{_,az.of eq1},c7 (xs:=es1) (kK ()) (λj us W=>af Z1 W/\us=[]) {af.refl _,O} (λ_ _ W s'=>az.of (s'.1 _ _ eq1)) (λj x us W K1 K0 f s' k1 k0=>?_) λW npW us s' hu hq=>?_};{sW,rfl}:=s';J:=(qk.mp f).1;I:j<nu1.length:=(do[←dc1.len];J);hjp:j<ps1.length:=(do[dc1.iv];I);L:=(dc1.at_ j _ _ _ f (qh hjp) (qh I)).same sW;(by obtain rfl:=L.vb);{_,O,_,_,3,_,O,O,aV.of L.tp,O,aE rfl,λlp W2 g2 s2 e2=>?_};{.list [],.list [],(L.same s2).not,.lst (az.of e2) .nil,O,O,⋯,_,O,bU rfl (k0 _ {sW.trans s2,O})};{sW,rfl}:=s';{aE rfl,λlp W2 g2 s2 e2=>{npW,lp,[],O,O,az.of (s2 _ _ aB),az.of e2,kk _}}
end
def all_mk{l:PySem.W.OpenLaw}{w:World}{K:PySem.W.Frag}{h:Heap}{mg:Sy->Option MD}{fa:Sx}(X:K.In h)(G:h.Ns mainGlobals mg)(hfa:mg "law"=!(.ref fa))(D:PySem.W.nsIn K mainGlobals "dict"=!none)(f:PySem.W.nsIn K mainGlobals "enumerate"=!none)(I:PySem.W.nsIn K mainGlobals "int"=!none)(d:PySem.W.nsIn K mainGlobals "isinstance"=!none)(J:PySem.W.nsIn K mainGlobals "len"=!none)(o:PySem.W.nsIn K mainGlobals "list"=!none)(H:PySem.W.nsIn K mainGlobals "max"=!none)(n:PySem.W.nsIn K mainGlobals "range"=!none)(j:PySem.W.nsIn K mainGlobals "sorted"=!none)(L:PySem.W.nsIn K mainGlobals "str"=!none)(m:PySem.W.nsIn K mainGlobals "tuple"=!none)(C:PySem.W.nsIn K mainGlobals "MAIN"=!(!(.ref cw)))(z_fAv:FX K "birth_chain" uk)(z_fAz:FX K "told_leaves" sR)(z_fAl:FX K "key_of_leave" rx)(z_fCc:FX K "is_let" sN)(z_fBn:FX K "has_leave" rS)(z_fAn:FX K "key_of_place" sU)(z_fAp:FX K "followers_of" sf)(Y:FX K "ordered" uj)(z_fBo:FX K "signs_in" lT)(z_fCa:FX K "row_of" tS)(z_fCb:FX K "living" oT)(z_fAj:FX K "place_of_side" sE)(z_fBz:FX K "stretch" sH)(S:FX K "seats_in" uC)(z_fAu:FX K "key_of_mark" t_)(z_fAf:FX K "telling_in_row" lg)(z_fAi:FX K "told_of_signs" iW)(z_fBt:FX K "marks_of" rX)(z_fAy:FX K "key_of_note" tV)(z_fBv:FX K "notes_of" iX)(z_fAd:FX K "telling_places" lP)(z_fBx:FX K "way_out" uy)(c:mK K "greatest_place"=bA)(z_fAg:FL K "greatest_place" ux bA)(N:FX K "turned_in" uI)(z_fBq:FX K "stood_in" sD)(z_fAk:FX K "reaching_main" rV)(z_fBh:FX K "stands_in" oj)(z_fAx:FX K "shown_among" kJ)(a:mK K "all_inner_parts"=a9)(z_fAa:FL K "all_inner_parts" rC a9)(z_fBa:FX K "inner_parts" se)(z_fBs:FX K "lines_of" iV)(z_fAw:FX K "key_of_cell" uX)(z_fBc:FX K "words_told" lD)(z_fBp:FX K "table_of" oH)(M:FX K "may_read" oe)(z_fAq:FX K "inner_number" tO)(z_fAc:FX K "numbered_parts" oC)(z_fAr:FX K "text_of_sign" uJ)(z_fBk:FX K "shown_row" jD)(z_fCd:FX K "entry" sv)(z_fBu:LW K "document" nR)(z_fAo:FX K "_law_cell_at" uS)(z_fBe:FX K "_law_drawn" uN)(z_fBj:FX K "_law_draw" s_)(z_fBf:FX K "_law_parts" oM)(V:FX K "_law_sign" tF)(U:FX K "_law_signs" oN)(z_fBi:FX K "_law_side" tP)(z_fAe:FX K "_law_stretches" nL)(z_fAs:FX K "_law_tables" oK)(z_fAt:FX K "_law_leaves" ox)(Q:FX K "_law_facts" oJ)(z_fAh:FX K "_law_numbered" uF)(z_fAb:FX K "_law_entry_good" si)(z_fBd:FX K "_law_right" uM)(z_fAm:FX K "_law_spoiled" tu)(z_fCe:FX K "law" eA) : ∃fd:FuncData,(∀(s:Sv) (v:MD),BindsTo s fd {[v],[]} [("_law_script",v)])/\∀base:Heap,K.In base->base.Ns mainGlobals mg->(∀t∈PP,base.BuiltinsAt mg (mK K t))->f9 l.prog w K mg base iO 12 fa fd ["_law_script"] gN:=do T:Txt K mg (λx=>0):={PySem.W.mg_none_of X G D,PySem.W.mg_none_of X G f,PySem.W.mg_none_of X G I,PySem.W.mg_none_of X G d,PySem.W.mg_none_of X G J,PySem.W.mg_none_of X G o,PySem.W.mg_none_of X G H,PySem.W.mg_none_of X G n,PySem.W.mg_none_of X G j,PySem.W.mg_none_of X G L,PySem.W.mg_none_of X G m,PySem.W.mg_of X G C};(by obtain @⟨_,_,an,_,_,kV,dc,pm,cd,ct,z1,z2,z3,z4⟩:=z_fCe);e:=hfa.symm.trans (PySem.W.mg_of X G z1);-e;{PySem.W.fnOf "law" "law" (bZ eA) (bL eA) (ag eA) .none kV dc pm an cd ct,λs v=>.of_eq rfl,λbase _ _ hBs=>?_};r_fAv:=DL l.prog w base T (z_fAv.fo X G);r_fAl:=Bp l.prog w base T (z_fAl.fo X G);r_fAn:=BC l.prog w base T (z_fAn.fo X G);F:=Cu l.prog w base T (z_fBo.fo X G);R:=Ar l.prog w base T (z_fAj.fo X G);k:=EI l.prog w base T (S.fo X G);r_fAu:=CW l.prog w base T (z_fAu.fo X G);r_fAy:=D2 l.prog w base T (z_fAy.fo X G);q:=A4 l.prog w base T (z_fAd.fo X G);E:=AV l.prog w base T (z_fBx.fo X G);r_fAw:=DU l.prog w base T (z_fAw.fo X G);r_fAq:=D4 l.prog w base T (z_fAq.fo X G);r_fAr:=DE l.prog w base T (z_fAr.fo X G);r_fAo:=D3 l.prog w base T (z_fAo.fo X G);r_fBe:=CP l.prog w base T (z_fBe.fo X G);b:=E7 l.prog w base T (z_fBj.fo X G);r_fAm:=CD l.prog w base T (z_fAm.fo X G);A:=BX l.prog w base T (z_fBz.fo X G) R;r:=A9 l.prog w base T (z_fAk.fo X G) E;r_fBf:=AW l.prog w base T (z_fBf.fo X G) b;r_fBm:=DI l.prog w base T (V.fo X G) b;r_fBi:=Cw l.prog w base T (z_fBi.fo X G) b;r_fAs:=EF l.prog w base T (z_fAs.fo X G) b;r_fAt:=Ba l.prog w base T (z_fAt.fo X G) b;O:=As l.prog w base T (z_fAz.fo X G) r_fAl;r_fAp:=Eh l.prog w base T (z_fAp.fo X G) r_fAn;r_fAf:=EH l.prog w base T (z_fAf.fo X G) r_fAu k A;r_fAg:=DF l.prog w base T (z_fAg.fo X G) (c▸hBs "greatest_place" (do 0));r_fAx:=AO l.prog w base T (z_fAx.fo X G) r;r_fBc:=AA l.prog w base T (z_fBc.fo X G) r_fAw;r_fBb:=AC l.prog w base T (U.fo X G) b r_fBm;r_fAe:=Av l.prog w base T (z_fAe.fo X G) b r_fBi;r_fCc:=BF l.prog w base T (z_fCc.fo X G) O;p:=Dl l.prog w base T (Y.fo X G) r_fAp;r_fBl:=EM l.prog w base T (N.fo X G) r_fAg E;r_fBg:=DN l.prog w base T (Q.fo X G) r_fAo r_fBe r_fAt r_fBf r_fBb r_fAe r_fAs;r_fBn:=Fs l.prog w base T (z_fBn.fo X G) r_fAv r_fCc;i:=B_ l.prog w base T (z_fCa.fo X G) p F;r_fBq:=C0 l.prog w base T (z_fBq.fo X G) r_fBl;r_fBs:=E1 l.prog w base T (z_fBs.fo X G) p;g:=A7 l.prog w base T (z_fCb.fo X G) i F;r_fBh:=Dh l.prog w base T (z_fBh.fo X G) r r_fBq q;z:=Eb l.prog w base T (z_fBp.fo X G) r_fBs r_fBc;r_fBw:=Df l.prog w base T (M.fo X G) r_fBn;Z:=AH l.prog w base T (z_fAi.fo X G) g i k r_fAf;B:=AQ l.prog w base T (z_fBv.fo X G) r_fAy g i k A;u:=AM l.prog w base T (z_fAa.fo X G) (a▸hBs "all_inner_parts" (do 0)) r_fAx r_fBh q;y:=C8 l.prog w base T (z_fBt.fo X G) Z;r_fBa:=AJ l.prog w base T (z_fBa.fo X G) u;r_fAc:=EA l.prog w base T (z_fAc.fo X G) u r_fAq r_fBw;r_fBk:=D8 l.prog w base T (z_fBk.fo X G) g y r_fAr;r_fAh:=C1 l.prog w base T (z_fAh.fo X G) r_fBa;r_fAb:=Dr l.prog w base T (z_fAb.fo X G) g y B z;r_fCd:=C_ l.prog w base T (z_fCd.fo X G) B r_fBk z;r_fBd:=CZ l.prog w base T (z_fBd.fo X G) r_fAb r_fAh;r_fBu:=D1 l.prog w base T (z_fBu.fo X G) r_fCd r_fAc;Dw l.prog w base T (Im (st:=eA) z2 z3 z4) r_fBg r_fBd r_fAm r_fBu
end My
end
namespace PySem.W.Fast
def tw12985218675031900320:=0
def tw16776826376239431936:=0
def tw6216161760905529664:=0
def tw12849150648658771360:=0
def tw12671879836256497120:=0
def tw1688498460886921792:=0
def tw13833635371347742304:=0
def tw7436357593521092288:=0
def tw3287284420717752032:=0
def tw5362184228362257601:=0
def tw3314655444987426145:=0
def tw3754103664451825473:=0
def tw17876134982366745537:=0
def tw2972481995834962913:=0
def tw1648112585680250082:=0
def tw13371211309593114114:=0
def tw13855873399960521346:=0
def tw4005685956419921826:=0
def tw8164588913313075106:=0
def tw6552172231463455747:=0
def tw7047966714926506019:=0
def tw13045416782847258819:=0
def tw15684302559220741411:=0
def tw6784720217340451139:=0
def tw16080329337787642211:=0
def tw12118360419409232483:=0
def tw13085929808146272963:=0
def tw9773101975501485763:=0
def tw9504779946175235268:=0
def tw5849430606811404676:=0
def tw15809224264961697188:=0
def tw17601237153304848900:=0
def tw11504501162779298468:=0
def tw13581483161106651940:=0
def tw6818333432302001092:=0
def tw11228637687868213220:=0
def tw17761781613663958117:=0
def tw1902009531834479013:=0
def tw18359165922024290821:=0
def tw17679411888650209893:=0
def tw3180793208172106950:=0
def tw10703232823945223462:=0
def tw14762620983017040454:=0
def tw436741585952278246:=0
def tw13821091318503938790:=0
def tw7559348056424761126:=0
def tw5688001550589483942:=0
def tw10631214529547062311:=0
def tw7704253955165697191:=0
def tw11625910756539024615:=0
def tw5684146784397069735:=0
def tw7126234440493180391:=0
def tw8116946224669845127:=0
def tw4887832621979050695:=0
def tw2092058767103387527:=0
def tw16734303277858768871:=0
def tw15435904457711661128:=0
def tw1871318997804178952:=0
def tw3759523304258575912:=0
def tw11380590469412940456:=0
def tw6587596054858156968:=0
def tw11296868940239860712:=0
def tw13613753429432515817:=0
def tw16923433609352581385:=0
def tw9264901561667184105:=0
def tw2565531393582689865:=0
def tw12727464126533701481:=0
def tw13005579148435205130:=0
def tw10901838820702788778:=0
def tw16282553714347009258:=0
def tw10057766064550509898:=0
def tw224902391223486826:=0
def tw12783530445732577642:=0
def tw13820635313862515210:=0
def tw5372676616550053386:=0
def tw1411522385297813034:=0
def tw18419591668538766122:=0
def tw5106373172952200010:=0
def tw4020365933320976523:=0
def tw10764867027627485387:=0
def tw1215403954393711979:=0
def tw16933598222241168843:=0
def tw15537597128003670539:=0
def tw4176592412142251787:=0
def tw1083436648376657004:=0
def tw5794329909658624236:=0
def tw1362303815874573644:=0
def tw16651766848853328332:=0
def tw7269612856287769196:=0
def tw16430176146290289324:=0
def tw13354894270324747948:=0
def tw4477724049008598764:=0
def tw8539164048742048845:=0
def tw1493340363455349869:=0
def tw1479780363293642029:=0
def tw12659446691440795277:=0
def tw16989934062945394605:=0
def tw5378891155617930670:=0
def tw10397756180361632174:=0
def tw7435146577839596174:=0
def tw4877027194479269710:=0
def tw6895855941774003118:=0
def tw6436385913859057646:=0
def tw15201439954770534415:=0
def tw13146514151554410607:=0
def tw11002742189760297103:=0
def tw15830032059181117967:=0
def tw12137047318847905359:=0
def tw16886120406805791343:=0
def tw11796231948009701071:=0
def tw14747145727093143311:=0
def tw3879383331660714927:=0
def tw8988217334974878736:=0
def tw12994834562918497392:=0
def tw16018440270842900688:=0
def tw6462710278867381520:=0
def tw317341847253011856:=0
def tw4858029035607900624:=0
def tw8710464706835039728:=0
def tw4013093591498150480:=0
def tw6951935912091645648:=0
def tw13217740297144665840:=0
def tw18228289348148800336:=0
def tw6550022125387774864:=0
def tw11939372010118754192:=0
def tw17386563822920341456:=0
def tw11247821353083907313:=0
def tw9589373269517311889:=0
def tw2579069780304677906:=0
def tw10594176333932629490:=0
def tw14253948729343224722:=0
def tw3695677086193731667:=0
def tw18296782803967282387:=0
def tw2129919515351866643:=0
def tw17356631105929050547:=0
def tw5824504402377116179:=0
def tw3028618541604736595:=0
def tw3898672153898788499:=0
def tw3879004010491717331:=0
def tw16779280584312086259:=0
def tw15445801325804923859:=0
def tw1342453265821104628:=0
def tw9206345880263516756:=0
def tw16144347958715663124:=0
def tw13421952017176454068:=0
def tw14586081107364473877:=0
def tw10509163875161518197:=0
def tw10698057604180639957:=0
def tw9071979129299292469:=0
def tw5310095562132067733:=0
def tw872246694353012149:=0
def tw13226022654770089461:=0
def tw10174446787728304661:=0
def tw12705760307151725077:=0
def tw14632950744964482645:=0
def tw14395727718876023381:=0
def tw4466577453476096661:=0
def tw13974973313771299541:=0
def tw11378581769105350453:=0
def tw17482470120841708437:=0
def tw1496134293402403765:=0
def tw14315470241308795254:=0
def tw17525606843486789014:=0
def tw9051851678936767894:=0
def tw8915542250018628086:=0
def tw10297604927311136694:=0
def tw3069831929452941335:=0
def tw11507447023384957047:=0
def tw9438976110966107287:=0
def tw11143100371567496471:=0
def tw2001214083905545655:=0
def tw4172523334001465783:=0
def tw7526958185302430199:=0
def tw7675557318767034135:=0
def tw17811092860397209367:=0
def tw10417055518829201271:=0
def tw3956979294702132119:=0
def tw6839779298024752440:=0
def tw15659677503272270328:=0
def tw5205926208034491992:=0
def tw5298328991028285080:=0
def tw16564009565020754648:=0
def tw3934181409427994424:=0
def tw17959606398324524856:=0
def tw1754082834881791928:=0
def tw7700289208371896312:=0
def tw5021406084511269305:=0
def tw17500427898333279833:=0
def tw12316901196009594457:=0
def tw13979059837277657721:=0
def tw5241334952966790809:=0
def tw16622685369387349785:=0
def tw1958890065478160217:=0
def tw6240676634005523866:=0
def tw14913588810743347130:=0
def tw4581709162277486522:=0
def tw18127106121448398875:=0
def tw7182223616975406139:=0
def tw1265537752004623707:=0
def tw7034062521554682267:=0
def tw1837404786067183419:=0
def tw12429483658437083963:=0
def tw4420788550572893083:=0
def tw8477945130804630523:=0
def tw4700072241233801276:=0
def tw13426085062604192924:=0
def tw9284515057218804028:=0
def tw10564625240552199484:=0
def tw9664470620581500380:=0
def tw17813441995311668764:=0
def tw846931624842909628:=0
def tw7044987841490563165:=0
def tw10994834528086625405:=0
def tw14286875220590687389:=0
def tw10220288592486262941:=0
def tw14514051633020562717:=0
def tw9793874370277650941:=0
def tw15274132983990448957:=0
def tw3574293268708045757:=0
def tw3840084531678092253:=0
def tw10881519137859732510:=0
def tw12953701170073326622:=0
def tw4233254267863955550:=0
def tw5768412935360634110:=0
def tw11219012295004170494:=0
def tw14416049811030971710:=0
def tw2315580176803463486:=0
def tw2704310929093906910:=0
def tw3824411129283287582:=0
def tw16910777365126189598:=0
def tw11984968441827851806:=0
def tw17657522728480723614:=0
def tw13944053835819737886:=0
def tw13275291570874207038:=0
def tw10975832678194281310:=0
def tw2150394967950154590:=0
def tw5686308570468255678:=0
def tw5340247351146799038:=0
def tw6000318471258760158:=0
def tw12865152562330300543:=0
def tw9139930556517895391:=0
def tw11932137647455441183:=0
def tw3232793604741229887:=0
def tw13722209664238387551:=0
def tw7390398605564006943:=0
def tw15089672342153531999:=0
def tw2912706461343698655:=0
def tw11730930872796473119:=0
def tw5121303070300445663:=0
def tw3273928473945635148:=0
end PySem.W.Fast
open PySem PySem.W PyProof.Rows
set_option maxRecDepth 100000 in
set_option maxHeartbeats 0 in
theorem PySem.Challenge.cw_pagefolk_k44_entries_and_numbers_holds : PySem.Challenge.rw_pagefolk_k44_entries_and_numbers.Holds := by
 w_on;o_law;k_head;(case hw=>w_witness2)
 k_fill
 refine L2.sT (l:=PySem.Challenge.rw_pagefolk_k44_entries_and_numbers) (n:=63) (k:=12) (x:="_law_script") (CX:=L2.iO) (sp:=My.gN) (Ps:=[My.bA,My.a9]) My.PP My.MS My.Rq rfl (by decide) rfl ⟨rfl,by decide,by decide,rfl⟩ (fun w h Y=>PySem.W.km_in_of Y) (fun w h Y=>PySem.W.km_tabs_of Y) ?hC ?hnt ?hnl ?htb ?htp ?hms (by decide) ?F My.pL (fun _ _ _ _ z=>z)
 case hC=>exact fun w=>List.forall_mem_cons.mpr ⟨⟨"greatest_place",by simp,by kernel_rfl⟩,List.forall_mem_cons.mpr ⟨⟨"all_inner_parts",by simp,by kernel_rfl⟩,fun _ h=>nomatch h⟩⟩
 case htb=>(intro w;exact gw.mpr ⟨by kernel_rfl,gw.mpr ⟨by kernel_rfl,fun _ h=>nomatch h⟩⟩)
 case htp=>(intro w;exact gw.mpr ⟨(by refine ub ?_;kernel_rfl),gw.mpr ⟨(by refine ub ?_;kernel_rfl),fun _ h=>nomatch h⟩⟩)
 case hms=>(intro w;kernel_rfl)
 case hnt=>(intro w;kernel_rfl)
 case hnl=>(intro w;kernel_rfl)
 case F =>
  intro w mg fa h KX G hmg;refine' My.all_mk KX G hmg ?_ ?_ ?_ ?_ ?_ ?_ ?_ ?_ ?_ ?_ ?_ ?_ ?_ ?_ ?_ ?_ ?_ ?_ ?_ ?_ ?_ ?_ ?_ ?_ ?_ ?_ ?_ ?_ ?_ ?_ ?_ ?_ ?_ ?_ ?_ ?_ ?_ ?_ ?_ ?_ ?_ ?_ ?_ ?_ ?_ ?_ ?_ ?_ ?_ ?_ ?_ ?_ ?_ ?_ ?_ ?_ ?_ ?_ ?_ ?_ ?_ ?_ ?_ ?_ ?_ ?_ ?_ ?_ ?_ ?_ ?_
  all_goals try first|k_is|(refine' L2.FX.mk ?z1 ?z2 ?z3 ?z4;(case z1=>k_is);(case z2=>k_is);(case z3=>k_is);(case z4=>k_is))|(refine' L2.MD.mk ?z1 ?z2;(case z1=>k_is);(case z2=>kernel_rfl))|kernel_rfl|(refine' L2.LW.mk ?z1 ?z2 ?z3 ?z4 ?z5;(case z1=>k_is);(case z2=>k_is);(case z3=>k_is);(case z4=>k_is);(case z5=>k_is))|(refine' L2.FL.mk ?z1 ?z2 ?z3 ?z4 ?z5;(case z1=>k_is);(case z2=>k_is);(case z3=>k_is);(case z4=>k_is);(case z5=>kernel_rfl))